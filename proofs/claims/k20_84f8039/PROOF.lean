import PyProof.Rows.All
import Wide.All
import OpenK.AllK
import Wide.FinOn
import Lean
import PyProof.EqAt
import PyProof.EqKinds
import PyProof.TupleCall
import PyProof.DictCompW
import PyProof.AutoListH
import PyProof.EnumMake
import PyProof.ZipIter
import PyProof.AttrMissSeq
import KE.KDictOf
import PyProof.ReprLen
import PyProof.StrLawsRepr
import KE.KUnpackStar
import PyProof.DictWalks
import PyProof.Rows.DictUnroll
import PyProof.Rows.Range3
import PyProof.Rows.ChunkEnd
import PyProof.Rows.ChunkLeaf
import PyProof.StrCalls2
import PyProof.StrLawsTight
import PyProof.StrLawsChain
import PyProof.Rows.StrSplitJoin
import PyProof.Conv_int_bool
import PyProof.Rows.TupMore
import PyProof.StrLawsIn
import PyProof.Rows.StrCut
import PyProof.StrCalls
import PyProof.CallFns
import PyProof.FString5
import PyProof.NsCount
import PyProof.Rows.SetFrom
import PyProof.SetRoads
import KE.KRevIter
import PyProof.CollectIter
import PyProof.TupleOfGen
import KE.KItemsList
import PyProof.NeKinds
import PyProof.DictItems
import KE.KPairComp
import PyProof.SetKind
import PyProof.TupleKey
import PyProof.IsRules
import PyProof.DictValues
import PyProof.SumWalk
import PyProof.ConsumeWalk
import PyProof.SumAny
import PyProof.FactsAll.range_2
import PyProof.WalksMore
import PyProof.MinMaxWalk
import PyProof.SeqI3
import KE.KDictList
import KE.KDictLaws
import KE.KSortTup
import KE.KSetDisp
import KE.KStrOpen
import PyProof.NeData
import PySem.Challenge.RW_coilkind_k20_alike_or_parted
set_option Elab.async false
set_option linter.all false
set_option maxRecDepth 100000
section
open PySem PySem.Spec PyProof.Rows
abbrev Qa := @List.getElem?_eq_getElem
abbrev Qb := @List.getD_eq_getElem?_getD
abbrev Qc := @Heap.get?_push_of_some
abbrev Qd := @Heap.get?_push_size
abbrev Qe := @List.getElem_append_left
abbrev Qf := @List.getElem_append_right
abbrev Qg := @List.getElem?_append_left
abbrev Qh := @List.mem_cons_of_mem
abbrev Qi := @List.getElem_of_mem
abbrev Qj := @List.getElem_mem
abbrev Qk := @List.length_append
abbrev Ql := @List.length_map
abbrev Qm := @List.map_append
abbrev Qn := @List.map_map
abbrev Qo := @List.take_length
abbrev Qp := @List.mem_cons
abbrev Qq := @List.getElem?_map
abbrev Qr := @List.getElem_map
abbrev Qs := @List.take_add_one
abbrev Qt := @of_decide_eq_true
abbrev Qv := @decide_eq_true
abbrev Qw := @decide_eq_false
abbrev Qx := @Nat.lt_of_succ_lt
abbrev Qy := @Nat.le_refl
abbrev Qz := @Heap.lt_size
abbrev QA := @List.mem_nil_iff
abbrev QB := @Function.comp_def
abbrev QC := @List.mem_of_getElem?
abbrev QD := @Option.some.inj
abbrev QE := @Bool.false_xor
abbrev QG := @PyProof.Rows.boot_tuple
abbrev QH := @PySem.F.plainAttrs_list
abbrev QJ := @PySem.F.slot_list_append
abbrev QK := @PySem.F.type_list_append
abbrev QL := @sizeLine_eq
abbrev QQ := @List.append_assoc
abbrev QS := @List.eq_nil_of_length_eq_zero
abbrev QT := @wpAny_bind
abbrev QU := @wpAny_pure
abbrev Q0 := PySem.W.Frag
end
variable {us vs:List PySem.Value} {u:PySem.Value} {a b it D p C l:PySem.Addr} {h h' base:PySem.Heap} {P prog:PySem.Program} {w:PySem.World} {α:Type} {x name z:PySem.Str} {pins:List (PySem.Addr×PySem.Obj)} {s:PySem.Shared} {t' i j n ep:Nat} {ch fp:List PySem.Addr} {N ns ps own N' ws n1 n2:List PySem.Str} {A:PySem.Around} {E Q:PySem.Value->PySem.Shared->Prop} {e tg:PySem.Expr} {op:PySem.CmpOp} {es:Array (Int×PySem.Value)} {body:List PySem.Stmt} {mA mg:PySem.Str->Option PySem.Value} {R:PySem.Result->PySem.Shared->Prop} {kw:List (PySem.Str×PySem.Value)} {env:PySem.Env} {fd:PySem.FuncData} {apos cpos:PySem.Pos} {sc:PySem.Scope} {T:String} {XP:(PySem.Str->Option PySem.Value)->PySem.Heap->Prop} {idx:List Nat} {cl:List (PySem.Str×PySem.Addr)} {ifs Bw:List PySem.Expr} {G:Array PySem.GenState->Array PySem.GenState->Prop} {ss:List (List PySem.Str)} {tr:List (Option (Nat×List PySem.Str))}
theorem hdn {p:Prop} (h:∀ G:Prop,(p->G)->G):p:=h p id
namespace L2
open PySem PySem.Spec PyProof.Rows
abbrev Key:=Sum Int Str
end L2
variable {xs:List (List L2.Key×PySem.Addr×PySem.Value)} {ks:List L2.Key} {az:List (List L2.Key×PySem.Addr)} {ji:List (List L2.Key)}
namespace L2
open PySem PySem.Spec PyProof.Rows
def CB:Key->Value->Bool
 | .inl k,v=>Value.isInt k v
 | .inr x,v=>Value.isStrOf x v
def DU (w:World):Key->Int
 | .inl k=>hashInt k
 | .inr x=>hashStr w x
theorem bL:∀ {k:Key} {v:Value},CB k v=true->(∃ i t,k=Sum.inl i/\v=Value.int i t)\/(∃ x t,k=Sum.inr x/\v=Value.str x t)
 | .inl i,v,h=>by
  obtain ⟨t,e⟩:=Value.isInt_shape (k:=i) (v:=v) h
  exact .inl ⟨i,t,rfl,e⟩
 | .inr x,v,h=>by
  obtain ⟨t,e⟩:=Value.isStrOf_shape (x:=x) (v:=v) h
  exact .inr ⟨x,t,rfl,e⟩
theorem wN (i:Int) (t:Tok):CB (.inl i) (.int i t)=true:=by simp [CB,Value.isInt]
theorem wB (x:Str) (t:Tok):CB (.inr x) (.str x t)=true:=by simp [CB,Value.isStrOf]
theorem Rb (a b:Int):decide ((Sum.inl a:Key)=Sum.inl b)=(a==b):=by
 by_cases e:a=b
 ·subst e;simp
 ·have h:¬(Sum.inl a:Key)=Sum.inl b:=fun q=>e (Sum.inl.inj q)
  rw [Qw h]
  exact (beq_eq_false_iff_ne.mpr e).symm
theorem Rc (a b:Str):decide ((Sum.inr a:Key)=Sum.inr b)=decide (a=b):=by
 by_cases e:a=b
 ·subst e;simp
 ·have h:¬(Sum.inr a:Key)=Sum.inr b:=fun q=>e (Sum.inr.inj q)
  rw [Qw h,Qw e]
theorem Rf (a:Int) (b:Str):decide ((Sum.inl a:Key)=Sum.inr b)=false:=Qw (fun q=>nomatch q)
theorem Rg (a:Str) (b:Int):decide ((Sum.inr a:Key)=Sum.inl b)=false:=Qw (fun q=>nomatch q)
def cf (prog:Program) (w:World):PySem.KeyKind prog w Key where
 is:=CB
 hash:=DU w
 inj:=fun v a b ha hb=>by
  rcases bL ha with ⟨i,t,rfl,rfl⟩ | ⟨x,t,rfl,rfl⟩
  ·rcases bL hb with ⟨j,u,rfl,e⟩ | ⟨y,u,rfl,e⟩
   ·injection e with e1 _;rw [e1]
   ·exact nomatch e
  ·rcases bL hb with ⟨j,u,rfl,e⟩ | ⟨y,u,rfl,e⟩
   ·exact nomatch e
   ·injection e with e1 _;rw [e1]
 byValue:=fun k v h=>by
  rcases bL h with ⟨i,t,rfl,rfl⟩ | ⟨x,t,rfl,rfl⟩<;>rfl
 pyHash:=fun hv h=>by
  rcases bL hv with ⟨i,t,rfl,rfl⟩ | ⟨x,t,rfl,rfl⟩
  ·exact wpAny_pyHash_int h
  ·exact wpAny_pyHash_str h
 eqBool:=fun hu hv h=>by
  rcases bL hu with ⟨i,t,rfl,rfl⟩ | ⟨x,t,rfl,rfl⟩
  ·rcases bL hv with ⟨j,u,rfl,rfl⟩ | ⟨y,u,rfl,rfl⟩
   ·rw [Rb] at h;exact wpAny_eqBool_int h
   ·rw [Rf] at h;exact SeqAt.EqAt.int_str i t y u _ _ _ _ h
  ·rcases bL hv with ⟨j,u,rfl,rfl⟩ | ⟨y,u,rfl,rfl⟩
   ·rw [Rg] at h;exact SeqAt.EqAt.str_int x t j u _ _ _ _ h
   ·rw [Rc] at h;exact wpAny_eqBool_str h
 «strs»:=fun k x t v h=>by
  rcases bL h with ⟨i,u,rfl,e⟩ | ⟨y,u,rfl,e⟩
  ·exact nomatch e
  ·injection e with e1 _
   subst e1
   cases v<;>rfl
theorem rD (prog:Program) (w:World) (i:Int) (t:Tok):(cf prog w).is (.inl i) (.int i t)=true:=wN i t
theorem gB (prog:Program) (w:World) (x:Str) (t:Tok):(cf prog w).is (.inr x) (.str x t)=true:=wB x t
inductive V where
 | ai | bl (b:Bool) | int (i:Int) | str (x:Str) | rj (b:Array UInt8) | Bx (b:UInt64) | ref (a:Addr) | ty (n:String)
 deriving DecidableEq
def RelV:V->Value->Prop
 | .ai,u=>u=Value.none
 | .bl b,u=>u=Value.bool b
 | .int i,u=>∃ t,u=Value.int i t
 | .str x,u=>∃ t,u=Value.str x t
 | .rj b,u=>∃ t,u=Value.bytes b t
 | .Bx b,u=>∃ t,u=Value.float b t
 | .ref a,u=>u=Value.ref a
 | .ty n,u=>u=Value.type n
abbrev be:List V->List Value->Prop:=Paired RelV
theorem be.length {xs:List V} {us:List Value} (r:be xs us):xs.length=us.length:=Paired.length r
theorem be.get:∀ {xs:List V} {us:List Value} {i:Nat} {x:V},be xs us->xs[i]? =some x->∃ u,us[i]? =some u/\RelV x u
 | _,_,_,_,.nil,e=>by simp at e
 | _,_,0,_,.cons r _,e=>by simp at e;subst e;exact ⟨_,rfl,r⟩
 | _,_,i+1,x,.cons _ t,e=>by
  obtain ⟨u,h1,h2⟩:=be.get (i:=i) (x:=x) t (by simpa using e)
  exact ⟨u,by simpa using h1,h2⟩
theorem be.set {x:V} {u:Value} (r:RelV x u):∀ {xs:List V} {us:List Value} (i:Nat),be xs us->be (xs.set i x) (us.set i u)
 | _,_,_,.nil=>.nil
 | _,_,0,.cons _ t=>.cons r t
 | _,_,i+1,.cons q t=>.cons q (be.set r i t)
theorem be.append:∀ {xs ys:List V} {us ws:List Value},be xs us->be ys ws->be (xs++ys) (us++ws)
 | _,_,_,_,.nil,s=>s
 | _,_,_,_,.cons r t,s=>.cons r (be.append t s)
theorem be.take:∀ {xs:List V} {us:List Value} (n:Nat),be xs us->be (xs.take n) (us.take n)
 | _,_,0,_=>.nil
 | _,_,_+1,.nil=>.nil
 | _,_,n+1,.cons r t=>.cons r (be.take n t)
theorem be.drop:∀ {xs:List V} {us:List Value} (n:Nat),be xs us->be (xs.drop n) (us.drop n)
 | _,_,0,r=>r
 | _,_,_+1,.nil=>.nil
 | _,_,n+1,.cons _ t=>be.drop n t
def om:Option V->Option Value->Prop
 | some v,some u=>RelV v u
 | none,none=>True
 | _,_=>False
def KV {κ:Type}:List (κ×V)->List (κ×Value)->Prop:=Paired fun (p:κ×V) (q:κ×Value)=>p.1=q.1/\RelV p.2 q.2
def kV:Key->V
 | .inl i=>.int i
 | .inr x=>.str x
inductive HO where
  | lst (xs:List V)
  | tup (xs:List V)
  | dK (kvs:List (Key×V)) | dT (kvs:List (List Key×V))
  | set (S:Int->Bool) (n:Nat)
  | ins (C dx:Addr) (fs:List (Str×V))
  | own (x:Addr)
  | xd (fs:List (Str×V))
  | met (f x:Addr)
  | Ic (lo hi:Int)
  | au (o:Obj) (u:HO)
  | By (ps:Array Value)
  | ext (φ:Heap->Prop)
abbrev Hp:=Addr->Option HO
end L2
variable {H H' H0:L2.Hp} {o:L2.HO}
namespace L2
open PySem PySem.Spec PyProof.Rows
def upd (H:Hp) (a:Addr) (o:HO):Hp:=fun b=>if b=a then some o else H b
theorem aA:upd H a o a=some o:=by unfold upd;rw [if_pos rfl]
theorem aE (h:b≠a):upd H a o b=H b:=by unfold upd;rw [if_neg h]
theorem kO {u:HO}:upd (upd H a o) a u=upd H a u:=by
 funext b;unfold upd;split<;>rfl
theorem aO (h:H a=some o) (h':H b=none):a≠b:=by
 intro e;subst e;rw [h] at h';cases h'
def BA (h:Heap) (a:Addr):Prop:=∀ o,h.get? a=some o->o.dict=none
theorem BA.new {ob:Obj} (h0:ob.isFreed=false) (hd:ob.dict=none):BA (h.push ob) h.objs.size:=fun o q=>by rw [Qd _ h0] at q;cases q;exact hd
def aj (H:Hp) (b:Addr) (ys:List V):Prop:=H b=some (.tup ys)\/∃ o,H b=some (.au o (.tup ys))
theorem aj.upd {H:Hp} {b a:Addr} {ys:List V} {o:HO} (r:aj H b ys) (ne:∀ u,H b=some u->b≠a):aj (L2.upd H a o) b ys:=by
 rcases r with r | ⟨ob,r⟩
 ·exact .inl (by rw [aE (ne _ r)];exact r)
 ·exact .inr ⟨ob,by rw [aE (ne _ r)];exact r⟩
section
variable (P:Program) (w:World)
def bx (H:Hp) (h:Heap) (a:Addr):HO->Prop
 | .lst xs=>xs.length<=sizeLine/\∃ (its:List Value) (n:Nat),be xs its/\h.get? a=some {cls:=.type "list",data:=.seq its.toArray n}
 | .tup xs=>(xs.length<=sizeLine/\BA h a)/\∃ its:List Value,be xs its/\IsTup h a its.toArray
 | .dK kvs=>kvs.length<=sizeLine/\(a==sysModules)=false/\∃ vs,KV kvs vs/\h.DictOf (cf P w) a vs
 | .dT kvs=>kvs.length<=sizeLine/\(a==sysModules)=false/\∃ xs:List (List Key×Addr×Value),
   Paired (fun (p:List Key×V) (q:List Key×Addr×Value)=>p.1=q.1/\aj H q.2.1 (p.1.map kV)/\RelV p.2 q.2.2) kvs xs/\
   ∃ o es ep,h.get? a=some o/\o.ExactDict/\o.data=.dict es ep/\es.toList=xs.map (entryOfKey (tupleKind (cf P w)))/\(xs.map (·.1)).Nodup
 | .set S n=>h.SetOf (intKind P w) a S n
 | .ins C dx fs=>H dx=some (.own a)/\fs.length<=1000/\dx≠a/\h.get? a=some (PySem.W.instObj C dx)/\
   ∃ mA,h.Ns1 dx mA/\(∀ f,om (fs.lookup f) (mA f))/\PySem.Within mA (fs.map (·.1))
 | .own _=>∃ o,h.get? a=some o
 | .xd fs=>∃ mA,h.Ns1 a mA/\∀ f,om (fs.lookup f) (mA f)
 | .Ic lo hi=>∃ t u v,h.get? a=some {cls:=.type "range",data:=.fields #[.int lo t,.int hi u,.int 1 v]}
 | .au o u=>h.get? a=some o/\bx H h a u
 | .By ps=>h.get? a=some {cls:=.none,data:=.fields ps}
 | .met f x=>h.get? a=some (PySem.W.methodObj (.ref f) (.ref x))
 | .ext φ=>φ h/\(∃ o,h.get? a=some o)/\∀ h1 h2:Heap,φ h1->(∀ o,h1.get? a=some o->h2.get? a=some o)->φ h2
def fh (H:Hp) (h:Heap):Prop:=∀ a o,H a=some o->bx P w H h a o
end
theorem bx.lt (x:bx P w H h a o):a < h.objs.size:=by
 cases o with
 | lst xs=>obtain ⟨_,_,_,_,e⟩:=x;exact Qz e
 | tup xs=>obtain ⟨_,_,_,p⟩:=x;exact p.lt
 | dK kvs=>obtain ⟨_,_,_,_,o,_,_,e,_⟩:=x;exact Qz e
 | dT kvs=>obtain ⟨_,_,_,_,o,_,_,e,_⟩:=x;exact Qz e
 | set S n=>obtain ⟨o,_,_,_,e,_⟩:=x;exact Qz e
 | ins C dx fs=>obtain ⟨_,_,_,e,_⟩:=x;exact Qz e
 | own y=>obtain ⟨_,e⟩:=x;exact Qz e
 | xd fs=>obtain ⟨_,⟨_,_,_,e,_⟩,_⟩:=x;exact Qz e
 | Ic lo hi=>obtain ⟨_,_,_,e⟩:=x;exact Qz e
 | au ob u=>obtain ⟨e,_⟩:=x;exact Qz e
 | By ps=>exact Qz (show h.get? a=some _ from x)
 | met f y=>exact Qz (show h.get? a=some _ from x)
 | ext φ=>obtain ⟨_,⟨_,e⟩,_⟩:=x;exact Qz e
theorem Paired.Ie {α β:Type} {F G:α->β->Prop}:∀ {l₁:List α} {l₂:List β},Paired F l₁ l₂->(∀ a b,F a b->G a b)->Paired G l₁ l₂
 | _,_,.nil,_=>.nil
 | _,_,.cons r t,f=>.cons (f _ _ r) (Paired.Ie t f)
theorem bx.stay (x:bx P w H h a o) (k:∀ b u,(b=a\/H b=some (.own a))->h.get? b=some u->h'.get? b=some u)
  (ho:∀ b,H b=some (.own a)->H' b=some (.own a)) (ht:∀ b xs,aj H b xs->aj H' b xs):bx P w H' h' a o:=by
 induction o with
 | lst xs=>obtain ⟨z,its,n,r,e⟩:=x;exact ⟨z,its,n,r,k _ _ (.inl rfl) e⟩
 | tup xs=>obtain ⟨⟨z,nd⟩,its,r,ob,e,c⟩:=x;exact ⟨⟨z,fun o q=>by rw [k _ _ (.inl rfl) e] at q;cases q;exact nd _ e⟩,its,r,ob,k _ _ (.inl rfl) e,c⟩
 | dK kvs=>obtain ⟨z,y,vs,r,ob,es,ep,e,c⟩:=x;exact ⟨z,y,vs,r,ob,es,ep,k _ _ (.inl rfl) e,c⟩
 | dT kvs=>
  obtain ⟨z,y,xs,r,ob,es,ep,e,c⟩:=x
  exact ⟨z,y,xs,Paired.Ie r fun p q z=>⟨z.1,ht _ _ z.2.1,z.2.2⟩,ob,es,ep,k _ _ (.inl rfl) e,c⟩
 | set S n=>obtain ⟨ob,es,ep,t,e,c⟩:=x;exact ⟨ob,es,ep,t,k _ _ (.inl rfl) e,c⟩
 | ins C dx fs=>
  obtain ⟨d,z,ne,e,mA,⟨od,es,ep,e2,c⟩,r⟩:=x
  exact ⟨ho _ d,z,ne,k _ _ (.inl rfl) e,mA,⟨od,es,ep,k _ _ (.inr d) e2,c⟩,r⟩
 | own y=>obtain ⟨ob,e⟩:=x;exact ⟨ob,k _ _ (.inl rfl) e⟩
 | xd fs=>obtain ⟨mA,⟨od,es,ep,e,c⟩,r⟩:=x;exact ⟨mA,⟨od,es,ep,k _ _ (.inl rfl) e,c⟩,r⟩
 | Ic lo hi=>obtain ⟨t,u,v,e⟩:=x;exact ⟨t,u,v,k _ _ (.inl rfl) e⟩
 | au ob u ih=>obtain ⟨e,q⟩:=x;exact ⟨k _ _ (.inl rfl) e,ih q⟩
 | By ps=>
  have e:h.get? a=some {cls:=.none,data:=.fields ps}:=x
  show h'.get? a=some {cls:=.none,data:=.fields ps}
  exact k a _ (.inl rfl) e
 | met f y=>
  have e:h.get? a=some (PySem.W.methodObj (.ref f) (.ref y)):=x
  show h'.get? a=some (PySem.W.methodObj (.ref f) (.ref y))
  exact k a _ (.inl rfl) e
 | ext φ=>obtain ⟨p,⟨o,e⟩,st⟩:=x;exact ⟨st _ _ p fun o q=>k _ _ (.inl rfl) q,⟨o,k _ _ (.inl rfl) e⟩,st⟩
theorem fh.lt (x:fh P w H h) (e:H a=some o):a < h.objs.size:=(x a o e).lt
theorem fh.fresh (x:fh P w H h) (e:h.objs.size<=a):H a=none:=by
 cases q:H a with
 | none=>rfl
 | some u=>exact absurd (Nat.lt_of_lt_of_le (x.lt q) e) (Nat.lt_irrefl _)
theorem fh.kept (x:fh P w H h) (k:∀ b u,h.get? b=some u->h'.get? b=some u):fh P w H h':=fun a o e=>
 (x a o e).stay (fun b u _ q=>k b u q) (fun _ q=>q) fun _ _ q=>q
theorem fh.laid (x:fh P w H h) (k:∀ b u,h.get? b=some u->h'.get? b=some u) (hp:h.objs.size<=a) (new:bx P w (upd H a o) h' a o):fh P w (upd H a o) h':=fun b u e=>by
 have hn:=x.fresh hp
 by_cases hb:b=a
 ·subst hb;rw [aA] at e;cases e;exact new
 ·rw [aE hb] at e
  exact (x b u e).stay (fun c v _ q=>k c v q) (fun c q=>by rw [aE (aO q hn)];exact q) fun c xs q=>q.upd fun u hu=>aO hu hn
def Rd (H:Hp) (a:Addr) (u:HO):Prop:=H a=some u\/∃ o,H a=some (.au o u)
theorem Rd.ok {u:HO} (r:Rd H a u) (x:fh P w H h):bx P w H h a u:=by
 rcases r with r | ⟨o,r⟩
 ·exact x a u r
 ·obtain ⟨_,q⟩:=x a _ r
  exact q
def DW:Option HO->Prop
 | some (.lst _)=>True
 | some (.dK _)=>True
 | some (.dT _)=>True
 | some (.set _ _)=>True
 | some (.ins _ _ _)=>True
 | some (.ext _)=>True
 | _=>False
section
variable {x e:Addr} {o':HO}
theorem fh.write (ok:fh P w H h) (mu:DW (H x)) (he:e=x\/H e=some (.own x)) (k:∀ b u,b≠e->h.get? b=some u->h'.get? b=some u) (CC:∃ u,h'.get? e=some u)
  (new:bx P w (upd H x o') h' x o'):fh P w (upd H x o') h':=fun b u q=>by
 have LH:∀ c y,H c=some (.own y)->c≠x:=fun c y r z=>by subst z;rw [r] at mu;exact mu
 have aab:∀ c xs,H c=some (.tup xs)->c≠x:=fun c xs r z=>by subst z;rw [r] at mu;exact mu
 by_cases hb:b=x
 ·subst hb;rw [aA] at q;cases q;exact new
 ·rw [aE hb] at q
  by_cases BB:b=e
  ·have q':H b=some (.own x):=by
    rcases he with z | z
    ·exact absurd (BB.trans z) hb
    ·rw [BB];exact z
   rw [q] at q';cases q'
   obtain ⟨v,hv⟩:=CC
   exact ⟨v,by rw [BB];exact hv⟩
  ·refine (ok b u q).stay (fun c v hc r=>k c v ?_ r) (fun c r=>by rw [aE (LH c b r)];exact r) fun c xs r=>r.upd fun _ _ z=>by
    subst z
    rcases r with r | ⟨_,r⟩<;>(rw [r] at mu;exact mu)
   rcases hc with rfl | hc
   ·exact BB
   ·rintro rfl
    rcases he with z | z
    ·exact LH c b hc z
    ·rw [hc] at z;cases z;exact hb rfl
end
structure Un (fs ex:List Addr) (H H':Hp) (h h':Heap):Prop where
 keep:∀ b o,h.get? b=some o->H b=none->b ∉ fs->b ∉ ex->h'.get? b=some o
 slot:∀ b o,h.get? b=some o->H b=none->b∈fs->b ∉ ex->∃ sl,h'.get? b=some {o with slots:=sl}
 free:∀ b o,h.get? b=some o->H b=none->b ∉ ex->H' b=none
 there:∀ b o,h.get? b=some o->b ∉ ex->∃ o',h'.get? b=some o'
 tups:∀ b xs,H b=some (.tup xs)->H' b=some (.tup xs)
 vh:∀ b o u,H b=some (.au o u)->H' b=some (.au o u)
 wm:∀ b ps,H b=some (.By ps)->∃ more,H' b=some (.By (ps++more))
section
variable {fs zl ex ex':List Addr} {H1 H2:Hp} {h1 h2:Heap} {x e:Addr}
theorem Un.any (u:Un fs ex H H1 h h1) {ob:Obj} (q:h.get? b=some ob) (n:H b=none) (hx:b ∉ ex):∃ sl,h1.get? b=some {ob with slots:=sl}:=by
 by_cases hb:b∈fs
 ·exact u.slot b ob q n hb hx
 ·exact ⟨ob.slots,u.keep b ob q n hb hx⟩
theorem Un.trans (a:Un fs ex H H1 h h1) (b:Un fs ex H1 H2 h1 h2):Un fs ex H H2 h h2 where
 keep:=fun c ob q n hc hx=>b.keep c ob (a.keep c ob q n hc hx) (a.free c ob q n hx) hc hx
 slot:=fun c ob q n hc hx=>by
  obtain ⟨sl,e1⟩:=a.slot c ob q n hc hx
  obtain ⟨Ig,e2⟩:=b.slot c _ e1 (a.free c ob q n hx) hc hx
  exact ⟨Ig,e2⟩
 free:=fun c ob q n hx=>by
  obtain ⟨o',e1⟩:=a.there c ob q hx
  exact b.free c o' e1 (a.free c ob q n hx) hx
 there:=fun c ob q hx=>by
  obtain ⟨o',e1⟩:=a.there c ob q hx
  exact b.there c o' e1 hx
 tups:=fun c xs q=>b.tups c xs (a.tups c xs q)
 vh:=fun c ob xs q=>b.vh c ob xs (a.vh c ob xs q)
 wm:=fun c ps q=>by
  obtain ⟨m1,e1⟩:=a.wm c ps q
  obtain ⟨m2,e2⟩:=b.wm c _ e1
  exact ⟨m1++m2,by rw [e2,Array.append_assoc]⟩
theorem Un.kept (k:∀ b u,h.get? b=some u->h'.get? b=some u):Un fs ex H H h h':=
 ⟨fun b ob q _ _ _=>k b ob q,fun b ob q _ _ _=>⟨ob.slots,k b ob q⟩,fun _ _ _ n _=>n,fun b ob q _=>⟨ob,k b ob q⟩,fun _ _ q=>q,fun _ _ _ q=>q,fun _ ps q=>⟨#[],by rw [q];simp⟩⟩
theorem Un.refl:Un fs ex H H h h:=Un.kept fun _ _ q=>q
theorem Un.laid (k:∀ b u,h.get? b=some u->h'.get? b=some u) (hp:h.objs.size<=a) (hn:H a=none):Un fs ex H (upd H a o) h h' where
 keep:=fun b u q _ _ _=>k b u q
 slot:=fun b u q _ _ _=>⟨u.slots,k b u q⟩
 free:=fun b u q n _=>by rw [aE (Nat.ne_of_lt (Nat.lt_of_lt_of_le (Qz q) hp))];exact n
 there:=fun b u q _=>⟨u,k b u q⟩
 tups:=fun b xs q=>by rw [aE (aO q hn)];exact q
 vh:=fun b u xs q=>by rw [aE (aO q hn)];exact q
 wm:=fun b ps q=>⟨#[],by rw [aE (aO q hn),q];simp⟩
theorem Un.write (mu:DW (H x)) (he:e=x\/H e=some (.own x)) (k:∀ b u,b≠e->h.get? b=some u->h'.get? b=some u) (CC:∃ u,h'.get? e=some u):Un fs ex H (upd H x o) h h':=by
 have hx:∀ b,H b=none->b≠x:=fun b n z=>by subst z;rw [n] at mu;exact mu
 have hb:∀ b,H b=none->b≠e:=fun b n z=>by
  subst z
  rcases he with r | r
  ·exact hx b n r
  ·rw [n] at r;cases r
 have hm:∀ b u,H b=some u->¬DW (some u)->b≠x:=fun b u q nm z=>by subst z;rw [q] at mu;exact nm mu
 refine ⟨fun b u q n _ _=>k b u (hb b n) q,fun b u q n _ _=>⟨u.slots,k b u (hb b n) q⟩,fun b u q n _=>by rw [aE (hx b n)];exact n,fun b u q _=>?_,
  fun b xs q=>by rw [aE (hm b _ q fun z=>z)];exact q,fun b u xs q=>by rw [aE (hm b _ q fun z=>z)];exact q,fun b ps q=>⟨#[],by rw [aE (hm b _ q fun z=>z),q];simp⟩⟩
 by_cases BB:b=e
 ·subst BB;exact CC
 ·exact ⟨u,k b u BB q⟩
end
def mj (h:Heap) (H:Hp):List Addr:=(List.range h.objs.size).filter fun a=>(H a).isSome
def zm (h:Heap) (H:Hp):Heap:=PySem.W.hideAll h (mj h H)
theorem vZ (h:Heap) (H:Hp):(zm h H).objs.size=h.objs.size:=PySem.W.hideAll_size _ _
theorem xU {o:Obj} (e:h.get? b=some o) (n:H b=none):(zm h H).get? b=some o:=
 PySem.W.hideAll_get _ e fun hm=>by
  have q:(H b).isSome=true:=(List.mem_filter.mp hm).2
  rw [n] at q;simp at q
theorem Rh {o:Obj} (e:(zm h H).get? b=some o):h.get? b=some o/\H b=none:=by
 have e':h.get? b=some o:=PySem.W.of_hideAll (mj h H) e
 refine ⟨e',?_⟩
 cases q:H b with
 | none=>rfl
 | some x=>
  have hm:b∈mj h H:=List.mem_filter.mpr ⟨List.mem_range.mpr (Qz e'),by simp [q]⟩
  have z:(zm h H).get? b=none:=PySem.W.hideAll_none (mj h H) hm
  rw [z] at e;cases e
structure Mod (K:Q0) (mg:Str->Option Value) (base:Heap):Prop where
 AH:K.In base
 glob:base.Ns mainGlobals mg
 blt:∃ mb,base.Ns builtinsNs mb/\∀ x:Str,x≠"__name__"->mb x=bootBuiltins x
 nolimit:base.NoLimit
structure Cx where
 prog:Program
 w:World
 K:Q0
 mg:Str->Option Value
 base:Heap
 A:Around
 N:List Str
 s₀:Shared
 H₀:Hp
 env:Env
 outer:List Env
 stack:List Env
 ex:List Addr
 fn:Str->Bool
 calm:Bool
 pn:List (Addr×Obj)
 xe:Value->Shared->Prop
end L2
variable {X:L2.Cx}
namespace L2
open PySem PySem.Spec PyProof.Rows
def mq (l:List Env):List Addr:=l.filterMap (·.frame)
abbrev Cx.fs (X:Cx):List Addr:=mq X.outer
def CD (sc:Scope) (x:Str):Prop:=sc.names.lookup x=some .local\/sc.names.lookup x=some .cell\/sc.names.lookup x=some .free
def Loc (sc:Scope) (x:Str):Prop:=sc.names.lookup x=some .local\/sc.names.lookup x=some .cell
def Look (env:Env) (h:Heap) (m:Str->Option Value) (x:Str) (u:Value):Prop:=
 (env.kindOf x=some .local/\m x=some u)\/((env.kindOf x=some .cell\/env.kindOf x=some .free)/\∃ c,env.cells.lookup x=some c/\h.IsCell c (some u))
structure Cx.Ok (X:Cx):Prop where
 mod:Mod X.K X.mg X.base
 kind:X.env.scope.kind=.function
 glob:X.env.globals=mainGlobals
 blt:X.env.builtins=builtinsNs
 above:X.s₀.heap.objs.size<=X.env.locals
 inj:∀ x y c,X.env.cells.lookup x=some c->X.env.cells.lookup y=some c->x=y
 has:∀ x,(X.env.kindOf x=some .cell\/X.env.kindOf x=some .free)->∃ c,X.env.cells.lookup x=some c
 DY:∀ x c,X.fn x=true->X.env.cells.lookup x=some c->X.s₀.heap.objs.size<=c
 hd:X.calm=true->X.A.handled=none
 frames:X.A.frames=some X.stack
 F1:X.stack=X.outer\/(X.stack=X.env::X.outer/\X.env.frame=some X.env.locals)
 LI:∀ b∈X.ex,b≠X.env.locals/\∀ x c,X.env.cells.lookup x=some c->c≠b
 bs:∀ b o,X.base.get? b=some o->X.s₀.heap.get? b=some o/\X.H₀ b=none
 zo:X.base.objs.size<=X.s₀.heap.objs.size
 DZ:∀ b o,X.base.get? b=some o->b ∉ X.ex
 F2:∀ b∈X.ex,b ∉ X.fs
 vj:X.s₀.heap.FunFrames X.base X.outer
 BC:∀ b∈X.fs,X.H₀ b=none
structure Inv (X:Cx) (pins:List (Addr×Obj)) (σ:List (Option V)) (H:Hp) (s:Shared):Prop where
 ok:X.Ok
 os:s.os=X.s₀.os
 bare:AllBare s.gens
 base:Un X.fs X.ex X.H₀ H X.s₀.heap s.heap
 loc:∃ m,s.heap.Ns X.env.locals m/\∀ (i:Nat) (x:Str) (v:V),X.N[i]? =some x->σ[i]? =some (some v)->CD X.env.scope x->∃ u,RelV v u/\Look X.env s.heap m x u
 cell:∀ x c,X.env.cells.lookup x=some c->∃ v,s.heap.IsCell c v
 free:H X.env.locals=none
 yn:∀ x c,X.env.cells.lookup x=some c->H c=none
 pin:∀ p∈X.pn++pins,s.heap.get? p.1=some p.2/\H p.1=none/\p.1≠X.env.locals/\p.1 ∉ X.fs/\∀ v,p.2.data≠.cell v
 hok:fh X.prog X.w H s.heap
 len:σ.length=X.N.length
section
variable {σ:List (Option V)}
theorem Cx.Ok.Ri (ok:X.Ok) {o:Obj} (e:X.base.get? b=some o):b ∉ X.fs:=fun hb=>by
 have:=(ok.vj.mem hb).1
 rw [e] at this;cases this
theorem Inv.bs (I:Inv X pins σ H s):∀ b o,X.base.get? b=some o->s.heap.get? b=some o/\H b=none:=fun b o e=>
 ⟨I.base.keep b o (I.ok.bs b o e).1 (I.ok.bs b o e).2 (I.ok.Ri e) (I.ok.DZ b o e),I.base.free b o (I.ok.bs b o e).1 (I.ok.bs b o e).2 (I.ok.DZ b o e)⟩
theorem Inv.bk (I:Inv X pins σ H s):∀ b o,X.base.get? b=some o->s.heap.get? b=some o:=fun b o e=>(I.bs b o e).1
theorem Inv.mod (I:Inv X pins σ H s):Mod X.K X.mg X.base:=I.ok.mod
theorem Inv.iw (I:Inv X pins σ H s):X.K.In s.heap:=I.ok.mod.AH.keeps I.bk
theorem Inv.lt (I:Inv X pins σ H s):X.env.locals < s.heap.objs.size:=let ⟨_,hn,_⟩:=I.loc;hn.lt
theorem Inv.sz (I:Inv X pins σ H s):X.s₀.heap.objs.size<=s.heap.objs.size:=Nat.le_trans I.ok.above (Nat.le_of_lt I.lt)
theorem Inv.Rj (I:Inv X pins σ H s) (h:s.heap.objs.size<=a):a ∉ X.fs:=fun hb=>by
 obtain ⟨_,o,ho,_⟩:=I.ok.vj.mem hb
 exact absurd (Nat.lt_of_lt_of_le (Qz ho) (Nat.le_trans I.sz h)) (Nat.lt_irrefl _)
theorem Inv.BD (I:Inv X pins σ H s):∀ x c,X.env.cells.lookup x=some c->c≠X.env.locals:=fun x c e z=>by
 obtain ⟨v,o,ho,hd⟩:=I.cell x c e
 obtain ⟨m,⟨o',es,ep,wo,Ih,_⟩,_⟩:=I.loc
 rw [z,wo] at ho;cases ho;rw [Ih] at hd;cases hd
theorem Inv.vj (I:Inv X pins σ H s):s.heap.FunFrames X.base X.outer:=by
 have all:∀ (l:List Env),(∀ b∈mq l,b∈X.fs)->X.s₀.heap.FunFrames X.base l->s.heap.FunFrames X.base l:=by
  intro l
  induction l with
  | nil=>intro _ _;trivial
  | cons env r ih=>
   intro hs hl
   obtain ⟨hk,⟨L,o,hf,hn,ho,hd⟩,hr⟩:=hl
   have hL:L∈X.fs:=hs L (by unfold mq;rw [List.filterMap_cons,hf];exact List.mem_cons_self)
   obtain ⟨sl,e⟩:=I.base.slot L o ho (I.ok.BC L hL) hL fun z=>I.ok.F2 L z hL
   exact ⟨hk,⟨L,_,hf,hn,e,hd⟩,ih (fun b hb=>hs b (by unfold mq;rw [List.filterMap_cons,hf];exact Qh _ hb)) hr⟩
 exact all X.outer (fun _ hb=>hb) I.ok.vj
theorem Inv.stack (I:Inv X pins σ H s):s.heap.FunFrames X.base X.stack:=by
 rcases I.ok.F1 with e | ⟨e,hf⟩
 ·rw [e];exact I.vj
 ·rw [e]
  obtain ⟨m,hn,_⟩:=I.loc
  refine .cons (by rw [I.ok.kind];decide) hf hn ?_ I.vj
  exact Heap.get?_none_of_le (Nat.le_trans I.ok.zo I.ok.above)
theorem Inv.BE (I:Inv X pins σ H s):∀ b∈mq X.stack,b∈X.env.locals::X.fs:=fun b hb=>by
 rcases I.ok.F1 with e | ⟨e,hf⟩
 ·rw [e] at hb;exact Qh _ hb
 ·rw [e] at hb
  unfold mq at hb
  rw [List.filterMap_cons,hf] at hb
  exact hb
theorem Inv.LJ (I:Inv X pins σ H s):∀ b∈mq X.stack,H b=none:=fun b hb=>by
 rcases Qp.mp (I.BE b hb) with e | hb
 ·rw [e];exact I.free
 ·obtain ⟨_,o,ho,_⟩:=I.ok.vj.mem hb
  exact I.base.free b o ho (I.ok.BC b hb) fun z=>I.ok.F2 b z hb
theorem Inv.step {g':Array GenState} {d':Drawn} (I:Inv X pins σ H s)
  (yo:∀ b∈ch,(b∈X.ex\/X.s₀.heap.objs.size<=b)/\b≠X.env.locals/\(∀ x c,X.env.cells.lookup x=some c->c≠b)/\∀ p∈X.pn++pins,p.1≠b)
  (keep:∀ b o,b≠X.env.locals->b ∉ X.fs->b ∉ ch->s.heap.get? b=some o->H b=none->h'.get? b=some o)
  (slot:∀ b o,b≠X.env.locals->b∈X.fs->b ∉ ch->s.heap.get? b=some o->H b=none->∃ sl,h'.get? b=some {o with slots:=sl}) (free:∀ b o,b ∉ ch->s.heap.get? b=some o->H b=none->H' b=none)
  (there:∀ b o,b ∉ ch->s.heap.get? b=some o->∃ o',h'.get? b=some o')
  (tups:∀ b xs,H b=some (.tup xs)->H' b=some (.tup xs)) (vh:∀ b o u,H b=some (.au o u)->H' b=some (.au o u)) (wm:∀ b ps,H b=some (.By ps)->∃ more,H' b=some (.By (ps++more)))
  (ns:∀ m,s.heap.Ns X.env.locals m->h'.Ns X.env.locals m) (hok:fh X.prog X.w H' h') (hg:AllBare g'):
  Inv X pins σ H' {s with heap:=h',gens:=g',drawn:=d',toks:=t'}:=by
 have LK:∀ b o,X.s₀.heap.get? b=some o->b≠X.env.locals:=fun b o e=>Nat.ne_of_lt (Nat.lt_of_lt_of_le (Qz e) I.ok.above)
 have F3:∀ b o,X.s₀.heap.get? b=some o->b ∉ X.ex->b ∉ ch:=fun b o e hx hb=>by
  rcases (yo b hb).1 with z | z
  ·exact hx z
  ·exact absurd (Nat.lt_of_lt_of_le (Qz e) z) (Nat.lt_irrefl _)
 have cellK:∀ x c,X.env.cells.lookup x=some c->∀ v,s.heap.IsCell c v->h'.IsCell c v:=fun x c e v ⟨o,ho,hd⟩=>by
  have wq:c ∉ ch:=fun z=>(yo c z).2.2.1 x c e rfl
  by_cases hc:c∈X.fs
  ·obtain ⟨sl,q⟩:=slot c o (I.BD x c e) hc wq ho (I.yn x c e)
   exact ⟨_,q,hd⟩
  ·exact ⟨o,keep c o (I.BD x c e) hc wq ho (I.yn x c e),hd⟩
 refine ⟨I.ok,I.os,hg,⟨fun b o e n hb hx=>?_,fun b o e n hb hx=>?_,fun b o e n hx=>?_,fun b o e hx=>?_,fun b xs e=>tups b xs (I.base.tups b xs e),fun b o xs e=>vh b o xs (I.base.vh b o xs e),fun b ps e=>?_⟩,?_,fun x c e=>?_,?_,fun x c e=>?_,fun p hp=>?_,hok,I.len⟩
 ·exact keep b o (LK b o e) hb (F3 b o e hx) (I.base.keep b o e n hb hx) (I.base.free b o e n hx)
 ·obtain ⟨sl,e1⟩:=I.base.slot b o e n hb hx
  obtain ⟨Ig,e2⟩:=slot b _ (LK b o e) hb (F3 b o e hx) e1 (I.base.free b o e n hx)
  exact ⟨Ig,e2⟩
 ·obtain ⟨o',e1⟩:=I.base.there b o e hx
  exact free b o' (F3 b o e hx) e1 (I.base.free b o e n hx)
 ·obtain ⟨o',e1⟩:=I.base.there b o e hx
  exact there b o' (F3 b o e hx) e1
 ·obtain ⟨m1,e1⟩:=I.base.wm b ps e
  obtain ⟨m2,e2⟩:=wm b _ e1
  exact ⟨m1++m2,by rw [e2,Array.append_assoc]⟩
 ·obtain ⟨m,hn,hl⟩:=I.loc
  refine ⟨m,ns m hn,fun i x v e1 e2 e3=>?_⟩
  obtain ⟨u,r,l⟩:=hl i x v e1 e2 e3
  refine ⟨u,r,?_⟩
  rcases l with l | ⟨k,c,e,z⟩
  ·exact .inl l
  ·exact .inr ⟨k,c,e,cellK x c e _ z⟩
 ·obtain ⟨v,z⟩:=I.cell x c e
  exact ⟨v,cellK x c e v z⟩
 ·obtain ⟨m,⟨o,_,_,ho,_⟩,_⟩:=I.loc
  exact free _ o (fun z=>(yo _ z).2.1 rfl) ho I.free
 ·obtain ⟨v,o,ho,hd⟩:=I.cell x c e
  exact free c o (fun z=>(yo c z).2.2.1 x c e rfl) ho (I.yn x c e)
 ·obtain ⟨e,n,ne,nf,d⟩:=I.pin p hp
  have wq:p.1 ∉ ch:=fun z=>(yo p.1 z).2.2.2 p hp rfl
  exact ⟨keep p.1 p.2 ne nf wq e n,free p.1 p.2 wq e n,ne,nf,d⟩
theorem Inv.un (I:Inv X pins σ H s) (u:Un X.fs [] H H' s.heap h') (hok:fh X.prog X.w H' h'):Inv X pins σ H' {s with heap:=h',toks:=t'}:=by
 obtain ⟨m,⟨o,es,ep,ho,r⟩,_⟩:=id I.loc
 obtain ⟨sl,hL⟩:=u.any ho I.free (by simp)
 exact I.step (g':=s.gens) (d':=s.drawn) (ch:=[]) (fun _ z=>nomatch z) (fun b o _ hb _ e n=>u.keep b o e n hb (by simp)) (fun b o _ hb _ e n=>u.slot b o e n hb (by simp)) (fun b o _ e n=>u.free b o e n (by simp)) (fun b o _ e=>u.there b o e (by simp)) u.tups u.vh u.wm (fun m' hm=>by
  obtain ⟨o',es',yp,wo,r'⟩:=hm
  rw [ho] at wo;cases wo
  exact ⟨_,es',yp,hL,r'⟩) hok I.bare
theorem Inv.call {g':Array GenState} {d':Drawn} (I:Inv X pins σ H s) (u:Un (mq X.stack) ch H H' s.heap h') (hok:fh X.prog X.w H' h') (hg:AllBare g')
  (yo:∀ b∈ch,(b∈X.ex\/X.s₀.heap.objs.size<=b)/\b≠X.env.locals/\(∀ x c,X.env.cells.lookup x=some c->c≠b)/\∀ p∈X.pn++pins,p.1≠b):
  Inv X pins σ H' {s with heap:=h',gens:=g',drawn:=d',toks:=t'}:=by
 obtain ⟨m,⟨o,es,ep,ho,r⟩,_⟩:=id I.loc
 obtain ⟨sl,hL⟩:=u.any ho I.free fun z=>(yo _ z).2.1 rfl
 exact I.step (ch:=ch) yo (fun b o hL hb hc e n=>u.keep b o e n (fun z=>(Qp.mp (I.BE b z)).elim hL hb) hc) (fun b o _ _ hc e n=>u.any e n hc) (fun b o hc e n=>u.free b o e n hc) (fun b o hc e=>u.there b o e hc) u.tups u.vh u.wm (fun m' hm=>by
  obtain ⟨o',es',yp,wo,r'⟩:=hm
  rw [ho] at wo;cases wo
  exact ⟨_,es',yp,hL,r'⟩) hok hg
theorem Inv.turned (I:Inv X pins σ H s) (k:∀ b o,b≠it->s.heap.get? b=some o->h'.get? b=some o) (hn:H it=none) (hL:it≠X.env.locals)
  (h1:it∈X.ex\/X.s₀.heap.objs.size<=it) (h2:∀ x c,X.env.cells.lookup x=some c->c≠it) (h3:∀ p∈X.pn++pins,p.1≠it):Inv X pins σ H {s with heap:=h',toks:=t'}:=by
 have LL:∀ b u,H b=some u->b≠it:=fun b u e z=>by rw [z,hn] at e;cases e
 refine I.step (g':=s.gens) (d':=s.drawn) (ch:=[it]) (fun b hb=>?_) (fun b o _ _ hc e _=>k b o (fun z=>hc (by simp [z])) e) (fun b o _ _ hc e _=>⟨o.slots,k b o (fun z=>hc (by simp [z])) e⟩) (fun _ _ _ _ n=>n)
  (fun b o hc e=>⟨o,k b o (fun z=>hc (by simp [z])) e⟩) (fun _ _ e=>e) (fun _ _ _ e=>e) (fun b ps e=>⟨#[],by rw [e];simp⟩) (fun m hm=>?_) (fun b u e=>?_) I.bare
 ·have e:b=it:=by simpa using hb
  subst e
  exact ⟨h1,hL,h2,h3⟩
 ·obtain ⟨o,es,ep,ho,r⟩:=hm
  exact ⟨o,es,ep,k _ o (Ne.symm hL) ho,r⟩
 ·refine (I.hok b u e).stay (fun c v hc q=>k c v ?_ q) (fun _ q=>q) fun _ _ q=>q
  rcases hc with z | z
  ·rw [z];exact LL b u e
  ·exact LL c _ z
theorem Inv.tok (I:Inv X pins σ H s) (t:Nat):Inv X pins σ H {s with toks:=t}:=I.un (h':=s.heap) (t':=t) Un.refl I.hok
theorem Inv.kept {t':Nat} (I:Inv X pins σ H s) (k:∀ b u,s.heap.get? b=some u->h'.get? b=some u):Inv X pins σ H {s with heap:=h',toks:=t'}:=I.un (Un.kept k) (I.hok.kept k)
theorem Inv.laid {a:Addr} {o:HO} {t':Nat} (I:Inv X pins σ H s) (k:∀ b u,s.heap.get? b=some u->h'.get? b=some u) (hp:s.heap.objs.size<=a) (new:bx X.prog X.w (upd H a o) h' a o):
  Inv X pins σ (upd H a o) {s with heap:=h',toks:=t'}:=I.un (Un.laid k hp (I.hok.fresh hp)) (I.hok.laid k hp new)
theorem Inv.write {x e:Addr} {o:HO} {t':Nat} (I:Inv X pins σ H s) (mu:DW (H x)) (he:e=x\/H e=some (.own x)) (k:∀ b u,b≠e->s.heap.get? b=some u->h'.get? b=some u) (CC:∃ u,h'.get? e=some u)
  (new:bx X.prog X.w (upd H x o) h' x o):Inv X pins σ (upd H x o) {s with heap:=h',toks:=t'}:=I.un (Un.write mu he k CC) (I.hok.write mu he k CC new)
theorem Inv.LM {LN:List (Addr×Obj)} (I:Inv X pins σ H s) (h:∀ p∈LN,s.heap.get? p.1=some p.2/\H p.1=none/\p.1≠X.env.locals/\p.1 ∉ X.fs/\∀ v,p.2.data≠.cell v):Inv X LN σ H s:=
 ⟨I.ok,I.os,I.bare,I.base,I.loc,I.cell,I.free,I.yn,fun p hp=>(List.mem_append.mp hp).elim (fun z=>I.pin p (List.mem_append_left _ z)) (h p),I.hok,I.len⟩
theorem rE (hN:N.Nodup) (a:N[i]? =some x) (b:N[j]? =some x):i=j:=by
 obtain ⟨h1,e1⟩:=List.getElem?_eq_some_iff.mp a
 obtain ⟨h2,e2⟩:=List.getElem?_eq_some_iff.mp b
 exact (List.getElem_inj hN).mp (e1.trans e2.symm)
theorem mP {M:Model} {v:V} {Q:Unit->Shared->Prop} (I:Inv X pins σ H s) (hN:X.N.Nodup) (hi:X.N[i]? =some x) (hx:Loc X.env.scope x) (r:RelV v u)
  (h:∀ s',Inv X pins (σ.set i (some v)) H s'->(∃ a,Heap.SameBut a s.heap s'.heap/\(a=X.env.locals\/X.env.cells.lookup x=some a))->Q () s') (hf:X.fn x=true\/X.env.scope.names.lookup x=some .local:=by first | exact .inl rfl | exact .inr rfl | assumption):wpAny M A (storeName X.env x u) Q E s:=by
 obtain ⟨m,hn,hl⟩:=id I.loc
 have Rk:(X.env.scope.kind==.class||(X.env.scope.kind==.module&&X.env.locals !=X.env.globals))=false:=by rw [I.ok.kind];rfl
 have LO:i < σ.length:=by rw [I.len];exact (List.getElem?_eq_some_iff.mp hi).1
 have BD:=I.BD
 have tracked:∀ {a:Addr} {h':Heap},(∃ o,s.heap.get? a=some o/\H a=none)->Heap.SameBut a s.heap h'->fh X.prog X.w H h':=fun {a h'} ha hs b ob e=>by
  obtain ⟨_,_,LP⟩:=ha
  refine (I.hok b ob e).stay (fun c w' hc q=>(hs.2 c ?_).trans q) (fun _ q=>q) fun _ _ q=>q
  rintro rfl
  rcases hc with rfl | hc
  ·rw [LP] at e;cases e
  ·rw [LP] at hc;cases hc
 rcases hx with hk | hk
 ·refine wpAny_storeName_local hk hn (fun h' wu hs=>?_) Rk
  obtain ⟨oL,_,_,F4,_⟩:=id hn
  refine h _ ⟨I.ok,I.os,I.bare,⟨fun b o e n hb hx=>?_,fun b o e n hb hx=>?_,I.base.free,fun b o e hx=>?_,I.base.tups,I.base.vh,I.base.wm⟩,⟨_,wu,fun j y v' e1 e2 e3=>?_⟩,fun y c e=>?_,I.free,I.yn,fun p hp=>?_,tracked ⟨oL,F4,I.free⟩ hs,by simpa using I.len⟩ ⟨_,hs,.inl rfl⟩
  ·exact (hs.2 b (Nat.ne_of_lt (Nat.lt_of_lt_of_le (Qz e) I.ok.above))).trans (I.base.keep b o e n hb hx)
  ·obtain ⟨sl,e1⟩:=I.base.slot b o e n hb hx
   exact ⟨sl,(hs.2 b (Nat.ne_of_lt (Nat.lt_of_lt_of_le (Qz e) I.ok.above))).trans e1⟩
  ·obtain ⟨o',e1⟩:=I.base.there b o e hx
   exact ⟨o',(hs.2 b (Nat.ne_of_lt (Nat.lt_of_lt_of_le (Qz e) I.ok.above))).trans e1⟩
  ·by_cases hj:j=i
   ·subst hj
    rw [hi] at e1;cases e1
    rw [List.getElem?_set_self LO] at e2
    cases e2
    exact ⟨u,r,.inl ⟨hk,by simp⟩⟩
   ·rw [List.getElem?_set_ne (Ne.symm hj)] at e2
    obtain ⟨u',r',q⟩:=hl j y v' e1 e2 e3
    refine ⟨u',r',?_⟩
    rcases q with ⟨k,e⟩ | ⟨k,c,e,z⟩
    ·refine .inl ⟨k,?_⟩
     have:y≠x:=fun e=>hj (rE hN e1 (e▸hi))
     simp [this,e]
    ·exact .inr ⟨k,c,e,z.sameBut hs (BD y c e)⟩
  ·obtain ⟨w',z⟩:=I.cell y c e
   exact ⟨w',z.sameBut hs (BD y c e)⟩
  ·obtain ⟨e,n,ne,nf,d⟩:=I.pin p hp
   exact ⟨(hs.2 p.1 ne).trans e,n,ne,nf,d⟩
 ·have Ii:X.fn x=true:=by
   rcases hf with z | z
   ·exact z
   ·rw [z] at hk;cases hk
  obtain ⟨c,hc⟩:=I.ok.has x (.inl hk)
  obtain ⟨w',z⟩:=I.cell x c hc
  refine wpAny_storeName_cell I.ok.kind hk hc z (fun h' ic hs=>?_)
  obtain ⟨oc,LQ,Rl⟩:=id z
  refine h {s with heap:=h'} ⟨I.ok,I.os,I.bare,⟨fun b o e n hb hx=>?_,fun b o e n hb hx=>?_,I.base.free,fun b o e hx=>?_,I.base.tups,I.base.vh,I.base.wm⟩,⟨m,hn.sameBut hs (Ne.symm (BD x c hc)),fun j y v' e1 e2 e3=>?_⟩,fun y c' e=>?_,I.free,I.yn,fun p hp=>?_,tracked ⟨oc,LQ,I.yn x c hc⟩ hs,by simpa using I.len⟩ ⟨c,hs,.inr hc⟩
  ·exact (hs.2 b (Nat.ne_of_lt (Nat.lt_of_lt_of_le (Qz e) (I.ok.DY x c Ii hc)))).trans (I.base.keep b o e n hb hx)
  ·obtain ⟨sl,e1⟩:=I.base.slot b o e n hb hx
   exact ⟨sl,(hs.2 b (Nat.ne_of_lt (Nat.lt_of_lt_of_le (Qz e) (I.ok.DY x c Ii hc)))).trans e1⟩
  ·obtain ⟨o',e1⟩:=I.base.there b o e hx
   exact ⟨o',(hs.2 b (Nat.ne_of_lt (Nat.lt_of_lt_of_le (Qz e) (I.ok.DY x c Ii hc)))).trans e1⟩
  ·by_cases hj:j=i
   ·subst hj
    rw [hi] at e1;cases e1
    rw [List.getElem?_set_self LO] at e2
    cases e2
    exact ⟨u,r,.inr ⟨.inl hk,c,hc,ic⟩⟩
   ·rw [List.getElem?_set_ne (Ne.symm hj)] at e2
    obtain ⟨u',r',q⟩:=hl j y v' e1 e2 e3
    refine ⟨u',r',?_⟩
    rcases q with q | ⟨k,c',e,z'⟩
    ·exact .inl q
    ·refine .inr ⟨k,c',e,z'.sameBut hs ?_⟩
     rintro rfl
     exact hj (rE hN e1 (I.ok.inj _ _ _ e hc▸hi))
  ·by_cases AI:c'=c
   ·subst AI;exact ⟨_,ic⟩
   ·obtain ⟨w2,z2⟩:=I.cell y c' e
    exact ⟨w2,z2.sameBut hs AI⟩
  ·obtain ⟨e,n,ne,nf,d⟩:=I.pin p hp
   refine ⟨(hs.2 p.1 ?_).trans e,n,ne,nf,d⟩
   intro q
   rw [q,LQ] at e
   have q':oc=p.2:=QD e
   exact d w' (by rw [<- q'];exact Rl)
theorem gI {M:Model} {v:V} {Q:Unit->Shared->Prop} (I:Inv X pins σ H s) (hN:X.N.Nodup) (hi:X.N[i]? =some x) (hx:Loc X.env.scope x) (r:RelV v u)
  (h:∀ s',Inv X pins (σ.set i (some v)) H s'->Q () s') (hf:X.fn x=true\/X.env.scope.names.lookup x=some .local:=by first | exact .inl rfl | exact .inr rfl | assumption):wpAny M A (storeName X.env x u) Q E s:=
 mP I hN hi hx r (fun s' I' _=>h s' I') hf
theorem Inv.Rm {s':Shared} (I:Inv X pins σ H s) (ho:s'.os=s.os) (u:Un (mq X.stack) ch H H' s.heap s'.heap) (hok:fh X.prog X.w H' s'.heap) (hg:AllBare s'.gens)
  (yo:∀ b∈ch,(b∈X.ex\/X.s₀.heap.objs.size<=b)/\b≠X.env.locals/\(∀ x c,X.env.cells.lookup x=some c->c≠b)/\∀ p∈X.pn++pins,p.1≠b):Inv X pins σ H' s':=by
 obtain ⟨h',g',d',t',o'⟩:=s'
 have e:o'=s.os:=ho
 subst e
 exact I.call (g':=g') (t':=t') (d':=d') u hok hg yo
end
abbrev XK:=Value->Option Addr->Hp->Prop
abbrev St:=List (Option V)
end L2
variable {σ:L2.St}
namespace L2
open PySem PySem.Spec PyProof.Rows
abbrev VK:=V->Hp->Prop
abbrev TE:=St->Hp->VK->Prop
end L2
variable {te to:L2.TE}
namespace L2
open PySem PySem.Spec PyProof.Rows
abbrev TT:=St->Hp->(Bool->Hp->Prop)->Prop
abbrev TA:=St->Hp->(List V->Hp->Prop)->Prop
structure Ends where
 nx:St->Hp->Prop
 rt:VK
 bk:St->Hp->Prop:=fun _ _=>False
 ct:St->Hp->Prop:=fun _ _=>False
abbrev TS:=Ends->St->Hp->Prop
def EP (X:Cx) (pins:List (Addr×Obj)) (σ:St) (Q:VK) (u:Value) (s':Shared):Prop:=∃ v H',Inv X pins σ H' s'/\RelV v u/\Q v H'
def TP (X:Cx) (pins:List (Addr×Obj)) (σ:St) (Q:Bool->Hp->Prop) (b:Bool) (s':Shared):Prop:=∃ H',Inv X pins σ H' s'/\Q b H'
def AP (X:Cx) (pins:List (Addr×Obj)) (σ:St) (Q:List V->Hp->Prop) (us:List Value) (s':Shared):Prop:=∃ vs H',Inv X pins σ H' s'/\be vs us/\Q vs H'
def SP (X:Cx) (pins:List (Addr×Obj)) (D:Ends) (f:Flow) (s':Shared):Prop:=
 match f with
 | .next=>∃ σ' H',Inv X pins σ' H' s'/\D.nx σ' H'
 | .brk=>∃ σ' H',Inv X pins σ' H' s'/\D.bk σ' H'
 | .cont=>∃ σ' H',Inv X pins σ' H' s'/\D.ct σ' H'
 | .ret u=>∃ v σ' H',Inv X pins σ' H' s'/\RelV v u/\D.rt v H'
def PE (X:Cx) (e:Expr) (t:TE):Prop:=
 ∀ (pins:List (Addr×Obj)) (s:Shared) (σ:St) (H:Hp) (Q:VK),Inv X pins σ H s->t σ H Q->wpAny (model X.prog X.w) X.A (eval e X.env) (EP X pins σ Q) X.xe s
def PT (X:Cx) (e:Expr) (t:TT):Prop:=
 ∀ (pins:List (Addr×Obj)) (s:Shared) (σ:St) (H:Hp) (Q:Bool->Hp->Prop),Inv X pins σ H s->t σ H Q->wpAny (model X.prog X.w) X.A (isTrue e X.env (eval e X.env)) (TP X pins σ Q) X.xe s
def PW (X:Cx) (e:Expr) (t:TT):Prop:=
 ∀ (whole:Sem Value) (pins:List (Addr×Obj)) (s:Shared) (σ:St) (H:Hp) (Q:Bool->Hp->Prop),Inv X pins σ H s->t σ H Q->wpAny (model X.prog X.w) X.A (isTrue e X.env whole) (TP X pins σ Q) X.xe s
theorem PW.pt {t:TT} (h:PW X e t):PT X e t:=h _
def PA (X:Cx) (es:List Expr) (t:TA):Prop:=
 ∀ (pos:Pos) (pins:List (Addr×Obj)) (s:Shared) (σ:St) (H:Hp) (Q:List V->Hp->Prop),Inv X pins σ H s->t σ H Q->wpAny (model X.prog X.w) X.A (spliced (backTo pos (starEach es X.env))) (AP X pins σ Q) X.xe s
def PS (X:Cx) (st:Stmt) (t:TS):Prop:=
 ∀ (pins:List (Addr×Obj)) (s:Shared) (σ:St) (H:Hp) (D:Ends),Inv X pins σ H s->t D σ H->wpAny (model X.prog X.w) X.A (exec st X.env) (SP X pins D) X.xe s
def qf (X:Cx) (st:List Stmt) (t:TS):Prop:=
 ∀ (pins:List (Addr×Obj)) (s:Shared) (σ:St) (H:Hp) (D:Ends),Inv X pins σ H s->t D σ H->wpAny (model X.prog X.w) X.A (execs st X.env) (SP X pins D) X.xe s
theorem av {t:Sem α} {Q Q':α->Shared->Prop} {M:Model} (h:wpAny M A t Q E s) (hQ:∀ a s,Q a s->Q' a s):wpAny M A t Q' E s:=wpAny_mono h hQ fun _ _ x=>x
section
def Rn (i:Nat):TE:=fun σ H Q=>∃ v,σ[i]? =some (some v)/\Q v H
def tC (v:V):TE:=fun _ H Q=>Q v H
theorem Ro {pos:Pos} (hN:X.N[i]? =some x) (hv:CD X.env.scope x) (hd:(x==("__debug__":Str))=false:=by decide) (ju:(x==("__classdict__":Str))=false:=by decide):PE X (.Name x pos) (Rn i):=by
 intro pins s σ H Q I h
 obtain ⟨v,e,h⟩:=h
 obtain ⟨m,hn,hl⟩:=I.loc
 obtain ⟨u,r,l⟩:=hl i x v hN e hv
 have fin:EP X pins σ Q u s:=⟨v,H,I,r,h⟩
 rcases l with ⟨hk,hm⟩ | ⟨hk,c,hc,F5⟩
 ·exact wpAny_Name (wpAny_loadName_local I.ok.kind hk hn hm fin) hd
 ·rcases hk with hk | hk
  ·exact wpAny_Name (wpAny_loadName_cell I.ok.kind hk hc F5 fin) hd
  ·exact wpAny_Name (wpAny_loadName_free I.ok.kind hk hc F5 fin ju) hd
theorem Rp {i j pos}:PE X (.Constant (.int i) j pos) (tC (.int i)):=fun _ _ _ H _ I h=>wpAny_Constant_int ⟨.int i,H,I.tok _,⟨_,rfl⟩,h⟩
theorem Rq {b j pos}:PE X (.Constant (.bool b) j pos) (tC (.bl b)):=fun _ _ _ H _ I h=>Constant_bool ⟨.bl b,H,I,rfl,h⟩
theorem Rr {j pos}:PE X (.Constant .none j pos) (tC .ai):=fun _ _ _ H _ I h=>Constant_none ⟨.ai,H,I,rfl,h⟩
theorem Rt {x j pos}:PE X (.Constant (.str x) j pos) (tC (.str x)):=fun _ _ _ H _ I h=>Calls.Constant_str ⟨.str x,H,I.tok _,⟨_,rfl⟩,h⟩
def Gl (X:Cx) (x:Str):Prop:=X.env.kindOf x=some .globalImplicit
theorem o6 {pos:Pos} (I:Inv X pins σ H s) (hg:Gl X x) (hm:X.mg x=some u) (h:Q u s)
  (hd:(x==("__debug__":Str))=false:=by decide):wpAny (model X.prog X.w) X.A (eval (.Name x pos) X.env) Q E s:=
 Calls.Name_function_global I.ok.kind hg (Calls.loadGlobal_global (by rw [I.ok.glob];exact I.mod.glob.keeps I.bk) hm h) hd
theorem lQ {pos:Pos} (I:Inv X pins σ H s) (hg:Gl X x) (hm:X.mg x=none) (hv:bootBuiltins x=some u) (h:Q u s)
  (hn:x≠"__name__":=by decide) (hd:(x==("__debug__":Str))=false:=by decide):wpAny (model X.prog X.w) X.A (eval (.Name x pos) X.env) Q E s:=by
 obtain ⟨mb,h1,h2⟩:=I.mod.blt
 exact Calls.Name_function_global I.ok.kind hg (Calls.loadGlobal_builtin (by rw [I.ok.glob];exact I.mod.glob.keeps I.bk) hm (by rw [I.ok.blt];exact h1.keeps I.bk) ((h2 x hn).trans hv) h) hd
theorem kJ {v:V} {pos:Pos} (hg:Gl X x) (hm:X.mg x=some u) (r:RelV v u) (hd:(x==("__debug__":Str))=false:=by decide):PE X (.Name x pos) (tC v):=
 fun _ _ _ H _ I h=>o6 I hg hm ⟨v,H,I,r,h⟩ hd
theorem Ru {v:V} {pos:Pos} (hg:Gl X x) (hm:X.mg x=none) (hv:bootBuiltins x=some u) (r:RelV v u) (hn:x≠"__name__":=by decide) (hd:(x==("__debug__":Str))=false:=by decide):PE X (.Name x pos) (tC v):=
 fun _ _ _ H _ I h=>lQ I hg hm hv ⟨v,H,I,r,h⟩ hn hd
variable {a b:Expr} {ta tb:TE} {pos:Pos}
def PC (X:Cx) (op:CmpOp) (a b:Expr) (t:TE):Prop:=
 ∀ (pins:List (Addr×Obj)) (s:Shared) (σ:St) (H:Hp) (Q:VK),Inv X pins σ H s->t σ H Q->
  wpAny (model X.prog X.w) X.A (eval a X.env) (fun v s₁=>wpAny (model X.prog X.w) X.A (eval b X.env) (fun u s₂=>wpAny (model X.prog X.w) X.A (compareOp op v u) (EP X pins σ Q) X.xe s₂) X.xe s₁) X.xe s
def tB (t:TE):TT:=fun σ H Q=>t σ H fun x H1=>∃ c,x=.bl c/\Q c H1
theorem Rv {t:TE} (h:PC X op a b t) (h1:behindInMarks op b=false:=by first | exact aad _ (by decide) (by decide) | rfl):PT X (.Compare a [op] [b] pos) (tB t):=by
 intro pins s σ H Q I hw
 refine wpAny_isTrue_Compare1 (av (h pins s σ H _ I hw) fun v s1 h1=>av h1 fun u s2 h2=>av h2 fun c s3 ⟨x,H1,I1,r1,q1⟩=>?_) h1
 obtain ⟨d,rfl,q⟩:=q1
 cases r1
 exact wpAny_truthy_bool ⟨H1,I1,q⟩
theorem Rw {t:TE} (h:PE X e t) (he:∀ whole,isTrue e X.env whole=(do let v <- whole;standAt e.pos;holding [v] (truthy v)):=by intro _;rfl):PT X e (tB t):=by
 intro pins s σ H Q I hw
 refine isTrue_plain (av (h pins s σ H _ I hw) fun v s1 ⟨x,H1,I1,r1,q1⟩=>?_) (he _)
 obtain ⟨d,rfl,q⟩:=q1
 cases r1
 exact wpAny_truthy_bool ⟨H1,I1,q⟩
variable {tA yq:TT} {rest:List Expr}
def LU (t u:TT):TT:=fun σ H Q=>t σ H fun c H1=>if c=true then u σ H1 Q else Q false H1
def LV (t u:TT):TT:=fun σ H Q=>t σ H fun c H1=>if c=true then Q true H1 else u σ H1 Q
def LW (t:TT):TT:=fun σ H Q=>t σ H fun c H1=>Q (!c) H1
theorem Rx (ha:PT X a tA):PW X (.BoolOp .And [a] pos) tA:=by
 intro wh pins s σ H Q I h
 refine isTrue_and (av (ha pins s σ H Q I h) fun c s1 e=>?_)
 cases c with
 | true=>exact isTrue_and_nil e
 | false=>exact e
theorem Ry (ha:PT X a tA):PW X (.BoolOp .Or [a] pos) tA:=by
 intro wh pins s σ H Q I h
 refine isTrue_or (av (ha pins s σ H Q I h) fun c s1 e=>?_)
 cases c with
 | false=>exact isTrue_or_nil e
 | true=>exact e
theorem Rz (ha:PT X a tA) (hb:PW X (.BoolOp .And (b::rest) pos) yq):PW X (.BoolOp .And (a::b::rest) pos) (LU tA yq):=by
 intro wh pins s σ H Q I h
 refine isTrue_and (av (ha pins s σ H _ I h) ?_)
 rintro c s1 ⟨H1,I1,q1⟩
 cases c with
 | true=>exact hb wh pins s1 σ H1 Q I1 q1
 | false=>exact ⟨H1,I1,q1⟩
theorem RA (ha:PT X a tA) (hb:PW X (.BoolOp .Or (b::rest) pos) yq):PW X (.BoolOp .Or (a::b::rest) pos) (LV tA yq):=by
 intro wh pins s σ H Q I h
 refine isTrue_or (av (ha pins s σ H _ I h) ?_)
 rintro c s1 ⟨H1,I1,q1⟩
 cases c with
 | true=>exact ⟨H1,I1,q1⟩
 | false=>exact hb wh pins s1 σ H1 Q I1 q1
theorem RB (ha:PT X a tA):PT X (.UnaryOp .Not a pos) (LW tA):=by
 intro pins s σ H Q I h
 exact isTrue_not (ha pins s σ H (fun c H1=>Q (!c) H1) I h)
end
def af (K:Q0) (H:Hp) (a:Addr) (xs:List V):Prop:=
 Rd H a (.lst xs)\/
  ∃ (o:Obj) (its:Array Value) (n:Nat),K.lookup a=some o/\o.cls=.type "list"/\o.dict=none/\o.data=.seq its n/\its.size<=sizeLine/\be xs its.toList
def ae (K:Q0) (H:Hp) (a:Addr) (xs:List V):Prop:=
 Rd H a (.tup xs)\/
  ∃ (o:Obj) (its:Array Value) (n:Nat),K.lookup a=some o/\o.cls=.type "tuple"/\o.data=.seq its n/\its.size<=sizeLine/\be xs its.toList
def zp:Value->Option V
 | .none=>some .ai
 | .bool b=>some (.bl b)
 | .int i _=>some (.int i)
 | .str x _=>some (.str x)
 | .bytes b _=>some (.rj b)
 | .float b _=>some (.Bx b)
 | .ref a=>some (.ref a)
 | .type n=>some (.ty n)
 | _=>none
theorem RelV.abs {x:V} (r:RelV x u):zp u=some x:=by
 cases x with
 | ai=>cases r;rfl
 | bl _=>cases r;rfl
 | int _=>obtain ⟨t,rfl⟩:=r;rfl
 | str _=>obtain ⟨t,rfl⟩:=r;rfl
 | rj _=>obtain ⟨t,rfl⟩:=r;rfl
 | Bx _=>obtain ⟨t,rfl⟩:=r;rfl
 | ref _=>cases r;rfl
 | ty _=>cases r;rfl
theorem RelV.inj {x y:V} (r:RelV x u) (q:RelV y u):x=y:=QD (r.abs.symm.trans q.abs)
theorem be.inj:∀ {xs ys:List V} {us:List Value},be xs us->be ys us->xs=ys
 | _,_,_,.nil,.nil=>rfl
 | _,_,_,.cons r t,.cons r' t'=>by rw [r.inj r',be.inj t t']
section
variable {xs ys:List V}
theorem af.of {K:Q0} (h:H a=some (.lst xs)):af K H a xs:=.inl (.inl h)
theorem ae.of {K:Q0} (h:H a=some (.tup xs)):ae K H a xs:=.inl (.inl h)
theorem Inv.list (I:Inv X pins σ H s) (h:af X.K H a xs):∃ its:List Value,be xs its/\PlainL s.heap a its.toArray/\xs.length<=sizeLine:=by
 rcases h with h | ⟨o,its,n,hk,hc,hd,hs,hz,r⟩
 ·obtain ⟨z,its,n,r,e⟩:=h.ok I.hok
  exact ⟨its,r,⟨_,n,e,rfl,rfl,rfl⟩,z⟩
 ·refine ⟨its.toList,r,⟨o,n,I.iw a o hk,hc,hd,by simpa using hs⟩,?_⟩
  have e:=r.length
  simp only [Array.length_toList] at e
  omega
theorem Inv.tuple (I:Inv X pins σ H s) (h:ae X.K H a xs):∃ its:List Value,be xs its/\IsTup s.heap a its.toArray/\xs.length<=sizeLine:=by
 rcases h with h | ⟨o,its,n,hk,hc,hs,hz,r⟩
 ·obtain ⟨⟨z,_⟩,its,r,p⟩:=h.ok I.hok
  exact ⟨its,r,p,z⟩
 ·refine ⟨its.toList,r,⟨o,I.iw a o hk,hc,n,by simpa using hs⟩,?_⟩
  have e:=r.length
  simp only [Array.length_toList] at e
  omega
theorem Inv.Ij (I:Inv X pins σ H s) (h:af X.K H a xs) (h':af X.K H a ys):xs=ys:=by
 obtain ⟨its,r,⟨o,n,e,_,_,d⟩,_⟩:=I.list h
 obtain ⟨its',r',⟨o',n',e',_,_,d'⟩,_⟩:=I.list h'
 rw [e] at e';cases e'
 rw [d] at d'
 injection d' with d1 _
 have:its=its':=by simpa using congrArg Array.toList d1
 subst this
 exact r.inj r'
theorem Inv.RC (I:Inv X pins σ H s) (h:ae X.K H a xs) (h':ae X.K H a ys):xs=ys:=by
 obtain ⟨its,r,⟨o,e,_,n,d⟩,_⟩:=I.tuple h
 obtain ⟨its',r',⟨o',e',_,n',d'⟩,_⟩:=I.tuple h'
 rw [e] at e';cases e'
 rw [d] at d'
 injection d' with d1 _
 have:its=its':=by simpa using congrArg Array.toList d1
 subst this
 exact r.inj r'
end
abbrev Cx.yr (X:Cx) (E:Value->Shared->Prop):Cx:={X with xe:=E}
abbrev Cx.zq (X:Cx):Cx:=X.yr fun _ _=>False
theorem Cx.Ok.yr {X:Cx} (ok:X.Ok) (E:Value->Shared->Prop):(X.yr E).Ok:=
 ⟨ok.mod,ok.kind,ok.glob,ok.blt,ok.above,ok.inj,ok.has,ok.DY,ok.hd,ok.frames,ok.F1,ok.LI,ok.bs,ok.zo,ok.DZ,ok.F2,ok.vj,ok.BC⟩
theorem Cx.Ok.AJ (ok:(X.yr E).Ok):X.Ok:=
 ⟨ok.mod,ok.kind,ok.glob,ok.blt,ok.above,ok.inj,ok.has,ok.DY,ok.hd,ok.frames,ok.F1,ok.LI,ok.bs,ok.zo,ok.DZ,ok.F2,ok.vj,ok.BC⟩
theorem Inv.yr (I:Inv X pins σ H s) (E:Value->Shared->Prop):Inv (X.yr E) pins σ H s:=⟨I.ok.yr E,I.os,I.bare,I.base,I.loc,I.cell,I.free,I.yn,I.pin,I.hok,I.len⟩
theorem Inv.AJ (I:Inv (X.yr E) pins σ H s):Inv X pins σ H s:=⟨I.ok.AJ,I.os,I.bare,I.base,I.loc,I.cell,I.free,I.yn,I.pin,I.hok,I.len⟩
theorem SP.AJ {D:Ends} {f:Flow} {s':Shared} (h:SP (X.yr E) pins D f s'):SP X pins D f s':=by
 cases f with
 | next=>obtain ⟨σ',H',I,q⟩:=h;exact ⟨σ',H',I.AJ,q⟩
 | brk=>obtain ⟨σ',H',I,q⟩:=h;exact ⟨σ',H',I.AJ,q⟩
 | cont=>obtain ⟨σ',H',I,q⟩:=h;exact ⟨σ',H',I.AJ,q⟩
 | ret u=>obtain ⟨v,σ',H',I,r,q⟩:=h;exact ⟨v,σ',H',I.AJ,r,q⟩
theorem qf.zq {st:List Stmt} {t:TS} (h:qf X.zq st t):qf X st t:=fun pins s σ H D I hw=>
 wpAny_mono (h pins s σ H D (I.yr _) hw) (fun _ _ q=>q.AJ) fun _ _ z=>False.elim z
section
variable {st:Stmt} {rest:List Stmt} {t u:TS} {pos:Pos}
def F6:TS:=fun D σ H=>D.nx σ H
def zu (t u:TS):TS:=fun D σ H=>t {D with nx:=u D} σ H
theorem RD:qf X [] F6:=fun _ _ σ H _ I h=>wpAny_execs_nil ⟨σ,H,I,h⟩
theorem RE (h1:PS X st t) (h2:qf X rest u):qf X (st::rest) (zu t u):=by
 intro pins s σ H D I h
 refine wpAny_execs_cons (av (h1 pins s σ H {D with nx:=u D} I h) fun f s1 q=>?_)
 cases f with
 | next=>
  obtain ⟨σ',H',I',q⟩:=q
  exact h2 pins s1 σ' H' D I' q
 | ret v=>exact q
 | brk=>exact q
 | cont=>exact q
theorem RG (h1:PS X st t):qf X [st] t:=by
 intro pins s σ H D I h
 refine wpAny_execs_cons (av (h1 pins s σ H D I h) fun f s1 q=>?_)
 cases f with
 | next=>exact wpAny_execs_nil q
 | ret v=>exact q
 | brk=>exact q
 | cont=>exact q
theorem Inv.quiet (I:Inv X pins σ H s):interactive X.env=false:=by simp [interactive,I.ok.kind]
def Ik (te:TE):TS:=fun D σ H=>te σ H fun _ H1=>D.nx σ H1
theorem RI (he:PE X e te) (hs:swapsWith e none pos.line X.env=pure false:=by rfl):PS X (.Expr e pos) (Ik te):=by
 intro pins s σ H D I h
 exact wpAny_Expr_any (av (he pins s σ H _ I h) fun v s1 ⟨x,H1,I1,r1,q1⟩=>⟨σ,H1,I1,q1⟩) I.quiet hs
def CF (te:TE):TS:=fun D σ H=>te σ H D.rt
theorem RJ (he:PE X e te):PS X (.Return (some e) pos) (CF te):=by
 intro pins s σ H D I h
 exact wpAny_Return_some (av (he pins s σ H _ I h) fun v s1 ⟨x,H1,I1,r1,q1⟩=>⟨x,σ,H1,I1,r1,q1⟩)
def F7 (c:TT) (t u:TS):TS:=fun D σ H=>c σ H fun b H1=>if b=true then t D σ H1 else u D σ H1
theorem RK {c:Expr} {a b:List Stmt} {tc:TT} (hc:PT X c tc) (ha:qf X a t) (hb:qf X b u):PS X (.If c a b pos) (F7 tc t u):=by
 intro pins s σ H D I h
 refine wpAny_If (av (hc pins s σ H _ I h) ?_)
 rintro d s1 ⟨H1,I1,q1⟩
 cases d with
 | true=>exact ha pins s1 σ H1 D I1 q1
 | false=>exact hb pins s1 σ H1 D I1 q1
end
abbrev TG:=V->St->Hp->(St->Hp->Prop)->Prop
abbrev wx:=List V->St->Hp->(St->Hp->Prop)->Prop
def PG (X:Cx) (target:Expr) (t:TG):Prop:=
 ∀ (pins:List (Addr×Obj)) (s:Shared) (σ:St) (H:Hp) (v:V) (u:Value) (Q:St->Hp->Prop),Inv X pins σ H s->RelV v u->t v σ H Q->
  wpAny (model X.prog X.w) X.A (assign target X.env u) (fun _ s'=>∃ σ' H',Inv X pins σ' H' s'/\Q σ' H') X.xe s
def CG (X:Cx) (ts:List Expr) (t:wx):Prop:=
 ∀ (pins:List (Addr×Obj)) (s:Shared) (σ:St) (H:Hp) (vs:List V) (us:List Value) (Q:St->Hp->Prop),Inv X pins σ H s->be vs us->t vs σ H Q->
  wpAny (model X.prog X.w) X.A (assignInOrder ((assignEach ts X.env).map (·.2)) us) (fun _ s'=>∃ σ' H',Inv X pins σ' H' s'/\Q σ' H') X.xe s
abbrev F8:=V->V->V->Hp->(Hp->Prop)->Prop
def Il (X:Cx) (t:F8):Prop:=
 ∀ (pins:List (Addr×Obj)) (s:Shared) (σ:St) (H:Hp) (o i v:V) (ov iv u:Value) (Q:Hp->Prop),Inv X pins σ H s->RelV o ov->RelV i iv->RelV v u->t o i v H Q->
  wpAny (model X.prog X.w) X.A (setItem ov iv u) (fun _ s'=>∃ H',Inv X pins σ H' s'/\Q H') X.xe s
abbrev D0:=V->V->Hp->VK->Prop
def Im (X:Cx) (op:Operator) (t:D0):Prop:=
 ∀ (pins:List (Addr×Obj)) (s:Shared) (σ:St) (H:Hp) (x y:V) (v u:Value) (Q:VK),Inv X pins σ H s->RelV x v->RelV y u->t x y H Q->
  wpAny (model X.prog X.w) X.A (inplaceOp op v u) (EP X pins σ Q) X.xe s
section
variable {pos:Pos}
def ip (i:Nat):TG:=fun v σ H Q=>Q (σ.set i (some v)) H
theorem RL (hN:X.N.Nodup) (hi:X.N[i]? =some x) (hx:Loc X.env.scope x) (hf:X.fn x=true\/X.env.scope.names.lookup x=some .local:=by first | exact .inl rfl | exact .inr rfl | assumption):PG X (.Name x pos) (ip i):=by
 intro pins s σ H v u Q I r h
 exact wpAny_assign_Name (gI I hN hi hx r (fun s' I'=>⟨_,H,I',h⟩) hf)
def BF:wx:=fun vs σ H Q=>vs=[]/\Q σ H
def qg (t:TG) (u:wx):wx:=fun vs σ H Q=>∃ v r,vs=v::r/\t v σ H fun σ' H'=>u r σ' H' Q
theorem RN:CG X [] BF:=by
 intro pins s σ H vs us Q I r h
 obtain ⟨e,h⟩:=h
 subst e
 cases r
 exact assignInOrder_nil ⟨σ,H,I,h⟩
theorem RP {es:List Expr} {t:TG} {u:wx} (h1:PG X e t) (h2:CG X es u)
  (hs:(assignEach (e::es) X.env).map (·.2)=assign e X.env::(assignEach es X.env).map (·.2):=by rfl):CG X (e::es) (qg t u):=by
 intro pins s σ H vs us Q I r h
 obtain ⟨v,vr,e1,h⟩:=h
 subst e1
 cases r with
 | cons r rr=>
  rw [hs]
  refine assignInOrder_cons (av (h1 pins s σ H _ _ _ I r h) ?_)
  rintro _ s1 ⟨σ1,H1,I1,q1⟩
  exact h2 pins s1 σ1 H1 _ _ Q I1 rr q1
def zw (K:Q0) (n:Nat) (t:wx):TG:=fun v σ H Q=>∃ a xs,v=.ref a/\ae K H a xs/\xs.length=n/\t xs σ H Q
theorem RQ {es:List Expr} {k:Nat} {t:wx} (hc:X.calm=true) (h:CG X es t)
  (hn:(assignEach es X.env).length=n:=by rfl) (zy:(assignEach es X.env).findIdx? (·.1)=none:=by rfl):PG X (.Tuple es k pos) (zw X.K n t):=by
 intro pins s σ H v u Q I r hw
 obtain ⟨a,xs,e1,hq,hl,hw⟩:=hw
 subst e1
 cases r
 obtain ⟨its,rv,ht,hz⟩:=I.tuple hq
 refine assign_Tuple_tuple (I.ok.hd hc) ht (by simp [hn,<- hl,rv.length]) zy fun h' hx=>?_
 have I1:Inv X pins σ H {s with heap:=h'}:=I.kept (t':=s.toks) fun b o e=>hx b o (Nat.ne_of_lt (Qz e)) e
 exact h pins _ σ H xs _ Q I1 (by simpa using rv) hw
def LX (to ti:TE) (t:F8):TG:=fun v σ H Q=>to σ H fun o H1=>ti σ H1 fun i H2=>t o i v H2 fun H3=>Q σ H3
theorem RS {o i:Expr} {ti:TE} {t:F8} (ho:PE X o to) (hi:PE X i ti) (hs:Il X t)
  (ha:∀ v,assign (.Subscript o i pos) X.env v=(do
   let ov <- holding [v] (eval o X.env)
   let iv <- holding [v,ov] (eval i X.env)
   standAt pos
   holding [v,ov,iv] (setItem ov iv v)
   release [v,ov,iv] []):=by intro _;rfl):PG X (.Subscript o i pos) (LX to ti t):=by
 intro pins s σ H v u Q I r h
 rw [ha]
 refine QT (wpAny_holding (av (ho pins s σ H _ I h) ?_))
 rintro ov s1 ⟨x,H1,I1,r1,q1⟩
 refine QT (wpAny_holding (av (hi pins s1 σ H1 _ I1 q1) ?_))
 rintro iv s2 ⟨y,H2,I2,r2,q2⟩
 refine QT (wpAny_standAt (QT (wpAny_holding (av (hs pins s2 σ H2 x y v ov iv u _ I2 r1 r2 r q2) ?_))))
 rintro _ s3 ⟨H3,I3,q3⟩
 exact wpAny_release ⟨σ,H3,I3,q3⟩
def zz (te:TE) (g:TG):TS:=fun D σ H=>te σ H fun x H1=>g x σ H1 D.nx
theorem RU {g:TG} (he:PE X e te) (hg:PG X tg g) (hs:swapsWithSole [tg] e pos.line X.env=pure false:=by rfl) (hw:swappedStores [tg] e X.env=pure none:=by rfl)
  (h1:(assignEach [tg] X.env).map (·.2)=[assign tg X.env]:=by rfl):PS X (.Assign [tg] e pos) (zz te g):=by
 intro pins s σ H D I h
 refine wpAny_Assign_stores (av (he pins s σ H _ I h) fun v s1 ⟨x,H1,I1,r1,q1⟩=>?_) hs hw
 rw [h1]
 exact av (hg pins s1 σ H1 x v _ I1 r1 q1) fun _ s2 q=>q
theorem RW {pos':Pos} (hN:X.N.Nodup) (hi:X.N[i]? =some x) (hx:Loc X.env.scope x) (he:PE X e te) (hs:swapsWith e (some (.Name x pos')) pos.line X.env=pure false:=by rfl) (hf:X.fn x=true\/X.env.scope.names.lookup x=some .local:=by first | exact .inl rfl | exact .inr rfl | assumption):
  PS X (.Assign [.Name x pos'] e pos) (zz te (ip i)):=by
 intro pins s σ H D I h
 refine wpAny_Assign_Name (av (he pins s σ H _ I h) fun v s1 ⟨y,H1,I1,r1,q1⟩=>?_) hs
 exact gI I1 hN hi hx r1 (fun s2 I2=>⟨_,H1,I2,q1⟩) hf
def LY (i j:Nat) (ta:TA):TS:=fun D σ H=>ta σ H fun vs H1=>∃ v w,vs=[v,w]/\D.nx ((σ.set i (some v)).set j (some w)) H1
theorem RX {y:Str} {a b:Expr} {ta:TA} {px py pt:Pos} {kt k2 BH} (hc:X.calm=true) (hN:X.N.Nodup) (hi:X.N[i]? =some x) (hj:X.N[j]? =some y) (rm:i≠j)
  (hx:X.env.scope.names.lookup x=some .local) (hy:X.env.scope.names.lookup y=some .local) (ha:PA X [a,b] ta)
  (hw:swappedStores [.Tuple [.Name x px,.Name y py] kt pt] (.Tuple [a,b] k2 BH) X.env=pure (some [x,y]))
  (hs:swapsWithSole [.Tuple [.Name x px,.Name y py] kt pt] (.Tuple [a,b] k2 BH) pos.line X.env=pure false:=by rfl):
  PS X (.Assign [.Tuple [.Name x px,.Name y py] kt pt] (.Tuple [a,b] k2 BH) pos) (LY i j ta):=by
 intro pins s σ H D I h
 rw [exec_Assign_arm]
 refine QT (wpAny_standAt ?_)
 rw [hs]
 refine QT (QU ?_)
 rw [if_neg (by decide)]
 refine QT (Tuple_ (av (ha _ pins s σ H _ I h) ?_))
 rintro us s1 ⟨vs,H1,I1,r1,q1⟩
 obtain ⟨v,w,e1,q1⟩:=q1
 subst e1
 obtain ⟨u1,u2,rfl,rv,qh⟩:∃ u1 u2,us=[u1,u2]/\RelV v u1/\RelV w u2:=by
  cases r1 with
  | cons p q=>
   cases q with
   | cons p' q'=>
    cases q'
    exact ⟨_,_,rfl,p,p'⟩
 refine wpAny_newObj_type ?_ (by show 2<=sizeLine;decide)
 have I2:Inv X pins σ H1 {s1 with heap:=s1.heap.push {cls:=.type "tuple",data:=.seq [u1,u2].toArray}}:=I1.kept (t':=s1.toks) fun b o e=>Qc _ e
 rw [hw]
 refine QT (QU ?_)
 show wpAny (model X.prog X.w) X.A (do rule "assign.swapped-stores";let items <- unpackItems (.ref s1.heap.objs.size) 2 none;assignInOrder [fun v=>bindName X.env y v,fun v=>bindName X.env x v] items.reverse;pure Flow.next) _ _ _
 refine QT (wpAny_rule (QT (unpackItems_tuple (items:=#[u1,u2]) (I.ok.hd hc) (IsTup.new s1.heap _) fun h' hx'=>?_)))
 have I3:=I2.kept (h':=h') (t':=s1.toks) fun b o e=>hx' b o (Nat.ne_of_lt (Qz e)) e
 show wpAny _ _ (assignInOrder [fun v=>bindName X.env y v,fun v=>bindName X.env x v] [u2,u1] >>=fun _=>pure Flow.next) _ _ _
 refine QT (assignInOrder_cons (wpAny_bindName (gI I3 hN hj (.inl hy) qh (fun s2 I4=>?_) (.inr hy))))
 refine assignInOrder_cons (wpAny_bindName (gI I4 hN hi (.inl hx) rv (fun s3 I5=>assignInOrder_nil (QU ?_)) (.inr hx)))
 rw [List.set_comm _ _ (Ne.symm rm)] at I5
 exact ⟨_,H1,I5,q1⟩
def LZ (i:Nat) (te:TE) (ti:D0):TS:=fun D σ H=>∃ x,σ[i]? =some (some x)/\te σ H fun y H1=>ti x y H1 fun z H2=>D.nx (σ.set i (some z)) H2
theorem RY {op:Operator} {ti:D0} {pos':Pos} (hN:X.N.Nodup) (hi:X.N[i]? =some x) (hx:Loc X.env.scope x) (he:PE X e te) (ho:Im X op ti) (hf:X.fn x=true\/X.env.scope.names.lookup x=some .local:=by first | exact .inl rfl | exact .inr rfl | assumption):
  PS X (.AugAssign (.Name x pos') op e pos) (LZ i te ti):=by
 intro pins s σ H D I h
 obtain ⟨v,e1,h⟩:=h
 obtain ⟨m,hn,hl⟩:=I.loc
 have RZ:CD X.env.scope x:=by rcases hx with k | k;exact .inl k;exact .inr (.inl k)
 obtain ⟨u,r,l⟩:=hl i x v hi e1 RZ
 refine wpAny_AugAssign_Name ?_
 have go:wpAny (model X.prog X.w) X.A (eval e X.env) (fun w s₂=>wpAny (model X.prog X.w) X.A (inplaceOp op u w) (fun r s₃=>wpAny (model X.prog X.w) X.A (storeName X.env x r) (fun _=>SP X pins D .next) X.xe s₃) X.xe s₂) X.xe s:=by
  refine av (he pins s σ H _ I h) ?_
  rintro w s1 ⟨y,H1,I1,r1,q1⟩
  refine av (ho pins s1 σ H1 v y u w _ I1 r r1 q1) ?_
  rintro z s2 ⟨zv,H2,I2,r2,q2⟩
  exact gI I2 hN hi hx r2 (fun s3 I3=>⟨_,H2,I3,q2⟩) hf
 rcases l with ⟨hk,hm⟩ | ⟨hk,c,hc,F5⟩
 ·exact wpAny_loadName_local I.ok.kind hk hn hm go
 ·rcases hk with hk | hk
  ·exact wpAny_loadName_cell I.ok.kind hk hc F5 go
  ·rcases hx with k | k
   ·have:X.env.scope.names.lookup x=some .free:=hk
    rw [k] at this;cases this
   ·have:X.env.scope.names.lookup x=some .free:=hk
    rw [k] at this;cases this
def R0 (f:Int->Int->Int):D0:=fun x y H Q=>∃ i j,x=.int i/\y=.int j/\Q (.int (f i j)) H
theorem L0:Im X .Add (R0 fun i j=>i+j):=by
 intro pins s σ H x y v u Q I r1 r2 h
 obtain ⟨i,j,e1,e2,q⟩:=h
 subst e1;subst e2
 obtain ⟨t,rfl⟩:=r1
 obtain ⟨t',rfl⟩:=r2
 exact iadd_int ⟨.int _,H,I.tok _,⟨_,rfl⟩,q⟩
def L1 (c:TT) (tb:TS):TS:=fun D σ H=>∃ W:Nat->St->Hp->Prop,(∃ m,W m σ H)/\∀ m σ H,W m σ H->
 c σ H fun b H1=>if b=true then ∃ N:St->Hp->Prop,(∀ σ' H',N σ' H'->∃ m',m' < m/\W m' σ' H')/\tb {D with nx:=N,ct:=N,bk:=D.nx} σ H1 else D.nx σ H1
theorem yD {c:Expr} {tc:TT} {tb:TS} (hp:PassesOwn (model X.prog X.w) X.A X.env X.xe) (hc:PT X c tc) (hb:qf X body tb):PS X (.While c body [] pos) (L1 tc tb):=by
 intro pins s σ H D I h
 obtain ⟨W,⟨m0,w0⟩,turn⟩:=h
 refine wpAny_While (codeAny_whileLoop (fun n s'=>∃ σ' H',Inv X pins σ' H' s'/\W n σ' H') ?_ m0 ⟨σ,H,I,w0⟩)
 rintro n s1 ⟨σ1,H1,I1,w1⟩
 refine wpAny_passesOwn hp (av (hc pins s1 σ1 H1 _ I1 (turn n σ1 H1 w1)) ?_)
 rintro b s2 ⟨H2,I2,q2⟩
 cases b with
 | true=>
  obtain ⟨N,hN,q2⟩:=q2
  rw [if_pos rfl]
  refine wpAny_passesOwn hp (av (hb pins s2 σ1 H2 _ I2 q2) fun f s3 q3=>?_)
  cases f with
  | next=>
   obtain ⟨σ3,H3,I3,n3⟩:=q3
   obtain ⟨m',hm,w3⟩:=hN σ3 H3 n3
   exact ⟨m',hm,σ3,H3,I3,w3⟩
  | cont=>
   obtain ⟨σ3,H3,I3,n3⟩:=q3
   obtain ⟨m',hm,w3⟩:=hN σ3 H3 n3
   exact ⟨m',hm,σ3,H3,I3,w3⟩
  | brk=>exact q3
  | ret v=>exact q3
 | false=>
  rw [if_neg Bool.false_ne_true]
  exact wpAny_execs_nil ⟨σ1,H2,I2,q2⟩
end
structure It where
 go:Nat->Hp->Prop
 lg:Nat->Hp->V->Hp->Prop
 stop:Nat->Hp->Prop
def qi (X:Cx) (pins:List (Addr×Obj)) (H:Hp) (b:Addr):Prop:=
 H b=none/\b≠X.env.locals/\b ∉ X.fs/\(b∈X.ex\/X.s₀.heap.objs.size<=b)/\(∀ x c,X.env.cells.lookup x=some c->c≠b)/\∀ p∈X.pn++pins,p.1≠b
theorem Inv.z_ (I:Inv X pins σ H s) (hb:s.heap.objs.size<=b) (hn:H' b=none):qi X pins H' b:=by
 refine ⟨hn,Nat.ne_of_gt (Nat.lt_of_lt_of_le I.lt hb),I.Rj hb,.inr (Nat.le_trans I.sz hb),fun x c e z=>?_,fun p hp z=>?_⟩
 ·obtain ⟨v,q⟩:=I.cell x c e
  exact absurd (Nat.lt_of_lt_of_le q.lt (by rw [z];exact hb)) (Nat.lt_irrefl _)
 ·exact absurd (Nat.lt_of_lt_of_le (Qz (I.pin p hp).1) (by rw [z];exact hb)) (Nat.lt_irrefl _)
structure Turn (P:Program) (w:World) (K:Q0) (tg:Expr) (J:It) (fp:List Addr) (it:Addr) (tn:Nat->Heap->Prop):Prop where
 mem:it∈fp
 obj:∀ i h,tn i h->∀ b∈fp,∃ o,h.get? b=some o/\∀ v,o.data≠.cell v
 keep:∀ i h h',tn i h->(∀ b∈fp,∀ o,h.get? b=some o->h'.get? b=some o)->tn i h'
 item:∀ (X:Cx),X.prog=P->X.w=w->X.K=K->X.calm=true->∀ (i:Nat) (pins:List (Addr×Obj)) (s:Shared) (σ:St) (H:Hp) (E:Value->Shared->Prop),Inv X pins σ H s->(∀ b∈fp,qi X pins H b)->tn i s.heap->J.go i H->
  wpAny (model P w) X.A (pyNext (.ref it)) (fun r s1=>∃ u,r=some u/\
   wpAny (model P w) X.A (letOwnedTupleGo tg (.ref it) u) (fun _ s2=>∃ x H',Inv X pins σ H' s2/\RelV x u/\J.lg i H x H'/\tn (i+1) s2.heap/\∀ b∈fp,H' b=none) E s1) E s
 done:∀ (X:Cx),X.prog=P->X.w=w->X.K=K->X.calm=true->∀ (i:Nat) (pins:List (Addr×Obj)) (s:Shared) (σ:St) (H:Hp) (E:Value->Shared->Prop),Inv X pins σ H s->(∀ b∈fp,qi X pins H b)->tn i s.heap->J.stop i H->
  wpAny (model P w) X.A (pyNext (.ref it)) (fun r s1=>r=none/\Inv X pins σ H s1) E s
 self:∀ (A:Around) (i:Nat) (s:Shared) (Q:Value->Shared->Prop) (E:Value->Shared->Prop),tn i s.heap->Q (.ref it) s->wpAny (model P w) A (pyIter (.ref it)) Q E s
abbrev TI:=St->Hp->(It->Hp->Prop)->Prop
def CH (X:Cx) (pins:List (Addr×Obj)) (σ:St) (tg:Expr) (R:It->Hp->Prop) (qj:Value) (s2:Shared):Prop:=
 ∃ (it:Addr) (fp:List Addr) (tn:Nat->Heap->Prop) (J:It) (H':Hp),qj=.ref it/\Inv X pins σ H' s2/\Turn X.prog X.w X.K tg J fp it tn/\tn 0 s2.heap/\(∀ b∈fp,qi X pins H' b)/\R J H'
def PI (X:Cx) (tg iter:Expr) (wi:TI):Prop:=
 ∀ (pins:List (Addr×Obj)) (s:Shared) (σ:St) (H:Hp) (R:It->Hp->Prop),Inv X pins σ H s->wi σ H R->
  wpAny (model X.prog X.w) X.A (eval iter X.env) (fun v s1=>wpAny (model X.prog X.w) X.A (pyIter v) (CH X pins σ tg R) X.xe s1) X.xe s
theorem rO {M : Model} {A : Around} {E : Value -> Shared -> Prop} {s : Shared} {tg : Expr} {it : Addr} {u : Value} {o : Obj} {n : String} {vs : Array Value} {Q : Unit -> Shared -> Prop} (ho : s.heap.get? it = some o) (hc : o.cls = .type n) (hd : o.data = .fields vs)
    (hn : ["enumerate", "zip", "dict_itemiterator", "dict_reverseitemiterator", "odict_iterator", "itertools.zip_longest", "itertools.pairwise"].contains n = false) (hQ : Q () s) : wpAny M A (letOwnedTupleGo tg (.ref it) u) Q E s := by
  unfold letOwnedTupleGo
  cases tg <;> first
    | exact QU hQ
    | (cases u <;> first
        | exact QU hQ
        | (refine QT (wpAny_load ho ?_)
           rw [hc, hd]
           show wpAny M A (if (["enumerate", "zip", "dict_itemiterator", "dict_reverseitemiterator", "odict_iterator", "itertools.zip_longest", "itertools.pairwise"].contains n && vs[0]? == some (rawInt _)) = true then _ else _) Q E s
           rw [if_neg (by intro h; rw [hn, Bool.false_and] at h; cases h)]
           exact QU hQ))
def CI (K:Q0) (a:Addr):It:=
 ⟨fun i H=>∃ xs x,af K H a xs/\xs[i]? =some x,fun i H x H'=>H'=H/\∀ xs,af K H a xs->xs[i]? =some x,fun i H=>∃ xs,af K H a xs/\xs.length<=i⟩
def Io (K:Q0) (a:Addr):It:=
 ⟨fun i H=>∃ xs x,ae K H a xs/\xs[i]? =some x,fun i H x H'=>H'=H/\∀ xs,ae K H a xs->xs[i]? =some x,fun i H=>∃ xs,ae K H a xs/\xs.length<=i⟩
def F9 (lo:Int) (n:Nat):It:=⟨fun i _=>i < n,fun i H x H'=>H'=H/\x=.int (lo+i),fun i _=>n<=i⟩
theorem xF {K:Q0} (a it:Addr):Turn P w K tg (CI K a) [it] it (fun i h=>h.IsListIter it a i) where
 mem:=by simp
 obj:=fun i h st b hb=>by
  have e:b=it:=by simpa using hb
  subst e
  obtain ⟨o,e,c,d⟩:=st
  exact ⟨o,e,fun v z=>by rw [d] at z;cases z⟩
 keep:=fun i h h' st k=>st.at fun o e=>k it (by simp) o e
 item:=by
  intro X hP hw hK hc i pins s σ H E I hf st hg
  subst hP hw hK
  obtain ⟨xs,x,hq,hx⟩:=hg
  obtain ⟨its,rv,p,hz⟩:=I.list hq
  obtain ⟨u,hu,ru⟩:=rv.get hx
  obtain ⟨f0,f1,f2,f3,f4,f5⟩:=hf it (by simp)
  refine wpAny_pyNext_list_item st p.isList (x:=u) (by simpa using hu) fun h' st' sb=>?_
  have I1:Inv X pins σ H {s with heap:=h'}:=I.turned (t':=s.toks) (fun b o hb e=>(sb.2 b hb).trans e) f0 f1 f3 f4 f5
  obtain ⟨o,e,c,d⟩:=id st'
  exact ⟨u,rfl,rO (s:={s with heap:=h'}) e c d (by decide) ⟨x,H,I1,ru,⟨rfl,fun ys hy=>by rw [I.Ij hy hq];exact hx⟩,st',fun b hb=>(hf b hb).1⟩⟩
 done:=by
  intro X hP hw hK hc i pins s σ H E I hf st hg
  subst hP hw hK
  obtain ⟨xs,hq,hx⟩:=hg
  obtain ⟨its,rv,p,hz⟩:=I.list hq
  obtain ⟨f0,f1,f2,f3,f4,f5⟩:=hf it (by simp)
  have hl:=rv.length
  exact wpAny_pyNext_list_end (I.ok.hd hc) st p.isList (by simp;omega) fun h' eb=>⟨rfl,I.turned (t':=s.toks) (fun b o hb e=>eb b o hb e) f0 f1 f3 f4 f5⟩
 self:=fun _ _ _ _ _ st h=>wpAny_pyIter_listiter st h
theorem u9 {K:Q0} (a it:Addr):Turn P w K tg (Io K a) [it] it (fun i h=>h.IsTupleIter it a i) where
 mem:=by simp
 obj:=fun i h st b hb=>by
  have e:b=it:=by simpa using hb
  subst e
  obtain ⟨o,e,c,d⟩:=st
  exact ⟨o,e,fun v z=>by rw [d] at z;cases z⟩
 keep:=fun i h h' st k=>st.at fun o e=>k it (by simp) o e
 item:=by
  intro X hP hw hK hc i pins s σ H E I hf st hg
  subst hP hw hK
  obtain ⟨xs,x,hq,hx⟩:=hg
  obtain ⟨its,rv,p,hz⟩:=I.tuple hq
  obtain ⟨u,hu,ru⟩:=rv.get hx
  obtain ⟨f0,f1,f2,f3,f4,f5⟩:=hf it (by simp)
  refine wpAny_pyNext_tuple_item st (show s.heap.IsTuple a its.toArray from p) (x:=u) (by simpa using hu) fun h' st' sb=>?_
  have I1:Inv X pins σ H {s with heap:=h'}:=I.turned (t':=s.toks) (fun b o hb e=>(sb.2 b hb).trans e) f0 f1 f3 f4 f5
  obtain ⟨o,e,c,d⟩:=id st'
  exact ⟨u,rfl,rO (s:={s with heap:=h'}) e c d (by decide) ⟨x,H,I1,ru,⟨rfl,fun ys hy=>by rw [I.RC hy hq];exact hx⟩,st',fun b hb=>(hf b hb).1⟩⟩
 done:=by
  intro X hP hw hK hc i pins s σ H E I hf st hg
  subst hP hw hK
  obtain ⟨xs,hq,hx⟩:=hg
  obtain ⟨its,rv,p,hz⟩:=I.tuple hq
  obtain ⟨f0,f1,f2,f3,f4,f5⟩:=hf it (by simp)
  have hl:=rv.length
  exact wpAny_pyNext_tuple_end (I.ok.hd hc) st (show s.heap.IsTuple a its.toArray from p) (by simp;omega) fun h' eb=>⟨rfl,I.turned (t':=s.toks) (fun b o hb e=>eb b o hb e) f0 f1 f3 f4 f5⟩
 self:=fun _ _ _ _ _ st h=>wpAny_pyIter_tupleiter st h
theorem tD {K:Q0} (it:Addr) (lo:Int) (n:Nat):Turn P w K tg (F9 lo n) [it] it (fun i h=>IsRangeIter h it (lo+(i:Nat)*1) ((n:Int) - (i:Nat)) 1) where
 mem:=by simp
 obj:=fun i h st b hb=>by
  have e:b=it:=by simpa using hb
  subst e
  exact ⟨_,st,fun v z=>by
   have z':Data.fields _=Data.cell v:=z
   cases z'⟩
 keep:=fun i h h' st k=>k it (by simp) _ st
 item:=by
  intro X hP hw hK hc i pins s σ H E I hf st hg
  subst hP hw hK
  obtain ⟨f0,f1,f2,f3,f4,f5⟩:=hf it (by simp)
  have W:=Walks.range (prog:=X.prog) (w:=X.w) (I.ok.hd hc) it lo 1 n
  refine W.item i s _ _ hg st fun v h' tk hv st' kk=>?_
  obtain ⟨t,rfl⟩:=hv
  have I1:Inv X pins σ H {s with heap:=h',toks:=tk}:=I.turned (fun b o hb e=>kk b o (by simpa using hb) e) f0 f1 f3 f4 f5
  refine ⟨_,rfl,rO (s:={s with heap:=h',toks:=tk}) (n:="range_iterator") st' rfl rfl (by decide) ⟨.int (lo+i),H,I1,⟨t,?_⟩,⟨rfl,rfl⟩,st',fun b hb=>(hf b hb).1⟩⟩
  rw [Int.mul_one]
 done:=by
  intro X hP hw hK hc i pins s σ H E I hf st hg
  subst hP hw hK
  obtain ⟨f0,f1,f2,f3,f4,f5⟩:=hf it (by simp)
  exact wpAny_pyNext_range_end (I.ok.hd hc) st (by have:n<=i:=hg;omega) fun h' eb=>⟨rfl,I.turned (t':=s.toks) (fun b o hb e=>eb b o hb e) f0 f1 f3 f4 f5⟩
 self:=fun _ _ _ _ _ st h=>wpAny_pyIter_rangeiter st h
theorem zE {R:It->Hp->Prop} {lo hi:Int} {t u v:Tok} {tk:Nat} (I:Inv X pins σ H s) (h1: -(2^62)<=lo) (h2:lo < 2^62) (h3: -(2^62)<=hi) (h4:hi < 2^62)
  (q:R (F9 lo (hi - lo).toNat) H):wpAny (model X.prog X.w) X.A (pyIter (.ref s.heap.objs.size)) (CH X pins σ tg R) E {s with heap:=s.heap.push {cls:=.type "range",data:=.fields #[.int lo t,.int hi u,.int 1 v]},toks:=tk}:=by
 refine wpAny_pyIter_range (IsRange.new ..) (small_one h1 h2 h3 h4) ?_
 have I1:Inv X pins σ H {s with heap:=s.heap.push {cls:=.type "range",data:=.fields #[.int lo t,.int hi u,.int 1 v]},toks:=tk}:=I.kept fun b o e=>Qc _ e
 refine ⟨(s.heap.push {cls:=.type "range",data:=.fields #[.int lo t,.int hi u,.int 1 v]}).objs.size,[(s.heap.push {cls:=.type "range",data:=.fields #[.int lo t,.int hi u,.int 1 v]}).objs.size],_,_,H,rfl,
  I1.kept (t':=tk) fun b o e=>Qc _ e,tD _ lo (hi - lo).toNat,?_,fun b hb=>?_,q⟩
 ·have e1:lo+((0:Nat):Int)*1=lo:=by simp
  have e2:(((hi - lo).toNat:Nat):Int) - ((0:Nat):Int)=Builtin.Range.rangeSize lo hi 1:=by rw [rangeSize_one];split<;>omega
  show IsRangeIter _ _ (lo+((0:Nat):Int)*1) ((((hi - lo).toNat:Nat):Int) - ((0:Nat):Int)) 1
  rw [e1,e2]
  exact Qd _ rfl
 ·have e:b=(s.heap.push {cls:=.type "range",data:=.fields #[.int lo t,.int hi u,.int 1 v]}).objs.size:=by simpa using hb
  subst e
  exact I1.z_ (Qy _) (I1.hok.fresh (Qy _))
def L3 (ta:TA):TI:=fun σ H R=>ta σ H fun vs H1=>∃ j:Int,vs=[.int j]/\ -(2^62)<=j/\j < 2^62/\R (F9 0 j.toNat) H1
theorem xG {a:Expr} {ta:TA} {p pos:Pos} (hg:Gl X "range") (hm:X.mg "range"=none) (ha:PA X [a] ta) (hs:starEach [a] X.env=[(false,eval a X.env)]:=by rfl):PI X tg (.Call (.Name "range" p) [a] [] pos) (L3 ta):=by
 intro pins s σ H R I h
 refine Call_ (lQ I hg hm boot_range (PyProof.Rows.callWith_type1 (av (ha pos pins s σ H _ I h) fun us s1 ⟨vs,H1,I1,r1,q1⟩=>?_) hs rfl))
 obtain ⟨j,e,q1,q2,q⟩:=q1
 subst e
 cases r1 with
 | cons r rr=>
  cases rr
  obtain ⟨t,rfl⟩:=r
  exact call_range_1 (zE I1 (by omega) (by omega) q1 q2 (by simpa using q))
def L4 (wi:TI) (g:TG) (tb:TS):TS:=fun D σ H=>wi σ H fun J H1=>∃ W:Nat->Nat->St->Hp->Prop,(∃ m,W 0 m σ H1)/\∀ i m σ H,W i m σ H->
 (J.stop i H/\D.nx σ H)\/(J.go i H/\∃ N:St->Hp->Prop,(∀ σ' H',N σ' H'->∃ m',m' < m/\W (i+1) m' σ' H')/\∀ x H',J.lg i H x H'->g x σ H' fun σ2 H2=>tb {D with nx:=N,ct:=N,bk:=D.nx} σ2 H2)
def BI (fp:List Addr) (h:Heap):List (Addr×Obj):=fp.filterMap fun b=>(h.get? b).map fun o=>(b,o)
theorem cD {o:Obj} (hb:b∈fp) (e:h.get? b=some o):(b,o)∈BI fp h:=List.mem_filterMap.mpr ⟨b,hb,by rw [e];rfl⟩
theorem wR {p:Addr×Obj} (hp:p∈BI fp h):p.1∈fp/\h.get? p.1=some p.2:=by
 obtain ⟨b,hb,e⟩:=List.mem_filterMap.mp hp
 cases q:h.get? b with
 | none=>rw [q] at e;cases e
 | some o=>
  rw [q] at e
  have e':(b,o)=p:=QD e
  subst e'
  exact ⟨hb,q⟩
theorem Inv.pinned (I:Inv X pins σ H s) (hf:∀ b∈fp,qi X pins H b) (ho:∀ b∈fp,∃ o,s.heap.get? b=some o/\∀ v,o.data≠.cell v):Inv X (pins++BI fp s.heap) σ H s:=
 I.LM fun p hp=>(List.mem_append.mp hp).elim (fun z=>I.pin p (List.mem_append_right _ z)) fun z=>by
  obtain ⟨hb,e⟩:=wR z
  obtain ⟨f0,f1,f2,_⟩:=hf p.1 hb
  obtain ⟨o,e',d⟩:=ho p.1 hb
  rw [e] at e';cases e'
  exact ⟨e,f0,f1,f2,d⟩
theorem Inv.CJ {pl:List (Addr×Obj)} (I:Inv X (pins++pl) σ H s):Inv X pins σ H s:=I.LM fun p hp=>I.pin p (List.mem_append_right _ (List.mem_append_left _ hp))
theorem R1 {iter:Expr} {wi:TI} {g:TG} {tb:TS} {pos:Pos} (hp:PassesOwn (model X.prog X.w) X.A X.env X.xe) (hc:X.calm=true) (hi:PI X tg iter wi) (hg:PG X tg g) (hb:qf X body tb)
  (hs:∀ x,foldedSetIterable iter X.env x=pure x:=by intro _;rfl):PS X (.For tg iter body [] pos) (L4 wi g tb):=by
 intro pins s σ H D I h
 refine wpAny_For (av (hi pins s σ H _ I h) fun v s1 h1=>av h1 fun qj s2 h2=>?_) hs
 obtain ⟨it,fp,tn,J,H2,e,I2,T,fq,f2,W,⟨m0,w0⟩,turn⟩:=h2
 subst e
 -- R3 stays true of BJ aae objects through BJ loop
 have qm:∀ {H':Hp},(∀ b∈fp,H' b=none)->∀ b∈fp,qi X pins H' b:=fun hn b hb=>⟨hn b hb,(f2 b hb).2⟩
 refine codeAny_forLoop_any (fun n s'=>∃ i σ' H',Inv X pins σ' H' s'/\tn i s'.heap/\(∀ b∈fp,H' b=none)/\W i n σ' H') ?_ m0 ⟨0,σ,H2,I2,fq,fun b hb=>(f2 b hb).1,w0⟩
 rintro n s3 ⟨i,σ3,H3,I3,wz,w_,w3⟩
 rcases turn i n σ3 H3 w3 with ⟨stop,qn⟩ | ⟨go,N,hN,step⟩
 ·refine wpAny_passesOwn hp (av (T.done X rfl rfl rfl hc i pins s3 σ3 H3 X.xe I3 (qm w_) wz stop) ?_)
  rintro r s4 ⟨hr,I4⟩
  subst hr
  exact wpAny_execs_nil ⟨σ3,H3,I4,qn⟩
 ·refine wpAny_passesOwn hp (av (T.item X rfl rfl rfl hc i pins s3 σ3 H3 X.xe I3 (qm w_) wz go) ?_)
  rintro r s4 ⟨u,hr,h4⟩
  subst hr
  refine wpAny_passesOwn hp (av h4 ?_)
  rintro _ s5 ⟨x,H5,I5,r5,y5,qo,BK⟩
  have BL:=I5.pinned (qm BK) (T.obj _ _ qo)
  refine wpAny_passesOwn hp (av (hg _ s5 σ3 H5 x u _ BL r5 (step x H5 y5)) ?_)
  rintro _ s6 ⟨σ6,H6,I6,q6⟩
  refine wpAny_passesOwn hp (av (hb _ s6 σ6 H6 _ I6 q6) fun f s7 q7=>?_)
  have again:∀ {σ7:St} {H7:Hp},Inv X (pins++BI fp s5.heap) σ7 H7 s7->N σ7 H7->∃ m,m < n/\∃ i σ' H',Inv X pins σ' H' s7/\tn i s7.heap/\(∀ b∈fp,H' b=none)/\W i m σ' H':=fun {σ7 H7} I7 n7=>by
   obtain ⟨m',hm,w7⟩:=hN σ7 H7 n7
   refine ⟨m',hm,i+1,σ7,H7,I7.CJ,T.keep _ _ _ qo fun b hb o e=>(I7.pin (b,o) (List.mem_append_right _ (List.mem_append_right _ (cD hb e)))).1,fun b hb=>?_,w7⟩
   obtain ⟨o,e,d⟩:=T.obj _ _ qo b hb
   exact (I7.pin (b,o) (List.mem_append_right _ (List.mem_append_right _ (cD hb e)))).2.1
  cases f with
  | next=>obtain ⟨σ7,H7,I7,n7⟩:=q7;exact again I7 n7
  | cont=>obtain ⟨σ7,H7,I7,n7⟩:=q7;exact again I7 n7
  | brk=>obtain ⟨σ7,H7,I7,q7⟩:=q7;exact ⟨σ7,H7,I7.CJ,q7⟩
  | ret v=>obtain ⟨x7,σ7,H7,I7,r7,q7⟩:=q7;exact ⟨x7,σ7,H7,I7.CJ,r7,q7⟩
abbrev R2:=V->V->Hp->VK->Prop
def c_ (X:Cx) (f:Value->Value->Sem Value) (r:R2):Prop:=
 ∀ (pins:List (Addr×Obj)) (s:Shared) (σ:St) (H:Hp) (x y:V) (v u:Value) (Q:VK),Inv X pins σ H s->RelV x v->RelV y u->r x y H Q->
  wpAny (model X.prog X.w) X.A (f v u) (EP X pins σ Q) X.xe s
def F_ (X:Cx) (f:Value->Sem Value) (r:V->Hp->VK->Prop):Prop:=
 ∀ (pins:List (Addr×Obj)) (s:Shared) (σ:St) (H:Hp) (x:V) (v:Value) (Q:VK),Inv X pins σ H s->RelV x v->r x H Q->
  wpAny (model X.prog X.w) X.A (f v) (EP X pins σ Q) X.xe s
def rn (X:Cx) (f:Value) (r:List V->Hp->VK->Prop):Prop:=
 ∀ (pins:List (Addr×Obj)) (s:Shared) (σ:St) (H:Hp) (xs:List V) (us:List Value) (Q:VK),Inv X pins σ H s->be xs us->r xs H Q->
  wpAny (model X.prog X.w) X.A (call f us) (EP X pins σ Q) X.xe s
def j_ (r:R2) (ta tb:TE):TE:=fun σ H Q=>ta σ H fun x H1=>tb σ H1 fun y H2=>r x y H2 Q
def L5 (r:V->Hp->VK->Prop) (ta:TE):TE:=fun σ H Q=>ta σ H fun x H1=>r x H1 Q
def rI (C:Int->Int->Prop) (g:Int->Int->V):R2:=fun x y H Q=>∃ i j,x=.int i/\y=.int j/\C i j/\Q (g i j) H
def CK (g:Int->Int->V):R2:=fun x y H Q=>∃ i j,x=.int i/\y=.int j/\Q (g i j) H
def rU (g:Int->V):V->Hp->VK->Prop:=fun x H Q=>∃ i,x=.int i/\Q (g i) H
section
variable {a b c:Expr} {ta tb tc:TE} {pos:Pos}
theorem Ip (ha:PE X a ta) (hb:PE X b tb) {R:V->V->Hp->Prop} (I:Inv X pins σ H s)
  (h:ta σ H fun x H1=>tb σ H1 fun y H2=>R x y H2) {Q:Value->Shared->Prop} {f:Value->Value->Sem Value}
  (hf:∀ v u s2 x y H2,Inv X pins σ H2 s2->RelV x v->RelV y u->R x y H2->wpAny (model X.prog X.w) X.A (f v u) Q X.xe s2):
  wpAny (model X.prog X.w) X.A (eval a X.env) (fun v s₁=>wpAny (model X.prog X.w) X.A (eval b X.env) (fun u s₂=>wpAny (model X.prog X.w) X.A (f v u) Q X.xe s₂) X.xe s₁) X.xe s:=by
 refine av (ha pins s σ H _ I h) ?_
 rintro v s1 ⟨x,H1,I1,r1,q1⟩
 refine av (hb pins s1 σ H1 _ I1 q1) ?_
 rintro u s2 ⟨y,H2,I2,r2,q2⟩
 exact hf v u s2 x y H2 I2 r1 r2 q2
theorem R4 {op:Operator} {r:R2} (ho:c_ X (binaryOp op) r) (ha:PE X a ta) (hb:PE X b tb):PE X (.BinOp a op b pos) (j_ r ta tb):=by
 intro pins s σ H Q I h
 exact wpAny_BinOp (Ip ha hb I h fun v u s2 x y H2 I2 rx ry q=>ho pins s2 σ H2 x y v u Q I2 rx ry q)
theorem R5 {op:UnaryOp} {r:V->Hp->VK->Prop} (ho:F_ X (unaryOp op) r) (ha:PE X a ta):PE X (.UnaryOp op a pos) (L5 r ta):=by
 intro pins s σ H Q I h
 exact UnaryOp_ (av (ha pins s σ H _ I h) fun v s1 ⟨x,H1,I1,r1,q1⟩=>ho pins s1 σ H1 x v Q I1 r1 q1)
theorem Ga {f:Value->Value->Sem Value} {C:Int->Int->Prop} {g:Int->Int->Int}
  (rule:∀ (i j:Int) (t u:Tok) (s:Shared) (Q:Value->Shared->Prop) (E:Value->Shared->Prop),C i j->Q (.int (g i j) s.toks) {s with toks:=s.toks+1}->wpAny (model X.prog X.w) X.A (f (.int i t) (.int j u)) Q E s):
  c_ X f (rI C fun i j=>.int (g i j)):=by
 intro pins s σ H x y v u Q I rx ry h
 obtain ⟨i,j,rfl,rfl,hc,q⟩:=h
 obtain ⟨t,rfl⟩:=rx
 obtain ⟨t',rfl⟩:=ry
 exact rule i j t t' s _ _ hc ⟨.int (g i j),H,I.tok _,⟨_,rfl⟩,q⟩
theorem R6 {f:Value->Value->Sem Value} {g:Int->Int->Int}
  (rule:∀ (i j:Int) (t u:Tok) (s:Shared) (Q:Value->Shared->Prop) (E:Value->Shared->Prop),Q (.int (g i j) s.toks) {s with toks:=s.toks+1}->wpAny (model X.prog X.w) X.A (f (.int i t) (.int j u)) Q E s):
  c_ X f (CK fun i j=>.int (g i j)):=by
 intro pins s σ H x y v u Q I rx ry h
 obtain ⟨i,j,rfl,rfl,q⟩:=h
 obtain ⟨t,rfl⟩:=rx
 obtain ⟨t',rfl⟩:=ry
 exact rule i j t t' s _ _ ⟨.int (g i j),H,I.tok _,⟨_,rfl⟩,q⟩
theorem Iq {f:Value->Value->Sem Value} {g:Int->Int->Bool}
  (rule:∀ (i j:Int) (t u:Tok) (s:Shared) (Q:Value->Shared->Prop) (E:Value->Shared->Prop),Q (.bool (g i j)) s->wpAny (model X.prog X.w) X.A (f (.int i t) (.int j u)) Q E s):
  c_ X f (CK fun i j=>.bl (g i j)):=by
 intro pins s σ H x y v u Q I rx ry h
 obtain ⟨i,j,rfl,rfl,q⟩:=h
 obtain ⟨t,rfl⟩:=rx
 obtain ⟨t',rfl⟩:=ry
 exact rule i j t t' s _ _ ⟨.bl (g i j),H,I,rfl,q⟩
def R7 (i j:Int):Prop:=0 < j/\j < 1073741824
def L6 (i j:Int):Prop:=0<=j/\j<=1000000/\i.natAbs < 2^64
def Gb (i j:Int):Prop:=(-(2^64) < i/\i < 2^64)\/(-(2^64) < j/\j < 2^64)
theorem Gb.ok {i j:Int} (h:Gb i j):IntMulOk i j:=by
 rcases h with ⟨h1,h2⟩ | ⟨h1,h2⟩
 ·exact .of_left (intBits_le_64 h1 h2)
 ·exact .of_right (intBits_le_64 h1 h2)
theorem R8:c_ X (binaryOp .Add) (CK fun i j=>.int (i+j)):=R6 fun _ _ _ _ _ _ _ q=>add_int q
theorem R9:c_ X (binaryOp .Mult) (rI Gb fun i j=>.int (i*j)):=Ga fun _ _ _ _ _ _ _ hc q=>mul_int q hc.ok
theorem R_:c_ X (binaryOp .FloorDiv) (rI R7 fun i j=>.int (i / j)):=Ga fun i j _ _ _ _ _ hc q=>by
 have h1:(0:Int) < j:=hc.1
 have h2:j < 1073741824:=hc.2
 exact floordiv_int (by omega) (by rw [Int.fdiv_eq_ediv_of_nonneg i (by omega)];exact q) (.inl (PyProof.noPylong_small (by omega)))
theorem Sa:c_ X (binaryOp .Mod) (rI (fun _ j=>0 < j) fun i j=>.int (i % j)):=Ga fun i j _ _ _ _ _ hc q=>by
 have h1:(0:Int) < j:=hc
 exact mod_int' (by omega) (by rw [Int.fmod_eq_emod_of_nonneg i (by omega)];exact q)
theorem Sb:c_ X (binaryOp .Pow) (rI L6 fun i j=>.int (i^j.toNat)):=Ga fun _ _ _ _ _ _ _ hc q=>pow_int_small hc.1 hc.2.1 hc.2.2 q
theorem Sd {f:Value->Sem Value} {g:Int->Int}
  (rule:∀ (i:Int) (t:Tok) (s:Shared) (Q:Value->Shared->Prop) (E:Value->Shared->Prop),Q (.int (g i) s.toks) {s with toks:=s.toks+1}->wpAny (model X.prog X.w) X.A (f (.int i t)) Q E s):
  F_ X f (rU fun i=>.int (g i)):=by
 intro pins s σ H x v Q I rx h
 obtain ⟨i,rfl,q⟩:=h
 obtain ⟨t,rfl⟩:=rx
 exact rule i t s _ _ ⟨.int (g i),H,I.tok _,⟨_,rfl⟩,q⟩
theorem Se:F_ X (unaryOp .USub) (rU fun i=>.int (-i)):=Sd fun _ _ _ _ _ q=>neg_int q
end
def D5:V->V->Bool
 | .ai,.ai=>true | .ai,.int _=>true | .int _,.ai=>true | .ai,.bl _=>true | .bl _,.ai=>true | .ai,.str _=>true | .str _,.ai=>true
 | .int _,.int _=>true | .bl _,.bl _=>true | .str _,.str _=>true | .rj _,.rj _=>true
 | .int _,.str _=>true | .str _,.int _=>true | .bl _,.str _=>true | .str _,.bl _=>true
 | _,_=>false
def Sf:R2:=fun x y H Q=>D5 x y=true/\Q (.bl (decide (x=y))) H
def Sg:R2:=fun x y H Q=>D5 x y=true/\Q (.bl (!decide (x=y))) H
theorem uP {i j:Int}:decide (V.int i=V.int j)=(i==j):=by
 rw [Bool.eq_iff_iff]
 simp
theorem zP {i j:Bool}:decide (V.bl i=V.bl j)=(i==j):=by
 rw [Bool.eq_iff_iff]
 simp
theorem vD {i j:Str}:decide (V.str i=V.str j)=(i==j):=by
 rw [Bool.eq_iff_iff]
 simp
theorem vS {i j:Array UInt8}:decide (V.rj i=V.rj j)=(i.toList==j.toList):=by
 rw [Bool.eq_iff_iff]
 cases i
 cases j
 simp
section
variable {a b c:Expr} {ta tb tc:TE} {pos:Pos}
theorem aX {Q:VK} {k k':Bool} (I:Inv X pins σ H s) (q:Q (.bl k) H) (e:k=k'):EP X pins σ Q (.bool k') s:=by
 subst e
 exact ⟨.bl k,H,I,rfl,q⟩
theorem Sh:c_ X (compareOp .Eq) Sf:=by
 intro pins s σ H x y v u Q I rx ry h
 obtain ⟨hs,q⟩:=h
 cases x with
 | ai=>
  cases rx
  cases y with
  | ai=>cases ry;exact PySem.EqNone.eq_none_none (aX I q (by simp))
  | bl j=>cases ry;exact PySem.EqNone.eq_none_bool (aX I q (by simp))
  | int j=>obtain ⟨t',rfl⟩:=ry;exact PySem.EqNone.eq_none_int (aX I q (by simp))
  | str j=>obtain ⟨t',rfl⟩:=ry;exact PySem.EqNone.eq_none_str (aX I q (by simp))
  | _=>exact absurd (show false=true from hs) Bool.false_ne_true
 | bl i=>
  cases rx
  cases y with
  | ai=>cases ry;exact PySem.EqNone.eq_bool_none (aX I q (by simp))
  | bl j=>cases ry;exact eq_bool (aX I q zP)
  | str j=>obtain ⟨t',rfl⟩:=ry;exact PySem.EqMixed.eq_bool_str (aX I q (by simp))
  | _=>exact absurd (show false=true from hs) Bool.false_ne_true
 | int i=>
  obtain ⟨t,rfl⟩:=rx
  cases y with
  | ai=>cases ry;exact PySem.EqNone.eq_int_none (aX I q (by simp))
  | int j=>obtain ⟨t',rfl⟩:=ry;exact eq_int (aX I q uP)
  | str j=>obtain ⟨t',rfl⟩:=ry;exact PySem.EqMixed.eq_int_str (aX I q (by simp))
  | _=>exact absurd (show false=true from hs) Bool.false_ne_true
 | str i=>
  obtain ⟨t,rfl⟩:=rx
  cases y with
  | ai=>cases ry;exact PySem.EqNone.eq_str_none (aX I q (by simp))
  | bl j=>cases ry;exact PySem.EqMixed.eq_str_bool (aX I q (by simp))
  | int j=>obtain ⟨t',rfl⟩:=ry;exact PySem.EqMixed.eq_str_int (aX I q (by simp))
  | str j=>obtain ⟨t',rfl⟩:=ry;exact eq_str (aX I q vD)
  | _=>exact absurd (show false=true from hs) Bool.false_ne_true
 | rj i=>
  obtain ⟨t,rfl⟩:=rx
  cases y with
  | rj j=>obtain ⟨t',rfl⟩:=ry;exact PySem.W.eq_bytes (aX I q vS)
  | _=>exact absurd (show false=true from hs) Bool.false_ne_true
 | _=>cases y<;>exact absurd (show false=true from hs) Bool.false_ne_true
theorem Si:c_ X (compareOp .NotEq) Sg:=by
 intro pins s σ H x y v u Q I rx ry h
 obtain ⟨hs,q⟩:=h
 cases x with
 | ai=>
  cases rx
  cases y with
  | ai=>cases ry;exact PySem.EqNone.ne_none_none (aX I q (by simp))
  | bl j=>cases ry;exact PySem.EqNone.ne_none_bool (aX I q (by simp))
  | int j=>obtain ⟨t',rfl⟩:=ry;exact PySem.EqNone.ne_none_int (aX I q (by simp))
  | str j=>obtain ⟨t',rfl⟩:=ry;exact PySem.EqNone.ne_none_str (aX I q (by simp))
  | _=>exact absurd (show false=true from hs) Bool.false_ne_true
 | bl i=>
  cases rx
  cases y with
  | ai=>cases ry;exact PySem.EqNone.ne_bool_none (aX I q (by simp))
  | bl j=>cases ry;exact ne_bool (aX I q (congrArg not zP))
  | str j=>obtain ⟨t',rfl⟩:=ry;exact PySem.EqMixed.ne_bool_str (aX I q (by simp))
  | _=>exact absurd (show false=true from hs) Bool.false_ne_true
 | int i=>
  obtain ⟨t,rfl⟩:=rx
  cases y with
  | ai=>cases ry;exact PySem.EqNone.ne_int_none (aX I q (by simp))
  | int j=>obtain ⟨t',rfl⟩:=ry;exact ne_int (aX I q (congrArg not uP))
  | str j=>obtain ⟨t',rfl⟩:=ry;exact PySem.EqMixed.ne_int_str (aX I q (by simp))
  | _=>exact absurd (show false=true from hs) Bool.false_ne_true
 | str i=>
  obtain ⟨t,rfl⟩:=rx
  cases y with
  | ai=>cases ry;exact PySem.EqNone.ne_str_none (aX I q (by simp))
  | bl j=>cases ry;exact PySem.EqMixed.ne_str_bool (aX I q (by simp))
  | int j=>obtain ⟨t',rfl⟩:=ry;exact PySem.EqMixed.ne_str_int (aX I q (by simp))
  | str j=>obtain ⟨t',rfl⟩:=ry;exact ne_str (aX I q (congrArg not vD))
  | _=>exact absurd (show false=true from hs) Bool.false_ne_true
 | rj i=>
  obtain ⟨t,rfl⟩:=rx
  cases y with
  | rj j=>obtain ⟨t',rfl⟩:=ry;exact PySem.W.ne_bytes (aX I q (congrArg not vS))
  | _=>exact absurd (show false=true from hs) Bool.false_ne_true
 | _=>cases y<;>exact absurd (show false=true from hs) Bool.false_ne_true
theorem Sj:c_ X (compareOp .Lt) (CK fun i j=>.bl (decide (i < j))):=Iq fun _ _ _ _ _ _ _ q=>lt_int q
theorem Sk:c_ X (compareOp .Gt) (CK fun i j=>.bl (decide (j < i))):=Iq fun _ _ _ _ _ _ _ q=>gt_int q
theorem Sl:c_ X (compareOp .GtE) (CK fun i j=>.bl (decide (j<=i))):=Iq fun _ _ _ _ _ _ _ q=>ge_int q
theorem vX:c_ X (compareOp .Lt) (fun x y H Q=>∃ i j,x=.str i/\y=.str j/\Q (.bl (decide (i.cps.toList < j.cps.toList))) H):=by
 intro pins s σ H x y v u Q I rx ry h
 obtain ⟨i,j,rfl,rfl,q⟩:=h
 obtain ⟨t,rfl⟩:=rx
 obtain ⟨t',rfl⟩:=ry
 exact lt_str (aX I q rfl)
theorem wQ:c_ X (compareOp .In) (fun x y H Q=>∃ i j,x=.str i/\y=.str j/\Q (.bl (!(Builtin.Str.occurrences j i 0 j.length 1).isEmpty)) H):=by
 intro pins s σ H x y v u Q I rx ry h
 obtain ⟨i,j,rfl,rfl,q⟩:=h
 obtain ⟨t,rfl⟩:=rx
 obtain ⟨t',rfl⟩:=ry
 exact in_str (aX I q rfl)
theorem Sn:c_ X (compareOp .Is) (fun x y H Q=>y=.ai/\Q (.bl (decide (x=.ai))) H):=by
 intro pins s σ H x y v u Q I rx ry h
 obtain ⟨rfl,q⟩:=h
 cases ry
 refine is_none_gen (aX I q ?_)
 cases x<;>first
  | (cases rx;rfl)
  | (obtain ⟨t,rfl⟩:=rx;rfl)
theorem So:c_ X (compareOp .IsNot) (fun x y H Q=>y=.ai/\Q (.bl (!decide (x=.ai))) H):=by
 intro pins s σ H x y v u Q I rx ry h
 obtain ⟨rfl,q⟩:=h
 cases ry
 refine isnot_none_gen (aX I q ?_)
 cases x<;>first
  | (cases rx;rfl)
  | (obtain ⟨t,rfl⟩:=rx;rfl)
theorem e_ (b:Expr) (h:op≠.In:=by decide) (h2:op≠.NotIn:=by decide):behindInMarks op b=false:=by
 have e1:(op==CmpOp.In)=false:=by cases op<;>first | rfl | exact absurd rfl h
 have e2:(op==CmpOp.NotIn)=false:=by cases op<;>first | rfl | exact absurd rfl h2
 cases b<;>simp [behindInMarks,e1,e2]
theorem Sq {r:R2} (ho:c_ X (compareOp op) r) (ha:PE X a ta) (hb:PE X b tb) (hm:behindInMarks op b=false):PE X (.Compare a [op] [b] pos) (j_ r ta tb):=by
 intro pins s σ H Q I h
 exact wpAny_Compare1 (Ip ha hb I h fun v u s2 x y H2 I2 rx ry q=>ho pins s2 σ H2 x y v u Q I2 rx ry q) hm
def Gc (t:TE):TT:=fun σ H Q=>t σ H fun x H'=>∃ k,x=.bl k/\Q k H'
theorem Ss {r:R2} (ho:c_ X (compareOp op) r) (ha:PE X a ta) (hb:PE X b tb) (hm:behindInMarks op b=false):PT X (.Compare a [op] [b] pos) (Gc (j_ r ta tb)):=by
 intro pins s σ H Q I h
 refine wpAny_isTrue_Compare1 (av (ha pins s σ H _ I h) fun v s1 ⟨x,H1,I1,r1,q1⟩=>av (hb pins s1 σ H1 _ I1 q1) fun u s2 ⟨y,H2,I2,r2,q2⟩=>
  av (ho pins s2 σ H2 x y v u _ I2 r1 r2 q2) fun c s3 ⟨z,H3,I3,r3,k,e,q3⟩=>?_) hm
 subst e
 cases r3
 exact wpAny_truthy_bool ⟨H3,I3,q3⟩
theorem D6:(sizeLine:Nat) < 2^63:=by rw [QL];decide
theorem sM:c_ X (binaryOp .Add) (fun x y H Q=>∃ i j,x=.str i/\y=.str j/\i.length+j.length<=sizeLine/\Q (.str (i++j)) H):=by
 intro pins s σ H x y v u Q I rx ry h
 obtain ⟨i,j,rfl,rfl,hz,q⟩:=h
 obtain ⟨t,rfl⟩:=rx
 obtain ⟨t',rfl⟩:=ry
 exact add_str (fun t' tk=>⟨.str (i++j),H,I.tok _,⟨_,rfl⟩,q⟩) hz
theorem vals1 {x:V} (r:be [x] us):∃ u,us=[u]/\RelV x u:=by
 cases r with
 | cons r1 r2=>cases r2;exact ⟨_,rfl,r1⟩
def Su (K:Q0) (x:V) (H:Hp) (n:Nat):Prop:=
 match x with
 | .str y=>y.length<=sizeLine/\n=y.length
 | .rj y=>y.size<=sizeLine/\n=y.size
 | .ref p=>(∃ xs,af K H p xs/\n=xs.length)\/∃ xs,ae K H p xs/\n=xs.length
 | _=>False
theorem m4:rn X (.builtin "len") (fun xs H Q=>∃ x n,xs=[x]/\Su X.K x H n/\Q (.int n) H):=by
 intro pins s σ H xs us Q I r h
 obtain ⟨x,n,rfl,e,q⟩:=h
 obtain ⟨u,rfl,rx⟩:=vals1 r
 have hl:=D6
 have hs:sizeLine=16777216:=QL
 cases x with
 | str y=>
  obtain ⟨t,rfl⟩:=rx
  obtain ⟨hy,e'⟩:y.length<=sizeLine/\n=y.length:=e
  subst e'
  exact len_str (by omega) ⟨.int _,H,I.tok _,⟨_,rfl⟩,q⟩
 | rj y=>
  obtain ⟨t,rfl⟩:=rx
  obtain ⟨hy,e'⟩:y.size<=sizeLine/\n=y.size:=e
  subst e'
  exact PySem.W.len_bytes (by omega) ⟨.int _,H,I.tok _,⟨_,rfl⟩,q⟩
 | ref p=>
  cases rx
  have e':(∃ xs,af X.K H p xs/\n=xs.length)\/∃ xs,ae X.K H p xs/\n=xs.length:=e
  rcases e' with ⟨xs,hx,e'⟩ | ⟨xs,hx,e'⟩
  ·subst e'
   obtain ⟨its,r',pl,hz⟩:=I.list hx
   have fi:=r'.length
   exact Calls.call_len_list pl.isList (by simp only [List.size_toArray];omega) ⟨.int xs.length,H,I.tok _,⟨_,by simp only [List.size_toArray];rw [fi]⟩,q⟩
  ·subst e'
   obtain ⟨its,r',pl,hz⟩:=I.tuple hx
   have fi:=r'.length
   exact len_tuple pl (by simp only [List.size_toArray];omega) ⟨.int xs.length,H,I.tok _,⟨_,by simp only [List.size_toArray];rw [fi]⟩,q⟩
 | _=>exact (show False from e).elim
end
structure CM (h:Heap) (x dx C:Addr) (mA:Str->Option Value):Prop where
 obj:h.get? x=some (PySem.W.instObj C dx)
 ns:h.Ns1 dx mA
 ne:dx≠x
theorem wL {dx:Addr} (n:h.Ns1 dx mA):∃ od,h.get? dx=some od/\∀ name,PySem.W.lookIn name od=some (mA name):=by
 obtain ⟨o,es,ep,ho,hd,hk,_,hm⟩:=n
 refine ⟨o,ho,fun name=>?_⟩
 have e:=hm name
 unfold nsFind findBy at e
 rw [<- Array.find?_toList] at e
 unfold PySem.W.lookIn
 rw [hd]
 dsimp only
 split
 ·rename_i y q
  rw [q] at e
  exact congrArg some e
 ·rename_i q
  rw [q] at e
  have a:es.toList.any (·.refKey)=false:=by
   rw [List.any_eq_false]
   intro y hy
   obtain ⟨z,t,Sv⟩:=hk y (Array.mem_toList_iff.mp hy)
   simp [DictEntry.refKey,Sv]
  have a':¬es.toList.any (·.refKey)=true:=by rw [a];exact Bool.false_ne_true
  rw [if_neg a']
  exact congrArg some e
theorem CM.look {x dx:Addr} (I:CM h x dx C mA):∃ od,PySem.W.InstAt h x (PySem.W.instObj C dx) C (some od)/\∀ name,PySem.W.lookIn name od=some (mA name):=
 let ⟨od,ho,hl⟩:=wL I.ns
 ⟨od,⟨I.obj,rfl,rfl,ho⟩,hl⟩
section
variable {K:Q0} {x dx f:Addr} {v:Value}
theorem Sw {expr:Bool} (X:K.In s.heap) (I:CM s.heap x dx C mA) (hg:PySem.W.plainGet K C name=true) (hh:PySem.W.hasDictIn K C=true)
  (ha:PySem.W.findIn K (.ref C) name=some none) (hv:mA name=some v) (D7:PySem.W.handedIn v=true) (h:Q v {s with toks:=s.toks+1}):
  wpAny (model prog w) A (getAttr (.ref x) name expr) Q E s:=by
 obtain ⟨od,J,hl⟩:=I.look
 exact PySem.W.get_value X J (PySem.W.plainGet_of hg).1 (PySem.W.findObj_own hh ha rfl (by rw [hl,hv])) D7 h
theorem Sy {Q:Unit->Shared->Prop} (X:K.In s.heap) (I:CM s.heap x dx C mA)
  (hs:PySem.W.findIn K (.ref C) "__setattr__"=some (some (.builtin "object.__setattr__"))) (hp:PySem.W.plainOver K C=true) (ht:PySem.W.takerIn K C name=some none) (hh:PySem.W.hasDictIn K C=true)
  (hw:PySem.Within mA ns) (hsz:ns.length<=sizeLine)
  (h:∀ h',CM h' x dx C (fun y=>if y=name then some v else mA y)->Heap.SameBut dx s.heap h'->Q () {s with heap:=h',toks:=s.toks+2}):
  wpAny (model prog w) A (setAttr (.ref x) name v) Q E s:=by
 obtain ⟨od,J,hl⟩:=I.look
 refine PySem.W.set_plain X J hs (PySem.W.osa_open (s:={s with toks:=s.toks+1}) (r:=none) X J hp ht fun b=>?_)
 obtain ⟨cd,hc,Ih⟩:=PySem.W.any_some hh
 have hx:s.heap.get? x=some ⟨.ref C,some dx,.plain,#[]⟩:=I.obj
 refine QT (QU (QT (QT (wpAny_loadPart hx (QT (PySem.W.Looks.here (s:={s with toks:=s.toks+1}) (PySem.W.looks_clsIn X hc) ?_))))))
 rw [Ih]
 refine QU (a:=some dx) (QT (QU (QT ?_)))
 refine wpAny_nsSet1 (s:={s with toks:=s.toks+1}) I.ns fun h' hn2 xf=>?_
 obtain ⟨oD,esD,epD,Sz,SD,SH⟩:=hn2.count (PySem.Within.cons name v hw)
 refine QT (wpAny_lookBehind Sz (by rw [SD];exact pastItsLine_dict (Nat.le_trans SH (by rw [List.length_cons];omega))) ?_)
 exact QU (h _ ⟨(xf.2 _ (Ne.symm I.ne)).trans I.obj,hn2,I.ne⟩ xf)
theorem zL (X:K.In s.heap) (hm:PySem.W.makesIn K C=true)
  (hi:PySem.W.findIn K (.ref C) "__init__"=some (some (.ref f))) (hf:PySem.W.typeIn K (.ref f)=some (.type "function"))
  (h:codeAny (model prog w) (A.under (.builtin "type.__call__" ⟨.ref C::vs,kw⟩)) (.call (.ref f) ⟨.ref (s.heap.objs.size+1)::vs,kw⟩) (PySem.W.InitBack (s.heap.objs.size+1) R)
   {s with heap:=(s.heap.push PySem.W.emptyDict).push (PySem.W.instObj C s.heap.objs.size)}):
  codeAny (model prog w) A (.call (.ref C) ⟨vs,kw⟩) R s:=by
 obtain ⟨hh,g,d,t,os⟩:=s
 exact PySem.W.make_core (PySem.W.makes_of X hm) (PySem.W.looks_findIn X hi) (fun self=>PySem.W.bind_fn X self hf) (.inl rfl) h
end
def cz (f:Str) (v:V):List (Str×V)->List (Str×V)
 | []=>[(f,v)]
 | (g,x)::r=>if g=f then (g,v)::r else (g,x)::cz f v r
theorem cE (f g:Str) (v:V):∀ fs:List (Str×V),(cz f v fs).lookup g=if g=f then some v else fs.lookup g
 | []=>by
  show List.lookup g [(f,v)]=_
  by_cases h:g=f
  ·have hb:(g==f)=true:=beq_iff_eq.mpr h
   simp only [List.lookup,hb,if_pos h]
  ·have hb:(g==f)=false:=beq_eq_false_iff_ne.mpr h
   simp only [List.lookup,hb,if_neg h]
 | (k,x)::r=>by
  have ih:=cE f g v r
  rw [show cz f v ((k,x)::r)=(if k=f then (k,v)::r else (k,x)::cz f v r) from rfl]
  by_cases hk:k=f
  ·rw [if_pos hk]
   by_cases h:g=k
   ·have hb:(g==k)=true:=beq_iff_eq.mpr h
    simp only [List.lookup,hb,if_pos (h.trans hk)]
   ·have hb:(g==k)=false:=beq_eq_false_iff_ne.mpr h
    simp only [List.lookup,hb,if_neg (fun e:g=f=>h (e.trans hk.symm))]
  ·rw [if_neg hk]
   by_cases h:g=k
   ·have hb:(g==k)=true:=beq_iff_eq.mpr h
    simp only [List.lookup,hb,if_neg (fun e:g=f=>hk (h.symm.trans e))]
   ·have hb:(g==k)=false:=beq_eq_false_iff_ne.mpr h
    simp only [List.lookup,hb]
    exact ih
theorem jI (f:Str) (v:V):∀ fs:List (Str×V),f∈(cz f v fs).map (·.1)/\∀ g,g∈fs.map (·.1)->g∈(cz f v fs).map (·.1)
 | []=>⟨by simp [cz],fun g h=>by simp at h⟩
 | (k,x)::r=>by
  obtain ⟨i1,i2⟩:=jI f v r
  rw [show cz f v ((k,x)::r)=(if k=f then (k,v)::r else (k,x)::cz f v r) from rfl]
  by_cases hk:k=f
  ·rw [if_pos hk]
   subst hk
   exact ⟨by simp,fun g h=>by simpa using h⟩
  ·rw [if_neg hk]
   refine ⟨?_,fun g h=>?_⟩
   ·rw [List.map_cons]
    exact Qh _ i1
   ·rw [List.map_cons] at h ⊢
    rcases Qp.mp h with e | e
    ·exact Qp.mpr (.inl e)
    ·exact Qh _ (i2 g e)
theorem cI (f:Str) (v:V):∀ fs:List (Str×V),(cz f v fs).length<=fs.length+1
 | []=>by simp [cz]
 | (k,x)::r=>by
  have ih:=cI f v r
  rw [show cz f v ((k,x)::r)=(if k=f then (k,v)::r else (k,x)::cz f v r) from rfl]
  by_cases hk:k=f
  ·rw [if_pos hk,List.length_cons,List.length_cons];omega
  ·rw [if_neg hk,List.length_cons,List.length_cons];omega
theorem om.some_of {v:V} {o:Option Value} (r:om (some v) o):∃ u,o=some u/\RelV v u:=by
 cases o with
 | none=>exact (show False from r).elim
 | some u=>exact ⟨u,rfl,r⟩
theorem xI {v:V} (r:RelV v u):PySem.W.handedIn u=true:=by
 cases v with
 | ai=>cases (show u=Value.none from r);rfl
 | bl b=>cases (show u=Value.bool b from r);rfl
 | int i=>obtain ⟨t,e⟩:=(show ∃ t,u=Value.int i t from r);cases e;rfl
 | str x=>obtain ⟨t,e⟩:=(show ∃ t,u=Value.str x t from r);cases e;rfl
 | rj b=>obtain ⟨t,e⟩:=(show ∃ t,u=Value.bytes b t from r);cases e;rfl
 | Bx b=>obtain ⟨t,e⟩:=(show ∃ t,u=Value.float b t from r);cases e;rfl
 | ref a=>cases (show u=Value.ref a from r);rfl
 | ty n=>cases (show u=Value.type n from r);rfl
section
variable {dx:Addr} {fs zl:List (Str×V)}
theorem oY (hok:fh P w H h) (e:H a=some (.ins C dx fs)):∃ mA,CM h a dx C mA/\(∀ f,om (fs.lookup f) (mA f))/\PySem.Within mA (fs.map (·.1))/\fs.length<=1000/\H dx=some (.own a):=by
 obtain ⟨d,z,ne,ob,mA,n,r,q⟩:=(show bx P w H h a (.ins C dx fs) from hok a _ e)
 exact ⟨mA,⟨ob,n,ne⟩,r,q,z,d⟩
end
structure yt (K:Q0) (C:Addr):Prop where
 pg:PySem.W.plainGet K C Str.empty=true
 hd:PySem.W.hasDictIn K C=true
 po:PySem.W.plainOver K C=true
 sa:PySem.W.findIn K (.ref C) "__setattr__"=some (some (.builtin "object.__setattr__"))
theorem yt.get {K:Q0} (c:yt K C) (f:Str):PySem.W.plainGet K C f=true:=c.pg
def yu (K:Q0) (C:Addr) (f:Str):Prop:=PySem.W.findIn K (.ref C) f=some none
theorem yu.SJ {K:Q0} {f:Str} (n:yu K C f):PySem.W.takerIn K C f=some none:=by
 unfold PySem.W.takerIn
 rw [show PySem.W.findIn K (.ref C) f=some none from n]
 rfl
section
variable {dx:Addr} {fs:List (Str×V)} {f:Str} {v:V}
theorem rT {b:Bool} (I:Inv X pins σ H s) (e:H a=some (.ins C dx fs)) (c:yt X.K C) (n:yu X.K C f) (l:fs.lookup f=some v)
  (h:∀ u s',Inv X pins σ H s'->RelV v u->Q u s'):wpAny (model X.prog X.w) A (getAttr (.ref a) f b) Q E s:=by
 obtain ⟨mA,O,r,_,_,_⟩:=oY I.hok e
 obtain ⟨u,hu,ru⟩:=om.some_of (v:=v) (o:=mA f) (by rw [<- l];exact r f)
 exact Sw I.iw O (c.get f) c.hd n hu (xI ru) (h u _ (I.tok _) ru)
theorem tE {y:V} {Q:Unit->Shared->Prop} (I:Inv X pins σ H s) (e:H a=some (.ins C dx fs)) (c:yt X.K C) (n:yu X.K C f) (hl:fs.length < 1000) (ry:RelV y u)
  (h:∀ s',Inv X pins σ (upd H a (.ins C dx (cz f y fs))) s'->Q () s'):wpAny (model X.prog X.w) A (setAttr (.ref a) f u) Q E s:=by
 obtain ⟨mA,O,r,wi,_,ho⟩:=oY I.hok e
 have hz:(fs.map (·.1)).length<=sizeLine:=by rw [Ql,QL];omega
 refine Sy I.iw O c.sa c.po n.SJ c.hd wi hz fun h' O' sb=>h _ ?_
 have hd:∃ o,h'.get? dx=some o:=let ⟨o,_,_,e',_⟩:=O'.ns;⟨o,e'⟩
 refine I.write (x:=a) (e:=dx) (by rw [e];exact True.intro) (.inr ho) (fun b q hb z=>(sb.2 b hb).trans z) hd ?_
 refine ⟨by rw [aE O.ne];exact ho,?_,O.ne,O'.obj,_,O'.ns,fun g=>?_,fun g hg=>?_⟩
 ·have:=cI f y fs;omega
 ·show om ((cz f y fs).lookup g) (if g=f then some u else mA g)
  rw [cE]
  by_cases q:g=f
  ·rw [if_pos q,if_pos q];exact ry
  ·rw [if_neg q,if_neg q];exact r g
 ·by_cases q:g=f
  ·rw [q];exact (jI f y fs).1
  ·refine (jI f y fs).2 g (wi g fun z=>hg ?_)
   show (if g=f then some u else mA g)=none
   rw [if_neg q];exact z
theorem Inv.made (I:Inv X pins σ H s):Inv X pins σ (upd (upd H s.heap.objs.size (.own (s.heap.objs.size+1))) (s.heap.objs.size+1) (.ins C s.heap.objs.size []))
  {s with heap:=(s.heap.push PySem.W.emptyDict).push (PySem.W.instObj C s.heap.objs.size)}:=by
 have e1:(s.heap.push PySem.W.emptyDict).get? s.heap.objs.size=some PySem.W.emptyDict:=Qd s.heap rfl
 have e2:((s.heap.push PySem.W.emptyDict).push (PySem.W.instObj C s.heap.objs.size)).get? (s.heap.objs.size+1)=some (PySem.W.instObj C s.heap.objs.size):=by
  have:=Qd (s.heap.push PySem.W.emptyDict) (o:=PySem.W.instObj C s.heap.objs.size) rfl
  rwa [Heap.size_push] at this
 have e3:(s.heap.push PySem.W.emptyDict).Ns s.heap.objs.size (fun _=>none):=⟨PySem.W.emptyDict,#[],_,e1,rfl,(fun e he=>absurd he (by simp)),fun _=>rfl⟩
 have I1:=I.laid (a:=s.heap.objs.size) (o:=.own (s.heap.objs.size+1)) (h':=s.heap.push PySem.W.emptyDict) (t':=s.toks) (fun b u q=>Qc _ q) (Qy _) ⟨_,e1⟩
 refine I1.laid (a:=s.heap.objs.size+1) (o:=.ins C s.heap.objs.size []) (t':=s.toks) (fun b u q=>Qc _ q) (Nat.le_of_eq (Heap.size_push _ _)) ?_
 have ne:s.heap.objs.size≠s.heap.objs.size+1:=Nat.ne_of_lt (Nat.lt_succ_self _)
 refine ⟨by rw [aE ne,aA],Nat.zero_le _,ne,e2,fun _=>none,(Heap.Ns1.of_empty e3).at fun o q=>Qc _ q,fun _=>True.intro,fun y hy=>absurd rfl hy⟩
theorem SK {f:Str} {pos:Pos} (hb:attributeBase e f env (eval e env)=eval e env)
  (h:wpAny (model prog w) A (eval e env) (fun o s₁=>wpAny (model prog w) A (getAttr o f true) Q E s₁) E s):wpAny (model prog w) A (eval (.Attribute e f pos) env) Q E s:=
 Attribute_any_ h (by rw [arm_eval_Attribute,hb])
end
def L7 (K:Q0) (ta:TE) (f:Str):TE:=fun σ H Q=>ta σ H fun x H1=>∃ a C dx fs v,x=.ref a/\H1 a=some (.ins C dx fs)/\yt K C/\yu K C f/\fs.lookup f=some v/\Q v H1
def Gd (K:Q0) (ta tv:TE) (f:Str):TS:=fun D σ H=>tv σ H fun y H1=>ta σ H1 fun x H2=>∃ a C dx fs,x=.ref a/\H2 a=some (.ins C dx fs)/\yt K C/\yu K C f/\fs.length < 1000/\
 D.nx σ (upd H2 a (.ins C dx (cz f y fs)))
section
variable {o value:Expr} {f:Str} {pos pos' Aa:Pos} {ta tv:TE}
theorem SM (he:PE X e ta) (hb:attributeBase e f X.env (eval e X.env)=eval e X.env):PE X (.Attribute e f pos) (L7 X.K ta f):=by
 intro pins s σ H Q I h
 refine SK hb (av (he pins s σ H _ I h) ?_)
 rintro u s1 ⟨x,H1,I1,rx,a,C,dx,fs,v,ex,ea,c,n,l,q⟩
 subst ex
 obtain rfl:u=Value.ref a:=rx
 exact rT I1 ea c n l fun u' s2 I2 ru=>⟨v,H1,I2,ru,q⟩
theorem SN (ha:PE X o ta) (hv:PE X value tv) (hs:swapsWith value (some (.Attribute o f pos')) pos.line X.env=pure false):PS X (.Assign [.Attribute o f pos'] value pos) (Gd X.K ta tv f):=by
 intro pins s σ H D I h
 refine plainObj_wpAny_Assign_Attribute (av (hv pins s σ H _ I h) fun u s1 ⟨y,H1,I1,ry,q⟩=>av (ha pins s1 σ H1 _ I1 q) fun ov s2 ⟨x,H2,I2,rx,a,C,dx,fs,ex,ea,c,n,l,q2⟩=>?_) hs
 subst ex
 obtain rfl:ov=Value.ref a:=rx
 exact tE I2 ea c n l ry fun s3 I3=>⟨σ,_,I3,q2⟩
end
section
variable {c:Value} {b:Bool}
inductive uc (K:Q0) (H:Hp):V->Value->Prop where
 | ai:uc K H .ai (.type "NoneType")
 | bl (x:Bool):uc K H (.bl x) (.type "bool")
 | int (i:Int):uc K H (.int i) (.type "int")
 | str (x:Str):uc K H (.str x) (.type "str")
 | Bx (x:UInt64):uc K H (.Bx x) (.type "float")
 | lst {a:Addr} {xs:List V} (e:H a=some (.lst xs)):uc K H (.ref a) (.type "list")
 | au {a:Addr} {o:Obj} {xs:List V} (e:H a=some (.au o (.lst xs))):uc K H (.ref a) (.type "list")
 | tup {a:Addr} {xs:List V} (e:H a=some (.tup xs)):uc K H (.ref a) (.type "tuple")
 | dK {a:Addr} {kvs:List (Key×V)} (e:H a=some (.dK kvs)):uc K H (.ref a) (.type "dict")
 | dT {a:Addr} {kvs:List (List Key×V)} (e:H a=some (.dT kvs)):uc K H (.ref a) (.type "dict")
 | ins {a C dx:Addr} {fs:List (Str×V)} (e:H a=some (.ins C dx fs)) (cl:yt K C) (ha:PySem.W.findIn K (.ref C) "__class__"=some (some (.builtin "object.__class__")))
   (hn:PySem.W.specialIn K (.builtin "object.__class__") "__get__"=some (some (.builtin "getset_descriptor.__get__"))) (D8:PySem.W.takesIn K (.builtin "object.__class__")=some true)
   (hm:PySem.W.mroIn K C (.type "object")=some true):uc K H (.ref a) (.ref C)
theorem xC {x:V} {t:Value} (I:Inv X pins σ H s) (rx:RelV x u) (ty:uc X.K H x t) (e:PySem.W.kitOne X.K t c=some b) (h:∀ tk,Q (.bool b) {s with toks:=tk}):
  wpAny (model X.prog X.w) A (call (.builtin "isinstance") [u,c]) Q E s:=by
 cases ty with
 | ai=>cases (show u=Value.none from rx);exact PySem.W.kia_one PySem.W.kitx_none I.iw True.intro e (fun z=>nomatch z) h
 | bl y=>cases (show u=Value.bool y from rx);exact PySem.W.kia_one PySem.W.kitx_bool I.iw True.intro e (fun z=>nomatch z) h
 | int i=>obtain ⟨t,q⟩:=(show ∃ t,u=Value.int i t from rx);cases q;exact PySem.W.kia_one PySem.W.kitx_int I.iw True.intro e (fun z=>nomatch z) h
 | str y=>obtain ⟨t,q⟩:=(show ∃ t,u=Value.str y t from rx);cases q;exact PySem.W.kia_one PySem.W.kitx_str I.iw True.intro e (fun z=>nomatch z) h
 | Bx y=>obtain ⟨t,q⟩:=(show ∃ t,u=Value.float y t from rx);cases q;exact PySem.W.kia_one PySem.W.kitx_float I.iw True.intro e (fun z=>nomatch z) h
 | @lst a xs ea=>
  cases (show u=Value.ref a from rx)
  obtain ⟨_,_,n,_,h1⟩:=(show bx X.prog X.w H s.heap a (.lst xs) from I.hok a _ ea)
  exact PySem.W.kia_one PySem.W.kitx_list I.iw ⟨_,h1,rfl⟩ e (fun z=>nomatch z) h
 | @au a ob xs ea=>
  cases (show u=Value.ref a from rx)
  obtain ⟨_,_,_,n,_,h1⟩:=(show bx X.prog X.w H s.heap a (.au ob (.lst xs)) from I.hok a _ ea)
  exact PySem.W.kia_one PySem.W.kitx_list I.iw ⟨_,h1,rfl⟩ e (fun z=>nomatch z) h
 | @tup a xs ea=>
  cases (show u=Value.ref a from rx)
  obtain ⟨_,_,_,p⟩:=(show bx X.prog X.w H s.heap a (.tup xs) from I.hok a _ ea)
  obtain ⟨o,h1,h2,_⟩:=p
  exact PySem.W.kia_one PySem.W.kitx_tuple I.iw ⟨o,h1,h2⟩ e (fun z=>nomatch z) h
 | @dK a kvs ea=>
  cases (show u=Value.ref a from rx)
  obtain ⟨_,_,vs,_,p⟩:=(show bx X.prog X.w H s.heap a (.dK kvs) from I.hok a _ ea)
  obtain ⟨o,es,ep,h1,h2,_⟩:=p
  exact PySem.W.kia_one PySem.W.kitx_dict I.iw ⟨o,h1,h2.1⟩ e (fun z=>nomatch z) h
 | @dT a kvs ea=>
  cases (show u=Value.ref a from rx)
  obtain ⟨_,_,xs,_,o,es,ep,h1,h2,_⟩:=(show bx X.prog X.w H s.heap a (.dT kvs) from I.hok a _ ea)
  exact PySem.W.kia_one PySem.W.kitx_dict I.iw ⟨o,h1,h2.1⟩ e (fun z=>nomatch z) h
 | @ins a C dx fs ea cl ha hn D8 hm=>
  cases (show u=Value.ref a from rx)
  obtain ⟨mA,O,_⟩:=oY I.hok ea
  obtain ⟨od,J,_⟩:=O.look
  exact PySem.W.kia_one (PySem.W.kitx_own (cl.get _) cl.hd ha hn D8 hm) I.iw J e (fun z=>nomatch z) h
end
structure fu (k:Nat) (A:Around):Prop where
 hd:A.handled=none
 dp:A.depth+3*k+5 < recursionLimit
 un:A.units+16*k+200 < cLine
 gd:A.guards=some []
theorem fu.mono {k:Nat} (r:fu k A) (h:j<=k):fu j A:=⟨r.hd,by have:=r.dp;omega,by have:=r.un;omega,r.gd⟩
theorem fu.deeper {k:Nat} {A:Around} (r:fu (k+1) A) (env:Env):fu k (A.deeper env):=
 ⟨r.hd,by have:=r.dp;show A.depth+1+3*k+5 < _;omega,by have:=r.un;show A.units+3+16*k+200 < _;omega,r.gd⟩
theorem sC:(A.under (.builtin "type.__call__" ⟨.ref C::us,kw⟩)).depth=A.depth+1:=by
 first | rfl | simp [Around.under,Code.weight,Code.isCreation,Code.isGuard,Code.isCaller,Code.frames,Code.isFrame,guardIds]
theorem t9:(A.under (.builtin "type.__call__" ⟨.ref C::us,kw⟩)).units=A.units+1:=by
 first | rfl | simp [Around.under,Code.cUnits,Code.frames,Code.isFrame]
theorem qD (h:A.guards=some []):(A.under (.builtin "type.__call__" ⟨.ref C::us,kw⟩)).guards=some []:=by
 first | exact h | (simp [Around.under,pushGuards,Code.guards,Code.isGuard,guardIds,h])
theorem fu.make {k:Nat} (r:fu (k+1) A) (C:Addr) (us:List Value) (kw:List (Str×Value)):fu k (A.under (.builtin "type.__call__" ⟨.ref C::us,kw⟩)):=
 ⟨r.hd,by have:=r.dp;rw [sC];omega,by have:=r.un;rw [t9];omega,qD r.gd⟩
theorem fu.depth {k:Nat} {A:Around} (r:fu k A):A.depth < recursionLimit:=by have:=r.dp;omega
theorem fu.units {k:Nat} {A:Around} (r:fu k A):A.units+64 < cLine:=by have:=r.un;omega
def vm:TA:=fun _ H Q=>Q [] H
def ie (ta:TE) (tr:TA):TA:=fun σ H Q=>ta σ H fun x H1=>tr σ H1 fun xs H2=>Q (x::xs) H2
section
variable {es:List Expr} {t:TA} {pos:Pos}
theorem SQ:PA X [] vm:=fun _ _ _ _ H Q I h=>Calls.spliced_nil ⟨[],H,I,.nil,h⟩
theorem dI (ha:PE X e te) (hr:PA X es t) (hs:starEach (e::es) X.env=(false,eval e X.env)::starEach es X.env:=by rfl):PA X (e::es) (ie te t):=by
 intro pos pins s σ H Q I h
 rw [hs]
 show wpAny _ _ (spliced ((false,eval e X.env)::backTo pos (starEach es X.env))) _ _ s
 refine Calls.spliced_cons (av (ha pins s σ H _ I h) ?_)
 rintro u s1 ⟨x,H1,I1,r1,q1⟩
 exact av (hr pos pins s1 σ H1 _ I1 q1) fun us s2 ⟨xs,H2,I2,r2,q2⟩=>⟨x::xs,H2,I2,.cons r1 r2,q2⟩
def CN (t:TA):TE:=fun σ H Q=>t σ H fun xs H1=>xs.length<=sizeLine/\∀ p,H1 p=none->Q (.ref p) (upd H1 p (.tup xs))
def L8 (t:TA):TE:=fun σ H Q=>t σ H fun xs H1=>xs.length<=sizeLine/\∀ p,H1 p=none->Q (.ref p) (upd H1 p (.lst xs))
theorem SR {x1} (h:PA X es t):PE X (.Tuple es x1 pos) (CN t):=by
 intro pins s σ H Q I hq
 refine wpAny_Tuple_spliced (av (h pos pins s σ H _ I hq) fun us s1 ⟨xs,H1,I1,r,z,q⟩=>⟨by rw [<- r.length];exact z,?_⟩)
 have hf:H1 s1.heap.objs.size=none:=I1.hok.fresh (Qy _)
 refine ⟨.ref s1.heap.objs.size,upd H1 s1.heap.objs.size (.tup xs),I1.laid (t':=s1.toks) (fun b u e=>Qc _ e) (Qy _) ?_,rfl,q _ hf⟩
 exact ⟨⟨z,BA.new rfl rfl⟩,us,r,⟨_,Qd _ rfl,rfl,_,rfl⟩⟩
theorem SX (h:PA X es t):PE X (.List es pos) (L8 t):=by
 intro pins s σ H Q I hq
 refine wpAny_List_spliced (av (h pos pins s σ H _ I hq) fun us s1 ⟨xs,H1,I1,r,z,q⟩=>⟨by rw [<- r.length];exact z,?_⟩)
 have hf:H1 s1.heap.objs.size=none:=I1.hok.fresh (Qy _)
 refine ⟨.ref s1.heap.objs.size,upd H1 s1.heap.objs.size (.lst xs),I1.laid (t':=s1.toks) (fun b u e=>Qc _ e) (Qy _) ?_,rfl,q _ hf⟩
 exact ⟨z,us,0,r,Qd _ rfl⟩
end
abbrev Sp:=List V->Hp->VK->XK->Prop
abbrev xg:=List Env->Hp->Shared->XK->Value->Shared->Prop
structure BN (P:Program) (w:World) (K:Q0) (mg:Str->Option Value) (base:Heap) (A:Around) (outer:List Env) (s:Shared) (H:Hp):Prop where
 frames:A.frames=some outer
 mod:Mod K mg base
 bs:∀ b o,base.get? b=some o->s.heap.get? b=some o/\H b=none
 zo:base.objs.size<=s.heap.objs.size
 vj:s.heap.FunFrames base outer
 BC:∀ b∈mq outer,H b=none
 hok:fh P w H s.heap
 bare:AllBare s.gens
def CE (outer:List Env) (P:Program) (w:World) (H:Hp) (s:Shared) (Q:VK) (u:Value) (s':Shared):Prop:=
 ∃ v H',s'.os=s.os/\AllBare s'.gens/\Un (mq outer) [] H H' s.heap s'.heap/\fh P w H' s'.heap/\RelV v u/\Q v H'
def CR (CX:xg) (outer:List Env) (P:Program) (w:World) (H:Hp) (s:Shared) (Q:VK) (E:XK) (r:Result) (s':Shared):Prop:=
 match r with
 | .ok (.ret u)=>CE outer P w H s Q u s'
 | .ok _=>False
 | .error e=>CX outer H s E e s'
structure ud (P:Program) (w:World) (K:Q0) (mg:Str->Option Value) (base:Heap) (CX:xg) (k:Nat) (f:Addr) (fd:FuncData) (ps:List Str) (sp:Sp):Prop where
 len:∀ vs H Q E,sp vs H Q E->vs.length=ps.length
 run:∀ (A:Around) (outer:List Env) (s:Shared) (H:Hp) (args:Args) (us:List Value) (vs:List V) (Q:VK) (E:XK),fu k A->BN P w K mg base A outer s H->BindsTo s fd args (ps.zip us)->be vs us->sp vs H Q E->
  codeAny (model P w) A (.call (.ref f) args) (CR CX outer P w H s Q E) s
theorem ud.imp {K:Q0} {CX:xg} {k:Nat} {f:Addr} {sp D9:Sp} (F:ud P w K mg base CX k f fd ps sp)
  (h:∀ vs H Q E,D9 vs H Q E->sp vs H Q E):ud P w K mg base CX k f fd ps D9:=
 ⟨fun vs H Q E q=>F.len vs H Q E (h _ _ _ _ q),fun A outer s H args us vs Q E hr he hb hv hs=>F.run A outer s H args us vs Q E hr he hb hv (h _ _ _ _ hs)⟩
theorem BN.make {K:Q0} {outer:List Env} (e:BN P w K mg base A outer s H) (C:Addr) (us:List Value) (kw:List (Str×Value)):
  BN P w K mg base (A.under (.builtin "type.__call__" ⟨.ref C::us,kw⟩)) outer s H:=⟨by first | exact e.frames | (simpa [Around.under,Code.envs,Code.isFrame,pushEnvs] using e.frames),e.mod,e.bs,e.zo,e.vj,e.BC,e.hok,e.bare⟩
section
variable {s':Shared}
theorem Inv.L_ (I:Inv X pins σ H s):BN X.prog X.w X.K X.mg X.base X.A X.stack s H:=
 ⟨I.ok.frames,I.ok.mod,I.bs,Nat.le_trans I.ok.zo I.sz,I.stack,I.LJ,I.hok,I.bare⟩
theorem Inv.after {Q:VK} (I:Inv X pins σ H s) (h:CE X.stack X.prog X.w H s Q u s'):EP X pins σ Q u s':=by
 obtain ⟨v,H',os,bare,un,hok,r,q⟩:=h
 obtain ⟨hh,g,d,t,SY⟩:=s'
 obtain rfl:SY=s.os:=os
 exact ⟨v,H',I.call (h':=hh) (g':=g) (d':=d) (t':=t) (ch:=[]) un hok bare (fun b z=>absurd z (by simp)),r,q⟩
end
def D_ (sp:Sp) (qp:List V) (E:XK) (t:TA):TE:=fun σ H Q=>t σ H fun vs H1=>sp (vs++qp) H1 Q E
def Ma (C:Addr) (sp:Sp) (qp:List V) (E:XK) (t:TA):TE:=fun σ H Q=>t σ H fun vs H1=>∀ x dx,H1 x=none->H1 dx=none->dx≠x->
 sp (.ref x::(vs++qp)) (upd (upd H1 dx (.own x)) x (.ins C dx [])) (fun v H2=>v=.ai/\Q (.ref x) H2) E
def Binds (K:Q0) (fd:FuncData) (ps:List Str) (ds:List Value):Prop:=
 ∀ (s:Shared) (us:List Value),K.In s.heap->(us++ds).length=ps.length->BindsTo s fd ⟨us,[]⟩ (ps.zip (us++ds))
theorem Binds.all {K:Q0} (h:∀ us:List Value,us.length=ps.length->bindArgs fd ⟨us,[]⟩=pure (ps.zip us)):Binds K fd ps []:=fun s us _ hl=>by
 rw [List.append_nil] at hl ⊢
 exact .of_eq (h us hl)
def Ea (CX:xg) (X:Cx) (E:XK):Prop:=∀ (pins:List (Addr×Obj)) (σ:St) (H:Hp) (s:Shared) (e:Value) (s':Shared),Inv X pins σ H s->CX X.stack H s E e s'->X.xe e s'
section
variable {CX:xg} {k:Nat} {f:Addr} {sp:Sp} {qp:List V} {ds:List Value} {E:XK} {m:Str} {p pos:Pos} {o:Expr} {es:List Expr} {ta:TE} {t:TA}
theorem S0 {Q:VK} {vs:List V} (F:ud X.prog X.w X.K X.mg X.base CX k f fd ps sp) (hr:fu k X.A) (hb:Binds X.K fd ps ds) (hd:be qp ds) (hx:Ea CX X E)
  (I:Inv X pins σ H s) (r:be vs us) (h:sp (vs++qp) H Q E):wpAny (model X.prog X.w) X.A (call (.ref f) us) (EP X pins σ Q) X.xe s:=by
 have r2:be (vs++qp) (us++ds):=r.append hd
 have hl:(us++ds).length=ps.length:=by rw [<- r2.length];exact F.len _ _ _ _ h
 refine wpAny_call (codeAny_mono (F.run X.A X.stack s H ⟨us,[]⟩ (us++ds) (vs++qp) Q E hr I.L_ (hb s us I.iw hl) r2 h) fun r s' hq=>?_)
 cases r with
 | error e=>exact hx pins σ H s e s' I hq
 | ok fl=>
  cases fl with
  | ret u=>exact I.after hq
  | next=>exact False.elim hq
  | brk=>exact False.elim hq
  | cont=>exact False.elim hq
theorem S1 (F:ud X.prog X.w X.K X.mg X.base CX k f fd ps sp) (hr:fu k X.A) (hg:Gl X x) (hm:X.mg x=some (.ref f)) (hk:PySem.W.keepIn X.K (.ref f)=true) (hb:Binds X.K fd ps ds) (hd:be qp ds) (hx:Ea CX X E)
  (ha:PA X (e::es) t) (mw:(x==("__debug__":Str))=false:=by decide) (he:starEach (e::es) X.env=(false,eval e X.env)::starEach es X.env:=by rfl) (gb:(backTo pos (starEach es X.env)).any (·.1)=false:=by rfl):
  PE X (.Call (.Name x p) (e::es) [] pos) (D_ sp qp E t):=by
 intro pins s σ H Q I h
 refine wpAny_Call_Name_kw (o6 I hg hm ?_ mw)
 refine PySem.W.callWith_K (h₀:=X.base) I.ok.mod.AH hk (av (ha pos pins s σ H _ I h) fun us s1 ⟨vs,H1,I1,r,q⟩=>⟨I1.iw,?_⟩) he gb
 exact S0 F hr hb hd hx I1 r q
structure Mk (K:Q0) (C f:Addr):Prop where
 makes:PySem.W.makesIn K C=true
 init:PySem.W.findIn K (.ref C) "__init__"=some (some (.ref f))
 fn:PySem.W.isFn K (.ref f)=true
 kp:PySem.W.keepIn K (.ref C)=true
theorem S2 {Q:VK} {vs:List V} (M:Mk X.K C f) (F:ud X.prog X.w X.K X.mg X.base CX k f fd ps sp) (hr:fu (k+1) X.A) (hb:Binds X.K fd ps ds) (hd:be qp ds)
  (hx:Ea CX X E) (I:Inv X pins σ H s) (r:be vs us)
  (h:∀ x dx,H x=none->H dx=none->dx≠x->sp (.ref x::(vs++qp)) (upd (upd H dx (.own x)) x (.ins C dx [])) (fun v H2=>v=.ai/\Q (.ref x) H2) E):
  wpAny (model X.prog X.w) X.A (call (.ref C) us) (EP X pins σ Q) X.xe s:=by
 have hq:=h (s.heap.objs.size+1) s.heap.objs.size (I.hok.fresh (Nat.le_succ _)) (I.hok.fresh (Qy _)) (Nat.ne_of_lt (Nat.lt_succ_self _))
 have I2:=Inv.made (C:=C) I
 have r2:be (V.ref (s.heap.objs.size+1)::(vs++qp)) (Value.ref (s.heap.objs.size+1)::(us++ds)):=.cons rfl (r.append hd)
 have hl:(Value.ref (s.heap.objs.size+1)::us++ds).length=ps.length:=by
  have e:=r2.length
  rw [F.len _ _ _ _ hq] at e
  exact e.symm
 refine wpAny_call (zL (f:=f) I.iw M.makes M.init (beq_iff_eq.mp M.fn) (codeAny_mono (F.run _ X.stack _ _ ⟨Value.ref (s.heap.objs.size+1)::us,[]⟩ (Value.ref (s.heap.objs.size+1)::(us++ds)) _ _ E (hr.make C us [])
  (I2.L_.make C us []) (hb _ (Value.ref (s.heap.objs.size+1)::us) I2.iw hl) r2 hq) fun r s' vn=>?_))
 cases r with
 | error e=>exact hx pins σ _ _ e s' I2 vn
 | ok fl=>
  cases fl with
  | ret u=>
   obtain ⟨v,H',I3,rv,ev,q3⟩:=I2.after vn
   subst ev
   exact ⟨rv,⟨V.ref (s.heap.objs.size+1),H',I3,rfl,q3⟩⟩
  | next=>exact False.elim vn
  | brk=>exact False.elim vn
  | cont=>exact False.elim vn
theorem S3 (M:Mk X.K C f) (F:ud X.prog X.w X.K X.mg X.base CX k f fd ps sp) (hr:fu (k+1) X.A) (hg:Gl X x) (hm:X.mg x=some (.ref C)) (hb:Binds X.K fd ps ds) (hd:be qp ds) (hx:Ea CX X E)
  (ha:PA X (e::es) t) (mw:(x==("__debug__":Str))=false:=by decide) (he:starEach (e::es) X.env=(false,eval e X.env)::starEach es X.env:=by rfl) (gb:(backTo pos (starEach es X.env)).any (·.1)=false:=by rfl):
  PE X (.Call (.Name x p) (e::es) [] pos) (Ma C sp qp E t):=by
 intro pins s σ H Q I h
 refine wpAny_Call_Name_kw (o6 I hg hm ?_ mw)
 refine PySem.W.callWith_K (h₀:=X.base) I.ok.mod.AH M.kp (av (ha pos pins s σ H _ I h) fun us s1 ⟨vs,H1,I1,r,q⟩=>⟨I1.iw,?_⟩) he gb
 exact S2 M F hr hb hd hx I1 r q
end
section
variable {CX:xg} {k:Nat} {f:Addr} {ks:List Str} {sp:Sp} {E:XK} {m:Str} {p pos aah:Pos} {o:Expr} {es:List Expr} {kws:List Keyword} {ta:TE} {t tk:TA} {nm:Option Str}
variable {g:List Value->List Value->List Value} {gV:List V->List V->List V}
end
structure fb (N P:List Str) (sc:Scope):Prop where
 kind:sc.kind=.function
 co:sc.isCoroutine=false
 gen:sc.isGenerator=false
 nd:N.Nodup
 pre:N.take P.length=P
 Mb:∀ x∈P,sc.names.lookup x=some .local\/sc.names.lookup x=some .cell
 S4:∀ y∈sc.names,y.2≠.free
theorem nJ {kindOf:Str->Option NameKind} {x:Str}:∀ {binds:List (Str×Value)} {m:Str->Option Value},(∀ v,(x,v) ∉ binds)->bindL kindOf binds m x=m x
 | [],_,_=>rfl
 | (n,v)::r,m,h=>by
  unfold bindL
  rw [nJ fun w hw=>h w (Qh _ hw)]
  split
  ·have:x≠n:=by rintro rfl;exact h v List.mem_cons_self
   simp [this]
  ·rfl
theorem mR {kindOf:Str->Option NameKind} {x:Str}:∀ {binds:List (Str×Value)} {m:Str->Option Value},(∀ v,(x,v) ∉ binds)->bindC kindOf binds m x=m x
 | [],_,_=>rfl
 | (n,v)::r,m,h=>by
  unfold bindC
  rw [mR fun w hw=>h w (Qh _ hw)]
  split
  ·rfl
  ·have:x≠n:=by rintro rfl;exact h v List.mem_cons_self
   simp [this]
theorem mM {kindOf:Str->Option NameKind} {x:Str} {v:Value}:∀ {P:List Str} {vs:List Value} {i:Nat} {m:Str->Option Value},P.Nodup->P[i]? =some x->vs[i]? =some v->kindOf x=some .local->
  bindL kindOf (P.zip vs) m x=some v
 | [],_,_,_,_,h,_,_=>by simp at h
 | _::_,[],_,_,_,_,h,_=>by simp at h
 | p::P,w::vs,0,m,nd,h1,h2,hk=>by
  simp at h1 h2;subst h1;subst h2
  show bindL kindOf ((p,w)::P.zip vs) m p=_
  unfold bindL
  rw [nJ fun v hv=>(List.nodup_cons.mp nd).1 (List.of_mem_zip hv).1,if_pos hk]
  simp
 | p::P,w::vs,i+1,m,nd,h1,h2,hk=>by
  show bindL kindOf ((p,w)::P.zip vs) m x=_
  unfold bindL
  exact mM (i:=i) (List.nodup_cons.mp nd).2 (by simpa using h1) (by simpa using h2) hk
theorem nD {kindOf:Str->Option NameKind} {x:Str} {v:Value}:∀ {P:List Str} {vs:List Value} {i:Nat} {m:Str->Option Value},P.Nodup->P[i]? =some x->vs[i]? =some v->kindOf x≠some .local->
  bindC kindOf (P.zip vs) m x=some v
 | [],_,_,_,_,h,_,_=>by simp at h
 | _::_,[],_,_,_,_,h,_=>by simp at h
 | p::P,w::vs,0,m,nd,h1,h2,hk=>by
  simp at h1 h2;subst h1;subst h2
  show bindC kindOf ((p,w)::P.zip vs) m p=_
  unfold bindC
  rw [mR fun v hv=>(List.nodup_cons.mp nd).1 (List.of_mem_zip hv).1,if_neg hk]
  simp
 | p::P,w::vs,i+1,m,nd,h1,h2,hk=>by
  show bindC kindOf ((p,w)::P.zip vs) m x=_
  unfold bindC
  exact nD (i:=i) (List.nodup_cons.mp nd).2 (by simpa using h1) (by simpa using h2) hk
def start (N:List Str) (vs:List V):St:=vs.map some++List.replicate (N.length - vs.length) none
def yw (CX:xg) (P:Program) (w:World) (K:Q0) (mg:Str->Option Value) (base:Heap) (N:List Str) (qual:Str) (scope:Scope) (f:Addr) (cd:Value) (A:Around) (outer:List Env) (s:Shared) (H:Hp) (E:XK):Cx where
 prog:=P
 w:=w
 K:=K
 mg:=mg
 base:=base
 A:=A.deeper (envOfC qual scope s.heap.objs.size f cd)
 N:=N
 s₀:=s
 H₀:=H
 env:=envOfC qual scope s.heap.objs.size f cd
 outer:=outer
 stack:=envOfC qual scope s.heap.objs.size f cd::outer
 ex:=[]
 calm:=true
 fn:=fun _=>true
 pn:=[]
 xe:=fun e s'=>wpAny (model P w) (A.deeper (envOfC qual scope s.heap.objs.size f cd)) (leaving (envOfC qual scope s.heap.objs.size f cd) e) (fun _ s''=>CX outer H s E e s'') (fun e' s''=>CX outer H s E e' s'') s'
theorem pQ (h:sc.names.lookup x=some .cell):∃ c,(cellsFrom n sc.names []).lookup x=some c:=by
 have q:=PySem.W.cellsFrom_some sc.names n [] (.inl h)
 exact Option.isSome_iff_exists.mp q
theorem wH {CX:xg} {K:Q0} {qual:Str} {scope:Scope} {f:Addr} {cd:Value} {outer:List Env} {s1:Shared} {E:XK} {vs:List V}
  (S:fb N ps scope) (hd:A.handled=none) (e0:BN P w K mg base A outer s H) (hl:vs.length=ps.length) (r:be vs us)
  (x:InCallC s s.heap.objs.size (bindL (envOfC qual scope s.heap.objs.size f cd).kindOf (ps.zip us) fun _=>none) (cellsFrom (s.heap.objs.size+1) scope.names []) (bindC (envOfC qual scope s.heap.objs.size f cd).kindOf (ps.zip us) fun _=>none) s1):
  Inv (yw CX P w K mg base N qual scope f cd A outer s H E) [] (start N vs) H s1:=by
 have gb:ps.length<=N.length:=by have:=congrArg List.length S.pre;rw [List.length_take] at this;omega
 obtain ⟨h1,tk,rfl,hk⟩:=x.done
 have Eb:∀ b:Addr,b ∉ (yw CX P w K mg base N qual scope f cd A outer s H E).ex:=fun b z=>absurd (show b∈([]:List Addr) from z) (by simp)
 refine ⟨⟨e0.mod,S.kind,rfl,rfl,Qy _,fun y z c h1 h2=>?_,fun y hy=>?_,fun y c _ h=>?_,fun _=>hd,Around.frames_deeper e0.frames,.inr ⟨rfl,rfl⟩,fun b z=>absurd z (Eb b),e0.bs,e0.zo,fun b _ _=>Eb b,fun b z=>absurd z (Eb b),e0.vj,e0.BC⟩,
  rfl,e0.bare,Un.kept hk,⟨_,x.toInCall.ns,fun i y v h1 h2 h3=>?_⟩,fun y c h=>⟨_,x.cell y c h⟩,e0.hok.fresh (Qy _),fun y c h=>?_,fun p hp=>absurd (show p∈([]:List (Addr×Obj)) from hp) (by simp),e0.hok.kept hk,?_⟩
 ·exact name_of_addr x.apart (PySem.mem_of_lookup h1) (PySem.mem_of_lookup h2)
 ·have hy:scope.names.lookup y=some .cell\/scope.names.lookup y=some .free:=hy
  rcases hy with hy | hy
  ·exact pQ hy
  ·exact absurd rfl (S.S4 _ (PySem.mem_of_lookup hy))
 ·exact Nat.le_of_lt (x.above y c (PySem.mem_of_lookup h))
 ·have hi:i < vs.length:=by
   unfold start at h2
   by_cases hi:i < vs.length
   ·exact hi
   ·rw [List.getElem?_append_right (by simpa using hi)] at h2
    rw [List.getElem?_replicate] at h2
    split at h2<;>cases h2
  have ha:vs[i]? =some v:=by
   unfold start at h2
   rw [Qg (by simpa using hi),Qq] at h2
   cases e:vs[i]? with
   | none=>rw [e] at h2;cases h2
   | some a=>rw [e] at h2;cases h2;rfl
  obtain ⟨u,hu,rv⟩:=r.get ha
  have hp:ps[i]? =some y:=by
   rw [<- S.pre,List.getElem?_take_of_lt (by omega)];exact h1
  have Mc:ps.Nodup:=by rw [<- S.pre];exact S.nd.sublist (List.take_sublist _ _)
  refine ⟨u,rv,?_⟩
  rcases S.Mb y (QC hp) with k | k
  ·exact .inl ⟨k,mM Mc hp hu k⟩
  ·obtain ⟨c,e⟩:=pQ (n:=s.heap.objs.size+1) k
   refine .inr ⟨.inl k,c,e,?_⟩
   have q:=x.cell y c e
   rw [nD Mc hp hu (by show scope.names.lookup y≠_;rw [k];decide)] at q
   exact q
 ·exact e0.hok.fresh (Nat.le_of_lt (x.above y c (PySem.mem_of_lookup h)))
 ·unfold start
  show _=N.length
  rw [Qk,Ql,List.length_replicate]
  omega
theorem Me {CX:xg} {K:Q0} {k:Nat} {f:Addr} {qual:Str} {params:Arguments} {scope:Scope} {dV kV doc pm a_ ct oc:Value} {an od:Option Addr}
  {mz:Array (Option Value)} {N ps:List Str} {sp:Sp} (lk:K.lookup f=some ⟨oc,od,.func (PySem.W.fnOf name qual params body scope dV kV doc pm an a_ ct),mz⟩) (ju:PySem.W.codeIn K a_ qual=true) (S:fb N ps scope)
  (len:∀ vs H Q E,sp vs H Q E->vs.length=ps.length)
  (xh:∀ (A:Around) (outer:List Env) (s:Shared) (H:Hp) (vs:List V) (Q:VK) (E:XK),fu k (A.deeper (envOfC qual scope s.heap.objs.size f a_))->sp vs H Q E->
   ∃ t,qf (yw CX P w K mg base N qual scope f a_ A outer s H E) body t/\t {nx:=fun _ H'=>Q .ai H',rt:=Q} (start N vs) H):
  ud P w K mg base CX (k+1) f (PySem.W.fnOf name qual params body scope dV kV doc pm an a_ ct) ps sp:=by
 refine ⟨len,fun A outer s H args us vs Q E hr e0 hb r yx=>?_⟩
 have hl:=len _ _ _ _ yx
 have KX:K.In s.heap:=e0.mod.AH.keeps fun b o e=>(e0.bs b o e).1
 have lim:s.heap.NoLimit:=e0.mod.nolimit.keeps fun b o e=>(e0.bs b o e).1
 have S5:∀ y∈ps.zip us,scope.names.lookup y.1=some .local\/(scope.names.lookup y.1=some .cell/\((cellsFrom (s.heap.objs.size+1) scope.names []).lookup y.1).isSome=true):=fun ⟨n,v⟩ hy=>by
  rcases S.Mb n (List.of_mem_zip hy).1 with q | q
  ·exact .inl q
  ·exact .inr ⟨q,PySem.W.cellsFrom_some _ _ _ (.inl q)⟩
 refine codeAny_call_function hr.depth (KX _ _ lk) rfl S.co S.gen rfl (PySem.W.codeRec_of KX ju) (hb _ _ _ _ ?_)
 refine wpAny_newFunctionEnv_cells S.kind S5 fun env he s1 x=>?_
 subst he
 refine ⟨lim.keeps x.toInCall.keep,codeAny_func ?_⟩
 obtain ⟨t,ht,hq⟩:=xh A outer s H vs Q E (hr.deeper _) yx
 have I:Inv (yw CX P w K mg base N qual scope f a_ A outer s H E) [] (start N vs) H s1:=wH S hr.hd e0 hl r x
 refine wpAny_mono (ht [] s1 (start N vs) H _ I hq) (fun fl s' hs=>?_) fun e s' hs=>hs
 have fin:∀ {σ':St} {H':Hp} {v:V} {u:Value},Inv (yw CX P w K mg base N qual scope f a_ A outer s H E) [] σ' H' s'->RelV v u->Q v H'->CE outer P w H s Q u s':=
  fun {σ' H' v u} J rv q=>⟨v,H',J.os,J.bare,J.base,J.hok,rv,q⟩
 cases fl with
 | ret u=>
  obtain ⟨v,σ',H',J,rv,q⟩:=hs
  exact fin J rv q
 | next=>
  obtain ⟨σ',H',J,q⟩:=hs
  exact fin (v:=V.ai) (u:=Value.none) J rfl q
 | brk=>
  obtain ⟨_,_,_,q⟩:=hs
  exact False.elim q
 | cont=>
  obtain ⟨_,_,_,q⟩:=hs
  exact False.elim q
section
variable {p pos:Pos} {es:List Expr} {t:TA} {id:String} {r:List V->Hp->VK->Prop}
def BO (r:List V->Hp->VK->Prop) (t:TA):TE:=fun σ H Q=>t σ H fun vs H1=>r vs H1 Q
theorem yB (hc:rn X (.builtin id) r) (hg:Gl X x) (hm:X.mg x=none) (hv:bootBuiltins x=some (.builtin id)) (ha:PA X (e::es) t) (hn:x≠"__name__":=by decide) (mw:(x==("__debug__":Str))=false:=by decide)
  (he:starEach (e::es) X.env=(false,eval e X.env)::starEach es X.env:=by rfl) (gb:(backTo pos (starEach es X.env)).any (·.1)=false:=by rfl):PE X (.Call (.Name x p) (e::es) [] pos) (BO r t):=by
 intro pins s σ H Q I h
 refine wpAny_Call_Name_kw (lQ I hg hm hv ?_ hn mw)
 exact PyProof.Rows.callWith_builtin1 (av (ha pos pins s σ H _ I h) fun us s1 ⟨vs,H1,I1,r1,q1⟩=>hc pins s1 σ H1 vs us Q I1 r1 q1) he gb
theorem vW (hc:rn X (.type T) r) (hg:Gl X x) (hm:X.mg x=none) (hv:bootBuiltins x=some (.type T)) (ha:PA X (e::es) t) (hn:x≠"__name__":=by decide) (mw:(x==("__debug__":Str))=false:=by decide)
  (he:starEach (e::es) X.env=(false,eval e X.env)::starEach es X.env:=by rfl) (gb:(backTo pos (starEach es X.env)).any (·.1)=false:=by rfl):PE X (.Call (.Name x p) (e::es) [] pos) (BO r t):=by
 intro pins s σ H Q I h
 refine wpAny_Call_Name_kw (lQ I hg hm hv ?_ hn mw)
 exact PyProof.Rows.callWith_type1 (av (ha pos pins s σ H _ I h) fun us s1 ⟨vs,H1,I1,r1,q1⟩=>hc pins s1 σ H1 vs us Q I1 r1 q1) he gb
end
end L2
namespace HT
open PySem PyProof.Rows
section
open PySem.SeqAt
open PySem.AutoSeq1 (wpAny_loadPart')
open PySem.MeetsSeq PySem.MeetsSeq2 PySem.MeetsSeq3
end
theorem S6 {t:Addr} {ws:List Value} (ht:IsTup s.heap t vs.toArray) (hb:IsTup s.heap b ws.toArray) (hv:vs≠[])
  (h1:ws=[]->Q (.ref t) s) (h2:ws≠[]->Q (.ref s.heap.objs.size) {s with heap:=s.heap.push {cls:=.type "tuple",data:=.seq (vs++ws).toArray}})
  (hsz:vs.length+ws.length<=sizeLine):wpAny (model prog w) A (binaryOp .Add (.ref t) (.ref b)) Q E s:=by
 obtain ⟨⟨cls,dd,data,sl⟩,ho,hc,n,hd⟩:=id ht
 obtain ⟨⟨Mf,AK,data2,AL⟩,vo,lh,n2,hd2⟩:=id hb
 simp only at hc hd lh hd2
 subst hc hd lh hd2
 have e:vs.toArray++ws.toArray=(vs++ws).toArray:=by simp
 by_cases hw:ws=[]
 ·exact concat_meets ⟨_,ho,rfl⟩ ⟨_,vo,rfl⟩ noFill_tuple_add seq_tuple_add PySem.F.slot_tuple_add PySem.F.entry_tuple_add (PySem.F.args_tuple_add_2 _ _)
   (tuple_addW1 t b vs.toArray ws.toArray n n2 dd AK sl AL (by simpa using hv) (by simp [hw])) ⟨ho,vo,h1 hw⟩
 ·refine concat_meets ⟨_,ho,rfl⟩ ⟨_,vo,rfl⟩ noFill_tuple_add seq_tuple_add PySem.F.slot_tuple_add PySem.F.entry_tuple_add (PySem.F.args_tuple_add_2 _ _)
   (tuple_addW2 t b vs.toArray ws.toArray n n2 dd AK sl AL (by simpa using hv) (by simpa using hw) (by rw [List.size_toArray,List.size_toArray];exact hsz)) ⟨ho,vo,?_⟩
  rw [e]
  exact h2 hw
def cj (n d:Nat):Option Int->Nat
 | none=>d
 | some v=>if v < 0 then (v+(n:Int)).toNat else min v.toNat n
theorem qI (n d:Nat):cj n d none=d:=rfl
theorem iR (n d k:Nat):cj n d (some (k:Int))=min k n:=by
 show (if (k:Int) < 0 then ((k:Int)+(n:Int)).toNat else min (k:Int).toNat n)=min k n
 rw [if_neg (by omega),Int.toNat_natCast]
theorem S7 (n d:Nat) (hd:d<=n) (o:Option Int):cj n d o<=n:=by
 cases o with
 | none=>exact hd
 | some v=>
  show (if v < 0 then (v+(n:Int)).toNat else min v.toNat n)<=n
  by_cases hv:v < 0
  ·rw [if_pos hv];omega
  ·rw [if_neg hv];exact Nat.min_le_right _ _
theorem uN (v:Int) (n d:Nat):(if v < 0 then max (v+(n:Int)) 0 else min v (n:Int))=((cj n d (some v):Nat):Int):=by
 show (if v < 0 then max (v+(n:Int)) 0 else min v (n:Int))=(((if v < 0 then (v+(n:Int)).toNat else min v.toNat n):Nat):Int)
 by_cases hv:v < 0
 ·simp only [if_pos hv];omega
 ·simp only [if_neg hv];omega
theorem tK (lo hi:Option Int) (n:Nat):Builtin.Slice.sliceAdjust lo hi 1 (n:Int)=(((cj n 0 lo:Nat):Int),((cj n n hi:Nat):Int)):=by
 have h1:¬((1:Int) < 0):=by omega
 unfold Builtin.Slice.sliceAdjust
 simp only [h1,if_false]
 refine Prod.ext ?_ ?_
 ·cases lo with
  | none=>rfl
  | some v=>exact uN v n 0
 ·cases hi with
  | none=>rfl
  | some v=>exact uN v n n
theorem sE (i j:Nat):Builtin.Slice.slicePlaces (i:Int) (j:Int) 1=j - i:=by
 unfold Builtin.Slice.slicePlaces
 have h1:(1:Int) > 0:=by omega
 simp only [h1,if_true,Int.ediv_one]
 split<;>omega
theorem lJ {v:Value} {o:Option Int} {Q:Option Int->Shared->Prop} (p:IsPart v o) (h:Q o s):wpAny (model prog w) A (Builtin.Slice.slicePartIndex v) Q E s:=by
 cases p with
 | none=>exact slicePart_none h
 | int i t=>exact slicePart_int h
theorem j6 {sl:Addr} {vl vu:Value} {lo hi:Option Int} {Q:Int×Int×Nat->Shared->Prop} (hs:s.heap.IsSliceOf sl vl vu .none) (pl:IsPart vl lo) (pu:IsPart vu hi)
  (h:Q (((cj n 0 lo:Nat):Int),1,cj n n hi - cj n 0 lo) s):wpAny (model prog w) A (Builtin.Slice.sliceApplied (.ref sl) (pure (n:Int))) Q E s:=by
 obtain ⟨os,BQ,Mg,lj⟩:=id hs
 unfold Builtin.Slice.sliceApplied Builtin.Slice.sliceFields
 refine QT (QT (wpAny_field BQ lj (x:=vl) rfl (QT (wpAny_field BQ lj (x:=vu) rfl (QT (wpAny_field BQ lj (x:=.none) rfl (QU ?_)))))))
 refine QT (slicePart_none ?_)
 show wpAny _ _ (if ((1:Int)==0)=true then _ else _) _ _ s
 rw [if_neg (by decide)]
 refine QT (lJ pl (QT (lJ pu (QT (QU ?_)))))
 show wpAny _ _ (match Builtin.Slice.sliceAdjust lo hi 1 (n:Int) with | (lo,hi)=>pure (lo,(1:Int),Builtin.Slice.slicePlaces lo hi 1)) _ _ s
 rw [tK lo hi n]
 show wpAny _ _ (pure (((cj n 0 lo:Nat):Int),(1:Int),Builtin.Slice.slicePlaces ((cj n 0 lo:Nat):Int) ((cj n n hi:Nat):Int) 1)) _ _ s
 rw [sE]
 exact QU h
theorem zD (xs:Array Value) (i k:Nat):((List.range k).filterMap fun (m:Nat)=>xs[((i:Int)+(m:Int)*1).toNat]?).toArray=((xs.toList.drop i).take k).toArray:=by
 have e:(fun (m:Nat)=>xs[((i:Int)+(m:Int)*1).toNat]?)=fun m=>xs[i+m]?:=by
  funext m
  have:((i:Int)+(m:Int)*1).toNat=i+m:=by omega
  rw [this]
 rw [e]
 have:=pick_run xs i k
 rw [List.filterMap_map] at this
 have e2:((fun x=>xs[x]?)∘fun x=>i+x)=fun m=>xs[i+m]?:=rfl
 rw [e2] at this
 rw [this]
theorem iL {t sl:Addr} {items:Array Value} {vl vu:Value} {lo hi:Option Int} (ht:IsTup s.heap t items) (hs:s.heap.IsSliceOf sl vl vu .none) (pl:IsPart vl lo) (pu:IsPart vu hi)
  (hw:¬(cj items.size 0 lo=0/\cj items.size items.size hi=items.size))
  (h:Q (.ref s.heap.objs.size) {s with heap:=s.heap.push {cls:=.type "tuple",data:=.seq ((items.toList.drop (cj items.size 0 lo)).take (cj items.size items.size hi - cj items.size 0 lo)).toArray}})
  (hsz:items.size<=sizeLine):wpAny (model prog w) A (getItem (.ref t) (.ref sl)) Q E s:=by
 have Ge:sizeOk (.seq ((items.toList.drop (cj items.size 0 lo)).take (cj items.size items.size hi - cj items.size 0 lo)).toArray):=by
  show ((items.toList.drop (cj items.size 0 lo)).take (cj items.size items.size hi - cj items.size 0 lo)).toArray.size<=sizeLine
  rw [List.size_toArray,List.length_take,List.length_drop,Array.length_toList]
  omega
 have hj:cj items.size items.size hi<=items.size:=S7 _ _ (Qy _) hi
 obtain ⟨os,BQ,Mg,lj⟩:=id hs
 have S8:s.TypeIs (.ref sl) "slice":=⟨os,BQ,Mg⟩
 unfold getItem
 try with_reducible refine wpAny_holding ?_
 first | refine QT (QU ?_) | skip
 refine QT (wpAny_sequenceKey ht.typeIs (by decide) ?_)
 refine QT (wpAny_callSpecial?_slot (name:=Str.ofString "__getitem__") ht.typeIs PyProof.Rows.slot_tuple_getitem
  (wpAny_call_entry PyProof.Rows.slot_tuple_getitem ht.typeIs entry_tuple_getitem ?_ (args_tuple_getitem _ _)))
 show wpAny _ _ (Builtin.Tuple.tupleItemsOf (.ref t) >>=_) _ _ s
 refine QT (tupleItemsOf_ ht ?_)
 refine QT (wpAny_typeOf S8 ?_)
 rw [if_pos (by decide)]
 refine QT (j6 hs pl pu ?_)
 have AM:¬((((cj items.size 0 lo:Nat):Int)==0&&(1:Int)==1&&(cj items.size items.size hi - cj items.size 0 lo)==items.size)=true):=by
  intro q
  rw [Bool.and_eq_true,Bool.and_eq_true] at q
  have q1:((cj items.size 0 lo:Nat):Int)=0:=eq_of_beq q.1.1
  have q2:cj items.size items.size hi - cj items.size 0 lo=items.size:=eq_of_beq q.2
  exact hw ⟨by omega,by omega⟩
 show wpAny _ _ (if (((cj items.size 0 lo:Nat):Int)==0&&(1:Int)==1&&(cj items.size items.size hi - cj items.size 0 lo)==items.size)=true then _ else _) _ _ s
 rw [if_neg AM,zD]
 first
  | exact QT (m:=Builtin.Tuple.tupleExact _) (wpAny_newObj_type (QU ⟨_,rfl,QU h⟩) Ge)
  | exact QT (m:=Builtin.Tuple.tupleExact _) (wpAny_newObj_type (QT (QU (QU ⟨_,rfl,QU h⟩))) Ge)
  | exact QT (QT (m:=Builtin.Tuple.tupleExact _) (wpAny_newObj_type (QU (QU ⟨_,rfl,QU h⟩)) Ge))
  | exact QT (QT (m:=Builtin.Tuple.tupleExact _) (wpAny_newObj_type (QU ⟨_,rfl,QU h⟩) Ge))
end HT
namespace L2
open PySem PySem.Spec PyProof.Rows
abbrev TO:=St->Hp->(Option Int->Hp->Prop)->Prop
def PO (X:Cx) (e:Option Expr) (t:TO):Prop:=
 ∀ (pins:List (Addr×Obj)) (s:Shared) (σ:St) (H:Hp) (Q:Option Int->Hp->Prop),Inv X pins σ H s->t σ H Q->
  wpAny (model X.prog X.w) X.A (evalPart e X.env) (fun u s'=>∃ o H',Inv X pins σ H' s'/\IsPart u o/\Q o H') X.xe s
def CO:TO:=fun _ H Q=>Q none H
def CP (t:TE):TO:=fun σ H Q=>t σ H fun x H1=>∃ i,x=.int i/\Q (some i) H1
section
variable {lo hi:Option Expr} {tl th:TO} {pos p2:Pos}
theorem S9:PO X none CO:=by
 intro pins s σ H Q I h
 rw [evalPart_none]
 exact QU ⟨none,H,I,.none,h⟩
theorem S_ (h:PE X e te):PO X (some e) (CP te):=by
 intro pins s σ H Q I hw
 rw [evalPart_some]
 refine av (h pins s σ H _ I hw) ?_
 rintro u s1 ⟨x,H1,I1,r1,q1⟩
 obtain ⟨i,rfl,q⟩:=q1
 obtain ⟨t,rfl⟩:=r1
 exact ⟨some i,H1,I1,.int i t,q⟩
def xj (X:Cx) (r:V->Option Int->Option Int->Hp->VK->Prop):Prop:=
 ∀ (pins:List (Addr×Obj)) (s:Shared) (σ:St) (H:Hp) (x:V) (v vl vu:Value) (lo hi:Option Int) (sl:Addr) (Q:VK),Inv X pins σ H s->RelV x v->s.heap.IsSliceOf sl vl vu .none->IsPart vl lo->IsPart vu hi->r x lo hi H Q->
  ∃ T id,typeLookup (.type T) "__getitem__"=pure (some (.builtin id))/\s.TypeIs v T/\wpAny (model X.prog X.w) X.A (getItem v (.ref sl)) (EP X pins σ Q) X.xe s
theorem xj.or {r r':V->Option Int->Option Int->Hp->VK->Prop} (h:xj X r) (h':xj X r'):xj X (fun x lo hi H Q=>r x lo hi H Q\/r' x lo hi H Q):=by
 intro pins s σ H x v vl vu lo hi sl Q I rx hs pl pu q
 rcases q with q | q
 ·exact h pins s σ H x v vl vu lo hi sl Q I rx hs pl pu q
 ·exact h' pins s σ H x v vl vu lo hi sl Q I rx hs pl pu q
def CQ (r:V->Option Int->Option Int->Hp->VK->Prop) (te:TE) (tl th:TO):TE:=fun σ H Q=>te σ H fun x H1=>tl σ H1 fun l H2=>th σ H2 fun u H3=>r x l u H3 Q
theorem zH {r:V->Option Int->Option Int->Hp->VK->Prop} (hr:xj X r) (he:PE X e te) (hl:PO X lo tl) (hu:PO X hi th):PE X (.Subscript e (.Slice lo hi none p2) pos) (CQ r te tl th):=by
 intro pins s σ H Q I h
 refine Subscript_ (av (he pins s σ H _ I h) ?_)
 rintro v s1 ⟨x,H1,I1,r1,q1⟩
 refine wpAny_Slice (av (hl pins s1 σ H1 _ I1 q1) fun vl s2 ⟨l,H2,I2,pl,q2⟩=>av (hu pins s2 σ H2 _ I2 q2) fun vu s3 ⟨u,H3,I3,pu,q3⟩=>?_)
 rw [evalPart_none]
 refine QU ?_
 have I4:Inv X pins σ H3 {s3 with heap:=s3.heap.push {cls:=.type "slice",data:=.fields #[vl,vu,.none]}}:=I3.kept (t':=s3.toks) fun b ob q=>Qc _ q
 obtain ⟨T,id,hT,ht,hg⟩:=hr pins {s3 with heap:=s3.heap.push {cls:=.type "slice",data:=.fields #[vl,vu,.none]}} σ H3 x v vl vu l u s3.heap.objs.size Q I4 r1 (Heap.IsSliceOf.new ..) pl pu q3
 show wpAny (model X.prog X.w) X.A (subscriptTail e (.Slice lo hi none p2) v (.ref s3.heap.objs.size)) (EP X pins σ Q) X.xe {s3 with heap:=s3.heap.push {cls:=.type "slice",data:=.fields #[vl,vu,.none]}}
 exact tail_any (ops:=[.ref s3.heap.objs.size,v]) ht hT hg (by with_unfolding_all rfl)
def oq (xs:List V) (lo hi:Option Int):List V:=(xs.drop (HT.cj xs.length 0 lo)).take (HT.cj xs.length xs.length hi - HT.cj xs.length 0 lo)
theorem k7 (xs:List V) (lo hi:Option Int):(oq xs lo hi).length<=xs.length:=by
 unfold oq
 rw [List.length_take,List.length_drop]
 omega
def AN (K:Q0):V->Option Int->Option Int->Hp->VK->Prop:=fun x lo hi H Q=>∃ a xs,x=.ref a/\ae K H a xs/\
 ¬(HT.cj xs.length 0 lo=0/\HT.cj xs.length xs.length hi=xs.length)/\∀ p,H p=none->Q (.ref p) (upd H p (.tup (oq xs lo hi)))
theorem Tc:xj X (AN X.K):=by
 intro pins s σ H x v vl vu lo hi sl Q I rx hs pl pu h
 obtain ⟨a,xs,rfl,hx,hw,q⟩:=h
 cases rx
 obtain ⟨its,r,ht,hz⟩:=I.tuple hx
 have fi:its.toArray.size=xs.length:=by rw [List.size_toArray];exact r.length.symm
 refine ⟨"tuple",_,PyProof.Rows.slot_tuple_getitem.lookup,ht.typeIs,?_⟩
 refine HT.iL ht hs pl pu (by rw [fi];exact hw) ?_ (by rw [fi];exact hz)
 rw [fi]
 refine ⟨.ref s.heap.objs.size,_,I.laid (t':=s.toks) (o:=.tup (oq xs lo hi)) (fun b ob q=>Qc _ q) (Qy _) ?_,rfl,q _ (I.hok.fresh (Qy _))⟩
 exact ⟨⟨Nat.le_trans (k7 xs lo hi) hz,BA.new rfl rfl⟩,_,(r.drop (HT.cj xs.length 0 lo)).take (HT.cj xs.length xs.length hi - HT.cj xs.length 0 lo),IsTup.new _ _⟩
def Td (K:Q0):R2:=fun x y H Q=>∃ a b xs ys,x=.ref a/\y=.ref b/\ae K H a xs/\ae K H b ys/\xs≠[]/\xs.length+ys.length<=sizeLine/\
 (ys=[]->Q (.ref a) H)/\(ys≠[]->∀ p,H p=none->Q (.ref p) (upd H p (.tup (xs++ys))))
theorem be.Gf {xs:List V} (r:be xs us):us=[]↔xs=[]:=by
 cases r with
 | nil=>simp
 | cons _ _=>simp
theorem Te:c_ X (binaryOp .Add) (Td X.K):=by
 intro pins s σ H x y v u Q I rx ry h
 obtain ⟨a,b,xs,ys,rfl,rfl,ha,hb,hx,hz,q1,q2⟩:=h
 cases rx
 cases ry
 obtain ⟨its,r1,p1,_⟩:=I.tuple ha
 obtain ⟨its2,r2,p2,_⟩:=I.tuple hb
 refine HT.S6 p1 p2 (fun z=>hx (r1.Gf.mp z)) (fun z=>⟨.ref a,H,I,rfl,q1 (r2.Gf.mp z)⟩) (fun z=>?_) (by rw [<- r1.length,<- r2.length];exact hz)
 refine ⟨.ref s.heap.objs.size,_,I.laid (t':=s.toks) (o:=.tup (xs++ys)) (fun b ob q=>Qc _ q) (Qy _) ?_,rfl,q2 (fun w=>z (r2.Gf.mpr w)) _ (I.hok.fresh (Qy _))⟩
 exact ⟨⟨by rw [Qk];exact hz,BA.new rfl rfl⟩,_,r1.append r2,IsTup.new _ _⟩
end
def Ab (n:Nat) (i:Int):Option Nat:=if 0<=i then (if i < n then some i.toNat else none) else if -(n:Int)<=i then some (i+n).toNat else none
def lq {α:Type} (xs:List α) (i:Int):Option α:=(Ab xs.length i).bind fun j=>xs[j]?
theorem nP {i:Int} (h:Ab n i=some j):seqIndex? i n=some j/\j < n/\ -(n:Int)<=i/\i < n:=by
 unfold Ab at h
 by_cases h0:0<=i
 ·rw [if_pos h0] at h
  by_cases h1:i < n
  ·rw [if_pos h1] at h
   have e:i.toNat=j:=QD h
   exact ⟨by rw [seqIndex_of h0 h1,e],by omega,by omega,h1⟩
  ·rw [if_neg h1] at h;cases h
 ·rw [if_neg h0] at h
  by_cases h1: -(n:Int)<=i
  ·rw [if_pos h1] at h
   have e:(i+n).toNat=j:=QD h
   exact ⟨by rw [seqIndex_neg (by omega) h1,e],by omega,h1,by omega⟩
  ·rw [if_neg h1] at h;cases h
theorem nY {xs:List α} {i:Int} {v:α} (h:lq xs i=some v):∃ j,seqIndex? i xs.length=some j/\xs[j]? =some v/\j < xs.length/\ -(xs.length:Int)<=i/\i < xs.length:=by
 unfold lq at h
 cases e:Ab xs.length i with
 | none=>rw [e] at h;cases h
 | some j=>
  rw [e] at h
  obtain ⟨h1,h2,h3,h4⟩:=nP e
  exact ⟨j,h1,h,h2,h3,h4⟩
theorem dM {xs:List α} {v:α} (h:xs[j]? =some v):lq xs (j:Int)=some v:=by
 have hj:j < xs.length:=(List.getElem?_eq_some_iff.mp h).1
 have e:Ab xs.length (j:Int)=some j:=by
  unfold Ab
  rw [if_pos (by omega),if_pos (by omega)];simp
 unfold lq;rw [e];exact h
def Mh (b:Expr):Prop:=∀ o i,subscripted b false o i=operate [o,i] (getItem o i)
def BR (X:Cx) (r:R2):Prop:=
 ∀ (value slice:Expr) (pins:List (Addr×Obj)) (s:Shared) (σ:St) (H:Hp) (x y:V) (v u:Value) (Q:VK),Inv X pins σ H s->RelV x v->RelV y u->r x y H Q->
  subscripted slice false v u=operate [v,u] (getItem v u)->wpAny (model X.prog X.w) X.A (subscriptTail value slice v u) (EP X pins σ Q) X.xe s
def Ir (X:Cx) (id:String) (r:V->List V->Hp->VK->Prop):Prop:=
 ∀ (pins:List (Addr×Obj)) (s:Shared) (σ:St) (H:Hp) (x:V) (xs:List V) (v:Value) (us:List Value) (Q:VK),Inv X pins σ H s->RelV x v->be xs us->r x xs H Q->
  wpAny (model X.prog X.w) X.A (call (.builtin id) (v::us)) (EP X pins σ Q) X.xe s
section
variable {a b:Expr} {ta tb:TE} {pos:Pos}
theorem Tf {r:R2} (hr:BR X r) (ha:PE X a ta) (hb:PE X b tb) (hs:Mh b):PE X (.Subscript a b pos) (j_ r ta tb):=by
 intro pins s σ H Q I h
 exact Subscript_ (Ip ha hb I h fun v u s2 x y H2 I2 rx ry q=>hr a b pins s2 σ H2 x y v u Q I2 rx ry q (hs _ _))
def Ti (K:Q0):R2:=fun x y H Q=>∃ p xs i v,x=.ref p/\y=.int i/\af K H p xs/\lq xs i=some v/\Q v H
def Tj (K:Q0):R2:=fun x y H Q=>∃ p xs i v,x=.ref p/\y=.int i/\ae K H p xs/\lq xs i=some v/\Q v H
def Tn:R2:=fun x y H Q=>∃ z i c,x=.str z/\y=.int i/\z.length<=sizeLine/\lq z.cps.toList i=some c/\Q (.str ⟨#[c]⟩) H
theorem To:BR X (Ti X.K):=by
 intro value slice pins s σ H x y v u Q I rx ry h hs
 obtain ⟨p,xs,i,z,rfl,rfl,hq,he,q⟩:=h
 cases rx
 obtain ⟨t,rfl⟩:=ry
 obtain ⟨its,r,pl,hz⟩:=I.list hq
 obtain ⟨j,h1,h2,h3,h4,h5⟩:=nY he
 obtain ⟨w,ew,qh⟩:=r.get h2
 have hl:=r.length
 have hn:=D6
 have fin:EP X pins σ Q w s:=⟨z,H,I,qh,q⟩
 by_cases h0:0<=i
 ·have hj:i.toNat=j:=by
   rw [seqIndex_of h0 h5] at h1
   exact QD h1
  exact item_listR pl.isList h0 (by omega) (by rw [hj];simpa using ew) fin hs
 ·have hj:(i+(its.toArray.size:Int)).toNat=j:=by
   rw [seqIndex_neg (by omega) h4] at h1
   rw [List.size_toArray,<- hl]
   exact QD h1
  exact subscriptTail_builtinR (x:=w) pl.isList.typeIs slot_list_getitem.lookup
   (wpAny_getItem_list_neg (Q:=fun r s'=>r=w/\EP X pins σ Q r s') pl.isList (by omega) (by rw [List.size_toArray]<;>omega) (by omega) (by rw [hj];simpa using ew) ⟨rfl,fin⟩) hs
theorem Tp:BR X (Tj X.K):=by
 intro value slice pins s σ H x y v u Q I rx ry h hs
 obtain ⟨p,xs,i,z,rfl,rfl,hq,he,q⟩:=h
 cases rx
 obtain ⟨t,rfl⟩:=ry
 obtain ⟨its,r,pl,hz⟩:=I.tuple hq
 obtain ⟨j,h1,h2,h3,h4,h5⟩:=nY he
 obtain ⟨w,ew,qh⟩:=r.get h2
 have hl:=r.length
 have hn:=D6
 have fin:EP X pins σ Q w s:=⟨z,H,I,qh,q⟩
 exact subscriptTail_builtinR (x:=w) pl.typeIs slot_tuple_getitem.lookup
  (getItem_tuple (j:=j) (Q:=fun r s'=>r=w/\EP X pins σ Q r s') pl (by omega) (by omega) (by rw [List.size_toArray,<- hl];exact h1) (by simpa using ew) ⟨rfl,fin⟩) hs
theorem Tq:BR X Tn:=by
 intro value slice pins s σ H x y v u Q I rx ry h hs
 obtain ⟨z,i,c,rfl,rfl,hz,he,q⟩:=h
 obtain ⟨t,rfl⟩:=rx
 obtain ⟨t',rfl⟩:=ry
 obtain ⟨j,h1,h2,h3,h4,h5⟩:=nY he
 have hl:z.cps.toList.length=z.length:=by simp [Str.length]
 rw [hl] at h1 h4 h5
 have hn:=D6
 exact tail_any (typeIs_str s z t) slot_str_getitem.lookup (getItem_str (c:=c) (by
  have e1:decide (i < -(2^63:Int))=false:=Qw (by omega)
  have e2:decide (i≥2^63)=false:=Qw (by omega)
  rw [e1,e2,Bool.or_false]) (by rw [h1];simpa using h2) ⟨.str ⟨#[c]⟩,H,I.tok _,⟨_,rfl⟩,q⟩) hs
theorem tX (its:List Value) (n j:Nat) (u:Value):Obj.mapSeq (·.setIfInBounds j u) {cls:=.type "list",data:=.seq its.toArray n}={cls:=.type "list",data:=.seq (its.set j u).toArray n}:=by
 simp [Obj.mapSeq]
theorem Inv.lst {pins:List (Addr×Obj)} {σ:St} {H:Hp} {s:Shared} {p:Addr} {xs:List V} (I:Inv X pins σ H s) (h:H p=some (.lst xs)):
  ∃ (its:List Value) (n:Nat),be xs its/\s.heap.get? p=some {cls:=.type "list",data:=.seq its.toArray n}/\xs.length<=sizeLine:=by
 obtain ⟨z,its,n,r,e⟩:=I.hok p _ h
 exact ⟨its,n,r,e,z⟩
theorem Inv.Tr {xs ys:List V} {its its':List Value} {n':Nat} {f:Obj->Obj} (I:Inv X pins σ H s) (h:H p=some (.lst xs))
  (ho:s.heap.get? p=some {cls:=.type "list",data:=.seq its.toArray n}) (hf:f {cls:=.type "list",data:=.seq its.toArray n}={cls:=.type "list",data:=.seq its'.toArray n'}) (r:be ys its') (hz:ys.length<=sizeLine) (t:Nat):
  Inv X pins σ (upd H p (.lst ys)) {s with heap:=s.heap.update p f,toks:=t}:=by
 have e:(s.heap.update p f).get? p=some {cls:=.type "list",data:=.seq its'.toArray n'}:=by
  rw [Heap.get?_update_self f ho (by rw [hf]<;>rfl),hf]
 refine I.write (x:=p) (e:=p) (by rw [h];trivial) (.inl rfl) (fun b u hb q=>(Heap.get?_update_other _ _ (Ne.symm hb)).trans q) ⟨_,e⟩ ?_
 exact ⟨hz,its',n',r,e⟩
def Tt:V->V->V->Hp->(Hp->Prop)->Prop:=fun o i v H Q=>∃ p xs k j,o=.ref p/\i=.int k/\H p=some (.lst xs)/\Ab xs.length k=some j/\Q (upd H p (.lst (xs.set j v)))
theorem lE:Il X Tt:=by
 intro pins s σ H o i v ov iv u Q I ro ri rv h
 obtain ⟨p,xs,k,j,rfl,rfl,hp,hj,q⟩:=h
 cases ro
 obtain ⟨t,rfl⟩:=ri
 obtain ⟨its,n,r,ho,hz⟩:=I.lst hp
 obtain ⟨h1,h2,h3,h4⟩:=nP hj
 have hl:=r.length
 have hn:=D6
 have I':Inv X pins σ (upd H p (.lst (xs.set j v))) {s with heap:=s.heap.update p (Obj.mapSeq (·.setIfInBounds j u))}:=
  I.Tr hp ho (tX its n j u) (r.set rv j) (by rw [List.length_set];exact hz) s.toks
 by_cases h0:0<=k
 ·have hk:k.toNat=j:=by
   rw [seqIndex_of h0 h4] at h1
   exact QD h1
  exact PySem.W.ki_setAt ho h0 (by omega) (by rw [List.size_toArray,<- hl];exact h4) (by rw [hk];exact ⟨_,I',q⟩)
 ·have hk:(k+(its.toArray.size:Int)).toNat=j:=by
   rw [seqIndex_neg (by omega) h3] at h1
   rw [List.size_toArray,<- hl]
   exact QD h1
  exact PySem.W.ki_setBack ho (by omega) (by rw [List.size_toArray,<- hl];exact h3) (by omega) (by rw [hk];exact ⟨_,I',q⟩)
theorem oT (lo hi:Option Int) (n:Nat):(sliceBounds lo hi none n).1=((HT.cj n 0 lo:Nat):Int)/\(sliceBounds lo hi none n).2.1=((HT.cj n n hi:Nat):Int)/\(sliceBounds lo hi none n).2.2=1:=by
 refine ⟨?_,?_,rfl⟩
 ·cases lo with
  | none=>simp [sliceBounds,HT.cj]
  | some i=>
   simp only [sliceBounds,HT.cj,Option.getD_none,show (1:Int) > 0 by decide,if_true]
   by_cases h:i < 0
   ·simp only [h,if_true]<;>omega
   ·simp only [h,if_false]<;>omega
 ·cases hi with
  | none=>simp [sliceBounds,HT.cj]
  | some i=>
   simp only [sliceBounds,HT.cj,Option.getD_none,show (1:Int) > 0 by decide,if_true]
   by_cases h:i < 0
   ·simp only [h,if_true]<;>omega
   ·simp only [h,if_false]<;>omega
theorem mI (its:List Value) (lo hi:Option Int):slicePick its.toArray lo hi none=((its.drop (HT.cj its.length 0 lo)).take (HT.cj its.length its.length hi - HT.cj its.length 0 lo)).toArray:=by
 obtain ⟨h1,h2,h3⟩:=oT lo hi its.toArray.size
 unfold slicePick
 rw [h1,h2,h3]
 simp only [sliceRange_one,pick_run,List.size_toArray]<;>rfl
def AO (K:Q0):V->Option Int->Option Int->Hp->VK->Prop:=fun x lo hi H Q=>∃ a xs,x=.ref a/\af K H a xs/\∀ p,H p=none->Q (.ref p) (upd H p (.lst (oq xs lo hi)))
theorem Tu:xj X (AO X.K):=by
 intro pins s σ H x v vl vu lo hi sl Q I rx hs pl pu h
 obtain ⟨a,xs,rfl,hx,q⟩:=h
 cases rx
 obtain ⟨its,r,ht,hz⟩:=I.list hx
 have fi:=r.length
 refine ⟨"list",_,slot_list_getitem.lookup,ht.isList.typeIs,?_⟩
 refine wpAny_getItem_list_slice ht.isList hs pl pu .none (by simp) ?_ (by rw [List.size_toArray]<;>omega)
 rw [mI,<- fi]
 refine ⟨.ref s.heap.objs.size,_,I.laid (t':=s.toks) (o:=.lst (oq xs lo hi)) (fun b ob q=>Qc _ q) (Qy _) ?_,rfl,q _ (I.hok.fresh (Qy _))⟩
 exact ⟨Nat.le_trans (k7 xs lo hi) hz,_,0,(r.drop (HT.cj xs.length 0 lo)).take (HT.cj xs.length xs.length hi - HT.cj xs.length 0 lo),Qd _ rfl⟩
def yz:V->Bool
 | .ai=>true
 | .bl _=>true
 | .int _=>true
 | .str _=>true
 | _=>false
def AQ:V->V->Bool
 | .ai,.ai=>true
 | .bl a,.bl b=>a==b
 | .bl a,.int b=>(if a then 1 else 0)==b
 | .int a,.bl b=>a==(if b then 1 else 0)
 | .int a,.int b=>a==b
 | .str a,.str b=>a==b
 | _,_=>false
theorem Tw {y x:V} {v:Value} (ry:RelV y u) (rx:RelV x v) (fy:yz y=true) (fx:yz x=true):SeqAt.EqAt A s u v (AQ y x):=by
 cases y with
 | ai=>
  cases ry
  cases x with
  | ai=>cases rx;exact SeqAt.EqAt.same _
  | bl b=>cases rx;exact SeqAt.EqAt.none_bool b
  | int b=>obtain ⟨t,rfl⟩:=rx;exact SeqAt.EqAt.none_int b t
  | str b=>obtain ⟨t,rfl⟩:=rx;exact SeqAt.EqAt.none_str b t
  | _=>exact absurd (show false=true from fx) Bool.false_ne_true
 | bl a=>
  cases ry
  cases x with
  | ai=>cases rx;exact SeqAt.EqAt.bool_none a
  | bl b=>cases rx;exact SeqAt.EqAt.bool_bool a b
  | int b=>obtain ⟨t,rfl⟩:=rx;exact SeqAt.EqAt.bool_int a b t
  | str b=>obtain ⟨t,rfl⟩:=rx;exact SeqAt.EqAt.bool_str a b t
  | _=>exact absurd (show false=true from fx) Bool.false_ne_true
 | int a=>
  obtain ⟨t',rfl⟩:=ry
  cases x with
  | ai=>cases rx;exact SeqAt.EqAt.int_none a t'
  | bl b=>cases rx;exact SeqAt.EqAt.int_bool a t' b
  | int b=>obtain ⟨t,rfl⟩:=rx;exact SeqAt.EqAt.int_int a t' b t
  | str b=>obtain ⟨t,rfl⟩:=rx;exact SeqAt.EqAt.int_str a t' b t
  | _=>exact absurd (show false=true from fx) Bool.false_ne_true
 | str a=>
  obtain ⟨t',rfl⟩:=ry
  cases x with
  | ai=>cases rx;exact SeqAt.EqAt.str_none a t'
  | bl b=>cases rx;exact SeqAt.EqAt.str_bool a t' b
  | int b=>obtain ⟨t,rfl⟩:=rx;exact SeqAt.EqAt.str_int a t' b t
  | str b=>obtain ⟨t,rfl⟩:=rx;exact SeqAt.EqAt.str_str a t' b t
  | _=>exact absurd (show false=true from fx) Bool.false_ne_true
 | _=>exact absurd (show false=true from fy) Bool.false_ne_true
def Ac (x:V) (u:Value):Bool:=match u with
 | .none=>AQ .ai x
 | .bool b=>AQ (.bl b) x
 | .int i _=>AQ (.int i) x
 | .str z _=>AQ (.str z) x
 | _=>false
theorem xZ {x y:V} (r:RelV y u) (f:yz y=true):Ac x u=AQ y x:=by
 cases y with
 | ai=>cases r;rfl
 | bl b=>cases r;rfl
 | int i=>obtain ⟨t,rfl⟩:=r;rfl
 | str z=>obtain ⟨t,rfl⟩:=r;rfl
 | _=>exact absurd (show false=true from f) Bool.false_ne_true
theorem oP {x:V}:∀ {xs:List V} {us:List Value},be xs us->xs.all yz=true->us.any (Ac x)=xs.any fun y=>AQ y x
 | _,_,.nil,_=>rfl
 | y::xs,u::us,.cons r t,f=>by
  rw [List.all_cons,Bool.and_eq_true] at f
  rw [List.any_cons,List.any_cons,xZ r f.1,oP t f.2]
theorem kZ {A:Around} {s:Shared} {x:V} {v:Value} (rx:RelV x v) (fx:yz x=true):∀ {xs:List V} {us:List Value},be xs us->xs.all yz=true->∀ u∈us,SeqAt.EqAt A s u v (Ac x u)
 | _,_,.nil,_=>fun u hu=>by cases hu
 | y::xs,u::us,.cons r t,f=>fun u' hu=>by
  rw [List.all_cons,Bool.and_eq_true] at f
  rcases Qp.mp hu with rfl | hu
  ·rw [xZ r f.1];exact Tw r rx f.1 fx
  ·exact kZ rx fx t f.2 u' hu
def Ad (x:V) (xs:List V):Bool:=xs.any fun y=>AQ y x
def Tz (K:Q0) (neg:Bool):R2:=fun x y H Q=>∃ p xs,y=.ref p/\(af K H p xs\/ae K H p xs)/\yz x=true/\xs.all yz=true/\Q (.bl (if neg then !Ad x xs else Ad x xs)) H
theorem wO:c_ X (compareOp .In) (Tz X.K false):=by
 intro pins s σ H x y v u Q I rx ry h
 obtain ⟨p,xs,rfl,hq,fx,fs,q⟩:=h
 cases ry
 rcases hq with hq | hq
 ·obtain ⟨its,r,pl,hz⟩:=I.list hq
  refine SeqAt.in_listAt (Ac x) pl.isList (fun w hw=>kZ rx fx r fs w (by simpa using hw)) ⟨.bl _,H,I,rfl,?_⟩
  rw [show its.toArray.any (Ac x)=its.any (Ac x) by simp,oP r fs]
  exact q
 ·obtain ⟨its,r,pl,hz⟩:=I.tuple hq
  refine SeqAt.in_tupleAt (Ac x) pl (fun w hw=>kZ rx fx r fs w (by simpa using hw)) ⟨.bl _,H,I,rfl,?_⟩
  rw [show its.toArray.any (Ac x)=its.any (Ac x) by simp,oP r fs]
  exact q
theorem o9:rn X (.type "list") (fun xs H Q=>∃ p ys,xs=[.ref p]/\(af X.K H p ys\/ae X.K H p ys)/\∀ l,H l=none->Q (.ref l) (upd H l (.lst ys))):=by
 intro pins s σ H xs us Q I r h
 obtain ⟨p,ys,rfl,hq,q⟩:=h
 obtain ⟨u,rfl,rx⟩:=vals1 r
 cases rx
 have fin:∀ (its:List Value),be ys its->ys.length<=sizeLine->∀ (h':Heap) (c':Nat),(∀ b o',s.heap.get? b=some o'->h'.get? b=some o')->
   h'.get? s.heap.objs.size=some {cls:=.type "list",dict:=none,data:=.seq its.toArray c',slots:=#[]}->EP X pins σ Q (.ref s.heap.objs.size) {s with heap:=h'}:=fun its r' hz h' c' kp e=>
  ⟨.ref s.heap.objs.size,_,I.laid (t':=s.toks) kp (Qy _) (show bx X.prog X.w _ h' _ (.lst ys) from ⟨hz,its,c',r',e⟩),rfl,q _ (I.hok.fresh (Qy _))⟩
 rcases hq with hq | hq
 ·obtain ⟨its,r',pl,hz⟩:=I.list hq
  have fi:=r'.length
  obtain ⟨o,ho,hc,n,hd⟩:=pl.isList
  exact call_list_seq p (.inl rfl) ho hc hd (fun h' c' kp e=>fin its r' hz h' c' kp e) (by simp only [List.size_toArray]<;>omega)
 ·obtain ⟨its,r',pl,hz⟩:=I.tuple hq
  have fi:=r'.length
  obtain ⟨o,ho,hc,n,hd⟩:=pl
  exact call_list_seq p (.inr rfl) ho hc hd (fun h' c' kp e=>fin its r' hz h' c' kp e) (by simp only [List.size_toArray]<;>omega)
theorem mG:rn X (.type "tuple") (fun xs H Q=>∃ p ys,xs=[.ref p]/\((af X.K H p ys/\∀ l,H l=none->Q (.ref l) (upd H l (.tup ys)))\/(ae X.K H p ys/\Q (.ref p) H))):=by
 intro pins s σ H xs us Q I r h
 obtain ⟨p,ys,rfl,h⟩:=h
 obtain ⟨u,rfl,rx⟩:=vals1 r
 cases rx
 rcases h with ⟨hq,q⟩ | ⟨hq,q⟩
 ·obtain ⟨its,r',pl,hz⟩:=I.list hq
  have fi:=r'.length
  refine call_tuple_list pl.isList (fun h' kp=>?_) (by simp only [List.size_toArray]<;>omega)
  have I1:Inv X pins σ H {s with heap:=h'}:=I.kept (t':=s.toks) kp
  have I2:Inv X pins σ (upd H h'.objs.size (.tup ys)) {s with heap:=h'.push {cls:=.type "tuple",data:=.seq its.toArray}}:=
   I1.laid (t':=s.toks) (fun b o e=>Qc _ e) (Qy _) (show bx X.prog X.w _ _ _ (.tup ys) from ⟨⟨hz,BA.new rfl rfl⟩,its,r',IsTup.new _ _⟩)
  exact ⟨.ref h'.objs.size,_,I2,rfl,q _ (I1.hok.fresh (Qy _))⟩
 ·obtain ⟨its,r',pl,hz⟩:=I.tuple hq
  exact call_tuple_same pl ⟨.ref p,H,I,rfl,q⟩
def Iu (K:Q0) (T:String) (x:V) (H:Hp):Prop:=match x with
 | .str _=>T="str"
 | .int _=>T="int"
 | .ref p=>(T="list"/\∃ xs,af K H p xs)\/(T="tuple"/\∃ o,K.lookup p=some o/\o.cls=.type "tuple"/\o.dict=none)\/
   (T="dict"/\((∃ kvs,H p=some (.dK kvs))\/∃ kvs,H p=some (.dT kvs)))\/(T="set"/\∃ S n,H p=some (.set S n))
 | _=>False
theorem yR {x:V} {v:Value} (I:Inv X pins σ H s) (r:RelV x v) (ty:Iu X.K T x H):
  s.TypeIs v T/\∀ a,v=.ref a->∃ ob,s.heap.get? a=some ob/\ob.dict=none:=by
 cases x with
 | str z=>
  obtain ⟨t,rfl⟩:=r
  cases (show T="str" from ty)
  exact ⟨typeIs_str s z t,fun _ e=>nomatch e⟩
 | int i=>
  obtain ⟨t,rfl⟩:=r
  cases (show T="int" from ty)
  exact ⟨typeIs_int s i t,fun _ e=>nomatch e⟩
 | ref p=>
  cases r
  rcases ty with ⟨rfl,xs,hq⟩ | ⟨rfl,o,hk,hc,hd⟩ | ⟨rfl,hk⟩ | ⟨rfl,S,n,hk⟩
  ·obtain ⟨its,_,pl,_⟩:=I.list hq
   refine ⟨pl.isList.typeIs,fun a e=>?_⟩
   cases e
   obtain ⟨o,n,e,c,hd,_⟩:=pl
   exact ⟨o,e,hd⟩
  ·refine ⟨⟨o,I.iw p o hk,hc⟩,fun a e=>?_⟩
   cases e
   exact ⟨o,I.iw _ o hk,hd⟩
  ·have z:∃ o,s.heap.get? p=some o/\o.ExactDict:=by
    rcases hk with ⟨kvs,hk⟩ | ⟨kvs,hk⟩
    ·obtain ⟨_,_,_,_,o,_,_,e,ex,_⟩:=I.hok p _ hk
     exact ⟨o,e,ex⟩
    ·obtain ⟨_,_,_,_,o,_,_,e,ex,_⟩:=I.hok p _ hk
     exact ⟨o,e,ex⟩
   obtain ⟨o,e,ex⟩:=z
   refine ⟨⟨o,e,ex.1⟩,fun a e2=>?_⟩
   cases e2
   exact ⟨o,e,ex.2.1⟩
  ·obtain ⟨o,_,_,_,e,ex,_⟩:=I.hok p _ hk
   refine ⟨⟨o,e,ex.1⟩,fun a e2=>?_⟩
   cases e2
   exact ⟨o,e,ex.2.1⟩
 | _=>exact False.elim ty
def Mi (K:Q0) (T:String) (r:V->List V->Hp->VK->Prop) (to:TE):TE:=fun σ H Q=>to σ H fun x H1=>Iu K T x H1/\r x [] H1 Q
def Gg (K:Q0) (T:String) (r:V->List V->Hp->VK->Prop) (to:TE) (t:TA):TE:=fun σ H Q=>to σ H fun x H1=>Iu K T x H1/\t σ H1 fun xs H2=>r x xs H2 Q
variable {o:Expr} {es:List Expr} {t:TA} {id:String} {r:V->List V->Hp->VK->Prop}
theorem TF (pa:PlainAttrs T) (slot:Slot T name id) (Ae:typeOf (.builtin id)=pure (.type "method_descriptor")) (hm:Ir X id r) (ho:PE X o to)
  (nc:attributeBase o name X.env (eval o X.env)=eval o X.env:=by rfl) (ni:(apos.endLine==cpos.line)=true:=by rfl):PE X (.Call (.Attribute o name apos) [] [] cpos) (Mi X.K T r to):=by
 intro pins s σ H Q I h
 refine wpAny_Call_method0_late nc ni (av (ho pins s σ H _ I h) ?_)
 rintro v s1 ⟨x,H1,I1,r1,ty,q1⟩
 obtain ⟨h1,h2⟩:=yR I1 r1 ty
 exact ⟨T,id,pa,slot,Ae,h1,h2,Calls.callWith_builtin rfl (PySem.evalArgs_none (hm pins s1 σ H1 x [] v [] Q I1 r1 .nil q1))⟩
theorem TJ (pa:PlainAttrs T) (slot:Slot T name id) (Ae:typeOf (.builtin id)=pure (.type "method_descriptor")) (hm:Ir X id r) (ho:PE X o to) (ha:PA X (e::es) t)
  (nc:attributeBase o name X.env (eval o X.env)=eval o X.env:=by rfl)
  (Af:((backTo cpos (starEach (e::es) X.env)).all (fun x=> !x.1)&&(backToKw cpos (keywordEach [] X.env)).all (fun x=>x.1.isSome)
   &&decide ((e::es).length+([]:List Keyword).length+(if ([]:List Keyword).isEmpty then 0 else 1) < 30))=true:=by rfl)
  (ni:(apos.endLine==cpos.line)=true:=by rfl) (hs:starEach (e::es) X.env=(false,eval e X.env)::starEach es X.env:=by rfl) (Ec:(backTo cpos (starEach es X.env)).any (·.1)=false:=by rfl):
  PE X (.Call (.Attribute o name apos) (e::es) [] cpos) (Gg X.K T r to t):=by
 intro pins s σ H Q I h
 refine wpAny_Call_method_late nc Af ni rfl (av (ho pins s σ H _ I h) ?_)
 rintro v s1 ⟨x,H1,I1,r1,ty,q1⟩
 obtain ⟨h1,h2⟩:=yR I1 r1 ty
 refine ⟨T,id,pa,slot,Ae,h1,h2,?_⟩
 have hA:=ha cpos pins s1 σ H1 _ I1 q1
 rw [hs] at hA ⊢
 refine Calls.callWith_builtin (by show (false||(backTo cpos (starEach es X.env)).any (·.1))=false;rw [Ec]<;>rfl) (Calls.evalArgs_plain ?_)
 exact av hA fun us s2 ⟨vs,H2,I2,r2,q2⟩=>hm pins s2 σ H2 x vs v us Q I2 r1 r2 q2
/- xs.append(e),list.index on a aaj tuple .. are Ir facts of 06m -/
end
def CS (X:Cx) (id:String) (r:V->List V->Hp->VK->Prop):Prop:=
 ∀ (pins:List (Addr×Obj)) (s:Shared) (σ:St) (H:Hp) (x:V) (xs:List V) (v:Value) (us:List Value) (Q:VK),Inv X pins σ H s->RelV x v->be xs us->r x xs H Q->
  wpAny (model X.prog X.w) X.A (call (.builtin id) (v::us)) (EP X pins σ Q) X.xe s
theorem be.one {x:V} {us:List Value} (h:be [x] us):∃ u,us=[u]/\RelV x u:=by
 cases h with
 | cons r t=>
  cases t
  exact ⟨_,rfl,r⟩
theorem be.two {x y:V} (h:be [x,y] us):∃ u v,us=[u,v]/\RelV x u/\RelV y v:=by
 cases h with
 | cons r t=>
  cases t with
  | cons q t=>
   cases t
   exact ⟨_,_,rfl,r,q⟩
theorem be.zero:∀ {us:List Value},be [] us->us=[]
 | _,.nil=>rfl
theorem be.eraseIdx:∀ {xs:List V} {us:List Value} (i:Nat),be xs us->be (xs.eraseIdx i) (us.eraseIdx i)
 | _,_,_,.nil=>.nil
 | _,_,0,.cons _ t=>t
 | _,_,i+1,.cons r t=>.cons r (be.eraseIdx i t)
theorem nG {α:Type}:∀ (l:List α) (i:Nat),(l.eraseIdx i).length<=l.length
 | [],_=>Qy _
 | _::_,0=>Nat.le_succ _
 | _::r,i+1=>Nat.succ_le_succ (nG r i)
section
variable {xs ys zs:List V}
theorem Inv.Iv {its its':List Value} {f:Array Value->Array Value} (I:Inv X pins σ H s) (hH:H l=some (.lst xs))
  (e:s.heap.get? l=some {cls:=.type "list",data:=.seq its.toArray n}) (hf:f its.toArray=its'.toArray) (hv:be ys its') (hz:ys.length<=sizeLine):
  Inv X pins σ (upd H l (.lst ys)) {s with heap:=s.heap.update l (Obj.mapSeq f),toks:=t'}:=by
 have q:=PySem.IsL.update e f
 rw [hf] at q
 refine I.write (x:=l) (e:=l) (by rw [hH];exact trivial) (.inl rfl) (fun b' u hb hu=>(Heap.get?_update_other s.heap (Obj.mapSeq f) (Ne.symm hb)).trans hu) ⟨_,q⟩ ?_
 exact ⟨hz,its',_,hv,q⟩
theorem Inv.TL {its:List Value} (I:Inv X pins σ H s) (hv:be ys its) (hz:ys.length<=sizeLine):
  Inv X pins σ (upd H s.heap.objs.size (.lst ys)) {s with heap:=s.heap.push {cls:=.type "list",data:=.seq its.toArray},toks:=t'}:=
 I.laid (fun _ _ q=>Qc _ q) (Qy _) ⟨hz,its,0,hv,Qd _ rfl⟩
theorem Inv.fresh (I:Inv X pins σ H s):H s.heap.objs.size=none:=I.hok.fresh (Qy _)
theorem Inv.Ed (I:Inv X pins σ H s) (hH:H l=some (.lst xs)):xs.length<=sizeLine/\∃ (its:List Value) (n:Nat),be xs its/\xs.length=its.length/\s.heap.get? l=some {cls:=.type "list",data:=.seq its.toArray n}:=by
 obtain ⟨z,its,n,r,e⟩:=I.hok l _ hH
 exact ⟨z,its,n,r,r.length,e⟩
end
def Mj:V->List V->Hp->VK->Prop:=fun x vs H Q=>∃ l xs y,x=.ref l/\vs=[y]/\H l=some (.lst xs)/\xs.length < sizeLine/\Q .ai (upd H l (.lst (xs++[y])))
theorem cB:CS X "list.append" Mj:=by
 intro pins s σ H x vs v us Q I rx rv h
 obtain ⟨l,xs,y,rfl,rfl,hH,hz,q⟩:=h
 cases rx
 obtain ⟨u,rfl,ru⟩:=rv.one
 obtain ⟨z,its,n,r,hl,e⟩:=I.Ed hH
 refine call_meets F.slot_list_append ⟨_,e,rfl⟩ F.entry_list_append (F.args_list_append_2 _ _) (PySem.list_append l its.toArray n u (by rw [List.size_toArray];omega)) ⟨e,?_⟩
 refine ⟨.ai,_,I.Iv (its':=its++[u]) hH e (by simp) (r.append (.cons ru .nil)) ?_,rfl,q⟩
 rw [Qk,List.length_singleton]
 omega
def TM:V->List V->Hp->VK->Prop:=fun x vs H Q=>∃ l xs i k y,x=.ref l/\vs=[.int i]/\H l=some (.lst xs)/\ -(2^63)<=i/\i < 2^63/\seqIndex? i xs.length=some k/\xs[k]? =some y/\Q y (upd H l (.lst (xs.eraseIdx k)))
theorem yA:CS X "list.pop" TM:=by
 intro pins s σ H x vs v us Q I rx rv h
 obtain ⟨l,xs,i,k,y,rfl,rfl,hH,h1,h2,hk,hy,q⟩:=h
 cases rx
 obtain ⟨u,rfl,ru⟩:=rv.one
 obtain ⟨t,rfl⟩:=ru
 obtain ⟨z,its,n,r,hl,e⟩:=I.Ed hH
 obtain ⟨w,hw,qh⟩:=r.get hy
 refine call_meets F.slot_list_pop ⟨_,e,rfl⟩ F.entry_list_pop (F.args_list_pop_2 _ _)
  (MeetsSeq.list_pop_at l its.toArray n i t k w (fitsIndex_both h1 h2) (by rw [List.size_toArray,<- hl];exact hk) (by rw [<- Array.getElem?_toList];exact hw) (by rw [List.size_toArray];omega)) ⟨e,?_⟩
 refine ⟨y,_,I.Iv (its':=its.eraseIdx k) hH e ?_ (r.eraseIdx k) ?_,qh,q⟩
 ·show its.toArray.eraseIdxIfInBounds k=(its.eraseIdx k).toArray
  rw [List.eraseIdxIfInBounds_toArray]
 ·have:=nG xs k
  omega
def TN:V->List V->Hp->VK->Prop:=fun x vs H Q=>∃ l xs,x=.ref l/\vs=[]/\H l=some (.lst xs)/\Q .ai (upd H l (.lst []))
theorem yN:CS X "list.clear" TN:=by
 intro pins s σ H x vs v us Q I rx rv h
 obtain ⟨l,xs,rfl,rfl,hH,q⟩:=h
 cases rx
 have TQ:=rv.zero
 subst TQ
 obtain ⟨z,its,n,r,hl,e⟩:=I.Ed hH
 refine call_meets F.slot_list_clear ⟨_,e,rfl⟩ F.entry_list_clear (F.args_list_clear_1 _) (AutoSeq1.list_clear_list_0 l its.toArray n (by rw [List.size_toArray];omega)) ⟨e,?_⟩
 exact ⟨.ai,_,I.Iv (its':=[]) (ys:=[]) hH e rfl .nil (Nat.zero_le _),rfl,q⟩
def TR:R2:=fun x y H Q=>∃ l b xs zs,x=.ref l/\y=.ref b/\H l=some (.lst xs)/\H b=some (.lst zs)/\xs.length+zs.length<=sizeLine/\∀ p,H p=none->Q (.ref p) (upd H p (.lst (xs++zs)))
theorem TU:c_ X (binaryOp .Add) TR:=by
 intro pins s σ H x y v u Q I rx ry h
 obtain ⟨l,b,xs,zs,rfl,rfl,hH,hB,hz,q⟩:=h
 cases rx
 cases ry
 obtain ⟨z,its,n,r,hl,e⟩:=I.Ed hH
 obtain ⟨z2,its2,n2,r2,ue,e2⟩:=I.Ed hB
 refine PySem.P.add_list e e2 ?_ (by rw [List.size_toArray,List.size_toArray];omega)
 have ea:its.toArray++its2.toArray=(its++its2).toArray:=by simp
 rw [ea]
 exact ⟨.ref _,_,I.TL (t':=s.toks) (r.append r2) (by rw [Qk];omega),rfl,q _ I.fresh⟩
section
variable {κ:Type} [DecidableEq κ]
def bh (kvs:List (κ×V)) (k:κ):Option V:=(kvs.find? fun kv=>decide (kv.1=k)).map (·.2)
def putK (kvs:List (κ×V)) (k:κ) (v:V):List (κ×V):=
 if (kvs.any fun kv=>decide (kv.1=k))=true then kvs.map (fun kv=>if kv.1=k then (kv.1,v) else kv) else kvs++[(k,v)]
theorem bU {p:κ×V} {r:List (κ×V)} {k:κ} (e:p.1=k):bh (p::r) k=some p.2:=by simp [bh,List.find?_cons,e]
theorem bT {p:κ×V} {r:List (κ×V)} {k:κ} (e:¬p.1=k):bh (p::r) k=bh r k:=by simp [bh,List.find?_cons,e]
theorem cA (k:κ):∀ kvs:List (κ×V),(kvs.any fun kv=>decide (kv.1=k))=(bh kvs k).isSome
 | []=>rfl
 | p::r=>by
  rw [List.any_cons]
  by_cases e:p.1=k
  ·simp only [bU e,Qv e,Bool.true_or,Option.isSome_some]
  ·rw [bT e,Qw e,Bool.false_or];exact cA k r
theorem qV (k j:κ) (y:V):∀ kvs:List (κ×V),bh (kvs.map fun kv=>if kv.1=k then (kv.1,y) else kv) j=(bh kvs j).map fun x=>if j=k then y else x
 | []=>rfl
 | p::r=>by
  have ih:=qV k j y r
  rw [List.map_cons]
  by_cases h:p.1=k
  ·rw [if_pos h]
   by_cases e:p.1=j
   ·rw [bU (p:=(p.1,y)) e,bU e,Option.map_some,if_pos (e.symm.trans h)]
   ·rw [bT (p:=(p.1,y)) e,bT e,ih]
  ·rw [if_neg h]
   by_cases e:p.1=j
   ·rw [bU (p:=p) e,bU e,Option.map_some,if_neg (fun z=>h (e.trans z))]
   ·rw [bT (p:=p) e,bT e,ih]
theorem jG (k j:κ) (y:V):∀ kvs:List (κ×V),bh kvs k=none->bh (kvs++[(k,y)]) j=if j=k then some y else bh kvs j
 | [],_=>by
  by_cases e:k=j
  ·rw [if_pos e.symm];exact bU (p:=(k,y)) e
  ·rw [if_neg (fun z=>e z.symm)];exact bT (p:=(k,y)) e
 | p::r,hn=>by
  rw [List.cons_append]
  have hk:¬p.1=k:=fun z=>by rw [bU z] at hn;cases hn
  rw [bT hk] at hn
  have ih:=jG k j y r hn
  by_cases e:p.1=j
  ·rw [bU e,bU e,if_neg (fun z=>hk (e.trans z))]
  ·rw [bT e,bT e,ih]
theorem kR (kvs:List (κ×V)) (k j:κ) (y:V):bh (putK kvs k y) j=if j=k then some y else bh kvs j:=by
 unfold putK
 by_cases a:(kvs.any fun kv=>decide (kv.1=k))=true
 ·rw [if_pos a,qV]
  rw [cA] at a
  by_cases e:j=k
  ·obtain ⟨x,hx⟩:=Option.isSome_iff_exists.mp a
   rw [if_pos e,e,hx,Option.map_some,if_pos rfl]
  ·rw [if_neg e]
   cases bh kvs j with
   | none=>rfl
   | some x=>rw [Option.map_some,if_neg e]
 ·rw [if_neg a]
  refine jG k j y kvs ?_
  rw [cA] at a
  cases q:bh kvs k with
  | none=>rfl
  | some x=>rw [q] at a;exact (a rfl).elim
theorem cO (kvs:List (κ×V)) (k:κ) (v:V):(putK kvs k v).length<=kvs.length+1:=by
 unfold putK
 split
 ·rw [Ql];omega
 ·rw [Qk,List.length_cons,List.length_nil];omega
theorem cG {kvs:List (κ×V)} {k:κ} (v:V) (h:bh kvs k=none):putK kvs k v=kvs++[(k,v)]:=by
 unfold putK
 rw [cA,h]
 exact if_neg (by decide)
theorem om.CT {o:Option V} {u:Option Value} (r:om o u):o.isSome=u.isSome:=by
 cases o with
 | none=>cases u with
  | none=>rfl
  | some _=>exact (show False from r).elim
 | some _=>cases u with
  | none=>exact (show False from r).elim
  | some _=>rfl
theorem om.getD {o:Option V} {u:Option Value} {d:V} {d':Value} (r:om o u) (rd:RelV d d'):RelV (o.getD d) (u.getD d'):=by
 cases o with
 | none=>cases u with
  | none=>exact rd
  | some _=>exact (show False from r).elim
 | some _=>cases u with
  | none=>exact (show False from r).elim
  | some _=>exact r
theorem KV.val {kvs:List (κ×V)} {vs:List (κ×Value)} (r:KV kvs vs) (k:κ):om (bh kvs k) (valueAt vs k):=by
 unfold KV at r
 induction r with
 | nil=>exact True.intro
 | @cons p q ps qs h t ih=>
  obtain ⟨h1,h2⟩:=h
  by_cases e:p.1=k
  ·have e':q.1=k:=h1.symm.trans e
   have b:valueAt (q::qs) k=some q.2:=by simp [valueAt,List.find?_cons,e']
   rw [bU e,b];exact h2
  ·have e':¬q.1=k:=fun z=>e (h1.trans z)
   have b:valueAt (q::qs) k=valueAt qs k:=by simp [valueAt,List.find?_cons,e']
   rw [bT e,b];exact ih
theorem KV.any {kvs:List (κ×V)} {vs:List (κ×Value)} (r:KV kvs vs) (k:κ):(kvs.any fun kv=>decide (kv.1=k))=vs.any fun kv=>decide (kv.1=k):=by
 unfold KV at r
 induction r with
 | nil=>rfl
 | cons h t ih=>rw [List.any_cons,List.any_cons,ih,h.1]
theorem KV.repl {kvs:List (κ×V)} {vs:List (κ×Value)} (r:KV kvs vs) (k:κ) {y:V} (ry:RelV y u):
  KV (kvs.map fun kv=>if kv.1=k then (kv.1,y) else kv) (vs.map fun kv=>if kv.1=k then (kv.1,u) else kv):=by
 unfold KV at r ⊢
 induction r with
 | nil=>exact .nil
 | @cons p q ps qs h t ih=>
  rw [List.map_cons,List.map_cons]
  refine .cons ?_ ih
  obtain ⟨h1,h2⟩:=h
  by_cases e:p.1=k
  ·rw [if_pos e,if_pos (h1.symm.trans e)];exact ⟨h1,ry⟩
  ·rw [if_neg e,if_neg (fun z=>e (h1.trans z))];exact ⟨h1,h2⟩
theorem KV.put {kvs:List (κ×V)} {vs:List (κ×Value)} (r:KV kvs vs) (k:κ) {y:V} (ry:RelV y u):KV (putK kvs k y) (stored vs k u):=by
 unfold putK stored
 rw [r.any k]
 by_cases e:(vs.any fun kv=>decide (kv.1=k))=true
 ·rw [if_pos e,if_pos e];exact r.repl k ry
 ·rw [if_neg e,if_neg e];exact Paired.snoc r ⟨rfl,ry⟩
theorem KV.length {kvs:List (κ×V)} {vs:List (κ×Value)} (r:KV kvs vs):kvs.length=vs.length:=Paired.length r
end
theorem iQ {k:Key} (r:RelV (kV k) u):(cf P w).is k u=true:=by
 cases k with
 | inl i=>obtain ⟨t,e⟩:=(show ∃ t,u=Value.int i t from r);subst e;exact rD P w i t
 | inr x=>obtain ⟨t,e⟩:=(show ∃ t,u=Value.str x t from r);subst e;exact gB P w x t
theorem TV {a b:Key} (e:kV a=kV b):a=b:=by
 cases a with
 | inl i=>cases b with
  | inl j=>have e':V.int i=V.int j:=e;injection e' with e';rw [e']
  | inr y=>exact nomatch (show V.int i=V.str y from e)
 | inr x=>cases b with
  | inl j=>exact nomatch (show V.str x=V.int j from e)
  | inr y=>have e':V.str x=V.str y:=e;injection e' with e';rw [e']
theorem nF {P:Program} {w:World}:∀ {ks:List Key} {us:List Value},be (ks.map kV) us->ItemsAre (cf P w) ks us
 | [],_,r=>by rw [List.map_nil] at r;cases r;exact .nil
 | k::ks,_,r=>by
  rw [List.map_cons] at r
  cases r with
  | cons h t=>exact .cons (iQ h) (nF t)
abbrev KT (H:Hp):List (List Key×V)->List (List Key×Addr×Value)->Prop:=Paired fun p q=>p.1=q.1/\aj H q.2.1 (p.1.map kV)/\RelV p.2 q.2.2
theorem KT.val {kvs:List (List Key×V)} (r:KT H kvs xs) (k:List Key):om (bh kvs k) ((atKey xs k).map (·.2)):=by
 induction r with
 | nil=>exact True.intro
 | @cons p q ps qs h t ih=>
  obtain ⟨h1,_,h2⟩:=h
  by_cases e:p.1=k
  ·have e':q.1=k:=h1.symm.trans e
   have b:atKey (q::qs) k=some q.2:=by simp [atKey,List.find?_cons,e']
   rw [bU e,b];exact h2
  ·have e':¬q.1=k:=fun z=>e (h1.trans z)
   have b:atKey (q::qs) k=atKey qs k:=by simp [atKey,List.find?_cons,e']
   rw [bT e,b];exact ih
theorem KT.repl {kvs:List (List Key×V)} (r:KT H kvs xs) (k:List Key) {y:V} (ry:RelV y u):
  KT H (kvs.map fun kv=>if kv.1=k then (kv.1,y) else kv) (xs.map (putAt k u)):=by
 induction r with
 | nil=>exact .nil
 | @cons p q ps qs h t ih=>
  rw [List.map_cons,List.map_cons]
  refine .cons ?_ ih
  obtain ⟨h1,h2,h3⟩:=h
  unfold putAt
  by_cases e:p.1=k
  ·rw [if_pos e,if_pos (h1.symm.trans e)];exact ⟨h1,h2,ry⟩
  ·rw [if_neg e,if_neg (fun z=>e (h1.trans z))];exact ⟨h1,h2,h3⟩
theorem KT.put {kvs:List (List Key×V)} (r:KT H kvs xs) (k:List Key) {y:V} (hb:aj H b (k.map kV)) (ry:RelV y u):
  KT H (putK kvs k y) (storedH xs k b u):=by
 have e:(kvs.any fun kv=>decide (kv.1=k))=(atKey xs k).isSome:=by
  rw [cA,(r.val k).CT,Option.isSome_map]
 unfold putK storedH
 rw [e]
 by_cases q:(atKey xs k).isSome=true
 ·rw [if_pos q,if_pos q];exact r.repl k ry
 ·rw [if_neg q,if_neg q];exact Paired.snoc r ⟨rfl,hb,ry⟩
theorem KT.keeps {kvs:List (List Key×V)} (r:KT H kvs xs) (ht:∀ b ys,aj H b ys->aj H' b ys):KT H' kvs xs:=
 Paired.Ie r fun _ _ z=>⟨z.1,ht _ _ z.2.1,z.2.2⟩
theorem Ml {u:HO} (ok:fh P w H h) (e:Rd H a u):bx P w H h a u:=e.ok ok
theorem mQ {kvs:List (Key×V)} (ok:fh P w H h) (e:Rd H a (.dK kvs)):kvs.length<=sizeLine/\(a==sysModules)=false/\∃ vs,KV kvs vs/\h.DictOf (cf P w) a vs:=
 show bx P w H h a (.dK kvs) from Ml ok e
theorem yP {kvs:List (Key×V)} (ok:fh P w H h) (e:H a=some (.dK kvs)):kvs.length<=sizeLine/\(a==sysModules)=false/\∃ vs,KV kvs vs/\h.DictOf (cf P w) a vs:=mQ ok (.inl e)
theorem dA (ok:fh P w H h) (e:aj H a (ks.map kV)):(tupleKind (cf P w)).is h ks a:=by
 have qq:bx P w H h a (.tup (ks.map kV)):=by
  rcases e with e | ⟨_,e⟩
  ·exact ok a _ e
  ·exact (ok a _ e).2
 obtain ⟨_,its,r,o,h1,h2,n,h3⟩:=qq
 exact ⟨o,its.toArray,n,h1,h2,h3,by simpa using nF r⟩
theorem qB {kvs:List (List Key×V)} (ok:fh P w H h) (e:Rd H a (.dT kvs)):kvs.length<=sizeLine/\(a==sysModules)=false/\
  ∃ xs,KT H kvs xs/\h.DictOfH (tupleKind (cf P w)) a xs:=by
 obtain ⟨z,y,xs,r,o,es,ep,h1,h2,h3,h4,h5⟩:=(show bx P w H h a (.dT kvs) from Ml ok e)
 refine ⟨z,y,xs,r,o,es,ep,h1,h2,h3,h4,fun x hx=>?_,h5⟩
 have all:∀ {l:List (List Key×V)} {m:List (List Key×Addr×Value)},KT H l m->∀ x∈m,(tupleKind (cf P w)).is h x.1 x.2.1:=by
  intro l m q
  induction q with
  | nil=>intro x hx;exact nomatch hx
  | @cons p q ps qs hq t ih=>
   intro x hx
   rcases Qp.mp hx with e | hx
   ·subst e
    exact dA ok (by rw [<- hq.1];exact hq.2.1)
   ·exact ih x hx
 exact all r x hx
theorem Mm {kvs:List (List Key×V)} (ok:fh P w H h) (e:H a=some (.dT kvs)):kvs.length<=sizeLine/\(a==sysModules)=false/\
  ∃ xs,KT H kvs xs/\h.DictOfH (tupleKind (cf P w)) a xs:=qB ok (.inl e)
def fg (H:Hp) (a:Addr) (y:V) (r:Option V):Prop:=
 (∃ kvs k,Rd H a (.dK kvs)/\y=kV k/\r=bh kvs k)\/∃ kvs k b,Rd H a (.dT kvs)/\y=.ref b/\aj H b (k.map kV)/\r=bh kvs k
def AR (H:Hp) (a:Addr) (y v:V) (H':Hp):Prop:=
 (∃ kvs k,H a=some (.dK kvs)/\y=kV k/\kvs.length < sizeLine/\H'=upd H a (.dK (putK kvs k v)))\/
 ∃ kvs k b,H a=some (.dT kvs)/\y=.ref b/\aj H b (k.map kV)/\kvs.length < sizeLine/\H'=upd H a (.dT (putK kvs k v))
theorem fg.k {H:Hp} {a:Addr} {kvs:List (Key×V)} {k:Key} (e:H a=some (.dK kvs)):fg H a (kV k) (bh kvs k):=.inl ⟨kvs,k,.inl e,rfl,rfl⟩
theorem fg.t {kvs:List (List Key×V)} {k:List Key} (e:H a=some (.dT kvs)) (eb:H b=some (.tup (k.map kV))):fg H a (.ref b) (bh kvs k):=.inr ⟨kvs,k,b,.inl e,rfl,.inl eb,rfl⟩
theorem AR.k {H:Hp} {a:Addr} {kvs:List (Key×V)} {k:Key} {v:V} (e:H a=some (.dK kvs)) (hl:kvs.length < sizeLine):AR H a (kV k) v (upd H a (.dK (putK kvs k v))):=.inl ⟨kvs,k,e,rfl,hl,rfl⟩
theorem AR.t {kvs:List (List Key×V)} {k:List Key} {v:V} (e:H a=some (.dT kvs)) (eb:H b=some (.tup (k.map kV))) (hl:kvs.length < sizeLine):
  AR H a (.ref b) v (upd H a (.dT (putK kvs k v))):=.inr ⟨kvs,k,b,e,rfl,.inl eb,hl,rfl⟩
section
variable {y v:V} {r:Value} {o:Option V}
theorem Inv.big (I:Inv X pins σ H s):sysModules < s.heap.objs.size:=by
 have h:mainGlobals < s.heap.objs.size:=(I.mod.glob.keeps I.bk).lt
 exact Nat.lt_trans (by decide) h
theorem wE (hu:A.units+1 < cLine) (I:Inv X pins σ H s) (g:fg H a y (some v)) (ry:RelV y u) (h:∀ w' s',Inv X pins σ H s'->RelV v w'->Q w' s'):
  wpAny (model X.prog X.w) A (getItem (.ref a) u) Q E s:=by
 rcases g with ⟨kvs,k,e,ey,l⟩ | ⟨kvs,k,b,e,ey,eb,l⟩
 ·subst ey
  obtain ⟨z,hd,vs,rel,dd⟩:=mQ I.hok e
  obtain ⟨w',hw,qh⟩:=om.some_of (v:=v) (o:=valueAt vs k) (by rw [l];exact rel.val k)
  exact wpAny_getItem_of (iQ ry) dd.mapOf hw (h w' _ (I.tok _) qh)
 ·subst ey
  cases (show u=Value.ref b from ry)
  obtain ⟨z,hd,xs,rel,dd⟩:=qB I.hok e
  obtain ⟨w',hw,qh⟩:=om.some_of (v:=v) (o:=(atKey xs k).map (·.2)) (by rw [l];exact rel.val k)
  obtain ⟨p,hp,CU⟩:=Option.map_eq_some_iff.mp hw
  refine wpAny_getItem_heap (tupleKind_room_in1 hu) (dA I.hok eb) dd hp ?_
  rw [CU]
  exact h w' _ (I.tok _) qh
theorem TY (hu:A.units+1 < cLine) (I:Inv X pins σ H s) (g:fg H a y o) (ry:RelV y u) (h:∀ s',Inv X pins σ H s'->Q (.bool o.isSome) s'):
  wpAny (model X.prog X.w) A (compareOp .In u (.ref a)) Q E s:=by
 rcases g with ⟨kvs,k,e,ey,l⟩ | ⟨kvs,k,b,e,ey,eb,l⟩
 ·subst ey
  obtain ⟨z,hd,vs,rel,dd⟩:=mQ I.hok e
  refine wpAny_in_of (iQ ry) hd dd.mapOf ?_
  rw [<- (rel.val k).CT,<- l]
  exact h _ (I.tok _)
 ·subst ey
  cases (show u=Value.ref b from ry)
  obtain ⟨z,hd,xs,rel,dd⟩:=qB I.hok e
  refine wpAny_in_heap (tupleKind_room_in1 hu) (dA I.hok eb) hd dd ?_
  have q:=(rel.val k).CT
  rw [Option.isSome_map] at q
  rw [<- q,<- l]
  exact h _ (I.tok _)
theorem TZ (hu:A.units+1 < cLine) (I:Inv X pins σ H s) (g:fg H a y o) (ry:RelV y u) (h:∀ s',Inv X pins σ H s'->Q (.bool (!o.isSome)) s'):
  wpAny (model X.prog X.w) A (compareOp .NotIn u (.ref a)) Q E s:=by
 rcases g with ⟨kvs,k,e,ey,l⟩ | ⟨kvs,k,b,e,ey,eb,l⟩
 ·subst ey
  obtain ⟨z,hd,vs,rel,dd⟩:=mQ I.hok e
  refine wpAny_notIn_of (iQ ry) hd dd.mapOf ?_
  rw [<- (rel.val k).CT,<- l]
  exact h _ (I.tok _)
 ·subst ey
  cases (show u=Value.ref b from ry)
  obtain ⟨z,hd,xs,rel,dd⟩:=qB I.hok e
  refine wpAny_notIn_heap (tupleKind_room_in1 hu) (dA I.hok eb) hd dd ?_
  have q:=(rel.val k).CT
  rw [Option.isSome_map] at q
  rw [<- q,<- l]
  exact h _ (I.tok _)
theorem iM {ob:HO} (I:Inv X pins σ H s) (mu:DW (H a)) (hs:Heap.SameBut a s.heap h') (he:∃ q,h'.get? a=some q) (new:bx X.prog X.w (upd H a ob) h' a ob):
  Inv X pins σ (upd H a ob) {s with heap:=h',toks:=t'}:=
 I.write (x:=a) (e:=a) mu (.inl rfl) (fun b q hb z=>(hs.2 b hb).trans z) he new
theorem tW {kvs:List (Key×V)} {vs:List (Key×Value)} (z:kvs.length<=sizeLine) (hd:(a==sysModules)=false) (rel:KV kvs vs) (dd:h'.DictOf (cf P w) a vs):
  bx P w H' h' a (.dK kvs):=⟨z,hd,vs,rel,dd⟩
theorem wI {Q:Unit->Shared->Prop} (hu:A.units+1 < cLine) (I:Inv X pins σ H s) (g:AR H a y v H') (ry:RelV y u) (rv:RelV v r) (h:∀ s',Inv X pins σ H' s'->Q () s'):
  wpAny (model X.prog X.w) A (setItem (.ref a) u r) Q E s:=by
 rcases g with ⟨kvs,k,e,ey,l,eH⟩ | ⟨kvs,k,b,e,ey,eb,l,eH⟩
 ·subst ey eH
  obtain ⟨z,hd,vs,rel,dd⟩:=yP I.hok e
  have hz:vs.length<=sizeLine:=by rw [<- rel.length];exact z
  have hl:(putK kvs k v).length<=sizeLine:=by have:=cO kvs k v;omega
  refine wpAny_setItem_pairs (hsz:=hz) (iQ ry) dd fun h' ou hs=>h _ ?_
  have he:∃ q,h'.get? a=some q:=let ⟨q,_,_,hq,_⟩:=ou;⟨q,hq⟩
  exact iM I (by rw [e];exact True.intro) hs he (tW hl hd (rel.put k rv) ou)
 ·subst ey eH
  cases (show u=Value.ref b from ry)
  obtain ⟨z,hd,xs,rel,dd⟩:=Mm I.hok e
  have hz:xs.length<=sizeLine:=by rw [<- Paired.length rel];exact z
  have hl:(putK kvs k v).length<=sizeLine:=by have:=cO kvs k v;omega
  refine wpAny_setItem_heap (hsz:=hz) (tupleKind_room_in1 hu) (dA I.hok eb) dd fun h' ou hs=>h _ ?_
  obtain ⟨q,es,ep,hq,h2,h3,h4,_,h5⟩:=ou
  refine iM I (by rw [e];exact True.intro) hs ⟨q,hq⟩ ⟨hl,hd,_,(rel.put k eb rv).keeps fun c ys ec=>?_,q,es,ep,hq,h2,h3,h4,h5⟩
  refine ec.upd fun u hu z=>?_
  subst z
  rcases ec with ec | ⟨_,ec⟩<;>(rw [e] at ec;cases ec)
end
section
variable {kvs:List (Key×V)} {k:Key}
theorem T3 (I:Inv X pins σ H s) (e:Rd H a (.dK kvs)) (h:∀ t s',Inv X pins σ H s'->Q (.int kvs.length t) s'):wpAny (model X.prog X.w) A (call (.builtin "len") [.ref a]) Q E s:=by
 obtain ⟨z,hd,vs,rel,dd⟩:=mQ I.hok e
 refine call_len_dict hd dd (by rw [<- rel.length];rw [QL] at z;omega) ?_
 rw [<- rel.length]
 exact h _ _ (I.tok _)
end
def Gh (i:Expr):Prop:=∀ ov iv,subscripted i false ov iv=operate [ov,iv] (getItem ov iv)
theorem vE {value slice:Expr} {pos:Pos} {id:String}
  (hl:typeLookup (.type T) "__getitem__"=pure (some (.builtin id))) (hs:Gh slice)
  (h:wpAny (model prog w) A (eval value env) (fun o s₁=>wpAny (model prog w) A (eval slice env) (fun i s₂=>s₂.TypeIs o T/\wpAny (model prog w) A (getItem o i) Q E s₂) E s₁) E s):
  wpAny (model prog w) A (eval (.Subscript value slice pos) env) Q E s:=by
 refine Subscript_ (wpAny_mono h (fun o s₁ h₁=>wpAny_mono h₁ (fun i s₂ h₂=>?_) fun _ _ x=>x) fun _ _ x=>x)
 obtain ⟨hT,h₂⟩:=h₂
 unfold subscriptTail
 refine QT ?_
 rw [getitemInPython_of_ne hT.not_modules]
 refine QT (wpAny_specialOf hT hl ?_)
 have fin:wpAny (model prog w) A (subscripted slice false o i) (fun r s₃=>wpAny (model prog w) A (letTemporaryGo value o r >>=fun _=>pure r) Q E s₃) E s₂:=by
  rw [hs o i]
  exact wpAny_operating (wpAny_mono h₂ (fun r s₃ h₃=>QT (wpAny_letTemporaryGo (QU h₃))) fun _ _ x=>x)
 first
  | exact QU (QT fin)
  | exact QT (QU (QT fin))
  | exact QT fin
theorem pR {y:V} {o:Option V} (I:Inv X pins σ H s) (g:fg H a y o):s.TypeIs (.ref a) "dict":=by
 rcases g with ⟨kvs,k,e,_,_⟩ | ⟨kvs,k,b,e,_,_,_⟩
 ·obtain ⟨_,_,vs,_,dd⟩:=mQ I.hok e
  exact dd.typeIs
 ·obtain ⟨_,_,xs,_,dd⟩:=qB I.hok e
  exact dd.typeIs
def Mn (td ty:TE):TE:=fun σ H Q=>td σ H fun x H1=>ty σ H1 fun y H2=>∃ a v,x=.ref a/\fg H2 a y (some v)/\Q v H2
def Mp (td ty tv:TE):TS:=fun D σ H=>tv σ H fun v H1=>td σ H1 fun x H2=>ty σ H2 fun y H3=>∃ a H4,x=.ref a/\AR H3 a y v H4/\D.nx σ H4
section
variable {o i value:Expr} {pos pos' Aa:Pos} {td ty tv:TE}
theorem T4 (hu:X.A.units+1 < cLine) (ho:PE X o td) (hi:PE X i ty) (hs:Gh i):PE X (.Subscript o i pos) (Mn td ty):=by
 intro pins s σ H Q I h
 refine vE PySem.F.slot_dict_getitem.lookup hs (av (ho pins s σ H _ I h) fun u s1 ⟨x,H1,I1,rx,q1⟩=>av (hi pins s1 σ H1 _ I1 q1) fun iv s2 ⟨y,H2,I2,ry,a,v,ex,g,q2⟩=>?_)
 subst ex
 obtain rfl:u=Value.ref a:=rx
 exact ⟨pR I2 g,wE hu I2 g ry fun w' s3 I3 qh=>⟨v,H2,I3,qh,q2⟩⟩
theorem T6 (hu:X.A.units+1 < cLine) (ho:PE X o td) (hi:PE X i ty) (hv:PE X value tv) (hs:swapsWith value (some (.Subscript o i pos')) pos.line X.env=pure false):
  PS X (.Assign [.Subscript o i pos'] value pos) (Mp td ty tv):=by
 intro pins s σ H D I h
 refine wpAny_Assign_Subscript (av (hv pins s σ H _ I h) fun r s1 ⟨v,H1,I1,rv,q1⟩=>av (ho pins s1 σ H1 _ I1 q1) fun u s2 ⟨x,H2,I2,rx,q2⟩=>av (hi pins s2 σ H2 _ I2 q2) fun iv s3 ⟨y,H3,I3,ry,a,H4,ex,g,q3⟩=>?_) hs
 subst ex
 obtain rfl:u=Value.ref a:=rx
 exact wI hu I3 g ry rv fun s4 I4=>⟨σ,H4,I4,q3⟩
end
theorem yI (h:Heap) (hb:sysModules < h.objs.size):bx P w H (h.push {cls:=.type "dict",data:=.dict #[]}) h.objs.size (.dK []):=
 ⟨Nat.zero_le _,beq_eq_false_iff_ne.mpr (Ne.symm (Nat.ne_of_lt hb)),[],.nil,Heap.DictOf.new h⟩
theorem T_ (h:Heap) (hb:sysModules < h.objs.size):bx P w H (h.push {cls:=.type "dict",data:=.dict #[]}) h.objs.size (.dT []):=
 ⟨Nat.zero_le _,beq_eq_false_iff_ne.mpr (Ne.symm (Nat.ne_of_lt hb)),[],.nil,_,#[],0,Qd _ rfl,⟨rfl,rfl,rfl⟩,rfl,rfl,List.nodup_nil⟩
def Mq:TE:=fun _ H Q=>∀ p,H p=none->Q (.ref p) (upd H p (.dK []))
def Mr:TE:=fun _ H Q=>∀ p,H p=none->Q (.ref p) (upd H p (.dT []))
section
variable {pos:Pos}
theorem zA:PE X (.Dict [] [] pos) Mq:=fun pins s σ H Q I h=>
 wpAny_Dict_empty ⟨.ref s.heap.objs.size,_,I.laid (a:=s.heap.objs.size) (o:=.dK []) (t':=s.toks) (fun _ _ q=>Qc _ q) (Qy _) (yI s.heap I.big),rfl,h _ (I.hok.fresh (Qy _))⟩
theorem yG:PE X (.Dict [] [] pos) Mr:=fun pins s σ H Q I h=>
 wpAny_Dict_empty ⟨.ref s.heap.objs.size,_,I.laid (a:=s.heap.objs.size) (o:=.dT []) (t':=s.toks) (fun _ _ q=>Qc _ q) (Qy _) (T_ s.heap I.big),rfl,h _ (I.hok.fresh (Qy _))⟩
end
section
variable {y d:V} {r:Value} {o:Option V}
end
section
variable {o f:Expr} {td ty tx:TE}
end
section
variable {kvs:List (Key×V)}
end
section
variable {y:V}
end
end L2
namespace Ms
open PySem PySem.W PySem.Calls PyProof.Rows
theorem kI {P:Params}:∀ (ns:List Int) (vs:List Value),WellAll P h vs (ns.map WData.int)->IntsAre vs ns:=by
 intro ns
 induction ns with
 | nil=>
  intro vs w
  rw [List.map_nil] at w
  cases w
  exact .nil
 | cons n ns ih=>
  intro vs w
  rw [List.map_cons] at w
  cases w with
  | cons a b=>
   cases a
   exact .cons _ _ (ih _ b)
theorem wT {l:OpenLaw} (hn:l.most=some n) {P:Params} {args:List WData} {vals:List Value}
  (Ag:l.row.toRowW.claim.pre args=true) (Iw:WellAll P h vals args):
  ∃ a vs ns,vals=[Value.ref a]/\args=[WData.list (ns.map WData.int)]/\h.get? a=some {cls:=.type "list",data:=.seq vs.toArray}/\IntsAre vs ns/\ns.length<=n:=by
 have Ua:WShape.hasAll [] args [.list .int]=true:=(pre_splitW Ag).1
 have hc:l.pre.holds [] {args:=args}=true:=(pre_splitW Ag).2
 obtain ⟨d,r,rfl,h1,h2⟩:=hasAllW_cons Ua
 obtain rfl:=hasAllW_nil h2
 obtain ⟨xs,rfl,h3⟩:=hasW_list h1
 obtain ⟨ns,rfl⟩:=items_int h3
 have fi:ns.length<=n:=by
  unfold OpenLaw.pre at hc
  have h4:(WTm.not (.lt (.lit (.int (n:Int))) (.len (.arg 0)))).holds [] {args:=[.list (ns.map .int)]}=true:=by
   have h4:=(holds_andW hc).1
   rw [hn] at h4
   exact h4
  have h5:=condW_of h4 (w_not (w_lt w_lit (w_len_list (w_arg rfl))))
  rw [Ql] at h5
  refine Nat.le_of_not_lt fun q=>?_
  have q':(n:Int) < ((ns.length:Nat):Int):=by omega
  first
   | (rw [Qv q'] at h5;exact absurd h5 (by decide))
   | (simp at h5;omega)
 cases Iw with
 | cons w1 w2=>
  cases w2
  cases w1 with
  | list ho nj=>exact ⟨_,_,ns,rfl,rfl,ho,kI ns _ nj,fi⟩
theorem xD (l:OpenLaw) (args:List WData):l.row.toRowW.claim.post args (.bool true) args=true:=
 postW_of (r:=l.row.toRowW) (X:=(true==true))
  (show WShape.has [] (.bool true) .bool=true by first | rfl | decide | simp [WShape.has,WShape.arms,WShape.armsAll])
  (show (WTm.eq .res (.lit (.bool true))).value [] {args:=args,res:=some (.bool true),after:=args}=some (.bool (true==true)) from w_eq_bool (w_res rfl) w_lit) rfl
theorem rF {l:OpenLaw} {q:Program} {loose:List Str} {YP:World->Heap->Prop} {d:DefRec}
  (hn:l.most=some n) (Iz:d.params.defaults=[])
  (call:∀ (w:World) (s₀ s₁:Shared) (mg mb:Str->Option Value) (fa:Addr) (o:Obj) (pm cd doc:Value) (a:Addr) (vs:List Value) (ns:List Int),
   Ground q loose [] XP w s₀ mg mb s₁.heap->YP w s₁.heap->
   s₁.heap.get? fa=some o->o.data=.func (docDef d.name d.params d.body d.scope pm cd doc)->s₁.heap.CodeRec cd d.name->mg d.name=some (.ref fa)->
   s₁.heap.get? a=some {cls:=.type "list",data:=.seq vs.toArray}->IntsAre vs ns->ns.length<=n->s₁.gens=#[]->
   codeAny (model l.prog w) callerA (.call (.ref fa) ⟨[.ref a],[]⟩) (fun r s'=>r=.ok (.ret (.bool true))/\OldK s₁.heap s'.heap/\s'.os=s₁.os/\AllBare s'.gens) s₁):
  WalkO q loose XP YP l.row.toRowW d [] (fun f vs=>PySem.call f vs):=by
 intro w s₀ s₁ mg mb G Y fa o pm cd doc dV kV ho hd ju hD CW hg args vals as Ag aak Ub Iw hlo
 obtain rfl:dV=.none:=Dflts.none hD Iz
 obtain rfl:kV=.none:=Dflts.noKw hD
 obtain ⟨a,vs,ns,rfl,rfl,IA,IB,fi⟩:=wT hn Ag Iw
 refine enter_call (codeAny_mono (call w s₀ s₁ mg mb fa o pm cd doc a vs ns G Y ho (fd_plain hd) ju CW IA IB fi hg) fun r s' hq=>?_)
 obtain ⟨rfl,h2,h3,h4⟩:=hq
 exact ⟨.inl ⟨.bool true,.bool true,[],rfl,fun _=>rfl,.bool true,xD l _,fun _=>⟨List.Pairwise.nil,fun _ hm=>(nomatch hm)⟩⟩,h2,h3,h4⟩
section
variable {K:Frag}
end
end Ms
namespace L2
open PySem PySem.Spec PyProof.Rows
theorem n6:∀ {vs:List Value} {ns:List Int},IntsAre vs ns->be (ns.map V.int) vs
 | _,_,.nil=>.nil
 | _,_,.cons n t h=>.cons ⟨t,rfl⟩ (n6 h)
def inClass (s:Stmt) (j:Nat):Stmt:=match s with
 | .ClassDef _ _ _ body _ _ _ _ _ _ _=>body.getD j (.Pass ⟨0,0,0,0⟩)
 | _=>.Pass ⟨0,0,0,0⟩
def r_ (s:Stmt):Arguments:=match s with
 | .FunctionDef _ a _ _ _ _ _ _ _ _=>a
 | _=>{posonlyargs:=[],args:=[],vararg:=none,kwonlyargs:=[],kw_defaults:=[],kwarg:=none,defaults:=[]}
def kc (s:Stmt):List Stmt:=match s with
 | .FunctionDef _ _ b _ _ _ _ _ _ _=>b
 | _=>[]
def bg (s:Stmt):Scope:=match s with
 | .FunctionDef _ _ _ _ _ _ sc _ _ _=>sc
 | _=>{kind:=.function,names:=[],isGenerator:=false,isCoroutine:=false}
abbrev y_:xg:=fun _ _ _ _ _ _=>False
abbrev E0:XK:=fun _ _ _=>False
theorem Mt:Ea y_ X E0:=fun _ _ _ _ _ _ _ h=>h.elim
structure AS (K:Q0) (x qual:Str) (st:Stmt) (f:Addr) (fd:FuncData):Prop where
 ex:∃ (oc:Value) (od:Option Addr) (kV doc pm:Value) (an:Option Addr) (a_ ct:Value) (mz:Array (Option Value)),
  fd=PySem.W.fnOf x qual (r_ st) (kc st) (bg st) .none kV doc pm an a_ ct/\K.lookup f=some ⟨oc,od,.func fd,mz⟩/\PySem.W.codeIn K a_ qual=true
 kp:PySem.W.keepIn K (.ref f)=true
section
variable {K:Q0}
theorem AS.ok {qual:Str} {st:Stmt} {f:Addr} {k:Nat} {sp:Sp} (F:AS K x qual st f fd) (S:fb N ps (bg st)) (len:∀ vs H Q E,sp vs H Q E->vs.length=ps.length)
  (xh:∀ (a_:Value) (A:Around) (outer:List Env) (s:Shared) (H:Hp) (vs:List V) (Q:VK) (E:XK),fu k (A.deeper (envOfC qual (bg st) s.heap.objs.size f a_))->sp vs H Q E->
   ∃ t,qf (yw y_ P w K mg base N qual (bg st) f a_ A outer s H E).zq (kc st) t/\t {nx:=fun _ H'=>Q .ai H',rt:=Q} (start N vs) H):ud P w K mg base y_ (k+1) f fd ps sp:=by
 obtain ⟨oc,od,kV,doc,pm,an,a_,ct,mz,rfl,lk,ju⟩:=F.ex
 refine Me lk ju S len fun A outer s H vs Q E hr yx=>?_
 obtain ⟨t,h,q⟩:=xh a_ A outer s H vs Q E hr yx
 exact ⟨t,h.zq,q⟩
theorem AS.binds {qual:Str} {st:Stmt} {f:Addr} (F:AS K x qual st f fd)
  (h:∀ (kV doc pm:Value) (an:Option Addr) (a_ ct:Value) (us:List Value),us.length=ps.length->bindArgs (PySem.W.fnOf x qual (r_ st) (kc st) (bg st) .none kV doc pm an a_ ct) ⟨us,[]⟩=pure (ps.zip us)):Binds K fd ps []:=by
 obtain ⟨oc,od,kV,doc,pm,an,a_,ct,mz,rfl,lk,ju⟩:=F.ex
 exact .all (h kV doc pm an a_ ct)
theorem Uc {qual:Str} {st:Stmt} {f:Addr} {oc:Value} {od an:Option Addr} {mz:Array (Option Value)} {kV doc pm a_ ct:Value} (l:K.lookup f=some ⟨oc,od,.func (PySem.W.fnOf x qual (r_ st) (kc st) (bg st) .none kV doc pm an a_ ct),mz⟩)
  (c:PySem.W.codeIn K a_ qual=true) (k:PySem.W.keepIn K (.ref f)=true):AS K x qual st f (PySem.W.fnOf x qual (r_ st) (kc st) (bg st) .none kV doc pm an a_ ct):=⟨⟨oc,od,kV,doc,pm,an,a_,ct,mz,rfl,l,c⟩,k⟩
end
theorem aV {k:Nat} (hr:fu k A):A.units+1 < cLine:=Nat.lt_of_le_of_lt (Nat.add_le_add_left (by decide:1<=64) _) hr.units
theorem Ud (h:n<=1000):n < sizeLine:=Nat.lt_of_le_of_lt h (by decide)
theorem ja {A B:Prop} (h:B):if false=true then A else B:=by
 rw [if_neg Bool.false_ne_true]
 exact h
theorem xm {A B:Prop} (h:A):if true=true then A else B:=by
 rw [if_pos rfl]
 exact h
theorem Gi {c A B:Prop} [Decidable c] (h1:c->A) (h2:¬c->B):if c then A else B:=by
 by_cases h:c
 ·rw [if_pos h]
  exact h1 h
 ·rw [if_neg h]
  exact h2 h
def aa (H H':Hp):Prop:=∀ b o,H b=some o->H' b=some o
theorem aa.refl (H:Hp):aa H H:=fun _ _ h=>h
theorem aa.trans {H1 H2:Hp} (a:aa H H1) (b:aa H1 H2):aa H H2:=fun c o h=>b c o (a c o h)
theorem aa.free (e:aa H H') (h:H' l=Option.none):H l=Option.none:=by
 cases q:H l with
 | none=>rfl
 | some o=>
  rw [e l o q] at h
  cases h
section
variable {κ:Type} [DecidableEq κ]
theorem zC {kvs:List (κ×V)} {k:κ} (h:bh kvs k=none):¬k∈kvs.map (·.1):=by
 intro m
 obtain ⟨p,hp,e⟩:=List.mem_map.mp m
 have q:(kvs.any fun kv=>decide (kv.1=k))=true:=List.any_eq_true.mpr ⟨p,hp,Qv e⟩
 rw [cA,h] at q
 exact absurd q (by simp)
theorem kM {kvs:List (κ×V)} {k:κ} {v:V} (h:bh kvs k=some v):k∈kvs.map (·.1):=by
 have q:(kvs.any fun kv=>decide (kv.1=k))=true:=by
  rw [cA,h]
  all_goals rfl
 obtain ⟨p,hp,e⟩:=List.any_eq_true.mp q
 exact List.mem_map.mpr ⟨p,hp,Qt e⟩
theorem uX:∀ {l:List κ} {k:κ},l.Nodup->¬k∈l->(l++[k]).Nodup
 | [],k,_,_=>by simp
 | a::r,k,h,hk=>by
  obtain ⟨h1,h2⟩:=List.nodup_cons.mp h
  show (a::(r++[k])).Nodup
  refine List.nodup_cons.mpr ⟨fun m=>?_,uX h2 fun m=>hk (Qp.mpr (Or.inr m))⟩
  rcases List.mem_append.mp m with q | q
  ·exact h1 q
  ·exact hk (Qp.mpr (Or.inl (List.mem_singleton.mp q).symm))
theorem vK {kvs:List (κ×V)} {k:κ} (v:V) (hn:(kvs.map (·.1)).Nodup) (h:bh kvs k=none):((putK kvs k v).map (·.1)).Nodup:=by
 rw [cG v h,Qm]
 exact uX hn (zC h)
end
theorem iI {env:Env}:∀ (names:List (Str×NameKind)) (acc:List (Str×Addr)),
  (∀ y∈names,y.2=.free->∃ c,env.cells.lookup y.1=some c)->(∀ x c,acc.lookup x=some c->env.cells.lookup x=some c)->
  ∃ cl,(forIn names acc fun (x:Str×NameKind) cs=>(if (x.2==NameKind.free)=true then (do let c <- cellOf env x.1;pure (ForInStep.yield ((x.1,c)::cs))) else pure (ForInStep.yield cs):Sem (ForInStep (List (Str×Addr)))))=pure cl/\
   (∀ x c,cl.lookup x=some c->env.cells.lookup x=some c)/\(∀ y∈names,y.2=.free->∃ c,cl.lookup y.1=some c)/\(∀ x c,acc.lookup x=some c->∃ c,cl.lookup x=some c)
 | [],acc,_,ha=>⟨acc,rfl,ha,(fun _ h=>nomatch h),fun x c h=>⟨c,h⟩⟩
 | (n,k)::r,acc,h,ha=>by
  rw [List.forIn_cons]
  by_cases hk:k=.free
  ·obtain ⟨c,hc⟩:=h (n,k) List.mem_cons_self hk
   have ic:cellOf env n=pure c:=by unfold cellOf;rw [show env.cells.lookup n=some c from hc]
   have Ue:∀ x d,((n,c)::acc).lookup x=some d->env.cells.lookup x=some d:=fun x d hx=>by
    rw [List.lookup_cons] at hx
    cases e:x==n with
    | true=>rw [e] at hx;cases hx;rw [eq_of_beq e];exact hc
    | false=>rw [e] at hx;exact ha x d hx
   obtain ⟨cl,e,h1,h2,h3⟩:=iI r ((n,c)::acc) (fun y hy=>h y (Qh _ hy)) Ue
   refine ⟨cl,?_,h1,fun y hy hf=>?_,fun x d hx=>?_⟩
   ·have hk':(k==NameKind.free)=true:=by rw [hk];rfl
    simp only [hk',if_true,ic,pure_bind]
    exact e
   ·rcases Qp.mp hy with z | hy
    ·rw [z];exact h3 n c (by simp [List.lookup_cons])
    ·exact h2 y hy hf
   ·cases e2:x==n with
    | true=>exact h3 x c (by simp [List.lookup_cons,e2])
    | false=>exact h3 x d (by simp [List.lookup_cons,e2,hx])
  ·have hk':(k==NameKind.free)=false:=by simpa using hk
   obtain ⟨cl,e,h1,h2,h3⟩:=iI r acc (fun y hy=>h y (Qh _ hy)) ha
   refine ⟨cl,?_,h1,fun y hy hf=>?_,h3⟩
   ·simp only [hk',Bool.false_eq_true,if_false,pure_bind]
    exact e
   ·rcases Qp.mp hy with z | hy
    ·rw [z] at hf;exact absurd hf hk
    ·exact h2 y hy hf
theorem uE (h:∀ y∈sc.names,y.2=.free->∃ c,env.cells.lookup y.1=some c):
  ∃ cl,closureFor sc env=pure cl/\(∀ x c,cl.lookup x=some c->env.cells.lookup x=some c)/\(∀ y∈sc.names,y.2=.free->∃ c,cl.lookup y.1=some c):=by
 obtain ⟨cl,e,h1,h2,_⟩:=iI (env:=env) sc.names [] h (fun _ _ h=>nomatch h)
 refine ⟨cl,?_,h1,h2⟩
 unfold closureFor
 have e':(forIn sc.names ([]:List (Str×Addr)) fun (x:Str×NameKind) cs=>(if (x.2==NameKind.free)=true then (do let c <- cellOf env x.1;pure (ForInStep.yield ((x.1,c)::cs))) else pure (ForInStep.yield cs):Sem (ForInStep (List (Str×Addr))))) >>=(fun cs=>(pure cs:Sem _))=pure cl:=by rw [e];rfl
 exact e'
theorem dE {env:Env}:∀ {names:List (Str×NameKind)} {x:Str},names.lookup x=some .free->
  (names.map fun (n,k)=>if (k==NameKind.free&&env.scope.kind==.function&&env.kindOf n==some .cell) then (n,NameKind.cell) else (n,k)).lookup x=some .cell\/
  (names.map fun (n,k)=>if (k==NameKind.free&&env.scope.kind==.function&&env.kindOf n==some .cell) then (n,NameKind.cell) else (n,k)).lookup x=some .free
 | [],_,h=>by simp at h
 | (n,k)::r,x,h=>by
  have ih:=@dE env r x
  show List.lookup x ((if (k==NameKind.free&&env.scope.kind==.function&&env.kindOf n==some .cell)=true then (n,NameKind.cell) else (n,k))::_)=_\/List.lookup x ((if (k==NameKind.free&&env.scope.kind==.function&&env.kindOf n==some .cell)=true then (n,NameKind.cell) else (n,k))::_)=_
  cases hx:x==n with
  | true=>
   simp only [List.lookup_cons,hx] at h
   cases h
   by_cases hc:(NameKind.free==NameKind.free&&env.scope.kind==.function&&env.kindOf n==some .cell)=true
   ·rw [if_pos hc];simp [List.lookup_cons,hx]
   ·rw [if_neg hc];simp [List.lookup_cons,hx]
  | false=>
   simp only [List.lookup_cons,hx] at h
   by_cases hc:(k==NameKind.free&&env.scope.kind==.function&&env.kindOf n==some .cell)=true
   ·rw [if_pos hc];simp only [List.lookup_cons,hx];exact ih h
   ·rw [if_neg hc];simp only [List.lookup_cons,hx];exact ih h
theorem k8 {names:List (Str×NameKind)} {k:NameKind}
  (h:(names.map fun (n,k)=>if (k==NameKind.free&&env.scope.kind==.function&&env.kindOf n==some .cell) then (n,NameKind.cell) else (n,k)).lookup x=some k) (hk:k=.cell\/k=.free) (hc:∀ y∈names,y.2≠.cell):(x,NameKind.free)∈names:=by
 have hm:=PySem.mem_of_lookup h
 obtain ⟨⟨n,k'⟩,h1,h2⟩:=List.mem_map.mp hm
 dsimp only at h2
 split at h2
 ·next hh=>
  cases h2
  have:k'=.free:=by
   simp only [Bool.and_eq_true,beq_iff_eq] at hh
   exact hh.1.1
  rw [<- this];exact h1
 ·cases h2
  rcases hk with z | z
  ·exact absurd z (hc _ h1)
  ·rw [<- z];exact h1
abbrev dg (X:Cx) (N':List Str) (sc:Scope) (cl:List (Str×Addr)) (C:Addr) (s3:Shared) (H0:Hp) (fp:List Addr) (pn:List (Addr×Obj)):Cx where
 prog:=X.prog
 w:=X.w
 K:=X.K
 mg:=X.mg
 base:=X.base
 A:=X.A
 N:=N'
 s₀:=s3
 H₀:=H0
 env:=compEnvC sc cl C X.env
 outer:=X.stack
 stack:=X.stack
 ex:=fp
 fn:=fun _=>false
 calm:=X.calm
 pn:=pn
 xe:=fun _ _=>False
structure qt (CY:Scope) (oN:List Str) (sc:Scope) (own:List Str) (idx:List Nat) (N':List Str):Prop where
 kind:sc.kind=.function
 cell:∀ y∈sc.names,y.2≠.cell
 names:∀ y∈sc.names,y.2=.local->sc.names.lookup y.1=some .local
 free:∀ y∈sc.names,y.2=.free->(CY.names.lookup y.1=some .cell\/CY.names.lookup y.1=some .free)
 seen:∀ j∈idx,sc.names.lookup (oN.getD j "")=some .free/\j < oN.length
 nn:N'=own++idx.map (fun j=>oN.getD j "")
def uf (own:List Str) (idx:List Nat) (σ:St):St:=List.replicate own.length none++idx.map fun j=>(σ[j]?).join
section
variable {H2:Hp} {s2:Shared}
theorem kT {h4:Heap} {ob:Obj} {ho:HO} {t4:Nat} (S:qt X.env.scope X.N sc own idx N') (I:Inv X pins σ H2 s2) (hf:∀ b∈fp,qi X pins H2 b) (ug:∀ b∈fp,∃ o,s2.heap.get? b=some o)
  (c1:∀ x c,cl.lookup x=some c->X.env.cells.lookup x=some c) (c2:∀ y∈sc.names,y.2=.free->∃ c,cl.lookup y.1=some c) (xn:ob.isFreed=false)
  (hD:∀ (H:Hp) (h:Heap),h.get? s2.heap.objs.size=some ob->bx X.prog X.w H h s2.heap.objs.size ho)
  (ns:h4.Ns (s2.heap.push ob).objs.size (fun x=>([]:List (Str×Value)).reverse.lookup x)) (sb:∀ b o,(s2.heap.push ob).get? b=some o->h4.get? b=some o):
  Inv (dg X N' sc cl (s2.heap.push ob).objs.size {s2 with heap:=s2.heap.push ob} (upd H2 s2.heap.objs.size ho) fp (X.pn++pins)) [] (uf own idx σ) (upd H2 s2.heap.objs.size ho) {s2 with heap:=h4,toks:=t4}:=by
 have hsz:(s2.heap.push ob).objs.size=s2.heap.objs.size+1:=Heap.size_push _ _
 have fr2:H2 s2.heap.objs.size=none:=I.hok.fresh (Qy _)
 have up:∀ b o,s2.heap.get? b=some o->(s2.heap.push ob).get? b=some o:=fun b o e=>Qc _ e
 have Gj:∀ b o,s2.heap.get? b=some o->h4.get? b=some o:=fun b o e=>sb b o (up b o e)
 have Ug:∀ b o,s2.heap.get? b=some o->b≠s2.heap.objs.size:=fun b o e=>Nat.ne_of_lt (Qz e)
 have nh:∀ b o,s2.heap.get? b=some o->H2 b=none->upd H2 s2.heap.objs.size ho b=none:=fun b o e n=>by rw [aE (Ug b o e)];exact n
 have Uh:∀ b∈mq X.stack,∃ o,s2.heap.get? b=some o:=fun b hb=>by
  obtain ⟨_,o,ho,_⟩:=I.stack.mem hb
  exact ⟨o,ho⟩
 have Ui:∀ x c,cl.lookup x=some c->∃ o,s2.heap.get? c=some o:=fun x c e=>by
  obtain ⟨v,o,ho,_⟩:=I.cell x c (c1 x c e)
  exact ⟨o,ho⟩
 have eD:(s2.heap.push ob).get? s2.heap.objs.size=some ob:=Qd s2.heap xn
 have Uj:fh X.prog X.w (upd H2 s2.heap.objs.size ho) h4:=I.hok.laid Gj (Qy _) (hD _ _ (sb _ _ eD))
 refine ⟨⟨I.ok.mod,S.kind,I.ok.glob,I.ok.blt,Qy _,fun x y c h1 h2=>I.ok.inj x y c (c1 x c h1) (c1 y c h2),fun x hx=>?_,(fun x c hx _=>nomatch hx),I.ok.hd,I.ok.frames,.inl rfl,fun b hb=>⟨?_,fun x c e=>?_⟩,fun b o e=>⟨?_,?_⟩,?_,fun b o e hb=>?_,fun b hb=>?_,?_,fun b hb=>?_⟩,
  rfl,I.bare,Un.kept sb,⟨_,ns,fun i x v h1 h2 h3=>?_⟩,fun x c e=>?_,?_,fun x c e=>?_,fun p hp=>?_,Uj,?_⟩
 ·rcases hx with hx | hx
  ·exact c2 (x,.free) (k8 hx (.inl rfl) S.cell) rfl
  ·exact c2 (x,.free) (k8 hx (.inr rfl) S.cell) rfl
 ·obtain ⟨o,e⟩:=ug b hb
  have:=Qz e
  show b≠(s2.heap.push ob).objs.size
  rw [hsz];exact Nat.ne_of_lt (Nat.lt_succ_of_lt this)
 ·exact (hf b hb).2.2.2.2.1 x c (c1 x c e)
 ·exact up b o (I.bk b o e)
 ·exact nh b o (I.bk b o e) (I.bs b o e).2
 ·show X.base.objs.size<=(s2.heap.push ob).objs.size
  have:=Nat.le_trans I.ok.zo I.sz
  rw [hsz];omega
 ·obtain ⟨f0,f1,f2,f3,f4,f5⟩:=hf b hb
  rcases f3 with z | z
  ·exact I.ok.DZ b o e z
  ·exact absurd (Qz e) (Nat.not_lt.mpr (Nat.le_trans I.ok.zo z))
 ·obtain ⟨f0,f1,f2,f3,f4,f5⟩:=hf b hb
  intro z
  rcases Qp.mp (I.BE b z) with z | z
  ·exact f1 z
  ·exact f2 z
 ·exact Heap.FunFrames.of_keeps (fun b o e _=>⟨o,up b o e,rfl⟩) I.stack
 ·obtain ⟨o,e⟩:=Uh b hb
  exact nh b o e (I.LJ b hb)
 ·unfold uf at h2
  by_cases hi:i < own.length
  ·rw [Qg (by simpa using hi),List.getElem?_replicate,if_pos hi] at h2
   cases h2
  ·rw [List.getElem?_append_right (by simpa using hi),List.length_replicate,Qq] at h2
   have AU:N'[i]? =some x:=h1
   rw [S.nn,List.getElem?_append_right (by simpa using hi),Qq] at AU
   cases ej:idx[i - own.length]? with
   | none=>rw [ej] at AU;cases AU
   | some j=>
    rw [ej] at AU h2
    obtain ⟨Gk,xf⟩:=S.seen j (QC ej)
    have hx:X.N[j]? =some x:=by
     have:X.N.getD j ""=x:=QD AU
     rw [<- this,Qb,Qa xf];rfl
    have hv:σ[j]? =some (some v):=by
     have uh:(σ[j]?).join=some v:=QD h2
     cases q:σ[j]? with
     | none=>rw [q] at uh;cases uh
     | some w=>rw [q] at uh;exact congrArg some uh
    have Mu:sc.names.lookup x=some .free:=by
     have:X.N.getD j ""=x:=QD AU
     rw [<- this];exact Gk
    have jp:(x,NameKind.free)∈sc.names:=PySem.mem_of_lookup Mu
    obtain ⟨m,hn,hl⟩:=I.loc
    have Uk:CD X.env.scope x:=by
     rcases S.free _ jp rfl with z | z
     ·exact .inr (.inl z)
     ·exact .inr (.inr z)
    obtain ⟨u,r,lk⟩:=hl j x v hx hv Uk
    refine ⟨u,r,?_⟩
    rcases lk with ⟨k,_⟩ | ⟨k,c,e,z⟩
    ·rcases S.free _ jp rfl with q | q
     ·have q':X.env.kindOf x=some .cell:=q
      rw [q'] at k;cases k
     ·have q':X.env.kindOf x=some .free:=q
      rw [q'] at k;cases k
    ·obtain ⟨c',ic⟩:=c2 (x,.free) jp rfl
     have e':=c1 x c' ic
     rw [e] at e'
     cases e'
     refine .inr ⟨?_,c,ic,?_⟩
     ·rcases dE (env:=X.env) Mu with q | q
      ·exact .inl q
      ·exact .inr q
     ·obtain ⟨o,wo,hd⟩:=z
      exact ⟨o,Gj c o wo,hd⟩
 ·obtain ⟨v,o,wo,hd⟩:=I.cell x c (c1 x c e)
  exact ⟨v,o,Gj c o wo,hd⟩
 ·show upd H2 s2.heap.objs.size ho (s2.heap.push ob).objs.size=none
  rw [aE (by rw [hsz];exact Nat.ne_of_gt (Nat.lt_succ_self _))]
  exact I.hok.fresh (by rw [hsz];omega)
 ·obtain ⟨o,e1⟩:=Ui x c e
  exact nh c o e1 (I.yn x c (c1 x c e))
 ·have Gm:p∈X.pn++pins:=by simpa using hp
  obtain ⟨e,n,ne,nf,d⟩:=I.pin p Gm
  refine ⟨Gj _ _ e,nh _ _ e n,?_,fun z=>?_,d⟩
  ·have:=Qz e
   show p.1≠(s2.heap.push ob).objs.size
   rw [hsz];exact Nat.ne_of_lt (Nat.lt_succ_of_lt this)
  ·rcases Qp.mp (I.BE p.1 z) with z | z
   ·exact ne z
   ·exact nf z
 ·show (uf own idx σ).length=N'.length
  rw [S.nn];unfold uf
  simp
theorem jO {ob:Obj} {ho:HO} {τ:St} {s':Shared} (I:Inv X pins σ H2 s2) (hf:∀ b∈fp,qi X pins H2 b) (xn:ob.isFreed=false)
  (J:Inv (dg X N' sc cl (s2.heap.push ob).objs.size {s2 with heap:=s2.heap.push ob} (upd H2 s2.heap.objs.size ho) fp (X.pn++pins)) [] τ H' s'):
  Inv X pins σ H' s'/\H' (s2.heap.push ob).objs.size=none/\(s2.heap.push ob).objs.size≠X.env.locals/\X.s₀.heap.objs.size<=(s2.heap.push ob).objs.size/\
   (∀ x c,X.env.cells.lookup x=some c->c≠(s2.heap.push ob).objs.size)/\(∀ p∈X.pn++pins,p.1≠(s2.heap.push ob).objs.size)/\∃ m,s'.heap.Ns (s2.heap.push ob).objs.size m:=by
 have hsz:(s2.heap.push ob).objs.size=s2.heap.objs.size+1:=Heap.size_push _ _
 have u1:Un (mq X.stack) fp H2 (upd H2 s2.heap.objs.size ho) s2.heap (s2.heap.push ob):=Un.laid (fun b o e=>Qc _ e) (Qy _) (I.hok.fresh (Qy _))
 have u2:Un (mq X.stack) fp (upd H2 s2.heap.objs.size ho) H' (s2.heap.push ob) s'.heap:=J.base
 have BQ:s'.os=s2.os:=J.os
 refine ⟨I.Rm BQ (u1.trans u2) J.hok J.bare fun b hb=>?_,J.free,?_,?_,fun x c e z=>?_,fun p hp z=>?_,let ⟨m,hn,_⟩:=J.loc;⟨m,hn⟩⟩
 ·obtain ⟨f0,f1,f2,f3,f4,f5⟩:=hf b hb
  exact ⟨f3,f1,f4,f5⟩
 ·rw [hsz];exact Nat.ne_of_gt (Nat.lt_succ_of_lt I.lt)
 ·have:=I.sz;rw [hsz];omega
 ·obtain ⟨v,q⟩:=I.cell x c e
  have:=q.lt
  rw [z,hsz] at this;exact absurd this (Nat.not_lt.mpr (Nat.le_succ _))
 ·have:=Qz (I.pin p hp).1
  rw [z,hsz] at this;exact absurd this (Nat.not_lt.mpr (Nat.le_succ _))
end
abbrev kg:Value->Shared->Prop:=fun _ _=>False
theorem Ul {elt target iter:Expr} {scope:Scope} {pos:Pos} {it acc:Value} (I:Nat->Shared->Prop)
  (turn:∀ n s,I n s->wpAny (model prog w) A (pyNext it) (fun r s₁=>match r with
   | none=>R (.ok .next) s₁
   | some v=>wpAny (model prog w) A (letOwnedTupleGo target it v) (fun _ Ef=>wpAny (model prog w) A (assign target env v) (fun _ s₂=>
     wpAny (model prog w) A (forIn ifs true fun c r=>if r=true then do let ok <- isTrue c env (eval c env);pure (ForInStep.yield ok) else pure (ForInStep.yield r)) (fun ok s₃=>
      if ok=true then wpAny (model prog w) A (eval elt env) (fun x s₄=>
       wpAny (model prog w) A (call (.builtin "list.append") [acc,x]) (fun _ s₅=>∃ m,m < n/\I m s₅) kg s₄) kg s₃
      else ∃ m,m < n/\I m s₃) kg s₂) kg Ef) kg s₁) kg s)
  (n:Nat) (h:I n s):
  codeAny (model prog w) A (.compLoop (.ListComp elt [⟨target,iter,ifs,0⟩] scope pos) 0 it acc env) R s:=by
 refine codeAny_loop rfl I (fun n s hI=>?_) n h
 show wpAny _ A ((compTurn (.ListComp elt [⟨target,iter,ifs,0⟩] scope pos) 0 it acc env).onRaise (fun x=>do noteFrame x env;theTreesLotGoes x)) _ _ s
 refine wpAny_noted ?_
 rw [compTurn_list]
 refine QT (wpAny_standAt (QT (wpAny_mono (turn n s hI) (fun r s₁ h₁=>?_) fun _ _ h'=>h'.elim)))
 cases r with
 | none=>exact QU h₁
 | some v=>
  refine QT (wpAny_mono h₁ (fun _ Ef IC=>?_) fun _ _ h'=>h'.elim)
  refine QT (wpAny_mono IC (fun _ s₂ h₂=>QT (wpAny_mono h₂ (fun ok s₃ h₃=>?_) fun _ _ h'=>h'.elim)) fun _ _ h'=>h'.elim)
  cases ok with
  | false=>exact QU ⟨rfl,h₃⟩
  | true=>
   exact QT (QT (wpAny_mono h₃ (fun x s₄ h₄=>QT (wpAny_mono h₄ (fun _ s₅ h₅=>QU (QU ⟨rfl,h₅⟩)) fun _ _ h'=>h'.elim)) fun _ _ h'=>h'.elim))
abbrev TC:=St->Hp->(Bool->Hp->Prop)->Prop
def um (X:Cx) (ifs:List Expr) (t:TC):Prop:=
 ∀ (pins:List (Addr×Obj)) (s:Shared) (σ:St) (H:Hp) (Q:Bool->Hp->Prop),Inv X pins σ H s->t σ H Q->
  wpAny (model X.prog X.w) X.A (forIn ifs true fun c r=>if r=true then do let ok <- isTrue c X.env (eval c X.env);pure (ForInStep.yield ok) else pure (ForInStep.yield r)) (TP X pins σ Q) X.xe s
def CZ:TC:=fun _ H Q=>Q true H
theorem Um:um X [] CZ:=fun pins s σ H Q I h=>QU ⟨H,I,h⟩
theorem Uo {c:Expr} {t:TT} (h:PT X c t):um X [c] t:=fun pins s σ H Q I hq=>wpAny_tests_one (h pins s σ H Q I hq)
def BS (own:List Str) (idx:List Nat) (wi:TI) (g:TG) (tc:TC) (te:TE):TE:=fun σ H Q=>wi σ H fun J H1=>∀ D,H1 D=none->∃ W:Nat->Nat->St->Hp->Prop,(∃ m,W 0 m (uf own idx σ) (upd H1 D (.lst [])))/\∀ i m τ H,W i m τ H->
 (J.stop i H/\Q (.ref D) H)\/(J.go i H/\∃ N:St->Hp->Prop,(∀ τ' H',N τ' H'->∃ m',m' < m/\W (i+1) m' τ' H')/\∀ x H',J.lg i H x H'->g x τ H' fun τ2 H2=>tc τ2 H2 fun b H3=>
  if b=true then te τ2 H3 fun y H4=>∃ xs,H4 D=some (.lst xs)/\xs.length < sizeLine/\N τ2 (upd H4 D (.lst (xs++[y]))) else N τ2 H3)
section
variable {iter elt:Expr} {pos:Pos} {wi:TI} {g:TG} {tc:TC}
abbrev xo:Obj:={cls:=.type "list",dict:=none,data:=.seq ([]:List Value).toArray}
theorem lF (S:qt X.env.scope X.N sc own idx N') (c1:∀ x c,cl.lookup x=some c->X.env.cells.lookup x=some c) (c2:∀ y∈sc.names,y.2=.free->∃ c,cl.lookup y.1=some c) (hc:X.calm=true)
  (hg:∀ cl C s3 H0 fp pn,PG (dg X N' sc cl C s3 H0 fp pn) tg g) (ht:∀ cl C s3 H0 fp pn,um (dg X N' sc cl C s3 H0 fp pn) ifs tc) (he:∀ cl C s3 H0 fp pn,PE (dg X N' sc cl C s3 H0 fp pn) elt te)
  {pins:List (Addr×Obj)} {σ:St} {Q:VK} {qj:Value} {s2:Shared} {RR:Value->Addr->Result->Shared->Prop} {E:Value->Shared->Prop}
  (hI:CH X pins σ tg (fun J H1=>∀ D,H1 D=none->∃ W:Nat->Nat->St->Hp->Prop,(∃ m,W 0 m (uf own idx σ) (upd H1 D (.lst [])))/\∀ i m τ H,W i m τ H->
   (J.stop i H/\Q (.ref D) H)\/(J.go i H/\∃ N:St->Hp->Prop,(∀ τ' H',N τ' H'->∃ m',m' < m/\W (i+1) m' τ' H')/\∀ x H',J.lg i H x H'->g x τ H' fun τ2 H2=>tc τ2 H2 fun b H3=>
    if b=true then te τ2 H3 fun y H4=>∃ xs,H4 D=some (.lst xs)/\xs.length < sizeLine/\N τ2 (upd H4 D (.lst (xs++[y]))) else N τ2 H3)) qj s2)
  (Eg:∀ D C H' s',Inv X pins σ H' s'->Q (.ref D) H'->(H' C=none/\C≠X.env.locals/\X.s₀.heap.objs.size<=C/\(∀ x c,X.env.cells.lookup x=some c->c≠C)/\(∀ p∈X.pn++pins,p.1≠C)/\∃ m,s'.heap.Ns C m)->RR (.ref D) C (.ok .next) s'):
  wpAny (model X.prog X.w) X.A (newList []) (fun acc s₃=>wpAny (model X.prog X.w) X.A (newFunctionEnv sc X.env.globals cl [] X.env.qual none .none (some X.env)) (fun cenv s₄=>
   codeAny (model X.prog X.w) X.A (.compStart (.ListComp elt [⟨tg,iter,ifs,0⟩] sc pos) 0 qj acc {cenv with scope:=relabel sc X.env}) (RR acc cenv.locals) s₄) E s₃) E s2:=by
 obtain ⟨it,fp,tn,J,H2,rfl,I,T,fq,f2,body⟩:=hI
 refine wpAny_newObj_type (wpAny_newFunctionEnv S.cell (by intro y hy;simp at hy) (fun h4 ns sb=>?_) S.kind)
 dsimp only at ns sb ⊢
 have xn:xo.isFreed=false:=rfl
 have fr:H2 s2.heap.objs.size=none:=I.hok.fresh (Qy _)
 obtain ⟨W,⟨m0,w0⟩,turn⟩:=body _ fr
 have ug:∀ b∈fp,∃ o,s2.heap.get? b=some o:=fun b hb=>let ⟨o,e,_⟩:=T.obj _ _ fq b hb;⟨o,e⟩
 have za:∀ b o,(s2.heap.push xo).get? b=some o->h4.get? b=some o:=fun b o e=>(sb.2 b (Nat.ne_of_lt (Qz e))).trans (Qc _ e)
 have Eh:∀ (H:Hp) (h:Heap),h.get? s2.heap.objs.size=some xo->bx X.prog X.w H h s2.heap.objs.size (.lst []):=fun H h e=>⟨Nat.zero_le _,[],_,.nil,e⟩
 have I4:Inv (dg X N' sc cl (s2.heap.push xo).objs.size {s2 with heap:=s2.heap.push xo} (upd H2 s2.heap.objs.size (.lst [])) fp (X.pn++pins)) [] (uf own idx σ) (upd H2 s2.heap.objs.size (.lst [])) {s2 with heap:=h4,toks:=s2.toks+([]:List (Str×Value)).length}:=
  kT S I f2 ug c1 c2 xn Eh ns za
 -- BJ Mv own context
 generalize hY:dg X N' sc cl (s2.heap.push xo).objs.size {s2 with heap:=s2.heap.push xo} (upd H2 s2.heap.objs.size (.lst [])) fp (X.pn++pins)=Y at I4
 have Ei:PG Y tg g:=by rw [<- hY];exact hg _ _ _ _ _ _
 have Ej:um Y ifs tc:=by rw [<- hY];exact ht _ _ _ _ _ _
 have Ek:PE Y elt te:=by rw [<- hY];exact he _ _ _ _ _ _
 have pY:Y.prog=X.prog:=by rw [<- hY]
 have wY:Y.w=X.w:=by rw [<- hY]
 have KY:Y.K=X.K:=by rw [<- hY]
 have AY:Y.A=X.A:=by rw [<- hY]
 have cY:Y.calm=true:=by rw [<- hY];exact hc
 have xY:Y.xe=fun _ _=>False:=by rw [<- hY]
 have eY:Y.env=compEnvC sc cl (s2.heap.push xo).objs.size X.env:=by rw [<- hY]
 have El:Y.ex=fp:=by rw [<- hY]
 have Em:Y.fs=mq X.stack:=by rw [<- hY]
 have En:Y.pn=X.pn++pins:=by rw [<- hY]
 have qm:∀ {H':Hp},(∀ b∈fp,H' b=none)->∀ b∈fp,qi Y [] H' b:=fun hn b hb=>by
  obtain ⟨f0,f1,f3,f4,f5,f6⟩:=f2 b hb
  refine ⟨hn b hb,?_,?_,.inl (by rw [El];exact hb),fun x c e=>?_,fun p hp=>?_⟩
  ·obtain ⟨o,e⟩:=ug b hb
   have:=Qz e
   rw [eY]
   show b≠(s2.heap.push xo).objs.size
   rw [Heap.size_push];exact Nat.ne_of_lt (Nat.lt_succ_of_lt this)
  ·rw [Em]
   intro z
   rcases Qp.mp (I.BE b z) with z | z
   ·exact f1 z
   ·exact f3 z
  ·rw [eY] at e
   exact f5 x c (c1 x c e)
  ·rw [En,List.append_nil] at hp
   exact f6 p hp
 have AV:tn 0 h4:=T.keep _ _ _ fq fun b hb o e=>za b o (Qc _ e)
 have Eo:∀ b∈fp,upd H2 s2.heap.objs.size (.lst []) b=none:=fun b hb=>by
  obtain ⟨o,e⟩:=ug b hb
  rw [aE (Nat.ne_of_lt (Qz e))]
  exact (f2 b hb).1
 have loop:codeAny (model X.prog X.w) X.A (.compLoop (.ListComp elt [⟨tg,iter,ifs,0⟩] sc pos) 0 (.ref it) (.ref s2.heap.objs.size) (compEnvC sc cl (s2.heap.push xo).objs.size X.env))
   (RR (.ref s2.heap.objs.size) (s2.heap.push xo).objs.size) {s2 with heap:=h4,toks:=s2.toks+([]:List (Str×Value)).length}:=by
  refine Ul (fun n s'=>∃ i τ H',Inv Y [] τ H' s'/\tn i s'.heap/\(∀ b∈fp,H' b=none)/\W i n τ H') ?_ m0 ⟨0,_,_,I4,AV,Eo,w0⟩
  rintro n s3 ⟨i,τ3,H3,I3,wz,w_,w3⟩
  rcases turn i n τ3 H3 w3 with ⟨stop,qn⟩ | ⟨go,N,hN,step⟩
  ·have h:=T.done Y pY wY KY cY i [] s3 τ3 H3 kg I3 (qm w_) wz stop
   rw [AY] at h
   refine av h ?_
   rintro r s4 ⟨hr,Ep⟩
   subst hr
   have J4:=Ep
   rw [<- hY] at J4
   obtain ⟨b1,b2⟩:=jO I f2 xn J4
   exact Eg _ _ _ _ b1 qn b2
  ·have h:=T.item Y pY wY KY cY i [] s3 τ3 H3 kg I3 (qm w_) wz go
   rw [AY] at h
   refine av h ?_
   rintro r s4 ⟨u,hr,Er⟩
   subst hr
   refine av Er ?_
   rintro _ s5 ⟨x,H5,I5,r5,y5,qo,BK⟩
   have BL:=I5.pinned (qm BK) (T.obj _ _ qo)
   have g5:=Ei _ s5 τ3 H5 x u _ BL r5 (step x H5 y5)
   rw [pY,wY,AY,xY,eY] at g5
   refine av g5 ?_
   rintro _ s6 ⟨τ6,H6,I6,q6⟩
   have t6:=Ej _ s6 τ6 H6 _ I6 q6
   rw [pY,wY,AY,xY,eY] at t6
   refine av t6 ?_
   rintro ok s7 ⟨H7,I7,q7⟩
   have again:∀ {τ8:St} {H8:Hp} {s8:Shared},Inv Y ([]++BI fp s5.heap) τ8 H8 s8->N τ8 H8->∃ m,m < n/\∃ i τ' H',Inv Y [] τ' H' s8/\tn i s8.heap/\(∀ b∈fp,H' b=none)/\W i m τ' H':=fun {τ8 H8 s8} I8 n8=>by
    obtain ⟨m',hm,w8⟩:=hN τ8 H8 n8
    refine ⟨m',hm,i+1,τ8,H8,I8.CJ,T.keep _ _ _ qo fun b hb o e=>(I8.pin (b,o) (List.mem_append_right _ (List.mem_append_right _ (cD hb e)))).1,fun b hb=>?_,w8⟩
    obtain ⟨o,e,d⟩:=T.obj _ _ qo b hb
    exact (I8.pin (b,o) (List.mem_append_right _ (List.mem_append_right _ (cD hb e)))).2.1
   cases ok with
   | false=>
    rw [if_neg (by decide)] at q7 ⊢
    exact again I7 q7
   | true=>
    rw [if_pos rfl] at q7 ⊢
    have e7:=Ek _ s7 τ6 H7 _ I7 q7
    rw [pY,wY,AY,xY,eY] at e7
    refine av e7 ?_
    rintro yv s8 ⟨y,H8,I8,r8,xs,Up,hz,n8⟩
    have a8:=cB (X:=Y) _ s8 τ6 H8 (.ref s2.heap.objs.size) [y] (.ref s2.heap.objs.size) [yv] (fun v H'=>N τ6 H') I8 rfl (.cons r8 .nil) ⟨_,xs,y,rfl,rfl,Up,hz,n8⟩
    rw [pY,wY,AY,xY] at a8
    refine av a8 ?_
    rintro _ s9 ⟨_,H9,I9,_,n9⟩
    exact again I9 n9
 exact codeAny_compStart_list loop (T.self _ 0 _ _ _ AV loop)
theorem qt.closure (S:qt X.env.scope X.N sc own idx N') (ok:X.Ok):∃ cl,closureFor sc X.env=pure cl/\(∀ x c,cl.lookup x=some c->X.env.cells.lookup x=some c)/\(∀ y∈sc.names,y.2=.free->∃ c,cl.lookup y.1=some c):=
 uE fun y hy hf=>ok.has _ (S.free y hy hf)
theorem Uq (S:qt X.env.scope X.N sc own idx N') (hc:X.calm=true) (hi:PI X tg iter wi)
  (hg:∀ cl C s3 H0 fp pn,PG (dg X N' sc cl C s3 H0 fp pn) tg g) (ht:∀ cl C s3 H0 fp pn,um (dg X N' sc cl C s3 H0 fp pn) ifs tc) (he:∀ cl C s3 H0 fp pn,PE (dg X N' sc cl C s3 H0 fp pn) elt te)
  (hs:∀ x,foldedSetIterable iter X.env x=pure x:=by intro _;rfl):PE X (.ListComp elt [⟨tg,iter,ifs,0⟩] sc pos) (BS own idx wi g tc te):=by
 intro pins s σ H Q I h
 obtain ⟨cl,kh,c1,c2⟩:=S.closure I.ok
 rw [eval_ListComp]
 refine wpAny_comprehension_free (use:=none) rfl hs kh S.kind S.names (av (hi pins s σ H _ I h) fun v s1 h1=>av h1 fun qj s2 h2=>?_)
 refine lF (Q:=Q) (pins:=pins) (σ:=σ) (RR:=fun acc C=>compPost (model X.prog X.w) X.A X.xe none (EP X pins σ Q) acc C) S c1 c2 hc hg ht he h2 ?_
 intro D C H' s' I' q ⟨a1,a2,a3,a4,a5,m,a6⟩
 exact ⟨m,a6,fun h' sb=>⟨.ref D,H',I'.turned (t':=s'.toks) (fun b o hb e=>(sb.2 b hb).trans e) a1 (Ne.symm (Ne.symm a2)) (.inr a3) a4 a5,rfl,q⟩⟩
theorem Ur {y:Str} {py spos:Pos} (S:qt X.env.scope X.N sc own idx N') (hc:X.calm=true) (hi:PI X tg iter wi)
  (hg:∀ cl C s3 H0 fp pn,PG (dg X N' sc cl C s3 H0 fp pn) tg g) (ht:∀ cl C s3 H0 fp pn,um (dg X N' sc cl C s3 H0 fp pn) ifs tc) (he:∀ cl C s3 H0 fp pn,PE (dg X N' sc cl C s3 H0 fp pn) elt te)
  (hN:X.N.Nodup) (ID:X.N[i]? =some y) (hy:X.env.scope.names.lookup y=some .local)
  (IE:swapsWith (.ListComp elt [⟨tg,iter,ifs,0⟩] sc pos) (some (.Name y py)) spos.line X.env=pure true:=by rfl)
  (hs:∀ x,foldedSetIterable iter X.env x=pure x:=by intro _;rfl):PS X (.Assign [.Name y py] (.ListComp elt [⟨tg,iter,ifs,0⟩] sc pos) spos) (zz (BS own idx wi g tc te) (ip i)):=by
 intro pins s σ H D I h
 obtain ⟨cl,kh,c1,c2⟩:=S.closure I.ok
 rw [exec_Assign_Name_used _ _ _ _ IE]
 refine QT (wpAny_standAt (QT ?_))
 show wpAny _ X.A (do let _ <- comprehension (.ListComp elt [⟨tg,iter,ifs,0⟩] sc pos) sc X.env _ (newList []) false (eval iter X.env) (some (assign (.Name y py) X.env))) _ _ s
 refine QT (wpAny_mono (wpAny_comprehension_free (use:=some (assign (.Name y py) X.env)) (Q:=fun _ s'=>SP X pins D .next s') rfl hs kh S.kind S.names
  (av (hi pins s σ H _ I h) fun v s1 h1=>av h1 fun qj s2 h2=>?_)) (fun _ s' hq=>QU (QU hq)) fun _ _ e=>e)
 refine lF (Q:=fun x H1=>ip i x σ H1 D.nx) (pins:=pins) (σ:=σ) (RR:=fun acc C=>compPost (model X.prog X.w) X.A X.xe (some (assign (.Name y py) X.env)) (fun _ s'=>SP X pins D .next s') acc C) S c1 c2 hc hg ht he h2 ?_
 intro D' C H' s' I' q ⟨a1,a2,a3,a4,a5,m,a6⟩
 show wpAny _ X.A (assign (.Name y py) X.env (.ref D')) _ _ _
 refine wpAny_assign_Name (mP (v:=.ref D') I' hN ID (.inl hy) rfl (fun s'' Us ⟨a,sb,ha⟩=>?_) (.inr hy))
 have Ut:C≠a:=by
  rcases ha with z | z
  ·rw [z];exact a2
  ·exact Ne.symm (a4 _ _ z)
 refine ⟨m,a6.sameBut sb Ut,fun h' za=>⟨_,H',Us.turned (t':=s''.toks) (fun b o hb e=>(za.2 b hb).trans e) a1 a2 (.inr a3) a4 a5,q⟩⟩
end
def tV (i:Nat):TE:=fun σ H Q=>match σ[i]? with | some (some v)=>Q v H | _=>False
theorem Uu (i:Nat) {pos:Pos} (hN:X.N[i]? =some x:=by rfl) (hv:CD X.env.scope x:=by first | exact Or.inl rfl | exact Or.inr (Or.inl rfl) | exact Or.inr (Or.inr rfl)) (hd:(x==("__debug__":Str))=false:=by decide) (ju:(x==("__classdict__":Str))=false:=by decide):PE X (.Name x pos) (tV i):=by
 intro pins s σ H Q I h
 refine Ro hN hv hd ju pins s σ H Q I ?_
 unfold tV at h
 split at h
 ·next v e=>exact ⟨v,e,h⟩
 ·exact h.elim
def IF:R2:=fun x y H Q=>match x,y with
 | .int i,.int j=>Q (.int (i+j)) H
 | .str i,.str j=>i.length+j.length<=sizeLine/\Q (.str (i++j)) H
 | .ref l,.ref b=>(∃ xs zs,H l=some (.lst xs)/\H b=some (.lst zs)/\xs.length+zs.length<=sizeLine/\∀ p,H p=none->Q (.ref p) (upd H p (.lst (xs++zs))))
 | _,_=>False
theorem bS:c_ X (binaryOp .Add) IF:=by
 intro pins s σ H x y v u Q I rx ry h
 cases x<;>cases y<;>first
  | exact (show False from h).elim
  | exact R8 pins s σ H _ _ v u Q I rx ry ⟨_,_,rfl,rfl,h⟩
  | exact sM pins s σ H _ _ v u Q I rx ry ⟨_,_,rfl,rfl,h.1,h.2⟩
  | (obtain ⟨xs,zs,h1,h2,h3,h4⟩:=h;exact TU pins s σ H _ _ v u Q I rx ry ⟨_,_,xs,zs,rfl,rfl,h1,h2,h3,h4⟩)
def Uv:R2:=fun x y H Q=>match x,y with | .int i,.int j=>Gb i j/\Q (.int (i*j)) H | _,_=>False
theorem dJ:c_ X (binaryOp .Mult) Uv:=by
 intro pins s σ H x y v u Q I rx ry h
 cases x<;>cases y<;>first
  | exact (show False from h).elim
  | exact R9 pins s σ H _ _ v u Q I rx ry ⟨_,_,rfl,rfl,h.1,h.2⟩
def Uw:R2:=fun x y H Q=>match x,y with | .int i,.int j=>0 < j/\Q (.int (i % j)) H | _,_=>False
theorem eP:c_ X (binaryOp .Mod) Uw:=by
 intro pins s σ H x y v u Q I rx ry h
 cases x<;>cases y<;>first
  | exact (show False from h).elim
  | exact Sa pins s σ H _ _ v u Q I rx ry ⟨_,_,rfl,rfl,h.1,h.2⟩
def Ux:R2:=fun x y H Q=>match x,y with | .int i,.int j=>(0 < j/\j < 1073741824)/\Q (.int (i / j)) H | _,_=>False
theorem Uy:c_ X (binaryOp .FloorDiv) Ux:=by
 intro pins s σ H x y v u Q I rx ry h
 cases x<;>cases y<;>first
  | exact (show False from h).elim
  | exact R_ pins s σ H _ _ v u Q I rx ry ⟨_,_,rfl,rfl,h.1,h.2⟩
def Uz:R2:=fun x y H Q=>match x,y with | .int i,.int j=>L6 i j/\Q (.int (i^j.toNat)) H | _,_=>False
theorem UA:c_ X (binaryOp .Pow) Uz:=by
 intro pins s σ H x y v u Q I rx ry h
 cases x<;>cases y<;>first
  | exact (show False from h).elim
  | exact Sb pins s σ H _ _ v u Q I rx ry ⟨_,_,rfl,rfl,h.1,h.2⟩
def Mw (p:Int->Int->Bool):R2:=fun x y H Q=>match x,y with | .int i,.int j=>Q (.bl (p i j)) H | _,_=>False
theorem zM:c_ X (compareOp .Gt) (Mw fun i j=>decide (j < i)):=by
 intro pins s σ H x y v u Q I rx ry h
 cases x<;>cases y<;>first
  | exact (show False from h).elim
  | exact Sk pins s σ H _ _ v u Q I rx ry ⟨_,_,rfl,rfl,h⟩
theorem UB:c_ X (compareOp .GtE) (Mw fun i j=>decide (j<=i)):=by
 intro pins s σ H x y v u Q I rx ry h
 cases x<;>cases y<;>first
  | exact (show False from h).elim
  | exact Sl pins s σ H _ _ v u Q I rx ry ⟨_,_,rfl,rfl,h⟩
def UC:R2:=fun x y H Q=>match x,y with
 | .int i,.int j=>Q (.bl (decide (i < j))) H
 | .str i,.str j=>Q (.bl (decide (i.cps.toList < j.cps.toList))) H
 | _,_=>False
theorem iJ:c_ X (compareOp .Lt) UC:=by
 intro pins s σ H x y v u Q I rx ry h
 cases x<;>cases y<;>first
  | exact (show False from h).elim
  | exact Sj pins s σ H _ _ v u Q I rx ry ⟨_,_,rfl,rfl,h⟩
  | exact vX pins s σ H _ _ v u Q I rx ry ⟨_,_,rfl,rfl,h⟩
def Mx (n:Bool):R2:=fun x y H Q=>match x,y with
 | .ref a,.ref b=>a≠b/\∃ xs,H a=some (.lst xs)/\H b=some (.lst [])/\Q (.bl (n^^xs.isEmpty)) H
 | x,y=>D5 x y=true/\Q (.bl (n^^decide (x=y))) H
theorem yQ {xs:List V} (hu:A.units < cLine) (I:Inv X pins σ H s) (ha:H a=some (.lst xs)) (hb:H b=some (.lst [])) (lu:a≠b)
  (q:∀ tk,Q (.bool xs.isEmpty) {s with toks:=tk}) (q0:Q (.bool xs.isEmpty) s):wpAny (model X.prog X.w) A (compareOp .Eq (.ref a) (.ref b)) Q E s:=by
 obtain ⟨_,its,n,r1,e1⟩:=(show bx X.prog X.w H s.heap a (.lst xs) from I.hok a _ ha)
 obtain ⟨_,its2,n2,r2,e2⟩:=(show bx X.prog X.w H s.heap b (.lst []) from I.hok b _ hb)
 cases r2
 have l1:s.heap.IsList a its.toArray:=⟨_,e1,rfl,_,rfl⟩
 have l2:s.heap.IsList b (#[]:Array Value):=⟨_,e2,rfl,_,rfl⟩
 cases r1 with
 | nil=>
  exact SeqAt.eq_listAt (e:=fun _=>true) l1 l2 rfl hu (fun i hi=>absurd hi (by simp)) (by simpa using q0)
 | cons z t=>
  exact SeqAt.eq_list_lengthsAt l1 l2 (by simp) hu (by simpa using q0)
theorem eW (hu:X.A.units < cLine):c_ X (compareOp .Eq) (Mx false):=by
 intro pins s σ H x y v u Q I rx ry h
 have hs:(∀ a b,x=.ref a->y=.ref b->False)->D5 x y=true/\Q (.bl (false^^decide (x=y))) H:=fun hn=>by
  cases x<;>cases y<;>first
   | exact (hn _ _ rfl rfl).elim
   | exact h
 by_cases hr:∃ a b,x=.ref a/\y=.ref b
 ·obtain ⟨a,b,rfl,rfl⟩:=hr
  obtain ⟨lu,xs,h1,h2,q⟩:=h
  cases rx;cases ry
  exact yQ hu I h1 h2 lu (fun tk=>⟨.bl xs.isEmpty,H,I.tok tk,rfl,by simpa using q⟩) ⟨.bl xs.isEmpty,H,I,rfl,by simpa using q⟩
 ·obtain ⟨h1,h2⟩:=hs fun a b e1 e2=>hr ⟨a,b,e1,e2⟩
  exact Sh pins s σ H x y v u Q I rx ry ⟨h1,by simpa using h2⟩
theorem yJ {xs:List V} (hu:A.units < cLine) (I:Inv X pins σ H s) (ha:H a=some (.lst xs)) (hb:H b=some (.lst []))
  (q0:Q (.bool (!xs.isEmpty)) s):wpAny (model X.prog X.w) A (compareOp .NotEq (.ref a) (.ref b)) Q E s:=by
 obtain ⟨_,its,n,r1,e1⟩:=(show bx X.prog X.w H s.heap a (.lst xs) from I.hok a _ ha)
 obtain ⟨_,its2,n2,r2,e2⟩:=(show bx X.prog X.w H s.heap b (.lst []) from I.hok b _ hb)
 cases r2
 have l1:s.heap.IsList a its.toArray:=⟨_,e1,rfl,_,rfl⟩
 have l2:s.heap.IsList b (#[]:Array Value):=⟨_,e2,rfl,_,rfl⟩
 cases r1 with
 | nil=>
  exact SeqAt.RcNeAt.lists (e:=fun _=>true) l1 l2 rfl hu (fun i hi=>absurd hi (by simp)) _ _ _ _ (by simpa using q0)
 | cons z t=>
  exact SeqAt.RcNeAt.lists_lengths l1 l2 (by simp) hu _ _ _ _ (by simpa using q0)
theorem fJ (hu:X.A.units < cLine):c_ X (compareOp .NotEq) (Mx true):=by
 intro pins s σ H x y v u Q I rx ry h
 have hs:(∀ a b,x=.ref a->y=.ref b->False)->D5 x y=true/\Q (.bl (true^^decide (x=y))) H:=fun hn=>by
  cases x<;>cases y<;>first
   | exact (hn _ _ rfl rfl).elim
   | exact h
 by_cases hr:∃ a b,x=.ref a/\y=.ref b
 ·obtain ⟨a,b,rfl,rfl⟩:=hr
  obtain ⟨lu,xs,h1,h2,q⟩:=h
  cases rx;cases ry
  exact yJ hu I h1 h2 ⟨.bl (!xs.isEmpty),H,I,rfl,by simpa using q⟩
 ·obtain ⟨h1,h2⟩:=hs fun a b e1 e2=>hr ⟨a,b,e1,e2⟩
  exact Si pins s σ H x y v u Q I rx ry ⟨h1,by simpa using h2⟩
def AW (K:Q0):R2:=fun x y H Q=>match x,y with
 | .ref p,.int i=>∃ xs v,(af K H p xs\/ae K H p xs)/\lq xs i=some v/\Q v H
 | .str z,.int i=>z.length<=sizeLine/\∃ c,lq z.cps.toList i=some c/\Q (.str ⟨#[c]⟩) H
 | _,_=>False
theorem UD : BR X (AW X.K) := by
  intro e1 e2 pins s σ H x y v u Q I rx ry h hs
  cases x <;> cases y <;> first
    | exact (show False from h).elim
    | (obtain ⟨xs, w, h1 | h1, h2, h3⟩ := h
       · exact To e1 e2 pins s σ H _ _ v u Q I rx ry ⟨_, xs, _, w, rfl, rfl, h1, h2, h3⟩ hs
       · exact Tp e1 e2 pins s σ H _ _ v u Q I rx ry ⟨_, xs, _, w, rfl, rfl, h1, h2, h3⟩ hs)
    | (obtain ⟨h1, c, h2, h3⟩ := h; exact Tq e1 e2 pins s σ H _ _ v u Q I rx ry ⟨_, _, c, rfl, rfl, h1, h2, h3⟩ hs)
def Gn (K:Q0) (n:Bool):R2:=fun x y H Q=>match y with
 | .str j=>∃ i,x=.str i/\Q (.bl (n^^(!(Builtin.Str.occurrences j i 0 j.length 1).isEmpty))) H
 | .ref p=>∃ xs,(af K H p xs\/ae K H p xs)/\yz x=true/\xs.all yz=true/\Q (.bl (n^^Ad x xs)) H
 | _=>False
theorem UE:c_ X (compareOp .In) (Gn X.K false):=by
 intro pins s σ H x y v u Q I rx ry h
 cases y<;>first
  | exact (show False from h).elim
  | (obtain ⟨i,rfl,h2⟩:=h;exact wQ pins s σ H _ _ v u Q I rx ry ⟨i,_,rfl,rfl,by simpa using h2⟩)
  | (obtain ⟨xs,h1,h2,h3,h4⟩:=h;exact wO pins s σ H _ _ v u Q I rx ry ⟨_,xs,rfl,h1,h2,h3,by simpa using h4⟩)
def IG (K:Q0):List V->Hp->VK->Prop:=fun xs H Q=>match xs with
 | [.str y]=>y.length<=sizeLine/\Q (.int y.length) H
 | [.ref p]=>(∃ ys,(af K H p ys\/ae K H p ys)/\Q (.int ys.length) H)\/(∃ kvs,Rd H p (.dK kvs)/\Q (.int kvs.length) H)
 | _=>False
theorem wP:rn X (.builtin "len") (IG X.K):=by
 intro pins s σ H xs us Q I r h
 unfold IG at h
 split at h
 ·exact m4 pins s σ H _ us Q I r ⟨_,_,rfl,⟨h.1,rfl⟩,h.2⟩
 ·rcases h with ⟨ys,h1 | h1,q⟩ | ⟨kvs,h1,q⟩
  ·exact m4 pins s σ H _ us Q I r ⟨_,_,rfl,.inl ⟨ys,h1,rfl⟩,q⟩
  ·exact m4 pins s σ H _ us Q I r ⟨_,_,rfl,.inr ⟨ys,h1,rfl⟩,q⟩
  ·obtain ⟨u,rfl,ru⟩:=vals1 r
   cases ru
   exact T3 I h1 fun t s' I'=>⟨.int kvs.length,H,I',⟨t,rfl⟩,q⟩
 ·exact h.elim
def AX (H:Hp):V->Option String
 | .ai=>some "NoneType"
 | .bl _=>some "bool"
 | .int _=>some "int"
 | .str _=>some "str"
 | .ref a=>match H a with
  | some (.lst _)=>some "list"
  | some (.tup _)=>some "tuple"
  | some (.dK _)=>some "dict"
  | _=>none
 | _=>none
def Gp (t T:String):Bool:=t==T||(t=="bool"&&T=="int")
theorem UG:∀ (K:Q0) (t T:String),t∈["NoneType","bool","int","str","list","tuple","dict"]->T∈["bool","int","str","list","tuple","dict"]->PySem.W.kitOne K (.type t) (.type T)=some (Gp t T):=by
 intro K t T h1 h2
 simp only [Qp,QA,or_false] at h1 h2
 rcases h1 with rfl | rfl | rfl | rfl | rfl | rfl | rfl<;>rcases h2 with rfl | rfl | rfl | rfl | rfl | rfl<;>rfl
def My:List V->Hp->VK->Prop:=fun xs H Q=>match xs with
 | [x,.ty T]=>T∈["bool","int","str","list","tuple","dict"]/\∃ t,AX H x=some t/\Q (.bl (Gp t T)) H
 | _=>False
theorem h9:rn X (.builtin "isinstance") My:=by
 intro pins s σ H xs us Q I r h
 unfold My at h
 split at h
 ·next x T=>
  obtain ⟨hT,t,ht,q⟩:=h
  obtain ⟨u,c,rfl,ru,rc⟩:=r.two
  cases rc
  have fin:∀ tk,EP X pins σ Q (.bool (Gp t T)) {s with toks:=tk}:=fun tk=>⟨.bl (Gp t T),H,I.tok tk,rfl,q⟩
  have tm:t∈["NoneType","bool","int","str","list","tuple","dict"]/\uc X.K H x (.type t):=by
   cases x with
   | ai=>cases ht;exact ⟨by simp,.ai⟩
   | bl b=>cases ht;exact ⟨by simp,.bl b⟩
   | int b=>cases ht;exact ⟨by simp,.int b⟩
   | str b=>cases ht;exact ⟨by simp,.str b⟩
   | ref a=>
    unfold AX at ht
    dsimp only at ht
    split at ht
    ·next e=>cases ht;exact ⟨by simp,.lst e⟩
    ·next e=>cases ht;exact ⟨by simp,.tup e⟩
    ·next e=>cases ht;exact ⟨by simp,.dK e⟩
    ·cases ht
   | _=>cases ht
  exact xC I ru tm.2 (UG _ t T tm.1 hT) fin
 ·exact h.elim
def AZ:V->Option Int->Option Int->Hp->VK->Prop:=fun x lo hi H Q=>∃ z,x=.str z/\z.length<=sizeLine/\Q (.str (Txt.slice z lo hi)) H
theorem UH:xj X AZ:=by
 intro pins s σ H x v vl vu lo hi sl Q I rx hs pl pu h
 obtain ⟨z,rfl,hz,q⟩:=h
 obtain ⟨t,rfl⟩:=(show ∃ t,v=Value.str z t from rx)
 refine ⟨"str",_,F.slot_str_getitem.lookup,typeIs_str _ _ _,?_⟩
 have Mz:∀ {w:Value} {o:Option Int},IsPart w o->∃ l:Option (Int×Tok),w=partValue l/\l.map (·.1)=o:=fun {w o} p=>by
  cases p with
  | none=>exact ⟨none,rfl,rfl⟩
  | int k t=>exact ⟨some (k,t),rfl,rfl⟩
 obtain ⟨l,e1,e2⟩:=Mz pl
 obtain ⟨u,e3,e4⟩:=Mz pu
 subst e1 e3
 obtain ⟨o,ho,hc,hd⟩:=hs
 refine wpAny_getItem_str_slice (l:=l) (u:=u) (st:=none) ⟨o,ho,hc,hd⟩ rfl ?_
 refine post_val_or_str ⟨Nat.le_trans (Txt.slice_le z _ _) hz,fun t' k=>?_⟩
 show EP X pins σ Q (.str (Txt.slice z (l.map (·.1)) (u.map (·.1))) t') _
 rw [e2,e4]
 exact ⟨.str (Txt.slice z lo hi),H,I.tok k,⟨t',rfl⟩,q⟩
def II (z:Str):It:=⟨fun i _=>i < z.cps.size,fun i H x H'=>H'=H/\∃ c,z.cps[i]? =some c/\x=.str ⟨#[c]⟩,fun i _=>z.cps.size=i⟩
theorem uH {K:Q0} {St:Nat->Heap->Prop} (W:∀ A':Around,A'.handled=none->Walks P w A' it [it] [it] z.cps.size (SignAt z) St)
  (IJ:∀ (A:Around) (i:Nat) (s:Shared) (Q:Value->Shared->Prop) (E:Value->Shared->Prop),St i s.heap->Q (.ref it) s->wpAny (model P w) A (pyIter (.ref it)) Q E s)
  (hg:∀ i h,St i h->∃ o n vs,h.get? it=some o/\o.cls=.type n/\o.data=.fields vs/\["enumerate","zip","dict_itemiterator","dict_reverseitemiterator","odict_iterator","itertools.zip_longest","itertools.pairwise"].contains n=false):Turn P w K tg (II z) [it] it St where
 mem:=by simp
 obj:=fun i h st b hb=>by
  have e:b=it:=by simpa using hb
  subst e
  obtain ⟨o,n,vs,e,c,d,_⟩:=hg i h st
  exact ⟨o,e,fun v z=>by rw [d] at z;cases z⟩
 keep:=fun i h h' st k=>(W {} rfl).frame _ _ _ st k
 item:=by
  intro X hP hw hK hc i pins s σ H E I hf st Es
  subst hP hw hK
  obtain ⟨f0,f1,f2,f3,f4,f5⟩:=hf it (by simp)
  refine (W X.A (I.ok.hd hc)).item i s _ _ Es st fun v h' tk hv st' kk=>?_
  obtain ⟨c,t,ki,rfl⟩:=hv
  have I1:Inv X pins σ H {s with heap:=h',toks:=tk}:=I.turned (fun b o hb e=>kk b o (by simpa using hb) e) f0 f1 f3 f4 f5
  obtain ⟨o,n,vs,e,c',d,nn⟩:=hg _ _ st'
  exact ⟨_,rfl,rO (s:={s with heap:=h',toks:=tk}) e c' d nn ⟨.str ⟨#[c]⟩,H,I1,⟨t,rfl⟩,⟨rfl,c,ki,rfl⟩,st',fun b hb=>(hf b hb).1⟩⟩
 done:=by
  intro X hP hw hK hc i pins s σ H E I hf st Es
  subst hP hw hK
  obtain ⟨f0,f1,f2,f3,f4,f5⟩:=hf it (by simp)
  have e:z.cps.size=i:=Es
  subst e
  exact (W X.A (I.ok.hd hc)).done s _ _ st fun h' tk kk=>⟨rfl,I.turned (fun b o hb e=>kk b o (by simpa using hb) e) f0 f1 f3 f4 f5⟩
 self:=IJ
def bc (P:Program) (w:World) (K:Q0) (mg:Str->Option Value) (base:Heap) (k:Nat) (x:Str) (ps:List Str) (sp:Sp):Prop:=
 ∃ (f:Addr) (fd:FuncData),ud P w K mg base y_ k f fd ps sp/\mg x=some (.ref f)/\PySem.W.keepIn K (.ref f)=true/\Binds K fd ps []/\∃ (oc:Value) (od:Option Addr) (mz:Array (Option Value)),K.lookup f=some ⟨oc,od,.func fd,mz⟩
section
variable {k:Nat} {sp:Sp} {p pos:Pos} {es:List Expr} {t:TA}
theorem UI (F:bc X.prog X.w X.K X.mg X.base k x ps sp) (hr:fu k X.A) (ha:PA X (e::es) t) (hg:Gl X x:=by rfl) (mw:(x==("__debug__":Str))=false:=by decide)
  (he:starEach (e::es) X.env=(false,eval e X.env)::starEach es X.env:=by rfl) (gb:(backTo pos (starEach es X.env)).any (·.1)=false:=by rfl):
  PE X (.Call (.Name x p) (e::es) [] pos) (D_ sp [] E0 t):=by
 obtain ⟨f,fd,G,UJ,kp,b,_⟩:=F
 exact S1 G hr hg UJ kp b .nil Mt ha mw he gb
end
def iD (K:Q0) (tl:TE):TI:=fun σ H R=>tl σ H fun x H1=>match x with
 | .ref a=>((∃ xs,af K H1 a xs)/\R (CI K a) H1)\/((∃ xs,ae K H1 a xs)/\R (Io K a) H1)
 | .str z=>R (II z) H1
 | _=>False
theorem UK {l:Expr} {tl:TE} (hl:PE X l tl):PI X tg l (iD X.K tl):=by
 intro pins s σ H R I h
 refine av (hl pins s σ H _ I h) ?_
 rintro v s1 ⟨x,H1,I1,r1,q1⟩
 cases x with
 | ref a=>
  cases r1
  rcases q1 with ⟨⟨xs,hq⟩,q⟩ | ⟨⟨xs,hq⟩,q⟩
  ·obtain ⟨its,rv,p,hz⟩:=I1.list hq
   refine wpAny_pyIter_list p.isList ?_
   refine ⟨s1.heap.objs.size,[s1.heap.objs.size],_,_,H1,rfl,I1.kept (t':=s1.toks) fun b o e=>Qc _ e,xF a _,⟨_,Qd _ rfl,rfl,rfl⟩,fun b hb=>?_,q⟩
   have e:b=s1.heap.objs.size:=by simpa using hb
   subst e
   exact I1.z_ (Qy _) (I1.hok.fresh (Qy _))
  ·obtain ⟨its,rv,p,hz⟩:=I1.tuple hq
   refine wpAny_pyIter_tuple (show s1.heap.IsTuple a its.toArray from p) ?_
   refine ⟨s1.heap.objs.size,[s1.heap.objs.size],_,_,H1,rfl,I1.kept (t':=s1.toks) fun b o e=>Qc _ e,u9 a _,⟨_,Qd _ rfl,rfl,rfl⟩,fun b hb=>?_,q⟩
   have e:b=s1.heap.objs.size:=by simpa using hb
   subst e
   exact I1.z_ (Qy _) (I1.hok.fresh (Qy _))
 | str z=>
  obtain ⟨t,rfl⟩:=(show ∃ t,v=Value.str z t from r1)
  have q:R (II z) H1:=q1
  have fin:∀ (o:Obj) (n:String) (W:∀ A':Around,A'.handled=none->Walks X.prog X.w A' s1.heap.objs.size [s1.heap.objs.size] [s1.heap.objs.size] z.cps.size (SignAt z) (fun i h=>h.IsStrIter s1.heap.objs.size n z t i)),
    (∀ (A:Around) (i:Nat) (s:Shared) (Q:Value->Shared->Prop) (E:Value->Shared->Prop),s.heap.IsStrIter s1.heap.objs.size n z t i->Q (.ref s1.heap.objs.size) s->wpAny (model X.prog X.w) A (pyIter (.ref s1.heap.objs.size)) Q E s)->
    ["enumerate","zip","dict_itemiterator","dict_reverseitemiterator","odict_iterator","itertools.zip_longest","itertools.pairwise"].contains n=false->
    (s1.heap.push o).IsStrIter s1.heap.objs.size n z t 0->CH X pins σ tg R (.ref s1.heap.objs.size) {s1 with heap:=s1.heap.push o}:=by
   intro o n W IJ hn st
   refine ⟨s1.heap.objs.size,[s1.heap.objs.size],_,_,H1,rfl,I1.kept (t':=s1.toks) fun b o e=>Qc _ e,uH W IJ (fun i h st=>?_),st,fun b hb=>?_,q⟩
   ·obtain ⟨o,e,c,d⟩:=st
    exact ⟨o,n,_,e,c,d,hn⟩
   ·have e:b=s1.heap.objs.size:=by simpa using hb
    subst e
    exact I1.z_ (Qy _) (I1.hok.fresh (Qy _))
  cases ha:z.cps.all (· < 128)
  ·exact wpAny_pyIter_wide ha (fin _ _ (fun A' hA=>Walks.strWide hA _ z t) (fun A i s Q E st h=>wpAny_pyIter_striter_wide st h) (by decide) ⟨_,Qd _ rfl,rfl,rfl⟩)
  ·exact wpAny_pyIter_ascii ha (fin _ _ (fun A' hA=>Walks.strAscii hA _ z t) (fun A i s Q E st h=>wpAny_pyIter_striter_ascii st h) (by decide) ⟨_,Qd _ rfl,rfl,rfl⟩)
 | _=>exact (show False from q1).elim
def BU (J:It) (ok:Hp->Prop) (n:Nat) (item:Nat->V):Prop:=
 ∀ H,ok H->(∀ i,i < n->J.go i H/\∀ x H',J.lg i H x H'->H'=H/\x=item i)/\J.stop n H
theorem d8 {K:Q0} (xs:List V):BU (CI K a) (fun H=>af K H a xs) xs.length (fun i=>xs.getD i .ai):=fun H ok=>
 ⟨fun i hi=>⟨⟨xs,xs[i],ok,by simp [hi]⟩,fun x H' ⟨e,y⟩=>⟨e,by
  have:=y xs ok
  show x=xs.getD i V.ai
  rw [Qb,this];rfl⟩⟩,⟨xs,ok,Qy _⟩⟩
theorem dG {K:Q0} (xs:List V):BU (Io K a) (fun H=>ae K H a xs) xs.length (fun i=>xs.getD i .ai):=fun H ok=>
 ⟨fun i hi=>⟨⟨xs,xs[i],ok,by simp [hi]⟩,fun x H' ⟨e,y⟩=>⟨e,by
  have:=y xs ok
  show x=xs.getD i V.ai
  rw [Qb,this];rfl⟩⟩,⟨xs,ok,Qy _⟩⟩
theorem jN (lo:Int) (n:Nat):BU (F9 lo n) (fun _=>True) n (fun i=>.int (lo+i)):=fun H _=>
 ⟨fun i hi=>⟨hi,fun x H' ⟨e,y⟩=>⟨e,y⟩⟩,Qy _⟩
theorem i5 {J:It} {ok:Hp->Prop} {item:Nat->V} {g:TG} {tc:TC} {τ0:St} {Q:Hp->Prop} (hJ:BU J ok n item) (Pv:Nat->St->Hp->Prop) (h0:Pv 0 τ0 H0)
  (hok:∀ i τ H,i<=n->Pv i τ H->ok H)
  (hs:∀ i τ H,i < n->Pv i τ H->g (item i) τ H fun τ2 H2=>tc τ2 H2 fun b H3=>if b=true then te τ2 H3 fun y H4=>∃ xs,H4 D=some (.lst xs)/\xs.length < sizeLine/\Pv (i+1) τ2 (upd H4 D (.lst (xs++[y]))) else Pv (i+1) τ2 H3)
  (hd:∀ τ H,Pv n τ H->Q H):∃ W:Nat->Nat->St->Hp->Prop,(∃ m,W 0 m τ0 H0)/\∀ i m τ H,W i m τ H->
   (J.stop i H/\Q H)\/(J.go i H/\∃ N:St->Hp->Prop,(∀ τ' H',N τ' H'->∃ m',m' < m/\W (i+1) m' τ' H')/\∀ x H',J.lg i H x H'->g x τ H' fun τ2 H2=>tc τ2 H2 fun b H3=>
    if b=true then te τ2 H3 fun y H4=>∃ xs,H4 D=some (.lst xs)/\xs.length < sizeLine/\N τ2 (upd H4 D (.lst (xs++[y]))) else N τ2 H3):=by
 refine ⟨fun i m τ H=>m=n - i/\i<=n/\Pv i τ H,⟨n,by simp,Nat.zero_le _,h0⟩,?_⟩
 rintro i m τ H ⟨rfl,hi,p⟩
 obtain ⟨k1,k2⟩:=hJ H (hok i τ H hi p)
 by_cases ao:i < n
 ·refine .inr ⟨(k1 i ao).1,Pv (i+1),fun σ' H' p'=>⟨n - (i+1),by omega,rfl,ao,p'⟩,fun x H' y=>?_⟩
  obtain ⟨e,e2⟩:=(k1 i ao).2 x H' y
  subst e e2
  exact hs i τ _ ao p
 ·have e:i=n:=by omega
  subst e
  exact .inl ⟨k2,hd τ H p⟩
theorem fU {J:It} {ok:Hp->Prop} {item:Nat->V} {g:TG} {tb:TS} {D:Ends} (hJ:BU J ok n item) (Pv:Nat->St->Hp->Prop) (h0:Pv 0 σ H) (hok:∀ i τ H,i<=n->Pv i τ H->ok H)
  (hs:∀ i σ H,i < n->Pv i σ H->g (item i) σ H fun σ2 H2=>tb {D with nx:=Pv (i+1),ct:=Pv (i+1),bk:=D.nx} σ2 H2) (hd:∀ σ H,Pv n σ H->D.nx σ H):
  ∃ W:Nat->Nat->St->Hp->Prop,(∃ m,W 0 m σ H)/\∀ i m σ H,W i m σ H->
   (J.stop i H/\D.nx σ H)\/(J.go i H/\∃ N:St->Hp->Prop,(∀ σ' H',N σ' H'->∃ m',m' < m/\W (i+1) m' σ' H')/\∀ x H',J.lg i H x H'->g x σ H' fun σ2 H2=>tb {D with nx:=N,ct:=N,bk:=D.nx} σ2 H2):=by
 refine ⟨fun i m σ H=>m=n - i/\i<=n/\Pv i σ H,⟨n,by simp,Nat.zero_le _,h0⟩,?_⟩
 rintro i m σ H ⟨rfl,hi,p⟩
 obtain ⟨k1,k2⟩:=hJ H (hok i σ H hi p)
 by_cases ao:i < n
 ·refine .inr ⟨(k1 i ao).1,Pv (i+1),fun σ' H' p'=>⟨n - (i+1),by omega,rfl,ao,p'⟩,fun x H' y=>?_⟩
  obtain ⟨e,e2⟩:=(k1 i ao).2 x H' y
  subst e e2
  exact hs i σ _ ao p
 ·have e:i=n:=by omega
  subst e
  exact .inl ⟨k2,hd σ H p⟩
def dm (K:Q0) (mg:Str->Option Value) (x:Str) (st:Stmt) (ps:List Str):Prop:=∃ (f:Addr) (fd:FuncData),AS K x x st f fd/\mg x=some (.ref f)/\Binds K fd ps []
theorem dm.ok {P:Program} {w:World} {K:Q0} {mg:Str->Option Value} {base:Heap} {x:Str} {st:Stmt} {N ps:List Str} {k:Nat} {sp:Sp} (F:dm K mg x st ps) (S:fb N ps (bg st)) (len:∀ vs H Q E,sp vs H Q E->vs.length=ps.length)
  (xh:∀ (f:Addr) (a_:Value) (A:Around) (outer:List Env) (s:Shared) (H:Hp) (vs:List V) (Q:VK) (E:XK),fu k (A.deeper (envOfC x (bg st) s.heap.objs.size f a_))->sp vs H Q E->
   ∃ t,qf (yw y_ P w K mg base N x (bg st) f a_ A outer s H E).zq (kc st) t/\t {nx:=fun _ H'=>Q .ai H',rt:=Q} (start N vs) H):bc P w K mg base (k+1) x ps sp:=by
 obtain ⟨f,fd,Fu,m,b⟩:=F
 exact ⟨f,fd,Fu.ok S len (xh f),m,Fu.kp,b,let ⟨oc,od,_,_,_,_,_,_,mz,_,lk,_⟩:=Fu.ex;⟨oc,od,mz,lk⟩⟩
section
variable {pos:Pos}
theorem UL {v:V} (h:∃ u,X.mg x=some u/\RelV v u) (hg:Gl X x:=by rfl) (hd:(x==("__debug__":Str))=false:=by decide):PE X (.Name x pos) (tC v):=by
 obtain ⟨u,h1,h2⟩:=h
 exact kJ hg h1 h2 hd
def Gq (K:Q0) (xs:List V):TE:=fun _ H Q=>∀ a,ae K H a xs->Q (.ref a) H
theorem UM {xs:List V} (h:∃ a,X.mg x=some (.ref a)/\∀ H,ae X.K H a xs) (hg:Gl X x:=by rfl) (hd:(x==("__debug__":Str))=false:=by decide):PE X (.Name x pos) (Gq X.K xs):=by
 obtain ⟨a,h1,h2⟩:=h
 intro pins s σ H Q I q
 exact kJ (v:=.ref a) hg h1 rfl hd pins s σ H Q I (q a (h2 H))
theorem UN:xj X (fun x lo hi H Q=>AZ x lo hi H Q\/(AO X.K x lo hi H Q\/AN X.K x lo hi H Q)):=UH.or (Tu.or Tc)
end
section
variable (K:Q0)
theorem bC (h:X.K=K:=by rfl):BR X (AW K):=by rw [<- h];exact UD
theorem oH (h:X.K=K:=by rfl):c_ X (compareOp .In) (Gn K false):=by rw [<- h];exact UE
theorem bM (h:X.K=K:=by rfl):rn X (.builtin "len") (IG K):=by rw [<- h];exact wP
theorem sQ (h:X.K=K:=by rfl):xj X (fun x lo hi H Q=>AZ x lo hi H Q\/(AO K x lo hi H Q\/AN K x lo hi H Q)):=by rw [<- h];exact UN
theorem UO {l:Expr} {tl:TE} (hl:PE X l tl) (h:X.K=K:=by rfl):PI X tg l (iD K tl):=by rw [<- h];exact UK hl
theorem UP {pos:Pos} {xs:List V} (hx:∃ a,X.mg x=some (.ref a)/\∀ H,ae K H a xs) (h:X.K=K:=by rfl) (hg:Gl X x:=by rfl) (hd:(x==("__debug__":Str))=false:=by decide):PE X (.Name x pos) (Gq K xs):=by
 subst h;exact UM hx hg hd
theorem UQ {es:List Expr} {k:Nat} {t:wx} {pos:Pos} (hc:X.calm=true) (hh:CG X es t) (h:X.K=K:=by rfl)
  (hn:(assignEach es X.env).length=n:=by rfl) (zy:(assignEach es X.env).findIdx? (·.1)=none:=by rfl):PG X (.Tuple es k pos) (zw K n t):=by
 subst h;exact RQ hc hh hn zy
theorem UR {id:String} {r:V->List V->Hp->VK->Prop} {o:Expr} {es:List Expr} {t:TA} (pa:PlainAttrs T) (slot:Slot T name id) (Ae:typeOf (.builtin id)=pure (.type "method_descriptor")) (hm:CS X id r) (ho:PE X o to) (ha:PA X (e::es) t) (h:X.K=K:=by rfl)
  (nc:attributeBase o name X.env (eval o X.env)=eval o X.env:=by rfl)
  (Af:((backTo cpos (starEach (e::es) X.env)).all (fun x=> !x.1)&&(backToKw cpos (keywordEach [] X.env)).all (fun x=>x.1.isSome)
   &&decide ((e::es).length+([]:List Keyword).length+(if ([]:List Keyword).isEmpty then 0 else 1) < 30))=true:=by rfl)
  (ni:(apos.endLine==cpos.line)=true:=by rfl) (hs:starEach (e::es) X.env=(false,eval e X.env)::starEach es X.env:=by rfl) (Ec:(backTo cpos (starEach es X.env)).any (·.1)=false:=by rfl):
  PE X (.Call (.Attribute o name apos) (e::es) [] cpos) (Gg K T r to t):=by
 subst h;exact TJ pa slot Ae hm ho ha nc Af ni hs Ec
end
structure SE (X:Cx) (e:Expr) (t:TE):Prop where
 h:PE X e t
structure ST (X:Cx) (e:Expr) (t:TT):Prop where
 h:PT X e t
structure SW (X:Cx) (e:Expr) (t:TT):Prop where
 h:PW X e t
structure SA (X:Cx) (es:List Expr) (t:TA):Prop where
 h:PA X es t
structure SS (X:Cx) (s:Stmt) (t:TS):Prop where
 h:PS X s t
structure SB (X:Cx) (s:List Stmt) (t:TS):Prop where
 h:qf X s t
structure SG (X:Cx) (e:Expr) (t:TG):Prop where
 h:PG X e t
structure Gr (X:Cx) (e:List Expr) (t:wx):Prop where
 h:CG X e t
structure SI (X:Cx) (tg e:Expr) (t:TI):Prop where
 h:PI X tg e t
structure SC (X:Cx) (e:List Expr) (t:TC):Prop where
 h:um X e t
structure SO (X:Cx) (e:Option Expr) (t:TO):Prop where
 h:PO X e t
section
variable {es:List Expr} {t:TA} {c:Const} {jv:Pos} {n:Str} {C0:List Expr} {f0 a0 b0 c0:Expr} {MA:List Keyword} {o0:Operator} {ks0:List (Option Expr)} {MB:List Comprehension} {MC:Scope} {u0:UnaryOp} {bo0:BoolOp} {aap:List CmpOp}
theorem aC:SA X [] vm:=⟨SQ⟩
theorem aF (ha:SE X (.Constant c j jv) te) (hr:SA X es t):SA X (.Constant c j jv::es) (ie te t):=⟨dI ha.h hr.h⟩
theorem aB (ha:SE X (.Name n jv) te) (hr:SA X es t):SA X (.Name n jv::es) (ie te t):=⟨dI ha.h hr.h⟩
theorem US (ha:SE X (.List C0 jv) te) (hr:SA X es t):SA X (.List C0 jv::es) (ie te t):=⟨dI ha.h hr.h⟩
theorem bG (ha:SE X (.Tuple C0 j jv) te) (hr:SA X es t):SA X (.Tuple C0 j jv::es) (ie te t):=⟨dI ha.h hr.h⟩
theorem aN (ha:SE X (.Call f0 C0 MA jv) te) (hr:SA X es t):SA X (.Call f0 C0 MA jv::es) (ie te t):=⟨dI ha.h hr.h⟩
theorem fC (ha:SE X (.BinOp a0 o0 b0 jv) te) (hr:SA X es t):SA X (.BinOp a0 o0 b0 jv::es) (ie te t):=⟨dI ha.h hr.h⟩
theorem aI (ha:SE X (.Subscript a0 b0 jv) te) (hr:SA X es t):SA X (.Subscript a0 b0 jv::es) (ie te t):=⟨dI ha.h hr.h⟩
theorem gQ (ha:SE X (.ListComp a0 MB MC jv) te) (hr:SA X es t):SA X (.ListComp a0 MB MC jv::es) (ie te t):=⟨dI ha.h hr.h⟩
end
section
variable {a b c o i value lo hi iter elt:Expr} {ta tb tc td ty tv:TE} {t:TA} {pos p p2 pos' jv:Pos} {es:List Expr}
theorem zv (i:Nat) {pos:Pos} (hN:X.N[i]? =some x:=by rfl) (hv:CD X.env.scope x:=by first | exact Or.inl rfl | exact Or.inr (Or.inl rfl) | exact Or.inr (Or.inr rfl)) (hd:(x==("__debug__":Str))=false:=by decide) (ju:(x==("__classdict__":Str))=false:=by decide):SE X (.Name x pos) (tV i):=⟨Uu i hN hv hd ju⟩
theorem MD {v:V} (h:∃ u,X.mg x=some u/\RelV v u) (hg:Gl X x:=by rfl) (hd:(x==("__debug__":Str))=false:=by decide):SE X (.Name x pos) (tC v):=⟨UL h hg hd⟩
theorem UT (K:Q0) {xs:List V} (hx:∃ a,X.mg x=some (.ref a)/\∀ H,ae K H a xs) (h:X.K=K:=by rfl) (hg:Gl X x:=by rfl) (hd:(x==("__debug__":Str))=false:=by decide):SE X (.Name x pos) (Gq K xs):=⟨UP K hx h hg hd⟩
theorem nN {v:V} (hg:Gl X x) (hm:X.mg x=none) (hv:bootBuiltins x=some u) (r:RelV v u) (hn:x≠"__name__":=by decide) (hd:(x==("__debug__":Str))=false:=by decide):SE X (.Name x pos) (tC v):=⟨Ru hg hm hv r hn hd⟩
theorem jZ {j}:SE X (.Constant .none j pos) (tC .ai):=⟨Rr⟩
theorem gP {b:Bool} {j}:SE X (.Constant (.bool b) j pos) (tC (.bl b)):=⟨Rq⟩
theorem aH {i:Int} {j}:SE X (.Constant (.int i) j pos) (tC (.int i)):=⟨Rp⟩
theorem bB {j}:SE X (.Constant (.str x) j pos) (tC (.str x)):=⟨Rt⟩
theorem bY {op:Operator} {r:R2} (ho:c_ X (binaryOp op) r) (ha:SE X a ta) (hb:SE X b tb):SE X (.BinOp a op b pos) (j_ r ta tb):=⟨R4 ho ha.h hb.h⟩
theorem UU {op:UnaryOp} {r:V->Hp->VK->Prop} (ho:F_ X (unaryOp op) r) (ha:SE X a ta):SE X (.UnaryOp op a pos) (L5 r ta):=⟨R5 ho ha.h⟩
theorem zN {r:R2} (ho:c_ X (compareOp op) r) (ha:SE X a ta) (hb:SE X b tb) (hm:behindInMarks op b=false):SE X (.Compare a [op] [b] pos) (j_ r ta tb):=⟨Sq ho ha.h hb.h hm⟩
theorem aP {r:R2} (ho:c_ X (compareOp op) r) (ha:SE X a ta) (hb:SE X b tb) (hm:behindInMarks op b=false):ST X (.Compare a [op] [b] pos) (Gc (j_ r ta tb)):=⟨Ss ho ha.h hb.h hm⟩
theorem mT (h:SE X e te) (he:∀ whole,isTrue e X.env whole=(do let v <- whole;standAt e.pos;holding [v] (truthy v)):=by intro _;rfl):ST X e (tB te):=⟨Rw h.h he⟩
theorem rB {tA:TT} (ha:ST X a tA):ST X (.UnaryOp .Not a pos) (LW tA):=⟨RB ha.h⟩
theorem UW {tA:TT} (ha:ST X a tA):SW X (.BoolOp .And [a] pos) tA:=⟨Rx ha.h⟩
theorem pE {tA:TT} (ha:ST X a tA):SW X (.BoolOp .Or [a] pos) tA:=⟨Ry ha.h⟩
theorem UX {tA yq:TT} {rest:List Expr} (ha:ST X a tA) (hb:SW X (.BoolOp .And (b::rest) pos) yq):SW X (.BoolOp .And (a::b::rest) pos) (LU tA yq):=⟨Rz ha.h hb.h⟩
theorem Et {tA yq:TT} {rest:List Expr} (ha:ST X a tA) (hb:SW X (.BoolOp .Or (b::rest) pos) yq):SW X (.BoolOp .Or (a::b::rest) pos) (LV tA yq):=⟨RA ha.h hb.h⟩
theorem SW.pt {tA:TT} (h:SW X e tA):ST X e tA:=⟨h.h.pt⟩
theorem cM (h:SA X es t):SE X (.List es pos) (L8 t):=⟨SX h.h⟩
theorem aY {x1} (h:SA X es t):SE X (.Tuple es x1 pos) (CN t):=⟨SR h.h⟩
theorem UY:SE X (.Dict [] [] pos) Mq:=⟨zA⟩
theorem fP:SO X none CO:=⟨S9⟩
theorem fH (h:SE X e te):SO X (some e) (CP te):=⟨S_ h.h⟩
theorem fI {r:V->Option Int->Option Int->Hp->VK->Prop} {l u:Option Expr} {tl th:TO} (hr:xj X r) (he:SE X e te) (hl:SO X l tl) (hu:SO X u th):SE X (.Subscript e (.Slice l u none p2) pos) (CQ r te tl th):=⟨zH hr he.h hl.h hu.h⟩
theorem bR (hu:X.A.units+1 < cLine) (ho:SE X o td) (hi:SE X i ty) (hs:Gh i):SE X (.Subscript o i pos) (Mn td ty):=⟨T4 hu ho.h hi.h hs⟩
theorem bD {r:R2} (hr:BR X r) (ha:SE X a ta) (hb:SE X b tb) (hs:Mh b):SE X (.Subscript a b pos) (j_ r ta tb):=⟨Tf hr ha.h hb.h hs⟩
theorem bF {k:Nat} {sp:Sp} (F:bc X.prog X.w X.K X.mg X.base k x ps sp) (hr:fu k X.A) (ha:SA X (e::es) t) (hg:Gl X x:=by rfl) (mw:(x==("__debug__":Str))=false:=by decide)
  (he:starEach (e::es) X.env=(false,eval e X.env)::starEach es X.env:=by rfl) (gb:(backTo pos (starEach es X.env)).any (·.1)=false:=by rfl):
  SE X (.Call (.Name x p) (e::es) [] pos) (D_ sp [] E0 t):=⟨UI F hr ha.h hg mw he gb⟩
theorem bO {id:String} {r:List V->Hp->VK->Prop} (hc:rn X (.builtin id) r) (hg:Gl X x) (hm:X.mg x=none) (hv:bootBuiltins x=some (.builtin id)) (ha:SA X (e::es) t) (hn:x≠"__name__":=by decide) (mw:(x==("__debug__":Str))=false:=by decide)
  (he:starEach (e::es) X.env=(false,eval e X.env)::starEach es X.env:=by rfl) (gb:(backTo pos (starEach es X.env)).any (·.1)=false:=by rfl):SE X (.Call (.Name x p) (e::es) [] pos) (BO r t):=⟨yB hc hg hm hv ha.h hn mw he gb⟩
theorem mF (K:Q0) {id:String} {r:V->List V->Hp->VK->Prop} (pa:PlainAttrs T) (slot:Slot T name id) (Ae:typeOf (.builtin id)=pure (.type "method_descriptor")) (hm:CS X id r) (ho:SE X o to) (ha:SA X (e::es) t) (h:X.K=K:=by rfl)
  (nc:attributeBase o name X.env (eval o X.env)=eval o X.env:=by rfl)
  (Af:((backTo cpos (starEach (e::es) X.env)).all (fun x=> !x.1)&&(backToKw cpos (keywordEach [] X.env)).all (fun x=>x.1.isSome)
   &&decide ((e::es).length+([]:List Keyword).length+(if ([]:List Keyword).isEmpty then 0 else 1) < 30))=true:=by rfl)
  (ni:(apos.endLine==cpos.line)=true:=by rfl) (hs:starEach (e::es) X.env=(false,eval e X.env)::starEach es X.env:=by rfl) (Ec:(backTo cpos (starEach es X.env)).any (·.1)=false:=by rfl):
  SE X (.Call (.Attribute o name apos) (e::es) [] cpos) (Gg K T r to t):=⟨UR K pa slot Ae hm ho.h ha.h h nc Af ni hs Ec⟩
theorem aZ:SB X [] F6:=⟨RD⟩
theorem aG {st:Stmt} {u:TS} (h1:SS X st u):SB X [st] u:=⟨RG h1.h⟩
theorem aD {st:Stmt} {rest:List Stmt} {u v:TS} (h1:SS X st u) (h2:SB X rest v):SB X (st::rest) (zu u v):=⟨RE h1.h h2.h⟩
theorem aQ (he:SE X e te):SS X (.Return (some e) pos) (CF te):=⟨RJ he.h⟩
theorem dR (he:SE X e te) (hs:swapsWith e none pos.line X.env=pure false:=by rfl):SS X (.Expr e pos) (Ik te):=⟨RI he.h hs⟩
theorem bW {a b:List Stmt} {tA:TT} {u v:TS} (hc:ST X c tA) (ha:SB X a u) (hb:SB X b v):SS X (.If c a b pos) (F7 tA u v):=⟨RK hc.h ha.h hb.h⟩
theorem gT {wi:TI} {g:TG} {u:TS} (hp:PassesOwn (model X.prog X.w) X.A X.env X.xe) (hc:X.calm=true) (hi:SI X tg iter wi) (hg:SG X tg g) (hb:SB X body u) (hs:∀ x,foldedSetIterable iter X.env x=pure x:=by intro _;rfl):SS X (.For tg iter body [] pos) (L4 wi g u):=⟨R1 hp hc hi.h hg.h hb.h hs⟩
theorem eI {tA:TT} {u:TS} (hp:PassesOwn (model X.prog X.w) X.A X.env X.xe) (hc:ST X c tA) (hb:SB X body u):SS X (.While c body [] pos) (L1 tA u):=⟨yD hp hc.h hb.h⟩
theorem aS {i:Nat} (hN:X.N.Nodup) (hi:X.N[i]? =some x) (hx:Loc X.env.scope x) (he:SE X e te) (hs:swapsWith e (some (.Name x pos')) pos.line X.env=pure false:=by rfl) (hf:X.fn x=true\/X.env.scope.names.lookup x=some .local:=by first | exact .inl rfl | exact .inr rfl | assumption):
  SS X (.Assign [.Name x pos'] e pos) (zz te (ip i)):=⟨RW hN hi hx he.h hs hf⟩
theorem oR (hu:X.A.units+1 < cLine) (ho:SE X o td) (hi:SE X i ty) (hv:SE X value tv) (hs:swapsWith value (some (.Subscript o i pos')) pos.line X.env=pure false):SS X (.Assign [.Subscript o i pos'] value pos) (Mp td ty tv):=⟨T6 hu ho.h hi.h hv.h hs⟩
theorem jV {g:TG} (he:SE X e te) (hg:SG X tg g) (hs:swapsWithSole [tg] e pos.line X.env=pure false:=by rfl) (hw:swappedStores [tg] e X.env=pure none:=by rfl)
  (h1:(assignEach [tg] X.env).map (·.2)=[assign tg X.env]:=by rfl):SS X (.Assign [tg] e pos) (zz te g):=⟨RU he.h hg.h hs hw h1⟩
theorem aK {i:Nat} (hN:X.N.Nodup) (hi:X.N[i]? =some x) (hx:Loc X.env.scope x) (hf:X.fn x=true\/X.env.scope.names.lookup x=some .local:=by first | exact .inl rfl | exact .inr rfl | assumption):SG X (.Name x pos) (ip i):=⟨RL hN hi hx hf⟩
theorem bK:Gr X [] BF:=⟨RN⟩
theorem aJ {g:TG} {u:wx} (h1:SG X e g) (h2:Gr X es u) (hs:(assignEach (e::es) X.env).map (·.2)=assign e X.env::(assignEach es X.env).map (·.2):=by rfl):Gr X (e::es) (qg g u):=⟨RP h1.h h2.h hs⟩
theorem cC (K:Q0) {k:Nat} {u:wx} (hc:X.calm=true) (hh:Gr X es u) (h:X.K=K:=by rfl)
  (hn:(assignEach es X.env).length=n:=by rfl) (zy:(assignEach es X.env).findIdx? (·.1)=none:=by rfl):SG X (.Tuple es k pos) (zw K n u):=⟨UQ K hc hh.h h hn zy⟩
theorem zJ {u:F8} (ho:SE X o td) (hi:SE X i ty) (hs:Il X u)
  (ha:∀ v,assign (.Subscript o i pos) X.env v=(do
   let ov <- holding [v] (eval o X.env)
   let iv <- holding [v,ov] (eval i X.env)
   standAt pos
   holding [v,ov,iv] (setItem ov iv v)
   release [v,ov,iv] []):=by intro _;rfl):SG X (.Subscript o i pos) (LX td ty u):=⟨RS ho.h hi.h hs ha⟩
theorem kU (hg:Gl X "range") (hm:X.mg "range"=none) (ha:SA X [a] t) (hs:starEach [a] X.env=[(false,eval a X.env)]:=by rfl):SI X tg (.Call (.Name "range" p) [a] [] pos) (L3 t):=⟨xG hg hm ha.h hs⟩
theorem mH (K:Q0) (hl:SE X e te) (h:X.K=K:=by rfl):SI X tg e (iD K te):=⟨UO K hl.h h⟩
theorem cV:SC X [] CZ:=⟨Um⟩
theorem ME {tA:TT} (h:ST X c tA):SC X [c] tA:=⟨Uo h.h⟩
theorem kC {wi:TI} {g:TG} {tt:TC} (S:qt X.env.scope X.N sc own idx N') (hc:X.calm=true) (hi:SI X tg iter wi)
  (hg:∀ cl C s3 H0 fp pn,SG (dg X N' sc cl C s3 H0 fp pn) tg g) (ht:∀ cl C s3 H0 fp pn,SC (dg X N' sc cl C s3 H0 fp pn) ifs tt) (he:∀ cl C s3 H0 fp pn,SE (dg X N' sc cl C s3 H0 fp pn) elt te)
  (hs:∀ x,foldedSetIterable iter X.env x=pure x:=by intro _;rfl):SE X (.ListComp elt [⟨tg,iter,ifs,0⟩] sc pos) (BS own idx wi g tt te):=
 ⟨Uq S hc hi.h (fun q r s t u v=>(hg q r s t u v).h) (fun q r s t u v=>(ht q r s t u v).h) (fun q r s t u v=>(he q r s t u v).h) hs⟩
theorem IK {wi:TI} {g:TG} {tt:TC} {i:Nat} {y:Str} {py spos:Pos} (S:qt X.env.scope X.N sc own idx N') (hc:X.calm=true) (hi:SI X tg iter wi)
  (hg:∀ cl C s3 H0 fp pn,SG (dg X N' sc cl C s3 H0 fp pn) tg g) (ht:∀ cl C s3 H0 fp pn,SC (dg X N' sc cl C s3 H0 fp pn) ifs tt) (he:∀ cl C s3 H0 fp pn,SE (dg X N' sc cl C s3 H0 fp pn) elt te)
  (hN:X.N.Nodup) (ID:X.N[i]? =some y) (hy:X.env.scope.names.lookup y=some .local)
  (IE:swapsWith (.ListComp elt [⟨tg,iter,ifs,0⟩] sc pos) (some (.Name y py)) spos.line X.env=pure true:=by rfl)
  (hs:∀ x,foldedSetIterable iter X.env x=pure x:=by intro _;rfl):SS X (.Assign [.Name y py] (.ListComp elt [⟨tg,iter,ifs,0⟩] sc pos) spos) (zz (BS own idx wi g tt te) (ip i)):=
 ⟨Ur S hc hi.h (fun q r s t u v=>(hg q r s t u v).h) (fun q r s t u v=>(ht q r s t u v).h) (fun q r s t u v=>(he q r s t u v).h) hN ID hy IE hs⟩
end
theorem dm.gf {K:Q0} {st:Stmt} {k:Nat} {sp:Sp} (F:dm K mg x st ps) (S:fb N ps (bg st)) (len:∀ vs H Q E,sp vs H Q E->vs.length=ps.length)
  (xh:∀ (f:Addr) (a_:Value) (A:Around) (outer:List Env) (s:Shared) (H:Hp) (vs:List V) (Q:VK) (E:XK),fu k (A.deeper (envOfC x (bg st) s.heap.objs.size f a_))->sp vs H Q E->
   ∃ t,SB (yw y_ P w K mg base N x (bg st) f a_ A outer s H E).zq (kc st) t/\t {nx:=fun _ H'=>Q .ai H',rt:=Q} (start N vs) H):bc P w K mg base (k+1) x ps sp:=
 F.ok S len fun f a_ A outer s H vs Q E hr h=>let ⟨t,h1,h2⟩:=xh f a_ A outer s H vs Q E hr h;⟨t,h1.h,h2⟩
theorem MF {kx vx target iter:Expr} {scope:Scope} {pos:Pos} {it:Value} (I:Nat->Shared->Prop)
  (turn:∀ n s,I n s->wpAny (model prog w) A (pyNext it) (fun r s₁=>match r with
   | none=>R (.ok .next) s₁
   | some v=>wpAny (model prog w) A (letOwnedTupleGo target it v) (fun _ Ef=>wpAny (model prog w) A (assign target env v) (fun _ s₂=>
     wpAny (model prog w) A (forIn ifs true fun c r=>if r=true then do let ok <- isTrue c env (eval c env);pure (ForInStep.yield ok) else pure (ForInStep.yield r)) (fun ok s₃=>
      if ok=true then wpAny (model prog w) A (eval kx env) (fun kv s₄=>wpAny (model prog w) A (eval vx env) (fun vv s₅=>
       wpAny (model prog w) A (dictSet D kv vv) (fun _ s₆=>∃ m,m < n/\I m s₆) kg s₅) kg s₄) kg s₃
      else ∃ m,m < n/\I m s₃) kg s₂) kg Ef) kg s₁) kg s)
  (n:Nat) (h:I n s):
  codeAny (model prog w) A (.compLoop (.DictComp kx vx [⟨target,iter,ifs,0⟩] scope pos) 0 it (.ref D) env) R s:=by
 refine codeAny_loop rfl I (fun n s hI=>?_) n h
 show wpAny _ A ((compTurn (.DictComp kx vx [⟨target,iter,ifs,0⟩] scope pos) 0 it (.ref D) env).onRaise (fun x=>do noteFrame x env;theTreesLotGoes x)) _ _ s
 refine wpAny_noted ?_
 rw [compTurn_dict]
 refine QT (wpAny_standAt (QT (wpAny_mono (turn n s hI) (fun r s₁ h₁=>?_) fun _ _ h'=>h'.elim)))
 cases r with
 | none=>exact QU h₁
 | some v=>
  refine QT (wpAny_mono h₁ (fun _ Ef IC=>?_) fun _ _ h'=>h'.elim)
  refine QT (wpAny_mono IC (fun _ s₂ h₂=>QT (wpAny_mono h₂ (fun ok s₃ h₃=>?_) fun _ _ h'=>h'.elim)) fun _ _ h'=>h'.elim)
  cases ok with
  | false=>exact QU ⟨rfl,h₃⟩
  | true=>
   exact QT (QT (wpAny_mono h₃ (fun kv s₄ h₄=>QT (wpAny_holding (wpAny_mono h₄ (fun vv s₅ h₅=>QT (wpAny_standAt (wpAny_holding (wpAny_mono h₅ (fun _ s₆ h₆=>QU ⟨rfl,h₆⟩) fun _ _ h'=>h'.elim)))) fun _ _ h'=>h'.elim))) fun _ _ h'=>h'.elim))
section
variable {iter kx vx:Expr} {pos:Pos} {wi:TI} {g:TG} {tc:TC} {tk tw:TE}
abbrev jj:Obj:={cls:=.type "dict",data:=.dict #[]}
def MG (own:List Str) (idx:List Nat) (wi:TI) (g:TG) (tc:TC) (tk tw:TE):TE:=fun σ H Q=>wi σ H fun J H1=>∀ D,H1 D=none->∃ W:Nat->Nat->St->Hp->Prop,(∃ m,W 0 m (uf own idx σ) (upd H1 D (.dK [])))/\∀ i m τ H,W i m τ H->
 (J.stop i H/\Q (.ref D) H)\/(J.go i H/\∃ N:St->Hp->Prop,(∀ τ' H',N τ' H'->∃ m',m' < m/\W (i+1) m' τ' H')/\∀ x H',J.lg i H x H'->g x τ H' fun τ2 H2=>tc τ2 H2 fun b H3=>
  if b=true then tk τ2 H3 fun x H4=>tw τ2 H4 fun y H5=>∃ kvs key,x=kV key/\H5 D=some (.dK kvs)/\kvs.length < sizeLine/\N τ2 (upd H5 D (.dK (putK kvs key y))) else N τ2 H3)
theorem qN (S:qt X.env.scope X.N sc own idx N') (c1:∀ x c,cl.lookup x=some c->X.env.cells.lookup x=some c) (c2:∀ y∈sc.names,y.2=.free->∃ c,cl.lookup y.1=some c) (hc:X.calm=true)
  (hg:∀ cl C s3 H0 fp pn,PG (dg X N' sc cl C s3 H0 fp pn) tg g) (ht:∀ cl C s3 H0 fp pn,um (dg X N' sc cl C s3 H0 fp pn) ifs tc) (he:∀ cl C s3 H0 fp pn,PE (dg X N' sc cl C s3 H0 fp pn) kx tk) (hv:∀ cl C s3 H0 fp pn,PE (dg X N' sc cl C s3 H0 fp pn) vx tw)
  {pins:List (Addr×Obj)} {σ:St} {Q:VK} {qj:Value} {s2:Shared} {RR:Value->Addr->Result->Shared->Prop} {E:Value->Shared->Prop}
  (hI:CH X pins σ tg (fun J H1=>∀ D,H1 D=none->∃ W:Nat->Nat->St->Hp->Prop,(∃ m,W 0 m (uf own idx σ) (upd H1 D (.dK [])))/\∀ i m τ H,W i m τ H->
   (J.stop i H/\Q (.ref D) H)\/(J.go i H/\∃ N:St->Hp->Prop,(∀ τ' H',N τ' H'->∃ m',m' < m/\W (i+1) m' τ' H')/\∀ x H',J.lg i H x H'->g x τ H' fun τ2 H2=>tc τ2 H2 fun b H3=>
    if b=true then tk τ2 H3 fun x H4=>tw τ2 H4 fun y H5=>∃ kvs key,x=kV key/\H5 D=some (.dK kvs)/\kvs.length < sizeLine/\N τ2 (upd H5 D (.dK (putK kvs key y))) else N τ2 H3)) qj s2)
  (Eg:∀ D C H' s',Inv X pins σ H' s'->Q (.ref D) H'->(H' C=none/\C≠X.env.locals/\X.s₀.heap.objs.size<=C/\(∀ x c,X.env.cells.lookup x=some c->c≠C)/\(∀ p∈X.pn++pins,p.1≠C)/\∃ m,s'.heap.Ns C m)->RR (.ref D) C (.ok .next) s'):
  wpAny (model X.prog X.w) X.A newDict (fun acc s₃=>wpAny (model X.prog X.w) X.A (newFunctionEnv sc X.env.globals cl [] X.env.qual none .none (some X.env)) (fun cenv s₄=>
   codeAny (model X.prog X.w) X.A (.compStart (.DictComp kx vx [⟨tg,iter,ifs,0⟩] sc pos) 0 qj acc {cenv with scope:=relabel sc X.env}) (RR acc cenv.locals) s₄) E s₃) E s2:=by
 obtain ⟨it,fp,tn,J,H2,rfl,I,T,fq,f2,body⟩:=hI
 refine wpAny_newObj_type (wpAny_newFunctionEnv S.cell (by intro y hy;simp at hy) (fun h4 ns sb=>?_) S.kind)
 dsimp only at ns sb ⊢
 have xn:jj.isFreed=false:=rfl
 have fr:H2 s2.heap.objs.size=none:=I.hok.fresh (Qy _)
 obtain ⟨W,⟨m0,w0⟩,turn⟩:=body _ fr
 have ug:∀ b∈fp,∃ o,s2.heap.get? b=some o:=fun b hb=>let ⟨o,e,_⟩:=T.obj _ _ fq b hb;⟨o,e⟩
 have za:∀ b o,(s2.heap.push jj).get? b=some o->h4.get? b=some o:=fun b o e=>(sb.2 b (Nat.ne_of_lt (Qz e))).trans (Qc _ e)
 have Eh:∀ (H:Hp) (h:Heap),h.get? s2.heap.objs.size=some jj->bx X.prog X.w H h s2.heap.objs.size (.dK []):=fun H h e=>⟨Nat.zero_le _,beq_eq_false_iff_ne.mpr (Ne.symm (Nat.ne_of_lt I.big)),[],.nil,(Heap.DictOf.new s2.heap).at fun o eo=>by rw [Qd _ rfl] at eo;cases eo;exact e⟩
 have I4:Inv (dg X N' sc cl (s2.heap.push jj).objs.size {s2 with heap:=s2.heap.push jj} (upd H2 s2.heap.objs.size (.dK [])) fp (X.pn++pins)) [] (uf own idx σ) (upd H2 s2.heap.objs.size (.dK [])) {s2 with heap:=h4,toks:=s2.toks+([]:List (Str×Value)).length}:=
  kT S I f2 ug c1 c2 xn Eh ns za
 -- BJ Mv own context
 generalize hY:dg X N' sc cl (s2.heap.push jj).objs.size {s2 with heap:=s2.heap.push jj} (upd H2 s2.heap.objs.size (.dK [])) fp (X.pn++pins)=Y at I4
 have Ei:PG Y tg g:=by rw [<- hY];exact hg _ _ _ _ _ _
 have Ej:um Y ifs tc:=by rw [<- hY];exact ht _ _ _ _ _ _
 have Ek:PE Y kx tk:=by rw [<- hY];exact he _ _ _ _ _ _
 have IL:PE Y vx tw:=by rw [<- hY];exact hv _ _ _ _ _ _
 have pY:Y.prog=X.prog:=by rw [<- hY]
 have wY:Y.w=X.w:=by rw [<- hY]
 have KY:Y.K=X.K:=by rw [<- hY]
 have AY:Y.A=X.A:=by rw [<- hY]
 have cY:Y.calm=true:=by rw [<- hY];exact hc
 have xY:Y.xe=fun _ _=>False:=by rw [<- hY]
 have eY:Y.env=compEnvC sc cl (s2.heap.push jj).objs.size X.env:=by rw [<- hY]
 have El:Y.ex=fp:=by rw [<- hY]
 have Em:Y.fs=mq X.stack:=by rw [<- hY]
 have En:Y.pn=X.pn++pins:=by rw [<- hY]
 have qm:∀ {H':Hp},(∀ b∈fp,H' b=none)->∀ b∈fp,qi Y [] H' b:=fun hn b hb=>by
  obtain ⟨f0,f1,f3,f4,f5,f6⟩:=f2 b hb
  refine ⟨hn b hb,?_,?_,.inl (by rw [El];exact hb),fun x c e=>?_,fun p hp=>?_⟩
  ·obtain ⟨o,e⟩:=ug b hb
   have:=Qz e
   rw [eY]
   show b≠(s2.heap.push jj).objs.size
   rw [Heap.size_push];exact Nat.ne_of_lt (Nat.lt_succ_of_lt this)
  ·rw [Em]
   intro z
   rcases Qp.mp (I.BE b z) with z | z
   ·exact f1 z
   ·exact f3 z
  ·rw [eY] at e
   exact f5 x c (c1 x c e)
  ·rw [En,List.append_nil] at hp
   exact f6 p hp
 have AV:tn 0 h4:=T.keep _ _ _ fq fun b hb o e=>za b o (Qc _ e)
 have Eo:∀ b∈fp,upd H2 s2.heap.objs.size (.dK []) b=none:=fun b hb=>by
  obtain ⟨o,e⟩:=ug b hb
  rw [aE (Nat.ne_of_lt (Qz e))]
  exact (f2 b hb).1
 have loop:codeAny (model X.prog X.w) X.A (.compLoop (.DictComp kx vx [⟨tg,iter,ifs,0⟩] sc pos) 0 (.ref it) (.ref s2.heap.objs.size) (compEnvC sc cl (s2.heap.push jj).objs.size X.env))
   (RR (.ref s2.heap.objs.size) (s2.heap.push jj).objs.size) {s2 with heap:=h4,toks:=s2.toks+([]:List (Str×Value)).length}:=by
  refine MF (fun n s'=>∃ i τ H',Inv Y [] τ H' s'/\tn i s'.heap/\(∀ b∈fp,H' b=none)/\W i n τ H') ?_ m0 ⟨0,_,_,I4,AV,Eo,w0⟩
  rintro n s3 ⟨i,τ3,H3,I3,wz,w_,w3⟩
  rcases turn i n τ3 H3 w3 with ⟨stop,qn⟩ | ⟨go,N,hN,step⟩
  ·have h:=T.done Y pY wY KY cY i [] s3 τ3 H3 kg I3 (qm w_) wz stop
   rw [AY] at h
   refine av h ?_
   rintro r s4 ⟨hr,Ep⟩
   subst hr
   have J4:=Ep
   rw [<- hY] at J4
   obtain ⟨b1,b2⟩:=jO I f2 xn J4
   exact Eg _ _ _ _ b1 qn b2
  ·have h:=T.item Y pY wY KY cY i [] s3 τ3 H3 kg I3 (qm w_) wz go
   rw [AY] at h
   refine av h ?_
   rintro r s4 ⟨u,hr,Er⟩
   subst hr
   refine av Er ?_
   rintro _ s5 ⟨x,H5,I5,r5,y5,qo,BK⟩
   have BL:=I5.pinned (qm BK) (T.obj _ _ qo)
   have g5:=Ei _ s5 τ3 H5 x u _ BL r5 (step x H5 y5)
   rw [pY,wY,AY,xY,eY] at g5
   refine av g5 ?_
   rintro _ s6 ⟨τ6,H6,I6,q6⟩
   have t6:=Ej _ s6 τ6 H6 _ I6 q6
   rw [pY,wY,AY,xY,eY] at t6
   refine av t6 ?_
   rintro ok s7 ⟨H7,I7,q7⟩
   have again:∀ {τ8:St} {H8:Hp} {s8:Shared},Inv Y ([]++BI fp s5.heap) τ8 H8 s8->N τ8 H8->∃ m,m < n/\∃ i τ' H',Inv Y [] τ' H' s8/\tn i s8.heap/\(∀ b∈fp,H' b=none)/\W i m τ' H':=fun {τ8 H8 s8} I8 n8=>by
    obtain ⟨m',hm,w8⟩:=hN τ8 H8 n8
    refine ⟨m',hm,i+1,τ8,H8,I8.CJ,T.keep _ _ _ qo fun b hb o e=>(I8.pin (b,o) (List.mem_append_right _ (List.mem_append_right _ (cD hb e)))).1,fun b hb=>?_,w8⟩
    obtain ⟨o,e,d⟩:=T.obj _ _ qo b hb
    exact (I8.pin (b,o) (List.mem_append_right _ (List.mem_append_right _ (cD hb e)))).2.1
   cases ok with
   | false=>
    rw [if_neg (by decide)] at q7 ⊢
    exact again I7 q7
   | true=>
    rw [if_pos rfl] at q7 ⊢
    have e7:=Ek _ s7 τ6 H7 _ I7 q7
    rw [pY,wY,AY,xY,eY] at e7
    refine av e7 ?_
    rintro kv s8 ⟨x8,H8,I8,r8,q8⟩
    have v8:=IL _ s8 τ6 H8 _ I8 q8
    rw [pY,wY,AY,xY,eY] at v8
    refine av v8 ?_
    rintro yv s9 ⟨y9,H9,I9,r9,kvs,key,ek,C1,hz,n9⟩
    subst ek
    obtain ⟨z,hd,vs,rel,dd⟩:=yP I9.hok C1
    have BV:vs.length<=sizeLine:=by rw [<- rel.length];exact z
    have fi:(putK kvs key y9).length<=sizeLine:=by have:=cO kvs key y9;omega
    rw [pY,wY] at dd
    refine wpAny_dictSet_pairs (hsz:=BV) (iQ r8) dd fun h' ou hs=>?_
    have IM:∃ q,h'.get? s2.heap.objs.size=some q:=let ⟨q,_,_,hq,_⟩:=ou;⟨q,hq⟩
    rw [<- pY,<- wY] at ou
    have C2:=iM (t':=s9.toks+1) (ob:=.dK (putK kvs key y9)) I9 (by rw [C1];exact True.intro) hs IM (tW fi hd (rel.put key r9) ou)
    exact again C2 n9
 exact codeAny_compStart_dict loop (T.self _ 0 _ _ _ AV loop)
theorem UZ (S:qt X.env.scope X.N sc own idx N') (hc:X.calm=true) (hi:PI X tg iter wi)
  (hg:∀ cl C s3 H0 fp pn,PG (dg X N' sc cl C s3 H0 fp pn) tg g) (ht:∀ cl C s3 H0 fp pn,um (dg X N' sc cl C s3 H0 fp pn) ifs tc) (he:∀ cl C s3 H0 fp pn,PE (dg X N' sc cl C s3 H0 fp pn) kx tk) (hv:∀ cl C s3 H0 fp pn,PE (dg X N' sc cl C s3 H0 fp pn) vx tw)
  (hs:∀ x,foldedSetIterable iter X.env x=pure x:=by intro _;rfl):PE X (.DictComp kx vx [⟨tg,iter,ifs,0⟩] sc pos) (MG own idx wi g tc tk tw):=by
 intro pins s σ H Q I h
 obtain ⟨cl,kh,c1,c2⟩:=S.closure I.ok
 show wpAny _ X.A (comprehension (.DictComp kx vx [⟨tg,iter,ifs,0⟩] sc pos) sc X.env _ newDict false (eval iter X.env)) _ _ s
 refine wpAny_comprehension_free (use:=none) rfl hs kh S.kind S.names (av (hi pins s σ H _ I h) fun v s1 h1=>av h1 fun qj s2 h2=>?_)
 refine qN (Q:=Q) (pins:=pins) (σ:=σ) (RR:=fun acc C=>compPost (model X.prog X.w) X.A X.xe none (EP X pins σ Q) acc C) S c1 c2 hc hg ht he hv h2 ?_
 intro D C H' s' I' q ⟨a1,a2,a3,a4,a5,m,a6⟩
 exact ⟨m,a6,fun h' sb=>⟨.ref D,H',I'.turned (t':=s'.toks) (fun b o hb e=>(sb.2 b hb).trans e) a1 (Ne.symm (Ne.symm a2)) (.inr a3) a4 a5,rfl,q⟩⟩
theorem Gs (S:qt X.env.scope X.N sc own idx N') (hc:X.calm=true) (hi:SI X tg iter wi)
  (hg:∀ cl C s3 H0 fp pn,SG (dg X N' sc cl C s3 H0 fp pn) tg g) (ht:∀ cl C s3 H0 fp pn,SC (dg X N' sc cl C s3 H0 fp pn) ifs tc) (he:∀ cl C s3 H0 fp pn,SE (dg X N' sc cl C s3 H0 fp pn) kx tk) (hv:∀ cl C s3 H0 fp pn,SE (dg X N' sc cl C s3 H0 fp pn) vx tw)
  (hs:∀ x,foldedSetIterable iter X.env x=pure x:=by intro _;rfl):SE X (.DictComp kx vx [⟨tg,iter,ifs,0⟩] sc pos) (MG own idx wi g tc tk tw):=
 ⟨UZ S hc hi.h (fun q r s t u v=>(hg q r s t u v).h) (fun q r s t u v=>(ht q r s t u v).h) (fun q r s t u v=>(he q r s t u v).h) (fun q r s t u v=>(hv q r s t u v).h) hs⟩
end
theorem aa.upd {H:Hp} {a:Addr} (h:H a=none) (o:HO):aa H (upd H a o):=fun b u q=>by rw [aE (aO q h)];exact q
theorem dw {c:Bool} {A B:Prop} (h1:c=true->A) (h2:c=false->B):if c=true then A else B:=by
 cases c with
 | true=>exact xm (h1 rfl)
 | false=>exact ja (h2 rfl)
theorem aU {t u:TS} {D:Ends} (mid:St->Hp->Prop) (h1:∀ nx:St->Hp->Prop,(∀ σ' H',mid σ' H'->nx σ' H')->t {D with nx:=nx} σ H) (h2:∀ σ' H',mid σ' H'->u D σ' H'):zu t u D σ H:=h1 (u D) h2
theorem aL (x:α) (xs:List α):lq (x::xs) 0=some x:=dM (j:=0) rfl
theorem lL (xs:List α) (i:Int) (h0:0<=i) (h1:i < xs.length):∃ c,xs[i.toNat]? =some c/\lq xs i=some c:=by
 have hl:i.toNat < xs.length:=by omega
 refine ⟨xs[i.toNat],by simp [hl],?_⟩
 have:=dM (xs:=xs) (j:=i.toNat) (v:=xs[i.toNat]) (by simp [hl])
 rw [<- this]
 congr 1
 omega
theorem gR (ns:List Str) (i:Nat) (h:i < ns.length):(ns.map V.str).getD i .ai=.str (ns.getD i ""):=by
 simp [Qb,h]
abbrev U0 (w:Addr) (m t:Int):List (Key×V):=[(.inr "mixed",.int m),(.inr "turn",.int t),(.inr "wide",.ref w)]
structure A0 (H:Hp) (p w:Addr) (t:Nat):Prop where
 ex:∃ (m c:Int) (ws:List Int),H p=some (.dK (U0 w m c))/\H w=some (.lst (ws.map V.int))/\(0<=m/\m < 2147483629)/\0<=c/\c<=(t:Int)
def Sm (p w:Addr) (H H':Hp):Prop:=∀ b o,H b=some o->b≠p->b≠w->H' b=some o
theorem Sm.trans {w:Addr} {H1 H2:Hp} (a:Sm p w H H1) (b:Sm p w H1 H2):Sm p w H H2:=fun c o h h1 h2=>b c o (a c o h h1 h2) h1 h2
theorem aa.sm {w:Addr} {H1:Hp} (a:aa H H1):Sm p w H H1:=fun c o h _ _=>a c o h
theorem A0.same {w:Addr} {t:Nat} (h:A0 H p w t) (s:aa H H'):A0 H' p w t:=by
 obtain ⟨m,c,ws,h1,h2,r⟩:=h.ex
 exact ⟨m,c,ws,s _ _ h1,s _ _ h2,r⟩
theorem Sm.free {w:Addr} (s:Sm p w H H') (h:H' l=none) (hp:l≠p) (hw:l≠w):H l=none:=by
 cases q:H l with
 | none=>rfl
 | some o=>rw [s l o q hp hw] at h;cases h
theorem A0.upd {H:Hp} {p w D:Addr} {t:Nat} {o:HO} (h:A0 H p w t) (h1:D≠p) (h2:D≠w):A0 (upd H D o) p w t:=by
 obtain ⟨m,c,ws,e1,e2,r⟩:=h.ex
 exact ⟨m,c,ws,by rw [aE h1.symm];exact e1,by rw [aE h2.symm];exact e2,r⟩
theorem Sm.upd {p w D:Addr} {H H':Hp} {o:HO} (s:Sm p w H H') (h:H D=none):Sm p w H (upd H' D o):=fun b u hb h1 h2=>by rw [aE (aO hb h)];exact s b u hb h1 h2
def Eu (p w:Addr) (H:Hp):V->Prop
 | .ai=>True
 | .bl _=>True
 | .int _=>True
 | .str z=>z.length<=100000
 | .ref a=>a≠p/\a≠w/\((∃ xs,H a=some (.lst xs))\/(∃ xs,H a=some (.tup xs))\/∃ kvs,H a=some (.dK kvs))
 | _=>False
theorem Eu.sm {w:Addr} {x:V} (h:Eu p w H x) (s:Sm p w H H'):Eu p w H' x:=by
 cases x with
 | ref a=>
  obtain ⟨h1,h2,h3⟩:=h
  refine ⟨h1,h2,?_⟩
  rcases h3 with ⟨xs,e⟩ | ⟨xs,e⟩ | ⟨xs,e⟩
  ·exact .inl ⟨xs,s _ _ e h1 h2⟩
  ·exact .inr (.inl ⟨xs,s _ _ e h1 h2⟩)
  ·exact .inr (.inr ⟨xs,s _ _ e h1 h2⟩)
 | _=>exact h
structure Ah (p w:Addr) (t:Nat) (H:Hp) (xs:List V):Prop where
 MH:A0 H p w t
 all:∀ x∈xs,Eu p w H x
section
variable {w:Addr} {t u:Nat} {xs ys:List V}
theorem Ah.sm (g:Ah p w t H xs) (hp:A0 H' p w u) (s:Sm p w H H'):Ah p w u H' xs:=⟨hp,fun x hx=>(g.all x hx).sm s⟩
theorem Ah.upd {q:Addr} {o:HO} (g:Ah p w t H xs) (h:H q=none):Ah p w t (upd H q o) xs:=g.sm (g.MH.same (aa.upd h o)) (aa.upd h o).sm
theorem Ah.add {x:V} (g:Ah p w t H xs) (h:Eu p w H x):Ah p w t H (x::xs):=⟨g.MH,fun y hy=>by
 rcases Qp.mp hy with e | hy
 ·rw [e];exact h
 ·exact g.all y hy⟩
end
section
variable {p pos:Pos} {es:List Expr} {t:TA}
theorem bV {r:List V->Hp->VK->Prop} (hc:rn X (.type T) r) (hg:Gl X x) (hm:X.mg x=none) (hv:bootBuiltins x=some (.type T)) (ha:SA X (e::es) t) (hn:x≠"__name__":=by decide) (mw:(x==("__debug__":Str))=false:=by decide)
  (he:starEach (e::es) X.env=(false,eval e X.env)::starEach es X.env:=by rfl) (gb:(backTo pos (starEach es X.env)).any (·.1)=false:=by rfl):SE X (.Call (.Name x p) (e::es) [] pos) (BO r t):=⟨vW hc hg hm hv ha.h hn mw he gb⟩
def MI (K:Q0):List V->Hp->VK->Prop:=fun xs H Q=>∃ p ys,xs=[.ref p]/\((af K H p ys/\∀ l,H l=none->Q (.ref l) (upd H l (.tup ys)))\/(ae K H p ys/\Q (.ref p) H))
def IP (K:Q0):List V->Hp->VK->Prop:=fun xs H Q=>∃ p ys,xs=[.ref p]/\(af K H p ys\/ae K H p ys)/\∀ l,H l=none->Q (.ref l) (upd H l (.lst ys))
theorem d5 (K:Q0) (h:X.K=K:=by rfl):rn X (.type "tuple") (MI K):=by subst h;exact mG
theorem mS (K:Q0) (h:X.K=K:=by rfl):rn X (.type "list") (IP K):=by subst h;exact o9
end
mutual
inductive vp (H:Hp):V->PyData->Prop
 | ai:vp H .ai .none
 | bl (b:Bool):vp H (.bl b) (.bool b)
 | int (i:Int):vp H (.int i) (.int i)
 | str (z:Str):vp H (.str z) (.str z)
 | tup {a:Addr} {xs:List V} {ds:List PyData}:H a=some (.tup xs)->vq H xs ds->vp H (.ref a) (.tuple ds)
 | lst {a:Addr} {xs:List V} {ds:List PyData}:H a=some (.lst xs)->vq H xs ds->vp H (.ref a) (.list ds)
inductive vq (H:Hp):List V->List PyData->Prop
 | nil:vq H [] []
 | cons {x:V} {d:PyData} {xs:List V} {ds:List PyData}:vp H x d->vq H xs ds->vq H (x::xs) (d::ds)
end
mutual
theorem vp.same {H H':Hp} (s:aa H H'):∀ {x:V} {d:PyData},vp H x d->vp H' x d
 | _,_,.ai=>.ai
 | _,_,.bl b=>.bl b
 | _,_,.int i=>.int i
 | _,_,.str z=>.str z
 | _,_,.tup e r=>.tup (s _ _ e) (vq.same s r)
 | _,_,.lst e r=>.lst (s _ _ e) (vq.same s r)
theorem vq.same {H H':Hp} (s:aa H H'):∀ {xs:List V} {ds:List PyData},vq H xs ds->vq H' xs ds
 | _,_,.nil=>.nil
 | _,_,.cons a r=>.cons (vp.same s a) (vq.same s r)
end
mutual
theorem U1 {P:Program} {w:World} {H:Hp} {h:Heap} (ok:fh P w H h):∀ {x:V} {d:PyData} {u:Value},vp H x d->RelV x u->∃ as,Reads h u d as
 | _,_,_,.ai,r=>by cases (show _=Value.none from r);exact ⟨[],.none⟩
 | _,_,_,.bl b,r=>by cases (show _=Value.bool b from r);exact ⟨[],.bool b⟩
 | _,_,_,.int i,r=>by obtain ⟨t,rfl⟩:=(show ∃ t,_=Value.int i t from r);exact ⟨[],.int i t⟩
 | _,_,_,.str z,r=>by obtain ⟨t,rfl⟩:=(show ∃ t,_=Value.str z t from r);exact ⟨[],.str z t⟩
 | _,_,_,.tup (a:=a) (xs:=xs) e l,r=>by
  cases (show _=Value.ref a from r)
  obtain ⟨_,its,rv,o,ho,hc,n,hd⟩:=(show bx P w H h a (.tup xs) from ok a _ e)
  obtain ⟨as,ra⟩:=gM ok l rv
  exact ⟨as,.tuple ho hc hd (by simpa using ra)⟩
 | _,_,_,.lst (a:=a) (xs:=xs) e l,r=>by
  cases (show _=Value.ref a from r)
  obtain ⟨_,its,n,rv,ho⟩:=(show bx P w H h a (.lst xs) from ok a _ e)
  obtain ⟨as,ra⟩:=gM ok l rv
  exact ⟨a::as,.list ho rfl rfl (by simpa using ra)⟩
theorem gM {P:Program} {w:World} {H:Hp} {h:Heap} (ok:fh P w H h):∀ {xs:List V} {ds:List PyData} {us:List Value},vq H xs ds->be xs us->∃ as,ReadsAll h us ds as
 | _,_,_,.nil,.nil=>⟨[],.nil⟩
 | _,_,_,.cons a l,.cons r rs=>by
  obtain ⟨as,ra⟩:=U1 ok a r
  obtain ⟨bs,rb⟩:=gM ok l rs
  exact ⟨as++bs,.cons ra rb⟩
end
def Gu (n:Bool):R2:=fun x y H Q=>match x,y with
 | .bl a,.bl b=>Q (.bl (n^^(a==b))) H
 | x,.ai=>Q (.bl (n^^decide (x=.ai))) H
 | _,_=>False
theorem tZ:c_ X (compareOp .Is) (Gu false):=by
 intro pins s σ H x y v u Q I rx ry h
 cases y with
 | ai=>exact Sn pins s σ H _ _ v u Q I rx ry ⟨rfl,by cases x<;>simpa [Gu] using h⟩
 | bl b=>
  cases x with
  | bl a=>
   cases rx;cases ry
   exact is_bool (aX I h (by cases a<;>cases b<;>rfl))
  | _=>exact (show False from h).elim
 | _=>cases x<;>exact (show False from h).elim
theorem vB:c_ X (compareOp .IsNot) (Gu true):=by
 intro pins s σ H x y v u Q I rx ry h
 cases y with
 | ai=>exact So pins s σ H _ _ v u Q I rx ry ⟨rfl,by cases x<;>simpa [Gu] using h⟩
 | bl b=>
  cases x with
  | bl a=>
   cases rx;cases ry
   exact isnot_bool (aX I h (by cases a<;>cases b<;>rfl))
  | _=>exact (show False from h).elim
 | _=>cases x<;>exact (show False from h).elim
abbrev MJ:Str:="abcdefghijklmnopqrstuvwxyz"
abbrev U3:List Str:=["all","none","way","box","pick"]
def U4 (c:Nat):Bool:= !(Builtin.Str.occurrences MJ ⟨#[c]⟩ 0 MJ.length 1).isEmpty
def isName (z:Str):Bool:=decide (1<=z.length)&&decide (z.length<=8)&& !(U3.any fun y=>y==z)&&z.cps.toList.all U4
theorem cQ {i j:Str}:(decide (V.str i=V.str j))=(i==j):=by
 by_cases h:i=j
 ·subst h;simp
 ·rw [Qw (fun e=>h (V.str.inj e))]
  exact (beq_eq_false_iff_ne.mpr h).symm
theorem aa.put (s:aa H0 H') (h:H0 p=none):aa H0 (L2.upd H' p o):=fun b u q=>by rw [aE (aO q h)];exact s b u q
theorem aM {u:TS} {D:Ends} (h:te σ H fun x H1=>u D (σ.set i (some x)) H1):zu (zz te (ip i)) u D σ H:=h
theorem jH {v:V} {u:TS} {D:Ends} (h:u D (σ.set i (some v)) H):zu (zz (tC v) (ip i)) u D σ H:=h
theorem f9 {t u:TS} {D:Ends} {rt:VK} {bk ct:St->Hp->Prop} (h:zu t u D σ H):F6 {nx:=zu t u D,rt:=rt,bk:=bk,ct:=ct} σ H:=h
theorem Inv.IQ {T:Addr} (I:Inv X pins σ H s) (hf:∀ b∈ch,qi X pins H b) (k:∀ b o,b ∉ ch->s.heap.get? b=some o->h'.get? b=some o)
  (hT:s.heap.objs.size<=T) (new:bx X.prog X.w (upd H T o) h' T o):Inv X pins σ (upd H T o) {s with heap:=h',toks:=t'}:=by
 have Ew:H T=none:=I.hok.fresh hT
 have nT:∀ b ob,s.heap.get? b=some ob->b≠T:=fun b ob e=>Nat.ne_of_lt (Nat.lt_of_lt_of_le (Qz e) hT)
 have wq:∀ b u,H b=some u->b ∉ ch:=fun b u e hb=>by rw [(hf b hb).1] at e;cases e
 refine I.step (g':=s.gens) (d':=s.drawn) (ch:=ch) (fun b hb=>?_) (fun b o _ _ hc e _=>k b o hc e) (fun b o _ _ hc e _=>⟨o.slots,k b o hc e⟩) (fun b o hc e n=>by rw [aE (nT b o e)];exact n)
  (fun b o hc e=>⟨o,k b o hc e⟩) (fun b xs e=>by rw [aE (aO e Ew)];exact e) (fun b o u e=>by rw [aE (aO e Ew)];exact e) (fun b ps e=>⟨#[],by rw [aE (aO e Ew),e];simp⟩) (fun m hm=>?_) (fun b u e=>?_) I.bare
 ·obtain ⟨f0,f1,f2,f3,f4,f5⟩:=hf b hb
  exact ⟨f3,f1,f4,f5⟩
 ·obtain ⟨o,es,ep,ho,r⟩:=hm
  exact ⟨o,es,ep,k _ o (fun z=>(hf _ z).2.1 rfl) ho,r⟩
 ·by_cases hb:b=T
  ·subst hb
   rw [aA] at e;cases e
   exact new
  ·rw [aE hb] at e
   refine (I.hok b u e).stay (fun c v hc q=>k c v ?_ q) (fun c q=>by rw [aE (aO q Ew)];exact q) fun c xs q=>q.upd fun u' hu=>aO hu Ew
   rcases hc with z | z
   ·rw [z];exact wq b u e
   ·exact wq c _ z
theorem Inv.U5 (I:Inv X pins σ H s) (hf:∀ b∈ch,qi X pins H b) (k:∀ b o,b ∉ ch->s.heap.get? b=some o->h'.get? b=some o):Inv X pins σ H {s with heap:=h',toks:=t'}:=by
 have wq:∀ b u,H b=some u->b ∉ ch:=fun b u e hb=>by rw [(hf b hb).1] at e;cases e
 refine I.step (g':=s.gens) (d':=s.drawn) (ch:=ch) (fun b hb=>?_) (fun b o _ _ hc e _=>k b o hc e) (fun b o _ _ hc e _=>⟨o.slots,k b o hc e⟩) (fun b o hc e n=>n)
  (fun b o hc e=>⟨o,k b o hc e⟩) (fun b xs e=>e) (fun b o u e=>e) (fun b ps e=>⟨#[],by rw [e];simp⟩) (fun m hm=>?_) (fun b u e=>?_) I.bare
 ·obtain ⟨f0,f1,f2,f3,f4,f5⟩:=hf b hb
  exact ⟨f3,f1,f4,f5⟩
 ·obtain ⟨o,es,ep,ho,r⟩:=hm
  exact ⟨o,es,ep,k _ o (fun z=>(hf _ z).2.1 rfl) ho,r⟩
 ·refine (I.hok b u e).stay (fun c v hc q=>k c v ?_ q) (fun c q=>q) fun c xs q=>q
  rcases hc with z | z
  ·rw [z];exact wq b u e
  ·exact wq c _ z
abbrev Ex (v1 v2:V):Hp->V->Hp->Prop:=fun H x H'=>∃ T,x=.ref T/\H T=none/\H'=upd H T (.tup [v1,v2])
theorem oS {T:Addr} {v1 v2:V} {u1 u2:Value} (r1:RelV v1 u1) (r2:RelV v2 u2) (e:h.get? T=some {cls:=.type "tuple",data:=.seq #[u1,u2]}):bx P w H h T (.tup [v1,v2]):=
 ⟨⟨show 2<=sizeLine by decide,fun o q=>by rw [e] at q;cases q;rfl⟩,[u1,u2],.cons r1 (.cons r2 .nil),_,e,rfl,_,rfl⟩
theorem qF {l m:Nat} (h1:l < n) (h2:m < n):ZipApart (n+4) (n+2) (n+3) n (n+1) l m:=by
 constructor<;>(show (_:Nat)≠_)<;>omega
def IR (K : Q0) (a b : Addr) : It :=
  ⟨fun i H => ∃ xs ys x y, af K H a xs /\ af K H b ys /\ xs[i]? = some x /\ ys[i]? = some y, fun i H x H' => ∃ v1 v2, (∀ xs, af K H a xs -> xs[i]? = some v1) /\ (∀ ys, af K H b ys -> ys[i]? = some v2) /\ Ex v1 v2 H x H',
   fun i H => ∃ xs ys, af K H a xs /\ af K H b ys /\ (xs.length <= i \/ ys.length <= i)⟩
abbrev U6 (z TI TO i1 i2 a b:Addr) (i:Nat) (h:Heap):Prop:=IsZip h z TI TO .none/\IsPair h TI (.ref i1) (.ref i2)/\(∃ u v,IsPair h TO u v)/\h.IsListIter i1 a i/\h.IsListIter i2 b i
theorem xW {K:Q0} {k:Nat} {pos:Pos} (z TI TO i1 i2 a b:Addr) (D:ZipApart z TI TO i1 i2 a b):Turn P w K (.Tuple Bw k pos) (IR K a b) [z,TI,TO,i1,i2] z (U6 z TI TO i1 i2 a b) where
 mem:=by simp
 obj:=fun i h st c hc=>by
  obtain ⟨hz,xr,⟨u,v,zb⟩,⟨o1,e1,c1,d1⟩,o2,e2,c2,d2⟩:=st
  simp only [Qp,QA,or_false] at hc
  rcases hc with rfl | rfl | rfl | rfl | rfl
  ·exact ⟨_,hz,fun v z=>by have z':Data.fields _=Data.cell v:=z;cases z'⟩
  ·exact ⟨_,xr,fun v z=>by have z':Data.seq _ _=Data.cell v:=z;cases z'⟩
  ·exact ⟨_,zb,fun v z=>by have z':Data.seq _ _=Data.cell v:=z;cases z'⟩
  ·exact ⟨_,e1,fun v z=>by rw [d1] at z;cases z⟩
  ·exact ⟨_,e2,fun v z=>by rw [d2] at z;cases z⟩
 keep:=fun i h h' st k=>by
  obtain ⟨hz,xr,⟨u,v,zb⟩,h1,h2⟩:=st
  exact ⟨k z (by simp) _ hz,k TI (by simp) _ xr,⟨u,v,k TO (by simp) _ zb⟩,h1.at fun o x=>k i1 (by simp) o x,h2.at fun o x=>k i2 (by simp) o x⟩
 item:=by
  intro X hP hw hK hc i pins s σ H E I hf st hg
  subst hP hw hK
  obtain ⟨hz,xr,⟨u0,v0,zb⟩,h1,h2⟩:=st
  obtain ⟨xs,ys,x,y,sd,se,hx,hy⟩:=hg
  obtain ⟨its,rv,p,BV⟩:=I.list sd
  obtain ⟨its2,BX,p2,Gv⟩:=I.list se
  obtain ⟨u,hu,ru⟩:=rv.get hx
  obtain ⟨u2,U7,U8⟩:=BX.get hy
  refine wpAny_pyNext_zip_item D hz xr zb h1 h2 p.isList p2.isList (x:=u) (y:=u2) (by simpa using hu) (by simpa using U7) fun h' a1 a2 a3 a4 a5 a6 hk=>?_
  have I1:Inv X pins σ (upd H s.heap.objs.size (.tup [x,y])) {s with heap:=h',toks:=s.toks}:=I.IQ (t':=s.toks) hf (fun b o hb e=>hk b o (fun z=>hb (by simp [z])) (fun z=>hb (by simp [z])) (fun z=>hb (by simp [z])) (fun z=>hb (by simp [z])) e) (Qy _) (oS ru U8 a5)
  refine ⟨_,rfl,wpAny_letOwnedTupleGo_zip (s:={s with heap:=h'}) a1 fun C3 U9 sb=>?_⟩
  have ao:∀ b∈[z,TI,TO,i1,i2],b≠s.heap.objs.size:=fun c hc z'=>by
   simp only [Qp,QA,or_false] at hc
   obtain ⟨o1,e1,_⟩:=h1
   obtain ⟨o2,e2,_⟩:=h2
   rcases hc with rfl | rfl | rfl | rfl | rfl
   ·exact Nat.ne_of_lt (Qz hz) z'
   ·exact Nat.ne_of_lt (Qz xr) z'
   ·exact Nat.ne_of_lt (Qz zb) z'
   ·exact Nat.ne_of_lt (Qz e1) z'
   ·exact Nat.ne_of_lt (Qz e2) z'
  have MK:∀ b∈[z,TI,TO,i1,i2],qi X pins (upd H s.heap.objs.size (.tup [x,y])) b:=fun b hb=>by
   obtain ⟨f0,f⟩:=hf b hb
   exact ⟨by rw [aE (ao b hb)];exact f0,f⟩
  obtain ⟨f0,f1,f2,f3,f4,f5⟩:=MK z (by simp)
  refine ⟨.ref s.heap.objs.size,_,I1.turned (t':=s.toks) (fun b o hb q=>(sb.2 b hb).trans q) f0 f1 f3 f4 f5,rfl,⟨x,y,fun ys hy=>by rw [I.Ij hy sd];exact hx,fun ys IS=>by rw [I.Ij IS se];exact hy,_,rfl,I.hok.fresh (Qy _),rfl⟩,?_,fun b hb=>(MK b hb).1⟩
  refine ⟨U9,(sb.2 _ D.TIz).trans (hk _ _ D.TIz D.TITO D.TIi1 D.TIi2 xr),⟨_,_,(sb.2 _ D.TOz).trans a2⟩,a3.at fun o q=>(sb.2 _ D.i1z).trans q,a4.at fun o q=>(sb.2 _ D.i2z).trans q⟩
 done:=by
  intro X hP hw hK hc i pins s σ H E I hf st hg
  subst hP hw hK
  obtain ⟨hz,xr,⟨u0,v0,zb⟩,h1,h2⟩:=st
  obtain ⟨xs,ys,sd,se,hx⟩:=hg
  obtain ⟨its,rv,p,BV⟩:=I.list sd
  obtain ⟨its2,BX,p2,Gv⟩:=I.list se
  have hl:=rv.length
  have ue:=BX.length
  refine wpAny_pyNext_zip_end (I.ok.hd hc) D hz xr zb h1 h2 p.isList p2.isList ?_ fun h' hk=>⟨rfl,I.U5 (t':=s.toks) hf fun b o hb q=>hk b o (fun z=>hb (by simp [z])) (fun z=>hb (by simp [z])) (fun z=>hb (by simp [z])) (fun z=>hb (by simp [z])) q⟩
  rcases hx with hx | hx
  ·exact .inl (by simp;omega)
  ·exact .inr (by simp;omega)
 self:=fun _ _ _ _ _ st h=>wpAny_pyIter_zip st.1 h
section
variable {k:Nat} {Aa p pos:Pos} {a b:Expr} {ta:TA}
def ML (K:Q0) (ta:TA):TI:=fun σ H R=>ta σ H fun vs H1=>∃ l m xs ys,vs=[.ref l,.ref m]/\af K H1 l xs/\af K H1 m ys/\R (IR K l m) H1
theorem U_ (hg:Gl X "zip") (hm:X.mg "zip"=none) (ha:PA X [a,b] ta) (hs:starEach [a,b] X.env=[(false,eval a X.env),(false,eval b X.env)]:=by rfl) (xf:starEach [b] X.env=[(false,eval b X.env)]:=by rfl):
  PI X (.Tuple Bw k Aa) (.Call (.Name "zip" p) [a,b] [] pos) (ML X.K ta):=by
 intro pins s σ H R I h
 refine Call_ (lQ I hg hm boot_zip (PyProof.Rows.callWith_type1 (av (ha pos pins s σ H _ I h) fun us s1 ⟨vs,H1,I1,r1,q1⟩=>?_) (by rw [hs,xf]) (by rw [xf];rfl)))
 obtain ⟨l,m,xs,ys,e,sd,se,q⟩:=q1
 subst e
 obtain ⟨u1,u2,rfl,Gw,U'⟩:=r1.two
 cases Gw
 cases U'
 obtain ⟨its,rv,pl,hz⟩:=I1.list sd
 obtain ⟨its2,BX,MM,Gv⟩:=I1.list se
 have l1:l < s1.heap.objs.size:=by obtain ⟨_,e,_⟩:=pl.isList;exact Qz e
 have l2:m < s1.heap.objs.size:=by obtain ⟨_,e,_⟩:=MM.isList;exact Qz e
 refine call_zip_2 pl.isList MM.isList fun h' hz xr zb h1 h2 hsz hk=>wpAny_pyIter_zip hz ?_
 have I2:Inv X pins σ H1 {s1 with heap:=h'}:=I1.kept (t':=s1.toks) hk
 have ne:∀ {x y:Nat},x < y->x≠y:=fun h=>Nat.ne_of_lt h
 have ne':∀ {x y:Nat},y < x->x≠y:=fun h=>Nat.ne_of_gt h
 refine ⟨s1.heap.objs.size+4,[s1.heap.objs.size+4,s1.heap.objs.size+2,s1.heap.objs.size+3,s1.heap.objs.size,s1.heap.objs.size+1],_,_,H1,rfl,I2,xW _ _ _ _ _ l m ?_,⟨hz,xr,⟨_,_,zb⟩,h1,h2⟩,fun b hb=>?_,q⟩
 ·exact qF l1 l2
 ·simp only [Qp,QA,or_false] at hb
  rcases hb with rfl | rfl | rfl | rfl | rfl<;>exact I1.z_ (by simp) (I1.hok.fresh (by simp))
theorem nU (K:Q0) (hg:Gl X "zip") (hm:X.mg "zip"=none) (ha:SA X [a,b] ta) (h:X.K=K:=by rfl) (hs:starEach [a,b] X.env=[(false,eval a X.env),(false,eval b X.env)]:=by rfl) (xf:starEach [b] X.env=[(false,eval b X.env)]:=by rfl):
  SI X (.Tuple Bw k Aa) (.Call (.Name "zip" p) [a,b] [] pos) (ML K ta):=by subst h;exact ⟨U_ hg hm ha.h hs xf⟩
end
def Ey (J:It) (ok:Hp->Prop) (n:Nat) (f1 f2:Nat->V):Prop:=
 ∀ H,ok H->(∀ i,i < n->J.go i H/\∀ x H',J.lg i H x H'->Ex (f1 i) (f2 i) H x H')/\J.stop n H
theorem oO {K:Q0} (xs ys:List V):Ey (IR K a b) (fun H=>af K H a xs/\af K H b ys) (min xs.length ys.length) (fun i=>xs.getD i .ai) (fun i=>ys.getD i .ai):=fun H ok=>
 ⟨fun i hi=>⟨⟨xs,ys,xs[i]'(by omega),ys[i]'(by omega),ok.1,ok.2,by simp,by simp⟩,fun x H' ⟨v1,v2,Va,Vb,y⟩=>by
  have e1:xs.getD i V.ai=v1:=by rw [Qb,Va xs ok.1];rfl
  have e2:ys.getD i V.ai=v2:=by rw [Qb,Vb ys ok.2];rfl
  show Ex (xs.getD i .ai) (ys.getD i .ai) H x H'
  rw [e1,e2];exact y⟩,⟨xs,ys,ok.1,ok.2,by omega⟩⟩
abbrev g2 (K:Q0) (a b:Nat):TG:=zw K 2 (qg (ip a) (qg (ip b) BF))
theorem dS {K:Q0} {a b:Nat} {T:Addr} {v1 v2:V} {Q:St->Hp->Prop} (h:H T=some (.tup [v1,v2])) (q:Q ((σ.set a (some v1)).set b (some v2)) H):g2 K a b (.ref T) σ H Q:=
 ⟨T,_,rfl,ae.of h,rfl,_,_,rfl,_,_,rfl,rfl,q⟩
theorem qT {K:Q0} {J:It} {ok:Hp->Prop} {f1 f2:Nat->V} {a b:Nat} {tb:TS} {D:Ends} (hJ:Ey J ok n f1 f2) (Pv:Nat->St->Hp->Prop) (h0:Pv 0 σ H) (hok:∀ i τ H,i<=n->Pv i τ H->ok H)
  (hs:∀ i σ H T,i < n->Pv i σ H->H T=none->tb {D with nx:=Pv (i+1),ct:=Pv (i+1),bk:=D.nx} ((σ.set a (some (f1 i))).set b (some (f2 i))) (upd H T (.tup [f1 i,f2 i]))) (hd:∀ σ H,Pv n σ H->D.nx σ H):
  ∃ W:Nat->Nat->St->Hp->Prop,(∃ m,W 0 m σ H)/\∀ i m σ H,W i m σ H->
   (J.stop i H/\D.nx σ H)\/(J.go i H/\∃ N:St->Hp->Prop,(∀ σ' H',N σ' H'->∃ m',m' < m/\W (i+1) m' σ' H')/\∀ x H',J.lg i H x H'->g2 K a b x σ H' fun σ2 H2=>tb {D with nx:=N,ct:=N,bk:=D.nx} σ2 H2):=by
 refine ⟨fun i m σ H=>m=n - i/\i<=n/\Pv i σ H,⟨n,by simp,Nat.zero_le _,h0⟩,?_⟩
 rintro i m σ H ⟨rfl,hi,p⟩
 obtain ⟨k1,k2⟩:=hJ H (hok i σ H hi p)
 by_cases ao:i < n
 ·refine .inr ⟨(k1 i ao).1,Pv (i+1),fun σ' H' p'=>⟨n - (i+1),by omega,rfl,ao,p'⟩,fun x H' y=>?_⟩
  obtain ⟨T,rfl,hT,rfl⟩:=(k1 i ao).2 x H' y
  exact dS aA (hs i σ _ T ao p hT)
 ·have e:i=n:=by omega
  subst e
  exact .inl ⟨k2,hd σ H p⟩
end L2
namespace PySem
theorem lV {o:Obj} {xs:Array Value} {k:Nat} {Q:Option Value->Shared->Prop}
  (hx:s.heap.get? a=some o) (hc:o.cls=.type "tuple") (MN:o.data=.seq xs k) (hd:o.dict=none) (hA:A.handled=none)
  (h:∀ h' tk,(∀ b ob,s.heap.get? b=some ob->h'.get? b=some ob)->Q none {s with heap:=h',toks:=tk}):
  wpAny (model prog w) A (getAttr? (.ref a) "keys") Q E s:=by
 obtain ⟨c,dct,dat,sl⟩:=o
 simp only at hc MN hd
 subst hc MN hd
 obtain ⟨hp,g,d,tk,os⟩:=s
 have hT:∀ MO,(⟨hp,g,d,MO,os⟩:Shared).TypeIs (.ref a) "tuple":=fun _=>⟨_,hx,rfl⟩
 have Vc:typeLookup (.type "tuple") "keys"=pure none:=am_miss_of_fast (by kernel_rfl)
 have f1:=sub_AttributeError
 have f3:=F.slot_tuple_getattribute.lookup
 have f4:=F.slot_tuple_getattribute.bind (.ref a)
 have f5:=am_tuple_getattr_none
 unfold getAttr? getAttrBy? getAttrBy
 repeat (any_goals (first | assumption | exact hT _ | ((with_reducible show wpAny _ _ (call (Value.builtin "tuple.__getattribute__") _ _) _ _ _);refine call_meets F.slot_tuple_getattribute (hT _) am_entry_tuple_getattribute (F.args_tuple_getattribute_2 _ _) (meets_getattribute_miss_tuple a xs k sl _ _ Vc (by decide) (by decide)) ⟨hx,hA,fun h' MO e hx'=>?_⟩) | wp_step))
 obtain ⟨t',u',he⟩:=hx'.there
 show wpAny _ _ (getattributeRaised _ _ _ _ _ _ _) _ _ _
 unfold getattributeRaised
 repeat (any_goals (first | assumption | wp_step))
 exact h _ _ hx'.keeps
end PySem
namespace PySem.F
theorem MP:entryFor table "dict.update.loop"=some Builtin.«dict.update.loop»:=entryFor_of_tree (by kernel_rfl)
theorem Gx:plainId "dict.update.loop"=true:=by decide+kernel
end PySem.F
namespace L2
open PySem PySem.Spec PyProof.Rows
def iy (H:Hp) (ys:List V) (rs:List (Key×V)):Prop:=ys.length=rs.length/\∀ i (h:i < rs.length),∃ b,ys[i]? =some (.ref b)/\H b=some (.tup [kV rs[i].1,rs[i].2])
def dictOf (rs:List (Key×V)):List (Key×V):=rs.foldl (fun kvs r=>putK kvs r.1 r.2) []
theorem pJ (rs:List (Key×V)):∀ kvs:List (Key×V),(rs.foldl (fun kvs r=>putK kvs r.1 r.2) kvs).length<=kvs.length+rs.length:=by
 induction rs with
 | nil=>intro kvs;exact Qy _
 | cons r rs ih=>
  intro kvs
  have h1:=ih (putK kvs r.1 r.2)
  have h2:=cO kvs r.1 r.2
  rw [List.foldl_cons,List.length_cons]
  omega
theorem iB (rs:List (Key×V)):(dictOf rs).length<=rs.length:=by have:=pJ rs [];simpa [dictOf] using this
theorem jU (rs:List (Key×V)) (i:Nat) (h:i < rs.length):dictOf (rs.take (i+1))=putK (dictOf (rs.take i)) rs[i].1 rs[i].2:=by
 unfold dictOf
 rw [Qs,Qa h,Option.toList_some,List.foldl_append];rfl
theorem uA {d:Addr} {ys:List V} {rs:List (Key×V)} (hA:A.handled=none) (hH:H d=none) (fi:rs.length<=sizeLine) (hp:iy H ys rs) (ha:H a=some (.tup ys)) (hit:it≠d)
  (hR:∀ s,Inv X pins σ (upd H d (.dK (dictOf rs))) s->R (.ok (.ret .none)) s):
  ∀ (k i:Nat) (s:Shared),rs.length - i=k->i<=rs.length->Inv X pins σ (upd H d (.dK (dictOf (rs.take i)))) s->s.heap.IsTupleIter it a i->qi X pins (upd H d (.dK (dictOf (rs.take i)))) it->
   codeAny (model X.prog X.w) A (.builtin "dict.update.loop" ⟨[.ref d,.ref it,rawInt i,.none],[]⟩) R s:=by
 have Ez:a≠d:=aO ha hH
 intro k
 induction k with
 | zero=>
  intro i s hk hi I st f
  have jb:i=rs.length:=by omega
  subst jb
  refine codeAny_builtin F.MP ?_
  rw [Around.under_plainId F.Gx _]
  show wpAny _ A.in1 (pyNext (.ref it) >>=_) _ _ s
  obtain ⟨its,rv,p,hz⟩:=I.tuple (ae.of (by rw [aE Ez];exact ha))
  have hl:=rv.length
  have ue:=hp.1
  obtain ⟨f0,f1,f2,f3,f4,f5⟩:=f
  refine QT (wpAny_pyNext_tuple_end (by simp [hA]) st (show s.heap.IsTuple a its.toArray from p) (by simp;omega) fun h' eb=>?_)
  have I1:=I.turned (t':=s.toks) (h':=h') (fun b o hb e=>eb b o hb e) f0 f1 f3 f4 f5
  rw [Qo] at I1
  show wpAny _ _ (Builtin.Dict.addKeywords d [] >>=fun _=>ret .none) _ _ _
  exact QT (QU (QU (hR _ I1)))
 | succ k ih=>
  intro i s hk hi I st f
  have ao:i < rs.length:=by omega
  refine codeAny_builtin F.MP ?_
  rw [Around.under_plainId F.Gx _]
  show wpAny _ A.in1 (pyNext (.ref it) >>=_) _ _ s
  obtain ⟨its,rv,p,hz⟩:=I.tuple (ae.of (by rw [aE Ez];exact ha))
  obtain ⟨b,A1,EA⟩:=hp.2 i ao
  obtain ⟨u,hu,ru⟩:=rv.get A1
  cases ru
  obtain ⟨f0,f1,f2,f3,f4,f5⟩:=id f
  refine QT (wpAny_pyNext_tuple_item st (show s.heap.IsTuple a its.toArray from p) (x:=.ref b) (by simpa using hu) fun h' st' sb=>?_)
  have I1:Inv X pins σ (upd H d (.dK (dictOf (rs.take i)))) {s with heap:=h'}:=I.turned (t':=s.toks) (fun b o hb e=>(sb.2 b hb).trans e) f0 f1 f3 f4 f5
  have Vd:b≠d:=aO EA hH
  obtain ⟨its2,BX,⟨ob,ho,hc,n,hd2⟩,Gv⟩:=I1.tuple (ae.of (a:=b) (by rw [aE Vd];exact EA))
  obtain ⟨u1,u2,rfl,r1,r2⟩:=BX.two
  show wpAny _ A.in1 (holding [Value.ref b] _ >>=_) _ _ _
  refine QT (wpAny_holding (QT (wpAny_tryCatch ?_)))
  unfold Builtin.Dict.pairItems
  refine QT (wpAny_typeOf (T:="tuple") ⟨ob,ho,hc⟩ ?_)
  rw [if_pos (by decide)]
  refine QT (wpAny_seqItems ho hd2 (QU ?_))
  show wpAny _ A.in1 (holding [u1,u2] (dictSet d u1 u2)) _ _ _
  refine wpAny_holding ?_
  obtain ⟨z,hd,vs,rel,dd⟩:=yP I1.hok (aA:upd H d (.dK (dictOf (rs.take i))) d=_)
  have jk:=iB (rs.take i)
  rw [List.length_take] at jk
  have kj:(dictOf (rs.take i)).length < sizeLine:=by omega
  have BV:vs.length<=sizeLine:=by rw [<- rel.length];exact z
  have Ve:(putK (dictOf (rs.take i)) rs[i].1 rs[i].2).length<=sizeLine:=by have:=cO (dictOf (rs.take i)) rs[i].1 rs[i].2;omega
  refine wpAny_dictSet_pairs (hsz:=BV) (iQ r1) dd fun h2 ou hs=>?_
  have IM:∃ q,h2.get? d=some q:=let ⟨q,_,_,hq,_⟩:=ou;⟨q,hq⟩
  have C2:=iM (t':=s.toks+1) (ob:=.dK (putK (dictOf (rs.take i)) rs[i].1 rs[i].2)) I1 (by rw [aA];exact True.intro) hs IM (tW Ve hd (rel.put _ r2) ou)
  rw [kO,<- jU rs i ao] at C2
  refine QU ⟨plainId_quiet F.Gx _,?_⟩
  exact ih (i+1) _ (by omega) ao C2 (st'.at fun o q=>(hs.2 it hit).trans q) ⟨by rw [aE hit] at f0 ⊢;exact f0,f1,f2,f3,f4,f5⟩
def Vf:List V->Hp->VK->Prop:=fun xs H Q=>∃ a ys rs,xs=[.ref a]/\H a=some (.tup ys)/\iy H ys rs/\rs.length<=sizeLine/\∀ d,H d=none->Q (.ref d) (upd H d (.dK (dictOf rs)))
theorem dL (hc:X.calm=true):rn X (.type "dict") Vf:=by
 intro pins s σ H xs us Q I r h
 obtain ⟨a,ys,rs,rfl,ha,hp,hl,q⟩:=h
 obtain ⟨u,rfl,ru⟩:=r.one
 cases ru
 refine callType_codes (Q₁:=fun obj s₁=>obj=.ref s.heap.objs.size/\s₁={s with heap:=s.heap.push {cls:=.type "dict",data:=.dict #[]}}) F.kt_called_dict (F.kt_typeCall_dict_1 _) F.entry_dict_init (kt_code_dict_new _ ⟨rfl,rfl⟩) ?_
 rintro obj s₁ ⟨rfl,rfl⟩
 have fr:H s.heap.objs.size=none:=I.hok.fresh (Qy _)
 have hnew:(s.heap.push {cls:=.type "dict",data:=.dict #[]}).DictOf (cf X.prog X.w) s.heap.objs.size []:=Heap.DictOf.new s.heap
 have I1:Inv X pins σ (upd H s.heap.objs.size (.dK [])) {s with heap:=s.heap.push {cls:=.type "dict",data:=.dict #[]}}:=I.laid (t':=s.toks) (fun b u e=>Qc _ e) (Qy _)
  ⟨Nat.zero_le _,beq_eq_false_iff_ne.mpr (Ne.symm (Nat.ne_of_lt I.big)),[],.nil,hnew⟩
 have Ez:a≠s.heap.objs.size:=aO ha fr
 obtain ⟨⟨z,nd⟩,its,rv,o,ho,kh,n,hd⟩:=(show bx X.prog X.w _ _ a (.tup ys) from I1.hok a _ (by rw [aE Ez];exact ha))
 refine ⟨hnew.typeIs,F.args_dict_init_2 _ _,?_⟩
 unfold Builtin.«dict.__init__»
 refine QT ?_
 unfold Builtin.Dict.selfAndRest
 refine QT (wpAny_notOrdered_dict hnew.typeIs ?_)
 show wpAny _ _ (pure (s.heap.objs.size,[Value.ref a])) _ _ _
 refine QU ?_
 show wpAny _ _ (Builtin.Dict.updateFrom "dict.__init__" s.heap.objs.size (.ref a) [] .none) _ _ _
 unfold Builtin.Dict.updateFrom
 refine QT (wpAny_typeOf (T:="tuple") ⟨o,ho,kh⟩ ?_)
 rw [if_pos (by decide)]
 have hh:X.A.handled=none:=I.ok.hd hc
 refine QT (lV ho kh hd (nd _ ho) (by simp [hh]) fun h' tk hk=>?_)
 rw [if_pos (by rfl)]
 refine QT (wpAny_rule ?_)
 have I2:Inv X pins σ (upd H s.heap.objs.size (.dK [])) {s with heap:=h',toks:=tk}:=I1.kept (t':=tk) hk
 obtain ⟨its2,BX,p2,Gv⟩:=I2.tuple (ae.of (a:=a) (xs:=ys) (by rw [aE Ez];exact ha))
 refine QT (wpAny_pyIter_tuple (show Heap.IsTuple h' a its2.toArray from p2) ?_)
 have hsz:s.heap.objs.size < h'.objs.size:=by
  obtain ⟨_,_,_,e,_⟩:=hnew
  exact Qz (hk _ _ e)
 refine QU ⟨plainId_quiet F.Gx _,?_⟩
 refine uA (X:=X) (pins:=pins) (σ:=σ) (by simp [hh]) fr hl hp ha (Nat.ne_of_gt hsz) (fun s' I'=>⟨rfl,.ref s.heap.objs.size,_,I',rfl,q _ fr⟩) rs.length 0 _ rfl (Nat.zero_le _) (I2.kept (t':=tk) fun b o e=>Qc _ e) ⟨_,Qd _ rfl,rfl,rfl⟩ (I2.z_ (Qy _) (I2.hok.fresh (Qy _)))
def Tk (H H':Hp):Prop:=∀ b xs,H b=some (.tup xs)->H' b=some (.tup xs)
theorem Tk.refl:Tk H H:=fun _ _ h=>h
theorem Tk.trans {H1 H2:Hp} (a:Tk H H1) (b:Tk H1 H2):Tk H H2:=fun c xs h=>b c xs (a c xs h)
theorem aa.ts (s:aa H H'):Tk H H':=fun b xs h=>s b _ h
theorem Tk.upd {H H':Hp} {a:Addr} {o:HO} (s:Tk H H') (h:H' a=none):Tk H (L2.upd H' a o):=fun b xs e=>by rw [aE (aO (s b xs e) h)];exact s b xs e
theorem Tk.set {o':HO} (s:Tk H H') (h:H' a=some o) (hn:∀ xs,o≠.tup xs):Tk H (L2.upd H' a o'):=fun b xs e=>by
 rw [aE (fun z=>by rw [z] at e;have:=s a xs e;rw [h] at this;cases this;exact hn _ rfl)];exact s b xs e
inductive Ai (H:Hp):V->PyData->Prop
 | str (z:Str):Ai H (.str z) (.str z)
 | tup {a:Addr} {xs:List V} {ds:List PyData}:H a=some (.tup xs)->xs.length=ds.length->(∀ i (h:i < xs.length) (h':i < ds.length),Ai H xs[i] ds[i])->Ai H (.ref a) (.tuple ds)
theorem Ai.ts (s:Tk H H') {v:V} {d:PyData} (h:Ai H v d):Ai H' v d:=by
 induction h with
 | str z=>exact .str z
 | tup e hl _ ih=>exact .tup (s _ _ e) hl ih
theorem gA:∀ {ds:List PyData},(∀ d∈ds,d.showable=true)->PyData.showableAll ds=true
 | [],_=>by simp [PyData.showableAll]
 | d::ds,h=>by simp [PyData.showableAll,h d List.mem_cons_self,gA fun x hx=>h x (Qh _ hx)]
theorem i4:∀ {ds:List PyData},(∀ d∈ds,d.hasDict=false)->PyData.hasDictAll ds=false
 | [],_=>by simp [PyData.hasDictAll]
 | d::ds,h=>by simp [PyData.hasDictAll,h d List.mem_cons_self,i4 fun x hx=>h x (Qh _ hx)]
theorem jS {k:Nat}:∀ {ds:List PyData},(∀ d∈ds,d.depth<=k)->PyData.depthAll ds<=k
 | [],_=>by simp [PyData.depthAll]
 | d::ds,h=>by
  have h1:=h d List.mem_cons_self
  have h2:=jS (ds:=ds) fun x hx=>h x (Qh _ hx)
  simp [PyData.depthAll];omega
theorem yS {n:Nat}:∀ {ts:List Str},(∀ t∈ts,t.length<=n)->(ts.map (·.length)).sum<=ts.length*n
 | [],_=>by simp
 | t::ts,h=>by
  have h1:=h t List.mem_cons_self
  have h2:=yS (ts:=ts) fun x hx=>h x (Qh _ hx)
  rw [List.map_cons,List.sum_cons,List.length_cons,Nat.add_mul];omega
def TB (H:Hp) (v:V) (k n:Nat):Prop:=∃ d,Ai H v d/\d.depth<=k/\d.shown.length<=n/\d.showable=true/\d.hasDict=false
def Wd (z:Str):Prop:=z.length<=20/\∀ c∈z.cps.toList,c < 128
theorem TB.mono {v:V} {k k' n':Nat} (h:TB H v k n) (hk:k<=k') (hn:n<=n'):TB H v k' n':=by
 obtain ⟨d,h1,h2,h3,h4,h5⟩:=h
 exact ⟨d,h1,by omega,by omega,h4,h5⟩
theorem TB.ts {H H':Hp} (s:Tk H H') {v:V} {k n:Nat} (h:TB H v k n):TB H' v k n:=by
 obtain ⟨d,h1,h2⟩:=h
 exact ⟨d,h1.ts s,h2⟩
theorem TB.str {H:Hp} {z:Str} (h:Wd z):TB H (.str z) 0 202:=by
 refine ⟨.str z,.str z,by simp [PyData.depth],?_,by simp [PyData.showable],by simp [PyData.hasDict]⟩
 show (PyData.str z).shown.length<=202
 simp only [PyData.shown]
 have:=StrLaws.reprText_len z (fun c hc=>Nat.lt_of_lt_of_le (h.2 c hc) (by decide))
 have:=h.1
 omega
theorem TB.tup {H:Hp} {a:Addr} {xs:List V} {k n:Nat} (e:H a=some (.tup xs)) (h:∀ x∈xs,TB H x k n):TB H (.ref a) (k+1) (xs.length*(n+2)+3):=by
 have hc:∀ i:Fin xs.length,∃ d,Ai H xs[i.val] d/\d.depth<=k/\d.shown.length<=n/\d.showable=true/\d.hasDict=false:=fun i=>h _ (Qj i.isLt)
 obtain ⟨f,hf⟩:=Classical.axiomOfChoice hc
 have hm:∀ d∈List.ofFn f,d.depth<=k/\d.shown.length<=n/\d.showable=true/\d.hasDict=false:=fun d hd=>by
  obtain ⟨i,rfl⟩:=List.mem_ofFn.mp hd
  exact (hf i).2
 refine ⟨.tuple (List.ofFn f),.tup e (by simp) fun i h1 h2=>?_,?_,?_,?_,?_⟩
 ·have:=(hf ⟨i,h1⟩).1
  simpa using this
 ·simp only [PyData.depth]
  have:=jS (fun d hd=>(hm d hd).1)
  omega
 ·simp only [PyData.shown]
  have h1:=tupleText_len_le (PyData.shownAll (List.ofFn f))
  have e2:PyData.shownAll (List.ofFn f)=(List.ofFn f).map PyData.shown:=shownAll_eq_map _
  have h2:((PyData.shownAll (List.ofFn f)).map (·.length)).sum<=(PyData.shownAll (List.ofFn f)).length*n:=yS fun t ht=>by
   rw [e2] at ht
   obtain ⟨d,hd,rfl⟩:=List.mem_map.mp ht
   exact (hm d hd).2.1
  have h3:(PyData.shownAll (List.ofFn f)).length=xs.length:=by rw [e2];simp
  rw [h3] at h1 h2
  rw [Nat.mul_add];omega
 ·simp only [PyData.showable]
  exact gA fun d hd=>(hm d hd).2.2.1
 ·simp only [PyData.hasDict]
  exact i4 fun d hd=>(hm d hd).2.2.2
theorem jR (rs:List (Key×V)):(rs.map (·.1)).Nodup->∀ i (h:i < rs.length),bh (dictOf rs) rs[i].1=some rs[i].2:=by
 have gen:∀ (rs:List (Key×V)) (kvs:List (Key×V)),(rs.map (·.1)).Nodup->∀ k,bh (rs.foldl (fun kvs r=>putK kvs r.1 r.2) kvs) k=((rs.find? fun r=>decide (r.1=k)).map (·.2)).or (bh kvs k):=by
  intro rs
  induction rs with
  | nil=>intro kvs _ k;simp
  | cons r rs ih=>
   intro kvs hn k
   rw [List.map_cons,List.nodup_cons] at hn
   rw [List.foldl_cons,ih _ hn.2,kR]
   by_cases e:r.1=k
   ·have:rs.find? (fun r=>decide (r.1=k))=none:=by
     rw [List.find?_eq_none]
     intro x hx z
     have z':=Qt z
     exact hn.1 (List.mem_map.mpr ⟨x,hx,by rw [z',e]⟩)
    rw [this,List.find?_cons,if_pos e.symm]
    simp [e]
   ·rw [if_neg (fun z=>e z.symm),List.find?_cons]
    simp [e]
 intro hn i h
 unfold dictOf
 rw [gen rs [] hn]
 have:rs.find? (fun r=>decide (r.1=rs[i].1))=some rs[i]:=by
  rw [List.find?_eq_some_iff_getElem]
  refine ⟨by simp,i,h,rfl,fun j hj=>?_⟩
  have iq:(rs.map (·.1))[j]'(by simp;omega)≠(rs.map (·.1))[i]'(by simpa using h):=fun z=>by
   exact (List.pairwise_iff_getElem.mp hn j i (by simp;omega) (by simpa using h) hj) z
  simpa using iq
 rw [this];rfl
abbrev bf (rs:List (Str×V)):List (Key×V):=rs.map fun r=>(Sum.inr r.1,r.2)
def BY (H:Hp) (v:V) (o:Option Str):Prop:=∃ b,v=.ref b/\((∃ s ys,H b=some (.tup (.str s::ys))/\s≠"as"/\o=none)\/∃ x,H b=some (.tup [.str "as",.str x])/\o=some x)
theorem BY.ts (s:Tk H H') {v:V} {o:Option Str} (h:BY H v o):BY H' v o:=by
 obtain ⟨b,e,h⟩:=h
 refine ⟨b,e,?_⟩
 rcases h with ⟨z,ys,h1,h2⟩ | ⟨x,h1,h2⟩
 ·exact .inl ⟨z,ys,s _ _ h1,h2⟩
 ·exact .inr ⟨x,s _ _ h1,h2⟩
structure ow (H:Hp) (a:Addr) (xs:List V) (rs:List (Str×V)) (nx:Str->Option Str) (ρ:Str->Nat):Prop where
 at_:H a=some (.tup xs)
 ps:iy H xs (bf rs)
 nd:(rs.map (·.1)).Nodup
 len:rs.length<=300
 pos:0 < rs.length
 as:∀ r∈rs,BY H r.2 (nx r.1)
 BZ:∀ r∈rs,∀ y,nx r.1=some y->y∈rs.map (·.1)/\ρ y < ρ r.1
 rk:∀ r∈rs,ρ r.1<=rs.length
 tb:∀ r∈rs,Wd r.1/\TB H r.2 3 8273
theorem iy.ts {ys:List V} {rs:List (Key×V)} (p:iy H ys rs) (s:Tk H H'):iy H' ys rs:=⟨p.1,fun i h=>let ⟨b,e1,e2⟩:=p.2 i h;⟨b,e1,s _ _ e2⟩⟩
section
variable {xs:List V} {rs:List (Str×V)} {nx:Str->Option Str} {ρ:Str->Nat}
theorem ow.ts (g:ow H a xs rs nx ρ) (s:Tk H H'):ow H' a xs rs nx ρ:=
 ⟨s _ _ g.at_,g.ps.ts s,g.nd,g.len,g.pos,fun r hr=>(g.as r hr).ts s,g.BZ,g.rk,fun r hr=>⟨(g.tb r hr).1,(g.tb r hr).2.ts s⟩⟩
theorem iY (h:(rs.map (·.1)).Nodup):((bf rs).map (·.1)).Nodup:=by
 have e:(bf rs).map (·.1)=(rs.map (·.1)).map (Sum.inr:Str->Key):=by simp [bf,Qn,QB]
 rw [e]
 exact List.Pairwise.map _ (fun a b lu z=>lu (Sum.inr.inj z)) h
theorem ow.get (g:ow H a xs rs nx ρ) (hx:x∈rs.map (·.1)):∃ v,(x,v)∈rs/\bh (dictOf (bf rs)) (.inr x)=some v:=by
 obtain ⟨r,hr,rfl⟩:=List.mem_map.mp hx
 obtain ⟨i,hi,rfl⟩:=Qi hr
 refine ⟨rs[i].2,hr,?_⟩
 have:=jR (bf rs) (iY g.nd) i (by simpa using hi)
 simpa using this
def B0 (nx:Str->Option Str) (x:Str):Str:=(nx x).getD x
def xu (nx:Str->Option Str):Nat->Str->Str
 | 0,x=>x
 | n+1,x=>xu nx n (B0 nx x)
theorem cX (n:Nat) (h:nx x=none):xu nx n x=x:=by
 induction n with
 | zero=>rfl
 | succ n ih=>rw [xu];rw [show B0 nx x=x by simp [B0,h]];exact ih
theorem ow.run (g:ow H a xs rs nx ρ):∀ (n:Nat) (x:Str),x∈rs.map (·.1)->ρ x<=n->xu nx n x∈rs.map (·.1)/\nx (xu nx n x)=none/\xu nx (n+1) x=xu nx n x:=by
 intro n
 induction n with
 | zero=>
  intro x hx hr
  obtain ⟨r,gh,rfl⟩:=List.mem_map.mp hx
  cases e:nx r.1 with
  | none=>exact ⟨hx,e,cX 1 e⟩
  | some y=>have:=(g.BZ r gh y e).2;omega
 | succ n ih=>
  intro x hx hr
  obtain ⟨r,gh,rfl⟩:=List.mem_map.mp hx
  cases e:nx r.1 with
  | none=>
   rw [cX _ e,cX _ e]
   exact ⟨hx,e,rfl⟩
  | some y=>
   have e2:B0 nx r.1=y:=by simp [B0,e]
   obtain ⟨h1,h2⟩:=g.BZ r gh y e
   have:=ih y h1 (by omega)
   rw [xu,xu,e2]
   exact this
def fc (nx:Str->Option Str) (n:Nat) (x:Str):Str:=xu nx n x
theorem ow.B3 (g:ow H a xs rs nx ρ) (hx:x∈rs.map (·.1)):fc nx rs.length x∈rs.map (·.1)/\nx (fc nx rs.length x)=none:=by
 obtain ⟨r,hr,rfl⟩:=List.mem_map.mp hx
 obtain ⟨h1,h2,_⟩:=g.run rs.length r.1 hx (g.rk r hr)
 exact ⟨h1,h2⟩
theorem ow.MQ (g:ow H a xs rs nx ρ) {y:Str} (hx:x∈rs.map (·.1)) (e:nx x=some y):fc nx rs.length y=fc nx rs.length x:=by
 obtain ⟨r,hr,rfl⟩:=List.mem_map.mp hx
 obtain ⟨h1,h2,h3⟩:=g.run rs.length r.1 hx (g.rk r hr)
 have e2:B0 nx r.1=y:=by simp [B0,e]
 rw [xu,e2] at h3
 exact h3
end
theorem lK (xs:List V) (k:Nat):oq xs (some (k:Int)) none=xs.drop k:=by
 unfold oq
 rw [HT.iR,HT.qI]
 by_cases h:k<=xs.length
 ·rw [Nat.min_eq_left h]
  exact List.take_of_length_le (by simp)
 ·rw [Nat.min_eq_right (by omega)]
  simp [List.drop_eq_nil_of_le (show xs.length<=k by omega)]
theorem tM (xs:List V) (k:Nat):oq xs none (some (k:Int))=xs.take k:=by
 unfold oq
 rw [HT.iR,HT.qI]
 simp
theorem wX {l:List α} (h:l.Nodup) {x:α} (hi:l[i]? =some x) (hj:l[j]? =some x):i=j:=by
 obtain ⟨a,e1⟩:=List.getElem?_eq_some_iff.mp hi
 obtain ⟨b,e2⟩:=List.getElem?_eq_some_iff.mp hj
 rcases Nat.lt_trichotomy i j with z | z | z
 ·exact ((List.pairwise_iff_getElem.mp h i j a b z) (e1.trans e2.symm)).elim
 ·exact z
 ·exact ((List.pairwise_iff_getElem.mp h j i b a z) (e2.trans e1.symm)).elim
theorem nB [BEq α] [LawfulBEq α] {l:List α} (h:l.Nodup) {x:α} (hi:l[i]? =some x):l.idxOf x=i:=by
 have hm:x∈l:=QC hi
 have h1:l.idxOf x < l.length:=List.idxOf_lt_length_of_mem hm
 have h2:l[l.idxOf x]? =some x:=by rw [Qa h1,List.getElem_idxOf]
 exact wX h h2 hi
open Classical in
theorem fA (h1:z.length<=20) (h2:∀ c∈z.cps.toList,c < 128):Wd z:=⟨h1,h2⟩
section
variable {β:Type} {R:α->β->Prop}
theorem m7:∀ {xs B4:List α} {ys IT:List β},Paired R xs ys->Paired R B4 IT->Paired R (xs++B4) (ys++IT)
 | _,_,_,_,.nil,h=>h
 | _,_,_,_,.cons a r,h=>.cons a (m7 r h)
theorem yE:∀ {xs:List α} {ys:List β},xs.length=ys.length->(∀ i (h:i < xs.length) (h':i < ys.length),R xs[i] ys[i])->Paired R xs ys
 | [],[],_,_=>.nil
 | x::xs,y::ys,hl,h=>.cons (h 0 (by simp) (by simp)) (yE (by simpa using hl) fun i a b=>h (i+1) (by simpa using a) (by simpa using b))
theorem vU:∀ {xs:List α} {ys:List β},Paired R xs ys->xs.length=ys.length/\∀ i (h:i < xs.length) (h':i < ys.length),R xs[i] ys[i]
 | _,_,.nil=>⟨rfl,fun i h=>absurd h (by simp)⟩
 | _,_,.cons a r=>by
  obtain ⟨h1,h2⟩:=vU r
  refine ⟨by simp [h1],fun i h h'=>?_⟩
  cases i with
  | zero=>exact a
  | succ i=>exact h2 i (by simpa using h) (by simpa using h')
end
def PR (H:Hp) (x:V) (r:Key×V):Prop:=∃ b,x=.ref b/\H b=some (.tup [kV r.1,r.2])
theorem fB {xs:List V} {rs:List (Key×V)}:iy H xs rs↔Paired (PR H) xs rs:=by
 constructor
 ·rintro ⟨hl,h⟩
  refine yE hl fun i h1 h2=>?_
  obtain ⟨b,e1,e2⟩:=h i h2
  rw [Qa h1] at e1
  exact ⟨b,QD e1,e2⟩
 ·intro h
  obtain ⟨hl,h'⟩:=vU h
  refine ⟨hl,fun i h2=>?_⟩
  obtain ⟨b,e1,e2⟩:=h' i (by omega) h2
  exact ⟨b,by rw [Qa (by omega),e1],e2⟩
section
variable {xs:List V} {rs:List (Str×V)}
theorem oQ (a b:List (Str×V)):bf (a++b)=bf a++bf b:=by simp [bf]
theorem jJ:iy H [] (bf []):=fB.mpr .nil
theorem iF (h:iy H xs (bf rs)) {n:Str} {v:V} (e:H b=some (.tup [.str n,v])):iy H (xs++[.ref b]) (bf (rs++[(n,v)])):=by
 rw [oQ]
 exact fB.mpr (m7 (fB.mp h) (.cons ⟨b,rfl,e⟩ .nil))
end
section
variable {e1 e2:Expr} {p pos:Pos} {k:Nat} {g1 g2:TG}
end
def KD (w:World) (K:Q0) (a:Addr) (kvs:List (Key×V)):Prop:=∀ P:Program,∃ (o:Obj) (es:Array DictEntry) (ep:Nat) (vs:List (Key×Value)),K.lookup a=some o/\(a==sysModules)=false/\o.ExactDict/\o.data=.dict es ep/\KeysOf (cf P w) es/\Pairs (cf P w) es.toList vs/\(vs.map (·.1)).Nodup/\KV kvs vs
section
variable {kvs:List (Key×V)}
theorem KD.of (h:KD X.w X.K a kvs) (I:Inv X pins σ H s):(a==sysModules)=false/\∃ vs,KV kvs vs/\s.heap.DictOf (cf X.prog X.w) a vs:=by
 obtain ⟨o,es,ep,vs,h1,h2,h3,h4,h5,h6,h7,h8⟩:=h X.prog
 exact ⟨h2,vs,h8,o,es,ep,I.iw a o h1,h3,h4,h5,h6,h7⟩
variable {pos p:Pos}
def MR (kvs:List (Key×V)) (te:TE):TE:=fun σ H Q=>te σ H fun y H1=>∃ k,y=kV k/\Q (.bl (bh kvs k).isSome) H1
theorem Vg {K:Q0} (hx:∃ a,X.mg x=some (.ref a)/\KD w K a kvs) (he:PE X e te) (hw:X.w=w) (hK:X.K=K) (hg:Gl X x) (hd:(x==("__debug__":Str))=false):PC X .In e (.Name x p) (MR kvs te):=by
 subst hw hK
 obtain ⟨a,hm,kd⟩:=hx
 intro pins s σ H Q I h
 refine av (he pins s σ H _ I h) ?_
 rintro iv s1 ⟨y,H1,I1,ry,k,ey,q1⟩
 subst ey
 refine av (kJ (v:=.ref a) hg hm rfl hd pins s1 σ H1 (fun v H'=>v=.ref a/\H'=H1) I1 ⟨rfl,rfl⟩) fun u s2 ⟨z,H2,I2,rz,ez,eH⟩=>?_
 subst ez eH
 cases rz
 obtain ⟨h1,vs,rel,dd⟩:=kd.of I2
 refine wpAny_in_of (iQ ry) h1 dd.mapOf ?_
 rw [<- (rel.val k).CT]
 exact ⟨.bl _,_,I2.tok _,rfl,q1⟩
theorem Vh {K:Q0} (hx:∃ a,X.mg x=some (.ref a)/\KD w K a kvs) (he:SE X e te) (hw:X.w=w:=by rfl) (hK:X.K=K:=by rfl) (hg:Gl X x:=by rfl) (hd:(x==("__debug__":Str))=false:=by decide):ST X (.Compare e [.In] [.Name x p] pos) (tB (MR kvs te)):=⟨Rv (Vg hx he.h hw hK hg hd) rfl⟩
def Vi (kvs:List (Key×V)) (te:TE):TE:=fun σ H Q=>te σ H fun y H1=>∃ k v,y=kV k/\bh kvs k=some v/\Q v H1
theorem Vj {K:Q0} (hx:∃ a,X.mg x=some (.ref a)/\KD w K a kvs) (he:SE X e te) (hs:Gh e) (hw:X.w=w:=by rfl) (hK:X.K=K:=by rfl) (hg:Gl X x:=by rfl) (hd:(x==("__debug__":Str))=false:=by decide):SE X (.Subscript (.Name x p) e pos) (Vi kvs te):=by
 subst hw hK
 obtain ⟨a,hm,kd⟩:=hx
 constructor
 intro pins s σ H Q I h
 refine vE PySem.F.slot_dict_getitem.lookup hs (av (kJ (v:=.ref a) hg hm rfl hd pins s σ H (fun v H'=>v=.ref a/\H'=H) I ⟨rfl,rfl⟩) fun u s2 ⟨z,H2,I2,rz,ez,eH⟩=>?_)
 subst ez eH
 cases rz
 refine av (he.h pins s2 σ _ _ I2 h) ?_
 rintro iv s3 ⟨y,H3,I3,ry,k,v,ey,ev,q⟩
 subst ey
 obtain ⟨h1,vs,rel,dd⟩:=kd.of I3
 obtain ⟨w',hw,qh⟩:=om.some_of (v:=v) (o:=valueAt vs k) (by rw [<- ev];exact rel.val k)
 exact ⟨dd.typeIs,wpAny_getItem_of (iQ ry) dd.mapOf hw ⟨v,_,I3.tok _,qh,q⟩⟩
end
def sf (kvs:List (Key×V)) (i:Nat):V:=((kvs[i]?).map fun kv=>kV kv.1).getD .ai
def IU (a:Addr) (o:Obj) (kvs:List (Key×V)):It:=⟨fun i H=>H a=some (.au o (.dK kvs))/\i < kvs.length,fun i H x H'=>H'=H/\x=sf kvs i,fun i H=>H a=some (.au o (.dK kvs))/\kvs.length=i⟩
theorem xT {o:Obj} (kvs:List (Key×V)):BU (IU a o kvs) (fun H=>H a=some (.au o (.dK kvs))) kvs.length (sf kvs):=fun H ok=>⟨fun i hi=>⟨⟨ok,hi⟩,fun x H' h=>h⟩,ok,rfl⟩
theorem Vk {kvs:List (Key×V)} {vs:List (Key×Value)} (r:KV kvs vs):∀ {i:Nat} {p:Key×V},kvs[i]? =some p->∃ q,vs[i]? =some q/\q.1=p.1:=by
 intro i
 induction r generalizing i with
 | nil=>intro p h;simp at h
 | cons a t ih=>
  intro p h
  cases i with
  | zero=>simp at h;subst h;exact ⟨_,by simp,a.1.symm⟩
  | succ i=>simp at h;simpa using ih h
theorem rJ {k:Key} (h:(cf P w).is k u=true):RelV (kV k) u:=by
 rcases bL h with ⟨i,t,rfl,rfl⟩ | ⟨x,t,rfl,rfl⟩
 ·exact ⟨t,rfl⟩
 ·exact ⟨t,rfl⟩
theorem KV.len {kvs:List (Key×V)} {vs:List (Key×Value)} (r:KV kvs vs):kvs.length=vs.length:=Paired.length r
theorem xH {K:Q0} {o:Obj} {kvs:List (Key×V)} (Aj:∃ es,o.data=.dict es ep):Turn P w K tg (IU a o kvs) [it] it (fun i h=>h.IsKeyIter it a i kvs.length ep) where
 mem:=by simp
 obj:=fun i h st b hb=>by
  have e:b=it:=by simpa using hb
  subst e
  obtain ⟨o,e,c,d⟩:=st
  exact ⟨o,e,fun v z=>by rw [d] at z;cases z⟩
 keep:=fun i h h' st k=>st.at fun o e=>k it (by simp) o e
 item:=by
  intro X hP hw hK hc i pins s σ H E I hf st hg
  subst hP hw hK
  obtain ⟨hq,hi⟩:=hg
  obtain ⟨e,z,hd,vs,rel,ob,es,yp,h1,h2,h3,h4⟩:=(show bx X.prog X.w H s.heap a (.au o (.dK kvs)) from I.hok a _ hq)
  obtain ⟨es',nk⟩:=Aj
  rw [e] at h1;cases h1
  rw [nk] at h3;injection h3 with uo uq
  subst uo uq
  obtain ⟨q,sd,se⟩:=Vk rel (Qa hi)
  have hl:=rel.len
  obtain ⟨f0,f1,f2,f3,f4,f5⟩:=hf it (by simp)
  obtain ⟨qk,qv⟩:=q
  refine wpAny_pyNext_dict_item (knd:=cf X.prog X.w) (kvs:=vs) (ep:=ep) (by rw [<- hl];exact st) ⟨o,es',e,h2,nk,h4⟩ sd fun key h' hk st' sb=>?_
  have I1:Inv X pins σ H {s with heap:=h'}:=I.turned (t':=s.toks) (fun b o hb e=>(sb.2 b hb).trans e) f0 f1 f3 f4 f5
  have fq:h'.IsKeyIter it a (i+1) kvs.length ep:=by rw [hl];exact st'
  obtain ⟨o3,e3,c3,d3⟩:=id fq
  refine ⟨key,rfl,rO (s:={s with heap:=h'}) e3 c3 d3 (by decide) ⟨sf kvs i,H,I1,?_,⟨rfl,rfl⟩,fq,fun b hb=>(hf b hb).1⟩⟩
  unfold sf
  rw [Qa hi]
  show RelV (kV kvs[i].1) key
  have IV:qk=kvs[i].1:=se
  rw [<- IV]
  exact rJ hk
 done:=by
  intro X hP hw hK hc i pins s σ H E I hf st hg
  subst hP hw hK
  obtain ⟨hq,hi⟩:=hg
  obtain ⟨e,z,hd,vs,rel,ob,es,yp,h1,h2,h3,h4⟩:=(show bx X.prog X.w H s.heap a (.au o (.dK kvs)) from I.hok a _ hq)
  obtain ⟨es',nk⟩:=Aj
  rw [e] at h1;cases h1
  rw [nk] at h3;injection h3 with uo uq
  subst uo uq
  have hl:=rel.len
  obtain ⟨f0,f1,f2,f3,f4,f5⟩:=hf it (by simp)
  exact wpAny_pyNext_dict_end (knd:=cf X.prog X.w) (kvs:=vs) (ep:=ep) (I.ok.hd hc) (by rw [<- hl];exact st) ⟨o,es',e,h2,nk,h4⟩ (by simp;omega) fun h' eb=>⟨rfl,I.turned (t':=s.toks) (fun b o hb e=>eb b o hb e) f0 f1 f3 f4 f5⟩
 self:=fun _ _ _ _ _ st h=>wpAny_pyIter_keyiter st h
theorem pO (h:H a=some o):upd H a o=H:=by
 funext b
 unfold upd
 by_cases e:b=a
 ·rw [if_pos e,e,h]
 ·rw [if_neg e]
theorem Inv.freeze {kvs:List (Key×V)} (I:Inv X pins σ H s) (h:Rd H a (.dK kvs)):∃ o es ep,o.data=.dict es ep/\Inv X pins σ (upd H a (.au o (.dK kvs))) s/\s.heap.get? a=some o:=by
 rcases h with h | ⟨o,h⟩
 ·have ok:=(show bx X.prog X.w H s.heap a (.dK kvs) from I.hok a _ h)
  obtain ⟨z,hd,vs,rel,o,es,ep,h1,h2,h3,h4⟩:=ok
  have I2:=I.write (x:=a) (e:=a) (h':=s.heap) (t':=s.toks) (o:=.au o (.dK kvs)) (by rw [h];exact True.intro) (.inl rfl) (fun b u _ q=>q) ⟨o,h1⟩ ⟨h1,z,hd,vs,rel,o,es,ep,h1,h2,h3,h4⟩
  exact ⟨o,es,ep,h3,I2,h1⟩
 ·obtain ⟨e,z,hd,vs,rel,ob,es,ep,h1,h2,h3,h4⟩:=(show bx X.prog X.w H s.heap a (.au o (.dK kvs)) from I.hok a _ h)
  rw [e] at h1;cases h1
  exact ⟨o,es,ep,h3,by rw [pO h];exact I,e⟩
def Vl (te:TE):TI:=fun σ H R=>te σ H fun x H1=>∃ a kvs,x=.ref a/\Rd H1 a (.dK kvs)/\∀ o,R (IU a o kvs) (upd H1 a (.au o (.dK kvs)))
theorem Vm (he:SE X e te):SI X tg e (Vl te):=by
 constructor
 intro pins s σ H R I h
 refine av (he.h pins s σ H _ I h) ?_
 rintro v s1 ⟨x,H1,I1,r1,a,kvs,ex,hr,q⟩
 subst ex
 cases r1
 obtain ⟨o,es,ep,hd,I2,ho⟩:=I1.freeze hr
 obtain ⟨e,z,EB,vs,rel,ob,es',yp,h1,h2,h3,h4⟩:=(show bx X.prog X.w _ s1.heap a (.au o (.dK kvs)) from I2.hok a _ aA)
 rw [e] at h1;cases h1
 rw [hd] at h3;injection h3 with uo uq
 subst uo uq
 refine wpAny_pyIter_dict (knd:=cf X.prog X.w) (kvs:=vs) (ep:=ep) EB ⟨o,es,e,h2,hd,h4⟩ ?_
 have hl:=rel.len
 refine ⟨s1.heap.objs.size,[s1.heap.objs.size],_,_,_,rfl,I2.kept (t':=s1.toks) fun b o e=>Qc _ e,xH (kvs:=kvs) (a:=a) (o:=o) ⟨es,hd⟩,by rw [hl];exact ⟨_,Qd _ rfl,rfl,rfl⟩,fun b hb=>?_,q o⟩
 have e:b=s1.heap.objs.size:=by simpa using hb
 subst e
 exact I2.z_ (Qy _) (I2.hok.fresh (Qy _))
def MS (n:Bool):R2:=fun y x H Q=>∃ a o,x=.ref a/\fg H a y o/\Q (.bl (n^^o.isSome)) H
theorem zX (hu:X.A.units+1 < cLine):c_ X (compareOp .In) (MS false):=by
 intro pins s σ H x y v u Q I rx ry h
 obtain ⟨a,o,rfl,g,q⟩:=h
 cases ry
 exact TY hu I g rx fun s' I'=>⟨.bl o.isSome,H,I',rfl,by simpa using q⟩
theorem jB (hu:X.A.units+1 < cLine):c_ X (compareOp .NotIn) (MS true):=by
 intro pins s σ H x y v u Q I rx ry h
 obtain ⟨a,o,rfl,g,q⟩:=h
 cases ry
 exact TZ hu I g rx fun s' I'=>⟨.bl (!o.isSome),H,I',rfl,by simpa using q⟩
theorem fg.rd {kvs:List (Key×V)} {k:Key} (e:Rd H a (.dK kvs)):fg H a (kV k) (bh kvs k):=.inl ⟨kvs,k,e,rfl,rfl⟩
section
variable {a b c:Expr} {ta:TA} {p pos:Pos}
end
inductive Dt where
 | str (z:Str)
 | tup (ds:List Dt)
 | oz
inductive DD (H:Hp):V->Dt->Prop
 | str {z:Str} (h:z.length<=100000):DD H (.str z) (.str z)
 | tup {a:Addr} {xs:List V} {ds:List Dt}:H a=some (.tup xs)->xs.length=ds.length->xs.length<=1000->(∀ i (h:i < xs.length) (h':i < ds.length),DD H xs[i] ds[i])->DD H (.ref a) (.tup ds)
 | ai:DD H .ai .oz
 | bl (b:Bool):DD H (.bl b) .oz
 | int (i:Int):DD H (.int i) .oz
 | lst {a:Addr} {xs:List V}:H a=some (.lst xs)->DD H (.ref a) .oz
 | dct {a:Addr} {kvs:List (Key×V)}:H a=some (.dK kvs)->DD H (.ref a) .oz
theorem DD.same (s:aa H H') {v:V} {d:Dt} (h:DD H v d):DD H' v d:=by
 induction h with
 | str h=>exact .str h
 | tup e hl hn _ ih=>exact .tup (s _ _ e) hl hn ih
 | ai=>exact .ai
 | bl b=>exact .bl b
 | int i=>exact .int i
 | lst e=>exact .lst (s _ _ e)
 | dct e=>exact .dct (s _ _ e)
def C4:Dt->Bool | .str z=>isName z | _=>false
def pairD:Dt->Bool | .tup [a,b]=>C4 a&&C4 b | _=>false
def MT:Dt->Str | .tup (.str z::_)=>z | _=>""
def qw (a b:Str):Bool:=decide (a.cps.toList < b.cps.toList)
def rising:List Str->Bool
 | a::b::r=>qw a b&&rising (b::r)
 | _=>true
def IW:Dt->Bool | .tup ps=>ps.all pairD&&rising (ps.map MT) | _=>false
def C5 (s:Str):Bool:=s=="box"||s=="pick"
def EC (s:Str):Option Nat:=if s=="all" then some 0 else if s=="none" then some 0 else if s=="way" then some 2 else if s=="as" then some 1 else none
def headD:Dt->Bool
 | .tup (.str s::rest)=>if C5 s then (match rest with | [p]=>IW p | _=>false) else match EC s with | some n=>decide (rest.length=n)&&rest.all C4 | none=>false
 | _=>false
theorem bc.imp {P:Program} {w:World} {K:Q0} {mg:Str->Option Value} {base:Heap} {k:Nat} {x:Str} {ps:List Str} {sp D9:Sp} (F:bc P w K mg base k x ps sp) (h:∀ vs H Q E,D9 vs H Q E->sp vs H Q E):bc P w K mg base k x ps D9:=by
 obtain ⟨f,fd,G,r⟩:=F
 exact ⟨f,fd,G.imp h,r⟩
theorem fT (rs:List (Key×V)):(rs.map (·.1)).Nodup->dictOf rs=rs:=by
 have gen:∀ (rs kvs:List (Key×V)),(rs.map (·.1)).Nodup->(∀ r∈rs,bh kvs r.1=none)->rs.foldl (fun kvs r=>putK kvs r.1 r.2) kvs=kvs++rs:=by
  intro rs
  induction rs with
  | nil=>intro kvs _ _;simp
  | cons r rs ih=>
   intro kvs hn hk
   rw [List.map_cons,List.nodup_cons] at hn
   rw [List.foldl_cons,cG _ (hk r List.mem_cons_self),ih _ hn.2 fun x hx=>?_]
   ·simp
   ·rw [jG _ _ _ _ (hk r List.mem_cons_self),if_neg (fun e=>hn.1 (List.mem_map.mpr ⟨x,hx,e⟩))]
    exact hk x (Qh _ hx)
 intro hn
 have:=gen rs [] hn (fun _ _=>rfl)
 simpa [dictOf] using this
theorem vV {v:V} {d:Dt} (h:DD H v d) (hn:C4 d=true):∃ z,v=.str z/\d=.str z/\isName z=true:=by
 cases h with
 | str _=>exact ⟨_,rfl,rfl,hn⟩
 | tup _ _ _ _=>exact Bool.noConfusion hn
 | ai=>exact Bool.noConfusion hn
 | bl _=>exact Bool.noConfusion hn
 | int _=>exact Bool.noConfusion hn
 | lst _=>exact Bool.noConfusion hn
 | dct _=>exact Bool.noConfusion hn
def Vn:Dt->Dt | .tup (_::h::_)=>h | _=>.oz
def ED:Dt->Option Str | .tup [.str s,.str x]=>if s=="as" then some x else none | _=>none
def B5 (ds:List Dt):List (Str×Dt):=ds.map fun d=>(MT d,Vn d)
def IX (rs:List (Str×Dt)) (n:Str):Option Str:=(rs.find? fun r=>decide (r.1=n)).bind fun r=>ED r.2
theorem Rd.same {u:HO} (r:Rd H a u) (s:aa H H'):Rd H' a u:=by
 rcases r with r | ⟨o,r⟩
 ·exact .inl (s _ _ r)
 ·exact .inr ⟨o,s _ _ r⟩
theorem Vo (z:Str) (ds:List Dt):headD (.tup (.str z::ds))=if C5 z then (match ds with | [p]=>IW p | _=>false) else match EC z with | some n=>decide (ds.length=n)&&ds.all C4 | none=>false:=rfl
theorem zK {v:V} {d:Dt} (h:DD H v d) (hh:headD d=true):∃ a z xs ds,v=.ref a/\d=.tup (.str z::ds)/\H a=some (.tup (.str z::xs))/\xs.length=ds.length/\xs.length < 1000/\(∀ i (h:i < xs.length) (h':i < ds.length),DD H xs[i] ds[i])/\
  ((C5 z=true/\∃ p,ds=[p]/\IW p=true)\/(C5 z=false/\∃ n,EC z=some n/\ds.length=n/\ds.all C4=true)):=by
 cases h with
 | @tup a xs ds e hl hn lj=>
  match ds,hl,hh,lj with
  | .str z::ds,hl,hh,lj=>
   match xs,hl,e,hn,lj with
   | x0::xs,hl,e,hn,lj=>
    have h0:=lj 0 (by simp) (by simp)
    simp only [List.getElem_cons_zero] at h0
    cases h0
    refine ⟨a,z,xs,ds,rfl,rfl,e,by simpa using hl,by simp at hn;omega,fun i h h'=>lj (i+1) (by simpa using h) (by simpa using h'),?_⟩
    rw [Vo] at hh
    cases hw:C5 z with
    | true=>
     rw [hw] at hh
     simp only [if_true] at hh
     match ds,hh with
     | [p],hh=>exact .inl ⟨rfl,p,rfl,hh⟩
    | false=>
     rw [hw] at hh
     simp only [Bool.false_eq_true,if_false] at hh
     cases hb:EC z with
     | none=>rw [hb] at hh;exact Bool.noConfusion hh
     | some n=>
      rw [hb] at hh
      simp only [Bool.and_eq_true,decide_eq_true_eq] at hh
      exact .inr ⟨rfl,n,rfl,hh.1,hh.2⟩
  | .tup _::_,_,hh,_=>exact Bool.noConfusion hh
  | .oz::_,_,hh,_=>exact Bool.noConfusion hh
  | [],_,hh,_=>exact Bool.noConfusion hh
 | str _=>exact Bool.noConfusion hh
 | ai=>exact Bool.noConfusion hh
 | bl _=>exact Bool.noConfusion hh
 | int _=>exact Bool.noConfusion hh
 | lst _=>exact Bool.noConfusion hh
 | dct _=>exact Bool.noConfusion hh
theorem xE:C5 "as"=false:=by decide
theorem Vp {v:V} {d:Dt} (h:DD H v d) (hh:headD d=true):BY H v (ED d):=by
 obtain ⟨a,z,xs,ds,rfl,rfl,e,hl,hn,lj,hc⟩:=zK h hh
 refine ⟨a,rfl,?_⟩
 by_cases hz:z="as"
 ·subst hz
  rcases hc with ⟨hw,_⟩ | ⟨_,n,hb,MU,Gy⟩
  ·rw [xE] at hw;cases hw
  ·have hn1:n=1:=by
    have:EC "as"=some 1:=by decide
    rw [this] at hb;cases hb;rfl
   subst hn1
   match ds,MU,hl,Gy,lj with
   | [d1],_,hl,Gy,lj=>
    match xs,hl,e,lj with
    | [x1],_,e,lj=>
     simp only [List.all_cons,List.all_nil,Bool.and_true] at Gy
     obtain ⟨y,q1,q2,_⟩:=vV (lj 0 (by simp) (by simp)) Gy
     simp only [List.getElem_cons_zero] at q1
     subst q1 q2
     exact .inr ⟨y,e,by simp [ED]⟩
 ·refine .inl ⟨z,xs,e,hz,?_⟩
  have IY:(z==Str.ofString "as")=false:=by simpa using hz
  unfold ED
  split
  ·next s x IZ=>
   injection IZ with IZ
   injection IZ with h1 _
   injection h1 with h1
   rw [<- h1,if_neg (by rw [IY];exact Bool.false_ne_true)]
  ·rfl
structure C6 (H:Hp) (xs:List V) (ds:List Dt) (rs:List (Str×V)) (hs:List Dt):Prop where
 l1:rs.length=ds.length
 l2:hs.length=ds.length
 ps:iy H xs (bf rs)
 dd:∀ i (h:i < ds.length) (h1:i < rs.length) (h2:i < hs.length),ds[i]=.tup [.str rs[i].1,hs[i]]/\DD H rs[i].2 hs[i]/\headD hs[i]=true/\isName rs[i].1=true
section
variable {xs:List V} {ds:List Dt} {rs:List (Str×V)} {hs:List Dt}
theorem C6.rows (R:C6 H xs ds rs hs) (h:i < ds.length) (h1:i < rs.length) (h2:i < hs.length):(B5 ds)[i]? =some (rs[i].1,hs[i]):=by
 unfold B5
 rw [Qq,Qa h,(R.dd i h h1 h2).1];rfl
theorem kD (n:Str) (h:n ∉ rs.map (·.1)):bh (bf rs) (.inr n)=none:=by
 unfold bh
 rw [List.find?_eq_none.mpr]
 ·rfl
 ·intro p hp e
  obtain ⟨r,hr,rfl⟩:=List.mem_map.mp hp
  exact h (List.mem_map.mpr ⟨r,hr,Sum.inr.inj (Qt e)⟩)
theorem m9 (nd:(rs.map (·.1)).Nodup) (h:i < rs.length):bh (bf rs) (.inr rs[i].1)=some rs[i].2:=by
 have:=jR (bf rs) (iY nd) i (by simpa using h)
 rw [fT _ (iY nd)] at this
 simpa using this
theorem C6.nx (R:C6 H xs ds rs hs) (nd:(rs.map (·.1)).Nodup) (h1:i < rs.length) (h2:i < hs.length):IX (B5 ds) rs[i].1=ED hs[i]:=by
 have h:i < ds.length:=by have:=R.l1;omega
 unfold IX
 have:(B5 ds).find? (fun r=>decide (r.1=rs[i].1))=some (rs[i].1,hs[i]):=by
  rw [List.find?_eq_some_iff_getElem]
  have hl:(B5 ds).length=ds.length:=by unfold B5;simp
  refine ⟨by simp,i,by omega,?_,fun j hj=>?_⟩
  ·have:=R.rows h h1 h2
   rw [Qa (by omega)] at this
   exact QD this
  ·have Gz:j < rs.length:=by omega
   have:=R.rows (i:=j) (by omega) Gz (by omega)
   rw [Qa (by omega)] at this
   rw [QD this]
   have iq:(rs.map (·.1))[j]'(by simp;omega)≠(rs.map (·.1))[i]'(by simpa using h1):=fun z=>(List.pairwise_iff_getElem.mp nd j i (by simp;omega) (by simpa using h1) hj) z
   simpa using iq
 rw [this];rfl
theorem C6.has (R:C6 H xs ds rs hs) (nd:(rs.map (·.1)).Nodup) (n:Str) (v:V) (hv:bh (bf rs) (.inr n)=some v):BY H v (IX (B5 ds) n):=by
 by_cases h:n∈rs.map (·.1)
 ·obtain ⟨r,hr,rfl⟩:=List.mem_map.mp h
  obtain ⟨i,hi,rfl⟩:=Qi hr
  rw [m9 nd hi] at hv
  cases hv
  have h2:i < hs.length:=by have:=R.l1;have:=R.l2;omega
  rw [R.nx nd hi h2]
  obtain ⟨_,q1,q2,_⟩:=R.dd i (by have:=R.l1;omega) hi h2
  exact Vp q1 q2
 ·rw [kD n h] at hv;cases hv
end
inductive TX (H:Hp):V->Dt->Prop
 | str {z:Str} (h:z.length<=100000):TX H (.str z) (.str z)
 | tup {a:Addr} {xs:List V} {ds:List Dt}:H a=some (.tup xs)->xs.length=ds.length->xs.length<=1000->(∀ i (h:i < xs.length) (h':i < ds.length),TX H xs[i] ds[i])->TX H (.ref a) (.tup ds)
theorem TX.dd {v:V} {d:Dt} (h:TX H v d):DD H v d:=by
 induction h with
 | str h=>exact .str h
 | tup e hl hn _ ih=>exact .tup e hl hn ih
theorem Vq {x:V} {d:Dt} (e:H a=some (.tup [x])) (h:TX H x d):TX H (.ref a) (.tup [d]):=.tup e rfl (by simp) fun i h1 h2=>by
 match i,h1 with
 | 0,_=>exact h
theorem nQ {x y:V} {d d':Dt} (e:H a=some (.tup [x,y])) (h:TX H x d) (h':TX H y d'):TX H (.ref a) (.tup [d,d']):=.tup e rfl (by simp) fun i h1 h2=>by
 match i,h1 with
 | 0,_=>exact h
 | 1,_=>exact h'
theorem Vr {x y z:V} {d d' MW:Dt} (e:H a=some (.tup [x,y,z])) (h:TX H x d) (h':TX H y d') (C3:TX H z MW):TX H (.ref a) (.tup [d,d',MW]):=.tup e rfl (by simp) fun i h1 h2=>by
 match i,h1 with
 | 0,_=>exact h
 | 1,_=>exact h'
 | 2,_=>exact C3
theorem eA (h:isName z=true):z.length<=8:=by
 unfold isName at h
 simp only [Bool.and_eq_true,decide_eq_true_eq] at h
 exact h.1.1.2
theorem iU (h:isName z=true):TX H (.str z) (.str z):=.str (by have:=eA h;omega)
theorem oC (h:z.length<=100):TX H (.str z) (.str z):=.str (by omega)
section
variable {P:Option Str->Prop}
structure MX (H:Hp) (ns:List Str) (xs:List V) (ps:List (Str×Str)):Prop where
 len:xs.length=ps.length
 at_:∀ i (h:i < xs.length) (h':i < ps.length),∃ c,xs[i]=.ref c/\H c=some (.tup [.str ps[i].1,.str ps[i].2])
 nm:∀ p∈ps,isName p.1=true/\isName p.2=true/\p.2∈ns
 dc:rising (ps.map (·.1))=true
end
theorem qC {a b c:Str} (h1:qw a b=true) (h2:qw b c=true):qw a c=true:=by
 unfold qw at*
 exact Qv (List.lt_trans (Qt h1) (Qt h2))
theorem fO:∀ {ws:List Str},ws.Pairwise (fun a b=>qw a b=true)->rising ws=true
 | [],_=>rfl
 | [_],_=>rfl
 | a::b::r,h=>by
  rw [List.pairwise_cons] at h
  rw [rising,h.1 b List.mem_cons_self,fO h.2];rfl
def B6:V->Str
 | .str z=>z
 | _=>""
theorem Vs {xs:List V} {rs:List (Str×V)} (q2:iy H xs (bf rs)) (hn:∀ r∈rs,isName r.1=true) (q4:∀ r∈rs,∃ y,r.2=.str y/\y∈ns/\isName y=true) (hr:rising (rs.map (·.1))=true):MX H ns xs (rs.map fun q=>(q.1,B6 q.2)):=by
 have hl:xs.length=rs.length:=by have:=q2.1;simpa using this
 refine ⟨by simp;omega,fun i h1 h2=>?_,fun q hq=>?_,?_⟩
 ·have h3:i < rs.length:=by omega
  obtain ⟨c',e1,e2⟩:=q2.2 i (by simpa using h3)
  rw [Qa h1] at e1
  refine ⟨c',QD e1,?_⟩
  obtain ⟨y,ey,_⟩:=q4 _ (Qj h3)
  simp only [Qr]
  rw [ey]
  have:H c'=some (.tup [.str rs[i].1,rs[i].2]):=by simpa [bf,kV] using e2
  rw [ey] at this
  exact this
 ·obtain ⟨q',vn,rfl⟩:=List.mem_map.mp hq
  obtain ⟨y,ey,my,ny⟩:=q4 q' vn
  refine ⟨hn q' vn,?_,?_⟩
  ·show isName (B6 q'.2)=true
   rw [ey];exact ny
  ·show B6 q'.2∈ns
   rw [ey];exact my
 ·rw [Qn];exact hr
section
variable {e1 e2:Expr} {p pos:Pos} {k:Nat} {g1 g2:TG}
end
section
variable {t1 i1 t2 i2 elt:Expr} {pos:Pos} {wi Vt:TI} {g g2:TG}
end
theorem l7 {α β:Type} {f g:α->Option β}:∀ {l:List α},(∀ x∈l,f x=g x)->l.filterMap f=l.filterMap g
 | [],_=>rfl
 | a::l,h=>by rw [List.filterMap_cons,List.filterMap_cons,h a List.mem_cons_self,l7 fun x hx=>h x (Qh _ hx)]
theorem yM (xs:Array Value):((List.range xs.size).filterMap fun (k:Nat)=>xs[(((xs.size:Int) - 1)+(k:Int)*(-1)).toNat]?)=xs.toList.reverse:=by
 have e:((List.range xs.size).filterMap fun (k:Nat)=>xs[(((xs.size:Int) - 1)+(k:Int)*(-1)).toNat]?)=(List.range xs.size).map fun k=>xs.toList.reverse.getD k .none:=by
  rw [<- List.filterMap_eq_map]
  refine l7 fun k hk=>?_
  have hk':=List.mem_range.mp hk
  have e1:(((xs.size:Int) - 1)+(k:Int)*(-1)).toNat=xs.size - 1 - k:=by omega
  rw [e1]
  have h1:xs.size - 1 - k < xs.size:=by omega
  have h2:k < xs.toList.reverse.length:=by simp;exact hk'
  show _=some (xs.toList.reverse.getD k .none)
  rw [Qb,Qa h2,List.getElem_reverse]
  simp [h1]
 rw [e]
 refine List.ext_getElem (by simp) fun i h1 h2=>?_
 rw [Qr,List.getElem_range,Qb,Qa h2];rfl
section
variable {st:Expr} {ts:TE} {p2 pos:Pos}
theorem be.rev:∀ {xs:List V} {us:List Value},be xs us->be xs.reverse us.reverse
 | _,_,.nil=>.nil
 | _,_,.cons r rr=>by
  rw [List.reverse_cons,List.reverse_cons]
  exact (be.rev rr).append (.cons r .nil)
end
inductive Hd where
 | one (s:Str)
 | as (y:Str)
 | way (x y:Str)
 | prs (s:Str) (ps:List (Str×Str))
def Hd.nx:Hd->Option Str
 | .as y=>some y
 | _=>none
def Hd.ok (ns:List Str):Hd->Prop
 | .one s=>s="all"\/s="none"
 | .as y=>isName y=true/\y∈ns
 | .way x y=>isName x=true/\isName y=true/\x∈ns/\y∈ns
 | .prs s ps=>(s="box"\/s="pick")/\(∀ p∈ps,isName p.1=true/\isName p.2=true/\p.2∈ns)/\rising (ps.map (·.1))=true/\ps.length<=10
structure EE (H:Hp) (xs:List V) (ps:List (Str×Str)):Prop where
 len:xs.length=ps.length
 at_:∀ i (h:i < xs.length) (h':i < ps.length),∃ c,xs[i]=.ref c/\H c=some (.tup [.str ps[i].1,.str ps[i].2])
theorem EE.tk {xs:List V} {ps:List (Str×Str)} (h:EE H xs ps) (s:Tk H H'):EE H' xs ps:=⟨h.len,fun i a b=>let ⟨c,h1,h2⟩:=h.at_ i a b;⟨c,h1,s _ _ h2⟩⟩
inductive HV (H:Hp):V->Hd->Prop
 | one {b:Addr} {s:Str}:H b=some (.tup [.str s])->HV H (.ref b) (.one s)
 | as {b:Addr} {y:Str}:H b=some (.tup [.str "as",.str y])->HV H (.ref b) (.as y)
 | way {b:Addr} {x y:Str}:H b=some (.tup [.str "way",.str x,.str y])->HV H (.ref b) (.way x y)
 | prs {b c:Addr} {s:Str} {xs:List V} {ps:List (Str×Str)}:H b=some (.tup [.str s,.ref c])->H c=some (.tup xs)->EE H xs ps->HV H (.ref b) (.prs s ps)
theorem HV.tk {H H':Hp} (s:Tk H H') {v:V} {h:Hd} (q:HV H v h):HV H' v h:=by
 cases q with
 | one e=>exact .one (s _ _ e)
 | as e=>exact .as (s _ _ e)
 | way e=>exact .way (s _ _ e)
 | prs e e' p=>exact .prs (s _ _ e) (s _ _ e') (p.tk s)
section
variable {v:V} {P:Option Str->Prop}
end
def Hd.dt:Hd->Dt
 | .one s=>.tup [.str s]
 | .as y=>.tup [.str "as",.str y]
 | .way x y=>.tup [.str "way",.str x,.str y]
 | .prs s ps=>.tup [.str s,.tup (ps.map fun p=>.tup [.str p.1,.str p.2])]
theorem HV.tx {v:V} {h:Hd} (q:HV H v h) (ok:h.ok ns):TX H v h.dt:=by
 cases q with
 | one e=>exact Vq e (oC (by rcases ok with rfl | rfl<;>decide))
 | as e=>exact nQ e (oC (by decide)) (iU ok.1)
 | way e=>exact Vr e (oC (by decide)) (iU ok.1) (iU ok.2.1)
 | @prs b c s xs ps e e' p=>
  have GA:=ok.2.2.2
  have hl:=p.len
  refine nQ e (oC (by rcases ok.1 with rfl | rfl<;>decide)) (.tup e' (by simp [p.len]) (by omega) fun i h1 h2=>?_)
  have h3:i < ps.length:=by simpa using h2
  obtain ⟨c',q1,q2⟩:=p.at_ i h1 h3
  obtain ⟨m1,m2,_⟩:=ok.2.1 _ (Qj h3)
  rw [q1]
  simp only [Qr]
  exact nQ q2 (iU m1) (iU m2)
abbrev ak:=Str×Hd
end L2
variable {tA:L2.TT} {g:L2.TG} {ta:L2.TA} {wi:L2.TI} {sp:L2.Sp} {tc:L2.TC} {d:L2.Dt} {ds:List L2.Dt} {rs r1 r2:List L2.ak}
namespace L2
open PySem PySem.Spec PyProof.Rows
structure RV (H:Hp) (xs:List V) (rows:List ak):Prop where
 len:xs.length=rows.length
 at_:∀ i (h:i < xs.length) (h':i < rows.length),∃ b v,xs[i]=.ref b/\H b=some (.tup [.str rows[i].1,v])/\HV H v rows[i].2
theorem RV.tk {H H':Hp} {xs:List V} {rows:List ak} (h:RV H xs rows) (s:Tk H H'):RV H' xs rows:=⟨h.len,fun i a b=>let ⟨c,v,h1,h2,h3⟩:=h.at_ i a b;⟨c,v,h1,s _ _ h2,h3.tk s⟩⟩
def Vu (r:ak):Dt:=.tup [.str r.1,r.2.dt]
def MY (ns:List Str) (rows:List ak):Prop:=∀ r∈rows,isName r.1=true/\r.2.ok ns
def Hd.pre:Hd->List Str
 | .one s=>[s]
 | .as _=>[]
 | .way _ _=>["way"]
 | .prs s _=>[s]
inductive DA (P:Addr->Prop) (H:Hp):Bool->V->PyData->Dt->Prop
 | str {m:Bool} {z:Str} (h:z.length<=100000):DA P H m (.str z) (.str z) (.str z)
 | ai {m:Bool}:DA P H m .ai .none .oz
 | bl {m:Bool} (b:Bool):DA P H m (.bl b) (.bool b) .oz
 | int {m:Bool} (i:Int):DA P H m (.int i) (.int i) .oz
 | tup {m:Bool} {a:Addr} {xs:List V} {ps:List PyData} {ds:List Dt}:P a->H a=some (.tup xs)->xs.length=ps.length->xs.length=ds.length->xs.length<=1000->(∀ i (h:i < xs.length) (h':i < ps.length) (C3:i < ds.length),DA P H m xs[i] ps[i] ds[i])->DA P H m (.ref a) (.tuple ps) (.tup ds)
 | lst {a:Addr} {xs:List V} {ps:List PyData} {ds:List Dt}:P a->H a=some (.lst xs)->xs.length=ps.length->xs.length=ds.length->(∀ i (h:i < xs.length) (h':i < ps.length) (C3:i < ds.length),DA P H true xs[i] ps[i] ds[i])->DA P H true (.ref a) (.list ps) .oz
 | Vv {a:Addr}:P a->H a=some (.dK [])->DA P H false (.ref a) (.dict []) .oz
 | Vw {a:Addr} {z:Str} {x:V} {p:PyData} {d:Dt}:P a->H a=some (.dK [(.inr z,x)])->DA P H false x p d->DA P H false (.ref a) (.dict [(.str z,p)]) .oz
theorem DA.dd {P:Addr->Prop} {m:Bool} {v:V} {p:PyData} (h:DA P H m v p d):DD H v d:=by
 induction h with
 | str h=>exact .str h
 | ai=>exact .ai
 | bl b=>exact .bl b
 | int i=>exact .int i
 | tup _ e h1 h2 h3 _ ih=>exact .tup e h2 h3 fun i a b=>ih i a (by omega) b
 | lst _ e h1 h2 _ ih=>exact .lst e
 | Vv _ e=>exact .dct e
 | Vw _ e _ ih=>exact .dct e
section
variable {P P':Addr->Prop} {m:Bool} {v:V} {k k' n':Nat} {xs:List V}
end
section
variable {P:Addr->Prop} {m:Bool} {k c:Nat}
end
section
variable {pos:Pos}
theorem qJ {y:Str} {a b:Expr} {px py pt:Pos} {kt k2 BH} (hc:X.calm=true) (hN:X.N.Nodup) (hi:X.N[i]? =some x) (hj:X.N[j]? =some y) (rm:i≠j) (hx:X.env.scope.names.lookup x=some .local) (hy:X.env.scope.names.lookup y=some .local) (ha:SA X [a,b] ta)
  (hw:swappedStores [.Tuple [.Name x px,.Name y py] kt pt] (.Tuple [a,b] k2 BH) X.env=pure (some [x,y])) (hs:swapsWithSole [.Tuple [.Name x px,.Name y py] kt pt] (.Tuple [a,b] k2 BH) pos.line X.env=pure false:=by rfl):SS X (.Assign [.Tuple [.Name x px,.Name y py] kt pt] (.Tuple [a,b] k2 BH) pos) (LY i j ta):=⟨RX hc hN hi hj rm hx hy ha.h hw hs⟩
end
theorem iN (y:Str) (zs:List Str):Ad (.str y) (zs.map V.str)=decide (y∈zs):=by
 rw [Bool.eq_iff_iff,decide_eq_true_iff]
 unfold Ad
 rw [List.any_map,List.any_eq_true]
 constructor
 ·rintro ⟨a,ha,e⟩
  have e':(a==y)=true:=e
  rw [<- eq_of_beq e'];exact ha
 ·intro h
  exact ⟨y,h,(beq_self_eq_true y:(y==y)=true)⟩
section
variable {I:Addr} {wr:List Addr} {P:Nat->Value->Prop} {St:Nat->Shared->Prop}
end
section
variable {a b c:Expr} {p pos:Pos}
end
def Hd.A2:Hd->List Str
 | .prs _ ps=>ps.map (·.1)
 | _=>[]
structure qz (H:Hp) (ns ws:List Str) (v:V) (P:Option Str->Prop):Prop where
 ex:∃ h,HV H v h/\h.ok ns/\P h.nx/\∀ z∈h.A2,z∈ws
section
variable {v:V} {P:Option Str->Prop}
theorem qz.tk {H':Hp} (h:qz H ns ws v P) (s:Tk H H'):qz H' ns ws v P:=let ⟨d,h1,h2⟩:=h.ex;⟨d,h1.tk s,h2⟩
theorem qz.imp {P':Option Str->Prop} (h:qz H ns ws v P) (f:∀ o,P o->P' o):qz H ns ws v P':=let ⟨d,h1,h2,h3,h4⟩:=h.ex;⟨d,h1,h2,f _ h3,h4⟩
theorem Vx {y:Str} (e:H b=some (.tup [.str "as",.str y])) (hy:isName y=true) (hm:y∈ns) (hP:P (some y)):qz H ns ws (.ref b) P:=⟨.as y,.as e,⟨hy,hm⟩,hP,(fun _ h=>nomatch h)⟩
theorem xX (e:H b=some (.tup [.str "none"])) (hP:P none):qz H ns ws (.ref b) P:=⟨.one "none",.one e,.inr rfl,hP,(fun _ h=>nomatch h)⟩
theorem Vy (e:H b=some (.tup [.str "all"])) (hP:P none):qz H ns ws (.ref b) P:=⟨.one "all",.one e,.inl rfl,hP,(fun _ h=>nomatch h)⟩
theorem Vz {y:Str} (e:H b=some (.tup [.str "way",.str x,.str y])) (hx:isName x=true) (hy:isName y=true) (mx:x∈ns) (my:y∈ns) (hP:P none):qz H ns ws (.ref b) P:=⟨.way x y,.way e,⟨hx,hy,mx,my⟩,hP,(fun _ h=>nomatch h)⟩
theorem u8 {s:Str} {c:Addr} {xs:List V} {ps:List (Str×Str)} (hs:s="box"\/s="pick") (e:H b=some (.tup [.str s,.ref c])) (ec:H c=some (.tup xs)) (hn:xs.length<=10) (h:MX H ns xs ps) (hw:∀ q∈ps,q.1∈ws) (hP:P none):qz H ns ws (.ref b) P:=
 ⟨.prs s ps,.prs e ec ⟨h.len,h.at_⟩,⟨hs,h.nm,h.dc,by rw [<- h.len];exact hn⟩,hP,fun z hz=>by obtain ⟨q,hq,rfl⟩:=List.mem_map.mp hz;exact hw q hq⟩
end
theorem MZ {y:Str} (e:H b=some (.tup [.str x,.str y])) (hx:Wd x) (hy:Wd y):TB H (.ref b) 1 411:=
 (TB.tup (k:=0) (n:=202) e fun v hv=>by
  simp only [Qp,QA,or_false] at hv
  rcases hv with rfl | rfl
  ·exact TB.str hx
  ·exact TB.str hy).mono (by omega) (by simp)
theorem HV.tb {ws:List Str} {v:V} {h:Hd} (q:HV H v h) (ok:h.ok ns) (hn:∀ n∈ns,Wd n) (hw:∀ z∈h.A2,Wd z):TB H v 3 8273:=by
 cases q with
 | one e=>
  refine (TB.tup (k:=0) (n:=202) e fun v hv=>?_).mono (by omega) (by simp)
  rw [List.mem_singleton.mp hv]
  rcases ok with rfl | rfl<;>exact TB.str (fA (by decide) (by decide))
 | as e=>exact (MZ e (fA (by decide) (by decide)) (hn _ ok.2)).mono (by omega) (by omega)
 | way e=>
  refine (TB.tup (k:=0) (n:=202) e fun v hv=>?_).mono (by omega) (by simp)
  simp only [Qp,QA,or_false] at hv
  rcases hv with rfl | rfl | rfl
  ·exact TB.str (fA (by decide) (by decide))
  ·exact TB.str (hn _ ok.2.2.1)
  ·exact TB.str (hn _ ok.2.2.2)
 | @prs b c s xs ps e e' p=>
  have GA:=ok.2.2.2
  have hl:=p.len
  refine (TB.tup (k:=2) (n:=4133) e fun v hv=>?_).mono (by omega) (by simp)
  simp only [Qp,QA,or_false] at hv
  rcases hv with rfl | rfl
  ·rcases ok.1 with rfl | rfl<;>exact (TB.str (fA (by decide) (by decide))).mono (by omega) (by omega)
  ·refine (TB.tup (k:=1) (n:=411) e' fun x hx=>?_).mono (by omega) (by omega)
   obtain ⟨i,hi,rfl⟩:=Qi hx
   have h3:i < ps.length:=by omega
   obtain ⟨c',q1,q2⟩:=p.at_ i hi h3
   rw [q1]
   have hm:ps[i]∈ps:=Qj h3
   exact MZ q2 (hw _ (List.mem_map.mpr ⟨_,hm,rfl⟩)) (hn _ (ok.2.1 _ hm).2.2)
theorem oZ (a:Str):qw a a=false:=by
 unfold qw
 exact Qw (List.lt_irrefl _)
def A3 (ns:List Str) (n:Str) (o:Option Str):Prop:=∀ y,o=some y->∃ (i j:Nat),i < j/\ns[i]? =some y/\ns[j]? =some n
structure ly (H:Hp) (ns ws:List Str) (rs:List (Str×V)):Prop where
 sub:∀ r∈rs,r.1∈ns
 hd:∀ r∈rs,qz H ns ws r.2 (A3 ns r.1)
theorem ly.tk {H H':Hp} {ns ws:List Str} {rs:List (Str×V)} (h:ly H ns ws rs) (s:Tk H H'):ly H' ns ws rs:=⟨h.sub,fun r hr=>(h.hd r hr).tk s⟩
theorem ly.perm {rs rs':List (Str×V)} (h:ly H ns ws rs) (p:∀ r∈rs',r∈rs):ly H ns ws rs':=⟨fun r hr=>h.sub r (p r hr),fun r hr=>h.hd r (p r hr)⟩
theorem ly.add {rs:List (Str×V)} (h:ly H ns ws rs) {n:Str} {v:V} (h1:n∈ns) (h2:qz H ns ws v (A3 ns n)):ly H ns ws ((n,v)::rs):=by
 refine ⟨fun r hr=>?_,fun r hr=>?_⟩<;>rcases Qp.mp hr with rfl | hr
 ·exact h1
 ·exact h.sub r hr
 ·exact h2
 ·exact h.hd r hr
structure RT (H:Hp) (a:Addr) (xs:List V) (rows:List ak) (ns ws:List Str):Prop where
 at_:H a=some (.tup xs)
 rv:RV H xs rows
 nm:(rows.map (·.1)).Perm ns
 nd:ns.Nodup
 ok:MY ns rows
 wd:∀ n∈ns,Wd n
 ah:∀ r∈rows,A3 ns r.1 r.2.nx
 ww:∀ r∈rows,∀ z∈r.2.A2,z∈ws
 pos:1<=ns.length
 few:ns.length<=14
section
variable {xs:List V} {rows:List ak}
theorem RT.tk (h:RT H a xs rows ns ws) (s:Tk H H'):RT H' a xs rows ns ws:=⟨s _ _ h.at_,h.rv.tk s,h.nm,h.nd,h.ok,h.wd,h.ah,h.ww,h.pos,h.few⟩
theorem RT.rl (h:RT H a xs rows ns ws):rows.length=ns.length:=by have:=h.nm.length_eq;simpa using this
theorem RT.jw (h:RT H a xs rows ns ws):(rows.map (·.1)).Nodup:=by rw [h.nm.nodup_iff];exact h.nd
theorem RT.of {rs:List (Str×V)} (e:H a=some (.tup xs)) (ps:iy H xs (bf rs)) (nm:(rs.map (·.1)).Perm ns) (nd:ns.Nodup) (M0:∀ n∈ns,isName n=true/\Wd n) (pos:1<=ns.length) (few:ns.length<=14) (g:ly H ns ws rs):∃ rows,RT H a xs rows ns ws:=by
 have hc:∀ i:Fin rs.length,∃ hd:Hd,HV H rs[i.val].2 hd/\hd.ok ns/\A3 ns rs[i.val].1 hd.nx/\∀ z∈hd.A2,z∈ws:=fun i=>(g.hd _ (Qj i.isLt)).ex
 obtain ⟨f,hf⟩:=Classical.axiomOfChoice hc
 have ur:xs.length=rs.length:=by have:=ps.1;simpa using this
 have en:(List.ofFn fun i:Fin rs.length=>((rs[i.val].1,f i):ak)).map (·.1)=rs.map (·.1):=by
  apply List.ext_getElem
  ·simp
  ·intro i h1 h2;simp
 have mem:∀ r∈(List.ofFn fun i:Fin rs.length=>((rs[i.val].1,f i):ak)),∃ i:Fin rs.length,r=(rs[i.val].1,f i):=fun r hr=>by
  obtain ⟨i,hi,rfl⟩:=Qi hr
  exact ⟨⟨i,by simpa using hi⟩,by simp⟩
 refine ⟨List.ofFn fun i=>(rs[i.val].1,f i),e,⟨by simp [ur],fun i h1 h2=>?_⟩,by rw [en];exact nm,nd,fun r hr=>?_,fun n hn=>(M0 n hn).2,fun r hr=>?_,fun r hr=>?_,pos,few⟩
 ·have h3:i < rs.length:=by omega
  obtain ⟨b,e1,e2⟩:=ps.2 i (by simpa using h3)
  rw [Qa h1] at e1
  refine ⟨b,rs[i].2,QD e1,?_,?_⟩
  ·simpa [bf,kV] using e2
  ·simpa using (hf ⟨i,h3⟩).1
 ·obtain ⟨i,rfl⟩:=mem r hr
  exact ⟨(M0 _ (g.sub _ (Qj i.isLt))).1,(hf i).2.1⟩
 ·obtain ⟨i,rfl⟩:=mem r hr
  exact (hf i).2.2.1
 ·obtain ⟨i,rfl⟩:=mem r hr
  exact (hf i).2.2.2
end
section
variable {xs ys:List V} {rows ig:List ak} {ws':List Str} {f g:Str->Str}
theorem RT.pairs (h:RT H a xs rows ns ws):∃ rs:List (Str×V),iy H xs (bf rs)/\rs.map (·.1)=rows.map (·.1)/\rs.length=rows.length/\∀ i (h1:i < rs.length) (h2:i < rows.length),HV H rs[i].2 rows[i].2:=by
 have hl:=h.rv.len
 have hc:∀ i:Fin rows.length,∃ v:V,(∃ b,xs[i.val]? =some (.ref b)/\H b=some (.tup [.str rows[i.val].1,v]))/\HV H v rows[i.val].2:=fun i=>by
  obtain ⟨b,v,q1,q2,q3⟩:=h.rv.at_ i.val (by have:=i.isLt;omega) i.isLt
  exact ⟨v,⟨b,by rw [Qa (by have:=i.isLt;omega),q1],q2⟩,q3⟩
 obtain ⟨f,hf⟩:=Classical.axiomOfChoice hc
 refine ⟨List.ofFn fun i=>(rows[i.val].1,f i),⟨by simp [hl],fun i hi=>?_⟩,?_,by simp,fun i h1 h2=>?_⟩
 ·have dh:i < rows.length:=by simpa using hi
  obtain ⟨b,q1,q2⟩:=(hf ⟨i,dh⟩).1
  exact ⟨b,q1,by simpa [bf,kV] using q2⟩
 ·apply List.ext_getElem
  ·simp
  ·intro i h1 h2;simp
 ·simpa using (hf ⟨i,h2⟩).2
def aq (rows:List ak) (x:Str):Hd:=((rows.find? fun r=>decide (r.1=x)).map (·.2)).getD (.one "")
def gi (rows:List ak) (x:Str):Option Str:=(aq rows x).nx
theorem cR (nd:(rows.map (·.1)).Nodup) {r:ak} (hr:r∈rows):aq rows r.1=r.2:=by
 obtain ⟨i,hi,rfl⟩:=Qi hr
 have:rows.find? (fun r=>decide (r.1=rows[i].1))=some rows[i]:=by
  rw [List.find?_eq_some_iff_getElem]
  refine ⟨by simp,i,hi,rfl,fun j hj=>?_⟩
  have iq:(rows.map (·.1))[j]'(by simp;omega)≠(rows.map (·.1))[i]'(by simpa using hi):=List.pairwise_iff_getElem.mp nd j i (by simp;omega) (by simpa using hi) hj
  simpa using iq
 unfold aq
 rw [this];rfl
theorem HV.VA {v:V} {h:Hd} (q:HV H v h) (ok:h.ok ns):BY H v h.nx:=by
 cases q with
 | one e=>exact ⟨_,rfl,.inl ⟨_,_,e,by rcases ok with rfl | rfl<;>decide,rfl⟩⟩
 | as e=>exact ⟨_,rfl,.inr ⟨_,e,rfl⟩⟩
 | way e=>exact ⟨_,rfl,.inl ⟨_,_,e,by decide,rfl⟩⟩
 | prs e e' p=>exact ⟨_,rfl,.inl ⟨_,_,e,by rcases ok.1 with rfl | rfl<;>decide,rfl⟩⟩
theorem RT.good (h:RT H a xs rows ns ws) (hw:∀ z∈ws,Wd z):∃ rs,ow H a xs rs (gi rows) (fun n=>ns.idxOf n)/\rs.map (·.1)=rows.map (·.1)/\rs.length=rows.length/\∀ x v,x∈ns->bh (dictOf (bf rs)) (.inr x)=some v->HV H v (aq rows x):=by
 obtain ⟨rs,ps,nm,rl,hv⟩:=h.pairs
 have A4:=h.rl
 have hf:=h.few
 have hp:=h.pos
 have nd:(rs.map (·.1)).Nodup:=by rw [nm];exact h.jw
 have jp:∀ n,n∈ns↔n∈rs.map (·.1):=fun n=>by rw [nm];exact h.nm.mem_iff.symm
 have at':∀ r∈rs,∃ r'∈rows,r.1=r'.1/\HV H r.2 r'.2:=fun r hr=>by
  obtain ⟨i,hi,rfl⟩:=Qi hr
  have dh:i < rows.length:=by omega
  refine ⟨rows[i],Qj dh,?_,hv i hi dh⟩
  have:(rs.map (·.1))[i]'(by simpa using hi)=(rows.map (·.1))[i]'(by simpa using dh):=by simp only [nm]
  simpa using this
 have g:ow H a xs rs (gi rows) (fun n=>ns.idxOf n):=by
  refine ⟨h.at_,ps,nd,by omega,by omega,fun r hr=>?_,fun r hr y hy=>?_,fun r hr=>?_,fun r hr=>?_⟩
  ·obtain ⟨r',gh,e,v⟩:=at' r hr
   unfold gi
   rw [e,cR h.jw gh]
   exact v.VA (h.ok r' gh).2
  ·obtain ⟨r',gh,e,v⟩:=at' r hr
   unfold gi at hy
   rw [e,cR h.jw gh] at hy
   obtain ⟨i,j,rm,h1,h2⟩:=h.ah r' gh y hy
   refine ⟨(jp y).mp (QC h1),?_⟩
   show ns.idxOf y < ns.idxOf r.1
   rw [e,nB h.nd h1,nB h.nd h2]
   exact rm
  ·have:=List.idxOf_lt_length_of_mem ((jp r.1).mpr (List.mem_map.mpr ⟨r,hr,rfl⟩))
   show ns.idxOf r.1<=_
   omega
  ·obtain ⟨r',gh,e,v⟩:=at' r hr
   refine ⟨h.wd _ ((jp r.1).mpr (List.mem_map.mpr ⟨r,hr,rfl⟩)),v.tb (ws:=ws) (h.ok r' gh).2 h.wd fun z hz=>hw z (h.ww r' gh z hz)⟩
 refine ⟨rs,g,nm,rl,fun x v hx o_=>?_⟩
 obtain ⟨v',m,e⟩:=g.get ((jp x).mp hx)
 rw [o_] at e
 cases e
 obtain ⟨r',gh,e,q⟩:=at' _ m
 have e':x=r'.1:=e
 rw [e',cR h.jw gh]
 exact q
end
def Hd.bz:Hd->List (List Str×Str)
 | .way x y=>[(["from"],x),(["to"],y)]
 | .prs s ps=>ps.map fun p=>([if s="box" then "part" else "case",p.1],p.2)
 | _=>[]
theorem tH:∀ {h:Hd},h.ok ns->∀ m∈h.bz,m.2∈ns
 | .one _,_,_,hm=>nomatch hm
 | .as _,_,_,hm=>nomatch hm
 | .way x y,ok,m,hm=>by
  simp only [Hd.bz,Qp,QA,or_false] at hm
  rcases hm with rfl | rfl
  ·exact ok.2.2.1
  ·exact ok.2.2.2
 | .prs s ps,ok,m,hm=>by
  obtain ⟨p,hp,rfl⟩:=List.mem_map.mp hm
  exact (ok.2.1 p hp).2.2
structure MV (H:Hp) (xs:List V) (ms:List (List Str×Str)):Prop where
 len:xs.length=ms.length
 at_:∀ i (h:i < xs.length) (h':i < ms.length),∃ c b,xs[i]=.ref c/\H c=some (.tup [.ref b,.str ms[i].2])/\H b=some (.tup (ms[i].1.map V.str))
theorem MV.tk {xs:List V} {ms:List (List Str×Str)} (h:MV H xs ms) (s:Tk H H'):MV H' xs ms:=⟨h.len,fun i a b=>let ⟨c,d,h1,h2,h3⟩:=h.at_ i a b;⟨c,d,h1,s _ _ h2,s _ _ h3⟩⟩
theorem MV.nil:MV H [] []:=⟨rfl,fun i h=>absurd h (by simp)⟩
theorem MV.snoc {xs:List V} {ms:List (List Str×Str)} (h:MV H xs ms) {c:Addr} {m:List Str×Str} (e1:H c=some (.tup [.ref b,.str m.2])) (e2:H b=some (.tup (m.1.map V.str))):MV H (xs++[.ref c]) (ms++[m]):=by
 have hl:=h.len
 refine ⟨by simp [hl],fun i h1 h2=>?_⟩
 by_cases ao:i < xs.length
 ·rw [Qe ao,Qe (by omega)]
  exact h.at_ i ao (by omega)
 ·have e:i=xs.length:=by simp at h1;omega
  subst e
  rw [Qf (Qy _),Qf (by omega)]
  simp only [Nat.sub_self,hl,List.getElem_cons_zero]
  exact ⟨c,b,rfl,e1,e2⟩
def endOf (rows:List ak) (x:Str):Str:=fc (gi rows) rows.length x
def b_ (rows:List ak) (x:Str):List (List Str×Str):=(aq rows (endOf rows x)).bz.map fun m=>(m.1,endOf rows m.2)
theorem RT.B3 {H:Hp} {a:Addr} {xs:List V} {rows:List ak} {ns ws:List Str} (rt:RT H a xs rows ns ws) (hw:∀ z∈ws,Wd z) {x:Str} (hx:x∈ns):endOf rows x∈ns/\(aq rows (endOf rows x)).nx=none/\(aq rows (endOf rows x)).ok ns:=by
 obtain ⟨rs,g,nm,rl,hv⟩:=rt.good hw
 have hm:∀ z,z∈ns↔z∈rs.map (·.1):=fun z=>by rw [nm];exact rt.nm.mem_iff.symm
 obtain ⟨h1,h2⟩:=g.B3 ((hm x).mp hx)
 rw [rl] at h1 h2
 refine ⟨(hm _).mpr h1,h2,?_⟩
 have h3:endOf rows x∈rows.map (·.1):=by rw [<- nm];exact h1
 obtain ⟨r,hr,e⟩:=List.mem_map.mp h3
 rw [<- e,cR rt.jw hr]
 exact (rt.ok r hr).2
structure EF (K:Q0) (t:Addr×Obj×List V):Prop where
 lk:K.lookup t.1=some t.2.1
 ok:∃ (its:List Value) (n:Nat),t.2.1.cls=.type "tuple"/\t.2.1.dict=none/\t.2.1.data=.seq its.toArray n/\be t.2.2 its/\t.2.2.length<=sizeLine
def without (K:Q0) (as:List Addr):Q0:=K.filter fun p=> !as.contains p.1
theorem cT {as:List Addr} {b:Addr}:∀ {K:Q0},(without K as).lookup b=if as.contains b=true then none else K.lookup b
 | []=>by unfold without;simp
 | (c,o)::K=>by
  have ih:=cT (as:=as) (b:=b) (K:=K)
  unfold without at ih ⊢
  rw [List.filter_cons]
  by_cases hc:as.contains c=true
  ·have h0:¬(!as.contains (c,o).1)=true:=by show ¬(!as.contains c)=true;rw [hc];decide
   rw [if_neg h0,ih]
   by_cases hb:as.contains b=true
   ·rw [if_pos hb,if_pos hb]
   ·have n:(b==c)=false:=by
     cases e:b==c with
     | false=>rfl
     | true=>rw [eq_of_beq e] at hb;exact absurd hc hb
    rw [if_neg hb,if_neg hb,List.lookup_cons,n]
  ·have h0:(!as.contains (c,o).1)=true:=by
    show (!as.contains c)=true
    cases q:as.contains c with
    | true=>exact absurd q hc
    | false=>rfl
   rw [if_pos h0,List.lookup_cons,List.lookup_cons,ih]
   cases e:b==c with
   | true=>
    have:¬as.contains b=true:=by rw [eq_of_beq e];exact hc
    show some o=if as.contains b=true then none else some o
    rw [if_neg this]
   | false=>rfl
def M3 (H:Hp):Prop:=∀ b,H b=none\/∃ o u,H b=some (.au o u)
def jc (ts:List (Addr×Obj×List V)) (G:Hp):Hp:=fun b=>match ts.find? fun t=>decide (t.1=b) with
 | some t=>some (.au t.2.1 (.tup t.2.2))
 | none=>G b
theorem zT {ts:List (Addr×Obj×List V)} {G:Hp} {t:Addr×Obj×List V} (h:t∈ts) (nd:(ts.map (·.1)).Nodup):jc ts G t.1=some (.au t.2.1 (.tup t.2.2)):=by
 induction ts with
 | nil=>cases h
 | cons a ts ih=>
  unfold jc
  rw [List.find?_cons]
  rw [List.map_cons,List.nodup_cons] at nd
  by_cases e:a.1=t.1
  ·rw [Qv e]
   rcases Qp.mp h with rfl | h
   ·rfl
   ·exact absurd (List.mem_map.mpr ⟨t,h,e.symm⟩) nd.1
  ·rw [Qw e]
   rcases Qp.mp h with rfl | h
   ·exact absurd rfl e
   ·exact ih h nd.2
theorem dY {ts:List (Addr×Obj×List V)} {G:Hp}:(∃ t∈ts,t.1=b/\jc ts G b=some (.au t.2.1 (.tup t.2.2)))\/((∀ t∈ts,t.1≠b)/\jc ts G b=G b):=by
 unfold jc
 cases q:ts.find? fun t=>decide (t.1=b) with
 | some t=>
  have h1:=List.mem_of_find?_eq_some q
  have h2:=List.find?_some q
  exact .inl ⟨t,h1,Qt h2,rfl⟩
 | none=>
  refine .inr ⟨fun t ht e=>?_,rfl⟩
  have:=List.find?_eq_none.mp q t ht
  simp [e] at this
theorem wD {K:Q0} {mb:Str->Option Value} {CX:xg} {k:Nat} {fa:Addr} {s₁:Shared} {ns:List Int} {ts:List (Addr×Obj×List V)}
  (A5:∀ t∈ts,EF K t) (nd:(ts.map (·.1)).Nodup)
  (KX:K.In s₁.heap) (M4:s₁.heap.Ns mainGlobals mg) (hb:s₁.heap.Ns builtinsNs mb) (VB:∀ x:Str,x≠"__name__"->mb x=bootBuiltins x) (VC:s₁.heap.NoLimit) (hg:s₁.gens=#[])
  (ha:s₁.heap.get? a=some {cls:=.type "list",data:=.seq vs.toArray}) (hi:IntsAre vs ns) (hl:ns.length<=sizeLine) (hr:fu k callerA)
  (F:∀ base:Heap,(without K (ts.map (·.1))).In base->base.Ns mainGlobals mg->ud P w (without K (ts.map (·.1))) mg base CX k fa fd [x] sp) (VD:∀ (s:Shared) (u:Value),BindsTo s fd ⟨[u],[]⟩ [(x,u)])
  (yx:∀ H:Hp,M3 H->(∀ t∈ts,H t.1=some (.au t.2.1 (.tup t.2.2)))->af (without K (ts.map (·.1))) H a (ns.map V.int)->sp [.ref a] H (fun v _=>v=.bl true) fun _ _ _=>False)
  (VE:∀ H e s',CX [] H s₁ (fun _ _ _=>False) e s'->False):
  codeAny (model P w) callerA (.call (.ref fa) ⟨[.ref a],[]⟩) (fun r s'=>r=.ok (.ret (.bool true))/\OldK s₁.heap s'.heap/\s'.os=s₁.os/\AllBare s'.gens) s₁:=by
 have rv:=n6 hi
 have VF:=hi.length
 have I_:∀ t∈ts,s₁.heap.get? t.1=some t.2.1:=fun t ht=>KX _ _ (A5 t ht).lk
 have M5:∀ t∈ts,t.1≠a:=fun t ht e=>by
  obtain ⟨its,n,h1,_⟩:=(A5 t ht).ok
  have:=I_ t ht
  rw [e,ha] at this
  rw [<- QD this] at h1
  injection h1 with h2
  exact absurd h2 (by decide)
 have core:∀ G:Hp,(∀ b,G b≠none->b=a)->(G a≠none->K.lookup a=none)->(∀ b,G b=none\/∃ o u,G b=some (.au o u))->af (without K (ts.map (·.1))) (jc ts G) a (ns.map V.int)->(∀ u,G a=some u->∀ H,bx P w H s₁.heap a u)->
   codeAny (model P w) callerA (.call (.ref fa) ⟨[.ref a],[]⟩) (fun r s'=>r=.ok (.ret (.bool true))/\OldK s₁.heap s'.heap/\s'.os=s₁.os/\AllBare s'.gens) s₁:=by
  intro G hG hK hF hS hO
  have mj:∀ b,jc ts G b≠none->b=a\/∃ t∈ts,t.1=b:=fun b q=>by
   rcases dY (ts:=ts) (G:=G) (b:=b) with ⟨t,ht,e,_⟩ | ⟨_,e⟩
   ·exact .inr ⟨t,ht,e⟩
   ·rw [e] at q;exact .inl (hG b q)
  have au:M3 (jc ts G):=fun b=>by
   rcases dY (ts:=ts) (G:=G) (b:=b) with ⟨t,ht,e,q⟩ | ⟨_,q⟩
   ·exact .inr ⟨_,_,q⟩
   ·rw [q];exact hF b
  have hok:fh P w (jc ts G) s₁.heap:=fun b u q=>by
   rcases dY (ts:=ts) (G:=G) (b:=b) with ⟨t,ht,e,q'⟩ | ⟨_,q'⟩
   ·rw [q'] at q
    cases q
    obtain ⟨its,n,h1,h2,h3,h4,h5⟩:=(A5 t ht).ok
    have o1:=I_ t ht
    rw [e] at o1
    exact ⟨o1,⟨h5,fun o z=>by rw [o1] at z;cases z;exact h2⟩,its,h4,t.2.1,o1,h1,n,h3⟩
   ·rw [q'] at q
    have e:=hG b (by rw [q];simp)
    subst e
    exact hO u q _
  have M6:∀ {b:Addr} {o:Obj},s₁.heap.get? b=some o->jc ts G b=none->(zm s₁.heap (jc ts G)).get? b=some o:=fun e n=>xU e n
  have Eb:∀ {b:Addr} {o:Obj} {es:Array DictEntry} {ep:Nat},s₁.heap.get? b=some o->o.data=.dict es ep->jc ts G b=none:=fun {b o es ep} e d=>by
   cases q:jc ts G b with
   | none=>rfl
   | some u=>
    rcases mj b (by rw [q];simp) with z | ⟨t,ht,z⟩
    ·subst z
     rw [ha] at e;cases e
     cases d
    ·have o1:=I_ t ht
     rw [z,e] at o1
     cases o1
     obtain ⟨its,n,h1,h2,h3,_⟩:=(A5 t ht).ok
     rw [d] at h3;cases h3
  have GB:∀ {b:Addr} {m:Str->Option Value},s₁.heap.Ns b m->(zm s₁.heap (jc ts G)).Ns b m:=fun {b m} ⟨o,es,ep,e,d,r⟩=>⟨o,es,ep,M6 e (Eb e d),d,r⟩
  have M7:(without K (ts.map (·.1))).In (zm s₁.heap (jc ts G)):=fun b o e=>by
   rw [cT] at e
   by_cases hc:(ts.map (·.1)).contains b=true
   ·rw [if_pos hc] at e;cases e
   ·rw [if_neg hc] at e
    refine M6 (KX b o e) ?_
    cases q:jc ts G b with
    | none=>rfl
    | some u=>
     rcases dY (ts:=ts) (G:=G) (b:=b) with ⟨t,ht,z,_⟩ | ⟨_,q'⟩
     ·exact absurd (by rw [List.contains_iff_mem];exact List.mem_map.mpr ⟨t,ht,z⟩) hc
     ·rw [q'] at q
      have z:=hG b (by rw [q];simp)
      subst z
      rw [hK (by rw [q];simp)] at e;cases e
  have hM:Mod (without K (ts.map (·.1))) mg (zm s₁.heap (jc ts G)):=⟨M7,GB M4,⟨mb,GB hb,VB⟩,let ⟨mc,h1,h2⟩:=VC;⟨mc,GB h1,h2⟩⟩
  have e0:BN P w (without K (ts.map (·.1))) mg (zm s₁.heap (jc ts G)) callerA [] s₁ (jc ts G):=⟨rfl,hM,fun b o e=>Rh e,Nat.le_of_eq (vZ _ _),trivial,fun b hb=>absurd (show b∈([]:List Addr) from hb) (by simp),hok,.of_eq hg⟩
  refine codeAny_mono ((F _ M7 (GB M4)).run callerA [] s₁ (jc ts G) ⟨[.ref a],[]⟩ [.ref a] [.ref a] _ _ hr e0 (VD s₁ (.ref a)) (.cons rfl .nil) (yx (jc ts G) au (fun t ht=>zT ht nd) hS)) fun r s' h=>?_
  cases r with
  | error e=>exact (VE _ e s' h).elim
  | ok fl=>
   cases fl with
   | next=>exact False.elim h
   | brk=>exact False.elim h
   | cont=>exact False.elim h
   | ret u=>
    obtain ⟨v,H',os,bare,un,Ja,r',q⟩:=h
    have q':v=.bl true:=q
    subst q'
    obtain rfl:u=Value.bool true:=r'
    refine ⟨rfl,OldK.of_keep fun b o e=>?_,os,bare⟩
    cases q:jc ts G b with
    | none=>exact un.keep b o e q (by intro z;exact absurd (show b∈([]:List Addr) from z) (by simp)) (by simp)
    | some u=>
     rcases au b with z | ⟨ob,u',z⟩
     ·rw [q] at z;cases z
     ·have z2:=un.vh b ob _ z
      obtain ⟨e1,_⟩:=hok b _ z
      obtain ⟨e2,_⟩:=Ja b _ z2
      rw [e] at e1;cases e1
      exact e2
 have VG:¬(ts.map (·.1)).contains a=true:=fun h=>by
  rw [List.contains_iff_mem] at h
  obtain ⟨t,ht,e⟩:=List.mem_map.mp h
  exact M5 t ht e
 have VH:∀ G:Hp,jc ts G a=G a:=fun G=>by
  rcases dY (ts:=ts) (G:=G) (b:=a) with ⟨t,ht,e,_⟩ | ⟨_,q⟩
  ·exact absurd e (M5 t ht)
  ·exact q
 cases hk:K.lookup a with
 | some o=>
  have e:=KX a o hk
  rw [ha] at e
  cases e
  exact core (fun _=>none) (fun b z=>absurd rfl z) (fun z=>absurd rfl z) (fun _=>.inl rfl) (.inr ⟨_,vs.toArray,_,by rw [cT,if_neg VG];exact hk,rfl,rfl,rfl,by rw [List.size_toArray,VF];exact hl,by simpa using rv⟩) fun u z=>by cases z
 | none=>
  refine core (fun b=>if b=a then some (.au {cls:=.type "list",data:=.seq vs.toArray} (.lst (ns.map V.int))) else none) (fun b z=>?_) (fun _=>hk) (fun b=>?_) (.inl (.inr ⟨{cls:=.type "list",data:=.seq vs.toArray},by rw [VH];exact if_pos rfl⟩)) fun u z H=>?_
  ·by_cases hb:b=a
   ·exact hb
   ·exact absurd (if_neg hb) z
  ·by_cases hb:b=a
   ·exact .inr ⟨_,_,if_pos hb⟩
   ·exact .inl (if_neg hb)
  ·have z':=(if_pos rfl).symm.trans z
   cases z'
   exact ⟨ha,by rw [Ql];exact hl,vs,_,rv,ha⟩
def adr (mg:Str->Option Value) (x:Str):Addr:=match mg x with
 | some (.ref a)=>a
 | _=>0
theorem VI (h:mg x=some (.ref a)):RelV (.ref (adr mg x)) (.ref a):=by
 unfold adr
 rw [h]
 exact rfl
def Kn (mg:Str->Option Value) (H:Hp) (x:Str) (ys:List V):Prop:=∃ o,H (adr mg x)=some (.au o (.tup ys))
theorem Kn.same {ys:List V} (h:Kn mg H x ys) (s:aa H H'):Kn mg H' x ys:=let ⟨o,e⟩:=h;⟨o,s _ _ e⟩
theorem Kn.rd {ys:List V} (h:Kn mg H x ys):aj H (adr mg x) ys:=.inr h
theorem aj.same {ys:List V} (h:aj H b ys) (s:aa H H'):aj H' b ys:=h.imp (fun e=>s _ _ e) fun ⟨o,e⟩=>⟨o,s _ _ e⟩
structure SV (H:Hp) (xs:List V) (ss:List (List Str)):Prop where
 len:xs.length=ss.length
 at_:∀ i (h:i < xs.length) (h':i < ss.length),∃ b,xs[i]=.ref b/\aj H b (ss[i].map V.str)
theorem SV.keep {xs:List V} (h:SV H xs ss) (s:∀ b ys,aj H b ys->aj H' b ys):SV H' xs ss:=⟨h.len,fun i a b=>let ⟨c,h1,h2⟩:=h.at_ i a b;⟨c,h1,s _ _ h2⟩⟩
theorem SV.nil:SV H [] []:=⟨rfl,fun i h=>absurd h (by simp)⟩
theorem SV.snoc {xs:List V} (h:SV H xs ss) {m:List Str} (e:aj H b (m.map V.str)):SV H (xs++[.ref b]) (ss++[m]):=by
 have hl:=h.len
 refine ⟨by simp [hl],fun i h1 h2=>?_⟩
 by_cases ao:i < xs.length
 ·rw [Qe ao,Qe (by omega)]
  exact h.at_ i ao (by omega)
 ·have e':i=xs.length:=by simp at h1;omega
  subst e'
  rw [Qf (Qy _),Qf (by omega)]
  simp only [Nat.sub_self,hl,List.getElem_cons_zero]
  exact ⟨b,rfl,e⟩
section
variable {iter kx vx:Expr} {pos:Pos} {tk tw:TE}
def M8 (own:List Str) (idx:List Nat) (wi:TI) (g:TG) (tc:TC) (tk tw:TE):TE:=fun σ H Q=>wi σ H fun J H1=>∀ D,H1 D=none->∃ W:Nat->Nat->St->Hp->Prop,(∃ m,W 0 m (uf own idx σ) (upd H1 D (.dT [])))/\∀ i m τ H,W i m τ H->
 (J.stop i H/\Q (.ref D) H)\/(J.go i H/\∃ N:St->Hp->Prop,(∀ τ' H',N τ' H'->∃ m',m' < m/\W (i+1) m' τ' H')/\∀ x H',J.lg i H x H'->g x τ H' fun τ2 H2=>tc τ2 H2 fun b H3=>
  if b=true then tk τ2 H3 fun x H4=>tw τ2 H4 fun y H5=>∃ kvs key b,x=.ref b/\aj H5 b (key.map kV)/\H5 D=some (.dT kvs)/\kvs.length < sizeLine/\N τ2 (upd H5 D (.dT (putK kvs key y))) else N τ2 H3)
theorem o8 (S:qt X.env.scope X.N sc own idx N') (c1:∀ x c,cl.lookup x=some c->X.env.cells.lookup x=some c) (c2:∀ y∈sc.names,y.2=.free->∃ c,cl.lookup y.1=some c) (hc:X.calm=true) (hu:X.A.units < cLine)
  (hg:∀ cl C s3 H0 fp pn,PG (dg X N' sc cl C s3 H0 fp pn) tg g) (ht:∀ cl C s3 H0 fp pn,um (dg X N' sc cl C s3 H0 fp pn) ifs tc) (he:∀ cl C s3 H0 fp pn,PE (dg X N' sc cl C s3 H0 fp pn) kx tk) (hv:∀ cl C s3 H0 fp pn,PE (dg X N' sc cl C s3 H0 fp pn) vx tw)
  {pins:List (Addr×Obj)} {σ:St} {Q:VK} {qj:Value} {s2:Shared} {RR:Value->Addr->Result->Shared->Prop} {E:Value->Shared->Prop}
  (hI:CH X pins σ tg (fun J H1=>∀ D,H1 D=none->∃ W:Nat->Nat->St->Hp->Prop,(∃ m,W 0 m (uf own idx σ) (upd H1 D (.dT [])))/\∀ i m τ H,W i m τ H->
   (J.stop i H/\Q (.ref D) H)\/(J.go i H/\∃ N:St->Hp->Prop,(∀ τ' H',N τ' H'->∃ m',m' < m/\W (i+1) m' τ' H')/\∀ x H',J.lg i H x H'->g x τ H' fun τ2 H2=>tc τ2 H2 fun b H3=>
    if b=true then tk τ2 H3 fun x H4=>tw τ2 H4 fun y H5=>∃ kvs key b,x=.ref b/\aj H5 b (key.map kV)/\H5 D=some (.dT kvs)/\kvs.length < sizeLine/\N τ2 (upd H5 D (.dT (putK kvs key y))) else N τ2 H3)) qj s2)
  (Eg:∀ D C H' s',Inv X pins σ H' s'->Q (.ref D) H'->(H' C=none/\C≠X.env.locals/\X.s₀.heap.objs.size<=C/\(∀ x c,X.env.cells.lookup x=some c->c≠C)/\(∀ p∈X.pn++pins,p.1≠C)/\∃ m,s'.heap.Ns C m)->RR (.ref D) C (.ok .next) s'):
  wpAny (model X.prog X.w) X.A newDict (fun acc s₃=>wpAny (model X.prog X.w) X.A (newFunctionEnv sc X.env.globals cl [] X.env.qual none .none (some X.env)) (fun cenv s₄=>
   codeAny (model X.prog X.w) X.A (.compStart (.DictComp kx vx [⟨tg,iter,ifs,0⟩] sc pos) 0 qj acc {cenv with scope:=relabel sc X.env}) (RR acc cenv.locals) s₄) E s₃) E s2:=by
 obtain ⟨it,fp,tn,J,H2,rfl,I,T,fq,f2,body⟩:=hI
 refine wpAny_newObj_type (wpAny_newFunctionEnv S.cell (by intro y hy;simp at hy) (fun h4 ns sb=>?_) S.kind)
 dsimp only at ns sb ⊢
 have xn:jj.isFreed=false:=rfl
 have fr:H2 s2.heap.objs.size=none:=I.hok.fresh (Qy _)
 obtain ⟨W,⟨m0,w0⟩,turn⟩:=body _ fr
 have ug:∀ b∈fp,∃ o,s2.heap.get? b=some o:=fun b hb=>let ⟨o,e,_⟩:=T.obj _ _ fq b hb;⟨o,e⟩
 have za:∀ b o,(s2.heap.push jj).get? b=some o->h4.get? b=some o:=fun b o e=>(sb.2 b (Nat.ne_of_lt (Qz e))).trans (Qc _ e)
 have Eh:∀ (H:Hp) (h:Heap),h.get? s2.heap.objs.size=some jj->bx X.prog X.w H h s2.heap.objs.size (.dT []):=fun H h e=>⟨Nat.zero_le _,beq_eq_false_iff_ne.mpr (Ne.symm (Nat.ne_of_lt I.big)),[],.nil,_,#[],0,e,⟨rfl,rfl,rfl⟩,rfl,rfl,List.nodup_nil⟩
 have I4:Inv (dg X N' sc cl (s2.heap.push jj).objs.size {s2 with heap:=s2.heap.push jj} (upd H2 s2.heap.objs.size (.dT [])) fp (X.pn++pins)) [] (uf own idx σ) (upd H2 s2.heap.objs.size (.dT [])) {s2 with heap:=h4,toks:=s2.toks+([]:List (Str×Value)).length}:=
  kT S I f2 ug c1 c2 xn Eh ns za
 -- BJ Mv own context
 generalize hY:dg X N' sc cl (s2.heap.push jj).objs.size {s2 with heap:=s2.heap.push jj} (upd H2 s2.heap.objs.size (.dT [])) fp (X.pn++pins)=Y at I4
 have Ei:PG Y tg g:=by rw [<- hY];exact hg _ _ _ _ _ _
 have Ej:um Y ifs tc:=by rw [<- hY];exact ht _ _ _ _ _ _
 have Ek:PE Y kx tk:=by rw [<- hY];exact he _ _ _ _ _ _
 have IL:PE Y vx tw:=by rw [<- hY];exact hv _ _ _ _ _ _
 have pY:Y.prog=X.prog:=by rw [<- hY]
 have wY:Y.w=X.w:=by rw [<- hY]
 have KY:Y.K=X.K:=by rw [<- hY]
 have AY:Y.A=X.A:=by rw [<- hY]
 have cY:Y.calm=true:=by rw [<- hY];exact hc
 have xY:Y.xe=fun _ _=>False:=by rw [<- hY]
 have eY:Y.env=compEnvC sc cl (s2.heap.push jj).objs.size X.env:=by rw [<- hY]
 have El:Y.ex=fp:=by rw [<- hY]
 have Em:Y.fs=mq X.stack:=by rw [<- hY]
 have En:Y.pn=X.pn++pins:=by rw [<- hY]
 have qm:∀ {H':Hp},(∀ b∈fp,H' b=none)->∀ b∈fp,qi Y [] H' b:=fun hn b hb=>by
  obtain ⟨f0,f1,f3,f4,f5,f6⟩:=f2 b hb
  refine ⟨hn b hb,?_,?_,.inl (by rw [El];exact hb),fun x c e=>?_,fun p hp=>?_⟩
  ·obtain ⟨o,e⟩:=ug b hb
   have:=Qz e
   rw [eY]
   show b≠(s2.heap.push jj).objs.size
   rw [Heap.size_push];exact Nat.ne_of_lt (Nat.lt_succ_of_lt this)
  ·rw [Em]
   intro z
   rcases Qp.mp (I.BE b z) with z | z
   ·exact f1 z
   ·exact f3 z
  ·rw [eY] at e
   exact f5 x c (c1 x c e)
  ·rw [En,List.append_nil] at hp
   exact f6 p hp
 have AV:tn 0 h4:=T.keep _ _ _ fq fun b hb o e=>za b o (Qc _ e)
 have Eo:∀ b∈fp,upd H2 s2.heap.objs.size (.dT []) b=none:=fun b hb=>by
  obtain ⟨o,e⟩:=ug b hb
  rw [aE (Nat.ne_of_lt (Qz e))]
  exact (f2 b hb).1
 have loop:codeAny (model X.prog X.w) X.A (.compLoop (.DictComp kx vx [⟨tg,iter,ifs,0⟩] sc pos) 0 (.ref it) (.ref s2.heap.objs.size) (compEnvC sc cl (s2.heap.push jj).objs.size X.env))
   (RR (.ref s2.heap.objs.size) (s2.heap.push jj).objs.size) {s2 with heap:=h4,toks:=s2.toks+([]:List (Str×Value)).length}:=by
  refine MF (fun n s'=>∃ i τ H',Inv Y [] τ H' s'/\tn i s'.heap/\(∀ b∈fp,H' b=none)/\W i n τ H') ?_ m0 ⟨0,_,_,I4,AV,Eo,w0⟩
  rintro n s3 ⟨i,τ3,H3,I3,wz,w_,w3⟩
  rcases turn i n τ3 H3 w3 with ⟨stop,qn⟩ | ⟨go,N,hN,step⟩
  ·have h:=T.done Y pY wY KY cY i [] s3 τ3 H3 kg I3 (qm w_) wz stop
   rw [AY] at h
   refine av h ?_
   rintro r s4 ⟨hr,Ep⟩
   subst hr
   have J4:=Ep
   rw [<- hY] at J4
   obtain ⟨b1,b2⟩:=jO I f2 xn J4
   exact Eg _ _ _ _ b1 qn b2
  ·have h:=T.item Y pY wY KY cY i [] s3 τ3 H3 kg I3 (qm w_) wz go
   rw [AY] at h
   refine av h ?_
   rintro r s4 ⟨u,hr,Er⟩
   subst hr
   refine av Er ?_
   rintro _ s5 ⟨x,H5,I5,r5,y5,qo,BK⟩
   have BL:=I5.pinned (qm BK) (T.obj _ _ qo)
   have g5:=Ei _ s5 τ3 H5 x u _ BL r5 (step x H5 y5)
   rw [pY,wY,AY,xY,eY] at g5
   refine av g5 ?_
   rintro _ s6 ⟨τ6,H6,I6,q6⟩
   have t6:=Ej _ s6 τ6 H6 _ I6 q6
   rw [pY,wY,AY,xY,eY] at t6
   refine av t6 ?_
   rintro ok s7 ⟨H7,I7,q7⟩
   have again:∀ {τ8:St} {H8:Hp} {s8:Shared},Inv Y ([]++BI fp s5.heap) τ8 H8 s8->N τ8 H8->∃ m,m < n/\∃ i τ' H',Inv Y [] τ' H' s8/\tn i s8.heap/\(∀ b∈fp,H' b=none)/\W i m τ' H':=fun {τ8 H8 s8} I8 n8=>by
    obtain ⟨m',hm,w8⟩:=hN τ8 H8 n8
    refine ⟨m',hm,i+1,τ8,H8,I8.CJ,T.keep _ _ _ qo fun b hb o e=>(I8.pin (b,o) (List.mem_append_right _ (List.mem_append_right _ (cD hb e)))).1,fun b hb=>?_,w8⟩
    obtain ⟨o,e,d⟩:=T.obj _ _ qo b hb
    exact (I8.pin (b,o) (List.mem_append_right _ (List.mem_append_right _ (cD hb e)))).2.1
   cases ok with
   | false=>
    rw [if_neg (by decide)] at q7 ⊢
    exact again I7 q7
   | true=>
    rw [if_pos rfl] at q7 ⊢
    have e7:=Ek _ s7 τ6 H7 _ I7 q7
    rw [pY,wY,AY,xY,eY] at e7
    refine av e7 ?_
    rintro kv s8 ⟨x8,H8,I8,r8,q8⟩
    have v8:=IL _ s8 τ6 H8 _ I8 q8
    rw [pY,wY,AY,xY,eY] at v8
    refine av v8 ?_
    rintro yv s9 ⟨y9,H9,I9,r9,kvs,key,b9,ek,eb,C1,hz,n9⟩
    subst ek
    cases (show kv=Value.ref b9 from r8)
    obtain ⟨z,hd,xs,rel,dd⟩:=Mm I9.hok C1
    have BV:xs.length<=sizeLine:=by rw [<- Paired.length rel];exact z
    have fi:(putK kvs key y9).length<=sizeLine:=by have:=cO kvs key y9;omega
    have M9:=dA I9.hok eb
    rw [pY,wY] at dd M9
    refine wpAny_dictSet_heap (hsz:=BV) hu M9 dd fun h' ou hs=>?_
    rw [<- pY,<- wY] at ou
    obtain ⟨q,es,ep,hq,h2,h3,h4,_,h5⟩:=ou
    have C2:=iM (t':=s9.toks+(tupleKind (cf X.prog X.w)).draws key) (ob:=.dT (putK kvs key y9)) I9 (by rw [C1];exact True.intro) hs ⟨q,hq⟩ ⟨fi,hd,_,(rel.put key eb r9).keeps fun c ys ec=>ec.upd fun u hu z=>by subst z;rcases ec with ec | ⟨_,ec⟩<;>(rw [C1] at ec;cases ec),q,es,ep,hq,h2,h3,h4,h5⟩
    exact again C2 n9
 exact codeAny_compStart_dict loop (T.self _ 0 _ _ _ AV loop)
theorem VJ (S:qt X.env.scope X.N sc own idx N') (hc:X.calm=true) (hu:X.A.units < cLine) (hi:PI X tg iter wi)
  (hg:∀ cl C s3 H0 fp pn,PG (dg X N' sc cl C s3 H0 fp pn) tg g) (ht:∀ cl C s3 H0 fp pn,um (dg X N' sc cl C s3 H0 fp pn) ifs tc) (he:∀ cl C s3 H0 fp pn,PE (dg X N' sc cl C s3 H0 fp pn) kx tk) (hv:∀ cl C s3 H0 fp pn,PE (dg X N' sc cl C s3 H0 fp pn) vx tw)
  (hs:∀ x,foldedSetIterable iter X.env x=pure x:=by intro _;rfl):PE X (.DictComp kx vx [⟨tg,iter,ifs,0⟩] sc pos) (M8 own idx wi g tc tk tw):=by
 intro pins s σ H Q I h
 obtain ⟨cl,kh,c1,c2⟩:=S.closure I.ok
 show wpAny _ X.A (comprehension (.DictComp kx vx [⟨tg,iter,ifs,0⟩] sc pos) sc X.env _ newDict false (eval iter X.env)) _ _ s
 refine wpAny_comprehension_free (use:=none) rfl hs kh S.kind S.names (av (hi pins s σ H _ I h) fun v s1 h1=>av h1 fun qj s2 h2=>?_)
 refine o8 (Q:=Q) (pins:=pins) (σ:=σ) (RR:=fun acc C=>compPost (model X.prog X.w) X.A X.xe none (EP X pins σ Q) acc C) S c1 c2 hc hu hg ht he hv h2 ?_
 intro D C H' s' I' q ⟨a1,a2,a3,a4,a5,m,a6⟩
 exact ⟨m,a6,fun h' sb=>⟨.ref D,H',I'.turned (t':=s'.toks) (fun b o hb e=>(sb.2 b hb).trans e) a1 (Ne.symm (Ne.symm a2)) (.inr a3) a4 a5,rfl,q⟩⟩
theorem VL (S:qt X.env.scope X.N sc own idx N') (hc:X.calm=true) (hu:X.A.units < cLine) (hi:SI X tg iter wi)
  (hg:∀ cl C s3 H0 fp pn,SG (dg X N' sc cl C s3 H0 fp pn) tg g) (ht:∀ cl C s3 H0 fp pn,SC (dg X N' sc cl C s3 H0 fp pn) ifs tc) (he:∀ cl C s3 H0 fp pn,SE (dg X N' sc cl C s3 H0 fp pn) kx tk) (hv:∀ cl C s3 H0 fp pn,SE (dg X N' sc cl C s3 H0 fp pn) vx tw)
  (hs:∀ x,foldedSetIterable iter X.env x=pure x:=by intro _;rfl):SE X (.DictComp kx vx [⟨tg,iter,ifs,0⟩] sc pos) (M8 own idx wi g tc tk tw):=
 ⟨VJ S hc hu hi.h (fun q r s t u v=>(hg q r s t u v).h) (fun q r s t u v=>(ht q r s t u v).h) (fun q r s t u v=>(he q r s t u v).h) (fun q r s t u v=>(hv q r s t u v).h) hs⟩
end
def EG (K:Q0) (mg:Str->Option Value) (x q:Str) (st:Stmt) (ps fs:List Str) (C:Addr):Prop:=
 mg x=some (.ref C)/\yt K C/\(∀ f∈fs,yu K C f)/\∃ (f:Addr) (fd:FuncData),Mk K C f/\AS K "__init__" q st f fd/\Binds K fd ps []
def EH (P:Program) (w:World) (K:Q0) (mg:Str->Option Value) (base:Heap) (k:Nat) (x:Str) (C:Addr) (ps:List Str) (sp:Sp):Prop:=
 mg x=some (.ref C)/\∃ (f:Addr) (fd:FuncData),Mk K C f/\ud P w K mg base y_ k f fd ps sp/\Binds K fd ps []
section
variable {o value:Expr} {es:List Expr} {ta tv:TE} {t:TA} {f:Str} {pos pos' p:Pos} {k:Nat}
theorem gC (K:Q0) (he:SE X e te) (h:X.K=K:=by rfl) (hb:attributeBase e f X.env (eval e X.env)=eval e X.env:=by rfl):SE X (.Attribute e f pos) (L7 K te f):=by subst h;exact ⟨SM he.h hb⟩
theorem vT (K:Q0) (ha:SE X o ta) (hv:SE X value tv) (h:X.K=K:=by rfl) (hs:swapsWith value (some (.Attribute o f pos')) pos.line X.env=pure false:=by rfl):SS X (.Assign [.Attribute o f pos'] value pos) (Gd K ta tv f):=by subst h;exact ⟨SN ha.h hv.h hs⟩
theorem oJ (F:EH X.prog X.w X.K X.mg X.base k x C ps sp) (hr:fu (k+1) X.A) (ha:SA X (e::es) t) (hg:Gl X x:=by rfl) (mw:(x==("__debug__":Str))=false:=by decide)
  (he:starEach (e::es) X.env=(false,eval e X.env)::starEach es X.env:=by rfl) (gb:(backTo pos (starEach es X.env)).any (·.1)=false:=by rfl):
  SE X (.Call (.Name x p) (e::es) [] pos) (Ma C sp [] E0 t):=by
 obtain ⟨m,f,fd,M,G,b⟩:=F
 exact ⟨S3 M G hr hg m b .nil Mt ha.h mw he gb⟩
end
theorem EG.gf {K:Q0} {q:Str} {st:Stmt} {fs:List Str} {k:Nat} (F:EG K mg x q st ps fs C) (S:fb N ps (bg st)) (len:∀ vs H Q E,sp vs H Q E->vs.length=ps.length)
  (xh:∀ (f:Addr) (a_:Value) (A:Around) (outer:List Env) (s:Shared) (H:Hp) (vs:List V) (Q:VK) (E:XK),fu k (A.deeper (envOfC q (bg st) s.heap.objs.size f a_))->sp vs H Q E->
   ∃ t,SB (yw y_ P w K mg base N q (bg st) f a_ A outer s H E).zq (kc st) t/\t {nx:=fun _ H'=>Q .ai H',rt:=Q} (start N vs) H):EH P w K mg base (k+1) x C ps sp:=by
 obtain ⟨m,_,_,f,fd,M,Fu,b⟩:=F
 exact ⟨m,f,fd,M,Fu.ok S len fun a_ A outer s H vs Q E hr h=>let ⟨t,h1,h2⟩:=xh f a_ A outer s H vs Q E hr h;⟨t,h1.h,h2⟩,b⟩
theorem Inv.VM {kvs:List (List Key×V)} (I:Inv X pins σ H s) (h:Rd H a (.dT kvs)):∃ o,Inv X pins σ (upd H a (.au o (.dT kvs))) s:=by
 rcases h with h | ⟨o,h⟩
 ·have ok:=(show bx X.prog X.w H s.heap a (.dT kvs) from I.hok a _ h)
  obtain ⟨z,hd,xs,rel,o,es,ep,h1,h2,h3,h4,h5⟩:=ok
  refine ⟨o,I.write (x:=a) (e:=a) (h':=s.heap) (t':=s.toks) (o:=.au o (.dT kvs)) (by rw [h];exact True.intro) (.inl rfl) (fun b u _ q=>q) ⟨o,h1⟩ ⟨h1,z,hd,xs,?_,o,es,ep,h1,h2,h3,h4,h5⟩⟩
  exact (show KT H kvs xs from rel).keeps fun c ys ec=>ec.upd fun u hu z=>by subst z;rcases ec with ec | ⟨_,ec⟩<;>(rw [h] at ec;cases ec)
 ·exact ⟨o,by rw [pO h];exact I⟩
def VN (te:TE):TE:=fun σ H Q=>te σ H fun x H1=>∃ a,x=.ref a/\((∃ kvs,Rd H1 a (.dK kvs)/\∀ o,Q x (upd H1 a (.au o (.dK kvs))))\/∃ kvs,Rd H1 a (.dT kvs)/\∀ o,Q x (upd H1 a (.au o (.dT kvs))))
theorem qU (he:SE X e te):SE X e (VN te):=by
 constructor
 intro pins s σ H Q I h
 refine av (he.h pins s σ H _ I h) ?_
 rintro v s1 ⟨x,H1,I1,r1,a,ex,q⟩
 rcases q with ⟨kvs,hr,q⟩ | ⟨kvs,hr,q⟩
 ·obtain ⟨o,es,ep,hd,I2,ho⟩:=I1.freeze hr
  exact ⟨x,_,I2,r1,q o⟩
 ·obtain ⟨o,I2⟩:=I1.VM hr
  exact ⟨x,_,I2,r1,q o⟩
def valAt (kvs:List (Key×V)) (i:Nat):V:=((kvs[i]?).map fun kv=>kv.2).getD .ai
def EI (a:Addr) (o:Obj) (kvs:List (Key×V)):It:=⟨fun i H=>H a=some (.au o (.dK kvs))/\i < kvs.length,fun i H x H'=>Ex (sf kvs i) (valAt kvs i) H x H',fun i H=>H a=some (.au o (.dK kvs))/\kvs.length=i⟩
theorem mV {o:Obj} (kvs:List (Key×V)):Ey (EI a o kvs) (fun H=>H a=some (.au o (.dK kvs))) kvs.length (sf kvs) (valAt kvs):=fun H ok=>⟨fun i hi=>⟨⟨ok,hi⟩,fun x H' h=>h⟩,ok,rfl⟩
theorem VO {kvs:List (Key×V)} {vs:List (Key×Value)} (r:KV kvs vs):∀ {i:Nat} {p:Key×V},kvs[i]? =some p->∃ q,vs[i]? =some q/\q.1=p.1/\RelV p.2 q.2:=by
 intro i
 induction r generalizing i with
 | nil=>intro p h;simp at h
 | cons a t ih=>
  intro p h
  cases i with
  | zero=>simp at h;subst h;exact ⟨_,by simp,a.1.symm,a.2⟩
  | succ i=>simp at h;simpa using ih h
theorem rZ {K:Q0} {k:Nat} {pos:Pos} {o:Obj} {kvs:List (Key×V)} (VP:a≠it) (Aj:∃ es,o.data=.dict es ep):
  Turn P w K (.Tuple Bw k pos) (EI a o kvs) [it] it (fun i h=>∃ ok ov,IsItemIter h it a i kvs.length ep ok ov) where
 mem:=by simp
 obj:=fun i h st b hb=>by
  have e:b=it:=by simpa using hb
  subst e
  obtain ⟨ok,ov,he⟩:=st
  exact ⟨_,he,fun v z=>by
   have z':Data.fields _=Data.cell v:=z
   cases z'⟩
 keep:=fun i h h' st k=>let ⟨ok,ov,he⟩:=st;⟨ok,ov,k it (by simp) _ he⟩
 item:=by
  intro X hP hw hK hc i pins s σ H E I hf st hg
  subst hP hw hK
  obtain ⟨ok,ov,he⟩:=st
  obtain ⟨hq,hi⟩:=hg
  obtain ⟨e,z,hd,vs,rel,ob,es,yp,h1,h2,h3,h4⟩:=(show bx X.prog X.w H s.heap a (.au o (.dK kvs)) from I.hok a _ hq)
  obtain ⟨es',nk⟩:=Aj
  rw [e] at h1;cases h1
  rw [nk] at h3;injection h3 with uo uq
  subst uo uq
  obtain ⟨q,sd,se,Jb⟩:=VO rel (Qa hi)
  have hl:=rel.len
  obtain ⟨qk,qv⟩:=q
  refine wpAny_pyNext_items_item (knd:=cf X.prog X.w) (kvs:=vs) (ep:=ep) (ok:=ok) (ov:=ov) (by rw [<- hl];exact he) ⟨o,es',e,h2,nk,h4⟩ sd fun key h' hk ho hT hsz Jc=>?_
  have rk:RelV (sf kvs i) key:=by
   unfold sf
   rw [Qa hi]
   show RelV (kV kvs[i].1) key
   have IV:qk=kvs[i].1:=se
   rw [<- IV]
   exact rJ hk
  have rv:RelV (valAt kvs i) qv:=by
   unfold valAt
   rw [Qa hi]
   exact Jb
  have I1:Inv X pins σ (upd H s.heap.objs.size (.tup [sf kvs i,valAt kvs i])) {s with heap:=h'}:=I.IQ (t':=s.toks) hf (fun b o hb e=>Jc b o (fun z=>hb (by simp [z])) e) (Qy _) (oS rk rv hT)
  refine ⟨_,rfl,wpAny_letOwnedTupleGo_items (s:={s with heap:=h'}) ho fun C3 Jd sb=>?_⟩
  have ao:it≠s.heap.objs.size:=Nat.ne_of_lt (Qz he)
  obtain ⟨f0,f1,f2,f3,f4,f5⟩:=hf it (by simp)
  have EJ:upd H s.heap.objs.size (.tup [sf kvs i,valAt kvs i]) it=none:=by rw [aE ao];exact f0
  refine ⟨.ref s.heap.objs.size,_,I1.turned (t':=s.toks) (fun b o hb q=>(sb.2 b hb).trans q) EJ f1 f3 f4 f5,rfl,⟨_,rfl,I.hok.fresh (Qy _),rfl⟩,⟨_,_,by rw [hl];exact Jd⟩,fun b hb=>?_⟩
  have e:b=it:=by simpa using hb
  subst e
  exact EJ
 done:=by
  intro X hP hw hK hc i pins s σ H E I hf st hg
  subst hP hw hK
  obtain ⟨ok,ov,he⟩:=st
  obtain ⟨hq,hi⟩:=hg
  obtain ⟨e,z,hd,vs,rel,ob,es,yp,h1,h2,h3,h4⟩:=(show bx X.prog X.w H s.heap a (.au o (.dK kvs)) from I.hok a _ hq)
  obtain ⟨es',nk⟩:=Aj
  rw [e] at h1;cases h1
  rw [nk] at h3;injection h3 with uo uq
  subst uo uq
  have hl:=rel.len
  obtain ⟨f0,f1,f2,f3,f4,f5⟩:=hf it (by simp)
  exact wpAny_pyNext_items_end (knd:=cf X.prog X.w) (kvs:=vs) (ep:=ep) (ok:=ok) (ov:=ov) (I.ok.hd hc) (by rw [<- hl];exact he) ⟨o,es',e,h2,nk,h4⟩ (by simp;omega) fun h' eb=>⟨rfl,I.turned (t':=s.toks) (fun b o hb e=>eb b o hb e) f0 f1 f3 f4 f5⟩
 self:=fun _ _ _ _ _ st h=>let ⟨_,_,he⟩:=st;PySem.W.kcp_self he h
section
variable {k:Nat} {Aa:Pos} {o:Expr}
def VQ (te:TE):TI:=fun σ H R=>te σ H fun x H1=>∃ a kvs,x=.ref a/\((∃ o,H1 a=some (.au o (.dK kvs))/\R (EI a o kvs) H1)\/(H1 a=some (.dK kvs)/\∀ o,R (EI a o kvs) (upd H1 a (.au o (.dK kvs)))))
theorem qL (ho:SE X o to) (nc:attributeBase o "items" X.env (eval o X.env)=eval o X.env:=by rfl) (ni:(apos.endLine==cpos.line)=true:=by rfl):
  SI X (.Tuple Bw k Aa) (.Call (.Attribute o "items" apos) [] [] cpos) (VQ to):=by
 constructor
 intro pins s σ H R I h
 refine wpAny_Call_method0_late nc ni (av (ho.h pins s σ H _ I h) ?_)
 rintro v s1 ⟨x,H1,I1,r1,a,kvs,ex,hr⟩
 subst ex
 cases r1
 obtain ⟨o,H2,I2,VR,q⟩:∃ (o:Obj) (H2:Hp),Inv X pins σ H2 s1/\H2 a=some (.au o (.dK kvs))/\R (EI a o kvs) H2:=by
  rcases hr with ⟨o,e,q⟩ | ⟨e,q⟩
  ·exact ⟨o,H1,I1,e,q⟩
  ·obtain ⟨o,_,_,_,I2,_⟩:=I1.freeze (.inl e)
   exact ⟨o,_,I2,aA,q o⟩
 obtain ⟨e,z,EB,vs,rel,ob,es,ep,h1,h2,hd,h4⟩:=(show bx X.prog X.w _ s1.heap a (.au o (.dK kvs)) from I2.hok a _ VR)
 rw [e] at h1;cases h1
 have hl:=rel.len
 have hT:s1.TypeIs (.ref a) "dict":=⟨o,e,h2.1⟩
 refine ⟨"dict","dict.items",PySem.F.plainAttrs_dict,PySem.F.slot_dict_items,PySem.F.type_dict_items,hT,fun b hb=>by cases hb;exact ⟨o,e,h2.2.1⟩,Calls.callWith_builtin rfl (PySem.evalArgs_none ?_)⟩
 refine call_meetsIn PySem.F.slot_dict_items hT PySem.F.entry_dict_items (PySem.F.args_dict_items_1 _) (meets_dict_items (cf X.prog X.w) a EB) ⟨⟨vs,o,es,ep,e,h2,hd,h4⟩,?_⟩
 have I3:Inv X pins σ H2 {s1 with heap:=s1.heap.push {cls:=.type "dict_items",data:=.fields #[.ref a]}}:=I2.kept (t':=s1.toks) fun b o e=>Qc _ e
 refine wpAny_pyIter_items (knd:=cf X.prog X.w) (kvs:=vs) (ep:=ep) ⟨_,Qd _ rfl,rfl,rfl⟩ ⟨o,es,Qc _ e,h2,hd,h4⟩ ?_
 have iq:a≠(s1.heap.push {cls:=.type "dict_items",data:=.fields #[.ref a]}).objs.size:=by
  rw [Heap.size_push];exact Nat.ne_of_lt (Nat.lt_succ_of_lt (Qz e))
 refine ⟨_,[(s1.heap.push {cls:=.type "dict_items",data:=.fields #[.ref a]}).objs.size],_,_,_,rfl,I3.kept (t':=s1.toks) fun b o e=>Qc _ e,rZ (kvs:=kvs) (a:=a) (o:=o) iq ⟨es,hd⟩,⟨.none,.none,by rw [hl];exact Qd _ rfl⟩,fun b hb=>?_,q⟩
 have e:b=(s1.heap.push {cls:=.type "dict_items",data:=.fields #[.ref a]}).objs.size:=by simpa using hb
 subst e
 exact I3.z_ (Qy _) (I3.hok.fresh (Qy _))
end
end L2
namespace PySem
end PySem
namespace L2
open PySem PySem.Spec PyProof.Rows
theorem aj.inj {xs ys:List V} (h:aj H a xs) (h':aj H a ys):xs=ys:=by
 rcases h with h | ⟨o,h⟩<;>rcases h' with h' | ⟨o',h'⟩<;>(rw [h] at h';cases h')<;>rfl
theorem kQ {xs ys:List Str} (h:xs.map V.str=ys.map V.str):xs=ys:=by
 induction xs generalizing ys with
 | nil=>cases ys with
  | nil=>rfl
  | cons y ys=>simp at h
 | cons x xs ih=>cases ys with
  | nil=>simp at h
  | cons y ys=>
   simp only [List.map_cons,List.cons.injEq,V.str.injEq] at h
   rw [h.1,ih h.2]
theorem sW (xs ys:List Str):((List.range (min xs.length ys.length)).all (fun j=>xs.getD j ""==ys.getD j "")&&xs.length==ys.length)=decide (xs=ys):=by
 by_cases h:xs=ys
 ·subst h;simp
 ·rw [Qw h,Bool.and_eq_false_iff]
  by_cases hl:xs.length=ys.length
  ·left
   rw [Bool.eq_false_iff]
   intro nj
   apply h
   refine List.ext_getElem hl fun i h1 h2=>?_
   have:=List.all_eq_true.mp nj i (by simp;omega)
   simpa [Qb,Qa h1,Qa h2] using this
  ·right;simpa using hl
theorem vG (I:Inv X pins σ H s) {xs ys:List Str} (h1:aj H a (xs.map V.str)) (h2:aj H b (ys.map V.str)) (hu:A.units+2 < cLine):SeqAt.EqAt A s (.ref a) (.ref b) (decide (xs=ys)):=by
 by_cases lu:a=b
 ·subst lu
  have e:xs=ys:=kQ (h1.inj h2)
  rw [Qv e]
  exact SeqAt.EqAt.same _
 ·obtain ⟨i1,r1,p1,_⟩:=I.tuple (.inl h1)
  obtain ⟨i2,r2,p2,_⟩:=I.tuple (.inl h2)
  have l1:=r1.length
  have l2:=r2.length
  rw [Ql] at l1 l2
  have:=SeqAt.RcAt.tuples (A:=A) (e:=fun j=>xs.getD j ""==ys.getD j "") p1 p2 (by omega) fun j g1 g2=>by
   have k1:j < xs.length:=by simp at g1;omega
   have k2:j < ys.length:=by simp at g2;omega
   obtain ⟨w1,e1,q1⟩:=r1.get (i:=j) (x:=.str xs[j]) (by simp [k1])
   obtain ⟨w2,e2,q2⟩:=r2.get (i:=j) (x:=.str ys[j]) (by simp [k2])
   have m1:i1.toArray[j]=w1:=by rw [Qa (by simpa using g1)] at e1;simpa using e1
   have m2:i2.toArray[j]=w2:=by rw [Qa (by simpa using g2)] at e2;simpa using e2
   rw [m1,m2]
   obtain ⟨t,rfl⟩:=q1
   obtain ⟨t',rfl⟩:=q2
   have:=SeqAt.EqAt.str_str (A:=A.in1) (s:=s) xs[j] t ys[j] t'
   simpa [Qb,Qa k1,Qa k2] using this
  have e:((List.range (min i1.toArray.size i2.toArray.size)).all (fun j=>xs.getD j ""==ys.getD j "")&&i1.toArray.size==i2.toArray.size)=decide (xs=ys):=by
   rw [<- sW xs ys];simp only [List.size_toArray,<- l1,<- l2]
  rw [e] at this
  exact SeqAt.EqAt.of_refs lu this
section
variable {o:Expr} {es:List Expr} {t:TA}
end
theorem oK {a0:Expr} {n:Str} {jv:Pos} {es:List Expr} {t:TA} (ha:SE X (.Attribute a0 n jv) te) (hr:SA X es t):SA X (.Attribute a0 n jv::es) (ie te t):=⟨dI ha.h hr.h⟩
theorem VS {K:Q0} {it:Array Value} {sq:Array (Option Value)} {xs:List V} (gl:K.lookup a=some ⟨.type "tuple",none,.seq it n,sq⟩) (gv:be xs it.toList) (gz:xs.length<=sizeLine):EF K (a,⟨.type "tuple",none,.seq it n,sq⟩,xs):=
 ⟨gl,it.toList,n,rfl,rfl,by simp,gv,gz⟩
theorem tG {K:Q0} {as:List Addr} (x:K.In h):(without K as).In h:=fun a o e=>by
 rw [cT] at e
 by_cases hc:as.contains a=true
 ·rw [if_pos hc] at e;cases e
 ·rw [if_neg hc] at e;exact x a o e
end L2
set_option autoImplicit false
namespace L2
open PySem PySem.Spec PySem.W PyProof.Rows
def Je:Data->Bool
 | .freed=>false
 | _=>true
def B7:Nat->List Obj->Frag
 | _,[]=>[]
 | n,o::os=>if Je o.data then (n,o)::B7 (n+1) os else B7 (n+1) os
def Jf (h:Heap):Frag:=B7 0 h.objs.toList
theorem fX:∀ {os:List Obj} {n a:Nat} {o:Obj},(B7 n os).lookup a=some o->n<=a/\os[a - n]? =some o/\Je o.data=true
 | [],n,a,o,h=>by simp [B7] at h
 | x::os,n,a,o,h=>by
  unfold B7 at h
  have next:(B7 (n+1) os).lookup a=some o->n<=a/\(x::os)[a - n]? =some o/\Je o.data=true:=fun h=>by
   obtain ⟨h1,h2,h3⟩:=fX h
   refine ⟨by omega,?_,h3⟩
   obtain ⟨k,hk⟩:∃ k,a - n=k+1:=⟨a - n - 1,by omega⟩
   rw [hk,List.getElem?_cons_succ,<- h2]
   congr 1;omega
  split at h
  ·rename_i hf
   rw [List.lookup_cons] at h
   split at h
   ·rename_i e
    obtain rfl:a=n:=by simpa using e
    cases h
    exact ⟨Qy _,by simp,hf⟩
   ·exact next h
  ·exact next h
theorem sJ (h:Heap):(Jf h).In h:=fun a o e=>by
 obtain ⟨_,h2,h3⟩:=fX e
 have uh:h.objs[a]? =some o:=by rw [<- Array.getElem?_toList];simpa using h2
 unfold Heap.get?
 rw [uh]
 obtain ⟨c,d,dt,sl⟩:=o
 cases dt<;>first | rfl | cases h3
def xw {α:Type} (look:Frag->α) (want:World->α):Hook where
 α:=α
 obs s:=look (Jf s.heap)
 val:=want
 says w h:=∃ K:Frag,K.In h/\look K=want w
 of:=fun w s e=>⟨Jf s.heap,sJ _,e⟩
 keeps:=fun w h h' ⟨K,x,e⟩ k=>⟨K,fun a o l=>k a o (x a o l),e⟩
theorem zW {p q:Program} {loose:List Str} {Xt:Shared->Bool} {Yf:Shared->α} {Ya:World->α} {N:Nat} {g0:Bool} (row:String)
  (hF:∀ w:World,(openEnds treeTable p (w.withFollow row false) N).map (fun s=>(openSeen q loose (importedModules p.main.body) Xt g0 s,Yf s))=some (openGood q loose,Ya (w.withFollow row false)))
  (hT:∀ w:World,(openEnds treeTable p (w.withFollow row true) N).map (fun s=>(openSeen q loose (importedModules p.main.body) Xt g0 s,Yf s))=some (openGood q loose,Ya (w.withFollow row true))):LeftO p q loose Xt Yf Ya N g0:=fun w=>by
 have e:=World.withFollow_self w row
 cases hb:w.params.followText row<;>rw [hb] at e
 ·have:=hF w;rw [e] at this;exact this
 ·have:=hT w;rw [e] at this;exact this
abbrev EK:=Str×Str×Arguments×FuncBody×Scope×Addr×List (Str×Addr)×Value×Addr×Bool
def fnAt (K:Frag) (q:Str):Option (Option Value)->Option EK
 | some (some (.ref f))=>(match K.lookup f with
  | some ⟨_,_,.func fd,_⟩=>some (fd.name,fd.qualname,fd.params,fd.body,fd.scope,fd.globals,fd.closure,fd.defaults,fd.builtins,codeIn K fd.code q)
  | _=>none)
 | _=>none
def C7 (x q:Str) (st:Stmt):EK:=(x,q,r_ st,.stmts (kc st),bg st,mainGlobals,[],.none,builtinsNs,true)
def Ak (K:Frag):List (Str×Stmt)->List (Option EK)
 | []=>[]
 | x::l=>fnAt K x.1 (nsIn K mainGlobals x.1)::Ak K l
def Al:List (Str×Stmt)->List (Option EK)
 | []=>[]
 | x::l=>some (C7 x.1 x.1 x.2)::Al l
def VT (K:Frag) (x:Str):Option V:=match nsIn K mainGlobals x with
 | some (some v)=>zp v
 | _=>none
def M_ (K:Frag):List (Str×V)->List (Option V)
 | []=>[]
 | x::l=>VT K x.1::M_ K l
def Na:List (Str×V)->List (Option V)
 | []=>[]
 | x::l=>some x.2::Na l
abbrev C8:=Value×Option Addr×List (Option V)
def GC:List Value->List (Option V)
 | []=>[]
 | v::l=>zp v::GC l
def GD:List V->List (Option V)
 | []=>[]
 | v::l=>some v::GD l
def EL (K:Frag):Value->Option C8
 | .ref a=>(match K.lookup a with
  | some ⟨c,d,.seq it _,_⟩=>some (c,d,GC it.toList)
  | _=>none)
 | _=>none
def Am (xs:List V):C8:=(.type "tuple",none,GD xs)
def EM (K:Frag) (x:Str):Option C8:=match nsIn K mainGlobals x with
 | some (some v)=>EL K v
 | _=>none
def A6 (K:Frag):List (Str×List V)->List (Option C8)
 | []=>[]
 | x::l=>EM K x.1::A6 K l
def A7:List (Str×List V)->List (Option C8)
 | []=>[]
 | x::l=>some (Am x.2)::A7 l
def C9 (K:Frag):List Str->Bool
 | []=>true
 | x::l=>(match nsIn K mainGlobals x with | some none=>true | _=>false)&&C9 K l
section
variable {K:Frag}
theorem j0 {v:Value} {x:V} (e:zp v=some x):RelV x v:=by
 cases v<;>first | (cases e;first | rfl | exact ⟨_,rfl⟩) | cases e
theorem n4:∀ {us:List Value} {xs:List V},GC us=GD xs->be xs us
 | [],[],_=>.nil
 | [],_::_,e=>by cases e
 | _::_,[],e=>by cases e
 | u::us,x::xs,e=>by
  have e':=List.cons.inj (show zp u::GC us=some x::GD xs from e)
  exact .cons (j0 e'.1) (n4 e'.2)
theorem vQ {q:Str} {st:Stmt} {v:Option (Option Value)} (e:fnAt K q v=some (C7 x q st)):∃ f fd,v=some (some (.ref f))/\AS K x q st f fd:=by
 unfold fnAt at e
 split at e
 ·rename_i f
  split at e
  ·rename_i oc od fd mz hl
   have e:=QD e
   unfold C7 at e
   obtain ⟨n,qn,ps,b,sc,gl,cl,df,kd,doc,pm,an,cd,ct,bt⟩:=fd
   simp only [Prod.mk.injEq] at e
   obtain ⟨rfl,rfl,rfl,rfl,rfl,rfl,rfl,rfl,rfl,hc⟩:=e
   refine ⟨f,_,rfl,Uc hl hc ?_⟩
   unfold keepIn
   simp only [hl]
  ·cases e
 ·cases e
theorem uL:∀ {l:List (Str×Stmt)},Ak K l=Al l->∀ (i:Nat) {x:Str} {st:Stmt},l[i]? =some (x,st)->fnAt K x (nsIn K mainGlobals x)=some (C7 x x st)
 | y::l,e,0,x,st,h=>by cases h;exact (List.cons.inj e).1
 | y::l,e,i+1,x,st,h=>uL (List.cons.inj e).2 i (by simpa using h)
theorem l6 (X:K.In h) (G:h.Ns mainGlobals mg) {l:List (Str×Stmt)} (e:Ak K l=Al l) (i:Nat) {st:Stmt} (hi:l[i]? =some (x,st))
  (hb:∀ (kV doc pm:Value) (an:Option Addr) (a_ ct:Value) (us:List Value),us.length=ps.length->bindArgs (fnOf x x (r_ st) (kc st) (bg st) .none kV doc pm an a_ ct) ⟨us,[]⟩=pure (ps.zip us)):dm K mg x st ps:=by
 obtain ⟨f,fd,e1,F⟩:=vQ (uL e i hi)
 exact ⟨f,fd,F,mg_of X G e1,F.binds hb⟩
variable {st:Stmt} {l:List (Str×Stmt)} {p0 p1 p2 p3 p4 p5 p6:Str}
theorem q_ (h:us.length=n+1):∃ a t,us=a::t/\t.length=n:=by
 cases us with
 | nil=>cases h
 | cons a t=>exact ⟨a,t,rfl,by simpa using h⟩
theorem C_ (X:K.In h) (G:h.Ns mainGlobals mg) (e:Ak K l=Al l) (i:Nat) (hi:l[i]? =some (x,st):=by rfl)
  (hb:∀ (kV doc pm:Value) (an:Option Addr) (a_ ct a0:Value),bindArgs (fnOf x x (r_ st) (kc st) (bg st) .none kV doc pm an a_ ct) ⟨[a0],[]⟩=pure [(p0,a0)]:=by intros;rfl):dm K mg x st [p0]:=
 l6 X G e i hi fun a b c d f g us hl=>by
  obtain ⟨a0,GF,rfl,jk⟩:=q_ (n:=0) hl
  obtain rfl:=QS jk
  exact hb ..
theorem rf (X:K.In h) (G:h.Ns mainGlobals mg) (e:Ak K l=Al l) (i:Nat) (hi:l[i]? =some (x,st):=by rfl)
  (hb:∀ (kV doc pm:Value) (an:Option Addr) (a_ ct a0 a1:Value),bindArgs (fnOf x x (r_ st) (kc st) (bg st) .none kV doc pm an a_ ct) ⟨[a0,a1],[]⟩=pure [(p0,a0),(p1,a1)]:=by intros;rfl):dm K mg x st [p0,p1]:=
 l6 X G e i hi fun a b c d f g us hl=>by
  obtain ⟨a0,GF,rfl,jk⟩:=q_ (n:=1) hl
  obtain ⟨a1,EN,rfl,kj⟩:=q_ (n:=0) jk
  obtain rfl:=QS kj
  exact hb ..
theorem EO (X:K.In h) (G:h.Ns mainGlobals mg) (e:Ak K l=Al l) (i:Nat) (hi:l[i]? =some (x,st):=by rfl)
  (hb:∀ (kV doc pm:Value) (an:Option Addr) (a_ ct a0 a1 a2:Value),bindArgs (fnOf x x (r_ st) (kc st) (bg st) .none kV doc pm an a_ ct) ⟨[a0,a1,a2],[]⟩=pure [(p0,a0),(p1,a1),(p2,a2)]:=by intros;rfl):dm K mg x st [p0,p1,p2]:=
 l6 X G e i hi fun a b c d f g us hl=>by
  obtain ⟨a0,GF,rfl,jk⟩:=q_ (n:=2) hl
  obtain ⟨a1,EN,rfl,kj⟩:=q_ (n:=1) jk
  obtain ⟨a2,jx,rfl,ue⟩:=q_ (n:=0) kj
  obtain rfl:=QS ue
  exact hb ..
theorem Jg (X:K.In h) (G:h.Ns mainGlobals mg) (e:Ak K l=Al l) (i:Nat) (hi:l[i]? =some (x,st):=by rfl)
  (hb:∀ (kV doc pm:Value) (an:Option Addr) (a_ ct a0 a1 a2 a3:Value),bindArgs (fnOf x x (r_ st) (kc st) (bg st) .none kV doc pm an a_ ct) ⟨[a0,a1,a2,a3],[]⟩=pure [(p0,a0),(p1,a1),(p2,a2),(p3,a3)]:=by intros;rfl):dm K mg x st [p0,p1,p2,p3]:=
 l6 X G e i hi fun a b c d f g us hl=>by
  obtain ⟨a0,GF,rfl,jk⟩:=q_ (n:=3) hl
  obtain ⟨a1,EN,rfl,kj⟩:=q_ (n:=2) jk
  obtain ⟨a2,jx,rfl,ue⟩:=q_ (n:=1) kj
  obtain ⟨a3,xx,rfl,Jh⟩:=q_ (n:=0) ue
  obtain rfl:=QS Jh
  exact hb ..
theorem VU (X:K.In h) (G:h.Ns mainGlobals mg) (e:Ak K l=Al l) (i:Nat) (hi:l[i]? =some (x,st):=by rfl)
  (hb:∀ (kV doc pm:Value) (an:Option Addr) (a_ ct a0 a1 a2 a3 a4:Value),bindArgs (fnOf x x (r_ st) (kc st) (bg st) .none kV doc pm an a_ ct) ⟨[a0,a1,a2,a3,a4],[]⟩=pure [(p0,a0),(p1,a1),(p2,a2),(p3,a3),(p4,a4)]:=by intros;rfl):dm K mg x st [p0,p1,p2,p3,p4]:=
 l6 X G e i hi fun a b c d f g us hl=>by
  obtain ⟨a0,GF,rfl,jk⟩:=q_ (n:=4) hl
  obtain ⟨a1,EN,rfl,kj⟩:=q_ (n:=3) jk
  obtain ⟨a2,jx,rfl,ue⟩:=q_ (n:=2) kj
  obtain ⟨a3,xx,rfl,Jh⟩:=q_ (n:=1) ue
  obtain ⟨a4,us4,rfl,Nb⟩:=q_ (n:=0) Jh
  obtain rfl:=QS Nb
  exact hb ..
theorem rK {v:Value} {xs:List V} (e:EL K v=some (Am xs)):∃ (a:Addr) (it:Array Value) (n:Nat) (sq:Array (Option Value)),v=.ref a/\K.lookup a=some ⟨.type "tuple",none,.seq it n,sq⟩/\be xs it.toList:=by
 unfold EL at e
 split at e
 ·rename_i a
  split at e
  ·rename_i c d it n sl hl
   have e:=QD e
   unfold Am at e
   simp only [Prod.mk.injEq] at e
   obtain ⟨rfl,rfl,e3⟩:=e
   exact ⟨a,it,n,sl,rfl,hl,n4 e3⟩
  ·cases e
 ·cases e
theorem i9 {xs:List V} (e:EM K x=some (Am xs)):∃ (a:Addr) (it:Array Value) (n:Nat) (sq:Array (Option Value)),nsIn K mainGlobals x=some (some (.ref a))/\K.lookup a=some ⟨.type "tuple",none,.seq it n,sq⟩/\be xs it.toList:=by
 unfold EM at e
 split at e
 ·rename_i u hn
  obtain ⟨a,it,n,sq,rfl,h1,h2⟩:=rK e
  exact ⟨a,it,n,sq,hn,h1,h2⟩
 ·cases e
theorem lD:∀ {l:List (Str×List V)},A6 K l=A7 l->∀ (i:Nat) {x:Str} {v:List V},l[i]? =some (x,v)->EM K x=some (Am v)
 | y::l,e,0,x,st,h=>by cases h;exact (List.cons.inj e).1
 | y::l,e,i+1,x,st,h=>lD (List.cons.inj e).2 i (by simpa using h)
theorem Nc {it:Array Value} {d:Option Addr} {sq:Array (Option Value)} {xs:List V} (hl:K.lookup a=some ⟨.type "tuple",d,.seq it n,sq⟩) (hv:be xs it.toList) (hz:xs.length<=sizeLine) (H:Hp):ae K H a xs:=
 .inr ⟨_,it,n,hl,rfl,rfl,by have:=hv.length;simp at this;omega,hv⟩
theorem tu (X:K.In h) (G:h.Ns mainGlobals mg) {l:List (Str×List V)} (e:A6 K l=A7 l) (i:Nat) {v:List V} (hi:l[i]? =some (x,v):=by rfl) (hz:v.length<=sizeLine:=by decide):∃ a,mg x=some (.ref a)/\∀ H,ae K H a v:=by
 obtain ⟨a,it,n,sq,h1,h2,h3⟩:=i9 (lD e i hi)
 exact ⟨a,mg_of X G h1,Nc h2 h3 hz⟩
theorem rR:∀ {l:List Str},C9 K l=true->∀ (i:Nat) {x:Str},l[i]? =some x->nsIn K mainGlobals x=some none
 | y::l,e,0,x,h=>by
  cases h
  unfold C9 at e
  rw [Bool.and_eq_true_iff] at e
  have e:=e.1
  split at e
  ·assumption
  ·cases e
 | y::l,e,i+1,x,h=>by
  unfold C9 at e
  rw [Bool.and_eq_true_iff] at e
  exact rR e.2 i (by simpa using h)
theorem nn (X:K.In h) (G:h.Ns mainGlobals mg) {l:List Str} (e:C9 K l=true) (i:Nat) (hi:l[i]? =some x:=by rfl):mg x=none:=mg_none_of X G (rR e i hi)
end
inductive Dc where
 | v (x:Option V)
 | t (x:Option C8)
abbrev GG:=Value×Option Addr×Nat×Bool×List (Int×Option V×Dc)
def EQ (K:Frag) (v:Value):Dc:=match v with
 | .ref _=>.t (EL K v)
 | _=>.v (zp v)
def ER (K:Frag):List DictEntry->List (Int×Option V×Dc)
 | []=>[]
 | e::l=>(e.hash,zp e.key,EQ K e.val)::ER K l
def GH (K:Frag) (x:Str):Option GG:=match nsIn K mainGlobals x with
 | some (some (.ref a))=>(match K.lookup a with
  | some ⟨c,d,.dict es _,sl⟩=>some (c,d,sl.size,a==sysModules,ER K es.toList)
  | _=>none)
 | _=>none
abbrev sj:=Str×(V ⊕ List V)
def Dd (w:World):List sj->List (Int×Option V×Dc)
 | []=>[]
 | (k,.inl v)::l=>(DU w (.inr k),some (.str k),.v (some v))::Dd w l
 | (k,.inr v)::l=>(DU w (.inr k),some (.str k),.t (some (Am v)))::Dd w l
def GI (w:World) (l:List sj):GG:=(.type "dict",none,0,false,Dd w l)
def Ji (K:Frag):List (Str×List sj)->List (Option GG)
 | []=>[]
 | x::l=>GH K x.1::Ji K l
def Jj (w:World):List (Str×List sj)->List (Option GG)
 | []=>[]
 | x::l=>some (GI w x.2)::Jj w l
def A8 (K:Frag):List sj->List V->Prop
 | [],[]=>True
 | (_,.inl v)::l,u::us=>u=v/\A8 K l us
 | (_,.inr xs)::l,u::us=>(∃ a,u=.ref a/\∀ H,ae K H a xs)/\A8 K l us
 | _,_=>False
def Jk:List sj->List V->List (Key×V)
 | e::l,u::us=>(.inr e.1,u)::Jk l us
 | _,_=>[]
def ES:List sj->Bool
 | []=>true
 | (_,.inl _)::l=>ES l
 | (_,.inr xs)::l=>decide (xs.length<=1000)&&ES l
section
variable {K:Frag}
theorem j8:∀ {l:List sj},ES l=true->∀ e∈l,∀ xs,e.2=.inr xs->xs.length<=sizeLine
 | (_,.inl _)::l,h,e,he,xs,hx=>by
  rcases Qp.mp he with rfl | he
  ·cases hx
  ·exact j8 (l:=l) h e he xs hx
 | (_,.inr ys)::l,h,e,he,xs,hx=>by
  unfold ES at h
  rw [Bool.and_eq_true_iff,decide_eq_true_iff] at h
  rcases Qp.mp he with rfl | he
  ·cases hx;exact Nat.le_trans h.1 (by decide)
  ·exact j8 (l:=l) h.2 e he xs hx
theorem Nd {k:Str} {v:V} {l:List sj} {us:List V} (e:A8 K ((k,.inl v)::l) us):∃ vs,us=v::vs/\A8 K l vs:=by
 cases us with
 | nil=>exact False.elim e
 | cons u vs=>obtain ⟨rfl,r⟩:=(show u=v/\A8 K l vs from e);exact ⟨vs,rfl,r⟩
theorem VV {us:List V} (e:A8 K [] us):us=[]:=by
 cases us with
 | nil=>rfl
 | cons u vs=>exact False.elim e
theorem oA:∀ {l:List sj} {es:List DictEntry},ER K es=Dd w l->(∀ e∈l,∀ xs,e.2=.inr xs->xs.length<=sizeLine)->∃ (us:List V) (vs:List (Key×Value)),A8 K l us/\(∀ P,Pairs (cf P w) es vs)/\(∀ P,∀ e∈es,∃ k,(cf P w).is k e.key=true/\e.hash=(cf P w).hash k)/\KV (Jk l us) vs/\vs.map (·.1)=l.map (fun e=>.inr e.1)
 | [],[],_,_=>⟨[],[],trivial,fun _=>.nil,(fun _ _ h=>nomatch h),.nil,rfl⟩
 | [],_::_,e,_=>by cases e
 | (_,.inl _)::_,[],e,_=>by cases e
 | (_,.inr _)::_,[],e,_=>by cases e
 | (k,.inl v)::l,d::es,e,hz=>by
  have e':=List.cons.inj (show (d.hash,zp d.key,EQ K d.val)::ER K es=(DU w (.inr k),some (.str k),.v (some v))::Dd w l from e)
  obtain ⟨us,vs,h1,h2,h3,h4,h5⟩:=oA e'.2 fun x hx=>hz x (Qh _ hx)
  have e1:=e'.1
  simp only [Prod.mk.injEq] at e1
  obtain ⟨q1,q2,q3⟩:=e1
  obtain ⟨t,q2⟩:=j0 q2
  have q4:RelV v d.val:=by
   unfold EQ at q3
   split at q3
   ·cases q3
   ·exact j0 (Dc.v.inj q3)
  have hk:∀ P,(cf P w).is (.inr k) d.key=true:=fun P=>by rw [q2];exact gB P w k t
  refine ⟨v::us,(.inr k,d.val)::vs,⟨rfl,h1⟩,fun P=>.cons (kv:=((Sum.inr k,d.val):Key×Value)) (hk P) rfl (h2 P),fun P y hy=>?_,.cons ⟨rfl,q4⟩ h4,by simp [h5]⟩
  rcases Qp.mp hy with rfl | hy
  ·exact ⟨.inr k,hk P,q1⟩
  ·exact h3 P y hy
 | (k,.inr xs)::l,d::es,e,hz=>by
  have e':=List.cons.inj (show (d.hash,zp d.key,EQ K d.val)::ER K es=(DU w (.inr k),some (.str k),.t (some (Am xs)))::Dd w l from e)
  obtain ⟨us,vs,h1,h2,h3,h4,h5⟩:=oA e'.2 fun x hx=>hz x (Qh _ hx)
  have e1:=e'.1
  simp only [Prod.mk.injEq] at e1
  obtain ⟨q1,q2,q3⟩:=e1
  obtain ⟨t,q2⟩:=j0 q2
  have q4:EL K d.val=some (Am xs):=by
   unfold EQ at q3
   split at q3
   ·exact Dc.t.inj q3
   ·cases q3
  obtain ⟨a,it,n,sq,q5,q6,q7⟩:=rK q4
  have hk:∀ P,(cf P w).is (.inr k) d.key=true:=fun P=>by rw [q2];exact gB P w k t
  refine ⟨.ref a::us,(.inr k,d.val)::vs,⟨⟨a,rfl,Nc q6 q7 (hz _ (List.mem_cons_self ..) xs rfl)⟩,h1⟩,fun P=>.cons (kv:=((Sum.inr k,d.val):Key×Value)) (hk P) rfl (h2 P),fun P y hy=>?_,.cons ⟨rfl,by rw [q5];rfl⟩ h4,by simp [h5]⟩
  rcases Qp.mp hy with rfl | hy
  ·exact ⟨.inr k,hk P,q1⟩
  ·exact h3 P y hy
theorem VW {l:List sj} (X:K.In h) (G:h.Ns mainGlobals mg) (e:GH K x=some (GI w l)) (IY:ES l=true) (nd:(l.map (·.1)).Nodup):∃ (a:Addr) (us:List V),mg x=some (.ref a)/\A8 K l us/\KD w K a (Jk l us):=by
 have hz:=j8 IY
 unfold GH at e
 split at e
 ·rename_i a hn
  split at e
  ·rename_i c d es ep sl hl
   have e:=QD e
   unfold GI at e
   simp only [Prod.mk.injEq] at e
   obtain ⟨rfl,rfl,e3,e4,e5⟩:=e
   obtain ⟨us,vs,h1,h2,h3,h4,h5⟩:=oA e5 hz
   refine ⟨a,us,mg_of X G hn,h1,fun P=>⟨_,es,ep,vs,hl,e4,⟨rfl,rfl,Array.eq_empty_of_size_eq_zero e3⟩,rfl,fun y hy=>h3 P y (by simpa using hy),h2 P,?_,h4⟩⟩
   rw [h5]
   have:l.map (fun e=>(Sum.inr e.1:Key))=(l.map (·.1)).map Sum.inr:=by simp
   rw [this]
   exact List.Pairwise.map _ (fun a b q c=>q (Sum.inr.inj c)) nd
  ·cases e
 ·cases e
theorem rL:∀ {l:List (Str×List sj)},Ji K l=Jj w l->∀ (i:Nat) {x:Str} {v:List sj},l[i]? =some (x,v)->GH K x=some (GI w v)
 | y::l,e,0,x,st,h=>by cases h;exact (List.cons.inj e).1
 | y::l,e,i+1,x,st,h=>rL (List.cons.inj e).2 i (by simpa using h)
end
abbrev Nf:List Str:=["type","isinstance","issubclass","getattr","hasattr"]
theorem VX {l:OpenLaw} {p:Program} (hp:l.prog=p)
 (a0:sreFenced p.main=true) (a1:((moduleNames p.main.body).isEmpty||lookedIntoSs (moduleNames p.main.body) p.main.body)=true)
 (a2:namesResolve p=true) (a3:p.boundNames.all (fun n=> !worldNames.contains n)=true)
 (a4:noRoadLSs {strict:= !(importedModules p.main.body).all cThrough.contains,foot:=none,bare:=(["vars","dir","locals"]:List Str).filter (readsOut p p.main.body)} p.main.body=true)
 (a5:(namesMeet p p.main.body fun _ n=>attrL n)=true)
 (a6:l.row.toRowW.solid=true) (VY:l.row.pre.litsOk=true)
 (a7:p.boundNames.contains l.name=true) (a8:(!startupNames.contains l.name)=true)
 (a9:decide (l.foot<=(behindTheImports p).length)=true)
 (b0:l.footing.all footLine=true) (b1:noClassBlock p l.footing=true)
 (b2:l.most.all (fun n=>decide (63<=n))=true) (b3:l.bound.all (fun n=>decide (2^63<=n))=true)
 (b4:noRoadLSs {strict:=true,foot:=some l.bound',writes:=l.writes,may:=l.may} l.footing=true)
 (b5:defStands l.about l.above=true) (b6:l.namesIt=true) (b7:Nf.all (fun n=>l.about !=[n])=true)
 (b8:l.bound'.all (fun n=> !builtinNamed n||l.about==[n]|| !l.reads n)=true)
 (b9:(!l.writes||(p.main.body.flatMap importedNames).all fun n=> !l.reads n)=true)
 (c0:(p.main.body.flatMap importedNames).all (fun n=> !l.reads n||(drawsOf n p.main.body).all fun mn=>mn.2 !=("attrgetter":Str)&&mn.2 !=("methodcaller":Str))=true)
 (c1:namesMeet p l.footing (fun sc n=>(!Nf.contains n||sc.names.lookup n==some .globalImplicit)&&(l.may !=some n||sc.kind==.module||sc.names.lookup n==some .globalImplicit))=true)
 (c2:l.own.contains l.name=true) (c3:(l.own.eraseDups.length==l.own.length)=true) (c4:l.own.all (fun n=> !builtinNamed n)=true)
 (c5:namesMeet p l.above (fun _ n=> !l.own.contains n)=true) (c6:(namesMeet p l.footing fun sc n=>sc.kind==.module||sc.names.lookup n !=some .globalExplicit)=true):l.wellSaid=true:=by
 subst hp
 have q:l.row.wellSaid=true:=by
  unfold OpenRow.wellSaid OpenRow.partSaid looksOpen
  exact look_both (look_both (look_both (look_both (look_both (look_both (look_both (look_both (look_both (look_both (look_both (look_both (look_both (look_both (look_both (look_both (look_both (look_both (look_both (look_both a0 a1) a2) a3) a4) a5) rfl) rfl) rfl) rfl) rfl) rfl) a6) VY) rfl) rfl) rfl) rfl) rfl) a7) a8
 unfold OpenLaw.wellSaid
 rw [q,a9,b0,b1,b2,b3,b4,b5,b6,b7,b8,b9,c0,c1,c2,c3,c4,c5,c6];rfl
theorem zQ {l:OpenLaw} {k:Nat} {q:Program} {loose:List Str} {d:DefRec} {look:Frag->α} {want:World->α}
  (hn:l.most=some n) (hn2:n<=sizeLine) (Iz:d.params.defaults=[]) (hr:fu k callerA)
  (F:∀ (w:World) (mg:Str->Option Value) (fa:Addr) (h:Heap) (K:Frag),K.In h->look K=want w->h.Ns mainGlobals mg->mg d.name=some (.ref fa)->
   ∃ (ts:List (Addr×Obj×List V)) (fd:FuncData) (sp:Sp),(∀ t∈ts,EF K t)/\(ts.map (·.1)).Nodup/\(∀ (s:Shared) (u:Value),BindsTo s fd ⟨[u],[]⟩ [(x,u)])/\
    (∀ base:Heap,(without K (ts.map (·.1))).In base->base.Ns mainGlobals mg->ud l.prog w (without K (ts.map (·.1))) mg base y_ k fa fd [x] sp)/\
    (∀ (H:Hp) (a:Addr) (ns:List Int),ns.length<=n->(∀ t∈ts,H t.1=some (.au t.2.1 (.tup t.2.2)))->af (without K (ts.map (·.1))) H a (ns.map V.int)->sp [.ref a] H (fun v _=>v=.bl true) fun _ _ _=>False)):
  WalkO q loose XP (xw look want).says l.row.toRowW d [] (fun f vs=>PySem.call f vs):=by
 refine Ms.rF hn Iz fun w s₀ s₁ mg mb fa o pm cd doc a vs ns G Y ho hd ju CW IA IB fi hg=>?_
 obtain ⟨K,KX,hl⟩:=Y
 obtain ⟨ts,fd,sp,A5,nd,hb,hF,yx⟩:=F w mg fa _ K KX hl G.T.g CW
 exact wD A5 nd KX G.T.g G.T.b G.T.builtins G.T.nolimit hg IA IB (Nat.le_trans fi hn2) hr hF hb (fun H _ ht hS=>yx H a ns fi ht hS) fun _ _ _ z=>z
def xy (K:Frag):List (Str×List V)->List Addr
 | []=>[]
 | x::l=>(match nsIn K mainGlobals x.1 with | some (some (.ref a))=>a | _=>0)::xy K l
def Jl:List (Str×List V)->Bool
 | []=>true
 | x::l=>decide (x.2.length<=1000)&&Jl l
section
variable {K:Frag}
theorem zF (X:K.In h) (G:h.Ns mainGlobals mg):∀ {l:List (Str×List V)},A6 K l=A7 l->Jl l=true->∃ ts:List (Addr×Obj×List V),ts.map (·.1)=xy K l/\(∀ t∈ts,EF K t)/\∀ (i:Nat) (x:Str) (xs:List V),l[i]? =some (x,xs)->∃ t∈ts,t.1=adr mg x/\t.2.2=xs
 | [],_,_=>⟨[],rfl,(fun t ht=>nomatch ht),fun i x xs e=>by simp at e⟩
 | y::l,e,hs=>by
  have e':=List.cons.inj (show EM K y.1::A6 K l=some (Am y.2)::A7 l from e)
  unfold Jl at hs
  rw [Bool.and_eq_true_iff,decide_eq_true_iff] at hs
  obtain ⟨ts,h1,h2,h3⟩:=zF X G e'.2 hs.2
  obtain ⟨a,it,n,sq,g1,g2,g3⟩:=i9 e'.1
  have hm:=mg_of X G g1
  refine ⟨(a,⟨.type "tuple",none,.seq it n,sq⟩,y.2)::ts,?_,fun t ht=>?_,fun i x xs ei=>?_⟩
  ·unfold xy
   rw [g1,List.map_cons,h1]
  ·rcases Qp.mp ht with rfl | ht
   ·exact VS g2 g3 (Nat.le_trans hs.1 (by decide))
   ·exact h2 t ht
  ·cases i with
   | zero=>
    cases ei
    refine ⟨_,List.mem_cons_self ..,?_,rfl⟩
    show a=adr mg _
    unfold adr;rw [hm]
   | succ i=>
    obtain ⟨t,ht,r⟩:=h3 i x xs (by simpa using ei)
    exact ⟨t,Qh _ ht,r⟩
theorem zO {ts:List (Addr×Obj×List V)} {xs:List V} (h:∃ t∈ts,t.1=adr mg x/\t.2.2=xs) (hH:∀ t∈ts,H t.1=some (.au t.2.1 (.tup t.2.2))):Kn mg H x xs:=by
 obtain ⟨t,ht,e1,e2⟩:=h
 exact ⟨t.2.1,by rw [<- e1,<- e2];exact hH t ht⟩
theorem uV (X:K.In h) (G:h.Ns mainGlobals mg) {l:List (Str×List V)} (e:A6 K l=A7 l) (i:Nat) {xs:List V} (hi:l[i]? =some (x,xs):=by rfl):∃ u,mg x=some u/\RelV (.ref (adr mg x)) u:=by
 obtain ⟨a,it,n,sq,h1,h2,h3⟩:=i9 (lD e i hi)
 exact ⟨.ref a,mg_of X G h1,VI (mg_of X G h1)⟩
end
structure A9 where
 x:Str
 q:Str
 st:Stmt
 fs:List Str
abbrev Jm:=Option EK×Option (Option Value)×Bool
def GJ (K:Frag) (C:Addr):List Str->Bool
 | []=>true
 | f::l=>(match findIn K (.ref C) f with | some none=>true | _=>false)&&GJ K C l
def clsAt (K:Frag) (c:A9) (C:Addr):Jm:=(fnAt K c.q (findIn K (.ref C) "__init__"),findIn K (.ref C) "__setattr__",
 plainGet K C Str.empty&&(hasDictIn K C&&(plainOver K C&&(makesIn K C&&(keepIn K (.ref C)&&((match findIn K (.ref C) "__init__" with | some (some v)=>isFn K v | _=>false)&&GJ K C c.fs))))))
def ET (K:Frag):List A9->List (Option Jm)
 | []=>[]
 | c::l=>(match nsIn K mainGlobals c.x with | some (some (.ref C))=>some (clsAt K c C) | _=>none)::ET K l
def EU:List A9->List (Option Jm)
 | []=>[]
 | c::l=>some (some (C7 "__init__" c.q c.st),some (some (.builtin "object.__setattr__")),true)::EU l
section
variable {K:Frag}
theorem jX:∀ {C:Addr} {l:List Str},GJ K C l=true->∀ f∈l,yu K C f
 | C,f::l,e,g,hg=>by
  unfold GJ at e
  rw [Bool.and_eq_true_iff] at e
  rcases Qp.mp hg with rfl | hg
  ·have e1:=e.1
   split at e1
   ·assumption
   ·cases e1
  ·exact jX e.2 g hg
theorem uS:∀ {l:List A9},ET K l=EU l->∀ (i:Nat) {c:A9},l[i]? =some c->∃ C,nsIn K mainGlobals c.x=some (some (.ref C))/\clsAt K c C=(some (C7 "__init__" c.q c.st),some (some (.builtin "object.__setattr__")),true)
 | y::l,e,0,c,h=>by
  cases h
  have e1:=(List.cons.inj e).1
  split at e1
  ·rename_i C hC
   exact ⟨C,hC,QD e1⟩
  ·cases e1
 | y::l,e,i+1,c,h=>uS (List.cons.inj e).2 i (by simpa using h)
theorem VZ (X:K.In h) (G:h.Ns mainGlobals mg) {l:List A9} (e:ET K l=EU l) (i:Nat) {q:Str} {st:Stmt} {fs:List Str} (hi:l[i]? =some ⟨x,q,st,fs⟩)
  (hb:∀ (kV doc pm:Value) (an:Option Addr) (a_ ct:Value) (us:List Value),us.length=ps.length->bindArgs (fnOf "__init__" q (r_ st) (kc st) (bg st) .none kV doc pm an a_ ct) ⟨us,[]⟩=pure (ps.zip us)):EG K mg x q st ps fs (adr mg x):=by
 obtain ⟨C,hn,hc⟩:=uS e i hi
 have hm:=mg_of X G hn
 have ea:adr mg x=C:=by unfold adr;rw [hm]
 unfold clsAt at hc
 simp only [Prod.mk.injEq,Bool.and_eq_true_iff] at hc
 obtain ⟨c1,c2,c3,c4,c5,c6,c7,c8,c9⟩:=hc
 obtain ⟨f,fd,e1,F⟩:=vQ c1
 rw [e1] at c8
 rw [ea]
 exact ⟨hm,⟨c3,c4,c5,c2⟩,jX c9,f,fd,⟨c6,e1,c8,c7⟩,F,F.binds hb⟩
theorem V0 (X:K.In h) (G:h.Ns mainGlobals mg) {l:List A9} (e:ET K l=EU l) (i:Nat) {q p0 p1:Str} {st:Stmt} {fs:List Str} (hi:l[i]? =some ⟨x,q,st,fs⟩:=by rfl)
  (hb:∀ (kV doc pm:Value) (an:Option Addr) (a_ ct a0 a1:Value),bindArgs (fnOf "__init__" q (r_ st) (kc st) (bg st) .none kV doc pm an a_ ct) ⟨[a0,a1],[]⟩=pure [(p0,a0),(p1,a1)]:=by intros;rfl):EG K mg x q st [p0,p1] fs (adr mg x):=
 VZ X G e i hi fun a b c d f g us hl=>by
  match us,hl with
  | [a0,a1],_=>exact hb ..
end
end L2
namespace L2
def zc:Nat->Nat->Nat
 | 0,x=>x
 | n+1,x=>zc n (5*x+1)
theorem kK:∀ (a b x:Nat),zc (a+b) x=zc b (zc a x)
 | 0,b,x=>by rw [Nat.zero_add];rfl
 | a+1,b,x=>by rw [show a+1+b=(a+b)+1 by omega];exact kK a b (5*x+1)
theorem yZ (n x:Nat):zc (n+1) x=5*zc n x+1:=kK n 1 x
theorem uO:∀ k:Nat,∃ c:Nat,c % 2=1/\∀ x,zc (2^k) x=x+2^k*(c*(4*x+1))
 | 0=>⟨1,rfl,fun x=>by show 5*x+1=_;omega⟩
 | k+1=>by
  obtain ⟨c,hc,h⟩:=uO k
  refine ⟨c+2*(2^k*(c*c)),by omega,fun x=>?_⟩
  have e:2^(k+1)=2^k+2^k:=by rw [Nat.pow_succ];omega
  rw [e,kK,h,h]
  generalize 2^k=p
  generalize hm:4*x+1=m
  have e1:4*(x+p*(c*m))+1=m+4*(p*(c*m)):=by rw [Nat.mul_add];omega
  have e2:c*(m+4*(p*(c*m)))=c*m+4*(p*(c*(c*m))):=by rw [Nat.mul_add];congr 1;ac_rfl
  have e3:(c+2*(p*(c*c)))*m=c*m+2*(p*(c*(c*m))):=by rw [Nat.add_mul];congr 1;ac_rfl
  rw [e1,e2,e3]
  generalize p*(c*(c*m))=v
  generalize c*m=u
  have f1:p*(u+4*v)=p*u+4*(p*v):=by rw [Nat.mul_add];congr 1;ac_rfl
  have f2:(p+p)*(u+2*v)=p*u+p*u+4*(p*v):=by
   have f3:p*(2*v)=2*(p*v):=by ac_rfl
   rw [Nat.add_mul,Nat.mul_add,f3]
   omega
  rw [f1,f2]
  omega
theorem oE:∀ (k x e:Nat),e < 2^k->∃ l,l < 2^k/\zc l x % 2^k=e
 | 0,x,e,h=>⟨0,by decide,by rw [Nat.pow_zero,Nat.mod_one];have:e < 1:=h;omega⟩
 | k+1,x,e,h=>by
  have e2:2^(k+1)=2*2^k:=by rw [Nat.pow_succ];omega
  have pos:0 < 2^k:=Nat.pow_pos (by decide)
  obtain ⟨l,hl,he⟩:=oE k x (e % 2^k) (Nat.mod_lt _ pos)
  obtain ⟨c,hc,hs⟩:=uO k
  rw [e2] at h
  have key:∀ y:Nat,y % 2^k=e % 2^k->y % (2*2^k)=e\/(y+2^k*(c*(4*y+1))) % (2*2^k)=e:=fun y hy=>by
   have aas:(c*(4*y+1)) % 2=1:=by
    rw [Nat.mul_mod,hc,show (4*y+1) % 2=1 by omega]
   obtain ⟨q,hq⟩:∃ q,c*(4*y+1)=2*q+1:=⟨c*(4*y+1) / 2,by omega⟩
   rw [hq]
   have e3:y+2^k*(2*q+1)=(y+2^k)+(2*2^k)*q:=by rw [Nat.mul_add,Nat.mul_one,<- Nat.mul_assoc,Nat.mul_comm (2^k) 2];omega
   rw [e3,Nat.add_mul_mod_self_left]
   generalize 2^k=p at*
   have d1:=Nat.div_add_mod y p
   have d2:=Nat.div_add_mod e p
   rw [hy] at d1
   have Aj:e / p < 2:=by
    rw [Nat.div_lt_iff_lt_mul pos];omega
   have hm:e % p < p:=Nat.mod_lt _ pos
   generalize y / p=a at*
   generalize e / p=b at*
   generalize e % p=r at*
   rcases Nat.mod_two_eq_zero_or_one (a+b) with z | z
   ·left
    obtain ⟨t,rfl⟩:∃ t,a=b+2*t:=⟨(a - b) / 2,by omega⟩
    have:y=e+(2*p)*t:=by
     rw [<- d1,<- d2,Nat.mul_add,<- Nat.mul_assoc,Nat.mul_comm p 2];omega
    rw [this,Nat.add_mul_mod_self_left,Nat.mod_eq_of_lt h]
   ·right
    obtain ⟨t,ht⟩:∃ t,a+1=b+2*t:=⟨(a+1 - b) / 2,by omega⟩
    have:y+p=e+(2*p)*t:=by
     have q1:y+p=p*(a+1)+r:=by rw [Nat.mul_add];omega
     rw [q1,ht,<- d2,Nat.mul_add,<- Nat.mul_assoc,Nat.mul_comm p 2];omega
    rw [this,Nat.add_mul_mod_self_left,Nat.mod_eq_of_lt h]
  rcases key (zc l x) he with z | z
  ·exact ⟨l,by omega,by rw [e2];exact z⟩
  ·exact ⟨l+2^k,by omega,by rw [e2,kK,hs];exact z⟩
end L2
namespace L2
open PySem PySem.SetTable
def vt (mask:Nat) (p:Probe):Probe:=if p.more > 0 then {p with j:=p.j+1,more:=p.more - 1} else {p with j:=(leap mask p.i p.perturb).1,more:=runEnd mask (leap mask p.i p.perturb).1 - (leap mask p.i p.perturb).1,i:=(leap mask p.i p.perturb).1,perturb:=(leap mask p.i p.perturb).2}
def EV (mask:Nat) (q:Nat×Nat):Probe:={j:=q.1,more:=runEnd mask q.1 - q.1,i:=q.1,perturb:=q.2,dummy:=none}
def st (mask:Nat) (h:Int):Nat->Probe
 | 0=>EV mask (bits h % (mask+1),bits h)
 | n+1=>vt mask (st mask h n)
def lp (mask:Nat) (h:Int):Nat->Nat×Nat
 | 0=>(bits h % (mask+1),bits h)
 | l+1=>leap mask (lp mask h l).1 (lp mask h l).2
section
variable {mask:Nat} {h:Int}
theorem gW (i:Nat):runEnd mask i - i<=9/\(i<=mask->i+(runEnd mask i - i)<=mask):=by
 unfold runEnd
 split<;>omega
theorem tO {N:Nat} {q:Nat×Nat} (e:st mask h N=EV mask q):∀ m,m<=runEnd mask q.1 - q.1->st mask h (N+m)={j:=q.1+m,more:=runEnd mask q.1 - q.1 - m,i:=q.1,perturb:=q.2,dummy:=none}
 | 0,_=>e
 | m+1,hm=>by
  have ih:=tO e m (by omega)
  show vt mask (st mask h (N+m))=_
  rw [ih]
  unfold vt
  rw [if_pos (show runEnd mask q.1 - q.1 - m > 0 by omega)]
  simp only [Probe.mk.injEq,and_true]
  omega
theorem uU:∀ l,∃ N,N<=10*l/\st mask h N=EV mask (lp mask h l)
 | 0=>⟨0,Qy _,rfl⟩
 | l+1=>by
  obtain ⟨N,hN,e⟩:=uU l
  have hr:=(gW (mask:=mask) (lp mask h l).1).1
  refine ⟨N+(runEnd mask (lp mask h l).1 - (lp mask h l).1)+1,by omega,?_⟩
  show vt mask (st mask h (N+(runEnd mask (lp mask h l).1 - (lp mask h l).1)))=_
  rw [tO e _ (Qy _)]
  unfold vt
  rw [if_neg (by simp)]
  rfl
theorem V1:∀ l,(lp mask h l).1<=mask
 | 0=>Nat.le_of_lt_succ (Nat.mod_lt _ (Nat.succ_pos _))
 | l+1=>Nat.le_of_lt_succ (Nat.mod_lt _ (Nat.succ_pos _))
theorem vO:∀ l,(lp mask h l).2=bits h / 32^l
 | 0=>by rw [Nat.pow_zero,Nat.div_one];rfl
 | l+1=>by
  show (lp mask h l).2 / 32=_
  rw [vO l,Nat.div_div_eq_div_mul,Nat.pow_succ]
theorem V2:bits h < 2^64:=by
 unfold bits
 have h1:=Int.emod_lt_of_pos h (show (0:Int) < 2^64 by decide)
 have h2:=Int.emod_nonneg h (show ((2:Int)^64)≠0 by decide)
 omega
theorem V3 (l:Nat):(lp mask h (13+l)).2=0:=by
 rw [vO]
 refine Nat.div_eq_of_lt (Nat.lt_of_lt_of_le V2 ?_)
 rw [Nat.pow_add]
 exact Nat.le_trans (show 2^64<=32^13*1 by decide) (Nat.mul_le_mul_left _ (Nat.pow_pos (by decide)))
theorem sX:∀ l,(lp mask h (13+l)).1=zc l (lp mask h 13).1 % (mask+1)
 | 0=>(Nat.mod_eq_of_lt (Nat.lt_succ_of_le (V1 13))).symm
 | l+1=>by
  show ((lp mask h (13+l)).1*5+1+(lp mask h (13+l)).2 / 32) % (mask+1)=_
  rw [V3,sX l,yZ,Nat.zero_div,Nat.add_zero,Nat.add_mod,Nat.mod_mul_mod,<- Nat.add_mod,Nat.mul_comm]
theorem meets {k:Nat} (hk:mask+1=2^k) {e:Nat} (he:e<=mask):∃ n,n<=10*(mask+13)/\(st mask h n).j=e:=by
 obtain ⟨l,hl,hx⟩:=oE k (lp mask h 13).1 e (by omega)
 obtain ⟨N,hN,e1⟩:=uU (mask:=mask) (h:=h) (13+l)
 refine ⟨N,by omega,?_⟩
 rw [e1]
 show (lp mask h (13+l)).1=e
 rw [sX,hk]
 exact hx
theorem pT:∀ n,(st mask h n).dummy=none
 | 0=>rfl
 | n+1=>by
  show (vt mask (st mask h n)).dummy=none
  unfold vt
  split<;>exact pT n
theorem nE:∀ n,(st mask h n).j+(st mask h n).more<=mask
 | 0=>(gW _).2 (Nat.le_of_lt_succ (Nat.mod_lt _ (Nat.succ_pos _)))
 | n+1=>by
  have ih:=nE n
  show (vt mask (st mask h n)).j+(vt mask (st mask h n)).more<=mask
  unfold vt
  split
  ·simp only;omega
  ·exact (gW _).2 (Nat.le_of_lt_succ (Nat.mod_lt _ (Nat.succ_pos _)))
end
section
variable {xs:Array Nat}
def vy (xs:Array Nat):Prop:=∀ i k (h:i < k) (hk:k < xs.size),xs[i]'(Nat.lt_trans h hk) < xs[k]
theorem l9 (dc:vy xs):∀ (d_ lo hi:Nat),hi - lo<=d_->lo<=hi->hi<=xs.size->(∀ i (h:i < xs.size),i < lo->xs[i] < j)->(∀ i (h:i < xs.size),hi<=i->j<=xs[i])->
  below.go xs j d_ lo hi<=xs.size/\(∀ i (h:i < xs.size),i < below.go xs j d_ lo hi->xs[i] < j)/\(∀ i (h:i < xs.size),below.go xs j d_ lo hi<=i->j<=xs[i])
 | 0,lo,hi,hf,hl,hs,h1,h2=>by
  have:lo=hi:=by omega
  subst this
  exact ⟨hs,h1,h2⟩
 | d_+1,lo,hi,hf,hl,hs,h1,h2=>by
  unfold below.go
  by_cases c:lo < hi
  ·rw [if_pos c]
   have hm:(lo+hi) / 2 < xs.size:=by omega
   have eg:xs.getD ((lo+hi) / 2) j=xs[(lo+hi) / 2]:=by simp [Array.getD,hm]
   simp only [eg]
   by_cases d:xs[(lo+hi) / 2] < j
   ·rw [if_pos d]
    refine l9 dc d_ _ _ (by omega) (by omega) hs (fun i h dh=>?_) h2
    by_cases q:i=(lo+hi) / 2
    ·subst q;exact d
    ·have:=dc i ((lo+hi) / 2) (by omega) hm;omega
   ·rw [if_neg d]
    refine l9 dc d_ _ _ (by omega) (by omega) (by omega) h1 (fun i h dh=>?_)
    by_cases q:i=(lo+hi) / 2
    ·subst q;omega
    ·have:=dc ((lo+hi) / 2) i (by omega) h;omega
  ·rw [if_neg c]
   have:lo=hi:=by omega
   subst this
   exact ⟨hs,h1,h2⟩
theorem e8 (dc:vy xs):below xs j<=xs.size/\(∀ i (h:i < xs.size),i < below xs j->xs[i] < j)/\(∀ i (h:i < xs.size),below xs j<=i->j<=xs[i]):=
 l9 dc xs.size 0 xs.size (by omega) (by omega) (by omega) (fun _ _ h=>absurd h (Nat.not_lt_zero _)) (fun i h hi=>absurd h (by omega))
theorem zI (dc:vy xs) (hi:i < xs.size):below xs xs[i]=i:=by
 obtain ⟨h1,h2,h3⟩:=e8 (j:=xs[i]) dc
 by_cases c:i < below xs xs[i]
 ·exact absurd (h2 i hi c) (Nat.lt_irrefl _)
 ·by_cases d:below xs xs[i] < i
  ·have:=h3 (below xs xs[i]) (by omega) (Qy _)
   have:=dc (below xs xs[i]) i d hi
   omega
  ·omega
end
theorem gZ {t:SetTable} (dc:vy t.place) (hi:i < t.place.size):t.slot t.place[i]=.live i:=by
 unfold slot
 rw [zI dc hi]
 simp [hi]
theorem wJ {t:SetTable} (dc:vy t.place) (nd:t.dummies=#[]) (hj:∀ i (h:i < t.place.size),t.place[i]≠j):t.slot j=.empty:=by
 unfold slot
 have h1:(t.place[below t.place j]?==some j)=false:=by
  rw [beq_eq_false_iff_ne]
  intro e
  obtain ⟨h,e'⟩:=Array.getElem?_eq_some_iff.mp e
  exact hj _ h e'
 have h2:has t.dummies j=false:=by
  unfold has;rw [nd]
  simp
 simp only [h1,h2]
 rfl
def lz (t:SetTable) (j:Nat):Prop:=∃ i,∃ h:i < t.place.size,t.place[i]=j
structure nq (t:SetTable) (es:Array (Int×Value)):Prop where
 pw:∃ k,t.mask+1=2^k/\3<=k
 nd:t.dummies=#[]
 sz:t.place.size=es.size
 dc:vy t.place
 le:∀ i (h:i < t.place.size),t.place[i]<=t.mask
 room:es.size*5 < t.mask*3
 reach:∀ i (h:i < es.size) (h':i < t.place.size),∃ n,(st t.mask es[i].1 n).j=t.place[i]/\∀ m,m < n->lz t (st t.mask es[i].1 m).j
section
variable {t:SetTable} {h:Int}
theorem uZ (dc:vy t.place):∀ j,(∀ j',j'<=j->lz t j')->∃ h:j < t.place.size,t.place[j]=j
 | 0,ha=>by
  obtain ⟨i,hi,e⟩:=ha 0 (Qy _)
  rcases Nat.eq_zero_or_pos i with rfl | hp
  ·exact ⟨hi,e⟩
  ·have:=dc 0 i hp hi;omega
 | j+1,ha=>by
  obtain ⟨hj,ej⟩:=uZ dc j fun j' h=>ha j' (by omega)
  obtain ⟨i,hi,e⟩:=ha (j+1) (Qy _)
  have h1:j < i:=by
   rcases Nat.lt_trichotomy i j with c | c | c
   ·have:=dc i j c hj;omega
   ·subst c;omega
   ·exact c
  rcases Nat.lt_or_ge (j+1) i with c | c
  ·have:=dc j (j+1) (by omega) (by omega)
   have:=dc (j+1) i c hi
   omega
  ·have:i=j+1:=by omega
   subst this
   exact ⟨hi,e⟩
theorem nq.free (T:nq t es):∃ e,e<=t.mask/\¬lz t e:=by
 refine Classical.byContradiction fun c=>?_
 have:∀ j',j'<=t.mask->lz t j':=fun j' hj=>Classical.byContradiction fun q=>c ⟨j',hj,q⟩
 obtain ⟨hm,_⟩:=uZ T.dc t.mask this
 have:=T.sz
 have:=T.room
 omega
theorem least {P:Nat->Prop}:∀ n,P n->∃ m,m<=n/\P m/\∀ k,k < m->¬P k:=by
 intro n
 induction n using Nat.strongRecOn with
 | _ n ih=>
  intro hn
  by_cases c:∃ k,k < n/\P k
  ·obtain ⟨k,hk,hp⟩:=c
   obtain ⟨m,h1,h2,h3⟩:=ih k hk hp
   exact ⟨m,by omega,h2,h3⟩
  ·exact ⟨n,Qy _,hn,fun k hk hp=>c ⟨k,hk,hp⟩⟩
structure FF (t:SetTable) (h:Int) (n0:Nat):Prop where
 free:¬lz t (st t.mask h n0).j
 full:∀ m,m < n0->lz t (st t.mask h m).j
 Jo:n0 < 10*turns t.mask
theorem nq.ff (T:nq t es) (h:Int):∃ n0,FF t h n0:=by
 obtain ⟨e,he,hf⟩:=T.free
 obtain ⟨k,hk,_⟩:=T.pw
 obtain ⟨n,hn,ej⟩:=meets (h:=h) hk he
 obtain ⟨m,h1,h2,h3⟩:=least (P:=fun n=>¬lz t (st t.mask h n).j) n (by rw [ej];exact hf)
 exact ⟨m,h2,fun k hk=>Classical.byContradiction (h3 k hk),by unfold turns;omega⟩
theorem lz.slot (dc:vy t.place) {j:Nat} (o:lz t j):∃ i,∃ h:i < t.place.size,t.place[i]=j/\t.slot j=.live i:=by
 obtain ⟨i,hi,rfl⟩:=o
 exact ⟨i,hi,rfl,gZ dc hi⟩
theorem rA {hashAt:Nat->Int} {n0:Nat} (dc:vy t.place) (nd:t.dummies=#[]) (F:FF t h n0):∀ (d_ n:Nat),n<=n0->n0 - n < d_->
  (∃ m i,∃ hi:i < t.place.size,n<=m/\m < n0/\t.place[i]=(st t.mask h m).j/\hashAt i=h/\(∀ m',n<=m'->m' < m->∀ i' (dh:i' < t.place.size),t.place[i']=(st t.mask h m').j->hashAt i'≠h)/\probe.go t hashAt h d_ (st t.mask h n)=some (.candidate (st t.mask h m).j i (st t.mask h (m+1))))\/
  ((∀ m',n<=m'->m' < n0->∀ i' (dh:i' < t.place.size),t.place[i']=(st t.mask h m').j->hashAt i'≠h)/\probe.go t hashAt h d_ (st t.mask h n)=some (.empty (st t.mask h n0).j none))
 | 0,n,_,hf=>absurd hf (Nat.not_lt_zero _)
 | d_+1,n,hn,hf=>by
  rcases Nat.lt_or_ge n n0 with c | c
  ·obtain ⟨i,hi,ei,es⟩:=(F.full n c).slot dc
   unfold probe.go
   rw [es]
   dsimp only
   by_cases d:hashAt i=h
   ·rw [if_pos (by simpa using d)]
    exact .inl ⟨n,i,hi,Qy _,c,ei,d,fun m' h1 h2=>absurd h1 (by omega),rfl⟩
   ·rw [if_neg (by simpa using d)]
    have Ng:∀ m',n<=m'->n+1<=m'\/m'=n:=fun m' _=>by omega
    have un:∀ i' (dh:i' < t.place.size),t.place[i']=(st t.mask h n).j->hashAt i'≠h:=fun i' dh e'=>by
     have:i'=i:=by
      have:=gZ dc dh
      rw [e',es] at this
      injection this with this
      exact this.symm
     subst this;exact d
    rcases rA dc nd F d_ (n+1) c (by omega) with ⟨m,i',dh,h1,h2,h3,h4,h5,h6⟩ | ⟨h1,h2⟩
    ·refine .inl ⟨m,i',dh,by omega,h2,h3,h4,fun m' q1 q2=>?_,h6⟩
     rcases Ng m' q1 with q | q
     ·exact h5 m' q q2
     ·rw [q];exact un
    ·refine .inr ⟨fun m' q1 q2=>?_,h2⟩
     rcases Ng m' q1 with q | q
     ·exact h1 m' q q2
     ·rw [q];exact un
  ·have:n=n0:=by omega
   subst this
   unfold probe.go
   rw [wJ dc nd fun i hi e=>F.free ⟨i,hi,e⟩]
   dsimp only
   rw [pT]
   exact .inr ⟨fun m' h1 h2=>absurd h1 (by omega),rfl⟩
theorem nq.met {n0:Nat} (T:nq t es) (F:FF t h n0) (hi:i < es.size) (dh:i < t.place.size) (eh:es[i].1=h):∃ m,m < n0/\(st t.mask h m).j=t.place[i]:=by
 obtain ⟨n,e1,e2⟩:=T.reach i hi dh
 rw [eh] at e1 e2
 refine ⟨n,?_,e1⟩
 rcases Nat.lt_or_ge n n0 with c | c
 ·exact c
 ·rcases Nat.lt_or_ge n0 n with d | d
  ·exact absurd (e2 n0 d) F.free
  ·have:n=n0:=by omega
   subst this
   exact absurd ⟨i,dh,e1.symm⟩ F.free
end
section
variable {xs:Array α} {p:Nat} {x:α}
theorem d9 (hp:p<=xs.size):(insertAt xs p x).toList=xs.toList.take p++x::xs.toList.drop p:=by
 unfold insertAt
 simp [Array.toList_extract,List.take_of_length_le]
theorem bE (hp:p<=xs.size):(insertAt xs p x).size=xs.size+1:=by
 rw [<- Array.length_toList,d9 hp]
 simp;omega
theorem bP (hp:p<=xs.size) (i:Nat) (hi:i < (insertAt xs p x).size):(insertAt xs p x)[i]=if h:i < p then xs[i]'(by omega) else if h2:i=p then x else xs[i - 1]'(by rw [bE hp] at hi;omega):=by
 have hs:=bE (x:=x) hp
 have e:(insertAt xs p x)[i]=(insertAt xs p x).toList[i]'(by simpa using hi):=by simp
 rw [e]
 simp only [d9 hp]
 have hl:(xs.toList.take p).length=p:=by simp;omega
 by_cases h:i < p
 ·rw [dif_pos h,Qe (by omega)]
  simp
 ·rw [dif_neg h,Qf (by omega)]
  by_cases h2:i=p
  ·rw [dif_pos h2]
   have z:∀ (l:List α) (k:Nat) (hk:k < (x::l).length),k=0->(x::l)[k]=x:=fun l k hk e=>by subst e;rfl
   exact z _ _ _ (by omega)
  ·rw [dif_neg h2]
   obtain ⟨k,hk⟩:∃ k,i - (xs.toList.take p).length=k+1:=⟨i - p - 1,by omega⟩
   simp only [hk,List.getElem_cons_succ,List.getElem_drop]
   have:p+k=i - 1:=by omega
   simp [this]
end
theorem V4 (j:Nat):has #[] j=false:=by
 unfold has;simp
section
variable {t:SetTable} {h:Int} {x:Value} {n0:Nat}
theorem lG (nd:t.dummies=#[]) (j:Nat):t.put j=({t with place:=insertAt t.place (below t.place j) j},below t.place j):=by
 unfold put
 rw [nd,V4]
 simp only [Bool.false_eq_true,if_false]
theorem V5 (T:nq t es) (j:Nat) {j':Nat}:lz (t.put j).1 j'↔j'=j\/lz t j':=by
 rw [lG T.nd]
 have hp:=(e8 (j:=j) T.dc).1
 generalize below t.place j=p at hp
 constructor
 ·rintro ⟨i,hi,e⟩
  have dh:i < (insertAt t.place p j).size:=hi
  have e':(insertAt t.place p j)[i]=j':=e
  rw [bP hp] at e'
  split at e'
  ·exact .inr ⟨_,_,e'⟩
  ·split at e'
   ·exact .inl e'.symm
   ·exact .inr ⟨_,_,e'⟩
 ·rintro (rfl | ⟨i,hi,rfl⟩)
  ·refine ⟨p,(by show p < (insertAt t.place p j').size;rw [bE hp];omega),?_⟩
   show (insertAt t.place p j')[p]'_=j'
   rw [bP hp];simp
  ·by_cases c:i < p
   ·refine ⟨i,(by show i < (insertAt t.place p j).size;rw [bE hp];omega),?_⟩
    show (insertAt t.place p j)[i]'_=_
    rw [bP hp,dif_pos c]
   ·refine ⟨i+1,(by show i+1 < (insertAt t.place p j).size;rw [bE hp];omega),?_⟩
    show (insertAt t.place p j)[i+1]'_=_
    rw [bP hp,dif_neg (by omega),dif_neg (by omega)]
    simp
theorem V6 (T:nq t es) (hj:¬lz t j):vy (t.put j).1.place:=by
 rw [lG T.nd]
 obtain ⟨hp,h2,h3⟩:=e8 (j:=j) T.dc
 generalize below t.place j=p at hp h2 h3
 intro i k An hk
 have hk':k < (insertAt t.place p j).size:=hk
 have hs:=bE (x:=j) hp
 show (insertAt t.place p j)[i]'_ < (insertAt t.place p j)[k]
 rw [bP hp,bP hp]
 by_cases c:k < p
 ·rw [dif_pos c,dif_pos (by omega)];exact T.dc i k An (by omega)
 ·rw [dif_neg c]
  by_cases d:k=p
  ·rw [dif_pos d,dif_pos (by omega)]
   exact h2 i (by omega) (by omega)
  ·rw [dif_neg d]
   by_cases a:i < p
   ·rw [dif_pos a];exact T.dc i (k - 1) (by omega) (by omega)
   ·rw [dif_neg a]
    by_cases b:i=p
    ·rw [dif_pos b]
     have:=h3 (k - 1) (by omega) (by omega)
     have ne:t.place[k - 1]'(by omega)≠j:=fun e=>hj ⟨k - 1,by omega,e⟩
     omega
    ·rw [dif_neg b];exact T.dc (i - 1) (k - 1) (by omega) (by omega)
abbrev l_ (t:SetTable) (j:Nat):SetTable:={t with place:=insertAt t.place (below t.place j) j}
theorem nq.put (T:nq t es) (F:FF t h n0) (hr:(es.size+1)*5 < t.mask*3):nq (l_ t (st t.mask h n0).j) (insertAt es (below t.place (st t.mask h n0).j) (h,x)):=by
 have GK:∀ j',lz (l_ t (st t.mask h n0).j) j'↔j'=(st t.mask h n0).j\/lz t j':=fun j'=>by have:=V5 T (st t.mask h n0).j (j':=j');rw [lG T.nd] at this;exact this
 have Jp:vy (l_ t (st t.mask h n0).j).place:=by have:=V6 T F.free;rw [lG T.nd] at this;exact this
 have hsz:=T.sz
 have hp:=(e8 (j:=(st t.mask h n0).j) T.dc).1
 have V7:(st t.mask h n0).j<=t.mask:=by have:=nE (mask:=t.mask) (h:=h) n0;omega
 have grow:∀ {j'},lz t j'->lz (l_ t (st t.mask h n0).j) j':=fun o=>(GK _).mpr (.inr o)
 have V8:∀ i (h':i < (l_ t (st t.mask h n0).j).place.size),(l_ t (st t.mask h n0).j).place[i]<=t.mask:=fun i hi=>by
  rcases (GK _).mp ⟨i,hi,rfl⟩ with e | ⟨i',dh,e⟩
  ·rw [e];exact V7
  ·rw [<- e];exact T.le i' dh
 have Gm:below t.place (st t.mask h n0).j<=es.size:=by omega
 have s1:=bE (x:=(h,x)) Gm
 have s2:(l_ t (st t.mask h n0).j).place.size=t.place.size+1:=bE hp
 refine ⟨T.pw,T.nd,by omega,Jp,V8,by rw [s1];exact hr,fun i h1 h2=>?_⟩
 have e2:(l_ t (st t.mask h n0).j).place[i]=(insertAt t.place (below t.place (st t.mask h n0).j) (st t.mask h n0).j)[i]:=rfl
 rw [e2]
 generalize lz (l_ t (st t.mask h n0).j)=O at grow
 show ∃ n,(st t.mask (insertAt es (below t.place (st t.mask h n0).j) (h,x))[i].1 n).j=_/\∀ m,m < n->O (st t.mask (insertAt es (below t.place (st t.mask h n0).j) (h,x))[i].1 m).j
 simp only [bP hp,bP Gm]
 by_cases c:i < below t.place (st t.mask h n0).j
 ·simp only [dif_pos c]
  obtain ⟨n,e1,e2⟩:=T.reach i (by omega) (by omega)
  exact ⟨n,e1,fun m hm=>grow (e2 m hm)⟩
 ·simp only [dif_neg c]
  by_cases d:i=below t.place (st t.mask h n0).j
  ·simp only [dif_pos d]
   exact ⟨n0,rfl,fun m hm=>grow (F.full m hm)⟩
  ·simp only [dif_neg d]
   obtain ⟨n,e1,e2⟩:=T.reach (i - 1) (by omega) (by omega)
   exact ⟨n,e1,fun m hm=>grow (e2 m hm)⟩
end
theorem hV:∀ {l m:List Nat},l.Nodup->(∀ x∈l,x∈m)->l.length<=m.length
 | [],m,_,_=>Nat.zero_le _
 | a::l,m,nd,hs=>by
  obtain ⟨h1,h2⟩:=List.nodup_cons.mp nd
  have hm:=hs a (List.mem_cons_self ..)
  have:l.length<=(m.erase a).length:=hV h2 fun x hx=>(List.mem_erase_of_ne (show x≠a from fun e=>h1 (by rw [<- e];exact hx))).mpr (hs x (Qh _ hx))
  rw [List.length_erase_of_mem hm] at this
  have:=List.length_pos_of_mem hm
  simp only [List.length_cons];omega
def Ow (owner:Array (Option Nat)) (j:Nat):Prop:=(owner.getD j (some 0)).isNone=false
structure vz (mask:Nat) (owner:Array (Option Nat)) (hs:List Int):Prop where
 sz:owner.size=mask+1
 lt:∀ j k:Nat,owner[j]? =some (some k)->k < hs.length
 inj:∀ j j' k:Nat,owner[j]? =some (some k)->owner[j']? =some (some k)->j=j'
 reach:∀ k (h:k < hs.length),∃ n,owner[(st mask hs[k] n).j]? =some (some k)/\∀ m,m < n->Ow owner (st mask hs[k] m).j
section
variable {mask:Nat} {owner:Array (Option Nat)} {hs:List Int} {h:Int}
theorem sH (hz:owner.size=mask+1) (hj:j<=mask):Ow owner j↔∃ k,owner[j]? =some (some k):=by
 have uu:j < owner.size:=by omega
 unfold Ow
 have e:owner.getD j (some 0)=owner[j]:=by simp [Array.getD,uu]
 rw [e,Array.getElem?_eq_getElem uu]
 cases owner[j] with
 | none=>simp
 | some k=>simp
theorem vz.V9 (I:vz mask owner hs) (hl:hs.length<=mask):∃ e,e<=mask/\¬Ow owner e:=by
 refine Classical.byContradiction fun c=>?_
 have ha:∀ j,j<=mask->∃ k,owner[j]? =some (some k):=fun j hj=>(sH I.sz hj).mp (Classical.byContradiction fun q=>c ⟨j,hj,q⟩)
 have hk:∀ j,∃ k,j<=mask->owner[j]? =some (some k):=fun j=>by
  by_cases q:j<=mask
  ·obtain ⟨k,e⟩:=ha j q;exact ⟨k,fun _=>e⟩
  ·exact ⟨0,fun z=>absurd z q⟩
 let f:=fun j=>Classical.choose (hk j)
 have hf:∀ j,j<=mask->owner[j]? =some (some (f j)):=fun j=>Classical.choose_spec (hk j)
 have nd:((List.range (mask+1)).map f).Nodup:=by
  refine List.Pairwise.map f (R:=fun a b=>a < b/\b<=mask) (S:=(· ≠·)) (fun a b lu e=>?_) ?_
  ·have:=I.inj a b (f a) (hf a (by omega)) (by rw [e];exact hf b lu.2)
   omega
  ·rw [List.pairwise_iff_getElem]
   intro i k hi hk An
   simp at hi hk ⊢
   omega
 have:=hV nd (m:=List.range hs.length) fun x hx=>by
  obtain ⟨j,hj,rfl⟩:=List.mem_map.mp hx
  have:j<=mask:=by have:=List.mem_range.mp hj;omega
  exact List.mem_range.mpr (I.lt j _ (hf j this))
 simp at this
 omega
theorem vA (hz:owner.size=mask+1) {lm:Nat} (Nh:¬Ow owner (lp mask h lm).1):∀ (d_ l N:Nat),lm - l < d_->l<=lm->st mask h N=EV mask (lp mask h l)->(∀ m,m < N->Ow owner (st mask h m).j)->
  ∃ n,layClean.free mask owner d_ (lp mask h l).1 (lp mask h l).2=some (st mask h n).j/\¬Ow owner (st mask h n).j/\∀ m,m < n->Ow owner (st mask h m).j
 | 0,l,N,hf,_,_,_=>absurd hf (Nat.not_lt_zero _)
 | d_+1,l,N,hf,hl,eN,ho=>by
  have hr:=gW (mask:=mask) (lp mask h l).1
  have B8:=tO eN
  have er:runEnd mask (lp mask h l).1+1 - (lp mask h l).1=(runEnd mask (lp mask h l).1 - (lp mask h l).1)+1:=by
   unfold runEnd;split<;>omega
  unfold layClean.free
  cases GL:(List.range (runEnd mask (lp mask h l).1+1 - (lp mask h l).1)).find? (fun k=>(owner.getD ((lp mask h l).1+k) (some 0)).isNone) with
  | some k=>
   have V_:=List.find?_some GL
   have De:=List.mem_of_find?_eq_some GL
   have Ni:k<=runEnd mask (lp mask h l).1 - (lp mask h l).1:=by have:=List.mem_range.mp De;omega
   have ao:∀ k',k' < k->Ow owner ((lp mask h l).1+k'):=fun k' hk'=>by
    obtain ⟨_,as,bs,e1,e2⟩:=List.find?_eq_some_iff_append.mp GL
    have fi:as.length=k:=by
     have e3:(List.range (runEnd mask (lp mask h l).1+1 - (lp mask h l).1))[as.length]? =some k:=by rw [e1];simp
     have e4:=(List.getElem?_eq_some_iff.mp e3)
     obtain ⟨q1,q2⟩:=e4
     simpa using q2
    have jp:k'∈as:=by
     have e3:(List.range (runEnd mask (lp mask h l).1+1 - (lp mask h l).1))[k']? =some k':=by
      rw [List.getElem?_range];have:=List.mem_range.mp De;omega
     rw [e1,Qg (by omega)] at e3
     exact QC e3
    have:=e2 k' jp
    simpa [Ow] using this
   refine ⟨N+k,by rw [B8 k Ni],?_,fun m hm=>?_⟩
   ·rw [B8 k Ni]
    show ¬Ow owner ((lp mask h l).1+k)
    unfold Ow
    have:(owner.getD ((lp mask h l).1+k) (some 0)).isNone=true:=V_
    rw [this];simp
   ·rcases Nat.lt_or_ge m N with c | c
    ·exact ho m c
    ·obtain ⟨k',rfl⟩:∃ k',m=N+k':=⟨m - N,by omega⟩
     rw [B8 k' (by omega)]
     exact ao k' (by omega)
  | none=>
   have nj:∀ k',k'<=runEnd mask (lp mask h l).1 - (lp mask h l).1->Ow owner ((lp mask h l).1+k'):=fun k' hk'=>by
    have:=List.find?_eq_none.mp GL k' (List.mem_range.mpr (by omega))
    exact Bool.eq_false_iff.mpr this
   have iq:l≠lm:=fun e=>by subst e;exact Nh (by simpa using nj 0 (Nat.zero_le _))
   dsimp only
   have Wa:st mask h (N+(runEnd mask (lp mask h l).1 - (lp mask h l).1)+1)=EV mask (lp mask h (l+1)):=by
    show vt mask (st mask h (N+(runEnd mask (lp mask h l).1 - (lp mask h l).1)))=_
    rw [B8 _ (Qy _)]
    unfold vt
    rw [if_neg (by simp)]
    rfl
   refine vA hz Nh d_ (l+1) _ (by omega) (by omega) Wa fun m hm=>?_
   rcases Nat.lt_or_ge m N with c | c
   ·exact ho m c
   ·obtain ⟨k',rfl⟩:∃ k',m=N+k':=⟨m - N,by omega⟩
    rw [B8 k' (by omega)]
    exact nj k' (by omega)
theorem wK {k:Nat} (hk:mask+1=2^k) (I:vz mask owner hs) (hl:hs.length<=mask) (h:Int):∃ n,layClean.free mask owner (turns mask) (bits h % (mask+1)) (bits h)=some (st mask h n).j/\¬Ow owner (st mask h n).j/\∀ m,m < n->Ow owner (st mask h m).j:=by
 obtain ⟨e,he,hf⟩:=I.V9 hl
 obtain ⟨l,A_,hx⟩:=oE k (lp mask h 13).1 e (by omega)
 have e1:(lp mask h (13+l)).1=e:=by rw [sX,hk];exact hx
 exact vA (h:=h) I.sz (lm:=13+l) (by rw [e1];exact hf) (turns mask) 0 0 (by unfold turns;omega) (Nat.zero_le _) rfl fun m hm=>absurd hm (Nat.not_lt_zero _)
theorem vz.more (I:vz mask owner hs) (hn:¬Ow owner (st mask h n).j) (ho:∀ m,m < n->Ow owner (st mask h m).j):vz mask (owner.setIfInBounds (st mask h n).j (some hs.length)) (hs++[h]):=by
 have hj:(st mask h n).j<=mask:=by have:=nE (mask:=mask) (h:=h) n;omega
 have Wb:(st mask h n).j < owner.size:=by rw [I.sz];omega
 have get:∀ j:Nat,(owner.setIfInBounds (st mask h n).j (some hs.length))[j]? =if (st mask h n).j=j then some (some hs.length) else owner[j]?:=fun j=>by
  rw [Array.getElem?_setIfInBounds]
  by_cases c:(st mask h n).j=j
  ·subst c;simp [Wb]
  ·simp [c]
 have keep:∀ j k:Nat,owner[j]? =some (some k)->(owner.setIfInBounds (st mask h n).j (some hs.length))[j]? =some (some k):=fun j k e=>by
  rw [get,if_neg];exact e
  intro c;subst c
  exact hn ((sH I.sz hj).mpr ⟨k,e⟩)
 have Nj:∀ j,Ow owner j->Ow (owner.setIfInBounds (st mask h n).j (some hs.length)) j:=fun j o=>by
  unfold Ow at o ⊢
  rw [Array.getD_eq_getD_getElem?] at o ⊢
  rw [get]
  split
  ·rfl
  ·exact o
 refine ⟨by simp [I.sz],fun j k e=>?_,fun j j' k e e'=>?_,fun k hk=>?_⟩
 ·rw [get] at e
  split at e
  ·cases e;simp
  ·have:=I.lt j k e;simp;omega
 ·rw [get] at e e'
  split at e<;>split at e'
  ·omega
  ·cases e;exact absurd (I.lt j' _ e') (Nat.lt_irrefl _)
  ·cases e';exact absurd (I.lt j _ e) (Nat.lt_irrefl _)
  ·exact I.inj j j' k e e'
 ·rcases Nat.lt_or_ge k hs.length with c | c
  ·obtain ⟨n',e1,e2⟩:=I.reach k c
   rw [Qe c]
   exact ⟨n',keep _ _ e1,fun m hm=>Nj _ (e2 m hm)⟩
  ·have:k=hs.length:=by simp at hk;omega
   subst this
   rw [Qf (Qy _)]
   simp only [Nat.sub_self,List.getElem_cons_zero]
   exact ⟨n,by rw [get,if_pos rfl],fun m hm=>Nj _ (ho m hm)⟩
theorem pV {k:Nat} (hk:mask+1=2^k):∀ (rest hs:List Int) (owner:Array (Option Nat)),vz mask owner hs->hs.length+rest.length<=mask->
  ∃ GN,rest.foldl (fun acc h=>do
   let (owner,k) <- acc
   let j <- layClean.free mask owner (turns mask) (bits h % (mask+1)) (bits h)
   pure (owner.setIfInBounds j (some k),k+1)) (some (owner,hs.length))=some (GN,(hs++rest).length)/\vz mask GN (hs++rest)
 | [],hs,owner,I,_=>⟨owner,by simp,by simpa using I⟩
 | h::rest,hs,owner,I,hl=>by
  obtain ⟨n,e1,e2,e3⟩:=wK hk I (by omega) h
  have I':=I.more e2 e3
  obtain ⟨GN,f1,f2⟩:=pV hk rest (hs++[h]) _ I' (by simp at hl ⊢;omega)
  refine ⟨GN,?_,by simpa using f2⟩
  rw [List.foldl_cons]
  simp only [Qk,List.length_cons,List.length_nil,QQ,List.cons_append,List.nil_append] at f1 ⊢
  rw [<- f1]
  congr 1
  show (do let j <- layClean.free mask owner (turns mask) (bits h % (mask+1)) (bits h);pure (owner.setIfInBounds j (some hs.length),hs.length+1))=_
  rw [e1]
  rfl
theorem mB {k:Nat} (hk:mask+1=2^k) (hashes:Array Int) (hl:hashes.size<=mask):∃ owner,layClean mask hashes=some owner/\vz mask owner hashes.toList:=by
 have I0:vz mask (Array.replicate (mask+1) none) []:=⟨by simp,fun j k e=>by simp [Array.getElem?_replicate] at e,fun j j' k e=>by simp [Array.getElem?_replicate] at e,fun k h=>absurd h (by simp)⟩
 obtain ⟨owner,e1,e2⟩:=pV hk hashes.toList [] _ I0 (by simpa using hl)
 refine ⟨owner,?_,by simpa using e2⟩
 unfold layClean
 rw [<- Array.foldl_toList]
 have Nk:=e1
 simp only [List.length_nil,List.nil_append] at Nk
 rw [Nk]
 rfl
end
def gj (mask:Nat) (owner:Array (Option Nat)):List (Nat×Nat):=(List.range (mask+1)).filterMap fun j=>(owner.getD j none).map (j,·)
section
variable {mask:Nat} {owner:Array (Option Nat)} {hs:List Int}
theorem cU (hz:owner.size=mask+1) {p:Nat×Nat}:p∈gj mask owner↔p.1<=mask/\owner[p.1]? =some (some p.2):=by
 unfold gj
 rw [List.mem_filterMap]
 constructor
 ·rintro ⟨j,hj,e⟩
  have uu:j < owner.size:=by have:=List.mem_range.mp hj;omega
  have eg:owner.getD j none=owner[j]:=by simp [Array.getD,uu]
  rw [eg] at e
  cases hx:owner[j] with
  | none=>rw [hx] at e;cases e
  | some k=>
   rw [hx] at e
   cases e
   exact ⟨by show j<=mask;omega,by show owner[j]? =_;rw [Array.getElem?_eq_getElem uu,hx]⟩
 ·rintro ⟨h1,h2⟩
  obtain ⟨h3,h4⟩:=Array.getElem?_eq_some_iff.mp h2
  refine ⟨p.1,List.mem_range.mpr (by omega),?_⟩
  have eg:owner.getD p.1 none=owner[p.1]:=by simp [Array.getD,h3]
  rw [eg,h4];rfl
theorem zV {f:Nat->Option Nat}:∀ l:List Nat,l.Pairwise (· < ·)->((l.filterMap fun j=>(f j).map (j,·)).map (·.1)).Pairwise (· < ·)/\∀ x∈(l.filterMap fun j=>(f j).map (j,·)).map (·.1),x∈l
 | [],_=>⟨.nil,fun _ h=>nomatch h⟩
 | a::l,h=>by
  obtain ⟨h1,h2⟩:=List.pairwise_cons.mp h
  obtain ⟨i1,i2⟩:=zV (f:=f) l h2
  cases e:f a with
  | none=>
   simp only [List.filterMap_cons,e,Option.map_none]
   exact ⟨i1,fun x hx=>Qh _ (i2 x hx)⟩
  | some k=>
   simp only [List.filterMap_cons,e,Option.map_some,List.map_cons]
   refine ⟨List.pairwise_cons.mpr ⟨fun x hx=>h1 x (i2 x hx),i1⟩,fun x hx=>?_⟩
   rcases Qp.mp hx with rfl | hx
   ·exact List.mem_cons_self ..
   ·exact Qh _ (i2 x hx)
theorem pF:((gj mask owner).map (·.1)).Pairwise (· < ·):=(zV (f:=fun j=>owner.getD j none) _ List.pairwise_lt_range).1
theorem vz.len (I:vz mask owner hs):(gj mask owner).length=hs.length:=by
 have nd:((gj mask owner).map (·.2)).Nodup:=by
  have h1:=pF (mask:=mask) (owner:=owner)
  rw [List.pairwise_map] at h1
  refine List.pairwise_map.mpr (h1.imp_of_mem fun {a b} ha hb lu e=>?_)
  have:=I.inj a.1 b.1 a.2 ((cU I.sz).mp ha).2 (by rw [e];exact ((cU I.sz).mp hb).2)
  omega
 have l1:=hV nd (m:=List.range hs.length) fun x hx=>by
  obtain ⟨p,hp,rfl⟩:=List.mem_map.mp hx
  exact List.mem_range.mpr (I.lt _ _ ((cU I.sz).mp hp).2)
 have l2:=hV (l:=List.range hs.length) (m:=(gj mask owner).map (·.2)) List.nodup_range fun x hx=>by
  have hx':=List.mem_range.mp hx
  obtain ⟨n,e1,_⟩:=I.reach x hx'
  have hj:(st mask hs[x] n).j<=mask:=by have:=nE (mask:=mask) (h:=hs[x]) n;omega
  exact List.mem_map.mpr ⟨((st mask hs[x] n).j,x),(cU I.sz).mpr ⟨hj,e1⟩,rfl⟩
 simp at l1 l2
 omega
end
theorem Wc {l : List Nat} (h : l.Pairwise (· < ·)) : vy l.toArray := fun i k An hk => by
  have := List.pairwise_iff_getElem.mp h i k (by have : k < l.length := by simpa using hk
                                                 omega) (by simpa using hk) An
  simpa using this
theorem yF {es:Array (Int×Value)}:∀ {L:List (Nat×Nat)},(∀ p∈L,p.2 < es.size)->(L.map (·.2)).filterMap (es[·]?)=L.map fun p=>es.getD p.2 (0,.none)
 | [],_=>rfl
 | p::L,h=>by
  have hp:=h p (List.mem_cons_self ..)
  simp only [List.map_cons,List.filterMap_cons,Array.getElem?_eq_getElem hp]
  rw [yF fun q hq=>h q (Qh _ hq)]
  congr 1
  simp [Array.getD,hp]
theorem wZ {mask k finger moves:Nat} {led plain:Bool} (hk:mask+1=2^k) (k3:3<=k) (room:es.size*5 < mask*3):∃ t' order,laid mask finger moves led plain (es.map (·.1))=some (t',order)/\
  nq t' (order.filterMap (es[·]?))/\(∀ e,e∈(order.filterMap (es[·]?)).toList↔e∈es.toList)/\(order.filterMap (es[·]?)).size=es.size/\t'.mask=mask:=by
 obtain ⟨owner,e1,I⟩:=mB hk (es.map (·.1)) (by simp;omega)
 have fi:=I.len
 simp only [Array.toList_map,Ql,Array.length_toList] at fi
 have ao:∀ p∈gj mask owner,p.2 < es.size:=fun p hp=>by
  have:=I.lt _ _ ((cU I.sz).mp hp).2
  simpa using this
 have Jq:(((gj mask owner).map (·.2)).toArray.filterMap (es[·]?)).toList=(gj mask owner).map fun p=>es.getD p.2 (0,.none):=by
  rw [Array.toList_filterMap]
  exact yF ao
 have hsz:(((gj mask owner).map (·.2)).toArray.filterMap (es[·]?)).size=es.size:=by
  rw [<- Array.length_toList,Jq,Ql,fi]
 have GK:∀ j,lz ({mask,place:=((gj mask owner).map (·.1)).toArray,dummies:=#[],finger,led,moves,plain}:SetTable) j↔∃ k,(j,k)∈gj mask owner:=fun j=>by
  constructor
  ·rintro ⟨i,hi,e⟩
   have dh:i < (gj mask owner).length:=by simpa using hi
   have e':(gj mask owner)[i].1=j:=by simpa using e
   exact ⟨(gj mask owner)[i].2,by rw [<- e'];exact Qj dh⟩
  ·rintro ⟨k,hm⟩
   obtain ⟨i,hi,e⟩:=Qi hm
   refine ⟨i,by simpa using hi,?_⟩
   have:(gj mask owner)[i].1=j:=by rw [e]
   simpa using this
 refine ⟨{mask,place:=((gj mask owner).map (·.1)).toArray,dummies:=#[],finger,led,moves,plain},((gj mask owner).map (·.2)).toArray,?_,⟨⟨k,hk,k3⟩,rfl,?_,Wc pF,fun i hi=>?_,?_,fun i h1 h2=>?_⟩,fun e=>?_,hsz,rfl⟩
 ·unfold laid
  rw [e1]
  rfl
 ·show ((gj mask owner).map (·.1)).toArray.size=_
  rw [hsz];simpa using fi
 ·have dh:i < (gj mask owner).length:=by simpa using hi
  have:=((cU I.sz).mp (Qj dh)).1
  simpa using this
 ·rw [hsz];exact room
 ·have dh:i < (gj mask owner).length:=by simpa using h2
  have hm:=Qj dh
  have hp:=ao _ hm
  have ee:(((gj mask owner).map (·.2)).toArray.filterMap (es[·]?))[i]=es[(gj mask owner)[i].2]:=by
   have:(((gj mask owner).map (·.2)).toArray.filterMap (es[·]?))[i]=(((gj mask owner).map (·.2)).toArray.filterMap (es[·]?)).toList[i]'(by simpa using h1):=by simp
   rw [this]
   simp only [Jq,Qr]
   simp [Array.getD,hp]
  obtain ⟨n,q1,q2⟩:=I.reach (gj mask owner)[i].2 (by simpa using hp)
  have eh:(es.map (·.1)).toList[(gj mask owner)[i].2]'(by simpa using hp)=es[(gj mask owner)[i].2].1:=by simp
  rw [eh] at q1 q2
  rw [ee]
  refine ⟨n,?_,fun m Nl=>?_⟩
  ·have:=I.inj _ _ _ q1 ((cU I.sz).mp hm).2
   simpa using this
  ·have hj:(st mask es[(gj mask owner)[i].2].1 m).j<=mask:=by have:=nE (mask:=mask) (h:=es[(gj mask owner)[i].2].1) m;omega
   obtain ⟨k',hk'⟩:=(sH I.sz hj).mp (q2 m Nl)
   exact (GK _).mpr ⟨k',(cU I.sz).mpr ⟨hj,hk'⟩⟩
 ·rw [Jq]
  constructor
  ·intro he
   obtain ⟨p,hp,rfl⟩:=List.mem_map.mp he
   have:=ao p hp
   simp [Array.getD,this]
  ·intro he
   obtain ⟨x,hx,rfl⟩:=Qi he
   have hx':x < es.size:=by simpa using hx
   obtain ⟨n,q1,_⟩:=I.reach x (by simpa using hx')
   have eh:(es.map (·.1)).toList[x]'(by simpa using hx')=es[x].1:=by simp
   rw [eh] at q1
   have hj:(st mask es[x].1 n).j<=mask:=by have:=nE (mask:=mask) (h:=es[x].1) n;omega
   refine List.mem_map.mpr ⟨((st mask es[x].1 n).j,x),(cU I.sz).mpr ⟨hj,q1⟩,?_⟩
   simp [Array.getD,hx']
theorem iV:∀ (d_ k n:Nat),n < 2^(k+d_)->∃ k',k<=k'/\sizeAbove.go n d_ (2^k)=2^k'/\n < 2^k'
 | 0,k,n,h=>⟨k,Qy _,rfl,by simpa using h⟩
 | d_+1,k,n,h=>by
  unfold sizeAbove.go
  by_cases c:2^k<=n
  ·rw [if_pos c,show 2^k*2=2^(k+1) by rw [Nat.pow_succ]]
   obtain ⟨k',h1,h2,h3⟩:=iV d_ (k+1) n (by rw [show k+1+d_=k+(d_+1) by omega];exact h)
   exact ⟨k',by omega,h2,h3⟩
  ·rw [if_neg c]
   exact ⟨k,Qy _,rfl,by omega⟩
theorem iP:∀ (d_ size n:Nat),size<=2*n+8->sizeAbove.go n d_ size<=2*n+8
 | 0,size,n,h=>h
 | d_+1,size,n,h=>by
  unfold sizeAbove.go
  by_cases c:size<=n
  ·rw [if_pos c];exact iP d_ _ n (by omega)
  ·rw [if_neg c];exact h
theorem lA (h:n < 2^60):∃ k,3<=k/\sizeAbove n=2^k/\n < 2^k/\sizeAbove n<=2*n+8:=by
 obtain ⟨k,h1,h2,h3⟩:=iV 64 3 n (Nat.lt_of_lt_of_le h (Nat.pow_le_pow_right (by decide) (by decide)))
 exact ⟨k,h1,h2,h3,iP 64 8 n (by omega)⟩
section
variable {K:Type} [DecidableEq K] {knd:KeyKind prog w K}
theorem tP (n:Nat) {v:Value} (h:carriedByValue v=true):ofAClassStatement n v=pure false:=by
 cases v<;>first | (cases n<;>rfl) | (unfold ofAClassStatement;rfl) | (cases h;done)
theorem uR {ks:List K} {Q:Bool->Shared->Prop} (hk:IsTupleKey knd s.heap ks a) (h:Q false s):wpAny (model prog w) A (ofAClassStatement 8 (.ref a)) Q E s:=by
 have hT:=hk.typeIs
 obtain ⟨o,items,n,ho,_,hd,hi⟩:=hk
 unfold ofAClassStatement
 refine QT (wpAny_typeOf hT ?_)
 refine QT (QU ?_)
 dsimp only
 refine QT (wpAny_seqItems ho hd ?_)
 refine QT ?_
 show wpAny _ _ (forIn items _ _) _ _ s
 rw [<- Array.forIn_toList]
 refine wpAny_forIn_list _ (fun rest r s'=>r.1=none/\s'=s/\∀ v∈rest,carriedByValue v=true) _ ?_ ?_ _ _ ⟨rfl,rfl,hi.byValue⟩
 ·rintro v rest r s' ⟨hr,rfl,nj⟩
  rw [tP _ (nj v List.mem_cons_self)]
  refine QT (QU ?_)
  exact QU ⟨rfl,rfl,fun u Jr=>nj u (Qh _ Jr)⟩
 ·rintro ⟨r1,r2⟩ s' ⟨hr,rfl,_⟩
  simp only at hr
  subst hr
  exact QU h
theorem lH {ks:List K} {stored:List Value} {Q:Bool->Shared->Prop} (hk:IsTupleKey knd s.heap ks b) (zy:∀ y∈stored,∃ zd b',y=.ref b'/\IsTupleKey knd s.heap zd b') (h:Q false s):wpAny (model prog w) A (searchCouldBeSeen (.ref b) stored) Q E s:=by
 unfold searchCouldBeSeen
 refine QT ?_
 refine wpAny_forIn_list _ (fun rest r s'=>r.1=none/\s'=s/\∀ y∈rest,∃ zd b',y=.ref b'/\IsTupleKey knd s.heap zd b') _ ?_ ?_ _ _ ⟨rfl,rfl,zy⟩
 ·rintro y rest r s' ⟨hr,rfl,nj⟩
  obtain ⟨zd,b',rfl,hk'⟩:=nj y List.mem_cons_self
  have nx:∀ y∈rest,∃ zd b',y=Value.ref b'/\IsTupleKey knd s'.heap zd b':=fun u hu=>nj u (Qh _ hu)
  dsimp only
  split
  ·exact QU ⟨rfl,rfl,nx⟩
  ·refine QT (wpAny_eqIsQuiet_tuple hk ?_)
   simp only [Bool.not_true,Bool.false_eq_true,if_false]
   refine QT (wpAny_eqIsQuiet_tuple hk' ?_)
   simp only [Bool.not_true,Bool.false_eq_true,if_false]
   refine QT (uR hk ?_)
   simp only [Bool.false_eq_true,if_false]
   refine QT (uR hk' ?_)
   simp only [Bool.false_eq_true,if_false]
   exact QU ⟨rfl,rfl,nx⟩
 ·rintro ⟨r1,r2⟩ s' ⟨hr,rfl,_⟩
  simp only at hr
  subst hr
  exact QU h
theorem wA (n:Nat) {v:Value} (h:carriedByValue v=true):∃ b,hashByValue n v=pure b:=by
 cases v<;>first | (cases n<;>exact ⟨_,rfl⟩) | exact ⟨_,by unfold hashByValue;rfl⟩ | (cases h;done)
theorem We {ks:List K} {Q:Bool->Shared->Prop} (hk:IsTupleKey knd s.heap ks a) (h:∀ b,Q b s):wpAny (model prog w) A (hashByValue 8 (.ref a)) Q E s:=by
 have hT:=hk.typeIs
 obtain ⟨o,items,n,ho,_,hd,hi⟩:=hk
 unfold hashByValue
 refine QT (wpAny_specialOf hT F.slot_tuple_hash.lookup ?_)
 refine QT (wpAny_seqItems ho hd ?_)
 refine QT ?_
 show wpAny _ _ (forIn items _ _) _ _ s
 rw [<- Array.forIn_toList]
 refine wpAny_forIn_list _ (fun rest r s'=>r.1=none/\s'=s/\∀ v∈rest,carriedByValue v=true) _ ?_ ?_ _ _ ⟨rfl,rfl,hi.byValue⟩
 ·rintro v rest r s' ⟨hr,rfl,nj⟩
  obtain ⟨b,eb⟩:=wA 7 (nj v List.mem_cons_self)
  rw [eb]
  refine QT (QU ?_)
  cases b with
  | true=>exact QU ⟨rfl,rfl,fun u Jr=>nj u (Qh _ Jr)⟩
  | false=>exact QU (QU (h _))
 ·rintro ⟨r1,r2⟩ s' ⟨hr,rfl,_⟩
  simp only at hr
  subst hr
  exact QU (h _)
def Nm (knd:KeyKind prog w K) (h:Heap) (es:List (Int×Value)):Prop:=∀ e∈es,∃ ks b,e=(tupleKeyHash knd ks,.ref b)/\IsTupleKey knd h ks b
def GO (knd:KeyKind prog w K) (h:Heap) (es:List (Int×Value)) (ks:List K):Prop:=∃ b,(tupleKeyHash knd ks,Value.ref b)∈es/\IsTupleKey knd h ks b
theorem j4 {t:SetTable} (T:nq t es):t.fits es.size=true:=by
 unfold SetTable.fits SetTable.fill
 rw [T.nd]
 have:=T.sz
 have:=T.room
 simp;omega
theorem Wf {t:SetTable} (T:nq t es):t.gaveWay=false:=by
 obtain ⟨k,hk,h3⟩:=T.pw
 unfold SetTable.gaveWay
 have:2^k=2*2^(k - 1):=by rw [<- Nat.pow_succ'];congr 1;omega
 have:t.mask % 2=1:=by omega
 rw [this];rfl
theorem nC {t:SetTable} {h:Int} {n0:Nat} {hashAt:Nat->Int} {r:Option Met} (T:nq t es) (F:FF t h n0) (hn:n<=n0) (e:t.probe hashAt h (st t.mask h n)=r) (hA:∀ i (h:i < es.size),hashAt i=es[i].1):
  (∃ m i,∃ (h1:i < es.size) (h2:i < t.place.size),n<=m/\m < n0/\t.place[i]=(st t.mask h m).j/\es[i].1=h/\(∀ m',n<=m'->m' < m->∀ i' (h1:i' < es.size) (h2:i' < t.place.size),t.place[i']=(st t.mask h m').j->es[i'].1≠h)/\r=some (.candidate (st t.mask h m).j i (st t.mask h (m+1))))\/
  ((∀ m',n<=m'->m' < n0->∀ i' (h1:i' < es.size) (h2:i' < t.place.size),t.place[i']=(st t.mask h m').j->es[i'].1≠h)/\r=some (.empty (st t.mask h n0).j none)):=by
 have hz:=T.sz
 rcases rA (hashAt:=hashAt) T.dc T.nd F (10*turns t.mask) n hn (by have:=F.Jo;omega) with ⟨m,i,hi,h1,h2,h3,h4,h5,h6⟩ | ⟨h1,h2⟩
 ·refine .inl ⟨m,i,by omega,hi,h1,h2,h3,by rw [<- hA];exact h4,fun m' q1 q2 i' g1 g2 g3=>?_,e.symm.trans h6⟩
  rw [<- hA];exact h5 m' q1 q2 i' g2 g3
 ·refine .inr ⟨fun m' q1 q2 i' g1 g2 g3=>?_,e.symm.trans h2⟩
  rw [<- hA];exact h1 m' q1 q2 i' g2 g3
theorem gH {a b:Addr} {o:Obj} {es:Array (Int×Value)} {ep:Nat} {t:SetTable} {ks:List K} {n0:Nat} {Df:Bool} {Q:SetFound->Shared->Prop} (hu:A.units < cLine)
  (ho:s.heap.get? a=some o) (hd:o.data=.set es ep t) (T:nq t es) (hE:Nm knd s.heap es.toList) (hk:IsTupleKey knd s.heap ks b) (F:FF t (tupleKeyHash knd ks) n0)
  (yes:GO knd s.heap es.toList ks->∀ io,(Df=false->io.isSome=true)->Q (.there io) s)
  (no:¬GO knd s.heap es.toList ks->Q (.free (st t.mask (tupleKeyHash knd ks) n0).j false) s):
  ∀ (d_ n:Nat) (Js:Option Probe),n<=n0->n0 - n < d_->Js.getD (t.probeStart (tupleKeyHash knd ks))=st t.mask (tupleKeyHash knd ks) n->
   (∀ m,m < n->∀ i (h1:i < es.size) (h2:i < t.place.size),t.place[i]=(st t.mask (tupleKeyHash knd ks) m).j->¬∃ b',es[i]=(tupleKeyHash knd ks,Value.ref b')/\IsTupleKey knd s.heap ks b')->
   wpAny (model prog w) A (setSearchFrom a (.ref b) (tupleKeyHash knd ks) Df d_ Js) Q E s
 | 0,n,_,_,hf,_,_=>absurd hf (Nat.not_lt_zero _)
 | d_+1,n,Js,hn,hf,Wg,iq=>by
  unfold setSearchFrom
  refine QT (wpAny_setState_of ho hd (j4 T) ?_)
  dsimp only
  rw [Wf T]
  simp only [Bool.false_eq_true,if_false]
  refine QT (QU ?_)
  rw [Wg]
  have Nn:∀ hashAt:Nat->Int,(∀ i,hashAt i=((es[i]?).map (·.1)).getD 0)->∀ i (h:i < es.size),hashAt i=es[i].1:=fun hashAt e i h=>by rw [e,Array.getElem?_eq_getElem h];rfl
  have hz:=T.sz
  split
  ·rename_i met GP
   rcases nC T F hn GP (Nn _ fun _=>rfl) with ⟨m,i,h1,h2,q1,q2,q3,q4,q5,q6⟩ | ⟨q1,q2⟩
   ·cases q6
    dsimp only
    obtain ⟨zd,b',e1,hk'⟩:=hE es[i] (by simp)
    have go:wpAny (model prog w) A (do
      let equal <- holding [Value.ref b'] (eqBool (Value.ref b') (Value.ref b))
      let Jt <- setState a
      if (Df&&equal)=true then pure (SetFound.there none)
       else
        match Jt.2.snd.sameMemory t.moves t.mask with
        | some same=>do
         let Wh <- match (if same then Jt.2.snd.slot (st t.mask (tupleKeyHash knd ks) m).j else .empty) with
          | .live i'=>match Jt.1[i']? with
           | some (_,y')=>do pure (if <- isSame y' (.ref b') then some i' else none)
           | none=>pure none
          | _=>pure none
         match Wh with
         | none=>rule "set.search.anew";setSearchFrom a (.ref b) (tupleKeyHash knd ks) Df d_ none
         | some i'=>if equal then return .there (some i') else setSearchFrom a (.ref b) (tupleKeyHash knd ks) Df d_ (some (st t.mask (tupleKeyHash knd ks) (m+1)))
        | x=>unsupported "set.changed-during-lookup:is-the-new-block-at-the-old-address") Q E s:=by
     refine QT (wpAny_holding (wpAny_eqBool_tuple hu hk' hk ?_))
     refine QT (wpAny_setState_of ho hd (j4 T) ?_)
     dsimp only
     have B9:t.sameMemory t.moves t.mask=some true:=by unfold SetTable.sameMemory;simp
     have Np:t.slot (st t.mask (tupleKeyHash knd ks) m).j=.live i:=by rw [<- q3];exact gZ T.dc h2
     have Wi:es[i]? =some (tupleKeyHash knd zd,Value.ref b'):=by rw [Array.getElem?_eq_getElem h1,e1]
     rw [B9]
     dsimp only
     rw [if_pos rfl,Np]
     dsimp only
     rw [Wi]
     dsimp only
     by_cases c:zd=ks
     ·subst c
      have hs:GO knd s.heap es.toList zd:=⟨b',by rw [<- e1];simp,hk'⟩
      rw [Qv rfl]
      cases Df with
      | true=>exact QU (yes hs none (fun z=>nomatch z))
      | false=>
       refine QT (wpAny_isSame_ref_self (QT (QU ?_)))
       exact QU (yes hs (some i) fun _=>rfl)
     ·rw [Qw c,Bool.and_false]
      refine QT (wpAny_isSame_ref_self (QT (QU ?_)))
      refine gH hu ho hd T hE hk F yes no d_ (m+1) (some _) (by omega) (by omega) rfl fun m' Nl i' g1 g2 g3=>?_
      rintro ⟨b2,f1,f2⟩
      rcases Nat.lt_or_ge m' n with d | d
      ·exact iq m' d i' g1 g2 g3 ⟨b2,f1,f2⟩
      ·rcases Nat.lt_or_ge m' m with d' | d'
       ·exact q5 m' d d' i' g1 g2 g3 (by rw [f1])
       ·have:m'=m:=by omega
        subst this
        have ei:i'=i:=by
         have:=gZ T.dc g2
         rw [g3,Np] at this
         injection this with this
         exact this.symm
        subst ei
        rw [e1] at f1
        injection f1 with _ f3
        injection f3 with f3
        subst f3
        exact c (hk'.inj f2)
    split
    ·refine QT (lH hk (fun y hy=>?_) ?_)
     ·obtain ⟨e,he,rfl⟩:=List.mem_map.mp hy
      have:e∈es.toList:=by simp at he;simpa using he.1
      obtain ⟨k2,b2,e2,De⟩:=hE e this
      exact ⟨k2,b2,by rw [e2],De⟩
     ·simp only [Bool.false_eq_true,if_false]
      refine QT (QU ?_)
      rw [Array.getElem?_eq_getElem h1,e1]
      exact go
    ·refine QT (QU ?_)
     rw [Array.getElem?_eq_getElem h1,e1]
     exact go
   ·cases q2
    dsimp only
    refine QU (no ?_)
    rintro ⟨b',hm,hb⟩
    obtain ⟨i,hi,e⟩:=Qi hm
    have dh:i < es.size:=by simpa using hi
    have e':es[i]=(tupleKeyHash knd ks,Value.ref b'):=by simpa using e
    obtain ⟨m,Ba,hm2⟩:=T.met F dh (by omega) (by rw [e'])
    rcases Nat.lt_or_ge m n with c | c
    ·exact iq m c i dh (by omega) hm2.symm ⟨b',e',hb⟩
    ·exact q1 m c Ba i dh (by omega) hm2.symm (by rw [e'])
  ·rename_i GP
   rcases nC T F hn rfl (Nn _ fun _=>rfl) with ⟨_,_,_,_,_,_,_,_,_,q6⟩ | ⟨_,q2⟩
   ·exact (GP _ q6).elim
   ·exact (GP _ q2).elim
def kq (knd:KeyKind prog w K) (h:Heap) (a:Addr) (az:List (List K×Addr)):Prop:=∃ (o:Obj) (es:Array (Int×Value)) (ep:Nat) (t:SetTable),h.get? a=some o/\o.ExactSet/\o.data=.set es ep t/\nq t es/\
 (∀ e,e∈es.toList↔∃ p∈az,e=(tupleKeyHash knd p.1,Value.ref p.2))/\es.size=az.length/\t.mask<=9000
def KeysIn (knd:KeyKind prog w K) (h:Heap) (az:List (List K×Addr)):Prop:=∀ p∈az,IsTupleKey knd h p.1 p.2
theorem mO {az:List (List K×Addr)} (hk:KeysIn knd h az) (he:∀ e,e∈es.toList↔∃ p∈az,e=(tupleKeyHash knd p.1,Value.ref p.2)):Nm knd h es.toList:=fun e hm=>by
 obtain ⟨p,hp,rfl⟩:=(he e).mp hm
 exact ⟨p.1,p.2,rfl,hk p hp⟩
theorem qZ {az:List (List K×Addr)} {ks:List K} (hk:KeysIn knd h az) (he:∀ e,e∈es.toList↔∃ p∈az,e=(tupleKeyHash knd p.1,Value.ref p.2)):GO knd h es.toList ks↔ks∈az.map (·.1):=by
 constructor
 ·rintro ⟨b,hm,hb⟩
  obtain ⟨p,hp,e⟩:=(he _).mp hm
  injection e with _ e2
  injection e2 with e2
  subst e2
  exact List.mem_map.mpr ⟨p,hp,(hk p hp).inj hb⟩
 ·intro hm
  obtain ⟨p,hp,rfl⟩:=List.mem_map.mp hm
  exact ⟨p.2,(he _).mpr ⟨p,hp,rfl⟩,hk p hp⟩
theorem qP (b:Addr) (es:Array (Int×Value)):byScan (.ref b) es=false:=rfl
theorem sK {az:List (List K×Addr)} {ks:List K} {Q:Option Nat->Shared->Prop} (hu:A.units < cLine) (hS:kq knd s.heap a az) (hK:KeysIn knd s.heap az) (hk:IsTupleKey knd s.heap ks b)
  (h:∀ io:Option Nat,io.isSome=decide (ks∈az.map (·.1))->Q io s):wpAny (model prog w) A (setFind a (.ref b) (tupleKeyHash knd ks)) Q E s:=by
 obtain ⟨o,es,ep,t,ho,hex,hd,T,he,hsz,hm⟩:=hS
 obtain ⟨n0,F⟩:=T.ff (tupleKeyHash knd ks)
 have hh:=qZ (ks:=ks) hK he
 unfold setFind setFindIn
 refine QT (wpAny_setState_of ho hd (j4 T) ?_)
 dsimp only
 rw [qP]
 simp only [Bool.false_eq_true,if_false]
 unfold setSearch
 refine QT (gH hu ho hd T (mO hK he) hk F (fun hy io EW=>?_) (fun hn=>?_) 100000 0 none (Nat.zero_le _) (by have:=F.Jo;unfold turns at this;omega) rfl fun m hm=>absurd hm (Nat.not_lt_zero _))
 ·exact QU (h io (by rw [EW rfl,Qv (hh.mp hy)]))
 ·exact QU (h none (by rw [Qw fun z=>hn (hh.mpr z)];rfl))
theorem lB {az:List (List K×Addr)} {ks:List K} {Q:Bool->Shared->Prop} (hu:A.units < cLine) (hS:kq knd s.heap a az) (hK:KeysIn knd s.heap az) (hk:IsTupleKey knd s.heap ks b)
  (h:∀ r tk,(r=true↔ks∈az.map (·.1))->Q r {s with toks:=tk}):wpAny (model prog w) A (setContains a (.ref b)) Q E s:=by
 unfold setContains
 refine wpAny_holding (QT ((tupleKind knd).pyHash hu hk ?_))
 refine QT (sK (s:={s with toks:=_}) hu hS hK hk fun io e=>QU ?_)
 rw [e]
 exact h _ _ decide_eq_true_iff
theorem nX {xs:Array α} {p:Nat} {x e:α} (hp:p<=xs.size):e∈(insertAt xs p x).toList↔e=x\/e∈xs.toList:=by
 rw [d9 hp]
 rw [List.mem_append,Qp]
 conv=>rhs;rw [<- List.take_append_drop p xs.toList,List.mem_append]
 constructor
 ·rintro (h | h | h)
  ·exact .inr (.inl h)
  ·exact .inl h
  ·exact .inr (.inr h)
 ·rintro (h | h | h)
  ·exact .inr (.inl h)
  ·exact .inl h
  ·exact .inr (.inr h)
theorem nK {o:Obj} {es':Array (Int×Value)} {t t':SetTable} (ho:h.get? a=some o) (hd:o.data=.set es ep t):(h.update a (Obj.putSet es' t')).get? a=some {o with data:=.set es' (ep+1) t'}:=by
 have:=Heap.get?_update_self (Obj.putSet es' t') ho (by rw [putSet_of es' t' hd];rfl)
 rw [putSet_of es' t' hd] at this;exact this
theorem Wj {X:Array (Int×Value)} {t':SetTable} {order:Array Nat} {Q:Array (Int×Value)×SetTable->Shared->Prop} (l4:(order.filterMap (X[·]?)).size=X.size) (h:Q (order.filterMap (X[·]?),t') s):wpAny (model prog w) A (do
  let some (t,od):=(some (t',order):Option (SetTable×Array Nat)) | unsupported "internal:set-table-without-room"
  let es':=od.filterMap (X[·]?)
  if es'.size !=X.size then unsupported "internal:set-table-lost-an-element"
  pure (es',t)) Q E s:=by
 dsimp only
 rw [if_neg (by rw [l4];simp)]
 exact QU h
theorem kG {az:List (List K×Addr)} {ks:List K} {Q:Bool->Shared->Prop} (hu:A.units < cLine) (hS:kq knd s.heap a az) (hK:KeysIn knd s.heap az) (hk:IsTupleKey knd s.heap ks b) (hl:az.length < 1000)
  (hy:ks∈az.map (·.1)->Q false s) (hn:ks ∉ az.map (·.1)->∀ h',Heap.SameBut a s.heap h'->kq knd h' a (az++[(ks,b)])->Q true {s with heap:=h'}):wpAny (model prog w) A (setAddHashed a (.ref b) (tupleKeyHash knd ks)) Q E s:=by
 obtain ⟨o,es,ep,t,ho,hex,hd,T,he,hsz,hm⟩:=hS
 obtain ⟨n0,F⟩:=T.ff (tupleKeyHash knd ks)
 have hh:=qZ (ks:=ks) hK he
 have Wk:sizeLine=16777216:=QL
 unfold setAddHashed setAddHashedIn
 refine wpAny_holding (QT (wpAny_setState_of ho hd (j4 T) ?_))
 dsimp only
 rw [qP]
 simp only [Bool.false_eq_true,if_false]
 unfold setSearch
 refine QT (gH hu ho hd T (mO hK he) hk F (fun h io EW=>?_) (fun h=>?_) 100000 0 none (Nat.zero_le _) (by have:=F.Jo;unfold turns at this;omega) rfl fun m hm=>absurd hm (Nat.not_lt_zero _))
 ·exact QU (hy (hh.mp h))
 ·dsimp only
  refine QT (wpAny_setState_of ho hd (j4 T) ?_)
  dsimp only
  rw [lG T.nd]
  dsimp only
  have Dg:ks ∉ az.map (·.1):=fun z=>h (hh.mpr z)
  have hp:=(e8 (j:=(st t.mask (tupleKeyHash knd ks) n0).j) T.dc).1
  have GQ:below t.place (st t.mask (tupleKeyHash knd ks) n0).j<=es.size:=by have:=T.sz;omega
  have Dh:=bE (x:=(tupleKeyHash knd ks,Value.ref b)) GQ
  have jp:∀ e,e∈(insertAt es (below t.place (st t.mask (tupleKeyHash knd ks) n0).j) (tupleKeyHash knd ks,Value.ref b)).toList↔∃ p∈az++[(ks,b)],e=(tupleKeyHash knd p.1,Value.ref p.2):=fun e=>by
   rw [nX GQ,he]
   constructor
   ·rintro (rfl | ⟨p,hp,rfl⟩)
    ·exact ⟨(ks,b),List.mem_append_right _ (List.mem_singleton.mpr rfl),rfl⟩
    ·exact ⟨p,List.mem_append_left _ hp,rfl⟩
   ·rintro ⟨p,hp,rfl⟩
    rcases List.mem_append.mp hp with hp | hp
    ·exact .inr ⟨p,hp,rfl⟩
    ·rw [List.mem_singleton] at hp;subst hp;exact .inl rfl
  -- BJ rest,aat 'aau is
  have rest:∀ (pl:Bool) (s1:Shared),s1=s->wpAny (model prog w) A (do
    storeSet a (insertAt es (below t.place (st t.mask (tupleKeyHash knd ks) n0).j) (tupleKeyHash knd ks,Value.ref b)) {l_ t (st t.mask (tupleKeyHash knd ks) n0).j with plain:=pl}
    if (!false&&({l_ t (st t.mask (tupleKeyHash knd ks) n0).j with plain:=pl}:SetTable).tooFull)=true then do setRelay a (SetTable.grown (es.size+1));pure true else pure true) Q E s1:=by
   rintro pl s1 rfl
   refine QT (wpAny_storeSet_of ho hd ?_ (by rw [Dh];omega))
   have B_:=nK (es':=insertAt es (below t.place (st t.mask (tupleKeyHash knd ks) n0).j) (tupleKeyHash knd ks,Value.ref b)) (t':={l_ t (st t.mask (tupleKeyHash knd ks) n0).j with plain:=pl}) ho hd
   have Nq:=Heap.SameBut.update s1.heap a (Obj.putSet (insertAt es (below t.place (st t.mask (tupleKeyHash knd ks) n0).j) (tupleKeyHash knd ks,Value.ref b)) {l_ t (st t.mask (tupleKeyHash knd ks) n0).j with plain:=pl})
   have Nr:({l_ t (st t.mask (tupleKeyHash knd ks) n0).j with plain:=pl}:SetTable).fill=es.size+1:=by
    show (insertAt t.place _ _).size+t.dummies.size=_
    rw [bE hp,T.nd,T.sz];rfl
   by_cases full:({l_ t (st t.mask (tupleKeyHash knd ks) n0).j with plain:=pl}:SetTable).tooFull=true
   ·rw [if_pos (by simpa using full)]
    have Wl:({l_ t (st t.mask (tupleKeyHash knd ks) n0).j with plain:=pl}:SetTable).fits (insertAt es (below t.place (st t.mask (tupleKeyHash knd ks) n0).j) (tupleKeyHash knd ks,Value.ref b)).size=true:=by
     unfold SetTable.fits
     rw [Nr,Dh]
     have h1:=T.room
     have h2:(insertAt t.place (below t.place (st t.mask (tupleKeyHash knd ks) n0).j) (st t.mask (tupleKeyHash knd ks) n0).j).size=es.size+1:=by rw [bE hp,T.sz]
     have h3:es.size+1<=t.mask:=by
      obtain ⟨k,hk,k3⟩:=T.pw
      have:2^3<=2^k:=Nat.pow_le_pow_right (by decide) k3
      omega
     simp [h2,h3]
    have GR:SetTable.grown (es.size+1)=4*(es.size+1):=by
     unfold SetTable.grown
     rw [if_neg (by omega)];omega
    obtain ⟨k,k3,e2,lt,le⟩:=lA (n:=SetTable.grown (es.size+1)) (by rw [GR];omega)
    rw [GR] at lt le
    have Wm:SetTable.sizeAbove (SetTable.grown (es.size+1)) - 1+1=2^k:=by rw [e2];have:0 < 2^k:=Nat.pow_pos (by decide);omega
    obtain ⟨t',order,l1,l2,l3,l4,l5⟩:=wZ (mask:=SetTable.sizeAbove (SetTable.grown (es.size+1)) - 1) (finger:=t.finger) (moves:=({l_ t (st t.mask (tupleKeyHash knd ks) n0).j with plain:=pl}:SetTable).movedTo (SetTable.sizeAbove (SetTable.grown (es.size+1)) - 1)) (led:=t.led) (plain:=pl) (es:=insertAt es (below t.place (st t.mask (tupleKeyHash knd ks) n0).j) (tupleKeyHash knd ks,Value.ref b)) Wm k3 (by rw [Dh,e2];omega)
    refine QT ?_
    unfold setRelay
    refine QT (wpAny_setState_of B_ rfl Wl ?_)
    dsimp only
    rw [if_neg (by rw [Wk,GR] at*;omega)]
    have er:({l_ t (st t.mask (tupleKeyHash knd ks) n0).j with plain:=pl}:SetTable).relaid (Array.map (fun x=>x.fst) (insertAt es (below t.place (st t.mask (tupleKeyHash knd ks) n0).j) (tupleKeyHash knd ks,Value.ref b))) (SetTable.grown (es.size+1))=some (t',order):=l1
    rw [er]
    refine QT (Wj l4 ?_)
    refine wpAny_storeSet_of B_ rfl ?_ (by rw [l4,Dh];omega)
    have vo:=nK (es':=order.filterMap ((insertAt es (below t.place (st t.mask (tupleKeyHash knd ks) n0).j) (tupleKeyHash knd ks,Value.ref b))[·]?)) (t':=t') B_ rfl
    refine QU (hn Dg _ (Nq.trans (Heap.SameBut.update _ a _)) ⟨_,_,_,_,vo,hex,rfl,l2,fun e=>(l3 e).trans (jp e),by rw [l4,Dh,hsz];simp,by rw [l5];rw [GR] at*;omega⟩)
   ·rw [if_neg (by simpa using full)]
    have hr:(es.size+1)*5 < t.mask*3:=by
     unfold SetTable.tooFull at full
     rw [Nr] at full
     simpa using full
    have T':=T.put (x:=Value.ref b) F hr
    refine QU (hn Dg _ Nq ⟨_,_,_,_,B_,hex,rfl,⟨T'.pw,T'.nd,T'.sz,T'.dc,T'.le,T'.room,T'.reach⟩,jp,by rw [Dh,hsz];simp,hm⟩)
  by_cases CU:t.plain=true
  ·rw [if_pos CU]
   refine QT (We hk fun bv=>?_)
   cases bv with
   | true=>exact rest t.plain s rfl
   | false=>exact rest false s rfl
  ·rw [if_neg CU]
   exact QT (QU (rest t.plain s rfl))
theorem mZ {az:List (List K×Addr)} {ks:List K} {Q:Bool->Shared->Prop} (hu:A.units < cLine) (hS:kq knd s.heap a az) (hK:KeysIn knd s.heap az) (hk:IsTupleKey knd s.heap ks b) (hl:az.length < 1000)
  (hy:ks∈az.map (·.1)->∀ tk,s.toks<=tk->Q false {s with toks:=tk}) (hn:ks ∉ az.map (·.1)->∀ h' tk,s.toks<=tk->Heap.SameBut a s.heap h'->kq knd h' a (az++[(ks,b)])->Q true {s with heap:=h',toks:=tk}):wpAny (model prog w) A (setAdd a (.ref b)) Q E s:=by
 unfold setAdd
 refine wpAny_holding (QT ((tupleKind knd).pyHash hu hk ?_))
 exact kG (s:={s with toks:=_}) hu hS hK hk hl (fun h=>hy h _ (Nat.le_add_right _ _)) fun h h' sb st=>hn h h' _ (Nat.le_add_right _ _) sb st
end
end L2
namespace L2
open PySem PySem.Spec PyProof.Rows
section
theorem xB (q:kq (cf prog w) h a az) (k:∀ o,h.get? a=some o->h'.get? a=some o):kq (cf prog w) h' a az:=let ⟨o,es,ep,t,ho,r⟩:=q;⟨o,es,ep,t,k o ho,r⟩
theorem Wn {led:Bool} (e:h.get? a=some {cls:=.type "set",dict:=none,data:=.set #[] 0 (.fresh 0 0 led)}):kq (cf prog w) h a []:=
 ⟨_,#[],0,_,e,⟨rfl,rfl,rfl⟩,rfl,⟨⟨3,rfl,Qy _⟩,rfl,rfl,fun i k h hk=>absurd hk (by simp [SetTable.fresh]),fun i h=>absurd h (by simp [SetTable.fresh]),(show 0*5 < 7*3 by decide),fun i h=>absurd h (by simp)⟩,fun e=>by simp,rfl,by show 7<=9000;decide⟩
variable {I:Addr} {wr:List Addr} {P:Nat->Value->Prop} {St:Nat->Shared->Prop}
end
theorem kq.typeIs (h:kq (cf prog w) s.heap a az):s.TypeIs (.ref a) "set":=let ⟨o,_,_,_,ho,hc,_⟩:=h;⟨o,ho,hc.1⟩
theorem kq.noDict (h:kq (cf prog w) s.heap a az):∀ b,Value.ref a=.ref b->∃ ob,s.heap.get? b=some ob/\ob.dict=none:=
 fun b e=>by injection e with e;subst e;exact let ⟨o,_,_,_,ho,hc,_⟩:=h;⟨o,ho,hc.2.1⟩
theorem qQ {Q:Bool->Shared->Prop} (hu:A.units+10 < cLine) (hS:kq (cf prog w) s.heap a az) (hK:KeysIn (cf prog w) s.heap az) (hk:IsTupleKey (cf prog w) s.heap ks b)
  (h:∀ r tk,(r=true↔ks∈az.map (·.1))->Q r {s with toks:=tk}):wpAny (model prog w) A (contains (.ref a) (.ref b)) Q E s:=by
 unfold contains
 try with_reducible refine wpAny_holding ?_
 refine QT (wpAny_specialOf hS.typeIs F.slot_set_contains.lookup ?_)
 show wpAny _ _ (if (some (Value.builtin "set.__contains__")==some Value.none)=true then _ else _) _ E s
 rw [if_neg (by rw [beq_builtin_none];exact Bool.false_ne_true)]
 refine QT (wpAny_callSpecialUnlessNone?_slot (name:=Str.ofString "__contains__") hS.typeIs F.slot_set_contains
  (wpAny_call_entry F.slot_set_contains hS.typeIs entry_set_contains ?_ (F.args_set_contains_2 _ _)))
 unfold Builtin.«frozenset.__contains__» Builtin.Frozenset.oneOther
 simp only [List.isEmpty_nil,bind_assoc]
 unfold Builtin.Frozenset.addrOf Builtin.Frozenset.withSetAsKey
 refine QT (QU ?_)
 try dsimp only
 refine QT (QU ?_)
 try dsimp only
 refine QT (wpAny_tryCatch ?_)
 refine lB (by first | (show A.units+1 < cLine;omega) | (show A.units < cLine;omega) | (show A.units+2 < cLine;omega)) hS hK hk fun r tk hr=>?_
 show wpAny _ _ (ret (Value.bool _)) _ _ _
 exact QU ⟨_,rfl,wpAny_truthy_bool (h r tk hr)⟩
theorem sL (hu:A.units+10 < cLine) (hS:kq (cf prog w) s.heap a az) (hK:KeysIn (cf prog w) s.heap az) (hk:IsTupleKey (cf prog w) s.heap ks b) (hl:az.length < 1000)
  (hy:ks∈az.map (·.1)->∀ tk,Q .none {s with toks:=tk}) (hn:ks ∉ az.map (·.1)->∀ h' tk,Heap.SameBut a s.heap h'->kq (cf prog w) h' a (az++[(ks,b)])->Q .none {s with heap:=h',toks:=tk}):wpAny (model prog w) A (call (.builtin "set.add") [.ref a,.ref b]) Q E s:=by
 refine wpAny_call_entry F.slot_set_add hS.typeIs F.entry_set_add ?_ (F.args_set_add_2 _ _)
 unfold Builtin.«set.add» Builtin.Frozenset.oneOther
 simp only [List.isEmpty_nil,bind_assoc]
 unfold Builtin.Frozenset.addrOf
 refine QT (QU ?_)
 try dsimp only
 refine QT (QU ?_)
 try dsimp only
 refine QT ?_
 refine mZ (by first | (show A.units+1 < cLine;omega) | (show A.units < cLine;omega)) hS hK hk hl (fun h tk _=>?_) (fun h h' tk _ sb st=>?_)
 ·show wpAny _ _ (ret Value.none) _ _ _
  exact QU ⟨_,rfl,hy h tk⟩
 ·show wpAny _ _ (ret Value.none) _ _ _
  exact QU ⟨_,rfl,hn h h' tk sb st⟩
abbrev jd (P:Program) (w:World) (a:Addr) (az:List (List Key×Addr)):HO:=.ext fun h=>kq (cf P w) h a az
structure sr (P:Program) (w:World) (H:Hp) (a:Addr) (az:List (List Key×Addr)):Prop where
 at_:H a=some (jd P w a az)
 ks:∀ p∈az,aj H p.2 (p.1.map kV)
theorem sr.same (h:sr P w H a az) (s:aa H H'):sr P w H' a az:=⟨s _ _ h.at_,fun p hp=>(h.ks p hp).same s⟩
theorem sr.Ju (e:kq (cf P w) h a az):bx P w H h a (jd P w a az):=⟨e,(let ⟨o,_,_,_,ho,_⟩:=e;⟨o,ho⟩),fun h1 h2 x k=>xB x k⟩
theorem sr.real (h:sr X.prog X.w H a az) (I:Inv X pins σ H s):kq (cf X.prog X.w) s.heap a az/\KeysIn (cf X.prog X.w) s.heap az:=
 ⟨(show bx X.prog X.w H s.heap a (jd X.prog X.w a az) from I.hok a _ h.at_).1,fun p hp=>dA I.hok (h.ks p hp)⟩
def Nt (P:Program) (w:World) (ng:Bool):R2:=fun x y H Q=>∃ (b S:Addr) (ks:List Key) (az:List (List Key×Addr)),x=.ref b/\y=.ref S/\aj H b (ks.map kV)/\sr P w H S az/\∀ r:Bool,(r=true↔ks∈az.map (·.1))->Q (.bl (ng^^r)) H
theorem Wo (hu:X.A.units+10 < cLine):c_ X (compareOp .NotIn) (Nt X.prog X.w true):=by
 intro pins s σ H x y v u Q I rx ry h
 obtain ⟨b,S,ks,az,rfl,rfl,hb,hS,q⟩:=h
 cases rx;cases ry
 obtain ⟨h1,h2⟩:=hS.real I
 show wpAny _ _ (do return Value.bool (!(<- contains (.ref S) (.ref b)))) _ _ s
 refine QT (qQ hu h1 h2 (dA I.hok hb) fun r tk hr=>QU ?_)
 exact ⟨.bl _,H,I.tok tk,rfl,by have:=q r hr;rw [Bool.true_xor] at this;exact this⟩
def Nu (P:Program) (w:World) (to te:TE):TE:=fun σ H Q=>to σ H fun x H1=>∃ S,x=.ref S/\(∃ az,sr P w H1 S az)/\te σ H1 fun y H2=>∃ (b:Addr) (ks:List Key) (az:List (List Key×Addr)),y=.ref b/\aj H2 b (ks.map kV)/\sr P w H2 S az/\az.length < 1000/\
 (ks∈az.map (·.1)->Q .ai H2)/\(ks ∉ az.map (·.1)->Q .ai (upd H2 S (jd P w S (az++[(ks,b)]))))
theorem Wp {o:Expr} (hu:X.A.units+10 < cLine) (ho:SE X o to) (ha:SE X e te)
  (nc:attributeBase o "add" X.env (eval o X.env)=eval o X.env:=by rfl)
  (Af:((backTo cpos (starEach [e] X.env)).all (fun x=> !x.1)&&(backToKw cpos (keywordEach [] X.env)).all (fun x=>x.1.isSome)
   &&decide ([e].length+([]:List Keyword).length+(if ([]:List Keyword).isEmpty then 0 else 1) < 30))=true:=by rfl)
  (ni:(apos.endLine==cpos.line)=true:=by rfl) (hs:starEach [e] X.env=(false,eval e X.env)::starEach [] X.env:=by rfl):
  SE X (.Call (.Attribute o "add" apos) [e] [] cpos) (Nu X.prog X.w to te):=by
 constructor
 intro pins s σ H Q I h
 refine wpAny_Call_method_late nc Af ni rfl (av (ho.h pins s σ H _ I h) ?_)
 rintro v s1 ⟨x,H1,I1,r1,S,ex,⟨aav,Jv⟩,q1⟩
 subst ex
 cases r1
 have hr0:=(Jv.real I1).1
 refine ⟨"set","set.add",PySem.F.plainAttrs_set,PySem.F.slot_set_add,PySem.F.type_set_add,hr0.typeIs,hr0.noDict,?_⟩
 rw [hs]
 refine Calls.callWith_builtin rfl (Calls.evalArgs_plain ?_)
 show wpAny _ _ (spliced ((false,eval e X.env)::backTo cpos (starEach [] X.env))) _ _ s1
 refine Calls.spliced_cons (av (ha.h pins s1 σ H1 _ I1 q1) fun u s2 ⟨y,H2,I2,r2,b,ks,az,ey,hb,hS,hl,qy,qn⟩=>Calls.spliced_nil ?_)
 subst ey
 cases r2
 obtain ⟨h1,h2⟩:=hS.real I2
 refine sL hu h1 h2 (dA I2.hok hb) hl (fun hy tk=>⟨.ai,H2,I2.tok tk,rfl,qy hy⟩) fun hn h' tk sb st=>⟨.ai,_,I2.write (by rw [hS.at_];trivial) (.inl rfl) (fun b u n e=>by rw [sb.2 b n];exact e) (let ⟨o,_,_,_,ho,_⟩:=st;⟨o,ho⟩) (sr.Ju st),rfl,qn hn⟩
theorem wF {P':Program} {w':World} (h:ItemsAre (cf P w) ks vs):ItemsAre (cf P' w') ks vs:=by
 induction h with
 | nil=>exact .nil
 | cons h _ ih=>exact .cons h ih
theorem nI {P':Program} {w':World} (x:IsTupleKey (cf P w) h ks a):IsTupleKey (cf P' w') h ks a:=let ⟨o,it,n,h1,h2,h3,h4⟩:=x;⟨o,it,n,h1,h2,h3,wF h4⟩
theorem Wq (I:Inv X pins σ H s) {xs ys:List Key} (h1:aj H a (xs.map kV)) (h2:aj H b (ys.map kV)) (hu:A.units < cLine):SeqAt.EqAt A s (.ref a) (.ref b) (decide (xs=ys)):=
 fun prog w E Q q=>wpAny_eqBool_tuple (knd:=cf prog w) hu (nI (dA I.hok h1)) (nI (dA I.hok h2)) q
theorem pG:∀ {xs ys:List Key},xs.map kV=ys.map kV->xs=ys
 | [],[],_=>rfl
 | [],_::_,e=>by cases e
 | _::_,[],e=>by cases e
 | x::xs,y::ys,e=>by
  have e':=List.cons.inj (show kV x::xs.map kV=kV y::ys.map kV from e)
  rw [TV e'.1,pG e'.2]
def jq (H:Hp) (xs:List V) (ji:List (List Key)):Prop:=xs.length=ji.length/\∀ i (h:i < xs.length) (h':i < ji.length),∃ b,xs[i]=.ref b/\aj H b (ji[i].map kV)
theorem jq.same {H':Hp} {xs:List V} {ji:List (List Key)} (h:jq H xs ji) (t:aa H H'):jq H' xs ji:=⟨h.1,fun i a b=>let ⟨c,e1,e2⟩:=h.2 i a b;⟨c,e1,e2.same t⟩⟩
theorem jq.nil:jq H [] []:=⟨rfl,fun i h=>absurd h (by simp)⟩
theorem jq.snoc {xs:List V} {k:List Key} (h:jq H xs ji) (e:aj H b (k.map kV)):jq H (xs++[.ref b]) (ji++[k]):=by
 obtain ⟨hl,hh⟩:=h
 refine ⟨by simp [hl],fun i a c=>?_⟩
 by_cases hi:i < xs.length
 ·rw [Qe hi,Qe (by omega)];exact hh i hi (by omega)
 ·obtain rfl:i=xs.length:=by simp at a;omega
  rw [Qf (by omega),Qf (by omega)]
  exact ⟨b,by simp,by simpa [hl] using e⟩
def Wr (K:Q0) (ng:Bool):R2:=fun x y H Q=>∃ (b p:Addr) (ks:List Key) (xs:List V) (ji:List (List Key)),x=.ref b/\y=.ref p/\aj H b (ks.map kV)/\(af K H p xs\/ae K H p xs)/\jq H xs ji/\∀ r:Bool,(r=true↔ks∈ji)->Q (.bl (ng^^r)) H
open Classical in
theorem vL (I:Inv X pins σ H s) {xs:List V} {its:List Value} (hb:aj H b (ks.map kV)) (hk:jq H xs ji) (rv:be xs its) (hu:X.A.units+10 < cLine):
  ∃ e:Value->Bool,(∀ y,y∈its.toArray->SeqAt.EqAt X.A.in1 s y (.ref b) (e y))/\(its.toArray.any e=true↔ks∈ji):=by
 have hl:=rv.length
 have ue:=hk.1
 have key:∀ i (h:i < its.length) (h':i < ji.length),∃ c,its[i]=.ref c/\aj H c (ji[i].map kV):=fun i h h'=>by
  obtain ⟨c,e1,e2⟩:=hk.2 i (by omega) h'
  obtain ⟨w1,f1,q1⟩:=rv.get (Qa (show i < xs.length by omega))
  rw [e1] at q1
  cases q1
  rw [Qa h] at f1
  exact ⟨c,by simpa using f1,e2⟩
 let ev:Value->Bool:=fun y=>decide (∃ c zs,y=.ref c/\aj H c (zs.map kV)/\zs=ks)
 have uv:∀ {c:Addr} {zs:List Key},aj H c (zs.map kV)->(ev (.ref c)=true↔zs=ks):=fun {c zs} hc=>by
  constructor
  ·intro h
   obtain ⟨c',zs',e1,e2,e3⟩:=Qt h
   cases e1
   rw [<- e3]
   exact pG (hc.inj e2)
  ·intro e
   exact Qv ⟨c,zs,rfl,hc,e⟩
 refine ⟨ev,fun y hy=>?_,?_⟩
 ·have IS:y∈its:=by simpa using hy
  obtain ⟨i,hi,rfl⟩:=Qi IS
  obtain ⟨c,e1,e2⟩:=key i hi (by omega)
  rw [e1]
  have:=Wq I e2 hb (A:=X.A.in1) (by simp [Around.in1_units];omega)
  have eb:∀ {b:Bool},(b=true↔ji[i]'(by omega)=ks)->ev (.ref c)=b:=fun {b} hb'=>by
   rw [Bool.eq_iff_iff,uv e2];exact hb'.symm
  rw [eb decide_eq_true_iff]
  exact this
 ·rw [Array.any_eq_true]
  constructor
  ·rintro ⟨i,hi,h⟩
   have dh:i < its.length:=by simpa using hi
   obtain ⟨c,e1,e2⟩:=key i dh (by omega)
   have:ev (.ref c)=true:=by rw [<- e1];simpa using h
   rw [<- (uv e2).mp this]
   exact Qj _
  ·intro hm
   obtain ⟨i,hi,e⟩:=Qi hm
   have dh:i < its.length:=by omega
   obtain ⟨c,e1,e2⟩:=key i dh hi
   refine ⟨i,by simpa using dh,?_⟩
   have:its.toArray[i]'(by simpa using dh)=.ref c:=by simpa using e1
   rw [this]
   exact (uv e2).mpr e
theorem pK (K:Q0) (hu:X.A.units+10 < cLine) (hK:X.K=K:=by rfl):c_ X (compareOp .NotIn) (Wr K true):=by
 subst hK
 intro pins s σ H x y v u Q I rx ry h
 obtain ⟨b,p,ks,xs,ji,rfl,rfl,hb,hq,hk,q⟩:=h
 cases rx;cases ry
 rcases hq with hq | hq
 ·obtain ⟨its,r,pl,hz⟩:=I.list hq
  obtain ⟨e,h1,h2⟩:=vL I hb hk r hu
  exact SeqAt.notIn_listAt e pl.isList (fun w hw=>h1 w hw) ⟨.bl _,H,I,rfl,by have:=q _ h2;rw [Bool.true_xor] at this;exact this⟩
 ·obtain ⟨its,r,pl,hz⟩:=I.tuple hq
  obtain ⟨e,h1,h2⟩:=vL I hb hk r hu
  exact SeqAt.notIn_tupleAt e pl (fun w hw=>h1 w hw) ⟨.bl _,H,I,rfl,by have:=q _ h2;rw [Bool.true_xor] at this;exact this⟩
theorem Ws {J:It} {ok:Hp->Prop} {item:Nat->V} {tk tw:TE} {τ0:St} {Q:Hp->Prop} (hJ:BU J ok n item) (Pv:Nat->St->Hp->Prop) (h0:Pv 0 τ0 H0)
  (hok:∀ i τ H,i<=n->Pv i τ H->ok H)
  (hs:∀ i τ H,i < n->Pv i τ H->g (item i) τ H fun τ2 H2=>tc τ2 H2 fun b H3=>if b=true then tk τ2 H3 fun x H4=>tw τ2 H4 fun y H5=>∃ kvs key,x=kV key/\H5 D=some (.dK kvs)/\kvs.length < sizeLine/\Pv (i+1) τ2 (upd H5 D (.dK (putK kvs key y))) else Pv (i+1) τ2 H3)
  (hd:∀ τ H,Pv n τ H->Q H):∃ W:Nat->Nat->St->Hp->Prop,(∃ m,W 0 m τ0 H0)/\∀ i m τ H,W i m τ H->
   (J.stop i H/\Q H)\/(J.go i H/\∃ N:St->Hp->Prop,(∀ τ' H',N τ' H'->∃ m',m' < m/\W (i+1) m' τ' H')/\∀ x H',J.lg i H x H'->g x τ H' fun τ2 H2=>tc τ2 H2 fun b H3=>
    if b=true then tk τ2 H3 fun x H4=>tw τ2 H4 fun y H5=>∃ kvs key,x=kV key/\H5 D=some (.dK kvs)/\kvs.length < sizeLine/\N τ2 (upd H5 D (.dK (putK kvs key y))) else N τ2 H3):=by
 refine ⟨fun i m τ H=>m=n - i/\i<=n/\Pv i τ H,⟨n,by simp,Nat.zero_le _,h0⟩,?_⟩
 rintro i m τ H ⟨rfl,hi,p⟩
 obtain ⟨k1,k2⟩:=hJ H (hok i τ H hi p)
 by_cases ao:i < n
 ·refine .inr ⟨(k1 i ao).1,Pv (i+1),fun σ' H' p'=>⟨n - (i+1),by omega,rfl,ao,p'⟩,fun x H' y=>?_⟩
  obtain ⟨e,e2⟩:=(k1 i ao).2 x H' y
  subst e e2
  exact hs i τ _ ao p
 ·have e:i=n:=by omega
  subst e
  exact .inl ⟨k2,hd τ H p⟩
theorem vM {K:Q0} {J:It} {ok:Hp->Prop} {f1 f2:Nat->V} {a b:Nat} {tk tw:TE} {τ0:St} {Q:Hp->Prop} (hJ:Ey J ok n f1 f2) (Pv:Nat->St->Hp->Prop) (h0:Pv 0 τ0 H0)
  (hok:∀ i τ H,i<=n->Pv i τ H->ok H)
  (hs:∀ i τ H T,i < n->Pv i τ H->H T=none->tc ((τ.set a (some (f1 i))).set b (some (f2 i))) (upd H T (.tup [f1 i,f2 i])) fun c H3=>if c=true then tk ((τ.set a (some (f1 i))).set b (some (f2 i))) H3 fun x H4=>tw ((τ.set a (some (f1 i))).set b (some (f2 i))) H4 fun y H5=>
   ∃ kvs key,x=kV key/\H5 D=some (.dK kvs)/\kvs.length < sizeLine/\Pv (i+1) ((τ.set a (some (f1 i))).set b (some (f2 i))) (upd H5 D (.dK (putK kvs key y))) else Pv (i+1) ((τ.set a (some (f1 i))).set b (some (f2 i))) H3)
  (hd:∀ τ H,Pv n τ H->Q H):∃ W:Nat->Nat->St->Hp->Prop,(∃ m,W 0 m τ0 H0)/\∀ i m τ H,W i m τ H->
   (J.stop i H/\Q H)\/(J.go i H/\∃ N:St->Hp->Prop,(∀ τ' H',N τ' H'->∃ m',m' < m/\W (i+1) m' τ' H')/\∀ x H',J.lg i H x H'->g2 K a b x τ H' fun τ2 H2=>tc τ2 H2 fun b H3=>
    if b=true then tk τ2 H3 fun x H4=>tw τ2 H4 fun y H5=>∃ kvs key,x=kV key/\H5 D=some (.dK kvs)/\kvs.length < sizeLine/\N τ2 (upd H5 D (.dK (putK kvs key y))) else N τ2 H3):=by
 refine ⟨fun i m σ H=>m=n - i/\i<=n/\Pv i σ H,⟨n,by simp,Nat.zero_le _,h0⟩,?_⟩
 rintro i m σ H ⟨rfl,hi,p⟩
 obtain ⟨k1,k2⟩:=hJ H (hok i σ H hi p)
 by_cases ao:i < n
 ·refine .inr ⟨(k1 i ao).1,Pv (i+1),fun σ' H' p'=>⟨n - (i+1),by omega,rfl,ao,p'⟩,fun x H' y=>?_⟩
  obtain ⟨T,rfl,hT,rfl⟩:=(k1 i ao).2 x H' y
  exact dS aA (hs i σ _ T ao p hT)
 ·have e:i=n:=by omega
  subst e
  exact .inl ⟨k2,hd σ H p⟩
theorem Wt {K:Q0} {J:It} {ok:Hp->Prop} {f1 f2:Nat->V} {a b:Nat} {tk tw:TE} {τ0:St} {Q:Hp->Prop} (hJ:Ey J ok n f1 f2) (Pv:Nat->St->Hp->Prop) (h0:Pv 0 τ0 H0)
  (hok:∀ i τ H,i<=n->Pv i τ H->ok H)
  (hs:∀ i τ H T,i < n->Pv i τ H->H T=none->tc ((τ.set a (some (f1 i))).set b (some (f2 i))) (upd H T (.tup [f1 i,f2 i])) fun c H3=>if c=true then tk ((τ.set a (some (f1 i))).set b (some (f2 i))) H3 fun x H4=>tw ((τ.set a (some (f1 i))).set b (some (f2 i))) H4 fun y H5=>
   ∃ kvs key b',x=.ref b'/\aj H5 b' (key.map kV)/\H5 D=some (.dT kvs)/\kvs.length < sizeLine/\Pv (i+1) ((τ.set a (some (f1 i))).set b (some (f2 i))) (upd H5 D (.dT (putK kvs key y))) else Pv (i+1) ((τ.set a (some (f1 i))).set b (some (f2 i))) H3)
  (hd:∀ τ H,Pv n τ H->Q H):∃ W:Nat->Nat->St->Hp->Prop,(∃ m,W 0 m τ0 H0)/\∀ i m τ H,W i m τ H->
   (J.stop i H/\Q H)\/(J.go i H/\∃ N:St->Hp->Prop,(∀ τ' H',N τ' H'->∃ m',m' < m/\W (i+1) m' τ' H')/\∀ x H',J.lg i H x H'->g2 K a b x τ H' fun τ2 H2=>tc τ2 H2 fun b H3=>
    if b=true then tk τ2 H3 fun x H4=>tw τ2 H4 fun y H5=>∃ kvs key b,x=.ref b/\aj H5 b (key.map kV)/\H5 D=some (.dT kvs)/\kvs.length < sizeLine/\N τ2 (upd H5 D (.dT (putK kvs key y))) else N τ2 H3):=by
 refine ⟨fun i m σ H=>m=n - i/\i<=n/\Pv i σ H,⟨n,by simp,Nat.zero_le _,h0⟩,?_⟩
 rintro i m σ H ⟨rfl,hi,p⟩
 obtain ⟨k1,k2⟩:=hJ H (hok i σ H hi p)
 by_cases ao:i < n
 ·refine .inr ⟨(k1 i ao).1,Pv (i+1),fun σ' H' p'=>⟨n - (i+1),by omega,rfl,ao,p'⟩,fun x H' y=>?_⟩
  obtain ⟨T,rfl,hT,rfl⟩:=(k1 i ao).2 x H' y
  exact dS aA (hs i σ _ T ao p hT)
 ·have e:i=n:=by omega
  subst e
  exact .inl ⟨k2,hd σ H p⟩
theorem Wu {κ:Type} [DecidableEq κ] {kvs:List (κ×V)} (nd:(kvs.map (·.1)).Nodup) (h:i < kvs.length):putK (kvs.take i) kvs[i].1 kvs[i].2=kvs.take (i+1):=by
 rw [L2.cG _ (by
  cases e:bh (kvs.take i) kvs[i].1 with
  | none=>rfl
  | some v=>
   have:=kM e
   obtain ⟨p,hp,q⟩:=List.mem_map.mp this
   obtain ⟨j,hj,rfl⟩:=Qi hp
   have uu:j < i:=by simp at hj;omega
   rw [List.getElem_take] at q
   have:=List.pairwise_iff_getElem.mp nd j i (by simp;omega) (by simpa using h) uu
   simp only [Qr] at this
   exact absurd q this),Qs,Qa h]
 rfl
theorem vH {κ:Type} [DecidableEq κ] {kvs:List (κ×V)} (nd:(kvs.map (·.1)).Nodup) {k:κ} {v:V} (h:(k,v)∈kvs):bh kvs k=some v:=by
 induction kvs with
 | nil=>cases h
 | cons p r ih=>
  rw [List.map_cons,List.nodup_cons] at nd
  rcases Qp.mp h with e | h
  ·rw [<- e,bU rfl]
  ·have ne:¬p.1=k:=fun e=>nd.1 (List.mem_map.mpr ⟨_,h,e.symm⟩)
   rw [bT ne];exact ih nd.2 h
theorem aj.put {ys:List V} {u:HO} (r:aj H b ys) (hD:H D=some o) (n1:∀ xs,o≠.tup xs) (n2:∀ q xs,o≠.au q (.tup xs)):aj (L2.upd H D u) b ys:=r.upd fun v hv z=>by
 subst z
 rcases r with r | ⟨q,r⟩
 ·rw [hD] at r;cases r;exact n1 _ rfl
 ·rw [hD] at r;cases r;exact n2 _ _ rfl
def ir (rows:List ak):List (Key×V):=rows.map fun r=>(.inr r.1,.str (endOf rows r.1))
def x_:Hd->List Str
 | .as y=>[y]
 | .way x y=>[x,y]
 | .prs _ ps=>ps.map (·.2)
 | _=>[]
def ky (rows:List ak) (h:Hd):List (List Key×V):=h.bz.map fun m=>(m.1.map (Sum.inr:Str->Key),.str (endOf rows m.2))
theorem pZ {xs ys:List Str} (h:xs.map (Sum.inr:Str->Key)=ys.map Sum.inr):xs=ys:=by
 induction xs generalizing ys with
 | nil=>cases ys with
  | nil=>rfl
  | cons y ys=>simp at h
 | cons x xs ih=>cases ys with
  | nil=>simp at h
  | cons y ys=>
   simp only [List.map_cons,List.cons.injEq,Sum.inr.injEq] at h
   rw [h.1,ih h.2]
theorem o5 {rows:List ak} {h:Hd} (nd:(h.bz.map (·.1)).Nodup):((ky rows h).map (·.1)).Nodup:=by
 have e:(ky rows h).map (·.1)=(h.bz.map (·.1)).map fun m=>m.map (Sum.inr:Str->Key):=by simp [ky,Qn,QB]
 rw [e]
 exact List.pairwise_map.mpr (nd.imp fun h e=>h (pZ e))
theorem Wv {h:Hd} (i:Nat) (hi:i < h.bz.length):(x_ h)[i]? =some h.bz[i].2:=by
 cases h with
 | one s=>cases hi
 | as y=>cases hi
 | way x y=>
  match i,hi with
  | 0,_=>rfl
  | 1,_=>rfl
 | prs s ps=>
  have dh:i < ps.length:=by simpa [Hd.bz] using hi
  simp [x_,Hd.bz,Qa dh]
theorem Ww {h:Hd}:h.bz.length<=(x_ h).length:=by
 cases h<;>simp [x_,Hd.bz]
theorem gX {h:Hd} (ok:h.ok ns):h.bz.length<=10:=by
 cases h with
 | one s=>simp [Hd.bz]
 | as y=>simp [Hd.bz]
 | way x y=>simp [Hd.bz]
 | prs s ps=>simpa [Hd.bz] using ok.2.2.2
theorem jK:∀ {ws:List Str},rising ws=true->ws.Pairwise (fun a b=>qw a b=true)
 | [],_=>.nil
 | [_],_=>List.pairwise_singleton _ _
 | a::b::r,h=>by
  have h':qw a b=true/\rising (b::r)=true:=by simpa [rising] using h
  have ih:=jK h'.2
  refine List.pairwise_cons.mpr ⟨fun c hc=>?_,ih⟩
  rcases Qp.mp hc with rfl | hc
  ·exact h'.1
  ·exact qC h'.1 ((List.pairwise_cons.mp ih).1 c hc)
theorem nS (h:rising ws=true):ws.Nodup:=(jK h).imp fun {x y} h e=>by rw [e,oZ] at h;cases h
theorem zG {h:Hd} (ok:h.ok ns):(h.bz.map (·.1)).Nodup:=by
 cases h with
 | one s=>exact List.nodup_nil
 | as y=>exact List.nodup_nil
 | way x y=>exact (by decide+kernel:(([["from"],["to"]]:List (List Str))).Nodup)
 | prs s ps=>
  have hr:=nS ok.2.2.1
  have e:(Hd.prs s ps).bz.map (·.1)=(ps.map (·.1)).map fun w=>([if s="box" then "part" else "case",w]:List Str):=by simp [Hd.bz,Qn,QB]
  rw [e]
  exact List.pairwise_map.mpr (hr.imp fun h e=>h (by simpa using e))
theorem nH {rows:List ak} (nd:(rows.map (·.1)).Nodup) (hx:x∈rows.map (·.1)):bh (ir rows) (.inr x)=some (.str (endOf rows x)):=by
 obtain ⟨r,hr,rfl⟩:=List.mem_map.mp hx
 refine vH ?_ (List.mem_map.mpr ⟨r,hr,rfl⟩)
 have e:(ir rows).map (·.1)=(rows.map (·.1)).map (Sum.inr:Str->Key):=by simp [ir,Qn,QB]
 rw [e]
 exact List.pairwise_map.mpr (nd.imp fun h e=>h (Sum.inr.inj e))
theorem Jw (m:List Str):(m.map (Sum.inr:Str->Key)).map kV=m.map V.str:=by simp [Qn,QB,kV]
def bj (rows:List ak):List ak:=rows.filter fun r=>r.2.nx.isNone
structure DV (R:Hp->V->ak->Prop) (H:Hp) (kvs:List (Key×V)) (rs:List ak):Prop where
 len:kvs.length=rs.length
 at_:∀ i (h:i < kvs.length) (h':i < rs.length),kvs[i].1=.inr rs[i].1/\R H kvs[i].2 rs[i]
theorem DV.keep {R:Hp->V->ak->Prop} {kvs:List (Key×V)} (h:DV R H kvs rs) (s:∀ v r,R H v r->R H' v r):DV R H' kvs rs:=⟨h.len,fun i a b=>⟨(h.at_ i a b).1,s _ _ (h.at_ i a b).2⟩⟩
theorem DV.nil {R:Hp->V->ak->Prop}:DV R H [] []:=⟨rfl,fun i h=>absurd h (by simp)⟩
theorem DV.snoc {R:Hp->V->ak->Prop} {kvs:List (Key×V)} (h:DV R H kvs rs) {v:V} {r:ak} (e:R H v r):DV R H (kvs++[((Sum.inr r.1:Key),v)]) (rs++[r]):=by
 have hl:=h.len
 refine ⟨by simp [hl],fun i h1 h2=>?_⟩
 by_cases ao:i < kvs.length
 ·rw [Qe ao,Qe (by omega)]
  exact h.at_ i ao (by omega)
 ·have e':i=kvs.length:=by simp at h1;omega
  subst e'
  rw [Qf (Qy _),Qf (by omega)]
  simp only [Nat.sub_self,hl,List.getElem_cons_zero,true_and]
  exact e
theorem DV.keys {R:Hp->V->ak->Prop} {kvs:List (Key×V)} (h:DV R H kvs rs):kvs.map (·.1)=rs.map fun r=>(.inr r.1:Key):=by
 have hl:=h.len
 refine List.ext_getElem (by simpa using hl) fun i h1 h2=>?_
 simp only [Qr]
 exact (h.at_ i (by simpa using h1) (by simpa using h2)).1
theorem DV.put {R:Hp->V->ak->Prop} {kvs:List (Key×V)} (h:DV R H kvs rs) {r:ak} {v:V} (n:r.1 ∉ rs.map (·.1)):putK kvs (.inr r.1) v=kvs++[(.inr r.1,v)]:=by
 refine L2.cG _ ?_
 cases e:bh kvs (.inr r.1) with
 | none=>rfl
 | some u=>
  have:=kM e
  rw [h.keys] at this
  obtain ⟨r',gh,e'⟩:=List.mem_map.mp this
  exact absurd (List.mem_map.mpr ⟨r',gh,Sum.inr.inj e'⟩) n
theorem DV.get {R:Hp->V->ak->Prop} {kvs:List (Key×V)} (h:DV R H kvs rs) (nd:(rs.map (·.1)).Nodup) {r:ak} (hr:r∈rs):∃ v,bh kvs (.inr r.1)=some v/\R H v r:=by
 obtain ⟨i,hi,rfl⟩:=Qi hr
 have hl:=h.len
 obtain ⟨h1,h2⟩:=h.at_ i (by omega) hi
 refine ⟨kvs[i].2,vH ?_ (k:=(Sum.inr rs[i].1:Key)) (v:=kvs[i].2) ?_,h2⟩
 ·rw [h.keys]
  exact List.pairwise_map.mpr ((List.pairwise_map.mp nd).imp fun h e=>h (Sum.inr.inj e))
 ·rw [<- h1];exact Qj (by omega)
def Hd.br:Hd->Str
 | .one s=>s
 | .as _=>"as"
 | .way _ _=>"way"
 | .prs s _=>s
theorem HV.br {H:Hp} {v:V} {h:Hd} (q:HV H v h):∃ b ys,v=.ref b/\H b=some (.tup (.str h.br::ys)):=by
 cases q with
 | one e=>exact ⟨_,_,rfl,e⟩
 | as e=>exact ⟨_,_,rfl,e⟩
 | way e=>exact ⟨_,_,rfl,e⟩
 | prs e _ _=>exact ⟨_,_,rfl,e⟩
theorem sY {h:Hd} (ok:h.ok ns):(h.br="as")=(h.nx.isNone=false):=by
 cases h with
 | one s=>rcases ok with rfl | rfl<;>simp [Hd.br,Hd.nx]<;>decide+kernel
 | as y=>simp [Hd.br,Hd.nx]
 | way x y=>simp [Hd.br,Hd.nx];decide+kernel
 | prs s ps=>rcases ok.1 with rfl | rfl<;>simp [Hd.br,Hd.nx]<;>decide+kernel
def RH:Hp->V->ak->Prop:=fun H v r=>HV H v r.2
def RM:Hp->V->ak->Prop:=fun H v r=>∃ b c us,v=.ref b/\H b=some (.tup [.str r.2.br,.ref c])/\H c=some (.tup us)/\SV H us (r.2.bz.map (·.1))
def RO (rows:List ak):Hp->V->ak->Prop:=fun H v r=>∃ m o,v=.ref m/\H m=some (.au o (.dT (ky rows r.2)))
structure Wx (H:Hp) (rows:List ak) (fs:List (Str×V)):Prop where
 rws:∃ d o,fs.lookup ("rows":Str)=some (V.ref d)/\H d=some (.au o (.dK (ir rows)))
 lj:∃ d o k,fs.lookup ("heads":Str)=some (V.ref d)/\H d=some (.au o (.dK k))/\DV RH H k (bj rows)
 mks:∃ d o k,fs.lookup ("marks":Str)=some (V.ref d)/\H d=some (.au o (.dK k))/\DV RM H k (bj rows)
 bz:∃ d o k,fs.lookup ("moves":Str)=some (V.ref d)/\H d=some (.au o (.dK k))/\DV (RO rows) H k (bj rows)
def Jx (H:Hp) (C x:Addr) (rows:List ak):Prop:=∃ dx fs,H x=some (.ins C dx fs)/\Wx H rows fs
def Sx (x:Addr) (H H':Hp):Prop:=∀ b o,b≠x->H b=some o->H' b=some o
theorem Sx.trans {x:Addr} {H1 H2:Hp} (a:Sx x H H1) (b:Sx x H1 H2):Sx x H H2:=fun c o n h=>b c o n (a c o n h)
theorem aa.sx {x:Addr} {H1:Hp} (a:aa H H1):Sx x H H1:=fun c o _ h=>a c o h
theorem Sx.upd {x:Addr} {H:Hp} {o:HO}:Sx x H (upd H x o):=fun c u n h=>by rw [aE n];exact h
theorem Sx.free {x:Addr} (s:Sx x H H') (h:H' D=none) (n:D≠x):H D=none:=by
 cases e:H D with
 | none=>rfl
 | some o=>rw [s D o n e] at h;cases h
theorem Sx.tk {x:Addr} (s:Sx x H H') (n:∀ ys,H x≠some (.tup ys)):Tk H H':=fun b ys e=>s b _ (fun z=>n ys (by rw [<- z];exact e)) e
theorem Sx.au {x b:Addr} {H H':Hp} {q:Obj} {u:HO} (s:Sx x H H') (n:∀ q u,H x≠some (.au q u)) (e:H b=some (.au q u)):H' b=some (.au q u):=s b _ (fun z=>n q u (by rw [<- z];exact e)) e
theorem HV.same {v:V} {h:Hd} (q:HV H v h) (s:aa H H'):HV H' v h:=q.tk s.ts
theorem lC {K:Q0} {ta tv:TE} {f:Str} {v:TS} {D:Ends} (h:tv σ H fun y H1=>ta σ H1 fun x H2=>∃ a C dx fs,x=.ref a/\H2 a=some (.ins C dx fs)/\yt K C/\yu K C f/\fs.length < 1000/\v D σ (upd H2 a (.ins C dx (cz f y fs)))):zu (Gd K ta tv f) v D σ H:=h
def jl (rows:List ak) (e:Str) (s:List Str):Option Str:=((b_ rows e).find? fun m=>decide (m.1=s)).map (·.2)
def jm (rows:List ak) (ns:List Str) (e:Str):Prop:=e∈ns/\endOf rows e=e
def yc (rows:List ak) (e:Str):List (List Key×V):=(b_ rows e).map fun m=>(m.1.map Sum.inr,.str m.2)
theorem Wy (rows:List ak) (e:Str) (s:List Str):bh (yc rows e) (s.map Sum.inr)=(jl rows e s).map V.str:=by
 unfold bh yc jl
 induction b_ rows e with
 | nil=>rfl
 | cons m ms ih=>
  simp only [List.map_cons,List.find?_cons]
  by_cases h:m.1=s
  ·rw [Qv h,Qv (congrArg _ h)];rfl
  ·rw [Qw h,Qw fun z=>h (pZ z)];exact ih
section
variable {xs:List V} {rows:List ak}
theorem RT.stay (rt:RT H a xs rows ns ws) (hw:∀ z∈ws,Wd z) (hx:x∈ns):jm rows ns (endOf rows x):=by
 obtain ⟨h1,h2,_⟩:=rt.B3 hw hx
 exact ⟨h1,cX _ h2⟩
theorem RT.yd (rt:RT H a xs rows ns ws) (hw:∀ z∈ws,Wd z) {e:Str} (h:jm rows ns e):(e,aq rows e)∈bj rows/\(aq rows e).ok ns:=by
 obtain ⟨h1,h2,h3⟩:=rt.B3 hw h.1
 rw [h.2] at h1 h2 h3
 have h4:e∈rows.map (·.1):=rt.nm.mem_iff.mpr h1
 obtain ⟨r,hr,rfl⟩:=List.mem_map.mp h4
 have e':=cR rt.jw hr
 refine ⟨List.mem_filter.mpr ⟨?_,?_⟩,h3⟩
 ·rw [e'];exact hr
 ·show (aq rows r.1).nx.isNone=true
  rw [h2];rfl
theorem RT.jl (rt:RT H a xs rows ns ws) (hw:∀ z∈ws,Wd z) {e e':Str} {s:List Str} (h:jm rows ns e) (m:L2.jl rows e s=some e'):jm rows ns e':=by
 unfold L2.jl at m
 obtain ⟨p,hp,rfl⟩:=Option.map_eq_some_iff.mp m
 have hm:=List.mem_of_find?_eq_some hp
 unfold b_ at hm
 obtain ⟨q,hq,rfl⟩:=List.mem_map.mp hm
 rw [h.2] at hq
 exact rt.stay hw (tH (rt.yd hw h).2 _ hq)
theorem RT.Di (rt:RT H a xs rows ns ws):((bj rows).map (·.1)).Nodup:=rt.jw.sublist (List.filter_sublist.map _)
theorem RT.GS (rt:RT H a xs rows ns ws) (hw:∀ z∈ws,Wd z) (h:x∈ns):(b_ rows x).length<=10:=by
 have:=gX (rt.B3 hw h).2.2
 unfold b_
 simpa using this
end
def GU (K:Q0):R2:=fun x y H Q=>∃ a b xs ys,x=.ref a/\y=.ref b/\ae K H a xs/\ae K H b ys/\xs.length+ys.length<=sizeLine/\(xs=[]->Q (.ref b) H)/\
 (xs≠[]->ys=[]->Q (.ref a) H)/\(xs≠[]->ys≠[]->∀ p,H p=none->Q (.ref p) (upd H p (.tup (xs++ys))))
theorem kL (K:Q0) (h:X.K=K:=by rfl):c_ X (binaryOp .Add) (GU K):=by
 subst h
 intro pins s σ H x y v u Q I rx ry h
 obtain ⟨a,b,xs,ys,rfl,rfl,ha,hb,hz,q0,q1,q2⟩:=h
 by_cases hx:xs=[]
 ·cases rx
  cases ry
  obtain ⟨its,r1,p1,_⟩:=I.tuple ha
  obtain ⟨its2,r2,p2,_⟩:=I.tuple hb
  have hi:its=[]:=r1.Gf.mpr hx
  obtain ⟨⟨cls,dd,data,sl⟩,ho,hc,n,hd⟩:=id p1
  obtain ⟨⟨Mf,AK,data2,AL⟩,vo,lh,n2,hd2⟩:=id p2
  simp only at hc hd lh hd2
  subst hc hd lh hd2
  exact concat_meets ⟨_,ho,rfl⟩ ⟨_,vo,rfl⟩ noFill_tuple_add seq_tuple_add PySem.F.slot_tuple_add PySem.F.entry_tuple_add (PySem.F.args_tuple_add_2 _ _)
   (tuple_addW0 a b its.toArray its2.toArray n n2 dd AK sl AL (by simp [hi])) ⟨ho,vo,⟨.ref b,H,I,rfl,q0 hx⟩⟩
 ·exact Te pins s σ H _ _ v u Q I rx ry ⟨a,b,xs,ys,rfl,rfl,ha,hb,hx,hz,q1 hx,q2 hx⟩
theorem GV {K:Q0} {xs ys:List V} {Q:VK} (ha:H a=some (.tup xs)) (hb:H b=some (.tup ys)) (hz:xs.length+ys.length<=sizeLine) (h:∀ p H',aa H H'->H' p=some (.tup (xs++ys))->Q (.ref p) H'):GU K (.ref a) (.ref b) H Q:=by
 refine ⟨a,b,xs,ys,rfl,rfl,ae.of ha,ae.of hb,hz,fun e=>?_,fun _ e=>?_,fun _ _ p hp=>?_⟩
 ·subst e;exact h b H (aa.refl _) hb
 ·subst e;exact h a H (aa.refl _) (by rw [List.append_nil];exact ha)
 ·exact h p _ (aa.upd hp _) aA
theorem SV.append {xs ys:List V} {ts:List (List Str)} (h:SV H xs ss) (h':SV H ys ts):SV H (xs++ys) (ss++ts):=by
 have hl:=h.len
 have A_:=h'.len
 refine ⟨by simp [hl,A_],fun i h1 h2=>?_⟩
 by_cases ao:i < xs.length
 ·rw [Qe ao,Qe (by omega)]
  exact h.at_ i ao (by omega)
 ·rw [Qf (by omega),Qf (by omega)]
  have:=h'.at_ (i - xs.length) (by simp at h1;omega) (by simp at h2;omega)
  simpa [hl] using this
theorem SV.one {H:Hp} {b:Addr} {m:List Str} (e:aj H b (m.map V.str)):SV H [.ref b] [m]:=SV.nil.snoc e
theorem SV.same {H H':Hp} {xs:List V} {ss:List (List Str)} (h:SV H xs ss) (s:aa H H'):SV H' xs ss:=h.keep fun _ _ r=>r.same s
theorem Wz {k:Nat} (hr:fu k A):A.units+20 < cLine:=by have:=hr.un;omega
section
variable {d:Addr} {od:Obj} {es:Array DictEntry} {ok ov:Value} {Q:Option Value->Shared->Prop}
theorem wU {en:DictEntry} (a0:IsItemIter s.heap it d i n ep ok ov) (Bb:s.heap.get? d=some od) (Bc:od.data=.dict es ep) (hn:es.size=n) (hx:es[i]? =some en)
  (hQ:∀ h',IsItemIterOut h' it d (i+1) n ep en.key en.val s.heap.objs.size->h'.get? s.heap.objs.size=some {cls:=.type "tuple",data:=.seq #[en.key,en.val]}->
   (∀ b o,b≠it->s.heap.get? b=some o->h'.get? b=some o)->Q (some (.ref s.heap.objs.size)) {s with heap:=h'}):wpAny (model P w) A (pyNext (.ref it)) Q E s:=by
 obtain ⟨hp,g,dr,tk,os⟩:=s
 have ty:Shared.TypeIs ⟨hp,g,dr,tk,os⟩ (.ref it) "dict_itemiterator":=⟨_,a0,rfl⟩
 have ao:i < es.size:=(Array.getElem?_eq_some_iff.mp hx).1
 have hen:es[i]=en:=(Array.getElem?_eq_some_iff.mp hx).2
 have own:Builtin.Dict_items.ownsTuple "dict_itemiterator"=true:=by decide
 have Ca:¬(Value.ref d==Value.none)=true:=fun hz=>Bool.false_ne_true hz
 unfold pyNext
 refine QT (wpAny_attempt (wpAny_callSpecial?_slot (name:=Str.ofString "__next__") ty F.slot_dict_itemiterator_next (wpAny_call_entry F.slot_dict_itemiterator_next ty F.entry_dict_itemiterator_next ?_ (F.args_dict_itemiterator_next_1 _))))
 refine QT (QU (QT (QT ?_)))
 first
  | refine QT (wpAny_typeNameOfWhole_itemiter ty (QU (QT (wpAny_fieldsOf a0 rfl ?_))))
  | refine QT (wpAny_typeNameOf_itemiter ty (QU (QT (wpAny_fieldsOf a0 rfl ?_))))
 simp only [own,if_true]
 show wpAny _ _ (if (Value.ref d==Value.none)=true then _ else _) _ _ _
 rw [if_neg Ca]
 refine QT (QU (QT (wpAny_dictEntries Bb Bc ?_)))
 rw [if_neg (by rw [hn];simp)]
 refine QT (QU (QT (wpAny_dictEpoch Bb Bc ?_)))
 rw [if_neg (by simp)]
 refine QU ?_
 simp only [show ¬((i:Int) < 0) by omega,if_false,Int.toNat_natCast,hx]
 refine QT ?_
 first
  | refine QT (wpAny_typeNameOfWhole_itemiter ty (QU (QT (wpAny_isOneOf_itemiter ty ?_))))
  | refine QT (wpAny_typeNameOf_itemiter ty (QU (QT (wpAny_isOneOf_itemiter ty ?_))))
 show wpAny _ _ (setField (.ref it) 3 (rawInt ((i:Int)+1)) >>=_) _ _ ⟨hp,g,dr,tk,os⟩
 refine QT (wpAny_setField_rec a0 (by simp) fun k1 b1 c1=>?_)
 have Jy:Heap.SameBut it hp k1:=c1
 have Nv:IsItemIter k1 it d (i+1) n ep ok ov:=by
  have e:((i+1:Nat):Int)=(i:Int)+1:=by omega
  unfold IsItemIter;rw [e];simpa [rawInt] using b1
 have Nx:Shared.TypeIs ⟨k1,g,dr,tk,os⟩ (.ref it) "dict_itemiterator":=⟨_,Nv,rfl⟩
 refine QT (wpAny_holding (QT (wpAny_isOneOf_itemiter Nx (QT (wpAny_isOneOf_itemiter Nx ?_)))))
 show wpAny _ _ (Builtin.Dict_items.pairFromOwner (.ref it) 6 en.key en.val) _ _ ⟨k1,g,dr,tk,os⟩
 unfold Builtin.Dict_items.pairFromOwner
 refine QT (wpAny_newTuple ?_)
 have sz:k1.objs.size=hp.objs.size:=Jy.1
 have il:it < hp.objs.size:=Qz a0
 have b2:IsItemIter (k1.push {cls:=.type "tuple",data:=.seq #[en.key,en.val]}) it d (i+1) n ep ok ov:=Qc _ Nv
 have t2:(k1.push {cls:=.type "tuple",data:=.seq #[en.key,en.val]}).get? hp.objs.size=some {cls:=.type "tuple",data:=.seq #[en.key,en.val]}:=by rw [<- sz];exact Qd _ rfl
 have m2:∀ b o,b≠it->hp.get? b=some o->(k1.push {cls:=.type "tuple",data:=.seq #[en.key,en.val]}).get? b=some o:=fun b o hb e=>Qc _ (Jy.extBut b o hb e)
 show wpAny _ _ (Builtin.Dict_items.ownedTupleIsFree (.ref it) >>=_) _ _ ⟨k1.push {cls:=.type "tuple",data:=.seq #[en.key,en.val]},g,dr,tk,os⟩
 rw [sz]
 generalize k1.push {cls:=.type "tuple",data:=.seq #[en.key,en.val]}=k2 at b2 t2 m2
 refine QT ?_
 unfold Builtin.Dict_items.ownedTupleIsFree
 refine QT (wpAny_field b2 rfl (x:=.none) rfl (QU ?_))
 simp only [if_true]
 refine QT (wpAny_field b2 rfl (x:=ok) rfl (QT (wpAny_field b2 rfl (x:=ov) rfl (QT (wpAny_setField_rec b2 (by simp) fun k3 b3 c3=>?_)))))
 have WA:IsItemIter k3 it d (i+1) n ep en.key ov:=b3
 refine QT (wpAny_setField_rec WA (by simp) fun k4 b4 c4=>?_)
 have WB:IsItemIter k4 it d (i+1) n ep en.key en.val:=b4
 refine QT (wpAny_setField_rec WB (by simp) fun k5 b5 c5=>?_)
 have WC:IsItemIterOut k5 it d (i+1) n ep en.key en.val hp.objs.size:=b5
 refine QT (wpAny_setField_rec WC (by simp) fun k6 b6 c6=>?_)
 have up:∀ b o,b≠it->k2.get? b=some o->k6.get? b=some o:=fun b o hb e=>c6.extBut b o hb (c5.extBut b o hb (c4.extBut b o hb (c3.extBut b o hb e)))
 exact QT (wpAny_letGo (QU (QU ⟨_,rfl,QU (hQ k6 b6 (up _ _ (Nat.ne_of_gt il) t2) fun b o hb e=>up b o hb (m2 b o hb e))⟩)))
theorem xP (hh:A.handled=none) (a0:IsItemIter s.heap it d i n ep ok ov) (Bb:s.heap.get? d=some od) (Bc:od.data=.dict es ep) (hn:es.size=n) (hx:n<=i)
  (hQ:∀ h',Heap.ExtBut it s.heap h'->Q none {s with heap:=h'}):wpAny (model P w) A (pyNext (.ref it)) Q E s:=by
 have ty:s.TypeIs (.ref it) "dict_itemiterator":=⟨_,a0,rfl⟩
 have own:Builtin.Dict_items.ownsTuple "dict_itemiterator"=true:=by decide
 have WD:es.size<=i:=by omega
 have Ca:¬(Value.ref d==Value.none)=true:=fun hz=>Bool.false_ne_true hz
 unfold pyNext
 refine QT (wpAny_attempt (wpAny_callSpecial?_slot (name:=Str.ofString "__next__") ty F.slot_dict_itemiterator_next (wpAny_call_entry F.slot_dict_itemiterator_next ty F.entry_dict_itemiterator_next ?_ (F.args_dict_itemiterator_next_1 _))))
 refine QT (QU (QT (QT ?_)))
 first
  | refine QT (wpAny_typeNameOfWhole_itemiter ty (QU (QT (wpAny_fieldsOf a0 rfl ?_))))
  | refine QT (wpAny_typeNameOf_itemiter ty (QU (QT (wpAny_fieldsOf a0 rfl ?_))))
 simp only [own,if_true]
 show wpAny _ _ (if (Value.ref d==Value.none)=true then _ else _) _ _ _
 rw [if_neg Ca]
 refine QT (QU (QT (wpAny_dictEntries Bb Bc ?_)))
 rw [if_neg (by rw [hn];simp)]
 refine QT (QU (QT (wpAny_dictEpoch Bb Bc ?_)))
 rw [if_neg (by simp)]
 refine QU ?_
 simp only [show ¬((i:Int) < 0) by omega,if_false,Int.toNat_natCast,Array.getElem?_eq_none WD]
 refine QT ?_
 first
  | refine QT (wpAny_typeNameOfWhole_itemiter ty (QU ?_))
  | refine QT (wpAny_typeNameOf_itemiter ty (QU ?_))
 show wpAny _ _ (setField (.ref it) 2 .none >>=_) _ _ s
 refine QT (wpAny_setField a0 rfl (by simp) ?_)
 show wpAny _ _ (newExc (.type "StopIteration") [] >>=_) _ _ _
 refine QT ?_
 simp only [newExc,newTuple]
 refine QT (wpAny_newObj_type (QT (m:=firstArgMember _ _) (wpAny_of_eq (a:=Value.none) (by first | rfl | (simp only [firstArgMember];rfl)) (wpAny_newObj_type ?_ (by size_fits)))) (by size_fits))
 simp only [raiseNew]
 refine QT (wpAny_handled ?_)
 rw [show A.in1.handled=none from hh]
 refine QT (QU (wpAny_throw ?_))
 refine QT (wpAny_isInstance (T:="StopIteration") (b:=true) ⟨_,Qd _ rfl,rfl⟩ isSubtype_stop ?_)
 exact QU (hQ _ (((Heap.SameBut.update ..).extBut.push _).push _))
end
def EX (a:Addr) (o:Obj) (kvs:List (List Key×V)):It:=⟨fun i H=>H a=some (.au o (.dT kvs))/\i < kvs.length,fun i H x H'=>∃ b kv,kvs[i]? =some kv/\aj H b (kv.1.map kV)/\Ex (.ref b) kv.2 H x H',fun i H=>H a=some (.au o (.dT kvs))/\kvs.length=i⟩
theorem WE {kvs:List (List Key×V)} (r:KT H kvs xs):∀ {i:Nat} {p:List Key×V},kvs[i]? =some p->∃ q,xs[i]? =some q/\aj H q.2.1 (p.1.map kV)/\RelV p.2 q.2.2:=by
 intro i
 induction r generalizing i with
 | nil=>intro p h;simp at h
 | cons a t ih=>
  intro p h
  cases i with
  | zero=>simp at h;subst h;exact ⟨_,by simp,a.2.1,a.2.2⟩
  | succ i=>simp at h;simpa using ih h
theorem pD {K:Q0} {k:Nat} {pos:Pos} {o:Obj} {kvs:List (List Key×V)} (VP:a≠it) (Aj:∃ es,o.data=.dict es ep):
  Turn P w K (.Tuple Bw k pos) (EX a o kvs) [it] it (fun i h=>∃ ok ov,IsItemIter h it a i kvs.length ep ok ov) where
 mem:=by simp
 obj:=fun i h st b hb=>by
  have e:b=it:=by simpa using hb
  subst e
  obtain ⟨ok,ov,he⟩:=st
  exact ⟨_,he,fun v z=>by
   have z':Data.fields _=Data.cell v:=z
   cases z'⟩
 keep:=fun i h h' st k=>let ⟨ok,ov,he⟩:=st;⟨ok,ov,k it (by simp) _ he⟩
 item:=by
  intro X hP hw hK hc i pins s σ H E I hf st hg
  subst hP hw hK
  obtain ⟨ok,ov,he⟩:=st
  obtain ⟨hq,hi⟩:=hg
  obtain ⟨e,z,hd,xs,rel,ob,es,yp,h1,h2,h3,h4,h5⟩:=(show bx X.prog X.w H s.heap a (.au o (.dT kvs)) from I.hok a _ hq)
  obtain ⟨es',nk⟩:=Aj
  rw [e] at h1;cases h1
  rw [nk] at h3;injection h3 with uo uq
  subst uo uq
  obtain ⟨q,sd,se,Jb⟩:=WE rel (Qa hi)
  have hl:=Paired.length rel
  have hsz:es'.size=kvs.length:=by rw [<- Array.length_toList,h4,Ql];exact hl.symm
  have hx:es'[i]? =some (entryOfKey (tupleKind (cf X.prog X.w)) q):=by rw [<- Array.getElem?_toList,h4,Qq,sd];rfl
  refine wU (n:=kvs.length) he e nk hsz hx fun h' ho hT Jc=>?_
  have rk:RelV (.ref q.2.1) (entryOfKey (tupleKind (cf X.prog X.w)) q).key:=rfl
  have rv:RelV kvs[i].2 (entryOfKey (tupleKind (cf X.prog X.w)) q).val:=Jb
  have I1:Inv X pins σ (upd H s.heap.objs.size (.tup [.ref q.2.1,kvs[i].2])) {s with heap:=h'}:=I.IQ (t':=s.toks) hf (fun b o hb e=>Jc b o (fun z=>hb (by simp [z])) e) (Qy _) (oS rk rv hT)
  refine ⟨_,rfl,wpAny_letOwnedTupleGo_items (s:={s with heap:=h'}) ho fun C3 Jd sb=>?_⟩
  have ao:it≠s.heap.objs.size:=Nat.ne_of_lt (Qz he)
  obtain ⟨f0,f1,f2,f3,f4,f5⟩:=hf it (by simp)
  have EJ:upd H s.heap.objs.size (.tup [.ref q.2.1,kvs[i].2]) it=none:=by rw [aE ao];exact f0
  refine ⟨.ref s.heap.objs.size,_,I1.turned (t':=s.toks) (fun b o hb q=>(sb.2 b hb).trans q) EJ f1 f3 f4 f5,rfl,⟨q.2.1,kvs[i],Qa hi,se,_,rfl,I.hok.fresh (Qy _),rfl⟩,⟨_,_,Jd⟩,fun b hb=>?_⟩
  have e:b=it:=by simpa using hb
  subst e
  exact EJ
 done:=by
  intro X hP hw hK hc i pins s σ H E I hf st hg
  subst hP hw hK
  obtain ⟨ok,ov,he⟩:=st
  obtain ⟨hq,hi⟩:=hg
  obtain ⟨e,z,hd,xs,rel,ob,es,yp,h1,h2,h3,h4,h5⟩:=(show bx X.prog X.w H s.heap a (.au o (.dT kvs)) from I.hok a _ hq)
  obtain ⟨es',nk⟩:=Aj
  rw [e] at h1;cases h1
  rw [nk] at h3;injection h3 with uo uq
  subst uo uq
  have hl:=Paired.length rel
  have hsz:es'.size=kvs.length:=by rw [<- Array.length_toList,h4,Ql];exact hl.symm
  obtain ⟨f0,f1,f2,f3,f4,f5⟩:=hf it (by simp)
  exact xP (n:=kvs.length) (I.ok.hd hc) he e nk hsz (by omega) fun h' eb=>⟨rfl,I.turned (t':=s.toks) (fun b o hb e=>eb b o hb e) f0 f1 f3 f4 f5⟩
 self:=fun _ _ _ _ _ st h=>let ⟨_,_,he⟩:=st;PySem.W.kcp_self he h
section
variable {k:Nat} {Aa:Pos} {o:Expr}
theorem kF {v d:Addr} {od:Obj} {es:Array DictEntry} (hv:s.heap.IsItemsView v d) (Bb:s.heap.get? d=some od) (Bc:od.data=.dict es ep)
  (hQ:Q (.ref s.heap.objs.size) {s with heap:=s.heap.push {cls:=.type "dict_itemiterator",data:=.fields #[.none,.bool false,.ref d,.int 0 0,.int es.size 0,.int ep 0,.none,.none]}}):wpAny (model P w) A (pyIter (.ref v)) Q E s:=by
 obtain ⟨ov,WG,hcv,Dj⟩:=id hv
 have own:Builtin.Dict_items.ownsTuple "dict_itemiterator"=true:=by decide
 refine wpAny_pyIter_slot hv.typeIs F.slot_dict_items_iter (wpAny_call_entry F.slot_dict_items_iter hv.typeIs F.entry_dict_items_iter ?_ (F.args_dict_items_iter_1 _))
 unfold Builtin.«dict_items.__iter__»
 refine QT (QU (QT ?_))
 unfold Builtin.Dict_items.dictOf
 refine QT (wpAny_field WG Dj (x:=.ref d) rfl (QU (QT ?_)))
 unfold Builtin.Dict_items.newIterator
 refine QT (wpAny_dictEntries Bb Bc (QT (wpAny_dictEpoch Bb Bc ?_)))
 simp only [own,if_true]
 refine wpAny_newObj_type (QU ⟨_,rfl,"dict_itemiterator",_,⟨_,Qd _ rfl,rfl⟩,F.slot_dict_itemiterator_next.lookup,?_⟩) (by simp only [sizeOk,Builtin.Dict_items.ownedTupleFields,List.size_toArray,Qk,List.length_cons,List.length_nil,QL];omega)
 simpa [rawInt,Builtin.Dict_items.ownedTupleFields] using hQ
theorem lW (d:Addr) (hd:(d==sysModules)=false):
  MeetsIn P w (Builtin.«dict.items» ⟨[.ref d],[]⟩) (fun _ R s=>s.TypeIs (.ref d) "dict"/\R (.ok (.ret (.ref s.heap.objs.size))) {s with heap:=s.heap.push {cls:=.type "dict_items",data:=.fields #[.ref d]}}):=
 .of_wp fun A R s ⟨hm,h⟩=>by
  unfold Builtin.«dict.items» Builtin.Dict.noArgs
  refine QT (QT (wpAny_notOrdered_dict hm ?_))
  show wpAny _ _ (pure d) _ _ s
  refine QU ?_
  show wpAny _ _ (Builtin.Dict.showsAll d >>=_) _ _ s
  unfold Builtin.Dict.showsAll
  rw [if_neg (fun hz=>Bool.false_ne_true (hd.symm.trans hz))]
  exact QT (QU (QT (wpAny_newObj_type (QU ⟨_,rfl,h⟩))))
def WH (te:TE):TI:=fun σ H R=>te σ H fun x H1=>∃ a kvs o,x=.ref a/\H1 a=some (.au o (.dT kvs))/\R (EX a o kvs) H1
theorem xA (ho:SE X o to) (nc:attributeBase o "items" X.env (eval o X.env)=eval o X.env:=by rfl) (ni:(apos.endLine==cpos.line)=true:=by rfl):
  SI X (.Tuple Bw k Aa) (.Call (.Attribute o "items" apos) [] [] cpos) (WH to):=by
 constructor
 intro pins s σ H R I h
 refine wpAny_Call_method0_late nc ni (av (ho.h pins s σ H _ I h) ?_)
 rintro v s1 ⟨x,H1,I1,r1,a,kvs,o,ex,hH,q⟩
 subst ex
 cases r1
 obtain ⟨e,z,EB,xs,rel,ob,es,ep,h1,h2,hd,h4,h5⟩:=(show bx X.prog X.w _ s1.heap a (.au o (.dT kvs)) from I1.hok a _ hH)
 rw [e] at h1;cases h1
 have hl:=Paired.length rel
 have hsz:es.size=kvs.length:=by rw [<- Array.length_toList,h4,Ql];exact hl.symm
 have hT:s1.TypeIs (.ref a) "dict":=⟨o,e,h2.1⟩
 refine ⟨"dict","dict.items",PySem.F.plainAttrs_dict,PySem.F.slot_dict_items,PySem.F.type_dict_items,hT,fun b hb=>by cases hb;exact ⟨o,e,h2.2.1⟩,Calls.callWith_builtin rfl (PySem.evalArgs_none ?_)⟩
 refine call_meetsIn PySem.F.slot_dict_items hT PySem.F.entry_dict_items (PySem.F.args_dict_items_1 _) (lW a EB) ⟨hT,?_⟩
 have I3:Inv X pins σ H1 {s1 with heap:=s1.heap.push {cls:=.type "dict_items",data:=.fields #[.ref a]}}:=I1.kept (t':=s1.toks) fun b o e=>Qc _ e
 refine kF (es:=es) (ep:=ep) ⟨_,Qd _ rfl,rfl,rfl⟩ (Qc _ e) hd ?_
 have iq:a≠(s1.heap.push {cls:=.type "dict_items",data:=.fields #[.ref a]}).objs.size:=by
  rw [Heap.size_push];exact Nat.ne_of_lt (Nat.lt_succ_of_lt (Qz e))
 refine ⟨_,[(s1.heap.push {cls:=.type "dict_items",data:=.fields #[.ref a]}).objs.size],_,_,_,rfl,I3.kept (t':=s1.toks) fun b o e=>Qc _ e,pD (kvs:=kvs) (a:=a) (o:=o) iq ⟨es,hd⟩,⟨.none,.none,by rw [<- hsz];exact Qd _ rfl⟩,fun b hb=>?_,q⟩
 have e:b=(s1.heap.push {cls:=.type "dict_items",data:=.fields #[.ref a]}).objs.size:=by simpa using hb
 subst e
 exact I3.z_ (Qy _) (I3.hok.fresh (Qy _))
end
section
variable {o:Expr}
end
abbrev CL:=List (Str×(Int×Int))
def getL (L:CL) (e:Str):Int×Int:=((L.find? fun x=>decide (x.1=e)).map (·.2)).getD (0,0)
def putL (L:CL) (e:Str) (p:Int×Int):CL:=if (L.any fun x=>decide (x.1=e))=true then L.map (fun x=>if x.1=e then (x.1,p) else x) else L++[(e,p)]
abbrev WI (H:Hp) (kv:Key×V) (x:Str×(Int×Int)):Prop:=kv.1=.inr x.1/\∃ b,kv.2=.ref b/\H b=some (.tup [.int x.2.1,.int x.2.2])
abbrev CV (H:Hp):List (Key×V)->CL->Prop:=Paired (WI H)
theorem CV.get {kvs:List (Key×V)} {L:CL} (h:CV H kvs L) (e:Str):(bh kvs (.inr e)=none/\e ∉ L.map (·.1)/\getL L e=(0,0))\/∃ b,bh kvs (.inr e)=some (.ref b)/\e∈L.map (·.1)/\H b=some (.tup [.int (getL L e).1,.int (getL L e).2]):=by
 induction h with
 | nil=>exact .inl ⟨rfl,by simp,rfl⟩
 | @cons kv x ks xs a _ ih=>
  obtain ⟨e1,b,h1,h2⟩:=a
  by_cases hx:x.1=e
  ·refine .inr ⟨b,?_,by simp [hx],?_⟩
   ·rw [bU (by rw [e1,hx]),h1]
   ·have g:getL (x::xs) e=x.2:=by simp [getL,List.find?_cons,hx]
    rw [g];exact h2
  ·have g:getL (x::xs) e=getL xs e:=by simp [getL,List.find?_cons,hx]
   have ne:¬kv.1=Sum.inr e:=fun z=>hx (Sum.inr.inj (e1.symm.trans z))
   rw [g,bT ne]
   rcases ih with ⟨i1,i2,i3⟩ | ⟨b',i1,i2,i3⟩
   ·exact .inl ⟨i1,by simp only [List.map_cons,Qp,not_or];exact ⟨fun z=>hx z.symm,i2⟩,i3⟩
   ·exact .inr ⟨b',i1,by simp only [List.map_cons,Qp];exact .inr i2,i3⟩
theorem Paired.snoc {β:Type} {R:α->β->Prop} {xs:List α} {ys:List β} (h:Paired R xs ys) {x:α} {y:β} (r:R x y):Paired R (xs++[x]) (ys++[y]):=by
 induction h with
 | nil=>exact .cons r .nil
 | cons a _ ih=>exact .cons a ih
theorem CV.put {kvs:List (Key×V)} {L:CL} (h:CV H kvs L) (e:Str) {p:Int×Int} (hb:H b=some (.tup [.int p.1,.int p.2])):CV H (putK kvs (.inr e) (.ref b)) (putL L e p):=by
 rcases h.get e with ⟨h1,h2,_⟩ | ⟨b',h1,h2,h3⟩
 ·rw [L2.cG _ h1]
  unfold putL
  rw [if_neg fun q=>by
   obtain ⟨x,hx,q⟩:=List.any_eq_true.mp q
   exact h2 (List.mem_map.mpr ⟨x,hx,Qt q⟩)]
  exact Paired.snoc h ⟨rfl,b,rfl,hb⟩
 ·have a1:(kvs.any fun kv=>decide (kv.1=(Sum.inr e:Key)))=true:=by rw [cA,h1];rfl
  have a2:(L.any fun x=>decide (x.1=e))=true:=by
   obtain ⟨x,hx,q⟩:=List.mem_map.mp h2
   exact List.any_eq_true.mpr ⟨x,hx,Qv q⟩
  unfold putK putL
  rw [if_pos a1,if_pos a2]
  clear h1 h2 h3 a1 a2
  induction h with
  | nil=>exact .nil
  | @cons kv x ks xs a _ ih=>
   rw [List.map_cons,List.map_cons]
   refine .cons ?_ ih
   obtain ⟨e1,b1,e2,e3⟩:=a
   by_cases hx:x.1=e
   ·rw [if_pos hx,if_pos (by rw [e1,hx])]
    exact ⟨e1,b,rfl,hb⟩
   ·rw [if_neg hx,if_neg fun z=>hx (Sum.inr.inj (e1.symm.trans z))]
    exact ⟨e1,b1,e2,e3⟩
theorem xO {rows:List ak} {e:Str} (h:endOf rows e=e):ky rows (aq rows e)=yc rows e:=by
 unfold ky yc b_
 rw [h,Qn];rfl
theorem tI {K:Q0} {a b:Nat} {T:Addr} {v1 v2:V} {Q:St->Hp->Prop} (h:ae K H T [v1,v2]) (q:Q ((σ.set a (some v1)).set b (some v2)) H):g2 K a b (.ref T) σ H Q:=
 ⟨T,_,rfl,h,rfl,_,_,rfl,_,_,rfl,rfl,q⟩
theorem Paired.at {β:Type} {R:α->β->Prop} {xs:List α} {ys:List β} (h:Paired R xs ys):∀ i (h1:i < xs.length) (h2:i < ys.length),R xs[i] ys[i]:=by
 induction h with
 | nil=>intro i h1;exact absurd h1 (by simp)
 | cons a _ ih=>
  intro i h1 h2
  cases i with
  | zero=>exact a
  | succ i=>exact ih i (by simpa using h1) (by simpa using h2)
theorem fg.same {H H':Hp} {a:Addr} {y:V} {r:Option V} (g:fg H a y r) (s:aa H H'):fg H' a y r:=by
 rcases g with ⟨kvs,k,h1,h2,h3⟩ | ⟨kvs,k,b,h1,h2,h3,h4⟩
 ·exact .inl ⟨kvs,k,h1.same s,h2,h3⟩
 ·exact .inr ⟨kvs,k,b,h1.same s,h2,h3.same s,h4⟩
section
variable {t1 i1 t2 i2 elt:Expr} {pos:Pos} {Vt:TI} {g2:TG}
end
section
variable {d:Addr} {od:Obj} {es:Array DictEntry} {Q:Option Value->Shared->Prop}
end
section
variable {o:Expr}
end
section
variable {a:Expr} {p p2 pos aaB:Pos}
end
abbrev Road:=List (List Str)
def Ny (rows:List ak):Nat->Str->List (Road×Str)
 | 0,e=>[([],e)]
 | n+1,e=>(b_ rows e).flatMap fun m=>(Ny rows n m.2).map fun q=>(m.1::q.1,q.2)
def allR (rows:List ak) (n:Nat) (e:Str):List Road:=(Ny rows n e).map (·.1)
section
variable {xs:List V} {rows:List ak}
end
section
variable {pos:Pos}
theorem Nz {op:Operator} {ti:D0} {pos':Pos} (hN:X.N.Nodup) (hi:X.N[i]? =some x) (hx:Loc X.env.scope x) (he:SE X e te) (ho:Im X op ti) (hf:X.fn x=true\/X.env.scope.names.lookup x=some .local:=by first | exact .inl rfl | exact .inr rfl | assumption):
  SS X (.AugAssign (.Name x pos') op e pos) (LZ i te ti):=⟨RY hN hi hx he.h ho hf⟩
theorem WJ (K:Q0) {o:Expr} {id:String} {r:V->List V->Hp->VK->Prop} (pa:PlainAttrs T) (slot:Slot T name id) (Ae:typeOf (.builtin id)=pure (.type "method_descriptor")) (hm:CS X id r) (ho:SE X o to) (h:X.K=K:=by rfl)
  (nc:attributeBase o name X.env (eval o X.env)=eval o X.env:=by rfl) (ni:(apos.endLine==cpos.line)=true:=by rfl):SE X (.Call (.Attribute o name apos) [] [] cpos) (Mi K T r to):=by
 subst h;exact ⟨TF pa slot Ae hm ho.h nc ni⟩
end
abbrev GW:=List (Str×Option (Str×List Str))
def WK (row:Str) (cb:GW) (ms:List (List Str×Str)):GW:=ms.foldl (fun cb m=>if m.2∈cb.map (·.1) then cb else cb++[(m.2,some (row,m.1))]) cb
def Dk (rows:List ak) (f:Str):Nat->GW
 | 0=>[(f,none)]
 | i+1=>match (Dk rows f i)[i]? with
  | none=>Dk rows f i
  | some c=>WK c.1 (Dk rows f i) (b_ rows c.1)
theorem mN:∀ {l m:List Str},l.Nodup->(∀ x∈l,x∈m)->l.length<=m.length
 | [],m,_,_=>Nat.zero_le _
 | a::l,m,nd,h=>by
  have ha:=h a List.mem_cons_self
  have h1:=mN (l:=l) (m:=m.erase a) (List.nodup_cons.mp nd).2 fun x hx=>(List.mem_erase_of_ne (show x≠a from fun z=>(List.nodup_cons.mp nd).1 (by rw [<- z];exact hx))).mpr (h x (Qh _ hx))
  rw [List.length_erase_of_mem ha] at h1
  have hp:=List.length_pos_of_mem ha
  rw [List.length_cons]
  omega
section
variable {iter kx vx:Expr} {pos:Pos} {tk tw:TE}
end
structure SL (H:Hp) (us:List V) (ss:List (List Str×Str)):Prop where
 len:us.length=ss.length
 at_:∀ i (h:i < us.length) (h':i < ss.length),∃ c b,us[i]=.ref c/\H c=some (.tup [.ref b,.str ss[i].2])/\aj H b (ss[i].1.map V.str)
theorem SL.nil:SL H [] []:=⟨rfl,fun i h=>absurd h (by simp)⟩
structure Jz (H0 H:Hp) (kvs:List (Key×V)) (R:List Str) (f:Str->List (List Str×Str)):Prop where
 len:kvs.length=R.length
 at_:∀ i (h:i < kvs.length) (h':i < R.length),kvs[i].1=.inr R[i]/\∃ l us,kvs[i].2=.ref l/\H0 l=none/\H l=some (.lst us)/\SL H us (f R[i])
 inj:∀ i j (hi:i < kvs.length) (hj:j < kvs.length),kvs[i].2=kvs[j].2->i=j
theorem Jz.put {kvs:List (Key×V)} {R:List Str} {f:Str->List (List Str×Str)} (h:Jz H0 H kvs R f) {e:Str} (jk:H0 l=none) (hl:H l=some (.lst [])) (iq:∀ i (hi:i < kvs.length),kvs[i].2≠.ref l) (hf:f e=[]):Jz H0 H (kvs++[(.inr e,.ref l)]) (R++[e]) f:=by
 have fi:=h.len
 refine ⟨by simp [fi],fun i h1 h2=>?_,fun i j hi hj he=>?_⟩
 ·by_cases ao:i < kvs.length
  ·rw [Qe ao,Qe (by omega)]
   exact h.at_ i ao (by omega)
  ·have e':i=kvs.length:=by simp at h1;omega
   subst e'
   rw [Qf (Qy _),Qf (by omega)]
   simp only [Nat.sub_self,fi,List.getElem_cons_zero]
   exact ⟨trivial,l,[],rfl,jk,hl,by rw [hf];exact SL.nil⟩
 ·simp only [Qk,List.length_cons,List.length_nil] at hi hj
  by_cases ao:i < kvs.length<;>by_cases GX:j < kvs.length
  ·rw [Qe ao,Qe GX] at he
   exact h.inj i j ao GX he
  ·have ej:j=kvs.length:=by omega
   subst ej
   rw [Qe ao,Qf (Qy _)] at he
   simp only [Nat.sub_self,List.getElem_cons_zero] at he
   exact absurd he (iq i ao)
  ·have ei:i=kvs.length:=by omega
   subst ei
   rw [Qe GX,Qf (Qy _)] at he
   simp only [Nat.sub_self,List.getElem_cons_zero] at he
   exact absurd he.symm (iq j GX)
  ·omega
def NB (rows:List ak) (e:Str) (k:Nat):Prop:=allR rows k e≠[]/\allR rows (k+1) e=[]
def pb (hs:List (Str×Nat)) (wt:List Str) (y:Str):Bool:=decide (y∈hs.map (·.1))&& !decide (y∈wt)
structure HJ (rows:List ak) (R:List Str) (x:Str) (p:Str->Bool) (cnt:Str->Int) (S:List (List Str×Str)) (un:Str->Int) (hs:List (Str×Nat)) (wt:List Str):Prop where
 nd:(hs.map (·.1)).Nodup
 sub:∀ y∈hs.map (·.1),y∈R
 wn:wt.Nodup
 ws:∀ y∈wt,y∈hs.map (·.1)
 pp:∀ y,pb hs wt y=(p y||decide (y=x))
 WL:∀ r∈R,un r=cnt r - (S.countP (fun q=>decide (q.2=r)):Int)
 z:∀ r∈R,r∈hs.map (·.1)↔un r=0
 snd:∀ q∈hs,NB rows q.1 q.2
theorem HJ.put {rows:List ak} {R:List Str} {p:Str->Bool} {cnt un:Str->Int} {S:List (List Str×Str)} {hs:List (Str×Nat)} {wt:List Str} (h:HJ rows R x p cnt S un hs wt) {q:List Str×Str} (hq:q.2∈R) (h1:1<=un q.2) (h2:un q.2 - 1=0) {k:Nat} (hk:NB rows q.2 k):HJ rows R x p cnt (S++[q]) (fun y=>if y=q.2 then un y - 1 else un y) (hs++[(q.2,k)]) (wt++[q.2]):=by
 have AM:q.2 ∉ hs.map (·.1):=fun z=>by have:=(h.z _ hq).mp z;omega
 have JA:q.2 ∉ wt:=fun z=>AM (h.ws _ z)
 refine ⟨?_,fun y hy=>?_,?_,fun y hy=>?_,fun y=>?_,fun r hr=>?_,fun r hr=>?_,fun q' vn=>?_⟩
 ·rw [Qm,List.nodup_append]
  refine ⟨h.nd,by simp,fun a ha b hb=>?_⟩
  rw [List.map_cons,List.map_nil,List.mem_singleton] at hb
  exact fun z=>AM (by rw [z,hb] at ha;exact ha)
 ·rw [Qm] at hy
  rcases List.mem_append.mp hy with hy | hy
  ·exact h.sub y hy
  ·rw [List.map_cons,List.map_nil,List.mem_singleton] at hy
   rw [hy];exact hq
 ·rw [List.nodup_append]
  refine ⟨h.wn,by simp,fun a ha b hb=>?_⟩
  rw [List.mem_singleton] at hb
  subst hb
  exact fun z=>JA (z▸ha)
 ·rw [Qm]
  rcases List.mem_append.mp hy with hy | hy
  ·exact List.mem_append.mpr (.inl (h.ws y hy))
  ·rw [List.mem_singleton.mp hy];exact List.mem_append.mpr (.inr (by simp))
 ·rw [<- h.pp y]
  unfold pb
  by_cases e:y=q.2
  ·subst e
   simp [AM]
  ·have e1:decide (y∈(hs++[(q.2,k)]).map (·.1))=decide (y∈hs.map (·.1)):=by
    rw [Qm]
    by_cases hh:y∈hs.map (·.1)
    ·rw [Qv hh,Qv (List.mem_append.mpr (.inl hh))]
    ·rw [Qw hh,Qw fun z=>?_]
     rcases List.mem_append.mp z with z | z
     ·exact hh z
     ·rw [List.map_cons,List.map_nil,List.mem_singleton] at z;exact e z
   have e2:decide (y∈wt++[q.2])=decide (y∈wt):=by
    by_cases hh:y∈wt<;>simp [hh,e]
   rw [e1,e2]
 ·have:=h.WL r hr
  rw [List.countP_append]
  by_cases e:r=q.2
  ·subst e;simp;omega
  ·have e':q.2≠r:=fun z=>e z.symm
   simp [e,e'];omega
 ·have:=h.z r hr
  rw [Qm]
  by_cases e:r=q.2
  ·subst e
   simp only [if_true]
   exact ⟨fun _=>h2,fun _=>List.mem_append.mpr (.inr (by simp))⟩
  ·simp only [e,if_false]
   rw [<- this]
   constructor
   ·intro z
    rcases List.mem_append.mp z with z | z
    ·exact z
    ·rw [List.map_cons,List.map_nil,List.mem_singleton] at z;exact absurd z e
   ·exact fun z=>List.mem_append.mpr (.inl z)
 ·rcases List.mem_append.mp vn with z | z
  ·exact h.snd q' z
  ·rw [List.mem_singleton.mp z];exact hk
def hv (hs:List (Str×Nat)) (y:Str):Nat:=((hs.find? fun q=>decide (q.1=y)).map (·.2)).getD 0
theorem fh.add (x:fh P w H h) (hn:H a=none) (new:bx P w (upd H a o) h a o):fh P w (upd H a o) h:=fun b u e=>by
 by_cases hb:b=a
 ·subst hb;rw [aA] at e;cases e;exact new
 ·rw [aE hb] at e
  exact (x b u e).stay (fun c v _ q=>q) (fun c q=>by rw [aE (aO q hn)];exact q) fun c xs q=>q.upd fun u hu=>aO hu hn
section
variable {o:Expr} {p WM:Pos}
end
section
variable {o f:Expr} {td ty tx:TE}
end
abbrev LR:=List (Str×Road)
def WO (acc:LR) (r:Str):Road:=((acc.find? fun q=>decide (q.1=r)).map (·.2)).getD []
def NC (acc:LR):Option (Str×List Str)->Road
 | none=>[]
 | some q=>WO acc q.1++[q.2]
def JB (cb:GW):LR:=cb.foldl (fun acc c=>acc++[(c.1,NC acc c.2)]) []
def ye (A:Around) (s:Shared) (y x:Value) (b:Bool):Prop:=
 ∀ (prog:Program) (w:World) (E:Value->Shared->Prop) (Q:Value->Shared->Prop),Q (.bool b) s->wpAny (model prog w) A (richCompare .Lt y x) Q E s
theorem uI (l b:Addr) (items items2:Array Value) (n n2:Nat) (dd AK:Option Addr) (sl AL:Array (Option Value)) (e:Nat->Bool) (j:Nat) (c:Bool):
  Meets (Builtin.«tuple.__lt__» ⟨[.ref l,.ref b],[]⟩)
   (fun A R s=>s.heap.get? l=some {cls:=.type "tuple",dict:=dd,data:=.seq items n,slots:=sl}/\s.heap.get? b=some {cls:=.type "tuple",dict:=AK,data:=.seq items2 n2,slots:=AL}/\
    (∃ (h1:j < items.size) (h2:j < items2.size),(∀ i (g1:i < items.size) (g2:i < items2.size),i<=j->SeqAt.EqAt A.in1 s items[i] items2[i] (e i))/\(∀ i,i < j->e i=true)/\e j=false/\ye A.in1 s items[j] items2[j] c)/\
    R (.ok (.ret (.bool c))) s):=
 .of_wp fun prog w A R s h=>by
  obtain ⟨hp,g,d,tk,os⟩:=s;obtain ⟨hl,hb,⟨Gz,hj2,he,ao,JC,hc⟩,h⟩:=h
  have f2:=AutoSeq1.sub_tuple_tuple
  have hZ:(items.toList.zip items2.toList).length=min items.size items2.size:=by simp
  wp_walk using wpAny_loadPart' hl,wpAny_loadPart' hb,wpAny_forIn_list _ (fun rest b s'=>b.1=none/\s'=⟨hp,g,d,tk,os⟩/\∃ i,rest=(items.toList.zip items2.toList).drop i/\i<=j) _
  case turn=>
   rintro ⟨y,x⟩ rest b s' ⟨hb',rfl,i,hz,hR⟩
   have GY:i < (items.toList.zip items2.toList).length:=by
    rcases Nat.lt_or_ge i (items.toList.zip items2.toList).length with h' | h'
    ·exact h'
    ·rw [List.drop_of_length_le h'] at hz;cases hz
   have hm:i < min items.size items2.size:=hZ▸GY
   have h1:i < items.size:=Nat.lt_of_lt_of_le hm (Nat.min_le_left _ _)
   have h2:i < items2.size:=Nat.lt_of_lt_of_le hm (Nat.min_le_right _ _)
   rw [List.drop_eq_getElem_cons GY] at hz
   injection hz with ND WQ
   have hy:y=items[i]:=by have:=congrArg Prod.fst ND;simpa using this
   have hx:x=items2[i]:=by have:=congrArg Prod.snd ND;simpa using this
   subst hy hx
   refine QT (he i h1 h2 hR prog w _ _ ?_)
   by_cases rm:i=j
   ·subst rm
    rw [JC]
    rw [if_pos (by rfl)]
    refine QT (wpAny_rule (QT (hc prog w _ _ ?_)))
    wp_walk
    exact ⟨_,rfl,h⟩
   ·rw [ao i (by omega)]
    wp_walk
    exact ⟨rfl,rfl,i+1,WQ,by omega⟩
  case fin=>
   rintro ⟨b1,b2⟩ s' ⟨hb',rfl,i,hz,hR⟩
   exfalso
   rcases Nat.lt_or_ge i (items.toList.zip items2.toList).length with h' | h'
   ·rw [List.drop_eq_getElem_cons h'] at hz;cases hz
   ·rw [hZ] at h';omega
  case h=>
   exact ⟨rfl,rfl,0,rfl,by omega⟩
theorem ye.tuples {items items2:Array Value} {e:Nat->Bool} {c:Bool} (hl:s.heap.IsTuple l items) (hb:s.heap.IsTuple b items2) (hu:A.units < cLine) (h1:j < items.size) (h2:j < items2.size)
  (he:∀ i (g1:i < items.size) (g2:i < items2.size),i<=j->SeqAt.EqAt A.in1 s items[i] items2[i] (e i)) (ao:∀ i,i < j->e i=true) (JC:e j=false) (hc:ye A.in1 s items[j] items2[j] c):ye A s (.ref l) (.ref b) c:=fun prog w E Q h=>by
 obtain ⟨⟨cls,dd,data,sl⟩,ho,kh,n,hd⟩:=id hl
 obtain ⟨⟨Mf,AK,data2,AL⟩,vo,lh,n2,hd2⟩:=id hb
 simp only at kh hd lh hd2
 subst kh hd lh hd2
 exact richCompare_meets_room (op:=.Lt) ⟨_,ho,rfl⟩ ⟨_,vo,rfl⟩ F.slot_tuple_lt F.entry_tuple_lt (F.args_tuple_lt_2 _ _) (uI l b items items2 n n2 dd AK sl AL e j c)
  ⟨ho,vo,⟨h1,h2,he,ao,JC,hc⟩,show Value.bool c≠Value.notImplemented/\Q (.bool c) s from ⟨(fun x=>nomatch x),h⟩⟩ hu
def pe (xs ys:List Str):Prop:=∃ j,∃ (h1:j < xs.length) (h2:j < ys.length),(∀ i (g1:i < xs.length) (g2:i < ys.length),i < j->xs[i]=ys[i])/\xs[j]≠ys[j]/\decide (ys[j].cps.toList < xs[j].cps.toList)=false
def Dl (r q:Road):Prop:=∃ j,∃ (h1:j < r.length) (h2:j < q.length),(∀ i (g1:i < r.length) (g2:i < q.length),i < j->r[i]=q[i])/\r[j]≠q[j]/\pe r[j] q[j]
theorem ye.str {A:Around} {s:Shared} (i j:Str) (t t':Tok):ye A s (.str i t) (.str j t') (decide (i.cps.toList < j.cps.toList)):=fun prog w E Q h=>lt_str h
theorem yH (I:Inv X pins σ H s) {xs ys:List Str} (h1:aj H a (xs.map V.str)) (h2:aj H b (ys.map V.str)) (ao:pe xs ys) (hu:A.units+2 < cLine):ye A s (.ref b) (.ref a) false:=by
 obtain ⟨j,j1,j2,Ag,iq,hl⟩:=ao
 obtain ⟨i1,r1,p1,_⟩:=I.tuple (.inl h1)
 obtain ⟨i2,r2,p2,_⟩:=I.tuple (.inl h2)
 have l1:=r1.length
 have l2:=r2.length
 rw [Ql] at l1 l2
 have Cb:∀ i (g:i < i1.toArray.size) (k:i < xs.length),∃ t,i1.toArray[i]=.str xs[i] t:=fun i g k=>by
  obtain ⟨w1,e1,q1⟩:=r1.get (i:=i) (x:=.str xs[i]) (by simp [k])
  obtain ⟨t,rfl⟩:=q1
  exact ⟨t,by rw [Qa (by simpa using g)] at e1;simpa using e1⟩
 have Cc:∀ i (g:i < i2.toArray.size) (k:i < ys.length),∃ t,i2.toArray[i]=.str ys[i] t:=fun i g k=>by
  obtain ⟨w1,e1,q1⟩:=r2.get (i:=i) (x:=.str ys[i]) (by simp [k])
  obtain ⟨t,rfl⟩:=q1
  exact ⟨t,by rw [Qa (by simpa using g)] at e1;simpa using e1⟩
 refine ye.tuples (e:=fun i=>ys.getD i ""==xs.getD i "") (j:=j) p2 p1 (by omega) (by simp;omega) (by simp;omega) (fun i g1 g2 hi=>?_) (fun i hi=>?_) ?_ ?_
 ·have k1:i < xs.length:=by simp at g2;omega
  have k2:i < ys.length:=by simp at g1;omega
  obtain ⟨t1,e1⟩:=Cb i g2 k1
  obtain ⟨t2,e2⟩:=Cc i g1 k2
  rw [e1,e2]
  have:=SeqAt.EqAt.str_str (A:=A.in1) (s:=s) ys[i] t2 xs[i] t1
  simpa [Qb,Qa k1,Qa k2] using this
 ·have k1:i < xs.length:=by omega
  have k2:i < ys.length:=by omega
  simp [Qb,Qa k1,Qa k2,Ag i k1 k2 hi]
 ·simp [Qb,Qa j1,Qa j2,Ne.symm iq]
 ·obtain ⟨t1,e1⟩:=Cb j (by simp;omega) j1
  obtain ⟨t2,e2⟩:=Cc j (by simp;omega) j2
  rw [e1,e2,<- hl]
  exact ye.str _ _ _ _
theorem yO (I:Inv X pins σ H s) {xs ys:List V} {r q:Road} (h1:H a=some (.tup xs)) (h2:H b=some (.tup ys)) (v1:SV H xs r) (v2:SV H ys q) (ao:Dl r q) (hu:A.units+4 < cLine):ye A s (.ref b) (.ref a) false:=by
 obtain ⟨j,j1,j2,Ag,iq,hl⟩:=ao
 obtain ⟨i1,r1,p1,_⟩:=I.tuple (ae.of h1)
 obtain ⟨i2,r2,p2,_⟩:=I.tuple (ae.of h2)
 have l1:=r1.length
 have l2:=r2.length
 have k1:=v1.len
 have k2:=v2.len
 have Cb:∀ i (g:i < i1.toArray.size) (k:i < r.length),∃ c,i1.toArray[i]=.ref c/\aj H c (r[i].map V.str):=fun i g k=>by
  obtain ⟨c,e1,m1⟩:=v1.at_ i (by omega) k
  obtain ⟨w1,f1,q1⟩:=r1.get (Qa (show i < xs.length by omega))
  rw [e1] at q1
  cases q1
  exact ⟨c,by rw [Qa (by simpa using g)] at f1;simpa using f1,m1⟩
 have Cc:∀ i (g:i < i2.toArray.size) (k:i < q.length),∃ c,i2.toArray[i]=.ref c/\aj H c (q[i].map V.str):=fun i g k=>by
  obtain ⟨c,e1,m1⟩:=v2.at_ i (by omega) k
  obtain ⟨w1,f1,q1⟩:=r2.get (Qa (show i < ys.length by omega))
  rw [e1] at q1
  cases q1
  exact ⟨c,by rw [Qa (by simpa using g)] at f1;simpa using f1,m1⟩
 refine ye.tuples (e:=fun i=>decide (q.getD i []=r.getD i [])) (j:=j) p2 p1 (by omega) (by simp;omega) (by simp;omega) (fun i g1 g2 hi=>?_) (fun i hi=>?_) ?_ ?_
 ·have m1:i < r.length:=by simp at g2;omega
  have m2:i < q.length:=by simp at g1;omega
  obtain ⟨c1,e1,t1⟩:=Cb i g2 m1
  obtain ⟨c2,e2,t2⟩:=Cc i g1 m2
  rw [e1,e2]
  have:=vG I t2 t1 (A:=A.in1) (by rw [Around.in1_units];omega)
  simpa [Qb,Qa m1,Qa m2] using this
 ·have m1:i < r.length:=by omega
  have m2:i < q.length:=by omega
  simp [Qb,Qa m1,Qa m2,Ag i m1 m2 hi]
 ·simp [Qb,Qa j1,Qa j2,Ne.symm iq]
 ·obtain ⟨c1,e1,t1⟩:=Cb j (by simp;omega) j1
  obtain ⟨c2,e2,t2⟩:=Cc j (by simp;omega) j2
  rw [e1,e2]
  exact yH I t1 t2 hl (A:=A.in1) (by rw [Around.in1_units];omega)
theorem xR (I:Inv X pins σ H s) {xs ys:List V} {r q:Road} (h1:H a=some (.tup xs)) (h2:H b=some (.tup ys)) (v1:SV H xs r) (v2:SV H ys q) (ao:Dl r q) (hu:A.units+4 < cLine):SeqAt.EqAt A s (.ref b) (.ref a) false:=by
 obtain ⟨j,j1,j2,Ag,iq,hl⟩:=ao
 obtain ⟨i1,r1,p1,_⟩:=I.tuple (ae.of h1)
 obtain ⟨i2,r2,p2,_⟩:=I.tuple (ae.of h2)
 have l1:=r1.length
 have l2:=r2.length
 have k1:=v1.len
 have k2:=v2.len
 have lu:b≠a:=fun z=>by
  subst z
  rw [h1] at h2
  cases h2
  obtain ⟨c,e1,m1⟩:=v1.at_ j (by omega) j1
  obtain ⟨c',e2,m2⟩:=v2.at_ j (by omega) j2
  rw [e1] at e2
  cases e2
  exact iq (kQ (m1.inj m2))
 have Cb:∀ i (g:i < i1.toArray.size) (k:i < r.length),∃ c,i1.toArray[i]=.ref c/\aj H c (r[i].map V.str):=fun i g k=>by
  obtain ⟨c,e1,m1⟩:=v1.at_ i (by omega) k
  obtain ⟨w1,f1,q1⟩:=r1.get (Qa (show i < xs.length by omega))
  rw [e1] at q1
  cases q1
  exact ⟨c,by rw [Qa (by simpa using g)] at f1;simpa using f1,m1⟩
 have Cc:∀ i (g:i < i2.toArray.size) (k:i < q.length),∃ c,i2.toArray[i]=.ref c/\aj H c (q[i].map V.str):=fun i g k=>by
  obtain ⟨c,e1,m1⟩:=v2.at_ i (by omega) k
  obtain ⟨w1,f1,q1⟩:=r2.get (Qa (show i < ys.length by omega))
  rw [e1] at q1
  cases q1
  exact ⟨c,by rw [Qa (by simpa using g)] at f1;simpa using f1,m1⟩
 have:=SeqAt.RcAt.tuples (A:=A) (e:=fun i=>decide (q.getD i []=r.getD i [])) p2 p1 (by omega) fun i g1 g2=>by
  have m1:i < r.length:=by simp at g2;omega
  have m2:i < q.length:=by simp at g1;omega
  obtain ⟨c1,e1,t1⟩:=Cb i g2 m1
  obtain ⟨c2,e2,t2⟩:=Cc i g1 m2
  rw [e1,e2]
  have:=vG I t2 t1 (A:=A.in1) (by rw [Around.in1_units];omega)
  simpa [Qb,Qa m1,Qa m2] using this
 have e:((List.range (min i2.toArray.size i1.toArray.size)).all (fun i=>decide (q.getD i []=r.getD i []))&&i2.toArray.size==i1.toArray.size)=false:=by
  have ha:(List.range (min i2.toArray.size i1.toArray.size)).all (fun i=>decide (q.getD i []=r.getD i []))=false:=by
   rw [List.all_eq_false]
   refine ⟨j,List.mem_range.mpr (by simp;omega),?_⟩
   simp [Qb,Qa j1,Qa j2,Ne.symm iq]
  rw [ha];rfl
 rw [e] at this
 exact SeqAt.EqAt.of_refs lu this
end L2
namespace L2
open PySem PySem.Spec PyProof.Rows PySem.W
theorem zS {cmp:Nat->Nat->(Bool->Shared->Prop)->Shared->Prop} {N:Nat} {s:Shared} {G:Nat->Shared->Prop} (hc:∀ k,1<=k->k < N->∀ C:Bool->Shared->Prop,C false s->cmp k (k - 1) C s) (hG:G N s):
  ∀ f m,1<=m->m+f=N->(kas_asc (List.toArray (List.range N)) f m).kasWp cmp G s
 | 0,m,h1,h=>by
  have:m=N:=by omega
  subst this
  exact hG
 | f+1,m,h1,h=>by
  have e1:(List.toArray (List.range N)).getD m 0=m:=by simp [Array.getD,show m < N by omega]
  have e2:(List.toArray (List.range N)).getD (m - 1) 0=m - 1:=by simp [Array.getD,show m - 1 < N by omega]
  show (KasT.ask ((List.toArray (List.range N)).getD m 0) ((List.toArray (List.range N)).getD (m - 1) 0) fun c=>if c=true then .ret m else kas_asc (List.toArray (List.range N)) f (m+1)).kasWp cmp G s
  rw [e1,e2]
  exact hc m h1 (by omega) _ (zS hc hG f (m+1) (by omega) (by omega))
theorem n5 {R:Value->Value->Prop}:∀ its:List Value,(∀ v∈its,∃ f,R v f)->∃ fs,Paired R its fs
 | [],_=>⟨[],.nil⟩
 | v::its,h=>by
  obtain ⟨f,hf⟩:=h v List.mem_cons_self
  obtain ⟨fs,WR⟩:=n5 its fun v' hv=>h v' (Qh _ hv)
  exact ⟨f::fs,.cons hf WR⟩
theorem uG {fs:List Value} (p:Paired (fun v f=>∃ a o xs n,v=Value.ref a/\h.get? a=some o/\o.cls=Value.type "tuple"/\o.data=.seq xs n/\xs[0]? =some f) vs fs):KatTups h vs fs:=by
 induction p with
 | nil=>trivial
 | cons a _ ih=>exact ⟨a,ih⟩
theorem rV {β:Type} {R R':α->β->Prop} (h:∀ a b,R a b->R' a b) {l:List α} {m:List β} (p:Paired R l m):Paired R' l m:=by
 induction p with
 | nil=>exact .nil
 | cons a _ ih=>exact .cons (h _ _ a) ih
theorem oI {β:Type} {R:α->β->Prop} {P:β->Prop} (h:∀ a b,R a b->P b) {l:List α} {m:List β} (p:Paired R l m):∀ b∈m,P b:=by
 induction p with
 | nil=>intro b hb;cases hb
 | cons a _ ih=>
  intro b hb
  rcases Qp.mp hb with rfl | hb
  ·exact h _ _ a
  ·exact ih b hb
end L2
namespace L2
open PySem PySem.Spec PyProof.Rows
def dd (seen:List Str):List (Road×Str)->LR
 | []=>[]
 | q::P=>if q.2∈seen then dd seen P else (q.2,q.1)::dd (seen++[q.2]) P
structure QI (rows:List ak) (f:Str) (i:Nat) (found:LR) (P:List (Road×Str)):Prop where
 fd:found=(JB (Dk rows f i)).take i
 pd:dd (found.map (·.1)) P=(JB (Dk rows f i)).drop i
theorem QI.start (rows:List ak) (f:Str):QI rows f 0 [] [([],f)]:=⟨by simp,by simp [dd,Dk,JB,NC]⟩
theorem rG {a b:Str} (h:qw a b=true):a≠b/\decide (b.cps.toList < a.cps.toList)=false:=by
 unfold qw at h
 have h1:=Qt h
 refine ⟨fun z=>?_,Qw fun h2=>?_⟩
 ·subst z;exact List.lt_irrefl _ h1
 ·exact List.lt_irrefl _ (List.lt_trans h1 h2)
theorem pe.ne {xs ys:List Str} (h:pe xs ys):xs≠ys:=fun z=>by
 subst z
 obtain ⟨j,h1,h2,_,h3,_⟩:=h
 exact h3 rfl
theorem yV (w:Str) {a b:Str} (h:qw a b=true):pe [w,a] [w,b]:=by
 obtain ⟨h1,h2⟩:=rG h
 refine ⟨1,by simp,by simp,fun i g1 g2 hi=>?_,h1,h2⟩
 have:i=0:=by omega
 subst this;rfl
theorem WS:pe ["from"] ["to"]:=⟨0,by simp,by simp,fun i g1 g2 hi=>absurd hi (by omega),by decide,by decide⟩
theorem xQ:∀ {h:Hd},h.ok ns->h.bz.Pairwise fun m m'=>pe m.1 m'.1
 | .one _,_=>.nil
 | .as _,_=>.nil
 | .way x y,_=>by
  show List.Pairwise _ [((["from"]:List Str),x),(["to"],y)]
  exact .cons (fun m hm=>by rw [List.mem_singleton.mp hm];exact WS) (.cons (fun m hm=>nomatch hm) .nil)
 | .prs s ps,ok=>by
  show List.Pairwise _ (ps.map fun p=>(([if s="box" then "part" else "case",p.1]:List Str),p.2))
  rw [List.pairwise_map]
  have:=jK ok.2.2.1
  rw [List.pairwise_map] at this
  exact this.imp fun h=>yV _ h
end L2
namespace L2
open PySem PySem.Spec PyProof.Rows PySem.W
section
variable {o:Expr} {p WM:Pos}
end
end L2
namespace L2
open PySem PySem.Spec PyProof.Rows
section
variable {d:Addr} {od:Obj} {es:Array DictEntry} {Q:Option Value->Shared->Prop}
end
section
variable {a b:Expr} {ta tb:TE} {pos:Pos}
end
inductive Th where
 | pick (w:Str) (t:Th)
 | box (ps:List (Str×Th))
section
variable {rows:List ak} {e:Str}
end
theorem WT {β:Type} {ps:List (α×β)} (nd:(ps.map (·.1)).Nodup) {z:α} {t t':β} (h:(z,t)∈ps) (h':(z,t')∈ps):t=t':=by
 obtain ⟨i,hi,e⟩:=Qi h
 obtain ⟨j,hj,e'⟩:=Qi h'
 have rm:i=j:=by
  refine (List.getElem_inj (h₀:=by simpa using hi) (h₁:=by simpa using hj) nd).mp ?_
  simp [e,e']
 subst rm
 rw [e] at e'
 exact (Prod.mk.inj e').2
structure PD (R:V->Th->Prop) (ws:List Str) (kvs:List (Key×V)):Prop where
 all:∀ q∈kvs,∃ z t,q.1=.inr z/\z∈ws/\R q.2 t
 nd:(kvs.map (·.1)).Nodup
section
variable {R R':V->Th->Prop} {kvs NE:List (Key×V)}
theorem PD.len (h:PD R ws kvs):kvs.length<=ws.length:=by
 have hc:∀ q:Key×V,∃ z:Str,q∈kvs->q.1=.inr z/\z∈ws:=fun q=>by
  by_cases hq:q∈kvs
  ·obtain ⟨z,t,h1,h2,_⟩:=h.all q hq;exact ⟨z,fun _=>⟨h1,h2⟩⟩
  ·exact ⟨"",fun z=>absurd z hq⟩
 obtain ⟨f,hf⟩:=Classical.axiomOfChoice hc
 have:=mN (l:=kvs.map f) (m:=ws) ?_ ?_
 ·simpa using this
 ·refine List.pairwise_map.mpr ((List.pairwise_map.mp h.nd).imp_of_mem fun {a b} ha hb lu e=>lu ?_)
  rw [(hf a ha).1,(hf b hb).1,e]
 ·intro z hz
  obtain ⟨q,hq,rfl⟩:=List.mem_map.mp hz
  exact (hf q hq).2
theorem PD.put (h:PD R ws kvs) {v:V} {t:Th} (hz:z∈ws) (hv:R v t):PD R ws (putK kvs (.inr z) v):=by
 cases e:bh kvs (.inr z) with
 | none=>
  refine ⟨fun q hq=>?_,vK _ h.nd e⟩
  rw [L2.cG _ e] at hq
  rcases List.mem_append.mp hq with hq | hq
  ·exact h.all q hq
  ·rw [List.mem_singleton.mp hq];exact ⟨z,t,rfl,hz,hv⟩
 | some u=>
  have ha:(kvs.any fun kv=>decide (kv.1=.inr z))=true:=by rw [cA,e];rfl
  unfold putK
  rw [if_pos ha]
  refine ⟨fun q hq=>?_,?_⟩
  ·obtain ⟨q',h1,rfl⟩:=List.mem_map.mp hq
   by_cases hk:q'.1=.inr z
   ·rw [if_pos hk];exact ⟨z,t,hk,hz,hv⟩
   ·rw [if_neg hk];exact h.all q' h1
  ·have ee:(kvs.map fun kv=>if kv.1=.inr z then (kv.1,v) else kv).map (·.1)=kvs.map (·.1):=by
    rw [Qn]
    refine List.map_congr_left fun q _=>?_
    show (if q.1=.inr z then (q.1,v) else q).1=q.1
    split<;>rfl
   rw [ee];exact h.nd
end
theorem vF {k:Nat} (hr:fu k A):A.units+10 < cLine:=by have:=hr.un;omega
theorem WU {p:Prop} (h:¬p):(false=true↔p):=⟨(fun z=>nomatch z),fun z=>absurd z h⟩
theorem rP {κ:Type} [DecidableEq κ] {kvs:List (κ×V)} {k:κ}:(bh kvs k).isSome=true↔k∈kvs.map (·.1):=by
 rw [<- cA,List.any_eq_true]
 constructor
 ·rintro ⟨p,hp,h⟩;exact List.mem_map.mpr ⟨p,hp,Qt h⟩
 ·intro h
  obtain ⟨p,hp,rfl⟩:=List.mem_map.mp h
  exact ⟨p,hp,Qv rfl⟩
theorem yT {κ:Type} [DecidableEq κ] {kvs:List (κ×V)} {k k':κ} {v:V}:k'∈(putK kvs k v).map (·.1)↔k'∈kvs.map (·.1)\/k'=k:=by
 cases e:bh kvs k with
 | none=>
  rw [L2.cG _ e,Qm,List.mem_append]
  simp
 | some u=>
  have ha:(kvs.any fun kv=>decide (kv.1=k))=true:=by rw [cA,e];rfl
  unfold putK
  rw [if_pos ha]
  have ee:(kvs.map fun kv=>if kv.1=k then (kv.1,v) else kv).map (·.1)=kvs.map (·.1):=by
   rw [Qn]
   refine List.map_congr_left fun q _=>?_
   show (if q.1=k then (q.1,v) else q).1=q.1
   split<;>rfl
  rw [ee]
  constructor
  ·exact .inl
  ·rintro (h | h)
   ·exact h
   ·rw [h];exact kM e
theorem ae.su {K:Q0} {xs:List V} (h:aj H a xs):ae K H a xs:=.inl h
theorem JD {s:Str} {A B:Prop} (ht:s≠z->A) (hf:s=z->B):if (true^^decide (V.str s=V.str z))=true then A else B:=by
 by_cases h:s=z
 ·rw [Qv (congrArg V.str h)];exact hf h
 ·rw [Qw fun e=>h (V.str.inj e)];exact ht h
theorem yU (P:Program) (w:World) (hu:X.A.units+10 < cLine) (hP:X.prog=P:=by rfl) (hw:X.w=w:=by rfl):c_ X (compareOp .NotIn) (Nt P w true):=by subst hP hw;exact Wo hu
theorem WV (P:Program) (w:World) {o:Expr} (hu:X.A.units+10 < cLine) (ho:SE X o to) (ha:SE X e te) (hP:X.prog=P:=by rfl) (hw:X.w=w:=by rfl)
  (nc:attributeBase o "add" X.env (eval o X.env)=eval o X.env:=by rfl)
  (Af:((backTo cpos (starEach [e] X.env)).all (fun x=> !x.1)&&(backToKw cpos (keywordEach [] X.env)).all (fun x=>x.1.isSome)
   &&decide ([e].length+([]:List Keyword).length+(if ([]:List Keyword).isEmpty then 0 else 1) < 30))=true:=by rfl)
  (ni:(apos.endLine==cpos.line)=true:=by rfl) (hs:starEach [e] X.env=(false,eval e X.env)::starEach [] X.env:=by rfl):
  SE X (.Call (.Attribute o "add" apos) [e] [] cpos) (Nu P w to te):=by subst hP hw;exact Wp hu ho ha nc Af ni hs
def fj (rows:List ak) (ns:List Str):Prop:=∃ H a xs ws,RT H a xs rows ns ws/\∀ z∈ws,Wd z
section
variable {rows:List ak}
theorem RT.ia {xs:List V} (rt:RT H a xs rows ns ws) (hw:∀ z∈ws,Wd z):fj rows ns:=⟨H,a,xs,ws,rt,hw⟩
theorem fj.stay (g:fj rows ns) {x:Str} (hx:x∈ns):jm rows ns (endOf rows x):=let ⟨_,_,_,_,rt,hw⟩:=g;rt.stay hw hx
theorem fj.yd (g:fj rows ns) {e:Str} (h:jm rows ns e):(e,aq rows e)∈bj rows/\(aq rows e).ok ns:=let ⟨_,_,_,_,rt,hw⟩:=g;rt.yd hw h
theorem fj.jl (g:fj rows ns) {e e':Str} {s:List Str} (h:jm rows ns e) (m:L2.jl rows e s=some e'):jm rows ns e':=let ⟨_,_,_,_,rt,hw⟩:=g;rt.jl hw h m
theorem fj.few (g:fj rows ns):ns.length<=14:=let ⟨_,_,_,_,rt,hw⟩:=g;rt.few
theorem fj.Di (g:fj rows ns):((bj rows).map (·.1)).Nodup:=let ⟨_,_,_,_,rt,hw⟩:=g;rt.Di
theorem fj.jw (g:fj rows ns):(rows.map (·.1)).Nodup:=let ⟨_,_,_,_,rt,hw⟩:=g;rt.jw
theorem fj.nm (g:fj rows ns) (x:Str):x∈rows.map (·.1)↔x∈ns:=let ⟨_,_,_,_,rt,hw⟩:=g;rt.nm.mem_iff
theorem fj.ai (g:fj rows ns) (x:Str):x∈(bj rows).map (·.1)↔jm rows ns x:=by
 constructor
 ·intro h
  obtain ⟨r,hr,rfl⟩:=List.mem_map.mp h
  obtain ⟨h1,h2⟩:=List.mem_filter.mp hr
  refine ⟨(g.nm _).mp (List.mem_map.mpr ⟨r,h1,rfl⟩),cX _ ?_⟩
  show (aq rows r.1).nx=none
  rw [cR g.jw h1]
  simpa using h2
 ·intro h
  exact List.mem_map.mpr ⟨_,(g.yd h).1,rfl⟩
end
def stH (h:Hd):List (List Str):=h.bz.map (·.1)
def Dm (H:Hp) (b:Addr) (h:Hd):Prop:=∃ c us,H b=some (.tup [.str h.br,.ref c])/\H c=some (.tup us)/\SV H us (stH h)
theorem Dm.same {H H':Hp} {b:Addr} {h:Hd} (m:Dm H b h) (s:aa H H'):Dm H' b h:=let ⟨c,us,e1,e2,e3⟩:=m;⟨c,us,s _ _ e1,s _ _ e2,e3.same s⟩
structure Dn (K:Q0) (mg:Str->Option Value) (H:Hp) (n:Addr) (rows:List ak) (ns:List Str):Prop where
 at_:∃ dx fs d1 d3 d4,H n=some (.ins (adr mg "Net") dx fs)/\fs.lookup ("rows":Str)=some (V.ref d1)/\fs.lookup ("marks":Str)=some (V.ref d3)/\fs.lookup ("moves":Str)=some (V.ref d4)/\
  (∀ x,x∈ns->fg H d1 (.str x) (some (.str (endOf rows x))))/\
  (∀ e,jm rows ns e->∃ b,fg H d3 (.str e) (some (.ref b))/\Dm H b (aq rows e))/\(∀ e,¬jm rows ns e->fg H d3 (.str e) none)/\
  (∀ e,jm rows ns e->∃ m o,fg H d4 (.str e) (some (.ref m))/\H m=some (.au o (.dT (yc rows e))))
theorem Dn.same {K:Q0} {mg:Str->Option Value} {H H':Hp} {n:Addr} {rows:List ak} {ns:List Str} (h:Dn K mg H n rows ns) (s:aa H H'):Dn K mg H' n rows ns:=by
 obtain ⟨dx,fs,d1,d3,d4,h0,h1,h2,h3,h4,h5,h6,h7⟩:=h.at_
 exact ⟨dx,fs,d1,d3,d4,s _ _ h0,h1,h2,h3,fun x hx=>(h4 x hx).same s,fun e he=>let ⟨b,q1,q2⟩:=h5 e he;⟨b,q1.same s,q2.same s⟩,fun e he=>(h6 e he).same s,fun e he=>let ⟨m,o,q1,q2⟩:=h7 e he;⟨m,o,q1.same s,s _ _ q2⟩⟩
theorem Jx.GZ {K:Q0} {n:Addr} {rows:List ak} (h:Jx H (adr mg "Net") n rows) (g:fj rows ns):Dn K mg H n rows ns:=by
 obtain ⟨dx,fs,en,⟨⟨d1,o1,a1,a2⟩,_,⟨d3,o3,k3,c1,c2,c3⟩,⟨d4,o4,k4,e1,e2,e3⟩⟩⟩:=h
 refine ⟨dx,fs,d1,d3,d4,en,a1,c1,e1,fun x hx=>?_,fun e he=>?_,fun e he=>?_,fun e he=>?_⟩
 ·rw [<- nH g.jw ((g.nm x).mpr hx)]
  exact fg.rd (k:=Sum.inr x) (.inr ⟨o1,a2⟩)
 ·obtain ⟨v,h1,b,c,us,rfl,h2,h3,h4⟩:=c3.get g.Di (g.yd he).1
  exact ⟨b,by rw [<- h1];exact fg.rd (k:=Sum.inr e) (.inr ⟨o3,c2⟩),c,us,h2,h3,h4⟩
 ·have hn:bh k3 (.inr e)=none:=by
   cases hv:bh k3 (.inr e) with
   | none=>rfl
   | some u=>
    have:=kM hv
    rw [c3.keys] at this
    obtain ⟨r,hr,e'⟩:=List.mem_map.mp this
    exact absurd ((g.ai e).mp (List.mem_map.mpr ⟨r,hr,Sum.inr.inj e'⟩)) he
  rw [<- hn]
  exact fg.rd (k:=Sum.inr e) (.inr ⟨o3,c2⟩)
 ·obtain ⟨v,h1,m,o,rfl,h2⟩:=e3.get g.Di (g.yd he).1
  refine ⟨m,o,by rw [<- h1];exact fg.rd (k:=Sum.inr e) (.inr ⟨o4,e2⟩),?_⟩
  rw [xO he.2] at h2
  exact h2
theorem j7 {rows:List ak} {e:Str} {s:List Str} (he:endOf rows e=e) (hs:s∈stH (aq rows e)):∃ e',jl rows e s=some e':=by
 unfold jl b_
 rw [he]
 obtain ⟨m,hm,rfl⟩:=List.mem_map.mp hs
 cases hf:List.find? (fun m':List Str×Str=>decide (m'.1=m.1)) ((aq rows e).bz.map fun m=>(m.1,endOf rows m.2)) with
 | some q=>exact ⟨q.2,rfl⟩
 | none=>
  have:=List.find?_eq_none.mp hf (m.1,endOf rows m.2) (List.mem_map.mpr ⟨m,hm,rfl⟩)
  simp at this
theorem mL {rows:List ak} {e:Str} (he:endOf rows e=e):(b_ rows e).map (·.1)=stH (aq rows e):=by unfold b_ stH;rw [he];simp [Qn,QB]
theorem rH {rows:List ak} {e:Str} (nd:((b_ rows e).map (·.1)).Nodup) {m:List Str×Str} (hm:m∈b_ rows e):jl rows e m.1=some m.2:=by
 unfold jl
 cases hf:(b_ rows e).find? (fun m'=>decide (m'.1=m.1)) with
 | none=>
  have:=List.find?_eq_none.mp hf m hm
  simp at this
 | some q=>
  have h1:=List.mem_of_find?_eq_some hf
  have h2:q.1=m.1:=by simpa using List.find?_some hf
  have h3:(m.1,q.2)∈b_ rows e:=by rw [<- h2];exact h1
  exact congrArg some (WT nd h3 (show (m.1,m.2)∈b_ rows e from hm))
theorem fj.EY {rows:List ak} (g:fj rows ns) {e:Str} (he:jm rows ns e):((b_ rows e).map (·.1)).Nodup:=by
 rw [mL he.2];exact zG (g.yd he).2
theorem fM {α:Type} [DecidableEq α]:∀ {l m:List α},l.Nodup->(∀ x∈l,x∈m)->l.length<=m.length
 | [],m,_,_=>Nat.zero_le _
 | a::l,m,nd,h=>by
  have ha:=h a List.mem_cons_self
  have h1:=fM (l:=l) (m:=m.erase a) (List.nodup_cons.mp nd).2 fun x hx=>(List.mem_erase_of_ne (show x≠a from fun z=>(List.nodup_cons.mp nd).1 (by rw [<- z];exact hx))).mpr (h x (Qh _ hx))
  rw [List.length_erase_of_mem ha] at h1
  have hp:=List.length_pos_of_mem ha
  rw [List.length_cons]
  omega
theorem mX {α:Type} (f:α->Nat) (c:Nat):∀ l:List α,(∀ x∈l,f x=c)->(l.map f).sum=l.length*c
 | [],_=>by simp
 | a::l,h=>by
  rw [List.map_cons,List.sum_cons,mX f c l fun x hx=>h x (Qh _ hx),h a List.mem_cons_self,List.length_cons,Nat.add_mul]
  omega
theorem SV.rev {xs:List V} (h:SV H xs ss):SV H xs.reverse ss.reverse:=by
 have hl:=h.len
 refine ⟨by simp [hl],fun i h1 h2=>?_⟩
 rw [List.getElem_reverse,List.getElem_reverse]
 have:=h.at_ (xs.length - 1 - i) (by simp at h1;omega) (by simp at h2;omega)
 simpa [hl] using this
def h_ (tr:List (Option (Nat×List Str))):Nat->Nat->List (List Str)
 | 0,_=>[]
 | n+1,i=>match tr[i]? with
  | some (some (j,s))=>h_ tr n j++[s]
  | _=>[]
def G0 (tr:List (Option (Nat×List Str))):Prop:=∀ (k j:Nat) (s:List Str),tr[k]? =some (some (j,s))->j < k
def EZ (H:Hp) (v:V):Option (Nat×List Str)->Prop
 | none=>v=.ai
 | some q=>∃ b c,v=.ref b/\H b=some (.tup [.int (q.1:Int),.ref c])/\aj H c (q.2.map V.str)
structure v_ (H:Hp) (vs:List V) (tr:List (Option (Nat×List Str))):Prop where
 len:vs.length=tr.length
 at_:∀ i (h:i < vs.length) (h':i < tr.length),EZ H vs[i] tr[i]
theorem EZ.keep {v:V} {o:Option (Nat×List Str)} (h:EZ H v o) (s:Tk H H') (s2:∀ b ys,aj H b ys->aj H' b ys):EZ H' v o:=by
 cases o with
 | none=>exact h
 | some q=>
  obtain ⟨t,b,h1,h2,h3⟩:=h
  exact ⟨t,b,h1,s _ _ h2,s2 _ _ h3⟩
theorem v_.keep {H H':Hp} {vs:List V} {tr:List (Option (Nat×List Str))} (h:v_ H vs tr) (s:Tk H H') (s2:∀ b ys,aj H b ys->aj H' b ys):v_ H' vs tr:=⟨h.len,fun i a b=>(h.at_ i a b).keep s s2⟩
theorem v_.same {H H':Hp} {vs:List V} {tr:List (Option (Nat×List Str))} (h:v_ H vs tr) (s:aa H H'):v_ H' vs tr:=h.keep s.ts fun b ys r=>r.same s
theorem v_.snoc {vs:List V} (h:v_ H vs tr) {v:V} {o:Option (Nat×List Str)} (e:EZ H v o):v_ H (vs++[v]) (tr++[o]):=by
 have hl:=h.len
 refine ⟨by simp [hl],fun i h1 h2=>?_⟩
 by_cases ao:i < vs.length
 ·rw [Qe ao,Qe (by omega)]
  exact h.at_ i ao (by omega)
 ·have e':i=vs.length:=by simp at h1;omega
  subst e'
  rw [Qf (Qy _),Qf (by omega)]
  simp only [Nat.sub_self,hl,List.getElem_cons_zero]
  exact e
theorem jq.keep {xs:List V} (h:jq H xs ji) (s:∀ b ys,aj H b ys->aj H' b ys):jq H' xs ji:=⟨h.1,fun i a b=>let ⟨c,e1,e2⟩:=h.2 i a b;⟨c,e1,s _ _ e2⟩⟩
inductive Tv where
 | s (z:Str)
 | i (n:Int)
 | t (l:List Tv)
def TD (H:Hp):Nat->V->Tv->Prop
 | _,.str z,.s z'=>z=z'
 | _,.int k,.i j=>k=j
 | n+1,.ref a,.t ds=>∃ xs,aj H a xs/\xs.length=ds.length/\∀ j (h:j < xs.length) (h':j < ds.length),TD H n xs[j] ds[j]
 | _,_,_=>False
structure iz (H:Hp) (n:Nat) (xs:List V) (ds:List Tv):Prop where
 len:xs.length=ds.length
 at_:∀ j (h:j < xs.length) (h':j < ds.length),TD H n xs[j] ds[j]
theorem TD.str {n:Nat} {z:Str}:TD H n (.str z) (.s z):=by cases n<;>rfl
theorem TD.int {n:Nat} {z:Int}:TD H n (.int z) (.i z):=by cases n<;>rfl
theorem TD.tup {n:Nat} {a:Addr} {xs:List V} {ds:List Tv} (h:aj H a xs) (t:iz H n xs ds):TD H (n+1) (.ref a) (.t ds):=⟨xs,h,t.len,t.at_⟩
theorem iz.nil:iz H n [] []:=⟨rfl,fun i h=>absurd h (by simp)⟩
theorem iz.cons {n:Nat} {x:V} {d:Tv} {xs:List V} {ds:List Tv} (h:TD H n x d) (t:iz H n xs ds):iz H n (x::xs) (d::ds):=⟨by simp [t.len],fun i h1 h2=>by
 cases i with
 | zero=>exact h
 | succ i=>exact t.at_ i (by simpa using h1) (by simpa using h2)⟩
theorem TD.wc {d:Tv} (h:TD H n (.ref a) d):∃ m ds xs,n=m+1/\d=.t ds/\aj H a xs/\iz H m xs ds:=by
 cases n with
 | zero=>cases d<;>exact h.elim
 | succ n=>
  cases d with
  | t ds=>obtain ⟨xs,h1,h2,h3⟩:=h;exact ⟨n,ds,xs,rfl,rfl,h1,h2,h3⟩
  | _=>exact h.elim
theorem TD.Ao {d:Tv} (h:TD H n (.str z) d):d=.s z:=by
 cases n<;>(cases d with
  | s z'=>exact congrArg Tv.s (show z=z' from h).symm
  | _=>exact h.elim)
theorem TD.Aq {z:Int} {d:Tv} (h:TD H n (.int z) d):d=.i z:=by
 cases n<;>(cases d with
  | i z'=>exact congrArg Tv.i (show z=z' from h).symm
  | _=>exact h.elim)
theorem TD.v {n:Nat} {v:V} {d:Tv} (h:TD H n v d):(∃ z,v=.str z)\/(∃ z,v=.int z)\/∃ a,v=.ref a:=by
 cases n<;>(cases v<;>first | exact .inl ⟨_,rfl⟩ | exact .inr (.inl ⟨_,rfl⟩) | exact .inr (.inr ⟨_,rfl⟩) | (cases d<;>exact h.elim))
theorem TD.det:∀ {n m:Nat} {v:V} {d e:Tv},TD H n v d->TD H m v e->d=e
 | 0,m,v,d,e,h,h'=>by
  rcases h.v with ⟨z,rfl⟩ | ⟨z,rfl⟩ | ⟨a,rfl⟩
  ·rw [h.Ao,h'.Ao]
  ·rw [h.Aq,h'.Aq]
  ·obtain ⟨_,_,_,z,_⟩:=h.wc;cases z
 | n+1,m,v,d,e,h,h'=>by
  rcases h.v with ⟨z,rfl⟩ | ⟨z,rfl⟩ | ⟨a,rfl⟩
  ·rw [h.Ao,h'.Ao]
  ·rw [h.Aq,h'.Aq]
  ·obtain ⟨m1,ds,xs,e1,rfl,r1,t1⟩:=h.wc
   obtain ⟨m2,es,ys,e2,rfl,r2,t2⟩:=h'.wc
   cases e1
   have:=r1.inj r2
   subst this
   have l1:=t1.len
   have l2:=t2.len
   congr 1
   refine List.ext_getElem (by omega) fun i h1 h2=>?_
   exact TD.det (t1.at_ i (by omega) h1) (t2.at_ i (by omega) h2)
theorem iX {ds es:List Tv} {e:Nat->Bool} (hl:ds.length=es.length) (h:∀ j (h1:j < ds.length) (h2:j < es.length),e j=true↔ds[j]=es[j]):(List.range ds.length).all e=true↔ds=es:=by
 rw [List.all_eq_true]
 constructor
 ·intro ha
  exact List.ext_getElem hl fun i h1 h2=>(h i h1 h2).mp (ha i (List.mem_range.mpr h1))
 ·rintro rfl j hj
  have:=List.mem_range.mp hj
  exact (h j this this).mpr rfl
theorem TD.WX (I:Inv X pins σ H s):∀ {n:Nat} {m:Nat} {x y:V} {d e:Tv},TD H n x d->TD H m y e->∃ bo:Bool,(bo=true↔d=e)/\∀ (A:Around) (u v:Value),A.units+n < cLine->RelV x u->RelV y v->SeqAt.EqAt A s u v bo:=by
 intro n
 induction n with
 | zero=>
  intro m x y d e h h'
  rcases h.v with ⟨z,rfl⟩ | ⟨z,rfl⟩ | ⟨a,rfl⟩
  ·obtain rfl:=h.Ao
   rcases h'.v with ⟨z',rfl⟩ | ⟨z',rfl⟩ | ⟨b,rfl⟩
   ·obtain rfl:=h'.Ao
    exact ⟨z==z',by simp,fun A u v hu ru rv=>by obtain ⟨t,rfl⟩:=ru;obtain ⟨t',rfl⟩:=rv;exact SeqAt.EqAt.str_str z t z' t'⟩
   ·obtain rfl:=h'.Aq
    exact ⟨false,by simp,fun A u v hu ru rv=>by obtain ⟨t,rfl⟩:=ru;obtain ⟨t',rfl⟩:=rv;exact SeqAt.EqAt.str_int z t z' t'⟩
   ·obtain ⟨_,ds,xs,rfl,rfl,r1,_⟩:=h'.wc
    refine ⟨false,by simp,fun A u v hu ru rv=>?_⟩
    obtain ⟨t,rfl⟩:=ru
    cases rv
    obtain ⟨i1,_,p1,_⟩:=I.tuple (ae.su r1)
    exact SeqAt.EqAt.str_tuple z t p1 (by omega)
  ·obtain rfl:=h.Aq
   rcases h'.v with ⟨z',rfl⟩ | ⟨z',rfl⟩ | ⟨b,rfl⟩
   ·obtain rfl:=h'.Ao
    exact ⟨false,by simp,fun A u v hu ru rv=>by obtain ⟨t,rfl⟩:=ru;obtain ⟨t',rfl⟩:=rv;exact SeqAt.EqAt.int_str z t z' t'⟩
   ·obtain rfl:=h'.Aq
    exact ⟨z==z',by simp,fun A u v hu ru rv=>by obtain ⟨t,rfl⟩:=ru;obtain ⟨t',rfl⟩:=rv;exact SeqAt.EqAt.int_int z t z' t'⟩
   ·obtain ⟨_,ds,xs,rfl,rfl,r1,_⟩:=h'.wc
    refine ⟨false,by simp,fun A u v hu ru rv=>?_⟩
    obtain ⟨t,rfl⟩:=ru
    cases rv
    obtain ⟨i1,_,p1,_⟩:=I.tuple (ae.su r1)
    exact SeqAt.EqAt.int_tuple z t p1 (by omega)
  ·obtain ⟨_,_,_,z,_⟩:=h.wc;cases z
 | succ n ih=>
  intro m x y d e h h'
  rcases h.v with ⟨z,rfl⟩ | ⟨z,rfl⟩ | ⟨a,rfl⟩
  ·obtain ⟨bo,h1,h2⟩:=ih (m:=m) (TD.str (n:=n) (z:=z)) h'
   rw [h.Ao]
   exact ⟨bo,h1,fun A u v hu=>h2 A u v (by omega)⟩
  ·obtain ⟨bo,h1,h2⟩:=ih (m:=m) (TD.int (n:=n) (z:=z)) h'
   rw [h.Aq]
   exact ⟨bo,h1,fun A u v hu=>h2 A u v (by omega)⟩
  ·obtain ⟨n',ds,xs,e1,rfl,r1,t1⟩:=h.wc
   cases e1
   rcases h'.v with ⟨z',rfl⟩ | ⟨z',rfl⟩ | ⟨b,rfl⟩
   ·obtain rfl:=h'.Ao
    refine ⟨false,by simp,fun A u v hu ru rv=>?_⟩
    obtain ⟨t,rfl⟩:=rv
    cases ru
    obtain ⟨i1,_,p1,_⟩:=I.tuple (ae.su r1)
    exact SeqAt.EqAt.tuple_str z' t p1 (by omega)
   ·obtain rfl:=h'.Aq
    refine ⟨false,by simp,fun A u v hu ru rv=>?_⟩
    obtain ⟨t,rfl⟩:=rv
    cases ru
    obtain ⟨i1,_,p1,_⟩:=I.tuple (ae.su r1)
    exact SeqAt.EqAt.tuple_int z' t p1 (by omega)
   ·obtain ⟨m',es,ys,rfl,rfl,r2,t2⟩:=h'.wc
    by_cases lu:a=b
    ·subst lu
     refine ⟨true,⟨fun _=>TD.det h h',fun _=>rfl⟩,fun A u v hu ru rv=>?_⟩
     cases ru
     cases rv
     exact SeqAt.EqAt.same _
    ·obtain ⟨i1,v1,p1,_⟩:=I.tuple (ae.su r1)
     obtain ⟨i2,v2,p2,_⟩:=I.tuple (ae.su r2)
     have l1:=v1.length
     have l2:=v2.length
     have k1:=t1.len
     have k2:=t2.len
     have hc:∀ j:Nat,∃ bo:Bool,∀ (h1:j < ds.length) (h2:j < es.length),(bo=true↔ds[j]=es[j])/\∀ (A:Around) (u v:Value),A.units+n < cLine->RelV (xs[j]'(by omega)) u->RelV (ys[j]'(by omega)) v->SeqAt.EqAt A s u v bo:=fun j=>by
      by_cases hj:j < ds.length/\j < es.length
      ·obtain ⟨bo,q1,q2⟩:=ih (t1.at_ j (by omega) hj.1) (t2.at_ j (by omega) hj.2)
       exact ⟨bo,fun _ _=>⟨q1,q2⟩⟩
      ·exact ⟨false,fun h1 h2=>absurd ⟨h1,h2⟩ hj⟩
     obtain ⟨ev,uv⟩:=Classical.axiomOfChoice hc
     refine ⟨(List.range (min i1.toArray.size i2.toArray.size)).all ev&&i1.toArray.size==i2.toArray.size,?_,fun A u v hu ru rv=>?_⟩
     ·have s1:i1.toArray.size=ds.length:=by simp;omega
      have s2:i2.toArray.size=es.length:=by simp;omega
      rw [s1,s2,Bool.and_eq_true]
      constructor
      ·rintro ⟨q1,q2⟩
       have hl:ds.length=es.length:=by simpa using q2
       rw [<- hl,Nat.min_self] at q1
       exact congrArg Tv.t ((iX hl fun j h1 h2=>(uv j h1 h2).1).mp q1)
      ·intro q
       have hq:ds=es:=by injection q
       have hl:ds.length=es.length:=by rw [hq]
       refine ⟨?_,by simp [hl]⟩
       rw [<- hl,Nat.min_self]
       exact (iX hl fun j h1 h2=>(uv j h1 h2).1).mpr hq
     ·cases ru
      cases rv
      refine SeqAt.EqAt.of_refs lu (SeqAt.RcAt.tuples (A:=A) (e:=ev) p1 p2 (by omega) fun j g1 g2=>?_)
      have j1:j < ds.length:=by simp at g1;omega
      have j2:j < es.length:=by simp at g2;omega
      obtain ⟨w1,f1,q1⟩:=v1.get (Qa (show j < xs.length by omega))
      obtain ⟨w2,f2,q2⟩:=v2.get (Qa (show j < ys.length by omega))
      have n1:i1.toArray[j]=w1:=by rw [Qa (by simpa using g1)] at f1;simpa using f1
      have n2:i2.toArray[j]=w2:=by rw [Qa (by simpa using g2)] at f2;simpa using f2
      rw [n1,n2]
      exact (uv j j1 j2).2 A.in1 w1 w2 (by rw [Around.in1_units];omega) q1 q2
theorem iz.JE (I:Inv X pins σ H s) {m:Nat} {xs ys:List V} {ds es:List Tv} (t1:iz H n xs ds) (t2:iz H m ys es):∃ ev:Nat->Bool,(∀ j (h1:j < ds.length) (h2:j < es.length),ev j=true↔ds[j]=es[j])/\∀ (i1 i2:List Value),be xs i1->be ys i2->∀ (A:Around),A.units+n+1 < cLine->∀ (j:Nat) (h1:j < i1.toArray.size) (h2:j < i2.toArray.size),SeqAt.EqAt A.in1 s i1.toArray[j] i2.toArray[j] (ev j):=by
 have k1:=t1.len
 have k2:=t2.len
 have hc:∀ j:Nat,∃ bo:Bool,∀ (h1:j < ds.length) (h2:j < es.length),(bo=true↔ds[j]=es[j])/\∀ (A:Around) (u v:Value),A.units+n < cLine->RelV (xs[j]'(by omega)) u->RelV (ys[j]'(by omega)) v->SeqAt.EqAt A s u v bo:=fun j=>by
  by_cases hj:j < ds.length/\j < es.length
  ·obtain ⟨bo,q1,q2⟩:=TD.WX I (t1.at_ j (by omega) hj.1) (t2.at_ j (by omega) hj.2)
   exact ⟨bo,fun _ _=>⟨q1,q2⟩⟩
  ·exact ⟨false,fun h1 h2=>absurd ⟨h1,h2⟩ hj⟩
 obtain ⟨ev,uv⟩:=Classical.axiomOfChoice hc
 refine ⟨ev,fun j h1 h2=>(uv j h1 h2).1,fun i1 i2 v1 v2 A hu j g1 g2=>?_⟩
 have l1:=v1.length
 have l2:=v2.length
 have j1:j < ds.length:=by simp at g1;omega
 have j2:j < es.length:=by simp at g2;omega
 obtain ⟨w1,f1,q1⟩:=v1.get (Qa (show j < xs.length by omega))
 obtain ⟨w2,f2,q2⟩:=v2.get (Qa (show j < ys.length by omega))
 have n1:i1.toArray[j]=w1:=by rw [Qa (by simpa using g1)] at f1;simpa using f1
 have n2:i2.toArray[j]=w2:=by rw [Qa (by simpa using g2)] at f2;simpa using f2
 rw [n1,n2]
 exact (uv j j1 j2).2 A.in1 w1 w2 (by rw [Around.in1_units];omega) q1 q2
def NF (ng:Bool):R2:=fun x y H Q=>∃ n m d e a b,n<=60/\x=.ref a/\y=.ref b/\TD H n x d/\TD H m y e/\∀ bo:Bool,(bo=true↔d=e)->Q (.bl (ng^^bo)) H
theorem NG {ds es:List Tv} {s1 s2:Nat} {ev:Nat->Bool} (h1:s1=ds.length) (h2:s2=es.length) (uv:∀ j (h1:j < ds.length) (h2:j < es.length),ev j=true↔ds[j]=es[j]):((List.range (min s1 s2)).all ev&&s1==s2)=true↔Tv.t ds=.t es:=by
 subst h1 h2
 rw [Bool.and_eq_true]
 constructor
 ·rintro ⟨q1,q2⟩
  have hl:ds.length=es.length:=by simpa using q2
  rw [<- hl,Nat.min_self] at q1
  exact congrArg Tv.t ((iX hl uv).mp q1)
 ·intro q
  have hq:ds=es:=by injection q
  have hl:ds.length=es.length:=by rw [hq]
  refine ⟨?_,by simp [hl]⟩
  rw [<- hl,Nat.min_self]
  exact (iX hl uv).mpr hq
theorem WY (hu:X.A.units+100 < cLine):c_ X (compareOp .Eq) (NF false):=by
 intro pins s σ H x y v u Q I rx ry h
 obtain ⟨n,m,d,e,a,b,hn,rfl,rfl,h1,h2,q⟩:=h
 cases rx
 cases ry
 obtain ⟨n',ds,xs,rfl,rfl,r1,t1⟩:=h1.wc
 obtain ⟨m',es,ys,rfl,rfl,r2,t2⟩:=h2.wc
 obtain ⟨i1,v1,p1,_⟩:=I.tuple (ae.su r1)
 obtain ⟨i2,v2,p2,_⟩:=I.tuple (ae.su r2)
 have l1:=v1.length
 have l2:=v2.length
 have k1:=t1.len
 have k2:=t2.len
 obtain ⟨ev,e1,e2⟩:=iz.JE I t1 t2
 refine SeqAt.RcAt.tuples (A:=X.A) (e:=ev) p1 p2 (by omega) (e2 i1 i2 v1 v2 X.A (by omega)) _ _ _ _ ?_
 refine ⟨.bl _,H,I,rfl,?_⟩
 have:=q _ (NG (s1:=i1.toArray.size) (s2:=i2.toArray.size) (by simp;omega) (by simp;omega) e1)
 rw [QE] at this
 exact this
theorem uQ (hu:X.A.units+100 < cLine):c_ X (compareOp .NotEq) (NF true):=by
 intro pins s σ H x y v u Q I rx ry h
 obtain ⟨n,m,d,e,a,b,hn,rfl,rfl,h1,h2,q⟩:=h
 cases rx
 cases ry
 obtain ⟨n',ds,xs,rfl,rfl,r1,t1⟩:=h1.wc
 obtain ⟨m',es,ys,rfl,rfl,r2,t2⟩:=h2.wc
 obtain ⟨i1,v1,p1,_⟩:=I.tuple (ae.su r1)
 obtain ⟨i2,v2,p2,_⟩:=I.tuple (ae.su r2)
 have l1:=v1.length
 have l2:=v2.length
 have k1:=t1.len
 have k2:=t2.len
 obtain ⟨ev,e1,e2⟩:=iz.JE I t1 t2
 refine SeqAt.RcNeAt.tuples (A:=X.A) (e:=ev) p1 p2 (by omega) (e2 i1 i2 v1 v2 X.A (by omega)) _ _ _ _ ?_
 refine ⟨.bl _,H,I,rfl,?_⟩
 have:=q _ (NG (s1:=i1.toArray.size) (s2:=i2.toArray.size) (by simp;omega) (by simp;omega) e1)
 rw [Bool.true_xor] at this
 exact this
def WZ (K:Q0) (ng:Bool):R2:=fun x y H Q=>∃ n m a b xs ys ds es,n<=60/\x=.ref a/\y=.ref b/\af K H a xs/\af K H b ys/\iz H n xs ds/\iz H m ys es/\∀ bo:Bool,(bo=true↔ds=es)->Q (.bl (ng^^bo)) H
theorem uM (K:Q0) (hu:X.A.units+100 < cLine) (hK:X.K=K:=by rfl):c_ X (compareOp .NotEq) (WZ K true):=by
 subst hK
 intro pins s σ H x y v u Q I rx ry h
 obtain ⟨n,m,a,b,xs,ys,ds,es,hn,rfl,rfl,h1,h2,t1,t2,q⟩:=h
 cases rx
 cases ry
 obtain ⟨i1,v1,p1,_⟩:=I.list h1
 obtain ⟨i2,v2,p2,_⟩:=I.list h2
 have l1:=v1.length
 have l2:=v2.length
 have k1:=t1.len
 have k2:=t2.len
 obtain ⟨ev,e1,e2⟩:=iz.JE I t1 t2
 have Gk:i1.toArray.size=ds.length:=by simp;omega
 have xf:i2.toArray.size=es.length:=by simp;omega
 by_cases hl:ds.length=es.length
 ·refine SeqAt.RcNeAt.lists (A:=X.A) (e:=ev) p1.isList p2.isList (by omega) (by omega) (e2 i1 i2 v1 v2 X.A (by omega)) _ _ _ _ ?_
  rw [Gk]
  exact ⟨.bl _,H,I,rfl,by have:=q _ (iX hl e1);rw [Bool.true_xor] at this;exact this⟩
 ·refine SeqAt.RcNeAt.lists_lengths (A:=X.A) p1.isList p2.isList (by rw [Gk,xf];simpa using hl) (by omega) _ _ _ _ ?_
  exact ⟨.bl _,H,I,rfl,by have:=q false ⟨(fun z=>nomatch z),fun z=>absurd (congrArg List.length z) hl⟩;rw [Bool.true_xor] at this;exact this⟩
theorem W0 {K:Q0} {cd:Value} {q:Str} (h:PySem.W.codeIn K cd q=true):PySem.W.kdsCode K cd=true:=by
 unfold PySem.W.codeIn at h
 unfold PySem.W.kdsCode
 split at h
 ·split at h
  ·rename_i hl;simp only [hl]
  ·cases h
 ·cases h
theorem dm.W1 {K:Q0} {st:Stmt} {k:Nat} (F:dm K mg x st ps) (S:fb N ps (bg st)) (len:∀ vs H Q E,sp vs H Q E->vs.length=ps.length)
  (xh:∀ (f:Addr) (a_:Value),PySem.W.kdsCode K a_=true->∀ (A:Around) (outer:List Env) (s:Shared) (H:Hp) (vs:List V) (Q:VK) (E:XK),fu k (A.deeper (envOfC x (bg st) s.heap.objs.size f a_))->sp vs H Q E->
   ∃ t,SB (yw y_ P w K mg base N x (bg st) f a_ A outer s H E).zq (kc st) t/\t {nx:=fun _ H'=>Q .ai H',rt:=Q} (start N vs) H):bc P w K mg base (k+1) x ps sp:=by
 obtain ⟨f,fd,Fu,m,b⟩:=F
 obtain ⟨oc,od,kV,doc,pm,an,a_,ct,mz,rfl,lk,ju⟩:=Fu.ex
 refine ⟨f,_,Me lk ju S len fun A outer s H vs Q E hr yx=>?_,m,Fu.kp,b,⟨oc,od,mz,lk⟩⟩
 obtain ⟨t,h,q⟩:=xh f a_ (W0 ju) A outer s H vs Q E hr yx
 exact ⟨t,h.h.zq,q⟩
section
variable {pos:Pos}
theorem vJ:SE X (.Dict [] [] pos) Mr:=⟨yG⟩
def W2 (P:Program) (w:World) (te:TE):TE:=fun σ H Q=>∀ S,H S=none->te σ (upd H S (jd P w S [])) fun x H1=>∃ b ks,x=.ref b/\aj H1 b (ks.map kV)/\H1 S=some (jd P w S [])/\Q (.ref S) (upd H1 S (jd P w S [(ks,b)]))
theorem W3 (P:Program) (w:World) (hu:X.A.units+10 < cLine) (hk:PySem.W.kdsCode X.K X.env.code=true) (he:SE X e te) (hP:X.prog=P:=by rfl) (hw:X.w=w:=by rfl) (hs:starEach [e] X.env=[(false,eval e X.env)]:=by rfl):SE X (.Set [e] 0 pos) (W2 P w te):=by
 subst hP hw
 constructor
 intro pins s σ H Q I q
 rw [arm_eval_Set]
 refine QT (wpAny_standAt (QT (PySem.W.kds_main I.iw hk fun b=>?_)))
 refine PySem.W.kds_core (by rfl) (by rw [hs];rfl) (by rw [hs];simp) rfl fun led=>?_
 rw [hs]
 have hn:=I.hok.fresh (Qy s.heap.objs.size)
 have I1:=I.laid (a:=s.heap.objs.size) (o:=jd X.prog X.w s.heap.objs.size []) (h':=s.heap.push {cls:=Value.type "set",data:=Data.set #[] 0 (SetTable.fresh 0 0 led)}) (t':=s.toks) (fun _ _ q=>Qc _ q) (Qy _) (sr.Ju (Wn (Qd _ rfl)))
 show wpAny _ _ (evalAll [(do let v <- eval e X.env;standAt pos;pure v)]) _ _ _
 refine wpAny_evalAll_cons (QT (av (he.h pins _ σ _ _ I1 (q _ hn)) fun u s1 ⟨x,H1,J1,r1,b',ks,ex,rd,hS,q1⟩=>QT (wpAny_standAt (QU (wpAny_evalAll_nil ?_)))))
 subst ex
 cases r1
 have hS':sr X.prog X.w H1 s.heap.objs.size []:=⟨hS,fun p hp=>nomatch hp⟩
 obtain ⟨h1,h2⟩:=hS'.real J1
 refine PySem.W.kds_fill_cons (mZ (by omega) h1 h2 (dA J1.hok rd) (by simp) (fun h tk _=>absurd h (by simp)) fun _ h' tk _ sb st=>PySem.W.kds_fill_nil rfl ?_)
 exact ⟨.ref s.heap.objs.size,_,J1.write (by rw [hS];trivial) (.inl rfl) (fun b u n e=>by rw [sb.2 b n];exact e) (let ⟨o,_,_,_,ho,_⟩:=st;⟨o,ho⟩) (sr.Ju st),rfl,q1⟩
end
abbrev Tg:=Str×Str
def ay (t:Tg):List Key:=[.inr t.1,.inr t.2]
theorem oF {t u:Tg} (h:ay t=ay u):t=u:=by
 obtain ⟨a,b⟩:=t
 obtain ⟨a',b'⟩:=u
 simp only [ay,List.cons.injEq,Sum.inr.injEq,and_true] at h
 obtain ⟨rfl,rfl⟩:=h
 rfl
theorem l8 {t:Tg} {ts:List Tg}:ay t∈ts.map ay↔t∈ts:=by
 constructor
 ·intro h
  obtain ⟨u,hu,e⟩:=List.mem_map.mp h
  rw [<- oF e];exact hu
 ·intro h;exact List.mem_map.mpr ⟨t,h,rfl⟩
abbrev AF:=Tg->Option Tg
end L2
variable {f:L2.AF} {U:List L2.Tg}
namespace L2
open PySem PySem.Spec PyProof.Rows
def jn (f:AF) (x y:Tg):AF:=fun z=>if z=x then some y else f z
inductive bq (f:AF):Tg->Tg->Prop where
 | top {x:Tg} (h:f x=none):bq f x x
 | up {x u r:Tg} (h:f x=some u) (t:bq f u r):bq f x r
theorem bq.root {x r:Tg} (h:bq f x r):f r=none:=by
 induction h with
 | top h=>exact h
 | up _ _ ih=>exact ih
theorem bq.Dp {x r r':Tg} (h:bq f x r) (h':bq f x r'):r=r':=by
 induction h with
 | top h=>
  cases h' with
  | top _=>rfl
  | up h1 _=>rw [h] at h1;cases h1
 | up h1 _ ih=>
  cases h' with
  | top h=>rw [h] at h1;cases h1
  | up h2 t=>rw [h1] at h2;cases h2;exact ih t
def mh (f:AF) (n:Nat):Prop:=∃ ρ:Tg->Nat,(∀ x y,f x=some y->ρ x < ρ y)/\∀ x,ρ x<=n
theorem mh.short (a:mh f n) {x u v:Tg} (h1:f x=some u) (h2:f u=some v):mh (jn f x v) n/\∀ z r,bq f z r->bq (jn f x v) z r:=by
 obtain ⟨ρ,p1,p2⟩:=a
 refine ⟨⟨ρ,fun z y h=>?_,p2⟩,fun z r h=>?_⟩
 ·unfold jn at h
  split at h
  ·rename_i hz
   cases h
   rw [hz]
   exact Nat.lt_trans (p1 _ _ h1) (p1 _ _ h2)
  ·exact p1 _ _ h
 ·have NH:u≠x:=fun e=>by have:=p1 _ _ h1;rw [e] at this;omega
  induction h with
  | @top z h=>
   refine .top ?_
   unfold jn
   rw [if_neg (fun e=>by rw [e,h1] at h;cases h)];exact h
  | @up z w r h t ih=>
   by_cases hz:z=x
   ·subst hz
    rw [h1] at h;cases h
    cases ih with
    | top h'=>unfold jn at h';rw [if_neg NH,h2] at h';cases h'
    | up h' t'=>
     unfold jn at h'
     rw [if_neg NH,h2] at h';cases h'
     exact .up (by unfold jn;rw [if_pos rfl]) t'
   ·exact .up (by unfold jn;rw [if_neg hz];exact h) ih
theorem mh.join (a:mh f n) {x y:Tg} (hx:f x=none) (hy:f y=none) (ne:x≠y):mh (jn f x y) (n+1)/\(∀ z r,bq f z r->bq (jn f x y) z (if r=x then y else r)):=by
 obtain ⟨ρ,p1,p2⟩:=a
 refine ⟨⟨fun z=>if z=y then n+1 else ρ z,fun z v h=>?_,fun z=>?_⟩,fun z r h=>?_⟩
 ·dsimp only
  unfold jn at h
  split at h
  ·rename_i hz
   cases h
   rw [if_pos rfl,if_neg (by rw [hz];exact ne)]
   have:=p2 z;omega
  ·have W4:z≠y:=fun e=>by rw [e,hy] at h;cases h
   rw [if_neg W4]
   have h1:=p1 _ _ h
   have h2:=p2 z
   split<;>omega
 ·dsimp only
  have:=p2 z
  split<;>omega
 ·induction h with
  | @top z h=>
   by_cases hz:z=x
   ·rw [if_pos hz]
    refine .up (u:=y) (by unfold jn;rw [if_pos hz]) (.top ?_)
    unfold jn;rw [if_neg ne.symm];exact hy
   ·rw [if_neg hz]
    exact .top (by unfold jn;rw [if_neg hz];exact h)
  | @up z w r h t ih=>
   have hz:z≠x:=fun e=>by rw [e,hx] at h;cases h
   exact .up (by unfold jn;rw [if_neg hz];exact h) ih
theorem gY (a:mh f n) (x:Tg):∃ r,bq f x r:=by
 obtain ⟨ρ,p1,p2⟩:=a
 have:∀ m x,n - ρ x<=m->∃ r,bq f x r:=by
  intro m
  induction m with
  | zero=>
   intro x hx
   cases h:f x with
   | none=>exact ⟨x,.top h⟩
   | some u=>have h1:=p1 _ _ h;have h2:=p2 u;omega
  | succ m ih=>
   intro x hx
   cases h:f x with
   | none=>exact ⟨x,.top h⟩
   | some u=>
    have h1:=p1 _ _ h
    have h2:=p2 u
    obtain ⟨r,hr⟩:=ih u (by omega)
    exact ⟨r,.up h hr⟩
 exact this _ x (Qy _)
structure gm (H:Hp) (D:Addr) (U:List Tg) (f:AF) (n:Nat):Prop where
 ex:∃ kvs:List (List Key×V),H D=some (.dT kvs)/\kvs.length=n/\(kvs.map (·.1)).Nodup/\(∀ k∈kvs.map (·.1),k∈U.map ay)/\∀ x,(bh kvs (ay x)=none/\f x=none)\/∃ b y,bh kvs (ay x)=some (.ref b)/\aj H b ((ay y).map kV)/\f x=some y/\y∈U
theorem rW:∀ {l m:List α},l.Nodup->(∀ x∈l,x∈m)->l.length<=m.length:=by
 classical
 intro l m h1 h2
 exact @fM α (Classical.typeDecidableEq α) l m h1 h2
theorem gm.few (h:gm H D U f n):n<=U.length:=by
 obtain ⟨kvs,_,h2,h3,h4,_⟩:=h.ex
 have:=rW h3 h4
 rw [Ql,Ql] at this
 omega
theorem gm.keep (h:gm H D U f n) (e:∀ o,H D=some o->H' D=some o) (k:∀ b ys,aj H b ys->aj H' b ys):gm H' D U f n:=by
 obtain ⟨kvs,h1,h2,h3,h4,h5⟩:=h.ex
 exact ⟨kvs,e _ h1,h2,h3,h4,fun x=>(h5 x).imp id fun ⟨b,y,q1,q2,q3⟩=>⟨b,y,q1,k _ _ q2,q3⟩⟩
theorem gm.same {H H':Hp} {D:Addr} {U:List Tg} {f:AF} {n:Nat} (h:gm H D U f n) (s:aa H H'):gm H' D U f n:=h.keep (fun o e=>s _ _ e) fun b ys r=>r.same s
theorem W5 {kvs:List (List Key×V)} {k:List Key} {v u:V} (hn:(kvs.map (·.1)).Nodup) (h:bh kvs k=some u):(putK kvs k v).map (·.1)=kvs.map (·.1):=by
 have ha:(kvs.any fun kv=>decide (kv.1=k))=true:=by rw [cA,h];rfl
 unfold putK
 rw [if_pos ha,Qn]
 refine List.map_congr_left fun q _=>?_
 show (if q.1=k then (q.1,v) else q).1=q.1
 split<;>rfl
theorem j3 {kvs:List (List Key×V)} (e:H D=some (.dT kvs)):∀ b ys,aj H b ys->aj (upd H D o) b ys:=fun b ys h=>h.put e (fun _ z=>nomatch z) (fun _ _ z=>nomatch z)
theorem gm.short {kvs:List (List Key×V)} {x u v:Tg} {c:Addr} (e:H D=some (.dT kvs)) (h:gm H D U f n) (h1:f x=some u) (hv:v∈U) (hc:aj H c ((ay v).map kV)):gm (upd H D (.dT (putK kvs (ay x) (.ref c)))) D U (jn f x v) n:=by
 obtain ⟨NE,g1,g2,g3,g4,g5⟩:=h.ex
 rw [e] at g1;cases g1
 have hx:∃ w,bh kvs (ay x)=some w:=by
  rcases g5 x with ⟨_,q⟩ | ⟨b,y,q,_⟩
  ·rw [h1] at q;cases q
  ·exact ⟨_,q⟩
 obtain ⟨w,hx⟩:=hx
 have ek:=W5 (v:=.ref c) g3 hx
 refine ⟨_,aA,?_,by rw [ek];exact g3,by rw [ek];exact g4,fun z=>?_⟩
 ·have:=congrArg List.length ek
  rw [Ql,Ql] at this
  omega
 ·rw [kR]
  unfold jn
  by_cases hz:z=x
  ·subst hz
   rw [if_pos rfl,if_pos rfl]
   exact .inr ⟨c,v,rfl,j3 e _ _ hc,rfl,hv⟩
  ·rw [if_neg (fun q=>hz (oF q)),if_neg hz]
   exact (g5 z).imp id fun ⟨b,y,q1,q2,q3⟩=>⟨b,y,q1,j3 e _ _ q2,q3⟩
theorem gm.join {kvs:List (List Key×V)} {x v:Tg} {c:Addr} (e:H D=some (.dT kvs)) (h:gm H D U f n) (h1:f x=none) (hx:x∈U) (hv:v∈U) (hc:aj H c ((ay v).map kV)):gm (upd H D (.dT (putK kvs (ay x) (.ref c)))) D U (jn f x v) (n+1):=by
 obtain ⟨NE,g1,g2,g3,g4,g5⟩:=h.ex
 rw [e] at g1;cases g1
 have hn:bh kvs (ay x)=none:=by
  rcases g5 x with ⟨q,_⟩ | ⟨b,y,_,_,q,_⟩
  ·exact q
  ·rw [h1] at q;cases q
 refine ⟨_,aA,?_,vK _ g3 hn,fun k hk=>?_,fun z=>?_⟩
 ·rw [L2.cG _ hn];simp;omega
 ·rw [yT] at hk
  rcases hk with hk | hk
  ·exact g4 k hk
  ·rw [hk];exact List.mem_map.mpr ⟨x,hx,rfl⟩
 ·rw [kR]
  unfold jn
  by_cases hz:z=x
  ·subst hz
   rw [if_pos rfl,if_pos rfl]
   exact .inr ⟨c,v,rfl,j3 e _ _ hc,rfl,hv⟩
  ·rw [if_neg (fun q=>hz (oF q)),if_neg hz]
   exact (g5 z).imp id fun ⟨b,y,q1,q2,q3⟩=>⟨b,y,q1,j3 e _ _ q2,q3⟩
theorem aj.sx {ys:List V} (r:aj H b ys) (s:Sx D H H') (a:gm H D U f n):aj H' b ys:=by
 obtain ⟨kvs,g1,_⟩:=a.ex
 rcases r with r | ⟨o,r⟩
 ·exact .inl (s _ _ (fun z=>by rw [z,g1] at r;cases r) r)
 ·exact .inr ⟨o,s _ _ (fun z=>by rw [z,g1] at r;cases r) r⟩
theorem NI {t:Tg} (h:aj H b ((ay t).map kV)):TD H 1 (.ref b) (.t [.s t.1,.s t.2]):=TD.tup h (.cons TD.str (.cons TD.str .nil))
theorem W6 {t u:Tg}:(Tv.t [.s t.1,.s t.2]=.t [.s u.1,.s u.2])↔t=u:=by
 obtain ⟨a,b⟩:=t
 obtain ⟨a',b'⟩:=u
 simp
theorem xL {K : Q0} {ad : Addr} {o : Obj} {kvs : List (List Key × V)} {a b : Nat} {tc : TC} {te : TE} {τ0 : St} {H0 : Hp} {D : Addr} {Q : Hp -> Prop} (Pv : Nat -> St -> Hp -> Prop) (h0 : Pv 0 τ0 H0)
    (hok : ∀ i τ H, i <= kvs.length -> Pv i τ H -> H ad = some (.au o (.dT kvs)))
    (hs : ∀ i τ H T c, (hi : i < kvs.length) -> Pv i τ H -> H T = none -> aj H c (kvs[i].1.map kV) -> tc ((τ.set a (some (.ref c))).set b (some kvs[i].2)) (upd H T (.tup [.ref c, kvs[i].2])) fun bo H3 => if bo = true then te ((τ.set a (some (.ref c))).set b (some kvs[i].2)) H3 fun y H4 => ∃ xs, H4 D = some (.lst xs) /\ xs.length < sizeLine /\ Pv (i + 1) ((τ.set a (some (.ref c))).set b (some kvs[i].2)) (upd H4 D (.lst (xs ++ [y]))) else Pv (i + 1) ((τ.set a (some (.ref c))).set b (some kvs[i].2)) H3)
    (hd : ∀ τ H, Pv kvs.length τ H -> Q H) : ∃ W : Nat -> Nat -> St -> Hp -> Prop, (∃ m, W 0 m τ0 H0) /\ ∀ i m τ H, W i m τ H ->
      ((EX ad o kvs).stop i H /\ Q H) \/ ((EX ad o kvs).go i H /\ ∃ N : St -> Hp -> Prop, (∀ τ' H', N τ' H' -> ∃ m', m' < m /\ W (i + 1) m' τ' H') /\ ∀ x H', (EX ad o kvs).lg i H x H' -> g2 K a b x τ H' fun τ2 H2 => tc τ2 H2 fun b H3 =>
        if b = true then te τ2 H3 fun y H4 => ∃ xs, H4 D = some (.lst xs) /\ xs.length < sizeLine /\ N τ2 (upd H4 D (.lst (xs ++ [y]))) else N τ2 H3) := by
  refine ⟨fun i m τ H => m = kvs.length - i /\ i <= kvs.length /\ Pv i τ H, ⟨kvs.length, by simp, Nat.zero_le _, h0⟩, ?_⟩
  rintro i m τ H ⟨rfl, hi, p⟩
  have hk := hok i τ H hi p
  by_cases ao : i < kvs.length
  · refine .inr ⟨⟨hk, ao⟩, Pv (i + 1), fun σ' H' p' => ⟨kvs.length - (i + 1), by omega, rfl, ao, p'⟩, fun x H' y => ?_⟩
    obtain ⟨c, kv, G1, rd, T, rfl, hT, rfl⟩ := y
    have e : kv = kvs[i] := by rw [Qa ao] at G1; exact (QD G1).symm
    subst e
    exact dS aA (hs i τ _ T c ao p hT rd)
  · have e : i = kvs.length := by omega
    subst e
    exact .inl ⟨⟨hk, rfl⟩, hd τ H p⟩
theorem pB {K : Q0} {M D : Addr} {us : List V} {ms : List (List Str × Str)} {H0 : Hp} {Q : Hp -> Prop} (eM : H0 M = some (.lst us)) (mv : MV H0 us ms) (hD : H0 D = none) (few : ms.length <= 1000)
    (hd : ∀ nu H', aa H0 H' -> H' D = some (.lst nu) -> SV H' nu (ms.map (·.1)) -> Q H') : ∃ W : Nat -> Nat -> St -> Hp -> Prop, (∃ m, W 0 m [none] (upd H0 D (.lst []))) /\ ∀ i m τ H, W i m τ H ->
      ((CI K M).stop i H /\ Q H) \/ ((CI K M).go i H /\ ∃ N : St -> Hp -> Prop, (∀ τ' H', N τ' H' -> ∃ m', m' < m /\ W (i + 1) m' τ' H') /\ ∀ x H', (CI K M).lg i H x H' -> ip 0 x τ H' fun τ2 H2 => CZ τ2 H2 fun b H3 =>
        if b = true then j_ (AW K) (tV 0) (tC (V.int 0)) τ2 H3 fun y H4 => ∃ xs, H4 D = some (.lst xs) /\ xs.length < sizeLine /\ N τ2 (upd H4 D (.lst (xs ++ [y]))) else N τ2 H3) := by
  have hsz : sizeLine = 16777216 := QL
  have hl := mv.len
  refine i5 (d8 us) (fun i τ H' => ∃ (v0 : Option V) (nu : List V), τ = [v0] /\ H' D = some (.lst nu) /\ SV H' nu ((ms.take i).map (·.1)) /\ aa H0 H') ⟨none, [], rfl, aA, SV.nil, aa.upd hD _⟩ (by rintro i τ H' _ ⟨_, _, _, _, _, s⟩; exact af.of (s _ _ eM)) ?_ ?_
  · rintro i τ H1 hi ⟨v0, nu, rfl, q1, q2, q3⟩
    have Dq : i < ms.length := by omega
    obtain ⟨c, b, e1, e2, e3⟩ := mv.at_ i hi Dq
    have eg : us.getD i .ai = .ref c := by rw [Qb, Qa hi, e1]; rfl
    rw [eg]
    have sy : ms.take (i + 1) = ms.take i ++ [ms[i]] := by rw [Qs, Qa Dq]; rfl
    have G2 : nu.length <= 1000 := by have := q2.len; rw [this, Ql, List.length_take]; omega
    refine ⟨_, _, .inr (ae.of (q3 _ _ e2)), aL _ _, nu, q1, by omega, _, nu ++ [.ref b], rfl, aA, ?_, q3.put hD⟩
    rw [sy, Qm]
    exact (q2.snoc (.inl (q3 _ _ e3))).keep fun b ys r => r.put q1 (fun _ z => nomatch z) (fun _ _ z => nomatch z)
  · rintro τ H1 ⟨v0, nu, rfl, q1, q2, q3⟩
    rw [hl, Qo] at q2
    exact hd nu H1 q3 q1 q2
theorem uY {rs:List (Str×V)} (nd:(rs.map (·.1)).Nodup) (z:Str):(bh (dictOf (bf rs)) (.inr z)).isSome=true↔z∈rs.map (·.1):=by
 rw [fT _ (iY nd),rP]
 constructor
 ·intro h
  obtain ⟨q,hq,e'⟩:=List.mem_map.mp h
  obtain ⟨r,hr,rfl⟩:=List.mem_map.mp hq
  rw [<- Sum.inr.inj e'];exact List.mem_map.mpr ⟨r,hr,rfl⟩
 ·intro h
  obtain ⟨r,hr,rfl⟩:=List.mem_map.mp h
  exact List.mem_map.mpr ⟨_,List.mem_map.mpr ⟨r,hr,rfl⟩,rfl⟩
def ph (H:Hp) (xs:List V):Prop:=∀ v∈xs,∃ c us,v=.ref c/\H c=some (.tup us)
theorem ph.tk {xs:List V} (h:ph H xs) (s:Tk H H'):ph H' xs:=fun v hv=>let ⟨c,us,e1,e2⟩:=h v hv;⟨c,us,e1,s _ _ e2⟩
theorem ph.same {xs:List V} (h:ph H xs) (s:aa H H'):ph H' xs:=h.tk s.ts
theorem ph.snoc {xs:List V} (h:ph H xs) {c:Addr} {us:List V} (e:H c=some (.tup us)):ph H (xs++[.ref c]):=fun v hv=>by
 rcases List.mem_append.mp hv with hv | hv
 ·exact h v hv
 ·rw [List.mem_singleton.mp hv];exact ⟨c,us,rfl,e⟩
theorem ph.nil:ph H []:=fun v hv=>nomatch hv
abbrev Pr:=Str×Str
end L2
variable {c:L2.Pr×Option (Nat×List PySem.Str)}
namespace L2
open PySem PySem.Spec PyProof.Rows
def fz (r1 r2:List ak) (p:Pr) (s:List Str):Pr:=((jl r1 p.1 s).getD "",(jl r2 p.2 s).getD "")
def je (r1 r2:List ak) (p:Pr):Prop:=(aq r1 p.1).br=(aq r2 p.2).br/\stH (aq r1 p.1)=stH (aq r2 p.2)
structure mi (r1 r2:List ak) (n1 n2:List Str) (p:Pr):Prop where
 a:jm r1 n1 p.1
 b:jm r2 n2 p.2
def lf (a:Str):Tg:=("left",a)
def rg (a:Str):Tg:=("right",a)
def uw (n1 n2:List Str):List Tg:=n1.map lf++n2.map rg
theorem mi.behind (g1:fj r1 n1) (g2:fj r2 n2) {p:Pr} (h:mi r1 r2 n1 n2 p) (m:je r1 r2 p) {s:List Str} (h1:s∈stH (aq r1 p.1)):mi r1 r2 n1 n2 (fz r1 r2 p s):=by
 obtain ⟨e1,m1⟩:=j7 h.a.2 h1
 obtain ⟨e2,m2⟩:=j7 h.b.2 (by rw [<- m.2];exact h1)
 refine ⟨?_,?_⟩
 ·show jm r1 n1 ((jl r1 p.1 s).getD "")
  rw [m1];exact g1.jl h.a m1
 ·show jm r2 n2 ((jl r2 p.2 s).getD "")
  rw [m2];exact g2.jl h.b m2
structure p_ (H:Hp) (us:List V) (ps:List (List Str×Pr)):Prop where
 len:us.length=ps.length
 at_:∀ i (h:i < us.length) (h':i < ps.length),∃ c b e,us[i]=.ref c/\H c=some (.tup [.ref b,.ref e])/\aj H b (ps[i].1.map V.str)/\H e=some (.tup ((ay ps[i].2).map kV))
section
variable {us:List V} {ps:List (List Str×Pr)}
theorem p_.keep (h:p_ H us ps) (s:Tk H H') (s2:∀ b ys,aj H b ys->aj H' b ys):p_ H' us ps:=⟨h.len,fun i a b=>let ⟨c,d,e,h1,h2,h3,h4⟩:=h.at_ i a b;⟨c,d,e,h1,s _ _ h2,s2 _ _ h3,s _ _ h4⟩⟩
theorem p_.same (h:p_ H us ps) (s:aa H H'):p_ H' us ps:=h.keep s.ts fun b ys r=>r.same s
theorem p_.nil:p_ H [] []:=⟨rfl,fun i h=>absurd h (by simp)⟩
theorem p_.snoc (h:p_ H us ps) {c e:Addr} {p:List Str×Pr} (g2:H c=some (.tup [.ref b,.ref e])) (h3:aj H b (p.1.map V.str)) (h4:H e=some (.tup ((ay p.2).map kV))):p_ H (us++[.ref c]) (ps++[p]):=by
 have hl:=h.len
 refine ⟨by simp [hl],fun i h1 h2=>?_⟩
 by_cases ao:i < us.length
 ·rw [Qe ao,Qe (by omega)]
  exact h.at_ i ao (by omega)
 ·have e':i=us.length:=by simp at h1;omega
  subst e'
  rw [Qf (Qy _),Qf (by omega)]
  simp only [Nat.sub_self,hl,List.getElem_cons_zero]
  exact ⟨c,b,e,rfl,g2,h3,h4⟩
end
def gu (r1 r2:List ak) (p:Pr):List (List Str×Pr):=(stH (aq r1 p.1)).map fun s=>(s,fz r1 r2 p s)
def Cd (s:List Str):Tv:=.t (s.map Tv.s)
def G3 (h:Hd):Tv:=.t [.s h.br,.t ((stH h).map Cd)]
theorem pN {H:Hp} {n:Nat}:∀ s:List Str,iz H n (s.map V.str) (s.map Tv.s)
 | []=>.nil
 | z::s=>.cons TD.str (pN s)
theorem SV.E1 {us:List V} (h:SV H us ss):iz H 1 us (ss.map Cd):=by
 have hl:=h.len
 refine ⟨by simpa using hl,fun i h1 h2=>?_⟩
 obtain ⟨b,e1,e2⟩:=h.at_ i h1 (by omega)
 rw [e1,Qr]
 exact TD.tup e2 (pN _)
theorem Dm.td {h:Hd} (m:Dm H b h):TD H 3 (.ref b) (G3 h):=by
 obtain ⟨c,us,e1,e2,e3⟩:=m
 refine TD.tup (.inl e1) (.cons TD.str (.cons (TD.tup (.inl e2) e3.E1) .nil))
theorem yY {xs ys:List Str} (h:xs.map Tv.s=ys.map Tv.s):xs=ys:=by
 induction xs generalizing ys with
 | nil=>cases ys with
  | nil=>rfl
  | cons y ys=>simp at h
 | cons x xs ih=>cases ys with
  | nil=>simp at h
  | cons y ys=>
   simp only [List.map_cons,List.cons.injEq,Tv.s.injEq] at h
   rw [h.1,ih h.2]
theorem jL {xs ys:List (List Str)} (h:xs.map Cd=ys.map Cd):xs=ys:=by
 induction xs generalizing ys with
 | nil=>cases ys with
  | nil=>rfl
  | cons y ys=>simp at h
 | cons x xs ih=>cases ys with
  | nil=>simp at h
  | cons y ys=>
   simp only [List.map_cons,List.cons.injEq,Cd,Tv.t.injEq] at h
   rw [yY h.1,ih h.2]
theorem W7 {h h':Hd}:(G3 h=G3 h')↔h.br=h'.br/\stH h=stH h':=by
 unfold G3
 constructor
 ·intro e
  have e':[Tv.s h.br,Tv.t ((stH h).map Cd)]=[Tv.s h'.br,Tv.t ((stH h').map Cd)]:=by injection e
  simp only [List.cons.injEq,Tv.s.injEq,Tv.t.injEq,and_true] at e'
  exact ⟨e'.1,jL e'.2⟩
 ·rintro ⟨e1,e2⟩
  rw [e1,e2]
inductive Cg (E:Tg->Tg->Prop):Tg->Tg->Prop where
 | refl (x:Tg):Cg E x x
 | base {x y:Tg} (h:E x y):Cg E x y
 | symm {x y:Tg} (h:Cg E x y):Cg E y x
 | trans {x y z:Tg} (h:Cg E x y) (h':Cg E y z):Cg E x z
theorem Cg.mono {E E':Tg->Tg->Prop} (k:∀ x y,E x y->E' x y) {x y:Tg} (h:Cg E x y):Cg E' x y:=by
 induction h with
 | refl x=>exact .refl x
 | base h=>exact .base (k _ _ h)
 | symm _ ih=>exact .symm ih
 | trans _ _ i1 i2=>exact .trans i1 i2
abbrev gw:=List (Pr×Option (Nat×List Str))
def ux (un:List Nat) (st:gw) (i:Nat) (x y:Tg):Prop:=∃ k c,k∈un/\k < i/\st[k]? =some c/\x=lf c.1.1/\y=rg c.1.2
def JF (r1:List ak) (st:gw) (o o':Option (Nat×List Str)):Prop:=match o,o' with
 | none,_=>True
 | some (j,s),some (j',s')=>j < j'\/(j=j'/\∃ c,st[j]? =some c/\∃ a b:Nat,a < b/\(stH (aq r1 c.1.1))[a]? =some s/\(stH (aq r1 c.1.1))[b]? =some s')
 | some _,none=>False
structure fk (r1 r2:List ak) (n1 n2:List Str) (i:Nat) (st:gw) (un:List Nat) (f:AF) (n:Nat):Prop where
 ok:∀ c∈st,mi r1 r2 n1 n2 c.1
 tr:∀ (k:Nat) (c:Pr×Option (Nat×List Str)) (j:Nat) (s:List Str),st[k]? =some c->c.2=some (j,s)->j < k/\j < i/\j∈un/\∃ c',st[j]? =some c'/\s∈stH (aq r1 c'.1.1)/\fz r1 r2 c'.1 s=c.1
 od:∀ (k k':Nat) (c c':Pr×Option (Nat×List Str)),k < k'->st[k]? =some c->st[k']? =some c'->JF r1 st c.2 c'.2
 me:∀ j c,j < i->st[j]? =some c->je r1 r2 c.1/\(j∈un->∀ s∈stH (aq r1 c.1.1),∃ (k:Nat) (c':Pr×Option (Nat×List Str)),st[k]? =some c'/\c'.2=some (j,s))/\(j ∉ un->Cg (ux un st j) (lf c.1.1) (rg c.1.2))
 cn:∀ x y r,bq f x r->bq f y r->Cg (ux un st i) x y
 ul:∀ k∈un,k < i
 few:st.length<=1+10*n
 E2:mh f n
 zn:∀ (k:Nat) (c:Pr×Option (Nat×List Str)),st[k]? =some c->c.2=none->k=0
theorem ux.mono {un G4:List Nat} {st st':gw} {i':Nat} (h1:∀ k∈un,k∈G4) (h2:∀ (k:Nat) (c:Pr×Option (Nat×List Str)),st[k]? =some c->st'[k]? =some c) (h3:i<=i') {x y:Tg} (h:ux un st i x y):ux G4 st' i' x y:=by
 obtain ⟨k,c,q1,q2,q3,q4⟩:=h
 exact ⟨k,c,h1 _ q1,by omega,h2 _ _ q3,q4⟩
theorem lZ {f':AF} (a:mh f n) (h:∀ z r,bq f z r->bq f' z r) {x r:Tg} (hr:bq f' x r):bq f x r:=by
 obtain ⟨r0,h0⟩:=gY a x
 rw [hr.Dp (h _ _ h0)];exact h0
theorem fk.skip {st:gw} {un:List Nat} {f':AF} (h:fk r1 r2 n1 n2 i st un f n) (hc:st[i]? =some c) (me:je r1 r2 c.1) (ac:mh f' n) (kp:∀ z r,bq f z r->bq f' z r) {r:Tg} (h1:bq f' (lf c.1.1) r) (h2:bq f' (rg c.1.2) r):fk r1 r2 n1 n2 (i+1) st un f' n:=by
 have cn:∀ x y r,bq f' x r->bq f' y r->Cg (ux un st i) x y:=fun x y r q1 q2=>h.cn x y r (lZ h.E2 kp q1) (lZ h.E2 kp q2)
 refine ⟨h.ok,fun k c' j s hk e=>?_,h.od,fun j c' hj ic=>?_,fun x y r q1 q2=>?_,fun k hk=>by have:=h.ul k hk;omega,h.few,ac,h.zn⟩
 ·obtain ⟨a1,a2,a3⟩:=h.tr k c' j s hk e
  exact ⟨a1,by omega,a3⟩
 ·by_cases Dr:j=i
  ·subst Dr
   rw [hc] at ic;cases ic
   exact ⟨me,fun z=>by have:=h.ul _ z;omega,fun _=>cn _ _ _ h1 h2⟩
  ·exact h.me j c' (by omega) ic
 ·exact (cn x y r q1 q2).mono fun x y q=>q.mono (fun _ h=>h) (fun _ _ h=>h) (by omega)
def jy (r1 r2:List ak) (i:Nat) (p:Pr):gw:=(gu r1 r2 p).map fun q=>(q.2,some (i,q.1))
theorem W8 {p:Pr} {k:Nat} (h:(jy r1 r2 i p)[k]? =some c):∃ s,(stH (aq r1 p.1))[k]? =some s/\c=(fz r1 r2 p s,some (i,s)):=by
 unfold jy gu at h
 rw [Qq,Qq] at h
 obtain ⟨q,h1,h2⟩:=Option.map_eq_some_iff.mp h
 obtain ⟨s,h3,h4⟩:=Option.map_eq_some_iff.mp h1
 exact ⟨s,h3,by rw [<- h2,<- h4]⟩
theorem fk.join (g1:fj r1 n1) (g2:fj r2 n2) {st:gw} {un:List Nat} {f':AF} (h:fk r1 r2 n1 n2 i st un f n) (hc:st[i]? =some c) (me:je r1 r2 c.1) (ac:mh f' (n+1)) {r r':Tg} (h1:bq f (lf c.1.1) r) (h2:bq f (rg c.1.2) r') (kp:∀ z q,bq f z q->bq f' z (if q=r then r' else q)):fk r1 r2 n1 n2 (i+1) (st++jy r1 r2 i c.1) (un++[i]) f' (n+1):=by
 have hi:i < st.length:=(List.getElem?_eq_some_iff.mp hc).1
 have po:=h.ok c (QC hc)
 have up:∀ (k:Nat) (c':Pr×Option (Nat×List Str)),st[k]? =some c'->(st++jy r1 r2 i c.1)[k]? =some c':=fun k c' q=>by
  have hk:=(List.getElem?_eq_some_iff.mp q).1
  rw [Qg hk];exact q
 have dn:∀ (k:Nat) (c':Pr×Option (Nat×List Str)),(st++jy r1 r2 i c.1)[k]? =some c'->st[k]? =some c'\/(st.length<=k/\∃ s,(stH (aq r1 c.1.1))[k - st.length]? =some s/\c'=(fz r1 r2 c.1 s,some (i,s))):=fun k c' q=>by
  by_cases hk:k < st.length
  ·rw [Qg hk] at q;exact .inl q
  ·rw [List.getElem?_append_right (by omega)] at q
   exact .inr ⟨by omega,W8 q⟩
 have fl:(stH (aq r1 c.1.1)).length<=10:=by have:=gX (g1.yd po.a).2;simpa [stH] using this
 refine ⟨fun c' ic=>?_,fun k c' j s hk e=>?_,fun k k' c1 c2 uy q1 q2=>?_,fun j c' hj ic=>?_,fun x y q q1 q2=>?_,fun k hk=>?_,?_,ac,fun k c' hk e=>?_⟩
 ·rcases List.mem_append.mp ic with ic | ic
  ·exact h.ok c' ic
  ·obtain ⟨q,hq,rfl⟩:=List.mem_map.mp ic
   obtain ⟨s,hs,rfl⟩:=List.mem_map.mp hq
   exact po.behind g1 g2 me hs
 ·rcases dn k c' hk with q | ⟨q0,s',q1,q2⟩
  ·obtain ⟨a1,a2,a3,c2,a4,a5⟩:=h.tr k c' j s q e
   exact ⟨a1,by omega,List.mem_append.mpr (.inl a3),c2,up _ _ a4,a5⟩
  ·subst q2
   cases e
   exact ⟨by omega,by omega,by simp,c,up _ _ hc,QC q1,rfl⟩
 ·have bu:∀ o o',JF r1 st o o'->JF r1 (st++jy r1 r2 i c.1) o o':=fun o o' b=>by
   cases o with
   | none=>trivial
   | some p=>
    cases o' with
    | none=>exact b
    | some p'=>
     rcases b with b | ⟨b1,c3,b2,b3⟩
     ·exact .inl b
     ·exact .inr ⟨b1,c3,up _ _ b2,b3⟩
  rcases dn k c1 q1 with q | ⟨q0,s,q3,q4⟩
  ·rcases dn k' c2 q2 with q' | ⟨Bd,s',NJ,Ds⟩
   ·exact bu _ _ (h.od k k' c1 c2 uy q q')
   ·subst Ds
    cases e:c1.2 with
    | none=>trivial
    | some p=>
     obtain ⟨j,s⟩:=p
     exact .inl (h.tr k c1 j s q e).2.1
  ·have hk':st.length<=k':=by omega
   rcases dn k' c2 q2 with q' | ⟨Bd,s',NJ,Ds⟩
   ·have:=(List.getElem?_eq_some_iff.mp q').1;omega
   ·subst q4 Ds
    exact .inr ⟨rfl,c,up _ _ hc,k - st.length,k' - st.length,by omega,q3,NJ⟩
 ·by_cases Dr:j=i
  ·subst Dr
   have:=up _ _ hc
   rw [this] at ic;cases ic
   refine ⟨me,fun _ s hs=>?_,fun z=>absurd (List.mem_append.mpr (.inr (by simp))) z⟩
   obtain ⟨m,hm,em⟩:=Qi hs
   refine ⟨st.length+m,(fz r1 r2 c.1 s,some (j,s)),?_,rfl⟩
   rw [List.getElem?_append_right (by omega),Nat.add_sub_cancel_left]
   unfold jy gu
   rw [Qq,Qq,Qa hm,em];rfl
  ·rcases dn j c' ic with q | ⟨q0,_⟩
   ·obtain ⟨m1,m2,m3⟩:=h.me j c' (by omega) q
    have W9:j∈un++[i]->j∈un:=fun z=>by
     rcases List.mem_append.mp z with z | z
     ·exact z
     ·exact absurd (List.mem_singleton.mp z) Dr
    exact ⟨m1,fun z s hs=>let ⟨k,c2,b1,b2⟩:=m2 (W9 z) s hs;⟨k,c2,up _ _ b1,b2⟩,fun z=>(m3 fun y=>z (List.mem_append.mpr (.inl y))).mono fun x y q=>q.mono (fun k hk=>List.mem_append.mpr (.inl hk)) up (Qy _)⟩
   ·omega
 ·have old:∀ {x y:Tg} {q:Tg},bq f x q->bq f y q->Cg (ux (un++[i]) (st++jy r1 r2 i c.1) (i+1)) x y:=fun {x y q} a b=>(h.cn x y q a b).mono fun x y q=>q.mono (fun k hk=>List.mem_append.mpr (.inl hk)) up (by omega)
  have new:Cg (ux (un++[i]) (st++jy r1 r2 i c.1) (i+1)) (lf c.1.1) (rg c.1.2):=.base ⟨i,c,by simp,by omega,up _ _ hc,rfl,rfl⟩
  obtain ⟨qx,hx⟩:=gY h.E2 x
  obtain ⟨qy,hy⟩:=gY h.E2 y
  have ex:=q1.Dp (kp _ _ hx)
  have ey:=q2.Dp (kp _ _ hy)
  by_cases cx:qx=r
  ·rw [if_pos cx] at ex
   have xa:=old hx (by rw [cx];exact h1)
   by_cases cy:qy=r
   ·exact old hx (by rw [cx,<- cy];exact hy)
   ·rw [if_neg cy] at ey
    have yb:=old hy (show bq f (rg c.1.2) qy by rw [<- ey,ex];exact h2)
    exact (xa.trans new).trans yb.symm
  ·rw [if_neg cx] at ex
   by_cases cy:qy=r
   ·rw [if_pos cy] at ey
    have ya:=old hy (by rw [cy];exact h1)
    have xb:=old hx (show bq f (rg c.1.2) qx by rw [<- ex,ey];exact h2)
    exact (xb.trans new.symm).trans ya.symm
   ·rw [if_neg cy] at ey
    exact old hx (by rw [<- ex,ey];exact hy)
 ·rcases List.mem_append.mp hk with hk | hk
  ·have:=h.ul k hk;omega
  ·rw [List.mem_singleton.mp hk];omega
 ·have:=h.few
  rw [Qk]
  have e:(jy r1 r2 i c.1).length=(stH (aq r1 c.1.1)).length:=by simp [jy,gu]
  omega
 ·rcases dn k c' hk with q | ⟨q0,s',q1,q2⟩
  ·exact h.zn k c' q e
  ·subst q2;cases e
theorem fk.start {p:Pr} (po:mi r1 r2 n1 n2 p):fk r1 r2 n1 n2 0 [(p,none)] [] (fun _=>none) 0:=by
 have one:∀ (k:Nat) (c:Pr×Option (Nat×List Str)),([(p,none)]:gw)[k]? =some c->k=0/\c=(p,none):=fun k c hk=>by
  cases k with
  | zero=>exact ⟨rfl,by simpa using hk.symm⟩
  | succ k=>simp at hk
 refine ⟨fun c hc=>by rw [List.mem_singleton.mp hc];exact po,fun k c j s hk e=>?_,fun k k' c c' uy h1 h2=>?_,fun j c hj=>absurd hj (by omega),fun x y r h1 h2=>?_,fun k hk=>absurd hk (by simp),by simp,⟨fun _=>0,fun x y h=>(nomatch h),fun _=>Qy _⟩,fun k c hk _=>(one k c hk).1⟩
 ·rw [(one k c hk).2] at e;cases e
 ·have a:=(one k c h1).1;have b:=(one k' c' h2).1;omega
 ·cases h1 with
  | top _=>cases h2 with
   | top _=>exact .refl _
   | up h _=>cases h
  | up h _=>cases h
theorem fk.NK {st:gw} {un:List Nat} (h:fk r1 r2 n1 n2 i st un f n):G0 (st.map (·.2)):=fun k j s hk=>by
 rw [Qq] at hk
 obtain ⟨c,h1,h2⟩:=Option.map_eq_some_iff.mp hk
 exact (h.tr k c j s h1 h2).1
def ii (r1 r2:List ak) (x:Tg):Hd:=if x.1="left" then aq r1 x.2 else aq r2 x.2
def Be (r1 r2:List ak) (x:Tg) (s:List Str):Tg:=(x.1,(if x.1="left" then jl r1 x.2 s else jl r2 x.2 s).getD "")
theorem qS (r1 r2:List ak) (a:Str):ii r1 r2 (lf a)=aq r1 a:=by unfold ii lf;rw [if_pos rfl]
theorem JG (r1 r2:List ak) (a:Str):ii r1 r2 (rg a)=aq r2 a:=by unfold ii rg;rw [if_neg (show ¬("right":Str)="left" by decide+kernel)]
theorem vR (r1 r2:List ak) (a:Str) (s:List Str):Be r1 r2 (lf a) s=lf ((jl r1 a s).getD ""):=by unfold Be lf;rw [if_pos rfl]
theorem vI (r1 r2:List ak) (a:Str) (s:List Str):Be r1 r2 (rg a) s=rg ((jl r2 a s).getD ""):=by unfold Be rg;rw [if_neg (show ¬("right":Str)="left" by decide+kernel)]
theorem fk.done {st:gw} {un:List Nat} (h:fk r1 r2 n1 n2 i st un f n) (hl:st.length=i) {k:Nat} (hc:st[k]? =some c):Cg (ux un st i) (lf c.1.1) (rg c.1.2):=by
 have hk:k < i:=by have:=(List.getElem?_eq_some_iff.mp hc).1;omega
 by_cases hu:k∈un
 ·exact .base ⟨k,c,hu,hk,hc,rfl,rfl⟩
 ·exact ((h.me k c hk hc).2.2 hu).mono fun x y q=>q.mono (fun _ h=>h) (fun _ _ h=>h) (by omega)
theorem fk.s_ {st:gw} {un:List Nat} (h:fk r1 r2 n1 n2 i st un f n) (hl:st.length=i) {x y:Tg} (hc:Cg (ux un st i) x y):(ii r1 r2 x).br=(ii r1 r2 y).br/\stH (ii r1 r2 x)=stH (ii r1 r2 y)/\∀ s∈stH (ii r1 r2 x),Cg (ux un st i) (Be r1 r2 x s) (Be r1 r2 y s):=by
 induction hc with
 | refl x=>exact ⟨rfl,rfl,fun s _=>.refl _⟩
 | base q=>
  obtain ⟨k,c,q1,q2,q3,rfl,rfl⟩:=q
  obtain ⟨me,m2,_⟩:=h.me k c q2 q3
  rw [qS,JG]
  refine ⟨me.1,me.2,fun s hs=>?_⟩
  obtain ⟨k',c',b1,b2⟩:=m2 q1 s hs
  obtain ⟨_,_,_,c2,a4,_,a6⟩:=h.tr k' c' k s b1 b2
  rw [q3] at a4;cases a4
  have:=h.done hl b1
  rw [<- a6] at this
  rw [vR,vI]
  exact this
 | symm _ ih=>exact ⟨ih.1.symm,ih.2.1.symm,fun s hs=>.symm (ih.2.2 s (by rw [ih.2.1];exact hs))⟩
 | trans _ _ i1 i2=>exact ⟨i1.1.trans i2.1,i1.2.1.trans i2.2.1,fun s hs=>.trans (i1.2.2 s hs) (i2.2.2 s (by rw [<- i1.2.1];exact hs))⟩
def NL (r1 r2:List ak) (n1 n2:List Str) (G:Pr->Prop):Prop:=∀ p,G p->mi r1 r2 n1 n2 p/\je r1 r2 p/\∀ s∈stH (aq r1 p.1),G (fz r1 r2 p s)
theorem fk.NN (g1:fj r1 n1) (g2:fj r2 n2) {st:gw} {un:List Nat} (h:fk r1 r2 n1 n2 i st un f n) (hl:st.length=i):NL r1 r2 n1 n2 fun p=>mi r1 r2 n1 n2 p/\Cg (ux un st i) (lf p.1) (rg p.2):=by
 rintro p ⟨po,hc⟩
 obtain ⟨b1,b2,b3⟩:=h.s_ hl hc
 rw [qS] at b1 b2 b3
 rw [JG] at b1 b2
 refine ⟨po,⟨b1,b2⟩,fun s hs=>⟨po.behind g1 g2 ⟨b1,b2⟩ hs,?_⟩⟩
 have:=b3 s hs
 rw [vR,vI] at this
 exact this
def t_:List Nat->List Nat->Prop
 | a::as,b::bs=>a < b\/(a=b/\t_ as bs)
 | _,_=>False
def i_ (w v:List Nat):Prop:=w.length < v.length\/(w.length=v.length/\t_ w v)
theorem pU:∀ w:List Nat,¬t_ w w
 | []=>id
 | a::as=>fun h=>h.elim (fun h=>Nat.lt_irrefl _ h) fun h=>pU as h.2
theorem lX:∀ {w v u:List Nat},t_ w v->t_ v u->t_ w u
 | a::as,b::bs,c::cs,h,h'=>by
  rcases h with h | ⟨rfl,h⟩
  ·rcases h' with h' | ⟨rfl,_⟩
   ·exact .inl (by omega)
   ·exact .inl h
  ·rcases h' with h' | ⟨rfl,h'⟩
   ·exact .inl h'
   ·exact .inr ⟨rfl,lX h h'⟩
 | [],_,_,h,_=>h.elim
 | _::_,[],_,h,_=>h.elim
 | _::_,_::_,[],_,h'=>h'.elim
theorem rM:∀ {w v:List Nat},w.length=v.length->w=v\/t_ w v\/t_ v w
 | [],[],_=>.inl rfl
 | a::as,b::bs,h=>by
  rcases Nat.lt_trichotomy a b with h1 | h1 | h1
  ·exact .inr (.inl (.inl h1))
  ·subst h1
   rcases rM (w:=as) (v:=bs) (by simpa using h) with h2 | h2 | h2
   ·exact .inl (by rw [h2])
   ·exact .inr (.inl (.inr ⟨rfl,h2⟩))
   ·exact .inr (.inr (.inr ⟨rfl,h2⟩))
  ·exact .inr (.inr (.inl h1))
 | [],_::_,h=>by cases h
 | _::_,[],h=>by cases h
theorem nA:∀ {w v:List Nat} (a b:Nat),w.length=v.length->t_ w v->t_ (w++[a]) (v++[b])
 | a::as,b::bs,x,y,hl,h=>by
  rcases h with h | ⟨rfl,h⟩
  ·exact .inl h
  ·exact .inr ⟨rfl,nA x y (by simpa using hl) h⟩
 | [],_,_,_,_,h=>h.elim
 | _::_,[],_,_,_,h=>h.elim
theorem jC:∀ (w:List Nat) {a b:Nat},a < b->t_ (w++[a]) (w++[b])
 | [],_,_,h=>.inl h
 | x::w,_,_,h=>.inr ⟨rfl,jC w h⟩
theorem d7 (w:List Nat):¬i_ w w:=fun h=>h.elim (fun h=>Nat.lt_irrefl _ h) fun h=>pU w h.2
theorem bJ {w v u:List Nat} (h:i_ w v) (h':i_ v u):i_ w u:=by
 rcases h with h | ⟨h,hl⟩
 ·rcases h' with h' | ⟨h',_⟩
  ·exact .inl (by omega)
  ·exact .inl (by omega)
 ·rcases h' with h' | ⟨h',A_⟩
  ·exact .inl (by omega)
  ·exact .inr ⟨by omega,lX hl A_⟩
theorem W_ (w v:List Nat):w=v\/i_ w v\/i_ v w:=by
 rcases Nat.lt_trichotomy w.length v.length with h | h | h
 ·exact .inr (.inl (.inl h))
 ·rcases rM h with h1 | h1 | h1
  ·exact .inl h1
  ·exact .inr (.inl (.inr ⟨h,h1⟩))
  ·exact .inr (.inr (.inr ⟨h.symm,h1⟩))
 ·exact .inr (.inr (.inl h))
def Ar (w v:List Nat):Prop:=w=v\/i_ w v
theorem wC {w v u:List Nat} (h:Ar w v) (h':Ar v u):Ar w u:=by
 rcases h with rfl | h
 ·exact h'
 ·rcases h' with rfl | h'
  ·exact .inr h
  ·exact .inr (bJ h h')
theorem iZ {w v:List Nat} (a b:Nat) (h:i_ w v):i_ (w++[a]) (v++[b]):=by
 rcases h with h | ⟨h,hl⟩
 ·exact .inl (by simp;omega)
 ·exact .inr ⟨by simp [h],nA a b h hl⟩
theorem W' {w v:List Nat} (a:Nat) (h:Ar w v):Ar (w++[a]) (v++[a]):=by
 rcases h with rfl | h
 ·exact .inl rfl
 ·exact .inr (iZ a a h)
theorem m5 (w:List Nat) (a:Nat):i_ w (w++[a]):=.inl (by simp)
section
variable {N Lb:Type} (nx:N->List (Lb×N))
def dz:N->List Nat->Option N
 | n,[]=>some n
 | n,k::ks=>match (nx n)[k]? with
  | some q=>dz q.2 ks
  | none=>none
def f_:N->List Nat->List Lb
 | _,[]=>[]
 | n,k::ks=>match (nx n)[k]? with
  | some q=>q.1::f_ q.2 ks
  | none=>[]
theorem dW:∀ (n:N) (w v:List Nat),dz nx n (w++v)=(dz nx n w).bind fun m=>dz nx m v
 | n,[],v=>rfl
 | n,k::ks,v=>by
  show (match (nx n)[k]? with | some q=>dz nx q.2 (ks++v) | none=>none)=(match (nx n)[k]? with | some q=>dz nx q.2 ks | none=>none).bind _
  cases (nx n)[k]? with
  | none=>rfl
  | some q=>exact dW q.2 ks v
theorem pC {n m:N} {w:List Nat} (h:dz nx n w=some m) (k:Nat):dz nx n (w++[k])=((nx m)[k]?).map (·.2):=by
 rw [dW,h]
 show (match (nx m)[k]? with | some q=>some q.2 | none=>none)=_
 cases (nx m)[k]?<;>rfl
theorem m6:∀ {n m:N} {w:List Nat},dz nx n w=some m->∀ {k:Nat} {q:Lb×N},(nx m)[k]? =some q->f_ nx n (w++[k])=f_ nx n w++[q.1]
 | n,m,[],h,k,q,hk=>by
  cases h
  show (match (nx n)[k]? with | some q=>q.1::f_ nx q.2 [] | none=>[])=_
  rw [hk];rfl
 | n,m,k'::ks,h,k,q,hk=>by
  have h':(match (nx n)[k']? with | some q=>dz nx q.2 ks | none=>none)=some m:=h
  show (match (nx n)[k']? with | some q=>q.1::f_ nx q.2 (ks++[k]) | none=>[])=(match (nx n)[k']? with | some q=>q.1::f_ nx q.2 ks | none=>[])++[q.1]
  cases e:(nx n)[k']? with
  | none=>rw [e] at h';cases h'
  | some q'=>
   rw [e] at h'
   show q'.1::f_ nx q'.2 (ks++[k])=(q'.1::f_ nx q'.2 ks)++[q.1]
   rw [m6 h' hk];rfl
structure BW (n0:N) (i:Nat) (st:List (N×List Nat)):Prop where
 z:st[0]? =some (n0,[])
 go:∀ c∈st,dz nx n0 c.2=some c.1
 up:∀ (k k':Nat) (c c':N×List Nat),k < k'->st[k]? =some c->st[k']? =some c'->i_ c.2 c'.2
 cl:∀ (k:Nat) (c:N×List Nat),k < i->st[k]? =some c->∀ (p:Nat) (q:Lb×N),(nx c.1)[p]? =some q->∃ c'∈st,c'.1=q.2/\Ar c'.2 (c.2++[p])
variable {nx}
theorem BW.least {n0:N} {st:List (N×List Nat)} (b:BW nx n0 i st) {fm:N->Prop} (nb:∀ (k:Nat) (c:N×List Nat),k < i->st[k]? =some c->¬fm c.1) {w:List Nat} {m:N} (hw:dz nx n0 w=some m) (hm:fm m):(∀ c,st[i]? =some c->¬i_ w c.2)/\(st.length=i->False):=by
 -- aaE way Xa aaF ahead of BJ one at place i aaG to a place Xa is aaH to,by a way not later
 have key:∀ (v:List Nat) (m:N),dz nx n0 v=some m->((∃ c,st[i]? =some c/\i_ v c.2)\/st.length=i)->∃ c∈st,c.1=m/\Ar c.2 v:=by
  intro v
  induction hv:v.length generalizing v with
  | zero=>
   intro m hg _
   obtain rfl:=QS hv
   cases hg
   exact ⟨_,QC b.z,rfl,.inl rfl⟩
  | succ n ih=>
   intro m hg hb
   obtain ⟨u,a,rfl⟩:∃ u a,v=u++[a]:=⟨v.dropLast,v.getLast (by intro e;rw [e] at hv;cases hv),(List.dropLast_concat_getLast _).symm⟩
   have hu:u.length=n:=by simpa using hv
   rw [dW] at hg
   cases JH:dz nx n0 u with
   | none=>rw [JH] at hg;cases hg
   | some m'=>
    rw [JH] at hg
    have qc:(match (nx m')[a]? with | some q=>dz nx q.2 [] | none=>none)=some m:=hg
    cases eq:(nx m')[a]? with
    | none=>rw [eq] at qc;cases qc
    | some q=>
     rw [eq] at qc
     have Xb:q.2=m:=by cases qc;rfl
     obtain ⟨c,hc,e1,e2⟩:=ih u hu m' JH (hb.imp (by rintro ⟨c,h1,h2⟩;exact ⟨c,h1,bJ (m5 u a) h2⟩) id)
     obtain ⟨k,hk,ek⟩:=Qi hc
     have hk?:st[k]? =some c:=by rw [Qa hk,ek]
     have we:k < i:=by
      rcases hb with ⟨c',h1,h2⟩ | h1
      ·rcases Nat.lt_trichotomy k i with h | h | h
       ·exact h
       ·subst h
        rw [hk?] at h1;cases h1
        have:=bJ (m5 u a) h2
        rcases e2 with e2 | e2
        ·rw [e2] at this;exact absurd this (d7 _)
        ·exact absurd (bJ e2 this) (d7 _)
       ·have h3:=b.up i k c' c h h1 hk?
        have:=bJ (m5 u a) h2
        rcases e2 with e2 | e2
        ·rw [e2] at h3;exact absurd (bJ this h3) (d7 _)
        ·exact absurd (bJ e2 (bJ this h3)) (d7 _)
      ·omega
     obtain ⟨c',h1,h2,h3⟩:=b.cl k c we hk? a q (by rw [e1];exact eq)
     exact ⟨c',h1,h2.trans Xb,wC h3 (W' a e2)⟩
 constructor
 ·intro c hc ao
  obtain ⟨c',h1,h2,h3⟩:=key w m hw (.inl ⟨c,hc,ao⟩)
  obtain ⟨k,hk,ek⟩:=Qi h1
  have hk?:st[k]? =some c':=by rw [Qa hk,ek]
  have we:k < i:=by
   rcases Nat.lt_trichotomy k i with h | h | h
   ·exact h
   ·subst h
    rw [hk?] at hc;cases hc
    rcases h3 with e2 | e2
    ·rw [e2] at ao;exact absurd ao (d7 _)
    ·exact absurd (bJ e2 ao) (d7 _)
   ·have h4:=b.up i k c c' h hc hk?
    rcases h3 with e2 | e2
    ·rw [e2] at h4;exact absurd (bJ ao h4) (d7 _)
    ·exact absurd (bJ e2 (bJ ao h4)) (d7 _)
  exact nb k c' we hk? (by rw [h2];exact hm)
 ·intro hl
  obtain ⟨c',h1,h2,h3⟩:=key w m hw (.inr hl)
  obtain ⟨k,hk,ek⟩:=Qi h1
  exact nb k c' (by omega) (by rw [Qa hk,ek]) (by rw [h2];exact hm)
def E3 (nx:N->List (Lb×N)) (fm:N->Prop) (n0:N) (w:List Nat):Prop:=(∃ m,dz nx n0 w=some m/\fm m)/\∀ v m,dz nx n0 v=some m->fm m->¬i_ v w
end
abbrev NO:=Option (Nat×List Str)
section
variable {N:Type} [DecidableEq N] (nx:N->List (List Str×N))
variable {nx}
theorem rQ {tr:List NO} (ok:G0 tr):∀ (n m k:Nat),k<=n->k<=m->h_ tr n k=h_ tr m k
 | 0,0,k,_,_=>rfl
 | 0,m+1,k,h,_=>by
  obtain rfl:k=0:=by omega
  show []=(match tr[0]? with | some (some (j,s))=>h_ tr m j++[s] | _=>[])
  cases e:tr[0]? with
  | none=>rfl
  | some o=>cases o with
   | none=>rfl
   | some q=>exact absurd (ok 0 q.1 q.2 e) (by omega)
 | n+1,0,k,_,h=>by
  obtain rfl:k=0:=by omega
  show (match tr[0]? with | some (some (j,s))=>h_ tr n j++[s] | _=>[])=[]
  cases e:tr[0]? with
  | none=>rfl
  | some o=>cases o with
   | none=>rfl
   | some q=>exact absurd (ok 0 q.1 q.2 e) (by omega)
 | n+1,m+1,k,h1,h2=>by
  show (match tr[k]? with | some (some (j,s))=>h_ tr n j++[s] | _=>[])=(match tr[k]? with | some (some (j,s))=>h_ tr m j++[s] | _=>[])
  cases e:tr[k]? with
  | none=>rfl
  | some o=>cases o with
   | none=>rfl
   | some q=>
    have:=ok k q.1 q.2 e
    show h_ tr n q.1++[q.2]=h_ tr m q.1++[q.2]
    rw [rQ ok n m q.1 (by omega) (by omega)]
end
section
variable {N Lb:Type} {nx:N->List (Lb×N)}
def iu (nx:N->List (Lb×N)) (c:N×List Nat):List (N×List Nat):=(List.range (nx c.1).length).filterMap fun p=>((nx c.1)[p]?).map fun q=>(q.2,c.2++[p])
theorem vP {α β:Type} (f:α->Option β) (g:α->β):∀ l:List α,(∀ x∈l,f x=some (g x))->l.filterMap f=l.map g
 | [],_=>rfl
 | a::l,h=>by
  rw [List.filterMap_cons,h a List.mem_cons_self,List.map_cons,vP f g l fun x hx=>h x (Qh _ hx)]
theorem dP (c:N×List Nat) (p:Nat):(iu nx c)[p]? =((nx c.1)[p]?).map fun q=>(q.2,c.2++[p]):=by
 unfold iu
 by_cases hn:(nx c.1).length=0
 ·have:nx c.1=[]:=QS hn
  rw [this];rfl
 ·have dflt:Lb×N:=(nx c.1)[0]'(by omega)
  rw [vP _ (fun p=>(((nx c.1).getD p dflt).2,c.2++[p])) _ fun x hx=>by
   have hx':=List.mem_range.mp hx
   rw [Qa hx',Qb,Qa hx'];rfl]
  rw [Qq]
  by_cases hp:p < (nx c.1).length
  ·rw [Qa (by simpa using hp),Qa hp,List.getElem_range]
   show some (((nx c.1).getD p dflt).2,c.2++[p])=some _
   rw [Qb,Qa hp];rfl
  ·rw [List.getElem?_eq_none (by simpa using hp),List.getElem?_eq_none (by omega)];rfl
theorem xJ (c:N×List Nat):(iu nx c).length=(nx c.1).length:=by
 have h1:∀ p,p < (iu nx c).length↔p < (nx c.1).length:=fun p=>by
  have:=dP (nx:=nx) c p
  constructor
  ·intro h
   rw [Qa h] at this
   cases hq:(nx c.1)[p]? with
   | none=>rw [hq] at this;cases this
   | some q=>exact (List.getElem?_eq_some_iff.mp hq).1
  ·intro h
   rw [Qa h] at this
   exact (List.getElem?_eq_some_iff.mp this).1
 have a:=(h1 (nx c.1).length).mp
 have b:=(h1 (iu nx c).length).mpr
 by_cases x:(nx c.1).length < (iu nx c).length
 ·exact absurd (a x) (Nat.lt_irrefl _)
 ·by_cases y:(iu nx c).length < (nx c.1).length
  ·exact absurd (b y) (Nat.lt_irrefl _)
  ·omega
structure LS (nx:N->List (Lb×N)) (n0:N) (i:Nat) (st:List (N×List Nat)) (ms:List N):Prop where
 bw:BW nx n0 i st
 pr:∀ d∈st,d.2=[]\/∃ (k':Nat) (d':N×List Nat) (p:Nat),k' < i/\st[k']? =some d'/\d.2=d'.2++[p]
 ex:∀ t∈ms,∃ (k:Nat) (c:N×List Nat),k < i/\st[k]? =some c/\c.1=t/\∀ (p:Nat) (q:Lb×N),(nx t)[p]? =some q->(q.2,c.2++[p])∈st
theorem LS.start (n0:N):LS nx n0 0 [(n0,[])] []:=by
 have one:∀ (k:Nat) (c:N×List Nat),([(n0,[])]:List (N×List Nat))[k]? =some c->k=0/\c=(n0,[]):=fun k c hk=>by
  cases k with
  | zero=>exact ⟨rfl,by simpa using hk.symm⟩
  | succ k=>simp at hk
 refine ⟨⟨rfl,fun c hc=>by rw [List.mem_singleton.mp hc];rfl,fun k k' c c' uy h1 h2=>?_,fun k c hk=>absurd hk (by omega)⟩,fun d hd=>by rw [List.mem_singleton.mp hd];exact .inl rfl,fun t ht=>nomatch ht⟩
 have a:=(one k c h1).1;have b:=(one k' c' h2).1;omega
theorem LS.old {n0:N} {st:List (N×List Nat)} {ms:List N} (h:LS nx n0 i st ms) {c:N×List Nat} (hc:st[i]? =some c) (hm:c.1∈ms):LS nx n0 (i+1) st ms:=by
 obtain ⟨k0,c0,a1,a2,a3,a4⟩:=h.ex c.1 hm
 refine ⟨⟨h.bw.z,h.bw.go,h.bw.up,fun k d hk hd p q hq=>?_⟩,fun d hd=>?_,fun t ht=>?_⟩
 ·by_cases we:k=i
  ·subst we
   rw [hc] at hd;cases hd
   exact ⟨_,a4 p q hq,rfl,.inr (iZ p p (h.bw.up k0 k c0 c a1 a2 hc))⟩
  ·exact h.bw.cl k d (by omega) hd p q hq
 ·exact (h.pr d hd).imp id fun ⟨k',d',p,q1,q2,q3⟩=>⟨k',d',p,by omega,q2,q3⟩
 ·obtain ⟨k,c',b1,b2⟩:=h.ex t ht
  exact ⟨k,c',by omega,b2⟩
theorem LS.expand {n0:N} {st:List (N×List Nat)} {ms:List N} (h:LS nx n0 i st ms) {c:N×List Nat} (hc:st[i]? =some c):LS nx n0 (i+1) (st++iu nx c) (ms++[c.1]):=by
 have hi:=(List.getElem?_eq_some_iff.mp hc).1
 have up:∀ (k:Nat) (d:N×List Nat),st[k]? =some d->(st++iu nx c)[k]? =some d:=fun k d q=>by
  have:=(List.getElem?_eq_some_iff.mp q).1
  rw [Qg this];exact q
 have dn:∀ (k:Nat) (d:N×List Nat),(st++iu nx c)[k]? =some d->st[k]? =some d\/(st.length<=k/\∃ q,(nx c.1)[k - st.length]? =some q/\d=(q.2,c.2++[k - st.length])):=fun k d q=>by
  by_cases hk:k < st.length
  ·rw [Qg hk] at q;exact .inl q
  ·rw [List.getElem?_append_right (by omega),dP] at q
   obtain ⟨q',h1,h2⟩:=Option.map_eq_some_iff.mp q
   exact .inr ⟨by omega,q',h1,h2.symm⟩
 have sub:∀ d∈st,d∈st++iu nx c:=fun d hd=>List.mem_append.mpr (.inl hd)
 have G5:∀ (p:Nat) (q:Lb×N),(nx c.1)[p]? =some q->(q.2,c.2++[p])∈st++iu nx c:=fun p q hq=>by
  refine List.mem_append.mpr (.inr (QC (i:=p) ?_))
  rw [dP,hq];rfl
 have old:∀ d∈st,∀ a,i_ d.2 (c.2++[a]):=fun d hd a=>by
  rcases h.pr d hd with h' | ⟨k',d',p,h1,h2,h3⟩
  ·rw [h'];exact .inl (by simp)
  ·rw [h3];exact iZ p a (h.bw.up k' i d' c h1 h2 hc)
 have Es:=h.bw.go c (QC hc)
 refine ⟨⟨up _ _ h.bw.z,fun d hd=>?_,fun k k' a b uy ha hb=>?_,fun k d hk hd p q hq=>?_⟩,fun d hd=>?_,fun t ht=>?_⟩
 ·obtain ⟨k,hk,ek⟩:=Qi hd
  rcases dn k d (by rw [Qa hk,ek]) with q | ⟨_,q,h1,h2⟩
  ·exact h.bw.go d (QC q)
  ·rw [h2]
   show dz nx n0 (c.2++[k - st.length])=some q.2
   rw [pC nx Es,h1];rfl
 ·rcases dn k a ha with q | ⟨q0,q,h1,h2⟩
  ·rcases dn k' b hb with q' | ⟨Bd,q',AU,uh⟩
   ·exact h.bw.up k k' a b uy q q'
   ·rw [uh];exact old a (QC q) _
  ·rcases dn k' b hb with q' | ⟨Bd,q',AU,uh⟩
   ·have:=(List.getElem?_eq_some_iff.mp q').1;omega
   ·rw [h2,uh];exact .inr ⟨by simp,jC _ (by omega)⟩
 ·by_cases we:k=i
  ·subst we
   rw [up _ _ hc] at hd;cases hd
   exact ⟨_,G5 p q hq,rfl,.inl rfl⟩
  ·rcases dn k d hd with q' | ⟨q0,_⟩
   ·obtain ⟨d2,a1,a2,a3⟩:=h.bw.cl k d (by omega) q' p q hq
    exact ⟨d2,sub _ a1,a2,a3⟩
   ·omega
 ·rcases List.mem_append.mp hd with hd | hd
  ·exact (h.pr d hd).imp id fun ⟨k',d',p,q1,q2,q3⟩=>⟨k',d',p,by omega,up _ _ q2,q3⟩
  ·obtain ⟨p,hp,ep⟩:=Qi hd
   have:=dP (nx:=nx) c p
   rw [Qa hp,ep] at this
   obtain ⟨q',h1,h2⟩:=Option.map_eq_some_iff.mp this.symm
   exact .inr ⟨i,c,p,by omega,up _ _ hc,by rw [<- h2]⟩
 ·rcases List.mem_append.mp ht with ht | ht
  ·obtain ⟨k,c',b1,b2,b3,b4⟩:=h.ex t ht
   exact ⟨k,c',by omega,up _ _ b2,b3,fun p q hq=>sub _ (b4 p q hq)⟩
  ·rw [List.mem_singleton.mp ht]
   exact ⟨i,c,by omega,up _ _ hc,rfl,G5⟩
end
theorem Xc {h:Hd} (ok:h.ok ns):(stH h).Pairwise pe:=by
 unfold stH
 exact List.pairwise_map.mpr (xQ ok)
theorem uK {N:Type} {nx:N->List (List Str×N)} (hr:∀ n,(nx n).Pairwise fun a b=>pe a.1 b.1):∀ {w v:List Nat} {n m m':N},dz nx n w=some m->dz nx n v=some m'->t_ w v->Dl (f_ nx n w) (f_ nx n v)
 | a::as,b::bs,n,m,m',h,h',hl=>by
  rw [dz.eq_2] at h h'
  cases ea:(nx n)[a]? with
  | none=>rw [ea] at h;simp at h
  | some q=>
   cases eb:(nx n)[b]? with
   | none=>rw [eb] at h';simp at h'
   | some q'=>
    rw [ea] at h
    rw [eb] at h'
    dsimp only at h h'
    have e1:f_ nx n (a::as)=q.1::f_ nx q.2 as:=by
     rw [f_.eq_2,ea]
    have e2:f_ nx n (b::bs)=q'.1::f_ nx q'.2 bs:=by
     rw [f_.eq_2,eb]
    rw [e1,e2]
    rcases hl with hl | ⟨rfl,hl⟩
    ·obtain ⟨ha,Xd⟩:=List.getElem?_eq_some_iff.mp ea
     obtain ⟨hb,Xe⟩:=List.getElem?_eq_some_iff.mp eb
     have hs:=List.pairwise_iff_getElem.mp (hr n) a b ha hb hl
     rw [Xd,Xe] at hs
     exact ⟨0,by simp,by simp,fun i _ _ hi=>absurd hi (by omega),hs.ne,hs⟩
    ·rw [ea] at eb;cases eb
     obtain ⟨j,j1,j2,q1,q2,q3⟩:=uK hr h h' hl
     refine ⟨j+1,by simp;omega,by simp;omega,fun i g1 g2 hi=>?_,by simpa using q2,by simpa using q3⟩
     cases i with
     | zero=>rfl
     | succ i=>simpa using q1 i (by simpa using g1) (by simpa using g2) (by omega)
 | [],_,_,_,_,_,_,h=>h.elim
 | _::_,[],_,_,_,_,_,h=>h.elim
open Classical in
noncomputable def di (r1 r2:List ak) (p:Pr):List (List Str×Pr):=if je r1 r2 p then gu r1 r2 p else []
def uz (r1 r2:List ak) (p:Pr):Prop:=¬je r1 r2 p
section
variable {m1 m2:List Str} {p p0 m:Pr}
theorem fG (h:je r1 r2 p):di r1 r2 p=gu r1 r2 p:=if_pos h
theorem hX (r1 r2:List ak) (p:Pr) (a:Nat):(gu r1 r2 p)[a]? =((stH (aq r1 p.1))[a]?).map fun s=>(s,fz r1 r2 p s):=by unfold gu;rw [Qq]
def k_ (r1 r2:List ak):Nat->Tg->Tg->Prop
 | 0,x,y=>(ii r1 r2 x).br=(ii r1 r2 y).br/\stH (ii r1 r2 x)=stH (ii r1 r2 y)
 | n+1,x,y=>((ii r1 r2 x).br=(ii r1 r2 y).br/\stH (ii r1 r2 x)=stH (ii r1 r2 y))/\∀ s∈stH (ii r1 r2 x),k_ r1 r2 n (Be r1 r2 x s) (Be r1 r2 y s)
theorem k_.top:∀ {n:Nat} {x y:Tg},k_ r1 r2 n x y->(ii r1 r2 x).br=(ii r1 r2 y).br/\stH (ii r1 r2 x)=stH (ii r1 r2 y)
 | 0,_,_,h=>h
 | _+1,_,_,h=>h.1
theorem k_.refl:∀ (n:Nat) (x:Tg),k_ r1 r2 n x x
 | 0,_=>⟨rfl,rfl⟩
 | n+1,x=>⟨⟨rfl,rfl⟩,fun s _=>k_.refl n _⟩
theorem k_.symm:∀ {n:Nat} {x y:Tg},k_ r1 r2 n x y->k_ r1 r2 n y x
 | 0,_,_,h=>⟨h.1.symm,h.2.symm⟩
 | n+1,_,_,h=>⟨⟨h.1.1.symm,h.1.2.symm⟩,fun s hs=>(h.2 s (by rw [h.1.2];exact hs)).symm⟩
theorem k_.trans:∀ {n:Nat} {x y z:Tg},k_ r1 r2 n x y->k_ r1 r2 n y z->k_ r1 r2 n x z
 | 0,_,_,_,h,h'=>⟨h.1.trans h'.1,h.2.trans h'.2⟩
 | n+1,_,_,_,h,h'=>⟨⟨h.1.1.trans h'.1.1,h.1.2.trans h'.1.2⟩,fun s hs=>(h.2 s hs).trans (h'.2 s (by rw [<- h.1.2];exact hs))⟩
theorem Cg.NP {E:Tg->Tg->Prop} (k:∀ x y,E x y->k_ r1 r2 n x y) {x y:Tg} (h:Cg E x y):k_ r1 r2 n x y:=by
 induction h with
 | refl x=>exact .refl n x
 | base h=>exact k _ _ h
 | symm _ ih=>exact ih.symm
 | trans _ _ i1 i2=>exact i1.trans i2
theorem uT:je r1 r2 p↔((ii r1 r2 (lf p.1)).br=(ii r1 r2 (rg p.2)).br/\stH (ii r1 r2 (lf p.1))=stH (ii r1 r2 (rg p.2))):=by rw [qS,JG];exact Iff.rfl
theorem j5 {N Lb:Type} (nx:N->List (Lb×N)) (n:N) (k:Nat) (ks:List Nat):dz nx n (k::ks)=match (nx n)[k]? with | some q=>dz nx q.2 ks | none=>none:=rfl
theorem m8:∀ {n:Nat} {p:Pr},(∀ r m,r.length<=n->dz (di r1 r2) p r=some m->je r1 r2 m)->k_ r1 r2 n (lf p.1) (rg p.2)
 | 0,p,h=>uT.mp (h [] p (Qy _) rfl)
 | n+1,p,h=>by
  have me:=h [] p (Nat.zero_le _) rfl
  refine ⟨uT.mp me,fun s hs=>?_⟩
  rw [qS] at hs
  rw [vR,vI]
  obtain ⟨a,ha,ea⟩:=Qi hs
  refine m8 (p:=fz r1 r2 p s) fun r m hr hg=>h (a::r) m (by simp;omega) ?_
  rw [j5,fG me,hX,Qa ha,ea]
  exact hg
theorem iA:∀ {n:Nat} {p:Pr},k_ r1 r2 n (lf p.1) (rg p.2)->∀ {r:List Nat} {m:Pr},r.length<=n->dz (di r1 r2) p r=some m->je r1 r2 m
 | n,p,h,[],m,_,hg=>by cases hg;exact uT.mpr h.top
 | n+1,p,h,a::r,m,hl,hg=>by
  have me:=uT.mpr h.top
  rw [j5,fG me,hX] at hg
  cases hs:(stH (aq r1 p.1))[a]? with
  | none=>rw [hs] at hg;cases hg
  | some s=>
   rw [hs] at hg
   have:=h.2 s (by rw [qS];exact QC hs)
   rw [vR,vI] at this
   exact iA (p:=fz r1 r2 p s) this (by simpa using hl) hg
 | 0,p,h,a::r,m,hl,hg=>absurd hl (by simp)
theorem tU {R:α->α->Prop} {l:List α} (h:l.Pairwise R) (ne:∀ a b,R a b->a≠b) {x:α} (hi:l[i]? =some x) (hj:l[j]? =some x):i=j:=by
 obtain ⟨h1,e1⟩:=List.getElem?_eq_some_iff.mp hi
 obtain ⟨h2,e2⟩:=List.getElem?_eq_some_iff.mp hj
 rcases Nat.lt_trichotomy i j with h' | h' | h'
 ·exact absurd (e1.trans e2.symm) (ne _ _ (List.pairwise_iff_getElem.mp h i j h1 h2 h'))
 ·exact h'
 ·exact absurd (e2.trans e1.symm) (ne _ _ (List.pairwise_iff_getElem.mp h j i h2 h1 h'))
structure G7 (r1 r2:List ak) (p0:Pr) (st:gw) (M:Nat) (ws:Nat->List Nat):Prop where
 go:∀ k c,k < M->st[k]? =some c->dz (di r1 r2) p0 (ws k)=some c.1/\h_ (st.map (·.2)) k k=f_ (di r1 r2) p0 (ws k)
 tr:∀ k c j s,k < M->st[k]? =some c->c.2=some (j,s)->∃ a c',ws k=ws j++[a]/\st[j]? =some c'/\(stH (aq r1 c'.1.1))[a]? =some s
 z:ws 0=[]
theorem Xf {tr:List NO} (ok:G0 tr) {k:Nat} {s:List Str} (h:tr[k]? =some (some (j,s))):h_ tr k k=h_ tr j j++[s]:=by
 have hj:=ok k j s h
 obtain ⟨n,rfl⟩:∃ n,k=n+1:=⟨k - 1,by omega⟩
 rw [h_.eq_2,h]
 show h_ tr n j++[s]=_
 rw [rQ ok n j j (by omega) (Qy _)]
theorem fk.ways {i n:Nat} {st:gw} {un:List Nat} {f:AF} (h:fk r1 r2 m1 m2 i st un f n) (h0:st[0]? =some (p0,none)):∀ M,∃ ws,G7 r1 r2 p0 st M ws
 | 0=>⟨fun _=>[],⟨fun k c hk=>absurd hk (by omega),fun k c j s hk=>absurd hk (by omega),rfl⟩⟩
 | M+1=>by
  obtain ⟨ws,w⟩:=h.ways h0 M
  cases hM:st[M]? with
  | none=>
   refine ⟨ws,⟨fun k c hk hc=>?_,fun k c j s hk hc e=>?_,w.z⟩⟩
   ·by_cases z:k=M
    ·subst z;rw [hM] at hc;cases hc
    ·exact w.go k c (by omega) hc
   ·by_cases z:k=M
    ·subst z;rw [hM] at hc;cases hc
    ·exact w.tr k c j s (by omega) hc e
  | some c0=>
   cases e0:c0.2 with
   | none=>
    have:=h.zn M c0 hM e0
    subst this
    refine ⟨ws,⟨fun k c hk hc=>?_,fun k c j s hk hc e=>?_,w.z⟩⟩
    ·obtain rfl:k=0:=by omega
     rw [w.z]
     rw [h0] at hc;cases hc
     exact ⟨rfl,rfl⟩
    ·obtain rfl:k=0:=by omega
     rw [h0] at hc;cases hc;cases e
   | some q=>
    obtain ⟨j,s⟩:=q
    obtain ⟨t1,t2,t3,c',t4,t5,t6⟩:=h.tr M c0 j s hM e0
    obtain ⟨a,ha,ea⟩:=Qi t5
    have NQ:(stH (aq r1 c'.1.1))[a]? =some s:=by rw [Qa ha,ea]
    have me:=(h.me j c' t2 t4).1
    obtain ⟨g1,g2⟩:=w.go j c' t1 t4
    have NR:(di r1 r2 c'.1)[a]? =some (s,fz r1 r2 c'.1 s):=by rw [fG me,hX,NQ];rfl
    have nM:M≠0:=by omega
    refine ⟨fun k=>if k=M then ws j++[a] else ws k,⟨fun k c hk hc=>?_,fun k c j' s' hk hc e=>?_,by rw [if_neg nM.symm];exact w.z⟩⟩
    ·by_cases z:k=M
     ·subst z
      rw [hM] at hc;cases hc
      rw [if_pos rfl]
      refine ⟨by rw [pC _ g1,NR];exact congrArg some t6,?_⟩
      rw [m6 _ g1 NR,<- g2]
      exact Xf h.NK (by rw [Qq,hM];exact congrArg some e0)
     ·rw [if_neg z];exact w.go k c (by omega) hc
    ·by_cases z:k=M
     ·subst z
      rw [hM] at hc;cases hc
      rw [e0] at e;cases e
      rw [if_pos rfl,if_neg (by omega)]
      exact ⟨a,c',rfl,t4,NQ⟩
     ·rw [if_neg z]
      obtain ⟨q1,_⟩:=h.tr k c j' s' hc e
      rw [if_neg (by omega)]
      exact w.tr k c j' s' (by omega) hc e
theorem G7.rise {i n:Nat} {st:gw} {un:List Nat} {f:AF} (h:fk r1 r2 m1 m2 i st un f n) {ws:Nat->List Nat} {M:Nat} (w:G7 r1 r2 p0 st M ws) (hr:∀ x,(stH (aq r1 x)).Pairwise pe) (h0:st[0]? =some (p0,none)):∀ (B k k':Nat) (c c':Pr×Option (Nat×List Str)),k'<=B->k' < M->k < k'->st[k]? =some c->st[k']? =some c'->i_ (ws k) (ws k')
 | 0,k,k',c,c',hB,_,uy,_,_=>absurd uy (by omega)
 | B+1,k,k',c,c',hB,hM,uy,hc,ic=>by
  have od:=h.od k k' c c' uy hc ic
  cases e':c'.2 with
  | none=>exact absurd (h.zn k' c' ic e') (by omega)
  | some q'=>
   obtain ⟨j',s'⟩:=q'
   obtain ⟨a',d',JI,E4,G8⟩:=w.tr k' c' j' s' hM ic e'
   obtain ⟨t1',_⟩:=h.tr k' c' j' s' ic e'
   cases e:c.2 with
   | none=>
    have:=h.zn k c hc e
    subst this
    rw [w.z,JI]
    exact .inl (by simp)
   | some q=>
    obtain ⟨j,s⟩:=q
    obtain ⟨a,d,w1,w2,w3⟩:=w.tr k c j s (by omega) hc e
    obtain ⟨t1,_⟩:=h.tr k c j s hc e
    rw [e,e'] at od
    rcases od with od | ⟨rfl,c3,o1,x,y,o2,o3,o4⟩
    ·rw [w1,JI]
     exact iZ a a' (w.rise h hr h0 B j j' d d' (by omega) (by omega) od w2 E4)
    ·rw [o1] at w2 E4
     cases w2;cases E4
     have e1:=tU (hr _) (fun _ _ q=>q.ne) w3 o3
     have e2:=tU (hr _) (fun _ _ q=>q.ne) G8 o4
     rw [w1,JI,e1,e2]
     exact .inr ⟨by simp,jC _ o2⟩
theorem qX:∀ {w v:List Nat} (r r':List Nat),w.length=v.length->t_ w v->t_ (w++r) (v++r')
 | a::as,b::bs,r,r',hl,h=>by
  rcases h with h | ⟨rfl,h⟩
  ·exact .inl h
  ·exact .inr ⟨rfl,qX r r' (by simpa using hl) h⟩
 | [],_,_,_,_,h=>h.elim
 | _::_,[],_,_,_,h=>h.elim
theorem Xg {w v r r':List Nat} (h:i_ w v) (hl:r.length<=r'.length):i_ (w++r) (v++r'):=by
 rcases h with h | ⟨h,hx⟩
 ·exact .inl (by simp;omega)
 ·by_cases e:r.length=r'.length
  ·exact .inr ⟨by simp [h,e],qX r r' h hx⟩
  ·exact .inl (by simp;omega)
theorem vC (u r:List Nat):Ar u (u++r):=by
 cases r with
 | nil=>exact .inl (by simp)
 | cons a r=>exact .inr (.inl (by simp))
theorem jW {u v w:List Nat} (h:Ar u v) (h':i_ v w):i_ u w:=by
 rcases h with rfl | h
 ·exact h'
 ·exact bJ h h'
theorem fk.Xh {st:gw} {un:List Nat} (h:fk r1 r2 m1 m2 i st un f n) (h0:st[0]? =some (p0,none)) (hr:∀ x,(stH (aq r1 x)).Pairwise pe) {ws:Nat->List Nat} (w:G7 r1 r2 p0 st st.length ws) (hc:st[i]? =some c) {v:List Nat} (lv:E3 (di r1 r2) (uz r1 r2) p0 v):¬i_ v (ws i):=by
 intro ao
 obtain ⟨⟨m,hg,hb⟩,Xi⟩:=lv
 have hi:=(List.getElem?_eq_some_iff.mp hc).1
 have NS:∀ k d,st[k]? =some d->i_ (ws k) (ws i)->k < i:=fun k d hd hl=>by
  have hk:=(List.getElem?_eq_some_iff.mp hd).1
  rcases Nat.lt_trichotomy k i with z | z | z
  ·exact z
  ·subst z;exact absurd hl (d7 _)
  ·exact absurd (bJ hl (w.rise h hr h0 _ i k c d (Qy _) hk z hc hd)) (d7 _)
 -- along v
 have key:∀ (t:Nat) (u r:List Nat),v=u++r->u.length=t->∃ k d,st[k]? =some d/\k < i/\ws k=u/\(r≠[]->k∈un):=by
  intro t
  induction t with
  | zero=>
   intro u r e hu
   obtain rfl:=QS hu
   have Xj:i_ (ws 0) (ws i):=by rw [w.z];exact jW (by rw [e];exact vC _ _) ao
   have NT:=NS 0 _ h0 Xj
   refine ⟨0,_,h0,NT,w.z,fun iq=>Classical.byContradiction fun JJ=>?_⟩
   have cg:=(h.me 0 _ NT h0).2.2 JJ
   have ag:k_ r1 r2 r.length (lf p0.1) (rg p0.2):=cg.NP fun x y q=>by
    obtain ⟨k,c,_,q2,_⟩:=q;omega
   rw [e] at hg
   exact hb (iA ag (Qy _) hg)
  | succ t ih=>
   intro u r e hu
   obtain ⟨u0,a,rfl⟩:∃ u0 a,u=u0++[a]:=⟨u.dropLast,u.getLast (by intro e;rw [e] at hu;cases hu),(List.dropLast_concat_getLast _).symm⟩
   obtain ⟨k,d,k1,k2,k3,k4⟩:=ih u0 (a::r) (by rw [e];simp) (by simpa using hu)
   have ku:=k4 (by simp)
   obtain ⟨me,G5,_⟩:=h.me k d k2 k1
   have hk:=(List.getElem?_eq_some_iff.mp k1).1
   have gk:=(w.go k d hk k1).1
   rw [k3] at gk
   have qc:=hg
   rw [e,QQ,dW,gk] at qc
   have qc:dz (di r1 r2) d.1 (a::r)=some m:=qc
   rw [j5,fG me,hX] at qc
   cases hs:(stH (aq r1 d.1.1))[a]? with
   | none=>rw [hs] at qc;cases qc
   | some s=>
    rw [hs] at qc
    have qc:dz (di r1 r2) (fz r1 r2 d.1 s) r=some m:=qc
    obtain ⟨k',c',q1,q2⟩:=G5 ku s (QC hs)
    have hk':=(List.getElem?_eq_some_iff.mp q1).1
    obtain ⟨a',d',w1,w2,w3⟩:=w.tr k' c' k s hk' q1 q2
    rw [k1] at w2;cases w2
    have ea:=tU (hr _) (fun _ _ q=>q.ne) w3 hs
    rw [ea,k3] at w1
    have pc:fz r1 r2 d.1 s=c'.1:=by
     obtain ⟨_,_,_,c2,x1,_,x2⟩:=h.tr k' c' k s q1 q2
     rw [k1] at x1;cases x1;exact x2
    have GY:i_ (ws k') (ws i):=by rw [w1];exact jW (by rw [e];exact vC _ _) ao
    have we:=NS k' c' q1 GY
    refine ⟨k',c',q1,we,w1,fun iq=>Classical.byContradiction fun JJ=>?_⟩
    have cg:=(h.me k' c' we q1).2.2 JJ
    have ag:k_ r1 r2 r.length (lf c'.1.1) (rg c'.1.2):=cg.NP fun x y q=>by
     obtain ⟨JK,c2,y1,y2,y3,rfl,rfl⟩:=q
     refine m8 fun r' m' gh Xk=>Classical.byContradiction fun Xl=>?_
     have De:=(List.getElem?_eq_some_iff.mp y3).1
     refine Xi (ws JK++r') m' (by rw [dW,(w.go JK c2 De y3).1];exact Xk) Xl ?_
     rw [e,<- w1]
     exact Xg (w.rise h hr h0 _ JK k' c2 c' (Qy _) hk' y2 y3 q1) gh
    rw [pc] at qc
    exact hb (iA ag (Qy _) qc)
 obtain ⟨k,d,k1,k2,k3,_⟩:=key v.length v [] (by simp) rfl
 have hk:=(List.getElem?_eq_some_iff.mp k1).1
 have gk:=(w.go k d hk k1).1
 rw [k3,hg] at gk
 cases gk
 exact hb (h.me k d k2 k1).1
theorem fk.least {st:gw} {un:List Nat} (h:fk r1 r2 m1 m2 i st un f n) (h0:st[0]? =some (p0,none)) (hr:∀ x,(stH (aq r1 x)).Pairwise pe) (hc:st[i]? =some c) (hb:¬je r1 r2 c.1):(∃ v m,dz (di r1 r2) p0 v=some m/\uz r1 r2 m)/\∀ v,E3 (di r1 r2) (uz r1 r2) p0 v->h_ (st.map (·.2)) i i=f_ (di r1 r2) p0 v:=by
 have hi:=(List.getElem?_eq_some_iff.mp hc).1
 obtain ⟨ws,w⟩:=h.ways h0 st.length
 obtain ⟨g1,g2⟩:=w.go i c hi hc
 refine ⟨⟨_,_,g1,hb⟩,fun v lv=>?_⟩
 rcases W_ v (ws i) with e | e | e
 ·rw [e];exact g2
 ·exact absurd e (h.Xh h0 hr w hc lv)
 ·exact absurd e (lv.2 _ _ g1 hb)
theorem fk.none {i n:Nat} {st:gw} {un:List Nat} {f:AF} (g1:fj r1 m1) (g2:fj r2 m2) (h:fk r1 r2 m1 m2 i st un f n) (h0:st[0]? =some (p0,none)) (hl:st.length=i):∀ v m,dz (di r1 r2) p0 v=some m->¬uz r1 r2 m:=by
 have s_:=h.NN g1 g2 hl
 have po:=h.ok _ (QC h0)
 have key:∀ (v:List Nat) (p m:Pr),(mi r1 r2 m1 m2 p/\Cg (ux un st i) (lf p.1) (rg p.2))->dz (di r1 r2) p v=some m->je r1 r2 m:=by
  intro v
  induction v with
  | nil=>intro p m hp hg;cases hg;exact (s_ p hp).2.1
  | cons a v ih=>
   intro p m hp hg
   rw [j5,fG (s_ p hp).2.1,hX] at hg
   cases hs:(stH (aq r1 p.1))[a]? with
   | none=>rw [hs] at hg;cases hg
   | some s=>
    rw [hs] at hg
    exact ih _ _ ((s_ p hp).2.2 s (QC hs)) hg
 exact fun v m hg hb=>hb (key v p0 m ⟨po,h.done hl h0⟩ hg)
end
structure BG {N:Type} (nx:N->List (List Str×N)) (fm Ok:N->Prop) (f:N) (i:Nat) (st:List (N×List Nat)) (ms:List N) (D E:List (N×List Nat)) (len:Nat):Prop where
 ls:LS nx f i st ms
 nb:∀ (k:Nat) (c:N×List Nat),k < i->st[k]? =some c->¬fm c.1
 ok:∀ d∈st,Ok d.1
 nd:ms.Nodup
 mo:∀ t∈ms,Ok t
 il:i<=st.length
 qu:st.drop i=D++E
 dl:∀ d∈D,d.2.length=len
 nl:∀ d∈E,d.2.length=len+1
section
variable {N:Type} {nx:N->List (List Str×N)} {fm Ok:N->Prop} {f:N} {st:List (N×List Nat)} {ms:List N} {D E:List (N×List Nat)} {len:Nat} {d:N×List Nat}
theorem BG.start (hf:Ok f):BG nx fm Ok f 0 [(f,[])] [] [(f,[])] [] 0:=by
 refine ⟨LS.start f,?_,?_,List.Pairwise.nil,?_,Nat.zero_le _,rfl,?_,?_⟩
 ·intro k c hk;omega
 ·intro d hd;rw [List.mem_singleton.mp hd];exact hf
 ·intro t ht;cases ht
 ·intro d hd;rw [List.mem_singleton.mp hd];rfl
 ·intro d hd;cases hd
theorem BG.head (h:BG nx fm Ok f i st ms (d::D) E len):st[i]? =some d:=by
 have:=congrArg (fun l=>l[0]?) h.qu
 simpa using this
theorem BG.Ce (h:BG nx fm Ok f i st ms (d::D) E len):Ok d.1:=h.ok d (QC h.head)
theorem BG.JL (h:BG nx fm Ok f i st ms (d::D) E len):dz nx f d.2=some d.1:=h.ls.bw.go d (QC h.head)
theorem BG.next (h:BG nx fm Ok f i st ms (d::D) E len):st.drop (i+1)=D++E/\i+1<=st.length:=by
 refine ⟨?_,(List.getElem?_eq_some_iff.mp h.head).1⟩
 rw [<- List.drop_drop,h.qu];rfl
theorem BG.NU (h:BG nx fm Ok f i st ms (d::D) E len) (hb:¬fm d.1):∀ (k:Nat) (c:N×List Nat),k < i+1->st[k]? =some c->¬fm c.1:=fun k c hk hc=>by
 by_cases we:k=i
 ·subst we;rw [h.head] at hc;cases hc;exact hb
 ·exact h.nb k c (by omega) hc
theorem BG.bad (h:BG nx fm Ok f i st ms (d::D) E len) (hb:fm d.1):E3 nx fm f d.2:=
 ⟨⟨d.1,h.JL,hb⟩,fun v m hv hm=>(h.ls.bw.least (fm:=fm) h.nb hv hm).1 d h.head⟩
theorem BG.fin (h:BG nx fm Ok f i st ms [] [] len):∀ w m,dz nx f w=some m->¬fm m:=fun w m hw hm=>by
 refine (h.ls.bw.least (fm:=fm) h.nb hw hm).2 ?_
 have h1:=h.il
 have h2:=congrArg List.length h.qu
 rw [List.length_drop] at h2
 simp at h2
 omega
theorem BG.old (h:BG nx fm Ok f i st ms (d::D) E len) (hb:¬fm d.1) (hn:d.1∈ms):BG nx fm Ok f (i+1) st ms D E len:=
 ⟨h.ls.old h.head hn,h.NU hb,h.ok,h.nd,h.mo,h.next.2,h.next.1,fun d hd=>h.dl d (Qh _ hd),h.nl⟩
theorem NV {c k:N×List Nat} (hk:k∈iu nx c):∃ p q,(nx c.1)[p]? =some q/\k=(q.2,c.2++[p]):=by
 obtain ⟨p,hp,ep⟩:=Qi hk
 have:=dP (nx:=nx) c p
 rw [Qa hp,ep] at this
 obtain ⟨q,h1,h2⟩:=Option.map_eq_some_iff.mp this.symm
 exact ⟨p,q,h1,h2.symm⟩
theorem BG.expand (h:BG nx fm Ok f i st ms (d::D) E len) (ko:∀ q∈nx d.1,Ok q.2) (hb:¬fm d.1) (hn:d.1 ∉ ms):BG nx fm Ok f (i+1) (st++iu nx d) (ms++[d.1]) D (E++iu nx d) len:=by
 obtain ⟨n1,n2⟩:=h.next
 have hd:=h.Ce
 refine ⟨h.ls.expand h.head,fun k c hk hc=>?_,fun c hc=>?_,?_,fun t ht=>?_,by rw [Qk];omega,?_,fun d hd=>h.dl d (Qh _ hd),fun c hc=>?_⟩
 ·rw [Qg (by omega)] at hc
  exact h.NU hb k c hk hc
 ·rcases List.mem_append.mp hc with hc | hc
  ·exact h.ok c hc
  ·obtain ⟨p,q,h1,rfl⟩:=NV hc
   exact ko q (QC h1)
 ·rw [List.nodup_append]
  exact ⟨h.nd,by simp,fun a ha b hb=>by rw [List.mem_singleton.mp hb];exact fun z=>hn (by rw [<- z];exact ha)⟩
 ·rcases List.mem_append.mp ht with ht | ht
  ·exact h.mo t ht
  ·rw [List.mem_singleton.mp ht];exact hd
 ·rw [List.drop_append_of_le_length n2,n1,QQ]
 ·rcases List.mem_append.mp hc with hc | hc
  ·exact h.nl c hc
  ·obtain ⟨p,q,h1,rfl⟩:=NV hc
   show (d.2++[p]).length=len+1
   rw [Qk,h.dl d List.mem_cons_self];rfl
theorem BG.turn (h:BG nx fm Ok f i st ms [] E len):BG nx fm Ok f i st ms E [] (len+1):=
 ⟨h.ls,h.nb,h.ok,h.nd,h.mo,h.il,by rw [h.qu];simp,h.nl,fun d hd=>nomatch hd⟩
theorem BG.rise (h:BG nx fm Ok f i st ms [] E len) (hr:∀ t,(nx t).Pairwise fun a b=>pe a.1 b.1) (j:Nat) (hj:j+1 < E.length):Dl (f_ nx f E[j].2) (f_ nx f E[j+1].2):=by
 have hq:=h.qu
 rw [List.nil_append] at hq
 have at_:∀ k (hk:k < E.length),st[i+k]? =some E[k]:=fun k hk=>by
  rw [<- List.getElem?_drop,hq,Qa hk]
 have a:=at_ j (by omega)
 have b:=at_ (j+1) hj
 have lt:=h.ls.bw.up _ _ _ _ (by omega) a b
 have l1:=h.nl _ (Qj (show j < E.length by omega))
 have l2:=h.nl _ (Qj hj)
 refine uK hr (h.ls.bw.go _ (QC a)) (h.ls.bw.go _ (QC b)) ?_
 rcases lt with lt | lt
 ·omega
 ·exact lt.2
theorem tY {c:N×List Nat} (hg:dz nx f c.2=some c.1) {p:Nat} {q:List Str×N} (hp:(nx c.1)[p]? =some q) (h:p < (iu nx c).length):(iu nx c)[p]=(q.2,c.2++[p])/\f_ nx f (c.2++[p])=f_ nx f c.2++[q.1]:=by
 refine ⟨?_,m6 _ hg hp⟩
 have:=dP (nx:=nx) c p
 rw [hp,Qa h] at this
 exact QD this
theorem vN {N Lb:Type} {nx:N->List (Lb×N)}:∀ {w:List Nat} {n m:N},dz nx n w=some m->(f_ nx n w).length=w.length
 | [],n,m,h=>by cases h;rfl
 | a::as,n,m,h=>by
  rw [dz.eq_2] at h
  cases ea:(nx n)[a]? with
  | none=>rw [ea] at h;simp at h
  | some q=>
   rw [ea] at h
   rw [f_.eq_2,ea]
   show (f_ nx q.2 as).length+1=as.length+1
   rw [vN h]
end
theorem RT.JM {xs:List V} {rows:List ak} (rt:RT H a xs rows ns ws) (x:Str):(stH (aq rows x)).Pairwise pe:=by
 unfold aq
 cases hf:rows.find? fun r=>decide (r.1=x) with
 | none=>exact List.Pairwise.nil
 | some r=>
  have hm:=List.mem_of_find?_eq_some hf
  exact Xc (rt.ok r hm).2
theorem zZ (hr:∀ x,(stH (aq r1 x)).Pairwise pe) (p:Pr):(di r1 r2 p).Pairwise fun a b=>pe a.1 b.1:=by
 by_cases h:je r1 r2 p
 ·rw [fG h]
  unfold gu
  rw [List.pairwise_map]
  exact hr _
 ·unfold di
  rw [if_neg h];exact List.Pairwise.nil
abbrev BP (r1 r2:List ak) (m1 m2:List Str):=BG (di r1 r2) (uz r1 r2) (mi r1 r2 m1 m2)
theorem lM {m1 m2:List Str} {f:Pr} {len:Nat} {st D E:List (Pr×List Nat)} {ms:List Pr} (h:BP r1 r2 m1 m2 f i st ms D E len) (g1:fj r1 m1) (g2:fj r2 m2):ms.length<=200:=by
 have f1:=g1.few
 have f2:=g2.few
 have:=fM (m:=m1.flatMap fun a=>m2.map fun b=>((a,b):Pr)) h.nd fun x hx=>by
  have o:=h.mo x hx
  exact List.mem_flatMap.mpr ⟨x.1,o.a.1,List.mem_map.mpr ⟨x.2,o.b.1,rfl⟩⟩
 rw [List.length_flatMap] at this
 simp only [Ql,List.map_const',List.sum_replicate_nat] at this
 have h1:m1.length*m2.length<=14*14:=Nat.mul_le_mul f1 f2
 omega
structure jr (r1 r2:List ak) (f:Pr) (H:Hp) (us:List V) (D:List (Pr×List Nat)):Prop where
 len:us.length=D.length
 at_:∀ i (h:i < us.length) (h':i < D.length),∃ c b ys,us[i]=.ref c/\H c=some (.tup [.ref b,.str D[i].1.1,.str D[i].1.2])/\H b=some (.tup ys)/\SV H ys (f_ (di r1 r2) f D[i].2)
section
variable {f:Pr} {us:List V} {D:List (Pr×List Nat)}
theorem jr.keep (h:jr r1 r2 f H us D) (s:Tk H H') (s2:∀ b ys,aj H b ys->aj H' b ys):jr r1 r2 f H' us D:=⟨h.len,fun i a b=>let ⟨c,d,ys,h1,h2,h3,h4⟩:=h.at_ i a b;⟨c,d,ys,h1,s _ _ h2,s _ _ h3,h4.keep s2⟩⟩
theorem jr.same (h:jr r1 r2 f H us D) (s:aa H H'):jr r1 r2 f H' us D:=h.keep s.ts fun b ys r=>r.same s
theorem jr.nil:jr r1 r2 f H [] []:=⟨rfl,fun i h=>absurd h (by simp)⟩
theorem jr.snoc (h:jr r1 r2 f H us D) {c:Addr} {ys:List V} {p:Pr×List Nat} (h2:H c=some (.tup [.ref b,.str p.1.1,.str p.1.2])) (h3:H b=some (.tup ys)) (h4:SV H ys (f_ (di r1 r2) f p.2)):jr r1 r2 f H (us++[.ref c]) (D++[p]):=by
 have hl:=h.len
 refine ⟨by simp [hl],fun i g1 g2=>?_⟩
 by_cases ao:i < us.length
 ·rw [Qe ao,Qe (by omega)]
  exact h.at_ i ao (by omega)
 ·have e':i=us.length:=by simp at g1;omega
  subst e'
  rw [Qf (Qy _),Qf (by omega)]
  simp only [Nat.sub_self,hl,List.getElem_cons_zero]
  exact ⟨c,b,ys,rfl,h2,h3,h4⟩
end
def yf (H:Hp) (F:Addr) (ms:List Pr):Prop:=∃ kvs:List (List Key×V),H F=some (.dT kvs)/\kvs.map (·.1)=ms.map ay
theorem yf.same {F:Addr} {ms:List Pr} (h:yf H F ms) (s:aa H H'):yf H' F ms:=let ⟨kvs,e,k⟩:=h;⟨kvs,s _ _ e,k⟩
end L2
namespace L2
open PySem PySem.Spec PyProof.Rows PySem.W
theorem mY:∀ (d_ n r:Nat),r<=1->minRun' d_ n r<=n+r
 | 0,n,r,h=>by
  have:minRun' 0 n r=n+r:=rfl
  omega
 | d_+1,n,r,h=>by
  rw [minRun'_succ]
  split
  ·exact Qy _
  ·rename_i hn
   have:=mY d_ (n / 2) (max r (n % 2)) (by omega)
   omega
theorem Xm {κ:SortKind} {it:Array Keyed} {Q:Unit->SortSt->Shared->Prop} (h2:2<=n) (hc:∀ k,1<=k->k < n->∀ C:Bool->Shared->Prop,C false s->kas_cmp prog w A κ it k (k - 1) C s)
  (hQ:∀ st':SortSt,arrOf st'=Array.map (kas_item it) (List.range n).toArray->failedOf st'=none->Q () st' s):kasC (model prog w) A E sortRuns' Q (kas_st κ it (List.range n).toArray) s:=by
 obtain ⟨r,rfl⟩:∃ r,n=r+2:=⟨n - 2,by omega⟩
 have hsz:(arrOf (kas_st κ it (List.range (r+2)).toArray)).size=r+2:=by
  show (Array.map (kas_item it) (List.range (r+2)).toArray).size=r+2
  simp
 have Xn:minRun' (r+2) (r+2) 0<=r+2:=by have:=mY (r+2) (r+2) 0 (by omega);omega
 rw [sortRuns'_eq]
 unfold kasC
 rw [StateT.run_bind]
 refine QT (wpAny_of_eq (a:=(kas_st κ it (List.range (r+2)).toArray,kas_st κ it (List.range (r+2)).toArray)) rfl ?_)
 dsimp only
 rw [hsz]
 generalize minRun' (r+2) (r+2) 0=mr at Xn
 rw [StateT.run_bind]
 refine QT ?_
 rw [Std.Legacy.Range.forIn_eq_forIn_range']
 have NW:List.range' ({stop:=r+2,step_pos:=Nat.zero_lt_one}:Std.Legacy.Range).start ({stop:=r+2,step_pos:=Nat.zero_lt_one}:Std.Legacy.Range).size ({stop:=r+2,step_pos:=Nat.zero_lt_one}:Std.Legacy.Range).step=0::1::List.range' 2 r:=by
  simp [Std.Legacy.Range.size,List.range'_succ]
 rw [NW,List.forIn_cons]
 dsimp only
 rw [if_neg (by omega:¬(0≥r+2)),bind_assoc,StateT.run_bind]
 have hrs:(List.range (r+2)).toArray.size=r+2:=by simp
 have Xo:wpAny (model prog w) A ((countRun' 0 (r+2)).run (kas_st κ it (List.range (r+2)).toArray)) (fun a s'=>a=(some (r+2),kas_st κ it (List.range (r+2)).toArray)/\s'=s) E s:=by
  refine kas_count_ (p:=(List.range (r+2)).toArray) (nrem:=r+2) (G:=fun m s'=>m=(r+2,(List.range (r+2)).toArray)/\s'=s) (Q:=fun o st' s'=>(o,st')=(some (r+2),kas_st κ it (List.range (r+2)).toArray)/\s'=s) (by omega) (by omega) ?_ ?_
  ·rintro m p' s' _ _ _ ⟨h,rfl⟩
   cases h
   exact ⟨rfl,rfl⟩
  ·unfold kas_count
   rw [KasT.kasWp_bind]
   refine zS hc ?_ (r+2 - 1) 1 (Qy _) (by omega)
   rw [if_pos (by simp)]
   exact ⟨rfl,rfl⟩
 refine QT (wpAny_mono Xo (fun a s' h=>?_) (fun _ _ e=>e))
 obtain ⟨rfl,rfl⟩:=h
 dsimp only
 rw [if_neg (by omega:¬(r+2 < mr)),bind_assoc,StateT.run_bind]
 refine QT (wpAny_of_eq (a:=(kas_st κ it (List.range (r+2)).toArray,kas_st κ it (List.range (r+2)).toArray)) rfl ?_)
 dsimp only
 have GQ:(pendingOf (kas_st κ it (List.range (r+2)).toArray)).back?=none:=rfl
 simp only [GQ]
 rw [bind_assoc,StateT.run_bind]
 refine QT (wpAny_of_eq (a:=((),setPending (kas_st κ it (List.range (r+2)).toArray) #[(0,r+2,0)])) rfl ?_)
 rw [pure_bind]
 dsimp only
 rw [List.forIn_cons]
 dsimp only
 rw [if_pos (by omega:0+(r+2)≥r+2),pure_bind]
 dsimp only
 rw [StateT.run_pure]
 refine QU ?_
 dsimp only
 rw [StateT.run_bind]
 refine QT ?_
 rw [Std.Legacy.Range.forIn_eq_forIn_range',NW,List.forIn_cons,bind_assoc,StateT.run_bind]
 refine QT (wpAny_of_eq (a:=(setPending (kas_st κ it (List.range (r+2)).toArray) #[(0,r+2,0)],setPending (kas_st κ it (List.range (r+2)).toArray) #[(0,r+2,0)])) rfl ?_)
 dsimp only
 rw [if_pos (show (pendingOf (setPending (kas_st κ it (List.range (r+2)).toArray) #[(0,r+2,0)])).size<=1 from Qy 1),pure_bind]
 dsimp only
 rw [StateT.run_pure]
 refine QU ?_
 dsimp only
 rw [StateT.run_pure]
 exact QU (hQ _ rfl rfl)
theorem mC {κ:SortKind} {P:PySem.Fin->Shared->Prop} (ho:s.heap.get? a=some (seqObj "list" vs.toArray n)) (JN:vs.length<=100000)
  (uy:2<=vs.length->∀ h':Heap,(∀ b o,b≠a->s.heap.get? b=some o->h'.get? b=some o)->∀ Q:SortKind->Shared->Prop,Q κ {s with heap:=h'}->wpAny (model prog w) A (keyKind' vs.toArray) Q (fun _ _=>False) {s with heap:=h'})
  (JO:∀ h':Heap,(∀ b o,b≠a->s.heap.get? b=some o->h'.get? b=some o)->∀ k,1<=k->k < vs.length->∀ C:Bool->Shared->Prop,C false {s with heap:=h'}->wpAny (model prog w) A (keyLt' κ (vs.getD k Value.none) (vs.getD (k - 1) Value.none)) C (fun _ _=>False) {s with heap:=h'})
  (h:P (.done (.ret .none)) {s with heap:=sortedHeap s.heap a vs vs.toArray}):
  wpAny (model prog w) A (Builtin.«list.sort» ⟨[.ref a],[]⟩) P E s:=by
 rw [list_sort_plain]
 have ha:a < s.heap.objs.size:=Qz ho
 refine QT (listItems_at ho rfl ?_)
 refine QT (listUpdate_at ho rfl ?_)
 obtain ⟨e1,B_⟩:∃ e1,(s.heap.update a (Obj.mapSeq fun _=>#[])).get? a=some (seqObj "list" #[] e1):=⟨_,get?_update_seq ho (fun _=>#[])⟩
 refine QT (seqEpoch_at B_ rfl ?_)
 refine QT (wpAny_newTuple ?_)
 refine QT (wpAny_newList ?_)
 refine wpAny_holding ?_
 have G9:(((s.heap.update a (Obj.mapSeq fun _=>#[])).push (seqObj "tuple" vs.toArray 0)).push (seqObj "list" #[] 0)).get? a=some (seqObj "list" #[] e1):=by
  rw [Heap.get?_push_ne _ _ _ (by rw [size_push',Heap.size_update];exact Nat.ne_of_lt (Nat.lt_succ_of_lt ha)),Heap.get?_push_ne _ _ _ (by rw [Heap.size_update];exact Nat.ne_of_lt ha)]
  exact B_
 have keep:∀ b o,b≠a->s.heap.get? b=some o->(((s.heap.update a (Obj.mapSeq fun _=>#[])).push (seqObj "tuple" vs.toArray 0)).push (seqObj "list" #[] 0)).get? b=some o:=fun b o hb e=>
  Qc _ (Qc _ ((Heap.get?_update_other _ _ (Ne.symm hb)).trans e))
 show wpAny (model prog w) A _ P E {s with heap:=((s.heap.update a (Obj.mapSeq fun _=>#[])).push (seqObj "tuple" vs.toArray 0)).push (seqObj "list" #[] 0)}
 dsimp only
 have hsz:vs.toArray.size=vs.length:=by simp
 by_cases h2:vs.toArray.size < 2
 ·rw [if_pos h2,if_pos h2]
  refine QT (QU ?_)
  rw [StateT.run_pure]
  refine QT (QU ?_)
  dsimp only
  refine QT (seqEpoch_at G9 rfl ?_)
  refine QT (listUpdate_at G9 rfl ?_ (hsz2:=by rw [Array.size_map];show (pairsOf vs).size<=_;rw [pairsOf_size,QL];omega))
  simp only [bne_self_eq_false,Bool.false_eq_true,if_false]
  refine QU ?_
  have ez:(vs.toArray.zip vs.toArray).map (·.2)=vs.toArray:=by
   apply Array.toList_inj.mp
   simp [Array.toList_zip,List.map_snd_zip]
  show P (.done (.ret .none)) {s with heap:=sortedHeap s.heap a vs ((vs.toArray.zip vs.toArray).map (·.2))}
  rw [ez]
  exact h
 ·rw [if_neg h2,if_neg h2]
  have uh:2<=vs.length:=by omega
  refine QT (wpAny_mono (uy uh _ keep (fun κ' s'=>κ'=κ/\s'={s with heap:=((s.heap.update a (Obj.mapSeq fun _=>#[])).push (seqObj "tuple" vs.toArray 0)).push (seqObj "list" #[] 0)}) ⟨rfl,rfl⟩) (fun κ' s0 hk=>?_) fun _ _ x=>x.elim)
  obtain ⟨rfl,rfl⟩:=hk
  have B8:wpAny (model prog w) A (sortRuns'.run (SortSt.mk' κ' (vs.toArray.zip vs.toArray) #[] 7 none)) (fun r s'=>arrOf r.2=(List.toArray (List.range vs.length)).map (kas_item (vs.toArray.zip vs.toArray))/\failedOf r.2=none/\s'={s with heap:=((s.heap.update a (Obj.mapSeq fun _=>#[])).push (seqObj "tuple" vs.toArray 0)).push (seqObj "list" #[] 0)}) E {s with heap:=((s.heap.update a (Obj.mapSeq fun _=>#[])).push (seqObj "tuple" vs.toArray 0)).push (seqObj "list" #[] 0)}:=by
   have zy:SortSt.mk' κ' (vs.toArray.zip vs.toArray) #[] 7 none=kas_st κ' (vs.toArray.zip vs.toArray) (List.range vs.length).toArray:=by
    unfold kas_st
    have:=kas_range (vs.toArray.zip vs.toArray)
    rw [show (vs.toArray.zip vs.toArray).size=vs.length by simp] at this
    rw [this]
   rw [zy]
   refine Xm (Q:=fun _ st' s'=>arrOf st'=(List.toArray (List.range vs.length)).map (kas_item (vs.toArray.zip vs.toArray))/\failedOf st'=none/\s'={s with heap:=((s.heap.update a (Obj.mapSeq fun _=>#[])).push (seqObj "tuple" vs.toArray 0)).push (seqObj "list" #[] 0)}) uh (fun k k1 k2 C hC=>?_) fun st' h1 h2=>⟨h1,h2,rfl⟩
   rw [<- kat_ask_eq (ks:=vs) (vs:=vs) rfl]
   exact JO _ keep k k1 k2 C hC
  refine QT (wpAny_mono B8 ?_ fun _ _ e=>e)
  rintro ⟨⟨⟩,st'⟩ s' ⟨Xp,hf,rfl⟩
  dsimp only
  have NX:(arrOf st').map (·.2)=vs.toArray:=by
   rw [kat_snds rfl Xp]
   congr 1
   refine List.ext_getElem (by simp) fun i h1 h2=>?_
   simp [Qb,Qa h2]
  refine QT (seqEpoch_at G9 rfl ?_)
  refine QT (listUpdate_at G9 rfl ?_ (hsz2:=by rw [NX,hsz,QL];omega))
  rw [hf,NX]
  simp only [bne_self_eq_false,Bool.false_eq_true,if_false]
  exact QU h
theorem sZ {κ:SortKind} (hl:s.heap.IsList l vs.toArray) (JN:vs.length<=100000)
  (uy:2<=vs.length->∀ h':Heap,(∀ b o,s.heap.get? b=some o->h'.get? b=some o)->∀ Q:SortKind->Shared->Prop,Q κ {s with heap:=h'}->wpAny (model prog w) A.in1.in1 (keyKind' vs.toArray) Q (fun _ _=>False) {s with heap:=h'})
  (JO:∀ h':Heap,(∀ b o,s.heap.get? b=some o->h'.get? b=some o)->∀ k,1<=k->k < vs.length->∀ C:Bool->Shared->Prop,C false {s with heap:=h'}->wpAny (model prog w) A.in1.in1 (keyLt' κ (vs.getD k Value.none) (vs.getD (k - 1) Value.none)) C (fun _ _=>False) {s with heap:=h'})
  (h:Q (.ref (s.heap.objs.size+1)) {s with heap:=sortedAll s.heap vs vs.toArray}):
  wpAny (model prog w) A (call (.builtin "sorted") [.ref l]) Q E s:=by
 refine Calls.call_function_entry kind_sorted plain_sorted entry_sorted (args_sorted1 _) ?_
 unfold Builtin.«sorted»
 refine QT (m:=checkCount "sorted" 1 1 _) (QU ?_)
 refine QT (collect_list hl ?_)
 refine QT (wpAny_newList ?_)
 have hsz:((s.heap.push (seqObj "list" #[] 0)).update s.heap.objs.size (Obj.mapSeq (· ++vs.toArray))).objs.size=s.heap.objs.size+1:=by
  rw [Heap.size_update,size_push']
 have F4:(((s.heap.push (seqObj "list" #[] 0)).update s.heap.objs.size (Obj.mapSeq (· ++vs.toArray))).push (seqObj "list" vs.toArray 0)).get? (s.heap.objs.size+1)=some (seqObj "list" vs.toArray 0):=by
  rw [<- hsz];exact Qd _ rfl
 have keep:∀ b o,s.heap.get? b=some o->b≠s.heap.objs.size+1/\(((s.heap.push (seqObj "list" #[] 0)).update s.heap.objs.size (Obj.mapSeq (· ++vs.toArray))).push (seqObj "list" vs.toArray 0)).get? b=some o:=fun b o q=>by
  have ao:b < s.heap.objs.size:=Qz q
  refine ⟨Nat.ne_of_lt (Nat.lt_succ_of_lt ao),?_⟩
  rw [Heap.get?_push_ne _ _ _ (by rw [hsz];exact Nat.ne_of_lt (Nat.lt_succ_of_lt ao)),Heap.get?_update_ne _ _ _ _ (Nat.ne_of_lt ao),Heap.get?_push_ne _ _ _ (Nat.ne_of_lt ao)]
  exact q
 show wpAny _ _ _ _ _ {s with heap:=((s.heap.push (seqObj "list" #[] 0)).update s.heap.objs.size (Obj.mapSeq (· ++vs.toArray))).push (seqObj "list" vs.toArray 0)}
 rw [hsz]
 refine QT (wpAny_holding (wpAny_call_entry slot_list_sort ⟨_,F4,rfl⟩ entry_list_sort (mC (κ:=κ) F4 JN (fun h2 h' hk Q hq=>?_) (fun h' hk k k1 k2 C hC=>?_) ⟨_,rfl,?_⟩) (args_list_sort _)))
 ·exact uy h2 h' (fun b o e=>hk b o (keep b o e).1 (keep b o e).2) Q hq
 ·exact JO h' (fun b o e=>hk b o (keep b o e).1 (keep b o e).2) k k1 k2 C hC
 ·exact QU ⟨_,rfl,h⟩
abbrev Xq:=List (List Str)
structure FG (H:Hp) (us:List V) (F:List Xq):Prop where
 len:us.length=F.length
 at_:∀ i (h:i < us.length) (h':i < F.length),∃ c b ys rest,us[i]=.ref c/\H c=some (.tup (.ref b::rest))/\H b=some (.tup ys)/\SV H ys F[i]
def Xr:List V->Hp->VK->Prop:=fun xs H Q=>∃ l us F,xs=[.ref l]/\H l=some (.lst us)/\us.length<=100000/\FG H us F/\(∀ i (h:i+1 < F.length),Dl F[i] F[i+1])/\∀ L,H L=none->Q (.ref L) (upd H L (.lst us))
theorem nO (hu:X.A.units+20 < cLine):rn X (.builtin "sorted") Xr:=by
 intro pins s σ H xs nu Q I r h
 obtain ⟨l,us,F,rfl,hl,JN,fl,dc,q⟩:=h
 obtain ⟨u,rfl,ru⟩:=r.one
 cases ru
 obtain ⟨its,rv,pl,hz⟩:=I.list (af.of hl)
 have fi:=rv.length
 have aaK:=fl.len
 have pair:∀ i (h1:i < its.length) (h2:i < F.length),∃ c b ys o n rr,its[i]=.ref c/\s.heap.get? c=some o/\o.cls=.type "tuple"/\o.data=.seq (Value.ref b::rr).toArray n/\H b=some (.tup ys)/\SV H ys F[i]:=fun i h1 h2=>by
  obtain ⟨c,b,ys,rest,e1,e2,e3,e4⟩:=fl.at_ i (by omega) h2
  obtain ⟨w1,f1,q1⟩:=rv.get (Qa (show i < us.length by omega))
  rw [e1] at q1
  cases q1
  rw [Qa h1] at f1
  obtain ⟨i2,r2,p2,_⟩:=I.tuple (ae.of e2)
  cases r2 with
  | cons ra rb=>
   cases ra
   obtain ⟨o,g1,g2,n,g3⟩:=p2
   exact ⟨c,b,ys,o,n,_,QD f1,g1,g2,g3,e3,e4⟩
 refine sZ (κ:=tuples' false) pl.isList (by omega) (fun h2 h' hk Q' hq=>?_) (fun h' hk k k1 k2 C hC=>?_) ?_
 ·have I':Inv X pins σ H {s with heap:=h'}:=I.kept (t':=s.toks) hk
  obtain ⟨fs,JP⟩:=n5 (R:=fun v f=>(∃ a o xs n,v=Value.ref a/\h'.get? a=some o/\o.cls=Value.type "tuple"/\o.data=.seq xs n/\xs[0]? =some f)/\∃ b ys,f=Value.ref b/\H b=some (.tup ys)) its fun v hv=>by
   obtain ⟨i,hi,rfl⟩:=Qi hv
   obtain ⟨c,b,ys,o,n,rr,g0,g1,g2,g3,g4,g5⟩:=pair i hi (by omega)
   exact ⟨.ref b,⟨c,o,_,n,g0,hk _ _ g1,g2,g3,by simp⟩,b,ys,rfl,g4⟩
  have hfl:=Paired.length JP
  refine kat_kind (s:={s with heap:=h'}) (T:=.type "tuple") (uG (rV (fun _ _ h=>h.1) JP)) (by omega) (fun v hv=>?_) (by decide) hq
  obtain ⟨b,ys,rfl,hb⟩:=oI (P:=fun f=>∃ b ys,f=Value.ref b/\H b=some (.tup ys)) (fun _ _ h=>h.2) JP v hv
  obtain ⟨i2,r2,⟨o,g1,g2,_⟩,_⟩:=I'.tuple (ae.of hb)
  exact fun A' Q'' E' s' k' q'=>wpAny_typeOf ⟨o,k' _ _ g1,g2⟩ q'
 ·have I':Inv X pins σ H {s with heap:=h'}:=I.kept (t':=s.toks) hk
  obtain ⟨c,b,ys,o,n,rr,g0,g1,g2,g3,g4,g5⟩:=pair k (by omega) (by omega)
  obtain ⟨c',b',IT,o',n',Xs,Xu,Bf,E5,Xv,NY,NZ⟩:=pair (k - 1) (by omega) (by omega)
  have ek:its.getD k Value.none=.ref c:=by rw [Qb,Qa k2,g0];rfl
  have Xw:its.getD (k - 1) Value.none=.ref c':=by rw [Qb,Qa (by omega),Xu];rfl
  rw [ek,Xw]
  have hr:Dl (F[k - 1]'(by omega)) (F[k]'(by omega)):=by
   have:=dc (k - 1) (by omega)
   have e:k - 1+1=k:=by omega
   simp only [e] at this
   exact this
  refine kat_lt (s:={s with heap:=h'}) (hk _ _ g1) g3 (hk _ _ Bf) Xv ?_
  have N4:X.A.in1.in1.units+4 < cLine:=by rw [Around.in1_units,Around.in1_units];omega
  show KatLex _ _ _ _ _ _ ((Value.ref b,Value.ref b')::rr.zip Xs) 0 _
  refine kat_cons (xR I' NY g4 NZ g5 hr N4 _ _ _ _ (kat_no (kat_one _ _ ?_)))
  exact yO I' NY g4 NZ g5 hr N4 _ _ _ _ hC
 ·obtain ⟨e,he⟩:=sortedAll_at s.heap its its.toArray
  have hf:H (s.heap.objs.size+1)=none:=I.hok.fresh (Nat.le_succ _)
  refine ⟨.ref (s.heap.objs.size+1),_,I.laid (t':=s.toks) (a:=s.heap.objs.size+1) (o:=.lst us) (fun b o eo=>sortedAll_old eo) (Nat.le_succ _) ?_,rfl,q _ hf⟩
  exact ⟨by omega,its,e,rv,he⟩
end L2
namespace L2
open PySem PySem.Spec PyProof.Rows
theorem iz.strs (zs:List Str):iz H n (zs.map V.str) (zs.map Tv.s):=⟨by simp,fun j h1 h2=>by
 rw [Qr,Qr];exact TD.str⟩
theorem SV.Xx {us:List V} {R:List (List Str)} (h:SV H us R):iz H 1 us (R.map fun s=>.t (s.map Tv.s)):=⟨by simp [h.len],fun j h1 h2=>by
 obtain ⟨b,e,r⟩:=h.at_ j h1 (by simpa using h2)
 rw [e,Qr]
 exact TD.tup r (iz.strs _)⟩
theorem uW {F R:Addr} {us:List V} {rd:List (List Str)} (e:H F=some (.tup [.str z,.ref R])) (e2:H R=some (.tup us)) (sv:SV H us rd):TD H 3 (.ref F) (.t [.s z,.t (rd.map fun s=>.t (s.map Tv.s))]):=
 TD.tup (.inl e) (iz.cons TD.str (iz.cons (TD.tup (.inl e2) sv.Xx) iz.nil))
theorem cN (CY:Scope) (oN:List Str) (h:sc.kind=.function/\(∀ y∈sc.names,y.2≠.cell)/\(∀ y∈sc.names,y.2=.local->sc.names.lookup y.1=some .local)/\(∀ y∈sc.names,y.2=.free->(CY.names.lookup y.1=some .cell\/CY.names.lookup y.1=some .free))/\(∀ j∈idx,sc.names.lookup (oN.getD j "")=some .free/\j < oN.length)/\N'=own++idx.map (fun j=>oN.getD j "")):qt CY oN sc own idx N':=⟨h.1,h.2.1,h.2.2.1,h.2.2.2.1,h.2.2.2.2.1,h.2.2.2.2.2⟩
theorem bN {P:List Str} (h:sc.kind=.function/\sc.isCoroutine=false/\sc.isGenerator=false/\N.Nodup/\N.take P.length=P/\(∀ x∈P,sc.names.lookup x=some .local\/sc.names.lookup x=some .cell)/\∀ y∈sc.names,y.2≠.free):fb N P sc:=⟨h.1,h.2.1,h.2.2.1,h.2.2.2.1,h.2.2.2.2.1,h.2.2.2.2.2.1,h.2.2.2.2.2.2⟩
theorem wG (xs:Array Value):slicePick xs none none (some (-1))=xs.toList.reverse.toArray:=by
 unfold slicePick
 congr 1
 rw [<- yM xs]
 show (sliceRange ((xs.size:Int) - 1) (-1) (-1)).filterMap (xs[·]?)=_
 unfold sliceRange
 simp only [show ¬((-1:Int) > 0) by decide,if_false]
 rw [List.filterMap_map]
 have e:(if (xs.size:Int) - 1 > -1 then (((xs.size:Int) - 1) - (-1) - (-1) - 1) / (- -1) else 0).toNat=xs.size:=by
  have h1:(- -1:Int)=1:=rfl
  rw [h1,Int.ediv_one]
  split<;>omega
 rw [e]
 refine l7 fun k hk=>?_
 show xs[((xs.size:Int) - 1+ -1*(k:Int)).toNat]? =_
 have h2:((xs.size:Int) - 1+ -1*(k:Int))=((xs.size:Int) - 1+(k:Int)* -1):=by omega
 rw [h2]
section
variable {st:Expr} {ts:TE} {p2 pos:Pos}
def Xy (K:Q0) (te ts:TE):TE:=fun σ H Q=>te σ H fun x H1=>ts σ H1 fun y H2=>y=.int (-1)/\∃ a xs,x=.ref a/\af K H2 a xs/\∀ p,H2 p=none->Q (.ref p) (upd H2 p (.lst xs.reverse))
theorem Xz (K:Q0) (he:SE X e te) (hs:SE X st ts) (hK:X.K=K:=by rfl):SE X (.Subscript e (.Slice none none (some st) p2) pos) (Xy K te ts):=by
 subst hK
 constructor
 intro pins s σ H Q I h
 refine Subscript_ (av (he.h pins s σ H _ I h) ?_)
 rintro v s1 ⟨x,H1,I1,r1,q1⟩
 refine wpAny_Slice ?_
 rw [evalPart_none]
 refine QU ?_
 refine QU ?_
 rw [evalPart_some]
 refine av (hs.h pins s1 σ H1 _ I1 q1) ?_
 rintro u s3 ⟨y,H3,I3,ry,ey,a,xs,ex,hq,q⟩
 subst ey ex
 obtain ⟨tk,rfl⟩:=(show ∃ t,u=Value.int (-1) t from ry)
 cases r1
 have I4:Inv X pins σ H3 {s3 with heap:=s3.heap.push {cls:=.type "slice",data:=.fields #[.none,.none,.int (-1) tk]}}:=I3.kept (t':=s3.toks) fun b ob q=>Qc _ q
 obtain ⟨its,r,pl,hz⟩:=I4.list hq
 have hl:=pl.isList
 show wpAny (model X.prog X.w) X.A (subscriptTail e (.Slice none none (some st) p2) (.ref a) (.ref s3.heap.objs.size)) (EP X pins σ Q) X.xe {s3 with heap:=s3.heap.push {cls:=.type "slice",data:=.fields #[.none,.none,.int (-1) tk]}}
 refine tail_any (ops:=[.ref a,.ref s3.heap.objs.size]) hl.typeIs list_getitem_lookup (wpAny_getItem_list_slice (lo:=none) (hi:=none) (st:=some (-1)) hl (Heap.IsSliceOf.new ..) .none .none (.int _ _) (by simp) ?_ (by have:=r.length;simp;omega)) (by with_unfolding_all rfl)
 rw [wG]
 refine ⟨.ref _,_,I4.laid (t':=s3.toks) (o:=.lst xs.reverse) (fun b ob q=>Qc _ q) (Qy _) ?_,rfl,q _ (I4.hok.fresh (Qy _))⟩
 exact ⟨by simpa using hz,its.reverse,0,be.rev r,Qd _ rfl⟩
end
section
variable {t1 t2:Bool} {z TI TO c1 c2 l1 l2:Addr} {k1 k2:Nat} {xs ys:Array Value} {x y a b:Value}
end
section
variable {k:Nat} {Aa p pos:Pos} {a b:Expr}
end
end L2
namespace L2
open PySem PySem.Spec PyProof.Rows HT
end L2
namespace L2
open PySem PySem.Spec PyProof.Rows
open AutoSeq1 (wpAny_loadPart')
def Dt.XA (z:Str):Dt->Bool
 | .tup [.str y]=>y==z
 | _=>false
def E6 (h:Dt):Dt:=if h.XA "hole" then .tup [.str "all"] else h
def G_:Dt->Dt | .tup [a,h]=>.tup [a,E6 h] | d=>d
theorem DD.JQ {x y:V} {dx dy:Dt} (e:H b=some (.tup [x,y])) (h1:DD H x dx) (h2:DD H y dy):DD H (.ref b) (.tup [dx,dy]):=.tup e rfl (by simp) fun i a b=>by
 match i,a with
 | 0,_=>exact h1
 | 1,_=>exact h2
theorem DD.JR {x:V} {dx:Dt} (e:H b=some (.tup [x])) (h1:DD H x dx):DD H (.ref b) (.tup [dx]):=.tup e rfl (by simp) fun i a b=>by
 match i,a with
 | 0,_=>exact h1
def E7 (H3 H4:Hp) (ws:List V) (ds:List Dt):Prop:=∀ j (h:j < ws.length) (h':j < ds.length),∃ c x1 hv dx dy,ws[j]=.ref c/\H4 c=some (.tup [x1,hv])/\ds[j]=.tup [dx,dy]/\DD H3 x1 dx/\(DD H3 hv (E6 dy)\/∃ b,hv=.ref b/\H4 b=some (.tup [.str "all"])/\E6 dy=.tup [.str "all"])
theorem E7.add {H3 H4 H6:Hp} {ws:List V} {c:Addr} {x1 hv:V} {dx dy:Dt} (f:E7 H3 H4 ws ds) (tk:Tk H4 H6) (hl:ws.length < ds.length) (e:H6 c=some (.tup [x1,hv])) (ed:ds[ws.length]=.tup [dx,dy]) (h1:DD H3 x1 dx) (h2:DD H3 hv (E6 dy)\/∃ b,hv=.ref b/\H6 b=some (.tup [.str "all"])/\E6 dy=.tup [.str "all"]):E7 H3 H6 (ws++[.ref c]) ds:=fun j h h'=>by
 by_cases hj:j < ws.length
 ·obtain ⟨c',x',D7,As,XC,q1,q2,q3,q4,q5⟩:=f j hj h'
  refine ⟨c',x',D7,As,XC,by rw [Qe hj];exact q1,tk _ _ q2,q3,q4,q5.imp id fun ⟨b,r1,r2,r3⟩=>⟨b,r1,tk _ _ r2,r3⟩⟩
 ·have:j=ws.length:=by simp at h;omega
  subst this
  exact ⟨c,x1,hv,dx,dy,by simp,e,ed,h1,h2⟩
theorem E7.dd {H3 H4:Hp} {ws:List V} (f:E7 H3 H4 ws ds) (s:aa H3 H4) (j:Nat) (h:j < ws.length) (h':j < ds.length):DD H4 ws[j] (G_ ds[j]):=by
 obtain ⟨c,x1,hv,dx,dy,q1,q2,q3,q4,q5⟩:=f j h h'
 rw [q1,q3]
 refine DD.JQ q2 (q4.same s) ?_
 rcases q5 with q5 | ⟨b,rfl,q6,q7⟩
 ·exact q5.same s
 ·rw [q7];exact DD.JR q6 (.str (by decide))
def Hf (H H':Hp) (v:V) (d:Dt):Prop:=DD H v (G_ d)\/∃ c x1 b dx,v=.ref c/\H' c=some (.tup [x1,.ref b])/\H' b=some (.tup [.str "all"])/\DD H x1 dx/\G_ d=.tup [dx,.tup [.str "all"]]
theorem Hf.dd {v:V} (h:Hf H H' v d) (s:aa H H'):DD H' v (G_ d):=by
 rcases h with h | ⟨c,x1,b,dx,rfl,h2,h3,h4,h5⟩
 ·exact h.same s
 ·rw [h5];exact DD.JQ h2 (h4.same s) (DD.JR h3 (.str (by decide)))
def JS (H H':Hp) (ws:List V) (ds:List Dt):Prop:=∀ j (h:j < ws.length) (h':j < ds.length),Hf H H' ws[j] ds[j]
theorem JS.add {ws:List V} {v:V} (f:JS H H' ws ds) (hl:ws.length < ds.length) (h:Hf H H' v ds[ws.length]):JS H H' (ws++[v]) ds:=fun j a b=>by
 by_cases hj:j < ws.length
 ·rw [Qe hj];exact f j hj b
 ·have:j=ws.length:=by simp at a;omega
  subst this
  simpa using h
def Hd.E8:Hd->Bool | .one s=>s=="hole" | _=>false
def Hd.XD:Hd->Bool | .way _ _=>true | _=>false
def Hd.Hg (h:Hd):Hd:=if h.E8 then .one "all" else h
def N5 (r:ak):ak:=(r.1,r.2.Hg)
structure TH (H:Hp) (a:Addr) (xs:List V) (rows:List ak) (ns ws:List Str):Prop where
 at_:H a=some (.tup xs)
 rv:RV H xs rows
 nm:(rows.map (·.1)).Perm ns
 nd:ns.Nodup
 ok:MY ns (rows.map N5)
 wd:∀ n∈ns,Wd n
 ah:∀ r∈rows,A3 ns r.1 r.2.nx
 ww:∀ r∈rows,∀ z∈r.2.A2,z∈ws
 pos:1<=ns.length
 few:ns.length<=10
 nw:∀ r∈rows,r.2.XD=false
 hl:rows.countP (fun r=>r.2.E8)<=6
section
variable {xs:List V} {rows:List ak}
theorem TH.rl (h:TH H a xs rows ns ws):rows.length=ns.length:=by have:=h.nm.length_eq;simpa using this
theorem HV.ou {v:V} {h:Hd} (q:HV H v h) (ok:h.Hg.ok ns):DD H v h.dt:=by
 cases e:h.E8 with
 | false=>
  have:h.Hg=h:=by unfold Hd.Hg;rw [e];rfl
  rw [this] at ok
  exact (q.tx ok).dd
 | true=>
  cases q with
  | @one b s e1=>
   have:s="hole":=eq_of_beq e
   subst this
   exact DD.JR e1 (.str (by decide))
  | _=>cases e
theorem TH.dd (h:TH H a xs rows ns ws):DD H (.ref a) (.tup (rows.map Vu)):=by
 have A4:=h.rl
 have few:=h.few
 have hl:=h.rv.len
 refine .tup h.at_ (by simp [hl]) (by omega) fun i h1 h2=>?_
 have h3:i < rows.length:=by simpa using h2
 obtain ⟨b,v,q1,q2,q3⟩:=h.rv.at_ i h1 h3
 obtain ⟨m1,m2⟩:=h.ok (N5 rows[i]) (List.mem_map.mpr ⟨_,Qj h3,rfl⟩)
 have XE:isName rows[i].1=true:=m1
 rw [q1]
 simp only [Qr]
 exact DD.JQ q2 (.str (by have:=eA XE;omega)) (q3.ou m2)
end
end L2
namespace L2
open PySem PySem.Spec PyProof.Rows
open AutoSeq1 (wpAny_loadPart')
section
variable {o:Obj} {es:Array DictEntry} {items2:Array Value}
end
mutual
def Dt.oc:Dt->Nat
 | .str _=>0
 | .oz=>1
 | .tup ds=>N6 ds
def N6:List Dt->Nat
 | []=>0
 | d::r=>d.oc+N6 r
end
mutual
def Dt.dep:Dt->Nat
 | .str _=>0
 | .oz=>0
 | .tup ds=>N7 ds+1
def N7:List Dt->Nat
 | []=>0
 | d::r=>max d.dep (N7 r)
end
end L2
namespace L2
open PySem PySem.Spec PyProof.Rows
mutual
def Dt.cn:Dt->Nat
 | .str _=>1
 | .oz=>1
 | .tup ds=>N9 ds+1
def N9:List Dt->Nat
 | []=>0
 | d::r=>d.cn+N9 r
end
structure DX (P:Addr->Prop) (H:Hp) (m:Bool) (v:V) (d:Dt) (k c:Nat):Prop where
 ex:∃ p,DA P H m v p d/\p.depth<=k/\p.shown.length+2<=220*c/\p.showable=true/\d.cn<=c/\d.dep<=k
section
variable {P:Addr->Prop} {m:Bool} {v:V} {k k' c c':Nat}
theorem DX.dd (h:DX P H m v d k c):DD H v d:=let ⟨p,h1,_⟩:=h.ex;h1.dd
end
structure PX (H:Hp) (v:V) (d:Dt) (k c:Nat):Prop where
 ex:∃ p,TX H v d/\Ai H v p/\p.depth<=k/\p.shown.length+2<=220*c/\p.showable=true/\d.cn<=c/\d.dep<=k/\d.oc=0
section
variable {v:V} {k k' c c':Nat}
theorem PX.dd (h:PX H v d k c):DD H v d:=let ⟨_,h1,_⟩:=h.ex;h1.dd
inductive E9 (H:Hp) (k:Nat):List V->List Dt->Nat->Prop
 | nil:E9 H k [] [] 0
 | cons {v:V} {d:Dt} {c:Nat} {vs:List V} {ds:List Dt} {cs:Nat}:PX H v d k c->E9 H k vs ds cs->E9 H k (v::vs) (d::ds) (c+cs)
theorem E9.len {vs:List V} {cs:Nat} (h:E9 H k vs ds cs):vs.length=ds.length:=by
 induction h with
 | nil=>rfl
 | cons _ _ ih=>simp [ih]
end
theorem gK {k:Nat} (hr:fu k A):A.units+100 < cLine:=by have:=hr.un;omega
end L2
set_option maxHeartbeats 400000
--aaN 14
--SEE
namespace T1
open PySem L2
def top (i:Nat):Stmt:=PySem.Challenge.pw_coilkind_k20_alike_or_parted.main.body.getD i (.Pass ⟨0,0,0,0⟩)
abbrev fL:Stmt:=top 2
abbrev jA:Stmt:=top 3
abbrev fV:Stmt:=top 4
abbrev fS:Stmt:=top 10
abbrev fF:Stmt:=top 11
abbrev gE:Stmt:=top 12
abbrev nW:Stmt:=top 14
abbrev g7:Stmt:=top 15
abbrev eG:Stmt:=top 16
abbrev fQ:Stmt:=top 17
abbrev lR:Stmt:=top 18
abbrev cS:Stmt:=top 19
abbrev g9:Stmt:=top 20
abbrev iC:Stmt:=top 22
abbrev iG:Stmt:=top 23
abbrev fK:Stmt:=top 24
abbrev eK:Stmt:=top 25
abbrev fW:Stmt:=top 26
abbrev eX:Stmt:=top 27
abbrev jF:Stmt:=top 28
abbrev bZ:Stmt:=top 29
abbrev iH:Stmt:=top 30
abbrev fE:Stmt:=top 31
abbrev jM:Stmt:=top 32
abbrev dU:Stmt:=top 33
abbrev dB:Stmt:=top 34
abbrev eZ:Stmt:=top 35
abbrev cJ:Stmt:=top 36
abbrev cH:Stmt:=top 37
abbrev lU:Stmt:=top 38
abbrev cW:Stmt:=inClass (top 9) 0
structure Txt (K:Q0) (mg:Str->Option Value) (w:World):Prop where
 u_:mg "len"=none
 dF:mg "isinstance"=none
 oG:mg "range"=none
 XF:mg "bool"=none
 tJ:mg "list"=none
 dH:mg "tuple"=none
 oU:mg "dict"=none
 yL:mg "sorted"=none
 JT:mg "zip"=none
 yC:∃ a,mg "WORDED"=some (.ref a)/\∀ H,ae K H a [.str "box",.str "pick"]
 sF:∃ u,mg "FROM"=some u/\RelV (.ref (adr mg "FROM")) u
 JU:∃ u,mg "TO"=some u/\RelV (.ref (adr mg "TO")) u
 iT:∃ a,mg "STEP_WORDS"=some (.ref a)/\KD w K a [(.inr "box",.str "part"),(.inr "pick",.str "case")]
 tF:dm K mg "heads_of" fL ["T"]
 wM:dm K mg "rows_of" jA ["T"]
 uB:dm K mg "names_in" fV ["head"]
 tQ:dm K mg "steps_in" fS ["head"]
 u7:dm K mg "moves_in" fF ["head","rows"]
 pX:dm K mg "road_back" gE ["trail","at"]
 XG:dm K mg "alike" nW ["T","x","S","y"]
 pP:dm K mg "are_alike" g7 ["T","x","S","y"]
 lS:dm K mg "parting_road" eG ["left","right","first"]
 oX:dm K mg "put_in_one" fQ ["above","a","b"]
 yX:dm K mg "top_of" lR ["above","thing"]
 kX:dm K mg "pairs_behind" cS ["left","right","pair"]
 qG:dm K mg "pairs_met" g9 ["left","right","first"]
 tR:dm K mg "_law_fill" iC ["_law_cell","_law_at"]
 tN:dm K mg "_law_next" iG ["_law_pen","_law_many"]
 o7:dm K mg "_law_turned" fK ["_law_pen","_law_some"]
 pS:dm K mg "_law_words" eK ["_law_pen"]
 uC:dm K mg "_law_head" fW ["_law_pen","_law_names","_law_ahead"]
 mE:dm K mg "_law_telling" eX ["_law_pen","_law_most"]
 xK:dm K mg "_law_any" jF ["_law_pen","_law_told"]
 k9:dm K mg "_law_twin_head" bZ ["_law_pen","_law_here"]
 uF:dm K mg "_law_twin" iH ["_law_pen","_law_told"]
 sV:dm K mg "_law_bent" fE ["_law_pen","_law_told"]
 xN:dm K mg "_law_two" jM ["_law_pen","_law_most"]
 kW:dm K mg "_law_row_here" dU ["_law_told","_law_name"]
 kE:dm K mg "_law_head_here" dB ["_law_told","_law_name"]
 xV:dm K mg "_law_on" eZ ["_law_told","_law_name"]
 mD:dm K mg "_law_parting" cJ ["_law_told","_law_name","_law_other","_law_twin_name"]
 lN:dm K mg "_law_is_paper" cH ["_law_told","_law_name","_law_other","_law_twin_name","_law_paper"]
 N_:dm K mg "law" lU ["script"]
 yg:EG K mg "Net" "Net.__init__" cW ["self","T"] ["rows","heads","marks","moves"] (adr mg "Net")
theorem qM:fb ["self","T"] ["self","T"] (bg cW):=bN (by decide+kernel)
theorem pW:fb ["T"] ["T"] (bg fL):=bN (by decide+kernel)
theorem cZ:fb ["T","heads","rows","name","row"] ["T"] (bg jA):=bN (by decide+kernel)
theorem qY:fb ["head"] ["head"] (bg fV):=bN (by decide+kernel)
theorem qW:fb ["head"] ["head"] (bg fS):=bN (by decide+kernel)
theorem pM:fb ["head","rows"] ["head","rows"] (bg fF):=bN (by decide+kernel)
theorem dO:fb ["trail","at","steps","step"] ["trail","at"] (bg gE):=bN (by decide+kernel)
theorem iW:fb ["T","x","S","y","left","right","first","road"] ["T","x","S","y"] (bg nW):=bN (by decide+kernel)
theorem iS:fb ["T","x","S","y","left","right"] ["T","x","S","y"] (bg g7):=bN (by decide+kernel)
theorem bA:fb ["left","right","first","pairs","trail","above","at","a","b","step","pair"] ["left","right","first"] (bg eG):=bN (by decide+kernel)
theorem i6:fb ["above","a","b","top","other"] ["above","a","b"] (bg fQ):=bN (by decide+kernel)
theorem jD:fb ["above","thing","upper"] ["above","thing"] (bg lR):=bN (by decide+kernel)
theorem dD:fb ["left","right","pair","a","b"] ["left","right","pair"] (bg cS):=bN (by decide+kernel)
theorem bX:fb ["left","right","first","pairs","seen","at","step","pair"] ["left","right","first"] (bg g9):=bN (by decide+kernel)
theorem gG:fb ["_law_cell","_law_at","_law_x"] ["_law_cell","_law_at"] (bg iC):=bN (by decide+kernel)
theorem cP:fb ["_law_pen","_law_many","_law_at","_law_cell","_law_found"] ["_law_pen","_law_many"] (bg iG):=bN (by decide+kernel)
theorem eQ:fb ["_law_pen","_law_some","_law_left","_law_found"] ["_law_pen","_law_some"] (bg fK):=bN (by decide+kernel)
theorem pA:fb ["_law_pen"] ["_law_pen"] (bg eK):=bN (by decide+kernel)
theorem gU:fb ["_law_pen","_law_names","_law_ahead","_law_way","_law_one"] ["_law_pen","_law_names","_law_ahead"] (bg fW):=bN (by decide+kernel)
theorem cF:fb ["_law_pen","_law_most","_law_size","_law_names","_law_rows","_law_k"] ["_law_pen","_law_most"] (bg eX):=bN (by decide+kernel)
theorem sI:fb ["_law_pen","_law_told"] ["_law_pen","_law_told"] (bg jF):=bN (by decide+kernel)
theorem j9:fb ["_law_pen","_law_here"] ["_law_pen","_law_here"] (bg bZ):=bN (by decide+kernel)
theorem eJ:fb ["_law_pen","_law_told","_law_rows","_law_name","_law_here"] ["_law_pen","_law_told"] (bg iH):=bN (by decide+kernel)
theorem eO:fb ["_law_pen","_law_told","_law_at","_law_names","_law_row"] ["_law_pen","_law_told"] (bg fE):=bN (by decide+kernel)
theorem eB:fb ["_law_pen","_law_most","_law_told","_law_name","_law_way","_law_other"] ["_law_pen","_law_most"] (bg jM):=bN (by decide+kernel)
theorem dC:fb ["_law_told","_law_name","_law_rows"] ["_law_told","_law_name"] (bg dU):=bN (by decide+kernel)
theorem jP:fb ["_law_told","_law_name"] ["_law_told","_law_name"] (bg dB):=bN (by decide+kernel)
theorem dQ:fb ["_law_told","_law_name","_law_here","_law_found"] ["_law_told","_law_name"] (bg eZ):=bN (by decide+kernel)
theorem aT:fb ["_law_told","_law_name","_law_other","_law_twin_name","_law_layer","_law_met","_law_later","_law_road","_law_a","_law_b","_law_ones","_law_others","_law_one","_law_two_here"] ["_law_told","_law_name","_law_other","_law_twin_name"] (bg cJ):=bN (by decide+kernel)
theorem bI:fb ["_law_told","_law_name","_law_other","_law_twin_name","_law_paper","_law_rows","_law_others","_law_pair","_law_a","_law_b","_law_ones","_law_twos","_law_one","_law_two_here"] ["_law_told","_law_name","_law_other","_law_twin_name","_law_paper"] (bg cH):=bN (by decide+kernel)
theorem dX:fb ["script","_law_pen","_law_k","_law_told","_law_name","_law_other","_law_twin_name","_law_due","_law_turn","_law_found","_law_said"] ["script"] (bg lU):=bN (by decide+kernel)
def XH (K:Q0) (mg:Str->Option Value) (w:World):Prop:=∃ ts:List (Addr×Obj×List V),(∀ t∈ts,EF K t)/\(ts.map (·.1)).Nodup/\Txt (without K (ts.map (·.1))) mg w/\∀ H:Hp,(∀ t∈ts,H t.1=some (.au t.2.1 (.tup t.2.2)))->Kn mg H "FROM" [.str "from"]/\Kn mg H "TO" [.str "to"]
section
variable {K:Q0}
def Oa:Sp:=fun vs H Q _=>∃ c t:Int,vs=[.int c,.int t]/\(0<=t/\t < 1000000000)/\∀ r:Int,Q (.int r) H
theorem qH (T:Txt K mg w):bc P w K mg base 1 "_law_fill" ["_law_cell","_law_at"] Oa:=by
 refine T.tR.gf gG (fun vs H Q E h=>?_) (fun f a_ A outer s H vs Q E hr h=>?_)
 ·obtain ⟨c,t,rfl,_⟩:=h
  rfl
 ·obtain ⟨c,t,rfl,⟨Hh,JV⟩,k⟩:=h
  refine ⟨_,(aD (bW (aP UB (zv 0) (bY UA aH aH) (e_ _)) (aG (aQ (zv 0))) aZ)
   (aD (aS (i:=2) gG.nd rfl (Or.inl rfl) (bY eP (bY bS (bY bS (bY dJ (bY eP (zv 0) aH) aH) (bY dJ (zv 1) aH)) aH) aH))
   (aD (aS (i:=2) gG.nd rfl (Or.inl rfl) (bY eP (bY bS (bY bS (bY dJ (zv 2) (zv 2)) (bY dJ aH (zv 2))) (zv 1)) aH))
   (aG (aQ (bY bS (bY dJ (zv 2) aH) (bY eP (bY bS (bY dJ (zv 2) (zv 2)) (bY dJ aH (zv 1))) aH))))))),?_⟩
  refine ⟨⟨by decide,by decide,by decide⟩,_,rfl,Gi (fun hk=>k _) (fun hk=>?_)⟩
  refine ⟨by decide,.inl ⟨?_,?_⟩,.inl ⟨by omega,by omega⟩,by decide,?_⟩
  ·have:=Int.emod_nonneg c (show (2147483647:Int)≠0 by decide);omega
  ·have:=Int.emod_lt_of_pos c (show (0:Int) < 2147483647 by decide);omega
  generalize hx:(c % 2147483647*48271+t*69621+11) % 2147483629=x
  have hx0:0<=x:=by rw [<- hx];exact Int.emod_nonneg _ (by decide)
  have hx1:x < 2147483629:=by rw [<- hx];exact Int.emod_lt_of_pos _ (by decide)
  refine ⟨.inl ⟨by omega,by omega⟩,.inl ⟨by decide,by decide⟩,by decide,?_⟩
  generalize hy:(x*x+48271*x+t) % 2147483587=y
  have hy0:0<=y:=by rw [<- hy];exact Int.emod_nonneg _ (by decide)
  have hy1:y < 2147483587:=by rw [<- hy];exact Int.emod_lt_of_pos _ (by decide)
  exact ⟨.inl ⟨by omega,by omega⟩,.inl ⟨by omega,by omega⟩,.inl ⟨by decide,by decide⟩,by decide,k _⟩
def XI (K:Q0):Sp:=fun vs H Q _=>∃ (p a:Addr) (ns:List Int) (m t x:Int),vs=[.ref p,.int m]/\H p=some (.lst [.ref a,.int t,.int x])/\(∀ o,af K (upd H p o) a (ns.map V.int))/\af K H a (ns.map V.int)/\(0<=t/\t < 1000000)/\(0 < m/\m < 1073741824)/\
 ∀ r t' x':Int,0<=r->r < m->0<=t'->t'<=t+1->Q (.int r) (upd H p (.lst [.ref a,.int t',.int x']))
theorem E_ (x y z:α):lq [x,y,z] 0=some x:=rfl
theorem XJ (x y z:α):lq [x,y,z] 1=some y:=rfl
theorem JW (x y z:α):lq [x,y,z] 2=some z:=rfl
theorem qE (T:Txt K mg w):bc P w K mg base 2 "_law_next" ["_law_pen","_law_many"] (XI K):=by
 have tS:bc P w K mg base 1 "_law_fill" ["_law_cell","_law_at"] Oa:=qH T
 refine T.tN.gf cP (fun vs H Q E h=>?_) (fun f a_ A outer s H vs Q E hr h=>?_)
 ·refine hdn fun Gz9 zG9=>?_;obtain ⟨p,a,ns,m,t,x,rfl,_⟩:=h;refine zG9 ?_
  rfl
 ·refine hdn fun Gz9 zG9=>?_;obtain ⟨p,a,ns,m,t,x,rfl,hp,hS',hS,⟨Hh,JV⟩,⟨Du,Ba⟩,k⟩:=h;refine zG9 ?_
  refine ⟨_,(aD (bW (aP iJ (bD (bC K) (zv 0) aH (fun _ _=>rfl)) (zv 1) (e_ _)) (aD (aS (i:=2) cP.nd rfl (Or.inl rfl) (bD (bC K) (zv 0) aH (fun _ _=>rfl)))
   (aD (aS (i:=3) cP.nd rfl (Or.inl rfl) aH)
   (aD (bW (aP iJ (zv 2) (bO (bM K) (by rfl) T.u_ PySem.boot_len (aI (bD (bC K) (zv 0) aH (fun _ _=>rfl)) aC)) (e_ _)) (aG (aS (i:=3) cP.nd rfl (Or.inl rfl) (bD (bC K) (bD (bC K) (zv 0) aH (fun _ _=>rfl)) (zv 2) (fun _ _=>rfl)))) (aG (bW (aP zM (bO (bM K) (by rfl) T.u_ PySem.boot_len (aI (bD (bC K) (zv 0) aH (fun _ _=>rfl)) aC)) aH (e_ _)) (aG (aS (i:=3) cP.nd rfl (Or.inl rfl) (bY bS (bY eP (bD (bC K) (bD (bC K) (zv 0) aH (fun _ _=>rfl)) (bY eP (bY dJ (zv 2) aH) (bO (bM K) (by rfl) T.u_ PySem.boot_len (aI (bD (bC K) (zv 0) aH (fun _ _=>rfl)) aC))) (fun _ _=>rfl)) aH) (bY dJ (zv 2) aH)))) aZ)))
   (aD (jV (bY bS (zv 2) aH) (zJ (zv 0) aH lE))
   (aG (jV (bF tS (hr.mono (by decide)) (aB (zv 3) (aB (zv 2) aC))) (zJ (zv 0) aH lE))))))) aZ)
   (aD (aS (i:=4) cP.nd rfl (Or.inl rfl) (bY eP (bD (bC K) (zv 0) aH (fun _ _=>rfl)) (zv 1)))
   (aD (jV (bY Uy (bD (bC K) (zv 0) aH (fun _ _=>rfl)) (zv 1)) (zJ (zv 0) aH lE))
   (aG (aQ (zv 4)))))),?_⟩
  refine aU (fun σ' H1=>∃ (v2 v3:Option V) (t' x':Int),σ'=[some (.ref p),some (.int m),v2,v3,none]/\H1 p=some (.lst [.ref a,.int t',.int x'])/\(H1=H\/∃ o,H1=upd H p o)/\0<=t'/\t'<=t+1) ?_ ?_
  ·intro nx ef
   refine ⟨_,.int x,.inl (af.of hp),JW _ _ _,_,rfl,Gi (fun hk=>?_) (fun hk=>?_)⟩
   ·refine aM ⟨_,.int t,.inl (af.of hp),XJ _ _ _,?_⟩
    refine jH ?_
    refine aU (fun σ' H1=>H1=H/\∃ c:Int,σ'=[some (.ref p),some (.int m),some (.int t),some (.int c),none]) ?_ ?_
    ·intro XM Cf
     refine ⟨_,.ref a,.inl (af.of hp),E_ _ _ _,.inl ⟨_,.inl hS,_,rfl,Gi (fun hl=>?_) (fun hl=>?_)⟩⟩
     ·obtain ⟨c,ki,lh⟩:=lL (ns.map V.int) t Hh (by have:=Qt hl;omega)
      have A_:t.toNat < ns.length:=by
       have:=Qt hl
       rw [Ql] at this;omega
      have hc:c=.int (ns[t.toNat]):=by
       rw [Qq,Qa A_] at ki
       exact (QD ki).symm
      subst hc
      exact ⟨_,.ref a,.inl (af.of hp),E_ _ _ _,_,_,.inl hS,lh,Cf _ _ ⟨rfl,_,rfl⟩⟩
     ·refine ⟨_,.ref a,.inl (af.of hp),E_ _ _ _,.inl ⟨_,.inl hS,_,rfl,Gi (fun ue=>?_) (fun ue=>?_)⟩⟩
      ·have XN:=Qt ue
       have hlp:0 < (ns.map V.int).length:=by omega
       have e0:=Int.emod_nonneg (t*7) (show ((ns.map V.int).length:Int)≠0 by omega)
       have e1:=Int.emod_lt_of_pos (t*7) (show (0:Int) < (ns.map V.int).length by omega)
       obtain ⟨c,ki,lh⟩:=lL (ns.map V.int) (t*7 % ((ns.map V.int).length:Int)) e0 e1
       have A_:(t*7 % ((ns.map V.int).length:Int)).toNat < ns.length:=by
        have e2:(ns.map V.int).length=ns.length:=Ql _
        omega
       have hc:c=.int (ns[(t*7 % ((ns.map V.int).length:Int)).toNat]):=by
        rw [Qq,Qa A_] at ki
        exact (QD ki).symm
       subst hc
       refine ⟨_,.ref a,.inl (af.of hp),E_ _ _ _,.inl ⟨by omega,by omega⟩,_,.ref a,.inl (af.of hp),E_ _ _ _,.inl ⟨_,.inl hS,XN,_,_,.inl hS,lh,by decide,.inl ⟨by omega,by omega⟩,Cf _ _ ⟨rfl,_,rfl⟩⟩⟩
      ·exact Cf _ _ ⟨rfl,0,rfl⟩
    ·rintro σ' H1 ⟨rfl,c,rfl⟩
     refine ⟨p,_,1,1,rfl,rfl,hp,rfl,?_⟩
     refine ⟨c,t,rfl,⟨Hh,by omega⟩,fun r=>?_⟩
     refine ⟨p,_,2,2,rfl,rfl,aA,rfl,?_⟩
     rw [kO]
     exact ef _ _ ⟨_,_,t+1,r,rfl,aA,.inr ⟨_,rfl⟩,by omega,by omega⟩
   ·exact ef _ _ ⟨none,none,t,x,rfl,hp,.inl rfl,Hh,by omega⟩
  ·rintro σ' H1 z0;refine hdn fun Gz9 zG9=>?_;obtain ⟨v2,v3,t',x',rfl,h1,h2,h3,h4⟩:=z0;refine zG9 ?_
   refine ⟨_,.int x',.inl (af.of h1),JW _ _ _,Du,?_⟩
   refine ⟨_,.int x',.inl (af.of h1),JW _ _ _,⟨Du,Ba⟩,p,_,2,2,rfl,rfl,h1,rfl,?_⟩
   have e:∀ o,upd H1 p o=upd H p o:=fun o=>by
    rcases h2 with rfl | ⟨o',rfl⟩
    ·rfl
    ·exact kO
   rw [e]
   exact k _ t' _ (Int.emod_nonneg _ (by omega)) (Int.emod_lt_of_pos _ Du) h3 h4
structure ck (K:Q0) (H0 H:Hp) (p:Addr) (t:Nat):Prop where
 ex:∃ (a:Addr) (ns:List Int) (u x:Int),H p=some (.lst [.ref a,.int u,.int x])/\(∀ H',Sm p p H0 H'->af K H' a (ns.map V.int))/\0<=u/\u<=(t:Int)
 sm:Sm p p H0 H
section
variable {t u:Nat}
theorem ck.mono (h:ck K H0 H p t) (l:t<=u):ck K H0 H p u:=by
 refine hdn fun Gz9 zG9=>?_;obtain ⟨a,ns,y,x,h1,h2,h3,h4⟩:=h.ex;refine zG9 ?_
 exact ⟨⟨a,ns,y,x,h1,h2,h3,by omega⟩,h.sm⟩
theorem ck.same (h:ck K H0 H p t) (s:aa H H'):ck K H0 H' p t:=by
 obtain ⟨a,ns,y,x,h1,h2⟩:=h.ex
 exact ⟨⟨a,ns,y,x,s _ _ h1,h2⟩,h.sm.trans s.sm⟩
theorem ck.ne (h:ck K H0 H p t) (hD:H D=none):D≠p:=fun e=>by
 obtain ⟨_,_,_,_,z,_⟩:=h.ex
 rw [<- e,hD] at z;cases z
theorem ck.free (h:ck K H0 H p t) (hD:H D=none):H0 D=none:=h.sm.free hD (h.ne hD) (h.ne hD)
theorem ck.put (h:ck K H0 H p t) (h1:D≠p) (h2:H0 D=none):ck K H0 (upd H D o) p t:=by
 obtain ⟨a,ns,y,x,e1,e2⟩:=h.ex
 exact ⟨⟨a,ns,y,x,by rw [aE h1.symm];exact e1,e2⟩,h.sm.upd h2⟩
theorem ck.ts (h:ck K H0 H p t) (s:Sm p p H H'):Tk H H':=fun b xs e=>by
 obtain ⟨_,_,_,_,z,_⟩:=h.ex
 have n:b≠p:=fun q=>by rw [q,z] at e;cases e
 exact s _ _ e n n
end
def ze (K:Q0):Sp:=fun vs H Q _=>∃ (H0:Hp) (p:Addr) (m:Int) (t:Nat),vs=[.ref p,.int m]/\ck K H0 H p t/\(0 < m/\m < 1073741824)/\t < 900000/\
 ∀ (r:Int) (H':Hp),0<=r->r < m->ck K H0 H' p (t+1)->Sm p p H H'->Q (.int r) H'
theorem XO (h:j < n):Ab n (j:Int)=some j:=by
 unfold Ab
 rw [if_pos (by omega),if_pos (by omega)];simp
theorem kY {α:Type}:∀ {ls:List α} {i:Nat} (h:i < ls.length),(ls[i]::ls.eraseIdx i).Perm ls
 | x::r,0,_=>List.Perm.refl _
 | x::r,i+1,h=>by
  have ih:=kY (ls:=r) (i:=i) (by simpa using h)
  exact (List.Perm.swap _ _ _).trans (ih.cons x)
theorem bQ (T:Txt K mg w):bc P w K mg base 2 "_law_next" ["_law_pen","_law_many"] (ze K):=(qE T).imp fun vs H Q E h=>by
 refine hdn fun Gz9 zG9=>?_;obtain ⟨H0,p,m,t,rfl,hn,hm,ht,k⟩:=h;refine zG9 ?_
 refine hdn fun Gz9 zG9=>?_;obtain ⟨a,ns,u,x,h1,h2,h3,h4⟩:=hn.ex;refine zG9 ?_
 have sU:∀ o,Sm p p H (upd H p o):=fun o b u hb n _=>by rw [aE n];exact hb
 refine ⟨p,a,ns,m,u,x,rfl,h1,fun o=>h2 _ (hn.sm.trans (sU o)),h2 _ hn.sm,⟨h3,by omega⟩,hm,fun r t' x' r0 r1 t0 t1=>?_⟩
 exact k r _ r0 r1 ⟨⟨a,ns,t',x',aA,h2,t0,by push_cast;omega⟩,hn.sm.trans (sU _)⟩ (sU _)
def JX (K:Q0):Sp:=fun vs H Q _=>∃ (H0:Hp) (p a:Addr) (xs:List V) (t:Nat),vs=[.ref p,.ref a]/\ck K H0 H p t/\t+100 < 900000/\(af K H a xs\/ae K H a xs)/\xs.length<=100/\
 ∀ (L:Addr) (ys:List V) (H':Hp),H L=none->H' L=some (.lst ys)->ys.Perm xs->ck K H0 H' p (t+100)->Sm p p H H'->Q (.ref L) H'
theorem i8 (T:Txt K mg w):bc P w K mg base 3 "_law_turned" ["_law_pen","_law_some"] (JX K):=by
 have aR:bc P w K mg base 2 "_law_next" ["_law_pen","_law_many"] (ze K):=bQ T
 refine T.o7.gf eQ (fun vs H Q E h=>?_) (fun f a_ A outer s H vs Q E hr h=>?_)
 ·obtain ⟨H0,p,a,xs,t,rfl,_⟩:=h
  rfl
 ·refine hdn fun Gz9 zG9=>?_;obtain ⟨H0,p,a,xs,t,rfl,hn,ht,ha,hx,k⟩:=h;refine zG9 ?_
  have hu:=aV hr
  have dj:=Qx (aV hr)
  have hsz:sizeLine=16777216:=QL
  refine ⟨_,(aD (aS (i:=2) eQ.nd rfl (Or.inl rfl) (bV (mS K) (by rfl) T.tJ PyProof.Rows.boot_list (aB (zv 1) aC)))
   (aD (aS (i:=3) eQ.nd rfl (Or.inl rfl) (cM aC))
   (aD (eI PassesOwn.never (aP (fJ dj) (zv 2) (cM aC) (e_ _)) (aG (dR (mF K QH QJ QK cB (zv 3) (aN (mF K QH PySem.F.slot_list_pop PySem.F.type_list_pop yA (zv 2) (aN (bF aR (hr.mono (by decide)) (aB (zv 0) (aN (bO (bM K) (by rfl) T.u_ PySem.boot_len (aB (zv 2) aC)) aC))) aC)) aC)))))
   (aG (aQ (zv 3)))))),?_⟩
  refine aM ⟨a,xs,rfl,ha,fun l0 jk=>?_⟩
  refine aM ⟨(show 0<=sizeLine by decide),fun l1 kj=>?_⟩
  have s1:=aa.upd jk (.lst xs)
  have s2:=aa.upd kj (.lst [])
  have e0:l0≠p:=hn.ne jk
  have e1:l1≠p:=(hn.same s1).ne kj
  have Ob:l0≠l1:=aO aA kj
  have f0:=hn.free jk
  have f1:=(hn.same s1).free kj
  have g0:upd (upd H l0 (.lst xs)) l1 (.lst []) l0=some (.lst xs):=s2 _ _ aA
  have g1:upd (upd H l0 (.lst xs)) l1 (.lst []) l1=some (.lst []):=aA
  have hn2:=(hn.same s1).same s2
  have vc:Sm p p H (upd (upd H l0 (.lst xs)) l1 (.lst [])):=(s1.trans s2).sm
  dsimp only
  generalize upd (upd H l0 (.lst xs)) l1 (.lst [])=H2 at g0 g1 hn2 vc
  have XQ:H l0=none:=jk
  have Oc:H l1=none:=s1.free kj
  refine aU (fun σ' H'=>∃ ys,σ'=[some (.ref p),some (.ref a),some (.ref l0),some (.ref l1)]/\H' l1=some (.lst ys)/\ys.Perm xs/\ck K H0 H' p (t+100)/\Sm p p H H') ?_ ?_
  ·intro nx ef
   refine ⟨fun m σ' H'=>∃ (ls ys:List V),σ'=[some (.ref p),some (.ref a),some (.ref l0),some (.ref l1)]/\H' l0=some (.lst ls)/\H' l1=some (.lst ys)/\ls.length=m/\(ys++ls).Perm xs/\ck K H0 H' p (t+ys.length)/\Sm p p H H',⟨xs.length,xs,[],rfl,g0,g1,rfl,by simp,hn2,vc⟩,?_⟩
   rintro m σ' H3 z0;refine hdn fun Gz9 zG9=>?_;obtain ⟨ls,ys,rfl,q0,q1,q2,q3,q4,q5⟩:=z0;refine zG9 ?_
   have hyl:ys.length+ls.length=xs.length:=by have:=q3.length_eq;rw [Qk] at this;exact this
   refine ⟨(show 0<=sizeLine by decide),fun b hb=>⟨aO q0 hb,ls,(aa.upd hb _) _ _ q0,aA,_,rfl,dw (fun c=>?_) (fun c=>?_)⟩⟩
   ·have s3:=aa.upd hb (.lst [])
    have Ds:=q4.same s3
    have Bd:=s3 _ _ q0
    have JY:=s3 _ _ q1
    have Od:=q5.trans s3.sm
    generalize upd H3 b (.lst [])=H4 at Ds Bd JY Od
    have aaV:0 < ls.length:=by
     cases ls with
     | nil=>exact absurd c (by decide)
     | cons x r=>simp
    refine ⟨fun σ' Au=>∃ m',m' < m/\∃ (ls ys:List V),σ'=[some (.ref p),some (.ref a),some (.ref l0),some (.ref l1)]/\Au l0=some (.lst ls)/\Au l1=some (.lst ys)/\ls.length=m'/\(ys++ls).Perm xs/\ck K H0 Au p (t+ys.length)/\Sm p p H Au,fun σ' Au h=>h,?_⟩
    refine ⟨.inl ⟨rfl,ys,af.of JY⟩,.inl ⟨rfl,ls,af.of Bd⟩,.inl ⟨ls,.inl (af.of Bd),H0,p,_,_,rfl,Ds,⟨by omega,by omega⟩,by omega,fun r H5 r0 r1 rh gy=>?_⟩⟩
    obtain ⟨i,rfl⟩:∃ i:Nat,r=(i:Int):=⟨r.toNat,by omega⟩
    have hi:i < ls.length:=by omega
    have p0:=gy _ _ Bd e0 e0
    have p1:=gy _ _ JY e1 e1
    refine ⟨l0,ls,(i:Int),i,ls[i],rfl,rfl,p0,by omega,by omega,(nP (XO hi)).1,Qa hi,l1,ys,ls[i],rfl,rfl,by rw [aE Ob.symm];exact p1,by omega,ls.length - 1,by omega,ls.eraseIdx i,ys++[ls[i]],rfl,by rw [aE Ob];exact aA,aA,?_,?_,?_,(Od.trans gy).upd XQ |>.upd Oc⟩
    ·rw [List.length_eraseIdx,if_pos hi]
    ·rw [QQ]
     exact ((kY hi).append_left ys).trans q3
    ·rw [Qk]
     exact (rh.put e0 f0).put e1 f1
   ·have XR:ls=[]:=by
     cases ls with
     | nil=>rfl
     | cons x r=>exact absurd c (by simp)
    subst XR
    rw [List.append_nil] at q3
    have s3:=aa.upd hb (.lst [])
    exact ef _ _ ⟨ys,rfl,s3 _ _ q1,q3,(q4.same s3).mono (by have:=q3.length_eq;omega),q5.trans s3.sm⟩
  ·rintro σ' H' ⟨ys,rfl,q1,q2,q3,q4⟩
   exact k l1 ys H' Oc q1 q2 q3 q4
def Ci:List Str:=["a","ab","b","ba"]
def Fb:List Str:=["case","from","part","to"]
def WW:List Str:=Ci++Fb
theorem Oe:∀ z∈WW,isName z=true/\Wd z:=fun z hz=>by
 simp only [WW,Ci,Fb,List.cons_append,List.nil_append,Qp,QA,or_false] at hz
 rcases hz with rfl | rfl | rfl | rfl | rfl | rfl | rfl | rfl<;>exact ⟨by decide+kernel,fA (by decide) (by decide)⟩
structure WN (os:List Str):Prop where
 dc:rising os=true
 len:os.length<=4
 ww:∀ z∈os,z∈WW
theorem XS:Ci.Pairwise fun a b=>qw a b=true:=by decide+kernel
theorem XT:Fb.Pairwise fun a b=>qw a b=true:=by decide+kernel
theorem WN.of {b os:List Str} (hb:b=Ci\/b=Fb) (s:os.Sublist b):WN os:=by
 rcases hb with rfl | rfl
 ·exact ⟨fO (XS.sublist s),s.length_le,fun z hz=>List.mem_append.mpr (.inl (s.subset hz))⟩
 ·exact ⟨fO (XT.sublist s),s.length_le,fun z hz=>List.mem_append.mpr (.inr (s.subset hz))⟩
def Of (K:Q0):Sp:=fun vs H Q _=>∃ (H0:Hp) (p:Addr) (t:Nat),vs=[.ref p]/\ck K H0 H p t/\t+5 < 900000/\
 ∀ (L:Addr) (os:List Str) (H':Hp),H L=none->H' L=some (.lst (os.map V.str))->WN os->ck K H0 H' p (t+5)->Sm p p H H'->Q (.ref L) H'
theorem oM (T:Txt K mg w):bc P w K mg base 3 "_law_words" ["_law_pen"] (Of K):=by
 have aR:bc P w K mg base 2 "_law_next" ["_law_pen","_law_many"] (ze K):=bQ T
 refine T.pS.gf pA (fun vs H Q E h=>?_) (fun f a_ A outer s H vs Q E hr h=>?_)
 ·obtain ⟨H0,p,t,rfl,_⟩:=h
  rfl
 ·obtain ⟨H0,p,t,rfl,hn,ht,k⟩:=h
  have hu:=aV hr
  have dj:=Qx (aV hr)
  have hsz:sizeLine=16777216:=QL
  refine ⟨_,(aG (aQ (kC (own:=["_law_word"]) (idx:=[0]) (N':=["_law_word","_law_pen"]) (cN (bg eK) (["_law_pen"]:List Str) (by decide+kernel)) rfl (mH K (cM (aF bB (aF bB (aF bB (aF bB aC)))))) (fun _ _ _ _ _ _=>(aK (i:=0) (show List.Nodup (["_law_word","_law_pen"]:List Str) by decide+kernel) rfl (Or.inl rfl))) (fun _ _ _ _ _ _=>(ME (aP (eW dj) (bF aR (hr.mono (by decide)) (aB (zv 1) (aF aH aC))) aH (e_ _)))) (fun _ _ _ _ _ _=>(zv 0))))),?_⟩
  refine ⟨(show 4<=sizeLine by decide),fun S kj=>?_⟩
  have s1:=aa.upd kj (.lst [V.str "a",V.str "ab",V.str "b",V.str "ba"])
  have Og:upd H S (.lst [V.str "a",V.str "ab",V.str "b",V.str "ba"]) S=some (.lst (Ci.map V.str)):=aA
  have ik:=(hn.same s1).mono (u:=t+1) (by omega)
  have eS:S≠p:=hn.ne kj
  generalize upd H S (.lst [V.str "a",V.str "ab",V.str "b",V.str "ba"])=H4 at s1 Og ik ⊢
  obtain ⟨bs,hb,gS⟩:∃ bs:List Str,(bs=Ci\/bs=Fb)/\H4 S=some (.lst (bs.map V.str)):=⟨Ci,.inl rfl,Og⟩
  have hbl:bs.length=4:=by rcases hb with rfl | rfl<;>rfl
  have Hi:Sm p p H H4:=s1.sm
  refine Or.inl ⟨⟨_,af.of gS⟩,fun D hD=>?_⟩
  have qd:D≠p:=ik.ne hD
  have Oh:D≠S:=fun e=>by rw [e,gS] at hD;cases hD
  have fD:H0 D=none:=ik.free hD
  have vd:H D=none:=Hi.free hD qd qd
  refine i5 (d8 (bs.map V.str)) (fun i τ H2=>∃ (v:Option V) (os:List Str),τ=[v,some (.ref p)]/\H2 D=some (.lst (os.map V.str))/\os.Sublist (bs.take i)/\H2 S=some (.lst (bs.map V.str))/\ck K H0 H2 p (t+1+i)/\Sm p p H H2)
   ⟨none,[],rfl,aA,List.Sublist.refl _,by rw [aE Oh.symm];exact gS,ik.same (aa.upd hD _),Hi.upd vd⟩ (by rintro i τ H2 _ ⟨_,_,_,_,_,q,_⟩;exact af.of q) ?_ ?_
  ·rintro i τ H5 hi z0;refine hdn fun Gz9 zG9=>?_;obtain ⟨v,os,rfl,q1,q2,q4,q5,q6⟩:=z0;refine zG9 ?_
   rw [Ql] at hi
   rw [gR bs i hi]
   have Dv:bs.take (i+1)=bs.take i++[bs.getD i ""]:=by
    rw [Qs,Qb,Qa hi];rfl
   generalize bs.getD i ""=z at Dv
   have E8:os.length<=i:=by have:=q2.length_le;simp at this;omega
   refine ⟨H0,p,2,t+1+i,rfl,q5,⟨by decide,by decide⟩,by omega,fun r H6 r0 r1 Oi gn=>?_⟩
   refine ⟨rfl,_,rfl,?_⟩
   have g4:=gn _ _ q4 eS eS
   have g1:=gn _ _ q1 qd qd
   refine dw (fun _=>?_) (fun _=>?_)
   ·exact ⟨_,g1,by rw [Ql];exact Ud (by omega),_,os++[z],rfl,by rw [aA,Qm];rfl,by rw [Dv];exact q2.append (List.Sublist.refl _),by rw [aE Oh.symm];exact g4,Oi.put qd fD,(q6.trans gn).upd vd⟩
   ·exact ⟨_,os,rfl,g1,by rw [Dv];exact q2.trans (List.sublist_append_left _ _),g4,Oi,q6.trans gn⟩
  ·rintro τ H5 z0;refine hdn fun Gz9 zG9=>?_;obtain ⟨v,os,rfl,q1,q2,q4,q5,q6⟩:=z0;refine zG9 ?_
   rw [Ql] at q2 q5
   rw [Qo] at q2
   exact k D os H5 vd q1 (WN.of hb q2) (q5.mono (by omega)) q6
structure n_ (H:Hp) (l:Addr) (ss:List Str):Prop where
 e:H l=some (.lst (ss.map V.str))
 ne:ss≠[]
 few:ss.length<=60
 wd:∀ z∈ss,Wd z
theorem zB {t:Nat} {ss:List Str} (h:n_ H l ss) (hp:ck K H0 H p t):l≠p:=fun q=>by
 obtain ⟨_,_,_,_,z,_⟩:=hp.ex
 have e:=h.e
 have ne:=h.ne
 rw [q,z] at e
 cases ss with
 | nil=>exact ne rfl
 | cons a r=>cases e
theorem n_.nx {t:Nat} {ss:List Str} (h:n_ H l ss) (hp:ck K H0 H p t) (s:Sm p p H H'):n_ H' l ss:=⟨s _ _ h.e (zB h hp) (zB h hp),h.ne,h.few,h.wd⟩
theorem n_.same {ss:List Str} (h:n_ H l ss) (s:aa H H'):n_ H' l ss:=⟨s _ _ h.e,h.ne,h.few,h.wd⟩
theorem n_.at {H:Hp} {l:Addr} {ss:List Str} (h:n_ H l ss) (r:Int) (h0:0<=r) (h1:r < ss.length):∃ z,lq (ss.map V.str) r=some (.str z)/\ss[r.toNat]? =some z/\Wd z:=by
 obtain ⟨c,ki,lh⟩:=lL (ss.map V.str) r h0 (by rw [Ql];exact h1)
 rw [Qq] at ki
 cases e:ss[r.toNat]? with
 | none=>rw [e] at ki;cases ki
 | some z=>
  rw [e] at ki
  cases ki
  exact ⟨z,lh,rfl,h.wd z (QC e)⟩
theorem n_.pos {ss:List Str} (h:n_ H l ss):0 < ss.length:=List.length_pos_iff.mpr h.ne
def XU (ns:List Str) (k:Nat) (o:Option Str):Prop:=∀ y,o=some y->∃ i,i < k/\ns[i]? =some y
def JZ (K:Q0):Sp:=fun vs H Q _=>∃ (H0:Hp) (p nm:Addr) (k t:Nat) (ns:List Str),vs=[.ref p,.ref nm,.int (k:Int)]/\ck K H0 H p t/\t+20 < 900000/\n_ H nm ns/\(∀ z∈ns,isName z=true)/\k<=ns.length/\
 ∀ (v:V) (H':Hp),qz H' ns WW v (XU ns k)->ck K H0 H' p (t+20)->Sm p p H H'->Q v H'
theorem jT (T:Txt K mg w):bc P w K mg base 4 "_law_head" ["_law_pen","_law_names","_law_ahead"] (JZ K):=by
 have aR:bc P w K mg base 2 "_law_next" ["_law_pen","_law_many"] (ze K):=bQ T
 have rS:bc P w K mg base 3 "_law_words" ["_law_pen"] (Of K):=oM T
 refine T.uC.gf gU (fun vs H Q E h=>?_) (fun f a_ A outer s H vs Q E hr h=>?_)
 ·refine hdn fun Gz9 zG9=>?_;obtain ⟨H0,p,nm,k,t,ns,rfl,_⟩:=h;refine zG9 ?_
  rfl
 ·refine hdn fun Gz9 zG9=>?_;obtain ⟨H0,p,nm,ka,t,ns,rfl,hn,ht,tn,Hj,hk,k⟩:=h;refine zG9 ?_
  have hu:=aV hr
  have dj:=Qx (aV hr)
  have hsz:sizeLine=16777216:=QL
  have aaX:=tn.pos
  have XW:=tn.few
  refine ⟨_,(aD (aS (i:=3) gU.nd rfl (Or.inl rfl) (bF aR (hr.mono (by decide)) (aB (zv 0) (aF aH aC))))
   (aD (bW (aP iJ (zv 3) aH (e_ _)) (aG (aQ (bD (bC K) (cM (bG (aY (aF bB aC)) (bG (aY (aF bB aC)) aC))) (zv 3) (fun _ _=>rfl)))) aZ)
   (aD (bW (UX (aP (eW dj) (zv 3) aH (e_ _)) (UW (aP zM (zv 2) aH (e_ _)))).pt (aG (aQ (aY (aF bB (aI (bD (bC K) (zv 1) (bF aR (hr.mono (by decide)) (aB (zv 0) (aB (zv 2) aC))) (fun _ _=>rfl)) aC))))) aZ)
   (aD (bW (aP iJ (zv 3) aH (e_ _)) (aD (aS (i:=4) gU.nd rfl (Or.inl rfl) (bD (bC K) (zv 1) (bF aR (hr.mono (by decide)) (aB (zv 0) (aN (bO (bM K) (by rfl) T.u_ PySem.boot_len (aB (zv 1) aC)) aC))) (fun _ _=>rfl)))
   (aG (aQ (aY (aF bB (aB (zv 4) (aI (bD (bC K) (zv 1) (bF aR (hr.mono (by decide)) (aB (zv 0) (aN (bO (bM K) (by rfl) T.u_ PySem.boot_len (aB (zv 1) aC)) aC))) (fun _ _=>rfl)) aC))))))) aZ)
   (aG (aQ (aY (aI (bD (bC K) (cM (aF bB (aF bB aC))) (bY eP (zv 3) aH) (fun _ _=>rfl)) (aN (bV (d5 K) (by rfl) T.dH QG (gQ (kC (own:=["_law_word"]) (idx:=[0,1]) (N':=["_law_word","_law_pen","_law_names"]) (cN (bg fW) (["_law_pen","_law_names","_law_ahead","_law_way","_law_one"]:List Str) (by decide+kernel)) rfl (mH K (bF rS (hr.mono (by decide)) (aB (zv 0) aC))) (fun _ _ _ _ _ _=>(aK (i:=0) (show List.Nodup (["_law_word","_law_pen","_law_names"]:List Str) by decide+kernel) rfl (Or.inl rfl))) (fun _ _ _ _ _ _=>cV) (fun _ _ _ _ _ _=>(aY (aB (zv 0) (aI (bD (bC K) (zv 2) (bF aR (hr.mono (by decide)) (aB (zv 1) (aN (bO (bM K) (by rfl) T.u_ PySem.boot_len (aB (zv 2) aC)) aC))) (fun _ _=>rfl)) aC))))) aC)) aC))))))))),?_⟩
  refine aM ⟨H0,p,10,t,rfl,hn,⟨by decide,by decide⟩,by omega,fun wy H1 w0 w1 hn1 qe=>?_⟩
  have Hl:=tn.nx hn qe
  refine aU (fun σ' H'=>σ'=[some (.ref p),some (.ref nm),some (.int (ka:Int)),some (.int wy),none]/\H1=H') ?_ ?_
  ·intro nx ef
   refine ⟨_,rfl,dw (fun c1=>?_) (fun c1=>ef _ _ ⟨rfl,rfl⟩)⟩
   have Jy:wy < 2:=Qt c1
   refine ⟨(show 1<=sizeLine by decide),fun q1 sd=>⟨(show 1<=sizeLine by decide),fun q2 se=>⟨(show 2<=sizeLine by decide),fun O hO=>?_⟩⟩⟩
   have s1:=aa.upd sd (.tup [.str "all"])
   have s2:=aa.upd se (.tup [.str "none"])
   have s3:=aa.upd hO (.lst [.ref q1,.ref q2])
   have sA:=(s1.trans s2).trans s3
   have g1:=s3 _ _ (s2 _ _ (aA:upd H1 q1 (.tup [.str "all"]) q1=some (.tup [.str "all"])))
   have g2:=s3 _ _ (aA:upd (upd H1 q1 (.tup [.str "all"])) q2 (.tup [.str "none"]) q2=some (.tup [.str "none"]))
   rcases (show wy=0\/wy=1 by omega) with rfl | rfl
   ·exact ⟨_,.ref q1,.inl (af.of aA),rfl,k _ _ (Vy g1 (fun _ h=>nomatch h)) ((hn1.same sA).mono (by omega)) (qe.trans sA.sm)⟩
   ·exact ⟨_,.ref q2,.inl (af.of aA),rfl,k _ _ (xX g2 (fun _ h=>nomatch h)) ((hn1.same sA).mono (by omega)) (qe.trans sA.sm)⟩
  rintro σ' H' ⟨rfl,rfl⟩
  refine aU (fun σ' H'=>σ'=[some (.ref p),some (.ref nm),some (.int (ka:Int)),some (.int wy),none]/\H1=H') ?_ ?_
  ·intro nx ef
   refine ⟨rfl,_,rfl,dw (fun h2=>⟨_,rfl,dw (fun h3=>?_) (fun _=>ef _ _ ⟨rfl,rfl⟩)⟩) (fun h2=>dw (fun c=>absurd c (by decide)) fun _=>ef _ _ ⟨rfl,rfl⟩)⟩
   have h3':(0:Int) < (ka:Int):=Qt h3
   refine ⟨H0,p,(ka:Int),_,rfl,hn1,⟨by omega,by omega⟩,by omega,fun r H2 r0 r1 hn2 vc=>?_⟩
   have Cj:=Hl.nx hn1 vc
   obtain ⟨y,J3,Dw,XX⟩:=Cj.at r r0 (by omega)
   refine ⟨_,_,.inl (af.of Cj.e),J3,(show 2<=sizeLine by decide),fun c hc=>?_⟩
   refine k _ _ (Vx aA (Hj _ (QC Dw)) (QC Dw) (fun y' e=>?_)) ((hn2.same (aa.upd hc _)).mono (by omega)) ((qe.trans vc).trans (aa.upd hc _).sm)
   cases e
   exact ⟨r.toNat,by omega,Dw⟩
  rintro σ' H' ⟨rfl,rfl⟩
  refine aU (fun σ' H'=>σ'=[some (.ref p),some (.ref nm),some (.int (ka:Int)),some (.int wy),none]/\H1=H') ?_ ?_
  ·intro nx ef
   refine ⟨_,rfl,dw (fun c1=>?_) (fun c1=>ef _ _ ⟨rfl,rfl⟩)⟩
   refine aM (.inl ⟨_,.inl (af.of Hl.e),H0,p,_,_,rfl,hn1,⟨by rw [Ql];omega,by rw [Ql];omega⟩,by omega,fun r H2 r0 r1 hn2 vc=>?_⟩)
   rw [Ql] at r1
   have Cj:=Hl.nx hn1 vc
   obtain ⟨x,XY,Oj,hxw⟩:=Cj.at r r0 r1
   refine ⟨_,_,.inl (af.of Cj.e),XY,.inl ⟨_,.inl (af.of Cj.e),H0,p,_,_,rfl,hn2,⟨by rw [Ql];omega,by rw [Ql];omega⟩,by omega,fun r2 H3 b0 b1 g_ gn=>?_⟩⟩
   rw [Ql] at b1
   have Fc:=Cj.nx hn2 gn
   obtain ⟨y,J3,Dw,XX⟩:=Fc.at r2 b0 b1
   refine ⟨_,_,.inl (af.of Fc.e),J3,(show 3<=sizeLine by decide),fun b hb=>?_⟩
   exact k _ _ (Vz aA (Hj _ (QC Oj)) (Hj _ (QC Dw)) (QC Oj) (QC Dw) (fun _ h=>nomatch h)) ((g_.same (aa.upd hb _)).mono (by omega)) (((qe.trans vc).trans gn).trans (aa.upd hb _).sm)
  rintro σ' H' ⟨rfl,rfl⟩
  refine ⟨(show 2<=sizeLine by decide),fun O hO=>?_⟩
  have sO:=aa.upd hO (.lst [.str "box",.str "pick"])
  have gO:upd H1 O (.lst [.str "box",.str "pick"]) O=some (.lst [.str "box",.str "pick"]):=aA
  have Ho:=hn1.same sO
  have Ol:=Hl.same sO
  have Om:=qe.trans sO.sm
  dsimp only
  generalize upd H1 O (.lst [.str "box",.str "pick"])=H2 at sO gO Ho Ol Om
  obtain ⟨so,Bg,XZ⟩:∃ so:Str,lq [V.str "box",V.str "pick"] (wy % 2)=some (.str so)/\(so="box"\/so="pick"):=by
   rcases (show wy % 2=0\/wy % 2=1 by omega) with e | e
   ·rw [e];exact ⟨"box",rfl,.inl rfl⟩
   ·rw [e];exact ⟨"pick",rfl,.inr rfl⟩
  refine ⟨(show (0:Int) < 2 by decide),_,_,.inl (af.of gO),Bg,H0,p,_,rfl,Ho,by omega,fun D os H3 vd q1 wn q5 gn=>?_⟩
  have q6:Sm p p H H3:=Om.trans gn
  have Fc:=Ol.nx Ho gn
  have E8:=wn.len
  have qd:D≠p:=Ho.ne vd
  refine Or.inl ⟨⟨_,af.of q1⟩,fun D2 ve=>?_⟩
  have Fd:D2≠p:=q5.ne ve
  have Oo:D2≠D:=fun e=>by rw [e,q1] at ve;cases ve
  have Oq:H D2=none:=q6.free ve Fd Fd
  have f2:H0 D2=none:=q5.free ve
  have X0:D2≠nm:=fun e=>by rw [e,Fc.e] at ve;cases ve
  refine i5 (d8 (os.map V.str)) (fun i τ H3=>∃ (v:Option V) (xs:List V) (rs:List (Str×V)),τ=[v,some (.ref p),some (.ref nm)]/\H3 D2=some (.lst xs)/\iy H3 xs (bf rs)/\rs.map (·.1)=os.take i/\(∀ r∈rs,∃ y,r.2=.str y/\y∈ns/\Wd y)/\H3 D=some (.lst (os.map V.str))/\ck K H0 H3 p (t+1+5+i)/\Sm p p H H3/\n_ H3 nm ns)
   ⟨none,[],[],rfl,aA,jJ,rfl,(fun _ h=>nomatch h),by rw [aE Oo.symm];exact q1,(q5.same (aa.upd ve _)).mono (by omega),q6.upd Oq,Fc.same (aa.upd ve _)⟩ (by rintro i τ H2 _ ⟨_,_,_,_,_,_,_,_,q,_⟩;exact af.of q) ?_ ?_
  ·rintro i τ H4 hi z0;refine hdn fun Gz9 zG9=>?_;obtain ⟨v,xs,rs,rfl,r1,r2,Bh,r3,r4,r5,r6,Ck⟩:=z0;refine zG9 ?_
   rw [Ql] at hi
   rw [gR os i hi]
   have Dv:os.take (i+1)=os.take i++[os.getD i ""]:=by
    rw [Qs,Qb,Qa hi];rfl
   generalize os.getD i ""=z at Dv
   have A4:rs.length=i:=by have:=congrArg List.length Bh;simp at this;omega
   have ur:xs.length=i:=by have:=r2.1;simp at this;omega
   refine .inl ⟨_,.inl (af.of Ck.e),H0,p,_,t+1+5+i,rfl,r5,⟨by rw [Ql];omega,by rw [Ql];omega⟩,by omega,fun r H5 a0 a1 X3 jf=>?_⟩
   rw [Ql] at a1
   have wg:=Ck.nx r5 jf
   obtain ⟨n,X4,yh,JA⟩:=wg.at r a0 a1
   refine ⟨_,_,.inl (af.of wg.e),X4,(show 2<=sizeLine by decide),fun b hb=>?_⟩
   have g1:=jf _ _ r1 Fd Fd
   have g4:=jf _ _ r4 qd qd
   have J7:D2≠b:=aO g1 hb
   have X5:D≠b:=aO g4 hb
   have Bj:Tk H4 H5:=r5.ts jf
   have wj:Tk H4 (upd (upd H5 b (.tup [.str z,.str n])) D2 (.lst (xs++[.ref b]))):=(Bj.trans (aa.upd hb _).ts).set (by rw [aE J7];exact g1) (by intro _ z;cases z)
   have X6:upd (upd H5 b (.tup [.str z,.str n])) D2 (.lst (xs++[.ref b])) b=some (.tup [.str z,.str n]):=by rw [aE J7.symm];exact aA
   have X7:n_ (upd (upd H5 b (.tup [.str z,.str n])) D2 (.lst (xs++[.ref b]))) nm ns:=⟨by rw [aE X0.symm];exact (aa.upd hb _) _ _ wg.e,wg.ne,wg.few,wg.wd⟩
   refine ⟨xs,by rw [aE J7];exact g1,by omega,_,xs++[.ref b],rs++[(z,.str n)],rfl,aA,iF (r2.ts wj) X6,by rw [Qm,Bh,Dv];rfl,fun r' gh=>?_,by rw [aE Oo.symm,aE X5];exact g4,((X3.same (aa.upd hb _)).put Fd f2),((r6.trans jf).trans (aa.upd hb _).sm).upd Oq,X7⟩
   rcases List.mem_append.mp gh with hx | hx
   ·exact r3 r' hx
   ·rw [List.mem_singleton.mp hx]
    exact ⟨n,rfl,QC yh,JA⟩
  ·rintro τ H4 z0;refine hdn fun Gz9 zG9=>?_;obtain ⟨v,xs,rs,rfl,r1,r2,Bh,r3,r4,r5,r6,Ck⟩:=z0;refine zG9 ?_
   rw [Ql] at Bh r5
   rw [Qo] at Bh
   have A4:rs.length=os.length:=by rw [<- Bh,Ql]
   have ur:xs.length=os.length:=by have:=r2.1;simp at this;omega
   refine ⟨D2,xs,rfl,.inl ⟨af.of r1,fun c hc=>⟨(show 2<=sizeLine by decide),fun b hb=>?_⟩⟩⟩
   have s5:=aa.upd hc (.tup xs)
   have s6:=aa.upd hb (.tup [.str so,.ref c])
   have gc:=s6 _ _ (aA:upd H4 c (.tup xs) c=some (.tup xs))
   have jp:∀ r'∈rs,r'.1∈os:=fun r' gh=>by rw [<- Bh];exact List.mem_map.mpr ⟨r',gh,rfl⟩
   have tk:=s5.ts.trans s6.ts
   have X8:=Vs (r2.ts tk) (fun r' gh=>(Oe _ (wn.ww _ (jp r' gh))).1) (fun r' gh=>by obtain ⟨y,e1,e2,_⟩:=r3 r' gh;exact ⟨y,e1,e2,Hj y e2⟩) (by rw [Bh];exact wn.dc)
   exact k _ _ (u8 XZ aA gc (by omega) X8 (fun q hq=>by obtain ⟨q',vn,rfl⟩:=List.mem_map.mp hq;exact wn.ww _ (jp q' vn)) (fun _ h=>nomatch h)) ((r5.same (s5.trans s6)).mono (by omega)) (r6.trans (s5.trans s6).sm)
def N8:List Str:=["x","xa","xb","y","ya","z","ka","kb"]
theorem mU:∀ z∈N8,isName z=true/\Wd z:=fun z hz=>by
 simp only [N8,Qp,QA,or_false] at hz
 rcases hz with rfl | rfl | rfl | rfl | rfl | rfl | rfl | rfl<;>exact ⟨by decide+kernel,fA (by decide) (by decide)⟩
theorem X9:N8.Nodup:=by decide+kernel
theorem xM {ys:List V} {l:List Str} (h:ys.Perm (l.map V.str)):∃ zs:List Str,zs.Perm l/\ys=zs.map V.str:=by
 refine ⟨ys.map B6,?_,?_⟩
 ·have:=h.map B6
  rw [Qn] at this
  have e:(B6∘V.str)=(id:Str->Str):=rfl
  rw [e,List.map_id] at this
  exact this
 ·rw [Qn]
  have:∀ y∈ys,(V.str∘B6) y=y:=fun y hy=>by
   obtain ⟨z,_,rfl⟩:=List.mem_map.mp (h.mem_iff.mp hy)
   rfl
  rw [List.map_congr_left this,List.map_id']
theorem pI {β:Type} {R:α->β->Prop} {xs ys:List α} (p:ys.Perm xs):∀ {rs:List β},Paired R xs rs->∃ rs',rs'.Perm rs/\Paired R ys rs':=by
 induction p with
 | nil=>intro rs h;cases h;exact ⟨[],.refl _,.nil⟩
 | cons x p ih=>
  intro rs h
  cases h with
  | cons a b=>
   obtain ⟨rs',q1,q2⟩:=ih b
   exact ⟨_::rs',q1.cons _,.cons a q2⟩
 | swap x y l=>
  intro rs h
  cases h with
  | cons a h=>
   cases h with
   | cons b h=>exact ⟨_::_::_,.swap _ _ _,.cons b (.cons a h)⟩
 | trans p1 p2 X_ Yb=>
  intro rs h
  obtain ⟨r1,a1,b1⟩:=Yb h
  obtain ⟨r2,a2,b2⟩:=X_ b1
  exact ⟨r2,a2.trans a1,b2⟩
theorem iO {α β γ:Type} {R:α->β->Prop} {g:γ->β}:∀ {xs:List α} {rs:List γ},Paired R xs (rs.map g)->Paired (fun x r=>R x (g r)) xs rs
 | [],[],.nil=>.nil
 | _::_,_::_,.cons a b=>.cons a (iO b)
theorem kS {α β γ:Type} {R:α->β->Prop} {g:γ->β}:∀ {xs:List α} {rs:List γ},Paired (fun x r=>R x (g r)) xs rs->Paired R xs (rs.map g)
 | [],[],.nil=>.nil
 | _::_,_::_,.cons a b=>.cons a (kS b)
theorem lI {xs ys:List V} {rs:List (Str×V)} (h:iy H xs (bf rs)) (p:ys.Perm xs):∃ rs',rs'.Perm rs/\iy H ys (bf rs'):=by
 obtain ⟨rs',q1,q2⟩:=pI p (iO (fB.mp h))
 exact ⟨rs',q1,fB.mpr (kS q2)⟩
def Ot (K:Q0):Sp:=fun vs H Q _=>∃ (H0:Hp) (p:Addr) (most:Int) (t:Nat),vs=[.ref p,.int most]/\ck K H0 H p t/\t+600 < 900000/\(1<=most/\most<=8)/\
 ∀ (a:Addr) (xs:List V) (rows:List ak) (ns:List Str) (H':Hp),RT H' a xs rows ns WW->(ns.length:Int)<=most->(∀ n∈ns,n∈N8)->ck K H0 H' p (t+600)->Sm p p H H'->Q (.ref a) H'
theorem lY (T:Txt K mg w):bc P w K mg base 5 "_law_telling" ["_law_pen","_law_most"] (Ot K):=by
 have aR:bc P w K mg base 2 "_law_next" ["_law_pen","_law_many"] (ze K):=bQ T
 have dN:bc P w K mg base 3 "_law_turned" ["_law_pen","_law_some"] (JX K):=i8 T
 have iK:bc P w K mg base 4 "_law_head" ["_law_pen","_law_names","_law_ahead"] (JZ K):=jT T
 refine T.mE.gf cF (fun vs H Q E h=>?_) (fun f a_ A outer s H vs Q E hr h=>?_)
 ·obtain ⟨H0,p,most,t,rfl,_⟩:=h
  rfl
 ·refine hdn fun Gz9 zG9=>?_;obtain ⟨H0,p,most,t,rfl,hn,ht,⟨Ba,hm2⟩,k⟩:=h;refine zG9 ?_
  have hu:=aV hr
  have dj:=Qx (aV hr)
  have hsz:sizeLine=16777216:=QL
  refine ⟨_,(aD (aS (i:=2) cF.nd rfl (Or.inl rfl) (bY bS aH (bF aR (hr.mono (by decide)) (aB (zv 0) (aB (zv 1) aC)))))
   (aD (aS (i:=3) cF.nd rfl (Or.inl rfl) (fI (sQ K) (bF dN (hr.mono (by decide)) (aB (zv 0) (US (cM (aF bB (aF bB (aF bB (aF bB (aF bB (aF bB (aF bB (aF bB aC))))))))) aC))) fP (fH (zv 2))))
   (aD (aS (i:=4) cF.nd rfl (Or.inl rfl) (cM aC))
   (aD (gT PassesOwn.never rfl (kU (by rfl) T.oG (aB (zv 2) aC)) (aK (i:=5) cF.nd rfl (Or.inl rfl)) (aG (dR (mF K QH QJ QK cB (zv 4) (bG (aY (aI (bD (bC K) (zv 3) (zv 5) (fun _ _=>rfl)) (aN (bF iK (hr.mono (by decide)) (aB (zv 0) (aB (zv 3) (aB (zv 5) aC)))) aC))) aC)))))
   (aG (aQ (bV (d5 K) (by rfl) T.dH QG (aN (bF dN (hr.mono (by decide)) (aB (zv 0) (aB (zv 4) aC))) aC)))))))),?_⟩
  refine aM ⟨H0,p,most,t,rfl,hn,⟨by omega,by omega⟩,by omega,fun r H1 r0 r1 hn1 qe=>?_⟩
  obtain ⟨i0,rfl⟩:∃ i:Nat,r=(i:Int):=⟨r.toNat,by omega⟩
  refine aM ⟨(show 8<=sizeLine by decide),fun l1 kj=>?_⟩
  have s1:=aa.upd kj (.lst (N8.map V.str))
  have g1:upd H1 l1 (.lst (N8.map V.str)) l1=some (.lst (N8.map V.str)):=aA
  have hn2:=hn1.same s1
  have vc:=qe.trans s1.sm
  refine ⟨H0,p,l1,N8.map V.str,_,rfl,hn2,by omega,.inl (af.of g1),(by decide),fun L ys H2 hL gL pm g_ gn=>?_⟩
  obtain ⟨zs,J8,rfl⟩:=xM pm
  have Hi:=vc.trans gn
  have J9:zs.length=8:=J8.length_eq
  refine ⟨1+(i0:Int),rfl,Or.inr (Or.inl ⟨L,zs.map V.str,rfl,af.of gL,fun N hN=>?_⟩)⟩
  have Yc:oq (zs.map V.str) none (some (1+(i0:Int)))=(zs.take (1+i0)).map V.str:=by
   rw [show (1+(i0:Int))=((1+i0:Nat):Int) by omega,tM,List.map_take]
  rw [Yc]
  have sN:=aa.upd hN (.lst ((zs.take (1+i0)).map V.str))
  have gN:upd H2 N (.lst ((zs.take (1+i0)).map V.str)) N=some (.lst ((zs.take (1+i0)).map V.str)):=aA
  have ik:=g_.same sN
  have J_:=Hi.trans sN.sm
  generalize upd H2 N (.lst ((zs.take (1+i0)).map V.str))=H3 at sN gN ik J_
  have J':(zs.take (1+i0)).length=1+i0:=by rw [List.length_take];omega
  have Fe:∀ n∈zs.take (1+i0),n∈N8:=fun n hn=>J8.mem_iff.mp (List.mem_of_mem_take hn)
  have Ou:(zs.take (1+i0)).Nodup:=(J8.nodup_iff.mpr X9).sublist (List.take_sublist _ _)
  generalize zs.take (1+i0)=ns at gN J' Fe Ou
  have tn:n_ H3 N ns:=⟨gN,by intro e;rw [e] at J';simp at J';omega,by omega,fun n hn=>(mU n (Fe n hn)).2⟩
  refine aM ⟨(show 0<=sizeLine by decide),fun R hR=>?_⟩
  have Av:R≠p:=ik.ne hR
  have Yd:R≠N:=fun e=>by rw [e,gN] at hR;cases hR
  have Ff:H R=none:=J_.free hR Av Av
  have fR:H0 R=none:=ik.free hR
  have sR:=aa.upd hR (.lst [])
  refine aU (fun σ' H'=>∃ (v5:Option V) (xs:List V) (rs:List (Str×V)),σ'=[some (.ref p),some (.int most),some (.int (1+(i0:Int))),some (.ref N),some (.ref R),v5]/\H' R=some (.lst xs)/\iy H' xs (bf rs)/\rs.map (·.1)=ns/\ly H' ns WW rs/\ck K H0 H' p (t+101+20*8)/\Sm p p H H') ?_ ?_
  ·intro nx ef
   refine ⟨1+(i0:Int),rfl,by omega,by omega,fU (jN 0 (1+(i0:Int)).toNat) (fun i σ' H'=>∃ (v5:Option V) (xs:List V) (rs:List (Str×V)),σ'=[some (.ref p),some (.int most),some (.int (1+(i0:Int))),some (.ref N),some (.ref R),v5]/\H' R=some (.lst xs)/\iy H' xs (bf rs)/\rs.map (·.1)=ns.take i/\ly H' ns WW rs/\n_ H' N ns/\ck K H0 H' p (t+101+20*i)/\Sm p p H H')
    ⟨none,[],[],rfl,aA,jJ,rfl,⟨(fun _ h=>nomatch h),(fun _ h=>nomatch h)⟩,tn.same sR,(ik.same sR).mono (by omega),J_.trans sR.sm⟩ (fun _ _ _ _ _=>True.intro) ?_ ?_⟩
   ·rintro i σ' H4 hi z0;refine hdn fun Gz9 zG9=>?_;obtain ⟨v5,xs,rs,rfl,q1,q2,q3,q4,Ck,q6,q7⟩:=z0;refine zG9 ?_
    have dh:i < ns.length:=by omega
    have e0:(0+(i:Int))=(i:Int):=by omega
    rw [e0]
    have yh:ns[i]? =some ns[i]:=Qa dh
    have Hq:ns[i]∈ns:=Qj dh
    generalize ns[i]=nm at yh Hq
    have ur:xs.length=i:=by
     have h1:=q2.1
     have h2:=congrArg List.length q3
     simp at h1 h2
     omega
    refine ⟨.inl ⟨rfl,_,af.of q1⟩,_,.str nm,.inl (af.of Ck.e),dM (by rw [Qq,yh];rfl),H0,p,N,i,_,ns,rfl,q6,by omega,Ck,(fun z hz=>(mU z (Fe z hz)).1),by omega,fun hv H5 hg rh gy=>⟨(show 2<=sizeLine by decide),fun c hc=>?_⟩⟩
    have g4:H5 R=some (.lst xs):=gy _ _ q1 Av Av
    have wg:=Ck.nx q6 gy
    have Ka:R≠c:=aO g4 hc
    refine ⟨R,xs,.ref c,rfl,rfl,by rw [aE Ka];exact g4,by omega,?_⟩
    have Dy:Tk H5 (upd (upd H5 c (.tup [.str nm,hv])) R (.lst (xs++[.ref c]))):=((aa.upd hc _).ts).set (by rw [aE Ka];exact g4) (by intro _ z;cases z)
    have Ye:upd (upd H5 c (.tup [.str nm,hv])) R (.lst (xs++[.ref c])) c=some (.tup [.str nm,hv]):=by rw [aE Ka.symm];exact aA
    have Ov:=(q6.ts gy).trans Dy
    refine ⟨_,xs++[.ref c],rs++[(nm,hv)],rfl,aA,iF (q2.ts Ov) Ye,?_,?_,⟨by rw [aE Yd.symm,aE (aO wg.e hc)];exact wg.e,wg.ne,wg.few,wg.wd⟩,((rh.same (aa.upd hc _)).put Av fR).mono (by omega),((q7.trans gy).trans (aa.upd hc _).sm).upd Ff⟩
    ·rw [Qm,q3,Qs,yh];rfl
    ·have:=((q4.tk Ov).add (n:=nm) (v:=hv) Hq ((hg.tk Dy).imp fun o h y e=>by obtain ⟨i',h1,h2⟩:=h y e;exact ⟨i',i,h1,h2,yh⟩))
     exact this.perm fun r hr=>by
      rcases List.mem_append.mp hr with hr | hr
      ·exact Qh _ hr
      ·rw [List.mem_singleton.mp hr];exact List.mem_cons_self
   ·rintro σ' H' z0;refine hdn fun Gz9 zG9=>?_;obtain ⟨v5,xs,rs,rfl,q1,q2,q3,q4,q5,q6,q7⟩:=z0;refine zG9 ?_
    have en:(1+(i0:Int)).toNat=ns.length:=by omega
    rw [en,Qo] at q3
    exact ef _ _ ⟨v5,xs,rs,rfl,q1,q2,q3,q4,q6.mono (by omega),q7⟩
  ·rintro σ' H4 z0;refine hdn fun Gz9 zG9=>?_;obtain ⟨v5,xs,rs,rfl,q1,q2,q3,q4,q6,q7⟩:=z0;refine zG9 ?_
   have A4:rs.length=ns.length:=by rw [<- q3,Ql]
   have ur:xs.length=rs.length:=by have:=q2.1;simpa using this
   refine ⟨H0,p,R,xs,_,rfl,q6,by omega,.inl (af.of q1),by omega,fun L2 ys H5 Yg Kc Kd rh gy=>⟨L2,ys,rfl,.inl ⟨af.of Kc,fun a ha=>?_⟩⟩⟩
   have s6:=aa.upd ha (.tup ys)
   have wj:=(q6.ts gy).trans s6.ts
   obtain ⟨rs',pr,pa⟩:=lI (q2.ts wj) Kd
   obtain ⟨rows,rt⟩:=RT.of aA pa (by rw [<- q3];exact pr.map _) Ou (fun n hn=>mU n (Fe n hn)) (by omega) (by omega) ((q4.tk wj).perm fun r hr=>pr.mem_iff.mp hr)
   exact k a _ rows ns _ rt (by omega) Fe ((rh.same s6).mono (by omega)) ((q7.trans gy).trans s6.sm)
theorem Ke {rs:List (Str×V)} (i:Nat) (h:i < (bf rs).length) (h':i < rs.length):(bf rs)[i]=(Sum.inr rs[i].1,rs[i].2):=by simp [bf]
def Ox (H:Hp) (a:Addr) (xs:List V) (rs:List (Str×V)):Prop:=H a=some (.tup xs)/\iy H xs (bf rs)/\rs.length<=1000
def Oz:Sp:=fun vs H Q _=>∃ (a:Addr) (xs:List V) (rs:List (Str×V)),vs=[.ref a]/\Ox H a xs rs/\∀ d,H d=none->Q (.ref d) (upd H d (.dK (dictOf (bf rs))))
theorem pH (T:Txt K mg w):bc P w K mg base 1 "heads_of" ["T"] Oz:=by
 refine T.tF.gf pW (fun vs H Q E h=>?_) (fun f a_ A outer s H vs Q E hr h=>?_)
 ·obtain ⟨a,xs,rs,rfl,_⟩:=h
  rfl
 ·refine hdn fun Gz9 zG9=>?_;obtain ⟨a,xs,rs,rfl,⟨hx,hp,fi⟩,k⟩:=h;refine zG9 ?_
  refine ⟨_,(aG (aQ (Gs (own:=["name","head"]) (idx:=[]) (N':=["name","head"]) (cN (bg fL) (["T"]:List Str) (by decide+kernel)) rfl (mH K (zv 0)) (fun _ _ _ _ _ _=>(cC K (n:=2) rfl (aJ (aK (i:=0) (show List.Nodup (["name","head"]:List Str) by decide+kernel) rfl (Or.inl rfl)) (aJ (aK (i:=1) (show List.Nodup (["name","head"]:List Str) by decide+kernel) rfl (Or.inl rfl)) bK)))) (fun _ _ _ _ _ _=>cV) (fun _ _ _ _ _ _=>(zv 0)) (fun _ _ _ _ _ _=>(zv 1))))),?_⟩
  refine Or.inr ⟨⟨xs,ae.of hx⟩,fun D hD=>?_⟩
  have J:=dG (K:=K) (a:=a) xs
  have hsz:sizeLine=16777216:=QL
  have ur:xs.length=rs.length:=by have:=hp.1;simpa using this
  have sD:∀ o,aa H (upd H D o):=fun o=>aa.upd hD o
  refine ⟨fun i m τ H'=>m=xs.length - i/\i<=xs.length/\(∃ v1 v2,τ=[v1,v2])/\H'=upd H D (.dK (dictOf ((bf rs).take i))),⟨_,rfl,Nat.zero_le _,⟨none,none,rfl⟩,rfl⟩,?_⟩
  rintro i m τ H' ⟨rfl,hi,⟨v1,v2,rfl⟩,rfl⟩
  obtain ⟨k1,k2⟩:=J _ (show ae K (upd H D _) a xs from ae.of (sD _ _ _ hx))
  by_cases ao:i < xs.length
  ·have jg:i < rs.length:=by omega
   have An:i < (bf rs).length:=by simpa using jg
   refine .inr ⟨(k1 i ao).1,fun τ' H'=>(∃ v1 v2,τ'=[v1,v2])/\H'=upd H D (.dK (dictOf ((bf rs).take (i+1)))),fun τ' H' ⟨h1,h2⟩=>⟨xs.length - (i+1),by omega,rfl,ao,h1,h2⟩,fun x H' y=>?_⟩
   obtain ⟨e,e2⟩:=(k1 i ao).2 x H' y
   subst e e2
   obtain ⟨b,A1,EA⟩:=hp.2 i An
   rw [Ke i An jg] at EA
   have eb:xs.getD i .ai=.ref b:=by rw [Qb,A1];rfl
   show zw K 2 _ (xs.getD i .ai) _ _ _
   rw [eb]
   refine ⟨b,_,rfl,ae.of (sD _ _ _ EA),rfl,_,_,rfl,_,_,rfl,rfl,?_⟩
   refine ⟨dictOf ((bf rs).take i),.inr rs[i].1,rfl,aA,?_,⟨_,_,rfl⟩,?_⟩
   ·have:=iB ((bf rs).take i)
    rw [List.length_take] at this
    omega
   ·rw [kO,jU (bf rs) i An,Ke i An jg]
  ·have e:i=xs.length:=by omega
   subst e
   refine .inl ⟨k2,?_⟩
   rw [List.take_of_length_le (by simp;omega)]
   exact k D hD
theorem Yh {xs:List V} {rs:List (Str×V)} {nx:Str->Option Str} {ρ:Str->Nat} (g:ow H a xs rs nx ρ):Ox H a xs rs:=⟨g.at_,g.ps,by have:=g.len;omega⟩
def Fg:Sp:=fun vs H Q _=>∃ (a:Addr) (xs:List V) (rs:List (Str×V)) (nx:Str->Option Str) (ρ:Str->Nat) (x:Str),vs=[.ref a,.str x]/\ow H a xs rs nx ρ/\x∈rs.map (·.1)/\∀ H',aa H H'->Q (.str (fc nx rs.length x)) H'
def Kf:Sp:=fun vs H Q _=>∃ (a:Addr) (xs:List V) (rs:List (Str×V)) (nx:Str->Option Str) (ρ:Str->Nat) (x:Str),vs=[.ref a,.str x]/\ow H a xs rs nx ρ/\x∈rs.map (·.1)/\
 ∀ v H',aa H H'->bh (dictOf (bf rs)) (.inr (fc nx rs.length x))=some v->Q v H'
def OA (K:Q0):Sp:=fun vs H Q _=>∃ (H0:Hp) (p a:Addr) (t:Nat) (xs:List V) (rows:List ak) (ns ws:List Str),vs=[.ref p,.ref a]/\ck K H0 H p t/\t < 900000/\RT H a xs rows ns ws/\
 ∀ (n:Str) (H':Hp),n∈ns->ck K H0 H' p (t+1)->Sm p p H H'->Q (.str n) H'
theorem sP (T:Txt K mg w):bc P w K mg base 3 "_law_any" ["_law_pen","_law_told"] (OA K):=by
 have aR:bc P w K mg base 2 "_law_next" ["_law_pen","_law_many"] (ze K):=bQ T
 refine T.xK.gf sI (fun vs H Q E h=>?_) (fun f a_ A outer s H vs Q E hr h=>?_)
 ·refine hdn fun Gz9 zG9=>?_;obtain ⟨H0,p,a,t,xs,rows,ns,ws,rfl,_⟩:=h;refine zG9 ?_
  rfl
 ·refine hdn fun Gz9 zG9=>?_;obtain ⟨H0,p,a,t,xs,rows,ns,ws,rfl,hn,ht,rt,k⟩:=h;refine zG9 ?_
  have hu:=aV hr
  have dj:=Qx (aV hr)
  have hsz:sizeLine=16777216:=QL
  have A4:=rt.rl
  have ur:=rt.rv.len
  have pos:=rt.pos
  have few:=rt.few
  refine ⟨_,(aG (aQ (bD (bC K) (bD (bC K) (zv 1) (bF aR (hr.mono (by decide)) (aB (zv 0) (aN (bO (bM K) (by rfl) T.u_ PySem.boot_len (aB (zv 1) aC)) aC))) (fun _ _=>rfl)) aH (fun _ _=>rfl)))),?_⟩
  refine .inl ⟨_,.inr (ae.of rt.at_),H0,p,_,t,rfl,hn,⟨by omega,by omega⟩,by omega,fun r H1 r0 r1 hn1 qe=>?_⟩
  obtain ⟨i,rfl⟩:∃ i:Nat,r=(i:Int):=⟨r.toNat,by omega⟩
  have zf:=rt.tk (hn.ts qe)
  obtain ⟨b,v,q1,q2,q3⟩:=zf.rv.at_ i (by omega) (by omega)
  refine ⟨xs,.ref b,.inr (ae.of zf.at_),dM (by rw [Qa (by omega),q1]),_,_,.inr (ae.of q2),aL _ _,k _ H1 (zf.nm.mem_iff.mp (List.mem_map.mpr ⟨_,Qj (by omega),rfl⟩)) hn1 qe⟩
theorem cK (T:Txt K mg w):bc P w K mg base 1 "_law_row_here" ["_law_told","_law_name"] Fg:=by
 refine T.kW.gf dC (fun vs H Q E h=>?_) (fun f a_ A outer s H vs Q E hr h=>?_)
 ·refine hdn fun Gz9 zG9=>?_;obtain ⟨a,xs,rs,nx,ρ,x,rfl,_⟩:=h;refine zG9 ?_
  rfl
 ·refine hdn fun Gz9 zG9=>?_;obtain ⟨a,xs,rs,nx,ρ,x,rfl,g,hx,k⟩:=h;refine zG9 ?_
  have hu:=aV hr
  have dj:=Qx hu
  refine ⟨_,(aD (aS (i:=2) dC.nd rfl (Or.inl rfl) (bV (dL rfl) (by rfl) T.oU PyProof.Rows.boot_dict (aB (zv 0) aC)))
   (aD (eI PassesOwn.never (aP (eW dj) (bD (bC K) (bR hu (zv 2) (zv 1) (fun _ _=>rfl)) aH (fun _ _=>rfl)) bB (e_ _)) (aG (aS (i:=1) dC.nd rfl (Or.inl rfl) (bD (bC K) (bR hu (zv 2) (zv 1) (fun _ _=>rfl)) aH (fun _ _=>rfl)))))
   (aG (aQ (zv 1))))),?_⟩
  have hsz:sizeLine=16777216:=QL
  have OB:=g.len
  refine aM ⟨a,xs,bf rs,rfl,g.at_,g.ps,(by simp;omega),fun d hd=>?_⟩
  have s1:aa H (upd H d (.dK (dictOf (bf rs)))):=aa.upd hd _
  have g1:=g.ts s1.ts
  refine ⟨fun m σ H'=>H'=upd H d (.dK (dictOf (bf rs)))/\∃ y,σ=[some (.ref a),some (.str y),some (.ref d)]/\y∈rs.map (·.1)/\fc nx rs.length y=fc nx rs.length x/\m=ρ y,⟨_,rfl,x,rfl,hx,rfl,rfl⟩,?_⟩
  rintro m σ H' ⟨rfl,y,rfl,hy,he,rfl⟩
  obtain ⟨v,hv,o_⟩:=g1.get hy
  have Cm:fg (upd H d (.dK (dictOf (bf rs)))) d (.str y) (some v):=by
   rw [<- o_];exact fg.k (k:=Sum.inr y) aA
  obtain ⟨b,rfl,hb⟩:=g1.as _ hv
  rcases hb with ⟨z,ys,h1,h2,h3⟩ | ⟨z,h1,h3⟩
  ·refine ⟨d,_,rfl,Cm,_,.str z,.inr (ae.of h1),aL _ _,rfl,_,rfl,?_⟩
   rw [QE,Qw (fun e=>h2 (V.str.inj e))]
   refine ja ?_
   have e2:fc nx rs.length y=y:=cX _ h3
   have:=k _ s1
   rw [<- he,e2] at this
   exact this
  ·refine ⟨d,_,rfl,Cm,_,.str "as",.inr (ae.of h1),aL _ _,rfl,_,rfl,?_⟩
   refine xm ?_
   obtain ⟨i1,i2⟩:=g1.BZ _ hv z h3
   refine ⟨fun σ' Au=>∃ m',m' < ρ y/\Au=upd H d (.dK (dictOf (bf rs)))/\∃ y,σ'=[some (.ref a),some (.str y),some (.ref d)]/\y∈rs.map (·.1)/\fc nx rs.length y=fc nx rs.length x/\m'=ρ y,fun _ _ h=>h,?_⟩
   refine ⟨d,_,rfl,Cm,_,.str z,.inr (ae.of h1),rfl,_,i2,rfl,z,rfl,i1,?_,rfl⟩
   rw [<- he]
   exact g1.MQ hy h3
theorem f7 (T:Txt K mg w):bc P w K mg base 2 "_law_head_here" ["_law_told","_law_name"] Kf:=by
 have bH:bc P w K mg base 1 "_law_row_here" ["_law_told","_law_name"] Fg:=cK T
 refine T.kE.gf jP (fun vs H Q E h=>?_) (fun f a_ A outer s H vs Q E hr h=>?_)
 ·refine hdn fun Gz9 zG9=>?_;obtain ⟨a,xs,rs,nx,ρ,x,rfl,_⟩:=h;refine zG9 ?_
  rfl
 ·refine hdn fun Gz9 zG9=>?_;obtain ⟨a,xs,rs,nx,ρ,x,rfl,g,hx,k⟩:=h;refine zG9 ?_
  have hu:=aV hr
  have hsz:sizeLine=16777216:=QL
  have OB:=g.len
  refine ⟨_,(aG (aQ (bR hu (bV (dL rfl) (by rfl) T.oU PyProof.Rows.boot_dict (aB (zv 0) aC)) (bF bH (hr.mono (by decide)) (aB (zv 0) (aB (zv 1) aC))) (fun _ _=>rfl)))),?_⟩
  refine ⟨a,xs,bf rs,rfl,g.at_,g.ps,(by simp;omega),fun d hd=>?_⟩
  have s1:aa H (upd H d (.dK (dictOf (bf rs)))):=aa.upd hd _
  refine ⟨a,xs,rs,nx,ρ,x,rfl,g.ts s1.ts,hx,fun H' s2=>?_⟩
  obtain ⟨v,hv,o_⟩:=g.get (g.B3 hx).1
  refine ⟨d,v,rfl,?_,k v _ (s1.trans s2) o_⟩
  rw [<- o_];exact fg.k (k:=Sum.inr (fc nx rs.length x)) (s2 _ _ aA)
def Kg:Sp:=fun vs H Q _=>∃ (a:Addr) (xs:List V) (rows:List ak) (ns ws:List Str) (x:Str),vs=[.ref a,.str x]/\RT H a xs rows ns ws/\(∀ z∈ws,Wd z)/\x∈ns/\
 ∀ (L:Addr) (us:List V) (H':Hp),H L=none->aa H H'->H' L=some (.lst us)->MV H' us (b_ rows x)->Q (.ref L) H'
theorem mW (T:Txt K mg w):bc P w K mg base 3 "_law_on" ["_law_told","_law_name"] Kg:=by
 have bH:bc P w K mg base 1 "_law_row_here" ["_law_told","_law_name"] Fg:=cK T
 have cL:bc P w K mg base 2 "_law_head_here" ["_law_told","_law_name"] Kf:=f7 T
 refine T.xV.gf dQ (fun vs H Q E h=>?_) (fun f a_ A outer s H vs Q E hr h=>?_)
 ·refine hdn fun Gz9 zG9=>?_;obtain ⟨a,xs,rows,ns,ws,x,rfl,_⟩:=h;refine zG9 ?_
  rfl
 ·refine hdn fun Gz9 zG9=>?_;obtain ⟨a,xs,rows,ns,ws,x,rfl,rt,hw,hx,k⟩:=h;refine zG9 ?_
  have hu:=aV hr
  have dj:=Qx (aV hr)
  have hsz:sizeLine=16777216:=QL
  obtain ⟨rs,g,nm,rl,o_⟩:=rt.good hw
  have hm:∀ z,z∈ns↔z∈rs.map (·.1):=fun z=>by rw [nm];exact rt.nm.mem_iff.symm
  obtain ⟨e1,e2,e3⟩:=rt.B3 hw hx
  have few:=rt.few
  refine ⟨_,(aD (aS (i:=2) dQ.nd rfl (Or.inl rfl) (bF cL (hr.mono (by decide)) (aB (zv 0) (aB (zv 1) aC))))
   (aD (bW (aP (eW dj) (bD (bC K) (zv 2) aH (fun _ _=>rfl)) bB (e_ _)) (aG (aS (i:=3) dQ.nd rfl (Or.inl rfl) (cM (bG (aY (bG (aY (aF bB aC)) (aI (bD (bC K) (zv 2) aH (fun _ _=>rfl)) aC))) (bG (aY (bG (aY (aF bB aC)) (aI (bD (bC K) (zv 2) aH (fun _ _=>rfl)) aC))) aC))))) (aG (bW (aP (eW dj) (bD (bC K) (zv 2) aH (fun _ _=>rfl)) bB (e_ _)) (aG (IK (i:=3) (own:=["_law_word","_law_other"]) (idx:=[]) (N':=["_law_word","_law_other"]) (cN (bg eZ) (["_law_told","_law_name","_law_here","_law_found"]:List Str) (by decide+kernel)) rfl (mH K (bD (bC K) (zv 2) aH (fun _ _=>rfl))) (fun _ _ _ _ _ _=>(cC K (n:=2) rfl (aJ (aK (i:=0) (show List.Nodup (["_law_word","_law_other"]:List Str) by decide+kernel) rfl (Or.inl rfl)) (aJ (aK (i:=1) (show List.Nodup (["_law_word","_law_other"]:List Str) by decide+kernel) rfl (Or.inl rfl)) bK)))) (fun _ _ _ _ _ _=>cV) (fun _ _ _ _ _ _=>(aY (bG (aY (aF bB (aB (zv 0) aC))) (aB (zv 1) aC)))) dQ.nd rfl rfl)) (aG (bW (aP (eW dj) (bD (bC K) (zv 2) aH (fun _ _=>rfl)) bB (e_ _)) (aG (IK (i:=3) (own:=["_law_word","_law_other"]) (idx:=[]) (N':=["_law_word","_law_other"]) (cN (bg eZ) (["_law_told","_law_name","_law_here","_law_found"]:List Str) (by decide+kernel)) rfl (mH K (bD (bC K) (zv 2) aH (fun _ _=>rfl))) (fun _ _ _ _ _ _=>(cC K (n:=2) rfl (aJ (aK (i:=0) (show List.Nodup (["_law_word","_law_other"]:List Str) by decide+kernel) rfl (Or.inl rfl)) (aJ (aK (i:=1) (show List.Nodup (["_law_word","_law_other"]:List Str) by decide+kernel) rfl (Or.inl rfl)) bK)))) (fun _ _ _ _ _ _=>cV) (fun _ _ _ _ _ _=>(aY (bG (aY (aF bB (aB (zv 0) aC))) (aB (zv 1) aC)))) dQ.nd rfl rfl)) (aG (aS (i:=3) dQ.nd rfl (Or.inl rfl) (cM aC))))))))
   (aG (aQ (kC (own:=["_law_step","_law_other"]) (idx:=[0]) (N':=["_law_step","_law_other","_law_told"]) (cN (bg eZ) (["_law_told","_law_name","_law_here","_law_found"]:List Str) (by decide+kernel)) rfl (mH K (zv 3)) (fun _ _ _ _ _ _=>(cC K (n:=2) rfl (aJ (aK (i:=0) (show List.Nodup (["_law_step","_law_other","_law_told"]:List Str) by decide+kernel) rfl (Or.inl rfl)) (aJ (aK (i:=1) (show List.Nodup (["_law_step","_law_other","_law_told"]:List Str) by decide+kernel) rfl (Or.inl rfl)) bK)))) (fun _ _ _ _ _ _=>cV) (fun _ _ _ _ _ _=>(aY (aB (zv 0) (aN (bF bH (hr.mono (by decide)) (aB (zv 2) (aB (zv 1) aC))) aC))))))))),?_⟩
  refine aM ⟨a,xs,rs,_,_,x,rfl,g,(hm x).mp hx,fun v H1 s1 hv=>?_⟩
  have Dz:HV H v (aq rows (endOf rows x)):=o_ _ v e1 (by rw [rl] at hv;exact hv)
  have hq:=Dz.tk s1.ts
  have eo:b_ rows x=(aq rows (endOf rows x)).bz.map fun m=>(m.1,endOf rows m.2):=rfl
  generalize aq rows (endOf rows x)=h at e2 e3 hq eo
  clear Dz o_ hv
  have BZ:=tH e3
  refine aU (fun σ' H'=>∃ (F:Addr) (us:List V),σ'=[some (.ref a),some (.str x),some v,some (.ref F)]/\H' F=some (.lst us)/\MV H' us h.bz/\aa H H'/\h.bz.length<=10) ?_ ?_
  ·intro nx ef
   cases hq with
   | @one b s e=>
    have nd:∀ z:Str,z∈(["way","box","pick"]:List Str)->(s==z)=false:=fun z hz=>by
     simp only [Qp,QA,or_false] at hz
     rcases e3 with rfl | rfl<;>rcases hz with rfl | rfl | rfl<;>decide+kernel
    refine ⟨_,.str s,.inr (ae.of e),aL _ _,rfl,_,rfl,dw (fun c=>?_) (fun _=>⟨_,.str s,.inr (ae.of e),aL _ _,rfl,_,rfl,dw (fun c=>?_) (fun _=>⟨_,.str s,.inr (ae.of e),aL _ _,rfl,_,rfl,dw (fun c=>?_) (fun _=>⟨(show 0<=sizeLine by decide),fun F hF=>ef _ _ ⟨F,[],rfl,aA,MV.nil,s1.trans (aa.upd hF _),by show 0<=10;decide⟩⟩)⟩)⟩)⟩
    ·rw [QE,cQ,nd "way" (by simp)] at c;cases c
    ·rw [QE,cQ,nd "box" (by simp)] at c;cases c
    ·rw [QE,cQ,nd "pick" (by simp)] at c;cases c
   | @as b y e=>cases e2
   | @way b y z e=>
    refine ⟨_,.str "way",.inr (ae.of e),aL _ _,rfl,_,rfl,dw (fun _=>?_) (fun c=>absurd c (by simp))⟩
    refine ⟨(show 1<=sizeLine by decide),fun c1 h1=>?_⟩
    have t1:=aa.upd h1 (.tup [.str "from"])
    refine ⟨_,.str y,.inr (ae.of (t1 _ _ e)),rfl,(show 2<=sizeLine by decide),fun c2 h2=>?_⟩
    have t2:=aa.upd h2 (.tup [.ref c1,.str y])
    refine ⟨(show 1<=sizeLine by decide),fun c3 h3=>?_⟩
    have t3:=aa.upd h3 (.tup [.str "to"])
    refine ⟨_,.str z,.inr (ae.of (t3 _ _ (t2 _ _ (t1 _ _ e)))),rfl,(show 2<=sizeLine by decide),fun c4 h4=>?_⟩
    have t4:=aa.upd h4 (.tup [.ref c3,.str z])
    refine ⟨(show 2<=sizeLine by decide),fun F hF=>?_⟩
    have t5:=aa.upd hF (.lst [.ref c2,.ref c4])
    have g1:=t5 _ _ (t4 _ _ (t3 _ _ (t2 _ _ (aA:upd H1 c1 (.tup [.str "from"]) c1=some (.tup [.str "from"])))))
    have g2:=t5 _ _ (t4 _ _ (t3 _ _ (aA:upd (upd H1 c1 (.tup [.str "from"])) c2 (.tup [.ref c1,.str y]) c2=_)))
    have g3:=t5 _ _ (t4 _ _ (aA:upd (upd (upd H1 c1 (.tup [.str "from"])) c2 (.tup [.ref c1,.str y])) c3 (.tup [.str "to"]) c3=_))
    have g4:=t5 _ _ (aA:upd (upd (upd (upd H1 c1 (.tup [.str "from"])) c2 (.tup [.ref c1,.str y])) c3 (.tup [.str "to"])) c4 (.tup [.ref c3,.str z]) c4=_)
    exact ef _ _ ⟨F,[.ref c2,.ref c4],rfl,aA,(MV.nil.snoc (m:=(["from"],y)) g2 g1).snoc (m:=(["to"],z)) g4 g3,s1.trans (t1.trans (t2.trans (t3.trans (t4.trans t5)))),by show 2<=10;decide⟩
   | @prs b c s ys ps e ec hp=>
    have gb:=hp.len
    have loop:∀ (wd:Str) (D:Ends),D.nx=nx->(wd=if s="box" then ("part":Str) else ("case":Str))->zz (BS ["_law_word","_law_other"] [] (iD K (j_ (AW K) (tV 2) (tC (V.int 1)))) (zw K 2 (qg (ip 0) (qg (ip 1) BF))) CZ (CN (ie (CN (ie (tC (V.str wd)) (ie (tV 0) vm))) (ie (tV 1) vm)))) (ip 3) D [some (.ref a),some (.str x),some (.ref b),none] H1:=by
     intro wd D Yi Yj
     refine ⟨_,.ref c,.inr (ae.of e),rfl,Or.inr ⟨⟨ys,ae.of ec⟩,fun L hL=>?_⟩⟩
     refine i5 (dG ys) (fun i τ H'=>∃ (v0 v1:Option V) (zs:List V),τ=[v0,v1]/\H' L=some (.lst zs)/\MV H' zs ((ps.take i).map fun p=>([wd,p.1],p.2))/\aa H1 H') ⟨none,none,[],rfl,aA,MV.nil,aa.upd hL _⟩ (by rintro i τ H' _ ⟨_,_,_,_,_,_,s⟩;exact ae.of (s _ _ ec)) ?_ ?_
     ·rintro i τ H3 hi ⟨v0,v1,zs,rfl,q1,q2,q3⟩
      have yi:i < ps.length:=by omega
      have aa0:=e3.2.2.2
      obtain ⟨d,r1,r2⟩:=hp.at_ i hi yi
      have eg:ys.getD i .ai=.ref d:=by rw [Qb,Qa hi,r1];rfl
      rw [eg]
      refine dS (q3 _ _ r2) ?_
      have J9:zs.length=i:=by have:=q2.len;simp at this;omega
      refine ⟨(show 2<=sizeLine by decide),fun c1 h1=>⟨(show 2<=sizeLine by decide),fun c2 h2=>?_⟩⟩
      have t1:=aa.upd h1 (.tup [.str wd,.str ps[i].1])
      have t2:=aa.upd h2 (.tup [.ref c1,.str ps[i].2])
      have g1:=t2 _ _ (aA:upd H3 c1 (.tup [.str wd,.str ps[i].1]) c1=some (.tup [.str wd,.str ps[i].1]))
      have g2:upd (upd H3 c1 (.tup [.str wd,.str ps[i].1])) c2 (.tup [.ref c1,.str ps[i].2]) c2=some (.tup [.ref c1,.str ps[i].2]):=aA
      dsimp only
      have sA:=t1.trans t2
      generalize upd (upd H3 c1 (.tup [.str wd,.str ps[i].1])) c2 (.tup [.ref c1,.str ps[i].2])=H5 at sA g1 g2
      have gD:=sA _ _ q1
      have tk:Tk H5 (upd H5 L (.lst (zs++[.ref c2]))):=(Tk.refl).set gD (by intro _ z;cases z)
      refine ⟨zs,gD,by omega,_,_,zs++[.ref c2],rfl,aA,?_,(q3.trans sA).put hL⟩
      have et:(ps.take (i+1)).map (fun p=>(([wd,p.1],p.2):List Str×Str))=(ps.take i).map (fun p=>(([wd,p.1],p.2):List Str×Str))++[([wd,ps[i].1],ps[i].2)]:=by
       rw [Qs,Qa yi,Qm];rfl
      rw [et]
      exact (q2.tk (sA.ts.trans tk)).snoc (m:=([wd,ps[i].1],ps[i].2)) (tk _ _ g2) (tk _ _ g1)
     ·rintro τ H3 ⟨v0,v1,zs,rfl,q1,q2,q3⟩
      rw [gb,Qo] at q2
      show D.nx _ H3
      rw [Yi]
      refine ef _ _ ⟨L,zs,rfl,q1,?_,s1.trans q3,by show (ps.map _).length<=10;rw [Ql];exact e3.2.2.2⟩
      rw [Yj] at q2
      exact q2
    rcases e3.1 with rfl | rfl
    ·refine ⟨_,.str "box",.inr (ae.of e),aL _ _,rfl,_,rfl,dw (fun c=>?_) (fun _=>⟨_,.str "box",.inr (ae.of e),aL _ _,rfl,_,rfl,dw (fun _=>loop "part" _ rfl rfl) (fun c=>absurd c (by simp))⟩)⟩
     rw [QE,cQ] at c;exact absurd c (by decide+kernel)
    ·refine ⟨_,.str "pick",.inr (ae.of e),aL _ _,rfl,_,rfl,dw (fun c=>?_) (fun _=>⟨_,.str "pick",.inr (ae.of e),aL _ _,rfl,_,rfl,dw (fun c=>?_) (fun _=>⟨_,.str "pick",.inr (ae.of e),aL _ _,rfl,_,rfl,dw (fun _=>loop "case" _ rfl (by decide+kernel)) (fun c=>absurd c (by simp))⟩)⟩)⟩
     ·rw [QE,cQ] at c;exact absurd c (by decide+kernel)
     ·rw [QE,cQ] at c;exact absurd c (by decide+kernel)
  rintro σ' H2 ⟨F,us,rfl,gF,mv,s2,ml⟩
  have eu:=rt.tk s2.ts
  have g2:=g.ts s2.ts
  have ul:=mv.len
  refine Or.inl ⟨⟨us,af.of gF⟩,fun D hD=>?_⟩
  refine i5 (d8 us) (fun i τ H'=>∃ (v0 v1:Option V) (zs:List V),τ=[v0,v1,some (.ref a)]/\H' D=some (.lst zs)/\MV H' zs ((h.bz.take i).map fun m=>(m.1,endOf rows m.2))/\aa H2 H') ⟨none,none,[],rfl,aA,MV.nil,aa.upd hD _⟩ (by rintro i τ H' _ ⟨_,_,_,_,_,_,s⟩;exact af.of (s _ _ gF)) ?_ ?_
  ·rintro i τ H3 hi ⟨v0,v1,zs,rfl,q1,q2,q3⟩
   have Dq:i < h.bz.length:=by omega
   obtain ⟨c,b,r1,r2,r3⟩:=mv.at_ i hi Dq
   have eg:us.getD i .ai=.ref c:=by rw [Qb,Qa hi,r1];rfl
   rw [eg]
   have Kh:h.bz[i]∈h.bz:=Qj Dq
   refine dS (q3 _ _ r2) ?_
   have J9:zs.length=i:=by have:=q2.len;simp at this;omega
   refine ⟨a,xs,rs,_,_,h.bz[i].2,rfl,g2.ts q3.ts,(hm _).mp (BZ _ Kh),fun H4 s4=>⟨(show 2<=sizeLine by decide),fun d hd=>?_⟩⟩
   have s5:=aa.upd hd (.tup [.ref b,.str (fc (gi rows) rs.length h.bz[i].2)])
   have gd:upd H4 d (.tup [.ref b,.str (fc (gi rows) rs.length h.bz[i].2)]) d=some (.tup [.ref b,.str (fc (gi rows) rs.length h.bz[i].2)]):=aA
   dsimp only
   generalize upd H4 d (.tup [.ref b,.str (fc (gi rows) rs.length h.bz[i].2)])=H5 at s5 gd
   rw [rl] at gd
   have sA:=s4.trans s5
   have gD:=sA _ _ q1
   have tk:Tk H5 (upd H5 D (.lst (zs++[.ref d]))):=(Tk.refl).set gD (by intro _ z;cases z)
   refine ⟨zs,gD,by omega,_,_,zs++[.ref d],rfl,aA,?_,(q3.trans sA).put hD⟩
   have et:(h.bz.take (i+1)).map (fun m=>(m.1,endOf rows m.2))=(h.bz.take i).map (fun m=>(m.1,endOf rows m.2))++[(h.bz[i].1,endOf rows h.bz[i].2)]:=by
    rw [Qs,Qa Dq,Qm];rfl
   rw [et]
   exact (q2.tk (sA.ts.trans tk)).snoc (tk _ _ gd) (tk _ _ (sA _ _ (q3 _ _ r3)))
  ·rintro τ H3 ⟨v0,v1,zs,rfl,q1,q2,q3⟩
   rw [ul,Qo,<- eo] at q2
   exact k D zs H3 (s2.free hD) (s2.trans q3) q1 q2
theorem Yk {Q:VK} {v:V} (e:σ[i]? =some (some v)) (h:Q v H):tV i σ H Q:=by
 unfold tV
 rw [e]
 exact h
theorem cG {kvs:List (Key×V)} {k:Key} {v:V} (h:∀ kv∈kvs,kv.1≠k):putK kvs k v=kvs++[(k,v)]:=by
 unfold putK
 rw [if_neg]
 intro e
 rw [List.any_eq_true] at e
 obtain ⟨kv,hk,e⟩:=e
 exact h kv hk (Qt e)
def OC:Sp:=fun vs H Q _=>∃ (a:Addr) (xs:List V) (rows:List ak) (ns ws:List Str),vs=[.ref a]/\RT H a xs rows ns ws/\(∀ z∈ws,Wd z)/\
 ∀ (d:Addr) (H':Hp),H d=none->aa H H'->H' d=some (.dK (ir rows))->Q (.ref d) H'
theorem rY (T:Txt K mg w):bc P w K mg base 2 "rows_of" ["T"] OC:=by
 have tL:bc P w K mg base 1 "heads_of" ["T"] Oz:=pH T
 refine T.wM.gf cZ (fun vs H Q E h=>?_) (fun f a_ A outer s H vs Q E hr h=>?_)
 ·obtain ⟨a,xs,rows,ns,ws,rfl,_⟩:=h
  rfl
 ·refine hdn fun Gz9 zG9=>?_;obtain ⟨a,xs,rows,ns,ws,rfl,rt,hw,k⟩:=h;refine zG9 ?_
  have hu:=aV hr
  have dj:=Qx (aV hr)
  have hsz:sizeLine=16777216:=QL
  obtain ⟨rs,g,nm,rl,o_⟩:=rt.good hw
  refine ⟨_,(aD (aS (i:=1) cZ.nd rfl (Or.inl rfl) (bF tL (hr.mono (by decide)) (aB (zv 0) aC)))
   (aD (aS (i:=2) cZ.nd rfl (Or.inl rfl) UY)
   (aD (gT PassesOwn.never rfl (Vm (zv 1)) (aK (i:=3) cZ.nd rfl (Or.inl rfl)) (aD (aS (i:=4) cZ.nd rfl (Or.inl rfl) (zv 3))
   (aD (eI PassesOwn.never (aP (eW dj) (bD (bC K) (bR hu (zv 1) (zv 4) (fun _ _=>rfl)) aH (fun _ _=>rfl)) bB (e_ _)) (aG (aS (i:=4) cZ.nd rfl (Or.inl rfl) (bD (bC K) (bR hu (zv 1) (zv 4) (fun _ _=>rfl)) aH (fun _ _=>rfl)))))
   (aG (oR hu (zv 2) (zv 3) (zv 4) rfl)))))
   (aG (aQ (zv 2)))))),?_⟩
  refine aM ⟨a,xs,rs,rfl,Yh g,fun d hd=>?_⟩
  have knd:((bf rs).map (·.1)).Nodup:=by
   have e:(bf rs).map (·.1)=(rs.map (·.1)).map (Sum.inr:Str->Key):=by simp [bf,Qn,QB]
   rw [e]
   exact List.pairwise_map.mpr (g.nd.imp fun h e=>h (Sum.inr.inj e))
  have OB:=g.len
  have ed:=fT _ knd
  dsimp only
  have s1:aa H (upd H d (.dK (dictOf (bf rs)))):=aa.upd hd _
  refine aM fun R hR=>?_
  have Kl:R≠d:=fun e=>by rw [e,aA] at hR;cases hR
  have Ff:H R=none:=s1.free hR
  refine aU (fun σ' H'=>∃ v3 v4:Option V,σ'=[some (.ref a),some (.ref d),some (.ref R),v3,v4]/\H' R=some (.dK (ir rows))/\aa H H') ?_ ?_
  ·intro nx ef
   refine ⟨d,dictOf (bf rs),rfl,.inl (by rw [aE Kl.symm];exact aA),fun o=>?_⟩
   refine fU (xT (dictOf (bf rs))) (fun i σ' H'=>∃ v3 v4:Option V,σ'=[some (.ref a),some (.ref d),some (.ref R),v3,v4]/\H' d=some (.au o (.dK (dictOf (bf rs))))/\H' R=some (.dK ((ir rows).take i))/\aa H H')
    ⟨none,none,rfl,aA,by rw [aE Kl,aA];rfl,(((s1.put Ff)).put hd)⟩ (by rintro i σ' H' _ ⟨_,_,_,h,_⟩;exact h) ?_ ?_
   ·rintro i σ' H3 hi ⟨v3,v4,rfl,q1,q2,q3⟩
    have jg:i < rs.length:=by have:=iB (bf rs);simp at this;omega
    have Km:i < rows.length:=by omega
    have ek:sf (dictOf (bf rs)) i=.str rs[i].1:=by
     unfold sf
     rw [ed,Qa (by simpa using jg),Ke i (by simpa using jg) jg];rfl
    have en:rs[i].1=rows[i].1:=by
     have:(rs.map (·.1))[i]'(by simpa using jg)=(rows.map (·.1))[i]'(by simpa using Km):=by simp only [nm]
     simpa using this
    rw [ek]
    have hx:rs[i].1∈rs.map (·.1):=List.mem_map.mpr ⟨_,Qj jg,rfl⟩
    generalize rs[i].1=x at en hx
    have g3:=g.ts q3.ts
    refine aM (Yk (v:=.str x) rfl ?_)
    refine aU (fun σ' H'=>H'=H3/\σ'=[some (.ref a),some (.ref d),some (.ref R),some (.str x),some (.str (fc (gi rows) rs.length x))]) ?_ ?_
    ·intro XM Cf
     refine ⟨fun m σ H'=>H'=H3/\∃ y,σ=[some (.ref a),some (.ref d),some (.ref R),some (.str x),some (.str y)]/\y∈rs.map (·.1)/\fc (gi rows) rs.length y=fc (gi rows) rs.length x/\m=ns.idxOf y,⟨_,rfl,x,rfl,hx,rfl,rfl⟩,?_⟩
     rintro m σ H' ⟨rfl,y,rfl,hy,he,rfl⟩
     obtain ⟨v,hv,o_⟩:=g3.get hy
     have Cm:fg H' d (.str y) (some v):=by
      rw [<- o_];exact fg.rd (k:=Sum.inr y) (.inr ⟨o,q1⟩)
     obtain ⟨b,rfl,hb⟩:=g3.as _ hv
     rcases hb with ⟨z,ys,h1,h2,h3⟩ | ⟨z,h1,h3⟩
     ·refine ⟨d,_,rfl,Cm,_,.str z,.inr (ae.of h1),aL _ _,rfl,_,rfl,?_⟩
      rw [QE,Qw (fun e=>h2 (V.str.inj e))]
      refine ja ?_
      have e2:fc (gi rows) rs.length y=y:=cX _ h3
      refine Cf _ _ ⟨rfl,?_⟩
      rw [<- he,e2]
     ·refine ⟨d,_,rfl,Cm,_,.str "as",.inr (ae.of h1),aL _ _,rfl,_,rfl,?_⟩
      refine xm ?_
      obtain ⟨i1,i2⟩:=g3.BZ _ hv z h3
      refine ⟨fun σ' Au=>∃ m',m' < ns.idxOf y/\Au=H'/\∃ y,σ'=[some (.ref a),some (.ref d),some (.ref R),some (.str x),some (.str y)]/\y∈rs.map (·.1)/\fc (gi rows) rs.length y=fc (gi rows) rs.length x/\m'=ns.idxOf y,fun _ _ h=>h,?_⟩
      refine ⟨d,_,rfl,Cm,_,.str z,.inr (ae.of h1),rfl,_,i2,rfl,z,rfl,i1,?_,rfl⟩
      rw [<- he]
      exact g3.MQ hy h3
    ·rintro σ' H' ⟨rfl,rfl⟩
     have fi:((ir rows).take i).length<=14:=by have:=rt.few;have:=rt.rl;simp [ir];omega
     have Yl:putK ((ir rows).take i) (.inr x) (.str (fc (gi rows) rs.length x))=(ir rows).take (i+1):=by
      rw [cG,Qs,Qa (by simpa [ir] using Km)]
      ·simp [ir,en,endOf,rl]
      ·intro kv G1 e
       obtain ⟨j,hj,rfl⟩:=Qi G1
       have uu:j < i:=by simp at hj;omega
       rw [List.getElem_take] at e
       simp only [ir,Qr] at e
       have e':rows[j].1=rows[i].1:=by rw [<- en];exact Sum.inr.inj e
       have nd:=rt.jw
       have:=List.pairwise_iff_getElem.mp nd j i (by simp;omega) (by simpa using Km) uu
       simp at this
       exact this e'
     refine ⟨R,_,rfl,AR.k (k:=Sum.inr x) q2 (by omega),?_⟩
     rw [Yl]
     exact ⟨_,_,rfl,by rw [aE Kl.symm];exact q1,aA,q3.put Ff⟩
   ·rintro σ' H' ⟨v3,v4,rfl,q1,q2,q3⟩
    have e:(dictOf (bf rs)).length=(ir rows).length:=by rw [ed];simp [ir,rl]
    rw [e,Qo] at q2
    exact ef _ _ ⟨v3,v4,rfl,q2,q3⟩
  ·rintro σ' H' ⟨v3,v4,rfl,q2,q3⟩
   exact k R H' Ff q3 q2
def OD:Sp:=fun vs H Q _=>∃ (x:V) (h:Hd) (ns:List Str),vs=[x]/\HV H x h/\h.ok ns/\∀ L H',H L=none->H' L=some (.lst ((x_ h).map V.str))->aa H H'->Q (.ref L) H'
theorem nV (T:Txt K mg w):bc P w K mg base 1 "names_in" ["head"] OD:=by
 refine T.uB.gf qY (fun vs H Q E h=>?_) (fun f a_ A outer s H vs Q E hr h=>?_)
 ·obtain ⟨x,h,ns,rfl,_⟩:=h
  rfl
 ·obtain ⟨x,h,ns,rfl,hv,hok,k⟩:=h
  have hsz:sizeLine=16777216:=QL
  refine ⟨_,(aD (bW (aP (oH K) (bD (bC K) (zv 0) aH (fun _ _=>rfl)) (UT K T.yC) rfl) (aG (aQ (kC (own:=["word","x"]) (idx:=[]) (N':=["word","x"]) (cN (bg fV) (["head"]:List Str) (by decide+kernel)) rfl (mH K (bD (bC K) (zv 0) aH (fun _ _=>rfl))) (fun _ _ _ _ _ _=>(cC K (n:=2) rfl (aJ (aK (i:=0) (show List.Nodup (["word","x"]:List Str) by decide+kernel) rfl (Or.inl rfl)) (aJ (aK (i:=1) (show List.Nodup (["word","x"]:List Str) by decide+kernel) rfl (Or.inl rfl)) bK)))) (fun _ _ _ _ _ _=>cV) (fun _ _ _ _ _ _=>(zv 1))))) aZ)
   (aG (aQ (bV (mS K) (by rfl) T.tJ PyProof.Rows.boot_list (aI (fI (sQ K) (zv 0) (fH aH) fP) aC))))),?_⟩
  have fin:∀ (b:Addr) (z:Str) (ys:List Str),H b=some (.tup (.str z::ys.map V.str))->x_ h=ys->∀ D:Ends,D.rt=Q->CF (BO (IP K) (ie (CQ (fun x lo hi H Q=>AZ x lo hi H Q\/AO K x lo hi H Q\/AN K x lo hi H Q) (tV 0) (CP (tC (V.int 1))) CO) vm)) D [some (.ref b)] H:=by
   intro b z ys e en D hD
   refine ⟨1,rfl,Or.inr (Or.inr ⟨b,_,rfl,ae.of e,?_,fun p1 OE=>⟨p1,_,rfl,.inr (ae.of aA),fun L hL=>?_⟩⟩)⟩
   ·intro ⟨h1,_⟩
    have:HT.cj (V.str z::ys.map V.str).length 0 (some ((1:Nat):Int))=0:=h1
    rw [HT.iR] at this
    simp at this
   ·have s1:=(aa.upd OE (.tup (oq (V.str z::ys.map V.str) (some 1) none))).trans (aa.upd hL (.lst (oq (V.str z::ys.map V.str) (some 1) none)))
    rw [hD]
    refine k L _ ((aa.upd OE _).free hL) ?_ s1
    rw [aA]
    have ec:oq (V.str z::ys.map V.str) (some 1) none=ys.map V.str:=by
     have:=lK (V.str z::ys.map V.str) 1
     exact this
    rw [ec,en]
  have Ko:∀ (b:Addr) (z:Str) (ys:List Str),H b=some (.tup (.str z::ys.map V.str))->(z=="box")=false->(z=="pick")=false->x_ h=ys->zu (F7 (Gc (j_ (Gn K false) (j_ (AW K) (tV 0) (tC (V.int 0))) (Gq K [V.str "box",V.str "pick"]))) (CF (BS ["word","x"] [] (iD K (j_ (AW K) (tV 0) (tC (V.int 1)))) (zw K 2 (qg (ip 0) (qg (ip 1) BF))) CZ (tV 1))) F6) (CF (BO (IP K) (ie (CQ (fun x lo hi H Q=>AZ x lo hi H Q\/AO K x lo hi H Q\/AN K x lo hi H Q) (tV 0) (CP (tC (V.int 1))) CO) vm))) {nx:=fun x H'=>Q V.ai H',rt:=Q} [some (.ref b)] H:=fun b z ys e n1 n2 en=>by
   refine ⟨_,.str z,.inr (ae.of e),aL _ _,?_⟩
   intro aW hW
   refine ⟨_,.inr hW,rfl,rfl,_,rfl,?_⟩
   have ew:(false^^Ad (.str z) [V.str "box",V.str "pick"])=false:=by
    rw [QE,show ([V.str "box",V.str "pick"]:List V)=(["box","pick"]:List Str).map V.str from rfl,iN]
    refine Qw fun hm=>?_
    simp only [Qp,QA,or_false] at hm
    rcases hm with rfl | rfl
    ·simp at n1
    ·simp at n2
   rw [ew]
   exact ja (fin b z ys e en _ rfl)
  cases hv with
  | @one b s e=>exact Ko b s [] e (by rcases hok with rfl | rfl<;>decide+kernel) (by rcases hok with rfl | rfl<;>decide+kernel) rfl
  | @as b y e=>exact Ko b "as" [y] e (by decide+kernel) (by decide+kernel) rfl
  | @way b y z e=>exact Ko b "way" [y,z] e (by decide+kernel) (by decide+kernel) rfl
  | @prs b c s ys ps e ec hp=>
   refine ⟨_,.str s,.inr (ae.of e),aL _ _,?_⟩
   intro aW hW
   refine ⟨_,.inr hW,rfl,rfl,_,rfl,?_⟩
   have ew:(false^^Ad (.str s) [V.str "box",V.str "pick"])=true:=by
    rw [QE,show ([V.str "box",V.str "pick"]:List V)=(["box","pick"]:List Str).map V.str from rfl,iN]
    refine Qv ?_
    rcases hok.1 with rfl | rfl<;>simp
   rw [ew]
   refine xm ?_
   have gb:=hp.len
   have GA:=hok.2.2.2
   refine ⟨_,.ref c,.inr (ae.of e),rfl,Or.inr ⟨⟨ys,ae.of ec⟩,fun D hD=>?_⟩⟩
   refine i5 (dG ys) (fun i τ H3=>H3 D=some (.lst (((ps.take i).map (·.2)).map V.str))/\aa H H3/\∃ v1 v2,τ=[v1,v2]) ⟨aA,aa.upd hD _,none,none,rfl⟩ (fun i τ H3 _ h=>ae.of (h.2.1 _ _ ec)) ?_ ?_
   ·rintro i τ H3 hi ⟨q1,q2,v1,v2,rfl⟩
    have yi:i < ps.length:=by omega
    obtain ⟨d,e1,e2⟩:=hp.at_ i hi yi
    have eg:ys.getD i .ai=.ref d:=by rw [Qb,Qa hi,e1];rfl
    rw [eg]
    refine dS (q2 _ _ e2) ?_
    refine ⟨_,q1,by simp;omega,?_,(q2.put hD),_,_,rfl⟩
    rw [aA,Qs,Qa yi,Qm,Qm]
    rfl
   ·rintro τ H3 ⟨q1,q2,v1,v2,rfl⟩
    rw [gb,Qo] at q1
    exact k D H3 hD q1 q2
def wk (s:Str):Str:=if s="box" then "part" else "case"
def Kp (mg:Str->Option Value):Sp:=fun vs H Q _=>∃ (x:V) (h:Hd) (ns:List Str),vs=[x]/\HV H x h/\h.ok ns/\Kn mg H "FROM" [.str "from"]/\Kn mg H "TO" [.str "to"]/\
 ∀ (L:Addr) (us:List V) (H':Hp),H L=none->H' L=some (.lst us)->SV H' us (h.bz.map (·.1))->aa H H'->Q (.ref L) H'
theorem jY (T:Txt K mg w):bc P w K mg base 1 "steps_in" ["head"] (Kp mg):=by
 refine T.tQ.gf qW (fun vs H Q E h=>?_) (fun f a_ A outer s H vs Q E hr h=>?_)
 ·obtain ⟨x,h,ns,rfl,_⟩:=h
  rfl
 ·refine hdn fun Gz9 zG9=>?_;obtain ⟨x,h,ns,rfl,hv,hok,kf,kt,k⟩:=h;refine zG9 ?_
  have dj:=Qx (aV hr)
  have hsz:sizeLine=16777216:=QL
  refine ⟨_,(aD (bW (aP (eW dj) (bD (bC K) (zv 0) aH (fun _ _=>rfl)) bB (e_ _)) (aG (aQ (cM (aB (MD T.sF) (aB (MD T.JU) aC))))) aZ)
   (aD (bW (Vh T.iT (bD (bC K) (zv 0) aH (fun _ _=>rfl))) (aG (aQ (kC (own:=["word","x"]) (idx:=[0]) (N':=["word","x","head"]) (cN (bg fS) (["head"]:List Str) (by decide+kernel)) rfl (mH K (bD (bC K) (zv 0) aH (fun _ _=>rfl))) (fun _ _ _ _ _ _=>(cC K (n:=2) rfl (aJ (aK (i:=0) (show List.Nodup (["word","x","head"]:List Str) by decide+kernel) rfl (Or.inl rfl)) (aJ (aK (i:=1) (show List.Nodup (["word","x","head"]:List Str) by decide+kernel) rfl (Or.inl rfl)) bK)))) (fun _ _ _ _ _ _=>cV) (fun _ _ _ _ _ _=>(aY (aI (Vj T.iT (bD (bC K) (zv 2) aH (fun _ _=>rfl)) (fun _ _=>rfl)) (aB (zv 0) aC))))))) aZ)
   (aG (aQ (cM aC))))),?_⟩
  cases hv with
  | @one b s e=>
   refine ⟨_,.str s,.inr (ae.of e),aL _ _,rfl,_,rfl,dw (fun c=>?_) (fun _=>⟨_,.str s,.inr (ae.of e),aL _ _,Sum.inr s,rfl,_,rfl,dw (fun c=>?_) (fun _=>⟨(show 0<=sizeLine by decide),fun L hL=>k L [] _ hL aA SV.nil (aa.upd hL _)⟩)⟩)⟩
   ·rw [QE,cQ] at c
    rcases hok with rfl | rfl<;>exact absurd c (by decide+kernel)
   ·rcases hok with rfl | rfl<;>exact absurd c (by decide+kernel)
  | @as b y e=>
   refine ⟨_,.str "as",.inr (ae.of e),aL _ _,rfl,_,rfl,dw (fun c=>?_) (fun _=>⟨_,.str "as",.inr (ae.of e),aL _ _,Sum.inr "as",rfl,_,rfl,dw (fun c=>?_) (fun _=>⟨(show 0<=sizeLine by decide),fun L hL=>k L [] _ hL aA SV.nil (aa.upd hL _)⟩)⟩)⟩
   ·rw [QE,cQ] at c
    exact absurd c (by decide+kernel)
   ·exact absurd c (by decide+kernel)
  | @way b y z e=>
   refine ⟨_,.str "way",.inr (ae.of e),aL _ _,rfl,_,rfl,dw (fun _=>?_) (fun c=>absurd c (by simp))⟩
   refine ⟨(show 2<=sizeLine by decide),fun L hL=>k L _ _ hL aA ?_ (aa.upd hL _)⟩
   exact (SV.nil.snoc (m:=["from"]) (kf.same (aa.upd hL _)).rd).snoc (m:=["to"]) (kt.same (aa.upd hL _)).rd
  | @prs b c s ys ps e ec hp=>
   have gb:=hp.len
   have GA:=hok.2.2.2
   obtain ⟨n1,n2,n3⟩:(s=="way")=false/\(bh [((Sum.inr "box":Key),V.str "part"),(Sum.inr "pick",V.str "case")] (Sum.inr s)).isSome=true/\bh [((Sum.inr "box":Key),V.str "part"),(Sum.inr "pick",V.str "case")] (Sum.inr s)=some (.str (wk s)):=by
    rcases hok.1 with rfl | rfl<;>exact ⟨by decide+kernel,by decide+kernel,by decide+kernel⟩
   refine ⟨_,.str s,.inr (ae.of e),aL _ _,rfl,_,rfl,dw (fun c=>?_) (fun _=>⟨_,.str s,.inr (ae.of e),aL _ _,Sum.inr s,rfl,_,rfl,dw (fun _=>?_) (fun c=>?_)⟩)⟩
   ·rw [QE,cQ,n1] at c;cases c
   ·refine ⟨_,.ref c,.inr (ae.of e),rfl,Or.inr ⟨⟨ys,ae.of ec⟩,fun D hD=>?_⟩⟩
    refine i5 (dG ys) (fun i τ H3=>∃ (v0 v1:Option V) (zs:List V),τ=[v0,v1,some (.ref b)]/\H3 D=some (.lst zs)/\SV H3 zs ((ps.take i).map fun p=>[wk s,p.1])/\aa H H3) ⟨none,none,[],rfl,aA,SV.nil,aa.upd hD _⟩ (by rintro i τ H3 _ ⟨_,_,_,_,_,_,s⟩;exact ae.of (s _ _ ec)) ?_ ?_
    ·rintro i τ H3 hi ⟨v0,v1,zs,rfl,q1,q2,q3⟩
     have yi:i < ps.length:=by omega
     obtain ⟨d,r1,r2⟩:=hp.at_ i hi yi
     have eg:ys.getD i .ai=.ref d:=by rw [Qb,Qa hi,r1];rfl
     rw [eg]
     refine dS (q3 _ _ r2) ?_
     have J9:zs.length=i:=by have:=q2.len;simp at this;omega
     refine ⟨_,.str s,.inr (ae.of (q3 _ _ e)),aL _ _,Sum.inr s,_,rfl,n3,(show 2<=sizeLine by decide),fun c1 h1=>?_⟩
     have t1:=aa.upd h1 (.tup [.str (wk s),.str ps[i].1])
     have g1:upd H3 c1 (.tup [.str (wk s),.str ps[i].1]) c1=some (.tup [.str (wk s),.str ps[i].1]):=aA
     dsimp only
     generalize upd H3 c1 (.tup [.str (wk s),.str ps[i].1])=H5 at t1 g1
     have gD:=t1 _ _ q1
     have kp:∀ b ys,aj H5 b ys->aj (upd H5 D (.lst (zs++[.ref c1]))) b ys:=fun b ys r=>r.upd fun u hu z=>by
      subst z
      rcases r with r | ⟨_,r⟩<;>(rw [gD] at r;cases r)
     refine ⟨zs,gD,by omega,_,_,zs++[.ref c1],rfl,aA,?_,(q3.trans t1).put hD⟩
     have et:(ps.take (i+1)).map (fun p=>([wk s,p.1]:List Str))=(ps.take i).map (fun p=>([wk s,p.1]:List Str))++[[wk s,ps[i].1]]:=by
      rw [Qs,Qa yi,Qm];rfl
     rw [et]
     exact ((q2.keep fun b ys r=>r.same t1).keep kp).snoc (m:=[wk s,ps[i].1]) (kp _ _ (.inl g1))
    ·rintro τ H3 ⟨v0,v1,zs,rfl,q1,q2,q3⟩
     rw [gb,Qo] at q2
     refine k D zs H3 hD q1 ?_ q3
     have em:(Hd.prs s ps).bz.map (·.1)=ps.map fun p=>([wk s,p.1]:List Str):=by
      simp [Hd.bz,wk,Qn,QB]
     rw [em]
     exact q2
   ·rw [n2] at c;cases c
def OF (mg:Str->Option Value):Sp:=fun vs H Q _=>∃ (x:V) (h:Hd) (ns:List Str) (rows:List ak) (d:Addr),vs=[x,.ref d]/\HV H x h/\h.ok ns/\Kn mg H "FROM" [.str "from"]/\Kn mg H "TO" [.str "to"]/\Rd H d (.dK (ir rows))/\(∀ z∈ns,z∈rows.map (·.1))/\(rows.map (·.1)).Nodup/\
 ∀ (m:Addr) (H':Hp),H m=none->H' m=some (.dT (ky rows h))->aa H H'->Q (.ref m) H'
theorem qA (T:Txt K mg w):bc P w K mg base 2 "moves_in" ["head","rows"] (OF mg):=by
 have iE:bc P w K mg base 1 "steps_in" ["head"] (Kp mg):=jY T
 have rX:bc P w K mg base 1 "names_in" ["head"] OD:=nV T
 refine T.u7.gf pM (fun vs H Q E h=>?_) (fun f a_ A outer s H vs Q E hr h=>?_)
 ·obtain ⟨x,h,ns,rows,d,rfl,_⟩:=h
  rfl
 ·refine hdn fun Gz9 zG9=>?_;obtain ⟨x,h,ns,rows,d,rfl,hv,hok,kf,kt,hd,jb,nd,k⟩:=h;refine zG9 ?_
  have hu:=aV hr
  have dj:=Qx (aV hr)
  have hsz:sizeLine=16777216:=QL
  have few:=gX hok
  refine ⟨_,(aG (aQ (VL (own:=["step","x"]) (idx:=[1]) (N':=["step","x","rows"]) (cN (bg fF) (["head","rows"]:List Str) (by decide+kernel)) rfl dj (nU K (by rfl) T.JT (aN (bF iE (hr.mono (by decide)) (aB (zv 0) aC)) (aN (bF rX (hr.mono (by decide)) (aB (zv 0) aC)) aC))) (fun _ _ _ _ _ _=>(cC K (n:=2) rfl (aJ (aK (i:=0) (show List.Nodup (["step","x","rows"]:List Str) by decide+kernel) rfl (Or.inl rfl)) (aJ (aK (i:=1) (show List.Nodup (["step","x","rows"]:List Str) by decide+kernel) rfl (Or.inl rfl)) bK)))) (fun _ _ _ _ _ _=>cV) (fun _ _ _ _ _ _=>(zv 0)) (fun _ _ _ _ _ _=>(bR hu (zv 2) (zv 1) (fun _ _=>rfl)))))),?_⟩
  refine ⟨x,h,ns,rfl,hv,hok,kf,kt,fun L us H1 hL eL sv s1=>⟨x,h,ns,rfl,hv.tk s1.ts,hok,fun M H2 hM eM s2=>?_⟩⟩
  have Ym:=sv.len
  rw [Ql] at Ym
  refine ⟨L,M,us,(x_ h).map V.str,rfl,af.of (s2 _ _ eL),af.of eM,fun D hD=>?_⟩
  have vd:H D=none:=(s1.trans s2).free hD
  have mn:min us.length ((x_ h).map V.str).length=h.bz.length:=by have:=Ww (h:=h);simp;omega
  have Yn:=o5 (rows:=rows) (zG hok)
  have ml:(ky rows h).length=h.bz.length:=by simp [ky]
  refine Wt (oO us ((x_ h).map V.str)) (fun i τ H3=>∃ v0 v1:Option V,τ=[v0,v1,some (.ref d)]/\H3 D=some (.dT ((ky rows h).take i))/\aa H2 H3) ⟨none,none,rfl,aA,aa.upd hD _⟩ (by rintro i τ H3 _ ⟨_,_,_,_,s⟩;exact ⟨af.of (s _ _ (s2 _ _ eL)),af.of (s _ _ eM)⟩) ?_ ?_
  ·rintro i τ H3 T hi ⟨v0,v1,rfl,q1,q2⟩ hT
   rw [mn] at hi
   have OG:i < us.length:=by omega
   obtain ⟨b,e1,e2⟩:=sv.at_ i OG (by simpa using hi)
   have g1:us.getD i .ai=.ref b:=by rw [Qb,Qa OG,e1];rfl
   have E5:((x_ h).map V.str).getD i .ai=.str h.bz[i].2:=by rw [Qb,Qq,Wv i hi];rfl
   rw [g1,E5]
   have t1:=aa.upd hT (.tup [.ref b,.str h.bz[i].2])
   generalize upd H3 T (.tup [.ref b,.str h.bz[i].2])=H5 at t1
   have hz:h.bz[i].2∈ns:=tH hok _ (Qj hi)
   have Yo:Rd H5 d (.dK (ir rows)):=hd.same (((s1.trans s2).trans q2).trans t1)
   refine ⟨d,.str (endOf rows h.bz[i].2),rfl,by rw [<- nH nd (jb _ hz)];exact fg.rd (k:=Sum.inr h.bz[i].2) Yo,?_⟩
   have er:aj H5 b (h.bz[i].1.map V.str):=by
    have:=(e2.same ((s2.trans q2).trans t1))
    simpa using this
   have Kq:i < (ky rows h).length:=by omega
   have em:(ky rows h)[i]=(h.bz[i].1.map Sum.inr,.str (endOf rows h.bz[i].2)):=by simp [ky]
   refine ⟨(ky rows h).take i,(ky rows h)[i].1,b,rfl,by rw [em,Jw];exact er,t1 _ _ q1,by simp;omega,_,_,rfl,?_,?_⟩
   ·have:=Wu Yn Kq
    rw [em] at this ⊢
    rw [this]
    exact aA
   ·exact (q2.trans t1).put hD
  ·rintro τ H3 ⟨v0,v1,rfl,q1,q2⟩
   rw [mn,<- ml,Qo] at q1
   exact k D H3 vd q1 ((s1.trans s2).trans q2)
def Kr (mg:Str->Option Value):Sp:=fun vs H Q _=>∃ (x dx a:Addr) (xs:List V) (rows:List ak) (ns ws:List Str),vs=[.ref x,.ref a]/\H x=some (.ins (adr mg "Net") dx [])/\RT H a xs rows ns ws/\(∀ z∈ws,Wd z)/\Kn mg H "FROM" [.str "from"]/\Kn mg H "TO" [.str "to"]/\
 ∀ H',Jx H' (adr mg "Net") x rows->Sx x H H'->Q .ai H'
theorem Yp {f g:Str} {u v:V} (n:Nat):(cz f u (cz g v [])).length < 1000:=by
 have h1:=cI f u (cz g v [])
 have h2:=cI g v []
 simp at h2
 omega
theorem wS {K:Q0} {ta tv:TE} {f:Str} {D:Ends} (h:tv σ H fun y H1=>ta σ H1 fun x H2=>∃ a C dx fs,x=.ref a/\H2 a=some (.ins C dx fs)/\yt K C/\yu K C f/\fs.length < 1000/\D.nx σ (upd H2 a (.ins C dx (cz f y fs)))):Gd K ta tv f D σ H:=h
set_option maxHeartbeats 1000000 in
theorem zU (T:Txt K mg w):EH P w K mg base 4 "Net" (adr mg "Net") ["self","T"] (Kr mg):=by
 have wW:bc P w K mg base 2 "rows_of" ["T"] OC:=rY T
 have iE:bc P w K mg base 1 "steps_in" ["head"] (Kp mg):=jY T
 have uJ:bc P w K mg base 2 "moves_in" ["head","rows"] (OF mg):=qA T
 have cl:=T.yg.2.1
 have na:=T.yg.2.2.1
 refine T.yg.gf qM (fun vs H Q E h=>?_) (fun f a_ A outer s H vs Q E hr h=>?_)
 ·refine hdn fun Gz9 zG9=>?_;obtain ⟨x,dx,a,xs,rows,ns,ws,rfl,_⟩:=h;refine zG9 ?_
  rfl
 ·refine hdn fun Gz9 zG9=>?_;obtain ⟨x,dx,a,xs,rows,ns,ws,rfl,hx,rt,hw,kf,kt,k⟩:=h;refine zG9 ?_
  have hu:=aV hr
  have dj:=Qx (aV hr)
  have hsz:sizeLine=16777216:=QL
  have jw:=rt.jw
  have A4:=rt.rl
  have few:=rt.few
  have aa1:(bj rows).length<=14:=by have:=List.length_filter_le (fun r:ak=>r.2.nx.isNone) rows;unfold bj;omega
  have Di:((bj rows).map (·.1)).Nodup:=(jw.sublist (List.filter_sublist.map _))
  refine ⟨_,(aD (vT K (zv 0) (qU (bF wW (hr.mono (by decide)) (aB (zv 1) aC))))
   (aD (vT K (zv 0) (qU (Gs (own:=["name","head"]) (idx:=[]) (N':=["name","head"]) (cN (bg cW) (["self","T"]:List Str) (by decide+kernel)) rfl (mH K (zv 1)) (fun _ _ _ _ _ _=>(cC K (n:=2) rfl (aJ (aK (i:=0) (show List.Nodup (["name","head"]:List Str) by decide+kernel) rfl (Or.inl rfl)) (aJ (aK (i:=1) (show List.Nodup (["name","head"]:List Str) by decide+kernel) rfl (Or.inl rfl)) bK)))) (fun _ _ _ _ _ _=>(ME (aP (fJ dj) (bD (bC K) (zv 1) aH (fun _ _=>rfl)) bB (e_ _)))) (fun _ _ _ _ _ _=>(zv 0)) (fun _ _ _ _ _ _=>(zv 1)))))
   (aD (vT K (zv 0) (qU (Gs (own:=["row","head"]) (idx:=[]) (N':=["row","head"]) (cN (bg cW) (["self","T"]:List Str) (by decide+kernel)) rfl (qL (gC K (zv 0))) (fun _ _ _ _ _ _=>(cC K (n:=2) rfl (aJ (aK (i:=0) (show List.Nodup (["row","head"]:List Str) by decide+kernel) rfl (Or.inl rfl)) (aJ (aK (i:=1) (show List.Nodup (["row","head"]:List Str) by decide+kernel) rfl (Or.inl rfl)) bK)))) (fun _ _ _ _ _ _=>cV) (fun _ _ _ _ _ _=>(zv 0)) (fun _ _ _ _ _ _=>(aY (aI (bD (bC K) (zv 1) aH (fun _ _=>rfl)) (aN (bV (d5 K) (by rfl) T.dH QG (aN (bF iE (hr.mono (by decide)) (aB (zv 1) aC)) aC)) aC)))))))
   (aG (vT K (zv 0) (qU (Gs (own:=["row","head"]) (idx:=[0]) (N':=["row","head","self"]) (cN (bg cW) (["self","T"]:List Str) (by decide+kernel)) rfl (qL (gC K (zv 0))) (fun _ _ _ _ _ _=>(cC K (n:=2) rfl (aJ (aK (i:=0) (show List.Nodup (["row","head","self"]:List Str) by decide+kernel) rfl (Or.inl rfl)) (aJ (aK (i:=1) (show List.Nodup (["row","head","self"]:List Str) by decide+kernel) rfl (Or.inl rfl)) bK)))) (fun _ _ _ _ _ _=>cV) (fun _ _ _ _ _ _=>(zv 0)) (fun _ _ _ _ _ _=>(qU (bF uJ (hr.mono (by decide)) (aB (zv 1) (oK (gC K (zv 2)) aC)))))))))))),?_⟩
  generalize hC:adr mg "Net"=C at*
  refine lC ⟨a,xs,rows,ns,ws,rfl,rt,hw,fun d1 H1 DB s1 e1=>⟨d1,rfl,.inl ⟨_,.inl e1,fun o1=>?_⟩⟩⟩
  have vf:d1≠x:=fun z=>by rw [z,hx] at DB;cases DB
  refine ⟨x,C,dx,[],rfl,by rw [aE vf.symm];exact s1 _ _ hx,cl,na "rows" (by simp),by simp,?_⟩
  have Ks:Sx x H (upd (upd H1 d1 (.au o1 (.dK (ir rows)))) x (.ins C dx (cz "rows" (.ref d1) []))):=((s1.put DB).sx).trans Sx.upd
  have g1:upd (upd H1 d1 (.au o1 (.dK (ir rows)))) x (.ins C dx (cz "rows" (.ref d1) [])) d1=some (.au o1 (.dK (ir rows))):=by rw [aE vf];exact aA
  have gx:upd (upd H1 d1 (.au o1 (.dK (ir rows)))) x (.ins C dx (cz "rows" (.ref d1) [])) x=some (.ins C dx (cz "rows" (.ref d1) [])):=aA
  generalize upd (upd H1 d1 (.au o1 (.dK (ir rows)))) x (.ins C dx (cz "rows" (.ref d1) []))=H2 at Ks g1 gx ⊢
  have nt:∀ ys,H x≠some (.tup ys):=fun ys z=>by rw [hx] at z;cases z
  have nf:∀ q u,H x≠some (.au q u):=fun q u z=>by rw [hx] at z;cases z
  have eu:=rt.tk (Ks.tk nt)
  clear e1 s1 DB H1
  -- heads
  refine lC (Or.inr ⟨⟨xs,ae.of eu.at_⟩,fun D hD=>?_⟩)
  have Fi:D≠x:=fun z=>by rw [z,gx] at hD;cases hD
  refine Ws (dG xs) (fun i τ H3=>∃ (v0 v1:Option V) (kvs:List (Key×V)),τ=[v0,v1]/\H3 D=some (.dK kvs)/\DV RH H3 kvs (bj (rows.take i))/\aa H2 H3) ⟨none,none,[],rfl,aA,DV.nil,aa.upd hD _⟩ (by rintro i τ H3 _ ⟨_,_,_,_,_,_,s⟩;exact ae.of (s _ _ eu.at_)) ?_ ?_
  ·rintro i τ H3 hi ⟨v0,v1,kvs,rfl,q1,q2,q3⟩
   have jg:i < rows.length:=by have:=eu.rv.len;omega
   obtain ⟨b,v,r1,r2,r3⟩:=eu.rv.at_ i hi jg
   have eg:xs.getD i .ai=.ref b:=by rw [Qb,Qa hi,r1];rfl
   rw [eg]
   refine dS (q3 _ _ r2) ?_
   have r3':=r3.same q3
   obtain ⟨c,ys,rfl,hc⟩:=r3'.br
   have hok:=(eu.ok rows[i] (Qj jg)).2
   have et:rows.take (i+1)=rows.take i++[rows[i]]:=by rw [Qs,Qa jg];rfl
   have kl:kvs.length < sizeLine:=by
    have h1:=q2.len
    have h2:=List.length_filter_le (fun r:ak=>r.2.nx.isNone) (rows.take i)
    unfold bj at h1
    simp at h2
    omega
   refine ⟨_,.str rows[i].2.br,.inr (ae.of hc),aL _ _,rfl,_,rfl,dw (fun c1=>?_) (fun c1=>?_)⟩
   ·have hn:rows[i].2.nx.isNone=true:=by
     cases e:rows[i].2.nx.isNone with
     | true=>rfl
     | false=>
      have:=(sY hok).symm▸e
      rw [this] at c1
      simp at c1
    have en:bj (rows.take (i+1))=bj (rows.take i)++[rows[i]]:=by
     rw [et];unfold bj;rw [List.filter_append,List.filter_cons,if_pos hn];rfl
    have Dg:rows[i].1 ∉ (bj (rows.take i)).map (·.1):=fun hm=>by
     obtain ⟨r,hr,e⟩:=List.mem_map.mp hm
     have gh:=(List.mem_filter.mp hr).1
     obtain ⟨j,hj,rfl⟩:=Qi gh
     have uu:j < i:=by simp at hj;omega
     rw [List.getElem_take] at e
     have:=List.pairwise_iff_getElem.mp jw j i (by simp;omega) (by simpa using jg) uu
     simp only [Qr] at this
     exact this e
    refine ⟨kvs,.inr rows[i].1,rfl,q1,kl,_,_,kvs++[(.inr rows[i].1,.ref c)],rfl,?_,?_,q3.put hD⟩
    ·rw [q2.put Dg];exact aA
    ·rw [en]
     exact (q2.snoc (show RH H3 (.ref c) rows[i] from r3')).keep fun v r h=>HV.tk ((Tk.refl).set q1 fun xs z=>nomatch z) h
   ·have hn:rows[i].2.nx.isNone=false:=by
     have e:rows[i].2.br="as":=by
      have:decide (V.str rows[i].2.br=V.str "as")=true:=by simpa using c1
      exact V.str.inj (Qt this)
     exact (sY hok)▸e
    have en:bj (rows.take (i+1))=bj (rows.take i):=by
     rw [et];unfold bj;rw [List.filter_append,List.filter_cons,if_neg (by rw [hn];decide)];simp
    exact ⟨_,_,kvs,rfl,q1,by rw [en];exact q2,q3⟩
  ·rintro τ H3 ⟨v0,v1,k2,rfl,q1,q2,q3⟩
   rw [eu.rv.len,Qo] at q2
   refine ⟨D,rfl,.inl ⟨k2,.inl q1,fun o2=>?_⟩⟩
   refine ⟨x,C,dx,_,rfl,by rw [aE Fi.symm];exact q3 _ _ gx,cl,na "heads" (by simp),by simp [cz],?_⟩
   have DC:d1≠D:=fun z=>by rw [z,hD] at g1;cases g1
   have Cn:Sx x H2 (upd (upd H3 D (.au o2 (.dK k2))) x (.ins C dx (cz "heads" (.ref D) (cz "rows" (.ref d1) [])))):=((q3.put hD:aa _ _) |> aa.sx).trans Sx.upd
   have g2:upd (upd H3 D (.au o2 (.dK k2))) x (.ins C dx (cz "heads" (.ref D) (cz "rows" (.ref d1) []))) D=some (.au o2 (.dK k2)):=by rw [aE Fi];exact aA
   have Bk:upd (upd H3 D (.au o2 (.dK k2))) x (.ins C dx (cz "heads" (.ref D) (cz "rows" (.ref d1) []))) x=some (.ins C dx (cz "heads" (.ref D) (cz "rows" (.ref d1) []))):=aA
   have DE:DV RH (upd (upd H3 D (.au o2 (.dK k2))) x (.ins C dx (cz "heads" (.ref D) (cz "rows" (.ref d1) [])))) k2 (bj rows):=q2.keep fun v r h=>HV.tk (((Tk.refl).set q1 fun xs z=>nomatch z).set (by rw [aE Fi.symm];exact q3 _ _ gx) fun xs z=>by cases z) h
   generalize upd (upd H3 D (.au o2 (.dK k2))) x (.ins C dx (cz "heads" (.ref D) (cz "rows" (.ref d1) [])))=H4 at Cn g2 Bk DE ⊢
   have Bf:H4 d1=some (.au o1 (.dK (ir rows))):=Cn _ _ vf g1
   have Ku:=Ks.trans Cn
   have Fj:Kn mg H4 "FROM" [.str "from"]:=let ⟨o,e⟩:=kf;⟨o,Ku.au nf e⟩
   have Fk:Kn mg H4 "TO" [.str "to"]:=let ⟨o,e⟩:=kt;⟨o,Ku.au nf e⟩
   have OH:=DE.len
   have OI:∀ i (h:i < (bj rows).length),((bj rows)[i]).2.ok ns:=fun i h=>(rt.ok _ (List.mem_filter.mp (Qj h)).1).2
   have OJ:∀ i (h:i < (bj rows).length),sf k2 i=.str (bj rows)[i].1:=fun i h=>by
    unfold sf
    rw [Qa (by omega)]
    show kV k2[i].1=_
    rw [(DE.at_ i (by omega) h).1];rfl
   have Yq:∀ i (h:i < (bj rows).length),HV H4 (valAt k2 i) (bj rows)[i].2:=fun i h=>by
    unfold valAt
    rw [Qa (by omega)]
    exact (DE.at_ i (by omega) h).2
   have Hr:∀ i (h:i < (bj rows).length),(bj rows)[i].1 ∉ ((bj rows).take i).map (·.1):=fun i h hm=>by
    obtain ⟨r,hr,e⟩:=List.mem_map.mp hm
    obtain ⟨j,hj,rfl⟩:=Qi hr
    have uu:j < i:=by simp at hj;omega
    rw [List.getElem_take] at e
    have:=List.pairwise_iff_getElem.mp Di j i (by simp;omega) (by simpa using h) uu
    simp only [Qr] at this
    exact this e
   have OL:∀ i (h:i < (bj rows).length),(bj rows).take (i+1)=(bj rows).take i++[(bj rows)[i]]:=fun i h=>by rw [Qs,Qa h];rfl
   clear q1 q2 q3 hD eu
   -- marks
   refine lC ⟨x,C,dx,_,.ref D,rfl,Bk,cl,na "heads" (by simp),by rw [cE,if_pos rfl],D,k2,rfl,.inl ⟨o2,g2,fun D3 Co=>?_⟩⟩
   have Fl:D3≠x:=fun z=>by rw [z,Bk] at Co;cases Co
   refine vM (mV k2) (fun i τ H5=>∃ (v0 v1:Option V) (kvs:List (Key×V)),τ=[v0,v1]/\H5 D3=some (.dK kvs)/\DV RM H5 kvs ((bj rows).take i)/\aa H4 H5) ⟨none,none,[],rfl,aA,DV.nil,aa.upd Co _⟩ (by rintro i τ H5 _ ⟨_,_,_,_,_,_,s⟩;exact s _ _ g2) ?_ ?_
   ·rintro i τ H5 T5 hi ⟨v0,v1,kvs,rfl,q1,q2,q3⟩ hT
    have jb:i < (bj rows).length:=by omega
    rw [OJ i jb]
    have hv:=Yq i jb
    generalize valAt k2 i=v at hv
    have t1:=aa.upd hT (.tup [.str (bj rows)[i].1,v])
    generalize upd H5 T5 (.tup [.str (bj rows)[i].1,v])=H6 at t1
    have OM:=hv.same (q3.trans t1)
    obtain ⟨c,ys,rfl,hc⟩:=OM.br
    refine ⟨_,.str (bj rows)[i].2.br,.inr (ae.of hc),aL _ _,.ref c,(bj rows)[i].2,ns,rfl,OM,OI i jb,Fj.same (q3.trans t1),Fk.same (q3.trans t1),fun L us H7 hL eL sv s7=>?_⟩
    refine ⟨L,us,rfl,.inl ⟨af.of eL,fun l hl=>⟨(show 2<=sizeLine by decide),fun t ht=>?_⟩⟩⟩
    have s8:=(s7.trans (aa.upd hl (.tup us))).trans (aa.upd ht (.tup [.str (bj rows)[i].2.br,.ref l]))
    have el:upd (upd H7 l (.tup us)) t (.tup [.str (bj rows)[i].2.br,.ref l]) l=some (.tup us):=aa.upd ht _ _ _ aA
    have et:upd (upd H7 l (.tup us)) t (.tup [.str (bj rows)[i].2.br,.ref l]) t=some (.tup [.str (bj rows)[i].2.br,.ref l]):=aA
    have ON:SV (upd (upd H7 l (.tup us)) t (.tup [.str (bj rows)[i].2.br,.ref l])) us ((bj rows)[i].2.bz.map (·.1)):=sv.keep fun b ys r=>r.same ((aa.upd hl _).trans (aa.upd ht _))
    dsimp only
    generalize upd (upd H7 l (.tup us)) t (.tup [.str (bj rows)[i].2.br,.ref l])=H8 at s8 el et ON
    have g3:=(t1.trans s8) _ _ q1
    have kl:kvs.length < sizeLine:=by have h1:=q2.len;simp at h1;omega
    have kp:Tk H8 (upd H8 D3 (.dK (kvs++[(.inr (bj rows)[i].1,.ref t)]))):=(Tk.refl).set g3 fun xs z=>nomatch z
    refine ⟨kvs,.inr (bj rows)[i].1,rfl,g3,kl,_,_,kvs++[(.inr (bj rows)[i].1,.ref t)],rfl,?_,?_,((q3.trans t1).trans s8).put Co⟩
    ·rw [q2.put (Hr i jb)];exact aA
    ·rw [OL i jb,q2.put (Hr i jb)]
     have kr:∀ b ys,aj H8 b ys->aj (upd H8 D3 (.dK (kvs++[(.inr (bj rows)[i].1,.ref t)]))) b ys:=fun b ys r=>r.put g3 (fun _ z=>nomatch z) fun _ _ z=>nomatch z
     refine ((q2.keep fun v r ⟨b,c,us,e1,e2,e3,e4⟩=>⟨b,c,us,e1,(t1.trans s8) _ _ e2,(t1.trans s8) _ _ e3,e4.keep fun b ys r=>r.same (t1.trans s8)⟩:DV RM H8 kvs _).snoc (show RM H8 (.ref t) (bj rows)[i] from ⟨t,l,us,rfl,et,el,ON⟩)).keep fun v r ⟨b,c,us,e1,e2,e3,e4⟩=>⟨b,c,us,e1,kp _ _ e2,kp _ _ e3,e4.keep kr⟩
   ·rintro τ H5 ⟨v0,v1,k3,rfl,q1,q2,q3⟩
    rw [OH,Qo] at q2
    refine ⟨D3,rfl,.inl ⟨k3,.inl q1,fun o3=>?_⟩⟩
    refine ⟨x,C,dx,_,rfl,by rw [aE Fl.symm];exact q3 _ _ Bk,cl,na "marks" (by simp),Yp 2,?_⟩
    have nd3:d1≠D3:=fun z=>by rw [z,Co] at Bf;cases Bf
    have nD2:D≠D3:=fun z=>by rw [z,Co] at g2;cases g2
    generalize OO:cz "marks" (.ref D3) (cz "heads" (.ref D) (cz "rows" (.ref d1) []))=jt
    have lk:∀ y:Str,jt.lookup y=if y="marks" then some (.ref D3) else if y="heads" then some (.ref D) else if y="rows" then some (.ref d1) else none:=fun y=>by rw [<- OO,cE,cE,cE];rfl
    have fl:jt.length<=3:=by rw [<- OO];have h1:=cI "marks" (.ref D3) (cz "heads" (.ref D) (cz "rows" (.ref d1) []));have h2:=cI "heads" (.ref D) (cz "rows" (.ref d1) []);have h3:=cI "rows" (.ref d1) [];simp at h3;omega
    have Cp:Sx x H4 (upd (upd H5 D3 (.au o3 (.dK k3))) x (.ins C dx jt)):=((q3.put Co:aa _ _) |> aa.sx).trans Sx.upd
    have g3:upd (upd H5 D3 (.au o3 (.dK k3))) x (.ins C dx jt) D3=some (.au o3 (.dK k3)):=by rw [aE Fl];exact aA
    have Bl:upd (upd H5 D3 (.au o3 (.dK k3))) x (.ins C dx jt) x=some (.ins C dx jt):=aA
    have Hs:Tk H5 (upd (upd H5 D3 (.au o3 (.dK k3))) x (.ins C dx jt)):=((Tk.refl).set q1 fun xs z=>nomatch z).set (by rw [aE Fl.symm];exact q3 _ _ Bk) fun xs z=>by cases z
    have OP:∀ b ys,aj H5 b ys->aj (upd (upd H5 D3 (.au o3 (.dK k3))) x (.ins C dx jt)) b ys:=fun b ys r=>(r.put q1 (fun _ z=>nomatch z) fun _ _ z=>nomatch z).put (by rw [aE Fl.symm];exact q3 _ _ Bk) (fun _ z=>by cases z) fun _ _ z=>by cases z
    have OQ:DV RM (upd (upd H5 D3 (.au o3 (.dK k3))) x (.ins C dx jt)) k3 (bj rows):=q2.keep fun v r ⟨b,c,us,e1,e2,e3,e4⟩=>⟨b,c,us,e1,Hs _ _ e2,Hs _ _ e3,e4.keep OP⟩
    have Kv:DV RH (upd (upd H5 D3 (.au o3 (.dK k3))) x (.ins C dx jt)) k2 (bj rows):=DE.keep fun v r h=>HV.tk ((q3.ts).trans Hs) h
    generalize upd (upd H5 D3 (.au o3 (.dK k3))) x (.ins C dx jt)=H6 at Cp g3 Bl OQ Kv ⊢
    have Ht:H6 d1=some (.au o1 (.dK (ir rows))):=Cp _ _ vf Bf
    have Fo:H6 D=some (.au o2 (.dK k2)):=Cp _ _ Fi g2
    have Yr:Kn mg H6 "FROM" [.str "from"]:=let ⟨o,e⟩:=Fj;⟨o,Cp.au (fun q u z=>by rw [Bk] at z;cases z) e⟩
    have Ys:Kn mg H6 "TO" [.str "to"]:=let ⟨o,e⟩:=Fk;⟨o,Cp.au (fun q u z=>by rw [Bk] at z;cases z) e⟩
    have Yt:∀ i (h:i < (bj rows).length),HV H6 (valAt k2 i) (bj rows)[i].2:=fun i h=>by
     unfold valAt
     rw [Qa (by omega)]
     exact (Kv.at_ i (by omega) h).2
    have Yu:=Ku.trans Cp
    have Yv:∀ z∈ns,z∈rows.map (·.1):=fun z hz=>rt.nm.mem_iff.mpr hz
    clear q1 q2 q3 Hs OP DE Cp
    -- moves
    refine wS ⟨x,C,dx,jt,.ref D,rfl,Bl,cl,na "heads" (by simp),by rw [lk,if_neg (by decide+kernel),if_pos rfl],D,k2,rfl,.inl ⟨o2,Fo,fun D4 Bm=>?_⟩⟩
    have Hu:D4≠x:=fun z=>by rw [z,Bl] at Bm;cases Bm
    refine vM (mV k2) (fun i τ H7=>∃ (v0 v1:Option V) (kvs:List (Key×V)),τ=[v0,v1,some (.ref x)]/\H7 D4=some (.dK kvs)/\DV (RO rows) H7 kvs ((bj rows).take i)/\aa H6 H7) ⟨none,none,[],rfl,aA,DV.nil,aa.upd Bm _⟩ (by rintro i τ H5 _ ⟨_,_,_,_,_,_,s⟩;exact s _ _ Fo) ?_ ?_
    ·rintro i τ H7 T7 hi ⟨v0,v1,kvs,rfl,q1,q2,q3⟩ hT
     have jb:i < (bj rows).length:=by omega
     rw [OJ i jb]
     have hv:=Yt i jb
     generalize valAt k2 i=v at hv
     have t1:=aa.upd hT (.tup [.str (bj rows)[i].1,v])
     generalize upd H7 T7 (.tup [.str (bj rows)[i].1,v])=H8 at t1
     have q4:=q3.trans t1
     refine ⟨x,C,dx,jt,.ref d1,rfl,q4 _ _ Bl,cl,na "rows" (by simp),by rw [lk,if_neg (by decide+kernel),if_neg (by decide+kernel),if_pos rfl],?_⟩
     refine ⟨v,(bj rows)[i].2,ns,rows,d1,rfl,hv.same q4,OI i jb,Yr.same q4,Ys.same q4,.inr ⟨o1,q4 _ _ Ht⟩,Yv,jw,fun m H9 hm em s9=>⟨m,rfl,.inr ⟨_,.inl em,fun o=>?_⟩⟩⟩
     have nmD:D4≠m:=fun z=>by
      have:=t1 _ _ q1
      rw [z,hm] at this;cases this
     have Cq:aa H8 (upd H9 m (.au o (.dT (ky rows (bj rows)[i].2)))):=s9.put hm
     have OR:upd H9 m (.au o (.dT (ky rows (bj rows)[i].2))) m=some (.au o (.dT (ky rows (bj rows)[i].2))):=aA
     generalize upd H9 m (.au o (.dT (ky rows (bj rows)[i].2)))=DF at Cq OR
     have OS:=(t1.trans Cq) _ _ q1
     have kl:kvs.length < sizeLine:=by have h1:=q2.len;simp at h1;omega
     refine ⟨kvs,.inr (bj rows)[i].1,rfl,OS,kl,_,_,kvs++[(.inr (bj rows)[i].1,.ref m)],rfl,?_,?_,(q4.trans Cq).put Bm⟩
     ·rw [q2.put (Hr i jb)];exact aA
     ·rw [OL i jb,q2.put (Hr i jb)]
      refine ((q2.keep fun v r ⟨m',o',e1,e2⟩=>⟨m',o',e1,(t1.trans Cq) _ _ e2⟩:DV (RO rows) DF kvs _).snoc (show RO rows DF (.ref m) (bj rows)[i] from ⟨m,o,rfl,OR⟩)).keep fun v r ⟨m',o',e1,e2⟩=>⟨m',o',e1,?_⟩
      rw [aE (fun z=>by rw [z,OS] at e2;cases e2)]
      exact e2
    ·rintro τ H7 ⟨v0,v1,k4,rfl,q1,q2,q3⟩
     rw [OH,Qo] at q2
     refine ⟨D4,rfl,.inl ⟨k4,.inl q1,fun o4=>?_⟩⟩
     refine ⟨x,C,dx,jt,rfl,by rw [aE Hu.symm];exact q3 _ _ Bl,cl,na "moves" (by simp),by omega,?_⟩
     have aa5:d1≠D4:=fun z=>by rw [z,Bm] at Ht;cases Ht
     have aa6:D≠D4:=fun z=>by rw [z,Bm] at Fo;cases Fo
     have aa7:D3≠D4:=fun z=>by rw [z,Bm] at g3;cases g3
     have s7:Sx x H6 (upd (upd H7 D4 (.au o4 (.dK k4))) x (.ins C dx (cz "moves" (.ref D4) jt))):=((q3.put Bm:aa _ _) |> aa.sx).trans Sx.upd
     have Kw:Tk H7 (upd (upd H7 D4 (.au o4 (.dK k4))) x (.ins C dx (cz "moves" (.ref D4) jt))):=((Tk.refl).set q1 fun xs z=>nomatch z).set (by rw [aE Hu.symm];exact q3 _ _ Bl) fun xs z=>by cases z
     have Yw:∀ b ys,aj H7 b ys->aj (upd (upd H7 D4 (.au o4 (.dK k4))) x (.ins C dx (cz "moves" (.ref D4) jt))) b ys:=fun b ys r=>(r.put q1 (fun _ z=>nomatch z) fun _ _ z=>nomatch z).put (by rw [aE Hu.symm];exact q3 _ _ Bl) (fun _ z=>by cases z) fun _ _ z=>by cases z
     have Yx:∀ b q u,H7 b=some (.au q u)->upd (upd H7 D4 (.au o4 (.dK k4))) x (.ins C dx (cz "moves" (.ref D4) jt)) b=some (.au q u):=fun b q u e=>by
      rw [aE (fun z=>by rw [z,q3 _ _ Bl] at e;cases e),aE (fun z=>by rw [z,q1] at e;cases e)]
      exact e
     have l4:∀ y:Str,(cz "moves" (.ref D4) jt).lookup y=if y="moves" then some (.ref D4) else jt.lookup y:=fun y=>cE _ _ _ _
     refine k _ ⟨dx,cz "moves" (.ref D4) jt,aA,⟨⟨d1,o1,?_,s7 _ _ vf Ht⟩,⟨D,o2,k2,?_,s7 _ _ Fi Fo,Kv.keep fun v r h=>HV.tk (q3.ts.trans Kw) h⟩,⟨D3,o3,k3,?_,s7 _ _ Fl g3,OQ.keep fun v r ⟨b,c,us,e1,e2,e3,e4⟩=>⟨b,c,us,e1,Kw _ _ (q3 _ _ e2),Kw _ _ (q3 _ _ e3),e4.keep fun b ys r=>Yw _ _ (r.same q3)⟩⟩,⟨D4,o4,k4,?_,?_,q2.keep fun v r ⟨m,o,e1,e2⟩=>⟨m,o,e1,Yx _ _ _ e2⟩⟩⟩⟩ (Yu.trans s7)
     ·rw [l4,if_neg (by decide+kernel),lk,if_neg (by decide+kernel),if_neg (by decide+kernel),if_pos rfl]
     ·rw [l4,if_neg (by decide+kernel),lk,if_neg (by decide+kernel),if_pos rfl]
     ·rw [l4,if_neg (by decide+kernel),lk,if_pos rfl]
     ·rw [l4,if_pos rfl]
     ·rw [aE Hu];exact aA
def dbl (ns:List Str):List Str:=ns.flatMap fun n=>[n++"q",n++"r"]
theorem d6:z∈dbl ns↔∃ n∈ns,z=n++"q"\/z=n++"r":=by
 unfold dbl
 rw [List.mem_flatMap]
 constructor
 ·rintro ⟨n,hn,h⟩
  simp only [Qp,QA,or_false] at h
  exact ⟨n,hn,h⟩
 ·rintro ⟨n,hn,h⟩
  exact ⟨n,hn,by simpa using h⟩
theorem yK:∀ z∈dbl N8,isName z=true/\Wd z:=by
 have h1:(dbl N8).all (fun z=>isName z&&decide (z.length<=20)&&z.cps.toList.all (fun c=>decide (c < 128)))=true:=by decide+kernel
 intro z hz
 have h2:=List.all_eq_true.mp h1 z hz
 simp only [Bool.and_eq_true,decide_eq_true_eq] at h2
 exact ⟨h2.1.1,h2.1.2,fun c hc=>Qt (List.all_eq_true.mp h2.2 c hc)⟩
theorem oV (ns:List Str):(dbl ns).length=2*ns.length:=by
 unfold dbl
 induction ns with
 | nil=>rfl
 | cons n ns ih=>rw [List.flatMap_cons,Qk,ih];simp;omega
theorem zY (ns:List Str) (i:Nat) (h:i < ns.length):(dbl ns)[2*i]? =some (ns[i]++"q")/\(dbl ns)[2*i+1]? =some (ns[i]++"r"):=by
 unfold dbl
 induction ns generalizing i with
 | nil=>simp at h
 | cons n ns ih=>
  rw [List.flatMap_cons]
  cases i with
  | zero=>exact ⟨rfl,rfl⟩
  | succ i=>
   have:=ih i (by simpa using h)
   rw [show 2*(i+1)=2*i+2 by omega,show 2*i+2+1=2*i+1+2 by omega]
   simpa using this
theorem Yy (h:ns.Nodup) (h8:∀ n∈ns,n∈N8):(dbl ns).Nodup:=by
 have inj:∀ a∈N8,∀ b∈N8,∀ c∈(["q","r"]:List Str),∀ d∈(["q","r"]:List Str),a++c=b++d->a=b/\c=d:=by decide+kernel
 unfold dbl
 induction ns with
 | nil=>exact List.nodup_nil
 | cons n ns ih=>
  rw [List.nodup_cons] at h
  rw [List.flatMap_cons,List.nodup_append]
  refine ⟨?_,ih h.2 fun m hm=>h8 m (Qh _ hm),fun a ha b hb e=>?_⟩
  ·have:=inj n (h8 n List.mem_cons_self) n (h8 n List.mem_cons_self) "q" (by simp) "r" (by simp)
   simp only [List.nodup_cons,List.mem_singleton,List.not_mem_nil,not_false_eq_true,List.nodup_nil,and_true]
   exact fun z=>absurd (this z).2 (by decide+kernel)
  ·obtain ⟨m,hm,hb⟩:=List.mem_flatMap.mp hb
   subst e
   simp only [Qp,QA,or_false] at ha hb
   have key:∀ c∈(["q","r"]:List Str),∀ d∈(["q","r"]:List Str),n++c=m++d->False:=fun c hc d hd e=>by
    have:=(inj n (h8 n List.mem_cons_self) m (h8 m (Qh _ hm)) c hc d hd e).1
    rw [this] at h
    exact h.1 hm
   rcases ha with rfl | rfl<;>rcases hb with hb | hb
   ·exact key "q" (by simp) "q" (by simp) hb
   ·exact key "q" (by simp) "r" (by simp) hb
   ·exact key "r" (by simp) "q" (by simp) hb
   ·exact key "r" (by simp) "r" (by simp) hb
def Kx (K:Q0):Sp:=fun vs H Q _=>∃ (H0:Hp) (p:Addr) (v:V) (h:Hd) (t:Nat) (ns:List Str),vs=[.ref p,v]/\ck K H0 H p t/\t+20 < 900000/\HV H v h/\h.ok ns/\(∀ n∈ns,n∈N8)/\(∀ z∈h.A2,z∈WW)/\
 ∀ (v':V) (h':Hd) (H':Hp),HV H' v' h'->h'.ok (dbl ns)->(∀ y',h'.nx=some y'->∃ y,h.nx=some y/\(y'=y++"q"\/y'=y++"r"))->(∀ z∈h'.A2,z∈WW)->ck K H0 H' p (t+20)->Sm p p H H'->Q v' H'
theorem OT (i:Nat) (h:i < 2):∃ c,lq (("qr":Str).cps.toList) (i:Int)=some c/\((⟨#[c]⟩:Str)="q"\/(⟨#[c]⟩:Str)="r"):=by
 match i,h with
 | 0,_=>exact ⟨113,rfl,.inl rfl⟩
 | 1,_=>exact ⟨114,rfl,.inr rfl⟩
set_option maxHeartbeats 2000000 in
theorem jE (T:Txt K mg w):bc P w K mg base 3 "_law_twin_head" ["_law_pen","_law_here"] (Kx K):=by
 have aR:bc P w K mg base 2 "_law_next" ["_law_pen","_law_many"] (ze K):=bQ T
 refine T.k9.gf j9 (fun vs H Q E h=>?_) (fun f a_ A outer s H vs Q E hr h=>?_)
 ·refine hdn fun Gz9 zG9=>?_;obtain ⟨H0,p,v,h,t,ns,rfl,_⟩:=h;refine zG9 ?_
  rfl
 ·refine hdn fun Gz9 zG9=>?_;obtain ⟨H0,p,v,h,t,ns,rfl,hn,ht,hv,hok,h8,Hv,k⟩:=h;refine zG9 ?_
  have hu:=aV hr
  have dj:=Qx (aV hr)
  have hsz:sizeLine=16777216:=QL
  have Hw:∀ z∈ns,z.length<=8:=fun z hz=>eA (mU z (h8 z hz)).1
  have Ce:∀ z∈dbl ns,isName z=true:=fun z hz=>by
   obtain ⟨n,hn,h⟩:=d6.mp hz
   exact (yK z (d6.mpr ⟨n,h8 n hn,h⟩)).1
  refine ⟨_,(aD (bW (aP (oH K) (bD (bC K) (zv 1) aH (fun _ _=>rfl)) (aY (aF bB (aF bB aC))) rfl) (aG (aQ (zv 1))) aZ)
   (aD (bW (aP (oH K) (bD (bC K) (zv 1) aH (fun _ _=>rfl)) (aY (aF bB (aF bB aC))) rfl) (aG (aQ (bY (kL K) (fI (sQ K) (zv 1) fP (fH aH)) (bV (d5 K) (by rfl) T.dH QG (gQ (kC (own:=["_law_name"]) (idx:=[0]) (N':=["_law_name","_law_pen"]) (cN (bg bZ) (["_law_pen","_law_here"]:List Str) (by decide+kernel)) rfl (mH K (fI (sQ K) (zv 1) (fH aH) fP)) (fun _ _ _ _ _ _=>(aK (i:=0) (show List.Nodup (["_law_name","_law_pen"]:List Str) by decide+kernel) rfl (Or.inl rfl))) (fun _ _ _ _ _ _=>cV) (fun _ _ _ _ _ _=>(bY bS (zv 0) (bD (bC K) bB (bF aR (hr.mono (by decide)) (aB (zv 1) (aF aH aC))) (fun _ _=>rfl))))) aC))))) aZ)
   (aG (aQ (aY (aI (bD (bC K) (zv 1) aH (fun _ _=>rfl)) (aN (bV (d5 K) (by rfl) T.dH QG (gQ (kC (own:=["_law_word","_law_name"]) (idx:=[0]) (N':=["_law_word","_law_name","_law_pen"]) (cN (bg bZ) (["_law_pen","_law_here"]:List Str) (by decide+kernel)) rfl (mH K (bD (bC K) (zv 1) aH (fun _ _=>rfl))) (fun _ _ _ _ _ _=>(cC K (n:=2) rfl (aJ (aK (i:=0) (show List.Nodup (["_law_word","_law_name","_law_pen"]:List Str) by decide+kernel) rfl (Or.inl rfl)) (aJ (aK (i:=1) (show List.Nodup (["_law_word","_law_name","_law_pen"]:List Str) by decide+kernel) rfl (Or.inl rfl)) bK)))) (fun _ _ _ _ _ _=>cV) (fun _ _ _ _ _ _=>(aY (aB (zv 0) (fC (bY bS (zv 1) (bD (bC K) bB (bF aR (hr.mono (by decide)) (aB (zv 2) (aF aH aC))) (fun _ _=>rfl))) aC))))) aC)) aC))))))),?_⟩
  /- BJ first two tests -/
  have tests:∀ (b:Addr) (z:Str) (ys:List V) (A B:TS) (D:Ends) (l1 l2:Str),H b=some (.tup (.str z::ys))->((z∈([l1,l2]:List Str))->∀ H1,aa H H1->A D [some (.ref p),some (.ref b)] H1)->((z ∉ ([l1,l2]:List Str))->∀ H1,aa H H1->B D [some (.ref p),some (.ref b)] H1)->
    ∀ H1,aa H H1->F7 (Gc (j_ (Gn K false) (j_ (AW K) (tV 1) (tC (V.int 0))) (CN (ie (tC (V.str l1)) (ie (tC (V.str l2)) vm))))) A B D [some (.ref p),some (.ref b)] H1:=by
   intro b z ys A B D l1 l2 e hA hB H1 s1
   refine ⟨_,.str z,.inr (ae.of (s1 _ _ e)),aL _ _,(show 2<=sizeLine by decide),fun T1 Fp=>⟨[.str l1,.str l2],.inr (ae.of aA),rfl,rfl,_,rfl,?_⟩⟩
   show if (false^^Ad (.str z) (([l1,l2]:List Str).map V.str))=true then _ else _
   rw [iN,QE]
   by_cases hz:z∈([l1,l2]:List Str)
   ·rw [Qv hz];exact xm (hA hz _ (s1.trans (aa.upd Fp _)))
   ·rw [Qw hz];exact ja (hB hz _ (s1.trans (aa.upd Fp _)))
  have plain:∀ (b:Addr) (z0:Str) (ys:List Str),H b=some (.tup (.str z0::ys.map V.str))->(ys.length=1\/ys.length=2)->(∀ y∈ys,y.length<=8)->(∀ (pp:Addr) (zs:List Str) (H':Hp),H' pp=some (.tup (.str z0::zs.map V.str))->zs.length=ys.length->(∀ i (h1:i < zs.length) (h2:i < ys.length),zs[i]=ys[i]++"q"\/zs[i]=ys[i]++"r")->ck K H0 H' p (t+20)->Sm p p H H'->Q (.ref pp) H')->
    ∀ H1,aa H H1->CF (j_ (GU K) (CQ (fun x lo hi H Q=>AZ x lo hi H Q\/(AO K x lo hi H Q\/AN K x lo hi H Q)) (tV 1) CO (CP (tC (V.int 1)))) (BO (MI K) (ie (BS ["_law_name"] [0] (iD K (CQ (fun x lo hi H Q=>AZ x lo hi H Q\/(AO K x lo hi H Q\/AN K x lo hi H Q)) (tV 1) (CP (tC (V.int 1))) CO)) (ip 0) CZ (j_ IF (tV 0) (j_ (AW K) (tC (V.str "qr")) (D_ (ze K) [] E0 (ie (tV 1) (ie (tC (V.int 2)) vm)))))) vm))) {nx:=fun _ H'=>Q .ai H',rt:=Q} [some (.ref p),some (.ref b)] H1:=by
   intro b z0 ys e hl Yz kk H1 s1
   have e1:=s1 _ _ e
   have el:(V.str z0::ys.map V.str).length=ys.length+1:=by simp
   refine ⟨1,rfl,Or.inr (Or.inr ⟨b,_,rfl,ae.of e1,?_,fun N hN=>?_⟩)⟩
   ·rw [el];rcases hl with h | h<;>(rw [h];decide)
   have ec:oq (V.str z0::ys.map V.str) none (some 1)=[.str z0]:=(tM _ 1).trans rfl
   rw [ec]
   have s2:=s1.trans (aa.upd hN (.tup [.str z0]))
   have f2:upd H1 N (.tup [.str z0]) N=some (.tup [.str z0]):=aA
   dsimp only
   generalize upd H1 N (.tup [.str z0])=H2 at s2 f2 ⊢
   refine ⟨1,rfl,Or.inr (Or.inr ⟨b,_,rfl,ae.of (s2 _ _ e),?_,fun M hM=>?_⟩)⟩
   ·rw [el];rcases hl with h | h<;>(rw [h];decide)
   have YA:oq (V.str z0::ys.map V.str) (some 1) none=ys.map V.str:=(lK _ 1).trans rfl
   rw [YA]
   have s3:=s2.trans (aa.upd hM (.tup (ys.map V.str)))
   have f3:upd H2 M (.tup (ys.map V.str)) M=some (.tup (ys.map V.str)):=aA
   have OU:=(aa.upd hM (.tup (ys.map V.str))) _ _ f2
   generalize upd H2 M (.tup (ys.map V.str))=H3 at s3 f3 OU ⊢
   refine Or.inr ⟨⟨_,ae.of f3⟩,fun D hD=>?_⟩
   have g_:=hn.same s3
   have qd:D≠p:=g_.ne hD
   have fD:=g_.free hD
   have vd:H D=none:=s3.free hD
   refine i5 (dG (ys.map V.str)) (fun i τ H'=>∃ (v0:Option V) (zs:List Str),τ=[v0,some (.ref p)]/\H' D=some (.lst (zs.map V.str))/\zs.length=i/\(∀ j (h1:j < zs.length) (h2:j < ys.length),zs[j]=ys[j]++"q"\/zs[j]=ys[j]++"r")/\ck K H0 H' p (t+i)/\Sm p p H H'/\Tk H3 H')
    ⟨none,[],rfl,aA,rfl,fun j h=>absurd h (by simp),g_.same (aa.upd hD _),(s3.trans (aa.upd hD _)).sm,(aa.upd hD _).ts⟩ (by rintro i τ H' _ ⟨_,_,_,_,_,_,_,_,tk⟩;exact ae.of (tk _ _ f3)) ?_ ?_
   ·rintro i τ H4 hi z0;refine hdn fun Gz9 zG9=>?_;obtain ⟨v0,zs,rfl,q1,q2,q3,q4,q5,q6⟩:=z0;refine zG9 ?_
    rw [Ql] at hi
    rw [gR ys i hi]
    have ey:ys.getD i ""=ys[i]:=by rw [Qb,Qa hi];rfl
    rw [ey]
    have hy:=Yz _ (Qj hi)
    refine ⟨H0,p,2,t+i,rfl,q4,⟨by decide,by decide⟩,by omega,fun r H5 r0 r1 rh gy=>?_⟩
    obtain ⟨j,rfl⟩:∃ j:Nat,r=(j:Int):=⟨r.toNat,by omega⟩
    obtain ⟨c,ki,lh⟩:=OT j (by omega)
    refine ⟨(show 2<=sizeLine by decide),c,ki,⟨by show ys[i].length+1<=sizeLine;omega,?_⟩⟩
    have g1:=gy _ _ q1 qd qd
    have YB:Tk H4 (upd H5 D (.lst (zs.map V.str++[.str (ys[i]++⟨#[c]⟩)]))):=(q4.ts gy).trans (Tk.refl.set g1 (fun _ z=>nomatch z))
    refine ⟨_,g1,by simp;omega,_,zs++[ys[i]++⟨#[c]⟩],rfl,by rw [aA,Qm];rfl,by simp [q2],fun j' h1 h2=>?_,rh.put qd fD,(q5.trans gy).upd vd,q6.trans YB⟩
    by_cases hj:j' < zs.length
    ·rw [Qe hj];exact q3 j' hj h2
    ·have ej:j'=zs.length:=by simp at h1;omega
     subst ej
     rw [Qf (Qy _)]
     simp only [Nat.sub_self,List.getElem_cons_zero]
     subst q2
     rcases lh with h | h
     ·rw [h];exact .inl rfl
     ·rw [h];exact .inr rfl
   ·rintro τ H4 z0;refine hdn fun Gz9 zG9=>?_;obtain ⟨v0,zs,rfl,q1,q2,q3,q4,q5,q6⟩:=z0;refine zG9 ?_
    rw [Ql] at q2 q4
    refine ⟨D,_,rfl,.inl ⟨af.of q1,fun N2 Fq=>?_⟩⟩
    have s5:=aa.upd Fq (.tup (zs.map V.str))
    have f5:upd H4 N2 (.tup (zs.map V.str)) N2=some (.tup (zs.map V.str)):=aA
    dsimp only
    generalize upd H4 N2 (.tup (zs.map V.str))=H5 at s5 f5 ⊢
    refine GV (s5 _ _ (q6 _ _ OU)) f5 (by simp;omega) fun pp H6 s6 e6=>?_
    exact kk pp zs H6 e6 q2 q3 (((q4.same s5).same s6).mono (by omega)) ((q5.trans s5.sm).trans s6.sm)
  cases hv with
  | @one b z e=>
   refine tests b z [] _ _ _ "all" "none" e (fun hz H1 s1=>?_) (fun hz H1 s1=>?_) H (aa.refl _)
   ·exact k (.ref b) (.one z) H1 (.one (s1 _ _ e)) hok (fun y h=>nomatch h) (fun _ h=>nomatch h) ((hn.same s1).mono (by omega)) s1.sm
   ·exact absurd (by rcases hok with rfl | rfl<;>simp) hz
  | @as b y e=>
   refine tests b "as" [.str y] _ _ _ "all" "none" e (fun hz H1 s1=>absurd hz (by decide+kernel)) (fun hz H1 s1=>?_) H (aa.refl _)
   refine tests b "as" [.str y] _ _ _ "way" "as" e (fun hz H1 s1=>?_) (fun hz H1 s1=>absurd (by simp) hz) H1 s1
   refine plain b "as" [y] e (.inl rfl) (fun z hz=>by rw [List.mem_singleton.mp hz];exact Hw _ hok.2) (fun pp zs H' e' hl hz wu Ky=>?_) H1 s1
   match zs,hl with
   | [y'],_=>
    have h0:=hz 0 (by simp) (by simp)
    have hm:y'∈dbl ns:=d6.mpr ⟨y,hok.2,h0⟩
    exact k (.ref pp) (.as y') H' (.as e') ⟨Ce _ hm,hm⟩ (fun y2 h2=>by cases h2;exact ⟨y,rfl,h0⟩) (fun _ h=>nomatch h) wu Ky
  | @way b x y e=>
   refine tests b "way" [.str x,.str y] _ _ _ "all" "none" e (fun hz H1 s1=>absurd hz (by decide+kernel)) (fun hz H1 s1=>?_) H (aa.refl _)
   refine tests b "way" [.str x,.str y] _ _ _ "way" "as" e (fun hz H1 s1=>?_) (fun hz H1 s1=>absurd (by simp) hz) H1 s1
   refine plain b "way" [x,y] e (.inr rfl) (fun z hz=>?_) (fun pp zs H' e' hl hz wu Ky=>?_) H1 s1
   ·simp only [Qp,QA,or_false] at hz
    rcases hz with rfl | rfl
    ·exact Hw _ hok.2.2.1
    ·exact Hw _ hok.2.2.2
   match zs,hl with
   | [x',y'],_=>
    have h0:=hz 0 (by simp) (by simp)
    have h1:=hz 1 (by simp) (by simp)
    have Du:x'∈dbl ns:=d6.mpr ⟨x,hok.2.2.1,h0⟩
    have Ba:y'∈dbl ns:=d6.mpr ⟨y,hok.2.2.2,h1⟩
    exact k (.ref pp) (.way x' y') H' (.way e') ⟨Ce _ Du,Ce _ Ba,Du,Ba⟩ (fun y2 h2=>nomatch h2) (fun _ h=>nomatch h) wu Ky
  | @prs b c s0 ys ps e ec hp=>
   have OV:s0 ∉ (["all","none"]:List Str)/\s0 ∉ (["way","as"]:List Str):=by rcases hok.1 with rfl | rfl<;>decide+kernel
   refine tests b s0 [.ref c] _ _ _ "all" "none" e (fun hz H1 s1=>absurd hz OV.1) (fun hz H1 s1=>?_) H (aa.refl _)
   refine tests b s0 [.ref c] _ _ _ "way" "as" e (fun hz H1 s1=>absurd hz OV.2) (fun hz H1 s1=>?_) H1 s1
   have gb:=hp.len
   obtain ⟨hs,DG,Jp,GA⟩:=hok
   refine ⟨_,.str s0,.inr (ae.of (s1 _ _ e)),aL _ _,_,.ref c,.inr (ae.of (s1 _ _ e)),rfl,Or.inr ⟨⟨ys,ae.of (s1 _ _ ec)⟩,fun D hD=>?_⟩⟩
   have g_:=hn.same s1
   have qd:D≠p:=g_.ne hD
   have fD:=g_.free hD
   have vd:H D=none:=s1.free hD
   refine i5 (dG ys) (fun i τ H'=>∃ (v0 v1:Option V) (us:List V) (qs:List (Str×Str)),τ=[v0,v1,some (.ref p)]/\H' D=some (.lst us)/\EE H' us qs/\qs.length=i/\(∀ j (h1:j < qs.length) (h2:j < ps.length),qs[j].1=ps[j].1/\(qs[j].2=ps[j].2++"q"\/qs[j].2=ps[j].2++"r"))/\ck K H0 H' p (t+i)/\Sm p p H H'/\Tk H1 H')
    ⟨none,none,[],[],rfl,aA,⟨rfl,fun i h=>absurd h (by simp)⟩,rfl,fun j h=>absurd h (by simp),g_.same (aa.upd hD _),(s1.trans (aa.upd hD _)).sm,(aa.upd hD _).ts⟩ (by rintro i τ H' _ ⟨_,_,_,_,_,_,_,_,_,_,_,tk⟩;exact ae.of (tk _ _ (s1 _ _ ec))) ?_ ?_
   ·rintro i τ H4 hi z0;refine hdn fun Gz9 zG9=>?_;obtain ⟨v0,v1,us,qs,rfl,q1,q2,q3,q4,q5,q6,q7⟩:=z0;refine zG9 ?_
    have yi:i < ps.length:=by omega
    obtain ⟨d0,r1,r2⟩:=hp.at_ i hi yi
    have eg:ys.getD i .ai=.ref d0:=by rw [Qb,Qa hi,r1];rfl
    rw [eg]
    have hy:=Hw _ (DG _ (Qj yi)).2.2
    refine dS (q7 _ _ (s1 _ _ r2)) ?_
    refine ⟨H0,p,2,t+i,rfl,q5,⟨by decide,by decide⟩,by omega,fun r H5 r0 Gw rh gy=>?_⟩
    obtain ⟨j,rfl⟩:∃ j:Nat,r=(j:Int):=⟨r.toNat,by omega⟩
    obtain ⟨c',ki,lh⟩:=OT j (by omega)
    refine ⟨(show 2<=sizeLine by decide),c',ki,⟨by show ps[i].2.length+1<=sizeLine;omega,(show 2<=sizeLine by decide),fun T8 Bo=>?_⟩⟩
    have g1:=gy _ _ q1 qd qd
    have s8:=aa.upd Bo (.tup [.str ps[i].1,.str (ps[i].2++⟨#[c']⟩)])
    have f8:upd H5 T8 (.tup [.str ps[i].1,.str (ps[i].2++⟨#[c']⟩)]) T8=some (.tup [.str ps[i].1,.str (ps[i].2++⟨#[c']⟩)]):=aA
    have g8:=s8 _ _ g1
    have OW:=rh.same s8
    have OX:=(q6.trans gy).trans s8.sm (p:=p) (w:=p)
    have Dy:Tk H4 (upd H5 T8 (.tup [.str ps[i].1,.str (ps[i].2++⟨#[c']⟩)])):=(q5.ts gy).trans s8.ts
    dsimp only
    generalize upd H5 T8 (.tup [.str ps[i].1,.str (ps[i].2++⟨#[c']⟩)])=H6 at s8 f8 g8 OW OX Dy ⊢
    have Kz:Tk H6 (upd H6 D (.lst (us++[.ref T8]))):=Tk.refl.set g8 (fun _ z=>nomatch z)
    have ul:=q2.len
    refine ⟨us,g8,by omega,_,_,us++[.ref T8],qs++[(ps[i].1,ps[i].2++⟨#[c']⟩)],rfl,aA,?_,by simp [q3],fun j' h1 h2=>?_,OW.put qd fD,OX.upd vd,(q7.trans Dy).trans Kz⟩
    ·have YC:=q2.tk (Dy.trans Kz)
     refine ⟨by simp [ul],fun i' h1 h2=>?_⟩
     by_cases dh:i' < us.length
     ·rw [Qe dh,Qe (by omega)]
      exact YC.at_ i' dh (by omega)
     ·have ei:i'=us.length:=by simp at h1;omega
      subst ei
      rw [Qf (Qy _),Qf (by omega)]
      simp only [Nat.sub_self,ul,List.getElem_cons_zero]
      exact ⟨T8,rfl,Kz _ _ f8⟩
    ·by_cases hj:j' < qs.length
     ·rw [Qe hj];exact q4 j' hj h2
     ·have ej:j'=qs.length:=by simp at h1;omega
      subst ej
      rw [Qf (Qy _)]
      simp only [Nat.sub_self,List.getElem_cons_zero]
      subst q3
      rcases lh with h | h
      ·rw [h];exact ⟨rfl,.inl rfl⟩
      ·rw [h];exact ⟨rfl,.inr rfl⟩
   ·rintro τ H4 z0;refine hdn fun Gz9 zG9=>?_;obtain ⟨v0,v1,us,qs,rfl,q1,q2,q3,q4,q5,q6,q7⟩:=z0;refine zG9 ?_
    rw [gb] at q3 q5
    refine ⟨D,_,rfl,.inl ⟨af.of q1,fun N2 Fq=>⟨(show 2<=sizeLine by decide),fun N3 KA=>?_⟩⟩⟩
    have s5:=aa.upd Fq (.tup us)
    have f5:upd H4 N2 (.tup us) N2=some (.tup us):=aA
    have s6:=aa.upd KA (.tup [.str s0,.ref N2])
    have Cr:=s5.trans s6
    have OY:qs.map (·.1)=ps.map (·.1):=by
     refine List.ext_getElem (by simp;omega) fun i h1 h2=>?_
     simp only [Qr]
     exact (q4 i (by simpa using h1) (by simpa using h2)).1
    refine k (.ref N3) (.prs s0 qs) _ (.prs aA (s6 _ _ f5) (q2.tk Cr.ts)) ⟨hs,fun q hq=>?_,by rw [OY];exact Jp,by omega⟩ (fun y h=>nomatch h) (fun z hz=>?_) ((q5.same Cr).mono (by omega)) (q6.trans Cr.sm)
    ·obtain ⟨i,hi,rfl⟩:=Qi hq
     obtain ⟨g1,g2⟩:=q4 i hi (by omega)
     have OZ:=DG _ (Qj (show i < ps.length by omega))
     have hm:qs[i].2∈dbl ns:=d6.mpr ⟨_,OZ.2.2,g2⟩
     exact ⟨by rw [g1];exact OZ.1,Ce _ hm,hm⟩
    ·have:z∈ps.map (·.1):=by rw [<- OY];exact hz
     exact Hv z this
def O0 (K:Q0):Sp:=fun vs H Q _=>∃ (H0:Hp) (p a:Addr) (t:Nat) (xs:List V) (rows:List ak) (ns:List Str),vs=[.ref p,.ref a]/\ck K H0 H p t/\t+600 < 900000/\RT H a xs rows ns WW/\(∀ n∈ns,n∈N8)/\ns.length<=7/\
 ∀ (b:Addr) (ys:List V) (ig:List ak) (H':Hp),RT H' b ys ig (dbl ns) WW->ck K H0 H' p (t+600)->Sm p p H H'->Q (.ref b) H'
theorem zR {l m:List Str} (h:l.Perm m):(dbl l).Perm (dbl m):=h.flatMap_right _
theorem xS (l:List Str) (n:Str):dbl (l++[n])=dbl l++[n++"q",n++"r"]:=by simp [dbl]
theorem tT {rs:List (Str×V)} (h:ly H ns ws rs) {n:Str} {v:V} (h1:n∈ns) (h2:qz H ns ws v (A3 ns n)):ly H ns ws (rs++[(n,v)]):=
 (h.add h1 h2).perm fun r hr=>by
  rcases List.mem_append.mp hr with hr | hr
  ·exact Qh _ hr
  ·rw [List.mem_singleton.mp hr];exact List.mem_cons_self
set_option maxHeartbeats 2000000 in
theorem rC (T:Txt K mg w):bc P w K mg base 4 "_law_twin" ["_law_pen","_law_told"] (O0 K):=by
 have fY:bc P w K mg base 3 "_law_twin_head" ["_law_pen","_law_here"] (Kx K):=jE T
 have dN:bc P w K mg base 3 "_law_turned" ["_law_pen","_law_some"] (JX K):=i8 T
 refine T.uF.gf eJ (fun vs H Q E h=>?_) (fun f a_ A outer s H vs Q E hr h=>?_)
 ·refine hdn fun Gz9 zG9=>?_;obtain ⟨H0,p,a,t,xs,rows,ns,rfl,_⟩:=h;refine zG9 ?_
  rfl
 ·refine hdn fun Gz9 zG9=>?_;obtain ⟨H0,p,a,t,xs,rows,ns,rfl,hn,ht,rt,h8,h5,k⟩:=h;refine zG9 ?_
  have hu:=aV hr
  have dj:=Qx (aV hr)
  have hsz:sizeLine=16777216:=QL
  have A4:=rt.rl
  have ur:=rt.rv.len
  have YD:∀ z∈dbl ns,isName z=true/\Wd z:=fun z hz=>by
   obtain ⟨n,hn,h⟩:=d6.mp hz
   exact yK z (d6.mpr ⟨n,h8 n hn,h⟩)
  refine ⟨_,(aD (aS (i:=2) eJ.nd rfl (Or.inl rfl) (cM aC))
   (aD (gT PassesOwn.never rfl (mH K (zv 1)) (cC K (n:=2) rfl (aJ (aK (i:=3) eJ.nd rfl (Or.inl rfl)) (aJ (aK (i:=4) eJ.nd rfl (Or.inl rfl)) bK))) (aD (dR (mF K QH QJ QK cB (zv 2) (bG (aY (fC (bY bS (zv 3) bB) (aN (bF fY (hr.mono (by decide)) (aB (zv 0) (aB (zv 4) aC))) aC))) aC)))
   (aG (dR (mF K QH QJ QK cB (zv 2) (bG (aY (fC (bY bS (zv 3) bB) (aN (bF fY (hr.mono (by decide)) (aB (zv 0) (aB (zv 4) aC))) aC))) aC))))))
   (aG (aQ (bV (d5 K) (by rfl) T.dH QG (aN (bF dN (hr.mono (by decide)) (aB (zv 0) (aB (zv 2) aC))) aC)))))),?_⟩
  refine aM ⟨(show 0<=sizeLine by decide),fun R hR=>?_⟩
  have Av:R≠p:=hn.ne hR
  have fR:=hn.free hR
  refine aU (fun σ' H'=>∃ (v3 v4:Option V) (us:List V) (rs:List (Str×V)),σ'=[some (.ref p),some (.ref a),some (.ref R),v3,v4]/\H' R=some (.lst us)/\iy H' us (bf rs)/\rs.map (·.1)=dbl (rows.map (·.1))/\ly H' (dbl ns) WW rs/\ck K H0 H' p (t+300)/\Sm p p H H') ?_ ?_
  ·intro nx ef
   refine .inr ⟨⟨xs,ae.of (aa.upd hR _ _ _ rt.at_)⟩,?_⟩
   refine fU (dG xs) (fun i σ' H'=>∃ (v3 v4:Option V) (us:List V) (rs:List (Str×V)),σ'=[some (.ref p),some (.ref a),some (.ref R),v3,v4]/\H' R=some (.lst us)/\iy H' us (bf rs)/\rs.map (·.1)=dbl ((rows.map (·.1)).take i)/\ly H' (dbl ns) WW rs/\ck K H0 H' p (t+40*i)/\Sm p p H H')
    ⟨none,none,[],[],rfl,aA,jJ,rfl,⟨(fun _ h=>nomatch h),(fun _ h=>nomatch h)⟩,hn.same (aa.upd hR _),(aa.upd hR _).sm⟩ (by rintro i σ' H' _ ⟨_,_,_,_,_,_,_,_,_,_,s⟩;exact ae.of (hn.ts s _ _ rt.at_)) ?_ ?_
   ·rintro i σ' H1 hi z0;refine hdn fun Gz9 zG9=>?_;obtain ⟨v3,v4,us,rs,rfl,q1,q2,q3,q4,q5,q6⟩:=z0;refine zG9 ?_
    have jg:i < rows.length:=by omega
    obtain ⟨rb,hv,r1,r2,r3⟩:=rt.rv.at_ i hi jg
    have eg:xs.getD i .ai=.ref rb:=by rw [Qb,Qa hi,r1];rfl
    rw [eg]
    have jp:rows[i]∈rows:=Qj jg
    have KC:rows[i].1∈ns:=rt.nm.mem_iff.mp (List.mem_map.mpr ⟨_,jp,rfl⟩)
    have hok:=(rt.ok _ jp).2
    have Hv:=rt.ww _ jp
    have O1:=rt.ah _ jp
    have Hx:(rows.map (·.1)).take (i+1)=(rows.map (·.1)).take i++[rows[i].1]:=by
     rw [Qs,Qq,Qa jg];rfl
    have YE:rs.length=2*i:=by
     have h1:=congrArg List.length q3
     rw [oV,Ql,List.length_take,Ql] at h1
     omega
    generalize rows[i]=row at r2 r3 KC hok Hv O1 Hx
    obtain ⟨nm,hd⟩:=row
    have nl:nm.length<=8:=eA (mU _ (h8 _ KC)).1
    have YF:=hn.ts q6
    refine dS (YF _ _ r2) ?_
    have G2:us.length=rs.length:=by have:=q2.1;simpa using this
    /- R3 holds of a new head -/
    have YG:∀ (c:Str) (h':Hd),(c="q"\/c="r")->(∀ y',h'.nx=some y'->∃ y,hd.nx=some y/\(y'=y++"q"\/y'=y++"r"))->A3 (dbl ns) (nm++c) h'.nx:=fun c h' hc ef y' e'=>by
     obtain ⟨y,e1,e2⟩:=ef y' e'
     obtain ⟨i1,j1,rm,g1,g2⟩:=O1 y e1
     have YH:i1 < ns.length:=(List.getElem?_eq_some_iff.mp g1).1
     have Gz:j1 < ns.length:=(List.getElem?_eq_some_iff.mp g2).1
     have ei:ns[i1]=y:=(List.getElem?_eq_some_iff.mp g1).2
     have ej:ns[j1]=nm:=(List.getElem?_eq_some_iff.mp g2).2
     obtain ⟨a1,a2⟩:=zY ns i1 YH
     obtain ⟨b1,b2⟩:=zY ns j1 Gz
     rw [ei] at a1 a2
     rw [ej] at b1 b2
     rcases e2 with rfl | rfl<;>rcases hc with rfl | rfl
     ·exact ⟨2*i1,2*j1,by omega,a1,b1⟩
     ·exact ⟨2*i1,2*j1+1,by omega,a1,b2⟩
     ·exact ⟨2*i1+1,2*j1,by omega,a2,b1⟩
     ·exact ⟨2*i1+1,2*j1+1,by omega,a2,b2⟩
    have step:∀ (c:Str) (hc:c="q"\/c="r") (D:Ends) (H2:Hp) (us:List V) (rs:List (Str×V)) (tt:Nat),H2 R=some (.lst us)->iy H2 us (bf rs)->ly H2 (dbl ns) WW rs->ck K H0 H2 p tt->Sm p p H H2->us.length<=30->tt+20 < 900000->
      (∀ (nu:List V) (v':V) (H3:Hp),H3 R=some (.lst nu)->iy H3 nu (bf (rs++[(nm++c,v')]))->ly H3 (dbl ns) WW (rs++[(nm++c,v')])->nu.length=us.length+1->ck K H0 H3 p (tt+20)->Sm p p H H3->D.nx [some (.ref p),some (.ref a),some (.ref R),some (.str nm),some hv] H3)->
      Ik (Gg K "list" Mj (tV 2) (ie (CN (ie (j_ IF (tV 3) (tC (V.str c))) (ie (D_ (Kx K) [] E0 (ie (tV 0) (ie (tV 4) vm))) vm))) vm)) D [some (.ref p),some (.ref a),some (.ref R),some (.str nm),some hv] H2:=by
     intro c hc D H2 us rs tt z1 z2 z3 z4 z5 z6 z7 kk
     have kh:c.length=1:=by rcases hc with rfl | rfl<;>rfl
     refine ⟨.inl ⟨rfl,_,af.of z1⟩,⟨by omega,?_⟩⟩
     refine ⟨H0,p,hv,hd,tt,ns,rfl,z4,z7,r3.tk (hn.ts z5),hok,h8,Hv,fun v' h' H3 D7 Ja Cf YI g_ gn=>⟨(show 2<=sizeLine by decide),fun cc AI=>?_⟩⟩
     have g3:=gn _ _ z1 Av Av
     have s4:=aa.upd AI (.tup [.str (nm++c),v'])
     have f4:upd H3 cc (.tup [.str (nm++c),v']) cc=some (.tup [.str (nm++c),v']):=aA
     have g4:=s4 _ _ g3
     have ik:=g_.same s4
     have jf:=(z5.trans gn).trans s4.sm (p:=p) (w:=p)
     have Bj:Tk H2 (upd H3 cc (.tup [.str (nm++c),v'])):=(z4.ts gn).trans s4.ts
     have O2:=D7.tk s4.ts
     dsimp only
     generalize upd H3 cc (.tup [.str (nm++c),v'])=H4 at s4 f4 g4 ik jf Bj O2 ⊢
     have wj:Tk H4 (upd H4 R (.lst (us++[.ref cc]))):=Tk.refl.set g4 (fun _ z=>nomatch z)
     refine ⟨R,us,.ref cc,rfl,rfl,g4,by omega,kk (us++[.ref cc]) v' _ aA (iF (z2.ts (Bj.trans wj)) (wj _ _ f4)) (tT (z3.tk (Bj.trans wj)) (d6.mpr ⟨nm,KC,by rcases hc with rfl | rfl<;>simp⟩) ⟨h',O2.tk wj,Ja,YG c h' hc Cf,YI⟩) (by simp) (ik.put Av fR) (jf.upd hR)⟩
    refine step "q" (.inl rfl) _ H1 us rs _ q1 q2 q4 q5 q6 (by omega) (by omega) (fun EN v1 H2 a1 a2 a3 a4 a5 a6=>?_)
    refine step "r" (.inr rfl) _ H2 EN _ _ a1 a2 a3 a5 a6 (by omega) (by omega) (fun jx v2 H3 b1 b2 b3 b4 b5 b6=>?_)
    refine ⟨_,_,jx,rs++[(nm++"q",v1)]++[(nm++"r",v2)],rfl,b1,b2,?_,b3,b5.mono (by omega),b6⟩
    rw [Hx,xS,Qm,Qm,q3]
    simp
   ·rintro σ' H1 z0;refine hdn fun Gz9 zG9=>?_;obtain ⟨v3,v4,us,rs,rfl,q1,q2,q3,q4,q5,q6⟩:=z0;refine zG9 ?_
    have e:(rows.map (·.1)).take xs.length=rows.map (·.1):=by rw [ur,<- Ql (f:=fun r:ak=>r.1),Qo]
    rw [e] at q3
    exact ef _ _ ⟨v3,v4,us,rs,rfl,q1,q2,q3,q4,q5.mono (by omega),q6⟩
  ·rintro σ' H1 z0;refine hdn fun Gz9 zG9=>?_;obtain ⟨v3,v4,us,rs,rfl,q1,q2,q3,q4,q5,q6⟩:=z0;refine zG9 ?_
   have MU:=oV ns
   have YE:rs.length=2*ns.length:=by
    have h1:=congrArg List.length q3
    rw [oV,Ql,Ql] at h1
    omega
   have G2:us.length=rs.length:=by have:=q2.1;simpa using this
   have pos:=rt.pos
   refine ⟨H0,p,R,us,_,rfl,q5,by omega,.inl (af.of q1),by omega,fun L2 ys H5 Yg Kc Kd rh gy=>⟨L2,ys,rfl,.inl ⟨af.of Kc,fun b hb=>?_⟩⟩⟩
   have s6:=aa.upd hb (.tup ys)
   have wj:=(q5.ts gy).trans s6.ts
   obtain ⟨rs',pr,pa⟩:=lI (q2.ts wj) Kd
   obtain ⟨ig,eu⟩:=RT.of aA pa ((pr.map _).trans (by rw [q3];exact zR rt.nm)) (Yy rt.nd h8) YD (by omega) (by omega) ((q4.tk wj).perm fun r hr=>pr.mem_iff.mp hr)
   exact k b _ ig _ eu ((rh.same s6).mono (by omega)) ((q6.trans gy).trans s6.sm)
theorem YJ {rb:Addr} {xs:List V} {rows:List ak} {v:V} {h':Hd} (rt:RT H a xs rows ns ws) (hi:i < rows.length) (tk:Tk H H') (e:H' b=some (.tup (xs.set i (.ref rb)))) (er:H' rb=some (.tup [.str rows[i].1,v])) (hv:HV H' v h') (ok:h'.ok ns) (ah:A3 ns rows[i].1 h'.nx) (ww:∀ z∈h'.A2,z∈ws):
  RT H' b (xs.set i (.ref rb)) (rows.set i (rows[i].1,h')) ns ws:=by
 have hl:=rt.rv.len
 have nm:(rows.set i (rows[i].1,h')).map (·.1)=rows.map (·.1):=by
  rw [List.map_set]
  refine List.ext_getElem (by simp) fun j h1 h2=>?_
  rw [List.getElem_set]
  split
  ·next e=>subst e;simp
  ·rfl
 have mem:∀ r∈rows.set i (rows[i].1,h'),r∈rows\/r=(rows[i].1,h'):=fun r hr=>List.mem_or_eq_of_mem_set hr
 refine ⟨e,⟨by simp [hl],fun j h1 h2=>?_⟩,by rw [nm];exact rt.nm,rt.nd,fun r hr=>?_,rt.wd,fun r hr=>?_,fun r hr=>?_,rt.pos,rt.few⟩
 ·rw [List.length_set] at h1 h2
  rw [List.getElem_set,List.getElem_set]
  by_cases rm:i=j
  ·subst rm
   rw [if_pos rfl,if_pos rfl]
   exact ⟨rb,v,rfl,er,hv⟩
  ·rw [if_neg rm,if_neg rm]
   obtain ⟨b',v',q1,q2,q3⟩:=rt.rv.at_ j h1 h2
   exact ⟨b',v',q1,tk _ _ q2,q3.tk tk⟩
 ·rcases mem r hr with h | rfl
  ·exact rt.ok r h
  ·exact ⟨(rt.ok _ (Qj hi)).1,ok⟩
 ·rcases mem r hr with h | rfl
  ·exact rt.ah r h
  ·exact ah
 ·rcases mem r hr with h | rfl
  ·exact rt.ww r h
  ·exact ww
theorem YK {xs:List V} (h:i < xs.length) (v:V):(xs.take i++[v])++xs.drop (i+1)=xs.set i v:=by
 rw [QQ,List.set_eq_take_append_cons_drop,if_pos h];rfl
def O3 (K:Q0):Sp:=fun vs H Q _=>∃ (H0:Hp) (p a:Addr) (t:Nat) (xs:List V) (rows:List ak) (ns:List Str),vs=[.ref p,.ref a]/\ck K H0 H p t/\t+30 < 900000/\RT H a xs rows ns WW/\
 ∀ (b:Addr) (ys:List V) (ig:List ak) (H':Hp),RT H' b ys ig ns WW->ck K H0 H' p (t+30)->Sm p p H H'->Q (.ref b) H'
set_option maxHeartbeats 2000000 in
theorem pL (T:Txt K mg w):bc P w K mg base 5 "_law_bent" ["_law_pen","_law_told"] (O3 K):=by
 have aR:bc P w K mg base 2 "_law_next" ["_law_pen","_law_many"] (ze K):=bQ T
 have iK:bc P w K mg base 4 "_law_head" ["_law_pen","_law_names","_law_ahead"] (JZ K):=jT T
 refine T.sV.gf eO (fun vs H Q E h=>?_) (fun f a_ A outer s H vs Q E hr h=>?_)
 ·refine hdn fun Gz9 zG9=>?_;obtain ⟨H0,p,a,t,xs,rows,ns,rfl,_⟩:=h;refine zG9 ?_
  rfl
 ·refine hdn fun Gz9 zG9=>?_;obtain ⟨H0,p,a,t,xs,rows,ns,rfl,hn,ht,rt,k⟩:=h;refine zG9 ?_
  have hu:=aV hr
  have dj:=Qx (aV hr)
  have hsz:sizeLine=16777216:=QL
  have A4:=rt.rl
  have ur:=rt.rv.len
  have pos:=rt.pos
  have few:=rt.few
  refine ⟨_,(aD (aS (i:=2) eO.nd rfl (Or.inl rfl) (bF aR (hr.mono (by decide)) (aB (zv 0) (aN (bO (bM K) (by rfl) T.u_ PySem.boot_len (aB (zv 1) aC)) aC))))
   (aD (IK (i:=3) (own:=["_law_name","_law_here"]) (idx:=[]) (N':=["_law_name","_law_here"]) (cN (bg fE) (["_law_pen","_law_told","_law_at","_law_names","_law_row"]:List Str) (by decide+kernel)) rfl (mH K (zv 1)) (fun _ _ _ _ _ _=>(cC K (n:=2) rfl (aJ (aK (i:=0) (show List.Nodup (["_law_name","_law_here"]:List Str) by decide+kernel) rfl (Or.inl rfl)) (aJ (aK (i:=1) (show List.Nodup (["_law_name","_law_here"]:List Str) by decide+kernel) rfl (Or.inl rfl)) bK)))) (fun _ _ _ _ _ _=>cV) (fun _ _ _ _ _ _=>(zv 0)) eO.nd rfl rfl)
   (aD (aS (i:=4) eO.nd rfl (Or.inl rfl) (aY (aI (bD (bC K) (zv 3) (zv 2) (fun _ _=>rfl)) (aN (bF iK (hr.mono (by decide)) (aB (zv 0) (aB (zv 3) (aF aH aC)))) aC))))
   (aG (aQ (bY (kL K) (bY (kL K) (fI (sQ K) (zv 1) fP (fH (zv 2))) (aY (aB (zv 4) aC))) (fI (sQ K) (zv 1) (fH (bY bS (zv 2) aH)) fP))))))),?_⟩
  refine aM (.inl ⟨_,.inr (ae.of rt.at_),H0,p,_,t,rfl,hn,⟨by omega,by omega⟩,by omega,fun r H1 r0 r1 hn1 qe=>?_⟩)
  obtain ⟨i,rfl⟩:∃ i:Nat,r=(i:Int):=⟨r.toNat,by omega⟩
  have jg:i < rows.length:=by omega
  have zf:=rt.tk (hn.ts qe)
  refine .inr ⟨⟨xs,ae.of zf.at_⟩,fun N hN=>?_⟩
  have nNp:N≠p:=hn1.ne hN
  have fN:=hn1.free hN
  refine i5 (dG xs) (fun j τ H'=>∃ (v0 v1:Option V),τ=[v0,v1]/\H' N=some (.lst (((rows.map (·.1)).take j).map V.str))/\aa H1 H')
   ⟨none,none,rfl,aA,aa.upd hN _⟩ (by rintro j τ H' _ ⟨_,_,_,_,s⟩;exact ae.of (s _ _ zf.at_)) ?_ ?_
  ·rintro j τ H2 hj ⟨v0,v1,rfl,q1,q2⟩
   have O4:j < rows.length:=by omega
   obtain ⟨rb,hv,Gw,r2,r3⟩:=zf.rv.at_ j hj O4
   have eg:xs.getD j .ai=.ref rb:=by rw [Qb,Qa hj,Gw];rfl
   rw [eg]
   have Hx:(rows.map (·.1)).take (j+1)=(rows.map (·.1)).take j++[rows[j].1]:=by
    rw [Qs,Qq,Qa O4];rfl
   refine dS (q2 _ _ r2) ⟨_,q1,by simp;omega,_,_,rfl,by rw [aA,Hx,Qm];rfl,q2.put hN⟩
  ·rintro τ H2 ⟨v0,v1,rfl,q1,q2⟩
   have e:(rows.map (·.1)).take xs.length=rows.map (·.1):=by rw [ur,<- Ql (f:=fun r:ak=>r.1),Qo]
   rw [e] at q1
   have hn2:=hn1.same q2
   have yh:∀ n∈rows.map (·.1),n∈ns:=fun n hn=>rt.nm.mem_iff.mp hn
   have tn:n_ H2 N (rows.map (·.1)):=⟨q1,by intro z;rw [List.map_eq_nil_iff] at z;rw [z] at jg;simp at jg,by simp;omega,fun z hz=>rt.wd z (yh z hz)⟩
   have Hq:(rows.map (·.1))[i]? =some rows[i].1:=by rw [Qq,Qa jg];rfl
   refine ⟨_,.str rows[i].1,.inl (af.of q1),dM (by rw [Qq,Hq];rfl),H0,p,N,0,_,_,rfl,hn2,by omega,tn,fun z hz=>?_,by omega,fun v H3 hg g_ gn=>⟨(show 2<=sizeLine by decide),fun rb YL=>?_⟩⟩
   ·obtain ⟨r,hr,rfl⟩:=List.mem_map.mp hz
    exact (rt.ok r hr).1
   have s4:=aa.upd YL (.tup [.str rows[i].1,v])
   have f4:upd H3 rb (.tup [.str rows[i].1,v]) rb=some (.tup [.str rows[i].1,v]):=aA
   have ik:=g_.same s4
   have Bj:Tk H1 (upd H3 rb (.tup [.str rows[i].1,v])):=(q2.ts.trans (hn2.ts gn)).trans s4.ts
   have jf:Sm p p H (upd H3 rb (.tup [.str rows[i].1,v])):=((qe.trans q2.sm).trans gn).trans s4.sm
   have O5:=hg.tk s4.ts
   dsimp only
   generalize upd H3 rb (.tup [.str rows[i].1,v])=H4 at s4 f4 ik Bj jf O5 ⊢
   have zg:=zf.tk Bj
   have YM:i < xs.length:=by omega
   refine ⟨(i:Int),rfl,Or.inr (Or.inr ⟨a,xs,rfl,ae.of zg.at_,?_,fun N1 YN=>?_⟩)⟩
   ·rw [HT.iR];rintro ⟨_,z⟩;omega
   rw [tM]
   have s5:=aa.upd YN (.tup (xs.take i))
   have f5:upd H4 N1 (.tup (xs.take i)) N1=some (.tup (xs.take i)):=aA
   generalize upd H4 N1 (.tup (xs.take i))=H5 at s5 f5 ⊢
   refine ⟨(show 1<=sizeLine by decide),fun N2 Fq=>?_⟩
   have s6:=aa.upd Fq (.tup [.ref rb])
   have f6:upd H5 N2 (.tup [.ref rb]) N2=some (.tup [.ref rb]):=aA
   dsimp only
   generalize upd H5 N2 (.tup [.ref rb])=H6 at s6 f6 ⊢
   refine GV (s6 _ _ f5) f6 (by simp;omega) fun P1 H7 s7 e7=>?_
   have DH:=(s5.trans s6).trans s7
   refine ⟨(i:Int)+1,rfl,Or.inr (Or.inr ⟨a,xs,rfl,ae.of (DH _ _ zg.at_),?_,fun N3 KA=>?_⟩)⟩
   ·rw [show ((i:Int)+1)=((i+1:Nat):Int) by omega,HT.iR];rintro ⟨z,_⟩;omega
   rw [show ((i:Int)+1)=((i+1:Nat):Int) by omega,lK]
   have s8:=aa.upd KA (.tup (xs.drop (i+1)))
   have f8:upd H7 N3 (.tup (xs.drop (i+1))) N3=some (.tup (xs.drop (i+1))):=aA
   generalize upd H7 N3 (.tup (xs.drop (i+1)))=H8 at s8 f8 ⊢
   refine GV (s8 _ _ e7) f8 (by simp;omega) fun P2 H9 s9 e9=>?_
   rw [YK YM] at e9
   have Ft:=(DH.trans s8).trans s9
   obtain ⟨h',g1,g2,g3,g4⟩:=(O5.tk Ft.ts).ex
   have ef:h'.nx=none:=by
    cases ez:h'.nx with
    | none=>rfl
    | some y=>obtain ⟨j,hj,_⟩:=g3 y ez;omega
   have YO:h'.ok ns:=by
    cases h' with
    | one s=>exact g2
    | as y=>cases ef
    | way x y=>exact ⟨g2.1,g2.2.1,yh _ g2.2.2.1,yh _ g2.2.2.2⟩
    | prs s ps=>exact ⟨g2.1,fun q hq=>⟨(g2.2.1 q hq).1,(g2.2.1 q hq).2.1,yh _ (g2.2.1 q hq).2.2⟩,g2.2.2.1,g2.2.2.2⟩
   exact k P2 _ _ H9 (YJ zg jg Ft.ts e9 (Ft _ _ f4) g1 YO (by rw [ef];intro y z;cases z) g4) ((ik.same Ft).mono (by omega)) (jf.trans Ft.sm)
def O6 (K:Q0):Sp:=fun vs H Q _=>∃ (H0:Hp) (p:Addr) (most:Int) (t:Nat),vs=[.ref p,.int most]/\ck K H0 H p t/\t+2000 < 900000/\(1<=most/\most<=7)/\
 ∀ (q a b:Addr) (xs ys:List V) (rows ig:List ak) (ns zh:List Str) (x y:Str) (H':Hp),H' q=some (.tup [.ref a,.str x,.ref b,.str y])->RT H' a xs rows ns WW->x∈ns->RT H' b ys ig zh WW->y∈zh->ck K H0 H' p (t+2000)->Sm p p H H'->Q (.ref q) H'
set_option maxHeartbeats 2000000 in
theorem sG (T:Txt K mg w):bc P w K mg base 6 "_law_two" ["_law_pen","_law_most"] (O6 K):=by
 have aR:bc P w K mg base 2 "_law_next" ["_law_pen","_law_many"] (ze K):=bQ T
 have i7:bc P w K mg base 5 "_law_telling" ["_law_pen","_law_most"] (Ot K):=lY T
 have jQ:bc P w K mg base 3 "_law_any" ["_law_pen","_law_told"] (OA K):=sP T
 have lP:bc P w K mg base 4 "_law_twin" ["_law_pen","_law_told"] (O0 K):=rC T
 have sT:bc P w K mg base 5 "_law_bent" ["_law_pen","_law_told"] (O3 K):=pL T
 refine T.xN.gf eB (fun vs H Q E h=>?_) (fun f a_ A outer s H vs Q E hr h=>?_)
 ·obtain ⟨H0,p,most,t,rfl,_⟩:=h
  rfl
 ·refine hdn fun Gz9 zG9=>?_;obtain ⟨H0,p,most,t,rfl,hn,ht,⟨Ba,hm2⟩,k⟩:=h;refine zG9 ?_
  have hu:=aV hr
  have dj:=Qx (aV hr)
  have hsz:sizeLine=16777216:=QL
  refine ⟨_,(aD (aS (i:=2) eB.nd rfl (Or.inl rfl) (bF i7 (hr.mono (by decide)) (aB (zv 0) (aB (zv 1) aC))))
   (aD (aS (i:=3) eB.nd rfl (Or.inl rfl) (bF jQ (hr.mono (by decide)) (aB (zv 0) (aB (zv 2) aC))))
   (aD (aS (i:=4) eB.nd rfl (Or.inl rfl) (bF aR (hr.mono (by decide)) (aB (zv 0) (aF aH aC))))
   (aD (bW (aP (eW dj) (zv 4) aH (e_ _)) (aG (aQ (aY (aB (zv 2) (aB (zv 3) (aB (zv 2) (aN (bF jQ (hr.mono (by decide)) (aB (zv 0) (aB (zv 2) aC))) aC))))))) aZ)
   (aD (bW (aP (eW dj) (zv 4) aH (e_ _)) (aG (aQ (aY (aB (zv 2) (aB (zv 3) (aN (bF lP (hr.mono (by decide)) (aB (zv 0) (aB (zv 2) aC))) (fC (bY bS (zv 3) bB) aC))))))) aZ)
   (aD (bW (aP iJ (zv 4) aH (e_ _)) (aG (aQ (aY (aB (zv 2) (aB (zv 3) (aN (bF sT (hr.mono (by decide)) (aB (zv 0) (aN (bF lP (hr.mono (by decide)) (aB (zv 0) (aB (zv 2) aC))) aC))) (fC (bY bS (zv 3) bB) aC))))))) aZ)
   (aD (aS (i:=5) eB.nd rfl (Or.inl rfl) (bF i7 (hr.mono (by decide)) (aB (zv 0) (aB (zv 1) aC))))
   (aG (aQ (aY (aB (zv 2) (aB (zv 3) (aB (zv 5) (aN (bF jQ (hr.mono (by decide)) (aB (zv 0) (aB (zv 5) aC))) aC)))))))))))))),?_⟩
  refine aM ⟨H0,p,most,t,rfl,hn,by omega,⟨by omega,by omega⟩,fun a xs rows ns H1 rt hl h8 hn1 qe=>?_⟩
  refine aM ⟨H0,p,a,_,xs,rows,ns,WW,rfl,hn1,by omega,rt,fun x H2 hx hn2 vc=>?_⟩
  have eu:=rt.tk (hn1.ts vc)
  have xl:x.length<=8:=eA (mU _ (h8 _ hx)).1
  refine aM ⟨H0,p,5,_,rfl,hn2,⟨by decide,by decide⟩,by omega,fun wy H3 wy0 wy1 g_ gn=>?_⟩
  have Cs:=eu.tk (hn2.ts gn)
  have Hy:=(qe.trans vc).trans gn
  have eq1:(x++("q":Str))∈dbl ns:=d6.mpr ⟨x,hx,.inl rfl⟩
  have ql:("q":Str).length=1:=rfl
  refine ⟨rfl,_,rfl,dw (fun c=>?_) (fun c=>?_)⟩
  ·refine ⟨H0,p,a,_,xs,rows,ns,WW,rfl,g_,by omega,Cs,fun y H4 hy ik jf=>⟨(show 4<=sizeLine by decide),fun q hq=>?_⟩⟩
   have s5:=aa.upd hq (.tup [.ref a,.str x,.ref a,.str y])
   have Hz:=(Cs.tk (g_.ts jf)).tk s5.ts
   exact k q a a xs xs rows rows ns ns x y _ aA Hz hx Hz hy ((ik.same s5).mono (by omega)) ((Hy.trans jf).trans s5.sm)
  refine ⟨rfl,_,rfl,dw (fun c=>?_) (fun c=>?_)⟩
  ·refine ⟨H0,p,a,_,xs,rows,ns,rfl,g_,by omega,Cs,h8,by omega,fun b ys ig H4 zg ik jf=>⟨by omega,(show 4<=sizeLine by decide),fun q hq=>?_⟩⟩
   have s5:=aa.upd hq (.tup [.ref a,.str x,.ref b,.str (x++"q")])
   exact k q a b xs ys rows ig ns _ x _ _ aA ((Cs.tk (g_.ts jf)).tk s5.ts) hx (zg.tk s5.ts) eq1 ((ik.same s5).mono (by omega)) ((Hy.trans jf).trans s5.sm)
  refine ⟨_,rfl,dw (fun c=>?_) (fun c=>?_)⟩
  ·refine ⟨H0,p,a,_,xs,rows,ns,rfl,g_,by omega,Cs,h8,by omega,fun b ys ig H4 zg ik jf=>⟨H0,p,b,_,ys,ig,_,rfl,ik,by omega,zg,fun b2 YQ YR H5 Hz rh gy=>⟨by omega,(show 4<=sizeLine by decide),fun q hq=>?_⟩⟩⟩
   have s6:=aa.upd hq (.tup [.ref a,.str x,.ref b2,.str (x++"q")])
   exact k q a b2 xs YQ rows YR ns _ x _ _ aA (((Cs.tk (g_.ts jf)).tk (ik.ts gy)).tk s6.ts) hx (Hz.tk s6.ts) eq1 ((rh.same s6).mono (by omega)) (((Hy.trans jf).trans gy).trans s6.sm)
  refine ⟨H0,p,most,_,rfl,g_,by omega,⟨by omega,by omega⟩,fun b ys ig zh H4 zg Nb h84 ik jf=>?_⟩
  refine ⟨H0,p,b,_,ys,ig,zh,WW,rfl,ik,by omega,zg,fun y H5 hy rh gy=>⟨(show 4<=sizeLine by decide),fun q hq=>?_⟩⟩
  have s6:=aa.upd hq (.tup [.ref a,.str x,.ref b,.str y])
  exact k q a b xs ys rows ig ns zh x y _ aA (((Cs.tk (g_.ts jf)).tk (ik.ts gy)).tk s6.ts) hx ((zg.tk (ik.ts gy)).tk s6.ts) hy ((rh.same s6).mono (by omega)) (((Hy.trans jf).trans gy).trans s6.sm)
structure Bp (K:Q0) (mg:Str->Option Value) (H:Hp) (n1 n2:Addr) (r1 r2:List ak) (m1 m2:List Str):Prop where
 v1:Dn K mg H n1 r1 m1
 v2:Dn K mg H n2 r2 m2
 g1:fj r1 m1
 g2:fj r2 m2
theorem Bp.same {H H':Hp} {n1 n2:Addr} {r1 r2:List ak} {m1 m2:List Str} (h:Bp K mg H n1 n2 r1 r2 m1 m2) (s:aa H H'):Bp K mg H' n1 n2 r1 r2 m1 m2:=⟨h.v1.same s,h.v2.same s,h.g1,h.g2⟩
def O7:Sp:=fun vs H Q _=>∃ (W:Addr) (i:Nat) (ts:List V) (tr:List (Option (Nat×List Str))),vs=[.ref W,.int (i:Int)]/\H W=some (.lst ts)/\v_ H ts tr/\G0 tr/\i < tr.length/\tr.length<=1000/\
 ∀ (r:Addr) (us:List V) (H':Hp),aa H H'->H' r=some (.tup us)->SV H' us (h_ tr i i)->Q (.ref r) H'
theorem nZ (T:Txt K mg w):bc P w K mg base 1 "road_back" ["trail","at"] O7:=by
 refine T.pX.gf dO (fun vs H Q E h=>?_) (fun f a_ A outer s H vs Q E hr h=>?_)
 ·obtain ⟨W,i,ts,tr,rfl,_⟩:=h
  rfl
 ·refine hdn fun Gz9 zG9=>?_;obtain ⟨W,i,ts,tr,rfl,hW,tv,tok,hi,hl,k⟩:=h;refine zG9 ?_
  have hu:=aV hr
  have dj:=Qx (aV hr)
  have hsz:sizeLine=16777216:=QL
  have htl:=tv.len
  refine ⟨_,(aD (aS (i:=2) dO.nd rfl (Or.inl rfl) (cM aC))
   (aD (eI PassesOwn.never (aP vB (bD (bC K) (zv 0) (zv 1) (fun _ _=>rfl)) jZ (e_ _)) (aD (jV (bD (bC K) (zv 0) (zv 1) (fun _ _=>rfl)) (cC K (n:=2) rfl (aJ (aK (i:=1) dO.nd rfl (Or.inl rfl)) (aJ (aK (i:=3) dO.nd rfl (Or.inl rfl)) bK))))
   (aG (dR (mF K QH QJ QK cB (zv 2) (aB (zv 3) aC))))))
   (aG (aQ (bV (d5 K) (by rfl) T.dH QG (aI (Xz K (zv 2) (UU Se aH)) aC)))))),?_⟩
  refine aM ⟨(show 0<=sizeLine by decide),fun L hL=>?_⟩
  refine aU (fun σ' H'=>∃ (v3:Option V) (j:Nat) (us:List V) (ss:List (List Str)),σ'=[some (.ref W),some (.int (j:Int)),some (.ref L),v3]/\aa H H'/\H' L=some (.lst us)/\SV H' us ss/\ss.length<=1000/\h_ tr i i=ss.reverse) ?_ ?_
  ·intro nx ef
   refine ⟨fun m σ' H'=>∃ (v3:Option V) (j:Nat) (us:List V) (ss:List (List Str)),σ'=[some (.ref W),some (.int (j:Int)),some (.ref L),v3]/\aa H H'/\H' L=some (.lst us)/\SV H' us ss/\j<=m/\m+ss.length<=i/\h_ tr i i=h_ tr m j++ss.reverse,⟨i,none,i,[],[],rfl,aa.upd hL _,aA,SV.nil,Qy _,by simp,by simp⟩,?_⟩
   rintro m σ' H1 z0;refine hdn fun Gz9 zG9=>?_;obtain ⟨v3,j,us,ss,rfl,s1,e1,sv,hj,hm,he⟩:=z0;refine zG9 ?_
   have HC:j < tr.length:=by omega
   have DI:=tv.at_ j (by omega) HC
   have Bg:lq ts (j:Int)=some (ts[j]'(by omega)):=dM (Qa (by omega))
   refine ⟨_,_,.inl (af.of (s1 _ _ hW)),Bg,?_⟩
   cases ho:tr[j] with
   | none=>
    rw [ho] at DI
    have DI:ts[j]'(by omega)=.ai:=DI
    rw [DI]
    refine ⟨_,rfl,ef _ _ ⟨v3,j,us,ss,rfl,s1,e1,sv,by omega,?_⟩⟩
    rw [he]
    have:h_ tr m j=[]:=by
     cases m with
     | zero=>rfl
     | succ m=>unfold h_;rw [Qa HC,ho]
    rw [this,List.nil_append]
   | some q=>
    rw [ho] at DI
    obtain ⟨b,c,q1,q2,q3⟩:=DI
    rw [q1]
    have hqj:=tok j q.1 q.2 (by rw [Qa HC,ho])
    have G2:=sv.len
    refine ⟨_,rfl,xm ?_⟩
    refine ⟨fun σ' H'=>∃ m',m' < m/\∃ (v3:Option V) (j:Nat) (us:List V) (ss:List (List Str)),σ'=[some (.ref W),some (.int (j:Int)),some (.ref L),v3]/\aa H H'/\H' L=some (.lst us)/\SV H' us ss/\j<=m'/\m'+ss.length<=i/\h_ tr i i=h_ tr m' j++ss.reverse,fun _ _ h=>h,?_⟩
    refine ⟨_,_,.inl (af.of (s1 _ _ hW)),Bg,?_⟩
    rw [q1]
    refine dS (s1 _ _ q2) ?_
    refine ⟨.inl ⟨rfl,_,af.of e1⟩,L,us,.ref c,rfl,rfl,e1,by omega,m - 1,by omega,_,q.1,us++[.ref c],ss++[q.2],rfl,s1.put hL,aA,?_,by omega,by simp;omega,?_⟩
    ·exact (sv.snoc (q3.same s1)).keep fun b ys r=>r.put e1 (fun _ z=>nomatch z) (fun _ _ z=>nomatch z)
    ·rw [he]
     cases m with
     | zero=>omega
     | succ m=>
      have:h_ tr (m+1) j=h_ tr m q.1++[q.2]:=by
       show (match tr[j]? with | some (some (j,s))=>h_ tr m j++[s] | _=>[])=_
       rw [Qa HC,ho]
      rw [this,Nat.add_sub_cancel,List.reverse_append,QQ]
      rfl
  ·rintro σ' H1 z0;refine hdn fun Gz9 zG9=>?_;obtain ⟨v3,j,us,ss,rfl,s1,e1,sv,hl,he⟩:=z0;refine zG9 ?_
   have G2:=sv.len
   refine ⟨_,rfl,rfl,L,us,rfl,af.of e1,fun p hp=>?_⟩
   refine ⟨p,us.reverse,rfl,.inl ⟨af.of aA,fun r hr=>?_⟩⟩
   have s2:=(aa.upd hp (.lst us.reverse)).trans (aa.upd hr (.tup us.reverse))
   refine k r _ _ (s1.trans s2) aA ?_
   rw [he]
   exact (sv.same s2).rev
def O8:Sp:=fun vs H Q _=>∃ (D b:Addr) (U:List Tg) (f:AF) (n:Nat) (x:Tg),vs=[.ref D,.ref b]/\gm H D U f n/\mh f n/\U.length<=100/\aj H b ((ay x).map kV)/\x∈U/\
 ∀ (b':Addr) (y:Tg) (f':AF) (H':Hp),Sx D H H'->gm H' D U f' n->mh f' n->aj H' b' ((ay y).map kV)->y∈U->bq f' x y->(∀ z r,bq f z r->bq f' z r)->Q (.ref b') H'
set_option maxHeartbeats 1000000 in
theorem vY (T:Txt K mg w):bc P w K mg base 1 "top_of" ["above","thing"] O8:=by
 refine T.yX.gf jD (fun vs H Q E h=>?_) (fun f a_ A outer s H vs Q E hr h=>?_)
 ·refine hdn fun Gz9 zG9=>?_;obtain ⟨D,b,U,f,n,x,rfl,_⟩:=h;refine zG9 ?_
  rfl
 ·refine hdn fun Gz9 zG9=>?_;obtain ⟨D,b,U,f,n,x,rfl,ab,ac,hU,hb,hx,k⟩:=h;refine zG9 ?_
  have hu:=aV hr
  have hsz:sizeLine=16777216:=QL
  refine ⟨_,(aD (eI PassesOwn.never (aP (zX hu) (zv 1) (zv 0) rfl) (aD (aS (i:=2) jD.nd rfl (Or.inl rfl) (bR hu (zv 0) (zv 1) (fun _ _=>rfl)))
   (aD (bW (aP (zX hu) (zv 2) (zv 0) rfl) (aG (oR hu (zv 0) (zv 1) (bR hu (zv 0) (zv 2) (fun _ _=>rfl)) rfl)) aZ)
   (aG (aS (i:=1) jD.nd rfl (Or.inl rfl) (zv 2))))))
   (aG (aQ (zv 1)))),?_⟩
  refine aU (fun σ' H'=>∃ (v2:Option V) (b':Addr) (y:Tg) (f':AF),σ'=[some (.ref D),some (.ref b'),v2]/\Sx D H H'/\gm H' D U f' n/\mh f' n/\aj H' b' ((ay y).map kV)/\y∈U/\bq f' x y/\∀ z r,bq f z r->bq f' z r) ?_ ?_
  ·intro nx ef
   refine ⟨fun m σ' H'=>∃ (v2:Option V) (b':Addr) (y:Tg) (f':AF) (ρ:Tg->Nat),σ'=[some (.ref D),some (.ref b'),v2]/\Sx D H H'/\gm H' D U f' n/\(∀ x y,f' x=some y->ρ x < ρ y)/\(∀ x,ρ x<=n)/\aj H' b' ((ay y).map kV)/\y∈U/\(∀ r,bq f' y r->bq f' x r)/\(∀ z r,bq f z r->bq f' z r)/\m=n - ρ y,?_,?_⟩
   ·obtain ⟨ρ,p1,p2⟩:=ac
    exact ⟨_,none,b,x,f,ρ,rfl,fun b o _ e=>e,ab,p1,p2,hb,hx,fun r h=>h,fun z r h=>h,rfl⟩
   rintro m σ' H1 ⟨v2,b1,y,f1,ρ,rfl,s1,zj,p1,p2,A1,hy,KG,KH,rfl⟩
   obtain ⟨kvs,g1,g2,g3,g4,g5⟩:=zj.ex
   refine ⟨D,bh kvs (ay y),rfl,.inr ⟨kvs,ay y,b1,.inl g1,rfl,A1,rfl⟩,_,rfl,?_⟩
   rcases g5 y with ⟨q1,q2⟩ | ⟨c,u,q1,q2,q3,q4⟩
   ·rw [q1]
    exact ja (ef _ _ ⟨v2,b1,y,f1,rfl,s1,zj,⟨ρ,p1,p2⟩,A1,hy,KG _ (.top q2),KH⟩)
   ·rw [q1]
    refine xm ?_
    have ao:=p1 _ _ q3
    have hub:=p2 u
    refine ⟨fun σ' H'=>∃ m',m' < n - ρ y/\∃ (v2:Option V) (b':Addr) (y:Tg) (f':AF) (ρ:Tg->Nat),σ'=[some (.ref D),some (.ref b'),v2]/\Sx D H H'/\gm H' D U f' n/\(∀ x y,f' x=some y->ρ x < ρ y)/\(∀ x,ρ x<=n)/\aj H' b' ((ay y).map kV)/\y∈U/\(∀ r,bq f' y r->bq f' x r)/\(∀ z r,bq f z r->bq f' z r)/\m'=n - ρ y,fun _ _ h=>h,?_⟩
    have lk:fg H1 D (.ref b1) (some (.ref c)):=by rw [<- q1];exact .inr ⟨kvs,ay y,b1,.inl g1,rfl,A1,rfl⟩
    refine aM ⟨D,_,rfl,lk,?_⟩
    refine aU (fun σ' H'=>∃ (f':AF),σ'=[some (.ref D),some (.ref b1),some (.ref c)]/\Sx D H H'/\gm H' D U f' n/\(∀ x y,f' x=some y->ρ x < ρ y)/\aj H' c ((ay u).map kV)/\(∀ r,bq f' u r->bq f' x r)/\(∀ z r,bq f z r->bq f' z r)) ?_ ?_
    ·intro KI Bq
     refine ⟨D,bh kvs (ay u),rfl,.inr ⟨kvs,ay u,c,.inl g1,rfl,q2,rfl⟩,_,rfl,?_⟩
     rcases g5 u with ⟨w1,w2⟩ | ⟨d,v,w1,w2,w3,w4⟩
     ·rw [w1]
      exact ja (Bq _ _ ⟨f1,rfl,s1,zj,p1,q2,fun r h=>KG r (.up q3 h),KH⟩)
     ·rw [w1]
      have hn:=zj.few
      have YS:fg H1 D (.ref c) (some (.ref d)):=by rw [<- w1];exact .inr ⟨kvs,ay u,c,.inl g1,rfl,q2,rfl⟩
      obtain ⟨a1,a2⟩:=mh.short ⟨ρ,p1,p2⟩ q3 w3
      refine xm ⟨D,_,rfl,YS,D,_,rfl,.inr ⟨kvs,ay y,b1,g1,rfl,A1,by omega,rfl⟩,Bq _ _ ⟨jn f1 y v,rfl,s1.trans Sx.upd,zj.short g1 q3 w4 w2,fun z z' h=>?_,j3 g1 _ _ q2,fun r h=>?_,fun z r h=>a2 z r (KH z r h)⟩⟩
      ·unfold jn at h
       split at h
       ·rename_i hz
        cases h
        rw [hz]
        exact Nat.lt_trans (p1 _ _ q3) (p1 _ _ w3)
       ·exact p1 _ _ h
      ·obtain ⟨r0,h0⟩:=gY ⟨ρ,p1,p2⟩ u
       have:r=r0:=h.Dp (a2 _ _ h0)
       rw [this]
       exact a2 _ _ (KG _ (.up q3 h0))
    ·rintro σ' H2 z0;refine hdn fun Gz9 zG9=>?_;obtain ⟨f2,rfl,s2,DJ,HD,HE,e1,e2⟩:=z0;refine zG9 ?_
     exact ⟨n - ρ u,by omega,_,c,u,f2,ρ,rfl,s2,DJ,HD,p2,HE,q4,e1,e2,rfl⟩
  ·rintro σ' H1 z0;refine hdn fun Gz9 zG9=>?_;obtain ⟨v2,b',y,f',rfl,s1,zj,KJ,rd,hy,h1,h2⟩:=z0;refine zG9 ?_
   exact k b' y f' H1 s1 zj KJ rd hy h1 h2
def O9:Sp:=fun vs H Q _=>∃ (D b c:Addr) (U:List Tg) (f:AF) (n:Nat) (x y:Tg),vs=[.ref D,.ref b,.ref c]/\gm H D U f n/\mh f n/\U.length<=100/\aj H b ((ay x).map kV)/\aj H c ((ay y).map kV)/\x∈U/\y∈U/\
 (∀ (r:Tg) (f':AF) (H':Hp),Sx D H H'->gm H' D U f' n->mh f' n->bq f' x r->bq f' y r->(∀ z r,bq f z r->bq f' z r)->Q (.bl false) H')/\
 ∀ (r r':Tg) (f':AF) (H':Hp),Sx D H H'->gm H' D U f' (n+1)->mh f' (n+1)->bq f x r->bq f y r'->r≠r'->(∀ z q,bq f z q->bq f' z (if q=r then r' else q))->Q (.bl true) H'
theorem mJ (T:Txt K mg w):bc P w K mg base 2 "put_in_one" ["above","a","b"] O9:=by
 have qR:bc P w K mg base 1 "top_of" ["above","thing"] O8:=vY T
 refine T.oX.gf i6 (fun vs H Q E h=>?_) (fun f a_ A outer s H vs Q E hr h=>?_)
 ·refine hdn fun Gz9 zG9=>?_;obtain ⟨D,b,c,U,f,n,x,y,rfl,_⟩:=h;refine zG9 ?_
  rfl
 ·refine hdn fun Gz9 zG9=>?_;obtain ⟨D,b,c,U,f,n,x,y,rfl,ab,ac,hU,hb,hc,hx,hy,k1,k2⟩:=h;refine zG9 ?_
  have hu:=aV hr
  have Aw:=gK hr
  have hsz:sizeLine=16777216:=QL
  refine ⟨_,(aD (qJ (i:=3) (j:=4) rfl i6.nd rfl rfl (by decide) rfl rfl (aN (bF qR (hr.mono (by decide)) (aB (zv 0) (aB (zv 1) aC))) (aN (bF qR (hr.mono (by decide)) (aB (zv 0) (aB (zv 2) aC))) aC)) rfl)
   (aD (bW (aP (WY Aw) (zv 3) (zv 4) (e_ _)) (aG (aQ gP)) aZ)
   (aD (oR hu (zv 0) (zv 3) (zv 4) rfl)
   (aG (aQ gP))))),?_⟩
  refine ⟨D,b,U,f,n,x,rfl,ab,ac,hU,hb,hx,fun b1 t1 f1 H1 s1 zj KJ YT JV zf HF=>?_⟩
  have ki:aj H1 c ((ay y).map kV):=hc.sx s1 ab
  refine ⟨D,c,U,f1,n,y,rfl,zj,KJ,hU,ki,hy,fun b2 t2 f2 H2 s2 DJ O_ HE YU eu Fv=>⟨_,_,rfl,?_⟩⟩
  have Pa:aj H2 b1 ((ay t1).map kV):=YT.sx s2 zj
  have HG:=Fv _ _ zf
  dsimp only
  refine ⟨1,1,_,_,b1,b2,by decide,rfl,rfl,NI Pa,NI HE,fun bo jz=>⟨_,rfl,?_⟩⟩
  rw [W6] at jz
  rw [QE]
  refine dw (fun cc=>?_) (fun cc=>?_)
  ·have e:=jz.mp cc
   exact k1 t1 f2 H2 (s1.trans s2) DJ O_ HG (by rw [e];exact eu) fun z r h=>Fv _ _ (HF _ _ h)
  ·have ne:t1≠t2:=fun e=>by rw [jz.mpr e] at cc;cases cc
   obtain ⟨kvs,g1,g2,_⟩:=DJ.ex
   have hn:=DJ.few
   obtain ⟨a1,a2⟩:=O_.join HG.root eu.root ne
   refine f9 ?_
   refine ⟨D,_,rfl,.inr ⟨kvs,ay t1,b1,g1,rfl,Pa,by omega,rfl⟩,?_⟩
   obtain ⟨r0,h0⟩:=gY ac x
   obtain ⟨Pb,Pc⟩:=gY ac y
   have e1:r0=t1:=(Fv _ _ (HF _ _ h0)).Dp HG
   have e2:Pb=t2:=(Fv _ _ (HF _ _ Pc)).Dp eu
   refine k2 r0 Pb (jn f2 t1 t2) _ ((s1.trans s2).trans Sx.upd) (DJ.join g1 HG.root JV YU HE) a1 h0 Pc (by rw [e1,e2];exact ne) fun z q h=>?_
   rw [e1,e2]
   exact a2 z q (Fv _ _ (HF _ _ h))
def KL (K:Q0) (mg:Str->Option Value):Sp:=fun vs H Q _=>∃ (n1 n2 b:Addr) (r1 r2:List ak) (m1 m2:List Str) (p:Pr),vs=[.ref n1,.ref n2,.ref b]/\Bp K mg H n1 n2 r1 r2 m1 m2/\aj H b ((ay p).map kV)/\mi r1 r2 m1 m2 p/\je r1 r2 p/\
 ∀ (L:Addr) (us:List V) (H':Hp),H L=none->aa H H'->H' L=some (.lst us)->p_ H' us (gu r1 r2 p)->Q (.ref L) H'
set_option maxHeartbeats 1000000 in
theorem fZ (T:Txt K mg w):bc P w K mg base 1 "pairs_behind" ["left","right","pair"] (KL K mg):=by
 have cl:=T.yg.2.1
 have na:=T.yg.2.2.1
 refine T.kX.gf dD (fun vs H Q E h=>?_) (fun f a_ A outer s H vs Q E hr h=>?_)
 ·refine hdn fun Gz9 zG9=>?_;obtain ⟨n1,n2,b,r1,r2,m1,m2,p,rfl,_⟩:=h;refine zG9 ?_
  rfl
 ·refine hdn fun Gz9 zG9=>?_;obtain ⟨n1,n2,b,r1,r2,m1,m2,p,rfl,nt,hb,po,me,k⟩:=h;refine zG9 ?_
  have hu:=aV hr
  have dj:=Qx (aV hr)
  have hsz:sizeLine=16777216:=QL
  refine hdn fun Gz9 zG9=>?_;obtain ⟨dx,fs,d1,d3,d4,x0,x1,x2,x3,x4,x5,x6,x7⟩:=nt.v1.at_;refine zG9 ?_
  refine hdn fun Gz9 zG9=>?_;obtain ⟨As,zl,Fw,HH,HK,y0,y1,y2,y3,y4,y5,y6,y7⟩:=nt.v2.at_;refine zG9 ?_
  obtain ⟨p1,o1,p2,p3⟩:=x7 _ po.a
  obtain ⟨q1,o2,q2,q3⟩:=y7 _ po.b
  have ua:=mL po.a.2
  have DC:=nt.g1.EY po.a
  have fw:(b_ r1 p.1).length<=10:=by
   have h1:=gX (nt.g1.yd po.a).2
   have h2:=congrArg List.length ua
   rw [Ql] at h2
   rw [h2];simpa [stH] using h1
  generalize hC:adr mg "Net"=C at x0 y0 cl na
  refine ⟨_,(aD (jV (zv 2) (cC K (n:=2) rfl (aJ (aK (i:=3) dD.nd rfl (Or.inl rfl)) (aJ (aK (i:=4) dD.nd rfl (Or.inr rfl)) bK))))
   (aG (aQ (kC (own:=["step","end"]) (idx:=[1,4]) (N':=["step","end","right","b"]) (cN (bg cS) (["left","right","pair","a","b"]:List Str) (by decide+kernel)) rfl (xA (bR hu (gC K (zv 0)) (zv 3) (fun _ _=>rfl))) (fun _ _ _ _ _ _=>(cC K (n:=2) rfl (aJ (aK (i:=0) (show List.Nodup (["step","end","right","b"]:List Str) by decide+kernel) rfl (Or.inl rfl)) (aJ (aK (i:=1) (show List.Nodup (["step","end","right","b"]:List Str) by decide+kernel) rfl (Or.inl rfl)) bK)))) (fun _ _ _ _ _ _=>cV) (fun _ _ _ _ _ _=>(aY (aB (zv 0) (bG (aY (aB (zv 1) (aI (bR hu (bR hu (gC K (zv 2)) (zv 3) (fun _ _=>rfl)) (zv 0) (fun _ _=>rfl)) aC))) aC)))))))),?_⟩
  refine tI (ae.su hb) ?_
  refine ⟨n1,C,dx,fs,_,rfl,x0,cl,na "moves" (by simp),x3,d4,_,rfl,p2,p1,yc r1 p.1,o1,rfl,p3,fun L hL=>?_⟩
  have oe:(yc r1 p.1).length=(b_ r1 p.1).length:=by simp [yc]
  refine xL (fun i τ H'=>∃ (v0 v1:Option V) (us:List V),τ=[v0,v1,some (.ref n2),some (.str p.2)]/\H' L=some (.lst us)/\us.length=i/\p_ H' us (((stH (aq r1 p.1)).take i).map fun s=>(s,fz r1 r2 p s))/\aa H H') ⟨none,none,[],rfl,aA,rfl,p_.nil,aa.upd hL _⟩ (by rintro i τ H' _ ⟨_,_,_,_,_,_,_,s⟩;exact s _ _ p3) ?_ ?_
  ·rintro i τ H1 TT cc hi ⟨v0,v1,us,rfl,z1,z2,z3,z4⟩ Fx rd
   have EW:i < (b_ r1 p.1).length:=by omega
   have Pd:i < (stH (aq r1 p.1)).length:=by rw [<- ua];simpa using EW
   have Ax:(stH (aq r1 p.1))[i]=(b_ r1 p.1)[i].1:=by simp only [<- ua,Qr]
   have Pe:=rH DC (Qj EW)
   have eo:(yc r1 p.1)[i]=((b_ r1 p.1)[i].1.map Sum.inr,.str (b_ r1 p.1)[i].2):=by simp [yc]
   rw [eo] at rd ⊢
   have sy:(stH (aq r1 p.1)).take (i+1)=(stH (aq r1 p.1)).take i++[(b_ r1 p.1)[i].1]:=by rw [Qs,Qa Pd,Ax];rfl
   have B9:(b_ r1 p.1)[i].1∈stH (aq r1 p.1):=by rw [<- Ax];exact Qj Pd
   generalize (b_ r1 p.1)[i]=mm at rd Pe sy B9 ⊢
   rw [Jw] at rd
   obtain ⟨e2,Pf⟩:=j7 po.b.2 (show mm.1∈stH (aq r2 p.2) by rw [<- me.2];exact B9)
   have Fy:fz r1 r2 p mm.1=(mm.2,e2):=by unfold fz;rw [Pe,Pf];rfl
   dsimp only
   have s2:=aa.upd Fx (.tup [.ref cc,.str mm.2])
   generalize upd H1 TT (.tup [.ref cc,.str mm.2])=H2 at s2 ⊢
   have KN:=z4.trans s2
   have YV:fg H2 q1 (.ref cc) (some (.str e2)):=by
    have:=Wy r2 p.2 mm.1
    rw [Pf] at this
    exact .inr ⟨_,mm.1.map Sum.inr,cc,.inr ⟨o2,KN _ _ q3⟩,rfl,by rw [Jw];exact rd.same s2,this.symm⟩
   refine ⟨n2,C,As,zl,_,rfl,KN _ _ y0,cl,na "moves" (by simp),y3,HK,_,rfl,q2.same KN,q1,_,rfl,YV,(show 2<=sizeLine by decide),fun te YW=>⟨(show 2<=sizeLine by decide),fun tc Pg=>?_⟩⟩
   have s3:=aa.upd YW (.tup [.str mm.2,.str e2])
   have e3:upd H2 te (.tup [.str mm.2,.str e2]) te=some (.tup ((ay (fz r1 r2 p mm.1)).map kV)):=by rw [Fy];exact aA
   generalize upd H2 te (.tup [.str mm.2,.str e2])=H3 at s3 e3 Pg ⊢
   have s4:=aa.upd Pg (.tup [.ref cc,.ref te])
   have e4:upd H3 tc (.tup [.ref cc,.ref te]) tc=some (.tup [.ref cc,.ref te]):=aA
   generalize upd H3 tc (.tup [.ref cc,.ref te])=H4 at s4 e4 ⊢
   have HL:=(s2.trans s3).trans s4
   have KO:=HL _ _ z1
   have kr:∀ b ys,aj H4 b ys->aj (upd H4 L (.lst (us++[.ref tc]))) b ys:=fun b ys h=>h.put KO (fun _ z=>nomatch z) (fun _ _ z=>nomatch z)
   have tk:Tk H4 (upd H4 L (.lst (us++[.ref tc]))):=(Tk.refl).set KO fun _ z=>nomatch z
   refine ⟨us,KO,by omega,_,_,us++[.ref tc],rfl,aA,by simp [z2],?_,(z4.trans HL).put hL⟩
   rw [sy,Qm]
   exact ((z3.same HL).keep tk kr).snoc (tk _ _ e4) (kr _ _ (rd.same HL)) (tk _ _ (s4 _ _ e3))
  ·rintro τ H1 z0;refine hdn fun Gz9 zG9=>?_;obtain ⟨v0,v1,us,rfl,z1,z2,z3,z4⟩:=z0;refine zG9 ?_
   have:(yc r1 p.1).length=(stH (aq r1 p.1)).length:=by rw [oe,<- ua];simp
   rw [this,Qo] at z3
   exact k L us H1 hL z4 z1 z3
structure yj (H0 H:Hp) (L W D:Addr) (st:gw) (U:List Tg) (f:AF) (n:Nat):Prop where
 l:∃ xs,H L=some (.lst xs)/\jq H xs (st.map fun c=>ay c.1)
 w:∃ ts,H W=some (.lst ts)/\v_ H ts (st.map (·.2))
 d:gm H D U f n
 sm:aa H0 H
theorem yj.same {H0 H H':Hp} {L W D:Addr} {st:gw} {U:List Tg} {f:AF} {n:Nat} (h:yj H0 H L W D st U f n) (s:aa H H'):yj H0 H' L W D st U f n:=by
 refine hdn fun Gz9 zG9=>?_;obtain ⟨⟨xs,a1,a2⟩,⟨ts,c1,c2⟩,d,e⟩:=h;refine zG9 ?_
 exact ⟨⟨xs,s _ _ a1,a2.same s⟩,⟨ts,s _ _ c1,c2.same s⟩,d.same s,e.trans s⟩
theorem gm.YX (a:gm H D U f n) (s:Sx D H H'):(∀ b ys,aj H b ys->aj H' b ys)/\Tk H H':=by
 refine ⟨fun b ys r=>r.sx s a,?_⟩
 obtain ⟨kvs,g1,_⟩:=a.ex
 exact s.tk fun ys z=>by rw [g1] at z;cases z
theorem YY {L W T8 r sb:Addr} {st:gw} {xs ts:List V} {p:Pr} {sp:List Str} (l1:H L=some (.lst xs)) (l2:jq H xs (st.map fun c=>ay c.1)) (w1:H W=some (.lst ts)) (w2:v_ H ts (st.map (·.2))) (d:gm H D U f n) (sm:aa H0 H)
  (hL:H0 L=none) (hW:H0 W=none) (Fz:L≠W) (HM:L≠D) (HN:W≠D) (er:H r=some (.tup ((ay p).map kV))) (g:aj H sb (sp.map V.str)) (hT:upd H L (.lst (xs++[.ref r])) T8=none):
  yj H0 (upd (upd (upd H L (.lst (xs++[.ref r]))) T8 (.tup [.int (i:Int),.ref sb])) W (.lst (ts++[.ref T8]))) L W D (st++[(p,some (i,sp))]) U f n/\
  Tk H (upd (upd (upd H L (.lst (xs++[.ref r]))) T8 (.tup [.int (i:Int),.ref sb])) W (.lst (ts++[.ref T8])))/\
  (∀ b ys,aj H b ys->aj (upd (upd (upd H L (.lst (xs++[.ref r]))) T8 (.tup [.int (i:Int),.ref sb])) W (.lst (ts++[.ref T8]))) b ys)/\
  ∀ b o,b≠L->b≠W->H b=some o->upd (upd (upd H L (.lst (xs++[.ref r]))) T8 (.tup [.int (i:Int),.ref sb])) W (.lst (ts++[.ref T8])) b=some o:=by
 have k2:∀ b ys,aj H b ys->aj (upd H L (.lst (xs++[.ref r]))) b ys:=fun b ys h=>h.put l1 (fun _ z=>nomatch z) (fun _ _ z=>nomatch z)
 have t2:Tk H (upd H L (.lst (xs++[.ref r]))):=(Tk.refl).set l1 fun _ z=>nomatch z
 have YZ:upd H L (.lst (xs++[.ref r])) L=some (.lst (xs++[.ref r])):=aA
 have E4:upd H L (.lst (xs++[.ref r])) W=some (.lst ts):=by rw [aE Fz.symm];exact w1
 have m2:aa H0 (upd H L (.lst (xs++[.ref r]))):=sm.put hL
 have f2:∀ b o,b≠L->H b=some o->upd H L (.lst (xs++[.ref r])) b=some o:=fun b o n e=>by rw [aE n];exact e
 generalize upd H L (.lst (xs++[.ref r]))=H2 at*
 have gn:=aa.upd hT (.tup [.int (i:Int),.ref sb])
 have e3:upd H2 T8 (.tup [.int (i:Int),.ref sb]) T8=some (.tup [.int (i:Int),.ref sb]):=aA
 generalize upd H2 T8 (.tup [.int (i:Int),.ref sb])=H3 at*
 have G8:=gn _ _ E4
 have k4:∀ b ys,aj H3 b ys->aj (upd H3 W (.lst (ts++[.ref T8]))) b ys:=fun b ys h=>h.put G8 (fun _ z=>nomatch z) (fun _ _ z=>nomatch z)
 have t4:Tk H3 (upd H3 W (.lst (ts++[.ref T8]))):=(Tk.refl).set G8 fun _ z=>nomatch z
 have kk:∀ b ys,aj H b ys->aj (upd H3 W (.lst (ts++[.ref T8]))) b ys:=fun b ys h=>k4 _ _ ((k2 _ _ h).same gn)
 have tt:Tk H (upd H3 W (.lst (ts++[.ref T8]))):=(t2.trans gn.ts).trans t4
 have fin:∀ b o,b≠L->b≠W->H b=some o->upd H3 W (.lst (ts++[.ref T8])) b=some o:=fun b o n1 n2 e=>by rw [aE n2];exact gn _ _ (f2 b o n1 e)
 refine ⟨⟨⟨xs++[.ref r],by rw [aE Fz];exact gn _ _ YZ,?_⟩,⟨ts++[.ref T8],aA,?_⟩,d.keep (fun o e=>fin D o HM.symm HN.symm e) kk,(m2.trans gn).put hW⟩,tt,kk,fin⟩
 ·rw [Qm]
  exact (l2.keep kk).snoc (.inl (tt _ _ er))
 ·rw [Qm]
  exact (w2.keep tt kk).snoc ⟨T8,sb,rfl,t4 _ _ e3,kk _ _ g⟩
def KP (K:Q0) (mg:Str->Option Value):Sp:=fun vs H Q _=>∃ (n1 n2 b:Addr) (r1 r2:List ak) (m1 m2:List Str) (p:Pr),vs=[.ref n1,.ref n2,.ref b]/\Bp K mg H n1 n2 r1 r2 m1 m2/\H b=some (.tup ((ay p).map kV))/\mi r1 r2 m1 m2 p/\
 (∀ (i:Nat) (st:gw) (un:List Nat) (f:AF) (n:Nat) (H':Hp),aa H H'->fk r1 r2 m1 m2 i st un f n->st[0]? =some (p,none)->st.length=i->Q .ai H')/\
 ∀ (r:Addr) (us:List V) (i:Nat) (st:gw) (un:List Nat) (f:AF) (n:Nat) (c:Pr×Option (Nat×List Str)) (H':Hp),aa H H'->H' r=some (.tup us)->SV H' us (h_ (st.map (·.2)) i i)->fk r1 r2 m1 m2 i st un f n->st[0]? =some (p,none)->st[i]? =some c->¬je r1 r2 c.1->Q (.ref r) H'
theorem Y0 (s:aa H0 H) (x:Sx D H H') (h:H0 D=none):aa H0 H':=fun b o e=>x b o (fun z=>by rw [z,h] at e;cases e) (s _ _ e)
set_option maxHeartbeats 4000000 in
theorem g6 (T:Txt K mg w):bc P w K mg base 3 "parting_road" ["left","right","first"] (KP K mg):=by
 have nL:bc P w K mg base 2 "put_in_one" ["above","a","b"] O9:=mJ T
 have eE:bc P w K mg base 1 "pairs_behind" ["left","right","pair"] (KL K mg):=fZ T
 have qO:bc P w K mg base 1 "road_back" ["trail","at"] O7:=nZ T
 have cl:=T.yg.2.1
 have na:=T.yg.2.2.1
 refine T.lS.gf bA (fun vs H Q E h=>?_) (fun f a_ A outer s H vs Q E hr h=>?_)
 ·refine hdn fun Gz9 zG9=>?_;obtain ⟨n1,n2,b,r1,r2,m1,m2,p,rfl,_⟩:=h;refine zG9 ?_
  rfl
 ·refine hdn fun Gz9 zG9=>?_;obtain ⟨n1,n2,b,r1,r2,m1,m2,p,rfl,nt,hb,po,kA,kB⟩:=h;refine zG9 ?_
  have hu:=aV hr
  have dj:=Qx (aV hr)
  have Aw:=gK hr
  have hsz:sizeLine=16777216:=QL
  have abd:=nt.g1.few
  have KQ:=nt.g2.few
  have hUl:(uw m1 m2).length<=28:=by simp [uw];omega
  refine ⟨_,(aD (aS (i:=3) bA.nd rfl (Or.inl rfl) (cM (aB (zv 2) aC)))
   (aD (aS (i:=4) bA.nd rfl (Or.inl rfl) (cM (aF jZ aC)))
   (aD (aS (i:=5) bA.nd rfl (Or.inl rfl) vJ)
   (aD (aS (i:=6) bA.nd rfl (Or.inl rfl) aH)
   (aD (eI PassesOwn.never (aP iJ (zv 6) (bO (bM K) (by rfl) T.u_ PySem.boot_len (aB (zv 3) aC)) (e_ _)) (aD (jV (bD (bC K) (zv 3) (zv 6) (fun _ _=>rfl)) (cC K (n:=2) rfl (aJ (aK (i:=7) bA.nd rfl (Or.inl rfl)) (aJ (aK (i:=8) bA.nd rfl (Or.inl rfl)) bK))))
   (aD (bW (aP (uQ Aw) (bR hu (gC K (zv 0)) (zv 7) (fun _ _=>rfl)) (bR hu (gC K (zv 1)) (zv 8) (fun _ _=>rfl)) (e_ _)) (aG (aQ (bF qO (hr.mono (by decide)) (aB (zv 4) (aB (zv 6) aC))))) aZ)
   (aD (bW (mT (bF nL (hr.mono (by decide)) (aB (zv 5) (bG (aY (aF bB (aB (zv 7) aC))) (bG (aY (aF bB (aB (zv 8) aC))) aC))))) (aG (gT PassesOwn.never rfl (mH K (bF eE (hr.mono (by decide)) (aB (zv 0) (aB (zv 1) (aI (bD (bC K) (zv 3) (zv 6) (fun _ _=>rfl)) aC))))) (cC K (n:=2) rfl (aJ (aK (i:=9) bA.nd rfl (Or.inl rfl)) (aJ (aK (i:=10) bA.nd rfl (Or.inl rfl)) bK))) (aD (dR (mF K QH QJ QK cB (zv 3) (aB (zv 10) aC)))
   (aG (dR (mF K QH QJ QK cB (zv 4) (bG (aY (aB (zv 6) (aB (zv 9) aC))) aC))))))) aZ)
   (aG (Nz (i:=6) bA.nd rfl (Or.inl rfl) aH L0))))))
   (aG (aQ jZ))))))),?_⟩
  refine aM ⟨(show 1<=sizeLine by decide),fun L hL=>?_⟩
  refine aM ⟨(show 1<=sizeLine by decide),fun W hW=>?_⟩
  refine aM fun D hD=>?_
  have s1:=aa.upd hL (.lst [V.ref b])
  have s2:=aa.upd hW (.lst [V.ai])
  have s3:=aa.upd hD (.dT [])
  have Y3:H W=none:=s1.free hW
  have vd:H D=none:=(s1.trans s2).free hD
  have Fz:L≠W:=fun z=>by rw [<- z,aA] at hW;cases hW
  have HM:L≠D:=fun z=>by rw [<- z,s2 _ _ aA] at hD;cases hD
  have HN:W≠D:=fun z=>by rw [<- z,aA] at hD;cases hD
  have b3:yj H (upd (upd (upd H L (.lst [V.ref b])) W (.lst [V.ai])) D (.dT [])) L W D [(p,none)] (uw m1 m2) (fun _=>none) 0:=by
   refine ⟨⟨[.ref b],s3 _ _ (s2 _ _ aA),jq.nil.snoc (.inl (s3 _ _ (s2 _ _ (s1 _ _ hb))))⟩,⟨[.ai],s3 _ _ aA,⟨rfl,fun i h h'=>?_⟩⟩,⟨[],aA,rfl,by simp,fun k hk=>absurd hk (by simp),fun x=>.inl ⟨rfl,rfl⟩⟩,(s1.trans s2).trans s3⟩
   obtain rfl:i=0:=by simp at h;omega
   rfl
  dsimp only
  generalize upd (upd (upd H L (.lst [V.ref b])) W (.lst [V.ai])) D (.dT [])=H3 at b3 ⊢
  clear s1 s2 s3 hW hD
  refine jH ?_
  refine aU (fun σ' H'=>∃ (v7 v8 v9 v10:Option V) (i:Nat) (st:gw) (un:List Nat) (f:AF) (n:Nat),σ'=[some (.ref n1),some (.ref n2),some (.ref b),some (.ref L),some (.ref W),some (.ref D),some (.int (i:Int)),v7,v8,v9,v10]/\yj H H' L W D st (uw m1 m2) f n/\fk r1 r2 m1 m2 i st un f n/\st[0]? =some (p,none)/\st.length=i) ?_ ?_
  ·intro nx ef
   refine ⟨fun mm σ' H'=>∃ (v7 v8 v9 v10:Option V) (i:Nat) (st:gw) (un:List Nat) (f:AF) (n:Nat),σ'=[some (.ref n1),some (.ref n2),some (.ref b),some (.ref L),some (.ref W),some (.ref D),some (.int (i:Int)),v7,v8,v9,v10]/\yj H H' L W D st (uw m1 m2) f n/\fk r1 r2 m1 m2 i st un f n/\st[0]? =some (p,none)/\i<=st.length/\mm=300 - i,
    ⟨300,none,none,none,none,0,_,[],_,0,rfl,b3,fk.start po,rfl,by simp,rfl⟩,?_⟩
   rintro mm σ' H4 ⟨v7,v8,v9,v10,i,st,un,f,n,rfl,bb,pi,h0,Kq,rfl⟩
   obtain ⟨xs,l1,l2⟩:=bb.l
   have ur:xs.length=st.length:=by have:=l2.1;simpa using this
   have XW:=bb.d.few
   have abf:=pi.few
   refine .inl ⟨_,.inl (af.of l1),_,rfl,dw (fun c=>?_) (fun c=>?_)⟩
   ·have hi:i < st.length:=by have:=Qt c;omega
    refine ⟨fun σ' H'=>∃ (v7 v8 v9 v10:Option V) (st:gw) (un:List Nat) (f:AF) (n:Nat),σ'=[some (.ref n1),some (.ref n2),some (.ref b),some (.ref L),some (.ref W),some (.ref D),some (.int ((i+1:Nat):Int)),v7,v8,v9,v10]/\yj H H' L W D st (uw m1 m2) f n/\fk r1 r2 m1 m2 (i+1) st un f n/\st[0]? =some (p,none)/\i+1<=st.length,?_,?_⟩
    ·rintro σ' H' z0;refine hdn fun Gz9 zG9=>?_;obtain ⟨v7,v8,v9,v10,st,un,f,n,rfl,p1,p2,p3,p4⟩:=z0;refine zG9 ?_
     exact ⟨300 - (i+1),by omega,v7,v8,v9,v10,i+1,st,un,f,n,rfl,p1,p2,p3,p4,rfl⟩
    have Br:st[i]? =some st[i]:=Qa hi
    have hok:=pi.ok _ (Qj hi)
    obtain ⟨q,xq,rq⟩:=l2.2 i (by omega) (by simpa using hi)
    rw [Qr] at rq
    have Bg:xs[i]? =some (.ref q):=by rw [Qa (by omega),xq]
    generalize AI:st[i]=c0 at Br hok rq
    have rq:aj H4 q [.str c0.1.1,.str c0.1.2]:=rq
    have Ct:=nt.same bb.sm
    refine ⟨_,_,.inl (af.of l1),dM Bg,tI (ae.su rq) ?_⟩
    dsimp only
    refine hdn fun Gz9 zG9=>?_;obtain ⟨dx,fs,d1,d3,d4,x0,x1,x2,x3,x4,x5,x6,x7⟩:=Ct.v1.at_;refine zG9 ?_
    refine hdn fun Gz9 zG9=>?_;obtain ⟨As,zl,Fw,HH,HK,y0,y1,y2,y3,y4,y5,y6,y7⟩:=Ct.v2.at_;refine zG9 ?_
    obtain ⟨e1,e2,e3⟩:=x5 _ hok.a
    obtain ⟨g1,g2,g3⟩:=y5 _ hok.b
    generalize hC:adr mg "Net"=C at x0 y0 cl na
    refine ⟨n1,C,dx,fs,_,rfl,x0,cl,na "marks" (by simp),x2,d3,_,rfl,e2,n2,C,As,zl,_,rfl,y0,cl,na "marks" (by simp),y2,HH,_,rfl,g2,3,3,_,_,e1,g1,by decide,rfl,rfl,e3.td,g3.td,fun bo jz=>⟨_,rfl,?_⟩⟩
    rw [W7] at jz
    refine dw (fun cc=>?_) (fun cc=>?_)
    ·have Cu:¬je r1 r2 c0.1:=fun z=>by rw [jz.mpr z] at cc;cases cc
     obtain ⟨KR,KS,KU⟩:=bb.w
     exact ⟨W,i,KR,st.map (·.2),rfl,KS,KU,pi.NK,by simpa using hi,by simp;omega,fun R us H6 s6 eR sv=>kB R us i st un f n c0 H6 (bb.sm.trans s6) eR sv pi h0 Br Cu⟩
    have me:je r1 r2 c0.1:=jz.mp (by cases bo<;>first | rfl | cases cc)
    refine f9 ?_
    refine aU (fun σ' H'=>∃ (v9 v10:Option V) (st:gw) (un:List Nat) (f:AF) (n:Nat),σ'=[some (.ref n1),some (.ref n2),some (.ref b),some (.ref L),some (.ref W),some (.ref D),some (.int (i:Int)),some (.str c0.1.1),some (.str c0.1.2),v9,v10]/\yj H H' L W D st (uw m1 m2) f n/\fk r1 r2 m1 m2 (i+1) st un f n/\st[0]? =some (p,none)/\i+1<=st.length) ?_ ?_
    ·intro vf oh
     refine ⟨(show 2<=sizeLine by decide),fun ta Y4=>⟨(show 2<=sizeLine by decide),fun tb Ph=>?_⟩⟩
     have s5:=(aa.upd Y4 (.tup [.str "left",.str c0.1.1])).trans (aa.upd Ph (.tup [.str "right",.str c0.1.2]))
     have ea:upd (upd H4 ta (.tup [.str "left",.str c0.1.1])) tb (.tup [.str "right",.str c0.1.2]) ta=some (.tup ((ay (lf c0.1.1)).map kV)):=aa.upd Ph _ _ _ aA
     have eb:upd (upd H4 ta (.tup [.str "left",.str c0.1.1])) tb (.tup [.str "right",.str c0.1.2]) tb=some (.tup ((ay (rg c0.1.2)).map kV)):=aA
     generalize upd (upd H4 ta (.tup [.str "left",.str c0.1.1])) tb (.tup [.str "right",.str c0.1.2])=H5 at s5 ea eb ⊢
     have b5:=bb.same s5
     have Y5:lf c0.1.1∈uw m1 m2:=List.mem_append.mpr (.inl (List.mem_map.mpr ⟨_,hok.a.1,rfl⟩))
     have Y6:rg c0.1.2∈uw m1 m2:=List.mem_append.mpr (.inr (List.mem_map.mpr ⟨_,hok.b.1,rfl⟩))
     have Pj:∀ {f':AF} {n':Nat} {H6:Hp},Sx D H5 H6->gm H6 D (uw m1 m2) f' n'->yj H H6 L W D st (uw m1 m2) f' n':=fun {f' n' H6} sx ab=>by
      obtain ⟨Y7,Y8,Y9⟩:=b5.l
      obtain ⟨KR,KS,KU⟩:=b5.w
      obtain ⟨k1,k2⟩:=gm.YX b5.d sx
      exact ⟨⟨Y7,sx _ _ HM Y8,Y9.keep k1⟩,⟨KR,sx _ _ HN KS,KU.keep k2 k1⟩,ab,Y0 b5.sm sx vd⟩
     refine ⟨D,ta,tb,uw m1 m2,f,n,lf c0.1.1,rg c0.1.2,rfl,b5.d,pi.E2,by omega,.inl ea,.inl eb,Y5,Y6,fun r f' H6 sx ab ac h1 h2 kp=>⟨_,rfl,ja ?_⟩,fun r r' f' H6 sx ab ac h1 h2 ne kp=>⟨_,rfl,xm ?_⟩⟩
     ·exact oh _ _ ⟨_,_,st,un,f',n,rfl,Pj sx ab,pi.skip Br me ac kp h1 h2,h0,hi⟩
     ·have b6:=Pj sx ab
      obtain ⟨Bs,HP,FA⟩:=b6.l
      have Y_:Bs.length=st.length:=by have:=FA.1;simpa using this
      obtain ⟨q6,Za,Pk⟩:=FA.2 i (by omega) (by simpa using hi)
      rw [Qr,AI] at Pk
      have pj:=pi.join nt.g1 nt.g2 Br me ac h1 h2 kp
      refine ⟨_,_,.inl (af.of HP),dM (by rw [Qa (by omega),Za]),n1,n2,q6,r1,r2,m1,m2,c0.1,rfl,nt.same b6.sm,Pk,hok,me,fun M us H7 hM s7 eM pv=>Or.inl ⟨⟨us,af.of eM⟩,?_⟩⟩
      have KW:=pv.len
      have fl:(gu r1 r2 c0.1).length<=10:=by have:=gX (nt.g1.yd hok.a).2;simpa [gu,stH] using this
      have KZ:M≠L:=fun z=>by rw [z,HP] at hM;cases hM
      have Zb:M≠W:=fun z=>by obtain ⟨ts6,Zc,_⟩:=b6.w;rw [z,Zc] at hM;cases hM
      refine fU (d8 us) (fun j σ' H'=>∃ (v9 v10:Option V),σ'=[some (.ref n1),some (.ref n2),some (.ref b),some (.ref L),some (.ref W),some (.ref D),some (.int (i:Int)),some (.str c0.1.1),some (.str c0.1.2),v9,v10]/\yj H H' L W D (st++(jy r1 r2 i c0.1).take j) (uw m1 m2) f' (n+1)/\H' M=some (.lst us)/\p_ H' us (gu r1 r2 c0.1))
       ⟨_,_,rfl,by simpa using b6.same s7,eM,pv⟩ (by rintro j σ' H' _ ⟨_,_,_,_,e,_⟩;exact af.of e) ?_ ?_
      ·rintro j σ' H8 hj ⟨w9,HQ,rfl,b8,Pn,K0⟩
       have DK:j < (gu r1 r2 c0.1).length:=by omega
       obtain ⟨cu,sb,te,u1,u2,u3,u4⟩:=K0.at_ j hj DK
       have eg:us.getD j .ai=.ref cu:=by rw [Qb,Qa hj,u1];rfl
       rw [eg]
       have sy:(jy r1 r2 i c0.1).take (j+1)=(jy r1 r2 i c0.1).take j++[((gu r1 r2 c0.1)[j].2,some (i,(gu r1 r2 c0.1)[j].1))]:=by
        unfold jy
        rw [Qs,Qq,Qa DK];rfl
       generalize (gu r1 r2 c0.1)[j]=pq at u3 u4 sy
       obtain ⟨K1,K2,Po⟩:=b8.l
       obtain ⟨K3,Pp,Pq⟩:=b8.w
       have tl:((jy r1 r2 i c0.1).take j).length<=10:=by
        have:(jy r1 r2 i c0.1).length=(gu r1 r2 c0.1).length:=by simp [jy]
        rw [List.length_take];omega
       have hx8:K1.length<=300:=by have:=Po.1;rw [Ql,Qk] at this;omega
       have ht8:K3.length<=300:=by have:=Pq.len;rw [Ql,Qk] at this;omega
       refine dS u2 ⟨.inl ⟨rfl,_,af.of K2⟩,L,K1,.ref te,rfl,rfl,K2,by omega,?_⟩
       have Pu:upd H8 L (.lst (K1++[.ref te])) W=some (.lst K3):=by rw [aE Fz.symm];exact Pp
       refine ⟨.inl ⟨rfl,_,af.of Pu⟩,(show 2<=sizeLine by decide),fun T8 Bo=>?_⟩
       obtain ⟨z1,z2,z3,z4⟩:=YY (i:=i) K2 Po Pp Pq b8.d b8.sm hL Y3 Fz HM HN u4 u3 Bo
       refine ⟨W,K3,.ref T8,rfl,rfl,aa.upd Bo _ _ _ Pu,by omega,_,_,rfl,?_,z4 _ _ KZ Zb Pn,K0.keep z2 z3⟩
       rw [sy,<- QQ]
       exact z1
      ·rintro σ' H8 ⟨w9,HQ,rfl,b8,Pn,K0⟩
       have el:us.length=(jy r1 r2 i c0.1).length:=by rw [KW];simp [jy]
       rw [el,Qo] at b8
       refine oh _ _ ⟨w9,HQ,_,_,f',n+1,rfl,b8,pj,?_,by rw [Qk];omega⟩
       rw [Qg (by omega)];exact h0
    ·rintro σ' H6 z0;refine hdn fun Gz9 zG9=>?_;obtain ⟨w9,HQ,st',G4,f',n',rfl,p1,p2,p3,p4⟩:=z0;refine zG9 ?_
     exact ⟨.int (i:Int),rfl,(i:Int),1,rfl,rfl,_,_,w9,HQ,st',G4,f',n',rfl,p1,p2,p3,p4⟩
   ·have hi:st.length=i:=by have:=of_decide_eq_false c;omega
    exact ef _ _ ⟨v7,v8,v9,v10,i,st,un,f,n,rfl,bb,pi,h0,hi⟩
  ·rintro σ' H4 z0;refine hdn fun Gz9 zG9=>?_;obtain ⟨v7,v8,v9,v10,i,st,un,f,n,rfl,bb,pi,h0,hi⟩:=z0;refine zG9 ?_
   exact kA i st un f n H4 bb.sm pi h0 hi
structure Ay (P:Program) (w:World) (H0 H:Hp) (L S:Addr) (ps:List Pr):Prop where
 l:∃ xs,H L=some (.lst xs)/\jq H xs (ps.map ay)/\ph H xs
 s:∃ az,sr P w H S az/\(∀ k,k∈az.map (·.1)↔k∈ps.map ay)/\az.length<=ps.length
 sm:aa H0 H
theorem Ay.same {P:Program} {w:World} {H0 H H':Hp} {L S:Addr} {ps:List Pr} (h:Ay P w H0 H L S ps) (s:aa H H'):Ay P w H0 H' L S ps:=by
 refine hdn fun Gz9 zG9=>?_;obtain ⟨⟨xs,a1,a2,a3⟩,⟨az,b1,b2,b3⟩,d⟩:=h;refine zG9 ?_
 exact ⟨⟨xs,s _ _ a1,a2.same s,a3.same s⟩,⟨az,b1.same s,b2,b3⟩,d.trans s⟩
def Pw (K:Q0) (mg:Str->Option Value):Sp:=fun vs H Q _=>∃ (n1 n2 b:Addr) (r1 r2:List ak) (m1 m2:List Str) (p:Pr) (G:Pr->Prop),vs=[.ref n1,.ref n2,.ref b]/\Bp K mg H n1 n2 r1 r2 m1 m2/\H b=some (.tup ((ay p).map kV))/\NL r1 r2 m1 m2 G/\G p/\
 ∀ (L:Addr) (xs:List V) (ps:List Pr) (H':Hp),H L=none->aa H H'->H' L=some (.lst xs)->jq H' xs (ps.map ay)->ph H' xs->p∈ps->(∀ q∈ps,G q/\∀ s∈stH (aq r1 q.1),fz r1 r2 q s∈ps)->ps.length<=200->Q (.ref L) H'
theorem uD {m1 m2:List Str} (g1:fj r1 m1) (g2:fj r2 m2) {ps:List Pr} (nd:ps.Nodup) (h:∀ q∈ps,mi r1 r2 m1 m2 q):ps.length<=200:=by
 have f1:=g1.few
 have f2:=g2.few
 have:=fM (m:=m1.flatMap fun a=>m2.map fun b=>((a,b):Pr)) nd fun x hx=>List.mem_flatMap.mpr ⟨x.1,(h x hx).a.1,List.mem_map.mpr ⟨x.2,(h x hx).b.1,rfl⟩⟩
 have e:(m1.flatMap fun a=>m2.map fun b=>((a,b):Pr)).length=m1.length*m2.length:=by
  rw [List.length_flatMap,mX _ m2.length]
  intro a _
  simp
 rw [e] at this
 have h3:m1.length*m2.length<=14*14:=Nat.mul_le_mul f1 f2
 omega
set_option maxHeartbeats 4000000 in
theorem nR (T:Txt K mg w):bc P w K mg base 2 "pairs_met" ["left","right","first"] (Pw K mg):=by
 have eE:bc P w K mg base 1 "pairs_behind" ["left","right","pair"] (KL K mg):=fZ T
 refine T.qG.W1 bX (fun vs H Q E h=>?_) (fun f a_ ju A outer s H vs Q E hr h=>?_)
 ·refine hdn fun Gz9 zG9=>?_;obtain ⟨n1,n2,b,r1,r2,m1,m2,p,G,rfl,_⟩:=h;refine zG9 ?_
  rfl
 ·refine hdn fun Gz9 zG9=>?_;obtain ⟨n1,n2,b,r1,r2,m1,m2,p,G,rfl,nt,hb,s_,gp,k⟩:=h;refine zG9 ?_
  have hu:=aV hr
  have dj:=Qx (aV hr)
  have DL:=vF hr
  have hsz:sizeLine=16777216:=QL
  refine ⟨_,(aD (aS (i:=3) bX.nd rfl (Or.inl rfl) (cM (aB (zv 2) aC)))
   (aD (aS (i:=4) bX.nd rfl (Or.inl rfl) (W3 P w DL ju (zv 2)))
   (aD (aS (i:=5) bX.nd rfl (Or.inl rfl) aH)
   (aD (eI PassesOwn.never (aP iJ (zv 5) (bO (bM K) (by rfl) T.u_ PySem.boot_len (aB (zv 3) aC)) (e_ _)) (aD (gT PassesOwn.never rfl (mH K (bF eE (hr.mono (by decide)) (aB (zv 0) (aB (zv 1) (aI (bD (bC K) (zv 3) (zv 5) (fun _ _=>rfl)) aC))))) (cC K (n:=2) rfl (aJ (aK (i:=6) bX.nd rfl (Or.inl rfl)) (aJ (aK (i:=7) bX.nd rfl (Or.inl rfl)) bK))) (aG (bW (aP (yU P w DL) (zv 7) (zv 4) rfl) (aD (dR (WV P w DL (zv 4) (zv 7)))
   (aG (dR (mF K QH QJ QK cB (zv 3) (aB (zv 7) aC))))) aZ)))
   (aG (Nz (i:=5) bX.nd rfl (Or.inl rfl) aH L0))))
   (aG (aQ (zv 3))))))),?_⟩
  refine aM ⟨(show 1<=sizeLine by decide),fun L hL=>?_⟩
  have s1:=aa.upd hL (.lst [V.ref b])
  refine aM fun S hS=>?_
  have s2:=aa.upd hS (jd P w S [])
  have Px:L≠S:=fun z=>by rw [<- z,aA] at hS;cases hS
  have Jv:H S=none:=s1.free hS
  refine ⟨b,ay p,rfl,.inl (s2 _ _ (s1 _ _ hb)),aA,?_⟩
  have b3:Ay P w H (upd (upd (upd H L (.lst [V.ref b])) S (jd P w S [])) S (jd P w S [(ay p,b)])) L S [p]:=by
   have sm:aa (upd H L (.lst [V.ref b])) (upd (upd (upd H L (.lst [V.ref b])) S (jd P w S [])) S (jd P w S [(ay p,b)])):=s2.put hS
   refine ⟨⟨[.ref b],sm _ _ aA,jq.nil.snoc (.inl (sm _ _ (s1 _ _ hb))),ph.nil.snoc (sm _ _ (s1 _ _ hb))⟩,⟨[(ay p,b)],⟨aA,fun q hq=>?_⟩,fun k=>by simp,by simp⟩,s1.trans sm⟩
   rw [List.mem_singleton.mp hq]
   exact .inl (sm _ _ (s1 _ _ hb))
  dsimp only
  generalize upd (upd (upd H L (.lst [V.ref b])) S (jd P w S [])) S (jd P w S [(ay p,b)])=H3 at b3 ⊢
  clear s1 s2 hS
  refine jH ?_
  refine aU (fun σ' H'=>∃ (v6 v7:Option V) (i:Nat) (ps:List Pr),σ'=[some (.ref n1),some (.ref n2),some (.ref b),some (.ref L),some (.ref S),some (.int (i:Int)),v6,v7]/\Ay P w H H' L S ps/\ps.Nodup/\p∈ps/\(∀ q∈ps,G q)/\(∀ (j:Nat) (q:Pr),j < i->ps[j]? =some q->∀ s∈stH (aq r1 q.1),fz r1 r2 q s∈ps)/\ps.length=i) ?_ ?_
  ·intro nx ef
   refine ⟨fun mm σ' H'=>∃ (v6 v7:Option V) (i:Nat) (ps:List Pr),σ'=[some (.ref n1),some (.ref n2),some (.ref b),some (.ref L),some (.ref S),some (.int (i:Int)),v6,v7]/\Ay P w H H' L S ps/\ps.Nodup/\p∈ps/\(∀ q∈ps,G q)/\(∀ (j:Nat) (q:Pr),j < i->ps[j]? =some q->∀ s∈stH (aq r1 q.1),fz r1 r2 q s∈ps)/\i<=ps.length/\mm=300 - i,
    ⟨300,none,none,0,_,rfl,b3,by simp,by simp,fun q hq=>by rw [List.mem_singleton.mp hq];exact gp,fun j q hj=>absurd hj (by omega),by simp,rfl⟩,?_⟩
   rintro mm σ' H4 ⟨v6,v7,i,ps,rfl,bb,nd,hp,hG,kh,Kq,rfl⟩
   obtain ⟨xs,l1,l2,l3⟩:=bb.l
   have ur:xs.length=ps.length:=by have:=l2.1;simpa using this
   have few:=uD nt.g1 nt.g2 nd fun q hq=>(s_ q (hG q hq)).1
   refine .inl ⟨_,.inl (af.of l1),_,rfl,dw (fun c=>?_) (fun c=>?_)⟩
   ·have hi:i < ps.length:=by have:=Qt c;omega
    refine ⟨fun σ' H'=>∃ (v6 v7:Option V) (ps:List Pr),σ'=[some (.ref n1),some (.ref n2),some (.ref b),some (.ref L),some (.ref S),some (.int ((i+1:Nat):Int)),v6,v7]/\Ay P w H H' L S ps/\ps.Nodup/\p∈ps/\(∀ q∈ps,G q)/\(∀ (j:Nat) (q:Pr),j < i+1->ps[j]? =some q->∀ s∈stH (aq r1 q.1),fz r1 r2 q s∈ps)/\i+1<=ps.length,?_,?_⟩
    ·rintro σ' H' z0;refine hdn fun Gz9 zG9=>?_;obtain ⟨v6,v7,ps,rfl,p1,p2,p3,p4,p5,p6⟩:=z0;refine zG9 ?_
     exact ⟨300 - (i+1),by omega,v6,v7,i+1,ps,rfl,p1,p2,p3,p4,p5,p6,rfl⟩
    have Br:ps[i]? =some ps[i]:=Qa hi
    obtain ⟨hok,me,Py⟩:=s_ _ (hG _ (Qj hi))
    obtain ⟨q,xq,rq⟩:=l2.2 i (by omega) (by simpa using hi)
    rw [Qr] at rq
    have Bg:xs[i]? =some (.ref q):=by rw [Qa (by omega),xq]
    generalize ps[i]=c0 at Br hok me Py rq
    refine aU (fun σ' H'=>∃ (v6 v7:Option V) (ps':List Pr),σ'=[some (.ref n1),some (.ref n2),some (.ref b),some (.ref L),some (.ref S),some (.int (i:Int)),v6,v7]/\Ay P w H H' L S ps'/\ps'.Nodup/\p∈ps'/\(∀ q∈ps',G q)/\(∀ (j:Nat) (q:Pr),j < i+1->ps'[j]? =some q->∀ s∈stH (aq r1 q.1),fz r1 r2 q s∈ps')/\i < ps'.length) ?_ ?_
    ·intro vf oh
     refine ⟨_,_,.inl (af.of l1),dM Bg,n1,n2,q,r1,r2,m1,m2,c0,rfl,nt.same bb.sm,rq,hok,me,fun M us H5 hM s5 eM pv=>Or.inl ⟨⟨us,af.of eM⟩,?_⟩⟩
     have KW:=pv.len
     have KZ:M≠L:=fun z=>by rw [z,l1] at hM;cases hM
     have Zd:M≠S:=fun z=>by obtain ⟨az,sa,_⟩:=bb.s;rw [z,sa.at_] at hM;cases hM
     refine fU (d8 us) (fun j σ' H'=>∃ (v6 v7:Option V) (ps':List Pr),σ'=[some (.ref n1),some (.ref n2),some (.ref b),some (.ref L),some (.ref S),some (.int (i:Int)),v6,v7]/\Ay P w H H' L S ps'/\ps'.Nodup/\(∀ q∈ps',G q)/\(∀ (m:Nat) (q:Pr),ps[m]? =some q->ps'[m]? =some q)/\(∀ q∈((gu r1 r2 c0).take j),q.2∈ps')/\H' M=some (.lst us)/\p_ H' us (gu r1 r2 c0))
      ⟨_,_,ps,rfl,bb.same s5,nd,hG,fun m q h=>h,fun q hq=>absurd hq (by simp),eM,pv⟩ (by rintro j σ' H' _ ⟨_,_,_,_,_,_,_,_,_,e,_⟩;exact af.of e) ?_ ?_
     ·rintro j σ' H6 hj z0;refine hdn fun Gz9 zG9=>?_;obtain ⟨w6,w7,ps',rfl,b6,FD,G6,DM,FE,K4,HR⟩:=z0;refine zG9 ?_
      have DK:j < (gu r1 r2 c0).length:=by omega
      obtain ⟨cu,sb,te,u1,u2,u3,u4⟩:=HR.at_ j hj DK
      have eg:us.getD j .ai=.ref cu:=by rw [Qb,Qa hj,u1];rfl
      rw [eg]
      have sy:(gu r1 r2 c0).take (j+1)=(gu r1 r2 c0).take j++[(gu r1 r2 c0)[j]]:=by rw [Qs,Qa DK];rfl
      have Pz:G (gu r1 r2 c0)[j].2:=by
       obtain ⟨s,hs,e⟩:=List.mem_map.mp (Qj DK:(gu r1 r2 c0)[j]∈gu r1 r2 c0)
       rw [<- e];exact Py s hs
      generalize (gu r1 r2 c0)[j]=pq at u3 u4 sy Pz
      obtain ⟨Bs,HP,FA,Ze⟩:=b6.l
      obtain ⟨az,sa,sk,sl⟩:=b6.s
      have Y_:Bs.length=ps'.length:=by have:=FA.1;simpa using this
      have abj:=uD nt.g1 nt.g2 FD fun q hq=>(s_ q (G6 q hq)).1
      refine dS u2 ⟨te,S,ay pq.2,az,rfl,rfl,.inl u4,sa,fun bo jz=>⟨_,rfl,dw (fun c=>?_) (fun c=>?_)⟩⟩
      ·have PB:ay pq.2 ∉ az.map (·.1):=fun hm=>by rw [jz.mpr hm] at c;cases c
       have Dg:pq.2 ∉ ps':=fun hm=>PB ((sk _).mpr (l8.mpr hm))
       refine ⟨S,rfl,⟨az,sa⟩,te,_,az,rfl,.inl u4,sa,by omega,fun h=>absurd h PB,fun _=>?_⟩
       have k1:∀ b ys,aj H6 b ys->aj (upd H6 S (jd P w S (az++[(ay pq.2,te)]))) b ys:=fun b ys h=>h.put sa.at_ (fun _ z=>nomatch z) (fun _ _ z=>nomatch z)
       have t1:Tk H6 (upd H6 S (jd P w S (az++[(ay pq.2,te)]))):=(Tk.refl).set sa.at_ fun _ z=>nomatch z
       have FH:upd H6 S (jd P w S (az++[(ay pq.2,te)])) L=some (.lst Bs):=by rw [aE Px];exact HP
       have sS:upd H6 S (jd P w S (az++[(ay pq.2,te)])) S=some (jd P w S (az++[(ay pq.2,te)])):=aA
       have PF:aa H (upd H6 S (jd P w S (az++[(ay pq.2,te)]))):=b6.sm.put Jv
       have PJ:upd H6 S (jd P w S (az++[(ay pq.2,te)])) M=some (.lst us):=by rw [aE Zd];exact K4
       generalize upd H6 S (jd P w S (az++[(ay pq.2,te)]))=H7 at k1 t1 FH sS PF PJ ⊢
       have k2:∀ b ys,aj H7 b ys->aj (upd H7 L (.lst (Bs++[.ref te]))) b ys:=fun b ys h=>h.put FH (fun _ z=>nomatch z) (fun _ _ z=>nomatch z)
       have t2:Tk H7 (upd H7 L (.lst (Bs++[.ref te]))):=(Tk.refl).set FH fun _ z=>nomatch z
       have kk:∀ b ys,aj H6 b ys->aj (upd H7 L (.lst (Bs++[.ref te]))) b ys:=fun b ys h=>k2 _ _ (k1 _ _ h)
       refine ⟨.inl ⟨rfl,_,af.of FH⟩,L,Bs,.ref te,rfl,rfl,FH,by omega,_,_,ps'++[pq.2],rfl,⟨⟨_,aA,?_,(Ze.tk (t1.trans t2)).snoc ((t1.trans t2) _ _ u4)⟩,⟨az++[(ay pq.2,te)],⟨by rw [aE Px.symm];exact sS,fun q hq=>?_⟩,fun kx=>?_,by simpa using sl⟩,PF.put hL⟩,?_,fun q hq=>?_,fun m q h=>?_,fun q hq=>?_,by rw [aE KZ];exact PJ,HR.keep (t1.trans t2) kk⟩
       ·rw [Qm]
        exact (FA.keep kk).snoc (kk _ _ (.inl u4))
       ·rcases List.mem_append.mp hq with hq | hq
        ·exact kk _ _ (sa.ks q hq)
        ·rw [List.mem_singleton.mp hq];exact kk _ _ (.inl u4)
       ·rw [Qm,Qm,List.mem_append,List.mem_append,sk];rfl
       ·rw [List.nodup_append]
        exact ⟨FD,by simp,fun a ha b hb e=>Dg (by rw [<- List.mem_singleton.mp hb,<- e];exact ha)⟩
       ·rcases List.mem_append.mp hq with hq | hq
        ·exact G6 q hq
        ·rw [List.mem_singleton.mp hq];exact Pz
       ·have:=DM m q h
        have hm:=(List.getElem?_eq_some_iff.mp this).1
        rw [Qg hm];exact this
       ·rw [sy] at hq
        rcases List.mem_append.mp hq with hq | hq
        ·exact List.mem_append.mpr (.inl (FE q hq))
        ·rw [List.mem_singleton.mp hq];exact List.mem_append.mpr (.inr (by simp))
      ·have jb:pq.2∈ps':=l8.mp ((sk _).mp (jz.mp (by cases bo<;>first | rfl | cases c)))
       refine ⟨_,_,ps',rfl,b6,FD,G6,DM,fun q hq=>?_,K4,HR⟩
       rw [sy] at hq
       rcases List.mem_append.mp hq with hq | hq
       ·exact FE q hq
       ·rw [List.mem_singleton.mp hq];exact jb
     ·rintro σ' H6 z0;refine hdn fun Gz9 zG9=>?_;obtain ⟨w6,w7,ps',rfl,b6,FD,G6,DM,FE,K4,HR⟩:=z0;refine zG9 ?_
      rw [KW,Qo] at FE
      have sub:∀ q∈ps,q∈ps':=fun q hq=>by
       obtain ⟨m,hm,e⟩:=Qi hq
       exact QC (DM m q (by rw [Qa hm,e]))
      have dh:i < ps'.length:=(List.getElem?_eq_some_iff.mp (DM i c0 Br)).1
      refine oh _ _ ⟨w6,w7,ps',rfl,b6,FD,sub p hp,G6,fun j q hj hq s hs=>?_,dh⟩
      have Dz:ps[j]? =some q:=by
       have PK:j < ps.length:=by omega
       have:=DM j _ (Qa PK)
       rw [hq] at this
       rw [Qa PK];exact this.symm
      by_cases Dr:j=i
      ·subst Dr
       rw [Br] at Dz;cases Dz
       exact FE (s,fz r1 r2 c0 s) (List.mem_map.mpr ⟨s,hs,rfl⟩)
      ·exact sub _ (kh j q (by omega) Dz s hs)
    ·rintro σ' H6 z0;refine hdn fun Gz9 zG9=>?_;obtain ⟨w6,w7,ps',rfl,p1,p2,p3,p4,p5,p6⟩:=z0;refine zG9 ?_
     exact ⟨.int (i:Int),rfl,(i:Int),1,rfl,rfl,w6,w7,ps',rfl,p1,p2,p3,p4,p5,p6⟩
   ·have hi:ps.length=i:=by have:=of_decide_eq_false c;omega
    exact ef _ _ ⟨v6,v7,i,ps,rfl,bb,nd,hp,hG,kh,hi⟩
  ·rintro σ' H4 z0;refine hdn fun Gz9 zG9=>?_;obtain ⟨v6,v7,i,ps,rfl,bb,nd,hp,hG,kh,hi⟩:=z0;refine zG9 ?_
   obtain ⟨xs,l1,l2,l3⟩:=bb.l
   refine k L xs ps H4 hL bb.sm l1 l2 l3 hp (fun q hq=>⟨hG q hq,fun s hs=>?_⟩) (uD nt.g1 nt.g2 nd fun q hq=>(s_ q (hG q hq)).1)
   obtain ⟨m,hm,e⟩:=Qi hq
   exact kh m q (by omega) (by rw [Qa hm,e]) s hs
def PL (mg:Str->Option Value):Sp:=fun vs H Q _=>∃ (a b:Addr) (xs ys:List V) (r1 r2:List ak) (m1 m2 ws jh:List Str) (x y:Str),vs=[.ref a,.str x,.ref b,.str y]/\RT H a xs r1 m1 ws/\RT H b ys r2 m2 jh/\(∀ z∈ws,Wd z)/\(∀ z∈jh,Wd z)/\Kn mg H "FROM" [.str "from"]/\Kn mg H "TO" [.str "to"]/\x∈m1/\y∈m2/\
 (∀ (r L:Addr) (xs:List V) (ps:List Pr) (i:Nat) (st:gw) (un:List Nat) (f:AF) (n:Nat) (H':Hp),H L=none->aa H H'->H' r=some (.tup [.str "alike",.ref L])->H' L=some (.lst xs)->jq H' xs (ps.map ay)->ph H' xs->(endOf r1 x,endOf r2 y)∈ps->(∀ q∈ps,mi r1 r2 m1 m2 q/\je r1 r2 q/\∀ s∈stH (aq r1 q.1),fz r1 r2 q s∈ps)->ps.length<=200->fk r1 r2 m1 m2 i st un f n->st[0]? =some ((endOf r1 x,endOf r2 y),none)->st.length=i->Q (.ref r) H')/\
 ∀ (r R:Addr) (us:List V) (i:Nat) (st:gw) (un:List Nat) (f:AF) (n:Nat) (c:Pr×Option (Nat×List Str)) (H':Hp),aa H H'->H' r=some (.tup [.str "unlike",.ref R])->H' R=some (.tup us)->SV H' us (h_ (st.map (·.2)) i i)->fk r1 r2 m1 m2 i st un f n->st[0]? =some ((endOf r1 x,endOf r2 y),none)->st[i]? =some c->¬je r1 r2 c.1->Q (.ref r) H'
set_option maxHeartbeats 1000000 in
theorem yW (T:Txt K mg w):bc P w K mg base 6 "alike" ["T","x","S","y"] (PL mg):=by
 have FI:EH P w K mg base 4 "Net" (adr mg "Net") ["self","T"] (Kr mg):=zU T
 have dZ:bc P w K mg base 3 "parting_road" ["left","right","first"] (KP K mg):=g6 T
 have rN:bc P w K mg base 2 "pairs_met" ["left","right","first"] (Pw K mg):=nR T
 have cl:=T.yg.2.1
 have na:=T.yg.2.2.1
 refine T.XG.gf iW (fun vs H Q E h=>?_) (fun f a_ A outer s H vs Q E hr h=>?_)
 ·refine hdn fun Gz9 zG9=>?_;obtain ⟨a,b,xs,ys,r1,r2,m1,m2,ws,jh,x,y,rfl,_⟩:=h;refine zG9 ?_
  rfl
 ·refine hdn fun Gz9 zG9=>?_;obtain ⟨a,b,xs,ys,r1,r2,m1,m2,ws,jh,x,y,rfl,rt,eu,hw,oi,kf,kt,hx,hy,kA,kB⟩:=h;refine zG9 ?_
  have hu:=aV hr
  have dj:=Qx (aV hr)
  refine ⟨_,(aD (qJ (i:=4) (j:=5) rfl iW.nd rfl rfl (by decide) rfl rfl (aN (oJ FI (hr.mono (by decide)) (aB (zv 0) aC)) (aN (oJ FI (hr.mono (by decide)) (aB (zv 2) aC)) aC)) rfl)
   (aD (aS (i:=6) iW.nd rfl (Or.inl rfl) (aY (aI (bR hu (gC K (zv 4)) (zv 1) (fun _ _=>rfl)) (aI (bR hu (gC K (zv 5)) (zv 3) (fun _ _=>rfl)) aC))))
   (aD (aS (i:=7) iW.nd rfl (Or.inl rfl) (bF dZ (hr.mono (by decide)) (aB (zv 4) (aB (zv 5) (aB (zv 6) aC)))))
   (aD (bW (aP tZ (zv 7) jZ (e_ _)) (aG (aQ (aY (aF bB (aN (bF rN (hr.mono (by decide)) (aB (zv 4) (aB (zv 5) (aB (zv 6) aC)))) aC))))) aZ)
   (aG (aQ (aY (aF bB (aB (zv 7) aC))))))))),?_⟩
  refine fun n dn hn Ca ne=>?_
  have s0:aa H (upd (upd H dn (.own n)) n (.ins (adr mg "Net") dn [])):=(aa.upd Ca _).trans (aa.upd (by rw [aE ne.symm];exact hn) _)
  refine ⟨n,dn,a,xs,r1,m1,ws,rfl,aA,rt.tk s0.ts,hw,kf.same s0,kt.same s0,fun H2 K5 sx=>⟨rfl,?_⟩⟩
  have s2:aa H H2:=fun b o e=>sx b o (fun z=>by rw [z,hn] at e;cases e) (s0 b o e)
  have nv:=K5.GZ (K:=K) (rt.ia hw)
  refine fun n' Cv wu K6 ne'=>?_
  have Az:aa H2 (upd (upd H2 Cv (.own n')) n' (.ins (adr mg "Net") Cv [])):=(aa.upd K6 _).trans (aa.upd (by rw [aE ne'.symm];exact wu) _)
  refine ⟨n',Cv,b,ys,r2,m2,jh,rfl,aA,eu.tk (s2.trans Az).ts,oi,kf.same (s2.trans Az),kt.same (s2.trans Az),fun H3 K7 Cn=>⟨rfl,?_⟩⟩
  have s3:aa H2 H3:=fun b o e=>Cn b o (fun z=>by rw [z,wu] at e;cases e) (Az b o e)
  have K8:=K7.GZ (K:=K) (eu.ia oi)
  have K9:=s2.trans s3
  have nt:Bp K mg H3 n n' r1 r2 m1 m2:=⟨nv.same s3,K8,rt.ia hw,eu.ia oi⟩
  have po:mi r1 r2 m1 m2 (endOf r1 x,endOf r2 y):=⟨nt.g1.stay hx,nt.g2.stay hy⟩
  refine hdn fun Gz9 zG9=>?_;obtain ⟨dx,fs,d1,d3,d4,x0,x1,x2,x3,x4,x5,x6,x7⟩:=nt.v1.at_;refine zG9 ?_
  refine hdn fun Gz9 zG9=>?_;obtain ⟨As,zl,Fw,HH,HK,y0,y1,y2,y3,y4,y5,y6,y7⟩:=nt.v2.at_;refine zG9 ?_
  refine ⟨_,_,rfl,?_⟩
  dsimp only
  refine aM ⟨n,_,dx,fs,_,rfl,x0,cl,na "rows" (by simp),x1,d1,_,rfl,x4 x hx,n',_,As,zl,_,rfl,y0,cl,na "rows" (by simp),y1,Fw,_,rfl,y4 y hy,(show 2<=sizeLine by decide),fun q hq=>?_⟩
  have s4:=aa.upd hq (.tup [.str (endOf r1 x),.str (endOf r2 y)])
  have e4:upd H3 q (.tup [.str (endOf r1 x),.str (endOf r2 y)]) q=some (.tup ((ay (endOf r1 x,endOf r2 y)).map kV)):=aA
  dsimp only
  generalize upd H3 q (.tup [.str (endOf r1 x),.str (endOf r2 y)])=H4 at s4 e4 ⊢
  have Ct:=nt.same s4
  have DN:=K9.trans s4
  refine aM ⟨n,n',q,r1,r2,m1,m2,_,rfl,Ct,e4,po,fun i st un f0 nn H5 s5 pi h0 hl=>?_,fun R us i st un f0 nn c H5 s5 eR sv pi h0 hc Cu=>?_⟩
  ·refine ⟨_,rfl,xm ?_⟩
   have s_:=pi.NN nt.g1 nt.g2 hl
   refine ⟨n,n',q,r1,r2,m1,m2,_,_,rfl,Ct.same s5,s5 _ _ e4,s_,⟨po,pi.done hl h0⟩,fun L B4 ps H6 hL s6 eL ks tv hf DG gb=>⟨(show 2<=sizeLine by decide),fun r hr=>?_⟩⟩
   have s7:=aa.upd hr (.tup [.str "alike",.ref L])
   have Zf:=DN.trans (s5.trans (s6.trans s7))
   refine kA r L B4 ps i st un f0 nn _ ((DN.trans s5).free hL) Zf aA (s7 _ _ eL) (ks.same s7) (tv.same s7) hf (fun p hp=>?_) gb pi h0 hl
   obtain ⟨g1,g2⟩:=DG p hp
   exact ⟨(s_ p g1).1,(s_ p g1).2.1,g2⟩
  ·refine ⟨_,rfl,ja ⟨(show 2<=sizeLine by decide),fun r hr=>?_⟩⟩
   have s7:=aa.upd hr (.tup [.str "unlike",.ref R])
   exact kB r R us i st un f0 nn c _ (DN.trans (s5.trans s7)) aA (s7 _ _ eR) (sv.same s7) pi h0 hc Cu
def HS (r1 r2:List ak) (m1 m2:List Str) (ji:List (List Key)) (p:Pr):Prop:=mi r1 r2 m1 m2 p/\je r1 r2 p/\∀ s∈stH (aq r1 p.1),ay (fz r1 r2 p s)∈ji
def K_ (r1 r2:List ak) (m1 m2:List Str) (f:Pr) (ps:List Pr):Prop:=f∈ps/\∀ p∈ps,HS r1 r2 m1 m2 (ps.map ay) p
theorem kP {rows:List ak} (g:fj rows ns) {e:Str} (he:e∈ns):(aq rows e).br="as"↔¬jm rows ns e:=by
 have h0:=(g.nm e).mpr he
 obtain ⟨r,hr,rfl⟩:=List.mem_map.mp h0
 have hok:(aq rows r.1).ok ns:=by
  obtain ⟨_,_,_,_,rt,_⟩:=g
  rw [cR rt.jw hr];exact (rt.ok r hr).2
 rw [sY hok,<- g.ai]
 constructor
 ·intro h hm
  obtain ⟨r',gh,e'⟩:=List.mem_map.mp hm
  obtain ⟨q1,q2⟩:=List.mem_filter.mp gh
  have:=cR g.jw q1
  rw [e'] at this
  rw [this,q2] at h;cases h
 ·intro h
  cases hx:(aq rows r.1).nx.isNone with
  | false=>rfl
  | true=>
   refine absurd (List.mem_map.mpr ⟨r,List.mem_filter.mpr ⟨hr,?_⟩,rfl⟩) h
   rw [<- cR g.jw hr];exact hx
def PM:Sp:=fun vs H Q _=>∃ (a b p:Addr) (xs ys ps:List V) (r1 r2:List ak) (m1 m2 ws jh:List Str) (x y:Str) (ts:List Pr),vs=[.ref a,.str x,.ref b,.str y,.ref p]/\RT H a xs r1 m1 ws/\RT H b ys r2 m2 jh/\(∀ z∈ws,Wd z)/\(∀ z∈jh,Wd z)/\x∈m1/\y∈m2/\H p=some (.lst ps)/\jq H ps (ts.map ay)/\ph H ps/\
 ∀ (bo:Bool) (H':Hp),aa H H'->(bo=true↔K_ r1 r2 m1 m2 (endOf r1 x,endOf r2 y) ts)->Q (.bl bo) H'
set_option maxHeartbeats 4000000 in
theorem kH (T:Txt K mg w):bc P w K mg base 4 "_law_is_paper" ["_law_told","_law_name","_law_other","_law_twin_name","_law_paper"] PM:=by
 have bH:bc P w K mg base 1 "_law_row_here" ["_law_told","_law_name"] Fg:=cK T
 have gJ:bc P w K mg base 3 "_law_on" ["_law_told","_law_name"] Kg:=mW T
 refine T.lN.gf bI (fun vs H Q E h=>?_) (fun f a_ A outer s H vs Q E hr h=>?_)
 ·refine hdn fun Gz9 zG9=>?_;obtain ⟨a,b,p,xs,ys,ps,r1,r2,m1,m2,ws,jh,x,y,ts,rfl,_⟩:=h;refine zG9 ?_
  rfl
 ·refine hdn fun Gz9 zG9=>?_;obtain ⟨a,b,p,xs,ys,ps,r1,r2,m1,m2,ws,jh,x,y,ts,rfl,rt,eu,hw,oi,hx,hy,hp,ks,Zg,k⟩:=h;refine zG9 ?_
  have hu:=aV hr
  have dj:=Qx (aV hr)
  have DL:=vF hr
  have Aw:=gK hr
  have hsz:sizeLine=16777216:=QL
  have gb:ps.length=ts.length:=by have:=ks.1;simpa using this
  have vg:=rt.ia hw
  have ia:=eu.ia oi
  obtain ⟨rs,g,nm,rl,o_⟩:=rt.good hw
  have hm:∀ z,z∈rs.map (·.1)↔z∈m1:=fun z=>by rw [nm];exact rt.nm.mem_iff
  obtain ⟨jo,g2,Lc,HU,Ld⟩:=eu.good oi
  have hm2:∀ z,z∈jo.map (·.1)↔z∈m2:=fun z=>by rw [Lc];exact eu.nm.mem_iff
  have gl:=g.len
  have gl2:=g2.len
  refine ⟨_,(aD (bW (rB (mT (bO h9 (by rfl) T.dF PyProof.Rows.boot_isinstance (aB (zv 4) (aB (nN (v:=.ty "list") (by rfl) T.tJ PyProof.Rows.boot_list rfl) aC))))) (aG (aQ gP)) aZ)
   (aD (bW (aP (pK K DL) (aY (aN (bF bH (hr.mono (by decide)) (aB (zv 0) (aB (zv 1) aC))) (aN (bF bH (hr.mono (by decide)) (aB (zv 2) (aB (zv 3) aC))) aC))) (zv 4) rfl) (aG (aQ gP)) aZ)
   (aD (qJ (i:=5) (j:=6) rfl bI.nd rfl rfl (by decide) rfl rfl (aN (bV (dL rfl) (by rfl) T.oU PyProof.Rows.boot_dict (aB (zv 0) aC)) (aN (bV (dL rfl) (by rfl) T.oU PyProof.Rows.boot_dict (aB (zv 2) aC)) aC)) rfl)
   (aD (gT PassesOwn.never rfl (mH K (zv 4)) (aK (i:=7) bI.nd rfl (Or.inl rfl)) (aD (bW (Et (rB (mT (bO h9 (by rfl) T.dF PyProof.Rows.boot_isinstance (aB (zv 7) (aB (nN (v:=.ty "tuple") (by rfl) T.dH QG rfl) aC))))) (pE (aP (fJ dj) (bO (bM K) (by rfl) T.u_ PySem.boot_len (aB (zv 7) aC)) aH (e_ _)))).pt (aG (aQ gP)) aZ)
   (aD (jV (zv 7) (cC K (n:=2) rfl (aJ (aK (i:=8) bI.nd rfl (Or.inl rfl)) (aJ (aK (i:=9) bI.nd rfl (Or.inl rfl)) bK))))
   (aD (bW (Et (aP (jB hu) (zv 8) (zv 5) rfl) (pE (aP (jB hu) (zv 9) (zv 6) rfl))).pt (aG (aQ gP)) aZ)
   (aD (bW (Et (aP (oH K) bB (aY (aI (bD (bC K) (bR hu (zv 5) (zv 8) (fun _ _=>rfl)) aH (fun _ _=>rfl)) (aI (bD (bC K) (bR hu (zv 6) (zv 9) (fun _ _=>rfl)) aH (fun _ _=>rfl)) aC))) rfl) (pE (aP (fJ dj) (bD (bC K) (bR hu (zv 5) (zv 8) (fun _ _=>rfl)) aH (fun _ _=>rfl)) (bD (bC K) (bR hu (zv 6) (zv 9) (fun _ _=>rfl)) aH (fun _ _=>rfl)) (e_ _)))).pt (aG (aQ gP)) aZ)
   (aD (qJ (i:=10) (j:=11) rfl bI.nd rfl rfl (by decide) rfl rfl (aN (bF gJ (hr.mono (by decide)) (aB (zv 0) (aB (zv 8) aC))) (aN (bF gJ (hr.mono (by decide)) (aB (zv 2) (aB (zv 9) aC))) aC)) rfl)
   (aD (bW (aP (uM K Aw) (kC (own:=["_law_one"]) (idx:=[]) (N':=["_law_one"]) (cN (bg cH) (["_law_told","_law_name","_law_other","_law_twin_name","_law_paper","_law_rows","_law_others","_law_pair","_law_a","_law_b","_law_ones","_law_twos","_law_one","_law_two_here"]:List Str) (by decide+kernel)) rfl (mH K (zv 10)) (fun _ _ _ _ _ _=>(aK (i:=0) (show List.Nodup (["_law_one"]:List Str) by decide+kernel) rfl (Or.inl rfl))) (fun _ _ _ _ _ _=>cV) (fun _ _ _ _ _ _=>(bD (bC K) (zv 0) aH (fun _ _=>rfl)))) (kC (own:=["_law_one"]) (idx:=[]) (N':=["_law_one"]) (cN (bg cH) (["_law_told","_law_name","_law_other","_law_twin_name","_law_paper","_law_rows","_law_others","_law_pair","_law_a","_law_b","_law_ones","_law_twos","_law_one","_law_two_here"]:List Str) (by decide+kernel)) rfl (mH K (zv 11)) (fun _ _ _ _ _ _=>(aK (i:=0) (show List.Nodup (["_law_one"]:List Str) by decide+kernel) rfl (Or.inl rfl))) (fun _ _ _ _ _ _=>cV) (fun _ _ _ _ _ _=>(bD (bC K) (zv 0) aH (fun _ _=>rfl)))) (e_ _)) (aG (aQ gP)) aZ)
   (aG (gT PassesOwn.never rfl (nU K (by rfl) T.JT (aB (zv 10) (aB (zv 11) aC))) (cC K (n:=2) rfl (aJ (aK (i:=12) bI.nd rfl (Or.inl rfl)) (aJ (aK (i:=13) bI.nd rfl (Or.inl rfl)) bK))) (aG (bW (aP (pK K DL) (aY (aI (bD (bC K) (zv 12) aH (fun _ _=>rfl)) (aI (bD (bC K) (zv 13) aH (fun _ _=>rfl)) aC))) (zv 4) rfl) (aG (aQ gP)) aZ)))))))))))
   (aG (aQ gP)))))),?_⟩
  generalize yk:((endOf r1 x,endOf r2 y):Pr)=fst at k
  have Cw:∀ {H'},aa H H'->¬K_ r1 r2 m1 m2 fst ts->Q (.bl false) H':=fun {H'} s' h=>k false H' s' (WU h)
  have ty:∀ {H'},aa H H'->AX H' (.ref p)=some "list":=fun {H'} s'=>by show (match H' p with | some (.lst _)=>some "list" | some (.tup _)=>some "tuple" | some (.dK _)=>some "dict" | _=>none)=_;rw [s' _ _ hp]
  refine ⟨by decide,"list",ty (aa.refl _),_,rfl,ja ?_⟩
  refine ⟨a,xs,rs,_,_,x,rfl,g,(hm x).mpr hx,fun H1 s1=>?_⟩
  refine ⟨b,ys,jo,_,_,y,rfl,g2.ts s1.ts,(hm2 y).mpr hy,fun H2 s2=>⟨(show 2<=sizeLine by decide),fun q hq=>?_⟩⟩
  have s3:=(s1.trans s2).trans (aa.upd hq (.tup [.str (fc (gi r1) rs.length x),.str (fc (gi r2) jo.length y)]))
  have eq3:upd H2 q (.tup [.str (fc (gi r1) rs.length x),.str (fc (gi r2) jo.length y)]) q=some (.tup ((ay fst).map kV)):=by rw [<- yk,rl,HU];exact aA
  generalize upd H2 q (.tup [.str (fc (gi r1) rs.length x),.str (fc (gi r2) jo.length y)])=H3 at s3 eq3 ⊢
  refine ⟨q,p,ay fst,ps,_,rfl,rfl,.inl eq3,.inl (af.of (s3 _ _ hp)),ks.same s3,fun r hr=>⟨_,rfl,dw (fun c=>?_) (fun c=>?_)⟩⟩
  ·refine Cw s3 fun h=>?_
   have:=hr.mpr (l8.mpr h.1)
   rw [this] at c;cases c
  have jb:fst∈ts:=l8.mp (hr.mp (by cases r<;>first | rfl | cases c))
  refine f9 ?_
  refine ⟨a,xs,bf rs,rfl,(g.ts s3.ts).at_,(g.ts s3.ts).ps,(by simp;omega),fun d1 DB=>?_⟩
  have s4:=s3.trans (aa.upd DB (.dK (dictOf (bf rs))))
  have e4:upd H3 d1 (.dK (dictOf (bf rs))) d1=some (.dK (dictOf (bf rs))):=aA
  generalize upd H3 d1 (.dK (dictOf (bf rs)))=H4 at s4 e4 ⊢
  refine ⟨b,ys,bf jo,rfl,(g2.ts s4.ts).at_,(g2.ts s4.ts).ps,(by simp;omega),fun d2 hd2=>?_⟩
  have s5:=s4.trans (aa.upd hd2 (.dK (dictOf (bf jo))))
  have e5:upd H4 d2 (.dK (dictOf (bf jo))) d2=some (.dK (dictOf (bf jo))):=aA
  have PN:=aa.upd hd2 (.dK (dictOf (bf jo))) _ _ e4
  generalize upd H4 d2 (.dK (dictOf (bf jo)))=H5 at s5 e5 PN ⊢
  refine ⟨_,_,rfl,?_⟩
  dsimp only
  refine aU (fun σ' H'=>aa H H'/\∀ t∈ts,HS r1 r2 m1 m2 (ts.map ay) t) ?_ ?_
  ·intro nx ef
   refine Or.inl ⟨⟨ps,af.of (s5 _ _ hp)⟩,?_⟩
   refine fU (d8 ps) (fun i σ' H'=>∃ (v7 v8 v9 v10 v11 gq gr:Option V),σ'=[some (.ref a),some (.str x),some (.ref b),some (.str y),some (.ref p),some (.ref d1),some (.ref d2),v7,v8,v9,v10,v11,gq,gr]/\aa H5 H'/\∀ t∈ts.take i,HS r1 r2 m1 m2 (ts.map ay) t)
    ⟨none,none,none,none,none,none,none,rfl,aa.refl _,fun t ht=>absurd ht (by simp)⟩ (by rintro i σ' H' _ ⟨_,_,_,_,_,_,_,_,s,_⟩;exact af.of (s _ _ (s5 _ _ hp))) ?_ ?_
   ·rintro i σ' H6 hi z0;refine hdn fun Gz9 zG9=>?_;obtain ⟨v7,v8,v9,v10,v11,gq,gr,rfl,q1,q2⟩:=z0;refine zG9 ?_
    have hit:i < ts.length:=by omega
    have s6:=s5.trans q1
    obtain ⟨c,f1,f2⟩:=(ks.same s6).2 i hi (by simpa using hit)
    rw [Qr] at f2
    have eg:ps.getD i .ai=.ref c:=by rw [Qb,Qa hi,f1];rfl
    obtain ⟨cc,ucs,ec,AI⟩:=Zg _ (Qj hi)
    rw [f1] at ec;cases ec
    have Zh:=s6 _ _ AI
    rw [eg]
    have sy:ts.take (i+1)=ts.take i++[ts[i]]:=by rw [Qs,Qa hit];rfl
    have PP:ts[i]∈ts:=Qj hit
    generalize ts[i]=t at f2 sy PP
    have f2:aj H6 c [.str t.1,.str t.2]:=f2
    have bad:¬HS r1 r2 m1 m2 (ts.map ay) t->¬K_ r1 r2 m1 m2 fst ts:=fun h z=>h (z.2 t PP)
    have Zi:AX H6 (.ref c)=some "tuple":=by show (match H6 c with | some (.lst _)=>some "list" | some (.tup _)=>some "tuple" | some (.dK _)=>some "dict" | _=>none)=_;rw [Zh]
    have ue:((2:Nat):Int)=2:=rfl
    refine ⟨by decide,"tuple",Zi,_,rfl,ja (.inl ⟨[.str t.1,.str t.2],.inr (ae.su f2),rfl,_,rfl,ja ?_⟩)⟩
    refine f9 ?_
    refine tI (ae.su f2) ?_
    dsimp only
    have PU:∀ {H'},aa H5 H'->fg H' d1 (.str t.1) (bh (dictOf (bf rs)) (.inr t.1)):=fun {H'} s'=>fg.k (k:=Sum.inr t.1) (s' _ _ PN)
    have PV:∀ {H'},aa H5 H'->fg H' d2 (.str t.2) (bh (dictOf (bf jo)) (.inr t.2)):=fun {H'} s'=>fg.k (k:=Sum.inr t.2) (s' _ _ e5)
    have in1:(bh (dictOf (bf rs)) (.inr t.1)).isSome=true↔t.1∈m1:=by rw [<- hm];exact uY g.nd t.1
    have PY:(bh (dictOf (bf jo)) (.inr t.2)).isSome=true↔t.2∈m2:=by rw [<- hm2];exact uY g2.nd t.2
    refine aU (fun σ' H'=>t.1∈m1/\t.2∈m2/\H'=H6/\σ'=[some (.ref a),some (.str x),some (.ref b),some (.str y),some (.ref p),some (.ref d1),some (.ref d2),some (.ref c),some (.str t.1),some (.str t.2),v10,v11,gq,gr]) ?_ ?_
    ·intro vf oh
     refine ⟨d1,_,rfl,PU q1,_,rfl,dw (fun c=>?_) (fun c=>?_)⟩
     ·refine Cw s6 (bad fun u=>?_)
      rw [in1.mpr u.1.a.1] at c;cases c
     have ha:t.1∈m1:=in1.mp (by cases hz:(bh (dictOf (bf rs)) (.inr t.1)).isSome with | true=>rfl | false=>rw [hz] at c;cases c)
     refine ⟨d2,_,rfl,PV q1,_,rfl,dw (fun c=>?_) (fun c=>?_)⟩
     ·refine Cw s6 (bad fun u=>?_)
      rw [PY.mpr u.1.b.1] at c;cases c
     have hb:t.2∈m2:=PY.mp (by cases hz:(bh (dictOf (bf jo)) (.inr t.2)).isSome with | true=>rfl | false=>rw [hz] at c;cases c)
     exact oh _ _ ⟨ha,hb,rfl,rfl⟩
    ·rintro σ' H7 ⟨ha,hb,rfl,rfl⟩
     obtain ⟨va,_,FJ⟩:=g.get ((hm _).mpr ha)
     obtain ⟨vb,_,FL⟩:=g2.get ((hm2 _).mpr hb)
     have HA:=(o_ _ va ha FJ).same s6
     have HB:=(Ld _ vb hb FL).same s6
     obtain ⟨ba,ya,rfl,ea⟩:=HA.br
     obtain ⟨bb,yb,rfl,eb⟩:=HB.br
     refine aU (fun σ' H'=>jm r1 m1 t.1/\jm r2 m2 t.2/\(aq r1 t.1).br=(aq r2 t.2).br/\aa H7 H'/\σ'=[some (.ref a),some (.str x),some (.ref b),some (.str y),some (.ref p),some (.ref d1),some (.ref d2),some (.ref c),some (.str t.1),some (.str t.2),v10,v11,gq,gr]) ?_ ?_
     ·intro vf oh
      have l1:=PU q1
      have l2:=PV q1
      rw [FJ] at l1
      rw [FL] at l2
      refine ⟨d1,_,rfl,l1,_,_,.inr (ae.of ea),aL _ _,d2,_,rfl,l2,_,_,.inr (ae.of eb),aL _ _,(show 2<=sizeLine by decide),fun p2 CU=>⟨_,.inr (ae.of aA),rfl,rfl,_,rfl,?_⟩⟩
      have t2:=aa.upd CU (.tup [.str (aq r1 t.1).br,.str (aq r2 t.2).br])
      generalize upd H7 p2 (.tup [.str (aq r1 t.1).br,.str (aq r2 t.2).br])=H8 at t2 ⊢
      have ew:(false^^Ad (.str "as") [V.str (aq r1 t.1).br,V.str (aq r2 t.2).br])=decide (("as":Str)∈([(aq r1 t.1).br,(aq r2 t.2).br]:List Str)):=by
       rw [QE,show ([V.str (aq r1 t.1).br,V.str (aq r2 t.2).br]:List V)=([(aq r1 t.1).br,(aq r2 t.2).br]:List Str).map V.str from rfl,iN]
      rw [ew]
      refine dw (fun c=>?_) (fun c=>?_)
      ·refine Cw (s6.trans t2) (bad fun u=>?_)
       have:=Qt c
       simp only [Qp,QA,or_false] at this
       rcases this with h | h
       ·exact (kP vg ha).mp h.symm u.1.a
       ·exact (kP ia hb).mp h.symm u.1.b
      ·have:=of_decide_eq_false c
       simp only [Qp,QA,or_false,not_or] at this
       have na:jm r1 m1 t.1:=Classical.byContradiction fun z=>this.1 ((kP vg ha).mpr z).symm
       have nb:jm r2 m2 t.2:=Classical.byContradiction fun z=>this.2 ((kP ia hb).mpr z).symm
       refine ⟨d1,_,rfl,l1.same t2,_,_,.inr (ae.of (t2 _ _ ea)),aL _ _,d2,_,rfl,l2.same t2,_,_,.inr (ae.of (t2 _ _ eb)),aL _ _,rfl,_,rfl,JD (fun c2=>?_) (fun c2=>?_)⟩
       ·exact Cw (s6.trans t2) (bad fun u=>c2 u.2.1.1)
       ·exact oh _ _ ⟨na,nb,c2,t2,rfl⟩
     ·rintro σ' H8 ⟨FN,FO,Le,t2,rfl⟩
      have s8:=s6.trans t2
      have ua:=mL FN.2
      have fq:=mL FO.2
      have DC:=vg.EY FN
      have Lf:=ia.EY FO
      have Zj:=rt.GS hw FN.1
      have Zk:=eu.GS oi FO.1
      refine ⟨a,xs,r1,m1,ws,t.1,rfl,rt.tk s8.ts,hw,FN.1,fun M1 u1 H9 HW t3 HX DO=>?_⟩
      have s9:=s8.trans t3
      refine ⟨b,ys,r2,m2,jh,t.2,rfl,eu.tk s9.ts,oi,FO.1,fun M2 u2 DF HY t4 DP Cy=>⟨_,_,rfl,?_⟩⟩
      have Cq:=s9.trans t4
      have DQ:=t4 _ _ HX
      have FP:=DO.tk t4.ts
      dsimp only
      refine aU (fun σ' H'=>stH (aq r1 t.1)=stH (aq r2 t.2)/\aa DF H'/\σ'=[some (.ref a),some (.str x),some (.ref b),some (.str y),some (.ref p),some (.ref d1),some (.ref d2),some (.ref c),some (.str t.1),some (.str t.2),some (.ref M1),some (.ref M2),gq,gr]) ?_ ?_
      ·intro vf oh
       refine .inl ⟨⟨u1,af.of DQ⟩,fun D1 Lg=>pB DQ FP Lg (by omega) fun w1 HZ t5 Lh Li=>?_⟩
       refine .inl ⟨⟨u2,af.of (t5 _ _ DP)⟩,fun D2 ve=>pB (t5 _ _ DP) (Cy.tk t5.ts) ve (by omega) fun w2 AA t6 yl Lj=>?_⟩
       refine ⟨1,1,D1,D2,w1,w2,_,_,by decide,rfl,rfl,af.of (t6 _ _ Lh),af.of yl,(Li.same t6).E1,Lj.E1,fun bo jz=>⟨_,rfl,?_⟩⟩
       rw [ua,fq] at jz
       have FQ:bo=true↔stH (aq r1 t.1)=stH (aq r2 t.2):=by rw [jz];exact ⟨jL,fun e=>by rw [e]⟩
       refine dw (fun c=>?_) (fun c=>?_)
       ·exact Cw (Cq.trans (t5.trans t6)) (bad fun u=>by rw [FQ.mpr u.2.1.2] at c;cases c)
       ·exact oh _ _ ⟨FQ.mp (by cases bo<;>first | rfl | cases c),t5.trans t6,rfl⟩
      ·rintro σ' HZ ⟨Bt,t5,rfl⟩
       have Zl:=Cq.trans t5
       have Cz:=t5 _ _ DQ
       have CA:=t5 _ _ DP
       have FS:=FP.tk t5.ts
       have FT:=Cy.tk t5.ts
       have l1:=DO.len
       have l2:=Cy.len
       have ll:(b_ r1 t.1).length=(b_ r2 t.2).length:=by
        have h1:=congrArg List.length ua
        have h2:=congrArg List.length fq
        rw [Ql] at h1 h2
        rw [h1,h2,Bt]
       have po:mi r1 r2 m1 m2 t:=⟨FN,FO⟩
       have me:je r1 r2 t:=⟨Le,Bt⟩
       refine ⟨M1,M2,u1,u2,rfl,af.of Cz,af.of CA,?_⟩
       refine qT (oO u1 u2) (fun j σ' H'=>∃ (gq gr:Option V),σ'=[some (.ref a),some (.str x),some (.ref b),some (.str y),some (.ref p),some (.ref d1),some (.ref d2),some (.ref c),some (.str t.1),some (.str t.2),some (.ref M1),some (.ref M2),gq,gr]/\aa HZ H'/\∀ s∈(stH (aq r1 t.1)).take j,ay (fz r1 r2 t s)∈ts.map ay)
        ⟨_,_,rfl,aa.refl _,fun s hs=>absurd hs (by simp)⟩ (by rintro j σ' H' _ ⟨_,_,_,s,_⟩;exact ⟨af.of (s _ _ Cz),af.of (s _ _ CA)⟩) ?_ ?_
       ·rintro j σ' AA TT hj ⟨Lk,Ll,rfl,t6,w3⟩ Fx
        have j1:j < u1.length:=by omega
        have j2:j < u2.length:=by omega
        have DR:j < (b_ r1 t.1).length:=by omega
        have DS:j < (b_ r2 t.2).length:=by omega
        obtain ⟨c1,b1,z1,z2,z3⟩:=FS.at_ j j1 DR
        obtain ⟨c2,b2,y1,y2,y3⟩:=FT.at_ j j2 DS
        have Lm:u1.getD j .ai=.ref c1:=by rw [Qb,Qa j1,z1];rfl
        have Ln:u2.getD j .ai=.ref c2:=by rw [Qb,Qa j2,y1];rfl
        rw [Lm,Ln]
        have js:j < (stH (aq r1 t.1)).length:=by rw [<- ua];simpa using DR
        have Zm:j < (stH (aq r2 t.2)).length:=by rw [<- fq];simpa using DS
        have Ax:(stH (aq r1 t.1))[j]=(b_ r1 t.1)[j].1:=by simp only [<- ua,Qr]
        have Lo:(stH (aq r2 t.2))[j]=(b_ r2 t.2)[j].1:=by simp only [<- fq,Qr]
        have yl:(b_ r1 t.1)[j].1=(b_ r2 t.2)[j].1:=by rw [<- Ax,<- Lo];simp only [Bt]
        have FU:=rH DC (Qj DR)
        have FW:=rH Lf (Qj DS)
        have PZ:(stH (aq r1 t.1)).take (j+1)=(stH (aq r1 t.1)).take j++[(b_ r1 t.1)[j].1]:=by rw [Qs,Qa js,Ax];rfl
        have B9:(b_ r1 t.1)[j].1∈stH (aq r1 t.1):=by rw [<- Ax];exact Qj js
        generalize (b_ r1 t.1)[j]=mm at z2 z3 yl FU PZ B9
        generalize (b_ r2 t.2)[j]=ym at y2 y3 yl FW
        have Fy:fz r1 r2 t mm.1=(mm.2,ym.2):=by
         unfold fz
         rw [FU,yl,FW];rfl
        have t7:=t6.trans (aa.upd Fx (.tup [.ref c1,.ref c2]))
        generalize upd AA TT (.tup [.ref c1,.ref c2])=AB at t7 ⊢
        refine ⟨_,_,.inr (ae.of (t7 _ _ z2)),rfl,_,_,.inr (ae.of (t7 _ _ y2)),rfl,(show 2<=sizeLine by decide),fun tq Zn=>?_⟩
        have t8:=t7.trans (aa.upd Zn (.tup [.str mm.2,.str ym.2]))
        have P0:upd AB tq (.tup [.str mm.2,.str ym.2]) tq=some (.tup ((ay (fz r1 r2 t mm.1)).map kV)):=by rw [Fy];exact aA
        generalize upd AB tq (.tup [.str mm.2,.str ym.2])=Zo at t8 P0 ⊢
        have Lp:=Zl.trans t8
        refine ⟨tq,p,ay (fz r1 r2 t mm.1),ps,_,rfl,rfl,.inl P0,.inl (af.of (Lp _ _ hp)),ks.same Lp,fun r hr=>⟨_,rfl,dw (fun c3=>?_) (fun c3=>?_)⟩⟩
        ·refine Cw Lp (bad fun u=>?_)
         rw [hr.mpr (u.2.2 _ B9)] at c3;cases c3
        ·refine ⟨_,_,rfl,t8,fun s hs=>?_⟩
         rw [PZ] at hs
         rcases List.mem_append.mp hs with h' | h'
         ·exact w3 s h'
         ·rw [List.mem_singleton.mp h'];exact hr.mp (by cases r<;>first | rfl | cases c3)
       ·rintro σ' AA ⟨Lk,Ll,rfl,t6,w3⟩
        have Zp:min u1.length u2.length=(stH (aq r1 t.1)).length:=by
         have h1:=congrArg List.length ua
         rw [Ql] at h1
         omega
        rw [Zp,Qo] at w3
        refine ⟨_,_,_,_,_,_,_,rfl,q1.trans (t2.trans (t3.trans (t4.trans (t5.trans t6)))),fun t' P4=>?_⟩
        rw [sy] at P4
        rcases List.mem_append.mp P4 with h' | h'
        ·exact q2 t' h'
        ·rw [List.mem_singleton.mp h'];exact ⟨po,me,w3⟩
   ·rintro σ' H6 z0;refine hdn fun Gz9 zG9=>?_;obtain ⟨v7,v8,v9,v10,v11,gq,gr,rfl,q1,q2⟩:=z0;refine zG9 ?_
    rw [gb,Qo] at q2
    exact ef _ _ ⟨s5.trans q1,q2⟩
  ·rintro σ' H6 ⟨s6,nj⟩
   exact k true H6 s6 ⟨fun _=>⟨jb,nj⟩,fun _=>rfl⟩
theorem Zq {K:Q0} {k l:Nat} {T:Addr} {v1 v2 v3 v4:V} {Q:St->Hp->Prop} (h:H T=some (.tup [v1,v2,v3,v4])) (q:Q ((((σ.set i (some v1)).set j (some v2)).set k (some v3)).set l (some v4)) H):zw K 4 (qg (ip i) (qg (ip j) (qg (ip k) (qg (ip l) BF)))) (.ref T) σ H Q:=
 ⟨T,_,rfl,ae.of h,rfl,_,_,rfl,_,_,rfl,_,_,rfl,_,_,rfl,rfl,q⟩
theorem Zr {K:Q0} {k:Nat} {T:Addr} {v1 v2 v3:V} {Q:St->Hp->Prop} (h:ae K H T [v1,v2,v3]) (q:Q (((σ.set i (some v1)).set j (some v2)).set k (some v3)) H):zw K 3 (qg (ip i) (qg (ip j) (qg (ip k) BF))) (.ref T) σ H Q:=
 ⟨T,_,rfl,h,rfl,_,_,rfl,_,_,rfl,_,_,rfl,rfl,q⟩
def P5:Sp:=fun vs H Q _=>∃ (a b:Addr) (xs ys:List V) (r1 r2:List ak) (m1 m2 ws jh:List Str) (x y:Str),vs=[.ref a,.str x,.ref b,.str y]/\RT H a xs r1 m1 ws/\RT H b ys r2 m2 jh/\(∀ z∈ws,Wd z)/\(∀ z∈jh,Wd z)/\x∈m1/\y∈m2/\
 (∀ H',aa H H'->(∀ w m,dz (di r1 r2) (endOf r1 x,endOf r2 y) w=some m->¬uz r1 r2 m)->Q .ai H')/\
 ∀ (R:Addr) (us:List V) (w:List Nat) (H':Hp),aa H H'->H' R=some (.tup us)->SV H' us (f_ (di r1 r2) (endOf r1 x,endOf r2 y) w)->E3 (di r1 r2) (uz r1 r2) (endOf r1 x,endOf r2 y) w->Q (.ref R) H'
set_option maxHeartbeats 4000000 in
theorem lT (T:Txt K mg w):bc P w K mg base 5 "_law_parting" ["_law_told","_law_name","_law_other","_law_twin_name"] P5:=by
 have bH:bc P w K mg base 1 "_law_row_here" ["_law_told","_law_name"] Fg:=cK T
 have cL:bc P w K mg base 2 "_law_head_here" ["_law_told","_law_name"] Kf:=f7 T
 have gJ:bc P w K mg base 3 "_law_on" ["_law_told","_law_name"] Kg:=mW T
 refine T.mD.gf aT (fun vs H Q E h=>?_) (fun f a_ A outer s H vs Q E hr h=>?_)
 ·refine hdn fun Gz9 zG9=>?_;obtain ⟨a,b,xs,ys,r1,r2,m1,m2,ws,jh,x,y,rfl,_⟩:=h;refine zG9 ?_
  rfl
 ·refine hdn fun Gz9 zG9=>?_;obtain ⟨a,b,xs,ys,r1,r2,m1,m2,ws,jh,x,y,rfl,rt,eu,hw,oi,hx,hy,kN,kB⟩:=h;refine zG9 ?_
  have hu:=aV hr
  have dj:=Qx (aV hr)
  have Zs:=Wz hr
  have Aw:=gK hr
  have hsz:sizeLine=16777216:=QL
  have vg:=rt.ia hw
  have ia:=eu.ia oi
  have dc:=zZ (r2:=r2) rt.JM
  obtain ⟨rs,g,nm,rl,o_⟩:=rt.good hw
  have hm:∀ z,z∈rs.map (·.1)↔z∈m1:=fun z=>by rw [nm];exact rt.nm.mem_iff
  obtain ⟨jo,g2,Lc,HU,Ld⟩:=eu.good oi
  have hm2:∀ z,z∈jo.map (·.1)↔z∈m2:=fun z=>by rw [Lc];exact eu.nm.mem_iff
  refine ⟨_,(aD (aS (i:=4) aT.nd rfl (Or.inl rfl) (cM (bG (aY (bG (aY aC) (aN (bF bH (hr.mono (by decide)) (aB (zv 0) (aB (zv 1) aC))) (aN (bF bH (hr.mono (by decide)) (aB (zv 2) (aB (zv 3) aC))) aC)))) aC)))
   (aD (aS (i:=5) aT.nd rfl (Or.inl rfl) vJ)
   (aD (eI PassesOwn.never (aP (fJ dj) (zv 4) (cM aC) (e_ _)) (aD (aS (i:=6) aT.nd rfl (Or.inl rfl) (cM aC))
   (aD (gT PassesOwn.never rfl (mH K (zv 4)) (cC K (n:=3) rfl (aJ (aK (i:=7) aT.nd rfl (Or.inl rfl)) (aJ (aK (i:=8) aT.nd rfl (Or.inl rfl)) (aJ (aK (i:=9) aT.nd rfl (Or.inl rfl)) bK)))) (aD (aS (i:=10) aT.nd rfl (Or.inl rfl) (bF gJ (hr.mono (by decide)) (aB (zv 0) (aB (zv 8) aC))))
   (aD (aS (i:=11) aT.nd rfl (Or.inl rfl) (bF gJ (hr.mono (by decide)) (aB (zv 2) (aB (zv 9) aC))))
   (aD (bW (aP (fJ dj) (bD (bC K) (bF cL (hr.mono (by decide)) (aB (zv 0) (aB (zv 8) aC))) aH (fun _ _=>rfl)) (bD (bC K) (bF cL (hr.mono (by decide)) (aB (zv 2) (aB (zv 9) aC))) aH (fun _ _=>rfl)) (e_ _)) (aG (aQ (zv 7))) aZ)
   (aD (bW (aP (uM K Aw) (kC (own:=["_law_one"]) (idx:=[]) (N':=["_law_one"]) (cN (bg cJ) (["_law_told","_law_name","_law_other","_law_twin_name","_law_layer","_law_met","_law_later","_law_road","_law_a","_law_b","_law_ones","_law_others","_law_one","_law_two_here"]:List Str) (by decide+kernel)) rfl (mH K (zv 10)) (fun _ _ _ _ _ _=>(aK (i:=0) (show List.Nodup (["_law_one"]:List Str) by decide+kernel) rfl (Or.inl rfl))) (fun _ _ _ _ _ _=>cV) (fun _ _ _ _ _ _=>(bD (bC K) (zv 0) aH (fun _ _=>rfl)))) (kC (own:=["_law_one"]) (idx:=[]) (N':=["_law_one"]) (cN (bg cJ) (["_law_told","_law_name","_law_other","_law_twin_name","_law_layer","_law_met","_law_later","_law_road","_law_a","_law_b","_law_ones","_law_others","_law_one","_law_two_here"]:List Str) (by decide+kernel)) rfl (mH K (zv 11)) (fun _ _ _ _ _ _=>(aK (i:=0) (show List.Nodup (["_law_one"]:List Str) by decide+kernel) rfl (Or.inl rfl))) (fun _ _ _ _ _ _=>cV) (fun _ _ _ _ _ _=>(bD (bC K) (zv 0) aH (fun _ _=>rfl)))) (e_ _)) (aG (aQ (zv 7))) aZ)
   (aG (bW (aP (jB hu) (aY (aB (zv 8) (aB (zv 9) aC))) (zv 5) rfl) (aD (oR hu (zv 5) (aY (aB (zv 8) (aB (zv 9) aC))) gP rfl)
   (aG (gT PassesOwn.never rfl (nU K (by rfl) T.JT (aB (zv 10) (aB (zv 11) aC))) (cC K (n:=2) rfl (aJ (aK (i:=12) aT.nd rfl (Or.inl rfl)) (aJ (aK (i:=13) aT.nd rfl (Or.inl rfl)) bK))) (aG (dR (mF K QH QJ QK cB (zv 6) (bG (aY (fC (bY (kL K) (zv 7) (fI (sQ K) (zv 12) fP (fH aH))) (aI (bD (bC K) (zv 12) aH (fun _ _=>rfl)) (aI (bD (bC K) (zv 13) aH (fun _ _=>rfl)) aC)))) aC))))))) aZ)))))))
   (aG (aS (i:=4) aT.nd rfl (Or.inl rfl) (bO (nO Zs) (by rfl) T.yL PyProof.Rows.boot_sorted (aB (zv 6) aC)))))))
   (aG (aQ jZ))))),?_⟩
  have P6:mi r1 r2 m1 m2 (endOf r1 x,endOf r2 y):=⟨vg.stay hx,ia.stay hy⟩
  generalize yk:((endOf r1 x,endOf r2 y):Pr)=fst at kN kB P6
  refine aM ⟨(show 0<=sizeLine by decide),fun T0 P7=>?_⟩
  have u0:=aa.upd P7 (.tup [])
  have x0:upd H T0 (.tup []) T0=some (.tup []):=aA
  dsimp only
  generalize upd H T0 (.tup [])=J0 at u0 x0 ⊢
  refine ⟨a,xs,rs,_,_,x,rfl,g.ts u0.ts,(hm x).mpr hx,fun J1 u1=>?_⟩
  refine ⟨b,ys,jo,_,_,y,rfl,g2.ts (u0.trans u1).ts,(hm2 y).mpr hy,fun J2 u2=>⟨(show 3<=sizeLine by decide),fun T1 Fp=>⟨(show 1<=sizeLine by decide),fun La Lq=>?_⟩⟩⟩
  have u4:=aa.upd Fp (.tup [.ref T0,.str (fc (gi r1) rs.length x),.str (fc (gi r2) jo.length y)])
  have x4:upd J2 T1 (.tup [.ref T0,.str (fc (gi r1) rs.length x),.str (fc (gi r2) jo.length y)]) T1=some (.tup [.ref T0,.str fst.1,.str fst.2]):=by rw [<- yk,rl,HU];exact aA
  generalize upd J2 T1 (.tup [.ref T0,.str (fc (gi r1) rs.length x),.str (fc (gi r2) jo.length y)])=J4 at u4 x4 Lq ⊢
  have u5:=aa.upd Lq (.lst [.ref T1])
  have x5:upd J4 La (.lst [.ref T1]) La=some (.lst [.ref T1]):=aA
  generalize upd J4 La (.lst [.ref T1])=J5 at u5 x5 ⊢
  have Ls:aa H J5:=(((u0.trans u1).trans u2).trans u4).trans u5
  have P8:jr r1 r2 fst J5 [.ref T1] [(fst,[])]:=jr.nil.snoc (p:=(fst,[])) (u5 _ _ x4) ((((u1.trans u2).trans u4).trans u5) _ _ x0) SV.nil
  refine aM fun F hF=>?_
  have u6:=aa.upd hF (.dT [])
  have x6:yf (upd J5 F (.dT [])) F []:=⟨[],aA,rfl⟩
  have Zt:H F=none:=Ls.free hF
  dsimp only
  generalize upd J5 F (.dT [])=J6 at u6 x6 ⊢
  have Zu:=Ls.trans u6
  have Zv:BP r1 r2 m1 m2 fst 0 [(fst,[])] [] [(fst,[])] [] 0:=BG.start P6
  have Zw:=P8.same u6
  have Zx:=u6 _ _ x5
  clear u0 u1 u2 u4 u5 u6 x0 x4 x5 Ls P8 P7 Fp Lq hF
  refine aU (fun σ' H'=>aa H H'/\∀ w m,dz (di r1 r2) fst w=some m->¬uz r1 r2 m) ?_ ?_
  ·intro nx ef
   refine ⟨fun mm σ' H'=>∃ (v6 v7 v8 v9 v10 v11 gq gr:Option V) (Lr:Addr) (us:List V) (D st:List (Pr×List Nat)) (ms:List Pr) (i len:Nat),σ'=[some (.ref a),some (.str x),some (.ref b),some (.str y),some (.ref Lr),some (.ref F),v6,v7,v8,v9,v10,v11,gq,gr]/\yf H' F ms/\H' Lr=some (.lst us)/\jr r1 r2 fst H' us D/\BP r1 r2 m1 m2 fst i st ms D [] len/\len+mm<=900/\aa H H'/\(mm=2*(200 - ms.length)+if D=[] then 0 else 1),
    ⟨_,none,none,none,none,none,none,none,none,La,[.ref T1],[(fst,[])],_,[],0,0,rfl,x6,Zx,Zw,Zv,by simp,Zu,rfl⟩,?_⟩
   rintro mm σ' H5 ⟨v6,v7,v8,v9,v10,v11,gq,gr,Lr,us,D,st,ms,i,len,rfl,q1,q3,q4,q5,q9,FY,rfl⟩
   have H_:=q4.len
   refine ⟨(show 0<=sizeLine by decide),fun l0 jk=>?_⟩
   have w1:=aa.upd jk (.lst [])
   have w2:upd H5 l0 (.lst []) l0=some (.lst []):=aA
   have Zy:Lr≠l0:=fun z=>by rw [<- z,q3] at jk;cases jk
   generalize upd H5 l0 (.lst [])=H6 at w1 w2 ⊢
   refine ⟨Zy,us,w1 _ _ q3,w2,_,rfl,dw (fun c=>?_) (fun c=>?_)⟩
   ·have hP:D≠[]:=fun z=>by
     rw [z] at H_
     rw [QS H_] at c
     simp at c
    rw [if_neg hP] at q9 ⊢
    have q1:=q1.same w1
    have q3:=w1 _ _ q3
    have q4:=q4.same w1
    have FY:=FY.trans w1
    have abm:=lM q5 vg ia
    refine ⟨fun σ' H'=>∃ (v6 v7 v8 v9 v10 v11 gq gr:Option V) (Lr:Addr) (us:List V) (D2 fq:List (Pr×List Nat)) (gg:List Pr) (i2:Nat),σ'=[some (.ref a),some (.str x),some (.ref b),some (.str y),some (.ref Lr),some (.ref F),v6,v7,v8,v9,v10,v11,gq,gr]/\yf H' F gg/\H' Lr=some (.lst us)/\jr r1 r2 fst H' us D2/\BP r1 r2 m1 m2 fst i2 fq gg D2 [] (len+1)/\D2.length<=10*(gg.length - ms.length)/\ms.length<=gg.length/\aa H H',?_,?_⟩
    ·rintro σ' H' z0;refine hdn fun Gz9 zG9=>?_;obtain ⟨v6,v7,v8,v9,v10,v11,gq,gr,Lr,us,D2,fq,gg,i2,rfl,z1,z2,z3,z4,z5,z6,z7⟩:=z0;refine zG9 ?_
     have KQ:=lM z4 vg ia
     have Kh:(2*(200 - gg.length)+if D2=[] then 0 else 1) < 2*(200 - ms.length)+1:=by
      by_cases h0:gg.length=ms.length
      ·have:D2=[]:=QS (by omega)
       rw [if_pos this];omega
      ·split<;>omega
     exact ⟨_,Kh,v6,v7,v8,v9,v10,v11,gq,gr,Lr,us,D2,fq,gg,i2,len+1,rfl,z1,z2,z3,z4,by omega,z7,rfl⟩
    refine aM ⟨(show 0<=sizeLine by decide),fun Lt DT=>?_⟩
    have w3:=aa.upd DT (.lst [])
    have w4:upd H6 Lt (.lst []) Lt=some (.lst []):=aA
    have Zz:H Lt=none:=FY.free DT
    obtain ⟨kvs,e1,e2⟩:=q1
    have P9:Lt≠F:=fun z=>by rw [z,e1] at DT;cases DT
    have ZA:Lt≠Lr:=fun z=>by rw [z,q3] at DT;cases DT
    have ZC:F≠Lr:=fun z=>by rw [z,q3] at e1;cases e1
    have q1:yf H6 F ms:=⟨kvs,e1,e2⟩
    dsimp only
    generalize upd H6 Lt (.lst [])=H7 at w3 w4 ⊢
    refine aU (fun σ' H'=>∃ (v7 v8 v9 v10 v11 gq gr:Option V) (jx:List V) (N fq:List (Pr×List Nat)) (gg:List Pr) (i2:Nat),σ'=[some (.ref a),some (.str x),some (.ref b),some (.str y),some (.ref Lr),some (.ref F),some (.ref Lt),v7,v8,v9,v10,v11,gq,gr]/\yf H' F gg/\H' Lt=some (.lst jx)/\jr r1 r2 fst H' jx N/\BP r1 r2 m1 m2 fst i2 fq gg [] N len/\N.length<=10*(gg.length - ms.length)/\ms.length<=gg.length/\aa H H') ?_ ?_
    ·intro vf oh
     refine .inl ⟨⟨us,af.of (w3 _ _ q3)⟩,?_⟩
     refine fU (d8 us) (fun j σ' H'=>∃ (v7 v8 v9 v10 v11 gq gr:Option V) (jx:List V) (N fq:List (Pr×List Nat)) (gg:List Pr) (i2:Nat),σ'=[some (.ref a),some (.str x),some (.ref b),some (.str y),some (.ref Lr),some (.ref F),some (.ref Lt),v7,v8,v9,v10,v11,gq,gr]/\yf H' F gg/\H' Lt=some (.lst jx)/\jr r1 r2 fst H' jx N/\BP r1 r2 m1 m2 fst i2 fq gg (D.drop j) N len/\N.length<=10*(gg.length - ms.length)/\ms.length<=gg.length/\H' Lr=some (.lst us)/\jr r1 r2 fst H' us D/\aa H H')
      ⟨v7,v8,v9,v10,v11,gq,gr,[],[],st,ms,i,rfl,q1.same w3,w4,jr.nil,by simpa using q5,by simp,Qy _,w3 _ _ q3,q4.same w3,FY.trans w3⟩ (by rintro j σ' H' _ ⟨_,_,_,_,_,_,_,_,_,_,_,_,_,_,_,_,_,_,_,h,_⟩;exact af.of h) ?_ ?_
     ·rintro j σ' H8 hj z0;refine hdn fun Gz9 zG9=>?_;obtain ⟨v7,v8,v9,v10,v11,gq,gr,jx,N,fq,gg,i2,rfl,z1,z2,z3,z4,z5,z6,z7,z8,z9⟩:=z0;refine zG9 ?_
      have P_:j < D.length:=by omega
      obtain ⟨c,bb,yy,c1,c2,c3,c4⟩:=z8.at_ j hj P_
      have eg:us.getD j .ai=.ref c:=by rw [Qb,Qa hj,c1];rfl
      rw [eg]
      rw [List.drop_eq_getElem_cons P_] at z4
      generalize D[j]=d at c2 c4 z4
      have to:=z4.Ce
      have ZD:fc (gi r1) rs.length d.1.1=d.1.1:=by rw [rl];exact to.a.2
      have ZE:fc (gi r2) jo.length d.1.2=d.1.2:=by rw [HU];exact to.b.2
      have ua:=mL to.a.2
      have Lu:=mL to.b.2
      have DC:=vg.EY to.a
      have Lf:=ia.EY to.b
      have Zj:=rt.GS hw to.a.1
      have Zk:=eu.GS oi to.b.1
      refine Zr (ae.of c2) ?_
      dsimp only
      refine aM ⟨a,xs,r1,m1,ws,d.1.1,rfl,rt.tk z9.ts,hw,to.a.1,fun M1 u1 H9 HW t3 HX DO=>?_⟩
      have y9:=z9.trans t3
      dsimp only
      refine aM ⟨b,ys,r2,m2,jh,d.1.2,rfl,eu.tk y9.ts,oi,to.b.1,fun M2 u2 DF HY t4 DP Cy=>?_⟩
      have FZ:=y9.trans t4
      have Lv:=t3.trans t4
      have DQ:=t4 _ _ HX
      have FP:=DO.tk t4.ts
      have ZF:M1≠Lt:=fun z=>by rw [z,z2] at HW;cases HW
      have ZG:M2≠Lt:=fun z=>by rw [z,t3 _ _ z2] at HY;cases HY
      dsimp only
      refine aU (fun σ' H'=>(aq r1 d.1.1).br=(aq r2 d.1.2).br/\aa DF H'/\σ'=[some (.ref a),some (.str x),some (.ref b),some (.str y),some (.ref Lr),some (.ref F),some (.ref Lt),some (.ref bb),some (.str d.1.1),some (.str d.1.2),some (.ref M1),some (.ref M2),gq,gr]) ?_ ?_
      ·intro KI Bq
       refine ⟨a,xs,rs,_,_,d.1.1,rfl,g.ts FZ.ts,(hm _).mpr to.a.1,fun va Ha sa FJ=>?_⟩
       rw [ZD] at FJ
       obtain ⟨ba,ya,rfl,ea⟩:=((o_ _ va to.a.1 FJ).same (FZ.trans sa)).br
       refine ⟨_,_,.inr (ae.of ea),aL _ _,?_⟩
       refine ⟨b,ys,jo,_,_,d.1.2,rfl,g2.ts (FZ.trans sa).ts,(hm2 _).mpr to.b.1,fun vb Hb sb FL=>?_⟩
       rw [ZE] at FL
       obtain ⟨bb',yb,rfl,eb⟩:=((Ld _ vb to.b.1 FL).same ((FZ.trans sa).trans sb)).br
       have Qu:=sa.trans sb
       refine ⟨_,_,.inr (ae.of eb),aL _ _,rfl,_,rfl,JD (fun cs=>?_) (fun cs=>?_)⟩
       ·have tt:=Lv.trans Qu
        exact kB bb yy d.2 Hb (z9.trans tt) (tt _ _ c3) (c4.same tt) (z4.bad fun me=>cs me.1)
       ·exact Bq _ _ ⟨cs,Qu,rfl⟩
      rintro σ' HZ ⟨Le,t5,rfl⟩
      have Lw:=Lv.trans t5
      have Cz:=t5 _ _ DQ
      have CA:=t5 _ _ DP
      have FS:=FP.tk t5.ts
      have FT:=Cy.tk t5.ts
      refine aU (fun σ' H'=>stH (aq r1 d.1.1)=stH (aq r2 d.1.2)/\aa HZ H'/\σ'=[some (.ref a),some (.str x),some (.ref b),some (.str y),some (.ref Lr),some (.ref F),some (.ref Lt),some (.ref bb),some (.str d.1.1),some (.str d.1.2),some (.ref M1),some (.ref M2),gq,gr]) ?_ ?_
      ·intro KI Bq
       refine .inl ⟨⟨u1,af.of Cz⟩,fun D1 Lg=>pB Cz FS Lg (by omega) fun w1 AA t6 Lh Li=>?_⟩
       refine .inl ⟨⟨u2,af.of (t6 _ _ CA)⟩,fun D2 ve=>pB (t6 _ _ CA) (FT.tk t6.ts) ve (by omega) fun w2 AB t7 yl Lj=>?_⟩
       refine ⟨1,1,D1,D2,w1,w2,_,_,by decide,rfl,rfl,af.of (t7 _ _ Lh),af.of yl,(Li.same t7).E1,Lj.E1,fun bo jz=>⟨_,rfl,?_⟩⟩
       rw [ua,Lu] at jz
       have FQ:bo=true↔stH (aq r1 d.1.1)=stH (aq r2 d.1.2):=by rw [jz];exact ⟨jL,fun e=>by rw [e]⟩
       refine dw (fun c=>?_) (fun c=>?_)
       ·have tt:=Lw.trans (t6.trans t7)
        exact kB bb yy d.2 AB (z9.trans tt) (tt _ _ c3) (c4.same tt) (z4.bad fun me=>by rw [FQ.mpr me.2] at c;cases c)
       ·exact Bq _ _ ⟨FQ.mp (by cases bo<;>first | rfl | cases c),t6.trans t7,rfl⟩
      rintro σ' AA ⟨Bt,t6,rfl⟩
      have AD:=Lw.trans t6
      have me:je r1 r2 d.1:=⟨Le,Bt⟩
      have QF:¬uz r1 r2 d.1:=fun z=>z me
      have y1:=z1.same AD
      have y2:=AD _ _ z2
      have y3:=z3.same AD
      have y7:=AD _ _ z7
      have y8:=z8.same AD
      have y9:=z9.trans AD
      have d3:=AD _ _ c3
      have d4:=c4.same AD
      have f1:=t6 _ _ Cz
      have f2:=t6 _ _ CA
      have Bf:=FS.tk t6.ts
      have E5:=FT.tk t6.ts
      have l1:=DO.len
      have l2:=Cy.len
      clear c2 c3 c4 z1 z2 z3 z7 z8 z9 t3 t4 t5 t6 Lv Lw AD FZ HX DP DQ Cz CA DO Cy FP FS FT HW HY
      obtain ⟨oj,k1,k2⟩:=y1
      have AH:(bh oj (ay d.1)).isSome=true↔d.1∈gg:=by
       rw [rP,k2];exact l8
      have kl:oj.length=gg.length:=by have:=congrArg List.length k2;simpa using this
      have KQ:=lM z4 vg ia
      refine ⟨(show 2<=sizeLine by decide),fun qa QM=>?_⟩
      have sq:=aa.upd QM (.tup [.str d.1.1,.str d.1.2])
      have eq:upd AA qa (.tup [.str d.1.1,.str d.1.2]) qa=some (.tup ((ay d.1).map kV)):=aA
      generalize upd AA qa (.tup [.str d.1.1,.str d.1.2])=AB at sq eq ⊢
      refine ⟨F,bh oj (ay d.1),rfl,fg.t (sq _ _ k1) eq,_,rfl,dw (fun cc=>?_) (fun cc=>?_)⟩
      ·have AM:d.1 ∉ gg:=fun z=>by
        rw [AH.mpr z] at cc;cases cc
       have ZH:bh oj (ay d.1)=none:=by
        cases hv:bh oj (ay d.1) with
        | none=>rfl
        | some v=>exact absurd (AH.mp (by rw [hv];rfl)) AM
       have zx:BP r1 r2 m1 m2 fst (i2+1) (fq++iu (di r1 r2) d) (gg++[d.1]) (D.drop (j+1)) (N++iu (di r1 r2) d) len:=z4.expand (fun q hq=>by
        rw [fG me] at hq
        obtain ⟨s,hs,rfl⟩:=List.mem_map.mp hq
        exact to.behind vg ia me hs) QF AM
       have ZI:=lM zx vg ia
       rw [Qk] at ZI
       have QN:(b_ r1 d.1.1).length=(stH (aq r1 d.1.1)).length:=by rw [<- ua,Ql]
       have abo:(b_ r2 d.1.2).length=(stH (aq r1 d.1.1)).length:=by rw [Bt,<- Lu,Ql]
       have ZJ:(di r1 r2 d.1).length=(b_ r1 d.1.1).length:=by rw [fG me,QN];simp [gu]
       have abp:(di r1 r2 d.1).length<=10:=by
        have:=gX (vg.yd to.a).2
        rw [ZJ,QN];simpa [stH] using this
       refine aU (fun σ' H'=>∃ qb,σ'=[some (.ref a),some (.str x),some (.ref b),some (.str y),some (.ref Lr),some (.ref F),some (.ref Lt),some (.ref bb),some (.str d.1.1),some (.str d.1.2),some (.ref M1),some (.ref M2),gq,gr]/\AB qb=none/\H'=upd (upd AB qb (.tup ((ay d.1).map kV))) F (.dT (oj++[(ay d.1,.bl true)]))) (fun KI Bq=>⟨(show 2<=sizeLine by decide),fun qb F0=>⟨F,_,rfl,AR.t (aa.upd F0 _ _ _ (sq _ _ k1)) (show upd AB qb (.tup [.str d.1.1,.str d.1.2]) qb=some (.tup ((ay d.1).map kV)) from aA) (by omega),Bq _ _ ⟨qb,rfl,F0,by rw [L2.cG _ ZH];rfl⟩⟩⟩) ?_
       rintro σ' Zo ⟨qb,rfl,F0,rfl⟩
       have zk:=sq.trans (aa.upd F0 (.tup ((ay d.1).map kV)))
       generalize upd AB qb (.tup ((ay d.1).map kV))=AE at zk ⊢
       have Lx:=zk _ _ k1
       have tk:Tk AA (upd AE F (.dT (oj++[(ay d.1,.bl true)]))):=zk.ts.trans ((Tk.refl).set Lx fun _ z=>nomatch z)
       have AG:∀ b' ys,aj AA b' ys->aj (upd AE F (.dT (oj++[(ay d.1,.bl true)]))) b' ys:=fun b' ys h=>(h.same zk).put Lx (fun _ z=>nomatch z) (fun _ _ z=>nomatch z)
       have p1:yf (upd AE F (.dT (oj++[(ay d.1,.bl true)]))) F (gg++[d.1]):=⟨_,aA,by rw [Qm,Qm,k2];rfl⟩
       have p2:upd AE F (.dT (oj++[(ay d.1,.bl true)])) Lt=some (.lst jx):=by rw [aE P9];exact zk _ _ y2
       have p3:=y3.keep tk AG
       have p7:upd AE F (.dT (oj++[(ay d.1,.bl true)])) Lr=some (.lst us):=by rw [aE ZC.symm];exact zk _ _ y7
       have p8:=y8.keep tk AG
       have p9:aa H (upd AE F (.dT (oj++[(ay d.1,.bl true)]))):=(y9.trans zk).put Zt
       have g3:=tk _ _ d3
       have g4:=d4.keep AG
       have ZK:M1≠F:=fun z=>by rw [z,k1] at f1;cases f1
       have ZL:M2≠F:=fun z=>by rw [z,k1] at f2;cases f2
       have Ly:upd AE F (.dT (oj++[(ay d.1,.bl true)])) M1=some (.lst u1):=by rw [aE ZK];exact zk _ _ f1
       have Lz:upd AE F (.dT (oj++[(ay d.1,.bl true)])) M2=some (.lst u2):=by rw [aE ZL];exact zk _ _ f2
       have HD:=Bf.tk tk
       have QO:=E5.tk tk
       generalize upd AE F (.dT (oj++[(ay d.1,.bl true)]))=H16 at p1 p2 p3 p7 p8 p9 Ly Lz HD QO g3 g4 ⊢
       clear tk AG y2 y3 y7 y8 y9 d3 d4 k1 Lx sq zk f1 f2 Bf E5 eq QM F0
       have kwl:=xJ (nx:=di r1 r2) d
       have abt:=g4.len
       have Ub:(f_ (di r1 r2) fst d.2).length<=900:=by
        have h1:=z4.dl d List.mem_cons_self
        have h2:=vN z4.JL
        omega
       refine ⟨M1,M2,u1,u2,rfl,af.of Ly,af.of Lz,?_⟩
       refine qT (oO u1 u2) (fun t σ' H'=>∃ (gq gr:Option V) (xx:List V),σ'=[some (.ref a),some (.str x),some (.ref b),some (.str y),some (.ref Lr),some (.ref F),some (.ref Lt),some (.ref bb),some (.str d.1.1),some (.str d.1.2),some (.ref M1),some (.ref M2),gq,gr]/\H' Lt=some (.lst xx)/\jr r1 r2 fst H' xx (N++(iu (di r1 r2) d).take t)/\yf H' F (gg++[d.1])/\H' Lr=some (.lst us)/\jr r1 r2 fst H' us D/\H' bb=some (.tup yy)/\SV H' yy (f_ (di r1 r2) fst d.2)/\aa H H'/\H' M1=some (.lst u1)/\H' M2=some (.lst u2)/\MV H' u1 (b_ r1 d.1.1)/\MV H' u2 (b_ r2 d.1.2))
        ⟨gq,gr,jx,rfl,p2,by simpa using p3,p1,p7,p8,g3,g4,p9,Ly,Lz,HD,QO⟩ (by rintro t σ' H' _ ⟨_,_,_,_,_,_,_,_,_,_,_,_,h,h',_⟩;exact ⟨af.of h,af.of h'⟩) ?_ ?_
       ·rintro t σ' QR TT ht ⟨Lk,Ll,xx,rfl,x1,x2,x3,x5,x6,x7,x8,x9,ZM,ZN,QV,QW⟩ Fx
        have j1:t < u1.length:=by omega
        have j2:t < u2.length:=by omega
        have DR:t < (b_ r1 d.1.1).length:=by omega
        have DS:t < (b_ r2 d.1.2).length:=by omega
        have hto:t < (di r1 r2 d.1).length:=by omega
        have D8:t < (iu (di r1 r2) d).length:=by omega
        obtain ⟨c1,b1,n1,n2,n3⟩:=QV.at_ t j1 DR
        obtain ⟨c2,b2,o1,o2,o3⟩:=QW.at_ t j2 DS
        have Lm:u1.getD t .ai=.ref c1:=by rw [Qb,Qa j1,n1];rfl
        have Ln:u2.getD t .ai=.ref c2:=by rw [Qb,Qa j2,o1];rfl
        rw [Lm,Ln]
        have js:t < (stH (aq r1 d.1.1)).length:=by omega
        have Zm:t < (stH (aq r2 d.1.2)).length:=by rw [<- Bt];exact js
        have Ax:(stH (aq r1 d.1.1))[t]=(b_ r1 d.1.1)[t].1:=by simp only [<- ua,Qr]
        have Lo:(stH (aq r2 d.1.2))[t]=(b_ r2 d.1.2)[t].1:=by simp only [<- Lu,Qr]
        have yl:(b_ r1 d.1.1)[t].1=(b_ r2 d.1.2)[t].1:=by rw [<- Ax,<- Lo];simp only [Bt]
        have FU:=rH DC (Qj DR)
        have FW:=rH Lf (Qj DS)
        have ZO:(di r1 r2 d.1)[t]? =some ((b_ r1 d.1.1)[t].1,fz r1 r2 d.1 (b_ r1 d.1.1)[t].1):=by
         rw [fG me,hX,Qa js,Ax];rfl
        have ZP:=x2.len
        rw [Qk,List.length_take] at ZP
        obtain ⟨LA,QX⟩:=tY z4.JL ZO D8
        rw [show (iu (di r1 r2) d).take (t+1)=(iu (di r1 r2) d).take t++[(iu (di r1 r2) d)[t]] by rw [Qs,Qa D8];rfl,<- QQ]
        generalize (b_ r1 d.1.1)[t]=mm at n2 n3 yl FU LA QX
        generalize (b_ r2 d.1.2)[t]=ym at o2 o3 yl FW
        have Fy:fz r1 r2 d.1 mm.1=(mm.2,ym.2):=by
         unfold fz
         rw [FU,yl,FW];rfl
        rw [Fy] at LA
        have Ia:=aa.upd Fx (.tup [.ref c1,.ref c2])
        dsimp only
        generalize upd QR TT (.tup [.ref c1,.ref c2])=Bu at Ia ⊢
        refine ⟨.inl ⟨rfl,_,af.of (Ia _ _ x1)⟩,?_⟩
        have ZQ:∀ Q:VK,(∀ p,Bu p=none->Q (.ref p) (upd Bu p (.tup [.ref b1])))->(AZ (.ref c1) none (some 1) Bu Q\/AO K (.ref c1) none (some 1) Bu Q\/AN K (.ref c1) none (some 1) Bu Q):=fun Q q=>.inr (.inr ⟨c1,_,rfl,ae.of (Ia _ _ n2),(by rintro ⟨_,z⟩;exact absurd z (show ¬HT.cj 2 2 (some 1)=2 by decide)),q⟩)
        refine ⟨1,rfl,ZQ _ fun T8 Bo=>?_⟩
        have QY:=aa.upd Bo (.tup [.ref b1])
        have QZ:upd Bu T8 (.tup [.ref b1]) T8=some (.tup [.ref b1]):=aA
        show GU K (.ref bb) (.ref T8) (upd Bu T8 (.tup [.ref b1])) _
        generalize upd Bu T8 (.tup [.ref b1])=H19 at QY QZ
        have Q2:=Ia.trans QY
        have ysl:=x8.len
        refine GV (Q2 _ _ x7) QZ (by simp;omega) fun fr Q3 ZR ZS=>?_
        have sA:=Q2.trans ZR
        refine ⟨_,_,.inr (ae.of (sA _ _ n2)),rfl,_,_,.inr (ae.of (sA _ _ o2)),rfl,(show 3<=sizeLine by decide),fun T9 ZT=>?_⟩
        have LB:=aa.upd ZT (.tup [.ref fr,.str mm.2,.str ym.2])
        have Q4:upd Q3 T9 (.tup [.ref fr,.str mm.2,.str ym.2]) T9=some (.tup [.ref fr,.str mm.2,.str ym.2]):=aA
        generalize upd Q3 T9 (.tup [.ref fr,.str mm.2,.str ym.2])=Ib at LB Q4
        have sB:=sA.trans LB
        have LC:=sB _ _ x1
        have tk:Tk Ib (upd Ib Lt (.lst (xx++[.ref T9]))):=(Tk.refl).set LC fun _ z=>nomatch z
        have AG:∀ b' ys,aj Ib b' ys->aj (upd Ib Lt (.lst (xx++[.ref T9]))) b' ys:=fun b' ys h=>h.put LC (fun _ z=>nomatch z) (fun _ _ z=>nomatch z)
        obtain ⟨ZU,f1,f2⟩:=x3
        refine ⟨Lt,xx,.ref T9,rfl,rfl,LC,by omega,_,_,xx++[.ref T9],rfl,aA,?_,⟨ZU,by rw [aE P9.symm];exact sB _ _ f1,f2⟩,by rw [aE ZA.symm];exact sB _ _ x5,(x6.same sB).keep tk AG,tk _ _ (sB _ _ x7),(x8.same sB).keep AG,(x9.trans sB).put Zz,by rw [aE ZF];exact sB _ _ ZM,by rw [aE ZG];exact sB _ _ ZN,(QV.tk sB.ts).tk tk,(QW.tk sB.ts).tk tk⟩
        rw [LA]
        refine ((x2.same sB).keep tk AG).snoc (p:=((mm.2,ym.2),d.2++[t])) (tk _ _ Q4) (tk _ _ (LB _ _ ZS)) ?_
        show SV _ _ (f_ (di r1 r2) fst (d.2++[t]))
        rw [QX]
        exact SV.keep ((x8.same sB).append (SV.one (.inl (sB _ _ n3)))) AG
       ·rintro σ' QR z0;refine hdn fun Gz9 zG9=>?_;obtain ⟨Lk,Ll,xx,rfl,x1,x2,x3,x5,x6,x7,x8,x9,_⟩:=z0;refine zG9 ?_
        rw [show min u1.length u2.length=(iu (di r1 r2) d).length by omega,Qo] at x2
        refine ⟨_,_,_,_,_,_,_,xx,_,_,_,_,rfl,x3,x1,x2,zx,?_,?_,x5,x6,x9⟩
        ·rw [Qk,Qk,List.length_singleton];omega
        ·rw [Qk];omega
      ·have jb:d.1∈gg:=AH.mp (by cases hz:(bh oj (ay d.1)).isSome with | true=>rfl | false=>rw [hz] at cc;cases cc)
       exact ⟨_,_,_,_,_,_,_,jx,N,fq,gg,_,rfl,⟨oj,sq _ _ k1,k2⟩,sq _ _ y2,y3.same sq,z4.old QF jb,z5,z6,sq _ _ y7,y8.same sq,y9.trans sq⟩
     ·rintro σ' H8 z0;refine hdn fun Gz9 zG9=>?_;obtain ⟨v7,v8,v9,v10,v11,gq,gr,jx,N,fq,gg,i2,rfl,z1,z2,z3,z4,z5,z6,z7,z8,z9⟩:=z0;refine zG9 ?_
      rw [H_,List.drop_length] at z4
      exact oh _ _ ⟨v7,v8,v9,v10,v11,gq,gr,jx,N,fq,gg,i2,rfl,z1,z2,z3,z4,z5,z6,z9⟩
    ·rintro σ' H8 z0;refine hdn fun Gz9 zG9=>?_;obtain ⟨v7,v8,v9,v10,v11,gq,gr,jx,N,fq,gg,i2,rfl,z1,z2,z3,z4,z5,z6,z7⟩:=z0;refine zG9 ?_
     have nl:=z3.len
     have KQ:=lM z4 vg ia
     refine ⟨Lt,jx,N.map fun d=>f_ (di r1 r2) fst d.2,rfl,z2,by omega,⟨by simp [nl],fun j h1 h2=>?_⟩,fun j hj=>?_,fun L hL=>?_⟩
     ·obtain ⟨c,bb,yy,c1,c2,c3,c4⟩:=z3.at_ j h1 (by omega)
      exact ⟨c,bb,yy,_,c1,c2,c3,by rw [Qr];exact c4⟩
     ·rw [Qr,Qr]
      exact z4.rise dc j (by simpa using hj)
     ·have w5:=aa.upd hL (.lst jx)
      exact ⟨_,_,_,_,_,_,_,_,L,jx,N,fq,gg,i2,rfl,z1.same w5,aA,z3.same w5,z4.turn,z5,z6,z7.trans w5⟩
   ·have hP:D=[]:=by
     cases us with
     | nil=>exact QS (by simpa using H_.symm)
     | cons u us=>simp at c
    subst hP
    exact ef _ _ ⟨FY.trans w1,q5.fin⟩
  ·rintro σ' H5 ⟨q1,q2⟩
   exact kN H5 q1 q2
def Q5 (mg:Str->Option Value):Sp:=fun vs H Q _=>∃ (a b:Addr) (xs ys:List V) (r1 r2:List ak) (m1 m2 ws jh:List Str) (x y:Str),vs=[.ref a,.str x,.ref b,.str y]/\RT H a xs r1 m1 ws/\RT H b ys r2 m2 jh/\(∀ z∈ws,Wd z)/\(∀ z∈jh,Wd z)/\Kn mg H "FROM" [.str "from"]/\Kn mg H "TO" [.str "to"]/\x∈m1/\y∈m2/\
 (∀ H',aa H H'->(∀ v m,dz (di r1 r2) (endOf r1 x,endOf r2 y) v=some m->¬uz r1 r2 m)->Q (.bl true) H')/\
 ∀ H',aa H H'->(∃ v m,dz (di r1 r2) (endOf r1 x,endOf r2 y) v=some m/\uz r1 r2 m)->Q (.bl false) H'
set_option maxHeartbeats 1000000 in
theorem oW (T:Txt K mg w):bc P w K mg base 6 "are_alike" ["T","x","S","y"] (Q5 mg):=by
 have FI:EH P w K mg base 4 "Net" (adr mg "Net") ["self","T"] (Kr mg):=zU T
 have dZ:bc P w K mg base 3 "parting_road" ["left","right","first"] (KP K mg):=g6 T
 have cl:=T.yg.2.1
 have na:=T.yg.2.2.1
 refine T.pP.gf iS (fun vs H Q E h=>?_) (fun f a_ A outer s H vs Q E hr h=>?_)
 ·refine hdn fun Gz9 zG9=>?_;obtain ⟨a,b,xs,ys,r1,r2,m1,m2,ws,jh,x,y,rfl,_⟩:=h;refine zG9 ?_
  rfl
 ·refine hdn fun Gz9 zG9=>?_;obtain ⟨a,b,xs,ys,r1,r2,m1,m2,ws,jh,x,y,rfl,rt,eu,hw,oi,kf,kt,hx,hy,kA,kB⟩:=h;refine zG9 ?_
  have hu:=aV hr
  have dj:=Qx (aV hr)
  refine ⟨_,(aD (qJ (i:=4) (j:=5) rfl iS.nd rfl rfl (by decide) rfl rfl (aN (oJ FI (hr.mono (by decide)) (aB (zv 0) aC)) (aN (oJ FI (hr.mono (by decide)) (aB (zv 2) aC)) aC)) rfl)
   (aG (aQ (zN tZ (bF dZ (hr.mono (by decide)) (aB (zv 4) (aB (zv 5) (bG (aY (aI (bR hu (gC K (zv 4)) (zv 1) (fun _ _=>rfl)) (aI (bR hu (gC K (zv 5)) (zv 3) (fun _ _=>rfl)) aC))) aC)))) jZ (e_ _))))),?_⟩
  refine fun n dn hn Ca ne=>?_
  have s0:aa H (upd (upd H dn (.own n)) n (.ins (adr mg "Net") dn [])):=(aa.upd Ca _).trans (aa.upd (by rw [aE ne.symm];exact hn) _)
  refine ⟨n,dn,a,xs,r1,m1,ws,rfl,aA,rt.tk s0.ts,hw,kf.same s0,kt.same s0,fun H2 K5 sx=>⟨rfl,?_⟩⟩
  have s2:aa H H2:=fun b o e=>sx b o (fun z=>by rw [z,hn] at e;cases e) (s0 b o e)
  have nv:=K5.GZ (K:=K) (rt.ia hw)
  refine fun n' Cv wu K6 ne'=>?_
  have Az:aa H2 (upd (upd H2 Cv (.own n')) n' (.ins (adr mg "Net") Cv [])):=(aa.upd K6 _).trans (aa.upd (by rw [aE ne'.symm];exact wu) _)
  refine ⟨n',Cv,b,ys,r2,m2,jh,rfl,aA,eu.tk (s2.trans Az).ts,oi,kf.same (s2.trans Az),kt.same (s2.trans Az),fun H3 K7 Cn=>⟨rfl,?_⟩⟩
  have s3:aa H2 H3:=fun b o e=>Cn b o (fun z=>by rw [z,wu] at e;cases e) (Az b o e)
  have K8:=K7.GZ (K:=K) (eu.ia oi)
  have K9:=s2.trans s3
  have nt:Bp K mg H3 n n' r1 r2 m1 m2:=⟨nv.same s3,K8,rt.ia hw,eu.ia oi⟩
  have po:mi r1 r2 m1 m2 (endOf r1 x,endOf r2 y):=⟨nt.g1.stay hx,nt.g2.stay hy⟩
  refine hdn fun Gz9 zG9=>?_;obtain ⟨dx,fs,d1,d3,d4,x0,x1,x2,x3,x4,x5,x6,x7⟩:=nt.v1.at_;refine zG9 ?_
  refine hdn fun Gz9 zG9=>?_;obtain ⟨As,zl,Fw,HH,HK,y0,y1,y2,y3,y4,y5,y6,y7⟩:=nt.v2.at_;refine zG9 ?_
  refine ⟨_,_,rfl,?_⟩
  dsimp only
  refine ⟨n,_,dx,fs,_,rfl,x0,cl,na "rows" (by simp),x1,d1,_,rfl,x4 x hx,n',_,As,zl,_,rfl,y0,cl,na "rows" (by simp),y1,Fw,_,rfl,y4 y hy,(show 2<=sizeLine by decide),fun q hq=>?_⟩
  have s4:=aa.upd hq (.tup [.str (endOf r1 x),.str (endOf r2 y)])
  have e4:upd H3 q (.tup [.str (endOf r1 x),.str (endOf r2 y)]) q=some (.tup ((ay (endOf r1 x,endOf r2 y)).map kV)):=aA
  generalize upd H3 q (.tup [.str (endOf r1 x),.str (endOf r2 y)])=H4 at s4 e4 ⊢
  have Ct:=nt.same s4
  have DN:=K9.trans s4
  refine ⟨n,n',q,r1,r2,m1,m2,_,rfl,Ct,e4,po,fun i st un f0 nn H5 s5 pi h0 hl=>?_,fun R us i st un f0 nn c H5 s5 eR sv pi h0 hc Cu=>?_⟩
  ·exact kA H5 (DN.trans s5) (pi.none nt.g1 nt.g2 h0 hl)
  ·exact kB H5 (DN.trans s5) (pi.least h0 rt.JM hc Cu).1
def LD (K:Q0) (mg:Str->Option Value):Sp:=fun vs H Q _=>∃ (a:Addr) (ns:List Int),vs=[.ref a]/\af K H a (ns.map V.int)/\ns.length<=63/\(Kn mg H "FROM" [.str "from"]/\Kn mg H "TO" [.str "to"])/\∀ H',Q (.bl true) H'
theorem ZV {ns:List Int} (hs:af K H a (ns.map V.int)) (hp:H p=none):ck K H (upd H p (.lst [.ref a,.int 0,.int 0])) p 0:=by
 refine ⟨⟨a,ns,0,0,aA,fun H' sm=>?_,by omega,by omega⟩,(aa.upd hp _).sm⟩
 rcases hs with h | h
 ·refine .inl ?_
  have n:a≠p:=fun z=>by rcases h with h | ⟨o,h⟩<;>(rw [z,hp] at h;cases h)
  exact h.imp (fun e=>sm _ _ e n n) fun ⟨o,e⟩=>⟨o,sm _ _ e n n⟩
 ·exact .inr h
theorem Kn.Q6 {t:Nat} {ys:List V} (h:Kn mg H0 x ys) (hp:H0 p=none) (hn:ck K H0 H p t):Kn mg H x ys:=by
 obtain ⟨o,e⟩:=h
 have n:adr mg x≠p:=fun z=>by rw [z,hp] at e;cases e
 exact ⟨o,hn.sm _ _ e n n⟩
set_option maxHeartbeats 4000000 in
theorem ZW (T:Txt K mg w):bc P w K mg base 14 "law" ["script"] (LD K mg):=by
 have wV:bc P w K mg base 6 "_law_two" ["_law_pen","_law_most"] (O6 K):=sG T
 have ZX:bc P w K mg base 6 "alike" ["T","x","S","y"] (PL mg):=yW T
 have qK:bc P w K mg base 6 "are_alike" ["T","x","S","y"] (Q5 mg):=oW T
 have mK:bc P w K mg base 5 "_law_parting" ["_law_told","_law_name","_law_other","_law_twin_name"] P5:=lT T
 have lO:bc P w K mg base 4 "_law_is_paper" ["_law_told","_law_name","_law_other","_law_twin_name","_law_paper"] PM:=kH T
 refine T.N_.gf dX (fun vs H Q E h=>?_) (fun f a_ A outer s H vs Q E hr h=>?_)
 ·obtain ⟨a,ns,rfl,_⟩:=h
  rfl
 ·refine hdn fun Gz9 zG9=>?_;obtain ⟨sc,cells,rfl,ZY,abx,⟨kf,kt⟩,k⟩:=h;refine zG9 ?_
  have hu:=aV hr
  have dj:=Qx (aV hr)
  have Aw:=gK hr
  have hsz:sizeLine=16777216:=QL
  have hw:∀ z∈WW,Wd z:=fun z hz=>(Oe z hz).2
  refine ⟨_,(aD (aS (i:=1) dX.nd rfl (Or.inl rfl) (cM (aB (zv 0) (aF aH (aF aH aC)))))
   (aD (gT PassesOwn.never rfl (kU (by rfl) T.oG (aF aH aC)) (aK (i:=2) dX.nd rfl (Or.inl rfl)) (aD (jV (bF wV (hr.mono (by decide)) (aB (zv 1) (aF aH aC))) (cC K (n:=4) rfl (aJ (aK (i:=3) dX.nd rfl (Or.inl rfl)) (aJ (aK (i:=4) dX.nd rfl (Or.inl rfl)) (aJ (aK (i:=5) dX.nd rfl (Or.inl rfl)) (aJ (aK (i:=6) dX.nd rfl (Or.inl rfl)) bK))))))
   (aD (aS (i:=7) dX.nd rfl (Or.inl rfl) (bF mK (hr.mono (by decide)) (aB (zv 3) (aB (zv 4) (aB (zv 5) (aB (zv 6) aC))))))
   (aD (gT PassesOwn.never rfl (kU (by rfl) T.oG (aF aH aC)) (aK (i:=8) dX.nd rfl (Or.inl rfl)) (aD (aS (i:=9) dX.nd rfl (Or.inl rfl) (bF ZX (hr.mono (by decide)) (aB (zv 3) (aB (zv 4) (aB (zv 5) (aB (zv 6) aC))))))
   (aD (bW (Et (rB (mT (bO h9 (by rfl) T.dF PyProof.Rows.boot_isinstance (aB (zv 9) (aB (nN (v:=.ty "tuple") (by rfl) T.dH QG rfl) aC))))) (pE (aP (fJ dj) (bO (bM K) (by rfl) T.u_ PySem.boot_len (aB (zv 9) aC)) aH (e_ _)))).pt (aG (aQ gP)) aZ)
   (aG (bW (aP vB (zv 7) jZ (e_ _)) (aG (bW (aP (uQ Aw) (zv 9) (aY (aF bB (aB (zv 7) aC))) (e_ _)) (aG (aQ gP)) aZ)) (aD (bW (aP (fJ dj) (bD (bC K) (zv 9) aH (fun _ _=>rfl)) bB (e_ _)) (aG (aQ gP)) aZ)
   (aD (bW (rB (mT (bF lO (hr.mono (by decide)) (aB (zv 3) (aB (zv 4) (aB (zv 5) (aB (zv 6) (aI (bD (bC K) (zv 9) aH (fun _ _=>rfl)) aC)))))))) (aG (aQ gP)) aZ)
   (aG (dR (WJ K QH PySem.F.slot_list_clear PySem.F.type_list_clear yN (bD (bC K) (zv 9) aH (fun _ _=>rfl))))))))))))
   (aD (aS (i:=10) dX.nd rfl (Or.inl rfl) (bF qK (hr.mono (by decide)) (aB (zv 3) (aB (zv 4) (aB (zv 5) (aB (zv 6) aC))))))
   (aG (bW (Et (rB (mT (bO h9 (by rfl) T.dF PyProof.Rows.boot_isinstance (aB (zv 10) (aB (nN (v:=.ty "bool") (by rfl) T.XF PyProof.Rows.boot_bool rfl) aC))))) (pE (aP (fJ dj) (zv 10) (zN tZ (zv 7) jZ (e_ _)) (e_ _)))).pt (aG (aQ gP)) aZ)))))))
   (aG (aQ gP)))),?_⟩
  refine aM ⟨(show 3<=sizeLine by decide),fun p hp=>?_⟩
  have Q7:=ZV ZY hp
  dsimp only
  generalize upd H p (.lst [.ref sc,.int 0,.int 0])=H1 at Q7
  refine aU (fun σ' H'=>True) ?_ (fun σ' H' _=>k H')
  intro nx ef
  refine ⟨5,rfl,by decide,by decide,?_⟩
  refine fU (jN 0 5) (fun i σ' H'=>∃ v2 v3 v4 v5 v6 v7 v8 v9 v10,σ'=[some (.ref sc),some (.ref p),v2,v3,v4,v5,v6,v7,v8,v9,v10]/\ck K H H' p (i*2100))
   ⟨none,none,none,none,none,none,none,none,none,rfl,Q7⟩ (fun _ _ _ _ _=>trivial) ?_ (fun σ' H' _=>ef _ _ trivial)
  rintro i σ' H2 hi z0;refine hdn fun Gz9 zG9=>?_;obtain ⟨v2,v3,v4,v5,v6,v7,v8,v9,v10,rfl,hn2⟩:=z0;refine zG9 ?_
  have hi4:i < 5:=hi
  refine ⟨H,p,6,i*2100,rfl,hn2,by omega,⟨by decide,by decide⟩,fun q a b xs ys rows ig ns zh x y H3 eq rt hx eu hy g_ gn=>Zq eq ?_⟩
  dsimp only
  have ZZ:=Kn.Q6 kf hp g_
  have Z0:=Kn.Q6 kt hp g_
  generalize yk:((endOf rows x,endOf ig y):Pr)=fst
  refine aU (fun σ' H'=>∃ (dv:V),σ'=[some (.ref sc),some (.ref p),some (.int (0+(i:Int))),some (.ref a),some (.str x),some (.ref b),some (.str y),some dv,v8,v9,v10]/\aa H3 H'/\((dv=.ai/\∀ w m,dz (di rows ig) fst w=some m->¬uz rows ig m)\/∃ R us w,dv=.ref R/\H' R=some (.tup us)/\SV H' us (f_ (di rows ig) fst w)/\E3 (di rows ig) (uz rows ig) fst w)) ?_ ?_
  ·intro vf oh
   refine ⟨a,b,xs,ys,rows,ig,ns,zh,WW,WW,x,y,rfl,rt,eu,hw,hw,hx,hy,fun H4 s4 h0=>?_,fun R us w H4 s4 e1 sv lw=>?_⟩
   ·rw [yk] at h0;exact oh _ _ ⟨_,rfl,s4,.inl ⟨rfl,h0⟩⟩
   ·rw [yk] at sv lw;exact oh _ _ ⟨_,rfl,s4,.inr ⟨R,us,w,rfl,e1,sv,lw⟩⟩
  rintro σ' H4 ⟨dv,rfl,s4,Dj⟩
  have LF:=rt.tk s4.ts
  have LG:=eu.tk s4.ts
  have Fj:=ZZ.same s4
  have Fk:=Z0.same s4
  have dc:=rt.JM
  refine aU (fun σ' H'=>∃ v8 v9,σ'=[some (.ref sc),some (.ref p),some (.int (0+(i:Int))),some (.ref a),some (.str x),some (.ref b),some (.str y),some dv,v8,v9,v10]/\aa H4 H') ?_ ?_
  ·intro vf oh
   refine ⟨2,rfl,by decide,by decide,?_⟩
   refine fU (jN 0 2) (fun j σ' H'=>∃ v8 v9,σ'=[some (.ref sc),some (.ref p),some (.int (0+(i:Int))),some (.ref a),some (.str x),some (.ref b),some (.str y),some dv,v8,v9,v10]/\aa H4 H')
    ⟨v8,v9,rfl,aa.refl _⟩ (fun _ _ _ _ _=>trivial) ?_ (fun σ' H' h=>oh _ _ h)
   rintro j σ' H5 hj ⟨v8,v9,rfl,s5⟩
   refine aM ⟨a,b,xs,ys,rows,ig,ns,zh,WW,WW,x,y,rfl,LF.tk s5.ts,LG.tk s5.ts,hw,hw,Fj.same s5,Fk.same s5,hx,hy,fun r L B4 ps i' st un f' n' H6 hL s6 e1 e2 ks tv hf DG gb pi h0 hl=>?_,fun r R nu i' st un f' n' c H6 s6 e1 e2 sv pi h0 hc Cu=>?_⟩
   ·rw [yk] at hf h0
    refine ⟨by decide,"tuple",by show AX H6 (.ref r)=_;simp [AX,e1],_,rfl,?_⟩
    have hd:dv=.ai:=by
     rcases Dj with ⟨rfl,hd⟩ | ⟨R,us,w,rfl,eR,sv,lw⟩
     ·rfl
     ·obtain ⟨⟨m,h1,h2⟩,_⟩:=lw
      exact absurd h2 (pi.none (rt.ia hw) (eu.ia hw) h0 hl _ _ h1)
    subst hd
    refine ja (Or.inl ⟨_,.inr (ae.of e1),rfl,_,rfl,ja ?_⟩)
    refine ⟨_,rfl,ja ?_⟩
    refine ⟨_,_,.inr (ae.of e1),aL _ _,rfl,_,rfl,JD (fun c=>absurd rfl c) (fun c=>?_)⟩
    refine f9 ?_
    have Cr:=s5.trans s6
    refine ⟨_,_,.inr (ae.of e1),rfl,a,b,L,xs,ys,B4,rows,ig,ns,zh,WW,WW,x,y,ps,rfl,LF.tk Cr.ts,LG.tk Cr.ts,hw,hw,hx,hy,e2,ks,tv,fun bo H8 s8 jz=>?_⟩
    have:bo=true:=jz.mpr (by
     rw [yk]
     exact ⟨hf,fun q hq=>let ⟨g1,g2,g3⟩:=DG q hq;⟨g1,g2,fun s hs=>List.mem_map.mpr ⟨_,g3 s hs,rfl⟩⟩⟩)
    subst this
    refine ⟨_,rfl,ja ?_⟩
    have Q8:=s8 _ _ e2
    have Z1:H4 L=none:=s5.free hL
    refine ⟨_,_,.inr (ae.of (s8 _ _ e1)),rfl,.inl ⟨rfl,_,af.of Q8⟩,L,B4,rfl,rfl,Q8,?_⟩
    exact ⟨_,_,rfl,(Cr.trans s8).put Z1⟩
   ·rw [yk] at h0
    refine ⟨by decide,"tuple",by show AX H6 (.ref r)=_;simp [AX,e1],_,rfl,?_⟩
    obtain ⟨⟨v',m',g1,g2⟩,lst⟩:=pi.least h0 dc hc Cu
    rcases Dj with ⟨rfl,hd⟩ | ⟨R',us,w,rfl,eR,sv',lw⟩
    ·exact absurd g2 (hd _ _ g1)
    rw [lst w lw] at sv
    refine ja (Or.inl ⟨_,.inr (ae.of e1),rfl,_,rfl,ja ?_⟩)
    refine ⟨_,rfl,xm ⟨(show 2<=sizeLine by decide),fun T8 Bo=>?_⟩⟩
    have s7:=aa.upd Bo (.tup [.str "unlike",.ref R'])
    have e7:upd H6 T8 (.tup [.str "unlike",.ref R']) T8=some (.tup [.str "unlike",.ref R']):=aA
    generalize upd H6 T8 (.tup [.str "unlike",.ref R'])=H7 at s7 e7 ⊢
    have DH:=(s5.trans s6).trans s7
    refine ⟨3,3,_,_,r,T8,by decide,rfl,rfl,uW (s7 _ _ e1) (s7 _ _ e2) (sv.same s7),uW e7 (DH _ _ eR) (sv'.same DH),fun bo jz=>?_⟩
    have:bo=true:=jz.mpr rfl
    subst this
    refine ⟨_,rfl,ja ⟨_,_,rfl,DH⟩⟩
  ·rintro σ' H5 ⟨v8,v9,rfl,s5⟩
   refine aM ⟨a,b,xs,ys,rows,ig,ns,zh,WW,WW,x,y,rfl,LF.tk s5.ts,LG.tk s5.ts,hw,hw,Fj.same s5,Fk.same s5,hx,hy,fun H6 s6 h0=>?_,fun H6 s6 h0=>?_⟩
   ·rw [yk] at h0
    rcases Dj with ⟨rfl,hd⟩ | ⟨R,us,w,rfl,eR,sv,lw⟩
    ·refine ⟨by decide,"bool",rfl,_,rfl,ja ⟨rfl,_,rfl,?_⟩⟩
     refine ja ?_
     exact ⟨_,_,_,_,_,_,_,_,_,rfl,((g_.same s4).same (s5.trans s6)).mono (by omega)⟩
    ·obtain ⟨⟨m,h1,h2⟩,_⟩:=lw
     exact absurd h2 (h0 _ _ h1)
   ·rw [yk] at h0
    obtain ⟨v',m',g1,g2⟩:=h0
    rcases Dj with ⟨rfl,hd⟩ | ⟨R,us,w,rfl,eR,sv,lw⟩
    ·exact absurd g2 (hd _ _ g1)
    ·refine ⟨by decide,"bool",rfl,_,rfl,ja ⟨rfl,_,rfl,?_⟩⟩
     refine ja ?_
     exact ⟨_,_,_,_,_,_,_,_,_,rfl,((g_.same s4).same (s5.trans s6)).mono (by omega)⟩
end
abbrev pw:=PySem.Challenge.pw_coilkind_k20_alike_or_parted
abbrev wl:=PySem.Challenge.rw_coilkind_k20_alike_or_parted
def view:Program:={pw with main:={pw.main with body:=([1,2,3,4,6,7,8,9,10,11,12,14,15,16,17,18,19,20,22,23,24,25,26,27,28,29,30,31,32,33,34,35,36,37,38]:List Nat).filterMap fun i=>pw.main.body[i]?}}
def fns:List (Str×Stmt):=[⟨"heads_of",fL⟩,⟨"rows_of",jA⟩,⟨"names_in",fV⟩,⟨"steps_in",fS⟩,⟨"moves_in",fF⟩,⟨"road_back",gE⟩,⟨"alike",nW⟩,⟨"are_alike",g7⟩,⟨"parting_road",eG⟩,⟨"put_in_one",fQ⟩,⟨"top_of",lR⟩,⟨"pairs_behind",cS⟩,⟨"pairs_met",g9⟩,⟨"_law_fill",iC⟩,⟨"_law_next",iG⟩,⟨"_law_turned",fK⟩,⟨"_law_words",eK⟩,⟨"_law_head",fW⟩,⟨"_law_telling",eX⟩,⟨"_law_any",jF⟩,⟨"_law_twin_head",bZ⟩,⟨"_law_twin",iH⟩,⟨"_law_bent",fE⟩,⟨"_law_two",jM⟩,⟨"_law_row_here",dU⟩,⟨"_law_head_here",dB⟩,⟨"_law_on",eZ⟩,⟨"_law_parting",cJ⟩,⟨"_law_is_paper",cH⟩,⟨"law",lU⟩]
def vals:List (Str×V):=[]
def tups:List (Str×List V):=[⟨"WORDED",[.str "box",.str "pick"]⟩]
def Q9:List (Str×List sj):=[⟨"STEP_WORDS",[⟨"box",.inl (.str "part")⟩,⟨"pick",.inl (.str "case")⟩]⟩]
def Z2:List Str:=["len","isinstance","range","bool","list","tuple","dict","sorted","zip"]
def mj:List (Str×List V):=[⟨"FROM",[.str "from"]⟩,⟨"TO",[.str "to"]⟩]
def Q_:List A9:=[⟨"Net","Net.__init__",cW,["rows","heads","marks","moves"]⟩]
def look (K:Q0):=(Ak (without K (xy K mj)) fns,M_ (without K (xy K mj)) vals,A6 (without K (xy K mj)) tups,Ji (without K (xy K mj)) Q9,C9 (without K (xy K mj)) Z2,A6 K mj,decide (xy K mj).Nodup,ET (without K (xy K mj)) Q_)
def want (w:World):=(Al fns,Na vals,A7 tups,Jj w Q9,true,A7 mj,true,EU Q_)
theorem Z3 (w:World):(PySem.W.openEnds treeTable pw (w.withFollow "special-get-raises" false) 2614).map (fun s=>(PySem.W.openSeen view ["STEP_WORDS"] (PySem.importedModules pw.main.body) (fun s=>PySem.W.xlAt view [] s&&PySem.W.recOk [] s) true s,(xw look want).obs s))=some (PySem.W.openGood view ["STEP_WORDS"],(xw look want).val (w.withFollow "special-get-raises" false)):=by kernel_rfl
theorem Z4 (w:World):(PySem.W.openEnds treeTable pw (w.withFollow "special-get-raises" true) 2614).map (fun s=>(PySem.W.openSeen view ["STEP_WORDS"] (PySem.importedModules pw.main.body) (fun s=>PySem.W.xlAt view [] s&&PySem.W.recOk [] s) true s,(xw look want).obs s))=some (PySem.W.openGood view ["STEP_WORDS"],(xw look want).val (w.withFollow "special-get-raises" true)):=by kernel_rfl
theorem Z5 {K:Q0} (X:K.In h) (G:h.Ns mainGlobals mg) (e:look K=want w):XH K mg w:=by
 obtain ⟨eF,e⟩:=Prod.mk.inj e
 obtain ⟨eV,e⟩:=Prod.mk.inj e
 obtain ⟨eT,e⟩:=Prod.mk.inj e
 obtain ⟨eD,e⟩:=Prod.mk.inj e
 obtain ⟨eN,e⟩:=Prod.mk.inj e
 obtain ⟨eR,e⟩:=Prod.mk.inj e
 obtain ⟨eU,eC⟩:=Prod.mk.inj e
 obtain ⟨ts,r1,r2,r3⟩:=zF X G eR rfl
 have X':=tG (as:=xy K mj) X
 have sF:=uV X G eR 0 (x:="FROM") rfl
 have JU:=uV X G eR 1 (x:="TO") rfl
 obtain ⟨Z6,abz,Z7,Z8,oB⟩:=VW X' G (rL eD 0 (x:="STEP_WORDS") rfl) rfl (by decide+kernel)
 obtain ⟨abA,rfl,Z9⟩:=Nd Z8
 obtain ⟨abB,rfl,Z_⟩:=Nd Z9
 obtain rfl:=VV Z_
 refine ⟨ts,r2,by rw [r1];exact Qt eU,?_,fun H hH=>⟨zO (r3 0 "FROM" _ rfl) hH,zO (r3 1 "TO" _ rfl) hH⟩⟩
 rw [r1]
 exact ⟨nn X' G eN 0,
  nn X' G eN 1,
  nn X' G eN 2,
  nn X' G eN 3,
  nn X' G eN 4,
  nn X' G eN 5,
  nn X' G eN 6,
  nn X' G eN 7,
  nn X' G eN 8,
  tu X' G eT 0,
  sF,
  JU,
  ⟨Z6,Z7,oB⟩,
  C_ X' G eF 0,
  C_ X' G eF 1,
  C_ X' G eF 2,
  C_ X' G eF 3,
  rf X' G eF 4,
  rf X' G eF 5,
  Jg X' G eF 6,
  Jg X' G eF 7,
  EO X' G eF 8,
  EO X' G eF 9,
  rf X' G eF 10,
  EO X' G eF 11,
  EO X' G eF 12,
  rf X' G eF 13,
  rf X' G eF 14,
  rf X' G eF 15,
  C_ X' G eF 16,
  EO X' G eF 17,
  rf X' G eF 18,
  rf X' G eF 19,
  rf X' G eF 20,
  rf X' G eF 21,
  rf X' G eF 22,
  rf X' G eF 23,
  rf X' G eF 24,
  rf X' G eF 25,
  rf X' G eF 26,
  Jg X' G eF 27,
  VU X' G eF 28,
  C_ X' G eF 29,
  V0 X' G eC 0⟩
def Bv:DefRec:=⟨"law",r_ lU,kc lU,bg lU,(match lU with | .FunctionDef _ _ _ _ _ _ _ _ _ p=>p | _=>⟨0,0,0,0⟩)⟩
theorem walk:PySem.W.WalkO view ["STEP_WORDS"] XP (xw look want).says wl.row.toRowW Bv [] (fun f vs=>PySem.call f vs):=
 zQ (l:=wl) (n:=63) (k:=14) (x:="script") rfl (by decide) rfl ⟨rfl,by decide,by decide,rfl⟩ fun w mg fa h K X e G CW=>by
  obtain ⟨ts,A5,nd,T,hk⟩:=Z5 X G e
  obtain ⟨f,fd,Fu,m,b⟩:=T.N_
  rw [show Bv.name="law" from rfl,m] at CW
  cases CW
  refine ⟨ts,fd,LD (without K (ts.map (·.1))) mg,A5,nd,fun s u=>?_,fun base kb nb=>?_,fun H a ns hl ht hS=>⟨a,ns,rfl,hS,hl,hk H ht,fun _=>rfl⟩⟩
  ·refine hdn fun Gz9 zG9=>?_;obtain ⟨oc,od,kV,doc,pm,an,a_,ct,mz,rfl,lk,ju⟩:=Fu.ex;refine zG9 ?_
   exact .of_eq rfl
  ·refine hdn fun Gz9 zG9=>?_;obtain ⟨f',Z',G',m',k',b',oc',od',abE,Ra⟩:=(ZW T:bc wl.prog w (without K (ts.map (·.1))) mg base 14 "law" ["script"] (LD (without K (ts.map (·.1))) mg));refine zG9 ?_
   rw [m] at m'
   cases m'
   have e:fd=Z':=by
    refine hdn fun Gz9 zG9=>?_;obtain ⟨oc,od,kV,doc,pm,an,a_,ct,mz,e1,lk,ju⟩:=Fu.ex;refine zG9 ?_
    rw [lk] at Ra
    have:=QD Ra
    injection this with _ _ h3 _
    injection h3
   rw [e];exact G'
theorem hdef:PySem.W.defOf view wl.row.name=some (Bv,[]):=by kernel_rfl
theorem hprog:wl.row.prog.theDef wl.row.name=some (Bv.params,Bv.body,Bv.scope):=by kernel_rfl
theorem hkw:PySem.W.kwWritten? Bv.params.kwonlyargs Bv.params.kw_defaults=some []:=by kernel_rfl
theorem hok:(PySem.W.chainsOk view&&PySem.W.opensWell wl.row.prog&&(PySem.W.frees wl.row.toRowW&&wl.row.within.isEmpty))=true:=by kernel_rfl
theorem hbare:wl.row.prog.bare:=⟨rfl,rfl,rfl,rfl,rfl,by decide+kernel⟩
theorem aaa:wl.row.toRowW.promised:=by w_witness2
theorem said:wl.wellSaid=true:=by
 refine VX (p:=pw) rfl ?_ ?_ ?_ ?_ ?_ ?_ ?_ ?_ ?_ ?_ ?_ ?_ ?_ ?_ ?_ ?_ ?_ ?_ ?_ ?_ ?_ ?_ ?_ ?_ ?_ ?_ ?_ ?_<;>kernel_rfl
end T1
open PySem PySem.W PyProof.Rows L2
set_option maxRecDepth 100000 in
set_option maxHeartbeats 0 in
theorem PySem.Challenge.cw_coilkind_k20_alike_or_parted_holds : PySem.Challenge.rw_coilkind_k20_alike_or_parted.Holds := by
 refine PySem.W.holds_law T1.said fun said=>?_
 exact PySem.W.holds_open (q:=T1.view) (loose:=["STEP_WORDS"]) (Xt:=fun s=>xlAt T1.view [] s&&recOk [] s) (XP:=XL T1.view []) (Yf:=(xw T1.look T1.want).obs) (Ya:=(xw T1.look T1.want).val) (YP:=(xw T1.look T1.want).says) (N:=2614)
  (zW "special-get-raises" T1.Z3 T1.Z4) (xw T1.look T1.want).of (xw T1.look T1.want).keeps (fun s e=>xl_of s (Bool.and_eq_true_iff.mp e).1) XL.keeps T1.hdef T1.hprog T1.hkw (fun s e=>recFacts_of (Bool.and_eq_true_iff.mp e).2) rfl (by assumption) T1.hok T1.hbare T1.aaa T1.walk
