import PyProof.Rows.All
import Wide.All
import OpenK.AllK
import Wide.FinOn
import Lean
import PyProof.EqAt
import PyProof.EqKinds
import PyProof.TupleCall
import PyProof.DictCompW
import PyProof.AutoListH
import PyProof.EnumMake
import PyProof.ZipIter
import PyProof.AttrMissSeq
import KE.KDictOf
import PyProof.ReprLen
import PyProof.StrLawsRepr
import KE.KUnpackStar
import PyProof.DictWalks
import PyProof.Rows.DictUnroll
import PyProof.Rows.Range3
import PyProof.Rows.ChunkEnd
import PyProof.Rows.ChunkLeaf
import PyProof.StrCalls2
import PyProof.StrLawsTight
import PyProof.StrLawsChain
import PyProof.Rows.StrSplitJoin
import PyProof.Conv_int_bool
import PyProof.Rows.TupMore
import KE.KItemsList
import PyProof.NeKinds
import PyProof.StrLawsIn
import PyProof.Rows.StrCut
import PyProof.StrCalls
import PyProof.CallFns
import PyProof.FString5
import PyProof.NsCount
import PyProof.DictItems
import KE.KPairComp
import PyProof.ExcClass3
import PyProof.ExcInit
import OpenK.KMake
import OpenK.KCls
import PyProof.InstStoreFacts
import PyProof.StationsW
import PyProof.RulesAs
import PyProof.NsDelKeeps
import PyProof.ExcAttrAll.ValueError
import PyProof.DictValues
import PyProof.SumWalk
import PyProof.ConsumeWalk
import PyProof.SumAny
import KE.KRevIter
import PyProof.FactsAll.range_2
import PyProof.WalksMore
import PyProof.MinMaxWalk
import PyProof.SeqI3
import KE.KDictList
import KE.KDictLaws
import PyProof.Rows.FStr
import KE.KIsAll
import KE.KStrOpen
import PyProof.Rows.SetFrom
import PyProof.SetRoads
import PyProof.CollectIter
import PyProof.TupleOfGen
import PyProof.SetKind
import PyProof.TupleKey
import PyProof.IsRules
import KE.KSortTup
import PySem.Challenge.RW_coilkind_k06_texts_that_write_none
set_option Elab.async false
set_option linter.all false
set_option maxRecDepth 100000
section
open PySem PySem.Spec PyProof.Rows
abbrev Qa := @List.getElem?_eq_getElem
abbrev Qb := @List.getD_eq_getElem?_getD
abbrev Qc := @Heap.get?_push_of_some
abbrev Qd := @Heap.get?_push_size
abbrev Qe := @List.getElem_append_left
abbrev Qf := @List.getElem_append_right
abbrev Qh := @List.mem_cons_of_mem
abbrev Qi := @List.getElem_of_mem
abbrev Qj := @List.getElem_mem
abbrev Qk := @List.length_append
abbrev Ql := @List.length_map
abbrev Qm := @List.map_append
abbrev Qn := @List.map_map
abbrev Qo := @List.take_length
abbrev Qp := @List.mem_cons
abbrev Qq := @List.getElem?_map
abbrev Qr := @List.getElem_map
abbrev Qs := @List.take_add_one
abbrev Qt := @of_decide_eq_true
abbrev Qu := @of_decide_eq_false
abbrev Qv := @decide_eq_true
abbrev Qw := @decide_eq_false
abbrev Qx := @Nat.lt_of_succ_lt
abbrev Qy := @Nat.le_refl
abbrev Qz := @Heap.lt_size
abbrev QA := @List.mem_nil_iff
abbrev QC := @List.mem_of_getElem?
abbrev QD := @Option.some.inj
abbrev QE := @Bool.false_xor
abbrev QF := @List.all_eq_true
abbrev QG := @PyProof.Rows.boot_tuple
abbrev QH := @PySem.F.plainAttrs_list
abbrev QJ := @PySem.F.slot_list_append
abbrev QK := @PySem.F.type_list_append
abbrev QL := @sizeLine_eq
abbrev QS := @List.eq_nil_of_length_eq_zero
abbrev QT := @wpAny_bind
abbrev QU := @wpAny_pure
abbrev QX := @PyProof.Rows.boot_all
abbrev Q0 := PySem.W.Frag
end
variable {us:List PySem.Value} {u:PySem.Value} {a b p f C l:PySem.Addr} {h h' base:PySem.Heap} {P prog:PySem.Program} {w:PySem.World} {α:Type} {e tg:PySem.Expr} {pins:List (PySem.Addr×PySem.Obj)} {s:PySem.Shared} {t' i j n c:Nat} {ch fp:List PySem.Addr} {N ps loose own N' ys ss ns ws zs:List PySem.Str} {x name qual y z:PySem.Str} {M:PySem.Model} {A:PySem.Around} {E Q:PySem.Value->PySem.Shared->Prop} {op:PySem.CmpOp} {rest es ifs AU:List PySem.Expr} {mA mg:PySem.Str->Option PySem.Value} {env:PySem.Env} {kw:List (PySem.Str×PySem.Value)} {fd:PySem.FuncData} {outer:List PySem.Env} {apos cpos:PySem.Pos} {sc scope:PySem.Scope} {T:String} {XP:(PySem.Str->Option PySem.Value)->PySem.Heap->Prop} {idx:List Nat} {cl:List (PySem.Str×PySem.Addr)} {R:PySem.Result->PySem.Shared->Prop} {dct:Option PySem.Addr} {G:Array PySem.GenState->Array PySem.GenState->Prop}
theorem hdn {p:Prop} (h:∀ G:Prop,(p->G)->G):p:=h p id
namespace L2
open PySem PySem.Spec PyProof.Rows
abbrev Key:=Sum Int Str
end L2
variable {xs:List (List L2.Key×PySem.Addr×PySem.Value)} {vs:List (L2.Key×PySem.Value)}
namespace L2
open PySem PySem.Spec PyProof.Rows
def AV:Key->Value->Bool
 | .inl k,v=>Value.isInt k v
 | .inr x,v=>Value.isStrOf x v
def BP (w:World):Key->Int
 | .inl k=>hashInt k
 | .inr x=>hashStr w x
theorem cB:∀ {k:Key} {v:Value},AV k v=true->(∃ i t,k=Sum.inl i/\v=Value.int i t)\/(∃ x t,k=Sum.inr x/\v=Value.str x t)
 | .inl i,v,h=>by
  obtain ⟨t,e⟩:=Value.isInt_shape (k:=i) (v:=v) h
  exact .inl ⟨i,t,rfl,e⟩
 | .inr x,v,h=>by
  obtain ⟨t,e⟩:=Value.isStrOf_shape (x:=x) (v:=v) h
  exact .inr ⟨x,t,rfl,e⟩
theorem xW (i:Int) (t:Tok):AV (.inl i) (.int i t)=true:=by simp [AV,Value.isInt]
theorem wW (x:Str) (t:Tok):AV (.inr x) (.str x t)=true:=by simp [AV,Value.isStrOf]
theorem LL (a b:Int):decide ((Sum.inl a:Key)=Sum.inl b)=(a==b):=by
 by_cases e:a=b
 ·subst e;simp
 ·have h:¬(Sum.inl a:Key)=Sum.inl b:=fun q=>e (Sum.inl.inj q)
  rw [Qw h]
  exact (beq_eq_false_iff_ne.mpr e).symm
theorem LM (a b:Str):decide ((Sum.inr a:Key)=Sum.inr b)=decide (a=b):=by
 by_cases e:a=b
 ·subst e;simp
 ·have h:¬(Sum.inr a:Key)=Sum.inr b:=fun q=>e (Sum.inr.inj q)
  rw [Qw h,Qw e]
theorem LN (a:Int) (b:Str):decide ((Sum.inl a:Key)=Sum.inr b)=false:=Qw (fun q=>nomatch q)
theorem LO (a:Str) (b:Int):decide ((Sum.inr a:Key)=Sum.inl b)=false:=Qw (fun q=>nomatch q)
def dz (prog:Program) (w:World):PySem.KeyKind prog w Key where
 is:=AV
 hash:=BP w
 inj:=fun v a b ha hb=>by
  rcases cB ha with ⟨i,t,rfl,rfl⟩ | ⟨x,t,rfl,rfl⟩
  ·rcases cB hb with ⟨j,u,rfl,e⟩ | ⟨y,u,rfl,e⟩
   ·injection e with e1 _;rw [e1]
   ·exact nomatch e
  ·rcases cB hb with ⟨j,u,rfl,e⟩ | ⟨y,u,rfl,e⟩
   ·exact nomatch e
   ·injection e with e1 _;rw [e1]
 byValue:=fun k v h=>by
  rcases cB h with ⟨i,t,rfl,rfl⟩ | ⟨x,t,rfl,rfl⟩<;>rfl
 pyHash:=fun hv h=>by
  rcases cB hv with ⟨i,t,rfl,rfl⟩ | ⟨x,t,rfl,rfl⟩
  ·exact wpAny_pyHash_int h
  ·exact wpAny_pyHash_str h
 eqBool:=fun hu hv h=>by
  rcases cB hu with ⟨i,t,rfl,rfl⟩ | ⟨x,t,rfl,rfl⟩
  ·rcases cB hv with ⟨j,u,rfl,rfl⟩ | ⟨y,u,rfl,rfl⟩
   ·rw [LL] at h;exact wpAny_eqBool_int h
   ·rw [LN] at h;exact SeqAt.EqAt.int_str i t y u _ _ _ _ h
  ·rcases cB hv with ⟨j,u,rfl,rfl⟩ | ⟨y,u,rfl,rfl⟩
   ·rw [LO] at h;exact SeqAt.EqAt.str_int x t j u _ _ _ _ h
   ·rw [LM] at h;exact wpAny_eqBool_str h
 «strs»:=fun k x t v h=>by
  rcases cB h with ⟨i,u,rfl,e⟩ | ⟨y,u,rfl,e⟩
  ·exact nomatch e
  ·injection e with e1 _
   subst e1
   cases v<;>rfl
theorem t8 (prog:Program) (w:World) (i:Int) (t:Tok):(dz prog w).is (.inl i) (.int i t)=true:=xW i t
theorem eQ (prog:Program) (w:World) (x:Str) (t:Tok):(dz prog w).is (.inr x) (.str x t)=true:=wW x t
inductive V where
 | af | bl (b:Bool) | int (i:Int) | str (x:Str) | mh (b:Array UInt8) | zj (b:UInt64) | ref (a:Addr) | ty (n:String)
 deriving DecidableEq
def RelV:V->Value->Prop
 | .af,u=>u=Value.none
 | .bl b,u=>u=Value.bool b
 | .int i,u=>∃ t,u=Value.int i t
 | .str x,u=>∃ t,u=Value.str x t
 | .mh b,u=>∃ t,u=Value.bytes b t
 | .zj b,u=>∃ t,u=Value.float b t
 | .ref a,u=>u=Value.ref a
 | .ty n,u=>u=Value.type n
abbrev ao:List V->List Value->Prop:=Paired RelV
theorem ao.length {xs:List V} {us:List Value} (r:ao xs us):xs.length=us.length:=Paired.length r
theorem ao.get:∀ {xs:List V} {us:List Value} {i:Nat} {x:V},ao xs us->xs[i]? =some x->∃ u,us[i]? =some u/\RelV x u
 | _,_,_,_,.nil,e=>by simp at e
 | _,_,0,_,.cons r _,e=>by simp at e;subst e;exact ⟨_,rfl,r⟩
 | _,_,i+1,x,.cons _ t,e=>by
  obtain ⟨u,h1,h2⟩:=ao.get (i:=i) (x:=x) t (by simpa using e)
  exact ⟨u,by simpa using h1,h2⟩
theorem ao.set {x:V} {u:Value} (r:RelV x u):∀ {xs:List V} {us:List Value} (i:Nat),ao xs us->ao (xs.set i x) (us.set i u)
 | _,_,_,.nil=>.nil
 | _,_,0,.cons _ t=>.cons r t
 | _,_,i+1,.cons q t=>.cons q (ao.set r i t)
theorem ao.append:∀ {xs ys:List V} {us ws:List Value},ao xs us->ao ys ws->ao (xs++ys) (us++ws)
 | _,_,_,_,.nil,s=>s
 | _,_,_,_,.cons r t,s=>.cons r (ao.append t s)
theorem ao.take:∀ {xs:List V} {us:List Value} (n:Nat),ao xs us->ao (xs.take n) (us.take n)
 | _,_,0,_=>.nil
 | _,_,_+1,.nil=>.nil
 | _,_,n+1,.cons r t=>.cons r (ao.take n t)
theorem ao.drop:∀ {xs:List V} {us:List Value} (n:Nat),ao xs us->ao (xs.drop n) (us.drop n)
 | _,_,0,r=>r
 | _,_,_+1,.nil=>.nil
 | _,_,n+1,.cons _ t=>ao.drop n t
def jy:Option V->Option Value->Prop
 | some v,some u=>RelV v u
 | none,none=>True
 | _,_=>False
def KV {κ:Type}:List (κ×V)->List (κ×Value)->Prop:=Paired fun (p:κ×V) (q:κ×Value)=>p.1=q.1/\RelV p.2 q.2
def kV:Key->V
 | .inl i=>.int i
 | .inr x=>.str x
inductive HO where
  | lst (xs:List V)
  | tup (xs:List V)
  | dK (kvs:List (Key×V)) | dT (kvs:List (List Key×V))
  | set (S:Int->Bool) (n:Nat)
  | ins (C dx:Addr) (fs:List (Str×V))
  | own (x:Addr)
  | xd (fs:List (Str×V))
  | met (f x:Addr)
  | Dh (lo hi:Int)
  | c_ (o:Obj) (u:HO)
  | xq (ps:Array Value)
  | ext (φ:Heap->Prop)
abbrev Hp:=Addr->Option HO
end L2
variable {H H':L2.Hp} {o:L2.HO}
namespace L2
open PySem PySem.Spec PyProof.Rows
def upd (H:Hp) (a:Addr) (o:HO):Hp:=fun b=>if b=a then some o else H b
theorem aA:upd H a o a=some o:=by unfold upd;rw [if_pos rfl]
theorem aH (h:b≠a):upd H a o b=H b:=by unfold upd;rw [if_neg h]
theorem jX {u:HO}:upd (upd H a o) a u=upd H a u:=by
 funext b;unfold upd;split<;>rfl
theorem sV {u:HO} (h:H a=some o) (h':H b=some u) (d:o≠u):a≠b:=by
 intro e;subst e;rw [h] at h';exact d (QD h')
theorem aN (h:H a=some o) (h':H b=none):a≠b:=by
 intro e;subst e;rw [h] at h';cases h'
def zk (h:Heap) (a:Addr):Prop:=∀ o,h.get? a=some o->o.dict=none
theorem zk.new {ob:Obj} (h0:ob.isFreed=false) (hd:ob.dict=none):zk (h.push ob) h.objs.size:=fun o q=>by rw [Qd _ h0] at q;cases q;exact hd
def ja (H:Hp) (b:Addr) (ys:List V):Prop:=H b=some (.tup ys)\/∃ o,H b=some (.c_ o (.tup ys))
theorem ja.upd {H:Hp} {b a:Addr} {ys:List V} {o:HO} (r:ja H b ys) (ne:∀ u,H b=some u->b≠a):ja (L2.upd H a o) b ys:=by
 rcases r with r | ⟨ob,r⟩
 ·exact .inl (by rw [aH (ne _ r)];exact r)
 ·exact .inr ⟨ob,by rw [aH (ne _ r)];exact r⟩
section
variable (P:Program) (w:World)
def be (H:Hp) (h:Heap) (a:Addr):HO->Prop
 | .lst xs=>xs.length<=sizeLine/\∃ (its:List Value) (n:Nat),ao xs its/\h.get? a=some {cls:=.type "list",data:=.seq its.toArray n}
 | .tup xs=>(xs.length<=sizeLine/\zk h a)/\∃ its:List Value,ao xs its/\IsTup h a its.toArray
 | .dK kvs=>kvs.length<=sizeLine/\(a==sysModules)=false/\∃ vs,KV kvs vs/\h.DictOf (dz P w) a vs
 | .dT kvs=>kvs.length<=sizeLine/\(a==sysModules)=false/\∃ xs:List (List Key×Addr×Value),
   Paired (fun (p:List Key×V) (q:List Key×Addr×Value)=>p.1=q.1/\ja H q.2.1 (p.1.map kV)/\RelV p.2 q.2.2) kvs xs/\
   ∃ o es ep,h.get? a=some o/\o.ExactDict/\o.data=.dict es ep/\es.toList=xs.map (entryOfKey (tupleKind (dz P w)))/\(xs.map (·.1)).Nodup
 | .set S n=>h.SetOf (intKind P w) a S n
 | .ins C dx fs=>H dx=some (.own a)/\fs.length<=1000/\dx≠a/\h.get? a=some (PySem.W.instObj C dx)/\
   ∃ mA,h.Ns1 dx mA/\(∀ f,jy (fs.lookup f) (mA f))/\PySem.Within mA (fs.map (·.1))
 | .own _=>∃ o,h.get? a=some o
 | .xd fs=>∃ mA,h.Ns1 a mA/\∀ f,jy (fs.lookup f) (mA f)
 | .Dh lo hi=>∃ t u v,h.get? a=some {cls:=.type "range",data:=.fields #[.int lo t,.int hi u,.int 1 v]}
 | .c_ o u=>h.get? a=some o/\be H h a u
 | .xq ps=>h.get? a=some {cls:=.none,data:=.fields ps}
 | .met f x=>h.get? a=some (PySem.W.methodObj (.ref f) (.ref x))
 | .ext φ=>φ h/\(∃ o,h.get? a=some o)/\∀ h1 h2:Heap,φ h1->(∀ o,h1.get? a=some o->h2.get? a=some o)->φ h2
def cj (H:Hp) (h:Heap):Prop:=∀ a o,H a=some o->be P w H h a o
end
theorem be.lt (x:be P w H h a o):a < h.objs.size:=by
 cases o with
 | lst xs=>obtain ⟨_,_,_,_,e⟩:=x;exact Qz e
 | tup xs=>obtain ⟨_,_,_,p⟩:=x;exact p.lt
 | dK kvs=>obtain ⟨_,_,_,_,o,_,_,e,_⟩:=x;exact Qz e
 | dT kvs=>obtain ⟨_,_,_,_,o,_,_,e,_⟩:=x;exact Qz e
 | set S n=>obtain ⟨o,_,_,_,e,_⟩:=x;exact Qz e
 | ins C dx fs=>obtain ⟨_,_,_,e,_⟩:=x;exact Qz e
 | own y=>obtain ⟨_,e⟩:=x;exact Qz e
 | xd fs=>obtain ⟨_,⟨_,_,_,e,_⟩,_⟩:=x;exact Qz e
 | Dh lo hi=>obtain ⟨_,_,_,e⟩:=x;exact Qz e
 | c_ ob u=>obtain ⟨e,_⟩:=x;exact Qz e
 | xq ps=>exact Qz (show h.get? a=some _ from x)
 | met f y=>exact Qz (show h.get? a=some _ from x)
 | ext φ=>obtain ⟨_,⟨_,e⟩,_⟩:=x;exact Qz e
theorem Paired.E3 {α β:Type} {F G:α->β->Prop}:∀ {l₁:List α} {l₂:List β},Paired F l₁ l₂->(∀ a b,F a b->G a b)->Paired G l₁ l₂
 | _,_,.nil,_=>.nil
 | _,_,.cons r t,f=>.cons (f _ _ r) (Paired.E3 t f)
theorem be.stay (x:be P w H h a o) (k:∀ b u,(b=a\/H b=some (.own a))->h.get? b=some u->h'.get? b=some u)
  (ho:∀ b,H b=some (.own a)->H' b=some (.own a)) (ht:∀ b xs,ja H b xs->ja H' b xs):be P w H' h' a o:=by
 induction o with
 | lst xs=>obtain ⟨z,its,n,r,e⟩:=x;exact ⟨z,its,n,r,k _ _ (.inl rfl) e⟩
 | tup xs=>obtain ⟨⟨z,nd⟩,its,r,ob,e,c⟩:=x;exact ⟨⟨z,fun o q=>by rw [k _ _ (.inl rfl) e] at q;cases q;exact nd _ e⟩,its,r,ob,k _ _ (.inl rfl) e,c⟩
 | dK kvs=>obtain ⟨z,y,vs,r,ob,es,ep,e,c⟩:=x;exact ⟨z,y,vs,r,ob,es,ep,k _ _ (.inl rfl) e,c⟩
 | dT kvs=>
  obtain ⟨z,y,xs,r,ob,es,ep,e,c⟩:=x
  exact ⟨z,y,xs,Paired.E3 r fun p q z=>⟨z.1,ht _ _ z.2.1,z.2.2⟩,ob,es,ep,k _ _ (.inl rfl) e,c⟩
 | set S n=>obtain ⟨ob,es,ep,t,e,c⟩:=x;exact ⟨ob,es,ep,t,k _ _ (.inl rfl) e,c⟩
 | ins C dx fs=>
  obtain ⟨d,z,ne,e,mA,⟨od,es,ep,e2,c⟩,r⟩:=x
  exact ⟨ho _ d,z,ne,k _ _ (.inl rfl) e,mA,⟨od,es,ep,k _ _ (.inr d) e2,c⟩,r⟩
 | own y=>obtain ⟨ob,e⟩:=x;exact ⟨ob,k _ _ (.inl rfl) e⟩
 | xd fs=>obtain ⟨mA,⟨od,es,ep,e,c⟩,r⟩:=x;exact ⟨mA,⟨od,es,ep,k _ _ (.inl rfl) e,c⟩,r⟩
 | Dh lo hi=>obtain ⟨t,u,v,e⟩:=x;exact ⟨t,u,v,k _ _ (.inl rfl) e⟩
 | c_ ob u ih=>obtain ⟨e,q⟩:=x;exact ⟨k _ _ (.inl rfl) e,ih q⟩
 | xq ps=>
  have e:h.get? a=some {cls:=.none,data:=.fields ps}:=x
  show h'.get? a=some {cls:=.none,data:=.fields ps}
  exact k a _ (.inl rfl) e
 | met f y=>
  have e:h.get? a=some (PySem.W.methodObj (.ref f) (.ref y)):=x
  show h'.get? a=some (PySem.W.methodObj (.ref f) (.ref y))
  exact k a _ (.inl rfl) e
 | ext φ=>obtain ⟨p,⟨o,e⟩,st⟩:=x;exact ⟨st _ _ p fun o q=>k _ _ (.inl rfl) q,⟨o,k _ _ (.inl rfl) e⟩,st⟩
theorem cj.lt (x:cj P w H h) (e:H a=some o):a < h.objs.size:=(x a o e).lt
theorem cj.fresh (x:cj P w H h) (e:h.objs.size<=a):H a=none:=by
 cases q:H a with
 | none=>rfl
 | some u=>exact absurd (Nat.lt_of_lt_of_le (x.lt q) e) (Nat.lt_irrefl _)
theorem cj.kept (x:cj P w H h) (k:∀ b u,h.get? b=some u->h'.get? b=some u):cj P w H h':=fun a o e=>
 (x a o e).stay (fun b u _ q=>k b u q) (fun _ q=>q) fun _ _ q=>q
theorem cj.laid (x:cj P w H h) (k:∀ b u,h.get? b=some u->h'.get? b=some u) (hp:h.objs.size<=a) (new:be P w (upd H a o) h' a o):cj P w (upd H a o) h':=fun b u e=>by
 have hn:=x.fresh hp
 by_cases hb:b=a
 ·subst hb;rw [aA] at e;cases e;exact new
 ·rw [aH hb] at e
  exact (x b u e).stay (fun c v _ q=>k c v q) (fun c q=>by rw [aH (aN q hn)];exact q) fun c xs q=>q.upd fun u hu=>aN hu hn
def Rd (H:Hp) (a:Addr) (u:HO):Prop:=H a=some u\/∃ o,H a=some (.c_ o u)
theorem Rd.ok {u:HO} (r:Rd H a u) (x:cj P w H h):be P w H h a u:=by
 rcases r with r | ⟨o,r⟩
 ·exact x a u r
 ·obtain ⟨_,q⟩:=x a _ r
  exact q
def AW:Option HO->Prop
 | some (.lst _)=>True
 | some (.dK _)=>True
 | some (.dT _)=>True
 | some (.set _ _)=>True
 | some (.ins _ _ _)=>True
 | some (.ext _)=>True
 | _=>False
section
variable {x e:Addr} {o':HO}
theorem cj.write (ok:cj P w H h) (mu:AW (H x)) (he:e=x\/H e=some (.own x)) (k:∀ b u,b≠e->h.get? b=some u->h'.get? b=some u) (v_:∃ u,h'.get? e=some u)
  (new:be P w (upd H x o') h' x o'):cj P w (upd H x o') h':=fun b u q=>by
 have Hu:∀ c y,H c=some (.own y)->c≠x:=fun c y r z=>by subst z;rw [r] at mu;exact mu
 have VY:∀ c xs,H c=some (.tup xs)->c≠x:=fun c xs r z=>by subst z;rw [r] at mu;exact mu
 by_cases hb:b=x
 ·subst hb;rw [aA] at q;cases q;exact new
 ·rw [aH hb] at q
  by_cases zl:b=e
  ·have q':H b=some (.own x):=by
    rcases he with z | z
    ·exact absurd (zl.trans z) hb
    ·rw [zl];exact z
   rw [q] at q';cases q'
   obtain ⟨v,hv⟩:=v_
   exact ⟨v,by rw [zl];exact hv⟩
  ·refine (ok b u q).stay (fun c v hc r=>k c v ?_ r) (fun c r=>by rw [aH (Hu c b r)];exact r) fun c xs r=>r.upd fun _ _ z=>by
    subst z
    rcases r with r | ⟨_,r⟩<;>(rw [r] at mu;exact mu)
   rcases hc with rfl | hc
   ·exact zl
   ·rintro rfl
    rcases he with z | z
    ·exact Hu c b hc z
    ·rw [hc] at z;cases z;exact hb rfl
end
structure Un (fs ex:List Addr) (H H':Hp) (h h':Heap):Prop where
 keep:∀ b o,h.get? b=some o->H b=none->b ∉ fs->b ∉ ex->h'.get? b=some o
 slot:∀ b o,h.get? b=some o->H b=none->b∈fs->b ∉ ex->∃ sl,h'.get? b=some {o with slots:=sl}
 free:∀ b o,h.get? b=some o->H b=none->b ∉ ex->H' b=none
 there:∀ b o,h.get? b=some o->b ∉ ex->∃ o',h'.get? b=some o'
 tups:∀ b xs,H b=some (.tup xs)->H' b=some (.tup xs)
 jz:∀ b o u,H b=some (.c_ o u)->H' b=some (.c_ o u)
 ko:∀ b ps,H b=some (.xq ps)->∃ more,H' b=some (.xq (ps++more))
section
variable {fs LP ex VZ:List Addr} {H1 H2:Hp} {h1 h2:Heap} {x e:Addr}
theorem Un.any (u:Un fs ex H H1 h h1) {ob:Obj} (q:h.get? b=some ob) (n:H b=none) (hx:b ∉ ex):∃ sl,h1.get? b=some {ob with slots:=sl}:=by
 by_cases hb:b∈fs
 ·exact u.slot b ob q n hb hx
 ·exact ⟨ob.slots,u.keep b ob q n hb hx⟩
theorem Un.trans (a:Un fs ex H H1 h h1) (b:Un fs ex H1 H2 h1 h2):Un fs ex H H2 h h2 where
 keep:=fun c ob q n hc hx=>b.keep c ob (a.keep c ob q n hc hx) (a.free c ob q n hx) hc hx
 slot:=fun c ob q n hc hx=>by
  obtain ⟨sl,e1⟩:=a.slot c ob q n hc hx
  obtain ⟨BQ,e2⟩:=b.slot c _ e1 (a.free c ob q n hx) hc hx
  exact ⟨BQ,e2⟩
 free:=fun c ob q n hx=>by
  obtain ⟨o',e1⟩:=a.there c ob q hx
  exact b.free c o' e1 (a.free c ob q n hx) hx
 there:=fun c ob q hx=>by
  obtain ⟨o',e1⟩:=a.there c ob q hx
  exact b.there c o' e1 hx
 tups:=fun c xs q=>b.tups c xs (a.tups c xs q)
 jz:=fun c ob xs q=>b.jz c ob xs (a.jz c ob xs q)
 ko:=fun c ps q=>by
  obtain ⟨m1,e1⟩:=a.ko c ps q
  obtain ⟨m2,e2⟩:=b.ko c _ e1
  exact ⟨m1++m2,by rw [e2,Array.append_assoc]⟩
theorem Un.kept (k:∀ b u,h.get? b=some u->h'.get? b=some u):Un fs ex H H h h':=
 ⟨fun b ob q _ _ _=>k b ob q,fun b ob q _ _ _=>⟨ob.slots,k b ob q⟩,fun _ _ _ n _=>n,fun b ob q _=>⟨ob,k b ob q⟩,fun _ _ q=>q,fun _ _ _ q=>q,fun _ ps q=>⟨#[],by rw [q];simp⟩⟩
theorem Un.refl:Un fs ex H H h h:=Un.kept fun _ _ q=>q
theorem Un.laid (k:∀ b u,h.get? b=some u->h'.get? b=some u) (hp:h.objs.size<=a) (hn:H a=none):Un fs ex H (upd H a o) h h' where
 keep:=fun b u q _ _ _=>k b u q
 slot:=fun b u q _ _ _=>⟨u.slots,k b u q⟩
 free:=fun b u q n _=>by rw [aH (Nat.ne_of_lt (Nat.lt_of_lt_of_le (Qz q) hp))];exact n
 there:=fun b u q _=>⟨u,k b u q⟩
 tups:=fun b xs q=>by rw [aH (aN q hn)];exact q
 jz:=fun b u xs q=>by rw [aH (aN q hn)];exact q
 ko:=fun b ps q=>⟨#[],by rw [aH (aN q hn),q];simp⟩
theorem Un.write (mu:AW (H x)) (he:e=x\/H e=some (.own x)) (k:∀ b u,b≠e->h.get? b=some u->h'.get? b=some u) (v_:∃ u,h'.get? e=some u):Un fs ex H (upd H x o) h h':=by
 have hx:∀ b,H b=none->b≠x:=fun b n z=>by subst z;rw [n] at mu;exact mu
 have hb:∀ b,H b=none->b≠e:=fun b n z=>by
  subst z
  rcases he with r | r
  ·exact hx b n r
  ·rw [n] at r;cases r
 have hm:∀ b u,H b=some u->¬AW (some u)->b≠x:=fun b u q nm z=>by subst z;rw [q] at mu;exact nm mu
 refine ⟨fun b u q n _ _=>k b u (hb b n) q,fun b u q n _ _=>⟨u.slots,k b u (hb b n) q⟩,fun b u q n _=>by rw [aH (hx b n)];exact n,fun b u q _=>?_,
  fun b xs q=>by rw [aH (hm b _ q fun z=>z)];exact q,fun b u xs q=>by rw [aH (hm b _ q fun z=>z)];exact q,fun b ps q=>⟨#[],by rw [aH (hm b _ q fun z=>z),q];simp⟩⟩
 by_cases zl:b=e
 ·subst zl;exact v_
 ·exact ⟨u,k b u zl q⟩
end
def AX (h:Heap) (H:Hp):List Addr:=(List.range h.objs.size).filter fun a=>(H a).isSome
def wc (h:Heap) (H:Hp):Heap:=PySem.W.hideAll h (AX h H)
theorem y8 (h:Heap) (H:Hp):(wc h H).objs.size=h.objs.size:=PySem.W.hideAll_size _ _
theorem zJ {o:Obj} (e:h.get? b=some o) (n:H b=none):(wc h H).get? b=some o:=
 PySem.W.hideAll_get _ e fun hm=>by
  have q:(H b).isSome=true:=(List.mem_filter.mp hm).2
  rw [n] at q;simp at q
theorem LQ {o:Obj} (e:(wc h H).get? b=some o):h.get? b=some o/\H b=none:=by
 have e':h.get? b=some o:=PySem.W.of_hideAll (AX h H) e
 refine ⟨e',?_⟩
 cases q:H b with
 | none=>rfl
 | some x=>
  have hm:b∈AX h H:=List.mem_filter.mpr ⟨List.mem_range.mpr (Qz e'),by simp [q]⟩
  have z:(wc h H).get? b=none:=PySem.W.hideAll_none (AX h H) hm
  rw [z] at e;cases e
structure Mod (K:Q0) (mg:Str->Option Value) (base:Heap):Prop where
 xu:K.In base
 glob:base.Ns mainGlobals mg
 blt:∃ mb,base.Ns builtinsNs mb/\∀ x:Str,x≠"__name__"->mb x=bootBuiltins x
 nolimit:base.NoLimit
structure Cx where
 prog:Program
 w:World
 K:Q0
 mg:Str->Option Value
 base:Heap
 A:Around
 N:List Str
 s₀:Shared
 H₀:Hp
 env:Env
 outer:List Env
 stack:List Env
 ex:List Addr
 fn:Str->Bool
 calm:Bool
 pn:List (Addr×Obj)
 xe:Value->Shared->Prop
end L2
variable {X:L2.Cx}
namespace L2
open PySem PySem.Spec PyProof.Rows
def gu (l:List Env):List Addr:=l.filterMap (·.frame)
abbrev Cx.fs (X:Cx):List Addr:=gu X.outer
def BR (sc:Scope) (x:Str):Prop:=sc.names.lookup x=some .local\/sc.names.lookup x=some .cell\/sc.names.lookup x=some .free
def Loc (sc:Scope) (x:Str):Prop:=sc.names.lookup x=some .local\/sc.names.lookup x=some .cell
def Look (env:Env) (h:Heap) (m:Str->Option Value) (x:Str) (u:Value):Prop:=
 (env.kindOf x=some .local/\m x=some u)\/((env.kindOf x=some .cell\/env.kindOf x=some .free)/\∃ c,env.cells.lookup x=some c/\h.IsCell c (some u))
structure Cx.Ok (X:Cx):Prop where
 mod:Mod X.K X.mg X.base
 kind:X.env.scope.kind=.function
 glob:X.env.globals=mainGlobals
 blt:X.env.builtins=builtinsNs
 above:X.s₀.heap.objs.size<=X.env.locals
 inj:∀ x y c,X.env.cells.lookup x=some c->X.env.cells.lookup y=some c->x=y
 has:∀ x,(X.env.kindOf x=some .cell\/X.env.kindOf x=some .free)->∃ c,X.env.cells.lookup x=some c
 zm:∀ x c,X.fn x=true->X.env.cells.lookup x=some c->X.s₀.heap.objs.size<=c
 hd:X.calm=true->X.A.handled=none
 frames:X.A.frames=some X.stack
 AZ:X.stack=X.outer\/(X.stack=X.env::X.outer/\X.env.frame=some X.env.locals)
 Di:∀ b∈X.ex,b≠X.env.locals/\∀ x c,X.env.cells.lookup x=some c->c≠b
 bs:∀ b o,X.base.get? b=some o->X.s₀.heap.get? b=some o/\X.H₀ b=none
 rm:X.base.objs.size<=X.s₀.heap.objs.size
 zo:∀ b o,X.base.get? b=some o->b ∉ X.ex
 A0:∀ b∈X.ex,b ∉ X.fs
 mi:X.s₀.heap.FunFrames X.base X.outer
 we:∀ b∈X.fs,X.H₀ b=none
structure Inv (X:Cx) (pins:List (Addr×Obj)) (σ:List (Option V)) (H:Hp) (s:Shared):Prop where
 ok:X.Ok
 os:s.os=X.s₀.os
 bare:AllBare s.gens
 base:Un X.fs X.ex X.H₀ H X.s₀.heap s.heap
 loc:∃ m,s.heap.Ns X.env.locals m/\∀ (i:Nat) (x:Str) (v:V),X.N[i]? =some x->σ[i]? =some (some v)->BR X.env.scope x->∃ u,RelV v u/\Look X.env s.heap m x u
 cell:∀ x c,X.env.cells.lookup x=some c->∃ v,s.heap.IsCell c v
 free:H X.env.locals=none
 kq:∀ x c,X.env.cells.lookup x=some c->H c=none
 pin:∀ p∈X.pn++pins,s.heap.get? p.1=some p.2/\H p.1=none/\p.1≠X.env.locals/\p.1 ∉ X.fs/\∀ v,p.2.data≠.cell v
 hok:cj X.prog X.w H s.heap
 len:σ.length=X.N.length
section
variable {σ:List (Option V)}
theorem Cx.Ok.LS (ok:X.Ok) {o:Obj} (e:X.base.get? b=some o):b ∉ X.fs:=fun hb=>by
 have:=(ok.mi.mem hb).1
 rw [e] at this;cases this
theorem Inv.bs (I:Inv X pins σ H s):∀ b o,X.base.get? b=some o->s.heap.get? b=some o/\H b=none:=fun b o e=>
 ⟨I.base.keep b o (I.ok.bs b o e).1 (I.ok.bs b o e).2 (I.ok.LS e) (I.ok.zo b o e),I.base.free b o (I.ok.bs b o e).1 (I.ok.bs b o e).2 (I.ok.zo b o e)⟩
theorem Inv.bk (I:Inv X pins σ H s):∀ b o,X.base.get? b=some o->s.heap.get? b=some o:=fun b o e=>(I.bs b o e).1
theorem Inv.mod (I:Inv X pins σ H s):Mod X.K X.mg X.base:=I.ok.mod
theorem Inv.bx (I:Inv X pins σ H s):X.K.In s.heap:=I.ok.mod.xu.keeps I.bk
theorem Inv.lt (I:Inv X pins σ H s):X.env.locals < s.heap.objs.size:=let ⟨_,hn,_⟩:=I.loc;hn.lt
theorem Inv.sz (I:Inv X pins σ H s):X.s₀.heap.objs.size<=s.heap.objs.size:=Nat.le_trans I.ok.above (Nat.le_of_lt I.lt)
theorem Inv.LU (I:Inv X pins σ H s) (h:s.heap.objs.size<=a):a ∉ X.fs:=fun hb=>by
 obtain ⟨_,o,ho,_⟩:=I.ok.mi.mem hb
 exact absurd (Nat.lt_of_lt_of_le (Qz ho) (Nat.le_trans I.sz h)) (Nat.lt_irrefl _)
theorem Inv.wg (I:Inv X pins σ H s):∀ x c,X.env.cells.lookup x=some c->c≠X.env.locals:=fun x c e z=>by
 obtain ⟨v,o,ho,hd⟩:=I.cell x c e
 obtain ⟨m,⟨o',es,ep,kr,E4,_⟩,_⟩:=I.loc
 rw [z,kr] at ho;cases ho;rw [E4] at hd;cases hd
theorem Inv.mi (I:Inv X pins σ H s):s.heap.FunFrames X.base X.outer:=by
 have all:∀ (l:List Env),(∀ b∈gu l,b∈X.fs)->X.s₀.heap.FunFrames X.base l->s.heap.FunFrames X.base l:=by
  intro l
  induction l with
  | nil=>intro _ _;trivial
  | cons env r ih=>
   intro hs hl
   obtain ⟨hk,⟨L,o,hf,hn,ho,hd⟩,hr⟩:=hl
   have hL:L∈X.fs:=hs L (by unfold gu;rw [List.filterMap_cons,hf];exact List.mem_cons_self)
   obtain ⟨sl,e⟩:=I.base.slot L o ho (I.ok.we L hL) hL fun z=>I.ok.A0 L z hL
   exact ⟨hk,⟨L,_,hf,hn,e,hd⟩,ih (fun b hb=>hs b (by unfold gu;rw [List.filterMap_cons,hf];exact Qh _ hb)) hr⟩
 exact all X.outer (fun _ hb=>hb) I.ok.mi
theorem Inv.stack (I:Inv X pins σ H s):s.heap.FunFrames X.base X.stack:=by
 rcases I.ok.AZ with e | ⟨e,hf⟩
 ·rw [e];exact I.mi
 ·rw [e]
  obtain ⟨m,hn,_⟩:=I.loc
  refine .cons (by rw [I.ok.kind];decide) hf hn ?_ I.mi
  exact Heap.get?_none_of_le (Nat.le_trans I.ok.rm I.ok.above)
theorem Inv.BS (I:Inv X pins σ H s):∀ b∈gu X.stack,b∈X.env.locals::X.fs:=fun b hb=>by
 rcases I.ok.AZ with e | ⟨e,hf⟩
 ·rw [e] at hb;exact Qh _ hb
 ·rw [e] at hb
  unfold gu at hb
  rw [List.filterMap_cons,hf] at hb
  exact hb
theorem Inv.Dj (I:Inv X pins σ H s):∀ b∈gu X.stack,H b=none:=fun b hb=>by
 rcases Qp.mp (I.BS b hb) with e | hb
 ·rw [e];exact I.free
 ·obtain ⟨_,o,ho,_⟩:=I.ok.mi.mem hb
  exact I.base.free b o ho (I.ok.we b hb) fun z=>I.ok.A0 b z hb
theorem Inv.step {g':Array GenState} {d':Drawn} (I:Inv X pins σ H s)
  (ug:∀ b∈ch,(b∈X.ex\/X.s₀.heap.objs.size<=b)/\b≠X.env.locals/\(∀ x c,X.env.cells.lookup x=some c->c≠b)/\∀ p∈X.pn++pins,p.1≠b)
  (keep:∀ b o,b≠X.env.locals->b ∉ X.fs->b ∉ ch->s.heap.get? b=some o->H b=none->h'.get? b=some o)
  (slot:∀ b o,b≠X.env.locals->b∈X.fs->b ∉ ch->s.heap.get? b=some o->H b=none->∃ sl,h'.get? b=some {o with slots:=sl}) (free:∀ b o,b ∉ ch->s.heap.get? b=some o->H b=none->H' b=none)
  (there:∀ b o,b ∉ ch->s.heap.get? b=some o->∃ o',h'.get? b=some o')
  (tups:∀ b xs,H b=some (.tup xs)->H' b=some (.tup xs)) (jz:∀ b o u,H b=some (.c_ o u)->H' b=some (.c_ o u)) (ko:∀ b ps,H b=some (.xq ps)->∃ more,H' b=some (.xq (ps++more)))
  (ns:∀ m,s.heap.Ns X.env.locals m->h'.Ns X.env.locals m) (hok:cj X.prog X.w H' h') (hg:AllBare g'):
  Inv X pins σ H' {s with heap:=h',gens:=g',drawn:=d',toks:=t'}:=by
 have xw:∀ b o,X.s₀.heap.get? b=some o->b≠X.env.locals:=fun b o e=>Nat.ne_of_lt (Nat.lt_of_lt_of_le (Qz e) I.ok.above)
 have Dk:∀ b o,X.s₀.heap.get? b=some o->b ∉ X.ex->b ∉ ch:=fun b o e hx hb=>by
  rcases (ug b hb).1 with z | z
  ·exact hx z
  ·exact absurd (Nat.lt_of_lt_of_le (Qz e) z) (Nat.lt_irrefl _)
 have cellK:∀ x c,X.env.cells.lookup x=some c->∀ v,s.heap.IsCell c v->h'.IsCell c v:=fun x c e v ⟨o,ho,hd⟩=>by
  have rq:c ∉ ch:=fun z=>(ug c z).2.2.1 x c e rfl
  by_cases hc:c∈X.fs
  ·obtain ⟨sl,q⟩:=slot c o (I.wg x c e) hc rq ho (I.kq x c e)
   exact ⟨_,q,hd⟩
  ·exact ⟨o,keep c o (I.wg x c e) hc rq ho (I.kq x c e),hd⟩
 refine ⟨I.ok,I.os,hg,⟨fun b o e n hb hx=>?_,fun b o e n hb hx=>?_,fun b o e n hx=>?_,fun b o e hx=>?_,fun b xs e=>tups b xs (I.base.tups b xs e),fun b o xs e=>jz b o xs (I.base.jz b o xs e),fun b ps e=>?_⟩,?_,fun x c e=>?_,?_,fun x c e=>?_,fun p hp=>?_,hok,I.len⟩
 ·exact keep b o (xw b o e) hb (Dk b o e hx) (I.base.keep b o e n hb hx) (I.base.free b o e n hx)
 ·obtain ⟨sl,e1⟩:=I.base.slot b o e n hb hx
  obtain ⟨BQ,e2⟩:=slot b _ (xw b o e) hb (Dk b o e hx) e1 (I.base.free b o e n hx)
  exact ⟨BQ,e2⟩
 ·obtain ⟨o',e1⟩:=I.base.there b o e hx
  exact free b o' (Dk b o e hx) e1 (I.base.free b o e n hx)
 ·obtain ⟨o',e1⟩:=I.base.there b o e hx
  exact there b o' (Dk b o e hx) e1
 ·obtain ⟨m1,e1⟩:=I.base.ko b ps e
  obtain ⟨m2,e2⟩:=ko b _ e1
  exact ⟨m1++m2,by rw [e2,Array.append_assoc]⟩
 ·obtain ⟨m,hn,hl⟩:=I.loc
  refine ⟨m,ns m hn,fun i x v e1 e2 e3=>?_⟩
  obtain ⟨u,r,l⟩:=hl i x v e1 e2 e3
  refine ⟨u,r,?_⟩
  rcases l with l | ⟨k,c,e,z⟩
  ·exact .inl l
  ·exact .inr ⟨k,c,e,cellK x c e _ z⟩
 ·obtain ⟨v,z⟩:=I.cell x c e
  exact ⟨v,cellK x c e v z⟩
 ·obtain ⟨m,⟨o,_,_,ho,_⟩,_⟩:=I.loc
  exact free _ o (fun z=>(ug _ z).2.1 rfl) ho I.free
 ·obtain ⟨v,o,ho,hd⟩:=I.cell x c e
  exact free c o (fun z=>(ug c z).2.2.1 x c e rfl) ho (I.kq x c e)
 ·obtain ⟨e,n,ne,nf,d⟩:=I.pin p hp
  have rq:p.1 ∉ ch:=fun z=>(ug p.1 z).2.2.2 p hp rfl
  exact ⟨keep p.1 p.2 ne nf rq e n,free p.1 p.2 rq e n,ne,nf,d⟩
theorem Inv.un (I:Inv X pins σ H s) (u:Un X.fs [] H H' s.heap h') (hok:cj X.prog X.w H' h'):Inv X pins σ H' {s with heap:=h',toks:=t'}:=by
 obtain ⟨m,⟨o,es,ep,ho,r⟩,_⟩:=id I.loc
 obtain ⟨sl,hL⟩:=u.any ho I.free (by simp)
 exact I.step (g':=s.gens) (d':=s.drawn) (ch:=[]) (fun _ z=>nomatch z) (fun b o _ hb _ e n=>u.keep b o e n hb (by simp)) (fun b o _ hb _ e n=>u.slot b o e n hb (by simp)) (fun b o _ e n=>u.free b o e n (by simp)) (fun b o _ e=>u.there b o e (by simp)) u.tups u.jz u.ko (fun m' hm=>by
  obtain ⟨o',xy,A1,kr,r'⟩:=hm
  rw [ho] at kr;cases kr
  exact ⟨_,xy,A1,hL,r'⟩) hok I.bare
theorem Inv.call {g':Array GenState} {d':Drawn} (I:Inv X pins σ H s) (u:Un (gu X.stack) ch H H' s.heap h') (hok:cj X.prog X.w H' h') (hg:AllBare g')
  (ug:∀ b∈ch,(b∈X.ex\/X.s₀.heap.objs.size<=b)/\b≠X.env.locals/\(∀ x c,X.env.cells.lookup x=some c->c≠b)/\∀ p∈X.pn++pins,p.1≠b):
  Inv X pins σ H' {s with heap:=h',gens:=g',drawn:=d',toks:=t'}:=by
 obtain ⟨m,⟨o,es,ep,ho,r⟩,_⟩:=id I.loc
 obtain ⟨sl,hL⟩:=u.any ho I.free fun z=>(ug _ z).2.1 rfl
 exact I.step (ch:=ch) ug (fun b o hL hb hc e n=>u.keep b o e n (fun z=>(Qp.mp (I.BS b z)).elim hL hb) hc) (fun b o _ _ hc e n=>u.any e n hc) (fun b o hc e n=>u.free b o e n hc) (fun b o hc e=>u.there b o e hc) u.tups u.jz u.ko (fun m' hm=>by
  obtain ⟨o',xy,A1,kr,r'⟩:=hm
  rw [ho] at kr;cases kr
  exact ⟨_,xy,A1,hL,r'⟩) hok hg
theorem Inv.turned {it:Addr} (I:Inv X pins σ H s) (k:∀ b o,b≠it->s.heap.get? b=some o->h'.get? b=some o) (hn:H it=none) (hL:it≠X.env.locals)
  (h1:it∈X.ex\/X.s₀.heap.objs.size<=it) (h2:∀ x c,X.env.cells.lookup x=some c->c≠it) (h3:∀ p∈X.pn++pins,p.1≠it):Inv X pins σ H {s with heap:=h',toks:=t'}:=by
 have Hv:∀ b u,H b=some u->b≠it:=fun b u e z=>by rw [z,hn] at e;cases e
 refine I.step (g':=s.gens) (d':=s.drawn) (ch:=[it]) (fun b hb=>?_) (fun b o _ _ hc e _=>k b o (fun z=>hc (by simp [z])) e) (fun b o _ _ hc e _=>⟨o.slots,k b o (fun z=>hc (by simp [z])) e⟩) (fun _ _ _ _ n=>n)
  (fun b o hc e=>⟨o,k b o (fun z=>hc (by simp [z])) e⟩) (fun _ _ e=>e) (fun _ _ _ e=>e) (fun b ps e=>⟨#[],by rw [e];simp⟩) (fun m hm=>?_) (fun b u e=>?_) I.bare
 ·have e:b=it:=by simpa using hb
  subst e
  exact ⟨h1,hL,h2,h3⟩
 ·obtain ⟨o,es,ep,ho,r⟩:=hm
  exact ⟨o,es,ep,k _ o (Ne.symm hL) ho,r⟩
 ·refine (I.hok b u e).stay (fun c v hc q=>k c v ?_ q) (fun _ q=>q) fun _ _ q=>q
  rcases hc with z | z
  ·rw [z];exact Hv b u e
  ·exact Hv c _ z
theorem Inv.tok (I:Inv X pins σ H s) (t:Nat):Inv X pins σ H {s with toks:=t}:=I.un (h':=s.heap) (t':=t) Un.refl I.hok
theorem Inv.kept {t':Nat} (I:Inv X pins σ H s) (k:∀ b u,s.heap.get? b=some u->h'.get? b=some u):Inv X pins σ H {s with heap:=h',toks:=t'}:=I.un (Un.kept k) (I.hok.kept k)
theorem Inv.laid {a:Addr} {o:HO} {t':Nat} (I:Inv X pins σ H s) (k:∀ b u,s.heap.get? b=some u->h'.get? b=some u) (hp:s.heap.objs.size<=a) (new:be X.prog X.w (upd H a o) h' a o):
  Inv X pins σ (upd H a o) {s with heap:=h',toks:=t'}:=I.un (Un.laid k hp (I.hok.fresh hp)) (I.hok.laid k hp new)
theorem Inv.write {x e:Addr} {o:HO} {t':Nat} (I:Inv X pins σ H s) (mu:AW (H x)) (he:e=x\/H e=some (.own x)) (k:∀ b u,b≠e->s.heap.get? b=some u->h'.get? b=some u) (v_:∃ u,h'.get? e=some u)
  (new:be X.prog X.w (upd H x o) h' x o):Inv X pins σ (upd H x o) {s with heap:=h',toks:=t'}:=I.un (Un.write mu he k v_) (I.hok.write mu he k v_ new)
theorem Inv.Hw {Hx:List (Addr×Obj)} (I:Inv X pins σ H s) (h:∀ p∈Hx,s.heap.get? p.1=some p.2/\H p.1=none/\p.1≠X.env.locals/\p.1 ∉ X.fs/\∀ v,p.2.data≠.cell v):Inv X Hx σ H s:=
 ⟨I.ok,I.os,I.bare,I.base,I.loc,I.cell,I.free,I.kq,fun p hp=>(List.mem_append.mp hp).elim (fun z=>I.pin p (List.mem_append_left _ z)) (h p),I.hok,I.len⟩
theorem mS (hN:N.Nodup) (a:N[i]? =some x) (b:N[j]? =some x):i=j:=by
 obtain ⟨h1,e1⟩:=List.getElem?_eq_some_iff.mp a
 obtain ⟨h2,e2⟩:=List.getElem?_eq_some_iff.mp b
 exact (List.getElem_inj hN).mp (e1.trans e2.symm)
theorem j9 {v:V} {Q:Unit->Shared->Prop} (I:Inv X pins σ H s) (hN:X.N.Nodup) (hi:X.N[i]? =some x) (hx:Loc X.env.scope x) (r:RelV v u)
  (h:∀ s',Inv X pins (σ.set i (some v)) H s'->(∃ a,Heap.SameBut a s.heap s'.heap/\(a=X.env.locals\/X.env.cells.lookup x=some a))->Q () s') (hf:X.fn x=true\/X.env.scope.names.lookup x=some .local:=by first | exact .inl rfl | exact .inr rfl | assumption):wpAny M A (storeName X.env x u) Q E s:=by
 obtain ⟨m,hn,hl⟩:=id I.loc
 have LV:(X.env.scope.kind==.class||(X.env.scope.kind==.module&&X.env.locals !=X.env.globals))=false:=by rw [I.ok.kind];rfl
 have Hy:i < σ.length:=by rw [I.len];exact (List.getElem?_eq_some_iff.mp hi).1
 have wg:=I.wg
 have tracked:∀ {a:Addr} {h':Heap},(∃ o,s.heap.get? a=some o/\H a=none)->Heap.SameBut a s.heap h'->cj X.prog X.w H h':=fun {a h'} ha hs b ob e=>by
  obtain ⟨_,_,Hz⟩:=ha
  refine (I.hok b ob e).stay (fun c w' hc q=>(hs.2 c ?_).trans q) (fun _ q=>q) fun _ _ q=>q
  rintro rfl
  rcases hc with rfl | hc
  ·rw [Hz] at e;cases e
  ·rw [Hz] at hc;cases hc
 rcases hx with hk | hk
 ·refine wpAny_storeName_local hk hn (fun h' hn' hs=>?_) LV
  obtain ⟨oL,_,_,LW,_⟩:=id hn
  refine h _ ⟨I.ok,I.os,I.bare,⟨fun b o e n hb hx=>?_,fun b o e n hb hx=>?_,I.base.free,fun b o e hx=>?_,I.base.tups,I.base.jz,I.base.ko⟩,⟨_,hn',fun j y v' e1 e2 e3=>?_⟩,fun y c e=>?_,I.free,I.kq,fun p hp=>?_,tracked ⟨oL,LW,I.free⟩ hs,by simpa using I.len⟩ ⟨_,hs,.inl rfl⟩
  ·exact (hs.2 b (Nat.ne_of_lt (Nat.lt_of_lt_of_le (Qz e) I.ok.above))).trans (I.base.keep b o e n hb hx)
  ·obtain ⟨sl,e1⟩:=I.base.slot b o e n hb hx
   exact ⟨sl,(hs.2 b (Nat.ne_of_lt (Nat.lt_of_lt_of_le (Qz e) I.ok.above))).trans e1⟩
  ·obtain ⟨o',e1⟩:=I.base.there b o e hx
   exact ⟨o',(hs.2 b (Nat.ne_of_lt (Nat.lt_of_lt_of_le (Qz e) I.ok.above))).trans e1⟩
  ·by_cases hj:j=i
   ·subst hj
    rw [hi] at e1;cases e1
    rw [List.getElem?_set_self Hy] at e2
    cases e2
    exact ⟨u,r,.inl ⟨hk,by simp⟩⟩
   ·rw [List.getElem?_set_ne (Ne.symm hj)] at e2
    obtain ⟨u',r',q⟩:=hl j y v' e1 e2 e3
    refine ⟨u',r',?_⟩
    rcases q with ⟨k,e⟩ | ⟨k,c,e,z⟩
    ·refine .inl ⟨k,?_⟩
     have:y≠x:=fun e=>hj (mS hN e1 (e▸hi))
     simp [this,e]
    ·exact .inr ⟨k,c,e,z.sameBut hs (wg y c e)⟩
  ·obtain ⟨w',z⟩:=I.cell y c e
   exact ⟨w',z.sameBut hs (wg y c e)⟩
  ·obtain ⟨e,n,ne,nf,d⟩:=I.pin p hp
   exact ⟨(hs.2 p.1 ne).trans e,n,ne,nf,d⟩
 ·have E5:X.fn x=true:=by
   rcases hf with z | z
   ·exact z
   ·rw [z] at hk;cases hk
  obtain ⟨c,hc⟩:=I.ok.has x (.inl hk)
  obtain ⟨w',z⟩:=I.cell x c hc
  refine wpAny_storeName_cell I.ok.kind hk hc z (fun h' zp hs=>?_)
  obtain ⟨oc,HA,LX⟩:=id z
  refine h {s with heap:=h'} ⟨I.ok,I.os,I.bare,⟨fun b o e n hb hx=>?_,fun b o e n hb hx=>?_,I.base.free,fun b o e hx=>?_,I.base.tups,I.base.jz,I.base.ko⟩,⟨m,hn.sameBut hs (Ne.symm (wg x c hc)),fun j y v' e1 e2 e3=>?_⟩,fun y c' e=>?_,I.free,I.kq,fun p hp=>?_,tracked ⟨oc,HA,I.kq x c hc⟩ hs,by simpa using I.len⟩ ⟨c,hs,.inr hc⟩
  ·exact (hs.2 b (Nat.ne_of_lt (Nat.lt_of_lt_of_le (Qz e) (I.ok.zm x c E5 hc)))).trans (I.base.keep b o e n hb hx)
  ·obtain ⟨sl,e1⟩:=I.base.slot b o e n hb hx
   exact ⟨sl,(hs.2 b (Nat.ne_of_lt (Nat.lt_of_lt_of_le (Qz e) (I.ok.zm x c E5 hc)))).trans e1⟩
  ·obtain ⟨o',e1⟩:=I.base.there b o e hx
   exact ⟨o',(hs.2 b (Nat.ne_of_lt (Nat.lt_of_lt_of_le (Qz e) (I.ok.zm x c E5 hc)))).trans e1⟩
  ·by_cases hj:j=i
   ·subst hj
    rw [hi] at e1;cases e1
    rw [List.getElem?_set_self Hy] at e2
    cases e2
    exact ⟨u,r,.inr ⟨.inl hk,c,hc,zp⟩⟩
   ·rw [List.getElem?_set_ne (Ne.symm hj)] at e2
    obtain ⟨u',r',q⟩:=hl j y v' e1 e2 e3
    refine ⟨u',r',?_⟩
    rcases q with q | ⟨k,c',e,z'⟩
    ·exact .inl q
    ·refine .inr ⟨k,c',e,z'.sameBut hs ?_⟩
     rintro rfl
     exact hj (mS hN e1 (I.ok.inj _ _ _ e hc▸hi))
  ·by_cases HB:c'=c
   ·subst HB;exact ⟨_,zp⟩
   ·obtain ⟨w2,z2⟩:=I.cell y c' e
    exact ⟨w2,z2.sameBut hs HB⟩
  ·obtain ⟨e,n,ne,nf,d⟩:=I.pin p hp
   refine ⟨(hs.2 p.1 ?_).trans e,n,ne,nf,d⟩
   intro q
   rw [q,HA] at e
   have q':oc=p.2:=QD e
   exact d w' (by rw [<- q'];exact LX)
theorem qJ {v:V} {Q:Unit->Shared->Prop} (I:Inv X pins σ H s) (hN:X.N.Nodup) (hi:X.N[i]? =some x) (hx:Loc X.env.scope x) (r:RelV v u)
  (h:∀ s',Inv X pins (σ.set i (some v)) H s'->Q () s') (hf:X.fn x=true\/X.env.scope.names.lookup x=some .local:=by first | exact .inl rfl | exact .inr rfl | assumption):wpAny M A (storeName X.env x u) Q E s:=
 j9 I hN hi hx r (fun s' I' _=>h s' I') hf
theorem Inv.HC {s':Shared} (I:Inv X pins σ H s) (ho:s'.os=s.os) (u:Un (gu X.stack) ch H H' s.heap s'.heap) (hok:cj X.prog X.w H' s'.heap) (hg:AllBare s'.gens)
  (ug:∀ b∈ch,(b∈X.ex\/X.s₀.heap.objs.size<=b)/\b≠X.env.locals/\(∀ x c,X.env.cells.lookup x=some c->c≠b)/\∀ p∈X.pn++pins,p.1≠b):Inv X pins σ H' s':=by
 obtain ⟨h',g',d',t',o'⟩:=s'
 have e:o'=s.os:=ho
 subst e
 exact I.call (g':=g') (t':=t') (d':=d') u hok hg ug
end
abbrev XK:=Value->Option Addr->Hp->Prop
abbrev St:=List (Option V)
end L2
variable {σ:L2.St}
namespace L2
open PySem PySem.Spec PyProof.Rows
abbrev VK:=V->Hp->Prop
abbrev TE:=St->Hp->VK->Prop
end L2
variable {te to:L2.TE} {mj:List (L2.TE×L2.TE)}
namespace L2
open PySem PySem.Spec PyProof.Rows
abbrev TT:=St->Hp->(Bool->Hp->Prop)->Prop
abbrev TA:=St->Hp->(List V->Hp->Prop)->Prop
end L2
variable {ta t:L2.TA} {tA:L2.TT}
namespace L2
open PySem PySem.Spec PyProof.Rows
structure Ends where
 nx:St->Hp->Prop
 rt:VK
 bk:St->Hp->Prop:=fun _ _=>False
 ct:St->Hp->Prop:=fun _ _=>False
abbrev TS:=Ends->St->Hp->Prop
def EP (X:Cx) (pins:List (Addr×Obj)) (σ:St) (Q:VK) (u:Value) (s':Shared):Prop:=∃ v H',Inv X pins σ H' s'/\RelV v u/\Q v H'
def TP (X:Cx) (pins:List (Addr×Obj)) (σ:St) (Q:Bool->Hp->Prop) (b:Bool) (s':Shared):Prop:=∃ H',Inv X pins σ H' s'/\Q b H'
def AP (X:Cx) (pins:List (Addr×Obj)) (σ:St) (Q:List V->Hp->Prop) (us:List Value) (s':Shared):Prop:=∃ vs H',Inv X pins σ H' s'/\ao vs us/\Q vs H'
def SP (X:Cx) (pins:List (Addr×Obj)) (D:Ends) (f:Flow) (s':Shared):Prop:=
 match f with
 | .next=>∃ σ' H',Inv X pins σ' H' s'/\D.nx σ' H'
 | .brk=>∃ σ' H',Inv X pins σ' H' s'/\D.bk σ' H'
 | .cont=>∃ σ' H',Inv X pins σ' H' s'/\D.ct σ' H'
 | .ret u=>∃ v σ' H',Inv X pins σ' H' s'/\RelV v u/\D.rt v H'
def PE (X:Cx) (e:Expr) (t:TE):Prop:=
 ∀ (pins:List (Addr×Obj)) (s:Shared) (σ:St) (H:Hp) (Q:VK),Inv X pins σ H s->t σ H Q->wpAny (model X.prog X.w) X.A (eval e X.env) (EP X pins σ Q) X.xe s
def PT (X:Cx) (e:Expr) (t:TT):Prop:=
 ∀ (pins:List (Addr×Obj)) (s:Shared) (σ:St) (H:Hp) (Q:Bool->Hp->Prop),Inv X pins σ H s->t σ H Q->wpAny (model X.prog X.w) X.A (isTrue e X.env (eval e X.env)) (TP X pins σ Q) X.xe s
def PW (X:Cx) (e:Expr) (t:TT):Prop:=
 ∀ (whole:Sem Value) (pins:List (Addr×Obj)) (s:Shared) (σ:St) (H:Hp) (Q:Bool->Hp->Prop),Inv X pins σ H s->t σ H Q->wpAny (model X.prog X.w) X.A (isTrue e X.env whole) (TP X pins σ Q) X.xe s
theorem PW.pt {t:TT} (h:PW X e t):PT X e t:=h _
def PA (X:Cx) (es:List Expr) (t:TA):Prop:=
 ∀ (pos:Pos) (pins:List (Addr×Obj)) (s:Shared) (σ:St) (H:Hp) (Q:List V->Hp->Prop),Inv X pins σ H s->t σ H Q->wpAny (model X.prog X.w) X.A (spliced (backTo pos (starEach es X.env))) (AP X pins σ Q) X.xe s
def PS (X:Cx) (st:Stmt) (t:TS):Prop:=
 ∀ (pins:List (Addr×Obj)) (s:Shared) (σ:St) (H:Hp) (D:Ends),Inv X pins σ H s->t D σ H->wpAny (model X.prog X.w) X.A (exec st X.env) (SP X pins D) X.xe s
def ku (X:Cx) (st:List Stmt) (t:TS):Prop:=
 ∀ (pins:List (Addr×Obj)) (s:Shared) (σ:St) (H:Hp) (D:Ends),Inv X pins σ H s->t D σ H->wpAny (model X.prog X.w) X.A (execs st X.env) (SP X pins D) X.xe s
theorem aj {t:Sem α} {Q Q':α->Shared->Prop} (h:wpAny M A t Q E s) (hQ:∀ a s,Q a s->Q' a s):wpAny M A t Q' E s:=wpAny_mono h hQ fun _ _ x=>x
section
def LY (i:Nat):TE:=fun σ H Q=>∃ v,σ[i]? =some (some v)/\Q v H
def tC (v:V):TE:=fun _ H Q=>Q v H
theorem LZ {pos:Pos} (hN:X.N[i]? =some x) (hv:BR X.env.scope x) (hd:(x==("__debug__":Str))=false:=by decide) (jr:(x==("__classdict__":Str))=false:=by decide):PE X (.Name x pos) (LY i):=by
 intro pins s σ H Q I h
 obtain ⟨v,e,h⟩:=h
 obtain ⟨m,hn,hl⟩:=I.loc
 obtain ⟨u,r,l⟩:=hl i x v hN e hv
 have fin:EP X pins σ Q u s:=⟨v,H,I,r,h⟩
 rcases l with ⟨hk,hm⟩ | ⟨hk,c,hc,HD⟩
 ·exact wpAny_Name (wpAny_loadName_local I.ok.kind hk hn hm fin) hd
 ·rcases hk with hk | hk
  ·exact wpAny_Name (wpAny_loadName_cell I.ok.kind hk hc HD fin) hd
  ·exact wpAny_Name (wpAny_loadName_free I.ok.kind hk hc HD fin jr) hd
theorem L4 {i j pos}:PE X (.Constant (.int i) j pos) (tC (.int i)):=fun _ _ _ H _ I h=>wpAny_Constant_int ⟨.int i,H,I.tok _,⟨_,rfl⟩,h⟩
theorem L5 {b j pos}:PE X (.Constant (.bool b) j pos) (tC (.bl b)):=fun _ _ _ H _ I h=>Constant_bool ⟨.bl b,H,I,rfl,h⟩
theorem L6 {j pos}:PE X (.Constant .none j pos) (tC .af):=fun _ _ _ H _ I h=>Constant_none ⟨.af,H,I,rfl,h⟩
theorem L7 {x j pos}:PE X (.Constant (.str x) j pos) (tC (.str x)):=fun _ _ _ H _ I h=>Calls.Constant_str ⟨.str x,H,I.tok _,⟨_,rfl⟩,h⟩
def Gl (X:Cx) (x:Str):Prop:=X.env.kindOf x=some .globalImplicit
theorem fD {pos:Pos} (I:Inv X pins σ H s) (hg:Gl X x) (hm:X.mg x=some u) (h:Q u s)
  (hd:(x==("__debug__":Str))=false:=by decide):wpAny (model X.prog X.w) X.A (eval (.Name x pos) X.env) Q E s:=
 Calls.Name_function_global I.ok.kind hg (Calls.loadGlobal_global (by rw [I.ok.glob];exact I.mod.glob.keeps I.bk) hm h) hd
theorem hV {pos:Pos} (I:Inv X pins σ H s) (hg:Gl X x) (hm:X.mg x=none) (hv:bootBuiltins x=some u) (h:Q u s)
  (hn:x≠"__name__":=by decide) (hd:(x==("__debug__":Str))=false:=by decide):wpAny (model X.prog X.w) X.A (eval (.Name x pos) X.env) Q E s:=by
 obtain ⟨mb,h1,h2⟩:=I.mod.blt
 exact Calls.Name_function_global I.ok.kind hg (Calls.loadGlobal_builtin (by rw [I.ok.glob];exact I.mod.glob.keeps I.bk) hm (by rw [I.ok.blt];exact h1.keeps I.bk) ((h2 x hn).trans hv) h) hd
theorem lR {v:V} {pos:Pos} (hg:Gl X x) (hm:X.mg x=some u) (r:RelV v u) (hd:(x==("__debug__":Str))=false:=by decide):PE X (.Name x pos) (tC v):=
 fun _ _ _ H _ I h=>fD I hg hm ⟨v,H,I,r,h⟩ hd
theorem L8 {v:V} {pos:Pos} (hg:Gl X x) (hm:X.mg x=none) (hv:bootBuiltins x=some u) (r:RelV v u) (hn:x≠"__name__":=by decide) (hd:(x==("__debug__":Str))=false:=by decide):PE X (.Name x pos) (tC v):=
 fun _ _ _ H _ I h=>hV I hg hm hv ⟨v,H,I,r,h⟩ hn hd
variable {a b:Expr} {ta tb:TE} {pos:Pos}
def PC (X:Cx) (op:CmpOp) (a b:Expr) (t:TE):Prop:=
 ∀ (pins:List (Addr×Obj)) (s:Shared) (σ:St) (H:Hp) (Q:VK),Inv X pins σ H s->t σ H Q->
  wpAny (model X.prog X.w) X.A (eval a X.env) (fun v s₁=>wpAny (model X.prog X.w) X.A (eval b X.env) (fun u s₂=>wpAny (model X.prog X.w) X.A (compareOp op v u) (EP X pins σ Q) X.xe s₂) X.xe s₁) X.xe s
def tB (t:TE):TT:=fun σ H Q=>t σ H fun x H1=>∃ c,x=.bl c/\Q c H1
theorem L_ {t:TE} (h:PC X op a b t) (h1:behindInMarks op b=false:=by first | exact V0 _ (by decide) (by decide) | rfl):PT X (.Compare a [op] [b] pos) (tB t):=by
 intro pins s σ H Q I hw
 refine wpAny_isTrue_Compare1 (aj (h pins s σ H _ I hw) fun v s1 h1=>aj h1 fun u s2 h2=>aj h2 fun c s3 ⟨x,H1,I1,r1,q1⟩=>?_) h1
 obtain ⟨d,rfl,q⟩:=q1
 cases r1
 exact wpAny_truthy_bool ⟨H1,I1,q⟩
theorem Ma {t:TE} (h:PE X e t) (he:∀ whole,isTrue e X.env whole=(do let v <- whole;standAt e.pos;holding [v] (truthy v)):=by intro _;rfl):PT X e (tB t):=by
 intro pins s σ H Q I hw
 refine isTrue_plain (aj (h pins s σ H _ I hw) fun v s1 ⟨x,H1,I1,r1,q1⟩=>?_) (he _)
 obtain ⟨d,rfl,q⟩:=q1
 cases r1
 exact wpAny_truthy_bool ⟨H1,I1,q⟩
variable {uh:TT}
def HE (t u:TT):TT:=fun σ H Q=>t σ H fun c H1=>if c=true then u σ H1 Q else Q false H1
def E6 (t u:TT):TT:=fun σ H Q=>t σ H fun c H1=>if c=true then Q true H1 else u σ H1 Q
def HF (t:TT):TT:=fun σ H Q=>t σ H fun c H1=>Q (!c) H1
theorem Mb (ha:PT X a tA):PW X (.BoolOp .And [a] pos) tA:=by
 intro wh pins s σ H Q I h
 refine isTrue_and (aj (ha pins s σ H Q I h) fun c s1 e=>?_)
 cases c with
 | true=>exact isTrue_and_nil e
 | false=>exact e
theorem Mc (ha:PT X a tA):PW X (.BoolOp .Or [a] pos) tA:=by
 intro wh pins s σ H Q I h
 refine isTrue_or (aj (ha pins s σ H Q I h) fun c s1 e=>?_)
 cases c with
 | false=>exact isTrue_or_nil e
 | true=>exact e
theorem Me (ha:PT X a tA) (hb:PW X (.BoolOp .And (b::rest) pos) uh):PW X (.BoolOp .And (a::b::rest) pos) (HE tA uh):=by
 intro wh pins s σ H Q I h
 refine isTrue_and (aj (ha pins s σ H _ I h) ?_)
 rintro c s1 ⟨H1,I1,q1⟩
 cases c with
 | true=>exact hb wh pins s1 σ H1 Q I1 q1
 | false=>exact ⟨H1,I1,q1⟩
theorem Mf (ha:PT X a tA) (hb:PW X (.BoolOp .Or (b::rest) pos) uh):PW X (.BoolOp .Or (a::b::rest) pos) (E6 tA uh):=by
 intro wh pins s σ H Q I h
 refine isTrue_or (aj (ha pins s σ H _ I h) ?_)
 rintro c s1 ⟨H1,I1,q1⟩
 cases c with
 | true=>exact ⟨H1,I1,q1⟩
 | false=>exact hb wh pins s1 σ H1 Q I1 q1
theorem Mg (ha:PT X a tA):PT X (.UnaryOp .Not a pos) (HF tA):=by
 intro pins s σ H Q I h
 exact isTrue_not (ha pins s σ H (fun c H1=>Q (!c) H1) I h)
def A2 (ta tb:TE):TE:=fun σ H Q=>ta σ H fun x H1=>∃ c,x=.bl c/\if c=true then tb σ H1 Q else Q (.bl false) H1
def HH (ta tb:TE):TE:=fun σ H Q=>ta σ H fun x H1=>∃ c,x=.bl c/\if c=true then Q (.bl true) H1 else tb σ H1 Q
def HJ (ta:TE):TE:=fun σ H Q=>ta σ H fun x H1=>∃ c,x=.bl c/\Q (.bl (!c)) H1
theorem Mh {op} {t:TE} (h:PE X a t):PE X (.BoolOp op [a] pos) t:=fun pins s σ H Q I hw=>BoolOp_one (h pins s σ H Q I hw)
theorem Mi (ha:PE X a ta) (hb:PE X (.BoolOp .And (b::rest) pos) tb):PE X (.BoolOp .And (a::b::rest) pos) (A2 ta tb):=by
 intro pins s σ H Q I h
 refine BoolOp_and (aj (ha pins s σ H _ I h) ?_)
 rintro v s1 ⟨x,H1,I1,r1,q1⟩
 obtain ⟨c,rfl,q1⟩:=q1
 cases r1
 refine wpAny_truthy_bool ?_
 cases c with
 | true=>exact hb pins s1 σ H1 Q I1 q1
 | false=>exact ⟨.bl false,H1,I1,rfl,q1⟩
theorem Mj (ha:PE X a ta) (hb:PE X (.BoolOp .Or (b::rest) pos) tb):PE X (.BoolOp .Or (a::b::rest) pos) (HH ta tb):=by
 intro pins s σ H Q I h
 refine BoolOp_or (aj (ha pins s σ H _ I h) ?_)
 rintro v s1 ⟨x,H1,I1,r1,q1⟩
 obtain ⟨c,rfl,q1⟩:=q1
 cases r1
 refine wpAny_truthy_bool ?_
 cases c with
 | false=>exact hb pins s1 σ H1 Q I1 q1
 | true=>exact ⟨.bl true,H1,I1,rfl,q1⟩
theorem Mk (ha:PE X a ta):PE X (.UnaryOp .Not a pos) (HJ ta):=by
 intro pins s σ H Q I h
 refine UnaryOp_ (aj (ha pins s σ H _ I h) ?_)
 rintro v s1 ⟨x,H1,I1,r1,q1⟩
 obtain ⟨c,rfl,q1⟩:=q1
 cases r1
 exact not_of (wpAny_truthy_bool ⟨.bl (!c),H1,I1,rfl,q1⟩)
def HK (t:TT) (ta tb:TE):TE:=fun σ H Q=>t σ H fun c H1=>if c=true then ta σ H1 Q else tb σ H1 Q
theorem yO {c:Expr} (hc:PT X c tA) (ha:PE X a ta) (hb:PE X b tb):PE X (.IfExp c a b pos) (HK tA ta tb):=by
 intro pins s σ H Q I h
 refine wpAny_IfExp (aj (hc pins s σ H _ I h) ?_)
 rintro d s1 ⟨H1,I1,q1⟩
 cases d with
 | true=>exact ha pins s1 σ H1 Q I1 q1
 | false=>exact hb pins s1 σ H1 Q I1 q1
end
def ae (K:Q0) (H:Hp) (a:Addr) (xs:List V):Prop:=
 Rd H a (.lst xs)\/
  ∃ (o:Obj) (its:Array Value) (n:Nat),K.lookup a=some o/\o.cls=.type "list"/\o.dict=none/\o.data=.seq its n/\its.size<=sizeLine/\ao xs its.toList
def ai (K:Q0) (H:Hp) (a:Addr) (xs:List V):Prop:=
 Rd H a (.tup xs)\/
  ∃ (o:Obj) (its:Array Value) (n:Nat),K.lookup a=some o/\o.cls=.type "tuple"/\o.data=.seq its n/\its.size<=sizeLine/\ao xs its.toList
def wj:Value->Option V
 | .none=>some .af
 | .bool b=>some (.bl b)
 | .int i _=>some (.int i)
 | .str x _=>some (.str x)
 | .bytes b _=>some (.mh b)
 | .float b _=>some (.zj b)
 | .ref a=>some (.ref a)
 | .type n=>some (.ty n)
 | _=>none
theorem RelV.abs {x:V} (r:RelV x u):wj u=some x:=by
 cases x with
 | af=>cases r;rfl
 | bl _=>cases r;rfl
 | int _=>obtain ⟨t,rfl⟩:=r;rfl
 | str _=>obtain ⟨t,rfl⟩:=r;rfl
 | mh _=>obtain ⟨t,rfl⟩:=r;rfl
 | zj _=>obtain ⟨t,rfl⟩:=r;rfl
 | ref _=>cases r;rfl
 | ty _=>cases r;rfl
theorem RelV.inj {x y:V} (r:RelV x u) (q:RelV y u):x=y:=QD (r.abs.symm.trans q.abs)
theorem ao.inj:∀ {xs ys:List V} {us:List Value},ao xs us->ao ys us->xs=ys
 | _,_,_,.nil,.nil=>rfl
 | _,_,_,.cons r t,.cons r' t'=>by rw [r.inj r',ao.inj t t']
section
variable {xs ys:List V}
theorem ae.of {K:Q0} (h:H a=some (.lst xs)):ae K H a xs:=.inl (.inl h)
theorem ai.of {K:Q0} (h:H a=some (.tup xs)):ai K H a xs:=.inl (.inl h)
theorem Inv.list (I:Inv X pins σ H s) (h:ae X.K H a xs):∃ its:List Value,ao xs its/\PlainL s.heap a its.toArray/\xs.length<=sizeLine:=by
 rcases h with h | ⟨o,its,n,hk,hc,hd,hs,hz,r⟩
 ·obtain ⟨z,its,n,r,e⟩:=h.ok I.hok
  exact ⟨its,r,⟨_,n,e,rfl,rfl,rfl⟩,z⟩
 ·refine ⟨its.toList,r,⟨o,n,I.bx a o hk,hc,hd,by simpa using hs⟩,?_⟩
  have e:=r.length
  simp only [Array.length_toList] at e
  omega
theorem Inv.tuple (I:Inv X pins σ H s) (h:ai X.K H a xs):∃ its:List Value,ao xs its/\IsTup s.heap a its.toArray/\xs.length<=sizeLine:=by
 rcases h with h | ⟨o,its,n,hk,hc,hs,hz,r⟩
 ·obtain ⟨⟨z,_⟩,its,r,p⟩:=h.ok I.hok
  exact ⟨its,r,p,z⟩
 ·refine ⟨its.toList,r,⟨o,I.bx a o hk,hc,n,by simpa using hs⟩,?_⟩
  have e:=r.length
  simp only [Array.length_toList] at e
  omega
theorem Inv.Dl (I:Inv X pins σ H s) (h:ae X.K H a xs) (h':ae X.K H a ys):xs=ys:=by
 obtain ⟨its,r,⟨o,n,e,_,_,d⟩,_⟩:=I.list h
 obtain ⟨its',r',⟨o',n',e',_,_,d'⟩,_⟩:=I.list h'
 rw [e] at e';cases e'
 rw [d] at d'
 injection d' with d1 _
 have:its=its':=by simpa using congrArg Array.toList d1
 subst this
 exact r.inj r'
theorem Inv.Ml (I:Inv X pins σ H s) (h:ai X.K H a xs) (h':ai X.K H a ys):xs=ys:=by
 obtain ⟨its,r,⟨o,e,_,n,d⟩,_⟩:=I.tuple h
 obtain ⟨its',r',⟨o',e',_,n',d'⟩,_⟩:=I.tuple h'
 rw [e] at e';cases e'
 rw [d] at d'
 injection d' with d1 _
 have:its=its':=by simpa using congrArg Array.toList d1
 subst this
 exact r.inj r'
end
abbrev Cx.um (X:Cx) (E:Value->Shared->Prop):Cx:={X with xe:=E}
abbrev Cx.qh (X:Cx):Cx:=X.um fun _ _=>False
theorem Cx.Ok.um {X:Cx} (ok:X.Ok) (E:Value->Shared->Prop):(X.um E).Ok:=
 ⟨ok.mod,ok.kind,ok.glob,ok.blt,ok.above,ok.inj,ok.has,ok.zm,ok.hd,ok.frames,ok.AZ,ok.Di,ok.bs,ok.rm,ok.zo,ok.A0,ok.mi,ok.we⟩
theorem Cx.Ok.x_ (ok:(X.um E).Ok):X.Ok:=
 ⟨ok.mod,ok.kind,ok.glob,ok.blt,ok.above,ok.inj,ok.has,ok.zm,ok.hd,ok.frames,ok.AZ,ok.Di,ok.bs,ok.rm,ok.zo,ok.A0,ok.mi,ok.we⟩
theorem Inv.um (I:Inv X pins σ H s) (E:Value->Shared->Prop):Inv (X.um E) pins σ H s:=⟨I.ok.um E,I.os,I.bare,I.base,I.loc,I.cell,I.free,I.kq,I.pin,I.hok,I.len⟩
theorem Inv.x_ (I:Inv (X.um E) pins σ H s):Inv X pins σ H s:=⟨I.ok.x_,I.os,I.bare,I.base,I.loc,I.cell,I.free,I.kq,I.pin,I.hok,I.len⟩
theorem SP.x_ {D:Ends} {f:Flow} {s':Shared} (h:SP (X.um E) pins D f s'):SP X pins D f s':=by
 cases f with
 | next=>obtain ⟨σ',H',I,q⟩:=h;exact ⟨σ',H',I.x_,q⟩
 | brk=>obtain ⟨σ',H',I,q⟩:=h;exact ⟨σ',H',I.x_,q⟩
 | cont=>obtain ⟨σ',H',I,q⟩:=h;exact ⟨σ',H',I.x_,q⟩
 | ret u=>obtain ⟨v,σ',H',I,r,q⟩:=h;exact ⟨v,σ',H',I.x_,r,q⟩
theorem ku.qh {st:List Stmt} {t:TS} (h:ku X.qh st t):ku X st t:=fun pins s σ H D I hw=>
 wpAny_mono (h pins s σ H D (I.um _) hw) (fun _ _ q=>q.x_) fun _ _ z=>False.elim z
section
variable {st:Stmt} {rest:List Stmt} {t u:TS} {pos:Pos}
def Dm:TS:=fun D σ H=>D.nx σ H
def uo (t u:TS):TS:=fun D σ H=>t {D with nx:=u D} σ H
theorem Mm:ku X [] Dm:=fun _ _ σ H _ I h=>wpAny_execs_nil ⟨σ,H,I,h⟩
theorem Mn (h1:PS X st t) (h2:ku X rest u):ku X (st::rest) (uo t u):=by
 intro pins s σ H D I h
 refine wpAny_execs_cons (aj (h1 pins s σ H {D with nx:=u D} I h) fun f s1 q=>?_)
 cases f with
 | next=>
  obtain ⟨σ',H',I',q⟩:=q
  exact h2 pins s1 σ' H' D I' q
 | ret v=>exact q
 | brk=>exact q
 | cont=>exact q
theorem Mp (h1:PS X st t):ku X [st] t:=by
 intro pins s σ H D I h
 refine wpAny_execs_cons (aj (h1 pins s σ H D I h) fun f s1 q=>?_)
 cases f with
 | next=>exact wpAny_execs_nil q
 | ret v=>exact q
 | brk=>exact q
 | cont=>exact q
theorem Inv.quiet (I:Inv X pins σ H s):interactive X.env=false:=by simp [interactive,I.ok.kind]
def HL (te:TE):TS:=fun D σ H=>te σ H fun _ H1=>D.nx σ H1
theorem Mq (he:PE X e te) (hs:swapsWith e none pos.line X.env=pure false:=by rfl):PS X (.Expr e pos) (HL te):=by
 intro pins s σ H D I h
 exact wpAny_Expr_any (aj (he pins s σ H _ I h) fun v s1 ⟨x,H1,I1,r1,q1⟩=>⟨σ,H1,I1,q1⟩) I.quiet hs
def zq (te:TE):TS:=fun D σ H=>te σ H D.rt
theorem Mr (he:PE X e te):PS X (.Return (some e) pos) (zq te):=by
 intro pins s σ H D I h
 exact wpAny_Return_some (aj (he pins s σ H _ I h) fun v s1 ⟨x,H1,I1,r1,q1⟩=>⟨x,σ,H1,I1,r1,q1⟩)
def HM (c:TT) (t u:TS):TS:=fun D σ H=>c σ H fun b H1=>if b=true then t D σ H1 else u D σ H1
theorem Ms {c:Expr} {a b:List Stmt} {tc:TT} (hc:PT X c tc) (ha:ku X a t) (hb:ku X b u):PS X (.If c a b pos) (HM tc t u):=by
 intro pins s σ H D I h
 refine wpAny_If (aj (hc pins s σ H _ I h) ?_)
 rintro d s1 ⟨H1,I1,q1⟩
 cases d with
 | true=>exact ha pins s1 σ H1 D I1 q1
 | false=>exact hb pins s1 σ H1 D I1 q1
end
abbrev TG:=V->St->Hp->(St->Hp->Prop)->Prop
abbrev r_:=List V->St->Hp->(St->Hp->Prop)->Prop
def PG (X:Cx) (target:Expr) (t:TG):Prop:=
 ∀ (pins:List (Addr×Obj)) (s:Shared) (σ:St) (H:Hp) (v:V) (u:Value) (Q:St->Hp->Prop),Inv X pins σ H s->RelV v u->t v σ H Q->
  wpAny (model X.prog X.w) X.A (assign target X.env u) (fun _ s'=>∃ σ' H',Inv X pins σ' H' s'/\Q σ' H') X.xe s
def A3 (X:Cx) (ts:List Expr) (t:r_):Prop:=
 ∀ (pins:List (Addr×Obj)) (s:Shared) (σ:St) (H:Hp) (vs:List V) (us:List Value) (Q:St->Hp->Prop),Inv X pins σ H s->ao vs us->t vs σ H Q->
  wpAny (model X.prog X.w) X.A (assignInOrder ((assignEach ts X.env).map (·.2)) us) (fun _ s'=>∃ σ' H',Inv X pins σ' H' s'/\Q σ' H') X.xe s
abbrev Dn:=V->V->V->Hp->(Hp->Prop)->Prop
def E7 (X:Cx) (t:Dn):Prop:=
 ∀ (pins:List (Addr×Obj)) (s:Shared) (σ:St) (H:Hp) (o i v:V) (ov iv u:Value) (Q:Hp->Prop),Inv X pins σ H s->RelV o ov->RelV i iv->RelV v u->t o i v H Q->
  wpAny (model X.prog X.w) X.A (setItem ov iv u) (fun _ s'=>∃ H',Inv X pins σ H' s'/\Q H') X.xe s
section
variable {pos:Pos}
def jt (i:Nat):TG:=fun v σ H Q=>Q (σ.set i (some v)) H
theorem Mt (hN:X.N.Nodup) (hi:X.N[i]? =some x) (hx:Loc X.env.scope x) (hf:X.fn x=true\/X.env.scope.names.lookup x=some .local:=by first | exact .inl rfl | exact .inr rfl | assumption):PG X (.Name x pos) (jt i):=by
 intro pins s σ H v u Q I r h
 exact wpAny_assign_Name (qJ I hN hi hx r (fun s' I'=>⟨_,H,I',h⟩) hf)
def E8:r_:=fun vs σ H Q=>vs=[]/\Q σ H
def Dp (t:TG) (u:r_):r_:=fun vs σ H Q=>∃ v r,vs=v::r/\t v σ H fun σ' H'=>u r σ' H' Q
theorem Mu:A3 X [] E8:=by
 intro pins s σ H vs us Q I r h
 obtain ⟨e,h⟩:=h
 subst e
 cases r
 exact assignInOrder_nil ⟨σ,H,I,h⟩
theorem yK {t:TG} {u:r_} (h1:PG X e t) (h2:A3 X es u)
  (hs:(assignEach (e::es) X.env).map (·.2)=assign e X.env::(assignEach es X.env).map (·.2):=by rfl):A3 X (e::es) (Dp t u):=by
 intro pins s σ H vs us Q I r h
 obtain ⟨v,vr,e1,h⟩:=h
 subst e1
 cases r with
 | cons r rr=>
  rw [hs]
  refine assignInOrder_cons (aj (h1 pins s σ H _ _ _ I r h) ?_)
  rintro _ s1 ⟨σ1,H1,I1,q1⟩
  exact h2 pins s1 σ1 H1 _ _ Q I1 rr q1
def BU (K:Q0) (n:Nat) (t:r_):TG:=fun v σ H Q=>∃ a xs,v=.ref a/\ai K H a xs/\xs.length=n/\t xs σ H Q
theorem Mv {k:Nat} {t:r_} (hc:X.calm=true) (h:A3 X es t)
  (hn:(assignEach es X.env).length=n:=by rfl) (ir:(assignEach es X.env).findIdx? (·.1)=none:=by rfl):PG X (.Tuple es k pos) (BU X.K n t):=by
 intro pins s σ H v u Q I r hw
 obtain ⟨a,xs,e1,hq,hl,hw⟩:=hw
 subst e1
 cases r
 obtain ⟨its,rv,ht,hz⟩:=I.tuple hq
 refine assign_Tuple_tuple (I.ok.hd hc) ht (by simp [hn,<- hl,rv.length]) ir fun h' hx=>?_
 have I1:Inv X pins σ H {s with heap:=h'}:=I.kept (t':=s.toks) fun b o e=>hx b o (Nat.ne_of_lt (Qz e)) e
 exact h pins _ σ H xs _ Q I1 (by simpa using rv) hw
def HN (to ti:TE) (t:Dn):TG:=fun v σ H Q=>to σ H fun o H1=>ti σ H1 fun i H2=>t o i v H2 fun H3=>Q σ H3
theorem Mw {o i:Expr} {ti:TE} {t:Dn} (ho:PE X o to) (hi:PE X i ti) (hs:E7 X t)
  (ha:∀ v,assign (.Subscript o i pos) X.env v=(do
   let ov <- holding [v] (eval o X.env)
   let iv <- holding [v,ov] (eval i X.env)
   standAt pos
   holding [v,ov,iv] (setItem ov iv v)
   release [v,ov,iv] []):=by intro _;rfl):PG X (.Subscript o i pos) (HN to ti t):=by
 intro pins s σ H v u Q I r h
 rw [ha]
 refine QT (wpAny_holding (aj (ho pins s σ H _ I h) ?_))
 rintro ov s1 ⟨x,H1,I1,r1,q1⟩
 refine QT (wpAny_holding (aj (hi pins s1 σ H1 _ I1 q1) ?_))
 rintro iv s2 ⟨y,H2,I2,r2,q2⟩
 refine QT (wpAny_standAt (QT (wpAny_holding (aj (hs pins s2 σ H2 x y v ov iv u _ I2 r1 r2 r q2) ?_))))
 rintro _ s3 ⟨H3,I3,q3⟩
 exact wpAny_release ⟨σ,H3,I3,q3⟩
def uq (te:TE) (g:TG):TS:=fun D σ H=>te σ H fun x H1=>g x σ H1 D.nx
theorem Mx {g:TG} (he:PE X e te) (hg:PG X tg g) (hs:swapsWithSole [tg] e pos.line X.env=pure false:=by rfl) (hw:swappedStores [tg] e X.env=pure none:=by rfl)
  (h1:(assignEach [tg] X.env).map (·.2)=[assign tg X.env]:=by rfl):PS X (.Assign [tg] e pos) (uq te g):=by
 intro pins s σ H D I h
 refine wpAny_Assign_stores (aj (he pins s σ H _ I h) fun v s1 ⟨x,H1,I1,r1,q1⟩=>?_) hs hw
 rw [h1]
 exact aj (hg pins s1 σ H1 x v _ I1 r1 q1) fun _ s2 q=>q
theorem My {pos':Pos} (hN:X.N.Nodup) (hi:X.N[i]? =some x) (hx:Loc X.env.scope x) (he:PE X e te) (hs:swapsWith e (some (.Name x pos')) pos.line X.env=pure false:=by rfl) (hf:X.fn x=true\/X.env.scope.names.lookup x=some .local:=by first | exact .inl rfl | exact .inr rfl | assumption):
  PS X (.Assign [.Name x pos'] e pos) (uq te (jt i)):=by
 intro pins s σ H D I h
 refine wpAny_Assign_Name (aj (he pins s σ H _ I h) fun v s1 ⟨y,H1,I1,r1,q1⟩=>?_) hs
 exact qJ I1 hN hi hx r1 (fun s2 I2=>⟨_,H1,I2,q1⟩) hf
end
structure It where
 go:Nat->Hp->Prop
 ju:Nat->Hp->V->Hp->Prop
 stop:Nat->Hp->Prop
def mq (X:Cx) (pins:List (Addr×Obj)) (H:Hp) (b:Addr):Prop:=
 H b=none/\b≠X.env.locals/\b ∉ X.fs/\(b∈X.ex\/X.s₀.heap.objs.size<=b)/\(∀ x c,X.env.cells.lookup x=some c->c≠b)/\∀ p∈X.pn++pins,p.1≠b
theorem Inv.ur (I:Inv X pins σ H s) (hb:s.heap.objs.size<=b) (hn:H' b=none):mq X pins H' b:=by
 refine ⟨hn,Nat.ne_of_gt (Nat.lt_of_lt_of_le I.lt hb),I.LU hb,.inr (Nat.le_trans I.sz hb),fun x c e z=>?_,fun p hp z=>?_⟩
 ·obtain ⟨v,q⟩:=I.cell x c e
  exact absurd (Nat.lt_of_lt_of_le q.lt (by rw [z];exact hb)) (Nat.lt_irrefl _)
 ·exact absurd (Nat.lt_of_lt_of_le (Qz (I.pin p hp).1) (by rw [z];exact hb)) (Nat.lt_irrefl _)
structure Turn (P:Program) (w:World) (K:Q0) (tg:Expr) (J:It) (fp:List Addr) (it:Addr) (tn:Nat->Heap->Prop):Prop where
 mem:it∈fp
 obj:∀ i h,tn i h->∀ b∈fp,∃ o,h.get? b=some o/\∀ v,o.data≠.cell v
 keep:∀ i h h',tn i h->(∀ b∈fp,∀ o,h.get? b=some o->h'.get? b=some o)->tn i h'
 item:∀ (X:Cx),X.prog=P->X.w=w->X.K=K->X.calm=true->∀ (i:Nat) (pins:List (Addr×Obj)) (s:Shared) (σ:St) (H:Hp) (E:Value->Shared->Prop),Inv X pins σ H s->(∀ b∈fp,mq X pins H b)->tn i s.heap->J.go i H->
  wpAny (model P w) X.A (pyNext (.ref it)) (fun r s1=>∃ u,r=some u/\
   wpAny (model P w) X.A (letOwnedTupleGo tg (.ref it) u) (fun _ s2=>∃ x H',Inv X pins σ H' s2/\RelV x u/\J.ju i H x H'/\tn (i+1) s2.heap/\∀ b∈fp,H' b=none) E s1) E s
 done:∀ (X:Cx),X.prog=P->X.w=w->X.K=K->X.calm=true->∀ (i:Nat) (pins:List (Addr×Obj)) (s:Shared) (σ:St) (H:Hp) (E:Value->Shared->Prop),Inv X pins σ H s->(∀ b∈fp,mq X pins H b)->tn i s.heap->J.stop i H->
  wpAny (model P w) X.A (pyNext (.ref it)) (fun r s1=>r=none/\Inv X pins σ H s1) E s
 self:∀ (A:Around) (i:Nat) (s:Shared) (Q:Value->Shared->Prop) (E:Value->Shared->Prop),tn i s.heap->Q (.ref it) s->wpAny (model P w) A (pyIter (.ref it)) Q E s
abbrev TI:=St->Hp->(It->Hp->Prop)->Prop
def A4 (X:Cx) (pins:List (Addr×Obj)) (σ:St) (tg:Expr) (R:It->Hp->Prop) (mr:Value) (s2:Shared):Prop:=
 ∃ (it:Addr) (fp:List Addr) (tn:Nat->Heap->Prop) (J:It) (H':Hp),mr=.ref it/\Inv X pins σ H' s2/\Turn X.prog X.w X.K tg J fp it tn/\tn 0 s2.heap/\(∀ b∈fp,mq X pins H' b)/\R J H'
def PI (X:Cx) (tg iter:Expr) (wi:TI):Prop:=
 ∀ (pins:List (Addr×Obj)) (s:Shared) (σ:St) (H:Hp) (R:It->Hp->Prop),Inv X pins σ H s->wi σ H R->
  wpAny (model X.prog X.w) X.A (eval iter X.env) (fun v s1=>wpAny (model X.prog X.w) X.A (pyIter v) (A4 X pins σ tg R) X.xe s1) X.xe s
theorem nV {M : Model} {A : Around} {E : Value -> Shared -> Prop} {s : Shared} {tg : Expr} {it : Addr} {u : Value} {o : Obj} {n : String} {vs : Array Value} {Q : Unit -> Shared -> Prop} (ho : s.heap.get? it = some o) (hc : o.cls = .type n) (hd : o.data = .fields vs)
    (hn : ["enumerate", "zip", "dict_itemiterator", "dict_reverseitemiterator", "odict_iterator", "itertools.zip_longest", "itertools.pairwise"].contains n = false) (hQ : Q () s) : wpAny M A (letOwnedTupleGo tg (.ref it) u) Q E s := by
  unfold letOwnedTupleGo
  cases tg <;> first
    | exact QU hQ
    | (cases u <;> first
        | exact QU hQ
        | (refine QT (wpAny_load ho ?_)
           rw [hc, hd]
           show wpAny M A (if (["enumerate", "zip", "dict_itemiterator", "dict_reverseitemiterator", "odict_iterator", "itertools.zip_longest", "itertools.pairwise"].contains n && vs[0]? == some (rawInt _)) = true then _ else _) Q E s
           rw [if_neg (by intro h; rw [hn, Bool.false_and] at h; cases h)]
           exact QU hQ))
def A5 (K:Q0) (a:Addr):It:=
 ⟨fun i H=>∃ xs x,ae K H a xs/\xs[i]? =some x,fun i H x H'=>H'=H/\∀ xs,ae K H a xs->xs[i]? =some x,fun i H=>∃ xs,ae K H a xs/\xs.length<=i⟩
def A6 (K:Q0) (a:Addr):It:=
 ⟨fun i H=>∃ xs x,ai K H a xs/\xs[i]? =some x,fun i H x H'=>H'=H/\∀ xs,ai K H a xs->xs[i]? =some x,fun i H=>∃ xs,ai K H a xs/\xs.length<=i⟩
def Dq (lo:Int) (n:Nat):It:=⟨fun i _=>i < n,fun i H x H'=>H'=H/\x=.int (lo+i),fun i _=>n<=i⟩
theorem yC {K:Q0} (a it:Addr):Turn P w K tg (A5 K a) [it] it (fun i h=>h.IsListIter it a i) where
 mem:=by simp
 obj:=fun i h st b hb=>by
  have e:b=it:=by simpa using hb
  subst e
  obtain ⟨o,e,c,d⟩:=st
  exact ⟨o,e,fun v z=>by rw [d] at z;cases z⟩
 keep:=fun i h h' st k=>st.at fun o e=>k it (by simp) o e
 item:=by
  intro X hP hw hK hc i pins s σ H E I hf st hg
  subst hP hw hK
  obtain ⟨xs,x,hq,hx⟩:=hg
  obtain ⟨its,rv,p,hz⟩:=I.list hq
  obtain ⟨u,hu,ru⟩:=rv.get hx
  obtain ⟨f0,f1,f2,f3,f4,f5⟩:=hf it (by simp)
  refine wpAny_pyNext_list_item st p.isList (x:=u) (by simpa using hu) fun h' st' sb=>?_
  have I1:Inv X pins σ H {s with heap:=h'}:=I.turned (t':=s.toks) (fun b o hb e=>(sb.2 b hb).trans e) f0 f1 f3 f4 f5
  obtain ⟨o,e,c,d⟩:=id st'
  exact ⟨u,rfl,nV (s:={s with heap:=h'}) e c d (by decide) ⟨x,H,I1,ru,⟨rfl,fun ys hy=>by rw [I.Dl hy hq];exact hx⟩,st',fun b hb=>(hf b hb).1⟩⟩
 done:=by
  intro X hP hw hK hc i pins s σ H E I hf st hg
  subst hP hw hK
  obtain ⟨xs,hq,hx⟩:=hg
  obtain ⟨its,rv,p,hz⟩:=I.list hq
  obtain ⟨f0,f1,f2,f3,f4,f5⟩:=hf it (by simp)
  have hl:=rv.length
  exact wpAny_pyNext_list_end (I.ok.hd hc) st p.isList (by simp;omega) fun h' eb=>⟨rfl,I.turned (t':=s.toks) (fun b o hb e=>eb b o hb e) f0 f1 f3 f4 f5⟩
 self:=fun _ _ _ _ _ st h=>wpAny_pyIter_listiter st h
theorem tM {K:Q0} (a it:Addr):Turn P w K tg (A6 K a) [it] it (fun i h=>h.IsTupleIter it a i) where
 mem:=by simp
 obj:=fun i h st b hb=>by
  have e:b=it:=by simpa using hb
  subst e
  obtain ⟨o,e,c,d⟩:=st
  exact ⟨o,e,fun v z=>by rw [d] at z;cases z⟩
 keep:=fun i h h' st k=>st.at fun o e=>k it (by simp) o e
 item:=by
  intro X hP hw hK hc i pins s σ H E I hf st hg
  subst hP hw hK
  obtain ⟨xs,x,hq,hx⟩:=hg
  obtain ⟨its,rv,p,hz⟩:=I.tuple hq
  obtain ⟨u,hu,ru⟩:=rv.get hx
  obtain ⟨f0,f1,f2,f3,f4,f5⟩:=hf it (by simp)
  refine wpAny_pyNext_tuple_item st (show s.heap.IsTuple a its.toArray from p) (x:=u) (by simpa using hu) fun h' st' sb=>?_
  have I1:Inv X pins σ H {s with heap:=h'}:=I.turned (t':=s.toks) (fun b o hb e=>(sb.2 b hb).trans e) f0 f1 f3 f4 f5
  obtain ⟨o,e,c,d⟩:=id st'
  exact ⟨u,rfl,nV (s:={s with heap:=h'}) e c d (by decide) ⟨x,H,I1,ru,⟨rfl,fun ys hy=>by rw [I.Ml hy hq];exact hx⟩,st',fun b hb=>(hf b hb).1⟩⟩
 done:=by
  intro X hP hw hK hc i pins s σ H E I hf st hg
  subst hP hw hK
  obtain ⟨xs,hq,hx⟩:=hg
  obtain ⟨its,rv,p,hz⟩:=I.tuple hq
  obtain ⟨f0,f1,f2,f3,f4,f5⟩:=hf it (by simp)
  have hl:=rv.length
  exact wpAny_pyNext_tuple_end (I.ok.hd hc) st (show s.heap.IsTuple a its.toArray from p) (by simp;omega) fun h' eb=>⟨rfl,I.turned (t':=s.toks) (fun b o hb e=>eb b o hb e) f0 f1 f3 f4 f5⟩
 self:=fun _ _ _ _ _ st h=>wpAny_pyIter_tupleiter st h
theorem u9 {K:Q0} (it:Addr) (lo:Int) (n:Nat):Turn P w K tg (Dq lo n) [it] it (fun i h=>IsRangeIter h it (lo+(i:Nat)*1) ((n:Int) - (i:Nat)) 1) where
 mem:=by simp
 obj:=fun i h st b hb=>by
  have e:b=it:=by simpa using hb
  subst e
  exact ⟨_,st,fun v z=>by
   have z':Data.fields _=Data.cell v:=z
   cases z'⟩
 keep:=fun i h h' st k=>k it (by simp) _ st
 item:=by
  intro X hP hw hK hc i pins s σ H E I hf st hg
  subst hP hw hK
  obtain ⟨f0,f1,f2,f3,f4,f5⟩:=hf it (by simp)
  have W:=Walks.range (prog:=X.prog) (w:=X.w) (I.ok.hd hc) it lo 1 n
  refine W.item i s _ _ hg st fun v h' tk hv st' kk=>?_
  obtain ⟨t,rfl⟩:=hv
  have I1:Inv X pins σ H {s with heap:=h',toks:=tk}:=I.turned (fun b o hb e=>kk b o (by simpa using hb) e) f0 f1 f3 f4 f5
  refine ⟨_,rfl,nV (s:={s with heap:=h',toks:=tk}) (n:="range_iterator") st' rfl rfl (by decide) ⟨.int (lo+i),H,I1,⟨t,?_⟩,⟨rfl,rfl⟩,st',fun b hb=>(hf b hb).1⟩⟩
  rw [Int.mul_one]
 done:=by
  intro X hP hw hK hc i pins s σ H E I hf st hg
  subst hP hw hK
  obtain ⟨f0,f1,f2,f3,f4,f5⟩:=hf it (by simp)
  exact wpAny_pyNext_range_end (I.ok.hd hc) st (by have:n<=i:=hg;omega) fun h' eb=>⟨rfl,I.turned (t':=s.toks) (fun b o hb e=>eb b o hb e) f0 f1 f3 f4 f5⟩
 self:=fun _ _ _ _ _ st h=>wpAny_pyIter_rangeiter st h
theorem yQ {R:It->Hp->Prop} {lo hi:Int} {t u v:Tok} {tk:Nat} (I:Inv X pins σ H s) (h1: -(2^62)<=lo) (h2:lo < 2^62) (h3: -(2^62)<=hi) (h4:hi < 2^62)
  (q:R (Dq lo (hi - lo).toNat) H):wpAny (model X.prog X.w) X.A (pyIter (.ref s.heap.objs.size)) (A4 X pins σ tg R) E {s with heap:=s.heap.push {cls:=.type "range",data:=.fields #[.int lo t,.int hi u,.int 1 v]},toks:=tk}:=by
 refine wpAny_pyIter_range (IsRange.new ..) (small_one h1 h2 h3 h4) ?_
 have I1:Inv X pins σ H {s with heap:=s.heap.push {cls:=.type "range",data:=.fields #[.int lo t,.int hi u,.int 1 v]},toks:=tk}:=I.kept fun b o e=>Qc _ e
 refine ⟨(s.heap.push {cls:=.type "range",data:=.fields #[.int lo t,.int hi u,.int 1 v]}).objs.size,[(s.heap.push {cls:=.type "range",data:=.fields #[.int lo t,.int hi u,.int 1 v]}).objs.size],_,_,H,rfl,
  I1.kept (t':=tk) fun b o e=>Qc _ e,u9 _ lo (hi - lo).toNat,?_,fun b hb=>?_,q⟩
 ·have e1:lo+((0:Nat):Int)*1=lo:=by simp
  have e2:(((hi - lo).toNat:Nat):Int) - ((0:Nat):Int)=Builtin.Range.rangeSize lo hi 1:=by rw [rangeSize_one];split<;>omega
  show IsRangeIter _ _ (lo+((0:Nat):Int)*1) ((((hi - lo).toNat:Nat):Int) - ((0:Nat):Int)) 1
  rw [e1,e2]
  exact Qd _ rfl
 ·have e:b=(s.heap.push {cls:=.type "range",data:=.fields #[.int lo t,.int hi u,.int 1 v]}).objs.size:=by simpa using hb
  subst e
  exact I1.ur (Qy _) (I1.hok.fresh (Qy _))
def HP (ta:TA):TI:=fun σ H R=>ta σ H fun vs H1=>∃ j:Int,vs=[.int j]/\ -(2^62)<=j/\j < 2^62/\R (Dq 0 j.toNat) H1
theorem yF {a:Expr} {p pos:Pos} (hg:Gl X "range") (hm:X.mg "range"=none) (ha:PA X [a] ta) (hs:starEach [a] X.env=[(false,eval a X.env)]:=by rfl):PI X tg (.Call (.Name "range" p) [a] [] pos) (HP ta):=by
 intro pins s σ H R I h
 refine Call_ (hV I hg hm boot_range (PyProof.Rows.callWith_type1 (aj (ha pos pins s σ H _ I h) fun us s1 ⟨vs,H1,I1,r1,q1⟩=>?_) hs rfl))
 obtain ⟨j,e,q1,q2,q⟩:=q1
 subst e
 cases r1 with
 | cons r rr=>
  cases rr
  obtain ⟨t,rfl⟩:=r
  exact call_range_1 (yQ I1 (by omega) (by omega) q1 q2 (by simpa using q))
def HQ (wi:TI) (g:TG) (tb:TS):TS:=fun D σ H=>wi σ H fun J H1=>∃ W:Nat->Nat->St->Hp->Prop,(∃ m,W 0 m σ H1)/\∀ i m σ H,W i m σ H->
 (J.stop i H/\D.nx σ H)\/(J.go i H/\∃ N:St->Hp->Prop,(∀ σ' H',N σ' H'->∃ m',m' < m/\W (i+1) m' σ' H')/\∀ x H',J.ju i H x H'->g x σ H' fun σ2 H2=>tb {D with nx:=N,ct:=N,bk:=D.nx} σ2 H2)
def BV (fp:List Addr) (h:Heap):List (Addr×Obj):=fp.filterMap fun b=>(h.get? b).map fun o=>(b,o)
theorem i6 {o:Obj} (hb:b∈fp) (e:h.get? b=some o):(b,o)∈BV fp h:=List.mem_filterMap.mpr ⟨b,hb,by rw [e];rfl⟩
theorem xO {p:Addr×Obj} (hp:p∈BV fp h):p.1∈fp/\h.get? p.1=some p.2:=by
 obtain ⟨b,hb,e⟩:=List.mem_filterMap.mp hp
 cases q:h.get? b with
 | none=>rw [q] at e;cases e
 | some o=>
  rw [q] at e
  have e':(b,o)=p:=QD e
  subst e'
  exact ⟨hb,q⟩
theorem Inv.pinned (I:Inv X pins σ H s) (hf:∀ b∈fp,mq X pins H b) (ho:∀ b∈fp,∃ o,s.heap.get? b=some o/\∀ v,o.data≠.cell v):Inv X (pins++BV fp s.heap) σ H s:=
 I.Hw fun p hp=>(List.mem_append.mp hp).elim (fun z=>I.pin p (List.mem_append_right _ z)) fun z=>by
  obtain ⟨hb,e⟩:=xO z
  obtain ⟨f0,f1,f2,_⟩:=hf p.1 hb
  obtain ⟨o,e',d⟩:=ho p.1 hb
  rw [e] at e';cases e'
  exact ⟨e,f0,f1,f2,d⟩
theorem Inv.Dr {pl:List (Addr×Obj)} (I:Inv X (pins++pl) σ H s):Inv X pins σ H s:=I.Hw fun p hp=>I.pin p (List.mem_append_right _ (List.mem_append_left _ hp))
theorem Mz {iter:Expr} {body:List Stmt} {wi:TI} {g:TG} {tb:TS} {pos:Pos} (hp:PassesOwn (model X.prog X.w) X.A X.env X.xe) (hc:X.calm=true) (hi:PI X tg iter wi) (hg:PG X tg g) (hb:ku X body tb)
  (hs:∀ x,foldedSetIterable iter X.env x=pure x:=by intro _;rfl):PS X (.For tg iter body [] pos) (HQ wi g tb):=by
 intro pins s σ H D I h
 refine wpAny_For (aj (hi pins s σ H _ I h) fun v s1 h1=>aj h1 fun mr s2 h2=>?_) hs
 obtain ⟨it,fp,tn,J,H2,e,I2,T,zu,f2,W,⟨m0,w0⟩,turn⟩:=h2
 subst e
 -- V1 stays true of HR V2 objects through HR loop
 have zw:∀ {H':Hp},(∀ b∈fp,H' b=none)->∀ b∈fp,mq X pins H' b:=fun hn b hb=>⟨hn b hb,(f2 b hb).2⟩
 refine codeAny_forLoop_any (fun n s'=>∃ i σ' H',Inv X pins σ' H' s'/\tn i s'.heap/\(∀ b∈fp,H' b=none)/\W i n σ' H') ?_ m0 ⟨0,σ,H2,I2,zu,fun b hb=>(f2 b hb).1,w0⟩
 rintro n s3 ⟨i,σ3,H3,I3,BW,BX,w3⟩
 rcases turn i n σ3 H3 w3 with ⟨stop,qn⟩ | ⟨go,N,hN,step⟩
 ·refine wpAny_passesOwn hp (aj (T.done X rfl rfl rfl hc i pins s3 σ3 H3 X.xe I3 (zw BX) BW stop) ?_)
  rintro r s4 ⟨hr,I4⟩
  subst hr
  exact wpAny_execs_nil ⟨σ3,H3,I4,qn⟩
 ·refine wpAny_passesOwn hp (aj (T.item X rfl rfl rfl hc i pins s3 σ3 H3 X.xe I3 (zw BX) BW go) ?_)
  rintro r s4 ⟨u,hr,h4⟩
  subst hr
  refine wpAny_passesOwn hp (aj h4 ?_)
  rintro _ s5 ⟨x,H5,I5,r5,y5,zx,E9⟩
  have E_:=I5.pinned (zw E9) (T.obj _ _ zx)
  refine wpAny_passesOwn hp (aj (hg _ s5 σ3 H5 x u _ E_ r5 (step x H5 y5)) ?_)
  rintro _ s6 ⟨σ6,H6,I6,q6⟩
  refine wpAny_passesOwn hp (aj (hb _ s6 σ6 H6 _ I6 q6) fun f s7 q7=>?_)
  have again:∀ {σ7:St} {H7:Hp},Inv X (pins++BV fp s5.heap) σ7 H7 s7->N σ7 H7->∃ m,m < n/\∃ i σ' H',Inv X pins σ' H' s7/\tn i s7.heap/\(∀ b∈fp,H' b=none)/\W i m σ' H':=fun {σ7 H7} I7 n7=>by
   obtain ⟨m',hm,w7⟩:=hN σ7 H7 n7
   refine ⟨m',hm,i+1,σ7,H7,I7.Dr,T.keep _ _ _ zx fun b hb o e=>(I7.pin (b,o) (List.mem_append_right _ (List.mem_append_right _ (i6 hb e)))).1,fun b hb=>?_,w7⟩
   obtain ⟨o,e,d⟩:=T.obj _ _ zx b hb
   exact (I7.pin (b,o) (List.mem_append_right _ (List.mem_append_right _ (i6 hb e)))).2.1
  cases f with
  | next=>obtain ⟨σ7,H7,I7,n7⟩:=q7;exact again I7 n7
  | cont=>obtain ⟨σ7,H7,I7,n7⟩:=q7;exact again I7 n7
  | brk=>obtain ⟨σ7,H7,I7,q7⟩:=q7;exact ⟨σ7,H7,I7.Dr,q7⟩
  | ret v=>obtain ⟨x7,σ7,H7,I7,r7,q7⟩:=q7;exact ⟨x7,σ7,H7,I7.Dr,r7,q7⟩
abbrev R2:=V->V->Hp->VK->Prop
def br (X:Cx) (f:Value->Value->Sem Value) (r:R2):Prop:=
 ∀ (pins:List (Addr×Obj)) (s:Shared) (σ:St) (H:Hp) (x y:V) (v u:Value) (Q:VK),Inv X pins σ H s->RelV x v->RelV y u->r x y H Q->
  wpAny (model X.prog X.w) X.A (f v u) (EP X pins σ Q) X.xe s
def Ds (X:Cx) (f:Value->Sem Value) (r:V->Hp->VK->Prop):Prop:=
 ∀ (pins:List (Addr×Obj)) (s:Shared) (σ:St) (H:Hp) (x:V) (v:Value) (Q:VK),Inv X pins σ H s->RelV x v->r x H Q->
  wpAny (model X.prog X.w) X.A (f v) (EP X pins σ Q) X.xe s
def jd (X:Cx) (f:Value) (r:List V->Hp->VK->Prop):Prop:=
 ∀ (pins:List (Addr×Obj)) (s:Shared) (σ:St) (H:Hp) (xs:List V) (us:List Value) (Q:VK),Inv X pins σ H s->ao xs us->r xs H Q->
  wpAny (model X.prog X.w) X.A (call f us) (EP X pins σ Q) X.xe s
def j_ (r:R2) (ta tb:TE):TE:=fun σ H Q=>ta σ H fun x H1=>tb σ H1 fun y H2=>r x y H2 Q
def HS (r:V->Hp->VK->Prop) (ta:TE):TE:=fun σ H Q=>ta σ H fun x H1=>r x H1 Q
def rI (C:Int->Int->Prop) (g:Int->Int->V):R2:=fun x y H Q=>∃ i j,x=.int i/\y=.int j/\C i j/\Q (g i j) H
def ya (g:Int->Int->V):R2:=fun x y H Q=>∃ i j,x=.int i/\y=.int j/\Q (g i j) H
def rU (g:Int->V):V->Hp->VK->Prop:=fun x H Q=>∃ i,x=.int i/\Q (g i) H
section
variable {a b c:Expr} {ta tb tc:TE} {pos:Pos}
theorem Fb (ha:PE X a ta) (hb:PE X b tb) {R:V->V->Hp->Prop} (I:Inv X pins σ H s)
  (h:ta σ H fun x H1=>tb σ H1 fun y H2=>R x y H2) {Q:Value->Shared->Prop} {f:Value->Value->Sem Value}
  (hf:∀ v u s2 x y H2,Inv X pins σ H2 s2->RelV x v->RelV y u->R x y H2->wpAny (model X.prog X.w) X.A (f v u) Q X.xe s2):
  wpAny (model X.prog X.w) X.A (eval a X.env) (fun v s₁=>wpAny (model X.prog X.w) X.A (eval b X.env) (fun u s₂=>wpAny (model X.prog X.w) X.A (f v u) Q X.xe s₂) X.xe s₁) X.xe s:=by
 refine aj (ha pins s σ H _ I h) ?_
 rintro v s1 ⟨x,H1,I1,r1,q1⟩
 refine aj (hb pins s1 σ H1 _ I1 q1) ?_
 rintro u s2 ⟨y,H2,I2,r2,q2⟩
 exact hf v u s2 x y H2 I2 r1 r2 q2
theorem MA {op:Operator} {r:R2} (ho:br X (binaryOp op) r) (ha:PE X a ta) (hb:PE X b tb):PE X (.BinOp a op b pos) (j_ r ta tb):=by
 intro pins s σ H Q I h
 exact wpAny_BinOp (Fb ha hb I h fun v u s2 x y H2 I2 rx ry q=>ho pins s2 σ H2 x y v u Q I2 rx ry q)
theorem MB {op:UnaryOp} {r:V->Hp->VK->Prop} (ho:Ds X (unaryOp op) r) (ha:PE X a ta):PE X (.UnaryOp op a pos) (HS r ta):=by
 intro pins s σ H Q I h
 exact UnaryOp_ (aj (ha pins s σ H _ I h) fun v s1 ⟨x,H1,I1,r1,q1⟩=>ho pins s1 σ H1 x v Q I1 r1 q1)
theorem Du {f:Value->Value->Sem Value} {C:Int->Int->Prop} {g:Int->Int->Int}
  (rule:∀ (i j:Int) (t u:Tok) (s:Shared) (Q:Value->Shared->Prop) (E:Value->Shared->Prop),C i j->Q (.int (g i j) s.toks) {s with toks:=s.toks+1}->wpAny (model X.prog X.w) X.A (f (.int i t) (.int j u)) Q E s):
  br X f (rI C fun i j=>.int (g i j)):=by
 intro pins s σ H x y v u Q I rx ry h
 obtain ⟨i,j,rfl,rfl,hc,q⟩:=h
 obtain ⟨t,rfl⟩:=rx
 obtain ⟨t',rfl⟩:=ry
 exact rule i j t t' s _ _ hc ⟨.int (g i j),H,I.tok _,⟨_,rfl⟩,q⟩
theorem HU {f:Value->Value->Sem Value} {g:Int->Int->Int}
  (rule:∀ (i j:Int) (t u:Tok) (s:Shared) (Q:Value->Shared->Prop) (E:Value->Shared->Prop),Q (.int (g i j) s.toks) {s with toks:=s.toks+1}->wpAny (model X.prog X.w) X.A (f (.int i t) (.int j u)) Q E s):
  br X f (ya fun i j=>.int (g i j)):=by
 intro pins s σ H x y v u Q I rx ry h
 obtain ⟨i,j,rfl,rfl,q⟩:=h
 obtain ⟨t,rfl⟩:=rx
 obtain ⟨t',rfl⟩:=ry
 exact rule i j t t' s _ _ ⟨.int (g i j),H,I.tok _,⟨_,rfl⟩,q⟩
theorem Dv {f:Value->Value->Sem Value} {g:Int->Int->Bool}
  (rule:∀ (i j:Int) (t u:Tok) (s:Shared) (Q:Value->Shared->Prop) (E:Value->Shared->Prop),Q (.bool (g i j)) s->wpAny (model X.prog X.w) X.A (f (.int i t) (.int j u)) Q E s):
  br X f (ya fun i j=>.bl (g i j)):=by
 intro pins s σ H x y v u Q I rx ry h
 obtain ⟨i,j,rfl,rfl,q⟩:=h
 obtain ⟨t,rfl⟩:=rx
 obtain ⟨t',rfl⟩:=ry
 exact rule i j t t' s _ _ ⟨.bl (g i j),H,I,rfl,q⟩
def MC (i j:Int):Prop:=0 < j/\j < 1073741824
def HW (i j:Int):Prop:=0<=j/\j<=1000000/\i.natAbs < 2^64
def BY (i j:Int):Prop:=(-(2^64) < i/\i < 2^64)\/(-(2^64) < j/\j < 2^64)
theorem BY.ok {i j:Int} (h:BY i j):IntMulOk i j:=by
 rcases h with ⟨h1,h2⟩ | ⟨h1,h2⟩
 ·exact .of_left (intBits_le_64 h1 h2)
 ·exact .of_right (intBits_le_64 h1 h2)
theorem MD:br X (binaryOp .Add) (ya fun i j=>.int (i+j)):=HU fun _ _ _ _ _ _ _ q=>add_int q
theorem ME:br X (binaryOp .Sub) (ya fun i j=>.int (i - j)):=HU fun _ _ _ _ _ _ _ q=>sub_int q
theorem MF:br X (binaryOp .Mult) (rI BY fun i j=>.int (i*j)):=Du fun _ _ _ _ _ _ _ hc q=>mul_int q hc.ok
theorem MG:br X (binaryOp .FloorDiv) (rI MC fun i j=>.int (i / j)):=Du fun i j _ _ _ _ _ hc q=>by
 have h1:(0:Int) < j:=hc.1
 have h2:j < 1073741824:=hc.2
 exact floordiv_int (by omega) (by rw [Int.fdiv_eq_ediv_of_nonneg i (by omega)];exact q) (.inl (PyProof.noPylong_small (by omega)))
theorem MH:br X (binaryOp .Mod) (rI (fun _ j=>0 < j) fun i j=>.int (i % j)):=Du fun i j _ _ _ _ _ hc q=>by
 have h1:(0:Int) < j:=hc
 exact mod_int' (by omega) (by rw [Int.fmod_eq_emod_of_nonneg i (by omega)];exact q)
theorem MI:br X (binaryOp .Pow) (rI HW fun i j=>.int (i^j.toNat)):=Du fun _ _ _ _ _ _ _ hc q=>pow_int_small hc.1 hc.2.1 hc.2.2 q
theorem MJ {f:Value->Sem Value} {g:Int->Int}
  (rule:∀ (i:Int) (t:Tok) (s:Shared) (Q:Value->Shared->Prop) (E:Value->Shared->Prop),Q (.int (g i) s.toks) {s with toks:=s.toks+1}->wpAny (model X.prog X.w) X.A (f (.int i t)) Q E s):
  Ds X f (rU fun i=>.int (g i)):=by
 intro pins s σ H x v Q I rx h
 obtain ⟨i,rfl,q⟩:=h
 obtain ⟨t,rfl⟩:=rx
 exact rule i t s _ _ ⟨.int (g i),H,I.tok _,⟨_,rfl⟩,q⟩
theorem MK:Ds X (unaryOp .USub) (rU fun i=>.int (-i)):=MJ fun _ _ _ _ _ q=>neg_int q
end
def BZ:V->V->Bool
 | .af,.af=>true | .af,.int _=>true | .int _,.af=>true | .af,.bl _=>true | .bl _,.af=>true | .af,.str _=>true | .str _,.af=>true
 | .int _,.int _=>true | .bl _,.bl _=>true | .str _,.str _=>true | .mh _,.mh _=>true
 | .int _,.str _=>true | .str _,.int _=>true | .bl _,.str _=>true | .str _,.bl _=>true
 | _,_=>false
def ML:R2:=fun x y H Q=>BZ x y=true/\Q (.bl (decide (x=y))) H
def MM:R2:=fun x y H Q=>BZ x y=true/\Q (.bl (!decide (x=y))) H
theorem wB {i j:Int}:decide (V.int i=V.int j)=(i==j):=by
 rw [Bool.eq_iff_iff]
 simp
theorem z4 {i j:Bool}:decide (V.bl i=V.bl j)=(i==j):=by
 rw [Bool.eq_iff_iff]
 simp
theorem vU {i j:Str}:decide (V.str i=V.str j)=(i==j):=by
 rw [Bool.eq_iff_iff]
 simp
theorem vG {i j:Array UInt8}:decide (V.mh i=V.mh j)=(i.toList==j.toList):=by
 rw [Bool.eq_iff_iff]
 cases i
 cases j
 simp
section
variable {a b c:Expr} {ta tb tc:TE} {pos:Pos}
theorem bD {Q:VK} {k k':Bool} (I:Inv X pins σ H s) (q:Q (.bl k) H) (e:k=k'):EP X pins σ Q (.bool k') s:=by
 subst e
 exact ⟨.bl k,H,I,rfl,q⟩
theorem MN:br X (compareOp .Eq) ML:=by
 intro pins s σ H x y v u Q I rx ry h
 obtain ⟨hs,q⟩:=h
 cases x with
 | af=>
  cases rx
  cases y with
  | af=>cases ry;exact PySem.EqNone.eq_none_none (bD I q (by simp))
  | bl j=>cases ry;exact PySem.EqNone.eq_none_bool (bD I q (by simp))
  | int j=>obtain ⟨t',rfl⟩:=ry;exact PySem.EqNone.eq_none_int (bD I q (by simp))
  | str j=>obtain ⟨t',rfl⟩:=ry;exact PySem.EqNone.eq_none_str (bD I q (by simp))
  | _=>exact absurd (show false=true from hs) Bool.false_ne_true
 | bl i=>
  cases rx
  cases y with
  | af=>cases ry;exact PySem.EqNone.eq_bool_none (bD I q (by simp))
  | bl j=>cases ry;exact eq_bool (bD I q z4)
  | str j=>obtain ⟨t',rfl⟩:=ry;exact PySem.EqMixed.eq_bool_str (bD I q (by simp))
  | _=>exact absurd (show false=true from hs) Bool.false_ne_true
 | int i=>
  obtain ⟨t,rfl⟩:=rx
  cases y with
  | af=>cases ry;exact PySem.EqNone.eq_int_none (bD I q (by simp))
  | int j=>obtain ⟨t',rfl⟩:=ry;exact eq_int (bD I q wB)
  | str j=>obtain ⟨t',rfl⟩:=ry;exact PySem.EqMixed.eq_int_str (bD I q (by simp))
  | _=>exact absurd (show false=true from hs) Bool.false_ne_true
 | str i=>
  obtain ⟨t,rfl⟩:=rx
  cases y with
  | af=>cases ry;exact PySem.EqNone.eq_str_none (bD I q (by simp))
  | bl j=>cases ry;exact PySem.EqMixed.eq_str_bool (bD I q (by simp))
  | int j=>obtain ⟨t',rfl⟩:=ry;exact PySem.EqMixed.eq_str_int (bD I q (by simp))
  | str j=>obtain ⟨t',rfl⟩:=ry;exact eq_str (bD I q vU)
  | _=>exact absurd (show false=true from hs) Bool.false_ne_true
 | mh i=>
  obtain ⟨t,rfl⟩:=rx
  cases y with
  | mh j=>obtain ⟨t',rfl⟩:=ry;exact PySem.W.eq_bytes (bD I q vG)
  | _=>exact absurd (show false=true from hs) Bool.false_ne_true
 | _=>cases y<;>exact absurd (show false=true from hs) Bool.false_ne_true
theorem MO:br X (compareOp .NotEq) MM:=by
 intro pins s σ H x y v u Q I rx ry h
 obtain ⟨hs,q⟩:=h
 cases x with
 | af=>
  cases rx
  cases y with
  | af=>cases ry;exact PySem.EqNone.ne_none_none (bD I q (by simp))
  | bl j=>cases ry;exact PySem.EqNone.ne_none_bool (bD I q (by simp))
  | int j=>obtain ⟨t',rfl⟩:=ry;exact PySem.EqNone.ne_none_int (bD I q (by simp))
  | str j=>obtain ⟨t',rfl⟩:=ry;exact PySem.EqNone.ne_none_str (bD I q (by simp))
  | _=>exact absurd (show false=true from hs) Bool.false_ne_true
 | bl i=>
  cases rx
  cases y with
  | af=>cases ry;exact PySem.EqNone.ne_bool_none (bD I q (by simp))
  | bl j=>cases ry;exact ne_bool (bD I q (congrArg not z4))
  | str j=>obtain ⟨t',rfl⟩:=ry;exact PySem.EqMixed.ne_bool_str (bD I q (by simp))
  | _=>exact absurd (show false=true from hs) Bool.false_ne_true
 | int i=>
  obtain ⟨t,rfl⟩:=rx
  cases y with
  | af=>cases ry;exact PySem.EqNone.ne_int_none (bD I q (by simp))
  | int j=>obtain ⟨t',rfl⟩:=ry;exact ne_int (bD I q (congrArg not wB))
  | str j=>obtain ⟨t',rfl⟩:=ry;exact PySem.EqMixed.ne_int_str (bD I q (by simp))
  | _=>exact absurd (show false=true from hs) Bool.false_ne_true
 | str i=>
  obtain ⟨t,rfl⟩:=rx
  cases y with
  | af=>cases ry;exact PySem.EqNone.ne_str_none (bD I q (by simp))
  | bl j=>cases ry;exact PySem.EqMixed.ne_str_bool (bD I q (by simp))
  | int j=>obtain ⟨t',rfl⟩:=ry;exact PySem.EqMixed.ne_str_int (bD I q (by simp))
  | str j=>obtain ⟨t',rfl⟩:=ry;exact ne_str (bD I q (congrArg not vU))
  | _=>exact absurd (show false=true from hs) Bool.false_ne_true
 | mh i=>
  obtain ⟨t,rfl⟩:=rx
  cases y with
  | mh j=>obtain ⟨t',rfl⟩:=ry;exact PySem.W.ne_bytes (bD I q (congrArg not vG))
  | _=>exact absurd (show false=true from hs) Bool.false_ne_true
 | _=>cases y<;>exact absurd (show false=true from hs) Bool.false_ne_true
theorem MP:br X (compareOp .Lt) (ya fun i j=>.bl (decide (i < j))):=Dv fun _ _ _ _ _ _ _ q=>lt_int q
theorem MQ:br X (compareOp .LtE) (ya fun i j=>.bl (decide (i<=j))):=Dv fun _ _ _ _ _ _ _ q=>le_int q
theorem MR:br X (compareOp .Gt) (ya fun i j=>.bl (decide (j < i))):=Dv fun _ _ _ _ _ _ _ q=>gt_int q
theorem MS:br X (compareOp .GtE) (ya fun i j=>.bl (decide (j<=i))):=Dv fun _ _ _ _ _ _ _ q=>ge_int q
theorem xG:br X (compareOp .Lt) (fun x y H Q=>∃ i j,x=.str i/\y=.str j/\Q (.bl (decide (i.cps.toList < j.cps.toList))) H):=by
 intro pins s σ H x y v u Q I rx ry h
 obtain ⟨i,j,rfl,rfl,q⟩:=h
 obtain ⟨t,rfl⟩:=rx
 obtain ⟨t',rfl⟩:=ry
 exact lt_str (bD I q rfl)
theorem wK:br X (compareOp .In) (fun x y H Q=>∃ i j,x=.str i/\y=.str j/\Q (.bl (!(Builtin.Str.occurrences j i 0 j.length 1).isEmpty)) H):=by
 intro pins s σ H x y v u Q I rx ry h
 obtain ⟨i,j,rfl,rfl,q⟩:=h
 obtain ⟨t,rfl⟩:=rx
 obtain ⟨t',rfl⟩:=ry
 exact in_str (bD I q rfl)
theorem MT:br X (compareOp .Is) (fun x y H Q=>y=.af/\Q (.bl (decide (x=.af))) H):=by
 intro pins s σ H x y v u Q I rx ry h
 obtain ⟨rfl,q⟩:=h
 cases ry
 refine is_none_gen (bD I q ?_)
 cases x<;>first
  | (cases rx;rfl)
  | (obtain ⟨t,rfl⟩:=rx;rfl)
theorem pM:br X (compareOp .NotIn) (fun x y H Q=>∃ i j,x=.str i/\y=.str j/\Q (.bl (!(!(Builtin.Str.occurrences j i 0 j.length 1).isEmpty))) H):=by
 intro pins s σ H x y v u Q I rx ry h
 obtain ⟨i,j,rfl,rfl,q⟩:=h
 obtain ⟨t,rfl⟩:=rx
 obtain ⟨t',rfl⟩:=ry
 exact notIn_str (bD I q rfl)
theorem ay (b:Expr) (h:op≠.In:=by decide) (h2:op≠.NotIn:=by decide):behindInMarks op b=false:=by
 have e1:(op==CmpOp.In)=false:=by cases op<;>first | rfl | exact absurd rfl h
 have e2:(op==CmpOp.NotIn)=false:=by cases op<;>first | rfl | exact absurd rfl h2
 cases b<;>simp [behindInMarks,e1,e2]
theorem MU {r:R2} (ho:br X (compareOp op) r) (ha:PE X a ta) (hb:PE X b tb) (hm:behindInMarks op b=false):PE X (.Compare a [op] [b] pos) (j_ r ta tb):=by
 intro pins s σ H Q I h
 exact wpAny_Compare1 (Fb ha hb I h fun v u s2 x y H2 I2 rx ry q=>ho pins s2 σ H2 x y v u Q I2 rx ry q) hm
def B0 (t:TE):TT:=fun σ H Q=>t σ H fun x H'=>∃ k,x=.bl k/\Q k H'
theorem MV {r:R2} (ho:br X (compareOp op) r) (ha:PE X a ta) (hb:PE X b tb) (hm:behindInMarks op b=false):PT X (.Compare a [op] [b] pos) (B0 (j_ r ta tb)):=by
 intro pins s σ H Q I h
 refine wpAny_isTrue_Compare1 (aj (ha pins s σ H _ I h) fun v s1 ⟨x,H1,I1,r1,q1⟩=>aj (hb pins s1 σ H1 _ I1 q1) fun u s2 ⟨y,H2,I2,r2,q2⟩=>
  aj (ho pins s2 σ H2 x y v u _ I2 r1 r2 q2) fun c s3 ⟨z,H3,I3,r3,k,e,q3⟩=>?_) hm
 subst e
 cases r3
 exact wpAny_truthy_bool ⟨H3,I3,q3⟩
def HX (r r':R2) (ta tb tc:TE):TE:=fun σ H Q=>ta σ H fun x H1=>tb σ H1 fun y H2=>r x y H2 fun z H3=>∃ k,z=.bl k/\
 (if k=true then tc σ H3 fun w' H4=>r' y w' H4 Q else Q (.bl false) H3)
theorem zI {zy:CmpOp} {r r':R2} (ho:br X (compareOp op) r) (kr:br X (compareOp zy) r') (ha:PE X a ta) (hb:PE X b tb) (hc:PE X c tc)
  (hm:lastMarks [op,zy] [b,c]=false:=by with_unfolding_all rfl):PT X (.Compare a [op,zy] [b,c] pos) (B0 (HX r r' ta tb tc)):=by
 intro pins s σ H Q I h
 refine isTrue_chain (aj (ha pins s σ H _ I h) fun v s1 ⟨x,H1,I1,r1,q1⟩=>test_link (aj (hb pins s1 σ H1 _ I1 q1) fun u s2 ⟨y,H2,I2,r2,q2⟩=>
  aj (ho pins s2 σ H2 x y v u _ I2 r1 r2 q2) fun d s3 ⟨z,H3,I3,r3,k,e,q3⟩=>?_)) hm
 subst e
 cases r3
 refine wpAny_truthy_bool ?_
 cases k with
 | false=>
  obtain ⟨k',e',q'⟩:=q3
  cases e'
  exact ite_ff ⟨H3,I3,q'⟩
 | true=>
  refine ite_tt (test_last (aj (hc pins s3 σ H3 _ I3 q3) fun w' s4 ⟨z',H4,I4,r4,q4⟩=>aj (kr pins s4 σ H4 y z' u w' _ I4 r2 r4 q4) fun d' s5 ⟨z2,H5,I5,r5,k2,e2,q5⟩=>?_))
  subst e2
  cases r5
  exact wpAny_truthy_bool ⟨H5,I5,q5⟩
theorem B3:(sizeLine:Nat) < 2^63:=by rw [QL];decide
theorem uO:br X (binaryOp .Add) (fun x y H Q=>∃ i j,x=.str i/\y=.str j/\i.length+j.length<=sizeLine/\Q (.str (i++j)) H):=by
 intro pins s σ H x y v u Q I rx ry h
 obtain ⟨i,j,rfl,rfl,hz,q⟩:=h
 obtain ⟨t,rfl⟩:=rx
 obtain ⟨t',rfl⟩:=ry
 exact add_str (fun t' tk=>⟨.str (i++j),H,I.tok _,⟨_,rfl⟩,q⟩) hz
theorem vals1 {x:V} (r:ao [x] us):∃ u,us=[u]/\RelV x u:=by
 cases r with
 | cons r1 r2=>cases r2;exact ⟨_,rfl,r1⟩
def MX (K:Q0) (x:V) (H:Hp) (n:Nat):Prop:=
 match x with
 | .str y=>y.length<=sizeLine/\n=y.length
 | .mh y=>y.size<=sizeLine/\n=y.size
 | .ref p=>(∃ xs,ae K H p xs/\n=xs.length)\/∃ xs,ai K H p xs/\n=xs.length
 | _=>False
theorem mG:jd X (.builtin "len") (fun xs H Q=>∃ x n,xs=[x]/\MX X.K x H n/\Q (.int n) H):=by
 intro pins s σ H xs us Q I r h
 obtain ⟨x,n,rfl,e,q⟩:=h
 obtain ⟨u,rfl,rx⟩:=vals1 r
 have hl:=B3
 have hs:sizeLine=16777216:=QL
 cases x with
 | str y=>
  obtain ⟨t,rfl⟩:=rx
  obtain ⟨hy,e'⟩:y.length<=sizeLine/\n=y.length:=e
  subst e'
  exact len_str (by omega) ⟨.int _,H,I.tok _,⟨_,rfl⟩,q⟩
 | mh y=>
  obtain ⟨t,rfl⟩:=rx
  obtain ⟨hy,e'⟩:y.size<=sizeLine/\n=y.size:=e
  subst e'
  exact PySem.W.len_bytes (by omega) ⟨.int _,H,I.tok _,⟨_,rfl⟩,q⟩
 | ref p=>
  cases rx
  have e':(∃ xs,ae X.K H p xs/\n=xs.length)\/∃ xs,ai X.K H p xs/\n=xs.length:=e
  rcases e' with ⟨xs,hx,e'⟩ | ⟨xs,hx,e'⟩
  ·subst e'
   obtain ⟨its,r',pl,hz⟩:=I.list hx
   have fq:=r'.length
   exact Calls.call_len_list pl.isList (by simp only [List.size_toArray];omega) ⟨.int xs.length,H,I.tok _,⟨_,by simp only [List.size_toArray];rw [fq]⟩,q⟩
  ·subst e'
   obtain ⟨its,r',pl,hz⟩:=I.tuple hx
   have fq:=r'.length
   exact len_tuple pl (by simp only [List.size_toArray];omega) ⟨.int xs.length,H,I.tok _,⟨_,by simp only [List.size_toArray];rw [fq]⟩,q⟩
 | _=>exact (show False from e).elim
end
structure Fc (h:Heap) (x dx C:Addr) (mA:Str->Option Value):Prop where
 obj:h.get? x=some (PySem.W.instObj C dx)
 ns:h.Ns1 dx mA
 ne:dx≠x
theorem kY {dx:Addr} (n:h.Ns1 dx mA):∃ od,h.get? dx=some od/\∀ name,PySem.W.lookIn name od=some (mA name):=by
 obtain ⟨o,es,ep,ho,hd,hk,_,hm⟩:=n
 refine ⟨o,ho,fun name=>?_⟩
 have e:=hm name
 unfold nsFind findBy at e
 rw [<- Array.find?_toList] at e
 unfold PySem.W.lookIn
 rw [hd]
 dsimp only
 split
 ·rename_i y q
  rw [q] at e
  exact congrArg some e
 ·rename_i q
  rw [q] at e
  have a:es.toList.any (·.refKey)=false:=by
   rw [List.any_eq_false]
   intro y hy
   obtain ⟨z,t,Fd⟩:=hk y (Array.mem_toList_iff.mp hy)
   simp [DictEntry.refKey,Fd]
  have a':¬es.toList.any (·.refKey)=true:=by rw [a];exact Bool.false_ne_true
  rw [if_neg a']
  exact congrArg some e
theorem Fc.look {x dx:Addr} (I:Fc h x dx C mA):∃ od,PySem.W.InstAt h x (PySem.W.instObj C dx) C (some od)/\∀ name,PySem.W.lookIn name od=some (mA name):=
 let ⟨od,ho,hl⟩:=kY I.ns
 ⟨od,⟨I.obj,rfl,rfl,ho⟩,hl⟩
section
variable {K:Q0} {x dx:Addr} {v:Value}
end
theorem jy.some_of {v:V} {o:Option Value} (r:jy (some v) o):∃ u,o=some u/\RelV v u:=by
 cases o with
 | none=>exact (show False from r).elim
 | some u=>exact ⟨u,rfl,r⟩
theorem xH {v:V} (r:RelV v u):PySem.W.handedIn u=true:=by
 cases v with
 | af=>cases (show u=Value.none from r);rfl
 | bl b=>cases (show u=Value.bool b from r);rfl
 | int i=>obtain ⟨t,e⟩:=(show ∃ t,u=Value.int i t from r);cases e;rfl
 | str x=>obtain ⟨t,e⟩:=(show ∃ t,u=Value.str x t from r);cases e;rfl
 | mh b=>obtain ⟨t,e⟩:=(show ∃ t,u=Value.bytes b t from r);cases e;rfl
 | zj b=>obtain ⟨t,e⟩:=(show ∃ t,u=Value.float b t from r);cases e;rfl
 | ref a=>cases (show u=Value.ref a from r);rfl
 | ty n=>cases (show u=Value.type n from r);rfl
section
variable {dx:Addr} {fs LP:List (Str×V)}
theorem MY (hok:cj P w H h) (e:H a=some (.ins C dx fs)):∃ mA,Fc h a dx C mA/\(∀ f,jy (fs.lookup f) (mA f))/\PySem.Within mA (fs.map (·.1))/\fs.length<=1000/\H dx=some (.own a):=by
 obtain ⟨d,z,ne,ob,mA,n,r,q⟩:=(show be P w H h a (.ins C dx fs) from hok a _ e)
 exact ⟨mA,⟨ob,n,ne⟩,r,q,z,d⟩
end
structure Fe (K:Q0) (C:Addr):Prop where
 pg:PySem.W.plainGet K C Str.empty=true
 hd:PySem.W.hasDictIn K C=true
 po:PySem.W.plainOver K C=true
 sa:PySem.W.findIn K (.ref C) "__setattr__"=some (some (.builtin "object.__setattr__"))
theorem Fe.get {K:Q0} (c:Fe K C) (f:Str):PySem.W.plainGet K C f=true:=c.pg
def HY (K:Q0) (C:Addr) (f:Str):Prop:=PySem.W.findIn K (.ref C) f=some none
section
variable {dx:Addr} {fs:List (Str×V)} {f:Str} {v:V}
theorem MZ {f:Str} {pos:Pos} (hb:attributeBase e f env (eval e env)=eval e env)
  (h:wpAny (model prog w) A (eval e env) (fun o s₁=>wpAny (model prog w) A (getAttr o f true) Q E s₁) E s):wpAny (model prog w) A (eval (.Attribute e f pos) env) Q E s:=
 Attribute_any_ h (by rw [arm_eval_Attribute,hb])
end
section
variable {o value:Expr} {f:Str} {pos pos' yb:Pos} {ta tv:TE}
end
section
variable {c:Value} {b:Bool}
inductive om (K:Q0) (H:Hp):V->Value->Prop where
 | af:om K H .af (.type "NoneType")
 | bl (x:Bool):om K H (.bl x) (.type "bool")
 | int (i:Int):om K H (.int i) (.type "int")
 | str (x:Str):om K H (.str x) (.type "str")
 | zj (x:UInt64):om K H (.zj x) (.type "float")
 | lst {a:Addr} {xs:List V} (e:H a=some (.lst xs)):om K H (.ref a) (.type "list")
 | c_ {a:Addr} {o:Obj} {xs:List V} (e:H a=some (.c_ o (.lst xs))):om K H (.ref a) (.type "list")
 | tup {a:Addr} {xs:List V} (e:H a=some (.tup xs)):om K H (.ref a) (.type "tuple")
 | dK {a:Addr} {kvs:List (Key×V)} (e:H a=some (.dK kvs)):om K H (.ref a) (.type "dict")
 | dT {a:Addr} {kvs:List (List Key×V)} (e:H a=some (.dT kvs)):om K H (.ref a) (.type "dict")
 | ins {a C dx:Addr} {fs:List (Str×V)} (e:H a=some (.ins C dx fs)) (cl:Fe K C) (ha:PySem.W.findIn K (.ref C) "__class__"=some (some (.builtin "object.__class__")))
   (hn:PySem.W.specialIn K (.builtin "object.__class__") "__get__"=some (some (.builtin "getset_descriptor.__get__"))) (HZ:PySem.W.takesIn K (.builtin "object.__class__")=some true)
   (hm:PySem.W.mroIn K C (.type "object")=some true):om K H (.ref a) (.ref C)
theorem y4 {x:V} {t:Value} (I:Inv X pins σ H s) (rx:RelV x u) (ty:om X.K H x t) (e:PySem.W.kitOne X.K t c=some b) (h:∀ tk,Q (.bool b) {s with toks:=tk}):
  wpAny (model X.prog X.w) A (call (.builtin "isinstance") [u,c]) Q E s:=by
 cases ty with
 | af=>cases (show u=Value.none from rx);exact PySem.W.kia_one PySem.W.kitx_none I.bx True.intro e (fun z=>nomatch z) h
 | bl y=>cases (show u=Value.bool y from rx);exact PySem.W.kia_one PySem.W.kitx_bool I.bx True.intro e (fun z=>nomatch z) h
 | int i=>obtain ⟨t,q⟩:=(show ∃ t,u=Value.int i t from rx);cases q;exact PySem.W.kia_one PySem.W.kitx_int I.bx True.intro e (fun z=>nomatch z) h
 | str y=>obtain ⟨t,q⟩:=(show ∃ t,u=Value.str y t from rx);cases q;exact PySem.W.kia_one PySem.W.kitx_str I.bx True.intro e (fun z=>nomatch z) h
 | zj y=>obtain ⟨t,q⟩:=(show ∃ t,u=Value.float y t from rx);cases q;exact PySem.W.kia_one PySem.W.kitx_float I.bx True.intro e (fun z=>nomatch z) h
 | @lst a xs ea=>
  cases (show u=Value.ref a from rx)
  obtain ⟨_,_,n,_,h1⟩:=(show be X.prog X.w H s.heap a (.lst xs) from I.hok a _ ea)
  exact PySem.W.kia_one PySem.W.kitx_list I.bx ⟨_,h1,rfl⟩ e (fun z=>nomatch z) h
 | @c_ a ob xs ea=>
  cases (show u=Value.ref a from rx)
  obtain ⟨_,_,_,n,_,h1⟩:=(show be X.prog X.w H s.heap a (.c_ ob (.lst xs)) from I.hok a _ ea)
  exact PySem.W.kia_one PySem.W.kitx_list I.bx ⟨_,h1,rfl⟩ e (fun z=>nomatch z) h
 | @tup a xs ea=>
  cases (show u=Value.ref a from rx)
  obtain ⟨_,_,_,p⟩:=(show be X.prog X.w H s.heap a (.tup xs) from I.hok a _ ea)
  obtain ⟨o,h1,h2,_⟩:=p
  exact PySem.W.kia_one PySem.W.kitx_tuple I.bx ⟨o,h1,h2⟩ e (fun z=>nomatch z) h
 | @dK a kvs ea=>
  cases (show u=Value.ref a from rx)
  obtain ⟨_,_,vs,_,p⟩:=(show be X.prog X.w H s.heap a (.dK kvs) from I.hok a _ ea)
  obtain ⟨o,es,ep,h1,h2,_⟩:=p
  exact PySem.W.kia_one PySem.W.kitx_dict I.bx ⟨o,h1,h2.1⟩ e (fun z=>nomatch z) h
 | @dT a kvs ea=>
  cases (show u=Value.ref a from rx)
  obtain ⟨_,_,xs,_,o,es,ep,h1,h2,_⟩:=(show be X.prog X.w H s.heap a (.dT kvs) from I.hok a _ ea)
  exact PySem.W.kia_one PySem.W.kitx_dict I.bx ⟨o,h1,h2.1⟩ e (fun z=>nomatch z) h
 | @ins a C dx fs ea cl ha hn HZ hm=>
  cases (show u=Value.ref a from rx)
  obtain ⟨mA,O,_⟩:=MY I.hok ea
  obtain ⟨od,J,_⟩:=O.look
  exact PySem.W.kia_one (PySem.W.kitx_own (cl.get _) cl.hd ha hn HZ hm) I.bx J e (fun z=>nomatch z) h
end
structure fh (k:Nat) (A:Around):Prop where
 hd:A.handled=none
 dp:A.depth+3*k+5 < recursionLimit
 un:A.units+16*k+200 < cLine
 gd:A.guards=some []
theorem fh.mono {k:Nat} (r:fh k A) (h:j<=k):fh j A:=⟨r.hd,by have:=r.dp;omega,by have:=r.un;omega,r.gd⟩
theorem fh.deeper {k:Nat} {A:Around} (r:fh (k+1) A) (env:Env):fh k (A.deeper env):=
 ⟨r.hd,by have:=r.dp;show A.depth+1+3*k+5 < _;omega,by have:=r.un;show A.units+3+16*k+200 < _;omega,r.gd⟩
theorem tQ:(A.under (.builtin "type.__call__" ⟨.ref C::us,kw⟩)).depth=A.depth+1:=by
 first | rfl | simp [Around.under,Code.weight,Code.isCreation,Code.isGuard,Code.isCaller,Code.frames,Code.isFrame,guardIds]
theorem tX:(A.under (.builtin "type.__call__" ⟨.ref C::us,kw⟩)).units=A.units+1:=by
 first | rfl | simp [Around.under,Code.cUnits,Code.frames,Code.isFrame]
theorem qW (h:A.guards=some []):(A.under (.builtin "type.__call__" ⟨.ref C::us,kw⟩)).guards=some []:=by
 first | exact h | (simp [Around.under,pushGuards,Code.guards,Code.isGuard,guardIds,h])
theorem fh.make {k:Nat} (r:fh (k+1) A) (C:Addr) (us:List Value) (kw:List (Str×Value)):fh k (A.under (.builtin "type.__call__" ⟨.ref C::us,kw⟩)):=
 ⟨r.hd,by have:=r.dp;rw [tQ];omega,by have:=r.un;rw [tX];omega,qW r.gd⟩
theorem fh.depth {k:Nat} {A:Around} (r:fh k A):A.depth < recursionLimit:=by have:=r.dp;omega
theorem fh.units {k:Nat} {A:Around} (r:fh k A):A.units+64 < cLine:=by have:=r.un;omega
def ky:TA:=fun _ H Q=>Q [] H
def fu (ta:TE) (tr:TA):TA:=fun σ H Q=>ta σ H fun x H1=>tr σ H1 fun xs H2=>Q (x::xs) H2
section
variable {pos:Pos}
theorem M0:PA X [] ky:=fun _ _ _ _ H Q I h=>Calls.spliced_nil ⟨[],H,I,.nil,h⟩
theorem dM (ha:PE X e te) (hr:PA X es t) (hs:starEach (e::es) X.env=(false,eval e X.env)::starEach es X.env:=by rfl):PA X (e::es) (fu te t):=by
 intro pos pins s σ H Q I h
 rw [hs]
 show wpAny _ _ (spliced ((false,eval e X.env)::backTo pos (starEach es X.env))) _ _ s
 refine Calls.spliced_cons (aj (ha pins s σ H _ I h) ?_)
 rintro u s1 ⟨x,H1,I1,r1,q1⟩
 exact aj (hr pos pins s1 σ H1 _ I1 q1) fun us s2 ⟨xs,H2,I2,r2,q2⟩=>⟨x::xs,H2,I2,.cons r1 r2,q2⟩
def B4 (t:TA):TE:=fun σ H Q=>t σ H fun xs H1=>xs.length<=sizeLine/\∀ p,H1 p=none->Q (.ref p) (upd H1 p (.tup xs))
def H_ (t:TA):TE:=fun σ H Q=>t σ H fun xs H1=>xs.length<=sizeLine/\∀ p,H1 p=none->Q (.ref p) (upd H1 p (.lst xs))
theorem M1 {x1} (h:PA X es t):PE X (.Tuple es x1 pos) (B4 t):=by
 intro pins s σ H Q I hq
 refine wpAny_Tuple_spliced (aj (h pos pins s σ H _ I hq) fun us s1 ⟨xs,H1,I1,r,z,q⟩=>⟨by rw [<- r.length];exact z,?_⟩)
 have hf:H1 s1.heap.objs.size=none:=I1.hok.fresh (Qy _)
 refine ⟨.ref s1.heap.objs.size,upd H1 s1.heap.objs.size (.tup xs),I1.laid (t':=s1.toks) (fun b u e=>Qc _ e) (Qy _) ?_,rfl,q _ hf⟩
 exact ⟨⟨z,zk.new rfl rfl⟩,us,r,⟨_,Qd _ rfl,rfl,_,rfl⟩⟩
theorem M3 (h:PA X es t):PE X (.List es pos) (H_ t):=by
 intro pins s σ H Q I hq
 refine wpAny_List_spliced (aj (h pos pins s σ H _ I hq) fun us s1 ⟨xs,H1,I1,r,z,q⟩=>⟨by rw [<- r.length];exact z,?_⟩)
 have hf:H1 s1.heap.objs.size=none:=I1.hok.fresh (Qy _)
 refine ⟨.ref s1.heap.objs.size,upd H1 s1.heap.objs.size (.lst xs),I1.laid (t':=s1.toks) (fun b u e=>Qc _ e) (Qy _) ?_,rfl,q _ hf⟩
 exact ⟨z,us,0,r,Qd _ rfl⟩
end
abbrev Sp:=List V->Hp->VK->XK->Prop
abbrev qi:=List Env->Hp->Shared->XK->Value->Shared->Prop
structure zz (P:Program) (w:World) (K:Q0) (mg:Str->Option Value) (base:Heap) (A:Around) (outer:List Env) (s:Shared) (H:Hp):Prop where
 frames:A.frames=some outer
 mod:Mod K mg base
 bs:∀ b o,base.get? b=some o->s.heap.get? b=some o/\H b=none
 rm:base.objs.size<=s.heap.objs.size
 mi:s.heap.FunFrames base outer
 we:∀ b∈gu outer,H b=none
 hok:cj P w H s.heap
 bare:AllBare s.gens
def CE (outer:List Env) (P:Program) (w:World) (H:Hp) (s:Shared) (Q:VK) (u:Value) (s':Shared):Prop:=
 ∃ v H',s'.os=s.os/\AllBare s'.gens/\Un (gu outer) [] H H' s.heap s'.heap/\cj P w H' s'.heap/\RelV v u/\Q v H'
def CR (CX:qi) (outer:List Env) (P:Program) (w:World) (H:Hp) (s:Shared) (Q:VK) (E:XK) (r:Result) (s':Shared):Prop:=
 match r with
 | .ok (.ret u)=>CE outer P w H s Q u s'
 | .ok _=>False
 | .error e=>CX outer H s E e s'
structure oq (P:Program) (w:World) (K:Q0) (mg:Str->Option Value) (base:Heap) (CX:qi) (k:Nat) (f:Addr) (fd:FuncData) (ps:List Str) (sp:Sp):Prop where
 len:∀ vs H Q E,sp vs H Q E->vs.length=ps.length
 run:∀ (A:Around) (outer:List Env) (s:Shared) (H:Hp) (args:Args) (us:List Value) (vs:List V) (Q:VK) (E:XK),fh k A->zz P w K mg base A outer s H->BindsTo s fd args (ps.zip us)->ao vs us->sp vs H Q E->
  codeAny (model P w) A (.call (.ref f) args) (CR CX outer P w H s Q E) s
theorem oq.imp {K:Q0} {CX:qi} {k:Nat} {sp B5:Sp} (F:oq P w K mg base CX k f fd ps sp)
  (h:∀ vs H Q E,B5 vs H Q E->sp vs H Q E):oq P w K mg base CX k f fd ps B5:=
 ⟨fun vs H Q E q=>F.len vs H Q E (h _ _ _ _ q),fun A outer s H args us vs Q E hr he hb hv hs=>F.run A outer s H args us vs Q E hr he hb hv (h _ _ _ _ hs)⟩
theorem zz.make {K:Q0} (e:zz P w K mg base A outer s H) (C:Addr) (us:List Value) (kw:List (Str×Value)):
  zz P w K mg base (A.under (.builtin "type.__call__" ⟨.ref C::us,kw⟩)) outer s H:=⟨by first | exact e.frames | (simpa [Around.under,Code.envs,Code.isFrame,pushEnvs] using e.frames),e.mod,e.bs,e.rm,e.mi,e.we,e.hok,e.bare⟩
section
variable {s':Shared}
theorem Inv.Dw (I:Inv X pins σ H s):zz X.prog X.w X.K X.mg X.base X.A X.stack s H:=
 ⟨I.ok.frames,I.ok.mod,I.bs,Nat.le_trans I.ok.rm I.sz,I.stack,I.Dj,I.hok,I.bare⟩
theorem Inv.after {Q:VK} (I:Inv X pins σ H s) (h:CE X.stack X.prog X.w H s Q u s'):EP X pins σ Q u s':=by
 obtain ⟨v,H',os,bare,un,hok,r,q⟩:=h
 obtain ⟨hh,g,d,t,Ff⟩:=s'
 obtain rfl:Ff=s.os:=os
 exact ⟨v,H',I.call (h':=hh) (g':=g) (d':=d) (t':=t) (ch:=[]) un hok bare (fun b z=>absurd z (by simp)),r,q⟩
end
def z_ (sp:Sp) (yc:List V) (E:XK) (t:TA):TE:=fun σ H Q=>t σ H fun vs H1=>sp (vs++yc) H1 Q E
def Binds (K:Q0) (fd:FuncData) (ps:List Str) (ds:List Value):Prop:=
 ∀ (s:Shared) (us:List Value),K.In s.heap->(us++ds).length=ps.length->BindsTo s fd ⟨us,[]⟩ (ps.zip (us++ds))
theorem Binds.all {K:Q0} (h:∀ us:List Value,us.length=ps.length->bindArgs fd ⟨us,[]⟩=pure (ps.zip us)):Binds K fd ps []:=fun s us _ hl=>by
 rw [List.append_nil] at hl ⊢
 exact .of_eq (h us hl)
def Fg (CX:qi) (X:Cx) (E:XK):Prop:=∀ (pins:List (Addr×Obj)) (σ:St) (H:Hp) (s:Shared) (e:Value) (s':Shared),Inv X pins σ H s->CX X.stack H s E e s'->X.xe e s'
section
variable {CX:qi} {k:Nat} {sp:Sp} {yc:List V} {ds:List Value} {E:XK} {m:Str} {p pos:Pos} {o:Expr} {ta:TE}
theorem M4 {Q:VK} {vs:List V} (F:oq X.prog X.w X.K X.mg X.base CX k f fd ps sp) (hr:fh k X.A) (hb:Binds X.K fd ps ds) (hd:ao yc ds) (hx:Fg CX X E)
  (I:Inv X pins σ H s) (r:ao vs us) (h:sp (vs++yc) H Q E):wpAny (model X.prog X.w) X.A (call (.ref f) us) (EP X pins σ Q) X.xe s:=by
 have r2:ao (vs++yc) (us++ds):=r.append hd
 have hl:(us++ds).length=ps.length:=by rw [<- r2.length];exact F.len _ _ _ _ h
 refine wpAny_call (codeAny_mono (F.run X.A X.stack s H ⟨us,[]⟩ (us++ds) (vs++yc) Q E hr I.Dw (hb s us I.bx hl) r2 h) fun r s' hq=>?_)
 cases r with
 | error e=>exact hx pins σ H s e s' I hq
 | ok fl=>
  cases fl with
  | ret u=>exact I.after hq
  | next=>exact False.elim hq
  | brk=>exact False.elim hq
  | cont=>exact False.elim hq
theorem M5 (F:oq X.prog X.w X.K X.mg X.base CX k f fd ps sp) (hr:fh k X.A) (hg:Gl X x) (hm:X.mg x=some (.ref f)) (hk:PySem.W.keepIn X.K (.ref f)=true) (hb:Binds X.K fd ps ds) (hd:ao yc ds) (hx:Fg CX X E)
  (ha:PA X (e::es) t) (d_:(x==("__debug__":Str))=false:=by decide) (he:starEach (e::es) X.env=(false,eval e X.env)::starEach es X.env:=by rfl) (hpl:(backTo pos (starEach es X.env)).any (·.1)=false:=by rfl):
  PE X (.Call (.Name x p) (e::es) [] pos) (z_ sp yc E t):=by
 intro pins s σ H Q I h
 refine wpAny_Call_Name_kw (fD I hg hm ?_ d_)
 refine PySem.W.callWith_K (h₀:=X.base) I.ok.mod.xu hk (aj (ha pos pins s σ H _ I h) fun us s1 ⟨vs,H1,I1,r,q⟩=>⟨I1.bx,?_⟩) he hpl
 exact M4 F hr hb hd hx I1 r q
end
section
variable {CX:qi} {k:Nat} {ks:List Str} {sp:Sp} {E:XK} {m:Str} {p pos V3:Pos} {o:Expr} {V4:List Keyword} {ta:TE} {tk:TA} {nm:Option Str}
variable {g:List Value->List Value->List Value} {gV:List V->List V->List V}
end
structure dg (N P:List Str) (sc:Scope):Prop where
 kind:sc.kind=.function
 co:sc.isCoroutine=false
 gen:sc.isGenerator=false
 nd:N.Nodup
 pre:N.take P.length=P
 Ia:∀ x∈P,sc.names.lookup x=some .local\/sc.names.lookup x=some .cell
 M6:∀ y∈sc.names,y.2≠.free
theorem oA {kindOf:Str->Option NameKind} {x:Str}:∀ {binds:List (Str×Value)} {m:Str->Option Value},(∀ v,(x,v) ∉ binds)->bindL kindOf binds m x=m x
 | [],_,_=>rfl
 | (n,v)::r,m,h=>by
  unfold bindL
  rw [oA fun w hw=>h w (Qh _ hw)]
  split
  ·have:x≠n:=by rintro rfl;exact h v List.mem_cons_self
   simp [this]
  ·rfl
theorem o6 {kindOf:Str->Option NameKind} {x:Str}:∀ {binds:List (Str×Value)} {m:Str->Option Value},(∀ v,(x,v) ∉ binds)->bindC kindOf binds m x=m x
 | [],_,_=>rfl
 | (n,v)::r,m,h=>by
  unfold bindC
  rw [o6 fun w hw=>h w (Qh _ hw)]
  split
  ·rfl
  ·have:x≠n:=by rintro rfl;exact h v List.mem_cons_self
   simp [this]
theorem oR {kindOf:Str->Option NameKind} {x:Str} {v:Value}:∀ {P:List Str} {vs:List Value} {i:Nat} {m:Str->Option Value},P.Nodup->P[i]? =some x->vs[i]? =some v->kindOf x=some .local->
  bindL kindOf (P.zip vs) m x=some v
 | [],_,_,_,_,h,_,_=>by simp at h
 | _::_,[],_,_,_,_,h,_=>by simp at h
 | p::P,w::vs,0,m,nd,h1,h2,hk=>by
  simp at h1 h2;subst h1;subst h2
  show bindL kindOf ((p,w)::P.zip vs) m p=_
  unfold bindL
  rw [oA fun v hv=>(List.nodup_cons.mp nd).1 (List.of_mem_zip hv).1,if_pos hk]
  simp
 | p::P,w::vs,i+1,m,nd,h1,h2,hk=>by
  show bindL kindOf ((p,w)::P.zip vs) m x=_
  unfold bindL
  exact oR (i:=i) (List.nodup_cons.mp nd).2 (by simpa using h1) (by simpa using h2) hk
theorem o5 {kindOf:Str->Option NameKind} {x:Str} {v:Value}:∀ {P:List Str} {vs:List Value} {i:Nat} {m:Str->Option Value},P.Nodup->P[i]? =some x->vs[i]? =some v->kindOf x≠some .local->
  bindC kindOf (P.zip vs) m x=some v
 | [],_,_,_,_,h,_,_=>by simp at h
 | _::_,[],_,_,_,_,h,_=>by simp at h
 | p::P,w::vs,0,m,nd,h1,h2,hk=>by
  simp at h1 h2;subst h1;subst h2
  show bindC kindOf ((p,w)::P.zip vs) m p=_
  unfold bindC
  rw [o6 fun v hv=>(List.nodup_cons.mp nd).1 (List.of_mem_zip hv).1,if_neg hk]
  simp
 | p::P,w::vs,i+1,m,nd,h1,h2,hk=>by
  show bindC kindOf ((p,w)::P.zip vs) m x=_
  unfold bindC
  exact o5 (i:=i) (List.nodup_cons.mp nd).2 (by simpa using h1) (by simpa using h2) hk
def start (N:List Str) (vs:List V):St:=vs.map some++List.replicate (N.length - vs.length) none
def gx (CX:qi) (P:Program) (w:World) (K:Q0) (mg:Str->Option Value) (base:Heap) (N:List Str) (qual:Str) (scope:Scope) (f:Addr) (cd:Value) (A:Around) (outer:List Env) (s:Shared) (H:Hp) (E:XK):Cx where
 prog:=P
 w:=w
 K:=K
 mg:=mg
 base:=base
 A:=A.deeper (envOfC qual scope s.heap.objs.size f cd)
 N:=N
 s₀:=s
 H₀:=H
 env:=envOfC qual scope s.heap.objs.size f cd
 outer:=outer
 stack:=envOfC qual scope s.heap.objs.size f cd::outer
 ex:=[]
 calm:=true
 fn:=fun _=>true
 pn:=[]
 xe:=fun e s'=>wpAny (model P w) (A.deeper (envOfC qual scope s.heap.objs.size f cd)) (leaving (envOfC qual scope s.heap.objs.size f cd) e) (fun _ s''=>CX outer H s E e s'') (fun e' s''=>CX outer H s E e' s'') s'
theorem rJ (h:sc.names.lookup x=some .cell):∃ c,(cellsFrom n sc.names []).lookup x=some c:=by
 have q:=PySem.W.cellsFrom_some sc.names n [] (.inl h)
 exact Option.isSome_iff_exists.mp q
theorem yH {CX:qi} {K:Q0} {cd:Value} {s1:Shared} {E:XK} {vs:List V}
  (S:dg N ps scope) (hd:A.handled=none) (e0:zz P w K mg base A outer s H) (hl:vs.length=ps.length) (r:ao vs us)
  (x:InCallC s s.heap.objs.size (bindL (envOfC qual scope s.heap.objs.size f cd).kindOf (ps.zip us) fun _=>none) (cellsFrom (s.heap.objs.size+1) scope.names []) (bindC (envOfC qual scope s.heap.objs.size f cd).kindOf (ps.zip us) fun _=>none) s1):
  Inv (gx CX P w K mg base N qual scope f cd A outer s H E) [] (start N vs) H s1:=by
 have hpl:ps.length<=N.length:=by have:=congrArg List.length S.pre;rw [List.length_take] at this;omega
 obtain ⟨h1,tk,rfl,hk⟩:=x.done
 have B6:∀ b:Addr,b ∉ (gx CX P w K mg base N qual scope f cd A outer s H E).ex:=fun b z=>absurd (show b∈([]:List Addr) from z) (by simp)
 refine ⟨⟨e0.mod,S.kind,rfl,rfl,Qy _,fun y z c h1 h2=>?_,fun y hy=>?_,fun y c _ h=>?_,fun _=>hd,Around.frames_deeper e0.frames,.inr ⟨rfl,rfl⟩,fun b z=>absurd z (B6 b),e0.bs,e0.rm,fun b _ _=>B6 b,fun b z=>absurd z (B6 b),e0.mi,e0.we⟩,
  rfl,e0.bare,Un.kept hk,⟨_,x.toInCall.ns,fun i y v h1 h2 h3=>?_⟩,fun y c h=>⟨_,x.cell y c h⟩,e0.hok.fresh (Qy _),fun y c h=>?_,fun p hp=>absurd (show p∈([]:List (Addr×Obj)) from hp) (by simp),e0.hok.kept hk,?_⟩
 ·exact name_of_addr x.apart (PySem.mem_of_lookup h1) (PySem.mem_of_lookup h2)
 ·have hy:scope.names.lookup y=some .cell\/scope.names.lookup y=some .free:=hy
  rcases hy with hy | hy
  ·exact rJ hy
  ·exact absurd rfl (S.M6 _ (PySem.mem_of_lookup hy))
 ·exact Nat.le_of_lt (x.above y c (PySem.mem_of_lookup h))
 ·have hi:i < vs.length:=by
   unfold start at h2
   by_cases hi:i < vs.length
   ·exact hi
   ·rw [List.getElem?_append_right (by simpa using hi)] at h2
    rw [List.getElem?_replicate] at h2
    split at h2<;>cases h2
  have ha:vs[i]? =some v:=by
   unfold start at h2
   rw [List.getElem?_append_left (by simpa using hi),Qq] at h2
   cases e:vs[i]? with
   | none=>rw [e] at h2;cases h2
   | some a=>rw [e] at h2;cases h2;rfl
  obtain ⟨u,hu,rv⟩:=r.get ha
  have hp:ps[i]? =some y:=by
   rw [<- S.pre,List.getElem?_take_of_lt (by omega)];exact h1
  have Ib:ps.Nodup:=by rw [<- S.pre];exact S.nd.sublist (List.take_sublist _ _)
  refine ⟨u,rv,?_⟩
  rcases S.Ia y (QC hp) with k | k
  ·exact .inl ⟨k,oR Ib hp hu k⟩
  ·obtain ⟨c,e⟩:=rJ (n:=s.heap.objs.size+1) k
   refine .inr ⟨.inl k,c,e,?_⟩
   have q:=x.cell y c e
   rw [o5 Ib hp hu (by show scope.names.lookup y≠_;rw [k];decide)] at q
   exact q
 ·exact e0.hok.fresh (Nat.le_of_lt (x.above y c (PySem.mem_of_lookup h)))
 ·unfold start
  show _=N.length
  rw [Qk,Ql,List.length_replicate]
  omega
theorem Ie {CX:qi} {K:Q0} {k:Nat} {params:Arguments} {body:List Stmt} {dV kV doc pm ak ct oc:Value} {an od:Option Addr}
  {g_:Array (Option Value)} {N ps:List Str} {sp:Sp} (lk:K.lookup f=some ⟨oc,od,.func (PySem.W.fnOf name qual params body scope dV kV doc pm an ak ct),g_⟩) (jr:PySem.W.codeIn K ak qual=true) (S:dg N ps scope)
  (len:∀ vs H Q E,sp vs H Q E->vs.length=ps.length)
  (se:∀ (A:Around) (outer:List Env) (s:Shared) (H:Hp) (vs:List V) (Q:VK) (E:XK),fh k (A.deeper (envOfC qual scope s.heap.objs.size f ak))->sp vs H Q E->
   ∃ t,ku (gx CX P w K mg base N qual scope f ak A outer s H E) body t/\t {nx:=fun _ H'=>Q .af H',rt:=Q} (start N vs) H):
  oq P w K mg base CX (k+1) f (PySem.W.fnOf name qual params body scope dV kV doc pm an ak ct) ps sp:=by
 refine ⟨len,fun A outer s H args us vs Q E hr e0 hb r uu=>?_⟩
 have hl:=len _ _ _ _ uu
 have KX:K.In s.heap:=e0.mod.xu.keeps fun b o e=>(e0.bs b o e).1
 have lim:s.heap.NoLimit:=e0.mod.nolimit.keeps fun b o e=>(e0.bs b o e).1
 have M7:∀ y∈ps.zip us,scope.names.lookup y.1=some .local\/(scope.names.lookup y.1=some .cell/\((cellsFrom (s.heap.objs.size+1) scope.names []).lookup y.1).isSome=true):=fun ⟨n,v⟩ hy=>by
  rcases S.Ia n (List.of_mem_zip hy).1 with q | q
  ·exact .inl q
  ·exact .inr ⟨q,PySem.W.cellsFrom_some _ _ _ (.inl q)⟩
 refine codeAny_call_function hr.depth (KX _ _ lk) rfl S.co S.gen rfl (PySem.W.codeRec_of KX jr) (hb _ _ _ _ ?_)
 refine wpAny_newFunctionEnv_cells S.kind M7 fun env he s1 x=>?_
 subst he
 refine ⟨lim.keeps x.toInCall.keep,codeAny_func ?_⟩
 obtain ⟨t,ht,hq⟩:=se A outer s H vs Q E (hr.deeper _) uu
 have I:Inv (gx CX P w K mg base N qual scope f ak A outer s H E) [] (start N vs) H s1:=yH S hr.hd e0 hl r x
 refine wpAny_mono (ht [] s1 (start N vs) H _ I hq) (fun fl s' hs=>?_) fun e s' hs=>hs
 have fin:∀ {σ':St} {H':Hp} {v:V} {u:Value},Inv (gx CX P w K mg base N qual scope f ak A outer s H E) [] σ' H' s'->RelV v u->Q v H'->CE outer P w H s Q u s':=
  fun {σ' H' v u} J rv q=>⟨v,H',J.os,J.bare,J.base,J.hok,rv,q⟩
 cases fl with
 | ret u=>
  obtain ⟨v,σ',H',J,rv,q⟩:=hs
  exact fin J rv q
 | next=>
  obtain ⟨σ',H',J,q⟩:=hs
  exact fin (v:=V.af) (u:=Value.none) J rfl q
 | brk=>
  obtain ⟨_,_,_,q⟩:=hs
  exact False.elim q
 | cont=>
  obtain ⟨_,_,_,q⟩:=hs
  exact False.elim q
section
variable {p pos:Pos} {id:String} {r:List V->Hp->VK->Prop}
def sj (r:List V->Hp->VK->Prop) (t:TA):TE:=fun σ H Q=>t σ H fun vs H1=>r vs H1 Q
theorem zN (hc:jd X (.builtin id) r) (hg:Gl X x) (hm:X.mg x=none) (hv:bootBuiltins x=some (.builtin id)) (ha:PA X (e::es) t) (hn:x≠"__name__":=by decide) (d_:(x==("__debug__":Str))=false:=by decide)
  (he:starEach (e::es) X.env=(false,eval e X.env)::starEach es X.env:=by rfl) (hpl:(backTo pos (starEach es X.env)).any (·.1)=false:=by rfl):PE X (.Call (.Name x p) (e::es) [] pos) (sj r t):=by
 intro pins s σ H Q I h
 refine wpAny_Call_Name_kw (hV I hg hm hv ?_ hn d_)
 exact PyProof.Rows.callWith_builtin1 (aj (ha pos pins s σ H _ I h) fun us s1 ⟨vs,H1,I1,r1,q1⟩=>hc pins s1 σ H1 vs us Q I1 r1 q1) he hpl
theorem yG (hc:jd X (.type T) r) (hg:Gl X x) (hm:X.mg x=none) (hv:bootBuiltins x=some (.type T)) (ha:PA X (e::es) t) (hn:x≠"__name__":=by decide) (d_:(x==("__debug__":Str))=false:=by decide)
  (he:starEach (e::es) X.env=(false,eval e X.env)::starEach es X.env:=by rfl) (hpl:(backTo pos (starEach es X.env)).any (·.1)=false:=by rfl):PE X (.Call (.Name x p) (e::es) [] pos) (sj r t):=by
 intro pins s σ H Q I h
 refine wpAny_Call_Name_kw (hV I hg hm hv ?_ hn d_)
 exact PyProof.Rows.callWith_type1 (aj (ha pos pins s σ H _ I h) fun us s1 ⟨vs,H1,I1,r1,q1⟩=>hc pins s1 σ H1 vs us Q I1 r1 q1) he hpl
end
end L2
namespace HT
open PySem PyProof.Rows
section
open PySem.SeqAt
open PySem.AutoSeq1 (wpAny_loadPart')
open PySem.MeetsSeq PySem.MeetsSeq2 PySem.MeetsSeq3
end
def bf (n d:Nat):Option Int->Nat
 | none=>d
 | some v=>if v < 0 then (v+(n:Int)).toNat else min v.toNat n
theorem sG (n d:Nat):bf n d none=d:=rfl
theorem gX (n d k:Nat):bf n d (some (k:Int))=min k n:=by
 show (if (k:Int) < 0 then ((k:Int)+(n:Int)).toNat else min (k:Int).toNat n)=min k n
 rw [if_neg (by omega),Int.toNat_natCast]
theorem M8 (n d:Nat) (hd:d<=n) (o:Option Int):bf n d o<=n:=by
 cases o with
 | none=>exact hd
 | some v=>
  show (if v < 0 then (v+(n:Int)).toNat else min v.toNat n)<=n
  by_cases hv:v < 0
  ·rw [if_pos hv];omega
  ·rw [if_neg hv];exact Nat.min_le_right _ _
theorem wA (v:Int) (n d:Nat):(if v < 0 then max (v+(n:Int)) 0 else min v (n:Int))=((bf n d (some v):Nat):Int):=by
 show (if v < 0 then max (v+(n:Int)) 0 else min v (n:Int))=(((if v < 0 then (v+(n:Int)).toNat else min v.toNat n):Nat):Int)
 by_cases hv:v < 0
 ·simp only [if_pos hv];omega
 ·simp only [if_neg hv];omega
theorem uE (lo hi:Option Int) (n:Nat):Builtin.Slice.sliceAdjust lo hi 1 (n:Int)=(((bf n 0 lo:Nat):Int),((bf n n hi:Nat):Int)):=by
 have h1:¬((1:Int) < 0):=by omega
 unfold Builtin.Slice.sliceAdjust
 simp only [h1,if_false]
 refine Prod.ext ?_ ?_
 ·cases lo with
  | none=>rfl
  | some v=>exact wA v n 0
 ·cases hi with
  | none=>rfl
  | some v=>exact wA v n n
theorem tK (i j:Nat):Builtin.Slice.slicePlaces (i:Int) (j:Int) 1=j - i:=by
 unfold Builtin.Slice.slicePlaces
 have h1:(1:Int) > 0:=by omega
 simp only [h1,if_true,Int.ediv_one]
 split<;>omega
theorem m8 {v:Value} {o:Option Int} {Q:Option Int->Shared->Prop} (p:IsPart v o) (h:Q o s):wpAny (model prog w) A (Builtin.Slice.slicePartIndex v) Q E s:=by
 cases p with
 | none=>exact slicePart_none h
 | int i t=>exact slicePart_int h
theorem kR {sl:Addr} {vl vu:Value} {lo hi:Option Int} {Q:Int×Int×Nat->Shared->Prop} (hs:s.heap.IsSliceOf sl vl vu .none) (pl:IsPart vl lo) (pu:IsPart vu hi)
  (h:Q (((bf n 0 lo:Nat):Int),1,bf n n hi - bf n 0 lo) s):wpAny (model prog w) A (Builtin.Slice.sliceApplied (.ref sl) (pure (n:Int))) Q E s:=by
 obtain ⟨os,Aa,Ig,b_⟩:=id hs
 unfold Builtin.Slice.sliceApplied Builtin.Slice.sliceFields
 refine QT (QT (wpAny_field Aa b_ (x:=vl) rfl (QT (wpAny_field Aa b_ (x:=vu) rfl (QT (wpAny_field Aa b_ (x:=.none) rfl (QU ?_)))))))
 refine QT (slicePart_none ?_)
 show wpAny _ _ (if ((1:Int)==0)=true then _ else _) _ _ s
 rw [if_neg (by decide)]
 refine QT (m8 pl (QT (m8 pu (QT (QU ?_)))))
 show wpAny _ _ (match Builtin.Slice.sliceAdjust lo hi 1 (n:Int) with | (lo,hi)=>pure (lo,(1:Int),Builtin.Slice.slicePlaces lo hi 1)) _ _ s
 rw [uE lo hi n]
 show wpAny _ _ (pure (((bf n 0 lo:Nat):Int),(1:Int),Builtin.Slice.slicePlaces ((bf n 0 lo:Nat):Int) ((bf n n hi:Nat):Int) 1)) _ _ s
 rw [tK]
 exact QU h
theorem zG (xs:Array Value) (i k:Nat):((List.range k).filterMap fun (m:Nat)=>xs[((i:Int)+(m:Int)*1).toNat]?).toArray=((xs.toList.drop i).take k).toArray:=by
 have e:(fun (m:Nat)=>xs[((i:Int)+(m:Int)*1).toNat]?)=fun m=>xs[i+m]?:=by
  funext m
  have:((i:Int)+(m:Int)*1).toNat=i+m:=by omega
  rw [this]
 rw [e]
 have:=pick_run xs i k
 rw [List.filterMap_map] at this
 have e2:((fun x=>xs[x]?)∘fun x=>i+x)=fun m=>xs[i+m]?:=rfl
 rw [e2] at this
 rw [this]
theorem jY {t sl:Addr} {items:Array Value} {vl vu:Value} {lo hi:Option Int} (ht:IsTup s.heap t items) (hs:s.heap.IsSliceOf sl vl vu .none) (pl:IsPart vl lo) (pu:IsPart vu hi)
  (hw:¬(bf items.size 0 lo=0/\bf items.size items.size hi=items.size))
  (h:Q (.ref s.heap.objs.size) {s with heap:=s.heap.push {cls:=.type "tuple",data:=.seq ((items.toList.drop (bf items.size 0 lo)).take (bf items.size items.size hi - bf items.size 0 lo)).toArray}})
  (hsz:items.size<=sizeLine):wpAny (model prog w) A (getItem (.ref t) (.ref sl)) Q E s:=by
 have Dy:sizeOk (.seq ((items.toList.drop (bf items.size 0 lo)).take (bf items.size items.size hi - bf items.size 0 lo)).toArray):=by
  show ((items.toList.drop (bf items.size 0 lo)).take (bf items.size items.size hi - bf items.size 0 lo)).toArray.size<=sizeLine
  rw [List.size_toArray,List.length_take,List.length_drop,Array.length_toList]
  omega
 have hj:bf items.size items.size hi<=items.size:=M8 _ _ (Qy _) hi
 obtain ⟨os,Aa,Ig,b_⟩:=id hs
 have M9:s.TypeIs (.ref sl) "slice":=⟨os,Aa,Ig⟩
 unfold getItem
 try with_reducible refine wpAny_holding ?_
 first | refine QT (QU ?_) | skip
 refine QT (wpAny_sequenceKey ht.typeIs (by decide) ?_)
 refine QT (wpAny_callSpecial?_slot (name:=Str.ofString "__getitem__") ht.typeIs PyProof.Rows.slot_tuple_getitem
  (wpAny_call_entry PyProof.Rows.slot_tuple_getitem ht.typeIs entry_tuple_getitem ?_ (args_tuple_getitem _ _)))
 show wpAny _ _ (Builtin.Tuple.tupleItemsOf (.ref t) >>=_) _ _ s
 refine QT (tupleItemsOf_ ht ?_)
 refine QT (wpAny_typeOf M9 ?_)
 rw [if_pos (by decide)]
 refine QT (kR hs pl pu ?_)
 have Fi:¬((((bf items.size 0 lo:Nat):Int)==0&&(1:Int)==1&&(bf items.size items.size hi - bf items.size 0 lo)==items.size)=true):=by
  intro q
  rw [Bool.and_eq_true,Bool.and_eq_true] at q
  have q1:((bf items.size 0 lo:Nat):Int)=0:=eq_of_beq q.1.1
  have q2:bf items.size items.size hi - bf items.size 0 lo=items.size:=eq_of_beq q.2
  exact hw ⟨by omega,by omega⟩
 show wpAny _ _ (if (((bf items.size 0 lo:Nat):Int)==0&&(1:Int)==1&&(bf items.size items.size hi - bf items.size 0 lo)==items.size)=true then _ else _) _ _ s
 rw [if_neg Fi,zG]
 first
  | exact QT (m:=Builtin.Tuple.tupleExact _) (wpAny_newObj_type (QU ⟨_,rfl,QU h⟩) Dy)
  | exact QT (m:=Builtin.Tuple.tupleExact _) (wpAny_newObj_type (QT (QU (QU ⟨_,rfl,QU h⟩))) Dy)
  | exact QT (QT (m:=Builtin.Tuple.tupleExact _) (wpAny_newObj_type (QU (QU ⟨_,rfl,QU h⟩)) Dy))
  | exact QT (QT (m:=Builtin.Tuple.tupleExact _) (wpAny_newObj_type (QU ⟨_,rfl,QU h⟩) Dy))
end HT
namespace L2
open PySem PySem.Spec PyProof.Rows
abbrev TO:=St->Hp->(Option Int->Hp->Prop)->Prop
def PO (X:Cx) (e:Option Expr) (t:TO):Prop:=
 ∀ (pins:List (Addr×Obj)) (s:Shared) (σ:St) (H:Hp) (Q:Option Int->Hp->Prop),Inv X pins σ H s->t σ H Q->
  wpAny (model X.prog X.w) X.A (evalPart e X.env) (fun u s'=>∃ o H',Inv X pins σ H' s'/\IsPart u o/\Q o H') X.xe s
def Fj:TO:=fun _ H Q=>Q none H
def Fk (t:TE):TO:=fun σ H Q=>t σ H fun x H1=>∃ i,x=.int i/\Q (some i) H1
section
variable {lo hi:Option Expr} {tl th:TO} {pos p2:Pos}
theorem M_:PO X none Fj:=by
 intro pins s σ H Q I h
 rw [evalPart_none]
 exact QU ⟨none,H,I,.none,h⟩
theorem Na (h:PE X e te):PO X (some e) (Fk te):=by
 intro pins s σ H Q I hw
 rw [evalPart_some]
 refine aj (h pins s σ H _ I hw) ?_
 rintro u s1 ⟨x,H1,I1,r1,q1⟩
 obtain ⟨i,rfl,q⟩:=q1
 obtain ⟨t,rfl⟩:=r1
 exact ⟨some i,H1,I1,.int i t,q⟩
def sr (X:Cx) (r:V->Option Int->Option Int->Hp->VK->Prop):Prop:=
 ∀ (pins:List (Addr×Obj)) (s:Shared) (σ:St) (H:Hp) (x:V) (v vl vu:Value) (lo hi:Option Int) (sl:Addr) (Q:VK),Inv X pins σ H s->RelV x v->s.heap.IsSliceOf sl vl vu .none->IsPart vl lo->IsPart vu hi->r x lo hi H Q->
  ∃ T id,typeLookup (.type T) "__getitem__"=pure (some (.builtin id))/\s.TypeIs v T/\wpAny (model X.prog X.w) X.A (getItem v (.ref sl)) (EP X pins σ Q) X.xe s
theorem sr.or {r r':V->Option Int->Option Int->Hp->VK->Prop} (h:sr X r) (h':sr X r'):sr X (fun x lo hi H Q=>r x lo hi H Q\/r' x lo hi H Q):=by
 intro pins s σ H x v vl vu lo hi sl Q I rx hs pl pu q
 rcases q with q | q
 ·exact h pins s σ H x v vl vu lo hi sl Q I rx hs pl pu q
 ·exact h' pins s σ H x v vl vu lo hi sl Q I rx hs pl pu q
def Fl (r:V->Option Int->Option Int->Hp->VK->Prop) (te:TE) (tl th:TO):TE:=fun σ H Q=>te σ H fun x H1=>tl σ H1 fun l H2=>th σ H2 fun u H3=>r x l u H3 Q
theorem Nb {r:V->Option Int->Option Int->Hp->VK->Prop} (hr:sr X r) (he:PE X e te) (hl:PO X lo tl) (hu:PO X hi th):PE X (.Subscript e (.Slice lo hi none p2) pos) (Fl r te tl th):=by
 intro pins s σ H Q I h
 refine Subscript_ (aj (he pins s σ H _ I h) ?_)
 rintro v s1 ⟨x,H1,I1,r1,q1⟩
 refine wpAny_Slice (aj (hl pins s1 σ H1 _ I1 q1) fun vl s2 ⟨l,H2,I2,pl,q2⟩=>aj (hu pins s2 σ H2 _ I2 q2) fun vu s3 ⟨u,H3,I3,pu,q3⟩=>?_)
 rw [evalPart_none]
 refine QU ?_
 have I4:Inv X pins σ H3 {s3 with heap:=s3.heap.push {cls:=.type "slice",data:=.fields #[vl,vu,.none]}}:=I3.kept (t':=s3.toks) fun b ob q=>Qc _ q
 obtain ⟨T,id,hT,ht,hg⟩:=hr pins {s3 with heap:=s3.heap.push {cls:=.type "slice",data:=.fields #[vl,vu,.none]}} σ H3 x v vl vu l u s3.heap.objs.size Q I4 r1 (Heap.IsSliceOf.new ..) pl pu q3
 show wpAny (model X.prog X.w) X.A (subscriptTail e (.Slice lo hi none p2) v (.ref s3.heap.objs.size)) (EP X pins σ Q) X.xe {s3 with heap:=s3.heap.push {cls:=.type "slice",data:=.fields #[vl,vu,.none]}}
 exact tail_any (ops:=[.ref s3.heap.objs.size,v]) ht hT hg (by with_unfolding_all rfl)
def f_ (xs:List V) (lo hi:Option Int):List V:=(xs.drop (HT.bf xs.length 0 lo)).take (HT.bf xs.length xs.length hi - HT.bf xs.length 0 lo)
theorem fZ (xs:List V) (lo hi:Option Int):(f_ xs lo hi).length<=xs.length:=by
 unfold f_
 rw [List.length_take,List.length_drop]
 omega
def Dz (K:Q0):V->Option Int->Option Int->Hp->VK->Prop:=fun x lo hi H Q=>∃ a xs,x=.ref a/\ai K H a xs/\
 ¬(HT.bf xs.length 0 lo=0/\HT.bf xs.length xs.length hi=xs.length)/\∀ p,H p=none->Q (.ref p) (upd H p (.tup (f_ xs lo hi)))
theorem Nc:sr X (Dz X.K):=by
 intro pins s σ H x v vl vu lo hi sl Q I rx hs pl pu h
 obtain ⟨a,xs,rfl,hx,hw,q⟩:=h
 cases rx
 obtain ⟨its,r,ht,hz⟩:=I.tuple hx
 have fq:its.toArray.size=xs.length:=by rw [List.size_toArray];exact r.length.symm
 refine ⟨"tuple",_,PyProof.Rows.slot_tuple_getitem.lookup,ht.typeIs,?_⟩
 refine HT.jY ht hs pl pu (by rw [fq];exact hw) ?_ (by rw [fq];exact hz)
 rw [fq]
 refine ⟨.ref s.heap.objs.size,_,I.laid (t':=s.toks) (o:=.tup (f_ xs lo hi)) (fun b ob q=>Qc _ q) (Qy _) ?_,rfl,q _ (I.hok.fresh (Qy _))⟩
 exact ⟨⟨Nat.le_trans (fZ xs lo hi) hz,zk.new rfl rfl⟩,_,(r.drop (HT.bf xs.length 0 lo)).take (HT.bf xs.length xs.length hi - HT.bf xs.length 0 lo),IsTup.new _ _⟩
end
def su (n:Nat) (i:Int):Option Nat:=if 0<=i then (if i < n then some i.toNat else none) else if -(n:Int)<=i then some (i+n).toNat else none
def iu {α:Type} (xs:List α) (i:Int):Option α:=(su xs.length i).bind fun j=>xs[j]?
theorem lS {i:Int} (h:su n i=some j):seqIndex? i n=some j/\j < n/\ -(n:Int)<=i/\i < n:=by
 unfold su at h
 by_cases h0:0<=i
 ·rw [if_pos h0] at h
  by_cases h1:i < n
  ·rw [if_pos h1] at h
   have e:i.toNat=j:=QD h
   exact ⟨by rw [seqIndex_of h0 h1,e],by omega,by omega,h1⟩
  ·rw [if_neg h1] at h;cases h
 ·rw [if_neg h0] at h
  by_cases h1: -(n:Int)<=i
  ·rw [if_pos h1] at h
   have e:(i+n).toNat=j:=QD h
   exact ⟨by rw [seqIndex_neg (by omega) h1,e],by omega,h1,by omega⟩
  ·rw [if_neg h1] at h;cases h
theorem pU {xs:List α} {i:Int} {v:α} (h:iu xs i=some v):∃ j,seqIndex? i xs.length=some j/\xs[j]? =some v/\j < xs.length/\ -(xs.length:Int)<=i/\i < xs.length:=by
 unfold iu at h
 cases e:su xs.length i with
 | none=>rw [e] at h;cases h
 | some j=>
  rw [e] at h
  obtain ⟨h1,h2,h3,h4⟩:=lS e
  exact ⟨j,h1,h,h2,h3,h4⟩
theorem dN {xs:List α} {v:α} (h:xs[j]? =some v):iu xs (j:Int)=some v:=by
 have hj:j < xs.length:=(List.getElem?_eq_some_iff.mp h).1
 have e:su xs.length (j:Int)=some j:=by
  unfold su
  rw [if_pos (by omega),if_pos (by omega)];simp
 unfold iu;rw [e];exact h
def Ih (b:Expr):Prop:=∀ o i,subscripted b false o i=operate [o,i] (getItem o i)
def Ab (X:Cx) (r:R2):Prop:=
 ∀ (value slice:Expr) (pins:List (Addr×Obj)) (s:Shared) (σ:St) (H:Hp) (x y:V) (v u:Value) (Q:VK),Inv X pins σ H s->RelV x v->RelV y u->r x y H Q->
  subscripted slice false v u=operate [v,u] (getItem v u)->wpAny (model X.prog X.w) X.A (subscriptTail value slice v u) (EP X pins σ Q) X.xe s
def Ii (X:Cx) (id:String) (r:V->List V->Hp->VK->Prop):Prop:=
 ∀ (pins:List (Addr×Obj)) (s:Shared) (σ:St) (H:Hp) (x:V) (xs:List V) (v:Value) (us:List Value) (Q:VK),Inv X pins σ H s->RelV x v->ao xs us->r x xs H Q->
  wpAny (model X.prog X.w) X.A (call (.builtin id) (v::us)) (EP X pins σ Q) X.xe s
section
variable {a b:Expr} {ta tb:TE} {pos:Pos}
theorem Nd {r:R2} (hr:Ab X r) (ha:PE X a ta) (hb:PE X b tb) (hs:Ih b):PE X (.Subscript a b pos) (j_ r ta tb):=by
 intro pins s σ H Q I h
 exact Subscript_ (Fb ha hb I h fun v u s2 x y H2 I2 rx ry q=>hr a b pins s2 σ H2 x y v u Q I2 rx ry q (hs _ _))
def Nf (K:Q0):R2:=fun x y H Q=>∃ p xs i v,x=.ref p/\y=.int i/\ae K H p xs/\iu xs i=some v/\Q v H
def Ng (K:Q0):R2:=fun x y H Q=>∃ p xs i v,x=.ref p/\y=.int i/\ai K H p xs/\iu xs i=some v/\Q v H
def Nh:R2:=fun x y H Q=>∃ z i c,x=.str z/\y=.int i/\z.length<=sizeLine/\iu z.cps.toList i=some c/\Q (.str ⟨#[c]⟩) H
theorem Ni:Ab X (Nf X.K):=by
 intro value slice pins s σ H x y v u Q I rx ry h hs
 obtain ⟨p,xs,i,z,rfl,rfl,hq,he,q⟩:=h
 cases rx
 obtain ⟨t,rfl⟩:=ry
 obtain ⟨its,r,pl,hz⟩:=I.list hq
 obtain ⟨j,h1,h2,h3,h4,h5⟩:=pU he
 obtain ⟨w,ew,ou⟩:=r.get h2
 have hl:=r.length
 have hn:=B3
 have fin:EP X pins σ Q w s:=⟨z,H,I,ou,q⟩
 by_cases h0:0<=i
 ·have hj:i.toNat=j:=by
   rw [seqIndex_of h0 h5] at h1
   exact QD h1
  exact item_listR pl.isList h0 (by omega) (by rw [hj];simpa using ew) fin hs
 ·have hj:(i+(its.toArray.size:Int)).toNat=j:=by
   rw [seqIndex_neg (by omega) h4] at h1
   rw [List.size_toArray,<- hl]
   exact QD h1
  exact subscriptTail_builtinR (x:=w) pl.isList.typeIs slot_list_getitem.lookup
   (wpAny_getItem_list_neg (Q:=fun r s'=>r=w/\EP X pins σ Q r s') pl.isList (by omega) (by rw [List.size_toArray]<;>omega) (by omega) (by rw [hj];simpa using ew) ⟨rfl,fin⟩) hs
theorem Nj:Ab X (Ng X.K):=by
 intro value slice pins s σ H x y v u Q I rx ry h hs
 obtain ⟨p,xs,i,z,rfl,rfl,hq,he,q⟩:=h
 cases rx
 obtain ⟨t,rfl⟩:=ry
 obtain ⟨its,r,pl,hz⟩:=I.tuple hq
 obtain ⟨j,h1,h2,h3,h4,h5⟩:=pU he
 obtain ⟨w,ew,ou⟩:=r.get h2
 have hl:=r.length
 have hn:=B3
 have fin:EP X pins σ Q w s:=⟨z,H,I,ou,q⟩
 exact subscriptTail_builtinR (x:=w) pl.typeIs slot_tuple_getitem.lookup
  (getItem_tuple (j:=j) (Q:=fun r s'=>r=w/\EP X pins σ Q r s') pl (by omega) (by omega) (by rw [List.size_toArray,<- hl];exact h1) (by simpa using ew) ⟨rfl,fin⟩) hs
theorem Nk:Ab X Nh:=by
 intro value slice pins s σ H x y v u Q I rx ry h hs
 obtain ⟨z,i,c,rfl,rfl,hz,he,q⟩:=h
 obtain ⟨t,rfl⟩:=rx
 obtain ⟨t',rfl⟩:=ry
 obtain ⟨j,h1,h2,h3,h4,h5⟩:=pU he
 have hl:z.cps.toList.length=z.length:=by simp [Str.length]
 rw [hl] at h1 h4 h5
 have hn:=B3
 exact tail_any (typeIs_str s z t) slot_str_getitem.lookup (getItem_str (c:=c) (by
  have e1:decide (i < -(2^63:Int))=false:=Qw (by omega)
  have e2:decide (i≥2^63)=false:=Qw (by omega)
  rw [e1,e2,Bool.or_false]) (by rw [h1];simpa using h2) ⟨.str ⟨#[c]⟩,H,I.tok _,⟨_,rfl⟩,q⟩) hs
theorem uL (its:List Value) (n j:Nat) (u:Value):Obj.mapSeq (·.setIfInBounds j u) {cls:=.type "list",data:=.seq its.toArray n}={cls:=.type "list",data:=.seq (its.set j u).toArray n}:=by
 simp [Obj.mapSeq]
theorem Inv.lst {pins:List (Addr×Obj)} {σ:St} {H:Hp} {s:Shared} {p:Addr} {xs:List V} (I:Inv X pins σ H s) (h:H p=some (.lst xs)):
  ∃ (its:List Value) (n:Nat),ao xs its/\s.heap.get? p=some {cls:=.type "list",data:=.seq its.toArray n}/\xs.length<=sizeLine:=by
 obtain ⟨z,its,n,r,e⟩:=I.hok p _ h
 exact ⟨its,n,r,e,z⟩
theorem Inv.Nl {xs ys:List V} {its its':List Value} {n':Nat} {f:Obj->Obj} (I:Inv X pins σ H s) (h:H p=some (.lst xs))
  (ho:s.heap.get? p=some {cls:=.type "list",data:=.seq its.toArray n}) (hf:f {cls:=.type "list",data:=.seq its.toArray n}={cls:=.type "list",data:=.seq its'.toArray n'}) (r:ao ys its') (hz:ys.length<=sizeLine) (t:Nat):
  Inv X pins σ (upd H p (.lst ys)) {s with heap:=s.heap.update p f,toks:=t}:=by
 have e:(s.heap.update p f).get? p=some {cls:=.type "list",data:=.seq its'.toArray n'}:=by
  rw [Heap.get?_update_self f ho (by rw [hf]<;>rfl),hf]
 refine I.write (x:=p) (e:=p) (by rw [h];trivial) (.inl rfl) (fun b u hb q=>(Heap.get?_update_other _ _ (Ne.symm hb)).trans q) ⟨_,e⟩ ?_
 exact ⟨hz,its',n',r,e⟩
def Nm:V->V->V->Hp->(Hp->Prop)->Prop:=fun o i v H Q=>∃ p xs k j,o=.ref p/\i=.int k/\H p=some (.lst xs)/\su xs.length k=some j/\Q (upd H p (.lst (xs.set j v)))
theorem qL:E7 X Nm:=by
 intro pins s σ H o i v ov iv u Q I ro ri rv h
 obtain ⟨p,xs,k,j,rfl,rfl,hp,hj,q⟩:=h
 cases ro
 obtain ⟨t,rfl⟩:=ri
 obtain ⟨its,n,r,ho,hz⟩:=I.lst hp
 obtain ⟨h1,h2,h3,h4⟩:=lS hj
 have hl:=r.length
 have hn:=B3
 have I':Inv X pins σ (upd H p (.lst (xs.set j v))) {s with heap:=s.heap.update p (Obj.mapSeq (·.setIfInBounds j u))}:=
  I.Nl hp ho (uL its n j u) (r.set rv j) (by rw [List.length_set];exact hz) s.toks
 by_cases h0:0<=k
 ·have hk:k.toNat=j:=by
   rw [seqIndex_of h0 h4] at h1
   exact QD h1
  exact PySem.W.ki_setAt ho h0 (by omega) (by rw [List.size_toArray,<- hl];exact h4) (by rw [hk];exact ⟨_,I',q⟩)
 ·have hk:(k+(its.toArray.size:Int)).toNat=j:=by
   rw [seqIndex_neg (by omega) h3] at h1
   rw [List.size_toArray,<- hl]
   exact QD h1
  exact PySem.W.ki_setBack ho (by omega) (by rw [List.size_toArray,<- hl];exact h3) (by omega) (by rw [hk];exact ⟨_,I',q⟩)
theorem pQ (lo hi:Option Int) (n:Nat):(sliceBounds lo hi none n).1=((HT.bf n 0 lo:Nat):Int)/\(sliceBounds lo hi none n).2.1=((HT.bf n n hi:Nat):Int)/\(sliceBounds lo hi none n).2.2=1:=by
 refine ⟨?_,?_,rfl⟩
 ·cases lo with
  | none=>simp [sliceBounds,HT.bf]
  | some i=>
   simp only [sliceBounds,HT.bf,Option.getD_none,show (1:Int) > 0 by decide,if_true]
   by_cases h:i < 0
   ·simp only [h,if_true]<;>omega
   ·simp only [h,if_false]<;>omega
 ·cases hi with
  | none=>simp [sliceBounds,HT.bf]
  | some i=>
   simp only [sliceBounds,HT.bf,Option.getD_none,show (1:Int) > 0 by decide,if_true]
   by_cases h:i < 0
   ·simp only [h,if_true]<;>omega
   ·simp only [h,if_false]<;>omega
theorem nJ (its:List Value) (lo hi:Option Int):slicePick its.toArray lo hi none=((its.drop (HT.bf its.length 0 lo)).take (HT.bf its.length its.length hi - HT.bf its.length 0 lo)).toArray:=by
 obtain ⟨h1,h2,h3⟩:=pQ lo hi its.toArray.size
 unfold slicePick
 rw [h1,h2,h3]
 simp only [sliceRange_one,pick_run,List.size_toArray]<;>rfl
def DB (K:Q0):V->Option Int->Option Int->Hp->VK->Prop:=fun x lo hi H Q=>∃ a xs,x=.ref a/\ae K H a xs/\∀ p,H p=none->Q (.ref p) (upd H p (.lst (f_ xs lo hi)))
theorem Nn:sr X (DB X.K):=by
 intro pins s σ H x v vl vu lo hi sl Q I rx hs pl pu h
 obtain ⟨a,xs,rfl,hx,q⟩:=h
 cases rx
 obtain ⟨its,r,ht,hz⟩:=I.list hx
 have fq:=r.length
 refine ⟨"list",_,slot_list_getitem.lookup,ht.isList.typeIs,?_⟩
 refine wpAny_getItem_list_slice ht.isList hs pl pu .none (by simp) ?_ (by rw [List.size_toArray]<;>omega)
 rw [nJ,<- fq]
 refine ⟨.ref s.heap.objs.size,_,I.laid (t':=s.toks) (o:=.lst (f_ xs lo hi)) (fun b ob q=>Qc _ q) (Qy _) ?_,rfl,q _ (I.hok.fresh (Qy _))⟩
 exact ⟨Nat.le_trans (fZ xs lo hi) hz,_,0,(r.drop (HT.bf xs.length 0 lo)).take (HT.bf xs.length xs.length hi - HT.bf xs.length 0 lo),Qd _ rfl⟩
def kc:V->Bool
 | .af=>true
 | .bl _=>true
 | .int _=>true
 | .str _=>true
 | _=>false
def je:V->V->Bool
 | .af,.af=>true
 | .bl a,.bl b=>a==b
 | .bl a,.int b=>(if a then 1 else 0)==b
 | .int a,.bl b=>a==(if b then 1 else 0)
 | .int a,.int b=>a==b
 | .str a,.str b=>a==b
 | _,_=>false
theorem uN {y x:V} {v:Value} (ry:RelV y u) (rx:RelV x v) (fy:kc y=true) (fx:kc x=true):SeqAt.EqAt A s u v (je y x):=by
 cases y with
 | af=>
  cases ry
  cases x with
  | af=>cases rx;exact SeqAt.EqAt.same _
  | bl b=>cases rx;exact SeqAt.EqAt.none_bool b
  | int b=>obtain ⟨t,rfl⟩:=rx;exact SeqAt.EqAt.none_int b t
  | str b=>obtain ⟨t,rfl⟩:=rx;exact SeqAt.EqAt.none_str b t
  | _=>exact absurd (show false=true from fx) Bool.false_ne_true
 | bl a=>
  cases ry
  cases x with
  | af=>cases rx;exact SeqAt.EqAt.bool_none a
  | bl b=>cases rx;exact SeqAt.EqAt.bool_bool a b
  | int b=>obtain ⟨t,rfl⟩:=rx;exact SeqAt.EqAt.bool_int a b t
  | str b=>obtain ⟨t,rfl⟩:=rx;exact SeqAt.EqAt.bool_str a b t
  | _=>exact absurd (show false=true from fx) Bool.false_ne_true
 | int a=>
  obtain ⟨t',rfl⟩:=ry
  cases x with
  | af=>cases rx;exact SeqAt.EqAt.int_none a t'
  | bl b=>cases rx;exact SeqAt.EqAt.int_bool a t' b
  | int b=>obtain ⟨t,rfl⟩:=rx;exact SeqAt.EqAt.int_int a t' b t
  | str b=>obtain ⟨t,rfl⟩:=rx;exact SeqAt.EqAt.int_str a t' b t
  | _=>exact absurd (show false=true from fx) Bool.false_ne_true
 | str a=>
  obtain ⟨t',rfl⟩:=ry
  cases x with
  | af=>cases rx;exact SeqAt.EqAt.str_none a t'
  | bl b=>cases rx;exact SeqAt.EqAt.str_bool a t' b
  | int b=>obtain ⟨t,rfl⟩:=rx;exact SeqAt.EqAt.str_int a t' b t
  | str b=>obtain ⟨t,rfl⟩:=rx;exact SeqAt.EqAt.str_str a t' b t
  | _=>exact absurd (show false=true from fx) Bool.false_ne_true
 | _=>exact absurd (show false=true from fy) Bool.false_ne_true
def k_ (x:V) (u:Value):Bool:=match u with
 | .none=>je .af x
 | .bool b=>je (.bl b) x
 | .int i _=>je (.int i) x
 | .str z _=>je (.str z) x
 | _=>false
theorem Ij {x y:V} (r:RelV y u) (f:kc y=true):k_ x u=je y x:=by
 cases y with
 | af=>cases r;rfl
 | bl b=>cases r;rfl
 | int i=>obtain ⟨t,rfl⟩:=r;rfl
 | str z=>obtain ⟨t,rfl⟩:=r;rfl
 | _=>exact absurd (show false=true from f) Bool.false_ne_true
theorem k4 {x:V}:∀ {xs:List V} {us:List Value},ao xs us->xs.all kc=true->us.any (k_ x)=xs.any fun y=>je y x
 | _,_,.nil,_=>rfl
 | y::xs,u::us,.cons r t,f=>by
  rw [List.all_cons,Bool.and_eq_true] at f
  rw [List.any_cons,List.any_cons,Ij r f.1,k4 t f.2]
theorem iZ {A:Around} {s:Shared} {x:V} {v:Value} (rx:RelV x v) (fx:kc x=true):∀ {xs:List V} {us:List Value},ao xs us->xs.all kc=true->∀ u∈us,SeqAt.EqAt A s u v (k_ x u)
 | _,_,.nil,_=>fun u hu=>by cases hu
 | y::xs,u::us,.cons r t,f=>fun u' hu=>by
  rw [List.all_cons,Bool.and_eq_true] at f
  rcases Qp.mp hu with rfl | hu
  ·rw [Ij r f.1];exact uN r rx f.1 fx
  ·exact iZ rx fx t f.2 u' hu
def mw (x:V) (xs:List V):Bool:=xs.any fun y=>je y x
def Ik (K:Q0) (neg:Bool):R2:=fun x y H Q=>∃ p xs,y=.ref p/\(ae K H p xs\/ai K H p xs)/\kc x=true/\xs.all kc=true/\Q (.bl (if neg then !mw x xs else mw x xs)) H
theorem wM:br X (compareOp .In) (Ik X.K false):=by
 intro pins s σ H x y v u Q I rx ry h
 obtain ⟨p,xs,rfl,hq,fx,fs,q⟩:=h
 cases ry
 rcases hq with hq | hq
 ·obtain ⟨its,r,pl,hz⟩:=I.list hq
  refine SeqAt.in_listAt (k_ x) pl.isList (fun w hw=>iZ rx fx r fs w (by simpa using hw)) ⟨.bl _,H,I,rfl,?_⟩
  rw [show its.toArray.any (k_ x)=its.any (k_ x) by simp,k4 r fs]
  exact q
 ·obtain ⟨its,r,pl,hz⟩:=I.tuple hq
  refine SeqAt.in_tupleAt (k_ x) pl (fun w hw=>iZ rx fx r fs w (by simpa using hw)) ⟨.bl _,H,I,rfl,?_⟩
  rw [show its.toArray.any (k_ x)=its.any (k_ x) by simp,k4 r fs]
  exact q
theorem oW:br X (compareOp .NotIn) (Ik X.K true):=by
 intro pins s σ H x y v u Q I rx ry h
 obtain ⟨p,xs,rfl,hq,fx,fs,q⟩:=h
 cases ry
 rcases hq with hq | hq
 ·obtain ⟨its,r,pl,hz⟩:=I.list hq
  refine SeqAt.notIn_listAt (k_ x) pl.isList (fun w hw=>iZ rx fx r fs w (by simpa using hw)) ⟨.bl _,H,I,rfl,?_⟩
  rw [show its.toArray.any (k_ x)=its.any (k_ x) by simp,k4 r fs]
  exact q
 ·obtain ⟨its,r,pl,hz⟩:=I.tuple hq
  refine SeqAt.notIn_tupleAt (k_ x) pl (fun w hw=>iZ rx fx r fs w (by simpa using hw)) ⟨.bl _,H,I,rfl,?_⟩
  rw [show its.toArray.any (k_ x)=its.any (k_ x) by simp,k4 r fs]
  exact q
theorem pJ:jd X (.type "list") (fun xs H Q=>∃ p ys,xs=[.ref p]/\(ae X.K H p ys\/ai X.K H p ys)/\∀ l,H l=none->Q (.ref l) (upd H l (.lst ys))):=by
 intro pins s σ H xs us Q I r h
 obtain ⟨p,ys,rfl,hq,q⟩:=h
 obtain ⟨u,rfl,rx⟩:=vals1 r
 cases rx
 have fin:∀ (its:List Value),ao ys its->ys.length<=sizeLine->∀ (h':Heap) (c':Nat),(∀ b o',s.heap.get? b=some o'->h'.get? b=some o')->
   h'.get? s.heap.objs.size=some {cls:=.type "list",dict:=none,data:=.seq its.toArray c',slots:=#[]}->EP X pins σ Q (.ref s.heap.objs.size) {s with heap:=h'}:=fun its r' hz h' c' kp e=>
  ⟨.ref s.heap.objs.size,_,I.laid (t':=s.toks) kp (Qy _) (show be X.prog X.w _ h' _ (.lst ys) from ⟨hz,its,c',r',e⟩),rfl,q _ (I.hok.fresh (Qy _))⟩
 rcases hq with hq | hq
 ·obtain ⟨its,r',pl,hz⟩:=I.list hq
  have fq:=r'.length
  obtain ⟨o,ho,hc,n,hd⟩:=pl.isList
  exact call_list_seq p (.inl rfl) ho hc hd (fun h' c' kp e=>fin its r' hz h' c' kp e) (by simp only [List.size_toArray]<;>omega)
 ·obtain ⟨its,r',pl,hz⟩:=I.tuple hq
  have fq:=r'.length
  obtain ⟨o,ho,hc,n,hd⟩:=pl
  exact call_list_seq p (.inr rfl) ho hc hd (fun h' c' kp e=>fin its r' hz h' c' kp e) (by simp only [List.size_toArray]<;>omega)
theorem nK:jd X (.type "tuple") (fun xs H Q=>∃ p ys,xs=[.ref p]/\((ae X.K H p ys/\∀ l,H l=none->Q (.ref l) (upd H l (.tup ys)))\/(ai X.K H p ys/\Q (.ref p) H))):=by
 intro pins s σ H xs us Q I r h
 obtain ⟨p,ys,rfl,h⟩:=h
 obtain ⟨u,rfl,rx⟩:=vals1 r
 cases rx
 rcases h with ⟨hq,q⟩ | ⟨hq,q⟩
 ·obtain ⟨its,r',pl,hz⟩:=I.list hq
  have fq:=r'.length
  refine call_tuple_list pl.isList (fun h' kp=>?_) (by simp only [List.size_toArray]<;>omega)
  have I1:Inv X pins σ H {s with heap:=h'}:=I.kept (t':=s.toks) kp
  have I2:Inv X pins σ (upd H h'.objs.size (.tup ys)) {s with heap:=h'.push {cls:=.type "tuple",data:=.seq its.toArray}}:=
   I1.laid (t':=s.toks) (fun b o e=>Qc _ e) (Qy _) (show be X.prog X.w _ _ _ (.tup ys) from ⟨⟨hz,zk.new rfl rfl⟩,its,r',IsTup.new _ _⟩)
  exact ⟨.ref h'.objs.size,_,I2,rfl,q _ (I1.hok.fresh (Qy _))⟩
 ·obtain ⟨its,r',pl,hz⟩:=I.tuple hq
  exact call_tuple_same pl ⟨.ref p,H,I,rfl,q⟩
def Il (K:Q0) (T:String) (x:V) (H:Hp):Prop:=match x with
 | .str _=>T="str"
 | .int _=>T="int"
 | .ref p=>(T="list"/\∃ xs,ae K H p xs)\/(T="tuple"/\∃ o,K.lookup p=some o/\o.cls=.type "tuple"/\o.dict=none)\/
   (T="dict"/\((∃ kvs,H p=some (.dK kvs))\/∃ kvs,H p=some (.dT kvs)))\/(T="set"/\∃ S n,H p=some (.set S n))
 | _=>False
theorem Np {x:V} {v:Value} (I:Inv X pins σ H s) (r:RelV x v) (ty:Il X.K T x H):
  s.TypeIs v T/\∀ a,v=.ref a->∃ ob,s.heap.get? a=some ob/\ob.dict=none:=by
 cases x with
 | str z=>
  obtain ⟨t,rfl⟩:=r
  cases (show T="str" from ty)
  exact ⟨typeIs_str s z t,fun _ e=>nomatch e⟩
 | int i=>
  obtain ⟨t,rfl⟩:=r
  cases (show T="int" from ty)
  exact ⟨typeIs_int s i t,fun _ e=>nomatch e⟩
 | ref p=>
  cases r
  rcases ty with ⟨rfl,xs,hq⟩ | ⟨rfl,o,hk,hc,hd⟩ | ⟨rfl,hk⟩ | ⟨rfl,S,n,hk⟩
  ·obtain ⟨its,_,pl,_⟩:=I.list hq
   refine ⟨pl.isList.typeIs,fun a e=>?_⟩
   cases e
   obtain ⟨o,n,e,c,hd,_⟩:=pl
   exact ⟨o,e,hd⟩
  ·refine ⟨⟨o,I.bx p o hk,hc⟩,fun a e=>?_⟩
   cases e
   exact ⟨o,I.bx _ o hk,hd⟩
  ·have z:∃ o,s.heap.get? p=some o/\o.ExactDict:=by
    rcases hk with ⟨kvs,hk⟩ | ⟨kvs,hk⟩
    ·obtain ⟨_,_,_,_,o,_,_,e,ex,_⟩:=I.hok p _ hk
     exact ⟨o,e,ex⟩
    ·obtain ⟨_,_,_,_,o,_,_,e,ex,_⟩:=I.hok p _ hk
     exact ⟨o,e,ex⟩
   obtain ⟨o,e,ex⟩:=z
   refine ⟨⟨o,e,ex.1⟩,fun a e2=>?_⟩
   cases e2
   exact ⟨o,e,ex.2.1⟩
  ·obtain ⟨o,_,_,_,e,ex,_⟩:=I.hok p _ hk
   refine ⟨⟨o,e,ex.1⟩,fun a e2=>?_⟩
   cases e2
   exact ⟨o,e,ex.2.1⟩
 | _=>exact False.elim ty
def Fo (K:Q0) (T:String) (r:V->List V->Hp->VK->Prop) (to:TE) (t:TA):TE:=fun σ H Q=>to σ H fun x H1=>Il K T x H1/\t σ H1 fun xs H2=>r x xs H2 Q
variable {o:Expr} {id:String} {r:V->List V->Hp->VK->Prop}
theorem Nq (pa:PlainAttrs T) (slot:Slot T name id) (B7:typeOf (.builtin id)=pure (.type "method_descriptor")) (hm:Ii X id r) (ho:PE X o to) (ha:PA X (e::es) t)
  (B8:attributeBase o name X.env (eval o X.env)=eval o X.env:=by rfl)
  (B9:((backTo cpos (starEach (e::es) X.env)).all (fun x=> !x.1)&&(backToKw cpos (keywordEach [] X.env)).all (fun x=>x.1.isSome)
   &&decide ((e::es).length+([]:List Keyword).length+(if ([]:List Keyword).isEmpty then 0 else 1) < 30))=true:=by rfl)
  (B_:(apos.endLine==cpos.line)=true:=by rfl) (hs:starEach (e::es) X.env=(false,eval e X.env)::starEach es X.env:=by rfl) (Ca:(backTo cpos (starEach es X.env)).any (·.1)=false:=by rfl):
  PE X (.Call (.Attribute o name apos) (e::es) [] cpos) (Fo X.K T r to t):=by
 intro pins s σ H Q I h
 refine wpAny_Call_method_late B8 B9 B_ rfl (aj (ho pins s σ H _ I h) ?_)
 rintro v s1 ⟨x,H1,I1,r1,ty,q1⟩
 obtain ⟨h1,h2⟩:=Np I1 r1 ty
 refine ⟨T,id,pa,slot,B7,h1,h2,?_⟩
 have hA:=ha cpos pins s1 σ H1 _ I1 q1
 rw [hs] at hA ⊢
 refine Calls.callWith_builtin (by show (false||(backTo cpos (starEach es X.env)).any (·.1))=false;rw [Ca]<;>rfl) (Calls.evalArgs_plain ?_)
 exact aj hA fun us s2 ⟨vs,H2,I2,r2,q2⟩=>hm pins s2 σ H2 x vs v us Q I2 r1 r2 q2
/- xs.append(e),list.index on a V5 tuple .. are Ii facts of 06m -/
end
def uv (X:Cx) (id:String) (r:V->List V->Hp->VK->Prop):Prop:=
 ∀ (pins:List (Addr×Obj)) (s:Shared) (σ:St) (H:Hp) (x:V) (xs:List V) (v:Value) (us:List Value) (Q:VK),Inv X pins σ H s->RelV x v->ao xs us->r x xs H Q->
  wpAny (model X.prog X.w) X.A (call (.builtin id) (v::us)) (EP X pins σ Q) X.xe s
theorem ao.one {x:V} {us:List Value} (h:ao [x] us):∃ u,us=[u]/\RelV x u:=by
 cases h with
 | cons r t=>
  cases t
  exact ⟨_,rfl,r⟩
theorem ao.two {x y:V} (h:ao [x,y] us):∃ u v,us=[u,v]/\RelV x u/\RelV y v:=by
 cases h with
 | cons r t=>
  cases t with
  | cons q t=>
   cases t
   exact ⟨_,_,rfl,r,q⟩
theorem ao.eraseIdx:∀ {xs:List V} {us:List Value} (i:Nat),ao xs us->ao (xs.eraseIdx i) (us.eraseIdx i)
 | _,_,_,.nil=>.nil
 | _,_,0,.cons _ t=>t
 | _,_,i+1,.cons r t=>.cons r (ao.eraseIdx i t)
theorem oO {α:Type}:∀ (l:List α) (i:Nat),(l.eraseIdx i).length<=l.length
 | [],_=>Qy _
 | _::_,0=>Nat.le_succ _
 | _::r,i+1=>Nat.succ_le_succ (oO r i)
section
variable {xs ys zs:List V}
theorem Inv.Fp {its its':List Value} {f:Array Value->Array Value} (I:Inv X pins σ H s) (hH:H l=some (.lst xs))
  (e:s.heap.get? l=some {cls:=.type "list",data:=.seq its.toArray n}) (hf:f its.toArray=its'.toArray) (hv:ao ys its') (hz:ys.length<=sizeLine):
  Inv X pins σ (upd H l (.lst ys)) {s with heap:=s.heap.update l (Obj.mapSeq f),toks:=t'}:=by
 have q:=PySem.IsL.update e f
 rw [hf] at q
 refine I.write (x:=l) (e:=l) (by rw [hH];exact trivial) (.inl rfl) (fun b' u hb hu=>(Heap.get?_update_other s.heap (Obj.mapSeq f) (Ne.symm hb)).trans hu) ⟨_,q⟩ ?_
 exact ⟨hz,its',_,hv,q⟩
theorem Inv.Nr {its:List Value} (I:Inv X pins σ H s) (hv:ao ys its) (hz:ys.length<=sizeLine):
  Inv X pins σ (upd H s.heap.objs.size (.lst ys)) {s with heap:=s.heap.push {cls:=.type "list",data:=.seq its.toArray},toks:=t'}:=
 I.laid (fun _ _ q=>Qc _ q) (Qy _) ⟨hz,its,0,hv,Qd _ rfl⟩
theorem Inv.fresh (I:Inv X pins σ H s):H s.heap.objs.size=none:=I.hok.fresh (Qy _)
theorem Inv.Cb (I:Inv X pins σ H s) (hH:H l=some (.lst xs)):xs.length<=sizeLine/\∃ (its:List Value) (n:Nat),ao xs its/\xs.length=its.length/\s.heap.get? l=some {cls:=.type "list",data:=.seq its.toArray n}:=by
 obtain ⟨z,its,n,r,e⟩:=I.hok l _ hH
 exact ⟨z,its,n,r,r.length,e⟩
end
def Nt:V->List V->Hp->VK->Prop:=fun x vs H Q=>∃ l xs y,x=.ref l/\vs=[y]/\H l=some (.lst xs)/\xs.length < sizeLine/\Q .af (upd H l (.lst (xs++[y])))
theorem dQ:uv X "list.append" Nt:=by
 intro pins s σ H x vs v us Q I rx rv h
 obtain ⟨l,xs,y,rfl,rfl,hH,hz,q⟩:=h
 cases rx
 obtain ⟨u,rfl,ru⟩:=rv.one
 obtain ⟨z,its,n,r,hl,e⟩:=I.Cb hH
 refine call_meets F.slot_list_append ⟨_,e,rfl⟩ F.entry_list_append (F.args_list_append_2 _ _) (PySem.list_append l its.toArray n u (by rw [List.size_toArray];omega)) ⟨e,?_⟩
 refine ⟨.af,_,I.Fp (its':=its++[u]) hH e (by simp) (r.append (.cons ru .nil)) ?_,rfl,q⟩
 rw [Qk,List.length_singleton]
 omega
def Nu:V->List V->Hp->VK->Prop:=fun x vs H Q=>∃ l xs i k y,x=.ref l/\vs=[.int i]/\H l=some (.lst xs)/\ -(2^63)<=i/\i < 2^63/\seqIndex? i xs.length=some k/\xs[k]? =some y/\Q y (upd H l (.lst (xs.eraseIdx k)))
theorem sF:uv X "list.pop" Nu:=by
 intro pins s σ H x vs v us Q I rx rv h
 obtain ⟨l,xs,i,k,y,rfl,rfl,hH,h1,h2,hk,hy,q⟩:=h
 cases rx
 obtain ⟨u,rfl,ru⟩:=rv.one
 obtain ⟨t,rfl⟩:=ru
 obtain ⟨z,its,n,r,hl,e⟩:=I.Cb hH
 obtain ⟨w,hw,ou⟩:=r.get hy
 refine call_meets F.slot_list_pop ⟨_,e,rfl⟩ F.entry_list_pop (F.args_list_pop_2 _ _)
  (MeetsSeq.list_pop_at l its.toArray n i t k w (fitsIndex_both h1 h2) (by rw [List.size_toArray,<- hl];exact hk) (by rw [<- Array.getElem?_toList];exact hw) (by rw [List.size_toArray];omega)) ⟨e,?_⟩
 refine ⟨y,_,I.Fp (its':=its.eraseIdx k) hH e ?_ (r.eraseIdx k) ?_,ou,q⟩
 ·show its.toArray.eraseIdxIfInBounds k=(its.eraseIdx k).toArray
  rw [List.eraseIdxIfInBounds_toArray]
 ·have:=oO xs k
  omega
def Nv:R2:=fun x y H Q=>∃ l b xs zs,x=.ref l/\y=.ref b/\H l=some (.lst xs)/\H b=some (.lst zs)/\xs.length+zs.length<=sizeLine/\∀ p,H p=none->Q (.ref p) (upd H p (.lst (xs++zs)))
theorem Nx:br X (binaryOp .Add) Nv:=by
 intro pins s σ H x y v u Q I rx ry h
 obtain ⟨l,b,xs,zs,rfl,rfl,hH,hB,hz,q⟩:=h
 cases rx
 cases ry
 obtain ⟨z,its,n,r,hl,e⟩:=I.Cb hH
 obtain ⟨z2,its2,n2,r2,gj,e2⟩:=I.Cb hB
 refine PySem.P.add_list e e2 ?_ (by rw [List.size_toArray,List.size_toArray];omega)
 have ea:its.toArray++its2.toArray=(its++its2).toArray:=by simp
 rw [ea]
 exact ⟨.ref _,_,I.Nr (t':=s.toks) (r.append r2) (by rw [Qk];omega),rfl,q _ I.fresh⟩
section
variable {κ:Type} [DecidableEq κ]
def bu (kvs:List (κ×V)) (k:κ):Option V:=(kvs.find? fun kv=>decide (kv.1=k)).map (·.2)
def putK (kvs:List (κ×V)) (k:κ) (v:V):List (κ×V):=
 if (kvs.any fun kv=>decide (kv.1=k))=true then kvs.map (fun kv=>if kv.1=k then (kv.1,v) else kv) else kvs++[(k,v)]
theorem cX {p:κ×V} {r:List (κ×V)} {k:κ} (e:p.1=k):bu (p::r) k=some p.2:=by simp [bu,List.find?_cons,e]
theorem d7 {p:κ×V} {r:List (κ×V)} {k:κ} (e:¬p.1=k):bu (p::r) k=bu r k:=by simp [bu,List.find?_cons,e]
theorem gH (k:κ):∀ kvs:List (κ×V),(kvs.any fun kv=>decide (kv.1=k))=(bu kvs k).isSome
 | []=>rfl
 | p::r=>by
  rw [List.any_cons]
  by_cases e:p.1=k
  ·simp only [cX e,Qv e,Bool.true_or,Option.isSome_some]
  ·rw [d7 e,Qw e,Bool.false_or];exact gH k r
theorem sJ (k j:κ) (y:V):∀ kvs:List (κ×V),bu (kvs.map fun kv=>if kv.1=k then (kv.1,y) else kv) j=(bu kvs j).map fun x=>if j=k then y else x
 | []=>rfl
 | p::r=>by
  have ih:=sJ k j y r
  rw [List.map_cons]
  by_cases h:p.1=k
  ·rw [if_pos h]
   by_cases e:p.1=j
   ·rw [cX (p:=(p.1,y)) e,cX e,Option.map_some,if_pos (e.symm.trans h)]
   ·rw [d7 (p:=(p.1,y)) e,d7 e,ih]
  ·rw [if_neg h]
   by_cases e:p.1=j
   ·rw [cX (p:=p) e,cX e,Option.map_some,if_neg (fun z=>h (e.trans z))]
   ·rw [d7 (p:=p) e,d7 e,ih]
theorem gJ (k j:κ) (y:V):∀ kvs:List (κ×V),bu kvs k=none->bu (kvs++[(k,y)]) j=if j=k then some y else bu kvs j
 | [],_=>by
  by_cases e:k=j
  ·rw [if_pos e.symm];exact cX (p:=(k,y)) e
  ·rw [if_neg (fun z=>e z.symm)];exact d7 (p:=(k,y)) e
 | p::r,hn=>by
  rw [List.cons_append]
  have hk:¬p.1=k:=fun z=>by rw [cX z] at hn;cases hn
  rw [d7 hk] at hn
  have ih:=gJ k j y r hn
  by_cases e:p.1=j
  ·rw [cX e,cX e,if_neg (fun z=>hk (e.trans z))]
  ·rw [d7 e,d7 e,ih]
theorem Ny (kvs:List (κ×V)) (k j:κ) (y:V):bu (putK kvs k y) j=if j=k then some y else bu kvs j:=by
 unfold putK
 by_cases a:(kvs.any fun kv=>decide (kv.1=k))=true
 ·rw [if_pos a,sJ]
  rw [gH] at a
  by_cases e:j=k
  ·obtain ⟨x,hx⟩:=Option.isSome_iff_exists.mp a
   rw [if_pos e,e,hx,Option.map_some,if_pos rfl]
  ·rw [if_neg e]
   cases bu kvs j with
   | none=>rfl
   | some x=>rw [Option.map_some,if_neg e]
 ·rw [if_neg a]
  refine gJ k j y kvs ?_
  rw [gH] at a
  cases q:bu kvs k with
  | none=>rfl
  | some x=>rw [q] at a;exact (a rfl).elim
theorem dU (kvs:List (κ×V)) (k:κ) (v:V):(putK kvs k v).length<=kvs.length+1:=by
 unfold putK
 split
 ·rw [Ql];omega
 ·rw [Qk,List.length_cons,List.length_nil];omega
theorem rE {kvs:List (κ×V)} {k:κ} (v:V) (h:bu kvs k=none):putK kvs k v=kvs++[(k,v)]:=by
 unfold putK
 rw [gH,h]
 exact if_neg (by decide)
theorem jy.DC {o:Option V} {u:Option Value} (r:jy o u):o.isSome=u.isSome:=by
 cases o with
 | none=>cases u with
  | none=>rfl
  | some _=>exact (show False from r).elim
 | some _=>cases u with
  | none=>exact (show False from r).elim
  | some _=>rfl
theorem jy.getD {o:Option V} {u:Option Value} {d:V} {d':Value} (r:jy o u) (rd:RelV d d'):RelV (o.getD d) (u.getD d'):=by
 cases o with
 | none=>cases u with
  | none=>exact rd
  | some _=>exact (show False from r).elim
 | some _=>cases u with
  | none=>exact (show False from r).elim
  | some _=>exact r
theorem KV.val {kvs:List (κ×V)} {vs:List (κ×Value)} (r:KV kvs vs) (k:κ):jy (bu kvs k) (valueAt vs k):=by
 unfold KV at r
 induction r with
 | nil=>exact True.intro
 | @cons p q ps qs h t ih=>
  obtain ⟨h1,h2⟩:=h
  by_cases e:p.1=k
  ·have e':q.1=k:=h1.symm.trans e
   have b:valueAt (q::qs) k=some q.2:=by simp [valueAt,List.find?_cons,e']
   rw [cX e,b];exact h2
  ·have e':¬q.1=k:=fun z=>e (h1.trans z)
   have b:valueAt (q::qs) k=valueAt qs k:=by simp [valueAt,List.find?_cons,e']
   rw [d7 e,b];exact ih
theorem KV.any {kvs:List (κ×V)} {vs:List (κ×Value)} (r:KV kvs vs) (k:κ):(kvs.any fun kv=>decide (kv.1=k))=vs.any fun kv=>decide (kv.1=k):=by
 unfold KV at r
 induction r with
 | nil=>rfl
 | cons h t ih=>rw [List.any_cons,List.any_cons,ih,h.1]
theorem KV.repl {kvs:List (κ×V)} {vs:List (κ×Value)} (r:KV kvs vs) (k:κ) {y:V} (ry:RelV y u):
  KV (kvs.map fun kv=>if kv.1=k then (kv.1,y) else kv) (vs.map fun kv=>if kv.1=k then (kv.1,u) else kv):=by
 unfold KV at r ⊢
 induction r with
 | nil=>exact .nil
 | @cons p q ps qs h t ih=>
  rw [List.map_cons,List.map_cons]
  refine .cons ?_ ih
  obtain ⟨h1,h2⟩:=h
  by_cases e:p.1=k
  ·rw [if_pos e,if_pos (h1.symm.trans e)];exact ⟨h1,ry⟩
  ·rw [if_neg e,if_neg (fun z=>e (h1.trans z))];exact ⟨h1,h2⟩
theorem KV.put {kvs:List (κ×V)} {vs:List (κ×Value)} (r:KV kvs vs) (k:κ) {y:V} (ry:RelV y u):KV (putK kvs k y) (stored vs k u):=by
 unfold putK stored
 rw [r.any k]
 by_cases e:(vs.any fun kv=>decide (kv.1=k))=true
 ·rw [if_pos e,if_pos e];exact r.repl k ry
 ·rw [if_neg e,if_neg e];exact Paired.snoc r ⟨rfl,ry⟩
theorem KV.length {kvs:List (κ×V)} {vs:List (κ×Value)} (r:KV kvs vs):kvs.length=vs.length:=Paired.length r
end
theorem k8 {k:Key} (r:RelV (kV k) u):(dz P w).is k u=true:=by
 cases k with
 | inl i=>obtain ⟨t,e⟩:=(show ∃ t,u=Value.int i t from r);subst e;exact t8 P w i t
 | inr x=>obtain ⟨t,e⟩:=(show ∃ t,u=Value.str x t from r);subst e;exact eQ P w x t
theorem oE {P:Program} {w:World}:∀ {ks:List Key} {us:List Value},ao (ks.map kV) us->ItemsAre (dz P w) ks us
 | [],_,r=>by rw [List.map_nil] at r;cases r;exact .nil
 | k::ks,_,r=>by
  rw [List.map_cons] at r
  cases r with
  | cons h t=>exact .cons (k8 h) (oE t)
abbrev KT (H:Hp):List (List Key×V)->List (List Key×Addr×Value)->Prop:=Paired fun p q=>p.1=q.1/\ja H q.2.1 (p.1.map kV)/\RelV p.2 q.2.2
theorem KT.val {kvs:List (List Key×V)} (r:KT H kvs xs) (k:List Key):jy (bu kvs k) ((atKey xs k).map (·.2)):=by
 induction r with
 | nil=>exact True.intro
 | @cons p q ps qs h t ih=>
  obtain ⟨h1,_,h2⟩:=h
  by_cases e:p.1=k
  ·have e':q.1=k:=h1.symm.trans e
   have b:atKey (q::qs) k=some q.2:=by simp [atKey,List.find?_cons,e']
   rw [cX e,b];exact h2
  ·have e':¬q.1=k:=fun z=>e (h1.trans z)
   have b:atKey (q::qs) k=atKey qs k:=by simp [atKey,List.find?_cons,e']
   rw [d7 e,b];exact ih
theorem KT.repl {kvs:List (List Key×V)} (r:KT H kvs xs) (k:List Key) {y:V} (ry:RelV y u):
  KT H (kvs.map fun kv=>if kv.1=k then (kv.1,y) else kv) (xs.map (putAt k u)):=by
 induction r with
 | nil=>exact .nil
 | @cons p q ps qs h t ih=>
  rw [List.map_cons,List.map_cons]
  refine .cons ?_ ih
  obtain ⟨h1,h2,h3⟩:=h
  unfold putAt
  by_cases e:p.1=k
  ·rw [if_pos e,if_pos (h1.symm.trans e)];exact ⟨h1,h2,ry⟩
  ·rw [if_neg e,if_neg (fun z=>e (h1.trans z))];exact ⟨h1,h2,h3⟩
theorem KT.put {kvs:List (List Key×V)} (r:KT H kvs xs) (k:List Key) {y:V} (hb:ja H b (k.map kV)) (ry:RelV y u):
  KT H (putK kvs k y) (storedH xs k b u):=by
 have e:(kvs.any fun kv=>decide (kv.1=k))=(atKey xs k).isSome:=by
  rw [gH,(r.val k).DC,Option.isSome_map]
 unfold putK storedH
 rw [e]
 by_cases q:(atKey xs k).isSome=true
 ·rw [if_pos q,if_pos q];exact r.repl k ry
 ·rw [if_neg q,if_neg q];exact Paired.snoc r ⟨rfl,hb,ry⟩
theorem KT.keeps {kvs:List (List Key×V)} (r:KT H kvs xs) (ht:∀ b ys,ja H b ys->ja H' b ys):KT H' kvs xs:=
 Paired.E3 r fun _ _ z=>⟨z.1,ht _ _ z.2.1,z.2.2⟩
theorem Im {u:HO} (ok:cj P w H h) (e:Rd H a u):be P w H h a u:=e.ok ok
theorem rQ {kvs:List (Key×V)} (ok:cj P w H h) (e:Rd H a (.dK kvs)):kvs.length<=sizeLine/\(a==sysModules)=false/\∃ vs,KV kvs vs/\h.DictOf (dz P w) a vs:=
 show be P w H h a (.dK kvs) from Im ok e
theorem o8 {kvs:List (Key×V)} (ok:cj P w H h) (e:H a=some (.dK kvs)):kvs.length<=sizeLine/\(a==sysModules)=false/\∃ vs,KV kvs vs/\h.DictOf (dz P w) a vs:=rQ ok (.inl e)
theorem pB {ks:List Key} (ok:cj P w H h) (e:ja H a (ks.map kV)):(tupleKind (dz P w)).is h ks a:=by
 have qq:be P w H h a (.tup (ks.map kV)):=by
  rcases e with e | ⟨_,e⟩
  ·exact ok a _ e
  ·exact (ok a _ e).2
 obtain ⟨_,its,r,o,h1,h2,n,h3⟩:=qq
 exact ⟨o,its.toArray,n,h1,h2,h3,by simpa using oE r⟩
theorem vN {kvs:List (List Key×V)} (ok:cj P w H h) (e:Rd H a (.dT kvs)):kvs.length<=sizeLine/\(a==sysModules)=false/\
  ∃ xs,KT H kvs xs/\h.DictOfH (tupleKind (dz P w)) a xs:=by
 obtain ⟨z,y,xs,r,o,es,ep,h1,h2,h3,h4,h5⟩:=(show be P w H h a (.dT kvs) from Im ok e)
 refine ⟨z,y,xs,r,o,es,ep,h1,h2,h3,h4,fun x hx=>?_,h5⟩
 have all:∀ {l:List (List Key×V)} {m:List (List Key×Addr×Value)},KT H l m->∀ x∈m,(tupleKind (dz P w)).is h x.1 x.2.1:=by
  intro l m q
  induction q with
  | nil=>intro x hx;exact nomatch hx
  | @cons p q ps qs hq t ih=>
   intro x hx
   rcases Qp.mp hx with e | hx
   ·subst e
    exact pB ok (by rw [<- hq.1];exact hq.2.1)
   ·exact ih x hx
 exact all r x hx
theorem Nz {kvs:List (List Key×V)} (ok:cj P w H h) (e:H a=some (.dT kvs)):kvs.length<=sizeLine/\(a==sysModules)=false/\
  ∃ xs,KT H kvs xs/\h.DictOfH (tupleKind (dz P w)) a xs:=vN ok (.inl e)
def ik (H:Hp) (a:Addr) (y:V) (r:Option V):Prop:=
 (∃ kvs k,Rd H a (.dK kvs)/\y=kV k/\r=bu kvs k)\/∃ kvs k b,Rd H a (.dT kvs)/\y=.ref b/\ja H b (k.map kV)/\r=bu kvs k
def Cc (H:Hp) (a:Addr) (y v:V) (H':Hp):Prop:=
 (∃ kvs k,H a=some (.dK kvs)/\y=kV k/\kvs.length < sizeLine/\H'=upd H a (.dK (putK kvs k v)))\/
 ∃ kvs k b,H a=some (.dT kvs)/\y=.ref b/\ja H b (k.map kV)/\kvs.length < sizeLine/\H'=upd H a (.dT (putK kvs k v))
theorem ik.k {H:Hp} {a:Addr} {kvs:List (Key×V)} {k:Key} (e:H a=some (.dK kvs)):ik H a (kV k) (bu kvs k):=.inl ⟨kvs,k,.inl e,rfl,rfl⟩
theorem Cc.k {H:Hp} {a:Addr} {kvs:List (Key×V)} {k:Key} {v:V} (e:H a=some (.dK kvs)) (hl:kvs.length < sizeLine):Cc H a (kV k) v (upd H a (.dK (putK kvs k v))):=.inl ⟨kvs,k,e,rfl,hl,rfl⟩
section
variable {y v:V} {r:Value} {o:Option V}
theorem Inv.big (I:Inv X pins σ H s):sysModules < s.heap.objs.size:=by
 have h:mainGlobals < s.heap.objs.size:=(I.mod.glob.keeps I.bk).lt
 exact Nat.lt_trans (by decide) h
theorem wI (hu:A.units+1 < cLine) (I:Inv X pins σ H s) (g:ik H a y (some v)) (ry:RelV y u) (h:∀ w' s',Inv X pins σ H s'->RelV v w'->Q w' s'):
  wpAny (model X.prog X.w) A (getItem (.ref a) u) Q E s:=by
 rcases g with ⟨kvs,k,e,ey,l⟩ | ⟨kvs,k,b,e,ey,eb,l⟩
 ·subst ey
  obtain ⟨z,hd,vs,rel,dd⟩:=rQ I.hok e
  obtain ⟨w',hw,ou⟩:=jy.some_of (v:=v) (o:=valueAt vs k) (by rw [l];exact rel.val k)
  exact wpAny_getItem_of (k8 ry) dd.mapOf hw (h w' _ (I.tok _) ou)
 ·subst ey
  cases (show u=Value.ref b from ry)
  obtain ⟨z,hd,xs,rel,dd⟩:=vN I.hok e
  obtain ⟨w',hw,ou⟩:=jy.some_of (v:=v) (o:=(atKey xs k).map (·.2)) (by rw [l];exact rel.val k)
  obtain ⟨p,hp,gm⟩:=Option.map_eq_some_iff.mp hw
  refine wpAny_getItem_heap (tupleKind_room_in1 hu) (pB I.hok eb) dd hp ?_
  rw [gm]
  exact h w' _ (I.tok _) ou
theorem NB (hu:A.units+1 < cLine) (I:Inv X pins σ H s) (g:ik H a y o) (ry:RelV y u) (h:∀ s',Inv X pins σ H s'->Q (.bool o.isSome) s'):
  wpAny (model X.prog X.w) A (compareOp .In u (.ref a)) Q E s:=by
 rcases g with ⟨kvs,k,e,ey,l⟩ | ⟨kvs,k,b,e,ey,eb,l⟩
 ·subst ey
  obtain ⟨z,hd,vs,rel,dd⟩:=rQ I.hok e
  refine wpAny_in_of (k8 ry) hd dd.mapOf ?_
  rw [<- (rel.val k).DC,<- l]
  exact h _ (I.tok _)
 ·subst ey
  cases (show u=Value.ref b from ry)
  obtain ⟨z,hd,xs,rel,dd⟩:=vN I.hok e
  refine wpAny_in_heap (tupleKind_room_in1 hu) (pB I.hok eb) hd dd ?_
  have q:=(rel.val k).DC
  rw [Option.isSome_map] at q
  rw [<- q,<- l]
  exact h _ (I.tok _)
theorem jV {ob:HO} (I:Inv X pins σ H s) (mu:AW (H a)) (hs:Heap.SameBut a s.heap h') (he:∃ q,h'.get? a=some q) (new:be X.prog X.w (upd H a ob) h' a ob):
  Inv X pins σ (upd H a ob) {s with heap:=h',toks:=t'}:=
 I.write (x:=a) (e:=a) mu (.inl rfl) (fun b q hb z=>(hs.2 b hb).trans z) he new
theorem pA {kvs:List (Key×V)} (z:kvs.length<=sizeLine) (hd:(a==sysModules)=false) (rel:KV kvs vs) (dd:h'.DictOf (dz P w) a vs):
  be P w H' h' a (.dK kvs):=⟨z,hd,vs,rel,dd⟩
theorem xP {Q:Unit->Shared->Prop} (hu:A.units+1 < cLine) (I:Inv X pins σ H s) (g:Cc H a y v H') (ry:RelV y u) (rv:RelV v r) (h:∀ s',Inv X pins σ H' s'->Q () s'):
  wpAny (model X.prog X.w) A (setItem (.ref a) u r) Q E s:=by
 rcases g with ⟨kvs,k,e,ey,l,eH⟩ | ⟨kvs,k,b,e,ey,eb,l,eH⟩
 ·subst ey eH
  obtain ⟨z,hd,vs,rel,dd⟩:=o8 I.hok e
  have hz:vs.length<=sizeLine:=by rw [<- rel.length];exact z
  have hl:(putK kvs k v).length<=sizeLine:=by have:=dU kvs k v;omega
  refine wpAny_setItem_pairs (hsz:=hz) (k8 ry) dd fun h' lg hs=>h _ ?_
  have he:∃ q,h'.get? a=some q:=let ⟨q,_,_,hq,_⟩:=lg;⟨q,hq⟩
  exact jV I (by rw [e];exact True.intro) hs he (pA hl hd (rel.put k rv) lg)
 ·subst ey eH
  cases (show u=Value.ref b from ry)
  obtain ⟨z,hd,xs,rel,dd⟩:=Nz I.hok e
  have hz:xs.length<=sizeLine:=by rw [<- Paired.length rel];exact z
  have hl:(putK kvs k v).length<=sizeLine:=by have:=dU kvs k v;omega
  refine wpAny_setItem_heap (hsz:=hz) (tupleKind_room_in1 hu) (pB I.hok eb) dd fun h' lg hs=>h _ ?_
  obtain ⟨q,es,ep,hq,h2,h3,h4,_,h5⟩:=lg
  refine jV I (by rw [e];exact True.intro) hs ⟨q,hq⟩ ⟨hl,hd,_,(rel.put k eb rv).keeps fun c ys ec=>?_,q,es,ep,hq,h2,h3,h4,h5⟩
  refine ec.upd fun u hu z=>?_
  subst z
  rcases ec with ec | ⟨_,ec⟩<;>(rw [e] at ec;cases ec)
end
section
variable {kvs:List (Key×V)} {k:Key}
theorem NC (I:Inv X pins σ H s) (e:Rd H a (.dK kvs)) (h:∀ t s',Inv X pins σ H s'->Q (.int kvs.length t) s'):wpAny (model X.prog X.w) A (call (.builtin "len") [.ref a]) Q E s:=by
 obtain ⟨z,hd,vs,rel,dd⟩:=rQ I.hok e
 refine call_len_dict hd dd (by rw [<- rel.length];rw [QL] at z;omega) ?_
 rw [<- rel.length]
 exact h _ _ (I.tok _)
end
def DE (i:Expr):Prop:=∀ ov iv,subscripted i false ov iv=operate [ov,iv] (getItem ov iv)
theorem vY {value slice:Expr} {pos:Pos} {id:String}
  (hl:typeLookup (.type T) "__getitem__"=pure (some (.builtin id))) (hs:DE slice)
  (h:wpAny (model prog w) A (eval value env) (fun o s₁=>wpAny (model prog w) A (eval slice env) (fun i s₂=>s₂.TypeIs o T/\wpAny (model prog w) A (getItem o i) Q E s₂) E s₁) E s):
  wpAny (model prog w) A (eval (.Subscript value slice pos) env) Q E s:=by
 refine Subscript_ (wpAny_mono h (fun o s₁ h₁=>wpAny_mono h₁ (fun i s₂ h₂=>?_) fun _ _ x=>x) fun _ _ x=>x)
 obtain ⟨hT,h₂⟩:=h₂
 unfold subscriptTail
 refine QT ?_
 rw [getitemInPython_of_ne hT.not_modules]
 refine QT (wpAny_specialOf hT hl ?_)
 have fin:wpAny (model prog w) A (subscripted slice false o i) (fun r s₃=>wpAny (model prog w) A (letTemporaryGo value o r >>=fun _=>pure r) Q E s₃) E s₂:=by
  rw [hs o i]
  exact wpAny_operating (wpAny_mono h₂ (fun r s₃ h₃=>QT (wpAny_letTemporaryGo (QU h₃))) fun _ _ x=>x)
 first
  | exact QU (QT fin)
  | exact QT (QU (QT fin))
  | exact QT fin
theorem qS {y:V} {o:Option V} (I:Inv X pins σ H s) (g:ik H a y o):s.TypeIs (.ref a) "dict":=by
 rcases g with ⟨kvs,k,e,_,_⟩ | ⟨kvs,k,b,e,_,_,_⟩
 ·obtain ⟨_,_,vs,_,dd⟩:=rQ I.hok e
  exact dd.typeIs
 ·obtain ⟨_,_,xs,_,dd⟩:=vN I.hok e
  exact dd.typeIs
def Io (td ty:TE):TE:=fun σ H Q=>td σ H fun x H1=>ty σ H1 fun y H2=>∃ a v,x=.ref a/\ik H2 a y (some v)/\Q v H2
def Ip (td ty tv:TE):TS:=fun D σ H=>tv σ H fun v H1=>td σ H1 fun x H2=>ty σ H2 fun y H3=>∃ a H4,x=.ref a/\Cc H3 a y v H4/\D.nx σ H4
section
variable {o i value:Expr} {pos pos' yb:Pos} {td ty tv:TE}
theorem ND (hu:X.A.units+1 < cLine) (ho:PE X o td) (hi:PE X i ty) (hs:DE i):PE X (.Subscript o i pos) (Io td ty):=by
 intro pins s σ H Q I h
 refine vY PySem.F.slot_dict_getitem.lookup hs (aj (ho pins s σ H _ I h) fun u s1 ⟨x,H1,I1,rx,q1⟩=>aj (hi pins s1 σ H1 _ I1 q1) fun iv s2 ⟨y,H2,I2,ry,a,v,ex,g,q2⟩=>?_)
 subst ex
 obtain rfl:u=Value.ref a:=rx
 exact ⟨qS I2 g,wI hu I2 g ry fun w' s3 I3 ou=>⟨v,H2,I3,ou,q2⟩⟩
theorem NE (hu:X.A.units+1 < cLine) (ho:PE X o td) (hi:PE X i ty) (hv:PE X value tv) (hs:swapsWith value (some (.Subscript o i pos')) pos.line X.env=pure false):
  PS X (.Assign [.Subscript o i pos'] value pos) (Ip td ty tv):=by
 intro pins s σ H D I h
 refine wpAny_Assign_Subscript (aj (hv pins s σ H _ I h) fun r s1 ⟨v,H1,I1,rv,q1⟩=>aj (ho pins s1 σ H1 _ I1 q1) fun u s2 ⟨x,H2,I2,rx,q2⟩=>aj (hi pins s2 σ H2 _ I2 q2) fun iv s3 ⟨y,H3,I3,ry,a,H4,ex,g,q3⟩=>?_) hs
 subst ex
 obtain rfl:u=Value.ref a:=rx
 exact xP hu I3 g ry rv fun s4 I4=>⟨σ,H4,I4,q3⟩
end
theorem NF (h:Heap) (hb:sysModules < h.objs.size):be P w H (h.push {cls:=.type "dict",data:=.dict #[]}) h.objs.size (.dK []):=
 ⟨Nat.zero_le _,beq_eq_false_iff_ne.mpr (Ne.symm (Nat.ne_of_lt hb)),[],.nil,Heap.DictOf.new h⟩
section
variable {pos:Pos}
end
def Fq:List (TE×TE)->St->Hp->(List (V×V)->Hp->Prop)->Prop
 | [],_,H,Q=>Q [] H
 | (tk,tv)::r,σ,H,Q=>tk σ H fun x H1=>tv σ H1 fun y H2=>Fq r σ H2 fun ps H3=>Q ((x,y)::ps) H3
abbrev VV:List (V×V)->List (Value×Value)->Prop:=Paired fun p q=>RelV p.1 q.1/\RelV p.2 q.2
def Cd (X:Cx) (pos:Pos) (keys:List (Option Expr)) (values:List Expr) (mj:List (TE×TE)):Prop:=
 ∀ (pins:List (Addr×Obj)) (s:Shared) (σ:St) (H:Hp) (Q:List (V×V)->Hp->Prop),Inv X pins σ H s->Fq mj σ H Q->
  wpAny (model X.prog X.w) X.A (evalPairs (pairTrees keys values X.env pos)) (fun vs s'=>∃ ps H',Inv X pins σ H' s'/\VV ps vs/\Q ps H') X.xe s
theorem NG {pos:Pos}:Cd X pos [] [] []:=fun pins s σ H Q I h=>pairTrees_nil_walk ⟨[],H,I,.nil,h⟩
theorem zE {pos:Pos} {k v:Expr} {ks:List (Option Expr)} {vs:List Expr} {tk tv:TE} (hk:PE X k tk) (hv:PE X v tv) (hr:Cd X pos ks vs mj):
  Cd X pos (some k::ks) (v::vs) ((tk,tv)::mj):=fun pins s σ H Q I h=>
 pairTrees_cons_walk (aj (hk pins s σ H _ I h) fun u s1 ⟨x,H1,I1,rx,q1⟩=>aj (hv pins s1 σ H1 _ I1 q1) fun w2 s2 ⟨y,H2,I2,ry,q2⟩=>
  aj (hr pins s2 σ H2 _ I2 q2) fun ws s3 ⟨ps,H3,I3,rel,q3⟩=>⟨(x,y)::ps,H3,I3,.cons ⟨rx,ry⟩ rel,q3⟩)
def Ce (kvs more:List (Key×V)):List (Key×V):=more.foldl (fun acc kv=>putK acc kv.1 kv.2) kvs
theorem KV.merge:∀ {more:List (Key×V)} {rs:List (Key×Value)} {kvs:List (Key×V)} {vs:List (Key×Value)},KV more rs->KV kvs vs->KV (Ce kvs more) (merged vs rs):=by
 intro more rs kvs vs r
 unfold KV at r
 induction r generalizing kvs vs with
 | nil=>intro q;exact q
 | @cons p q ps qs h t ih=>
  intro r0
  have e:KV (putK kvs p.1 p.2) (stored vs q.1 q.2):=by
   have:=r0.put p.1 h.2
   rw [<- h.1];exact this
  exact ih e
theorem jF:∀ (more kvs:List (Key×V)),(Ce kvs more).length<=kvs.length+more.length
 | [],kvs=>by show kvs.length<=kvs.length+0;omega
 | p::r,kvs=>by
  have h1:=jF r (putK kvs p.1 p.2)
  have h2:=dU kvs p.1 p.2
  show (Ce (putK kvs p.1 p.2) r).length<=_
  rw [List.length_cons];omega
theorem mZ {P:Program} {w:World}:∀ {kvs:List (Key×V)} {ws:List (Value×Value)},VV (kvs.map fun kv=>(kV kv.1,kv.2)) ws->∃ rs,Carries (dz P w) ws rs/\KV kvs rs
 | [],_,r=>by rw [List.map_nil] at r;cases r;exact ⟨[],True.intro,.nil⟩
 | p::kvs,_,r=>by
  rw [List.map_cons] at r
  cases r with
  | @cons a b as bs h t=>
   obtain ⟨rs,c,q⟩:=mZ (P:=P) (w:=w) t
   obtain ⟨b1,b2⟩:=b
   exact ⟨(p.1,b2)::rs,⟨k8 h.1,rfl,c⟩,.cons ⟨rfl,h.2⟩ q⟩
def Iq (mj:List (TE×TE)):TE:=fun σ H Q=>∀ p,H p=none->Fq mj σ (upd H p (.dK [])) fun ps H2=>H2 p=some (.dK [])/\∃ kvs:List (Key×V),ps=kvs.map (fun kv=>(kV kv.1,kv.2))/\kvs.length<=15/\Q (.ref p) (upd H2 p (.dK (Ce [] kvs)))
theorem NH {pos:Pos} {keys:List (Option Expr)} {values:List Expr} (h:Cd X pos keys values mj) (hall:keys.all (·.isSome)=true) (hl:keys.length=values.length) (h0:keys≠[])
  (Ft:keys.length<=15):PE X (.Dict keys values pos) (Iq mj):=by
 intro pins s σ H Q I q
 have hn:=I.hok.fresh (Qy s.heap.objs.size)
 have I1:=I.laid (a:=s.heap.objs.size) (o:=.dK []) (h':=s.heap.push {cls:=.type "dict",data:=.dict #[]}) (t':=s.toks) (fun _ _ q=>Qc _ q) (Qy _) (NF s.heap I.big)
 refine wpAny_Dict_walk (knd:=dz X.prog X.w) hall hl h0 Ft (aj (h pins _ σ _ _ I1 (q _ hn)) ?_)
 rintro ws s2 ⟨ps,H2,I2,rel,e,kvs,ep,lk,q2⟩
 subst ep
 obtain ⟨rs,c,rk⟩:=mZ (P:=X.prog) (w:=X.w) rel
 obtain ⟨z,hd,V6,r0,dd⟩:=o8 I2.hok e
 cases r0
 refine ⟨rs,c,dd,fun h' lg hs=>⟨.ref s.heap.objs.size,_,?_,rfl,q2⟩⟩
 have hz:(Ce [] kvs).length<=sizeLine:=by
  have h1:=jF kvs []
  rw [List.length_nil] at h1
  rw [QL];omega
 have he:∃ q,h'.get? s.heap.objs.size=some q:=let ⟨q,_,_,hq,_⟩:=lg;⟨q,hq⟩
 exact jV I2 (by rw [e];exact True.intro) hs he (pA hz hd (rk.merge .nil) lg)
section
variable {y d:V} {r:Value} {o:Option V}
end
section
variable {o f:Expr} {td ty tx:TE}
end
section
variable {kvs:List (Key×V)}
end
section
variable {y:V}
end
end L2
namespace Ir
open PySem PySem.W PySem.Calls PyProof.Rows
theorem lO {P:Params}:∀ (ns:List Int) (vs:List Value),WellAll P h vs (ns.map WData.int)->IntsAre vs ns:=by
 intro ns
 induction ns with
 | nil=>
  intro vs w
  rw [List.map_nil] at w
  cases w
  exact .nil
 | cons n ns ih=>
  intro vs w
  rw [List.map_cons] at w
  cases w with
  | cons a b=>
   cases a
   exact .cons _ _ (ih _ b)
theorem xQ {l:OpenLaw} (hn:l.most=some n) {P:Params} {args:List WData} {vals:List Value}
  (DF:l.row.toRowW.claim.pre args=true) (A7:WellAll P h vals args):
  ∃ a vs ns,vals=[Value.ref a]/\args=[WData.list (ns.map WData.int)]/\h.get? a=some {cls:=.type "list",data:=.seq vs.toArray}/\IntsAre vs ns/\ns.length<=n:=by
 have NI:WShape.hasAll [] args [.list .int]=true:=(pre_splitW DF).1
 have hc:l.pre.holds [] {args:=args}=true:=(pre_splitW DF).2
 obtain ⟨d,r,rfl,h1,h2⟩:=hasAllW_cons NI
 obtain rfl:=hasAllW_nil h2
 obtain ⟨xs,rfl,h3⟩:=hasW_list h1
 obtain ⟨ns,rfl⟩:=items_int h3
 have fq:ns.length<=n:=by
  unfold OpenLaw.pre at hc
  have h4:(WTm.not (.lt (.lit (.int (n:Int))) (.len (.arg 0)))).holds [] {args:=[.list (ns.map .int)]}=true:=by
   have h4:=(holds_andW hc).1
   rw [hn] at h4
   exact h4
  have h5:=condW_of h4 (w_not (w_lt w_lit (w_len_list (w_arg rfl))))
  rw [Ql] at h5
  refine Nat.le_of_not_lt fun q=>?_
  have q':(n:Int) < ((ns.length:Nat):Int):=by omega
  first
   | (rw [Qv q'] at h5;exact absurd h5 (by decide))
   | (simp at h5;omega)
 cases A7 with
 | cons w1 w2=>
  cases w2
  cases w1 with
  | list ho hall=>exact ⟨_,_,ns,rfl,rfl,ho,lO ns _ hall,fq⟩
theorem xL (l:OpenLaw) (args:List WData):l.row.toRowW.claim.post args (.bool true) args=true:=
 postW_of (r:=l.row.toRowW) (X:=(true==true))
  (show WShape.has [] (.bool true) .bool=true by first | rfl | decide | simp [WShape.has,WShape.arms,WShape.armsAll])
  (show (WTm.eq .res (.lit (.bool true))).value [] {args:=args,res:=some (.bool true),after:=args}=some (.bool (true==true)) from w_eq_bool (w_res rfl) w_lit) rfl
theorem qN {l:OpenLaw} {q:Program} {YP:World->Heap->Prop} {d:DefRec}
  (hn:l.most=some n) (Cf:d.params.defaults=[])
  (call:∀ (w:World) (s₀ s₁:Shared) (mg mb:Str->Option Value) (fa:Addr) (o:Obj) (pm cd doc:Value) (a:Addr) (vs:List Value) (ns:List Int),
   Ground q loose [] XP w s₀ mg mb s₁.heap->YP w s₁.heap->
   s₁.heap.get? fa=some o->o.data=.func (docDef d.name d.params d.body d.scope pm cd doc)->s₁.heap.CodeRec cd d.name->mg d.name=some (.ref fa)->
   s₁.heap.get? a=some {cls:=.type "list",data:=.seq vs.toArray}->IntsAre vs ns->ns.length<=n->s₁.gens=#[]->
   codeAny (model l.prog w) callerA (.call (.ref fa) ⟨[.ref a],[]⟩) (fun r s'=>r=.ok (.ret (.bool true))/\OldK s₁.heap s'.heap/\s'.os=s₁.os/\AllBare s'.gens) s₁):
  WalkO q loose XP YP l.row.toRowW d [] (fun f vs=>PySem.call f vs):=by
 intro w s₀ s₁ mg mb G Y fa o pm cd doc dV kV ho hd jr hD sy hg args vals as DF V7 hrd A7 hlo
 obtain rfl:dV=.none:=Dflts.none hD Cf
 obtain rfl:kV=.none:=Dflts.noKw hD
 obtain ⟨a,vs,ns,rfl,rfl,Fv,Fw,fq⟩:=xQ hn DF A7
 refine enter_call (codeAny_mono (call w s₀ s₁ mg mb fa o pm cd doc a vs ns G Y ho (fd_plain hd) jr sy Fv Fw fq hg) fun r s' hq=>?_)
 obtain ⟨rfl,h2,h3,h4⟩:=hq
 exact ⟨.inl ⟨.bool true,.bool true,[],rfl,fun _=>rfl,.bool true,xL l _,fun _=>⟨List.Pairwise.nil,fun _ hm=>(nomatch hm)⟩⟩,h2,h3,h4⟩
section
variable {K:Frag}
end
end Ir
namespace L2
open PySem PySem.Spec PyProof.Rows
theorem oS:∀ {vs:List Value} {ns:List Int},IntsAre vs ns->ao (ns.map V.int) vs
 | _,_,.nil=>.nil
 | _,_,.cons n t h=>.cons ⟨t,rfl⟩ (oS h)
def inClass (s:Stmt) (j:Nat):Stmt:=match s with
 | .ClassDef _ _ _ body _ _ _ _ _ _ _=>body.getD j (.Pass ⟨0,0,0,0⟩)
 | _=>.Pass ⟨0,0,0,0⟩
def mz (s:Stmt):Arguments:=match s with
 | .FunctionDef _ a _ _ _ _ _ _ _ _=>a
 | _=>{posonlyargs:=[],args:=[],vararg:=none,kwonlyargs:=[],kw_defaults:=[],kwarg:=none,defaults:=[]}
def jf (s:Stmt):List Stmt:=match s with
 | .FunctionDef _ _ b _ _ _ _ _ _ _=>b
 | _=>[]
def au (s:Stmt):Scope:=match s with
 | .FunctionDef _ _ _ _ _ _ sc _ _ _=>sc
 | _=>{kind:=.function,names:=[],isGenerator:=false,isCoroutine:=false}
abbrev uw:qi:=fun _ _ _ _ _ _=>False
abbrev E0:XK:=fun _ _ _=>False
theorem NJ:Fg uw X E0:=fun _ _ _ _ _ _ _ h=>h.elim
structure yd (K:Q0) (x qual:Str) (st:Stmt) (f:Addr) (fd:FuncData):Prop where
 ex:∃ (oc:Value) (od:Option Addr) (kV doc pm:Value) (an:Option Addr) (ak ct:Value) (g_:Array (Option Value)),
  fd=PySem.W.fnOf x qual (mz st) (jf st) (au st) .none kV doc pm an ak ct/\K.lookup f=some ⟨oc,od,.func fd,g_⟩/\PySem.W.codeIn K ak qual=true
 kp:PySem.W.keepIn K (.ref f)=true
section
variable {K:Q0}
theorem yd.ok {st:Stmt} {k:Nat} {sp:Sp} (F:yd K x qual st f fd) (S:dg N ps (au st)) (len:∀ vs H Q E,sp vs H Q E->vs.length=ps.length)
  (se:∀ (ak:Value) (A:Around) (outer:List Env) (s:Shared) (H:Hp) (vs:List V) (Q:VK) (E:XK),fh k (A.deeper (envOfC qual (au st) s.heap.objs.size f ak))->sp vs H Q E->
   ∃ t,ku (gx uw P w K mg base N qual (au st) f ak A outer s H E).qh (jf st) t/\t {nx:=fun _ H'=>Q .af H',rt:=Q} (start N vs) H):oq P w K mg base uw (k+1) f fd ps sp:=by
 obtain ⟨oc,od,kV,doc,pm,an,ak,ct,g_,rfl,lk,jr⟩:=F.ex
 refine Ie lk jr S len fun A outer s H vs Q E hr uu=>?_
 obtain ⟨t,h,q⟩:=se ak A outer s H vs Q E hr uu
 exact ⟨t,h.qh,q⟩
theorem yd.binds {st:Stmt} (F:yd K x qual st f fd)
  (h:∀ (kV doc pm:Value) (an:Option Addr) (ak ct:Value) (us:List Value),us.length=ps.length->bindArgs (PySem.W.fnOf x qual (mz st) (jf st) (au st) .none kV doc pm an ak ct) ⟨us,[]⟩=pure (ps.zip us)):Binds K fd ps []:=by
 obtain ⟨oc,od,kV,doc,pm,an,ak,ct,g_,rfl,lk,jr⟩:=F.ex
 exact .all (h kV doc pm an ak ct)
theorem NK {st:Stmt} {oc:Value} {od an:Option Addr} {g_:Array (Option Value)} {kV doc pm ak ct:Value} (l:K.lookup f=some ⟨oc,od,.func (PySem.W.fnOf x qual (mz st) (jf st) (au st) .none kV doc pm an ak ct),g_⟩)
  (c:PySem.W.codeIn K ak qual=true) (k:PySem.W.keepIn K (.ref f)=true):yd K x qual st f (PySem.W.fnOf x qual (mz st) (jf st) (au st) .none kV doc pm an ak ct):=⟨⟨oc,od,kV,doc,pm,an,ak,ct,g_,rfl,l,c⟩,k⟩
end
theorem cK {k:Nat} (hr:fh k A):A.units+1 < cLine:=Nat.lt_of_le_of_lt (Nat.add_le_add_left (by decide:1<=64) _) hr.units
theorem Cg (h:n<=1000):n < sizeLine:=Nat.lt_of_le_of_lt h (by decide)
theorem e_ {A B:Prop} (h:B):if false=true then A else B:=by
 rw [if_neg Bool.false_ne_true]
 exact h
theorem bc {A B:Prop} (h:A):if true=true then A else B:=by
 rw [if_pos rfl]
 exact h
theorem ye {c A B:Prop} [Decidable c] (h1:c->A) (h2:¬c->B):if c then A else B:=by
 by_cases h:c
 ·rw [if_pos h]
  exact h1 h
 ·rw [if_neg h]
  exact h2 h
def aa (H H':Hp):Prop:=∀ b o,H b=some o->H' b=some o
theorem aa.refl (H:Hp):aa H H:=fun _ _ h=>h
theorem aa.trans {H1 H2:Hp} (a:aa H H1) (b:aa H1 H2):aa H H2:=fun c o h=>b c o (a c o h)
theorem aa.free (e:aa H H') (h:H' l=Option.none):H l=Option.none:=by
 cases q:H l with
 | none=>rfl
 | some o=>
  rw [e l o q] at h
  cases h
theorem aa.seq {K:Q0} {xs:List V} (e:aa H H') (h:ae K H a xs):ae K H' a xs:=by
 rcases h with (h | ⟨o,h⟩) | h
 ·exact .inl (.inl (e _ _ h))
 ·exact .inl (.inr ⟨o,e _ _ h⟩)
 ·exact .inr h
section
variable {κ:Type} [DecidableEq κ]
end
theorem jN {env:Env}:∀ (names:List (Str×NameKind)) (acc:List (Str×Addr)),
  (∀ y∈names,y.2=.free->∃ c,env.cells.lookup y.1=some c)->(∀ x c,acc.lookup x=some c->env.cells.lookup x=some c)->
  ∃ cl,(forIn names acc fun (x:Str×NameKind) cs=>(if (x.2==NameKind.free)=true then (do let c <- cellOf env x.1;pure (ForInStep.yield ((x.1,c)::cs))) else pure (ForInStep.yield cs):Sem (ForInStep (List (Str×Addr)))))=pure cl/\
   (∀ x c,cl.lookup x=some c->env.cells.lookup x=some c)/\(∀ y∈names,y.2=.free->∃ c,cl.lookup y.1=some c)/\(∀ x c,acc.lookup x=some c->∃ c,cl.lookup x=some c)
 | [],acc,_,ha=>⟨acc,rfl,ha,(fun _ h=>nomatch h),fun x c h=>⟨c,h⟩⟩
 | (n,k)::r,acc,h,ha=>by
  rw [List.forIn_cons]
  by_cases hk:k=.free
  ·obtain ⟨c,hc⟩:=h (n,k) List.mem_cons_self hk
   have zp:cellOf env n=pure c:=by unfold cellOf;rw [show env.cells.lookup n=some c from hc]
   have NL:∀ x d,((n,c)::acc).lookup x=some d->env.cells.lookup x=some d:=fun x d hx=>by
    rw [List.lookup_cons] at hx
    cases e:x==n with
    | true=>rw [e] at hx;cases hx;rw [eq_of_beq e];exact hc
    | false=>rw [e] at hx;exact ha x d hx
   obtain ⟨cl,e,h1,h2,h3⟩:=jN r ((n,c)::acc) (fun y hy=>h y (Qh _ hy)) NL
   refine ⟨cl,?_,h1,fun y hy hf=>?_,fun x d hx=>?_⟩
   ·have Ac:(k==NameKind.free)=true:=by rw [hk];rfl
    simp only [Ac,if_true,zp,pure_bind]
    exact e
   ·rcases Qp.mp hy with z | hy
    ·rw [z];exact h3 n c (by simp [List.lookup_cons])
    ·exact h2 y hy hf
   ·cases e2:x==n with
    | true=>exact h3 x c (by simp [List.lookup_cons,e2])
    | false=>exact h3 x d (by simp [List.lookup_cons,e2,hx])
  ·have Ac:(k==NameKind.free)=false:=by simpa using hk
   obtain ⟨cl,e,h1,h2,h3⟩:=jN r acc (fun y hy=>h y (Qh _ hy)) ha
   refine ⟨cl,?_,h1,fun y hy hf=>?_,h3⟩
   ·simp only [Ac,Bool.false_eq_true,if_false,pure_bind]
    exact e
   ·rcases Qp.mp hy with z | hy
    ·rw [z] at hf;exact absurd hf hk
    ·exact h2 y hy hf
theorem tS (h:∀ y∈sc.names,y.2=.free->∃ c,env.cells.lookup y.1=some c):
  ∃ cl,closureFor sc env=pure cl/\(∀ x c,cl.lookup x=some c->env.cells.lookup x=some c)/\(∀ y∈sc.names,y.2=.free->∃ c,cl.lookup y.1=some c):=by
 obtain ⟨cl,e,h1,h2,_⟩:=jN (env:=env) sc.names [] h (fun _ _ h=>nomatch h)
 refine ⟨cl,?_,h1,h2⟩
 unfold closureFor
 have e':(forIn sc.names ([]:List (Str×Addr)) fun (x:Str×NameKind) cs=>(if (x.2==NameKind.free)=true then (do let c <- cellOf env x.1;pure (ForInStep.yield ((x.1,c)::cs))) else pure (ForInStep.yield cs):Sem (ForInStep (List (Str×Addr))))) >>=(fun cs=>(pure cs:Sem _))=pure cl:=by rw [e];rfl
 exact e'
theorem f9 {env:Env}:∀ {names:List (Str×NameKind)} {x:Str},names.lookup x=some .free->
  (names.map fun (n,k)=>if (k==NameKind.free&&env.scope.kind==.function&&env.kindOf n==some .cell) then (n,NameKind.cell) else (n,k)).lookup x=some .cell\/
  (names.map fun (n,k)=>if (k==NameKind.free&&env.scope.kind==.function&&env.kindOf n==some .cell) then (n,NameKind.cell) else (n,k)).lookup x=some .free
 | [],_,h=>by simp at h
 | (n,k)::r,x,h=>by
  have ih:=@f9 env r x
  show List.lookup x ((if (k==NameKind.free&&env.scope.kind==.function&&env.kindOf n==some .cell)=true then (n,NameKind.cell) else (n,k))::_)=_\/List.lookup x ((if (k==NameKind.free&&env.scope.kind==.function&&env.kindOf n==some .cell)=true then (n,NameKind.cell) else (n,k))::_)=_
  cases hx:x==n with
  | true=>
   simp only [List.lookup_cons,hx] at h
   cases h
   by_cases hc:(NameKind.free==NameKind.free&&env.scope.kind==.function&&env.kindOf n==some .cell)=true
   ·rw [if_pos hc];simp [List.lookup_cons,hx]
   ·rw [if_neg hc];simp [List.lookup_cons,hx]
  | false=>
   simp only [List.lookup_cons,hx] at h
   by_cases hc:(k==NameKind.free&&env.scope.kind==.function&&env.kindOf n==some .cell)=true
   ·rw [if_pos hc];simp only [List.lookup_cons,hx];exact ih h
   ·rw [if_neg hc];simp only [List.lookup_cons,hx];exact ih h
theorem l9 {names:List (Str×NameKind)} {k:NameKind}
  (h:(names.map fun (n,k)=>if (k==NameKind.free&&env.scope.kind==.function&&env.kindOf n==some .cell) then (n,NameKind.cell) else (n,k)).lookup x=some k) (hk:k=.cell\/k=.free) (hc:∀ y∈names,y.2≠.cell):(x,NameKind.free)∈names:=by
 have hm:=PySem.mem_of_lookup h
 obtain ⟨⟨n,k'⟩,h1,h2⟩:=List.mem_map.mp hm
 dsimp only at h2
 split at h2
 ·next hh=>
  cases h2
  have:k'=.free:=by
   simp only [Bool.and_eq_true,beq_iff_eq] at hh
   exact hh.1.1
  rw [<- this];exact h1
 ·cases h2
  rcases hk with z | z
  ·exact absurd z (hc _ h1)
  ·rw [<- z];exact h1
abbrev fb (X:Cx) (N':List Str) (sc:Scope) (cl:List (Str×Addr)) (C:Addr) (s3:Shared) (H0:Hp) (fp:List Addr) (pn:List (Addr×Obj)):Cx where
 prog:=X.prog
 w:=X.w
 K:=X.K
 mg:=X.mg
 base:=X.base
 A:=X.A
 N:=N'
 s₀:=s3
 H₀:=H0
 env:=compEnvC sc cl C X.env
 outer:=X.stack
 stack:=X.stack
 ex:=fp
 fn:=fun _=>false
 calm:=X.calm
 pn:=pn
 xe:=fun _ _=>False
structure ow (A8:Scope) (oN:List Str) (sc:Scope) (own:List Str) (idx:List Nat) (N':List Str):Prop where
 kind:sc.kind=.function
 cell:∀ y∈sc.names,y.2≠.cell
 names:∀ y∈sc.names,y.2=.local->sc.names.lookup y.1=some .local
 free:∀ y∈sc.names,y.2=.free->(A8.names.lookup y.1=some .cell\/A8.names.lookup y.1=some .free)
 seen:∀ j∈idx,sc.names.lookup (oN.getD j "")=some .free/\j < oN.length
 nn:N'=own++idx.map (fun j=>oN.getD j "")
def ux (own:List Str) (idx:List Nat) (σ:St):St:=List.replicate own.length none++idx.map fun j=>(σ[j]?).join
section
variable {H2:Hp} {s2:Shared}
theorem zY {h4:Heap} {ob:Obj} {ho:HO} {t4:Nat} (S:ow X.env.scope X.N sc own idx N') (I:Inv X pins σ H2 s2) (hf:∀ b∈fp,mq X pins H2 b) (Ci:∀ b∈fp,∃ o,s2.heap.get? b=some o)
  (c1:∀ x c,cl.lookup x=some c->X.env.cells.lookup x=some c) (c2:∀ y∈sc.names,y.2=.free->∃ c,cl.lookup y.1=some c) (hob:ob.isFreed=false)
  (hD:∀ (H:Hp) (h:Heap),h.get? s2.heap.objs.size=some ob->be X.prog X.w H h s2.heap.objs.size ho)
  (ns:h4.Ns (s2.heap.push ob).objs.size (fun x=>([]:List (Str×Value)).reverse.lookup x)) (sb:∀ b o,(s2.heap.push ob).get? b=some o->h4.get? b=some o):
  Inv (fb X N' sc cl (s2.heap.push ob).objs.size {s2 with heap:=s2.heap.push ob} (upd H2 s2.heap.objs.size ho) fp (X.pn++pins)) [] (ux own idx σ) (upd H2 s2.heap.objs.size ho) {s2 with heap:=h4,toks:=t4}:=by
 have hsz:(s2.heap.push ob).objs.size=s2.heap.objs.size+1:=Heap.size_push _ _
 have V8:H2 s2.heap.objs.size=none:=I.hok.fresh (Qy _)
 have up:∀ b o,s2.heap.get? b=some o->(s2.heap.push ob).get? b=some o:=fun b o e=>Qc _ e
 have DG:∀ b o,s2.heap.get? b=some o->h4.get? b=some o:=fun b o e=>sb b o (up b o e)
 have NN:∀ b o,s2.heap.get? b=some o->b≠s2.heap.objs.size:=fun b o e=>Nat.ne_of_lt (Qz e)
 have nh:∀ b o,s2.heap.get? b=some o->H2 b=none->upd H2 s2.heap.objs.size ho b=none:=fun b o e n=>by rw [aH (NN b o e)];exact n
 have NO:∀ b∈gu X.stack,∃ o,s2.heap.get? b=some o:=fun b hb=>by
  obtain ⟨_,o,ho,_⟩:=I.stack.mem hb
  exact ⟨o,ho⟩
 have NP:∀ x c,cl.lookup x=some c->∃ o,s2.heap.get? c=some o:=fun x c e=>by
  obtain ⟨v,o,ho,_⟩:=I.cell x c (c1 x c e)
  exact ⟨o,ho⟩
 have eD:(s2.heap.push ob).get? s2.heap.objs.size=some ob:=Qd s2.heap hob
 have NQ:cj X.prog X.w (upd H2 s2.heap.objs.size ho) h4:=I.hok.laid DG (Qy _) (hD _ _ (sb _ _ eD))
 refine ⟨⟨I.ok.mod,S.kind,I.ok.glob,I.ok.blt,Qy _,fun x y c h1 h2=>I.ok.inj x y c (c1 x c h1) (c1 y c h2),fun x hx=>?_,(fun x c hx _=>nomatch hx),I.ok.hd,I.ok.frames,.inl rfl,fun b hb=>⟨?_,fun x c e=>?_⟩,fun b o e=>⟨?_,?_⟩,?_,fun b o e hb=>?_,fun b hb=>?_,?_,fun b hb=>?_⟩,
  rfl,I.bare,Un.kept sb,⟨_,ns,fun i x v h1 h2 h3=>?_⟩,fun x c e=>?_,?_,fun x c e=>?_,fun p hp=>?_,NQ,?_⟩
 ·rcases hx with hx | hx
  ·exact c2 (x,.free) (l9 hx (.inl rfl) S.cell) rfl
  ·exact c2 (x,.free) (l9 hx (.inr rfl) S.cell) rfl
 ·obtain ⟨o,e⟩:=Ci b hb
  have:=Qz e
  show b≠(s2.heap.push ob).objs.size
  rw [hsz];exact Nat.ne_of_lt (Nat.lt_succ_of_lt this)
 ·exact (hf b hb).2.2.2.2.1 x c (c1 x c e)
 ·exact up b o (I.bk b o e)
 ·exact nh b o (I.bk b o e) (I.bs b o e).2
 ·show X.base.objs.size<=(s2.heap.push ob).objs.size
  have:=Nat.le_trans I.ok.rm I.sz
  rw [hsz];omega
 ·obtain ⟨f0,f1,f2,f3,f4,f5⟩:=hf b hb
  rcases f3 with z | z
  ·exact I.ok.zo b o e z
  ·exact absurd (Qz e) (Nat.not_lt.mpr (Nat.le_trans I.ok.rm z))
 ·obtain ⟨f0,f1,f2,f3,f4,f5⟩:=hf b hb
  intro z
  rcases Qp.mp (I.BS b z) with z | z
  ·exact f1 z
  ·exact f2 z
 ·exact Heap.FunFrames.of_keeps (fun b o e _=>⟨o,up b o e,rfl⟩) I.stack
 ·obtain ⟨o,e⟩:=NO b hb
  exact nh b o e (I.Dj b hb)
 ·unfold ux at h2
  by_cases hi:i < own.length
  ·rw [List.getElem?_append_left (by simpa using hi),List.getElem?_replicate,if_pos hi] at h2
   cases h2
  ·rw [List.getElem?_append_right (by simpa using hi),List.length_replicate,Qq] at h2
   have lh:N'[i]? =some x:=h1
   rw [S.nn,List.getElem?_append_right (by simpa using hi),Qq] at lh
   cases ej:idx[i - own.length]? with
   | none=>rw [ej] at lh;cases lh
   | some j=>
    rw [ej] at lh h2
    obtain ⟨DH,oz⟩:=S.seen j (QC ej)
    have hx:X.N[j]? =some x:=by
     have:X.N.getD j ""=x:=QD lh
     rw [<- this,Qb,Qa oz];rfl
    have hv:σ[j]? =some (some v):=by
     have nc:(σ[j]?).join=some v:=QD h2
     cases q:σ[j]? with
     | none=>rw [q] at nc;cases nc
     | some w=>rw [q] at nc;exact congrArg some nc
    have Iu:sc.names.lookup x=some .free:=by
     have:X.N.getD j ""=x:=QD lh
     rw [<- this];exact DH
    have yf:(x,NameKind.free)∈sc.names:=PySem.mem_of_lookup Iu
    obtain ⟨m,hn,hl⟩:=I.loc
    have NR:BR X.env.scope x:=by
     rcases S.free _ yf rfl with z | z
     ·exact .inr (.inl z)
     ·exact .inr (.inr z)
    obtain ⟨u,r,lk⟩:=hl j x v hx hv NR
    refine ⟨u,r,?_⟩
    rcases lk with ⟨k,_⟩ | ⟨k,c,e,z⟩
    ·rcases S.free _ yf rfl with q | q
     ·have q':X.env.kindOf x=some .cell:=q
      rw [q'] at k;cases k
     ·have q':X.env.kindOf x=some .free:=q
      rw [q'] at k;cases k
    ·obtain ⟨c',zp⟩:=c2 (x,.free) yf rfl
     have e':=c1 x c' zp
     rw [e] at e'
     cases e'
     refine .inr ⟨?_,c,zp,?_⟩
     ·rcases f9 (env:=X.env) Iu with q | q
      ·exact .inl q
      ·exact .inr q
     ·obtain ⟨o,kr,hd⟩:=z
      exact ⟨o,DG c o kr,hd⟩
 ·obtain ⟨v,o,kr,hd⟩:=I.cell x c (c1 x c e)
  exact ⟨v,o,DG c o kr,hd⟩
 ·show upd H2 s2.heap.objs.size ho (s2.heap.push ob).objs.size=none
  rw [aH (by rw [hsz];exact Nat.ne_of_gt (Nat.lt_succ_self _))]
  exact I.hok.fresh (by rw [hsz];omega)
 ·obtain ⟨o,e1⟩:=NP x c e
  exact nh c o e1 (I.kq x c (c1 x c e))
 ·have NS:p∈X.pn++pins:=by simpa using hp
  obtain ⟨e,n,ne,nf,d⟩:=I.pin p NS
  refine ⟨DG _ _ e,nh _ _ e n,?_,fun z=>?_,d⟩
  ·have:=Qz e
   show p.1≠(s2.heap.push ob).objs.size
   rw [hsz];exact Nat.ne_of_lt (Nat.lt_succ_of_lt this)
  ·rcases Qp.mp (I.BS p.1 z) with z | z
   ·exact ne z
   ·exact nf z
 ·show (ux own idx σ).length=N'.length
  rw [S.nn];unfold ux
  simp
theorem wV {ob:Obj} {ho:HO} {τ:St} {s':Shared} (I:Inv X pins σ H2 s2) (hf:∀ b∈fp,mq X pins H2 b) (hob:ob.isFreed=false)
  (J:Inv (fb X N' sc cl (s2.heap.push ob).objs.size {s2 with heap:=s2.heap.push ob} (upd H2 s2.heap.objs.size ho) fp (X.pn++pins)) [] τ H' s'):
  Inv X pins σ H' s'/\H' (s2.heap.push ob).objs.size=none/\(s2.heap.push ob).objs.size≠X.env.locals/\X.s₀.heap.objs.size<=(s2.heap.push ob).objs.size/\
   (∀ x c,X.env.cells.lookup x=some c->c≠(s2.heap.push ob).objs.size)/\(∀ p∈X.pn++pins,p.1≠(s2.heap.push ob).objs.size)/\∃ m,s'.heap.Ns (s2.heap.push ob).objs.size m:=by
 have hsz:(s2.heap.push ob).objs.size=s2.heap.objs.size+1:=Heap.size_push _ _
 have u1:Un (gu X.stack) fp H2 (upd H2 s2.heap.objs.size ho) s2.heap (s2.heap.push ob):=Un.laid (fun b o e=>Qc _ e) (Qy _) (I.hok.fresh (Qy _))
 have u2:Un (gu X.stack) fp (upd H2 s2.heap.objs.size ho) H' (s2.heap.push ob) s'.heap:=J.base
 have Aa:s'.os=s2.os:=J.os
 refine ⟨I.HC Aa (u1.trans u2) J.hok J.bare fun b hb=>?_,J.free,?_,?_,fun x c e z=>?_,fun p hp z=>?_,let ⟨m,hn,_⟩:=J.loc;⟨m,hn⟩⟩
 ·obtain ⟨f0,f1,f2,f3,f4,f5⟩:=hf b hb
  exact ⟨f3,f1,f4,f5⟩
 ·rw [hsz];exact Nat.ne_of_gt (Nat.lt_succ_of_lt I.lt)
 ·have:=I.sz;rw [hsz];omega
 ·obtain ⟨v,q⟩:=I.cell x c e
  have:=q.lt
  rw [z,hsz] at this;exact absurd this (Nat.not_lt.mpr (Nat.le_succ _))
 ·have:=Qz (I.pin p hp).1
  rw [z,hsz] at this;exact absurd this (Nat.not_lt.mpr (Nat.le_succ _))
end
abbrev gy:Value->Shared->Prop:=fun _ _=>False
theorem NT {elt target iter:Expr} {pos:Pos} {it acc:Value} (I:Nat->Shared->Prop)
  (turn:∀ n s,I n s->wpAny (model prog w) A (pyNext it) (fun r s₁=>match r with
   | none=>R (.ok .next) s₁
   | some v=>wpAny (model prog w) A (letOwnedTupleGo target it v) (fun _ Ad=>wpAny (model prog w) A (assign target env v) (fun _ s₂=>
     wpAny (model prog w) A (forIn ifs true fun c r=>if r=true then do let ok <- isTrue c env (eval c env);pure (ForInStep.yield ok) else pure (ForInStep.yield r)) (fun ok s₃=>
      if ok=true then wpAny (model prog w) A (eval elt env) (fun x s₄=>
       wpAny (model prog w) A (call (.builtin "list.append") [acc,x]) (fun _ s₅=>∃ m,m < n/\I m s₅) gy s₄) gy s₃
      else ∃ m,m < n/\I m s₃) gy s₂) gy Ad) gy s₁) gy s)
  (n:Nat) (h:I n s):
  codeAny (model prog w) A (.compLoop (.ListComp elt [⟨target,iter,ifs,0⟩] scope pos) 0 it acc env) R s:=by
 refine codeAny_loop rfl I (fun n s hI=>?_) n h
 show wpAny _ A ((compTurn (.ListComp elt [⟨target,iter,ifs,0⟩] scope pos) 0 it acc env).onRaise (fun x=>do noteFrame x env;theTreesLotGoes x)) _ _ s
 refine wpAny_noted ?_
 rw [compTurn_list]
 refine QT (wpAny_standAt (QT (wpAny_mono (turn n s hI) (fun r s₁ h₁=>?_) fun _ _ h'=>h'.elim)))
 cases r with
 | none=>exact QU h₁
 | some v=>
  refine QT (wpAny_mono h₁ (fun _ Ad Fx=>?_) fun _ _ h'=>h'.elim)
  refine QT (wpAny_mono Fx (fun _ s₂ h₂=>QT (wpAny_mono h₂ (fun ok s₃ h₃=>?_) fun _ _ h'=>h'.elim)) fun _ _ h'=>h'.elim)
  cases ok with
  | false=>exact QU ⟨rfl,h₃⟩
  | true=>
   exact QT (QT (wpAny_mono h₃ (fun x s₄ h₄=>QT (wpAny_mono h₄ (fun _ s₅ h₅=>QU (QU ⟨rfl,h₅⟩)) fun _ _ h'=>h'.elim)) fun _ _ h'=>h'.elim))
abbrev TC:=St->Hp->(Bool->Hp->Prop)->Prop
def uy (X:Cx) (ifs:List Expr) (t:TC):Prop:=
 ∀ (pins:List (Addr×Obj)) (s:Shared) (σ:St) (H:Hp) (Q:Bool->Hp->Prop),Inv X pins σ H s->t σ H Q->
  wpAny (model X.prog X.w) X.A (forIn ifs true fun c r=>if r=true then do let ok <- isTrue c X.env (eval c X.env);pure (ForInStep.yield ok) else pure (ForInStep.yield r)) (TP X pins σ Q) X.xe s
def Cj:TC:=fun _ H Q=>Q true H
theorem NU:uy X [] Cj:=fun pins s σ H Q I h=>QU ⟨H,I,h⟩
theorem NV {c:Expr} {t:TT} (h:PT X c t):uy X [c] t:=fun pins s σ H Q I hq=>wpAny_tests_one (h pins s σ H Q I hq)
def Ck (own:List Str) (idx:List Nat) (wi:TI) (g:TG) (tc:TC) (te:TE):TE:=fun σ H Q=>wi σ H fun J H1=>∀ D,H1 D=none->∃ W:Nat->Nat->St->Hp->Prop,(∃ m,W 0 m (ux own idx σ) (upd H1 D (.lst [])))/\∀ i m τ H,W i m τ H->
 (J.stop i H/\Q (.ref D) H)\/(J.go i H/\∃ N:St->Hp->Prop,(∀ τ' H',N τ' H'->∃ m',m' < m/\W (i+1) m' τ' H')/\∀ x H',J.ju i H x H'->g x τ H' fun τ2 H2=>tc τ2 H2 fun b H3=>
  if b=true then te τ2 H3 fun y H4=>∃ xs,H4 D=some (.lst xs)/\xs.length < sizeLine/\N τ2 (upd H4 D (.lst (xs++[y]))) else N τ2 H3)
section
variable {iter elt:Expr} {pos:Pos} {wi:TI} {g:TG} {tc:TC}
abbrev NW:Obj:={cls:=.type "list",dict:=none,data:=.seq ([]:List Value).toArray}
def NX (X:Cx) (cmp tg:Expr) (ifs:List Expr) (sel:Env->Addr->Shared->(Shared->Prop)->Prop):Prop:=
 ∀ (it:Value) (D:Addr) (env:Env) (R:Result->Shared->Prop) (s:Shared) (I:Nat->Shared->Prop),
  (∀ n s,I n s->wpAny (model X.prog X.w) X.A (pyNext it) (fun r s₁=>match r with
   | none=>R (.ok .next) s₁
   | some v=>wpAny (model X.prog X.w) X.A (letOwnedTupleGo tg it v) (fun _ Ad=>wpAny (model X.prog X.w) X.A (assign tg env v) (fun _ s₂=>
     wpAny (model X.prog X.w) X.A (forIn ifs true fun c r=>if r=true then do let ok <- isTrue c env (eval c env);pure (ForInStep.yield ok) else pure (ForInStep.yield r)) (fun ok s₃=>
      if ok=true then sel env D s₃ (fun s₅=>∃ m,m < n/\I m s₅) else ∃ m,m < n/\I m s₃) gy s₂) gy Ad) gy s₁) gy s)->
  ∀ n,I n s->codeAny (model X.prog X.w) X.A (.compLoop cmp 0 it (.ref D) env) R s
theorem rB (S:ow X.env.scope X.N sc own idx N') (c1:∀ x c,cl.lookup x=some c->X.env.cells.lookup x=some c) (c2:∀ y∈sc.names,y.2=.free->∃ c,cl.lookup y.1=some c) (hc:X.calm=true)
  {cmp:Expr} {ob:Obj} {o0:HO} {mk:Sem Value} {sel:Env->Addr->Shared->(Shared->Prop)->Prop} (el:Addr->St->Hp->(Hp->Prop)->Prop) (hob:ob.isFreed=false) (L:NX X cmp tg ifs sel)
  (mono:∀ {env D s} {K K':Shared->Prop},sel env D s K->(∀ s',K s'->K' s')->sel env D s K')
  (ir:∀ it acc env R s,codeAny (model X.prog X.w) X.A (.compLoop cmp 0 it acc env) R s->wpAny (model X.prog X.w) X.A (pyIter it) (fun NY s'=>codeAny (model X.prog X.w) X.A (.compLoop cmp 0 NY acc env) R s') (notedBy (model X.prog X.w) X.A env fun x s'=>R (.error x) s') s->
   codeAny (model X.prog X.w) X.A (.compStart cmp 0 it acc env) R s)
  (hg:∀ cl C s3 H0 fp pn,PG (fb X N' sc cl C s3 H0 fp pn) tg g) (ht:∀ cl C s3 H0 fp pn,uy (fb X N' sc cl C s3 H0 fp pn) ifs tc)
  (he:∀ cl C s3 H0 fp pn pins s τ H D N,Inv (fb X N' sc cl C s3 H0 fp pn) pins τ H s->el D τ H N->sel (fb X N' sc cl C s3 H0 fp pn).env D s fun s'=>∃ H',Inv (fb X N' sc cl C s3 H0 fp pn) pins τ H' s'/\N H')
  {pins:List (Addr×Obj)} {σ:St} {Q:VK} {mr:Value} {s2:Shared} {RR:Value->Addr->Result->Shared->Prop} {E:Value->Shared->Prop}
  (Fy:∀ Q E,Q (.ref s2.heap.objs.size) {s2 with heap:=s2.heap.push ob}->wpAny (model X.prog X.w) X.A mk Q E s2)
  (NZ:∀ H',Inv X pins σ H' s2->∀ (H:Hp) (h:Heap),h.get? s2.heap.objs.size=some ob->be X.prog X.w H h s2.heap.objs.size o0)
  (hI:A4 X pins σ tg (fun J H1=>∀ D,H1 D=none->∃ W:Nat->Nat->St->Hp->Prop,(∃ m,W 0 m (ux own idx σ) (upd H1 D o0))/\∀ i m τ H,W i m τ H->
   (J.stop i H/\Q (.ref D) H)\/(J.go i H/\∃ N:St->Hp->Prop,(∀ τ' H',N τ' H'->∃ m',m' < m/\W (i+1) m' τ' H')/\∀ x H',J.ju i H x H'->g x τ H' fun τ2 H2=>tc τ2 H2 fun b H3=>if b=true then el D τ2 H3 (N τ2) else N τ2 H3)) mr s2)
  (Cm:∀ D C H' s',Inv X pins σ H' s'->Q (.ref D) H'->(H' C=none/\C≠X.env.locals/\X.s₀.heap.objs.size<=C/\(∀ x c,X.env.cells.lookup x=some c->c≠C)/\(∀ p∈X.pn++pins,p.1≠C)/\∃ m,s'.heap.Ns C m)->RR (.ref D) C (.ok .next) s'):
  wpAny (model X.prog X.w) X.A mk (fun acc s₃=>wpAny (model X.prog X.w) X.A (newFunctionEnv sc X.env.globals cl [] X.env.qual none .none (some X.env)) (fun cenv s₄=>
   codeAny (model X.prog X.w) X.A (.compStart cmp 0 mr acc {cenv with scope:=relabel sc X.env}) (RR acc cenv.locals) s₄) E s₃) E s2:=by
 obtain ⟨it,fp,tn,J,H2,rfl,I,T,zu,f2,body⟩:=hI
 refine Fy _ _ (wpAny_newFunctionEnv S.cell (by intro y hy;simp at hy) (fun h4 ns sb=>?_) S.kind)
 dsimp only at ns sb ⊢
 have fr:H2 s2.heap.objs.size=none:=I.hok.fresh (Qy _)
 obtain ⟨W,⟨m0,w0⟩,turn⟩:=body _ fr
 have Ci:∀ b∈fp,∃ o,s2.heap.get? b=some o:=fun b hb=>let ⟨o,e,_⟩:=T.obj _ _ zu b hb;⟨o,e⟩
 have DI:∀ b o,(s2.heap.push ob).get? b=some o->h4.get? b=some o:=fun b o e=>(sb.2 b (Nat.ne_of_lt (Qz e))).trans (Qc _ e)
 have N1:=NZ _ I
 have I4:Inv (fb X N' sc cl (s2.heap.push ob).objs.size {s2 with heap:=s2.heap.push ob} (upd H2 s2.heap.objs.size o0) fp (X.pn++pins)) [] (ux own idx σ) (upd H2 s2.heap.objs.size o0) {s2 with heap:=h4,toks:=s2.toks+([]:List (Str×Value)).length}:=
  zY S I f2 Ci c1 c2 hob N1 ns DI
 -- HR V9 own context
 generalize hY:fb X N' sc cl (s2.heap.push ob).objs.size {s2 with heap:=s2.heap.push ob} (upd H2 s2.heap.objs.size o0) fp (X.pn++pins)=Y at I4
 have N2:PG Y tg g:=by rw [<- hY];exact hg _ _ _ _ _ _
 have N3:uy Y ifs tc:=by rw [<- hY];exact ht _ _ _ _ _ _
 have N4:∀ pins s τ H D N,Inv Y pins τ H s->el D τ H N->sel Y.env D s fun s'=>∃ H',Inv Y pins τ H' s'/\N H':=by rw [<- hY];exact he _ _ _ _ _ _
 have pY:Y.prog=X.prog:=by rw [<- hY]
 have wY:Y.w=X.w:=by rw [<- hY]
 have KY:Y.K=X.K:=by rw [<- hY]
 have AY:Y.A=X.A:=by rw [<- hY]
 have cY:Y.calm=true:=by rw [<- hY];exact hc
 have xY:Y.xe=fun _ _=>False:=by rw [<- hY]
 have eY:Y.env=compEnvC sc cl (s2.heap.push ob).objs.size X.env:=by rw [<- hY]
 have N5:Y.ex=fp:=by rw [<- hY]
 have N6:Y.fs=gu X.stack:=by rw [<- hY]
 have N7:Y.pn=X.pn++pins:=by rw [<- hY]
 have zw:∀ {H':Hp},(∀ b∈fp,H' b=none)->∀ b∈fp,mq Y [] H' b:=fun hn b hb=>by
  obtain ⟨f0,f1,f3,f4,f5,f6⟩:=f2 b hb
  refine ⟨hn b hb,?_,?_,.inl (by rw [N5];exact hb),fun x c e=>?_,fun p hp=>?_⟩
  ·obtain ⟨o,e⟩:=Ci b hb
   have:=Qz e
   rw [eY]
   show b≠(s2.heap.push ob).objs.size
   rw [Heap.size_push];exact Nat.ne_of_lt (Nat.lt_succ_of_lt this)
  ·rw [N6]
   intro z
   rcases Qp.mp (I.BS b z) with z | z
   ·exact f1 z
   ·exact f3 z
  ·rw [eY] at e
   exact f5 x c (c1 x c e)
  ·rw [N7,List.append_nil] at hp
   exact f6 p hp
 have Iv:tn 0 h4:=T.keep _ _ _ zu fun b hb o e=>DI b o (Qc _ e)
 have N8:∀ b∈fp,upd H2 s2.heap.objs.size o0 b=none:=fun b hb=>by
  obtain ⟨o,e⟩:=Ci b hb
  rw [aH (Nat.ne_of_lt (Qz e))]
  exact (f2 b hb).1
 have loop:codeAny (model X.prog X.w) X.A (.compLoop cmp 0 (.ref it) (.ref s2.heap.objs.size) (compEnvC sc cl (s2.heap.push ob).objs.size X.env))
   (RR (.ref s2.heap.objs.size) (s2.heap.push ob).objs.size) {s2 with heap:=h4,toks:=s2.toks+([]:List (Str×Value)).length}:=by
  refine L _ _ _ _ _ (fun n s'=>∃ i τ H',Inv Y [] τ H' s'/\tn i s'.heap/\(∀ b∈fp,H' b=none)/\W i n τ H') ?_ m0 ⟨0,_,_,I4,Iv,N8,w0⟩
  rintro n s3 ⟨i,τ3,H3,I3,BW,BX,w3⟩
  rcases turn i n τ3 H3 w3 with ⟨stop,qn⟩ | ⟨go,N,hN,step⟩
  ·have h:=T.done Y pY wY KY cY i [] s3 τ3 H3 gy I3 (zw BX) BW stop
   rw [AY] at h
   refine aj h ?_
   rintro r s4 ⟨hr,N9⟩
   subst hr
   have J4:=N9
   rw [<- hY] at J4
   obtain ⟨b1,b2⟩:=wV I f2 hob J4
   exact Cm _ _ _ _ b1 qn b2
  ·have h:=T.item Y pY wY KY cY i [] s3 τ3 H3 gy I3 (zw BX) BW go
   rw [AY] at h
   refine aj h ?_
   rintro r s4 ⟨u,hr,yg⟩
   subst hr
   refine aj yg ?_
   rintro _ s5 ⟨x,H5,I5,r5,y5,zx,E9⟩
   have E_:=I5.pinned (zw E9) (T.obj _ _ zx)
   have g5:=N2 _ s5 τ3 H5 x u _ E_ r5 (step x H5 y5)
   rw [pY,wY,AY,xY,eY] at g5
   refine aj g5 ?_
   rintro _ s6 ⟨τ6,H6,I6,q6⟩
   have t6:=N3 _ s6 τ6 H6 _ I6 q6
   rw [pY,wY,AY,xY,eY] at t6
   refine aj t6 ?_
   rintro ok s7 ⟨H7,I7,q7⟩
   have again:∀ {τ8:St} {H8:Hp} {s8:Shared},Inv Y ([]++BV fp s5.heap) τ8 H8 s8->N τ8 H8->∃ m,m < n/\∃ i τ' H',Inv Y [] τ' H' s8/\tn i s8.heap/\(∀ b∈fp,H' b=none)/\W i m τ' H':=fun {τ8 H8 s8} I8 n8=>by
    obtain ⟨m',hm,w8⟩:=hN τ8 H8 n8
    refine ⟨m',hm,i+1,τ8,H8,I8.Dr,T.keep _ _ _ zx fun b hb o e=>(I8.pin (b,o) (List.mem_append_right _ (List.mem_append_right _ (i6 hb e)))).1,fun b hb=>?_,w8⟩
    obtain ⟨o,e,d⟩:=T.obj _ _ zx b hb
    exact (I8.pin (b,o) (List.mem_append_right _ (List.mem_append_right _ (i6 hb e)))).2.1
   cases ok with
   | false=>
    rw [if_neg (by decide)] at q7 ⊢
    exact again I7 q7
   | true=>
    rw [if_pos rfl] at q7 ⊢
    have e7:=N4 _ s7 τ6 H7 s2.heap.objs.size _ I7 q7
    rw [eY] at e7
    exact mono e7 fun s8 ⟨H8,I8,n8⟩=>again I8 n8
 exact ir _ _ _ _ _ loop (T.self _ 0 _ _ _ Iv loop)
theorem mT (S:ow X.env.scope X.N sc own idx N') (c1:∀ x c,cl.lookup x=some c->X.env.cells.lookup x=some c) (c2:∀ y∈sc.names,y.2=.free->∃ c,cl.lookup y.1=some c) (hc:X.calm=true)
  (hg:∀ cl C s3 H0 fp pn,PG (fb X N' sc cl C s3 H0 fp pn) tg g) (ht:∀ cl C s3 H0 fp pn,uy (fb X N' sc cl C s3 H0 fp pn) ifs tc) (he:∀ cl C s3 H0 fp pn,PE (fb X N' sc cl C s3 H0 fp pn) elt te)
  {pins:List (Addr×Obj)} {σ:St} {Q:VK} {mr:Value} {s2:Shared} {RR:Value->Addr->Result->Shared->Prop} {E:Value->Shared->Prop}
  (hI:A4 X pins σ tg (fun J H1=>∀ D,H1 D=none->∃ W:Nat->Nat->St->Hp->Prop,(∃ m,W 0 m (ux own idx σ) (upd H1 D (.lst [])))/\∀ i m τ H,W i m τ H->
   (J.stop i H/\Q (.ref D) H)\/(J.go i H/\∃ N:St->Hp->Prop,(∀ τ' H',N τ' H'->∃ m',m' < m/\W (i+1) m' τ' H')/\∀ x H',J.ju i H x H'->g x τ H' fun τ2 H2=>tc τ2 H2 fun b H3=>
    if b=true then te τ2 H3 fun y H4=>∃ xs,H4 D=some (.lst xs)/\xs.length < sizeLine/\N τ2 (upd H4 D (.lst (xs++[y]))) else N τ2 H3)) mr s2)
  (Cm:∀ D C H' s',Inv X pins σ H' s'->Q (.ref D) H'->(H' C=none/\C≠X.env.locals/\X.s₀.heap.objs.size<=C/\(∀ x c,X.env.cells.lookup x=some c->c≠C)/\(∀ p∈X.pn++pins,p.1≠C)/\∃ m,s'.heap.Ns C m)->RR (.ref D) C (.ok .next) s'):
  wpAny (model X.prog X.w) X.A (newList []) (fun acc s₃=>wpAny (model X.prog X.w) X.A (newFunctionEnv sc X.env.globals cl [] X.env.qual none .none (some X.env)) (fun cenv s₄=>
   codeAny (model X.prog X.w) X.A (.compStart (.ListComp elt [⟨tg,iter,ifs,0⟩] sc pos) 0 mr acc {cenv with scope:=relabel sc X.env}) (RR acc cenv.locals) s₄) E s₃) E s2:=by
 refine rB (ob:=NW) (sel:=fun env D s K=>wpAny (model X.prog X.w) X.A (eval elt env) (fun x s₄=>wpAny (model X.prog X.w) X.A (call (.builtin "list.append") [.ref D,x]) (fun _ s₅=>K s₅) gy s₄) gy s) (o0:=.lst []) (el:=fun D τ H K=>te τ H fun y H4=>∃ xs,H4 D=some (.lst xs)/\xs.length < sizeLine/\K (upd H4 D (.lst (xs++[y])))) S c1 c2 hc (hob:=rfl)
  (fun it D env R s I turn n h=>NT I turn n h) (fun h k=>aj h fun _ _ h=>aj h fun _ _ h=>k _ h) (fun _ _ _ _ _=>codeAny_compStart_list) hg ht (fun cl C s3 H0 fp pn pins s τ H D N I q=>?_) (fun Q E h=>wpAny_newObj_type h) (fun H' I H h e=>⟨Nat.zero_le _,[],_,.nil,e⟩) hI Cm
 refine aj (he cl C s3 H0 fp pn _ s τ H _ I q) ?_
 rintro yv s8 ⟨y,H8,I8,r8,xs,N_,hz,n8⟩
 exact aj (dQ (X:=fb X N' sc cl C s3 H0 fp pn) _ s8 τ H8 (.ref D) [y] (.ref D) [yv] (fun v H'=>N H') I8 rfl (.cons r8 .nil) ⟨_,xs,y,rfl,rfl,N_,hz,n8⟩) fun _ s9 ⟨_,H9,I9,_,n9⟩=>⟨H9,I9,n9⟩
theorem ow.closure (S:ow X.env.scope X.N sc own idx N') (ok:X.Ok):∃ cl,closureFor sc X.env=pure cl/\(∀ x c,cl.lookup x=some c->X.env.cells.lookup x=some c)/\(∀ y∈sc.names,y.2=.free->∃ c,cl.lookup y.1=some c):=
 tS fun y hy hf=>ok.has _ (S.free y hy hf)
theorem Oa (S:ow X.env.scope X.N sc own idx N') (hc:X.calm=true) (hi:PI X tg iter wi)
  (hg:∀ cl C s3 H0 fp pn,PG (fb X N' sc cl C s3 H0 fp pn) tg g) (ht:∀ cl C s3 H0 fp pn,uy (fb X N' sc cl C s3 H0 fp pn) ifs tc) (he:∀ cl C s3 H0 fp pn,PE (fb X N' sc cl C s3 H0 fp pn) elt te)
  (hs:∀ x,foldedSetIterable iter X.env x=pure x:=by intro _;rfl):PE X (.ListComp elt [⟨tg,iter,ifs,0⟩] sc pos) (Ck own idx wi g tc te):=by
 intro pins s σ H Q I h
 obtain ⟨cl,nj,c1,c2⟩:=S.closure I.ok
 rw [eval_ListComp]
 refine wpAny_comprehension_free (use:=none) rfl hs nj S.kind S.names (aj (hi pins s σ H _ I h) fun v s1 h1=>aj h1 fun mr s2 h2=>?_)
 refine mT (Q:=Q) (pins:=pins) (σ:=σ) (RR:=fun acc C=>compPost (model X.prog X.w) X.A X.xe none (EP X pins σ Q) acc C) S c1 c2 hc hg ht he h2 ?_
 intro D C H' s' I' q ⟨a1,a2,a3,a4,a5,m,a6⟩
 exact ⟨m,a6,fun h' sb=>⟨.ref D,H',I'.turned (t':=s'.toks) (fun b o hb e=>(sb.2 b hb).trans e) a1 (Ne.symm (Ne.symm a2)) (.inr a3) a4 a5,rfl,q⟩⟩
theorem Ob {py spos:Pos} (S:ow X.env.scope X.N sc own idx N') (hc:X.calm=true) (hi:PI X tg iter wi)
  (hg:∀ cl C s3 H0 fp pn,PG (fb X N' sc cl C s3 H0 fp pn) tg g) (ht:∀ cl C s3 H0 fp pn,uy (fb X N' sc cl C s3 H0 fp pn) ifs tc) (he:∀ cl C s3 H0 fp pn,PE (fb X N' sc cl C s3 H0 fp pn) elt te)
  (hN:X.N.Nodup) (Fz:X.N[i]? =some y) (hy:X.env.scope.names.lookup y=some .local)
  (uz:swapsWith (.ListComp elt [⟨tg,iter,ifs,0⟩] sc pos) (some (.Name y py)) spos.line X.env=pure true:=by rfl)
  (hs:∀ x,foldedSetIterable iter X.env x=pure x:=by intro _;rfl):PS X (.Assign [.Name y py] (.ListComp elt [⟨tg,iter,ifs,0⟩] sc pos) spos) (uq (Ck own idx wi g tc te) (jt i)):=by
 intro pins s σ H D I h
 obtain ⟨cl,nj,c1,c2⟩:=S.closure I.ok
 rw [exec_Assign_Name_used _ _ _ _ uz]
 refine QT (wpAny_standAt (QT ?_))
 show wpAny _ X.A (do let _ <- comprehension (.ListComp elt [⟨tg,iter,ifs,0⟩] sc pos) sc X.env _ (newList []) false (eval iter X.env) (some (assign (.Name y py) X.env))) _ _ s
 refine QT (wpAny_mono (wpAny_comprehension_free (use:=some (assign (.Name y py) X.env)) (Q:=fun _ s'=>SP X pins D .next s') rfl hs nj S.kind S.names
  (aj (hi pins s σ H _ I h) fun v s1 h1=>aj h1 fun mr s2 h2=>?_)) (fun _ s' hq=>QU (QU hq)) fun _ _ e=>e)
 refine mT (Q:=fun x H1=>jt i x σ H1 D.nx) (pins:=pins) (σ:=σ) (RR:=fun acc C=>compPost (model X.prog X.w) X.A X.xe (some (assign (.Name y py) X.env)) (fun _ s'=>SP X pins D .next s') acc C) S c1 c2 hc hg ht he h2 ?_
 intro D' C H' s' I' q ⟨a1,a2,a3,a4,a5,m,a6⟩
 show wpAny _ X.A (assign (.Name y py) X.env (.ref D')) _ _ _
 refine wpAny_assign_Name (j9 (v:=.ref D') I' hN Fz (.inl hy) rfl (fun s'' Oc ⟨a,sb,ha⟩=>?_) (.inr hy))
 have Od:C≠a:=by
  rcases ha with z | z
  ·rw [z];exact a2
  ·exact Ne.symm (a4 _ _ z)
 refine ⟨m,a6.sameBut sb Od,fun h' DI=>⟨_,H',Oc.turned (t':=s''.toks) (fun b o hb e=>(DI.2 b hb).trans e) a1 a2 (.inr a3) a4 a5,q⟩⟩
end
def tV (i:Nat):TE:=fun σ H Q=>match σ[i]? with | some (some v)=>Q v H | _=>False
theorem Oe (i:Nat) {pos:Pos} (hN:X.N[i]? =some x:=by rfl) (hv:BR X.env.scope x:=by first | exact Or.inl rfl | exact Or.inr (Or.inl rfl) | exact Or.inr (Or.inr rfl)) (hd:(x==("__debug__":Str))=false:=by decide) (jr:(x==("__classdict__":Str))=false:=by decide):PE X (.Name x pos) (tV i):=by
 intro pins s σ H Q I h
 refine LZ hN hv hd jr pins s σ H Q I ?_
 unfold tV at h
 split at h
 ·next v e=>exact ⟨v,e,h⟩
 ·exact h.elim
def Iw:R2:=fun x y H Q=>match x,y with
 | .int i,.int j=>Q (.int (i+j)) H
 | .str i,.str j=>i.length+j.length<=sizeLine/\Q (.str (i++j)) H
 | .ref l,.ref b=>(∃ xs zs,H l=some (.lst xs)/\H b=some (.lst zs)/\xs.length+zs.length<=sizeLine/\∀ p,H p=none->Q (.ref p) (upd H p (.lst (xs++zs))))
 | _,_=>False
theorem bC:br X (binaryOp .Add) Iw:=by
 intro pins s σ H x y v u Q I rx ry h
 cases x<;>cases y<;>first
  | exact (show False from h).elim
  | exact MD pins s σ H _ _ v u Q I rx ry ⟨_,_,rfl,rfl,h⟩
  | exact uO pins s σ H _ _ v u Q I rx ry ⟨_,_,rfl,rfl,h.1,h.2⟩
  | (obtain ⟨xs,zs,h1,h2,h3,h4⟩:=h;exact Nx pins s σ H _ _ v u Q I rx ry ⟨_,_,xs,zs,rfl,rfl,h1,h2,h3,h4⟩)
def Of:R2:=fun x y H Q=>match x,y with | .int i,.int j=>Q (.int (i - j)) H | _,_=>False
theorem Og:br X (binaryOp .Sub) Of:=by
 intro pins s σ H x y v u Q I rx ry h
 cases x<;>cases y<;>first
  | exact (show False from h).elim
  | exact ME pins s σ H _ _ v u Q I rx ry ⟨_,_,rfl,rfl,h⟩
def Oh:R2:=fun x y H Q=>match x,y with | .int i,.int j=>BY i j/\Q (.int (i*j)) H | _,_=>False
theorem fY:br X (binaryOp .Mult) Oh:=by
 intro pins s σ H x y v u Q I rx ry h
 cases x<;>cases y<;>first
  | exact (show False from h).elim
  | exact MF pins s σ H _ _ v u Q I rx ry ⟨_,_,rfl,rfl,h.1,h.2⟩
def Oi:R2:=fun x y H Q=>match x,y with | .int i,.int j=>0 < j/\Q (.int (i % j)) H | _,_=>False
theorem fC:br X (binaryOp .Mod) Oi:=by
 intro pins s σ H x y v u Q I rx ry h
 cases x<;>cases y<;>first
  | exact (show False from h).elim
  | exact MH pins s σ H _ _ v u Q I rx ry ⟨_,_,rfl,rfl,h.1,h.2⟩
def Oj:R2:=fun x y H Q=>match x,y with | .int i,.int j=>(0 < j/\j < 1073741824)/\Q (.int (i / j)) H | _,_=>False
theorem wG:br X (binaryOp .FloorDiv) Oj:=by
 intro pins s σ H x y v u Q I rx ry h
 cases x<;>cases y<;>first
  | exact (show False from h).elim
  | exact MG pins s σ H _ _ v u Q I rx ry ⟨_,_,rfl,rfl,h.1,h.2⟩
def Ol:R2:=fun x y H Q=>match x,y with | .int i,.int j=>HW i j/\Q (.int (i^j.toNat)) H | _,_=>False
theorem vE:br X (binaryOp .Pow) Ol:=by
 intro pins s σ H x y v u Q I rx ry h
 cases x<;>cases y<;>first
  | exact (show False from h).elim
  | exact MI pins s σ H _ _ v u Q I rx ry ⟨_,_,rfl,rfl,h.1,h.2⟩
def FA (p:Int->Int->Bool):R2:=fun x y H Q=>match x,y with | .int i,.int j=>Q (.bl (p i j)) H | _,_=>False
theorem mK:br X (compareOp .Gt) (FA fun i j=>decide (j < i)):=by
 intro pins s σ H x y v u Q I rx ry h
 cases x<;>cases y<;>first
  | exact (show False from h).elim
  | exact MR pins s σ H _ _ v u Q I rx ry ⟨_,_,rfl,rfl,h⟩
theorem Om:br X (compareOp .GtE) (FA fun i j=>decide (j<=i)):=by
 intro pins s σ H x y v u Q I rx ry h
 cases x<;>cases y<;>first
  | exact (show False from h).elim
  | exact MS pins s σ H _ _ v u Q I rx ry ⟨_,_,rfl,rfl,h⟩
theorem pR:br X (compareOp .LtE) (FA fun i j=>decide (i<=j)):=by
 intro pins s σ H x y v u Q I rx ry h
 cases x<;>cases y<;>first
  | exact (show False from h).elim
  | exact MQ pins s σ H _ _ v u Q I rx ry ⟨_,_,rfl,rfl,h⟩
def Oo:R2:=fun x y H Q=>match x,y with
 | .int i,.int j=>Q (.bl (decide (i < j))) H
 | .str i,.str j=>Q (.bl (decide (i.cps.toList < j.cps.toList))) H
 | _,_=>False
theorem iT:br X (compareOp .Lt) Oo:=by
 intro pins s σ H x y v u Q I rx ry h
 cases x<;>cases y<;>first
  | exact (show False from h).elim
  | exact MP pins s σ H _ _ v u Q I rx ry ⟨_,_,rfl,rfl,h⟩
  | exact xG pins s σ H _ _ v u Q I rx ry ⟨_,_,rfl,rfl,h⟩
def Ae (n:Bool):R2:=fun x y H Q=>match x,y with
 | .ref a,.ref b=>a≠b/\∃ xs,H a=some (.lst xs)/\H b=some (.lst [])/\Q (.bl (n^^xs.isEmpty)) H
 | x,y=>BZ x y=true/\Q (.bl (n^^decide (x=y))) H
theorem Oq {xs:List V} (hu:A.units < cLine) (I:Inv X pins σ H s) (ha:H a=some (.lst xs)) (hb:H b=some (.lst [])) (jv:a≠b)
  (q:∀ tk,Q (.bool xs.isEmpty) {s with toks:=tk}) (q0:Q (.bool xs.isEmpty) s):wpAny (model X.prog X.w) A (compareOp .Eq (.ref a) (.ref b)) Q E s:=by
 obtain ⟨_,its,n,r1,e1⟩:=(show be X.prog X.w H s.heap a (.lst xs) from I.hok a _ ha)
 obtain ⟨_,its2,n2,r2,e2⟩:=(show be X.prog X.w H s.heap b (.lst []) from I.hok b _ hb)
 cases r2
 have l1:s.heap.IsList a its.toArray:=⟨_,e1,rfl,_,rfl⟩
 have l2:s.heap.IsList b (#[]:Array Value):=⟨_,e2,rfl,_,rfl⟩
 cases r1 with
 | nil=>
  exact SeqAt.eq_listAt (e:=fun _=>true) l1 l2 rfl hu (fun i hi=>absurd hi (by simp)) (by simpa using q0)
 | cons z t=>
  exact SeqAt.eq_list_lengthsAt l1 l2 (by simp) hu (by simpa using q0)
theorem bA (hu:X.A.units < cLine):br X (compareOp .Eq) (Ae false):=by
 intro pins s σ H x y v u Q I rx ry h
 have hs:(∀ a b,x=.ref a->y=.ref b->False)->BZ x y=true/\Q (.bl (false^^decide (x=y))) H:=fun hn=>by
  cases x<;>cases y<;>first
   | exact (hn _ _ rfl rfl).elim
   | exact h
 by_cases hr:∃ a b,x=.ref a/\y=.ref b
 ·obtain ⟨a,b,rfl,rfl⟩:=hr
  obtain ⟨jv,xs,h1,h2,q⟩:=h
  cases rx;cases ry
  exact Oq hu I h1 h2 jv (fun tk=>⟨.bl xs.isEmpty,H,I.tok tk,rfl,by simpa using q⟩) ⟨.bl xs.isEmpty,H,I,rfl,by simpa using q⟩
 ·obtain ⟨h1,h2⟩:=hs fun a b e1 e2=>hr ⟨a,b,e1,e2⟩
  exact MN pins s σ H x y v u Q I rx ry ⟨h1,by simpa using h2⟩
theorem yU {xs:List V} (hu:A.units < cLine) (I:Inv X pins σ H s) (ha:H a=some (.lst xs)) (hb:H b=some (.lst []))
  (q0:Q (.bool (!xs.isEmpty)) s):wpAny (model X.prog X.w) A (compareOp .NotEq (.ref a) (.ref b)) Q E s:=by
 obtain ⟨_,its,n,r1,e1⟩:=(show be X.prog X.w H s.heap a (.lst xs) from I.hok a _ ha)
 obtain ⟨_,its2,n2,r2,e2⟩:=(show be X.prog X.w H s.heap b (.lst []) from I.hok b _ hb)
 cases r2
 have l1:s.heap.IsList a its.toArray:=⟨_,e1,rfl,_,rfl⟩
 have l2:s.heap.IsList b (#[]:Array Value):=⟨_,e2,rfl,_,rfl⟩
 cases r1 with
 | nil=>
  exact SeqAt.RcNeAt.lists (e:=fun _=>true) l1 l2 rfl hu (fun i hi=>absurd hi (by simp)) _ _ _ _ (by simpa using q0)
 | cons z t=>
  exact SeqAt.RcNeAt.lists_lengths l1 l2 (by simp) hu _ _ _ _ (by simpa using q0)
theorem iY (hu:X.A.units < cLine):br X (compareOp .NotEq) (Ae true):=by
 intro pins s σ H x y v u Q I rx ry h
 have hs:(∀ a b,x=.ref a->y=.ref b->False)->BZ x y=true/\Q (.bl (true^^decide (x=y))) H:=fun hn=>by
  cases x<;>cases y<;>first
   | exact (hn _ _ rfl rfl).elim
   | exact h
 by_cases hr:∃ a b,x=.ref a/\y=.ref b
 ·obtain ⟨a,b,rfl,rfl⟩:=hr
  obtain ⟨jv,xs,h1,h2,q⟩:=h
  cases rx;cases ry
  exact yU hu I h1 h2 ⟨.bl (!xs.isEmpty),H,I,rfl,by simpa using q⟩
 ·obtain ⟨h1,h2⟩:=hs fun a b e1 e2=>hr ⟨a,b,e1,e2⟩
  exact MO pins s σ H x y v u Q I rx ry ⟨h1,by simpa using h2⟩
def A9 (K:Q0):R2:=fun x y H Q=>match x,y with
 | .ref p,.int i=>∃ xs v,(ae K H p xs\/ai K H p xs)/\iu xs i=some v/\Q v H
 | .str z,.int i=>z.length<=sizeLine/\∃ c,iu z.cps.toList i=some c/\Q (.str ⟨#[c]⟩) H
 | _,_=>False
theorem Ot : Ab X (A9 X.K) := by
  intro e1 e2 pins s σ H x y v u Q I rx ry h hs
  cases x <;> cases y <;> first
    | exact (show False from h).elim
    | (obtain ⟨xs, w, h1 | h1, h2, h3⟩ := h
       · exact Ni e1 e2 pins s σ H _ _ v u Q I rx ry ⟨_, xs, _, w, rfl, rfl, h1, h2, h3⟩ hs
       · exact Nj e1 e2 pins s σ H _ _ v u Q I rx ry ⟨_, xs, _, w, rfl, rfl, h1, h2, h3⟩ hs)
    | (obtain ⟨h1, c, h2, h3⟩ := h; exact Nk e1 e2 pins s σ H _ _ v u Q I rx ry ⟨_, _, c, rfl, rfl, h1, h2, h3⟩ hs)
def Cn (K:Q0) (n:Bool):R2:=fun x y H Q=>match y with
 | .str j=>∃ i,x=.str i/\Q (.bl (n^^(!(Builtin.Str.occurrences j i 0 j.length 1).isEmpty))) H
 | .ref p=>∃ xs,(ae K H p xs\/ai K H p xs)/\kc x=true/\xs.all kc=true/\Q (.bl (n^^mw x xs)) H
 | _=>False
theorem Ou:br X (compareOp .In) (Cn X.K false):=by
 intro pins s σ H x y v u Q I rx ry h
 cases y<;>first
  | exact (show False from h).elim
  | (obtain ⟨i,rfl,h2⟩:=h;exact wK pins s σ H _ _ v u Q I rx ry ⟨i,_,rfl,rfl,by simpa using h2⟩)
  | (obtain ⟨xs,h1,h2,h3,h4⟩:=h;exact wM pins s σ H _ _ v u Q I rx ry ⟨_,xs,rfl,h1,h2,h3,by simpa using h4⟩)
theorem y7:br X (compareOp .NotIn) (Cn X.K true):=by
 intro pins s σ H x y v u Q I rx ry h
 cases y<;>first
  | exact (show False from h).elim
  | (obtain ⟨i,rfl,h2⟩:=h;exact pM pins s σ H _ _ v u Q I rx ry ⟨i,_,rfl,rfl,by simpa using h2⟩)
  | (obtain ⟨xs,h1,h2,h3,h4⟩:=h;exact oW pins s σ H _ _ v u Q I rx ry ⟨_,xs,rfl,h1,h2,h3,by simpa using h4⟩)
def Co (K:Q0):List V->Hp->VK->Prop:=fun xs H Q=>match xs with
 | [.str y]=>y.length<=sizeLine/\Q (.int y.length) H
 | [.ref p]=>(∃ ys,(ae K H p ys\/ai K H p ys)/\Q (.int ys.length) H)\/(∃ kvs,Rd H p (.dK kvs)/\Q (.int kvs.length) H)
 | _=>False
theorem wQ:jd X (.builtin "len") (Co X.K):=by
 intro pins s σ H xs us Q I r h
 unfold Co at h
 split at h
 ·exact mG pins s σ H _ us Q I r ⟨_,_,rfl,⟨h.1,rfl⟩,h.2⟩
 ·rcases h with ⟨ys,h1 | h1,q⟩ | ⟨kvs,h1,q⟩
  ·exact mG pins s σ H _ us Q I r ⟨_,_,rfl,.inl ⟨ys,h1,rfl⟩,q⟩
  ·exact mG pins s σ H _ us Q I r ⟨_,_,rfl,.inr ⟨ys,h1,rfl⟩,q⟩
  ·obtain ⟨u,rfl,ru⟩:=vals1 r
   cases ru
   exact NC I h1 fun t s' I'=>⟨.int kvs.length,H,I',⟨t,rfl⟩,q⟩
 ·exact h.elim
def qj (H:Hp):V->Option String
 | .af=>some "NoneType"
 | .bl _=>some "bool"
 | .int _=>some "int"
 | .str _=>some "str"
 | .ref a=>match H a with
  | some (.lst _)=>some "list"
  | some (.tup _)=>some "tuple"
  | some (.dK _)=>some "dict"
  | _=>none
 | _=>none
def u_ (t T:String):Bool:=t==T||(t=="bool"&&T=="int")
theorem Ov:∀ (K:Q0) (t T:String),t∈["NoneType","bool","int","str","list","tuple","dict"]->T∈["bool","int","str","list","tuple","dict"]->PySem.W.kitOne K (.type t) (.type T)=some (u_ t T):=by
 intro K t T h1 h2
 simp only [Qp,QA,or_false] at h1 h2
 rcases h1 with rfl | rfl | rfl | rfl | rfl | rfl | rfl<;>rcases h2 with rfl | rfl | rfl | rfl | rfl | rfl<;>rfl
def FD:List V->Hp->VK->Prop:=fun xs H Q=>match xs with
 | [x,.ty T]=>T∈["bool","int","str","list","tuple","dict"]/\∃ t,qj H x=some t/\Q (.bl (u_ t T)) H
 | _=>False
theorem bI:jd X (.builtin "isinstance") FD:=by
 intro pins s σ H xs us Q I r h
 unfold FD at h
 split at h
 ·next x T=>
  obtain ⟨hT,t,ht,q⟩:=h
  obtain ⟨u,c,rfl,ru,rc⟩:=r.two
  cases rc
  have fin:∀ tk,EP X pins σ Q (.bool (u_ t T)) {s with toks:=tk}:=fun tk=>⟨.bl (u_ t T),H,I.tok tk,rfl,q⟩
  have tm:t∈["NoneType","bool","int","str","list","tuple","dict"]/\om X.K H x (.type t):=by
   cases x with
   | af=>cases ht;exact ⟨by simp,.af⟩
   | bl b=>cases ht;exact ⟨by simp,.bl b⟩
   | int b=>cases ht;exact ⟨by simp,.int b⟩
   | str b=>cases ht;exact ⟨by simp,.str b⟩
   | ref a=>
    unfold qj at ht
    dsimp only at ht
    split at ht
    ·next e=>cases ht;exact ⟨by simp,.lst e⟩
    ·next e=>cases ht;exact ⟨by simp,.tup e⟩
    ·next e=>cases ht;exact ⟨by simp,.dK e⟩
    ·cases ht
   | _=>cases ht
  exact y4 I ru tm.2 (Ov _ t T tm.1 hT) fin
 ·exact h.elim
def DJ (K:Q0):List V->Hp->VK->Prop:=fun xs H Q=>match xs with
 | [.ref p]=>∃ bs:List Bool,ae K H p (bs.map V.bl)/\Q (.bl (bs.all id)) H
 | _=>False
theorem rX:∀ {bs:List Bool} {us:List Value},ao (bs.map V.bl) us->us=bs.map Value.bool
 | [],_,.nil=>rfl
 | b::bs,_,.cons r t=>by
  cases (show _=Value.bool b from r)
  rw [rX t];rfl
theorem wT (hc:X.calm=true):jd X (.builtin "all") (DJ X.K):=by
 intro pins s σ H xs us Q I r h
 unfold DJ at h
 split at h
 ·next p=>
  obtain ⟨bs,hq,q⟩:=h
  obtain ⟨u,rfl,ru⟩:=r.one
  cases ru
  obtain ⟨its,rv,pl,hz⟩:=I.list hq
  have e:=rX rv
  subst e
  have bh:p < s.heap.objs.size:=by obtain ⟨_,e,_⟩:=pl.isList;exact Qz e
  refine call_all_walk (wpAny_pyIter_list pl.isList ?_)
  refine ⟨s.heap.objs.size,[s.heap.objs.size,p],[s.heap.objs.size],(bs.map Value.bool).toArray.size,_,_,fun i=>(bs[i]?).getD true,rfl,Walks.list (A:=X.A.in1) (I.ok.hd hc) _ p (Nat.ne_of_lt bh) _,
   ⟨⟨_,Qd _ rfl,rfl,rfl⟩,pl.isList.push _⟩,fun i v s' Q' E' hP hQ=>?_,fun h' tk hk=>?_⟩
  ·have Cp:(bs.map Value.bool)[i]? =some v:=by simpa using hP
   rw [Qq] at Cp
   cases eb:bs[i]? with
   | none=>rw [eb] at Cp;cases Cp
   | some b=>
    rw [eb] at Cp
    cases Cp
    simp only [eb,Option.getD_some] at hQ
    exact wpAny_truthy_bool hQ
  ·have e:((List.range (bs.map Value.bool).toArray.size).all fun i=>(bs[i]?).getD true)=bs.all id:=by
    rw [List.size_toArray,Ql]
    rw [Bool.eq_iff_iff,QF,QF]
    constructor
    ·intro h b hb
     obtain ⟨i,hi,rfl⟩:=Qi hb
     have:=h i (List.mem_range.mpr hi)
     simpa [Qa hi] using this
    ·intro h i hi
     have lj:=List.mem_range.mp hi
     have:=h _ (Qj lj)
     simpa [Qa lj] using this
   rw [e]
   refine ⟨.bl (bs.all id),H,I.kept (t':=tk) fun b o e=>hk b o (fun hm=>?_) (Qc _ e),rfl,q⟩
   rw [List.mem_singleton.mp hm] at e
   exact Nat.lt_irrefl _ (Qz e)
 ·exact h.elim
theorem pE:∀ {xs:List Str} {us:List Value},ao (xs.map V.str) us->StrsAre us xs
 | [],_,.nil=>.nil
 | x::xs,_,.cons r t=>by
  obtain ⟨k,rfl⟩:=(show ∃ t,_=Value.str x t from r)
  exact .cons x k (pE t)
def rJoin (K:Q0):V->List V->Hp->VK->Prop:=fun x vs H Q=>match x,vs with
 | .str sep,[.ref p]=>∃ ys:List Str,ae K H p (ys.map V.str)/\(ys.map (·.length)).sum+ys.length*sep.length<=16777216/\Q (.str (Txt.join sep ys)) H
 | _,_=>False
theorem Ox:uv X "str.join" (rJoin X.K):=by
 intro pins s σ H x vs v us Q I rx rv h
 unfold rJoin at h
 split at h
 ·next sep p=>
  obtain ⟨ys,hq,hz,q⟩:=h
  obtain ⟨t,rfl⟩:=(show ∃ t,v=Value.str sep t from rx)
  obtain ⟨u,rfl,ru⟩:=rv.one
  cases ru
  obtain ⟨its,Oz,pl,_⟩:=I.list hq
  exact join_list pl.isList (by simpa using pE Oz) hz fun t' k=>⟨.str (Txt.join sep ys),H,I.tok k,⟨t',rfl⟩,q⟩
 ·exact h.elim
def DK:V->Option Int->Option Int->Hp->VK->Prop:=fun x lo hi H Q=>∃ z,x=.str z/\z.length<=sizeLine/\Q (.str (Txt.slice z lo hi)) H
theorem OA:sr X DK:=by
 intro pins s σ H x v vl vu lo hi sl Q I rx hs pl pu h
 obtain ⟨z,rfl,hz,q⟩:=h
 obtain ⟨t,rfl⟩:=(show ∃ t,v=Value.str z t from rx)
 refine ⟨"str",_,F.slot_str_getitem.lookup,typeIs_str _ _ _,?_⟩
 have Iz:∀ {w:Value} {o:Option Int},IsPart w o->∃ l:Option (Int×Tok),w=partValue l/\l.map (·.1)=o:=fun {w o} p=>by
  cases p with
  | none=>exact ⟨none,rfl,rfl⟩
  | int k t=>exact ⟨some (k,t),rfl,rfl⟩
 obtain ⟨l,e1,e2⟩:=Iz pl
 obtain ⟨u,e3,e4⟩:=Iz pu
 subst e1 e3
 obtain ⟨o,ho,hc,hd⟩:=hs
 refine wpAny_getItem_str_slice (l:=l) (u:=u) (st:=none) ⟨o,ho,hc,hd⟩ rfl ?_
 refine post_val_or_str ⟨Nat.le_trans (Txt.slice_le z _ _) hz,fun t' k=>?_⟩
 show EP X pins σ Q (.str (Txt.slice z (l.map (·.1)) (u.map (·.1))) t') _
 rw [e2,e4]
 exact ⟨.str (Txt.slice z lo hi),H,I.tok k,⟨t',rfl⟩,q⟩
def DL (z:Str):It:=⟨fun i _=>i < z.cps.size,fun i H x H'=>H'=H/\∃ c,z.cps[i]? =some c/\x=.str ⟨#[c]⟩,fun i _=>z.cps.size=i⟩
theorem tW {K:Q0} {it:Addr} {St:Nat->Heap->Prop} (W:∀ A':Around,A'.handled=none->Walks P w A' it [it] [it] z.cps.size (SignAt z) St)
  (FE:∀ (A:Around) (i:Nat) (s:Shared) (Q:Value->Shared->Prop) (E:Value->Shared->Prop),St i s.heap->Q (.ref it) s->wpAny (model P w) A (pyIter (.ref it)) Q E s)
  (hg:∀ i h,St i h->∃ o n vs,h.get? it=some o/\o.cls=.type n/\o.data=.fields vs/\["enumerate","zip","dict_itemiterator","dict_reverseitemiterator","odict_iterator","itertools.zip_longest","itertools.pairwise"].contains n=false):Turn P w K tg (DL z) [it] it St where
 mem:=by simp
 obj:=fun i h st b hb=>by
  have e:b=it:=by simpa using hb
  subst e
  obtain ⟨o,n,vs,e,c,d,_⟩:=hg i h st
  exact ⟨o,e,fun v z=>by rw [d] at z;cases z⟩
 keep:=fun i h h' st k=>(W {} rfl).frame _ _ _ st k
 item:=by
  intro X hP hw hK hc i pins s σ H E I hf st FF
  subst hP hw hK
  obtain ⟨f0,f1,f2,f3,f4,f5⟩:=hf it (by simp)
  refine (W X.A (I.ok.hd hc)).item i s _ _ FF st fun v h' tk hv st' kk=>?_
  obtain ⟨c,t,lq,rfl⟩:=hv
  have I1:Inv X pins σ H {s with heap:=h',toks:=tk}:=I.turned (fun b o hb e=>kk b o (by simpa using hb) e) f0 f1 f3 f4 f5
  obtain ⟨o,n,vs,e,c',d,nn⟩:=hg _ _ st'
  exact ⟨_,rfl,nV (s:={s with heap:=h',toks:=tk}) e c' d nn ⟨.str ⟨#[c]⟩,H,I1,⟨t,rfl⟩,⟨rfl,c,lq,rfl⟩,st',fun b hb=>(hf b hb).1⟩⟩
 done:=by
  intro X hP hw hK hc i pins s σ H E I hf st FF
  subst hP hw hK
  obtain ⟨f0,f1,f2,f3,f4,f5⟩:=hf it (by simp)
  have e:z.cps.size=i:=FF
  subst e
  exact (W X.A (I.ok.hd hc)).done s _ _ st fun h' tk kk=>⟨rfl,I.turned (fun b o hb e=>kk b o (by simpa using hb) e) f0 f1 f3 f4 f5⟩
 self:=FE
def av (P:Program) (w:World) (K:Q0) (mg:Str->Option Value) (base:Heap) (k:Nat) (x:Str) (ps:List Str) (sp:Sp):Prop:=
 ∃ (f:Addr) (fd:FuncData),oq P w K mg base uw k f fd ps sp/\mg x=some (.ref f)/\PySem.W.keepIn K (.ref f)=true/\Binds K fd ps []/\∃ (oc:Value) (od:Option Addr) (g_:Array (Option Value)),K.lookup f=some ⟨oc,od,.func fd,g_⟩
section
variable {k:Nat} {sp:Sp} {p pos:Pos}
theorem OB (F:av X.prog X.w X.K X.mg X.base k x ps sp) (hr:fh k X.A) (ha:PA X (e::es) t) (hg:Gl X x:=by rfl) (d_:(x==("__debug__":Str))=false:=by decide)
  (he:starEach (e::es) X.env=(false,eval e X.env)::starEach es X.env:=by rfl) (hpl:(backTo pos (starEach es X.env)).any (·.1)=false:=by rfl):
  PE X (.Call (.Name x p) (e::es) [] pos) (z_ sp [] E0 t):=by
 obtain ⟨f,fd,G,OC,kp,b,_⟩:=F
 exact M5 G hr hg OC kp b .nil NJ ha d_ he hpl
end
def iD (K:Q0) (tl:TE):TI:=fun σ H R=>tl σ H fun x H1=>match x with
 | .ref a=>((∃ xs,ae K H1 a xs)/\R (A5 K a) H1)\/((∃ xs,ai K H1 a xs)/\R (A6 K a) H1)
 | .str z=>R (DL z) H1
 | _=>False
theorem OD {l:Expr} {tl:TE} (hl:PE X l tl):PI X tg l (iD X.K tl):=by
 intro pins s σ H R I h
 refine aj (hl pins s σ H _ I h) ?_
 rintro v s1 ⟨x,H1,I1,r1,q1⟩
 cases x with
 | ref a=>
  cases r1
  rcases q1 with ⟨⟨xs,hq⟩,q⟩ | ⟨⟨xs,hq⟩,q⟩
  ·obtain ⟨its,rv,p,hz⟩:=I1.list hq
   refine wpAny_pyIter_list p.isList ?_
   refine ⟨s1.heap.objs.size,[s1.heap.objs.size],_,_,H1,rfl,I1.kept (t':=s1.toks) fun b o e=>Qc _ e,yC a _,⟨_,Qd _ rfl,rfl,rfl⟩,fun b hb=>?_,q⟩
   have e:b=s1.heap.objs.size:=by simpa using hb
   subst e
   exact I1.ur (Qy _) (I1.hok.fresh (Qy _))
  ·obtain ⟨its,rv,p,hz⟩:=I1.tuple hq
   refine wpAny_pyIter_tuple (show s1.heap.IsTuple a its.toArray from p) ?_
   refine ⟨s1.heap.objs.size,[s1.heap.objs.size],_,_,H1,rfl,I1.kept (t':=s1.toks) fun b o e=>Qc _ e,tM a _,⟨_,Qd _ rfl,rfl,rfl⟩,fun b hb=>?_,q⟩
   have e:b=s1.heap.objs.size:=by simpa using hb
   subst e
   exact I1.ur (Qy _) (I1.hok.fresh (Qy _))
 | str z=>
  obtain ⟨t,rfl⟩:=(show ∃ t,v=Value.str z t from r1)
  have q:R (DL z) H1:=q1
  have fin:∀ (o:Obj) (n:String) (W:∀ A':Around,A'.handled=none->Walks X.prog X.w A' s1.heap.objs.size [s1.heap.objs.size] [s1.heap.objs.size] z.cps.size (SignAt z) (fun i h=>h.IsStrIter s1.heap.objs.size n z t i)),
    (∀ (A:Around) (i:Nat) (s:Shared) (Q:Value->Shared->Prop) (E:Value->Shared->Prop),s.heap.IsStrIter s1.heap.objs.size n z t i->Q (.ref s1.heap.objs.size) s->wpAny (model X.prog X.w) A (pyIter (.ref s1.heap.objs.size)) Q E s)->
    ["enumerate","zip","dict_itemiterator","dict_reverseitemiterator","odict_iterator","itertools.zip_longest","itertools.pairwise"].contains n=false->
    (s1.heap.push o).IsStrIter s1.heap.objs.size n z t 0->A4 X pins σ tg R (.ref s1.heap.objs.size) {s1 with heap:=s1.heap.push o}:=by
   intro o n W FE hn st
   refine ⟨s1.heap.objs.size,[s1.heap.objs.size],_,_,H1,rfl,I1.kept (t':=s1.toks) fun b o e=>Qc _ e,tW W FE (fun i h st=>?_),st,fun b hb=>?_,q⟩
   ·obtain ⟨o,e,c,d⟩:=st
    exact ⟨o,n,_,e,c,d,hn⟩
   ·have e:b=s1.heap.objs.size:=by simpa using hb
    subst e
    exact I1.ur (Qy _) (I1.hok.fresh (Qy _))
  cases ha:z.cps.all (· < 128)
  ·exact wpAny_pyIter_wide ha (fin _ _ (fun A' hA=>Walks.strWide hA _ z t) (fun A i s Q E st h=>wpAny_pyIter_striter_wide st h) (by decide) ⟨_,Qd _ rfl,rfl,rfl⟩)
  ·exact wpAny_pyIter_ascii ha (fin _ _ (fun A' hA=>Walks.strAscii hA _ z t) (fun A i s Q E st h=>wpAny_pyIter_striter_ascii st h) (by decide) ⟨_,Qd _ rfl,rfl,rfl⟩)
 | _=>exact (show False from q1).elim
def vc (J:It) (ok:Hp->Prop) (n:Nat) (item:Nat->V):Prop:=
 ∀ H,ok H->(∀ i,i < n->J.go i H/\∀ x H',J.ju i H x H'->H'=H/\x=item i)/\J.stop n H
theorem dH {K:Q0} (xs:List V):vc (A5 K a) (fun H=>ae K H a xs) xs.length (fun i=>xs.getD i .af):=fun H ok=>
 ⟨fun i hi=>⟨⟨xs,xs[i],ok,by simp [hi]⟩,fun x H' ⟨e,y⟩=>⟨e,by
  have:=y xs ok
  show x=xs.getD i V.af
  rw [Qb,this];rfl⟩⟩,⟨xs,ok,Qy _⟩⟩
theorem cU {K:Q0} (xs:List V):vc (A6 K a) (fun H=>ai K H a xs) xs.length (fun i=>xs.getD i .af):=fun H ok=>
 ⟨fun i hi=>⟨⟨xs,xs[i],ok,by simp [hi]⟩,fun x H' ⟨e,y⟩=>⟨e,by
  have:=y xs ok
  show x=xs.getD i V.af
  rw [Qb,this];rfl⟩⟩,⟨xs,ok,Qy _⟩⟩
theorem dE (lo:Int) (n:Nat):vc (Dq lo n) (fun _=>True) n (fun i=>.int (lo+i)):=fun H _=>
 ⟨fun i hi=>⟨hi,fun x H' ⟨e,y⟩=>⟨e,y⟩⟩,Qy _⟩
theorem OE (z:Str):vc (DL z) (fun _=>True) z.cps.size (fun i=>.str ⟨#[z.cps.getD i 0]⟩):=fun H _=>
 ⟨fun i hi=>⟨hi,fun x H' ⟨e,c,h1,h2⟩=>⟨e,by show x=V.str ⟨#[z.cps.getD i 0]⟩;rw [h2,Array.getD_eq_getD_getElem?,h1];rfl⟩⟩,rfl⟩
theorem gO {J:It} {ok:Hp->Prop} {item:Nat->V} {g:TG} {tc:TC} {τ0:St} {H0:Hp} {D:Addr} {Q:Hp->Prop} (hJ:vc J ok n item) (Pv:Nat->St->Hp->Prop) (h0:Pv 0 τ0 H0)
  (hok:∀ i τ H,i<=n->Pv i τ H->ok H)
  (hs:∀ i τ H,i < n->Pv i τ H->g (item i) τ H fun τ2 H2=>tc τ2 H2 fun b H3=>if b=true then te τ2 H3 fun y H4=>∃ xs,H4 D=some (.lst xs)/\xs.length < sizeLine/\Pv (i+1) τ2 (upd H4 D (.lst (xs++[y]))) else Pv (i+1) τ2 H3)
  (hd:∀ τ H,Pv n τ H->Q H):∃ W:Nat->Nat->St->Hp->Prop,(∃ m,W 0 m τ0 H0)/\∀ i m τ H,W i m τ H->
   (J.stop i H/\Q H)\/(J.go i H/\∃ N:St->Hp->Prop,(∀ τ' H',N τ' H'->∃ m',m' < m/\W (i+1) m' τ' H')/\∀ x H',J.ju i H x H'->g x τ H' fun τ2 H2=>tc τ2 H2 fun b H3=>
    if b=true then te τ2 H3 fun y H4=>∃ xs,H4 D=some (.lst xs)/\xs.length < sizeLine/\N τ2 (upd H4 D (.lst (xs++[y]))) else N τ2 H3):=by
 refine ⟨fun i m τ H=>m=n - i/\i<=n/\Pv i τ H,⟨n,by simp,Nat.zero_le _,h0⟩,?_⟩
 rintro i m τ H ⟨rfl,hi,p⟩
 obtain ⟨k1,k2⟩:=hJ H (hok i τ H hi p)
 by_cases bh:i < n
 ·refine .inr ⟨(k1 i bh).1,Pv (i+1),fun σ' H' p'=>⟨n - (i+1),by omega,rfl,bh,p'⟩,fun x H' y=>?_⟩
  obtain ⟨e,e2⟩:=(k1 i bh).2 x H' y
  subst e e2
  exact hs i τ _ bh p
 ·have e:i=n:=by omega
  subst e
  exact .inl ⟨k2,hd τ H p⟩
theorem dW {J:It} {ok:Hp->Prop} {item:Nat->V} {g:TG} {tb:TS} {D:Ends} (hJ:vc J ok n item) (Pv:Nat->St->Hp->Prop) (h0:Pv 0 σ H) (hok:∀ i τ H,i<=n->Pv i τ H->ok H)
  (hs:∀ i σ H,i < n->Pv i σ H->g (item i) σ H fun σ2 H2=>tb {D with nx:=Pv (i+1),ct:=Pv (i+1),bk:=D.nx} σ2 H2) (hd:∀ σ H,Pv n σ H->D.nx σ H):
  ∃ W:Nat->Nat->St->Hp->Prop,(∃ m,W 0 m σ H)/\∀ i m σ H,W i m σ H->
   (J.stop i H/\D.nx σ H)\/(J.go i H/\∃ N:St->Hp->Prop,(∀ σ' H',N σ' H'->∃ m',m' < m/\W (i+1) m' σ' H')/\∀ x H',J.ju i H x H'->g x σ H' fun σ2 H2=>tb {D with nx:=N,ct:=N,bk:=D.nx} σ2 H2):=by
 refine ⟨fun i m σ H=>m=n - i/\i<=n/\Pv i σ H,⟨n,by simp,Nat.zero_le _,h0⟩,?_⟩
 rintro i m σ H ⟨rfl,hi,p⟩
 obtain ⟨k1,k2⟩:=hJ H (hok i σ H hi p)
 by_cases bh:i < n
 ·refine .inr ⟨(k1 i bh).1,Pv (i+1),fun σ' H' p'=>⟨n - (i+1),by omega,rfl,bh,p'⟩,fun x H' y=>?_⟩
  obtain ⟨e,e2⟩:=(k1 i bh).2 x H' y
  subst e e2
  exact hs i σ _ bh p
 ·have e:i=n:=by omega
  subst e
  exact .inl ⟨k2,hd σ H p⟩
def dc (K:Q0) (mg:Str->Option Value) (x:Str) (st:Stmt) (ps:List Str):Prop:=∃ (f:Addr) (fd:FuncData),yd K x x st f fd/\mg x=some (.ref f)/\Binds K fd ps []
theorem dc.ok {P:Program} {w:World} {K:Q0} {mg:Str->Option Value} {base:Heap} {x:Str} {st:Stmt} {N ps:List Str} {k:Nat} {sp:Sp} (F:dc K mg x st ps) (S:dg N ps (au st)) (len:∀ vs H Q E,sp vs H Q E->vs.length=ps.length)
  (se:∀ (f:Addr) (ak:Value) (A:Around) (outer:List Env) (s:Shared) (H:Hp) (vs:List V) (Q:VK) (E:XK),fh k (A.deeper (envOfC x (au st) s.heap.objs.size f ak))->sp vs H Q E->
   ∃ t,ku (gx uw P w K mg base N x (au st) f ak A outer s H E).qh (jf st) t/\t {nx:=fun _ H'=>Q .af H',rt:=Q} (start N vs) H):av P w K mg base (k+1) x ps sp:=by
 obtain ⟨f,fd,Fu,m,b⟩:=F
 exact ⟨f,fd,Fu.ok S len (se f),m,Fu.kp,b,let ⟨oc,od,_,_,_,_,_,_,g_,_,lk,_⟩:=Fu.ex;⟨oc,od,g_,lk⟩⟩
section
variable {pos:Pos}
theorem OF {v:V} (h:∃ u,X.mg x=some u/\RelV v u) (hg:Gl X x:=by rfl) (hd:(x==("__debug__":Str))=false:=by decide):PE X (.Name x pos) (tC v):=by
 obtain ⟨u,h1,h2⟩:=h
 exact lR hg h1 h2 hd
def FG (K:Q0) (xs:List V):TE:=fun _ H Q=>∀ a,ai K H a xs->Q (.ref a) H
theorem OG {xs:List V} (h:∃ a,X.mg x=some (.ref a)/\∀ H,ai X.K H a xs) (hg:Gl X x:=by rfl) (hd:(x==("__debug__":Str))=false:=by decide):PE X (.Name x pos) (FG X.K xs):=by
 obtain ⟨a,h1,h2⟩:=h
 intro pins s σ H Q I q
 exact lR (v:=.ref a) hg h1 rfl hd pins s σ H Q I (q a (h2 H))
theorem OH:sr X (fun x lo hi H Q=>DK x lo hi H Q\/(DB X.K x lo hi H Q\/Dz X.K x lo hi H Q)):=OA.or (Nn.or Nc)
end
section
variable (K:Q0)
theorem bF (h:X.K=K:=by rfl):Ab X (A9 K):=by rw [<- h];exact Ot
theorem iO (h:X.K=K:=by rfl):br X (compareOp .In) (Cn K false):=by rw [<- h];exact Ou
theorem j8 (h:X.K=K:=by rfl):br X (compareOp .NotIn) (Cn K true):=by rw [<- h];exact y7
theorem aL (h:X.K=K:=by rfl):jd X (.builtin "len") (Co K):=by rw [<- h];exact wQ
theorem cC (hc:X.calm=true) (h:X.K=K:=by rfl):jd X (.builtin "all") (DJ K):=by rw [<- h];exact wT hc
theorem fL (h:X.K=K:=by rfl):uv X "str.join" (rJoin K):=by rw [<- h];exact Ox
theorem i5 (h:X.K=K:=by rfl):sr X (fun x lo hi H Q=>DK x lo hi H Q\/(DB K x lo hi H Q\/Dz K x lo hi H Q)):=by rw [<- h];exact OH
theorem OI {l:Expr} {tl:TE} (hl:PE X l tl) (h:X.K=K:=by rfl):PI X tg l (iD K tl):=by rw [<- h];exact OD hl
theorem OJ {pos:Pos} {xs:List V} (hx:∃ a,X.mg x=some (.ref a)/\∀ H,ai K H a xs) (h:X.K=K:=by rfl) (hg:Gl X x:=by rfl) (hd:(x==("__debug__":Str))=false:=by decide):PE X (.Name x pos) (FG K xs):=by
 subst h;exact OG hx hg hd
theorem OL {k:Nat} {t:r_} {pos:Pos} (hc:X.calm=true) (hh:A3 X es t) (h:X.K=K:=by rfl)
  (hn:(assignEach es X.env).length=n:=by rfl) (ir:(assignEach es X.env).findIdx? (·.1)=none:=by rfl):PG X (.Tuple es k pos) (BU K n t):=by
 subst h;exact Mv hc hh hn ir
theorem OM {id:String} {r:V->List V->Hp->VK->Prop} {o:Expr} (pa:PlainAttrs T) (slot:Slot T name id) (B7:typeOf (.builtin id)=pure (.type "method_descriptor")) (hm:uv X id r) (ho:PE X o to) (ha:PA X (e::es) t) (h:X.K=K:=by rfl)
  (B8:attributeBase o name X.env (eval o X.env)=eval o X.env:=by rfl)
  (B9:((backTo cpos (starEach (e::es) X.env)).all (fun x=> !x.1)&&(backToKw cpos (keywordEach [] X.env)).all (fun x=>x.1.isSome)
   &&decide ((e::es).length+([]:List Keyword).length+(if ([]:List Keyword).isEmpty then 0 else 1) < 30))=true:=by rfl)
  (B_:(apos.endLine==cpos.line)=true:=by rfl) (hs:starEach (e::es) X.env=(false,eval e X.env)::starEach es X.env:=by rfl) (Ca:(backTo cpos (starEach es X.env)).any (·.1)=false:=by rfl):
  PE X (.Call (.Attribute o name apos) (e::es) [] cpos) (Fo K T r to t):=by
 subst h;exact Nq pa slot B7 hm ho ha B8 B9 B_ hs Ca
end
structure SE (X:Cx) (e:Expr) (t:TE):Prop where
 h:PE X e t
structure ST (X:Cx) (e:Expr) (t:TT):Prop where
 h:PT X e t
structure SW (X:Cx) (e:Expr) (t:TT):Prop where
 h:PW X e t
structure SA (X:Cx) (es:List Expr) (t:TA):Prop where
 h:PA X es t
structure SS (X:Cx) (s:Stmt) (t:TS):Prop where
 h:PS X s t
structure SB (X:Cx) (s:List Stmt) (t:TS):Prop where
 h:ku X s t
structure SG (X:Cx) (e:Expr) (t:TG):Prop where
 h:PG X e t
structure DM (X:Cx) (e:List Expr) (t:r_):Prop where
 h:A3 X e t
structure SI (X:Cx) (tg e:Expr) (t:TI):Prop where
 h:PI X tg e t
structure SC (X:Cx) (e:List Expr) (t:TC):Prop where
 h:uy X e t
structure SO (X:Cx) (e:Option Expr) (t:TO):Prop where
 h:PO X e t
structure DN (X:Cx) (pos:Pos) (keys:List (Option Expr)) (values:List Expr) (mj:List (TE×TE)):Prop where
 h:Cd X pos keys values mj
section
variable {c:Const} {gz:Pos} {n:Str} {yh:List Expr} {f0 a0 b0 c0:Expr} {IA:List Keyword} {o0:Operator} {V_:List (Option Expr)} {IB:List Comprehension} {IC:Scope} {u0:UnaryOp} {Wa:BoolOp} {ID:List CmpOp}
theorem aB:SA X [] ky:=⟨M0⟩
theorem aC (ha:SE X (.Constant c j gz) te) (hr:SA X es t):SA X (.Constant c j gz::es) (fu te t):=⟨dM ha.h hr.h⟩
theorem aD (ha:SE X (.Name n gz) te) (hr:SA X es t):SA X (.Name n gz::es) (fu te t):=⟨dM ha.h hr.h⟩
theorem ON (ha:SE X (.List yh gz) te) (hr:SA X es t):SA X (.List yh gz::es) (fu te t):=⟨dM ha.h hr.h⟩
theorem nF (ha:SE X (.Tuple yh j gz) te) (hr:SA X es t):SA X (.Tuple yh j gz::es) (fu te t):=⟨dM ha.h hr.h⟩
theorem aV (ha:SE X (.Call f0 yh IA gz) te) (hr:SA X es t):SA X (.Call f0 yh IA gz::es) (fu te t):=⟨dM ha.h hr.h⟩
theorem dI (ha:SE X (.BinOp a0 o0 b0 gz) te) (hr:SA X es t):SA X (.BinOp a0 o0 b0 gz::es) (fu te t):=⟨dM ha.h hr.h⟩
theorem aJ (ha:SE X (.Subscript a0 b0 gz) te) (hr:SA X es t):SA X (.Subscript a0 b0 gz::es) (fu te t):=⟨dM ha.h hr.h⟩
theorem aY (ha:SE X (.ListComp a0 IB IC gz) te) (hr:SA X es t):SA X (.ListComp a0 IB IC gz::es) (fu te t):=⟨dM ha.h hr.h⟩
theorem uX (ha:SE X (.UnaryOp u0 a0 gz) te) (hr:SA X es t):SA X (.UnaryOp u0 a0 gz::es) (fu te t):=⟨dM ha.h hr.h⟩
theorem hX (ha:SE X (.Compare a0 ID yh gz) te) (hr:SA X es t):SA X (.Compare a0 ID yh gz::es) (fu te t):=⟨dM ha.h hr.h⟩
end
section
variable {a b c o i value lo hi iter elt:Expr} {ta tb tc td ty tv:TE} {pos p p2 pos' gz:Pos}
theorem zv (i:Nat) {pos:Pos} (hN:X.N[i]? =some x:=by rfl) (hv:BR X.env.scope x:=by first | exact Or.inl rfl | exact Or.inr (Or.inl rfl) | exact Or.inr (Or.inr rfl)) (hd:(x==("__debug__":Str))=false:=by decide) (jr:(x==("__classdict__":Str))=false:=by decide):SE X (.Name x pos) (tV i):=⟨Oe i hN hv hd jr⟩
theorem lL {v:V} (h:∃ u,X.mg x=some u/\RelV v u) (hg:Gl X x:=by rfl) (hd:(x==("__debug__":Str))=false:=by decide):SE X (.Name x pos) (tC v):=⟨OF h hg hd⟩
theorem wE (K:Q0) {xs:List V} (hx:∃ a,X.mg x=some (.ref a)/\∀ H,ai K H a xs) (h:X.K=K:=by rfl) (hg:Gl X x:=by rfl) (hd:(x==("__debug__":Str))=false:=by decide):SE X (.Name x pos) (FG K xs):=⟨OJ K hx h hg hd⟩
theorem cP {v:V} (hg:Gl X x) (hm:X.mg x=none) (hv:bootBuiltins x=some u) (r:RelV v u) (hn:x≠"__name__":=by decide) (hd:(x==("__debug__":Str))=false:=by decide):SE X (.Name x pos) (tC v):=⟨L8 hg hm hv r hn hd⟩
theorem n4 {j}:SE X (.Constant .none j pos) (tC .af):=⟨L6⟩
theorem eR {b:Bool} {j}:SE X (.Constant (.bool b) j pos) (tC (.bl b)):=⟨L5⟩
theorem aF {i:Int} {j}:SE X (.Constant (.int i) j pos) (tC (.int i)):=⟨L4⟩
theorem aK {j}:SE X (.Constant (.str x) j pos) (tC (.str x)):=⟨L7⟩
theorem bQ {op:Operator} {r:R2} (ho:br X (binaryOp op) r) (ha:SE X a ta) (hb:SE X b tb):SE X (.BinOp a op b pos) (j_ r ta tb):=⟨MA ho ha.h hb.h⟩
theorem OO {op:UnaryOp} {r:V->Hp->VK->Prop} (ho:Ds X (unaryOp op) r) (ha:SE X a ta):SE X (.UnaryOp op a pos) (HS r ta):=⟨MB ho ha.h⟩
theorem zL (ha:SE X a ta):SE X (.UnaryOp .Not a pos) (HJ ta):=⟨Mk ha.h⟩
theorem gF {op} (h:SE X a ta):SE X (.BoolOp op [a] pos) ta:=⟨Mh h.h⟩
theorem eG (ha:SE X a ta) (hb:SE X (.BoolOp .And (b::rest) pos) tb):SE X (.BoolOp .And (a::b::rest) pos) (A2 ta tb):=⟨Mi ha.h hb.h⟩
theorem OP (ha:SE X a ta) (hb:SE X (.BoolOp .Or (b::rest) pos) tb):SE X (.BoolOp .Or (a::b::rest) pos) (HH ta tb):=⟨Mj ha.h hb.h⟩
theorem bX {r:R2} (ho:br X (compareOp op) r) (ha:SE X a ta) (hb:SE X b tb) (hm:behindInMarks op b=false):SE X (.Compare a [op] [b] pos) (j_ r ta tb):=⟨MU ho ha.h hb.h hm⟩
theorem aP {r:R2} (ho:br X (compareOp op) r) (ha:SE X a ta) (hb:SE X b tb) (hm:behindInMarks op b=false):ST X (.Compare a [op] [b] pos) (B0 (j_ r ta tb)):=⟨MV ho ha.h hb.h hm⟩
theorem vH {zy:CmpOp} {r r':R2} (ho:br X (compareOp op) r) (kr:br X (compareOp zy) r') (ha:SE X a ta) (hb:SE X b tb) (hc:SE X c tc) (hm:lastMarks [op,zy] [b,c]=false:=by with_unfolding_all rfl):ST X (.Compare a [op,zy] [b,c] pos) (B0 (HX r r' ta tb tc)):=⟨zI ho kr ha.h hb.h hc.h hm⟩
theorem cE (h:SE X e te) (he:∀ whole,isTrue e X.env whole=(do let v <- whole;standAt e.pos;holding [v] (truthy v)):=by intro _;rfl):ST X e (tB te):=⟨Ma h.h he⟩
theorem cS (ha:ST X a tA):ST X (.UnaryOp .Not a pos) (HF tA):=⟨Mg ha.h⟩
theorem lZ (ha:ST X a tA):SW X (.BoolOp .And [a] pos) tA:=⟨Mb ha.h⟩
theorem eC (ha:ST X a tA):SW X (.BoolOp .Or [a] pos) tA:=⟨Mc ha.h⟩
theorem lG {uh:TT} (ha:ST X a tA) (hb:SW X (.BoolOp .And (b::rest) pos) uh):SW X (.BoolOp .And (a::b::rest) pos) (HE tA uh):=⟨Me ha.h hb.h⟩
theorem eZ {uh:TT} (ha:ST X a tA) (hb:SW X (.BoolOp .Or (b::rest) pos) uh):SW X (.BoolOp .Or (a::b::rest) pos) (E6 tA uh):=⟨Mf ha.h hb.h⟩
theorem SW.pt {tA:TT} (h:SW X e tA):ST X e tA:=⟨h.h.pt⟩
theorem cL (h:SA X es t):SE X (.List es pos) (H_ t):=⟨M3 h.h⟩
theorem d5 {x1} (h:SA X es t):SE X (.Tuple es x1 pos) (B4 t):=⟨M1 h.h⟩
theorem OQ:DN X pos [] [] []:=⟨NG⟩
theorem qF {ks:List (Option Expr)} {vs:List Expr} {tk tw:TE} (hk:SE X a tk) (hv:SE X b tw) (hr:DN X pos ks vs mj):DN X pos (some a::ks) (b::vs) ((tk,tw)::mj):=⟨zE hk.h hv.h hr.h⟩
theorem OR {keys:List (Option Expr)} {values:List Expr} (h:DN X pos keys values mj) (hall:keys.all (·.isSome)=true) (hl:keys.length=values.length) (h0:keys≠[]) (Ft:keys.length<=15):SE X (.Dict keys values pos) (Iq mj):=⟨NH h.h hall hl h0 Ft⟩
theorem kK (hc:ST X c tA) (ha:SE X a ta) (hb:SE X b tb):SE X (.IfExp c a b pos) (HK tA ta tb):=⟨yO hc.h ha.h hb.h⟩
theorem cF:SO X none Fj:=⟨M_⟩
theorem bU (h:SE X e te):SO X (some e) (Fk te):=⟨Na h.h⟩
theorem bZ {r:V->Option Int->Option Int->Hp->VK->Prop} {l u:Option Expr} {tl th:TO} (hr:sr X r) (he:SE X e te) (hl:SO X l tl) (hu:SO X u th):SE X (.Subscript e (.Slice l u none p2) pos) (Fl r te tl th):=⟨Nb hr he.h hl.h hu.h⟩
theorem d9 (hu:X.A.units+1 < cLine) (ho:SE X o td) (hi:SE X i ty) (hs:DE i):SE X (.Subscript o i pos) (Io td ty):=⟨ND hu ho.h hi.h hs⟩
theorem bE {r:R2} (hr:Ab X r) (ha:SE X a ta) (hb:SE X b tb) (hs:Ih b):SE X (.Subscript a b pos) (j_ r ta tb):=⟨Nd hr ha.h hb.h hs⟩
theorem bJ {k:Nat} {sp:Sp} (F:av X.prog X.w X.K X.mg X.base k x ps sp) (hr:fh k X.A) (ha:SA X (e::es) t) (hg:Gl X x:=by rfl) (d_:(x==("__debug__":Str))=false:=by decide)
  (he:starEach (e::es) X.env=(false,eval e X.env)::starEach es X.env:=by rfl) (hpl:(backTo pos (starEach es X.env)).any (·.1)=false:=by rfl):
  SE X (.Call (.Name x p) (e::es) [] pos) (z_ sp [] E0 t):=⟨OB F hr ha.h hg d_ he hpl⟩
theorem aG {id:String} {r:List V->Hp->VK->Prop} (hc:jd X (.builtin id) r) (hg:Gl X x) (hm:X.mg x=none) (hv:bootBuiltins x=some (.builtin id)) (ha:SA X (e::es) t) (hn:x≠"__name__":=by decide) (d_:(x==("__debug__":Str))=false:=by decide)
  (he:starEach (e::es) X.env=(false,eval e X.env)::starEach es X.env:=by rfl) (hpl:(backTo pos (starEach es X.env)).any (·.1)=false:=by rfl):SE X (.Call (.Name x p) (e::es) [] pos) (sj r t):=⟨zN hc hg hm hv ha.h hn d_ he hpl⟩
theorem f7 (K:Q0) {id:String} {r:V->List V->Hp->VK->Prop} (pa:PlainAttrs T) (slot:Slot T name id) (B7:typeOf (.builtin id)=pure (.type "method_descriptor")) (hm:uv X id r) (ho:SE X o to) (ha:SA X (e::es) t) (h:X.K=K:=by rfl)
  (B8:attributeBase o name X.env (eval o X.env)=eval o X.env:=by rfl)
  (B9:((backTo cpos (starEach (e::es) X.env)).all (fun x=> !x.1)&&(backToKw cpos (keywordEach [] X.env)).all (fun x=>x.1.isSome)
   &&decide ((e::es).length+([]:List Keyword).length+(if ([]:List Keyword).isEmpty then 0 else 1) < 30))=true:=by rfl)
  (B_:(apos.endLine==cpos.line)=true:=by rfl) (hs:starEach (e::es) X.env=(false,eval e X.env)::starEach es X.env:=by rfl) (Ca:(backTo cpos (starEach es X.env)).any (·.1)=false:=by rfl):
  SE X (.Call (.Attribute o name apos) (e::es) [] cpos) (Fo K T r to t):=⟨OM K pa slot B7 hm ho.h ha.h h B8 B9 B_ hs Ca⟩
theorem aU:SB X [] Dm:=⟨Mm⟩
theorem aI {st:Stmt} {u:TS} (h1:SS X st u):SB X [st] u:=⟨Mp h1.h⟩
theorem aE {st:Stmt} {rest:List Stmt} {u v:TS} (h1:SS X st u) (h2:SB X rest v):SB X (st::rest) (uo u v):=⟨Mn h1.h h2.h⟩
theorem aT (he:SE X e te):SS X (.Return (some e) pos) (zq te):=⟨Mr he.h⟩
theorem eU (he:SE X e te) (hs:swapsWith e none pos.line X.env=pure false:=by rfl):SS X (.Expr e pos) (HL te):=⟨Mq he.h hs⟩
theorem bP {a b:List Stmt} {u v:TS} (hc:ST X c tA) (ha:SB X a u) (hb:SB X b v):SS X (.If c a b pos) (HM tA u v):=⟨Ms hc.h ha.h hb.h⟩
theorem fN {body:List Stmt} {wi:TI} {g:TG} {u:TS} (hp:PassesOwn (model X.prog X.w) X.A X.env X.xe) (hc:X.calm=true) (hi:SI X tg iter wi) (hg:SG X tg g) (hb:SB X body u) (hs:∀ x,foldedSetIterable iter X.env x=pure x:=by intro _;rfl):SS X (.For tg iter body [] pos) (HQ wi g u):=⟨Mz hp hc hi.h hg.h hb.h hs⟩
theorem aX {i:Nat} (hN:X.N.Nodup) (hi:X.N[i]? =some x) (hx:Loc X.env.scope x) (he:SE X e te) (hs:swapsWith e (some (.Name x pos')) pos.line X.env=pure false:=by rfl) (hf:X.fn x=true\/X.env.scope.names.lookup x=some .local:=by first | exact .inl rfl | exact .inr rfl | assumption):
  SS X (.Assign [.Name x pos'] e pos) (uq te (jt i)):=⟨My hN hi hx he.h hs hf⟩
theorem OS (hu:X.A.units+1 < cLine) (ho:SE X o td) (hi:SE X i ty) (hv:SE X value tv) (hs:swapsWith value (some (.Subscript o i pos')) pos.line X.env=pure false):SS X (.Assign [.Subscript o i pos'] value pos) (Ip td ty tv):=⟨NE hu ho.h hi.h hv.h hs⟩
theorem vR {g:TG} (he:SE X e te) (hg:SG X tg g) (hs:swapsWithSole [tg] e pos.line X.env=pure false:=by rfl) (hw:swappedStores [tg] e X.env=pure none:=by rfl)
  (h1:(assignEach [tg] X.env).map (·.2)=[assign tg X.env]:=by rfl):SS X (.Assign [tg] e pos) (uq te g):=⟨Mx he.h hg.h hs hw h1⟩
theorem aS {i:Nat} (hN:X.N.Nodup) (hi:X.N[i]? =some x) (hx:Loc X.env.scope x) (hf:X.fn x=true\/X.env.scope.names.lookup x=some .local:=by first | exact .inl rfl | exact .inr rfl | assumption):SG X (.Name x pos) (jt i):=⟨Mt hN hi hx hf⟩
theorem iC:DM X [] E8:=⟨Mu⟩
theorem cG {g:TG} {u:r_} (h1:SG X e g) (h2:DM X es u) (hs:(assignEach (e::es) X.env).map (·.2)=assign e X.env::(assignEach es X.env).map (·.2):=by rfl):DM X (e::es) (Dp g u):=⟨yK h1.h h2.h hs⟩
theorem k9 (K:Q0) {k:Nat} {u:r_} (hc:X.calm=true) (hh:DM X es u) (h:X.K=K:=by rfl)
  (hn:(assignEach es X.env).length=n:=by rfl) (ir:(assignEach es X.env).findIdx? (·.1)=none:=by rfl):SG X (.Tuple es k pos) (BU K n u):=⟨OL K hc hh.h h hn ir⟩
theorem IE {u:Dn} (ho:SE X o td) (hi:SE X i ty) (hs:E7 X u)
  (ha:∀ v,assign (.Subscript o i pos) X.env v=(do
   let ov <- holding [v] (eval o X.env)
   let iv <- holding [v,ov] (eval i X.env)
   standAt pos
   holding [v,ov,iv] (setItem ov iv v)
   release [v,ov,iv] []):=by intro _;rfl):SG X (.Subscript o i pos) (HN td ty u):=⟨Mw ho.h hi.h hs ha⟩
theorem e8 (hg:Gl X "range") (hm:X.mg "range"=none) (ha:SA X [a] t) (hs:starEach [a] X.env=[(false,eval a X.env)]:=by rfl):SI X tg (.Call (.Name "range" p) [a] [] pos) (HP t):=⟨yF hg hm ha.h hs⟩
theorem lQ (K:Q0) (hl:SE X e te) (h:X.K=K:=by rfl):SI X tg e (iD K te):=⟨OI K hl.h h⟩
theorem dF:SC X [] Cj:=⟨NU⟩
theorem FH (h:ST X c tA):SC X [c] tA:=⟨NV h.h⟩
theorem fV {wi:TI} {g:TG} {tt:TC} (S:ow X.env.scope X.N sc own idx N') (hc:X.calm=true) (hi:SI X tg iter wi)
  (hg:∀ cl C s3 H0 fp pn,SG (fb X N' sc cl C s3 H0 fp pn) tg g) (ht:∀ cl C s3 H0 fp pn,SC (fb X N' sc cl C s3 H0 fp pn) ifs tt) (he:∀ cl C s3 H0 fp pn,SE (fb X N' sc cl C s3 H0 fp pn) elt te)
  (hs:∀ x,foldedSetIterable iter X.env x=pure x:=by intro _;rfl):SE X (.ListComp elt [⟨tg,iter,ifs,0⟩] sc pos) (Ck own idx wi g tt te):=
 ⟨Oa S hc hi.h (fun q r s t u v=>(hg q r s t u v).h) (fun q r s t u v=>(ht q r s t u v).h) (fun q r s t u v=>(he q r s t u v).h) hs⟩
theorem IF {wi:TI} {g:TG} {tt:TC} {i:Nat} {py spos:Pos} (S:ow X.env.scope X.N sc own idx N') (hc:X.calm=true) (hi:SI X tg iter wi)
  (hg:∀ cl C s3 H0 fp pn,SG (fb X N' sc cl C s3 H0 fp pn) tg g) (ht:∀ cl C s3 H0 fp pn,SC (fb X N' sc cl C s3 H0 fp pn) ifs tt) (he:∀ cl C s3 H0 fp pn,SE (fb X N' sc cl C s3 H0 fp pn) elt te)
  (hN:X.N.Nodup) (Fz:X.N[i]? =some y) (hy:X.env.scope.names.lookup y=some .local)
  (uz:swapsWith (.ListComp elt [⟨tg,iter,ifs,0⟩] sc pos) (some (.Name y py)) spos.line X.env=pure true:=by rfl)
  (hs:∀ x,foldedSetIterable iter X.env x=pure x:=by intro _;rfl):SS X (.Assign [.Name y py] (.ListComp elt [⟨tg,iter,ifs,0⟩] sc pos) spos) (uq (Ck own idx wi g tt te) (jt i)):=
 ⟨Ob S hc hi.h (fun q r s t u v=>(hg q r s t u v).h) (fun q r s t u v=>(ht q r s t u v).h) (fun q r s t u v=>(he q r s t u v).h) hN Fz hy uz hs⟩
end
theorem dc.fj {K:Q0} {st:Stmt} {k:Nat} {sp:Sp} (F:dc K mg x st ps) (S:dg N ps (au st)) (len:∀ vs H Q E,sp vs H Q E->vs.length=ps.length)
  (se:∀ (f:Addr) (ak:Value) (A:Around) (outer:List Env) (s:Shared) (H:Hp) (vs:List V) (Q:VK) (E:XK),fh k (A.deeper (envOfC x (au st) s.heap.objs.size f ak))->sp vs H Q E->
   ∃ t,SB (gx uw P w K mg base N x (au st) f ak A outer s H E).qh (jf st) t/\t {nx:=fun _ H'=>Q .af H',rt:=Q} (start N vs) H):av P w K mg base (k+1) x ps sp:=
 F.ok S len fun f ak A outer s H vs Q E hr h=>let ⟨t,h1,h2⟩:=se f ak A outer s H vs Q E hr h;⟨t,h1.h,h2⟩
theorem OT {kx vx target iter:Expr} {pos:Pos} {it:Value} {D:Addr} (I:Nat->Shared->Prop)
  (turn:∀ n s,I n s->wpAny (model prog w) A (pyNext it) (fun r s₁=>match r with
   | none=>R (.ok .next) s₁
   | some v=>wpAny (model prog w) A (letOwnedTupleGo target it v) (fun _ Ad=>wpAny (model prog w) A (assign target env v) (fun _ s₂=>
     wpAny (model prog w) A (forIn ifs true fun c r=>if r=true then do let ok <- isTrue c env (eval c env);pure (ForInStep.yield ok) else pure (ForInStep.yield r)) (fun ok s₃=>
      if ok=true then wpAny (model prog w) A (eval kx env) (fun kv s₄=>wpAny (model prog w) A (eval vx env) (fun vv s₅=>
       wpAny (model prog w) A (dictSet D kv vv) (fun _ s₆=>∃ m,m < n/\I m s₆) gy s₅) gy s₄) gy s₃
      else ∃ m,m < n/\I m s₃) gy s₂) gy Ad) gy s₁) gy s)
  (n:Nat) (h:I n s):
  codeAny (model prog w) A (.compLoop (.DictComp kx vx [⟨target,iter,ifs,0⟩] scope pos) 0 it (.ref D) env) R s:=by
 refine codeAny_loop rfl I (fun n s hI=>?_) n h
 show wpAny _ A ((compTurn (.DictComp kx vx [⟨target,iter,ifs,0⟩] scope pos) 0 it (.ref D) env).onRaise (fun x=>do noteFrame x env;theTreesLotGoes x)) _ _ s
 refine wpAny_noted ?_
 rw [compTurn_dict]
 refine QT (wpAny_standAt (QT (wpAny_mono (turn n s hI) (fun r s₁ h₁=>?_) fun _ _ h'=>h'.elim)))
 cases r with
 | none=>exact QU h₁
 | some v=>
  refine QT (wpAny_mono h₁ (fun _ Ad Fx=>?_) fun _ _ h'=>h'.elim)
  refine QT (wpAny_mono Fx (fun _ s₂ h₂=>QT (wpAny_mono h₂ (fun ok s₃ h₃=>?_) fun _ _ h'=>h'.elim)) fun _ _ h'=>h'.elim)
  cases ok with
  | false=>exact QU ⟨rfl,h₃⟩
  | true=>
   exact QT (QT (wpAny_mono h₃ (fun kv s₄ h₄=>QT (wpAny_holding (wpAny_mono h₄ (fun vv s₅ h₅=>QT (wpAny_standAt (wpAny_holding (wpAny_mono h₅ (fun _ s₆ h₆=>QU ⟨rfl,h₆⟩) fun _ _ h'=>h'.elim)))) fun _ _ h'=>h'.elim))) fun _ _ h'=>h'.elim))
section
variable {iter kx vx:Expr} {pos:Pos} {wi:TI} {g:TG} {tc:TC} {tk tw:TE}
abbrev OU:Obj:={cls:=.type "dict",data:=.dict #[]}
def IG (own:List Str) (idx:List Nat) (wi:TI) (g:TG) (tc:TC) (tk tw:TE):TE:=fun σ H Q=>wi σ H fun J H1=>∀ D,H1 D=none->∃ W:Nat->Nat->St->Hp->Prop,(∃ m,W 0 m (ux own idx σ) (upd H1 D (.dK [])))/\∀ i m τ H,W i m τ H->
 (J.stop i H/\Q (.ref D) H)\/(J.go i H/\∃ N:St->Hp->Prop,(∀ τ' H',N τ' H'->∃ m',m' < m/\W (i+1) m' τ' H')/\∀ x H',J.ju i H x H'->g x τ H' fun τ2 H2=>tc τ2 H2 fun b H3=>
  if b=true then tk τ2 H3 fun x H4=>tw τ2 H4 fun y H5=>∃ kvs key,x=kV key/\H5 D=some (.dK kvs)/\kvs.length < sizeLine/\N τ2 (upd H5 D (.dK (putK kvs key y))) else N τ2 H3)
theorem sK (S:ow X.env.scope X.N sc own idx N') (c1:∀ x c,cl.lookup x=some c->X.env.cells.lookup x=some c) (c2:∀ y∈sc.names,y.2=.free->∃ c,cl.lookup y.1=some c) (hc:X.calm=true)
  (hg:∀ cl C s3 H0 fp pn,PG (fb X N' sc cl C s3 H0 fp pn) tg g) (ht:∀ cl C s3 H0 fp pn,uy (fb X N' sc cl C s3 H0 fp pn) ifs tc) (he:∀ cl C s3 H0 fp pn,PE (fb X N' sc cl C s3 H0 fp pn) kx tk) (hv:∀ cl C s3 H0 fp pn,PE (fb X N' sc cl C s3 H0 fp pn) vx tw)
  {pins:List (Addr×Obj)} {σ:St} {Q:VK} {mr:Value} {s2:Shared} {RR:Value->Addr->Result->Shared->Prop} {E:Value->Shared->Prop}
  (hI:A4 X pins σ tg (fun J H1=>∀ D,H1 D=none->∃ W:Nat->Nat->St->Hp->Prop,(∃ m,W 0 m (ux own idx σ) (upd H1 D (.dK [])))/\∀ i m τ H,W i m τ H->
   (J.stop i H/\Q (.ref D) H)\/(J.go i H/\∃ N:St->Hp->Prop,(∀ τ' H',N τ' H'->∃ m',m' < m/\W (i+1) m' τ' H')/\∀ x H',J.ju i H x H'->g x τ H' fun τ2 H2=>tc τ2 H2 fun b H3=>
    if b=true then tk τ2 H3 fun x H4=>tw τ2 H4 fun y H5=>∃ kvs key,x=kV key/\H5 D=some (.dK kvs)/\kvs.length < sizeLine/\N τ2 (upd H5 D (.dK (putK kvs key y))) else N τ2 H3)) mr s2)
  (Cm:∀ D C H' s',Inv X pins σ H' s'->Q (.ref D) H'->(H' C=none/\C≠X.env.locals/\X.s₀.heap.objs.size<=C/\(∀ x c,X.env.cells.lookup x=some c->c≠C)/\(∀ p∈X.pn++pins,p.1≠C)/\∃ m,s'.heap.Ns C m)->RR (.ref D) C (.ok .next) s'):
  wpAny (model X.prog X.w) X.A newDict (fun acc s₃=>wpAny (model X.prog X.w) X.A (newFunctionEnv sc X.env.globals cl [] X.env.qual none .none (some X.env)) (fun cenv s₄=>
   codeAny (model X.prog X.w) X.A (.compStart (.DictComp kx vx [⟨tg,iter,ifs,0⟩] sc pos) 0 mr acc {cenv with scope:=relabel sc X.env}) (RR acc cenv.locals) s₄) E s₃) E s2:=by
 refine rB (ob:=OU) (sel:=fun env D s K=>wpAny (model X.prog X.w) X.A (eval kx env) (fun kv s₄=>wpAny (model X.prog X.w) X.A (eval vx env) (fun vv s₅=>wpAny (model X.prog X.w) X.A (dictSet D kv vv) (fun _ s₆=>K s₆) gy s₅) gy s₄) gy s) (o0:=.dK []) (el:=fun D τ H K=>tk τ H fun x H4=>tw τ H4 fun y H5=>∃ kvs key,x=kV key/\H5 D=some (.dK kvs)/\kvs.length < sizeLine/\K (upd H5 D (.dK (putK kvs key y)))) S c1 c2 hc (hob:=rfl)
  (fun it D env R s I turn n h=>OT I turn n h) (fun h k=>aj h fun _ _ h=>aj h fun _ _ h=>aj h fun _ _ h=>k _ h) (fun _ _ _ _ _=>codeAny_compStart_dict) hg ht (fun cl C s3 H0 fp pn pins s τ H D N I q=>?_) (fun Q E h=>wpAny_newObj_type h)
  (fun H' I H h e=>⟨Nat.zero_le _,beq_eq_false_iff_ne.mpr (Ne.symm (Nat.ne_of_lt I.big)),[],.nil,(Heap.DictOf.new s2.heap).at fun o eo=>by rw [Qd _ rfl] at eo;cases eo;exact e⟩) hI Cm
 refine aj (he cl C s3 H0 fp pn _ s τ H _ I q) fun kv s8 ⟨x8,H8,I8,r8,q8⟩=>aj (hv cl C s3 H0 fp pn _ s8 τ H8 _ I8 q8) fun yv s9 ⟨y9,H9,I9,r9,kvs,key,ek,II,hz,n9⟩=>?_
 subst ek
 obtain ⟨z,hd,vs,rel,dd⟩:=o8 I9.hok II
 have Cq:vs.length<=sizeLine:=by rw [<- rel.length];exact z
 have fq:(putK kvs key y9).length<=sizeLine:=by have:=dU kvs key y9;omega
 refine wpAny_dictSet_pairs (hsz:=Cq) (k8 r8) dd fun h' lg hs=>?_
 have FI:∃ q,h'.get? D=some q:=let ⟨q,_,_,hq,_⟩:=lg;⟨q,hq⟩
 exact ⟨_,jV (t':=s9.toks+1) (ob:=.dK (putK kvs key y9)) I9 (by rw [II];exact True.intro) hs FI (pA fq hd (rel.put key r9) lg),n9⟩
theorem OV (S:ow X.env.scope X.N sc own idx N') (hc:X.calm=true) (hi:PI X tg iter wi)
  (hg:∀ cl C s3 H0 fp pn,PG (fb X N' sc cl C s3 H0 fp pn) tg g) (ht:∀ cl C s3 H0 fp pn,uy (fb X N' sc cl C s3 H0 fp pn) ifs tc) (he:∀ cl C s3 H0 fp pn,PE (fb X N' sc cl C s3 H0 fp pn) kx tk) (hv:∀ cl C s3 H0 fp pn,PE (fb X N' sc cl C s3 H0 fp pn) vx tw)
  (hs:∀ x,foldedSetIterable iter X.env x=pure x:=by intro _;rfl):PE X (.DictComp kx vx [⟨tg,iter,ifs,0⟩] sc pos) (IG own idx wi g tc tk tw):=by
 intro pins s σ H Q I h
 obtain ⟨cl,nj,c1,c2⟩:=S.closure I.ok
 show wpAny _ X.A (comprehension (.DictComp kx vx [⟨tg,iter,ifs,0⟩] sc pos) sc X.env _ newDict false (eval iter X.env)) _ _ s
 refine wpAny_comprehension_free (use:=none) rfl hs nj S.kind S.names (aj (hi pins s σ H _ I h) fun v s1 h1=>aj h1 fun mr s2 h2=>?_)
 refine sK (Q:=Q) (pins:=pins) (σ:=σ) (RR:=fun acc C=>compPost (model X.prog X.w) X.A X.xe none (EP X pins σ Q) acc C) S c1 c2 hc hg ht he hv h2 ?_
 intro D C H' s' I' q ⟨a1,a2,a3,a4,a5,m,a6⟩
 exact ⟨m,a6,fun h' sb=>⟨.ref D,H',I'.turned (t':=s'.toks) (fun b o hb e=>(sb.2 b hb).trans e) a1 (Ne.symm (Ne.symm a2)) (.inr a3) a4 a5,rfl,q⟩⟩
theorem OW (S:ow X.env.scope X.N sc own idx N') (hc:X.calm=true) (hi:SI X tg iter wi)
  (hg:∀ cl C s3 H0 fp pn,SG (fb X N' sc cl C s3 H0 fp pn) tg g) (ht:∀ cl C s3 H0 fp pn,SC (fb X N' sc cl C s3 H0 fp pn) ifs tc) (he:∀ cl C s3 H0 fp pn,SE (fb X N' sc cl C s3 H0 fp pn) kx tk) (hv:∀ cl C s3 H0 fp pn,SE (fb X N' sc cl C s3 H0 fp pn) vx tw)
  (hs:∀ x,foldedSetIterable iter X.env x=pure x:=by intro _;rfl):SE X (.DictComp kx vx [⟨tg,iter,ifs,0⟩] sc pos) (IG own idx wi g tc tk tw):=
 ⟨OV S hc hi.h (fun q r s t u v=>(hg q r s t u v).h) (fun q r s t u v=>(ht q r s t u v).h) (fun q r s t u v=>(he q r s t u v).h) (fun q r s t u v=>(hv q r s t u v).h) hs⟩
end
theorem aa.upd {H:Hp} {a:Addr} (h:H a=none) (o:HO):aa H (upd H a o):=fun b u q=>by rw [aH (aN q h)];exact q
theorem vP {J:It} {ok:Hp->Prop} {item:Nat->V} {tc:TC} {τ0:St} {H1:Hp} {D:Addr} {Q:Hp->Prop} (hJ:vc J ok n item) (p:Nat->Bool) (f:Nat->V) (hn:n < sizeLine)
  (hok:∀ ys,ok (upd H1 D (.lst ys)))
  (ht:∀ i,i < n->∀ ys k,k (p i) (upd H1 D (.lst ys))->tc (τ0.set 0 (some (item i))) (upd H1 D (.lst ys)) k)
  (he:∀ i,i < n->p i=true->∀ ys k,k (f i) (upd H1 D (.lst ys))->te (τ0.set 0 (some (item i))) (upd H1 D (.lst ys)) k)
  (hQ:Q (upd H1 D (.lst (((List.range n).filter p).map f)))):∃ W:Nat->Nat->St->Hp->Prop,(∃ m,W 0 m τ0 (upd H1 D (.lst [])))/\∀ i m τ H,W i m τ H->
   (J.stop i H/\Q H)\/(J.go i H/\∃ N:St->Hp->Prop,(∀ τ' H',N τ' H'->∃ m',m' < m/\W (i+1) m' τ' H')/\∀ x H',J.ju i H x H'->jt 0 x τ H' fun τ2 H2=>tc τ2 H2 fun b H3=>
    if b=true then te τ2 H3 fun y H4=>∃ xs,H4 D=some (.lst xs)/\xs.length < sizeLine/\N τ2 (upd H4 D (.lst (xs++[y]))) else N τ2 H3):=by
 refine gO hJ (fun i τ H=>H=upd H1 D (.lst (((List.range i).filter p).map f))/\∃ v,τ=τ0.set 0 v\/τ=τ0) ⟨rfl,none,.inr rfl⟩ (fun i τ H hi h=>by rw [h.1];exact hok _) ?_ ?_
 ·rintro i τ H hi ⟨rfl,v,hv⟩
  show tc (τ.set 0 (some (item i))) _ _
  have e:τ.set 0 (some (item i))=τ0.set 0 (some (item i)):=by
   rcases hv with rfl | rfl
   ·rw [List.set_set]
   ·rfl
  rw [e]
  refine ht i hi _ _ ?_
  have hr:List.range (i+1)=List.range i++[i]:=List.range_succ
  cases hp:p i with
  | true=>
   rw [if_pos rfl]
   refine he i hi hp _ _ ⟨_,aA,?_,?_,some (item i),.inl rfl⟩
   ·rw [Ql]
    have:=List.length_filter_le p (List.range i)
    rw [List.length_range] at this
    omega
   ·rw [jX,hr,List.filter_append,Qm]
    simp [hp]
  | false=>
   rw [if_neg (by decide)]
   refine ⟨?_,some (item i),.inl rfl⟩
   rw [hr,List.filter_append,Qm]
   simp [hp]
 ·rintro τ H ⟨rfl,_⟩
  exact hQ
theorem wk {c:Bool} {A B:Prop} (h1:c=true->B) (h2:c=false->A):if (!c)=true then A else B:=by
 cases c with
 | true=>exact e_ (h1 rfl)
 | false=>exact bc (h2 rfl)
theorem bq {c:Bool} {A B:Prop} (h1:c=true->A) (h2:c=false->B):if c=true then A else B:=by
 cases c with
 | true=>exact bc (h1 rfl)
 | false=>exact e_ (h2 rfl)
theorem bB {t u:TS} {D:Ends} (mid:St->Hp->Prop) (h1:∀ nx:St->Hp->Prop,(∀ σ' H',mid σ' H'->nx σ' H')->t {D with nx:=nx} σ H) (h2:∀ σ' H',mid σ' H'->u D σ' H'):uo t u D σ H:=h1 (u D) h2
theorem aR (x:α) (xs:List α):iu (x::xs) 0=some x:=dN (j:=0) rfl
theorem tD (n:Nat):su (n+1) 0=some 0:=by
 unfold su
 rw [if_pos (by decide),if_pos (by omega)];rfl
theorem jZ (xs:List α) (i:Int) (h0:0<=i) (h1:i < xs.length):∃ c,xs[i.toNat]? =some c/\iu xs i=some c:=by
 have hl:i.toNat < xs.length:=by omega
 refine ⟨xs[i.toNat],by simp [hl],?_⟩
 have:=dN (xs:=xs) (j:=i.toNat) (v:=xs[i.toNat]) (by simp [hl])
 rw [<- this]
 congr 1
 omega
theorem qI (ys:List Str) (sep:Str) (h0:sep.length=0) (h:∀ y∈ys,y.length=1):(Txt.join sep ys).length=ys.length:=by
 show (Builtin.Str.glued sep ys).length=_
 rw [size_glued,h0,Nat.mul_zero,Nat.add_zero]
 exact sumLen_of_ones ys h
theorem cA (ns:List Str) (i:Nat) (h:i < ns.length):(ns.map V.str).getD i .af=.str (ns.getD i ""):=by
 simp [Qb,h]
theorem iP (ns:List Int) (i:Nat) (h:i < ns.length):(ns.map V.int).getD i .af=.int (ns.getD i 0):=by
 simp [Qb,h]
abbrev wm (w:Addr) (m t:Int):List (Key×V):=[(.inr "mixed",.int m),(.inr "turn",.int t),(.inr "wide",.ref w)]
structure ck (H:Hp) (p w:Addr) (t:Nat):Prop where
 ex:∃ (m c:Int) (ws:List Int),H p=some (.dK (wm w m c))/\H w=some (.lst (ws.map V.int))/\(0<=m/\m < 2147483629)/\0<=c/\c<=(t:Int)
theorem ck.mono {w:Addr} {t u:Nat} (h:ck H p w t) (l:t<=u):ck H p w u:=by
 obtain ⟨m,c,ws,h1,h2,h3,h4,h5⟩:=h.ex
 exact ⟨m,c,ws,h1,h2,h3,h4,by omega⟩
theorem ck.ne {w:Addr} {t:Nat} (h:ck H p w t):p≠w:=by
 obtain ⟨m,c,ws,h1,h2,_⟩:=h.ex
 exact sV h1 h2 (by intro z;cases z)
def Sm (p w:Addr) (H H':Hp):Prop:=∀ b o,H b=some o->b≠p->b≠w->H' b=some o
theorem Sm.refl {w:Addr}:Sm p w H H:=fun _ _ h _ _=>h
theorem Sm.trans {w:Addr} {H1 H2:Hp} (a:Sm p w H H1) (b:Sm p w H1 H2):Sm p w H H2:=fun c o h h1 h2=>b c o (a c o h h1 h2) h1 h2
theorem aa.sm {w:Addr} {H1:Hp} (a:aa H H1):Sm p w H H1:=fun c o h _ _=>a c o h
theorem ck.same {w:Addr} {t:Nat} (h:ck H p w t) (s:aa H H'):ck H' p w t:=by
 obtain ⟨m,c,ws,h1,h2,r⟩:=h.ex
 exact ⟨m,c,ws,s _ _ h1,s _ _ h2,r⟩
theorem Sm.free {w:Addr} (s:Sm p w H H') (h:H' l=none) (hp:l≠p) (hw:l≠w):H l=none:=by
 cases q:H l with
 | none=>rfl
 | some o=>rw [s l o q hp hw] at h;cases h
theorem ck.upd {H:Hp} {p w D:Addr} {t:Nat} {o:HO} (h:ck H p w t) (h1:D≠p) (h2:D≠w):ck (upd H D o) p w t:=by
 obtain ⟨m,c,ws,e1,e2,r⟩:=h.ex
 exact ⟨m,c,ws,by rw [aH h1.symm];exact e1,by rw [aH h2.symm];exact e2,r⟩
theorem Sm.upd {p w D:Addr} {H H':Hp} {o:HO} (s:Sm p w H H') (h:H D=none):Sm p w H (upd H' D o):=fun b u hb h1 h2=>by rw [aH (aN hb h)];exact s b u hb h1 h2
theorem ck.ne1 {w D:Addr} {t:Nat} (h:ck H p w t) (hD:H D=none):D≠p:=fun e=>by obtain ⟨_,_,_,z,_⟩:=h.ex;rw [<- e,hD] at z;cases z
theorem ck.ne2 {w D:Addr} {t:Nat} (h:ck H p w t) (hD:H D=none):D≠w:=fun e=>by obtain ⟨_,_,_,_,z,_⟩:=h.ex;rw [<- e,hD] at z;cases z
abbrev yi:Nat:=1000000000000
def Af:Sp:=fun vs H Q _=>∃ (p w:Addr) (m:Int) (t:Nat),vs=[.ref p,.int m]/\ck H p w t/\(0 < m/\m < 1073741824)/\t < yi/\
 ∀ (r:Int) (H':Hp),0<=r->r < m->ck H' p w (t+1)->Sm p w H H'->Q (.int r) H'
def IJ (K:Q0):Sp:=fun vs H Q _=>∃ (a:Addr) (ns:List Int),vs=[.ref a]/\ae K H a (ns.map V.int)/\ns.length<=63/\
 ∀ (p w:Addr) (H':Hp),H p=none->H w=none->ck H' p w 0->aa H H'->Q (.ref p) H'
def FJ (K:Q0):Sp:=fun vs H Q _=>∃ (a:Addr) (ns:List Int),vs=[.ref a]/\ae K H a (ns.map V.int)/\ns.length<=63/\∀ H',Q (.bl true) H'
def Ag (p w:Addr) (H:Hp):V->Prop
 | .af=>True
 | .bl _=>True
 | .int _=>True
 | .str z=>z.length<=100000
 | .ref a=>a≠p/\a≠w/\((∃ xs,H a=some (.lst xs))\/(∃ xs,H a=some (.tup xs))\/∃ kvs,H a=some (.dK kvs))
 | _=>False
theorem Ag.sm {w:Addr} {x:V} (h:Ag p w H x) (s:Sm p w H H'):Ag p w H' x:=by
 cases x with
 | ref a=>
  obtain ⟨h1,h2,h3⟩:=h
  refine ⟨h1,h2,?_⟩
  rcases h3 with ⟨xs,e⟩ | ⟨xs,e⟩ | ⟨xs,e⟩
  ·exact .inl ⟨xs,s _ _ e h1 h2⟩
  ·exact .inr (.inl ⟨xs,s _ _ e h1 h2⟩)
  ·exact .inr (.inr ⟨xs,s _ _ e h1 h2⟩)
 | _=>exact h
structure A_ (p w:Addr) (t:Nat) (H:Hp) (xs:List V):Prop where
 OX:ck H p w t
 all:∀ x∈xs,Ag p w H x
section
variable {w:Addr} {t u:Nat} {xs ys:List V}
theorem A_.sm (g:A_ p w t H xs) (hp:ck H' p w u) (s:Sm p w H H'):A_ p w u H' xs:=⟨hp,fun x hx=>(g.all x hx).sm s⟩
theorem A_.upd {q:Addr} {o:HO} (g:A_ p w t H xs) (h:H q=none):A_ p w t (upd H q o) xs:=g.sm (g.OX.same (aa.upd h o)) (aa.upd h o).sm
end
section
variable {p pos:Pos}
theorem cJ {r:List V->Hp->VK->Prop} (hc:jd X (.type T) r) (hg:Gl X x) (hm:X.mg x=none) (hv:bootBuiltins x=some (.type T)) (ha:SA X (e::es) t) (hn:x≠"__name__":=by decide) (d_:(x==("__debug__":Str))=false:=by decide)
  (he:starEach (e::es) X.env=(false,eval e X.env)::starEach es X.env:=by rfl) (hpl:(backTo pos (starEach es X.env)).any (·.1)=false:=by rfl):SE X (.Call (.Name x p) (e::es) [] pos) (sj r t):=⟨yG hc hg hm hv ha.h hn d_ he hpl⟩
def OY (K:Q0):List V->Hp->VK->Prop:=fun xs H Q=>∃ p ys,xs=[.ref p]/\((ae K H p ys/\∀ l,H l=none->Q (.ref l) (upd H l (.tup ys)))\/(ai K H p ys/\Q (.ref p) H))
def OZ (K:Q0):List V->Hp->VK->Prop:=fun xs H Q=>∃ p ys,xs=[.ref p]/\(ae K H p ys\/ai K H p ys)/\∀ l,H l=none->Q (.ref l) (upd H l (.lst ys))
theorem cR (K:Q0) (h:X.K=K:=by rfl):jd X (.type "tuple") (OY K):=by subst h;exact nK
theorem yE (K:Q0) (h:X.K=K:=by rfl):jd X (.type "list") (OZ K):=by subst h;exact pJ
def O0:V->List V->Hp->VK->Prop:=fun x vs H Q=>∃ l xs i y,x=.ref l/\vs=[.int i,y]/\H l=some (.lst xs)/\0<=i/\i < 2^62/\xs.length < sizeLine/\
 Q .af (upd H l (.lst (xs.take (min i.toNat xs.length)++y::xs.drop (min i.toNat xs.length))))
theorem wZ:uv X "list.insert" O0:=by
 intro pins s σ H x vs v us Q I rx rv h
 obtain ⟨l,xs,i,y,rfl,rfl,hH,h1,h2,hz,q⟩:=h
 cases rx
 obtain ⟨u1,u2,rfl,r1,r2⟩:=rv.two
 obtain ⟨tk,rfl⟩:=(show ∃ t,u1=Value.int i t from r1)
 obtain ⟨z,its,n,r,hl,e⟩:=I.Cb hH
 refine call_meets F.slot_list_insert ⟨_,e,rfl⟩ F.entry_list_insert (F.args_list_insert_3 _ _ _)
  (AutoListH.list_insert_list_int_val_1 l its.toArray n i tk u2 (by rw [fitsIndex_both (by omega) (by omega)];decide) (by rw [List.size_toArray];omega)) ⟨e,?_⟩
 refine ⟨.af,_,I.Fp (its':=its.take (min i.toNat its.length)++u2::its.drop (min i.toNat its.length)) hH e ?_ ?_ ?_,rfl,q⟩
 ·have hi:¬i < 0:=by omega
  simp only [hi,if_false]
  apply Array.toList_inj.mp
  simp [Array.toList_extract,List.drop_take,List.extract_eq_drop_take]
  exact List.take_of_length_le (by rw [List.length_drop];exact Qy _)
 ·rw [hl]
  exact (r.take _).append (.cons r2 (r.drop _))
 ·simp only [Qk,List.length_cons,List.length_take,List.length_drop]
  omega
theorem o4:∀ {xs:List Str} {us:List Value},StrsAre us xs->ao (xs.map V.str) us
 | _,_,.nil=>.nil
 | _,_,.cons x k r=>.cons ⟨k,rfl⟩ (o4 r)
def O1 (K:Q0):List V->Hp->VK->Prop:=fun xs H Q=>∃ p ss,xs=[.ref p]/\ae K H p (ss.map V.str)/\ss.length < 64/\
 ∀ l (ss':List Str),H l=none->ss'.Perm ss->sortedS ss'=true->Q (.ref l) (upd H l (.lst (ss'.map V.str)))
theorem pN (K:Q0) (hK:X.K=K:=by rfl):jd X (.builtin "sorted") (O1 K):=by
 subst hK
 intro pins s σ H xs us Q I r h
 obtain ⟨p,ss,rfl,hq,O2,q⟩:=h
 obtain ⟨u,rfl,ru⟩:=r.one
 cases ru
 obtain ⟨its,rv,pl,hz⟩:=I.list hq
 have hS:=pE rv
 have fq:its.length=ss.length:=by have:=rv.length;rw [Ql] at this;exact this.symm
 refine sorted_strs pl.isList hS (by rw [fq];exact O2) fun out ss' a1 a2 a3=>?_
 obtain ⟨e,he⟩:=sortedAll_at s.heap its out
 have hf:H (s.heap.objs.size+1)=none:=I.hok.fresh (Nat.le_succ _)
 refine ⟨.ref (s.heap.objs.size+1),_,I.laid (t':=s.toks) (a:=s.heap.objs.size+1) (o:=.lst (ss'.map V.str)) (fun b o eo=>sortedAll_old eo) (Nat.le_succ _) ?_,rfl,q _ ss' hf a2 a3⟩
 refine ⟨?_,out.toList,e,o4 a1,?_⟩
 ·rw [Ql,a2.length_eq]
  have:sizeLine=16777216:=QL
  omega
 ·rw [he]
end
mutual
inductive ql (H:Hp):V->PyData->Prop
 | af:ql H .af .none
 | bl (b:Bool):ql H (.bl b) (.bool b)
 | int (i:Int):ql H (.int i) (.int i)
 | str (z:Str):ql H (.str z) (.str z)
 | tup {a:Addr} {xs:List V} {ds:List PyData}:H a=some (.tup xs)->qm H xs ds->ql H (.ref a) (.tuple ds)
 | lst {a:Addr} {xs:List V} {ds:List PyData}:H a=some (.lst xs)->qm H xs ds->ql H (.ref a) (.list ds)
inductive qm (H:Hp):List V->List PyData->Prop
 | nil:qm H [] []
 | cons {x:V} {d:PyData} {xs:List V} {ds:List PyData}:ql H x d->qm H xs ds->qm H (x::xs) (d::ds)
end
mutual
theorem ql.same {H H':Hp} (s:aa H H'):∀ {x:V} {d:PyData},ql H x d->ql H' x d
 | _,_,.af=>.af
 | _,_,.bl b=>.bl b
 | _,_,.int i=>.int i
 | _,_,.str z=>.str z
 | _,_,.tup e r=>.tup (s _ _ e) (qm.same s r)
 | _,_,.lst e r=>.lst (s _ _ e) (qm.same s r)
theorem qm.same {H H':Hp} (s:aa H H'):∀ {xs:List V} {ds:List PyData},qm H xs ds->qm H' xs ds
 | _,_,.nil=>.nil
 | _,_,.cons a r=>.cons (ql.same s a) (qm.same s r)
end
mutual
theorem zH {P:Program} {w:World} {H:Hp} {h:Heap} (ok:cj P w H h):∀ {x:V} {d:PyData} {u:Value},ql H x d->RelV x u->∃ as,Reads h u d as
 | _,_,_,.af,r=>by cases (show _=Value.none from r);exact ⟨[],.none⟩
 | _,_,_,.bl b,r=>by cases (show _=Value.bool b from r);exact ⟨[],.bool b⟩
 | _,_,_,.int i,r=>by obtain ⟨t,rfl⟩:=(show ∃ t,_=Value.int i t from r);exact ⟨[],.int i t⟩
 | _,_,_,.str z,r=>by obtain ⟨t,rfl⟩:=(show ∃ t,_=Value.str z t from r);exact ⟨[],.str z t⟩
 | _,_,_,.tup (a:=a) (xs:=xs) e l,r=>by
  cases (show _=Value.ref a from r)
  obtain ⟨_,its,rv,o,ho,hc,n,hd⟩:=(show be P w H h a (.tup xs) from ok a _ e)
  obtain ⟨as,ra⟩:=iQ ok l rv
  exact ⟨as,.tuple ho hc hd (by simpa using ra)⟩
 | _,_,_,.lst (a:=a) (xs:=xs) e l,r=>by
  cases (show _=Value.ref a from r)
  obtain ⟨_,its,n,rv,ho⟩:=(show be P w H h a (.lst xs) from ok a _ e)
  obtain ⟨as,ra⟩:=iQ ok l rv
  exact ⟨a::as,.list ho rfl rfl (by simpa using ra)⟩
theorem iQ {P:Program} {w:World} {H:Hp} {h:Heap} (ok:cj P w H h):∀ {xs:List V} {ds:List PyData} {us:List Value},qm H xs ds->ao xs us->∃ as,ReadsAll h us ds as
 | _,_,_,.nil,.nil=>⟨[],.nil⟩
 | _,_,_,.cons a l,.cons r rs=>by
  obtain ⟨as,ra⟩:=zH ok a r
  obtain ⟨bs,rb⟩:=iQ ok l rs
  exact ⟨as++bs,.cons ra rb⟩
end
def IK (n:Bool):R2:=fun x y H Q=>match x,y with
 | .bl a,.bl b=>Q (.bl (n^^(a==b))) H
 | x,.af=>Q (.bl (n^^decide (x=.af))) H
 | _,_=>False
theorem O3:br X (compareOp .Is) (IK false):=by
 intro pins s σ H x y v u Q I rx ry h
 cases y with
 | af=>exact MT pins s σ H _ _ v u Q I rx ry ⟨rfl,by cases x<;>simpa [IK] using h⟩
 | bl b=>
  cases x with
  | bl a=>
   cases rx;cases ry
   exact is_bool (bD I h (by cases a<;>cases b<;>rfl))
  | _=>exact (show False from h).elim
 | _=>cases x<;>exact (show False from h).elim
theorem O4 {w:Addr} {x:V} (h:Ag p w H x):∃ t,qj H x=some t/\(u_ t "str"=true↔∃ z,x=.str z):=by
 cases x with
 | af=>exact ⟨_,rfl,(fun h=>absurd h (by decide)),fun ⟨z,e⟩=>nomatch e⟩
 | bl b=>exact ⟨_,rfl,(fun h=>absurd h (by decide)),fun ⟨z,e⟩=>nomatch e⟩
 | int b=>exact ⟨_,rfl,(fun h=>absurd h (by decide)),fun ⟨z,e⟩=>nomatch e⟩
 | str z=>exact ⟨_,rfl,fun _=>⟨z,rfl⟩,fun _=>by decide⟩
 | ref a=>
  obtain ⟨h1,h2,h3⟩:=h
  rcases h3 with ⟨xs,e⟩ | ⟨xs,e⟩ | ⟨xs,e⟩
  ·exact ⟨"list",by simp [qj,e],(fun h=>absurd h (by decide)),fun ⟨z,e⟩=>nomatch e⟩
  ·exact ⟨"tuple",by simp [qj,e],(fun h=>absurd h (by decide)),fun ⟨z,e⟩=>nomatch e⟩
  ·exact ⟨"dict",by simp [qj,e],(fun h=>absurd h (by decide)),fun ⟨z,e⟩=>nomatch e⟩
 | _=>exact (show False from h).elim
abbrev dh:Str:="abcdefghijklmnopqrstuvwxyz"
abbrev nk:List Str:=["all","none","way","box","pick"]
def nq (c:Nat):Bool:= !(Builtin.Str.occurrences dh ⟨#[c]⟩ 0 dh.length 1).isEmpty
def isName (z:Str):Bool:=decide (1<=z.length)&&decide (z.length<=8)&& !(nk.any fun y=>y==z)&&z.cps.toList.all nq
def Cr:V->Bool
 | .str z=>isName z
 | _=>false
def IL:Sp:=fun vs H Q _=>∃ (p w:Addr) (x:V),vs=[x]/\Ag p w H x/\∀ H',aa H H'->Q (.bl (Cr x)) H'
theorem O5 {x:V} (h:¬∃ z,x=.str z):Cr x=false:=by
 cases x with
 | str z=>exact (h ⟨z,rfl⟩).elim
 | _=>rfl
theorem nP (z:Str) (f:Nat->Bool):((List.range z.cps.size).map fun i=>f (z.cps.getD i 0)).all id=z.cps.toList.all f:=by
 rw [List.all_map]
 rw [Bool.eq_iff_iff,QF,QF]
 constructor
 ·intro h c hc
  obtain ⟨i,hi,rfl⟩:=Qi hc
  have lj:i < z.cps.size:=by simpa using hi
  have:=h i (List.mem_range.mpr lj)
  simpa [Array.getD,lj] using this
 ·intro h i hi
  have lj:i < z.cps.size:=List.mem_range.mp hi
  have:=h (z.cps[i]) (by simp)
  simpa [Array.getD,lj] using this
theorem aZ {i j:Int}:(decide (V.int i=V.int j))=decide (i=j):=by
 by_cases h:i=j
 ·subst h;simp
 ·rw [Qw h,Qw (fun e=>h (V.int.inj e))]
theorem bK {i j:Str}:(decide (V.str i=V.str j))=(i==j):=by
 by_cases h:i=j
 ·subst h;simp
 ·rw [Qw (fun e=>h (V.str.inj e))]
  exact (beq_eq_false_iff_ne.mpr h).symm
theorem aa.put {H0:Hp} (s:aa H0 H') (h:H0 p=none):aa H0 (L2.upd H' p o):=fun b u q=>by rw [aH (aN q h)];exact s b u q
theorem aO {u:TS} {D:Ends} (h:te σ H fun x H1=>u D (σ.set i (some x)) H1):uo (uq te (jt i)) u D σ H:=h
theorem nZ {v:V} {u:TS} {D:Ends} (h:u D (σ.set i (some v)) H):uo (uq (tC v) (jt i)) u D σ H:=h
theorem bV {t u:TS} {D:Ends} {rt:VK} {bk ct:St->Hp->Prop} (h:uo t u D σ H):Dm {nx:=uo t u D,rt:=rt,bk:=bk,ct:=ct} σ H:=h
theorem Inv.IM {T:Addr} (I:Inv X pins σ H s) (hf:∀ b∈ch,mq X pins H b) (k:∀ b o,b ∉ ch->s.heap.get? b=some o->h'.get? b=some o)
  (hT:s.heap.objs.size<=T) (new:be X.prog X.w (upd H T o) h' T o):Inv X pins σ (upd H T o) {s with heap:=h',toks:=t'}:=by
 have jm:H T=none:=I.hok.fresh hT
 have nT:∀ b ob,s.heap.get? b=some ob->b≠T:=fun b ob e=>Nat.ne_of_lt (Nat.lt_of_lt_of_le (Qz e) hT)
 have rq:∀ b u,H b=some u->b ∉ ch:=fun b u e hb=>by rw [(hf b hb).1] at e;cases e
 refine I.step (g':=s.gens) (d':=s.drawn) (ch:=ch) (fun b hb=>?_) (fun b o _ _ hc e _=>k b o hc e) (fun b o _ _ hc e _=>⟨o.slots,k b o hc e⟩) (fun b o hc e n=>by rw [aH (nT b o e)];exact n)
  (fun b o hc e=>⟨o,k b o hc e⟩) (fun b xs e=>by rw [aH (aN e jm)];exact e) (fun b o u e=>by rw [aH (aN e jm)];exact e) (fun b ps e=>⟨#[],by rw [aH (aN e jm),e];simp⟩) (fun m hm=>?_) (fun b u e=>?_) I.bare
 ·obtain ⟨f0,f1,f2,f3,f4,f5⟩:=hf b hb
  exact ⟨f3,f1,f4,f5⟩
 ·obtain ⟨o,es,ep,ho,r⟩:=hm
  exact ⟨o,es,ep,k _ o (fun z=>(hf _ z).2.1 rfl) ho,r⟩
 ·by_cases hb:b=T
  ·subst hb
   rw [aA] at e;cases e
   exact new
  ·rw [aH hb] at e
   refine (I.hok b u e).stay (fun c v hc q=>k c v ?_ q) (fun c q=>by rw [aH (aN q jm)];exact q) fun c xs q=>q.upd fun u' hu=>aN hu jm
   rcases hc with z | z
   ·rw [z];exact rq b u e
   ·exact rq c _ z
theorem Inv.IP (I:Inv X pins σ H s) (hf:∀ b∈ch,mq X pins H b) (k:∀ b o,b ∉ ch->s.heap.get? b=some o->h'.get? b=some o):Inv X pins σ H {s with heap:=h',toks:=t'}:=by
 have rq:∀ b u,H b=some u->b ∉ ch:=fun b u e hb=>by rw [(hf b hb).1] at e;cases e
 refine I.step (g':=s.gens) (d':=s.drawn) (ch:=ch) (fun b hb=>?_) (fun b o _ _ hc e _=>k b o hc e) (fun b o _ _ hc e _=>⟨o.slots,k b o hc e⟩) (fun b o hc e n=>n)
  (fun b o hc e=>⟨o,k b o hc e⟩) (fun b xs e=>e) (fun b o u e=>e) (fun b ps e=>⟨#[],by rw [e];simp⟩) (fun m hm=>?_) (fun b u e=>?_) I.bare
 ·obtain ⟨f0,f1,f2,f3,f4,f5⟩:=hf b hb
  exact ⟨f3,f1,f4,f5⟩
 ·obtain ⟨o,es,ep,ho,r⟩:=hm
  exact ⟨o,es,ep,k _ o (fun z=>(hf _ z).2.1 rfl) ho,r⟩
 ·refine (I.hok b u e).stay (fun c v hc q=>k c v ?_ q) (fun c q=>q) fun c xs q=>q
  rcases hc with z | z
  ·rw [z];exact rq b u e
  ·exact rq c _ z
abbrev Cs (v1 v2:V):Hp->V->Hp->Prop:=fun H x H'=>∃ T,x=.ref T/\H T=none/\H'=upd H T (.tup [v1,v2])
def FL (K:Q0) (a:Addr):It:=
 ⟨fun i H=>∃ xs x,ae K H a xs/\xs[i]? =some x,fun i H x H'=>∃ v,(∀ xs,ae K H a xs->xs[i]? =some v)/\Cs (.int i) v H x H',fun i H=>∃ xs,ae K H a xs/\xs.length<=i⟩
theorem vS {T:Addr} {v1 v2:V} {u1 u2:Value} (r1:RelV v1 u1) (r2:RelV v2 u2) (e:h.get? T=some {cls:=.type "tuple",data:=.seq #[u1,u2]}):be P w H h T (.tup [v1,v2]):=
 ⟨⟨show 2<=sizeLine by decide,fun o q=>by rw [e] at q;cases q;rfl⟩,[u1,u2],.cons r1 (.cons r2 .nil),_,e,rfl,_,rfl⟩
theorem wL {K:Q0} {k:Nat} {pos:Pos} (a e it:Addr) (hei:e≠it):Turn P w K (.Tuple AU k pos) (FL K a) [e,it] e (fun i h=>(∃ old,IsEnum h e it i old)/\h.IsListIter it a i) where
 mem:=by simp
 obj:=fun i h st b hb=>by
  obtain ⟨⟨old,he⟩,o,ho,c,d⟩:=st
  simp only [Qp,QA,or_false] at hb
  rcases hb with rfl | rfl
  ·exact ⟨_,he,fun v z=>by
    have z':Data.fields _=Data.cell v:=z
    cases z'⟩
  ·exact ⟨o,ho,fun v z=>by rw [d] at z;cases z⟩
 keep:=fun i h h' st k=>by
  obtain ⟨⟨old,he⟩,hi⟩:=st
  exact ⟨⟨old,k e (by simp) _ he⟩,hi.at fun o x=>k it (by simp) o x⟩
 item:=by
  intro X hP hw hK hc i pins s σ H E I hf st hg
  subst hP hw hK
  obtain ⟨⟨old,he⟩,hit⟩:=st
  obtain ⟨xs,x,hq,hx⟩:=hg
  obtain ⟨its,rv,p,hz⟩:=I.list hq
  obtain ⟨u,hu,ru⟩:=rv.get hx
  refine wpAny_pyNext_enum_item he hit p.isList (x:=u) (by simpa using hu) hei fun h' ho O6 hT hsz hk=>?_
  have I1:Inv X pins σ (upd H s.heap.objs.size (.tup [.int i,x])) {s with heap:=h',toks:=s.toks+1}:=I.IM hf (fun b o hb e=>hk b o (fun z=>hb (by simp [z])) (fun z=>hb (by simp [z])) e) (Qy _) (vS ⟨_,rfl⟩ ru hT)
  refine ⟨_,rfl,wpAny_letOwnedTupleGo_enum (s:={s with heap:=h',toks:=s.toks+1}) ho fun Ct O7 sb=>?_⟩
  have bh:∀ b∈[e,it],b≠s.heap.objs.size:=fun b hb z=>by
   simp only [Qp,QA,or_false] at hb
   rcases hb with rfl | rfl
   ·exact Nat.ne_of_lt (Qz he) z
   ·obtain ⟨_,q,_⟩:=hit;exact Nat.ne_of_lt (Qz q) z
  have Cu:∀ b∈[e,it],mq X pins (upd H s.heap.objs.size (.tup [.int i,x])) b:=fun b hb=>by
   obtain ⟨f0,f⟩:=hf b hb
   exact ⟨by rw [aH (bh b hb)];exact f0,f⟩
  obtain ⟨f0,f1,f2,f3,f4,f5⟩:=Cu e (by simp)
  refine ⟨.ref s.heap.objs.size,_,I1.turned (t':=s.toks+1) (fun b o hb q=>(sb.2 b hb).trans q) f0 f1 f3 f4 f5,rfl,⟨x,fun ys hy=>by rw [I.Dl hy hq];exact hx,_,rfl,I.hok.fresh (Qy _),rfl⟩,⟨⟨u,by simpa using O7⟩,O6.at fun o q=>(sb.2 it hei.symm).trans q⟩,fun b hb=>(Cu b hb).1⟩
 done:=by
  intro X hP hw hK hc i pins s σ H E I hf st hg
  subst hP hw hK
  obtain ⟨⟨old,he⟩,hit⟩:=st
  obtain ⟨xs,hq,hx⟩:=hg
  obtain ⟨its,rv,p,hz⟩:=I.list hq
  have hl:=rv.length
  exact wpAny_pyNext_enum_end (I.ok.hd hc) he hit p.isList (by simp;omega) fun h' eb=>⟨rfl,I.IP (t':=s.toks) hf fun b o hb q=>eb b o (fun z=>hb (by simp [z])) q⟩
 self:=fun _ _ _ _ _ st h=>let ⟨⟨_,he⟩,_⟩:=st;wpAny_pyIter_enum he h
theorem qQ {l m:Nat} (h1:l < n) (h2:m < n):ZipApart (n+4) (n+2) (n+3) n (n+1) l m:=by
 constructor<;>(show (_:Nat)≠_)<;>omega
def FN (K : Q0) (a b : Addr) : It :=
  ⟨fun i H => ∃ xs ys x y, ae K H a xs /\ ae K H b ys /\ xs[i]? = some x /\ ys[i]? = some y, fun i H x H' => ∃ v1 v2, (∀ xs, ae K H a xs -> xs[i]? = some v1) /\ (∀ ys, ae K H b ys -> ys[i]? = some v2) /\ Cs v1 v2 H x H',
   fun i H => ∃ xs ys, ae K H a xs /\ ae K H b ys /\ (xs.length <= i \/ ys.length <= i)⟩
abbrev O8 (z TI TO i1 i2 a b:Addr) (i:Nat) (h:Heap):Prop:=IsZip h z TI TO .none/\IsPair h TI (.ref i1) (.ref i2)/\(∃ u v,IsPair h TO u v)/\h.IsListIter i1 a i/\h.IsListIter i2 b i
theorem O9 {K:Q0} {k:Nat} {pos:Pos} (z TI TO i1 i2 a b:Addr) (D:ZipApart z TI TO i1 i2 a b):Turn P w K (.Tuple AU k pos) (FN K a b) [z,TI,TO,i1,i2] z (O8 z TI TO i1 i2 a b) where
 mem:=by simp
 obj:=fun i h st c hc=>by
  obtain ⟨hz,s_,⟨u,v,vd⟩,⟨o1,e1,c1,d1⟩,o2,e2,c2,d2⟩:=st
  simp only [Qp,QA,or_false] at hc
  rcases hc with rfl | rfl | rfl | rfl | rfl
  ·exact ⟨_,hz,fun v z=>by have z':Data.fields _=Data.cell v:=z;cases z'⟩
  ·exact ⟨_,s_,fun v z=>by have z':Data.seq _ _=Data.cell v:=z;cases z'⟩
  ·exact ⟨_,vd,fun v z=>by have z':Data.seq _ _=Data.cell v:=z;cases z'⟩
  ·exact ⟨_,e1,fun v z=>by rw [d1] at z;cases z⟩
  ·exact ⟨_,e2,fun v z=>by rw [d2] at z;cases z⟩
 keep:=fun i h h' st k=>by
  obtain ⟨hz,s_,⟨u,v,vd⟩,h1,h2⟩:=st
  exact ⟨k z (by simp) _ hz,k TI (by simp) _ s_,⟨u,v,k TO (by simp) _ vd⟩,h1.at fun o x=>k i1 (by simp) o x,h2.at fun o x=>k i2 (by simp) o x⟩
 item:=by
  intro X hP hw hK hc i pins s σ H E I hf st hg
  subst hP hw hK
  obtain ⟨hz,s_,⟨u0,v0,vd⟩,h1,h2⟩:=st
  obtain ⟨xs,ys,x,y,yj,ve,hx,hy⟩:=hg
  obtain ⟨its,rv,p,Cq⟩:=I.list yj
  obtain ⟨its2,Ah,p2,nu⟩:=I.list ve
  obtain ⟨u,hu,ru⟩:=rv.get hx
  obtain ⟨u2,O_,Pa⟩:=Ah.get hy
  refine wpAny_pyNext_zip_item D hz s_ vd h1 h2 p.isList p2.isList (x:=u) (y:=u2) (by simpa using hu) (by simpa using O_) fun h' a1 a2 a3 a4 a5 a6 hk=>?_
  have I1:Inv X pins σ (upd H s.heap.objs.size (.tup [x,y])) {s with heap:=h',toks:=s.toks}:=I.IM (t':=s.toks) hf (fun b o hb e=>hk b o (fun z=>hb (by simp [z])) (fun z=>hb (by simp [z])) (fun z=>hb (by simp [z])) (fun z=>hb (by simp [z])) e) (Qy _) (vS ru Pa a5)
  refine ⟨_,rfl,wpAny_letOwnedTupleGo_zip (s:={s with heap:=h'}) a1 fun Ct Pb sb=>?_⟩
  have bh:∀ b∈[z,TI,TO,i1,i2],b≠s.heap.objs.size:=fun c hc z'=>by
   simp only [Qp,QA,or_false] at hc
   obtain ⟨o1,e1,_⟩:=h1
   obtain ⟨o2,e2,_⟩:=h2
   rcases hc with rfl | rfl | rfl | rfl | rfl
   ·exact Nat.ne_of_lt (Qz hz) z'
   ·exact Nat.ne_of_lt (Qz s_) z'
   ·exact Nat.ne_of_lt (Qz vd) z'
   ·exact Nat.ne_of_lt (Qz e1) z'
   ·exact Nat.ne_of_lt (Qz e2) z'
  have Cu:∀ b∈[z,TI,TO,i1,i2],mq X pins (upd H s.heap.objs.size (.tup [x,y])) b:=fun b hb=>by
   obtain ⟨f0,f⟩:=hf b hb
   exact ⟨by rw [aH (bh b hb)];exact f0,f⟩
  obtain ⟨f0,f1,f2,f3,f4,f5⟩:=Cu z (by simp)
  refine ⟨.ref s.heap.objs.size,_,I1.turned (t':=s.toks) (fun b o hb q=>(sb.2 b hb).trans q) f0 f1 f3 f4 f5,rfl,⟨x,y,fun ys hy=>by rw [I.Dl hy yj];exact hx,fun ys Pc=>by rw [I.Dl Pc ve];exact hy,_,rfl,I.hok.fresh (Qy _),rfl⟩,?_,fun b hb=>(Cu b hb).1⟩
  refine ⟨Pb,(sb.2 _ D.TIz).trans (hk _ _ D.TIz D.TITO D.TIi1 D.TIi2 s_),⟨_,_,(sb.2 _ D.TOz).trans a2⟩,a3.at fun o q=>(sb.2 _ D.i1z).trans q,a4.at fun o q=>(sb.2 _ D.i2z).trans q⟩
 done:=by
  intro X hP hw hK hc i pins s σ H E I hf st hg
  subst hP hw hK
  obtain ⟨hz,s_,⟨u0,v0,vd⟩,h1,h2⟩:=st
  obtain ⟨xs,ys,yj,ve,hx⟩:=hg
  obtain ⟨its,rv,p,Cq⟩:=I.list yj
  obtain ⟨its2,Ah,p2,nu⟩:=I.list ve
  have hl:=rv.length
  have gj:=Ah.length
  refine wpAny_pyNext_zip_end (I.ok.hd hc) D hz s_ vd h1 h2 p.isList p2.isList ?_ fun h' hk=>⟨rfl,I.IP (t':=s.toks) hf fun b o hb q=>hk b o (fun z=>hb (by simp [z])) (fun z=>hb (by simp [z])) (fun z=>hb (by simp [z])) (fun z=>hb (by simp [z])) q⟩
  rcases hx with hx | hx
  ·exact .inl (by simp;omega)
  ·exact .inr (by simp;omega)
 self:=fun _ _ _ _ _ st h=>wpAny_pyIter_zip st.1 h
section
variable {k:Nat} {yb p pos:Pos} {a b:Expr}
def IQ (K:Q0) (ta:TA):TI:=fun σ H R=>ta σ H fun vs H1=>∃ l xs,vs=[.ref l]/\ae K H1 l xs/\R (FL K l) H1
theorem Pd (hg:Gl X "enumerate") (hm:X.mg "enumerate"=none) (ha:PA X [a] ta) (hs:starEach [a] X.env=[(false,eval a X.env)]:=by rfl):PI X (.Tuple AU k yb) (.Call (.Name "enumerate" p) [a] [] pos) (IQ X.K ta):=by
 intro pins s σ H R I h
 refine Call_ (hV I hg hm boot_enumerate (PyProof.Rows.callWith_type1 (aj (ha pos pins s σ H _ I h) fun us s1 ⟨vs,H1,I1,r1,q1⟩=>?_) hs rfl))
 obtain ⟨l,xs,e,hq,q⟩:=q1
 subst e
 cases r1 with
 | cons r rr=>
  cases rr
  cases r
  obtain ⟨its,rv,pl,hz⟩:=I1.list hq
  refine call_enumerate_list pl.isList fun h' he hit hsz hk=>wpAny_pyIter_enum he ?_
  have I2:Inv X pins σ H1 {s1 with heap:=h'}:=I1.kept (t':=s1.toks) hk
  refine ⟨s1.heap.objs.size+1,[s1.heap.objs.size+1,s1.heap.objs.size],_,_,H1,rfl,I2,wL l _ _ (Nat.succ_ne_self _),⟨⟨_,he⟩,hit⟩,fun b hb=>?_,q⟩
  simp only [Qp,QA,or_false] at hb
  rcases hb with rfl | rfl
  ·exact I1.ur (Nat.le_succ _) (I1.hok.fresh (Nat.le_succ _))
  ·exact I1.ur (Qy _) (I1.hok.fresh (Qy _))
def IR (K:Q0) (ta:TA):TI:=fun σ H R=>ta σ H fun vs H1=>∃ l m xs ys,vs=[.ref l,.ref m]/\ae K H1 l xs/\ae K H1 m ys/\R (FN K l m) H1
theorem Pe (hg:Gl X "zip") (hm:X.mg "zip"=none) (ha:PA X [a,b] ta) (hs:starEach [a,b] X.env=[(false,eval a X.env),(false,eval b X.env)]:=by rfl) (oz:starEach [b] X.env=[(false,eval b X.env)]:=by rfl):
  PI X (.Tuple AU k yb) (.Call (.Name "zip" p) [a,b] [] pos) (IR X.K ta):=by
 intro pins s σ H R I h
 refine Call_ (hV I hg hm boot_zip (PyProof.Rows.callWith_type1 (aj (ha pos pins s σ H _ I h) fun us s1 ⟨vs,H1,I1,r1,q1⟩=>?_) (by rw [hs,oz]) (by rw [oz];rfl)))
 obtain ⟨l,m,xs,ys,e,yj,ve,q⟩:=q1
 subst e
 obtain ⟨u1,u2,rfl,Pf,DO⟩:=r1.two
 cases Pf
 cases DO
 obtain ⟨its,rv,pl,hz⟩:=I1.list yj
 obtain ⟨its2,Ah,IS,nu⟩:=I1.list ve
 have l1:l < s1.heap.objs.size:=by obtain ⟨_,e,_⟩:=pl.isList;exact Qz e
 have l2:m < s1.heap.objs.size:=by obtain ⟨_,e,_⟩:=IS.isList;exact Qz e
 refine call_zip_2 pl.isList IS.isList fun h' hz s_ vd h1 h2 hsz hk=>wpAny_pyIter_zip hz ?_
 have I2:Inv X pins σ H1 {s1 with heap:=h'}:=I1.kept (t':=s1.toks) hk
 have ne:∀ {x y:Nat},x < y->x≠y:=fun h=>Nat.ne_of_lt h
 have ne':∀ {x y:Nat},y < x->x≠y:=fun h=>Nat.ne_of_gt h
 refine ⟨s1.heap.objs.size+4,[s1.heap.objs.size+4,s1.heap.objs.size+2,s1.heap.objs.size+3,s1.heap.objs.size,s1.heap.objs.size+1],_,_,H1,rfl,I2,O9 _ _ _ _ _ l m ?_,⟨hz,s_,⟨_,_,vd⟩,h1,h2⟩,fun b hb=>?_,q⟩
 ·exact qQ l1 l2
 ·simp only [Qp,QA,or_false] at hb
  rcases hb with rfl | rfl | rfl | rfl | rfl<;>exact I1.ur (by simp) (I1.hok.fresh (by simp))
theorem n6 (K:Q0) (hg:Gl X "enumerate") (hm:X.mg "enumerate"=none) (ha:SA X [a] ta) (h:X.K=K:=by rfl) (hs:starEach [a] X.env=[(false,eval a X.env)]:=by rfl):SI X (.Tuple AU k yb) (.Call (.Name "enumerate" p) [a] [] pos) (IQ K ta):=by subst h;exact ⟨Pd hg hm ha.h hs⟩
theorem Pg (K:Q0) (hg:Gl X "zip") (hm:X.mg "zip"=none) (ha:SA X [a,b] ta) (h:X.K=K:=by rfl) (hs:starEach [a,b] X.env=[(false,eval a X.env),(false,eval b X.env)]:=by rfl) (oz:starEach [b] X.env=[(false,eval b X.env)]:=by rfl):
  SI X (.Tuple AU k yb) (.Call (.Name "zip" p) [a,b] [] pos) (IR K ta):=by subst h;exact ⟨Pe hg hm ha.h hs oz⟩
end
def DP (J:It) (ok:Hp->Prop) (n:Nat) (f1 f2:Nat->V):Prop:=
 ∀ H,ok H->(∀ i,i < n->J.go i H/\∀ x H',J.ju i H x H'->Cs (f1 i) (f2 i) H x H')/\J.stop n H
theorem nD {K:Q0} (xs:List V):DP (FL K a) (fun H=>ae K H a xs) xs.length (fun i=>.int i) (fun i=>xs.getD i .af):=fun H ok=>
 ⟨fun i hi=>⟨⟨xs,xs[i],ok,by simp [hi]⟩,fun x H' ⟨v,hv,y⟩=>by
  have:=hv xs ok
  have e:xs.getD i V.af=v:=by rw [Qb,this];rfl
  show Cs (.int i) (xs.getD i .af) H x H'
  rw [e];exact y⟩,⟨xs,ok,Qy _⟩⟩
theorem Ph {K:Q0} (xs ys:List V):DP (FN K a b) (fun H=>ae K H a xs/\ae K H b ys) (min xs.length ys.length) (fun i=>xs.getD i .af) (fun i=>ys.getD i .af):=fun H ok=>
 ⟨fun i hi=>⟨⟨xs,ys,xs[i]'(by omega),ys[i]'(by omega),ok.1,ok.2,by simp,by simp⟩,fun x H' ⟨v1,v2,Pj,Pk,y⟩=>by
  have e1:xs.getD i V.af=v1:=by rw [Qb,Pj xs ok.1];rfl
  have e2:ys.getD i V.af=v2:=by rw [Qb,Pk ys ok.2];rfl
  show Cs (xs.getD i .af) (ys.getD i .af) H x H'
  rw [e1,e2];exact y⟩,⟨xs,ys,ok.1,ok.2,by omega⟩⟩
abbrev g2 (K:Q0) (a b:Nat):TG:=BU K 2 (Dp (jt a) (Dp (jt b) E8))
theorem oG {K:Q0} {a b:Nat} {T:Addr} {v1 v2:V} {Q:St->Hp->Prop} (h:H T=some (.tup [v1,v2])) (q:Q ((σ.set a (some v1)).set b (some v2)) H):g2 K a b (.ref T) σ H Q:=
 ⟨T,_,rfl,ai.of h,rfl,_,_,rfl,_,_,rfl,rfl,q⟩
theorem nA {K:Q0} {J:It} {ok:Hp->Prop} {f1 f2:Nat->V} {a b:Nat} {tb:TS} {D:Ends} (hJ:DP J ok n f1 f2) (Pv:Nat->St->Hp->Prop) (h0:Pv 0 σ H) (hok:∀ i τ H,i<=n->Pv i τ H->ok H)
  (hs:∀ i σ H T,i < n->Pv i σ H->H T=none->tb {D with nx:=Pv (i+1),ct:=Pv (i+1),bk:=D.nx} ((σ.set a (some (f1 i))).set b (some (f2 i))) (upd H T (.tup [f1 i,f2 i]))) (hd:∀ σ H,Pv n σ H->D.nx σ H):
  ∃ W:Nat->Nat->St->Hp->Prop,(∃ m,W 0 m σ H)/\∀ i m σ H,W i m σ H->
   (J.stop i H/\D.nx σ H)\/(J.go i H/\∃ N:St->Hp->Prop,(∀ σ' H',N σ' H'->∃ m',m' < m/\W (i+1) m' σ' H')/\∀ x H',J.ju i H x H'->g2 K a b x σ H' fun σ2 H2=>tb {D with nx:=N,ct:=N,bk:=D.nx} σ2 H2):=by
 refine ⟨fun i m σ H=>m=n - i/\i<=n/\Pv i σ H,⟨n,by simp,Nat.zero_le _,h0⟩,?_⟩
 rintro i m σ H ⟨rfl,hi,p⟩
 obtain ⟨k1,k2⟩:=hJ H (hok i σ H hi p)
 by_cases bh:i < n
 ·refine .inr ⟨(k1 i bh).1,Pv (i+1),fun σ' H' p'=>⟨n - (i+1),by omega,rfl,bh,p'⟩,fun x H' y=>?_⟩
  obtain ⟨T,rfl,hT,rfl⟩:=(k1 i bh).2 x H' y
  exact oG aA (hs i σ _ T bh p hT)
 ·have e:i=n:=by omega
  subst e
  exact .inl ⟨k2,hd σ H p⟩
theorem Pn {K:Q0} {J:It} {ok:Hp->Prop} {f1 f2:Nat->V} {a b:Nat} {tc:TC} {τ0:St} {H0:Hp} {D:Addr} {Q:Hp->Prop} (hJ:DP J ok n f1 f2) (Pv:Nat->St->Hp->Prop) (h0:Pv 0 τ0 H0)
  (hok:∀ i τ H,i<=n->Pv i τ H->ok H)
  (hs:∀ i τ H T,i < n->Pv i τ H->H T=none->tc ((τ.set a (some (f1 i))).set b (some (f2 i))) (upd H T (.tup [f1 i,f2 i])) fun c H3=>if c=true then te ((τ.set a (some (f1 i))).set b (some (f2 i))) H3 fun y H4=>∃ xs,H4 D=some (.lst xs)/\xs.length < sizeLine/\Pv (i+1) ((τ.set a (some (f1 i))).set b (some (f2 i))) (upd H4 D (.lst (xs++[y]))) else Pv (i+1) ((τ.set a (some (f1 i))).set b (some (f2 i))) H3)
  (hd:∀ τ H,Pv n τ H->Q H):∃ W:Nat->Nat->St->Hp->Prop,(∃ m,W 0 m τ0 H0)/\∀ i m τ H,W i m τ H->
   (J.stop i H/\Q H)\/(J.go i H/\∃ N:St->Hp->Prop,(∀ τ' H',N τ' H'->∃ m',m' < m/\W (i+1) m' τ' H')/\∀ x H',J.ju i H x H'->g2 K a b x τ H' fun τ2 H2=>tc τ2 H2 fun b H3=>
    if b=true then te τ2 H3 fun y H4=>∃ xs,H4 D=some (.lst xs)/\xs.length < sizeLine/\N τ2 (upd H4 D (.lst (xs++[y]))) else N τ2 H3):=by
 refine ⟨fun i m τ H=>m=n - i/\i<=n/\Pv i τ H,⟨n,by simp,Nat.zero_le _,h0⟩,?_⟩
 rintro i m τ H ⟨rfl,hi,p⟩
 obtain ⟨k1,k2⟩:=hJ H (hok i τ H hi p)
 by_cases bh:i < n
 ·refine .inr ⟨(k1 i bh).1,Pv (i+1),fun σ' H' p'=>⟨n - (i+1),by omega,rfl,bh,p'⟩,fun x H' y=>?_⟩
  obtain ⟨T,rfl,hT,rfl⟩:=(k1 i bh).2 x H' y
  exact oG aA (hs i τ _ T bh p hT)
 ·have e:i=n:=by omega
  subst e
  exact .inl ⟨k2,hd τ H p⟩
end L2
namespace PySem
theorem nE {o:Obj} {xs:Array Value} {k:Nat} {Q:Option Value->Shared->Prop}
  (hx:s.heap.get? a=some o) (hc:o.cls=.type "tuple") (Ba:o.data=.seq xs k) (hd:o.dict=none) (hA:A.handled=none)
  (h:∀ h' tk,(∀ b ob,s.heap.get? b=some ob->h'.get? b=some ob)->Q none {s with heap:=h',toks:=tk}):
  wpAny (model prog w) A (getAttr? (.ref a) "keys") Q E s:=by
 obtain ⟨c,dct,dat,sl⟩:=o
 simp only at hc Ba hd
 subst hc Ba hd
 obtain ⟨hp,g,d,tk,os⟩:=s
 have hT:∀ DQ,(⟨hp,g,d,DQ,os⟩:Shared).TypeIs (.ref a) "tuple":=fun _=>⟨_,hx,rfl⟩
 have Po:typeLookup (.type "tuple") "keys"=pure none:=am_miss_of_fast (by kernel_rfl)
 have f1:=sub_AttributeError
 have f3:=F.slot_tuple_getattribute.lookup
 have f4:=F.slot_tuple_getattribute.bind (.ref a)
 have f5:=am_tuple_getattr_none
 unfold getAttr? getAttrBy? getAttrBy
 repeat (any_goals (first | assumption | exact hT _ | ((with_reducible show wpAny _ _ (call (Value.builtin "tuple.__getattribute__") _ _) _ _ _);refine call_meets F.slot_tuple_getattribute (hT _) am_entry_tuple_getattribute (F.args_tuple_getattribute_2 _ _) (meets_getattribute_miss_tuple a xs k sl _ _ Po (by decide) (by decide)) ⟨hx,hA,fun h' DQ e hx'=>?_⟩) | wp_step))
 obtain ⟨t',u',he⟩:=hx'.there
 show wpAny _ _ (getattributeRaised _ _ _ _ _ _ _) _ _ _
 unfold getattributeRaised
 repeat (any_goals (first | assumption | wp_step))
 exact h _ _ hx'.keeps
end PySem
namespace PySem.F
theorem IT:entryFor table "dict.update.loop"=some Builtin.«dict.update.loop»:=entryFor_of_tree (by kernel_rfl)
theorem DR:plainId "dict.update.loop"=true:=by decide+kernel
end PySem.F
namespace L2
open PySem PySem.Spec PyProof.Rows
def h_ (H:Hp) (ys:List V) (rs:List (Key×V)):Prop:=ys.length=rs.length/\∀ i (h:i < rs.length),∃ b,ys[i]? =some (.ref b)/\H b=some (.tup [kV rs[i].1,rs[i].2])
def dictOf (rs:List (Key×V)):List (Key×V):=rs.foldl (fun kvs r=>putK kvs r.1 r.2) []
theorem l8 (rs:List (Key×V)):∀ kvs:List (Key×V),(rs.foldl (fun kvs r=>putK kvs r.1 r.2) kvs).length<=kvs.length+rs.length:=by
 induction rs with
 | nil=>intro kvs;exact Qy _
 | cons r rs ih=>
  intro kvs
  have h1:=ih (putK kvs r.1 r.2)
  have h2:=dU kvs r.1 r.2
  rw [List.foldl_cons,List.length_cons]
  omega
theorem mO (rs:List (Key×V)):(dictOf rs).length<=rs.length:=by have:=l8 rs [];simpa [dictOf] using this
theorem lB (rs:List (Key×V)) (i:Nat) (h:i < rs.length):dictOf (rs.take (i+1))=putK (dictOf (rs.take i)) rs[i].1 rs[i].2:=by
 unfold dictOf
 rw [Qs,Qa h,Option.toList_some,List.foldl_append];rfl
theorem h_.same {ys:List V} {rs:List (Key×V)} (p:h_ H ys rs) (s:aa H H'):h_ H' ys rs:=⟨p.1,fun i h=>let ⟨b,e1,e2⟩:=p.2 i h;⟨b,e1,s _ _ e2⟩⟩
theorem uC {d it:Addr} {ys:List V} {rs:List (Key×V)} (hA:A.handled=none) (hH:H d=none) (fq:rs.length<=sizeLine) (hp:h_ H ys rs) (ha:H a=some (.tup ys)) (hit:it≠d)
  (hR:∀ s,Inv X pins σ (upd H d (.dK (dictOf rs))) s->R (.ok (.ret .none)) s):
  ∀ (k i:Nat) (s:Shared),rs.length - i=k->i<=rs.length->Inv X pins σ (upd H d (.dK (dictOf (rs.take i)))) s->s.heap.IsTupleIter it a i->mq X pins (upd H d (.dK (dictOf (rs.take i)))) it->
   codeAny (model X.prog X.w) A (.builtin "dict.update.loop" ⟨[.ref d,.ref it,rawInt i,.none],[]⟩) R s:=by
 have Cv:a≠d:=aN ha hH
 intro k
 induction k with
 | zero=>
  intro i s hk hi I st f
  have wo:i=rs.length:=by omega
  subst wo
  refine codeAny_builtin F.IT ?_
  rw [Around.under_plainId F.DR _]
  show wpAny _ A.in1 (pyNext (.ref it) >>=_) _ _ s
  obtain ⟨its,rv,p,hz⟩:=I.tuple (ai.of (by rw [aH Cv];exact ha))
  have hl:=rv.length
  have gj:=hp.1
  obtain ⟨f0,f1,f2,f3,f4,f5⟩:=f
  refine QT (wpAny_pyNext_tuple_end (by simp [hA]) st (show s.heap.IsTuple a its.toArray from p) (by simp;omega) fun h' eb=>?_)
  have I1:=I.turned (t':=s.toks) (h':=h') (fun b o hb e=>eb b o hb e) f0 f1 f3 f4 f5
  rw [Qo] at I1
  show wpAny _ _ (Builtin.Dict.addKeywords d [] >>=fun _=>ret .none) _ _ _
  exact QT (QU (QU (hR _ I1)))
 | succ k ih=>
  intro i s hk hi I st f
  have bh:i < rs.length:=by omega
  refine codeAny_builtin F.IT ?_
  rw [Around.under_plainId F.DR _]
  show wpAny _ A.in1 (pyNext (.ref it) >>=_) _ _ s
  obtain ⟨its,rv,p,hz⟩:=I.tuple (ai.of (by rw [aH Cv];exact ha))
  obtain ⟨b,FO,yk⟩:=hp.2 i bh
  obtain ⟨u,hu,ru⟩:=rv.get FO
  cases ru
  obtain ⟨f0,f1,f2,f3,f4,f5⟩:=id f
  refine QT (wpAny_pyNext_tuple_item st (show s.heap.IsTuple a its.toArray from p) (x:=.ref b) (by simpa using hu) fun h' st' sb=>?_)
  have I1:Inv X pins σ (upd H d (.dK (dictOf (rs.take i)))) {s with heap:=h'}:=I.turned (t':=s.toks) (fun b o hb e=>(sb.2 b hb).trans e) f0 f1 f3 f4 f5
  have Pp:b≠d:=aN yk hH
  obtain ⟨its2,Ah,⟨ob,ho,hc,n,hd2⟩,nu⟩:=I1.tuple (ai.of (a:=b) (by rw [aH Pp];exact yk))
  obtain ⟨u1,u2,rfl,r1,r2⟩:=Ah.two
  show wpAny _ A.in1 (holding [Value.ref b] _ >>=_) _ _ _
  refine QT (wpAny_holding (QT (wpAny_tryCatch ?_)))
  unfold Builtin.Dict.pairItems
  refine QT (wpAny_typeOf (T:="tuple") ⟨ob,ho,hc⟩ ?_)
  rw [if_pos (by decide)]
  refine QT (wpAny_seqItems ho hd2 (QU ?_))
  show wpAny _ A.in1 (holding [u1,u2] (dictSet d u1 u2)) _ _ _
  refine wpAny_holding ?_
  obtain ⟨z,hd,vs,rel,dd⟩:=o8 I1.hok (aA:upd H d (.dK (dictOf (rs.take i))) d=_)
  have o_:=mO (rs.take i)
  rw [List.length_take] at o_
  have hl1:(dictOf (rs.take i)).length < sizeLine:=by omega
  have Cq:vs.length<=sizeLine:=by rw [<- rel.length];exact z
  have Pq:(putK (dictOf (rs.take i)) rs[i].1 rs[i].2).length<=sizeLine:=by have:=dU (dictOf (rs.take i)) rs[i].1 rs[i].2;omega
  refine wpAny_dictSet_pairs (hsz:=Cq) (k8 r1) dd fun h2 lg hs=>?_
  have FI:∃ q,h2.get? d=some q:=let ⟨q,_,_,hq,_⟩:=lg;⟨q,hq⟩
  have IU:=jV (t':=s.toks+1) (ob:=.dK (putK (dictOf (rs.take i)) rs[i].1 rs[i].2)) I1 (by rw [aA];exact True.intro) hs FI (pA Pq hd (rel.put _ r2) lg)
  rw [jX,<- lB rs i bh] at IU
  refine QU ⟨plainId_quiet F.DR _,?_⟩
  exact ih (i+1) _ (by omega) bh IU (st'.at fun o q=>(hs.2 it hit).trans q) ⟨by rw [aH hit] at f0 ⊢;exact f0,f1,f2,f3,f4,f5⟩
def Pr:List V->Hp->VK->Prop:=fun xs H Q=>∃ a ys rs,xs=[.ref a]/\H a=some (.tup ys)/\h_ H ys rs/\rs.length<=sizeLine/\∀ d,H d=none->Q (.ref d) (upd H d (.dK (dictOf rs)))
theorem qC (hc:X.calm=true):jd X (.type "dict") Pr:=by
 intro pins s σ H xs us Q I r h
 obtain ⟨a,ys,rs,rfl,ha,hp,hl,q⟩:=h
 obtain ⟨u,rfl,ru⟩:=r.one
 cases ru
 refine callType_codes (Q₁:=fun obj s₁=>obj=.ref s.heap.objs.size/\s₁={s with heap:=s.heap.push {cls:=.type "dict",data:=.dict #[]}}) F.kt_called_dict (F.kt_typeCall_dict_1 _) F.entry_dict_init (kt_code_dict_new _ ⟨rfl,rfl⟩) ?_
 rintro obj s₁ ⟨rfl,rfl⟩
 have fr:H s.heap.objs.size=none:=I.hok.fresh (Qy _)
 have hnew:(s.heap.push {cls:=.type "dict",data:=.dict #[]}).DictOf (dz X.prog X.w) s.heap.objs.size []:=Heap.DictOf.new s.heap
 have I1:Inv X pins σ (upd H s.heap.objs.size (.dK [])) {s with heap:=s.heap.push {cls:=.type "dict",data:=.dict #[]}}:=I.laid (t':=s.toks) (fun b u e=>Qc _ e) (Qy _)
  ⟨Nat.zero_le _,beq_eq_false_iff_ne.mpr (Ne.symm (Nat.ne_of_lt I.big)),[],.nil,hnew⟩
 have Cv:a≠s.heap.objs.size:=aN ha fr
 obtain ⟨⟨z,nd⟩,its,rv,o,ho,nj,n,hd⟩:=(show be X.prog X.w _ _ a (.tup ys) from I1.hok a _ (by rw [aH Cv];exact ha))
 refine ⟨hnew.typeIs,F.args_dict_init_2 _ _,?_⟩
 unfold Builtin.«dict.__init__»
 refine QT ?_
 unfold Builtin.Dict.selfAndRest
 refine QT (wpAny_notOrdered_dict hnew.typeIs ?_)
 show wpAny _ _ (pure (s.heap.objs.size,[Value.ref a])) _ _ _
 refine QU ?_
 show wpAny _ _ (Builtin.Dict.updateFrom "dict.__init__" s.heap.objs.size (.ref a) [] .none) _ _ _
 unfold Builtin.Dict.updateFrom
 refine QT (wpAny_typeOf (T:="tuple") ⟨o,ho,nj⟩ ?_)
 rw [if_pos (by decide)]
 have hh:X.A.handled=none:=I.ok.hd hc
 refine QT (nE ho nj hd (nd _ ho) (by simp [hh]) fun h' tk hk=>?_)
 rw [if_pos (by rfl)]
 refine QT (wpAny_rule ?_)
 have I2:Inv X pins σ (upd H s.heap.objs.size (.dK [])) {s with heap:=h',toks:=tk}:=I1.kept (t':=tk) hk
 obtain ⟨its2,Ah,p2,nu⟩:=I2.tuple (ai.of (a:=a) (xs:=ys) (by rw [aH Cv];exact ha))
 refine QT (wpAny_pyIter_tuple (show Heap.IsTuple h' a its2.toArray from p2) ?_)
 have hsz:s.heap.objs.size < h'.objs.size:=by
  obtain ⟨_,_,_,e,_⟩:=hnew
  exact Qz (hk _ _ e)
 refine QU ⟨plainId_quiet F.DR _,?_⟩
 refine uC (X:=X) (pins:=pins) (σ:=σ) (by simp [hh]) fr hl hp ha (Nat.ne_of_gt hsz) (fun s' I'=>⟨rfl,.ref s.heap.objs.size,_,I',rfl,q _ fr⟩) rs.length 0 _ rfl (Nat.zero_le _) (I2.kept (t':=tk) fun b o e=>Qc _ e) ⟨_,Qd _ rfl,rfl,rfl⟩ (I2.ur (Qy _) (I2.hok.fresh (Qy _)))
def Tk (H H':Hp):Prop:=∀ b xs,H b=some (.tup xs)->H' b=some (.tup xs)
theorem Tk.refl:Tk H H:=fun _ _ h=>h
theorem Tk.trans {H1 H2:Hp} (a:Tk H H1) (b:Tk H1 H2):Tk H H2:=fun c xs h=>b c xs (a c xs h)
theorem aa.ts (s:aa H H'):Tk H H':=fun b xs h=>s b _ h
theorem ck.ts {w:Addr} {t:Nat} (h:ck H p w t) (s:Sm p w H H'):Tk H H':=fun b xs e=>by
 obtain ⟨m,c,ws,h1,h2,_⟩:=h.ex
 exact s b _ e (sV e h1 (by intro z;cases z)) (sV e h2 (by intro z;cases z))
theorem Tk.upd {H H':Hp} {a:Addr} {o:HO} (s:Tk H H') (h:H' a=none):Tk H (L2.upd H' a o):=fun b xs e=>by rw [aH (aN (s b xs e) h)];exact s b xs e
theorem Tk.set {o':HO} (s:Tk H H') (h:H' a=some o) (hn:∀ xs,o≠.tup xs):Tk H (L2.upd H' a o'):=fun b xs e=>by
 rw [aH (fun z=>by rw [z] at e;have:=s a xs e;rw [h] at this;cases this;exact hn _ rfl)];exact s b xs e
inductive vf (H:Hp):V->PyData->Prop
 | str (z:Str):vf H (.str z) (.str z)
 | tup {a:Addr} {xs:List V} {ds:List PyData}:H a=some (.tup xs)->xs.length=ds.length->(∀ i (h:i < xs.length) (h':i < ds.length),vf H xs[i] ds[i])->vf H (.ref a) (.tuple ds)
theorem vf.ts (s:Tk H H') {v:V} {d:PyData} (h:vf H v d):vf H' v d:=by
 induction h with
 | str z=>exact .str z
 | tup e hl _ ih=>exact .tup (s _ _ e) hl ih
theorem fO:∀ {ds:List PyData},(∀ d∈ds,d.showable=true)->PyData.showableAll ds=true
 | [],_=>by simp [PyData.showableAll]
 | d::ds,h=>by simp [PyData.showableAll,h d List.mem_cons_self,fO fun x hx=>h x (Qh _ hx)]
theorem jJ:∀ {ds:List PyData},(∀ d∈ds,d.hasDict=false)->PyData.hasDictAll ds=false
 | [],_=>by simp [PyData.hasDictAll]
 | d::ds,h=>by simp [PyData.hasDictAll,h d List.mem_cons_self,jJ fun x hx=>h x (Qh _ hx)]
theorem iX {k:Nat}:∀ {ds:List PyData},(∀ d∈ds,d.depth<=k)->PyData.depthAll ds<=k
 | [],_=>by simp [PyData.depthAll]
 | d::ds,h=>by
  have h1:=h d List.mem_cons_self
  have h2:=iX (ds:=ds) fun x hx=>h x (Qh _ hx)
  simp [PyData.depthAll];omega
theorem tY {n:Nat}:∀ {ts:List Str},(∀ t∈ts,t.length<=n)->(ts.map (·.length)).sum<=ts.length*n
 | [],_=>by simp
 | t::ts,h=>by
  have h1:=h t List.mem_cons_self
  have h2:=tY (ts:=ts) fun x hx=>h x (Qh _ hx)
  rw [List.map_cons,List.sum_cons,List.length_cons,Nat.add_mul];omega
def TB (H:Hp) (v:V) (k n:Nat):Prop:=∃ d,vf H v d/\d.depth<=k/\d.shown.length<=n/\d.showable=true/\d.hasDict=false
def Wd (z:Str):Prop:=z.length<=20/\∀ c∈z.cps.toList,c < 128
theorem TB.mono {v:V} {k k' n':Nat} (h:TB H v k n) (hk:k<=k') (hn:n<=n'):TB H v k' n':=by
 obtain ⟨d,h1,h2,h3,h4,h5⟩:=h
 exact ⟨d,h1,by omega,by omega,h4,h5⟩
theorem TB.ts {H H':Hp} (s:Tk H H') {v:V} {k n:Nat} (h:TB H v k n):TB H' v k n:=by
 obtain ⟨d,h1,h2⟩:=h
 exact ⟨d,h1.ts s,h2⟩
theorem TB.str {H:Hp} {z:Str} (h:Wd z):TB H (.str z) 0 202:=by
 refine ⟨.str z,.str z,by simp [PyData.depth],?_,by simp [PyData.showable],by simp [PyData.hasDict]⟩
 show (PyData.str z).shown.length<=202
 simp only [PyData.shown]
 have:=StrLaws.reprText_len z (fun c hc=>Nat.lt_of_lt_of_le (h.2 c hc) (by decide))
 have:=h.1
 omega
theorem TB.tup {H:Hp} {a:Addr} {xs:List V} {k n:Nat} (e:H a=some (.tup xs)) (h:∀ x∈xs,TB H x k n):TB H (.ref a) (k+1) (xs.length*(n+2)+3):=by
 have hc:∀ i:Fin xs.length,∃ d,vf H xs[i.val] d/\d.depth<=k/\d.shown.length<=n/\d.showable=true/\d.hasDict=false:=fun i=>h _ (Qj i.isLt)
 obtain ⟨f,hf⟩:=Classical.axiomOfChoice hc
 have hm:∀ d∈List.ofFn f,d.depth<=k/\d.shown.length<=n/\d.showable=true/\d.hasDict=false:=fun d hd=>by
  obtain ⟨i,rfl⟩:=List.mem_ofFn.mp hd
  exact (hf i).2
 refine ⟨.tuple (List.ofFn f),.tup e (by simp) fun i h1 h2=>?_,?_,?_,?_,?_⟩
 ·have:=(hf ⟨i,h1⟩).1
  simpa using this
 ·simp only [PyData.depth]
  have:=iX (fun d hd=>(hm d hd).1)
  omega
 ·simp only [PyData.shown]
  have h1:=tupleText_len_le (PyData.shownAll (List.ofFn f))
  have e2:PyData.shownAll (List.ofFn f)=(List.ofFn f).map PyData.shown:=shownAll_eq_map _
  have h2:((PyData.shownAll (List.ofFn f)).map (·.length)).sum<=(PyData.shownAll (List.ofFn f)).length*n:=tY fun t ht=>by
   rw [e2] at ht
   obtain ⟨d,hd,rfl⟩:=List.mem_map.mp ht
   exact (hm d hd).2.1
  have h3:(PyData.shownAll (List.ofFn f)).length=xs.length:=by rw [e2];simp
  rw [h3] at h1 h2
  rw [Nat.mul_add];omega
 ·simp only [PyData.showable]
  exact fO fun d hd=>(hm d hd).2.2.1
 ·simp only [PyData.hasDict]
  exact jJ fun d hd=>(hm d hd).2.2.2
theorem sZ (rs:List (Key×V)):(rs.map (·.1)).Nodup->∀ i (h:i < rs.length),bu (dictOf rs) rs[i].1=some rs[i].2:=by
 have gen:∀ (rs:List (Key×V)) (kvs:List (Key×V)),(rs.map (·.1)).Nodup->∀ k,bu (rs.foldl (fun kvs r=>putK kvs r.1 r.2) kvs) k=((rs.find? fun r=>decide (r.1=k)).map (·.2)).or (bu kvs k):=by
  intro rs
  induction rs with
  | nil=>intro kvs _ k;simp
  | cons r rs ih=>
   intro kvs hn k
   rw [List.map_cons,List.nodup_cons] at hn
   rw [List.foldl_cons,ih _ hn.2,Ny]
   by_cases e:r.1=k
   ·have:rs.find? (fun r=>decide (r.1=k))=none:=by
     rw [List.find?_eq_none]
     intro x hx z
     have z':=Qt z
     exact hn.1 (List.mem_map.mpr ⟨x,hx,by rw [z',e]⟩)
    rw [this,List.find?_cons,if_pos e.symm]
    simp [e]
   ·rw [if_neg (fun z=>e z.symm),List.find?_cons]
    simp [e]
 intro hn i h
 unfold dictOf
 rw [gen rs [] hn]
 have:rs.find? (fun r=>decide (r.1=rs[i].1))=some rs[i]:=by
  rw [List.find?_eq_some_iff_getElem]
  refine ⟨by simp,i,h,rfl,fun j hj=>?_⟩
  have gq:(rs.map (·.1))[j]'(by simp;omega)≠(rs.map (·.1))[i]'(by simpa using h):=fun z=>by
   exact (List.pairwise_iff_getElem.mp hn j i (by simp;omega) (by simpa using h) hj) z
  simpa using gq
 rw [this];rfl
abbrev aq (rs:List (Str×V)):List (Key×V):=rs.map fun r=>(Sum.inr r.1,r.2)
def Cw (H:Hp) (v:V) (o:Option Str):Prop:=∃ b,v=.ref b/\((∃ s ys,H b=some (.tup (.str s::ys))/\s≠"as"/\o=none)\/∃ x,H b=some (.tup [.str "as",.str x])/\o=some x)
theorem h_.ts {ys:List V} {rs:List (Key×V)} (p:h_ H ys rs) (s:Tk H H'):h_ H' ys rs:=⟨p.1,fun i h=>let ⟨b,e1,e2⟩:=p.2 i h;⟨b,e1,s _ _ e2⟩⟩
section
variable {xs:List V} {rs:List (Str×V)} {nx:Str->Option Str} {ρ:Str->Nat}
theorem kN (h:(rs.map (·.1)).Nodup):((aq rs).map (·.1)).Nodup:=by
 have e:(aq rs).map (·.1)=(rs.map (·.1)).map (Sum.inr:Str->Key):=by simp [aq,Qn,Function.comp_def]
 rw [e]
 exact List.Pairwise.map _ (fun a b jv z=>jv (Sum.inr.inj z)) h
def qo (nx:Str->Option Str) (x:Str):Str:=(nx x).getD x
def gg (nx:Str->Option Str):Nat->Str->Str
 | 0,x=>x
 | n+1,x=>gg nx n (qo nx x)
theorem jE (n:Nat):∀ x,gg nx (n+1) x=qo nx (gg nx n x):=by
 induction n with
 | zero=>intro x;rfl
 | succ n ih=>intro x;rw [gg,ih];rfl
theorem xK (n:Nat) (h:nx x=none):gg nx n x=x:=by
 induction n with
 | zero=>rfl
 | succ n ih=>rw [gg];rw [show qo nx x=x by simp [qo,h]];exact ih
def Pu (nx:Str->Option Str) (n:Nat) (x:Str):Str:=gg nx n x
end
theorem jH (sep:Str) (c:Nat):∀ (rest:List Str) (acc:Array Nat),c∈(rest.foldl (fun acc p=>acc++sep.cps++p.cps) acc).toList->c∈acc.toList\/c∈sep.cps.toList\/∃ p∈rest,c∈p.cps.toList
 | [],acc,h=>.inl h
 | p::rest,acc,h=>by
  rcases jH sep c rest _ h with h | h | ⟨q,h1,h2⟩
  ·simp only [Array.toList_append,List.mem_append] at h
   rcases h with (h | h) | h
   ·exact .inl h
   ·exact .inr (.inl h)
   ·exact .inr (.inr ⟨p,List.mem_cons_self,h⟩)
  ·exact .inr (.inl h)
  ·exact .inr (.inr ⟨q,Qh _ h1,h2⟩)
theorem rM {sep:Str} (h:c∈(Txt.join sep ys).cps.toList):c∈sep.cps.toList\/∃ y∈ys,c∈y.cps.toList:=by
 have h':c∈(Builtin.Str.glued sep ys).cps.toList:=h
 cases ys with
 | nil=>
  rw [StrLaws.glued_eq_join] at h'
  simp [Str.join] at h'
  exact absurd h' (by intro z;exact nomatch z)
 | cons y ys=>
  have e:Builtin.Str.glued sep (y::ys)=⟨ys.foldl (fun acc p=>acc++sep.cps++p.cps) y.cps⟩:=by rw [StrLaws.glued_eq_join,StrLaws.glued_cons]
  rw [e] at h'
  rcases jH sep c ys y.cps h' with h | h | ⟨p,h1,h2⟩
  ·exact .inr ⟨y,List.mem_cons_self,h⟩
  ·exact .inl h
  ·exact .inr ⟨p,Qh _ h1,h2⟩
theorem dL (xs:List V) (k:Nat):f_ xs (some (k:Int)) none=xs.drop k:=by
 unfold f_
 rw [HT.gX,HT.sG]
 by_cases h:k<=xs.length
 ·rw [Nat.min_eq_left h]
  exact List.take_of_length_le (by simp)
 ·rw [Nat.min_eq_right (by omega)]
  simp [List.drop_eq_nil_of_le (show xs.length<=k by omega)]
theorem uI (xs:List V) (k:Nat):f_ xs none (some (k:Int))=xs.take k:=by
 unfold f_
 rw [HT.gX,HT.sG]
 simp
open Classical in
theorem n3 (h1:z.length<=20) (h2:∀ c∈z.cps.toList,c < 128):Wd z:=⟨h1,h2⟩
theorem ck.xw {w:Addr} {t:Nat} (h:ck H p w t) (e:H l=some (.lst (ss.map V.str))) (h0:ss≠[]):l≠p/\l≠w:=by
 obtain ⟨m,c,ws,h1,h2,_⟩:=h.ex
 refine ⟨sV e h1 (by intro z;cases z),sV e h2 fun z=>?_⟩
 cases ss with
 | nil=>exact h0 rfl
 | cons s ss=>
  injection z with z
  cases ws with
  | nil=>cases z
  | cons x ws=>injection z with z;cases z
section
variable {β:Type} {R:α->β->Prop}
theorem jU:∀ {xs xs':List α} {ys IV:List β},Paired R xs ys->Paired R xs' IV->Paired R (xs++xs') (ys++IV)
 | _,_,_,_,.nil,h=>h
 | _,_,_,_,.cons a r,h=>.cons a (jU r h)
theorem rV:∀ {xs:List α} {ys:List β} (k:Nat),Paired R xs ys->Paired R (xs.take k) (ys.take k)
 | _,_,0,_=>by simp only [List.take_zero];exact .nil
 | _,_,k+1,.nil=>.nil
 | _,_,k+1,.cons a r=>.cons a (rV k r)
theorem sC:∀ {xs:List α} {ys:List β} (k:Nat),Paired R xs ys->Paired R (xs.drop k) (ys.drop k)
 | _,_,0,h=>by simp only [List.drop_zero];exact h
 | _,_,k+1,.nil=>.nil
 | _,_,k+1,.cons a r=>sC k r
theorem yZ:∀ {xs:List α} {ys:List β},xs.length=ys.length->(∀ i (h:i < xs.length) (h':i < ys.length),R xs[i] ys[i])->Paired R xs ys
 | [],[],_,_=>.nil
 | x::xs,y::ys,hl,h=>.cons (h 0 (by simp) (by simp)) (yZ (by simpa using hl) fun i a b=>h (i+1) (by simpa using a) (by simpa using b))
theorem vJ:∀ {xs:List α} {ys:List β},Paired R xs ys->xs.length=ys.length/\∀ i (h:i < xs.length) (h':i < ys.length),R xs[i] ys[i]
 | _,_,.nil=>⟨rfl,fun i h=>absurd h (by simp)⟩
 | _,_,.cons a r=>by
  obtain ⟨h1,h2⟩:=vJ r
  refine ⟨by simp [h1],fun i h h'=>?_⟩
  cases i with
  | zero=>exact a
  | succ i=>exact h2 i (by simpa using h) (by simpa using h')
end
def PR (H:Hp) (x:V) (r:Key×V):Prop:=∃ b,x=.ref b/\H b=some (.tup [kV r.1,r.2])
theorem dC {xs:List V} {rs:List (Key×V)}:h_ H xs rs↔Paired (PR H) xs rs:=by
 constructor
 ·rintro ⟨hl,h⟩
  refine yZ hl fun i h1 h2=>?_
  obtain ⟨b,e1,e2⟩:=h i h2
  rw [Qa h1] at e1
  exact ⟨b,QD e1,e2⟩
 ·intro h
  obtain ⟨hl,h'⟩:=vJ h
  refine ⟨hl,fun i h2=>?_⟩
  obtain ⟨b,e1,e2⟩:=h' i (by omega) h2
  exact ⟨b,by rw [Qa (by omega),e1],e2⟩
section
variable {xs:List V} {rs:List (Str×V)}
theorem kM (a b:List (Str×V)):aq (a++b)=aq a++aq b:=by simp [aq]
theorem uQ (k:Nat):aq (rs.take k)=(aq rs).take k:=by simp [aq,List.map_take]
theorem uP (k:Nat):aq (rs.drop k)=(aq rs).drop k:=by simp [aq,List.map_drop]
theorem jA:h_ H [] (aq []):=dC.mpr .nil
theorem wJ (h:h_ H xs (aq rs)) (k:Nat):h_ H (xs.drop k++xs.take k) (aq (rs.drop k++rs.take k)):=by
 rw [kM,uQ,uP]
 have:=dC.mp h
 exact dC.mpr (jU (sC k this) (rV k this))
theorem mL (h:h_ H xs (aq rs)) {n:Str} {v:V} (e:H b=some (.tup [.str n,v])):h_ H (xs++[.ref b]) (aq (rs++[(n,v)])):=by
 rw [kM]
 exact dC.mpr (jU (dC.mp h) (.cons ⟨b,rfl,e⟩ .nil))
end
theorem z3 (l:List α) (k:Nat):(l.drop k++l.take k).Perm l:=by
 have h:(l.take k++l.drop k).Perm l:=by rw [List.take_append_drop]
 exact List.perm_append_comm.trans h
theorem y0 {x:V} {xs:List V} {Q:List Value->Shared->Prop} (hc:X.calm=true) (I:Inv X pins σ H s) (hq:ai X.K H a (x::xs))
  (h:∀ u D s',RelV x u->H D=none->Inv X pins σ (upd H D (.lst xs)) s'->Q [u,.ref D] s'):wpAny (model X.prog X.w) X.A (unpackItems (.ref a) 2 (some 1)) Q E s:=by
 obtain ⟨its,rv,hl,hz⟩:=I.tuple hq
 cases rv with
 | cons ru rr=>
  rename_i u us
  have hh:X.A.handled=none:=I.ok.hd hc
  have bh:a≠s.heap.objs.size:=by obtain ⟨o,ho,_⟩:=hl;exact Nat.ne_of_lt (Qz ho)
  have Wb:a < s.heap.objs.size:=by obtain ⟨o,ho,_⟩:=hl;exact Qz ho
  have fq:=rr.length
  have ia:us.length+1<=sizeLine:=by simp at hz;omega
  unfold unpackItems
  refine QT ?_
  unfold notIterableAtAll
  refine QT (wpAny_specialOf hl.typeIs slot_tuple_iter.lookup ?_)
  refine QU ?_
  simp only [Bool.false_eq_true,if_false]
  refine QT (wpAny_holding (iter_tuple hl ?_))
  refine QT (wpAny_holding (draw_tuple bh 1 0 _ _ ⟨_,Qd _ rfl,rfl,rfl⟩ (hl.push _) (by simp) fun h₁ Ai hs₁=>?_))
  have Cy:IsTup h₁ a (u::us).toArray:=(hl.push _).extBut hs₁.extBut bh
  rw [Nat.zero_add] at Ai
  have FP:=Ai
  obtain ⟨oi,FQ,_⟩:=FP
  have FS:=Cy
  obtain ⟨ol,qp,_⟩:=FS
  show wpAny _ _ (if ([u]:List Value).length < 1 then _ else _) _ _ _
  rw [if_neg (by simp)]
  refine QT (wpAny_holding (PySem.W.kun_collect (s:={s with heap:=h₁}) (T:="tuple_iterator") (.inr (.inr (.inr rfl))) (Walks.tuple (A:=X.A.in1) (by simp [hh]) s.heap.objs.size a bh (u::us).toArray) (fun j u st=>st.1.typeIs) (k:=1) (by simp) ⟨Ai,Cy⟩ (Qz FQ) (Qz qp) (fun h₂ tk hk=>?_) (by simp;omega)))
  show wpAny _ _ (if us.length < 2 - 1 - 1 then _ else _) _ _ _
  rw [if_neg (by simp)]
  show wpAny _ _ (newList (us.take us.length) >>=fun d=>pure ([u]++[d]++us.drop us.length)) _ _ _
  rw [Qo,List.drop_length]
  have I2:Inv X pins σ H {s with heap:=h₂,toks:=tk}:=I.kept (t':=tk) fun b o e=>hk b o (Nat.ne_of_lt (Qz e)) (hs₁.extBut b o (Nat.ne_of_lt (Qz e)) (Qc _ e))
  refine QT (wpAny_newObj_type (QU ?_) (by first | (show us.toArray.size<=_;simp;omega) | trace_state))
  refine h u h₂.objs.size _ ru (I2.hok.fresh (Qy _)) (I2.laid (t':=tk) (o:=.lst xs) (fun b o e=>Qc _ e) (Qy _) ?_)
  exact ⟨by simp at hz;omega,us,0,rr,Qd _ rfl⟩
section
variable {e1 e2:Expr} {p pos:Pos} {k:Nat} {g1 g2:TG}
def Pw (K:Q0) (g1 g2:TG):TG:=fun v σ H Q=>∃ a x xs,v=.ref a/\ai K H a (x::xs)/\∀ D,H D=none->g1 x σ (upd H D (.lst xs)) fun σ1 H1=>g2 (.ref D) σ1 H1 Q
theorem Px (K:Q0) (hc:X.calm=true) (h1:SG X e1 g1) (h2:SG X e2 g2) (hK:X.K=K:=by rfl) (he:assignEach [e1,.Starred e2 p] X.env=[(false,assign e1 X.env),(true,assign e2 X.env)]:=by rfl):SG X (.Tuple [e1,.Starred e2 p] k pos) (Pw K g1 g2):=by
 subst hK
 constructor
 intro pins s σ H v u Q I r h
 obtain ⟨a,x,xs,rfl,hq,h⟩:=h
 cases r
 rw [assign_Tuple]
 refine QT (wpAny_standAt ?_)
 unfold unpack
 rw [he]
 refine QT (wpAny_holding (y0 hc I hq fun u D s' ru hD I'=>?_))
 show wpAny _ _ (assignInOrder [assign e1 X.env,assign e2 X.env] [u,.ref D]) _ _ _
 refine assignInOrder_cons (aj (h1.h pins s' σ _ _ _ _ I' ru (h D hD)) ?_)
 rintro _ s1 ⟨σ1,H1,I1,q1⟩
 refine assignInOrder_cons (aj (h2.h pins s1 σ1 H1 (.ref D) (.ref D) _ I1 rfl q1) ?_)
 rintro _ s2 ⟨σ2,H2,I2,q2⟩
 exact assignInOrder_nil ⟨σ2,H2,I2,q2⟩
end
def KD (w:World) (K:Q0) (a:Addr) (kvs:List (Key×V)):Prop:=∀ P:Program,∃ (o:Obj) (es:Array DictEntry) (ep:Nat) (vs:List (Key×Value)),K.lookup a=some o/\(a==sysModules)=false/\o.ExactDict/\o.data=.dict es ep/\KeysOf (dz P w) es/\Pairs (dz P w) es.toList vs/\(vs.map (·.1)).Nodup/\KV kvs vs
section
variable {kvs:List (Key×V)}
theorem KD.of (h:KD X.w X.K a kvs) (I:Inv X pins σ H s):(a==sysModules)=false/\∃ vs,KV kvs vs/\s.heap.DictOf (dz X.prog X.w) a vs:=by
 obtain ⟨o,es,ep,vs,h1,h2,h3,h4,h5,h6,h7,h8⟩:=h X.prog
 exact ⟨h2,vs,h8,o,es,ep,I.bx a o h1,h3,h4,h5,h6,h7⟩
variable {pos p:Pos}
def IW (kvs:List (Key×V)) (te:TE):TE:=fun σ H Q=>te σ H fun y H1=>∃ k,y=kV k/\Q (.bl (bu kvs k).isSome) H1
theorem Py {K:Q0} (hx:∃ a,X.mg x=some (.ref a)/\KD w K a kvs) (he:PE X e te) (hw:X.w=w) (hK:X.K=K) (hg:Gl X x) (hd:(x==("__debug__":Str))=false):PC X .In e (.Name x p) (IW kvs te):=by
 subst hw hK
 obtain ⟨a,hm,kd⟩:=hx
 intro pins s σ H Q I h
 refine aj (he pins s σ H _ I h) ?_
 rintro iv s1 ⟨y,H1,I1,ry,k,ey,q1⟩
 subst ey
 refine aj (lR (v:=.ref a) hg hm rfl hd pins s1 σ H1 (fun v H'=>v=.ref a/\H'=H1) I1 ⟨rfl,rfl⟩) fun u s2 ⟨z,H2,I2,rz,ez,eH⟩=>?_
 subst ez eH
 cases rz
 obtain ⟨h1,vs,rel,dd⟩:=kd.of I2
 refine wpAny_in_of (k8 ry) h1 dd.mapOf ?_
 rw [<- (rel.val k).DC]
 exact ⟨.bl _,_,I2.tok _,rfl,q1⟩
theorem Pz {K:Q0} (hx:∃ a,X.mg x=some (.ref a)/\KD w K a kvs) (he:SE X e te) (hw:X.w=w:=by rfl) (hK:X.K=K:=by rfl) (hg:Gl X x:=by rfl) (hd:(x==("__debug__":Str))=false:=by decide):ST X (.Compare e [.In] [.Name x p] pos) (tB (IW kvs te)):=⟨L_ (Py hx he.h hw hK hg hd) rfl⟩
def PF (kvs:List (Key×V)) (te:TE):TE:=fun σ H Q=>te σ H fun y H1=>∃ k v,y=kV k/\bu kvs k=some v/\Q v H1
theorem PJ {K:Q0} (hx:∃ a,X.mg x=some (.ref a)/\KD w K a kvs) (he:SE X e te) (hs:DE e) (hw:X.w=w:=by rfl) (hK:X.K=K:=by rfl) (hg:Gl X x:=by rfl) (hd:(x==("__debug__":Str))=false:=by decide):SE X (.Subscript (.Name x p) e pos) (PF kvs te):=by
 subst hw hK
 obtain ⟨a,hm,kd⟩:=hx
 constructor
 intro pins s σ H Q I h
 refine vY PySem.F.slot_dict_getitem.lookup hs (aj (lR (v:=.ref a) hg hm rfl hd pins s σ H (fun v H'=>v=.ref a/\H'=H) I ⟨rfl,rfl⟩) fun u s2 ⟨z,H2,I2,rz,ez,eH⟩=>?_)
 subst ez eH
 cases rz
 refine aj (he.h pins s2 σ _ _ I2 h) ?_
 rintro iv s3 ⟨y,H3,I3,ry,k,v,ey,ev,q⟩
 subst ey
 obtain ⟨h1,vs,rel,dd⟩:=kd.of I3
 obtain ⟨w',hw,ou⟩:=jy.some_of (v:=v) (o:=valueAt vs k) (by rw [<- ev];exact rel.val k)
 exact ⟨dd.typeIs,wpAny_getItem_of (k8 ry) dd.mapOf hw ⟨v,_,I3.tok _,ou,q⟩⟩
end
def Bb (kvs:List (Key×V)) (i:Nat):V:=((kvs[i]?).map fun kv=>kV kv.1).getD .af
def FT (a:Addr) (o:Obj) (kvs:List (Key×V)):It:=⟨fun i H=>H a=some (.c_ o (.dK kvs))/\i < kvs.length,fun i H x H'=>H'=H/\x=Bb kvs i,fun i H=>H a=some (.c_ o (.dK kvs))/\kvs.length=i⟩
theorem sO {o:Obj} (kvs:List (Key×V)):vc (FT a o kvs) (fun H=>H a=some (.c_ o (.dK kvs))) kvs.length (Bb kvs):=fun H ok=>⟨fun i hi=>⟨⟨ok,hi⟩,fun x H' h=>h⟩,ok,rfl⟩
theorem PK {kvs:List (Key×V)} (r:KV kvs vs):∀ {i:Nat} {p:Key×V},kvs[i]? =some p->∃ q,vs[i]? =some q/\q.1=p.1:=by
 intro i
 induction r generalizing i with
 | nil=>intro p h;simp at h
 | cons a t ih=>
  intro p h
  cases i with
  | zero=>simp at h;subst h;exact ⟨_,by simp,a.1.symm⟩
  | succ i=>simp at h;simpa using ih h
theorem rK {k:Key} (h:(dz P w).is k u=true):RelV (kV k) u:=by
 rcases cB h with ⟨i,t,rfl,rfl⟩ | ⟨x,t,rfl,rfl⟩
 ·exact ⟨t,rfl⟩
 ·exact ⟨t,rfl⟩
theorem KV.len {kvs:List (Key×V)} (r:KV kvs vs):kvs.length=vs.length:=Paired.length r
theorem x6 {K:Q0} {it:Addr} {o:Obj} {kvs:List (Key×V)} {ep:Nat} (IX:∃ es,o.data=.dict es ep):Turn P w K tg (FT a o kvs) [it] it (fun i h=>h.IsKeyIter it a i kvs.length ep) where
 mem:=by simp
 obj:=fun i h st b hb=>by
  have e:b=it:=by simpa using hb
  subst e
  obtain ⟨o,e,c,d⟩:=st
  exact ⟨o,e,fun v z=>by rw [d] at z;cases z⟩
 keep:=fun i h h' st k=>st.at fun o e=>k it (by simp) o e
 item:=by
  intro X hP hw hK hc i pins s σ H E I hf st hg
  subst hP hw hK
  obtain ⟨hq,hi⟩:=hg
  obtain ⟨e,z,hd,vs,rel,ob,es,A1,h1,h2,h3,h4⟩:=(show be X.prog X.w H s.heap a (.c_ o (.dK kvs)) from I.hok a _ hq)
  obtain ⟨xy,ie⟩:=IX
  rw [e] at h1;cases h1
  rw [ie] at h3;injection h3 with Cz CA
  subst Cz CA
  obtain ⟨q,yj,ve⟩:=PK rel (Qa hi)
  have hl:=rel.len
  obtain ⟨f0,f1,f2,f3,f4,f5⟩:=hf it (by simp)
  obtain ⟨qk,qv⟩:=q
  refine wpAny_pyNext_dict_item (knd:=dz X.prog X.w) (kvs:=vs) (ep:=ep) (by rw [<- hl];exact st) ⟨o,xy,e,h2,ie,h4⟩ yj fun key h' hk st' sb=>?_
  have I1:Inv X pins σ H {s with heap:=h'}:=I.turned (t':=s.toks) (fun b o hb e=>(sb.2 b hb).trans e) f0 f1 f3 f4 f5
  have zu:h'.IsKeyIter it a (i+1) kvs.length ep:=by rw [hl];exact st'
  obtain ⟨o3,e3,c3,d3⟩:=id zu
  refine ⟨key,rfl,nV (s:={s with heap:=h'}) e3 c3 d3 (by decide) ⟨Bb kvs i,H,I1,?_,⟨rfl,rfl⟩,zu,fun b hb=>(hf b hb).1⟩⟩
  unfold Bb
  rw [Qa hi]
  show RelV (kV kvs[i].1) key
  have PL:qk=kvs[i].1:=ve
  rw [<- PL]
  exact rK hk
 done:=by
  intro X hP hw hK hc i pins s σ H E I hf st hg
  subst hP hw hK
  obtain ⟨hq,hi⟩:=hg
  obtain ⟨e,z,hd,vs,rel,ob,es,A1,h1,h2,h3,h4⟩:=(show be X.prog X.w H s.heap a (.c_ o (.dK kvs)) from I.hok a _ hq)
  obtain ⟨xy,ie⟩:=IX
  rw [e] at h1;cases h1
  rw [ie] at h3;injection h3 with Cz CA
  subst Cz CA
  have hl:=rel.len
  obtain ⟨f0,f1,f2,f3,f4,f5⟩:=hf it (by simp)
  exact wpAny_pyNext_dict_end (knd:=dz X.prog X.w) (kvs:=vs) (ep:=ep) (I.ok.hd hc) (by rw [<- hl];exact st) ⟨o,xy,e,h2,ie,h4⟩ (by simp;omega) fun h' eb=>⟨rfl,I.turned (t':=s.toks) (fun b o hb e=>eb b o hb e) f0 f1 f3 f4 f5⟩
 self:=fun _ _ _ _ _ st h=>wpAny_pyIter_keyiter st h
theorem lY (h:H a=some o):upd H a o=H:=by
 funext b
 unfold upd
 by_cases e:b=a
 ·rw [if_pos e,e,h]
 ·rw [if_neg e]
theorem Inv.freeze {kvs:List (Key×V)} (I:Inv X pins σ H s) (h:Rd H a (.dK kvs)):∃ o es ep,o.data=.dict es ep/\Inv X pins σ (upd H a (.c_ o (.dK kvs))) s/\s.heap.get? a=some o:=by
 rcases h with h | ⟨o,h⟩
 ·have ok:=(show be X.prog X.w H s.heap a (.dK kvs) from I.hok a _ h)
  obtain ⟨z,hd,vs,rel,o,es,ep,h1,h2,h3,h4⟩:=ok
  have I2:=I.write (x:=a) (e:=a) (h':=s.heap) (t':=s.toks) (o:=.c_ o (.dK kvs)) (by rw [h];exact True.intro) (.inl rfl) (fun b u _ q=>q) ⟨o,h1⟩ ⟨h1,z,hd,vs,rel,o,es,ep,h1,h2,h3,h4⟩
  exact ⟨o,es,ep,h3,I2,h1⟩
 ·obtain ⟨e,z,hd,vs,rel,ob,es,ep,h1,h2,h3,h4⟩:=(show be X.prog X.w H s.heap a (.c_ o (.dK kvs)) from I.hok a _ h)
  rw [e] at h1;cases h1
  exact ⟨o,es,ep,h3,by rw [lY h];exact I,e⟩
def PM (te:TE):TI:=fun σ H R=>te σ H fun x H1=>∃ a kvs,x=.ref a/\Rd H1 a (.dK kvs)/\∀ o,R (FT a o kvs) (upd H1 a (.c_ o (.dK kvs)))
theorem vO (he:SE X e te):SI X tg e (PM te):=by
 constructor
 intro pins s σ H R I h
 refine aj (he.h pins s σ H _ I h) ?_
 rintro v s1 ⟨x,H1,I1,r1,a,kvs,ex,hr,q⟩
 subst ex
 cases r1
 obtain ⟨o,es,ep,hd,I2,ho⟩:=I1.freeze hr
 obtain ⟨e,z,PN,vs,rel,ob,xy,A1,h1,h2,h3,h4⟩:=(show be X.prog X.w _ s1.heap a (.c_ o (.dK kvs)) from I2.hok a _ aA)
 rw [e] at h1;cases h1
 rw [hd] at h3;injection h3 with Cz CA
 subst Cz CA
 refine wpAny_pyIter_dict (knd:=dz X.prog X.w) (kvs:=vs) (ep:=ep) PN ⟨o,es,e,h2,hd,h4⟩ ?_
 have hl:=rel.len
 refine ⟨s1.heap.objs.size,[s1.heap.objs.size],_,_,_,rfl,I2.kept (t':=s1.toks) fun b o e=>Qc _ e,x6 (kvs:=kvs) (a:=a) (o:=o) ⟨es,hd⟩,by rw [hl];exact ⟨_,Qd _ rfl,rfl,rfl⟩,fun b hb=>?_,q o⟩
 have e:b=s1.heap.objs.size:=by simpa using hb
 subst e
 exact I2.ur (Qy _) (I2.hok.fresh (Qy _))
def PU (n:Bool):R2:=fun y x H Q=>∃ a o,x=.ref a/\ik H a y o/\Q (.bl (n^^o.isSome)) H
theorem PV (hu:X.A.units+1 < cLine):br X (compareOp .In) (PU false):=by
 intro pins s σ H x y v u Q I rx ry h
 obtain ⟨a,o,rfl,g,q⟩:=h
 cases ry
 exact NB hu I g rx fun s' I'=>⟨.bl o.isSome,H,I',rfl,by simpa using q⟩
theorem ik.rd {kvs:List (Key×V)} {k:Key} (e:Rd H a (.dK kvs)):ik H a (kV k) (bu kvs k):=.inl ⟨kvs,k,e,rfl,rfl⟩
def FU (c:Int) (n:Nat):It:=⟨fun i _=>i < n,fun i H x H'=>H'=H/\x=.int (0+i*c),fun i _=>n<=i⟩
theorem sA {K:Q0} (it:Addr) (c:Int) (n:Nat):Turn P w K tg (FU c n) [it] it (fun i h=>IsRangeIter h it (0+(i:Nat)*c) ((n:Int) - (i:Nat)) c) where
 mem:=by simp
 obj:=fun i h st b hb=>by
  have e:b=it:=by simpa using hb
  subst e
  exact ⟨_,st,fun v z=>by
   have z':Data.fields _=Data.cell v:=z
   cases z'⟩
 keep:=fun i h h' st k=>k it (by simp) _ st
 item:=by
  intro X hP hw hK hc i pins s σ H E I hf st hg
  subst hP hw hK
  obtain ⟨f0,f1,f2,f3,f4,f5⟩:=hf it (by simp)
  have W:=Walks.range (prog:=X.prog) (w:=X.w) (I.ok.hd hc) it 0 c n
  refine W.item i s _ _ hg st fun v h' tk hv st' kk=>?_
  obtain ⟨t,rfl⟩:=hv
  have I1:Inv X pins σ H {s with heap:=h',toks:=tk}:=I.turned (fun b o hb e=>kk b o (by simpa using hb) e) f0 f1 f3 f4 f5
  exact ⟨_,rfl,nV (s:={s with heap:=h',toks:=tk}) (n:="range_iterator") st' rfl rfl (by decide) ⟨.int (0+i*c),H,I1,⟨t,rfl⟩,⟨rfl,rfl⟩,st',fun b hb=>(hf b hb).1⟩⟩
 done:=by
  intro X hP hw hK hc i pins s σ H E I hf st hg
  subst hP hw hK
  obtain ⟨f0,f1,f2,f3,f4,f5⟩:=hf it (by simp)
  exact wpAny_pyNext_range_end (I.ok.hd hc) st (by have:n<=i:=hg;omega) fun h' eb=>⟨rfl,I.turned (t':=s.toks) (fun b o hb e=>eb b o hb e) f0 f1 f3 f4 f5⟩
 self:=fun _ _ _ _ _ st h=>wpAny_pyIter_rangeiter st h
theorem uS (c:Int) (n:Nat):vc (FU c n) (fun _=>True) n (fun i=>.int (0+i*c)):=fun H _=>⟨fun i hi=>⟨hi,fun x H' ⟨e,y⟩=>⟨e,y⟩⟩,Qy _⟩
section
variable {a b c:Expr} {p pos:Pos}
def PX (ta:TA):TI:=fun σ H R=>ta σ H fun vs H1=>∃ m c:Int,vs=[.int 0,.int m,.int c]/\(0<=m/\m<=1000000/\1<=c/\c<=1000)/\R (FU c ((m+c - 1) / c).toNat) H1
theorem z9 (hg:Gl X "range") (hm:X.mg "range"=none) (ha:SA X [a,b,c] ta) (hs:starEach [a,b,c] X.env=[(false,eval a X.env),(false,eval b X.env),(false,eval c X.env)]:=by rfl) (oz:starEach [b,c] X.env=[(false,eval b X.env),(false,eval c X.env)]:=by rfl):SI X tg (.Call (.Name "range" p) [a,b,c] [] pos) (PX ta):=by
 constructor
 intro pins s σ H R I h
 refine Call_ (hV I hg hm boot_range (PyProof.Rows.callWith_type1 (aj (ha.h pos pins s σ H _ I h) fun us s1 ⟨vs,H1,I1,r1,q1⟩=>?_) (by rw [hs,oz]) (by rw [oz];rfl)))
 obtain ⟨m,c',e,⟨h1,h2,h3,h4⟩,q⟩:=q1
 subst e
 cases r1 with
 | cons r rr=>
  cases rr with
  | cons r' rr=>
   cases rr with
   | cons PY rr=>
    cases rr
    obtain ⟨t,rfl⟩:=r
    obtain ⟨t',rfl⟩:=r'
    obtain ⟨PZ,rfl⟩:=PY
    refine call_range_3 (by omega) ?_ (.inl (PyProof.noPylong_small (by omega)))
    refine wpAny_pyIter_range (IsRange.new ..) ?_ ?_
    ·unfold Builtin.Range.small
     rw [rangeSize_pos h3 h1]
     have e1:0<=(m+c' - 1) / c':=Int.ediv_nonneg (by omega) (by omega)
     have e2:(m+c' - 1) / c'<=m+c' - 1:=Int.ediv_le_self _ (by omega)
     simp only [Builtin.Range.rangeFitsLong,Bool.and_eq_true,Bool.or_eq_true,decide_eq_true_eq,beq_iff_eq,show c' > 0 by omega,if_true]
     first | omega | (split<;>omega)
    ·have I2:Inv X pins σ H1 {s1 with heap:=s1.heap.push {cls:=.type "range",data:=.fields #[.int 0 t,.int m t',.int c' PZ]},toks:=s1.toks}:=I1.kept (t':=s1.toks) fun b o e=>Qc _ e
     have en:Builtin.Range.rangeSize 0 m c'=((((m+c' - 1) / c').toNat:Nat):Int):=by
      rw [rangeSize_pos h3 h1]
      have:0<=(m+c' - 1) / c':=Int.ediv_nonneg (by omega) (by omega)
      omega
     refine ⟨_,[_],_,_,H1,rfl,I2.kept (t':=s1.toks) fun b o e=>Qc _ e,sA _ c' _,?_,fun b hb=>?_,q⟩
     ·show IsRangeIter _ _ (0+((0:Nat):Int)*c') _ c'
      rw [en]
      simp only [Int.natCast_zero,Int.zero_mul,Int.add_zero,Int.sub_zero]
      exact Qd _ rfl
     ·have e:=List.mem_singleton.mp hb
      subst e
      exact I2.ur (Qy _) (I2.hok.fresh (Qy _))
end
inductive Dt where
 | str (z:Str)
 | tup (ds:List Dt)
 | bj
end L2
variable {D:L2.Ends} {g:L2.TG} {wi:L2.TI} {r:L2.R2} {sp:L2.Sp} {tc:L2.TC} {d:L2.Dt} {th:PySem.Addr->PySem.Addr->Option PySem.Addr->L2.TS}
namespace L2
open PySem PySem.Spec PyProof.Rows
inductive DD (H:Hp):V->Dt->Prop
 | str {z:Str} (h:z.length<=100000):DD H (.str z) (.str z)
 | tup {a:Addr} {xs:List V} {ds:List Dt}:H a=some (.tup xs)->xs.length=ds.length->xs.length<=1000->(∀ i (h:i < xs.length) (h':i < ds.length),DD H xs[i] ds[i])->DD H (.ref a) (.tup ds)
 | af:DD H .af .bj
 | bl (b:Bool):DD H (.bl b) .bj
 | int (i:Int):DD H (.int i) .bj
 | lst {a:Addr} {xs:List V}:H a=some (.lst xs)->DD H (.ref a) .bj
 | dct {a:Addr} {kvs:List (Key×V)}:H a=some (.dK kvs)->DD H (.ref a) .bj
theorem DD.same (s:aa H H') {v:V} (h:DD H v d):DD H' v d:=by
 induction h with
 | str h=>exact .str h
 | tup e hl hn _ ih=>exact .tup (s _ _ e) hl hn ih
 | af=>exact .af
 | bl b=>exact .bl b
 | int i=>exact .int i
 | lst e=>exact .lst (s _ _ e)
 | dct e=>exact .dct (s _ _ e)
def Dt.isTup:Dt->Bool | .tup _=>true | _=>false
def Dt.isStr:Dt->Bool | .str _=>true | _=>false
theorem DD.ty {v:V} (h:DD H v d):∃ t,qj H v=some t/\u_ t "tuple"=d.isTup/\u_ t "str"=d.isStr:=by
 cases h with
 | str h=>exact ⟨"str",rfl,by rfl,by rfl⟩
 | tup e=>exact ⟨"tuple",by simp [qj,e],by simp [u_,Dt.isTup],by simp [u_,Dt.isStr]⟩
 | af=>exact ⟨"NoneType",rfl,by decide,by decide⟩
 | bl b=>exact ⟨"bool",rfl,by decide,by decide⟩
 | int i=>exact ⟨"int",rfl,by decide,by decide⟩
 | lst e=>exact ⟨"list",by simp [qj,e],by decide,by decide⟩
 | dct e=>exact ⟨"dict",by simp [qj,e],by decide,by decide⟩
theorem DD.good {v:V} (h:DD H v d):∃ p w,Ag p w H v:=by
 cases h with
 | str h=>exact ⟨0,0,h⟩
 | @tup a _ _ e=>exact ⟨Nat.succ a,Nat.succ a,Nat.ne_of_lt (Nat.lt_succ_self a),Nat.ne_of_lt (Nat.lt_succ_self a),.inr (.inl ⟨_,e⟩)⟩
 | af=>exact ⟨0,0,True.intro⟩
 | bl b=>exact ⟨0,0,True.intro⟩
 | int i=>exact ⟨0,0,True.intro⟩
 | @lst a _ e=>exact ⟨Nat.succ a,Nat.succ a,Nat.ne_of_lt (Nat.lt_succ_self a),Nat.ne_of_lt (Nat.lt_succ_self a),.inl ⟨_,e⟩⟩
 | @dct a _ e=>exact ⟨Nat.succ a,Nat.succ a,Nat.ne_of_lt (Nat.lt_succ_self a),Nat.ne_of_lt (Nat.lt_succ_self a),.inr (.inr ⟨_,e⟩)⟩
def bw:Dt->Bool | .str z=>isName z | _=>false
def pairD:Dt->Bool | .tup [a,b]=>bw a&&bw b | _=>false
def nv:Dt->Str | .tup (.str z::_)=>z | _=>""
def qt:Dt->Str | .tup (_::.str z::_)=>z | _=>""
def gv (a b:Str):Bool:=decide (a.cps.toList < b.cps.toList)
def rising:List Str->Bool
 | a::b::r=>gv a b&&rising (b::r)
 | _=>true
def qu:Dt->Bool | .tup ps=>ps.all pairD&&rising (ps.map nv) | _=>false
def dj (s:Str):Bool:=s=="box"||s=="pick"
def oh (s:Str):Option Nat:=if s=="all" then some 0 else if s=="none" then some 0 else if s=="way" then some 2 else if s=="as" then some 1 else none
def headD:Dt->Bool
 | .tup (.str s::rest)=>if dj s then (match rest with | [p]=>qu p | _=>false) else match oh s with | some n=>decide (rest.length=n)&&rest.all bw | none=>false
 | _=>false
def jg:Dt->Bool | .tup [a,h]=>bw a&&headD h | _=>false
def spT (f:Dt->Bool):Sp:=fun vs H Q _=>∃ (x:V) (d:Dt),vs=[x]/\DD H x d/\∀ H',aa H H'->Q (.bl (f d)) H'
theorem av.imp {P:Program} {w:World} {K:Q0} {mg:Str->Option Value} {base:Heap} {k:Nat} {x:Str} {ps:List Str} {sp B5:Sp} (F:av P w K mg base k x ps sp) (h:∀ vs H Q E,B5 vs H Q E->sp vs H Q E):av P w K mg base k x ps B5:=by
 obtain ⟨f,fd,G,r⟩:=F
 exact ⟨f,fd,G.imp h,r⟩
theorem P0 {v:V} (h:DD H v d):Cr v=bw d:=by cases h<;>rfl
theorem yP {vs:List V} {Q:VK} {E:XK} (h:spT bw vs H Q E):IL vs H Q E:=by
 obtain ⟨x,d,rfl,hd,q⟩:=h
 obtain ⟨p,w,g⟩:=hd.good
 refine ⟨p,w,x,rfl,g,fun H' s=>?_⟩
 rw [P0 hd];exact q H' s
theorem wC {Q:Bool->Hp->Prop} (h:Q true H):Cj σ H Q:=h
theorem dJ {J:It} {ok:Hp->Prop} {item:Nat->V} {τ0:St} {H1:Hp} {D:Addr} {Q:Hp->Prop} (hJ:vc J ok n item) (f:Nat->Bool) (hn:n < sizeLine) (hD:H1 D=none) (hok:∀ H2,aa H1 H2->ok H2)
  (he:∀ i H2 (k:VK),i < n->aa H1 H2->(∀ H3,aa H2 H3->k (.bl (f i)) H3)->te (τ0.set 0 (some (item i))) H2 k)
  (hQ:∀ H2,aa H1 H2->H2 D=some (.lst (((List.range n).map f).map V.bl))->Q H2):∃ W:Nat->Nat->St->Hp->Prop,(∃ m,W 0 m τ0 (upd H1 D (.lst [])))/\∀ i m τ H,W i m τ H->
   (J.stop i H/\Q H)\/(J.go i H/\∃ N:St->Hp->Prop,(∀ τ' H',N τ' H'->∃ m',m' < m/\W (i+1) m' τ' H')/\∀ x H',J.ju i H x H'->jt 0 x τ H' fun τ2 H2=>Cj τ2 H2 fun b H3=>
    if b=true then te τ2 H3 fun y H4=>∃ xs,H4 D=some (.lst xs)/\xs.length < sizeLine/\N τ2 (upd H4 D (.lst (xs++[y]))) else N τ2 H3):=by
 refine gO hJ (fun i τ H=>H D=some (.lst (((List.range i).map f).map V.bl))/\aa H1 H/\∃ v,τ=τ0.set 0 v\/τ=τ0) ⟨aA,aa.upd hD _,none,.inr rfl⟩ (fun i τ H hi h=>hok H h.2.1) ?_ ?_
 ·rintro i τ H hi ⟨h1,h2,v,hv⟩
  have e:τ.set 0 (some (item i))=τ0.set 0 (some (item i)):=by
   rcases hv with rfl | rfl
   ·rw [List.set_set]
   ·rfl
  have hg:∀ (Q':St->Hp->Prop),Q' (τ0.set 0 (some (item i))) H->jt 0 (item i) τ H Q':=fun Q' h=>by unfold jt;rw [e];exact h
  refine hg _ ?_
  refine wC ?_
  rw [if_pos rfl]
  refine he i H _ hi h2 fun H3 s3=>?_
  refine ⟨_,s3 _ _ h1,by rw [Ql,Ql,List.length_range];omega,?_,(h2.trans s3).put hD,_,.inl rfl⟩
  rw [aA,List.range_succ,Qm,Qm];rfl
 ·rintro τ H ⟨h1,h2,_⟩
  exact hQ H h2 h1
theorem bT (ds:List α) (d:α) (g:α->Bool):((List.range ds.length).map fun i=>g (ds.getD i d)).all id=ds.all g:=by
 rw [List.all_map,Bool.eq_iff_iff,QF,QF]
 constructor
 ·intro h x hx
  obtain ⟨i,hi,rfl⟩:=Qi hx
  have:=h i (List.mem_range.mpr hi)
  simpa [Qb,hi] using this
 ·intro h i hi
  have lj:=List.mem_range.mp hi
  have:=h _ (Qj lj)
  simpa [Qb,lj] using this
theorem fB (rs:List (Key×V)):(rs.map (·.1)).Nodup->dictOf rs=rs:=by
 have gen:∀ (rs kvs:List (Key×V)),(rs.map (·.1)).Nodup->(∀ r∈rs,bu kvs r.1=none)->rs.foldl (fun kvs r=>putK kvs r.1 r.2) kvs=kvs++rs:=by
  intro rs
  induction rs with
  | nil=>intro kvs _ _;simp
  | cons r rs ih=>
   intro kvs hn hk
   rw [List.map_cons,List.nodup_cons] at hn
   rw [List.foldl_cons,rE _ (hk r List.mem_cons_self),ih _ hn.2 fun x hx=>?_]
   ·simp
   ·rw [gJ _ _ _ _ (hk r List.mem_cons_self),if_neg (fun e=>hn.1 (List.mem_map.mpr ⟨x,hx,e⟩))]
    exact hk x (Qh _ hx)
 intro hn
 have:=gen rs [] hn (fun _ _=>rfl)
 simpa [dictOf] using this
theorem kU (rs:List (Key×V)) (h:(dictOf rs).length=rs.length):(rs.map (·.1)).Nodup:=by
 have gen:∀ (rs kvs:List (Key×V)),(rs.foldl (fun kvs r=>putK kvs r.1 r.2) kvs).length=kvs.length+rs.length->(rs.map (·.1)).Nodup/\∀ r∈rs,bu kvs r.1=none:=by
  intro rs
  induction rs with
  | nil=>intro kvs _;exact ⟨by simp,fun _ h=>nomatch h⟩
  | cons r rs ih=>
   intro kvs hl
   rw [List.foldl_cons,List.length_cons] at hl
   have h1:=l8 rs (putK kvs r.1 r.2)
   cases hv:bu kvs r.1 with
   | some v=>
    exfalso
    have:(putK kvs r.1 r.2).length=kvs.length:=by
     unfold putK
     rw [gH,hv];simp
    omega
   | none=>
    rw [rE _ hv] at hl h1
    obtain ⟨i1,i2⟩:=ih _ (by rw [hl];simp;omega)
    refine ⟨?_,fun x hx=>?_⟩
    ·rw [List.map_cons,List.nodup_cons]
     refine ⟨fun hm=>?_,i1⟩
     obtain ⟨x,hx,e⟩:=List.mem_map.mp hm
     have:=i2 x hx
     rw [gJ _ _ _ _ hv,if_pos e] at this
     cases this
    ·rcases Qp.mp hx with rfl | hx
     ·exact hv
     ·have:=i2 x hx
      rw [gJ _ _ _ _ hv] at this
      by_cases e:x.1=r.1
      ·rw [if_pos e] at this;cases this
      ·rw [if_neg e] at this;exact this
 exact (gen rs [] (by simpa [dictOf] using h)).1
def jn:Dt->Str | .str z=>z | _=>""
theorem iA:∀ ws:List Str,((List.range (min ws.length (ws.length - 1))).map fun i=>gv (ws.getD i "") (ws.getD (i+1) "")).all id=rising ws
 | []=>rfl
 | [a]=>rfl
 | a::b::r=>by
  have ih:=iA (b::r)
  have e1:min (a::b::r).length ((a::b::r).length - 1)=min (b::r).length ((b::r).length - 1)+1:=by simp
  rw [e1,List.range_succ_eq_map,List.map_cons,List.all_cons,Qn]
  have e2:((List.range (min (b::r).length ((b::r).length - 1))).map ((fun i=>gv ((a::b::r).getD i "") ((a::b::r).getD (i+1) ""))∘Nat.succ)).all id=rising (b::r):=by
   rw [<- ih]
   rfl
  rw [e2]
  rfl
theorem dS {v:V} (h:DD H v d) (hn:bw d=true):∃ z,v=.str z/\d=.str z/\isName z=true:=by
 cases h with
 | str _=>exact ⟨_,rfl,rfl,hn⟩
 | tup _ _ _ _=>exact Bool.noConfusion hn
 | af=>exact Bool.noConfusion hn
 | bl _=>exact Bool.noConfusion hn
 | int _=>exact Bool.noConfusion hn
 | lst _=>exact Bool.noConfusion hn
 | dct _=>exact Bool.noConfusion hn
theorem P1 {v:V} (h:DD H v d) (hp:pairD d=true):∃ b z n,v=.ref b/\H b=some (.tup [.str z,.str n])/\d=.tup [.str z,.str n]:=by
 cases h with
 | @tup b ys es e' fi hn' gb=>
  match es,fi,hp,gb with
  | [d1,d2],fi,hp,gb=>
   match ys,fi,e',gb with
   | [y1,y2],fi,e',gb=>
    simp only [pairD,Bool.and_eq_true] at hp
    obtain ⟨z1,q1,q2,_⟩:=dS (gb 0 (by simp) (by simp)) hp.1
    obtain ⟨z2,q3,q4,_⟩:=dS (gb 1 (by simp) (by simp)) hp.2
    simp only [List.getElem_cons_zero,List.getElem_cons_succ] at q1 q3
    subst q1 q2 q3 q4
    exact ⟨b,z1,z2,rfl,e',rfl⟩
 | str _=>exact Bool.noConfusion hp
 | af=>exact Bool.noConfusion hp
 | bl _=>exact Bool.noConfusion hp
 | int _=>exact Bool.noConfusion hp
 | lst _=>exact Bool.noConfusion hp
 | dct _=>exact Bool.noConfusion hp
theorem lD (z:Str):bu ([(.inr "all",.int 0),(.inr "none",.int 0),(.inr "way",.int 2),(.inr "as",.int 1)]:List (Key×V)) (.inr z)=(oh z).map fun n:Nat=>V.int n:=by
 have hk:∀ a b:Str,((Sum.inr a:Key)=Sum.inr b)↔(b==a)=true:=fun a b=>⟨fun e=>by rw [Sum.inr.inj e];exact beq_self_eq_true _,fun h=>by rw [eq_of_beq h]⟩
 have step:∀ (a:Str) (v:V) (r:List (Key×V)),bu ((Sum.inr a,v)::r) (.inr z)=if (z==a)=true then some v else bu r (.inr z):=fun a v r=>by
  by_cases h:(z==a)=true
  ·rw [if_pos h];exact cX ((hk a z).mpr h)
  ·rw [if_neg h];exact d7 (fun e=>h ((hk a z).mp e))
 rw [step,step,step,step]
 unfold oh
 split<;>(try split)<;>(try split)<;>(try split)<;>rfl
theorem IY (a b:Str):(a==b)=(b==a):=by
 by_cases h:a=b
 ·subst h;rfl
 ·rw [beq_eq_false_iff_ne.mpr h,beq_eq_false_iff_ne.mpr (Ne.symm h)]
theorem jC (z:Str):mw (.str z) [.str "box",.str "pick"]=dj z:=by
 show (([V.str "box",V.str "pick"]:List V).any fun y=>je y (.str z))=_
 unfold dj
 simp only [List.any_cons,List.any_nil,Bool.or_false,je]
 rw [IY (Str.ofString "box") z,IY (Str.ofString "pick") z]
def strOf:Dt->Str | .str z=>z | _=>""
def dm:Dt->List Str
 | .tup (.str s::rest)=>if dj s then (match rest with | [.tup ps]=>ps.map qt | _=>[]) else rest.map strOf
 | _=>[]
def CB:Dt->Dt | .tup (_::h::_)=>h | _=>.bj
def vg:Dt->Option Str | .tup [.str s,.str x]=>if s=="as" then some x else none | _=>none
def cu (ds:List Dt):List (Str×Dt):=ds.map fun d=>(nv d,CB d)
def kg (rs:List (Str×Dt)) (n:Str):Option Str:=(rs.find? fun r=>decide (r.1=n)).bind fun r=>vg r.2
def jb (nx:Str->Option Str):Nat->Str->Bool
 | 0,_=>false
 | n+1,x=>match nx x with | none=>true | some y=>jb nx n y
def fm:Dt->Bool
 | .tup ds=>decide (1<=ds.length)&&decide (ds.length<=200)&&ds.all jg&&decide (((cu ds).map (·.1)).Nodup)&&((cu ds).all fun r=>(dm r.2).all fun n=>decide (n∈(cu ds).map (·.1)))&&(((cu ds).map (·.1)).all fun n=>jb (kg (cu ds)) ds.length n)
 | _=>false
theorem Rd.same {u:HO} (r:Rd H a u) (s:aa H H'):Rd H' a u:=by
 rcases r with r | ⟨o,r⟩
 ·exact .inl (s _ _ r)
 ·exact .inr ⟨o,s _ _ r⟩
theorem cN (z:Str) (ds:List Dt):headD (.tup (.str z::ds))=if dj z then (match ds with | [p]=>qu p | _=>false) else match oh z with | some n=>decide (ds.length=n)&&ds.all bw | none=>false:=rfl
theorem k7 {v:V} (h:DD H v d) (hh:headD d=true):∃ a z xs ds,v=.ref a/\d=.tup (.str z::ds)/\H a=some (.tup (.str z::xs))/\xs.length=ds.length/\xs.length < 1000/\(∀ i (h:i < xs.length) (h':i < ds.length),DD H xs[i] ds[i])/\
  ((dj z=true/\∃ p,ds=[p]/\qu p=true)\/(dj z=false/\∃ n,oh z=some n/\ds.length=n/\ds.all bw=true)):=by
 cases h with
 | @tup a xs ds e hl hn b_=>
  match ds,hl,hh,b_ with
  | .str z::ds,hl,hh,b_=>
   match xs,hl,e,hn,b_ with
   | x0::xs,hl,e,hn,b_=>
    have h0:=b_ 0 (by simp) (by simp)
    simp only [List.getElem_cons_zero] at h0
    cases h0
    refine ⟨a,z,xs,ds,rfl,rfl,e,by simpa using hl,by simp at hn;omega,fun i h h'=>b_ (i+1) (by simpa using h) (by simpa using h'),?_⟩
    rw [cN] at hh
    cases hw:dj z with
    | true=>
     rw [hw] at hh
     simp only [if_true] at hh
     match ds,hh with
     | [p],hh=>exact .inl ⟨rfl,p,rfl,hh⟩
    | false=>
     rw [hw] at hh
     simp only [Bool.false_eq_true,if_false] at hh
     cases hb:oh z with
     | none=>rw [hb] at hh;exact Bool.noConfusion hh
     | some n=>
      rw [hb] at hh
      simp only [Bool.and_eq_true,decide_eq_true_eq] at hh
      exact .inr ⟨rfl,n,rfl,hh.1,hh.2⟩
  | .tup _::_,_,hh,_=>exact Bool.noConfusion hh
  | .bj::_,_,hh,_=>exact Bool.noConfusion hh
  | [],_,hh,_=>exact Bool.noConfusion hh
 | str _=>exact Bool.noConfusion hh
 | af=>exact Bool.noConfusion hh
 | bl _=>exact Bool.noConfusion hh
 | int _=>exact Bool.noConfusion hh
 | lst _=>exact Bool.noConfusion hh
 | dct _=>exact Bool.noConfusion hh
theorem l4:dj "as"=false:=by decide
theorem P4 {v:V} (h:DD H v d) (hh:headD d=true):Cw H v (vg d):=by
 obtain ⟨a,z,xs,ds,rfl,rfl,e,hl,hn,b_,hc⟩:=k7 h hh
 refine ⟨a,rfl,?_⟩
 by_cases hz:z="as"
 ·subst hz
  rcases hc with ⟨hw,_⟩ | ⟨_,n,hb,yl,Aj⟩
  ·rw [l4] at hw;cases hw
  ·have hn1:n=1:=by
    have:oh "as"=some 1:=by decide
    rw [this] at hb;cases hb;rfl
   subst hn1
   match ds,yl,hl,Aj,b_ with
   | [d1],_,hl,Aj,b_=>
    match xs,hl,e,b_ with
    | [x1],_,e,b_=>
     simp only [List.all_cons,List.all_nil,Bool.and_true] at Aj
     obtain ⟨y,q1,q2,_⟩:=dS (b_ 0 (by simp) (by simp)) Aj
     simp only [List.getElem_cons_zero] at q1
     subst q1 q2
     exact .inr ⟨y,e,by simp [vg]⟩
 ·refine .inl ⟨z,xs,e,hz,?_⟩
  have ia:(z==Str.ofString "as")=false:=by simpa using hz
  unfold vg
  split
  ·next s x FW=>
   injection FW with FW
   injection FW with h1 _
   injection h1 with h1
   rw [<- h1,if_neg (by rw [ia];exact Bool.false_ne_true)]
  ·rfl
theorem P5 (h:vg d=some y):d=.tup [.str "as",.str y]:=by
 unfold vg at h
 split at h
 ·split at h
  ·rename_i hs
   cases h
   rw [eq_of_beq hs]
  ·cases h
 ·cases h
theorem P_ (h:vg d=some y):y∈dm d:=by
 rw [P5 h]
 have e:dm (.tup [.str "as",.str y])=[y]:=rfl
 rw [e]
 exact List.mem_singleton.mpr rfl
theorem cT {t:TS} {rt:VK} {bk ct:St->Hp->Prop} (h:t D σ H):Dm {nx:=t D,rt:=rt,bk:=bk,ct:=ct} σ H:=h
structure lu (H:Hp) (xs:List V) (ds:List Dt) (rs:List (Str×V)) (hs:List Dt):Prop where
 l1:rs.length=ds.length
 l2:hs.length=ds.length
 ps:h_ H xs (aq rs)
 dd:∀ i (h:i < ds.length) (h1:i < rs.length) (h2:i < hs.length),ds[i]=.tup [.str rs[i].1,hs[i]]/\DD H rs[i].2 hs[i]/\headD hs[i]=true/\isName rs[i].1=true
theorem Qg {v:V} (h:DD H v d) (hp:jg d=true):∃ b z x hd,v=.ref b/\H b=some (.tup [.str z,x])/\d=.tup [.str z,hd]/\DD H x hd/\headD hd=true/\isName z=true:=by
 cases h with
 | @tup b ys es e' fi hn' gb=>
  match es,fi,hp,gb with
  | [d1,d2],fi,hp,gb=>
   match ys,fi,e',gb with
   | [y1,y2],fi,e',gb=>
    simp only [jg,Bool.and_eq_true] at hp
    obtain ⟨z1,q1,q2,q0⟩:=dS (gb 0 (by simp) (by simp)) hp.1
    have q3:=gb 1 (by simp) (by simp)
    simp only [List.getElem_cons_zero,List.getElem_cons_succ] at q1 q2 q3
    subst q1 q2
    exact ⟨b,z1,y2,d2,rfl,e',rfl,q3,hp.2,q0⟩
 | str _=>exact Bool.noConfusion hp
 | af=>exact Bool.noConfusion hp
 | bl _=>exact Bool.noConfusion hp
 | int _=>exact Bool.noConfusion hp
 | lst _=>exact Bool.noConfusion hp
 | dct _=>exact Bool.noConfusion hp
theorem vI {H:Hp}:∀ {xs:List V} {ds:List Dt},xs.length=ds.length->(∀ i (h:i < xs.length) (h':i < ds.length),DD H xs[i] ds[i])->ds.all jg=true->∃ rs hs,lu H xs ds rs hs
 | [],[],_,_,_=>⟨[],[],rfl,rfl,jA,fun i h=>absurd h (by simp)⟩
 | x::xs,d::ds,hl,h,ha=>by
  rw [List.all_cons,Bool.and_eq_true] at ha
  obtain ⟨rs,hs,R⟩:=vI (xs:=xs) (ds:=ds) (by simpa using hl) (fun i a b=>h (i+1) (by simpa using a) (by simpa using b)) ha.2
  obtain ⟨b,z,v,hd,e1,e2,e3,e4,e5,e6⟩:=Qg (h 0 (by simp) (by simp)) ha.1
  simp only [List.getElem_cons_zero] at e1 e3
  refine ⟨(z,v)::rs,hd::hs,by simp [R.l1],by simp [R.l2],?_,fun i a b c=>?_⟩
  ·rw [e1]
   exact dC.mpr (.cons ⟨b,rfl,e2⟩ (dC.mp R.ps))
  ·cases i with
   | zero=>exact ⟨e3,e4,e5,e6⟩
   | succ i=>exact R.dd i (by simpa using a) (by simpa using b) (by simpa using c)
section
variable {xs:List V} {ds:List Dt} {rs:List (Str×V)} {hs:List Dt}
theorem lu.same {H':Hp} (R:lu H xs ds rs hs) (s:aa H H'):lu H' xs ds rs hs:=⟨R.l1,R.l2,R.ps.same s,fun i a b c=>let ⟨h1,h2,h3⟩:=R.dd i a b c;⟨h1,h2.same s,h3⟩⟩
theorem lu.rows (R:lu H xs ds rs hs) (h:i < ds.length) (h1:i < rs.length) (h2:i < hs.length):(cu ds)[i]? =some (rs[i].1,hs[i]):=by
 unfold cu
 rw [Qq,Qa h,(R.dd i h h1 h2).1];rfl
theorem lu.names (R:lu H xs ds rs hs):(cu ds).map (·.1)=rs.map (·.1):=by
 refine List.ext_getElem? fun i=>?_
 rw [Qq,Qq]
 by_cases h:i < ds.length
 ·rw [R.rows h (by have:=R.l1;omega) (by have:=R.l2;omega),Qa (by have:=R.l1;omega)];rfl
 ·rw [List.getElem?_eq_none (by unfold cu;simp;omega),List.getElem?_eq_none (by have:=R.l1;omega)];rfl
theorem iF (n:Str) (h:n ∉ rs.map (·.1)):bu (aq rs) (.inr n)=none:=by
 unfold bu
 rw [List.find?_eq_none.mpr]
 ·rfl
 ·intro p hp e
  obtain ⟨r,hr,rfl⟩:=List.mem_map.mp hp
  exact h (List.mem_map.mpr ⟨r,hr,Sum.inr.inj (Qt e)⟩)
theorem eP (nd:(rs.map (·.1)).Nodup) (h:i < rs.length):bu (aq rs) (.inr rs[i].1)=some rs[i].2:=by
 have:=sZ (aq rs) (kN nd) i (by simpa using h)
 rw [fB _ (kN nd)] at this
 simpa using this
theorem cZ (nd:(rs.map (·.1)).Nodup) (n:Str):(bu (aq rs) (.inr n)).isSome=decide (n∈rs.map (·.1)):=by
 by_cases h:n∈rs.map (·.1)
 ·obtain ⟨r,hr,rfl⟩:=List.mem_map.mp h
  obtain ⟨i,hi,rfl⟩:=Qi hr
  rw [eP nd hi,Qv h];rfl
 ·rw [iF n h,Qw h];rfl
theorem lu.nx (R:lu H xs ds rs hs) (nd:(rs.map (·.1)).Nodup) (h1:i < rs.length) (h2:i < hs.length):kg (cu ds) rs[i].1=vg hs[i]:=by
 have h:i < ds.length:=by have:=R.l1;omega
 unfold kg
 have:(cu ds).find? (fun r=>decide (r.1=rs[i].1))=some (rs[i].1,hs[i]):=by
  rw [List.find?_eq_some_iff_getElem]
  have hl:(cu ds).length=ds.length:=by unfold cu;simp
  refine ⟨by simp,i,by omega,?_,fun j hj=>?_⟩
  ·have:=R.rows h h1 h2
   rw [Qa (by omega)] at this
   exact QD this
  ·have QB:j < rs.length:=by omega
   have:=R.rows (i:=j) (by omega) QB (by omega)
   rw [Qa (by omega)] at this
   rw [QD this]
   have gq:(rs.map (·.1))[j]'(by simp;omega)≠(rs.map (·.1))[i]'(by simpa using h1):=fun z=>(List.pairwise_iff_getElem.mp nd j i (by simp;omega) (by simpa using h1) hj) z
   simpa using gq
 rw [this];rfl
theorem lu.has (R:lu H xs ds rs hs) (nd:(rs.map (·.1)).Nodup) (n:Str) (v:V) (hv:bu (aq rs) (.inr n)=some v):Cw H v (kg (cu ds) n):=by
 by_cases h:n∈rs.map (·.1)
 ·obtain ⟨r,hr,rfl⟩:=List.mem_map.mp h
  obtain ⟨i,hi,rfl⟩:=Qi hr
  rw [eP nd hi] at hv
  cases hv
  have h2:i < hs.length:=by have:=R.l1;have:=R.l2;omega
  rw [R.nx nd hi h2]
  obtain ⟨_,q1,q2,_⟩:=R.dd i (by have:=R.l1;omega) hi h2
  exact P4 q1 q2
 ·rw [iF n h] at hv;cases hv
theorem lu.IZ (R:lu H xs ds rs hs) (nd:(rs.map (·.1)).Nodup) (hall:(cu ds).all (fun r=>(dm r.2).all fun n=>decide (n∈(cu ds).map (·.1)))=true) (n y:Str) (hn:(bu (aq rs) (.inr n)).isSome=true) (h:kg (cu ds) n=some y):(bu (aq rs) (.inr y)).isSome=true:=by
 rw [cZ nd] at hn ⊢
 have hn':=Qt hn
 obtain ⟨r,hr,rfl⟩:=List.mem_map.mp hn'
 obtain ⟨i,hi,rfl⟩:=Qi hr
 have h2:i < hs.length:=by have:=R.l1;have:=R.l2;omega
 rw [R.nx nd hi h2] at h
 have hm:=QC (R.rows (by have:=R.l1;omega) hi h2)
 have:=QF.mp hall _ hm
 have:=QF.mp this y (P_ h)
 rw [<- R.names]
 exact this
theorem uF {v:V} (h:DD H v d) (hh:headD d=true):(dm d).length<=1000:=by
 obtain ⟨a,z,xs,ds,rfl,rfl,e,hl,hn,b_,hc⟩:=k7 h hh
 rcases hc with ⟨hw,p,rfl,hp⟩ | ⟨hw,n,hb,yl,Aj⟩
 ·match xs,hl,b_ with
  | [x1],_,b_=>
   have h1:=b_ 0 (by simp) (by simp)
   simp only [List.getElem_cons_zero] at h1
   cases h1 with
   | @tup b ys es e' fi hn' gb=>
    have:dm (.tup [.str z,.tup es])=if dj z then es.map qt else _:=rfl
    rw [this,if_pos hw,Ql]
    omega
   | _=>exact Bool.noConfusion hp
 ·have:dm (.tup (.str z::ds))=if dj z then _ else ds.map strOf:=rfl
  rw [this,if_neg (by rw [hw];exact Bool.false_ne_true),Ql]
  omega
theorem jL (l:List α) (n:Nat) (hn:l.length=n) (f:Nat->Bool) (g:α->Bool) (h:∀ i (hi:i < l.length),f i=g l[i]):((List.range n).map f).all id=l.all g:=by
 subst hn
 rw [List.all_map,Bool.eq_iff_iff,QF,QF]
 constructor
 ·intro q x hx
  obtain ⟨i,hi,rfl⟩:=Qi hx
  rw [<- h i hi]
  exact q i (List.mem_range.mpr hi)
 ·intro q i hi
  have lj:=List.mem_range.mp hi
  show f i=true
  rw [h i lj]
  exact q _ (Qj lj)
end
inductive TX (H:Hp):V->Dt->Prop
 | str {z:Str} (h:z.length<=100000):TX H (.str z) (.str z)
 | tup {a:Addr} {xs:List V} {ds:List Dt}:H a=some (.tup xs)->xs.length=ds.length->xs.length<=1000->(∀ i (h:i < xs.length) (h':i < ds.length),TX H xs[i] ds[i])->TX H (.ref a) (.tup ds)
theorem TX.tk (s:Tk H H') {v:V} (h:TX H v d):TX H' v d:=by
 induction h with
 | str h=>exact .str h
 | tup e hl hn _ ih=>exact .tup (s _ _ e) hl hn ih
theorem TX.dd {v:V} (h:TX H v d):DD H v d:=by
 induction h with
 | str h=>exact .str h
 | tup e hl hn _ ih=>exact .tup e hl hn ih
theorem pS {x:V} (e:H a=some (.tup [x])) (h:TX H x d):TX H (.ref a) (.tup [d]):=.tup e rfl (by simp) fun i h1 h2=>by
 match i,h1 with
 | 0,_=>exact h
theorem eO {x y:V} {d':Dt} (e:H a=some (.tup [x,y])) (h:TX H x d) (h':TX H y d'):TX H (.ref a) (.tup [d,d']):=.tup e rfl (by simp) fun i h1 h2=>by
 match i,h1 with
 | 0,_=>exact h
 | 1,_=>exact h'
theorem vT {x y z:V} {d' I_:Dt} (e:H a=some (.tup [x,y,z])) (h:TX H x d) (h':TX H y d') (Ct:TX H z I_):TX H (.ref a) (.tup [d,d',I_]):=.tup e rfl (by simp) fun i h1 h2=>by
 match i,h1 with
 | 0,_=>exact h
 | 1,_=>exact h'
 | 2,_=>exact Ct
theorem eJ (h:isName z=true):z.length<=8:=by
 unfold isName at h
 simp only [Bool.and_eq_true,decide_eq_true_eq] at h
 exact h.1.1.2
theorem eM (h:isName z=true):TX H (.str z) (.str z):=.str (by have:=eJ h;omega)
theorem iE (h:z.length<=100):TX H (.str z) (.str z):=.str (by omega)
structure Ak (H:Hp) (ns:List Str) (v:V) (P:Option Str->Prop):Prop where
 ex:∃ d,TX H v d/\headD d=true/\(∀ n∈dm d,n∈ns)/\P (vg d)
section
variable {P:Option Str->Prop}
theorem sM (e:H b=some (.tup [.str "as",.str y])) (hy:isName y=true) (hm:y∈ns) (hP:P (some y)):Ak H ns (.ref b) P:=by
 refine ⟨.tup [.str "as",.str y],eO e (iE (by decide)) (eM hy),?_,fun n hn=>?_,hP⟩
 ·rw [cN]
  show (decide (1=1)&&([Dt.str y].all bw))=true
  simp [bw,hy]
 ·have:n=y:=by simpa [dm,l4,strOf] using hn
  rw [this];exact hm
theorem QN (e:H b=some (.tup [.str "none"])) (hP:P none):Ak H ns (.ref b) P:=
 ⟨.tup [.str "none"],pS e (iE (by decide)),by decide,fun n hn=>(by revert hn;exact fun h=>nomatch h),hP⟩
theorem QO (e:H b=some (.tup [.str "all"])) (hP:P none):Ak H ns (.ref b) P:=
 ⟨.tup [.str "all"],pS e (iE (by decide)),by decide,fun n hn=>(by revert hn;exact fun h=>nomatch h),hP⟩
theorem QR (e:H b=some (.tup [.str "way",.str x,.str y])) (hx:isName x=true) (hy:isName y=true) (mx:x∈ns) (my:y∈ns) (hP:P none):Ak H ns (.ref b) P:=by
 refine ⟨.tup [.str "way",.str x,.str y],vT e (iE (by decide)) (eM hx) (eM hy),?_,fun n hn=>?_,hP⟩
 ·rw [cN]
  show (decide (2=2)&&([Dt.str x,Dt.str y].all bw))=true
  simp [bw,hx,hy]
 ·have e1:dm (.tup [.str "way",.str x,.str y])=[x,y]:=rfl
  rw [e1] at hn
  simp only [Qp,QA,or_false] at hn
  rcases hn with rfl | rfl
  ·exact mx
  ·exact my
structure Al (H:Hp) (ns:List Str) (xs:List V) (ps:List (Str×Str)):Prop where
 len:xs.length=ps.length
 at_:∀ i (h:i < xs.length) (h':i < ps.length),∃ c,xs[i]=.ref c/\H c=some (.tup [.str ps[i].1,.str ps[i].2])
 nm:∀ p∈ps,isName p.1=true/\isName p.2=true/\p.2∈ns
 CD:rising (ps.map (·.1))=true
theorem wS {s:Str} {c:Addr} {xs:List V} {ps:List (Str×Str)} (hs:s="box"\/s="pick") (e:H b=some (.tup [.str s,.ref c])) (ec:H c=some (.tup xs)) (hn:xs.length<=1000) (h:Al H ns xs ps) (hP:P none):Ak H ns (.ref b) P:=by
 have hw:dj s=true:=by rcases hs with rfl | rfl<;>decide
 have Ja:s.length<=100:=by rcases hs with rfl | rfl<;>decide
 have tc:TX H (.ref c) (.tup (ps.map fun p=>.tup [.str p.1,.str p.2])):=.tup ec (by simp [h.len]) hn fun i h1 h2=>by
  have h3:i < ps.length:=by simpa using h2
  obtain ⟨c',q1,q2⟩:=h.at_ i h1 h3
  obtain ⟨m1,m2,_⟩:=h.nm _ (Qj h3)
  rw [q1]
  simp only [Qr]
  exact eO q2 (eM m1) (eM m2)
 have ef:(ps.map fun p:Str×Str=>Dt.tup [.str p.1,.str p.2]).map nv=ps.map (·.1):=by rw [Qn];rfl
 have es:(ps.map fun p:Str×Str=>Dt.tup [.str p.1,.str p.2]).map qt=ps.map (·.2):=by rw [Qn];rfl
 refine ⟨_,eO e (iE Ja) tc,?_,fun n hn=>?_,?_⟩
 ·rw [cN,if_pos hw]
  show qu (.tup (ps.map fun p=>.tup [.str p.1,.str p.2]))=true
  simp only [qu,Bool.and_eq_true]
  refine ⟨?_,by rw [ef];exact h.CD⟩
  rw [List.all_map,QF]
  intro p hp
  obtain ⟨m1,m2,_⟩:=h.nm p hp
  show pairD (.tup [.str p.1,.str p.2])=true
  simp [pairD,bw,m1,m2]
 ·have e1:dm (.tup [.str s,.tup (ps.map fun p=>.tup [.str p.1,.str p.2])])=if dj s then (ps.map fun p:Str×Str=>Dt.tup [.str p.1,.str p.2]).map qt else _:=rfl
  rw [e1,if_pos hw,es] at hn
  obtain ⟨p,hp,rfl⟩:=List.mem_map.mp hn
  exact (h.nm p hp).2.2
 ·exact hP
end
theorem toList_inj {a b:Str} (h:a.cps.toList=b.cps.toList):a=b:=by
 cases a;cases b
 simp at h
 rw [h]
theorem lA {a b c:Str} (h1:gv a b=true) (h2:gv b c=true):gv a c=true:=by
 unfold gv at*
 exact Qv (List.lt_trans (Qt h1) (Qt h2))
theorem kJ:∀ {ws:List Str},ws.Pairwise (fun a b=>gv a b=true)->rising ws=true
 | [],_=>rfl
 | [_],_=>rfl
 | a::b::r,h=>by
  rw [List.pairwise_cons] at h
  rw [rising,h.1 b List.mem_cons_self,kJ h.2];rfl
theorem kE:∀ {ss:List Str},sortedS ss=true->ss.Nodup->ss.Pairwise (fun a b=>gv a b=true)
 | [],_,_=>List.Pairwise.nil
 | [a],_,_=>List.pairwise_singleton _ _
 | a::b::r,h,nd=>by
  have h':sortedS (b::r)=true/\ltCps b.cps.toList a.cps.toList=false:=by
   have:(!ltCps b.cps.toList a.cps.toList&&risingS b r)=true:=h
   rw [Bool.and_eq_true,Bool.not_eq_true'] at this
   exact ⟨this.2,this.1⟩
  rw [List.nodup_cons] at nd
  have ih:=kE h'.1 nd.2
  have jv:gv a b=true:=by
   have h2:=h'.2
   rw [PyProof.Rows.ltCps_eq] at h2
   have h3:=Qu h2
   refine Qv (Classical.byContradiction fun h4=>?_)
   have:a=b:=toList_inj (List.le_antisymm (List.not_lt.mp h3) (List.not_lt.mp h4))
   exact nd.1 (by rw [this];exact List.mem_cons_self)
  rw [List.pairwise_cons] at ih
  refine List.pairwise_cons.mpr ⟨fun c hc=>?_,List.pairwise_cons.mpr ih⟩
  rcases Qp.mp hc with rfl | hc
  ·exact jv
  ·exact lA jv (ih.1 c hc)
def FY:V->Str
 | .str z=>z
 | _=>""
theorem QV {xs:List V} {rs:List (Str×V)} (q2:h_ H xs (aq rs)) (hn:∀ r∈rs,isName r.1=true) (q4:∀ r∈rs,∃ y,r.2=.str y/\y∈ns/\isName y=true) (hr:rising (rs.map (·.1))=true):Al H ns xs (rs.map fun q=>(q.1,FY q.2)):=by
 have hl:xs.length=rs.length:=by have:=q2.1;simpa using this
 refine ⟨by simp;omega,fun i h1 h2=>?_,fun q hq=>?_,?_⟩
 ·have h3:i < rs.length:=by omega
  obtain ⟨c',e1,e2⟩:=q2.2 i (by simpa using h3)
  rw [Qa h1] at e1
  refine ⟨c',QD e1,?_⟩
  obtain ⟨y,ey,_⟩:=q4 _ (Qj h3)
  simp only [Qr]
  rw [ey]
  have:H c'=some (.tup [.str rs[i].1,rs[i].2]):=by simpa [aq,kV] using e2
  rw [ey] at this
  exact this
 ·obtain ⟨q',DS,rfl⟩:=List.mem_map.mp hq
  obtain ⟨y,ey,my,ny⟩:=q4 q' DS
  refine ⟨hn q' DS,?_,?_⟩
  ·show isName (FY q'.2)=true
   rw [ey];exact ny
  ·show FY q'.2∈ns
   rw [ey];exact my
 ·rw [Qn];exact hr
theorem Al.tk {xs:List V} {ps:List (Str×Str)} (h:Al H ns xs ps) (s:Tk H H'):Al H' ns xs ps:=⟨h.len,fun i a b=>let ⟨c,h1,h2⟩:=h.at_ i a b;⟨c,h1,s _ _ h2⟩,h.nm,h.CD⟩
theorem xU {xs:List V} {rs:List (Str×V)} (q2:h_ H xs (aq rs)) {x:V} (hx:x∈xs):∃ b r,r∈rs/\x=.ref b/\H b=some (.tup [.str r.1,r.2]):=by
 obtain ⟨i,hi,rfl⟩:=Qi hx
 have hl:xs.length=rs.length:=by have:=q2.1;simpa using this
 have h3:i < rs.length:=by omega
 obtain ⟨c',e1,e2⟩:=q2.2 i (by simpa using h3)
 rw [Qa hi] at e1
 exact ⟨c',rs[i],Qj h3,QD e1,by simpa [aq,kV] using e2⟩
theorem oQ:∀ (tk:Nat) (xs:List Str),ao (xs.map V.str) (strsFrom tk xs)
 | _,[]=>.nil
 | tk,x::r=>.cons ⟨tk,rfl⟩ (oQ (tk+1) r)
def Jb:V->List V->Hp->VK->Prop:=fun x vs H Q=>match x,vs with
 | .str z,[.str y]=>y.length=1/\z.length<=1000000/\∀ D,H D=none->Q (.ref D) (upd H D (.lst ((Txt.split z y).map V.str)))
 | _,_=>False
theorem gK:uv X "str.split" Jb:=by
 intro pins s σ H x vs v us Q I rx rv h
 unfold Jb at h
 split at h
 ·next z y=>
  obtain ⟨hy,hz,q⟩:=h
  obtain ⟨t,rfl⟩:=(show ∃ t,v=Value.str z t from rx)
  obtain ⟨u,rfl,ru⟩:=rv.one
  obtain ⟨t',rfl⟩:=(show ∃ t,u=Value.str y t from ru)
  have hsz:sizeLine=16777216:=QL
  have Jc:(y.length==0)=false:=by rw [hy];rfl
  have hw:=split_weight z y (by omega)
  have hf:H s.heap.objs.size=none:=I.hok.fresh (Qy _)
  have fin:∀ (us:List Value) (tk:Nat),ao ((Txt.split z y).map V.str) us->EP X pins σ Q (.ref s.heap.objs.size) {s with heap:=s.heap.push {cls:=.type "list",data:=.seq us.toArray},toks:=tk}:=fun us tk rv=>by
   refine ⟨.ref s.heap.objs.size,_,I.laid (t':=tk) (o:=.lst ((Txt.split z y).map V.str)) (fun b o e=>Qc _ e) (Qy _) ⟨by rw [Ql];omega,us,0,rv,Qd _ rfl⟩,rfl,q _ hf⟩
  cases h1:(decide (z.length < y.length)||decide (Builtin.Str.strKind z < Builtin.Str.strKind y))
  ·cases h2:(Builtin.Str.occurrences z y 0 z.length (z.length+1)).isEmpty
   ·have es:Txt.split z y=Builtin.Str.partsBetween z (Builtin.Str.occurrences z y 0 z.length (z.length+1)) y.length:=(if_neg (ne_true_of_eq_false h1)).trans (if_neg (ne_true_of_eq_false h2))
    refine call_meets F.slot_str_split (typeIs_str _ _ _) F.entry_str_split (F.args_str_split_2 _ _) (meets_str_split_sep z y t t' h1 Jc h2 (by omega) (by rw [<- es];omega)) ?_
    rw [<- es]
    exact fin _ _ (oQ _ _)
   ·have es:Txt.split z y=[z]:=(if_neg (ne_true_of_eq_false h1)).trans (if_pos h2)
    exact call_meets F.slot_str_split (typeIs_str _ _ _) F.entry_str_split (F.args_str_split_2 _ _) (meets_str_split_not_found z y t t' h1 Jc h2) (fin [.str z t] s.toks (by rw [es];exact .cons ⟨t,rfl⟩ .nil))
  ·have es:Txt.split z y=[z]:=if_pos h1
   exact call_meets F.slot_str_split (typeIs_str _ _ _) F.entry_str_split (F.args_str_split_2 _ _) (meets_str_split_cannot_occur z y t t' h1) (fin [.str z t] s.toks (by rw [es];exact .cons ⟨t,rfl⟩ .nil))
 ·exact h.elim
theorem fJ (a b:Str):(a++b).cps.toList=a.cps.toList++b.cps.toList:=by
 show (a.cps++b.cps).toList=_
 simp
theorem z7 {c:Nat}:∀ {a b x y:List Nat},c ∉ a->c ∉ b->a++c::x=b++c::y->a=b/\x=y
 | [],[],_,_,_,_,h=>⟨rfl,by simpa using h⟩
 | [],d::b,_,_,_,h2,h=>by
  injection h with h3 h4
  exact (h2 (by rw [h3];exact List.mem_cons_self)).elim
 | d::a,[],_,_,h1,_,h=>by
  injection h with h3 h4
  exact (h1 (by rw [<- h3];exact List.mem_cons_self)).elim
 | d::a,e::b,_,_,h1,h2,h=>by
  injection h with h3 h4
  obtain ⟨h5,h6⟩:=z7 (fun z=>h1 (Qh _ z)) (fun z=>h2 (Qh _ z)) h4
  exact ⟨by rw [h3,h5],h6⟩
theorem fQ (sep a b:Str) (r:List Str):Str.join sep (a::b::r)=a++sep++Str.join sep (b::r):=rfl
theorem kP (sep a:Str):Str.join sep [a]=a:=rfl
theorem sE {c:Nat}:∀ {ps ls:List Str},ps≠[]->ls≠[]->(∀ p∈ps,c ∉ p.cps.toList)->(∀ p∈ls,c ∉ p.cps.toList)->Str.join ⟨#[c]⟩ ps=Str.join ⟨#[c]⟩ ls->ps=ls
 | [],_,h,_,_,_,_=>(h rfl).elim
 | _,[],_,h,_,_,_=>(h rfl).elim
 | [a],[b],_,_,_,_,h=>by rw [kP,kP] at h;rw [h]
 | [a],b::b'::r,_,_,h1,_,h=>by
  rw [kP,fQ] at h
  have:=h1 a List.mem_cons_self
  rw [h,fJ,fJ] at this
  exact (this (List.mem_append_left _ (List.mem_append_right _ (by simp)))).elim
 | a::a'::r,[b],_,_,_,h2,h=>by
  rw [kP,fQ] at h
  have:=h2 b List.mem_cons_self
  rw [<- h,fJ,fJ] at this
  exact (this (List.mem_append_left _ (List.mem_append_right _ (by simp)))).elim
 | a::a'::r,b::b'::r',_,_,h1,h2,h=>by
  rw [fQ,fQ] at h
  have e:=congrArg (fun z:Str=>z.cps.toList) h
  simp only [fJ,List.append_assoc] at e
  obtain ⟨e1,e2⟩:=z7 (x:=(Str.join ⟨#[c]⟩ (a'::r)).cps.toList) (y:=(Str.join ⟨#[c]⟩ (b'::r')).cps.toList) (h1 a List.mem_cons_self) (h2 b List.mem_cons_self) (by simpa using e)
  have:=sE (ps:=a'::r) (ls:=b'::r') (by simp) (by simp) (fun p hp=>h1 p (Qh _ hp)) (fun p hp=>h2 p (Qh _ hp)) (toList_inj e2)
  rw [toList_inj e1,this]
theorem kB (z:Str) (c:Nat):Txt.split z ⟨#[c]⟩≠[]:=by
 intro e
 have h:=StrLaws.join_split z ⟨#[c]⟩
 rw [e] at h
 have hz:z.length=0:=by rw [<- h];rfl
 have:Txt.split z ⟨#[c]⟩=[z]:=if_pos (by rw [hz];rfl)
 rw [this] at e
 cases e
theorem jO {ls:List Str} (h0:ls≠[]) (h:∀ p∈ls,c ∉ p.cps.toList):Txt.split (Txt.join ⟨#[c]⟩ ls) ⟨#[c]⟩=ls:=by
 refine sE (kB _ c) h0 (StrLaws.split_free _ c) h ?_
 rw [StrLaws.join_split]
 exact StrLaws.glued_eq_join _ _
theorem xS {x:V} {xs:List V} {Q:List Value->Shared->Prop} (hc:X.calm=true) (I:Inv X pins σ H s) (hq:ae X.K H a (x::xs))
  (h:∀ u D s',RelV x u->H D=none->Inv X pins σ (upd H D (.lst xs)) s'->Q [u,.ref D] s'):wpAny (model X.prog X.w) X.A (unpackItems (.ref a) 2 (some 1)) Q E s:=by
 obtain ⟨its,rv,pl,hz⟩:=I.list hq
 have hl:=pl.isList
 cases rv with
 | cons ru rr=>
  rename_i u us
  have hh:X.A.handled=none:=I.ok.hd hc
  have bh:a≠s.heap.objs.size:=by obtain ⟨o,ho,_⟩:=hl;exact Nat.ne_of_lt (Qz ho)
  have fq:=rr.length
  have ia:us.length+1<=sizeLine:=by simp at hz;omega
  unfold unpackItems
  refine QT ?_
  unfold notIterableAtAll
  refine QT (wpAny_specialOf hl.typeIs slot_list_iter.lookup ?_)
  refine QU ?_
  simp only [Bool.false_eq_true,if_false]
  refine QT (wpAny_holding (wpAny_pyIter_list hl ?_))
  refine QT (wpAny_holding (PySem.W.kun_draw bh 1 0 _ _ ⟨_,Qd _ rfl,rfl,rfl⟩ (hl.push _) (by simp) fun h₁ Ai hs₁=>?_))
  have Cy:h₁.IsList a (u::us).toArray:=(hl.push _).extBut hs₁.extBut bh
  rw [Nat.zero_add] at Ai
  have FP:=Ai
  obtain ⟨oi,FQ,_⟩:=FP
  have FS:=Cy
  obtain ⟨ol,qp,_⟩:=FS
  show wpAny _ _ (if ([u]:List Value).length < 1 then _ else _) _ _ _
  rw [if_neg (by simp)]
  refine QT (wpAny_holding (PySem.W.kun_collect (s:={s with heap:=h₁}) (T:="list_iterator") (.inr (.inr (.inl rfl))) (Walks.list (A:=X.A.in1) (by simp [hh]) s.heap.objs.size a bh (u::us).toArray) (fun j u st=>st.1.typeIs) (k:=1) (by simp) ⟨Ai,Cy⟩ (Qz FQ) (Qz qp) (fun h₂ tk hk=>?_) (by simp;omega)))
  show wpAny _ _ (if us.length < 2 - 1 - 1 then _ else _) _ _ _
  rw [if_neg (by simp)]
  show wpAny _ _ (newList (us.take us.length) >>=fun d=>pure ([u]++[d]++us.drop us.length)) _ _ _
  rw [Qo,List.drop_length]
  have I2:Inv X pins σ H {s with heap:=h₂,toks:=tk}:=I.kept (t':=tk) fun b o e=>hk b o (Nat.ne_of_lt (Qz e)) (hs₁.extBut b o (Nat.ne_of_lt (Qz e)) (Qc _ e))
  refine QT (wpAny_newObj_type (QU ?_) (by show us.toArray.size<=_;simp;omega))
  refine h u h₂.objs.size _ ru (I2.hok.fresh (Qy _)) (I2.laid (t':=tk) (o:=.lst xs) (fun b o e=>Qc _ e) (Qy _) ?_)
  exact ⟨by simp at hz;omega,us,0,rr,Qd _ rfl⟩
section
variable {e1 e2:Expr} {p pos:Pos} {k:Nat} {g1 g2:TG}
def QW (K:Q0) (g1 g2:TG):TG:=fun v σ H Q=>∃ a x xs,v=.ref a/\ae K H a (x::xs)/\∀ D,H D=none->g1 x σ (upd H D (.lst xs)) fun σ1 H1=>g2 (.ref D) σ1 H1 Q
theorem xB (K:Q0) (hc:X.calm=true) (h1:SG X e1 g1) (h2:SG X e2 g2) (hK:X.K=K:=by rfl) (he:assignEach [e1,.Starred e2 p] X.env=[(false,assign e1 X.env),(true,assign e2 X.env)]:=by rfl):SG X (.Tuple [e1,.Starred e2 p] k pos) (QW K g1 g2):=by
 subst hK
 constructor
 intro pins s σ H v u Q I r h
 obtain ⟨a,x,xs,rfl,hq,h⟩:=h
 cases r
 rw [assign_Tuple]
 refine QT (wpAny_standAt ?_)
 unfold unpack
 rw [he]
 refine QT (wpAny_holding (xS hc I hq fun u D s' ru hD I'=>?_))
 show wpAny _ _ (assignInOrder [assign e1 X.env,assign e2 X.env] [u,.ref D]) _ _ _
 refine assignInOrder_cons (aj (h1.h pins s' σ _ _ _ _ I' ru (h D hD)) ?_)
 rintro _ s1 ⟨σ1,H1,I1,q1⟩
 refine assignInOrder_cons (aj (h2.h pins s1 σ1 H1 (.ref D) (.ref D) _ I1 rfl q1) ?_)
 rintro _ s2 ⟨σ2,H2,I2,q2⟩
 exact assignInOrder_nil ⟨σ2,H2,I2,q2⟩
def Jd:List V->Hp->VK->Prop:=fun xs H Q=>∃ b,xs=[.bl b]/\Q (.int (if b then 1 else 0)) H
theorem yA:jd X (.type "int") Jd:=by
 intro pins s σ H xs us Q I r h
 obtain ⟨b,rfl,q⟩:=h
 obtain ⟨u,rfl,ru⟩:=r.one
 cases ru
 exact call_int_bool ⟨.int (if b then 1 else 0),H,I.tok _,⟨_,rfl⟩,q⟩
end
section
variable {t1 i1 t2 i2 elt:Expr} {pos:Pos} {QY:TI} {g2:TG}
end
theorem iJ {α β:Type} {f g:α->Option β}:∀ {l:List α},(∀ x∈l,f x=g x)->l.filterMap f=l.filterMap g
 | [],_=>rfl
 | a::l,h=>by rw [List.filterMap_cons,List.filterMap_cons,h a List.mem_cons_self,iJ fun x hx=>h x (Qh _ hx)]
theorem zV (xs:Array Value):((List.range xs.size).filterMap fun (k:Nat)=>xs[(((xs.size:Int) - 1)+(k:Int)*(-1)).toNat]?)=xs.toList.reverse:=by
 have e:((List.range xs.size).filterMap fun (k:Nat)=>xs[(((xs.size:Int) - 1)+(k:Int)*(-1)).toNat]?)=(List.range xs.size).map fun k=>xs.toList.reverse.getD k .none:=by
  rw [<- List.filterMap_eq_map]
  refine iJ fun k hk=>?_
  have Ac:=List.mem_range.mp hk
  have e1:(((xs.size:Int) - 1)+(k:Int)*(-1)).toNat=xs.size - 1 - k:=by omega
  rw [e1]
  have h1:xs.size - 1 - k < xs.size:=by omega
  have h2:k < xs.toList.reverse.length:=by simp;exact Ac
  show _=some (xs.toList.reverse.getD k .none)
  rw [Qb,Qa h2,List.getElem_reverse]
  simp [h1]
 rw [e]
 refine List.ext_getElem (by simp) fun i h1 h2=>?_
 rw [Qr,List.getElem_range,Qb,Qa h2];rfl
section
variable {st:Expr} {ts:TE} {p2 pos:Pos}
theorem ao.rev:∀ {xs:List V} {us:List Value},ao xs us->ao xs.reverse us.reverse
 | _,_,.nil=>.nil
 | _,_,.cons r rr=>by
  rw [List.reverse_cons,List.reverse_cons]
  exact (ao.rev rr).append (.cons r .nil)
end
inductive Hd where
 | one (s:Str)
 | as (y:Str)
 | way (x y:Str)
 | prs (s:Str) (ps:List (Str×Str))
def Hd.nx:Hd->Option Str
 | .as y=>some y
 | _=>none
def Hd.words:Hd->List Str
 | .one s=>[s]
 | .as y=>[y]
 | .way x y=>["way",x,y]
 | .prs s ps=>s::ps.flatMap fun p=>[p.1,p.2]
def Hd.ok (ns:List Str):Hd->Prop
 | .one s=>s="all"\/s="none"
 | .as y=>isName y=true/\y∈ns
 | .way x y=>isName x=true/\isName y=true/\x∈ns/\y∈ns
 | .prs s ps=>(s="box"\/s="pick")/\(∀ p∈ps,isName p.1=true/\isName p.2=true/\p.2∈ns)/\rising (ps.map (·.1))=true/\ps.length<=10
structure CF (H:Hp) (xs:List V) (ps:List (Str×Str)):Prop where
 len:xs.length=ps.length
 at_:∀ i (h:i < xs.length) (h':i < ps.length),∃ c,xs[i]=.ref c/\H c=some (.tup [.str ps[i].1,.str ps[i].2])
theorem CF.tk {xs:List V} {ps:List (Str×Str)} (h:CF H xs ps) (s:Tk H H'):CF H' xs ps:=⟨h.len,fun i a b=>let ⟨c,h1,h2⟩:=h.at_ i a b;⟨c,h1,s _ _ h2⟩⟩
inductive HV (H:Hp):V->Hd->Prop
 | one {b:Addr} {s:Str}:H b=some (.tup [.str s])->HV H (.ref b) (.one s)
 | as {b:Addr} {y:Str}:H b=some (.tup [.str "as",.str y])->HV H (.ref b) (.as y)
 | way {b:Addr} {x y:Str}:H b=some (.tup [.str "way",.str x,.str y])->HV H (.ref b) (.way x y)
 | prs {b c:Addr} {s:Str} {xs:List V} {ps:List (Str×Str)}:H b=some (.tup [.str s,.ref c])->H c=some (.tup xs)->CF H xs ps->HV H (.ref b) (.prs s ps)
theorem HV.tk {H H':Hp} (s:Tk H H') {v:V} {h:Hd} (q:HV H v h):HV H' v h:=by
 cases q with
 | one e=>exact .one (s _ _ e)
 | as e=>exact .as (s _ _ e)
 | way e=>exact .way (s _ _ e)
 | prs e e' p=>exact .prs (s _ _ e) (s _ _ e') (p.tk s)
structure HG (H:Hp) (ns:List Str) (v:V) (P:Option Str->Prop):Prop where
 ex:∃ h,HV H v h/\h.ok ns/\P h.nx
section
variable {v:V} {P:Option Str->Prop}
theorem HG.hd (h:HG H ns v P):Ak H ns v P:=by
 obtain ⟨d,h1,h2,h3⟩:=h.ex
 cases h1 with
 | one e=>
  rcases h2 with rfl | rfl
  ·exact QO e h3
  ·exact QN e h3
 | as e=>exact sM e h2.1 h2.2 h3
 | way e=>exact QR e h2.1 h2.2.1 h2.2.2.1 h2.2.2.2 h3
 | prs e e' p=>exact wS h2.1 e e' (by rw [p.len];have:=h2.2.2.2;omega) ⟨p.len,p.at_,h2.2.1,h2.2.2.1⟩ h3
end
def Hd.dt:Hd->Dt
 | .one s=>.tup [.str s]
 | .as y=>.tup [.str "as",.str y]
 | .way x y=>.tup [.str "way",.str x,.str y]
 | .prs s ps=>.tup [.str s,.tup (ps.map fun p=>.tup [.str p.1,.str p.2])]
theorem HV.tx {v:V} {h:Hd} (q:HV H v h) (ok:h.ok ns):TX H v h.dt:=by
 cases q with
 | one e=>exact pS e (iE (by rcases ok with rfl | rfl<;>decide))
 | as e=>exact eO e (iE (by decide)) (eM ok.1)
 | way e=>exact vT e (iE (by decide)) (eM ok.1) (eM ok.2.1)
 | @prs b c s xs ps e e' p=>
  have DT:=ok.2.2.2
  have hl:=p.len
  refine eO e (iE (by rcases ok.1 with rfl | rfl<;>decide)) (.tup e' (by simp [p.len]) (by omega) fun i h1 h2=>?_)
  have h3:i < ps.length:=by simpa using h2
  obtain ⟨c',q1,q2⟩:=p.at_ i h1 h3
  obtain ⟨m1,m2,_⟩:=ok.2.1 _ (Qj h3)
  rw [q1]
  simp only [Qr]
  exact eO q2 (eM m1) (eM m2)
abbrev ff:=Str×Hd
structure RV (H:Hp) (xs:List V) (rows:List ff):Prop where
 len:xs.length=rows.length
 at_:∀ i (h:i < xs.length) (h':i < rows.length),∃ b v,xs[i]=.ref b/\H b=some (.tup [.str rows[i].1,v])/\HV H v rows[i].2
theorem RV.tk {H H':Hp} {xs:List V} {rows:List ff} (h:RV H xs rows) (s:Tk H H'):RV H' xs rows:=⟨h.len,fun i a b=>let ⟨c,v,h1,h2,h3⟩:=h.at_ i a b;⟨c,v,h1,s _ _ h2,h3.tk s⟩⟩
def Je (r:ff):Dt:=.tup [.str r.1,r.2.dt]
def FZ (ns:List Str) (rows:List ff):Prop:=∀ r∈rows,isName r.1=true/\r.2.ok ns
def cy (r:ff):Str:=Txt.join " " (r.1::"="::r.2.words)
theorem l5 (h:isName z=true):32 ∉ z.cps.toList/\10 ∉ z.cps.toList:=by
 unfold isName at h
 simp only [Bool.and_eq_true] at h
 have ha:=QF.mp h.2
 have e1:nq 32=false:=by decide+kernel
 have e2:nq 10=false:=by decide+kernel
 exact ⟨(fun z=>by have:=ha 32 z;rw [e1] at this;cases this),(fun z=>by have:=ha 10 z;rw [e2] at this;cases this)⟩
theorem dP {r:ff} (h1:isName r.1=true) (h2:r.2.ok ns):∀ w∈r.1::"="::r.2.words,(32 ∉ w.cps.toList/\10 ∉ w.cps.toList)/\w.length<=8:=by
 have nm:∀ z:Str,isName z=true->(32 ∉ z.cps.toList/\10 ∉ z.cps.toList)/\z.length<=8:=fun z hz=>⟨l5 hz,eJ hz⟩
 intro w hw
 rcases Qp.mp hw with rfl | hw
 ·exact nm _ h1
 rcases Qp.mp hw with rfl | hw
 ·decide+kernel
 obtain ⟨n,hd⟩:=r
 cases hd with
 | one s=>
  rw [List.mem_singleton.mp hw]
  rcases h2 with rfl | rfl<;>decide+kernel
 | as y=>rw [List.mem_singleton.mp hw];exact nm _ h2.1
 | way x y=>
  simp only [Hd.words,Qp,QA,or_false] at hw
  rcases hw with rfl | rfl | rfl
  ·decide+kernel
  ·exact nm _ h2.1
  ·exact nm _ h2.2.1
 | prs s ps=>
  rcases Qp.mp hw with rfl | hw
  ·rcases h2.1 with rfl | rfl<;>decide+kernel
  ·obtain ⟨p,hp,hw⟩:=List.mem_flatMap.mp hw
   obtain ⟨m1,m2,_⟩:=h2.2.1 p hp
   simp only [Qp,QA,or_false] at hw
   rcases hw with rfl | rfl
   ·exact nm _ m1
   ·exact nm _ m2
theorem kT {h:Hd} (ok:h.ok ns):h.words.length<=21:=by
 cases h with
 | one s=>show 1<=21;omega
 | as y=>show 1<=21;omega
 | way x y=>show 3<=21;omega
 | prs s ps=>
  have DT:=ok.2.2.2
  have:(ps.flatMap fun p=>[p.1,p.2]).length=2*ps.length:=by
   clear ok DT
   induction ps with
   | nil=>rfl
   | cons p ps ih=>rw [List.flatMap_cons,Qk,ih];simp;omega
  show (ps.flatMap fun p=>[p.1,p.2]).length+1<=21
  omega
theorem mW {r:ff} (h1:isName r.1=true) (h2:r.2.ok ns):Txt.split (cy r) " "=r.1::"="::r.2.words:=
 jO (c:=32) (by simp) fun w hw=>(dP h1 h2 w hw).1.1
theorem wU {r:ff} (h1:isName r.1=true) (h2:r.2.ok ns):10 ∉ (cy r).cps.toList:=fun hc=>by
 rcases rM hc with hc | ⟨y,hy,hc⟩
 ·exact absurd hc (by decide+kernel)
 ·exact (dP h1 h2 y hy).1.2 hc
theorem QZ {m:Nat} (h:∀ y∈ys,y.length<=m):(ys.map (·.length)).sum<=ys.length*m:=by
 induction ys with
 | nil=>simp
 | cons y ys ih=>
  have h1:=h y List.mem_cons_self
  have h2:=ih fun z hz=>h z (Qh _ hz)
  simp only [List.map_cons,List.sum_cons,List.length_cons,Nat.add_mul,Nat.one_mul]
  omega
theorem tE {sep:Str} {m:Nat} (h:∀ y∈ys,y.length<=m):(Txt.join sep ys).length<=ys.length*(m+sep.length):=by
 have e:Txt.join sep ys=Str.join sep ys:=StrLaws.glued_eq_join _ _
 rw [e]
 clear e
 induction ys with
 | nil=>show 0<=_;omega
 | cons a r ih=>
  have h1:=h a List.mem_cons_self
  cases r with
  | nil=>
   show a.length<=_
   simp only [List.length_cons,List.length_nil,Nat.zero_add,Nat.one_mul]
   omega
  | cons b r=>
   have h2:=ih fun z hz=>h z (Qh _ hz)
   rw [fQ,Str.length_append,Str.length_append]
   simp only [List.length_cons,Nat.add_mul,Nat.one_mul] at h2 ⊢
   omega
theorem mC {r:ff} (h1:isName r.1=true) (h2:r.2.ok ns):(cy r).length<=207:=by
 have:=tE (sep:=" ") (m:=8) fun w hw=>(dP h1 h2 w hw).2
 have h3:=kT h2
 have h4:(r.1::"="::r.2.words).length<=23:=by simp only [List.length_cons];omega
 have h5:(" ":Str).length=1:=rfl
 unfold cy
 rw [h5] at this
 have:=Nat.mul_le_mul_right (8+1) h4
 omega
theorem RV.mem {xs:List V} {rows:List ff} (h:RV H xs rows) (hi:i < rows.length):∃ b v,xs.getD i .af=.ref b/\H b=some (.tup [.str rows[i].1,v])/\HV H v rows[i].2:=by
 have hl:=h.len
 obtain ⟨b,v,q1,q2,q3⟩:=h.at_ i (by omega) hi
 exact ⟨b,v,by rw [Qb,Qa (by omega),q1];rfl,q2,q3⟩
theorem vV (xs:List V) (a b:Nat) (ha:a<=xs.length) (hb:b<=xs.length):f_ xs (some (a:Int)) (some (b:Int))=(xs.drop a).take (b - a):=by
 unfold f_
 rw [HT.gX,HT.gX,Nat.min_eq_left ha,Nat.min_eq_left hb]
theorem yR (ps:List (Str×Str)):(ps.flatMap fun p=>[p.1,p.2]).length=2*ps.length:=by
 induction ps with
 | nil=>rfl
 | cons p ps ih=>rw [List.flatMap_cons,Qk,ih];simp;omega
theorem Q2 {K : Q0} {a : Addr} {xs : List V} {g : TG} {tb : TS} {D : Ends} {σ : St} {H : Hp} (h : H a = some (.lst xs) \/ H a = some (.tup xs)) (Pv : Nat -> St -> Hp -> Prop) (h0 : Pv 0 σ H) (hok : ∀ i τ H', i <= xs.length -> Pv i τ H' -> ∀ o, H a = some o -> H' a = some o)
    (hs : ∀ i σ H, i < xs.length -> Pv i σ H -> g (xs.getD i .af) σ H fun σ2 H2 => tb { D with nx := Pv (i + 1), ct := Pv (i + 1), bk := D.nx } σ2 H2) (hd : ∀ σ H, Pv xs.length σ H -> D.nx σ H) :
    ((∃ xs, ae K H a xs) /\ ∃ W : Nat -> Nat -> St -> Hp -> Prop, (∃ m, W 0 m σ H) /\ ∀ i m σ H, W i m σ H ->
      ((A5 K a).stop i H /\ D.nx σ H) \/ ((A5 K a).go i H /\ ∃ N : St -> Hp -> Prop, (∀ σ' H', N σ' H' -> ∃ m', m' < m /\ W (i + 1) m' σ' H') /\ ∀ x H', (A5 K a).ju i H x H' -> g x σ H' fun σ2 H2 => tb { D with nx := N, ct := N, bk := D.nx } σ2 H2)) \/
    ((∃ xs, ai K H a xs) /\ ∃ W : Nat -> Nat -> St -> Hp -> Prop, (∃ m, W 0 m σ H) /\ ∀ i m σ H, W i m σ H ->
      ((A6 K a).stop i H /\ D.nx σ H) \/ ((A6 K a).go i H /\ ∃ N : St -> Hp -> Prop, (∀ σ' H', N σ' H' -> ∃ m', m' < m /\ W (i + 1) m' σ' H') /\ ∀ x H', (A6 K a).ju i H x H' -> g x σ H' fun σ2 H2 => tb { D with nx := N, ct := N, bk := D.nx } σ2 H2)) := by
  rcases h with h | h
  · exact .inl ⟨⟨_, ae.of h⟩, dW (dH xs) Pv h0 (fun i τ H' hi p => ae.of (hok i τ H' hi p _ h)) hs hd⟩
  · exact .inr ⟨⟨_, ai.of h⟩, dW (cU xs) Pv h0 (fun i τ H' hi p => ai.of (hok i τ H' hi p _ h)) hs hd⟩
def Hd.pre:Hd->List Str
 | .one s=>[s]
 | .as _=>[]
 | .way _ _=>["way"]
 | .prs s _=>[s]
theorem HV.shape {v:V} {h:Hd} (q:HV H v h):(∃ (c:Addr) (x0:V) (ys:List Str),v=.ref c/\H c=some (.tup (x0::ys.map V.str))/\h.words=h.pre++ys/\ys.length<=2)\/(∃ (c c':Addr) (z:Str) (xs:List V) (ps:List (Str×Str)),v=.ref c/\h=.prs z ps/\H c=some (.tup [.str z,.ref c'])/\H c'=some (.tup xs)/\CF H xs ps):=by
 cases q with
 | @one c z e=>exact .inl ⟨c,.str z,[],rfl,e,rfl,by simp⟩
 | @as c y e=>exact .inl ⟨c,.str "as",[y],rfl,e,rfl,by simp⟩
 | @way c x y e=>exact .inl ⟨c,.str "way",[x,y],rfl,e,rfl,by simp⟩
 | @prs c c' z xs ps e e' p=>exact .inr ⟨c,c',z,xs,ps,rfl,rfl,e,e',p⟩
theorem Q3 (c:Nat) (h:97<=c/\c < 123):dh.cps.toList[c - 97]? =some c:=by
 have:∀ d:Fin 26,dh.cps.toList[d.val]? =some (97+d.val):=by decide+kernel
 have:=this ⟨c - 97,by omega⟩
 rw [this];congr 1;simp;omega
theorem yN (c:Nat) (h:97<=c/\c < 123):Builtin.Str.occurrences dh ⟨#[c]⟩ 0 dh.length 1=[c - 97]:=by
 have:∀ d:Fin 26,Builtin.Str.occurrences dh ⟨#[97+d.val]⟩ 0 dh.length 1=[d.val]:=by decide+kernel
 have:=this ⟨c - 97,by omega⟩
 simp only at this
 rw [show 97+(c - 97)=c by omega] at this
 exact this
section
variable {a b c:Expr} {p pos:Pos}
end
def Hd.ym:Hd->List Str
 | .prs _ ps=>ps.map (·.1)
 | _=>[]
structure jh (H:Hp) (ns ws:List Str) (v:V) (P:Option Str->Prop):Prop where
 ex:∃ h,HV H v h/\h.ok ns/\P h.nx/\∀ z∈h.ym,z∈ws
section
variable {v:V} {P:Option Str->Prop}
theorem jh.hg (h:jh H ns ws v P):HG H ns v P:=let ⟨d,h1,h2,h3,_⟩:=h.ex;⟨d,h1,h2,h3⟩
theorem jh.tk {H':Hp} (h:jh H ns ws v P) (s:Tk H H'):jh H' ns ws v P:=let ⟨d,h1,h2⟩:=h.ex;⟨d,h1.tk s,h2⟩
theorem jh.imp {P':Option Str->Prop} (h:jh H ns ws v P) (f:∀ o,P o->P' o):jh H ns ws v P':=let ⟨d,h1,h2,h3,h4⟩:=h.ex;⟨d,h1,h2,f _ h3,h4⟩
theorem jh.hd (h:jh H ns ws v P):Ak H ns v P:=h.hg.hd
theorem Q4 (e:H b=some (.tup [.str "as",.str y])) (hy:isName y=true) (hm:y∈ns) (hP:P (some y)):jh H ns ws (.ref b) P:=⟨.as y,.as e,⟨hy,hm⟩,hP,(fun _ h=>nomatch h)⟩
theorem zW (e:H b=some (.tup [.str "none"])) (hP:P none):jh H ns ws (.ref b) P:=⟨.one "none",.one e,.inr rfl,hP,(fun _ h=>nomatch h)⟩
theorem vL (e:H b=some (.tup [.str "all"])) (hP:P none):jh H ns ws (.ref b) P:=⟨.one "all",.one e,.inl rfl,hP,(fun _ h=>nomatch h)⟩
theorem Q5 (e:H b=some (.tup [.str "way",.str x,.str y])) (hx:isName x=true) (hy:isName y=true) (mx:x∈ns) (my:y∈ns) (hP:P none):jh H ns ws (.ref b) P:=⟨.way x y,.way e,⟨hx,hy,mx,my⟩,hP,(fun _ h=>nomatch h)⟩
theorem tP {s:Str} {c:Addr} {xs:List V} {ps:List (Str×Str)} (hs:s="box"\/s="pick") (e:H b=some (.tup [.str s,.ref c])) (ec:H c=some (.tup xs)) (hn:xs.length<=10) (h:Al H ns xs ps) (hw:∀ q∈ps,q.1∈ws) (hP:P none):jh H ns ws (.ref b) P:=
 ⟨.prs s ps,.prs e ec ⟨h.len,h.at_⟩,⟨hs,h.nm,h.CD,by rw [<- h.len];exact hn⟩,hP,fun z hz=>by obtain ⟨q,hq,rfl⟩:=List.mem_map.mp hz;exact hw q hq⟩
end
theorem pT (a:Str):gv a a=false:=by
 unfold gv
 exact Qw (List.lt_irrefl _)
def Bc (ns:List Str) (n:Str) (o:Option Str):Prop:=∀ y,o=some y->∃ (i j:Nat),i < j/\ns[i]? =some y/\ns[j]? =some n
structure qw (H:Hp) (ns ws:List Str) (rs:List (Str×V)):Prop where
 sub:∀ r∈rs,r.1∈ns
 hd:∀ r∈rs,jh H ns ws r.2 (Bc ns r.1)
theorem qw.tk {H H':Hp} {ns ws:List Str} {rs:List (Str×V)} (h:qw H ns ws rs) (s:Tk H H'):qw H' ns ws rs:=⟨h.sub,fun r hr=>(h.hd r hr).tk s⟩
theorem qw.perm {rs Jf:List (Str×V)} (h:qw H ns ws rs) (p:∀ r∈Jf,r∈rs):qw H ns ws Jf:=⟨fun r hr=>h.sub r (p r hr),fun r hr=>h.hd r (p r hr)⟩
theorem qw.add {rs:List (Str×V)} (h:qw H ns ws rs) {n:Str} {v:V} (h1:n∈ns) (h2:jh H ns ws v (Bc ns n)):qw H ns ws ((n,v)::rs):=by
 refine ⟨fun r hr=>?_,fun r hr=>?_⟩<;>rcases Qp.mp hr with rfl | hr
 ·exact h1
 ·exact h.sub r hr
 ·exact h2
 ·exact h.hd r hr
structure RT (H:Hp) (a:Addr) (xs:List V) (rows:List ff) (ns ws:List Str):Prop where
 at_:H a=some (.tup xs)
 rv:RV H xs rows
 nm:(rows.map (·.1)).Perm ns
 nd:ns.Nodup
 ok:FZ ns rows
 wd:∀ n∈ns,Wd n
 ah:∀ r∈rows,Bc ns r.1 r.2.nx
 ww:∀ r∈rows,∀ z∈r.2.ym,z∈ws
 pos:1<=ns.length
 few:ns.length<=14
section
variable {xs:List V} {rows:List ff}
theorem RT.tk (h:RT H a xs rows ns ws) (s:Tk H H'):RT H' a xs rows ns ws:=⟨s _ _ h.at_,h.rv.tk s,h.nm,h.nd,h.ok,h.wd,h.ah,h.ww,h.pos,h.few⟩
theorem RT.rl (h:RT H a xs rows ns ws):rows.length=ns.length:=by have:=h.nm.length_eq;simpa using this
theorem RT.of {rs:List (Str×V)} (e:H a=some (.tup xs)) (ps:h_ H xs (aq rs)) (nm:(rs.map (·.1)).Perm ns) (nd:ns.Nodup) (Jg:∀ n∈ns,isName n=true/\Wd n) (pos:1<=ns.length) (few:ns.length<=14) (g:qw H ns ws rs):∃ rows,RT H a xs rows ns ws:=by
 have hc:∀ i:Fin rs.length,∃ hd:Hd,HV H rs[i.val].2 hd/\hd.ok ns/\Bc ns rs[i.val].1 hd.nx/\∀ z∈hd.ym,z∈ws:=fun i=>(g.hd _ (Qj i.isLt)).ex
 obtain ⟨f,hf⟩:=Classical.axiomOfChoice hc
 have ji:xs.length=rs.length:=by have:=ps.1;simpa using this
 have en:(List.ofFn fun i:Fin rs.length=>((rs[i.val].1,f i):ff)).map (·.1)=rs.map (·.1):=by
  apply List.ext_getElem
  ·simp
  ·intro i h1 h2;simp
 have mem:∀ r∈(List.ofFn fun i:Fin rs.length=>((rs[i.val].1,f i):ff)),∃ i:Fin rs.length,r=(rs[i.val].1,f i):=fun r hr=>by
  obtain ⟨i,hi,rfl⟩:=Qi hr
  exact ⟨⟨i,by simpa using hi⟩,by simp⟩
 refine ⟨List.ofFn fun i=>(rs[i.val].1,f i),e,⟨by simp [ji],fun i h1 h2=>?_⟩,by rw [en];exact nm,nd,fun r hr=>?_,fun n hn=>(Jg n hn).2,fun r hr=>?_,fun r hr=>?_,pos,few⟩
 ·have h3:i < rs.length:=by omega
  obtain ⟨b,e1,e2⟩:=ps.2 i (by simpa using h3)
  rw [Qa h1] at e1
  refine ⟨b,rs[i].2,QD e1,?_,?_⟩
  ·simpa [aq,kV] using e2
  ·simpa using (hf ⟨i,h3⟩).1
 ·obtain ⟨i,rfl⟩:=mem r hr
  exact ⟨(Jg _ (g.sub _ (Qj i.isLt))).1,(hf i).2.1⟩
 ·obtain ⟨i,rfl⟩:=mem r hr
  exact (hf i).2.2.1
 ·obtain ⟨i,rfl⟩:=mem r hr
  exact (hf i).2.2.2
end
section
variable {xs ys:List V} {rows Wc:List ff} {We:List Str} {f g:Str->Str}
def Jh (rows:List ff) (x:Str):Hd:=((rows.find? fun r=>decide (r.1=x)).map (·.2)).getD (.one "")
def Q6 (rows:List ff) (x:Str):Option Str:=(Jh rows x).nx
end
theorem Q7 {d:Addr} {kvs:List (Key×V)} {v:V} (e:H d=some (.dK kvs)) (h:bu kvs (.inr x)=some v):ik H d (.str x) (some v):=by rw [<- h];exact ik.k (k:=Sum.inr x) e
theorem oH (c:Nat):nq c=decide (c∈dh.cps.toList):=StrLaws.found_one dh c
theorem nW {α:Type} (p:α->Bool):∀ l:List α,((l.takeWhile p).length=l.length↔l.all p=true)
 | []=>by simp
 | a::l=>by
  have ih:=nW p l
  rw [List.takeWhile_cons,List.all_cons]
  cases h:p a with
  | false=>simp
  | true=>simp only [if_true,List.length_cons,Nat.add_right_cancel_iff,Bool.true_and];exact ih
theorem yX (c:Nat):dh.cps.contains c=nq c:=by
 rw [oH,Bool.eq_iff_iff,Array.contains_iff_mem,decide_eq_true_eq,Array.mem_toList_iff]
theorem y6 (z:Str):(Txt.stripChars z dh=="")=z.cps.toList.all nq:=by
 have hz:z.cps.toList.length=z.length:=by simp [Str.length]
 have e0:Txt.stripChars z dh=Builtin.Str.strSub z (stripLo dh.cps.contains true z) (stripHi dh.cps.contains true z (stripLo dh.cps.contains true z)):=PyProof.Rows.stripBy_eq _ _ _ _
 obtain ⟨l1,l2,l3⟩:=PyProof.Rows.lo_facts dh.cps.contains z
 obtain ⟨h1,h2,h3,h4⟩:=PyProof.Rows.hi_facts dh.cps.contains z _ l1
 have hlo:stripLo dh.cps.contains true z=(z.cps.toList.takeWhile dh.cps.contains).length:=by simp [stripLo]
 have hall:(stripLo dh.cps.contains true z=z.length↔z.cps.toList.all nq=true):=by
  rw [hlo,<- hz,nW]
  have:(fun c=>dh.cps.contains c)=nq:=funext yX
  show z.cps.toList.all (fun c=>dh.cps.contains c)=true↔_
  rw [this]
 have hl:(Builtin.Str.strSub z (stripLo dh.cps.contains true z) (stripHi dh.cps.contains true z (stripLo dh.cps.contains true z))).cps.toList.length=stripHi dh.cps.contains true z (stripLo dh.cps.contains true z) - stripLo dh.cps.contains true z:=by
  rw [StrLaws.strSub_toList,List.length_take,List.length_drop,hz];omega
 rw [e0]
 generalize stripLo dh.cps.contains true z=lo at*
 generalize stripHi dh.cps.contains true z lo=hi at*
 cases ha:z.cps.toList.all nq with
 | true=>
  have:lo=z.length:=hall.mpr ha
  have e:(Builtin.Str.strSub z lo hi).cps.toList=[]:=List.length_eq_zero_iff.mp (by omega)
  rw [beq_iff_eq]
  exact toList_inj e
 | false=>
  have:lo≠z.length:=fun e=>by rw [hall.mp e] at ha;cases ha
  have bh:lo < hi:=by
   refine Nat.lt_of_not_le fun Ji=>?_
   have g1:=h3 lo (by omega) (by omega)
   rcases l3 with h | h
   ·exact this h
   ·rw [g1] at h;cases h
  refine beq_eq_false_iff_ne.mpr fun e=>?_
  rw [e] at hl
  have:(("":Str).cps.toList.length)=0:=rfl
  omega
def Jj:V->List V->Hp->VK->Prop:=fun x vs H Q=>match x,vs with
 | .str z,[.str y]=>z.length<=1000000/\Q (.str (Txt.stripChars z y)) H
 | _,_=>False
theorem yT:uv X "str.strip" Jj:=by
 intro pins s σ H x vs v us Q I rx rv h
 unfold Jj at h
 split at h
 ·next z y=>
  obtain ⟨hz,q⟩:=h
  obtain ⟨t,rfl⟩:=(show ∃ t,v=Value.str z t from rx)
  obtain ⟨u,rfl,ru⟩:=rv.one
  obtain ⟨t',rfl⟩:=(show ∃ t,u=Value.str y t from ru)
  have hsz:sizeLine=16777216:=QL
  exact SC.stripChars (fun t' k=>⟨.str _,H,I.kept (t':=k) (fun b o e=>e),⟨_,rfl⟩,q⟩) (by omega)
 ·exact h.elim
def Q8:R2:=fun x y H Q=>∃ a b:Str,x=.str a/\y=.str b/\Q (.bl (!gv b a)) H
theorem Q9:br X (compareOp .LtE) Q8:=by
 intro pins s σ H x y v u Q I rx ry h
 obtain ⟨a,b,rfl,rfl,q⟩:=h
 obtain ⟨t,rfl⟩:=(show ∃ t,v=Value.str a t from rx)
 obtain ⟨t',rfl⟩:=(show ∃ t,u=Value.str b t from ry)
 exact PySem.P.le_str (bD I q (by simp [gv]))
inductive DA (P:Addr->Prop) (H:Hp):Bool->V->PyData->Dt->Prop
 | str {m:Bool} {z:Str} (h:z.length<=100000):DA P H m (.str z) (.str z) (.str z)
 | af {m:Bool}:DA P H m .af .none .bj
 | bl {m:Bool} (b:Bool):DA P H m (.bl b) (.bool b) .bj
 | int {m:Bool} (i:Int):DA P H m (.int i) (.int i) .bj
 | tup {m:Bool} {a:Addr} {xs:List V} {ps:List PyData} {ds:List Dt}:P a->H a=some (.tup xs)->xs.length=ps.length->xs.length=ds.length->xs.length<=1000->(∀ i (h:i < xs.length) (h':i < ps.length) (Ct:i < ds.length),DA P H m xs[i] ps[i] ds[i])->DA P H m (.ref a) (.tuple ps) (.tup ds)
 | lst {a:Addr} {xs:List V} {ps:List PyData} {ds:List Dt}:P a->H a=some (.lst xs)->xs.length=ps.length->xs.length=ds.length->(∀ i (h:i < xs.length) (h':i < ps.length) (Ct:i < ds.length),DA P H true xs[i] ps[i] ds[i])->DA P H true (.ref a) (.list ps) .bj
 | Jk {a:Addr}:P a->H a=some (.dK [])->DA P H false (.ref a) (.dict []) .bj
 | Jl {a:Addr} {z:Str} {x:V} {p:PyData} {d:Dt}:P a->H a=some (.dK [(.inr z,x)])->DA P H false x p d->DA P H false (.ref a) (.dict [(.str z,p)]) .bj
theorem DA.dd {P:Addr->Prop} {m:Bool} {v:V} {p:PyData} (h:DA P H m v p d):DD H v d:=by
 induction h with
 | str h=>exact .str h
 | af=>exact .af
 | bl b=>exact .bl b
 | int i=>exact .int i
 | tup _ e h1 h2 h3 _ ih=>exact .tup e h2 h3 fun i a b=>ih i a (by omega) b
 | lst _ e h1 h2 _ ih=>exact .lst e
 | Jk _ e=>exact .dct e
 | Jl _ e _ ih=>exact .dct e
theorem l0 {h:Heap} {m:Bool}:∀ {xs:List V} {us:List Value} {ps:List PyData},ao xs us->xs.length=ps.length->(∀ i (a:i < xs.length) (b:i < ps.length) (u:Value),RelV xs[i] u->∃ as,Reads h u ps[i] as/\(m=true->ps[i].hasDict=false)/\(m=false->sysModules ∉ as))->∃ as,ReadsAll h us ps as/\(m=true->PyData.hasDictAll ps=false)/\(m=false->sysModules ∉ as)
 | [],_,[],.nil,_,_=>⟨[],.nil,(fun _=>by simp [PyData.hasDictAll]),(fun _=>by simp)⟩
 | x::xs,_,p::ps,.cons r rs,hl,q=>by
  obtain ⟨as,ra,a1,a2⟩:=q 0 (by simp) (by simp) _ r
  obtain ⟨bs,rb,b1,b2⟩:=l0 rs (by simpa using hl) fun i a b u ru=>q (i+1) (by simpa using a) (by simpa using b) u ru
  refine ⟨as++bs,.cons ra rb,fun hm=>?_,fun hm=>?_⟩
  ·have h1:p.hasDict=false:=a1 hm
   simp [PyData.hasDictAll,h1,b1 hm]
  ·rw [List.mem_append]
   exact fun z=>z.elim (a2 hm) (b2 hm)
theorem DA.reads {PP:Addr->Prop} (ok:cj P w H h) {m:Bool} {v:V} {p:PyData} (q:DA PP H m v p d):∀ u,RelV v u->∃ as,Reads h u p as/\(m=true->p.hasDict=false)/\(m=false->sysModules ∉ as):=by
 induction q with
 | @str m z _=>intro u r;obtain ⟨t,rfl⟩:=(show ∃ t,u=Value.str z t from r);exact ⟨[],.str z t,(fun _=>by simp [PyData.hasDict]),(fun _=>by simp)⟩
 | af=>intro u r;cases (show u=Value.none from r);exact ⟨[],.none,(fun _=>by simp [PyData.hasDict]),(fun _=>by simp)⟩
 | bl b=>intro u r;cases (show u=Value.bool b from r);exact ⟨[],.bool b,(fun _=>by simp [PyData.hasDict]),(fun _=>by simp)⟩
 | int i=>intro u r;obtain ⟨t,rfl⟩:=(show ∃ t,u=Value.int i t from r);exact ⟨[],.int i t,(fun _=>by simp [PyData.hasDict]),(fun _=>by simp)⟩
 | @tup m a xs ps ds _ e h1 h2 h3 _ ih=>
  intro u r
  cases (show u=Value.ref a from r)
  obtain ⟨_,its,rv,o,ho,hc,n,hd⟩:=(show be P w H h a (.tup xs) from ok a _ e)
  obtain ⟨as,ra,a1,a2⟩:=l0 (m:=m) rv h1 fun i x y u ru=>ih i x y (by omega) u ru
  exact ⟨as,.tuple ho hc hd (by simpa using ra),(fun hm=>by simp [PyData.hasDict,a1 hm]),a2⟩
 | @lst a xs ps ds _ e h1 h2 _ ih=>
  intro u r
  cases (show u=Value.ref a from r)
  obtain ⟨_,its,n,rv,ho⟩:=(show be P w H h a (.lst xs) from ok a _ e)
  obtain ⟨as,ra,a1,a2⟩:=l0 (m:=true) rv h1 fun i x y u ru=>ih i x y (by omega) u ru
  exact ⟨a::as,.list ho rfl rfl (by simpa using ra),(fun hm=>by simp [PyData.hasDict,a1 hm]),(fun hm=>by cases hm)⟩
 | @Jk a _ e=>
  intro u r
  cases (show u=Value.ref a from r)
  obtain ⟨_,hd,vs,rel,o,es,ep,ho,hx,Ba,hk,hp⟩:=o8 ok e
  cases rel
  obtain ⟨q1,_⟩:=hp
  have e0:es.toList=[]:=by cases hq:es.toList with
   | nil=>rfl
   | cons x l=>rw [hq] at q1;cases q1
  have r0:Reads h (.ref a) (.dict ([]:List (PyData×PyData))) (a::[]++[]):=.dict ho hx.1 Ba (by rw [e0];exact .nil) (by rw [e0];exact .nil)
  exact ⟨_,r0,(fun hm=>by cases hm),fun _=>by simpa using (Ne.symm (by simpa using hd):sysModules≠a)⟩
 | @Jl a z x p d _ e _ ih=>
  intro u r
  cases (show u=Value.ref a from r)
  obtain ⟨_,hd,vs,rel,o,es,ep,ho,hx,Ba,hk,hp⟩:=o8 ok e
  obtain ⟨q1,_⟩:=hp
  cases rel with
  | @cons _ kv _ _ r1 r2=>
   cases r2
   obtain ⟨k1,rv⟩:=r1
   generalize hes:es.toList=l at q1
   cases q1 with
   | @cons en kv l l' qk qv rest=>
    cases rest
    obtain ⟨as,ra,_,a2⟩:=ih _ rv
    have Fd:(dz P w).is (.inr z) en.key=true:=by
     have:kv.1=.inr z:=k1.symm
     rw [<- this];exact qk
    obtain ⟨t,et⟩:=(show ∃ t,en.key=Value.str z t from rK (k:=.inr z) Fd)
    have r0:Reads h (.ref a) (.dict [(.str z,p)]) (a::([]++[])++(as++[])):=.dict ho hx.1 Ba (by rw [hes];show ReadsAll h [en.key] [.str z] _;rw [et];exact .cons (.str z t) .nil) (by rw [hes];show ReadsAll h [en.val] [p] _;rw [qv];exact .cons ra .nil)
    refine ⟨_,r0,(fun hm=>by cases hm),fun _ hm=>?_⟩
    simp only [List.append_nil,Qp,List.cons_append,List.nil_append] at hm
    rcases hm with hm | hm
    ·exact (by simpa using hd:a≠sysModules) hm.symm
    ·exact a2 rfl hm
section
variable {P P':Addr->Prop} {m:Bool} {v:V} {k k' n':Nat} {xs:List V}
end
def CG:List V->Hp->VK->Prop:=fun xs H Q=>∃ (PP:Addr->Prop) (m:Bool) (v:V) (p:PyData) (d:Dt),xs=[v]/\DA PP H m v p d/\p.showable=true/\p.shown.length<=sizeLine/\p.depth<=60/\Q (.str p.shown) H
theorem mD (hg:X.A.guards=some []) (hu:X.A.units+64 < cLine):jd X (.builtin "repr") CG:=by
 intro pins s σ H xs us Q I r h
 obtain ⟨PP,m,v,p,d,rfl,hd,h1,h3,h4,q⟩:=h
 obtain ⟨u,rfl,ru⟩:=r.one
 obtain ⟨as,ra,a1,a2⟩:=hd.reads I.hok u ru
 have F0:p.hasDict=true->sysModules ∉ as:=fun hx=>by
  cases m with
  | true=>rw [a1 rfl] at hx;cases hx
  | false=>exact a2 rfl
 have fin:∀ (h':Heap) (u:Tok) (tk:Nat),(∀ b o,s.heap.get? b=some o->h'.get? b=some o)->EP X pins σ Q (.str p.shown u) {s with heap:=h',toks:=tk}:=fun h' u tk hk=>⟨.str p.shown,H,I.kept (t':=tk) hk,⟨u,rfl⟩,q⟩
 cases ra with
 | none=>exact PySem.P.repr_of_none (by simpa only [PyData.shown] using fin s.heap _ _ fun _ _ e=>e)
 | bool b=>exact PySem.P.repr_of_bool (by simpa only [PyData.shown] using fin s.heap _ _ fun _ _ e=>e)
 | int i t=>exact PySem.P.repr_of_int (by simpa [PyData.showable] using h1) (by simpa only [PyData.shown] using fin s.heap _ _ fun _ _ e=>e)
 | str x t=>exact PySem.P.repr_of_str (by simpa only [PyData.shown] using fin s.heap _ _ fun _ _ e=>e) (by simpa only [PyData.shown] using h3)
 | list e1 e2 e3 e4=>exact repr_of_reads' (.list e1 e2 e3 e4) h1 F0 hg (by omega) (fun _ _ e=>e) fin h3
 | tuple e1 e2 e3 e4=>exact repr_of_reads' (.tuple e1 e2 e3 e4) h1 F0 hg (by omega) (fun _ _ e=>e) fin h3
 | dict e1 e2 e3 e4 e5=>exact repr_of_reads' (.dict e1 e2 e3 e4 e5) h1 F0 hg (by omega) (fun _ _ e=>e) fin h3
section
variable {P:Addr->Prop} {m:Bool} {H0:Hp} {k:Nat}
end
theorem DA.of {P:Addr->Prop} {m:Bool} {v:V} (hP:∀ a xs,H a=some (.tup xs)->P a) (h:TX H v d):∀ {p:PyData},vf H v p->DA P H m v p d:=by
 induction h with
 | str h=>intro p q;cases q;exact .str h
 | tup e hl hn _ ih=>
  intro p q
  cases q with
  | tup e' fi q'=>
   rw [e] at e'
   cases e'
   exact .tup (hP _ _ e) e fi hl hn fun i a b c=>ih i a c (q' i a b)
section
variable {pos:Pos}
end
theorem rY (y:Str) (zs:List Str):mw (.str y) (zs.map V.str)=decide (y∈zs):=by
 rw [Bool.eq_iff_iff,decide_eq_true_iff]
 unfold mw
 rw [List.any_map,List.any_eq_true]
 constructor
 ·rintro ⟨a,ha,e⟩
  have e':(a==y)=true:=e
  rw [<- eq_of_beq e'];exact ha
 ·intro h
  exact ⟨y,h,(beq_self_eq_true y:(y==y)=true)⟩
theorem o7 (zs:List Str):(zs.map V.str).all kc=true:=by
 rw [List.all_map,QF]
 intro x _;rfl
def pe (zs:List Str):Dt->Bool | .str z=>decide (z∈zs) | _=>false
def kh (zs:List Str):Str->List Dt->Bool
 | _,[]=>true
 | last,.tup [a,b]::ds=>bw a&&gv last (jn a)&&pe zs b&&kh zs (jn a) ds
 | _,_::_=>false
def F1 (zs:List Str):List Dt->Bool
 | [.tup ps]=>kh zs "" ps
 | _=>false
theorem Q_:∀ {l:List Dt},l.length≠1->F1 zs l=false
 | [],_=>rfl
 | [_],h=>(h rfl).elim
 | x::y::r,_=>by cases x<;>rfl
def jj (zs:List Str):Dt->Bool
 | .tup (.str s::rest)=>if s=="all"||s=="none" then rest.isEmpty else if s=="way"||s=="as" then decide (rest.length=(if s=="way" then 2 else 1))&&rest.all (pe zs) else if dj s then F1 zs rest else false
 | _=>false
theorem zU (hz:∀ z∈zs,isName z=true) (d:Dt):pe zs d=(bw d&&decide (strOf d∈zs)):=by
 cases d with
 | str z=>
  show decide (z∈zs)=(isName z&&decide (z∈zs))
  by_cases h:z∈zs
  ·rw [Qv h,hz z h];rfl
  ·rw [Qw h,Bool.and_false]
 | _=>rfl
theorem vQ {zs:List Str} (hz:∀ z∈zs,isName z=true):∀ ds:List Dt,ds.all (pe zs)=(ds.all bw&&(ds.map strOf).all fun n=>decide (n∈zs))
 | []=>rfl
 | d::ds=>by
  rw [List.all_cons,List.all_cons,List.map_cons,List.all_cons,vQ hz ds,zU hz]
  cases bw d<;>cases decide (strOf d∈zs)<;>cases ds.all bw<;>rfl
theorem oM {zs:List Str} (hz:∀ z∈zs,isName z=true):∀ (ps:List Dt) (last:Str),kh zs last ps=(ps.all pairD&&rising (last::ps.map nv)&&(ps.map qt).all fun n=>decide (n∈zs))
 | [],_=>rfl
 | .str _::_,_=>rfl
 | .bj::_,_=>rfl
 | .tup []::_,_=>rfl
 | .tup [_]::_,_=>rfl
 | .tup (_::_::_::_)::_,_=>rfl
 | .tup [a,b]::ps,last=>by
  have ih:=oM hz ps (jn a)
  rw [kh,ih,zU hz,List.all_cons,List.map_cons,List.map_cons,List.all_cons]
  have e1:pairD (.tup [a,b])=(bw a&&bw b):=rfl
  have e2:qt (.tup [a,b])=strOf b:=by cases b<;>rfl
  have e3:bw a=true->nv (.tup [a,b])=jn a:=by
   intro h
   cases a with
   | str z=>rfl
   | _=>exact Bool.noConfusion h
  rw [e1,e2]
  cases ha:bw a with
  | false=>simp
  | true=>
   rw [e3 ha]
   have e4:rising (last::jn a::ps.map nv)=(gv last (jn a)&&rising (jn a::ps.map nv)):=rfl
   rw [e4]
   cases gv last (jn a)<;>cases bw b<;>cases decide (strOf b∈zs)<;>cases ps.all pairD<;>cases rising (jn a::ps.map nv)<;>rfl
theorem pF (h:∀ w∈ws,isName w=true):rising (""::ws)=rising ws:=by
 cases ws with
 | nil=>rfl
 | cons a r=>
  have:gv "" a=true:=by
   have h1:=h a List.mem_cons_self
   unfold isName at h1
   simp only [Bool.and_eq_true,decide_eq_true_eq] at h1
   have h2:=h1.1.1.1
   unfold gv
   refine Qv ?_
   cases hc:a.cps.toList with
   | nil=>
    have:a.length=0:=by rw [show a.length=a.cps.toList.length by simp [Str.length],hc];rfl
    omega
   | cons c l=>exact List.nil_lt_cons c l
  show (gv "" a&&rising (a::r))=_
  rw [this,Bool.true_and]
theorem xI (h:pairD d=true):isName (nv d)=true:=by
 match d,h with
 | .str _,h=>exact Bool.noConfusion h
 | .bj,h=>exact Bool.noConfusion h
 | .tup [],h=>exact Bool.noConfusion h
 | .tup [_],h=>exact Bool.noConfusion h
 | .tup (_::_::_::_),h=>exact Bool.noConfusion h
 | .tup [a,b],h=>
  simp only [pairD,Bool.and_eq_true] at h
  cases a with
  | str z=>exact h.1
  | tup _=>exact Bool.noConfusion h.1
  | bj=>exact Bool.noConfusion h.1
theorem Ra (hz:∀ z∈zs,isName z=true) (ps:List Dt):kh zs "" ps=(qu (.tup ps)&&(ps.map qt).all fun n=>decide (n∈zs)):=by
 rw [oM hz]
 show _=(ps.all pairD&&rising (ps.map nv)&&_)
 cases h:ps.all pairD with
 | false=>simp
 | true=>
  rw [pF fun w hw=>?_]
  obtain ⟨d,hd,rfl⟩:=List.mem_map.mp hw
  exact xI (QF.mp h d hd)
theorem zM (hz:∀ z∈zs,isName z=true) (d:Dt):jj zs d=(headD d&&(dm d).all fun n=>decide (n∈zs)):=by
 match d with
 | .str _=>rfl
 | .bj=>rfl
 | .tup []=>rfl
 | .tup (.tup _::_)=>rfl
 | .tup (.bj::_)=>rfl
 | .tup (.str s::rest)=>
  by_cases h1:(s=="all"||s=="none")=true
  ·have hw:dj s=false:=by
    rw [Bool.or_eq_true] at h1
    rcases h1 with h | h<;>rw [eq_of_beq h]<;>decide+kernel
   have hb:oh s=some 0:=by
    rw [Bool.or_eq_true] at h1
    rcases h1 with h | h<;>rw [eq_of_beq h]<;>decide+kernel
   simp only [jj,h1,if_true,headD,dm,hw,hb,Bool.false_eq_true,if_false]
   cases rest with
   | nil=>rfl
   | cons x r=>simp
  ·have lh:(s=="all"||s=="none")=false:=by simpa using h1
   by_cases h2:(s=="way"||s=="as")=true
   ·have hw:dj s=false:=by
     rw [Bool.or_eq_true] at h2
     rcases h2 with h | h<;>rw [eq_of_beq h]<;>decide+kernel
    have hb:oh s=some (if s=="way" then 2 else 1):=by
     rw [Bool.or_eq_true] at h2
     rcases h2 with h | h<;>rw [eq_of_beq h]<;>decide+kernel
    simp only [jj,lh,h2,if_true,headD,dm,hw,hb,Bool.false_eq_true,if_false]
    rw [vQ hz,Bool.and_assoc]
   ·have nc:(s=="way"||s=="as")=false:=by simpa using h2
    cases hw:dj s with
    | true=>
     simp only [jj,lh,nc,headD,dm,hw,if_true,Bool.false_eq_true,if_false]
     match rest with
     | []=>rfl
     | [.tup ps]=>exact Ra hz ps
     | [.str _]=>rfl
     | [.bj]=>rfl
     | x::y::r=>cases x<;>rfl
    | false=>
     have hb:oh s=none:=by
      have:∀ z:Str,(s=="all"||s=="none")=false->(s=="way"||s=="as")=false->oh s=none:=fun _ a b=>by
       simp only [Bool.or_eq_false_iff] at a b
       simp only [oh,a.1,a.2,b.1,b.2,Bool.false_eq_true,if_false]
      exact this s lh nc
     simp only [jj,lh,nc,headD,hw,hb,Bool.false_eq_true,if_false,Bool.false_and]
theorem kQ {nx:Str->Option Str}:∀ (a b:Nat) (x:Str),gg nx (a+b) x=gg nx b (gg nx a x)
 | 0,b,x=>by rw [Nat.zero_add];rfl
 | a+1,b,x=>by rw [show a+1+b=(a+b)+1 by omega];exact kQ a b (qo nx x)
theorem o9 {nx:Str->Option Str}:∀ (n:Nat) (x:Str),(jb nx n x=true↔∃ k,k < n/\nx (gg nx k x)=none)
 | 0,x=>by simp [jb]
 | n+1,x=>by
  rw [jb]
  cases e:nx x with
  | none=>simp only [true_iff];exact ⟨0,by omega,e⟩
  | some y=>
   have ih:=o9 (nx:=nx) n y
   have es:qo nx x=y:=by simp [qo,e]
   show jb nx n y=true↔_
   rw [ih]
   constructor
   ·rintro ⟨k,hk,h⟩
    exact ⟨k+1,by omega,by show nx (gg nx k (qo nx x))=none;rw [es];exact h⟩
   ·rintro ⟨k,hk,h⟩
    cases k with
    | zero=>rw [show gg nx 0 x=x from rfl,e] at h;cases h
    | succ k=>exact ⟨k,by omega,by rw [<- es];exact h⟩
theorem xX {nx:Str->Option Str} {S:List Str} (hS:∀ x∈S,∀ y,nx x=some y->y∈S) (hx:x∈S):jb nx S.length x=decide (nx (gg nx S.length x)=none):=by
 have jk:∀ k,gg nx k x∈S:=by
  intro k
  induction k with
  | zero=>exact hx
  | succ k ih=>
   rw [jE]
   unfold qo
   cases e:nx (gg nx k x) with
   | none=>exact ih
   | some y=>exact hS _ ih y e
 rw [Bool.eq_iff_iff,o9,decide_eq_true_iff]
 constructor
 ·rintro ⟨k,hk,h⟩
  rw [show S.length=k+(S.length - k) by omega,kQ,xK _ h]
  exact h
 ·intro h
  refine Classical.byContradiction fun Fi=>?_
  have hall:∀ k,k < S.length->nx (gg nx k x)≠none:=fun k hk e=>Fi ⟨k,hk,e⟩
  have Bd:¬((List.range (S.length+1)).map fun k=>gg nx k x).Nodup:=fun nd=>by
   have:=length_le_of_nodup_of_subset _ S nd fun a ha=>by
    obtain ⟨k,_,rfl⟩:=List.mem_map.mp ha
    exact jk k
   simp at this
   omega
  rw [List.Nodup,List.pairwise_map,List.pairwise_iff_getElem] at Bd
  refine Bd fun i j hi hj DU e=>?_
  simp only [List.length_range] at hi hj
  simp only [List.getElem_range] at e
  have e1:gg nx S.length x=gg nx (S.length - j+i) x:=by
   rw [show S.length=j+(S.length - j) by omega,kQ,<- e,<- kQ]
   congr 1
   omega
  rw [e1] at h
  exact hall _ (by omega) h
def Hd.Rb:Hd->List (List Str×Str)
 | .way x y=>[(["from"],x),(["to"],y)]
 | .prs s ps=>ps.map fun p=>([if s="box" then "part" else "case",p.1],p.2)
 | _=>[]
def endOf (rows:List ff) (x:Str):Str:=Pu (Q6 rows) rows.length x
def Rc (rows:List ff) (x:Str):List (List Str×Str):=(Jh rows (endOf rows x)).Rb.map fun m=>(m.1,endOf rows m.2)
structure Jm (K:Q0) (t:Addr×Obj×List V):Prop where
 lk:K.lookup t.1=some t.2.1
 ok:∃ (its:List Value) (n:Nat),t.2.1.cls=.type "tuple"/\t.2.1.dict=none/\t.2.1.data=.seq its.toArray n/\ao t.2.2 its/\t.2.2.length<=sizeLine
def without (K:Q0) (as:List Addr):Q0:=K.filter fun p=> !as.contains p.1
theorem dY {as:List Addr} {b:Addr}:∀ {K:Q0},(without K as).lookup b=if as.contains b=true then none else K.lookup b
 | []=>by unfold without;simp
 | (c,o)::K=>by
  have ih:=dY (as:=as) (b:=b) (K:=K)
  unfold without at ih ⊢
  rw [List.filter_cons]
  by_cases hc:as.contains c=true
  ·have h0:¬(!as.contains (c,o).1)=true:=by show ¬(!as.contains c)=true;rw [hc];decide
   rw [if_neg h0,ih]
   by_cases hb:as.contains b=true
   ·rw [if_pos hb,if_pos hb]
   ·have n:(b==c)=false:=by
     cases e:b==c with
     | false=>rfl
     | true=>rw [eq_of_beq e] at hb;exact absurd hc hb
    rw [if_neg hb,if_neg hb,List.lookup_cons,n]
  ·have h0:(!as.contains (c,o).1)=true:=by
    show (!as.contains c)=true
    cases q:as.contains c with
    | true=>exact absurd q hc
    | false=>rfl
   rw [if_pos h0,List.lookup_cons,List.lookup_cons,ih]
   cases e:b==c with
   | true=>
    have:¬as.contains b=true:=by rw [eq_of_beq e];exact hc
    show some o=if as.contains b=true then none else some o
    rw [if_neg this]
   | false=>rfl
def Jo (H:Hp):Prop:=∀ b,H b=none\/∃ o u,H b=some (.c_ o u)
def ig (ts:List (Addr×Obj×List V)) (G:Hp):Hp:=fun b=>match ts.find? fun t=>decide (t.1=b) with
 | some t=>some (.c_ t.2.1 (.tup t.2.2))
 | none=>G b
theorem zO {ts:List (Addr×Obj×List V)} {G:Hp} {t:Addr×Obj×List V} (h:t∈ts) (nd:(ts.map (·.1)).Nodup):ig ts G t.1=some (.c_ t.2.1 (.tup t.2.2)):=by
 induction ts with
 | nil=>cases h
 | cons a ts ih=>
  unfold ig
  rw [List.find?_cons]
  rw [List.map_cons,List.nodup_cons] at nd
  by_cases e:a.1=t.1
  ·rw [Qv e]
   rcases Qp.mp h with rfl | h
   ·rfl
   ·exact absurd (List.mem_map.mpr ⟨t,h,e.symm⟩) nd.1
  ·rw [Qw e]
   rcases Qp.mp h with rfl | h
   ·exact absurd rfl e
   ·exact ih h nd.2
theorem fT {ts:List (Addr×Obj×List V)} {G:Hp}:(∃ t∈ts,t.1=b/\ig ts G b=some (.c_ t.2.1 (.tup t.2.2)))\/((∀ t∈ts,t.1≠b)/\ig ts G b=G b):=by
 unfold ig
 cases q:ts.find? fun t=>decide (t.1=b) with
 | some t=>
  have h1:=List.mem_of_find?_eq_some q
  have h2:=List.find?_some q
  exact .inl ⟨t,h1,Qt h2,rfl⟩
 | none=>
  refine .inr ⟨fun t ht e=>?_,rfl⟩
  have:=List.find?_eq_none.mp q t ht
  simp [e] at this
theorem wH {K:Q0} {mb:Str->Option Value} {CX:qi} {k:Nat} {fa:Addr} {s₁:Shared} {vs:List Value} {ns:List Int} {ts:List (Addr×Obj×List V)}
  (hts:∀ t∈ts,Jm K t) (nd:(ts.map (·.1)).Nodup)
  (KX:K.In s₁.heap) (Be:s₁.heap.Ns mainGlobals mg) (hb:s₁.heap.Ns builtinsNs mb) (DV:∀ x:Str,x≠"__name__"->mb x=bootBuiltins x) (Rf:s₁.heap.NoLimit) (hg:s₁.gens=#[])
  (ha:s₁.heap.get? a=some {cls:=.type "list",data:=.seq vs.toArray}) (hi:IntsAre vs ns) (hl:ns.length<=sizeLine) (hr:fh k callerA)
  (F:∀ base:Heap,(without K (ts.map (·.1))).In base->base.Ns mainGlobals mg->oq P w (without K (ts.map (·.1))) mg base CX k fa fd [x] sp) (Rg:∀ (s:Shared) (u:Value),BindsTo s fd ⟨[u],[]⟩ [(x,u)])
  (uu:∀ H:Hp,Jo H->(∀ t∈ts,H t.1=some (.c_ t.2.1 (.tup t.2.2)))->ae (without K (ts.map (·.1))) H a (ns.map V.int)->sp [.ref a] H (fun v _=>v=.bl true) fun _ _ _=>False)
  (Rh:∀ H e s',CX [] H s₁ (fun _ _ _=>False) e s'->False):
  codeAny (model P w) callerA (.call (.ref fa) ⟨[.ref a],[]⟩) (fun r s'=>r=.ok (.ret (.bool true))/\OldK s₁.heap s'.heap/\s'.os=s₁.os/\AllBare s'.gens) s₁:=by
 have rv:=oS hi
 have Ri:=hi.length
 have F2:∀ t∈ts,s₁.heap.get? t.1=some t.2.1:=fun t ht=>KX _ _ (hts t ht).lk
 have Jp:∀ t∈ts,t.1≠a:=fun t ht e=>by
  obtain ⟨its,n,h1,_⟩:=(hts t ht).ok
  have:=F2 t ht
  rw [e,ha] at this
  rw [<- QD this] at h1
  injection h1 with h2
  exact absurd h2 (by decide)
 have core:∀ G:Hp,(∀ b,G b≠none->b=a)->(G a≠none->K.lookup a=none)->(∀ b,G b=none\/∃ o u,G b=some (.c_ o u))->ae (without K (ts.map (·.1))) (ig ts G) a (ns.map V.int)->(∀ u,G a=some u->∀ H,be P w H s₁.heap a u)->
   codeAny (model P w) callerA (.call (.ref fa) ⟨[.ref a],[]⟩) (fun r s'=>r=.ok (.ret (.bool true))/\OldK s₁.heap s'.heap/\s'.os=s₁.os/\AllBare s'.gens) s₁:=by
  intro G hG hK hF hS hO
  have AX:∀ b,ig ts G b≠none->b=a\/∃ t∈ts,t.1=b:=fun b q=>by
   rcases fT (ts:=ts) (G:=G) (b:=b) with ⟨t,ht,e,_⟩ | ⟨_,e⟩
   ·exact .inr ⟨t,ht,e⟩
   ·rw [e] at q;exact .inl (hG b q)
  have c_:Jo (ig ts G):=fun b=>by
   rcases fT (ts:=ts) (G:=G) (b:=b) with ⟨t,ht,e,q⟩ | ⟨_,q⟩
   ·exact .inr ⟨_,_,q⟩
   ·rw [q];exact hF b
  have hok:cj P w (ig ts G) s₁.heap:=fun b u q=>by
   rcases fT (ts:=ts) (G:=G) (b:=b) with ⟨t,ht,e,q'⟩ | ⟨_,q'⟩
   ·rw [q'] at q
    cases q
    obtain ⟨its,n,h1,h2,h3,h4,h5⟩:=(hts t ht).ok
    have o1:=F2 t ht
    rw [e] at o1
    exact ⟨o1,⟨h5,fun o z=>by rw [o1] at z;cases z;exact h2⟩,its,h4,t.2.1,o1,h1,n,h3⟩
   ·rw [q'] at q
    have e:=hG b (by rw [q];simp)
    subst e
    exact hO u q _
  have Jq:∀ {b:Addr} {o:Obj},s₁.heap.get? b=some o->ig ts G b=none->(wc s₁.heap (ig ts G)).get? b=some o:=fun e n=>zJ e n
  have B6:∀ {b:Addr} {o:Obj} {es:Array DictEntry} {ep:Nat},s₁.heap.get? b=some o->o.data=.dict es ep->ig ts G b=none:=fun {b o es ep} e d=>by
   cases q:ig ts G b with
   | none=>rfl
   | some u=>
    rcases AX b (by rw [q];simp) with z | ⟨t,ht,z⟩
    ·subst z
     rw [ha] at e;cases e
     cases d
    ·have o1:=F2 t ht
     rw [z,e] at o1
     cases o1
     obtain ⟨its,n,h1,h2,h3,_⟩:=(hts t ht).ok
     rw [d] at h3;cases h3
  have DW:∀ {b:Addr} {m:Str->Option Value},s₁.heap.Ns b m->(wc s₁.heap (ig ts G)).Ns b m:=fun {b m} ⟨o,es,ep,e,d,r⟩=>⟨o,es,ep,Jq e (B6 e d),d,r⟩
  have Jr:(without K (ts.map (·.1))).In (wc s₁.heap (ig ts G)):=fun b o e=>by
   rw [dY] at e
   by_cases hc:(ts.map (·.1)).contains b=true
   ·rw [if_pos hc] at e;cases e
   ·rw [if_neg hc] at e
    refine Jq (KX b o e) ?_
    cases q:ig ts G b with
    | none=>rfl
    | some u=>
     rcases fT (ts:=ts) (G:=G) (b:=b) with ⟨t,ht,z,_⟩ | ⟨_,q'⟩
     ·exact absurd (by rw [List.contains_iff_mem];exact List.mem_map.mpr ⟨t,ht,z⟩) hc
     ·rw [q'] at q
      have z:=hG b (by rw [q];simp)
      subst z
      rw [hK (by rw [q];simp)] at e;cases e
  have hM:Mod (without K (ts.map (·.1))) mg (wc s₁.heap (ig ts G)):=⟨Jr,DW Be,⟨mb,DW hb,DV⟩,let ⟨mc,h1,h2⟩:=Rf;⟨mc,DW h1,h2⟩⟩
  have e0:zz P w (without K (ts.map (·.1))) mg (wc s₁.heap (ig ts G)) callerA [] s₁ (ig ts G):=⟨rfl,hM,fun b o e=>LQ e,Nat.le_of_eq (y8 _ _),trivial,fun b hb=>absurd (show b∈([]:List Addr) from hb) (by simp),hok,.of_eq hg⟩
  refine codeAny_mono ((F _ Jr (DW Be)).run callerA [] s₁ (ig ts G) ⟨[.ref a],[]⟩ [.ref a] [.ref a] _ _ hr e0 (Rg s₁ (.ref a)) (.cons rfl .nil) (uu (ig ts G) c_ (fun t ht=>zO ht nd) hS)) fun r s' h=>?_
  cases r with
  | error e=>exact (Rh _ e s' h).elim
  | ok fl=>
   cases fl with
   | next=>exact False.elim h
   | brk=>exact False.elim h
   | cont=>exact False.elim h
   | ret u=>
    obtain ⟨v,H',os,bare,un,DX,r',q⟩:=h
    have q':v=.bl true:=q
    subst q'
    obtain rfl:u=Value.bool true:=r'
    refine ⟨rfl,OldK.of_keep fun b o e=>?_,os,bare⟩
    cases q:ig ts G b with
    | none=>exact un.keep b o e q (by intro z;exact absurd (show b∈([]:List Addr) from z) (by simp)) (by simp)
    | some u=>
     rcases c_ b with z | ⟨ob,u',z⟩
     ·rw [q] at z;cases z
     ·have z2:=un.jz b ob _ z
      obtain ⟨e1,_⟩:=hok b _ z
      obtain ⟨e2,_⟩:=DX b _ z2
      rw [e] at e1;cases e1
      exact e2
 have Rj:¬(ts.map (·.1)).contains a=true:=fun h=>by
  rw [List.contains_iff_mem] at h
  obtain ⟨t,ht,e⟩:=List.mem_map.mp h
  exact Jp t ht e
 have F3:∀ G:Hp,ig ts G a=G a:=fun G=>by
  rcases fT (ts:=ts) (G:=G) (b:=a) with ⟨t,ht,e,_⟩ | ⟨_,q⟩
  ·exact absurd e (Jp t ht)
  ·exact q
 cases hk:K.lookup a with
 | some o=>
  have e:=KX a o hk
  rw [ha] at e
  cases e
  exact core (fun _=>none) (fun b z=>absurd rfl z) (fun z=>absurd rfl z) (fun _=>.inl rfl) (.inr ⟨_,vs.toArray,_,by rw [dY,if_neg Rj];exact hk,rfl,rfl,rfl,by rw [List.size_toArray,Ri];exact hl,by simpa using rv⟩) fun u z=>by cases z
 | none=>
  refine core (fun b=>if b=a then some (.c_ {cls:=.type "list",data:=.seq vs.toArray} (.lst (ns.map V.int))) else none) (fun b z=>?_) (fun _=>hk) (fun b=>?_) (.inl (.inr ⟨{cls:=.type "list",data:=.seq vs.toArray},by rw [F3];exact if_pos rfl⟩)) fun u z H=>?_
  ·by_cases hb:b=a
   ·exact hb
   ·exact absurd (if_neg hb) z
  ·by_cases hb:b=a
   ·exact .inr ⟨_,_,if_pos hb⟩
   ·exact .inl (if_neg hb)
  ·have z':=(if_pos rfl).symm.trans z
   cases z'
   exact ⟨ha,by rw [Ql];exact hl,vs,_,rv,ha⟩
def adr (mg:Str->Option Value) (x:Str):Addr:=match mg x with
 | some (.ref a)=>a
 | _=>0
section
variable {iter kx vx:Expr} {pos:Pos} {tk tw:TE}
end
section
variable {o value:Expr} {ta tv:TE} {f:Str} {pos pos' p:Pos} {k:Nat}
end
section
variable {k:Nat} {yb:Pos} {o:Expr}
end
end L2
namespace PySem
end PySem
namespace L2
open PySem PySem.Spec PyProof.Rows
theorem ja.inj {xs ys:List V} (h:ja H a xs) (h':ja H a ys):xs=ys:=by
 rcases h with h | ⟨o,h⟩<;>rcases h' with h' | ⟨o',h'⟩<;>(rw [h] at h';cases h')<;>rfl
theorem lC {α β:Type} (p:α->Bool) (q:β->Bool):∀ (xs:List α) (ys:List β),xs.length=ys.length->(∀ i (h:i < xs.length) (h':i < ys.length),p xs[i]=q ys[i])->xs.countP p=ys.countP q
 | [],[],_,_=>rfl
 | x::xs,y::ys,hl,h=>by
  have h0:=h 0 (by simp) (by simp)
  simp only [List.getElem_cons_zero] at h0
  rw [List.countP_cons,List.countP_cons,h0,lC p q xs ys (by simpa using hl) fun i a b=>by
   have:=h (i+1) (Nat.succ_lt_succ a) (Nat.succ_lt_succ b)
   simp only [List.getElem_cons_succ] at this
   exact this]
 | [],_::_,hl,_=>by simp at hl
 | _::_,[],hl,_=>by simp at hl
section
variable {o:Expr}
end
theorem p8 {a0:Expr} {n:Str} {gz:Pos} (ha:SE X (.Attribute a0 n gz) te) (hr:SA X es t):SA X (.Attribute a0 n gz::es) (fu te t):=⟨dM ha.h hr.h⟩
theorem uG {K:Q0} {as:List Addr} (x:K.In h):(without K as).In h:=fun a o e=>by
 rw [dY] at e
 by_cases hc:as.contains a=true
 ·rw [if_pos hc] at e;cases e
 ·rw [if_neg hc] at e;exact x a o e
end L2
set_option autoImplicit false
namespace L2
open PySem PySem.Spec PySem.W PyProof.Rows
def F4:Data->Bool
 | .freed=>false
 | _=>true
def Am:Nat->List Obj->Frag
 | _,[]=>[]
 | n,o::os=>if F4 o.data then (n,o)::Am (n+1) os else Am (n+1) os
def F5 (h:Heap):Frag:=Am 0 h.objs.toList
theorem iG:∀ {os:List Obj} {n a:Nat} {o:Obj},(Am n os).lookup a=some o->n<=a/\os[a - n]? =some o/\F4 o.data=true
 | [],n,a,o,h=>by simp [Am] at h
 | x::os,n,a,o,h=>by
  unfold Am at h
  have next:(Am (n+1) os).lookup a=some o->n<=a/\(x::os)[a - n]? =some o/\F4 o.data=true:=fun h=>by
   obtain ⟨h1,h2,h3⟩:=iG h
   refine ⟨by omega,?_,h3⟩
   obtain ⟨k,hk⟩:∃ k,a - n=k+1:=⟨a - n - 1,by omega⟩
   rw [hk,List.getElem?_cons_succ,<- h2]
   congr 1;omega
  split at h
  ·rename_i hf
   rw [List.lookup_cons] at h
   split at h
   ·rename_i e
    obtain rfl:a=n:=by simpa using e
    cases h
    exact ⟨Qy _,by simp,hf⟩
   ·exact next h
  ·exact next h
theorem uJ (h:Heap):(F5 h).In h:=fun a o e=>by
 obtain ⟨_,h2,h3⟩:=iG e
 have nc:h.objs[a]? =some o:=by rw [<- Array.getElem?_toList];simpa using h2
 unfold Heap.get?
 rw [nc]
 obtain ⟨c,d,dt,sl⟩:=o
 cases dt<;>first | rfl | cases h3
def qx {α:Type} (look:Frag->α) (want:World->α):Hook where
 α:=α
 obs s:=look (F5 s.heap)
 val:=want
 says w h:=∃ K:Frag,K.In h/\look K=want w
 of:=fun w s e=>⟨F5 s.heap,uJ _,e⟩
 keeps:=fun w h h' ⟨K,x,e⟩ k=>⟨K,fun a o l=>k a o (x a o l),e⟩
theorem Rk {p q:Program} {Xt:Shared->Bool} {Yf:Shared->α} {Ya:World->α} {N:Nat} {g0:Bool} (row:String)
  (hF:∀ w:World,(openEnds treeTable p (w.withFollow row false) N).map (fun s=>(openSeen q loose (importedModules p.main.body) Xt g0 s,Yf s))=some (openGood q loose,Ya (w.withFollow row false)))
  (hT:∀ w:World,(openEnds treeTable p (w.withFollow row true) N).map (fun s=>(openSeen q loose (importedModules p.main.body) Xt g0 s,Yf s))=some (openGood q loose,Ya (w.withFollow row true))):LeftO p q loose Xt Yf Ya N g0:=fun w=>by
 have e:=World.withFollow_self w row
 cases hb:w.params.followText row<;>rw [hb] at e
 ·have:=hF w;rw [e] at this;exact this
 ·have:=hT w;rw [e] at this;exact this
abbrev An:=Str×Str×Arguments×FuncBody×Scope×Addr×List (Str×Addr)×Value×Addr×Bool
def fnAt (K:Frag) (q:Str):Option (Option Value)->Option An
 | some (some (.ref f))=>(match K.lookup f with
  | some ⟨_,_,.func fd,_⟩=>some (fd.name,fd.qualname,fd.params,fd.body,fd.scope,fd.globals,fd.closure,fd.defaults,fd.builtins,codeIn K fd.code q)
  | _=>none)
 | _=>none
def Ao (x q:Str) (st:Stmt):An:=(x,q,mz st,.stmts (jf st),au st,mainGlobals,[],.none,builtinsNs,true)
def yn (K:Frag):List (Str×Stmt)->List (Option An)
 | []=>[]
 | x::l=>fnAt K x.1 (nsIn K mainGlobals x.1)::yn K l
def yo:List (Str×Stmt)->List (Option An)
 | []=>[]
 | x::l=>some (Ao x.1 x.1 x.2)::yo l
def DY (K:Frag) (x:Str):Option V:=match nsIn K mainGlobals x with
 | some (some v)=>wj v
 | _=>none
def DZ (K:Frag):List (Str×V)->List (Option V)
 | []=>[]
 | x::l=>DY K x.1::DZ K l
def D4:List (Str×V)->List (Option V)
 | []=>[]
 | x::l=>some x.2::D4 l
abbrev Bf:=Value×Option Addr×List (Option V)
def D5:List Value->List (Option V)
 | []=>[]
 | v::l=>wj v::D5 l
def D6:List V->List (Option V)
 | []=>[]
 | v::l=>some v::D6 l
def CH (K:Frag):Value->Option Bf
 | .ref a=>(match K.lookup a with
  | some ⟨c,d,.seq it _,_⟩=>some (c,d,D5 it.toList)
  | _=>none)
 | _=>none
def yq (xs:List V):Bf:=(.type "tuple",none,D6 xs)
def D7 (K:Frag) (x:Str):Option Bf:=match nsIn K mainGlobals x with
 | some (some v)=>CH K v
 | _=>none
def D8 (K:Frag):List (Str×List V)->List (Option Bf)
 | []=>[]
 | x::l=>D7 K x.1::D8 K l
def D9:List (Str×List V)->List (Option Bf)
 | []=>[]
 | x::l=>some (yq x.2)::D9 l
def Bg (K:Frag):List Str->Bool
 | []=>true
 | x::l=>(match nsIn K mainGlobals x with | some none=>true | _=>false)&&Bg K l
section
variable {K:Frag}
theorem iM {v:Value} {x:V} (e:wj v=some x):RelV x v:=by
 cases v<;>first | (cases e;first | rfl | exact ⟨_,rfl⟩) | cases e
theorem oP:∀ {us:List Value} {xs:List V},D5 us=D6 xs->ao xs us
 | [],[],_=>.nil
 | [],_::_,e=>by cases e
 | _::_,[],e=>by cases e
 | u::us,x::xs,e=>by
  have e':=List.cons.inj (show wj u::D5 us=some x::D6 xs from e)
  exact .cons (iM e'.1) (oP e'.2)
theorem vK {q:Str} {st:Stmt} {v:Option (Option Value)} (e:fnAt K q v=some (Ao x q st)):∃ f fd,v=some (some (.ref f))/\yd K x q st f fd:=by
 unfold fnAt at e
 split at e
 ·rename_i f
  split at e
  ·rename_i oc od fd g_ hl
   have e:=QD e
   unfold Ao at e
   obtain ⟨n,qn,ps,b,sc,gl,cl,df,kd,doc,pm,an,cd,ct,bt⟩:=fd
   simp only [Prod.mk.injEq] at e
   obtain ⟨rfl,rfl,rfl,rfl,rfl,rfl,rfl,rfl,rfl,hc⟩:=e
   refine ⟨f,_,rfl,NK hl hc ?_⟩
   unfold keepIn
   simp only [hl]
  ·cases e
 ·cases e
theorem vF:∀ {l:List (Str×Stmt)},yn K l=yo l->∀ (i:Nat) {x:Str} {st:Stmt},l[i]? =some (x,st)->fnAt K x (nsIn K mainGlobals x)=some (Ao x x st)
 | y::l,e,0,x,st,h=>by cases h;exact (List.cons.inj e).1
 | y::l,e,i+1,x,st,h=>vF (List.cons.inj e).2 i (by simpa using h)
theorem oY (X:K.In h) (G:h.Ns mainGlobals mg) {l:List (Str×Stmt)} (e:yn K l=yo l) (i:Nat) {st:Stmt} (hi:l[i]? =some (x,st))
  (hb:∀ (kV doc pm:Value) (an:Option Addr) (ak ct:Value) (us:List Value),us.length=ps.length->bindArgs (fnOf x x (mz st) (jf st) (au st) .none kV doc pm an ak ct) ⟨us,[]⟩=pure (ps.zip us)):dc K mg x st ps:=by
 obtain ⟨f,fd,e1,F⟩:=vK (vF e i hi)
 exact ⟨f,fd,F,mg_of X G e1,F.binds hb⟩
variable {st:Stmt} {l:List (Str×Stmt)} {p0 p1 p2 p3 p4 p5 p6:Str}
theorem qy (h:us.length=n+1):∃ a t,us=a::t/\t.length=n:=by
 cases us with
 | nil=>cases h
 | cons a t=>exact ⟨a,t,rfl,by simpa using h⟩
theorem ip (X:K.In h) (G:h.Ns mainGlobals mg) (e:yn K l=yo l) (i:Nat) (hi:l[i]? =some (x,st):=by rfl)
  (hb:∀ (kV doc pm:Value) (an:Option Addr) (ak ct a0:Value),bindArgs (fnOf x x (mz st) (jf st) (au st) .none kV doc pm an ak ct) ⟨[a0],[]⟩=pure [(p0,a0)]:=by intros;rfl):dc K mg x st [p0]:=
 oY X G e i hi fun a b c d f g us hl=>by
  obtain ⟨a0,wq,rfl,o_⟩:=qy (n:=0) hl
  obtain rfl:=QS o_
  exact hb ..
theorem CI (X:K.In h) (G:h.Ns mainGlobals mg) (e:yn K l=yo l) (i:Nat) (hi:l[i]? =some (x,st):=by rfl)
  (hb:∀ (kV doc pm:Value) (an:Option Addr) (ak ct a0 a1:Value),bindArgs (fnOf x x (mz st) (jf st) (au st) .none kV doc pm an ak ct) ⟨[a0,a1],[]⟩=pure [(p0,a0),(p1,a1)]:=by intros;rfl):dc K mg x st [p0,p1]:=
 oY X G e i hi fun a b c d f g us hl=>by
  obtain ⟨a0,wq,rfl,o_⟩:=qy (n:=1) hl
  obtain ⟨a1,F6,rfl,hl1⟩:=qy (n:=0) o_
  obtain rfl:=QS hl1
  exact hb ..
theorem Js (X:K.In h) (G:h.Ns mainGlobals mg) (e:yn K l=yo l) (i:Nat) (hi:l[i]? =some (x,st):=by rfl)
  (hb:∀ (kV doc pm:Value) (an:Option Addr) (ak ct a0 a1 a2:Value),bindArgs (fnOf x x (mz st) (jf st) (au st) .none kV doc pm an ak ct) ⟨[a0,a1,a2],[]⟩=pure [(p0,a0),(p1,a1),(p2,a2)]:=by intros;rfl):dc K mg x st [p0,p1,p2]:=
 oY X G e i hi fun a b c d f g us hl=>by
  obtain ⟨a0,wq,rfl,o_⟩:=qy (n:=2) hl
  obtain ⟨a1,F6,rfl,hl1⟩:=qy (n:=1) o_
  obtain ⟨a2,Rl,rfl,gj⟩:=qy (n:=0) hl1
  obtain rfl:=QS gj
  exact hb ..
theorem Jt (X:K.In h) (G:h.Ns mainGlobals mg) (e:yn K l=yo l) (i:Nat) (hi:l[i]? =some (x,st):=by rfl)
  (hb:∀ (kV doc pm:Value) (an:Option Addr) (ak ct a0 a1 a2 a3:Value),bindArgs (fnOf x x (mz st) (jf st) (au st) .none kV doc pm an ak ct) ⟨[a0,a1,a2,a3],[]⟩=pure [(p0,a0),(p1,a1),(p2,a2),(p3,a3)]:=by intros;rfl):dc K mg x st [p0,p1,p2,p3]:=
 oY X G e i hi fun a b c d f g us hl=>by
  obtain ⟨a0,wq,rfl,o_⟩:=qy (n:=3) hl
  obtain ⟨a1,F6,rfl,hl1⟩:=qy (n:=2) o_
  obtain ⟨a2,Rl,rfl,gj⟩:=qy (n:=1) hl1
  obtain ⟨a3,Wf,rfl,Rm⟩:=qy (n:=0) gj
  obtain rfl:=QS Rm
  exact hb ..
theorem Rn (X:K.In h) (G:h.Ns mainGlobals mg) {v:V} (e:DY K x=some v):∃ u,mg x=some u/\RelV v u:=by
 unfold DY at e
 split at e
 ·rename_i u hn;exact ⟨u,mg_of X G hn,iM e⟩
 ·cases e
theorem rS:∀ {l:List (Str×V)},DZ K l=D4 l->∀ (i:Nat) {x:Str} {v:V},l[i]? =some (x,v)->DY K x=some v
 | y::l,e,0,x,st,h=>by cases h;exact (List.cons.inj e).1
 | y::l,e,i+1,x,st,h=>rS (List.cons.inj e).2 i (by simpa using h)
theorem vl (X:K.In h) (G:h.Ns mainGlobals mg) {l:List (Str×V)} (e:DZ K l=D4 l) (i:Nat) {v:V} (hi:l[i]? =some (x,v):=by rfl):∃ u,mg x=some u/\RelV v u:=Rn X G (rS e i hi)
theorem sY {v:Value} {xs:List V} (e:CH K v=some (yq xs)):∃ (a:Addr) (it:Array Value) (n:Nat) (sq:Array (Option Value)),v=.ref a/\K.lookup a=some ⟨.type "tuple",none,.seq it n,sq⟩/\ao xs it.toList:=by
 unfold CH at e
 split at e
 ·rename_i a
  split at e
  ·rename_i c d it n sl hl
   have e:=QD e
   unfold yq at e
   simp only [Prod.mk.injEq] at e
   obtain ⟨rfl,rfl,e3⟩:=e
   exact ⟨a,it,n,sl,rfl,hl,oP e3⟩
  ·cases e
 ·cases e
theorem uA {xs:List V} (e:D7 K x=some (yq xs)):∃ (a:Addr) (it:Array Value) (n:Nat) (sq:Array (Option Value)),nsIn K mainGlobals x=some (some (.ref a))/\K.lookup a=some ⟨.type "tuple",none,.seq it n,sq⟩/\ao xs it.toList:=by
 unfold D7 at e
 split at e
 ·rename_i u hn
  obtain ⟨a,it,n,sq,rfl,h1,h2⟩:=sY e
  exact ⟨a,it,n,sq,hn,h1,h2⟩
 ·cases e
theorem sU:∀ {l:List (Str×List V)},D8 K l=D9 l->∀ (i:Nat) {x:Str} {v:List V},l[i]? =some (x,v)->D7 K x=some (yq v)
 | y::l,e,0,x,st,h=>by cases h;exact (List.cons.inj e).1
 | y::l,e,i+1,x,st,h=>sU (List.cons.inj e).2 i (by simpa using h)
theorem zP {it:Array Value} {d:Option Addr} {sq:Array (Option Value)} {xs:List V} (hl:K.lookup a=some ⟨.type "tuple",d,.seq it n,sq⟩) (hv:ao xs it.toList) (hz:xs.length<=sizeLine) (H:Hp):ai K H a xs:=
 .inr ⟨_,it,n,hl,rfl,rfl,by have:=hv.length;simp at this;omega,hv⟩
theorem tu (X:K.In h) (G:h.Ns mainGlobals mg) {l:List (Str×List V)} (e:D8 K l=D9 l) (i:Nat) {v:List V} (hi:l[i]? =some (x,v):=by rfl) (hz:v.length<=sizeLine:=by decide):∃ a,mg x=some (.ref a)/\∀ H,ai K H a v:=by
 obtain ⟨a,it,n,sq,h1,h2,h3⟩:=uA (sU e i hi)
 exact ⟨a,mg_of X G h1,zP h2 h3 hz⟩
theorem rA:∀ {l:List Str},Bg K l=true->∀ (i:Nat) {x:Str},l[i]? =some x->nsIn K mainGlobals x=some none
 | y::l,e,0,x,h=>by
  cases h
  unfold Bg at e
  rw [Bool.and_eq_true_iff] at e
  have e:=e.1
  split at e
  ·assumption
  ·cases e
 | y::l,e,i+1,x,h=>by
  unfold Bg at e
  rw [Bool.and_eq_true_iff] at e
  exact rA e.2 i (by simpa using h)
theorem nn (X:K.In h) (G:h.Ns mainGlobals mg) {l:List Str} (e:Bg K l=true) (i:Nat) (hi:l[i]? =some x:=by rfl):mg x=none:=mg_none_of X G (rA e i hi)
end
inductive Bh where
 | v (x:Option V)
 | t (x:Option Bf)
abbrev D_:=Value×Option Addr×Nat×Bool×List (Int×Option V×Bh)
def CJ (K:Frag) (v:Value):Bh:=match v with
 | .ref _=>.t (CH K v)
 | _=>.v (wj v)
def CK (K:Frag):List DictEntry->List (Int×Option V×Bh)
 | []=>[]
 | e::l=>(e.hash,wj e.key,CJ K e.val)::CK K l
def Ea (K:Frag) (x:Str):Option D_:=match nsIn K mainGlobals x with
 | some (some (.ref a))=>(match K.lookup a with
  | some ⟨c,d,.dict es _,sl⟩=>some (c,d,sl.size,a==sysModules,CK K es.toList)
  | _=>none)
 | _=>none
abbrev oj:=Str×(V ⊕ List V)
def Bj (w:World):List oj->List (Int×Option V×Bh)
 | []=>[]
 | (k,.inl v)::l=>(BP w (.inr k),some (.str k),.v (some v))::Bj w l
 | (k,.inr v)::l=>(BP w (.inr k),some (.str k),.t (some (yq v)))::Bj w l
def Eb (w:World) (l:List oj):D_:=(.type "dict",none,0,false,Bj w l)
def F7 (K:Frag):List (Str×List oj)->List (Option D_)
 | []=>[]
 | x::l=>Ea K x.1::F7 K l
def F8 (w:World):List (Str×List oj)->List (Option D_)
 | []=>[]
 | x::l=>some (Eb w x.2)::F8 w l
def yr (K:Frag):List oj->List V->Prop
 | [],[]=>True
 | (_,.inl v)::l,u::us=>u=v/\yr K l us
 | (_,.inr xs)::l,u::us=>(∃ a,u=.ref a/\∀ H,ai K H a xs)/\yr K l us
 | _,_=>False
def F9:List oj->List V->List (Key×V)
 | e::l,u::us=>(.inr e.1,u)::F9 l us
 | _,_=>[]
def CL:List oj->Bool
 | []=>true
 | (_,.inl _)::l=>CL l
 | (_,.inr xs)::l=>decide (xs.length<=1000)&&CL l
section
variable {K:Frag}
theorem l7:∀ {l:List oj},CL l=true->∀ e∈l,∀ xs,e.2=.inr xs->xs.length<=sizeLine
 | (_,.inl _)::l,h,e,he,xs,hx=>by
  rcases Qp.mp he with rfl | he
  ·cases hx
  ·exact l7 (l:=l) h e he xs hx
 | (_,.inr ys)::l,h,e,he,xs,hx=>by
  unfold CL at h
  rw [Bool.and_eq_true_iff,decide_eq_true_iff] at h
  rcases Qp.mp he with rfl | he
  ·cases hx;exact Nat.le_trans h.1 (by decide)
  ·exact l7 (l:=l) h.2 e he xs hx
theorem Ec {k:Str} {v:V} {l:List oj} {us:List V} (e:yr K ((k,.inl v)::l) us):∃ vs,us=v::vs/\yr K l vs:=by
 cases us with
 | nil=>exact False.elim e
 | cons u vs=>obtain ⟨rfl,r⟩:=(show u=v/\yr K l vs from e);exact ⟨vs,rfl,r⟩
theorem Ro {us:List V} (e:yr K [] us):us=[]:=by
 cases us with
 | nil=>rfl
 | cons u vs=>exact False.elim e
theorem p7:∀ {l:List oj} {es:List DictEntry},CK K es=Bj w l->(∀ e∈l,∀ xs,e.2=.inr xs->xs.length<=sizeLine)->∃ (us:List V) (vs:List (Key×Value)),yr K l us/\(∀ P,Pairs (dz P w) es vs)/\(∀ P,∀ e∈es,∃ k,(dz P w).is k e.key=true/\e.hash=(dz P w).hash k)/\KV (F9 l us) vs/\vs.map (·.1)=l.map (fun e=>.inr e.1)
 | [],[],_,_=>⟨[],[],trivial,fun _=>.nil,(fun _ _ h=>nomatch h),.nil,rfl⟩
 | [],_::_,e,_=>by cases e
 | (_,.inl _)::_,[],e,_=>by cases e
 | (_,.inr _)::_,[],e,_=>by cases e
 | (k,.inl v)::l,d::es,e,hz=>by
  have e':=List.cons.inj (show (d.hash,wj d.key,CJ K d.val)::CK K es=(BP w (.inr k),some (.str k),.v (some v))::Bj w l from e)
  obtain ⟨us,vs,h1,h2,h3,h4,h5⟩:=p7 e'.2 fun x hx=>hz x (Qh _ hx)
  have e1:=e'.1
  simp only [Prod.mk.injEq] at e1
  obtain ⟨q1,q2,q3⟩:=e1
  obtain ⟨t,q2⟩:=iM q2
  have q4:RelV v d.val:=by
   unfold CJ at q3
   split at q3
   ·cases q3
   ·exact iM (Bh.v.inj q3)
  have hk:∀ P,(dz P w).is (.inr k) d.key=true:=fun P=>by rw [q2];exact eQ P w k t
  refine ⟨v::us,(.inr k,d.val)::vs,⟨rfl,h1⟩,fun P=>.cons (kv:=((Sum.inr k,d.val):Key×Value)) (hk P) rfl (h2 P),fun P y hy=>?_,.cons ⟨rfl,q4⟩ h4,by simp [h5]⟩
  rcases Qp.mp hy with rfl | hy
  ·exact ⟨.inr k,hk P,q1⟩
  ·exact h3 P y hy
 | (k,.inr xs)::l,d::es,e,hz=>by
  have e':=List.cons.inj (show (d.hash,wj d.key,CJ K d.val)::CK K es=(BP w (.inr k),some (.str k),.t (some (yq xs)))::Bj w l from e)
  obtain ⟨us,vs,h1,h2,h3,h4,h5⟩:=p7 e'.2 fun x hx=>hz x (Qh _ hx)
  have e1:=e'.1
  simp only [Prod.mk.injEq] at e1
  obtain ⟨q1,q2,q3⟩:=e1
  obtain ⟨t,q2⟩:=iM q2
  have q4:CH K d.val=some (yq xs):=by
   unfold CJ at q3
   split at q3
   ·exact Bh.t.inj q3
   ·cases q3
  obtain ⟨a,it,n,sq,q5,q6,q7⟩:=sY q4
  have hk:∀ P,(dz P w).is (.inr k) d.key=true:=fun P=>by rw [q2];exact eQ P w k t
  refine ⟨.ref a::us,(.inr k,d.val)::vs,⟨⟨a,rfl,zP q6 q7 (hz _ (List.mem_cons_self ..) xs rfl)⟩,h1⟩,fun P=>.cons (kv:=((Sum.inr k,d.val):Key×Value)) (hk P) rfl (h2 P),fun P y hy=>?_,.cons ⟨rfl,by rw [q5];rfl⟩ h4,by simp [h5]⟩
  rcases Qp.mp hy with rfl | hy
  ·exact ⟨.inr k,hk P,q1⟩
  ·exact h3 P y hy
theorem Rp {l:List oj} (X:K.In h) (G:h.Ns mainGlobals mg) (e:Ea K x=some (Eb w l)) (ia:CL l=true) (nd:(l.map (·.1)).Nodup):∃ (a:Addr) (us:List V),mg x=some (.ref a)/\yr K l us/\KD w K a (F9 l us):=by
 have hz:=l7 ia
 unfold Ea at e
 split at e
 ·rename_i a hn
  split at e
  ·rename_i c d es ep sl hl
   have e:=QD e
   unfold Eb at e
   simp only [Prod.mk.injEq] at e
   obtain ⟨rfl,rfl,e3,e4,e5⟩:=e
   obtain ⟨us,vs,h1,h2,h3,h4,h5⟩:=p7 e5 hz
   refine ⟨a,us,mg_of X G hn,h1,fun P=>⟨_,es,ep,vs,hl,e4,⟨rfl,rfl,Array.eq_empty_of_size_eq_zero e3⟩,rfl,fun y hy=>h3 P y (by simpa using hy),h2 P,?_,h4⟩⟩
   rw [h5]
   have:l.map (fun e=>(Sum.inr e.1:Key))=(l.map (·.1)).map Sum.inr:=by simp
   rw [this]
   exact List.Pairwise.map _ (fun a b q c=>q (Sum.inr.inj c)) nd
  ·cases e
 ·cases e
theorem qK:∀ {l:List (Str×List oj)},F7 K l=F8 w l->∀ (i:Nat) {x:Str} {v:List oj},l[i]? =some (x,v)->Ea K x=some (Eb w v)
 | y::l,e,0,x,st,h=>by cases h;exact (List.cons.inj e).1
 | y::l,e,i+1,x,st,h=>qK (List.cons.inj e).2 i (by simpa using h)
end
abbrev Ju:List Str:=["type","isinstance","issubclass","getattr","hasattr"]
theorem Rq {l:OpenLaw} {p:Program} (hp:l.prog=p)
 (a0:sreFenced p.main=true) (a1:((moduleNames p.main.body).isEmpty||lookedIntoSs (moduleNames p.main.body) p.main.body)=true)
 (a2:namesResolve p=true) (a3:p.boundNames.all (fun n=> !worldNames.contains n)=true)
 (a4:noRoadLSs {strict:= !(importedModules p.main.body).all cThrough.contains,foot:=none,bare:=(["vars","dir","locals"]:List Str).filter (readsOut p p.main.body)} p.main.body=true)
 (a5:(namesMeet p p.main.body fun _ n=>attrL n)=true)
 (a6:l.row.toRowW.solid=true) (Rr:l.row.pre.litsOk=true)
 (a7:p.boundNames.contains l.name=true) (a8:(!startupNames.contains l.name)=true)
 (a9:decide (l.foot<=(behindTheImports p).length)=true)
 (b0:l.footing.all footLine=true) (b1:noClassBlock p l.footing=true)
 (b2:l.most.all (fun n=>decide (63<=n))=true) (b3:l.bound.all (fun n=>decide (2^63<=n))=true)
 (b4:noRoadLSs {strict:=true,foot:=some l.bound',writes:=l.writes,may:=l.may} l.footing=true)
 (b5:defStands l.about l.above=true) (b6:l.namesIt=true) (b7:Ju.all (fun n=>l.about !=[n])=true)
 (b8:l.bound'.all (fun n=> !builtinNamed n||l.about==[n]|| !l.reads n)=true)
 (b9:(!l.writes||(p.main.body.flatMap importedNames).all fun n=> !l.reads n)=true)
 (c0:(p.main.body.flatMap importedNames).all (fun n=> !l.reads n||(drawsOf n p.main.body).all fun mn=>mn.2 !=("attrgetter":Str)&&mn.2 !=("methodcaller":Str))=true)
 (c1:namesMeet p l.footing (fun sc n=>(!Ju.contains n||sc.names.lookup n==some .globalImplicit)&&(l.may !=some n||sc.kind==.module||sc.names.lookup n==some .globalImplicit))=true)
 (c2:l.own.contains l.name=true) (c3:(l.own.eraseDups.length==l.own.length)=true) (c4:l.own.all (fun n=> !builtinNamed n)=true)
 (c5:namesMeet p l.above (fun _ n=> !l.own.contains n)=true) (c6:(namesMeet p l.footing fun sc n=>sc.kind==.module||sc.names.lookup n !=some .globalExplicit)=true):l.wellSaid=true:=by
 subst hp
 have q:l.row.wellSaid=true:=by
  unfold OpenRow.wellSaid OpenRow.partSaid looksOpen
  exact look_both (look_both (look_both (look_both (look_both (look_both (look_both (look_both (look_both (look_both (look_both (look_both (look_both (look_both (look_both (look_both (look_both (look_both (look_both (look_both a0 a1) a2) a3) a4) a5) rfl) rfl) rfl) rfl) rfl) rfl) a6) Rr) rfl) rfl) rfl) rfl) rfl) a7) a8
 unfold OpenLaw.wellSaid
 rw [q,a9,b0,b1,b2,b3,b4,b5,b6,b7,b8,b9,c0,c1,c2,c3,c4,c5,c6];rfl
theorem Rt {l:OpenLaw} {k:Nat} {q:Program} {d:DefRec} {look:Frag->α} {want:World->α}
  (hn:l.most=some n) (hn2:n<=sizeLine) (Cf:d.params.defaults=[]) (hr:fh k callerA)
  (F:∀ (w:World) (mg:Str->Option Value) (fa:Addr) (h:Heap) (K:Frag),K.In h->look K=want w->h.Ns mainGlobals mg->mg d.name=some (.ref fa)->
   ∃ (ts:List (Addr×Obj×List V)) (fd:FuncData) (sp:Sp),(∀ t∈ts,Jm K t)/\(ts.map (·.1)).Nodup/\(∀ (s:Shared) (u:Value),BindsTo s fd ⟨[u],[]⟩ [(x,u)])/\
    (∀ base:Heap,(without K (ts.map (·.1))).In base->base.Ns mainGlobals mg->oq l.prog w (without K (ts.map (·.1))) mg base uw k fa fd [x] sp)/\
    (∀ (H:Hp) (a:Addr) (ns:List Int),ns.length<=n->(∀ t∈ts,H t.1=some (.c_ t.2.1 (.tup t.2.2)))->ae (without K (ts.map (·.1))) H a (ns.map V.int)->sp [.ref a] H (fun v _=>v=.bl true) fun _ _ _=>False)):
  WalkO q loose XP (qx look want).says l.row.toRowW d [] (fun f vs=>PySem.call f vs):=by
 refine Ir.qN hn Cf fun w s₀ s₁ mg mb fa o pm cd doc a vs ns G Y ho hd jr sy Fv Fw fq hg=>?_
 obtain ⟨K,KX,hl⟩:=Y
 obtain ⟨ts,fd,sp,hts,nd,hb,hF,uu⟩:=F w mg fa _ K KX hl G.T.g sy
 exact wH hts nd KX G.T.g G.T.b G.T.builtins G.T.nolimit hg Fv Fw (Nat.le_trans fq hn2) hr hF hb (fun H _ ht hS=>uu H a ns fq ht hS) fun _ _ _ z=>z
theorem tO {l:OpenLaw} {k:Nat} {q:Program} {d:DefRec} {look:Frag->α} {want:World->α} {st:Stmt}
  (hn:l.most=some 63) (Cf:d.params.defaults=[]) (hr:fh k callerA) (Ru:d.name="law")
  (hb:∀ (kV doc pm:Value) (an:Option Addr) (ak ct a0:Value),bindArgs (fnOf "law" "law" (mz st) (jf st) (au st) .none kV doc pm an ak ct) ⟨[a0],[]⟩=pure [(("script":Str),a0)])
  (F:∀ (w:World) (mg:Str->Option Value) (h:Heap) (K:Frag),K.In h->look K=want w->h.Ns mainGlobals mg->dc (without K []) mg "law" st ["script"]/\∀ base:Heap,av l.prog w (without K []) mg base k "law" ["script"] (FJ (without K []))):
  WalkO q loose XP (qx look want).says l.row.toRowW d [] (fun f vs=>PySem.call f vs):=
 Rt (n:=63) (k:=k) (x:="script") hn (by decide) Cf hr fun w mg fa h K KX hl G sy=>by
  obtain ⟨⟨f,fd,Fu,m,b⟩,hF⟩:=F w mg h K KX hl G
  rw [Ru] at sy
  rw [m] at sy
  cases sy
  refine ⟨[],fd,FJ (without K []),(fun t ht=>nomatch ht),.nil,fun s u=>?_,fun base kb nb=>?_,fun H a ns hl _ hS=>⟨a,ns,rfl,hS,hl,fun _=>rfl⟩⟩
  ·obtain ⟨oc,od,kV,doc,pm,an,ak,ct,g_,rfl,lk,jr⟩:=Fu.ex
   exact .of_eq (hb ..)
  ·obtain ⟨f',Rv,G',m',k',b',Wg,Wh,Wi,Jv⟩:=hF base
   rw [m] at m'
   cases m'
   have e:fd=Rv:=by
    obtain ⟨oc,od,kV,doc,pm,an,ak,ct,g_,e1,lk,jr⟩:=Fu.ex
    rw [lk] at Jv
    have:=QD Jv
    injection this with _ _ h3 _
    injection h3
   rw [e];exact G'
section
variable {K:Frag}
end
end L2
namespace L2
open PySem PySem.Spec PyProof.Rows
section
variable {g:Array GenState} {d:Drawn} {t:Nat} {os:OsState}
variable {nm q:Str} {N:Addr} {bs bm bmB:List Value} {hdct:Bool} {sn:List Str} {sub:List Value} {ab:Bool} {col:Option Bool} {dd:Option Addr} {k0 k1 k2 k3 k5:Option Value} {B Bn newId Ed CM pe:String} {Jw:List Value}
theorem Rw (Fn:ExcBaseFacts Bn newId pe Jw) (Ef:bmB.contains (.type Bn)=true) (F:ExcBaseFacts B Ed CM bmB) (T:OwnTail h bmB bm) {mN:Str->Option Value} {rest:List Value} {fI:Addr} {oI:Obj} {Q:Fin->Shared->Prop}
  (hC:h.get? C=some (excClassObj nm q C N bs bm hdct sn sub ab col dd k0 k1 k2 k3 k5 newId)) (hn:h.Ns N mN) (hi:mN "__init__"=some (.ref fI)) (F_:h.get? fI=some oI) (Ga:oI.cls=.type "function") (hl:rest.length<=sizeLine)
  (hq:∀ h' e,Heap.MadeExcOf h h' e (.ref C) rest->wpAny (model P w) A (call (.ref fI) (.ref e::rest)) (fun r s'=>r=.none/\Q (.done (.ret (.ref e))) s') E ⟨h',g,d,t,os⟩):
  wpAny (model P w) A (Builtin.«type.__call__» ⟨.ref C::rest,[]⟩) Q E ⟨h,g,d,t,os⟩:=by
 repeat (first | with_reducible refine wpAny_loadPart_at hC ?_ | with_reducible refine wpAny_madeBy_exc hC ?_ | wp_step)
 refine codeAny_call_builtin_code (Code.quiet_builtin _ Fn.quiet) (wpAny_check_new_subU Fn Ef T hC (codeAny_exc_new_subU Fn Ef F T hC ?_ hl))
 let h2:=(h.push {cls:=.type "tuple",data:=.seq rest.toArray}).push {cls:=.ref C,data:=.fields #[.ref h.objs.size,.none,.none,.none,.bool false,.none]}
 have up:∀ b o,h.get? b=some o->h2.get? b=some o:=fun b o e=>Qc _ (Qc _ e)
 have Jx:=up _ _ hC
 have hn2:h2.Ns N mN:=let ⟨o,es,ep,e,r⟩:=hn;⟨o,es,ep,up _ _ e,r⟩
 have ge:h2.get? (h.objs.size+1)=some {cls:=.ref C,data:=.fields #[.ref h.objs.size,.none,.none,.none,.bool false,.none]}:=by
  show (Heap.push _ _).get? _=_
  have:=Qd (h.push {cls:=.type "tuple",data:=.seq rest.toArray}) (o:={cls:=.ref C,data:=.fields #[.ref h.objs.size,.none,.none,.none,.bool false,.none]}) rfl
  rw [Heap.size_push] at this;exact this
 have Rx:(Value.ref C::bm).contains (.ref C)=true:=by simp
 show wpAny _ _ _ _ _ ⟨h2,g,d,t,os⟩
 unfold isInstance
 repeat (first | with_reducible refine wpAny_loadPart_at ge ?_ | (with_reducible refine wpAny_isSubtype_exc Jx ?_;rw [Rx]) | wp_step)
 show wpAny _ _ (typeLookup (.ref C) _) _ _ _
 refine wpAny_typeLookup_tail Jx hn2 (T.keeps up) F.mroIs F.init.lookup ?_
 rw [hi]
 refine wpAny_holding (QT ?_)
 unfold bindSpecial
 refine QT (wpAny_typeOf (T:="function") ⟨_,up _ _ F_,Ga⟩ ?_)
 rw [if_pos (by decide)]
 refine QU (QT (wpAny_mono (hq h2 (h.objs.size+1) ⟨up,Heap.get?_none_of_le (Nat.le_succ _),h.objs.size,ge,Heap.get?_none_of_le (Qy _),Qc _ (Qd _ rfl)⟩) (fun r s' hr=>?_) fun _ _ x=>x))
 obtain ⟨rfl,hQ⟩:=hr
 wp_walk
 exact hQ
theorem wD (Fn:ExcBaseFacts Bn newId pe Jw) (Ef:bmB.contains (.type Bn)=true) (F:ExcBaseFacts B Ed CM bmB) (T:OwnTail h bmB bm) {mN:Str->Option Value} {rest:List Value} {fI:Addr} {oI:Obj}
  (hC:h.get? C=some (excClassObj nm q C N bs bm hdct sn sub ab col dd k0 k1 k2 k3 k5 newId)) (hn:h.Ns N mN) (hi:mN "__init__"=some (.ref fI)) (F_:h.get? fI=some oI) (Ga:oI.cls=.type "function") (hl:rest.length<=sizeLine)
  (hq:∀ h' e,Heap.MadeExcOf h h' e (.ref C) rest->wpAny (model P w) (A.under (.builtin "type.__call__" ⟨.ref C::rest,[]⟩)) (call (.ref fI) (.ref e::rest)) (fun r s'=>r=.none/\Q (.ref e) s') E ⟨h',g,d,t,os⟩):
  wpAny (model P w) A (call (.ref C) rest) Q E ⟨h,g,d,t,os⟩:=by
 have f1:=tc_lookup
 have f2:=tc_bind (.ref C)
 have hT:(⟨h,g,d,t,os⟩:Shared).TypeIs (.ref C) "type":=⟨_,hC,rfl⟩
 refine wpAny_call (codeAny_of_tree ?_)
 show wpAny _ _ (callAny (.ref C) _) _ _ _
 repeat (any_goals (first | assumption | with_reducible refine wpAny_loadPart_at hC ?_ | wp_step))
 exact ⟨rfl,codeAny_call_builtin_at (Code.quiet_builtin _ (by decide+kernel)) entry_typeCall (wpAny_check_type_call_sub hC (Rw Fn Ef F T hC hn hi F_ Ga hl hq))⟩
end
section
variable {nm q:Str} {N:Addr} {bs bm:List Value} {hdct:Bool} {sn:List Str} {sub:List Value} {ab:Bool} {col:Option Bool} {dd:Option Addr} {k0 k1 k2 k3 k5:Option Value} {newId:String}
theorem rW {x:Sem Value} {Q:Flow->Shared->Prop} (hb:bm.contains (.type "BaseException")=true) (hh:A.handled=none)
  (h:wpAny M A x (fun v s1=>∃ e t dct,v=.ref e/\s1.heap.get? C=some (excClassObj nm q C N bs bm hdct sn sub ab col dd k0 k1 k2 k3 k5 newId)/\s1.heap.get? e=some {cls:=.ref C,dict:=dct,data:=.fields #[.ref t,.none,.none,.none,.bool false,.none]}/\E (.ref e) s1) E s):
  wpAny M A (raiseStmt env (some x) none) Q E s:=by
 have hB:(Value.ref C::bm).contains (.type "BaseException")=true:=by rw [List.contains_cons,hb,Bool.or_true]
 unfold raiseStmt
 refine QT (wpAny_mono h (fun v s1 ⟨e,t,dct,ev,hC,he,hE⟩=>?_) fun _ _ x=>x)
 subst ev
 obtain ⟨hp,g,d,tk,os⟩:=s1
 repeat (first | with_reducible refine wpAny_loadPart_at he ?_ | with_reducible refine wpAny_loadPart_at hC ?_ | (with_reducible refine wpAny_isSubtype_exc hC ?_;rw [hB]) | wp_step)
 exact wpAny_raiseNew_none hh hE
end
def ph (h:Heap) (e C:Addr) (dct:Option Addr):Prop:=∃ t,h.get? e=some {cls:=.ref C,dict:=dct,data:=.fields #[.ref t,.none,.none,.none,.bool false,.none]}
section
variable {g:Array GenState} {d:Drawn} {t:Nat} {os:OsState}
variable {nm q:Str} {N e:Addr} {bs bm bmB:List Value} {hdct:Bool} {sn:List Str} {sub:List Value} {ab:Bool} {col:Option Bool} {dd:Option Addr} {k0 k1 k2 k3 k5:Option Value} {B newId Ed CM:String}
theorem Ry (F:ExcBaseFacts B Ed CM bmB) (T:OwnTail h bmB bm) (hC:h.get? C=some (excClassObj nm q C N bs bm hdct sn sub ab col dd k0 k1 k2 k3 k5 newId)) (he:ph h e C dct) {args:List Value} (hl:args.length<=sizeLine)
  (hq:∀ h',(∀ b o,b≠e->h.get? b=some o->h'.get? b=some o)->ph h' e C dct->Q .none ⟨h',g,d,t,os⟩):
  wpAny (model P w) A (call (.builtin CM) (.ref e::args)) Q E ⟨h,g,d,t,os⟩:=by
 obtain ⟨t0,he⟩:=he
 refine wpAny_call (codeAny_call_builtin F.init.plain F.initEntry (wpAny_check_init_subU F T hC he rfl ?_))
 wp_walk
 have h1:=Qc {cls:=.type "tuple",data:=.seq args.toArray} he
 refine hq _ (fun b o n q=>?_) ⟨h.objs.size,?_⟩
 ·rw [Heap.get?_update_other _ _ n.symm];exact Qc _ q
 ·exact Heap.get?_update_self _ h1 rfl
end
end L2
namespace L2
open PySem PySem.Spec PyProof.Rows PySem.W Builtin.ObjectAttr
abbrev Eg:List Value:=[.type "ValueError",.type "Exception",.type "BaseException",.type "object"]
def pq (own:List Addr):List Value:=own.map Value.ref++Eg
theorem iS (self:Value):∀ own:List Addr,refuseLoop self "__setattr__" (pq own)=pure ()
 | []=>PySem.F.store_ValueError.passes self
 | c::r=>by
  show refuseLoop self "__setattr__" (.ref c::pq r)=_
  rw [refuseLoop_ref];exact iS self r
theorem gC {v:Value} (h:v∈Eg) (own:List Addr):(pq own).contains v=true:=by
 rw [List.contains_iff_mem];exact List.mem_append.mpr (.inr h)
section
variable {K:Q0} {e:Addr} {cd:ClassData} {own:List Addr} {v:Value}
theorem Rz {Q:Unit->Shared->Prop} (X:K.In s.heap) (he:ph s.heap e C none) (hc:clsIn K C=some cd) (hm:cd.mro=pq own) (hd:cd.hasDict=true) (hs:findIn K (.ref C) "__setattr__"=some (some (.builtin "object.__setattr__"))) (ha:findIn K (.ref C) name=some none)
  (hq:∀ h' dx tk,s.heap.get? dx=none->(∀ b o,b≠e->s.heap.get? b=some o->h'.get? b=some o)->ph h' e C (some dx)->h'.Ns1 dx (fun y=>if y=name then some v else none)->Q () {s with heap:=h',toks:=tk}):
  wpAny (model P w) A (setAttr (.ref e) name v) Q E s:=by
 obtain ⟨t,he⟩:=he
 have I:InstAt s.heap e _ C none:=⟨he,rfl,rfl,trivial⟩
 have SF:=PySem.F.store_object
 refine set_plain X I hs ?_
 have X1:K.In ({s with toks:=s.toks+1}:Shared).heap:=X
 have I1:InstAt ({s with toks:=s.toks+1}:Shared).heap e _ C none:=I
 have ne:cd.mro.isEmpty=false:=by rw [hm];cases own<;>rfl
 have sub:Looks (model P w) s.heap (isInstance (.ref e) (.type "object")) true:=I.type.andThen (looks_mroIn X (by unfold mroIn;rw [hc,Option.bind_some,if_neg (by rw [ne];decide),hm,gC (by decide)]))
 refine codeAny_call_builtin SF.slot.plain SF.entry (@check_slot (model P w) _ _ _ "object.__setattr__" "object" "__setattr__" (.ref e) [.str name s.toks,v] [] _ SF.kind SF.split sub (SF.args (.ref e) (.str name s.toks) v) ?_)
 have RA:Looks (model P w) ({s with toks:=s.toks+1}:Shared).heap (mroOf (.ref C)) cd.mro:=(looks_clsIn X hc).andThen .now
 rw [osa_eq,refuse_eq]
 refine QT (QT (I1.type.here (QT (RA.here ?_))))
 rw [hm,iS]
 refine QU (QT (I1.type.here (QT ((looks_findIn X1 ha).here (QT (Looks.here (.now:Looks (model P w) ({s with toks:=s.toks+1}:Shared).heap (storeTaker? none) none) ?_))))))
 dsimp only
 obtain ⟨hp,gn,dr,tk,os⟩:=s
 dsimp only at he X hq
 have hes:e≠hp.objs.size:=Nat.ne_of_lt (Qz he)
 let ox:Obj:={cls:=.ref C,data:=.fields #[.ref t,.none,.none,.none,.bool false,.none]}
 have Bk:(hp.push {cls:=.type "dict",data:=.dict #[]}).get? e=some ox:=Qc _ he
 let h2:Heap:=(hp.push {cls:=.type "dict",data:=.dict #[]}).update e fun o=>{o with dict:=some hp.objs.size}
 have Gb:h2.get? e=some {ox with dict:=some hp.objs.size}:=Heap.get?_update_self _ Bk rfl
 have hd2:h2.get? hp.objs.size=some {cls:=.type "dict",data:=.dict #[]}:=(Heap.get?_update_ne _ _ _ _ hes.symm).trans (Qd _ rfl)
 have n2:h2.Ns hp.objs.size (fun _=>none):=⟨_,#[],_,hd2,rfl,fun e he=>absurd he (by simp),fun _=>rfl⟩
 unfold storeInOwnDict ownDictForStores instanceDict
 refine QT (QU (QT (QT (wpAny_loadPart (s:=⟨hp,gn,dr,tk+1,os⟩) he (QT ((looks_clsIn (M:=model P w) X hc).here (s:=⟨hp,gn,dr,tk+1,os⟩) ?_))))))
 rw [hd,if_neg (by decide)]
 dsimp only
 rw [if_neg (by simp [typeHasDict])]
 refine QT (wpAny_alloc' (QT (wpAny_update' Bk (QU ?_))))
 show wpAny _ _ (storeInDict hp.objs.size (.str name tk) name v) _ _ ⟨h2,gn,dr,tk+1,os⟩
 unfold storeInDict newKeyGuard
 refine QT (QU (QT (wpAny_nsSet1 (Heap.Ns1.of_empty n2) fun h' hn' Jy=>?_)))
 obtain ⟨oD,Wj,Wk,RB,RC,RD⟩:=hn'.count (Within.cons name v Within.nil)
 refine QT (wpAny_lookBehind RB (by rw [RC];exact pastItsLine_dict (Nat.le_trans RD (by rw [List.length_cons,List.length_nil,QL];omega))) (QU ?_))
 refine hq h' hp.objs.size _ (Heap.get?_none_of_le (Qy _)) (fun b o n q=>?_) ⟨t,(Jy.2 e hes).trans Gb⟩ hn'
 exact (Jy.2 b (Nat.ne_of_lt (Qz q))).trans ((Heap.get?_update_ne _ _ _ _ n).trans (Qc _ q))
end
end L2
namespace L2
open PySem PySem.Spec PyProof.Rows
def vh (h:Heap) (e C:Addr) (dct:Option Addr):Prop:=∃ vs:Array Value,h.get? e=some {cls:=.ref C,dict:=dct,data:=.fields vs}/\1 < vs.size/\
 (vs[1]? =some .none\/∃ T oT ts,vs[1]? =some (.ref T)/\T≠e/\h.get? T=some oT/\oT.data=.fields ts/\ts[3]? =some .none)
theorem ph.RE {e:Addr} (x:ph h e C dct):vh h e C dct:=let ⟨_,q⟩:=x;⟨_,q,Nat.succ_lt_succ (Nat.succ_pos _),.inl rfl⟩
section
variable {L e:Addr} {Q:Unit->Shared->Prop}
structure Gc (fr:List Addr) (e:Addr) (h h':Heap):Prop where
 keep:∀ b o,b ∉ fr->b≠e->h.get? b=some o->h'.get? b=some o
 slot:∀ b o,b≠e->h.get? b=some o->∃ sl,h'.get? b=some {o with slots:=sl}
 Gd:∀ b o,h.get? b=some o->∃ o',h'.get? b=some o'
theorem oJ (jm:A.frames=some (env::outer)) (hl:s.heap.FunFrames base (env::outer)) (hf:env.frame=some L) (he:vh s.heap e C dct) (Bl:e ∉ (env::outer).filterMap (·.frame))
  (h:∀ h' tb,s.heap.get? tb=none->Gc ((env::outer).filterMap (·.frame)) e s.heap h'->vh h' e C dct->Q () {s with heap:=h'}):
  wpAny M A (noteFrame (.ref e) env) (fun _ s1=>wpAny M A (setFlight (.ref e) none) Q E s1) E s:=by
 obtain ⟨vs,g1,g2,g3⟩:=he
 have core:∀ (s1:Shared) (hd:Value) (b:Bool),s1.heap.FunFrames base (env::outer)->s1.heap.get? e=some {cls:=.ref C,dict:=dct,data:=.fields vs}->
   (∀ h' tb,s1.heap.get? tb=none->Gc ((env::outer).filterMap (·.frame)) e s1.heap h'->vh h' e C dct->Q () {s1 with heap:=h'})->
   wpAny M A (do let a <- frameOf env;let pl <- entryPlaceOf L b;let t <- EntryCells.newEntry hd a .none (rawInt L) .none pl;setField (.ref e) 1 t) (fun _ s2=>wpAny M A (setFlight (.ref e) none) Q E s2) E s1:=by
  intro s1 hd b hl1 Bk k
  refine QT (wpAny_frameOf_fun jm hl1 hf fun h1 so=>?_)
  refine QT (wpAny_entryPlaceOf fun pl hpl=>?_)
  unfold EntryCells.newEntry newFields
  refine QT (wpAny_newObj_type ?_ (hpl.sizeOk5 _ _ _ _ _))
  have e1:h1.get? e=some {cls:=.ref C,dict:=dct,data:=.fields vs}:=(so.2.1 e Bl).trans Bk
  generalize Jz:({cls:=.type "traceback",data:=.fields ([hd,Value.ref L,Value.none,rawInt L,Value.none]++if pl.isEmpty=true then List.replicate 6 Value.none else pl).toArray}:Obj)=ob
  have hob:ob.isFreed=false:=by rw [<- Jz];rfl
  have e2:(h1.push ob).get? e=some {cls:=.ref C,dict:=dct,data:=.fields vs}:=Qc _ e1
  refine wpAny_setField e2 rfl g2 ?_
  have nT:h1.objs.size≠e:=Nat.ne_of_gt (Qz e1)
  have e3:((h1.push ob).update e (Obj.mapFields (·.setIfInBounds 1 (.ref h1.objs.size)))).get? e=some {cls:=.ref C,dict:=dct,data:=.fields (vs.setIfInBounds 1 (.ref h1.objs.size))}:=Heap.get?_update_self _ e2 rfl
  have t3:((h1.push ob).update e (Obj.mapFields (·.setIfInBounds 1 (.ref h1.objs.size)))).get? h1.objs.size=some ob:=(Heap.get?_update_other _ _ nT.symm).trans (Qd _ hob)
  generalize RG:(h1.push ob).update e (Obj.mapFields (·.setIfInBounds 1 (.ref h1.objs.size)))=h2 at e3 t3
  unfold setFlight
  refine QT (wpAny_field (s:={s1 with heap:=h2}) e3 rfl (x:=.ref h1.objs.size) (by simp [g2]) ?_)
  rw [if_pos (show (Value.ref h1.objs.size !=Value.none)=true from by simp)]
  obtain ⟨ts,ht,hts⟩:∃ ts:Array Value,ob.data=.fields ts/\3 < ts.size:=⟨_,by rw [<- Jz],by simp only [List.size_toArray,Qk,List.length_cons,List.length_nil];omega⟩
  refine wpAny_setField (s:={s1 with heap:=h2}) t3 ht hts ?_
  have kp:∀ b o,b≠e->h1.get? b=some o->(h2.update h1.objs.size (Obj.mapFields (·.setIfInBounds 3 ((none:Option Addr).elim Value.none fun f=>rawInt f)))).get? b=some o:=fun b o n q=>by
   rw [Heap.get?_update_other _ _ (Nat.ne_of_gt (Qz q)),<- RG,Heap.get?_update_other _ _ n.symm]
   exact Qc _ q
  have e4:(h2.update h1.objs.size (Obj.mapFields (·.setIfInBounds 3 ((none:Option Addr).elim Value.none fun f=>rawInt f)))).get? e=some {cls:=.ref C,dict:=dct,data:=.fields (vs.setIfInBounds 1 (.ref h1.objs.size))}:=(Heap.get?_update_other _ _ nT).trans e3
  have t4:=Heap.get?_update_self (Obj.mapFields (·.setIfInBounds 3 ((none:Option Addr).elim Value.none fun f=>rawInt f))) t3 (Obj.isFreed_of_fields (Obj.data_mapFields ht _))
  refine k _ h1.objs.size (Heap.get?_none_of_le (by rw [so.1];exact Qy _)) ⟨fun b o n1 n2 q=>kp b o n2 ((so.2.1 b n1).trans q),fun b o n q=>?_,fun b o q=>?_⟩ ⟨_,e4,by simpa using g2,.inr ⟨h1.objs.size,_,_,by simp [g2],nT,t4,Obj.data_mapFields ht _,by simp [hts]⟩⟩
  ·obtain ⟨sl,q'⟩:=so.2.2 b o q
   exact ⟨sl,kp b _ n q'⟩
  ·by_cases n:b=e
   ·subst n;exact ⟨_,e4⟩
   ·obtain ⟨sl,q'⟩:=so.2.2 b o q
    exact ⟨_,kp b _ n q'⟩
 unfold noteFrame
 simp only [hf]
 rcases g3 with v1 | ⟨T,oT,ts,v1,ne,hT,ht,h3⟩
 ·refine QT (wpAny_field g1 rfl v1 ?_)
  rw [if_neg (by decide)]
  exact core s _ _ hl g1 h
 ·refine QT (wpAny_field g1 rfl v1 ?_)
  rw [if_pos (show (Value.ref T !=Value.none)=true from by simp)]
  refine QT (wpAny_field hT ht h3 ?_)
  rw [if_neg (show ¬((Value.none==rawInt L)=true) from by simp [rawInt])]
  refine QT (wpAny_setField hT ht (Array.getElem?_eq_some_iff.mp h3).1 ?_)
  have same:Obj.mapFields (·.setIfInBounds 3 Value.none) oT=oT:=by
   obtain ⟨oc,od,Eh,g_⟩:=oT
   have ht:Eh=.fields ts:=ht
   subst ht
   have:ts.setIfInBounds 3 Value.none=ts:=by
    obtain ⟨h4,h5⟩:=Array.getElem?_eq_some_iff.mp h3
    rw [<- h5,Array.setIfInBounds_def,dif_pos h4]
    exact Array.set_getElem_self h4
   show Obj.mk oc od (.fields (ts.setIfInBounds 3 Value.none)) g_=_
   rw [this]
  have tT:=Heap.get?_update_self (Obj.mapFields (·.setIfInBounds 3 Value.none)) hT (Obj.isFreed_of_fields (Obj.data_mapFields ht _))
  rw [same] at tT
  have ot:∀ b,(s.heap.update T (Obj.mapFields (·.setIfInBounds 3 Value.none))).get? b=s.heap.get? b:=fun b=>by
   by_cases z:b=T
   ·rw [z,tT,hT]
   ·exact Heap.get?_update_other _ _ (Ne.symm z)
  refine core {s with heap:=s.heap.update T (Obj.mapFields (·.setIfInBounds 3 Value.none))} _ _ (hl.of_keeps fun b o hb Wl=>⟨o,(ot b).trans hb,rfl⟩) ((ot e).trans g1) fun h' tb q n f=>h h' tb ((ot tb).symm.trans q) ⟨fun b o x y hb=>n.keep b o x y ((ot b).trans hb),fun b o x hb=>n.slot b o x ((ot b).trans hb),fun b o hb=>n.Gd b o ((ot b).trans hb)⟩ f
end
def cf (C:Addr) (dct:Option Addr) (e:Addr):HO:=.ext fun h=>ph h e C dct
def jo (C:Addr) (dct:Option Addr) (e:Addr):HO:=.ext fun h=>∃ vs:Array Value,h.get? e=some {cls:=.ref C,dict:=dct,data:=.fields vs}
theorem tI {e:Addr} (x:ph h e C dct):be P w H h e (cf C dct e):=⟨x,let ⟨_,q⟩:=x;⟨_,q⟩,fun h1 h2 ⟨t,q⟩ k=>⟨t,k _ q⟩⟩
theorem RH {e:Addr} (x:vh h e C dct):be P w H h e (jo C dct e):=let ⟨_,q,_⟩:=x;⟨⟨_,q⟩,⟨_,q⟩,fun h1 h2 ⟨t,q⟩ k=>⟨t,k _ q⟩⟩
def jw (P:Program) (w:World):qi:=fun outer H s E ev s'=>∃ (e C:Addr) (dct:Option Addr) (H':Hp),ev=.ref e/\s'.os=s.os/\AllBare s'.gens/\Un (gu outer) [] H H' s.heap s'.heap/\cj P w H' s'.heap/\H' e=some (jo C dct e)/\vh s'.heap e C dct/\E (.ref e) dct H'
section
variable {e:Addr}
theorem cj.noted {fr:List Addr} {u:HO} (x:cj P w H h) (n:Gc fr e h h') (hf:∀ b∈fr,H b=none) (he:H e=some u) (nt:∀ xs,H e≠some (.tup xs)) (nz:∀ o v,H e≠some (.c_ o v)) (no:∀ y,H e≠some (.own y)) (f:vh h' e C dct):cj P w (upd H e (jo C dct e)) h':=by
 intro b o q
 by_cases z:b=e
 ·subst z;rw [aA] at q;cases q;exact RH f
 ·rw [aH z] at q
  refine (x b o q).stay (fun c v hc g=>?_) (fun c g=>?_) fun c xs g=>g.upd fun u hu z=>?_
  ·have hn:∃ k,H c=some k:=by
    rcases hc with rfl | hc
    ·exact ⟨_,q⟩
    ·exact ⟨_,hc⟩
   obtain ⟨k,hk⟩:=hn
   refine n.keep c v (fun w=>by rw [hf c w] at hk;cases hk) (fun w=>?_) g
   rcases hc with rfl | hc
   ·exact z w
   ·rw [w] at hc;exact no _ hc
  ·rw [aH fun w=>no _ (by rw [<- w];exact g)];exact g
  ·subst z
   rcases g with g | ⟨o',g⟩
   ·exact nt _ g
   ·exact nz _ _ g
theorem rC {K:Q0} {cd:Value} {s0:Shared} {H0:Hp} {E:XK}
  (I:Inv (gx (jw P w) P w K mg base N qual scope f cd A outer s0 H0 E) pins σ H s) (he:H e=some (cf C dct e)) (q:E (.ref e) dct (upd H e (jo C dct e))):
  (gx (jw P w) P w K mg base N qual scope f cd A outer s0 H0 E).xe (.ref e) s:=by
 have hx:ph s.heap e C dct:=(show be P w H s.heap e (cf C dct e) from I.hok e _ he).1
 have fr:∀ b∈gu (envOfC qual scope s0.heap.objs.size f cd::outer),H b=none:=I.Dj
 have Bl:e ∉ gu (envOfC qual scope s0.heap.objs.size f cd::outer):=fun z=>by rw [fr e z] at he;cases he
 show wpAny _ _ (leaving _ _) _ _ s
 unfold leaving
 refine QT (oJ (base:=base) (outer:=outer) (L:=s0.heap.objs.size) I.ok.frames I.stack rfl hx.RE Bl fun h' tb _ n fl=>?_)
 refine ⟨e,C,dct,upd H e (jo C dct e),rfl,I.os,I.bare,?_,cj.noted I.hok n fr he (fun xs z=>by rw [he] at z;cases z) (fun o v z=>by rw [he] at z;cases z) (fun y z=>by rw [he] at z;cases z) fl,aA,fl,q⟩
 have B:Un (gu outer) [] H0 H s0.heap s.heap:=I.base
 have nL:∀ b o,s0.heap.get? b=some o->b ∉ gu outer->b ∉ gu (envOfC qual scope s0.heap.objs.size f cd::outer):=fun b o q hb z=>by
  have z':b∈s0.heap.objs.size::gu outer:=z
  rcases Qp.mp z' with z' | z'
  ·exact absurd (Qz q) (by rw [z'];exact Nat.lt_irrefl _)
  ·exact hb z'
 have ne:∀ {b},H b=none->b≠e:=fun hb z=>by rw [z,he] at hb;cases hb
 refine ⟨fun b o q hn hb hx=>n.keep b o (nL b o q hb) (ne (B.free b o q hn hx)) (B.keep b o q hn hb hx),fun b o q hn hb hx=>?_,fun b o q hn hx=>by rw [aH (ne (B.free b o q hn hx))];exact B.free b o q hn hx,fun b o q hx=>?_,fun b xs q=>?_,fun b o u q=>?_,fun b ps q=>?_⟩
 ·obtain ⟨sl,q'⟩:=B.slot b o q hn hb hx
  obtain ⟨BQ,RI⟩:=n.slot b _ (ne (B.free b o q hn hx)) q'
  exact ⟨BQ,RI⟩
 ·obtain ⟨o',q'⟩:=B.there b o q hx
  exact n.Gd b o' q'
 ·have:=B.tups b xs q
  rw [aH fun z=>by rw [z,he] at this;cases this];exact this
 ·have:=B.jz b o u q
  rw [aH fun z=>by rw [z,he] at this;cases this];exact this
 ·obtain ⟨mo,this⟩:=B.ko b ps q
  exact ⟨mo,by rw [aH fun z=>by rw [z,he] at this;cases this];exact this⟩
theorem tq {Q:Unit->Shared->Prop} {E':Value->Shared->Prop} {E:XK} {s':Shared} {ev:Value} (I:Inv X pins σ H s) (ir:X.stack=X.env::X.outer) (jm:X.env.frame=some X.env.locals) (c:jw X.prog X.w X.stack H s E ev s')
  (k:∀ (e C:Addr) (dct:Option Addr) (H':Hp) (s2:Shared),ev=.ref e->Inv X pins σ H' s2->H' e=some (jo C dct e)->E (.ref e) dct H'->vh s2.heap e C dct->Q () s2):
  wpAny (model X.prog X.w) X.A (noteFrame ev X.env) (fun _ s1=>wpAny (model X.prog X.w) X.A (setFlight ev none) Q E' s1) E' s':=by
 obtain ⟨e,C,dct,H',rfl,os,bare,un,hok,he,fl,q⟩:=c
 have I1:=I.HC os un hok bare (fun b z=>absurd z (by simp))
 have fr:∀ b∈gu X.stack,H' b=none:=I1.Dj
 have Bl:e ∉ gu X.stack:=fun z=>by rw [fr e z] at he;cases he
 have fk:=I1.ok.frames
 have sk:=I1.stack
 rw [ir] at fr Bl fk sk
 refine oJ fk sk jm fl Bl fun h' tb _ n JA=>?_
 have DX:=cj.noted hok n fr he (fun xs z=>by rw [he] at z;cases z) (fun o v z=>by rw [he] at z;cases z) (fun y z=>by rw [he] at z;cases z) JA
 rw [lY he] at DX
 have ne:∀ {b},H' b=none->b≠e:=fun hb z=>by rw [z,he] at hb;cases hb
 have RJ:gu (X.env::X.outer)=X.env.locals::X.fs:=by unfold gu;rw [List.filterMap_cons,jm];rfl
 have I2:Inv X pins σ H' {s' with heap:=h',gens:=s'.gens,drawn:=s'.drawn,toks:=s'.toks}:=by
  refine I1.step (ch:=[]) (fun _ z=>nomatch z) (fun b o h1 h2 _ g hn=>n.keep b o (fun z=>?_) (ne hn) g) (fun b o _ _ _ g hn=>n.slot b o (ne hn) g) (fun b o _ g hn=>hn) (fun b o _ g=>n.Gd b o g) (fun _ _ g=>g) (fun _ _ _ g=>g) (fun b ps g=>⟨#[],by rw [g];simp⟩) (fun m hm=>?_) DX I1.bare
  ·rw [show (X.env::X.outer).filterMap (·.frame)=X.env.locals::X.fs from RJ] at z
   rcases Qp.mp z with z | z
   ·exact h1 z
   ·exact h2 z
  ·obtain ⟨o,es,ep,ho,hd,r⟩:=hm
   obtain ⟨sl,q'⟩:=n.slot _ o (ne I1.free) ho
   exact ⟨_,es,ep,q',hd,r⟩
 exact k e C dct H' _ rfl I2 he q JA
end
end L2
namespace L2
open PySem PySem.Spec PyProof.Rows PySem.W
abbrev Cx.tq (X:Cx) (e:Addr):Cx:={X with A:=X.A.mark (some (.ref e)),calm:=false,xe:=fun _ _=>False}
section
variable {e CC:Addr}
theorem Inv.tq (I:Inv X pins σ H s) (e:Addr):Inv (X.tq e) pins σ H s:=
 ⟨⟨I.ok.mod,I.ok.kind,I.ok.glob,I.ok.blt,I.ok.above,I.ok.inj,I.ok.has,I.ok.zm,(fun z=>nomatch z),I.ok.frames,I.ok.AZ,I.ok.Di,I.ok.bs,I.ok.rm,I.ok.zo,I.ok.A0,I.ok.mi,I.ok.we⟩,I.os,I.bare,I.base,I.loc,I.cell,I.free,I.kq,I.pin,I.hok,I.len⟩
theorem Inv.uncaught (I:Inv (X.tq e) pins σ H s) (ok:X.Ok):Inv X pins σ H s:=⟨ok,I.os,I.bare,I.base,I.loc,I.cell,I.free,I.kq,I.pin,I.hok,I.len⟩
structure Ei (K:Frag) (CC:Addr):Prop where
 ty:typeIn K (.ref CC)=some (.type "type")
 tu:subIn K (.type "type") (.type "tuple")=some false
 cl:∃ cd,clsIn K CC=some cd
 ex:subIn K (.ref CC) (.type "BaseException")=some true
theorem RK (x:cj P w H s.heap) (he:H e=some (jo C dct e)):∃ vs:Array Value,s.heap.get? e=some {cls:=.ref C,dict:=dct,data:=.fields vs}:=(show be P w H s.heap e (jo C dct e) from x e _ he).1
theorem tU {o:Obj} (q:h.get? e=some o):Looks M h (typeOf (.ref e)) o.cls:=(Looks.ld q).andThen .now
theorem yV {K:Frag} {b:Bool} {Q:Bool->Shared->Prop} {o:Obj} (X:K.In s.heap) (N:Ei K CC) (hs:subIn K (.ref C) (.ref CC)=some b) (ho:s.heap.get? e=some o) (hc:o.cls=.ref C) (q:Q b s):
  wpAny M A (excMatches (.ref e) (.ref CC)) Q E s:=by
 have t1:Looks M s.heap (isInstance (.ref CC) (.type "tuple")) false:=(looks_typeIn X N.ty).andThen (looks_subIn X N.tu)
 have t2:Looks M s.heap (isType (.ref CC)) true:=by
  obtain ⟨cd,hc⟩:=N.cl
  unfold clsIn at hc
  split at hc
  ·rename_i ho;cases hc;exact (Looks.ld (part:=some headPart) (X _ _ ho)).andThen .now
  ·cases hc
 have t3:Looks M s.heap (isExcClass (.ref CC)) true:=t2.andThen (by rw [if_pos rfl];exact looks_subIn X N.ex)
 have t4:Looks M s.heap (typeOf (.ref e)) (.ref C):=by rw [<- hc];exact tU ho
 unfold excMatches
 refine QT (t1.here ?_)
 dsimp only
 rw [if_neg (by decide)]
 refine QT (QU ?_)
 simp only [List.forIn_cons,List.forIn_nil]
 refine QT (QT (QT (t3.here ?_)))
 refine QU (QU (QT (t4.here ?_)))
 refine QT (QT (QT ((looks_subIn X hs).here ?_)))
 cases b with
 | true=>exact QU (QU (QU q))
 | false=>exact QU (QU (QU q))
def PH (X:Cx) (hs:List ExceptHandler) (th:Addr->Addr->Option Addr->TS):Prop:=
 ∀ (pins:List (Addr×Obj)) (s:Shared) (σ:St) (H:Hp) (D:Ends) (e C:Addr) (dct:Option Addr),Inv X pins σ H s->H e=some (jo C dct e)->vh s.heap e C dct->th e C dct D σ H->wpAny (model X.prog X.w) X.A (handleBy (.ref e) X.env hs) (SP X pins D) X.xe s
def JB:Addr->Addr->Option Addr->TS:=fun _ _ _ _ _ _=>False
def JC (K:Frag) (CC:Addr) (j:Nat) (ts:TS) (th:Addr->Addr->Option Addr->TS):Addr->Addr->Option Addr->TS:=fun e C dct D σ H=>∃ b,subIn K (.ref C) (.ref CC)=some b/\
 if b=true then ts {nx:=fun σ' H'=>D.nx (σ'.set j none) H',rt:=D.rt,bk:=fun σ' H'=>D.bk (σ'.set j none) H',ct:=fun σ' H'=>D.ct (σ'.set j none) H'} (σ.set j (some (.ref e))) H else th e C dct D σ H
theorem RL:PH X [] JB:=fun _ _ _ _ _ _ _ _ _ _ _ h=>h.elim
theorem lP {Q:Unit->Shared->Prop} (f:vh s.heap e C dct) (h:∀ h',(∀ b,h'.get? b=s.heap.get? b)->Q () {s with heap:=h'}):wpAny M A (setFlight (.ref e) none) Q E s:=by
 obtain ⟨vs,g1,g2,g3⟩:=f
 unfold setFlight
 rcases g3 with v1 | ⟨T,oT,ts,v1,ne,hT,ht,h3⟩
 ·refine QT (wpAny_field g1 rfl v1 ?_)
  rw [if_neg (by decide)]
  exact QU (h s.heap fun _=>rfl)
 ·refine QT (wpAny_field g1 rfl v1 ?_)
  rw [if_pos (show (Value.ref T !=Value.none)=true from by simp)]
  refine wpAny_setField hT ht (Array.getElem?_eq_some_iff.mp h3).1 (h _ fun b=>?_)
  have same:Obj.mapFields (·.setIfInBounds 3 Value.none) oT=oT:=by
   obtain ⟨oc,od,Eh,g_⟩:=oT
   have ht:Eh=.fields ts:=ht
   subst ht
   have:ts.setIfInBounds 3 Value.none=ts:=by
    obtain ⟨h4,h5⟩:=Array.getElem?_eq_some_iff.mp h3
    rw [<- h5,Array.setIfInBounds_def,dif_pos h4]
    exact Array.set_getElem_self h4
   show Obj.mk oc od (.fields (ts.setIfInBounds 3 Value.none)) g_=_
   rw [this]
  by_cases z:b=T
  ·subst z
   have tT:=Heap.get?_update_self (Obj.mapFields (·.setIfInBounds 3 Value.none)) hT (Obj.isFreed_of_fields (Obj.data_mapFields ht _))
   rw [same] at tT
   exact tT.trans hT.symm
  ·exact Heap.get?_update_other _ _ (Ne.symm z)
theorem RM {c:Str} {cp pos:Pos} {b0:Stmt} {CN:List Stmt} {rest:List ExceptHandler} {ts:TS} (hg:Gl X c) (hm:X.mg c=some (.ref CC)) (N:Ei X.K CC) (hN:X.N.Nodup) (hj:X.N[j]? =some y) (hy:X.env.scope.names.lookup y=some .local)
  (hs:∀ e,ku (X.tq e) (b0::CN) ts) (hr:PH X rest th) (hd:(c==("__debug__":Str))=false:=by decide):PH X (.ExceptHandler (some (.Name c cp)) (some y) (b0::CN) pos::rest) (JC X.K CC j ts th):=by
 intro pins s σ H D e C dct I he fl h
 obtain ⟨b,hb,h⟩:=h
 have Ic:=I.tq e
 refine wpAny_handleBy_cons (codeAny_handlers_test (fD (X:=X.tq e) Ic hg hm ?_ hd)) (by intro q;cases q)
 obtain ⟨vs,ho⟩:=RK I.hok he
 refine yV I.bx N hb ho rfl ?_
 cases b with
 | false=>exact hr pins s σ H D e C dct I he fl h
 | true=>
  refine codeAny_handlers_suite_as (lP fl fun h' same=>?_)
  have I2:Inv X pins σ H {s with heap:=h'}:=I.kept (t':=s.toks) fun b o q=>(same b).trans q
  refine j9 (v:=.ref e) I2 hN hj (.inl hy) rfl (fun s3 I3 _=>?_) (.inr hy)
  rw [if_pos rfl] at h
  refine wpAny_mono (hs e pins s3 _ H _ (I3.tq e) h) (fun f s4 q4=>?_) fun _ _ z=>z.elim
  have gone:∀ {σ':St} {H':Hp} {R:Unit->Shared->Prop},Inv (X.tq e) pins σ' H' s4->(∀ s5,Inv X pins (σ'.set j none) H' s5->R () s5)->wpAny (model X.prog X.w) X.A (do bindName X.env y .none;unbindBehindTheSuite X.env y pos) R X.xe s4:=by
   intro σ' H' R J k
   have J:=J.uncaught I.ok
   obtain ⟨m,hn,hl⟩:=id J.loc
   refine wpAny_nameGoes_keeps (by show X.env.scope.names.lookup y=some .local;exact hy) hn (by rw [I.ok.kind];rfl) fun h5 v n5 sb=>k _ ?_
   have kp:∀ b o,b≠X.env.locals->s4.heap.get? b=some o->h5.get? b=some o:=fun b o n q=>(sb.2 b n).trans q
   have nL:∀ {b o},X.s₀.heap.get? b=some o->b≠X.env.locals:=fun q=>Nat.ne_of_lt (Nat.lt_of_lt_of_le (Qz q) I.ok.above)
   have nT:∀ {b u},H' b=some u->b≠X.env.locals:=fun q z=>by rw [z,J.free] at q;cases q
   refine ⟨J.ok,J.os,J.bare,⟨fun b o e n hb hx=>kp b o (nL e) (J.base.keep b o e n hb hx),fun b o e n hb hx=>?_,J.base.free,fun b o e hx=>?_,J.base.tups,J.base.jz,J.base.ko⟩,⟨_,n5,fun i x v' e1 e2 e3=>?_⟩,fun x c q=>?_,J.free,J.kq,fun p hp=>?_,fun b u q=>?_,by rw [List.length_set];exact J.len⟩
   ·obtain ⟨sl,q⟩:=J.base.slot b o e n hb hx
    exact ⟨sl,kp b _ (nL e) q⟩
   ·obtain ⟨o',q⟩:=J.base.there b o e hx
    exact ⟨o',kp b _ (nL e) q⟩
   ·by_cases DU:i=j
    ·subst DU
     have bh:i < σ'.length:=by rw [J.len];exact (List.getElem?_eq_some_iff.mp hj).1
     rw [List.getElem?_set_self bh] at e2;cases e2
    ·rw [List.getElem?_set_ne (Ne.symm DU)] at e2
     obtain ⟨u,r,q⟩:=hl i x v' e1 e2 e3
     refine ⟨u,r,?_⟩
     rcases q with ⟨k1,q⟩ | ⟨k1,c,q,z⟩
     ·have:x≠y:=fun z=>DU (mS hN e1 (z▸hj))
      exact .inl ⟨k1,by simp [this,q]⟩
     ·exact .inr ⟨k1,c,q,z.sameBut sb (J.wg x c q)⟩
   ·obtain ⟨w',z⟩:=J.cell x c q
    exact ⟨w',z.sameBut sb (J.wg x c q)⟩
   ·obtain ⟨q,n,ne,nf,d⟩:=J.pin p hp
    exact ⟨kp _ _ ne q,n,ne,nf,d⟩
   ·refine (J.hok b u q).stay (fun c w' hc g=>kp c w' ?_ g) (fun _ g=>g) fun _ _ g=>g
    rcases hc with rfl | hc
    ·exact nT q
    ·exact nT hc
  cases f with
  | next=>
   obtain ⟨σ',H',J,q⟩:=q4
   exact gone J fun s5 I5=>⟨_,_,I5,q⟩
  | brk=>
   obtain ⟨σ',H',J,q⟩:=q4
   exact gone J fun s5 I5=>⟨_,_,I5,q⟩
  | cont=>
   obtain ⟨σ',H',J,q⟩:=q4
   exact gone J fun s5 I5=>⟨_,_,I5,q⟩
  | ret u=>
   obtain ⟨v,σ',H',J,rv,q⟩:=q4
   exact gone J fun s5 I5=>⟨v,_,_,I5,rv,q⟩
end
theorem lW {C' e:Addr} {d d':Option Addr} (h:jo C d e=jo C' d' e):C=C'/\d=d':=by
 have h1:=HO.ext.inj h
 let hp:Heap:={objs:=Array.replicate (e+1) {cls:=.ref C,dict:=d,data:=.fields #[]}}
 have g:hp.get? e=some {cls:=.ref C,dict:=d,data:=.fields #[]}:=by
  rw [Heap.get?_some_iff]
  exact ⟨by simp [hp],rfl⟩
 have h2:∃ vs:Array Value,hp.get? e=some {cls:=.ref C',dict:=d',data:=.fields vs}:=(congrFun h1 hp)▸⟨_,g⟩
 obtain ⟨vs,q⟩:=h2
 rw [g] at q
 injection q with q
 injection q with a b
 injection a with a
 exact ⟨a,b⟩
def Bm (P:Program) (w:World) (K:Frag) (mg:Str->Option Value) (base:Heap) (k:Nat) (x:Str) (ps:List Str) (sp:Sp):Prop:=
 ∃ (f:Addr) (fd:FuncData),oq P w K mg base (jw P w) k f fd ps sp/\mg x=some (.ref f)/\keepIn K (.ref f)=true/\Binds K fd ps []
section
variable {k:Nat} {p epos pos yp:Pos} {h0:ExceptHandler} {hs:List ExceptHandler}
abbrev Ej (th:Addr->Addr->Option Addr->TS) (D:Ends) (σ:St):XK:=fun ev dct H2=>∀ e C,ev=.ref e->H2 e=some (jo C dct e)->th e C dct D σ H2
theorem rF {Q:VK} {R:Value->Shared->Prop} (F:Bm X.prog X.w X.K X.mg X.base k x ps sp) (hr:fh k X.A) (hg:Gl X x) (ha:PA X.qh (e::es) ta) (hh:PH X (h0::hs) th) (ir:X.stack=X.env::X.outer) (jm:X.env.frame=some X.env.locals)
  (I:Inv X pins σ H s) (h:ta σ H fun vs H1=>sp vs H1 Q (Ej th D σ)) (k1:∀ v u H2 s2,Inv X pins σ H2 s2->RelV v u->Q v H2->R u s2)
  (d_:(x==("__debug__":Str))=false) (he:starEach (e::es) X.env=(false,eval e X.env)::starEach es X.env) (hpl:(backTo cpos (starEach es X.env)).any (·.1)=false):
  wpAny (model X.prog X.w) X.A (eval (.Call (.Name x p) (e::es) [] cpos) X.env) R (fun ev s1=>wpAny (model X.prog X.w) X.A (noteFrame ev X.env) (fun _ s₂=>wpAny (model X.prog X.w) X.A (setFlight ev none) (fun _ s₃=>wpAny (model X.prog X.w) X.A (handleBy ev X.env (h0::hs)) (SP X pins D) X.xe s₃) X.xe s₂) X.xe s1) s:=by
 obtain ⟨f,fd,F,hm,hk,hb⟩:=F
 refine wpAny_Call_Name_kw (fD I hg hm ?_ d_)
 have In:Inv X.qh pins σ H s:=⟨⟨I.ok.mod,I.ok.kind,I.ok.glob,I.ok.blt,I.ok.above,I.ok.inj,I.ok.has,I.ok.zm,I.ok.hd,I.ok.frames,I.ok.AZ,I.ok.Di,I.ok.bs,I.ok.rm,I.ok.zo,I.ok.A0,I.ok.mi,I.ok.we⟩,I.os,I.bare,I.base,I.loc,I.cell,I.free,I.kq,I.pin,I.hok,I.len⟩
 refine callWith_K (h₀:=X.base) I.ok.mod.xu hk (wpAny_mono (ha cpos pins s σ H _ In h) (fun us s1 q=>?_) fun _ _ z=>z.elim) he hpl
 obtain ⟨vs,H1,I1,r,q⟩:=q
 have I1:Inv X pins σ H1 s1:=⟨I.ok,I1.os,I1.bare,I1.base,I1.loc,I1.cell,I1.free,I1.kq,I1.pin,I1.hok,I1.len⟩
 refine ⟨I1.bx,?_⟩
 have hl:us.length=ps.length:=by rw [<- r.length];exact F.len _ _ _ _ q
 refine wpAny_call (codeAny_mono (F.run X.A X.stack s1 H1 ⟨us,[]⟩ us vs Q (Ej th D σ) hr I1.Dw (by have:=hb s1 us I1.bx (by simpa using hl);simpa using this) r q) fun r s' hq=>?_)
 cases r with
 | error ev=>exact tq I1 ir jm hq fun e C dct H' s2 ee I2 ie q' fl=>by subst ee;exact hh pins s2 σ H' D e C dct I2 ie fl (q' e C rfl ie)
 | ok fl=>
  cases fl with
  | ret u=>
   obtain ⟨v,H2,I2,rv,q2⟩:=I1.after hq
   exact k1 v u H2 s' I2 rv q2
  | next=>exact hq.elim
  | brk=>exact hq.elim
  | cont=>exact hq.elim
def JD (sp:Sp) (ta:TA) (th:Addr->Addr->Option Addr->TS):TS:=fun D σ H=>ta σ H fun vs H1=>sp vs H1 (fun _ H2=>D.nx σ H2) (Ej th D σ)
theorem RN (F:Bm X.prog X.w X.K X.mg X.base k x ps sp) (hr:fh k X.A) (hg:Gl X x) (ha:PA X.qh (e::es) ta) (hh:PH X (h0::hs) th) (ir:X.stack=X.env::X.outer) (jm:X.env.frame=some X.env.locals)
  (d_:(x==("__debug__":Str))=false:=by decide) (he:starEach (e::es) X.env=(false,eval e X.env)::starEach es X.env:=by rfl) (hpl:(backTo cpos (starEach es X.env)).any (·.1)=false:=by rfl)
  (uz:swapsWith (.Call (.Name x p) (e::es) [] cpos) none epos.line X.env=pure false:=by rfl):PS X (.Try [.Expr (.Call (.Name x p) (e::es) [] cpos) epos] (h0::hs) [] [] pos) (JD sp ta th):=by
 intro pins s σ H D I h
 refine wpAny_Try_except (wpAny_execs_cons (wpAny_Expr_any (rF (Q:=fun _ H2=>D.nx σ H2) F hr hg ha hh ir jm I h (fun v u H2 s2 I2 _ q=>?_) d_ he hpl) I.quiet uz))
 exact wpAny_execs_nil (wpAny_execs_nil ⟨σ,H2,I2,q⟩)
end
end L2
namespace L2
open PySem PySem.Spec PySem.W PyProof.Rows
def Ek (K:Frag) (C:Addr):List Str->Bool
 | []=>true
 | f::l=>(match findIn K (.ref C) f with | some none=>true | _=>false)&&Ek K C l
section
variable {K:Frag}
theorem lF:∀ {C:Addr} {l:List Str},Ek K C l=true->∀ f∈l,HY K C f
 | C,f::l,e,g,hg=>by
  unfold Ek at e
  rw [Bool.and_eq_true_iff] at e
  rcases Qp.mp hg with rfl | hg
  ·have e1:=e.1
   split at e1
   ·assumption
   ·cases e1
  ·exact lF e.2 g hg
end
section
variable {H1:Hp} {fs ex:List Addr}
theorem be.there (x:be P w H h a o):∃ ob,h.get? a=some ob:=by
 cases o with
 | lst xs=>obtain ⟨_,_,_,_,e⟩:=x;exact ⟨_,e⟩
 | tup xs=>obtain ⟨_,_,_,o,e,_⟩:=x;exact ⟨_,e⟩
 | dK kvs=>obtain ⟨_,_,_,_,o,_,_,e,_⟩:=x;exact ⟨_,e⟩
 | dT kvs=>obtain ⟨_,_,_,_,o,_,_,e,_⟩:=x;exact ⟨_,e⟩
 | set S n=>obtain ⟨o,_,_,_,e,_⟩:=x;exact ⟨_,e⟩
 | ins C dx fs=>obtain ⟨_,_,_,e,_⟩:=x;exact ⟨_,e⟩
 | own y=>exact x
 | xd fs=>obtain ⟨_,⟨_,_,_,e,_⟩,_⟩:=x;exact ⟨_,e⟩
 | Dh lo hi=>obtain ⟨_,_,_,e⟩:=x;exact ⟨_,e⟩
 | c_ ob u=>obtain ⟨e,_⟩:=x;exact ⟨_,e⟩
 | xq ps=>exact ⟨_,x⟩
 | met f y=>exact ⟨_,x⟩
 | ext φ=>exact x.2.1
theorem cj.free (x:cj P w H h) (e:h.get? a=none):H a=none:=by
 cases q:H a with
 | none=>rfl
 | some u=>obtain ⟨ob,z⟩:=(x a u q).there;rw [e] at z;cases z
theorem cj.more (x:cj P w H h) (k:∀ b u,h.get? b=some u->h'.get? b=some u) (hn:H a=none) (new:be P w (upd H a o) h' a o):cj P w (upd H a o) h':=fun b u e=>by
 by_cases hb:b=a
 ·subst hb;rw [aA] at e;cases e;exact new
 ·rw [aH hb] at e
  exact (x b u e).stay (fun c v _ q=>k c v q) (fun c q=>by rw [aH (aN q hn)];exact q) fun c xs q=>q.upd fun u hu=>aN hu hn
theorem Un.more (u:Un fs ex H H1 h h') (e:h.get? a=none) (hn:H1 a=none):Un fs ex H (upd H1 a o) h h' where
 keep:=u.keep
 slot:=u.slot
 free:=fun b ob q n hx=>by rw [aH fun z=>by rw [z,e] at q;cases q];exact u.free b ob q n hx
 there:=u.there
 tups:=fun b xs q=>by have:=u.tups b xs q;rw [aH (aN this hn)];exact this
 jz:=fun b ob xs q=>by have:=u.jz b ob xs q;rw [aH (aN this hn)];exact this
 ko:=fun b ps q=>by obtain ⟨m,this⟩:=u.ko b ps q;exact ⟨m,by rw [aH (aN this hn)];exact this⟩
end
def CO (K:Frag) (N:Addr):Option (Option Value):=match K.lookup N with
 | some ⟨_,_,.dict es _,_⟩=>if es.all (fun e=>match e.key with | .str _ _=>true | _=>false) then some (nsFind es "__init__") else none
 | _=>none
def CP (K:Frag):List Addr->Bool
 | []=>true
 | A::l=>(match K.lookup A with | some ⟨_,_,.cls cd,_⟩=>CO K cd.ns==some none | _=>false)&&CP K l
def p_ (K:Frag) (C:Addr) (own:List Addr) (jp:Option Value):Bool:=match K.lookup C with
 | some ⟨c,_,.cls cd,sl⟩=>c==.type "type"&&(cd.mro==.ref C::pq own&&(!cd.hasDel&&(cd.hasDict&&(sl.size==6&&(sl[4]?==some (some (.builtin "ValueError.__new__"))&&(CO K cd.ns==some jp&&(CP K own&&keepIn K (.ref C))))))))
 | _=>false
section
variable {K:Frag} {N:Addr} {own:List Addr} {jp:Option Value}
theorem j5 (X:K.In h) (e:CO K N=some jp):h.Ns N (h.nsMap N)/\h.nsMap N "__init__"=jp:=by
 unfold CO at e
 split at e
 ·rename_i c d es ep sl lk
  split at e
  ·rename_i hs
   have g:=X _ _ lk
   refine ⟨.of_isNs ?_,?_⟩
   ·unfold Heap.isNs;rw [g];exact hs
   ·unfold Heap.nsMap;rw [g];exact QD e
  ·cases e
 ·cases e
theorem jB (X:K.In h):∀ {own:List Addr},CP K own=true->OwnTail h Eg (pq own)
 | [],_=>.base
 | A::l,e=>by
  unfold CP at e
  rw [Bool.and_eq_true_iff] at e
  obtain ⟨e1,e2⟩:=e
  split at e1
  ·rename_i c d cd sl lk
   obtain ⟨n1,n2⟩:=j5 X (beq_iff_eq.mp e1)
   exact .own (X _ _ lk) n1 n2 (jB X e2)
  ·cases e1
theorem gA (e:p_ K C own jp=true):∃ nm q N bs sn sub ab col dd k0 k1 k2 k3 k5,K.lookup C=some (excClassObj nm q C N bs (pq own) true sn sub ab col dd k0 k1 k2 k3 k5 "ValueError.__new__")/\CO K N=some jp/\CP K own=true/\keepIn K (.ref C)=true:=by
 unfold p_ at e
 split at e
 ·rename_i c d cd sl lk
  obtain ⟨nm,bs,mro,N,q,hdct,sn,sub,ab,col,Wm⟩:=cd
  simp only [Bool.and_eq_true,beq_iff_eq,Bool.not_eq_true'] at e
  obtain ⟨rfl,rfl,rfl,rfl,hsz,Fy,hn,hu,hk⟩:=e
  obtain ⟨l⟩:=sl
  obtain ⟨k0,k1,k2,k3,k5,rfl⟩:=six_places (l:=l) (by simpa using hsz) (by simpa using Fy)
  exact ⟨nm,q,N,bs,sn,sub,ab,col,d,k0,k1,k2,k3,k5,lk,hn,hu,hk⟩
 ·cases e
theorem kW (e:p_ K C own jp=true):∃ cd,clsIn K C=some cd/\cd.mro=pq (C::own)/\cd.hasDict=true:=by
 obtain ⟨nm,q,N,bs,sn,sub,ab,col,dd,k0,k1,k2,k3,k5,lk,_⟩:=gA e
 exact ⟨_,by unfold clsIn;rw [lk],rfl,rfl⟩
theorem mH (e:p_ K C own jp=true) {v:Value} (h:v∈Eg):subIn K (.ref C) v=some true:=by
 obtain ⟨cd,h1,h2,_⟩:=kW e
 show mroIn K C v=_
 unfold mroIn
 rw [h1,Option.bind_some,h2,if_neg (by simp [pq]),gC h]
theorem RO (e:p_ K C own jp=true):Ei K C:=by
 obtain ⟨cd,h1,_⟩:=kW e
 obtain ⟨nm,q,N,bs,sn,sub,ab,col,dd,k0,k1,k2,k3,k5,lk,_⟩:=gA e
 exact ⟨by show (K.lookup C).map _=_;rw [lk];rfl,by show (fastBuiltinMro "type").map _=_;decide+kernel,⟨cd,h1⟩,mH e (by decide)⟩
end
section
variable {K:Frag} {e:Addr} {ox:Obj} {od:Option Obj} {expr:Bool}
theorem RP {v:Value} (X:K.In s.heap) (I:InstAt s.heap e ox C od) (F3:findIn K (.ref C) "__getattribute__"=some (some (.builtin "BaseException.__getattribute__"))) (hk:findIn K (.ref C) "__getattr__"=some none)
  (sub:subIn K (.ref C) (.type "BaseException")=some true) (hf:findObj K C od name=some (.value v)) (hh:handedIn v=true) (h:Q v {s with toks:=s.toks+1}):wpAny (model P w) A (getAttr (.ref e) name expr) Q E s:=by
 have ht:Looks (model P w) s.heap (typeOf (.ref e)) (.ref C):=I.type
 refine QT (wpAny_mkText (wpAny_holding (QT (ht _ _ _ _ (fun _ _ e=>e) (QT (looks_findIn X F3 _ _ _ _ (fun _ _ e=>e) ?_))))))
 dsimp only
 rw [show (onTheHeap (.ref C)&&Value.builtin "BaseException.__getattribute__"==Value.builtin "object.__getattribute__")=false from by rw [show (Value.builtin "BaseException.__getattribute__"==Value.builtin "object.__getattribute__")=false from by decide+kernel,Bool.and_false],if_neg (by decide)]
 have hb:Looks (model P w) s.heap (hookBefore (.ref C)) none:=by
  unfold hookBefore;rw [if_pos (by rfl)];exact looks_findIn X hk
 refine QT (hb _ _ _ _ (fun _ _ e=>e) (QT (wpAny_attempt (wpAny_holding ?_))))
 unfold callGetattribute
 rw [show (expr&&onTheHeap (Value.builtin "BaseException.__getattribute__"))=false from Bool.and_false _,if_neg (by decide)]
 unfold boundAndCalled
 rw [PySem.F.attr_ValueError.ga.bind]
 refine QT (QU ?_)
 show wpAny _ _ (call (.builtin "BaseException.__getattribute__") [.ref e,.str name s.toks]) _ _ _
 refine wpAny_call ?_
 refine codeAny_call_builtin PySem.F.attr_ValueError.ga.plain PySem.F.entry_bexc_ga ?_
 refine @check_slot (model P w) _ _ {s with toks:=s.toks+1} "BaseException.__getattribute__" "BaseException" "__getattribute__" (.ref e) [.str name s.toks] [] _ (by decide+kernel) (by decide+kernel) (ht.andThen (looks_subIn X sub)) (PySem.F.args_bexc_ga (.ref e) (.str name s.toks)) ?_
 have L1:=looks_find (M:=model P w) X I hf
 unfold Builtin.«object.__getattribute__»
 refine QT (QU (QT (QU (QT (ht _ _ _ _ (fun _ _ e=>e) (QT (L1 _ _ _ _ (fun _ _ e=>e) ?_)))))))
 refine QU ?_
 show wpAny _ _ (handedOut v) _ _ _
 rw [handedOut_of hh];exact QU h
end
def JE (C:Addr) (ta:TA) (E:XK):TS:=fun _ σ H=>ta σ H fun vs H1=>vs.length<=1000/\∀ e,H1 e=none->E (.ref e) none (upd H1 e (jo C none e))
def JF (C:Addr) (sp:Sp) (ta:TA) (E:XK):TS:=fun _ σ H=>ta σ H fun vs H1=>vs.length<=1000/\∀ e,H1 e=none->sp (.ref e::vs) (upd H1 e (cf C none e)) (fun v H2=>v=.af/\∃ dct,H2 e=some (cf C dct e)/\E (.ref e) dct (upd H2 e (jo C dct e))) E0
section
variable {K:Frag} {cd:Value} {s0:Shared} {H0:Hp} {E:XK} {own:List Addr} {np pos:Pos} {e1:Expr}
theorem Inv.El {e:Addr} (I:Inv X pins σ H s) (m:Heap.MadeExcOf s.heap h' e (.ref C) us):H e=none/\Inv X pins σ (upd H e (cf C none e)) {s with heap:=h'}:=by
 have hn:=I.hok.free m.new
 obtain ⟨t,ht,_,_⟩:=m.there
 exact ⟨hn,I.un (t':=s.toks) (Un.more (Un.kept m.keeps) m.new hn) (I.hok.more m.keeps hn (tI ⟨t,ht⟩))⟩
theorem xJ (hx:p_ K C own none=true) (hm:mg x=some (.ref C)) (hg:Gl (gx (jw P w) P w K mg base N qual scope f cd A outer s0 H0 E) x) (ha:PA (gx (jw P w) P w K mg base N qual scope f cd A outer s0 H0 E) (e1::es) ta)
  (d_:(x==("__debug__":Str))=false:=by decide) (he:starEach (e1::es) (envOfC qual scope s0.heap.objs.size f cd)=(false,eval e1 (envOfC qual scope s0.heap.objs.size f cd))::starEach es (envOfC qual scope s0.heap.objs.size f cd):=by rfl)
  (hpl:(backTo cpos (starEach es (envOfC qual scope s0.heap.objs.size f cd))).any (·.1)=false:=by rfl):PS (gx (jw P w) P w K mg base N qual scope f cd A outer s0 H0 E) (.Raise (some (.Call (.Name x np) (e1::es) [] cpos)) none pos) (JE C ta E):=by
 intro pins s σ H D I h
 obtain ⟨nm,q,N',bs,sn,sub,ab,col,dd,k0,k1,k2,k3,k5,lk,hn,hu,hk⟩:=gA hx
 rw [arm_exec_Raise]
 refine QT (wpAny_standAt (rW (C:=C) (nm:=nm) (q:=q) (N:=N') (bs:=bs) (bm:=pq own) (hdct:=true) (sn:=sn) (sub:=sub) (ab:=ab) (col:=col) (dd:=dd) (k0:=k0) (k1:=k1) (k2:=k2) (k3:=k3) (k5:=k5) (newId:="ValueError.__new__") (gC (by decide) _) (I.ok.hd rfl) (QT (aj (t:=eval (.Call (.Name x np) (e1::es) [] cpos) _) ?_ fun v s3 h3=>QT (wpAny_standAt (QU h3))))))
 refine wpAny_Call_Name_kw (fD I hg hm ?_ d_)
 refine callWith_K (h₀:=base) I.ok.mod.xu hk (aj (ha cpos pins s σ H _ I h) fun us s1 ⟨vs,H1,I1,r,hl,qe⟩=>⟨I1.bx,?_⟩) he hpl
 obtain ⟨n1,n2⟩:=j5 I1.bx hn
 have T:=jB I1.bx hu
 have hC:=I1.bx _ _ lk
 have F:=PySem.F.excBase_ValueError
 obtain ⟨hp,g,d,tk,os⟩:=s1
 refine wpAny_call_exc_subU F F.hasB F T hC n1 n2 (fun h' e m=>?_) (by show us.length<=_;rw [<- r.length,QL];omega)
 obtain ⟨gq,I2⟩:=I1.El m
 obtain ⟨t,ht,_,_⟩:=m.there
 exact ⟨e,t,none,rfl,I2.bx _ _ lk,ht,rC I2 aA (by rw [jX];exact qe e gq)⟩
theorem xM {k:Nat} {fI:Addr} (hx:p_ K C own (some (.ref fI))=true) (hf:isFn K (.ref fI)=true) (F:oq P w K mg base uw k fI fd ps sp) (hb:Binds K fd ps []) (hr:fh (k+1) (A.deeper (envOfC qual scope s0.heap.objs.size f cd))) (hm:mg x=some (.ref C)) (hg:Gl (gx (jw P w) P w K mg base N qual scope f cd A outer s0 H0 E) x) (ha:PA (gx (jw P w) P w K mg base N qual scope f cd A outer s0 H0 E) (e1::es) ta)
  (d_:(x==("__debug__":Str))=false:=by decide) (he:starEach (e1::es) (envOfC qual scope s0.heap.objs.size f cd)=(false,eval e1 (envOfC qual scope s0.heap.objs.size f cd))::starEach es (envOfC qual scope s0.heap.objs.size f cd):=by rfl)
  (hpl:(backTo cpos (starEach es (envOfC qual scope s0.heap.objs.size f cd))).any (·.1)=false:=by rfl):PS (gx (jw P w) P w K mg base N qual scope f cd A outer s0 H0 E) (.Raise (some (.Call (.Name x np) (e1::es) [] cpos)) none pos) (JF C sp ta E):=by
 intro pins s σ H D I h
 obtain ⟨nm,q,N',bs,sn,sub,ab,col,dd,k0,k1,k2,k3,k5,lk,hn,hu,hk⟩:=gA hx
 rw [arm_exec_Raise]
 refine QT (wpAny_standAt (rW (C:=C) (nm:=nm) (q:=q) (N:=N') (bs:=bs) (bm:=pq own) (hdct:=true) (sn:=sn) (sub:=sub) (ab:=ab) (col:=col) (dd:=dd) (k0:=k0) (k1:=k1) (k2:=k2) (k3:=k3) (k5:=k5) (newId:="ValueError.__new__") (gC (by decide) _) (I.ok.hd rfl) (QT (aj (t:=eval (.Call (.Name x np) (e1::es) [] cpos) _) ?_ fun v s3 h3=>QT (wpAny_standAt (QU h3))))))
 refine wpAny_Call_Name_kw (fD I hg hm ?_ d_)
 refine callWith_K (h₀:=base) I.ok.mod.xu hk (aj (ha cpos pins s σ H _ I h) fun us s1 ⟨vs,H1,I1,r,hl,qe⟩=>⟨I1.bx,?_⟩) he hpl
 obtain ⟨n1,n2⟩:=j5 I1.bx hn
 have T:=jB I1.bx hu
 have hC:=I1.bx _ _ lk
 have FV:=PySem.F.excBase_ValueError
 obtain ⟨oI,Ge,Gf⟩:∃ o,K.lookup fI=some o/\o.cls=.type "function":=by
  have e:=beq_iff_eq.mp hf
  exact Option.map_eq_some_iff.mp (show (K.lookup fI).map (·.cls)=some (.type "function") from e)
 obtain ⟨hp,g,d,tk,os⟩:=s1
 refine wD FV FV.hasB FV T hC n1 n2 (I1.bx _ _ Ge) Gf (by show us.length<=_;rw [<- r.length,QL];omega) fun h' e m=>?_
 obtain ⟨gq,I2⟩:=I1.El m
 have q:=qe e gq
 have r2:ao (V.ref e::vs) (Value.ref e::us):=.cons rfl r
 have gj:(Value.ref e::us).length=ps.length:=by rw [<- r2.length];exact F.len _ _ _ _ q
 refine wpAny_call (codeAny_mono (F.run _ _ _ _ ⟨Value.ref e::us,[]⟩ (Value.ref e::us) _ _ E0 (hr.make C us []) (I2.Dw.make C us []) (by have:=hb _ (Value.ref e::us) I2.bx (by simpa using gj);simpa using this) r2 q) fun r s' hq=>?_)
 cases r with
 | error e=>exact hq.elim
 | ok fl=>
  cases fl with
  | ret u=>
   obtain ⟨v,H',I3,rv,ev,dct,ie,q3⟩:=I2.after hq
   subst ev
   obtain ⟨t,ht⟩:ph s'.heap e C dct:=(show be P w H' s'.heap e (cf C dct e) from I3.hok e _ ie).1
   exact ⟨rv,e,t,dct,rfl,I3.bx _ _ lk,ht,rC I3 ie q3⟩
  | next=>exact hq.elim
  | brk=>exact hq.elim
  | cont=>exact hq.elim
end
structure ly (K:Frag) (C:Addr):Prop where
 ga:findIn K (.ref C) "__getattribute__"=some (some (.builtin "BaseException.__getattribute__"))
 gk:findIn K (.ref C) "__getattr__"=some none
 sa:findIn K (.ref C) "__setattr__"=some (some (.builtin "object.__setattr__"))
 ic:findIn K (.ref C) "__class__"=some (some (.builtin "object.__class__"))
 xc:∃ own jp,p_ K C own jp=true
structure JG (K:Frag) (B:Addr):Prop where
 sp:specialIn K (.ref B) "__getattribute__"=some (some (.builtin "type.__getattribute__"))
 rd:readsIn K B (.type "type")=true
 fc:∃ v,findCls K (.ref B) (.type "type") "__init__"=some (.val v)/\v=.builtin "ValueError.__init__"
def JH (K:Frag) (ta:TA):TE:=fun σ H Q=>ta σ H fun vs H1=>∃ e C dct rest,vs=.ref e::rest/\rest.length<=1000/\ly K C/\H1 e=some (cf C dct e)/\Q .af H1
def JI (K:Frag) (ta tv:TE) (f:Str):TS:=fun D σ H=>tv σ H fun y H1=>ta σ H1 fun x H2=>∃ e C,x=.ref e/\H2 e=some (cf C none e)/\ly K C/\findIn K (.ref C) f=some none/\∀ dx,H2 dx=none->D.nx σ (upd (upd H2 e (cf C (some dx) e)) dx (.xd [(f,y)]))
section
variable {B:Addr} {b:Str} {bp pos pos':Pos} {o value:Expr} {ta tv:TE} {f:Str}
theorem RQ {pl:Sem Bool} (N:JG X.K B) (hm:X.mg b=some (.ref B)) (hg:Gl X b) (ha:PA X (e::es) t) (d_:(b==("__debug__":Str))=false:=by decide)
  (ir:starEach (e::es) X.env=(false,eval e X.env)::starEach es X.env:=by rfl) (hpl:(backTo pos (starEach es X.env)).any (·.1)=false:=by rfl)
  (ht:eval (.Call (.Attribute (.Name b bp) "__init__" apos) (e::es) [] pos) X.env=(do
   let ov <- eval (.Name b bp) X.env
   standAt apos.atName
   let (f,first) <- holding [ov] (getMethod ov "__init__" pl)
   callWith pos f first (backTo pos (starEach (e::es) X.env)) (backToKw pos (keywordEach [] X.env))):=by rfl):PE X (.Call (.Attribute (.Name b bp) "__init__" apos) (e::es) [] pos) (JH X.K t):=by
 intro pins s σ H Q I h
 refine methodCall_KW (pl:=pl) (fD I hg hm ?_ d_) ht
 obtain ⟨v,fc,rfl⟩:=N.fc
 refine method_cls I.bx N.sp (cls_value I.bx N.rd fc (by decide+kernel) ?_)
 have hA:=ha pos pins _ σ H _ (I.tok (s.toks+1)) h
 rw [ir] at hA ⊢
 refine Calls.callWith_builtin (by show (false||(backTo pos (starEach es X.env)).any (·.1))=false;rw [hpl]<;>rfl) (Calls.evalArgs_plain ?_)
 refine aj hA ?_
 rintro us s2 ⟨vs,H2,I2,r2,e,C,dct,rest,ev,hl,xa,he,q⟩
 subst ev
 obtain ⟨u0,wq,rfl,r0,r1⟩:∃ u0 wq,us=u0::wq/\RelV (.ref e) u0/\ao rest wq:=by cases r2 with | cons a b=>exact ⟨_,_,rfl,a,b⟩
 obtain rfl:u0=Value.ref e:=r0
 obtain ⟨own,jp,hx⟩:=xa.xc
 obtain ⟨nm,q',N',bs,sn,sub,ab,col,dd,k0,k1,k2,k3,k5,lk,hn,hu,hk⟩:=gA hx
 have T:=jB I2.bx hu
 have hC:=I2.bx _ _ lk
 have hE:ph s2.heap e C dct:=(show be X.prog X.w H2 s2.heap e (cf C dct e) from I2.hok e _ he).1
 obtain ⟨hp,g,d,tk,os⟩:=s2
 refine Ry PySem.F.excBase_ValueError T hC hE (by show wq.length<=_;rw [<- r1.length,QL];omega) fun h' k1 x1=>⟨.af,H2,?_,rfl,q⟩
 have:=I2.write (x:=e) (e:=e) (o:=cf C dct e) (t':=tk) (by rw [he];exact True.intro) (.inl rfl) k1 (let ⟨_,z⟩:=x1;⟨_,z⟩) (tI x1)
 rw [lY he] at this
 exact this
theorem RS (ha:PE X o ta) (hv:PE X value tv) (hs:swapsWith value (some (.Attribute o f pos')) pos.line X.env=pure false):PS X (.Assign [.Attribute o f pos'] value pos) (JI X.K ta tv f):=by
 intro pins s σ H D I h
 refine plainObj_wpAny_Assign_Attribute (aj (hv pins s σ H _ I h) fun u s1 ⟨y,H1,I1,ry,q⟩=>aj (ha pins s1 σ H1 _ I1 q) fun ov s2 ⟨x,H2,I2,rx,e,C,ex,he,xa,na,q2⟩=>?_) hs
 subst ex
 obtain rfl:ov=Value.ref e:=rx
 obtain ⟨own,jp,hx⟩:=xa.xc
 obtain ⟨cd,c1,c2,c3⟩:=kW hx
 have hE:ph s2.heap e C none:=(show be X.prog X.w H2 s2.heap e (cf C none e) from I2.hok e _ he).1
 refine Rz I2.bx hE c1 c2 c3 xa.sa na fun h' dx tk hd kp x1 nd=>?_
 have Em:=I2.hok.free hd
 have RU:dx≠e:=fun z=>by rw [z,he] at Em;cases Em
 have mu:AW (H2 e):=by rw [he];exact True.intro
 have v_:∃ u,h'.get? e=some u:=let ⟨_,z⟩:=x1;⟨_,z⟩
 have hn1:upd H2 e (cf C (some dx) e) dx=none:=by rw [aH RU];exact Em
 refine ⟨σ,upd (upd H2 e (cf C (some dx) e)) dx (.xd [(f,y)]),I2.un (Un.more (Un.write mu (.inl rfl) kp v_) hd hn1) (cj.more (I2.hok.write mu (.inl rfl) kp v_ (tI x1)) (fun _ _ z=>z) hn1 ?_),q2 dx Em⟩
 refine ⟨_,nd,fun g=>?_⟩
 rw [List.lookup_cons]
 by_cases z:g=f
 ·subst z;simp [jy,ry]
 ·rw [if_neg z,show (g==f)=false from beq_false_of_ne z];exact True.intro
end
end L2
namespace L2
open PySem PySem.Spec PyProof.Rows
theorem nY:∀ {ws:List Str},rising ws=true->ws.Pairwise (fun a b=>gv a b=true)
 | [],_=>.nil
 | [_],_=>List.pairwise_singleton _ _
 | a::b::r,h=>by
  have h':gv a b=true/\rising (b::r)=true:=by simpa [rising] using h
  have ih:=nY h'.2
  refine List.pairwise_cons.mpr ⟨fun c hc=>?_,ih⟩
  rcases Qp.mp hc with rfl | hc
  ·exact h'.1
  ·exact lA h'.1 ((List.pairwise_cons.mp ih).1 c hc)
theorem oX (h:rising ws=true):ws.Nodup:=(nY h).imp fun {x y} h e=>by rw [e,pT] at h;cases h
def Sx (x:Addr) (H H':Hp):Prop:=∀ b o,b≠x->H b=some o->H' b=some o
theorem Sx.upd {x:Addr} {H:Hp} {o:HO}:Sx x H (upd H x o):=fun c u n h=>by rw [aH n];exact h
section
variable {xs:List V} {rows:List ff}
end
section
variable {it d:Addr} {ep:Nat} {od:Obj} {es:Array DictEntry} {ok ov:Value} {Q:Option Value->Shared->Prop}
end
section
variable {k:Nat} {yb:Pos} {o:Expr}
end
section
variable {o:Expr}
end
theorem Paired.at {β:Type} {R:α->β->Prop} {xs:List α} {ys:List β} (h:Paired R xs ys):∀ i (h1:i < xs.length) (h2:i < ys.length),R xs[i] ys[i]:=by
 induction h with
 | nil=>intro i h1;exact absurd h1 (by simp)
 | cons a _ ih=>
  intro i h1 h2
  cases i with
  | zero=>exact a
  | succ i=>exact ih i (by simpa using h1) (by simpa using h2)
section
variable {t1 i1 t2 i2 elt:Expr} {pos:Pos} {QY:TI} {g2:TG}
end
section
variable {it d:Addr} {ep:Nat} {od:Obj} {es:Array DictEntry} {Q:Option Value->Shared->Prop}
end
section
variable {o:Expr}
end
section
variable {a:Expr} {p p2 pos En:Pos}
end
abbrev Road:=List (List Str)
section
variable {xs:List V} {rows:List ff}
end
section
variable {pos:Pos}
end
abbrev Eo:=List (Str×Option (Str×List Str))
def RW (row:Str) (cb:Eo) (ms:List (List Str×Str)):Eo:=ms.foldl (fun cb m=>if m.2∈cb.map (·.1) then cb else cb++[(m.2,some (row,m.1))]) cb
def Bo (rows:List ff) (f:Str):Nat->Eo
 | 0=>[(f,none)]
 | i+1=>match (Bo rows f i)[i]? with
  | none=>Bo rows f i
  | some c=>RW c.1 (Bo rows f i) (Rc rows c.1)
theorem oF:∀ {l m:List Str},l.Nodup->(∀ x∈l,x∈m)->l.length<=m.length
 | [],m,_,_=>Nat.zero_le _
 | a::l,m,nd,h=>by
  have ha:=h a List.mem_cons_self
  have h1:=oF (l:=l) (m:=m.erase a) (List.nodup_cons.mp nd).2 fun x hx=>(List.mem_erase_of_ne (show x≠a from fun z=>(List.nodup_cons.mp nd).1 (by rw [<- z];exact hx))).mpr (h x (Qh _ hx))
  rw [List.length_erase_of_mem ha] at h1
  have hp:=List.length_pos_of_mem ha
  rw [List.length_cons]
  omega
section
variable {iter kx vx:Expr} {pos:Pos} {tk tw:TE}
end
def hv (hs:List (Str×Nat)) (y:Str):Nat:=((hs.find? fun q=>decide (q.1=y)).map (·.2)).getD 0
section
variable {o:Expr} {p RY:Pos}
end
section
variable {o f:Expr} {td ty tx:TE}
end
end L2
namespace L2
open PySem PySem.Spec PySem.W PyProof.Rows
section
variable {o:Expr} {ta:TE} {m:Str} {pos p:Pos} {k:Nat}
end
section
variable {K:Frag}
end
section
variable {c1 c2:Str} {j1 j2:Nat} {p1 p2 p3 pos:Pos}
def RZ (c1 c2:Str) (te:TE):TE:=fun σ H Q=>c1.length+c2.length<=1000/\te σ H fun x H1=>∃ i:Int,x=.int i/\i.natAbs < 2^64/\Q (.str (c1++Str.ofString (toString i)++c2)) H1
theorem R0 (he:SE X e te):SE X (.JoinedStr [.Constant (.str c1) j1 p1,.FormattedValue e (-1) none p2,.Constant (.str c2) j2 p3] pos) (RZ c1 c2 te):=by
 constructor
 intro pins s σ H Q I ⟨hl,h⟩
 have hsz:sizeLine=16777216:=QL
 refine JoinedStr_many (joinParts_cons (Calls.Constant_str ?_))
 have z0:(Str.empty++c1)=c1:=by show Str.mk _=_;simp [Str.empty]
 have I0:=I.tok (s.toks+1)
 refine ⟨?_,joinParts_cons (FormattedValue_plain (aj (he.h pins _ σ H _ I0 h) fun u s1 ⟨x,H1,I1,rx,i,ex,hi,q⟩=>?_))⟩
 ·rw [z0];omega
 subst ex
 obtain ⟨t,rfl⟩:∃ t,u=Value.int i t:=rx
 have R7:i.natAbs.log2 < 64:=by
  by_cases z:i.natAbs=0
  ·rw [z];decide
  ·exact (Nat.log2_lt z).mpr hi
 have bh:=Nat.le_trans (Nat.le_of_eq (PySem.ofString_length (toString i))) (int_text_length_le (k:=64) (by decide) R7)
 refine formatField_int_small (by omega) ⟨by rw [z0,strLen_append];omega,?_⟩
 rw [z0]
 refine joinParts_cons (Calls.Constant_str ⟨by rw [strLen_append,strLen_append];omega,joinParts_nil ⟨.str (c1++Str.ofString (toString i)++c2),H1,I1.tok _,⟨_,rfl⟩,q⟩ (by rw [strLen_append,strLen_append];omega)⟩)
theorem oZ {xs:List Expr} (ha:SE X (.JoinedStr xs pos) te) (hr:SA X es t):SA X (.JoinedStr xs pos::es) (fu te t):=⟨dM ha.h hr.h⟩
end
section
variable {CC:Addr}
end
structure Bp (K:Frag) (mg:Str->Option Value) (x:Str):Prop where
 m:mg x=some (.ref (adr mg x))
 at_:ly K (adr mg x)
 xc:∃ own,p_ K (adr mg x) own none=true
 ni:JG K (adr mg x)
structure Bq (K:Frag) (mg:Str->Option Value) (x q:Str) (st:Stmt) (ps fs:List Str):Prop where
 m:mg x=some (.ref (adr mg x))
 at_:ly K (adr mg x)
 na:∀ f∈fs,HY K (adr mg x) f
 ex:∃ own f fd,p_ K (adr mg x) own (some (.ref f))=true/\isFn K (.ref f)=true/\yd K "__init__" q st f fd/\Binds K fd ps []
theorem ly.nm {K:Frag} (x:ly K C):Ei K C:=let ⟨_,_,h⟩:=x.xc;RO h
def CQ (P:Program) (w:World) (K:Frag) (mg:Str->Option Value) (base:Heap) (k:Nat) (x:Str) (ps:List Str) (sp:Sp):Prop:=
 mg x=some (.ref (adr mg x))/\∃ own f fd,p_ K (adr mg x) own (some (.ref f))=true/\isFn K (.ref f)=true/\oq P w K mg base uw k f fd ps sp/\Binds K fd ps []
section
variable {K:Frag} {q:Str} {st:Stmt} {fs:List Str} {k:Nat}
theorem Bq.fj (F:Bq K mg x q st ps fs) (S:dg N ps (au st)) (len:∀ vs H Q E,sp vs H Q E->vs.length=ps.length)
  (se:∀ (f:Addr) (ak:Value) (A:Around) (outer:List Env) (s:Shared) (H:Hp) (vs:List V) (Q:VK) (E:XK),fh k (A.deeper (envOfC q (au st) s.heap.objs.size f ak))->sp vs H Q E->
   ∃ t,SB (gx uw P w K mg base N q (au st) f ak A outer s H E).qh (jf st) t/\t {nx:=fun _ H'=>Q .af H',rt:=Q} (start N vs) H):CQ P w K mg base (k+1) x ps sp:=by
 obtain ⟨own,f,fd,h1,h2,Fu,b⟩:=F.ex
 exact ⟨F.m,own,f,fd,h1,h2,Fu.ok S len fun ak A outer s H vs Q E hr h=>let ⟨t,h1,h2⟩:=se f ak A outer s H vs Q E hr h;⟨t,h1.h,h2⟩,b⟩
theorem dc.R8 (F:dc K mg x st ps) (S:dg N ps (au st)) (len:∀ vs H Q E,sp vs H Q E->vs.length=ps.length)
  (se:∀ (f:Addr) (ak:Value) (A:Around) (outer:List Env) (s:Shared) (H:Hp) (vs:List V) (Q:VK) (E:XK),fh k (A.deeper (envOfC x (au st) s.heap.objs.size f ak))->sp vs H Q E->
   ∃ t,SB (gx (jw P w) P w K mg base N x (au st) f ak A outer s H E) (jf st) t/\t {nx:=fun _ H'=>Q .af H',rt:=Q} (start N vs) H):Bm P w K mg base (k+1) x ps sp:=by
 obtain ⟨f,fd,Fu,m,b⟩:=F
 obtain ⟨oc,od,kV,doc,pm,an,ak,ct,g_,rfl,lk,jr⟩:=Fu.ex
 refine ⟨f,_,Ie lk jr S len fun A outer s H vs Q E hr uu=>?_,m,Fu.kp,b⟩
 obtain ⟨t,h,q⟩:=se f ak A outer s H vs Q E hr uu
 exact ⟨t,h.h,q⟩
end
section
variable {K:Frag} {cd:Value} {s0:Shared} {H0:Hp} {E:XK} {np pos:Pos} {e1:Expr}
theorem z8 (c:Bp K mg x) (ha:SA (gx (jw P w) P w K mg base N qual scope f cd A outer s0 H0 E) (e1::es) ta) (hg:Gl (gx (jw P w) P w K mg base N qual scope f cd A outer s0 H0 E) x:=by rfl)
  (d_:(x==("__debug__":Str))=false:=by decide) (he:starEach (e1::es) (envOfC qual scope s0.heap.objs.size f cd)=(false,eval e1 (envOfC qual scope s0.heap.objs.size f cd))::starEach es (envOfC qual scope s0.heap.objs.size f cd):=by rfl)
  (hpl:(backTo cpos (starEach es (envOfC qual scope s0.heap.objs.size f cd))).any (·.1)=false:=by rfl):SS (gx (jw P w) P w K mg base N qual scope f cd A outer s0 H0 E) (.Raise (some (.Call (.Name x np) (e1::es) [] cpos)) none pos) (JE (adr mg x) ta E):=by
 obtain ⟨own,hx⟩:=c.xc
 exact ⟨xJ hx c.m hg ha.h d_ he hpl⟩
theorem zD {k:Nat} (F:CQ P w K mg base k x ps sp) (hr:fh (k+1) (A.deeper (envOfC qual scope s0.heap.objs.size f cd))) (ha:SA (gx (jw P w) P w K mg base N qual scope f cd A outer s0 H0 E) (e1::es) ta) (hg:Gl (gx (jw P w) P w K mg base N qual scope f cd A outer s0 H0 E) x:=by rfl)
  (d_:(x==("__debug__":Str))=false:=by decide) (he:starEach (e1::es) (envOfC qual scope s0.heap.objs.size f cd)=(false,eval e1 (envOfC qual scope s0.heap.objs.size f cd))::starEach es (envOfC qual scope s0.heap.objs.size f cd):=by rfl)
  (hpl:(backTo cpos (starEach es (envOfC qual scope s0.heap.objs.size f cd))).any (·.1)=false:=by rfl):SS (gx (jw P w) P w K mg base N qual scope f cd A outer s0 H0 E) (.Raise (some (.Call (.Name x np) (e1::es) [] cpos)) none pos) (JF (adr mg x) sp ta E):=by
 obtain ⟨m,own,fI,fd,h1,h2,G,b⟩:=F
 exact ⟨xM h1 h2 G b hr m hg ha.h d_ he hpl⟩
end
structure SH (X:Cx) (hs:List ExceptHandler) (th:Addr->Addr->Option Addr->TS):Prop where
 h:PH X hs th
section
variable {c b f:Str} {cp pos bp p epos yp pos':Pos} {b0:Stmt} {CN:List Stmt} {rest:List ExceptHandler} {k:Nat} {ts:TS} {o value:Expr} {ta tv:TE} {h0:ExceptHandler}
theorem JJ:SH X [] JB:=⟨RL⟩
theorem zK (hm:X.mg c=some (.ref (adr X.mg c))) (N:ly X.K (adr X.mg c)) (hN:X.N.Nodup) (hj:X.N[j]? =some y) (hy:X.env.scope.names.lookup y=some .local) (hs:∀ e,SB (X.tq e) (b0::CN) ts) (hr:SH X rest th) (hg:Gl X c:=by rfl) (hd:(c==("__debug__":Str))=false:=by decide):SH X (.ExceptHandler (some (.Name c cp)) (some y) (b0::CN) pos::rest) (JC X.K (adr X.mg c) j ts th):=⟨RM hg hm N.nm hN hj hy (fun e=>(hs e).h) hr.h hd⟩
theorem R9 (F:Bm X.prog X.w X.K X.mg X.base k x ps sp) (hr:fh k X.A) (ha:SA X.qh (e::es) t) (hh:SH X (h0::rest) th) (ir:X.stack=X.env::X.outer:=by rfl) (jm:X.env.frame=some X.env.locals:=by rfl) (hg:Gl X x:=by rfl)
  (d_:(x==("__debug__":Str))=false:=by decide) (he:starEach (e::es) X.env=(false,eval e X.env)::starEach es X.env:=by rfl) (hpl:(backTo cpos (starEach es X.env)).any (·.1)=false:=by rfl)
  (uz:swapsWith (.Call (.Name x p) (e::es) [] cpos) none epos.line X.env=pure false:=by rfl):SS X (.Try [.Expr (.Call (.Name x p) (e::es) [] cpos) epos] (h0::rest) [] [] pos) (JD sp t th):=⟨RN F hr hg ha.h hh.h ir jm d_ he hpl uz⟩
theorem JK {pl:Sem Bool} (K:Frag) (c:Bp K X.mg b) (ha:SA X (e::es) t) (hK:X.K=K:=by rfl) (hg:Gl X b:=by rfl) (d_:(b==("__debug__":Str))=false:=by decide)
  (ir:starEach (e::es) X.env=(false,eval e X.env)::starEach es X.env:=by rfl) (hpl:(backTo pos (starEach es X.env)).any (·.1)=false:=by rfl)
  (ht:eval (.Call (.Attribute (.Name b bp) "__init__" apos) (e::es) [] pos) X.env=(do
   let ov <- eval (.Name b bp) X.env
   standAt apos.atName
   let (f,first) <- holding [ov] (getMethod ov "__init__" pl)
   callWith pos f first (backTo pos (starEach (e::es) X.env)) (backToKw pos (keywordEach [] X.env))):=by rfl):SE X (.Call (.Attribute (.Name b bp) "__init__" apos) (e::es) [] pos) (JH K t):=by
 subst hK
 exact ⟨RQ c.ni c.m hg ha.h d_ ir hpl ht⟩
theorem yM (K:Frag) (ha:SE X o ta) (hv:SE X value tv) (hK:X.K=K:=by rfl) (hs:swapsWith value (some (.Attribute o f pos')) pos.line X.env=pure false:=by rfl):SS X (.Assign [.Attribute o f pos'] value pos) (JI K ta tv f):=by subst hK;exact ⟨RS ha.h hv.h hs⟩
end
structure wu where
 x:Str
 q:Str
 st:Option Stmt
 fs:List Str
def JL (K:Frag) (C:Addr):List Addr:=match clsIn K C with
 | some cd=>cd.mro.tail.filterMap fun v=>match v with | .ref a=>some a | _=>none
 | none=>[]
def Ep (K:Frag) (C:Addr) (st:Option Stmt):Option Value:=match st with
 | none=>none
 | some _=>(findIn K (.ref C) "__init__").getD none
def JM (K:Frag) (c:wu) (C:Addr):Bool×Option An:=(p_ K C (JL K C) (Ep K C c.st)&&(findIn K (.ref C) "__getattribute__"==some (some (.builtin "BaseException.__getattribute__"))&&(findIn K (.ref C) "__getattr__"==some none&&(findIn K (.ref C) "__setattr__"==some (some (.builtin "object.__setattr__"))&&(findIn K (.ref C) "__class__"==some (some (.builtin "object.__class__"))&&(Ek K C c.fs&&
  (match c.st with
  | none=>specialIn K (.ref C) "__getattribute__"==some (some (.builtin "type.__getattribute__"))&&(readsIn K C (.type "type")&&(match findCls K (.ref C) (.type "type") "__init__" with | some (.val v)=>v==.builtin "ValueError.__init__" | _=>false))
  | some _=>(match findIn K (.ref C) "__init__" with | some (some v)=>isFn K v | _=>false))))))),match c.st with | none=>none | some _=>fnAt K c.q (findIn K (.ref C) "__init__"))
def Br (K:Frag):List wu->List (Option (Bool×Option An))
 | []=>[]
 | c::l=>(match nsIn K mainGlobals c.x with | some (some (.ref C))=>some (JM K c C) | _=>none)::Br K l
def Bs:List wu->List (Option (Bool×Option An))
 | []=>[]
 | c::l=>some (true,c.st.map fun st=>Ao "__init__" c.q st)::Bs l
def Er (K:Frag):List (Str×Str×Bool)->List (Option Bool)
 | []=>[]
 | c::l=>(match nsIn K mainGlobals c.1,nsIn K mainGlobals c.2.1 with | some (some (.ref C)),some (some (.ref B))=>subIn K (.ref C) (.ref B) | _,_=>none)::Er K l
def Es:List (Str×Str×Bool)->List (Option Bool)
 | []=>[]
 | c::l=>some c.2.2::Es l
section
variable {K:Frag}
theorem qE:∀ {l:List wu},Br K l=Bs l->∀ (i:Nat) {c:wu},l[i]? =some c->∃ C,nsIn K mainGlobals c.x=some (some (.ref C))/\JM K c C=(true,c.st.map fun st=>Ao "__init__" c.q st)
 | y::l,e,0,c,h=>by
  cases h
  have e1:=(List.cons.inj e).1
  split at e1
  ·rename_i C hC;exact ⟨C,hC,QD e1⟩
  ·cases e1
 | y::l,e,i+1,c,h=>qE (List.cons.inj e).2 i (by simpa using h)
theorem qV:∀ {l:List (Str×Str×Bool)},Er K l=Es l->∀ (i:Nat) {c:Str×Str×Bool},l[i]? =some c->∃ C B,nsIn K mainGlobals c.1=some (some (.ref C))/\nsIn K mainGlobals c.2.1=some (some (.ref B))/\subIn K (.ref C) (.ref B)=some c.2.2
 | y::l,e,0,c,h=>by
  cases h
  have e1:=(List.cons.inj e).1
  split at e1
  ·rename_i C B hC hB;exact ⟨C,B,hC,hB,e1⟩
  ·cases e1
 | y::l,e,i+1,c,h=>qV (List.cons.inj e).2 i (by simpa using h)
theorem dG (X:K.In h) (G:h.Ns mainGlobals mg) {l:List (Str×Str×Bool)} (e:Er K l=Es l) (i:Nat) {a b:Str} {v:Bool} (hi:l[i]? =some (a,b,v):=by rfl):subIn K (.ref (adr mg a)) (.ref (adr mg b))=some v:=by
 obtain ⟨C,B,h1,h2,h3⟩:=qV e i hi
 have m1:=mg_of X G h1
 have m2:=mg_of X G h2
 unfold adr;rw [m1,m2];exact h3
theorem z5 (X:K.In h) (G:h.Ns mainGlobals mg) {l:List wu} (e:Br K l=Bs l) (i:Nat) {q:Str} {fs:List Str} (hi:l[i]? =some ⟨x,q,none,fs⟩:=by rfl):Bp K mg x:=by
 obtain ⟨C,hn,hc⟩:=qE e i hi
 have hm:=mg_of X G hn
 have ea:adr mg x=C:=by unfold adr;rw [hm]
 have hc:=(Prod.mk.inj hc).1
 simp only [Bool.and_eq_true,beq_iff_eq] at hc
 obtain ⟨c1,c2,c3,c4,c0,c5,c6,c7,c8⟩:=hc
 refine ⟨by rw [ea];exact hm,?_,?_,?_⟩<;>rw [ea]
 ·exact ⟨c2,c3,c4,c0,_,_,c1⟩
 ·exact ⟨_,c1⟩
 ·refine ⟨c6,c7,?_⟩
  split at c8
  ·rename_i v hv;exact ⟨v,hv,beq_iff_eq.mp c8⟩
  ·cases c8
theorem R_ (X:K.In h) (G:h.Ns mainGlobals mg) {l:List wu} (e:Br K l=Bs l) (i:Nat) {q:Str} {st:Stmt} {fs:List Str} (hi:l[i]? =some ⟨x,q,some st,fs⟩)
  (hb:∀ (kV doc pm:Value) (an:Option Addr) (ak ct:Value) (us:List Value),us.length=ps.length->bindArgs (fnOf "__init__" q (mz st) (jf st) (au st) .none kV doc pm an ak ct) ⟨us,[]⟩=pure (ps.zip us)):Bq K mg x q st ps fs:=by
 obtain ⟨C,hn,hc⟩:=qE e i hi
 have hm:=mg_of X G hn
 have ea:adr mg x=C:=by unfold adr;rw [hm]
 obtain ⟨hc,hf⟩:=Prod.mk.inj hc
 simp only [Bool.and_eq_true,beq_iff_eq] at hc
 obtain ⟨c1,c2,c3,c4,c0,c5,c6⟩:=hc
 obtain ⟨f,fd,e1,F⟩:=vK (show fnAt K q (findIn K (.ref C) "__init__")=some (Ao "__init__" q st) from hf)
 rw [e1] at c6
 have ei:Ep K C (some st)=some (.ref f):=by unfold Ep;rw [e1];rfl
 have c1:p_ K C (JL K C) (Ep K C (some st))=true:=c1
 rw [ei] at c1
 refine ⟨by rw [ea];exact hm,?_,?_,?_⟩<;>rw [ea]
 ·exact ⟨c2,c3,c4,c0,_,_,c1⟩
 ·exact lF c5
 ·exact ⟨_,f,fd,c1,c6,F,F.binds hb⟩
theorem JN (X:K.In h) (G:h.Ns mainGlobals mg) {l:List wu} (e:Br K l=Bs l) (i:Nat) {q p0 p1:Str} {st:Stmt} {fs:List Str} (hi:l[i]? =some ⟨x,q,some st,fs⟩:=by rfl)
  (hb:∀ (kV doc pm:Value) (an:Option Addr) (ak ct a0 a1:Value),bindArgs (fnOf "__init__" q (mz st) (jf st) (au st) .none kV doc pm an ak ct) ⟨[a0,a1],[]⟩=pure [(p0,a0),(p1,a1)]:=by intros;rfl):Bq K mg x q st [p0,p1] fs:=
 R_ X G e i hi fun a b c d f g us hl=>by
  obtain ⟨a0,wq,rfl,o_⟩:=qy (n:=1) hl
  obtain ⟨a1,F6,rfl,hl1⟩:=qy (n:=0) o_
  obtain rfl:=QS hl1
  exact hb ..
end
section
variable {K:Frag} {e:Addr} {ox:Obj} {od:Option Obj}
theorem Sa {Q:Option Value->Shared->Prop} (X:K.In s.heap) (I:InstAt s.heap e ox C od) (x:ly K C) (h:Q (some (.ref C)) {s with toks:=s.toks+1}):wpAny (model P w) A (getAttr? (.ref e) "__class__") Q E s:=by
 obtain ⟨own,jp,hx⟩:=x.xc
 obtain ⟨cd,hc,_,_⟩:=kW hx
 have hf:findObj K C od "__class__"=some (.bind (.builtin "getset_descriptor.__get__") (.builtin "object.__class__")):=by
  have hn:specialIn K (.builtin "object.__class__") "__get__"=some (some (.builtin "getset_descriptor.__get__")):=by kernel_rfl
  have ht:takesIn K (.builtin "object.__class__")=some true:=by kernel_rfl
  unfold findObj
  rw [hc,Option.bind_some,x.ic,Option.bind_some]
  simp [hn,ht]
 have ht:Looks (model P w) s.heap (typeOf (.ref e)) (.ref C):=I.type
 unfold getAttr? getAttrBy? getAttrBy
 refine QT (wpAny_mkText (QT (wpAny_attempt (wpAny_holding (QT (ht _ _ _ _ (fun _ _ e=>e) (QT (looks_findIn X x.ga _ _ _ _ (fun _ _ e=>e) ?_))))))))
 dsimp only
 rw [show (onTheHeap (.ref C)&&Value.builtin "BaseException.__getattribute__"==Value.builtin "object.__getattribute__")=false from by rw [show (Value.builtin "BaseException.__getattribute__"==Value.builtin "object.__getattribute__")=false from by decide+kernel,Bool.and_false],if_neg (by decide)]
 have hb:Looks (model P w) s.heap (hookBefore (.ref C)) none:=by
  unfold hookBefore;rw [if_pos (by rfl)];exact looks_findIn X x.gk
 refine QT (hb _ _ _ _ (fun _ _ e=>e) (QT (wpAny_attempt (wpAny_holding ?_))))
 unfold callGetattribute
 rw [show (false&&onTheHeap (Value.builtin "BaseException.__getattribute__"))=false from rfl,if_neg (by decide)]
 unfold boundAndCalled
 rw [PySem.F.attr_ValueError.ga.bind]
 refine QT (QU ?_)
 show wpAny _ _ (call (.builtin "BaseException.__getattribute__") [.ref e,.str "__class__" s.toks]) _ _ _
 refine wpAny_call ?_
 refine codeAny_call_builtin PySem.F.attr_ValueError.ga.plain PySem.F.entry_bexc_ga ?_
 refine @check_slot (model P w) _ _ {s with toks:=s.toks+1} "BaseException.__getattribute__" "BaseException" "__getattribute__" (.ref e) [.str "__class__" s.toks] [] _ (by decide+kernel) (by decide+kernel) (ht.andThen (looks_subIn X (mH hx (by decide)))) (PySem.F.args_bexc_ga (.ref e) (.str "__class__" s.toks)) ?_
 have L1:=looks_find (M:=model P w) X I hf
 unfold Builtin.«object.__getattribute__»
 refine QT (QU (QT (QU (QT (ht _ _ _ _ (fun _ _ e=>e) (QT (L1 _ _ _ _ (fun _ _ e=>e) ?_)))))))
 show wpAny _ _ (holding [.builtin "object.__class__"] (call (.builtin "getset_descriptor.__get__") [.builtin "object.__class__",.ref e,.ref C]) >>=ret) _ _ _
 have hm:mroIn K C (.type "object")=some true:=mH hx (by decide)
 refine QT (wpAny_holding (wpAny_call (class_get (s:={s with toks:=s.toks+1}) X I hm (QU ?_))))
 show wpAny _ _ (handedOut (.ref C)) _ _ _
 rw [handedOut_of rfl]
 exact QU (QU h)
theorem zZ (x:ly K C):KitX K (.ref e) (.ref C) (fun h=>∃ ox od,InstAt h e ox C od):=by
 obtain ⟨own,jp,hx⟩:=x.xc
 obtain ⟨nm,q,N',bs,sn,sub,ab,col,dd,k0,k1,k2,k3,k5,lk,_⟩:=gA hx
 exact {
  ty:=fun _ _ _ ⟨_,_,I⟩=>I.type
  it:=fun _ _ X _=>by
   intro A' Q' E' s' k q
   unfold isType loadHead
   exact QT (wpAny_loadPart (k _ _ (X _ _ lk)) (QU q))
  ne:=fun h tp dd its n sl X Sb=>by
   refine Bool.eq_false_iff.mpr fun q=>?_
   have e:C=tp:=Value.ref.inj (beq_iff_eq.mp q)
   subst e
   have z:=congrArg Obj.data (QD ((X _ _ lk).symm.trans Sb))
   cases z
  ca:=fun X ⟨_,_,I⟩ k=>Sa X I x k}
end
def Et (H:Hp) (e C:Addr) (dct:Option Addr):Prop:=H e=some (cf C dct e)\/H e=some (jo C dct e)
def Bt (H:Hp) (e C:Addr):Prop:=∃ dct,Et H e C dct/\∀ dx,dct=some dx->∃ fs,H dx=some (.xd fs)
def Gg (K:Frag) (C:Addr):V->Bool->Prop
 | .ref B,b=>ly K B/\subIn K (.ref C) (.ref B)=some b
 | .ty T,b=>T="ValueError"/\b=true
 | _,_=>False
def Gh (K:Frag) (C:Addr):List V->Bool->Prop
 | [],b=>b=false
 | c::r,b=>∃ v,Gg K C c v/\if v=true then b=true else Gh K C r b
section
variable {K:Frag} {e:Addr}
theorem Et.cls (x:Et H e C dct) (ok:cj P w H h):∃ vs:Array Value,h.get? e=some {cls:=.ref C,dict:=dct,data:=.fields vs}:=by
 rcases x with x | x
 ·obtain ⟨t,q⟩:ph h e C dct:=(show be P w H h e (cf C dct e) from ok e _ x).1
  exact ⟨_,q⟩
 ·exact (show be P w H h e (jo C dct e) from ok e _ x).1
theorem Bt.inst (x:Bt H e C) (ok:cj P w H h):∃ ox od,InstAt h e ox C od:=by
 obtain ⟨dct,x,y⟩:=x
 obtain ⟨vs,q⟩:=x.cls ok
 cases dct with
 | none=>exact ⟨_,none,q,rfl,rfl,trivial⟩
 | some dx=>
  obtain ⟨fs,z⟩:=y dx rfl
  obtain ⟨mA,Be,_⟩:be P w H h dx (.xd fs):=ok dx _ z
  obtain ⟨od,Gi,_⟩:=kY Be
  exact ⟨_,some od,q,rfl,rfl,Gi⟩
theorem vZ {c:V} {b:Bool} (x:ly K C) (h:Gg K C c b) (r:RelV c u):kitOne K (.ref C) u=some b:=by
 cases c with
 | ref B=>
  obtain ⟨xb,hs⟩:=h
  obtain rfl:u=.ref B:=r
  unfold kitOne
  by_cases z:(Value.ref C==Value.ref B)=true
  ·rw [if_pos z]
   have e:C=B:=Value.ref.inj (beq_iff_eq.mp z)
   subst e
   obtain ⟨own,jp,hx⟩:=x.xc
   obtain ⟨cd,h1,h2,_⟩:=kW hx
   have:subIn K (.ref C) (.ref C)=some true:=by
    show mroIn K C _=_
    unfold mroIn
    rw [h1,Option.bind_some,h2,if_neg (by simp [pq])]
    simp [pq]
   rw [<- this,hs]
  ·rw [if_neg z]
   unfold kitCls
   dsimp only
   have N:=xb.nm
   obtain ⟨cd,hc⟩:=N.cl
   rw [if_pos (by rw [hc,N.ty];rfl),hs]
 | ty T=>
  obtain ⟨rfl,rfl⟩:=h
  obtain rfl:u=.type "ValueError":=r
  obtain ⟨own,jp,hx⟩:=x.xc
  unfold kitOne
  rw [if_neg (by simp)]
  have z:kitMeta "ValueError"=true:=by decide+kernel
  show (if kitMeta "ValueError"=true then subIn K (.ref C) (.type "ValueError") else none)=_
  rw [if_pos z]
  exact mH hx (by decide)
 | _=>exact h.elim
theorem nX {b:Bool} (x:ly K C):∀ {cs:List V} {us:List Value},Gh K C cs b->ao cs us->kitAny K (.ref C) us=some b
 | [],_,h,.nil=>by cases h;rfl
 | c::r,_,⟨v,hv,h⟩,.cons r1 r2=>by
  unfold kitAny
  rw [vZ x hv r1]
  cases v with
  | true=>rw [if_pos rfl] at h;rw [h]
  | false=>rw [if_neg (by decide)] at h;exact nX x h r2
end
def Sd (K:Frag):List V->Hp->VK->Prop:=fun xs H Q=>∃ e c C,xs=[.ref e,c]/\Bt H e C/\ly K C/\((∃ b,Gg K C c b/\Q (.bl b) H)\/∃ a ys b,c=.ref a/\H a=some (.tup ys)/\Gh K C ys b/\Q (.bl b) H)
theorem cQ (K:Frag) (hK:X.K=K:=by rfl):jd X (.builtin "isinstance") (Sd K):=by
 subst hK
 intro pins s σ H xs us Q I r h
 obtain ⟨e,c,C,rfl,eh,xa,h⟩:=h
 obtain ⟨u,v,rfl,ru,rv⟩:=r.two
 obtain rfl:u=.ref e:=ru
 have Z:=zZ (e:=e) xa
 have J:=eh.inst I.hok
 rcases h with ⟨b,hc,q⟩ | ⟨a,ys,b,rfl,ha,hc,q⟩
 ·exact kia_one Z I.bx J (vZ xa hc rv) (fun z=>nomatch z) fun tk=>⟨.bl b,H,I.tok tk,rfl,q⟩
 ·obtain rfl:v=.ref a:=rv
  obtain ⟨_,its,ry,⟨oc,od,Eh,g_⟩,ho,nj,n,hd⟩:=(show be X.prog X.w H s.heap a (.tup ys) from I.hok a _ ha)
  dsimp only at nj hd
  subst nj;subst hd
  exact kia_tup Z I.bx J ho (nX xa hc ry) (fun z=>nomatch z) fun tk=>⟨.bl b,H,I.tok tk,rfl,q⟩
def Se (K:Frag) (ta:TE) (f:Str):TE:=fun σ H Q=>ta σ H fun x H1=>∃ e C dx fs v,x=.ref e/\Et H1 e C (some dx)/\H1 dx=some (.xd fs)/\ly K C/\findIn K (.ref C) f=some none/\fs.lookup f=some v/\Q v H1
theorem uZ {ta:TE} {f:Str} {pos:Pos} (K:Frag) (he:SE X e ta) (hK:X.K=K:=by rfl) (hb:attributeBase e f X.env (eval e X.env)=eval e X.env:=by rfl):SE X (.Attribute e f pos) (Se K ta f):=by
 subst hK
 constructor
 intro pins s σ H Q I h
 refine MZ hb (aj (he.h pins s σ H _ I h) ?_)
 rintro u s1 ⟨x,H1,I1,rx,a,C,dx,fs,v,ex,ea,ed,xa,n,l,q⟩
 subst ex
 obtain rfl:u=Value.ref a:=rx
 obtain ⟨vs,ho⟩:=ea.cls I1.hok
 obtain ⟨mA,Be,hr⟩:be X.prog X.w H1 s1.heap dx (.xd fs):=I1.hok dx _ ed
 obtain ⟨od,Gi,hl⟩:=kY Be
 obtain ⟨u,hu,ru⟩:=jy.some_of (v:=v) (o:=mA f) (by rw [<- l];exact hr f)
 obtain ⟨own,jp,hx⟩:=xa.xc
 obtain ⟨cd,c1,c2,c3⟩:=kW hx
 refine RP (od:=some od) I1.bx ⟨ho,rfl,rfl,Gi⟩ xa.ga xa.gk (mH hx (by decide)) (findObj_own (by unfold hasDictIn;rw [c1];exact c3) n rfl (by rw [hl,hu])) (xH ru) ⟨v,H1,I1.tok _,ru,q⟩
def Sf (C:Addr) (ta:TA):TE:=fun σ H Q=>ta σ H fun vs H1=>vs.length<=1000/\∀ e,H1 e=none->Q (.ref e) (upd H1 e (cf C none e))
def Sg (C:Addr) (sp:Sp) (ta:TA):TE:=fun σ H Q=>ta σ H fun vs H1=>vs.length<=1000/\∀ e,H1 e=none->sp (.ref e::vs) (upd H1 e (cf C none e)) (fun v H2=>v=.af/\Q (.ref e) H2) E0
theorem Si {K:Frag} {np:Pos} {e1:Expr} (c:Bp K mg x) (ha:SA X (e1::es) ta) (hK:X.K=K:=by rfl) (sy:X.mg=mg:=by rfl) (hg:Gl X x:=by rfl)
  (d_:(x==("__debug__":Str))=false:=by decide) (he:starEach (e1::es) X.env=(false,eval e1 X.env)::starEach es X.env:=by rfl)
  (hpl:(backTo cpos (starEach es X.env)).any (·.1)=false:=by rfl):SE X (.Call (.Name x np) (e1::es) [] cpos) (Sf (adr mg x) ta):=by
 subst hK sy
 obtain ⟨own,hx⟩:=c.xc
 constructor
 intro pins s σ H Q I h
 obtain ⟨nm,q,N',bs,sn,sub,ab,col,dd,k0,k1,k2,k3,k5,lk,hn,hu,hk⟩:=gA hx
 refine wpAny_Call_Name_kw (fD I hg c.m ?_ d_)
 refine callWith_K (h₀:=X.base) I.ok.mod.xu hk (aj (ha.h cpos pins s σ H _ I h) fun us s1 ⟨vs,H1,I1,r,hl,qe⟩=>⟨I1.bx,?_⟩) he hpl
 obtain ⟨n1,n2⟩:=j5 I1.bx hn
 have T:=jB I1.bx hu
 have hC:=I1.bx _ _ lk
 have F:=PySem.F.excBase_ValueError
 obtain ⟨hp,g,d,tk,os⟩:=s1
 refine wpAny_call_exc_subU F F.hasB F T hC n1 n2 (fun h' e m=>?_) (by show us.length<=_;rw [<- r.length,QL];omega)
 obtain ⟨gq,I2⟩:=I1.El m
 exact ⟨.ref e,_,I2,rfl,qe e gq⟩
theorem JO {K:Frag} {np:Pos} {e1:Expr} {k:Nat} (F:CQ X.prog X.w K mg X.base k x ps sp) (hr:fh (k+1) X.A) (ha:SA X (e1::es) ta) (hK:X.K=K:=by rfl) (sy:X.mg=mg:=by rfl) (hg:Gl X x:=by rfl)
  (d_:(x==("__debug__":Str))=false:=by decide) (he:starEach (e1::es) X.env=(false,eval e1 X.env)::starEach es X.env:=by rfl)
  (hpl:(backTo cpos (starEach es X.env)).any (·.1)=false:=by rfl):SE X (.Call (.Name x np) (e1::es) [] cpos) (Sg (adr mg x) sp ta):=by
 subst hK sy
 obtain ⟨hm,own,fI,fd,hx,hf,F,hb⟩:=F
 constructor
 intro pins s σ H Q I h
 obtain ⟨nm,q,N',bs,sn,sub,ab,col,dd,k0,k1,k2,k3,k5,lk,hn,hu,hk⟩:=gA hx
 refine wpAny_Call_Name_kw (fD I hg hm ?_ d_)
 refine callWith_K (h₀:=X.base) I.ok.mod.xu hk (aj (ha.h cpos pins s σ H _ I h) fun us s1 ⟨vs,H1,I1,r,hl,qe⟩=>⟨I1.bx,?_⟩) he hpl
 obtain ⟨n1,n2⟩:=j5 I1.bx hn
 have T:=jB I1.bx hu
 have hC:=I1.bx _ _ lk
 have FV:=PySem.F.excBase_ValueError
 obtain ⟨oI,Ge,Gf⟩:∃ o,X.K.lookup fI=some o/\o.cls=.type "function":=by
  have e:=beq_iff_eq.mp hf
  exact Option.map_eq_some_iff.mp (show (X.K.lookup fI).map (·.cls)=some (.type "function") from e)
 obtain ⟨hp,g,d,tk,os⟩:=s1
 refine wD FV FV.hasB FV T hC n1 n2 (I1.bx _ _ Ge) Gf (by show us.length<=_;rw [<- r.length,QL];omega) fun h' e m=>?_
 obtain ⟨gq,I2⟩:=I1.El m
 have q:=qe e gq
 have r2:ao (V.ref e::vs) (Value.ref e::us):=.cons rfl r
 have gj:(Value.ref e::us).length=ps.length:=by rw [<- r2.length];exact F.len _ _ _ _ q
 refine wpAny_call (codeAny_mono (F.run _ _ _ _ ⟨Value.ref e::us,[]⟩ (Value.ref e::us) _ _ E0 (hr.make _ us []) (I2.Dw.make _ us []) (by have:=hb _ (Value.ref e::us) I2.bx (by simpa using gj);simpa using this) r2 q) fun r s' hq=>?_)
 cases r with
 | error e=>exact hq.elim
 | ok fl=>
  cases fl with
  | ret u=>
   obtain ⟨v,H',I3,rv,ev,q3⟩:=I2.after hq
   subst ev
   exact ⟨rv,.ref e,H',I3,rfl,q3⟩
  | next=>exact hq.elim
  | brk=>exact hq.elim
  | cont=>exact hq.elim
def Sj (i:Nat) (c:Str) (sp:Sp) (ta:TA) (th:Addr->Addr->Option Addr->TS):TS:=fun D σ H=>ta σ H fun vs H1=>sp vs H1 (fun v H2=>∀ p,H2 p=none->D.nx (σ.set i (some (.ref p))) (upd H2 p (.tup [.str c,v]))) (Ej th D σ)
theorem Sk {c:Str} {p cp tp epos yp pos:Pos} {k:Nat} {x1} {h0:ExceptHandler} {rest:List ExceptHandler}
  (F:Bm X.prog X.w X.K X.mg X.base k x ps sp) (hr:fh k X.A) (ha:SA X.qh (e::es) t) (hh:SH X (h0::rest) th) (hN:X.N.Nodup) (hi:X.N[i]? =some y) (hy:X.env.scope.names.lookup y=some .local) (ir:X.stack=X.env::X.outer:=by rfl) (jm:X.env.frame=some X.env.locals:=by rfl) (hg:Gl X x:=by rfl)
  (d_:(x==("__debug__":Str))=false:=by decide) (he:starEach (e::es) X.env=(false,eval e X.env)::starEach es X.env:=by rfl) (hpl:(backTo cpos (starEach es X.env)).any (·.1)=false:=by rfl)
  (hes:starEach [.Constant (.str c) j cp,.Call (.Name x p) (e::es) [] cpos] X.env=[(false,eval (.Constant (.str c) j cp) X.env),(false,eval (.Call (.Name x p) (e::es) [] cpos) X.env)]:=by rfl)
  (uz:swapsWith (.Tuple [.Constant (.str c) j cp,.Call (.Name x p) (e::es) [] cpos] x1 tp) (some (.Name y yp)) epos.line X.env=pure false:=by rfl):SS X (.Try [.Assign [.Name y yp] (.Tuple [.Constant (.str c) j cp,.Call (.Name x p) (e::es) [] cpos] x1 tp) epos] (h0::rest) [] [] pos) (Sj i c sp t th):=by
 constructor
 intro pins s σ H D I h
 refine wpAny_Try_except (wpAny_execs_cons (wpAny_Assign_Name (wpAny_Tuple_spliced ?_) uz))
 rw [hes]
 show wpAny _ _ (spliced [(false,eval (.Constant (.str c) j cp) X.env),(false,eval (.Call (.Name x p) (e::es) [] cpos) X.env)]) _ _ s
 refine Calls.spliced_cons (Calls.Constant_str ?_)
 refine Calls.spliced_cons (rF (Q:=fun v H2=>∀ p,H2 p=none->D.nx (σ.set i (some (.ref p))) (upd H2 p (.tup [.str c,v]))) F hr hg ha.h hh.h ir jm (I.tok _) h (fun v u H2 s2 I2 rv q=>?_) d_ he hpl)
 refine Calls.spliced_nil ⟨by show (2:Nat)<=_;rw [QL];omega,?_⟩
 have hf:H2 s2.heap.objs.size=none:=I2.hok.fresh (Qy _)
 have z2:[V.str c,v].length<=sizeLine:=by rw [QL];show 2<=_;omega
 have I3:=I2.laid (o:=.tup [.str c,v]) (t':=s2.toks) (h':=s2.heap.push {cls:=.type "tuple",data:=.seq #[Value.str c s.toks,u]}) (fun b u e=>Qc _ e) (Qy _) ⟨⟨z2,zk.new rfl rfl⟩,_,.cons ⟨_,rfl⟩ (.cons rv .nil),⟨_,Qd _ rfl,rfl,_,rfl⟩⟩
 exact j9 (v:=.ref s2.heap.objs.size) I3 hN hi (.inl hy) rfl (fun s3 I3 _=>wpAny_execs_nil (wpAny_execs_nil ⟨_,_,I3,q _ hf⟩)) (.inr hy)
end L2
namespace L2
open PySem PySem.Spec PyProof.Rows
end L2
namespace L2
open PySem PySem.Spec PyProof.Rows HT
end L2
namespace L2
open PySem PySem.Spec PyProof.Rows
open AutoSeq1 (wpAny_loadPart')
def Dt.Sl (z:Str):Dt->Bool
 | .tup [.str y]=>y==z
 | _=>false
def Gj (h:Dt):Dt:=if h.Sl "hole" then .tup [.str "all"] else h
def Eu:Dt->Dt | .tup [a,h]=>.tup [a,Gj h] | d=>d
theorem DD.Gk {x y:V} {dx dy:Dt} (e:H b=some (.tup [x,y])) (h1:DD H x dx) (h2:DD H y dy):DD H (.ref b) (.tup [dx,dy]):=.tup e rfl (by simp) fun i a b=>by
 match i,a with
 | 0,_=>exact h1
 | 1,_=>exact h2
theorem DD.Gm {x:V} {dx:Dt} (e:H b=some (.tup [x])) (h1:DD H x dx):DD H (.ref b) (.tup [dx]):=.tup e rfl (by simp) fun i a b=>by
 match i,a with
 | 0,_=>exact h1
def JP (H3 H4:Hp) (ws:List V) (ds:List Dt):Prop:=∀ j (h:j < ws.length) (h':j < ds.length),∃ c x1 hv dx dy,ws[j]=.ref c/\H4 c=some (.tup [x1,hv])/\ds[j]=.tup [dx,dy]/\DD H3 x1 dx/\(DD H3 hv (Gj dy)\/∃ b,hv=.ref b/\H4 b=some (.tup [.str "all"])/\Gj dy=.tup [.str "all"])
theorem JP.dd {H3 H4:Hp} {ws:List V} {ds:List Dt} (f:JP H3 H4 ws ds) (s:aa H3 H4) (j:Nat) (h:j < ws.length) (h':j < ds.length):DD H4 ws[j] (Eu ds[j]):=by
 obtain ⟨c,x1,hv,dx,dy,q1,q2,q3,q4,q5⟩:=f j h h'
 rw [q1,q3]
 refine DD.Gk q2 (q4.same s) ?_
 rcases q5 with q5 | ⟨b,rfl,q6,q7⟩
 ·exact q5.same s
 ·rw [q7];exact DD.Gm q6 (.str (by decide))
def JQ (H H':Hp) (v:V) (d:Dt):Prop:=DD H v (Eu d)\/∃ c x1 b dx,v=.ref c/\H' c=some (.tup [x1,.ref b])/\H' b=some (.tup [.str "all"])/\DD H x1 dx/\Eu d=.tup [dx,.tup [.str "all"]]
theorem JQ.dd {v:V} (h:JQ H H' v d) (s:aa H H'):DD H' v (Eu d):=by
 rcases h with h | ⟨c,x1,b,dx,rfl,h2,h3,h4,h5⟩
 ·exact h.same s
 ·rw [h5];exact DD.Gk h2 (h4.same s) (DD.Gm h3 (.str (by decide)))
theorem Hd.pure {h:Hd} (ok:h.ok ns):headD h.dt=true/\(∀ n∈dm h.dt,n∈ns)/\vg h.dt=h.nx:=by
 cases h with
 | one s=>rcases ok with rfl | rfl<;>exact ⟨by decide,(fun n hn=>by revert hn;exact fun h=>nomatch h),rfl⟩
 | as y=>
  refine ⟨?_,fun n hn=>?_,rfl⟩
  ·show headD (.tup [.str "as",.str y])=true
   rw [cN]
   show (decide (1=1)&&([Dt.str y].all bw))=true
   simp [bw,ok.1]
  ·have hn':n∈dm (.tup [.str "as",.str y]):=hn
   have:n=y:=by simpa [dm,l4,strOf] using hn'
   rw [this];exact ok.2
 | way x y=>
  refine ⟨?_,fun n hn=>?_,rfl⟩
  ·show headD (.tup [.str "way",.str x,.str y])=true
   rw [cN]
   show (decide (2=2)&&([Dt.str x,Dt.str y].all bw))=true
   simp [bw,ok.1,ok.2.1]
  ·have e1:dm (.tup [.str "way",.str x,.str y])=[x,y]:=rfl
   have hn':n∈dm (.tup [.str "way",.str x,.str y]):=hn
   rw [e1] at hn'
   simp only [Qp,QA,or_false] at hn'
   rcases hn' with rfl | rfl
   ·exact ok.2.2.1
   ·exact ok.2.2.2
 | prs s ps=>
  obtain ⟨hs,nm,CD,_⟩:=ok
  have hw:dj s=true:=by rcases hs with rfl | rfl<;>decide
  have ef:(ps.map fun p:Str×Str=>Dt.tup [.str p.1,.str p.2]).map nv=ps.map (·.1):=by rw [Qn];rfl
  have es:(ps.map fun p:Str×Str=>Dt.tup [.str p.1,.str p.2]).map qt=ps.map (·.2):=by rw [Qn];rfl
  refine ⟨?_,fun n hn=>?_,rfl⟩
  ·show headD (.tup [.str s,.tup (ps.map fun p=>.tup [.str p.1,.str p.2])])=true
   rw [cN,if_pos hw]
   show qu (.tup (ps.map fun p=>.tup [.str p.1,.str p.2]))=true
   simp only [qu,Bool.and_eq_true]
   refine ⟨?_,by rw [ef];exact CD⟩
   rw [List.all_map,QF]
   intro p hp
   obtain ⟨m1,m2,_⟩:=nm p hp
   show pairD (.tup [.str p.1,.str p.2])=true
   simp [pairD,bw,m1,m2]
  ·have e1:dm (.tup [.str s,.tup (ps.map fun p=>.tup [.str p.1,.str p.2])])=if dj s then (ps.map fun p:Str×Str=>Dt.tup [.str p.1,.str p.2]).map qt else _:=rfl
   have hn':n∈dm (.tup [.str s,.tup (ps.map fun p=>.tup [.str p.1,.str p.2])]):=hn
   rw [e1,if_pos hw,es] at hn'
   obtain ⟨p,hp,rfl⟩:=List.mem_map.mp hn'
   exact (nm p hp).2.2
def Hd.qp:Hd->Bool | .one s=>s=="hole" | _=>false
def Hd.Sn:Hd->Bool | .way _ _=>true | _=>false
def Hd.Ew (h:Hd):Hd:=if h.qp then .one "all" else h
def JR (r:ff):ff:=(r.1,r.2.Ew)
structure TH (H:Hp) (a:Addr) (xs:List V) (rows:List ff) (ns ws:List Str):Prop where
 at_:H a=some (.tup xs)
 rv:RV H xs rows
 nm:(rows.map (·.1)).Perm ns
 nd:ns.Nodup
 ok:FZ ns (rows.map JR)
 wd:∀ n∈ns,Wd n
 ah:∀ r∈rows,Bc ns r.1 r.2.nx
 ww:∀ r∈rows,∀ z∈r.2.ym,z∈ws
 pos:1<=ns.length
 few:ns.length<=10
 nw:∀ r∈rows,r.2.Sn=false
 hl:rows.countP (fun r=>r.2.qp)<=6
section
variable {xs:List V} {rows:List ff}
theorem TH.rl (h:TH H a xs rows ns ws):rows.length=ns.length:=by have:=h.nm.length_eq;simpa using this
theorem HV.lg {v:V} {h:Hd} (q:HV H v h) (ok:h.Ew.ok ns):DD H v h.dt:=by
 cases e:h.qp with
 | false=>
  have:h.Ew=h:=by unfold Hd.Ew;rw [e];rfl
  rw [this] at ok
  exact (q.tx ok).dd
 | true=>
  cases q with
  | @one b s e1=>
   have:s="hole":=eq_of_beq e
   subst this
   exact DD.Gm e1 (.str (by decide))
  | _=>cases e
theorem TH.dd (h:TH H a xs rows ns ws):DD H (.ref a) (.tup (rows.map Je)):=by
 have Aq:=h.rl
 have few:=h.few
 have hl:=h.rv.len
 refine .tup h.at_ (by simp [hl]) (by omega) fun i h1 h2=>?_
 have h3:i < rows.length:=by simpa using h2
 obtain ⟨b,v,q1,q2,q3⟩:=h.rv.at_ i h1 h3
 obtain ⟨m1,m2⟩:=h.ok (JR rows[i]) (List.mem_map.mpr ⟨_,Qj h3,rfl⟩)
 have So:isName rows[i].1=true:=m1
 rw [q1]
 simp only [Qr]
 exact DD.Gk q2 (.str (by have:=eJ So;omega)) (q3.lg m2)
end
end L2
namespace L2
open PySem PySem.Spec PyProof.Rows
theorem xF (xs:Array Value):slicePick xs none none (some (-1))=xs.toList.reverse.toArray:=by
 unfold slicePick
 congr 1
 rw [<- zV xs]
 show (sliceRange ((xs.size:Int) - 1) (-1) (-1)).filterMap (xs[·]?)=_
 unfold sliceRange
 simp only [show ¬((-1:Int) > 0) by decide,if_false]
 rw [List.filterMap_map]
 have e:(if (xs.size:Int) - 1 > -1 then (((xs.size:Int) - 1) - (-1) - (-1) - 1) / (- -1) else 0).toNat=xs.size:=by
  have h1:(- -1:Int)=1:=rfl
  rw [h1,Int.ediv_one]
  split<;>omega
 rw [e]
 refine iJ fun k hk=>?_
 show xs[((xs.size:Int) - 1+ -1*(k:Int)).toNat]? =_
 have h2:((xs.size:Int) - 1+ -1*(k:Int))=((xs.size:Int) - 1+(k:Int)* -1):=by omega
 rw [h2]
section
variable {st:Expr} {ts:TE} {p2 pos:Pos}
def Sq (K:Q0) (te ts:TE):TE:=fun σ H Q=>te σ H fun x H1=>ts σ H1 fun y H2=>y=.int (-1)/\∃ a xs,x=.ref a/\ae K H2 a xs/\∀ p,H2 p=none->Q (.ref p) (upd H2 p (.lst xs.reverse))
theorem Ss (K:Q0) (he:SE X e te) (hs:SE X st ts) (hK:X.K=K:=by rfl):SE X (.Subscript e (.Slice none none (some st) p2) pos) (Sq K te ts):=by
 subst hK
 constructor
 intro pins s σ H Q I h
 refine Subscript_ (aj (he.h pins s σ H _ I h) ?_)
 rintro v s1 ⟨x,H1,I1,r1,q1⟩
 refine wpAny_Slice ?_
 rw [evalPart_none]
 refine QU ?_
 refine QU ?_
 rw [evalPart_some]
 refine aj (hs.h pins s1 σ H1 _ I1 q1) ?_
 rintro u s3 ⟨y,H3,I3,ry,ey,a,xs,ex,hq,q⟩
 subst ey ex
 obtain ⟨tk,rfl⟩:=(show ∃ t,u=Value.int (-1) t from ry)
 cases r1
 have I4:Inv X pins σ H3 {s3 with heap:=s3.heap.push {cls:=.type "slice",data:=.fields #[.none,.none,.int (-1) tk]}}:=I3.kept (t':=s3.toks) fun b ob q=>Qc _ q
 obtain ⟨its,r,pl,hz⟩:=I4.list hq
 have hl:=pl.isList
 show wpAny (model X.prog X.w) X.A (subscriptTail e (.Slice none none (some st) p2) (.ref a) (.ref s3.heap.objs.size)) (EP X pins σ Q) X.xe {s3 with heap:=s3.heap.push {cls:=.type "slice",data:=.fields #[.none,.none,.int (-1) tk]}}
 refine tail_any (ops:=[.ref a,.ref s3.heap.objs.size]) hl.typeIs list_getitem_lookup (wpAny_getItem_list_slice (lo:=none) (hi:=none) (st:=some (-1)) hl (Heap.IsSliceOf.new ..) .none .none (.int _ _) (by simp) ?_ (by have:=r.length;simp;omega)) (by with_unfolding_all rfl)
 rw [xF]
 refine ⟨.ref _,_,I4.laid (t':=s3.toks) (o:=.lst xs.reverse) (fun b ob q=>Qc _ q) (Qy _) ?_,rfl,q _ (I4.hok.fresh (Qy _))⟩
 exact ⟨by simpa using hz,its.reverse,0,ao.rev r,Qd _ rfl⟩
end
end L2
namespace L2
open PySem PySem.Spec PySem.W PyProof.Rows
theorem f8:bootBuiltins "ValueError"=some (.type "ValueError"):=by decide+kernel
theorem zR {k:Nat} (hr:fh k A):A.units+100 < cLine:=by have:=hr.un;omega
def Su:R2:=fun x y H Q=>∃ a b xs ys,x=.ref a/\y=.ref b/\H a=some (.lst xs)/\H b=some (.lst ys)/\xs.length=ys.length/\(∀ v∈xs,kc v=true)/\(∀ v∈ys,kc v=true)/\Q (.bl (!(List.range xs.length).all fun j=>je (xs.getD j .af) (ys.getD j .af))) H
theorem Sv (hu:X.A.units < cLine):br X (compareOp .NotEq) Su:=by
 intro pins s σ H x y v u Q I rx ry h
 obtain ⟨a,b,xs,ys,rfl,rfl,ha,hb,hl,fx,fy,q⟩:=h
 cases rx
 cases ry
 obtain ⟨_,i1,n1,r1,e1⟩:=(show be X.prog X.w H s.heap a (.lst xs) from I.hok a _ ha)
 obtain ⟨_,i2,n2,r2,e2⟩:=(show be X.prog X.w H s.heap b (.lst ys) from I.hok b _ hb)
 have l1:=r1.length
 have l2:=r2.length
 refine SeqAt.RcNeAt.lists (A:=X.A) (e:=fun j=>je (xs.getD j .af) (ys.getD j .af)) ⟨_,e1,rfl,_,rfl⟩ ⟨_,e2,rfl,_,rfl⟩ (by simp;omega) hu (fun j h1 h2=>?_) _ _ _ _ ?_
 ·have h1:j < i1.length:=by simpa using h1
  have h2:j < i2.length:=by simpa using h2
  have g1:=Qa (show j < xs.length by omega)
  have g2:=Qa (show j < ys.length by omega)
  obtain ⟨w1,f1,q1⟩:=r1.get g1
  obtain ⟨w2,f2,q2⟩:=r2.get g2
  rw [Qa h1] at f1
  rw [Qa h2] at f2
  cases f1
  cases f2
  show SeqAt.EqAt X.A.in1 s i1[j] i2[j] _
  rw [Qb,Qb,g1,g2]
  exact uN q1 q2 (fx _ (Qj _)) (fy _ (Qj _))
 ·have:i1.toArray.size=xs.length:=by simp;omega
  rw [this]
  exact ⟨.bl _,H,I,rfl,q⟩
def Sw:V->List V->Hp->VK->Prop:=fun x vs H Q=>∃ (p:Addr) (y:V) (xs:List V),x=.ref p/\vs=[y]/\H p=some (.lst xs)/\kc y=true/\(∀ v∈xs,kc v=true)/\Q (.int (xs.countP (je · y):Nat)) H
theorem xV:uv X "list.count" Sw:=by
 intro pins s σ H x vs v us Q I rx rv h
 obtain ⟨p,y,xs,rfl,rfl,hp,fy,fx,qq⟩:=h
 obtain ⟨u,rfl,ru⟩:=rv.one
 cases rx
 obtain ⟨_,its,n,rv,ho⟩:=(show be X.prog X.w H s.heap p (.lst xs) from I.hok p _ hp)
 have hl:=rv.length
 let ev:Value->Bool:=fun z=>@decide (∃ x,RelV x z/\je x y=true) (Classical.propDecidable _)
 have qz:∀ {x:V} {z:Value},RelV x z->ev z=je x y:=fun {x z} r=>by
  cases e:je x y with
  | true=>exact @decide_eq_true _ (Classical.propDecidable _) ⟨x,r,e⟩
  | false=>
   refine @decide_eq_false _ (Classical.propDecidable _) ?_
   rintro ⟨x',r',e'⟩
   rw [r'.inj r,e] at e'
   cases e'
 have key:∀ i (h:i < its.length) (h':i < xs.length),RelV xs[i] its[i]:=fun i h h'=>by
  obtain ⟨w1,f1,q1⟩:=rv.get (Qa h')
  rw [Qa h] at f1
  cases f1
  exact q1
 refine call_meets PySem.F.slot_list_count ⟨_,ho,rfl⟩ PySem.F.entry_list_count (PySem.F.args_list_count_2 _ _) (SeqAt.list_countAt p its.toArray n none #[] u ev) ⟨ho,fun z hz=>?_,?_⟩
 ·have ia:z∈its:=by simpa using hz
  obtain ⟨i,hi,rfl⟩:=Qi ia
  have k:=key i hi (by omega)
  rw [qz k]
  exact uN k ru (fx _ (Qj _)) fy
 ·have ec:(its.toArray.toList.countP ev)=xs.countP (je · y):=by
   refine lC _ _ _ _ (by simp;omega) fun i h1 h2=>?_
   have e3:its.toArray.toList[i]=its[i]'(by simpa using h1):=by simp
   rw [e3,qz (key i (by simpa using h1) h2)]
  rw [ec]
  exact ⟨.int (xs.countP (je · y):Nat),H,I.tok _,⟨_,rfl⟩,qq⟩
def gi {α:Type}:List α->List α
 | []=>[]
 | [_]=>[]
 | _::b::r=>b::gi r
theorem kZ {α:Type}:∀ l:List α,(gi l).length=l.length / 2
 | []=>by simp [gi]
 | [_]=>by simp [gi]
 | _::b::r=>by rw [gi,List.length_cons,kZ r,List.length_cons,List.length_cons];omega
theorem kX {α:Type}:∀ (l:List α) (k:Nat),(gi l)[k]? =if 2*k+1 < l.length then l[2*k+1]? else none
 | [],k=>by simp [gi]
 | [_],k=>by simp [gi]
 | _::b::r,0=>by simp [gi]
 | a::b::r,k+1=>by
  rw [gi,List.getElem?_cons_succ,kX r k]
  have e:2*(k+1)+1=2*k+1+1+1:=by omega
  rw [e]
  simp
theorem Sy (l:List Value) (n:Nat) (hn:n=l.length / 2):(List.range n).filterMap (fun k=>l[2*k+1]?)=gi l:=by
 have e:(List.range n).filterMap (fun k=>l[2*k+1]?)=(List.range n).filterMap (fun k=>some (l.getD (2*k+1) .none)):=by
  refine iJ fun k hk=>?_
  have hk:=List.mem_range.mp hk
  have h:2*k+1 < l.length:=by omega
  rw [Qa h,Qb,Qa h];rfl
 rw [e]
 apply List.ext_getElem?
 intro k
 rw [show (fun k=>some (l.getD (2*k+1) Value.none))=some∘(fun k=>l.getD (2*k+1) .none) from rfl,List.filterMap_eq_map,kX]
 by_cases h:k < n
 ·have h2:2*k+1 < l.length:=by omega
  rw [if_pos h2,Qq,List.getElem?_range h,Qa h2]
  show some (l.getD (2*k+1) .none)=_
  rw [Qb,Qa h2];rfl
 ·rw [if_neg (by omega)]
  exact List.getElem?_eq_none (by simp;omega)
theorem x9 (xs:Array Value):slicePick xs (some 1) none (some 2)=(gi xs.toList).toArray:=by
 unfold slicePick
 congr 1
 have hb:sliceBounds (some 1) none (some 2) xs.size=(min 1 (xs.size:Int),(xs.size:Int),2):=by
  show (max (0:Int) (min 1 (xs.size:Int)),(xs.size:Int),(2:Int))=_
  rw [show max (0:Int) (min 1 (xs.size:Int))=min 1 (xs.size:Int) by omega]
 rw [hb,<- Sy xs.toList _ rfl]
 unfold sliceRange
 simp only [show (2:Int) > 0 by decide,if_true]
 have e:(if min 1 (xs.size:Int) < (xs.size:Int) then ((xs.size:Int) - min 1 (xs.size:Int)+2 - 1) / 2 else 0).toNat=xs.toList.length / 2:=by
  rw [Array.length_toList]
  split<;>omega
 rw [e,List.filterMap_map]
 refine iJ fun k hk=>?_
 have hk:k < xs.size / 2:=by simpa using hk
 show xs[(min 1 (xs.size:Int)+2*(k:Int)).toNat]? =_
 have h2:(min 1 (xs.size:Int)+2*(k:Int)).toNat=2*k+1:=by omega
 rw [h2,Array.getElem?_toList]
theorem ao.JS:∀ {xs:List V} {us:List Value},ao xs us->ao (gi xs) (gi us)
 | _,_,.nil=>.nil
 | _,_,.cons _ .nil=>.nil
 | _,_,.cons _ (.cons b r)=>.cons b (ao.JS r)
section
variable {lo st:Expr} {tl ts:TE} {p2 pos:Pos}
def Sz (K:Q0) (te tl ts:TE):TE:=fun σ H Q=>te σ H fun x H1=>tl σ H1 fun l H2=>ts σ H2 fun y H3=>l=.int 1/\y=.int 2/\∃ a xs,x=.ref a/\ae K H3 a xs/\∀ p,H3 p=none->Q (.ref p) (upd H3 p (.lst (gi xs)))
theorem SD (K:Q0) (he:SE X e te) (hlo:SE X lo tl) (hs:SE X st ts) (hK:X.K=K:=by rfl):SE X (.Subscript e (.Slice (some lo) none (some st) p2) pos) (Sz K te tl ts):=by
 subst hK
 constructor
 intro pins s σ H Q I h
 refine Subscript_ (aj (he.h pins s σ H _ I h) ?_)
 rintro v s1 ⟨x,H1,I1,r1,q1⟩
 refine wpAny_Slice ?_
 rw [evalPart_some]
 refine aj (hlo.h pins s1 σ H1 _ I1 q1) ?_
 rintro ul s2 ⟨l,H2,I2,rl,q2⟩
 rw [evalPart_none]
 refine QU ?_
 rw [evalPart_some]
 refine aj (hs.h pins s2 σ H2 _ I2 q2) ?_
 rintro u s3 ⟨y,H3,I3,ry,el,ey,a,xs,ex,hq,q⟩
 subst el ey ex
 obtain ⟨tk,rfl⟩:=(show ∃ t,u=Value.int 2 t from ry)
 obtain ⟨tl,rfl⟩:=(show ∃ t,ul=Value.int 1 t from rl)
 cases r1
 have I4:Inv X pins σ H3 {s3 with heap:=s3.heap.push {cls:=.type "slice",data:=.fields #[.int 1 tl,.none,.int 2 tk]}}:=I3.kept (t':=s3.toks) fun b ob q=>Qc _ q
 obtain ⟨its,r,pl,hz⟩:=I4.list hq
 have hl:=pl.isList
 show wpAny (model X.prog X.w) X.A (subscriptTail e (.Slice (some lo) none (some st) p2) (.ref a) (.ref s3.heap.objs.size)) (EP X pins σ Q) X.xe {s3 with heap:=s3.heap.push {cls:=.type "slice",data:=.fields #[.int 1 tl,.none,.int 2 tk]}}
 refine tail_any (ops:=[.ref a,.ref s3.heap.objs.size]) hl.typeIs list_getitem_lookup (wpAny_getItem_list_slice (lo:=some 1) (hi:=none) (st:=some 2) hl (Heap.IsSliceOf.new ..) (.int _ _) .none (.int _ _) (by simp) ?_ (by have:=r.length;simp;omega)) (by with_unfolding_all rfl)
 rw [x9]
 refine ⟨.ref _,_,I4.laid (t':=s3.toks) (o:=.lst (gi xs)) (fun b ob q=>Qc _ q) (Qy _) ?_,rfl,q _ (I4.hok.fresh (Qy _))⟩
 exact ⟨by rw [kZ];omega,gi its,0,ao.JS r,Qd _ rfl⟩
end
end L2
namespace L2
open PySem PySem.Spec PyProof.Rows
def jc (val:Nat->Str):Nat->Nat
 | 0=>0
 | i+1=>if val i∈(List.range i).map val then jc val i else jc val i+1
theorem oU (val:Nat->Str):∀ i,jc val i<=i
 | 0=>Qy _
 | i+1=>by have:=oU val i;unfold jc;split<;>omega
theorem m9 (val:Nat->Str):∀ i,(jc val i=i↔((List.range i).map val).Nodup)
 | 0=>by simp [jc]
 | i+1=>by
  have ih:=m9 val i
  have hl:=oU val i
  rw [List.range_succ,Qm,List.map_cons,List.map_nil,List.nodup_append]
  unfold jc
  split
  ·rename_i h
   constructor
   ·intro e;omega
   ·intro ⟨_,_,q⟩;exact absurd rfl (q _ h _ List.mem_cons_self)
  ·rename_i h
   constructor
   ·intro e
    refine ⟨ih.mp (by omega),by simp,fun a ha b hb e=>?_⟩
    rw [List.mem_singleton.mp hb] at e
    rw [e] at ha;exact h ha
   ·intro ⟨q,_,_⟩
    have:=ih.mpr q;omega
def jk (val:Nat->Str) (i:Nat):Key->Bool
 | .inr z=>decide (z∈(List.range i).map val)
 | .inl _=>false
section
variable {I:Addr} {wr:List Addr} {P:Nat->Value->Prop} {St:Nat->Shared->Prop}
theorem tG {S:Addr} {f:Key->Bool} {m:Nat} (q:h.SetOf (dz prog w) S f m) (k:∀ o,h.get? S=some o->h'.get? S=some o):h'.SetOf (dz prog w) S f m:=let ⟨o,es,ep,t,ho,r⟩:=q;⟨o,es,ep,t,k _ ho,r⟩
theorem nS (W:WalksS prog w A.in1 I fp wr G n P St) (S:Addr) (hS:S ∉ fp) (val:Nat->Str) (hv:∀ i v,P i v->∃ t,v=.str (val i) t) (hb:n+1 < scanBound):∀ (k i:Nat) (s:Shared),n - i=k->i<=n->St i s->s.heap.SetOf (dz prog w) S (jk val i) (jc val i)->
  (∀ s',Moved (S::wr) G s s'->s'.heap.SetOf (dz prog w) S (jk val n) (jc val n)->R (.ok (.ret .none)) s')->codeAny (model prog w) A (.builtin "set.update.loop" ⟨[.ref S,.ref I],[]⟩) R s:=by
 have hw:S ∉ wr:=fun h=>hS (W.sub _ h)
 have up:∀ b∈wr,b∈S::wr:=fun b hb=>Qh _ hb
 intro k
 induction k with
 | zero=>
  intro i s hk hi st q hR
  obtain rfl:i=n:=by omega
  refine codeAny_builtin F.entry_set_update_loop ?_
  rw [Around.under_plainId F.plain_set_update_loop _]
  show wpAny _ A.in1 (pyNext (.ref I) >>=_) _ _ s
  exact QT (W.done s _ _ st fun s' hm=>QU (hR s' (hm.mono up) (tG q fun o e=>hm.heap S o hw e)))
 | succ k ih=>
  intro i s hk hi st q hR
  have bh:i < n:=by omega
  refine codeAny_builtin F.entry_set_update_loop ?_
  rw [Around.under_plainId F.plain_set_update_loop _]
  show wpAny _ A.in1 (pyNext (.ref I) >>=_) _ _ s
  refine QT (W.item i s _ _ bh st fun v s' hP st' hm=>?_)
  obtain ⟨t,rfl⟩:=hv i v hP
  have q':=tG q fun o e=>hm.heap S o hw e
  show wpAny _ A.in1 (holding [Value.str (val i) t] (setAdd S (.str (val i) t)) >>=_) _ _ s'
  refine QT (wpAny_holding ?_)
  unfold setAdd
  refine wpAny_holding (QT ((dz prog w).pyHash (k:=.inr (val i)) (eQ _ _ _ _) ?_))
  have SJ:jc val i+1 < scanBound:=by have:=oU val i;omega
  refine wpAny_setAddHashed_of (knd:=dz prog w) (s:={s' with toks:=s'.toks+1}) (eQ _ _ _ _) rfl q' SJ fun h' SK q2=>?_
  have e1:∀ z,(jk val i z||decide (z=.inr (val i)))=jk val (i+1) z:=fun z=>by
   cases z with
   | inl _=>rfl
   | inr z=>
    simp only [jk,List.range_succ,Qm,List.map_cons,List.map_nil,List.mem_append,List.mem_singleton,Bool.decide_or]
    congr 1
    rw [Bool.eq_iff_iff,decide_eq_true_iff,decide_eq_true_iff]
    exact ⟨fun e=>Sum.inr.inj e,fun e=>by rw [e]⟩
  have e2:(if jk val i (.inr (val i))=true then jc val i else jc val i+1)=jc val (i+1):=by
   unfold jc jk
   simp only [decide_eq_true_eq]
   cases i<;>rfl
  have q3:h'.SetOf (dz prog w) S (jk val (i+1)) (jc val (i+1)):=by
   rw [<- e2,<- (funext e1:(fun z=>jk val i z||decide (z=.inr (val i)))=jk val (i+1))]
   exact q2
  have JT:∀ b o,b≠S->s'.heap.get? b=some o->h'.get? b=some o:=fun b o hb e=>by rw [SK.2 b hb];exact e
  refine QU ⟨plainId_quiet F.plain_set_update_loop _,ih (i+1) _ (by omega) bh (W.frame _ s' _ _ st' (Nat.le_succ _) fun b hb o e=>JT b o (fun z=>hS (by rw [<- z];exact hb)) e) q3 fun s'' Ar q4=>hR s'' (Moved.trans W.gtrans ((hm.mono up).then_heap (Nat.le_succ _) fun b o hb e=>JT b o (fun z=>hb (by rw [z];exact List.mem_cons_self)) e) Ar) q4⟩
end
def SM (prog:Program) (w:World) (E:Value->Shared->Prop) (s:Shared) (val:Nat->Str) (n:Nat):Result->Shared->Prop:=wants (fun r s₂=>r=.none/\∃ h' tk,s₂={s with heap:=h',toks:=tk}/\h'.SetOf (dz prog w) s.heap.objs.size (jk val n) (jc val n)/\∀ b o,b < s.heap.objs.size->s.heap.get? b=some o->h'.get? b=some o) E
abbrev vj (led:Bool):Obj:={cls:=.type "set",dict:=none,data:=.set #[] 0 (.fresh 0 0 led)}
set_option maxHeartbeats 3200000 in
theorem lX {items:Array Value} (hh:A.handled=none) (hl:s.heap.IsList l items) (hi:∀ (i:Nat) (v:Value),items[i]? =some v->∃ t,v=Value.str (zs.getD i "") t) (hb:items.size+1 < scanBound)
  (h:∀ (h':Heap) (tk:Nat),h'.SetOf (dz prog w) s.heap.objs.size (jk (fun i=>zs.getD i "") items.size) (jc (fun i=>zs.getD i "") items.size)->(∀ b o,b < s.heap.objs.size->s.heap.get? b=some o->h'.get? b=some o)->Q (.ref s.heap.objs.size) {s with heap:=h',toks:=tk}):
  wpAny (model prog w) A (call (.type "set") [.ref l]) Q E s:=by
 obtain ⟨c,tl,Wn⟩:=F.called_set.mro
 have Wo:=F.called_set.made
 have Wp:=F.called_set.sub
 refine wpAny_call (codeAny_of_tree ?_)
 show wpAny _ _ (callAny (.type "set") _) _ _ s
 refine QU ⟨Code.quiet_builtin _ (by decide+kernel),codeAny_builtin F.entry_type_call ?_⟩
 rw [Around.under_plain (weight_type_call_type "set" [.ref l] []) rfl]
 have h1:=F.called_set.notType
 have h2:=F.called_set.canCreate
 have Wq:=F.typeCall_set_1 (.ref l)
 repeat (any_goals (first | assumption | wp_step))
 refine codeAny_mono (code_set_new_1 (.ref l) (E:=E) (Q₁:=fun obj s₁=>∃ led:Bool,obj=.ref s.heap.objs.size/\s₁={s with heap:=s.heap.push (vj led)}) fun led=>⟨led,rfl,rfl⟩) fun r s₁ hr=>?_
 cases r with
 | error e=>exact hr
 | ok fl=>
  cases fl with
  | ret obj=>
   obtain ⟨led,rfl,rfl⟩:=hr
   have hS:(s.heap.push (vj led)).get? s.heap.objs.size=some (vj led):=Qd _ rfl
   have hT:Shared.TypeIs {s with heap:=s.heap.push (vj led)} (.ref s.heap.objs.size) "set":=⟨_,hS,rfl⟩
   have Wr:=F.called_set.init.lookup
   have Ws:=F.called_set.init.bind (.ref s.heap.objs.size)
   repeat (any_goals (first | assumption | wp_step))
   refine codeAny_mono (codeAny_call_builtin (R:=SM prog w E s (fun i=>zs.getD i "") items.size) F.called_set.init.plain F.entry_set_init (check_set_init_1 hT ?_)) fun r₂ s₂ Gn=>?_
   ·obtain ⟨⟨oc,od,Wt,g_⟩,qp,nj,nl,yl⟩:=hl
    simp only at nj yl
    subst nj yl
    have SN:(s.heap.push (vj led)).get? l=some {cls:=.type "list",dict:=od,data:=.seq items nl,slots:=g_}:=Qc _ qp
    have Wu:=F.sub_list_set
    have Wv:=F.sub_list_frozenset
    have gq:(Value.type "list"==Value.type "dict")=false:=by decide
    have hl1:(s.heap.push (vj led)).IsList l items:=⟨_,SN,rfl,nl,rfl⟩
    unfold Builtin.«set.__init__» noKeywords Builtin.Frozenset.updateFrom
    generalize SQ:pyIter=PI
    wp_walk
    subst SQ
    refine wpAny_pyIter_list hl1 (QT (wpAny_runValue ?_))
    have JU:l < s.heap.objs.size:=Qz qp
    have hz:(s.heap.push (vj led)).objs.size=s.heap.objs.size+1:=Heap.size_push ..
    have SR:l≠(s.heap.push (vj led)).objs.size:=by rw [hz];exact Nat.ne_of_lt (Nat.lt_succ_of_lt JU)
    have SV:s.heap.objs.size ∉ [(s.heap.push (vj led)).objs.size,l]:=by
     rw [hz]
     simp only [Qp,QA,or_false,not_or]
     exact ⟨Nat.ne_of_lt (Nat.lt_succ_self _),Nat.ne_of_gt JU⟩
    have q0:((s.heap.push (vj led)).push {cls:=.type "list_iterator",data:=.fields #[.ref l,.int 0 0]}).SetOf (dz prog w) s.heap.objs.size (jk (fun i=>zs.getD i "") 0) (jc (fun i=>zs.getD i "") 0):=by
     have e0:jk (fun i=>zs.getD i "") 0=fun _=>false:=by funext z;cases z<;>rfl
     rw [e0]
     exact ⟨_,#[],0,_,Qc _ hS,⟨rfl,rfl,rfl⟩,rfl,fun e he=>by simp at he,fun k=>by simp,by unfold scanBound;decide,rfl,rfl⟩
    refine nS ((Walks.list (by simp [hh]) _ l SR items).toS) s.heap.objs.size SV (fun i=>zs.getD i "") hi hb items.size 0 _ rfl (Nat.zero_le _) ⟨⟨_,Qd _ rfl,rfl,rfl⟩,(hl1.push _)⟩ q0 fun s' hm q=>?_
    obtain ⟨h',g',d',DQ,Ff⟩:=s'
    have eg:g'=s.gens:=hm.gens
    have ed:d'=s.drawn:=hm.drawn
    have eo:Ff=s.os:=hm.os
    subst eg ed eo
    show wpAny _ _ _ _ _ _
    refine QU ?_
    show wpAny _ _ (ret Value.none) _ _ _
    refine QU ⟨rfl,h',DQ,rfl,q,fun b o DV e=>hm.heap b o ?_ (Qc _ (Qc _ e))⟩
    simp only [Qp,QA,or_false,not_or]
    exact ⟨Nat.ne_of_lt DV,by rw [hz];exact Nat.ne_of_lt (Nat.lt_succ_of_lt DV)⟩
   ·cases r₂ with
    | error e=>exact Gn
    | ok SX=>
     cases SX with
     | ret r=>
      obtain ⟨rfl,h',tk,rfl,SY,Ac⟩:=Gn
      repeat (any_goals (first | assumption | wp_step))
      exact h _ _ SY Ac
     | _=>exact Gn.elim
  | _=>exact hr.elim
def S0 (te:TE):TE:=fun σ H Q=>te σ H fun x H1=>∃ (l:Addr) (zs:List Str),x=.ref l/\H1 l=some (.lst (zs.map V.str))/\zs.length<=1000/\Q (.int (jc (fun i=>zs.getD i "") zs.length:Nat)) H1
theorem yL {p p2 pos En:Pos} (hc:X.calm=true) (hg:Gl X "len") (hm:X.mg "len"=none) (S4:Gl X "set") (Ar:X.mg "set"=none) (he:SE X e te) (hs:starEach [e] X.env=[(false,eval e X.env)]:=by rfl) (CS:starEach [Expr.Call (.Name "set" p2) [e] [] En] X.env=[(false,eval (.Call (.Name "set" p2) [e] [] En) X.env)]:=by rfl):
  SE X (.Call (.Name "len" p) [.Call (.Name "set" p2) [e] [] En] [] pos) (S0 te):=by
 constructor
 intro pins s0 σ H Q I0 h
 refine wpAny_Call_Name_kw (hV I0 hg hm PySem.boot_len ?_)
 refine PyProof.Rows.callWith_builtin1 ?_ CS rfl
 rw [CS]
 refine Calls.spliced_cons ?_
 refine Call_ (hV I0 S4 Ar boot_set (PyProof.Rows.callWith_type1 ?_ hs rfl))
 rw [hs]
 refine Calls.spliced_cons (aj (he.h pins s0 σ H _ I0 h) fun u s ⟨x,H1,I,r,l,zs,ex,hl,hz,q⟩=>Calls.spliced_nil ?_)
 subst ex
 obtain rfl:u=Value.ref l:=r
 obtain ⟨its,rv,p,_⟩:=I.list (ae.of hl)
 have fq:its.length=zs.length:=by have:=rv.length;simpa using this.symm
 have hsz:its.toArray.size=zs.length:=by simpa using fq
 refine lX (zs:=zs) (I.ok.hd hc) p.isList (fun i v hv=>?_) (by rw [hsz];unfold scanBound;omega) fun h' tk q' hk=>Calls.spliced_nil ?_
 ·have hi:i < zs.length:=by
   rcases Nat.lt_or_ge i zs.length with h' | h'
   ·exact h'
   ·rw [Array.getElem?_eq_none (by omega)] at hv;cases hv
  obtain ⟨w1,e1,r1⟩:=rv.get (i:=i) (x:=.str (zs.getD i "")) (by rw [Qq,Qb,Qa hi];rfl)
  have e2:its.toArray[i]? =some w1:=by simpa using e1
  rw [e2] at hv
  cases hv
  exact r1
 ·rw [hsz] at q'
  obtain ⟨o,es,ep,t,ho,hex,hd,Ww,yf,hb,hf,hn⟩:=q'
  have I2:Inv X pins σ H1 {s with heap:=h',toks:=tk}:=I.kept (t':=tk) fun b o e=>hk b o (Qz e) e
  refine call_len_set ho hex hd hf (by unfold scanBound at hb;omega) ?_
  rw [hn]
  exact ⟨.int _,H1,I2.tok _,⟨_,rfl⟩,q⟩
section
variable {I:Addr} {wr:List Addr} {P:Nat->Value->Prop} {St:Nat->Shared->Prop}
end
end L2
namespace L2
end L2
namespace L2
open PySem PySem.SetTable
def Ex (mask:Nat) (p:Probe):Probe:=if p.more > 0 then {p with j:=p.j+1,more:=p.more - 1} else {p with j:=(leap mask p.i p.perturb).1,more:=runEnd mask (leap mask p.i p.perturb).1 - (leap mask p.i p.perturb).1,i:=(leap mask p.i p.perturb).1,perturb:=(leap mask p.i p.perturb).2}
def S5 (mask:Nat) (q:Nat×Nat):Probe:={j:=q.1,more:=runEnd mask q.1 - q.1,i:=q.1,perturb:=q.2,dummy:=none}
def st (mask:Nat) (h:Int):Nat->Probe
 | 0=>S5 mask (bits h % (mask+1),bits h)
 | n+1=>Ex mask (st mask h n)
section
variable {mask:Nat} {h:Int}
theorem oK (i:Nat):runEnd mask i - i<=9/\(i<=mask->i+(runEnd mask i - i)<=mask):=by
 unfold runEnd
 split<;>omega
theorem JV:∀ n,(st mask h n).j+(st mask h n).more<=mask
 | 0=>(oK _).2 (Nat.le_of_lt_succ (Nat.mod_lt _ (Nat.succ_pos _)))
 | n+1=>by
  have ih:=JV n
  show (Ex mask (st mask h n)).j+(Ex mask (st mask h n)).more<=mask
  unfold Ex
  split
  ·simp only;omega
  ·exact (oK _).2 (Nat.le_of_lt_succ (Nat.mod_lt _ (Nat.succ_pos _)))
end
section
variable {xs:Array Nat}
end
section
variable {t:SetTable} {es:Array (Int×Value)} {h:Int}
end
section
variable {xs:Array α} {p:Nat} {x:α}
end
section
variable {t:SetTable} {es:Array (Int×Value)} {h:Int} {x:Value} {n0:Nat}
end
theorem l6:∀ {l m:List Nat},l.Nodup->(∀ x∈l,x∈m)->l.length<=m.length
 | [],m,_,_=>Nat.zero_le _
 | a::l,m,nd,hs=>by
  obtain ⟨h1,h2⟩:=List.nodup_cons.mp nd
  have hm:=hs a (List.mem_cons_self ..)
  have:l.length<=(m.erase a).length:=l6 h2 fun x hx=>(List.mem_erase_of_ne (show x≠a from fun e=>h1 (by rw [<- e];exact hx))).mpr (hs x (Qh _ hx))
  rw [List.length_erase_of_mem hm] at this
  have:=List.length_pos_of_mem hm
  simp only [List.length_cons];omega
def Ow (owner:Array (Option Nat)) (j:Nat):Prop:=(owner.getD j (some 0)).isNone=false
structure JW (mask:Nat) (owner:Array (Option Nat)) (hs:List Int):Prop where
 sz:owner.size=mask+1
 lt:∀ j k:Nat,owner[j]? =some (some k)->k < hs.length
 inj:∀ j j' k:Nat,owner[j]? =some (some k)->owner[j']? =some (some k)->j=j'
 reach:∀ k (h:k < hs.length),∃ n,owner[(st mask hs[k] n).j]? =some (some k)/\∀ m,m < n->Ow owner (st mask hs[k] m).j
section
variable {mask:Nat} {owner:Array (Option Nat)} {hs:List Int} {h:Int}
end
def Bu (mask:Nat) (owner:Array (Option Nat)):List (Nat×Nat):=(List.range (mask+1)).filterMap fun j=>(owner.getD j none).map (j,·)
section
variable {mask:Nat} {owner:Array (Option Nat)} {hs:List Int}
theorem kA (hz:owner.size=mask+1) {p:Nat×Nat}:p∈Bu mask owner↔p.1<=mask/\owner[p.1]? =some (some p.2):=by
 unfold Bu
 rw [List.mem_filterMap]
 constructor
 ·rintro ⟨j,hj,e⟩
  have As:j < owner.size:=by have:=List.mem_range.mp hj;omega
  have eg:owner.getD j none=owner[j]:=by simp [Array.getD,As]
  rw [eg] at e
  cases hx:owner[j] with
  | none=>rw [hx] at e;cases e
  | some k=>
   rw [hx] at e
   cases e
   exact ⟨by show j<=mask;omega,by show owner[j]? =_;rw [Array.getElem?_eq_getElem As,hx]⟩
 ·rintro ⟨h1,h2⟩
  obtain ⟨h3,h4⟩:=Array.getElem?_eq_some_iff.mp h2
  refine ⟨p.1,List.mem_range.mpr (by omega),?_⟩
  have eg:owner.getD p.1 none=owner[p.1]:=by simp [Array.getD,h3]
  rw [eg,h4];rfl
theorem zQ {f:Nat->Option Nat}:∀ l:List Nat,l.Pairwise (· < ·)->((l.filterMap fun j=>(f j).map (j,·)).map (·.1)).Pairwise (· < ·)/\∀ x∈(l.filterMap fun j=>(f j).map (j,·)).map (·.1),x∈l
 | [],_=>⟨.nil,fun _ h=>nomatch h⟩
 | a::l,h=>by
  obtain ⟨h1,h2⟩:=List.pairwise_cons.mp h
  obtain ⟨i1,i2⟩:=zQ (f:=f) l h2
  cases e:f a with
  | none=>
   simp only [List.filterMap_cons,e,Option.map_none]
   exact ⟨i1,fun x hx=>Qh _ (i2 x hx)⟩
  | some k=>
   simp only [List.filterMap_cons,e,Option.map_some,List.map_cons]
   refine ⟨List.pairwise_cons.mpr ⟨fun x hx=>h1 x (i2 x hx),i1⟩,fun x hx=>?_⟩
   rcases Qp.mp hx with rfl | hx
   ·exact List.mem_cons_self ..
   ·exact Qh _ (i2 x hx)
theorem zS:((Bu mask owner).map (·.1)).Pairwise (· < ·):=(zQ (f:=fun j=>owner.getD j none) _ List.pairwise_lt_range).1
theorem JW.len (I:JW mask owner hs):(Bu mask owner).length=hs.length:=by
 have nd:((Bu mask owner).map (·.2)).Nodup:=by
  have h1:=zS (mask:=mask) (owner:=owner)
  rw [List.pairwise_map] at h1
  refine List.pairwise_map.mpr (h1.imp_of_mem fun {a b} ha hb jv e=>?_)
  have:=I.inj a.1 b.1 a.2 ((kA I.sz).mp ha).2 (by rw [e];exact ((kA I.sz).mp hb).2)
  omega
 have l1:=l6 nd (m:=List.range hs.length) fun x hx=>by
  obtain ⟨p,hp,rfl⟩:=List.mem_map.mp hx
  exact List.mem_range.mpr (I.lt _ _ ((kA I.sz).mp hp).2)
 have l2:=l6 (l:=List.range hs.length) (m:=(Bu mask owner).map (·.2)) List.nodup_range fun x hx=>by
  have hx':=List.mem_range.mp hx
  obtain ⟨n,e1,_⟩:=I.reach x hx'
  have hj:(st mask hs[x] n).j<=mask:=by have:=JV (mask:=mask) (h:=hs[x]) n;omega
  exact List.mem_map.mpr ⟨((st mask hs[x] n).j,x),(kA I.sz).mpr ⟨hj,e1⟩,rfl⟩
 simp at l1 l2
 omega
end
section
variable {K:Type} [DecidableEq K] {knd:KeyKind prog w K}
end
end L2
namespace L2
open PySem PySem.Spec PyProof.Rows
section
variable {I:Addr} {wr:List Addr} {P:Nat->Value->Prop} {St:Nat->Shared->Prop}
end
section
variable {S6:List (List Key×Addr)} {ks:List Key}
end
section
variable {S6:List (List Key×Addr)}
end
abbrev LR:=List (Str×Road)
def S7 (acc:LR) (r:Str):Road:=((acc.find? fun q=>decide (q.1=r)).map (·.2)).getD []
def JX (acc:LR):Option (Str×List Str)->Road
 | none=>[]
 | some q=>S7 acc q.1++[q.2]
def Gp (cb:Eo):LR:=cb.foldl (fun acc c=>acc++[(c.1,JX acc c.2)]) []
end L2
namespace L2
open PySem PySem.Spec PyProof.Rows PySem.W
end L2
namespace L2
open PySem PySem.Spec PyProof.Rows
def dd (seen:List Str):List (Road×Str)->LR
 | []=>[]
 | q::P=>if q.2∈seen then dd seen P else (q.2,q.1)::dd (seen++[q.2]) P
structure QI (rows:List ff) (f:Str) (i:Nat) (found:LR) (P:List (Road×Str)):Prop where
 fd:found=(Gp (Bo rows f i)).take i
 pd:dd (found.map (·.1)) P=(Gp (Bo rows f i)).drop i
theorem QI.start (rows:List ff) (f:Str):QI rows f 0 [] [([],f)]:=⟨by simp,by simp [dd,Bo,Gp,JX]⟩
end L2
namespace L2
open PySem PySem.Spec PyProof.Rows PySem.W
section
variable {o:Expr} {p RY:Pos}
end
end L2
namespace L2
open PySem PySem.Spec PyProof.Rows
section
variable {it d:Addr} {ep:Nat} {od:Obj} {es:Array DictEntry} {Q:Option Value->Shared->Prop}
end
section
variable {a b:Expr} {ta tb:TE} {pos:Pos}
end
inductive Th where
 | pick (w:Str) (t:Th)
 | Wx (ps:List (Str×Th))
section
variable {rows:List ff} {e:Str}
end
structure PD (R:V->Th->Prop) (ws:List Str) (kvs:List (Key×V)):Prop where
 all:∀ q∈kvs,∃ z t,q.1=.inr z/\z∈ws/\R q.2 t
 nd:(kvs.map (·.1)).Nodup
section
variable {R R':V->Th->Prop} {kvs Wy:List (Key×V)}
theorem PD.len (h:PD R ws kvs):kvs.length<=ws.length:=by
 have hc:∀ q:Key×V,∃ z:Str,q∈kvs->q.1=.inr z/\z∈ws:=fun q=>by
  by_cases hq:q∈kvs
  ·obtain ⟨z,t,h1,h2,_⟩:=h.all q hq;exact ⟨z,fun _=>⟨h1,h2⟩⟩
  ·exact ⟨"",fun z=>absurd z hq⟩
 obtain ⟨f,hf⟩:=Classical.axiomOfChoice hc
 have:=oF (l:=kvs.map f) (m:=ws) ?_ ?_
 ·simpa using this
 ·refine List.pairwise_map.mpr ((List.pairwise_map.mp h.nd).imp_of_mem fun {a b} ha hb jv e=>jv ?_)
  rw [(hf a ha).1,(hf b hb).1,e]
 ·intro z hz
  obtain ⟨q,hq,rfl⟩:=List.mem_map.mp hz
  exact (hf q hq).2
end
theorem ai.yt {K:Q0} {xs:List V} (h:ja H a xs):ai K H a xs:=.inl h
section
variable {rows:List ff}
end
inductive Tv where
 | s (z:Str)
 | i (n:Int)
 | t (l:List Tv)
def TD (H:Hp):Nat->V->Tv->Prop
 | _,.str z,.s z'=>z=z'
 | _,.int k,.i j=>k=j
 | n+1,.ref a,.t ds=>∃ xs,ja H a xs/\xs.length=ds.length/\∀ j (h:j < xs.length) (h':j < ds.length),TD H n xs[j] ds[j]
 | _,_,_=>False
structure gr (H:Hp) (n:Nat) (xs:List V) (ds:List Tv):Prop where
 len:xs.length=ds.length
 at_:∀ j (h:j < xs.length) (h':j < ds.length),TD H n xs[j] ds[j]
theorem TD.str {n:Nat} {z:Str}:TD H n (.str z) (.s z):=by cases n<;>rfl
theorem TD.int {n:Nat} {z:Int}:TD H n (.int z) (.i z):=by cases n<;>rfl
theorem TD.tup {n:Nat} {a:Addr} {xs:List V} {ds:List Tv} (h:ja H a xs) (t:gr H n xs ds):TD H (n+1) (.ref a) (.t ds):=⟨xs,h,t.len,t.at_⟩
theorem gr.nil:gr H n [] []:=⟨rfl,fun i h=>absurd h (by simp)⟩
theorem gr.cons {n:Nat} {x:V} {d:Tv} {xs:List V} {ds:List Tv} (h:TD H n x d) (t:gr H n xs ds):gr H n (x::xs) (d::ds):=⟨by simp [t.len],fun i h1 h2=>by
 cases i with
 | zero=>exact h
 | succ i=>exact t.at_ i (by simpa using h1) (by simpa using h2)⟩
theorem TD.vm {d:Tv} (h:TD H n (.ref a) d):∃ m ds xs,n=m+1/\d=.t ds/\ja H a xs/\gr H m xs ds:=by
 cases n with
 | zero=>cases d<;>exact h.elim
 | succ n=>
  cases d with
  | t ds=>obtain ⟨xs,h1,h2,h3⟩:=h;exact ⟨n,ds,xs,rfl,rfl,h1,h2,h3⟩
  | _=>exact h.elim
theorem TD.wx {d:Tv} (h:TD H n (.str z) d):d=.s z:=by
 cases n<;>(cases d with
  | s z'=>exact congrArg Tv.s (show z=z' from h).symm
  | _=>exact h.elim)
theorem TD.wy {z:Int} {d:Tv} (h:TD H n (.int z) d):d=.i z:=by
 cases n<;>(cases d with
  | i z'=>exact congrArg Tv.i (show z=z' from h).symm
  | _=>exact h.elim)
theorem TD.v {n:Nat} {v:V} {d:Tv} (h:TD H n v d):(∃ z,v=.str z)\/(∃ z,v=.int z)\/∃ a,v=.ref a:=by
 cases n<;>(cases v<;>first | exact .inl ⟨_,rfl⟩ | exact .inr (.inl ⟨_,rfl⟩) | exact .inr (.inr ⟨_,rfl⟩) | (cases d<;>exact h.elim))
theorem TD.det:∀ {n m:Nat} {v:V} {d e:Tv},TD H n v d->TD H m v e->d=e
 | 0,m,v,d,e,h,h'=>by
  rcases h.v with ⟨z,rfl⟩ | ⟨z,rfl⟩ | ⟨a,rfl⟩
  ·rw [h.wx,h'.wx]
  ·rw [h.wy,h'.wy]
  ·obtain ⟨_,_,_,z,_⟩:=h.vm;cases z
 | n+1,m,v,d,e,h,h'=>by
  rcases h.v with ⟨z,rfl⟩ | ⟨z,rfl⟩ | ⟨a,rfl⟩
  ·rw [h.wx,h'.wx]
  ·rw [h.wy,h'.wy]
  ·obtain ⟨m1,ds,xs,e1,rfl,r1,t1⟩:=h.vm
   obtain ⟨m2,es,ys,e2,rfl,r2,t2⟩:=h'.vm
   cases e1
   have:=r1.inj r2
   subst this
   have l1:=t1.len
   have l2:=t2.len
   congr 1
   refine List.ext_getElem (by omega) fun i h1 h2=>?_
   exact TD.det (t1.at_ i (by omega) h1) (t2.at_ i (by omega) h2)
theorem jW {ds es:List Tv} {e:Nat->Bool} (hl:ds.length=es.length) (h:∀ j (h1:j < ds.length) (h2:j < es.length),e j=true↔ds[j]=es[j]):(List.range ds.length).all e=true↔ds=es:=by
 rw [QF]
 constructor
 ·intro ha
  exact List.ext_getElem hl fun i h1 h2=>(h i h1 h2).mp (ha i (List.mem_range.mpr h1))
 ·rintro rfl j hj
  have:=List.mem_range.mp hj
  exact (h j this this).mpr rfl
theorem TD.S8 (I:Inv X pins σ H s):∀ {n:Nat} {m:Nat} {x y:V} {d e:Tv},TD H n x d->TD H m y e->∃ bo:Bool,(bo=true↔d=e)/\∀ (A:Around) (u v:Value),A.units+n < cLine->RelV x u->RelV y v->SeqAt.EqAt A s u v bo:=by
 intro n
 induction n with
 | zero=>
  intro m x y d e h h'
  rcases h.v with ⟨z,rfl⟩ | ⟨z,rfl⟩ | ⟨a,rfl⟩
  ·obtain rfl:=h.wx
   rcases h'.v with ⟨z',rfl⟩ | ⟨z',rfl⟩ | ⟨b,rfl⟩
   ·obtain rfl:=h'.wx
    exact ⟨z==z',by simp,fun A u v hu ru rv=>by obtain ⟨t,rfl⟩:=ru;obtain ⟨t',rfl⟩:=rv;exact SeqAt.EqAt.str_str z t z' t'⟩
   ·obtain rfl:=h'.wy
    exact ⟨false,by simp,fun A u v hu ru rv=>by obtain ⟨t,rfl⟩:=ru;obtain ⟨t',rfl⟩:=rv;exact SeqAt.EqAt.str_int z t z' t'⟩
   ·obtain ⟨_,ds,xs,rfl,rfl,r1,_⟩:=h'.vm
    refine ⟨false,by simp,fun A u v hu ru rv=>?_⟩
    obtain ⟨t,rfl⟩:=ru
    cases rv
    obtain ⟨i1,_,p1,_⟩:=I.tuple (ai.yt r1)
    exact SeqAt.EqAt.str_tuple z t p1 (by omega)
  ·obtain rfl:=h.wy
   rcases h'.v with ⟨z',rfl⟩ | ⟨z',rfl⟩ | ⟨b,rfl⟩
   ·obtain rfl:=h'.wx
    exact ⟨false,by simp,fun A u v hu ru rv=>by obtain ⟨t,rfl⟩:=ru;obtain ⟨t',rfl⟩:=rv;exact SeqAt.EqAt.int_str z t z' t'⟩
   ·obtain rfl:=h'.wy
    exact ⟨z==z',by simp,fun A u v hu ru rv=>by obtain ⟨t,rfl⟩:=ru;obtain ⟨t',rfl⟩:=rv;exact SeqAt.EqAt.int_int z t z' t'⟩
   ·obtain ⟨_,ds,xs,rfl,rfl,r1,_⟩:=h'.vm
    refine ⟨false,by simp,fun A u v hu ru rv=>?_⟩
    obtain ⟨t,rfl⟩:=ru
    cases rv
    obtain ⟨i1,_,p1,_⟩:=I.tuple (ai.yt r1)
    exact SeqAt.EqAt.int_tuple z t p1 (by omega)
  ·obtain ⟨_,_,_,z,_⟩:=h.vm;cases z
 | succ n ih=>
  intro m x y d e h h'
  rcases h.v with ⟨z,rfl⟩ | ⟨z,rfl⟩ | ⟨a,rfl⟩
  ·obtain ⟨bo,h1,h2⟩:=ih (m:=m) (TD.str (n:=n) (z:=z)) h'
   rw [h.wx]
   exact ⟨bo,h1,fun A u v hu=>h2 A u v (by omega)⟩
  ·obtain ⟨bo,h1,h2⟩:=ih (m:=m) (TD.int (n:=n) (z:=z)) h'
   rw [h.wy]
   exact ⟨bo,h1,fun A u v hu=>h2 A u v (by omega)⟩
  ·obtain ⟨n',ds,xs,e1,rfl,r1,t1⟩:=h.vm
   cases e1
   rcases h'.v with ⟨z',rfl⟩ | ⟨z',rfl⟩ | ⟨b,rfl⟩
   ·obtain rfl:=h'.wx
    refine ⟨false,by simp,fun A u v hu ru rv=>?_⟩
    obtain ⟨t,rfl⟩:=rv
    cases ru
    obtain ⟨i1,_,p1,_⟩:=I.tuple (ai.yt r1)
    exact SeqAt.EqAt.tuple_str z' t p1 (by omega)
   ·obtain rfl:=h'.wy
    refine ⟨false,by simp,fun A u v hu ru rv=>?_⟩
    obtain ⟨t,rfl⟩:=rv
    cases ru
    obtain ⟨i1,_,p1,_⟩:=I.tuple (ai.yt r1)
    exact SeqAt.EqAt.tuple_int z' t p1 (by omega)
   ·obtain ⟨m',es,ys,rfl,rfl,r2,t2⟩:=h'.vm
    by_cases jv:a=b
    ·subst jv
     refine ⟨true,⟨fun _=>TD.det h h',fun _=>rfl⟩,fun A u v hu ru rv=>?_⟩
     cases ru
     cases rv
     exact SeqAt.EqAt.same _
    ·obtain ⟨i1,v1,p1,_⟩:=I.tuple (ai.yt r1)
     obtain ⟨i2,v2,p2,_⟩:=I.tuple (ai.yt r2)
     have l1:=v1.length
     have l2:=v2.length
     have k1:=t1.len
     have k2:=t2.len
     have hc:∀ j:Nat,∃ bo:Bool,∀ (h1:j < ds.length) (h2:j < es.length),(bo=true↔ds[j]=es[j])/\∀ (A:Around) (u v:Value),A.units+n < cLine->RelV (xs[j]'(by omega)) u->RelV (ys[j]'(by omega)) v->SeqAt.EqAt A s u v bo:=fun j=>by
      by_cases hj:j < ds.length/\j < es.length
      ·obtain ⟨bo,q1,q2⟩:=ih (t1.at_ j (by omega) hj.1) (t2.at_ j (by omega) hj.2)
       exact ⟨bo,fun _ _=>⟨q1,q2⟩⟩
      ·exact ⟨false,fun h1 h2=>absurd ⟨h1,h2⟩ hj⟩
     obtain ⟨ev,qz⟩:=Classical.axiomOfChoice hc
     refine ⟨(List.range (min i1.toArray.size i2.toArray.size)).all ev&&i1.toArray.size==i2.toArray.size,?_,fun A u v hu ru rv=>?_⟩
     ·have s1:i1.toArray.size=ds.length:=by simp;omega
      have s2:i2.toArray.size=es.length:=by simp;omega
      rw [s1,s2,Bool.and_eq_true]
      constructor
      ·rintro ⟨q1,q2⟩
       have hl:ds.length=es.length:=by simpa using q2
       rw [<- hl,Nat.min_self] at q1
       exact congrArg Tv.t ((jW hl fun j h1 h2=>(qz j h1 h2).1).mp q1)
      ·intro q
       have hq:ds=es:=by injection q
       have hl:ds.length=es.length:=by rw [hq]
       refine ⟨?_,by simp [hl]⟩
       rw [<- hl,Nat.min_self]
       exact (jW hl fun j h1 h2=>(qz j h1 h2).1).mpr hq
     ·cases ru
      cases rv
      refine SeqAt.EqAt.of_refs jv (SeqAt.RcAt.tuples (A:=A) (e:=ev) p1 p2 (by omega) fun j g1 g2=>?_)
      have j1:j < ds.length:=by simp at g1;omega
      have j2:j < es.length:=by simp at g2;omega
      obtain ⟨w1,f1,q1⟩:=v1.get (Qa (show j < xs.length by omega))
      obtain ⟨w2,f2,q2⟩:=v2.get (Qa (show j < ys.length by omega))
      have n1:i1.toArray[j]=w1:=by rw [Qa (by simpa using g1)] at f1;simpa using f1
      have n2:i2.toArray[j]=w2:=by rw [Qa (by simpa using g2)] at f2;simpa using f2
      rw [n1,n2]
      exact (qz j j1 j2).2 A.in1 w1 w2 (by rw [Around.in1_units];omega) q1 q2
theorem gr.JY (I:Inv X pins σ H s) {m:Nat} {xs ys:List V} {ds es:List Tv} (t1:gr H n xs ds) (t2:gr H m ys es):∃ ev:Nat->Bool,(∀ j (h1:j < ds.length) (h2:j < es.length),ev j=true↔ds[j]=es[j])/\∀ (i1 i2:List Value),ao xs i1->ao ys i2->∀ (A:Around),A.units+n+1 < cLine->∀ (j:Nat) (h1:j < i1.toArray.size) (h2:j < i2.toArray.size),SeqAt.EqAt A.in1 s i1.toArray[j] i2.toArray[j] (ev j):=by
 have k1:=t1.len
 have k2:=t2.len
 have hc:∀ j:Nat,∃ bo:Bool,∀ (h1:j < ds.length) (h2:j < es.length),(bo=true↔ds[j]=es[j])/\∀ (A:Around) (u v:Value),A.units+n < cLine->RelV (xs[j]'(by omega)) u->RelV (ys[j]'(by omega)) v->SeqAt.EqAt A s u v bo:=fun j=>by
  by_cases hj:j < ds.length/\j < es.length
  ·obtain ⟨bo,q1,q2⟩:=TD.S8 I (t1.at_ j (by omega) hj.1) (t2.at_ j (by omega) hj.2)
   exact ⟨bo,fun _ _=>⟨q1,q2⟩⟩
  ·exact ⟨false,fun h1 h2=>absurd ⟨h1,h2⟩ hj⟩
 obtain ⟨ev,qz⟩:=Classical.axiomOfChoice hc
 refine ⟨ev,fun j h1 h2=>(qz j h1 h2).1,fun i1 i2 v1 v2 A hu j g1 g2=>?_⟩
 have l1:=v1.length
 have l2:=v2.length
 have j1:j < ds.length:=by simp at g1;omega
 have j2:j < es.length:=by simp at g2;omega
 obtain ⟨w1,f1,q1⟩:=v1.get (Qa (show j < xs.length by omega))
 obtain ⟨w2,f2,q2⟩:=v2.get (Qa (show j < ys.length by omega))
 have n1:i1.toArray[j]=w1:=by rw [Qa (by simpa using g1)] at f1;simpa using f1
 have n2:i2.toArray[j]=w2:=by rw [Qa (by simpa using g2)] at f2;simpa using f2
 rw [n1,n2]
 exact (qz j j1 j2).2 A.in1 w1 w2 (by rw [Around.in1_units];omega) q1 q2
def S9 (ng:Bool):R2:=fun x y H Q=>∃ n m d e a b,n<=60/\x=.ref a/\y=.ref b/\TD H n x d/\TD H m y e/\∀ bo:Bool,(bo=true↔d=e)->Q (.bl (ng^^bo)) H
theorem S_ {ds es:List Tv} {s1 s2:Nat} {ev:Nat->Bool} (h1:s1=ds.length) (h2:s2=es.length) (qz:∀ j (h1:j < ds.length) (h2:j < es.length),ev j=true↔ds[j]=es[j]):((List.range (min s1 s2)).all ev&&s1==s2)=true↔Tv.t ds=.t es:=by
 subst h1 h2
 rw [Bool.and_eq_true]
 constructor
 ·rintro ⟨q1,q2⟩
  have hl:ds.length=es.length:=by simpa using q2
  rw [<- hl,Nat.min_self] at q1
  exact congrArg Tv.t ((jW hl qz).mp q1)
 ·intro q
  have hq:ds=es:=by injection q
  have hl:ds.length=es.length:=by rw [hq]
  refine ⟨?_,by simp [hl]⟩
  rw [<- hl,Nat.min_self]
  exact (jW hl qz).mpr hq
theorem wF (hu:X.A.units+100 < cLine):br X (compareOp .Eq) (S9 false):=by
 intro pins s σ H x y v u Q I rx ry h
 obtain ⟨n,m,d,e,a,b,hn,rfl,rfl,h1,h2,q⟩:=h
 cases rx
 cases ry
 obtain ⟨n',ds,xs,rfl,rfl,r1,t1⟩:=h1.vm
 obtain ⟨m',es,ys,rfl,rfl,r2,t2⟩:=h2.vm
 obtain ⟨i1,v1,p1,_⟩:=I.tuple (ai.yt r1)
 obtain ⟨i2,v2,p2,_⟩:=I.tuple (ai.yt r2)
 have l1:=v1.length
 have l2:=v2.length
 have k1:=t1.len
 have k2:=t2.len
 obtain ⟨ev,e1,e2⟩:=gr.JY I t1 t2
 refine SeqAt.RcAt.tuples (A:=X.A) (e:=ev) p1 p2 (by omega) (e2 i1 i2 v1 v2 X.A (by omega)) _ _ _ _ ?_
 refine ⟨.bl _,H,I,rfl,?_⟩
 have:=q _ (S_ (s1:=i1.toArray.size) (s2:=i2.toArray.size) (by simp;omega) (by simp;omega) e1)
 rw [QE] at this
 exact this
def JZ (K:Q0) (ng:Bool):R2:=fun x y H Q=>∃ n m a b xs ys ds es,n<=60/\x=.ref a/\y=.ref b/\ae K H a xs/\ae K H b ys/\gr H n xs ds/\gr H m ys es/\∀ bo:Bool,(bo=true↔ds=es)->Q (.bl (ng^^bo)) H
theorem lT (K:Q0) (hu:X.A.units+100 < cLine) (hK:X.K=K:=by rfl):br X (compareOp .Eq) (JZ K false):=by
 subst hK
 intro pins s σ H x y v u Q I rx ry h
 obtain ⟨n,m,a,b,xs,ys,ds,es,hn,rfl,rfl,h1,h2,t1,t2,q⟩:=h
 cases rx
 cases ry
 obtain ⟨i1,v1,p1,_⟩:=I.list h1
 obtain ⟨i2,v2,p2,_⟩:=I.list h2
 have l1:=v1.length
 have l2:=v2.length
 have k1:=t1.len
 have k2:=t2.len
 obtain ⟨ev,e1,e2⟩:=gr.JY I t1 t2
 have DH:i1.toArray.size=ds.length:=by simp;omega
 have oz:i2.toArray.size=es.length:=by simp;omega
 by_cases hl:ds.length=es.length
 ·refine SeqAt.RcAt.lists (A:=X.A) (e:=ev) p1.isList p2.isList (by omega) (by omega) (e2 i1 i2 v1 v2 X.A (by omega)) _ _ _ _ ?_
  rw [DH]
  exact ⟨.bl _,H,I,rfl,by have:=q _ (jW hl e1);rw [QE] at this;exact this⟩
 ·refine SeqAt.RcAt.lists_lengths (A:=X.A) p1.isList p2.isList (by rw [DH,oz];simpa using hl) (by omega) _ _ _ _ ?_
  exact ⟨.bl _,H,I,rfl,by have:=q false ⟨(fun z=>nomatch z),fun z=>absurd (congrArg List.length z) hl⟩;rw [QE] at this;exact this⟩
theorem d4 (A8:Scope) (oN:List Str) (h:sc.kind=.function/\(∀ y∈sc.names,y.2≠.cell)/\(∀ y∈sc.names,y.2=.local->sc.names.lookup y.1=some .local)/\(∀ y∈sc.names,y.2=.free->(A8.names.lookup y.1=some .cell\/A8.names.lookup y.1=some .free))/\(∀ j∈idx,sc.names.lookup (oN.getD j "")=some .free/\j < oN.length)/\N'=own++idx.map (fun j=>oN.getD j "")):ow A8 oN sc own idx N':=⟨h.1,h.2.1,h.2.2.1,h.2.2.2.1,h.2.2.2.2.1,h.2.2.2.2.2⟩
theorem bY {P:List Str} (h:sc.kind=.function/\sc.isCoroutine=false/\sc.isGenerator=false/\N.Nodup/\N.take P.length=P/\(∀ x∈P,sc.names.lookup x=some .local\/sc.names.lookup x=some .cell)/\∀ y∈sc.names,y.2≠.free):dg N P sc:=⟨h.1,h.2.1,h.2.2.1,h.2.2.2.1,h.2.2.2.2.1,h.2.2.2.2.2.1,h.2.2.2.2.2.2⟩
end L2
set_option maxHeartbeats 400000
--Wz 10
--WA
--WB
namespace T1
open PySem L2
def top (i:Nat):Stmt:=PySem.Challenge.pw_coilkind_k06_texts_that_write_none.main.body.getD i (.Pass ⟨0,0,0,0⟩)
abbrev j6:Stmt:=top 9
abbrev eB:Stmt:=top 10
abbrev dB:Stmt:=top 15
abbrev iB:Stmt:=top 16
abbrev nG:Stmt:=top 17
abbrev jD:Stmt:=top 18
abbrev fM:Stmt:=top 19
abbrev kS:Stmt:=top 20
abbrev gZ:Stmt:=top 21
abbrev i4:Stmt:=top 22
abbrev iR:Stmt:=top 23
abbrev fK:Stmt:=top 25
abbrev jM:Stmt:=top 26
abbrev fX:Stmt:=top 27
abbrev i8:Stmt:=top 29
abbrev iU:Stmt:=top 30
abbrev fA:Stmt:=top 31
abbrev dZ:Stmt:=top 32
abbrev iK:Stmt:=top 33
abbrev fS:Stmt:=top 34
abbrev fR:Stmt:=top 35
abbrev dX:Stmt:=top 36
abbrev bW:Stmt:=top 37
abbrev hZ:Stmt:=top 38
abbrev j4:Stmt:=top 39
abbrev cO:Stmt:=top 40
abbrev jQ:Stmt:=top 41
abbrev iL:Stmt:=top 42
abbrev gQ:Stmt:=top 43
abbrev eE:Stmt:=top 44
abbrev kI:Stmt:=top 45
abbrev gG:Stmt:=inClass (top 2) 0
abbrev fU:Stmt:=inClass (top 3) 0
abbrev pw:=PySem.Challenge.pw_coilkind_k06_texts_that_write_none
abbrev uf:=PySem.Challenge.rw_coilkind_k06_texts_that_write_none
def view:Program:={pw with main:={pw.main with body:=([1,2,3,4,6,7,8,9,10,12,13,14,15,16,17,18,19,20,21,22,23,25,26,27,29,30,31,32,33,34,35,36,37,38,39,40,41,42,43,44,45]:List Nat).filterMap fun i=>pw.main.body[i]?}}
def fns:List (Str×Stmt):=[⟨"is_name",j6⟩,⟨"are_rising",eB⟩,⟨"is_telling",dB⟩,⟨"heads_of",iB⟩,⟨"is_row",nG⟩,⟨"is_head",jD⟩,⟨"is_pairs",fM⟩,⟨"is_pair",kS⟩,⟨"names_in",gZ⟩,⟨"has_rows",i4⟩,⟨"leads_out",iR⟩,⟨"read_telling",fK⟩,⟨"read_row",jM⟩,⟨"read_head",fX⟩,⟨"_law_tpen",i8⟩,⟨"_law_tdraw",iU⟩,⟨"_law_tnames",fA⟩,⟨"_law_tpairs",dZ⟩,⟨"_law_thead",iK⟩,⟨"_law_ttelling",fS⟩,⟨"_law_tis_name",fR⟩,⟨"_law_tis_head",dX⟩,⟨"_law_tis_telling",bW⟩,⟨"_law_tlines",hZ⟩,⟨"_law_tbent",j4⟩,⟨"_law_thead_by",cO⟩,⟨"_law_tdue",jQ⟩,⟨"_law_tread",iL⟩,⟨"_law_tapart",gQ⟩,⟨"_law_tmade_right",eE⟩,⟨"law",kI⟩]
def vals:List (Str×V):=[⟨"LETTERS",.str "abcdefghijklmnopqrstuvwxyz"⟩,⟨"LONGEST",.int 8⟩,⟨"MOST_ROWS",.int 200⟩]
def tups:List (Str×List V):=[⟨"NO_NAMES",[.str "all",.str "none",.str "way",.str "box",.str "pick"]⟩,⟨"WORDED",[.str "box",.str "pick"]⟩]
def LJ:List (Str×List oj):=[⟨"NAMES_BEHIND",[⟨"all",.inl (.int 0)⟩,⟨"none",.inl (.int 0)⟩,⟨"way",.inl (.int 2)⟩,⟨"as",.inl (.int 1)⟩]⟩]
def VL:List Str:=["len","isinstance","all","range","str","int","list","tuple","dict","sorted","repr","enumerate","zip","set","ValueError"]
def LK:List wu:=[⟨"CoilError","CoilError.__init__",none,[]⟩,⟨"NoText","NoText.__init__",some gG,["number"]⟩,⟨"TooMany","TooMany.__init__",some fU,["many"]⟩,⟨"NoTelling","NoTelling.__init__",none,[]⟩]
def subs:List (Str×Str×Bool):=[("CoilError","CoilError",true),("CoilError","NoText",false),("CoilError","TooMany",false),("CoilError","NoTelling",false),("NoText","CoilError",true),("NoText","NoText",true),("NoText","TooMany",false),("NoText","NoTelling",false),("TooMany","CoilError",true),("TooMany","NoText",false),("TooMany","TooMany",true),("TooMany","NoTelling",false),("NoTelling","CoilError",true),("NoTelling","NoText",false),("NoTelling","TooMany",false),("NoTelling","NoTelling",true)]
def look (K:Q0):=(yn (without K []) fns,DZ (without K []) vals,D8 (without K []) tups,F7 (without K []) LJ,Bg (without K []) VL,Br (without K []) LK,Er (without K []) subs)
def want (w:World):=(yo fns,D4 vals,D9 tups,F8 w LJ,true,Bs LK,Es subs)
theorem VM (w:World):(PySem.W.openEnds treeTable pw (w.withFollow "special-get-raises" false) 4050).map (fun s=>(PySem.W.openSeen view ["NAMES_BEHIND"] (PySem.importedModules pw.main.body) (fun s=>PySem.W.xlAt view [] s&&PySem.W.recOk [] s) true s,(qx look want).obs s))=some (PySem.W.openGood view ["NAMES_BEHIND"],(qx look want).val (w.withFollow "special-get-raises" false)):=by kernel_rfl
theorem VN (w:World):(PySem.W.openEnds treeTable pw (w.withFollow "special-get-raises" true) 4050).map (fun s=>(PySem.W.openSeen view ["NAMES_BEHIND"] (PySem.importedModules pw.main.body) (fun s=>PySem.W.xlAt view [] s&&PySem.W.recOk [] s) true s,(qx look want).obs s))=some (PySem.W.openGood view ["NAMES_BEHIND"],(qx look want).val (w.withFollow "special-get-raises" true)):=by kernel_rfl
def AS:DefRec:=⟨"law",mz kI,jf kI,au kI,(match kI with | .FunctionDef _ _ _ _ _ _ _ _ _ p=>p | _=>⟨0,0,0,0⟩)⟩
theorem hdef:PySem.W.defOf view uf.row.name=some (AS,[]):=by kernel_rfl
theorem hprog:uf.row.prog.theDef uf.row.name=some (AS.params,AS.body,AS.scope):=by kernel_rfl
theorem hkw:PySem.W.kwWritten? AS.params.kwonlyargs AS.params.kw_defaults=some []:=by kernel_rfl
theorem hok:(PySem.W.chainsOk view&&PySem.W.opensWell uf.row.prog&&(PySem.W.frees uf.row.toRowW&&uf.row.within.isEmpty))=true:=by kernel_rfl
theorem hbare:uf.row.prog.bare:=⟨rfl,rfl,rfl,rfl,rfl,by decide+kernel⟩
theorem VX:uf.row.toRowW.promised:=by w_witness2
theorem said:uf.wellSaid=true:=by
 refine Rq (p:=pw) rfl ?_ ?_ ?_ ?_ ?_ ?_ ?_ ?_ ?_ ?_ ?_ ?_ ?_ ?_ ?_ ?_ ?_ ?_ ?_ ?_ ?_ ?_ ?_ ?_ ?_ ?_ ?_ ?_<;>kernel_rfl
structure Txt (K:Q0) (mg:Str->Option Value) (w:World):Prop where
 cz:mg "len"=none
 aM:mg "isinstance"=none
 qa:mg "all"=none
 eL:mg "range"=none
 Au:mg "str"=none
 Tc:mg "int"=none
 Td:mg "list"=none
 bN:mg "tuple"=none
 Te:mg "dict"=none
 Tf:mg "sorted"=none
 yW:mg "repr"=none
 j3:mg "enumerate"=none
 Tg:mg "zip"=none
 Ti:mg "set"=none
 i3:mg "ValueError"=none
 xC:∃ u,mg "LETTERS"=some u/\RelV (.str "abcdefghijklmnopqrstuvwxyz") u
 xN:∃ u,mg "LONGEST"=some u/\RelV (.int 8) u
 vB:∃ a,mg "NO_NAMES"=some (.ref a)/\∀ H,ai K H a [.str "all",.str "none",.str "way",.str "box",.str "pick"]
 qX:∃ u,mg "MOST_ROWS"=some u/\RelV (.int 200) u
 iV:∃ a,mg "NAMES_BEHIND"=some (.ref a)/\KD w K a [(.inr "all",.int 0),(.inr "none",.int 0),(.inr "way",.int 2),(.inr "as",.int 1)]
 nC:∃ a,mg "WORDED"=some (.ref a)/\∀ H,ai K H a [.str "box",.str "pick"]
 xR:dc K mg "is_name" j6 ["thing"]
 p9:dc K mg "are_rising" eB ["words"]
 pX:dc K mg "is_telling" dB ["thing"]
 uV:dc K mg "heads_of" iB ["T"]
 z6:dc K mg "is_row" nG ["thing"]
 yB:dc K mg "is_head" jD ["thing"]
 uY:dc K mg "is_pairs" fM ["thing"]
 wR:dc K mg "is_pair" kS ["thing"]
 uR:dc K mg "names_in" gZ ["head"]
 tR:dc K mg "has_rows" i4 ["heads","head"]
 qZ:dc K mg "leads_out" iR ["heads","name"]
 mX:dc K mg "read_telling" fK ["text"]
 uH:dc K mg "read_row" jM ["line"]
 rN:dc K mg "read_head" fX ["words"]
 tZ:dc K mg "_law_tpen" i8 ["script"]
 rO:dc K mg "_law_tdraw" iU ["pen","many"]
 pK:dc K mg "_law_tnames" fA ["pen","many"]
 pI:dc K mg "_law_tpairs" dZ ["pen","words","names"]
 sN:dc K mg "_law_thead" iK ["pen","sort","words","names"]
 mI:dc K mg "_law_ttelling" fS ["pen","most","words","sorts"]
 mQ:dc K mg "_law_tis_name" fR ["thing"]
 m3:dc K mg "_law_tis_head" dX ["head","names"]
 kG:dc K mg "_law_tis_telling" bW ["thing"]
 pG:dc K mg "_law_tlines" hZ ["told"]
 qP:dc K mg "_law_tbent" j4 ["pen","text","names"]
 mM:dc K mg "_law_thead_by" cO ["words"]
 uK:dc K mg "_law_tdue" jQ ["text"]
 sX:dc K mg "_law_tread" iL ["text"]
 pD:dc K mg "_law_tapart" gQ ["text"]
 kC:dc K mg "_law_tmade_right" eE ["number"]
 J0:dc K mg "law" kI ["script"]
 vn:Bp K mg "CoilError"
 iw:Bq K mg "NoText" "NoText.__init__" gG ["self","number"] ["number"]
 q_:Bq K mg "TooMany" "TooMany.__init__" fU ["self","many"] ["many"]
 lz:Bp K mg "NoTelling"
 WC:PySem.W.subIn K (.ref (adr mg "CoilError")) (.ref (adr mg "CoilError"))=some true
 WD:PySem.W.subIn K (.ref (adr mg "CoilError")) (.ref (adr mg "NoText"))=some false
 WE:PySem.W.subIn K (.ref (adr mg "CoilError")) (.ref (adr mg "TooMany"))=some false
 WG:PySem.W.subIn K (.ref (adr mg "CoilError")) (.ref (adr mg "NoTelling"))=some false
 Gq:PySem.W.subIn K (.ref (adr mg "NoText")) (.ref (adr mg "CoilError"))=some true
 Gr:PySem.W.subIn K (.ref (adr mg "NoText")) (.ref (adr mg "NoText"))=some true
 J1:PySem.W.subIn K (.ref (adr mg "NoText")) (.ref (adr mg "TooMany"))=some false
 J2:PySem.W.subIn K (.ref (adr mg "NoText")) (.ref (adr mg "NoTelling"))=some false
 Tj:PySem.W.subIn K (.ref (adr mg "TooMany")) (.ref (adr mg "CoilError"))=some true
 Tn:PySem.W.subIn K (.ref (adr mg "TooMany")) (.ref (adr mg "NoText"))=some false
 To:PySem.W.subIn K (.ref (adr mg "TooMany")) (.ref (adr mg "TooMany"))=some true
 Tp:PySem.W.subIn K (.ref (adr mg "TooMany")) (.ref (adr mg "NoTelling"))=some false
 Gs:PySem.W.subIn K (.ref (adr mg "NoTelling")) (.ref (adr mg "CoilError"))=some true
 Gu:PySem.W.subIn K (.ref (adr mg "NoTelling")) (.ref (adr mg "NoText"))=some false
 J3:PySem.W.subIn K (.ref (adr mg "NoTelling")) (.ref (adr mg "TooMany"))=some false
 Gv:PySem.W.subIn K (.ref (adr mg "NoTelling")) (.ref (adr mg "NoTelling"))=some true
theorem m6:dg ["self","number"] ["self","number"] (au gG):=bY (by decide+kernel)
theorem lN:dg ["self","many"] ["self","many"] (au fU):=bY (by decide+kernel)
theorem tN:dg ["thing"] ["thing"] (au j6):=bY (by decide+kernel)
theorem nM:dg ["words"] ["words"] (au eB):=bY (by decide+kernel)
theorem jK:dg ["thing","heads"] ["thing"] (au dB):=bY (by decide+kernel)
theorem qR:dg ["T"] ["T"] (au iB):=bY (by decide+kernel)
theorem xD:dg ["thing"] ["thing"] (au nG):=bY (by decide+kernel)
theorem jS:dg ["thing","sort","rest"] ["thing"] (au jD):=bY (by decide+kernel)
theorem sP:dg ["thing"] ["thing"] (au fM):=bY (by decide+kernel)
theorem u5:dg ["thing"] ["thing"] (au kS):=bY (by decide+kernel)
theorem rD:dg ["head"] ["head"] (au gZ):=bY (by decide+kernel)
theorem qO:dg ["heads","head"] ["heads","head"] (au i4):=bY (by decide+kernel)
theorem i9:dg ["heads","name","turn"] ["heads","name"] (au iR):=bY (by decide+kernel)
theorem cI:dg ["text","rows","number","line","row","T"] ["text"] (au fK):=bY (by decide+kernel)
theorem lE:dg ["line","words"] ["line"] (au jM):=bY (by decide+kernel)
theorem i7:dg ["words","sort","rest"] ["words"] (au fX):=bY (by decide+kernel)
theorem fW:dg ["script","mixed","cell"] ["script"] (au i8):=bY (by decide+kernel)
theorem fE:dg ["pen","many","found","one","two"] ["pen","many"] (au iU):=bY (by decide+kernel)
theorem c9:dg ["pen","many","letters","ahead","first","found","k","name"] ["pen","many"] (au fA):=bY (by decide+kernel)
theorem jG:dg ["pen","words","names","some"] ["pen","words","names"] (au dZ):=bY (by decide+kernel)
theorem pH:dg ["pen","sort","words","names"] ["pen","sort","words","names"] (au iK):=bY (by decide+kernel)
theorem bG:dg ["pen","most","words","sorts","names","rows","k","name","sort","head","turn"] ["pen","most","words","sorts"] (au fS):=bY (by decide+kernel)
theorem lJ:dg ["thing"] ["thing"] (au fR):=bY (by decide+kernel)
theorem d6:dg ["head","names","many","last","pair"] ["head","names"] (au dX):=bY (by decide+kernel)
theorem bH:dg ["thing","names","heads","name","here","turn"] ["thing"] (au bW):=bY (by decide+kernel)
theorem bM:dg ["told","lines","name","head","words","one","word","other"] ["told"] (au hZ):=bY (by decide+kernel)
theorem bO:dg ["pen","text","names","way","at","sign","lines","number","words","some"] ["pen","text","names"] (au j4):=bY (by decide+kernel)
theorem eW:dg ["words","names","some"] ["words"] (au cO):=bY (by decide+kernel)
theorem dA:dg ["text","rows","number","line","words","head"] ["text"] (au jQ):=bY (by decide+kernel)
theorem cW:dg ["text","told","e"] ["text"] (au iL):=bY (by decide+kernel)
theorem eK:dg ["text","kinds","e"] ["text"] (au gQ):=bY (by decide+kernel)
theorem cV:dg ["number","made","k","marks"] ["number"] (au eE):=bY (by decide+kernel)
theorem gP:dg ["script","pen","words","told","text","k","bent","turn"] ["script"] (au kI):=bY (by decide+kernel)
section
variable {K:Q0}
theorem dD (T:Txt K mg w):av P w K mg base 1 "_law_tdraw" ["pen","many"] Af:=by
 refine T.rO.fj fE (fun vs H Q E h=>?_) (fun f ak A outer s H vs Q E hr h=>?_)
 ·obtain ⟨p,w',m,t,rfl,_⟩:=h
  rfl
 ·refine hdn fun Gz9 zG9=>?_;obtain ⟨p,w',m,t,rfl,hp,⟨yu,Bv⟩,ht,k⟩:=h;refine zG9 ?_
  have hu:=cK hr
  have Gw:=hp.ne
  have WH:t < 1000000000000:=ht
  refine ⟨_,(aE (bP (lG (aP mK (aG (aL K) (by rfl) T.cz PySem.boot_len (aJ (d9 hu (zv 0) aK (fun _ _=>rfl)) aB)) aF (ay _)) (lZ (aP iT (bE (bF K) (d9 hu (zv 0) aK (fun _ _=>rfl)) aF (fun _ _=>rfl)) (zv 1) (ay _)))).pt (aI (eU (f7 K QH PySem.F.slot_list_pop PySem.F.type_list_pop sF (d9 hu (zv 0) aK (fun _ _=>rfl)) (aC aF aB)))) aU)
   (aE (bP (aP mK (aG (aL K) (by rfl) T.cz PySem.boot_len (aJ (d9 hu (zv 0) aK (fun _ _=>rfl)) aB)) aF (ay _)) (aE (aX (i:=2) fE.nd rfl (Or.inl rfl) (bQ fC (bE (bF K) (d9 hu (zv 0) aK (fun _ _=>rfl)) aF (fun _ _=>rfl)) (zv 1)))
   (aE (vR (bQ wG (bE (bF K) (d9 hu (zv 0) aK (fun _ _=>rfl)) aF (fun _ _=>rfl)) (zv 1)) (IE (d9 hu (zv 0) aK (fun _ _=>rfl)) aF qL))
   (aI (aT (zv 2))))) aU)
   (aE (OS hu (zv 0) aK (bQ bC (d9 hu (zv 0) aK (fun _ _=>rfl)) aF) rfl)
   (aE (aX (i:=3) fE.nd rfl (Or.inl rfl) (bQ fC (bQ bC (d9 hu (zv 0) aK (fun _ _=>rfl)) (bQ fY (bQ fY aF (d9 hu (zv 0) aK (fun _ _=>rfl))) (d9 hu (zv 0) aK (fun _ _=>rfl)))) aF))
   (aE (aX (i:=4) fE.nd rfl (Or.inl rfl) (bQ fC (bQ bC (bQ bC (bQ fY (zv 3) (zv 3)) (bQ fY aF (d9 hu (zv 0) aK (fun _ _=>rfl)))) aF) aF))
   (aI (aT (bQ fC (bQ wG (bQ fC (bQ bC (bQ fY (zv 4) (zv 4)) (zv 3)) aF) aF) (zv 1))))))))),?_⟩
  refine hdn fun Gz9 zG9=>?_;obtain ⟨mx,c,ws,h1,h2,⟨J5,rf⟩,Tq,lq⟩:=hp.ex;refine zG9 ?_
  have gW:∀ {H1:Hp} {c1:Int},H1 p=some (.dK (wm w' mx c1))->ik H1 p (.str "wide") (some (.ref w')):=fun h=>ik.k (k:=Sum.inr "wide") h
  have gT:∀ {H1:Hp} {c1:Int},H1 p=some (.dK (wm w' mx c1))->ik H1 p (.str "turn") (some (.int c1)):=fun h=>ik.k (k:=Sum.inr "turn") h
  have gM:∀ {H1:Hp} {c1:Int},H1 p=some (.dK (wm w' mx c1))->ik H1 p (.str "mixed") (some (.int mx)):=fun h=>ik.k (k:=Sum.inr "mixed") h
  refine bB (fun σ' H1=>σ'=[some (.ref p),some (.int m),none,none,none]/\∃ Bw:List Int,H1 p=some (.dK (wm w' mx c))/\H1 w'=some (.lst (Bw.map V.int))/\Sm p w' H H1) ?_ ?_
  ·intro nx bg
   refine ⟨p,.ref w',rfl,gW h1,.inl ⟨_,.inl (ae.of h2),_,rfl,?_⟩⟩
   refine ye (fun hl=>?_) (fun hl=>?_)
   ·cases ws with
    | nil=>simp at hl
    | cons x0 ws=>
     refine ⟨p,.ref w',rfl,gW h1,_,.int x0,.inl (ae.of h2),aR _ _,_,rfl,?_⟩
     refine ye (fun gj=>?_) (fun gj=>?_)
     ·refine ⟨p,.ref w',rfl,gW h1,?_,w',_,0,0,.int x0,rfl,rfl,h2,by decide,by decide,(by rw [Ql];exact (lS (tD _)).1),rfl,?_⟩
      ·exact .inl ⟨rfl,_,ae.of h2⟩
      ·exact bg _ _ ⟨rfl,ws,by rw [aH Gw];exact h1,aA,fun b o hb h3 h4=>by rw [aH h4];exact hb⟩
     ·exact bg _ _ ⟨rfl,x0::ws,h1,h2,Sm.refl⟩
   ·exact bg _ _ ⟨rfl,ws,h1,h2,Sm.refl⟩
  ·rintro σ' H1 ⟨rfl,Bw,g1,g2,sm⟩
   refine bB (fun σ' H2=>σ'=[some (.ref p),some (.int m),none,none,none]/\H2=H1) ?_ ?_
   ·intro nx bg
    refine ⟨p,.ref w',rfl,gW g1,.inl ⟨_,.inl (ae.of g2),_,rfl,?_⟩⟩
    refine ye (fun hl=>?_) (fun hl=>?_)
    ·cases Bw with
     | nil=>simp at hl
     | cons x0 Bw=>
      refine ⟨p,.ref w',rfl,gW g1,_,.int x0,.inl (ae.of g2),aR _ _,yu,?_⟩
      refine ⟨p,.ref w',rfl,gW g1,_,.int x0,.inl (ae.of g2),aR _ _,⟨yu,Bv⟩,?_⟩
      refine ⟨p,.ref w',rfl,gW g1,w',_,0,0,rfl,rfl,g2,tD _,?_⟩
      refine k _ _ (Int.emod_nonneg _ (by omega)) (Int.emod_lt_of_pos _ yu) ⟨mx,c,x0 / m::Bw,?_,aA,⟨J5,rf⟩,Tq,by omega⟩ (sm.trans fun b o hb h3 h4=>by rw [aH h4];exact hb)
      rw [aH Gw];exact g1
    ·exact bg _ _ ⟨rfl,rfl⟩
   ·rintro σ' H2 ⟨rfl,rfl⟩
    have g3:upd H2 p (.dK (wm w' mx (c+1))) p=some (.dK (wm w' mx (c+1))):=aA
    have b1:(0:Int)<=c+1/\c+1<=1000000000000:=by omega
    refine ⟨p,.int c,rfl,gT g1,p,_,rfl,Cc.k (k:=Sum.inr "turn") g1 (show 3 < sizeLine by decide),?_⟩
    show uo _ _ _ _ (upd H2 p (.dK (wm w' mx (c+1))))
    refine ⟨p,_,rfl,gM g3,p,_,rfl,gT g3,.inl ⟨by omega,by omega⟩,p,_,rfl,gT g3,.inl ⟨?_,?_⟩,by decide,?_⟩
    ·show -(2^64) < 7919*(c+1);omega
    ·show 7919*(c+1) < 2^64;omega
    generalize ho:(mx+7919*(c+1)*(c+1)) % 2147483629=one
    have WI:0<=one:=by rw [<- ho];exact Int.emod_nonneg _ (by decide)
    have WJ:one < 2147483629:=by rw [<- ho];exact Int.emod_lt_of_pos _ (by decide)
    refine ⟨.inl ⟨by omega,by omega⟩,p,_,rfl,gT g3,.inl ⟨by decide,by decide⟩,by decide,?_⟩
    generalize Av:(one*one+40692*(c+1)+3) % 998244353=two
    have Ey:0<=two:=by rw [<- Av];exact Int.emod_nonneg _ (by decide)
    have Aw:two < 998244353:=by rw [<- Av];exact Int.emod_lt_of_pos _ (by decide)
    refine ⟨.inl ⟨by omega,by omega⟩,by decide,⟨by decide,by decide⟩,yu,?_⟩
    refine k _ _ (Int.emod_nonneg _ (by omega)) (Int.emod_lt_of_pos _ yu) ⟨mx,c+1,Bw,g3,?_,⟨J5,rf⟩,by omega,by omega⟩ (sm.trans fun b o hb h3 h4=>by rw [aH h3];exact hb)
    rw [aH Gw.symm];exact g2
theorem t5 (T:Txt K mg w):av P w K mg base 1 "_law_tpen" ["script"] (IJ K):=by
 refine T.tZ.fj fW (fun vs H Q E h=>?_) (fun f ak A outer s H vs Q E hr h=>?_)
 ·obtain ⟨a,ns,rfl,_⟩:=h
  rfl
 ·obtain ⟨a,ns,rfl,hS,hl,k⟩:=h
  refine ⟨_,(aE (aX (i:=1) fW.nd rfl (Or.inl rfl) aF)
   (aE (fN PassesOwn.never rfl (lQ K (zv 0)) (aS (i:=2) fW.nd rfl (Or.inl rfl)) (aI (aX (i:=1) fW.nd rfl (Or.inl rfl) (bQ fC (bQ bC (bQ bC (bQ fY (zv 1) aF) (bQ fC (zv 2) aF)) aF) aF))))
   (aI (aT (OR (qF aK (zv 1) (qF aK aF (qF aK (fV (own:=["cell"]) (idx:=[]) (N':=["cell"]) (d4 (au i8) (["script","mixed","cell"]:List Str) (by decide+kernel)) rfl (lQ K (zv 0)) (fun _ _ _ _ _ _=>(aS (i:=0) (show List.Nodup (["cell"]:List Str) by decide+kernel) rfl (Or.inl rfl))) (fun _ _ _ _ _ _=>(FH (aP Om (zv 0) (bQ vE aF aF) (ay _)))) (fun _ _ _ _ _ _=>(zv 0))) OQ))) rfl rfl (by simp) (by decide)))))),?_⟩
  refine .inl ⟨⟨_,hS⟩,dW (dH (ns.map V.int)) (fun i σ H'=>H'=H/\∃ (m:Int) (v:Option V),σ=[some (.ref a),some (.int m),v]/\0<=m/\m < 2147483629) ⟨rfl,7,none,rfl,by decide,by decide⟩ (fun i τ H' _ h=>by rw [h.1];exact hS) ?_ ?_⟩
  ·rintro i σ H' hi ⟨rfl,m,v,rfl,yu,Bv⟩
   rw [Ql] at hi
   rw [iP ns i hi]
   exact ⟨.inl ⟨by omega,by omega⟩,by decide,by decide,rfl,_,_,rfl,Int.emod_nonneg _ (by decide),Int.emod_lt_of_pos _ (by decide)⟩
  ·rintro σ H' ⟨rfl,m,v,rfl,yu,Bv⟩
   intro p hp
   have Ez:∀ o,ae K (upd H' p o) a (ns.map V.int):=fun o=>(aa.upd hp o).seq hS
   refine .inl ⟨⟨_,Ez _⟩,fun D hD=>?_⟩
   have Gx:D≠p:=fun e=>by rw [e,aA] at hD;cases hD
   have qb:H' D=none:=by rw [aH Gx] at hD;exact hD
   have sD:∀ o,aa (upd H' p (.dK [])) (upd (upd H' p (.dK [])) D o):=fun o=>aa.upd hD o
   refine vP (dH (ns.map V.int)) (fun i=>decide ((10:Int)^15<=ns.getD i 0)) (fun i=>.int (ns.getD i 0)) (by rw [Ql];exact Cg (by omega)) (fun ys=>(sD _).seq (Ez _)) (fun i hi ys k' hk=>?_) (fun i hi _ ys k' hk=>?_) ?_
   ·rw [Ql] at hi
    rw [iP ns i hi]
    exact ⟨⟨by decide,by decide,by decide⟩,_,rfl,hk⟩
   ·rw [Ql] at hi
    rw [iP ns i hi]
    exact hk
   ·refine ⟨by rw [aH Gx.symm,aA],wm D m 0,rfl,(show 3<=15 by decide),?_⟩
    refine k p D _ hp qb ⟨m,0,((List.range (ns.map V.int).length).filter fun i=>decide ((10:Int)^15<=ns.getD i 0)).map (fun i=>ns.getD i 0),aA,?_,⟨yu,Bv⟩,by decide,by decide⟩ ?_
    ·rw [aH Gx,aA,Qn];rfl
    ·intro b o hb
     rw [aH (aN hb hp),aH (aN hb qb),aH (aN hb hp)]
     exact hb
theorem uU (T:Txt K mg w):av P w K mg base 1 "is_name" ["thing"] IL:=by
 refine T.xR.fj tN (fun vs H Q E h=>?_) (fun f ak A outer s H vs Q E hr h=>?_)
 ·obtain ⟨p,w',x,rfl,_⟩:=h
  rfl
 ·obtain ⟨p,w',x,rfl,hg,k⟩:=h
  refine ⟨_,(aE (bP (eZ (cS (cE (aG bI (by rfl) T.aM PyProof.Rows.boot_isinstance (aD (zv 0) (aD (cP (v:=.ty "str") (by rfl) T.Au PyProof.Rows.boot_str rfl) aB))))) (eC (cS (vH pR pR aF (aG (aL K) (by rfl) T.cz PySem.boot_len (aD (zv 0) aB)) (lL T.xN))))).pt (aI (aT eR)) aU)
   (aI (aT (eG (bX (j8 K) (zv 0) (wE K T.vB) rfl) (gF (aG (cC K rfl) (by rfl) T.qa QX (aY (fV (own:=["sign"]) (idx:=[]) (N':=["sign"]) (d4 (au j6) (["thing"]:List Str) (by decide+kernel)) rfl (lQ K (zv 0)) (fun _ _ _ _ _ _=>(aS (i:=0) (show List.Nodup (["sign"]:List Str) by decide+kernel) rfl (Or.inl rfl))) (fun _ _ _ _ _ _=>dF) (fun _ _ _ _ _ _=>(bX (iO K) (zv 0) (lL T.xC) rfl))) aB))))))),?_⟩
  obtain ⟨t,ht,hts⟩:=O4 hg
  refine ⟨by decide,t,ht,_,rfl,?_⟩
  cases hs:u_ t "str" with
  | false=>
   refine bc ?_
   have:=k H (aa.refl H)
   rw [O5 (fun hz=>by rw [hts.mpr hz] at hs;cases hs)] at this
   exact this
  | true=>
   obtain ⟨z,rfl⟩:=hts.mp hs
   have hz:z.length<=100000:=hg
   have ia:z.length<=sizeLine:=by have:sizeLine=16777216:=QL;omega
   refine e_ ?_
   have fin:∀ b,isName z=b->Q (.bl b) H:=fun b e=>by have:=k H (aa.refl H);rw [<- e];exact this
   refine ⟨ia,_,rfl,?_⟩
   refine ye (fun h1=>?_) (fun h1=>?_)
   ·refine ⟨_,rfl,?_⟩
    have lh:1<=z.length:=by have:=Qt h1;omega
    refine wk (fun h2=>?_) (fun h2=>?_)
    rotate_left
    ·refine fin false ?_
     have nc:¬z.length<=8:=by have:=Qu h2;omega
     simp [isName,nc]
    ·have nc:z.length<=8:=by have:=Qt h2;omega
     intro a ha
     refine ⟨_,.inr ha,rfl,rfl,_,rfl,?_⟩
     have wo:mw (.str z) (nk.map V.str)=nk.any fun y=>y==z:=by
      show (nk.map V.str).any (fun y=>je y (.str z))=_
      rw [List.any_map];rfl
     refine ye (fun h3=>?_) (fun h3=>?_)
     ·intro D hD
      refine vP (OE z) (fun _=>true) (fun i=>.bl (nq (z.cps.getD i 0))) (Cg (by have:z.cps.size=z.length:=rfl;omega)) (fun _=>True.intro) (fun i hi ys k' hk=>hk) (fun i hi _ ys k' hk=>⟨_,rfl,by rw [QE];exact hk⟩) ?_
      refine ⟨(List.range z.cps.size).map fun i=>nq (z.cps.getD i 0),?_,?_⟩
      ·rw [Qn]
       have:((List.range z.cps.size).filter fun _=>true)=List.range z.cps.size:=by simp
       rw [this]
       exact ae.of aA
      ·rw [nP]
       have e:Cr (.str z)=z.cps.toList.all nq:=by
        have rg:(nk.any fun y=>y==z)=false:=by rw [<- wo];simpa using h3
        simp [Cr,isName,lh,nc,rg]
       rw [<- e]
       exact k _ (aa.upd hD _)
     ·refine fin false ?_
      have rg:(nk.any fun y=>y==z)=true:=by rw [<- wo];simpa using h3
      simp [isName,rg]
   ·refine ⟨_,rfl,bc (fin false ?_)⟩
    have lh:¬1<=z.length:=by have:¬(1:Int)<=z.length:=fun q=>h1 (Qv q);omega
    simp [isName,lh]
theorem gE (T:Txt K mg w):av P w K mg base 1 "is_name" ["thing"] (spT bw):=(uU T).imp fun _ _ _ _ h=>yP h
def t_:Dt->Bool | .tup [_,b]=>bw b | _=>false
def yw:Dt->Dt | .tup (d::_)=>d | _=>.bj
theorem mF (ds:List Dt):qu (.tup ds)=(ds.all t_&&((ds.map yw).all bw&&rising ((ds.map yw).map jn))):=by
 have e1:ds.all pairD=(ds.all t_&&(ds.map yw).all bw):=by
  rw [List.all_map]
  induction ds with
  | nil=>rfl
  | cons d ds ih=>
   have e:pairD d=(t_ d&&(bw∘yw) d):=by
    match d with
    | .str _=>rfl
    | .bj=>rfl
    | .tup []=>rfl
    | .tup [_]=>rfl
    | .tup [a,b]=>exact Bool.and_comm _ _
    | .tup (a::b::c::r)=>rfl
   rw [List.all_cons,List.all_cons,List.all_cons,ih,e]
   cases t_ d<;>cases (bw∘yw) d<;>cases ds.all t_<;>rfl
 have e2:(ds.map yw).map jn=ds.map nv:=by
  rw [Qn]
  refine List.map_congr_left fun d _=>?_
  match d with
  | .str _=>rfl
  | .bj=>rfl
  | .tup []=>rfl
  | .tup (.str z::_)=>rfl
  | .tup (.tup _::_)=>rfl
  | .tup (.bj::_)=>rfl
 show (ds.all pairD&&rising (ds.map nv))=_
 rw [e1,e2,Bool.and_assoc]
theorem xE {v:V} (h:DD H v d) (hp:t_ d=true):∃ b x y d1 d2,v=.ref b/\H b=some (.tup [x,y])/\d=.tup [d1,d2]/\DD H x d1:=by
 cases h with
 | @tup b ys es e' fi hn' gb=>
  match es,fi,hp,gb with
  | [d1,d2],fi,hp,gb=>
   match ys,fi,e',gb with
   | [y1,y2],fi,e',gb=>exact ⟨b,y1,y2,d1,d2,rfl,e',rfl,gb 0 (by simp) (by simp)⟩
 | str _=>exact Bool.noConfusion hp
 | af=>exact Bool.noConfusion hp
 | bl _=>exact Bool.noConfusion hp
 | int _=>exact Bool.noConfusion hp
 | lst _=>exact Bool.noConfusion hp
 | dct _=>exact Bool.noConfusion hp
def J6:Sp:=fun vs H Q _=>∃ (L:Addr) (xs:List V) (ds:List Dt),vs=[.ref L]/\H L=some (.lst xs)/\xs.length=ds.length/\xs.length<=1000/\(∀ i (h:i < xs.length) (h':i < ds.length),DD H xs[i] ds[i])/\∀ H',aa H H'->Q (.bl (ds.all bw&&rising (ds.map jn))) H'
theorem nI (T:Txt K mg w):av P w K mg base 2 "are_rising" ["words"] J6:=by
 have eI:av P w K mg base 1 "is_name" ["thing"] (spT bw):=gE T
 refine T.p9.fj nM (fun vs H Q E h=>?_) (fun f ak A outer s H vs Q E hr h=>?_)
 ·obtain ⟨L,xs,ds,rfl,_⟩:=h
  rfl
 ·refine hdn fun Gz9 zG9=>?_;obtain ⟨L,xs,ds,rfl,gL,hl,hn,b_,k⟩:=h;refine zG9 ?_
  have az:=Qx (cK hr)
  have hsz:sizeLine=16777216:=QL
  refine ⟨_,(aI (aT (eG (aG (cC K rfl) (by rfl) T.qa QX (aY (fV (own:=["word"]) (idx:=[]) (N':=["word"]) (d4 (au eB) (["words"]:List Str) (by decide+kernel)) rfl (lQ K (zv 0)) (fun _ _ _ _ _ _=>(aS (i:=0) (show List.Nodup (["word"]:List Str) by decide+kernel) rfl (Or.inl rfl))) (fun _ _ _ _ _ _=>dF) (fun _ _ _ _ _ _=>(bJ eI (hr.mono (by decide)) (aD (zv 0) aB)))) aB)) (gF (aG (cC K rfl) (by rfl) T.qa QX (aY (fV (own:=["ahead","behind"]) (idx:=[]) (N':=["ahead","behind"]) (d4 (au eB) (["words"]:List Str) (by decide+kernel)) rfl (Pg K (by rfl) T.Tg (aD (zv 0) (aJ (bZ (i5 K) (zv 0) (bU aF) cF) aB))) (fun _ _ _ _ _ _=>(k9 K (n:=2) rfl (cG (aS (i:=0) (show List.Nodup (["ahead","behind"]:List Str) by decide+kernel) rfl (Or.inl rfl)) (cG (aS (i:=1) (show List.Nodup (["ahead","behind"]:List Str) by decide+kernel) rfl (Or.inl rfl)) iC)))) (fun _ _ _ _ _ _=>dF) (fun _ _ _ _ _ _=>(bX iT (zv 0) (zv 1) (ay _)))) aB)))))),?_⟩
  refine Or.inl ⟨⟨xs,ae.of gL⟩,fun D hD=>?_⟩
  refine dJ (dH xs) (fun i=>bw (ds.getD i .bj)) (by omega) hD (fun H2 s2=>ae.of (s2 _ _ gL)) (fun i H2 k' hi s2 hk=>?_) (fun H2 s2 gj=>?_)
  ·refine ⟨_,ds.getD i .bj,rfl,?_,hk⟩
   have h3:=b_ i hi (by omega)
   have e1:xs.getD i .af=xs[i]:=by simp [Qb,hi]
   have e2:ds.getD i .bj=ds[i]'(by omega):=by rw [Qb,Qa (by omega)];rfl
   show DD H2 (xs.getD i .af) _
   rw [e1,e2]
   exact h3.same s2
  ·refine ⟨_,ae.of gj,_,rfl,?_⟩
   rw [hl,bT ds .bj bw]
   refine bq (fun h3=>?_) (fun h3=>?_)
   rotate_left
   ·have:=k H2 s2
    simp only [h3,Bool.false_and] at this
    exact this
   ·obtain ⟨ws,Tr,rfl⟩:∃ ws:List Str,ds.map jn=ws/\xs=ws.map V.str:=by
     refine ⟨_,rfl,?_⟩
     apply List.ext_getElem
     ·simp [hl]
     ·intro i h1 h2
      have h4:=QF.mp h3 _ (Qj (show i < ds.length by omega))
      obtain ⟨z,q1,q2,_⟩:=dS (b_ i h1 (by omega)) h4
      rw [q1];simp [q2,jn]
    have q1:=s2 _ _ gL
    refine ⟨1,rfl,Or.inr (Or.inl ⟨L,_,rfl,ae.of q1,fun p1 bz=>?_⟩)⟩
    have J7:L≠p1:=aN q1 bz
    refine ⟨L,p1,_,_,rfl,ae.of (by rw [aH J7];exact q1),ae.of aA,fun D3 w_=>?_⟩
    have ec:f_ (ws.map V.str) (some 1) none=(ws.drop 1).map V.str:=by
     have:=dL (ws.map V.str) 1
     rw [List.map_drop];exact this
    rw [ec] at w_ ⊢
    refine Pn (Ph (ws.map V.str) ((ws.drop 1).map V.str)) (fun i τ H4=>H4 D3=some (.lst (((List.range i).map fun i=>gv (ws.getD i "") (ws.getD (i+1) "")).map V.bl))/\aa (upd H2 p1 (.lst ((ws.drop 1).map V.str))) H4/\∃ v1 v2,τ=[v1,v2]) ⟨aA,aa.upd w_ _,none,none,rfl⟩
     (fun i τ H4 _ h=>⟨ae.of (h.2.1 _ _ (by rw [aH J7];exact q1)),ae.of (h.2.1 _ _ aA)⟩) ?_ ?_
    ·rintro i τ H4 T0 hi ⟨r1,r2,u1,u2,rfl⟩ yx
     simp only [Ql,List.length_drop] at hi
     have e6:(ws.map V.str).getD i .af=.str (ws.getD i ""):=cA ws i (by omega)
     have e7:((ws.drop 1).map V.str).getD i .af=.str (ws.getD (i+1) ""):=by
      rw [cA (ws.drop 1) i (by rw [List.length_drop];omega)]
      congr 1
      rw [Qb,Qb,List.getElem?_drop,Nat.add_comm]
     rw [e6,e7]
     refine wC ?_
     rw [if_pos rfl]
     simp only [Ql] at hn
     refine ⟨_,(aa.upd yx _) _ _ r1,by simp;omega,?_,((r2.trans (aa.upd yx _)).put w_),_,_,rfl⟩
     rw [aA,List.range_succ,Qm,Qm];rfl
    ·rintro τ H4 ⟨r1,r2,u1,u2,rfl⟩
     refine ⟨_,ae.of r1,?_⟩
     have Tt:aa H H4:=(s2.trans (aa.upd bz _)).trans r2
     have:=k H4 Tt
     simp only [h3,Bool.true_and] at this
     have er:((List.range (min (ws.map V.str).length ((ws.drop 1).map V.str).length)).map fun i=>gv (ws.getD i "") (ws.getD (i+1) "")).all id=rising ws:=by
      simp only [Ql,List.length_drop]
      exact iA ws
     rw [er,<- Tr]
     exact this
theorem u7 (T:Txt K mg w):av P w K mg base 2 "is_pair" ["thing"] (spT t_):=by
 have eI:av P w K mg base 1 "is_name" ["thing"] (spT bw):=gE T
 refine T.wR.fj u5 (fun vs H Q E h=>?_) (fun f ak A outer s H vs Q E hr h=>?_)
 ·obtain ⟨x,d,rfl,_⟩:=h
  rfl
 ·obtain ⟨x,d,rfl,hd,k⟩:=h
  have az:=Qx (cK hr)
  refine ⟨_,(aI (aT (eG (aG bI (by rfl) T.aM PyProof.Rows.boot_isinstance (aD (zv 0) (aD (cP (v:=.ty "tuple") (by rfl) T.bN QG rfl) aB))) (eG (bX (bA az) (aG (aL K) (by rfl) T.cz PySem.boot_len (aD (zv 0) aB)) aF (ay _)) (gF (bJ eI (hr.mono (by decide)) (aJ (bE (bF K) (zv 0) aF (fun _ _=>rfl)) aB))))))),?_⟩
  obtain ⟨t,ht,h1,h2⟩:=hd.ty
  refine ⟨by decide,t,ht,_,rfl,?_⟩
  rw [h1]
  have k0:=k H (aa.refl H)
  cases hd with
  | @tup a xs ds e hl hn b_=>
   refine bc ?_
   refine Or.inl ⟨xs,.inr (ai.of e),rfl,_,rfl,bq (fun h3=>?_) (fun h3=>?_)⟩
   ·rw [QE,aZ] at h3
    have Ax:xs.length=2:=by have:=Qt h3;omega
    obtain ⟨x1,x2,rfl⟩:∃ x1 x2,xs=[x1,x2]:=by
     match xs,Ax with
     | [x1,x2],_=>exact ⟨x1,x2,rfl⟩
    obtain ⟨d1,d2,rfl⟩:∃ d1 d2,ds=[d1,d2]:=by
     match ds,hl with
     | [d1,d2],_=>exact ⟨d1,d2,rfl⟩
    refine ⟨_,x2,.inr (ai.of e),rfl,x2,d2,rfl,b_ 1 (by simp) (by simp),fun H2 s2=>?_⟩
    exact k H2 s2
   ·rw [QE,aZ] at h3
    have Ax:xs.length≠2:=by have:=Qu h3;omega
    have e1:t_ (.tup ds)=false:=by
     match ds,hl with
     | [],_=>rfl
     | [_],_=>rfl
     | [_,_],hl=>exact absurd hl Ax
     | _::_::_::_,_=>rfl
    rw [e1] at k0
    exact k0
  | _=>exact e_ k0
theorem qM (T:Txt K mg w):av P w K mg base 3 "is_pairs" ["thing"] (spT qu):=by
 have wO:av P w K mg base 2 "is_pair" ["thing"] (spT t_):=u7 T
 have qG:av P w K mg base 2 "are_rising" ["words"] J6:=nI T
 refine T.uY.fj sP (fun vs H Q E h=>?_) (fun f ak A outer s H vs Q E hr h=>?_)
 ·obtain ⟨x,d,rfl,_⟩:=h
  rfl
 ·obtain ⟨x,d,rfl,hd,k⟩:=h
  have az:=Qx (cK hr)
  have hsz:sizeLine=16777216:=QL
  refine ⟨_,(aE (bP (eZ (cS (cE (aG bI (by rfl) T.aM PyProof.Rows.boot_isinstance (aD (zv 0) (aD (cP (v:=.ty "tuple") (by rfl) T.bN QG rfl) aB))))) (eC (cS (cE (aG (cC K rfl) (by rfl) T.qa QX (aY (fV (own:=["pair"]) (idx:=[]) (N':=["pair"]) (d4 (au fM) (["thing"]:List Str) (by decide+kernel)) rfl (lQ K (zv 0)) (fun _ _ _ _ _ _=>(aS (i:=0) (show List.Nodup (["pair"]:List Str) by decide+kernel) rfl (Or.inl rfl))) (fun _ _ _ _ _ _=>dF) (fun _ _ _ _ _ _=>(bJ wO (hr.mono (by decide)) (aD (zv 0) aB)))) aB)))))).pt (aI (aT eR)) aU)
   (aI (aT (bJ qG (hr.mono (by decide)) (aY (fV (own:=["word","x"]) (idx:=[]) (N':=["word","x"]) (d4 (au fM) (["thing"]:List Str) (by decide+kernel)) rfl (lQ K (zv 0)) (fun _ _ _ _ _ _=>(k9 K (n:=2) rfl (cG (aS (i:=0) (show List.Nodup (["word","x"]:List Str) by decide+kernel) rfl (Or.inl rfl)) (cG (aS (i:=1) (show List.Nodup (["word","x"]:List Str) by decide+kernel) rfl (Or.inl rfl)) iC)))) (fun _ _ _ _ _ _=>dF) (fun _ _ _ _ _ _=>(zv 0))) aB))))),?_⟩
  obtain ⟨t,ht,h1,h2⟩:=hd.ty
  refine ⟨by decide,t,ht,_,rfl,?_⟩
  rw [h1]
  have k0:=k H (aa.refl H)
  cases hd with
  | @tup a xs ds e hl hn b_=>
   refine e_ ?_
   refine Or.inr ⟨⟨xs,ai.of e⟩,fun D hD=>?_⟩
   refine dJ (cU xs) (fun i=>t_ (ds.getD i .bj)) (by omega) hD (fun H2 s2=>ai.of (s2 _ _ e)) (fun i H2 k' hi s2 hk=>?_) (fun H2 s2 gj=>?_)
   ·refine ⟨_,ds.getD i .bj,rfl,?_,hk⟩
    have h3:=b_ i hi (by omega)
    have e1:xs.getD i .af=xs[i]:=by simp [Qb,hi]
    have e2:ds.getD i .bj=ds[i]'(by omega):=by rw [Qb,Qa (by omega)];rfl
    show DD H2 (xs.getD i .af) _
    rw [e1,e2]
    exact h3.same s2
   ·refine ⟨_,ae.of gj,_,rfl,?_⟩
    rw [hl,bT ds .bj t_]
    refine wk (fun h3=>?_) (fun h3=>?_)
    rotate_left
    ·have:=k H2 s2
     rw [mF,h3,Bool.false_and] at this
     exact this
    ·have Tu:∀ i (h:i < xs.length),∃ b x y d1 d2,xs[i]=.ref b/\H b=some (.tup [x,y])/\ds[i]? =some (.tup [d1,d2])/\DD H x d1:=fun i hi=>by
      have h4:=QF.mp h3 _ (Qj (show i < ds.length by omega))
      have h5:=b_ i hi (by omega)
      refine hdn fun Gz9 zG9=>?_;obtain ⟨b,x,y,d1,d2,e1,e2,e3,e4⟩:=xE h5 h4;refine zG9 ?_
      exact ⟨b,x,y,d1,d2,e1,e2,by rw [Qa (by omega),e3],e4⟩
     have e2:=s2 _ _ e
     refine Or.inr ⟨⟨xs,ai.of e2⟩,fun D2 ii=>?_⟩
     refine gO (cU xs) (fun i τ H3=>(∃ us:List V,H3 D2=some (.lst us)/\us.length=i/\∀ j (h:j < us.length) (h':j < ds.length),DD H us[j] (yw ds[j]))/\aa H2 H3/\∃ v1 v2,τ=[v1,v2]) ⟨⟨[],aA,rfl,fun j h=>nomatch h⟩,aa.upd ii _,none,none,rfl⟩ (fun i τ H3 _ h=>ai.of (h.2.1 _ _ e2)) ?_ ?_
     ·rintro i τ H3 hi z0;refine hdn fun Gz9 zG9=>?_;obtain ⟨⟨us,q1,J8,Gy⟩,q2,v1,v2,rfl⟩:=z0;refine zG9 ?_
      refine hdn fun Gz9 zG9=>?_;obtain ⟨b,x,y,d1,d2,e3,e4,e5,e6⟩:=Tu i hi;refine zG9 ?_
      have e1:xs.getD i .af=.ref b:=by rw [Qb,Qa hi,e3];rfl
      rw [e1]
      refine oG (q2 _ _ (s2 _ _ e4)) ?_
      refine ⟨_,q1,by omega,⟨us++[x],aA,by simp;omega,fun j hj As=>?_⟩,(q2.put ii),_,_,rfl⟩
      by_cases J9:j < us.length
      ·rw [Qe J9];exact Gy j J9 As
      ·have ej:j=i:=by simp at hj;omega
       subst ej
       have e7:ds[j]=.tup [d1,d2]:=by rw [Qa As] at e5;exact QD e5
       rw [Qf (by omega),e7]
       simp only [J8,Nat.sub_self,List.getElem_cons_zero]
       exact e6
     ·rintro τ H3 z0;refine hdn fun Gz9 zG9=>?_;obtain ⟨⟨us,q1,J8,Gy⟩,q2,v1,v2,rfl⟩:=z0;refine zG9 ?_
      refine ⟨D2,us,ds.map yw,rfl,q1,by simp;omega,by omega,fun j hj As=>?_,fun H4 s4=>?_⟩
      ·rw [Qr]
       exact (Gy j hj (by simpa using As)).same (s2.trans q2)
      ·have:=k H4 ((s2.trans q2).trans s4)
       rw [mF,h3,Bool.true_and] at this
       exact this
  | _=>exact bc k0
theorem u8 (T:Txt K mg w):av P w K mg base 4 "is_head" ["thing"] (spT headD):=by
 have eI:av P w K mg base 1 "is_name" ["thing"] (spT bw):=gE T
 have uM:av P w K mg base 3 "is_pairs" ["thing"] (spT qu):=qM T
 refine T.yB.fj jS (fun vs H Q E h=>?_) (fun f ak A outer s H vs Q E hr h=>?_)
 ·obtain ⟨x,d,rfl,_⟩:=h
  rfl
 ·obtain ⟨x,d,rfl,hd,k⟩:=h
  have az:=Qx (cK hr)
  have hsz:sizeLine=16777216:=QL
  refine ⟨_,(aE (bP (eZ (cS (cE (aG bI (by rfl) T.aM PyProof.Rows.boot_isinstance (aD (zv 0) (aD (cP (v:=.ty "tuple") (by rfl) T.bN QG rfl) aB))))) (eC (aP (bA az) (aG (aL K) (by rfl) T.cz PySem.boot_len (aD (zv 0) aB)) aF (ay _)))).pt (aI (aT eR)) aU)
   (aE (vR (zv 0) (Px K rfl (aS (i:=1) jS.nd rfl (Or.inl rfl)) (aS (i:=2) jS.nd rfl (Or.inl rfl))))
   (aE (bP (cS (cE (aG bI (by rfl) T.aM PyProof.Rows.boot_isinstance (aD (zv 1) (aD (cP (v:=.ty "str") (by rfl) T.Au PyProof.Rows.boot_str rfl) aB))))) (aI (aT eR)) aU)
   (aE (bP (aP (iO K) (zv 1) (wE K T.nC) rfl) (aI (aT (eG (bX (bA az) (aG (aL K) (by rfl) T.cz PySem.boot_len (aD (zv 2) aB)) aF (ay _)) (gF (bJ uM (hr.mono (by decide)) (aJ (bE (bF K) (zv 2) aF (fun _ _=>rfl)) aB)))))) aU)
   (aE (bP (Pz T.iV (zv 1)) (aI (aT (eG (bX (bA az) (aG (aL K) (by rfl) T.cz PySem.boot_len (aD (zv 2) aB)) (PJ T.iV (zv 1) (fun _ _=>rfl)) (ay _)) (gF (aG (cC K rfl) (by rfl) T.qa QX (aY (fV (own:=["x"]) (idx:=[]) (N':=["x"]) (d4 (au jD) (["thing","sort","rest"]:List Str) (by decide+kernel)) rfl (lQ K (zv 2)) (fun _ _ _ _ _ _=>(aS (i:=0) (show List.Nodup (["x"]:List Str) by decide+kernel) rfl (Or.inl rfl))) (fun _ _ _ _ _ _=>dF) (fun _ _ _ _ _ _=>(bJ eI (hr.mono (by decide)) (aD (zv 0) aB)))) aB)))))) aU)
   (aI (aT eR))))))),?_⟩
  obtain ⟨t,ht,h1,h2⟩:=hd.ty
  refine ⟨by decide,t,ht,_,rfl,?_⟩
  rw [h1]
  have k0:=k H (aa.refl H)
  cases hd with
  | @tup a xs ds e hl hn b_=>
   refine e_ ?_
   refine Or.inl ⟨xs,.inr (ai.of e),rfl,_,rfl,bq (fun h3=>?_) (fun h3=>?_)⟩
   ·rw [QE,aZ] at h3
    have hx:ds=[]:=by have:=Qt h3;exact List.length_eq_zero_iff.mp (by omega)
    subst hx
    exact k0
   ·rw [QE,aZ] at h3
    have hx:xs.length≠0:=by have:=Qu h3;omega
    obtain ⟨x0,xr,rfl⟩:∃ x0 xr,xs=x0::xr:=by
     match xs,hx with
     | x0::xr,_=>exact ⟨x0,xr,rfl⟩
    obtain ⟨d0,dr,rfl⟩:∃ d0 dr,ds=d0::dr:=by
     match ds,hl with
     | d0::dr,_=>exact ⟨d0,dr,rfl⟩
    have fi:xr.length=dr.length:=by simpa using hl
    have hn':xr.length < 1000:=by simp at hn;omega
    have hd0:DD H x0 d0:=b_ 0 (by simp) (by simp)
    have CT:∀ i (h:i < xr.length) (h':i < dr.length),DD H xr[i] dr[i]:=fun i h h'=>b_ (i+1) (by simpa using h) (by simpa using h')
    refine bV ?_
    refine ⟨a,x0,xr,rfl,ai.of e,fun R hR=>?_⟩
    have s1:=aa.upd hR (.lst xr)
    have Bx:upd H R (.lst xr) R=some (.lst xr):=aA
    generalize upd H R (.lst xr)=H1 at s1 Bx
    have k1:=k H1 s1
    obtain ⟨t0,Ey,_,Gz⟩:=(hd0.same s1).ty
    refine ⟨by decide,t0,Ey,_,rfl,?_⟩
    rw [Gz]
    cases hd0 with
    | @str z hz=>
     refine e_ ?_
     refine bV ?_
     intro aW hW
     refine ⟨_,.inr hW,rfl,rfl,_,rfl,?_⟩
     rw [QE,jC]
     refine bq (fun h4=>?_) (fun h4=>?_)
     ·refine Or.inl ⟨xr,.inl (ae.of Bx),rfl,_,rfl,bq (fun h5=>?_) (fun h5=>?_)⟩
      ·rw [QE,aZ] at h5
       have rf:xr.length=1:=by have:=Qt h5;omega
       obtain ⟨x1,rfl⟩:∃ x1,xr=[x1]:=by
        match xr,rf with
        | [x1],_=>exact ⟨x1,rfl⟩
       obtain ⟨d1,rfl⟩:∃ d1,dr=[d1]:=by
        match dr,fi with
        | [d1],_=>exact ⟨d1,rfl⟩
       refine ⟨_,x1,.inl (ae.of Bx),rfl,x1,d1,rfl,(CT 0 (by simp) (by simp)).same s1,fun H2 s2=>?_⟩
       have:=k H2 (s1.trans s2)
       rw [cN,if_pos h4] at this
       exact this
      ·rw [QE,aZ] at h5
       have rf:dr.length≠1:=by have:=Qu h5;omega
       rw [cN,if_pos h4] at k1
       match dr,rf,k1 with
       | [],_,k1=>exact k1
       | [_],rf,_=>exact absurd rfl rf
       | _::_::_,_,k1=>exact k1
     ·refine bV ?_
      refine ⟨.inr z,rfl,_,rfl,?_⟩
      rw [lD]
      rw [cN,if_neg (by rw [h4];exact Bool.false_ne_true)] at k1 k
      cases hb:oh z with
      | none=>
       rw [hb] at k1
       exact e_ k1
      | some n=>
       rw [hb] at k1 k
       refine bc ?_
       refine Or.inl ⟨xr,.inl (ae.of Bx),.inr z,.int n,rfl,by rw [lD,hb];rfl,rfl,_,rfl,bq (fun h5=>?_) (fun h5=>?_)⟩
       ·rw [QE,aZ] at h5
        have rf:dr.length=n:=by have:=Qt h5;omega
        refine Or.inl ⟨⟨xr,ae.of Bx⟩,fun D hD=>?_⟩
        refine dJ (dH xr) (fun i=>bw (dr.getD i .bj)) (by omega) hD (fun H2 s2=>ae.of (s2 _ _ Bx)) (fun i H2 k' hi s2 hk=>?_) (fun H2 s2 gj=>?_)
        ·refine ⟨_,dr.getD i .bj,rfl,?_,hk⟩
         have h6:=CT i hi (by omega)
         have e1:xr.getD i .af=xr[i]:=by simp [Qb,hi]
         have e2:dr.getD i .bj=dr[i]'(by omega):=by rw [Qb,Qa (by omega)];rfl
         show DD H2 (xr.getD i .af) _
         rw [e1,e2]
         exact (h6.same s1).same s2
        ·refine ⟨_,ae.of gj,?_⟩
         rw [fi,bT dr .bj bw]
         have:=k H2 (s1.trans s2)
         simp only [rf,decide_true,Bool.true_and] at this
         exact this
       ·rw [QE,aZ] at h5
        have rf:¬dr.length=n:=by have:=Qu h5;omega
        simp only [rf,decide_false,Bool.false_and] at k1
        exact k1
    | tup _ _ _ _=>exact bc k1
    | af=>exact bc k1
    | bl _=>exact bc k1
    | int _=>exact bc k1
    | lst _=>exact bc k1
    | dct _=>exact bc k1
  | str _=>exact bc k0
  | af=>exact bc k0
  | bl _=>exact bc k0
  | int _=>exact bc k0
  | lst _=>exact bc k0
  | dct _=>exact bc k0
theorem oC (T:Txt K mg w):av P w K mg base 5 "is_row" ["thing"] (spT jg):=by
 have eI:av P w K mg base 1 "is_name" ["thing"] (spT bw):=gE T
 have xZ:av P w K mg base 4 "is_head" ["thing"] (spT headD):=u8 T
 refine T.z6.fj xD (fun vs H Q E h=>?_) (fun f ak A outer s H vs Q E hr h=>?_)
 ·obtain ⟨x,d,rfl,_⟩:=h
  rfl
 ·obtain ⟨x,d,rfl,hd,k⟩:=h
  have az:=Qx (cK hr)
  refine ⟨_,(aI (aT (eG (aG bI (by rfl) T.aM PyProof.Rows.boot_isinstance (aD (zv 0) (aD (cP (v:=.ty "tuple") (by rfl) T.bN QG rfl) aB))) (eG (bX (bA az) (aG (aL K) (by rfl) T.cz PySem.boot_len (aD (zv 0) aB)) aF (ay _)) (eG (bJ eI (hr.mono (by decide)) (aJ (bE (bF K) (zv 0) aF (fun _ _=>rfl)) aB)) (gF (bJ xZ (hr.mono (by decide)) (aJ (bE (bF K) (zv 0) aF (fun _ _=>rfl)) aB)))))))),?_⟩
  obtain ⟨t,ht,h1,h2⟩:=hd.ty
  refine ⟨by decide,t,ht,_,rfl,?_⟩
  rw [h1]
  have k0:=k H (aa.refl H)
  cases hd with
  | @tup a xs ds e hl hn b_=>
   refine bc ?_
   refine Or.inl ⟨xs,.inr (ai.of e),rfl,_,rfl,bq (fun h3=>?_) (fun h3=>?_)⟩
   ·rw [QE,aZ] at h3
    have Ax:xs.length=2:=by have:=Qt h3;omega
    obtain ⟨x1,x2,rfl⟩:∃ x1 x2,xs=[x1,x2]:=by
     match xs,Ax with
     | [x1,x2],_=>exact ⟨x1,x2,rfl⟩
    obtain ⟨d1,d2,rfl⟩:∃ d1 d2,ds=[d1,d2]:=by
     match ds,hl with
     | [d1,d2],_=>exact ⟨d1,d2,rfl⟩
    refine ⟨_,x1,.inr (ai.of e),rfl,x1,d1,rfl,b_ 0 (by simp) (by simp),fun H1 s1=>⟨_,rfl,bq (fun h4=>?_) (fun h4=>?_)⟩⟩
    ·refine ⟨_,x2,.inr (ai.of (s1 _ _ e)),rfl,x2,d2,rfl,(b_ 1 (by simp) (by simp)).same s1,fun H2 s2=>?_⟩
     have:=k H2 (s1.trans s2)
     simp only [jg,h4,Bool.true_and] at this
     exact this
    ·have:=k H1 s1
     simp only [jg,h4,Bool.false_and] at this
     exact this
   ·rw [QE,aZ] at h3
    have Ax:xs.length≠2:=by have:=Qu h3;omega
    have e1:jg (.tup ds)=false:=by
     match ds,hl with
     | [],_=>rfl
     | [_],_=>rfl
     | [_,_],hl=>exact absurd hl Ax
     | _::_::_::_,_=>rfl
    rw [e1] at k0
    exact k0
  | _=>exact e_ k0
def J_:Sp:=fun vs H Q _=>∃ (x:V) (d:Dt),vs=[x]/\DD H x d/\headD d=true/\∀ L H',H L=none->H' L=some (.lst ((dm d).map V.str))->aa H H'->Q (.ref L) H'
theorem rG (T:Txt K mg w):av P w K mg base 1 "names_in" ["head"] J_:=by
 refine T.uR.fj rD (fun vs H Q E h=>?_) (fun f ak A outer s H vs Q E hr h=>?_)
 ·obtain ⟨x,d,rfl,_⟩:=h
  rfl
 ·obtain ⟨x,d,rfl,hd,hh,k⟩:=h
  have hsz:sizeLine=16777216:=QL
  refine ⟨_,(aE (bP (aP (iO K) (bE (bF K) (zv 0) aF (fun _ _=>rfl)) (wE K T.nC) rfl) (aI (aT (fV (own:=["word","x"]) (idx:=[]) (N':=["word","x"]) (d4 (au gZ) (["head"]:List Str) (by decide+kernel)) rfl (lQ K (bE (bF K) (zv 0) aF (fun _ _=>rfl))) (fun _ _ _ _ _ _=>(k9 K (n:=2) rfl (cG (aS (i:=0) (show List.Nodup (["word","x"]:List Str) by decide+kernel) rfl (Or.inl rfl)) (cG (aS (i:=1) (show List.Nodup (["word","x"]:List Str) by decide+kernel) rfl (Or.inl rfl)) iC)))) (fun _ _ _ _ _ _=>dF) (fun _ _ _ _ _ _=>(zv 1))))) aU)
   (aI (aT (cJ (yE K) (by rfl) T.Td PyProof.Rows.boot_list (aJ (bZ (i5 K) (zv 0) (bU aF) cF) aB))))),?_⟩
  obtain ⟨a,z,xs,ds,rfl,rfl,e,hl,hn,b_,hc⟩:=k7 hd hh
  refine ⟨_,.str z,.inr (ai.of e),aR _ _,?_⟩
  intro aW hW
  refine ⟨_,.inr hW,rfl,rfl,_,rfl,?_⟩
  rw [QE,jC]
  rcases hc with ⟨hw,p,rfl,hp⟩ | ⟨hw,n,hb,yl,Aj⟩
  ·rw [hw]
   refine bc ?_
   match xs,hl,e,b_ with
   | [x1],_,e,b_=>
    have h1:=b_ 0 (by simp) (by simp)
    simp only [List.getElem_cons_zero] at h1
    refine ⟨_,x1,.inr (ai.of e),rfl,?_⟩
    cases h1 with
    | @tup b ys es e' fi hn' gb=>
     simp only [qu,Bool.and_eq_true] at hp
     refine Or.inr ⟨⟨ys,ai.of e'⟩,fun D hD=>?_⟩
     refine gO (cU ys) (fun i τ H3=>H3 D=some (.lst (((es.take i).map qt).map V.str))/\aa H H3/\∃ v1 v2,τ=[v1,v2]) ⟨aA,aa.upd hD _,none,none,rfl⟩ (fun i τ H3 _ h=>ai.of (h.2.1 _ _ e')) ?_ ?_
     ·rintro i τ H3 hi ⟨q1,q2,v1,v2,rfl⟩
      have h4:=QF.mp hp.1 _ (Qj (show i < es.length by omega))
      obtain ⟨c,z',n',e1,e2,e3⟩:=P1 (gb i hi (by omega)) h4
      have eg:ys.getD i .af=.ref c:=by rw [Qb,Qa hi,e1];rfl
      rw [eg]
      refine oG (q2 _ _ e2) ?_
      refine ⟨_,q1,by simp;omega,?_,(q2.put hD),_,_,rfl⟩
      rw [aA,Qs,Qa (by omega),e3]
      simp [qt]
     ·rintro τ H3 ⟨q1,q2,v1,v2,rfl⟩
      rw [fi,Qo] at q1
      refine k D H3 hD ?_ q2
      rw [q1]
      show _=some (HO.lst ((if dj z then es.map qt else _).map V.str))
      rw [if_pos hw]
    | _=>exact Bool.noConfusion hp
  ·rw [hw]
   refine e_ ?_
   refine ⟨1,rfl,Or.inr (Or.inr ⟨a,_,rfl,ai.of e,?_,fun p1 bz=>⟨p1,_,rfl,.inr (ai.of aA),fun L hL=>?_⟩⟩)⟩
   ·intro ⟨h1,_⟩
    have:HT.bf (V.str z::xs).length 0 (some ((1:Nat):Int))=0:=h1
    rw [HT.gX] at this
    simp at this
   ·have s1:=(aa.upd bz (.tup (f_ (V.str z::xs) (some 1) none))).trans (aa.upd hL (.lst (f_ (V.str z::xs) (some 1) none)))
    refine k L _ ((aa.upd bz _).free hL) ?_ s1
    rw [aA]
    have ec:f_ (V.str z::xs) (some 1) none=xs:=by
     have:=dL (V.str z::xs) 1
     exact this
    rw [ec]
    show _=some (HO.lst ((if dj z then _ else ds.map strOf).map V.str))
    rw [if_neg (by rw [hw];exact Bool.false_ne_true)]
    congr 2
    refine List.ext_getElem (by simp [hl]) fun i h1 h2=>?_
    have hi:i < ds.length:=by omega
    obtain ⟨y,q1,q2,_⟩:=dS (b_ i h1 hi) (QF.mp Aj _ (Qj hi))
    rw [q1]
    simp [q2,strOf]
def J':Sp:=fun vs H Q _=>∃ (h:Addr) (x:V) (d:Dt) (kvs:List (Key×V)),vs=[.ref h,x]/\Rd H h (.dK kvs)/\DD H x d/\headD d=true/\(dm d).length<=1000/\∀ H',aa H H'->Q (.bl ((dm d).all fun n=>(bu kvs (.inr n)).isSome)) H'
theorem rT (T:Txt K mg w):av P w K mg base 2 "has_rows" ["heads","head"] J':=by
 have u6:av P w K mg base 1 "names_in" ["head"] J_:=rG T
 refine T.tR.fj qO (fun vs H Q E h=>?_) (fun f ak A outer s H vs Q E hr h=>?_)
 ·obtain ⟨h,x,d,kvs,rfl,_⟩:=h
  rfl
 ·refine hdn fun Gz9 zG9=>?_;obtain ⟨hh,x,d,kvs,rfl,hrd,hd,By,Tw,k⟩:=h;refine zG9 ?_
  have hu:=cK hr
  have hsz:sizeLine=16777216:=QL
  refine ⟨_,(aI (aT (aG (cC K rfl) (by rfl) T.qa QX (aY (fV (own:=["x"]) (idx:=[0]) (N':=["x","heads"]) (d4 (au i4) (["heads","head"]:List Str) (by decide+kernel)) rfl (lQ K (bJ u6 (hr.mono (by decide)) (aD (zv 1) aB))) (fun _ _ _ _ _ _=>(aS (i:=0) (show List.Nodup (["x","heads"]:List Str) by decide+kernel) rfl (Or.inl rfl))) (fun _ _ _ _ _ _=>dF) (fun _ _ _ _ _ _=>(bX (PV hu) (zv 0) (zv 1) rfl))) aB)))),?_⟩
  refine ⟨x,d,rfl,hd,By,fun L H1 ua hL s1=>Or.inl ⟨⟨_,ae.of hL⟩,fun D hD=>?_⟩⟩
  refine dJ (dH ((dm d).map V.str)) (fun i=>(bu kvs (.inr ((dm d).getD i ""))).isSome) (by rw [Ql];omega) hD (fun H2 s2=>ae.of (s2 _ _ hL)) (fun i H2 k' hi s2 hk=>?_) (fun H2 s2 gj=>?_)
  ·rw [Ql] at hi
   rw [cA (dm d) i hi]
   refine ⟨hh,_,rfl,ik.rd (k:=Sum.inr ((dm d).getD i "")) ((hrd.same s1).same s2),?_⟩
   rw [QE]
   exact hk H2 (aa.refl _)
  ·refine ⟨_,ae.of gj,?_⟩
   rw [Ql,bT (dm d) "" (fun n=>(bu kvs (.inr n)).isSome)]
   exact k H2 (s1.trans s2)
def Ka:Sp:=fun vs H Q _=>∃ (h:Addr) (x:Str) (kvs:List (Key×V)) (nx:Str->Option Str),vs=[.ref h,.str x]/\Rd H h (.dK kvs)/\kvs.length<=1000/\(∀ n v,bu kvs (.inr n)=some v->Cw H v (nx n))/\(∀ n y,(bu kvs (.inr n)).isSome=true->nx n=some y->(bu kvs (.inr y)).isSome=true)/\(bu kvs (.inr x)).isSome=true/\
 Q (.bl (jb nx kvs.length x)) H
theorem qH (T:Txt K mg w):av P w K mg base 1 "leads_out" ["heads","name"] Ka:=by
 refine T.qZ.fj i9 (fun vs H Q E h=>?_) (fun f ak A outer s H vs Q E hr h=>?_)
 ·obtain ⟨h,x,kvs,nx,rfl,_⟩:=h
  rfl
 ·refine hdn fun Gz9 zG9=>?_;obtain ⟨h,x,kvs,nx,rfl,hrd,Tw,has,wo,hx,k⟩:=h;refine zG9 ?_
  have hu:=cK hr
  have az:=Qx (cK hr)
  refine ⟨_,(aE (fN PassesOwn.never rfl (e8 (by rfl) T.eL (aV (aG (aL K) (by rfl) T.cz PySem.boot_len (aD (zv 0) aB)) aB)) (aS (i:=2) i9.nd rfl (Or.inl rfl)) (aE (bP (aP (iY az) (bE (bF K) (d9 hu (zv 0) (zv 1) (fun _ _=>rfl)) aF (fun _ _=>rfl)) aK (ay _)) (aI (aT eR)) aU)
   (aI (aX (i:=1) i9.nd rfl (Or.inl rfl) (bE (bF K) (d9 hu (zv 0) (zv 1) (fun _ _=>rfl)) aF (fun _ _=>rfl))))))
   (aI (aT eR))),?_⟩
  refine bB (fun σ' H'=>H'=H/\jb nx kvs.length x=false) ?_ (by rintro σ' H' ⟨e1,e2⟩;(subst e1;rw [e2] at k;exact k))
  intro vo bg
  refine .inr ⟨kvs,hrd,kvs.length,rfl,by omega,by omega,dW (dE 0 (kvs.length:Int).toNat) (fun i σ' H'=>H'=H/\∃ y v2,σ'=[some (.ref h),some (.str y),v2]/\(bu kvs (.inr y)).isSome=true/\jb nx (kvs.length - i) y=jb nx kvs.length x) ⟨rfl,x,none,rfl,hx,rfl⟩ (fun _ _ _ _ _=>True.intro) ?_ ?_⟩
  ·rintro i σ' H' hi ⟨rfl,y,v2,rfl,hy,hlo⟩
   have lj:i < kvs.length:=by omega
   obtain ⟨v,hv⟩:=Option.isSome_iff_exists.mp hy
   have vp:ik H' h (.str y) (some v):=by rw [<- hv];exact ik.rd (k:=Sum.inr y) hrd
   obtain ⟨b,rfl,hb⟩:=has y v hv
   rw [show kvs.length - i=(kvs.length - (i+1))+1 by omega,jb] at hlo
   rcases hb with ⟨z,ys,h1,h2,h3⟩ | ⟨z,h1,h3⟩
   ·refine ⟨h,_,rfl,vp,_,.str z,.inr (ai.of h1),aR _ _,rfl,_,rfl,?_⟩
    rw [Qw (fun e=>h2 (V.str.inj e))]
    refine bc ?_
    rw [h3] at hlo
    rw [<- hlo] at k
    exact k
   ·refine ⟨h,_,rfl,vp,_,.str "as",.inr (ai.of h1),aR _ _,rfl,_,rfl,?_⟩
    refine e_ ?_
    rw [h3] at hlo
    exact ⟨h,_,rfl,vp,_,.str z,.inr (ai.of h1),rfl,rfl,z,_,rfl,wo y z hy h3,hlo⟩
  ·rintro σ' H' ⟨rfl,y,v2,rfl,hy,hlo⟩
   refine bg _ _ ⟨rfl,?_⟩
   rw [<- hlo,Int.toNat_natCast,Nat.sub_self];rfl
theorem Kc {rs:List (Str×V)} (i:Nat) (h:i < (aq rs).length) (h':i < rs.length):(aq rs)[i]=(Sum.inr rs[i].1,rs[i].2):=by simp [aq]
def Tz (H:Hp) (a:Addr) (xs:List V) (rs:List (Str×V)):Prop:=H a=some (.tup xs)/\h_ H xs (aq rs)/\rs.length<=1000
def Kd:Sp:=fun vs H Q _=>∃ (a:Addr) (xs:List V) (rs:List (Str×V)),vs=[.ref a]/\Tz H a xs rs/\∀ d,H d=none->Q (.ref d) (upd H d (.dK (dictOf (aq rs))))
theorem t9 (T:Txt K mg w):av P w K mg base 1 "heads_of" ["T"] Kd:=by
 refine T.uV.fj qR (fun vs H Q E h=>?_) (fun f ak A outer s H vs Q E hr h=>?_)
 ·obtain ⟨a,xs,rs,rfl,_⟩:=h
  rfl
 ·refine hdn fun Gz9 zG9=>?_;obtain ⟨a,xs,rs,rfl,⟨hx,hp,fq⟩,k⟩:=h;refine zG9 ?_
  refine ⟨_,(aI (aT (OW (own:=["name","head"]) (idx:=[]) (N':=["name","head"]) (d4 (au iB) (["T"]:List Str) (by decide+kernel)) rfl (lQ K (zv 0)) (fun _ _ _ _ _ _=>(k9 K (n:=2) rfl (cG (aS (i:=0) (show List.Nodup (["name","head"]:List Str) by decide+kernel) rfl (Or.inl rfl)) (cG (aS (i:=1) (show List.Nodup (["name","head"]:List Str) by decide+kernel) rfl (Or.inl rfl)) iC)))) (fun _ _ _ _ _ _=>dF) (fun _ _ _ _ _ _=>(zv 0)) (fun _ _ _ _ _ _=>(zv 1))))),?_⟩
  refine Or.inr ⟨⟨xs,ai.of hx⟩,fun D hD=>?_⟩
  have J:=cU (K:=K) (a:=a) xs
  have hsz:sizeLine=16777216:=QL
  have ji:xs.length=rs.length:=by have:=hp.1;simpa using this
  have sD:∀ o,aa H (upd H D o):=fun o=>aa.upd hD o
  refine ⟨fun i m τ H'=>m=xs.length - i/\i<=xs.length/\(∃ v1 v2,τ=[v1,v2])/\H'=upd H D (.dK (dictOf ((aq rs).take i))),⟨_,rfl,Nat.zero_le _,⟨none,none,rfl⟩,rfl⟩,?_⟩
  rintro i m τ H' ⟨rfl,hi,⟨v1,v2,rfl⟩,rfl⟩
  obtain ⟨k1,k2⟩:=J _ (show ai K (upd H D _) a xs from ai.of (sD _ _ _ hx))
  by_cases bh:i < xs.length
  ·have uc:i < rs.length:=by omega
   have EA:i < (aq rs).length:=by simpa using uc
   refine .inr ⟨(k1 i bh).1,fun τ' H'=>(∃ v1 v2,τ'=[v1,v2])/\H'=upd H D (.dK (dictOf ((aq rs).take (i+1)))),fun τ' H' ⟨h1,h2⟩=>⟨xs.length - (i+1),by omega,rfl,bh,h1,h2⟩,fun x H' y=>?_⟩
   obtain ⟨e,e2⟩:=(k1 i bh).2 x H' y
   subst e e2
   obtain ⟨b,FO,yk⟩:=hp.2 i EA
   rw [Kc i EA uc] at yk
   have eb:xs.getD i .af=.ref b:=by rw [Qb,FO];rfl
   show BU K 2 _ (xs.getD i .af) _ _ _
   rw [eb]
   refine ⟨b,_,rfl,ai.of (sD _ _ _ yk),rfl,_,_,rfl,_,_,rfl,rfl,?_⟩
   refine ⟨dictOf ((aq rs).take i),.inr rs[i].1,rfl,aA,?_,⟨_,_,rfl⟩,?_⟩
   ·have:=mO ((aq rs).take i)
    rw [List.length_take] at this
    omega
   ·rw [jX,lB (aq rs) i EA,Kc i EA uc]
  ·have e:i=xs.length:=by omega
   subst e
   refine .inl ⟨k2,?_⟩
   rw [List.take_of_length_le (by simp;omega)]
   exact k D hD
theorem nQ (T:Txt K mg w):av P w K mg base 6 "is_telling" ["thing"] (spT fm):=by
 have m5:av P w K mg base 5 "is_row" ["thing"] (spT jg):=oC T
 have vC:av P w K mg base 1 "heads_of" ["T"] Kd:=t9 T
 have vA:av P w K mg base 2 "has_rows" ["heads","head"] J':=rT T
 have rH:av P w K mg base 1 "leads_out" ["heads","name"] Ka:=qH T
 refine T.pX.fj jK (fun vs H Q E h=>?_) (fun f ak A outer s H vs Q E hr h=>?_)
 ·obtain ⟨x,d,rfl,_⟩:=h
  rfl
 ·obtain ⟨x,d,rfl,hd,k⟩:=h
  have hu:=cK hr
  have az:=Qx (cK hr)
  have hsz:sizeLine=16777216:=QL
  refine ⟨_,(aE (bP (eZ (cS (cE (aG bI (by rfl) T.aM PyProof.Rows.boot_isinstance (aD (zv 0) (aD (cP (v:=.ty "tuple") (by rfl) T.bN QG rfl) aB))))) (eC (cS (vH pR pR aF (aG (aL K) (by rfl) T.cz PySem.boot_len (aD (zv 0) aB)) (lL T.qX))))).pt (aI (aT eR)) aU)
   (aE (bP (cS (cE (aG (cC K rfl) (by rfl) T.qa QX (aY (fV (own:=["row"]) (idx:=[]) (N':=["row"]) (d4 (au dB) (["thing","heads"]:List Str) (by decide+kernel)) rfl (lQ K (zv 0)) (fun _ _ _ _ _ _=>(aS (i:=0) (show List.Nodup (["row"]:List Str) by decide+kernel) rfl (Or.inl rfl))) (fun _ _ _ _ _ _=>dF) (fun _ _ _ _ _ _=>(bJ m5 (hr.mono (by decide)) (aD (zv 0) aB)))) aB)))) (aI (aT eR)) aU)
   (aE (aX (i:=1) jK.nd rfl (Or.inr rfl) (bJ vC (hr.mono (by decide)) (aD (zv 0) aB)))
   (aE (bP (eZ (aP (iY az) (aG (aL K) (by rfl) T.cz PySem.boot_len (aD (zv 1) aB)) (aG (aL K) (by rfl) T.cz PySem.boot_len (aD (zv 0) aB)) (ay _)) (eC (cS (cE (aG (cC K rfl) (by rfl) T.qa QX (aY (fV (own:=["name"]) (idx:=[1]) (N':=["name","heads"]) (d4 (au dB) (["thing","heads"]:List Str) (by decide+kernel)) rfl (vO (zv 1)) (fun _ _ _ _ _ _=>(aS (i:=0) (show List.Nodup (["name","heads"]:List Str) by decide+kernel) rfl (Or.inl rfl))) (fun _ _ _ _ _ _=>dF) (fun _ _ _ _ _ _=>(bJ vA (hr.mono (by decide)) (aD (zv 1) (aJ (d9 hu (zv 1) (zv 0) (fun _ _=>rfl)) aB))))) aB)))))).pt (aI (aT eR)) aU)
   (aI (aT (aG (cC K rfl) (by rfl) T.qa QX (aY (fV (own:=["name"]) (idx:=[1]) (N':=["name","heads"]) (d4 (au dB) (["thing","heads"]:List Str) (by decide+kernel)) rfl (vO (zv 1)) (fun _ _ _ _ _ _=>(aS (i:=0) (show List.Nodup (["name","heads"]:List Str) by decide+kernel) rfl (Or.inl rfl))) (fun _ _ _ _ _ _=>dF) (fun _ _ _ _ _ _=>(bJ rH (hr.mono (by decide)) (aD (zv 1) (aD (zv 0) aB))))) aB)))))))),?_⟩
  obtain ⟨t,ht,h1,h2⟩:=hd.ty
  refine ⟨by decide,t,ht,_,rfl,?_⟩
  rw [h1]
  have k0:=k H (aa.refl H)
  cases hd with
  | @tup a xs ds e hl hn b_=>
   refine e_ ?_
   refine Or.inl ⟨xs,.inr (ai.of e),_,rfl,ye (fun h3=>?_) (fun h3=>?_)⟩
   rotate_left
   ·refine ⟨_,rfl,bc ?_⟩
    have:¬(1:Int)<=xs.length:=fun q=>h3 (Qv q)
    have e1:fm (.tup ds)=false:=by simp [fm,show ¬1<=ds.length by omega]
    rw [e1] at k0
    exact k0
   have rg:1<=ds.length:=by have:=Qt h3;omega
   refine ⟨_,rfl,wk (fun h4=>?_) (fun h4=>?_)⟩
   rotate_left
   ·have:¬ds.length<=200:=by have:=Qu h4;omega
    have e1:fm (.tup ds)=false:=by simp [fm,this]
    rw [e1] at k0
    exact k0
   have yg:ds.length<=200:=by have:=Qt h4;omega
   refine bV ?_
   refine Or.inr ⟨⟨xs,ai.of e⟩,fun D hD=>?_⟩
   refine dJ (cU xs) (fun i=>jg (ds.getD i .bj)) (by omega) hD (fun H2 s2=>ai.of (s2 _ _ e)) (fun i H2 k' hi s2 hk=>?_) (fun H2 s2 gj=>?_)
   ·refine ⟨_,ds.getD i .bj,rfl,?_,hk⟩
    have h5:=b_ i hi (by omega)
    have e1:xs.getD i .af=xs[i]:=by simp [Qb,hi]
    have e2:ds.getD i .bj=ds[i]'(by omega):=by rw [Qb,Qa (by omega)];rfl
    show DD H2 (xs.getD i .af) _
    rw [e1,e2]
    exact h5.same s2
   refine ⟨_,ae.of gj,_,rfl,?_⟩
   rw [hl,bT ds .bj jg]
   refine wk (fun h5=>?_) (fun h5=>?_)
   rotate_left
   ·have:=k H2 s2
    have e1:fm (.tup ds)=false:=by simp [fm,h5]
    rw [e1] at this
    exact this
   obtain ⟨rs,hs,R⟩:=vI hl b_ h5
   have Aq:rs.length=ds.length:=R.l1
   have TF:hs.length=ds.length:=R.l2
   have R2:=R.same s2
   refine bV ?_
   refine aO ⟨a,xs,rs,rfl,⟨s2 _ _ e,R2.ps,by omega⟩,fun h hh=>?_⟩
   have GA:H h=none:=s2.free hh
   refine .inr ⟨_,.inl aA,.inl ⟨xs,.inr (ai.of ((aa.upd hh _) _ _ (s2 _ _ e))),rfl,_,rfl,?_⟩⟩
   refine bq (fun h6=>?_) (fun h6=>?_)
   ·have Ay:¬(rs.map (·.1)).Nodup:=fun nd=>by
     rw [fB _ (kN nd),aZ] at h6
     simp [Aq,hl] at h6
    have e1:fm (.tup ds)=false:=by
     simp only [fm]
     rw [R.names,Qw Ay]
     simp
    refine bc ?_
    have:=k _ (s2.trans (aa.upd hh (.dK (dictOf (aq rs)))))
    rw [e1] at this
    exact this
   ·rw [aZ] at h6
    have Ji:(dictOf (aq rs)).length=(aq rs).length:=by
     have h7:decide (((dictOf (aq rs)).length:Int)=(xs.length:Int))=true:=by
      revert h6
      cases decide (((dictOf (aq rs)).length:Int)=(xs.length:Int))<;>simp
     have:=Qt h7
     simp;omega
    have GB:=kU _ Ji
    have nd:(rs.map (·.1)).Nodup:=by
     have e2:(aq rs).map (·.1)=(rs.map (·.1)).map (Sum.inr:Str->Key):=by simp [aq,Qn,Function.comp_def]
     rw [e2] at GB
     exact List.Pairwise.imp (fun {a b} jv z=>jv (by rw [z])) (List.pairwise_map.mp GB)
    rw [fB _ GB]
    have sh:aa H (upd H2 h (.dK (aq rs))):=s2.put GA
    have key:∀ i (hi:i < rs.length),Bb (aq rs) i=.str rs[i].1:=fun i hi=>by
     unfold Bb
     rw [show (aq rs)[i]? =some (Sum.inr rs[i].1,rs[i].2) by simp [aq,hi]];rfl
    have TJ:(aq rs).length=ds.length:=by simp;omega
    refine ⟨h,aq rs,rfl,.inl aA,fun o D2 ii=>?_⟩
    rw [jX] at ii ⊢
    have sf:aa H (upd H2 h (.c_ o (.dK (aq rs)))):=s2.put GA
    have EB:upd H2 h (.c_ o (.dK (aq rs))) h=some (.c_ o (.dK (aq rs))):=aA
    generalize upd H2 h (.c_ o (.dK (aq rs)))=H3 at ii sf EB
    have R3:=R.same sf
    refine dJ (sO (aq rs)) (fun i=>(dm (hs.getD i .bj)).all fun n=>(bu (aq rs) (.inr n)).isSome) (by omega) ii (fun H4 s4=>s4 _ _ EB) (fun i H4 k' hi s4 hk=>?_) (fun H4 s4 GC=>?_)
    ·have xf:i < rs.length:=by simpa using hi
     rw [key i xf]
     have yz:i < hs.length:=by omega
     obtain ⟨_,q1,q2,_⟩:=R3.dd i (by omega) xf yz
     have EC:Rd H4 h (.dK (aq rs)):=.inr ⟨o,s4 _ _ EB⟩
     refine ⟨h,rs[i].2,rfl,?_,h,rs[i].2,hs[i],aq rs,rfl,EC,q1.same s4,q2,uF q1 q2,?_⟩
     ·rw [<- eP nd xf];exact ik.rd (k:=Sum.inr rs[i].1) EC
     ·have e2:hs.getD i .bj=hs[i]:=by rw [Qb,Qa yz];rfl
      rw [e2] at hk
      exact hk
    ·refine ⟨_,ae.of GC,_,rfl,?_⟩
     have GD:((List.range (aq rs).length).map fun i=>(dm (hs.getD i .bj)).all fun n=>(bu (aq rs) (.inr n)).isSome).all id=(cu ds).all (fun r=>(dm r.2).all fun n=>decide (n∈(cu ds).map (·.1))):=by
      refine jL _ _ (by unfold cu;simp;omega) _ _ fun i hi=>?_
      have Ke:i < ds.length:=by unfold cu at hi;simpa using hi
      have yz:i < hs.length:=by omega
      have e3:=R.rows Ke (by omega) yz
      rw [Qa hi] at e3
      rw [QD e3]
      have e2:hs.getD i .bj=hs[i]:=by rw [Qb,Qa yz];rfl
      rw [e2]
      have e4:(fun n=>(bu (aq rs) (.inr n)).isSome)=fun n=>decide (n∈(cu ds).map (·.1)):=by
       funext n
       rw [cZ nd,R.names]
      rw [e4]
     rw [GD]
     refine wk (fun h7=>?_) (fun h7=>?_)
     rotate_left
     ·have e1:fm (.tup ds)=false:=by simp only [fm,h7];simp
      have:=k H4 (sf.trans s4)
      rw [e1] at this
      exact this
     refine cT ?_
     have EC:Rd H4 h (.dK (aq rs)):=.inr ⟨o,s4 _ _ EB⟩
     refine ⟨h,aq rs,rfl,EC,fun o2 D3 w_=>?_⟩
     have sg:aa H (upd H4 h (.c_ o2 (.dK (aq rs)))):=(sf.trans s4).put GA
     have GF:upd H4 h (.c_ o2 (.dK (aq rs))) h=some (.c_ o2 (.dK (aq rs))):=aA
     generalize upd H4 h (.c_ o2 (.dK (aq rs)))=H5 at w_ sg GF
     have R5:=R.same sg
     refine dJ (sO (aq rs)) (fun i=>jb (kg (cu ds)) (aq rs).length ((rs.map (·.1)).getD i ("":Str))) (by omega) w_ (fun H6 s6=>s6 _ _ GF) (fun i H6 k' hi s6 hk=>?_) (fun H6 s6 TL=>?_)
     ·have xf:i < rs.length:=by simpa using hi
      rw [key i xf]
      have R6:=R5.same s6
      refine ⟨h,rs[i].1,aq rs,kg (cu ds),rfl,.inr ⟨o2,s6 _ _ GF⟩,by omega,R6.has nd,R6.IZ nd h7,?_,?_⟩
      ·rw [eP nd xf];rfl
      ·have e2:(rs.map (·.1)).getD i ("":Str)=rs[i].1:=by rw [Qb,Qq,Qa xf];rfl
       have:=hk H6 (aa.refl _)
       rw [e2] at this
       exact this
     ·refine ⟨_,ae.of TL,?_⟩
      have TN:((List.range (aq rs).length).map fun i=>jb (kg (cu ds)) (aq rs).length ((rs.map (·.1)).getD i ("":Str))).all id=((cu ds).map (·.1)).all (fun n=>jb (kg (cu ds)) ds.length n):=by
       rw [R.names,TJ]
       refine jL _ _ (by simp;omega) _ _ fun i hi=>?_
       rw [Qb,Qa hi];rfl
      rw [TN]
      have:=k H6 (sg.trans s6)
      have e1:fm (.tup ds)=((cu ds).map (·.1)).all (fun n=>jb (kg (cu ds)) ds.length n):=by
       have TQ:((cu ds).map (·.1)).Nodup:=by rw [R.names];exact nd
       simp only [fm]
       rw [h5,h7,Qv rg,Qv yg,Qv TQ]
       simp only [Bool.true_and]
      rw [e1] at this
      exact this
  | _=>exact bc k0
def GG (z:Str):Prop:=∀ c∈z.cps.toList,97<=c/\c < 123
theorem zX:∀ c∈dh.cps.toList,97<=c/\c < 123:=by decide
theorem TR (n:Nat):iu dh.cps.toList ((n:Int) % 26)=some (97+n % 26):=by
 have h:=Q3 (97+n % 26) (by omega)
 rw [show 97+n % 26 - 97=n % 26 by omega] at h
 have:=dN h
 rw [show ((n:Int) % 26)=((n % 26:Nat):Int) by omega]
 exact this
theorem vX (h:97<=c/\c < 123):nq c=true:=by
 unfold nq
 rw [yN c h];rfl
structure CU (ah:Str) (c:Nat) (z:Str):Prop where
 nm:isName z=true
 pl:z.cps.toList[ah.cps.toList.length]? =some c
 wd:Wd z
theorem fP (a b:Str):(a++b).cps.toList=a.cps.toList++b.cps.toList:=by
 show (a.cps++b.cps).toList=_
 simp
theorem yI {ah:Str} (h1:ah.length<=7) (h2:GG ah) (hc:97<=c/\c < 123) (hn:(nk.any fun y=>y==(ah++⟨#[c]⟩:Str))=false):CU ah c (ah++⟨#[c]⟩):=by
 have hl:(ah++⟨#[c]⟩:Str).cps.toList=ah.cps.toList++[c]:=fP _ _
 have el:(ah++⟨#[c]⟩:Str).length=ah.length+1:=by rw [Str.length_append];rfl
 refine ⟨?_,by rw [hl];simp,by omega,fun d hd=>?_⟩
 rotate_left
 ·rw [hl] at hd
  rcases List.mem_append.mp hd with hd | hd
  ·have:=h2 d hd;omega
  ·rw [List.mem_singleton.mp hd];omega
 unfold isName
 simp only [Bool.and_eq_true,decide_eq_true_eq]
 refine ⟨⟨⟨by omega,by omega⟩,by rw [hn];rfl⟩,?_⟩
 rw [hl,List.all_append,Bool.and_eq_true]
 refine ⟨QF.mpr fun d hd=>vX (h2 d hd),?_⟩
 rw [List.all_cons,vX hc];rfl
theorem TU {ah:Str} (hn:(nk.any fun y=>y==(ah++⟨#[c]⟩:Str))=true):CU ah c (ah++⟨#[c]⟩++("q":Str)):=by
 have hl:(ah++⟨#[c]⟩:Str).cps.toList=ah.cps.toList++[c]:=fP _ _
 have Kf:(ah++⟨#[c]⟩++("q":Str)).cps.toList[ah.cps.toList.length]? =some c:=by
  rw [fP,hl,List.append_assoc];simp
 rw [List.any_eq_true] at hn
 obtain ⟨y,hy,e⟩:=hn
 rw [<- (eq_of_beq e:y=_)] at Kf ⊢
 simp only [nk,Qp,QA,or_false] at hy
 rcases hy with rfl | rfl | rfl | rfl | rfl<;>exact ⟨by decide+kernel,Kf,n3 (by decide) (by decide)⟩
theorem vW (z:Str):mw (V.str z) [V.str "all",V.str "none",V.str "way",V.str "box",V.str "pick"]=nk.any fun y=>y==z:=by
 unfold mw
 rfl
def GH:Sp:=fun vs H Q _=>∃ (p w:Addr) (m:Int) (t:Nat),vs=[.ref p,.int m]/\ck H p w t/\(1<=m/\m<=26)/\t+20 < yi/\
 ∀ (L:Addr) (ns:List Str) (H':Hp),H L=none->H' L=some (.lst (ns.map V.str))->(ns.length:Int)=m->ns.Nodup->(∀ n∈ns,isName n=true/\Wd n)->ck H' p w (t+20)->Sm p w H H'->Q (.ref L) H'
theorem jI (T:Txt K mg w):av P w K mg base 2 "_law_tnames" ["pen","many"] GH:=by
 have aQ:av P w K mg base 1 "_law_tdraw" ["pen","many"] Af:=dD T
 refine T.pK.fj c9 (fun vs H Q E h=>?_) (fun f ak A outer s H vs Q E hr h=>?_)
 ·obtain ⟨p,w',m,t,rfl,_⟩:=h
  rfl
 ·refine hdn fun Gz9 zG9=>?_;obtain ⟨p,w',m,t,rfl,hp,⟨Bv,Ar⟩,ht,k⟩:=h;refine zG9 ?_
  have Av:t+20 < 1000000000000:=ht
  have hsz:sizeLine=16777216:=QL
  refine ⟨_,(aE (aX (i:=2) c9.nd rfl (Or.inr rfl) aK)
   (aE (aX (i:=3) c9.nd rfl (Or.inl rfl) (f7 K PySem.F.plainAttrs_str PySem.F.slot_str_join PySem.F.type_str_join (fL K) aK (aY (fV (own:=["k"]) (idx:=[0,2]) (N':=["k","pen","letters"]) (d4 (au fA) (["pen","many","letters","ahead","first","found","k","name"]:List Str) (by decide+kernel)) rfl (e8 (by rfl) T.eL (aJ (bE (bF K) (cL (aC aF (aC aF (aC aF (aC aF (aC aF (aC aF aB))))))) (bJ aQ (hr.mono (by decide)) (aD (zv 0) (aC aF aB))) (fun _ _=>rfl)) aB)) (fun _ _ _ _ _ _=>(aS (i:=0) (show List.Nodup (["k","pen","letters"]:List Str) by decide+kernel) rfl (Or.inl rfl))) (fun _ _ _ _ _ _=>dF) (fun _ _ _ _ _ _=>(bE (bF K) (zv 2) (bJ aQ (hr.mono (by decide)) (aD (zv 1) (aC aF aB))) (fun _ _=>rfl)))) aB)))
   (aE (aX (i:=4) c9.nd rfl (Or.inl rfl) (bJ aQ (hr.mono (by decide)) (aD (zv 0) (aC aF aB))))
   (aE (aX (i:=5) c9.nd rfl (Or.inl rfl) (cL aB))
   (aE (fN PassesOwn.never rfl (e8 (by rfl) T.eL (aD (zv 1) aB)) (aS (i:=6) c9.nd rfl (Or.inl rfl)) (aE (aX (i:=7) c9.nd rfl (Or.inl rfl) (bQ bC (zv 3) (bE (bF K) (zv 2) (bQ fC (bQ bC (zv 4) (bQ fY aF (zv 6))) aF) (fun _ _=>rfl))))
   (aE (bP (aP (iO K) (zv 7) (d5 (aC aK (aC aK (aC aK (aC aK (aC aK aB)))))) rfl) (aI (aX (i:=7) c9.nd rfl (Or.inl rfl) (bQ bC (zv 7) aK))) aU)
   (aI (eU (f7 K QH QJ QK dQ (zv 5) (aD (zv 7) aB)))))))
   (aI (aT (zv 5)))))))),?_⟩
  refine nZ ?_
  refine aO ⟨rfl,(show 6<=sizeLine by decide),fun L0 ua=>⟨p,w',6,t,rfl,hp.same (aa.upd ua _),⟨by decide,by decide⟩,by show t < 1000000000000;omega,fun r H1 r0 r1 bz ud=>?_⟩⟩
  have TV:=hp.ne1 ua
  have TY:=hp.ne2 ua
  have o_:=ud _ _ aA TV TY
  obtain ⟨c,lq,CV⟩:=jZ ([.int 0,.int 0,.int 1,.int 2,.int 3,.int 7]:List V) r r0 (by show r < 6;omega)
  have TZ:∃ j:Int,c=.int j/\0<=j/\j<=7:=by
   have hm:=QC lq
   simp only [Qp,QA,or_false] at hm
   rcases hm with rfl | rfl | rfl | rfl | rfl | rfl<;>exact ⟨_,rfl,by decide,by decide⟩
  obtain ⟨j,rfl,j0,j7⟩:=TZ
  have Kg:Sm p w' H H1:=(aa.upd ua _).sm.trans ud
  refine ⟨_,_,.inl (ae.of o_),CV,j,rfl,by omega,by omega,fun D hD=>?_⟩
  have Az:D≠p:=bz.ne1 hD
  have AA:D≠w':=bz.ne2 hD
  have qb:H D=none:=Kg.free hD Az AA
  refine gO (dE 0 j.toNat) (fun i τ H2=>∃ (v:Option V) (ys:List Str),τ=[v,some (.ref p),some (.str dh)]/\H2 D=some (.lst (ys.map V.str))/\ys.length=i/\(∀ y∈ys,y.length=1/\GG y)/\ck H2 p w' (t+1+i)/\Sm p w' H H2)
   ⟨none,[],rfl,aA,rfl,(fun _ h=>nomatch h),bz.same (aa.upd hD _),Kg.upd qb⟩ (fun _ _ _ _ _=>True.intro) ?_ ?_
  ·rintro i τ H2 hi z0;refine hdn fun Gz9 zG9=>?_;obtain ⟨v,ys,rfl,h1,h2,h3,h4,h5⟩:=z0;refine zG9 ?_
   refine ⟨p,w',26,t+1+i,rfl,h4,⟨by decide,by decide⟩,by show t+1+i < 1000000000000;omega,fun r2 H3 a0 a1 qc qd=>?_⟩
   obtain ⟨c,lq,hc⟩:=jZ dh.cps.toList r2 a0 (by have:dh.cps.toList.length=26:=rfl;omega)
   refine ⟨by decide,c,hc,ys.map V.str,qd _ _ h1 Az AA,by rw [Ql];exact Cg (by omega),?_⟩
   refine ⟨_,ys++[⟨#[c]⟩],rfl,?_,by simp [h2],fun y hy=>?_,qc.upd Az AA,(h5.trans qd).upd qb⟩
   ·rw [aA,Qm];rfl
   ·rcases List.mem_append.mp hy with hy | hy
    ·exact h3 y hy
    ·rw [List.mem_singleton.mp hy]
     refine ⟨rfl,fun d hd=>?_⟩
     have E4:d=c:=by simpa using hd
     rw [E4]
     exact zX c (QC lq)
  ·rintro τ H2 z0;refine hdn fun Gz9 zG9=>?_;obtain ⟨v,ys,rfl,h1,h2,h3,h4,h5⟩:=z0;refine zG9 ?_
   refine ⟨ys,ae.of h1,?_,?_⟩
   ·rw [PyProof.Rows.sumLen_of_ones ys (fun y hy=>(h3 y hy).1),h2]
    show j.toNat+j.toNat*0<=16777216
    omega
   have Kh:(Txt.join (Str.ofString "") ys).length<=7:=by rw [qI ys _ rfl (fun y hy=>(h3 y hy).1)];omega
   have Kl:GG (Txt.join (Str.ofString "") ys):=fun c hc=>by
    rcases rM hc with hc | ⟨y,hy,hc⟩
    ·exact nomatch hc
    ·exact (h3 y hy).2 c hc
   generalize Txt.join (Str.ofString "") ys=ah at Kh Kl
   refine aO ⟨p,w',26,_,rfl,h4,⟨by decide,by decide⟩,by show t+1+j.toNat < 1000000000000;omega,fun f0 H3 WK WL qc qd=>?_⟩
   refine aO ⟨(show 0<=sizeLine by decide),fun L hL=>?_⟩
   have AB:L≠p:=qc.ne1 hL
   have AD:L≠w':=qc.ne2 hL
   have iy:Sm p w' H H3:=h5.trans qd
   have GI:H L=none:=iy.free hL AB AD
   refine bB (fun σ' H'=>∃ (v6 v7:Option V) (ns:List Str),σ'=[some (.ref p),some (.int m),some (.str dh),some (.str ah),some (.int f0),some (.ref L),v6,v7]/\H' L=some (.lst (ns.map V.str))/\ns.length=m.toNat/\(∀ i (h:i < ns.length),CU ah (97+(f0.toNat+7*i) % 26) ns[i])/\ck H' p w' (t+1+j.toNat+1)/\Sm p w' H H') ?_ ?_
   ·intro nx bg
    refine ⟨m,rfl,by omega,by omega,dW (dE 0 m.toNat) (fun i σ' H'=>∃ (v6 v7:Option V) (ns:List Str),σ'=[some (.ref p),some (.int m),some (.str dh),some (.str ah),some (.int f0),some (.ref L),v6,v7]/\H' L=some (.lst (ns.map V.str))/\ns.length=i/\(∀ i (h:i < ns.length),CU ah (97+(f0.toNat+7*i) % 26) ns[i])/\ck H' p w' (t+1+j.toNat+1)/\Sm p w' H H')
     ⟨none,none,[],rfl,aA,rfl,(fun i h=>absurd h (by simp)),qc.same (aa.upd hL _),iy.upd GI⟩ (fun _ _ _ _ _=>True.intro) ?_ ?_⟩
    ·rintro i σ' H' hi z0;refine hdn fun Gz9 zG9=>?_;obtain ⟨v6,v7,ns,rfl,q1,q2,q3,q4,q5⟩:=z0;refine zG9 ?_
     have WM:i < 26:=by omega
     have ea:iu dh.cps.toList ((f0+7*(0+(i:Int))) % 26)=some (97+(f0.toNat+7*i) % 26):=by
      have:=TR (f0.toNat+7*i)
      rw [show ((f0.toNat+7*i:Nat):Int)=f0+7*(0+(i:Int)) by omega] at this
      exact this
     refine aO ⟨.inl ⟨by decide,by decide⟩,(by decide),(by decide),_,ea,(show ah.length+1<=sizeLine by omega),?_⟩
     refine bB (fun σ2 H2=>∃ z,σ2=[some (.ref p),some (.int m),some (.str dh),some (.str ah),some (.int f0),some (.ref L),some (.int (0+(i:Int))),some (.str z)]/\CU ah (97+(f0.toNat+7*i) % 26) z/\aa H' H2) ?_ ?_
     ·intro vo jl
      refine ⟨(show 5<=sizeLine by decide),fun tt ED=>⟨_,.inr (ai.of aA),rfl,rfl,_,rfl,ye (fun hh=>?_) (fun hh=>?_)⟩⟩
      ·refine ⟨(show (ah++⟨#[97+(f0.toNat+7*i) % 26]⟩:Str).length+1<=sizeLine by rw [Str.length_append];show ah.length+1+1<=_;omega),?_⟩
       refine jl _ _ ⟨_,rfl,TU ?_,aa.upd ED _⟩
       rw [QE,vW] at hh
       exact hh
      ·refine jl _ _ ⟨_,rfl,yI Kh Kl (by omega) ?_,aa.upd ED _⟩
       rw [QE,vW] at hh
       exact Bool.eq_false_iff.mpr hh
     ·rintro σ2 H2 ⟨z,rfl,hz,s2⟩
      refine ⟨.inl ⟨rfl,_,ae.of (s2 _ _ q1)⟩,L,_,.str z,rfl,rfl,s2 _ _ q1,by rw [Ql];exact Cg (by omega),?_⟩
      refine ⟨_,_,ns++[z],rfl,by rw [aA,Qm];rfl,by simp [q2],fun i' h'=>?_,(q4.same s2).upd AB AD,(q5.trans s2.sm).upd GI⟩
      by_cases bh:i' < ns.length
      ·rw [Qe bh];exact q3 i' bh
      ·have e:i'=ns.length:=by simp at h';omega
       subst e
       rw [Qf (Qy _)]
       simp only [Nat.sub_self,List.getElem_cons_zero]
       rw [q2];exact hz
    ·rintro σ' H' ⟨v6,v7,ns,rfl,q⟩
     exact bg _ _ ⟨v6,v7,ns,rfl,q⟩
   ·rintro σ' H' z0;refine hdn fun Gz9 zG9=>?_;obtain ⟨v6,v7,ns,rfl,q1,q2,q3,q4,q5⟩:=z0;refine zG9 ?_
    refine k L ns H' GI q1 (by omega) ?_ ?_ (q4.mono (by omega)) q5
    ·refine List.pairwise_iff_getElem.mpr fun a b ha hb jv z=>?_
     have h1:=(q3 a ha).pl
     have h2:=(q3 b hb).pl
     rw [z,h2] at h1
     have h3:=QD h1
     omega
    ·intro n hn
     obtain ⟨i,hi,rfl⟩:=Qi hn
     exact ⟨(q3 i hi).nm,(q3 i hi).wd⟩
structure iz (H:Hp) (l:Addr) (ss:List Str):Prop where
 e:H l=some (.lst (ss.map V.str))
 ne:ss≠[]
 few:ss.length<=60
 wd:∀ z∈ss,Wd z
theorem iz.sm {w:Addr} {t:Nat} (h:iz H l ss) (hp:ck H p w t) (s:Sm p w H H'):iz H' l ss:=⟨s _ _ h.e (hp.xw h.e h.ne).1 (hp.xw h.e h.ne).2,h.ne,h.few,h.wd⟩
theorem iz.same (h:iz H l ss) (s:aa H H'):iz H' l ss:=⟨s _ _ h.e,h.ne,h.few,h.wd⟩
theorem iz.at {H:Hp} {l:Addr} {ss:List Str} (h:iz H l ss) (r:Int) (h0:0<=r) (h1:r < ss.length):∃ z,iu (ss.map V.str) r=some (.str z)/\ss[r.toNat]? =some z/\Wd z:=by
 obtain ⟨c,lq,CV⟩:=jZ (ss.map V.str) r h0 (by rw [Ql];exact h1)
 rw [Qq] at lq
 cases e:ss[r.toNat]? with
 | none=>rw [e] at lq;cases lq
 | some z=>
  rw [e] at lq
  cases lq
  exact ⟨z,CV,rfl,h.wd z (QC e)⟩
theorem iz.pos (h:iz H l ss):0 < ss.length:=List.length_pos_iff.mpr h.ne
theorem T3 (e:H b=some (.tup [.str x,.str y])) (hx:Wd x) (hy:Wd y):TB H (.ref b) 1 411:=
 (TB.tup (k:=0) (n:=202) e fun v hv=>by
  simp only [Qp,QA,or_false] at hv
  rcases hv with rfl | rfl
  ·exact TB.str hx
  ·exact TB.str hy).mono (by omega) (by simp)
def GJ:Sp:=fun vs H Q _=>∃ (p w wd nm:Addr) (t:Nat) (ws ns:List Str),vs=[.ref p,.ref wd,.ref nm]/\ck H p w t/\t+30 < yi/\iz H wd ws/\ws.length<=10/\(ws.Nodup/\∀ z∈ws,isName z=true)/\iz H nm ns/\(∀ z∈ns,isName z=true)/\
 ∀ (b:Addr) (xs:List V) (ps:List (Str×Str)) (H':Hp),H' b=some (.tup xs)->Al H' ns xs ps->(∀ q∈ps,q.1∈ws)->xs.length<=10->TB H' (.ref b) 2 4133->ck H' p w (t+30)->Sm p w H H'->Q (.ref b) H'
theorem nN (T:Txt K mg w):av P w K mg base 2 "_law_tpairs" ["pen","words","names"] GJ:=by
 have aQ:av P w K mg base 1 "_law_tdraw" ["pen","many"] Af:=dD T
 refine T.pI.fj jG (fun vs H Q E h=>?_) (fun f ak A outer s H vs Q E hr h=>?_)
 ·refine hdn fun Gz9 zG9=>?_;obtain ⟨p,w',wd,nm,t,ws,ns,rfl,_⟩:=h;refine zG9 ?_
  rfl
 ·refine hdn fun Gz9 zG9=>?_;obtain ⟨p,w',wd,nm,t,ws,ns,rfl,hp,ht,hw,EE,⟨y_,za⟩,hn,Ay,k⟩:=h;refine zG9 ?_
  have Av:t+30 < 1000000000000:=ht
  have hsz:sizeLine=16777216:=QL
  have az:=Qx (cK hr)
  refine ⟨_,(aE (IF (i:=3) (own:=["word"]) (idx:=[0]) (N':=["word","pen"]) (d4 (au dZ) (["pen","words","names","some"]:List Str) (by decide+kernel)) rfl (lQ K (aG (pN K) (by rfl) T.Tf PyProof.Rows.boot_sorted (aD (zv 1) aB))) (fun _ _ _ _ _ _=>(aS (i:=0) (show List.Nodup (["word","pen"]:List Str) by decide+kernel) rfl (Or.inl rfl))) (fun _ _ _ _ _ _=>(FH (aP (bA az) (bJ aQ (hr.mono (by decide)) (aD (zv 1) (aC aF aB))) aF (ay _)))) (fun _ _ _ _ _ _=>(zv 0)) jG.nd rfl rfl)
   (aI (aT (cJ (cR K) (by rfl) T.bN QG (aY (fV (own:=["word"]) (idx:=[0,2]) (N':=["word","pen","names"]) (d4 (au dZ) (["pen","words","names","some"]:List Str) (by decide+kernel)) rfl (lQ K (zv 3)) (fun _ _ _ _ _ _=>(aS (i:=0) (show List.Nodup (["word","pen","names"]:List Str) by decide+kernel) rfl (Or.inl rfl))) (fun _ _ _ _ _ _=>dF) (fun _ _ _ _ _ _=>(d5 (aD (zv 0) (aJ (bE (bF K) (zv 2) (bJ aQ (hr.mono (by decide)) (aD (zv 1) (aV (aG (aL K) (by rfl) T.cz PySem.boot_len (aD (zv 2) aB)) aB))) (fun _ _=>rfl)) aB))))) aB))))),?_⟩
  refine aO ⟨wd,ws,rfl,ae.of hw.e,by omega,fun l ss hl CW T4=>?_⟩
  have Ja:ss.length=ws.length:=CW.length_eq
  have ym:∀ z∈ss,Wd z:=fun z hz=>hw.wd z (CW.mem_iff.mp hz)
  have T5:∀ z∈ss,isName z=true:=fun z hz=>za z (CW.mem_iff.mp hz)
  have T6:=kE T4 (CW.nodup_iff.mpr y_)
  refine Or.inl ⟨⟨_,ae.of aA⟩,fun D hD=>?_⟩
  have s1:aa H (upd H l (.lst (ss.map V.str))):=aa.upd hl _
  have bz:=hp.same s1
  have Az:D≠p:=bz.ne1 hD
  have AA:D≠w':=bz.ne2 hD
  have Km:D≠l:=fun e=>by rw [e,aA] at hD;cases hD
  have T7:l≠p:=hp.ne1 hl
  have T8:l≠w':=hp.ne2 hl
  have qb:H D=none:=s1.free hD
  refine gO (dH (ss.map V.str)) (fun i τ H2=>∃ (v:Option V) (os:List Str),τ=[v,some (.ref p)]/\H2 D=some (.lst (os.map V.str))/\os.Sublist (ss.take i)/\H2 l=some (.lst (ss.map V.str))/\ck H2 p w' (t+i)/\Sm p w' H H2)
   ⟨none,[],rfl,aA,List.Sublist.refl _,by rw [aH Km.symm];exact aA,bz.same (aa.upd hD _),s1.sm.upd qb⟩ (by rintro i τ H2 _ ⟨_,_,_,_,_,q,_⟩;exact ae.of q) ?_ ?_
  ·rintro i τ H2 hi z0;refine hdn fun Gz9 zG9=>?_;obtain ⟨v,os,rfl,q1,q2,q4,q5,q6⟩:=z0;refine zG9 ?_
   rw [Ql] at hi
   rw [cA ss i hi]
   have l_:ss.take (i+1)=ss.take i++[ss.getD i ""]:=by
    rw [Qs,Qb,Qa hi];rfl
   generalize ss.getD i ""=z at l_
   have qp:os.length<=i:=by have:=q2.length_le;simp at this;omega
   refine ⟨p,w',2,t+i,rfl,q5,⟨by decide,by decide⟩,by show t+i < 1000000000000;omega,fun r H3 r0 r1 qc qd=>?_⟩
   refine ⟨rfl,_,rfl,?_⟩
   have g4:=qd _ _ q4 T7 T8
   have g1:=qd _ _ q1 Az AA
   refine bq (fun _=>?_) (fun _=>?_)
   ·refine ⟨_,g1,by rw [Ql];exact Cg (by omega),_,os++[z],rfl,by rw [aA,Qm];rfl,by rw [l_];exact q2.append (List.Sublist.refl _),by rw [aH Km.symm];exact g4,qc.upd Az AA,(q6.trans qd).upd qb⟩
   ·exact ⟨_,os,rfl,g1,by rw [l_];exact q2.trans (List.sublist_append_left _ _),g4,qc,q6.trans qd⟩
  ·rintro τ H2 z0;refine hdn fun Gz9 zG9=>?_;obtain ⟨v,os,rfl,q1,AE,q4,q5,q6⟩:=z0;refine zG9 ?_
   rw [Ql] at AE q5
   rw [Qo] at AE
   have q2:os.length<=ss.length:=AE.length_le
   have q3:∀ z∈os,Wd z:=fun z hz=>ym z (AE.subset hz)
   have T9:∀ z∈os,isName z=true:=fun z hz=>T5 z (AE.subset hz)
   have T_:rising os=true:=kJ (T6.sublist AE)
   refine Or.inl ⟨⟨_,ae.of q1⟩,fun D2 ii=>?_⟩
   have GK:D2≠p:=q5.ne1 ii
   have GL:D2≠w':=q5.ne2 ii
   have Kn:D2≠D:=fun e=>by rw [e,q1] at ii;cases ii
   have EF:H D2=none:=q6.free ii GK GL
   refine gO (dH (os.map V.str)) (fun i τ H3=>∃ (v:Option V) (xs:List V) (rs:List (Str×V)),τ=[v,some (.ref p),some (.ref nm)]/\H3 D2=some (.lst xs)/\h_ H3 xs (aq rs)/\rs.map (·.1)=os.take i/\(∀ r∈rs,∃ y,r.2=.str y/\y∈ns/\Wd y)/\H3 D=some (.lst (os.map V.str))/\ck H3 p w' (t+ws.length+i)/\Sm p w' H H3)
    ⟨none,[],[],rfl,aA,jA,rfl,(fun _ h=>nomatch h),by rw [aH Kn.symm];exact q1,(q5.same (aa.upd ii _)).mono (by omega),q6.upd EF⟩ (by rintro i τ H2 _ ⟨_,_,_,_,_,_,_,_,q,_⟩;exact ae.of q) ?_ ?_
   ·rintro i τ H3 hi z0;refine hdn fun Gz9 zG9=>?_;obtain ⟨v,xs,rs,rfl,r1,r2,zb,r3,r4,r5,r6⟩:=z0;refine zG9 ?_
    rw [Ql] at hi
    rw [cA os i hi]
    have l_:os.take (i+1)=os.take i++[os.getD i ""]:=by
     rw [Qs,Qb,Qa hi];rfl
    generalize os.getD i ""=z at l_
    have Aq:rs.length=i:=by have:=congrArg List.length zb;simp at this;omega
    have ji:xs.length=i:=by have:=r2.1;simp at this;omega
    have EG:=hn.sm hp r6
    have Ua:=EG.pos
    have Ub:=EG.few
    refine .inl ⟨_,.inl (ae.of EG.e),p,w',_,t+ws.length+i,rfl,r5,⟨by rw [Ql];omega,by rw [Ql];omega⟩,by show t+ws.length+i < 1000000000000;omega,fun r H4 a0 a1 jx iy=>?_⟩
    rw [Ql] at a1
    have Ko:=EG.sm r5 iy
    obtain ⟨n,Uc,BA,Ud⟩:=Ko.at r a0 a1
    refine ⟨_,_,.inl (ae.of Ko.e),Uc,(show 2<=sizeLine by decide),fun b hb=>?_⟩
    have g1:=iy _ _ r1 GK GL
    have g4:=iy _ _ r4 Az AA
    have GN:D2≠b:=aN g1 hb
    have Ue:D≠b:=aN g4 hb
    have Ug:Tk H3 H4:=r5.ts iy
    have EH:Tk H3 (upd (upd H4 b (.tup [.str z,.str n])) D2 (.lst (xs++[.ref b]))):=(Ug.trans (aa.upd hb _).ts).set (by rw [aH GN];exact g1) (by intro _ z;cases z)
    have Uh:upd (upd H4 b (.tup [.str z,.str n])) D2 (.lst (xs++[.ref b])) b=some (.tup [.str z,.str n]):=by rw [aH GN.symm];exact aA
    refine ⟨xs,by rw [aH GN];exact g1,by omega,_,xs++[.ref b],rs++[(z,.str n)],rfl,aA,mL (r2.ts EH) Uh,by rw [Qm,zb,l_];rfl,fun r' rh=>?_,by rw [aH Kn.symm,aH Ue];exact g4,((jx.same (aa.upd hb _)).upd GK GL),((r6.trans iy).trans (aa.upd hb _).sm).upd EF⟩
    rcases List.mem_append.mp rh with hx | hx
    ·exact r3 r' hx
    ·rw [List.mem_singleton.mp hx]
     exact ⟨n,rfl,QC BA,Ud⟩
   ·rintro τ H3 z0;refine hdn fun Gz9 zG9=>?_;obtain ⟨v,xs,rs,rfl,r1,r2,zb,r3,r4,r5,r6⟩:=z0;refine zG9 ?_
    rw [Ql] at zb r5
    rw [Qo] at zb
    have Aq:rs.length=os.length:=by rw [<- zb,Ql]
    have ji:xs.length=os.length:=by have:=r2.1;simp at this;omega
    refine ⟨D2,xs,rfl,.inl ⟨ae.of r1,fun b hb=>?_⟩⟩
    have tk:Tk H3 (upd H3 b (.tup xs)):=(aa.upd hb _).ts
    have yf:∀ r'∈rs,r'.1∈os:=fun r' rh=>by rw [<- zb];exact List.mem_map.mpr ⟨r',rh,rfl⟩
    refine k b xs _ _ aA (QV (r2.ts tk) (fun r' rh=>T9 _ (yf r' rh)) (fun r' rh=>by obtain ⟨y,e1,e2,_⟩:=r3 r' rh;exact ⟨y,e1,e2,Ay y e2⟩) (by rw [zb];exact T_)) (fun q hq=>by obtain ⟨q',DS,rfl⟩:=List.mem_map.mp hq;exact CW.mem_iff.mp (AE.subset (yf q' DS))) (by omega) ((TB.tup (k:=1) (n:=411) aA fun x hx=>?_).mono (by omega) (by rw [ji];omega)) ((r5.same (aa.upd hb _)).mono (by omega)) (r6.trans (aa.upd hb _).sm)
    obtain ⟨c,r',rh,rfl,e⟩:=xU r2 hx
    obtain ⟨y,e1,e2,e3⟩:=r3 r' rh
    rw [e1] at e
    exact T3 (tk _ _ e) (q3 _ (yf r' rh)) e3
def Kp:Sp:=fun vs H Q _=>∃ (p w wd nm:Addr) (sort:Str) (t:Nat) (ws ns:List Str),vs=[.ref p,.str sort,.ref wd,.ref nm]/\ck H p w t/\t+40 < yi/\iz H wd ws/\ws.length<=10/\(ws.Nodup/\∀ z∈ws,isName z=true)/\iz H nm ns/\(∀ z∈ns,isName z=true)/\(sort∈(["all","none","way","box","pick","as"]:List Str))/\
 ∀ (b:Addr) (ys:List V) (H':Hp),H' b=some (.tup (.str sort::ys))->(sort≠"as"->jh H' ns ws (.ref b) (fun o=>o=none))->TB H' (.ref b) 3 8273->ck H' p w (t+40)->Sm p w H H'->Q (.ref b) H'
theorem qA (T:Txt K mg w):av P w K mg base 3 "_law_thead" ["pen","sort","words","names"] Kp:=by
 have aQ:av P w K mg base 1 "_law_tdraw" ["pen","many"] Af:=dD T
 have pZ:av P w K mg base 2 "_law_tpairs" ["pen","words","names"] GJ:=nN T
 refine T.sN.fj pH (fun vs H Q E h=>?_) (fun f ak A outer s H vs Q E hr h=>?_)
 ·refine hdn fun Gz9 zG9=>?_;obtain ⟨p,w',wd,nm,sort,t,ws,ns,rfl,_⟩:=h;refine zG9 ?_
  rfl
 ·refine hdn fun Gz9 zG9=>?_;obtain ⟨p,w',wd,nm,sort,t,ws,ns,rfl,hp,ht,hw,EE,za,hn,Ay,EI,k⟩:=h;refine zG9 ?_
  have hso:Wd sort:=by
   simp only [Qp,QA,or_false] at EI
   rcases EI with rfl | rfl | rfl | rfl | rfl | rfl<;>exact n3 (by decide) (by decide)
  have Av:t+40 < 1000000000000:=ht
  have hsz:sizeLine=16777216:=QL
  have az:=Qx (cK hr)
  have Ua:=hn.pos
  have Ub:=hn.few
  refine ⟨_,(aE (bP (aP (bA az) (zv 1) aK (ay _)) (aI (aT (d5 (aC aK (aJ (bE (bF K) (zv 3) (bJ aQ (hr.mono (by decide)) (aD (zv 0) (aV (aG (aL K) (by rfl) T.cz PySem.boot_len (aD (zv 3) aB)) aB))) (fun _ _=>rfl)) (aJ (bE (bF K) (zv 3) (bJ aQ (hr.mono (by decide)) (aD (zv 0) (aV (aG (aL K) (by rfl) T.cz PySem.boot_len (aD (zv 3) aB)) aB))) (fun _ _=>rfl)) aB)))))) aU)
   (aE (bP (eZ (aP (bA az) (zv 1) aK (ay _)) (eC (aP (bA az) (zv 1) aK (ay _)))).pt (aI (aT (d5 (aD (zv 1) (aV (bJ pZ (hr.mono (by decide)) (aD (zv 0) (aD (zv 2) (aD (zv 3) aB)))) aB))))) aU)
   (aI (aT (d5 (aD (zv 1) aB)))))),?_⟩
  refine ⟨rfl,_,rfl,bq (fun h1=>?_) (fun h1=>?_)⟩
  ·rw [QE,bK] at h1
   have e1:sort="way":=eq_of_beq h1
   refine .inl ⟨_,.inl (ae.of hn.e),p,w',_,t,rfl,hp,⟨by rw [Ql];omega,by rw [Ql];omega⟩,by show t < 1000000000000;omega,fun r H1 a0 a1 bz ud=>?_⟩
   rw [Ql] at a1
   have hn1:=hn.sm hp ud
   obtain ⟨x,Ui,Kq,Uj⟩:=hn1.at r a0 a1
   refine ⟨_,_,.inl (ae.of hn1.e),Ui,.inl ⟨_,.inl (ae.of hn1.e),p,w',_,t+1,rfl,bz,⟨by rw [Ql];omega,by rw [Ql];omega⟩,by show t+1 < 1000000000000;omega,fun r2 H2 b0 b1 gm AF=>?_⟩⟩
   rw [Ql] at b1
   have hn2:=hn1.sm bz AF
   obtain ⟨y,GO,BB,Kr⟩:=hn2.at r2 b0 b1
   refine ⟨_,_,.inl (ae.of hn2.e),GO,(show 3<=sizeLine by decide),fun b hb=>?_⟩
   rw [e1] at k
   refine k b [.str x,.str y] _ aA (fun _=>Q5 aA (Ay _ (QC Kq)) (Ay _ (QC BB)) (QC Kq) (QC BB) rfl) ((TB.tup (k:=0) (n:=202) aA fun v hv=>?_).mono (by omega) (by simp)) ((gm.same (aa.upd hb _)).mono (by omega)) ((ud.trans AF).trans (aa.upd hb _).sm)
   simp only [Qp,QA,or_false] at hv
   rcases hv with rfl | rfl | rfl
   ·rw [<- e1];exact TB.str hso
   ·exact TB.str Uj
   ·exact TB.str Kr
  ·rw [QE,bK] at h1
   have fin:sort∈(["all","none","as"]:List Str)->zq (B4 (fu (tV 1) ky)) {nx:=fun x H'=>Q V.af H',rt:=Q} [some (.ref p),some (.str sort),some (.ref wd),some (.ref nm)] H:=by
    intro CS
    refine ⟨(show 1<=sizeLine by decide),fun b hb=>?_⟩
    refine k b [] _ aA (fun gq=>by
     simp only [Qp,QA,or_false] at CS
     rcases CS with rfl | rfl | rfl
     ·exact vL aA rfl
     ·exact zW aA rfl
     ·exact (gq rfl).elim) ((TB.tup (k:=0) (n:=202) aA fun v hv=>?_).mono (by omega) (by simp)) ((hp.same (aa.upd hb _)).mono (by omega)) ((aa.upd hb _).sm)
    rw [List.mem_singleton.mp hv];exact TB.str hso
   have prs:(sort="box"\/sort="pick")->zq (B4 (fu (tV 1) (fu (z_ GJ [] E0 (fu (tV 0) (fu (tV 2) (fu (tV 3) ky)))) ky))) {nx:=fun x H'=>Q V.af H',rt:=Q} [some (.ref p),some (.str sort),some (.ref wd),some (.ref nm)] H:=by
    intro oz
    refine ⟨p,w',wd,nm,t,ws,ns,rfl,hp,by show t+30 < 1000000000000;omega,hw,EE,za,hn,Ay,fun c xs ps H1 hc Uk Ul ji htb bz ud=>?_⟩
    refine ⟨(show 2<=sizeLine by decide),fun b hb=>?_⟩
    have s5:=aa.upd hb (.tup [.str sort,.ref c])
    refine k b [.ref c] _ aA (fun _=>tP oz aA (s5 _ _ hc) (by omega) (Uk.tk s5.ts) Ul rfl) ((TB.tup (k:=2) (n:=4133) aA fun v hv=>?_).mono (by omega) (by simp)) ((bz.same (aa.upd hb _)).mono (by omega)) (ud.trans (aa.upd hb _).sm)
    simp only [Qp,QA,or_false] at hv
    rcases hv with rfl | rfl
    ·exact (TB.str hso).mono (by omega) (by omega)
    ·exact htb.ts (aa.upd hb _).ts
   refine ⟨rfl,_,rfl,bq (fun h2=>?_) (fun h2=>?_)⟩
   ·rw [QE,bK] at h2
    exact bc (prs (.inl (eq_of_beq h2)))
   ·rw [QE,bK] at h2
    refine ⟨rfl,_,rfl,bq (fun h3=>?_) (fun h3=>?_)⟩
    ·rw [QE,bK] at h3
     exact prs (.inr (eq_of_beq h3))
    ·rw [QE,bK] at h3
     refine fin ?_
     simp only [Qp,QA,or_false] at EI ⊢
     rcases EI with rfl | rfl | rfl | rfl | rfl | rfl
     ·exact .inl rfl
     ·exact .inr (.inl rfl)
     ·exact absurd h1 (by decide)
     ·exact absurd h2 (by decide)
     ·exact absurd h3 (by decide)
     ·exact .inr (.inr rfl)
def Ks:Sp:=fun vs H Q _=>∃ (p w wd so:Addr) (most:Int) (t:Nat) (ws ss:List Str),vs=[.ref p,.int most,.ref wd,.ref so]/\ck H p w t/\t+1000 < yi/\(1<=most/\most<=10)/\iz H wd ws/\ws.length<=10/\(ws.Nodup/\∀ z∈ws,isName z=true)/\iz H so ss/\(∀ z∈ss,z∈(["all","none","way","box","pick","as"]:List Str))/\
 ∀ (a:Addr) (xs:List V) (rows:List ff) (ns:List Str) (H':Hp),RT H' a xs rows ns ws->(ns.length:Int)<=most->ck H' p w (t+1000)->Sm p w H H'->Q (.ref a) H'
theorem lM (T:Txt K mg w):av P w K mg base 4 "_law_ttelling" ["pen","most","words","sorts"] Ks:=by
 have aQ:av P w K mg base 1 "_law_tdraw" ["pen","many"] Af:=dD T
 have gY:av P w K mg base 2 "_law_tnames" ["pen","many"] GH:=jI T
 have rP:av P w K mg base 3 "_law_thead" ["pen","sort","words","names"] Kp:=qA T
 refine T.mI.fj bG (fun vs H Q E h=>?_) (fun f ak A outer s H vs Q E hr h=>?_)
 ·refine hdn fun Gz9 zG9=>?_;obtain ⟨p,w',wd,so,most,t,ws,ss,rfl,_⟩:=h;refine zG9 ?_
  rfl
 ·refine hdn fun Gz9 zG9=>?_;obtain ⟨p,w',wd,so,most,t,ws,ss,rfl,hp,ht,⟨Bv,Ar⟩,hw,EE,za,hso,Um,k⟩:=h;refine zG9 ?_
  have Av:t+1000 < 1000000000000:=ht
  have hsz:sizeLine=16777216:=QL
  have az:=Qx (cK hr)
  refine ⟨_,(aE (aX (i:=4) bG.nd rfl (Or.inl rfl) (bJ gY (hr.mono (by decide)) (aD (zv 0) (dI (bQ bC aF (bJ aQ (hr.mono (by decide)) (aD (zv 0) (aD (zv 1) aB)))) aB))))
   (aE (aX (i:=5) bG.nd rfl (Or.inl rfl) (cL aB))
   (aE (fN PassesOwn.never rfl (n6 K (by rfl) T.j3 (aD (zv 4) aB)) (k9 K (n:=2) rfl (cG (aS (i:=6) bG.nd rfl (Or.inl rfl)) (cG (aS (i:=7) bG.nd rfl (Or.inl rfl)) iC))) (aE (aX (i:=8) bG.nd rfl (Or.inl rfl) (bE (bF K) (zv 3) (bJ aQ (hr.mono (by decide)) (aD (zv 0) (aV (aG (aL K) (by rfl) T.cz PySem.boot_len (aD (zv 3) aB)) aB))) (fun _ _=>rfl)))
   (aE (aX (i:=9) bG.nd rfl (Or.inl rfl) (bJ rP (hr.mono (by decide)) (aD (zv 0) (aD (zv 8) (aD (zv 2) (aD (zv 4) aB))))))
   (aE (bP (aP (bA az) (zv 8) aK (ay _)) (aI (aX (i:=9) bG.nd rfl (Or.inl rfl) (kK (aP (bA az) (zv 6) aF (ay _)) (d5 (aC aK aB)) (d5 (aC aK (aJ (bE (bF K) (zv 4) (bJ aQ (hr.mono (by decide)) (aD (zv 0) (aD (zv 6) aB))) (fun _ _=>rfl)) aB)))))) aU)
   (aI (eU (f7 K QH QJ QK dQ (zv 5) (nF (d5 (aD (zv 7) (aD (zv 9) aB))) aB))))))))
   (aE (aX (i:=10) bG.nd rfl (Or.inl rfl) (bJ aQ (hr.mono (by decide)) (aD (zv 0) (aV (aG (aL K) (by rfl) T.cz PySem.boot_len (aD (zv 5) aB)) aB))))
   (aI (aT (cJ (cR K) (by rfl) T.bN QG (dI (bQ bC (bZ (i5 K) (zv 5) (bU (zv 10)) cF) (bZ (i5 K) (zv 5) cF (bU (zv 10)))) aB)))))))),?_⟩
  refine aO ⟨p,w',most,t,rfl,hp,⟨by omega,by omega⟩,by show t < 1000000000000;omega,fun r0 H1 ra rb bz ud=>⟨p,w',1+r0,t+1,rfl,bz,⟨by omega,by omega⟩,by show t+1+20 < 1000000000000;omega,fun L ns H2 ua hL WN Bd y_ gm AF=>?_⟩⟩
  have Ku:ns.length<=10/\1<=ns.length:=by omega
  have tL:iz H2 L ns:=⟨hL,by intro e;rw [e] at Ku;simp at Ku,by omega,fun n hn=>(y_ n hn).2⟩
  have Kv:Sm p w' H H2:=ud.trans AF
  refine aO ⟨(show 0<=sizeLine by decide),fun R hR=>?_⟩
  have BC:R≠p:=gm.ne1 hR
  have BD:R≠w':=gm.ne2 hR
  have Kw:H R=none:=Kv.free hR BC BD
  have Kx:R≠L:=fun e=>by rw [e,hL] at hR;cases hR
  refine bB (fun σ' H'=>∃ (v6 v7 v8 v9:Option V) (xs:List V) (rs:List (Str×V)),σ'=[some (.ref p),some (.int most),some (.ref wd),some (.ref so),some (.ref L),some (.ref R),v6,v7,v8,v9,none]/\H' R=some (.lst xs)/\h_ H' xs (aq rs)/\rs.map (·.1)=ns/\qw H' ns ws rs/\ck H' p w' (t+21+60*10)/\Sm p w' H H') ?_ ?_
  ·intro nx bg
   refine ⟨L,_,rfl,ae.of (by rw [aH Kx.symm];exact hL),nA (nD (ns.map V.str)) (fun i σ' H'=>∃ (v6 v7 v8 v9:Option V) (xs:List V) (rs:List (Str×V)),σ'=[some (.ref p),some (.int most),some (.ref wd),some (.ref so),some (.ref L),some (.ref R),v6,v7,v8,v9,none]/\H' R=some (.lst xs)/\h_ H' xs (aq rs)/\rs.map (·.1)=ns.take i/\qw H' ns ws rs/\iz H' L ns/\ck H' p w' (t+21+60*i)/\Sm p w' H H')
    ⟨none,none,none,none,[],[],rfl,aA,jA,rfl,⟨(fun _ h=>nomatch h),(fun _ h=>nomatch h)⟩,tL.same (aa.upd hR _),gm.same (aa.upd hR _),Kv.upd Kw⟩ (by rintro i τ H' _ ⟨_,_,_,_,_,_,_,_,_,_,_,tl,_⟩;exact ae.of tl.e) ?_ ?_⟩
   ·rintro i σ' H3 T0 hi ⟨v6,v7,v8,v9,xs,rs,rfl,q1,q2,q3,q4,q5,q6,q7⟩ yx
    rw [Ql] at hi
    rw [cA ns i hi]
    have BA:ns[i]? =some (ns.getD i ""):=by rw [Qb,Qa hi];rfl
    generalize ns.getD i ""=nm at BA
    generalize Uo:upd H3 T0 (.tup [.int (i:Int),.str nm])=H4
    have s4:aa H3 H4:=by rw [<- Uo];exact aa.upd yx _
    have jx:=q6.same s4
    have iy:Sm p w' H H4:=q7.trans s4.sm
    have GP:=hso.sm hp iy
    have WO:=GP.pos
    have WQ:=GP.few
    have WR:i < 10:=by omega
    refine aO (.inl ⟨_,.inl (ae.of GP.e),p,w',_,t+21+60*i,rfl,jx,⟨by rw [Ql];omega,by rw [Ql];omega⟩,by show t+21+60*i < 1000000000000;omega,fun r H5 a0 a1 BE AG=>?_⟩)
    rw [Ql] at a1
    have GQ:Sm p w' H H5:=iy.trans AG
    have Ky:=hso.sm hp GQ
    obtain ⟨sort,Up,Uq,uz⟩:=Ky.at r a0 a1
    refine ⟨_,_,.inl (ae.of Ky.e),Up,?_⟩
    have Kz:=(q5.same s4).sm jx AG
    refine aO ⟨p,w',wd,L,sort,t+21+60*i+1,ws,ns,rfl,BE,by show t+21+60*i+1+40 < 1000000000000;omega,hw.sm hp GQ,EE,za,Kz,fun z hz=>(y_ z hz).1,Um _ (QC Uq),fun b ys H6 hb By htb vq xg=>?_⟩
    have AH:Sm p w' H H6:=GQ.trans xg
    have Ur:Tk H3 H6:=(s4.ts.trans (jx.ts AG)).trans (BE.ts xg)
    have GR:=Kz.sm BE xg
    have GS:H6 R=some (.lst xs):=xg _ _ (AG _ _ (s4 _ _ q1) BC BD) BC BD
    refine bB (fun σ' H7=>∃ (hv:V) (KA:Option V),σ'=[some (.ref p),some (.int most),some (.ref wd),some (.ref so),some (.ref L),some (.ref R),some (.int (i:Int)),some (.str nm),KA,some hv,none]/\jh H7 ns ws hv (Bc ns nm)/\Tk H6 H7/\H7 R=some (.lst xs)/\iz H7 L ns/\ck H7 p w' (t+21+60*i+50)/\Sm p w' H H7) ?_ ?_
    ·intro vo jl
     refine ⟨rfl,_,rfl,bq (fun h1=>?_) (fun h1=>?_)⟩
     ·refine ⟨rfl,_,rfl,bq (fun h2=>?_) (fun h2=>?_)⟩
      ·refine ⟨(show 1<=sizeLine by decide),fun c hc=>?_⟩
       refine jl _ _ ⟨.ref c,_,rfl,vL aA (fun _ h=>nomatch h),(aa.upd hc _).ts,(aa.upd hc _) _ _ GS,GR.same (aa.upd hc _),(vq.same (aa.upd hc _)).mono (by omega),AH.trans (aa.upd hc _).sm⟩
      ·rw [QE,aZ] at h2
       have Ke:0 < i:=by have:=Qu h2;omega
       refine ⟨p,w',(i:Int),_,rfl,vq,⟨by omega,by omega⟩,by show t+21+60*i+1+40 < 1000000000000;omega,fun r2 H7 b0 b1 GU EJ=>?_⟩
       have GV:=GR.sm vq EJ
       obtain ⟨y,GO,BB,Kr⟩:=GV.at r2 b0 (by omega)
       refine ⟨_,_,.inl (ae.of GV.e),GO,(show 2<=sizeLine by decide),fun c hc=>?_⟩
       refine jl _ _ ⟨.ref c,_,rfl,Q4 aA (y_ _ (QC BB)).1 (QC BB) (fun y' e=>?_),(vq.ts EJ).trans (aa.upd hc _).ts,(aa.upd hc _) _ _ (EJ _ _ GS BC BD),GV.same (aa.upd hc _),(GU.same (aa.upd hc _)).mono (by omega),(AH.trans EJ).trans (aa.upd hc _).sm⟩
       ·cases e
        exact ⟨r2.toNat,i,by omega,BB,BA⟩
     ·rw [QE,bK] at h1
      have gq:sort≠"as":=fun e=>by rw [e] at h1;simp at h1
      exact jl _ _ ⟨.ref b,_,rfl,(By gq).imp (fun o e y e'=>by rw [e] at e';cases e'),Tk.refl,GS,GR,vq.mono (by omega),AH⟩
    ·rintro σ' H7 z0;refine hdn fun Gz9 zG9=>?_;obtain ⟨hv,KA,rfl,g1,g3,g4,g5,g6,g7⟩:=z0;refine zG9 ?_
     refine ⟨.inl ⟨rfl,_,ae.of g4⟩,(show 2<=sizeLine by decide),fun c hc=>?_⟩
     have GW:R≠c:=aN g4 hc
     have ji:xs.length=i:=by
      have h1:=q2.1
      have h2:=congrArg List.length q3
      simp at h1 h2
      omega
     refine ⟨R,xs,.ref c,rfl,rfl,by rw [aH GW];exact g4,by omega,?_⟩
     have KC:Tk H7 (upd (upd H7 c (.tup [.str nm,hv])) R (.lst (xs++[.ref c]))):=((aa.upd hc _).ts).set (by rw [aH GW];exact g4) (by intro _ z;cases z)
     have Us:upd (upd H7 c (.tup [.str nm,hv])) R (.lst (xs++[.ref c])) c=some (.tup [.str nm,hv]):=by rw [aH GW.symm];exact aA
     have KG:Tk H3 (upd (upd H7 c (.tup [.str nm,hv])) R (.lst (xs++[.ref c]))):=(Ur.trans g3).trans KC
     have Ut:L≠R:=Kx.symm
     refine ⟨_,_,_,_,xs++[.ref c],rs++[(nm,hv)],rfl,aA,mL (q2.ts KG) Us,?_,?_,⟨by rw [aH Ut,aH (aN g5.e hc)];exact g5.e,g5.ne,g5.few,g5.wd⟩,((g6.same (aa.upd hc _)).upd BC BD).mono (by omega),(g7.trans (aa.upd hc _).sm).upd Kw⟩
     ·rw [Qm,q3,Qs,BA];rfl
     ·have:=((q4.tk KG).add (n:=nm) (v:=hv) (QC BA) (g1.tk KC))
      exact this.perm fun r hr=>by
       rcases List.mem_append.mp hr with hr | hr
       ·exact Qh _ hr
       ·rw [List.mem_singleton.mp hr];exact List.mem_cons_self
   ·rintro σ' H' z0;refine hdn fun Gz9 zG9=>?_;obtain ⟨v6,v7,v8,v9,xs,rs,rfl,q1,q2,q3,q4,q5,q6,q7⟩:=z0;refine zG9 ?_
    rw [Ql,Qo] at q3
    rw [Ql] at q6
    exact bg _ _ ⟨v6,v7,v8,v9,xs,rs,rfl,q1,q2,q3,q4,q6.mono (by omega),q7⟩
  ·rintro σ' H3 z0;refine hdn fun Gz9 zG9=>?_;obtain ⟨v6,v7,v8,v9,xs,rs,rfl,q1,q2,q3,q4,q6,q7⟩:=z0;refine zG9 ?_
   have Aq:rs.length=ns.length:=by rw [<- q3,Ql]
   have ji:xs.length=rs.length:=by have:=q2.1;simpa using this
   refine aO (.inl ⟨_,.inl (ae.of q1),p,w',_,_,rfl,q6,⟨by omega,by omega⟩,by show t+21+60*10 < 1000000000000;omega,fun r H4 a0 a1 jx iy=>?_⟩)
   have g1:H4 R=some (.lst xs):=iy _ _ q1 BC BD
   have er:r=((r.toNat:Nat):Int):=by omega
   refine ⟨r,rfl,Or.inr (Or.inl ⟨R,xs,rfl,ae.of g1,fun p1 KH=>?_⟩)⟩
   have Uu:R≠p1:=aN g1 KH
   refine ⟨r,rfl,Or.inr (Or.inl ⟨R,xs,rfl,ae.of (by rw [aH Uu];exact g1),fun p2 ki=>?_⟩)⟩
   have Uv:p1≠p2:=fun e=>by rw [<- e,aA] at ki;cases ki
   refine ⟨_,_,by rw [aH Uv];exact aA,aA,?_,fun p3 zc=>⟨p3,_,rfl,.inl ⟨ae.of aA,fun a ha=>?_⟩⟩⟩
   ·have h1:=fZ xs (some r) none
    have h2:=fZ xs none (some r)
    omega
   ·have e1:f_ xs (some r) none=xs.drop r.toNat:=by rw [er];exact dL xs r.toNat
    have e2:f_ xs none (some r)=xs.take r.toNat:=by rw [er];exact uI xs r.toNat
    rw [e1,e2] at ha ⊢
    have s5:=(((aa.upd KH (.lst (xs.drop r.toNat))).trans (aa.upd (by rw [e1] at ki;exact ki) (.lst (xs.take r.toNat)))).trans (aa.upd (by rw [e1,e2] at zc;exact zc) (.lst (xs.drop r.toNat++xs.take r.toNat)))).trans (aa.upd ha (.tup (xs.drop r.toNat++xs.take r.toNat)))
    have EH:=(q6.ts iy).trans s5.ts
    have pm:=z3 rs r.toNat
    have Uw:((rs.drop r.toNat++rs.take r.toNat).map (·.1)).Perm (rs.map (·.1)):=pm.map _
    have Ux:=(q4.tk EH).perm (fun r' rh=>pm.mem_iff.mp rh)
    obtain ⟨rows,rt⟩:=RT.of aA (wJ (q2.ts EH) r.toNat) (by rw [<- q3];exact Uw) Bd y_ (by omega) (by omega) Ux
    exact k a _ rows ns _ rt (by omega) ((jx.same s5).mono (by omega)) ((q7.trans iy).trans s5.sm)
def KI:Sp:=fun vs H Q _=>∃ (a:Addr) (xs:List V) (rows:List ff) (ns:List Str),vs=[.ref a]/\(H a=some (.lst xs)\/H a=some (.tup xs))/\RV H xs rows/\FZ ns rows/\rows.length<=300/\∀ (L:Addr) (H':Hp),H L=none->aa H H'->H' L=some (.lst ((rows.map cy).map V.str))->Q (.ref L) H'
theorem nO (T:Txt K mg w):av P w K mg base 1 "_law_tlines" ["told"] KI:=by
 refine T.pG.fj bM (fun vs H Q E h=>?_) (fun f ak A outer s H vs Q E hr h=>?_)
 ·obtain ⟨a,xs,rows,ns,rfl,_⟩:=h
  rfl
 ·refine hdn fun Gz9 zG9=>?_;obtain ⟨a,xs,rows,ns,rfl,ha,rv,ok,hl,k⟩:=h;refine zG9 ?_
  have hsz:sizeLine=16777216:=QL
  have az:=Qx (cK hr)
  have ji:=rv.len
  refine ⟨_,(aE (aX (i:=1) bM.nd rfl (Or.inl rfl) (cL aB))
   (aE (fN PassesOwn.never rfl (lQ K (zv 0)) (k9 K (n:=2) rfl (cG (aS (i:=2) bM.nd rfl (Or.inl rfl)) (cG (aS (i:=3) bM.nd rfl (Or.inl rfl)) iC))) (aE (aX (i:=4) bM.nd rfl (Or.inl rfl) (cL (aD (zv 2) (aC aK aB))))
   (aE (bP (aP (iY az) (bE (bF K) (zv 3) aF (fun _ _=>rfl)) aK (ay _)) (aI (eU (f7 K QH QJ QK dQ (zv 4) (aJ (bE (bF K) (zv 3) aF (fun _ _=>rfl)) aB)))) aU)
   (aE (fN PassesOwn.never rfl (lQ K (bZ (i5 K) (zv 3) (bU aF) cF)) (aS (i:=5) bM.nd rfl (Or.inl rfl)) (aI (bP (cE (aG bI (by rfl) T.aM PyProof.Rows.boot_isinstance (aD (zv 5) (aD (cP (v:=.ty "str") (by rfl) T.Au PyProof.Rows.boot_str rfl) aB)))) (aI (eU (f7 K QH QJ QK dQ (zv 4) (aD (zv 5) aB)))) (aI (fN PassesOwn.never rfl (lQ K (zv 5)) (k9 K (n:=2) rfl (cG (aS (i:=6) bM.nd rfl (Or.inl rfl)) (cG (aS (i:=7) bM.nd rfl (Or.inl rfl)) iC))) (aI (aX (i:=4) bM.nd rfl (Or.inl rfl) (bQ bC (zv 4) (cL (aD (zv 6) (aD (zv 7) aB)))))))))))
   (aI (eU (f7 K QH QJ QK dQ (zv 1) (aV (f7 K PySem.F.plainAttrs_str PySem.F.slot_str_join PySem.F.type_str_join (fL K) aK (aD (zv 4) aB)) aB))))))))
   (aI (aT (zv 1))))),?_⟩
  refine aO ⟨(show 0<=sizeLine by decide),fun L hL=>?_⟩
  have sL:=aa.upd hL (.lst [])
  have gL:upd H L (.lst []) L=some (.lst []):=aA
  generalize upd H L (.lst [])=H1 at sL gL
  have KJ:H1 a=some (.lst xs)\/H1 a=some (.tup xs):=ha.imp (sL _ _) (sL _ _)
  refine bB (fun σ' H'=>∃ (v2 v3 v4 v5 v6 v7:Option V),σ'=[some (.ref a),some (.ref L),v2,v3,v4,v5,v6,v7]/\H' L=some (.lst ((rows.map cy).map V.str))/\aa H H') ?_ ?_
  ·intro nx bg
   refine Q2 (K:=K) KJ (fun i σ' H'=>∃ (v2 v3 v4 v5 v6 v7:Option V),σ'=[some (.ref a),some (.ref L),v2,v3,v4,v5,v6,v7]/\H' L=some (.lst (((rows.take i).map cy).map V.str))/\aa H H'/\(H' a=some (.lst xs)\/H' a=some (.tup xs))) ⟨none,none,none,none,none,none,rfl,gL,sL,KJ⟩ ?_ ?_ ?_
   ·rintro i τ H' hi ⟨_,_,_,_,_,_,_,_,s,_⟩ o ho
    rcases ha with h | h
    ·rw [sL _ _ h] at ho;rw [<- ho];exact s _ _ h
    ·rw [sL _ _ h] at ho;rw [<- ho];exact s _ _ h
   ·rintro i σ' H2 hi z0;refine hdn fun Gz9 zG9=>?_;obtain ⟨v2,v3,v4,v5,v6,v7,rfl,q1,q2,q3⟩:=z0;refine zG9 ?_
    have uc:i < rows.length:=by omega
    obtain ⟨b,v,r1,r2,r3⟩:=rv.mem uc
    rw [r1]
    have hm:=ok _ (Qj uc)
    have DO:=q2 _ _ r2
    have r3':=r3.tk q2.ts
    have et:((rows.take (i+1)).map cy).map V.str=((rows.take i).map cy).map V.str++[.str (cy rows[i])]:=by
     rw [Qs,Qa uc,Qm,Qm];rfl
    rw [et]
    have Uy:(((rows.take i).map cy).map V.str).length<=300:=by simp only [Ql,List.length_take];omega
    generalize ((rows.take i).map cy).map V.str=ls at q1 Uy
    clear et r2 r3 r1
    generalize rows[i]=r at hm DO r3'
    obtain ⟨n,h⟩:=r
    obtain ⟨hn,hok⟩:=hm
    have wl:h.words.length<=21:=kT hok
    refine oG DO ?_
    refine aO ⟨(show 2<=sizeLine by decide),fun W hW=>?_⟩
    have sW:=aa.upd hW (.lst [.str n,.str "="])
    have gW:upd H2 W (.lst [.str n,.str "="]) W=some (.lst [.str n,.str "="]):=aA
    dsimp only
    generalize upd H2 W (.lst [.str n,.str "="])=H3 at sW gW
    have WS:∃ c,v=.ref c:=by cases r3'<;>exact ⟨_,rfl⟩
    refine bB (fun σ' H'=>σ'=[some (.ref a),some (.ref L),some (.str n),some v,some (.ref W),v5,v6,v7]/\H' W=some (.lst ((n::"="::h.pre).map V.str))/\aa H2 H') ?_ ?_
    ·intro vo jl
     have app:∀ (z:Str),h.pre=[z]->vo [some (.ref a),some (.ref L),some (.str n),some v,some (.ref W),v5,v6,v7] (upd H3 W (.lst ([.str n,.str "="]++[.str z]))):=fun z hz=>jl _ _ ⟨rfl,by rw [aA,hz];rfl,sW.put hW⟩
     cases r3' with
     | @one c z e=>
      have hz:(true^^decide (V.str z=V.str "as"))=true:=by
       rw [bK]
       rcases hok with rfl | rfl<;>decide+kernel
      refine ⟨_,.str z,.inr (ai.of (sW _ _ e)),aR _ _,rfl,_,rfl,?_⟩
      rw [hz]
      refine bc ⟨.inl ⟨rfl,_,ae.of gW⟩,_,.str z,.inr (ai.of (sW _ _ e)),aR _ _,W,_,.str z,rfl,rfl,gW,(show 2 < sizeLine by decide),app z rfl⟩
     | @as c y e=>
      refine ⟨_,.str "as",.inr (ai.of (sW _ _ e)),aR _ _,rfl,_,rfl,?_⟩
      have hz:(true^^decide (V.str "as"=V.str "as"))=false:=by simp
      rw [hz]
      exact e_ (jl _ _ ⟨rfl,gW,sW⟩)
     | @way c x y e=>
      have hz:(true^^decide (V.str "way"=V.str "as"))=true:=by rw [bK];decide+kernel
      refine ⟨_,.str "way",.inr (ai.of (sW _ _ e)),aR _ _,rfl,_,rfl,?_⟩
      rw [hz]
      refine bc ⟨.inl ⟨rfl,_,ae.of gW⟩,_,.str "way",.inr (ai.of (sW _ _ e)),aR _ _,W,_,.str "way",rfl,rfl,gW,(show 2 < sizeLine by decide),app "way" rfl⟩
     | @prs c c' z xs' ps e e' p=>
      have hz:(true^^decide (V.str z=V.str "as"))=true:=by
       rw [bK]
       rcases hok.1 with rfl | rfl<;>decide+kernel
      refine ⟨_,.str z,.inr (ai.of (sW _ _ e)),aR _ _,rfl,_,rfl,?_⟩
      rw [hz]
      refine bc ⟨.inl ⟨rfl,_,ae.of gW⟩,_,.str z,.inr (ai.of (sW _ _ e)),aR _ _,W,_,.str z,rfl,rfl,gW,(show 2 < sizeLine by decide),app z rfl⟩
    ·rintro σ' H4 ⟨rfl,g4,s4⟩
     refine bB (fun σ' H'=>∃ (W':Addr) (v5 v6 v7:Option V),σ'=[some (.ref a),some (.ref L),some (.str n),some v,some (.ref W'),v5,v6,v7]/\H' W'=some (.lst ((n::"="::h.words).map V.str))/\aa H2 H') ?_ ?_
     ·intro vo jl
      have EK:∀ (x:V) (ys:List V),¬(HT.bf (x::ys).length 0 (some 1)=0/\HT.bf (x::ys).length (x::ys).length none=(x::ys).length):=fun x ys ⟨h1,_⟩=>by
       have:HT.bf (x::ys).length 0 (some ((1:Nat):Int))=0:=h1
       rw [HT.gX] at this
       simp at this
      have KL:∀ (x:V) (ys:List V),f_ (x::ys) (some 1) none=ys:=fun x ys=>dL (x::ys) 1
      rcases r3'.shape with ⟨c,x0,ys,rfl,e,hw,EL⟩ | ⟨c,c',z,xs',ps,rfl,rfl,e,e',p⟩
      ·refine ⟨1,rfl,Or.inr (Or.inr ⟨c,_,rfl,ai.of (s4 _ _ e),EK _ _,fun p1 bz=>?_⟩)⟩
       rw [KL]
       have sp:=aa.upd bz (.tup (ys.map V.str))
       have gp:upd H4 p1 (.tup (ys.map V.str)) p1=some (.tup (ys.map V.str)):=aA
       have CY:=s4.trans sp
       have CZ:=sp _ _ g4
       dsimp only
       generalize upd H4 p1 (.tup (ys.map V.str))=H5 at sp gp CY CZ
       have BF:p1≠W:=fun e=>by rw [e,g4] at bz;cases bz
       refine Or.inr ⟨⟨_,ai.of gp⟩,dW (D:={nx:=vo,rt:=Q}) (cU (ys.map V.str)) (fun j σ' H'=>∃ (v5:Option V),σ'=[some (.ref a),some (.ref L),some (.str n),some (.ref c),some (.ref W),v5,v6,v7]/\H' W=some (.lst ((n::"="::(h.pre++ys.take j)).map V.str))/\aa H2 H'/\H' p1=some (.tup (ys.map V.str))) ⟨_,rfl,by rw [List.take_zero,List.append_nil];exact CZ,CY,gp⟩ (by rintro j τ H' _ ⟨_,_,_,_,h⟩;exact ai.of h) ?_ ?_⟩
       ·rintro j σ' H6 hj ⟨BG,rfl,t1,t2,t3⟩
        rw [Ql] at hj
        rw [cA ys j hj]
        have l_:ys.take (j+1)=ys.take j++[ys.getD j ""]:=by
         rw [Qs,Qb,Qa hj];rfl
        generalize ys.getD j ""=y at l_
        refine ⟨by decide,_,rfl,_,rfl,?_⟩
        have hpl:h.pre.length<=1:=by cases h<;>simp [Hd.pre]
        refine bc ⟨.inl ⟨rfl,_,ae.of t1⟩,W,_,.str y,rfl,rfl,t1,by simp only [Ql,List.length_cons,Qk,List.length_take];omega,?_⟩
        refine ⟨_,rfl,?_,t2.put hW,by rw [aH BF];exact t3⟩
        rw [aA,l_,<- List.append_assoc]
        simp only [List.map_cons,Qm,List.cons_append,List.map_nil]
       ·rintro σ' H6 ⟨BG,rfl,t1,t2,t3⟩
        rw [Ql,Qo,<- hw] at t1
        exact jl _ _ ⟨W,_,_,_,rfl,t1,t2⟩
      ·have hpl:=p.len
       have DT:=hok.2.2.2
       refine ⟨1,rfl,Or.inr (Or.inr ⟨c,_,rfl,ai.of (s4 _ _ e),EK _ _,fun p1 bz=>?_⟩)⟩
       rw [KL]
       have sp:=aa.upd bz (.tup [.ref c'])
       have gp:upd H4 p1 (.tup [.ref c']) p1=some (.tup [.ref c']):=aA
       have CY:=s4.trans sp
       have CZ:=sp _ _ g4
       dsimp only
       generalize upd H4 p1 (.tup [.ref c'])=H5 at sp gp CY CZ
       refine Or.inr ⟨⟨_,ai.of gp⟩,dW (D:={nx:=vo,rt:=Q}) (cU [.ref c']) (fun j σ' H'=>∃ (W':Addr) (v5 v6 v7:Option V),σ'=[some (.ref a),some (.ref L),some (.str n),some (.ref c),some (.ref W'),v5,v6,v7]/\H' W'=some (.lst ((n::"="::(z::(if j=0 then [] else ps.flatMap fun p=>[p.1,p.2]))).map V.str))/\aa H2 H'/\H' p1=some (.tup [.ref c'])) ⟨_,_,_,_,rfl,CZ,CY,gp⟩ (by rintro j τ H' _ ⟨_,_,_,_,_,_,_,h⟩;exact ai.of h) ?_ ?_⟩
       ·rintro j σ' H6 hj z0;refine hdn fun Gz9 zG9=>?_;obtain ⟨W',BG,KN,KO,rfl,t1,t2,t3⟩:=z0;refine zG9 ?_
        have Uz:j=0:=by simp at hj;exact hj
        subst Uz
        have KP:=t2 _ _ e'
        refine ⟨by decide,"tuple",by show qj H6 (.ref c')=_;simp [qj,KP],_,rfl,?_⟩
        refine e_ (Or.inr ⟨⟨_,ai.of KP⟩,dW (cU xs') (fun m σ' H'=>∃ (W':Addr) (v6 v7:Option V),σ'=[some (.ref a),some (.ref L),some (.str n),some (.ref c),some (.ref W'),some (.ref c'),v6,v7]/\H' W'=some (.lst ((n::"="::(z::((ps.take m).flatMap fun p=>[p.1,p.2]))).map V.str))/\aa H2 H'/\H' p1=some (.tup [.ref c'])) ⟨W',_,_,rfl,t1,t2,t3⟩ (by rintro m τ H' _ ⟨_,_,_,_,_,s,_⟩;exact ai.of (s _ _ e')) ?_ ?_⟩)
        ·rintro m σ' H7 KQ ⟨W2,UA,UB,rfl,u1,u2,u3⟩
         have KR:m < ps.length:=by omega
         obtain ⟨cc,w1,w2⟩:=p.at_ m KQ KR
         have ex:xs'.getD m .af=.ref cc:=by rw [Qb,Qa KQ,w1];rfl
         rw [ex]
         refine oG (u2 _ _ w2) ?_
         refine ⟨(show 2<=sizeLine by decide),fun L3 UC=>?_⟩
         have s3:=aa.upd UC (.lst [.str ps[m].1,.str ps[m].2])
         have g3:upd H7 L3 (.lst [.str ps[m].1,.str ps[m].2]) L3=some (.lst [.str ps[m].1,.str ps[m].2]):=aA
         dsimp only
         generalize upd H7 L3 (.lst [.str ps[m].1,.str ps[m].2])=H8 at s3 g3
         have fl:=yR (ps.take m)
         have WT:(ps.take m).length<=10:=by rw [List.length_take];omega
         refine ⟨_,_,s3 _ _ u1,g3,by simp only [Ql,List.length_cons,List.length_nil];omega,fun W3 KS=>?_⟩
         refine ⟨W3,_,_,rfl,?_,(u2.trans s3).trans (aa.upd KS _),(s3.trans (aa.upd KS _)) _ _ u3⟩
         rw [aA,Qs,Qa KR,List.flatMap_append]
         simp
        ·rintro σ' H7 ⟨W2,UA,UB,rfl,u1,u2,u3⟩
         rw [hpl,Qo] at u1
         exact ⟨W2,_,_,_,rfl,u1,u2,u3⟩
       ·rintro σ' H6 z0;refine hdn fun Gz9 zG9=>?_;obtain ⟨W',BG,KN,KO,rfl,t1,t2,t3⟩:=z0;refine zG9 ?_
        exact jl _ _ ⟨W',_,_,_,rfl,t1,t2⟩
     ·rintro σ' H5 ⟨W',BG,KN,KO,rfl,g5,s5⟩
      have AI:=s5 _ _ q1
      refine ⟨.inl ⟨rfl,_,ae.of AI⟩,rfl,n::"="::h.words,ae.of g5,?_,L,ls,.str (cy (n,h)),rfl,rfl,AI,by omega,?_⟩
      ·have h1:=QZ (m:=8) fun w hw=>(dP (r:=(n,h)) hn hok w hw).2
       have h2:(n::"="::h.words).length<=23:=by simp only [List.length_cons];omega
       have h3:(" ":Str).length=1:=rfl
       show _+_*(" ":Str).length<=_
       rw [h3]
       have:=Nat.mul_le_mul_right 8 h2
       have e9:((n,h):ff).1::"="::((n,h):ff).2.words=n::"="::h.words:=rfl
       rw [e9] at h1
       omega
      ·refine ⟨_,_,_,_,_,_,rfl,aA,(q2.trans s5).put hL,?_⟩
       rcases ha with h | h
       ·exact .inl (((q2.trans s5).put hL) _ _ h)
       ·exact .inr (((q2.trans s5).put hL) _ _ h)
   ·rintro σ' H2 z0;refine hdn fun Gz9 zG9=>?_;obtain ⟨v2,v3,v4,v5,v6,v7,rfl,q1,q2,q3⟩:=z0;refine zG9 ?_
    rw [ji,Qo] at q1
    exact bg _ _ ⟨_,_,_,_,_,_,rfl,q1,q2⟩
  ·rintro σ' H2 z0;refine hdn fun Gz9 zG9=>?_;obtain ⟨v2,v3,v4,v5,v6,v7,rfl,q1,q2⟩:=z0;refine zG9 ?_
   exact k L _ hL q2 q1
theorem dO (T:Txt K mg w):av P w K mg base 1 "_law_tis_name" ["thing"] (spT bw):=by
 refine T.mQ.fj lJ (fun vs H Q E h=>?_) (fun f ak A outer s H vs Q E hr h=>?_)
 ·obtain ⟨x,d,rfl,_⟩:=h
  rfl
 ·obtain ⟨x,d,rfl,hd,k⟩:=h
  have az:=Qx (cK hr)
  have hsz:sizeLine=16777216:=QL
  refine ⟨_,(aE (bP (eZ (cS (cE (aG bI (by rfl) T.aM PyProof.Rows.boot_isinstance (aD (zv 0) (aD (cP (v:=.ty "str") (by rfl) T.Au PyProof.Rows.boot_str rfl) aB))))) (eZ (aP iT (aG (aL K) (by rfl) T.cz PySem.boot_len (aD (zv 0) aB)) aF (ay _)) (eC (aP mK (aG (aL K) (by rfl) T.cz PySem.boot_len (aD (zv 0) aB)) aF (ay _))))).pt (aI (aT eR)) aU)
   (aI (aT (eG (bX (j8 K) (zv 0) (cL (aC aK (aC aK (aC aK (aC aK (aC aK aB)))))) rfl) (gF (bX (bA az) (f7 K PySem.F.plainAttrs_str PySem.F.slot_str_strip PySem.F.type_str_strip yT (zv 0) (aC aK aB)) aK (ay _))))))),?_⟩
  obtain ⟨t,ht,h1,h2⟩:=hd.ty
  refine ⟨by decide,t,ht,_,rfl,?_⟩
  rw [h2]
  have k0:=k H (aa.refl H)
  cases hd with
  | @str z hz=>
   refine e_ ?_
   refine ⟨by omega,_,rfl,?_⟩
   have fin:∀ b,isName z=b->∀ H',aa H H'->Q (.bl b) H':=fun b e H' s'=>by have:=k H' s';rw [<- e];exact this
   refine bq (fun h3=>bc (fin false ?_ H (aa.refl H))) (fun h3=>?_)
   ·have:¬1<=z.length:=by have:=Qt h3;omega
    simp [isName,this]
   have rg:1<=z.length:=by have:=Qu h3;omega
   refine ⟨by omega,_,rfl,bq (fun h4=>fin false ?_ H (aa.refl H)) (fun h4=>?_)⟩
   ·have:¬z.length<=8:=by have:=Qt h4;omega
    simp [isName,this]
   have yg:z.length<=8:=by have:=Qu h4;omega
   refine cT ⟨(show 5<=sizeLine by decide),fun L hL=>⟨_,.inl (ae.of aA),rfl,rfl,_,rfl,?_⟩⟩
   have sL:=aa.upd hL (.lst [.str "all",.str "none",.str "way",.str "box",.str "pick"])
   have wo:mw (.str z) [.str "all",.str "none",.str "way",.str "box",.str "pick"]=nk.any fun y=>y==z:=by
    unfold mw
    rfl
   refine ye (fun h5=>?_) (fun h5=>?_)
   ·have GX:(nk.any fun y=>y==z)=false:=by rw [<- wo];simpa using h5
    refine ⟨rfl,by omega,rfl,?_⟩
    have e5:(false^^decide (V.str (Txt.stripChars z (Str.ofString "abcdefghijklmnopqrstuvwxyz"))=V.str (Str.ofString "")))=isName z:=by
     rw [QE,bK]
     have:=y6 z
     rw [show (Str.ofString "abcdefghijklmnopqrstuvwxyz")=dh from rfl]
     rw [show (Str.ofString "")=("":Str) from rfl,this]
     simp [isName,rg,yg,GX]
    rw [e5]
    exact fin _ rfl _ sL
   ·refine fin false ?_ _ sL
    have GX:(nk.any fun y=>y==z)=true:=by rw [<- wo];simpa using h5
    simp [isName,GX]
  | _=>exact bc k0
def GY:Sp:=fun vs H Q _=>∃ (x:V) (d:Dt) (L:Addr) (zs:List Str),vs=[x,.ref L]/\DD H x d/\H L=some (.lst (zs.map V.str))/\zs.length<=1000/\∀ H',aa H H'->Q (.bl (jj zs d)) H'
theorem lK (T:Txt K mg w):av P w K mg base 2 "_law_tis_head" ["head","names"] GY:=by
 have cD:av P w K mg base 1 "_law_tis_name" ["thing"] (spT bw):=dO T
 refine T.m3.fj d6 (fun vs H Q E h=>?_) (fun f ak A outer s H vs Q E hr h=>?_)
 ·obtain ⟨x,d,L,zs,rfl,_⟩:=h
  rfl
 ·refine hdn fun Gz9 zG9=>?_;obtain ⟨x,d,L,zs,rfl,hd,gL,WU,k⟩:=h;refine zG9 ?_
  have az:=Qx (cK hr)
  have hsz:sizeLine=16777216:=QL
  refine ⟨_,(aE (bP (eZ (cS (cE (aG bI (by rfl) T.aM PyProof.Rows.boot_isinstance (aD (zv 0) (aD (cP (v:=.ty "tuple") (by rfl) T.bN QG rfl) aB))))) (eZ (aP iT (aG (aL K) (by rfl) T.cz PySem.boot_len (aD (zv 0) aB)) aF (ay _)) (eC (cS (cE (aG bI (by rfl) T.aM PyProof.Rows.boot_isinstance (aJ (bE (bF K) (zv 0) aF (fun _ _=>rfl)) (aD (cP (v:=.ty "str") (by rfl) T.Au PyProof.Rows.boot_str rfl) aB)))))))).pt (aI (aT eR)) aU)
   (aE (bP (eZ (aP (bA az) (bE (bF K) (zv 0) aF (fun _ _=>rfl)) aK (ay _)) (eC (aP (bA az) (bE (bF K) (zv 0) aF (fun _ _=>rfl)) aK (ay _)))).pt (aI (aT (bX (bA az) (aG (aL K) (by rfl) T.cz PySem.boot_len (aD (zv 0) aB)) aF (ay _)))) aU)
   (aE (bP (eZ (aP (bA az) (bE (bF K) (zv 0) aF (fun _ _=>rfl)) aK (ay _)) (eC (aP (bA az) (bE (bF K) (zv 0) aF (fun _ _=>rfl)) aK (ay _)))).pt (aE (aX (i:=2) d6.nd rfl (Or.inl rfl) (bQ bC aF (cJ yA (by rfl) T.Tc PyProof.Rows.boot_int (hX (bX (bA az) (bE (bF K) (zv 0) aF (fun _ _=>rfl)) aK (ay _)) aB))))
   (aI (aT (eG (bX (bA az) (aG (aL K) (by rfl) T.cz PySem.boot_len (aD (zv 0) aB)) (zv 2) (ay _)) (gF (aG (cC K rfl) (by rfl) T.qa QX (aY (fV (own:=["x"]) (idx:=[1]) (N':=["x","names"]) (d4 (au dX) (["head","names","many","last","pair"]:List Str) (by decide+kernel)) rfl (lQ K (bZ (i5 K) (zv 0) (bU aF) cF)) (fun _ _ _ _ _ _=>(aS (i:=0) (show List.Nodup (["x","names"]:List Str) by decide+kernel) rfl (Or.inl rfl))) (fun _ _ _ _ _ _=>dF) (fun _ _ _ _ _ _=>(eG (aG bI (by rfl) T.aM PyProof.Rows.boot_isinstance (aD (zv 0) (aD (cP (v:=.ty "str") (by rfl) T.Au PyProof.Rows.boot_str rfl) aB))) (gF (bX (iO K) (zv 0) (zv 1) rfl))))) aB))))))) aU)
   (aE (bP (eZ (aP (j8 K) (bE (bF K) (zv 0) aF (fun _ _=>rfl)) (cL (aC aK (aC aK aB))) rfl) (eZ (aP (iY az) (aG (aL K) (by rfl) T.cz PySem.boot_len (aD (zv 0) aB)) aF (ay _)) (eC (cS (cE (aG bI (by rfl) T.aM PyProof.Rows.boot_isinstance (aJ (bE (bF K) (zv 0) aF (fun _ _=>rfl)) (aD (cP (v:=.ty "tuple") (by rfl) T.bN QG rfl) aB)))))))).pt (aI (aT eR)) aU)
   (aE (aX (i:=3) d6.nd rfl (Or.inl rfl) aK)
   (aE (fN PassesOwn.never rfl (lQ K (bE (bF K) (zv 0) aF (fun _ _=>rfl))) (aS (i:=4) d6.nd rfl (Or.inl rfl)) (aE (bP (eZ (cS (cE (aG bI (by rfl) T.aM PyProof.Rows.boot_isinstance (aD (zv 4) (aD (cP (v:=.ty "tuple") (by rfl) T.bN QG rfl) aB))))) (eZ (aP (iY az) (aG (aL K) (by rfl) T.cz PySem.boot_len (aD (zv 4) aB)) aF (ay _)) (eZ (cS (cE (bJ cD (hr.mono (by decide)) (aJ (bE (bF K) (zv 4) aF (fun _ _=>rfl)) aB)))) (eC (aP Q9 (bE (bF K) (zv 4) aF (fun _ _=>rfl)) (zv 3) (ay _)))))).pt (aI (aT eR)) aU)
   (aE (bP (eZ (cS (cE (aG bI (by rfl) T.aM PyProof.Rows.boot_isinstance (aJ (bE (bF K) (zv 4) aF (fun _ _=>rfl)) (aD (cP (v:=.ty "str") (by rfl) T.Au PyProof.Rows.boot_str rfl) aB))))) (eC (aP (j8 K) (bE (bF K) (zv 4) aF (fun _ _=>rfl)) (zv 1) rfl))).pt (aI (aT eR)) aU)
   (aI (aX (i:=3) d6.nd rfl (Or.inl rfl) (bE (bF K) (zv 4) aF (fun _ _=>rfl)))))))
   (aI (aT eR)))))))),?_⟩
  obtain ⟨t,ht,h1,h2⟩:=hd.ty
  refine ⟨by decide,t,ht,_,rfl,?_⟩
  rw [h1]
  have k0:=k H (aa.refl H)
  cases hd with
  | @tup a xs ds e hl hn b_=>
   refine e_ ?_
   refine Or.inl ⟨xs,.inr (ai.of e),_,rfl,bq (fun h3=>bc ?_) (fun h3=>?_)⟩
   ·have:ds=[]:=by have:=Qt h3;exact List.length_eq_zero_iff.mp (by omega)
    rw [this] at k0
    exact k0
   have rg:1<=xs.length:=by have:=Qu h3;omega
   obtain ⟨x0,xr,rfl⟩:∃ x0 xr,xs=x0::xr:=by
    match xs,rg with
    | x0::xr,_=>exact ⟨x0,xr,rfl⟩
   obtain ⟨d0,dr,rfl⟩:∃ d0 dr,ds=d0::dr:=by
    match ds,hl with
    | d0::dr,_=>exact ⟨d0,dr,rfl⟩
   have hd0:=b_ 0 (by simp) (by simp)
   simp only [List.getElem_cons_zero] at hd0
   have CT:∀ i (h:i < xr.length) (h':i < dr.length),DD H xr[i] dr[i]:=fun i a b=>by
    have:=b_ (i+1) (by simpa using a) (by simpa using b)
    simpa using this
   have BH:xr.length=dr.length:=by simpa using hl
   have WV:xr.length < 1000:=by simp at hn;omega
   obtain ⟨t0,Ey,DT,Gz⟩:=hd0.ty
   refine ⟨_,x0,.inr (ai.of e),aR _ _,by decide,t0,Ey,_,rfl,?_⟩
   rw [Gz]
   cases hd0 with
   | @str z hz=>
    refine e_ (bV ?_)
    have one:(z=="all"||z=="none")=true->∀ D0:Ends,D0.rt=Q->zq (j_ (Ae false) (sj (Co K) (fu (tV 0) ky)) (tC (V.int 1))) D0 [some (.ref a),some (.ref L),none,none,none] H:=by
     intro vt D0 qb
     refine Or.inl ⟨_,.inr (ai.of e),rfl,?_⟩
     show D0.rt _ _
     rw [qb]
     have e1:(false^^decide (V.int ((V.str z::xr).length:Int)=V.int 1))=jj zs (.tup (.str z::dr)):=by
      simp only [jj,vt,if_true]
      cases dr with
      | nil=>rw [List.length_cons,BH];rfl
      | cons y r=>
       have:¬(((V.str z::xr).length:Int)=1):=by rw [List.length_cons,BH,List.length_cons];omega
       rw [Qw (fun e=>this (V.int.inj e))];rfl
     rw [e1]
     exact k0
    refine ⟨_,.str z,.inr (ai.of e),aR _ _,rfl,_,rfl,?_⟩
    rw [QE,bK]
    refine bq (fun q1=>bc (one (by rw [show (z=="all")=true from q1];rfl) _ rfl)) (fun q1=>?_)
    refine ⟨_,.str z,.inr (ai.of e),aR _ _,rfl,_,rfl,?_⟩
    rw [QE,bK]
    refine bq (fun q2=>one (by rw [show (z=="none")=true from q2,Bool.or_true]) _ rfl) (fun q2=>?_)
    have vt:(z=="all"||z=="none")=false:=by rw [show (z=="all")=false from q1,show (z=="none")=false from q2];rfl
    refine bV ?_
    have two:(z=="way"||z=="as")=true->∀ D0:Ends,D0.rt=Q->uo (uq (j_ Iw (tC (V.int 2)) (sj Jd (fu (j_ (Ae false) (j_ (A9 K) (tV 0) (tC (V.int 0))) (tC (V.str "way"))) ky))) (jt 2)) (zq (A2 (j_ (Ae false) (sj (Co K) (fu (tV 0) ky)) (tV 2)) (sj (DJ K) (fu (Ck ["x"] [1] (iD K (Fl (fun x lo hi H Q=>DK x lo hi H Q\/DB K x lo hi H Q\/Dz K x lo hi H Q) (tV 0) (Fk (tC (V.int 1))) Fj)) (jt 0) Cj (A2 (sj FD (fu (tV 0) (fu (tC (V.ty "str")) ky))) (j_ (Cn K false) (tV 0) (tV 1)))) ky)))) D0 [some (.ref a),some (.ref L),none,none,none] H:=by
     intro nu D0 qb
     refine aO ⟨_,.str z,.inr (ai.of e),aR _ _,rfl,_,rfl,?_⟩
     rw [QE,bK]
     have zd:jj zs (.tup (.str z::dr))=(decide (dr.length=(if z=="way" then 2 else 1))&&dr.all (pe zs)):=by
      simp only [jj,vt,nu,if_true,Bool.false_eq_true,if_false]
     refine Or.inl ⟨_,.inr (ai.of e),rfl,_,rfl,?_⟩
     have ee:(false^^decide (V.int ((V.str z::xr).length:Int)=V.int (2+if (z=="way")=true then 1 else 0)))=decide (dr.length=(if z=="way" then 2 else 1)):=by
      rw [QE,aZ,List.length_cons,BH]
      cases z=="way"<;>(simp only [Bool.false_eq_true,if_false,if_true];rw [Bool.eq_iff_iff,decide_eq_true_iff,decide_eq_true_iff];omega)
     rw [ee]
     refine bq (fun q3=>?_) (fun q3=>?_)
     rotate_left
     ·show D0.rt _ _
      rw [qb]
      rw [zd,q3,Bool.false_and] at k0
      exact k0
     have yl:1<=dr.length:=by have:=Qt q3;split at this<;>omega
     have EK:¬(HT.bf (V.str z::xr).length 0 (some 1)=0/\HT.bf (V.str z::xr).length (V.str z::xr).length none=(V.str z::xr).length):=fun ⟨h1,_⟩=>by
      have:HT.bf (V.str z::xr).length 0 (some ((1:Nat):Int))=0:=h1
      rw [HT.gX] at this
      simp at this
     refine ⟨1,rfl,Or.inr (Or.inr ⟨a,_,rfl,ai.of e,EK,fun p1 bz=>?_⟩)⟩
     rw [show f_ (V.str z::xr) (some 1) none=xr from dL (V.str z::xr) 1]
     have s1:=aa.upd bz (.tup xr)
     have g1:upd H p1 (.tup xr) p1=some (.tup xr):=aA
     dsimp only
     generalize upd H p1 (.tup xr)=H1 at s1 g1
     refine Or.inr ⟨⟨xr,ai.of g1⟩,fun D hD=>?_⟩
     refine dJ (cU xr) (fun i=>pe zs (dr.getD i .bj)) (by omega) hD (fun H2 s2=>ai.of (s2 _ _ g1)) (fun i H2 k' hi s2 hk=>?_) (fun H2 s2 gj=>?_)
     ·have h5:=(CT i hi (by omega)).same (s1.trans s2)
      have e1:xr.getD i .af=xr[i]:=by simp [Qb,hi]
      have e2:dr.getD i .bj=dr[i]'(by omega):=by rw [Qb,Qa (by omega)];rfl
      rw [e2] at hk
      show A2 _ _ [some (xr.getD i .af),some (.ref L)] H2 k'
      rw [e1]
      obtain ⟨t1,Aw,_,KU⟩:=h5.ty
      refine ⟨by decide,t1,Aw,_,rfl,?_⟩
      rw [KU]
      generalize xr[i]=xx at h5 Aw
      generalize dr[i]'(by omega)=dd at h5 hk KU
      cases h5 with
      | @str y hy=>
       refine bc ⟨_,.inl (ae.of (s2 _ _ (s1 _ _ gL))),rfl,o7 zs,?_⟩
       rw [QE,rY]
       exact hk _ (aa.refl _)
      | _=>exact e_ (hk _ (aa.refl _))
     ·refine ⟨_,ae.of gj,?_⟩
      show D0.rt _ _
      rw [qb,BH,bT dr .bj (pe zs)]
      have:=k H2 (s1.trans s2)
      rw [zd,q3,Bool.true_and] at this
      exact this
    refine ⟨_,.str z,.inr (ai.of e),aR _ _,rfl,_,rfl,?_⟩
    rw [QE,bK]
    refine bq (fun q3=>bc (two (by rw [show (z=="way")=true from q3];rfl) _ rfl)) (fun q3=>?_)
    refine ⟨_,.str z,.inr (ai.of e),aR _ _,rfl,_,rfl,?_⟩
    rw [QE,bK]
    refine bq (fun q4=>two (by rw [show (z=="as")=true from q4,Bool.or_true]) _ rfl) (fun q4=>?_)
    have nu:(z=="way"||z=="as")=false:=by rw [show (z=="way")=false from q3,show (z=="as")=false from q4];rfl
    refine bV ?_
    have zd:jj zs (.tup (.str z::dr))=if dj z then F1 zs dr else false:=by
     simp only [jj,vt,nu,Bool.false_eq_true,if_false]
    refine ⟨_,.str z,.inr (ai.of e),aR _ _,(show 2<=sizeLine by decide),fun L2 BI=>⟨_,.inl (ae.of aA),rfl,rfl,_,rfl,?_⟩⟩
    have vy:=aa.upd BI (.lst [.str "box",.str "pick"])
    generalize upd H L2 (.lst [.str "box",.str "pick"])=H1 at vy
    have ew:(true^^mw (.str z) [.str "box",.str "pick"])= !dj z:=by rw [jC];simp
    rw [ew]
    cases KW:dj z with
    | false=>
     refine bc (bc ?_)
     have:=k H1 vy
     rw [zd,KW] at this
     exact this
    | true=>
     refine e_ ?_
     refine Or.inl ⟨_,.inr (ai.of (vy _ _ e)),rfl,_,rfl,?_⟩
     rw [KW,if_pos rfl] at zd
     have k1:=k H1 vy
     rw [zd] at k1
     refine bq (fun q5=>bc ?_) (fun q5=>?_)
     ·have gq:dr.length≠1:=fun e1=>by
       rw [List.length_cons,BH,e1] at q5
       exact absurd q5 (by decide)
      rw [Q_ gq] at k1
      exact k1
     have BJ:dr.length=1:=by
      have:=q5
      rw [List.length_cons,BH] at this
      simp only [Bool.true_xor,Bool.not_eq_false',decide_eq_true_eq] at this
      have:=V.int.inj this
      omega
     obtain ⟨x1,rfl⟩:∃ x1,xr=[x1]:=by
      match xr,(show xr.length=1 by omega) with
      | [x1],_=>exact ⟨x1,rfl⟩
     obtain ⟨d1,rfl⟩:∃ d1,dr=[d1]:=by
      match dr,BJ with
      | [d1],_=>exact ⟨d1,rfl⟩
     have GZ:=(CT 0 (by simp) (by simp)).same vy
     simp only [List.getElem_cons_zero] at GZ
     obtain ⟨t1,Aw,G0,_⟩:=GZ.ty
     refine ⟨_,x1,.inr (ai.of (vy _ _ e)),rfl,by decide,t1,Aw,_,rfl,?_⟩
     rw [G0]
     cases GZ with
     | @tup b xs' ps e' fi hn' gb=>
      refine e_ (bV ?_)
      refine nZ ?_
      refine bB (fun σ' H'=>aa H1 H'/\kh zs "" ps=true) ?_ ?_
      ·intro nx bg
       refine ⟨_,.ref b,.inr (ai.of (vy _ _ e)),rfl,Or.inr ⟨⟨_,ai.of e'⟩,dW (cU xs') (fun i σ' H'=>∃ (last:Str) (v4:Option V),σ'=[some (.ref a),some (.ref L),none,some (.str last),v4]/\aa H1 H'/\kh zs "" ps=kh zs last (ps.drop i)) ⟨"",none,rfl,aa.refl _,rfl⟩ (by rintro i τ H' _ ⟨_,_,_,s,_⟩;exact ai.of (s _ _ e')) ?_ ?_⟩⟩
       ·rintro i σ' H2 hi ⟨last,v4,rfl,s2,hp⟩
        have KZ:i < ps.length:=by omega
        have hdi:=(gb i hi KZ).same s2
        have ex:xs'.getD i .af=xs'[i]:=by simp [Qb,hi]
        rw [ex]
        rw [List.drop_eq_getElem_cons KZ] at hp
        generalize xs'[i]=xi at hdi
        generalize ps[i]=di at hdi hp
        have k2:=fun (H':Hp) (s':aa H2 H')=>k H' ((vy.trans s2).trans s')
        rw [zd] at k2
        have k3:∀ H',aa H2 H'->kh zs last (di::ps.drop (i+1))=false->Q (.bl false) H':=fun H' s' e9=>by
         have:Q (.bl (kh zs "" ps)) H':=k2 H' s'
         rw [hp,e9] at this
         exact this
        obtain ⟨ti,l_,xf,_⟩:=hdi.ty
        refine ⟨by decide,ti,l_,_,rfl,?_⟩
        rw [xf]
        cases hdi with
        | @tup c ys es ec EM WW K0=>
         refine e_ ?_
         refine Or.inl ⟨_,.inr (ai.of ec),rfl,_,rfl,?_⟩
         refine bq (fun q6=>bc (k3 H2 (aa.refl _) ?_)) (fun q6=>?_)
         ·match es,EM with
          | [],_=>rfl
          | [_],_=>rfl
          | [_,_],EM=>
           have G1:ys.length=2:=EM
           rw [G1] at q6
           exact absurd q6 (by decide)
          | _::_::_::_,_=>rfl
         have EL:ys.length=2:=by
          simp only [Bool.true_xor,Bool.not_eq_false',decide_eq_true_eq] at q6
          have:=V.int.inj q6
          omega
         obtain ⟨y1,y2,rfl⟩:∃ y1 y2,ys=[y1,y2]:=by
          match ys,EL with
          | [y1,y2],_=>exact ⟨y1,y2,rfl⟩
         obtain ⟨e1,e2,rfl⟩:∃ e1 e2,es=[e1,e2]:=by
          match es,EM with
          | [e1,e2],_=>exact ⟨e1,e2,rfl⟩
         have G2:=K0 0 (by simp) (by simp)
         have EN:=K0 1 (by simp) (by simp)
         simp only [List.getElem_cons_zero,List.getElem_cons_succ] at G2 EN
         refine ⟨_,y1,.inr (ai.of ec),aR _ _,y1,e1,rfl,G2,fun H3 s3=>⟨_,rfl,?_⟩⟩
         refine wk (fun q7=>?_) (fun q7=>?_)
         rotate_left
         ·refine bc (k3 H3 s3 ?_)
          simp only [kh,q7,Bool.false_and]
         obtain ⟨y,rfl,rfl,WX⟩:=dS G2 q7
         refine ⟨_,.str y,.inr (ai.of (s3 _ _ ec)),aR _ _,y,last,rfl,rfl,_,rfl,?_⟩
         refine wk (fun q8=>?_) (fun q8=>?_)
         rotate_left
         ·refine k3 H3 s3 ?_
          simp only [kh,jn,q7,q8,Bool.true_and,Bool.false_and]
         refine bV ?_
         obtain ⟨t2,K1,_,G1⟩:=(EN.same s3).ty
         refine ⟨_,y2,.inr (ai.of (s3 _ _ ec)),rfl,by decide,t2,K1,_,rfl,?_⟩
         rw [G1]
         generalize ve:y2=z2 at EN K1
         cases EN with
         | @str yy WY=>
          subst ve
          refine e_ ⟨_,.str yy,.inr (ai.of (s3 _ _ ec)),rfl,_,.inl (ae.of (s3 _ _ (s2 _ _ (vy _ _ gL)))),rfl,o7 zs,_,rfl,?_⟩
          rw [rY]
          cases q9:decide (yy∈zs) with
          | false=>
           refine bc (k3 H3 s3 ?_)
           simp only [kh,jn,q7,q8,pe,q9,Bool.true_and,Bool.false_and]
          | true=>
           refine e_ (cT ⟨_,.str y,.inr (ai.of (s3 _ _ ec)),aR _ _,y,_,rfl,s2.trans s3,?_⟩)
           rw [hp]
           simp only [kh,jn,q7,q8,pe,q9,Bool.true_and]
         | _=>
          refine bc (bc (k3 H3 s3 ?_))
          simp only [kh,jn,q7,q8,pe,Bool.true_and,Bool.false_and]
        | _=>exact bc (k3 H2 (aa.refl _) rfl)
       ·rintro σ' H2 ⟨last,v4,rfl,s2,hp⟩
        rw [fi,List.drop_length] at hp
        exact bg _ _ ⟨s2,hp⟩
      ·rintro σ' H2 ⟨s2,hp⟩
       have:Q (.bl (kh zs "" ps)) H2:=by
        have:=k H2 (vy.trans s2)
        rw [zd] at this
        exact this
       rw [hp] at this
       exact this
     | _=>exact bc k1
   | _=>exact bc k0
  | _=>exact bc k0
def xh:Dt->Bool | .tup [a,_]=>bw a | _=>false
theorem xT (d:Dt):jg d=(xh d&&headD (CB d)):=by
 match d with
 | .str _=>rfl
 | .bj=>rfl
 | .tup []=>rfl
 | .tup [_]=>rfl
 | .tup [a,b]=>rfl
 | .tup (_::_::_::_)=>rfl
structure UD (H:Hp) (xs:List V) (ds:List Dt) (rs:List (Str×V)) (hs:List Dt):Prop where
 l1:rs.length=ds.length
 l2:hs.length=ds.length
 ps:h_ H xs (aq rs)
 dd:∀ i (h:i < ds.length) (h1:i < rs.length) (h2:i < hs.length),ds[i]=.tup [.str rs[i].1,hs[i]]/\DD H rs[i].2 hs[i]/\isName rs[i].1=true
theorem UE {v:V} (h:DD H v d) (hp:xh d=true):∃ b z x hd,v=.ref b/\H b=some (.tup [.str z,x])/\d=.tup [.str z,hd]/\DD H x hd/\isName z=true:=by
 cases h with
 | @tup b ys es e' fi hn' gb=>
  match es,fi,hp,gb with
  | [d1,d2],fi,hp,gb=>
   match ys,fi,e',gb with
   | [y1,y2],fi,e',gb=>
    obtain ⟨z1,q1,q2,q0⟩:=dS (gb 0 (by simp) (by simp)) hp
    have q3:=gb 1 (by simp) (by simp)
    simp only [List.getElem_cons_zero,List.getElem_cons_succ] at q1 q2 q3
    subst q1 q2
    exact ⟨b,z1,y2,d2,rfl,e',rfl,q3,q0⟩
 | str _=>exact Bool.noConfusion hp
 | af=>exact Bool.noConfusion hp
 | bl _=>exact Bool.noConfusion hp
 | int _=>exact Bool.noConfusion hp
 | lst _=>exact Bool.noConfusion hp
 | dct _=>exact Bool.noConfusion hp
theorem sI {H:Hp}:∀ {xs:List V} {ds:List Dt},xs.length=ds.length->(∀ i (h:i < xs.length) (h':i < ds.length),DD H xs[i] ds[i])->ds.all xh=true->∃ rs hs,UD H xs ds rs hs
 | [],[],_,_,_=>⟨[],[],rfl,rfl,jA,fun i h=>absurd h (by simp)⟩
 | x::xs,d::ds,hl,h,ha=>by
  rw [List.all_cons,Bool.and_eq_true] at ha
  obtain ⟨rs,hs,R⟩:=sI (xs:=xs) (ds:=ds) (by simpa using hl) (fun i a b=>h (i+1) (by simpa using a) (by simpa using b)) ha.2
  refine hdn fun Gz9 zG9=>?_;obtain ⟨b,z,v,hd,e1,e2,e3,e4,e6⟩:=UE (h 0 (by simp) (by simp)) ha.1;refine zG9 ?_
  simp only [List.getElem_cons_zero] at e1 e3
  refine ⟨(z,v)::rs,hd::hs,by simp [R.l1],by simp [R.l2],?_,fun i a b c=>?_⟩
  ·rw [e1]
   exact dC.mpr (.cons ⟨b,rfl,e2⟩ (dC.mp R.ps))
  ·cases i with
   | zero=>exact ⟨e3,e4,e6⟩
   | succ i=>exact R.dd i (by simpa using a) (by simpa using b) (by simpa using c)
theorem UG {Q:VK} {v:V} (e:σ[i]? =some (some v)) (h:Q v H):tV i σ H Q:=by
 unfold tV
 rw [e]
 exact h
theorem jP (T:Txt K mg w):av P w K mg base 3 "_law_tis_telling" ["thing"] (spT fm):=by
 have cD:av P w K mg base 1 "_law_tis_name" ["thing"] (spT bw):=dO T
 have mU:av P w K mg base 2 "_law_tis_head" ["head","names"] GY:=lK T
 refine T.kG.fj bH (fun vs H Q E h=>?_) (fun f ak A outer s H vs Q E hr h=>?_)
 ·obtain ⟨x,d,rfl,_⟩:=h
  rfl
 ·obtain ⟨x,d,rfl,hd,k⟩:=h
  have hu:=cK hr
  have az:=Qx (cK hr)
  have hsz:sizeLine=16777216:=QL
  refine ⟨_,(aE (bP (eZ (cS (cE (aG bI (by rfl) T.aM PyProof.Rows.boot_isinstance (aD (zv 0) (aD (cP (v:=.ty "tuple") (by rfl) T.bN QG rfl) aB))))) (eZ (aP iT (aG (aL K) (by rfl) T.cz PySem.boot_len (aD (zv 0) aB)) aF (ay _)) (eC (aP mK (aG (aL K) (by rfl) T.cz PySem.boot_len (aD (zv 0) aB)) aF (ay _))))).pt (aI (aT eR)) aU)
   (aE (bP (cS (cE (aG (cC K rfl) (by rfl) T.qa QX (aY (fV (own:=["row"]) (idx:=[]) (N':=["row"]) (d4 (au bW) (["thing","names","heads","name","here","turn"]:List Str) (by decide+kernel)) rfl (lQ K (zv 0)) (fun _ _ _ _ _ _=>(aS (i:=0) (show List.Nodup (["row"]:List Str) by decide+kernel) rfl (Or.inl rfl))) (fun _ _ _ _ _ _=>dF) (fun _ _ _ _ _ _=>(eG (aG bI (by rfl) T.aM PyProof.Rows.boot_isinstance (aD (zv 0) (aD (cP (v:=.ty "tuple") (by rfl) T.bN QG rfl) aB))) (eG (bX (bA az) (aG (aL K) (by rfl) T.cz PySem.boot_len (aD (zv 0) aB)) aF (ay _)) (gF (bJ cD (hr.mono (by decide)) (aJ (bE (bF K) (zv 0) aF (fun _ _=>rfl)) aB))))))) aB)))) (aI (aT eR)) aU)
   (aE (aX (i:=1) bH.nd rfl (Or.inr rfl) (fV (own:=["row"]) (idx:=[]) (N':=["row"]) (d4 (au bW) (["thing","names","heads","name","here","turn"]:List Str) (by decide+kernel)) rfl (lQ K (zv 0)) (fun _ _ _ _ _ _=>(aS (i:=0) (show List.Nodup (["row"]:List Str) by decide+kernel) rfl (Or.inl rfl))) (fun _ _ _ _ _ _=>dF) (fun _ _ _ _ _ _=>(bE (bF K) (zv 0) aF (fun _ _=>rfl)))))
   (aE (bP (eZ (aP (iY az) (yL rfl (by rfl) T.cz (by rfl) T.Ti (zv 1)) (aG (aL K) (by rfl) T.cz PySem.boot_len (aD (zv 1) aB)) (ay _)) (eC (cS (cE (aG (cC K rfl) (by rfl) T.qa QX (aY (fV (own:=["row"]) (idx:=[1]) (N':=["row","names"]) (d4 (au bW) (["thing","names","heads","name","here","turn"]:List Str) (by decide+kernel)) rfl (lQ K (zv 0)) (fun _ _ _ _ _ _=>(aS (i:=0) (show List.Nodup (["row","names"]:List Str) by decide+kernel) rfl (Or.inl rfl))) (fun _ _ _ _ _ _=>dF) (fun _ _ _ _ _ _=>(bJ mU (hr.mono (by decide)) (aJ (bE (bF K) (zv 0) aF (fun _ _=>rfl)) (aD (zv 1) aB))))) aB)))))).pt (aI (aT eR)) aU)
   (aE (aX (i:=2) bH.nd rfl (Or.inl rfl) (cJ (qC rfl) (by rfl) T.Te PyProof.Rows.boot_dict (aD (zv 0) aB)))
   (aE (fN PassesOwn.never rfl (lQ K (zv 1)) (aS (i:=3) bH.nd rfl (Or.inl rfl)) (aE (aX (i:=4) bH.nd rfl (Or.inl rfl) (zv 3))
   (aE (fN PassesOwn.never rfl (e8 (by rfl) T.eL (aV (aG (aL K) (by rfl) T.cz PySem.boot_len (aD (zv 1) aB)) aB)) (aS (i:=5) bH.nd rfl (Or.inl rfl)) (aI (bP (aP (bA az) (bE (bF K) (d9 hu (zv 2) (zv 4) (fun _ _=>rfl)) aF (fun _ _=>rfl)) aK (ay _)) (aI (aX (i:=4) bH.nd rfl (Or.inl rfl) (bE (bF K) (d9 hu (zv 2) (zv 4) (fun _ _=>rfl)) aF (fun _ _=>rfl)))) aU)))
   (aI (bP (aP (bA az) (bE (bF K) (d9 hu (zv 2) (zv 4) (fun _ _=>rfl)) aF (fun _ _=>rfl)) aK (ay _)) (aI (aT eR)) aU)))))
   (aI (aT eR)))))))),?_⟩
  obtain ⟨t,ht,h1,h2⟩:=hd.ty
  refine ⟨by decide,t,ht,_,rfl,?_⟩
  rw [h1]
  have k0:=k H (aa.refl H)
  cases hd with
  | @tup a xs ds e hl hn b_=>
   refine e_ ?_
   refine Or.inl ⟨xs,.inr (ai.of e),_,rfl,bq (fun h3=>bc ?_) (fun h3=>?_)⟩
   ·have:¬1<=ds.length:=by have:=Qt h3;omega
    have e1:fm (.tup ds)=false:=by simp [fm,this]
    rw [e1] at k0
    exact k0
   have rg:1<=ds.length:=by have:=Qu h3;omega
   refine Or.inl ⟨xs,.inr (ai.of e),_,rfl,bq (fun h4=>?_) (fun h4=>?_)⟩
   ·have:¬ds.length<=200:=by have:=Qt h4;omega
    have e1:fm (.tup ds)=false:=by simp [fm,this]
    rw [e1] at k0
    exact k0
   have yg:ds.length<=200:=by have:=Qu h4;omega
   refine bV ?_
   refine Or.inr ⟨⟨xs,ai.of e⟩,fun D hD=>?_⟩
   refine dJ (cU xs) (fun i=>xh (ds.getD i .bj)) (by omega) hD (fun H2 s2=>ai.of (s2 _ _ e)) (fun i H2 k' hi s2 hk=>?_) (fun H2 s2 gj=>?_)
   ·have h5:=(b_ i hi (by omega)).same s2
    have e1:xs.getD i .af=xs[i]:=by simp [Qb,hi]
    have e2:ds.getD i .bj=ds[i]'(by omega):=by rw [Qb,Qa (by omega)];rfl
    rw [e2] at hk
    show A2 _ _ [some (xs.getD i .af)] H2 k'
    rw [e1]
    generalize xs[i]=xx at h5
    generalize ds[i]'(by omega)=dd at h5 hk
    obtain ⟨t1,Aw,G0,_⟩:=h5.ty
    refine ⟨by decide,t1,Aw,_,rfl,?_⟩
    rw [G0]
    cases h5 with
    | @tup b ys es eb EO WZ d_=>
     refine bc (Or.inl ⟨_,.inr (ai.of eb),rfl,_,rfl,?_⟩)
     refine bq (fun q5=>?_) (fun q5=>?_)
     ·have EL:ys.length=2:=by
       rw [QE,aZ] at q5
       have:=Qt q5
       omega
      obtain ⟨y1,y2,rfl⟩:∃ y1 y2,ys=[y1,y2]:=by
       match ys,EL with
       | [y1,y2],_=>exact ⟨y1,y2,rfl⟩
      obtain ⟨e1,e2,rfl⟩:∃ e1 e2,es=[e1,e2]:=by
       match es,EO with
       | [e1,e2],_=>exact ⟨e1,e2,rfl⟩
      exact ⟨_,y1,.inr (ai.of eb),aR _ _,y1,e1,rfl,d_ 0 (by simp) (by simp),fun H3 s3=>hk H3 s3⟩
     ·have gq:ys.length≠2:=by
       rw [QE,aZ] at q5
       have:=Qu q5
       omega
      have e1:xh (.tup es)=false:=by
       match es,EO with
       | [],_=>rfl
       | [_],_=>rfl
       | [_,_],EO=>exact absurd EO gq
       | _::_::_::_,_=>rfl
      rw [e1] at hk
      exact hk _ (aa.refl _)
    | _=>exact e_ (hk _ (aa.refl _))
   refine ⟨_,ae.of gj,_,rfl,?_⟩
   rw [hl,bT ds .bj xh]
   have K2:ds.all jg=(ds.all xh&&ds.all fun d=>headD (CB d)):=by
    clear hl hn b_ h3 rg h4 yg k k0 gj h1 h2
    induction ds with
    | nil=>rfl
    | cons d ds ih=>
     rw [List.all_cons,List.all_cons,List.all_cons,ih,xT]
     cases xh d<;>cases headD (CB d)<;>cases ds.all xh<;>rfl
   refine wk (fun h5=>?_) (fun h5=>?_)
   rotate_left
   ·have:=k H2 s2
    have e1:fm (.tup ds)=false:=by simp [fm,K2,h5]
    rw [e1] at this
    exact this
   obtain ⟨rs,hs,R⟩:=sI hl b_ h5
   have Aq:rs.length=ds.length:=R.l1
   have TF:hs.length=ds.length:=R.l2
   have UH:xs.length=rs.length:=by omega
   refine bV ?_
   refine aO (Or.inr ⟨⟨xs,ai.of (s2 _ _ e)⟩,fun N hN=>?_⟩)
   have K3:∀ i (hi:i < xs.length),∃ b,xs.getD i .af=.ref b/\H b=some (.tup [.str (rs[i]'(by omega)).1,(rs[i]'(by omega)).2]):=fun i hi=>by
    obtain ⟨b,q1,q2⟩:=R.ps.2 i (by simp;omega)
    refine ⟨b,by rw [Qb,q1];rfl,?_⟩
    simpa [aq,kV] using q2
   refine gO (cU xs) (fun i τ H3=>∃ v0:Option V,τ=[v0]/\H3 N=some (.lst (((rs.take i).map (·.1)).map V.str))/\aa H2 H3) ⟨none,rfl,aA,aa.upd hN _⟩ (by rintro i τ H3 _ ⟨_,_,_,s3⟩;exact ai.of (s3 _ _ (s2 _ _ e))) ?_ ?_
   ·rintro i τ H3 hi ⟨v0,rfl,q1,q2⟩
    have uc:i < rs.length:=by omega
    obtain ⟨b,eb,hb⟩:=K3 i hi
    rw [eb]
    refine ⟨_,.str rs[i].1,.inr (ai.of (q2 _ _ (s2 _ _ hb))),aR _ _,_,q1,by simp only [Ql,List.length_take];omega,_,rfl,?_,q2.put hN⟩
    rw [aA,Qs,Qa uc,Qm,Qm];rfl
   rintro τ H3 ⟨v0,rfl,gN,s3⟩
   rw [UH,Qo] at gN
   have C0:=s2.trans s3
   have UI:∀ z∈rs.map (·.1),isName z=true:=fun z hz=>by
    obtain ⟨r,hr,rfl⟩:=List.mem_map.mp hz
    obtain ⟨i,hi,rfl⟩:=Qi hr
    exact (R.dd i (by omega) hi (by omega)).2.2
   have G3:(cu ds).map (·.1)=rs.map (·.1):=by
    refine List.ext_getElem (by unfold cu;simp;omega) fun i a1 a2=>?_
    have hi:i < ds.length:=by unfold cu at a1;simpa using a1
    have:=(R.dd i hi (by omega) (by omega)).1
    simp only [cu,Qr,this]
    rfl
   refine ⟨N,rs.map (·.1),rfl,gN,by simp;omega,Or.inl ⟨_,.inl (ae.of gN),rfl,_,rfl,?_⟩⟩
   have UJ:(true^^decide (V.int ((jc (fun i=>(rs.map (·.1)).getD i ("":Str)) (rs.map (·.1)).length:Nat):Int)=V.int (((rs.map (·.1)).map V.str).length:Int)))= !decide ((rs.map (·.1)).Nodup):=by
    have h9:=m9 (fun i=>(rs.map (·.1)).getD i ("":Str)) (rs.map (·.1)).length
    have e9:(List.range (rs.map (·.1)).length).map (fun i=>(rs.map (·.1)).getD i ("":Str))=rs.map (·.1):=by
     refine List.ext_getElem (by simp) fun i a1 a2=>?_
     simp only [Qr,List.getElem_range]
     rw [Qb,Qa (by simpa using a2)]
     simp
    rw [e9] at h9
    rw [aZ,Bool.true_xor]
    congr 1
    rw [Bool.eq_iff_iff,decide_eq_true_iff,decide_eq_true_iff,<- h9]
    simp only [Ql]
    omega
   rw [UJ]
   by_cases nd:(rs.map (·.1)).Nodup
   rotate_left
   ·rw [Qw nd]
    refine bc (bc ?_)
    have:=k H3 C0
    have e1:fm (.tup ds)=false:=by
     simp only [fm]
     rw [G3,Qw nd]
     simp
    rw [e1] at this
    exact this
   rw [Qv nd]
   refine e_ ?_
   refine Or.inr ⟨⟨xs,ai.of (C0 _ _ e)⟩,fun D2 ii=>?_⟩
   refine dJ (cU xs) (fun i=>jj (rs.map (·.1)) (hs.getD i .bj)) (by omega) ii (fun H4 s4=>ai.of (s4 _ _ (C0 _ _ e))) (fun i H4 k' hi s4 hk=>?_) (fun H4 s4 GC=>?_)
   ·have uc:i < rs.length:=by omega
    have K4:i < hs.length:=by omega
    obtain ⟨b,eb,hb⟩:=K3 i hi
    have e2:hs.getD i .bj=hs[i]:=by rw [Qb,Qa K4];rfl
    rw [e2] at hk
    show z_ GY [] E0 _ [some (xs.getD i .af),some (.ref N)] H4 k'
    rw [eb]
    have AJ:=C0.trans s4
    exact ⟨_,rs[i].2,.inr (ai.of (AJ _ _ hb)),rfl,rs[i].2,hs[i],N,rs.map (·.1),rfl,(R.dd i (by omega) uc K4).2.1.same AJ,s4 _ _ gN,by simp;omega,hk⟩
   refine ⟨_,ae.of GC,_,rfl,?_⟩
   have AJ:=C0.trans s4
   have GD:((List.range xs.length).map fun i=>jj (rs.map (·.1)) (hs.getD i .bj)).all id=hs.all (jj (rs.map (·.1))):=by
    rw [show xs.length=hs.length by omega]
    exact bT hs .bj (jj (rs.map (·.1)))
   rw [GD]
   have UK:(ds.all fun d=>headD (CB d))=hs.all headD:=by
    rw [Bool.eq_iff_iff,QF,QF]
    constructor
    ·intro h d hd
     obtain ⟨i,hi,rfl⟩:=Qi hd
     have:=h _ (Qj (show i < ds.length by omega))
     rw [(R.dd i (by omega) (by omega) hi).1] at this
     exact this
    ·intro h d hd
     obtain ⟨i,hi,rfl⟩:=Qi hd
     rw [(R.dd i hi (by omega) (by omega)).1]
     exact h _ (Qj (show i < hs.length by omega))
   have K5:((cu ds).all fun r=>(dm r.2).all fun n=>decide (n∈(cu ds).map (·.1)))=hs.all fun d=>(dm d).all fun n=>decide (n∈rs.map (·.1)):=by
    rw [G3]
    unfold cu
    rw [List.all_map]
    rw [Bool.eq_iff_iff,QF,QF]
    constructor
    ·intro h d hd
     obtain ⟨i,hi,rfl⟩:=Qi hd
     have:=h _ (Qj (show i < ds.length by omega))
     rw [(R.dd i (by omega) (by omega) hi).1] at this
     exact this
    ·intro h d hd
     obtain ⟨i,hi,rfl⟩:=Qi hd
     rw [(R.dd i hi (by omega) (by omega)).1]
     exact h _ (Qj (show i < hs.length by omega))
   have BK:hs.all (jj (rs.map (·.1)))=(hs.all headD&&hs.all fun d=>(dm d).all fun n=>decide (n∈rs.map (·.1))):=by
    have:∀ l:List Dt,l.all (jj (rs.map (·.1)))=(l.all headD&&l.all fun d=>(dm d).all fun n=>decide (n∈rs.map (·.1))):=by
     intro l
     induction l with
     | nil=>rfl
     | cons d l ih=>
      rw [List.all_cons,List.all_cons,List.all_cons,ih,zM UI]
      cases headD d<;>cases ((dm d).all fun n=>decide (n∈rs.map (·.1)))<;>cases l.all headD<;>rfl
    exact this hs
   have C1:fm (.tup ds)=(hs.all (jj (rs.map (·.1)))&&(rs.map (·.1)).all fun n=>jb (kg (cu ds)) ds.length n):=by
    simp only [fm]
    rw [K2,h5,UK,K5,G3,Qv rg,Qv yg,Qv nd,BK]
    simp only [Bool.true_and,Bool.and_true]
   refine wk (fun h6=>?_) (fun h6=>?_)
   rotate_left
   ·have:=k H4 AJ
    rw [C1,h6,Bool.false_and] at this
    exact this
   rw [h6,Bool.true_and] at C1
   rw [h6] at BK
   have By:hs.all headD=true:=by
    cases q:hs.all headD with
    | true=>rfl
    | false=>rw [q] at BK;cases BK
   have UL:(hs.all fun d=>(dm d).all fun n=>decide (n∈rs.map (·.1)))=true:=by
    rw [By,Bool.true_and] at BK;exact BK.symm
   have R1:lu H xs ds rs hs:=⟨R.l1,R.l2,R.ps,fun i a b c=>⟨(R.dd i a b c).1,(R.dd i a b c).2.1,QF.mp By _ (Qj c),(R.dd i a b c).2.2⟩⟩
   have h7:((cu ds).all fun r=>(dm r.2).all fun n=>decide (n∈(cu ds).map (·.1)))=true:=by rw [K5];exact UL
   refine bV ?_
   have R4:=R1.same AJ
   refine aO ⟨a,xs,aq rs,rfl,AJ _ _ e,R4.ps,by simp;omega,fun h hh=>?_⟩
   rw [fB _ (kN nd)]
   have s5:=AJ.trans (aa.upd hh (.dK (aq rs)))
   have gh:upd H4 h (.dK (aq rs)) h=some (.dK (aq rs)):=aA
   have EQ:=(aa.upd hh (.dK (aq rs))) _ _ (s4 _ _ gN)
   generalize upd H4 h (.dK (aq rs))=H5 at s5 gh EQ
   have R5:=R1.same s5
   have K6:=R5.IZ nd h7
   have G4:∀ x∈rs.map (·.1),∀ y,kg (cu ds) x=some y->y∈rs.map (·.1):=fun x hx y hy=>by
    have:=K6 x y (by rw [cZ nd];exact Qv hx) hy
    rw [cZ nd] at this
    exact Qt this
   have fq:(rs.map (·.1)).length=ds.length:=by simp;omega
   have G5:∀ x∈rs.map (·.1),jb (kg (cu ds)) ds.length x=decide (kg (cu ds) (gg (kg (cu ds)) ds.length x)=none):=fun x hx=>by
    rw [<- fq];exact xX G4 hx
   generalize ER:kg (cu ds)=kj at K6 G4 G5 C1
   have UM:∀ (H':Hp),aa H5 H'->∀ n v,bu (aq rs) (.inr n)=some v->Cw H' v (kj n):=fun H' s' n v hv=>by
    have:=(R5.same s').has nd n v hv
    rw [ER] at this
    exact this
   have jk:∀ x∈rs.map (·.1),∀ t,gg kj t x∈rs.map (·.1):=fun x hx t=>by
    induction t with
    | zero=>exact hx
    | succ t ih=>
     rw [jE]
     unfold qo
     cases e9:kj (gg kj t x) with
     | none=>exact ih
     | some y=>exact G4 _ ih y e9
   have look:∀ (H':Hp),aa H5 H'->∀ x∈rs.map (·.1),∃ v,ik H' h (.str x) (some v)/\Cw H' v (kj x):=fun H' s' x hx=>by
    have:=(cZ nd x)
    rw [Qv hx] at this
    obtain ⟨v,hv⟩:=Option.isSome_iff_exists.mp this
    exact ⟨v,Q7 (s' _ _ gh) hv,UM H' s' x v hv⟩
   refine bB (fun σ' H'=>aa H5 H'/\∀ x∈rs.map (·.1),kj (gg kj ds.length x)=none) ?_ ?_
   ·intro nx bg
    refine Or.inl ⟨⟨_,ae.of EQ⟩,dW (dH ((rs.map (·.1)).map V.str)) (fun i σ' H'=>∃ v3 v4 v5:Option V,σ'=[some (.ref a),some (.ref N),some (.ref h),v3,v4,v5]/\aa H5 H'/\∀ x∈(rs.map (·.1)).take i,kj (gg kj ds.length x)=none) ⟨none,none,none,rfl,aa.refl _,(fun _ h=>nomatch h)⟩ (by rintro i τ H' _ ⟨_,_,_,_,s',_⟩;exact ae.of (s' _ _ EQ)) ?_ ?_⟩
    ·rintro i σ' H6 hi ⟨v3,v4,v5,rfl,s6,ES⟩
     rw [Ql] at hi
     have C2:(rs.map (·.1))[i]∈rs.map (·.1):=Qj hi
     have ei:((rs.map (·.1)).map V.str).getD i .af=.str (rs.map (·.1))[i]:=by
      rw [Qb,Qa (by simpa using hi)];simp
     rw [ei]
     have et:(rs.map (·.1)).take (i+1)=(rs.map (·.1)).take i++[(rs.map (·.1))[i]]:=by
      rw [Qs,Qa hi];rfl
     rw [et]
     generalize (rs.map (·.1))[i]=x at C2
     refine aO (UG (v:=.str x) rfl ?_)
     dsimp only
     refine bB (fun σ' H'=>∃ v5:Option V,σ'=[some (.ref a),some (.ref N),some (.ref h),some (.str x),some (.str (gg kj ds.length x)),v5]/\aa H5 H') ?_ ?_
     ·intro W0 UN
      have UO:(((rs.map (·.1)).map V.str).length:Int)=(ds.length:Int):=by rw [Ql,fq]
      refine Or.inl ⟨_,.inl (ae.of (s6 _ _ EQ)),?_⟩
      rw [UO]
      refine ⟨(ds.length:Int),rfl,by omega,by omega,?_⟩
      rw [Int.toNat_natCast]
      refine dW (dE 0 ds.length) (fun t σ' H'=>∃ v5:Option V,σ'=[some (.ref a),some (.ref N),some (.ref h),some (.str x),some (.str (gg kj t x)),v5]/\aa H5 H') ⟨v5,rfl,s6⟩ (fun _ _ _ _ _=>True.intro) ?_ (by rintro σ' H' ⟨v5,e9,s9⟩;exact UN _ _ ⟨v5,e9,s9⟩)
      rintro t σ' H7 W1 ⟨BG,rfl,s7⟩
      obtain ⟨v,vp,b,rfl,hb⟩:=look H7 s7 _ (jk x C2 t)
      rcases hb with ⟨z,ys,g1,g2,g3⟩ | ⟨y,g1,g3⟩
      ·refine ⟨h,_,rfl,vp,_,.str z,.inr (ai.of g1),aR _ _,rfl,_,rfl,?_⟩
       rw [QE,Qw (fun e9=>g2 (V.str.inj e9))]
       refine e_ ⟨some (V.int (0+(t:Int))),?_,s7⟩
       have:gg kj (t+1) x=gg kj t x:=by rw [jE];unfold qo;rw [g3];rfl
       rw [this];rfl
      ·refine ⟨h,_,rfl,vp,_,.str "as",.inr (ai.of g1),aR _ _,rfl,_,rfl,?_⟩
       refine bc ⟨h,_,rfl,vp,_,.str y,.inr (ai.of g1),rfl,some (V.int (0+(t:Int))),?_,s7⟩
       have:gg kj (t+1) x=y:=by rw [jE];unfold qo;rw [g3];rfl
       rw [this];rfl
     ·rintro σ' H7 ⟨BG,rfl,s7⟩
      obtain ⟨v,vp,b,rfl,hb⟩:=look H7 s7 _ (jk x C2 ds.length)
      rcases hb with ⟨z,ys,g1,g2,g3⟩ | ⟨y,g1,g3⟩
      ·refine ⟨h,_,rfl,vp,_,.str z,.inr (ai.of g1),aR _ _,rfl,_,rfl,?_⟩
       rw [QE,Qw (fun e9=>g2 (V.str.inj e9))]
       refine e_ ⟨_,_,_,rfl,s7,fun x' hx'=>?_⟩
       rcases List.mem_append.mp hx' with hx' | hx'
       ·exact ES x' hx'
       ·rw [List.mem_singleton.mp hx'];exact g3
      ·refine ⟨h,_,rfl,vp,_,.str "as",.inr (ai.of g1),aR _ _,rfl,_,rfl,?_⟩
       refine bc ?_
       have:=k H7 (s5.trans s7)
       have e1:((rs.map (·.1)).all fun n=>jb kj ds.length n)=false:=by
        rw [Bool.eq_false_iff]
        intro hall
        have:=QF.mp hall x C2
        rw [G5 x C2,g3] at this
        exact absurd this (by simp)
       rw [C1,e1] at this
       exact this
    ·rintro σ' H6 ⟨v3,v4,v5,rfl,s6,ES⟩
     rw [Ql,Qo] at ES
     exact bg _ _ ⟨s6,ES⟩
   ·rintro σ' H6 ⟨s6,hall⟩
    have:=k H6 (s5.trans s6)
    have e1:((rs.map (·.1)).all fun n=>jb kj ds.length n)=true:=by
     rw [QF]
     intro x hx
     rw [G5 x hx,hall x hx]
     rfl
    rw [C1,e1] at this
    exact this
  | _=>exact bc k0
def UP:Sp:=fun vs H Q _=>∃ (e:Addr) (i:Nat),vs=[.ref e,.int i]/\i < 1000000000/\H e=some (cf (adr mg "NoText") none e)/\∀ dx,H dx=none->Q .af (upd (upd H e (cf (adr mg "NoText") (some dx) e)) dx (.xd [("number",.int i)]))
theorem iW (T:Txt K mg w):CQ P w K mg base 1 "NoText" ["self","number"] (UP (mg:=mg)):=by
 refine T.iw.fj m6 (fun vs H Q E h=>?_) (fun f ak A outer s H vs Q E hr h=>?_)
 ·obtain ⟨e,i,rfl,_⟩:=h
  rfl
 ·obtain ⟨e,i,rfl,hi,he,k⟩:=h
  refine ⟨_,(aE (eU (JK K T.vn (aD (zv 0) (oZ (R0 (zv 1)) aB))))
   (aI (yM K (zv 0) (zv 1)))),?_⟩
  have hp:1000000000 < 2^64:=by decide
  refine ⟨by decide,(i:Int),rfl,by omega,e,_,none,_,rfl,by simp,T.iw.at_,he,?_⟩
  exact ⟨e,_,rfl,he,T.iw.at_,T.iw.na _ (by simp),fun dx hd=>k dx hd⟩
def eu:List Str->List (List Str)
 | []=>[]
 | [a]=>[[a]]
 | a::b::r=>[a,b]::eu r
theorem gU:∀ r:List Str,(eu r).length=(r.length+1) / 2
 | []=>rfl
 | [a]=>by simp [eu]
 | a::b::r=>by
  rw [eu,List.length_cons,gU r,List.length_cons,List.length_cons];omega
theorem fF:∀ (r:List Str) (i:Nat) (h:i < (eu r).length),(eu r)[i]=(r.drop (2*i)).take 2
 | [a],0,_=>rfl
 | a::b::r,0,_=>rfl
 | a::b::r,i+1,h=>by
  have:=fF r i (by simpa [eu] using h)
  rw [show 2*(i+1)=2*i+1+1 by omega]
  simpa [eu] using this
 | [a],i+1,h=>absurd h (by simp [eu])
 | [],i,h=>absurd h (by simp [eu])
theorem UQ (xs:List V) (a b:Nat) (ha:a<=xs.length) (hb:a<=b):f_ xs (some (a:Int)) (some (b:Int))=(xs.drop a).take (b - a):=by
 by_cases h:b<=xs.length
 ·exact vV xs a b ha h
 ·have e:f_ xs (some (a:Int)) (some (b:Int))=f_ xs (some (a:Int)) (some (xs.length:Int)):=by
   unfold f_ HT.bf
   simp only []
   congr 2
   have:HT.bf xs.length xs.length (some (b:Int))=HT.bf xs.length xs.length (some (xs.length:Int)):=by
    simp only [HT.bf];rw [if_neg (by omega),if_neg (by omega)];omega
   exact this
  rw [e,vV xs a xs.length ha (Qy _),List.take_of_length_le (by simp),List.take_of_length_le (by simp;omega)]
def dw:List Str->Dt
 | []=>.bj
 | s::r=>if dj s=true then .tup [.str s,.tup ((eu r).map fun c=>.tup (c.map Dt.str))] else if ((("all":Str)==s||(("none":Str)==s||(("way":Str)==s||false))))=true then .tup ((s::r).map Dt.str) else .tup ((Str.ofString "as"::s::r).map Dt.str)
theorem hU (e:H a=some (.tup (ws.map V.str))) (hl:ws.length<=1000) (hz:∀ z∈ws,z.length<=100000):TX H (.ref a) (.tup (ws.map Dt.str)):=by
 refine .tup e (by simp) (by simpa using hl) fun i h1 h2=>?_
 simp only [Qr]
 exact .str (hz _ (Qj _))
def K7:Sp:=fun vs H Q _=>∃ (L:Addr) (ws:List Str),vs=[.ref L]/\H L=some (.lst (ws.map V.str))/\ws≠[]/\ws.length<=990/\(∀ z∈ws,z.length<=100000)/\∀ (v:V) (H':Hp),aa H H'->TX H' v (dw ws)->Q v H'
theorem pV (T:Txt K mg w):av P w K mg base 1 "read_head" ["words"] K7:=by
 refine T.rN.fj i7 (fun vs H Q E h=>?_) (fun f ak A outer s H vs Q E hr h=>?_)
 ·obtain ⟨v,h,rfl,_⟩:=h
  rfl
 ·refine hdn fun Gz9 zG9=>?_;obtain ⟨L,ws,rfl,hL,gq,hl,hz,k⟩:=h;refine zG9 ?_
  have hsz:sizeLine=16777216:=QL
  have az:=Qx (cK hr)
  refine ⟨_,(aE (vR (zv 0) (xB K rfl (aS (i:=1) i7.nd rfl (Or.inl rfl)) (aS (i:=2) i7.nd rfl (Or.inr rfl))))
   (aE (bP (aP (iO K) (zv 1) (wE K T.nC) rfl) (aI (aT (d5 (aD (zv 1) (aV (cJ (cR K) (by rfl) T.bN QG (aY (fV (own:=["at"]) (idx:=[2]) (N':=["at","rest"]) (d4 (au fX) (["words","sort","rest"]:List Str) (by decide+kernel)) rfl (z9 (by rfl) T.eL (aC aF (aV (aG (aL K) (by rfl) T.cz PySem.boot_len (aD (zv 2) aB)) (aC aF aB)))) (fun _ _ _ _ _ _=>(aS (i:=0) (show List.Nodup (["at","rest"]:List Str) by decide+kernel) rfl (Or.inl rfl))) (fun _ _ _ _ _ _=>dF) (fun _ _ _ _ _ _=>(cJ (cR K) (by rfl) T.bN QG (aJ (bZ (i5 K) (zv 1) (bU (zv 0)) (bU (bQ bC (zv 0) aF))) aB)))) aB)) aB))))) aU)
   (aE (bP (aP (iO K) (zv 1) (d5 (aC aK (aC aK (aC aK aB)))) rfl) (aI (aT (cJ (cR K) (by rfl) T.bN QG (aD (zv 0) aB)))) aU)
   (aI (aT (cJ (cR K) (by rfl) T.bN QG (dI (bQ bC (cL (aC aK aB)) (zv 0)) aB))))))),?_⟩
  have UR:∀ z:Str,mw (V.str z) [V.str "all",V.str "none",V.str "way"]=(("all":Str)==z||(("none":Str)==z||(("way":Str)==z||false))):=fun z=>rfl
  obtain ⟨x,r,rfl⟩:=List.exists_cons_of_ne_nil gq
  refine ⟨L,.str x,r.map V.str,rfl,ae.of hL,fun D hD=>?_⟩
  have s0:=aa.upd hD (.lst (r.map V.str))
  have gD:upd H D (.lst (r.map V.str)) D=some (.lst (r.map V.str)):=aA
  dsimp only
  generalize upd H D (.lst (r.map V.str))=H1 at s0 gD
  have Aq:r.length<=989:=by simpa using hl
  have US:∀ z∈r,z.length<=100000:=fun z h=>hz z (Qh _ h)
  intro aW hW
  refine ⟨_,.inr hW,rfl,rfl,_,rfl,?_⟩
  rw [QE,jC]
  refine bq (fun h1=>?_) (fun h1=>?_)
  ·refine Or.inl ⟨_,.inl (ae.of gD),_,2,rfl,⟨by omega,by rw [Ql];omega,by decide,by decide⟩,fun D2 ii=>?_⟩
   have EF:H D2=none:=s0.free ii
   have K8:D≠D2:=aN gD ii
   have cl:=gU r
   have UT:(((((r.map V.str).length:Nat):Int)+2 - 1) / 2).toNat=(eu r).length:=by rw [Ql,cl];omega
   rw [UT]
   refine gO (uS 2 (eu r).length) (fun i τ H'=>∃ (v0:Option V) (xs:List V),τ=[v0,some (.ref D)]/\H' D2=some (.lst xs)/\xs.length=i/\(∀ j (h:j < xs.length) (h':j < (eu r).length),TX H' xs[j] (.tup ((eu r)[j].map Dt.str)))/\aa H H'/\H' D=some (.lst (r.map V.str))) ⟨none,[],rfl,aA,rfl,fun j h=>absurd h (by simp),s0.trans (aa.upd ii _),by rw [aH K8];exact gD⟩ (fun _ _ _ _ _=>True.intro) ?_ ?_
   ·rintro i τ H2 hi z0;refine hdn fun Gz9 zG9=>?_;obtain ⟨v0,xs,rfl,q1,ji,q2,q3,q4⟩:=z0;refine zG9 ?_
    refine ⟨0+(i:Int)*2,rfl,0+(i:Int)*2+2,rfl,Or.inr (Or.inl ⟨D,_,rfl,ae.of q4,fun p1 bz=>?_⟩)⟩
    have ec:=UQ (r.map V.str) (2*i) (2*i+2) (by rw [Ql];omega) (by omega)
    rw [show ((2*i:Nat):Int)=0+(i:Int)*2 by omega,show ((2*i+2:Nat):Int)=0+(i:Int)*2+2 by omega,show 2*i+2 - 2*i=2 by omega,<- List.map_drop,<- List.map_take,<- fF r i hi] at ec
    rw [ec]
    refine ⟨p1,_,rfl,.inl ⟨ae.of aA,fun c hc=>?_⟩⟩
    have s3:=(aa.upd bz (.lst ((eu r)[i].map V.str))).trans (aa.upd hc (.tup ((eu r)[i].map V.str)))
    have gc:upd (upd H2 p1 (.lst ((eu r)[i].map V.str))) c (.tup ((eu r)[i].map V.str)) c=some (.tup ((eu r)[i].map V.str)):=aA
    dsimp only
    generalize upd (upd H2 p1 (.lst ((eu r)[i].map V.str))) c (.tup ((eu r)[i].map V.str))=H3 at s3 gc
    have g1:=s3 _ _ q1
    have C3:Tk H3 (upd H3 D2 (.lst (xs++[.ref c]))):=(Tk.refl).set g1 (by intro _ z;cases z)
    refine ⟨xs,g1,by omega,_,xs++[.ref c],rfl,aA,by simp [ji],fun j a b=>?_,(q3.trans s3).put EF,by rw [aH K8];exact s3 _ _ q4⟩
    by_cases bh:j < xs.length
    ·rw [Qe bh]
     exact (q2 j bh b).tk (s3.ts.trans C3)
    ·have e:j=xs.length:=by simp at a;omega
     subst e
     rw [Qf (Qy _)]
     simp only [Nat.sub_self,List.getElem_cons_zero]
     subst ji
     refine hU (C3 _ _ gc) (by rw [fF r _ hi];simp;omega) fun z hz=>?_
     rw [fF r _ hi] at hz
     exact US z (List.mem_of_mem_drop (List.mem_of_mem_take hz))
   ·rintro τ H2 z0;refine hdn fun Gz9 zG9=>?_;obtain ⟨v0,xs,rfl,q1,ji,q2,q3,q4⟩:=z0;refine zG9 ?_
    refine ⟨D2,xs,rfl,.inl ⟨ae.of q1,fun c hc=>⟨(show 2<=sizeLine by decide),fun b hb=>?_⟩⟩⟩
    have s3:=(aa.upd hc (.tup xs)).trans (aa.upd hb (.tup [.str x,.ref c]))
    refine k _ _ (q3.trans s3) ?_
    rw [dw,if_pos h1]
    refine eO aA (.str (hz x (by simp))) (.tup ((aa.upd hb _) _ _ aA) (by simp [ji]) (by omega) fun i a b'=>?_)
    simp only [Qr]
    exact (q2 i a (by omega)).tk s3.ts
  ·have h1:¬dj x=true:=by rw [h1];decide
   refine bV ?_
   refine ⟨(show 3<=sizeLine by decide),fun tt ED=>⟨_,.inr (ai.of aA),rfl,rfl,_,rfl,?_⟩⟩
   rw [QE,UR]
   have s1:=s0.trans (aa.upd ED (.tup [.str "all",.str "none",.str "way"]))
   have UU:=s1 _ _ hL
   refine bq (fun h2=>?_) (fun h2=>?_)
   ·refine ⟨L,_,rfl,.inl ⟨ae.of UU,fun a ha=>?_⟩⟩
    refine k _ _ (s1.trans (aa.upd ha _)) ?_
    rw [dw,if_neg h1,if_pos h2]
    exact hU aA (by omega) hz
   ·refine cT ?_
    refine ⟨(show 1<=sizeLine by decide),fun L0 ua=>?_⟩
    have s2:=s1.trans (aa.upd ua (.lst [.str "as"]))
    refine ⟨_,_,aA,s2 _ _ hL,(show 1+((x::r).map V.str).length<=sizeLine by rw [Ql];omega),fun L2 BI=>⟨L2,_,rfl,.inl ⟨ae.of aA,fun a ha=>?_⟩⟩⟩
    refine k _ _ ((s2.trans (aa.upd BI _)).trans (aa.upd ha _)) ?_
    rw [dw,if_neg h1,if_neg (by rw [h2];decide)]
    refine hU (ws:=Str.ofString "as"::x::r) aA (by simp;omega) fun z ia=>?_
    rcases Qp.mp ia with rfl | ia
    ·decide
    ·exact hz z ia
def rj (l:Str):Option Dt:=if (Txt.split l (Str.ofString " ")).length < 3 then none else if (Txt.split l (Str.ofString " ")).getD 1 ""="=" then some (.tup [.str ((Txt.split l (Str.ofString " ")).getD 0 ""),dw ((Txt.split l (Str.ofString " ")).drop 2)]) else none
def RX (H:Hp) (v:V):Option Dt->Prop
 | none=>v=.af
 | some d=>TX H v d
structure ze (l:Str):Prop where
 len:l.length<=1000000
 few:(Txt.split l (Str.ofString " ")).length<=990
 ym:∀ z∈Txt.split l (Str.ofString " "),z.length<=100000
def K9:Sp:=fun vs H Q _=>∃ l:Str,vs=[.str l]/\ze l/\∀ (v:V) (H':Hp),aa H H'->RX H' v (rj l)->Q v H'
theorem rZ (T:Txt K mg w):av P w K mg base 2 "read_row" ["line"] K9:=by
 have rR:av P w K mg base 1 "read_head" ["words"] K7:=pV T
 refine T.uH.fj lE (fun vs H Q E h=>?_) (fun f ak A outer s H vs Q E hr h=>?_)
 ·obtain ⟨r,rfl,_⟩:=h
  rfl
 ·obtain ⟨l,rfl,⟨ll,fw,wz⟩,k⟩:=h
  have hsz:sizeLine=16777216:=QL
  have az:=Qx (cK hr)
  refine ⟨_,(aE (aX (i:=1) lE.nd rfl (Or.inl rfl) (f7 K PySem.F.plainAttrs_str PySem.F.slot_str_split PySem.F.type_str_split gK (zv 0) (aC aK aB)))
   (aE (bP (eZ (aP iT (aG (aL K) (by rfl) T.cz PySem.boot_len (aD (zv 1) aB)) aF (ay _)) (eC (aP (iY az) (bE (bF K) (zv 1) aF (fun _ _=>rfl)) aK (ay _)))).pt (aI (aT n4)) aU)
   (aI (aT (d5 (aJ (bE (bF K) (zv 1) aF (fun _ _=>rfl)) (aV (bJ rR (hr.mono (by decide)) (aJ (bZ (i5 K) (zv 1) (bU aF) cF) aB)) aB))))))),?_⟩
  refine aO ⟨rfl,rfl,ll,fun D hD=>?_⟩
  have er:rj l=if (Txt.split l (Str.ofString " ")).length < 3 then none else if (Txt.split l (Str.ofString " ")).getD 1 ""="=" then some (.tup [.str ((Txt.split l (Str.ofString " ")).getD 0 ""),dw ((Txt.split l (Str.ofString " ")).drop 2)]) else none:=rfl
  generalize Txt.split l (Str.ofString " ")=ws at fw wz er ⊢
  have s0:=aa.upd hD (.lst (ws.map V.str))
  have gD:upd H D (.lst (ws.map V.str)) D=some (.lst (ws.map V.str)):=aA
  generalize upd H D (.lst (ws.map V.str))=H1 at s0 gD
  refine Or.inl ⟨_,.inl (ae.of gD),_,rfl,?_⟩
  refine bq (fun hc=>?_) (fun hc=>?_)
  ·have:=Qt hc
   rw [Ql] at this
   rw [if_pos (by omega)] at er
   exact k _ _ s0 (by rw [er];rfl)
  ·have:=Qu hc
   rw [Ql] at this
   obtain ⟨w0,t0,rfl⟩:∃ a t,ws=a::t:=List.exists_cons_of_ne_nil fun e=>by rw [e] at this;simp at this
   obtain ⟨w1,t1,rfl⟩:∃ a t,t0=a::t:=List.exists_cons_of_ne_nil fun e=>by rw [e] at this;simp at this
   obtain ⟨w2,t2,rfl⟩:∃ a t,t1=a::t:=List.exists_cons_of_ne_nil fun e=>by rw [e] at this;simp at this
   rw [if_neg (by simp)] at er
   have er:rj l=if w1="=" then some (.tup [.str w0,dw (w2::t2)]) else none:=er
   refine ⟨_,.str w1,.inl (ae.of gD),dN (j:=1) rfl,rfl,_,rfl,?_⟩
   by_cases e:w1="="
   ·have e1:(true^^decide (V.str w1=V.str "="))=false:=by rw [e];simp
    rw [e1]
    rw [if_pos e] at er
    refine e_ (cT ?_)
    refine ⟨_,.str w0,.inl (ae.of gD),aR _ _,2,rfl,Or.inr (Or.inl ⟨D,_,rfl,ae.of gD,fun p1 bz=>?_⟩)⟩
    have ec:f_ ((w0::w1::w2::t2).map V.str) (some 2) none=(w2::t2).map V.str:=dL _ 2
    rw [ec]
    refine ⟨p1,w2::t2,rfl,aA,by simp,by simp at fw ⊢;omega,fun z hz=>wz z (by simp at hz ⊢;exact .inr (.inr hz)),fun v H2 s2 hv=>⟨(show 2<=sizeLine by decide),fun b hb=>?_⟩⟩
    refine k (.ref b) _ (((s0.trans (aa.upd bz _)).trans s2).trans (aa.upd hb _)) ?_
    rw [er]
    exact eO aA (.str (wz w0 (by simp))) (hv.tk (aa.upd hb _).ts)
   ·have e1:(true^^decide (V.str w1=V.str "="))=true:=by simp [e]
    rw [e1]
    rw [if_neg e] at er
    refine bc ?_
    exact k _ _ s0 (by rw [er];rfl)
def fz (l:Str):Dt:=(rj l).getD .bj
def gf (l:Str):Bool:=jg (fz l)
theorem RX.dd {H:Hp} {v:V} {o:Option Dt} (h:RX H v o):DD H v (o.getD .bj):=by
 cases o with
 | none=>obtain rfl:v=.af:=h;exact .af
 | some d=>exact TX.dd h
theorem RX.tx {v:V} {l:Str} (h:RX H v (rj l)) (g:gf l=true):TX H v (fz l):=by
 unfold gf fz at*
 cases e:rj l with
 | none=>rw [e] at g;exact Bool.noConfusion g
 | some d=>rw [e] at h;exact h
def UW:Sp:=fun vs H Q E=>∃ (text:Str) (ls:List Str),vs=[.str text]/\Txt.split text (Str.ofString "\n")=ls/\text.length<=1000000/\ls.length<=990/\(∀ l∈ls,ze l)/\
 (∀ i (h:i < ls.length),gf ls[i]=false->(∀ j (h:j < ls.length),j < i->gf ls[j]=true)->∀ e dx H',aa H H'->H' e=some (jo (adr mg "NoText") (some dx) e)->H' dx=some (.xd [("number",.int i)])->E (.ref e) (some dx) H')/\
 ((∀ l∈ls,gf l=true)->fm (.tup (ls.map fz))=false->∀ e H',aa H H'->H' e=some (jo (adr mg "NoTelling") none e)->E (.ref e) none H')/\
 ((∀ l∈ls,gf l=true)->fm (.tup (ls.map fz))=true->∀ v H',aa H H'->TX H' v (.tup (ls.map fz))->Q v H')
theorem iH (T:Txt K mg w):Bm P w K mg base 7 "read_telling" ["text"] (UW (mg:=mg)):=by
 have uT:av P w K mg base 2 "read_row" ["line"] K9:=rZ T
 have m5:av P w K mg base 5 "is_row" ["thing"] (spT jg):=oC T
 have pC:av P w K mg base 6 "is_telling" ["thing"] (spT fm):=nQ T
 have mR:=iW (P:=P) (w:=w) (base:=base) T
 refine T.mX.R8 cI (fun vs H Q E h=>?_) (fun f ak A outer s H vs Q E hr h=>?_)
 ·obtain ⟨tx,ls,rfl,_⟩:=h
  rfl
 ·refine hdn fun Gz9 zG9=>?_;obtain ⟨text,ls,rfl,AK,AL,hl,AM,k1,k2,k3⟩:=h;refine zG9 ?_
  have hsz:sizeLine=16777216:=QL
  have az:=Qx (cK hr)
  refine ⟨_,(aE (aX (i:=1) cI.nd rfl (Or.inl rfl) (cL aB))
   (aE (fN PassesOwn.leaving rfl (n6 K (by rfl) T.j3 (aV (f7 K PySem.F.plainAttrs_str PySem.F.slot_str_split PySem.F.type_str_split gK (zv 0) (aC aK aB)) aB)) (k9 K (n:=2) rfl (cG (aS (i:=2) cI.nd rfl (Or.inl rfl)) (cG (aS (i:=3) cI.nd rfl (Or.inl rfl)) iC))) (aE (aX (i:=4) cI.nd rfl (Or.inl rfl) (bJ uT (hr.mono (by decide)) (aD (zv 3) aB)))
   (aE (bP (cS (cE (bJ m5 (hr.mono (by decide)) (aD (zv 4) aB)))) (aI (zD mR (hr.mono (by decide)) (aD (zv 2) aB))) aU)
   (aI (eU (f7 K QH QJ QK dQ (zv 1) (aD (zv 4) aB)))))))
   (aE (aX (i:=5) cI.nd rfl (Or.inl rfl) (cJ (cR K) (by rfl) T.bN QG (aD (zv 1) aB)))
   (aE (bP (cS (cE (bJ pC (hr.mono (by decide)) (aD (zv 5) aB)))) (aI (z8 T.lz (aC aK aB))) aU)
   (aI (aT (zv 5))))))),?_⟩
  refine aO ⟨(show 0<=sizeLine by decide),fun R hR=>?_⟩
  have sR:=aa.upd hR (.lst [])
  have gR:upd H R (.lst []) R=some (.lst []):=aA
  generalize upd H R (.lst [])=H1 at sR gR
  refine bB (fun σ' H'=>∃ (v2 v3 v4 v5:Option V) (xs:List V),σ'=[some (.str text),some (.ref R),v2,v3,v4,v5]/\H' R=some (.lst xs)/\xs.length=ls.length/\(∀ l∈ls,gf l=true)/\(∀ j (h:j < xs.length) (h':j < ls.length),TX H' xs[j] (fz ls[j]))/\aa H H') ?_ ?_
  ·intro nx bg
   refine ⟨rfl,rfl,AL,fun D hD=>?_⟩
   rw [AK]
   have sD:=sR.trans (aa.upd hD (.lst (ls.map V.str)))
   have gD:upd H1 D (.lst (ls.map V.str)) D=some (.lst (ls.map V.str)):=aA
   have C4:=(aa.upd hD (.lst (ls.map V.str))) _ _ gR
   generalize upd H1 D (.lst (ls.map V.str))=H2 at sD gD C4
   have G6:D≠R:=fun e=>by rw [e,gR] at hD;cases hD
   refine ⟨D,_,rfl,ae.of gD,nA (nD (ls.map V.str)) (fun i σ' H'=>∃ (v2 v3 v4:Option V) (xs:List V),σ'=[some (.str text),some (.ref R),v2,v3,v4,none]/\H' R=some (.lst xs)/\xs.length=i/\(∀ j (h:j < ls.length),j < i->gf ls[j]=true)/\(∀ j (h:j < xs.length) (h':j < ls.length),TX H' xs[j] (fz ls[j]))/\aa H H'/\H' D=some (.lst (ls.map V.str))) ⟨none,none,none,[],rfl,C4,rfl,fun _ _ h=>absurd h (Nat.not_lt_zero _),fun j h=>absurd h (by simp),sD,gD⟩ (by rintro i τ H' _ ⟨_,_,_,_,_,_,_,_,_,_,h⟩;exact ae.of h) ?_ ?_⟩
   ·rintro i σ' H3 T0 hi ⟨v2,v3,v4,xs,rfl,q1,q0,qg,q2,q3,q4⟩ yx
    rw [Ql] at hi
    rw [cA _ i hi]
    have el:ls.getD i ""=ls[i]:=by rw [Qb,Qa hi];rfl
    rw [el]
    have hm:=Qj hi
    have sT:=aa.upd yx (.tup [.int (i:Int),.str ls[i]])
    refine aO ⟨ls[i],rfl,AM _ hm,fun v H4 s4 hv=>?_⟩
    refine ⟨v,fz ls[i],rfl,hv.dd,fun H5 s5=>⟨_,rfl,?_⟩⟩
    have zf:=(sT.trans s4).trans s5
    cases hg:gf ls[i] with
    | true=>
     have G7:jg (fz ls[i])=true:=hg
     rw [G7]
     have g1:=zf _ _ q1
     have tx:=hv.tx hg
     refine e_ (cT ⟨.inl ⟨rfl,_,ae.of g1⟩,R,xs,v,rfl,rfl,g1,by omega,?_⟩)
     have BL:Tk H5 (upd H5 R (.lst (xs++[v]))):=(Tk.refl).set g1 (by intro _ z;cases z)
     refine ⟨_,_,_,xs++[v],rfl,aA,by simp [q0],fun j hj zg=>?_,fun j a b=>?_,(q3.trans zf).put hR,by rw [aH G6];exact zf _ _ q4⟩
     ·by_cases z:j=i
      ·subst z;exact hg
      ·exact qg j hj (by omega)
     ·by_cases bh:j < xs.length
      ·rw [Qe bh]
       exact (q2 j bh b).tk (zf.ts.trans BL)
      ·have e:j=xs.length:=by simp at a;omega
       subst e
       rw [Qf (Qy _)]
       simp only [Nat.sub_self,List.getElem_cons_zero]
       subst q0
       exact tx.tk (s5.ts.trans BL)
    | false=>
     have G7:jg (fz ls[i])=false:=hg
     rw [G7]
     refine bc ?_
     refine ⟨by simp,fun e he=>⟨e,i,rfl,by omega,aA,fun dx hd=>?_⟩⟩
     have ne:dx≠e:=fun z=>by rw [z,aA] at hd;cases hd
     rw [aH ne] at hd
     refine ⟨rfl,some dx,by rw [aH ne.symm,aA],?_⟩
     refine k1 i hi hg (fun j hj zg=>qg j hj zg) e dx _ ((q3.trans zf).trans fun a o ha=>?_) aA (by rw [aH ne,aA])
     have n1:a≠e:=fun z=>by rw [z,he] at ha;cases ha
     have n2:a≠dx:=fun z=>by rw [z,hd] at ha;cases ha
     rw [aH n1,aH n2,aH n1,aH n1]
     exact ha
   ·rintro σ' H3 z0;refine hdn fun Gz9 zG9=>?_;obtain ⟨v2,v3,v4,xs,rfl,q1,q0,qg,q2,q3,q4⟩:=z0;refine zG9 ?_
    rw [Ql] at q0 qg
    refine bg _ _ ⟨_,_,_,_,xs,rfl,q1,q0,fun l fi=>?_,q2,q3⟩
    obtain ⟨j,hj,rfl⟩:=Qi fi
    exact qg j hj hj
  ·rintro σ' H2 z0;refine hdn fun Gz9 zG9=>?_;obtain ⟨v2,v3,v4,v5,xs,rfl,q1,q0,qg,q2,q3⟩:=z0;refine zG9 ?_
   refine aO ⟨R,xs,rfl,.inl ⟨ae.of q1,fun a ha=>?_⟩⟩
   have sa:=aa.upd ha (.tup xs)
   have ga:upd H2 a (.tup xs) a=some (.tup xs):=aA
   generalize upd H2 a (.tup xs)=H3 at sa ga
   have tx:TX H3 (.ref a) (.tup (ls.map fz)):=.tup ga (by simp [q0]) (by omega) fun j h1 h2=>by
    simp only [Qr]
    exact (q2 j h1 (by omega)).tk sa.ts
   refine ⟨.ref a,.tup (ls.map fz),rfl,tx.dd,fun H4 s4=>⟨_,rfl,?_⟩⟩
   cases ht:fm (.tup (ls.map fz)) with
   | true=>exact e_ (cT (k3 qg ht _ _ ((q3.trans sa).trans s4) (tx.tk s4.ts)))
   | false=>
    refine bc ?_
    refine ⟨by simp,fun e he=>k2 qg ht e _ (((q3.trans sa).trans s4).trans (aa.upd he _)) aA⟩
def UX:Sp:=fun vs H Q _=>∃ (e:Addr) (i:Nat),vs=[.ref e,.int i]/\i < 1000000000/\H e=some (cf (adr mg "TooMany") none e)/\∀ dx,H dx=none->Q .af (upd (upd H e (cf (adr mg "TooMany") (some dx) e)) dx (.xd [("many",.int i)]))
theorem lH (T:Txt K mg w):CQ P w K mg base 1 "TooMany" ["self","many"] (UX (mg:=mg)):=by
 refine T.q_.fj lN (fun vs H Q E h=>?_) (fun f ak A outer s H vs Q E hr h=>?_)
 ·obtain ⟨e,i,rfl,_⟩:=h
  rfl
 ·obtain ⟨e,i,rfl,hi,he,k⟩:=h
  refine ⟨_,(aE (eU (JK K T.vn (aD (zv 0) (aC aK aB))))
   (aI (yM K (zv 0) (zv 1)))),?_⟩
  refine ⟨e,_,none,_,rfl,by simp,T.q_.at_,he,?_⟩
  exact ⟨e,_,rfl,he,T.q_.at_,T.q_.na _ (by simp),fun dx hd=>k dx hd⟩
def xj:Sp:=fun vs H Q _=>∃ (text:Str) (ls:List Str),vs=[.str text]/\Txt.split text (Str.ofString "\n")=ls/\text.length<=1000000/\ls.length<=990/\(∀ l∈ls,ze l)/\
 (∀ i (h:i < ls.length),gf ls[i]=false->(∀ j (h:j < ls.length),j < i->gf ls[j]=true)->∀ p H',aa H H'->H' p=some (.tup [.str "text",.int i])->Q (.ref p) H')/\
 ((∀ l∈ls,gf l=true)->fm (.tup (ls.map fz))=false->∀ p H',aa H H'->H' p=some (.tup [.str "rows",.af])->Q (.ref p) H')/\
 ((∀ l∈ls,gf l=true)->fm (.tup (ls.map fz))=true->∀ p v H',aa H H'->TX H' v (.tup (ls.map fz))->H' p=some (.tup [.str "told",v])->Q (.ref p) H')
theorem pP (T:Txt K mg w):av P w K mg base 8 "_law_tread" ["text"] xj:=by
 have fH:=iH (P:=P) (w:=w) (base:=base) T
 refine T.sX.fj cW (fun vs H Q E h=>?_) (fun f ak A outer s H vs Q E hr h=>?_)
 ·obtain ⟨tx,ls,rfl,_⟩:=h
  rfl
 ·refine hdn fun Gz9 zG9=>?_;obtain ⟨text,ls,rfl,AK,AL,hl,AM,k1,k2,k3⟩:=h;refine zG9 ?_
  refine ⟨_,(aE (aX (i:=1) cW.nd rfl (Or.inl rfl) (d5 (aC aK (aC n4 aB))))
   (aE (Sk (i:=1) fH (hr.mono (by decide)) (aD (zv 0) aB) (zK (j:=2) T.iw.m T.iw.at_ cW.nd rfl rfl (fun _=>(aI (aX (i:=1) cW.nd rfl (Or.inl rfl) (kK (cE (aG (cQ K) (by rfl) T.aM PyProof.Rows.boot_isinstance (aD (zv 2) (nF (d5 (aD (lL (v:=.ref (adr mg "CoilError")) ⟨_,T.vn.m,rfl⟩) (aD (cP (v:=.ty "ValueError") (by rfl) T.i3 f8 rfl) aB))) aB)))) (d5 (aC aK (p8 (uZ K (zv 2)) aB))) (zv 1))))) (zK (j:=2) T.lz.m T.lz.at_ cW.nd rfl rfl (fun _=>(aI (aX (i:=1) cW.nd rfl (Or.inl rfl) (kK (cE (aG (cQ K) (by rfl) T.aM PyProof.Rows.boot_isinstance (aD (zv 2) (aD (lL (v:=.ref (adr mg "CoilError")) ⟨_,T.vn.m,rfl⟩) aB)))) (d5 (aC aK (aC n4 aB))) (zv 1))))) JJ)) cW.nd rfl rfl)
   (aI (aT (zv 1))))),?_⟩
  refine aO ⟨(show 2<=sizeLine by decide),fun p0 UY=>?_⟩
  have s0:=aa.upd UY (.tup [.str "odd",.af])
  dsimp only
  generalize upd H p0 (.tup [.str "odd",.af])=H0 at s0
  refine bB (fun σ' H'=>∃ (v:V),σ'=[some (.str text),some v,none]/\Q v H') ?_ ?_
  ·intro nx bg
   refine ⟨text,ls,rfl,AK,AL,hl,AM,fun i hi hg hb e dx H' s' he ET e' C' ee ie=>?_,fun hg ht e H' s' he e' C' ee ie=>?_,fun hg ht v H' s' tx p hp=>bg _ _ ⟨_,rfl,k3 hg ht p v _ ((s0.trans s').trans (aa.upd hp _)) (tx.tk (aa.upd hp _).ts) aA⟩⟩
   ·cases ee
    rw [he] at ie
    obtain ⟨rfl,_⟩:=lW (QD ie)
    refine ⟨true,T.Gr,?_⟩
    rw [if_pos rfl]
    refine ⟨(show 2<=sizeLine by decide),fun t ht=>?_⟩
    have st:=aa.upd ht (.tup [.ref (adr mg "CoilError"),.ty "ValueError"])
    refine ⟨e,.ref t,_,rfl,⟨some dx,.inr (st _ _ he),fun d hd=>by cases hd;exact ⟨_,st _ _ ET⟩⟩,T.iw.at_,.inr ⟨t,_,true,rfl,aA,⟨true,⟨T.vn.at_,T.Gq⟩,rfl⟩,true,rfl,bc ?_⟩⟩
    refine ⟨e,_,dx,_,.int i,rfl,.inr (st _ _ he),st _ _ ET,T.iw.at_,T.iw.na _ (by simp),rfl,?_⟩
    refine ⟨(show 2<=sizeLine by decide),fun p hp=>bg _ _ ⟨_,rfl,k1 i hi hg hb p _ (((s0.trans s').trans st).trans (aa.upd hp _)) aA⟩⟩
   ·cases ee
    rw [he] at ie
    obtain ⟨rfl,_⟩:=lW (QD ie)
    refine ⟨false,T.Gu,?_⟩
    rw [if_neg (by decide)]
    refine ⟨true,T.Gv,?_⟩
    rw [if_pos rfl]
    refine ⟨e,_,_,rfl,⟨none,.inr he,fun d hd=>by cases hd⟩,T.lz.at_,.inl ⟨true,⟨T.vn.at_,T.Gs⟩,true,rfl,bc ?_⟩⟩
    exact ⟨(show 2<=sizeLine by decide),fun p hp=>bg _ _ ⟨_,rfl,k2 hg ht p _ ((s0.trans s').trans (aa.upd hp _)) aA⟩⟩
  ·rintro σ' H' ⟨v,rfl,q⟩
   exact q
def K_:Sp:=fun vs H Q _=>∃ (text:Str) (ls:List Str),vs=[.str text]/\Txt.split text (Str.ofString "\n")=ls/\text.length<=1000000/\ls.length<=990/\(∀ l∈ls,ze l)/\∀ H',aa H H'->Q (.bl true) H'
theorem nU (T:Txt K mg w):av P w K mg base 8 "_law_tapart" ["text"] K_:=by
 have fH:=iH (P:=P) (w:=w) (base:=base) T
 refine T.pD.fj eK (fun vs H Q E h=>?_) (fun f ak A outer s H vs Q E hr h=>?_)
 ·obtain ⟨tx,ls,rfl,_⟩:=h
  rfl
 ·refine hdn fun Gz9 zG9=>?_;obtain ⟨text,ls,rfl,AK,AL,hl,AM,k⟩:=h;refine zG9 ?_
  have az:=Qx (cK hr)
  refine ⟨_,(aE (aX (i:=1) eK.nd rfl (Or.inl rfl) (cL aB))
   (aE (R9 fH (hr.mono (by decide)) (aD (zv 0) aB) (zK (j:=2) T.vn.m T.vn.at_ eK.nd rfl rfl (fun _=>(aI (aX (i:=1) eK.nd rfl (Or.inl rfl) (cL (aV (aG (cQ K) (by rfl) T.aM PyProof.Rows.boot_isinstance (aD (zv 2) (aD (lL (v:=.ref (adr mg "NoText")) ⟨_,T.iw.m,rfl⟩) aB))) (aV (aG (cQ K) (by rfl) T.aM PyProof.Rows.boot_isinstance (aD (zv 2) (aD (lL (v:=.ref (adr mg "NoTelling")) ⟨_,T.lz.m,rfl⟩) aB))) (aV (aG (cQ K) (by rfl) T.aM PyProof.Rows.boot_isinstance (aD (zv 2) (aD (lL (v:=.ref (adr mg "TooMany")) ⟨_,T.q_.m,rfl⟩) aB))) (uX (zL (aG (cQ K) (by rfl) T.aM PyProof.Rows.boot_isinstance (aD (zv 2) (aD (cP (v:=.ty "ValueError") (by rfl) T.i3 f8 rfl) aB)))) aB)))))))) JJ))
   (aI (aT (OP (bX (bA az) (zv 1) (cL aB) (ay _)) (gF (eG (bX (bA az) (f7 K QH PySem.F.slot_list_count PySem.F.type_list_count xV (zv 1) (aC eR aB)) aF (ay _)) (eG (zL (bE (bF K) (zv 1) aF (fun _ _=>rfl))) (gF (zL (bE (bF K) (zv 1) aF (fun _ _=>rfl)))))))))))),?_⟩
  refine aO ⟨(show 0<=sizeLine by decide),fun L0 ua=>?_⟩
  have s0:=aa.upd ua (.lst [])
  have g0:upd H L0 (.lst []) L0=some (.lst []):=aA
  dsimp only
  generalize upd H L0 (.lst [])=H0 at s0 g0
  refine bB (fun σ' H'=>∃ (L:Addr) (bs:List V),σ'=[some (.str text),some (.ref L),none]/\H' L=some (.lst bs)/\aa H H'/\(bs=[]\/bs=[.bl true,.bl false,.bl false,.bl false]\/bs=[.bl false,.bl true,.bl false,.bl false])) ?_ ?_
  ·intro nx bg
   refine ⟨text,ls,rfl,AK,AL,hl,AM,fun i hi hg hb e dx H' s' he ET e' C' ee ie=>?_,fun hg ht e H' s' he e' C' ee ie=>?_,fun hg ht v H' s' tx=>bg _ _ ⟨L0,[],rfl,s' _ _ g0,s0.trans s',.inl rfl⟩⟩
   ·cases ee
    rw [he] at ie
    obtain ⟨rfl,_⟩:=lW (QD ie)
    refine ⟨true,T.Gq,?_⟩
    rw [if_pos rfl]
    have eh:Bt H' e (adr mg "NoText"):=⟨some dx,.inr he,fun d hd=>by cases hd;exact ⟨_,ET⟩⟩
    refine ⟨e,_,_,rfl,eh,T.iw.at_,.inl ⟨true,⟨T.iw.at_,T.Gr⟩,?_⟩⟩
    refine ⟨e,_,_,rfl,eh,T.iw.at_,.inl ⟨false,⟨T.lz.at_,T.J2⟩,?_⟩⟩
    refine ⟨e,_,_,rfl,eh,T.iw.at_,.inl ⟨false,⟨T.q_.at_,T.J1⟩,?_⟩⟩
    refine ⟨e,_,_,rfl,eh,T.iw.at_,.inl ⟨true,⟨rfl,rfl⟩,?_⟩⟩
    exact ⟨true,rfl,(show 4<=sizeLine by decide),fun L hL=>bg _ _ ⟨L,_,rfl,aA,(s0.trans s').trans (aa.upd hL _),.inr (.inl rfl)⟩⟩
   ·cases ee
    rw [he] at ie
    obtain ⟨rfl,_⟩:=lW (QD ie)
    refine ⟨true,T.Gs,?_⟩
    rw [if_pos rfl]
    have eh:Bt H' e (adr mg "NoTelling"):=⟨none,.inr he,fun d hd=>by cases hd⟩
    refine ⟨e,_,_,rfl,eh,T.lz.at_,.inl ⟨false,⟨T.iw.at_,T.Gu⟩,?_⟩⟩
    refine ⟨e,_,_,rfl,eh,T.lz.at_,.inl ⟨true,⟨T.lz.at_,T.Gv⟩,?_⟩⟩
    refine ⟨e,_,_,rfl,eh,T.lz.at_,.inl ⟨false,⟨T.q_.at_,T.J3⟩,?_⟩⟩
    refine ⟨e,_,_,rfl,eh,T.lz.at_,.inl ⟨true,⟨rfl,rfl⟩,?_⟩⟩
    exact ⟨true,rfl,(show 4<=sizeLine by decide),fun L hL=>bg _ _ ⟨L,_,rfl,aA,(s0.trans s').trans (aa.upd hL _),.inr (.inr rfl)⟩⟩
  ·rintro σ' H' ⟨L,bs,rfl,gL,sL,hb⟩
   refine ⟨(show 0<=sizeLine by decide),fun L2 BI=>?_⟩
   have s2:=aa.upd BI (.lst [])
   have g2:upd H' L2 (.lst []) L2=some (.lst []):=aA
   have ue:=s2 _ _ gL
   have ne:L≠L2:=aN gL BI
   dsimp only
   generalize upd H' L2 (.lst [])=H2 at s2 g2 ue
   refine ⟨ne,bs,ue,g2,?_⟩
   have fin:=k _ (sL.trans s2)
   rcases hb with rfl | rfl | rfl
   ·exact ⟨true,rfl,bc fin⟩
   all_goals
    refine ⟨false,rfl,e_ ?_⟩
    refine ⟨.inl ⟨rfl,_,ae.of ue⟩,?_⟩
    refine ⟨L,.bl true,_,rfl,rfl,ue,rfl,(fun v hv=>?_),?_⟩
    ·simp only [Qp,QA,or_false] at hv
     rcases hv with rfl | rfl | rfl | rfl<;>rfl
    ·refine ⟨rfl,true,rfl,bc ?_⟩
     exact ⟨_,.bl false,.inl (ae.of ue),dN (j:=2) rfl,false,rfl,true,rfl,bc ⟨_,.bl false,.inl (ae.of ue),dN (j:=3) rfl,false,rfl,fin⟩⟩
def La:Sp:=fun vs H Q _=>∃ (i:Nat),vs=[.int i]/\i < 1000000000/\∀ H',aa H H'->Q (.bl true) H'
theorem jR (T:Txt K mg w):av P w K mg base 4 "_law_tmade_right" ["number"] La:=by
 have mR:=iW (P:=P) (w:=w) (base:=base) T
 have y3:=lH (P:=P) (w:=w) (base:=base) T
 refine T.kC.fj cV (fun vs H Q E h=>?_) (fun f ak A outer s H vs Q E hr h=>?_)
 ·obtain ⟨i,rfl,_⟩:=h
  rfl
 ·obtain ⟨i,rfl,hi,k⟩:=h
  have az:=Qx (cK hr)
  refine ⟨_,(aE (aX (i:=1) cV.nd rfl (Or.inl rfl) (cL (aV (JO mR (hr.mono (by decide)) (aD (zv 0) aB)) (aV (JO y3 (hr.mono (by decide)) (aD (zv 0) aB)) (aV (Si T.lz (aC aK aB)) aB)))))
   (aE (fN PassesOwn.never rfl (e8 (by rfl) T.eL (aC aF aB)) (aS (i:=2) cV.nd rfl (Or.inl rfl)) (aE (aX (i:=3) cV.nd rfl (Or.inl rfl) (cL (aV (aG (cQ K) (by rfl) T.aM PyProof.Rows.boot_isinstance (aJ (bE (bF K) (zv 1) (zv 2) (fun _ _=>rfl)) (aD (lL (v:=.ref (adr mg "NoText")) ⟨_,T.iw.m,rfl⟩) aB))) (aV (aG (cQ K) (by rfl) T.aM PyProof.Rows.boot_isinstance (aJ (bE (bF K) (zv 1) (zv 2) (fun _ _=>rfl)) (aD (lL (v:=.ref (adr mg "TooMany")) ⟨_,T.q_.m,rfl⟩) aB))) (aV (aG (cQ K) (by rfl) T.aM PyProof.Rows.boot_isinstance (aJ (bE (bF K) (zv 1) (zv 2) (fun _ _=>rfl)) (aD (lL (v:=.ref (adr mg "NoTelling")) ⟨_,T.lz.m,rfl⟩) aB))) aB)))))
   (aE (bP (aP (Sv az) (zv 3) (cL (hX (bX (bA az) (zv 2) aF (ay _)) (hX (bX (bA az) (zv 2) aF (ay _)) (hX (bX (bA az) (zv 2) aF (ay _)) aB)))) (ay _)) (aI (aT eR)) aU)
   (aI (bP (eZ (cS (cE (aG (cQ K) (by rfl) T.aM PyProof.Rows.boot_isinstance (aJ (bE (bF K) (zv 1) (zv 2) (fun _ _=>rfl)) (aD (lL (v:=.ref (adr mg "CoilError")) ⟨_,T.vn.m,rfl⟩) aB))))) (eC (cS (cE (aG (cQ K) (by rfl) T.aM PyProof.Rows.boot_isinstance (aJ (bE (bF K) (zv 1) (zv 2) (fun _ _=>rfl)) (aD (cP (v:=.ty "ValueError") (by rfl) T.i3 f8 rfl) aB))))))).pt (aI (aT eR)) aU)))))
   (aI (aT (eG (bX (bA az) (uZ K (bE (bF K) (zv 1) aF (fun _ _=>rfl))) (zv 0) (ay _)) (gF (bX (bA az) (uZ K (bE (bF K) (zv 1) aF (fun _ _=>rfl))) (zv 0) (ay _)))))))),?_⟩
  refine aO ⟨by simp,fun e0 UZ=>⟨e0,i,rfl,hi,aA,fun d0 hd0=>⟨rfl,?_⟩⟩⟩
  have n0:d0≠e0:=fun z=>by rw [z,aA] at hd0;cases hd0
  rw [aH n0] at hd0
  have s0:aa H (upd (upd (upd H e0 (cf (adr mg "NoText") none e0)) e0 (cf (adr mg "NoText") (some d0) e0)) d0 (.xd [("number",.int i)])):=fun a o ha=>by
   have n1:a≠e0:=fun z=>by rw [z,UZ] at ha;cases ha
   have n2:a≠d0:=fun z=>by rw [z,hd0] at ha;cases ha
   rw [aH n2,aH n1,aH n1];exact ha
  have C5:upd (upd (upd H e0 (cf (adr mg "NoText") none e0)) e0 (cf (adr mg "NoText") (some d0) e0)) d0 (.xd [("number",.int i)]) e0=some (cf (adr mg "NoText") (some d0) e0):=by rw [aH n0.symm,aA]
  have C6:upd (upd (upd H e0 (cf (adr mg "NoText") none e0)) e0 (cf (adr mg "NoText") (some d0) e0)) d0 (.xd [("number",.int i)]) d0=some (.xd [("number",.int i)]):=aA
  dsimp only
  show fu _ _ _ (upd (upd (upd H e0 (cf (adr mg "NoText") none e0)) e0 (cf (adr mg "NoText") (some d0) e0)) d0 (.xd [("number",.int i)])) _
  generalize upd (upd (upd H e0 (cf (adr mg "NoText") none e0)) e0 (cf (adr mg "NoText") (some d0) e0)) d0 (.xd [("number",.int i)])=H1 at s0 C5 C6
  refine ⟨by simp,fun e1 Bk=>⟨e1,i,rfl,hi,aA,fun d1 BJ=>⟨rfl,?_⟩⟩⟩
  have n1:d1≠e1:=fun z=>by rw [z,aA] at BJ;cases BJ
  rw [aH n1] at BJ
  have s1:aa H1 (upd (upd (upd H1 e1 (cf (adr mg "TooMany") none e1)) e1 (cf (adr mg "TooMany") (some d1) e1)) d1 (.xd [("many",.int i)])):=fun a o ha=>by
   have n1:a≠e1:=fun z=>by rw [z,Bk] at ha;cases ha
   have n2:a≠d1:=fun z=>by rw [z,BJ] at ha;cases ha
   rw [aH n2,aH n1,aH n1];exact ha
  have ge1:upd (upd (upd H1 e1 (cf (adr mg "TooMany") none e1)) e1 (cf (adr mg "TooMany") (some d1) e1)) d1 (.xd [("many",.int i)]) e1=some (cf (adr mg "TooMany") (some d1) e1):=by rw [aH n1.symm,aA]
  have C7:upd (upd (upd H1 e1 (cf (adr mg "TooMany") none e1)) e1 (cf (adr mg "TooMany") (some d1) e1)) d1 (.xd [("many",.int i)]) d1=some (.xd [("many",.int i)]):=aA
  show fu _ _ _ (upd (upd (upd H1 e1 (cf (adr mg "TooMany") none e1)) e1 (cf (adr mg "TooMany") (some d1) e1)) d1 (.xd [("many",.int i)])) _
  generalize upd (upd (upd H1 e1 (cf (adr mg "TooMany") none e1)) e1 (cf (adr mg "TooMany") (some d1) e1)) d1 (.xd [("many",.int i)])=H2 at s1 ge1 C7
  refine ⟨by simp,fun e2 Gb=>⟨(show 3<=sizeLine by decide),fun L hL=>?_⟩⟩
  have s2:=(aa.upd Gb (cf (adr mg "NoTelling") none e2)).trans (aa.upd hL (.lst [.ref e0,.ref e1,.ref e2]))
  have Lb:=(aa.upd hL (.lst [.ref e0,.ref e1,.ref e2])) _ _ (show upd H2 e2 (cf (adr mg "NoTelling") none e2) e2=_ from aA)
  have gL:upd (upd H2 e2 (cf (adr mg "NoTelling") none e2)) L (.lst [.ref e0,.ref e1,.ref e2]) L=some (.lst [.ref e0,.ref e1,.ref e2]):=aA
  show uo _ _ _ _ (upd (upd H2 e2 (cf (adr mg "NoTelling") none e2)) L (.lst [.ref e0,.ref e1,.ref e2]))
  generalize upd (upd H2 e2 (cf (adr mg "NoTelling") none e2)) L (.lst [.ref e0,.ref e1,.ref e2])=H3 at s2 Lb gL
  have C5:=(s1.trans s2) _ _ C5
  have C6:=(s1.trans s2) _ _ C6
  have ge1:=s2 _ _ ge1
  have C7:=s2 _ _ C7
  have sH:=(s0.trans s1).trans s2
  refine bB (fun σ' H'=>∃ v2 v3:Option V,σ'=[some (.int i),some (.ref L),v2,v3]/\aa H3 H') ?_ ?_
  ·intro nx bg
   refine ⟨3,rfl,by decide,by decide,dW (dE 0 3) (fun _ σ' H'=>∃ v2 v3:Option V,σ'=[some (.int i),some (.ref L),v2,v3]/\aa H3 H') ⟨none,none,rfl,aa.refl _⟩ (fun _ _ _ _ _=>True.intro) ?_ ?_⟩
   ·rintro j σ' H4 hj ⟨v2,v3,rfl,s4⟩
    have key:∀ H',aa H3 H'->∃ e C,iu [V.ref e0,.ref e1,.ref e2] ((0:Int)+(j:Int))=some (.ref e)/\Bt H' e C/\ly K C/\PySem.W.subIn K (.ref C) (.ref (adr mg "NoText"))=some (decide (j=0))/\PySem.W.subIn K (.ref C) (.ref (adr mg "TooMany"))=some (decide (j=1))/\PySem.W.subIn K (.ref C) (.ref (adr mg "NoTelling"))=some (decide (j=2))/\PySem.W.subIn K (.ref C) (.ref (adr mg "CoilError"))=some true:=fun H' s'=>by
     rcases (show j=0\/j=1\/j=2 by omega) with rfl | rfl | rfl
     ·exact ⟨e0,_,rfl,⟨some d0,.inl (s' _ _ C5),fun d hd=>by cases hd;exact ⟨_,s' _ _ C6⟩⟩,T.iw.at_,T.Gr,T.J1,T.J2,T.Gq⟩
     ·exact ⟨e1,_,rfl,⟨some d1,.inl (s' _ _ ge1),fun d hd=>by cases hd;exact ⟨_,s' _ _ C7⟩⟩,T.q_.at_,T.Tn,T.To,T.Tp,T.Tj⟩
     ·exact ⟨e2,_,rfl,⟨none,.inl (s' _ _ Lb),fun d hd=>by cases hd⟩,T.lz.at_,T.Gu,T.J3,T.Gv,T.Gs⟩
    refine hdn fun Gz9 zG9=>?_;obtain ⟨e,C,ha,eh,xa,u1,u2,u3,u4⟩:=key H4 s4;refine zG9 ?_
    have ix:∀ {H':Hp} {Q':VK},aa H3 H'->Q' (.ref e) H'->A9 K (.ref L) (.int ((0:Int)+(j:Int))) H' Q':=fun s' q=>⟨_,_,.inl (ae.of (s' _ _ gL)),ha,q⟩
    refine aO (ix s4 ⟨e,_,C,rfl,eh,xa,.inl ⟨_,⟨T.iw.at_,u1⟩,ix s4 ⟨e,_,C,rfl,eh,xa,.inl ⟨_,⟨T.q_.at_,u2⟩,ix s4 ⟨e,_,C,rfl,eh,xa,.inl ⟨_,⟨T.lz.at_,u3⟩,⟨(show 3<=sizeLine by decide),fun M hM=>?_⟩⟩⟩⟩⟩⟩⟩)
    have s5:=aa.upd hM (.lst [.bl (decide (j=0)),.bl (decide (j=1)),.bl (decide (j=2))])
    have gM:upd H4 M (.lst [.bl (decide (j=0)),.bl (decide (j=1)),.bl (decide (j=2))]) M=some (.lst [.bl (decide (j=0)),.bl (decide (j=1)),.bl (decide (j=2))]):=aA
    dsimp only
    generalize upd H4 M (.lst [.bl (decide (j=0)),.bl (decide (j=1)),.bl (decide (j=2))])=H5 at s5 gM
    have ed:∀ m:Nat,(false^^decide (V.int ((0:Int)+(j:Int))=V.int (m:Int)))=decide (j=m):=fun m=>by rw [QE,aZ];exact decide_eq_decide.mpr (by omega)
    refine ⟨rfl,rfl,rfl,⟨(show 3<=sizeLine by decide),fun M2 Lc=>?_⟩⟩
    have fl:∀ a b c:Bool,∀ v∈([.bl a,.bl b,.bl c]:List V),kc v=true:=fun a b c v hv=>by
     simp only [Qp,QA,or_false] at hv
     rcases hv with rfl | rfl | rfl<;>rfl
    refine ⟨M,M2,_,_,rfl,rfl,(aa.upd Lc _) _ _ gM,aA,rfl,fl _ _ _,fl _ _ _,_,rfl,bq (fun h=>?_) (fun _=>?_)⟩
    ·exfalso
     rcases (show j=0\/j=1\/j=2 by omega) with rfl | rfl | rfl<;>exact absurd h (by decide)
    have s6:=(s4.trans s5).trans (aa.upd Lc (.lst [.bl (false^^decide (V.int ((0:Int)+(j:Int))=V.int 0)),.bl (false^^decide (V.int ((0:Int)+(j:Int))=V.int 1)),.bl (false^^decide (V.int ((0:Int)+(j:Int))=V.int 2))]))
    generalize upd H5 M2 _=H6 at s6 ⊢
    refine hdn fun Gz9 zG9=>?_;obtain ⟨e',C',Ld,Le,Lf,_,_,_,U0⟩:=key H6 s6;refine zG9 ?_
    obtain rfl:e=e':=by rw [ha] at Ld;cases Ld;rfl
    refine cT (ix s6 ⟨e,_,C',rfl,Le,Lf,.inl ⟨true,⟨T.vn.at_,U0⟩,true,rfl,?_⟩⟩)
    refine e_ (ix s6 ⟨e,_,C',rfl,Le,Lf,.inl ⟨true,⟨rfl,rfl⟩,true,rfl,?_⟩⟩)
    exact e_ ⟨_,_,rfl,s6⟩
   ·rintro σ' H4 ⟨v2,v3,rfl,s4⟩
    exact bg _ _ ⟨_,_,rfl,s4⟩
  ·rintro σ' H4 ⟨v2,v3,rfl,s4⟩
   refine ⟨_,_,.inl (ae.of (s4 _ _ gL)),dN (j:=0) rfl,e0,_,d0,_,.int i,rfl,.inl (s4 _ _ C5),s4 _ _ C6,T.iw.at_,T.iw.na _ (by simp),rfl,rfl,true,by simp,bc ?_⟩
   refine ⟨_,_,.inl (ae.of (s4 _ _ gL)),dN (j:=1) rfl,e1,_,d1,_,.int i,rfl,.inl (s4 _ _ ge1),s4 _ _ C7,T.q_.at_,T.q_.na _ (by simp),rfl,rfl,?_⟩
   have:=k H4 (sH.trans s4)
   simpa using this
theorem nH:∀ r:List Str,((eu r).map fun c=>Dt.tup (c.map Dt.str)).all pairD=(decide (r.length % 2=0)&&r.all isName)
 | []=>rfl
 | [a]=>by simp [eu,pairD]
 | a::b::r=>by
  rw [eu,List.map_cons,List.all_cons,nH r]
  have e:decide ((a::b::r).length % 2=0)=decide (r.length % 2=0):=decide_eq_decide.mpr (by simp;omega)
  rw [e,List.all_cons,List.all_cons]
  show ((isName a&&isName b)&&_)=_
  cases isName a<;>cases isName b<;>cases decide (r.length % 2=0)<;>rfl
theorem mY (x:Str):∀ r:List Str,((eu r).map fun c=>Dt.tup (c.map Dt.str)).map nv=gi (x::r)
 | []=>rfl
 | [a]=>rfl
 | a::b::r=>by
  rw [eu,List.map_cons,List.map_cons,mY b r]
  rfl
theorem Lg (r:List Str) (h:dj x=true):headD (dw (x::r))=((decide (r.length % 2=0)&&r.all isName)&&rising (gi (x::r))):=by
 rw [dw,if_pos h,cN,if_pos h]
 show (_&&_)=_
 rw [nH,mY x]
theorem Lh (l:List Str):(l.map Dt.str).all bw=l.all isName:=by
 rw [List.all_map];rfl
theorem kL (r:List Str) (h:dj x=false) (h2:(("all":Str)==x||(("none":Str)==x||(("way":Str)==x||false)))=true):headD (dw (x::r))=match oh x with | some n=>decide (r.length=n)&&r.all isName | none=>false:=by
 rw [dw,if_neg (by rw [h];decide),if_pos h2,List.map_cons,cN,if_neg (by rw [h];decide),Lh,Ql]
 try rfl
theorem sM (r:List Str) (h:dj x=false) (h2:(("all":Str)==x||(("none":Str)==x||(("way":Str)==x||false)))=false):headD (dw (x::r))=(r.isEmpty&&isName x):=by
 rw [dw,if_neg (by rw [h];decide),if_neg (by rw [h2];decide),List.map_cons,cN,if_neg (by decide)]
 show (decide (_=1)&&_)=_
 rw [Ql,Lh]
 cases r with
 | nil=>simp
 | cons a t=>simp
theorem U1 {l m:List Str}:l.map Tv.s=m.map Tv.s↔l=m:=List.map_inj_right (fun a b e=>by cases e;rfl)
theorem vD (zs:List Str):gr H n (zs.map V.str) (zs.map Tv.s):=⟨by simp,fun j h1 h2=>by
 rw [Qr,Qr];exact TD.str⟩
theorem w9 {r:List Str} (h:isName x=false):((x::r).filter isName=r↔r.all isName=true):=by
 rw [List.filter_cons_of_neg (by rw [h];decide),List.filter_eq_self,QF]
theorem oB:∀ l:List Str,gi (l.map V.str)=(gi l).map V.str
 | []=>rfl
 | [_]=>rfl
 | _::b::r=>by
  show V.str b::gi (r.map V.str)=_
  rw [oB r];rfl
theorem sQ:∀ {l:List Str} {z:Str},z∈gi l->z∈l
 | _::b::r,z,h=>by
  rcases Qp.mp (show z∈b::gi r from h) with rfl | h
  ·simp
  ·exact Qh _ (Qh _ (sQ h))
def Li:Sp:=fun vs H Q _=>∃ (L:Addr) (ws:List Str),vs=[.ref L]/\H L=some (.lst (ws.map V.str))/\ws≠[]/\ws.length<=990/\(∀ z∈ws,z.length<=100000)/\(headD (dw ws)=true->∀ v H',aa H H'->TX H' v (dw ws)->Q v H')/\(headD (dw ws)=false->∀ H',aa H H'->Q .af H')
theorem lI (T:Txt K mg w):av P w K mg base 2 "_law_thead_by" ["words"] Li:=by
 have cD:av P w K mg base 1 "_law_tis_name" ["thing"] (spT bw):=dO T
 refine T.mM.fj eW (fun vs H Q E h=>?_) (fun f ak A outer s H vs Q E hr h=>?_)
 ·obtain ⟨L,ws,rfl,_⟩:=h
  rfl
 ·refine hdn fun Gz9 zG9=>?_;obtain ⟨L,ws,rfl,hL,gq,hl,hz,k1,k2⟩:=h;refine zG9 ?_
  have az:=Qx (cK hr)
  have AN:=zR hr
  have hsz:sizeLine=16777216:=QL
  refine ⟨_,(aE (IF (i:=1) (own:=["word"]) (idx:=[]) (N':=["word"]) (d4 (au cO) (["words","names","some"]:List Str) (by decide+kernel)) rfl (lQ K (zv 0)) (fun _ _ _ _ _ _=>(aS (i:=0) (show List.Nodup (["word"]:List Str) by decide+kernel) rfl (Or.inl rfl))) (fun _ _ _ _ _ _=>(FH (cE (bJ cD (hr.mono (by decide)) (aD (zv 0) aB))))) (fun _ _ _ _ _ _=>(zv 0)) eW.nd rfl rfl)
   (aE (bP (eZ (aP (lT K AN) (zv 0) (cL (aC aK aB)) (ay _)) (eC (aP (lT K AN) (zv 0) (cL (aC aK aB)) (ay _)))).pt (aI (aT (d5 (aJ (bE (bF K) (zv 0) aF (fun _ _=>rfl)) aB)))) aU)
   (aE (bP (lG (aP (bA az) (bE (bF K) (zv 0) aF (fun _ _=>rfl)) aK (ay _)) (lG (aP (bA az) (aG (aL K) (by rfl) T.cz PySem.boot_len (aD (zv 0) aB)) aF (ay _)) (lZ (aP (lT K AN) (zv 1) (bZ (i5 K) (zv 0) (bU aF) cF) (ay _))))).pt (aI (aT (cJ (cR K) (by rfl) T.bN QG (aD (zv 0) aB)))) aU)
   (aE (bP (lG (aP (iO K) (bE (bF K) (zv 0) aF (fun _ _=>rfl)) (cL (aC aK (aC aK aB))) rfl) (lG (aP (bA az) (bQ fC (aG (aL K) (by rfl) T.cz PySem.boot_len (aD (zv 0) aB)) aF) aF (ay _)) (lZ (aP (lT K AN) (zv 1) (bZ (i5 K) (zv 0) (bU aF) cF) (ay _))))).pt (aE (aX (i:=2) eW.nd rfl (Or.inr rfl) (SD K (zv 0) aF aF))
   (aI (bP (cE (aG (cC K rfl) (by rfl) T.qa QX (aY (fV (own:=["k"]) (idx:=[2]) (N':=["k","some"]) (d4 (au cO) (["words","names","some"]:List Str) (by decide+kernel)) rfl (e8 (by rfl) T.eL (dI (bQ Og (aG (aL K) (by rfl) T.cz PySem.boot_len (aD (zv 2) aB)) aF) aB)) (fun _ _ _ _ _ _=>(aS (i:=0) (show List.Nodup (["k","some"]:List Str) by decide+kernel) rfl (Or.inl rfl))) (fun _ _ _ _ _ _=>dF) (fun _ _ _ _ _ _=>(bX iT (bE (bF K) (zv 1) (zv 0) (fun _ _=>rfl)) (bE (bF K) (zv 1) (bQ bC (zv 0) aF) (fun _ _=>rfl)) (ay _)))) aB))) (aI (aT (d5 (aJ (bE (bF K) (zv 0) aF (fun _ _=>rfl)) (aV (cJ (cR K) (by rfl) T.bN QG (aY (fV (own:=["k"]) (idx:=[0,2]) (N':=["k","words","some"]) (d4 (au cO) (["words","names","some"]:List Str) (by decide+kernel)) rfl (e8 (by rfl) T.eL (aV (aG (aL K) (by rfl) T.cz PySem.boot_len (aD (zv 2) aB)) aB)) (fun _ _ _ _ _ _=>(aS (i:=0) (show List.Nodup (["k","words","some"]:List Str) by decide+kernel) rfl (Or.inl rfl))) (fun _ _ _ _ _ _=>dF) (fun _ _ _ _ _ _=>(d5 (aJ (bE (bF K) (zv 2) (zv 0) (fun _ _=>rfl)) (aJ (bE (bF K) (zv 1) (bQ bC aF (bQ fY aF (zv 0))) (fun _ _=>rfl)) aB))))) aB)) aB))))) aU))) aU)
   (aI (aT (kK (lG (aP (bA az) (aG (aL K) (by rfl) T.cz PySem.boot_len (aD (zv 0) aB)) aF (ay _)) (lZ (aP (bA az) (aG (aL K) (by rfl) T.cz PySem.boot_len (aD (zv 1) aB)) aF (ay _)))).pt (d5 (aC aK (aJ (bE (bF K) (zv 0) aF (fun _ _=>rfl)) aB))) n4))))))),?_⟩
  obtain ⟨x,r,rfl⟩:=List.exists_cons_of_ne_nil gq
  refine aO (Or.inl ⟨⟨_,ae.of hL⟩,fun D hD=>?_⟩)
  refine gO (dH ((x::r).map V.str)) (fun i τ H2=>∃ (v:Option V),τ=[v]/\H2 D=some (.lst ((((x::r).take i).filter isName).map V.str))/\aa H H2) ⟨none,rfl,aA,aa.upd hD _⟩ (by rintro i τ H2 _ ⟨_,_,_,q⟩;exact ae.of (q _ _ hL)) ?_ ?_
  ·rintro i τ H2 hi ⟨v,rfl,q1,q2⟩
   rw [Ql] at hi
   rw [cA _ i hi]
   have el:(x::r).getD i ""=(x::r)[i]:=by rw [Qb,Qa hi];rfl
   rw [el]
   have l_:(x::r).take (i+1)=(x::r).take i++[(x::r)[i]]:=by rw [Qs,Qa hi];rfl
   have hm:=Qj hi
   generalize (x::r)[i]=z at l_ hm
   refine ⟨.str z,.str z,rfl,.str (hz z hm),fun H3 s3=>⟨_,rfl,?_⟩⟩
   show if isName z=true then _ else _
   have g1:=s3 _ _ q1
   refine bq (fun h=>?_) (fun h=>?_)
   ·have W4:(((x::r).take i).filter isName).length<=990:=Nat.le_trans (List.length_filter_le ..) (by simp;omega)
    refine ⟨_,g1,by rw [Ql];omega,_,rfl,?_,(q2.trans s3).put hD⟩
    rw [aA,l_,List.filter_append,Qm]
    simp [h]
   ·refine ⟨_,rfl,?_,q2.trans s3⟩
    rw [g1,l_,List.filter_append]
    simp [h]
  ·rintro τ H1 ⟨v,rfl,gN,s1⟩
   rw [Ql,Qo] at gN
   have gL:=s1 _ _ hL
   have EU:∀ {p a:Addr} {l m:List Str} {H2:Hp} {Q':VK},H2 a=some (.lst (l.map V.str))->H2 p=some (.lst (m.map V.str))->(∀ b:Bool,(b=true↔l=m)->Q' (.bl b) H2)->JZ K false (.ref a) (.ref p) H2 Q':=fun h1 h2 k=>⟨0,0,_,_,_,_,_,_,by decide,rfl,rfl,ae.of h1,ae.of h2,vD _,vD _,fun b hb=>by rw [QE];exact k b (hb.trans U1)⟩
   refine bB (fun σ' H'=>σ'=[some (.ref L),some (.ref D),none]/\aa H1 H'/\x::r≠[("all":Str)]/\x::r≠[("none":Str)]) ?_ ?_
   ·intro nx bg
    have one:∀ {H2:Hp} (y:Str),x::r=[y]->(y="all"\/y="none")->aa H1 H2->zq (B4 (fu (j_ (A9 K) (tV 0) (tC (V.int 0))) ky)) {nx:=nx,rt:=Q} [some (.ref L),some (.ref D),none] H2:=fun {H2} y e hy s2=>by
     refine ⟨_,_,.inl (ae.of (s2 _ _ gL)),aR _ _,(show 1<=sizeLine by decide),fun p hp=>?_⟩
     have e2:dw (x::r)=.tup ([y].map Dt.str):=by
      rw [e]
      rcases hy with rfl | rfl<;>rfl
     refine k1 ?_ _ _ ((s1.trans s2).trans (aa.upd hp _)) ?_
     ·rw [e2]
      rcases hy with rfl | rfl<;>decide
     ·rw [e2]
      have e3:x=y:=(List.cons.inj e).1
      subst e3
      exact hU (ws:=[x]) aA (by simp) fun z ia=>by
       rw [List.mem_singleton.mp ia]
       exact hz x (by simp)
    refine ⟨(show 1<=sizeLine by decide),fun p1 bz=>EU (l:=x::r) (m:=["all"]) ((aa.upd bz _) _ _ gL) aA fun b hb=>⟨_,rfl,bq (fun h=>?_) (fun h=>?_)⟩⟩
    ·exact bc (one "all" (hb.mp h) (.inl rfl) (aa.upd bz _))
    refine ⟨(show 1<=sizeLine by decide),fun p2 gm=>EU (l:=x::r) (m:=["none"]) (((aa.upd bz _).trans (aa.upd gm _)) _ _ gL) aA fun b2 yk=>⟨_,rfl,bq (fun h2=>?_) (fun h2=>?_)⟩⟩
    ·exact one "none" (yk.mp h2) (.inr rfl) ((aa.upd bz _).trans (aa.upd gm _))
    ·exact bg _ _ ⟨rfl,(aa.upd bz _).trans (aa.upd gm _),fun e=>(by rw [hb.mpr e] at h;cases h),fun e=>(by rw [yk.mpr e] at h2;cases h2)⟩
   rintro σ' H2 ⟨rfl,s2,na,nn⟩
   have ue:=s2 _ _ gL
   have U3:=s2 _ _ gN
   have C8:f_ ((x::r).map V.str) (some 1) none=r.map V.str:=dL _ 1
   refine bB (fun σ' H'=>σ'=[some (.ref L),some (.ref D),none]/\aa H1 H'/\(x="way"->headD (dw (x::r))=false)) ?_ ?_
   ·intro nx bg
    have hw:x="way"->headD (dw (x::r))=(decide (r.length=2)&&r.all isName):=fun e=>by subst e;exact kL r (by decide) (by decide)
    refine ⟨_,_,.inl (ae.of ue),aR _ _,rfl,_,rfl,?_⟩
    rw [QE,bK]
    refine bq (fun hx=>?_) (fun hx=>?_)
    rotate_left
    ·exact bg _ _ ⟨rfl,s2,fun e=>by rw [e] at hx;cases hx⟩
    have hx:=beq_iff_eq.mp hx
    refine Or.inl ⟨_,.inl (ae.of ue),rfl,_,rfl,?_⟩
    rw [QE,aZ]
    refine bq (fun h3=>?_) (fun h3=>?_)
    rotate_left
    ·refine bg _ _ ⟨rfl,s2,fun e=>?_⟩
     have:=Qu h3
     rw [hw e,Qw (by simp at this;omega)];rfl
    refine ⟨1,rfl,Or.inr (Or.inl ⟨L,_,rfl,ae.of ue,fun p hp=>?_⟩)⟩
    rw [C8]
    refine EU ((aa.upd hp _) _ _ U3) aA fun b hb=>⟨_,rfl,bq (fun h=>?_) (fun h=>?_)⟩
    ·have ha:r.all isName=true:=(w9 (by rw [hx];decide)).mp (hb.mp h)
     refine ⟨L,_,rfl,.inl ⟨ae.of ((aa.upd hp _) _ _ ue),fun q hq=>?_⟩⟩
     have h3:=Qt h3
     refine k1 ?_ _ _ (((s1.trans s2).trans (aa.upd hp _)).trans (aa.upd hq _)) ?_
     ·rw [hw hx,ha,Qv (by simp at h3;omega)];rfl
     ·have e2:dw (x::r)=.tup ((x::r).map Dt.str):=by subst hx;rfl
      rw [e2]
      exact hU aA (by omega) hz
    ·refine bg _ _ ⟨rfl,s2.trans (aa.upd hp _),fun e=>?_⟩
     have:r.all isName=false:=by
      cases q:r.all isName with
      | false=>rfl
      | true=>rw [hb.mpr ((w9 (by rw [hx];decide)).mpr q)] at h;cases h
     rw [hw e,this,Bool.and_false]
   rintro σ' H3 ⟨rfl,s3,U4⟩
   have U5:=s3 _ _ gL
   have W5:=s3 _ _ gN
   refine bB (fun σ' H'=>∃ v2,σ'=[some (.ref L),some (.ref D),v2]/\aa H1 H'/\(dj x=true->headD (dw (x::r))=false)) ?_ ?_
   ·intro nx bg
    refine ⟨_,_,.inl (ae.of U5),aR _ _,(show 2<=sizeLine by decide),fun p hp=>⟨_,.inl (ae.of aA),rfl,rfl,_,rfl,?_⟩⟩
    have U6:mw (V.str x) [V.str "box",V.str "pick"]=dj x:=by
     show (("box":Str)==x||(("pick":Str)==x||false))=(x=="box"||x=="pick")
     rw [Bool.or_false,Bool.beq_comm,Bool.beq_comm (a:=("pick":Str))]
    rw [QE,U6]
    have sp:=s3.trans (aa.upd hp (.lst [.str "box",.str "pick"]))
    generalize upd H3 p (.lst [.str "box",.str "pick"])=H4 at sp ⊢
    have qf:=sp _ _ gL
    have G8:=sp _ _ gN
    refine bq (fun hx=>?_) (fun hx=>?_)
    rotate_left
    ·exact bg _ _ ⟨_,rfl,sp,fun e=>by rw [e] at hx;cases hx⟩
    have hw:=Lg r hx
    have ER:isName x=false:=by
     rw [dj,Bool.or_eq_true] at hx
     rcases hx with q | q<;>rw [beq_iff_eq.mp q]<;>decide
    refine Or.inl ⟨_,.inl (ae.of qf),by decide,rfl,_,rfl,?_⟩
    rw [QE,aZ]
    refine bq (fun h3=>?_) (fun h3=>?_)
    rotate_left
    ·refine bg _ _ ⟨_,rfl,sp,fun _=>?_⟩
     have:=Qu h3
     rw [hw,Qw (by simp at this;omega)];rfl
    have h3:r.length % 2=0:=by have:=Qt h3;simp at this;omega
    refine ⟨1,rfl,Or.inr (Or.inl ⟨L,_,rfl,ae.of qf,fun p2 gm=>?_⟩)⟩
    rw [C8]
    refine EU ((aa.upd gm _) _ _ G8) aA fun b hb=>⟨_,rfl,?_⟩
    have sp:=sp.trans (aa.upd gm (.lst (r.map V.str)))
    generalize upd H4 p2 (.lst (r.map V.str))=H5 at sp ⊢
    have AI:=sp _ _ gL
    refine bq (fun h=>?_) (fun h=>?_)
    rotate_left
    ·refine bg _ _ ⟨_,rfl,sp,fun _=>?_⟩
     have:r.all isName=false:=by
      cases q:r.all isName with
      | false=>rfl
      | true=>rw [hb.mpr ((w9 ER).mpr q)] at h;cases h
     rw [hw,this,Bool.and_false,Bool.false_and]
    have ha:r.all isName=true:=(w9 ER).mp (hb.mp h)
    rw [ha,Qv h3,Bool.true_and,Bool.true_and] at hw
    refine aO ⟨rfl,rfl,L,_,rfl,ae.of AI,fun S hS=>?_⟩
    rw [oB]
    have eo:=kZ (x::r)
    have Lj:∀ j,j < (gi (x::r)).length->(gi (x::r))[j]? =r[2*j]?:=fun j hj=>by
     rw [kX,if_pos (by omega)];rfl
    have Lk:∀ z∈gi (x::r),z.length<=100000:=fun z h=>hz z (sQ h)
    generalize gi (x::r)=os at hw eo Lj Lk
    have eo:os.length=r.length / 2:=by rw [eo];simp;omega
    have qp:os.length<=990:=by simp at hl;omega
    have sp:=sp.trans (aa.upd hS (.lst (os.map V.str)))
    have gS:upd H5 S (.lst (os.map V.str)) S=some (.lst (os.map V.str)):=aA
    dsimp only
    generalize upd H5 S (.lst (os.map V.str))=H6 at sp gS
    have G9:=sp _ _ gL
    refine Or.inl ⟨_,.inl (ae.of gS),_,rfl,?_,?_,fun D2 ii=>?_⟩
    ·rw [Ql];omega
    ·rw [Ql];omega
    have en:((((os.map V.str).length:Nat):Int) - 1).toNat=os.length - 1:=by rw [Ql];omega
    rw [en]
    have W6:=aN gS ii
    have G_:∀ j:Nat,j < os.length->iu (os.map V.str) (j:Int)=some (.str (os.getD j "")):=fun j hj=>dN (by rw [Qq,Qb,Qa hj];rfl)
    refine gO (dE 0 (os.length - 1)) (fun i τ H'=>∃ v0:Option V,τ=[v0,some (.ref S)]/\H' D2=some (.lst (((List.range i).map fun j=>gv (os.getD j "") (os.getD (j+1) "")).map V.bl))/\aa H6 H') ⟨none,rfl,aA,aa.upd ii _⟩ (fun _ _ _ _ _=>True.intro) ?_ ?_
    ·rintro i τ H7 hi ⟨v0,rfl,q1,q2⟩
     rw [show ((0:Int)+(i:Int))=(i:Int) by omega]
     refine ⟨_,_,.inl (ae.of (q2 _ _ gS)),G_ i (by omega),_,_,.inl (ae.of (q2 _ _ gS)),G_ (i+1) (by omega),?_⟩
     refine ⟨_,q1,by simp;omega,_,rfl,?_,q2.put ii⟩
     rw [aA,List.range_succ,Qm,Qm]
     rfl
    ·rintro τ H7 ⟨v0,rfl,q1,q2⟩
     have er:=iA os
     rw [show min os.length (os.length - 1)=os.length - 1 by omega] at er
     refine ⟨_,ae.of q1,_,rfl,?_⟩
     rw [er]
     have sp:=sp.trans q2
     refine bq (fun Hf=>?_) (fun Hf=>?_)
     rotate_left
     ·exact bg _ _ ⟨_,rfl,sp,fun _=>by rw [hw,Hf]⟩
     have Ll:=sp _ _ gL
     have Lm:=q2 _ _ gS
     refine ⟨_,_,.inl (ae.of Ll),aR _ _,Or.inl ⟨_,.inl (ae.of Lm),_,rfl,by rw [Ql];omega,by rw [Ql];omega,fun D3 w_=>?_⟩⟩
     rw [Ql,Int.toNat_natCast]
     have cl:=gU r
     have cg:∀ j (h:j < os.length) (h':j < (eu r).length),(eu r)[j]=[os.getD j "",(x::r).getD (2+2*j) ""]:=fun j h h'=>by
      rw [fF r j h']
      have h1:2*j < r.length:=by omega
      have h2:2*j+1 < r.length:=by omega
      rw [List.drop_eq_getElem_cons h1,List.take_succ_cons,List.drop_eq_getElem_cons h2,List.take_succ_cons,List.take_zero,Qb,Lj j h,Qa h1,Qb,show 2+2*j=2*j+1+1 by omega,List.getElem?_cons_succ,Qa h2]
      rfl
     refine gO (dE 0 os.length) (fun i τ H'=>∃ (v0:Option V) (xs:List V),τ=[v0,some (.ref L),some (.ref S)]/\H' D3=some (.lst xs)/\xs.length=i/\(∀ j (h:j < xs.length) (h':j < (eu r).length),TX H' xs[j] (.tup ((eu r)[j].map Dt.str)))/\aa H7 H') ⟨none,[],rfl,aA,rfl,fun j h=>absurd h (by simp),aa.upd w_ _⟩ (fun _ _ _ _ _=>True.intro) ?_ ?_
     ·rintro i τ H8 hi ⟨v0,xs,rfl,p1,ji,p2,p3⟩
      rw [show ((0:Int)+(i:Int))=(i:Int) by omega]
      refine ⟨_,_,.inl (ae.of (p3 _ _ Lm)),G_ i hi,?_⟩
      have Ar:BY 2 (i:Int):=.inl ⟨by decide,by decide⟩
      refine ⟨Ar,?_⟩
      show A9 K (.ref L) (.int (2+2*(i:Int))) H8 _
      have yz:2+2*i < (x::r).length:=by simp;omega
      refine ⟨_,.str ((x::r).getD (2+2*i) ""),.inl (ae.of (p3 _ _ Ll)),?_,(show 2<=sizeLine by decide),fun c hc=>?_⟩
      ·rw [show (2+2*(i:Int))=((2+2*i:Nat):Int) by omega]
       exact dN (by rw [Qq,Qb,Qa yz];rfl)
      have g1:=(aa.upd hc (.tup [.str (os.getD i ""),.str ((x::r).getD (2+2*i) "")])) _ _ p1
      have gc:upd H8 c (.tup [.str (os.getD i ""),.str ((x::r).getD (2+2*i) "")]) c=some (.tup [.str (os.getD i ""),.str ((x::r).getD (2+2*i) "")]):=aA
      have s9:=aa.upd hc (.tup [.str (os.getD i ""),.str ((x::r).getD (2+2*i) "")])
      dsimp only
      generalize upd H8 c (.tup [.str (os.getD i ""),.str ((x::r).getD (2+2*i) "")])=H9 at g1 gc s9
      have C3:Tk H9 (upd H9 D3 (.lst (xs++[.ref c]))):=(Tk.refl).set g1 (by intro _ z;cases z)
      refine ⟨xs,g1,by omega,_,xs++[.ref c],rfl,aA,by simp [ji],fun j a b=>?_,(p3.trans s9).put w_⟩
      by_cases bh:j < xs.length
      ·rw [Qe bh]
       exact (p2 j bh b).tk (s9.ts.trans C3)
      ·have e:j=xs.length:=by simp at a;omega
       subst e
       rw [Qf (Qy _)]
       simp only [Nat.sub_self,List.getElem_cons_zero]
       subst ji
       rw [cg _ hi b]
       refine hU (ws:=[os.getD xs.length "",(x::r).getD (2+2*xs.length) ""]) (C3 _ _ gc) (by simp) fun z ia=>?_
       rcases Qp.mp ia with rfl | ia
       ·refine Lk _ ?_
        rw [Qb,Qa hi]
        exact Qj _
       ·rw [List.mem_singleton.mp ia]
        refine hz _ ?_
        rw [Qb,Qa yz]
        exact Qj _
     ·rintro τ H8 ⟨v0,xs,rfl,p1,ji,p2,p3⟩
      refine ⟨D3,xs,rfl,.inl ⟨ae.of p1,fun c hc=>⟨(show 2<=sizeLine by decide),fun b' Lo=>?_⟩⟩⟩
      have s9:=(aa.upd hc (.tup xs)).trans (aa.upd Lo (.tup [.str x,.ref c]))
      refine k1 (by rw [hw,Hf]) _ _ (((s1.trans sp).trans p3).trans s9) ?_
      rw [dw,if_pos hx]
      refine eO aA (.str (hz x (by simp))) (.tup ((aa.upd Lo _) _ _ aA) (by simp;omega) (by omega) fun i a W7=>?_)
      simp only [Qr]
      exact (p2 i a (by omega)).tk s9.ts
   rintro σ' H4 ⟨v2,rfl,s4,y_⟩
   have qf:=s4 _ _ gL
   have G8:=s4 _ _ gN
   have fin:∀ {H5:Hp},aa H1 H5->r.isEmpty=false\/isName x=false->Q .af H5:=fun {H5} s5 h=>by
    refine k2 ?_ H5 (s1.trans s5)
    cases e1:dj x with
    | true=>exact y_ e1
    | false=>
     cases e2:(("all":Str)==x||(("none":Str)==x||(("way":Str)==x||false))) with
     | false=>
      rw [sM r e1 e2]
      rcases h with h | h<;>rw [h]
      ·rfl
      ·rw [Bool.and_false]
     | true=>
      rw [Bool.or_false,Bool.or_eq_true,Bool.or_eq_true] at e2
      rcases e2 with e2 | e2 | e2
      all_goals
       have e2:=(beq_iff_eq.mp e2).symm
      ·subst e2
       have:r≠[]:=fun z=>na (by rw [z])
       rw [kL r (by decide) (by decide)]
       show (decide (r.length=0)&&_)=_
       rw [Qw (by simpa using this)];rfl
      ·subst e2
       have:r≠[]:=fun z=>nn (by rw [z])
       rw [kL r (by decide) (by decide)]
       show (decide (r.length=0)&&_)=_
       rw [Qw (by simpa using this)];rfl
      ·exact U4 e2
   refine Or.inl ⟨_,.inl (ae.of qf),rfl,_,rfl,?_⟩
   rw [QE,aZ]
   refine bq (fun h=>?_) (fun h=>?_)
   rotate_left
   ·refine fin s4 (.inl ?_)
    have:=Qu h
    cases r with
    | nil=>simp at this
    | cons a t=>rfl
   have U7:r=[]:=by
    have:=Qt h
    cases r with
    | nil=>rfl
    | cons a t=>simp at this;omega
   subst U7
   refine Or.inl ⟨_,.inl (ae.of G8),rfl,_,rfl,?_⟩
   rw [QE,aZ]
   refine bq (fun h=>?_) (fun h=>?_)
   rotate_left
   ·refine fin s4 (.inr ?_)
    have:=Qu h
    cases q:isName x with
    | false=>rfl
    | true=>simp [q] at this
   have hn:isName x=true:=by
    have:=Qt h
    cases q:isName x with
    | true=>rfl
    | false=>simp [q] at this
   have e1:dj x=false:=by
    cases q:dj x with
    | false=>rfl
    | true=>
     rw [dj,Bool.or_eq_true] at q
     rcases q with q | q<;>rw [beq_iff_eq.mp q] at hn<;>exact absurd hn (by decide)
   have e2:(("all":Str)==x||(("none":Str)==x||(("way":Str)==x||false)))=false:=by
    cases q:(("all":Str)==x||(("none":Str)==x||(("way":Str)==x||false))) with
    | false=>rfl
    | true=>
     rw [Bool.or_false,Bool.or_eq_true,Bool.or_eq_true] at q
     rcases q with q | q | q<;>rw [<- beq_iff_eq.mp q] at hn<;>exact absurd hn (by decide)
   refine ⟨_,_,.inl (ae.of qf),aR _ _,(show 2<=sizeLine by decide),fun p hp=>?_⟩
   refine k1 ?_ _ _ ((s1.trans s4).trans (aa.upd hp _)) ?_
   ·rw [sM [] e1 e2,hn];rfl
   ·have e3:dw [x]=.tup ([Str.ofString "as",x].map Dt.str):=by rw [dw,if_neg (by rw [e1];decide),if_neg (by rw [e2];decide)]
    rw [e3]
    exact hU (ws:=[Str.ofString "as",x]) aA (by simp) fun z ia=>by
     rcases Qp.mp ia with rfl | ia
     ·decide
     ·exact hz z ia
theorem t7 (T:Txt K mg w):av P w K mg base 8 "_law_tdue" ["text"] xj:=by
 have cD:av P w K mg base 1 "_law_tis_name" ["thing"] (spT bw):=dO T
 have mV:av P w K mg base 2 "_law_thead_by" ["words"] Li:=lI T
 have kO:av P w K mg base 3 "_law_tis_telling" ["thing"] (spT fm):=jP T
 refine T.uK.fj dA (fun vs H Q E h=>?_) (fun f ak A outer s H vs Q E hr h=>?_)
 ·obtain ⟨tx,ls,rfl,_⟩:=h
  rfl
 ·refine hdn fun Gz9 zG9=>?_;obtain ⟨text,ls,rfl,AK,AL,hl,AM,k1,k2,k3⟩:=h;refine zG9 ?_
  have hsz:sizeLine=16777216:=QL
  have az:=Qx (cK hr)
  refine ⟨_,(aE (aX (i:=1) dA.nd rfl (Or.inl rfl) (cL aB))
   (aE (fN PassesOwn.never rfl (n6 K (by rfl) T.j3 (aV (f7 K PySem.F.plainAttrs_str PySem.F.slot_str_split PySem.F.type_str_split gK (zv 0) (aC aK aB)) aB)) (k9 K (n:=2) rfl (cG (aS (i:=2) dA.nd rfl (Or.inl rfl)) (cG (aS (i:=3) dA.nd rfl (Or.inl rfl)) iC))) (aE (aX (i:=4) dA.nd rfl (Or.inl rfl) (f7 K PySem.F.plainAttrs_str PySem.F.slot_str_split PySem.F.type_str_split gK (zv 3) (aC aK aB)))
   (aE (aX (i:=5) dA.nd rfl (Or.inl rfl) n4)
   (aE (bP (lG (aP mK (aG (aL K) (by rfl) T.cz PySem.boot_len (aD (zv 4) aB)) aF (ay _)) (lG (aP (bA az) (bE (bF K) (zv 4) aF (fun _ _=>rfl)) aK (ay _)) (lZ (cE (bJ cD (hr.mono (by decide)) (aJ (bE (bF K) (zv 4) aF (fun _ _=>rfl)) aB)))))).pt (aI (aX (i:=5) dA.nd rfl (Or.inl rfl) (bJ mV (hr.mono (by decide)) (aJ (bZ (i5 K) (zv 4) (bU aF) cF) aB)))) aU)
   (aE (bP (aP O3 (zv 5) n4 (ay _)) (aI (aT (d5 (aC aK (aD (zv 2) aB))))) aU)
   (aI (eU (f7 K QH QJ QK dQ (zv 1) (nF (d5 (aJ (bE (bF K) (zv 4) aF (fun _ _=>rfl)) (aD (zv 5) aB))) aB)))))))))
   (aI (aT (kK (cE (bJ kO (hr.mono (by decide)) (aV (cJ (cR K) (by rfl) T.bN QG (aD (zv 1) aB)) aB))) (d5 (aC aK (aV (cJ (cR K) (by rfl) T.bN QG (aD (zv 1) aB)) aB))) (d5 (aC aK (aC n4 aB)))))))),?_⟩
  refine aO ⟨(show 0<=sizeLine by decide),fun R hR=>?_⟩
  have sR:=aa.upd hR (.lst [])
  have gR:upd H R (.lst []) R=some (.lst []):=aA
  generalize upd H R (.lst [])=H1 at sR gR
  refine bB (fun σ' H'=>∃ (v2 v3 v4 v5:Option V) (xs:List V),σ'=[some (.str text),some (.ref R),v2,v3,v4,v5]/\H' R=some (.lst xs)/\xs.length=ls.length/\(∀ l∈ls,gf l=true)/\(∀ j (h:j < xs.length) (h':j < ls.length),TX H' xs[j] (fz ls[j]))/\aa H H') ?_ ?_
  ·intro nx bg
   refine ⟨rfl,rfl,AL,fun D hD=>?_⟩
   rw [AK]
   have sD:=sR.trans (aa.upd hD (.lst (ls.map V.str)))
   have gD:upd H1 D (.lst (ls.map V.str)) D=some (.lst (ls.map V.str)):=aA
   have C4:=(aa.upd hD (.lst (ls.map V.str))) _ _ gR
   generalize upd H1 D (.lst (ls.map V.str))=H2 at sD gD C4
   have G6:D≠R:=fun e=>by rw [e,gR] at hD;cases hD
   refine ⟨D,_,rfl,ae.of gD,nA (nD (ls.map V.str)) (fun i σ' H'=>∃ (v2 v3 v4 v5:Option V) (xs:List V),σ'=[some (.str text),some (.ref R),v2,v3,v4,v5]/\H' R=some (.lst xs)/\xs.length=i/\(∀ j (h:j < ls.length),j < i->gf ls[j]=true)/\(∀ j (h:j < xs.length) (h':j < ls.length),TX H' xs[j] (fz ls[j]))/\aa H H'/\H' D=some (.lst (ls.map V.str))) ⟨none,none,none,none,[],rfl,C4,rfl,fun _ _ h=>absurd h (Nat.not_lt_zero _),fun j h=>absurd h (by simp),sD,gD⟩ (by rintro i τ H' _ ⟨_,_,_,_,_,_,_,_,_,_,_,h⟩;exact ae.of h) ?_ ?_⟩
   ·rintro i σ' H3 T0 hi ⟨v2,v3,v4,v5,xs,rfl,q1,q0,qg,q2,q3,q4⟩ yx
    rw [Ql] at hi
    rw [cA _ i hi]
    have el:ls.getD i ""=ls[i]:=by rw [Qb,Qa hi];rfl
    rw [el]
    have hm:=Qj hi
    have sT:=aa.upd yx (.tup [.int (i:Int),.str ls[i]])
    obtain ⟨ll,fw,wz⟩:=AM _ hm
    refine aO ⟨rfl,rfl,ll,fun W hW=>?_⟩
    have gW:upd (upd H3 T0 (.tup [.int (i:Int),.str ls[i]])) W (.lst ((Txt.split ls[i] (Str.ofString " ")).map V.str)) W=some (.lst ((Txt.split ls[i] (Str.ofString " ")).map V.str)):=aA
    have sW:=sT.trans (aa.upd hW (.lst ((Txt.split ls[i] (Str.ofString " ")).map V.str)))
    dsimp only
    generalize upd (upd H3 T0 (.tup [.int (i:Int),.str ls[i]])) W (.lst ((Txt.split ls[i] (Str.ofString " ")).map V.str))=H4 at sW gW
    have er:rj ls[i]=if (Txt.split ls[i] (Str.ofString " ")).length < 3 then none else if (Txt.split ls[i] (Str.ofString " ")).getD 1 ""="=" then some (.tup [.str ((Txt.split ls[i] (Str.ofString " ")).getD 0 ""),dw ((Txt.split ls[i] (Str.ofString " ")).drop 2)]) else none:=rfl
    generalize Txt.split ls[i] (Str.ofString " ")=ws at fw wz er gW
    refine aO ?_
    refine bB (fun σ' H'=>∃ h:V,σ'=[some (.str text),some (.ref R),some (.int (i:Int)),some (.str ls[i]),some (.ref W),some h]/\aa H4 H'/\((gf ls[i]=false/\h=.af)\/(gf ls[i]=true/\∃ w0 d,ws.head?=some w0/\fz ls[i]=.tup [.str w0,d]/\TX H' h d/\headD d=true))) ?_ ?_
    ·intro vo jl
     have bad:∀ {H':Hp},rj ls[i]=none->aa H4 H'->vo [some (.str text),some (.ref R),some (.int (i:Int)),some (.str ls[i]),some (.ref W),some .af] H':=fun e s'=>jl _ _ ⟨.af,rfl,s',.inl ⟨by unfold gf fz;rw [e];rfl,rfl⟩⟩
     refine Or.inl ⟨_,.inl (ae.of gW),_,rfl,?_⟩
     refine bq (fun hc=>?_) (fun hc=>?_)
     rotate_left
     ·have:=Qu hc
      rw [Ql] at this
      exact bad (by rw [er,if_pos (by omega)]) (aa.refl _)
     have:=Qt hc
     rw [Ql] at this
     obtain ⟨w0,t0,rfl⟩:∃ a t,ws=a::t:=List.exists_cons_of_ne_nil fun e=>by rw [e] at this;simp at this
     obtain ⟨w1,t1,rfl⟩:∃ a t,t0=a::t:=List.exists_cons_of_ne_nil fun e=>by rw [e] at this;simp at this
     obtain ⟨w2,t2,rfl⟩:∃ a t,t1=a::t:=List.exists_cons_of_ne_nil fun e=>by rw [e] at this;simp at this
     rw [if_neg (by simp)] at er
     have er:rj ls[i]=if w1="=" then some (.tup [.str w0,dw (w2::t2)]) else none:=er
     refine ⟨_,.str w1,.inl (ae.of gW),dN (j:=1) rfl,rfl,_,rfl,?_⟩
     rw [QE,bK]
     refine bq (fun he=>?_) (fun he=>?_)
     rotate_left
     ·exact bad (by rw [er,if_neg (by simpa using he)]) (aa.refl _)
     rw [if_pos (beq_iff_eq.mp he)] at er
     have EV:fz ls[i]=.tup [.str w0,dw (w2::t2)]:=by unfold fz;rw [er];rfl
     have eg:gf ls[i]=(isName w0&&headD (dw (w2::t2))):=by unfold gf;rw [EV];rfl
     refine ⟨_,.str w0,.inl (ae.of gW),aR _ _,.str w0,.str w0,rfl,.str (wz w0 (by simp)),fun H5 s5=>⟨_,rfl,?_⟩⟩
     show if isName w0=true then _ else _
     refine bq (fun hn=>?_) (fun hn=>?_)
     rotate_left
     ·exact jl _ _ ⟨.af,rfl,s5,.inl ⟨by rw [eg,hn];rfl,rfl⟩⟩
     refine ⟨2,rfl,Or.inr (Or.inl ⟨W,_,rfl,ae.of (s5 _ _ gW),fun p1 bz=>?_⟩)⟩
     have ec:f_ ((w0::w1::w2::t2).map V.str) (some 2) none=(w2::t2).map V.str:=dL _ 2
     rw [ec]
     have s6:=s5.trans (aa.upd bz (.lst ((w2::t2).map V.str)))
     refine ⟨p1,w2::t2,rfl,aA,by simp,by simp at fw ⊢;omega,fun z hz=>wz z (by simp at hz ⊢;exact .inr (.inr hz)),fun hh v H7 s7 tx=>?_,fun hh H7 s7=>?_⟩
     ·exact jl _ _ ⟨v,rfl,s6.trans s7,.inr ⟨by rw [eg,hn,hh];rfl,w0,_,rfl,EV,tx,hh⟩⟩
     ·exact jl _ _ ⟨.af,rfl,s6.trans s7,.inl ⟨by rw [eg,hh,Bool.and_false],rfl⟩⟩
    ·rintro σ' H5 ⟨h,rfl,s5,hg | ⟨hg,w0,d,ew,EV,tx,hh⟩⟩
     ·obtain ⟨hg,rfl⟩:=hg
      refine ⟨_,rfl,bc ?_⟩
      refine ⟨(show 2<=sizeLine by decide),fun p hp=>?_⟩
      exact k1 i hi hg (fun j hj zg=>qg j hj zg) p _ (((q3.trans sW).trans s5).trans (aa.upd hp _)) aA
     ·obtain ⟨a,z,ys,ds,rfl,_⟩:=k7 tx.dd hh
      refine ⟨_,rfl,e_ (cT ?_)⟩
      have zf:=sW.trans s5
      have g1:=zf _ _ q1
      obtain ⟨t0,rfl⟩:∃ t,ws=w0::t:=by
       cases ws with
       | nil=>cases ew
       | cons b t=>cases ew;exact ⟨t,rfl⟩
      refine ⟨.inl ⟨rfl,_,ae.of g1⟩,?_⟩
      refine ⟨_,.str w0,.inl (ae.of (s5 _ _ gW)),aR _ _,(show 2<=sizeLine by decide),fun p hp=>?_⟩
      have s6:=aa.upd hp (.tup [.str w0,.ref a])
      have gp:upd H5 p (.tup [.str w0,.ref a]) p=some (.tup [.str w0,.ref a]):=aA
      dsimp only
      generalize upd H5 p (.tup [.str w0,.ref a])=H6 at s6 gp
      have g2:=s6 _ _ g1
      refine ⟨R,xs,.ref p,rfl,rfl,g2,by omega,?_⟩
      have BL:Tk H6 (upd H6 R (.lst (xs++[.ref p]))):=(Tk.refl).set g2 (by intro _ z;cases z)
      have Hg:=zf.trans s6
      refine ⟨_,_,_,_,xs++[.ref p],rfl,aA,by simp [q0],fun j hj zg=>?_,fun j a' b'=>?_,(q3.trans Hg).put hR,by rw [aH G6];exact Hg _ _ q4⟩
      ·by_cases z:j=i
       ·subst z;exact hg
       ·exact qg j hj (by omega)
      ·by_cases bh:j < xs.length
       ·rw [Qe bh]
        exact (q2 j bh b').tk (Hg.ts.trans BL)
       ·have e:j=xs.length:=by simp at a';omega
        subst e
        rw [Qf (Qy _)]
        simp only [Nat.sub_self,List.getElem_cons_zero]
        subst q0
        rw [EV]
        exact eO (BL _ _ gp) (.str (wz w0 (by simp))) (tx.tk (s6.ts.trans BL))
   ·rintro σ' H3 z0;refine hdn fun Gz9 zG9=>?_;obtain ⟨v2,v3,v4,v5,xs,rfl,q1,q0,qg,q2,q3,q4⟩:=z0;refine zG9 ?_
    rw [Ql] at q0 qg
    refine bg _ _ ⟨_,_,_,_,xs,rfl,q1,q0,fun l fi=>?_,q2,q3⟩
    obtain ⟨j,hj,rfl⟩:=Qi fi
    exact qg j hj hj
  ·rintro σ' H2 z0;refine hdn fun Gz9 zG9=>?_;obtain ⟨v2,v3,v4,v5,xs,rfl,q1,q0,qg,q2,q3⟩:=z0;refine zG9 ?_
   refine ⟨R,xs,rfl,.inl ⟨ae.of q1,fun a ha=>?_⟩⟩
   have sa:=aa.upd ha (.tup xs)
   have ga:upd H2 a (.tup xs) a=some (.tup xs):=aA
   dsimp only
   generalize upd H2 a (.tup xs)=H3 at sa ga
   have tx:TX H3 (.ref a) (.tup (ls.map fz)):=.tup ga (by simp [q0]) (by omega) fun j h1 h2=>by
    simp only [Qr]
    exact (q2 j h1 (by omega)).tk sa.ts
   refine ⟨.ref a,.tup (ls.map fz),rfl,tx.dd,fun H4 s4=>⟨_,rfl,?_⟩⟩
   refine bq (fun ht=>?_) (fun ht=>?_)
   ·have g4:=(sa.trans s4) _ _ q1
    refine ⟨R,xs,rfl,.inl ⟨ae.of g4,fun b hb=>⟨(show 2<=sizeLine by decide),fun p hp=>?_⟩⟩⟩
    have s5:=(aa.upd hb (.tup xs)).trans (aa.upd hp (.tup [.str "told",.ref b]))
    refine k3 qg ht p (.ref b) _ (((q3.trans sa).trans s4).trans s5) ?_ aA
    refine .tup ((aa.upd hp _) _ _ aA) (by simp [q0]) (by omega) fun j h1 h2=>?_
    simp only [Qr]
    exact (q2 j h1 (by omega)).tk ((sa.trans s4).trans s5).ts
   ·exact ⟨(show 2<=sizeLine by decide),fun p hp=>k2 qg ht p _ (((q3.trans sa).trans s4).trans (aa.upd hp _)) aA⟩
def a_ (q:Nat->Bool) (s:Str):Nat:=s.cps.toList.countP q
def iq (c:Nat):Bool:=c==32||c==10
def i_ (s:Str):Nat:=a_ iq s
theorem lV (q:Nat->Bool) (a b:Str):a_ q (a++b)=a_ q a+a_ q b:=by
 have e:(a++b).cps.toList=a.cps.toList++b.cps.toList:=by
  show (a.cps++b.cps).toList=_
  exact Array.toList_append
 unfold a_
 rw [e,List.countP_append]
theorem cH (s:Str):a_ (fun _=>true) s=s.length:=by
 unfold a_
 rw [List.countP_true]
 simp [Str.length]
def fg (q:Nat->Bool) (c:Nat) (ys:List Str):Nat:=(ys.map fun y=>a_ q y+c).sum
section
variable {q:Nat->Bool}
theorem bR (xs ys:List Str):fg q c (xs++ys)=fg q c xs+fg q c ys:=by
 unfold fg;rw [Qm,List.sum_append]
theorem d8 (x:Str) (ys:List Str):fg q c (x::ys)=a_ q x+c+fg q c ys:=by
 unfold fg;rw [List.map_cons,List.sum_cons]
theorem mJ:fg q c []=0:=rfl
theorem iN (x:Str):fg q c [x]=a_ q x+c:=by rw [d8,mJ];omega
theorem yS (h:y∈ys):a_ q y+c<=fg q c ys:=by
 obtain ⟨a,b,rfl⟩:=List.append_of_mem h
 rw [bR,d8];omega
theorem U8 (ys:List Str):ys.length*c<=fg q c ys:=by
 induction ys with
 | nil=>simp
 | cons y r ih=>rw [d8,List.length_cons,Nat.add_mul];omega
theorem U9 (ys:List Str):fg q c ys=(ys.map (a_ q)).sum+ys.length*c:=by
 induction ys with
 | nil=>simp [fg]
 | cons y r ih=>rw [d8,ih,List.map_cons,List.sum_cons,List.length_cons,Nat.add_mul];omega
theorem fG (ys:List Str) (h:n < ys.length):fg q c ys=fg q c (ys.take n)+(a_ q ys[n]+c)+fg q c (ys.drop (n+1)):=by
 conv=>lhs;rw [<- List.take_append_drop n ys,List.drop_eq_getElem_cons h]
 rw [bR,d8];omega
theorem yJ (ys:List Str):fg q c ys.reverse=fg q c ys:=by
 unfold fg;rw [List.map_reverse,List.sum_reverse]
end
theorem eA (q:Nat->Bool) (sep:Str):∀ ys:List Str,ys≠[]->a_ q (Txt.join sep ys)+a_ q sep=fg q (a_ q sep) ys:=by
 intro ys h
 rw [show Txt.join sep ys=Str.join sep ys from StrLaws.glued_eq_join _ _]
 induction ys with
 | nil=>exact absurd rfl h
 | cons x r ih=>
  cases r with
  | nil=>rw [iN];rfl
  | cons y t=>
   rw [d8,<- ih (by simp)]
   show a_ q (x++sep++Str.join sep (y::t))+_=_
   rw [lV,lV];omega
theorem jT (q:Nat->Bool) (sep:Str) (ys:List Str):a_ q (Txt.join sep ys)+a_ q sep<=fg q (a_ q sep) ys+a_ q sep:=by
 cases ys with
 | nil=>exact Nat.le_of_eq (by rw [mJ];rfl)
 | cons y r=>rw [eA q sep (y::r) (by simp)];omega
theorem cM (q:Nat->Bool) (s:Str) (d:Nat):fg q (a_ q ⟨#[d]⟩) (Txt.split s ⟨#[d]⟩)=a_ q s+a_ q ⟨#[d]⟩:=by
 rw [<- eA q ⟨#[d]⟩ _ (kB s d),show Txt.join ⟨#[d]⟩ (Txt.split s ⟨#[d]⟩)=s from (StrLaws.glued_eq_join _ _).trans (StrLaws.join_split _ _)]
theorem lU (q:Nat->Bool) (d:Nat):a_ q ⟨#[d]⟩<=1:=by
 show List.countP q [d]<=1
 exact List.countP_le_length
theorem dR {q:Nat->Bool} {s l:Str} {d:Nat} (h:l∈Txt.split s ⟨#[d]⟩):a_ q l<=a_ q s:=by
 have h1:=yS (q:=q) (c:=a_ q ⟨#[d]⟩) h
 rw [cM] at h1;omega
theorem gI (s:Str) {d:Nat} (hd:iq d=true):(Txt.split s ⟨#[d]⟩).length<=i_ s+1:=by
 have e:a_ iq ⟨#[d]⟩=1:=by
  show List.countP iq [d]=1
  simp [hd]
 have h1:=U8 (q:=iq) (c:=a_ iq ⟨#[d]⟩) (Txt.split s ⟨#[d]⟩)
 rw [cM,e] at h1
 unfold i_
 omega
theorem oV {s:Str} (h1:s.length<=100000) (h2:i_ s<=900):(Txt.split s (Str.ofString "\n")).length<=990/\∀ l∈Txt.split s (Str.ofString "\n"),ze l:=by
 have a1:=gI s (d:=10) rfl
 refine ⟨by show (Txt.split s ⟨#[10]⟩).length<=990;omega,fun l hl=>?_⟩
 have b1:i_ l<=i_ s:=dR (d:=10) hl
 have b2:=dR (q:=fun _=>true) (d:=10) hl
 rw [cH,cH] at b2
 have b3:=gI l (d:=32) rfl
 refine ⟨by omega,by show (Txt.split l ⟨#[32]⟩).length<=990;omega,fun z hz=>?_⟩
 have c1:=dR (q:=fun _=>true) (d:=32) hz
 rw [cH,cH] at c1
 omega
def gw:List Str:=["all","none","way","box","pick","as","=","","==","nobody"]
def zh (zs:List Str) (text EW:Str):Prop:=∀ (q:Nat->Bool) (B:Nat),(∀ z∈zs,a_ q z<=B)->2<=B->a_ q EW<=2*a_ q text+B+1
section
variable {text:Str}
theorem wP (x:Str):Txt.slice x (some ((x.length:Int)+1)) none=Txt.slice x (some (x.length:Int)) none:=by
 have e:Builtin.Str.strSliceIndices (some ((x.length:Int)+1)) none 1 x.length=Builtin.Str.strSliceIndices (some (x.length:Int)) none 1 x.length:=by
  unfold Builtin.Str.strSliceIndices
  simp only [show (1:Int) > 0 by decide,if_true]
  congr 1
  rw [if_neg (by omega),if_neg (by omega)]
  omega
 unfold Txt.slice
 rw [e]
theorem tF (x:Str) (n:Nat) (h:n<=x.length+1):(Txt.slice x (some (n:Int)) none).cps.toList=x.cps.toList.drop n:=by
 have hl:x.length=x.cps.toList.length:=by simp [Str.length]
 by_cases hn:n<=x.length
 ·have e:Txt.slice x (some (n:Int)) none=_:=StrLaws.sliceText_from (x:=x) (i:=(n:Int)) ⟨by omega,by omega⟩
  rw [e]
  show ((x.cps.toList.drop (n:Int).toNat).take _).toArray.toList=_
  rw [List.toList_toArray,Int.toNat_natCast,List.take_of_length_le (by rw [List.length_drop];omega)]
 ·have hn:n=x.length+1:=by omega
  subst hn
  have e:Txt.slice x (some (x.length:Int)) none=_:=StrLaws.sliceText_from (x:=x) (i:=(x.length:Int)) ⟨by omega,by omega⟩
  rw [show ((x.length+1:Nat):Int)=(x.length:Int)+1 by omega,wP,e]
  show ((x.cps.toList.drop (x.length:Int).toNat).take _).toArray.toList=_
  rw [List.toList_toArray,Int.toNat_natCast,List.drop_eq_nil_of_le (by omega),List.drop_eq_nil_of_le (by omega),List.take_nil]
theorem wN (x:Str) (n:Nat) (h:n<=x.length):(Txt.slice x none (some (n:Int))).cps.toList=x.cps.toList.take n:=by
 have hl:x.length=x.cps.toList.length:=by simp [Str.length]
 have e:Txt.slice x none (some (n:Int))=_:=StrLaws.sliceText_to (x:=x) (j:=(n:Int)) ⟨by omega,by omega⟩
 rw [e]
 show ((x.cps.toList.drop 0).take _).toArray.toList=_
 rw [List.toList_toArray,List.drop_zero,show ((n:Int) - 0).toNat=n by omega]
theorem zA {mid:Str} {m:Nat} (hm:mid.length<=2) (h1:n<=text.length) (h2:n<=m) (h3:m<=n+1):zh zs text (Txt.slice text none (some (n:Int))++mid++Txt.slice text (some (m:Int)) none):=by
 intro q B _ hB
 rw [lV,lV]
 have a0:mid.length=mid.cps.toList.length:=by simp [Str.length]
 have a1:a_ q mid<=2:=Nat.le_trans List.countP_le_length (by rw [<- a0];exact hm)
 have a2:a_ q (Txt.slice text none (some (n:Int)))=(text.cps.toList.take n).countP q:=by unfold a_;rw [wN _ _ h1]
 have a3:a_ q (Txt.slice text (some (m:Int)) none)=(text.cps.toList.drop m).countP q:=by unfold a_;rw [tF _ _ (by omega)]
 have a4:(text.cps.toList.drop m).countP q<=(text.cps.toList.drop n).countP q:=by
  refine List.Sublist.countP_le ?_
  rw [show m=n+(m - n) by omega,<- List.drop_drop]
  exact List.drop_sublist _ _
 have a5:a_ q text=(text.cps.toList.take n).countP q+(text.cps.toList.drop n).countP q:=by
  unfold a_
  rw [<- List.countP_append,List.take_append_drop]
 omega
theorem xA {l':Str} (hn:n < (Txt.split text ⟨#[10]⟩).length) (h:∀ (q:Nat->Bool) (B:Nat),(∀ z∈zs,a_ q z<=B)->2<=B->a_ q l'<=2*a_ q (Txt.split text ⟨#[10]⟩)[n]+B+1):
  zh zs text (Txt.join ⟨#[10]⟩ ((Txt.split text ⟨#[10]⟩).take n++[l']++(Txt.split text ⟨#[10]⟩).drop (n+1))):=by
 intro q B h1 h2
 have a:=cM q text 10
 have b:=eA q ⟨#[10]⟩ ((Txt.split text ⟨#[10]⟩).take n++[l']++(Txt.split text ⟨#[10]⟩).drop (n+1)) (by simp)
 rw [fG _ hn] at a
 rw [bR,bR,iN] at b
 have:=h q B h1 h2
 omega
theorem yD (hn:n < (Txt.split text ⟨#[10]⟩).length):zh zs text (Txt.join ⟨#[10]⟩ ((Txt.split text ⟨#[10]⟩).take n++(Txt.split text ⟨#[10]⟩).drop (n+1))):=by
 intro q B h1 h2
 have a:=cM q text 10
 have b:=jT q ⟨#[10]⟩ ((Txt.split text ⟨#[10]⟩).take n++(Txt.split text ⟨#[10]⟩).drop (n+1))
 rw [fG _ hn] at a
 rw [bR] at b
 omega
theorem wX {l:Str} (hl:l∈Txt.split text ⟨#[10]⟩):zh zs text (Txt.join ⟨#[10]⟩ (Txt.split text ⟨#[10]⟩++[l])):=by
 intro q B h1 h2
 have a:=cM q text 10
 have b:=eA q ⟨#[10]⟩ (Txt.split text ⟨#[10]⟩++[l]) (by simp)
 have c:=dR (q:=q) hl
 have d:=lU q 10
 rw [bR,iN,a] at b
 omega
variable {l:Str}
def MW (zs:List Str) (l:Str) (ws:List Str):Prop:=∀ (q:Nat->Bool) (B:Nat),(∀ z∈zs,a_ q z<=B)->2<=B->fg q (a_ q ⟨#[32]⟩) ws<=2*a_ q l+B+2/\a_ q (Txt.join ⟨#[32]⟩ ws)<=2*a_ q l+B+1
theorem MW.pop {k:Nat} (h:k < (Txt.split l ⟨#[32]⟩).length):MW zs l ((Txt.split l ⟨#[32]⟩).eraseIdx k):=by
 intro q B _ _
 rw [List.eraseIdx_eq_take_drop_succ]
 have a:=cM q l 32
 have b:=jT q ⟨#[32]⟩ ((Txt.split l ⟨#[32]⟩).take k++(Txt.split l ⟨#[32]⟩).drop (k+1))
 rw [fG _ h] at a
 rw [bR] at b ⊢
 omega
theorem MW.ins {w:Str} {k:Nat} (h:w∈Txt.split l ⟨#[32]⟩):MW zs l ((Txt.split l ⟨#[32]⟩).take k++w::(Txt.split l ⟨#[32]⟩).drop k):=by
 intro q B _ _
 have a:=cM q l 32
 have b:=eA q ⟨#[32]⟩ ((Txt.split l ⟨#[32]⟩).take k++w::(Txt.split l ⟨#[32]⟩).drop k) (by simp)
 have c:=dR (q:=q) h
 have d:=lU q 32
 have e:fg q (a_ q ⟨#[32]⟩) (Txt.split l ⟨#[32]⟩)=fg q (a_ q ⟨#[32]⟩) ((Txt.split l ⟨#[32]⟩).take k)+fg q (a_ q ⟨#[32]⟩) ((Txt.split l ⟨#[32]⟩).drop k):=by
  rw [<- bR,List.take_append_drop]
 rw [bR,d8] at b ⊢
 omega
theorem MW.set {w:Str} {k:Nat} (h:k < (Txt.split l ⟨#[32]⟩).length) (hw:w∈zs):MW zs l ((Txt.split l ⟨#[32]⟩).set k w):=by
 intro q B h1 _
 have a:=cM q l 32
 have hw:=h1 w hw
 have d:=lU q 32
 have b:=eA q ⟨#[32]⟩ ((Txt.split l ⟨#[32]⟩).set k w) (by
  intro e
  have:=congrArg List.length e
  rw [List.length_set] at this
  simp at this
  rw [this] at h
  exact absurd h (by simp))
 rw [fG _ h] at a
 rw [List.set_eq_take_append_cons_drop,if_pos h,bR,d8] at b ⊢
 omega
theorem MW.rev:MW zs l ((Txt.split l ⟨#[32]⟩).take 2++((Txt.split l ⟨#[32]⟩).drop 2).reverse):=by
 intro q B _ _
 have a:=cM q l 32
 have d:=lU q 32
 have b:=jT q ⟨#[32]⟩ ((Txt.split l ⟨#[32]⟩).take 2++((Txt.split l ⟨#[32]⟩).drop 2).reverse)
 have e:fg q (a_ q ⟨#[32]⟩) (Txt.split l ⟨#[32]⟩)=fg q (a_ q ⟨#[32]⟩) ((Txt.split l ⟨#[32]⟩).take 2)+fg q (a_ q ⟨#[32]⟩) ((Txt.split l ⟨#[32]⟩).drop 2):=by
  rw [<- bR,List.take_append_drop]
 rw [bR,yJ] at b ⊢
 omega
theorem MW.U_ (hn:n < (Txt.split text ⟨#[10]⟩).length) (h:MW zs (Txt.split text ⟨#[10]⟩)[n] ws):zh zs text (Txt.join ⟨#[10]⟩ ((Txt.split text ⟨#[10]⟩).take n++[Txt.join ⟨#[32]⟩ ws]++(Txt.split text ⟨#[10]⟩).drop (n+1))):=
 xA hn fun q B h1 h2=>(h q B h1 h2).2
theorem kH {sep:Str} (ys:List Str) (hs:sep.length=1):(ys.map (·.length)).sum+ys.length*sep.length=fg (fun _=>true) 1 ys:=by
 rw [U9,hs]
 congr 2
 exact List.map_congr_left fun y _=>(cH y).symm
end
def C9:List Str:=[" ","\n","A","7","=","a","z","  ","\n\n","x"]
theorem atS (zs:List Str) (r:Int) (h0:0<=r) (h1:r < zs.length):∃ z,iu (zs.map V.str) r=some (.str z)/\zs[r.toNat]? =some z:=by
 obtain ⟨c,lq,CV⟩:=jZ (zs.map V.str) r h0 (by rw [Ql];exact h1)
 rw [Qq] at lq
 obtain ⟨z,hz,rfl⟩:=Option.map_eq_some_iff.mp lq
 exact ⟨z,CV,hz⟩
theorem zT (h:j < n):su n (j:Int)=some j:=by
 unfold su;rw [if_pos (by omega),if_pos (by omega)];simp
def Lp:Sp:=fun vs H Q _=>∃ (p w nm:Addr) (text:Str) (ns:List Str) (t:Nat),vs=[.ref p,.str text,.ref nm]/\ck H p w t/\t+12 < yi/\text.length<=100000/\i_ text<=900/\H nm=some (.lst (ns.map V.str))/\ns≠[]/\ns.length<=60/\(∀ z∈ns,z.length<=100)/\
 ∀ (EW:Str) (H':Hp),zh (gw++ns) text EW->ck H' p w (t+10)->Sm p w H H'->Q (.str EW) H'
theorem pO (T:Txt K mg w):av P w K mg base 2 "_law_tbent" ["pen","text","names"] Lp:=by
 have aQ:av P w K mg base 1 "_law_tdraw" ["pen","many"] Af:=dD T
 refine T.qP.fj bO (fun vs H Q E h=>?_) (fun f ak A outer s H vs Q E hr h=>?_)
 ·refine hdn fun Gz9 zG9=>?_;obtain ⟨p,w',nm,text,ns,t,rfl,_⟩:=h;refine zG9 ?_
  rfl
 ·refine hdn fun Gz9 zG9=>?_;obtain ⟨p,w',nm,text,ns,t,rfl,hp,ht,tl,ts,gn,U',nl,nz,k⟩:=h;refine zG9 ?_
  have Av:t+12 < 1000000000000:=ht
  have hsz:sizeLine=16777216:=QL
  have az:=Qx (cK hr)
  have TM:yi=1000000000000:=rfl
  refine ⟨_,(aE (aX (i:=3) bO.nd rfl (Or.inl rfl) (bJ aQ (hr.mono (by decide)) (aD (zv 0) (aC aF aB))))
   (aE (aX (i:=4) bO.nd rfl (Or.inl rfl) (bJ aQ (hr.mono (by decide)) (aD (zv 0) (dI (bQ bC (aG (aL K) (by rfl) T.cz PySem.boot_len (aD (zv 1) aB)) aF) aB))))
   (aE (bP (aP iT (zv 3) aF (ay _)) (aE (aX (i:=5) bO.nd rfl (Or.inl rfl) (bE (bF K) (cL (aC aK (aC aK (aC aK (aC aK (aC aK (aC aK (aC aK (aC aK (aC aK (aC aK aB))))))))))) (bJ aQ (hr.mono (by decide)) (aD (zv 0) (aC aF aB))) (fun _ _=>rfl)))
   (aI (aT (bQ bC (bQ bC (bZ (i5 K) (zv 1) cF (bU (zv 4))) (bE (bF K) (cL (aC aK (aD (zv 5) (aD (zv 5) (aD (zv 5) aB))))) (zv 3) (fun _ _=>rfl))) (bZ (i5 K) (zv 1) (bU (bQ bC (zv 4) (bE (bF K) (cL (aC aF (aC aF (aC aF (aC aF aB))))) (zv 3) (fun _ _=>rfl)))) cF))))) aU)
   (aE (aX (i:=6) bO.nd rfl (Or.inl rfl) (f7 K PySem.F.plainAttrs_str PySem.F.slot_str_split PySem.F.type_str_split gK (zv 1) (aC aK aB)))
   (aE (aX (i:=7) bO.nd rfl (Or.inl rfl) (bJ aQ (hr.mono (by decide)) (aD (zv 0) (aV (aG (aL K) (by rfl) T.cz PySem.boot_len (aD (zv 6) aB)) aB))))
   (aE (bP (aP (bA az) (zv 3) aF (ay _)) (aI (aT (f7 K PySem.F.plainAttrs_str PySem.F.slot_str_join PySem.F.type_str_join (fL K) aK (dI (bQ bC (bZ (i5 K) (zv 6) cF (bU (zv 7))) (bZ (i5 K) (zv 6) (bU (bQ bC (zv 7) aF)) cF)) aB)))) aU)
   (aE (bP (aP (bA az) (zv 3) aF (ay _)) (aI (aT (f7 K PySem.F.plainAttrs_str PySem.F.slot_str_join PySem.F.type_str_join (fL K) aK (dI (bQ bC (zv 6) (cL (aJ (bE (bF K) (zv 6) (zv 7) (fun _ _=>rfl)) aB))) aB)))) aU)
   (aE (aX (i:=8) bO.nd rfl (Or.inl rfl) (f7 K PySem.F.plainAttrs_str PySem.F.slot_str_split PySem.F.type_str_split gK (bE (bF K) (zv 6) (zv 7) (fun _ _=>rfl)) (aC aK aB)))
   (aE (aX (i:=4) bO.nd rfl (Or.inl rfl) (bJ aQ (hr.mono (by decide)) (aD (zv 0) (aV (aG (aL K) (by rfl) T.cz PySem.boot_len (aD (zv 8) aB)) aB))))
   (aE (bP (aP (bA az) (zv 3) aF (ay _)) (aI (eU (f7 K QH PySem.F.slot_list_pop PySem.F.type_list_pop sF (zv 8) (aD (zv 4) aB)))) aU)
   (aE (bP (aP (bA az) (zv 3) aF (ay _)) (aI (eU (f7 K QH PySem.F.slot_list_insert PySem.F.type_list_insert wZ (zv 8) (aD (zv 4) (aJ (bE (bF K) (zv 8) (bJ aQ (hr.mono (by decide)) (aD (zv 0) (aV (aG (aL K) (by rfl) T.cz PySem.boot_len (aD (zv 8) aB)) aB))) (fun _ _=>rfl)) aB))))) aU)
   (aE (bP (aP (bA az) (zv 3) aF (ay _)) (aE (aX (i:=9) bO.nd rfl (Or.inl rfl) (bQ bC (cL (aC aK (aC aK (aC aK (aC aK (aC aK (aC aK (aC aK (aC aK (aC aK (aC aK aB))))))))))) (zv 2)))
   (aI (vR (bE (bF K) (zv 9) (bJ aQ (hr.mono (by decide)) (aD (zv 0) (aV (aG (aL K) (by rfl) T.cz PySem.boot_len (aD (zv 9) aB)) aB))) (fun _ _=>rfl)) (IE (zv 8) (zv 4) qL)))) aU)
   (aE (bP (aP (bA az) (zv 3) aF (ay _)) (aI (aX (i:=8) bO.nd rfl (Or.inl rfl) (bQ bC (bZ (i5 K) (zv 8) cF (bU aF)) (Ss K (bZ (i5 K) (zv 8) (bU aF) cF) (OO MK aF))))) aU)
   (aI (aT (f7 K PySem.F.plainAttrs_str PySem.F.slot_str_join PySem.F.type_str_join (fL K) aK (dI (bQ bC (bQ bC (bZ (i5 K) (zv 6) cF (bU (zv 7))) (cL (aV (f7 K PySem.F.plainAttrs_str PySem.F.slot_str_join PySem.F.type_str_join (fL K) aK (aD (zv 8) aB)) aB))) (bZ (i5 K) (zv 6) (bU (bQ bC (zv 7) aF)) cF)) aB))))))))))))))))),?_⟩
  have nn:=hp.xw gn U'
  refine aO ⟨p,w',10,t,rfl,hp,⟨by decide,by decide⟩,by omega,fun way H1 w0 w1 bz ud=>?_⟩
  obtain ⟨wn,rfl⟩:=Int.eq_ofNat_of_zero_le w0
  refine aO ⟨by omega,p,w',_,t+1,rfl,bz,⟨by omega,by omega⟩,by omega,fun at_ H2 a0 a1 gm AF=>?_⟩
  obtain ⟨an,rfl⟩:=Int.eq_ofNat_of_zero_le a0
  have C_:=ud.trans AF
  refine bB (fun σ' H'=>σ'=[some (.ref p),some (.str text),some (.ref nm),some (.int (wn:Int)),some (.int (an:Int)),none,none,none,none,none]/\H2=H'/\4<=wn) ?_ ?_
  ·intro nx bg
   refine ⟨_,rfl,bq (fun h4=>?_) (fun h4=>bg _ _ ⟨rfl,rfl,by have:=Qu h4;omega⟩)⟩
   have h4:wn < 4:=by have:=Qt h4;omega
   refine aO ⟨(show 10<=sizeLine by decide),fun S hS=>?_⟩
   have sS:=aa.upd hS (.lst (C9.map V.str))
   have gS:upd H2 S (.lst (C9.map V.str)) S=some (.lst (C9.map V.str)):=aA
   refine ⟨p,w',10,t+2,rfl,gm.same sS,⟨by decide,by decide⟩,by omega,fun r H4 r0 r1 jx iy=>?_⟩
   obtain ⟨z,vt,nu⟩:=atS C9 r r0 r1
   have Va:z.length<=2:=by
    have:∀ y∈C9,y.length<=2:=by decide
    exact this z (QC nu)
   refine ⟨_,_,.inl (ae.of (iy _ _ gS (gm.ne1 hS) (gm.ne2 hS))),vt,?_⟩
   obtain ⟨mid,hm,Vb⟩:∃ mid:Str,iu [V.str "",V.str z,V.str z,V.str z] (wn:Int)=some (.str mid)/\mid.length<=2:=by
    rcases (show wn=0\/wn=1\/wn=2\/wn=3 by omega) with rfl | rfl | rfl | rfl
    ·exact ⟨_,rfl,by decide⟩
    all_goals exact ⟨z,rfl,Va⟩
   obtain ⟨d,hd,yl⟩:∃ d:Nat,iu [V.int 1,V.int 0,V.int 0,V.int 1] (wn:Int)=some (.int (d:Int))/\d<=1:=by
    rcases (show wn=0\/wn=1\/wn=2\/wn=3 by omega) with rfl | rfl | rfl | rfl
    ·exact ⟨1,rfl,by decide⟩
    ·exact ⟨0,rfl,by decide⟩
    ·exact ⟨0,rfl,by decide⟩
    ·exact ⟨1,rfl,by decide⟩
   refine ⟨(an:Int),rfl,Or.inl ⟨text,rfl,by omega,(show 4<=sizeLine by decide),fun S2 Ez=>⟨_,_,.inl (ae.of aA),hm,?_⟩⟩⟩
   have l1:=Txt.slice_le text none (some (an:Int))
   have l2:=Txt.slice_le text (some ((an:Int)+(d:Int))) none
   refine ⟨by omega,(show 4<=sizeLine by decide),fun S3 Vc=>⟨_,_,.inl (ae.of aA),hd,(an:Int)+(d:Int),rfl,Or.inl ⟨text,rfl,by omega,?_⟩⟩⟩
   refine ⟨by rw [strLen_append];omega,?_⟩
   have hb:=zA (zs:=gw++ns) (text:=text) (mid:=mid) (n:=an) (m:=an+d) Vb (by omega) (by omega) (by omega)
   rw [show ((an+d:Nat):Int)=(an:Int)+(d:Int) by omega] at hb
   have s5:=(aa.upd Ez (.lst [.str "",.str z,.str z,.str z])).trans (aa.upd Vc (.lst [.int 1,.int 0,.int 0,.int 1]))
   exact k _ _ hb ((jx.same s5).mono (by omega)) (((C_.trans sS.sm).trans iy).trans s5.sm)
  rintro σ' H' ⟨rfl,rfl,w4⟩
  refine aO ⟨rfl,rfl,by omega,fun Ln AO=>?_⟩
  rw [show Str.ofString "\n"=⟨#[10]⟩ from rfl]
  have W8:=C_.free AO (gm.ne1 AO) (gm.ne2 AO)
  have Hh:=aa.upd AO (.lst ((Txt.split text ⟨#[10]⟩).map V.str))
  have Dc:upd H2 Ln (.lst ((Txt.split text ⟨#[10]⟩).map V.str)) Ln=some (.lst ((Txt.split text ⟨#[10]⟩).map V.str)):=aA
  have AB:=gm.ne1 AO
  have AD:=gm.ne2 AO
  have qc:=gm.same Hh
  have qd:=C_.trans Hh.sm
  dsimp only
  generalize upd H2 Ln (.lst ((Txt.split text ⟨#[10]⟩).map V.str))=H3 at Hh Dc qc qd
  have W9:=gI text (d:=10) rfl
  have xw:=kB text 10
  have pL:0 < (Txt.split text ⟨#[10]⟩).length:=List.length_pos_iff.mpr xw
  refine aO (.inl ⟨_,.inl (ae.of Dc),p,w',_,t+2,rfl,qc,⟨by rw [Ql];omega,by rw [Ql];omega⟩,by omega,fun n_ H4 n0 n1 jx iy=>?_⟩)
  rw [Ql] at n1
  obtain ⟨n,rfl⟩:=Int.eq_ofNat_of_zero_le n0
  have hn:n < (Txt.split text ⟨#[10]⟩).length:=by omega
  have qf:=iy _ _ Dc AB AD
  have EX:=qd.trans iy
  have C8:∀ m:Nat,f_ ((Txt.split text ⟨#[10]⟩).map V.str) none (some (m:Int))=((Txt.split text ⟨#[10]⟩).take m).map V.str:=fun m=>by rw [uI,List.map_take]
  have Lq:∀ m:Nat,f_ ((Txt.split text ⟨#[10]⟩).map V.str) (some (m:Int)) none=((Txt.split text ⟨#[10]⟩).drop m).map V.str:=fun m=>by rw [dL,List.map_drop]
  have big:fg (fun _=>true) 1 (Txt.split text ⟨#[10]⟩)<=100001:=by
   have:=cM (fun _=>true) text 10
   rw [show a_ (fun _=>true) ⟨#[10]⟩=1 from rfl,cH] at this
   omega
  have Vd:∀ m,fg (fun _=>true) 1 ((Txt.split text ⟨#[10]⟩).take m)+fg (fun _=>true) 1 ((Txt.split text ⟨#[10]⟩).drop m)<=100001:=fun m=>by rw [<- bR,List.take_append_drop];exact big
  have Ve:=fG (q:=fun _=>true) (c:=1) _ hn
  have Hi:=Qj hn
  have al:iu ((Txt.split text ⟨#[10]⟩).map V.str) (n:Int)=some (.str (Txt.split text ⟨#[10]⟩)[n]):=dN (by rw [Qq,Qa hn];rfl)
  refine bB (fun σ' H'=>σ'=[some (.ref p),some (.str text),some (.ref nm),some (.int (wn:Int)),some (.int (an:Int)),none,some (.ref Ln),some (.int (n:Int)),none,none]/\H4=H'/\5<=wn) ?_ ?_
  ·intro nx bg
   refine ⟨rfl,_,rfl,?_⟩
   rw [QE,aZ]
   refine bq (fun h=>?_) (fun h=>bg _ _ ⟨rfl,rfl,by have:=Qu h;omega⟩)
   refine ⟨rfl,(n:Int),rfl,Or.inr (Or.inl ⟨Ln,_,rfl,ae.of qf,fun p1 bz=>?_⟩)⟩
   rw [C8]
   have s1:=aa.upd bz (.lst (((Txt.split text ⟨#[10]⟩).take n).map V.str))
   have g1:upd H4 p1 (.lst (((Txt.split text ⟨#[10]⟩).take n).map V.str)) p1=some (.lst (((Txt.split text ⟨#[10]⟩).take n).map V.str)):=aA
   generalize upd H4 p1 (.lst (((Txt.split text ⟨#[10]⟩).take n).map V.str))=H5 at s1 g1
   refine ⟨(n:Int)+1,rfl,Or.inr (Or.inl ⟨Ln,_,rfl,ae.of (s1 _ _ qf),fun p2 ki=>?_⟩)⟩
   rw [show (n:Int)+1=((n+1:Nat):Int) by omega,Lq]
   refine ⟨_,_,(aa.upd ki _) _ _ g1,aA,by rw [Ql,Ql,List.length_take,List.length_drop];omega,fun p3 zc=>?_⟩
   have s3:=(s1.trans (aa.upd ki (.lst (((Txt.split text ⟨#[10]⟩).drop (n+1)).map V.str)))).trans (aa.upd zc (.lst (((Txt.split text ⟨#[10]⟩).take n).map V.str++((Txt.split text ⟨#[10]⟩).drop (n+1)).map V.str)))
   refine ⟨(Txt.split text ⟨#[10]⟩).take n++(Txt.split text ⟨#[10]⟩).drop (n+1),ae.of (by rw [Qm];exact aA),?_,?_⟩
   ·rw [kH _ rfl,bR];omega
   ·exact k _ _ (yD hn) ((jx.same s3).mono (by omega)) (EX.trans s3.sm)
  rintro σ' H' ⟨rfl,rfl,w5⟩
  refine bB (fun σ' H'=>σ'=[some (.ref p),some (.str text),some (.ref nm),some (.int (wn:Int)),some (.int (an:Int)),none,some (.ref Ln),some (.int (n:Int)),none,none]/\H4=H'/\6<=wn) ?_ ?_
  ·intro nx bg
   refine ⟨rfl,_,rfl,?_⟩
   rw [QE,aZ]
   refine bq (fun h=>?_) (fun h=>bg _ _ ⟨rfl,rfl,by have:=Qu h;omega⟩)
   refine ⟨rfl,_,_,.inl (ae.of qf),al,(show 1<=sizeLine by decide),fun p1 bz=>?_⟩
   refine ⟨_,_,(aa.upd bz _) _ _ qf,aA,by rw [Ql];simp;omega,fun p2 ki=>?_⟩
   have s3:=(aa.upd bz (.lst [.str (Txt.split text ⟨#[10]⟩)[n]])).trans (aa.upd ki (.lst ((Txt.split text ⟨#[10]⟩).map V.str++[.str (Txt.split text ⟨#[10]⟩)[n]])))
   refine ⟨Txt.split text ⟨#[10]⟩++[(Txt.split text ⟨#[10]⟩)[n]],ae.of (by rw [Qm];exact aA),?_,?_⟩
   ·rw [kH _ rfl,bR,iN];omega
   ·exact k _ _ (wX Hi) ((jx.same s3).mono (by omega)) (EX.trans s3.sm)
  rintro σ' H' ⟨rfl,rfl,w6⟩
  have ll:(Txt.split text ⟨#[10]⟩)[n].length<=100000:=by
   have:=dR (q:=fun _=>true) Hi
   rw [cH,cH] at this;omega
  have Vf:i_ (Txt.split text ⟨#[10]⟩)[n]<=900:=Nat.le_trans (dR Hi) ts
  have Lr:=fun {ws:List Str} (h:MW (gw++ns) (Txt.split text ⟨#[10]⟩)[n] ws)=>MW.U_ hn h
  refine aO ⟨_,_,.inl (ae.of qf),al,rfl,rfl,by omega,fun W hW=>?_⟩
  rw [show Str.ofString " "=⟨#[32]⟩ from rfl]
  generalize (Txt.split text ⟨#[10]⟩)[n]=l at ll Vf Lr Ve
  have Dd:=EX.free hW (jx.ne1 hW) (jx.ne2 hW)
  have sW:=aa.upd hW (.lst ((Txt.split l ⟨#[32]⟩).map V.str))
  have gW:upd H4 W (.lst ((Txt.split l ⟨#[32]⟩).map V.str)) W=some (.lst ((Txt.split l ⟨#[32]⟩).map V.str)):=aA
  have BF:=jx.ne1 hW
  have EY:=jx.ne2 hW
  have Hj:W≠Ln:=fun e=>by rw [e,qf] at hW;cases hW
  have BE:=jx.same sW
  have AG:=EX.trans sW.sm
  have AI:=sW _ _ qf
  generalize upd H4 W (.lst ((Txt.split l ⟨#[32]⟩).map V.str))=H5 at sW gW BE AG AI
  have W_:=gI l (d:=32) rfl
  have pW:0 < (Txt.split l ⟨#[32]⟩).length:=List.length_pos_iff.mpr (kB l 32)
  refine aO (.inl ⟨_,.inl (ae.of gW),p,w',_,t+3,rfl,BE,⟨by rw [Ql];omega,by rw [Ql];omega⟩,by omega,fun m_ H6 m0 m1 vq xg=>?_⟩)
  rw [Ql] at m1
  obtain ⟨m,rfl⟩:=Int.eq_ofNat_of_zero_le m0
  have hm:m < (Txt.split l ⟨#[32]⟩).length:=by omega
  have G9:=xg _ _ AI AB AD
  have Hl:=xg _ _ gW BF EY
  have AH:=AG.trans xg
  have Ls:=AH _ _ gn nn.1 nn.2
  have Xa:fg (fun _=>true) 1 (Txt.split l ⟨#[32]⟩)<=100001:=by
   have:=cM (fun _=>true) l 32
   rw [show a_ (fun _=>true) ⟨#[32]⟩=1 from rfl,cH] at this
   omega
  let PB:Nat->St->Hp->Prop:=fun j σ' H'=>∃ (v9:Option V) (W':Addr) (ws:List Str),σ'=[some (.ref p),some (.str text),some (.ref nm),some (.int (wn:Int)),some (.int (m:Int)),none,some (.ref Ln),some (.int (n:Int)),some (.ref W'),v9]/\H' W'=some (.lst (ws.map V.str))/\W'≠p/\W'≠w'/\W'≠nm/\W'≠Ln/\H W'=none/\H' Ln=some (.lst ((Txt.split text ⟨#[10]⟩).map V.str))/\H' nm=some (.lst (ns.map V.str))/\ck H' p w' (t+j)/\Sm p w' H H'/\((ws=Txt.split l ⟨#[32]⟩/\j < wn+1)\/(MW (gw++ns) l ws/\wn+1<=j))
  have pass:∀ {j:Nat} {σ':St} {H':Hp},PB j σ' H'->j≠wn->PB (j+1) σ' H':=fun {j σ' H'} ⟨v9,W',ws,q0,q1,q2,q3,q4,q5,q6,q7,q8,q9,vz,xm⟩ hj=>⟨v9,W',ws,q0,q1,q2,q3,q4,q5,q6,q7,q8,q9.mono (by omega),vz,xm.elim (by rintro ⟨e,h⟩;exact .inl ⟨e,by omega⟩) (by rintro ⟨e,h⟩;exact .inr ⟨e,by omega⟩)⟩
  have Ho:W≠nm:=fun e=>by rw [e,gn] at Dd;cases Dd
  have P6:PB 6 [some (.ref p),some (.str text),some (.ref nm),some (.int (wn:Int)),some (.int (m:Int)),none,some (.ref Ln),some (.int (n:Int)),some (.ref W),none] H6:=⟨none,W,_,rfl,Hl,BF,EY,Ho,Hj,Dd,G9,Ls,vq.mono (by omega),AH,.inl ⟨rfl,by omega⟩⟩
  refine bB (PB 7) ?_ ?_
  ·intro nx bg
   refine ⟨rfl,_,rfl,?_⟩
   rw [QE,aZ]
   refine bq (fun h=>?_) (fun h=>bg _ _ (pass P6 (by have:=Qu h;omega)))
   have Xb:wn=6:=by have:=Qt h;omega
   refine ⟨.inl ⟨rfl,_,ae.of Hl⟩,W,_,(m:Int),m,.str (Txt.split l ⟨#[32]⟩)[m],rfl,rfl,Hl,by omega,by omega,(lS (zT (by rw [Ql];exact hm))).1,by rw [Qq,Qa hm];rfl,?_⟩
   refine bg _ _ ⟨none,W,(Txt.split l ⟨#[32]⟩).eraseIdx m,rfl,by rw [aA,List.eraseIdx_eq_take_drop_succ,List.eraseIdx_eq_take_drop_succ,Qm,List.map_take,List.map_drop],BF,EY,Ho,Hj,Dd,by rw [aH Hj.symm];exact G9,by rw [aH Ho.symm];exact Ls,(vq.upd BF EY).mono (by omega),AH.upd Dd,.inr ⟨MW.pop hm,by omega⟩⟩
  rintro σ' H7 P7
  refine bB (PB 8) ?_ ?_
  ·intro nx bg
   refine hdn fun Gz9 zG9=>?_;obtain ⟨v9,W',ws,rfl,q1,q2,q3,q4,q5,q6,q7,q8,q9,vz,xm⟩:=id P7;refine zG9 ?_
   refine ⟨rfl,_,rfl,?_⟩
   rw [QE,aZ]
   refine bq (fun h=>?_) (fun h=>bg _ _ (pass P7 (by have:=Qu h;omega)))
   have Xc:wn=7:=by have:=Qt h;omega
   obtain rfl:ws=Txt.split l ⟨#[32]⟩:=by
    rcases xm with ⟨e,_⟩ | ⟨_,h⟩
    ·exact e
    ·omega
   refine ⟨.inl ⟨rfl,_,ae.of q1⟩,Or.inl ⟨_,.inl (ae.of q1),p,w',_,t+7,rfl,q9,⟨by rw [Ql];omega,by rw [Ql];omega⟩,by omega,fun r H8 r0 r1 BN EZ=>?_⟩⟩
   rw [Ql] at r1
   obtain ⟨z,vt,nu⟩:=atS _ r r0 r1
   have g8:=EZ _ _ q1 q2 q3
   refine ⟨_,_,.inl (ae.of g8),vt,W',_,(m:Int),_,rfl,rfl,g8,by omega,by omega,by rw [Ql];omega,?_⟩
   refine bg _ _ ⟨v9,W',(Txt.split l ⟨#[32]⟩).take m++z::(Txt.split l ⟨#[32]⟩).drop m,rfl,?_,q2,q3,q4,q5,q6,by rw [aH q5.symm];exact EZ _ _ q7 AB AD,by rw [aH q4.symm];exact EZ _ _ q8 nn.1 nn.2,(BN.upd q2 q3).mono (by omega),(vz.trans EZ).upd q6,.inr ⟨MW.ins (QC nu),by omega⟩⟩
   rw [aA,Ql,Int.toNat_natCast,show min m (Txt.split l ⟨#[32]⟩).length=m by omega,Qm,List.map_cons,List.map_take,List.map_drop]
  rintro σ' H8 P8
  refine bB (PB 9) ?_ ?_
  ·intro nx bg
   refine hdn fun Gz9 zG9=>?_;obtain ⟨v9,W',ws,rfl,q1,q2,q3,q4,q5,q6,q7,q8,q9,vz,xm⟩:=id P8;refine zG9 ?_
   refine ⟨rfl,_,rfl,?_⟩
   rw [QE,aZ]
   refine bq (fun h=>?_) (fun h=>bg _ _ (pass P8 (by have:=Qu h;omega)))
   have Xd:wn=8:=by have:=Qt h;omega
   obtain rfl:ws=Txt.split l ⟨#[32]⟩:=by
    rcases xm with ⟨e,_⟩ | ⟨_,h⟩
    ·exact e
    ·omega
   refine aO ⟨(show 10<=sizeLine by decide),fun S1 Vg=>?_⟩
   have s1:=aa.upd Vg (.lst (gw.map V.str))
   have Vh:upd H8 S1 (.lst (gw.map V.str)) S1=some (.lst (gw.map V.str)):=aA
   have Xe:gw.length=10:=rfl
   refine ⟨gw.map V.str,_,Vh,s1 _ _ q8,by rw [Ql,Ql];omega,fun S hS=>?_⟩
   have Lu:=s1.free hS
   have Vi:=q9.ne1 Lu
   have Vj:=q9.ne2 Lu
   have s2:aa H8 (upd (upd H8 S1 (.lst (gw.map V.str))) S (.lst (gw.map V.str++ns.map V.str))):=s1.trans (aa.upd hS (.lst (gw.map V.str++ns.map V.str)))
   have gS:upd (upd H8 S1 (.lst (gw.map V.str))) S (.lst (gw.map V.str++ns.map V.str)) S=some (.lst ((gw++ns).map V.str)):=by rw [Qm];exact aA
   show uq _ _ _ _ (upd (upd H8 S1 (.lst (gw.map V.str))) S (.lst (gw.map V.str++ns.map V.str)))
   generalize upd (upd H8 S1 (.lst (gw.map V.str))) S (.lst (gw.map V.str++ns.map V.str))=H9 at s2 gS
   refine Or.inl ⟨_,.inl (ae.of gS),p,w',_,t+8,rfl,q9.same s2,⟨by rw [Ql,Qk];omega,by rw [Ql,Qk];omega⟩,by omega,fun r xn r0 r1 Vk De=>?_⟩
   rw [Ql] at r1
   obtain ⟨z,vt,nu⟩:=atS _ r r0 r1
   have Vl:=De _ _ (s2 _ _ q1) q2 q3
   refine ⟨_,_,.inl (ae.of (De _ _ gS Vi Vj)),vt,W',_,(m:Int),m,rfl,rfl,Vl,zT (by rw [Ql];exact hm),?_⟩
   exact bg _ _ ⟨_,W',(Txt.split l ⟨#[32]⟩).set m z,rfl,by rw [aA,List.map_set],q2,q3,q4,q5,q6,by rw [aH q5.symm];exact De _ _ (s2 _ _ q7) AB AD,by rw [aH q4.symm];exact De _ _ (s2 _ _ q8) nn.1 nn.2,(Vk.upd q2 q3).mono (by omega),((vz.trans s2.sm).trans De).upd q6,.inr ⟨MW.set hm (QC nu),by omega⟩⟩
  rintro σ' H9 P9
  refine bB (PB 10) ?_ ?_
  ·intro nx bg
   refine hdn fun Gz9 zG9=>?_;obtain ⟨v9,W',ws,rfl,q1,q2,q3,q4,q5,q6,q7,q8,q9,vz,xm⟩:=id P9;refine zG9 ?_
   refine ⟨rfl,_,rfl,?_⟩
   rw [QE,aZ]
   refine bq (fun h=>?_) (fun h=>bg _ _ (pass P9 (by have:=Qu h;omega)))
   have Xf:wn=9:=by have:=Qt h;omega
   obtain rfl:ws=Txt.split l ⟨#[32]⟩:=by
    rcases xm with ⟨e,_⟩ | ⟨_,h⟩
    ·exact e
    ·omega
   have c1:f_ ((Txt.split l ⟨#[32]⟩).map V.str) none (some 2)=((Txt.split l ⟨#[32]⟩).take 2).map V.str:=by rw [List.map_take];exact uI _ 2
   have c2:f_ ((Txt.split l ⟨#[32]⟩).map V.str) (some 2) none=((Txt.split l ⟨#[32]⟩).drop 2).map V.str:=by rw [List.map_drop];exact dL _ 2
   refine ⟨2,rfl,Or.inr (Or.inl ⟨W',_,rfl,ae.of q1,fun p1 bz=>?_⟩)⟩
   rw [c1]
   have s1:=aa.upd bz (.lst (((Txt.split l ⟨#[32]⟩).take 2).map V.str))
   have g1:upd H9 p1 (.lst (((Txt.split l ⟨#[32]⟩).take 2).map V.str)) p1=some (.lst (((Txt.split l ⟨#[32]⟩).take 2).map V.str)):=aA
   generalize upd H9 p1 (.lst (((Txt.split l ⟨#[32]⟩).take 2).map V.str))=xn at s1 g1
   refine ⟨2,rfl,Or.inr (Or.inl ⟨W',_,rfl,ae.of (s1 _ _ q1),fun p2 ki=>?_⟩)⟩
   rw [c2]
   have s2:=aa.upd ki (.lst (((Txt.split l ⟨#[32]⟩).drop 2).map V.str))
   have g2:upd xn p2 (.lst (((Txt.split l ⟨#[32]⟩).drop 2).map V.str)) p2=some (.lst (((Txt.split l ⟨#[32]⟩).drop 2).map V.str)):=aA
   generalize upd xn p2 (.lst (((Txt.split l ⟨#[32]⟩).drop 2).map V.str))=BO at s2 g2
   refine ⟨1,rfl,rfl,p2,_,rfl,ae.of g2,fun p3 zc=>?_⟩
   rw [<- List.map_reverse]
   have s3:=aa.upd zc (.lst (((Txt.split l ⟨#[32]⟩).drop 2).reverse.map V.str))
   refine ⟨_,_,s3 _ _ (s2 _ _ g1),aA,by rw [Ql,Ql,List.length_take,List.length_reverse,List.length_drop];omega,fun p4 AQ=>?_⟩
   have s4:=((s1.trans s2).trans s3).trans (aa.upd AQ (.lst (((Txt.split l ⟨#[32]⟩).take 2).map V.str++((Txt.split l ⟨#[32]⟩).drop 2).reverse.map V.str)))
   have h9:H9 p4=none:=((s1.trans s2).trans s3).free AQ
   have Lv:=q9.ne1 h9
   have Lw:=q9.ne2 h9
   refine bg _ _ ⟨v9,p4,(Txt.split l ⟨#[32]⟩).take 2++((Txt.split l ⟨#[32]⟩).drop 2).reverse,rfl,by rw [Qm];exact aA,Lv,Lw,fun e=>(by rw [e,q8] at h9;cases h9),fun e=>(by rw [e,q7] at h9;cases h9),vz.free h9 Lv Lw,s4 _ _ q7,s4 _ _ q8,(q9.same s4).mono (by omega),vz.trans s4.sm,.inr ⟨MW.rev,by omega⟩⟩
  rintro σ' xn z0;refine hdn fun Gz9 zG9=>?_;obtain ⟨v9,W',ws,rfl,q1,q2,q3,q4,q5,q6,q7,q8,q9,vz,xm⟩:=z0;refine zG9 ?_
  have Lx:MW (gw++ns) l ws:=by
   rcases xm with ⟨_,h⟩ | ⟨h,_⟩
   ·omega
   ·exact h
  have zB:∀ z∈gw++ns,a_ (fun _=>true) z<=100:=fun z hz=>by
   rw [cH]
   rcases List.mem_append.mp hz with hz | hz
   ·have:∀ y∈gw,y.length<=100:=by decide
    exact this z hz
   ·exact nz z hz
  obtain ⟨Vm,Vn⟩:=Lx (fun _=>true) 100 zB (by decide)
  rw [show a_ (fun _=>true) ⟨#[32]⟩=1 from rfl,cH l] at Vm
  rw [cH l] at Vn
  refine ⟨rfl,(n:Int),rfl,Or.inr (Or.inl ⟨Ln,_,rfl,ae.of q7,fun p1 bz=>?_⟩)⟩
  rw [C8]
  have s1:=aa.upd bz (.lst (((Txt.split text ⟨#[10]⟩).take n).map V.str))
  have g1:upd xn p1 (.lst (((Txt.split text ⟨#[10]⟩).take n).map V.str)) p1=some (.lst (((Txt.split text ⟨#[10]⟩).take n).map V.str)):=aA
  generalize upd xn p1 (.lst (((Txt.split text ⟨#[10]⟩).take n).map V.str))=BO at s1 g1
  refine ⟨rfl,ws,ae.of (s1 _ _ q1),by rw [kH _ rfl];omega,(show 1<=sizeLine by decide),fun p2 ki=>?_⟩
  refine ⟨_,_,(aa.upd ki _) _ _ g1,aA,by rw [Ql,List.length_take];simp;omega,fun p3 zc=>?_⟩
  have s3:=(s1.trans (aa.upd ki (.lst [.str (Txt.join ⟨#[32]⟩ ws)]))).trans (aa.upd zc (.lst (((Txt.split text ⟨#[10]⟩).take n).map V.str++[.str (Txt.join ⟨#[32]⟩ ws)])))
  have g3:upd (upd BO p2 (.lst [.str (Txt.join ⟨#[32]⟩ ws)])) p3 (.lst (((Txt.split text ⟨#[10]⟩).take n).map V.str++[.str (Txt.join ⟨#[32]⟩ ws)])) p3=some (.lst (((Txt.split text ⟨#[10]⟩).take n).map V.str++[.str (Txt.join ⟨#[32]⟩ ws)])):=aA
  generalize upd (upd BO p2 (.lst [.str (Txt.join ⟨#[32]⟩ ws)])) p3 (.lst (((Txt.split text ⟨#[10]⟩).take n).map V.str++[.str (Txt.join ⟨#[32]⟩ ws)]))=Vo at s3 g3
  refine ⟨(n:Int)+1,rfl,Or.inr (Or.inl ⟨Ln,_,rfl,ae.of (s3 _ _ q7),fun p4 AQ=>?_⟩)⟩
  rw [show (n:Int)+1=((n+1:Nat):Int) by omega,Lq]
  refine ⟨_,_,(aa.upd AQ _) _ _ g3,aA,by rw [Qk,Ql,Ql,List.length_take,List.length_drop];simp;omega,fun p5 Vp=>?_⟩
  have s5:=(s3.trans (aa.upd AQ (.lst (((Txt.split text ⟨#[10]⟩).drop (n+1)).map V.str)))).trans (aa.upd Vp (.lst ((((Txt.split text ⟨#[10]⟩).take n).map V.str++[.str (Txt.join ⟨#[32]⟩ ws)])++((Txt.split text ⟨#[10]⟩).drop (n+1)).map V.str)))
  refine ⟨(Txt.split text ⟨#[10]⟩).take n++[Txt.join ⟨#[32]⟩ ws]++(Txt.split text ⟨#[10]⟩).drop (n+1),ae.of (by rw [Qm,Qm];exact aA),?_,?_⟩
  ·have:=Vd n
   rw [kH _ rfl,bR,bR,iN]
   omega
  ·exact k _ _ (Lr Lx) ((q9.same s5).mono (by omega)) (vz.trans s5.sm)
theorem mB:∀ ps:List (Str×Str),eu (ps.flatMap fun p=>[p.1,p.2])=ps.map fun p=>[p.1,p.2]
 | []=>rfl
 | p::ps=>by
  have:=mB ps
  rw [List.flatMap_cons,List.map_cons,<- this]
  rfl
theorem zC {h:Hd} (ok:h.ok ns):dw h.words=h.dt:=by
 have Vq:∀ z:Str,isName z=true->dj z=false/\(("all":Str)==z||(("none":Str)==z||(("way":Str)==z||false)))=false:=fun z hz=>by
  unfold isName at hz
  simp only [Bool.and_eq_true,Bool.not_eq_true',nk,List.any_cons,List.any_nil,Bool.or_eq_false_iff] at hz
  refine hdn fun Gz9 zG9=>?_;obtain ⟨⟨⟨_,_⟩,a1,a2,a3,a4,a5,_⟩,_⟩:=hz;refine zG9 ?_
  refine ⟨?_,by rw [a1,a2,a3];rfl⟩
  unfold dj
  have b4:(z==("box":Str))=false:=by rw [beq_eq_false_iff_ne] at a4 ⊢;exact fun e=>a4 e.symm
  have b5:(z==("pick":Str))=false:=by rw [beq_eq_false_iff_ne] at a5 ⊢;exact fun e=>a5 e.symm
  rw [b4,b5];rfl
 cases h with
 | one s=>rcases ok with rfl | rfl<;>rfl
 | as y=>
  obtain ⟨h1,h2⟩:=Vq y ok.1
  show dw [y]=_
  rw [dw,if_neg (by rw [h1];decide),if_neg (by rw [h2];decide)]
  rfl
 | way x y=>rfl
 | prs s ps=>
  show dw (s::ps.flatMap fun p=>[p.1,p.2])=_
  rw [dw,if_pos (by rcases ok.1 with rfl | rfl<;>decide),mB,Qn]
  rfl
section
variable {r:ff} (h1:isName r.1=true) (h2:r.2.ok ns)
include h1 h2
theorem Vr:fz (cy r)=Je r:=by
 have es:Txt.split (cy r) (Str.ofString " ")=r.1::"="::r.2.words:=mW h1 h2
 have h0:1<=r.2.words.length:=by cases r.2<;>simp [Hd.words]
 unfold fz rj
 rw [es,if_neg (by simp;omega),if_pos (by rfl)]
 show Dt.tup [.str r.1,dw r.2.words]=_
 rw [zC h2]
 rfl
theorem Vs:gf (cy r)=true:=by
 unfold gf
 rw [Vr h1 h2]
 show jg (.tup [.str r.1,r.2.dt])=true
 have h3:bw (.str r.1)=true:=h1
 simp only [jg,Bool.and_eq_true]
 exact ⟨h3,(Hd.pure h2).1⟩
theorem Vt:ze (cy r):=by
 have es:Txt.split (cy r) (Str.ofString " ")=r.1::"="::r.2.words:=mW h1 h2
 have wl:=kT h2
 refine ⟨by have:=mC h1 h2;omega,by rw [es];simp;omega,fun z hz=>?_⟩
 rw [es] at hz
 have:=(dP h1 h2 z hz).2
 omega
end
theorem Vu {ls:List Str} (h0:ls≠[]) (hl:ls.length<=300) (h:∀ p∈ls,10 ∉ p.cps.toList/\p.length<=207):Txt.split (Txt.join (Str.ofString "\n") ls) (Str.ofString "\n")=ls/\(Txt.join (Str.ofString "\n") ls).length<=1000000:=by
 refine ⟨jO (c:=10) h0 fun p hp=>(h p hp).1,?_⟩
 have:=tE (sep:=Str.ofString "\n") (m:=207) fun p hp=>(h p hp).2
 have h5:(Str.ofString "\n":Str).length=1:=rfl
 rw [h5] at this
 have:=Nat.mul_le_mul_right (207+1) hl
 omega
def jq:Dt->PyData
 | .str z=>.str z
 | .tup ds=>.tuple (E1 ds)
 | .bj=>.none
where E1:List Dt->List PyData
 | []=>[]
 | d::ds=>jq d::E1 ds
theorem k6:∀ ds:List Dt,jq.E1 ds=ds.map jq
 | []=>rfl
 | d::ds=>by rw [jq.E1,k6 ds,List.map_cons]
theorem Vv {v:V} (h:TX H v d):vf H v (jq d):=by
 induction h with
 | str h=>exact .str _
 | tup e hl hn _ ih=>
  rw [jq,k6]
  refine .tup e (by simpa using hl) fun i h1 h2=>?_
  simp only [Qr]
  exact ih i h1 (by simpa using h2)
theorem Ly {j : Nat} (h : j < 1000) : (Str.ofString (toString ((j : Nat) : Int))).length <= 202 /\ ((j : Nat) : Int).natAbs.log2 < 1920 := by
  have hl : ((j : Nat) : Int).natAbs.log2 < 64 := by
    by_cases z : ((j : Nat) : Int).natAbs = 0
    · rw [z]; decide
    · exact (Nat.log2_lt z).mpr (by have : 1000 < 2 ^ 64 := by decide
                                    omega)
  refine ⟨?_, by omega⟩
  rw [PySem.ofString_length]
  have := int_text_length_le (k := 64) (by decide) hl
  omega
structure Sh (p:PyData) (k n:Nat):Prop where
 dep:p.depth<=k
 len:p.shown.length<=n
 ok:p.showable=true
theorem Sh.mono {p:PyData} {k k' n':Nat} (h:Sh p k n) (hk:k<=k') (hn:n<=n'):Sh p k' n':=⟨Nat.le_trans h.dep hk,Nat.le_trans h.len hn,h.ok⟩
def AR (z:Str):Prop:=z.length<=8/\∀ c∈z.cps.toList,c < 128
theorem Sh.str {z:Str} (h:AR z):Sh (.str z) 0 82:=by
 refine ⟨by simp [PyData.depth],?_,by simp [PyData.showable]⟩
 simp only [PyData.shown]
 have:=StrLaws.reprText_len z (fun c hc=>Nat.lt_of_lt_of_le (h.2 c hc) (by decide))
 have:=h.1
 omega
theorem Sh.int {i:Int} (h1:(toString i:Str).length<=202) (h2:i.natAbs.log2 < 1920):Sh (.int i) 0 202:=⟨by simp [PyData.depth],by simpa only [PyData.shown] using h1,by simp [PyData.showable,h2]⟩
theorem Sh.tup {ps:List PyData} {k n:Nat} (h:∀ p∈ps,Sh p k n):Sh (.tuple ps) (k+1) (ps.length*(n+2)+3):=by
 refine ⟨?_,?_,?_⟩
 ·simp only [PyData.depth]
  have:=iX (fun d hd=>(h d hd).dep)
  omega
 ·simp only [PyData.shown]
  have h1:=tupleText_len_le (PyData.shownAll ps)
  have e2:PyData.shownAll ps=ps.map PyData.shown:=PyProof.Rows.shownAll_eq_map _
  have h2:((PyData.shownAll ps).map (·.length)).sum<=(PyData.shownAll ps).length*n:=tY fun t ht=>by
   rw [e2] at ht
   obtain ⟨d,hd,rfl⟩:=List.mem_map.mp ht
   exact (h d hd).len
  have h3:(PyData.shownAll ps).length=ps.length:=by rw [e2];simp
  rw [h3] at h1 h2
  rw [Nat.mul_add];omega
 ·simp only [PyData.showable]
  exact fO fun d hd=>(h d hd).ok
theorem Sh.two {a b:PyData} {k m:Nat} (ha:Sh a k n) (hb:Sh b k m):Sh (.tuple [a,b]) (k+1) (n+m+7):=by
 have h0:∀ p∈[a,b],Sh p k (max n m):=fun p hp=>by
  simp only [Qp,QA,or_false] at hp
  rcases hp with rfl | rfl
  ·exact ha.mono (Qy _) (Nat.le_max_left _ _)
  ·exact hb.mono (Qy _) (Nat.le_max_right _ _)
 refine ⟨(Sh.tup h0).dep,?_,(Sh.tup h0).ok⟩
 simp only [PyData.shown]
 have h1:=tupleText_len_le (PyData.shownAll [a,b])
 have h2:=ha.len
 have h3:=hb.len
 have e2:PyData.shownAll [a,b]=[a.shown,b.shown]:=PyProof.Rows.shownAll_eq_map _
 rw [e2] at h1 ⊢
 simp only [List.map_cons,List.map_nil,List.sum_cons,List.sum_nil,List.length_cons,List.length_nil] at h1
 omega
theorem kF (h:isName z=true):AR z:=by
 refine ⟨eJ h,fun c hc=>?_⟩
 unfold isName at h
 simp only [Bool.and_eq_true] at h
 have ha:=QF.mp h.2 c hc
 rw [oH] at ha
 have:=zX c (Qt ha)
 omega
theorem vM {l:List Str} (h:∀ z∈l,AR z):Sh (jq (.tup (l.map Dt.str))) 1 (l.length*84+3):=by
 rw [jq,k6]
 have:=Sh.tup (ps:=(l.map Dt.str).map jq) (k:=0) (n:=82) fun p hp=>by
  rw [Qn] at hp
  obtain ⟨z,hz,rfl⟩:=List.mem_map.mp hp
  exact Sh.str (h z hz)
 simpa using this
theorem mP:∀ {r:List Str} {c:List Str},c∈eu r->c.length<=2/\∀ z∈c,z∈r
 | [a],c,h=>by
  rw [eu,List.mem_singleton] at h
  subst h
  exact ⟨by simp,fun z hz=>hz⟩
 | a::b::r,c,h=>by
  rw [eu] at h
  rcases Qp.mp h with rfl | h
  ·exact ⟨by simp,fun z hz=>by simp at hz ⊢;rcases hz with hz | hz<;>simp [hz]⟩
  ·obtain ⟨h1,h2⟩:=mP h
   exact ⟨h1,fun z hz=>Qh _ (Qh _ (h2 z hz))⟩
 | [],c,h=>by rw [eu] at h;cases h
theorem Vw (h0:ws≠[]) (h:headD (dw ws)=true) (hl:ws.length<=600):Sh (jq (dw ws)) 3 52000:=by
 obtain ⟨x,r,rfl⟩:=List.exists_cons_of_ne_nil h0
 have lit:∀ z:Str,z.length<=8->(∀ c∈z.cps.toList,c < 128)->AR z:=fun z a b=>⟨a,b⟩
 cases e1:dj x with
 | true=>
  rw [Lg r e1,Bool.and_eq_true,Bool.and_eq_true] at h
  have hn:=QF.mp h.1.2
  have hx:AR x:=by
   rw [dj,Bool.or_eq_true] at e1
   rcases e1 with q | q<;>rw [beq_iff_eq.mp q]<;>exact lit _ (by decide) (by decide)
  rw [dw,if_pos e1]
  show Sh (.tuple [.str x,jq (.tup ((eu r).map fun c=>.tup (c.map Dt.str)))]) 3 52000
  have cl:=gU r
  have hp:Sh (jq (.tup ((eu r).map fun c=>.tup (c.map Dt.str)))) 2 (300*173+3):=by
   rw [jq,k6]
   refine (Sh.tup (k:=1) (n:=171) fun p hp=>?_).mono (Qy _) ?_
   ·rw [Qn] at hp
    obtain ⟨c,hc,rfl⟩:=List.mem_map.mp hp
    obtain ⟨c1,c2⟩:=mP hc
    exact (vM fun z hz=>kF (hn z (c2 z hz))).mono (Qy _) (by omega)
   ·rw [Ql,Ql,cl]
    have:(r.length+1) / 2<=300:=by simp at hl;omega
    have:=Nat.mul_le_mul_right (171+2) this
    omega
  exact (Sh.two ((Sh.str hx).mono (by omega) (Qy _)) hp).mono (Qy _) (by omega)
 | false=>
  have Lz:∀ {l:List Str},(∀ z∈l,AR z)->l.length<=3->Sh (jq (.tup (l.map Dt.str))) 3 52000:=fun hz hl=>(vM hz).mono (by omega) (by omega)
  cases e2:(("all":Str)==x||(("none":Str)==x||(("way":Str)==x||false))) with
  | true=>
   rw [kL r e1 e2] at h
   have e3:=e2
   rw [Bool.or_false,Bool.or_eq_true,Bool.or_eq_true] at e3
   have hx:AR x:=by
    rcases e3 with q | q | q<;>rw [<- beq_iff_eq.mp q]<;>exact lit _ (by decide) (by decide)
   have hr:r.length<=2/\r.all isName=true:=by
    rcases e3 with q | q | q
    all_goals
     rw [<- beq_iff_eq.mp q] at h
     have h:=(Bool.and_eq_true _ _▸h:_/\_)
     have:=Qt h.1
     exact ⟨by omega,h.2⟩
   rw [dw,if_neg (by rw [e1];decide),if_pos e2]
   refine Lz (l:=x::r) (fun z hz=>?_) (by simp;omega)
   rcases Qp.mp hz with rfl | hz
   ·exact hx
   ·exact kF (QF.mp hr.2 z hz)
  | false=>
   rw [sM r e1 e2,Bool.and_eq_true] at h
   obtain rfl:r=[]:=by simpa using h.1
   rw [dw,if_neg (by rw [e1];decide),if_neg (by rw [e2];decide)]
   refine Lz (l:=[Str.ofString "as",x]) (fun z hz=>?_) (by simp)
   rcases Qp.mp hz with rfl | hz
   ·exact lit _ (by decide) (by decide)
   ·rw [List.mem_singleton.mp hz];exact kF h.2
theorem Vx {l:Str} (h:gf l=true) (hw:(Txt.split l (Str.ofString " ")).length<=600):Sh (jq (fz l)) 4 52100:=by
 unfold gf at h
 have e:fz l=(rj l).getD .bj:=rfl
 rw [e] at h ⊢
 unfold rj at h ⊢
 by_cases h1:(Txt.split l (Str.ofString " ")).length < 3
 ·rw [if_pos h1] at h;exact absurd h (by decide)
 ·rw [if_neg h1] at h ⊢
  by_cases h2:(Txt.split l (Str.ofString " ")).getD 1 ""="="
  ·rw [if_pos h2] at h ⊢
   have h:(isName ((Txt.split l (Str.ofString " ")).getD 0 "")&&headD (dw ((Txt.split l (Str.ofString " ")).drop 2)))=true:=h
   rw [Bool.and_eq_true] at h
   have hh:=Vw (ws:=(Txt.split l (Str.ofString " ")).drop 2) (fun z=>by
    have:=congrArg List.length z
    simp at this;omega) h.2 (by rw [List.length_drop];omega)
   exact (Sh.two ((Sh.str (kF h.1)).mono (by omega) (Qy _)) hh).mono (Qy _) (by omega)
  ·rw [if_neg h2] at h;exact absurd h (by decide)
def xo (ls:List Str):PyData:=if ls.all gf=true then (if fm (.tup (ls.map fz))=true then .tuple [.str "told",jq (.tup (ls.map fz))] else .tuple [.str "rows",.none]) else .tuple [.str "text",.int ((ls.findIdx fun l=> !gf l:Nat):Int)]
theorem Vy {ls:List Str} (hl:ls.length<=990) (hw:∀ l∈ls,(Txt.split l (Str.ofString " ")).length<=600):Sh (xo ls) 6 16000000:=by
 have lit:∀ z:Str,z.length<=8->(∀ c∈z.cps.toList,c < 128)->∀ k,Sh (.str z) k 82:=fun z a b k=>(Sh.str ⟨a,b⟩).mono (Nat.zero_le _) (Qy _)
 unfold xo
 split
 ·rename_i hg
  have hg:=QF.mp hg
  split
  ·rename_i ht
   have hr:ls.length<=200:=by
    rw [fm] at ht
    simp only [Bool.and_eq_true] at ht
    have:=Qt ht.1.1.1.1.2
    simpa using this
   have h1:Sh (jq (.tup (ls.map fz))) 5 10420403:=by
    rw [jq,k6]
    refine (Sh.tup (k:=4) (n:=52100) fun p hp=>?_).mono (Qy _) ?_
    ·rw [Qn] at hp
     obtain ⟨l,fi,rfl⟩:=List.mem_map.mp hp
     exact Vx (hg l fi) (hw l fi)
    ·rw [Ql,Ql]
     exact Nat.le_trans (Nat.add_le_add_right (Nat.mul_le_mul_right (52100+2) hr) 3) (by decide)
   exact (Sh.two (lit "told" (by decide) (by decide) 5) h1).mono (Qy _) (by omega)
  ·have hn:Sh .none 5 82:=⟨by simp [PyData.depth],by simp only [PyData.shown];decide,by simp [PyData.showable]⟩
   exact (Sh.two (lit "rows" (by decide) (by decide) 5) hn).mono (Qy _) (by omega)
 ·have hi:(ls.findIdx fun l=> !gf l) < 1000:=Nat.lt_of_le_of_lt List.findIdx_le_length (by omega)
  have hn:=(Sh.int (Ly hi).1 (Ly hi).2).mono (show 0<=5 by decide) (Qy _)
  exact (Sh.two (lit "text" (by decide) (by decide) 5) hn).mono (Qy _) (by omega)
theorem uD {a b:V} {pa pb:PyData} {da db:Dt} (e:H p=some (.tup [a,b])) (ha:DA (fun _=>True) H true a pa da) (hb:DA (fun _=>True) H true b pb db):DA (fun _=>True) H true (.ref p) (.tuple [pa,pb]) (.tup [da,db]):=by
 refine .tup True.intro e rfl rfl (by simp) fun i h1 h2 h3=>?_
 match i with
 | 0=>exact ha
 | 1=>exact hb
 | n+2=>exact absurd h1 (by simp)
theorem qT {Q:VK} {E:XK} {text:Str} (tl:text.length<=100000) (ts:i_ text<=599) (k:∀ v H',aa H H'->(∃ d,DA (fun _=>True) H' true v (xo (Txt.split text (Str.ofString "\n"))) d)->Q v H'):xj [.str text] H Q E:=by
 obtain ⟨a1,a2⟩:=oV tl (Nat.le_trans ts (by decide))
 refine ⟨text,_,rfl,rfl,by omega,a1,a2,fun i hi hb hg p H' s' e=>k _ _ s' ?_,fun hg ht p H' s' e=>k _ _ s' ?_,fun hg ht p v H' s' tx e=>k _ _ s' ?_⟩
 ·have ef:((Txt.split text (Str.ofString "\n")).findIdx fun l=> !gf l)=i:=(List.findIdx_eq hi).mpr ⟨by simp [hb],fun j zg=>by simp [hg j (Nat.lt_trans zg hi) zg]⟩
  have ea:¬(Txt.split text (Str.ofString "\n")).all gf=true:=fun z=>by
   have:=QF.mp z _ (Qj hi)
   rw [hb] at this;cases this
  unfold xo
  rw [if_neg ea,ef]
  exact ⟨_,uD e (.str (by decide)) (.int _)⟩
 ·unfold xo
  rw [if_pos (QF.mpr hg),if_neg (by rw [ht];decide)]
  exact ⟨_,uD e (.str (by decide)) .af⟩
 ·unfold xo
  rw [if_pos (QF.mpr hg),if_pos ht]
  exact ⟨_,uD e (.str (by decide)) (DA.of (fun _ _ _=>True.intro) tx (Vv tx))⟩
theorem m7:∀ {l m:List Str},l.Nodup->(∀ x∈l,x∈m)->l.length<=m.length
 | [],_,_,_=>Nat.zero_le _
 | a::l,m,h,hs=>by
  obtain ⟨h1,h2⟩:=List.nodup_cons.mp h
  have ha:=hs a (by simp)
  have:l.length<=(m.erase a).length:=m7 h2 fun x hx=>(List.mem_erase_of_ne (show x≠a from fun e=>h1 (by rw [<- e];exact hx))).mpr (hs x (Qh _ hx))
  have e:=List.length_erase_of_mem ha
  have:0 < m.length:=List.length_pos_of_mem ha
  simp only [List.length_cons];omega
theorem rL (h1:32 ∉ z.cps.toList) (h2:10 ∉ z.cps.toList):a_ iq z=0:=by
 unfold a_
 rw [List.countP_eq_zero]
 intro c hc hs
 rw [iq,Bool.or_eq_true] at hs
 rcases hs with q | q
 ·rw [beq_iff_eq.mp q] at hc;exact h1 hc
 ·rw [beq_iff_eq.mp q] at hc;exact h2 hc
theorem zF {r:ff} (h1:isName r.1=true) (h2:r.2.ok ns) (h3:∀ z∈r.2.ym,z∈ws) (h4:ws.length<=3):i_ (cy r)<=8:=by
 have wl:r.2.words.length<=7:=by
  revert h2 h3
  cases r.2 with
  | one s=>intro _ _;show 1<=7;omega
  | as y=>intro _ _;show 1<=7;omega
  | way x y=>intro _ _;show 3<=7;omega
  | prs s ps=>
   intro h2 h3
   have hp:ps.length<=3:=by
    have:=m7 (oX h2.2.2.1) (m:=ws) fun x hx=>h3 x hx
    rw [Ql] at this;omega
   show (s::ps.flatMap fun p=>[p.1,p.2]).length<=7
   have:(ps.flatMap fun p=>[p.1,p.2]).length=2*ps.length:=by
    clear hp h2 h3
    induction ps with
    | nil=>rfl
    | cons a t ih=>rw [List.flatMap_cons,Qk,ih];simp;omega
   rw [List.length_cons,this];omega
 have a:=eA iq ⟨#[32]⟩ (r.1::"="::r.2.words) (by simp)
 have b:fg iq 1 (r.1::"="::r.2.words)=(r.1::"="::r.2.words).length:=by
  have:∀ l:List Str,(∀ z∈l,a_ iq z=0)->fg iq 1 l=l.length:=fun l hl=>by
   induction l with
   | nil=>rfl
   | cons x t ih=>rw [d8,hl x (by simp),ih fun z hz=>hl z (Qh _ hz),List.length_cons];omega
  exact this _ fun z hz=>rL (dP h1 h2 z hz).1.1 (dP h1 h2 z hz).1.2
 rw [show a_ iq ⟨#[32]⟩=1 from rfl,b] at a
 have:i_ (cy r)=a_ iq (Txt.join ⟨#[32]⟩ (r.1::"="::r.2.words)):=rfl
 simp at a
 omega
theorem mE {q:Nat->Bool} {m:Nat} (h:∀ y∈ys,a_ q y<=m):fg q c ys<=ys.length*(m+c):=by
 induction ys with
 | nil=>rw [mJ];omega
 | cons y r ih=>
  have h1:=h y (by simp)
  have h2:=ih fun z hz=>h z (Qh _ hz)
  rw [d8,List.length_cons,Nat.add_mul];omega
theorem tJ {xs:List V} {rows:List ff} (rt:RT H a xs rows ns ws) (h1:rows.length<=8) (h2:ws.length<=3):(Txt.join (Str.ofString "\n") (rows.map cy)).length<=1700/\i_ (Txt.join (Str.ofString "\n") (rows.map cy))<=71:=by
 have gq:rows.map cy≠[]:=fun z=>by
  have:=congrArg List.length z
  have h3:=rt.rl
  have h4:=rt.pos
  simp at this
  rw [this] at h3
  simp at h3
  omega
 have a1:=eA (fun _=>true) ⟨#[10]⟩ (rows.map cy) gq
 have a2:=eA iq ⟨#[10]⟩ (rows.map cy) gq
 have b1:=mE (q:=fun _=>true) (c:=1) (m:=207) (ys:=rows.map cy) fun y hy=>by
  obtain ⟨r,hr,rfl⟩:=List.mem_map.mp hy
  rw [cH]
  exact mC (rt.ok r hr).1 (rt.ok r hr).2
 have b2:=mE (q:=iq) (c:=1) (m:=8) (ys:=rows.map cy) fun y hy=>by
  obtain ⟨r,hr,rfl⟩:=List.mem_map.mp hy
  exact zF (rt.ok r hr).1 (rt.ok r hr).2 (rt.ww r hr) h2
 rw [show a_ (fun _=>true) ⟨#[10]⟩=1 from rfl,cH] at a1
 rw [show a_ iq ⟨#[10]⟩=1 from rfl] at a2
 rw [Ql] at b1 b2
 have c1:=Nat.mul_le_mul_right (207+1) h1
 have c2:=Nat.mul_le_mul_right (8+1) h1
 have e:i_ (Txt.join (Str.ofString "\n") (rows.map cy))=a_ iq (Txt.join ⟨#[10]⟩ (rows.map cy)):=rfl
 have e2:(Txt.join (Str.ofString "\n") (rows.map cy)).length=(Txt.join ⟨#[10]⟩ (rows.map cy)).length:=rfl
 omega
def bL:Nat->Nat
 | 0=>1700
 | j+1=>2*bL j+101
def bS:Nat->Nat
 | 0=>71
 | j+1=>2*bS j+3
theorem zh.len {s s':Str} (h:zh (gw++ns) s s') (hn:∀ z∈ns,isName z=true) (h1:s.length<=bL j) (h2:i_ s<=bS j):s'.length<=bL (j+1)/\i_ s'<=bS (j+1):=by
 have a:=h (fun _=>true) 100 (fun z hz=>by
  rw [cH]
  rcases List.mem_append.mp hz with hz | hz
  ·have:∀ y∈gw,y.length<=100:=by decide
   exact this z hz
  ·have:=eJ (hn z hz);omega) (by decide)
 have b:=h iq 2 (fun z hz=>by
  rcases List.mem_append.mp hz with hz | hz
  ·have:∀ y∈gw,a_ iq y<=2:=by decide
   exact this z hz
  ·rw [rL (l5 (hn z hz)).1 (l5 (hn z hz)).2];omega) (by decide)
 rw [cH,cH] at a
 have e1:bL (j+1)=2*bL j+101:=rfl
 have e2:bS (j+1)=2*bS j+3:=rfl
 have e3:i_ s'=a_ iq s':=rfl
 have e4:i_ s=a_ iq s:=rfl
 omega
theorem LA:∀ j:Nat,j<=3->bL j<=100000/\bS j<=599:=by decide
theorem qU (x:Str):x++("":Str)=x:=by
 show Str.mk (x.cps++#[])=x
 rw [Array.append_empty]
theorem nR (x y z:Str):x++y++z=x++(y++z):=by
 show Str.mk ((x.cps++y.cps)++z.cps)=Str.mk (x.cps++(y.cps++z.cps))
 rw [Array.append_assoc]
theorem qY (sep:Str):∀ ls:List Str,ls≠[]->Str.join sep ls++sep=Str.join sep (ls++[("":Str)])
 | [x],_=>by
  show x++sep=x++sep++("":Str)
  exact (qU _).symm
 | x::y::r,_=>by
  have ih:=qY sep (y::r) (by simp)
  show x++sep++Str.join sep (y::r)++sep=x++sep++Str.join sep ((y::r)++[("":Str)])
  rw [<- ih,nR]
theorem yY {x0 x1 x2 x3 x4 x5 x7:Option V} {b:Str} {X:TT} {Q:Bool->Hp->Prop} (b1:b.length<=100000) (b2:i_ b<=599) (sh:Sh (xo (Txt.split b (Str.ofString "\n"))) 6 16000000) (k:∀ H',aa H H'->X [x0,x1,x2,x3,x4,x5,some (.str b),x7] H' Q):
  E6 (B0 (j_ (Ae true) (sj CG (fu (z_ xj [] E0 (fu (tV 6) ky)) ky)) (sj CG (fu (z_ xj [] E0 (fu (tV 6) ky)) ky)))) X [x0,x1,x2,x3,x4,x5,some (.str b),x7] H Q:=by
 have hsz:sizeLine=16777216:=QL
 have sl:(xo (Txt.split b (Str.ofString "\n"))).shown.length<=sizeLine:=by have:=sh.len;omega
 have sd:(xo (Txt.split b (Str.ofString "\n"))).depth<=60:=by have:=sh.dep;omega
 show xj [.str b] H (fun v H1=>CG [v] H1 fun x H2=>xj [.str b] H2 (fun v' H3=>CG [v'] H3 fun y H4=>Ae true x y H4 fun z H5=>∃ k,z=.bl k/\if k=true then Q true H5 else X [x0,x1,x2,x3,x4,x5,some (.str b),x7] H5 Q) E0) E0
 refine qT b1 b2 fun v Ha sa ⟨d,da⟩=>⟨fun _=>True,true,_,_,_,rfl,da,sh.ok,sl,sd,?_⟩
 refine qT b1 b2 fun v' Hb sb ⟨d',db⟩=>⟨fun _=>True,true,_,_,_,rfl,db,sh.ok,sl,sd,rfl,_,rfl,?_⟩
 refine bq (fun h=>?_) (fun _=>k _ (sa.trans sb))
 rw [Qv rfl] at h;cases h
theorem Vz (T:Txt K mg w):av P w K mg base 10 "law" ["script"] (FJ K):=by
 have uB:av P w K mg base 1 "_law_tpen" ["script"] (IJ K):=t5 T
 have aQ:av P w K mg base 1 "_law_tdraw" ["pen","many"] Af:=dD T
 have gY:av P w K mg base 2 "_law_tnames" ["pen","many"] GH:=jI T
 have m4:av P w K mg base 4 "_law_ttelling" ["pen","most","words","sorts"] Ks:=lM T
 have qD:av P w K mg base 1 "_law_tlines" ["told"] KI:=nO T
 have kD:av P w K mg base 4 "_law_tmade_right" ["number"] La:=jR T
 have tH:av P w K mg base 2 "_law_tbent" ["pen","text","names"] Lp:=pO T
 have iI:av P w K mg base 8 "_law_tread" ["text"] xj:=pP T
 have uW:av P w K mg base 8 "_law_tdue" ["text"] xj:=t7 T
 have qB:av P w K mg base 8 "_law_tapart" ["text"] K_:=nU T
 refine T.J0.fj gP (fun vs H Q E h=>?_) (fun f ak A outer s H vs Q E hr h=>?_)
 ·obtain ⟨a,ns,rfl,_⟩:=h
  rfl
 ·obtain ⟨a,ns,rfl,hS,hl,k⟩:=h
  have hu:=cK hr
  have az:=Qx (cK hr)
  have AN:=zR hr
  have hsz:sizeLine=16777216:=QL
  refine ⟨_,(aE (aX (i:=1) gP.nd rfl (Or.inl rfl) (bJ uB (hr.mono (by decide)) (aD (zv 0) aB)))
   (aE (bP (cS (cE (bJ kD (hr.mono (by decide)) (aV (bJ aQ (hr.mono (by decide)) (aD (zv 1) (dI (bQ vE aF aF) aB))) aB)))) (aI (aT eR)) aU)
   (aE (aX (i:=2) gP.nd rfl (Or.inl rfl) (bJ gY (hr.mono (by decide)) (aD (zv 1) (aC aF aB))))
   (aE (aX (i:=3) gP.nd rfl (Or.inl rfl) (bJ m4 (hr.mono (by decide)) (aD (zv 1) (aC aF (aD (zv 2) (ON (cL (aC aK (aC aK (aC aK (aC aK (aC aK (aC aK (aC aK (aC aK aB))))))))) aB))))))
   (aE (aX (i:=4) gP.nd rfl (Or.inl rfl) (f7 K PySem.F.plainAttrs_str PySem.F.slot_str_join PySem.F.type_str_join (fL K) aK (aV (bJ qD (hr.mono (by decide)) (aD (zv 3) aB)) aB)))
   (aE (fN PassesOwn.never rfl (e8 (by rfl) T.eL (aC aF aB)) (aS (i:=5) gP.nd rfl (Or.inl rfl)) (aE (aX (i:=6) gP.nd rfl (Or.inl rfl) (zv 4))
   (aE (fN PassesOwn.never rfl (e8 (by rfl) T.eL (aJ (bE (bF K) (cL (aC aF (aC aF (aC aF (aC aF (aC aF aB)))))) (bJ aQ (hr.mono (by decide)) (aD (zv 1) (aC aF aB))) (fun _ _=>rfl)) aB)) (aS (i:=7) gP.nd rfl (Or.inl rfl)) (aI (aX (i:=6) gP.nd rfl (Or.inl rfl) (bJ tH (hr.mono (by decide)) (aD (zv 1) (aD (zv 6) (aY (fV (own:=["row"]) (idx:=[]) (N':=["row"]) (d4 (au kI) (["script","pen","words","told","text","k","bent","turn"]:List Str) (by decide+kernel)) rfl (lQ K (zv 3)) (fun _ _ _ _ _ _=>(aS (i:=0) (show List.Nodup (["row"]:List Str) by decide+kernel) rfl (Or.inl rfl))) (fun _ _ _ _ _ _=>dF) (fun _ _ _ _ _ _=>(bE (bF K) (zv 0) aF (fun _ _=>rfl)))) aB)))))))
   (aI (bP (eZ (aP (iY az) (aG (mD hr.gd hr.units) (by rfl) T.yW PyProof.Rows.boot_repr (aV (bJ iI (hr.mono (by decide)) (aD (zv 6) aB)) aB)) (aG (mD hr.gd hr.units) (by rfl) T.yW PyProof.Rows.boot_repr (aV (bJ uW (hr.mono (by decide)) (aD (zv 6) aB)) aB)) (ay _)) (eC (cS (cE (bJ qB (hr.mono (by decide)) (aD (zv 6) aB)))))).pt (aI (aT eR)) aU)))))
   (aI (aT (eG (bX (wF AN) (bJ iI (hr.mono (by decide)) (aC aK aB)) (d5 (aC aK (aC aF aB))) (ay _)) (gF (bX (wF AN) (bJ iI (hr.mono (by decide)) (dI (bQ bC (zv 4) aK) aB)) (d5 (aC aK (aV (aG (aL K) (by rfl) T.cz PySem.boot_len (aD (zv 3) aB)) aB))) (ay _)))))))))))),?_⟩
  refine aO ⟨a,ns,rfl,hS,hl,fun p w' H1 hp hw VA same=>?_⟩
  refine bB (fun σ' H'=>σ'=[some (.ref a),some (.ref p),none,none,none,none,none,none]/\ck H' p w' 1) ?_ ?_
  ·intro nx bg
   refine ⟨⟨by decide,by decide,by decide⟩,p,w',_,0,rfl,VA,⟨by decide,by decide⟩,by decide,fun r H2 r0 r1 gm AF=>?_⟩
   obtain ⟨i,rfl⟩:=Int.eq_ofNat_of_zero_le r0
   have r1:(i:Int) < 100000000:=r1
   exact ⟨i,rfl,by omega,fun H3 s3=>⟨true,rfl,e_ (bg _ _ ⟨rfl,gm.same s3⟩)⟩⟩
  rintro σ' H2 ⟨rfl,gm⟩
  refine aO ⟨p,w',3,1,rfl,gm,⟨by decide,by decide⟩,by decide,fun wd ws H3 ua hL A7 Bd za qc qd=>?_⟩
  have tw:iz H3 wd ws:=⟨hL,by intro e;rw [e] at A7;simp at A7,by omega,fun z hz=>(za z hz).2⟩
  refine aO ⟨(show 8<=sizeLine by decide),fun so hso=>?_⟩
  have s5:=aa.upd hso (.lst ((["all","none","way","box","pick","box","pick","as"]:List Str).map V.str))
  have VB:iz (upd H3 so (.lst ((["all","none","way","box","pick","box","pick","as"]:List Str).map V.str))) so ["all","none","way","box","pick","box","pick","as"]:=⟨aA,by decide,by decide,fun z hz=>by
   simp only [Qp,QA,or_false] at hz
   rcases hz with rfl | rfl | rfl | rfl | rfl | rfl | rfl | rfl<;>exact n3 (by decide) (by decide)⟩
  refine ⟨p,w',wd,so,8,_,ws,_,rfl,qc.same s5,by decide,⟨by decide,by decide⟩,tw.same s5,by omega,⟨Bd,fun z hz=>(za z hz).1⟩,VB,?_,fun a1 xs rows Df H6 rt Xg vq xg=>?_⟩
  ·intro z hz
   simp only [Qp,QA,or_false] at hz ⊢
   rcases hz with rfl | rfl | rfl | rfl | rfl | rfl | rfl | rfl<;>simp
  have rl:=rt.rl
  have Xh:=rt.pos
  have h8:rows.length<=8:=by omega
  obtain ⟨LB,LC⟩:=tJ rt h8 (by omega)
  have Dg:∀ l∈rows.map cy,gf l=true/\ze l/\10 ∉ l.cps.toList/\l.length<=207:=fun l hl=>by
   obtain ⟨r,hr,rfl⟩:=List.mem_map.mp hl
   exact ⟨Vs (rt.ok r hr).1 (rt.ok r hr).2,Vt (rt.ok r hr).1 (rt.ok r hr).2,wU (rt.ok r hr).1 (rt.ok r hr).2,mC (rt.ok r hr).1 (rt.ok r hr).2⟩
  have LD:rows.map cy≠[]:=fun z=>by have:=congrArg List.length z;simp at this;rw [this] at rl;simp at rl;omega
  refine aO ⟨rfl,a1,xs,rows,Df,rfl,.inr rt.at_,rt.rv,rt.ok,by omega,fun Ln H7 AO s7 Dc=>?_⟩
  refine ⟨rows.map cy,ae.of Dc,?_,?_⟩
  ·rw [kH _ rfl]
   have:=mE (q:=fun _=>true) (c:=1) (m:=207) (ys:=rows.map cy) fun y hy=>by rw [cH];exact (Dg y hy).2.2.2
   rw [Ql] at this
   have:=Nat.mul_le_mul_right (207+1) h8
   omega
  have VC:=rt.tk s7.ts
  have GU:=vq.same s7
  obtain ⟨VD,VE⟩:=Vu LD (by rw [Ql];omega) (fun l hl=>(Dg l hl).2.2)
  have Hq:∀ t:Str,t=Txt.join (Str.ofString "\n") (rows.map cy)->Txt.split (t++Str.ofString "\n") (Str.ofString "\n")=rows.map cy++[("":Str)]:=fun t ht=>by
   have e:t++Str.ofString "\n"=Txt.join (Str.ofString "\n") (rows.map cy++[("":Str)]):=by
    rw [ht,show Txt.join (Str.ofString "\n") (rows.map cy)=Str.join (Str.ofString "\n") (rows.map cy) from StrLaws.glued_eq_join _ _,show Txt.join (Str.ofString "\n") (rows.map cy++[("":Str)])=Str.join (Str.ofString "\n") (rows.map cy++[("":Str)]) from StrLaws.glued_eq_join _ _]
    exact qY _ _ LD
   rw [e]
   exact jO (c:=10) (by simp) fun l hl=>by
    rcases List.mem_append.mp hl with hl | hl
    ·exact (Dg l hl).2.2.1
    ·rw [List.mem_singleton.mp hl];decide
  generalize htx:Txt.join (Str.ofString "\n") (rows.map cy)=text at LB LC VD VE
  have Hq:=Hq text htx.symm
  refine bB (fun σ' H'=>∃ v5 v6 v7:Option V,σ'=[some (.ref a),some (.ref p),some (.ref wd),some (.ref a1),some (.str text),v5,v6,v7]/\RT H' a1 xs rows Df ws) ?_ ?_
  ·intro nx bg
   refine ⟨20,rfl,by decide,by decide,dW (dE 0 20) (fun i σ' H'=>∃ v5 v6 v7:Option V,σ'=[some (.ref a),some (.ref p),some (.ref wd),some (.ref a1),some (.str text),v5,v6,v7]/\RT H' a1 xs rows Df ws/\ck H' p w' (1100+50*i)) ⟨none,none,none,rfl,VC,GU.mono (by omega)⟩ (fun _ _ _ _ _=>True.intro) ?_ (by rintro σ' H' ⟨v5,v6,v7,e,q,_⟩;exact bg _ _ ⟨v5,v6,v7,e,q⟩)⟩
   rintro i σ' H8 hi ⟨v5,v6,v7,rfl,Hr,BN⟩
   have Xi:i < 20:=hi
   have TM:yi=1000000000000:=rfl
   refine aO ?_
   dsimp only [tV,List.set_cons_succ,List.set_cons_zero,List.getElem?_cons_succ,List.getElem?_cons_zero]
   refine bB (fun σ' H'=>∃ (v7:Option V) (b:Str),σ'=[some (.ref a),some (.ref p),some (.ref wd),some (.ref a1),some (.str text),some (.int ((0:Int)+(i:Int))),some (.str b),v7]/\b.length<=100000/\i_ b<=599/\RT H' a1 xs rows Df ws/\ck H' p w' (1100+50*i+40)) ?_ ?_
   ·intro vo jl
    refine ⟨(show 5<=sizeLine by decide),fun B hB=>?_⟩
    have sB:=aa.upd hB (.lst [.int 1,.int 1,.int 1,.int 2,.int 3])
    have gB:upd H8 B (.lst [.int 1,.int 1,.int 1,.int 2,.int 3]) B=some (.lst [.int 1,.int 1,.int 1,.int 2,.int 3]):=aA
    refine ⟨p,w',5,_,rfl,BN.same sB,⟨by decide,by decide⟩,by omega,fun r H9 r0 r1 Hs LF=>?_⟩
    obtain ⟨rn,rfl⟩:=Int.eq_ofNat_of_zero_le r0
    obtain ⟨m,hm,VF⟩:∃ m:Nat,iu [V.int 1,V.int 1,V.int 1,V.int 2,V.int 3] (rn:Int)=some (.int (m:Int))/\m<=3:=by
     rcases (show rn=0\/rn=1\/rn=2\/rn=3\/rn=4 by omega) with rfl | rfl | rfl | rfl | rfl
     ·exact ⟨1,rfl,by decide⟩
     ·exact ⟨1,rfl,by decide⟩
     ·exact ⟨1,rfl,by decide⟩
     ·exact ⟨2,rfl,by decide⟩
     ·exact ⟨3,rfl,by decide⟩
    have Ht:=(Hr.tk sB.ts).tk ((BN.same sB).ts LF)
    refine ⟨_,_,.inl (ae.of (LF _ _ gB (BN.ne1 hB) (BN.ne2 hB))),hm,(m:Int),rfl,by omega,by omega,?_⟩
    rw [Int.toNat_natCast]
    refine dW (dE 0 m) (fun j σ' H'=>∃ (v7:Option V) (b:Str),σ'=[some (.ref a),some (.ref p),some (.ref wd),some (.ref a1),some (.str text),some (.int ((0:Int)+(i:Int))),some (.str b),v7]/\b.length<=bL j/\i_ b<=bS j/\RT H' a1 xs rows Df ws/\ck H' p w' (1100+50*i+1+10*j)) ⟨_,text,rfl,LB,LC,Ht,Hs⟩ (fun _ _ _ _ _=>True.intro) ?_ ?_
    ·rintro j σ' xn hj ⟨v7,b,rfl,q1,q2,q3,q4⟩
     obtain ⟨t1,t2⟩:=LA j (by omega)
     refine Or.inr ⟨⟨_,ai.of q3.at_⟩,fun D hD=>?_⟩
     have xl:=q3.rv.len
     refine gO (cU xs) (fun n τ H'=>∃ v0:Option V,τ=[v0]/\H' D=some (.lst (((rows.take n).map (·.1)).map V.str))/\aa xn H') ⟨none,rfl,aA,aa.upd hD _⟩ (by rintro _ _ _ _ ⟨_,_,_,s'⟩;exact ai.of (s' _ _ q3.at_)) ?_ ?_
     ·rintro n τ BO hn ⟨v0,rfl,p1,p2⟩
      obtain ⟨c,v,e1,e2,e3⟩:=q3.rv.at_ n hn (by omega)
      have ex:xs.getD n .af=.ref c:=by rw [Qb,Qa hn,<- e1];rfl
      rw [ex]
      refine ⟨_,_,.inr (ai.of (p2 _ _ e2)),aR _ _,_,p1,by simp;omega,_,rfl,?_,p2.put hD⟩
      rw [aA,Qs,Qa (show n < rows.length by omega),Qm,Qm]
      rfl
     ·rintro τ BO ⟨v0,rfl,p1,p2⟩
      rw [List.take_of_length_le (by omega)] at p1
      have LG:∀ z∈rows.map (·.1),isName z=true:=fun z hz=>by
       obtain ⟨r,hr,rfl⟩:=List.mem_map.mp hz
       exact (q3.ok r hr).1
      refine ⟨p,w',D,b,rows.map (·.1),_,rfl,q4.same p2,by omega,by omega,by omega,p1,fun z=>?_,by rw [Ql];omega,fun z hz=>by have:=eJ (LG z hz);omega,fun b' Vo hb VG C_=>?_⟩
      ·have:=congrArg List.length z;simp at this;rw [this] at rl;simp at rl;omega
      obtain ⟨b1,b2⟩:=hb.len LG q1 q2
      exact ⟨_,b',rfl,b1,b2,(q3.tk p2.ts).tk ((q4.same p2).ts C_),VG.mono (by omega)⟩
    ·rintro σ' xn ⟨v7,b,rfl,q1,q2,q3,q4⟩
     obtain ⟨t1,t2⟩:=LA m VF
     exact jl _ _ ⟨_,b,rfl,by omega,by omega,q3,q4.mono (by omega)⟩
   rintro σ' H9 ⟨v7,b,rfl,b1,b2,Ht,Hs⟩
   obtain ⟨o1,o2⟩:=oV b1 (Nat.le_trans b2 (by decide))
   have few:∀ l∈Txt.split b (Str.ofString "\n"),(Txt.split l (Str.ofString " ")).length<=600:=fun l hl=>by
    have h1:i_ l<=i_ b:=dR (d:=10) hl
    have h2:=gI l (d:=32) rfl
    show (Txt.split l ⟨#[32]⟩).length<=600
    omega
   have sh:=Vy o1 few
   refine yY b1 b2 sh fun Hb sb=>?_
   refine ⟨b,_,rfl,rfl,by omega,o1,o2,fun Hc sc=>⟨true,rfl,e_ ?_⟩⟩
   have s9:=sb.trans sc
   exact ⟨_,_,_,rfl,Ht.tk s9.ts,(Hs.same s9).mono (by omega)⟩
  rintro σ' H8 ⟨v5,v6,v7,rfl,Hr⟩
  have E2:gf ("":Str)=false:=by decide+kernel
  obtain ⟨z1,z2⟩:=oV (s:=("":Str)) (by decide) (by decide)
  have e0:Txt.split ("":Str) (Str.ofString "\n")=[("":Str)]:=by decide+kernel
  refine ⟨("":Str),_,rfl,rfl,by decide,z1,z2,fun i hi hb hg p1 H9 s9 g9=>?_,fun hg _ _ _ _ _=>?_,fun hg _ _ _ _ _ _ _=>?_⟩
  rotate_left
  ·have:=hg ("":Str) (by rw [e0];simp);rw [E2] at this;cases this
  ·have:=hg ("":Str) (by rw [e0];simp);rw [E2] at this;cases this
  have i0:i=0:=by rw [e0] at hi;simpa using hi
  subst i0
  refine ⟨(show 2<=sizeLine by decide),fun p2 ki=>?_⟩
  have LH:=aa.upd ki (.tup [.str "text",.int 0])
  refine ⟨1,1,.t [.s "text",.i 0],.t [.s "text",.i 0],p1,p2,by decide,rfl,rfl,TD.tup (.inl (LH _ _ g9)) (gr.cons TD.str (gr.cons TD.int gr.nil)),TD.tup (.inl aA) (gr.cons TD.str (gr.cons TD.int gr.nil)),fun bo hb=>?_⟩
  obtain rfl:bo=true:=hb.mpr rfl
  refine ⟨true,rfl,bc ?_⟩
  have tx:∀ l∈rows.map cy++[("":Str)],ze l:=fun l hl=>by
   rcases List.mem_append.mp hl with hl | hl
   ·exact (Dg l hl).2.1
   ·rw [List.mem_singleton.mp hl];exact z2 _ (by rw [e0];simp)
  have one:(Str.ofString "\n").length=1:=rfl
  refine ⟨by rw [one];omega,text++Str.ofString "\n",rows.map cy++[("":Str)],rfl,Hq,by rw [strLen_append,one];omega,by simp;omega,tx,fun i hi hb hg p3 BO VH VI=>?_,fun hg _ _ _ _ _=>?_,fun hg _ _ _ _ _ _ _=>?_⟩
  rotate_left
  ·have:=hg ("":Str) (by simp);rw [E2] at this;cases this
  ·have:=hg ("":Str) (by simp);rw [E2] at this;cases this
  have ei:i=rows.length:=by
   have lj:i < rows.length+1:=by simpa using hi
   by_cases h:i < rows.length
   ·rw [Qe (by rw [Ql];exact h),(Dg _ (Qj _)).1] at hb
    cases hb
   ·omega
  subst ei
  have LI:=Hr.tk (((s9.trans LH).trans VH).ts)
  have xl:=LI.rv.len
  refine Or.inl ⟨xs,.inr (ai.of LI.at_),(show 2<=sizeLine by decide),fun p4 AQ=>?_⟩
  rw [xl]
  have VJ:=aa.upd AQ (.tup [.str "text",.int (rows.length:Int)])
  refine ⟨1,1,.t [.s "text",.i rows.length],.t [.s "text",.i rows.length],p3,p4,by decide,rfl,rfl,TD.tup (.inl (VJ _ _ VI)) (gr.cons TD.str (gr.cons TD.int gr.nil)),TD.tup (.inl aA) (gr.cons TD.str (gr.cons TD.int gr.nil)),fun bo hb=>?_⟩
  obtain rfl:bo=true:=hb.mpr rfl
  exact k _
end
theorem VO {K:Q0} (X:K.In h) (G:h.Ns mainGlobals mg) (e:look K=want w):Txt (without K []) mg w:=by
 have X':=uG (as:=[]) X
 obtain ⟨eF,e⟩:=Prod.mk.inj e
 obtain ⟨eV,e⟩:=Prod.mk.inj e
 obtain ⟨eT,e⟩:=Prod.mk.inj e
 obtain ⟨eD,e⟩:=Prod.mk.inj e
 obtain ⟨eN,e⟩:=Prod.mk.inj e
 obtain ⟨eX,e⟩:=Prod.mk.inj e
 have eS:=e
 obtain ⟨VP,Xj,VQ,VR,nB⟩:=Rp X' G (qK eD 0 (x:="NAMES_BEHIND") rfl) rfl (by decide+kernel)
 obtain ⟨Xk,rfl,VS⟩:=Ec VR
 obtain ⟨Xl,rfl,VT⟩:=Ec VS
 obtain ⟨Xm,rfl,VU⟩:=Ec VT
 obtain ⟨Xn,rfl,VW⟩:=Ec VU
 obtain rfl:=Ro VW
 exact ⟨nn X' G eN 0,
  nn X' G eN 1,
  nn X' G eN 2,
  nn X' G eN 3,
  nn X' G eN 4,
  nn X' G eN 5,
  nn X' G eN 6,
  nn X' G eN 7,
  nn X' G eN 8,
  nn X' G eN 9,
  nn X' G eN 10,
  nn X' G eN 11,
  nn X' G eN 12,
  nn X' G eN 13,
  nn X' G eN 14,
  vl X' G eV 0,
  vl X' G eV 1,
  tu X' G eT 0,
  vl X' G eV 2,
  ⟨VP,VQ,nB⟩,
  tu X' G eT 1,
  ip X' G eF 0,
  ip X' G eF 1,
  ip X' G eF 2,
  ip X' G eF 3,
  ip X' G eF 4,
  ip X' G eF 5,
  ip X' G eF 6,
  ip X' G eF 7,
  ip X' G eF 8,
  CI X' G eF 9,
  CI X' G eF 10,
  ip X' G eF 11,
  ip X' G eF 12,
  ip X' G eF 13,
  ip X' G eF 14,
  CI X' G eF 15,
  CI X' G eF 16,
  Js X' G eF 17,
  Jt X' G eF 18,
  Jt X' G eF 19,
  ip X' G eF 20,
  CI X' G eF 21,
  ip X' G eF 22,
  ip X' G eF 23,
  Js X' G eF 24,
  ip X' G eF 25,
  ip X' G eF 26,
  ip X' G eF 27,
  ip X' G eF 28,
  ip X' G eF 29,
  ip X' G eF 30,
  z5 X' G eX 0,
  JN X' G eX 1,
  JN X' G eX 2,
  z5 X' G eX 3,
  dG X' G eS 0,
  dG X' G eS 1,
  dG X' G eS 2,
  dG X' G eS 3,
  dG X' G eS 4,
  dG X' G eS 5,
  dG X' G eS 6,
  dG X' G eS 7,
  dG X' G eS 8,
  dG X' G eS 9,
  dG X' G eS 10,
  dG X' G eS 11,
  dG X' G eS 12,
  dG X' G eS 13,
  dG X' G eS 14,
  dG X' G eS 15⟩
theorem walk:PySem.W.WalkO view ["NAMES_BEHIND"] XP (qx look want).says uf.row.toRowW AS [] (fun f vs=>PySem.call f vs):=
 tO (l:=uf) (st:=kI) (k:=10) rfl rfl ⟨rfl,by decide,by decide,rfl⟩ rfl (by intros;rfl) fun w mg h K X e G=>have T:=VO X G e;⟨T.J0,fun base=>Vz T⟩
end T1
open PySem PySem.W PyProof.Rows L2
set_option maxRecDepth 100000 in
set_option maxHeartbeats 0 in
theorem PySem.Challenge.cw_coilkind_k06_texts_that_write_none_holds : PySem.Challenge.rw_coilkind_k06_texts_that_write_none.Holds := by
 refine PySem.W.holds_law T1.said fun said=>?_
 exact PySem.W.holds_open (q:=T1.view) (loose:=["NAMES_BEHIND"]) (Xt:=fun s=>xlAt T1.view [] s&&recOk [] s) (XP:=XL T1.view []) (Yf:=(qx T1.look T1.want).obs) (Ya:=(qx T1.look T1.want).val) (YP:=(qx T1.look T1.want).says) (N:=4050)
  (Rk "special-get-raises" T1.VM T1.VN) (qx T1.look T1.want).of (qx T1.look T1.want).keeps (fun s e=>xl_of s (Bool.and_eq_true_iff.mp e).1) XL.keeps T1.hdef T1.hprog T1.hkw (fun s e=>recFacts_of (Bool.and_eq_true_iff.mp e).2) rfl (by assumption) T1.hok T1.hbare T1.VX T1.walk
