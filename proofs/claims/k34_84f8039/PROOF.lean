import PyProof.Rows.All
import Wide.All
import OpenK.AllK
import Wide.FinOn
import Lean
import PyProof.EqAt
import PyProof.EqKinds
import PyProof.TupleCall
import PyProof.DictCompW
import PyProof.AutoListH
import PyProof.EnumMake
import PyProof.ZipIter
import PyProof.AttrMissSeq
import KE.KDictOf
import PyProof.ReprLen
import PyProof.StrLawsRepr
import KE.KUnpackStar
import PyProof.DictWalks
import PyProof.Rows.DictUnroll
import PyProof.Rows.Range3
import PyProof.Rows.ChunkEnd
import PyProof.Rows.ChunkLeaf
import PyProof.StrCalls2
import PyProof.StrLawsTight
import PyProof.StrLawsChain
import PyProof.Rows.StrSplitJoin
import PyProof.Conv_int_bool
import PyProof.Rows.TupMore
import PyProof.StrLawsIn
import PyProof.Rows.StrCut
import PyProof.StrCalls
import PyProof.CallFns
import PyProof.FString5
import PyProof.NsCount
import PyProof.Rows.SetFrom
import PyProof.SetRoads
import KE.KRevIter
import PyProof.CollectIter
import PyProof.TupleOfGen
import KE.KItemsList
import PyProof.NeKinds
import PyProof.DictItems
import KE.KPairComp
import PyProof.SetKind
import PyProof.TupleKey
import PyProof.IsRules
import PyProof.DictValues
import PyProof.SumWalk
import PyProof.ConsumeWalk
import PyProof.SumAny
import PyProof.FactsAll.range_2
import PyProof.WalksMore
import PyProof.MinMaxWalk
import PyProof.SeqI3
import KE.KDictList
import KE.KDictLaws
import KE.KSortTup
import KE.KStrOpen
import PyProof.NeData
import KE.KSetDisp
import PySem.Challenge.RW_coilkind_k34_within_or_beyond
set_option Elab.async false
set_option linter.all false
set_option maxRecDepth 100000
section
open PySem PySem.Spec PyProof.Rows
abbrev Qa := @List.getElem?_eq_getElem
abbrev Qb := @List.getD_eq_getElem?_getD
abbrev Qc := @Heap.get?_push_of_some
abbrev Qd := @Heap.get?_push_size
abbrev Qe := @List.getElem_append_left
abbrev Qf := @List.getElem_append_right
abbrev Qg := @List.getElem?_append_left
abbrev Qh := @List.mem_cons_of_mem
abbrev Qi := @List.getElem_of_mem
abbrev Qj := @List.getElem_mem
abbrev Qk := @List.length_append
abbrev Ql := @List.length_map
abbrev Qm := @List.map_append
abbrev Qn := @List.map_map
abbrev Qo := @List.take_length
abbrev Qp := @List.mem_cons
abbrev Qq := @List.getElem?_map
abbrev Qr := @List.getElem_map
abbrev Qs := @List.take_add_one
abbrev Qt := @of_decide_eq_true
abbrev Qv := @decide_eq_true
abbrev Qw := @decide_eq_false
abbrev Qx := @Nat.lt_of_succ_lt
abbrev Qy := @Nat.le_refl
abbrev Qz := @Heap.lt_size
abbrev QA := @List.mem_nil_iff
abbrev QB := @Function.comp_def
abbrev QC := @List.mem_of_getElem?
abbrev QD := @Option.some.inj
abbrev QE := @Bool.false_xor
abbrev QF := @List.all_eq_true
abbrev QG := @PyProof.Rows.boot_tuple
abbrev QH := @PySem.F.plainAttrs_list
abbrev QJ := @PySem.F.slot_list_append
abbrev QK := @PySem.F.type_list_append
abbrev QL := @sizeLine_eq
abbrev QP := @List.getElem?_eq_none
abbrev QQ := @List.append_assoc
abbrev QR := @List.append_nil
abbrev QS := @List.eq_nil_of_length_eq_zero
abbrev QT := @wpAny_bind
abbrev QU := @wpAny_pure
abbrev Q0 := PySem.W.Frag
end
variable {us vs:List PySem.Value} {u:PySem.Value} {a b p C l:PySem.Addr} {h h' base:PySem.Heap} {P prog:PySem.Program} {w:PySem.World} {α:Type} {x name z:PySem.Str} {pins:List (PySem.Addr×PySem.Obj)} {s:PySem.Shared} {t' i j n:Nat} {ch fp:List PySem.Addr} {A:PySem.Around} {E Q:PySem.Value->PySem.Shared->Prop} {e tg:PySem.Expr} {op:PySem.CmpOp} {es:Array (Int×PySem.Value)} {body:List PySem.Stmt} {f:PySem.Value->PySem.Value->PySem.Sem PySem.Value} {mA mg:PySem.Str->Option PySem.Value} {ns ps own N' ws m1 m2:List PySem.Str} {R:PySem.Result->PySem.Shared->Prop} {kw:List (PySem.Str×PySem.Value)} {env:PySem.Env} {fd:PySem.FuncData} {apos cpos:PySem.Pos} {sc:PySem.Scope} {T:String} {XP:(PySem.Str->Option PySem.Value)->PySem.Heap->Prop} {idx:List Nat} {cl:List (PySem.Str×PySem.Addr)} {ifs Dv:List PySem.Expr} {G:Array PySem.GenState->Array PySem.GenState->Prop} {ss:List (List PySem.Str)} {tr:List (Option (Nat×List PySem.Str))}
theorem hdn {p:Prop} (h:∀ G:Prop,(p->G)->G):p:=h p id
namespace L2
open PySem PySem.Spec PyProof.Rows
abbrev Key:=Sum Int Str
end L2
variable {xs:List (List L2.Key×PySem.Addr×PySem.Value)} {ks:List L2.Key} {ao:List (List L2.Key×PySem.Addr)} {eu:List (List L2.Key)}
namespace L2
open PySem PySem.Spec PyProof.Rows
def Cn:Key->Value->Bool
 | .inl k,v=>Value.isInt k v
 | .inr x,v=>Value.isStrOf x v
def Dw (w:World):Key->Int
 | .inl k=>hashInt k
 | .inr x=>hashStr w x
theorem bS:∀ {k:Key} {v:Value},Cn k v=true->(∃ i t,k=Sum.inl i/\v=Value.int i t)\/(∃ x t,k=Sum.inr x/\v=Value.str x t)
 | .inl i,v,h=>by
  obtain ⟨t,e⟩:=Value.isInt_shape (k:=i) (v:=v) h
  exact .inl ⟨i,t,rfl,e⟩
 | .inr x,v,h=>by
  obtain ⟨t,e⟩:=Value.isStrOf_shape (x:=x) (v:=v) h
  exact .inr ⟨x,t,rfl,e⟩
theorem xO (i:Int) (t:Tok):Cn (.inl i) (.int i t)=true:=by simp [Cn,Value.isInt]
theorem yL (x:Str) (t:Tok):Cn (.inr x) (.str x t)=true:=by simp [Cn,Value.isStrOf]
theorem P7 (a b:Int):decide ((Sum.inl a:Key)=Sum.inl b)=(a==b):=by
 by_cases e:a=b
 ·subst e;simp
 ·have h:¬(Sum.inl a:Key)=Sum.inl b:=fun q=>e (Sum.inl.inj q)
  rw [Qw h]
  exact (beq_eq_false_iff_ne.mpr e).symm
theorem P8 (a b:Str):decide ((Sum.inr a:Key)=Sum.inr b)=decide (a=b):=by
 by_cases e:a=b
 ·subst e;simp
 ·have h:¬(Sum.inr a:Key)=Sum.inr b:=fun q=>e (Sum.inr.inj q)
  rw [Qw h,Qw e]
theorem P9 (a:Int) (b:Str):decide ((Sum.inl a:Key)=Sum.inr b)=false:=Qw (fun q=>nomatch q)
theorem P_ (a:Str) (b:Int):decide ((Sum.inr a:Key)=Sum.inl b)=false:=Qw (fun q=>nomatch q)
def bx (prog:Program) (w:World):PySem.KeyKind prog w Key where
 is:=Cn
 hash:=Dw w
 inj:=fun v a b ha hb=>by
  rcases bS ha with ⟨i,t,rfl,rfl⟩ | ⟨x,t,rfl,rfl⟩
  ·rcases bS hb with ⟨j,u,rfl,e⟩ | ⟨y,u,rfl,e⟩
   ·injection e with e1 _;rw [e1]
   ·exact nomatch e
  ·rcases bS hb with ⟨j,u,rfl,e⟩ | ⟨y,u,rfl,e⟩
   ·exact nomatch e
   ·injection e with e1 _;rw [e1]
 byValue:=fun k v h=>by
  rcases bS h with ⟨i,t,rfl,rfl⟩ | ⟨x,t,rfl,rfl⟩<;>rfl
 pyHash:=fun hv h=>by
  rcases bS hv with ⟨i,t,rfl,rfl⟩ | ⟨x,t,rfl,rfl⟩
  ·exact wpAny_pyHash_int h
  ·exact wpAny_pyHash_str h
 eqBool:=fun hu hv h=>by
  rcases bS hu with ⟨i,t,rfl,rfl⟩ | ⟨x,t,rfl,rfl⟩
  ·rcases bS hv with ⟨j,u,rfl,rfl⟩ | ⟨y,u,rfl,rfl⟩
   ·rw [P7] at h;exact wpAny_eqBool_int h
   ·rw [P9] at h;exact SeqAt.EqAt.int_str i t y u _ _ _ _ h
  ·rcases bS hv with ⟨j,u,rfl,rfl⟩ | ⟨y,u,rfl,rfl⟩
   ·rw [P_] at h;exact SeqAt.EqAt.str_int x t j u _ _ _ _ h
   ·rw [P8] at h;exact wpAny_eqBool_str h
 «strs»:=fun k x t v h=>by
  rcases bS h with ⟨i,u,rfl,e⟩ | ⟨y,u,rfl,e⟩
  ·exact nomatch e
  ·injection e with e1 _
   subst e1
   cases v<;>rfl
theorem rK (prog:Program) (w:World) (i:Int) (t:Tok):(bx prog w).is (.inl i) (.int i t)=true:=xO i t
theorem iA (prog:Program) (w:World) (x:Str) (t:Tok):(bx prog w).is (.inr x) (.str x t)=true:=yL x t
inductive V where
 | ai | bl (b:Bool) | int (i:Int) | str (x:Str) | rm (b:Array UInt8) | Bh (b:UInt64) | ref (a:Addr) | ty (n:String)
 deriving DecidableEq
def RelV:V->Value->Prop
 | .ai,u=>u=Value.none
 | .bl b,u=>u=Value.bool b
 | .int i,u=>∃ t,u=Value.int i t
 | .str x,u=>∃ t,u=Value.str x t
 | .rm b,u=>∃ t,u=Value.bytes b t
 | .Bh b,u=>∃ t,u=Value.float b t
 | .ref a,u=>u=Value.ref a
 | .ty n,u=>u=Value.type n
abbrev bg:List V->List Value->Prop:=Paired RelV
theorem bg.length {xs:List V} {us:List Value} (r:bg xs us):xs.length=us.length:=Paired.length r
theorem bg.get:∀ {xs:List V} {us:List Value} {i:Nat} {x:V},bg xs us->xs[i]? =some x->∃ u,us[i]? =some u/\RelV x u
 | _,_,_,_,.nil,e=>by simp at e
 | _,_,0,_,.cons r _,e=>by simp at e;subst e;exact ⟨_,rfl,r⟩
 | _,_,i+1,x,.cons _ t,e=>by
  obtain ⟨u,h1,h2⟩:=bg.get (i:=i) (x:=x) t (by simpa using e)
  exact ⟨u,by simpa using h1,h2⟩
theorem bg.set {x:V} {u:Value} (r:RelV x u):∀ {xs:List V} {us:List Value} (i:Nat),bg xs us->bg (xs.set i x) (us.set i u)
 | _,_,_,.nil=>.nil
 | _,_,0,.cons _ t=>.cons r t
 | _,_,i+1,.cons q t=>.cons q (bg.set r i t)
theorem bg.append:∀ {xs ys:List V} {us ws:List Value},bg xs us->bg ys ws->bg (xs++ys) (us++ws)
 | _,_,_,_,.nil,s=>s
 | _,_,_,_,.cons r t,s=>.cons r (bg.append t s)
theorem bg.take:∀ {xs:List V} {us:List Value} (n:Nat),bg xs us->bg (xs.take n) (us.take n)
 | _,_,0,_=>.nil
 | _,_,_+1,.nil=>.nil
 | _,_,n+1,.cons r t=>.cons r (bg.take n t)
theorem bg.drop:∀ {xs:List V} {us:List Value} (n:Nat),bg xs us->bg (xs.drop n) (us.drop n)
 | _,_,0,r=>r
 | _,_,_+1,.nil=>.nil
 | _,_,n+1,.cons _ t=>bg.drop n t
def oq:Option V->Option Value->Prop
 | some v,some u=>RelV v u
 | none,none=>True
 | _,_=>False
def KV {κ:Type}:List (κ×V)->List (κ×Value)->Prop:=Paired fun (p:κ×V) (q:κ×Value)=>p.1=q.1/\RelV p.2 q.2
def kV:Key->V
 | .inl i=>.int i
 | .inr x=>.str x
inductive HO where
  | lst (xs:List V)
  | tup (xs:List V)
  | dK (kvs:List (Key×V)) | dT (kvs:List (List Key×V))
  | set (S:Int->Bool) (n:Nat)
  | ins (C dx:Addr) (fs:List (Str×V))
  | own (x:Addr)
  | xd (fs:List (Str×V))
  | met (f x:Addr)
  | G6 (lo hi:Int)
  | az (o:Obj) (u:HO)
  | Bj (ps:Array Value)
  | ext (φ:Heap->Prop)
abbrev Hp:=Addr->Option HO
end L2
variable {H H' H0:L2.Hp} {o:L2.HO}
namespace L2
open PySem PySem.Spec PyProof.Rows
def upd (H:Hp) (a:Addr) (o:HO):Hp:=fun b=>if b=a then some o else H b
theorem aA:upd H a o a=some o:=by unfold upd;rw [if_pos rfl]
theorem aF (h:b≠a):upd H a o b=H b:=by unfold upd;rw [if_neg h]
theorem lM {u:HO}:upd (upd H a o) a u=upd H a u:=by
 funext b;unfold upd;split<;>rfl
theorem aR (h:H a=some o) (h':H b=none):a≠b:=by
 intro e;subst e;rw [h] at h';cases h'
def Bk (h:Heap) (a:Addr):Prop:=∀ o,h.get? a=some o->o.dict=none
theorem Bk.new {ob:Obj} (h0:ob.isFreed=false) (hd:ob.dict=none):Bk (h.push ob) h.objs.size:=fun o q=>by rw [Qd _ h0] at q;cases q;exact hd
def au (H:Hp) (b:Addr) (ys:List V):Prop:=H b=some (.tup ys)\/∃ o,H b=some (.az o (.tup ys))
theorem au.upd {H:Hp} {b a:Addr} {ys:List V} {o:HO} (r:au H b ys) (ne:∀ u,H b=some u->b≠a):au (L2.upd H a o) b ys:=by
 rcases r with r | ⟨ob,r⟩
 ·exact .inl (by rw [aF (ne _ r)];exact r)
 ·exact .inr ⟨ob,by rw [aF (ne _ r)];exact r⟩
section
variable (P:Program) (w:World)
def cz (H:Hp) (h:Heap) (a:Addr):HO->Prop
 | .lst xs=>xs.length<=sizeLine/\∃ (its:List Value) (n:Nat),bg xs its/\h.get? a=some {cls:=.type "list",data:=.seq its.toArray n}
 | .tup xs=>(xs.length<=sizeLine/\Bk h a)/\∃ its:List Value,bg xs its/\IsTup h a its.toArray
 | .dK kvs=>kvs.length<=sizeLine/\(a==sysModules)=false/\∃ vs,KV kvs vs/\h.DictOf (bx P w) a vs
 | .dT kvs=>kvs.length<=sizeLine/\(a==sysModules)=false/\∃ xs:List (List Key×Addr×Value),
   Paired (fun (p:List Key×V) (q:List Key×Addr×Value)=>p.1=q.1/\au H q.2.1 (p.1.map kV)/\RelV p.2 q.2.2) kvs xs/\
   ∃ o es ep,h.get? a=some o/\o.ExactDict/\o.data=.dict es ep/\es.toList=xs.map (entryOfKey (tupleKind (bx P w)))/\(xs.map (·.1)).Nodup
 | .set S n=>h.SetOf (intKind P w) a S n
 | .ins C dx fs=>H dx=some (.own a)/\fs.length<=1000/\dx≠a/\h.get? a=some (PySem.W.instObj C dx)/\
   ∃ mA,h.Ns1 dx mA/\(∀ f,oq (fs.lookup f) (mA f))/\PySem.Within mA (fs.map (·.1))
 | .own _=>∃ o,h.get? a=some o
 | .xd fs=>∃ mA,h.Ns1 a mA/\∀ f,oq (fs.lookup f) (mA f)
 | .G6 lo hi=>∃ t u v,h.get? a=some {cls:=.type "range",data:=.fields #[.int lo t,.int hi u,.int 1 v]}
 | .az o u=>h.get? a=some o/\cz H h a u
 | .Bj ps=>h.get? a=some {cls:=.none,data:=.fields ps}
 | .met f x=>h.get? a=some (PySem.W.methodObj (.ref f) (.ref x))
 | .ext φ=>φ h/\(∃ o,h.get? a=some o)/\∀ h1 h2:Heap,φ h1->(∀ o,h1.get? a=some o->h2.get? a=some o)->φ h2
def fm (H:Hp) (h:Heap):Prop:=∀ a o,H a=some o->cz P w H h a o
end
theorem cz.lt (x:cz P w H h a o):a < h.objs.size:=by
 cases o with
 | lst xs=>obtain ⟨_,_,_,_,e⟩:=x;exact Qz e
 | tup xs=>obtain ⟨_,_,_,p⟩:=x;exact p.lt
 | dK kvs=>obtain ⟨_,_,_,_,o,_,_,e,_⟩:=x;exact Qz e
 | dT kvs=>obtain ⟨_,_,_,_,o,_,_,e,_⟩:=x;exact Qz e
 | set S n=>obtain ⟨o,_,_,_,e,_⟩:=x;exact Qz e
 | ins C dx fs=>obtain ⟨_,_,_,e,_⟩:=x;exact Qz e
 | own y=>obtain ⟨_,e⟩:=x;exact Qz e
 | xd fs=>obtain ⟨_,⟨_,_,_,e,_⟩,_⟩:=x;exact Qz e
 | G6 lo hi=>obtain ⟨_,_,_,e⟩:=x;exact Qz e
 | az ob u=>obtain ⟨e,_⟩:=x;exact Qz e
 | Bj ps=>exact Qz (show h.get? a=some _ from x)
 | met f y=>exact Qz (show h.get? a=some _ from x)
 | ext φ=>obtain ⟨_,⟨_,e⟩,_⟩:=x;exact Qz e
theorem Paired.G7 {α β:Type} {F G:α->β->Prop}:∀ {l₁:List α} {l₂:List β},Paired F l₁ l₂->(∀ a b,F a b->G a b)->Paired G l₁ l₂
 | _,_,.nil,_=>.nil
 | _,_,.cons r t,f=>.cons (f _ _ r) (Paired.G7 t f)
theorem cz.stay (x:cz P w H h a o) (k:∀ b u,(b=a\/H b=some (.own a))->h.get? b=some u->h'.get? b=some u)
  (ho:∀ b,H b=some (.own a)->H' b=some (.own a)) (ht:∀ b xs,au H b xs->au H' b xs):cz P w H' h' a o:=by
 induction o with
 | lst xs=>obtain ⟨z,its,n,r,e⟩:=x;exact ⟨z,its,n,r,k _ _ (.inl rfl) e⟩
 | tup xs=>obtain ⟨⟨z,nd⟩,its,r,ob,e,c⟩:=x;exact ⟨⟨z,fun o q=>by rw [k _ _ (.inl rfl) e] at q;cases q;exact nd _ e⟩,its,r,ob,k _ _ (.inl rfl) e,c⟩
 | dK kvs=>obtain ⟨z,y,vs,r,ob,es,ep,e,c⟩:=x;exact ⟨z,y,vs,r,ob,es,ep,k _ _ (.inl rfl) e,c⟩
 | dT kvs=>
  obtain ⟨z,y,xs,r,ob,es,ep,e,c⟩:=x
  exact ⟨z,y,xs,Paired.G7 r fun p q z=>⟨z.1,ht _ _ z.2.1,z.2.2⟩,ob,es,ep,k _ _ (.inl rfl) e,c⟩
 | set S n=>obtain ⟨ob,es,ep,t,e,c⟩:=x;exact ⟨ob,es,ep,t,k _ _ (.inl rfl) e,c⟩
 | ins C dx fs=>
  obtain ⟨d,z,ne,e,mA,⟨od,es,ep,e2,c⟩,r⟩:=x
  exact ⟨ho _ d,z,ne,k _ _ (.inl rfl) e,mA,⟨od,es,ep,k _ _ (.inr d) e2,c⟩,r⟩
 | own y=>obtain ⟨ob,e⟩:=x;exact ⟨ob,k _ _ (.inl rfl) e⟩
 | xd fs=>obtain ⟨mA,⟨od,es,ep,e,c⟩,r⟩:=x;exact ⟨mA,⟨od,es,ep,k _ _ (.inl rfl) e,c⟩,r⟩
 | G6 lo hi=>obtain ⟨t,u,v,e⟩:=x;exact ⟨t,u,v,k _ _ (.inl rfl) e⟩
 | az ob u ih=>obtain ⟨e,q⟩:=x;exact ⟨k _ _ (.inl rfl) e,ih q⟩
 | Bj ps=>
  have e:h.get? a=some {cls:=.none,data:=.fields ps}:=x
  show h'.get? a=some {cls:=.none,data:=.fields ps}
  exact k a _ (.inl rfl) e
 | met f y=>
  have e:h.get? a=some (PySem.W.methodObj (.ref f) (.ref y)):=x
  show h'.get? a=some (PySem.W.methodObj (.ref f) (.ref y))
  exact k a _ (.inl rfl) e
 | ext φ=>obtain ⟨p,⟨o,e⟩,st⟩:=x;exact ⟨st _ _ p fun o q=>k _ _ (.inl rfl) q,⟨o,k _ _ (.inl rfl) e⟩,st⟩
theorem fm.lt (x:fm P w H h) (e:H a=some o):a < h.objs.size:=(x a o e).lt
theorem fm.fresh (x:fm P w H h) (e:h.objs.size<=a):H a=none:=by
 cases q:H a with
 | none=>rfl
 | some u=>exact absurd (Nat.lt_of_lt_of_le (x.lt q) e) (Nat.lt_irrefl _)
theorem fm.kept (x:fm P w H h) (k:∀ b u,h.get? b=some u->h'.get? b=some u):fm P w H h':=fun a o e=>
 (x a o e).stay (fun b u _ q=>k b u q) (fun _ q=>q) fun _ _ q=>q
theorem fm.laid (x:fm P w H h) (k:∀ b u,h.get? b=some u->h'.get? b=some u) (hp:h.objs.size<=a) (new:cz P w (upd H a o) h' a o):fm P w (upd H a o) h':=fun b u e=>by
 have hn:=x.fresh hp
 by_cases hb:b=a
 ·subst hb;rw [aA] at e;cases e;exact new
 ·rw [aF hb] at e
  exact (x b u e).stay (fun c v _ q=>k c v q) (fun c q=>by rw [aF (aR q hn)];exact q) fun c xs q=>q.upd fun u hu=>aR hu hn
def Rd (H:Hp) (a:Addr) (u:HO):Prop:=H a=some u\/∃ o,H a=some (.az o u)
theorem Rd.ok {u:HO} (r:Rd H a u) (x:fm P w H h):cz P w H h a u:=by
 rcases r with r | ⟨o,r⟩
 ·exact x a u r
 ·obtain ⟨_,q⟩:=x a _ r
  exact q
def Dy:Option HO->Prop
 | some (.lst _)=>True
 | some (.dK _)=>True
 | some (.dT _)=>True
 | some (.set _ _)=>True
 | some (.ins _ _ _)=>True
 | some (.ext _)=>True
 | _=>False
section
variable {x e:Addr} {o':HO}
theorem fm.write (ok:fm P w H h) (mu:Dy (H x)) (he:e=x\/H e=some (.own x)) (k:∀ b u,b≠e->h.get? b=some u->h'.get? b=some u) (Co:∃ u,h'.get? e=some u)
  (new:cz P w (upd H x o') h' x o'):fm P w (upd H x o') h':=fun b u q=>by
 have Kx:∀ c y,H c=some (.own y)->c≠x:=fun c y r z=>by subst z;rw [r] at mu;exact mu
 have aal:∀ c xs,H c=some (.tup xs)->c≠x:=fun c xs r z=>by subst z;rw [r] at mu;exact mu
 by_cases hb:b=x
 ·subst hb;rw [aA] at q;cases q;exact new
 ·rw [aF hb] at q
  by_cases Bl:b=e
  ·have q':H b=some (.own x):=by
    rcases he with z | z
    ·exact absurd (Bl.trans z) hb
    ·rw [Bl];exact z
   rw [q] at q';cases q'
   obtain ⟨v,hv⟩:=Co
   exact ⟨v,by rw [Bl];exact hv⟩
  ·refine (ok b u q).stay (fun c v hc r=>k c v ?_ r) (fun c r=>by rw [aF (Kx c b r)];exact r) fun c xs r=>r.upd fun _ _ z=>by
    subst z
    rcases r with r | ⟨_,r⟩<;>(rw [r] at mu;exact mu)
   rcases hc with rfl | hc
   ·exact Bl
   ·rintro rfl
    rcases he with z | z
    ·exact Kx c b hc z
    ·rw [hc] at z;cases z;exact hb rfl
end
structure Un (fs ex:List Addr) (H H':Hp) (h h':Heap):Prop where
 keep:∀ b o,h.get? b=some o->H b=none->b ∉ fs->b ∉ ex->h'.get? b=some o
 slot:∀ b o,h.get? b=some o->H b=none->b∈fs->b ∉ ex->∃ sl,h'.get? b=some {o with slots:=sl}
 free:∀ b o,h.get? b=some o->H b=none->b ∉ ex->H' b=none
 there:∀ b o,h.get? b=some o->b ∉ ex->∃ o',h'.get? b=some o'
 tups:∀ b xs,H b=some (.tup xs)->H' b=some (.tup xs)
 ux:∀ b o u,H b=some (.az o u)->H' b=some (.az o u)
 we:∀ b ps,H b=some (.Bj ps)->∃ more,H' b=some (.Bj (ps++more))
section
variable {fs zd ex ex':List Addr} {H1 H2:Hp} {h1 h2:Heap} {x e:Addr}
theorem Un.any (u:Un fs ex H H1 h h1) {ob:Obj} (q:h.get? b=some ob) (n:H b=none) (hx:b ∉ ex):∃ sl,h1.get? b=some {ob with slots:=sl}:=by
 by_cases hb:b∈fs
 ·exact u.slot b ob q n hb hx
 ·exact ⟨ob.slots,u.keep b ob q n hb hx⟩
theorem Un.trans (a:Un fs ex H H1 h h1) (b:Un fs ex H1 H2 h1 h2):Un fs ex H H2 h h2 where
 keep:=fun c ob q n hc hx=>b.keep c ob (a.keep c ob q n hc hx) (a.free c ob q n hx) hc hx
 slot:=fun c ob q n hc hx=>by
  obtain ⟨sl,e1⟩:=a.slot c ob q n hc hx
  obtain ⟨G8,e2⟩:=b.slot c _ e1 (a.free c ob q n hx) hc hx
  exact ⟨G8,e2⟩
 free:=fun c ob q n hx=>by
  obtain ⟨o',e1⟩:=a.there c ob q hx
  exact b.free c o' e1 (a.free c ob q n hx) hx
 there:=fun c ob q hx=>by
  obtain ⟨o',e1⟩:=a.there c ob q hx
  exact b.there c o' e1 hx
 tups:=fun c xs q=>b.tups c xs (a.tups c xs q)
 ux:=fun c ob xs q=>b.ux c ob xs (a.ux c ob xs q)
 we:=fun c ps q=>by
  obtain ⟨m1,e1⟩:=a.we c ps q
  obtain ⟨m2,e2⟩:=b.we c _ e1
  exact ⟨m1++m2,by rw [e2,Array.append_assoc]⟩
theorem Un.kept (k:∀ b u,h.get? b=some u->h'.get? b=some u):Un fs ex H H h h':=
 ⟨fun b ob q _ _ _=>k b ob q,fun b ob q _ _ _=>⟨ob.slots,k b ob q⟩,fun _ _ _ n _=>n,fun b ob q _=>⟨ob,k b ob q⟩,fun _ _ q=>q,fun _ _ _ q=>q,fun _ ps q=>⟨#[],by rw [q];simp⟩⟩
theorem Un.refl:Un fs ex H H h h:=Un.kept fun _ _ q=>q
theorem Un.laid (k:∀ b u,h.get? b=some u->h'.get? b=some u) (hp:h.objs.size<=a) (hn:H a=none):Un fs ex H (upd H a o) h h' where
 keep:=fun b u q _ _ _=>k b u q
 slot:=fun b u q _ _ _=>⟨u.slots,k b u q⟩
 free:=fun b u q n _=>by rw [aF (Nat.ne_of_lt (Nat.lt_of_lt_of_le (Qz q) hp))];exact n
 there:=fun b u q _=>⟨u,k b u q⟩
 tups:=fun b xs q=>by rw [aF (aR q hn)];exact q
 ux:=fun b u xs q=>by rw [aF (aR q hn)];exact q
 we:=fun b ps q=>⟨#[],by rw [aF (aR q hn),q];simp⟩
theorem Un.write (mu:Dy (H x)) (he:e=x\/H e=some (.own x)) (k:∀ b u,b≠e->h.get? b=some u->h'.get? b=some u) (Co:∃ u,h'.get? e=some u):Un fs ex H (upd H x o) h h':=by
 have hx:∀ b,H b=none->b≠x:=fun b n z=>by subst z;rw [n] at mu;exact mu
 have hb:∀ b,H b=none->b≠e:=fun b n z=>by
  subst z
  rcases he with r | r
  ·exact hx b n r
  ·rw [n] at r;cases r
 have hm:∀ b u,H b=some u->¬Dy (some u)->b≠x:=fun b u q nm z=>by subst z;rw [q] at mu;exact nm mu
 refine ⟨fun b u q n _ _=>k b u (hb b n) q,fun b u q n _ _=>⟨u.slots,k b u (hb b n) q⟩,fun b u q n _=>by rw [aF (hx b n)];exact n,fun b u q _=>?_,
  fun b xs q=>by rw [aF (hm b _ q fun z=>z)];exact q,fun b u xs q=>by rw [aF (hm b _ q fun z=>z)];exact q,fun b ps q=>⟨#[],by rw [aF (hm b _ q fun z=>z),q];simp⟩⟩
 by_cases Bl:b=e
 ·subst Bl;exact Co
 ·exact ⟨u,k b u Bl q⟩
end
def nc (h:Heap) (H:Hp):List Addr:=(List.range h.objs.size).filter fun a=>(H a).isSome
def ze (h:Heap) (H:Hp):Heap:=PySem.W.hideAll h (nc h H)
theorem xW (h:Heap) (H:Hp):(ze h H).objs.size=h.objs.size:=PySem.W.hideAll_size _ _
theorem Qu {o:Obj} (e:h.get? b=some o) (n:H b=none):(ze h H).get? b=some o:=
 PySem.W.hideAll_get _ e fun hm=>by
  have q:(H b).isSome=true:=(List.mem_filter.mp hm).2
  rw [n] at q;simp at q
theorem QM {o:Obj} (e:(ze h H).get? b=some o):h.get? b=some o/\H b=none:=by
 have e':h.get? b=some o:=PySem.W.of_hideAll (nc h H) e
 refine ⟨e',?_⟩
 cases q:H b with
 | none=>rfl
 | some x=>
  have hm:b∈nc h H:=List.mem_filter.mpr ⟨List.mem_range.mpr (Qz e'),by simp [q]⟩
  have z:(ze h H).get? b=none:=PySem.W.hideAll_none (nc h H) hm
  rw [z] at e;cases e
structure Mod (K:Q0) (mg:Str->Option Value) (base:Heap):Prop where
 AE:K.In base
 glob:base.Ns mainGlobals mg
 blt:∃ mb,base.Ns builtinsNs mb/\∀ x:Str,x≠"__name__"->mb x=bootBuiltins x
 nolimit:base.NoLimit
structure Cx where
 prog:Program
 w:World
 K:Q0
 mg:Str->Option Value
 base:Heap
 A:Around
 N:List Str
 s₀:Shared
 H₀:Hp
 env:Env
 outer:List Env
 stack:List Env
 ex:List Addr
 fn:Str->Bool
 calm:Bool
 pn:List (Addr×Obj)
 xe:Value->Shared->Prop
end L2
variable {X:L2.Cx}
namespace L2
open PySem PySem.Spec PyProof.Rows
def ni (l:List Env):List Addr:=l.filterMap (·.frame)
abbrev Cx.fs (X:Cx):List Addr:=ni X.outer
def Cp (sc:Scope) (x:Str):Prop:=sc.names.lookup x=some .local\/sc.names.lookup x=some .cell\/sc.names.lookup x=some .free
def Loc (sc:Scope) (x:Str):Prop:=sc.names.lookup x=some .local\/sc.names.lookup x=some .cell
def Look (env:Env) (h:Heap) (m:Str->Option Value) (x:Str) (u:Value):Prop:=
 (env.kindOf x=some .local/\m x=some u)\/((env.kindOf x=some .cell\/env.kindOf x=some .free)/\∃ c,env.cells.lookup x=some c/\h.IsCell c (some u))
structure Cx.Ok (X:Cx):Prop where
 mod:Mod X.K X.mg X.base
 kind:X.env.scope.kind=.function
 glob:X.env.globals=mainGlobals
 blt:X.env.builtins=builtinsNs
 above:X.s₀.heap.objs.size<=X.env.locals
 inj:∀ x y c,X.env.cells.lookup x=some c->X.env.cells.lookup y=some c->x=y
 has:∀ x,(X.env.kindOf x=some .cell\/X.env.kindOf x=some .free)->∃ c,X.env.cells.lookup x=some c
 Dz:∀ x c,X.fn x=true->X.env.cells.lookup x=some c->X.s₀.heap.objs.size<=c
 hd:X.calm=true->X.A.handled=none
 frames:X.A.frames=some X.stack
 Fg:X.stack=X.outer\/(X.stack=X.env::X.outer/\X.env.frame=some X.env.locals)
 Ky:∀ b∈X.ex,b≠X.env.locals/\∀ x c,X.env.cells.lookup x=some c->c≠b
 bs:∀ b o,X.base.get? b=some o->X.s₀.heap.get? b=some o/\X.H₀ b=none
 zf:X.base.objs.size<=X.s₀.heap.objs.size
 DC:∀ b o,X.base.get? b=some o->b ∉ X.ex
 Fi:∀ b∈X.ex,b ∉ X.fs
 uy:X.s₀.heap.FunFrames X.base X.outer
 Bm:∀ b∈X.fs,X.H₀ b=none
structure Inv (X:Cx) (pins:List (Addr×Obj)) (σ:List (Option V)) (H:Hp) (s:Shared):Prop where
 ok:X.Ok
 os:s.os=X.s₀.os
 bare:AllBare s.gens
 base:Un X.fs X.ex X.H₀ H X.s₀.heap s.heap
 loc:∃ m,s.heap.Ns X.env.locals m/\∀ (i:Nat) (x:Str) (v:V),X.N[i]? =some x->σ[i]? =some (some v)->Cp X.env.scope x->∃ u,RelV v u/\Look X.env s.heap m x u
 cell:∀ x c,X.env.cells.lookup x=some c->∃ v,s.heap.IsCell c v
 free:H X.env.locals=none
 yf:∀ x c,X.env.cells.lookup x=some c->H c=none
 pin:∀ p∈X.pn++pins,s.heap.get? p.1=some p.2/\H p.1=none/\p.1≠X.env.locals/\p.1 ∉ X.fs/\∀ v,p.2.data≠.cell v
 hok:fm X.prog X.w H s.heap
 len:σ.length=X.N.length
section
variable {σ:List (Option V)}
theorem Cx.Ok.QN (ok:X.Ok) {o:Obj} (e:X.base.get? b=some o):b ∉ X.fs:=fun hb=>by
 have:=(ok.uy.mem hb).1
 rw [e] at this;cases this
theorem Inv.bs (I:Inv X pins σ H s):∀ b o,X.base.get? b=some o->s.heap.get? b=some o/\H b=none:=fun b o e=>
 ⟨I.base.keep b o (I.ok.bs b o e).1 (I.ok.bs b o e).2 (I.ok.QN e) (I.ok.DC b o e),I.base.free b o (I.ok.bs b o e).1 (I.ok.bs b o e).2 (I.ok.DC b o e)⟩
theorem Inv.bk (I:Inv X pins σ H s):∀ b o,X.base.get? b=some o->s.heap.get? b=some o:=fun b o e=>(I.bs b o e).1
theorem Inv.mod (I:Inv X pins σ H s):Mod X.K X.mg X.base:=I.ok.mod
theorem Inv.jb (I:Inv X pins σ H s):X.K.In s.heap:=I.ok.mod.AE.keeps I.bk
theorem Inv.lt (I:Inv X pins σ H s):X.env.locals < s.heap.objs.size:=let ⟨_,hn,_⟩:=I.loc;hn.lt
theorem Inv.sz (I:Inv X pins σ H s):X.s₀.heap.objs.size<=s.heap.objs.size:=Nat.le_trans I.ok.above (Nat.le_of_lt I.lt)
theorem Inv.QO (I:Inv X pins σ H s) (h:s.heap.objs.size<=a):a ∉ X.fs:=fun hb=>by
 obtain ⟨_,o,ho,_⟩:=I.ok.uy.mem hb
 exact absurd (Nat.lt_of_lt_of_le (Qz ho) (Nat.le_trans I.sz h)) (Nat.lt_irrefl _)
theorem Inv.Bo (I:Inv X pins σ H s):∀ x c,X.env.cells.lookup x=some c->c≠X.env.locals:=fun x c e z=>by
 obtain ⟨v,o,ho,hd⟩:=I.cell x c e
 obtain ⟨m,⟨o',es,ep,wg,zg,_⟩,_⟩:=I.loc
 rw [z,wg] at ho;cases ho;rw [zg] at hd;cases hd
theorem Inv.uy (I:Inv X pins σ H s):s.heap.FunFrames X.base X.outer:=by
 have all:∀ (l:List Env),(∀ b∈ni l,b∈X.fs)->X.s₀.heap.FunFrames X.base l->s.heap.FunFrames X.base l:=by
  intro l
  induction l with
  | nil=>intro _ _;trivial
  | cons env r ih=>
   intro hs hl
   obtain ⟨hk,⟨L,o,hf,hn,ho,hd⟩,hr⟩:=hl
   have hL:L∈X.fs:=hs L (by unfold ni;rw [List.filterMap_cons,hf];exact List.mem_cons_self)
   obtain ⟨sl,e⟩:=I.base.slot L o ho (I.ok.Bm L hL) hL fun z=>I.ok.Fi L z hL
   exact ⟨hk,⟨L,_,hf,hn,e,hd⟩,ih (fun b hb=>hs b (by unfold ni;rw [List.filterMap_cons,hf];exact Qh _ hb)) hr⟩
 exact all X.outer (fun _ hb=>hb) I.ok.uy
theorem Inv.stack (I:Inv X pins σ H s):s.heap.FunFrames X.base X.stack:=by
 rcases I.ok.Fg with e | ⟨e,hf⟩
 ·rw [e];exact I.uy
 ·rw [e]
  obtain ⟨m,hn,_⟩:=I.loc
  refine .cons (by rw [I.ok.kind];decide) hf hn ?_ I.uy
  exact Heap.get?_none_of_le (Nat.le_trans I.ok.zf I.ok.above)
theorem Inv.Bp (I:Inv X pins σ H s):∀ b∈ni X.stack,b∈X.env.locals::X.fs:=fun b hb=>by
 rcases I.ok.Fg with e | ⟨e,hf⟩
 ·rw [e] at hb;exact Qh _ hb
 ·rw [e] at hb
  unfold ni at hb
  rw [List.filterMap_cons,hf] at hb
  exact hb
theorem Inv.Kz (I:Inv X pins σ H s):∀ b∈ni X.stack,H b=none:=fun b hb=>by
 rcases Qp.mp (I.Bp b hb) with e | hb
 ·rw [e];exact I.free
 ·obtain ⟨_,o,ho,_⟩:=I.ok.uy.mem hb
  exact I.base.free b o ho (I.ok.Bm b hb) fun z=>I.ok.Fi b z hb
theorem Inv.step {g':Array GenState} {d':Drawn} (I:Inv X pins σ H s)
  (yg:∀ b∈ch,(b∈X.ex\/X.s₀.heap.objs.size<=b)/\b≠X.env.locals/\(∀ x c,X.env.cells.lookup x=some c->c≠b)/\∀ p∈X.pn++pins,p.1≠b)
  (keep:∀ b o,b≠X.env.locals->b ∉ X.fs->b ∉ ch->s.heap.get? b=some o->H b=none->h'.get? b=some o)
  (slot:∀ b o,b≠X.env.locals->b∈X.fs->b ∉ ch->s.heap.get? b=some o->H b=none->∃ sl,h'.get? b=some {o with slots:=sl}) (free:∀ b o,b ∉ ch->s.heap.get? b=some o->H b=none->H' b=none)
  (there:∀ b o,b ∉ ch->s.heap.get? b=some o->∃ o',h'.get? b=some o')
  (tups:∀ b xs,H b=some (.tup xs)->H' b=some (.tup xs)) (ux:∀ b o u,H b=some (.az o u)->H' b=some (.az o u)) (we:∀ b ps,H b=some (.Bj ps)->∃ more,H' b=some (.Bj (ps++more)))
  (ns:∀ m,s.heap.Ns X.env.locals m->h'.Ns X.env.locals m) (hok:fm X.prog X.w H' h') (hg:AllBare g'):
  Inv X pins σ H' {s with heap:=h',gens:=g',drawn:=d',toks:=t'}:=by
 have KA:∀ b o,X.s₀.heap.get? b=some o->b≠X.env.locals:=fun b o e=>Nat.ne_of_lt (Nat.lt_of_lt_of_le (Qz e) I.ok.above)
 have Fj:∀ b o,X.s₀.heap.get? b=some o->b ∉ X.ex->b ∉ ch:=fun b o e hx hb=>by
  rcases (yg b hb).1 with z | z
  ·exact hx z
  ·exact absurd (Nat.lt_of_lt_of_le (Qz e) z) (Nat.lt_irrefl _)
 have cellK:∀ x c,X.env.cells.lookup x=some c->∀ v,s.heap.IsCell c v->h'.IsCell c v:=fun x c e v ⟨o,ho,hd⟩=>by
  have wj:c ∉ ch:=fun z=>(yg c z).2.2.1 x c e rfl
  by_cases hc:c∈X.fs
  ·obtain ⟨sl,q⟩:=slot c o (I.Bo x c e) hc wj ho (I.yf x c e)
   exact ⟨_,q,hd⟩
  ·exact ⟨o,keep c o (I.Bo x c e) hc wj ho (I.yf x c e),hd⟩
 refine ⟨I.ok,I.os,hg,⟨fun b o e n hb hx=>?_,fun b o e n hb hx=>?_,fun b o e n hx=>?_,fun b o e hx=>?_,fun b xs e=>tups b xs (I.base.tups b xs e),fun b o xs e=>ux b o xs (I.base.ux b o xs e),fun b ps e=>?_⟩,?_,fun x c e=>?_,?_,fun x c e=>?_,fun p hp=>?_,hok,I.len⟩
 ·exact keep b o (KA b o e) hb (Fj b o e hx) (I.base.keep b o e n hb hx) (I.base.free b o e n hx)
 ·obtain ⟨sl,e1⟩:=I.base.slot b o e n hb hx
  obtain ⟨G8,e2⟩:=slot b _ (KA b o e) hb (Fj b o e hx) e1 (I.base.free b o e n hx)
  exact ⟨G8,e2⟩
 ·obtain ⟨o',e1⟩:=I.base.there b o e hx
  exact free b o' (Fj b o e hx) e1 (I.base.free b o e n hx)
 ·obtain ⟨o',e1⟩:=I.base.there b o e hx
  exact there b o' (Fj b o e hx) e1
 ·obtain ⟨m1,e1⟩:=I.base.we b ps e
  obtain ⟨m2,e2⟩:=we b _ e1
  exact ⟨m1++m2,by rw [e2,Array.append_assoc]⟩
 ·obtain ⟨m,hn,hl⟩:=I.loc
  refine ⟨m,ns m hn,fun i x v e1 e2 e3=>?_⟩
  obtain ⟨u,r,l⟩:=hl i x v e1 e2 e3
  refine ⟨u,r,?_⟩
  rcases l with l | ⟨k,c,e,z⟩
  ·exact .inl l
  ·exact .inr ⟨k,c,e,cellK x c e _ z⟩
 ·obtain ⟨v,z⟩:=I.cell x c e
  exact ⟨v,cellK x c e v z⟩
 ·obtain ⟨m,⟨o,_,_,ho,_⟩,_⟩:=I.loc
  exact free _ o (fun z=>(yg _ z).2.1 rfl) ho I.free
 ·obtain ⟨v,o,ho,hd⟩:=I.cell x c e
  exact free c o (fun z=>(yg c z).2.2.1 x c e rfl) ho (I.yf x c e)
 ·obtain ⟨e,n,ne,nf,d⟩:=I.pin p hp
  have wj:p.1 ∉ ch:=fun z=>(yg p.1 z).2.2.2 p hp rfl
  exact ⟨keep p.1 p.2 ne nf wj e n,free p.1 p.2 wj e n,ne,nf,d⟩
theorem Inv.un (I:Inv X pins σ H s) (u:Un X.fs [] H H' s.heap h') (hok:fm X.prog X.w H' h'):Inv X pins σ H' {s with heap:=h',toks:=t'}:=by
 obtain ⟨m,⟨o,es,ep,ho,r⟩,_⟩:=id I.loc
 obtain ⟨sl,hL⟩:=u.any ho I.free (by simp)
 exact I.step (g':=s.gens) (d':=s.drawn) (ch:=[]) (fun _ z=>nomatch z) (fun b o _ hb _ e n=>u.keep b o e n hb (by simp)) (fun b o _ hb _ e n=>u.slot b o e n hb (by simp)) (fun b o _ e n=>u.free b o e n (by simp)) (fun b o _ e=>u.there b o e (by simp)) u.tups u.ux u.we (fun m' hm=>by
  obtain ⟨o',es',AF,wg,r'⟩:=hm
  rw [ho] at wg;cases wg
  exact ⟨_,es',AF,hL,r'⟩) hok I.bare
theorem Inv.call {g':Array GenState} {d':Drawn} (I:Inv X pins σ H s) (u:Un (ni X.stack) ch H H' s.heap h') (hok:fm X.prog X.w H' h') (hg:AllBare g')
  (yg:∀ b∈ch,(b∈X.ex\/X.s₀.heap.objs.size<=b)/\b≠X.env.locals/\(∀ x c,X.env.cells.lookup x=some c->c≠b)/\∀ p∈X.pn++pins,p.1≠b):
  Inv X pins σ H' {s with heap:=h',gens:=g',drawn:=d',toks:=t'}:=by
 obtain ⟨m,⟨o,es,ep,ho,r⟩,_⟩:=id I.loc
 obtain ⟨sl,hL⟩:=u.any ho I.free fun z=>(yg _ z).2.1 rfl
 exact I.step (ch:=ch) yg (fun b o hL hb hc e n=>u.keep b o e n (fun z=>(Qp.mp (I.Bp b z)).elim hL hb) hc) (fun b o _ _ hc e n=>u.any e n hc) (fun b o hc e n=>u.free b o e n hc) (fun b o hc e=>u.there b o e hc) u.tups u.ux u.we (fun m' hm=>by
  obtain ⟨o',es',AF,wg,r'⟩:=hm
  rw [ho] at wg;cases wg
  exact ⟨_,es',AF,hL,r'⟩) hok hg
theorem Inv.turned {it:Addr} (I:Inv X pins σ H s) (k:∀ b o,b≠it->s.heap.get? b=some o->h'.get? b=some o) (hn:H it=none) (hL:it≠X.env.locals)
  (h1:it∈X.ex\/X.s₀.heap.objs.size<=it) (h2:∀ x c,X.env.cells.lookup x=some c->c≠it) (h3:∀ p∈X.pn++pins,p.1≠it):Inv X pins σ H {s with heap:=h',toks:=t'}:=by
 have KC:∀ b u,H b=some u->b≠it:=fun b u e z=>by rw [z,hn] at e;cases e
 refine I.step (g':=s.gens) (d':=s.drawn) (ch:=[it]) (fun b hb=>?_) (fun b o _ _ hc e _=>k b o (fun z=>hc (by simp [z])) e) (fun b o _ _ hc e _=>⟨o.slots,k b o (fun z=>hc (by simp [z])) e⟩) (fun _ _ _ _ n=>n)
  (fun b o hc e=>⟨o,k b o (fun z=>hc (by simp [z])) e⟩) (fun _ _ e=>e) (fun _ _ _ e=>e) (fun b ps e=>⟨#[],by rw [e];simp⟩) (fun m hm=>?_) (fun b u e=>?_) I.bare
 ·have e:b=it:=by simpa using hb
  subst e
  exact ⟨h1,hL,h2,h3⟩
 ·obtain ⟨o,es,ep,ho,r⟩:=hm
  exact ⟨o,es,ep,k _ o (Ne.symm hL) ho,r⟩
 ·refine (I.hok b u e).stay (fun c v hc q=>k c v ?_ q) (fun _ q=>q) fun _ _ q=>q
  rcases hc with z | z
  ·rw [z];exact KC b u e
  ·exact KC c _ z
theorem Inv.tok (I:Inv X pins σ H s) (t:Nat):Inv X pins σ H {s with toks:=t}:=I.un (h':=s.heap) (t':=t) Un.refl I.hok
theorem Inv.kept {t':Nat} (I:Inv X pins σ H s) (k:∀ b u,s.heap.get? b=some u->h'.get? b=some u):Inv X pins σ H {s with heap:=h',toks:=t'}:=I.un (Un.kept k) (I.hok.kept k)
theorem Inv.laid {a:Addr} {o:HO} {t':Nat} (I:Inv X pins σ H s) (k:∀ b u,s.heap.get? b=some u->h'.get? b=some u) (hp:s.heap.objs.size<=a) (new:cz X.prog X.w (upd H a o) h' a o):
  Inv X pins σ (upd H a o) {s with heap:=h',toks:=t'}:=I.un (Un.laid k hp (I.hok.fresh hp)) (I.hok.laid k hp new)
theorem Inv.write {x e:Addr} {o:HO} {t':Nat} (I:Inv X pins σ H s) (mu:Dy (H x)) (he:e=x\/H e=some (.own x)) (k:∀ b u,b≠e->s.heap.get? b=some u->h'.get? b=some u) (Co:∃ u,h'.get? e=some u)
  (new:cz X.prog X.w (upd H x o) h' x o):Inv X pins σ (upd H x o) {s with heap:=h',toks:=t'}:=I.un (Un.write mu he k Co) (I.hok.write mu he k Co new)
theorem Inv.KG {KH:List (Addr×Obj)} (I:Inv X pins σ H s) (h:∀ p∈KH,s.heap.get? p.1=some p.2/\H p.1=none/\p.1≠X.env.locals/\p.1 ∉ X.fs/\∀ v,p.2.data≠.cell v):Inv X KH σ H s:=
 ⟨I.ok,I.os,I.bare,I.base,I.loc,I.cell,I.free,I.yf,fun p hp=>(List.mem_append.mp hp).elim (fun z=>I.pin p (List.mem_append_left _ z)) (h p),I.hok,I.len⟩
theorem sB {N:List Str} (hN:N.Nodup) (a:N[i]? =some x) (b:N[j]? =some x):i=j:=by
 obtain ⟨h1,e1⟩:=List.getElem?_eq_some_iff.mp a
 obtain ⟨h2,e2⟩:=List.getElem?_eq_some_iff.mp b
 exact (List.getElem_inj hN).mp (e1.trans e2.symm)
theorem oC {M:Model} {v:V} {Q:Unit->Shared->Prop} (I:Inv X pins σ H s) (hN:X.N.Nodup) (hi:X.N[i]? =some x) (hx:Loc X.env.scope x) (r:RelV v u)
  (h:∀ s',Inv X pins (σ.set i (some v)) H s'->(∃ a,Heap.SameBut a s.heap s'.heap/\(a=X.env.locals\/X.env.cells.lookup x=some a))->Q () s') (hf:X.fn x=true\/X.env.scope.names.lookup x=some .local:=by first | exact .inl rfl | exact .inr rfl | assumption):wpAny M A (storeName X.env x u) Q E s:=by
 obtain ⟨m,hn,hl⟩:=id I.loc
 have QV:(X.env.scope.kind==.class||(X.env.scope.kind==.module&&X.env.locals !=X.env.globals))=false:=by rw [I.ok.kind];rfl
 have KI:i < σ.length:=by rw [I.len];exact (List.getElem?_eq_some_iff.mp hi).1
 have Bo:=I.Bo
 have tracked:∀ {a:Addr} {h':Heap},(∃ o,s.heap.get? a=some o/\H a=none)->Heap.SameBut a s.heap h'->fm X.prog X.w H h':=fun {a h'} ha hs b ob e=>by
  obtain ⟨_,_,KJ⟩:=ha
  refine (I.hok b ob e).stay (fun c w' hc q=>(hs.2 c ?_).trans q) (fun _ q=>q) fun _ _ q=>q
  rintro rfl
  rcases hc with rfl | hc
  ·rw [KJ] at e;cases e
  ·rw [KJ] at hc;cases hc
 rcases hx with hk | hk
 ·refine wpAny_storeName_local hk hn (fun h' wk hs=>?_) QV
  obtain ⟨oL,_,_,Fk,_⟩:=id hn
  refine h _ ⟨I.ok,I.os,I.bare,⟨fun b o e n hb hx=>?_,fun b o e n hb hx=>?_,I.base.free,fun b o e hx=>?_,I.base.tups,I.base.ux,I.base.we⟩,⟨_,wk,fun j y v' e1 e2 e3=>?_⟩,fun y c e=>?_,I.free,I.yf,fun p hp=>?_,tracked ⟨oL,Fk,I.free⟩ hs,by simpa using I.len⟩ ⟨_,hs,.inl rfl⟩
  ·exact (hs.2 b (Nat.ne_of_lt (Nat.lt_of_lt_of_le (Qz e) I.ok.above))).trans (I.base.keep b o e n hb hx)
  ·obtain ⟨sl,e1⟩:=I.base.slot b o e n hb hx
   exact ⟨sl,(hs.2 b (Nat.ne_of_lt (Nat.lt_of_lt_of_le (Qz e) I.ok.above))).trans e1⟩
  ·obtain ⟨o',e1⟩:=I.base.there b o e hx
   exact ⟨o',(hs.2 b (Nat.ne_of_lt (Nat.lt_of_lt_of_le (Qz e) I.ok.above))).trans e1⟩
  ·by_cases hj:j=i
   ·subst hj
    rw [hi] at e1;cases e1
    rw [List.getElem?_set_self KI] at e2
    cases e2
    exact ⟨u,r,.inl ⟨hk,by simp⟩⟩
   ·rw [List.getElem?_set_ne (Ne.symm hj)] at e2
    obtain ⟨u',r',q⟩:=hl j y v' e1 e2 e3
    refine ⟨u',r',?_⟩
    rcases q with ⟨k,e⟩ | ⟨k,c,e,z⟩
    ·refine .inl ⟨k,?_⟩
     have:y≠x:=fun e=>hj (sB hN e1 (e▸hi))
     simp [this,e]
    ·exact .inr ⟨k,c,e,z.sameBut hs (Bo y c e)⟩
  ·obtain ⟨w',z⟩:=I.cell y c e
   exact ⟨w',z.sameBut hs (Bo y c e)⟩
  ·obtain ⟨e,n,ne,nf,d⟩:=I.pin p hp
   exact ⟨(hs.2 p.1 ne).trans e,n,ne,nf,d⟩
 ·have G9:X.fn x=true:=by
   rcases hf with z | z
   ·exact z
   ·rw [z] at hk;cases hk
  obtain ⟨c,hc⟩:=I.ok.has x (.inl hk)
  obtain ⟨w',z⟩:=I.cell x c hc
  refine wpAny_storeName_cell I.ok.kind hk hc z (fun h' jj hs=>?_)
  obtain ⟨oc,KL,QW⟩:=id z
  refine h {s with heap:=h'} ⟨I.ok,I.os,I.bare,⟨fun b o e n hb hx=>?_,fun b o e n hb hx=>?_,I.base.free,fun b o e hx=>?_,I.base.tups,I.base.ux,I.base.we⟩,⟨m,hn.sameBut hs (Ne.symm (Bo x c hc)),fun j y v' e1 e2 e3=>?_⟩,fun y c' e=>?_,I.free,I.yf,fun p hp=>?_,tracked ⟨oc,KL,I.yf x c hc⟩ hs,by simpa using I.len⟩ ⟨c,hs,.inr hc⟩
  ·exact (hs.2 b (Nat.ne_of_lt (Nat.lt_of_lt_of_le (Qz e) (I.ok.Dz x c G9 hc)))).trans (I.base.keep b o e n hb hx)
  ·obtain ⟨sl,e1⟩:=I.base.slot b o e n hb hx
   exact ⟨sl,(hs.2 b (Nat.ne_of_lt (Nat.lt_of_lt_of_le (Qz e) (I.ok.Dz x c G9 hc)))).trans e1⟩
  ·obtain ⟨o',e1⟩:=I.base.there b o e hx
   exact ⟨o',(hs.2 b (Nat.ne_of_lt (Nat.lt_of_lt_of_le (Qz e) (I.ok.Dz x c G9 hc)))).trans e1⟩
  ·by_cases hj:j=i
   ·subst hj
    rw [hi] at e1;cases e1
    rw [List.getElem?_set_self KI] at e2
    cases e2
    exact ⟨u,r,.inr ⟨.inl hk,c,hc,jj⟩⟩
   ·rw [List.getElem?_set_ne (Ne.symm hj)] at e2
    obtain ⟨u',r',q⟩:=hl j y v' e1 e2 e3
    refine ⟨u',r',?_⟩
    rcases q with q | ⟨k,c',e,z'⟩
    ·exact .inl q
    ·refine .inr ⟨k,c',e,z'.sameBut hs ?_⟩
     rintro rfl
     exact hj (sB hN e1 (I.ok.inj _ _ _ e hc▸hi))
  ·by_cases t_:c'=c
   ·subst t_;exact ⟨_,jj⟩
   ·obtain ⟨w2,z2⟩:=I.cell y c' e
    exact ⟨w2,z2.sameBut hs t_⟩
  ·obtain ⟨e,n,ne,nf,d⟩:=I.pin p hp
   refine ⟨(hs.2 p.1 ?_).trans e,n,ne,nf,d⟩
   intro q
   rw [q,KL] at e
   have q':oc=p.2:=QD e
   exact d w' (by rw [<- q'];exact QW)
theorem i5 {M:Model} {v:V} {Q:Unit->Shared->Prop} (I:Inv X pins σ H s) (hN:X.N.Nodup) (hi:X.N[i]? =some x) (hx:Loc X.env.scope x) (r:RelV v u)
  (h:∀ s',Inv X pins (σ.set i (some v)) H s'->Q () s') (hf:X.fn x=true\/X.env.scope.names.lookup x=some .local:=by first | exact .inl rfl | exact .inr rfl | assumption):wpAny M A (storeName X.env x u) Q E s:=
 oC I hN hi hx r (fun s' I' _=>h s' I') hf
theorem Inv.QX {s':Shared} (I:Inv X pins σ H s) (ho:s'.os=s.os) (u:Un (ni X.stack) ch H H' s.heap s'.heap) (hok:fm X.prog X.w H' s'.heap) (hg:AllBare s'.gens)
  (yg:∀ b∈ch,(b∈X.ex\/X.s₀.heap.objs.size<=b)/\b≠X.env.locals/\(∀ x c,X.env.cells.lookup x=some c->c≠b)/\∀ p∈X.pn++pins,p.1≠b):Inv X pins σ H' s':=by
 obtain ⟨h',g',d',t',o'⟩:=s'
 have e:o'=s.os:=ho
 subst e
 exact I.call (g':=g') (t':=t') (d':=d') u hok hg yg
end
abbrev XK:=Value->Option Addr->Hp->Prop
abbrev St:=List (Option V)
end L2
variable {σ:L2.St}
namespace L2
open PySem PySem.Spec PyProof.Rows
abbrev VK:=V->Hp->Prop
abbrev TE:=St->Hp->VK->Prop
end L2
variable {te to:L2.TE}
namespace L2
open PySem PySem.Spec PyProof.Rows
abbrev TT:=St->Hp->(Bool->Hp->Prop)->Prop
abbrev TA:=St->Hp->(List V->Hp->Prop)->Prop
structure Ends where
 nx:St->Hp->Prop
 rt:VK
 bk:St->Hp->Prop:=fun _ _=>False
 ct:St->Hp->Prop:=fun _ _=>False
abbrev TS:=Ends->St->Hp->Prop
def EP (X:Cx) (pins:List (Addr×Obj)) (σ:St) (Q:VK) (u:Value) (s':Shared):Prop:=∃ v H',Inv X pins σ H' s'/\RelV v u/\Q v H'
def TP (X:Cx) (pins:List (Addr×Obj)) (σ:St) (Q:Bool->Hp->Prop) (b:Bool) (s':Shared):Prop:=∃ H',Inv X pins σ H' s'/\Q b H'
def AP (X:Cx) (pins:List (Addr×Obj)) (σ:St) (Q:List V->Hp->Prop) (us:List Value) (s':Shared):Prop:=∃ vs H',Inv X pins σ H' s'/\bg vs us/\Q vs H'
def SP (X:Cx) (pins:List (Addr×Obj)) (D:Ends) (f:Flow) (s':Shared):Prop:=
 match f with
 | .next=>∃ σ' H',Inv X pins σ' H' s'/\D.nx σ' H'
 | .brk=>∃ σ' H',Inv X pins σ' H' s'/\D.bk σ' H'
 | .cont=>∃ σ' H',Inv X pins σ' H' s'/\D.ct σ' H'
 | .ret u=>∃ v σ' H',Inv X pins σ' H' s'/\RelV v u/\D.rt v H'
def PE (X:Cx) (e:Expr) (t:TE):Prop:=
 ∀ (pins:List (Addr×Obj)) (s:Shared) (σ:St) (H:Hp) (Q:VK),Inv X pins σ H s->t σ H Q->wpAny (model X.prog X.w) X.A (eval e X.env) (EP X pins σ Q) X.xe s
def PT (X:Cx) (e:Expr) (t:TT):Prop:=
 ∀ (pins:List (Addr×Obj)) (s:Shared) (σ:St) (H:Hp) (Q:Bool->Hp->Prop),Inv X pins σ H s->t σ H Q->wpAny (model X.prog X.w) X.A (isTrue e X.env (eval e X.env)) (TP X pins σ Q) X.xe s
def PW (X:Cx) (e:Expr) (t:TT):Prop:=
 ∀ (whole:Sem Value) (pins:List (Addr×Obj)) (s:Shared) (σ:St) (H:Hp) (Q:Bool->Hp->Prop),Inv X pins σ H s->t σ H Q->wpAny (model X.prog X.w) X.A (isTrue e X.env whole) (TP X pins σ Q) X.xe s
theorem PW.pt {t:TT} (h:PW X e t):PT X e t:=h _
def PA (X:Cx) (es:List Expr) (t:TA):Prop:=
 ∀ (pos:Pos) (pins:List (Addr×Obj)) (s:Shared) (σ:St) (H:Hp) (Q:List V->Hp->Prop),Inv X pins σ H s->t σ H Q->wpAny (model X.prog X.w) X.A (spliced (backTo pos (starEach es X.env))) (AP X pins σ Q) X.xe s
def PS (X:Cx) (st:Stmt) (t:TS):Prop:=
 ∀ (pins:List (Addr×Obj)) (s:Shared) (σ:St) (H:Hp) (D:Ends),Inv X pins σ H s->t D σ H->wpAny (model X.prog X.w) X.A (exec st X.env) (SP X pins D) X.xe s
def qe (X:Cx) (st:List Stmt) (t:TS):Prop:=
 ∀ (pins:List (Addr×Obj)) (s:Shared) (σ:St) (H:Hp) (D:Ends),Inv X pins σ H s->t D σ H->wpAny (model X.prog X.w) X.A (execs st X.env) (SP X pins D) X.xe s
theorem av {t:Sem α} {Q Q':α->Shared->Prop} {M:Model} (h:wpAny M A t Q E s) (hQ:∀ a s,Q a s->Q' a s):wpAny M A t Q' E s:=wpAny_mono h hQ fun _ _ x=>x
section
def QY (i:Nat):TE:=fun σ H Q=>∃ v,σ[i]? =some (some v)/\Q v H
def tC (v:V):TE:=fun _ H Q=>Q v H
theorem QZ {pos:Pos} (hN:X.N[i]? =some x) (hv:Cp X.env.scope x) (hd:(x==("__debug__":Str))=false:=by decide) (qf:(x==("__classdict__":Str))=false:=by decide):PE X (.Name x pos) (QY i):=by
 intro pins s σ H Q I h
 obtain ⟨v,e,h⟩:=h
 obtain ⟨m,hn,hl⟩:=I.loc
 obtain ⟨u,r,l⟩:=hl i x v hN e hv
 have fin:EP X pins σ Q u s:=⟨v,H,I,r,h⟩
 rcases l with ⟨hk,hm⟩ | ⟨hk,c,hc,Fl⟩
 ·exact wpAny_Name (wpAny_loadName_local I.ok.kind hk hn hm fin) hd
 ·rcases hk with hk | hk
  ·exact wpAny_Name (wpAny_loadName_cell I.ok.kind hk hc Fl fin) hd
  ·exact wpAny_Name (wpAny_loadName_free I.ok.kind hk hc Fl fin qf) hd
theorem Q2 {i j pos}:PE X (.Constant (.int i) j pos) (tC (.int i)):=fun _ _ _ H _ I h=>wpAny_Constant_int ⟨.int i,H,I.tok _,⟨_,rfl⟩,h⟩
theorem Q3 {b j pos}:PE X (.Constant (.bool b) j pos) (tC (.bl b)):=fun _ _ _ H _ I h=>Constant_bool ⟨.bl b,H,I,rfl,h⟩
theorem Q4 {j pos}:PE X (.Constant .none j pos) (tC .ai):=fun _ _ _ H _ I h=>Constant_none ⟨.ai,H,I,rfl,h⟩
theorem Q5 {x j pos}:PE X (.Constant (.str x) j pos) (tC (.str x)):=fun _ _ _ H _ I h=>Calls.Constant_str ⟨.str x,H,I.tok _,⟨_,rfl⟩,h⟩
def Gl (X:Cx) (x:Str):Prop:=X.env.kindOf x=some .globalImplicit
theorem pM {pos:Pos} (I:Inv X pins σ H s) (hg:Gl X x) (hm:X.mg x=some u) (h:Q u s)
  (hd:(x==("__debug__":Str))=false:=by decide):wpAny (model X.prog X.w) X.A (eval (.Name x pos) X.env) Q E s:=
 Calls.Name_function_global I.ok.kind hg (Calls.loadGlobal_global (by rw [I.ok.glob];exact I.mod.glob.keeps I.bk) hm h) hd
theorem lZ {pos:Pos} (I:Inv X pins σ H s) (hg:Gl X x) (hm:X.mg x=none) (hv:bootBuiltins x=some u) (h:Q u s)
  (hn:x≠"__name__":=by decide) (hd:(x==("__debug__":Str))=false:=by decide):wpAny (model X.prog X.w) X.A (eval (.Name x pos) X.env) Q E s:=by
 obtain ⟨mb,h1,h2⟩:=I.mod.blt
 exact Calls.Name_function_global I.ok.kind hg (Calls.loadGlobal_builtin (by rw [I.ok.glob];exact I.mod.glob.keeps I.bk) hm (by rw [I.ok.blt];exact h1.keeps I.bk) ((h2 x hn).trans hv) h) hd
theorem lN {v:V} {pos:Pos} (hg:Gl X x) (hm:X.mg x=some u) (r:RelV v u) (hd:(x==("__debug__":Str))=false:=by decide):PE X (.Name x pos) (tC v):=
 fun _ _ _ H _ I h=>pM I hg hm ⟨v,H,I,r,h⟩ hd
theorem Q6 {v:V} {pos:Pos} (hg:Gl X x) (hm:X.mg x=none) (hv:bootBuiltins x=some u) (r:RelV v u) (hn:x≠"__name__":=by decide) (hd:(x==("__debug__":Str))=false:=by decide):PE X (.Name x pos) (tC v):=
 fun _ _ _ H _ I h=>lZ I hg hm hv ⟨v,H,I,r,h⟩ hn hd
variable {a b:Expr} {ta tb:TE} {pos:Pos}
def PC (X:Cx) (op:CmpOp) (a b:Expr) (t:TE):Prop:=
 ∀ (pins:List (Addr×Obj)) (s:Shared) (σ:St) (H:Hp) (Q:VK),Inv X pins σ H s->t σ H Q->
  wpAny (model X.prog X.w) X.A (eval a X.env) (fun v s₁=>wpAny (model X.prog X.w) X.A (eval b X.env) (fun u s₂=>wpAny (model X.prog X.w) X.A (compareOp op v u) (EP X pins σ Q) X.xe s₂) X.xe s₁) X.xe s
def tB (t:TE):TT:=fun σ H Q=>t σ H fun x H1=>∃ c,x=.bl c/\Q c H1
theorem Q7 {t:TE} (h:PC X op a b t) (h1:behindInMarks op b=false:=by first | exact aan _ (by decide) (by decide) | rfl):PT X (.Compare a [op] [b] pos) (tB t):=by
 intro pins s σ H Q I hw
 refine wpAny_isTrue_Compare1 (av (h pins s σ H _ I hw) fun v s1 h1=>av h1 fun u s2 h2=>av h2 fun c s3 ⟨x,H1,I1,r1,q1⟩=>?_) h1
 obtain ⟨d,rfl,q⟩:=q1
 cases r1
 exact wpAny_truthy_bool ⟨H1,I1,q⟩
theorem Q8 {t:TE} (h:PE X e t) (he:∀ whole,isTrue e X.env whole=(do let v <- whole;standAt e.pos;holding [v] (truthy v)):=by intro _;rfl):PT X e (tB t):=by
 intro pins s σ H Q I hw
 refine isTrue_plain (av (h pins s σ H _ I hw) fun v s1 ⟨x,H1,I1,r1,q1⟩=>?_) (he _)
 obtain ⟨d,rfl,q⟩:=q1
 cases r1
 exact wpAny_truthy_bool ⟨H1,I1,q⟩
variable {tA yh:TT} {rest:List Expr}
def KN (t u:TT):TT:=fun σ H Q=>t σ H fun c H1=>if c=true then u σ H1 Q else Q false H1
def KO (t u:TT):TT:=fun σ H Q=>t σ H fun c H1=>if c=true then Q true H1 else u σ H1 Q
def KP (t:TT):TT:=fun σ H Q=>t σ H fun c H1=>Q (!c) H1
theorem Q9 (ha:PT X a tA):PW X (.BoolOp .And [a] pos) tA:=by
 intro wh pins s σ H Q I h
 refine isTrue_and (av (ha pins s σ H Q I h) fun c s1 e=>?_)
 cases c with
 | true=>exact isTrue_and_nil e
 | false=>exact e
theorem Q_ (ha:PT X a tA):PW X (.BoolOp .Or [a] pos) tA:=by
 intro wh pins s σ H Q I h
 refine isTrue_or (av (ha pins s σ H Q I h) fun c s1 e=>?_)
 cases c with
 | false=>exact isTrue_or_nil e
 | true=>exact e
theorem Ra (ha:PT X a tA) (hb:PW X (.BoolOp .And (b::rest) pos) yh):PW X (.BoolOp .And (a::b::rest) pos) (KN tA yh):=by
 intro wh pins s σ H Q I h
 refine isTrue_and (av (ha pins s σ H _ I h) ?_)
 rintro c s1 ⟨H1,I1,q1⟩
 cases c with
 | true=>exact hb wh pins s1 σ H1 Q I1 q1
 | false=>exact ⟨H1,I1,q1⟩
theorem Rb (ha:PT X a tA) (hb:PW X (.BoolOp .Or (b::rest) pos) yh):PW X (.BoolOp .Or (a::b::rest) pos) (KO tA yh):=by
 intro wh pins s σ H Q I h
 refine isTrue_or (av (ha pins s σ H _ I h) ?_)
 rintro c s1 ⟨H1,I1,q1⟩
 cases c with
 | true=>exact ⟨H1,I1,q1⟩
 | false=>exact hb wh pins s1 σ H1 Q I1 q1
theorem Rc (ha:PT X a tA):PT X (.UnaryOp .Not a pos) (KP tA):=by
 intro pins s σ H Q I h
 exact isTrue_not (ha pins s σ H (fun c H1=>Q (!c) H1) I h)
def KQ (t:TT) (ta tb:TE):TE:=fun σ H Q=>t σ H fun c H1=>if c=true then ta σ H1 Q else tb σ H1 Q
theorem Rf {c:Expr} (hc:PT X c tA) (ha:PE X a ta) (hb:PE X b tb):PE X (.IfExp c a b pos) (KQ tA ta tb):=by
 intro pins s σ H Q I h
 refine wpAny_IfExp (av (hc pins s σ H _ I h) ?_)
 rintro d s1 ⟨H1,I1,q1⟩
 cases d with
 | true=>exact ha pins s1 σ H1 Q I1 q1
 | false=>exact hb pins s1 σ H1 Q I1 q1
end
def aj (K:Q0) (H:Hp) (a:Addr) (xs:List V):Prop:=
 Rd H a (.lst xs)\/
  ∃ (o:Obj) (its:Array Value) (n:Nat),K.lookup a=some o/\o.cls=.type "list"/\o.dict=none/\o.data=.seq its n/\its.size<=sizeLine/\bg xs its.toList
def af (K:Q0) (H:Hp) (a:Addr) (xs:List V):Prop:=
 Rd H a (.tup xs)\/
  ∃ (o:Obj) (its:Array Value) (n:Nat),K.lookup a=some o/\o.cls=.type "tuple"/\o.data=.seq its n/\its.size<=sizeLine/\bg xs its.toList
def zh:Value->Option V
 | .none=>some .ai
 | .bool b=>some (.bl b)
 | .int i _=>some (.int i)
 | .str x _=>some (.str x)
 | .bytes b _=>some (.rm b)
 | .float b _=>some (.Bh b)
 | .ref a=>some (.ref a)
 | .type n=>some (.ty n)
 | _=>none
theorem RelV.abs {x:V} (r:RelV x u):zh u=some x:=by
 cases x with
 | ai=>cases r;rfl
 | bl _=>cases r;rfl
 | int _=>obtain ⟨t,rfl⟩:=r;rfl
 | str _=>obtain ⟨t,rfl⟩:=r;rfl
 | rm _=>obtain ⟨t,rfl⟩:=r;rfl
 | Bh _=>obtain ⟨t,rfl⟩:=r;rfl
 | ref _=>cases r;rfl
 | ty _=>cases r;rfl
theorem RelV.inj {x y:V} (r:RelV x u) (q:RelV y u):x=y:=QD (r.abs.symm.trans q.abs)
theorem bg.inj:∀ {xs ys:List V} {us:List Value},bg xs us->bg ys us->xs=ys
 | _,_,_,.nil,.nil=>rfl
 | _,_,_,.cons r t,.cons r' t'=>by rw [r.inj r',bg.inj t t']
section
variable {xs ys:List V}
theorem aj.of {K:Q0} (h:H a=some (.lst xs)):aj K H a xs:=.inl (.inl h)
theorem af.of {K:Q0} (h:H a=some (.tup xs)):af K H a xs:=.inl (.inl h)
theorem Inv.list (I:Inv X pins σ H s) (h:aj X.K H a xs):∃ its:List Value,bg xs its/\PlainL s.heap a its.toArray/\xs.length<=sizeLine:=by
 rcases h with h | ⟨o,its,n,hk,hc,hd,hs,hz,r⟩
 ·obtain ⟨z,its,n,r,e⟩:=h.ok I.hok
  exact ⟨its,r,⟨_,n,e,rfl,rfl,rfl⟩,z⟩
 ·refine ⟨its.toList,r,⟨o,n,I.jb a o hk,hc,hd,by simpa using hs⟩,?_⟩
  have e:=r.length
  simp only [Array.length_toList] at e
  omega
theorem Inv.tuple (I:Inv X pins σ H s) (h:af X.K H a xs):∃ its:List Value,bg xs its/\IsTup s.heap a its.toArray/\xs.length<=sizeLine:=by
 rcases h with h | ⟨o,its,n,hk,hc,hs,hz,r⟩
 ·obtain ⟨⟨z,_⟩,its,r,p⟩:=h.ok I.hok
  exact ⟨its,r,p,z⟩
 ·refine ⟨its.toList,r,⟨o,I.jb a o hk,hc,n,by simpa using hs⟩,?_⟩
  have e:=r.length
  simp only [Array.length_toList] at e
  omega
theorem Inv.G_ (I:Inv X pins σ H s) (h:aj X.K H a xs) (h':aj X.K H a ys):xs=ys:=by
 obtain ⟨its,r,⟨o,n,e,_,_,d⟩,_⟩:=I.list h
 obtain ⟨its',r',⟨o',n',e',_,_,d'⟩,_⟩:=I.list h'
 rw [e] at e';cases e'
 rw [d] at d'
 injection d' with d1 _
 have:its=its':=by simpa using congrArg Array.toList d1
 subst this
 exact r.inj r'
theorem Inv.Rg (I:Inv X pins σ H s) (h:af X.K H a xs) (h':af X.K H a ys):xs=ys:=by
 obtain ⟨its,r,⟨o,e,_,n,d⟩,_⟩:=I.tuple h
 obtain ⟨its',r',⟨o',e',_,n',d'⟩,_⟩:=I.tuple h'
 rw [e] at e';cases e'
 rw [d] at d'
 injection d' with d1 _
 have:its=its':=by simpa using congrArg Array.toList d1
 subst this
 exact r.inj r'
end
abbrev Cx.yi (X:Cx) (E:Value->Shared->Prop):Cx:={X with xe:=E}
abbrev Cx.Bq (X:Cx):Cx:=X.yi fun _ _=>False
theorem Cx.Ok.yi {X:Cx} (ok:X.Ok) (E:Value->Shared->Prop):(X.yi E).Ok:=
 ⟨ok.mod,ok.kind,ok.glob,ok.blt,ok.above,ok.inj,ok.has,ok.Dz,ok.hd,ok.frames,ok.Fg,ok.Ky,ok.bs,ok.zf,ok.DC,ok.Fi,ok.uy,ok.Bm⟩
theorem Cx.Ok.AG (ok:(X.yi E).Ok):X.Ok:=
 ⟨ok.mod,ok.kind,ok.glob,ok.blt,ok.above,ok.inj,ok.has,ok.Dz,ok.hd,ok.frames,ok.Fg,ok.Ky,ok.bs,ok.zf,ok.DC,ok.Fi,ok.uy,ok.Bm⟩
theorem Inv.yi (I:Inv X pins σ H s) (E:Value->Shared->Prop):Inv (X.yi E) pins σ H s:=⟨I.ok.yi E,I.os,I.bare,I.base,I.loc,I.cell,I.free,I.yf,I.pin,I.hok,I.len⟩
theorem Inv.AG (I:Inv (X.yi E) pins σ H s):Inv X pins σ H s:=⟨I.ok.AG,I.os,I.bare,I.base,I.loc,I.cell,I.free,I.yf,I.pin,I.hok,I.len⟩
theorem SP.AG {D:Ends} {f:Flow} {s':Shared} (h:SP (X.yi E) pins D f s'):SP X pins D f s':=by
 cases f with
 | next=>obtain ⟨σ',H',I,q⟩:=h;exact ⟨σ',H',I.AG,q⟩
 | brk=>obtain ⟨σ',H',I,q⟩:=h;exact ⟨σ',H',I.AG,q⟩
 | cont=>obtain ⟨σ',H',I,q⟩:=h;exact ⟨σ',H',I.AG,q⟩
 | ret u=>obtain ⟨v,σ',H',I,r,q⟩:=h;exact ⟨v,σ',H',I.AG,r,q⟩
theorem qe.Bq {st:List Stmt} {t:TS} (h:qe X.Bq st t):qe X st t:=fun pins s σ H D I hw=>
 wpAny_mono (h pins s σ H D (I.yi _) hw) (fun _ _ q=>q.AG) fun _ _ z=>False.elim z
section
variable {st:Stmt} {rest:List Stmt} {t u:TS} {pos:Pos}
def Fo:TS:=fun D σ H=>D.nx σ H
def zj (t u:TS):TS:=fun D σ H=>t {D with nx:=u D} σ H
theorem Rh:qe X [] Fo:=fun _ _ σ H _ I h=>wpAny_execs_nil ⟨σ,H,I,h⟩
theorem zP (h1:PS X st t) (h2:qe X rest u):qe X (st::rest) (zj t u):=by
 intro pins s σ H D I h
 refine wpAny_execs_cons (av (h1 pins s σ H {D with nx:=u D} I h) fun f s1 q=>?_)
 cases f with
 | next=>
  obtain ⟨σ',H',I',q⟩:=q
  exact h2 pins s1 σ' H' D I' q
 | ret v=>exact q
 | brk=>exact q
 | cont=>exact q
theorem Ri (h1:PS X st t):qe X [st] t:=by
 intro pins s σ H D I h
 refine wpAny_execs_cons (av (h1 pins s σ H D I h) fun f s1 q=>?_)
 cases f with
 | next=>exact wpAny_execs_nil q
 | ret v=>exact q
 | brk=>exact q
 | cont=>exact q
theorem Inv.quiet (I:Inv X pins σ H s):interactive X.env=false:=by simp [interactive,I.ok.kind]
def Hf (te:TE):TS:=fun D σ H=>te σ H fun _ H1=>D.nx σ H1
theorem Rj (he:PE X e te) (hs:swapsWith e none pos.line X.env=pure false:=by rfl):PS X (.Expr e pos) (Hf te):=by
 intro pins s σ H D I h
 exact wpAny_Expr_any (av (he pins s σ H _ I h) fun v s1 ⟨x,H1,I1,r1,q1⟩=>⟨σ,H1,I1,q1⟩) I.quiet hs
def Cq (te:TE):TS:=fun D σ H=>te σ H D.rt
theorem Rk (he:PE X e te):PS X (.Return (some e) pos) (Cq te):=by
 intro pins s σ H D I h
 exact wpAny_Return_some (av (he pins s σ H _ I h) fun v s1 ⟨x,H1,I1,r1,q1⟩=>⟨x,σ,H1,I1,r1,q1⟩)
def Fp (c:TT) (t u:TS):TS:=fun D σ H=>c σ H fun b H1=>if b=true then t D σ H1 else u D σ H1
theorem Rl {c:Expr} {a b:List Stmt} {tc:TT} (hc:PT X c tc) (ha:qe X a t) (hb:qe X b u):PS X (.If c a b pos) (Fp tc t u):=by
 intro pins s σ H D I h
 refine wpAny_If (av (hc pins s σ H _ I h) ?_)
 rintro d s1 ⟨H1,I1,q1⟩
 cases d with
 | true=>exact ha pins s1 σ H1 D I1 q1
 | false=>exact hb pins s1 σ H1 D I1 q1
end
abbrev TG:=V->St->Hp->(St->Hp->Prop)->Prop
abbrev wl:=List V->St->Hp->(St->Hp->Prop)->Prop
def PG (X:Cx) (target:Expr) (t:TG):Prop:=
 ∀ (pins:List (Addr×Obj)) (s:Shared) (σ:St) (H:Hp) (v:V) (u:Value) (Q:St->Hp->Prop),Inv X pins σ H s->RelV v u->t v σ H Q->
  wpAny (model X.prog X.w) X.A (assign target X.env u) (fun _ s'=>∃ σ' H',Inv X pins σ' H' s'/\Q σ' H') X.xe s
def Cr (X:Cx) (ts:List Expr) (t:wl):Prop:=
 ∀ (pins:List (Addr×Obj)) (s:Shared) (σ:St) (H:Hp) (vs:List V) (us:List Value) (Q:St->Hp->Prop),Inv X pins σ H s->bg vs us->t vs σ H Q->
  wpAny (model X.prog X.w) X.A (assignInOrder ((assignEach ts X.env).map (·.2)) us) (fun _ s'=>∃ σ' H',Inv X pins σ' H' s'/\Q σ' H') X.xe s
abbrev Fq:=V->V->V->Hp->(Hp->Prop)->Prop
def Hg (X:Cx) (t:Fq):Prop:=
 ∀ (pins:List (Addr×Obj)) (s:Shared) (σ:St) (H:Hp) (o i v:V) (ov iv u:Value) (Q:Hp->Prop),Inv X pins σ H s->RelV o ov->RelV i iv->RelV v u->t o i v H Q->
  wpAny (model X.prog X.w) X.A (setItem ov iv u) (fun _ s'=>∃ H',Inv X pins σ H' s'/\Q H') X.xe s
abbrev DE:=V->V->Hp->VK->Prop
def Hh (X:Cx) (op:Operator) (t:DE):Prop:=
 ∀ (pins:List (Addr×Obj)) (s:Shared) (σ:St) (H:Hp) (x y:V) (v u:Value) (Q:VK),Inv X pins σ H s->RelV x v->RelV y u->t x y H Q->
  wpAny (model X.prog X.w) X.A (inplaceOp op v u) (EP X pins σ Q) X.xe s
section
variable {pos:Pos}
def jc (i:Nat):TG:=fun v σ H Q=>Q (σ.set i (some v)) H
theorem Rm (hN:X.N.Nodup) (hi:X.N[i]? =some x) (hx:Loc X.env.scope x) (hf:X.fn x=true\/X.env.scope.names.lookup x=some .local:=by first | exact .inl rfl | exact .inr rfl | assumption):PG X (.Name x pos) (jc i):=by
 intro pins s σ H v u Q I r h
 exact wpAny_assign_Name (i5 I hN hi hx r (fun s' I'=>⟨_,H,I',h⟩) hf)
def Br:wl:=fun vs σ H Q=>vs=[]/\Q σ H
def qg (t:TG) (u:wl):wl:=fun vs σ H Q=>∃ v r,vs=v::r/\t v σ H fun σ' H'=>u r σ' H' Q
theorem Rn:Cr X [] Br:=by
 intro pins s σ H vs us Q I r h
 obtain ⟨e,h⟩:=h
 subst e
 cases r
 exact assignInOrder_nil ⟨σ,H,I,h⟩
theorem Ro {es:List Expr} {t:TG} {u:wl} (h1:PG X e t) (h2:Cr X es u)
  (hs:(assignEach (e::es) X.env).map (·.2)=assign e X.env::(assignEach es X.env).map (·.2):=by rfl):Cr X (e::es) (qg t u):=by
 intro pins s σ H vs us Q I r h
 obtain ⟨v,vr,e1,h⟩:=h
 subst e1
 cases r with
 | cons r rr=>
  rw [hs]
  refine assignInOrder_cons (av (h1 pins s σ H _ _ _ I r h) ?_)
  rintro _ s1 ⟨σ1,H1,I1,q1⟩
  exact h2 pins s1 σ1 H1 _ _ Q I1 rr q1
def zk (K:Q0) (n:Nat) (t:wl):TG:=fun v σ H Q=>∃ a xs,v=.ref a/\af K H a xs/\xs.length=n/\t xs σ H Q
theorem Rp {es:List Expr} {k:Nat} {t:wl} (hc:X.calm=true) (h:Cr X es t)
  (hn:(assignEach es X.env).length=n:=by rfl) (uz:(assignEach es X.env).findIdx? (·.1)=none:=by rfl):PG X (.Tuple es k pos) (zk X.K n t):=by
 intro pins s σ H v u Q I r hw
 obtain ⟨a,xs,e1,hq,hl,hw⟩:=hw
 subst e1
 cases r
 obtain ⟨its,rv,ht,hz⟩:=I.tuple hq
 refine assign_Tuple_tuple (I.ok.hd hc) ht (by simp [hn,<- hl,rv.length]) uz fun h' hx=>?_
 have I1:Inv X pins σ H {s with heap:=h'}:=I.kept (t':=s.toks) fun b o e=>hx b o (Nat.ne_of_lt (Qz e)) e
 exact h pins _ σ H xs _ Q I1 (by simpa using rv) hw
def KR (to ti:TE) (t:Fq):TG:=fun v σ H Q=>to σ H fun o H1=>ti σ H1 fun i H2=>t o i v H2 fun H3=>Q σ H3
theorem Rq {o i:Expr} {ti:TE} {t:Fq} (ho:PE X o to) (hi:PE X i ti) (hs:Hg X t)
  (ha:∀ v,assign (.Subscript o i pos) X.env v=(do
   let ov <- holding [v] (eval o X.env)
   let iv <- holding [v,ov] (eval i X.env)
   standAt pos
   holding [v,ov,iv] (setItem ov iv v)
   release [v,ov,iv] []):=by intro _;rfl):PG X (.Subscript o i pos) (KR to ti t):=by
 intro pins s σ H v u Q I r h
 rw [ha]
 refine QT (wpAny_holding (av (ho pins s σ H _ I h) ?_))
 rintro ov s1 ⟨x,H1,I1,r1,q1⟩
 refine QT (wpAny_holding (av (hi pins s1 σ H1 _ I1 q1) ?_))
 rintro iv s2 ⟨y,H2,I2,r2,q2⟩
 refine QT (wpAny_standAt (QT (wpAny_holding (av (hs pins s2 σ H2 x y v ov iv u _ I2 r1 r2 r q2) ?_))))
 rintro _ s3 ⟨H3,I3,q3⟩
 exact wpAny_release ⟨σ,H3,I3,q3⟩
def zl (te:TE) (g:TG):TS:=fun D σ H=>te σ H fun x H1=>g x σ H1 D.nx
theorem Rr {g:TG} (he:PE X e te) (hg:PG X tg g) (hs:swapsWithSole [tg] e pos.line X.env=pure false:=by rfl) (hw:swappedStores [tg] e X.env=pure none:=by rfl)
  (h1:(assignEach [tg] X.env).map (·.2)=[assign tg X.env]:=by rfl):PS X (.Assign [tg] e pos) (zl te g):=by
 intro pins s σ H D I h
 refine wpAny_Assign_stores (av (he pins s σ H _ I h) fun v s1 ⟨x,H1,I1,r1,q1⟩=>?_) hs hw
 rw [h1]
 exact av (hg pins s1 σ H1 x v _ I1 r1 q1) fun _ s2 q=>q
theorem Rt {pos':Pos} (hN:X.N.Nodup) (hi:X.N[i]? =some x) (hx:Loc X.env.scope x) (he:PE X e te) (hs:swapsWith e (some (.Name x pos')) pos.line X.env=pure false:=by rfl) (hf:X.fn x=true\/X.env.scope.names.lookup x=some .local:=by first | exact .inl rfl | exact .inr rfl | assumption):
  PS X (.Assign [.Name x pos'] e pos) (zl te (jc i)):=by
 intro pins s σ H D I h
 refine wpAny_Assign_Name (av (he pins s σ H _ I h) fun v s1 ⟨y,H1,I1,r1,q1⟩=>?_) hs
 exact i5 I1 hN hi hx r1 (fun s2 I2=>⟨_,H1,I2,q1⟩) hf
def KS (i j:Nat) (ta:TA):TS:=fun D σ H=>ta σ H fun vs H1=>∃ v w,vs=[v,w]/\D.nx ((σ.set i (some v)).set j (some w)) H1
theorem Ru {y:Str} {a b:Expr} {ta:TA} {px py pt:Pos} {kt k2 Bs} (hc:X.calm=true) (hN:X.N.Nodup) (hi:X.N[i]? =some x) (hj:X.N[j]? =some y) (rn:i≠j)
  (hx:X.env.scope.names.lookup x=some .local) (hy:X.env.scope.names.lookup y=some .local) (ha:PA X [a,b] ta)
  (hw:swappedStores [.Tuple [.Name x px,.Name y py] kt pt] (.Tuple [a,b] k2 Bs) X.env=pure (some [x,y]))
  (hs:swapsWithSole [.Tuple [.Name x px,.Name y py] kt pt] (.Tuple [a,b] k2 Bs) pos.line X.env=pure false:=by rfl):
  PS X (.Assign [.Tuple [.Name x px,.Name y py] kt pt] (.Tuple [a,b] k2 Bs) pos) (KS i j ta):=by
 intro pins s σ H D I h
 rw [exec_Assign_arm]
 refine QT (wpAny_standAt ?_)
 rw [hs]
 refine QT (QU ?_)
 rw [if_neg (by decide)]
 refine QT (Tuple_ (av (ha _ pins s σ H _ I h) ?_))
 rintro us s1 ⟨vs,H1,I1,r1,q1⟩
 obtain ⟨v,w,e1,q1⟩:=q1
 subst e1
 obtain ⟨u1,u2,rfl,rv,qh⟩:∃ u1 u2,us=[u1,u2]/\RelV v u1/\RelV w u2:=by
  cases r1 with
  | cons p q=>
   cases q with
   | cons p' q'=>
    cases q'
    exact ⟨_,_,rfl,p,p'⟩
 refine wpAny_newObj_type ?_ (by show 2<=sizeLine;decide)
 have I2:Inv X pins σ H1 {s1 with heap:=s1.heap.push {cls:=.type "tuple",data:=.seq [u1,u2].toArray}}:=I1.kept (t':=s1.toks) fun b o e=>Qc _ e
 rw [hw]
 refine QT (QU ?_)
 show wpAny (model X.prog X.w) X.A (do rule "assign.swapped-stores";let items <- unpackItems (.ref s1.heap.objs.size) 2 none;assignInOrder [fun v=>bindName X.env y v,fun v=>bindName X.env x v] items.reverse;pure Flow.next) _ _ _
 refine QT (wpAny_rule (QT (unpackItems_tuple (items:=#[u1,u2]) (I.ok.hd hc) (IsTup.new s1.heap _) fun h' hx'=>?_)))
 have I3:=I2.kept (h':=h') (t':=s1.toks) fun b o e=>hx' b o (Nat.ne_of_lt (Qz e)) e
 show wpAny _ _ (assignInOrder [fun v=>bindName X.env y v,fun v=>bindName X.env x v] [u2,u1] >>=fun _=>pure Flow.next) _ _ _
 refine QT (assignInOrder_cons (wpAny_bindName (i5 I3 hN hj (.inl hy) qh (fun s2 I4=>?_) (.inr hy))))
 refine assignInOrder_cons (wpAny_bindName (i5 I4 hN hi (.inl hx) rv (fun s3 I5=>assignInOrder_nil (QU ?_)) (.inr hx)))
 rw [List.set_comm _ _ (Ne.symm rn)] at I5
 exact ⟨_,H1,I5,q1⟩
def KU (i:Nat) (te:TE) (ti:DE):TS:=fun D σ H=>∃ x,σ[i]? =some (some x)/\te σ H fun y H1=>ti x y H1 fun z H2=>D.nx (σ.set i (some z)) H2
theorem Rv {op:Operator} {ti:DE} {pos':Pos} (hN:X.N.Nodup) (hi:X.N[i]? =some x) (hx:Loc X.env.scope x) (he:PE X e te) (ho:Hh X op ti) (hf:X.fn x=true\/X.env.scope.names.lookup x=some .local:=by first | exact .inl rfl | exact .inr rfl | assumption):
  PS X (.AugAssign (.Name x pos') op e pos) (KU i te ti):=by
 intro pins s σ H D I h
 obtain ⟨v,e1,h⟩:=h
 obtain ⟨m,hn,hl⟩:=I.loc
 have Rw:Cp X.env.scope x:=by rcases hx with k | k;exact .inl k;exact .inr (.inl k)
 obtain ⟨u,r,l⟩:=hl i x v hi e1 Rw
 refine wpAny_AugAssign_Name ?_
 have go:wpAny (model X.prog X.w) X.A (eval e X.env) (fun w s₂=>wpAny (model X.prog X.w) X.A (inplaceOp op u w) (fun r s₃=>wpAny (model X.prog X.w) X.A (storeName X.env x r) (fun _=>SP X pins D .next) X.xe s₃) X.xe s₂) X.xe s:=by
  refine av (he pins s σ H _ I h) ?_
  rintro w s1 ⟨y,H1,I1,r1,q1⟩
  refine av (ho pins s1 σ H1 v y u w _ I1 r r1 q1) ?_
  rintro z s2 ⟨zv,H2,I2,r2,q2⟩
  exact i5 I2 hN hi hx r2 (fun s3 I3=>⟨_,H2,I3,q2⟩) hf
 rcases l with ⟨hk,hm⟩ | ⟨hk,c,hc,Fl⟩
 ·exact wpAny_loadName_local I.ok.kind hk hn hm go
 ·rcases hk with hk | hk
  ·exact wpAny_loadName_cell I.ok.kind hk hc Fl go
  ·rcases hx with k | k
   ·have:X.env.scope.names.lookup x=some .free:=hk
    rw [k] at this;cases this
   ·have:X.env.scope.names.lookup x=some .free:=hk
    rw [k] at this;cases this
def Rx (f:Int->Int->Int):DE:=fun x y H Q=>∃ i j,x=.int i/\y=.int j/\Q (.int (f i j)) H
theorem Ry:Hh X .Add (Rx fun i j=>i+j):=by
 intro pins s σ H x y v u Q I r1 r2 h
 obtain ⟨i,j,e1,e2,q⟩:=h
 subst e1;subst e2
 obtain ⟨t,rfl⟩:=r1
 obtain ⟨t',rfl⟩:=r2
 exact iadd_int ⟨.int _,H,I.tok _,⟨_,rfl⟩,q⟩
def KW (c:TT) (tb:TS):TS:=fun D σ H=>∃ W:Nat->St->Hp->Prop,(∃ m,W m σ H)/\∀ m σ H,W m σ H->
 c σ H fun b H1=>if b=true then ∃ N:St->Hp->Prop,(∀ σ' H',N σ' H'->∃ m',m' < m/\W m' σ' H')/\tb {D with nx:=N,ct:=N,bk:=D.nx} σ H1 else D.nx σ H1
theorem zE {c:Expr} {tc:TT} {tb:TS} (hp:PassesOwn (model X.prog X.w) X.A X.env X.xe) (hc:PT X c tc) (hb:qe X body tb):PS X (.While c body [] pos) (KW tc tb):=by
 intro pins s σ H D I h
 obtain ⟨W,⟨m0,w0⟩,turn⟩:=h
 refine wpAny_While (codeAny_whileLoop (fun n s'=>∃ σ' H',Inv X pins σ' H' s'/\W n σ' H') ?_ m0 ⟨σ,H,I,w0⟩)
 rintro n s1 ⟨σ1,H1,I1,w1⟩
 refine wpAny_passesOwn hp (av (hc pins s1 σ1 H1 _ I1 (turn n σ1 H1 w1)) ?_)
 rintro b s2 ⟨H2,I2,q2⟩
 cases b with
 | true=>
  obtain ⟨N,hN,q2⟩:=q2
  rw [if_pos rfl]
  refine wpAny_passesOwn hp (av (hb pins s2 σ1 H2 _ I2 q2) fun f s3 q3=>?_)
  cases f with
  | next=>
   obtain ⟨σ3,H3,I3,n3⟩:=q3
   obtain ⟨m',hm,w3⟩:=hN σ3 H3 n3
   exact ⟨m',hm,σ3,H3,I3,w3⟩
  | cont=>
   obtain ⟨σ3,H3,I3,n3⟩:=q3
   obtain ⟨m',hm,w3⟩:=hN σ3 H3 n3
   exact ⟨m',hm,σ3,H3,I3,w3⟩
  | brk=>exact q3
  | ret v=>exact q3
 | false=>
  rw [if_neg Bool.false_ne_true]
  exact wpAny_execs_nil ⟨σ1,H2,I2,q2⟩
end
structure It where
 go:Nat->Hp->Prop
 qi:Nat->Hp->V->Hp->Prop
 stop:Nat->Hp->Prop
def qj (X:Cx) (pins:List (Addr×Obj)) (H:Hp) (b:Addr):Prop:=
 H b=none/\b≠X.env.locals/\b ∉ X.fs/\(b∈X.ex\/X.s₀.heap.objs.size<=b)/\(∀ x c,X.env.cells.lookup x=some c->c≠b)/\∀ p∈X.pn++pins,p.1≠b
theorem Inv.AH (I:Inv X pins σ H s) (hb:s.heap.objs.size<=b) (hn:H' b=none):qj X pins H' b:=by
 refine ⟨hn,Nat.ne_of_gt (Nat.lt_of_lt_of_le I.lt hb),I.QO hb,.inr (Nat.le_trans I.sz hb),fun x c e z=>?_,fun p hp z=>?_⟩
 ·obtain ⟨v,q⟩:=I.cell x c e
  exact absurd (Nat.lt_of_lt_of_le q.lt (by rw [z];exact hb)) (Nat.lt_irrefl _)
 ·exact absurd (Nat.lt_of_lt_of_le (Qz (I.pin p hp).1) (by rw [z];exact hb)) (Nat.lt_irrefl _)
structure Turn (P:Program) (w:World) (K:Q0) (tg:Expr) (J:It) (fp:List Addr) (it:Addr) (tn:Nat->Heap->Prop):Prop where
 mem:it∈fp
 obj:∀ i h,tn i h->∀ b∈fp,∃ o,h.get? b=some o/\∀ v,o.data≠.cell v
 keep:∀ i h h',tn i h->(∀ b∈fp,∀ o,h.get? b=some o->h'.get? b=some o)->tn i h'
 item:∀ (X:Cx),X.prog=P->X.w=w->X.K=K->X.calm=true->∀ (i:Nat) (pins:List (Addr×Obj)) (s:Shared) (σ:St) (H:Hp) (E:Value->Shared->Prop),Inv X pins σ H s->(∀ b∈fp,qj X pins H b)->tn i s.heap->J.go i H->
  wpAny (model P w) X.A (pyNext (.ref it)) (fun r s1=>∃ u,r=some u/\
   wpAny (model P w) X.A (letOwnedTupleGo tg (.ref it) u) (fun _ s2=>∃ x H',Inv X pins σ H' s2/\RelV x u/\J.qi i H x H'/\tn (i+1) s2.heap/\∀ b∈fp,H' b=none) E s1) E s
 done:∀ (X:Cx),X.prog=P->X.w=w->X.K=K->X.calm=true->∀ (i:Nat) (pins:List (Addr×Obj)) (s:Shared) (σ:St) (H:Hp) (E:Value->Shared->Prop),Inv X pins σ H s->(∀ b∈fp,qj X pins H b)->tn i s.heap->J.stop i H->
  wpAny (model P w) X.A (pyNext (.ref it)) (fun r s1=>r=none/\Inv X pins σ H s1) E s
 self:∀ (A:Around) (i:Nat) (s:Shared) (Q:Value->Shared->Prop) (E:Value->Shared->Prop),tn i s.heap->Q (.ref it) s->wpAny (model P w) A (pyIter (.ref it)) Q E s
abbrev TI:=St->Hp->(It->Hp->Prop)->Prop
def Cs (X:Cx) (pins:List (Addr×Obj)) (σ:St) (tg:Expr) (R:It->Hp->Prop) (qm:Value) (s2:Shared):Prop:=
 ∃ (it:Addr) (fp:List Addr) (tn:Nat->Heap->Prop) (J:It) (H':Hp),qm=.ref it/\Inv X pins σ H' s2/\Turn X.prog X.w X.K tg J fp it tn/\tn 0 s2.heap/\(∀ b∈fp,qj X pins H' b)/\R J H'
def PI (X:Cx) (tg iter:Expr) (wi:TI):Prop:=
 ∀ (pins:List (Addr×Obj)) (s:Shared) (σ:St) (H:Hp) (R:It->Hp->Prop),Inv X pins σ H s->wi σ H R->
  wpAny (model X.prog X.w) X.A (eval iter X.env) (fun v s1=>wpAny (model X.prog X.w) X.A (pyIter v) (Cs X pins σ tg R) X.xe s1) X.xe s
theorem rC {M : Model} {A : Around} {E : Value -> Shared -> Prop} {s : Shared} {tg : Expr} {it : Addr} {u : Value} {o : Obj} {n : String} {vs : Array Value} {Q : Unit -> Shared -> Prop} (ho : s.heap.get? it = some o) (hc : o.cls = .type n) (hd : o.data = .fields vs)
    (hn : ["enumerate", "zip", "dict_itemiterator", "dict_reverseitemiterator", "odict_iterator", "itertools.zip_longest", "itertools.pairwise"].contains n = false) (hQ : Q () s) : wpAny M A (letOwnedTupleGo tg (.ref it) u) Q E s := by
  unfold letOwnedTupleGo
  cases tg <;> first
    | exact QU hQ
    | (cases u <;> first
        | exact QU hQ
        | (refine QT (wpAny_load ho ?_)
           rw [hc, hd]
           show wpAny M A (if (["enumerate", "zip", "dict_itemiterator", "dict_reverseitemiterator", "odict_iterator", "itertools.zip_longest", "itertools.pairwise"].contains n && vs[0]? == some (rawInt _)) = true then _ else _) Q E s
           rw [if_neg (by intro h; rw [hn, Bool.false_and] at h; cases h)]
           exact QU hQ))
def Hi (K:Q0) (a:Addr):It:=
 ⟨fun i H=>∃ xs x,aj K H a xs/\xs[i]? =some x,fun i H x H'=>H'=H/\∀ xs,aj K H a xs->xs[i]? =some x,fun i H=>∃ xs,aj K H a xs/\xs.length<=i⟩
def Hj (K:Q0) (a:Addr):It:=
 ⟨fun i H=>∃ xs x,af K H a xs/\xs[i]? =some x,fun i H x H'=>H'=H/\∀ xs,af K H a xs->xs[i]? =some x,fun i H=>∃ xs,af K H a xs/\xs.length<=i⟩
def Ft (lo:Int) (n:Nat):It:=⟨fun i _=>i < n,fun i H x H'=>H'=H/\x=.int (lo+i),fun i _=>n<=i⟩
theorem xF {K:Q0} (a it:Addr):Turn P w K tg (Hi K a) [it] it (fun i h=>h.IsListIter it a i) where
 mem:=by simp
 obj:=fun i h st b hb=>by
  have e:b=it:=by simpa using hb
  subst e
  obtain ⟨o,e,c,d⟩:=st
  exact ⟨o,e,fun v z=>by rw [d] at z;cases z⟩
 keep:=fun i h h' st k=>st.at fun o e=>k it (by simp) o e
 item:=by
  intro X hP hw hK hc i pins s σ H E I hf st hg
  subst hP hw hK
  obtain ⟨xs,x,hq,hx⟩:=hg
  obtain ⟨its,rv,p,hz⟩:=I.list hq
  obtain ⟨u,hu,ru⟩:=rv.get hx
  obtain ⟨f0,f1,f2,f3,f4,f5⟩:=hf it (by simp)
  refine wpAny_pyNext_list_item st p.isList (x:=u) (by simpa using hu) fun h' st' sb=>?_
  have I1:Inv X pins σ H {s with heap:=h'}:=I.turned (t':=s.toks) (fun b o hb e=>(sb.2 b hb).trans e) f0 f1 f3 f4 f5
  obtain ⟨o,e,c,d⟩:=id st'
  exact ⟨u,rfl,rC (s:={s with heap:=h'}) e c d (by decide) ⟨x,H,I1,ru,⟨rfl,fun ys hy=>by rw [I.G_ hy hq];exact hx⟩,st',fun b hb=>(hf b hb).1⟩⟩
 done:=by
  intro X hP hw hK hc i pins s σ H E I hf st hg
  subst hP hw hK
  obtain ⟨xs,hq,hx⟩:=hg
  obtain ⟨its,rv,p,hz⟩:=I.list hq
  obtain ⟨f0,f1,f2,f3,f4,f5⟩:=hf it (by simp)
  have hl:=rv.length
  exact wpAny_pyNext_list_end (I.ok.hd hc) st p.isList (by simp;omega) fun h' eb=>⟨rfl,I.turned (t':=s.toks) (fun b o hb e=>eb b o hb e) f0 f1 f3 f4 f5⟩
 self:=fun _ _ _ _ _ st h=>wpAny_pyIter_listiter st h
theorem tR {K:Q0} (a it:Addr):Turn P w K tg (Hj K a) [it] it (fun i h=>h.IsTupleIter it a i) where
 mem:=by simp
 obj:=fun i h st b hb=>by
  have e:b=it:=by simpa using hb
  subst e
  obtain ⟨o,e,c,d⟩:=st
  exact ⟨o,e,fun v z=>by rw [d] at z;cases z⟩
 keep:=fun i h h' st k=>st.at fun o e=>k it (by simp) o e
 item:=by
  intro X hP hw hK hc i pins s σ H E I hf st hg
  subst hP hw hK
  obtain ⟨xs,x,hq,hx⟩:=hg
  obtain ⟨its,rv,p,hz⟩:=I.tuple hq
  obtain ⟨u,hu,ru⟩:=rv.get hx
  obtain ⟨f0,f1,f2,f3,f4,f5⟩:=hf it (by simp)
  refine wpAny_pyNext_tuple_item st (show s.heap.IsTuple a its.toArray from p) (x:=u) (by simpa using hu) fun h' st' sb=>?_
  have I1:Inv X pins σ H {s with heap:=h'}:=I.turned (t':=s.toks) (fun b o hb e=>(sb.2 b hb).trans e) f0 f1 f3 f4 f5
  obtain ⟨o,e,c,d⟩:=id st'
  exact ⟨u,rfl,rC (s:={s with heap:=h'}) e c d (by decide) ⟨x,H,I1,ru,⟨rfl,fun ys hy=>by rw [I.Rg hy hq];exact hx⟩,st',fun b hb=>(hf b hb).1⟩⟩
 done:=by
  intro X hP hw hK hc i pins s σ H E I hf st hg
  subst hP hw hK
  obtain ⟨xs,hq,hx⟩:=hg
  obtain ⟨its,rv,p,hz⟩:=I.tuple hq
  obtain ⟨f0,f1,f2,f3,f4,f5⟩:=hf it (by simp)
  have hl:=rv.length
  exact wpAny_pyNext_tuple_end (I.ok.hd hc) st (show s.heap.IsTuple a its.toArray from p) (by simp;omega) fun h' eb=>⟨rfl,I.turned (t':=s.toks) (fun b o hb e=>eb b o hb e) f0 f1 f3 f4 f5⟩
 self:=fun _ _ _ _ _ st h=>wpAny_pyIter_tupleiter st h
theorem uI {K:Q0} (it:Addr) (lo:Int) (n:Nat):Turn P w K tg (Ft lo n) [it] it (fun i h=>IsRangeIter h it (lo+(i:Nat)*1) ((n:Int) - (i:Nat)) 1) where
 mem:=by simp
 obj:=fun i h st b hb=>by
  have e:b=it:=by simpa using hb
  subst e
  exact ⟨_,st,fun v z=>by
   have z':Data.fields _=Data.cell v:=z
   cases z'⟩
 keep:=fun i h h' st k=>k it (by simp) _ st
 item:=by
  intro X hP hw hK hc i pins s σ H E I hf st hg
  subst hP hw hK
  obtain ⟨f0,f1,f2,f3,f4,f5⟩:=hf it (by simp)
  have W:=Walks.range (prog:=X.prog) (w:=X.w) (I.ok.hd hc) it lo 1 n
  refine W.item i s _ _ hg st fun v h' tk hv st' kk=>?_
  obtain ⟨t,rfl⟩:=hv
  have I1:Inv X pins σ H {s with heap:=h',toks:=tk}:=I.turned (fun b o hb e=>kk b o (by simpa using hb) e) f0 f1 f3 f4 f5
  refine ⟨_,rfl,rC (s:={s with heap:=h',toks:=tk}) (n:="range_iterator") st' rfl rfl (by decide) ⟨.int (lo+i),H,I1,⟨t,?_⟩,⟨rfl,rfl⟩,st',fun b hb=>(hf b hb).1⟩⟩
  rw [Int.mul_one]
 done:=by
  intro X hP hw hK hc i pins s σ H E I hf st hg
  subst hP hw hK
  obtain ⟨f0,f1,f2,f3,f4,f5⟩:=hf it (by simp)
  exact wpAny_pyNext_range_end (I.ok.hd hc) st (by have:n<=i:=hg;omega) fun h' eb=>⟨rfl,I.turned (t':=s.toks) (fun b o hb e=>eb b o hb e) f0 f1 f3 f4 f5⟩
 self:=fun _ _ _ _ _ st h=>wpAny_pyIter_rangeiter st h
theorem yX {R:It->Hp->Prop} {lo hi:Int} {t u v:Tok} {tk:Nat} (I:Inv X pins σ H s) (h1: -(2^62)<=lo) (h2:lo < 2^62) (h3: -(2^62)<=hi) (h4:hi < 2^62)
  (q:R (Ft lo (hi - lo).toNat) H):wpAny (model X.prog X.w) X.A (pyIter (.ref s.heap.objs.size)) (Cs X pins σ tg R) E {s with heap:=s.heap.push {cls:=.type "range",data:=.fields #[.int lo t,.int hi u,.int 1 v]},toks:=tk}:=by
 refine wpAny_pyIter_range (IsRange.new ..) (small_one h1 h2 h3 h4) ?_
 have I1:Inv X pins σ H {s with heap:=s.heap.push {cls:=.type "range",data:=.fields #[.int lo t,.int hi u,.int 1 v]},toks:=tk}:=I.kept fun b o e=>Qc _ e
 refine ⟨(s.heap.push {cls:=.type "range",data:=.fields #[.int lo t,.int hi u,.int 1 v]}).objs.size,[(s.heap.push {cls:=.type "range",data:=.fields #[.int lo t,.int hi u,.int 1 v]}).objs.size],_,_,H,rfl,
  I1.kept (t':=tk) fun b o e=>Qc _ e,uI _ lo (hi - lo).toNat,?_,fun b hb=>?_,q⟩
 ·have e1:lo+((0:Nat):Int)*1=lo:=by simp
  have e2:(((hi - lo).toNat:Nat):Int) - ((0:Nat):Int)=Builtin.Range.rangeSize lo hi 1:=by rw [rangeSize_one];split<;>omega
  show IsRangeIter _ _ (lo+((0:Nat):Int)*1) ((((hi - lo).toNat:Nat):Int) - ((0:Nat):Int)) 1
  rw [e1,e2]
  exact Qd _ rfl
 ·have e:b=(s.heap.push {cls:=.type "range",data:=.fields #[.int lo t,.int hi u,.int 1 v]}).objs.size:=by simpa using hb
  subst e
  exact I1.AH (Qy _) (I1.hok.fresh (Qy _))
def KZ (ta:TA):TI:=fun σ H R=>ta σ H fun vs H1=>∃ j:Int,vs=[.int j]/\ -(2^62)<=j/\j < 2^62/\R (Ft 0 j.toNat) H1
theorem xV {a:Expr} {ta:TA} {p pos:Pos} (hg:Gl X "range") (hm:X.mg "range"=none) (ha:PA X [a] ta) (hs:starEach [a] X.env=[(false,eval a X.env)]:=by rfl):PI X tg (.Call (.Name "range" p) [a] [] pos) (KZ ta):=by
 intro pins s σ H R I h
 refine Call_ (lZ I hg hm boot_range (PyProof.Rows.callWith_type1 (av (ha pos pins s σ H _ I h) fun us s1 ⟨vs,H1,I1,r1,q1⟩=>?_) hs rfl))
 obtain ⟨j,e,q1,q2,q⟩:=q1
 subst e
 cases r1 with
 | cons r rr=>
  cases rr
  obtain ⟨t,rfl⟩:=r
  exact call_range_1 (yX I1 (by omega) (by omega) q1 q2 (by simpa using q))
def K0 (wi:TI) (g:TG) (tb:TS):TS:=fun D σ H=>wi σ H fun J H1=>∃ W:Nat->Nat->St->Hp->Prop,(∃ m,W 0 m σ H1)/\∀ i m σ H,W i m σ H->
 (J.stop i H/\D.nx σ H)\/(J.go i H/\∃ N:St->Hp->Prop,(∀ σ' H',N σ' H'->∃ m',m' < m/\W (i+1) m' σ' H')/\∀ x H',J.qi i H x H'->g x σ H' fun σ2 H2=>tb {D with nx:=N,ct:=N,bk:=D.nx} σ2 H2)
def Bt (fp:List Addr) (h:Heap):List (Addr×Obj):=fp.filterMap fun b=>(h.get? b).map fun o=>(b,o)
theorem cK {o:Obj} (hb:b∈fp) (e:h.get? b=some o):(b,o)∈Bt fp h:=List.mem_filterMap.mpr ⟨b,hb,by rw [e];rfl⟩
theorem wZ {p:Addr×Obj} (hp:p∈Bt fp h):p.1∈fp/\h.get? p.1=some p.2:=by
 obtain ⟨b,hb,e⟩:=List.mem_filterMap.mp hp
 cases q:h.get? b with
 | none=>rw [q] at e;cases e
 | some o=>
  rw [q] at e
  have e':(b,o)=p:=QD e
  subst e'
  exact ⟨hb,q⟩
theorem Inv.pinned (I:Inv X pins σ H s) (hf:∀ b∈fp,qj X pins H b) (ho:∀ b∈fp,∃ o,s.heap.get? b=some o/\∀ v,o.data≠.cell v):Inv X (pins++Bt fp s.heap) σ H s:=
 I.KG fun p hp=>(List.mem_append.mp hp).elim (fun z=>I.pin p (List.mem_append_right _ z)) fun z=>by
  obtain ⟨hb,e⟩:=wZ z
  obtain ⟨f0,f1,f2,_⟩:=hf p.1 hb
  obtain ⟨o,e',d⟩:=ho p.1 hb
  rw [e] at e';cases e'
  exact ⟨e,f0,f1,f2,d⟩
theorem Inv.Ct {pl:List (Addr×Obj)} (I:Inv X (pins++pl) σ H s):Inv X pins σ H s:=I.KG fun p hp=>I.pin p (List.mem_append_right _ (List.mem_append_left _ hp))
theorem Rz {iter:Expr} {wi:TI} {g:TG} {tb:TS} {pos:Pos} (hp:PassesOwn (model X.prog X.w) X.A X.env X.xe) (hc:X.calm=true) (hi:PI X tg iter wi) (hg:PG X tg g) (hb:qe X body tb)
  (hs:∀ x,foldedSetIterable iter X.env x=pure x:=by intro _;rfl):PS X (.For tg iter body [] pos) (K0 wi g tb):=by
 intro pins s σ H D I h
 refine wpAny_For (av (hi pins s σ H _ I h) fun v s1 h1=>av h1 fun qm s2 h2=>?_) hs
 obtain ⟨it,fp,tn,J,H2,e,I2,T,gf,f2,W,⟨m0,w0⟩,turn⟩:=h2
 subst e
 -- RA stays true of Bu aao objects through Bu loop
 have qo:∀ {H':Hp},(∀ b∈fp,H' b=none)->∀ b∈fp,qj X pins H' b:=fun hn b hb=>⟨hn b hb,(f2 b hb).2⟩
 refine codeAny_forLoop_any (fun n s'=>∃ i σ' H',Inv X pins σ' H' s'/\tn i s'.heap/\(∀ b∈fp,H' b=none)/\W i n σ' H') ?_ m0 ⟨0,σ,H2,I2,gf,fun b hb=>(f2 b hb).1,w0⟩
 rintro n s3 ⟨i,σ3,H3,I3,wm,wo,w3⟩
 rcases turn i n σ3 H3 w3 with ⟨stop,qn⟩ | ⟨go,N,hN,step⟩
 ·refine wpAny_passesOwn hp (av (T.done X rfl rfl rfl hc i pins s3 σ3 H3 X.xe I3 (qo wo) wm stop) ?_)
  rintro r s4 ⟨hr,I4⟩
  subst hr
  exact wpAny_execs_nil ⟨σ3,H3,I4,qn⟩
 ·refine wpAny_passesOwn hp (av (T.item X rfl rfl rfl hc i pins s3 σ3 H3 X.xe I3 (qo wo) wm go) ?_)
  rintro r s4 ⟨u,hr,h4⟩
  subst hr
  refine wpAny_passesOwn hp (av h4 ?_)
  rintro _ s5 ⟨x,H5,I5,r5,y5,qp,Bv⟩
  have Bw:=I5.pinned (qo Bv) (T.obj _ _ qp)
  refine wpAny_passesOwn hp (av (hg _ s5 σ3 H5 x u _ Bw r5 (step x H5 y5)) ?_)
  rintro _ s6 ⟨σ6,H6,I6,q6⟩
  refine wpAny_passesOwn hp (av (hb _ s6 σ6 H6 _ I6 q6) fun f s7 q7=>?_)
  have again:∀ {σ7:St} {H7:Hp},Inv X (pins++Bt fp s5.heap) σ7 H7 s7->N σ7 H7->∃ m,m < n/\∃ i σ' H',Inv X pins σ' H' s7/\tn i s7.heap/\(∀ b∈fp,H' b=none)/\W i m σ' H':=fun {σ7 H7} I7 n7=>by
   obtain ⟨m',hm,w7⟩:=hN σ7 H7 n7
   refine ⟨m',hm,i+1,σ7,H7,I7.Ct,T.keep _ _ _ qp fun b hb o e=>(I7.pin (b,o) (List.mem_append_right _ (List.mem_append_right _ (cK hb e)))).1,fun b hb=>?_,w7⟩
   obtain ⟨o,e,d⟩:=T.obj _ _ qp b hb
   exact (I7.pin (b,o) (List.mem_append_right _ (List.mem_append_right _ (cK hb e)))).2.1
  cases f with
  | next=>obtain ⟨σ7,H7,I7,n7⟩:=q7;exact again I7 n7
  | cont=>obtain ⟨σ7,H7,I7,n7⟩:=q7;exact again I7 n7
  | brk=>obtain ⟨σ7,H7,I7,q7⟩:=q7;exact ⟨σ7,H7,I7.Ct,q7⟩
  | ret v=>obtain ⟨x7,σ7,H7,I7,r7,q7⟩:=q7;exact ⟨x7,σ7,H7,I7.Ct,r7,q7⟩
abbrev R2:=V->V->Hp->VK->Prop
def cu (X:Cx) (f:Value->Value->Sem Value) (r:R2):Prop:=
 ∀ (pins:List (Addr×Obj)) (s:Shared) (σ:St) (H:Hp) (x y:V) (v u:Value) (Q:VK),Inv X pins σ H s->RelV x v->RelV y u->r x y H Q->
  wpAny (model X.prog X.w) X.A (f v u) (EP X pins σ Q) X.xe s
def Fv (X:Cx) (f:Value->Sem Value) (r:V->Hp->VK->Prop):Prop:=
 ∀ (pins:List (Addr×Obj)) (s:Shared) (σ:St) (H:Hp) (x:V) (v:Value) (Q:VK),Inv X pins σ H s->RelV x v->r x H Q->
  wpAny (model X.prog X.w) X.A (f v) (EP X pins σ Q) X.xe s
def jp (X:Cx) (f:Value) (r:List V->Hp->VK->Prop):Prop:=
 ∀ (pins:List (Addr×Obj)) (s:Shared) (σ:St) (H:Hp) (xs:List V) (us:List Value) (Q:VK),Inv X pins σ H s->bg xs us->r xs H Q->
  wpAny (model X.prog X.w) X.A (call f us) (EP X pins σ Q) X.xe s
def ky (r:R2) (ta tb:TE):TE:=fun σ H Q=>ta σ H fun x H1=>tb σ H1 fun y H2=>r x y H2 Q
def K1 (r:V->Hp->VK->Prop) (ta:TE):TE:=fun σ H Q=>ta σ H fun x H1=>r x H1 Q
def rI (C:Int->Int->Prop) (g:Int->Int->V):R2:=fun x y H Q=>∃ i j,x=.int i/\y=.int j/\C i j/\Q (g i j) H
def Bx (g:Int->Int->V):R2:=fun x y H Q=>∃ i j,x=.int i/\y=.int j/\Q (g i j) H
def rU (g:Int->V):V->Hp->VK->Prop:=fun x H Q=>∃ i,x=.int i/\Q (g i) H
section
variable {a b c:Expr} {ta tb tc:TE} {pos:Pos}
theorem Hl (ha:PE X a ta) (hb:PE X b tb) {R:V->V->Hp->Prop} (I:Inv X pins σ H s)
  (h:ta σ H fun x H1=>tb σ H1 fun y H2=>R x y H2) {Q:Value->Shared->Prop} {f:Value->Value->Sem Value}
  (hf:∀ v u s2 x y H2,Inv X pins σ H2 s2->RelV x v->RelV y u->R x y H2->wpAny (model X.prog X.w) X.A (f v u) Q X.xe s2):
  wpAny (model X.prog X.w) X.A (eval a X.env) (fun v s₁=>wpAny (model X.prog X.w) X.A (eval b X.env) (fun u s₂=>wpAny (model X.prog X.w) X.A (f v u) Q X.xe s₂) X.xe s₁) X.xe s:=by
 refine av (ha pins s σ H _ I h) ?_
 rintro v s1 ⟨x,H1,I1,r1,q1⟩
 refine av (hb pins s1 σ H1 _ I1 q1) ?_
 rintro u s2 ⟨y,H2,I2,r2,q2⟩
 exact hf v u s2 x y H2 I2 r1 r2 q2
theorem RB {op:Operator} {r:R2} (ho:cu X (binaryOp op) r) (ha:PE X a ta) (hb:PE X b tb):PE X (.BinOp a op b pos) (ky r ta tb):=by
 intro pins s σ H Q I h
 exact wpAny_BinOp (Hl ha hb I h fun v u s2 x y H2 I2 rx ry q=>ho pins s2 σ H2 x y v u Q I2 rx ry q)
theorem RC {op:UnaryOp} {r:V->Hp->VK->Prop} (ho:Fv X (unaryOp op) r) (ha:PE X a ta):PE X (.UnaryOp op a pos) (K1 r ta):=by
 intro pins s σ H Q I h
 exact UnaryOp_ (av (ha pins s σ H _ I h) fun v s1 ⟨x,H1,I1,r1,q1⟩=>ho pins s1 σ H1 x v Q I1 r1 q1)
theorem Fw {C:Int->Int->Prop} {g:Int->Int->Int}
  (rule:∀ (i j:Int) (t u:Tok) (s:Shared) (Q:Value->Shared->Prop) (E:Value->Shared->Prop),C i j->Q (.int (g i j) s.toks) {s with toks:=s.toks+1}->wpAny (model X.prog X.w) X.A (f (.int i t) (.int j u)) Q E s):
  cu X f (rI C fun i j=>.int (g i j)):=by
 intro pins s σ H x y v u Q I rx ry h
 obtain ⟨i,j,rfl,rfl,hc,q⟩:=h
 obtain ⟨t,rfl⟩:=rx
 obtain ⟨t',rfl⟩:=ry
 exact rule i j t t' s _ _ hc ⟨.int (g i j),H,I.tok _,⟨_,rfl⟩,q⟩
theorem K2 {g:Int->Int->Int}
  (rule:∀ (i j:Int) (t u:Tok) (s:Shared) (Q:Value->Shared->Prop) (E:Value->Shared->Prop),Q (.int (g i j) s.toks) {s with toks:=s.toks+1}->wpAny (model X.prog X.w) X.A (f (.int i t) (.int j u)) Q E s):
  cu X f (Bx fun i j=>.int (g i j)):=by
 intro pins s σ H x y v u Q I rx ry h
 obtain ⟨i,j,rfl,rfl,q⟩:=h
 obtain ⟨t,rfl⟩:=rx
 obtain ⟨t',rfl⟩:=ry
 exact rule i j t t' s _ _ ⟨.int (g i j),H,I.tok _,⟨_,rfl⟩,q⟩
theorem Ho {g:Int->Int->Bool}
  (rule:∀ (i j:Int) (t u:Tok) (s:Shared) (Q:Value->Shared->Prop) (E:Value->Shared->Prop),Q (.bool (g i j)) s->wpAny (model X.prog X.w) X.A (f (.int i t) (.int j u)) Q E s):
  cu X f (Bx fun i j=>.bl (g i j)):=by
 intro pins s σ H x y v u Q I rx ry h
 obtain ⟨i,j,rfl,rfl,q⟩:=h
 obtain ⟨t,rfl⟩:=rx
 obtain ⟨t',rfl⟩:=ry
 exact rule i j t t' s _ _ ⟨.bl (g i j),H,I,rfl,q⟩
def RD (i j:Int):Prop:=0 < j/\j < 1073741824
def K3 (i j:Int):Prop:=0<=j/\j<=1000000/\i.natAbs < 2^64
def Cu (i j:Int):Prop:=(-(2^64) < i/\i < 2^64)\/(-(2^64) < j/\j < 2^64)
theorem Cu.ok {i j:Int} (h:Cu i j):IntMulOk i j:=by
 rcases h with ⟨h1,h2⟩ | ⟨h1,h2⟩
 ·exact .of_left (intBits_le_64 h1 h2)
 ·exact .of_right (intBits_le_64 h1 h2)
theorem RE:cu X (binaryOp .Add) (Bx fun i j=>.int (i+j)):=K2 fun _ _ _ _ _ _ _ q=>add_int q
theorem RG:cu X (binaryOp .Sub) (Bx fun i j=>.int (i - j)):=K2 fun _ _ _ _ _ _ _ q=>sub_int q
theorem RI:cu X (binaryOp .Mult) (rI Cu fun i j=>.int (i*j)):=Fw fun _ _ _ _ _ _ _ hc q=>mul_int q hc.ok
theorem RJ:cu X (binaryOp .FloorDiv) (rI RD fun i j=>.int (i / j)):=Fw fun i j _ _ _ _ _ hc q=>by
 have h1:(0:Int) < j:=hc.1
 have h2:j < 1073741824:=hc.2
 exact floordiv_int (by omega) (by rw [Int.fdiv_eq_ediv_of_nonneg i (by omega)];exact q) (.inl (PyProof.noPylong_small (by omega)))
theorem RK:cu X (binaryOp .Mod) (rI (fun _ j=>0 < j) fun i j=>.int (i % j)):=Fw fun i j _ _ _ _ _ hc q=>by
 have h1:(0:Int) < j:=hc
 exact mod_int' (by omega) (by rw [Int.fmod_eq_emod_of_nonneg i (by omega)];exact q)
theorem RL:cu X (binaryOp .Pow) (rI K3 fun i j=>.int (i^j.toNat)):=Fw fun _ _ _ _ _ _ _ hc q=>pow_int_small hc.1 hc.2.1 hc.2.2 q
theorem RN {f:Value->Sem Value} {g:Int->Int}
  (rule:∀ (i:Int) (t:Tok) (s:Shared) (Q:Value->Shared->Prop) (E:Value->Shared->Prop),Q (.int (g i) s.toks) {s with toks:=s.toks+1}->wpAny (model X.prog X.w) X.A (f (.int i t)) Q E s):
  Fv X f (rU fun i=>.int (g i)):=by
 intro pins s σ H x v Q I rx h
 obtain ⟨i,rfl,q⟩:=h
 obtain ⟨t,rfl⟩:=rx
 exact rule i t s _ _ ⟨.int (g i),H,I.tok _,⟨_,rfl⟩,q⟩
theorem uV:Fv X (unaryOp .USub) (rU fun i=>.int (-i)):=RN fun _ _ _ _ _ q=>neg_int q
end
def DF:V->V->Bool
 | .ai,.ai=>true | .ai,.int _=>true | .int _,.ai=>true | .ai,.bl _=>true | .bl _,.ai=>true | .ai,.str _=>true | .str _,.ai=>true
 | .int _,.int _=>true | .bl _,.bl _=>true | .str _,.str _=>true | .rm _,.rm _=>true
 | .int _,.str _=>true | .str _,.int _=>true | .bl _,.str _=>true | .str _,.bl _=>true
 | _,_=>false
def RP:R2:=fun x y H Q=>DF x y=true/\Q (.bl (decide (x=y))) H
def RQ:R2:=fun x y H Q=>DF x y=true/\Q (.bl (!decide (x=y))) H
theorem wA {i j:Int}:decide (V.int i=V.int j)=(i==j):=by
 rw [Bool.eq_iff_iff]
 simp
theorem zV {i j:Bool}:decide (V.bl i=V.bl j)=(i==j):=by
 rw [Bool.eq_iff_iff]
 simp
theorem vX {i j:Str}:decide (V.str i=V.str j)=(i==j):=by
 rw [Bool.eq_iff_iff]
 simp
theorem wC {i j:Array UInt8}:decide (V.rm i=V.rm j)=(i.toList==j.toList):=by
 rw [Bool.eq_iff_iff]
 cases i
 cases j
 simp
section
variable {a b c:Expr} {ta tb tc:TE} {pos:Pos}
theorem bB {Q:VK} {k k':Bool} (I:Inv X pins σ H s) (q:Q (.bl k) H) (e:k=k'):EP X pins σ Q (.bool k') s:=by
 subst e
 exact ⟨.bl k,H,I,rfl,q⟩
theorem RS:cu X (compareOp .Eq) RP:=by
 intro pins s σ H x y v u Q I rx ry h
 obtain ⟨hs,q⟩:=h
 cases x with
 | ai=>
  cases rx
  cases y with
  | ai=>cases ry;exact PySem.EqNone.eq_none_none (bB I q (by simp))
  | bl j=>cases ry;exact PySem.EqNone.eq_none_bool (bB I q (by simp))
  | int j=>obtain ⟨t',rfl⟩:=ry;exact PySem.EqNone.eq_none_int (bB I q (by simp))
  | str j=>obtain ⟨t',rfl⟩:=ry;exact PySem.EqNone.eq_none_str (bB I q (by simp))
  | _=>exact absurd (show false=true from hs) Bool.false_ne_true
 | bl i=>
  cases rx
  cases y with
  | ai=>cases ry;exact PySem.EqNone.eq_bool_none (bB I q (by simp))
  | bl j=>cases ry;exact eq_bool (bB I q zV)
  | str j=>obtain ⟨t',rfl⟩:=ry;exact PySem.EqMixed.eq_bool_str (bB I q (by simp))
  | _=>exact absurd (show false=true from hs) Bool.false_ne_true
 | int i=>
  obtain ⟨t,rfl⟩:=rx
  cases y with
  | ai=>cases ry;exact PySem.EqNone.eq_int_none (bB I q (by simp))
  | int j=>obtain ⟨t',rfl⟩:=ry;exact eq_int (bB I q wA)
  | str j=>obtain ⟨t',rfl⟩:=ry;exact PySem.EqMixed.eq_int_str (bB I q (by simp))
  | _=>exact absurd (show false=true from hs) Bool.false_ne_true
 | str i=>
  obtain ⟨t,rfl⟩:=rx
  cases y with
  | ai=>cases ry;exact PySem.EqNone.eq_str_none (bB I q (by simp))
  | bl j=>cases ry;exact PySem.EqMixed.eq_str_bool (bB I q (by simp))
  | int j=>obtain ⟨t',rfl⟩:=ry;exact PySem.EqMixed.eq_str_int (bB I q (by simp))
  | str j=>obtain ⟨t',rfl⟩:=ry;exact eq_str (bB I q vX)
  | _=>exact absurd (show false=true from hs) Bool.false_ne_true
 | rm i=>
  obtain ⟨t,rfl⟩:=rx
  cases y with
  | rm j=>obtain ⟨t',rfl⟩:=ry;exact PySem.W.eq_bytes (bB I q wC)
  | _=>exact absurd (show false=true from hs) Bool.false_ne_true
 | _=>cases y<;>exact absurd (show false=true from hs) Bool.false_ne_true
theorem RU:cu X (compareOp .NotEq) RQ:=by
 intro pins s σ H x y v u Q I rx ry h
 obtain ⟨hs,q⟩:=h
 cases x with
 | ai=>
  cases rx
  cases y with
  | ai=>cases ry;exact PySem.EqNone.ne_none_none (bB I q (by simp))
  | bl j=>cases ry;exact PySem.EqNone.ne_none_bool (bB I q (by simp))
  | int j=>obtain ⟨t',rfl⟩:=ry;exact PySem.EqNone.ne_none_int (bB I q (by simp))
  | str j=>obtain ⟨t',rfl⟩:=ry;exact PySem.EqNone.ne_none_str (bB I q (by simp))
  | _=>exact absurd (show false=true from hs) Bool.false_ne_true
 | bl i=>
  cases rx
  cases y with
  | ai=>cases ry;exact PySem.EqNone.ne_bool_none (bB I q (by simp))
  | bl j=>cases ry;exact ne_bool (bB I q (congrArg not zV))
  | str j=>obtain ⟨t',rfl⟩:=ry;exact PySem.EqMixed.ne_bool_str (bB I q (by simp))
  | _=>exact absurd (show false=true from hs) Bool.false_ne_true
 | int i=>
  obtain ⟨t,rfl⟩:=rx
  cases y with
  | ai=>cases ry;exact PySem.EqNone.ne_int_none (bB I q (by simp))
  | int j=>obtain ⟨t',rfl⟩:=ry;exact ne_int (bB I q (congrArg not wA))
  | str j=>obtain ⟨t',rfl⟩:=ry;exact PySem.EqMixed.ne_int_str (bB I q (by simp))
  | _=>exact absurd (show false=true from hs) Bool.false_ne_true
 | str i=>
  obtain ⟨t,rfl⟩:=rx
  cases y with
  | ai=>cases ry;exact PySem.EqNone.ne_str_none (bB I q (by simp))
  | bl j=>cases ry;exact PySem.EqMixed.ne_str_bool (bB I q (by simp))
  | int j=>obtain ⟨t',rfl⟩:=ry;exact PySem.EqMixed.ne_str_int (bB I q (by simp))
  | str j=>obtain ⟨t',rfl⟩:=ry;exact ne_str (bB I q (congrArg not vX))
  | _=>exact absurd (show false=true from hs) Bool.false_ne_true
 | rm i=>
  obtain ⟨t,rfl⟩:=rx
  cases y with
  | rm j=>obtain ⟨t',rfl⟩:=ry;exact PySem.W.ne_bytes (bB I q (congrArg not wC))
  | _=>exact absurd (show false=true from hs) Bool.false_ne_true
 | _=>cases y<;>exact absurd (show false=true from hs) Bool.false_ne_true
theorem RW:cu X (compareOp .Lt) (Bx fun i j=>.bl (decide (i < j))):=Ho fun _ _ _ _ _ _ _ q=>lt_int q
theorem RX:cu X (compareOp .Gt) (Bx fun i j=>.bl (decide (j < i))):=Ho fun _ _ _ _ _ _ _ q=>gt_int q
theorem RY:cu X (compareOp .GtE) (Bx fun i j=>.bl (decide (j<=i))):=Ho fun _ _ _ _ _ _ _ q=>ge_int q
theorem wW:cu X (compareOp .Lt) (fun x y H Q=>∃ i j,x=.str i/\y=.str j/\Q (.bl (decide (i.cps.toList < j.cps.toList))) H):=by
 intro pins s σ H x y v u Q I rx ry h
 obtain ⟨i,j,rfl,rfl,q⟩:=h
 obtain ⟨t,rfl⟩:=rx
 obtain ⟨t',rfl⟩:=ry
 exact lt_str (bB I q rfl)
theorem yT:cu X (compareOp .In) (fun x y H Q=>∃ i j,x=.str i/\y=.str j/\Q (.bl (!(Builtin.Str.occurrences j i 0 j.length 1).isEmpty)) H):=by
 intro pins s σ H x y v u Q I rx ry h
 obtain ⟨i,j,rfl,rfl,q⟩:=h
 obtain ⟨t,rfl⟩:=rx
 obtain ⟨t',rfl⟩:=ry
 exact in_str (bB I q rfl)
theorem RZ:cu X (compareOp .Is) (fun x y H Q=>y=.ai/\Q (.bl (decide (x=.ai))) H):=by
 intro pins s σ H x y v u Q I rx ry h
 obtain ⟨rfl,q⟩:=h
 cases ry
 refine is_none_gen (bB I q ?_)
 cases x<;>first
  | (cases rx;rfl)
  | (obtain ⟨t,rfl⟩:=rx;rfl)
theorem R0:cu X (compareOp .IsNot) (fun x y H Q=>y=.ai/\Q (.bl (!decide (x=.ai))) H):=by
 intro pins s σ H x y v u Q I rx ry h
 obtain ⟨rfl,q⟩:=h
 cases ry
 refine isnot_none_gen (bB I q ?_)
 cases x<;>first
  | (cases rx;rfl)
  | (obtain ⟨t,rfl⟩:=rx;rfl)
theorem oP:cu X (compareOp .NotIn) (fun x y H Q=>∃ i j,x=.str i/\y=.str j/\Q (.bl (!(!(Builtin.Str.occurrences j i 0 j.length 1).isEmpty))) H):=by
 intro pins s σ H x y v u Q I rx ry h
 obtain ⟨i,j,rfl,rfl,q⟩:=h
 obtain ⟨t,rfl⟩:=rx
 obtain ⟨t',rfl⟩:=ry
 exact notIn_str (bB I q rfl)
theorem cy (b:Expr) (h:op≠.In:=by decide) (h2:op≠.NotIn:=by decide):behindInMarks op b=false:=by
 have e1:(op==CmpOp.In)=false:=by cases op<;>first | rfl | exact absurd rfl h
 have e2:(op==CmpOp.NotIn)=false:=by cases op<;>first | rfl | exact absurd rfl h2
 cases b<;>simp [behindInMarks,e1,e2]
theorem R1 {r:R2} (ho:cu X (compareOp op) r) (ha:PE X a ta) (hb:PE X b tb) (hm:behindInMarks op b=false):PE X (.Compare a [op] [b] pos) (ky r ta tb):=by
 intro pins s σ H Q I h
 exact wpAny_Compare1 (Hl ha hb I h fun v u s2 x y H2 I2 rx ry q=>ho pins s2 σ H2 x y v u Q I2 rx ry q) hm
def Fx (t:TE):TT:=fun σ H Q=>t σ H fun x H'=>∃ k,x=.bl k/\Q k H'
theorem R3 {r:R2} (ho:cu X (compareOp op) r) (ha:PE X a ta) (hb:PE X b tb) (hm:behindInMarks op b=false):PT X (.Compare a [op] [b] pos) (Fx (ky r ta tb)):=by
 intro pins s σ H Q I h
 refine wpAny_isTrue_Compare1 (av (ha pins s σ H _ I h) fun v s1 ⟨x,H1,I1,r1,q1⟩=>av (hb pins s1 σ H1 _ I1 q1) fun u s2 ⟨y,H2,I2,r2,q2⟩=>
  av (ho pins s2 σ H2 x y v u _ I2 r1 r2 q2) fun c s3 ⟨z,H3,I3,r3,k,e,q3⟩=>?_) hm
 subst e
 cases r3
 exact wpAny_truthy_bool ⟨H3,I3,q3⟩
theorem DG:(sizeLine:Nat) < 2^63:=by rw [QL];decide
theorem uB:cu X (binaryOp .Add) (fun x y H Q=>∃ i j,x=.str i/\y=.str j/\i.length+j.length<=sizeLine/\Q (.str (i++j)) H):=by
 intro pins s σ H x y v u Q I rx ry h
 obtain ⟨i,j,rfl,rfl,hz,q⟩:=h
 obtain ⟨t,rfl⟩:=rx
 obtain ⟨t',rfl⟩:=ry
 exact add_str (fun t' tk=>⟨.str (i++j),H,I.tok _,⟨_,rfl⟩,q⟩) hz
theorem vals1 {x:V} (r:bg [x] us):∃ u,us=[u]/\RelV x u:=by
 cases r with
 | cons r1 r2=>cases r2;exact ⟨_,rfl,r1⟩
def R4 (K:Q0) (x:V) (H:Hp) (n:Nat):Prop:=
 match x with
 | .str y=>y.length<=sizeLine/\n=y.length
 | .rm y=>y.size<=sizeLine/\n=y.size
 | .ref p=>(∃ xs,aj K H p xs/\n=xs.length)\/∃ xs,af K H p xs/\n=xs.length
 | _=>False
theorem mF:jp X (.builtin "len") (fun xs H Q=>∃ x n,xs=[x]/\R4 X.K x H n/\Q (.int n) H):=by
 intro pins s σ H xs us Q I r h
 obtain ⟨x,n,rfl,e,q⟩:=h
 obtain ⟨u,rfl,rx⟩:=vals1 r
 have hl:=DG
 have hs:sizeLine=16777216:=QL
 cases x with
 | str y=>
  obtain ⟨t,rfl⟩:=rx
  obtain ⟨hy,e'⟩:y.length<=sizeLine/\n=y.length:=e
  subst e'
  exact len_str (by omega) ⟨.int _,H,I.tok _,⟨_,rfl⟩,q⟩
 | rm y=>
  obtain ⟨t,rfl⟩:=rx
  obtain ⟨hy,e'⟩:y.size<=sizeLine/\n=y.size:=e
  subst e'
  exact PySem.W.len_bytes (by omega) ⟨.int _,H,I.tok _,⟨_,rfl⟩,q⟩
 | ref p=>
  cases rx
  have e':(∃ xs,aj X.K H p xs/\n=xs.length)\/∃ xs,af X.K H p xs/\n=xs.length:=e
  rcases e' with ⟨xs,hx,e'⟩ | ⟨xs,hx,e'⟩
  ·subst e'
   obtain ⟨its,r',pl,hz⟩:=I.list hx
   have fc:=r'.length
   exact Calls.call_len_list pl.isList (by simp only [List.size_toArray];omega) ⟨.int xs.length,H,I.tok _,⟨_,by simp only [List.size_toArray];rw [fc]⟩,q⟩
  ·subst e'
   obtain ⟨its,r',pl,hz⟩:=I.tuple hx
   have fc:=r'.length
   exact len_tuple pl (by simp only [List.size_toArray];omega) ⟨.int xs.length,H,I.tok _,⟨_,by simp only [List.size_toArray];rw [fc]⟩,q⟩
 | _=>exact (show False from e).elim
end
structure Cv (h:Heap) (x dx C:Addr) (mA:Str->Option Value):Prop where
 obj:h.get? x=some (PySem.W.instObj C dx)
 ns:h.Ns1 dx mA
 ne:dx≠x
theorem xN {dx:Addr} (n:h.Ns1 dx mA):∃ od,h.get? dx=some od/\∀ name,PySem.W.lookIn name od=some (mA name):=by
 obtain ⟨o,es,ep,ho,hd,hk,_,hm⟩:=n
 refine ⟨o,ho,fun name=>?_⟩
 have e:=hm name
 unfold nsFind findBy at e
 rw [<- Array.find?_toList] at e
 unfold PySem.W.lookIn
 rw [hd]
 dsimp only
 split
 ·rename_i y q
  rw [q] at e
  exact congrArg some e
 ·rename_i q
  rw [q] at e
  have a:es.toList.any (·.refKey)=false:=by
   rw [List.any_eq_false]
   intro y hy
   obtain ⟨z,t,R5⟩:=hk y (Array.mem_toList_iff.mp hy)
   simp [DictEntry.refKey,R5]
  have a':¬es.toList.any (·.refKey)=true:=by rw [a];exact Bool.false_ne_true
  rw [if_neg a']
  exact congrArg some e
theorem Cv.look {x dx:Addr} (I:Cv h x dx C mA):∃ od,PySem.W.InstAt h x (PySem.W.instObj C dx) C (some od)/\∀ name,PySem.W.lookIn name od=some (mA name):=
 let ⟨od,ho,hl⟩:=xN I.ns
 ⟨od,⟨I.obj,rfl,rfl,ho⟩,hl⟩
section
variable {K:Q0} {x dx f:Addr} {v:Value}
theorem R6 {expr:Bool} (X:K.In s.heap) (I:Cv s.heap x dx C mA) (hg:PySem.W.plainGet K C name=true) (hh:PySem.W.hasDictIn K C=true)
  (ha:PySem.W.findIn K (.ref C) name=some none) (hv:mA name=some v) (DH:PySem.W.handedIn v=true) (h:Q v {s with toks:=s.toks+1}):
  wpAny (model prog w) A (getAttr (.ref x) name expr) Q E s:=by
 obtain ⟨od,J,hl⟩:=I.look
 exact PySem.W.get_value X J (PySem.W.plainGet_of hg).1 (PySem.W.findObj_own hh ha rfl (by rw [hl,hv])) DH h
theorem R7 {Q:Unit->Shared->Prop} (X:K.In s.heap) (I:Cv s.heap x dx C mA)
  (hs:PySem.W.findIn K (.ref C) "__setattr__"=some (some (.builtin "object.__setattr__"))) (hp:PySem.W.plainOver K C=true) (ht:PySem.W.takerIn K C name=some none) (hh:PySem.W.hasDictIn K C=true)
  (hw:PySem.Within mA ns) (hsz:ns.length<=sizeLine)
  (h:∀ h',Cv h' x dx C (fun y=>if y=name then some v else mA y)->Heap.SameBut dx s.heap h'->Q () {s with heap:=h',toks:=s.toks+2}):
  wpAny (model prog w) A (setAttr (.ref x) name v) Q E s:=by
 obtain ⟨od,J,hl⟩:=I.look
 refine PySem.W.set_plain X J hs (PySem.W.osa_open (s:={s with toks:=s.toks+1}) (r:=none) X J hp ht fun b=>?_)
 obtain ⟨cd,hc,zg⟩:=PySem.W.any_some hh
 have hx:s.heap.get? x=some ⟨.ref C,some dx,.plain,#[]⟩:=I.obj
 refine QT (QU (QT (QT (wpAny_loadPart hx (QT (PySem.W.Looks.here (s:={s with toks:=s.toks+1}) (PySem.W.looks_clsIn X hc) ?_))))))
 rw [zg]
 refine QU (a:=some dx) (QT (QU (QT ?_)))
 refine wpAny_nsSet1 (s:={s with toks:=s.toks+1}) I.ns fun h' hn2 zm=>?_
 obtain ⟨oD,esD,epD,R8,R9,R_⟩:=hn2.count (PySem.Within.cons name v hw)
 refine QT (wpAny_lookBehind R8 (by rw [R9];exact pastItsLine_dict (Nat.le_trans R_ (by rw [List.length_cons];omega))) ?_)
 exact QU (h _ ⟨(zm.2 _ (Ne.symm I.ne)).trans I.obj,hn2,I.ne⟩ zm)
theorem Sa (X:K.In s.heap) (hm:PySem.W.makesIn K C=true)
  (hi:PySem.W.findIn K (.ref C) "__init__"=some (some (.ref f))) (hf:PySem.W.typeIn K (.ref f)=some (.type "function"))
  (h:codeAny (model prog w) (A.under (.builtin "type.__call__" ⟨.ref C::vs,kw⟩)) (.call (.ref f) ⟨.ref (s.heap.objs.size+1)::vs,kw⟩) (PySem.W.InitBack (s.heap.objs.size+1) R)
   {s with heap:=(s.heap.push PySem.W.emptyDict).push (PySem.W.instObj C s.heap.objs.size)}):
  codeAny (model prog w) A (.call (.ref C) ⟨vs,kw⟩) R s:=by
 obtain ⟨hh,g,d,t,os⟩:=s
 exact PySem.W.make_core (PySem.W.makes_of X hm) (PySem.W.looks_findIn X hi) (fun self=>PySem.W.bind_fn X self hf) (.inl rfl) h
end
def dg (f:Str) (v:V):List (Str×V)->List (Str×V)
 | []=>[(f,v)]
 | (g,x)::r=>if g=f then (g,v)::r else (g,x)::dg f v r
theorem cJ (f g:Str) (v:V):∀ fs:List (Str×V),(dg f v fs).lookup g=if g=f then some v else fs.lookup g
 | []=>by
  show List.lookup g [(f,v)]=_
  by_cases h:g=f
  ·have hb:(g==f)=true:=beq_iff_eq.mpr h
   simp only [List.lookup,hb,if_pos h]
  ·have hb:(g==f)=false:=beq_eq_false_iff_ne.mpr h
   simp only [List.lookup,hb,if_neg h]
 | (k,x)::r=>by
  have ih:=cJ f g v r
  rw [show dg f v ((k,x)::r)=(if k=f then (k,v)::r else (k,x)::dg f v r) from rfl]
  by_cases hk:k=f
  ·rw [if_pos hk]
   by_cases h:g=k
   ·have hb:(g==k)=true:=beq_iff_eq.mpr h
    simp only [List.lookup,hb,if_pos (h.trans hk)]
   ·have hb:(g==k)=false:=beq_eq_false_iff_ne.mpr h
    simp only [List.lookup,hb,if_neg (fun e:g=f=>h (e.trans hk.symm))]
  ·rw [if_neg hk]
   by_cases h:g=k
   ·have hb:(g==k)=true:=beq_iff_eq.mpr h
    simp only [List.lookup,hb,if_neg (fun e:g=f=>hk (h.symm.trans e))]
   ·have hb:(g==k)=false:=beq_eq_false_iff_ne.mpr h
    simp only [List.lookup,hb]
    exact ih
theorem kC (f:Str) (v:V):∀ fs:List (Str×V),f∈(dg f v fs).map (·.1)/\∀ g,g∈fs.map (·.1)->g∈(dg f v fs).map (·.1)
 | []=>⟨by simp [dg],fun g h=>by simp at h⟩
 | (k,x)::r=>by
  obtain ⟨i1,i2⟩:=kC f v r
  rw [show dg f v ((k,x)::r)=(if k=f then (k,v)::r else (k,x)::dg f v r) from rfl]
  by_cases hk:k=f
  ·rw [if_pos hk]
   subst hk
   exact ⟨by simp,fun g h=>by simpa using h⟩
  ·rw [if_neg hk]
   refine ⟨?_,fun g h=>?_⟩
   ·rw [List.map_cons]
    exact Qh _ i1
   ·rw [List.map_cons] at h ⊢
    rcases Qp.mp h with e | e
    ·exact Qp.mpr (.inl e)
    ·exact Qh _ (i2 g e)
theorem cL (f:Str) (v:V):∀ fs:List (Str×V),(dg f v fs).length<=fs.length+1
 | []=>by simp [dg]
 | (k,x)::r=>by
  have ih:=cL f v r
  rw [show dg f v ((k,x)::r)=(if k=f then (k,v)::r else (k,x)::dg f v r) from rfl]
  by_cases hk:k=f
  ·rw [if_pos hk,List.length_cons,List.length_cons];omega
  ·rw [if_neg hk,List.length_cons,List.length_cons];omega
theorem oq.some_of {v:V} {o:Option Value} (r:oq (some v) o):∃ u,o=some u/\RelV v u:=by
 cases o with
 | none=>exact (show False from r).elim
 | some u=>exact ⟨u,rfl,r⟩
theorem yJ {v:V} (r:RelV v u):PySem.W.handedIn u=true:=by
 cases v with
 | ai=>cases (show u=Value.none from r);rfl
 | bl b=>cases (show u=Value.bool b from r);rfl
 | int i=>obtain ⟨t,e⟩:=(show ∃ t,u=Value.int i t from r);cases e;rfl
 | str x=>obtain ⟨t,e⟩:=(show ∃ t,u=Value.str x t from r);cases e;rfl
 | rm b=>obtain ⟨t,e⟩:=(show ∃ t,u=Value.bytes b t from r);cases e;rfl
 | Bh b=>obtain ⟨t,e⟩:=(show ∃ t,u=Value.float b t from r);cases e;rfl
 | ref a=>cases (show u=Value.ref a from r);rfl
 | ty n=>cases (show u=Value.type n from r);rfl
section
variable {dx:Addr} {fs zd:List (Str×V)}
theorem qC (hok:fm P w H h) (e:H a=some (.ins C dx fs)):∃ mA,Cv h a dx C mA/\(∀ f,oq (fs.lookup f) (mA f))/\PySem.Within mA (fs.map (·.1))/\fs.length<=1000/\H dx=some (.own a):=by
 obtain ⟨d,z,ne,ob,mA,n,r,q⟩:=(show cz P w H h a (.ins C dx fs) from hok a _ e)
 exact ⟨mA,⟨ob,n,ne⟩,r,q,z,d⟩
end
structure yj (K:Q0) (C:Addr):Prop where
 pg:PySem.W.plainGet K C Str.empty=true
 hd:PySem.W.hasDictIn K C=true
 po:PySem.W.plainOver K C=true
 sa:PySem.W.findIn K (.ref C) "__setattr__"=some (some (.builtin "object.__setattr__"))
theorem yj.get {K:Q0} (c:yj K C) (f:Str):PySem.W.plainGet K C f=true:=c.pg
def yk (K:Q0) (C:Addr) (f:Str):Prop:=PySem.W.findIn K (.ref C) f=some none
theorem yk.Sb {K:Q0} {f:Str} (n:yk K C f):PySem.W.takerIn K C f=some none:=by
 unfold PySem.W.takerIn
 rw [show PySem.W.findIn K (.ref C) f=some none from n]
 rfl
section
variable {dx:Addr} {fs:List (Str×V)} {f:Str} {v:V}
theorem tG {b:Bool} (I:Inv X pins σ H s) (e:H a=some (.ins C dx fs)) (c:yj X.K C) (n:yk X.K C f) (l:fs.lookup f=some v)
  (h:∀ u s',Inv X pins σ H s'->RelV v u->Q u s'):wpAny (model X.prog X.w) A (getAttr (.ref a) f b) Q E s:=by
 obtain ⟨mA,O,r,_,_,_⟩:=qC I.hok e
 obtain ⟨u,hu,ru⟩:=oq.some_of (v:=v) (o:=mA f) (by rw [<- l];exact r f)
 exact R6 I.jb O (c.get f) c.hd n hu (yJ ru) (h u _ (I.tok _) ru)
theorem uE {y:V} {Q:Unit->Shared->Prop} (I:Inv X pins σ H s) (e:H a=some (.ins C dx fs)) (c:yj X.K C) (n:yk X.K C f) (hl:fs.length < 1000) (ry:RelV y u)
  (h:∀ s',Inv X pins σ (upd H a (.ins C dx (dg f y fs))) s'->Q () s'):wpAny (model X.prog X.w) A (setAttr (.ref a) f u) Q E s:=by
 obtain ⟨mA,O,r,wi,_,ho⟩:=qC I.hok e
 have hz:(fs.map (·.1)).length<=sizeLine:=by rw [Ql,QL];omega
 refine R7 I.jb O c.sa c.po n.Sb c.hd wi hz fun h' O' sb=>h _ ?_
 have hd:∃ o,h'.get? dx=some o:=let ⟨o,_,_,e',_⟩:=O'.ns;⟨o,e'⟩
 refine I.write (x:=a) (e:=dx) (by rw [e];exact True.intro) (.inr ho) (fun b q hb z=>(sb.2 b hb).trans z) hd ?_
 refine ⟨by rw [aF O.ne];exact ho,?_,O.ne,O'.obj,_,O'.ns,fun g=>?_,fun g hg=>?_⟩
 ·have:=cL f y fs;omega
 ·show oq ((dg f y fs).lookup g) (if g=f then some u else mA g)
  rw [cJ]
  by_cases q:g=f
  ·rw [if_pos q,if_pos q];exact ry
  ·rw [if_neg q,if_neg q];exact r g
 ·by_cases q:g=f
  ·rw [q];exact (kC f y fs).1
  ·refine (kC f y fs).2 g (wi g fun z=>hg ?_)
   show (if g=f then some u else mA g)=none
   rw [if_neg q];exact z
theorem Inv.made (I:Inv X pins σ H s):Inv X pins σ (upd (upd H s.heap.objs.size (.own (s.heap.objs.size+1))) (s.heap.objs.size+1) (.ins C s.heap.objs.size []))
  {s with heap:=(s.heap.push PySem.W.emptyDict).push (PySem.W.instObj C s.heap.objs.size)}:=by
 have e1:(s.heap.push PySem.W.emptyDict).get? s.heap.objs.size=some PySem.W.emptyDict:=Qd s.heap rfl
 have e2:((s.heap.push PySem.W.emptyDict).push (PySem.W.instObj C s.heap.objs.size)).get? (s.heap.objs.size+1)=some (PySem.W.instObj C s.heap.objs.size):=by
  have:=Qd (s.heap.push PySem.W.emptyDict) (o:=PySem.W.instObj C s.heap.objs.size) rfl
  rwa [Heap.size_push] at this
 have e3:(s.heap.push PySem.W.emptyDict).Ns s.heap.objs.size (fun _=>none):=⟨PySem.W.emptyDict,#[],_,e1,rfl,(fun e he=>absurd he (by simp)),fun _=>rfl⟩
 have I1:=I.laid (a:=s.heap.objs.size) (o:=.own (s.heap.objs.size+1)) (h':=s.heap.push PySem.W.emptyDict) (t':=s.toks) (fun b u q=>Qc _ q) (Qy _) ⟨_,e1⟩
 refine I1.laid (a:=s.heap.objs.size+1) (o:=.ins C s.heap.objs.size []) (t':=s.toks) (fun b u q=>Qc _ q) (Nat.le_of_eq (Heap.size_push _ _)) ?_
 have ne:s.heap.objs.size≠s.heap.objs.size+1:=Nat.ne_of_lt (Nat.lt_succ_self _)
 refine ⟨by rw [aF ne,aA],Nat.zero_le _,ne,e2,fun _=>none,(Heap.Ns1.of_empty e3).at fun o q=>Qc _ q,fun _=>True.intro,fun y hy=>absurd rfl hy⟩
theorem Sd {f:Str} {pos:Pos} (hb:attributeBase e f env (eval e env)=eval e env)
  (h:wpAny (model prog w) A (eval e env) (fun o s₁=>wpAny (model prog w) A (getAttr o f true) Q E s₁) E s):wpAny (model prog w) A (eval (.Attribute e f pos) env) Q E s:=
 Attribute_any_ h (by rw [arm_eval_Attribute,hb])
end
def K4 (K:Q0) (ta:TE) (f:Str):TE:=fun σ H Q=>ta σ H fun x H1=>∃ a C dx fs v,x=.ref a/\H1 a=some (.ins C dx fs)/\yj K C/\yk K C f/\fs.lookup f=some v/\Q v H1
def Fy (K:Q0) (ta tv:TE) (f:Str):TS:=fun D σ H=>tv σ H fun y H1=>ta σ H1 fun x H2=>∃ a C dx fs,x=.ref a/\H2 a=some (.ins C dx fs)/\yj K C/\yk K C f/\fs.length < 1000/\
 D.nx σ (upd H2 a (.ins C dx (dg f y fs)))
section
variable {o value:Expr} {f:Str} {pos pos' By:Pos} {ta tv:TE}
theorem Se (he:PE X e ta) (hb:attributeBase e f X.env (eval e X.env)=eval e X.env):PE X (.Attribute e f pos) (K4 X.K ta f):=by
 intro pins s σ H Q I h
 refine Sd hb (av (he pins s σ H _ I h) ?_)
 rintro u s1 ⟨x,H1,I1,rx,a,C,dx,fs,v,ex,ea,c,n,l,q⟩
 subst ex
 obtain rfl:u=Value.ref a:=rx
 exact tG I1 ea c n l fun u' s2 I2 ru=>⟨v,H1,I2,ru,q⟩
theorem Sf (ha:PE X o ta) (hv:PE X value tv) (hs:swapsWith value (some (.Attribute o f pos')) pos.line X.env=pure false):PS X (.Assign [.Attribute o f pos'] value pos) (Fy X.K ta tv f):=by
 intro pins s σ H D I h
 refine plainObj_wpAny_Assign_Attribute (av (hv pins s σ H _ I h) fun u s1 ⟨y,H1,I1,ry,q⟩=>av (ha pins s1 σ H1 _ I1 q) fun ov s2 ⟨x,H2,I2,rx,a,C,dx,fs,ex,ea,c,n,l,q2⟩=>?_) hs
 subst ex
 obtain rfl:ov=Value.ref a:=rx
 exact uE I2 ea c n l ry fun s3 I3=>⟨σ,_,I3,q2⟩
end
section
variable {c:Value} {b:Bool}
inductive ua (K:Q0) (H:Hp):V->Value->Prop where
 | ai:ua K H .ai (.type "NoneType")
 | bl (x:Bool):ua K H (.bl x) (.type "bool")
 | int (i:Int):ua K H (.int i) (.type "int")
 | str (x:Str):ua K H (.str x) (.type "str")
 | Bh (x:UInt64):ua K H (.Bh x) (.type "float")
 | lst {a:Addr} {xs:List V} (e:H a=some (.lst xs)):ua K H (.ref a) (.type "list")
 | az {a:Addr} {o:Obj} {xs:List V} (e:H a=some (.az o (.lst xs))):ua K H (.ref a) (.type "list")
 | tup {a:Addr} {xs:List V} (e:H a=some (.tup xs)):ua K H (.ref a) (.type "tuple")
 | dK {a:Addr} {kvs:List (Key×V)} (e:H a=some (.dK kvs)):ua K H (.ref a) (.type "dict")
 | dT {a:Addr} {kvs:List (List Key×V)} (e:H a=some (.dT kvs)):ua K H (.ref a) (.type "dict")
 | ins {a C dx:Addr} {fs:List (Str×V)} (e:H a=some (.ins C dx fs)) (cl:yj K C) (ha:PySem.W.findIn K (.ref C) "__class__"=some (some (.builtin "object.__class__")))
   (hn:PySem.W.specialIn K (.builtin "object.__class__") "__get__"=some (some (.builtin "getset_descriptor.__get__"))) (wq:PySem.W.takesIn K (.builtin "object.__class__")=some true)
   (hm:PySem.W.mroIn K C (.type "object")=some true):ua K H (.ref a) (.ref C)
theorem xB {x:V} {t:Value} (I:Inv X pins σ H s) (rx:RelV x u) (ty:ua X.K H x t) (e:PySem.W.kitOne X.K t c=some b) (h:∀ tk,Q (.bool b) {s with toks:=tk}):
  wpAny (model X.prog X.w) A (call (.builtin "isinstance") [u,c]) Q E s:=by
 cases ty with
 | ai=>cases (show u=Value.none from rx);exact PySem.W.kia_one PySem.W.kitx_none I.jb True.intro e (fun z=>nomatch z) h
 | bl y=>cases (show u=Value.bool y from rx);exact PySem.W.kia_one PySem.W.kitx_bool I.jb True.intro e (fun z=>nomatch z) h
 | int i=>obtain ⟨t,q⟩:=(show ∃ t,u=Value.int i t from rx);cases q;exact PySem.W.kia_one PySem.W.kitx_int I.jb True.intro e (fun z=>nomatch z) h
 | str y=>obtain ⟨t,q⟩:=(show ∃ t,u=Value.str y t from rx);cases q;exact PySem.W.kia_one PySem.W.kitx_str I.jb True.intro e (fun z=>nomatch z) h
 | Bh y=>obtain ⟨t,q⟩:=(show ∃ t,u=Value.float y t from rx);cases q;exact PySem.W.kia_one PySem.W.kitx_float I.jb True.intro e (fun z=>nomatch z) h
 | @lst a xs ea=>
  cases (show u=Value.ref a from rx)
  obtain ⟨_,_,n,_,h1⟩:=(show cz X.prog X.w H s.heap a (.lst xs) from I.hok a _ ea)
  exact PySem.W.kia_one PySem.W.kitx_list I.jb ⟨_,h1,rfl⟩ e (fun z=>nomatch z) h
 | @az a ob xs ea=>
  cases (show u=Value.ref a from rx)
  obtain ⟨_,_,_,n,_,h1⟩:=(show cz X.prog X.w H s.heap a (.az ob (.lst xs)) from I.hok a _ ea)
  exact PySem.W.kia_one PySem.W.kitx_list I.jb ⟨_,h1,rfl⟩ e (fun z=>nomatch z) h
 | @tup a xs ea=>
  cases (show u=Value.ref a from rx)
  obtain ⟨_,_,_,p⟩:=(show cz X.prog X.w H s.heap a (.tup xs) from I.hok a _ ea)
  obtain ⟨o,h1,h2,_⟩:=p
  exact PySem.W.kia_one PySem.W.kitx_tuple I.jb ⟨o,h1,h2⟩ e (fun z=>nomatch z) h
 | @dK a kvs ea=>
  cases (show u=Value.ref a from rx)
  obtain ⟨_,_,vs,_,p⟩:=(show cz X.prog X.w H s.heap a (.dK kvs) from I.hok a _ ea)
  obtain ⟨o,es,ep,h1,h2,_⟩:=p
  exact PySem.W.kia_one PySem.W.kitx_dict I.jb ⟨o,h1,h2.1⟩ e (fun z=>nomatch z) h
 | @dT a kvs ea=>
  cases (show u=Value.ref a from rx)
  obtain ⟨_,_,xs,_,o,es,ep,h1,h2,_⟩:=(show cz X.prog X.w H s.heap a (.dT kvs) from I.hok a _ ea)
  exact PySem.W.kia_one PySem.W.kitx_dict I.jb ⟨o,h1,h2.1⟩ e (fun z=>nomatch z) h
 | @ins a C dx fs ea cl ha hn wq hm=>
  cases (show u=Value.ref a from rx)
  obtain ⟨mA,O,_⟩:=qC I.hok ea
  obtain ⟨od,J,_⟩:=O.look
  exact PySem.W.kia_one (PySem.W.kitx_own (cl.get _) cl.hd ha hn wq hm) I.jb J e (fun z=>nomatch z) h
end
structure gk (k:Nat) (A:Around):Prop where
 hd:A.handled=none
 dp:A.depth+3*k+5 < recursionLimit
 un:A.units+16*k+200 < cLine
 gd:A.guards=some []
theorem gk.mono {k:Nat} (r:gk k A) (h:j<=k):gk j A:=⟨r.hd,by have:=r.dp;omega,by have:=r.un;omega,r.gd⟩
theorem gk.deeper {k:Nat} {A:Around} (r:gk (k+1) A) (env:Env):gk k (A.deeper env):=
 ⟨r.hd,by have:=r.dp;show A.depth+1+3*k+5 < _;omega,by have:=r.un;show A.units+3+16*k+200 < _;omega,r.gd⟩
theorem uP:(A.under (.builtin "type.__call__" ⟨.ref C::us,kw⟩)).depth=A.depth+1:=by
 first | rfl | simp [Around.under,Code.weight,Code.isCreation,Code.isGuard,Code.isCaller,Code.frames,Code.isFrame,guardIds]
theorem vA:(A.under (.builtin "type.__call__" ⟨.ref C::us,kw⟩)).units=A.units+1:=by
 first | rfl | simp [Around.under,Code.cUnits,Code.frames,Code.isFrame]
theorem rG (h:A.guards=some []):(A.under (.builtin "type.__call__" ⟨.ref C::us,kw⟩)).guards=some []:=by
 first | exact h | (simp [Around.under,pushGuards,Code.guards,Code.isGuard,guardIds,h])
theorem gk.make {k:Nat} (r:gk (k+1) A) (C:Addr) (us:List Value) (kw:List (Str×Value)):gk k (A.under (.builtin "type.__call__" ⟨.ref C::us,kw⟩)):=
 ⟨r.hd,by have:=r.dp;rw [uP];omega,by have:=r.un;rw [vA];omega,rG r.gd⟩
theorem gk.depth {k:Nat} {A:Around} (r:gk k A):A.depth < recursionLimit:=by have:=r.dp;omega
theorem gk.units {k:Nat} {A:Around} (r:gk k A):A.units+64 < cLine:=by have:=r.un;omega
def uc:TA:=fun _ H Q=>Q [] H
def g_ (ta:TE) (tr:TA):TA:=fun σ H Q=>ta σ H fun x H1=>tr σ H1 fun xs H2=>Q (x::xs) H2
section
variable {es:List Expr} {t:TA} {pos:Pos}
theorem Sg:PA X [] uc:=fun _ _ _ _ H Q I h=>Calls.spliced_nil ⟨[],H,I,.nil,h⟩
theorem cT (ha:PE X e te) (hr:PA X es t) (hs:starEach (e::es) X.env=(false,eval e X.env)::starEach es X.env:=by rfl):PA X (e::es) (g_ te t):=by
 intro pos pins s σ H Q I h
 rw [hs]
 show wpAny _ _ (spliced ((false,eval e X.env)::backTo pos (starEach es X.env))) _ _ s
 refine Calls.spliced_cons (av (ha pins s σ H _ I h) ?_)
 rintro u s1 ⟨x,H1,I1,r1,q1⟩
 exact av (hr pos pins s1 σ H1 _ I1 q1) fun us s2 ⟨xs,H2,I2,r2,q2⟩=>⟨x::xs,H2,I2,.cons r1 r2,q2⟩
def Cw (t:TA):TE:=fun σ H Q=>t σ H fun xs H1=>xs.length<=sizeLine/\∀ p,H1 p=none->Q (.ref p) (upd H1 p (.tup xs))
def Hq (t:TA):TE:=fun σ H Q=>t σ H fun xs H1=>xs.length<=sizeLine/\∀ p,H1 p=none->Q (.ref p) (upd H1 p (.lst xs))
theorem Sh {x1} (h:PA X es t):PE X (.Tuple es x1 pos) (Cw t):=by
 intro pins s σ H Q I hq
 refine wpAny_Tuple_spliced (av (h pos pins s σ H _ I hq) fun us s1 ⟨xs,H1,I1,r,z,q⟩=>⟨by rw [<- r.length];exact z,?_⟩)
 have hf:H1 s1.heap.objs.size=none:=I1.hok.fresh (Qy _)
 refine ⟨.ref s1.heap.objs.size,upd H1 s1.heap.objs.size (.tup xs),I1.laid (t':=s1.toks) (fun b u e=>Qc _ e) (Qy _) ?_,rfl,q _ hf⟩
 exact ⟨⟨z,Bk.new rfl rfl⟩,us,r,⟨_,Qd _ rfl,rfl,_,rfl⟩⟩
theorem Si (h:PA X es t):PE X (.List es pos) (Hq t):=by
 intro pins s σ H Q I hq
 refine wpAny_List_spliced (av (h pos pins s σ H _ I hq) fun us s1 ⟨xs,H1,I1,r,z,q⟩=>⟨by rw [<- r.length];exact z,?_⟩)
 have hf:H1 s1.heap.objs.size=none:=I1.hok.fresh (Qy _)
 refine ⟨.ref s1.heap.objs.size,upd H1 s1.heap.objs.size (.lst xs),I1.laid (t':=s1.toks) (fun b u e=>Qc _ e) (Qy _) ?_,rfl,q _ hf⟩
 exact ⟨z,us,0,r,Qd _ rfl⟩
end
abbrev Sp:=List V->Hp->VK->XK->Prop
abbrev wu:=List Env->Hp->Shared->XK->Value->Shared->Prop
structure BA (P:Program) (w:World) (K:Q0) (mg:Str->Option Value) (base:Heap) (A:Around) (outer:List Env) (s:Shared) (H:Hp):Prop where
 frames:A.frames=some outer
 mod:Mod K mg base
 bs:∀ b o,base.get? b=some o->s.heap.get? b=some o/\H b=none
 zf:base.objs.size<=s.heap.objs.size
 uy:s.heap.FunFrames base outer
 Bm:∀ b∈ni outer,H b=none
 hok:fm P w H s.heap
 bare:AllBare s.gens
def CE (outer:List Env) (P:Program) (w:World) (H:Hp) (s:Shared) (Q:VK) (u:Value) (s':Shared):Prop:=
 ∃ v H',s'.os=s.os/\AllBare s'.gens/\Un (ni outer) [] H H' s.heap s'.heap/\fm P w H' s'.heap/\RelV v u/\Q v H'
def CR (CX:wu) (outer:List Env) (P:Program) (w:World) (H:Hp) (s:Shared) (Q:VK) (E:XK) (r:Result) (s':Shared):Prop:=
 match r with
 | .ok (.ret u)=>CE outer P w H s Q u s'
 | .ok _=>False
 | .error e=>CX outer H s E e s'
structure ud (P:Program) (w:World) (K:Q0) (mg:Str->Option Value) (base:Heap) (CX:wu) (k:Nat) (f:Addr) (fd:FuncData) (ps:List Str) (sp:Sp):Prop where
 len:∀ vs H Q E,sp vs H Q E->vs.length=ps.length
 run:∀ (A:Around) (outer:List Env) (s:Shared) (H:Hp) (args:Args) (us:List Value) (vs:List V) (Q:VK) (E:XK),gk k A->BA P w K mg base A outer s H->BindsTo s fd args (ps.zip us)->bg vs us->sp vs H Q E->
  codeAny (model P w) A (.call (.ref f) args) (CR CX outer P w H s Q E) s
theorem ud.imp {K:Q0} {CX:wu} {k:Nat} {f:Addr} {sp DI:Sp} (F:ud P w K mg base CX k f fd ps sp)
  (h:∀ vs H Q E,DI vs H Q E->sp vs H Q E):ud P w K mg base CX k f fd ps DI:=
 ⟨fun vs H Q E q=>F.len vs H Q E (h _ _ _ _ q),fun A outer s H args us vs Q E hr he hb hv hs=>F.run A outer s H args us vs Q E hr he hb hv (h _ _ _ _ hs)⟩
theorem BA.make {K:Q0} {outer:List Env} (e:BA P w K mg base A outer s H) (C:Addr) (us:List Value) (kw:List (Str×Value)):
  BA P w K mg base (A.under (.builtin "type.__call__" ⟨.ref C::us,kw⟩)) outer s H:=⟨by first | exact e.frames | (simpa [Around.under,Code.envs,Code.isFrame,pushEnvs] using e.frames),e.mod,e.bs,e.zf,e.uy,e.Bm,e.hok,e.bare⟩
section
variable {s':Shared}
theorem Inv.K5 (I:Inv X pins σ H s):BA X.prog X.w X.K X.mg X.base X.A X.stack s H:=
 ⟨I.ok.frames,I.ok.mod,I.bs,Nat.le_trans I.ok.zf I.sz,I.stack,I.Kz,I.hok,I.bare⟩
theorem Inv.after {Q:VK} (I:Inv X pins σ H s) (h:CE X.stack X.prog X.w H s Q u s'):EP X pins σ Q u s':=by
 obtain ⟨v,H',os,bare,un,hok,r,q⟩:=h
 obtain ⟨hh,g,d,t,Hr⟩:=s'
 obtain rfl:Hr=s.os:=os
 exact ⟨v,H',I.call (h':=hh) (g':=g) (d':=d) (t':=t) (ch:=[]) un hok bare (fun b z=>absurd z (by simp)),r,q⟩
end
def DJ (sp:Sp) (qt:List V) (E:XK) (t:TA):TE:=fun σ H Q=>t σ H fun vs H1=>sp (vs++qt) H1 Q E
def K6 (C:Addr) (sp:Sp) (qt:List V) (E:XK) (t:TA):TE:=fun σ H Q=>t σ H fun vs H1=>∀ x dx,H1 x=none->H1 dx=none->dx≠x->
 sp (.ref x::(vs++qt)) (upd (upd H1 dx (.own x)) x (.ins C dx [])) (fun v H2=>v=.ai/\Q (.ref x) H2) E
def Binds (K:Q0) (fd:FuncData) (ps:List Str) (ds:List Value):Prop:=
 ∀ (s:Shared) (us:List Value),K.In s.heap->(us++ds).length=ps.length->BindsTo s fd ⟨us,[]⟩ (ps.zip (us++ds))
theorem Binds.all {K:Q0} (h:∀ us:List Value,us.length=ps.length->bindArgs fd ⟨us,[]⟩=pure (ps.zip us)):Binds K fd ps []:=fun s us _ hl=>by
 rw [QR] at hl ⊢
 exact .of_eq (h us hl)
def DK (CX:wu) (X:Cx) (E:XK):Prop:=∀ (pins:List (Addr×Obj)) (σ:St) (H:Hp) (s:Shared) (e:Value) (s':Shared),Inv X pins σ H s->CX X.stack H s E e s'->X.xe e s'
section
variable {CX:wu} {k:Nat} {f:Addr} {sp:Sp} {qt:List V} {ds:List Value} {E:XK} {m:Str} {p pos:Pos} {o:Expr} {es:List Expr} {ta:TE} {t:TA}
theorem Sj {Q:VK} {vs:List V} (F:ud X.prog X.w X.K X.mg X.base CX k f fd ps sp) (hr:gk k X.A) (hb:Binds X.K fd ps ds) (hd:bg qt ds) (hx:DK CX X E)
  (I:Inv X pins σ H s) (r:bg vs us) (h:sp (vs++qt) H Q E):wpAny (model X.prog X.w) X.A (call (.ref f) us) (EP X pins σ Q) X.xe s:=by
 have r2:bg (vs++qt) (us++ds):=r.append hd
 have hl:(us++ds).length=ps.length:=by rw [<- r2.length];exact F.len _ _ _ _ h
 refine wpAny_call (codeAny_mono (F.run X.A X.stack s H ⟨us,[]⟩ (us++ds) (vs++qt) Q E hr I.K5 (hb s us I.jb hl) r2 h) fun r s' hq=>?_)
 cases r with
 | error e=>exact hx pins σ H s e s' I hq
 | ok fl=>
  cases fl with
  | ret u=>exact I.after hq
  | next=>exact False.elim hq
  | brk=>exact False.elim hq
  | cont=>exact False.elim hq
theorem Sk (F:ud X.prog X.w X.K X.mg X.base CX k f fd ps sp) (hr:gk k X.A) (hg:Gl X x) (hm:X.mg x=some (.ref f)) (hk:PySem.W.keepIn X.K (.ref f)=true) (hb:Binds X.K fd ps ds) (hd:bg qt ds) (hx:DK CX X E)
  (ha:PA X (e::es) t) (nj:(x==("__debug__":Str))=false:=by decide) (he:starEach (e::es) X.env=(false,eval e X.env)::starEach es X.env:=by rfl) (h_:(backTo pos (starEach es X.env)).any (·.1)=false:=by rfl):
  PE X (.Call (.Name x p) (e::es) [] pos) (DJ sp qt E t):=by
 intro pins s σ H Q I h
 refine wpAny_Call_Name_kw (pM I hg hm ?_ nj)
 refine PySem.W.callWith_K (h₀:=X.base) I.ok.mod.AE hk (av (ha pos pins s σ H _ I h) fun us s1 ⟨vs,H1,I1,r,q⟩=>⟨I1.jb,?_⟩) he h_
 exact Sj F hr hb hd hx I1 r q
structure Mk (K:Q0) (C f:Addr):Prop where
 makes:PySem.W.makesIn K C=true
 init:PySem.W.findIn K (.ref C) "__init__"=some (some (.ref f))
 fn:PySem.W.isFn K (.ref f)=true
 kp:PySem.W.keepIn K (.ref C)=true
theorem Sl {Q:VK} {vs:List V} (M:Mk X.K C f) (F:ud X.prog X.w X.K X.mg X.base CX k f fd ps sp) (hr:gk (k+1) X.A) (hb:Binds X.K fd ps ds) (hd:bg qt ds)
  (hx:DK CX X E) (I:Inv X pins σ H s) (r:bg vs us)
  (h:∀ x dx,H x=none->H dx=none->dx≠x->sp (.ref x::(vs++qt)) (upd (upd H dx (.own x)) x (.ins C dx [])) (fun v H2=>v=.ai/\Q (.ref x) H2) E):
  wpAny (model X.prog X.w) X.A (call (.ref C) us) (EP X pins σ Q) X.xe s:=by
 have hq:=h (s.heap.objs.size+1) s.heap.objs.size (I.hok.fresh (Nat.le_succ _)) (I.hok.fresh (Qy _)) (Nat.ne_of_lt (Nat.lt_succ_self _))
 have I2:=Inv.made (C:=C) I
 have r2:bg (V.ref (s.heap.objs.size+1)::(vs++qt)) (Value.ref (s.heap.objs.size+1)::(us++ds)):=.cons rfl (r.append hd)
 have hl:(Value.ref (s.heap.objs.size+1)::us++ds).length=ps.length:=by
  have e:=r2.length
  rw [F.len _ _ _ _ hq] at e
  exact e.symm
 refine wpAny_call (Sa (f:=f) I.jb M.makes M.init (beq_iff_eq.mp M.fn) (codeAny_mono (F.run _ X.stack _ _ ⟨Value.ref (s.heap.objs.size+1)::us,[]⟩ (Value.ref (s.heap.objs.size+1)::(us++ds)) _ _ E (hr.make C us [])
  (I2.K5.make C us []) (hb _ (Value.ref (s.heap.objs.size+1)::us) I2.jb hl) r2 hq) fun r s' jz=>?_))
 cases r with
 | error e=>exact hx pins σ _ _ e s' I2 jz
 | ok fl=>
  cases fl with
  | ret u=>
   obtain ⟨v,H',I3,rv,ev,q3⟩:=I2.after jz
   subst ev
   exact ⟨rv,⟨V.ref (s.heap.objs.size+1),H',I3,rfl,q3⟩⟩
  | next=>exact False.elim jz
  | brk=>exact False.elim jz
  | cont=>exact False.elim jz
theorem Sn (M:Mk X.K C f) (F:ud X.prog X.w X.K X.mg X.base CX k f fd ps sp) (hr:gk (k+1) X.A) (hg:Gl X x) (hm:X.mg x=some (.ref C)) (hb:Binds X.K fd ps ds) (hd:bg qt ds) (hx:DK CX X E)
  (ha:PA X (e::es) t) (nj:(x==("__debug__":Str))=false:=by decide) (he:starEach (e::es) X.env=(false,eval e X.env)::starEach es X.env:=by rfl) (h_:(backTo pos (starEach es X.env)).any (·.1)=false:=by rfl):
  PE X (.Call (.Name x p) (e::es) [] pos) (K6 C sp qt E t):=by
 intro pins s σ H Q I h
 refine wpAny_Call_Name_kw (pM I hg hm ?_ nj)
 refine PySem.W.callWith_K (h₀:=X.base) I.ok.mod.AE M.kp (av (ha pos pins s σ H _ I h) fun us s1 ⟨vs,H1,I1,r,q⟩=>⟨I1.jb,?_⟩) he h_
 exact Sl M F hr hb hd hx I1 r q
end
section
variable {CX:wu} {k:Nat} {f:Addr} {ks:List Str} {sp:Sp} {E:XK} {m:Str} {p pos aar:Pos} {o:Expr} {es:List Expr} {kws:List Keyword} {ta:TE} {t tk:TA} {nm:Option Str}
variable {g:List Value->List Value->List Value} {gV:List V->List V->List V}
end
structure dw (N P:List Str) (sc:Scope):Prop where
 kind:sc.kind=.function
 co:sc.isCoroutine=false
 gen:sc.isGenerator=false
 nd:N.Nodup
 pre:N.take P.length=P
 K7:∀ x∈P,sc.names.lookup x=some .local\/sc.names.lookup x=some .cell
 So:∀ y∈sc.names,y.2≠.free
theorem nN {kindOf:Str->Option NameKind} {x:Str}:∀ {binds:List (Str×Value)} {m:Str->Option Value},(∀ v,(x,v) ∉ binds)->bindL kindOf binds m x=m x
 | [],_,_=>rfl
 | (n,v)::r,m,h=>by
  unfold bindL
  rw [nN fun w hw=>h w (Qh _ hw)]
  split
  ·have:x≠n:=by rintro rfl;exact h v List.mem_cons_self
   simp [this]
  ·rfl
theorem nW {kindOf:Str->Option NameKind} {x:Str}:∀ {binds:List (Str×Value)} {m:Str->Option Value},(∀ v,(x,v) ∉ binds)->bindC kindOf binds m x=m x
 | [],_,_=>rfl
 | (n,v)::r,m,h=>by
  unfold bindC
  rw [nW fun w hw=>h w (Qh _ hw)]
  split
  ·rfl
  ·have:x≠n:=by rintro rfl;exact h v List.mem_cons_self
   simp [this]
theorem nU {kindOf:Str->Option NameKind} {x:Str} {v:Value}:∀ {P:List Str} {vs:List Value} {i:Nat} {m:Str->Option Value},P.Nodup->P[i]? =some x->vs[i]? =some v->kindOf x=some .local->
  bindL kindOf (P.zip vs) m x=some v
 | [],_,_,_,_,h,_,_=>by simp at h
 | _::_,[],_,_,_,_,h,_=>by simp at h
 | p::P,w::vs,0,m,nd,h1,h2,hk=>by
  simp at h1 h2;subst h1;subst h2
  show bindL kindOf ((p,w)::P.zip vs) m p=_
  unfold bindL
  rw [nN fun v hv=>(List.nodup_cons.mp nd).1 (List.of_mem_zip hv).1,if_pos hk]
  simp
 | p::P,w::vs,i+1,m,nd,h1,h2,hk=>by
  show bindL kindOf ((p,w)::P.zip vs) m x=_
  unfold bindL
  exact nU (i:=i) (List.nodup_cons.mp nd).2 (by simpa using h1) (by simpa using h2) hk
theorem nR {kindOf:Str->Option NameKind} {x:Str} {v:Value}:∀ {P:List Str} {vs:List Value} {i:Nat} {m:Str->Option Value},P.Nodup->P[i]? =some x->vs[i]? =some v->kindOf x≠some .local->
  bindC kindOf (P.zip vs) m x=some v
 | [],_,_,_,_,h,_,_=>by simp at h
 | _::_,[],_,_,_,_,h,_=>by simp at h
 | p::P,w::vs,0,m,nd,h1,h2,hk=>by
  simp at h1 h2;subst h1;subst h2
  show bindC kindOf ((p,w)::P.zip vs) m p=_
  unfold bindC
  rw [nW fun v hv=>(List.nodup_cons.mp nd).1 (List.of_mem_zip hv).1,if_neg hk]
  simp
 | p::P,w::vs,i+1,m,nd,h1,h2,hk=>by
  show bindC kindOf ((p,w)::P.zip vs) m x=_
  unfold bindC
  exact nR (i:=i) (List.nodup_cons.mp nd).2 (by simpa using h1) (by simpa using h2) hk
def start (N:List Str) (vs:List V):St:=vs.map some++List.replicate (N.length - vs.length) none
def zo (CX:wu) (P:Program) (w:World) (K:Q0) (mg:Str->Option Value) (base:Heap) (N:List Str) (qual:Str) (scope:Scope) (f:Addr) (cd:Value) (A:Around) (outer:List Env) (s:Shared) (H:Hp) (E:XK):Cx where
 prog:=P
 w:=w
 K:=K
 mg:=mg
 base:=base
 A:=A.deeper (envOfC qual scope s.heap.objs.size f cd)
 N:=N
 s₀:=s
 H₀:=H
 env:=envOfC qual scope s.heap.objs.size f cd
 outer:=outer
 stack:=envOfC qual scope s.heap.objs.size f cd::outer
 ex:=[]
 calm:=true
 fn:=fun _=>true
 pn:=[]
 xe:=fun e s'=>wpAny (model P w) (A.deeper (envOfC qual scope s.heap.objs.size f cd)) (leaving (envOfC qual scope s.heap.objs.size f cd) e) (fun _ s''=>CX outer H s E e s'') (fun e' s''=>CX outer H s E e' s'') s'
theorem rJ (h:sc.names.lookup x=some .cell):∃ c,(cellsFrom n sc.names []).lookup x=some c:=by
 have q:=PySem.W.cellsFrom_some sc.names n [] (.inl h)
 exact Option.isSome_iff_exists.mp q
theorem xQ {CX:wu} {K:Q0} {N:List Str} {qual:Str} {scope:Scope} {f:Addr} {cd:Value} {outer:List Env} {s1:Shared} {E:XK} {vs:List V}
  (S:dw N ps scope) (hd:A.handled=none) (e0:BA P w K mg base A outer s H) (hl:vs.length=ps.length) (r:bg vs us)
  (x:InCallC s s.heap.objs.size (bindL (envOfC qual scope s.heap.objs.size f cd).kindOf (ps.zip us) fun _=>none) (cellsFrom (s.heap.objs.size+1) scope.names []) (bindC (envOfC qual scope s.heap.objs.size f cd).kindOf (ps.zip us) fun _=>none) s1):
  Inv (zo CX P w K mg base N qual scope f cd A outer s H E) [] (start N vs) H s1:=by
 have h_:ps.length<=N.length:=by have:=congrArg List.length S.pre;rw [List.length_take] at this;omega
 obtain ⟨h1,tk,rfl,hk⟩:=x.done
 have DL:∀ b:Addr,b ∉ (zo CX P w K mg base N qual scope f cd A outer s H E).ex:=fun b z=>absurd (show b∈([]:List Addr) from z) (by simp)
 refine ⟨⟨e0.mod,S.kind,rfl,rfl,Qy _,fun y z c h1 h2=>?_,fun y hy=>?_,fun y c _ h=>?_,fun _=>hd,Around.frames_deeper e0.frames,.inr ⟨rfl,rfl⟩,fun b z=>absurd z (DL b),e0.bs,e0.zf,fun b _ _=>DL b,fun b z=>absurd z (DL b),e0.uy,e0.Bm⟩,
  rfl,e0.bare,Un.kept hk,⟨_,x.toInCall.ns,fun i y v h1 h2 h3=>?_⟩,fun y c h=>⟨_,x.cell y c h⟩,e0.hok.fresh (Qy _),fun y c h=>?_,fun p hp=>absurd (show p∈([]:List (Addr×Obj)) from hp) (by simp),e0.hok.kept hk,?_⟩
 ·exact name_of_addr x.apart (PySem.mem_of_lookup h1) (PySem.mem_of_lookup h2)
 ·have hy:scope.names.lookup y=some .cell\/scope.names.lookup y=some .free:=hy
  rcases hy with hy | hy
  ·exact rJ hy
  ·exact absurd rfl (S.So _ (PySem.mem_of_lookup hy))
 ·exact Nat.le_of_lt (x.above y c (PySem.mem_of_lookup h))
 ·have hi:i < vs.length:=by
   unfold start at h2
   by_cases hi:i < vs.length
   ·exact hi
   ·rw [List.getElem?_append_right (by simpa using hi)] at h2
    rw [List.getElem?_replicate] at h2
    split at h2<;>cases h2
  have ha:vs[i]? =some v:=by
   unfold start at h2
   rw [Qg (by simpa using hi),Qq] at h2
   cases e:vs[i]? with
   | none=>rw [e] at h2;cases h2
   | some a=>rw [e] at h2;cases h2;rfl
  obtain ⟨u,hu,rv⟩:=r.get ha
  have hp:ps[i]? =some y:=by
   rw [<- S.pre,List.getElem?_take_of_lt (by omega)];exact h1
  have K8:ps.Nodup:=by rw [<- S.pre];exact S.nd.sublist (List.take_sublist _ _)
  refine ⟨u,rv,?_⟩
  rcases S.K7 y (QC hp) with k | k
  ·exact .inl ⟨k,nU K8 hp hu k⟩
  ·obtain ⟨c,e⟩:=rJ (n:=s.heap.objs.size+1) k
   refine .inr ⟨.inl k,c,e,?_⟩
   have q:=x.cell y c e
   rw [nR K8 hp hu (by show scope.names.lookup y≠_;rw [k];decide)] at q
   exact q
 ·exact e0.hok.fresh (Nat.le_of_lt (x.above y c (PySem.mem_of_lookup h)))
 ·unfold start
  show _=N.length
  rw [Qk,Ql,List.length_replicate]
  omega
theorem Sq {CX:wu} {K:Q0} {k:Nat} {f:Addr} {qual:Str} {params:Arguments} {scope:Scope} {dV kV doc pm bc ct oc:Value} {an od:Option Addr}
  {nk:Array (Option Value)} {N ps:List Str} {sp:Sp} (lk:K.lookup f=some ⟨oc,od,.func (PySem.W.fnOf name qual params body scope dV kV doc pm an bc ct),nk⟩) (qf:PySem.W.codeIn K bc qual=true) (S:dw N ps scope)
  (len:∀ vs H Q E,sp vs H Q E->vs.length=ps.length)
  (zp:∀ (A:Around) (outer:List Env) (s:Shared) (H:Hp) (vs:List V) (Q:VK) (E:XK),gk k (A.deeper (envOfC qual scope s.heap.objs.size f bc))->sp vs H Q E->
   ∃ t,qe (zo CX P w K mg base N qual scope f bc A outer s H E) body t/\t {nx:=fun _ H'=>Q .ai H',rt:=Q} (start N vs) H):
  ud P w K mg base CX (k+1) f (PySem.W.fnOf name qual params body scope dV kV doc pm an bc ct) ps sp:=by
 refine ⟨len,fun A outer s H args us vs Q E hr e0 hb r AI=>?_⟩
 have hl:=len _ _ _ _ AI
 have KX:K.In s.heap:=e0.mod.AE.keeps fun b o e=>(e0.bs b o e).1
 have lim:s.heap.NoLimit:=e0.mod.nolimit.keeps fun b o e=>(e0.bs b o e).1
 have Ss:∀ y∈ps.zip us,scope.names.lookup y.1=some .local\/(scope.names.lookup y.1=some .cell/\((cellsFrom (s.heap.objs.size+1) scope.names []).lookup y.1).isSome=true):=fun ⟨n,v⟩ hy=>by
  rcases S.K7 n (List.of_mem_zip hy).1 with q | q
  ·exact .inl q
  ·exact .inr ⟨q,PySem.W.cellsFrom_some _ _ _ (.inl q)⟩
 refine codeAny_call_function hr.depth (KX _ _ lk) rfl S.co S.gen rfl (PySem.W.codeRec_of KX qf) (hb _ _ _ _ ?_)
 refine wpAny_newFunctionEnv_cells S.kind Ss fun env he s1 x=>?_
 subst he
 refine ⟨lim.keeps x.toInCall.keep,codeAny_func ?_⟩
 obtain ⟨t,ht,hq⟩:=zp A outer s H vs Q E (hr.deeper _) AI
 have I:Inv (zo CX P w K mg base N qual scope f bc A outer s H E) [] (start N vs) H s1:=xQ S hr.hd e0 hl r x
 refine wpAny_mono (ht [] s1 (start N vs) H _ I hq) (fun fl s' hs=>?_) fun e s' hs=>hs
 have fin:∀ {σ':St} {H':Hp} {v:V} {u:Value},Inv (zo CX P w K mg base N qual scope f bc A outer s H E) [] σ' H' s'->RelV v u->Q v H'->CE outer P w H s Q u s':=
  fun {σ' H' v u} J rv q=>⟨v,H',J.os,J.bare,J.base,J.hok,rv,q⟩
 cases fl with
 | ret u=>
  obtain ⟨v,σ',H',J,rv,q⟩:=hs
  exact fin J rv q
 | next=>
  obtain ⟨σ',H',J,q⟩:=hs
  exact fin (v:=V.ai) (u:=Value.none) J rfl q
 | brk=>
  obtain ⟨_,_,_,q⟩:=hs
  exact False.elim q
 | cont=>
  obtain ⟨_,_,_,q⟩:=hs
  exact False.elim q
section
variable {p pos:Pos} {es:List Expr} {t:TA} {id:String} {r:List V->Hp->VK->Prop}
def BB (r:List V->Hp->VK->Prop) (t:TA):TE:=fun σ H Q=>t σ H fun vs H1=>r vs H1 Q
theorem Su (hc:jp X (.builtin id) r) (hg:Gl X x) (hm:X.mg x=none) (hv:bootBuiltins x=some (.builtin id)) (ha:PA X (e::es) t) (hn:x≠"__name__":=by decide) (nj:(x==("__debug__":Str))=false:=by decide)
  (he:starEach (e::es) X.env=(false,eval e X.env)::starEach es X.env:=by rfl) (h_:(backTo pos (starEach es X.env)).any (·.1)=false:=by rfl):PE X (.Call (.Name x p) (e::es) [] pos) (BB r t):=by
 intro pins s σ H Q I h
 refine wpAny_Call_Name_kw (lZ I hg hm hv ?_ hn nj)
 exact PyProof.Rows.callWith_builtin1 (av (ha pos pins s σ H _ I h) fun us s1 ⟨vs,H1,I1,r1,q1⟩=>hc pins s1 σ H1 vs us Q I1 r1 q1) he h_
theorem yQ (hc:jp X (.type T) r) (hg:Gl X x) (hm:X.mg x=none) (hv:bootBuiltins x=some (.type T)) (ha:PA X (e::es) t) (hn:x≠"__name__":=by decide) (nj:(x==("__debug__":Str))=false:=by decide)
  (he:starEach (e::es) X.env=(false,eval e X.env)::starEach es X.env:=by rfl) (h_:(backTo pos (starEach es X.env)).any (·.1)=false:=by rfl):PE X (.Call (.Name x p) (e::es) [] pos) (BB r t):=by
 intro pins s σ H Q I h
 refine wpAny_Call_Name_kw (lZ I hg hm hv ?_ hn nj)
 exact PyProof.Rows.callWith_type1 (av (ha pos pins s σ H _ I h) fun us s1 ⟨vs,H1,I1,r1,q1⟩=>hc pins s1 σ H1 vs us Q I1 r1 q1) he h_
end
end L2
namespace HT
open PySem PyProof.Rows
section
open PySem.SeqAt
open PySem.AutoSeq1 (wpAny_loadPart')
open PySem.MeetsSeq PySem.MeetsSeq2 PySem.MeetsSeq3
end
theorem Sv {t:Addr} {ws:List Value} (ht:IsTup s.heap t vs.toArray) (hb:IsTup s.heap b ws.toArray) (hv:vs≠[])
  (h1:ws=[]->Q (.ref t) s) (h2:ws≠[]->Q (.ref s.heap.objs.size) {s with heap:=s.heap.push {cls:=.type "tuple",data:=.seq (vs++ws).toArray}})
  (hsz:vs.length+ws.length<=sizeLine):wpAny (model prog w) A (binaryOp .Add (.ref t) (.ref b)) Q E s:=by
 obtain ⟨⟨cls,dd,data,sl⟩,ho,hc,n,hd⟩:=id ht
 obtain ⟨⟨K9,AJ,data2,AK⟩,u_,jq,n2,hd2⟩:=id hb
 simp only at hc hd jq hd2
 subst hc hd jq hd2
 have e:vs.toArray++ws.toArray=(vs++ws).toArray:=by simp
 by_cases hw:ws=[]
 ·exact concat_meets ⟨_,ho,rfl⟩ ⟨_,u_,rfl⟩ noFill_tuple_add seq_tuple_add PySem.F.slot_tuple_add PySem.F.entry_tuple_add (PySem.F.args_tuple_add_2 _ _)
   (tuple_addW1 t b vs.toArray ws.toArray n n2 dd AJ sl AK (by simpa using hv) (by simp [hw])) ⟨ho,u_,h1 hw⟩
 ·refine concat_meets ⟨_,ho,rfl⟩ ⟨_,u_,rfl⟩ noFill_tuple_add seq_tuple_add PySem.F.slot_tuple_add PySem.F.entry_tuple_add (PySem.F.args_tuple_add_2 _ _)
   (tuple_addW2 t b vs.toArray ws.toArray n n2 dd AJ sl AK (by simpa using hv) (by simpa using hw) (by rw [List.size_toArray,List.size_toArray];exact hsz)) ⟨ho,u_,?_⟩
  rw [e]
  exact h2 hw
def c_ (n d:Nat):Option Int->Nat
 | none=>d
 | some v=>if v < 0 then (v+(n:Int)).toNat else min v.toNat n
theorem qZ (n d:Nat):c_ n d none=d:=rfl
theorem gG (n d k:Nat):c_ n d (some (k:Int))=min k n:=by
 show (if (k:Int) < 0 then ((k:Int)+(n:Int)).toNat else min (k:Int).toNat n)=min k n
 rw [if_neg (by omega),Int.toNat_natCast]
theorem Sw (n d:Nat) (hd:d<=n) (o:Option Int):c_ n d o<=n:=by
 cases o with
 | none=>exact hd
 | some v=>
  show (if v < 0 then (v+(n:Int)).toNat else min v.toNat n)<=n
  by_cases hv:v < 0
  ·rw [if_pos hv];omega
  ·rw [if_neg hv];exact Nat.min_le_right _ _
theorem wQ (v:Int) (n d:Nat):(if v < 0 then max (v+(n:Int)) 0 else min v (n:Int))=((c_ n d (some v):Nat):Int):=by
 show (if v < 0 then max (v+(n:Int)) 0 else min v (n:Int))=(((if v < 0 then (v+(n:Int)).toNat else min v.toNat n):Nat):Int)
 by_cases hv:v < 0
 ·simp only [if_pos hv];omega
 ·simp only [if_neg hv];omega
theorem uL (lo hi:Option Int) (n:Nat):Builtin.Slice.sliceAdjust lo hi 1 (n:Int)=(((c_ n 0 lo:Nat):Int),((c_ n n hi:Nat):Int)):=by
 have h1:¬((1:Int) < 0):=by omega
 unfold Builtin.Slice.sliceAdjust
 simp only [h1,if_false]
 refine Prod.ext ?_ ?_
 ·cases lo with
  | none=>rfl
  | some v=>exact wQ v n 0
 ·cases hi with
  | none=>rfl
  | some v=>exact wQ v n n
theorem tU (i j:Nat):Builtin.Slice.slicePlaces (i:Int) (j:Int) 1=j - i:=by
 unfold Builtin.Slice.slicePlaces
 have h1:(1:Int) > 0:=by omega
 simp only [h1,if_true,Int.ediv_one]
 split<;>omega
theorem m9 {v:Value} {o:Option Int} {Q:Option Int->Shared->Prop} (p:IsPart v o) (h:Q o s):wpAny (model prog w) A (Builtin.Slice.slicePartIndex v) Q E s:=by
 cases p with
 | none=>exact slicePart_none h
 | int i t=>exact slicePart_int h
theorem kE {sl:Addr} {vl vu:Value} {lo hi:Option Int} {Q:Int×Int×Nat->Shared->Prop} (hs:s.heap.IsSliceOf sl vl vu .none) (pl:IsPart vl lo) (pu:IsPart vu hi)
  (h:Q (((c_ n 0 lo:Nat):Int),1,c_ n n hi - c_ n 0 lo) s):wpAny (model prog w) A (Builtin.Slice.sliceApplied (.ref sl) (pure (n:Int))) Q E s:=by
 obtain ⟨os,BC,K_,k_⟩:=id hs
 unfold Builtin.Slice.sliceApplied Builtin.Slice.sliceFields
 refine QT (QT (wpAny_field BC k_ (x:=vl) rfl (QT (wpAny_field BC k_ (x:=vu) rfl (QT (wpAny_field BC k_ (x:=.none) rfl (QU ?_)))))))
 refine QT (slicePart_none ?_)
 show wpAny _ _ (if ((1:Int)==0)=true then _ else _) _ _ s
 rw [if_neg (by decide)]
 refine QT (m9 pl (QT (m9 pu (QT (QU ?_)))))
 show wpAny _ _ (match Builtin.Slice.sliceAdjust lo hi 1 (n:Int) with | (lo,hi)=>pure (lo,(1:Int),Builtin.Slice.slicePlaces lo hi 1)) _ _ s
 rw [uL lo hi n]
 show wpAny _ _ (pure (((c_ n 0 lo:Nat):Int),(1:Int),Builtin.Slice.slicePlaces ((c_ n 0 lo:Nat):Int) ((c_ n n hi:Nat):Int) 1)) _ _ s
 rw [tU]
 exact QU h
theorem Sy (xs:Array Value) (i k:Nat):((List.range k).filterMap fun (m:Nat)=>xs[((i:Int)+(m:Int)*1).toNat]?).toArray=((xs.toList.drop i).take k).toArray:=by
 have e:(fun (m:Nat)=>xs[((i:Int)+(m:Int)*1).toNat]?)=fun m=>xs[i+m]?:=by
  funext m
  have:((i:Int)+(m:Int)*1).toNat=i+m:=by omega
  rw [this]
 rw [e]
 have:=pick_run xs i k
 rw [List.filterMap_map] at this
 have e2:((fun x=>xs[x]?)∘fun x=>i+x)=fun m=>xs[i+m]?:=rfl
 rw [e2] at this
 rw [this]
theorem jM {t sl:Addr} {items:Array Value} {vl vu:Value} {lo hi:Option Int} (ht:IsTup s.heap t items) (hs:s.heap.IsSliceOf sl vl vu .none) (pl:IsPart vl lo) (pu:IsPart vu hi)
  (hw:¬(c_ items.size 0 lo=0/\c_ items.size items.size hi=items.size))
  (h:Q (.ref s.heap.objs.size) {s with heap:=s.heap.push {cls:=.type "tuple",data:=.seq ((items.toList.drop (c_ items.size 0 lo)).take (c_ items.size items.size hi - c_ items.size 0 lo)).toArray}})
  (hsz:items.size<=sizeLine):wpAny (model prog w) A (getItem (.ref t) (.ref sl)) Q E s:=by
 have Fz:sizeOk (.seq ((items.toList.drop (c_ items.size 0 lo)).take (c_ items.size items.size hi - c_ items.size 0 lo)).toArray):=by
  show ((items.toList.drop (c_ items.size 0 lo)).take (c_ items.size items.size hi - c_ items.size 0 lo)).toArray.size<=sizeLine
  rw [List.size_toArray,List.length_take,List.length_drop,Array.length_toList]
  omega
 have hj:c_ items.size items.size hi<=items.size:=Sw _ _ (Qy _) hi
 obtain ⟨os,BC,K_,k_⟩:=id hs
 have Sz:s.TypeIs (.ref sl) "slice":=⟨os,BC,K_⟩
 unfold getItem
 try with_reducible refine wpAny_holding ?_
 first | refine QT (QU ?_) | skip
 refine QT (wpAny_sequenceKey ht.typeIs (by decide) ?_)
 refine QT (wpAny_callSpecial?_slot (name:=Str.ofString "__getitem__") ht.typeIs PyProof.Rows.slot_tuple_getitem
  (wpAny_call_entry PyProof.Rows.slot_tuple_getitem ht.typeIs entry_tuple_getitem ?_ (args_tuple_getitem _ _)))
 show wpAny _ _ (Builtin.Tuple.tupleItemsOf (.ref t) >>=_) _ _ s
 refine QT (tupleItemsOf_ ht ?_)
 refine QT (wpAny_typeOf Sz ?_)
 rw [if_pos (by decide)]
 refine QT (kE hs pl pu ?_)
 have AL:¬((((c_ items.size 0 lo:Nat):Int)==0&&(1:Int)==1&&(c_ items.size items.size hi - c_ items.size 0 lo)==items.size)=true):=by
  intro q
  rw [Bool.and_eq_true,Bool.and_eq_true] at q
  have q1:((c_ items.size 0 lo:Nat):Int)=0:=eq_of_beq q.1.1
  have q2:c_ items.size items.size hi - c_ items.size 0 lo=items.size:=eq_of_beq q.2
  exact hw ⟨by omega,by omega⟩
 show wpAny _ _ (if (((c_ items.size 0 lo:Nat):Int)==0&&(1:Int)==1&&(c_ items.size items.size hi - c_ items.size 0 lo)==items.size)=true then _ else _) _ _ s
 rw [if_neg AL,Sy]
 first
  | exact QT (m:=Builtin.Tuple.tupleExact _) (wpAny_newObj_type (QU ⟨_,rfl,QU h⟩) Fz)
  | exact QT (m:=Builtin.Tuple.tupleExact _) (wpAny_newObj_type (QT (QU (QU ⟨_,rfl,QU h⟩))) Fz)
  | exact QT (QT (m:=Builtin.Tuple.tupleExact _) (wpAny_newObj_type (QU (QU ⟨_,rfl,QU h⟩)) Fz))
  | exact QT (QT (m:=Builtin.Tuple.tupleExact _) (wpAny_newObj_type (QU ⟨_,rfl,QU h⟩) Fz))
end HT
namespace L2
open PySem PySem.Spec PyProof.Rows
abbrev TO:=St->Hp->(Option Int->Hp->Prop)->Prop
def PO (X:Cx) (e:Option Expr) (t:TO):Prop:=
 ∀ (pins:List (Addr×Obj)) (s:Shared) (σ:St) (H:Hp) (Q:Option Int->Hp->Prop),Inv X pins σ H s->t σ H Q->
  wpAny (model X.prog X.w) X.A (evalPart e X.env) (fun u s'=>∃ o H',Inv X pins σ H' s'/\IsPart u o/\Q o H') X.xe s
def Cy:TO:=fun _ H Q=>Q none H
def Cz (t:TE):TO:=fun σ H Q=>t σ H fun x H1=>∃ i,x=.int i/\Q (some i) H1
section
variable {lo hi:Option Expr} {tl th:TO} {pos p2:Pos}
theorem SD:PO X none Cy:=by
 intro pins s σ H Q I h
 rw [evalPart_none]
 exact QU ⟨none,H,I,.none,h⟩
theorem SH (h:PE X e te):PO X (some e) (Cz te):=by
 intro pins s σ H Q I hw
 rw [evalPart_some]
 refine av (h pins s σ H _ I hw) ?_
 rintro u s1 ⟨x,H1,I1,r1,q1⟩
 obtain ⟨i,rfl,q⟩:=q1
 obtain ⟨t,rfl⟩:=r1
 exact ⟨some i,H1,I1,.int i t,q⟩
def wx (X:Cx) (r:V->Option Int->Option Int->Hp->VK->Prop):Prop:=
 ∀ (pins:List (Addr×Obj)) (s:Shared) (σ:St) (H:Hp) (x:V) (v vl vu:Value) (lo hi:Option Int) (sl:Addr) (Q:VK),Inv X pins σ H s->RelV x v->s.heap.IsSliceOf sl vl vu .none->IsPart vl lo->IsPart vu hi->r x lo hi H Q->
  ∃ T id,typeLookup (.type T) "__getitem__"=pure (some (.builtin id))/\s.TypeIs v T/\wpAny (model X.prog X.w) X.A (getItem v (.ref sl)) (EP X pins σ Q) X.xe s
theorem wx.or {r r':V->Option Int->Option Int->Hp->VK->Prop} (h:wx X r) (h':wx X r'):wx X (fun x lo hi H Q=>r x lo hi H Q\/r' x lo hi H Q):=by
 intro pins s σ H x v vl vu lo hi sl Q I rx hs pl pu q
 rcases q with q | q
 ·exact h pins s σ H x v vl vu lo hi sl Q I rx hs pl pu q
 ·exact h' pins s σ H x v vl vu lo hi sl Q I rx hs pl pu q
def CA (r:V->Option Int->Option Int->Hp->VK->Prop) (te:TE) (tl th:TO):TE:=fun σ H Q=>te σ H fun x H1=>tl σ H1 fun l H2=>th σ H2 fun u H3=>r x l u H3 Q
theorem zO {r:V->Option Int->Option Int->Hp->VK->Prop} (hr:wx X r) (he:PE X e te) (hl:PO X lo tl) (hu:PO X hi th):PE X (.Subscript e (.Slice lo hi none p2) pos) (CA r te tl th):=by
 intro pins s σ H Q I h
 refine Subscript_ (av (he pins s σ H _ I h) ?_)
 rintro v s1 ⟨x,H1,I1,r1,q1⟩
 refine wpAny_Slice (av (hl pins s1 σ H1 _ I1 q1) fun vl s2 ⟨l,H2,I2,pl,q2⟩=>av (hu pins s2 σ H2 _ I2 q2) fun vu s3 ⟨u,H3,I3,pu,q3⟩=>?_)
 rw [evalPart_none]
 refine QU ?_
 have I4:Inv X pins σ H3 {s3 with heap:=s3.heap.push {cls:=.type "slice",data:=.fields #[vl,vu,.none]}}:=I3.kept (t':=s3.toks) fun b ob q=>Qc _ q
 obtain ⟨T,id,hT,ht,hg⟩:=hr pins {s3 with heap:=s3.heap.push {cls:=.type "slice",data:=.fields #[vl,vu,.none]}} σ H3 x v vl vu l u s3.heap.objs.size Q I4 r1 (Heap.IsSliceOf.new ..) pl pu q3
 show wpAny (model X.prog X.w) X.A (subscriptTail e (.Slice lo hi none p2) v (.ref s3.heap.objs.size)) (EP X pins σ Q) X.xe {s3 with heap:=s3.heap.push {cls:=.type "slice",data:=.fields #[vl,vu,.none]}}
 exact tail_any (ops:=[.ref s3.heap.objs.size,v]) ht hT hg (by with_unfolding_all rfl)
def ou (xs:List V) (lo hi:Option Int):List V:=(xs.drop (HT.c_ xs.length 0 lo)).take (HT.c_ xs.length xs.length hi - HT.c_ xs.length 0 lo)
theorem kW (xs:List V) (lo hi:Option Int):(ou xs lo hi).length<=xs.length:=by
 unfold ou
 rw [List.length_take,List.length_drop]
 omega
def BD (K:Q0):V->Option Int->Option Int->Hp->VK->Prop:=fun x lo hi H Q=>∃ a xs,x=.ref a/\af K H a xs/\
 ¬(HT.c_ xs.length 0 lo=0/\HT.c_ xs.length xs.length hi=xs.length)/\∀ p,H p=none->Q (.ref p) (upd H p (.tup (ou xs lo hi)))
theorem SJ:wx X (BD X.K):=by
 intro pins s σ H x v vl vu lo hi sl Q I rx hs pl pu h
 obtain ⟨a,xs,rfl,hx,hw,q⟩:=h
 cases rx
 obtain ⟨its,r,ht,hz⟩:=I.tuple hx
 have fc:its.toArray.size=xs.length:=by rw [List.size_toArray];exact r.length.symm
 refine ⟨"tuple",_,PyProof.Rows.slot_tuple_getitem.lookup,ht.typeIs,?_⟩
 refine HT.jM ht hs pl pu (by rw [fc];exact hw) ?_ (by rw [fc];exact hz)
 rw [fc]
 refine ⟨.ref s.heap.objs.size,_,I.laid (t':=s.toks) (o:=.tup (ou xs lo hi)) (fun b ob q=>Qc _ q) (Qy _) ?_,rfl,q _ (I.hok.fresh (Qy _))⟩
 exact ⟨⟨Nat.le_trans (kW xs lo hi) hz,Bk.new rfl rfl⟩,_,(r.drop (HT.c_ xs.length 0 lo)).take (HT.c_ xs.length xs.length hi - HT.c_ xs.length 0 lo),IsTup.new _ _⟩
def SK (K:Q0):R2:=fun x y H Q=>∃ a b xs ys,x=.ref a/\y=.ref b/\af K H a xs/\af K H b ys/\xs≠[]/\xs.length+ys.length<=sizeLine/\
 (ys=[]->Q (.ref a) H)/\(ys≠[]->∀ p,H p=none->Q (.ref p) (upd H p (.tup (xs++ys))))
theorem bg.FA {xs:List V} (r:bg xs us):us=[]↔xs=[]:=by
 cases r with
 | nil=>simp
 | cons _ _=>simp
theorem SM:cu X (binaryOp .Add) (SK X.K):=by
 intro pins s σ H x y v u Q I rx ry h
 obtain ⟨a,b,xs,ys,rfl,rfl,ha,hb,hx,hz,q1,q2⟩:=h
 cases rx
 cases ry
 obtain ⟨its,r1,p1,_⟩:=I.tuple ha
 obtain ⟨its2,r2,p2,_⟩:=I.tuple hb
 refine HT.Sv p1 p2 (fun z=>hx (r1.FA.mp z)) (fun z=>⟨.ref a,H,I,rfl,q1 (r2.FA.mp z)⟩) (fun z=>?_) (by rw [<- r1.length,<- r2.length];exact hz)
 refine ⟨.ref s.heap.objs.size,_,I.laid (t':=s.toks) (o:=.tup (xs++ys)) (fun b ob q=>Qc _ q) (Qy _) ?_,rfl,q2 (fun w=>z (r2.FA.mpr w)) _ (I.hok.fresh (Qy _))⟩
 exact ⟨⟨by rw [Qk];exact hz,Bk.new rfl rfl⟩,_,r1.append r2,IsTup.new _ _⟩
end
def zq (n:Nat) (i:Int):Option Nat:=if 0<=i then (if i < n then some i.toNat else none) else if -(n:Int)<=i then some (i+n).toNat else none
def lg {α:Type} (xs:List α) (i:Int):Option α:=(zq xs.length i).bind fun j=>xs[j]?
theorem oY {i:Int} (h:zq n i=some j):seqIndex? i n=some j/\j < n/\ -(n:Int)<=i/\i < n:=by
 unfold zq at h
 by_cases h0:0<=i
 ·rw [if_pos h0] at h
  by_cases h1:i < n
  ·rw [if_pos h1] at h
   have e:i.toNat=j:=QD h
   exact ⟨by rw [seqIndex_of h0 h1,e],by omega,by omega,h1⟩
  ·rw [if_neg h1] at h;cases h
 ·rw [if_neg h0] at h
  by_cases h1: -(n:Int)<=i
  ·rw [if_pos h1] at h
   have e:(i+n).toNat=j:=QD h
   exact ⟨by rw [seqIndex_neg (by omega) h1,e],by omega,h1,by omega⟩
  ·rw [if_neg h1] at h;cases h
theorem oX {xs:List α} {i:Int} {v:α} (h:lg xs i=some v):∃ j,seqIndex? i xs.length=some j/\xs[j]? =some v/\j < xs.length/\ -(xs.length:Int)<=i/\i < xs.length:=by
 unfold lg at h
 cases e:zq xs.length i with
 | none=>rw [e] at h;cases h
 | some j=>
  rw [e] at h
  obtain ⟨h1,h2,h3,h4⟩:=oY e
  exact ⟨j,h1,h,h2,h3,h4⟩
theorem fO {xs:List α} {v:α} (h:xs[j]? =some v):lg xs (j:Int)=some v:=by
 have hj:j < xs.length:=(List.getElem?_eq_some_iff.mp h).1
 have e:zq xs.length (j:Int)=some j:=by
  unfold zq
  rw [if_pos (by omega),if_pos (by omega)];simp
 unfold lg;rw [e];exact h
def Lc (b:Expr):Prop:=∀ o i,subscripted b false o i=operate [o,i] (getItem o i)
def BE (X:Cx) (r:R2):Prop:=
 ∀ (value slice:Expr) (pins:List (Addr×Obj)) (s:Shared) (σ:St) (H:Hp) (x y:V) (v u:Value) (Q:VK),Inv X pins σ H s->RelV x v->RelV y u->r x y H Q->
  subscripted slice false v u=operate [v,u] (getItem v u)->wpAny (model X.prog X.w) X.A (subscriptTail value slice v u) (EP X pins σ Q) X.xe s
def Hs (X:Cx) (id:String) (r:V->List V->Hp->VK->Prop):Prop:=
 ∀ (pins:List (Addr×Obj)) (s:Shared) (σ:St) (H:Hp) (x:V) (xs:List V) (v:Value) (us:List Value) (Q:VK),Inv X pins σ H s->RelV x v->bg xs us->r x xs H Q->
  wpAny (model X.prog X.w) X.A (call (.builtin id) (v::us)) (EP X pins σ Q) X.xe s
section
variable {a b:Expr} {ta tb:TE} {pos:Pos}
theorem SN {r:R2} (hr:BE X r) (ha:PE X a ta) (hb:PE X b tb) (hs:Lc b):PE X (.Subscript a b pos) (ky r ta tb):=by
 intro pins s σ H Q I h
 exact Subscript_ (Hl ha hb I h fun v u s2 x y H2 I2 rx ry q=>hr a b pins s2 σ H2 x y v u Q I2 rx ry q (hs _ _))
def SQ (K:Q0):R2:=fun x y H Q=>∃ p xs i v,x=.ref p/\y=.int i/\aj K H p xs/\lg xs i=some v/\Q v H
def SR (K:Q0):R2:=fun x y H Q=>∃ p xs i v,x=.ref p/\y=.int i/\af K H p xs/\lg xs i=some v/\Q v H
def SX:R2:=fun x y H Q=>∃ z i c,x=.str z/\y=.int i/\z.length<=sizeLine/\lg z.cps.toList i=some c/\Q (.str ⟨#[c]⟩) H
theorem SY:BE X (SQ X.K):=by
 intro value slice pins s σ H x y v u Q I rx ry h hs
 obtain ⟨p,xs,i,z,rfl,rfl,hq,he,q⟩:=h
 cases rx
 obtain ⟨t,rfl⟩:=ry
 obtain ⟨its,r,pl,hz⟩:=I.list hq
 obtain ⟨j,h1,h2,h3,h4,h5⟩:=oX he
 obtain ⟨w,ew,qh⟩:=r.get h2
 have hl:=r.length
 have hn:=DG
 have fin:EP X pins σ Q w s:=⟨z,H,I,qh,q⟩
 by_cases h0:0<=i
 ·have hj:i.toNat=j:=by
   rw [seqIndex_of h0 h5] at h1
   exact QD h1
  exact item_listR pl.isList h0 (by omega) (by rw [hj];simpa using ew) fin hs
 ·have hj:(i+(its.toArray.size:Int)).toNat=j:=by
   rw [seqIndex_neg (by omega) h4] at h1
   rw [List.size_toArray,<- hl]
   exact QD h1
  exact subscriptTail_builtinR (x:=w) pl.isList.typeIs slot_list_getitem.lookup
   (wpAny_getItem_list_neg (Q:=fun r s'=>r=w/\EP X pins σ Q r s') pl.isList (by omega) (by rw [List.size_toArray]<;>omega) (by omega) (by rw [hj];simpa using ew) ⟨rfl,fin⟩) hs
theorem S0:BE X (SR X.K):=by
 intro value slice pins s σ H x y v u Q I rx ry h hs
 obtain ⟨p,xs,i,z,rfl,rfl,hq,he,q⟩:=h
 cases rx
 obtain ⟨t,rfl⟩:=ry
 obtain ⟨its,r,pl,hz⟩:=I.tuple hq
 obtain ⟨j,h1,h2,h3,h4,h5⟩:=oX he
 obtain ⟨w,ew,qh⟩:=r.get h2
 have hl:=r.length
 have hn:=DG
 have fin:EP X pins σ Q w s:=⟨z,H,I,qh,q⟩
 exact subscriptTail_builtinR (x:=w) pl.typeIs slot_tuple_getitem.lookup
  (getItem_tuple (j:=j) (Q:=fun r s'=>r=w/\EP X pins σ Q r s') pl (by omega) (by omega) (by rw [List.size_toArray,<- hl];exact h1) (by simpa using ew) ⟨rfl,fin⟩) hs
theorem S1:BE X SX:=by
 intro value slice pins s σ H x y v u Q I rx ry h hs
 obtain ⟨z,i,c,rfl,rfl,hz,he,q⟩:=h
 obtain ⟨t,rfl⟩:=rx
 obtain ⟨t',rfl⟩:=ry
 obtain ⟨j,h1,h2,h3,h4,h5⟩:=oX he
 have hl:z.cps.toList.length=z.length:=by simp [Str.length]
 rw [hl] at h1 h4 h5
 have hn:=DG
 exact tail_any (typeIs_str s z t) slot_str_getitem.lookup (getItem_str (c:=c) (by
  have e1:decide (i < -(2^63:Int))=false:=Qw (by omega)
  have e2:decide (i≥2^63)=false:=Qw (by omega)
  rw [e1,e2,Bool.or_false]) (by rw [h1];simpa using h2) ⟨.str ⟨#[c]⟩,H,I.tok _,⟨_,rfl⟩,q⟩) hs
theorem tF (its:List Value) (n j:Nat) (u:Value):Obj.mapSeq (·.setIfInBounds j u) {cls:=.type "list",data:=.seq its.toArray n}={cls:=.type "list",data:=.seq (its.set j u).toArray n}:=by
 simp [Obj.mapSeq]
theorem Inv.lst {pins:List (Addr×Obj)} {σ:St} {H:Hp} {s:Shared} {p:Addr} {xs:List V} (I:Inv X pins σ H s) (h:H p=some (.lst xs)):
  ∃ (its:List Value) (n:Nat),bg xs its/\s.heap.get? p=some {cls:=.type "list",data:=.seq its.toArray n}/\xs.length<=sizeLine:=by
 obtain ⟨z,its,n,r,e⟩:=I.hok p _ h
 exact ⟨its,n,r,e,z⟩
theorem Inv.S2 {xs ys:List V} {its its':List Value} {n':Nat} {f:Obj->Obj} (I:Inv X pins σ H s) (h:H p=some (.lst xs))
  (ho:s.heap.get? p=some {cls:=.type "list",data:=.seq its.toArray n}) (hf:f {cls:=.type "list",data:=.seq its.toArray n}={cls:=.type "list",data:=.seq its'.toArray n'}) (r:bg ys its') (hz:ys.length<=sizeLine) (t:Nat):
  Inv X pins σ (upd H p (.lst ys)) {s with heap:=s.heap.update p f,toks:=t}:=by
 have e:(s.heap.update p f).get? p=some {cls:=.type "list",data:=.seq its'.toArray n'}:=by
  rw [Heap.get?_update_self f ho (by rw [hf]<;>rfl),hf]
 refine I.write (x:=p) (e:=p) (by rw [h];trivial) (.inl rfl) (fun b u hb q=>(Heap.get?_update_other _ _ (Ne.symm hb)).trans q) ⟨_,e⟩ ?_
 exact ⟨hz,its',n',r,e⟩
def S3:V->V->V->Hp->(Hp->Prop)->Prop:=fun o i v H Q=>∃ p xs k j,o=.ref p/\i=.int k/\H p=some (.lst xs)/\zq xs.length k=some j/\Q (upd H p (.lst (xs.set j v)))
theorem mJ:Hg X S3:=by
 intro pins s σ H o i v ov iv u Q I ro ri rv h
 obtain ⟨p,xs,k,j,rfl,rfl,hp,hj,q⟩:=h
 cases ro
 obtain ⟨t,rfl⟩:=ri
 obtain ⟨its,n,r,ho,hz⟩:=I.lst hp
 obtain ⟨h1,h2,h3,h4⟩:=oY hj
 have hl:=r.length
 have hn:=DG
 have I':Inv X pins σ (upd H p (.lst (xs.set j v))) {s with heap:=s.heap.update p (Obj.mapSeq (·.setIfInBounds j u))}:=
  I.S2 hp ho (tF its n j u) (r.set rv j) (by rw [List.length_set];exact hz) s.toks
 by_cases h0:0<=k
 ·have hk:k.toNat=j:=by
   rw [seqIndex_of h0 h4] at h1
   exact QD h1
  exact PySem.W.ki_setAt ho h0 (by omega) (by rw [List.size_toArray,<- hl];exact h4) (by rw [hk];exact ⟨_,I',q⟩)
 ·have hk:(k+(its.toArray.size:Int)).toNat=j:=by
   rw [seqIndex_neg (by omega) h3] at h1
   rw [List.size_toArray,<- hl]
   exact QD h1
  exact PySem.W.ki_setBack ho (by omega) (by rw [List.size_toArray,<- hl];exact h3) (by omega) (by rw [hk];exact ⟨_,I',q⟩)
theorem pA (lo hi:Option Int) (n:Nat):(sliceBounds lo hi none n).1=((HT.c_ n 0 lo:Nat):Int)/\(sliceBounds lo hi none n).2.1=((HT.c_ n n hi:Nat):Int)/\(sliceBounds lo hi none n).2.2=1:=by
 refine ⟨?_,?_,rfl⟩
 ·cases lo with
  | none=>simp [sliceBounds,HT.c_]
  | some i=>
   simp only [sliceBounds,HT.c_,Option.getD_none,show (1:Int) > 0 by decide,if_true]
   by_cases h:i < 0
   ·simp only [h,if_true]<;>omega
   ·simp only [h,if_false]<;>omega
 ·cases hi with
  | none=>simp [sliceBounds,HT.c_]
  | some i=>
   simp only [sliceBounds,HT.c_,Option.getD_none,show (1:Int) > 0 by decide,if_true]
   by_cases h:i < 0
   ·simp only [h,if_true]<;>omega
   ·simp only [h,if_false]<;>omega
theorem nD (its:List Value) (lo hi:Option Int):slicePick its.toArray lo hi none=((its.drop (HT.c_ its.length 0 lo)).take (HT.c_ its.length its.length hi - HT.c_ its.length 0 lo)).toArray:=by
 obtain ⟨h1,h2,h3⟩:=pA lo hi its.toArray.size
 unfold slicePick
 rw [h1,h2,h3]
 simp only [sliceRange_one,pick_run,List.size_toArray]<;>rfl
def BF (K:Q0):V->Option Int->Option Int->Hp->VK->Prop:=fun x lo hi H Q=>∃ a xs,x=.ref a/\aj K H a xs/\∀ p,H p=none->Q (.ref p) (upd H p (.lst (ou xs lo hi)))
theorem S4:wx X (BF X.K):=by
 intro pins s σ H x v vl vu lo hi sl Q I rx hs pl pu h
 obtain ⟨a,xs,rfl,hx,q⟩:=h
 cases rx
 obtain ⟨its,r,ht,hz⟩:=I.list hx
 have fc:=r.length
 refine ⟨"list",_,slot_list_getitem.lookup,ht.isList.typeIs,?_⟩
 refine wpAny_getItem_list_slice ht.isList hs pl pu .none (by simp) ?_ (by rw [List.size_toArray]<;>omega)
 rw [nD,<- fc]
 refine ⟨.ref s.heap.objs.size,_,I.laid (t':=s.toks) (o:=.lst (ou xs lo hi)) (fun b ob q=>Qc _ q) (Qy _) ?_,rfl,q _ (I.hok.fresh (Qy _))⟩
 exact ⟨Nat.le_trans (kW xs lo hi) hz,_,0,(r.drop (HT.c_ xs.length 0 lo)).take (HT.c_ xs.length xs.length hi - HT.c_ xs.length 0 lo),Qd _ rfl⟩
def wz:V->Bool
 | .ai=>true
 | .bl _=>true
 | .int _=>true
 | .str _=>true
 | _=>false
def zu:V->V->Bool
 | .ai,.ai=>true
 | .bl a,.bl b=>a==b
 | .bl a,.int b=>(if a then 1 else 0)==b
 | .int a,.bl b=>a==(if b then 1 else 0)
 | .int a,.int b=>a==b
 | .str a,.str b=>a==b
 | _,_=>false
theorem S5 {y x:V} {v:Value} (ry:RelV y u) (rx:RelV x v) (fy:wz y=true) (fx:wz x=true):SeqAt.EqAt A s u v (zu y x):=by
 cases y with
 | ai=>
  cases ry
  cases x with
  | ai=>cases rx;exact SeqAt.EqAt.same _
  | bl b=>cases rx;exact SeqAt.EqAt.none_bool b
  | int b=>obtain ⟨t,rfl⟩:=rx;exact SeqAt.EqAt.none_int b t
  | str b=>obtain ⟨t,rfl⟩:=rx;exact SeqAt.EqAt.none_str b t
  | _=>exact absurd (show false=true from fx) Bool.false_ne_true
 | bl a=>
  cases ry
  cases x with
  | ai=>cases rx;exact SeqAt.EqAt.bool_none a
  | bl b=>cases rx;exact SeqAt.EqAt.bool_bool a b
  | int b=>obtain ⟨t,rfl⟩:=rx;exact SeqAt.EqAt.bool_int a b t
  | str b=>obtain ⟨t,rfl⟩:=rx;exact SeqAt.EqAt.bool_str a b t
  | _=>exact absurd (show false=true from fx) Bool.false_ne_true
 | int a=>
  obtain ⟨t',rfl⟩:=ry
  cases x with
  | ai=>cases rx;exact SeqAt.EqAt.int_none a t'
  | bl b=>cases rx;exact SeqAt.EqAt.int_bool a t' b
  | int b=>obtain ⟨t,rfl⟩:=rx;exact SeqAt.EqAt.int_int a t' b t
  | str b=>obtain ⟨t,rfl⟩:=rx;exact SeqAt.EqAt.int_str a t' b t
  | _=>exact absurd (show false=true from fx) Bool.false_ne_true
 | str a=>
  obtain ⟨t',rfl⟩:=ry
  cases x with
  | ai=>cases rx;exact SeqAt.EqAt.str_none a t'
  | bl b=>cases rx;exact SeqAt.EqAt.str_bool a t' b
  | int b=>obtain ⟨t,rfl⟩:=rx;exact SeqAt.EqAt.str_int a t' b t
  | str b=>obtain ⟨t,rfl⟩:=rx;exact SeqAt.EqAt.str_str a t' b t
  | _=>exact absurd (show false=true from fx) Bool.false_ne_true
 | _=>exact absurd (show false=true from fy) Bool.false_ne_true
def qw (x:V) (u:Value):Bool:=match u with
 | .none=>zu .ai x
 | .bool b=>zu (.bl b) x
 | .int i _=>zu (.int i) x
 | .str z _=>zu (.str z) x
 | _=>false
theorem zB {x y:V} (r:RelV y u) (f:wz y=true):qw x u=zu y x:=by
 cases y with
 | ai=>cases r;rfl
 | bl b=>cases r;rfl
 | int i=>obtain ⟨t,rfl⟩:=r;rfl
 | str z=>obtain ⟨t,rfl⟩:=r;rfl
 | _=>exact absurd (show false=true from f) Bool.false_ne_true
theorem jR {x:V}:∀ {xs:List V} {us:List Value},bg xs us->xs.all wz=true->us.any (qw x)=xs.any fun y=>zu y x
 | _,_,.nil,_=>rfl
 | y::xs,u::us,.cons r t,f=>by
  rw [List.all_cons,Bool.and_eq_true] at f
  rw [List.any_cons,List.any_cons,zB r f.1,jR t f.2]
theorem i9 {A:Around} {s:Shared} {x:V} {v:Value} (rx:RelV x v) (fx:wz x=true):∀ {xs:List V} {us:List Value},bg xs us->xs.all wz=true->∀ u∈us,SeqAt.EqAt A s u v (qw x u)
 | _,_,.nil,_=>fun u hu=>by cases hu
 | y::xs,u::us,.cons r t,f=>fun u' hu=>by
  rw [List.all_cons,Bool.and_eq_true] at f
  rcases Qp.mp hu with rfl | hu
  ·rw [zB r f.1];exact S5 r rx f.1 fx
  ·exact i9 rx fx t f.2 u' hu
def r_ (x:V) (xs:List V):Bool:=xs.any fun y=>zu y x
def Ld (K:Q0) (neg:Bool):R2:=fun x y H Q=>∃ p xs,y=.ref p/\(aj K H p xs\/af K H p xs)/\wz x=true/\xs.all wz=true/\Q (.bl (if neg then !r_ x xs else r_ x xs)) H
theorem yP:cu X (compareOp .In) (Ld X.K false):=by
 intro pins s σ H x y v u Q I rx ry h
 obtain ⟨p,xs,rfl,hq,fx,fs,q⟩:=h
 cases ry
 rcases hq with hq | hq
 ·obtain ⟨its,r,pl,hz⟩:=I.list hq
  refine SeqAt.in_listAt (qw x) pl.isList (fun w hw=>i9 rx fx r fs w (by simpa using hw)) ⟨.bl _,H,I,rfl,?_⟩
  rw [show its.toArray.any (qw x)=its.any (qw x) by simp,jR r fs]
  exact q
 ·obtain ⟨its,r,pl,hz⟩:=I.tuple hq
  refine SeqAt.in_tupleAt (qw x) pl (fun w hw=>i9 rx fx r fs w (by simpa using hw)) ⟨.bl _,H,I,rfl,?_⟩
  rw [show its.toArray.any (qw x)=its.any (qw x) by simp,jR r fs]
  exact q
theorem oR:cu X (compareOp .NotIn) (Ld X.K true):=by
 intro pins s σ H x y v u Q I rx ry h
 obtain ⟨p,xs,rfl,hq,fx,fs,q⟩:=h
 cases ry
 rcases hq with hq | hq
 ·obtain ⟨its,r,pl,hz⟩:=I.list hq
  refine SeqAt.notIn_listAt (qw x) pl.isList (fun w hw=>i9 rx fx r fs w (by simpa using hw)) ⟨.bl _,H,I,rfl,?_⟩
  rw [show its.toArray.any (qw x)=its.any (qw x) by simp,jR r fs]
  exact q
 ·obtain ⟨its,r,pl,hz⟩:=I.tuple hq
  refine SeqAt.notIn_tupleAt (qw x) pl (fun w hw=>i9 rx fx r fs w (by simpa using hw)) ⟨.bl _,H,I,rfl,?_⟩
  rw [show its.toArray.any (qw x)=its.any (qw x) by simp,jR r fs]
  exact q
theorem pJ:jp X (.type "list") (fun xs H Q=>∃ p ys,xs=[.ref p]/\(aj X.K H p ys\/af X.K H p ys)/\∀ l,H l=none->Q (.ref l) (upd H l (.lst ys))):=by
 intro pins s σ H xs us Q I r h
 obtain ⟨p,ys,rfl,hq,q⟩:=h
 obtain ⟨u,rfl,rx⟩:=vals1 r
 cases rx
 have fin:∀ (its:List Value),bg ys its->ys.length<=sizeLine->∀ (h':Heap) (c':Nat),(∀ b o',s.heap.get? b=some o'->h'.get? b=some o')->
   h'.get? s.heap.objs.size=some {cls:=.type "list",dict:=none,data:=.seq its.toArray c',slots:=#[]}->EP X pins σ Q (.ref s.heap.objs.size) {s with heap:=h'}:=fun its r' hz h' c' kp e=>
  ⟨.ref s.heap.objs.size,_,I.laid (t':=s.toks) kp (Qy _) (show cz X.prog X.w _ h' _ (.lst ys) from ⟨hz,its,c',r',e⟩),rfl,q _ (I.hok.fresh (Qy _))⟩
 rcases hq with hq | hq
 ·obtain ⟨its,r',pl,hz⟩:=I.list hq
  have fc:=r'.length
  obtain ⟨o,ho,hc,n,hd⟩:=pl.isList
  exact call_list_seq p (.inl rfl) ho hc hd (fun h' c' kp e=>fin its r' hz h' c' kp e) (by simp only [List.size_toArray]<;>omega)
 ·obtain ⟨its,r',pl,hz⟩:=I.tuple hq
  have fc:=r'.length
  obtain ⟨o,ho,hc,n,hd⟩:=pl
  exact call_list_seq p (.inr rfl) ho hc hd (fun h' c' kp e=>fin its r' hz h' c' kp e) (by simp only [List.size_toArray]<;>omega)
theorem nH:jp X (.type "tuple") (fun xs H Q=>∃ p ys,xs=[.ref p]/\((aj X.K H p ys/\∀ l,H l=none->Q (.ref l) (upd H l (.tup ys)))\/(af X.K H p ys/\Q (.ref p) H))):=by
 intro pins s σ H xs us Q I r h
 obtain ⟨p,ys,rfl,h⟩:=h
 obtain ⟨u,rfl,rx⟩:=vals1 r
 cases rx
 rcases h with ⟨hq,q⟩ | ⟨hq,q⟩
 ·obtain ⟨its,r',pl,hz⟩:=I.list hq
  have fc:=r'.length
  refine call_tuple_list pl.isList (fun h' kp=>?_) (by simp only [List.size_toArray]<;>omega)
  have I1:Inv X pins σ H {s with heap:=h'}:=I.kept (t':=s.toks) kp
  have I2:Inv X pins σ (upd H h'.objs.size (.tup ys)) {s with heap:=h'.push {cls:=.type "tuple",data:=.seq its.toArray}}:=
   I1.laid (t':=s.toks) (fun b o e=>Qc _ e) (Qy _) (show cz X.prog X.w _ _ _ (.tup ys) from ⟨⟨hz,Bk.new rfl rfl⟩,its,r',IsTup.new _ _⟩)
  exact ⟨.ref h'.objs.size,_,I2,rfl,q _ (I1.hok.fresh (Qy _))⟩
 ·obtain ⟨its,r',pl,hz⟩:=I.tuple hq
  exact call_tuple_same pl ⟨.ref p,H,I,rfl,q⟩
def Ht (K:Q0) (T:String) (x:V) (H:Hp):Prop:=match x with
 | .str _=>T="str"
 | .int _=>T="int"
 | .ref p=>(T="list"/\∃ xs,aj K H p xs)\/(T="tuple"/\∃ o,K.lookup p=some o/\o.cls=.type "tuple"/\o.dict=none)\/
   (T="dict"/\((∃ kvs,H p=some (.dK kvs))\/∃ kvs,H p=some (.dT kvs)))\/(T="set"/\∃ S n,H p=some (.set S n))
 | _=>False
theorem Le {x:V} {v:Value} (I:Inv X pins σ H s) (r:RelV x v) (ty:Ht X.K T x H):
  s.TypeIs v T/\∀ a,v=.ref a->∃ ob,s.heap.get? a=some ob/\ob.dict=none:=by
 cases x with
 | str z=>
  obtain ⟨t,rfl⟩:=r
  cases (show T="str" from ty)
  exact ⟨typeIs_str s z t,fun _ e=>nomatch e⟩
 | int i=>
  obtain ⟨t,rfl⟩:=r
  cases (show T="int" from ty)
  exact ⟨typeIs_int s i t,fun _ e=>nomatch e⟩
 | ref p=>
  cases r
  rcases ty with ⟨rfl,xs,hq⟩ | ⟨rfl,o,hk,hc,hd⟩ | ⟨rfl,hk⟩ | ⟨rfl,S,n,hk⟩
  ·obtain ⟨its,_,pl,_⟩:=I.list hq
   refine ⟨pl.isList.typeIs,fun a e=>?_⟩
   cases e
   obtain ⟨o,n,e,c,hd,_⟩:=pl
   exact ⟨o,e,hd⟩
  ·refine ⟨⟨o,I.jb p o hk,hc⟩,fun a e=>?_⟩
   cases e
   exact ⟨o,I.jb _ o hk,hd⟩
  ·have z:∃ o,s.heap.get? p=some o/\o.ExactDict:=by
    rcases hk with ⟨kvs,hk⟩ | ⟨kvs,hk⟩
    ·obtain ⟨_,_,_,_,o,_,_,e,ex,_⟩:=I.hok p _ hk
     exact ⟨o,e,ex⟩
    ·obtain ⟨_,_,_,_,o,_,_,e,ex,_⟩:=I.hok p _ hk
     exact ⟨o,e,ex⟩
   obtain ⟨o,e,ex⟩:=z
   refine ⟨⟨o,e,ex.1⟩,fun a e2=>?_⟩
   cases e2
   exact ⟨o,e,ex.2.1⟩
  ·obtain ⟨o,_,_,_,e,ex,_⟩:=I.hok p _ hk
   refine ⟨⟨o,e,ex.1⟩,fun a e2=>?_⟩
   cases e2
   exact ⟨o,e,ex.2.1⟩
 | _=>exact False.elim ty
def Lf (K:Q0) (T:String) (r:V->List V->Hp->VK->Prop) (to:TE):TE:=fun σ H Q=>to σ H fun x H1=>Ht K T x H1/\r x [] H1 Q
def FD (K:Q0) (T:String) (r:V->List V->Hp->VK->Prop) (to:TE) (t:TA):TE:=fun σ H Q=>to σ H fun x H1=>Ht K T x H1/\t σ H1 fun xs H2=>r x xs H2 Q
variable {o:Expr} {es:List Expr} {t:TA} {id:String} {r:V->List V->Hp->VK->Prop}
theorem S6 (pa:PlainAttrs T) (slot:Slot T name id) (zw:typeOf (.builtin id)=pure (.type "method_descriptor")) (hm:Hs X id r) (ho:PE X o to)
  (qx:attributeBase o name X.env (eval o X.env)=eval o X.env:=by rfl) (qz:(apos.endLine==cpos.line)=true:=by rfl):PE X (.Call (.Attribute o name apos) [] [] cpos) (Lf X.K T r to):=by
 intro pins s σ H Q I h
 refine wpAny_Call_method0_late qx qz (av (ho pins s σ H _ I h) ?_)
 rintro v s1 ⟨x,H1,I1,r1,ty,q1⟩
 obtain ⟨h1,h2⟩:=Le I1 r1 ty
 exact ⟨T,id,pa,slot,zw,h1,h2,Calls.callWith_builtin rfl (PySem.evalArgs_none (hm pins s1 σ H1 x [] v [] Q I1 r1 .nil q1))⟩
theorem S7 (pa:PlainAttrs T) (slot:Slot T name id) (zw:typeOf (.builtin id)=pure (.type "method_descriptor")) (hm:Hs X id r) (ho:PE X o to) (ha:PA X (e::es) t)
  (qx:attributeBase o name X.env (eval o X.env)=eval o X.env:=by rfl)
  (zy:((backTo cpos (starEach (e::es) X.env)).all (fun x=> !x.1)&&(backToKw cpos (keywordEach [] X.env)).all (fun x=>x.1.isSome)
   &&decide ((e::es).length+([]:List Keyword).length+(if ([]:List Keyword).isEmpty then 0 else 1) < 30))=true:=by rfl)
  (qz:(apos.endLine==cpos.line)=true:=by rfl) (hs:starEach (e::es) X.env=(false,eval e X.env)::starEach es X.env:=by rfl) (DM:(backTo cpos (starEach es X.env)).any (·.1)=false:=by rfl):
  PE X (.Call (.Attribute o name apos) (e::es) [] cpos) (FD X.K T r to t):=by
 intro pins s σ H Q I h
 refine wpAny_Call_method_late qx zy qz rfl (av (ho pins s σ H _ I h) ?_)
 rintro v s1 ⟨x,H1,I1,r1,ty,q1⟩
 obtain ⟨h1,h2⟩:=Le I1 r1 ty
 refine ⟨T,id,pa,slot,zw,h1,h2,?_⟩
 have hA:=ha cpos pins s1 σ H1 _ I1 q1
 rw [hs] at hA ⊢
 refine Calls.callWith_builtin (by show (false||(backTo cpos (starEach es X.env)).any (·.1))=false;rw [DM]<;>rfl) (Calls.evalArgs_plain ?_)
 exact av hA fun us s2 ⟨vs,H2,I2,r2,q2⟩=>hm pins s2 σ H2 x vs v us Q I2 r1 r2 q2
/- xs.append(e),list.index on a aat tuple .. are Hs facts of 06m -/
end
def CB (X:Cx) (id:String) (r:V->List V->Hp->VK->Prop):Prop:=
 ∀ (pins:List (Addr×Obj)) (s:Shared) (σ:St) (H:Hp) (x:V) (xs:List V) (v:Value) (us:List Value) (Q:VK),Inv X pins σ H s->RelV x v->bg xs us->r x xs H Q->
  wpAny (model X.prog X.w) X.A (call (.builtin id) (v::us)) (EP X pins σ Q) X.xe s
theorem bg.one {x:V} {us:List Value} (h:bg [x] us):∃ u,us=[u]/\RelV x u:=by
 cases h with
 | cons r t=>
  cases t
  exact ⟨_,rfl,r⟩
theorem bg.two {x y:V} (h:bg [x,y] us):∃ u v,us=[u,v]/\RelV x u/\RelV y v:=by
 cases h with
 | cons r t=>
  cases t with
  | cons q t=>
   cases t
   exact ⟨_,_,rfl,r,q⟩
theorem bg.zero:∀ {us:List Value},bg [] us->us=[]
 | _,.nil=>rfl
theorem bg.eraseIdx:∀ {xs:List V} {us:List Value} (i:Nat),bg xs us->bg (xs.eraseIdx i) (us.eraseIdx i)
 | _,_,_,.nil=>.nil
 | _,_,0,.cons _ t=>t
 | _,_,i+1,.cons r t=>.cons r (bg.eraseIdx i t)
theorem nP {α:Type}:∀ (l:List α) (i:Nat),(l.eraseIdx i).length<=l.length
 | [],_=>Qy _
 | _::_,0=>Nat.le_succ _
 | _::r,i+1=>Nat.succ_le_succ (nP r i)
section
variable {xs ys zs:List V}
theorem Inv.Hu {its its':List Value} {f:Array Value->Array Value} (I:Inv X pins σ H s) (hH:H l=some (.lst xs))
  (e:s.heap.get? l=some {cls:=.type "list",data:=.seq its.toArray n}) (hf:f its.toArray=its'.toArray) (hv:bg ys its') (hz:ys.length<=sizeLine):
  Inv X pins σ (upd H l (.lst ys)) {s with heap:=s.heap.update l (Obj.mapSeq f),toks:=t'}:=by
 have q:=PySem.IsL.update e f
 rw [hf] at q
 refine I.write (x:=l) (e:=l) (by rw [hH];exact trivial) (.inl rfl) (fun b' u hb hu=>(Heap.get?_update_other s.heap (Obj.mapSeq f) (Ne.symm hb)).trans hu) ⟨_,q⟩ ?_
 exact ⟨hz,its',_,hv,q⟩
theorem Inv.S8 {its:List Value} (I:Inv X pins σ H s) (hv:bg ys its) (hz:ys.length<=sizeLine):
  Inv X pins σ (upd H s.heap.objs.size (.lst ys)) {s with heap:=s.heap.push {cls:=.type "list",data:=.seq its.toArray},toks:=t'}:=
 I.laid (fun _ _ q=>Qc _ q) (Qy _) ⟨hz,its,0,hv,Qd _ rfl⟩
theorem Inv.fresh (I:Inv X pins σ H s):H s.heap.objs.size=none:=I.hok.fresh (Qy _)
theorem Inv.DN (I:Inv X pins σ H s) (hH:H l=some (.lst xs)):xs.length<=sizeLine/\∃ (its:List Value) (n:Nat),bg xs its/\xs.length=its.length/\s.heap.get? l=some {cls:=.type "list",data:=.seq its.toArray n}:=by
 obtain ⟨z,its,n,r,e⟩:=I.hok l _ hH
 exact ⟨z,its,n,r,r.length,e⟩
end
def Lg:V->List V->Hp->VK->Prop:=fun x vs H Q=>∃ l xs y,x=.ref l/\vs=[y]/\H l=some (.lst xs)/\xs.length < sizeLine/\Q .ai (upd H l (.lst (xs++[y])))
theorem bZ:CB X "list.append" Lg:=by
 intro pins s σ H x vs v us Q I rx rv h
 obtain ⟨l,xs,y,rfl,rfl,hH,hz,q⟩:=h
 cases rx
 obtain ⟨u,rfl,ru⟩:=rv.one
 obtain ⟨z,its,n,r,hl,e⟩:=I.DN hH
 refine call_meets F.slot_list_append ⟨_,e,rfl⟩ F.entry_list_append (F.args_list_append_2 _ _) (PySem.list_append l its.toArray n u (by rw [List.size_toArray];omega)) ⟨e,?_⟩
 refine ⟨.ai,_,I.Hu (its':=its++[u]) hH e (by simp) (r.append (.cons ru .nil)) ?_,rfl,q⟩
 rw [Qk,List.length_singleton]
 omega
def S9:V->List V->Hp->VK->Prop:=fun x vs H Q=>∃ l xs i k y,x=.ref l/\vs=[.int i]/\H l=some (.lst xs)/\ -(2^63)<=i/\i < 2^63/\seqIndex? i xs.length=some k/\xs[k]? =some y/\Q y (upd H l (.lst (xs.eraseIdx k)))
theorem S_:CB X "list.pop" S9:=by
 intro pins s σ H x vs v us Q I rx rv h
 obtain ⟨l,xs,i,k,y,rfl,rfl,hH,h1,h2,hk,hy,q⟩:=h
 cases rx
 obtain ⟨u,rfl,ru⟩:=rv.one
 obtain ⟨t,rfl⟩:=ru
 obtain ⟨z,its,n,r,hl,e⟩:=I.DN hH
 obtain ⟨w,hw,qh⟩:=r.get hy
 refine call_meets F.slot_list_pop ⟨_,e,rfl⟩ F.entry_list_pop (F.args_list_pop_2 _ _)
  (MeetsSeq.list_pop_at l its.toArray n i t k w (fitsIndex_both h1 h2) (by rw [List.size_toArray,<- hl];exact hk) (by rw [<- Array.getElem?_toList];exact hw) (by rw [List.size_toArray];omega)) ⟨e,?_⟩
 refine ⟨y,_,I.Hu (its':=its.eraseIdx k) hH e ?_ (r.eraseIdx k) ?_,qh,q⟩
 ·show its.toArray.eraseIdxIfInBounds k=(its.eraseIdx k).toArray
  rw [List.eraseIdxIfInBounds_toArray]
 ·have:=nP xs k
  omega
def Tc:V->List V->Hp->VK->Prop:=fun x vs H Q=>∃ l xs,x=.ref l/\vs=[]/\H l=some (.lst xs)/\Q .ai (upd H l (.lst []))
theorem Td:CB X "list.clear" Tc:=by
 intro pins s σ H x vs v us Q I rx rv h
 obtain ⟨l,xs,rfl,rfl,hH,q⟩:=h
 cases rx
 have Te:=rv.zero
 subst Te
 obtain ⟨z,its,n,r,hl,e⟩:=I.DN hH
 refine call_meets F.slot_list_clear ⟨_,e,rfl⟩ F.entry_list_clear (F.args_list_clear_1 _) (AutoSeq1.list_clear_list_0 l its.toArray n (by rw [List.size_toArray];omega)) ⟨e,?_⟩
 exact ⟨.ai,_,I.Hu (its':=[]) (ys:=[]) hH e rfl .nil (Nat.zero_le _),rfl,q⟩
def Tf:R2:=fun x y H Q=>∃ l b xs zs,x=.ref l/\y=.ref b/\H l=some (.lst xs)/\H b=some (.lst zs)/\xs.length+zs.length<=sizeLine/\∀ p,H p=none->Q (.ref p) (upd H p (.lst (xs++zs)))
theorem Tg:cu X (binaryOp .Add) Tf:=by
 intro pins s σ H x y v u Q I rx ry h
 obtain ⟨l,b,xs,zs,rfl,rfl,hH,hB,hz,q⟩:=h
 cases rx
 cases ry
 obtain ⟨z,its,n,r,hl,e⟩:=I.DN hH
 obtain ⟨z2,its2,n2,r2,sr,e2⟩:=I.DN hB
 refine PySem.P.add_list e e2 ?_ (by rw [List.size_toArray,List.size_toArray];omega)
 have ea:its.toArray++its2.toArray=(its++its2).toArray:=by simp
 rw [ea]
 exact ⟨.ref _,_,I.S8 (t':=s.toks) (r.append r2) (by rw [Qk];omega),rfl,q _ I.fresh⟩
section
variable {κ:Type} [DecidableEq κ]
def cg (kvs:List (κ×V)) (k:κ):Option V:=(kvs.find? fun kv=>decide (kv.1=k)).map (·.2)
def putK (kvs:List (κ×V)) (k:κ) (v:V):List (κ×V):=
 if (kvs.any fun kv=>decide (kv.1=k))=true then kvs.map (fun kv=>if kv.1=k then (kv.1,v) else kv) else kvs++[(k,v)]
theorem cA {p:κ×V} {r:List (κ×V)} {k:κ} (e:p.1=k):cg (p::r) k=some p.2:=by simp [cg,List.find?_cons,e]
theorem cB {p:κ×V} {r:List (κ×V)} {k:κ} (e:¬p.1=k):cg (p::r) k=cg r k:=by simp [cg,List.find?_cons,e]
theorem cQ (k:κ):∀ kvs:List (κ×V),(kvs.any fun kv=>decide (kv.1=k))=(cg kvs k).isSome
 | []=>rfl
 | p::r=>by
  rw [List.any_cons]
  by_cases e:p.1=k
  ·simp only [cA e,Qv e,Bool.true_or,Option.isSome_some]
  ·rw [cB e,Qw e,Bool.false_or];exact cQ k r
theorem rS (k j:κ) (y:V):∀ kvs:List (κ×V),cg (kvs.map fun kv=>if kv.1=k then (kv.1,y) else kv) j=(cg kvs j).map fun x=>if j=k then y else x
 | []=>rfl
 | p::r=>by
  have ih:=rS k j y r
  rw [List.map_cons]
  by_cases h:p.1=k
  ·rw [if_pos h]
   by_cases e:p.1=j
   ·rw [cA (p:=(p.1,y)) e,cA e,Option.map_some,if_pos (e.symm.trans h)]
   ·rw [cB (p:=(p.1,y)) e,cB e,ih]
  ·rw [if_neg h]
   by_cases e:p.1=j
   ·rw [cA (p:=p) e,cA e,Option.map_some,if_neg (fun z=>h (e.trans z))]
   ·rw [cB (p:=p) e,cB e,ih]
theorem k6 (k j:κ) (y:V):∀ kvs:List (κ×V),cg kvs k=none->cg (kvs++[(k,y)]) j=if j=k then some y else cg kvs j
 | [],_=>by
  by_cases e:k=j
  ·rw [if_pos e.symm];exact cA (p:=(k,y)) e
  ·rw [if_neg (fun z=>e z.symm)];exact cB (p:=(k,y)) e
 | p::r,hn=>by
  rw [List.cons_append]
  have hk:¬p.1=k:=fun z=>by rw [cA z] at hn;cases hn
  rw [cB hk] at hn
  have ih:=k6 k j y r hn
  by_cases e:p.1=j
  ·rw [cA e,cA e,if_neg (fun z=>hk (e.trans z))]
  ·rw [cB e,cB e,ih]
theorem Ti (kvs:List (κ×V)) (k j:κ) (y:V):cg (putK kvs k y) j=if j=k then some y else cg kvs j:=by
 unfold putK
 by_cases a:(kvs.any fun kv=>decide (kv.1=k))=true
 ·rw [if_pos a,rS]
  rw [cQ] at a
  by_cases e:j=k
  ·obtain ⟨x,hx⟩:=Option.isSome_iff_exists.mp a
   rw [if_pos e,e,hx,Option.map_some,if_pos rfl]
  ·rw [if_neg e]
   cases cg kvs j with
   | none=>rfl
   | some x=>rw [Option.map_some,if_neg e]
 ·rw [if_neg a]
  refine k6 k j y kvs ?_
  rw [cQ] at a
  cases q:cg kvs k with
  | none=>rfl
  | some x=>rw [q] at a;exact (a rfl).elim
theorem cX (kvs:List (κ×V)) (k:κ) (v:V):(putK kvs k v).length<=kvs.length+1:=by
 unfold putK
 split
 ·rw [Ql];omega
 ·rw [Qk,List.length_cons,List.length_nil];omega
theorem dE {kvs:List (κ×V)} {k:κ} (v:V) (h:cg kvs k=none):putK kvs k v=kvs++[(k,v)]:=by
 unfold putK
 rw [cQ,h]
 exact if_neg (by decide)
theorem oq.FE {o:Option V} {u:Option Value} (r:oq o u):o.isSome=u.isSome:=by
 cases o with
 | none=>cases u with
  | none=>rfl
  | some _=>exact (show False from r).elim
 | some _=>cases u with
  | none=>exact (show False from r).elim
  | some _=>rfl
theorem oq.getD {o:Option V} {u:Option Value} {d:V} {d':Value} (r:oq o u) (rd:RelV d d'):RelV (o.getD d) (u.getD d'):=by
 cases o with
 | none=>cases u with
  | none=>exact rd
  | some _=>exact (show False from r).elim
 | some _=>cases u with
  | none=>exact (show False from r).elim
  | some _=>exact r
theorem KV.val {kvs:List (κ×V)} {vs:List (κ×Value)} (r:KV kvs vs) (k:κ):oq (cg kvs k) (valueAt vs k):=by
 unfold KV at r
 induction r with
 | nil=>exact True.intro
 | @cons p q ps qs h t ih=>
  obtain ⟨h1,h2⟩:=h
  by_cases e:p.1=k
  ·have e':q.1=k:=h1.symm.trans e
   have b:valueAt (q::qs) k=some q.2:=by simp [valueAt,List.find?_cons,e']
   rw [cA e,b];exact h2
  ·have e':¬q.1=k:=fun z=>e (h1.trans z)
   have b:valueAt (q::qs) k=valueAt qs k:=by simp [valueAt,List.find?_cons,e']
   rw [cB e,b];exact ih
theorem KV.any {kvs:List (κ×V)} {vs:List (κ×Value)} (r:KV kvs vs) (k:κ):(kvs.any fun kv=>decide (kv.1=k))=vs.any fun kv=>decide (kv.1=k):=by
 unfold KV at r
 induction r with
 | nil=>rfl
 | cons h t ih=>rw [List.any_cons,List.any_cons,ih,h.1]
theorem KV.repl {kvs:List (κ×V)} {vs:List (κ×Value)} (r:KV kvs vs) (k:κ) {y:V} (ry:RelV y u):
  KV (kvs.map fun kv=>if kv.1=k then (kv.1,y) else kv) (vs.map fun kv=>if kv.1=k then (kv.1,u) else kv):=by
 unfold KV at r ⊢
 induction r with
 | nil=>exact .nil
 | @cons p q ps qs h t ih=>
  rw [List.map_cons,List.map_cons]
  refine .cons ?_ ih
  obtain ⟨h1,h2⟩:=h
  by_cases e:p.1=k
  ·rw [if_pos e,if_pos (h1.symm.trans e)];exact ⟨h1,ry⟩
  ·rw [if_neg e,if_neg (fun z=>e (h1.trans z))];exact ⟨h1,h2⟩
theorem KV.put {kvs:List (κ×V)} {vs:List (κ×Value)} (r:KV kvs vs) (k:κ) {y:V} (ry:RelV y u):KV (putK kvs k y) (stored vs k u):=by
 unfold putK stored
 rw [r.any k]
 by_cases e:(vs.any fun kv=>decide (kv.1=k))=true
 ·rw [if_pos e,if_pos e];exact r.repl k ry
 ·rw [if_neg e,if_neg e];exact Paired.snoc r ⟨rfl,ry⟩
theorem KV.length {kvs:List (κ×V)} {vs:List (κ×Value)} (r:KV kvs vs):kvs.length=vs.length:=Paired.length r
end
theorem kS {k:Key} (r:RelV (kV k) u):(bx P w).is k u=true:=by
 cases k with
 | inl i=>obtain ⟨t,e⟩:=(show ∃ t,u=Value.int i t from r);subst e;exact rK P w i t
 | inr x=>obtain ⟨t,e⟩:=(show ∃ t,u=Value.str x t from r);subst e;exact iA P w x t
theorem Tj {a b:Key} (e:kV a=kV b):a=b:=by
 cases a with
 | inl i=>cases b with
  | inl j=>have e':V.int i=V.int j:=e;injection e' with e';rw [e']
  | inr y=>exact nomatch (show V.int i=V.str y from e)
 | inr x=>cases b with
  | inl j=>exact nomatch (show V.str x=V.int j from e)
  | inr y=>have e':V.str x=V.str y:=e;injection e' with e';rw [e']
theorem nX {P:Program} {w:World}:∀ {ks:List Key} {us:List Value},bg (ks.map kV) us->ItemsAre (bx P w) ks us
 | [],_,r=>by rw [List.map_nil] at r;cases r;exact .nil
 | k::ks,_,r=>by
  rw [List.map_cons] at r
  cases r with
  | cons h t=>exact .cons (kS h) (nX t)
abbrev KT (H:Hp):List (List Key×V)->List (List Key×Addr×Value)->Prop:=Paired fun p q=>p.1=q.1/\au H q.2.1 (p.1.map kV)/\RelV p.2 q.2.2
theorem KT.val {kvs:List (List Key×V)} (r:KT H kvs xs) (k:List Key):oq (cg kvs k) ((atKey xs k).map (·.2)):=by
 induction r with
 | nil=>exact True.intro
 | @cons p q ps qs h t ih=>
  obtain ⟨h1,_,h2⟩:=h
  by_cases e:p.1=k
  ·have e':q.1=k:=h1.symm.trans e
   have b:atKey (q::qs) k=some q.2:=by simp [atKey,List.find?_cons,e']
   rw [cA e,b];exact h2
  ·have e':¬q.1=k:=fun z=>e (h1.trans z)
   have b:atKey (q::qs) k=atKey qs k:=by simp [atKey,List.find?_cons,e']
   rw [cB e,b];exact ih
theorem KT.repl {kvs:List (List Key×V)} (r:KT H kvs xs) (k:List Key) {y:V} (ry:RelV y u):
  KT H (kvs.map fun kv=>if kv.1=k then (kv.1,y) else kv) (xs.map (putAt k u)):=by
 induction r with
 | nil=>exact .nil
 | @cons p q ps qs h t ih=>
  rw [List.map_cons,List.map_cons]
  refine .cons ?_ ih
  obtain ⟨h1,h2,h3⟩:=h
  unfold putAt
  by_cases e:p.1=k
  ·rw [if_pos e,if_pos (h1.symm.trans e)];exact ⟨h1,h2,ry⟩
  ·rw [if_neg e,if_neg (fun z=>e (h1.trans z))];exact ⟨h1,h2,h3⟩
theorem KT.put {kvs:List (List Key×V)} (r:KT H kvs xs) (k:List Key) {y:V} (hb:au H b (k.map kV)) (ry:RelV y u):
  KT H (putK kvs k y) (storedH xs k b u):=by
 have e:(kvs.any fun kv=>decide (kv.1=k))=(atKey xs k).isSome:=by
  rw [cQ,(r.val k).FE,Option.isSome_map]
 unfold putK storedH
 rw [e]
 by_cases q:(atKey xs k).isSome=true
 ·rw [if_pos q,if_pos q];exact r.repl k ry
 ·rw [if_neg q,if_neg q];exact Paired.snoc r ⟨rfl,hb,ry⟩
theorem KT.keeps {kvs:List (List Key×V)} (r:KT H kvs xs) (ht:∀ b ys,au H b ys->au H' b ys):KT H' kvs xs:=
 Paired.G7 r fun _ _ z=>⟨z.1,ht _ _ z.2.1,z.2.2⟩
theorem Lh {u:HO} (ok:fm P w H h) (e:Rd H a u):cz P w H h a u:=e.ok ok
theorem qT {kvs:List (Key×V)} (ok:fm P w H h) (e:Rd H a (.dK kvs)):kvs.length<=sizeLine/\(a==sysModules)=false/\∃ vs,KV kvs vs/\h.DictOf (bx P w) a vs:=
 show cz P w H h a (.dK kvs) from Lh ok e
theorem Hv {kvs:List (Key×V)} (ok:fm P w H h) (e:H a=some (.dK kvs)):kvs.length<=sizeLine/\(a==sysModules)=false/\∃ vs,KV kvs vs/\h.DictOf (bx P w) a vs:=qT ok (.inl e)
theorem fB (ok:fm P w H h) (e:au H a (ks.map kV)):(tupleKind (bx P w)).is h ks a:=by
 have qq:cz P w H h a (.tup (ks.map kV)):=by
  rcases e with e | ⟨_,e⟩
  ·exact ok a _ e
  ·exact (ok a _ e).2
 obtain ⟨_,its,r,o,h1,h2,n,h3⟩:=qq
 exact ⟨o,its.toArray,n,h1,h2,h3,by simpa using nX r⟩
theorem vF {kvs:List (List Key×V)} (ok:fm P w H h) (e:Rd H a (.dT kvs)):kvs.length<=sizeLine/\(a==sysModules)=false/\
  ∃ xs,KT H kvs xs/\h.DictOfH (tupleKind (bx P w)) a xs:=by
 obtain ⟨z,y,xs,r,o,es,ep,h1,h2,h3,h4,h5⟩:=(show cz P w H h a (.dT kvs) from Lh ok e)
 refine ⟨z,y,xs,r,o,es,ep,h1,h2,h3,h4,fun x hx=>?_,h5⟩
 have all:∀ {l:List (List Key×V)} {m:List (List Key×Addr×Value)},KT H l m->∀ x∈m,(tupleKind (bx P w)).is h x.1 x.2.1:=by
  intro l m q
  induction q with
  | nil=>intro x hx;exact nomatch hx
  | @cons p q ps qs hq t ih=>
   intro x hx
   rcases Qp.mp hx with e | hx
   ·subst e
    exact fB ok (by rw [<- hq.1];exact hq.2.1)
   ·exact ih x hx
 exact all r x hx
theorem Li {kvs:List (List Key×V)} (ok:fm P w H h) (e:H a=some (.dT kvs)):kvs.length<=sizeLine/\(a==sysModules)=false/\
  ∃ xs,KT H kvs xs/\h.DictOfH (tupleKind (bx P w)) a xs:=vF ok (.inl e)
def fu (H:Hp) (a:Addr) (y:V) (r:Option V):Prop:=
 (∃ kvs k,Rd H a (.dK kvs)/\y=kV k/\r=cg kvs k)\/∃ kvs k b,Rd H a (.dT kvs)/\y=.ref b/\au H b (k.map kV)/\r=cg kvs k
def AM (H:Hp) (a:Addr) (y v:V) (H':Hp):Prop:=
 (∃ kvs k,H a=some (.dK kvs)/\y=kV k/\kvs.length < sizeLine/\H'=upd H a (.dK (putK kvs k v)))\/
 ∃ kvs k b,H a=some (.dT kvs)/\y=.ref b/\au H b (k.map kV)/\kvs.length < sizeLine/\H'=upd H a (.dT (putK kvs k v))
theorem fu.k {H:Hp} {a:Addr} {kvs:List (Key×V)} {k:Key} (e:H a=some (.dK kvs)):fu H a (kV k) (cg kvs k):=.inl ⟨kvs,k,.inl e,rfl,rfl⟩
theorem fu.t {kvs:List (List Key×V)} {k:List Key} (e:H a=some (.dT kvs)) (eb:H b=some (.tup (k.map kV))):fu H a (.ref b) (cg kvs k):=.inr ⟨kvs,k,b,.inl e,rfl,.inl eb,rfl⟩
theorem AM.k {H:Hp} {a:Addr} {kvs:List (Key×V)} {k:Key} {v:V} (e:H a=some (.dK kvs)) (hl:kvs.length < sizeLine):AM H a (kV k) v (upd H a (.dK (putK kvs k v))):=.inl ⟨kvs,k,e,rfl,hl,rfl⟩
theorem AM.t {kvs:List (List Key×V)} {k:List Key} {v:V} (e:H a=some (.dT kvs)) (eb:H b=some (.tup (k.map kV))) (hl:kvs.length < sizeLine):
  AM H a (.ref b) v (upd H a (.dT (putK kvs k v))):=.inr ⟨kvs,k,b,e,rfl,.inl eb,hl,rfl⟩
section
variable {y v:V} {r:Value} {o:Option V}
theorem Inv.big (I:Inv X pins σ H s):sysModules < s.heap.objs.size:=by
 have h:mainGlobals < s.heap.objs.size:=(I.mod.glob.keeps I.bk).lt
 exact Nat.lt_trans (by decide) h
theorem wV (hu:A.units+1 < cLine) (I:Inv X pins σ H s) (g:fu H a y (some v)) (ry:RelV y u) (h:∀ w' s',Inv X pins σ H s'->RelV v w'->Q w' s'):
  wpAny (model X.prog X.w) A (getItem (.ref a) u) Q E s:=by
 rcases g with ⟨kvs,k,e,ey,l⟩ | ⟨kvs,k,b,e,ey,eb,l⟩
 ·subst ey
  obtain ⟨z,hd,vs,rel,dd⟩:=qT I.hok e
  obtain ⟨w',hw,qh⟩:=oq.some_of (v:=v) (o:=valueAt vs k) (by rw [l];exact rel.val k)
  exact wpAny_getItem_of (kS ry) dd.mapOf hw (h w' _ (I.tok _) qh)
 ·subst ey
  cases (show u=Value.ref b from ry)
  obtain ⟨z,hd,xs,rel,dd⟩:=vF I.hok e
  obtain ⟨w',hw,qh⟩:=oq.some_of (v:=v) (o:=(atKey xs k).map (·.2)) (by rw [l];exact rel.val k)
  obtain ⟨p,hp,AN⟩:=Option.map_eq_some_iff.mp hw
  refine wpAny_getItem_heap (tupleKind_room_in1 hu) (fB I.hok eb) dd hp ?_
  rw [AN]
  exact h w' _ (I.tok _) qh
theorem Tn (hu:A.units+1 < cLine) (I:Inv X pins σ H s) (g:fu H a y o) (ry:RelV y u) (h:∀ s',Inv X pins σ H s'->Q (.bool (!o.isSome)) s'):
  wpAny (model X.prog X.w) A (compareOp .NotIn u (.ref a)) Q E s:=by
 rcases g with ⟨kvs,k,e,ey,l⟩ | ⟨kvs,k,b,e,ey,eb,l⟩
 ·subst ey
  obtain ⟨z,hd,vs,rel,dd⟩:=qT I.hok e
  refine wpAny_notIn_of (kS ry) hd dd.mapOf ?_
  rw [<- (rel.val k).FE,<- l]
  exact h _ (I.tok _)
 ·subst ey
  cases (show u=Value.ref b from ry)
  obtain ⟨z,hd,xs,rel,dd⟩:=vF I.hok e
  refine wpAny_notIn_heap (tupleKind_room_in1 hu) (fB I.hok eb) hd dd ?_
  have q:=(rel.val k).FE
  rw [Option.isSome_map] at q
  rw [<- q,<- l]
  exact h _ (I.tok _)
theorem jV {ob:HO} (I:Inv X pins σ H s) (mu:Dy (H a)) (hs:Heap.SameBut a s.heap h') (he:∃ q,h'.get? a=some q) (new:cz X.prog X.w (upd H a ob) h' a ob):
  Inv X pins σ (upd H a ob) {s with heap:=h',toks:=t'}:=
 I.write (x:=a) (e:=a) mu (.inl rfl) (fun b q hb z=>(hs.2 b hb).trans z) he new
theorem uZ {kvs:List (Key×V)} {vs:List (Key×Value)} (z:kvs.length<=sizeLine) (hd:(a==sysModules)=false) (rel:KV kvs vs) (dd:h'.DictOf (bx P w) a vs):
  cz P w H' h' a (.dK kvs):=⟨z,hd,vs,rel,dd⟩
theorem yB {Q:Unit->Shared->Prop} (hu:A.units+1 < cLine) (I:Inv X pins σ H s) (g:AM H a y v H') (ry:RelV y u) (rv:RelV v r) (h:∀ s',Inv X pins σ H' s'->Q () s'):
  wpAny (model X.prog X.w) A (setItem (.ref a) u r) Q E s:=by
 rcases g with ⟨kvs,k,e,ey,l,eH⟩ | ⟨kvs,k,b,e,ey,eb,l,eH⟩
 ·subst ey eH
  obtain ⟨z,hd,vs,rel,dd⟩:=Hv I.hok e
  have hz:vs.length<=sizeLine:=by rw [<- rel.length];exact z
  have hl:(putK kvs k v).length<=sizeLine:=by have:=cX kvs k v;omega
  refine wpAny_setItem_pairs (hsz:=hz) (kS ry) dd fun h' ow hs=>h _ ?_
  have he:∃ q,h'.get? a=some q:=let ⟨q,_,_,hq,_⟩:=ow;⟨q,hq⟩
  exact jV I (by rw [e];exact True.intro) hs he (uZ hl hd (rel.put k rv) ow)
 ·subst ey eH
  cases (show u=Value.ref b from ry)
  obtain ⟨z,hd,xs,rel,dd⟩:=Li I.hok e
  have hz:xs.length<=sizeLine:=by rw [<- Paired.length rel];exact z
  have hl:(putK kvs k v).length<=sizeLine:=by have:=cX kvs k v;omega
  refine wpAny_setItem_heap (hsz:=hz) (tupleKind_room_in1 hu) (fB I.hok eb) dd fun h' ow hs=>h _ ?_
  obtain ⟨q,es,ep,hq,h2,h3,h4,_,h5⟩:=ow
  refine jV I (by rw [e];exact True.intro) hs ⟨q,hq⟩ ⟨hl,hd,_,(rel.put k eb rv).keeps fun c ys ec=>?_,q,es,ep,hq,h2,h3,h4,h5⟩
  refine ec.upd fun u hu z=>?_
  subst z
  rcases ec with ec | ⟨_,ec⟩<;>(rw [e] at ec;cases ec)
end
section
variable {kvs:List (Key×V)} {k:Key}
theorem To (I:Inv X pins σ H s) (e:Rd H a (.dK kvs)) (h:∀ t s',Inv X pins σ H s'->Q (.int kvs.length t) s'):wpAny (model X.prog X.w) A (call (.builtin "len") [.ref a]) Q E s:=by
 obtain ⟨z,hd,vs,rel,dd⟩:=qT I.hok e
 refine call_len_dict hd dd (by rw [<- rel.length];rw [QL] at z;omega) ?_
 rw [<- rel.length]
 exact h _ _ (I.tok _)
end
def FH (i:Expr):Prop:=∀ ov iv,subscripted i false ov iv=operate [ov,iv] (getItem ov iv)
theorem vJ {value slice:Expr} {pos:Pos} {id:String}
  (hl:typeLookup (.type T) "__getitem__"=pure (some (.builtin id))) (hs:FH slice)
  (h:wpAny (model prog w) A (eval value env) (fun o s₁=>wpAny (model prog w) A (eval slice env) (fun i s₂=>s₂.TypeIs o T/\wpAny (model prog w) A (getItem o i) Q E s₂) E s₁) E s):
  wpAny (model prog w) A (eval (.Subscript value slice pos) env) Q E s:=by
 refine Subscript_ (wpAny_mono h (fun o s₁ h₁=>wpAny_mono h₁ (fun i s₂ h₂=>?_) fun _ _ x=>x) fun _ _ x=>x)
 obtain ⟨hT,h₂⟩:=h₂
 unfold subscriptTail
 refine QT ?_
 rw [getitemInPython_of_ne hT.not_modules]
 refine QT (wpAny_specialOf hT hl ?_)
 have fin:wpAny (model prog w) A (subscripted slice false o i) (fun r s₃=>wpAny (model prog w) A (letTemporaryGo value o r >>=fun _=>pure r) Q E s₃) E s₂:=by
  rw [hs o i]
  exact wpAny_operating (wpAny_mono h₂ (fun r s₃ h₃=>QT (wpAny_letTemporaryGo (QU h₃))) fun _ _ x=>x)
 first
  | exact QU (QT fin)
  | exact QT (QU (QT fin))
  | exact QT fin
theorem sI {y:V} {o:Option V} (I:Inv X pins σ H s) (g:fu H a y o):s.TypeIs (.ref a) "dict":=by
 rcases g with ⟨kvs,k,e,_,_⟩ | ⟨kvs,k,b,e,_,_,_⟩
 ·obtain ⟨_,_,vs,_,dd⟩:=qT I.hok e
  exact dd.typeIs
 ·obtain ⟨_,_,xs,_,dd⟩:=vF I.hok e
  exact dd.typeIs
def Lj (td ty:TE):TE:=fun σ H Q=>td σ H fun x H1=>ty σ H1 fun y H2=>∃ a v,x=.ref a/\fu H2 a y (some v)/\Q v H2
def Lk (td ty tv:TE):TS:=fun D σ H=>tv σ H fun v H1=>td σ H1 fun x H2=>ty σ H2 fun y H3=>∃ a H4,x=.ref a/\AM H3 a y v H4/\D.nx σ H4
section
variable {o i value:Expr} {pos pos' By:Pos} {td ty tv:TE}
theorem Tp (hu:X.A.units+1 < cLine) (ho:PE X o td) (hi:PE X i ty) (hs:FH i):PE X (.Subscript o i pos) (Lj td ty):=by
 intro pins s σ H Q I h
 refine vJ PySem.F.slot_dict_getitem.lookup hs (av (ho pins s σ H _ I h) fun u s1 ⟨x,H1,I1,rx,q1⟩=>av (hi pins s1 σ H1 _ I1 q1) fun iv s2 ⟨y,H2,I2,ry,a,v,ex,g,q2⟩=>?_)
 subst ex
 obtain rfl:u=Value.ref a:=rx
 exact ⟨sI I2 g,wV hu I2 g ry fun w' s3 I3 qh=>⟨v,H2,I3,qh,q2⟩⟩
theorem Tq (hu:X.A.units+1 < cLine) (ho:PE X o td) (hi:PE X i ty) (hv:PE X value tv) (hs:swapsWith value (some (.Subscript o i pos')) pos.line X.env=pure false):
  PS X (.Assign [.Subscript o i pos'] value pos) (Lk td ty tv):=by
 intro pins s σ H D I h
 refine wpAny_Assign_Subscript (av (hv pins s σ H _ I h) fun r s1 ⟨v,H1,I1,rv,q1⟩=>av (ho pins s1 σ H1 _ I1 q1) fun u s2 ⟨x,H2,I2,rx,q2⟩=>av (hi pins s2 σ H2 _ I2 q2) fun iv s3 ⟨y,H3,I3,ry,a,H4,ex,g,q3⟩=>?_) hs
 subst ex
 obtain rfl:u=Value.ref a:=rx
 exact yB hu I3 g ry rv fun s4 I4=>⟨σ,H4,I4,q3⟩
end
theorem zU (h:Heap) (hb:sysModules < h.objs.size):cz P w H (h.push {cls:=.type "dict",data:=.dict #[]}) h.objs.size (.dK []):=
 ⟨Nat.zero_le _,beq_eq_false_iff_ne.mpr (Ne.symm (Nat.ne_of_lt hb)),[],.nil,Heap.DictOf.new h⟩
theorem Tr (h:Heap) (hb:sysModules < h.objs.size):cz P w H (h.push {cls:=.type "dict",data:=.dict #[]}) h.objs.size (.dT []):=
 ⟨Nat.zero_le _,beq_eq_false_iff_ne.mpr (Ne.symm (Nat.ne_of_lt hb)),[],.nil,_,#[],0,Qd _ rfl,⟨rfl,rfl,rfl⟩,rfl,rfl,List.nodup_nil⟩
def Ll:TE:=fun _ H Q=>∀ p,H p=none->Q (.ref p) (upd H p (.dK []))
def Lm:TE:=fun _ H Q=>∀ p,H p=none->Q (.ref p) (upd H p (.dT []))
section
variable {pos:Pos}
theorem Tt:PE X (.Dict [] [] pos) Ll:=fun pins s σ H Q I h=>
 wpAny_Dict_empty ⟨.ref s.heap.objs.size,_,I.laid (a:=s.heap.objs.size) (o:=.dK []) (t':=s.toks) (fun _ _ q=>Qc _ q) (Qy _) (zU s.heap I.big),rfl,h _ (I.hok.fresh (Qy _))⟩
theorem Tu:PE X (.Dict [] [] pos) Lm:=fun pins s σ H Q I h=>
 wpAny_Dict_empty ⟨.ref s.heap.objs.size,_,I.laid (a:=s.heap.objs.size) (o:=.dT []) (t':=s.toks) (fun _ _ q=>Qc _ q) (Qy _) (Tr s.heap I.big),rfl,h _ (I.hok.fresh (Qy _))⟩
end
section
variable {y d:V} {r:Value} {o:Option V}
end
section
variable {o f:Expr} {td ty tx:TE}
end
section
variable {kvs:List (Key×V)}
end
section
variable {y:V}
end
end L2
namespace Ln
open PySem PySem.W PySem.Calls PyProof.Rows
theorem lB {P:Params}:∀ (ns:List Int) (vs:List Value),WellAll P h vs (ns.map WData.int)->IntsAre vs ns:=by
 intro ns
 induction ns with
 | nil=>
  intro vs w
  rw [List.map_nil] at w
  cases w
  exact .nil
 | cons n ns ih=>
  intro vs w
  rw [List.map_cons] at w
  cases w with
  | cons a b=>
   cases a
   exact .cons _ _ (ih _ b)
theorem yH {l:OpenLaw} (hn:l.most=some n) {P:Params} {args:List WData} {vals:List Value}
  (z_:l.row.toRowW.claim.pre args=true) (Hw:WellAll P h vals args):
  ∃ a vs ns,vals=[Value.ref a]/\args=[WData.list (ns.map WData.int)]/\h.get? a=some {cls:=.type "list",data:=.seq vs.toArray}/\IntsAre vs ns/\ns.length<=n:=by
 have Tw:WShape.hasAll [] args [.list .int]=true:=(pre_splitW z_).1
 have hc:l.pre.holds [] {args:=args}=true:=(pre_splitW z_).2
 obtain ⟨d,r,rfl,h1,h2⟩:=hasAllW_cons Tw
 obtain rfl:=hasAllW_nil h2
 obtain ⟨xs,rfl,h3⟩:=hasW_list h1
 obtain ⟨ns,rfl⟩:=items_int h3
 have fc:ns.length<=n:=by
  unfold OpenLaw.pre at hc
  have h4:(WTm.not (.lt (.lit (.int (n:Int))) (.len (.arg 0)))).holds [] {args:=[.list (ns.map .int)]}=true:=by
   have h4:=(holds_andW hc).1
   rw [hn] at h4
   exact h4
  have h5:=condW_of h4 (w_not (w_lt w_lit (w_len_list (w_arg rfl))))
  rw [Ql] at h5
  refine Nat.le_of_not_lt fun q=>?_
  have q':(n:Int) < ((ns.length:Nat):Int):=by omega
  first
   | (rw [Qv q'] at h5;exact absurd h5 (by decide))
   | (simp at h5;omega)
 cases Hw with
 | cons w1 w2=>
  cases w2
  cases w1 with
  | list ho kg=>exact ⟨_,_,ns,rfl,rfl,ho,lB ns _ kg,fc⟩
theorem yG (l:OpenLaw) (args:List WData):l.row.toRowW.claim.post args (.bool true) args=true:=
 postW_of (r:=l.row.toRowW) (X:=(true==true))
  (show WShape.has [] (.bool true) .bool=true by first | rfl | decide | simp [WShape.has,WShape.arms,WShape.armsAll])
  (show (WTm.eq .res (.lit (.bool true))).value [] {args:=args,res:=some (.bool true),after:=args}=some (.bool (true==true)) from w_eq_bool (w_res rfl) w_lit) rfl
theorem qW {l:OpenLaw} {q:Program} {loose:List Str} {YP:World->Heap->Prop} {d:DefRec}
  (hn:l.most=some n) (Hx:d.params.defaults=[])
  (call:∀ (w:World) (s₀ s₁:Shared) (mg mb:Str->Option Value) (fa:Addr) (o:Obj) (pm cd doc:Value) (a:Addr) (vs:List Value) (ns:List Int),
   Ground q loose [] XP w s₀ mg mb s₁.heap->YP w s₁.heap->
   s₁.heap.get? fa=some o->o.data=.func (docDef d.name d.params d.body d.scope pm cd doc)->s₁.heap.CodeRec cd d.name->mg d.name=some (.ref fa)->
   s₁.heap.get? a=some {cls:=.type "list",data:=.seq vs.toArray}->IntsAre vs ns->ns.length<=n->s₁.gens=#[]->
   codeAny (model l.prog w) callerA (.call (.ref fa) ⟨[.ref a],[]⟩) (fun r s'=>r=.ok (.ret (.bool true))/\OldK s₁.heap s'.heap/\s'.os=s₁.os/\AllBare s'.gens) s₁):
  WalkO q loose XP YP l.row.toRowW d [] (fun f vs=>PySem.call f vs):=by
 intro w s₀ s₁ mg mb G Y fa o pm cd doc dV kV ho hd qf hD CC hg args vals as z_ aau Tz Hw TF
 obtain rfl:dV=.none:=Dflts.none hD Hx
 obtain rfl:kV=.none:=Dflts.noKw hD
 obtain ⟨a,vs,ns,rfl,rfl,Hy,Hz,fc⟩:=yH hn z_ Hw
 refine enter_call (codeAny_mono (call w s₀ s₁ mg mb fa o pm cd doc a vs ns G Y ho (fd_plain hd) qf CC Hy Hz fc hg) fun r s' hq=>?_)
 obtain ⟨rfl,h2,h3,h4⟩:=hq
 exact ⟨.inl ⟨.bool true,.bool true,[],rfl,fun _=>rfl,.bool true,yG l _,fun _=>⟨List.Pairwise.nil,fun _ hm=>(nomatch hm)⟩⟩,h2,h3,h4⟩
section
variable {K:Frag}
end
end Ln
namespace L2
open PySem PySem.Spec PyProof.Rows
theorem nY:∀ {vs:List Value} {ns:List Int},IntsAre vs ns->bg (ns.map V.int) vs
 | _,_,.nil=>.nil
 | _,_,.cons n t h=>.cons ⟨t,rfl⟩ (nY h)
def inClass (s:Stmt) (j:Nat):Stmt:=match s with
 | .ClassDef _ _ _ body _ _ _ _ _ _ _=>body.getD j (.Pass ⟨0,0,0,0⟩)
 | _=>.Pass ⟨0,0,0,0⟩
def su (s:Stmt):Arguments:=match s with
 | .FunctionDef _ a _ _ _ _ _ _ _ _=>a
 | _=>{posonlyargs:=[],args:=[],vararg:=none,kwonlyargs:=[],kw_defaults:=[],kwarg:=none,defaults:=[]}
def lh (s:Stmt):List Stmt:=match s with
 | .FunctionDef _ _ b _ _ _ _ _ _ _=>b
 | _=>[]
def bh (s:Stmt):Scope:=match s with
 | .FunctionDef _ _ _ _ _ _ sc _ _ _=>sc
 | _=>{kind:=.function,names:=[],isGenerator:=false,isCoroutine:=false}
abbrev Aa:wu:=fun _ _ _ _ _ _=>False
abbrev E0:XK:=fun _ _ _=>False
theorem Lo:DK Aa X E0:=fun _ _ _ _ _ _ _ h=>h.elim
structure AO (K:Q0) (x qual:Str) (st:Stmt) (f:Addr) (fd:FuncData):Prop where
 ex:∃ (oc:Value) (od:Option Addr) (kV doc pm:Value) (an:Option Addr) (bc ct:Value) (nk:Array (Option Value)),
  fd=PySem.W.fnOf x qual (su st) (lh st) (bh st) .none kV doc pm an bc ct/\K.lookup f=some ⟨oc,od,.func fd,nk⟩/\PySem.W.codeIn K bc qual=true
 kp:PySem.W.keepIn K (.ref f)=true
section
variable {K:Q0}
theorem AO.ok {qual:Str} {st:Stmt} {f:Addr} {N:List Str} {k:Nat} {sp:Sp} (F:AO K x qual st f fd) (S:dw N ps (bh st)) (len:∀ vs H Q E,sp vs H Q E->vs.length=ps.length)
  (zp:∀ (bc:Value) (A:Around) (outer:List Env) (s:Shared) (H:Hp) (vs:List V) (Q:VK) (E:XK),gk k (A.deeper (envOfC qual (bh st) s.heap.objs.size f bc))->sp vs H Q E->
   ∃ t,qe (zo Aa P w K mg base N qual (bh st) f bc A outer s H E).Bq (lh st) t/\t {nx:=fun _ H'=>Q .ai H',rt:=Q} (start N vs) H):ud P w K mg base Aa (k+1) f fd ps sp:=by
 obtain ⟨oc,od,kV,doc,pm,an,bc,ct,nk,rfl,lk,qf⟩:=F.ex
 refine Sq lk qf S len fun A outer s H vs Q E hr AI=>?_
 obtain ⟨t,h,q⟩:=zp bc A outer s H vs Q E hr AI
 exact ⟨t,h.Bq,q⟩
theorem AO.binds {qual:Str} {st:Stmt} {f:Addr} (F:AO K x qual st f fd)
  (h:∀ (kV doc pm:Value) (an:Option Addr) (bc ct:Value) (us:List Value),us.length=ps.length->bindArgs (PySem.W.fnOf x qual (su st) (lh st) (bh st) .none kV doc pm an bc ct) ⟨us,[]⟩=pure (ps.zip us)):Binds K fd ps []:=by
 obtain ⟨oc,od,kV,doc,pm,an,bc,ct,nk,rfl,lk,qf⟩:=F.ex
 exact .all (h kV doc pm an bc ct)
theorem TJ {qual:Str} {st:Stmt} {f:Addr} {oc:Value} {od an:Option Addr} {nk:Array (Option Value)} {kV doc pm bc ct:Value} (l:K.lookup f=some ⟨oc,od,.func (PySem.W.fnOf x qual (su st) (lh st) (bh st) .none kV doc pm an bc ct),nk⟩)
  (c:PySem.W.codeIn K bc qual=true) (k:PySem.W.keepIn K (.ref f)=true):AO K x qual st f (PySem.W.fnOf x qual (su st) (lh st) (bh st) .none kV doc pm an bc ct):=⟨⟨oc,od,kV,doc,pm,an,bc,ct,nk,rfl,l,c⟩,k⟩
end
theorem aU {k:Nat} (hr:gk k A):A.units+1 < cLine:=Nat.lt_of_le_of_lt (Nat.add_le_add_left (by decide:1<=64) _) hr.units
theorem TL (h:n<=1000):n < sizeLine:=Nat.lt_of_le_of_lt h (by decide)
theorem ig {A B:Prop} (h:B):if false=true then A else B:=by
 rw [if_neg Bool.false_ne_true]
 exact h
theorem w_ {A B:Prop} (h:A):if true=true then A else B:=by
 rw [if_pos rfl]
 exact h
theorem FI {c A B:Prop} [Decidable c] (h1:c->A) (h2:¬c->B):if c then A else B:=by
 by_cases h:c
 ·rw [if_pos h]
  exact h1 h
 ·rw [if_neg h]
  exact h2 h
def aa (H H':Hp):Prop:=∀ b o,H b=some o->H' b=some o
theorem aa.refl (H:Hp):aa H H:=fun _ _ h=>h
theorem aa.trans {H1 H2:Hp} (a:aa H H1) (b:aa H1 H2):aa H H2:=fun c o h=>b c o (a c o h)
theorem aa.free (e:aa H H') (h:H' l=Option.none):H l=Option.none:=by
 cases q:H l with
 | none=>rfl
 | some o=>
  rw [e l o q] at h
  cases h
section
variable {κ:Type} [DecidableEq κ]
theorem zW {kvs:List (κ×V)} {k:κ} (h:cg kvs k=none):¬k∈kvs.map (·.1):=by
 intro m
 obtain ⟨p,hp,e⟩:=List.mem_map.mp m
 have q:(kvs.any fun kv=>decide (kv.1=k))=true:=List.any_eq_true.mpr ⟨p,hp,Qv e⟩
 rw [cQ,h] at q
 exact absurd q (by simp)
theorem pO {kvs:List (κ×V)} {k:κ} {v:V} (h:cg kvs k=some v):k∈kvs.map (·.1):=by
 have q:(kvs.any fun kv=>decide (kv.1=k))=true:=by
  rw [cQ,h]
  all_goals rfl
 obtain ⟨p,hp,e⟩:=List.any_eq_true.mp q
 exact List.mem_map.mpr ⟨p,hp,Qt e⟩
theorem vM:∀ {l:List κ} {k:κ},l.Nodup->¬k∈l->(l++[k]).Nodup
 | [],k,_,_=>by simp
 | a::r,k,h,hk=>by
  obtain ⟨h1,h2⟩:=List.nodup_cons.mp h
  show (a::(r++[k])).Nodup
  refine List.nodup_cons.mpr ⟨fun m=>?_,vM h2 fun m=>hk (Qp.mpr (Or.inr m))⟩
  rcases List.mem_append.mp m with q | q
  ·exact h1 q
  ·exact hk (Qp.mpr (Or.inl (List.mem_singleton.mp q).symm))
theorem TM {kvs:List (κ×V)} {k:κ} (v:V) (hn:(kvs.map (·.1)).Nodup) (h:cg kvs k=none):((putK kvs k v).map (·.1)).Nodup:=by
 rw [dE v h,Qm]
 exact vM hn (zW h)
end
theorem j9 {env:Env}:∀ (names:List (Str×NameKind)) (acc:List (Str×Addr)),
  (∀ y∈names,y.2=.free->∃ c,env.cells.lookup y.1=some c)->(∀ x c,acc.lookup x=some c->env.cells.lookup x=some c)->
  ∃ cl,(forIn names acc fun (x:Str×NameKind) cs=>(if (x.2==NameKind.free)=true then (do let c <- cellOf env x.1;pure (ForInStep.yield ((x.1,c)::cs))) else pure (ForInStep.yield cs):Sem (ForInStep (List (Str×Addr)))))=pure cl/\
   (∀ x c,cl.lookup x=some c->env.cells.lookup x=some c)/\(∀ y∈names,y.2=.free->∃ c,cl.lookup y.1=some c)/\(∀ x c,acc.lookup x=some c->∃ c,cl.lookup x=some c)
 | [],acc,_,ha=>⟨acc,rfl,ha,(fun _ h=>nomatch h),fun x c h=>⟨c,h⟩⟩
 | (n,k)::r,acc,h,ha=>by
  rw [List.forIn_cons]
  by_cases hk:k=.free
  ·obtain ⟨c,hc⟩:=h (n,k) List.mem_cons_self hk
   have jj:cellOf env n=pure c:=by unfold cellOf;rw [show env.cells.lookup n=some c from hc]
   have TN:∀ x d,((n,c)::acc).lookup x=some d->env.cells.lookup x=some d:=fun x d hx=>by
    rw [List.lookup_cons] at hx
    cases e:x==n with
    | true=>rw [e] at hx;cases hx;rw [eq_of_beq e];exact hc
    | false=>rw [e] at hx;exact ha x d hx
   obtain ⟨cl,e,h1,h2,h3⟩:=j9 r ((n,c)::acc) (fun y hy=>h y (Qh _ hy)) TN
   refine ⟨cl,?_,h1,fun y hy hf=>?_,fun x d hx=>?_⟩
   ·have hk':(k==NameKind.free)=true:=by rw [hk];rfl
    simp only [hk',if_true,jj,pure_bind]
    exact e
   ·rcases Qp.mp hy with z | hy
    ·rw [z];exact h3 n c (by simp [List.lookup_cons])
    ·exact h2 y hy hf
   ·cases e2:x==n with
    | true=>exact h3 x c (by simp [List.lookup_cons,e2])
    | false=>exact h3 x d (by simp [List.lookup_cons,e2,hx])
  ·have hk':(k==NameKind.free)=false:=by simpa using hk
   obtain ⟨cl,e,h1,h2,h3⟩:=j9 r acc (fun y hy=>h y (Qh _ hy)) ha
   refine ⟨cl,?_,h1,fun y hy hf=>?_,h3⟩
   ·simp only [hk',Bool.false_eq_true,if_false,pure_bind]
    exact e
   ·rcases Qp.mp hy with z | hy
    ·rw [z] at hf;exact absurd hf hk
    ·exact h2 y hy hf
theorem u8 (h:∀ y∈sc.names,y.2=.free->∃ c,env.cells.lookup y.1=some c):
  ∃ cl,closureFor sc env=pure cl/\(∀ x c,cl.lookup x=some c->env.cells.lookup x=some c)/\(∀ y∈sc.names,y.2=.free->∃ c,cl.lookup y.1=some c):=by
 obtain ⟨cl,e,h1,h2,_⟩:=j9 (env:=env) sc.names [] h (fun _ _ h=>nomatch h)
 refine ⟨cl,?_,h1,h2⟩
 unfold closureFor
 have e':(forIn sc.names ([]:List (Str×Addr)) fun (x:Str×NameKind) cs=>(if (x.2==NameKind.free)=true then (do let c <- cellOf env x.1;pure (ForInStep.yield ((x.1,c)::cs))) else pure (ForInStep.yield cs):Sem (ForInStep (List (Str×Addr))))) >>=(fun cs=>(pure cs:Sem _))=pure cl:=by rw [e];rfl
 exact e'
theorem eB {env:Env}:∀ {names:List (Str×NameKind)} {x:Str},names.lookup x=some .free->
  (names.map fun (n,k)=>if (k==NameKind.free&&env.scope.kind==.function&&env.kindOf n==some .cell) then (n,NameKind.cell) else (n,k)).lookup x=some .cell\/
  (names.map fun (n,k)=>if (k==NameKind.free&&env.scope.kind==.function&&env.kindOf n==some .cell) then (n,NameKind.cell) else (n,k)).lookup x=some .free
 | [],_,h=>by simp at h
 | (n,k)::r,x,h=>by
  have ih:=@eB env r x
  show List.lookup x ((if (k==NameKind.free&&env.scope.kind==.function&&env.kindOf n==some .cell)=true then (n,NameKind.cell) else (n,k))::_)=_\/List.lookup x ((if (k==NameKind.free&&env.scope.kind==.function&&env.kindOf n==some .cell)=true then (n,NameKind.cell) else (n,k))::_)=_
  cases hx:x==n with
  | true=>
   simp only [List.lookup_cons,hx] at h
   cases h
   by_cases hc:(NameKind.free==NameKind.free&&env.scope.kind==.function&&env.kindOf n==some .cell)=true
   ·rw [if_pos hc];simp [List.lookup_cons,hx]
   ·rw [if_neg hc];simp [List.lookup_cons,hx]
  | false=>
   simp only [List.lookup_cons,hx] at h
   by_cases hc:(k==NameKind.free&&env.scope.kind==.function&&env.kindOf n==some .cell)=true
   ·rw [if_pos hc];simp only [List.lookup_cons,hx];exact ih h
   ·rw [if_neg hc];simp only [List.lookup_cons,hx];exact ih h
theorem kR {names:List (Str×NameKind)} {k:NameKind}
  (h:(names.map fun (n,k)=>if (k==NameKind.free&&env.scope.kind==.function&&env.kindOf n==some .cell) then (n,NameKind.cell) else (n,k)).lookup x=some k) (hk:k=.cell\/k=.free) (hc:∀ y∈names,y.2≠.cell):(x,NameKind.free)∈names:=by
 have hm:=PySem.mem_of_lookup h
 obtain ⟨⟨n,k'⟩,h1,h2⟩:=List.mem_map.mp hm
 dsimp only at h2
 split at h2
 ·next hh=>
  cases h2
  have:k'=.free:=by
   simp only [Bool.and_eq_true,beq_iff_eq] at hh
   exact hh.1.1
  rw [<- this];exact h1
 ·cases h2
  rcases hk with z | z
  ·exact absurd z (hc _ h1)
  ·rw [<- z];exact h1
abbrev di (X:Cx) (N':List Str) (sc:Scope) (cl:List (Str×Addr)) (C:Addr) (s3:Shared) (H0:Hp) (fp:List Addr) (pn:List (Addr×Obj)):Cx where
 prog:=X.prog
 w:=X.w
 K:=X.K
 mg:=X.mg
 base:=X.base
 A:=X.A
 N:=N'
 s₀:=s3
 H₀:=H0
 env:=compEnvC sc cl C X.env
 outer:=X.stack
 stack:=X.stack
 ex:=fp
 fn:=fun _=>false
 calm:=X.calm
 pn:=pn
 xe:=fun _ _=>False
structure q_ (CD:Scope) (oN:List Str) (sc:Scope) (own:List Str) (idx:List Nat) (N':List Str):Prop where
 kind:sc.kind=.function
 cell:∀ y∈sc.names,y.2≠.cell
 names:∀ y∈sc.names,y.2=.local->sc.names.lookup y.1=some .local
 free:∀ y∈sc.names,y.2=.free->(CD.names.lookup y.1=some .cell\/CD.names.lookup y.1=some .free)
 seen:∀ j∈idx,sc.names.lookup (oN.getD j "")=some .free/\j < oN.length
 nn:N'=own++idx.map (fun j=>oN.getD j "")
def ue (own:List Str) (idx:List Nat) (σ:St):St:=List.replicate own.length none++idx.map fun j=>(σ[j]?).join
section
variable {H2:Hp} {s2:Shared}
theorem m5 {h4:Heap} {ob:Obj} {ho:HO} {t4:Nat} (S:q_ X.env.scope X.N sc own idx N') (I:Inv X pins σ H2 s2) (hf:∀ b∈fp,qj X pins H2 b) (ug:∀ b∈fp,∃ o,s2.heap.get? b=some o)
  (c1:∀ x c,cl.lookup x=some c->X.env.cells.lookup x=some c) (c2:∀ y∈sc.names,y.2=.free->∃ c,cl.lookup y.1=some c) (xf:ob.isFreed=false)
  (hD:∀ (H:Hp) (h:Heap),h.get? s2.heap.objs.size=some ob->cz X.prog X.w H h s2.heap.objs.size ho)
  (ns:h4.Ns (s2.heap.push ob).objs.size (fun x=>([]:List (Str×Value)).reverse.lookup x)) (sb:∀ b o,(s2.heap.push ob).get? b=some o->h4.get? b=some o):
  Inv (di X N' sc cl (s2.heap.push ob).objs.size {s2 with heap:=s2.heap.push ob} (upd H2 s2.heap.objs.size ho) fp (X.pn++pins)) [] (ue own idx σ) (upd H2 s2.heap.objs.size ho) {s2 with heap:=h4,toks:=t4}:=by
 have hsz:(s2.heap.push ob).objs.size=s2.heap.objs.size+1:=Heap.size_push _ _
 have fr2:H2 s2.heap.objs.size=none:=I.hok.fresh (Qy _)
 have up:∀ b o,s2.heap.get? b=some o->(s2.heap.push ob).get? b=some o:=fun b o e=>Qc _ e
 have FJ:∀ b o,s2.heap.get? b=some o->h4.get? b=some o:=fun b o e=>sb b o (up b o e)
 have TQ:∀ b o,s2.heap.get? b=some o->b≠s2.heap.objs.size:=fun b o e=>Nat.ne_of_lt (Qz e)
 have nh:∀ b o,s2.heap.get? b=some o->H2 b=none->upd H2 s2.heap.objs.size ho b=none:=fun b o e n=>by rw [aF (TQ b o e)];exact n
 have TR:∀ b∈ni X.stack,∃ o,s2.heap.get? b=some o:=fun b hb=>by
  obtain ⟨_,o,ho,_⟩:=I.stack.mem hb
  exact ⟨o,ho⟩
 have TU:∀ x c,cl.lookup x=some c->∃ o,s2.heap.get? c=some o:=fun x c e=>by
  obtain ⟨v,o,ho,_⟩:=I.cell x c (c1 x c e)
  exact ⟨o,ho⟩
 have eD:(s2.heap.push ob).get? s2.heap.objs.size=some ob:=Qd s2.heap xf
 have TV:fm X.prog X.w (upd H2 s2.heap.objs.size ho) h4:=I.hok.laid FJ (Qy _) (hD _ _ (sb _ _ eD))
 refine ⟨⟨I.ok.mod,S.kind,I.ok.glob,I.ok.blt,Qy _,fun x y c h1 h2=>I.ok.inj x y c (c1 x c h1) (c1 y c h2),fun x hx=>?_,(fun x c hx _=>nomatch hx),I.ok.hd,I.ok.frames,.inl rfl,fun b hb=>⟨?_,fun x c e=>?_⟩,fun b o e=>⟨?_,?_⟩,?_,fun b o e hb=>?_,fun b hb=>?_,?_,fun b hb=>?_⟩,
  rfl,I.bare,Un.kept sb,⟨_,ns,fun i x v h1 h2 h3=>?_⟩,fun x c e=>?_,?_,fun x c e=>?_,fun p hp=>?_,TV,?_⟩
 ·rcases hx with hx | hx
  ·exact c2 (x,.free) (kR hx (.inl rfl) S.cell) rfl
  ·exact c2 (x,.free) (kR hx (.inr rfl) S.cell) rfl
 ·obtain ⟨o,e⟩:=ug b hb
  have:=Qz e
  show b≠(s2.heap.push ob).objs.size
  rw [hsz];exact Nat.ne_of_lt (Nat.lt_succ_of_lt this)
 ·exact (hf b hb).2.2.2.2.1 x c (c1 x c e)
 ·exact up b o (I.bk b o e)
 ·exact nh b o (I.bk b o e) (I.bs b o e).2
 ·show X.base.objs.size<=(s2.heap.push ob).objs.size
  have:=Nat.le_trans I.ok.zf I.sz
  rw [hsz];omega
 ·obtain ⟨f0,f1,f2,f3,f4,f5⟩:=hf b hb
  rcases f3 with z | z
  ·exact I.ok.DC b o e z
  ·exact absurd (Qz e) (Nat.not_lt.mpr (Nat.le_trans I.ok.zf z))
 ·obtain ⟨f0,f1,f2,f3,f4,f5⟩:=hf b hb
  intro z
  rcases Qp.mp (I.Bp b z) with z | z
  ·exact f1 z
  ·exact f2 z
 ·exact Heap.FunFrames.of_keeps (fun b o e _=>⟨o,up b o e,rfl⟩) I.stack
 ·obtain ⟨o,e⟩:=TR b hb
  exact nh b o e (I.Kz b hb)
 ·unfold ue at h2
  by_cases hi:i < own.length
  ·rw [Qg (by simpa using hi),List.getElem?_replicate,if_pos hi] at h2
   cases h2
  ·rw [List.getElem?_append_right (by simpa using hi),List.length_replicate,Qq] at h2
   have oz:N'[i]? =some x:=h1
   rw [S.nn,List.getElem?_append_right (by simpa using hi),Qq] at oz
   cases ej:idx[i - own.length]? with
   | none=>rw [ej] at oz;cases oz
   | some j=>
    rw [ej] at oz h2
    obtain ⟨TY,zm⟩:=S.seen j (QC ej)
    have hx:X.N[j]? =some x:=by
     have:X.N.getD j ""=x:=QD oz
     rw [<- this,Qb,Qa zm];rfl
    have hv:σ[j]? =some (some v):=by
     have rf:(σ[j]?).join=some v:=QD h2
     cases q:σ[j]? with
     | none=>rw [q] at rf;cases rf
     | some w=>rw [q] at rf;exact congrArg some rf
    have Lp:sc.names.lookup x=some .free:=by
     have:X.N.getD j ""=x:=QD oz
     rw [<- this];exact TY
    have ir:(x,NameKind.free)∈sc.names:=PySem.mem_of_lookup Lp
    obtain ⟨m,hn,hl⟩:=I.loc
    have TZ:Cp X.env.scope x:=by
     rcases S.free _ ir rfl with z | z
     ·exact .inr (.inl z)
     ·exact .inr (.inr z)
    obtain ⟨u,r,lk⟩:=hl j x v hx hv TZ
    refine ⟨u,r,?_⟩
    rcases lk with ⟨k,_⟩ | ⟨k,c,e,z⟩
    ·rcases S.free _ ir rfl with q | q
     ·have q':X.env.kindOf x=some .cell:=q
      rw [q'] at k;cases k
     ·have q':X.env.kindOf x=some .free:=q
      rw [q'] at k;cases k
    ·obtain ⟨c',jj⟩:=c2 (x,.free) ir rfl
     have e':=c1 x c' jj
     rw [e] at e'
     cases e'
     refine .inr ⟨?_,c,jj,?_⟩
     ·rcases eB (env:=X.env) Lp with q | q
      ·exact .inl q
      ·exact .inr q
     ·obtain ⟨o,wg,hd⟩:=z
      exact ⟨o,FJ c o wg,hd⟩
 ·obtain ⟨v,o,wg,hd⟩:=I.cell x c (c1 x c e)
  exact ⟨v,o,FJ c o wg,hd⟩
 ·show upd H2 s2.heap.objs.size ho (s2.heap.push ob).objs.size=none
  rw [aF (by rw [hsz];exact Nat.ne_of_gt (Nat.lt_succ_self _))]
  exact I.hok.fresh (by rw [hsz];omega)
 ·obtain ⟨o,e1⟩:=TU x c e
  exact nh c o e1 (I.yf x c (c1 x c e))
 ·have AQ:p∈X.pn++pins:=by simpa using hp
  obtain ⟨e,n,ne,nf,d⟩:=I.pin p AQ
  refine ⟨FJ _ _ e,nh _ _ e n,?_,fun z=>?_,d⟩
  ·have:=Qz e
   show p.1≠(s2.heap.push ob).objs.size
   rw [hsz];exact Nat.ne_of_lt (Nat.lt_succ_of_lt this)
  ·rcases Qp.mp (I.Bp p.1 z) with z | z
   ·exact ne z
   ·exact nf z
 ·show (ue own idx σ).length=N'.length
  rw [S.nn];unfold ue
  simp
theorem kL {ob:Obj} {ho:HO} {τ:St} {s':Shared} (I:Inv X pins σ H2 s2) (hf:∀ b∈fp,qj X pins H2 b) (xf:ob.isFreed=false)
  (J:Inv (di X N' sc cl (s2.heap.push ob).objs.size {s2 with heap:=s2.heap.push ob} (upd H2 s2.heap.objs.size ho) fp (X.pn++pins)) [] τ H' s'):
  Inv X pins σ H' s'/\H' (s2.heap.push ob).objs.size=none/\(s2.heap.push ob).objs.size≠X.env.locals/\X.s₀.heap.objs.size<=(s2.heap.push ob).objs.size/\
   (∀ x c,X.env.cells.lookup x=some c->c≠(s2.heap.push ob).objs.size)/\(∀ p∈X.pn++pins,p.1≠(s2.heap.push ob).objs.size)/\∃ m,s'.heap.Ns (s2.heap.push ob).objs.size m:=by
 have hsz:(s2.heap.push ob).objs.size=s2.heap.objs.size+1:=Heap.size_push _ _
 have u1:Un (ni X.stack) fp H2 (upd H2 s2.heap.objs.size ho) s2.heap (s2.heap.push ob):=Un.laid (fun b o e=>Qc _ e) (Qy _) (I.hok.fresh (Qy _))
 have u2:Un (ni X.stack) fp (upd H2 s2.heap.objs.size ho) H' (s2.heap.push ob) s'.heap:=J.base
 have BC:s'.os=s2.os:=J.os
 refine ⟨I.QX BC (u1.trans u2) J.hok J.bare fun b hb=>?_,J.free,?_,?_,fun x c e z=>?_,fun p hp z=>?_,let ⟨m,hn,_⟩:=J.loc;⟨m,hn⟩⟩
 ·obtain ⟨f0,f1,f2,f3,f4,f5⟩:=hf b hb
  exact ⟨f3,f1,f4,f5⟩
 ·rw [hsz];exact Nat.ne_of_gt (Nat.lt_succ_of_lt I.lt)
 ·have:=I.sz;rw [hsz];omega
 ·obtain ⟨v,q⟩:=I.cell x c e
  have:=q.lt
  rw [z,hsz] at this;exact absurd this (Nat.not_lt.mpr (Nat.le_succ _))
 ·have:=Qz (I.pin p hp).1
  rw [z,hsz] at this;exact absurd this (Nat.not_lt.mpr (Nat.le_succ _))
end
abbrev kh:Value->Shared->Prop:=fun _ _=>False
theorem T3 {elt target iter:Expr} {scope:Scope} {pos:Pos} {it acc:Value} (I:Nat->Shared->Prop)
  (turn:∀ n s,I n s->wpAny (model prog w) A (pyNext it) (fun r s₁=>match r with
   | none=>R (.ok .next) s₁
   | some v=>wpAny (model prog w) A (letOwnedTupleGo target it v) (fun _ DO=>wpAny (model prog w) A (assign target env v) (fun _ s₂=>
     wpAny (model prog w) A (forIn ifs true fun c r=>if r=true then do let ok <- isTrue c env (eval c env);pure (ForInStep.yield ok) else pure (ForInStep.yield r)) (fun ok s₃=>
      if ok=true then wpAny (model prog w) A (eval elt env) (fun x s₄=>
       wpAny (model prog w) A (call (.builtin "list.append") [acc,x]) (fun _ s₅=>∃ m,m < n/\I m s₅) kh s₄) kh s₃
      else ∃ m,m < n/\I m s₃) kh s₂) kh DO) kh s₁) kh s)
  (n:Nat) (h:I n s):
  codeAny (model prog w) A (.compLoop (.ListComp elt [⟨target,iter,ifs,0⟩] scope pos) 0 it acc env) R s:=by
 refine codeAny_loop rfl I (fun n s hI=>?_) n h
 show wpAny _ A ((compTurn (.ListComp elt [⟨target,iter,ifs,0⟩] scope pos) 0 it acc env).onRaise (fun x=>do noteFrame x env;theTreesLotGoes x)) _ _ s
 refine wpAny_noted ?_
 rw [compTurn_list]
 refine QT (wpAny_standAt (QT (wpAny_mono (turn n s hI) (fun r s₁ h₁=>?_) fun _ _ h'=>h'.elim)))
 cases r with
 | none=>exact QU h₁
 | some v=>
  refine QT (wpAny_mono h₁ (fun _ DO HA=>?_) fun _ _ h'=>h'.elim)
  refine QT (wpAny_mono HA (fun _ s₂ h₂=>QT (wpAny_mono h₂ (fun ok s₃ h₃=>?_) fun _ _ h'=>h'.elim)) fun _ _ h'=>h'.elim)
  cases ok with
  | false=>exact QU ⟨rfl,h₃⟩
  | true=>
   exact QT (QT (wpAny_mono h₃ (fun x s₄ h₄=>QT (wpAny_mono h₄ (fun _ s₅ h₅=>QU (QU ⟨rfl,h₅⟩)) fun _ _ h'=>h'.elim)) fun _ _ h'=>h'.elim))
abbrev TC:=St->Hp->(Bool->Hp->Prop)->Prop
def uh (X:Cx) (ifs:List Expr) (t:TC):Prop:=
 ∀ (pins:List (Addr×Obj)) (s:Shared) (σ:St) (H:Hp) (Q:Bool->Hp->Prop),Inv X pins σ H s->t σ H Q->
  wpAny (model X.prog X.w) X.A (forIn ifs true fun c r=>if r=true then do let ok <- isTrue c X.env (eval c X.env);pure (ForInStep.yield ok) else pure (ForInStep.yield r)) (TP X pins σ Q) X.xe s
def DP:TC:=fun _ H Q=>Q true H
theorem T4:uh X [] DP:=fun pins s σ H Q I h=>QU ⟨H,I,h⟩
theorem T6 {c:Expr} {t:TT} (h:PT X c t):uh X [c] t:=fun pins s σ H Q I hq=>wpAny_tests_one (h pins s σ H Q I hq)
def BG (own:List Str) (idx:List Nat) (wi:TI) (g:TG) (tc:TC) (te:TE):TE:=fun σ H Q=>wi σ H fun J H1=>∀ D,H1 D=none->∃ W:Nat->Nat->St->Hp->Prop,(∃ m,W 0 m (ue own idx σ) (upd H1 D (.lst [])))/\∀ i m τ H,W i m τ H->
 (J.stop i H/\Q (.ref D) H)\/(J.go i H/\∃ N:St->Hp->Prop,(∀ τ' H',N τ' H'->∃ m',m' < m/\W (i+1) m' τ' H')/\∀ x H',J.qi i H x H'->g x τ H' fun τ2 H2=>tc τ2 H2 fun b H3=>
  if b=true then te τ2 H3 fun y H4=>∃ xs,H4 D=some (.lst xs)/\xs.length < sizeLine/\N τ2 (upd H4 D (.lst (xs++[y]))) else N τ2 H3)
section
variable {iter elt:Expr} {pos:Pos} {wi:TI} {g:TG} {tc:TC}
abbrev xg:Obj:={cls:=.type "list",dict:=none,data:=.seq ([]:List Value).toArray}
theorem mB (S:q_ X.env.scope X.N sc own idx N') (c1:∀ x c,cl.lookup x=some c->X.env.cells.lookup x=some c) (c2:∀ y∈sc.names,y.2=.free->∃ c,cl.lookup y.1=some c) (hc:X.calm=true)
  (hg:∀ cl C s3 H0 fp pn,PG (di X N' sc cl C s3 H0 fp pn) tg g) (ht:∀ cl C s3 H0 fp pn,uh (di X N' sc cl C s3 H0 fp pn) ifs tc) (he:∀ cl C s3 H0 fp pn,PE (di X N' sc cl C s3 H0 fp pn) elt te)
  {pins:List (Addr×Obj)} {σ:St} {Q:VK} {qm:Value} {s2:Shared} {RR:Value->Addr->Result->Shared->Prop} {E:Value->Shared->Prop}
  (hI:Cs X pins σ tg (fun J H1=>∀ D,H1 D=none->∃ W:Nat->Nat->St->Hp->Prop,(∃ m,W 0 m (ue own idx σ) (upd H1 D (.lst [])))/\∀ i m τ H,W i m τ H->
   (J.stop i H/\Q (.ref D) H)\/(J.go i H/\∃ N:St->Hp->Prop,(∀ τ' H',N τ' H'->∃ m',m' < m/\W (i+1) m' τ' H')/\∀ x H',J.qi i H x H'->g x τ H' fun τ2 H2=>tc τ2 H2 fun b H3=>
    if b=true then te τ2 H3 fun y H4=>∃ xs,H4 D=some (.lst xs)/\xs.length < sizeLine/\N τ2 (upd H4 D (.lst (xs++[y]))) else N τ2 H3)) qm s2)
  (DQ:∀ D C H' s',Inv X pins σ H' s'->Q (.ref D) H'->(H' C=none/\C≠X.env.locals/\X.s₀.heap.objs.size<=C/\(∀ x c,X.env.cells.lookup x=some c->c≠C)/\(∀ p∈X.pn++pins,p.1≠C)/\∃ m,s'.heap.Ns C m)->RR (.ref D) C (.ok .next) s'):
  wpAny (model X.prog X.w) X.A (newList []) (fun acc s₃=>wpAny (model X.prog X.w) X.A (newFunctionEnv sc X.env.globals cl [] X.env.qual none .none (some X.env)) (fun cenv s₄=>
   codeAny (model X.prog X.w) X.A (.compStart (.ListComp elt [⟨tg,iter,ifs,0⟩] sc pos) 0 qm acc {cenv with scope:=relabel sc X.env}) (RR acc cenv.locals) s₄) E s₃) E s2:=by
 obtain ⟨it,fp,tn,J,H2,rfl,I,T,gf,f2,body⟩:=hI
 refine wpAny_newObj_type (wpAny_newFunctionEnv S.cell (by intro y hy;simp at hy) (fun h4 ns sb=>?_) S.kind)
 dsimp only at ns sb ⊢
 have xf:xg.isFreed=false:=rfl
 have fr:H2 s2.heap.objs.size=none:=I.hok.fresh (Qy _)
 obtain ⟨W,⟨m0,w0⟩,turn⟩:=body _ fr
 have ug:∀ b∈fp,∃ o,s2.heap.get? b=some o:=fun b hb=>let ⟨o,e,_⟩:=T.obj _ _ gf b hb;⟨o,e⟩
 have yl:∀ b o,(s2.heap.push xg).get? b=some o->h4.get? b=some o:=fun b o e=>(sb.2 b (Nat.ne_of_lt (Qz e))).trans (Qc _ e)
 have DR:∀ (H:Hp) (h:Heap),h.get? s2.heap.objs.size=some xg->cz X.prog X.w H h s2.heap.objs.size (.lst []):=fun H h e=>⟨Nat.zero_le _,[],_,.nil,e⟩
 have I4:Inv (di X N' sc cl (s2.heap.push xg).objs.size {s2 with heap:=s2.heap.push xg} (upd H2 s2.heap.objs.size (.lst [])) fp (X.pn++pins)) [] (ue own idx σ) (upd H2 s2.heap.objs.size (.lst [])) {s2 with heap:=h4,toks:=s2.toks+([]:List (Str×Value)).length}:=
  m5 S I f2 ug c1 c2 xf DR ns yl
 -- Bu Lq own context
 generalize hY:di X N' sc cl (s2.heap.push xg).objs.size {s2 with heap:=s2.heap.push xg} (upd H2 s2.heap.objs.size (.lst [])) fp (X.pn++pins)=Y at I4
 have DS:PG Y tg g:=by rw [<- hY];exact hg _ _ _ _ _ _
 have DT:uh Y ifs tc:=by rw [<- hY];exact ht _ _ _ _ _ _
 have DU:PE Y elt te:=by rw [<- hY];exact he _ _ _ _ _ _
 have pY:Y.prog=X.prog:=by rw [<- hY]
 have wY:Y.w=X.w:=by rw [<- hY]
 have KY:Y.K=X.K:=by rw [<- hY]
 have AY:Y.A=X.A:=by rw [<- hY]
 have cY:Y.calm=true:=by rw [<- hY];exact hc
 have xY:Y.xe=fun _ _=>False:=by rw [<- hY]
 have eY:Y.env=compEnvC sc cl (s2.heap.push xg).objs.size X.env:=by rw [<- hY]
 have DW:Y.ex=fp:=by rw [<- hY]
 have DY:Y.fs=ni X.stack:=by rw [<- hY]
 have DZ:Y.pn=X.pn++pins:=by rw [<- hY]
 have qo:∀ {H':Hp},(∀ b∈fp,H' b=none)->∀ b∈fp,qj Y [] H' b:=fun hn b hb=>by
  obtain ⟨f0,f1,f3,f4,f5,f6⟩:=f2 b hb
  refine ⟨hn b hb,?_,?_,.inl (by rw [DW];exact hb),fun x c e=>?_,fun p hp=>?_⟩
  ·obtain ⟨o,e⟩:=ug b hb
   have:=Qz e
   rw [eY]
   show b≠(s2.heap.push xg).objs.size
   rw [Heap.size_push];exact Nat.ne_of_lt (Nat.lt_succ_of_lt this)
  ·rw [DY]
   intro z
   rcases Qp.mp (I.Bp b z) with z | z
   ·exact f1 z
   ·exact f3 z
  ·rw [eY] at e
   exact f5 x c (c1 x c e)
  ·rw [DZ,QR] at hp
   exact f6 p hp
 have AR:tn 0 h4:=T.keep _ _ _ gf fun b hb o e=>yl b o (Qc _ e)
 have D0:∀ b∈fp,upd H2 s2.heap.objs.size (.lst []) b=none:=fun b hb=>by
  obtain ⟨o,e⟩:=ug b hb
  rw [aF (Nat.ne_of_lt (Qz e))]
  exact (f2 b hb).1
 have loop:codeAny (model X.prog X.w) X.A (.compLoop (.ListComp elt [⟨tg,iter,ifs,0⟩] sc pos) 0 (.ref it) (.ref s2.heap.objs.size) (compEnvC sc cl (s2.heap.push xg).objs.size X.env))
   (RR (.ref s2.heap.objs.size) (s2.heap.push xg).objs.size) {s2 with heap:=h4,toks:=s2.toks+([]:List (Str×Value)).length}:=by
  refine T3 (fun n s'=>∃ i τ H',Inv Y [] τ H' s'/\tn i s'.heap/\(∀ b∈fp,H' b=none)/\W i n τ H') ?_ m0 ⟨0,_,_,I4,AR,D0,w0⟩
  rintro n s3 ⟨i,τ3,H3,I3,wm,wo,w3⟩
  rcases turn i n τ3 H3 w3 with ⟨stop,qn⟩ | ⟨go,N,hN,step⟩
  ·have h:=T.done Y pY wY KY cY i [] s3 τ3 H3 kh I3 (qo wo) wm stop
   rw [AY] at h
   refine av h ?_
   rintro r s4 ⟨hr,D5⟩
   subst hr
   have J4:=D5
   rw [<- hY] at J4
   obtain ⟨b1,b2⟩:=kL I f2 xf J4
   exact DQ _ _ _ _ b1 qn b2
  ·have h:=T.item Y pY wY KY cY i [] s3 τ3 H3 kh I3 (qo wo) wm go
   rw [AY] at h
   refine av h ?_
   rintro r s4 ⟨u,hr,D6⟩
   subst hr
   refine av D6 ?_
   rintro _ s5 ⟨x,H5,I5,r5,y5,qp,Bv⟩
   have Bw:=I5.pinned (qo Bv) (T.obj _ _ qp)
   have g5:=DS _ s5 τ3 H5 x u _ Bw r5 (step x H5 y5)
   rw [pY,wY,AY,xY,eY] at g5
   refine av g5 ?_
   rintro _ s6 ⟨τ6,H6,I6,q6⟩
   have t6:=DT _ s6 τ6 H6 _ I6 q6
   rw [pY,wY,AY,xY,eY] at t6
   refine av t6 ?_
   rintro ok s7 ⟨H7,I7,q7⟩
   have again:∀ {τ8:St} {H8:Hp} {s8:Shared},Inv Y ([]++Bt fp s5.heap) τ8 H8 s8->N τ8 H8->∃ m,m < n/\∃ i τ' H',Inv Y [] τ' H' s8/\tn i s8.heap/\(∀ b∈fp,H' b=none)/\W i m τ' H':=fun {τ8 H8 s8} I8 n8=>by
    obtain ⟨m',hm,w8⟩:=hN τ8 H8 n8
    refine ⟨m',hm,i+1,τ8,H8,I8.Ct,T.keep _ _ _ qp fun b hb o e=>(I8.pin (b,o) (List.mem_append_right _ (List.mem_append_right _ (cK hb e)))).1,fun b hb=>?_,w8⟩
    obtain ⟨o,e,d⟩:=T.obj _ _ qp b hb
    exact (I8.pin (b,o) (List.mem_append_right _ (List.mem_append_right _ (cK hb e)))).2.1
   cases ok with
   | false=>
    rw [if_neg (by decide)] at q7 ⊢
    exact again I7 q7
   | true=>
    rw [if_pos rfl] at q7 ⊢
    have e7:=DU _ s7 τ6 H7 _ I7 q7
    rw [pY,wY,AY,xY,eY] at e7
    refine av e7 ?_
    rintro yv s8 ⟨y,H8,I8,r8,xs,T_,hz,n8⟩
    have a8:=bZ (X:=Y) _ s8 τ6 H8 (.ref s2.heap.objs.size) [y] (.ref s2.heap.objs.size) [yv] (fun v H'=>N τ6 H') I8 rfl (.cons r8 .nil) ⟨_,xs,y,rfl,rfl,T_,hz,n8⟩
    rw [pY,wY,AY,xY] at a8
    refine av a8 ?_
    rintro _ s9 ⟨_,H9,I9,_,n9⟩
    exact again I9 n9
 exact codeAny_compStart_list loop (T.self _ 0 _ _ _ AR loop)
theorem q_.closure (S:q_ X.env.scope X.N sc own idx N') (ok:X.Ok):∃ cl,closureFor sc X.env=pure cl/\(∀ x c,cl.lookup x=some c->X.env.cells.lookup x=some c)/\(∀ y∈sc.names,y.2=.free->∃ c,cl.lookup y.1=some c):=
 u8 fun y hy hf=>ok.has _ (S.free y hy hf)
theorem Ua (S:q_ X.env.scope X.N sc own idx N') (hc:X.calm=true) (hi:PI X tg iter wi)
  (hg:∀ cl C s3 H0 fp pn,PG (di X N' sc cl C s3 H0 fp pn) tg g) (ht:∀ cl C s3 H0 fp pn,uh (di X N' sc cl C s3 H0 fp pn) ifs tc) (he:∀ cl C s3 H0 fp pn,PE (di X N' sc cl C s3 H0 fp pn) elt te)
  (hs:∀ x,foldedSetIterable iter X.env x=pure x:=by intro _;rfl):PE X (.ListComp elt [⟨tg,iter,ifs,0⟩] sc pos) (BG own idx wi g tc te):=by
 intro pins s σ H Q I h
 obtain ⟨cl,nq,c1,c2⟩:=S.closure I.ok
 rw [eval_ListComp]
 refine wpAny_comprehension_free (use:=none) rfl hs nq S.kind S.names (av (hi pins s σ H _ I h) fun v s1 h1=>av h1 fun qm s2 h2=>?_)
 refine mB (Q:=Q) (pins:=pins) (σ:=σ) (RR:=fun acc C=>compPost (model X.prog X.w) X.A X.xe none (EP X pins σ Q) acc C) S c1 c2 hc hg ht he h2 ?_
 intro D C H' s' I' q ⟨a1,a2,a3,a4,a5,m,a6⟩
 exact ⟨m,a6,fun h' sb=>⟨.ref D,H',I'.turned (t':=s'.toks) (fun b o hb e=>(sb.2 b hb).trans e) a1 (Ne.symm (Ne.symm a2)) (.inr a3) a4 a5,rfl,q⟩⟩
theorem Ub {y:Str} {py spos:Pos} (S:q_ X.env.scope X.N sc own idx N') (hc:X.calm=true) (hi:PI X tg iter wi)
  (hg:∀ cl C s3 H0 fp pn,PG (di X N' sc cl C s3 H0 fp pn) tg g) (ht:∀ cl C s3 H0 fp pn,uh (di X N' sc cl C s3 H0 fp pn) ifs tc) (he:∀ cl C s3 H0 fp pn,PE (di X N' sc cl C s3 H0 fp pn) elt te)
  (hN:X.N.Nodup) (HB:X.N[i]? =some y) (hy:X.env.scope.names.lookup y=some .local)
  (HC:swapsWith (.ListComp elt [⟨tg,iter,ifs,0⟩] sc pos) (some (.Name y py)) spos.line X.env=pure true:=by rfl)
  (hs:∀ x,foldedSetIterable iter X.env x=pure x:=by intro _;rfl):PS X (.Assign [.Name y py] (.ListComp elt [⟨tg,iter,ifs,0⟩] sc pos) spos) (zl (BG own idx wi g tc te) (jc i)):=by
 intro pins s σ H D I h
 obtain ⟨cl,nq,c1,c2⟩:=S.closure I.ok
 rw [exec_Assign_Name_used _ _ _ _ HC]
 refine QT (wpAny_standAt (QT ?_))
 show wpAny _ X.A (do let _ <- comprehension (.ListComp elt [⟨tg,iter,ifs,0⟩] sc pos) sc X.env _ (newList []) false (eval iter X.env) (some (assign (.Name y py) X.env))) _ _ s
 refine QT (wpAny_mono (wpAny_comprehension_free (use:=some (assign (.Name y py) X.env)) (Q:=fun _ s'=>SP X pins D .next s') rfl hs nq S.kind S.names
  (av (hi pins s σ H _ I h) fun v s1 h1=>av h1 fun qm s2 h2=>?_)) (fun _ s' hq=>QU (QU hq)) fun _ _ e=>e)
 refine mB (Q:=fun x H1=>jc i x σ H1 D.nx) (pins:=pins) (σ:=σ) (RR:=fun acc C=>compPost (model X.prog X.w) X.A X.xe (some (assign (.Name y py) X.env)) (fun _ s'=>SP X pins D .next s') acc C) S c1 c2 hc hg ht he h2 ?_
 intro D' C H' s' I' q ⟨a1,a2,a3,a4,a5,m,a6⟩
 show wpAny _ X.A (assign (.Name y py) X.env (.ref D')) _ _ _
 refine wpAny_assign_Name (oC (v:=.ref D') I' hN HB (.inl hy) rfl (fun s'' Uc ⟨a,sb,ha⟩=>?_) (.inr hy))
 have Ud:C≠a:=by
  rcases ha with z | z
  ·rw [z];exact a2
  ·exact Ne.symm (a4 _ _ z)
 refine ⟨m,a6.sameBut sb Ud,fun h' yl=>⟨_,H',Uc.turned (t':=s''.toks) (fun b o hb e=>(yl.2 b hb).trans e) a1 a2 (.inr a3) a4 a5,q⟩⟩
end
def tV (i:Nat):TE:=fun σ H Q=>match σ[i]? with | some (some v)=>Q v H | _=>False
theorem Ue (i:Nat) {pos:Pos} (hN:X.N[i]? =some x:=by rfl) (hv:Cp X.env.scope x:=by first | exact Or.inl rfl | exact Or.inr (Or.inl rfl) | exact Or.inr (Or.inr rfl)) (hd:(x==("__debug__":Str))=false:=by decide) (qf:(x==("__classdict__":Str))=false:=by decide):PE X (.Name x pos) (tV i):=by
 intro pins s σ H Q I h
 refine QZ hN hv hd qf pins s σ H Q I ?_
 unfold tV at h
 split at h
 ·next v e=>exact ⟨v,e,h⟩
 ·exact h.elim
def HD:R2:=fun x y H Q=>match x,y with
 | .int i,.int j=>Q (.int (i+j)) H
 | .str i,.str j=>i.length+j.length<=sizeLine/\Q (.str (i++j)) H
 | .ref l,.ref b=>(∃ xs zs,H l=some (.lst xs)/\H b=some (.lst zs)/\xs.length+zs.length<=sizeLine/\∀ p,H p=none->Q (.ref p) (upd H p (.lst (xs++zs))))
 | _,_=>False
theorem bW:cu X (binaryOp .Add) HD:=by
 intro pins s σ H x y v u Q I rx ry h
 cases x<;>cases y<;>first
  | exact (show False from h).elim
  | exact RE pins s σ H _ _ v u Q I rx ry ⟨_,_,rfl,rfl,h⟩
  | exact uB pins s σ H _ _ v u Q I rx ry ⟨_,_,rfl,rfl,h.1,h.2⟩
  | (obtain ⟨xs,zs,h1,h2,h3,h4⟩:=h;exact Tg pins s σ H _ _ v u Q I rx ry ⟨_,_,xs,zs,rfl,rfl,h1,h2,h3,h4⟩)
def Ug:R2:=fun x y H Q=>match x,y with | .int i,.int j=>Q (.int (i - j)) H | _,_=>False
theorem Uh:cu X (binaryOp .Sub) Ug:=by
 intro pins s σ H x y v u Q I rx ry h
 cases x<;>cases y<;>first
  | exact (show False from h).elim
  | exact RG pins s σ H _ _ v u Q I rx ry ⟨_,_,rfl,rfl,h⟩
def Ui:R2:=fun x y H Q=>match x,y with | .int i,.int j=>Cu i j/\Q (.int (i*j)) H | _,_=>False
theorem d9:cu X (binaryOp .Mult) Ui:=by
 intro pins s σ H x y v u Q I rx ry h
 cases x<;>cases y<;>first
  | exact (show False from h).elim
  | exact RI pins s σ H _ _ v u Q I rx ry ⟨_,_,rfl,rfl,h.1,h.2⟩
def Uj:R2:=fun x y H Q=>match x,y with | .int i,.int j=>0 < j/\Q (.int (i % j)) H | _,_=>False
theorem fQ:cu X (binaryOp .Mod) Uj:=by
 intro pins s σ H x y v u Q I rx ry h
 cases x<;>cases y<;>first
  | exact (show False from h).elim
  | exact RK pins s σ H _ _ v u Q I rx ry ⟨_,_,rfl,rfl,h.1,h.2⟩
def Uk:R2:=fun x y H Q=>match x,y with | .int i,.int j=>(0 < j/\j < 1073741824)/\Q (.int (i / j)) H | _,_=>False
theorem Ul:cu X (binaryOp .FloorDiv) Uk:=by
 intro pins s σ H x y v u Q I rx ry h
 cases x<;>cases y<;>first
  | exact (show False from h).elim
  | exact RJ pins s σ H _ _ v u Q I rx ry ⟨_,_,rfl,rfl,h.1,h.2⟩
def Um:R2:=fun x y H Q=>match x,y with | .int i,.int j=>K3 i j/\Q (.int (i^j.toNat)) H | _,_=>False
theorem Uo:cu X (binaryOp .Pow) Um:=by
 intro pins s σ H x y v u Q I rx ry h
 cases x<;>cases y<;>first
  | exact (show False from h).elim
  | exact RL pins s σ H _ _ v u Q I rx ry ⟨_,_,rfl,rfl,h.1,h.2⟩
def Ls (p:Int->Int->Bool):R2:=fun x y H Q=>match x,y with | .int i,.int j=>Q (.bl (p i j)) H | _,_=>False
theorem uX:cu X (compareOp .Gt) (Ls fun i j=>decide (j < i)):=by
 intro pins s σ H x y v u Q I rx ry h
 cases x<;>cases y<;>first
  | exact (show False from h).elim
  | exact RX pins s σ H _ _ v u Q I rx ry ⟨_,_,rfl,rfl,h⟩
theorem Up:cu X (compareOp .GtE) (Ls fun i j=>decide (j<=i)):=by
 intro pins s σ H x y v u Q I rx ry h
 cases x<;>cases y<;>first
  | exact (show False from h).elim
  | exact RY pins s σ H _ _ v u Q I rx ry ⟨_,_,rfl,rfl,h⟩
def Uq:R2:=fun x y H Q=>match x,y with
 | .int i,.int j=>Q (.bl (decide (i < j))) H
 | .str i,.str j=>Q (.bl (decide (i.cps.toList < j.cps.toList))) H
 | _,_=>False
theorem j8:cu X (compareOp .Lt) Uq:=by
 intro pins s σ H x y v u Q I rx ry h
 cases x<;>cases y<;>first
  | exact (show False from h).elim
  | exact RW pins s σ H _ _ v u Q I rx ry ⟨_,_,rfl,rfl,h⟩
  | exact wW pins s σ H _ _ v u Q I rx ry ⟨_,_,rfl,rfl,h⟩
def Lu (n:Bool):R2:=fun x y H Q=>match x,y with
 | .ref a,.ref b=>a≠b/\∃ xs,H a=some (.lst xs)/\H b=some (.lst [])/\Q (.bl (n^^xs.isEmpty)) H
 | x,y=>DF x y=true/\Q (.bl (n^^decide (x=y))) H
theorem zC {xs:List V} (hu:A.units < cLine) (I:Inv X pins σ H s) (ha:H a=some (.lst xs)) (hb:H b=some (.lst [])) (lj:a≠b)
  (q:∀ tk,Q (.bool xs.isEmpty) {s with toks:=tk}) (q0:Q (.bool xs.isEmpty) s):wpAny (model X.prog X.w) A (compareOp .Eq (.ref a) (.ref b)) Q E s:=by
 obtain ⟨_,its,n,r1,e1⟩:=(show cz X.prog X.w H s.heap a (.lst xs) from I.hok a _ ha)
 obtain ⟨_,its2,n2,r2,e2⟩:=(show cz X.prog X.w H s.heap b (.lst []) from I.hok b _ hb)
 cases r2
 have l1:s.heap.IsList a its.toArray:=⟨_,e1,rfl,_,rfl⟩
 have l2:s.heap.IsList b (#[]:Array Value):=⟨_,e2,rfl,_,rfl⟩
 cases r1 with
 | nil=>
  exact SeqAt.eq_listAt (e:=fun _=>true) l1 l2 rfl hu (fun i hi=>absurd hi (by simp)) (by simpa using q0)
 | cons z t=>
  exact SeqAt.eq_list_lengthsAt l1 l2 (by simp) hu (by simpa using q0)
theorem bP (hu:X.A.units < cLine):cu X (compareOp .Eq) (Lu false):=by
 intro pins s σ H x y v u Q I rx ry h
 have hs:(∀ a b,x=.ref a->y=.ref b->False)->DF x y=true/\Q (.bl (false^^decide (x=y))) H:=fun hn=>by
  cases x<;>cases y<;>first
   | exact (hn _ _ rfl rfl).elim
   | exact h
 by_cases hr:∃ a b,x=.ref a/\y=.ref b
 ·obtain ⟨a,b,rfl,rfl⟩:=hr
  obtain ⟨lj,xs,h1,h2,q⟩:=h
  cases rx;cases ry
  exact zC hu I h1 h2 lj (fun tk=>⟨.bl xs.isEmpty,H,I.tok tk,rfl,by simpa using q⟩) ⟨.bl xs.isEmpty,H,I,rfl,by simpa using q⟩
 ·obtain ⟨h1,h2⟩:=hs fun a b e1 e2=>hr ⟨a,b,e1,e2⟩
  exact RS pins s σ H x y v u Q I rx ry ⟨h1,by simpa using h2⟩
theorem Ur {xs:List V} (hu:A.units < cLine) (I:Inv X pins σ H s) (ha:H a=some (.lst xs)) (hb:H b=some (.lst []))
  (q0:Q (.bool (!xs.isEmpty)) s):wpAny (model X.prog X.w) A (compareOp .NotEq (.ref a) (.ref b)) Q E s:=by
 obtain ⟨_,its,n,r1,e1⟩:=(show cz X.prog X.w H s.heap a (.lst xs) from I.hok a _ ha)
 obtain ⟨_,its2,n2,r2,e2⟩:=(show cz X.prog X.w H s.heap b (.lst []) from I.hok b _ hb)
 cases r2
 have l1:s.heap.IsList a its.toArray:=⟨_,e1,rfl,_,rfl⟩
 have l2:s.heap.IsList b (#[]:Array Value):=⟨_,e2,rfl,_,rfl⟩
 cases r1 with
 | nil=>
  exact SeqAt.RcNeAt.lists (e:=fun _=>true) l1 l2 rfl hu (fun i hi=>absurd hi (by simp)) _ _ _ _ (by simpa using q0)
 | cons z t=>
  exact SeqAt.RcNeAt.lists_lengths l1 l2 (by simp) hu _ _ _ _ (by simpa using q0)
theorem gW (hu:X.A.units < cLine):cu X (compareOp .NotEq) (Lu true):=by
 intro pins s σ H x y v u Q I rx ry h
 have hs:(∀ a b,x=.ref a->y=.ref b->False)->DF x y=true/\Q (.bl (true^^decide (x=y))) H:=fun hn=>by
  cases x<;>cases y<;>first
   | exact (hn _ _ rfl rfl).elim
   | exact h
 by_cases hr:∃ a b,x=.ref a/\y=.ref b
 ·obtain ⟨a,b,rfl,rfl⟩:=hr
  obtain ⟨lj,xs,h1,h2,q⟩:=h
  cases rx;cases ry
  exact Ur hu I h1 h2 ⟨.bl (!xs.isEmpty),H,I,rfl,by simpa using q⟩
 ·obtain ⟨h1,h2⟩:=hs fun a b e1 e2=>hr ⟨a,b,e1,e2⟩
  exact RU pins s σ H x y v u Q I rx ry ⟨h1,by simpa using h2⟩
def BH (K:Q0):R2:=fun x y H Q=>match x,y with
 | .ref p,.int i=>∃ xs v,(aj K H p xs\/af K H p xs)/\lg xs i=some v/\Q v H
 | .str z,.int i=>z.length<=sizeLine/\∃ c,lg z.cps.toList i=some c/\Q (.str ⟨#[c]⟩) H
 | _,_=>False
theorem Us : BE X (BH X.K) := by
  intro e1 e2 pins s σ H x y v u Q I rx ry h hs
  cases x <;> cases y <;> first
    | exact (show False from h).elim
    | (obtain ⟨xs, w, h1 | h1, h2, h3⟩ := h
       · exact SY e1 e2 pins s σ H _ _ v u Q I rx ry ⟨_, xs, _, w, rfl, rfl, h1, h2, h3⟩ hs
       · exact S0 e1 e2 pins s σ H _ _ v u Q I rx ry ⟨_, xs, _, w, rfl, rfl, h1, h2, h3⟩ hs)
    | (obtain ⟨h1, c, h2, h3⟩ := h; exact S1 e1 e2 pins s σ H _ _ v u Q I rx ry ⟨_, _, c, rfl, rfl, h1, h2, h3⟩ hs)
def CF (K:Q0) (n:Bool):R2:=fun x y H Q=>match y with
 | .str j=>∃ i,x=.str i/\Q (.bl (n^^(!(Builtin.Str.occurrences j i 0 j.length 1).isEmpty))) H
 | .ref p=>∃ xs,(aj K H p xs\/af K H p xs)/\wz x=true/\xs.all wz=true/\Q (.bl (n^^r_ x xs)) H
 | _=>False
theorem Ut:cu X (compareOp .In) (CF X.K false):=by
 intro pins s σ H x y v u Q I rx ry h
 cases y<;>first
  | exact (show False from h).elim
  | (obtain ⟨i,rfl,h2⟩:=h;exact yT pins s σ H _ _ v u Q I rx ry ⟨i,_,rfl,rfl,by simpa using h2⟩)
  | (obtain ⟨xs,h1,h2,h3,h4⟩:=h;exact yP pins s σ H _ _ v u Q I rx ry ⟨_,xs,rfl,h1,h2,h3,by simpa using h4⟩)
theorem xH:cu X (compareOp .NotIn) (CF X.K true):=by
 intro pins s σ H x y v u Q I rx ry h
 cases y<;>first
  | exact (show False from h).elim
  | (obtain ⟨i,rfl,h2⟩:=h;exact oP pins s σ H _ _ v u Q I rx ry ⟨i,_,rfl,rfl,by simpa using h2⟩)
  | (obtain ⟨xs,h1,h2,h3,h4⟩:=h;exact oR pins s σ H _ _ v u Q I rx ry ⟨_,xs,rfl,h1,h2,h3,by simpa using h4⟩)
def HE (K:Q0):List V->Hp->VK->Prop:=fun xs H Q=>match xs with
 | [.str y]=>y.length<=sizeLine/\Q (.int y.length) H
 | [.ref p]=>(∃ ys,(aj K H p ys\/af K H p ys)/\Q (.int ys.length) H)\/(∃ kvs,Rd H p (.dK kvs)/\Q (.int kvs.length) H)
 | _=>False
theorem xI:jp X (.builtin "len") (HE X.K):=by
 intro pins s σ H xs us Q I r h
 unfold HE at h
 split at h
 ·exact mF pins s σ H _ us Q I r ⟨_,_,rfl,⟨h.1,rfl⟩,h.2⟩
 ·rcases h with ⟨ys,h1 | h1,q⟩ | ⟨kvs,h1,q⟩
  ·exact mF pins s σ H _ us Q I r ⟨_,_,rfl,.inl ⟨ys,h1,rfl⟩,q⟩
  ·exact mF pins s σ H _ us Q I r ⟨_,_,rfl,.inr ⟨ys,h1,rfl⟩,q⟩
  ·obtain ⟨u,rfl,ru⟩:=vals1 r
   cases ru
   exact To I h1 fun t s' I'=>⟨.int kvs.length,H,I',⟨t,rfl⟩,q⟩
 ·exact h.elim
def AS (H:Hp):V->Option String
 | .ai=>some "NoneType"
 | .bl _=>some "bool"
 | .int _=>some "int"
 | .str _=>some "str"
 | .ref a=>match H a with
  | some (.lst _)=>some "list"
  | some (.tup _)=>some "tuple"
  | some (.dK _)=>some "dict"
  | _=>none
 | _=>none
def BI (t T:String):Bool:=t==T||(t=="bool"&&T=="int")
theorem vO:∀ (K:Q0) (t T:String),t∈["NoneType","bool","int","str","list","tuple","dict"]->T∈["bool","int","str","list","tuple","dict"]->PySem.W.kitOne K (.type t) (.type T)=some (BI t T):=by
 intro K t T h1 h2
 simp only [Qp,QA,or_false] at h1 h2
 rcases h1 with rfl | rfl | rfl | rfl | rfl | rfl | rfl<;>rcases h2 with rfl | rfl | rfl | rfl | rfl | rfl<;>rfl
def Lv:List V->Hp->VK->Prop:=fun xs H Q=>match xs with
 | [x,.ty T]=>T∈["bool","int","str","list","tuple","dict"]/\∃ t,AS H x=some t/\Q (.bl (BI t T)) H
 | _=>False
theorem iU:jp X (.builtin "isinstance") Lv:=by
 intro pins s σ H xs us Q I r h
 unfold Lv at h
 split at h
 ·next x T=>
  obtain ⟨hT,t,ht,q⟩:=h
  obtain ⟨u,c,rfl,ru,rc⟩:=r.two
  cases rc
  have fin:∀ tk,EP X pins σ Q (.bool (BI t T)) {s with toks:=tk}:=fun tk=>⟨.bl (BI t T),H,I.tok tk,rfl,q⟩
  have tm:t∈["NoneType","bool","int","str","list","tuple","dict"]/\ua X.K H x (.type t):=by
   cases x with
   | ai=>cases ht;exact ⟨by simp,.ai⟩
   | bl b=>cases ht;exact ⟨by simp,.bl b⟩
   | int b=>cases ht;exact ⟨by simp,.int b⟩
   | str b=>cases ht;exact ⟨by simp,.str b⟩
   | ref a=>
    unfold AS at ht
    dsimp only at ht
    split at ht
    ·next e=>cases ht;exact ⟨by simp,.lst e⟩
    ·next e=>cases ht;exact ⟨by simp,.tup e⟩
    ·next e=>cases ht;exact ⟨by simp,.dK e⟩
    ·cases ht
   | _=>cases ht
  exact xB I ru tm.2 (vO _ t T tm.1 hT) fin
 ·exact h.elim
def HF (K:Q0):List V->Hp->VK->Prop:=fun xs H Q=>match xs with
 | [.ref p]=>∃ bs:List Bool,aj K H p (bs.map V.bl)/\Q (.bl (bs.all id)) H
 | _=>False
theorem nB:∀ {bs:List Bool} {us:List Value},bg (bs.map V.bl) us->us=bs.map Value.bool
 | [],_,.nil=>rfl
 | b::bs,_,.cons r t=>by
  cases (show _=Value.bool b from r)
  rw [nB t];rfl
theorem xC (hc:X.calm=true):jp X (.builtin "all") (HF X.K):=by
 intro pins s σ H xs us Q I r h
 unfold HF at h
 split at h
 ·next p=>
  obtain ⟨bs,hq,q⟩:=h
  obtain ⟨u,rfl,ru⟩:=r.one
  cases ru
  obtain ⟨its,rv,pl,hz⟩:=I.list hq
  have e:=nB rv
  subst e
  have ay:p < s.heap.objs.size:=by obtain ⟨_,e,_⟩:=pl.isList;exact Qz e
  refine call_all_walk (wpAny_pyIter_list pl.isList ?_)
  refine ⟨s.heap.objs.size,[s.heap.objs.size,p],[s.heap.objs.size],(bs.map Value.bool).toArray.size,_,_,fun i=>(bs[i]?).getD true,rfl,Walks.list (A:=X.A.in1) (I.ok.hd hc) _ p (Nat.ne_of_lt ay) _,
   ⟨⟨_,Qd _ rfl,rfl,rfl⟩,pl.isList.push _⟩,fun i v s' Q' E' hP hQ=>?_,fun h' tk hk=>?_⟩
  ·have sy:(bs.map Value.bool)[i]? =some v:=by simpa using hP
   rw [Qq] at sy
   cases eb:bs[i]? with
   | none=>rw [eb] at sy;cases sy
   | some b=>
    rw [eb] at sy
    cases sy
    simp only [eb,Option.getD_some] at hQ
    exact wpAny_truthy_bool hQ
  ·have e:((List.range (bs.map Value.bool).toArray.size).all fun i=>(bs[i]?).getD true)=bs.all id:=by
    rw [List.size_toArray,Ql]
    rw [Bool.eq_iff_iff,QF,QF]
    constructor
    ·intro h b hb
     obtain ⟨i,hi,rfl⟩:=Qi hb
     have:=h i (List.mem_range.mpr hi)
     simpa [Qa hi] using this
    ·intro h i hi
     have cj:=List.mem_range.mp hi
     have:=h _ (Qj cj)
     simpa [Qa cj] using this
   rw [e]
   refine ⟨.bl (bs.all id),H,I.kept (t':=tk) fun b o e=>hk b o (fun hm=>?_) (Qc _ e),rfl,q⟩
   rw [List.mem_singleton.mp hm] at e
   exact Nat.lt_irrefl _ (Qz e)
 ·exact h.elim
def BJ:V->Option Int->Option Int->Hp->VK->Prop:=fun x lo hi H Q=>∃ z,x=.str z/\z.length<=sizeLine/\Q (.str (Txt.slice z lo hi)) H
theorem Uu:wx X BJ:=by
 intro pins s σ H x v vl vu lo hi sl Q I rx hs pl pu h
 obtain ⟨z,rfl,hz,q⟩:=h
 obtain ⟨t,rfl⟩:=(show ∃ t,v=Value.str z t from rx)
 refine ⟨"str",_,F.slot_str_getitem.lookup,typeIs_str _ _ _,?_⟩
 have Lw:∀ {w:Value} {o:Option Int},IsPart w o->∃ l:Option (Int×Tok),w=partValue l/\l.map (·.1)=o:=fun {w o} p=>by
  cases p with
  | none=>exact ⟨none,rfl,rfl⟩
  | int k t=>exact ⟨some (k,t),rfl,rfl⟩
 obtain ⟨l,e1,e2⟩:=Lw pl
 obtain ⟨u,e3,e4⟩:=Lw pu
 subst e1 e3
 obtain ⟨o,ho,hc,hd⟩:=hs
 refine wpAny_getItem_str_slice (l:=l) (u:=u) (st:=none) ⟨o,ho,hc,hd⟩ rfl ?_
 refine post_val_or_str ⟨Nat.le_trans (Txt.slice_le z _ _) hz,fun t' k=>?_⟩
 show EP X pins σ Q (.str (Txt.slice z (l.map (·.1)) (u.map (·.1))) t') _
 rw [e2,e4]
 exact ⟨.str (Txt.slice z lo hi),H,I.tok k,⟨t',rfl⟩,q⟩
def HG (z:Str):It:=⟨fun i _=>i < z.cps.size,fun i H x H'=>H'=H/\∃ c,z.cps[i]? =some c/\x=.str ⟨#[c]⟩,fun i _=>z.cps.size=i⟩
theorem tO {K:Q0} {it:Addr} {St:Nat->Heap->Prop} (W:∀ A':Around,A'.handled=none->Walks P w A' it [it] [it] z.cps.size (SignAt z) St)
  (HH:∀ (A:Around) (i:Nat) (s:Shared) (Q:Value->Shared->Prop) (E:Value->Shared->Prop),St i s.heap->Q (.ref it) s->wpAny (model P w) A (pyIter (.ref it)) Q E s)
  (hg:∀ i h,St i h->∃ o n vs,h.get? it=some o/\o.cls=.type n/\o.data=.fields vs/\["enumerate","zip","dict_itemiterator","dict_reverseitemiterator","odict_iterator","itertools.zip_longest","itertools.pairwise"].contains n=false):Turn P w K tg (HG z) [it] it St where
 mem:=by simp
 obj:=fun i h st b hb=>by
  have e:b=it:=by simpa using hb
  subst e
  obtain ⟨o,n,vs,e,c,d,_⟩:=hg i h st
  exact ⟨o,e,fun v z=>by rw [d] at z;cases z⟩
 keep:=fun i h h' st k=>(W {} rfl).frame _ _ _ st k
 item:=by
  intro X hP hw hK hc i pins s σ H E I hf st D7
  subst hP hw hK
  obtain ⟨f0,f1,f2,f3,f4,f5⟩:=hf it (by simp)
  refine (W X.A (I.ok.hd hc)).item i s _ _ D7 st fun v h' tk hv st' kk=>?_
  obtain ⟨c,t,ki,rfl⟩:=hv
  have I1:Inv X pins σ H {s with heap:=h',toks:=tk}:=I.turned (fun b o hb e=>kk b o (by simpa using hb) e) f0 f1 f3 f4 f5
  obtain ⟨o,n,vs,e,c',d,nn⟩:=hg _ _ st'
  exact ⟨_,rfl,rC (s:={s with heap:=h',toks:=tk}) e c' d nn ⟨.str ⟨#[c]⟩,H,I1,⟨t,rfl⟩,⟨rfl,c,ki,rfl⟩,st',fun b hb=>(hf b hb).1⟩⟩
 done:=by
  intro X hP hw hK hc i pins s σ H E I hf st D7
  subst hP hw hK
  obtain ⟨f0,f1,f2,f3,f4,f5⟩:=hf it (by simp)
  have e:z.cps.size=i:=D7
  subst e
  exact (W X.A (I.ok.hd hc)).done s _ _ st fun h' tk kk=>⟨rfl,I.turned (fun b o hb e=>kk b o (by simpa using hb) e) f0 f1 f3 f4 f5⟩
 self:=HH
def a_ (P:Program) (w:World) (K:Q0) (mg:Str->Option Value) (base:Heap) (k:Nat) (x:Str) (ps:List Str) (sp:Sp):Prop:=
 ∃ (f:Addr) (fd:FuncData),ud P w K mg base Aa k f fd ps sp/\mg x=some (.ref f)/\PySem.W.keepIn K (.ref f)=true/\Binds K fd ps []/\∃ (oc:Value) (od:Option Addr) (nk:Array (Option Value)),K.lookup f=some ⟨oc,od,.func fd,nk⟩
section
variable {k:Nat} {sp:Sp} {p pos:Pos} {es:List Expr} {t:TA}
theorem Uv (F:a_ X.prog X.w X.K X.mg X.base k x ps sp) (hr:gk k X.A) (ha:PA X (e::es) t) (hg:Gl X x:=by rfl) (nj:(x==("__debug__":Str))=false:=by decide)
  (he:starEach (e::es) X.env=(false,eval e X.env)::starEach es X.env:=by rfl) (h_:(backTo pos (starEach es X.env)).any (·.1)=false:=by rfl):
  PE X (.Call (.Name x p) (e::es) [] pos) (DJ sp [] E0 t):=by
 obtain ⟨f,fd,G,Uw,kp,b,_⟩:=F
 exact Sk G hr hg Uw kp b .nil Lo ha nj he h_
end
def iD (K:Q0) (tl:TE):TI:=fun σ H R=>tl σ H fun x H1=>match x with
 | .ref a=>((∃ xs,aj K H1 a xs)/\R (Hi K a) H1)\/((∃ xs,af K H1 a xs)/\R (Hj K a) H1)
 | .str z=>R (HG z) H1
 | _=>False
theorem Ux {l:Expr} {tl:TE} (hl:PE X l tl):PI X tg l (iD X.K tl):=by
 intro pins s σ H R I h
 refine av (hl pins s σ H _ I h) ?_
 rintro v s1 ⟨x,H1,I1,r1,q1⟩
 cases x with
 | ref a=>
  cases r1
  rcases q1 with ⟨⟨xs,hq⟩,q⟩ | ⟨⟨xs,hq⟩,q⟩
  ·obtain ⟨its,rv,p,hz⟩:=I1.list hq
   refine wpAny_pyIter_list p.isList ?_
   refine ⟨s1.heap.objs.size,[s1.heap.objs.size],_,_,H1,rfl,I1.kept (t':=s1.toks) fun b o e=>Qc _ e,xF a _,⟨_,Qd _ rfl,rfl,rfl⟩,fun b hb=>?_,q⟩
   have e:b=s1.heap.objs.size:=by simpa using hb
   subst e
   exact I1.AH (Qy _) (I1.hok.fresh (Qy _))
  ·obtain ⟨its,rv,p,hz⟩:=I1.tuple hq
   refine wpAny_pyIter_tuple (show s1.heap.IsTuple a its.toArray from p) ?_
   refine ⟨s1.heap.objs.size,[s1.heap.objs.size],_,_,H1,rfl,I1.kept (t':=s1.toks) fun b o e=>Qc _ e,tR a _,⟨_,Qd _ rfl,rfl,rfl⟩,fun b hb=>?_,q⟩
   have e:b=s1.heap.objs.size:=by simpa using hb
   subst e
   exact I1.AH (Qy _) (I1.hok.fresh (Qy _))
 | str z=>
  obtain ⟨t,rfl⟩:=(show ∃ t,v=Value.str z t from r1)
  have q:R (HG z) H1:=q1
  have fin:∀ (o:Obj) (n:String) (W:∀ A':Around,A'.handled=none->Walks X.prog X.w A' s1.heap.objs.size [s1.heap.objs.size] [s1.heap.objs.size] z.cps.size (SignAt z) (fun i h=>h.IsStrIter s1.heap.objs.size n z t i)),
    (∀ (A:Around) (i:Nat) (s:Shared) (Q:Value->Shared->Prop) (E:Value->Shared->Prop),s.heap.IsStrIter s1.heap.objs.size n z t i->Q (.ref s1.heap.objs.size) s->wpAny (model X.prog X.w) A (pyIter (.ref s1.heap.objs.size)) Q E s)->
    ["enumerate","zip","dict_itemiterator","dict_reverseitemiterator","odict_iterator","itertools.zip_longest","itertools.pairwise"].contains n=false->
    (s1.heap.push o).IsStrIter s1.heap.objs.size n z t 0->Cs X pins σ tg R (.ref s1.heap.objs.size) {s1 with heap:=s1.heap.push o}:=by
   intro o n W HH hn st
   refine ⟨s1.heap.objs.size,[s1.heap.objs.size],_,_,H1,rfl,I1.kept (t':=s1.toks) fun b o e=>Qc _ e,tO W HH (fun i h st=>?_),st,fun b hb=>?_,q⟩
   ·obtain ⟨o,e,c,d⟩:=st
    exact ⟨o,n,_,e,c,d,hn⟩
   ·have e:b=s1.heap.objs.size:=by simpa using hb
    subst e
    exact I1.AH (Qy _) (I1.hok.fresh (Qy _))
  cases ha:z.cps.all (· < 128)
  ·exact wpAny_pyIter_wide ha (fin _ _ (fun A' hA=>Walks.strWide hA _ z t) (fun A i s Q E st h=>wpAny_pyIter_striter_wide st h) (by decide) ⟨_,Qd _ rfl,rfl,rfl⟩)
  ·exact wpAny_pyIter_ascii ha (fin _ _ (fun A' hA=>Walks.strAscii hA _ z t) (fun A i s Q E st h=>wpAny_pyIter_striter_ascii st h) (by decide) ⟨_,Qd _ rfl,rfl,rfl⟩)
 | _=>exact (show False from q1).elim
def BK (J:It) (ok:Hp->Prop) (n:Nat) (item:Nat->V):Prop:=
 ∀ H,ok H->(∀ i,i < n->J.go i H/\∀ x H',J.qi i H x H'->H'=H/\x=item i)/\J.stop n H
theorem cH {K:Q0} (xs:List V):BK (Hi K a) (fun H=>aj K H a xs) xs.length (fun i=>xs.getD i .ai):=fun H ok=>
 ⟨fun i hi=>⟨⟨xs,xs[i],ok,by simp [hi]⟩,fun x H' ⟨e,y⟩=>⟨e,by
  have:=y xs ok
  show x=xs.getD i V.ai
  rw [Qb,this];rfl⟩⟩,⟨xs,ok,Qy _⟩⟩
theorem cM {K:Q0} (xs:List V):BK (Hj K a) (fun H=>af K H a xs) xs.length (fun i=>xs.getD i .ai):=fun H ok=>
 ⟨fun i hi=>⟨⟨xs,xs[i],ok,by simp [hi]⟩,fun x H' ⟨e,y⟩=>⟨e,by
  have:=y xs ok
  show x=xs.getD i V.ai
  rw [Qb,this];rfl⟩⟩,⟨xs,ok,Qy _⟩⟩
theorem jY (lo:Int) (n:Nat):BK (Ft lo n) (fun _=>True) n (fun i=>.int (lo+i)):=fun H _=>
 ⟨fun i hi=>⟨hi,fun x H' ⟨e,y⟩=>⟨e,y⟩⟩,Qy _⟩
theorem hV {J:It} {ok:Hp->Prop} {item:Nat->V} {g:TG} {tc:TC} {τ0:St} {D:Addr} {Q:Hp->Prop} (hJ:BK J ok n item) (Pv:Nat->St->Hp->Prop) (h0:Pv 0 τ0 H0)
  (hok:∀ i τ H,i<=n->Pv i τ H->ok H)
  (hs:∀ i τ H,i < n->Pv i τ H->g (item i) τ H fun τ2 H2=>tc τ2 H2 fun b H3=>if b=true then te τ2 H3 fun y H4=>∃ xs,H4 D=some (.lst xs)/\xs.length < sizeLine/\Pv (i+1) τ2 (upd H4 D (.lst (xs++[y]))) else Pv (i+1) τ2 H3)
  (hd:∀ τ H,Pv n τ H->Q H):∃ W:Nat->Nat->St->Hp->Prop,(∃ m,W 0 m τ0 H0)/\∀ i m τ H,W i m τ H->
   (J.stop i H/\Q H)\/(J.go i H/\∃ N:St->Hp->Prop,(∀ τ' H',N τ' H'->∃ m',m' < m/\W (i+1) m' τ' H')/\∀ x H',J.qi i H x H'->g x τ H' fun τ2 H2=>tc τ2 H2 fun b H3=>
    if b=true then te τ2 H3 fun y H4=>∃ xs,H4 D=some (.lst xs)/\xs.length < sizeLine/\N τ2 (upd H4 D (.lst (xs++[y]))) else N τ2 H3):=by
 refine ⟨fun i m τ H=>m=n - i/\i<=n/\Pv i τ H,⟨n,by simp,Nat.zero_le _,h0⟩,?_⟩
 rintro i m τ H ⟨rfl,hi,p⟩
 obtain ⟨k1,k2⟩:=hJ H (hok i τ H hi p)
 by_cases ay:i < n
 ·refine .inr ⟨(k1 i ay).1,Pv (i+1),fun σ' H' p'=>⟨n - (i+1),by omega,rfl,ay,p'⟩,fun x H' y=>?_⟩
  obtain ⟨e,e2⟩:=(k1 i ay).2 x H' y
  subst e e2
  exact hs i τ _ ay p
 ·have e:i=n:=by omega
  subst e
  exact .inl ⟨k2,hd τ H p⟩
theorem cZ {J:It} {ok:Hp->Prop} {item:Nat->V} {g:TG} {tb:TS} {D:Ends} (hJ:BK J ok n item) (Pv:Nat->St->Hp->Prop) (h0:Pv 0 σ H) (hok:∀ i τ H,i<=n->Pv i τ H->ok H)
  (hs:∀ i σ H,i < n->Pv i σ H->g (item i) σ H fun σ2 H2=>tb {D with nx:=Pv (i+1),ct:=Pv (i+1),bk:=D.nx} σ2 H2) (hd:∀ σ H,Pv n σ H->D.nx σ H):
  ∃ W:Nat->Nat->St->Hp->Prop,(∃ m,W 0 m σ H)/\∀ i m σ H,W i m σ H->
   (J.stop i H/\D.nx σ H)\/(J.go i H/\∃ N:St->Hp->Prop,(∀ σ' H',N σ' H'->∃ m',m' < m/\W (i+1) m' σ' H')/\∀ x H',J.qi i H x H'->g x σ H' fun σ2 H2=>tb {D with nx:=N,ct:=N,bk:=D.nx} σ2 H2):=by
 refine ⟨fun i m σ H=>m=n - i/\i<=n/\Pv i σ H,⟨n,by simp,Nat.zero_le _,h0⟩,?_⟩
 rintro i m σ H ⟨rfl,hi,p⟩
 obtain ⟨k1,k2⟩:=hJ H (hok i σ H hi p)
 by_cases ay:i < n
 ·refine .inr ⟨(k1 i ay).1,Pv (i+1),fun σ' H' p'=>⟨n - (i+1),by omega,rfl,ay,p'⟩,fun x H' y=>?_⟩
  obtain ⟨e,e2⟩:=(k1 i ay).2 x H' y
  subst e e2
  exact hs i σ _ ay p
 ·have e:i=n:=by omega
  subst e
  exact .inl ⟨k2,hd σ H p⟩
def dm (K:Q0) (mg:Str->Option Value) (x:Str) (st:Stmt) (ps:List Str):Prop:=∃ (f:Addr) (fd:FuncData),AO K x x st f fd/\mg x=some (.ref f)/\Binds K fd ps []
theorem dm.ok {P:Program} {w:World} {K:Q0} {mg:Str->Option Value} {base:Heap} {x:Str} {st:Stmt} {N ps:List Str} {k:Nat} {sp:Sp} (F:dm K mg x st ps) (S:dw N ps (bh st)) (len:∀ vs H Q E,sp vs H Q E->vs.length=ps.length)
  (zp:∀ (f:Addr) (bc:Value) (A:Around) (outer:List Env) (s:Shared) (H:Hp) (vs:List V) (Q:VK) (E:XK),gk k (A.deeper (envOfC x (bh st) s.heap.objs.size f bc))->sp vs H Q E->
   ∃ t,qe (zo Aa P w K mg base N x (bh st) f bc A outer s H E).Bq (lh st) t/\t {nx:=fun _ H'=>Q .ai H',rt:=Q} (start N vs) H):a_ P w K mg base (k+1) x ps sp:=by
 obtain ⟨f,fd,Fu,m,b⟩:=F
 exact ⟨f,fd,Fu.ok S len (zp f),m,Fu.kp,b,let ⟨oc,od,_,_,_,_,_,_,nk,_,lk,_⟩:=Fu.ex;⟨oc,od,nk,lk⟩⟩
section
variable {pos:Pos}
theorem Uy {v:V} (h:∃ u,X.mg x=some u/\RelV v u) (hg:Gl X x:=by rfl) (hd:(x==("__debug__":Str))=false:=by decide):PE X (.Name x pos) (tC v):=by
 obtain ⟨u,h1,h2⟩:=h
 exact lN hg h1 h2 hd
def FL (K:Q0) (xs:List V):TE:=fun _ H Q=>∀ a,af K H a xs->Q (.ref a) H
theorem Uz {xs:List V} (h:∃ a,X.mg x=some (.ref a)/\∀ H,af X.K H a xs) (hg:Gl X x:=by rfl) (hd:(x==("__debug__":Str))=false:=by decide):PE X (.Name x pos) (FL X.K xs):=by
 obtain ⟨a,h1,h2⟩:=h
 intro pins s σ H Q I q
 exact lN (v:=.ref a) hg h1 rfl hd pins s σ H Q I (q a (h2 H))
theorem UA:wx X (fun x lo hi H Q=>BJ x lo hi H Q\/(BF X.K x lo hi H Q\/BD X.K x lo hi H Q)):=Uu.or (S4.or SJ)
end
section
variable (K:Q0)
theorem aZ (h:X.K=K:=by rfl):BE X (BH K):=by rw [<- h];exact Us
theorem kF (h:X.K=K:=by rfl):cu X (compareOp .In) (CF K false):=by rw [<- h];exact Ut
theorem oE (h:X.K=K:=by rfl):cu X (compareOp .NotIn) (CF K true):=by rw [<- h];exact xH
theorem bT (h:X.K=K:=by rfl):jp X (.builtin "len") (HE K):=by rw [<- h];exact xI
theorem wX (hc:X.calm=true) (h:X.K=K:=by rfl):jp X (.builtin "all") (HF K):=by rw [<- h];exact xC hc
theorem rF (h:X.K=K:=by rfl):wx X (fun x lo hi H Q=>BJ x lo hi H Q\/(BF K x lo hi H Q\/BD K x lo hi H Q)):=by rw [<- h];exact UA
theorem UB {l:Expr} {tl:TE} (hl:PE X l tl) (h:X.K=K:=by rfl):PI X tg l (iD K tl):=by rw [<- h];exact Ux hl
theorem UC {pos:Pos} {xs:List V} (hx:∃ a,X.mg x=some (.ref a)/\∀ H,af K H a xs) (h:X.K=K:=by rfl) (hg:Gl X x:=by rfl) (hd:(x==("__debug__":Str))=false:=by decide):PE X (.Name x pos) (FL K xs):=by
 subst h;exact Uz hx hg hd
theorem UD {es:List Expr} {k:Nat} {t:wl} {pos:Pos} (hc:X.calm=true) (hh:Cr X es t) (h:X.K=K:=by rfl)
  (hn:(assignEach es X.env).length=n:=by rfl) (uz:(assignEach es X.env).findIdx? (·.1)=none:=by rfl):PG X (.Tuple es k pos) (zk K n t):=by
 subst h;exact Rp hc hh hn uz
theorem UE {id:String} {r:V->List V->Hp->VK->Prop} {o:Expr} {es:List Expr} {t:TA} (pa:PlainAttrs T) (slot:Slot T name id) (zw:typeOf (.builtin id)=pure (.type "method_descriptor")) (hm:CB X id r) (ho:PE X o to) (ha:PA X (e::es) t) (h:X.K=K:=by rfl)
  (qx:attributeBase o name X.env (eval o X.env)=eval o X.env:=by rfl)
  (zy:((backTo cpos (starEach (e::es) X.env)).all (fun x=> !x.1)&&(backToKw cpos (keywordEach [] X.env)).all (fun x=>x.1.isSome)
   &&decide ((e::es).length+([]:List Keyword).length+(if ([]:List Keyword).isEmpty then 0 else 1) < 30))=true:=by rfl)
  (qz:(apos.endLine==cpos.line)=true:=by rfl) (hs:starEach (e::es) X.env=(false,eval e X.env)::starEach es X.env:=by rfl) (DM:(backTo cpos (starEach es X.env)).any (·.1)=false:=by rfl):
  PE X (.Call (.Attribute o name apos) (e::es) [] cpos) (FD K T r to t):=by
 subst h;exact S7 pa slot zw hm ho ha qx zy qz hs DM
end
structure SE (X:Cx) (e:Expr) (t:TE):Prop where
 h:PE X e t
structure ST (X:Cx) (e:Expr) (t:TT):Prop where
 h:PT X e t
structure SW (X:Cx) (e:Expr) (t:TT):Prop where
 h:PW X e t
structure SA (X:Cx) (es:List Expr) (t:TA):Prop where
 h:PA X es t
structure SS (X:Cx) (s:Stmt) (t:TS):Prop where
 h:PS X s t
structure SB (X:Cx) (s:List Stmt) (t:TS):Prop where
 h:qe X s t
structure SG (X:Cx) (e:Expr) (t:TG):Prop where
 h:PG X e t
structure FN (X:Cx) (e:List Expr) (t:wl):Prop where
 h:Cr X e t
structure SI (X:Cx) (tg e:Expr) (t:TI):Prop where
 h:PI X tg e t
structure SC (X:Cx) (e:List Expr) (t:TC):Prop where
 h:uh X e t
structure SO (X:Cx) (e:Option Expr) (t:TO):Prop where
 h:PO X e t
section
variable {es:List Expr} {t:TA} {c:Const} {iu:Pos} {n:Str} {AU:List Expr} {f0 a0 b0 c0:Expr} {Lx:List Keyword} {o0:Operator} {ks0:List (Option Expr)} {Ly:List Comprehension} {Lz:Scope} {u0:UnaryOp} {bo0:BoolOp} {LA:List CmpOp}
theorem ae:SA X [] uc:=⟨Sg⟩
theorem aD (ha:SE X (.Constant c j iu) te) (hr:SA X es t):SA X (.Constant c j iu::es) (g_ te t):=⟨cT ha.h hr.h⟩
theorem aB (ha:SE X (.Name n iu) te) (hr:SA X es t):SA X (.Name n iu::es) (g_ te t):=⟨cT ha.h hr.h⟩
theorem UG (ha:SE X (.List AU iu) te) (hr:SA X es t):SA X (.List AU iu::es) (g_ te t):=⟨cT ha.h hr.h⟩
theorem bD (ha:SE X (.Tuple AU j iu) te) (hr:SA X es t):SA X (.Tuple AU j iu::es) (g_ te t):=⟨cT ha.h hr.h⟩
theorem aP (ha:SE X (.Call f0 AU Lx iu) te) (hr:SA X es t):SA X (.Call f0 AU Lx iu::es) (g_ te t):=⟨cT ha.h hr.h⟩
theorem eZ (ha:SE X (.BinOp a0 o0 b0 iu) te) (hr:SA X es t):SA X (.BinOp a0 o0 b0 iu::es) (g_ te t):=⟨cT ha.h hr.h⟩
theorem aH (ha:SE X (.Subscript a0 b0 iu) te) (hr:SA X es t):SA X (.Subscript a0 b0 iu::es) (g_ te t):=⟨cT ha.h hr.h⟩
theorem dQ (ha:SE X (.ListComp a0 Ly Lz iu) te) (hr:SA X es t):SA X (.ListComp a0 Ly Lz iu::es) (g_ te t):=⟨cT ha.h hr.h⟩
theorem vD (ha:SE X (.UnaryOp u0 a0 iu) te) (hr:SA X es t):SA X (.UnaryOp u0 a0 iu::es) (g_ te t):=⟨cT ha.h hr.h⟩
theorem UH (ha:SE X (.IfExp a0 b0 c0 iu) te) (hr:SA X es t):SA X (.IfExp a0 b0 c0 iu::es) (g_ te t):=⟨cT ha.h hr.h⟩
theorem tT (ha:SE X (.Compare a0 LA AU iu) te) (hr:SA X es t):SA X (.Compare a0 LA AU iu::es) (g_ te t):=⟨cT ha.h hr.h⟩
end
section
variable {a b c o i value lo hi iter elt:Expr} {ta tb tc td ty tv:TE} {t:TA} {pos p p2 pos' iu:Pos} {es:List Expr}
theorem zv (i:Nat) {pos:Pos} (hN:X.N[i]? =some x:=by rfl) (hv:Cp X.env.scope x:=by first | exact Or.inl rfl | exact Or.inr (Or.inl rfl) | exact Or.inr (Or.inr rfl)) (hd:(x==("__debug__":Str))=false:=by decide) (qf:(x==("__classdict__":Str))=false:=by decide):SE X (.Name x pos) (tV i):=⟨Ue i hN hv hd qf⟩
theorem HK {v:V} (h:∃ u,X.mg x=some u/\RelV v u) (hg:Gl X x:=by rfl) (hd:(x==("__debug__":Str))=false:=by decide):SE X (.Name x pos) (tC v):=⟨Uy h hg hd⟩
theorem UI (K:Q0) {xs:List V} (hx:∃ a,X.mg x=some (.ref a)/\∀ H,af K H a xs) (h:X.K=K:=by rfl) (hg:Gl X x:=by rfl) (hd:(x==("__debug__":Str))=false:=by decide):SE X (.Name x pos) (FL K xs):=⟨UC K hx h hg hd⟩
theorem mP {v:V} (hg:Gl X x) (hm:X.mg x=none) (hv:bootBuiltins x=some u) (r:RelV v u) (hn:x≠"__name__":=by decide) (hd:(x==("__debug__":Str))=false:=by decide):SE X (.Name x pos) (tC v):=⟨Q6 hg hm hv r hn hd⟩
theorem iJ {j}:SE X (.Constant .none j pos) (tC .ai):=⟨Q4⟩
theorem jS {b:Bool} {j}:SE X (.Constant (.bool b) j pos) (tC (.bl b)):=⟨Q3⟩
theorem aG {i:Int} {j}:SE X (.Constant (.int i) j pos) (tC (.int i)):=⟨Q2⟩
theorem aS {j}:SE X (.Constant (.str x) j pos) (tC (.str x)):=⟨Q5⟩
theorem bX {op:Operator} {r:R2} (ho:cu X (binaryOp op) r) (ha:SE X a ta) (hb:SE X b tb):SE X (.BinOp a op b pos) (ky r ta tb):=⟨RB ho ha.h hb.h⟩
theorem HL {op:UnaryOp} {r:V->Hp->VK->Prop} (ho:Fv X (unaryOp op) r) (ha:SE X a ta):SE X (.UnaryOp op a pos) (K1 r ta):=⟨RC ho ha.h⟩
theorem mY {r:R2} (ho:cu X (compareOp op) r) (ha:SE X a ta) (hb:SE X b tb) (hm:behindInMarks op b=false):SE X (.Compare a [op] [b] pos) (ky r ta tb):=⟨R1 ho ha.h hb.h hm⟩
theorem aL {r:R2} (ho:cu X (compareOp op) r) (ha:SE X a ta) (hb:SE X b tb) (hm:behindInMarks op b=false):ST X (.Compare a [op] [b] pos) (Fx (ky r ta tb)):=⟨R3 ho ha.h hb.h hm⟩
theorem kX (h:SE X e te) (he:∀ whole,isTrue e X.env whole=(do let v <- whole;standAt e.pos;holding [v] (truthy v)):=by intro _;rfl):ST X e (tB te):=⟨Q8 h.h he⟩
theorem rD {tA:TT} (ha:ST X a tA):ST X (.UnaryOp .Not a pos) (KP tA):=⟨Rc ha.h⟩
theorem uA {tA:TT} (ha:ST X a tA):SW X (.BoolOp .And [a] pos) tA:=⟨Q9 ha.h⟩
theorem mR {tA:TT} (ha:ST X a tA):SW X (.BoolOp .Or [a] pos) tA:=⟨Q_ ha.h⟩
theorem vT {tA yh:TT} {rest:List Expr} (ha:ST X a tA) (hb:SW X (.BoolOp .And (b::rest) pos) yh):SW X (.BoolOp .And (a::b::rest) pos) (KN tA yh):=⟨Ra ha.h hb.h⟩
theorem qA {tA yh:TT} {rest:List Expr} (ha:ST X a tA) (hb:SW X (.BoolOp .Or (b::rest) pos) yh):SW X (.BoolOp .Or (a::b::rest) pos) (KO tA yh):=⟨Rb ha.h hb.h⟩
theorem SW.pt {tA:TT} (h:SW X e tA):ST X e tA:=⟨h.h.pt⟩
theorem cP (h:SA X es t):SE X (.List es pos) (Hq t):=⟨Si h.h⟩
theorem aT {x1} (h:SA X es t):SE X (.Tuple es x1 pos) (Cw t):=⟨Sh h.h⟩
theorem UJ:SE X (.Dict [] [] pos) Ll:=⟨Tt⟩
theorem pK {tA:TT} (hc:ST X c tA) (ha:SE X a ta) (hb:SE X b tb):SE X (.IfExp c a b pos) (KQ tA ta tb):=⟨Rf hc.h ha.h hb.h⟩
theorem fS:SO X none Cy:=⟨SD⟩
theorem fT (h:SE X e te):SO X (some e) (Cz te):=⟨SH h.h⟩
theorem fM {r:V->Option Int->Option Int->Hp->VK->Prop} {l u:Option Expr} {tl th:TO} (hr:wx X r) (he:SE X e te) (hl:SO X l tl) (hu:SO X u th):SE X (.Subscript e (.Slice l u none p2) pos) (CA r te tl th):=⟨zO hr he.h hl.h hu.h⟩
theorem cG (hu:X.A.units+1 < cLine) (ho:SE X o td) (hi:SE X i ty) (hs:FH i):SE X (.Subscript o i pos) (Lj td ty):=⟨Tp hu ho.h hi.h hs⟩
theorem aY {r:R2} (hr:BE X r) (ha:SE X a ta) (hb:SE X b tb) (hs:Lc b):SE X (.Subscript a b pos) (ky r ta tb):=⟨SN hr ha.h hb.h hs⟩
theorem bA {k:Nat} {sp:Sp} (F:a_ X.prog X.w X.K X.mg X.base k x ps sp) (hr:gk k X.A) (ha:SA X (e::es) t) (hg:Gl X x:=by rfl) (nj:(x==("__debug__":Str))=false:=by decide)
  (he:starEach (e::es) X.env=(false,eval e X.env)::starEach es X.env:=by rfl) (h_:(backTo pos (starEach es X.env)).any (·.1)=false:=by rfl):
  SE X (.Call (.Name x p) (e::es) [] pos) (DJ sp [] E0 t):=⟨Uv F hr ha.h hg nj he h_⟩
theorem bK {id:String} {r:List V->Hp->VK->Prop} (hc:jp X (.builtin id) r) (hg:Gl X x) (hm:X.mg x=none) (hv:bootBuiltins x=some (.builtin id)) (ha:SA X (e::es) t) (hn:x≠"__name__":=by decide) (nj:(x==("__debug__":Str))=false:=by decide)
  (he:starEach (e::es) X.env=(false,eval e X.env)::starEach es X.env:=by rfl) (h_:(backTo pos (starEach es X.env)).any (·.1)=false:=by rfl):SE X (.Call (.Name x p) (e::es) [] pos) (BB r t):=⟨Su hc hg hm hv ha.h hn nj he h_⟩
theorem lW (K:Q0) {id:String} {r:V->List V->Hp->VK->Prop} (pa:PlainAttrs T) (slot:Slot T name id) (zw:typeOf (.builtin id)=pure (.type "method_descriptor")) (hm:CB X id r) (ho:SE X o to) (ha:SA X (e::es) t) (h:X.K=K:=by rfl)
  (qx:attributeBase o name X.env (eval o X.env)=eval o X.env:=by rfl)
  (zy:((backTo cpos (starEach (e::es) X.env)).all (fun x=> !x.1)&&(backToKw cpos (keywordEach [] X.env)).all (fun x=>x.1.isSome)
   &&decide ((e::es).length+([]:List Keyword).length+(if ([]:List Keyword).isEmpty then 0 else 1) < 30))=true:=by rfl)
  (qz:(apos.endLine==cpos.line)=true:=by rfl) (hs:starEach (e::es) X.env=(false,eval e X.env)::starEach es X.env:=by rfl) (DM:(backTo cpos (starEach es X.env)).any (·.1)=false:=by rfl):
  SE X (.Call (.Attribute o name apos) (e::es) [] cpos) (FD K T r to t):=⟨UE K pa slot zw hm ho.h ha.h h qx zy qz hs DM⟩
theorem aV:SB X [] Fo:=⟨Rh⟩
theorem aE {st:Stmt} {u:TS} (h1:SS X st u):SB X [st] u:=⟨Ri h1.h⟩
theorem aC {st:Stmt} {rest:List Stmt} {u v:TS} (h1:SS X st u) (h2:SB X rest v):SB X (st::rest) (zj u v):=⟨zP h1.h h2.h⟩
theorem aQ (he:SE X e te):SS X (.Return (some e) pos) (Cq te):=⟨Rk he.h⟩
theorem dR (he:SE X e te) (hs:swapsWith e none pos.line X.env=pure false:=by rfl):SS X (.Expr e pos) (Hf te):=⟨Rj he.h hs⟩
theorem bN {a b:List Stmt} {tA:TT} {u v:TS} (hc:ST X c tA) (ha:SB X a u) (hb:SB X b v):SS X (.If c a b pos) (Fp tA u v):=⟨Rl hc.h ha.h hb.h⟩
theorem fU {wi:TI} {g:TG} {u:TS} (hp:PassesOwn (model X.prog X.w) X.A X.env X.xe) (hc:X.calm=true) (hi:SI X tg iter wi) (hg:SG X tg g) (hb:SB X body u) (hs:∀ x,foldedSetIterable iter X.env x=pure x:=by intro _;rfl):SS X (.For tg iter body [] pos) (K0 wi g u):=⟨Rz hp hc hi.h hg.h hb.h hs⟩
theorem iN {tA:TT} {u:TS} (hp:PassesOwn (model X.prog X.w) X.A X.env X.xe) (hc:ST X c tA) (hb:SB X body u):SS X (.While c body [] pos) (KW tA u):=⟨zE hp hc.h hb.h⟩
theorem aX {i:Nat} (hN:X.N.Nodup) (hi:X.N[i]? =some x) (hx:Loc X.env.scope x) (he:SE X e te) (hs:swapsWith e (some (.Name x pos')) pos.line X.env=pure false:=by rfl) (hf:X.fn x=true\/X.env.scope.names.lookup x=some .local:=by first | exact .inl rfl | exact .inr rfl | assumption):
  SS X (.Assign [.Name x pos'] e pos) (zl te (jc i)):=⟨Rt hN hi hx he.h hs hf⟩
theorem zD (hu:X.A.units+1 < cLine) (ho:SE X o td) (hi:SE X i ty) (hv:SE X value tv) (hs:swapsWith value (some (.Subscript o i pos')) pos.line X.env=pure false):SS X (.Assign [.Subscript o i pos'] value pos) (Lk td ty tv):=⟨Tq hu ho.h hi.h hv.h hs⟩
theorem fF {g:TG} (he:SE X e te) (hg:SG X tg g) (hs:swapsWithSole [tg] e pos.line X.env=pure false:=by rfl) (hw:swappedStores [tg] e X.env=pure none:=by rfl)
  (h1:(assignEach [tg] X.env).map (·.2)=[assign tg X.env]:=by rfl):SS X (.Assign [tg] e pos) (zl te g):=⟨Rr he.h hg.h hs hw h1⟩
theorem aJ {i:Nat} (hN:X.N.Nodup) (hi:X.N[i]? =some x) (hx:Loc X.env.scope x) (hf:X.fn x=true\/X.env.scope.names.lookup x=some .local:=by first | exact .inl rfl | exact .inr rfl | assumption):SG X (.Name x pos) (jc i):=⟨Rm hN hi hx hf⟩
theorem bE:FN X [] Br:=⟨Rn⟩
theorem aI {g:TG} {u:wl} (h1:SG X e g) (h2:FN X es u) (hs:(assignEach (e::es) X.env).map (·.2)=assign e X.env::(assignEach es X.env).map (·.2):=by rfl):FN X (e::es) (qg g u):=⟨Ro h1.h h2.h hs⟩
theorem bO (K:Q0) {k:Nat} {u:wl} (hc:X.calm=true) (hh:FN X es u) (h:X.K=K:=by rfl)
  (hn:(assignEach es X.env).length=n:=by rfl) (uz:(assignEach es X.env).findIdx? (·.1)=none:=by rfl):SG X (.Tuple es k pos) (zk K n u):=⟨UD K hc hh.h h hn uz⟩
theorem HM {u:Fq} (ho:SE X o td) (hi:SE X i ty) (hs:Hg X u)
  (ha:∀ v,assign (.Subscript o i pos) X.env v=(do
   let ov <- holding [v] (eval o X.env)
   let iv <- holding [v,ov] (eval i X.env)
   standAt pos
   holding [v,ov,iv] (setItem ov iv v)
   release [v,ov,iv] []):=by intro _;rfl):SG X (.Subscript o i pos) (KR td ty u):=⟨Rq ho.h hi.h hs ha⟩
theorem lV (hg:Gl X "range") (hm:X.mg "range"=none) (ha:SA X [a] t) (hs:starEach [a] X.env=[(false,eval a X.env)]:=by rfl):SI X tg (.Call (.Name "range" p) [a] [] pos) (KZ t):=⟨xV hg hm ha.h hs⟩
theorem lJ (K:Q0) (hl:SE X e te) (h:X.K=K:=by rfl):SI X tg e (iD K te):=⟨UB K hl.h h⟩
theorem eA:SC X [] DP:=⟨T4⟩
theorem LB {tA:TT} (h:ST X c tA):SC X [c] tA:=⟨T6 h.h⟩
theorem nC {wi:TI} {g:TG} {tt:TC} (S:q_ X.env.scope X.N sc own idx N') (hc:X.calm=true) (hi:SI X tg iter wi)
  (hg:∀ cl C s3 H0 fp pn,SG (di X N' sc cl C s3 H0 fp pn) tg g) (ht:∀ cl C s3 H0 fp pn,SC (di X N' sc cl C s3 H0 fp pn) ifs tt) (he:∀ cl C s3 H0 fp pn,SE (di X N' sc cl C s3 H0 fp pn) elt te)
  (hs:∀ x,foldedSetIterable iter X.env x=pure x:=by intro _;rfl):SE X (.ListComp elt [⟨tg,iter,ifs,0⟩] sc pos) (BG own idx wi g tt te):=
 ⟨Ua S hc hi.h (fun q r s t u v=>(hg q r s t u v).h) (fun q r s t u v=>(ht q r s t u v).h) (fun q r s t u v=>(he q r s t u v).h) hs⟩
theorem HN {wi:TI} {g:TG} {tt:TC} {i:Nat} {y:Str} {py spos:Pos} (S:q_ X.env.scope X.N sc own idx N') (hc:X.calm=true) (hi:SI X tg iter wi)
  (hg:∀ cl C s3 H0 fp pn,SG (di X N' sc cl C s3 H0 fp pn) tg g) (ht:∀ cl C s3 H0 fp pn,SC (di X N' sc cl C s3 H0 fp pn) ifs tt) (he:∀ cl C s3 H0 fp pn,SE (di X N' sc cl C s3 H0 fp pn) elt te)
  (hN:X.N.Nodup) (HB:X.N[i]? =some y) (hy:X.env.scope.names.lookup y=some .local)
  (HC:swapsWith (.ListComp elt [⟨tg,iter,ifs,0⟩] sc pos) (some (.Name y py)) spos.line X.env=pure true:=by rfl)
  (hs:∀ x,foldedSetIterable iter X.env x=pure x:=by intro _;rfl):SS X (.Assign [.Name y py] (.ListComp elt [⟨tg,iter,ifs,0⟩] sc pos) spos) (zl (BG own idx wi g tt te) (jc i)):=
 ⟨Ub S hc hi.h (fun q r s t u v=>(hg q r s t u v).h) (fun q r s t u v=>(ht q r s t u v).h) (fun q r s t u v=>(he q r s t u v).h) hN HB hy HC hs⟩
end
theorem dm.fk {K:Q0} {st:Stmt} {N:List Str} {k:Nat} {sp:Sp} (F:dm K mg x st ps) (S:dw N ps (bh st)) (len:∀ vs H Q E,sp vs H Q E->vs.length=ps.length)
  (zp:∀ (f:Addr) (bc:Value) (A:Around) (outer:List Env) (s:Shared) (H:Hp) (vs:List V) (Q:VK) (E:XK),gk k (A.deeper (envOfC x (bh st) s.heap.objs.size f bc))->sp vs H Q E->
   ∃ t,SB (zo Aa P w K mg base N x (bh st) f bc A outer s H E).Bq (lh st) t/\t {nx:=fun _ H'=>Q .ai H',rt:=Q} (start N vs) H):a_ P w K mg base (k+1) x ps sp:=
 F.ok S len fun f bc A outer s H vs Q E hr h=>let ⟨t,h1,h2⟩:=zp f bc A outer s H vs Q E hr h;⟨t,h1.h,h2⟩
theorem LC {kx vx target iter:Expr} {scope:Scope} {pos:Pos} {it:Value} {D:Addr} (I:Nat->Shared->Prop)
  (turn:∀ n s,I n s->wpAny (model prog w) A (pyNext it) (fun r s₁=>match r with
   | none=>R (.ok .next) s₁
   | some v=>wpAny (model prog w) A (letOwnedTupleGo target it v) (fun _ DO=>wpAny (model prog w) A (assign target env v) (fun _ s₂=>
     wpAny (model prog w) A (forIn ifs true fun c r=>if r=true then do let ok <- isTrue c env (eval c env);pure (ForInStep.yield ok) else pure (ForInStep.yield r)) (fun ok s₃=>
      if ok=true then wpAny (model prog w) A (eval kx env) (fun kv s₄=>wpAny (model prog w) A (eval vx env) (fun vv s₅=>
       wpAny (model prog w) A (dictSet D kv vv) (fun _ s₆=>∃ m,m < n/\I m s₆) kh s₅) kh s₄) kh s₃
      else ∃ m,m < n/\I m s₃) kh s₂) kh DO) kh s₁) kh s)
  (n:Nat) (h:I n s):
  codeAny (model prog w) A (.compLoop (.DictComp kx vx [⟨target,iter,ifs,0⟩] scope pos) 0 it (.ref D) env) R s:=by
 refine codeAny_loop rfl I (fun n s hI=>?_) n h
 show wpAny _ A ((compTurn (.DictComp kx vx [⟨target,iter,ifs,0⟩] scope pos) 0 it (.ref D) env).onRaise (fun x=>do noteFrame x env;theTreesLotGoes x)) _ _ s
 refine wpAny_noted ?_
 rw [compTurn_dict]
 refine QT (wpAny_standAt (QT (wpAny_mono (turn n s hI) (fun r s₁ h₁=>?_) fun _ _ h'=>h'.elim)))
 cases r with
 | none=>exact QU h₁
 | some v=>
  refine QT (wpAny_mono h₁ (fun _ DO HA=>?_) fun _ _ h'=>h'.elim)
  refine QT (wpAny_mono HA (fun _ s₂ h₂=>QT (wpAny_mono h₂ (fun ok s₃ h₃=>?_) fun _ _ h'=>h'.elim)) fun _ _ h'=>h'.elim)
  cases ok with
  | false=>exact QU ⟨rfl,h₃⟩
  | true=>
   exact QT (QT (wpAny_mono h₃ (fun kv s₄ h₄=>QT (wpAny_holding (wpAny_mono h₄ (fun vv s₅ h₅=>QT (wpAny_standAt (wpAny_holding (wpAny_mono h₅ (fun _ s₆ h₆=>QU ⟨rfl,h₆⟩) fun _ _ h'=>h'.elim)))) fun _ _ h'=>h'.elim))) fun _ _ h'=>h'.elim))
section
variable {iter kx vx:Expr} {pos:Pos} {wi:TI} {g:TG} {tc:TC} {tk tw:TE}
abbrev jk:Obj:={cls:=.type "dict",data:=.dict #[]}
def LD (own:List Str) (idx:List Nat) (wi:TI) (g:TG) (tc:TC) (tk tw:TE):TE:=fun σ H Q=>wi σ H fun J H1=>∀ D,H1 D=none->∃ W:Nat->Nat->St->Hp->Prop,(∃ m,W 0 m (ue own idx σ) (upd H1 D (.dK [])))/\∀ i m τ H,W i m τ H->
 (J.stop i H/\Q (.ref D) H)\/(J.go i H/\∃ N:St->Hp->Prop,(∀ τ' H',N τ' H'->∃ m',m' < m/\W (i+1) m' τ' H')/\∀ x H',J.qi i H x H'->g x τ H' fun τ2 H2=>tc τ2 H2 fun b H3=>
  if b=true then tk τ2 H3 fun x H4=>tw τ2 H4 fun y H5=>∃ kvs key,x=kV key/\H5 D=some (.dK kvs)/\kvs.length < sizeLine/\N τ2 (upd H5 D (.dK (putK kvs key y))) else N τ2 H3)
theorem qM (S:q_ X.env.scope X.N sc own idx N') (c1:∀ x c,cl.lookup x=some c->X.env.cells.lookup x=some c) (c2:∀ y∈sc.names,y.2=.free->∃ c,cl.lookup y.1=some c) (hc:X.calm=true)
  (hg:∀ cl C s3 H0 fp pn,PG (di X N' sc cl C s3 H0 fp pn) tg g) (ht:∀ cl C s3 H0 fp pn,uh (di X N' sc cl C s3 H0 fp pn) ifs tc) (he:∀ cl C s3 H0 fp pn,PE (di X N' sc cl C s3 H0 fp pn) kx tk) (hv:∀ cl C s3 H0 fp pn,PE (di X N' sc cl C s3 H0 fp pn) vx tw)
  {pins:List (Addr×Obj)} {σ:St} {Q:VK} {qm:Value} {s2:Shared} {RR:Value->Addr->Result->Shared->Prop} {E:Value->Shared->Prop}
  (hI:Cs X pins σ tg (fun J H1=>∀ D,H1 D=none->∃ W:Nat->Nat->St->Hp->Prop,(∃ m,W 0 m (ue own idx σ) (upd H1 D (.dK [])))/\∀ i m τ H,W i m τ H->
   (J.stop i H/\Q (.ref D) H)\/(J.go i H/\∃ N:St->Hp->Prop,(∀ τ' H',N τ' H'->∃ m',m' < m/\W (i+1) m' τ' H')/\∀ x H',J.qi i H x H'->g x τ H' fun τ2 H2=>tc τ2 H2 fun b H3=>
    if b=true then tk τ2 H3 fun x H4=>tw τ2 H4 fun y H5=>∃ kvs key,x=kV key/\H5 D=some (.dK kvs)/\kvs.length < sizeLine/\N τ2 (upd H5 D (.dK (putK kvs key y))) else N τ2 H3)) qm s2)
  (DQ:∀ D C H' s',Inv X pins σ H' s'->Q (.ref D) H'->(H' C=none/\C≠X.env.locals/\X.s₀.heap.objs.size<=C/\(∀ x c,X.env.cells.lookup x=some c->c≠C)/\(∀ p∈X.pn++pins,p.1≠C)/\∃ m,s'.heap.Ns C m)->RR (.ref D) C (.ok .next) s'):
  wpAny (model X.prog X.w) X.A newDict (fun acc s₃=>wpAny (model X.prog X.w) X.A (newFunctionEnv sc X.env.globals cl [] X.env.qual none .none (some X.env)) (fun cenv s₄=>
   codeAny (model X.prog X.w) X.A (.compStart (.DictComp kx vx [⟨tg,iter,ifs,0⟩] sc pos) 0 qm acc {cenv with scope:=relabel sc X.env}) (RR acc cenv.locals) s₄) E s₃) E s2:=by
 obtain ⟨it,fp,tn,J,H2,rfl,I,T,gf,f2,body⟩:=hI
 refine wpAny_newObj_type (wpAny_newFunctionEnv S.cell (by intro y hy;simp at hy) (fun h4 ns sb=>?_) S.kind)
 dsimp only at ns sb ⊢
 have xf:jk.isFreed=false:=rfl
 have fr:H2 s2.heap.objs.size=none:=I.hok.fresh (Qy _)
 obtain ⟨W,⟨m0,w0⟩,turn⟩:=body _ fr
 have ug:∀ b∈fp,∃ o,s2.heap.get? b=some o:=fun b hb=>let ⟨o,e,_⟩:=T.obj _ _ gf b hb;⟨o,e⟩
 have yl:∀ b o,(s2.heap.push jk).get? b=some o->h4.get? b=some o:=fun b o e=>(sb.2 b (Nat.ne_of_lt (Qz e))).trans (Qc _ e)
 have DR:∀ (H:Hp) (h:Heap),h.get? s2.heap.objs.size=some jk->cz X.prog X.w H h s2.heap.objs.size (.dK []):=fun H h e=>⟨Nat.zero_le _,beq_eq_false_iff_ne.mpr (Ne.symm (Nat.ne_of_lt I.big)),[],.nil,(Heap.DictOf.new s2.heap).at fun o eo=>by rw [Qd _ rfl] at eo;cases eo;exact e⟩
 have I4:Inv (di X N' sc cl (s2.heap.push jk).objs.size {s2 with heap:=s2.heap.push jk} (upd H2 s2.heap.objs.size (.dK [])) fp (X.pn++pins)) [] (ue own idx σ) (upd H2 s2.heap.objs.size (.dK [])) {s2 with heap:=h4,toks:=s2.toks+([]:List (Str×Value)).length}:=
  m5 S I f2 ug c1 c2 xf DR ns yl
 -- Bu Lq own context
 generalize hY:di X N' sc cl (s2.heap.push jk).objs.size {s2 with heap:=s2.heap.push jk} (upd H2 s2.heap.objs.size (.dK [])) fp (X.pn++pins)=Y at I4
 have DS:PG Y tg g:=by rw [<- hY];exact hg _ _ _ _ _ _
 have DT:uh Y ifs tc:=by rw [<- hY];exact ht _ _ _ _ _ _
 have DU:PE Y kx tk:=by rw [<- hY];exact he _ _ _ _ _ _
 have HP:PE Y vx tw:=by rw [<- hY];exact hv _ _ _ _ _ _
 have pY:Y.prog=X.prog:=by rw [<- hY]
 have wY:Y.w=X.w:=by rw [<- hY]
 have KY:Y.K=X.K:=by rw [<- hY]
 have AY:Y.A=X.A:=by rw [<- hY]
 have cY:Y.calm=true:=by rw [<- hY];exact hc
 have xY:Y.xe=fun _ _=>False:=by rw [<- hY]
 have eY:Y.env=compEnvC sc cl (s2.heap.push jk).objs.size X.env:=by rw [<- hY]
 have DW:Y.ex=fp:=by rw [<- hY]
 have DY:Y.fs=ni X.stack:=by rw [<- hY]
 have DZ:Y.pn=X.pn++pins:=by rw [<- hY]
 have qo:∀ {H':Hp},(∀ b∈fp,H' b=none)->∀ b∈fp,qj Y [] H' b:=fun hn b hb=>by
  obtain ⟨f0,f1,f3,f4,f5,f6⟩:=f2 b hb
  refine ⟨hn b hb,?_,?_,.inl (by rw [DW];exact hb),fun x c e=>?_,fun p hp=>?_⟩
  ·obtain ⟨o,e⟩:=ug b hb
   have:=Qz e
   rw [eY]
   show b≠(s2.heap.push jk).objs.size
   rw [Heap.size_push];exact Nat.ne_of_lt (Nat.lt_succ_of_lt this)
  ·rw [DY]
   intro z
   rcases Qp.mp (I.Bp b z) with z | z
   ·exact f1 z
   ·exact f3 z
  ·rw [eY] at e
   exact f5 x c (c1 x c e)
  ·rw [DZ,QR] at hp
   exact f6 p hp
 have AR:tn 0 h4:=T.keep _ _ _ gf fun b hb o e=>yl b o (Qc _ e)
 have D0:∀ b∈fp,upd H2 s2.heap.objs.size (.dK []) b=none:=fun b hb=>by
  obtain ⟨o,e⟩:=ug b hb
  rw [aF (Nat.ne_of_lt (Qz e))]
  exact (f2 b hb).1
 have loop:codeAny (model X.prog X.w) X.A (.compLoop (.DictComp kx vx [⟨tg,iter,ifs,0⟩] sc pos) 0 (.ref it) (.ref s2.heap.objs.size) (compEnvC sc cl (s2.heap.push jk).objs.size X.env))
   (RR (.ref s2.heap.objs.size) (s2.heap.push jk).objs.size) {s2 with heap:=h4,toks:=s2.toks+([]:List (Str×Value)).length}:=by
  refine LC (fun n s'=>∃ i τ H',Inv Y [] τ H' s'/\tn i s'.heap/\(∀ b∈fp,H' b=none)/\W i n τ H') ?_ m0 ⟨0,_,_,I4,AR,D0,w0⟩
  rintro n s3 ⟨i,τ3,H3,I3,wm,wo,w3⟩
  rcases turn i n τ3 H3 w3 with ⟨stop,qn⟩ | ⟨go,N,hN,step⟩
  ·have h:=T.done Y pY wY KY cY i [] s3 τ3 H3 kh I3 (qo wo) wm stop
   rw [AY] at h
   refine av h ?_
   rintro r s4 ⟨hr,D5⟩
   subst hr
   have J4:=D5
   rw [<- hY] at J4
   obtain ⟨b1,b2⟩:=kL I f2 xf J4
   exact DQ _ _ _ _ b1 qn b2
  ·have h:=T.item Y pY wY KY cY i [] s3 τ3 H3 kh I3 (qo wo) wm go
   rw [AY] at h
   refine av h ?_
   rintro r s4 ⟨u,hr,D6⟩
   subst hr
   refine av D6 ?_
   rintro _ s5 ⟨x,H5,I5,r5,y5,qp,Bv⟩
   have Bw:=I5.pinned (qo Bv) (T.obj _ _ qp)
   have g5:=DS _ s5 τ3 H5 x u _ Bw r5 (step x H5 y5)
   rw [pY,wY,AY,xY,eY] at g5
   refine av g5 ?_
   rintro _ s6 ⟨τ6,H6,I6,q6⟩
   have t6:=DT _ s6 τ6 H6 _ I6 q6
   rw [pY,wY,AY,xY,eY] at t6
   refine av t6 ?_
   rintro ok s7 ⟨H7,I7,q7⟩
   have again:∀ {τ8:St} {H8:Hp} {s8:Shared},Inv Y ([]++Bt fp s5.heap) τ8 H8 s8->N τ8 H8->∃ m,m < n/\∃ i τ' H',Inv Y [] τ' H' s8/\tn i s8.heap/\(∀ b∈fp,H' b=none)/\W i m τ' H':=fun {τ8 H8 s8} I8 n8=>by
    obtain ⟨m',hm,w8⟩:=hN τ8 H8 n8
    refine ⟨m',hm,i+1,τ8,H8,I8.Ct,T.keep _ _ _ qp fun b hb o e=>(I8.pin (b,o) (List.mem_append_right _ (List.mem_append_right _ (cK hb e)))).1,fun b hb=>?_,w8⟩
    obtain ⟨o,e,d⟩:=T.obj _ _ qp b hb
    exact (I8.pin (b,o) (List.mem_append_right _ (List.mem_append_right _ (cK hb e)))).2.1
   cases ok with
   | false=>
    rw [if_neg (by decide)] at q7 ⊢
    exact again I7 q7
   | true=>
    rw [if_pos rfl] at q7 ⊢
    have e7:=DU _ s7 τ6 H7 _ I7 q7
    rw [pY,wY,AY,xY,eY] at e7
    refine av e7 ?_
    rintro kv s8 ⟨x8,H8,I8,r8,q8⟩
    have v8:=HP _ s8 τ6 H8 _ I8 q8
    rw [pY,wY,AY,xY,eY] at v8
    refine av v8 ?_
    rintro yv s9 ⟨y9,H9,I9,r9,kvs,key,ek,CG,hz,n9⟩
    subst ek
    obtain ⟨z,hd,vs,rel,dd⟩:=Hv I9.hok CG
    have BL:vs.length<=sizeLine:=by rw [<- rel.length];exact z
    have fc:(putK kvs key y9).length<=sizeLine:=by have:=cX kvs key y9;omega
    rw [pY,wY] at dd
    refine wpAny_dictSet_pairs (hsz:=BL) (kS r8) dd fun h' ow hs=>?_
    have HQ:∃ q,h'.get? s2.heap.objs.size=some q:=let ⟨q,_,_,hq,_⟩:=ow;⟨q,hq⟩
    rw [<- pY,<- wY] at ow
    have CH:=jV (t':=s9.toks+1) (ob:=.dK (putK kvs key y9)) I9 (by rw [CG];exact True.intro) hs HQ (uZ fc hd (rel.put key r9) ow)
    exact again CH n9
 exact codeAny_compStart_dict loop (T.self _ 0 _ _ _ AR loop)
theorem UK (S:q_ X.env.scope X.N sc own idx N') (hc:X.calm=true) (hi:PI X tg iter wi)
  (hg:∀ cl C s3 H0 fp pn,PG (di X N' sc cl C s3 H0 fp pn) tg g) (ht:∀ cl C s3 H0 fp pn,uh (di X N' sc cl C s3 H0 fp pn) ifs tc) (he:∀ cl C s3 H0 fp pn,PE (di X N' sc cl C s3 H0 fp pn) kx tk) (hv:∀ cl C s3 H0 fp pn,PE (di X N' sc cl C s3 H0 fp pn) vx tw)
  (hs:∀ x,foldedSetIterable iter X.env x=pure x:=by intro _;rfl):PE X (.DictComp kx vx [⟨tg,iter,ifs,0⟩] sc pos) (LD own idx wi g tc tk tw):=by
 intro pins s σ H Q I h
 obtain ⟨cl,nq,c1,c2⟩:=S.closure I.ok
 show wpAny _ X.A (comprehension (.DictComp kx vx [⟨tg,iter,ifs,0⟩] sc pos) sc X.env _ newDict false (eval iter X.env)) _ _ s
 refine wpAny_comprehension_free (use:=none) rfl hs nq S.kind S.names (av (hi pins s σ H _ I h) fun v s1 h1=>av h1 fun qm s2 h2=>?_)
 refine qM (Q:=Q) (pins:=pins) (σ:=σ) (RR:=fun acc C=>compPost (model X.prog X.w) X.A X.xe none (EP X pins σ Q) acc C) S c1 c2 hc hg ht he hv h2 ?_
 intro D C H' s' I' q ⟨a1,a2,a3,a4,a5,m,a6⟩
 exact ⟨m,a6,fun h' sb=>⟨.ref D,H',I'.turned (t':=s'.toks) (fun b o hb e=>(sb.2 b hb).trans e) a1 (Ne.symm (Ne.symm a2)) (.inr a3) a4 a5,rfl,q⟩⟩
theorem FO (S:q_ X.env.scope X.N sc own idx N') (hc:X.calm=true) (hi:SI X tg iter wi)
  (hg:∀ cl C s3 H0 fp pn,SG (di X N' sc cl C s3 H0 fp pn) tg g) (ht:∀ cl C s3 H0 fp pn,SC (di X N' sc cl C s3 H0 fp pn) ifs tc) (he:∀ cl C s3 H0 fp pn,SE (di X N' sc cl C s3 H0 fp pn) kx tk) (hv:∀ cl C s3 H0 fp pn,SE (di X N' sc cl C s3 H0 fp pn) vx tw)
  (hs:∀ x,foldedSetIterable iter X.env x=pure x:=by intro _;rfl):SE X (.DictComp kx vx [⟨tg,iter,ifs,0⟩] sc pos) (LD own idx wi g tc tk tw):=
 ⟨UK S hc hi.h (fun q r s t u v=>(hg q r s t u v).h) (fun q r s t u v=>(ht q r s t u v).h) (fun q r s t u v=>(he q r s t u v).h) (fun q r s t u v=>(hv q r s t u v).h) hs⟩
end
theorem aa.upd {H:Hp} {a:Addr} (h:H a=none) (o:HO):aa H (upd H a o):=fun b u q=>by rw [aF (aR q h)];exact q
theorem UL {c:Bool} {A B:Prop} (h1:c=true->B) (h2:c=false->A):if (!c)=true then A else B:=by
 cases c with
 | true=>exact ig (h1 rfl)
 | false=>exact w_ (h2 rfl)
theorem dz {c:Bool} {A B:Prop} (h1:c=true->A) (h2:c=false->B):if c=true then A else B:=by
 cases c with
 | true=>exact w_ (h1 rfl)
 | false=>exact ig (h2 rfl)
theorem bC {t u:TS} {D:Ends} (mid:St->Hp->Prop) (h1:∀ nx:St->Hp->Prop,(∀ σ' H',mid σ' H'->nx σ' H')->t {D with nx:=nx} σ H) (h2:∀ σ' H',mid σ' H'->u D σ' H'):zj t u D σ H:=h1 (u D) h2
theorem aK (x:α) (xs:List α):lg (x::xs) 0=some x:=fO (j:=0) rfl
theorem m7 (xs:List α) (i:Int) (h0:0<=i) (h1:i < xs.length):∃ c,xs[i.toNat]? =some c/\lg xs i=some c:=by
 have hl:i.toNat < xs.length:=by omega
 refine ⟨xs[i.toNat],by simp [hl],?_⟩
 have:=fO (xs:=xs) (j:=i.toNat) (v:=xs[i.toNat]) (by simp [hl])
 rw [<- this]
 congr 1
 omega
theorem iI (ns:List Str) (i:Nat) (h:i < ns.length):(ns.map V.str).getD i .ai=.str (ns.getD i ""):=by
 simp [Qb,h]
abbrev UM (w:Addr) (m t:Int):List (Key×V):=[(.inr "mixed",.int m),(.inr "turn",.int t),(.inr "wide",.ref w)]
structure AV (H:Hp) (p w:Addr) (t:Nat):Prop where
 ex:∃ (m c:Int) (ws:List Int),H p=some (.dK (UM w m c))/\H w=some (.lst (ws.map V.int))/\(0<=m/\m < 2147483629)/\0<=c/\c<=(t:Int)
def Sm (p w:Addr) (H H':Hp):Prop:=∀ b o,H b=some o->b≠p->b≠w->H' b=some o
theorem Sm.trans {w:Addr} {H1 H2:Hp} (a:Sm p w H H1) (b:Sm p w H1 H2):Sm p w H H2:=fun c o h h1 h2=>b c o (a c o h h1 h2) h1 h2
theorem aa.sm {w:Addr} {H1:Hp} (a:aa H H1):Sm p w H H1:=fun c o h _ _=>a c o h
theorem AV.same {w:Addr} {t:Nat} (h:AV H p w t) (s:aa H H'):AV H' p w t:=by
 obtain ⟨m,c,ws,h1,h2,r⟩:=h.ex
 exact ⟨m,c,ws,s _ _ h1,s _ _ h2,r⟩
theorem Sm.free {w:Addr} (s:Sm p w H H') (h:H' l=none) (hp:l≠p) (hw:l≠w):H l=none:=by
 cases q:H l with
 | none=>rfl
 | some o=>rw [s l o q hp hw] at h;cases h
theorem AV.upd {H:Hp} {p w D:Addr} {t:Nat} {o:HO} (h:AV H p w t) (h1:D≠p) (h2:D≠w):AV (upd H D o) p w t:=by
 obtain ⟨m,c,ws,e1,e2,r⟩:=h.ex
 exact ⟨m,c,ws,by rw [aF h1.symm];exact e1,by rw [aF h2.symm];exact e2,r⟩
theorem Sm.upd {p w D:Addr} {H H':Hp} {o:HO} (s:Sm p w H H') (h:H D=none):Sm p w H (upd H' D o):=fun b u hb h1 h2=>by rw [aF (aR hb h)];exact s b u hb h1 h2
def D8 (p w:Addr) (H:Hp):V->Prop
 | .ai=>True
 | .bl _=>True
 | .int _=>True
 | .str z=>z.length<=100000
 | .ref a=>a≠p/\a≠w/\((∃ xs,H a=some (.lst xs))\/(∃ xs,H a=some (.tup xs))\/∃ kvs,H a=some (.dK kvs))
 | _=>False
theorem D8.sm {w:Addr} {x:V} (h:D8 p w H x) (s:Sm p w H H'):D8 p w H' x:=by
 cases x with
 | ref a=>
  obtain ⟨h1,h2,h3⟩:=h
  refine ⟨h1,h2,?_⟩
  rcases h3 with ⟨xs,e⟩ | ⟨xs,e⟩ | ⟨xs,e⟩
  ·exact .inl ⟨xs,s _ _ e h1 h2⟩
  ·exact .inr (.inl ⟨xs,s _ _ e h1 h2⟩)
  ·exact .inr (.inr ⟨xs,s _ _ e h1 h2⟩)
 | _=>exact h
structure Ab (p w:Addr) (t:Nat) (H:Hp) (xs:List V):Prop where
 LF:AV H p w t
 all:∀ x∈xs,D8 p w H x
section
variable {w:Addr} {t u:Nat} {xs ys:List V}
theorem Ab.sm (g:Ab p w t H xs) (hp:AV H' p w u) (s:Sm p w H H'):Ab p w u H' xs:=⟨hp,fun x hx=>(g.all x hx).sm s⟩
theorem Ab.upd {q:Addr} {o:HO} (g:Ab p w t H xs) (h:H q=none):Ab p w t (upd H q o) xs:=g.sm (g.LF.same (aa.upd h o)) (aa.upd h o).sm
theorem Ab.add {x:V} (g:Ab p w t H xs) (h:D8 p w H x):Ab p w t H (x::xs):=⟨g.LF,fun y hy=>by
 rcases Qp.mp hy with e | hy
 ·rw [e];exact h
 ·exact g.all y hy⟩
end
section
variable {p pos:Pos} {es:List Expr} {t:TA}
theorem bM {r:List V->Hp->VK->Prop} (hc:jp X (.type T) r) (hg:Gl X x) (hm:X.mg x=none) (hv:bootBuiltins x=some (.type T)) (ha:SA X (e::es) t) (hn:x≠"__name__":=by decide) (nj:(x==("__debug__":Str))=false:=by decide)
  (he:starEach (e::es) X.env=(false,eval e X.env)::starEach es X.env:=by rfl) (h_:(backTo pos (starEach es X.env)).any (·.1)=false:=by rfl):SE X (.Call (.Name x p) (e::es) [] pos) (BB r t):=⟨yQ hc hg hm hv ha.h hn nj he h_⟩
def LG (K:Q0):List V->Hp->VK->Prop:=fun xs H Q=>∃ p ys,xs=[.ref p]/\((aj K H p ys/\∀ l,H l=none->Q (.ref l) (upd H l (.tup ys)))\/(af K H p ys/\Q (.ref p) H))
def HR (K:Q0):List V->Hp->VK->Prop:=fun xs H Q=>∃ p ys,xs=[.ref p]/\(aj K H p ys\/af K H p ys)/\∀ l,H l=none->Q (.ref l) (upd H l (.lst ys))
theorem cV (K:Q0) (h:X.K=K:=by rfl):jp X (.type "tuple") (LG K):=by subst h;exact nH
theorem o7 (K:Q0) (h:X.K=K:=by rfl):jp X (.type "list") (HR K):=by subst h;exact pJ
end
mutual
inductive vc (H:Hp):V->PyData->Prop
 | ai:vc H .ai .none
 | bl (b:Bool):vc H (.bl b) (.bool b)
 | int (i:Int):vc H (.int i) (.int i)
 | str (z:Str):vc H (.str z) (.str z)
 | tup {a:Addr} {xs:List V} {ds:List PyData}:H a=some (.tup xs)->vd H xs ds->vc H (.ref a) (.tuple ds)
 | lst {a:Addr} {xs:List V} {ds:List PyData}:H a=some (.lst xs)->vd H xs ds->vc H (.ref a) (.list ds)
inductive vd (H:Hp):List V->List PyData->Prop
 | nil:vd H [] []
 | cons {x:V} {d:PyData} {xs:List V} {ds:List PyData}:vc H x d->vd H xs ds->vd H (x::xs) (d::ds)
end
mutual
theorem vc.same {H H':Hp} (s:aa H H'):∀ {x:V} {d:PyData},vc H x d->vc H' x d
 | _,_,.ai=>.ai
 | _,_,.bl b=>.bl b
 | _,_,.int i=>.int i
 | _,_,.str z=>.str z
 | _,_,.tup e r=>.tup (s _ _ e) (vd.same s r)
 | _,_,.lst e r=>.lst (s _ _ e) (vd.same s r)
theorem vd.same {H H':Hp} (s:aa H H'):∀ {xs:List V} {ds:List PyData},vd H xs ds->vd H' xs ds
 | _,_,.nil=>.nil
 | _,_,.cons a r=>.cons (vc.same s a) (vd.same s r)
end
mutual
theorem yY {P:Program} {w:World} {H:Hp} {h:Heap} (ok:fm P w H h):∀ {x:V} {d:PyData} {u:Value},vc H x d->RelV x u->∃ as,Reads h u d as
 | _,_,_,.ai,r=>by cases (show _=Value.none from r);exact ⟨[],.none⟩
 | _,_,_,.bl b,r=>by cases (show _=Value.bool b from r);exact ⟨[],.bool b⟩
 | _,_,_,.int i,r=>by obtain ⟨t,rfl⟩:=(show ∃ t,_=Value.int i t from r);exact ⟨[],.int i t⟩
 | _,_,_,.str z,r=>by obtain ⟨t,rfl⟩:=(show ∃ t,_=Value.str z t from r);exact ⟨[],.str z t⟩
 | _,_,_,.tup (a:=a) (xs:=xs) e l,r=>by
  cases (show _=Value.ref a from r)
  obtain ⟨_,its,rv,o,ho,hc,n,hd⟩:=(show cz P w H h a (.tup xs) from ok a _ e)
  obtain ⟨as,ra⟩:=i7 ok l rv
  exact ⟨as,.tuple ho hc hd (by simpa using ra)⟩
 | _,_,_,.lst (a:=a) (xs:=xs) e l,r=>by
  cases (show _=Value.ref a from r)
  obtain ⟨_,its,n,rv,ho⟩:=(show cz P w H h a (.lst xs) from ok a _ e)
  obtain ⟨as,ra⟩:=i7 ok l rv
  exact ⟨a::as,.list ho rfl rfl (by simpa using ra)⟩
theorem i7 {P:Program} {w:World} {H:Hp} {h:Heap} (ok:fm P w H h):∀ {xs:List V} {ds:List PyData} {us:List Value},vd H xs ds->bg xs us->∃ as,ReadsAll h us ds as
 | _,_,_,.nil,.nil=>⟨[],.nil⟩
 | _,_,_,.cons a l,.cons r rs=>by
  obtain ⟨as,ra⟩:=yY ok a r
  obtain ⟨bs,rb⟩:=i7 ok l rs
  exact ⟨as++bs,.cons ra rb⟩
end
def FP (n:Bool):R2:=fun x y H Q=>match x,y with
 | .bl a,.bl b=>Q (.bl (n^^(a==b))) H
 | x,.ai=>Q (.bl (n^^decide (x=.ai))) H
 | _,_=>False
theorem pC:cu X (compareOp .Is) (FP false):=by
 intro pins s σ H x y v u Q I rx ry h
 cases y with
 | ai=>exact RZ pins s σ H _ _ v u Q I rx ry ⟨rfl,by cases x<;>simpa [FP] using h⟩
 | bl b=>
  cases x with
  | bl a=>
   cases rx;cases ry
   exact is_bool (bB I h (by cases a<;>cases b<;>rfl))
  | _=>exact (show False from h).elim
 | _=>cases x<;>exact (show False from h).elim
theorem wJ:cu X (compareOp .IsNot) (FP true):=by
 intro pins s σ H x y v u Q I rx ry h
 cases y with
 | ai=>exact R0 pins s σ H _ _ v u Q I rx ry ⟨rfl,by cases x<;>simpa [FP] using h⟩
 | bl b=>
  cases x with
  | bl a=>
   cases rx;cases ry
   exact isnot_bool (bB I h (by cases a<;>cases b<;>rfl))
  | _=>exact (show False from h).elim
 | _=>cases x<;>exact (show False from h).elim
abbrev LH:Str:="abcdefghijklmnopqrstuvwxyz"
abbrev UN:List Str:=["all","none","way","box","pick"]
def UO (c:Nat):Bool:= !(Builtin.Str.occurrences LH ⟨#[c]⟩ 0 LH.length 1).isEmpty
def isName (z:Str):Bool:=decide (1<=z.length)&&decide (z.length<=8)&& !(UN.any fun y=>y==z)&&z.cps.toList.all UO
theorem dC {i j:Str}:(decide (V.str i=V.str j))=(i==j):=by
 by_cases h:i=j
 ·subst h;simp
 ·rw [Qw (fun e=>h (V.str.inj e))]
  exact (beq_eq_false_iff_ne.mpr h).symm
theorem aa.put (s:aa H0 H') (h:H0 p=none):aa H0 (L2.upd H' p o):=fun b u q=>by rw [aF (aR q h)];exact s b u q
theorem aO {u:TS} {D:Ends} (h:te σ H fun x H1=>u D (σ.set i (some x)) H1):zj (zl te (jc i)) u D σ H:=h
theorem oG {v:V} {u:TS} {D:Ends} (h:u D (σ.set i (some v)) H):zj (zl (tC v) (jc i)) u D σ H:=h
theorem dJ {t u:TS} {D:Ends} {rt:VK} {bk ct:St->Hp->Prop} (h:zj t u D σ H):Fo {nx:=zj t u D,rt:=rt,bk:=bk,ct:=ct} σ H:=h
theorem Inv.LJ {T:Addr} (I:Inv X pins σ H s) (hf:∀ b∈ch,qj X pins H b) (k:∀ b o,b ∉ ch->s.heap.get? b=some o->h'.get? b=some o)
  (hT:s.heap.objs.size<=T) (new:cz X.prog X.w (upd H T o) h' T o):Inv X pins σ (upd H T o) {s with heap:=h',toks:=t'}:=by
 have D9:H T=none:=I.hok.fresh hT
 have nT:∀ b ob,s.heap.get? b=some ob->b≠T:=fun b ob e=>Nat.ne_of_lt (Nat.lt_of_lt_of_le (Qz e) hT)
 have wj:∀ b u,H b=some u->b ∉ ch:=fun b u e hb=>by rw [(hf b hb).1] at e;cases e
 refine I.step (g':=s.gens) (d':=s.drawn) (ch:=ch) (fun b hb=>?_) (fun b o _ _ hc e _=>k b o hc e) (fun b o _ _ hc e _=>⟨o.slots,k b o hc e⟩) (fun b o hc e n=>by rw [aF (nT b o e)];exact n)
  (fun b o hc e=>⟨o,k b o hc e⟩) (fun b xs e=>by rw [aF (aR e D9)];exact e) (fun b o u e=>by rw [aF (aR e D9)];exact e) (fun b ps e=>⟨#[],by rw [aF (aR e D9),e];simp⟩) (fun m hm=>?_) (fun b u e=>?_) I.bare
 ·obtain ⟨f0,f1,f2,f3,f4,f5⟩:=hf b hb
  exact ⟨f3,f1,f4,f5⟩
 ·obtain ⟨o,es,ep,ho,r⟩:=hm
  exact ⟨o,es,ep,k _ o (fun z=>(hf _ z).2.1 rfl) ho,r⟩
 ·by_cases hb:b=T
  ·subst hb
   rw [aA] at e;cases e
   exact new
  ·rw [aF hb] at e
   refine (I.hok b u e).stay (fun c v hc q=>k c v ?_ q) (fun c q=>by rw [aF (aR q D9)];exact q) fun c xs q=>q.upd fun u' hu=>aR hu D9
   rcases hc with z | z
   ·rw [z];exact wj b u e
   ·exact wj c _ z
theorem Inv.UP (I:Inv X pins σ H s) (hf:∀ b∈ch,qj X pins H b) (k:∀ b o,b ∉ ch->s.heap.get? b=some o->h'.get? b=some o):Inv X pins σ H {s with heap:=h',toks:=t'}:=by
 have wj:∀ b u,H b=some u->b ∉ ch:=fun b u e hb=>by rw [(hf b hb).1] at e;cases e
 refine I.step (g':=s.gens) (d':=s.drawn) (ch:=ch) (fun b hb=>?_) (fun b o _ _ hc e _=>k b o hc e) (fun b o _ _ hc e _=>⟨o.slots,k b o hc e⟩) (fun b o hc e n=>n)
  (fun b o hc e=>⟨o,k b o hc e⟩) (fun b xs e=>e) (fun b o u e=>e) (fun b ps e=>⟨#[],by rw [e];simp⟩) (fun m hm=>?_) (fun b u e=>?_) I.bare
 ·obtain ⟨f0,f1,f2,f3,f4,f5⟩:=hf b hb
  exact ⟨f3,f1,f4,f5⟩
 ·obtain ⟨o,es,ep,ho,r⟩:=hm
  exact ⟨o,es,ep,k _ o (fun z=>(hf _ z).2.1 rfl) ho,r⟩
 ·refine (I.hok b u e).stay (fun c v hc q=>k c v ?_ q) (fun c q=>q) fun c xs q=>q
  rcases hc with z | z
  ·rw [z];exact wj b u e
  ·exact wj c _ z
abbrev FQ (v1 v2:V):Hp->V->Hp->Prop:=fun H x H'=>∃ T,x=.ref T/\H T=none/\H'=upd H T (.tup [v1,v2])
theorem wM {T:Addr} {v1 v2:V} {u1 u2:Value} (r1:RelV v1 u1) (r2:RelV v2 u2) (e:h.get? T=some {cls:=.type "tuple",data:=.seq #[u1,u2]}):cz P w H h T (.tup [v1,v2]):=
 ⟨⟨show 2<=sizeLine by decide,fun o q=>by rw [e] at q;cases q;rfl⟩,[u1,u2],.cons r1 (.cons r2 .nil),_,e,rfl,_,rfl⟩
theorem qY {l m:Nat} (h1:l < n) (h2:m < n):ZipApart (n+4) (n+2) (n+3) n (n+1) l m:=by
 constructor<;>(show (_:Nat)≠_)<;>omega
def HS (K : Q0) (a b : Addr) : It :=
  ⟨fun i H => ∃ xs ys x y, aj K H a xs /\ aj K H b ys /\ xs[i]? = some x /\ ys[i]? = some y, fun i H x H' => ∃ v1 v2, (∀ xs, aj K H a xs -> xs[i]? = some v1) /\ (∀ ys, aj K H b ys -> ys[i]? = some v2) /\ FQ v1 v2 H x H',
   fun i H => ∃ xs ys, aj K H a xs /\ aj K H b ys /\ (xs.length <= i \/ ys.length <= i)⟩
abbrev UQ (z TI TO i1 i2 a b:Addr) (i:Nat) (h:Heap):Prop:=IsZip h z TI TO .none/\IsPair h TI (.ref i1) (.ref i2)/\(∃ u v,IsPair h TO u v)/\h.IsListIter i1 a i/\h.IsListIter i2 b i
theorem zA {K:Q0} {k:Nat} {pos:Pos} (z TI TO i1 i2 a b:Addr) (D:ZipApart z TI TO i1 i2 a b):Turn P w K (.Tuple Dv k pos) (HS K a b) [z,TI,TO,i1,i2] z (UQ z TI TO i1 i2 a b) where
 mem:=by simp
 obj:=fun i h st c hc=>by
  obtain ⟨hz,xh,⟨u,v,ym⟩,⟨o1,e1,c1,d1⟩,o2,e2,c2,d2⟩:=st
  simp only [Qp,QA,or_false] at hc
  rcases hc with rfl | rfl | rfl | rfl | rfl
  ·exact ⟨_,hz,fun v z=>by have z':Data.fields _=Data.cell v:=z;cases z'⟩
  ·exact ⟨_,xh,fun v z=>by have z':Data.seq _ _=Data.cell v:=z;cases z'⟩
  ·exact ⟨_,ym,fun v z=>by have z':Data.seq _ _=Data.cell v:=z;cases z'⟩
  ·exact ⟨_,e1,fun v z=>by rw [d1] at z;cases z⟩
  ·exact ⟨_,e2,fun v z=>by rw [d2] at z;cases z⟩
 keep:=fun i h h' st k=>by
  obtain ⟨hz,xh,⟨u,v,ym⟩,h1,h2⟩:=st
  exact ⟨k z (by simp) _ hz,k TI (by simp) _ xh,⟨u,v,k TO (by simp) _ ym⟩,h1.at fun o x=>k i1 (by simp) o x,h2.at fun o x=>k i2 (by simp) o x⟩
 item:=by
  intro X hP hw hK hc i pins s σ H E I hf st hg
  subst hP hw hK
  obtain ⟨hz,xh,⟨u0,v0,ym⟩,h1,h2⟩:=st
  obtain ⟨xs,ys,x,y,ve,vf,hx,hy⟩:=hg
  obtain ⟨its,rv,p,BL⟩:=I.list ve
  obtain ⟨its2,BN,p2,FS⟩:=I.list vf
  obtain ⟨u,hu,ru⟩:=rv.get hx
  obtain ⟨u2,UR,US⟩:=BN.get hy
  refine wpAny_pyNext_zip_item D hz xh ym h1 h2 p.isList p2.isList (x:=u) (y:=u2) (by simpa using hu) (by simpa using UR) fun h' a1 a2 a3 a4 a5 a6 hk=>?_
  have I1:Inv X pins σ (upd H s.heap.objs.size (.tup [x,y])) {s with heap:=h',toks:=s.toks}:=I.LJ (t':=s.toks) hf (fun b o hb e=>hk b o (fun z=>hb (by simp [z])) (fun z=>hb (by simp [z])) (fun z=>hb (by simp [z])) (fun z=>hb (by simp [z])) e) (Qy _) (wM ru US a5)
  refine ⟨_,rfl,wpAny_letOwnedTupleGo_zip (s:={s with heap:=h'}) a1 fun D_ UT sb=>?_⟩
  have ay:∀ b∈[z,TI,TO,i1,i2],b≠s.heap.objs.size:=fun c hc z'=>by
   simp only [Qp,QA,or_false] at hc
   obtain ⟨o1,e1,_⟩:=h1
   obtain ⟨o2,e2,_⟩:=h2
   rcases hc with rfl | rfl | rfl | rfl | rfl
   ·exact Nat.ne_of_lt (Qz hz) z'
   ·exact Nat.ne_of_lt (Qz xh) z'
   ·exact Nat.ne_of_lt (Qz ym) z'
   ·exact Nat.ne_of_lt (Qz e1) z'
   ·exact Nat.ne_of_lt (Qz e2) z'
  have LK:∀ b∈[z,TI,TO,i1,i2],qj X pins (upd H s.heap.objs.size (.tup [x,y])) b:=fun b hb=>by
   obtain ⟨f0,f⟩:=hf b hb
   exact ⟨by rw [aF (ay b hb)];exact f0,f⟩
  obtain ⟨f0,f1,f2,f3,f4,f5⟩:=LK z (by simp)
  refine ⟨.ref s.heap.objs.size,_,I1.turned (t':=s.toks) (fun b o hb q=>(sb.2 b hb).trans q) f0 f1 f3 f4 f5,rfl,⟨x,y,fun ys hy=>by rw [I.G_ hy ve];exact hx,fun ys HU=>by rw [I.G_ HU vf];exact hy,_,rfl,I.hok.fresh (Qy _),rfl⟩,?_,fun b hb=>(LK b hb).1⟩
  refine ⟨UT,(sb.2 _ D.TIz).trans (hk _ _ D.TIz D.TITO D.TIi1 D.TIi2 xh),⟨_,_,(sb.2 _ D.TOz).trans a2⟩,a3.at fun o q=>(sb.2 _ D.i1z).trans q,a4.at fun o q=>(sb.2 _ D.i2z).trans q⟩
 done:=by
  intro X hP hw hK hc i pins s σ H E I hf st hg
  subst hP hw hK
  obtain ⟨hz,xh,⟨u0,v0,ym⟩,h1,h2⟩:=st
  obtain ⟨xs,ys,ve,vf,hx⟩:=hg
  obtain ⟨its,rv,p,BL⟩:=I.list ve
  obtain ⟨its2,BN,p2,FS⟩:=I.list vf
  have hl:=rv.length
  have sr:=BN.length
  refine wpAny_pyNext_zip_end (I.ok.hd hc) D hz xh ym h1 h2 p.isList p2.isList ?_ fun h' hk=>⟨rfl,I.UP (t':=s.toks) hf fun b o hb q=>hk b o (fun z=>hb (by simp [z])) (fun z=>hb (by simp [z])) (fun z=>hb (by simp [z])) (fun z=>hb (by simp [z])) q⟩
  rcases hx with hx | hx
  ·exact .inl (by simp;omega)
  ·exact .inr (by simp;omega)
 self:=fun _ _ _ _ _ st h=>wpAny_pyIter_zip st.1 h
section
variable {k:Nat} {By p pos:Pos} {a b:Expr} {ta:TA}
def LL (K:Q0) (ta:TA):TI:=fun σ H R=>ta σ H fun vs H1=>∃ l m xs ys,vs=[.ref l,.ref m]/\aj K H1 l xs/\aj K H1 m ys/\R (HS K l m) H1
theorem UU (hg:Gl X "zip") (hm:X.mg "zip"=none) (ha:PA X [a,b] ta) (hs:starEach [a,b] X.env=[(false,eval a X.env),(false,eval b X.env)]:=by rfl) (zm:starEach [b] X.env=[(false,eval b X.env)]:=by rfl):
  PI X (.Tuple Dv k By) (.Call (.Name "zip" p) [a,b] [] pos) (LL X.K ta):=by
 intro pins s σ H R I h
 refine Call_ (lZ I hg hm boot_zip (PyProof.Rows.callWith_type1 (av (ha pos pins s σ H _ I h) fun us s1 ⟨vs,H1,I1,r1,q1⟩=>?_) (by rw [hs,zm]) (by rw [zm];rfl)))
 obtain ⟨l,m,xs,ys,e,ve,vf,q⟩:=q1
 subst e
 obtain ⟨u1,u2,rfl,FT,UW⟩:=r1.two
 cases FT
 cases UW
 obtain ⟨its,rv,pl,hz⟩:=I1.list ve
 obtain ⟨its2,BN,LM,FS⟩:=I1.list vf
 have l1:l < s1.heap.objs.size:=by obtain ⟨_,e,_⟩:=pl.isList;exact Qz e
 have l2:m < s1.heap.objs.size:=by obtain ⟨_,e,_⟩:=LM.isList;exact Qz e
 refine call_zip_2 pl.isList LM.isList fun h' hz xh ym h1 h2 hsz hk=>wpAny_pyIter_zip hz ?_
 have I2:Inv X pins σ H1 {s1 with heap:=h'}:=I1.kept (t':=s1.toks) hk
 have ne:∀ {x y:Nat},x < y->x≠y:=fun h=>Nat.ne_of_lt h
 have ne':∀ {x y:Nat},y < x->x≠y:=fun h=>Nat.ne_of_gt h
 refine ⟨s1.heap.objs.size+4,[s1.heap.objs.size+4,s1.heap.objs.size+2,s1.heap.objs.size+3,s1.heap.objs.size,s1.heap.objs.size+1],_,_,H1,rfl,I2,zA _ _ _ _ _ l m ?_,⟨hz,xh,⟨_,_,ym⟩,h1,h2⟩,fun b hb=>?_,q⟩
 ·exact qY l1 l2
 ·simp only [Qp,QA,or_false] at hb
  rcases hb with rfl | rfl | rfl | rfl | rfl<;>exact I1.AH (by simp) (I1.hok.fresh (by simp))
theorem UX (K:Q0) (hg:Gl X "zip") (hm:X.mg "zip"=none) (ha:SA X [a,b] ta) (h:X.K=K:=by rfl) (hs:starEach [a,b] X.env=[(false,eval a X.env),(false,eval b X.env)]:=by rfl) (zm:starEach [b] X.env=[(false,eval b X.env)]:=by rfl):
  SI X (.Tuple Dv k By) (.Call (.Name "zip" p) [a,b] [] pos) (LL K ta):=by subst h;exact ⟨UU hg hm ha.h hs zm⟩
end
def FU (J:It) (ok:Hp->Prop) (n:Nat) (f1 f2:Nat->V):Prop:=
 ∀ H,ok H->(∀ i,i < n->J.go i H/\∀ x H',J.qi i H x H'->FQ (f1 i) (f2 i) H x H')/\J.stop n H
theorem UY {K:Q0} (xs ys:List V):FU (HS K a b) (fun H=>aj K H a xs/\aj K H b ys) (min xs.length ys.length) (fun i=>xs.getD i .ai) (fun i=>ys.getD i .ai):=fun H ok=>
 ⟨fun i hi=>⟨⟨xs,ys,xs[i]'(by omega),ys[i]'(by omega),ok.1,ok.2,by simp,by simp⟩,fun x H' ⟨v1,v2,hv1,hv2,y⟩=>by
  have e1:xs.getD i V.ai=v1:=by rw [Qb,hv1 xs ok.1];rfl
  have e2:ys.getD i V.ai=v2:=by rw [Qb,hv2 ys ok.2];rfl
  show FQ (xs.getD i .ai) (ys.getD i .ai) H x H'
  rw [e1,e2];exact y⟩,⟨xs,ys,ok.1,ok.2,by omega⟩⟩
abbrev g2 (K:Q0) (a b:Nat):TG:=zk K 2 (qg (jc a) (qg (jc b) Br))
theorem cC {K:Q0} {a b:Nat} {T:Addr} {v1 v2:V} {Q:St->Hp->Prop} (h:H T=some (.tup [v1,v2])) (q:Q ((σ.set a (some v1)).set b (some v2)) H):g2 K a b (.ref T) σ H Q:=
 ⟨T,_,rfl,af.of h,rfl,_,_,rfl,_,_,rfl,rfl,q⟩
end L2
namespace PySem
theorem mT {o:Obj} {xs:Array Value} {k:Nat} {Q:Option Value->Shared->Prop}
  (hx:s.heap.get? a=some o) (hc:o.cls=.type "tuple") (LN:o.data=.seq xs k) (hd:o.dict=none) (hA:A.handled=none)
  (h:∀ h' tk,(∀ b ob,s.heap.get? b=some ob->h'.get? b=some ob)->Q none {s with heap:=h',toks:=tk}):
  wpAny (model prog w) A (getAttr? (.ref a) "keys") Q E s:=by
 obtain ⟨c,dct,dat,sl⟩:=o
 simp only at hc LN hd
 subst hc LN hd
 obtain ⟨hp,g,d,tk,os⟩:=s
 have hT:∀ FW,(⟨hp,g,d,FW,os⟩:Shared).TypeIs (.ref a) "tuple":=fun _=>⟨_,hx,rfl⟩
 have UZ:typeLookup (.type "tuple") "keys"=pure none:=am_miss_of_fast (by kernel_rfl)
 have f1:=sub_AttributeError
 have f3:=F.slot_tuple_getattribute.lookup
 have f4:=F.slot_tuple_getattribute.bind (.ref a)
 have f5:=am_tuple_getattr_none
 unfold getAttr? getAttrBy? getAttrBy
 repeat (any_goals (first | assumption | exact hT _ | ((with_reducible show wpAny _ _ (call (Value.builtin "tuple.__getattribute__") _ _) _ _ _);refine call_meets F.slot_tuple_getattribute (hT _) am_entry_tuple_getattribute (F.args_tuple_getattribute_2 _ _) (meets_getattribute_miss_tuple a xs k sl _ _ UZ (by decide) (by decide)) ⟨hx,hA,fun h' FW e hx'=>?_⟩) | wp_step))
 obtain ⟨t',u',he⟩:=hx'.there
 show wpAny _ _ (getattributeRaised _ _ _ _ _ _ _) _ _ _
 unfold getattributeRaised
 repeat (any_goals (first | assumption | wp_step))
 exact h _ _ hx'.keeps
end PySem
namespace PySem.F
theorem LO:entryFor table "dict.update.loop"=some Builtin.«dict.update.loop»:=entryFor_of_tree (by kernel_rfl)
theorem FY:plainId "dict.update.loop"=true:=by decide+kernel
end PySem.F
namespace L2
open PySem PySem.Spec PyProof.Rows
def iw (H:Hp) (ys:List V) (rs:List (Key×V)):Prop:=ys.length=rs.length/\∀ i (h:i < rs.length),∃ b,ys[i]? =some (.ref b)/\H b=some (.tup [kV rs[i].1,rs[i].2])
def dictOf (rs:List (Key×V)):List (Key×V):=rs.foldl (fun kvs r=>putK kvs r.1 r.2) []
theorem rY (rs:List (Key×V)):∀ kvs:List (Key×V),(rs.foldl (fun kvs r=>putK kvs r.1 r.2) kvs).length<=kvs.length+rs.length:=by
 induction rs with
 | nil=>intro kvs;exact Qy _
 | cons r rs ih=>
  intro kvs
  have h1:=ih (putK kvs r.1 r.2)
  have h2:=cX kvs r.1 r.2
  rw [List.foldl_cons,List.length_cons]
  omega
theorem j4 (rs:List (Key×V)):(dictOf rs).length<=rs.length:=by have:=rY rs [];simpa [dictOf] using this
theorem l7 (rs:List (Key×V)) (i:Nat) (h:i < rs.length):dictOf (rs.take (i+1))=putK (dictOf (rs.take i)) rs[i].1 rs[i].2:=by
 unfold dictOf
 rw [Qs,Qa h,Option.toList_some,List.foldl_append];rfl
theorem uN {d it:Addr} {ys:List V} {rs:List (Key×V)} (hA:A.handled=none) (hH:H d=none) (fc:rs.length<=sizeLine) (hp:iw H ys rs) (ha:H a=some (.tup ys)) (hit:it≠d)
  (hR:∀ s,Inv X pins σ (upd H d (.dK (dictOf rs))) s->R (.ok (.ret .none)) s):
  ∀ (k i:Nat) (s:Shared),rs.length - i=k->i<=rs.length->Inv X pins σ (upd H d (.dK (dictOf (rs.take i)))) s->s.heap.IsTupleIter it a i->qj X pins (upd H d (.dK (dictOf (rs.take i)))) it->
   codeAny (model X.prog X.w) A (.builtin "dict.update.loop" ⟨[.ref d,.ref it,rawInt i,.none],[]⟩) R s:=by
 have Ea:a≠d:=aR ha hH
 intro k
 induction k with
 | zero=>
  intro i s hk hi I st f
  have gm:i=rs.length:=by omega
  subst gm
  refine codeAny_builtin F.LO ?_
  rw [Around.under_plainId F.FY _]
  show wpAny _ A.in1 (pyNext (.ref it) >>=_) _ _ s
  obtain ⟨its,rv,p,hz⟩:=I.tuple (af.of (by rw [aF Ea];exact ha))
  have hl:=rv.length
  have sr:=hp.1
  obtain ⟨f0,f1,f2,f3,f4,f5⟩:=f
  refine QT (wpAny_pyNext_tuple_end (by simp [hA]) st (show s.heap.IsTuple a its.toArray from p) (by simp;omega) fun h' eb=>?_)
  have I1:=I.turned (t':=s.toks) (h':=h') (fun b o hb e=>eb b o hb e) f0 f1 f3 f4 f5
  rw [Qo] at I1
  show wpAny _ _ (Builtin.Dict.addKeywords d [] >>=fun _=>ret .none) _ _ _
  exact QT (QU (QU (hR _ I1)))
 | succ k ih=>
  intro i s hk hi I st f
  have ay:i < rs.length:=by omega
  refine codeAny_builtin F.LO ?_
  rw [Around.under_plainId F.FY _]
  show wpAny _ A.in1 (pyNext (.ref it) >>=_) _ _ s
  obtain ⟨its,rv,p,hz⟩:=I.tuple (af.of (by rw [aF Ea];exact ha))
  obtain ⟨b,hb1,uo⟩:=hp.2 i ay
  obtain ⟨u,hu,ru⟩:=rv.get hb1
  cases ru
  obtain ⟨f0,f1,f2,f3,f4,f5⟩:=id f
  refine QT (wpAny_pyNext_tuple_item st (show s.heap.IsTuple a its.toArray from p) (x:=.ref b) (by simpa using hu) fun h' st' sb=>?_)
  have I1:Inv X pins σ (upd H d (.dK (dictOf (rs.take i)))) {s with heap:=h'}:=I.turned (t':=s.toks) (fun b o hb e=>(sb.2 b hb).trans e) f0 f1 f3 f4 f5
  have U0:b≠d:=aR uo hH
  obtain ⟨its2,BN,⟨ob,ho,hc,n,hd2⟩,FS⟩:=I1.tuple (af.of (a:=b) (by rw [aF U0];exact uo))
  obtain ⟨u1,u2,rfl,r1,r2⟩:=BN.two
  show wpAny _ A.in1 (holding [Value.ref b] _ >>=_) _ _ _
  refine QT (wpAny_holding (QT (wpAny_tryCatch ?_)))
  unfold Builtin.Dict.pairItems
  refine QT (wpAny_typeOf (T:="tuple") ⟨ob,ho,hc⟩ ?_)
  rw [if_pos (by decide)]
  refine QT (wpAny_seqItems ho hd2 (QU ?_))
  show wpAny _ A.in1 (holding [u1,u2] (dictSet d u1 u2)) _ _ _
  refine wpAny_holding ?_
  obtain ⟨z,hd,vs,rel,dd⟩:=Hv I1.hok (aA:upd H d (.dK (dictOf (rs.take i))) d=_)
  have jl:=j4 (rs.take i)
  rw [List.length_take] at jl
  have hl1:(dictOf (rs.take i)).length < sizeLine:=by omega
  have BL:vs.length<=sizeLine:=by rw [<- rel.length];exact z
  have U1:(putK (dictOf (rs.take i)) rs[i].1 rs[i].2).length<=sizeLine:=by have:=cX (dictOf (rs.take i)) rs[i].1 rs[i].2;omega
  refine wpAny_dictSet_pairs (hsz:=BL) (kS r1) dd fun h2 ow hs=>?_
  have HQ:∃ q,h2.get? d=some q:=let ⟨q,_,_,hq,_⟩:=ow;⟨q,hq⟩
  have CH:=jV (t':=s.toks+1) (ob:=.dK (putK (dictOf (rs.take i)) rs[i].1 rs[i].2)) I1 (by rw [aA];exact True.intro) hs HQ (uZ U1 hd (rel.put _ r2) ow)
  rw [lM,<- l7 rs i ay] at CH
  refine QU ⟨plainId_quiet F.FY _,?_⟩
  exact ih (i+1) _ (by omega) ay CH (st'.at fun o q=>(hs.2 it hit).trans q) ⟨by rw [aF hit] at f0 ⊢;exact f0,f1,f2,f3,f4,f5⟩
def U3:List V->Hp->VK->Prop:=fun xs H Q=>∃ a ys rs,xs=[.ref a]/\H a=some (.tup ys)/\iw H ys rs/\rs.length<=sizeLine/\∀ d,H d=none->Q (.ref d) (upd H d (.dK (dictOf rs)))
theorem eG (hc:X.calm=true):jp X (.type "dict") U3:=by
 intro pins s σ H xs us Q I r h
 obtain ⟨a,ys,rs,rfl,ha,hp,hl,q⟩:=h
 obtain ⟨u,rfl,ru⟩:=r.one
 cases ru
 refine callType_codes (Q₁:=fun obj s₁=>obj=.ref s.heap.objs.size/\s₁={s with heap:=s.heap.push {cls:=.type "dict",data:=.dict #[]}}) F.kt_called_dict (F.kt_typeCall_dict_1 _) F.entry_dict_init (kt_code_dict_new _ ⟨rfl,rfl⟩) ?_
 rintro obj s₁ ⟨rfl,rfl⟩
 have fr:H s.heap.objs.size=none:=I.hok.fresh (Qy _)
 have hnew:(s.heap.push {cls:=.type "dict",data:=.dict #[]}).DictOf (bx X.prog X.w) s.heap.objs.size []:=Heap.DictOf.new s.heap
 have I1:Inv X pins σ (upd H s.heap.objs.size (.dK [])) {s with heap:=s.heap.push {cls:=.type "dict",data:=.dict #[]}}:=I.laid (t':=s.toks) (fun b u e=>Qc _ e) (Qy _)
  ⟨Nat.zero_le _,beq_eq_false_iff_ne.mpr (Ne.symm (Nat.ne_of_lt I.big)),[],.nil,hnew⟩
 have Ea:a≠s.heap.objs.size:=aR ha fr
 obtain ⟨⟨z,nd⟩,its,rv,o,ho,nq,n,hd⟩:=(show cz X.prog X.w _ _ a (.tup ys) from I1.hok a _ (by rw [aF Ea];exact ha))
 refine ⟨hnew.typeIs,F.args_dict_init_2 _ _,?_⟩
 unfold Builtin.«dict.__init__»
 refine QT ?_
 unfold Builtin.Dict.selfAndRest
 refine QT (wpAny_notOrdered_dict hnew.typeIs ?_)
 show wpAny _ _ (pure (s.heap.objs.size,[Value.ref a])) _ _ _
 refine QU ?_
 show wpAny _ _ (Builtin.Dict.updateFrom "dict.__init__" s.heap.objs.size (.ref a) [] .none) _ _ _
 unfold Builtin.Dict.updateFrom
 refine QT (wpAny_typeOf (T:="tuple") ⟨o,ho,nq⟩ ?_)
 rw [if_pos (by decide)]
 have hh:X.A.handled=none:=I.ok.hd hc
 refine QT (mT ho nq hd (nd _ ho) (by simp [hh]) fun h' tk hk=>?_)
 rw [if_pos (by rfl)]
 refine QT (wpAny_rule ?_)
 have I2:Inv X pins σ (upd H s.heap.objs.size (.dK [])) {s with heap:=h',toks:=tk}:=I1.kept (t':=tk) hk
 obtain ⟨its2,BN,p2,FS⟩:=I2.tuple (af.of (a:=a) (xs:=ys) (by rw [aF Ea];exact ha))
 refine QT (wpAny_pyIter_tuple (show Heap.IsTuple h' a its2.toArray from p2) ?_)
 have hsz:s.heap.objs.size < h'.objs.size:=by
  obtain ⟨_,_,_,e,_⟩:=hnew
  exact Qz (hk _ _ e)
 refine QU ⟨plainId_quiet F.FY _,?_⟩
 refine uN (X:=X) (pins:=pins) (σ:=σ) (by simp [hh]) fr hl hp ha (Nat.ne_of_gt hsz) (fun s' I'=>⟨rfl,.ref s.heap.objs.size,_,I',rfl,q _ fr⟩) rs.length 0 _ rfl (Nat.zero_le _) (I2.kept (t':=tk) fun b o e=>Qc _ e) ⟨_,Qd _ rfl,rfl,rfl⟩ (I2.AH (Qy _) (I2.hok.fresh (Qy _)))
def Tk (H H':Hp):Prop:=∀ b xs,H b=some (.tup xs)->H' b=some (.tup xs)
theorem Tk.refl:Tk H H:=fun _ _ h=>h
theorem Tk.trans {H1 H2:Hp} (a:Tk H H1) (b:Tk H1 H2):Tk H H2:=fun c xs h=>b c xs (a c xs h)
theorem aa.ts (s:aa H H'):Tk H H':=fun b xs h=>s b _ h
theorem Tk.upd {H H':Hp} {a:Addr} {o:HO} (s:Tk H H') (h:H' a=none):Tk H (L2.upd H' a o):=fun b xs e=>by rw [aF (aR (s b xs e) h)];exact s b xs e
theorem Tk.set {o':HO} (s:Tk H H') (h:H' a=some o) (hn:∀ xs,o≠.tup xs):Tk H (L2.upd H' a o'):=fun b xs e=>by
 rw [aF (fun z=>by rw [z] at e;have:=s a xs e;rw [h] at this;cases this;exact hn _ rfl)];exact s b xs e
inductive Ac (H:Hp):V->PyData->Prop
 | str (z:Str):Ac H (.str z) (.str z)
 | tup {a:Addr} {xs:List V} {ds:List PyData}:H a=some (.tup xs)->xs.length=ds.length->(∀ i (h:i < xs.length) (h':i < ds.length),Ac H xs[i] ds[i])->Ac H (.ref a) (.tuple ds)
theorem Ac.ts (s:Tk H H') {v:V} {d:PyData} (h:Ac H v d):Ac H' v d:=by
 induction h with
 | str z=>exact .str z
 | tup e hl _ ih=>exact .tup (s _ _ e) hl ih
theorem i6:∀ {ds:List PyData},(∀ d∈ds,d.showable=true)->PyData.showableAll ds=true
 | [],_=>by simp [PyData.showableAll]
 | d::ds,h=>by simp [PyData.showableAll,h d List.mem_cons_self,i6 fun x hx=>h x (Qh _ hx)]
theorem iW:∀ {ds:List PyData},(∀ d∈ds,d.hasDict=false)->PyData.hasDictAll ds=false
 | [],_=>by simp [PyData.hasDictAll]
 | d::ds,h=>by simp [PyData.hasDictAll,h d List.mem_cons_self,iW fun x hx=>h x (Qh _ hx)]
theorem kU {k:Nat}:∀ {ds:List PyData},(∀ d∈ds,d.depth<=k)->PyData.depthAll ds<=k
 | [],_=>by simp [PyData.depthAll]
 | d::ds,h=>by
  have h1:=h d List.mem_cons_self
  have h2:=kU (ds:=ds) fun x hx=>h x (Qh _ hx)
  simp [PyData.depthAll];omega
theorem zM {n:Nat}:∀ {ts:List Str},(∀ t∈ts,t.length<=n)->(ts.map (·.length)).sum<=ts.length*n
 | [],_=>by simp
 | t::ts,h=>by
  have h1:=h t List.mem_cons_self
  have h2:=zM (ts:=ts) fun x hx=>h x (Qh _ hx)
  rw [List.map_cons,List.sum_cons,List.length_cons,Nat.add_mul];omega
def TB (H:Hp) (v:V) (k n:Nat):Prop:=∃ d,Ac H v d/\d.depth<=k/\d.shown.length<=n/\d.showable=true/\d.hasDict=false
def Wd (z:Str):Prop:=z.length<=20/\∀ c∈z.cps.toList,c < 128
theorem TB.mono {v:V} {k k' n':Nat} (h:TB H v k n) (hk:k<=k') (hn:n<=n'):TB H v k' n':=by
 obtain ⟨d,h1,h2,h3,h4,h5⟩:=h
 exact ⟨d,h1,by omega,by omega,h4,h5⟩
theorem TB.ts {H H':Hp} (s:Tk H H') {v:V} {k n:Nat} (h:TB H v k n):TB H' v k n:=by
 obtain ⟨d,h1,h2⟩:=h
 exact ⟨d,h1.ts s,h2⟩
theorem TB.str {H:Hp} {z:Str} (h:Wd z):TB H (.str z) 0 202:=by
 refine ⟨.str z,.str z,by simp [PyData.depth],?_,by simp [PyData.showable],by simp [PyData.hasDict]⟩
 show (PyData.str z).shown.length<=202
 simp only [PyData.shown]
 have:=StrLaws.reprText_len z (fun c hc=>Nat.lt_of_lt_of_le (h.2 c hc) (by decide))
 have:=h.1
 omega
theorem TB.tup {H:Hp} {a:Addr} {xs:List V} {k n:Nat} (e:H a=some (.tup xs)) (h:∀ x∈xs,TB H x k n):TB H (.ref a) (k+1) (xs.length*(n+2)+3):=by
 have hc:∀ i:Fin xs.length,∃ d,Ac H xs[i.val] d/\d.depth<=k/\d.shown.length<=n/\d.showable=true/\d.hasDict=false:=fun i=>h _ (Qj i.isLt)
 obtain ⟨f,hf⟩:=Classical.axiomOfChoice hc
 have hm:∀ d∈List.ofFn f,d.depth<=k/\d.shown.length<=n/\d.showable=true/\d.hasDict=false:=fun d hd=>by
  obtain ⟨i,rfl⟩:=List.mem_ofFn.mp hd
  exact (hf i).2
 refine ⟨.tuple (List.ofFn f),.tup e (by simp) fun i h1 h2=>?_,?_,?_,?_,?_⟩
 ·have:=(hf ⟨i,h1⟩).1
  simpa using this
 ·simp only [PyData.depth]
  have:=kU (fun d hd=>(hm d hd).1)
  omega
 ·simp only [PyData.shown]
  have h1:=tupleText_len_le (PyData.shownAll (List.ofFn f))
  have e2:PyData.shownAll (List.ofFn f)=(List.ofFn f).map PyData.shown:=shownAll_eq_map _
  have h2:((PyData.shownAll (List.ofFn f)).map (·.length)).sum<=(PyData.shownAll (List.ofFn f)).length*n:=zM fun t ht=>by
   rw [e2] at ht
   obtain ⟨d,hd,rfl⟩:=List.mem_map.mp ht
   exact (hm d hd).2.1
  have h3:(PyData.shownAll (List.ofFn f)).length=xs.length:=by rw [e2];simp
  rw [h3] at h1 h2
  rw [Nat.mul_add];omega
 ·simp only [PyData.showable]
  exact i6 fun d hd=>(hm d hd).2.2.1
 ·simp only [PyData.hasDict]
  exact iW fun d hd=>(hm d hd).2.2.2
theorem l6 (rs:List (Key×V)):(rs.map (·.1)).Nodup->∀ i (h:i < rs.length),cg (dictOf rs) rs[i].1=some rs[i].2:=by
 have gen:∀ (rs:List (Key×V)) (kvs:List (Key×V)),(rs.map (·.1)).Nodup->∀ k,cg (rs.foldl (fun kvs r=>putK kvs r.1 r.2) kvs) k=((rs.find? fun r=>decide (r.1=k)).map (·.2)).or (cg kvs k):=by
  intro rs
  induction rs with
  | nil=>intro kvs _ k;simp
  | cons r rs ih=>
   intro kvs hn k
   rw [List.map_cons,List.nodup_cons] at hn
   rw [List.foldl_cons,ih _ hn.2,Ti]
   by_cases e:r.1=k
   ·have:rs.find? (fun r=>decide (r.1=k))=none:=by
     rw [List.find?_eq_none]
     intro x hx z
     have z':=Qt z
     exact hn.1 (List.mem_map.mpr ⟨x,hx,by rw [z',e]⟩)
    rw [this,List.find?_cons,if_pos e.symm]
    simp [e]
   ·rw [if_neg (fun z=>e z.symm),List.find?_cons]
    simp [e]
 intro hn i h
 unfold dictOf
 rw [gen rs [] hn]
 have:rs.find? (fun r=>decide (r.1=rs[i].1))=some rs[i]:=by
  rw [List.find?_eq_some_iff_getElem]
  refine ⟨by simp,i,h,rfl,fun j hj=>?_⟩
  have ii:(rs.map (·.1))[j]'(by simp;omega)≠(rs.map (·.1))[i]'(by simpa using h):=fun z=>by
   exact (List.pairwise_iff_getElem.mp hn j i (by simp;omega) (by simpa using h) hj) z
  simpa using ii
 rw [this];rfl
abbrev bj (rs:List (Str×V)):List (Key×V):=rs.map fun r=>(Sum.inr r.1,r.2)
def BO (H:Hp) (v:V) (o:Option Str):Prop:=∃ b,v=.ref b/\((∃ s ys,H b=some (.tup (.str s::ys))/\s≠"as"/\o=none)\/∃ x,H b=some (.tup [.str "as",.str x])/\o=some x)
theorem BO.ts (s:Tk H H') {v:V} {o:Option Str} (h:BO H v o):BO H' v o:=by
 obtain ⟨b,e,h⟩:=h
 refine ⟨b,e,?_⟩
 rcases h with ⟨z,ys,h1,h2⟩ | ⟨x,h1,h2⟩
 ·exact .inl ⟨z,ys,s _ _ h1,h2⟩
 ·exact .inr ⟨x,s _ _ h1,h2⟩
structure o_ (H:Hp) (a:Addr) (xs:List V) (rs:List (Str×V)) (nx:Str->Option Str) (ρ:Str->Nat):Prop where
 at_:H a=some (.tup xs)
 ps:iw H xs (bj rs)
 nd:(rs.map (·.1)).Nodup
 len:rs.length<=300
 pos:0 < rs.length
 as:∀ r∈rs,BO H r.2 (nx r.1)
 BP:∀ r∈rs,∀ y,nx r.1=some y->y∈rs.map (·.1)/\ρ y < ρ r.1
 rk:∀ r∈rs,ρ r.1<=rs.length
 tb:∀ r∈rs,Wd r.1/\TB H r.2 3 8273
theorem iw.ts {ys:List V} {rs:List (Key×V)} (p:iw H ys rs) (s:Tk H H'):iw H' ys rs:=⟨p.1,fun i h=>let ⟨b,e1,e2⟩:=p.2 i h;⟨b,e1,s _ _ e2⟩⟩
section
variable {xs:List V} {rs:List (Str×V)} {nx:Str->Option Str} {ρ:Str->Nat}
theorem o_.ts (g:o_ H a xs rs nx ρ) (s:Tk H H'):o_ H' a xs rs nx ρ:=
 ⟨s _ _ g.at_,g.ps.ts s,g.nd,g.len,g.pos,fun r hr=>(g.as r hr).ts s,g.BP,g.rk,fun r hr=>⟨(g.tb r hr).1,(g.tb r hr).2.ts s⟩⟩
theorem lR (h:(rs.map (·.1)).Nodup):((bj rs).map (·.1)).Nodup:=by
 have e:(bj rs).map (·.1)=(rs.map (·.1)).map (Sum.inr:Str->Key):=by simp [bj,Qn,QB]
 rw [e]
 exact List.Pairwise.map _ (fun a b lj z=>lj (Sum.inr.inj z)) h
theorem o_.get (g:o_ H a xs rs nx ρ) (hx:x∈rs.map (·.1)):∃ v,(x,v)∈rs/\cg (dictOf (bj rs)) (.inr x)=some v:=by
 obtain ⟨r,hr,rfl⟩:=List.mem_map.mp hx
 obtain ⟨i,hi,rfl⟩:=Qi hr
 refine ⟨rs[i].2,hr,?_⟩
 have:=l6 (bj rs) (lR g.nd) i (by simpa using hi)
 simpa using this
def BQ (nx:Str->Option Str) (x:Str):Str:=(nx x).getD x
def xj (nx:Str->Option Str):Nat->Str->Str
 | 0,x=>x
 | n+1,x=>xj nx n (BQ nx x)
theorem dM (n:Nat) (h:nx x=none):xj nx n x=x:=by
 induction n with
 | zero=>rfl
 | succ n ih=>rw [xj];rw [show BQ nx x=x by simp [BQ,h]];exact ih
theorem o_.run (g:o_ H a xs rs nx ρ):∀ (n:Nat) (x:Str),x∈rs.map (·.1)->ρ x<=n->xj nx n x∈rs.map (·.1)/\nx (xj nx n x)=none/\xj nx (n+1) x=xj nx n x:=by
 intro n
 induction n with
 | zero=>
  intro x hx hr
  obtain ⟨r,ia,rfl⟩:=List.mem_map.mp hx
  cases e:nx r.1 with
  | none=>exact ⟨hx,e,dM 1 e⟩
  | some y=>have:=(g.BP r ia y e).2;omega
 | succ n ih=>
  intro x hx hr
  obtain ⟨r,ia,rfl⟩:=List.mem_map.mp hx
  cases e:nx r.1 with
  | none=>
   rw [dM _ e,dM _ e]
   exact ⟨hx,e,rfl⟩
  | some y=>
   have e2:BQ nx r.1=y:=by simp [BQ,e]
   obtain ⟨h1,h2⟩:=g.BP r ia y e
   have:=ih y h1 (by omega)
   rw [xj,xj,e2]
   exact this
def fg (nx:Str->Option Str) (n:Nat) (x:Str):Str:=xj nx n x
theorem o_.BR (g:o_ H a xs rs nx ρ) (hx:x∈rs.map (·.1)):fg nx rs.length x∈rs.map (·.1)/\nx (fg nx rs.length x)=none:=by
 obtain ⟨r,hr,rfl⟩:=List.mem_map.mp hx
 obtain ⟨h1,h2,_⟩:=g.run rs.length r.1 hx (g.rk r hr)
 exact ⟨h1,h2⟩
theorem o_.LP (g:o_ H a xs rs nx ρ) {y:Str} (hx:x∈rs.map (·.1)) (e:nx x=some y):fg nx rs.length y=fg nx rs.length x:=by
 obtain ⟨r,hr,rfl⟩:=List.mem_map.mp hx
 obtain ⟨h1,h2,h3⟩:=g.run rs.length r.1 hx (g.rk r hr)
 have e2:BQ nx r.1=y:=by simp [BQ,e]
 rw [xj,e2] at h3
 exact h3
end
theorem jO (xs:List V) (k:Nat):ou xs (some (k:Int)) none=xs.drop k:=by
 unfold ou
 rw [HT.gG,HT.qZ]
 by_cases h:k<=xs.length
 ·rw [Nat.min_eq_left h]
  exact List.take_of_length_le (by simp)
 ·rw [Nat.min_eq_right (by omega)]
  simp [List.drop_eq_nil_of_le (show xs.length<=k by omega)]
theorem pD (xs:List V) (k:Nat):ou xs none (some (k:Int))=xs.take k:=by
 unfold ou
 rw [HT.gG,HT.qZ]
 simp
theorem xK {l:List α} (h:l.Nodup) {x:α} (hi:l[i]? =some x) (hj:l[j]? =some x):i=j:=by
 obtain ⟨a,e1⟩:=List.getElem?_eq_some_iff.mp hi
 obtain ⟨b,e2⟩:=List.getElem?_eq_some_iff.mp hj
 rcases Nat.lt_trichotomy i j with z | z | z
 ·exact ((List.pairwise_iff_getElem.mp h i j a b z) (e1.trans e2.symm)).elim
 ·exact z
 ·exact ((List.pairwise_iff_getElem.mp h j i b a z) (e2.trans e1.symm)).elim
theorem oF [BEq α] [LawfulBEq α] {l:List α} (h:l.Nodup) {x:α} (hi:l[i]? =some x):l.idxOf x=i:=by
 have hm:x∈l:=QC hi
 have h1:l.idxOf x < l.length:=List.idxOf_lt_length_of_mem hm
 have h2:l[l.idxOf x]? =some x:=by rw [Qa h1,List.getElem_idxOf]
 exact xK h h2 hi
open Classical in
theorem g9 (h1:z.length<=20) (h2:∀ c∈z.cps.toList,c < 128):Wd z:=⟨h1,h2⟩
section
variable {β:Type} {R:α->β->Prop}
theorem n6:∀ {xs xs':List α} {ys HW:List β},Paired R xs ys->Paired R xs' HW->Paired R (xs++xs') (ys++HW)
 | _,_,_,_,.nil,h=>h
 | _,_,_,_,.cons a r,h=>.cons a (n6 r h)
theorem LQ:∀ {xs:List α} {ys:List β},xs.length=ys.length->(∀ i (h:i < xs.length) (h':i < ys.length),R xs[i] ys[i])->Paired R xs ys
 | [],[],_,_=>.nil
 | x::xs,y::ys,hl,h=>.cons (h 0 (by simp) (by simp)) (LQ (by simpa using hl) fun i a b=>h (i+1) (by simpa using a) (by simpa using b))
theorem vK:∀ {xs:List α} {ys:List β},Paired R xs ys->xs.length=ys.length/\∀ i (h:i < xs.length) (h':i < ys.length),R xs[i] ys[i]
 | _,_,.nil=>⟨rfl,fun i h=>absurd h (by simp)⟩
 | _,_,.cons a r=>by
  obtain ⟨h1,h2⟩:=vK r
  refine ⟨by simp [h1],fun i h h'=>?_⟩
  cases i with
  | zero=>exact a
  | succ i=>exact h2 i (by simpa using h) (by simpa using h')
end
def PR (H:Hp) (x:V) (r:Key×V):Prop:=∃ b,x=.ref b/\H b=some (.tup [kV r.1,r.2])
theorem fZ {xs:List V} {rs:List (Key×V)}:iw H xs rs↔Paired (PR H) xs rs:=by
 constructor
 ·rintro ⟨hl,h⟩
  refine LQ hl fun i h1 h2=>?_
  obtain ⟨b,e1,e2⟩:=h i h2
  rw [Qa h1] at e1
  exact ⟨b,QD e1,e2⟩
 ·intro h
  obtain ⟨hl,h'⟩:=vK h
  refine ⟨hl,fun i h2=>?_⟩
  obtain ⟨b,e1,e2⟩:=h' i (by omega) h2
  exact ⟨b,by rw [Qa (by omega),e1],e2⟩
section
variable {xs:List V} {rs:List (Str×V)}
theorem pP (a b:List (Str×V)):bj (a++b)=bj a++bj b:=by simp [bj]
theorem iQ:iw H [] (bj []):=fZ.mpr .nil
theorem gC (h:iw H xs (bj rs)) {n:Str} {v:V} (e:H b=some (.tup [.str n,v])):iw H (xs++[.ref b]) (bj (rs++[(n,v)])):=by
 rw [pP]
 exact fZ.mpr (n6 (fZ.mp h) (.cons ⟨b,rfl,e⟩ .nil))
end
section
variable {e1 e2:Expr} {p pos:Pos} {k:Nat} {g1 g2:TG}
end
def KD (w:World) (K:Q0) (a:Addr) (kvs:List (Key×V)):Prop:=∀ P:Program,∃ (o:Obj) (es:Array DictEntry) (ep:Nat) (vs:List (Key×Value)),K.lookup a=some o/\(a==sysModules)=false/\o.ExactDict/\o.data=.dict es ep/\KeysOf (bx P w) es/\Pairs (bx P w) es.toList vs/\(vs.map (·.1)).Nodup/\KV kvs vs
section
variable {kvs:List (Key×V)}
theorem KD.of (h:KD X.w X.K a kvs) (I:Inv X pins σ H s):(a==sysModules)=false/\∃ vs,KV kvs vs/\s.heap.DictOf (bx X.prog X.w) a vs:=by
 obtain ⟨o,es,ep,vs,h1,h2,h3,h4,h5,h6,h7,h8⟩:=h X.prog
 exact ⟨h2,vs,h8,o,es,ep,I.jb a o h1,h3,h4,h5,h6,h7⟩
variable {pos p:Pos}
def LU (kvs:List (Key×V)) (te:TE):TE:=fun σ H Q=>te σ H fun y H1=>∃ k,y=kV k/\Q (.bl (cg kvs k).isSome) H1
theorem U4 {K:Q0} (hx:∃ a,X.mg x=some (.ref a)/\KD w K a kvs) (he:PE X e te) (hw:X.w=w) (hK:X.K=K) (hg:Gl X x) (hd:(x==("__debug__":Str))=false):PC X .In e (.Name x p) (LU kvs te):=by
 subst hw hK
 obtain ⟨a,hm,kd⟩:=hx
 intro pins s σ H Q I h
 refine av (he pins s σ H _ I h) ?_
 rintro iv s1 ⟨y,H1,I1,ry,k,ey,q1⟩
 subst ey
 refine av (lN (v:=.ref a) hg hm rfl hd pins s1 σ H1 (fun v H'=>v=.ref a/\H'=H1) I1 ⟨rfl,rfl⟩) fun u s2 ⟨z,H2,I2,rz,ez,eH⟩=>?_
 subst ez eH
 cases rz
 obtain ⟨h1,vs,rel,dd⟩:=kd.of I2
 refine wpAny_in_of (kS ry) h1 dd.mapOf ?_
 rw [<- (rel.val k).FE]
 exact ⟨.bl _,_,I2.tok _,rfl,q1⟩
theorem U5 {K:Q0} (hx:∃ a,X.mg x=some (.ref a)/\KD w K a kvs) (he:SE X e te) (hw:X.w=w:=by rfl) (hK:X.K=K:=by rfl) (hg:Gl X x:=by rfl) (hd:(x==("__debug__":Str))=false:=by decide):ST X (.Compare e [.In] [.Name x p] pos) (tB (LU kvs te)):=⟨Q7 (U4 hx he.h hw hK hg hd) rfl⟩
def U6 (kvs:List (Key×V)) (te:TE):TE:=fun σ H Q=>te σ H fun y H1=>∃ k v,y=kV k/\cg kvs k=some v/\Q v H1
theorem U7 {K:Q0} (hx:∃ a,X.mg x=some (.ref a)/\KD w K a kvs) (he:SE X e te) (hs:FH e) (hw:X.w=w:=by rfl) (hK:X.K=K:=by rfl) (hg:Gl X x:=by rfl) (hd:(x==("__debug__":Str))=false:=by decide):SE X (.Subscript (.Name x p) e pos) (U6 kvs te):=by
 subst hw hK
 obtain ⟨a,hm,kd⟩:=hx
 constructor
 intro pins s σ H Q I h
 refine vJ PySem.F.slot_dict_getitem.lookup hs (av (lN (v:=.ref a) hg hm rfl hd pins s σ H (fun v H'=>v=.ref a/\H'=H) I ⟨rfl,rfl⟩) fun u s2 ⟨z,H2,I2,rz,ez,eH⟩=>?_)
 subst ez eH
 cases rz
 refine av (he.h pins s2 σ _ _ I2 h) ?_
 rintro iv s3 ⟨y,H3,I3,ry,k,v,ey,ev,q⟩
 subst ey
 obtain ⟨h1,vs,rel,dd⟩:=kd.of I3
 obtain ⟨w',hw,qh⟩:=oq.some_of (v:=v) (o:=valueAt vs k) (by rw [<- ev];exact rel.val k)
 exact ⟨dd.typeIs,wpAny_getItem_of (kS ry) dd.mapOf hw ⟨v,_,I3.tok _,qh,q⟩⟩
end
def s_ (kvs:List (Key×V)) (i:Nat):V:=((kvs[i]?).map fun kv=>kV kv.1).getD .ai
def HX (a:Addr) (o:Obj) (kvs:List (Key×V)):It:=⟨fun i H=>H a=some (.az o (.dK kvs))/\i < kvs.length,fun i H x H'=>H'=H/\x=s_ kvs i,fun i H=>H a=some (.az o (.dK kvs))/\kvs.length=i⟩
theorem yZ {o:Obj} (kvs:List (Key×V)):BK (HX a o kvs) (fun H=>H a=some (.az o (.dK kvs))) kvs.length (s_ kvs):=fun H ok=>⟨fun i hi=>⟨⟨ok,hi⟩,fun x H' h=>h⟩,ok,rfl⟩
theorem U8 {kvs:List (Key×V)} {vs:List (Key×Value)} (r:KV kvs vs):∀ {i:Nat} {p:Key×V},kvs[i]? =some p->∃ q,vs[i]? =some q/\q.1=p.1:=by
 intro i
 induction r generalizing i with
 | nil=>intro p h;simp at h
 | cons a t ih=>
  intro p h
  cases i with
  | zero=>simp at h;subst h;exact ⟨_,by simp,a.1.symm⟩
  | succ i=>simp at h;simpa using ih h
theorem qQ {k:Key} (h:(bx P w).is k u=true):RelV (kV k) u:=by
 rcases bS h with ⟨i,t,rfl,rfl⟩ | ⟨x,t,rfl,rfl⟩
 ·exact ⟨t,rfl⟩
 ·exact ⟨t,rfl⟩
theorem KV.len {kvs:List (Key×V)} {vs:List (Key×Value)} (r:KV kvs vs):kvs.length=vs.length:=Paired.length r
theorem xG {K:Q0} {it:Addr} {o:Obj} {kvs:List (Key×V)} {ep:Nat} (CI:∃ es,o.data=.dict es ep):Turn P w K tg (HX a o kvs) [it] it (fun i h=>h.IsKeyIter it a i kvs.length ep) where
 mem:=by simp
 obj:=fun i h st b hb=>by
  have e:b=it:=by simpa using hb
  subst e
  obtain ⟨o,e,c,d⟩:=st
  exact ⟨o,e,fun v z=>by rw [d] at z;cases z⟩
 keep:=fun i h h' st k=>st.at fun o e=>k it (by simp) o e
 item:=by
  intro X hP hw hK hc i pins s σ H E I hf st hg
  subst hP hw hK
  obtain ⟨hq,hi⟩:=hg
  obtain ⟨e,z,hd,vs,rel,ob,es,AF,h1,h2,h3,h4⟩:=(show cz X.prog X.w H s.heap a (.az o (.dK kvs)) from I.hok a _ hq)
  obtain ⟨es',xm⟩:=CI
  rw [e] at h1;cases h1
  rw [xm] at h3;injection h3 with Ad Ae
  subst Ad Ae
  obtain ⟨q,ve,vf⟩:=U8 rel (Qa hi)
  have hl:=rel.len
  obtain ⟨f0,f1,f2,f3,f4,f5⟩:=hf it (by simp)
  obtain ⟨qk,qv⟩:=q
  refine wpAny_pyNext_dict_item (knd:=bx X.prog X.w) (kvs:=vs) (ep:=ep) (by rw [<- hl];exact st) ⟨o,es',e,h2,xm,h4⟩ ve fun key h' hk st' sb=>?_
  have I1:Inv X pins σ H {s with heap:=h'}:=I.turned (t':=s.toks) (fun b o hb e=>(sb.2 b hb).trans e) f0 f1 f3 f4 f5
  have gf:h'.IsKeyIter it a (i+1) kvs.length ep:=by rw [hl];exact st'
  obtain ⟨o3,e3,c3,d3⟩:=id gf
  refine ⟨key,rfl,rC (s:={s with heap:=h'}) e3 c3 d3 (by decide) ⟨s_ kvs i,H,I1,?_,⟨rfl,rfl⟩,gf,fun b hb=>(hf b hb).1⟩⟩
  unfold s_
  rw [Qa hi]
  show RelV (kV kvs[i].1) key
  have HY:qk=kvs[i].1:=vf
  rw [<- HY]
  exact qQ hk
 done:=by
  intro X hP hw hK hc i pins s σ H E I hf st hg
  subst hP hw hK
  obtain ⟨hq,hi⟩:=hg
  obtain ⟨e,z,hd,vs,rel,ob,es,AF,h1,h2,h3,h4⟩:=(show cz X.prog X.w H s.heap a (.az o (.dK kvs)) from I.hok a _ hq)
  obtain ⟨es',xm⟩:=CI
  rw [e] at h1;cases h1
  rw [xm] at h3;injection h3 with Ad Ae
  subst Ad Ae
  have hl:=rel.len
  obtain ⟨f0,f1,f2,f3,f4,f5⟩:=hf it (by simp)
  exact wpAny_pyNext_dict_end (knd:=bx X.prog X.w) (kvs:=vs) (ep:=ep) (I.ok.hd hc) (by rw [<- hl];exact st) ⟨o,es',e,h2,xm,h4⟩ (by simp;omega) fun h' eb=>⟨rfl,I.turned (t':=s.toks) (fun b o hb e=>eb b o hb e) f0 f1 f3 f4 f5⟩
 self:=fun _ _ _ _ _ st h=>wpAny_pyIter_keyiter st h
theorem rV (h:H a=some o):upd H a o=H:=by
 funext b
 unfold upd
 by_cases e:b=a
 ·rw [if_pos e,e,h]
 ·rw [if_neg e]
theorem Inv.freeze {kvs:List (Key×V)} (I:Inv X pins σ H s) (h:Rd H a (.dK kvs)):∃ o es ep,o.data=.dict es ep/\Inv X pins σ (upd H a (.az o (.dK kvs))) s/\s.heap.get? a=some o:=by
 rcases h with h | ⟨o,h⟩
 ·have ok:=(show cz X.prog X.w H s.heap a (.dK kvs) from I.hok a _ h)
  obtain ⟨z,hd,vs,rel,o,es,ep,h1,h2,h3,h4⟩:=ok
  have I2:=I.write (x:=a) (e:=a) (h':=s.heap) (t':=s.toks) (o:=.az o (.dK kvs)) (by rw [h];exact True.intro) (.inl rfl) (fun b u _ q=>q) ⟨o,h1⟩ ⟨h1,z,hd,vs,rel,o,es,ep,h1,h2,h3,h4⟩
  exact ⟨o,es,ep,h3,I2,h1⟩
 ·obtain ⟨e,z,hd,vs,rel,ob,es,ep,h1,h2,h3,h4⟩:=(show cz X.prog X.w H s.heap a (.az o (.dK kvs)) from I.hok a _ h)
  rw [e] at h1;cases h1
  exact ⟨o,es,ep,h3,by rw [rV h];exact I,e⟩
def U9 (te:TE):TI:=fun σ H R=>te σ H fun x H1=>∃ a kvs,x=.ref a/\Rd H1 a (.dK kvs)/\∀ o,R (HX a o kvs) (upd H1 a (.az o (.dK kvs)))
theorem U_ (he:SE X e te):SI X tg e (U9 te):=by
 constructor
 intro pins s σ H R I h
 refine av (he.h pins s σ H _ I h) ?_
 rintro v s1 ⟨x,H1,I1,r1,a,kvs,ex,hr,q⟩
 subst ex
 cases r1
 obtain ⟨o,es,ep,hd,I2,ho⟩:=I1.freeze hr
 obtain ⟨e,z,HZ,vs,rel,ob,es',AF,h1,h2,h3,h4⟩:=(show cz X.prog X.w _ s1.heap a (.az o (.dK kvs)) from I2.hok a _ aA)
 rw [e] at h1;cases h1
 rw [hd] at h3;injection h3 with Ad Ae
 subst Ad Ae
 refine wpAny_pyIter_dict (knd:=bx X.prog X.w) (kvs:=vs) (ep:=ep) HZ ⟨o,es,e,h2,hd,h4⟩ ?_
 have hl:=rel.len
 refine ⟨s1.heap.objs.size,[s1.heap.objs.size],_,_,_,rfl,I2.kept (t':=s1.toks) fun b o e=>Qc _ e,xG (kvs:=kvs) (a:=a) (o:=o) ⟨es,hd⟩,by rw [hl];exact ⟨_,Qd _ rfl,rfl,rfl⟩,fun b hb=>?_,q o⟩
 have e:b=s1.heap.objs.size:=by simpa using hb
 subst e
 exact I2.AH (Qy _) (I2.hok.fresh (Qy _))
def U' (n:Bool):R2:=fun y x H Q=>∃ a o,x=.ref a/\fu H a y o/\Q (.bl (n^^o.isSome)) H
theorem jZ (hu:X.A.units+1 < cLine):cu X (compareOp .NotIn) (U' true):=by
 intro pins s σ H x y v u Q I rx ry h
 obtain ⟨a,o,rfl,g,q⟩:=h
 cases ry
 exact Tn hu I g rx fun s' I'=>⟨.bl (!o.isSome),H,I',rfl,by simpa using q⟩
theorem fu.rd {kvs:List (Key×V)} {k:Key} (e:Rd H a (.dK kvs)):fu H a (kV k) (cg kvs k):=.inl ⟨kvs,k,e,rfl,rfl⟩
section
variable {a b c:Expr} {ta:TA} {p pos:Pos}
end
inductive Dt where
 | str (z:Str)
 | tup (ds:List Dt)
 | lq
inductive DD (H:Hp):V->Dt->Prop
 | str {z:Str} (h:z.length<=100000):DD H (.str z) (.str z)
 | tup {a:Addr} {xs:List V} {ds:List Dt}:H a=some (.tup xs)->xs.length=ds.length->xs.length<=1000->(∀ i (h:i < xs.length) (h':i < ds.length),DD H xs[i] ds[i])->DD H (.ref a) (.tup ds)
 | ai:DD H .ai .lq
 | bl (b:Bool):DD H (.bl b) .lq
 | int (i:Int):DD H (.int i) .lq
 | lst {a:Addr} {xs:List V}:H a=some (.lst xs)->DD H (.ref a) .lq
 | dct {a:Addr} {kvs:List (Key×V)}:H a=some (.dK kvs)->DD H (.ref a) .lq
theorem DD.same (s:aa H H') {v:V} {d:Dt} (h:DD H v d):DD H' v d:=by
 induction h with
 | str h=>exact .str h
 | tup e hl hn _ ih=>exact .tup (s _ _ e) hl hn ih
 | ai=>exact .ai
 | bl b=>exact .bl b
 | int i=>exact .int i
 | lst e=>exact .lst (s _ _ e)
 | dct e=>exact .dct (s _ _ e)
def CJ:Dt->Bool | .str z=>isName z | _=>false
def pairD:Dt->Bool | .tup [a,b]=>CJ a&&CJ b | _=>false
def LV:Dt->Str | .tup (.str z::_)=>z | _=>""
def kj (a b:Str):Bool:=decide (a.cps.toList < b.cps.toList)
def rising:List Str->Bool
 | a::b::r=>kj a b&&rising (b::r)
 | _=>true
def H_:Dt->Bool | .tup ps=>ps.all pairD&&rising (ps.map LV) | _=>false
def CK (s:Str):Bool:=s=="box"||s=="pick"
def Eb (s:Str):Option Nat:=if s=="all" then some 0 else if s=="none" then some 0 else if s=="way" then some 2 else if s=="as" then some 1 else none
def headD:Dt->Bool
 | .tup (.str s::rest)=>if CK s then (match rest with | [p]=>H_ p | _=>false) else match Eb s with | some n=>decide (rest.length=n)&&rest.all CJ | none=>false
 | _=>false
theorem a_.imp {P:Program} {w:World} {K:Q0} {mg:Str->Option Value} {base:Heap} {k:Nat} {x:Str} {ps:List Str} {sp DI:Sp} (F:a_ P w K mg base k x ps sp) (h:∀ vs H Q E,DI vs H Q E->sp vs H Q E):a_ P w K mg base k x ps DI:=by
 obtain ⟨f,fd,G,r⟩:=F
 exact ⟨f,fd,G.imp h,r⟩
theorem jJ (rs:List (Key×V)):(rs.map (·.1)).Nodup->dictOf rs=rs:=by
 have gen:∀ (rs kvs:List (Key×V)),(rs.map (·.1)).Nodup->(∀ r∈rs,cg kvs r.1=none)->rs.foldl (fun kvs r=>putK kvs r.1 r.2) kvs=kvs++rs:=by
  intro rs
  induction rs with
  | nil=>intro kvs _ _;simp
  | cons r rs ih=>
   intro kvs hn hk
   rw [List.map_cons,List.nodup_cons] at hn
   rw [List.foldl_cons,dE _ (hk r List.mem_cons_self),ih _ hn.2 fun x hx=>?_]
   ·simp
   ·rw [k6 _ _ _ _ (hk r List.mem_cons_self),if_neg (fun e=>hn.1 (List.mem_map.mpr ⟨x,hx,e⟩))]
    exact hk x (Qh _ hx)
 intro hn
 have:=gen rs [] hn (fun _ _=>rfl)
 simpa [dictOf] using this
theorem yM {v:V} {d:Dt} (h:DD H v d) (hn:CJ d=true):∃ z,v=.str z/\d=.str z/\isName z=true:=by
 cases h with
 | str _=>exact ⟨_,rfl,rfl,hn⟩
 | tup _ _ _ _=>exact Bool.noConfusion hn
 | ai=>exact Bool.noConfusion hn
 | bl _=>exact Bool.noConfusion hn
 | int _=>exact Bool.noConfusion hn
 | lst _=>exact Bool.noConfusion hn
 | dct _=>exact Bool.noConfusion hn
def Va:Dt->Dt | .tup (_::h::_)=>h | _=>.lq
def Ec:Dt->Option Str | .tup [.str s,.str x]=>if s=="as" then some x else none | _=>none
def BS (ds:List Dt):List (Str×Dt):=ds.map fun d=>(LV d,Va d)
def Ia (rs:List (Str×Dt)) (n:Str):Option Str:=(rs.find? fun r=>decide (r.1=n)).bind fun r=>Ec r.2
theorem Rd.same {u:HO} (r:Rd H a u) (s:aa H H'):Rd H' a u:=by
 rcases r with r | ⟨o,r⟩
 ·exact .inl (s _ _ r)
 ·exact .inr ⟨o,s _ _ r⟩
theorem Vb (z:Str) (ds:List Dt):headD (.tup (.str z::ds))=if CK z then (match ds with | [p]=>H_ p | _=>false) else match Eb z with | some n=>decide (ds.length=n)&&ds.all CJ | none=>false:=rfl
theorem Vc {v:V} {d:Dt} (h:DD H v d) (hh:headD d=true):∃ a z xs ds,v=.ref a/\d=.tup (.str z::ds)/\H a=some (.tup (.str z::xs))/\xs.length=ds.length/\xs.length < 1000/\(∀ i (h:i < xs.length) (h':i < ds.length),DD H xs[i] ds[i])/\
  ((CK z=true/\∃ p,ds=[p]/\H_ p=true)\/(CK z=false/\∃ n,Eb z=some n/\ds.length=n/\ds.all CJ=true)):=by
 cases h with
 | @tup a xs ds e hl hn k_=>
  match ds,hl,hh,k_ with
  | .str z::ds,hl,hh,k_=>
   match xs,hl,e,hn,k_ with
   | x0::xs,hl,e,hn,k_=>
    have h0:=k_ 0 (by simp) (by simp)
    simp only [List.getElem_cons_zero] at h0
    cases h0
    refine ⟨a,z,xs,ds,rfl,rfl,e,by simpa using hl,by simp at hn;omega,fun i h h'=>k_ (i+1) (by simpa using h) (by simpa using h'),?_⟩
    rw [Vb] at hh
    cases hw:CK z with
    | true=>
     rw [hw] at hh
     simp only [if_true] at hh
     match ds,hh with
     | [p],hh=>exact .inl ⟨rfl,p,rfl,hh⟩
    | false=>
     rw [hw] at hh
     simp only [Bool.false_eq_true,if_false] at hh
     cases hb:Eb z with
     | none=>rw [hb] at hh;exact Bool.noConfusion hh
     | some n=>
      rw [hb] at hh
      simp only [Bool.and_eq_true,decide_eq_true_eq] at hh
      exact .inr ⟨rfl,n,rfl,hh.1,hh.2⟩
  | .tup _::_,_,hh,_=>exact Bool.noConfusion hh
  | .lq::_,_,hh,_=>exact Bool.noConfusion hh
  | [],_,hh,_=>exact Bool.noConfusion hh
 | str _=>exact Bool.noConfusion hh
 | ai=>exact Bool.noConfusion hh
 | bl _=>exact Bool.noConfusion hh
 | int _=>exact Bool.noConfusion hh
 | lst _=>exact Bool.noConfusion hh
 | dct _=>exact Bool.noConfusion hh
theorem yR:CK "as"=false:=by decide
theorem Vd {v:V} {d:Dt} (h:DD H v d) (hh:headD d=true):BO H v (Ec d):=by
 obtain ⟨a,z,xs,ds,rfl,rfl,e,hl,hn,k_,hc⟩:=Vc h hh
 refine ⟨a,rfl,?_⟩
 by_cases hz:z="as"
 ·subst hz
  rcases hc with ⟨hw,_⟩ | ⟨_,n,hb,Ed,FZ⟩
  ·rw [yR] at hw;cases hw
  ·have hn1:n=1:=by
    have:Eb "as"=some 1:=by decide
    rw [this] at hb;cases hb;rfl
   subst hn1
   match ds,Ed,hl,FZ,k_ with
   | [d1],_,hl,FZ,k_=>
    match xs,hl,e,k_ with
    | [x1],_,e,k_=>
     simp only [List.all_cons,List.all_nil,Bool.and_true] at FZ
     obtain ⟨y,q1,q2,_⟩:=yM (k_ 0 (by simp) (by simp)) FZ
     simp only [List.getElem_cons_zero] at q1
     subst q1 q2
     exact .inr ⟨y,e,by simp [Ec]⟩
 ·refine .inl ⟨z,xs,e,hz,?_⟩
  have Ib:(z==Str.ofString "as")=false:=by simpa using hz
  unfold Ec
  split
  ·next s x Ic=>
   injection Ic with Ic
   injection Ic with h1 _
   injection h1 with h1
   rw [<- h1,if_neg (by rw [Ib];exact Bool.false_ne_true)]
  ·rfl
structure CM (H:Hp) (xs:List V) (ds:List Dt) (rs:List (Str×V)) (hs:List Dt):Prop where
 l1:rs.length=ds.length
 l2:hs.length=ds.length
 ps:iw H xs (bj rs)
 dd:∀ i (h:i < ds.length) (h1:i < rs.length) (h2:i < hs.length),ds[i]=.tup [.str rs[i].1,hs[i]]/\DD H rs[i].2 hs[i]/\headD hs[i]=true/\isName rs[i].1=true
section
variable {xs:List V} {ds:List Dt} {rs:List (Str×V)} {hs:List Dt}
theorem CM.rows (R:CM H xs ds rs hs) (h:i < ds.length) (h1:i < rs.length) (h2:i < hs.length):(BS ds)[i]? =some (rs[i].1,hs[i]):=by
 unfold BS
 rw [Qq,Qa h,(R.dd i h h1 h2).1];rfl
theorem lD (n:Str) (h:n ∉ rs.map (·.1)):cg (bj rs) (.inr n)=none:=by
 unfold cg
 rw [List.find?_eq_none.mpr]
 ·rfl
 ·intro p hp e
  obtain ⟨r,hr,rfl⟩:=List.mem_map.mp hp
  exact h (List.mem_map.mpr ⟨r,hr,Sum.inr.inj (Qt e)⟩)
theorem nK (nd:(rs.map (·.1)).Nodup) (h:i < rs.length):cg (bj rs) (.inr rs[i].1)=some rs[i].2:=by
 have:=l6 (bj rs) (lR nd) i (by simpa using h)
 rw [jJ _ (lR nd)] at this
 simpa using this
theorem CM.nx (R:CM H xs ds rs hs) (nd:(rs.map (·.1)).Nodup) (h1:i < rs.length) (h2:i < hs.length):Ia (BS ds) rs[i].1=Ec hs[i]:=by
 have h:i < ds.length:=by have:=R.l1;omega
 unfold Ia
 have:(BS ds).find? (fun r=>decide (r.1=rs[i].1))=some (rs[i].1,hs[i]):=by
  rw [List.find?_eq_some_iff_getElem]
  have hl:(BS ds).length=ds.length:=by unfold BS;simp
  refine ⟨by simp,i,by omega,?_,fun j hj=>?_⟩
  ·have:=R.rows h h1 h2
   rw [Qa (by omega)] at this
   exact QD this
  ·have F0:j < rs.length:=by omega
   have:=R.rows (i:=j) (by omega) F0 (by omega)
   rw [Qa (by omega)] at this
   rw [QD this]
   have ii:(rs.map (·.1))[j]'(by simp;omega)≠(rs.map (·.1))[i]'(by simpa using h1):=fun z=>(List.pairwise_iff_getElem.mp nd j i (by simp;omega) (by simpa using h1) hj) z
   simpa using ii
 rw [this];rfl
theorem CM.has (R:CM H xs ds rs hs) (nd:(rs.map (·.1)).Nodup) (n:Str) (v:V) (hv:cg (bj rs) (.inr n)=some v):BO H v (Ia (BS ds) n):=by
 by_cases h:n∈rs.map (·.1)
 ·obtain ⟨r,hr,rfl⟩:=List.mem_map.mp h
  obtain ⟨i,hi,rfl⟩:=Qi hr
  rw [nK nd hi] at hv
  cases hv
  have h2:i < hs.length:=by have:=R.l1;have:=R.l2;omega
  rw [R.nx nd hi h2]
  obtain ⟨_,q1,q2,_⟩:=R.dd i (by have:=R.l1;omega) hi h2
  exact Vd q1 q2
 ·rw [lD n h] at hv;cases hv
end
inductive TX (H:Hp):V->Dt->Prop
 | str {z:Str} (h:z.length<=100000):TX H (.str z) (.str z)
 | tup {a:Addr} {xs:List V} {ds:List Dt}:H a=some (.tup xs)->xs.length=ds.length->xs.length<=1000->(∀ i (h:i < xs.length) (h':i < ds.length),TX H xs[i] ds[i])->TX H (.ref a) (.tup ds)
theorem TX.dd {v:V} {d:Dt} (h:TX H v d):DD H v d:=by
 induction h with
 | str h=>exact .str h
 | tup e hl hn _ ih=>exact .tup e hl hn ih
theorem Ve {x:V} {d:Dt} (e:H a=some (.tup [x])) (h:TX H x d):TX H (.ref a) (.tup [d]):=.tup e rfl (by simp) fun i h1 h2=>by
 match i,h1 with
 | 0,_=>exact h
theorem pU {x y:V} {d d':Dt} (e:H a=some (.tup [x,y])) (h:TX H x d) (h':TX H y d'):TX H (.ref a) (.tup [d,d']):=.tup e rfl (by simp) fun i h1 h2=>by
 match i,h1 with
 | 0,_=>exact h
 | 1,_=>exact h'
theorem Vf {x y z:V} {d d' LW:Dt} (e:H a=some (.tup [x,y,z])) (h:TX H x d) (h':TX H y d') (D_:TX H z LW):TX H (.ref a) (.tup [d,d',LW]):=.tup e rfl (by simp) fun i h1 h2=>by
 match i,h1 with
 | 0,_=>exact h
 | 1,_=>exact h'
 | 2,_=>exact D_
theorem fE (h:isName z=true):z.length<=8:=by
 unfold isName at h
 simp only [Bool.and_eq_true,decide_eq_true_eq] at h
 exact h.1.1.2
theorem jT (h:isName z=true):TX H (.str z) (.str z):=.str (by have:=fE h;omega)
theorem oU (h:z.length<=100):TX H (.str z) (.str z):=.str (by omega)
section
variable {P:Option Str->Prop}
structure LX (H:Hp) (ns:List Str) (xs:List V) (ps:List (Str×Str)):Prop where
 len:xs.length=ps.length
 at_:∀ i (h:i < xs.length) (h':i < ps.length),∃ c,xs[i]=.ref c/\H c=some (.tup [.str ps[i].1,.str ps[i].2])
 nm:∀ p∈ps,isName p.1=true/\isName p.2=true/\p.2∈ns
 dj:rising (ps.map (·.1))=true
end
theorem kT {a b c:Str} (h1:kj a b=true) (h2:kj b c=true):kj a c=true:=by
 unfold kj at*
 exact Qv (List.lt_trans (Qt h1) (Qt h2))
theorem eE:∀ {ws:List Str},ws.Pairwise (fun a b=>kj a b=true)->rising ws=true
 | [],_=>rfl
 | [_],_=>rfl
 | a::b::r,h=>by
  rw [List.pairwise_cons] at h
  rw [rising,h.1 b List.mem_cons_self,eE h.2];rfl
def BU:V->Str
 | .str z=>z
 | _=>""
theorem Vg {xs:List V} {rs:List (Str×V)} (q2:iw H xs (bj rs)) (hn:∀ r∈rs,isName r.1=true) (q4:∀ r∈rs,∃ y,r.2=.str y/\y∈ns/\isName y=true) (hr:rising (rs.map (·.1))=true):LX H ns xs (rs.map fun q=>(q.1,BU q.2)):=by
 have hl:xs.length=rs.length:=by have:=q2.1;simpa using this
 refine ⟨by simp;omega,fun i h1 h2=>?_,fun q hq=>?_,?_⟩
 ·have h3:i < rs.length:=by omega
  obtain ⟨c',e1,e2⟩:=q2.2 i (by simpa using h3)
  rw [Qa h1] at e1
  refine ⟨c',QD e1,?_⟩
  obtain ⟨y,ey,_⟩:=q4 _ (Qj h3)
  simp only [Qr]
  rw [ey]
  have:H c'=some (.tup [.str rs[i].1,rs[i].2]):=by simpa [bj,kV] using e2
  rw [ey] at this
  exact this
 ·obtain ⟨q',jz,rfl⟩:=List.mem_map.mp hq
  obtain ⟨y,ey,my,ny⟩:=q4 q' jz
  refine ⟨hn q' jz,?_,?_⟩
  ·show isName (BU q'.2)=true
   rw [ey];exact ny
  ·show BU q'.2∈ns
   rw [ey];exact my
 ·rw [Qn];exact hr
section
variable {e1 e2:Expr} {p pos:Pos} {k:Nat} {g1 g2:TG}
def Vh:List V->Hp->VK->Prop:=fun xs H Q=>∃ b,xs=[.bl b]/\Q (.int (if b then 1 else 0)) H
theorem yD:jp X (.type "int") Vh:=by
 intro pins s σ H xs us Q I r h
 obtain ⟨b,rfl,q⟩:=h
 obtain ⟨u,rfl,ru⟩:=r.one
 cases ru
 exact call_int_bool ⟨.int (if b then 1 else 0),H,I.tok _,⟨_,rfl⟩,q⟩
end
section
variable {t1 i1 t2 i2 elt:Expr} {pos:Pos} {wi Vi:TI} {g g2:TG}
end
theorem n5 {α β:Type} {f g:α->Option β}:∀ {l:List α},(∀ x∈l,f x=g x)->l.filterMap f=l.filterMap g
 | [],_=>rfl
 | a::l,h=>by rw [List.filterMap_cons,List.filterMap_cons,h a List.mem_cons_self,n5 fun x hx=>h x (Qh _ hx)]
theorem Vj (xs:Array Value):((List.range xs.size).filterMap fun (k:Nat)=>xs[(((xs.size:Int) - 1)+(k:Int)*(-1)).toNat]?)=xs.toList.reverse:=by
 have e:((List.range xs.size).filterMap fun (k:Nat)=>xs[(((xs.size:Int) - 1)+(k:Int)*(-1)).toNat]?)=(List.range xs.size).map fun k=>xs.toList.reverse.getD k .none:=by
  rw [<- List.filterMap_eq_map]
  refine n5 fun k hk=>?_
  have hk':=List.mem_range.mp hk
  have e1:(((xs.size:Int) - 1)+(k:Int)*(-1)).toNat=xs.size - 1 - k:=by omega
  rw [e1]
  have h1:xs.size - 1 - k < xs.size:=by omega
  have h2:k < xs.toList.reverse.length:=by simp;exact hk'
  show _=some (xs.toList.reverse.getD k .none)
  rw [Qb,Qa h2,List.getElem_reverse]
  simp [h1]
 rw [e]
 refine List.ext_getElem (by simp) fun i h1 h2=>?_
 rw [Qr,List.getElem_range,Qb,Qa h2];rfl
section
variable {st:Expr} {ts:TE} {p2 pos:Pos}
theorem bg.rev:∀ {xs:List V} {us:List Value},bg xs us->bg xs.reverse us.reverse
 | _,_,.nil=>.nil
 | _,_,.cons r rr=>by
  rw [List.reverse_cons,List.reverse_cons]
  exact (bg.rev rr).append (.cons r .nil)
end
inductive Hd where
 | one (s:Str)
 | as (y:Str)
 | way (x y:Str)
 | prs (s:Str) (ps:List (Str×Str))
def Hd.nx:Hd->Option Str
 | .as y=>some y
 | _=>none
def Hd.ok (ns:List Str):Hd->Prop
 | .one s=>s="all"\/s="none"
 | .as y=>isName y=true/\y∈ns
 | .way x y=>isName x=true/\isName y=true/\x∈ns/\y∈ns
 | .prs s ps=>(s="box"\/s="pick")/\(∀ p∈ps,isName p.1=true/\isName p.2=true/\p.2∈ns)/\rising (ps.map (·.1))=true/\ps.length<=10
structure BV (H:Hp) (xs:List V) (ps:List (Str×Str)):Prop where
 len:xs.length=ps.length
 at_:∀ i (h:i < xs.length) (h':i < ps.length),∃ c,xs[i]=.ref c/\H c=some (.tup [.str ps[i].1,.str ps[i].2])
theorem BV.tk {xs:List V} {ps:List (Str×Str)} (h:BV H xs ps) (s:Tk H H'):BV H' xs ps:=⟨h.len,fun i a b=>let ⟨c,h1,h2⟩:=h.at_ i a b;⟨c,h1,s _ _ h2⟩⟩
inductive HV (H:Hp):V->Hd->Prop
 | one {b:Addr} {s:Str}:H b=some (.tup [.str s])->HV H (.ref b) (.one s)
 | as {b:Addr} {y:Str}:H b=some (.tup [.str "as",.str y])->HV H (.ref b) (.as y)
 | way {b:Addr} {x y:Str}:H b=some (.tup [.str "way",.str x,.str y])->HV H (.ref b) (.way x y)
 | prs {b c:Addr} {s:Str} {xs:List V} {ps:List (Str×Str)}:H b=some (.tup [.str s,.ref c])->H c=some (.tup xs)->BV H xs ps->HV H (.ref b) (.prs s ps)
theorem HV.tk {H H':Hp} (s:Tk H H') {v:V} {h:Hd} (q:HV H v h):HV H' v h:=by
 cases q with
 | one e=>exact .one (s _ _ e)
 | as e=>exact .as (s _ _ e)
 | way e=>exact .way (s _ _ e)
 | prs e e' p=>exact .prs (s _ _ e) (s _ _ e') (p.tk s)
section
variable {v:V} {P:Option Str->Prop}
end
def Hd.dt:Hd->Dt
 | .one s=>.tup [.str s]
 | .as y=>.tup [.str "as",.str y]
 | .way x y=>.tup [.str "way",.str x,.str y]
 | .prs s ps=>.tup [.str s,.tup (ps.map fun p=>.tup [.str p.1,.str p.2])]
theorem HV.tx {v:V} {h:Hd} (q:HV H v h) (ok:h.ok ns):TX H v h.dt:=by
 cases q with
 | one e=>exact Ve e (oU (by rcases ok with rfl | rfl<;>decide))
 | as e=>exact pU e (oU (by decide)) (jT ok.1)
 | way e=>exact Vf e (oU (by decide)) (jT ok.1) (jT ok.2.1)
 | @prs b c s xs ps e e' p=>
  have Ef:=ok.2.2.2
  have hl:=p.len
  refine pU e (oU (by rcases ok.1 with rfl | rfl<;>decide)) (.tup e' (by simp [p.len]) (by omega) fun i h1 h2=>?_)
  have h3:i < ps.length:=by simpa using h2
  obtain ⟨c',q1,q2⟩:=p.at_ i h1 h3
  obtain ⟨m1,m2,_⟩:=ok.2.1 _ (Qj h3)
  rw [q1]
  simp only [Qr]
  exact pU q2 (jT m1) (jT m2)
abbrev aq:=Str×Hd
end L2
variable {tA:L2.TT} {D:L2.Ends} {g:L2.TG} {ta:L2.TA} {wi:L2.TI} {sp:L2.Sp} {tc:L2.TC} {d:L2.Dt} {ds:List L2.Dt} {rs r1 r2:List L2.aq}
namespace L2
open PySem PySem.Spec PyProof.Rows
structure RV (H:Hp) (xs:List V) (rows:List aq):Prop where
 len:xs.length=rows.length
 at_:∀ i (h:i < xs.length) (h':i < rows.length),∃ b v,xs[i]=.ref b/\H b=some (.tup [.str rows[i].1,v])/\HV H v rows[i].2
theorem RV.tk {H H':Hp} {xs:List V} {rows:List aq} (h:RV H xs rows) (s:Tk H H'):RV H' xs rows:=⟨h.len,fun i a b=>let ⟨c,v,h1,h2,h3⟩:=h.at_ i a b;⟨c,v,h1,s _ _ h2,h3.tk s⟩⟩
def Vk (r:aq):Dt:=.tup [.str r.1,r.2.dt]
def LY (ns:List Str) (rows:List aq):Prop:=∀ r∈rows,isName r.1=true/\r.2.ok ns
def Hd.pre:Hd->List Str
 | .one s=>[s]
 | .as _=>[]
 | .way _ _=>["way"]
 | .prs s _=>[s]
inductive DA (P:Addr->Prop) (H:Hp):Bool->V->PyData->Dt->Prop
 | str {m:Bool} {z:Str} (h:z.length<=100000):DA P H m (.str z) (.str z) (.str z)
 | ai {m:Bool}:DA P H m .ai .none .lq
 | bl {m:Bool} (b:Bool):DA P H m (.bl b) (.bool b) .lq
 | int {m:Bool} (i:Int):DA P H m (.int i) (.int i) .lq
 | tup {m:Bool} {a:Addr} {xs:List V} {ps:List PyData} {ds:List Dt}:P a->H a=some (.tup xs)->xs.length=ps.length->xs.length=ds.length->xs.length<=1000->(∀ i (h:i < xs.length) (h':i < ps.length) (D_:i < ds.length),DA P H m xs[i] ps[i] ds[i])->DA P H m (.ref a) (.tuple ps) (.tup ds)
 | lst {a:Addr} {xs:List V} {ps:List PyData} {ds:List Dt}:P a->H a=some (.lst xs)->xs.length=ps.length->xs.length=ds.length->(∀ i (h:i < xs.length) (h':i < ps.length) (D_:i < ds.length),DA P H true xs[i] ps[i] ds[i])->DA P H true (.ref a) (.list ps) .lq
 | Vl {a:Addr}:P a->H a=some (.dK [])->DA P H false (.ref a) (.dict []) .lq
 | Vm {a:Addr} {z:Str} {x:V} {p:PyData} {d:Dt}:P a->H a=some (.dK [(.inr z,x)])->DA P H false x p d->DA P H false (.ref a) (.dict [(.str z,p)]) .lq
theorem DA.dd {P:Addr->Prop} {m:Bool} {v:V} {p:PyData} (h:DA P H m v p d):DD H v d:=by
 induction h with
 | str h=>exact .str h
 | ai=>exact .ai
 | bl b=>exact .bl b
 | int i=>exact .int i
 | tup _ e h1 h2 h3 _ ih=>exact .tup e h2 h3 fun i a b=>ih i a (by omega) b
 | lst _ e h1 h2 _ ih=>exact .lst e
 | Vl _ e=>exact .dct e
 | Vm _ e _ ih=>exact .dct e
structure DB (P:Addr->Prop) (H:Hp) (m:Bool) (v:V) (k n:Nat):Prop where
 ex:∃ p d,DA P H m v p d/\p.depth<=k/\p.shown.length<=n/\p.showable=true
section
variable {P P':Addr->Prop} {m:Bool} {v:V} {k k' n':Nat} {xs:List V}
theorem DB.ai:DB P H m .ai 0 202:=⟨.none,.lq,.ai,by simp [PyData.depth],by simp only [PyData.shown];decide,by simp [PyData.showable]⟩
end
section
variable {P:Addr->Prop} {m:Bool} {k c:Nat}
end
section
variable {pos:Pos}
theorem LZ {y:Str} {a b:Expr} {px py pt:Pos} {kt k2 Bs} (hc:X.calm=true) (hN:X.N.Nodup) (hi:X.N[i]? =some x) (hj:X.N[j]? =some y) (rn:i≠j) (hx:X.env.scope.names.lookup x=some .local) (hy:X.env.scope.names.lookup y=some .local) (ha:SA X [a,b] ta)
  (hw:swappedStores [.Tuple [.Name x px,.Name y py] kt pt] (.Tuple [a,b] k2 Bs) X.env=pure (some [x,y])) (hs:swapsWithSole [.Tuple [.Name x px,.Name y py] kt pt] (.Tuple [a,b] k2 Bs) pos.line X.env=pure false:=by rfl):SS X (.Assign [.Tuple [.Name x px,.Name y py] kt pt] (.Tuple [a,b] k2 Bs) pos) (KS i j ta):=⟨Ru hc hN hi hj rn hx hy ha.h hw hs⟩
end
theorem fI (y:Str) (zs:List Str):r_ (.str y) (zs.map V.str)=decide (y∈zs):=by
 rw [Bool.eq_iff_iff,decide_eq_true_iff]
 unfold r_
 rw [List.any_map,List.any_eq_true]
 constructor
 ·rintro ⟨a,ha,e⟩
  have e':(a==y)=true:=e
  rw [<- eq_of_beq e'];exact ha
 ·intro h
  exact ⟨y,h,(beq_self_eq_true y:(y==y)=true)⟩
section
variable {I:Addr} {wr:List Addr} {P:Nat->Value->Prop} {St:Nat->Shared->Prop}
end
abbrev yn (led:Bool):Obj:={cls:=.type "set",dict:=none,data:=.set #[] 0 (.fresh 0 0 led)}
section
variable {I:Addr} {wr:List Addr} {P:Nat->Value->Prop} {St:Nat->Shared->Prop}
end
section
variable {a b c:Expr} {p pos:Pos}
end
def Hd.AW:Hd->List Str
 | .prs _ ps=>ps.map (·.1)
 | _=>[]
structure pe (H:Hp) (ns ws:List Str) (v:V) (P:Option Str->Prop):Prop where
 ex:∃ h,HV H v h/\h.ok ns/\P h.nx/\∀ z∈h.AW,z∈ws
section
variable {v:V} {P:Option Str->Prop}
theorem pe.tk {H':Hp} (h:pe H ns ws v P) (s:Tk H H'):pe H' ns ws v P:=let ⟨d,h1,h2⟩:=h.ex;⟨d,h1.tk s,h2⟩
theorem pe.imp {P':Option Str->Prop} (h:pe H ns ws v P) (f:∀ o,P o->P' o):pe H ns ws v P':=let ⟨d,h1,h2,h3,h4⟩:=h.ex;⟨d,h1,h2,f _ h3,h4⟩
theorem Vn {y:Str} (e:H b=some (.tup [.str "as",.str y])) (hy:isName y=true) (hm:y∈ns) (hP:P (some y)):pe H ns ws (.ref b) P:=⟨.as y,.as e,⟨hy,hm⟩,hP,(fun _ h=>nomatch h)⟩
theorem Vo (e:H b=some (.tup [.str "none"])) (hP:P none):pe H ns ws (.ref b) P:=⟨.one "none",.one e,.inr rfl,hP,(fun _ h=>nomatch h)⟩
theorem Vp (e:H b=some (.tup [.str "all"])) (hP:P none):pe H ns ws (.ref b) P:=⟨.one "all",.one e,.inl rfl,hP,(fun _ h=>nomatch h)⟩
theorem Vq {y:Str} (e:H b=some (.tup [.str "way",.str x,.str y])) (hx:isName x=true) (hy:isName y=true) (mx:x∈ns) (my:y∈ns) (hP:P none):pe H ns ws (.ref b) P:=⟨.way x y,.way e,⟨hx,hy,mx,my⟩,hP,(fun _ h=>nomatch h)⟩
theorem tX {s:Str} {c:Addr} {xs:List V} {ps:List (Str×Str)} (hs:s="box"\/s="pick") (e:H b=some (.tup [.str s,.ref c])) (ec:H c=some (.tup xs)) (hn:xs.length<=10) (h:LX H ns xs ps) (hw:∀ q∈ps,q.1∈ws) (hP:P none):pe H ns ws (.ref b) P:=
 ⟨.prs s ps,.prs e ec ⟨h.len,h.at_⟩,⟨hs,h.nm,h.dj,by rw [<- h.len];exact hn⟩,hP,fun z hz=>by obtain ⟨q,hq,rfl⟩:=List.mem_map.mp hz;exact hw q hq⟩
end
theorem L0 {y:Str} (e:H b=some (.tup [.str x,.str y])) (hx:Wd x) (hy:Wd y):TB H (.ref b) 1 411:=
 (TB.tup (k:=0) (n:=202) e fun v hv=>by
  simp only [Qp,QA,or_false] at hv
  rcases hv with rfl | rfl
  ·exact TB.str hx
  ·exact TB.str hy).mono (by omega) (by simp)
theorem HV.tb {ws:List Str} {v:V} {h:Hd} (q:HV H v h) (ok:h.ok ns) (hn:∀ n∈ns,Wd n) (hw:∀ z∈h.AW,Wd z):TB H v 3 8273:=by
 cases q with
 | one e=>
  refine (TB.tup (k:=0) (n:=202) e fun v hv=>?_).mono (by omega) (by simp)
  rw [List.mem_singleton.mp hv]
  rcases ok with rfl | rfl<;>exact TB.str (g9 (by decide) (by decide))
 | as e=>exact (L0 e (g9 (by decide) (by decide)) (hn _ ok.2)).mono (by omega) (by omega)
 | way e=>
  refine (TB.tup (k:=0) (n:=202) e fun v hv=>?_).mono (by omega) (by simp)
  simp only [Qp,QA,or_false] at hv
  rcases hv with rfl | rfl | rfl
  ·exact TB.str (g9 (by decide) (by decide))
  ·exact TB.str (hn _ ok.2.2.1)
  ·exact TB.str (hn _ ok.2.2.2)
 | @prs b c s xs ps e e' p=>
  have Ef:=ok.2.2.2
  have hl:=p.len
  refine (TB.tup (k:=2) (n:=4133) e fun v hv=>?_).mono (by omega) (by simp)
  simp only [Qp,QA,or_false] at hv
  rcases hv with rfl | rfl
  ·rcases ok.1 with rfl | rfl<;>exact (TB.str (g9 (by decide) (by decide))).mono (by omega) (by omega)
  ·refine (TB.tup (k:=1) (n:=411) e' fun x hx=>?_).mono (by omega) (by omega)
   obtain ⟨i,hi,rfl⟩:=Qi hx
   have h3:i < ps.length:=by omega
   obtain ⟨c',q1,q2⟩:=p.at_ i hi h3
   rw [q1]
   have hm:ps[i]∈ps:=Qj h3
   exact L0 q2 (hw _ (List.mem_map.mpr ⟨_,hm,rfl⟩)) (hn _ (ok.2.1 _ hm).2.2)
theorem eI (a:Str):kj a a=false:=by
 unfold kj
 exact Qw (List.lt_irrefl _)
def Af (ns:List Str) (n:Str) (o:Option Str):Prop:=∀ y,o=some y->∃ (i j:Nat),i < j/\ns[i]? =some y/\ns[j]? =some n
structure j_ (H:Hp) (ns ws:List Str) (rs:List (Str×V)):Prop where
 sub:∀ r∈rs,r.1∈ns
 hd:∀ r∈rs,pe H ns ws r.2 (Af ns r.1)
theorem j_.tk {H H':Hp} {ns ws:List Str} {rs:List (Str×V)} (h:j_ H ns ws rs) (s:Tk H H'):j_ H' ns ws rs:=⟨h.sub,fun r hr=>(h.hd r hr).tk s⟩
theorem j_.perm {rs rs':List (Str×V)} (h:j_ H ns ws rs) (p:∀ r∈rs',r∈rs):j_ H ns ws rs':=⟨fun r hr=>h.sub r (p r hr),fun r hr=>h.hd r (p r hr)⟩
theorem j_.add {rs:List (Str×V)} (h:j_ H ns ws rs) {n:Str} {v:V} (h1:n∈ns) (h2:pe H ns ws v (Af ns n)):j_ H ns ws ((n,v)::rs):=by
 refine ⟨fun r hr=>?_,fun r hr=>?_⟩<;>rcases Qp.mp hr with rfl | hr
 ·exact h1
 ·exact h.sub r hr
 ·exact h2
 ·exact h.hd r hr
structure RT (H:Hp) (a:Addr) (xs:List V) (rows:List aq) (ns ws:List Str):Prop where
 at_:H a=some (.tup xs)
 rv:RV H xs rows
 nm:(rows.map (·.1)).Perm ns
 nd:ns.Nodup
 ok:LY ns rows
 wd:∀ n∈ns,Wd n
 ah:∀ r∈rows,Af ns r.1 r.2.nx
 ww:∀ r∈rows,∀ z∈r.2.AW,z∈ws
 pos:1<=ns.length
 few:ns.length<=14
section
variable {xs:List V} {rows:List aq}
theorem RT.tk (h:RT H a xs rows ns ws) (s:Tk H H'):RT H' a xs rows ns ws:=⟨s _ _ h.at_,h.rv.tk s,h.nm,h.nd,h.ok,h.wd,h.ah,h.ww,h.pos,h.few⟩
theorem RT.rl (h:RT H a xs rows ns ws):rows.length=ns.length:=by have:=h.nm.length_eq;simpa using this
theorem RT.kc (h:RT H a xs rows ns ws):(rows.map (·.1)).Nodup:=by rw [h.nm.nodup_iff];exact h.nd
theorem RT.of {rs:List (Str×V)} (e:H a=some (.tup xs)) (ps:iw H xs (bj rs)) (nm:(rs.map (·.1)).Perm ns) (nd:ns.Nodup) (L1:∀ n∈ns,isName n=true/\Wd n) (pos:1<=ns.length) (few:ns.length<=14) (g:j_ H ns ws rs):∃ rows,RT H a xs rows ns ws:=by
 have hc:∀ i:Fin rs.length,∃ hd:Hd,HV H rs[i.val].2 hd/\hd.ok ns/\Af ns rs[i.val].1 hd.nx/\∀ z∈hd.AW,z∈ws:=fun i=>(g.hd _ (Qj i.isLt)).ex
 obtain ⟨f,hf⟩:=Classical.axiomOfChoice hc
 have ph:xs.length=rs.length:=by have:=ps.1;simpa using this
 have en:(List.ofFn fun i:Fin rs.length=>((rs[i.val].1,f i):aq)).map (·.1)=rs.map (·.1):=by
  apply List.ext_getElem
  ·simp
  ·intro i h1 h2;simp
 have mem:∀ r∈(List.ofFn fun i:Fin rs.length=>((rs[i.val].1,f i):aq)),∃ i:Fin rs.length,r=(rs[i.val].1,f i):=fun r hr=>by
  obtain ⟨i,hi,rfl⟩:=Qi hr
  exact ⟨⟨i,by simpa using hi⟩,by simp⟩
 refine ⟨List.ofFn fun i=>(rs[i.val].1,f i),e,⟨by simp [ph],fun i h1 h2=>?_⟩,by rw [en];exact nm,nd,fun r hr=>?_,fun n hn=>(L1 n hn).2,fun r hr=>?_,fun r hr=>?_,pos,few⟩
 ·have h3:i < rs.length:=by omega
  obtain ⟨b,e1,e2⟩:=ps.2 i (by simpa using h3)
  rw [Qa h1] at e1
  refine ⟨b,rs[i].2,QD e1,?_,?_⟩
  ·simpa [bj,kV] using e2
  ·simpa using (hf ⟨i,h3⟩).1
 ·obtain ⟨i,rfl⟩:=mem r hr
  exact ⟨(L1 _ (g.sub _ (Qj i.isLt))).1,(hf i).2.1⟩
 ·obtain ⟨i,rfl⟩:=mem r hr
  exact (hf i).2.2.1
 ·obtain ⟨i,rfl⟩:=mem r hr
  exact (hf i).2.2.2
end
section
variable {xs ys:List V} {rows d_:List aq} {ws':List Str} {f g:Str->Str}
theorem RT.pairs (h:RT H a xs rows ns ws):∃ rs:List (Str×V),iw H xs (bj rs)/\rs.map (·.1)=rows.map (·.1)/\rs.length=rows.length/\∀ i (h1:i < rs.length) (h2:i < rows.length),HV H rs[i].2 rows[i].2:=by
 have hl:=h.rv.len
 have hc:∀ i:Fin rows.length,∃ v:V,(∃ b,xs[i.val]? =some (.ref b)/\H b=some (.tup [.str rows[i.val].1,v]))/\HV H v rows[i.val].2:=fun i=>by
  obtain ⟨b,v,q1,q2,q3⟩:=h.rv.at_ i.val (by have:=i.isLt;omega) i.isLt
  exact ⟨v,⟨b,by rw [Qa (by have:=i.isLt;omega),q1],q2⟩,q3⟩
 obtain ⟨f,hf⟩:=Classical.axiomOfChoice hc
 refine ⟨List.ofFn fun i=>(rows[i.val].1,f i),⟨by simp [hl],fun i hi=>?_⟩,?_,by simp,fun i h1 h2=>?_⟩
 ·have cj:i < rows.length:=by simpa using hi
  obtain ⟨b,q1,q2⟩:=(hf ⟨i,cj⟩).1
  exact ⟨b,q1,by simpa [bj,kV] using q2⟩
 ·apply List.ext_getElem
  ·simp
  ·intro i h1 h2;simp
 ·simpa using (hf ⟨i,h2⟩).2
def ak (rows:List aq) (x:Str):Hd:=((rows.find? fun r=>decide (r.1=x)).map (·.2)).getD (.one "")
def gr (rows:List aq) (x:Str):Option Str:=(ak rows x).nx
theorem dB (nd:(rows.map (·.1)).Nodup) {r:aq} (hr:r∈rows):ak rows r.1=r.2:=by
 obtain ⟨i,hi,rfl⟩:=Qi hr
 have:rows.find? (fun r=>decide (r.1=rows[i].1))=some rows[i]:=by
  rw [List.find?_eq_some_iff_getElem]
  refine ⟨by simp,i,hi,rfl,fun j hj=>?_⟩
  have ii:(rows.map (·.1))[j]'(by simp;omega)≠(rows.map (·.1))[i]'(by simpa using hi):=List.pairwise_iff_getElem.mp nd j i (by simp;omega) (by simpa using hi) hj
  simpa using ii
 unfold ak
 rw [this];rfl
theorem HV.Vr {v:V} {h:Hd} (q:HV H v h) (ok:h.ok ns):BO H v h.nx:=by
 cases q with
 | one e=>exact ⟨_,rfl,.inl ⟨_,_,e,by rcases ok with rfl | rfl<;>decide,rfl⟩⟩
 | as e=>exact ⟨_,rfl,.inr ⟨_,e,rfl⟩⟩
 | way e=>exact ⟨_,rfl,.inl ⟨_,_,e,by decide,rfl⟩⟩
 | prs e e' p=>exact ⟨_,rfl,.inl ⟨_,_,e,by rcases ok.1 with rfl | rfl<;>decide,rfl⟩⟩
theorem RT.good (h:RT H a xs rows ns ws) (hw:∀ z∈ws,Wd z):∃ rs,o_ H a xs rs (gr rows) (fun n=>ns.idxOf n)/\rs.map (·.1)=rows.map (·.1)/\rs.length=rows.length/\∀ x v,x∈ns->cg (dictOf (bj rs)) (.inr x)=some v->HV H v (ak rows x):=by
 obtain ⟨rs,ps,nm,rl,hv⟩:=h.pairs
 have Ag:=h.rl
 have hf:=h.few
 have hp:=h.pos
 have nd:(rs.map (·.1)).Nodup:=by rw [nm];exact h.kc
 have ir:∀ n,n∈ns↔n∈rs.map (·.1):=fun n=>by rw [nm];exact h.nm.mem_iff.symm
 have at':∀ r∈rs,∃ r'∈rows,r.1=r'.1/\HV H r.2 r'.2:=fun r hr=>by
  obtain ⟨i,hi,rfl⟩:=Qi hr
  have cj:i < rows.length:=by omega
  refine ⟨rows[i],Qj cj,?_,hv i hi cj⟩
  have:(rs.map (·.1))[i]'(by simpa using hi)=(rows.map (·.1))[i]'(by simpa using cj):=by simp only [nm]
  simpa using this
 have g:o_ H a xs rs (gr rows) (fun n=>ns.idxOf n):=by
  refine ⟨h.at_,ps,nd,by omega,by omega,fun r hr=>?_,fun r hr y hy=>?_,fun r hr=>?_,fun r hr=>?_⟩
  ·obtain ⟨r',ia,e,v⟩:=at' r hr
   unfold gr
   rw [e,dB h.kc ia]
   exact v.Vr (h.ok r' ia).2
  ·obtain ⟨r',ia,e,v⟩:=at' r hr
   unfold gr at hy
   rw [e,dB h.kc ia] at hy
   obtain ⟨i,j,rn,h1,h2⟩:=h.ah r' ia y hy
   refine ⟨(ir y).mp (QC h1),?_⟩
   show ns.idxOf y < ns.idxOf r.1
   rw [e,oF h.nd h1,oF h.nd h2]
   exact rn
  ·have:=List.idxOf_lt_length_of_mem ((ir r.1).mpr (List.mem_map.mpr ⟨r,hr,rfl⟩))
   show ns.idxOf r.1<=_
   omega
  ·obtain ⟨r',ia,e,v⟩:=at' r hr
   refine ⟨h.wd _ ((ir r.1).mpr (List.mem_map.mpr ⟨r,hr,rfl⟩)),v.tb (ws:=ws) (h.ok r' ia).2 h.wd fun z hz=>hw z (h.ww r' ia z hz)⟩
 refine ⟨rs,g,nm,rl,fun x v hx lu=>?_⟩
 obtain ⟨v',m,e⟩:=g.get ((ir x).mp hx)
 rw [lu] at e
 cases e
 obtain ⟨r',ia,e,q⟩:=at' _ m
 have e':x=r'.1:=e
 rw [e',dB h.kc ia]
 exact q
end
def Hd.ck:Hd->List (List Str×Str)
 | .way x y=>[(["from"],x),(["to"],y)]
 | .prs s ps=>ps.map fun p=>([if s="box" then "part" else "case",p.1],p.2)
 | _=>[]
theorem tJ:∀ {h:Hd},h.ok ns->∀ m∈h.ck,m.2∈ns
 | .one _,_,_,hm=>nomatch hm
 | .as _,_,_,hm=>nomatch hm
 | .way x y,ok,m,hm=>by
  simp only [Hd.ck,Qp,QA,or_false] at hm
  rcases hm with rfl | rfl
  ·exact ok.2.2.1
  ·exact ok.2.2.2
 | .prs s ps,ok,m,hm=>by
  obtain ⟨p,hp,rfl⟩:=List.mem_map.mp hm
  exact (ok.2.1 p hp).2.2
structure MV (H:Hp) (xs:List V) (ms:List (List Str×Str)):Prop where
 len:xs.length=ms.length
 at_:∀ i (h:i < xs.length) (h':i < ms.length),∃ c b,xs[i]=.ref c/\H c=some (.tup [.ref b,.str ms[i].2])/\H b=some (.tup (ms[i].1.map V.str))
theorem MV.tk {xs:List V} {ms:List (List Str×Str)} (h:MV H xs ms) (s:Tk H H'):MV H' xs ms:=⟨h.len,fun i a b=>let ⟨c,d,h1,h2,h3⟩:=h.at_ i a b;⟨c,d,h1,s _ _ h2,s _ _ h3⟩⟩
theorem MV.nil:MV H [] []:=⟨rfl,fun i h=>absurd h (by simp)⟩
theorem MV.snoc {xs:List V} {ms:List (List Str×Str)} (h:MV H xs ms) {c:Addr} {m:List Str×Str} (e1:H c=some (.tup [.ref b,.str m.2])) (e2:H b=some (.tup (m.1.map V.str))):MV H (xs++[.ref c]) (ms++[m]):=by
 have hl:=h.len
 refine ⟨by simp [hl],fun i h1 h2=>?_⟩
 by_cases ay:i < xs.length
 ·rw [Qe ay,Qe (by omega)]
  exact h.at_ i ay (by omega)
 ·have e:i=xs.length:=by simp at h1;omega
  subst e
  rw [Qf (Qy _),Qf (by omega)]
  simp only [Nat.sub_self,hl,List.getElem_cons_zero]
  exact ⟨c,b,rfl,e1,e2⟩
def endOf (rows:List aq) (x:Str):Str:=fg (gr rows) rows.length x
def gn (rows:List aq) (x:Str):List (List Str×Str):=(ak rows (endOf rows x)).ck.map fun m=>(m.1,endOf rows m.2)
theorem RT.BR {H:Hp} {a:Addr} {xs:List V} {rows:List aq} {ns ws:List Str} (rt:RT H a xs rows ns ws) (hw:∀ z∈ws,Wd z) {x:Str} (hx:x∈ns):endOf rows x∈ns/\(ak rows (endOf rows x)).nx=none/\(ak rows (endOf rows x)).ok ns:=by
 obtain ⟨rs,g,nm,rl,hv⟩:=rt.good hw
 have hm:∀ z,z∈ns↔z∈rs.map (·.1):=fun z=>by rw [nm];exact rt.nm.mem_iff.symm
 obtain ⟨h1,h2⟩:=g.BR ((hm x).mp hx)
 rw [rl] at h1 h2
 refine ⟨(hm _).mpr h1,h2,?_⟩
 have h3:endOf rows x∈rows.map (·.1):=by rw [<- nm];exact h1
 obtain ⟨r,hr,e⟩:=List.mem_map.mp h3
 rw [<- e,dB rt.kc hr]
 exact (rt.ok r hr).2
structure Eg (K:Q0) (t:Addr×Obj×List V):Prop where
 lk:K.lookup t.1=some t.2.1
 ok:∃ (its:List Value) (n:Nat),t.2.1.cls=.type "tuple"/\t.2.1.dict=none/\t.2.1.data=.seq its.toArray n/\bg t.2.2 its/\t.2.2.length<=sizeLine
def without (K:Q0) (as:List Addr):Q0:=K.filter fun p=> !as.contains p.1
theorem dG {as:List Addr} {b:Addr}:∀ {K:Q0},(without K as).lookup b=if as.contains b=true then none else K.lookup b
 | []=>by unfold without;simp
 | (c,o)::K=>by
  have ih:=dG (as:=as) (b:=b) (K:=K)
  unfold without at ih ⊢
  rw [List.filter_cons]
  by_cases hc:as.contains c=true
  ·have h0:¬(!as.contains (c,o).1)=true:=by show ¬(!as.contains c)=true;rw [hc];decide
   rw [if_neg h0,ih]
   by_cases hb:as.contains b=true
   ·rw [if_pos hb,if_pos hb]
   ·have n:(b==c)=false:=by
     cases e:b==c with
     | false=>rfl
     | true=>rw [eq_of_beq e] at hb;exact absurd hc hb
    rw [if_neg hb,if_neg hb,List.lookup_cons,n]
  ·have h0:(!as.contains (c,o).1)=true:=by
    show (!as.contains c)=true
    cases q:as.contains c with
    | true=>exact absurd q hc
    | false=>rfl
   rw [if_pos h0,List.lookup_cons,List.lookup_cons,ih]
   cases e:b==c with
   | true=>
    have:¬as.contains b=true:=by rw [eq_of_beq e];exact hc
    show some o=if as.contains b=true then none else some o
    rw [if_neg this]
   | false=>rfl
def L3 (H:Hp):Prop:=∀ b,H b=none\/∃ o u,H b=some (.az o u)
def jg (ts:List (Addr×Obj×List V)) (G:Hp):Hp:=fun b=>match ts.find? fun t=>decide (t.1=b) with
 | some t=>some (.az t.2.1 (.tup t.2.2))
 | none=>G b
theorem Vs {ts:List (Addr×Obj×List V)} {G:Hp} {t:Addr×Obj×List V} (h:t∈ts) (nd:(ts.map (·.1)).Nodup):jg ts G t.1=some (.az t.2.1 (.tup t.2.2)):=by
 induction ts with
 | nil=>cases h
 | cons a ts ih=>
  unfold jg
  rw [List.find?_cons]
  rw [List.map_cons,List.nodup_cons] at nd
  by_cases e:a.1=t.1
  ·rw [Qv e]
   rcases Qp.mp h with rfl | h
   ·rfl
   ·exact absurd (List.mem_map.mpr ⟨t,h,e.symm⟩) nd.1
  ·rw [Qw e]
   rcases Qp.mp h with rfl | h
   ·exact absurd rfl e
   ·exact ih h nd.2
theorem fA {ts:List (Addr×Obj×List V)} {G:Hp}:(∃ t∈ts,t.1=b/\jg ts G b=some (.az t.2.1 (.tup t.2.2)))\/((∀ t∈ts,t.1≠b)/\jg ts G b=G b):=by
 unfold jg
 cases q:ts.find? fun t=>decide (t.1=b) with
 | some t=>
  have h1:=List.mem_of_find?_eq_some q
  have h2:=List.find?_some q
  exact .inl ⟨t,h1,Qt h2,rfl⟩
 | none=>
  refine .inr ⟨fun t ht e=>?_,rfl⟩
  have:=List.find?_eq_none.mp q t ht
  simp [e] at this
theorem yE {K:Q0} {mb:Str->Option Value} {CX:wu} {k:Nat} {fa:Addr} {s₁:Shared} {ns:List Int} {ts:List (Addr×Obj×List V)}
  (AX:∀ t∈ts,Eg K t) (nd:(ts.map (·.1)).Nodup)
  (KX:K.In s₁.heap) (L4:s₁.heap.Ns mainGlobals mg) (hb:s₁.heap.Ns builtinsNs mb) (BX:∀ x:Str,x≠"__name__"->mb x=bootBuiltins x) (Vt:s₁.heap.NoLimit) (hg:s₁.gens=#[])
  (ha:s₁.heap.get? a=some {cls:=.type "list",data:=.seq vs.toArray}) (hi:IntsAre vs ns) (hl:ns.length<=sizeLine) (hr:gk k callerA)
  (F:∀ base:Heap,(without K (ts.map (·.1))).In base->base.Ns mainGlobals mg->ud P w (without K (ts.map (·.1))) mg base CX k fa fd [x] sp) (Vu:∀ (s:Shared) (u:Value),BindsTo s fd ⟨[u],[]⟩ [(x,u)])
  (AI:∀ H:Hp,L3 H->(∀ t∈ts,H t.1=some (.az t.2.1 (.tup t.2.2)))->aj (without K (ts.map (·.1))) H a (ns.map V.int)->sp [.ref a] H (fun v _=>v=.bl true) fun _ _ _=>False)
  (Vv:∀ H e s',CX [] H s₁ (fun _ _ _=>False) e s'->False):
  codeAny (model P w) callerA (.call (.ref fa) ⟨[.ref a],[]⟩) (fun r s'=>r=.ok (.ret (.bool true))/\OldK s₁.heap s'.heap/\s'.os=s₁.os/\AllBare s'.gens) s₁:=by
 have rv:=nY hi
 have Vw:=hi.length
 have Ie:∀ t∈ts,s₁.heap.get? t.1=some t.2.1:=fun t ht=>KX _ _ (AX t ht).lk
 have L5:∀ t∈ts,t.1≠a:=fun t ht e=>by
  obtain ⟨its,n,h1,_⟩:=(AX t ht).ok
  have:=Ie t ht
  rw [e,ha] at this
  rw [<- QD this] at h1
  injection h1 with h2
  exact absurd h2 (by decide)
 have core:∀ G:Hp,(∀ b,G b≠none->b=a)->(G a≠none->K.lookup a=none)->(∀ b,G b=none\/∃ o u,G b=some (.az o u))->aj (without K (ts.map (·.1))) (jg ts G) a (ns.map V.int)->(∀ u,G a=some u->∀ H,cz P w H s₁.heap a u)->
   codeAny (model P w) callerA (.call (.ref fa) ⟨[.ref a],[]⟩) (fun r s'=>r=.ok (.ret (.bool true))/\OldK s₁.heap s'.heap/\s'.os=s₁.os/\AllBare s'.gens) s₁:=by
  intro G hG hK hF hS hO
  have nc:∀ b,jg ts G b≠none->b=a\/∃ t∈ts,t.1=b:=fun b q=>by
   rcases fA (ts:=ts) (G:=G) (b:=b) with ⟨t,ht,e,_⟩ | ⟨_,e⟩
   ·exact .inr ⟨t,ht,e⟩
   ·rw [e] at q;exact .inl (hG b q)
  have az:L3 (jg ts G):=fun b=>by
   rcases fA (ts:=ts) (G:=G) (b:=b) with ⟨t,ht,e,q⟩ | ⟨_,q⟩
   ·exact .inr ⟨_,_,q⟩
   ·rw [q];exact hF b
  have hok:fm P w (jg ts G) s₁.heap:=fun b u q=>by
   rcases fA (ts:=ts) (G:=G) (b:=b) with ⟨t,ht,e,q'⟩ | ⟨_,q'⟩
   ·rw [q'] at q
    cases q
    obtain ⟨its,n,h1,h2,h3,h4,h5⟩:=(AX t ht).ok
    have o1:=Ie t ht
    rw [e] at o1
    exact ⟨o1,⟨h5,fun o z=>by rw [o1] at z;cases z;exact h2⟩,its,h4,t.2.1,o1,h1,n,h3⟩
   ·rw [q'] at q
    have e:=hG b (by rw [q];simp)
    subst e
    exact hO u q _
  have L6:∀ {b:Addr} {o:Obj},s₁.heap.get? b=some o->jg ts G b=none->(ze s₁.heap (jg ts G)).get? b=some o:=fun e n=>Qu e n
  have DL:∀ {b:Addr} {o:Obj} {es:Array DictEntry} {ep:Nat},s₁.heap.get? b=some o->o.data=.dict es ep->jg ts G b=none:=fun {b o es ep} e d=>by
   cases q:jg ts G b with
   | none=>rfl
   | some u=>
    rcases nc b (by rw [q];simp) with z | ⟨t,ht,z⟩
    ·subst z
     rw [ha] at e;cases e
     cases d
    ·have o1:=Ie t ht
     rw [z,e] at o1
     cases o1
     obtain ⟨its,n,h1,h2,h3,_⟩:=(AX t ht).ok
     rw [d] at h3;cases h3
  have F1:∀ {b:Addr} {m:Str->Option Value},s₁.heap.Ns b m->(ze s₁.heap (jg ts G)).Ns b m:=fun {b m} ⟨o,es,ep,e,d,r⟩=>⟨o,es,ep,L6 e (DL e d),d,r⟩
  have L7:(without K (ts.map (·.1))).In (ze s₁.heap (jg ts G)):=fun b o e=>by
   rw [dG] at e
   by_cases hc:(ts.map (·.1)).contains b=true
   ·rw [if_pos hc] at e;cases e
   ·rw [if_neg hc] at e
    refine L6 (KX b o e) ?_
    cases q:jg ts G b with
    | none=>rfl
    | some u=>
     rcases fA (ts:=ts) (G:=G) (b:=b) with ⟨t,ht,z,_⟩ | ⟨_,q'⟩
     ·exact absurd (by rw [List.contains_iff_mem];exact List.mem_map.mpr ⟨t,ht,z⟩) hc
     ·rw [q'] at q
      have z:=hG b (by rw [q];simp)
      subst z
      rw [hK (by rw [q];simp)] at e;cases e
  have hM:Mod (without K (ts.map (·.1))) mg (ze s₁.heap (jg ts G)):=⟨L7,F1 L4,⟨mb,F1 hb,BX⟩,let ⟨mc,h1,h2⟩:=Vt;⟨mc,F1 h1,h2⟩⟩
  have e0:BA P w (without K (ts.map (·.1))) mg (ze s₁.heap (jg ts G)) callerA [] s₁ (jg ts G):=⟨rfl,hM,fun b o e=>QM e,Nat.le_of_eq (xW _ _),trivial,fun b hb=>absurd (show b∈([]:List Addr) from hb) (by simp),hok,.of_eq hg⟩
  refine codeAny_mono ((F _ L7 (F1 L4)).run callerA [] s₁ (jg ts G) ⟨[.ref a],[]⟩ [.ref a] [.ref a] _ _ hr e0 (Vu s₁ (.ref a)) (.cons rfl .nil) (AI (jg ts G) az (fun t ht=>Vs ht nd) hS)) fun r s' h=>?_
  cases r with
  | error e=>exact (Vv _ e s' h).elim
  | ok fl=>
   cases fl with
   | next=>exact False.elim h
   | brk=>exact False.elim h
   | cont=>exact False.elim h
   | ret u=>
    obtain ⟨v,H',os,bare,un,Ig,r',q⟩:=h
    have q':v=.bl true:=q
    subst q'
    obtain rfl:u=Value.bool true:=r'
    refine ⟨rfl,OldK.of_keep fun b o e=>?_,os,bare⟩
    cases q:jg ts G b with
    | none=>exact un.keep b o e q (by intro z;exact absurd (show b∈([]:List Addr) from z) (by simp)) (by simp)
    | some u=>
     rcases az b with z | ⟨ob,u',z⟩
     ·rw [q] at z;cases z
     ·have z2:=un.ux b ob _ z
      obtain ⟨e1,_⟩:=hok b _ z
      obtain ⟨e2,_⟩:=Ig b _ z2
      rw [e] at e1;cases e1
      exact e2
 have Vx:¬(ts.map (·.1)).contains a=true:=fun h=>by
  rw [List.contains_iff_mem] at h
  obtain ⟨t,ht,e⟩:=List.mem_map.mp h
  exact L5 t ht e
 have Vy:∀ G:Hp,jg ts G a=G a:=fun G=>by
  rcases fA (ts:=ts) (G:=G) (b:=a) with ⟨t,ht,e,_⟩ | ⟨_,q⟩
  ·exact absurd e (L5 t ht)
  ·exact q
 cases hk:K.lookup a with
 | some o=>
  have e:=KX a o hk
  rw [ha] at e
  cases e
  exact core (fun _=>none) (fun b z=>absurd rfl z) (fun z=>absurd rfl z) (fun _=>.inl rfl) (.inr ⟨_,vs.toArray,_,by rw [dG,if_neg Vx];exact hk,rfl,rfl,rfl,by rw [List.size_toArray,Vw];exact hl,by simpa using rv⟩) fun u z=>by cases z
 | none=>
  refine core (fun b=>if b=a then some (.az {cls:=.type "list",data:=.seq vs.toArray} (.lst (ns.map V.int))) else none) (fun b z=>?_) (fun _=>hk) (fun b=>?_) (.inl (.inr ⟨{cls:=.type "list",data:=.seq vs.toArray},by rw [Vy];exact if_pos rfl⟩)) fun u z H=>?_
  ·by_cases hb:b=a
   ·exact hb
   ·exact absurd (if_neg hb) z
  ·by_cases hb:b=a
   ·exact .inr ⟨_,_,if_pos hb⟩
   ·exact .inl (if_neg hb)
  ·have z':=(if_pos rfl).symm.trans z
   cases z'
   exact ⟨ha,by rw [Ql];exact hl,vs,_,rv,ha⟩
def adr (mg:Str->Option Value) (x:Str):Addr:=match mg x with
 | some (.ref a)=>a
 | _=>0
theorem Vz (h:mg x=some (.ref a)):RelV (.ref (adr mg x)) (.ref a):=by
 unfold adr
 rw [h]
 exact rfl
def Kn (mg:Str->Option Value) (H:Hp) (x:Str) (ys:List V):Prop:=∃ o,H (adr mg x)=some (.az o (.tup ys))
theorem Kn.same {ys:List V} (h:Kn mg H x ys) (s:aa H H'):Kn mg H' x ys:=let ⟨o,e⟩:=h;⟨o,s _ _ e⟩
theorem Kn.rd {ys:List V} (h:Kn mg H x ys):au H (adr mg x) ys:=.inr h
theorem au.same {ys:List V} (h:au H b ys) (s:aa H H'):au H' b ys:=h.imp (fun e=>s _ _ e) fun ⟨o,e⟩=>⟨o,s _ _ e⟩
structure SV (H:Hp) (xs:List V) (ss:List (List Str)):Prop where
 len:xs.length=ss.length
 at_:∀ i (h:i < xs.length) (h':i < ss.length),∃ b,xs[i]=.ref b/\au H b (ss[i].map V.str)
theorem SV.keep {xs:List V} (h:SV H xs ss) (s:∀ b ys,au H b ys->au H' b ys):SV H' xs ss:=⟨h.len,fun i a b=>let ⟨c,h1,h2⟩:=h.at_ i a b;⟨c,h1,s _ _ h2⟩⟩
theorem SV.nil:SV H [] []:=⟨rfl,fun i h=>absurd h (by simp)⟩
theorem SV.snoc {xs:List V} (h:SV H xs ss) {m:List Str} (e:au H b (m.map V.str)):SV H (xs++[.ref b]) (ss++[m]):=by
 have hl:=h.len
 refine ⟨by simp [hl],fun i h1 h2=>?_⟩
 by_cases ay:i < xs.length
 ·rw [Qe ay,Qe (by omega)]
  exact h.at_ i ay (by omega)
 ·have e':i=xs.length:=by simp at h1;omega
  subst e'
  rw [Qf (Qy _),Qf (by omega)]
  simp only [Nat.sub_self,hl,List.getElem_cons_zero]
  exact ⟨b,rfl,e⟩
section
variable {iter kx vx:Expr} {pos:Pos} {tk tw:TE}
def L8 (own:List Str) (idx:List Nat) (wi:TI) (g:TG) (tc:TC) (tk tw:TE):TE:=fun σ H Q=>wi σ H fun J H1=>∀ D,H1 D=none->∃ W:Nat->Nat->St->Hp->Prop,(∃ m,W 0 m (ue own idx σ) (upd H1 D (.dT [])))/\∀ i m τ H,W i m τ H->
 (J.stop i H/\Q (.ref D) H)\/(J.go i H/\∃ N:St->Hp->Prop,(∀ τ' H',N τ' H'->∃ m',m' < m/\W (i+1) m' τ' H')/\∀ x H',J.qi i H x H'->g x τ H' fun τ2 H2=>tc τ2 H2 fun b H3=>
  if b=true then tk τ2 H3 fun x H4=>tw τ2 H4 fun y H5=>∃ kvs key b,x=.ref b/\au H5 b (key.map kV)/\H5 D=some (.dT kvs)/\kvs.length < sizeLine/\N τ2 (upd H5 D (.dT (putK kvs key y))) else N τ2 H3)
theorem qB (S:q_ X.env.scope X.N sc own idx N') (c1:∀ x c,cl.lookup x=some c->X.env.cells.lookup x=some c) (c2:∀ y∈sc.names,y.2=.free->∃ c,cl.lookup y.1=some c) (hc:X.calm=true) (hu:X.A.units < cLine)
  (hg:∀ cl C s3 H0 fp pn,PG (di X N' sc cl C s3 H0 fp pn) tg g) (ht:∀ cl C s3 H0 fp pn,uh (di X N' sc cl C s3 H0 fp pn) ifs tc) (he:∀ cl C s3 H0 fp pn,PE (di X N' sc cl C s3 H0 fp pn) kx tk) (hv:∀ cl C s3 H0 fp pn,PE (di X N' sc cl C s3 H0 fp pn) vx tw)
  {pins:List (Addr×Obj)} {σ:St} {Q:VK} {qm:Value} {s2:Shared} {RR:Value->Addr->Result->Shared->Prop} {E:Value->Shared->Prop}
  (hI:Cs X pins σ tg (fun J H1=>∀ D,H1 D=none->∃ W:Nat->Nat->St->Hp->Prop,(∃ m,W 0 m (ue own idx σ) (upd H1 D (.dT [])))/\∀ i m τ H,W i m τ H->
   (J.stop i H/\Q (.ref D) H)\/(J.go i H/\∃ N:St->Hp->Prop,(∀ τ' H',N τ' H'->∃ m',m' < m/\W (i+1) m' τ' H')/\∀ x H',J.qi i H x H'->g x τ H' fun τ2 H2=>tc τ2 H2 fun b H3=>
    if b=true then tk τ2 H3 fun x H4=>tw τ2 H4 fun y H5=>∃ kvs key b,x=.ref b/\au H5 b (key.map kV)/\H5 D=some (.dT kvs)/\kvs.length < sizeLine/\N τ2 (upd H5 D (.dT (putK kvs key y))) else N τ2 H3)) qm s2)
  (DQ:∀ D C H' s',Inv X pins σ H' s'->Q (.ref D) H'->(H' C=none/\C≠X.env.locals/\X.s₀.heap.objs.size<=C/\(∀ x c,X.env.cells.lookup x=some c->c≠C)/\(∀ p∈X.pn++pins,p.1≠C)/\∃ m,s'.heap.Ns C m)->RR (.ref D) C (.ok .next) s'):
  wpAny (model X.prog X.w) X.A newDict (fun acc s₃=>wpAny (model X.prog X.w) X.A (newFunctionEnv sc X.env.globals cl [] X.env.qual none .none (some X.env)) (fun cenv s₄=>
   codeAny (model X.prog X.w) X.A (.compStart (.DictComp kx vx [⟨tg,iter,ifs,0⟩] sc pos) 0 qm acc {cenv with scope:=relabel sc X.env}) (RR acc cenv.locals) s₄) E s₃) E s2:=by
 obtain ⟨it,fp,tn,J,H2,rfl,I,T,gf,f2,body⟩:=hI
 refine wpAny_newObj_type (wpAny_newFunctionEnv S.cell (by intro y hy;simp at hy) (fun h4 ns sb=>?_) S.kind)
 dsimp only at ns sb ⊢
 have xf:jk.isFreed=false:=rfl
 have fr:H2 s2.heap.objs.size=none:=I.hok.fresh (Qy _)
 obtain ⟨W,⟨m0,w0⟩,turn⟩:=body _ fr
 have ug:∀ b∈fp,∃ o,s2.heap.get? b=some o:=fun b hb=>let ⟨o,e,_⟩:=T.obj _ _ gf b hb;⟨o,e⟩
 have yl:∀ b o,(s2.heap.push jk).get? b=some o->h4.get? b=some o:=fun b o e=>(sb.2 b (Nat.ne_of_lt (Qz e))).trans (Qc _ e)
 have DR:∀ (H:Hp) (h:Heap),h.get? s2.heap.objs.size=some jk->cz X.prog X.w H h s2.heap.objs.size (.dT []):=fun H h e=>⟨Nat.zero_le _,beq_eq_false_iff_ne.mpr (Ne.symm (Nat.ne_of_lt I.big)),[],.nil,_,#[],0,e,⟨rfl,rfl,rfl⟩,rfl,rfl,List.nodup_nil⟩
 have I4:Inv (di X N' sc cl (s2.heap.push jk).objs.size {s2 with heap:=s2.heap.push jk} (upd H2 s2.heap.objs.size (.dT [])) fp (X.pn++pins)) [] (ue own idx σ) (upd H2 s2.heap.objs.size (.dT [])) {s2 with heap:=h4,toks:=s2.toks+([]:List (Str×Value)).length}:=
  m5 S I f2 ug c1 c2 xf DR ns yl
 -- Bu Lq own context
 generalize hY:di X N' sc cl (s2.heap.push jk).objs.size {s2 with heap:=s2.heap.push jk} (upd H2 s2.heap.objs.size (.dT [])) fp (X.pn++pins)=Y at I4
 have DS:PG Y tg g:=by rw [<- hY];exact hg _ _ _ _ _ _
 have DT:uh Y ifs tc:=by rw [<- hY];exact ht _ _ _ _ _ _
 have DU:PE Y kx tk:=by rw [<- hY];exact he _ _ _ _ _ _
 have HP:PE Y vx tw:=by rw [<- hY];exact hv _ _ _ _ _ _
 have pY:Y.prog=X.prog:=by rw [<- hY]
 have wY:Y.w=X.w:=by rw [<- hY]
 have KY:Y.K=X.K:=by rw [<- hY]
 have AY:Y.A=X.A:=by rw [<- hY]
 have cY:Y.calm=true:=by rw [<- hY];exact hc
 have xY:Y.xe=fun _ _=>False:=by rw [<- hY]
 have eY:Y.env=compEnvC sc cl (s2.heap.push jk).objs.size X.env:=by rw [<- hY]
 have DW:Y.ex=fp:=by rw [<- hY]
 have DY:Y.fs=ni X.stack:=by rw [<- hY]
 have DZ:Y.pn=X.pn++pins:=by rw [<- hY]
 have qo:∀ {H':Hp},(∀ b∈fp,H' b=none)->∀ b∈fp,qj Y [] H' b:=fun hn b hb=>by
  obtain ⟨f0,f1,f3,f4,f5,f6⟩:=f2 b hb
  refine ⟨hn b hb,?_,?_,.inl (by rw [DW];exact hb),fun x c e=>?_,fun p hp=>?_⟩
  ·obtain ⟨o,e⟩:=ug b hb
   have:=Qz e
   rw [eY]
   show b≠(s2.heap.push jk).objs.size
   rw [Heap.size_push];exact Nat.ne_of_lt (Nat.lt_succ_of_lt this)
  ·rw [DY]
   intro z
   rcases Qp.mp (I.Bp b z) with z | z
   ·exact f1 z
   ·exact f3 z
  ·rw [eY] at e
   exact f5 x c (c1 x c e)
  ·rw [DZ,QR] at hp
   exact f6 p hp
 have AR:tn 0 h4:=T.keep _ _ _ gf fun b hb o e=>yl b o (Qc _ e)
 have D0:∀ b∈fp,upd H2 s2.heap.objs.size (.dT []) b=none:=fun b hb=>by
  obtain ⟨o,e⟩:=ug b hb
  rw [aF (Nat.ne_of_lt (Qz e))]
  exact (f2 b hb).1
 have loop:codeAny (model X.prog X.w) X.A (.compLoop (.DictComp kx vx [⟨tg,iter,ifs,0⟩] sc pos) 0 (.ref it) (.ref s2.heap.objs.size) (compEnvC sc cl (s2.heap.push jk).objs.size X.env))
   (RR (.ref s2.heap.objs.size) (s2.heap.push jk).objs.size) {s2 with heap:=h4,toks:=s2.toks+([]:List (Str×Value)).length}:=by
  refine LC (fun n s'=>∃ i τ H',Inv Y [] τ H' s'/\tn i s'.heap/\(∀ b∈fp,H' b=none)/\W i n τ H') ?_ m0 ⟨0,_,_,I4,AR,D0,w0⟩
  rintro n s3 ⟨i,τ3,H3,I3,wm,wo,w3⟩
  rcases turn i n τ3 H3 w3 with ⟨stop,qn⟩ | ⟨go,N,hN,step⟩
  ·have h:=T.done Y pY wY KY cY i [] s3 τ3 H3 kh I3 (qo wo) wm stop
   rw [AY] at h
   refine av h ?_
   rintro r s4 ⟨hr,D5⟩
   subst hr
   have J4:=D5
   rw [<- hY] at J4
   obtain ⟨b1,b2⟩:=kL I f2 xf J4
   exact DQ _ _ _ _ b1 qn b2
  ·have h:=T.item Y pY wY KY cY i [] s3 τ3 H3 kh I3 (qo wo) wm go
   rw [AY] at h
   refine av h ?_
   rintro r s4 ⟨u,hr,D6⟩
   subst hr
   refine av D6 ?_
   rintro _ s5 ⟨x,H5,I5,r5,y5,qp,Bv⟩
   have Bw:=I5.pinned (qo Bv) (T.obj _ _ qp)
   have g5:=DS _ s5 τ3 H5 x u _ Bw r5 (step x H5 y5)
   rw [pY,wY,AY,xY,eY] at g5
   refine av g5 ?_
   rintro _ s6 ⟨τ6,H6,I6,q6⟩
   have t6:=DT _ s6 τ6 H6 _ I6 q6
   rw [pY,wY,AY,xY,eY] at t6
   refine av t6 ?_
   rintro ok s7 ⟨H7,I7,q7⟩
   have again:∀ {τ8:St} {H8:Hp} {s8:Shared},Inv Y ([]++Bt fp s5.heap) τ8 H8 s8->N τ8 H8->∃ m,m < n/\∃ i τ' H',Inv Y [] τ' H' s8/\tn i s8.heap/\(∀ b∈fp,H' b=none)/\W i m τ' H':=fun {τ8 H8 s8} I8 n8=>by
    obtain ⟨m',hm,w8⟩:=hN τ8 H8 n8
    refine ⟨m',hm,i+1,τ8,H8,I8.Ct,T.keep _ _ _ qp fun b hb o e=>(I8.pin (b,o) (List.mem_append_right _ (List.mem_append_right _ (cK hb e)))).1,fun b hb=>?_,w8⟩
    obtain ⟨o,e,d⟩:=T.obj _ _ qp b hb
    exact (I8.pin (b,o) (List.mem_append_right _ (List.mem_append_right _ (cK hb e)))).2.1
   cases ok with
   | false=>
    rw [if_neg (by decide)] at q7 ⊢
    exact again I7 q7
   | true=>
    rw [if_pos rfl] at q7 ⊢
    have e7:=DU _ s7 τ6 H7 _ I7 q7
    rw [pY,wY,AY,xY,eY] at e7
    refine av e7 ?_
    rintro kv s8 ⟨x8,H8,I8,r8,q8⟩
    have v8:=HP _ s8 τ6 H8 _ I8 q8
    rw [pY,wY,AY,xY,eY] at v8
    refine av v8 ?_
    rintro yv s9 ⟨y9,H9,I9,r9,kvs,key,b9,ek,eb,CG,hz,n9⟩
    subst ek
    cases (show kv=Value.ref b9 from r8)
    obtain ⟨z,hd,xs,rel,dd⟩:=Li I9.hok CG
    have BL:xs.length<=sizeLine:=by rw [<- Paired.length rel];exact z
    have fc:(putK kvs key y9).length<=sizeLine:=by have:=cX kvs key y9;omega
    have L_:=fB I9.hok eb
    rw [pY,wY] at dd L_
    refine wpAny_dictSet_heap (hsz:=BL) hu L_ dd fun h' ow hs=>?_
    rw [<- pY,<- wY] at ow
    obtain ⟨q,es,ep,hq,h2,h3,h4,_,h5⟩:=ow
    have CH:=jV (t':=s9.toks+(tupleKind (bx X.prog X.w)).draws key) (ob:=.dT (putK kvs key y9)) I9 (by rw [CG];exact True.intro) hs ⟨q,hq⟩ ⟨fc,hd,_,(rel.put key eb r9).keeps fun c ys ec=>ec.upd fun u hu z=>by subst z;rcases ec with ec | ⟨_,ec⟩<;>(rw [CG] at ec;cases ec),q,es,ep,hq,h2,h3,h4,h5⟩
    exact again CH n9
 exact codeAny_compStart_dict loop (T.self _ 0 _ _ _ AR loop)
theorem VA (S:q_ X.env.scope X.N sc own idx N') (hc:X.calm=true) (hu:X.A.units < cLine) (hi:PI X tg iter wi)
  (hg:∀ cl C s3 H0 fp pn,PG (di X N' sc cl C s3 H0 fp pn) tg g) (ht:∀ cl C s3 H0 fp pn,uh (di X N' sc cl C s3 H0 fp pn) ifs tc) (he:∀ cl C s3 H0 fp pn,PE (di X N' sc cl C s3 H0 fp pn) kx tk) (hv:∀ cl C s3 H0 fp pn,PE (di X N' sc cl C s3 H0 fp pn) vx tw)
  (hs:∀ x,foldedSetIterable iter X.env x=pure x:=by intro _;rfl):PE X (.DictComp kx vx [⟨tg,iter,ifs,0⟩] sc pos) (L8 own idx wi g tc tk tw):=by
 intro pins s σ H Q I h
 obtain ⟨cl,nq,c1,c2⟩:=S.closure I.ok
 show wpAny _ X.A (comprehension (.DictComp kx vx [⟨tg,iter,ifs,0⟩] sc pos) sc X.env _ newDict false (eval iter X.env)) _ _ s
 refine wpAny_comprehension_free (use:=none) rfl hs nq S.kind S.names (av (hi pins s σ H _ I h) fun v s1 h1=>av h1 fun qm s2 h2=>?_)
 refine qB (Q:=Q) (pins:=pins) (σ:=σ) (RR:=fun acc C=>compPost (model X.prog X.w) X.A X.xe none (EP X pins σ Q) acc C) S c1 c2 hc hu hg ht he hv h2 ?_
 intro D C H' s' I' q ⟨a1,a2,a3,a4,a5,m,a6⟩
 exact ⟨m,a6,fun h' sb=>⟨.ref D,H',I'.turned (t':=s'.toks) (fun b o hb e=>(sb.2 b hb).trans e) a1 (Ne.symm (Ne.symm a2)) (.inr a3) a4 a5,rfl,q⟩⟩
theorem VB (S:q_ X.env.scope X.N sc own idx N') (hc:X.calm=true) (hu:X.A.units < cLine) (hi:SI X tg iter wi)
  (hg:∀ cl C s3 H0 fp pn,SG (di X N' sc cl C s3 H0 fp pn) tg g) (ht:∀ cl C s3 H0 fp pn,SC (di X N' sc cl C s3 H0 fp pn) ifs tc) (he:∀ cl C s3 H0 fp pn,SE (di X N' sc cl C s3 H0 fp pn) kx tk) (hv:∀ cl C s3 H0 fp pn,SE (di X N' sc cl C s3 H0 fp pn) vx tw)
  (hs:∀ x,foldedSetIterable iter X.env x=pure x:=by intro _;rfl):SE X (.DictComp kx vx [⟨tg,iter,ifs,0⟩] sc pos) (L8 own idx wi g tc tk tw):=
 ⟨VA S hc hu hi.h (fun q r s t u v=>(hg q r s t u v).h) (fun q r s t u v=>(ht q r s t u v).h) (fun q r s t u v=>(he q r s t u v).h) (fun q r s t u v=>(hv q r s t u v).h) hs⟩
end
def Eh (K:Q0) (mg:Str->Option Value) (x q:Str) (st:Stmt) (ps fs:List Str) (C:Addr):Prop:=
 mg x=some (.ref C)/\yj K C/\(∀ f∈fs,yk K C f)/\∃ (f:Addr) (fd:FuncData),Mk K C f/\AO K "__init__" q st f fd/\Binds K fd ps []
def Ei (P:Program) (w:World) (K:Q0) (mg:Str->Option Value) (base:Heap) (k:Nat) (x:Str) (C:Addr) (ps:List Str) (sp:Sp):Prop:=
 mg x=some (.ref C)/\∃ (f:Addr) (fd:FuncData),Mk K C f/\ud P w K mg base Aa k f fd ps sp/\Binds K fd ps []
section
variable {o value:Expr} {es:List Expr} {ta tv:TE} {t:TA} {f:Str} {pos pos' p:Pos} {k:Nat}
theorem iF (K:Q0) (he:SE X e te) (h:X.K=K:=by rfl) (hb:attributeBase e f X.env (eval e X.env)=eval e X.env:=by rfl):SE X (.Attribute e f pos) (K4 K te f):=by subst h;exact ⟨Se he.h hb⟩
theorem vZ (K:Q0) (ha:SE X o ta) (hv:SE X value tv) (h:X.K=K:=by rfl) (hs:swapsWith value (some (.Attribute o f pos')) pos.line X.env=pure false:=by rfl):SS X (.Assign [.Attribute o f pos'] value pos) (Fy K ta tv f):=by subst h;exact ⟨Sf ha.h hv.h hs⟩
theorem oW (F:Ei X.prog X.w X.K X.mg X.base k x C ps sp) (hr:gk (k+1) X.A) (ha:SA X (e::es) t) (hg:Gl X x:=by rfl) (nj:(x==("__debug__":Str))=false:=by decide)
  (he:starEach (e::es) X.env=(false,eval e X.env)::starEach es X.env:=by rfl) (h_:(backTo pos (starEach es X.env)).any (·.1)=false:=by rfl):
  SE X (.Call (.Name x p) (e::es) [] pos) (K6 C sp [] E0 t):=by
 obtain ⟨m,f,fd,M,G,b⟩:=F
 exact ⟨Sn M G hr hg m b .nil Lo ha.h nj he h_⟩
end
theorem Eh.fk {K:Q0} {q:Str} {st:Stmt} {N fs:List Str} {k:Nat} (F:Eh K mg x q st ps fs C) (S:dw N ps (bh st)) (len:∀ vs H Q E,sp vs H Q E->vs.length=ps.length)
  (zp:∀ (f:Addr) (bc:Value) (A:Around) (outer:List Env) (s:Shared) (H:Hp) (vs:List V) (Q:VK) (E:XK),gk k (A.deeper (envOfC q (bh st) s.heap.objs.size f bc))->sp vs H Q E->
   ∃ t,SB (zo Aa P w K mg base N q (bh st) f bc A outer s H E).Bq (lh st) t/\t {nx:=fun _ H'=>Q .ai H',rt:=Q} (start N vs) H):Ei P w K mg base (k+1) x C ps sp:=by
 obtain ⟨m,_,_,f,fd,M,Fu,b⟩:=F
 exact ⟨m,f,fd,M,Fu.ok S len fun bc A outer s H vs Q E hr h=>let ⟨t,h1,h2⟩:=zp f bc A outer s H vs Q E hr h;⟨t,h1.h,h2⟩,b⟩
theorem Inv.VC {kvs:List (List Key×V)} (I:Inv X pins σ H s) (h:Rd H a (.dT kvs)):∃ o,Inv X pins σ (upd H a (.az o (.dT kvs))) s:=by
 rcases h with h | ⟨o,h⟩
 ·have ok:=(show cz X.prog X.w H s.heap a (.dT kvs) from I.hok a _ h)
  obtain ⟨z,hd,xs,rel,o,es,ep,h1,h2,h3,h4,h5⟩:=ok
  refine ⟨o,I.write (x:=a) (e:=a) (h':=s.heap) (t':=s.toks) (o:=.az o (.dT kvs)) (by rw [h];exact True.intro) (.inl rfl) (fun b u _ q=>q) ⟨o,h1⟩ ⟨h1,z,hd,xs,?_,o,es,ep,h1,h2,h3,h4,h5⟩⟩
  exact (show KT H kvs xs from rel).keeps fun c ys ec=>ec.upd fun u hu z=>by subst z;rcases ec with ec | ⟨_,ec⟩<;>(rw [h] at ec;cases ec)
 ·exact ⟨o,by rw [rV h];exact I⟩
def VD (te:TE):TE:=fun σ H Q=>te σ H fun x H1=>∃ a,x=.ref a/\((∃ kvs,Rd H1 a (.dK kvs)/\∀ o,Q x (upd H1 a (.az o (.dK kvs))))\/∃ kvs,Rd H1 a (.dT kvs)/\∀ o,Q x (upd H1 a (.az o (.dT kvs))))
theorem sC (he:SE X e te):SE X e (VD te):=by
 constructor
 intro pins s σ H Q I h
 refine av (he.h pins s σ H _ I h) ?_
 rintro v s1 ⟨x,H1,I1,r1,a,ex,q⟩
 rcases q with ⟨kvs,hr,q⟩ | ⟨kvs,hr,q⟩
 ·obtain ⟨o,es,ep,hd,I2,ho⟩:=I1.freeze hr
  exact ⟨x,_,I2,r1,q o⟩
 ·obtain ⟨o,I2⟩:=I1.VC hr
  exact ⟨x,_,I2,r1,q o⟩
def valAt (kvs:List (Key×V)) (i:Nat):V:=((kvs[i]?).map fun kv=>kv.2).getD .ai
def Ej (a:Addr) (o:Obj) (kvs:List (Key×V)):It:=⟨fun i H=>H a=some (.az o (.dK kvs))/\i < kvs.length,fun i H x H'=>FQ (s_ kvs i) (valAt kvs i) H x H',fun i H=>H a=some (.az o (.dK kvs))/\kvs.length=i⟩
theorem oK {o:Obj} (kvs:List (Key×V)):FU (Ej a o kvs) (fun H=>H a=some (.az o (.dK kvs))) kvs.length (s_ kvs) (valAt kvs):=fun H ok=>⟨fun i hi=>⟨⟨ok,hi⟩,fun x H' h=>h⟩,ok,rfl⟩
theorem VE {kvs:List (Key×V)} {vs:List (Key×Value)} (r:KV kvs vs):∀ {i:Nat} {p:Key×V},kvs[i]? =some p->∃ q,vs[i]? =some q/\q.1=p.1/\RelV p.2 q.2:=by
 intro i
 induction r generalizing i with
 | nil=>intro p h;simp at h
 | cons a t ih=>
  intro p h
  cases i with
  | zero=>simp at h;subst h;exact ⟨_,by simp,a.1.symm,a.2⟩
  | succ i=>simp at h;simpa using ih h
theorem uO {K:Q0} {k:Nat} {pos:Pos} {it:Addr} {o:Obj} {kvs:List (Key×V)} {ep:Nat} (hai:a≠it) (CI:∃ es,o.data=.dict es ep):
  Turn P w K (.Tuple Dv k pos) (Ej a o kvs) [it] it (fun i h=>∃ ok ov,IsItemIter h it a i kvs.length ep ok ov) where
 mem:=by simp
 obj:=fun i h st b hb=>by
  have e:b=it:=by simpa using hb
  subst e
  obtain ⟨ok,ov,he⟩:=st
  exact ⟨_,he,fun v z=>by
   have z':Data.fields _=Data.cell v:=z
   cases z'⟩
 keep:=fun i h h' st k=>let ⟨ok,ov,he⟩:=st;⟨ok,ov,k it (by simp) _ he⟩
 item:=by
  intro X hP hw hK hc i pins s σ H E I hf st hg
  subst hP hw hK
  obtain ⟨ok,ov,he⟩:=st
  obtain ⟨hq,hi⟩:=hg
  obtain ⟨e,z,hd,vs,rel,ob,es,AF,h1,h2,h3,h4⟩:=(show cz X.prog X.w H s.heap a (.az o (.dK kvs)) from I.hok a _ hq)
  obtain ⟨es',xm⟩:=CI
  rw [e] at h1;cases h1
  rw [xm] at h3;injection h3 with Ad Ae
  subst Ad Ae
  obtain ⟨q,ve,vf,VF⟩:=VE rel (Qa hi)
  have hl:=rel.len
  obtain ⟨qk,qv⟩:=q
  refine wpAny_pyNext_items_item (knd:=bx X.prog X.w) (kvs:=vs) (ep:=ep) (ok:=ok) (ov:=ov) (by rw [<- hl];exact he) ⟨o,es',e,h2,xm,h4⟩ ve fun key h' hk ho hT hsz VG=>?_
  have rk:RelV (s_ kvs i) key:=by
   unfold s_
   rw [Qa hi]
   show RelV (kV kvs[i].1) key
   have HY:qk=kvs[i].1:=vf
   rw [<- HY]
   exact qQ hk
  have rv:RelV (valAt kvs i) qv:=by
   unfold valAt
   rw [Qa hi]
   exact VF
  have I1:Inv X pins σ (upd H s.heap.objs.size (.tup [s_ kvs i,valAt kvs i])) {s with heap:=h'}:=I.LJ (t':=s.toks) hf (fun b o hb e=>VG b o (fun z=>hb (by simp [z])) e) (Qy _) (wM rk rv hT)
  refine ⟨_,rfl,wpAny_letOwnedTupleGo_items (s:={s with heap:=h'}) ho fun D_ VH sb=>?_⟩
  have ay:it≠s.heap.objs.size:=Nat.ne_of_lt (Qz he)
  obtain ⟨f0,f1,f2,f3,f4,f5⟩:=hf it (by simp)
  have Ma:upd H s.heap.objs.size (.tup [s_ kvs i,valAt kvs i]) it=none:=by rw [aF ay];exact f0
  refine ⟨.ref s.heap.objs.size,_,I1.turned (t':=s.toks) (fun b o hb q=>(sb.2 b hb).trans q) Ma f1 f3 f4 f5,rfl,⟨_,rfl,I.hok.fresh (Qy _),rfl⟩,⟨_,_,by rw [hl];exact VH⟩,fun b hb=>?_⟩
  have e:b=it:=by simpa using hb
  subst e
  exact Ma
 done:=by
  intro X hP hw hK hc i pins s σ H E I hf st hg
  subst hP hw hK
  obtain ⟨ok,ov,he⟩:=st
  obtain ⟨hq,hi⟩:=hg
  obtain ⟨e,z,hd,vs,rel,ob,es,AF,h1,h2,h3,h4⟩:=(show cz X.prog X.w H s.heap a (.az o (.dK kvs)) from I.hok a _ hq)
  obtain ⟨es',xm⟩:=CI
  rw [e] at h1;cases h1
  rw [xm] at h3;injection h3 with Ad Ae
  subst Ad Ae
  have hl:=rel.len
  obtain ⟨f0,f1,f2,f3,f4,f5⟩:=hf it (by simp)
  exact wpAny_pyNext_items_end (knd:=bx X.prog X.w) (kvs:=vs) (ep:=ep) (ok:=ok) (ov:=ov) (I.ok.hd hc) (by rw [<- hl];exact he) ⟨o,es',e,h2,xm,h4⟩ (by simp;omega) fun h' eb=>⟨rfl,I.turned (t':=s.toks) (fun b o hb e=>eb b o hb e) f0 f1 f3 f4 f5⟩
 self:=fun _ _ _ _ _ st h=>let ⟨_,_,he⟩:=st;PySem.W.kcp_self he h
section
variable {k:Nat} {By:Pos} {o:Expr}
def VI (te:TE):TI:=fun σ H R=>te σ H fun x H1=>∃ a kvs,x=.ref a/\((∃ o,H1 a=some (.az o (.dK kvs))/\R (Ej a o kvs) H1)\/(H1 a=some (.dK kvs)/\∀ o,R (Ej a o kvs) (upd H1 a (.az o (.dK kvs)))))
theorem rO (ho:SE X o to) (qx:attributeBase o "items" X.env (eval o X.env)=eval o X.env:=by rfl) (qz:(apos.endLine==cpos.line)=true:=by rfl):
  SI X (.Tuple Dv k By) (.Call (.Attribute o "items" apos) [] [] cpos) (VI to):=by
 constructor
 intro pins s σ H R I h
 refine wpAny_Call_method0_late qx qz (av (ho.h pins s σ H _ I h) ?_)
 rintro v s1 ⟨x,H1,I1,r1,a,kvs,ex,hr⟩
 subst ex
 cases r1
 obtain ⟨o,H2,I2,VJ,q⟩:∃ (o:Obj) (H2:Hp),Inv X pins σ H2 s1/\H2 a=some (.az o (.dK kvs))/\R (Ej a o kvs) H2:=by
  rcases hr with ⟨o,e,q⟩ | ⟨e,q⟩
  ·exact ⟨o,H1,I1,e,q⟩
  ·obtain ⟨o,_,_,_,I2,_⟩:=I1.freeze (.inl e)
   exact ⟨o,_,I2,aA,q o⟩
 obtain ⟨e,z,HZ,vs,rel,ob,es,ep,h1,h2,hd,h4⟩:=(show cz X.prog X.w _ s1.heap a (.az o (.dK kvs)) from I2.hok a _ VJ)
 rw [e] at h1;cases h1
 have hl:=rel.len
 have hT:s1.TypeIs (.ref a) "dict":=⟨o,e,h2.1⟩
 refine ⟨"dict","dict.items",PySem.F.plainAttrs_dict,PySem.F.slot_dict_items,PySem.F.type_dict_items,hT,fun b hb=>by cases hb;exact ⟨o,e,h2.2.1⟩,Calls.callWith_builtin rfl (PySem.evalArgs_none ?_)⟩
 refine call_meetsIn PySem.F.slot_dict_items hT PySem.F.entry_dict_items (PySem.F.args_dict_items_1 _) (meets_dict_items (bx X.prog X.w) a HZ) ⟨⟨vs,o,es,ep,e,h2,hd,h4⟩,?_⟩
 have I3:Inv X pins σ H2 {s1 with heap:=s1.heap.push {cls:=.type "dict_items",data:=.fields #[.ref a]}}:=I2.kept (t':=s1.toks) fun b o e=>Qc _ e
 refine wpAny_pyIter_items (knd:=bx X.prog X.w) (kvs:=vs) (ep:=ep) ⟨_,Qd _ rfl,rfl,rfl⟩ ⟨o,es,Qc _ e,h2,hd,h4⟩ ?_
 have ii:a≠(s1.heap.push {cls:=.type "dict_items",data:=.fields #[.ref a]}).objs.size:=by
  rw [Heap.size_push];exact Nat.ne_of_lt (Nat.lt_succ_of_lt (Qz e))
 refine ⟨_,[(s1.heap.push {cls:=.type "dict_items",data:=.fields #[.ref a]}).objs.size],_,_,_,rfl,I3.kept (t':=s1.toks) fun b o e=>Qc _ e,uO (kvs:=kvs) (a:=a) (o:=o) ii ⟨es,hd⟩,⟨.none,.none,by rw [hl];exact Qd _ rfl⟩,fun b hb=>?_,q⟩
 have e:b=(s1.heap.push {cls:=.type "dict_items",data:=.fields #[.ref a]}).objs.size:=by simpa using hb
 subst e
 exact I3.AH (Qy _) (I3.hok.fresh (Qy _))
end
end L2
namespace PySem
end PySem
namespace L2
open PySem PySem.Spec PyProof.Rows
theorem au.inj {xs ys:List V} (h:au H a xs) (h':au H a ys):xs=ys:=by
 rcases h with h | ⟨o,h⟩<;>rcases h' with h' | ⟨o',h'⟩<;>(rw [h] at h';cases h')<;>rfl
theorem m3 {xs ys:List Str} (h:xs.map V.str=ys.map V.str):xs=ys:=by
 induction xs generalizing ys with
 | nil=>cases ys with
  | nil=>rfl
  | cons y ys=>simp at h
 | cons x xs ih=>cases ys with
  | nil=>simp at h
  | cons y ys=>
   simp only [List.map_cons,List.cons.injEq,V.str.injEq] at h
   rw [h.1,ih h.2]
theorem mS (xs ys:List Str):((List.range (min xs.length ys.length)).all (fun j=>xs.getD j ""==ys.getD j "")&&xs.length==ys.length)=decide (xs=ys):=by
 by_cases h:xs=ys
 ·subst h;simp
 ·rw [Qw h,Bool.and_eq_false_iff]
  by_cases hl:xs.length=ys.length
  ·left
   rw [Bool.eq_false_iff]
   intro kg
   apply h
   refine List.ext_getElem hl fun i h1 h2=>?_
   have:=QF.mp kg i (by simp;omega)
   simpa [Qb,Qa h1,Qa h2] using this
  ·right;simpa using hl
theorem wD (I:Inv X pins σ H s) {xs ys:List Str} (h1:au H a (xs.map V.str)) (h2:au H b (ys.map V.str)) (hu:A.units+2 < cLine):SeqAt.EqAt A s (.ref a) (.ref b) (decide (xs=ys)):=by
 by_cases lj:a=b
 ·subst lj
  have e:xs=ys:=m3 (h1.inj h2)
  rw [Qv e]
  exact SeqAt.EqAt.same _
 ·obtain ⟨i1,r1,p1,_⟩:=I.tuple (.inl h1)
  obtain ⟨i2,r2,p2,_⟩:=I.tuple (.inl h2)
  have l1:=r1.length
  have l2:=r2.length
  rw [Ql] at l1 l2
  have:=SeqAt.RcAt.tuples (A:=A) (e:=fun j=>xs.getD j ""==ys.getD j "") p1 p2 (by omega) fun j g1 g2=>by
   have k1:j < xs.length:=by simp at g1;omega
   have k2:j < ys.length:=by simp at g2;omega
   obtain ⟨w1,e1,q1⟩:=r1.get (i:=j) (x:=.str xs[j]) (by simp [k1])
   obtain ⟨w2,e2,q2⟩:=r2.get (i:=j) (x:=.str ys[j]) (by simp [k2])
   have m1:i1.toArray[j]=w1:=by rw [Qa (by simpa using g1)] at e1;simpa using e1
   have m2:i2.toArray[j]=w2:=by rw [Qa (by simpa using g2)] at e2;simpa using e2
   rw [m1,m2]
   obtain ⟨t,rfl⟩:=q1
   obtain ⟨t',rfl⟩:=q2
   have:=SeqAt.EqAt.str_str (A:=A.in1) (s:=s) xs[j] t ys[j] t'
   simpa [Qb,Qa k1,Qa k2] using this
  have e:((List.range (min i1.toArray.size i2.toArray.size)).all (fun j=>xs.getD j ""==ys.getD j "")&&i1.toArray.size==i2.toArray.size)=decide (xs=ys):=by
   rw [<- mS xs ys];simp only [List.size_toArray,<- l1,<- l2]
  rw [e] at this
  exact SeqAt.EqAt.of_refs lj this
section
variable {o:Expr} {es:List Expr} {t:TA}
end
theorem pH {a0:Expr} {n:Str} {iu:Pos} {es:List Expr} {t:TA} (ha:SE X (.Attribute a0 n iu) te) (hr:SA X es t):SA X (.Attribute a0 n iu::es) (g_ te t):=⟨cT ha.h hr.h⟩
theorem VL {K:Q0} {it:Array Value} {sq:Array (Option Value)} {xs:List V} (gl:K.lookup a=some ⟨.type "tuple",none,.seq it n,sq⟩) (gv:bg xs it.toList) (gz:xs.length<=sizeLine):Eg K (a,⟨.type "tuple",none,.seq it n,sq⟩,xs):=
 ⟨gl,it.toList,n,rfl,rfl,by simp,gv,gz⟩
theorem tE {K:Q0} {as:List Addr} (x:K.In h):(without K as).In h:=fun a o e=>by
 rw [dG] at e
 by_cases hc:as.contains a=true
 ·rw [if_pos hc] at e;cases e
 ·rw [if_neg hc] at e;exact x a o e
end L2
set_option autoImplicit false
namespace L2
open PySem PySem.Spec PySem.W PyProof.Rows
def Ih:Data->Bool
 | .freed=>false
 | _=>true
def BZ:Nat->List Obj->Frag
 | _,[]=>[]
 | n,o::os=>if Ih o.data then (n,o)::BZ (n+1) os else BZ (n+1) os
def Ii (h:Heap):Frag:=BZ 0 h.objs.toList
theorem gY:∀ {os:List Obj} {n a:Nat} {o:Obj},(BZ n os).lookup a=some o->n<=a/\os[a - n]? =some o/\Ih o.data=true
 | [],n,a,o,h=>by simp [BZ] at h
 | x::os,n,a,o,h=>by
  unfold BZ at h
  have next:(BZ (n+1) os).lookup a=some o->n<=a/\(x::os)[a - n]? =some o/\Ih o.data=true:=fun h=>by
   obtain ⟨h1,h2,h3⟩:=gY h
   refine ⟨by omega,?_,h3⟩
   obtain ⟨k,hk⟩:∃ k,a - n=k+1:=⟨a - n - 1,by omega⟩
   rw [hk,List.getElem?_cons_succ,<- h2]
   congr 1;omega
  split at h
  ·rename_i hf
   rw [List.lookup_cons] at h
   split at h
   ·rename_i e
    obtain rfl:a=n:=by simpa using e
    cases h
    exact ⟨Qy _,by simp,hf⟩
   ·exact next h
  ·exact next h
theorem uR (h:Heap):(Ii h).In h:=fun a o e=>by
 obtain ⟨_,h2,h3⟩:=gY e
 have rf:h.objs[a]? =some o:=by rw [<- Array.getElem?_toList];simpa using h2
 unfold Heap.get?
 rw [rf]
 obtain ⟨c,d,dt,sl⟩:=o
 cases dt<;>first | rfl | cases h3
def xn {α:Type} (look:Frag->α) (want:World->α):Hook where
 α:=α
 obs s:=look (Ii s.heap)
 val:=want
 says w h:=∃ K:Frag,K.In h/\look K=want w
 of:=fun w s e=>⟨Ii s.heap,uR _,e⟩
 keeps:=fun w h h' ⟨K,x,e⟩ k=>⟨K,fun a o l=>k a o (x a o l),e⟩
theorem yW {p q:Program} {loose:List Str} {Xt:Shared->Bool} {Yf:Shared->α} {Ya:World->α} {N:Nat} {g0:Bool} (row:String)
  (hF:∀ w:World,(openEnds treeTable p (w.withFollow row false) N).map (fun s=>(openSeen q loose (importedModules p.main.body) Xt g0 s,Yf s))=some (openGood q loose,Ya (w.withFollow row false)))
  (hT:∀ w:World,(openEnds treeTable p (w.withFollow row true) N).map (fun s=>(openSeen q loose (importedModules p.main.body) Xt g0 s,Yf s))=some (openGood q loose,Ya (w.withFollow row true))):LeftO p q loose Xt Yf Ya N g0:=fun w=>by
 have e:=World.withFollow_self w row
 cases hb:w.params.followText row<;>rw [hb] at e
 ·have:=hF w;rw [e] at this;exact this
 ·have:=hT w;rw [e] at this;exact this
abbrev Ek:=Str×Str×Arguments×FuncBody×Scope×Addr×List (Str×Addr)×Value×Addr×Bool
def fnAt (K:Frag) (q:Str):Option (Option Value)->Option Ek
 | some (some (.ref f))=>(match K.lookup f with
  | some ⟨_,_,.func fd,_⟩=>some (fd.name,fd.qualname,fd.params,fd.body,fd.scope,fd.globals,fd.closure,fd.defaults,fd.builtins,codeIn K fd.code q)
  | _=>none)
 | _=>none
def CN (x q:Str) (st:Stmt):Ek:=(x,q,su st,.stmts (lh st),bh st,mainGlobals,[],.none,builtinsNs,true)
def Ah (K:Frag):List (Str×Stmt)->List (Option Ek)
 | []=>[]
 | x::l=>fnAt K x.1 (nsIn K mainGlobals x.1)::Ah K l
def Ai:List (Str×Stmt)->List (Option Ek)
 | []=>[]
 | x::l=>some (CN x.1 x.1 x.2)::Ai l
def VM (K:Frag) (x:Str):Option V:=match nsIn K mainGlobals x with
 | some (some v)=>zh v
 | _=>none
def Mb (K:Frag):List (Str×V)->List (Option V)
 | []=>[]
 | x::l=>VM K x.1::Mb K l
def Mc:List (Str×V)->List (Option V)
 | []=>[]
 | x::l=>some x.2::Mc l
abbrev CO:=Value×Option Addr×List (Option V)
def F2:List Value->List (Option V)
 | []=>[]
 | v::l=>zh v::F2 l
def F3:List V->List (Option V)
 | []=>[]
 | v::l=>some v::F3 l
def El (K:Frag):Value->Option CO
 | .ref a=>(match K.lookup a with
  | some ⟨c,d,.seq it _,_⟩=>some (c,d,F2 it.toList)
  | _=>none)
 | _=>none
def Aj (xs:List V):CO:=(.type "tuple",none,F3 xs)
def Em (K:Frag) (x:Str):Option CO:=match nsIn K mainGlobals x with
 | some (some v)=>El K v
 | _=>none
def AZ (K:Frag):List (Str×List V)->List (Option CO)
 | []=>[]
 | x::l=>Em K x.1::AZ K l
def A0:List (Str×List V)->List (Option CO)
 | []=>[]
 | x::l=>some (Aj x.2)::A0 l
def CP (K:Frag):List Str->Bool
 | []=>true
 | x::l=>(match nsIn K mainGlobals x with | some none=>true | _=>false)&&CP K l
section
variable {K:Frag}
theorem jH {v:Value} {x:V} (e:zh v=some x):RelV x v:=by
 cases v<;>first | (cases e;first | rfl | exact ⟨_,rfl⟩) | cases e
theorem nS:∀ {us:List Value} {xs:List V},F2 us=F3 xs->bg xs us
 | [],[],_=>.nil
 | [],_::_,e=>by cases e
 | _::_,[],e=>by cases e
 | u::us,x::xs,e=>by
  have e':=List.cons.inj (show zh u::F2 us=some x::F3 xs from e)
  exact .cons (jH e'.1) (nS e'.2)
theorem vY {q:Str} {st:Stmt} {v:Option (Option Value)} (e:fnAt K q v=some (CN x q st)):∃ f fd,v=some (some (.ref f))/\AO K x q st f fd:=by
 unfold fnAt at e
 split at e
 ·rename_i f
  split at e
  ·rename_i oc od fd nk hl
   have e:=QD e
   unfold CN at e
   obtain ⟨n,qn,ps,b,sc,gl,cl,df,kd,doc,pm,an,cd,ct,bt⟩:=fd
   simp only [Prod.mk.injEq] at e
   obtain ⟨rfl,rfl,rfl,rfl,rfl,rfl,rfl,rfl,rfl,hc⟩:=e
   refine ⟨f,_,rfl,TJ hl hc ?_⟩
   unfold keepIn
   simp only [hl]
  ·cases e
 ·cases e
theorem wF:∀ {l:List (Str×Stmt)},Ah K l=Ai l->∀ (i:Nat) {x:Str} {st:Stmt},l[i]? =some (x,st)->fnAt K x (nsIn K mainGlobals x)=some (CN x x st)
 | y::l,e,0,x,st,h=>by cases h;exact (List.cons.inj e).1
 | y::l,e,i+1,x,st,h=>wF (List.cons.inj e).2 i (by simpa using h)
theorem m4 (X:K.In h) (G:h.Ns mainGlobals mg) {l:List (Str×Stmt)} (e:Ah K l=Ai l) (i:Nat) {st:Stmt} (hi:l[i]? =some (x,st))
  (hb:∀ (kV doc pm:Value) (an:Option Addr) (bc ct:Value) (us:List Value),us.length=ps.length->bindArgs (fnOf x x (su st) (lh st) (bh st) .none kV doc pm an bc ct) ⟨us,[]⟩=pure (ps.zip us)):dm K mg x st ps:=by
 obtain ⟨f,fd,e1,F⟩:=vY (wF e i hi)
 exact ⟨f,fd,F,mg_of X G e1,F.binds hb⟩
variable {st:Stmt} {l:List (Str×Stmt)} {p0 p1 p2 p3 p4 p5 p6:Str}
theorem rg (h:us.length=n+1):∃ a t,us=a::t/\t.length=n:=by
 cases us with
 | nil=>cases h
 | cons a t=>exact ⟨a,t,rfl,by simpa using h⟩
theorem B0 (X:K.In h) (G:h.Ns mainGlobals mg) (e:Ah K l=Ai l) (i:Nat) (hi:l[i]? =some (x,st):=by rfl)
  (hb:∀ (kV doc pm:Value) (an:Option Addr) (bc ct a0:Value),bindArgs (fnOf x x (su st) (lh st) (bh st) .none kV doc pm an bc ct) ⟨[a0],[]⟩=pure [(p0,a0)]:=by intros;rfl):dm K mg x st [p0]:=
 m4 X G e i hi fun a b c d f g us hl=>by
  obtain ⟨a0,F4,rfl,jl⟩:=rg (n:=0) hl
  obtain rfl:=QS jl
  exact hb ..
theorem ly (X:K.In h) (G:h.Ns mainGlobals mg) (e:Ah K l=Ai l) (i:Nat) (hi:l[i]? =some (x,st):=by rfl)
  (hb:∀ (kV doc pm:Value) (an:Option Addr) (bc ct a0 a1:Value),bindArgs (fnOf x x (su st) (lh st) (bh st) .none kV doc pm an bc ct) ⟨[a0,a1],[]⟩=pure [(p0,a0),(p1,a1)]:=by intros;rfl):dm K mg x st [p0,p1]:=
 m4 X G e i hi fun a b c d f g us hl=>by
  obtain ⟨a0,F4,rfl,jl⟩:=rg (n:=1) hl
  obtain ⟨a1,nu,rfl,hl1⟩:=rg (n:=0) jl
  obtain rfl:=QS hl1
  exact hb ..
theorem F5 (X:K.In h) (G:h.Ns mainGlobals mg) (e:Ah K l=Ai l) (i:Nat) (hi:l[i]? =some (x,st):=by rfl)
  (hb:∀ (kV doc pm:Value) (an:Option Addr) (bc ct a0 a1 a2:Value),bindArgs (fnOf x x (su st) (lh st) (bh st) .none kV doc pm an bc ct) ⟨[a0,a1,a2],[]⟩=pure [(p0,a0),(p1,a1),(p2,a2)]:=by intros;rfl):dm K mg x st [p0,p1,p2]:=
 m4 X G e i hi fun a b c d f g us hl=>by
  obtain ⟨a0,F4,rfl,jl⟩:=rg (n:=2) hl
  obtain ⟨a1,nu,rfl,hl1⟩:=rg (n:=1) jl
  obtain ⟨a2,fz,rfl,sr⟩:=rg (n:=0) hl1
  obtain rfl:=QS sr
  exact hb ..
theorem En (X:K.In h) (G:h.Ns mainGlobals mg) (e:Ah K l=Ai l) (i:Nat) (hi:l[i]? =some (x,st):=by rfl)
  (hb:∀ (kV doc pm:Value) (an:Option Addr) (bc ct a0 a1 a2 a3:Value),bindArgs (fnOf x x (su st) (lh st) (bh st) .none kV doc pm an bc ct) ⟨[a0,a1,a2,a3],[]⟩=pure [(p0,a0),(p1,a1),(p2,a2),(p3,a3)]:=by intros;rfl):dm K mg x st [p0,p1,p2,p3]:=
 m4 X G e i hi fun a b c d f g us hl=>by
  obtain ⟨a0,F4,rfl,jl⟩:=rg (n:=3) hl
  obtain ⟨a1,nu,rfl,hl1⟩:=rg (n:=2) jl
  obtain ⟨a2,fz,rfl,sr⟩:=rg (n:=1) hl1
  obtain ⟨a3,xo,rfl,Ij⟩:=rg (n:=0) sr
  obtain rfl:=QS Ij
  exact hb ..
theorem VN (X:K.In h) (G:h.Ns mainGlobals mg) (e:Ah K l=Ai l) (i:Nat) (hi:l[i]? =some (x,st):=by rfl)
  (hb:∀ (kV doc pm:Value) (an:Option Addr) (bc ct a0 a1 a2 a3 a4:Value),bindArgs (fnOf x x (su st) (lh st) (bh st) .none kV doc pm an bc ct) ⟨[a0,a1,a2,a3,a4],[]⟩=pure [(p0,a0),(p1,a1),(p2,a2),(p3,a3),(p4,a4)]:=by intros;rfl):dm K mg x st [p0,p1,p2,p3,p4]:=
 m4 X G e i hi fun a b c d f g us hl=>by
  obtain ⟨a0,F4,rfl,jl⟩:=rg (n:=4) hl
  obtain ⟨a1,nu,rfl,hl1⟩:=rg (n:=3) jl
  obtain ⟨a2,fz,rfl,sr⟩:=rg (n:=2) hl1
  obtain ⟨a3,xo,rfl,Ij⟩:=rg (n:=1) sr
  obtain ⟨a4,us4,rfl,Me⟩:=rg (n:=0) Ij
  obtain rfl:=QS Me
  exact hb ..
theorem sQ {v:Value} {xs:List V} (e:El K v=some (Aj xs)):∃ (a:Addr) (it:Array Value) (n:Nat) (sq:Array (Option Value)),v=.ref a/\K.lookup a=some ⟨.type "tuple",none,.seq it n,sq⟩/\bg xs it.toList:=by
 unfold El at e
 split at e
 ·rename_i a
  split at e
  ·rename_i c d it n sl hl
   have e:=QD e
   unfold Aj at e
   simp only [Prod.mk.injEq] at e
   obtain ⟨rfl,rfl,e3⟩:=e
   exact ⟨a,it,n,sl,rfl,hl,nS e3⟩
  ·cases e
 ·cases e
theorem j3 {xs:List V} (e:Em K x=some (Aj xs)):∃ (a:Addr) (it:Array Value) (n:Nat) (sq:Array (Option Value)),nsIn K mainGlobals x=some (some (.ref a))/\K.lookup a=some ⟨.type "tuple",none,.seq it n,sq⟩/\bg xs it.toList:=by
 unfold Em at e
 split at e
 ·rename_i u hn
  obtain ⟨a,it,n,sq,rfl,h1,h2⟩:=sQ e
  exact ⟨a,it,n,sq,hn,h1,h2⟩
 ·cases e
theorem mQ:∀ {l:List (Str×List V)},AZ K l=A0 l->∀ (i:Nat) {x:Str} {v:List V},l[i]? =some (x,v)->Em K x=some (Aj v)
 | y::l,e,0,x,st,h=>by cases h;exact (List.cons.inj e).1
 | y::l,e,i+1,x,st,h=>mQ (List.cons.inj e).2 i (by simpa using h)
theorem zJ {it:Array Value} {d:Option Addr} {sq:Array (Option Value)} {xs:List V} (hl:K.lookup a=some ⟨.type "tuple",d,.seq it n,sq⟩) (hv:bg xs it.toList) (hz:xs.length<=sizeLine) (H:Hp):af K H a xs:=
 .inr ⟨_,it,n,hl,rfl,rfl,by have:=hv.length;simp at this;omega,hv⟩
theorem tu (X:K.In h) (G:h.Ns mainGlobals mg) {l:List (Str×List V)} (e:AZ K l=A0 l) (i:Nat) {v:List V} (hi:l[i]? =some (x,v):=by rfl) (hz:v.length<=sizeLine:=by decide):∃ a,mg x=some (.ref a)/\∀ H,af K H a v:=by
 obtain ⟨a,it,n,sq,h1,h2,h3⟩:=j3 (mQ e i hi)
 exact ⟨a,mg_of X G h1,zJ h2 h3 hz⟩
theorem sK:∀ {l:List Str},CP K l=true->∀ (i:Nat) {x:Str},l[i]? =some x->nsIn K mainGlobals x=some none
 | y::l,e,0,x,h=>by
  cases h
  unfold CP at e
  rw [Bool.and_eq_true_iff] at e
  have e:=e.1
  split at e
  ·assumption
  ·cases e
 | y::l,e,i+1,x,h=>by
  unfold CP at e
  rw [Bool.and_eq_true_iff] at e
  exact sK e.2 i (by simpa using h)
theorem nn (X:K.In h) (G:h.Ns mainGlobals mg) {l:List Str} (e:CP K l=true) (i:Nat) (hi:l[i]? =some x:=by rfl):mg x=none:=mg_none_of X G (sK e i hi)
end
inductive CQ where
 | v (x:Option V)
 | t (x:Option CO)
abbrev F6:=Value×Option Addr×Nat×Bool×List (Int×Option V×CQ)
def Eo (K:Frag) (v:Value):CQ:=match v with
 | .ref _=>.t (El K v)
 | _=>.v (zh v)
def Ep (K:Frag):List DictEntry->List (Int×Option V×CQ)
 | []=>[]
 | e::l=>(e.hash,zh e.key,Eo K e.val)::Ep K l
def F7 (K:Frag) (x:Str):Option F6:=match nsIn K mainGlobals x with
 | some (some (.ref a))=>(match K.lookup a with
  | some ⟨c,d,.dict es _,sl⟩=>some (c,d,sl.size,a==sysModules,Ep K es.toList)
  | _=>none)
 | _=>none
abbrev tq:=Str×(V ⊕ List V)
def CS (w:World):List tq->List (Int×Option V×CQ)
 | []=>[]
 | (k,.inl v)::l=>(Dw w (.inr k),some (.str k),.v (some v))::CS w l
 | (k,.inr v)::l=>(Dw w (.inr k),some (.str k),.t (some (Aj v)))::CS w l
def F8 (w:World) (l:List tq):F6:=(.type "dict",none,0,false,CS w l)
def Ik (K:Frag):List (Str×List tq)->List (Option F6)
 | []=>[]
 | x::l=>F7 K x.1::Ik K l
def Il (w:World):List (Str×List tq)->List (Option F6)
 | []=>[]
 | x::l=>some (F8 w x.2)::Il w l
def A1 (K:Frag):List tq->List V->Prop
 | [],[]=>True
 | (_,.inl v)::l,u::us=>u=v/\A1 K l us
 | (_,.inr xs)::l,u::us=>(∃ a,u=.ref a/\∀ H,af K H a xs)/\A1 K l us
 | _,_=>False
def Im:List tq->List V->List (Key×V)
 | e::l,u::us=>(.inr e.1,u)::Im l us
 | _,_=>[]
def Er:List tq->Bool
 | []=>true
 | (_,.inl _)::l=>Er l
 | (_,.inr xs)::l=>decide (xs.length<=1000)&&Er l
section
variable {K:Frag}
theorem k5:∀ {l:List tq},Er l=true->∀ e∈l,∀ xs,e.2=.inr xs->xs.length<=sizeLine
 | (_,.inl _)::l,h,e,he,xs,hx=>by
  rcases Qp.mp he with rfl | he
  ·cases hx
  ·exact k5 (l:=l) h e he xs hx
 | (_,.inr ys)::l,h,e,he,xs,hx=>by
  unfold Er at h
  rw [Bool.and_eq_true_iff,decide_eq_true_iff] at h
  rcases Qp.mp he with rfl | he
  ·cases hx;exact Nat.le_trans h.1 (by decide)
  ·exact k5 (l:=l) h.2 e he xs hx
theorem Mf {k:Str} {v:V} {l:List tq} {us:List V} (e:A1 K ((k,.inl v)::l) us):∃ vs,us=v::vs/\A1 K l vs:=by
 cases us with
 | nil=>exact False.elim e
 | cons u vs=>obtain ⟨rfl,r⟩:=(show u=v/\A1 K l vs from e);exact ⟨vs,rfl,r⟩
theorem VO {us:List V} (e:A1 K [] us):us=[]:=by
 cases us with
 | nil=>rfl
 | cons u vs=>exact False.elim e
theorem pE:∀ {l:List tq} {es:List DictEntry},Ep K es=CS w l->(∀ e∈l,∀ xs,e.2=.inr xs->xs.length<=sizeLine)->∃ (us:List V) (vs:List (Key×Value)),A1 K l us/\(∀ P,Pairs (bx P w) es vs)/\(∀ P,∀ e∈es,∃ k,(bx P w).is k e.key=true/\e.hash=(bx P w).hash k)/\KV (Im l us) vs/\vs.map (·.1)=l.map (fun e=>.inr e.1)
 | [],[],_,_=>⟨[],[],trivial,fun _=>.nil,(fun _ _ h=>nomatch h),.nil,rfl⟩
 | [],_::_,e,_=>by cases e
 | (_,.inl _)::_,[],e,_=>by cases e
 | (_,.inr _)::_,[],e,_=>by cases e
 | (k,.inl v)::l,d::es,e,hz=>by
  have e':=List.cons.inj (show (d.hash,zh d.key,Eo K d.val)::Ep K es=(Dw w (.inr k),some (.str k),.v (some v))::CS w l from e)
  obtain ⟨us,vs,h1,h2,h3,h4,h5⟩:=pE e'.2 fun x hx=>hz x (Qh _ hx)
  have e1:=e'.1
  simp only [Prod.mk.injEq] at e1
  obtain ⟨q1,q2,q3⟩:=e1
  obtain ⟨t,q2⟩:=jH q2
  have q4:RelV v d.val:=by
   unfold Eo at q3
   split at q3
   ·cases q3
   ·exact jH (CQ.v.inj q3)
  have hk:∀ P,(bx P w).is (.inr k) d.key=true:=fun P=>by rw [q2];exact iA P w k t
  refine ⟨v::us,(.inr k,d.val)::vs,⟨rfl,h1⟩,fun P=>.cons (kv:=((Sum.inr k,d.val):Key×Value)) (hk P) rfl (h2 P),fun P y hy=>?_,.cons ⟨rfl,q4⟩ h4,by simp [h5]⟩
  rcases Qp.mp hy with rfl | hy
  ·exact ⟨.inr k,hk P,q1⟩
  ·exact h3 P y hy
 | (k,.inr xs)::l,d::es,e,hz=>by
  have e':=List.cons.inj (show (d.hash,zh d.key,Eo K d.val)::Ep K es=(Dw w (.inr k),some (.str k),.t (some (Aj xs)))::CS w l from e)
  obtain ⟨us,vs,h1,h2,h3,h4,h5⟩:=pE e'.2 fun x hx=>hz x (Qh _ hx)
  have e1:=e'.1
  simp only [Prod.mk.injEq] at e1
  obtain ⟨q1,q2,q3⟩:=e1
  obtain ⟨t,q2⟩:=jH q2
  have q4:El K d.val=some (Aj xs):=by
   unfold Eo at q3
   split at q3
   ·exact CQ.t.inj q3
   ·cases q3
  obtain ⟨a,it,n,sq,q5,q6,q7⟩:=sQ q4
  have hk:∀ P,(bx P w).is (.inr k) d.key=true:=fun P=>by rw [q2];exact iA P w k t
  refine ⟨.ref a::us,(.inr k,d.val)::vs,⟨⟨a,rfl,zJ q6 q7 (hz _ (List.mem_cons_self ..) xs rfl)⟩,h1⟩,fun P=>.cons (kv:=((Sum.inr k,d.val):Key×Value)) (hk P) rfl (h2 P),fun P y hy=>?_,.cons ⟨rfl,by rw [q5];rfl⟩ h4,by simp [h5]⟩
  rcases Qp.mp hy with rfl | hy
  ·exact ⟨.inr k,hk P,q1⟩
  ·exact h3 P y hy
theorem VP {l:List tq} (X:K.In h) (G:h.Ns mainGlobals mg) (e:F7 K x=some (F8 w l)) (Ib:Er l=true) (nd:(l.map (·.1)).Nodup):∃ (a:Addr) (us:List V),mg x=some (.ref a)/\A1 K l us/\KD w K a (Im l us):=by
 have hz:=k5 Ib
 unfold F7 at e
 split at e
 ·rename_i a hn
  split at e
  ·rename_i c d es ep sl hl
   have e:=QD e
   unfold F8 at e
   simp only [Prod.mk.injEq] at e
   obtain ⟨rfl,rfl,e3,e4,e5⟩:=e
   obtain ⟨us,vs,h1,h2,h3,h4,h5⟩:=pE e5 hz
   refine ⟨a,us,mg_of X G hn,h1,fun P=>⟨_,es,ep,vs,hl,e4,⟨rfl,rfl,Array.eq_empty_of_size_eq_zero e3⟩,rfl,fun y hy=>h3 P y (by simpa using hy),h2 P,?_,h4⟩⟩
   rw [h5]
   have:l.map (fun e=>(Sum.inr e.1:Key))=(l.map (·.1)).map Sum.inr:=by simp
   rw [this]
   exact List.Pairwise.map _ (fun a b q c=>q (Sum.inr.inj c)) nd
  ·cases e
 ·cases e
theorem sV:∀ {l:List (Str×List tq)},Ik K l=Il w l->∀ (i:Nat) {x:Str} {v:List tq},l[i]? =some (x,v)->F7 K x=some (F8 w v)
 | y::l,e,0,x,st,h=>by cases h;exact (List.cons.inj e).1
 | y::l,e,i+1,x,st,h=>sV (List.cons.inj e).2 i (by simpa using h)
end
abbrev Mg:List Str:=["type","isinstance","issubclass","getattr","hasattr"]
theorem VQ {l:OpenLaw} {p:Program} (hp:l.prog=p)
 (a0:sreFenced p.main=true) (a1:((moduleNames p.main.body).isEmpty||lookedIntoSs (moduleNames p.main.body) p.main.body)=true)
 (a2:namesResolve p=true) (a3:p.boundNames.all (fun n=> !worldNames.contains n)=true)
 (a4:noRoadLSs {strict:= !(importedModules p.main.body).all cThrough.contains,foot:=none,bare:=(["vars","dir","locals"]:List Str).filter (readsOut p p.main.body)} p.main.body=true)
 (a5:(namesMeet p p.main.body fun _ n=>attrL n)=true)
 (a6:l.row.toRowW.solid=true) (VR:l.row.pre.litsOk=true)
 (a7:p.boundNames.contains l.name=true) (a8:(!startupNames.contains l.name)=true)
 (a9:decide (l.foot<=(behindTheImports p).length)=true)
 (b0:l.footing.all footLine=true) (b1:noClassBlock p l.footing=true)
 (b2:l.most.all (fun n=>decide (63<=n))=true) (b3:l.bound.all (fun n=>decide (2^63<=n))=true)
 (b4:noRoadLSs {strict:=true,foot:=some l.bound',writes:=l.writes,may:=l.may} l.footing=true)
 (b5:defStands l.about l.above=true) (b6:l.namesIt=true) (b7:Mg.all (fun n=>l.about !=[n])=true)
 (b8:l.bound'.all (fun n=> !builtinNamed n||l.about==[n]|| !l.reads n)=true)
 (b9:(!l.writes||(p.main.body.flatMap importedNames).all fun n=> !l.reads n)=true)
 (c0:(p.main.body.flatMap importedNames).all (fun n=> !l.reads n||(drawsOf n p.main.body).all fun mn=>mn.2 !=("attrgetter":Str)&&mn.2 !=("methodcaller":Str))=true)
 (c1:namesMeet p l.footing (fun sc n=>(!Mg.contains n||sc.names.lookup n==some .globalImplicit)&&(l.may !=some n||sc.kind==.module||sc.names.lookup n==some .globalImplicit))=true)
 (c2:l.own.contains l.name=true) (c3:(l.own.eraseDups.length==l.own.length)=true) (c4:l.own.all (fun n=> !builtinNamed n)=true)
 (c5:namesMeet p l.above (fun _ n=> !l.own.contains n)=true) (c6:(namesMeet p l.footing fun sc n=>sc.kind==.module||sc.names.lookup n !=some .globalExplicit)=true):l.wellSaid=true:=by
 subst hp
 have q:l.row.wellSaid=true:=by
  unfold OpenRow.wellSaid OpenRow.partSaid looksOpen
  exact look_both (look_both (look_both (look_both (look_both (look_both (look_both (look_both (look_both (look_both (look_both (look_both (look_both (look_both (look_both (look_both (look_both (look_both (look_both (look_both a0 a1) a2) a3) a4) a5) rfl) rfl) rfl) rfl) rfl) rfl) a6) VR) rfl) rfl) rfl) rfl) rfl) a7) a8
 unfold OpenLaw.wellSaid
 rw [q,a9,b0,b1,b2,b3,b4,b5,b6,b7,b8,b9,c0,c1,c2,c3,c4,c5,c6];rfl
theorem VS {l:OpenLaw} {k:Nat} {q:Program} {loose:List Str} {d:DefRec} {look:Frag->α} {want:World->α}
  (hn:l.most=some n) (hn2:n<=sizeLine) (Hx:d.params.defaults=[]) (hr:gk k callerA)
  (F:∀ (w:World) (mg:Str->Option Value) (fa:Addr) (h:Heap) (K:Frag),K.In h->look K=want w->h.Ns mainGlobals mg->mg d.name=some (.ref fa)->
   ∃ (ts:List (Addr×Obj×List V)) (fd:FuncData) (sp:Sp),(∀ t∈ts,Eg K t)/\(ts.map (·.1)).Nodup/\(∀ (s:Shared) (u:Value),BindsTo s fd ⟨[u],[]⟩ [(x,u)])/\
    (∀ base:Heap,(without K (ts.map (·.1))).In base->base.Ns mainGlobals mg->ud l.prog w (without K (ts.map (·.1))) mg base Aa k fa fd [x] sp)/\
    (∀ (H:Hp) (a:Addr) (ns:List Int),ns.length<=n->(∀ t∈ts,H t.1=some (.az t.2.1 (.tup t.2.2)))->aj (without K (ts.map (·.1))) H a (ns.map V.int)->sp [.ref a] H (fun v _=>v=.bl true) fun _ _ _=>False)):
  WalkO q loose XP (xn look want).says l.row.toRowW d [] (fun f vs=>PySem.call f vs):=by
 refine Ln.qW hn Hx fun w s₀ s₁ mg mb fa o pm cd doc a vs ns G Y ho hd qf CC Hy Hz fc hg=>?_
 obtain ⟨K,KX,hl⟩:=Y
 obtain ⟨ts,fd,sp,AX,nd,hb,hF,AI⟩:=F w mg fa _ K KX hl G.T.g CC
 exact yE AX nd KX G.T.g G.T.b G.T.builtins G.T.nolimit hg Hy Hz (Nat.le_trans fc hn2) hr hF hb (fun H _ ht hS=>AI H a ns fc ht hS) fun _ _ _ z=>z
def xr (K:Frag):List (Str×List V)->List Addr
 | []=>[]
 | x::l=>(match nsIn K mainGlobals x.1 with | some (some (.ref a))=>a | _=>0)::xr K l
def Io:List (Str×List V)->Bool
 | []=>true
 | x::l=>decide (x.2.length<=1000)&&Io l
section
variable {K:Frag}
theorem Mh (X:K.In h) (G:h.Ns mainGlobals mg):∀ {l:List (Str×List V)},AZ K l=A0 l->Io l=true->∃ ts:List (Addr×Obj×List V),ts.map (·.1)=xr K l/\(∀ t∈ts,Eg K t)/\∀ (i:Nat) (x:Str) (xs:List V),l[i]? =some (x,xs)->∃ t∈ts,t.1=adr mg x/\t.2.2=xs
 | [],_,_=>⟨[],rfl,(fun t ht=>nomatch ht),fun i x xs e=>by simp at e⟩
 | y::l,e,hs=>by
  have e':=List.cons.inj (show Em K y.1::AZ K l=some (Aj y.2)::A0 l from e)
  unfold Io at hs
  rw [Bool.and_eq_true_iff,decide_eq_true_iff] at hs
  obtain ⟨ts,h1,h2,h3⟩:=Mh X G e'.2 hs.2
  obtain ⟨a,it,n,sq,g1,g2,g3⟩:=j3 e'.1
  have hm:=mg_of X G g1
  refine ⟨(a,⟨.type "tuple",none,.seq it n,sq⟩,y.2)::ts,?_,fun t ht=>?_,fun i x xs ei=>?_⟩
  ·unfold xr
   rw [g1,List.map_cons,h1]
  ·rcases Qp.mp ht with rfl | ht
   ·exact VL g2 g3 (Nat.le_trans hs.1 (by decide))
   ·exact h2 t ht
  ·cases i with
   | zero=>
    cases ei
    refine ⟨_,List.mem_cons_self ..,?_,rfl⟩
    show a=adr mg _
    unfold adr;rw [hm]
   | succ i=>
    obtain ⟨t,ht,r⟩:=h3 i x xs (by simpa using ei)
    exact ⟨t,Qh _ ht,r⟩
theorem Mi {ts:List (Addr×Obj×List V)} {xs:List V} (h:∃ t∈ts,t.1=adr mg x/\t.2.2=xs) (hH:∀ t∈ts,H t.1=some (.az t.2.1 (.tup t.2.2))):Kn mg H x xs:=by
 obtain ⟨t,ht,e1,e2⟩:=h
 exact ⟨t.2.1,by rw [<- e1,<- e2];exact hH t ht⟩
theorem vL (X:K.In h) (G:h.Ns mainGlobals mg) {l:List (Str×List V)} (e:AZ K l=A0 l) (i:Nat) {xs:List V} (hi:l[i]? =some (x,xs):=by rfl):∃ u,mg x=some u/\RelV (.ref (adr mg x)) u:=by
 obtain ⟨a,it,n,sq,h1,h2,h3⟩:=j3 (mQ e i hi)
 exact ⟨.ref a,mg_of X G h1,Vz (mg_of X G h1)⟩
end
structure A2 where
 x:Str
 q:Str
 st:Stmt
 fs:List Str
abbrev Ip:=Option Ek×Option (Option Value)×Bool
def F9 (K:Frag) (C:Addr):List Str->Bool
 | []=>true
 | f::l=>(match findIn K (.ref C) f with | some none=>true | _=>false)&&F9 K C l
def clsAt (K:Frag) (c:A2) (C:Addr):Ip:=(fnAt K c.q (findIn K (.ref C) "__init__"),findIn K (.ref C) "__setattr__",
 plainGet K C Str.empty&&(hasDictIn K C&&(plainOver K C&&(makesIn K C&&(keepIn K (.ref C)&&((match findIn K (.ref C) "__init__" with | some (some v)=>isFn K v | _=>false)&&F9 K C c.fs))))))
def Es (K:Frag):List A2->List (Option Ip)
 | []=>[]
 | c::l=>(match nsIn K mainGlobals c.x with | some (some (.ref C))=>some (clsAt K c C) | _=>none)::Es K l
def Et:List A2->List (Option Ip)
 | []=>[]
 | c::l=>some (some (CN "__init__" c.q c.st),some (some (.builtin "object.__setattr__")),true)::Et l
section
variable {K:Frag}
theorem kQ:∀ {C:Addr} {l:List Str},F9 K C l=true->∀ f∈l,yk K C f
 | C,f::l,e,g,hg=>by
  unfold F9 at e
  rw [Bool.and_eq_true_iff] at e
  rcases Qp.mp hg with rfl | hg
  ·have e1:=e.1
   split at e1
   ·assumption
   ·cases e1
  ·exact kQ e.2 g hg
theorem vR:∀ {l:List A2},Es K l=Et l->∀ (i:Nat) {c:A2},l[i]? =some c->∃ C,nsIn K mainGlobals c.x=some (some (.ref C))/\clsAt K c C=(some (CN "__init__" c.q c.st),some (some (.builtin "object.__setattr__")),true)
 | y::l,e,0,c,h=>by
  cases h
  have e1:=(List.cons.inj e).1
  split at e1
  ·rename_i C hC
   exact ⟨C,hC,QD e1⟩
  ·cases e1
 | y::l,e,i+1,c,h=>vR (List.cons.inj e).2 i (by simpa using h)
theorem VT (X:K.In h) (G:h.Ns mainGlobals mg) {l:List A2} (e:Es K l=Et l) (i:Nat) {q:Str} {st:Stmt} {fs:List Str} (hi:l[i]? =some ⟨x,q,st,fs⟩)
  (hb:∀ (kV doc pm:Value) (an:Option Addr) (bc ct:Value) (us:List Value),us.length=ps.length->bindArgs (fnOf "__init__" q (su st) (lh st) (bh st) .none kV doc pm an bc ct) ⟨us,[]⟩=pure (ps.zip us)):Eh K mg x q st ps fs (adr mg x):=by
 obtain ⟨C,hn,hc⟩:=vR e i hi
 have hm:=mg_of X G hn
 have ea:adr mg x=C:=by unfold adr;rw [hm]
 unfold clsAt at hc
 simp only [Prod.mk.injEq,Bool.and_eq_true_iff] at hc
 obtain ⟨c1,c2,c3,c4,c5,c6,c7,c8,c9⟩:=hc
 obtain ⟨f,fd,e1,F⟩:=vY c1
 rw [e1] at c8
 rw [ea]
 exact ⟨hm,⟨c3,c4,c5,c2⟩,kQ c9,f,fd,⟨c6,e1,c8,c7⟩,F,F.binds hb⟩
theorem VU (X:K.In h) (G:h.Ns mainGlobals mg) {l:List A2} (e:Es K l=Et l) (i:Nat) {q p0 p1:Str} {st:Stmt} {fs:List Str} (hi:l[i]? =some ⟨x,q,st,fs⟩:=by rfl)
  (hb:∀ (kV doc pm:Value) (an:Option Addr) (bc ct a0 a1:Value),bindArgs (fnOf "__init__" q (su st) (lh st) (bh st) .none kV doc pm an bc ct) ⟨[a0,a1],[]⟩=pure [(p0,a0),(p1,a1)]:=by intros;rfl):Eh K mg x q st [p0,p1] fs (adr mg x):=
 VT X G e i hi fun a b c d f g us hl=>by
  match us,hl with
  | [a0,a1],_=>exact hb ..
end
end L2
namespace L2
def yo:Nat->Nat->Nat
 | 0,x=>x
 | n+1,x=>yo n (5*x+1)
theorem lQ:∀ (a b x:Nat),yo (a+b) x=yo b (yo a x)
 | 0,b,x=>by rw [Nat.zero_add];rfl
 | a+1,b,x=>by rw [show a+1+b=(a+b)+1 by omega];exact lQ a b (5*x+1)
theorem VV (n x:Nat):yo (n+1) x=5*yo n x+1:=lQ n 1 x
theorem vU:∀ k:Nat,∃ c:Nat,c % 2=1/\∀ x,yo (2^k) x=x+2^k*(c*(4*x+1))
 | 0=>⟨1,rfl,fun x=>by show 5*x+1=_;omega⟩
 | k+1=>by
  obtain ⟨c,hc,h⟩:=vU k
  refine ⟨c+2*(2^k*(c*c)),by omega,fun x=>?_⟩
  have e:2^(k+1)=2^k+2^k:=by rw [Nat.pow_succ];omega
  rw [e,lQ,h,h]
  generalize 2^k=p
  generalize hm:4*x+1=m
  have e1:4*(x+p*(c*m))+1=m+4*(p*(c*m)):=by rw [Nat.mul_add];omega
  have e2:c*(m+4*(p*(c*m)))=c*m+4*(p*(c*(c*m))):=by rw [Nat.mul_add];congr 1;ac_rfl
  have e3:(c+2*(p*(c*c)))*m=c*m+2*(p*(c*(c*m))):=by rw [Nat.add_mul];congr 1;ac_rfl
  rw [e1,e2,e3]
  generalize p*(c*(c*m))=v
  generalize c*m=u
  have f1:p*(u+4*v)=p*u+4*(p*v):=by rw [Nat.mul_add];congr 1;ac_rfl
  have f2:(p+p)*(u+2*v)=p*u+p*u+4*(p*v):=by
   have f3:p*(2*v)=2*(p*v):=by ac_rfl
   rw [Nat.add_mul,Nat.mul_add,f3]
   omega
  rw [f1,f2]
  omega
theorem pT:∀ (k x e:Nat),e < 2^k->∃ l,l < 2^k/\yo l x % 2^k=e
 | 0,x,e,h=>⟨0,by decide,by rw [Nat.pow_zero,Nat.mod_one];have:e < 1:=h;omega⟩
 | k+1,x,e,h=>by
  have e2:2^(k+1)=2*2^k:=by rw [Nat.pow_succ];omega
  have pos:0 < 2^k:=Nat.pow_pos (by decide)
  obtain ⟨l,hl,he⟩:=pT k x (e % 2^k) (Nat.mod_lt _ pos)
  obtain ⟨c,hc,hs⟩:=vU k
  rw [e2] at h
  have key:∀ y:Nat,y % 2^k=e % 2^k->y % (2*2^k)=e\/(y+2^k*(c*(4*y+1))) % (2*2^k)=e:=fun y hy=>by
   have aaB:(c*(4*y+1)) % 2=1:=by
    rw [Nat.mul_mod,hc,show (4*y+1) % 2=1 by omega]
   obtain ⟨q,hq⟩:∃ q,c*(4*y+1)=2*q+1:=⟨c*(4*y+1) / 2,by omega⟩
   rw [hq]
   have e3:y+2^k*(2*q+1)=(y+2^k)+(2*2^k)*q:=by rw [Nat.mul_add,Nat.mul_one,<- Nat.mul_assoc,Nat.mul_comm (2^k) 2];omega
   rw [e3,Nat.add_mul_mod_self_left]
   generalize 2^k=p at*
   have d1:=Nat.div_add_mod y p
   have d2:=Nat.div_add_mod e p
   rw [hy] at d1
   have CI:e / p < 2:=by
    rw [Nat.div_lt_iff_lt_mul pos];omega
   have hm:e % p < p:=Nat.mod_lt _ pos
   generalize y / p=a at*
   generalize e / p=b at*
   generalize e % p=r at*
   rcases Nat.mod_two_eq_zero_or_one (a+b) with z | z
   ·left
    obtain ⟨t,rfl⟩:∃ t,a=b+2*t:=⟨(a - b) / 2,by omega⟩
    have:y=e+(2*p)*t:=by
     rw [<- d1,<- d2,Nat.mul_add,<- Nat.mul_assoc,Nat.mul_comm p 2];omega
    rw [this,Nat.add_mul_mod_self_left,Nat.mod_eq_of_lt h]
   ·right
    obtain ⟨t,ht⟩:∃ t,a+1=b+2*t:=⟨(a+1 - b) / 2,by omega⟩
    have:y+p=e+(2*p)*t:=by
     have q1:y+p=p*(a+1)+r:=by rw [Nat.mul_add];omega
     rw [q1,ht,<- d2,Nat.mul_add,<- Nat.mul_assoc,Nat.mul_comm p 2];omega
    rw [this,Nat.add_mul_mod_self_left,Nat.mod_eq_of_lt h]
  rcases key (yo l x) he with z | z
  ·exact ⟨l,by omega,by rw [e2];exact z⟩
  ·exact ⟨l+2^k,by omega,by rw [e2,lQ,hs];exact z⟩
end L2
namespace L2
open PySem PySem.SetTable
def vg (mask:Nat) (p:Probe):Probe:=if p.more > 0 then {p with j:=p.j+1,more:=p.more - 1} else {p with j:=(leap mask p.i p.perturb).1,more:=runEnd mask (leap mask p.i p.perturb).1 - (leap mask p.i p.perturb).1,i:=(leap mask p.i p.perturb).1,perturb:=(leap mask p.i p.perturb).2}
def Eu (mask:Nat) (q:Nat×Nat):Probe:={j:=q.1,more:=runEnd mask q.1 - q.1,i:=q.1,perturb:=q.2,dummy:=none}
def st (mask:Nat) (h:Int):Nat->Probe
 | 0=>Eu mask (bits h % (mask+1),bits h)
 | n+1=>vg mask (st mask h n)
def lp (mask:Nat) (h:Int):Nat->Nat×Nat
 | 0=>(bits h % (mask+1),bits h)
 | l+1=>leap mask (lp mask h l).1 (lp mask h l).2
section
variable {mask:Nat} {h:Int}
theorem iM (i:Nat):runEnd mask i - i<=9/\(i<=mask->i+(runEnd mask i - i)<=mask):=by
 unfold runEnd
 split<;>omega
theorem uQ {N:Nat} {q:Nat×Nat} (e:st mask h N=Eu mask q):∀ m,m<=runEnd mask q.1 - q.1->st mask h (N+m)={j:=q.1+m,more:=runEnd mask q.1 - q.1 - m,i:=q.1,perturb:=q.2,dummy:=none}
 | 0,_=>e
 | m+1,hm=>by
  have ih:=uQ e m (by omega)
  show vg mask (st mask h (N+m))=_
  rw [ih]
  unfold vg
  rw [if_pos (show runEnd mask q.1 - q.1 - m > 0 by omega)]
  simp only [Probe.mk.injEq,and_true]
  omega
theorem wL:∀ l,∃ N,N<=10*l/\st mask h N=Eu mask (lp mask h l)
 | 0=>⟨0,Qy _,rfl⟩
 | l+1=>by
  obtain ⟨N,hN,e⟩:=wL l
  have hr:=(iM (mask:=mask) (lp mask h l).1).1
  refine ⟨N+(runEnd mask (lp mask h l).1 - (lp mask h l).1)+1,by omega,?_⟩
  show vg mask (st mask h (N+(runEnd mask (lp mask h l).1 - (lp mask h l).1)))=_
  rw [uQ e _ (Qy _)]
  unfold vg
  rw [if_neg (by simp)]
  rfl
theorem VW:∀ l,(lp mask h l).1<=mask
 | 0=>Nat.le_of_lt_succ (Nat.mod_lt _ (Nat.succ_pos _))
 | l+1=>Nat.le_of_lt_succ (Nat.mod_lt _ (Nat.succ_pos _))
theorem vN:∀ l,(lp mask h l).2=bits h / 32^l
 | 0=>by rw [Nat.pow_zero,Nat.div_one];rfl
 | l+1=>by
  show (lp mask h l).2 / 32=_
  rw [vN l,Nat.div_div_eq_div_mul,Nat.pow_succ]
theorem VX:bits h < 2^64:=by
 unfold bits
 have h1:=Int.emod_lt_of_pos h (show (0:Int) < 2^64 by decide)
 have h2:=Int.emod_nonneg h (show ((2:Int)^64)≠0 by decide)
 omega
theorem VY (l:Nat):(lp mask h (13+l)).2=0:=by
 rw [vN]
 refine Nat.div_eq_of_lt (Nat.lt_of_lt_of_le VX ?_)
 rw [Nat.pow_add]
 exact Nat.le_trans (show 2^64<=32^13*1 by decide) (Nat.mul_le_mul_left _ (Nat.pow_pos (by decide)))
theorem vB:∀ l,(lp mask h (13+l)).1=yo l (lp mask h 13).1 % (mask+1)
 | 0=>(Nat.mod_eq_of_lt (Nat.lt_succ_of_le (VW 13))).symm
 | l+1=>by
  show ((lp mask h (13+l)).1*5+1+(lp mask h (13+l)).2 / 32) % (mask+1)=_
  rw [VY,vB l,VV,Nat.zero_div,Nat.add_zero,Nat.add_mod,Nat.mod_mul_mod,<- Nat.add_mod,Nat.mul_comm]
theorem meets {k:Nat} (hk:mask+1=2^k) {e:Nat} (he:e<=mask):∃ n,n<=10*(mask+13)/\(st mask h n).j=e:=by
 obtain ⟨l,hl,hx⟩:=pT k (lp mask h 13).1 e (by omega)
 obtain ⟨N,hN,e1⟩:=wL (mask:=mask) (h:=h) (13+l)
 refine ⟨N,by omega,?_⟩
 rw [e1]
 show (lp mask h (13+l)).1=e
 rw [vB,hk]
 exact hx
theorem sF:∀ n,(st mask h n).dummy=none
 | 0=>rfl
 | n+1=>by
  show (vg mask (st mask h n)).dummy=none
  unfold vg
  split<;>exact sF n
theorem nO:∀ n,(st mask h n).j+(st mask h n).more<=mask
 | 0=>(iM _).2 (Nat.le_of_lt_succ (Nat.mod_lt _ (Nat.succ_pos _)))
 | n+1=>by
  have ih:=nO n
  show (vg mask (st mask h n)).j+(vg mask (st mask h n)).more<=mask
  unfold vg
  split
  ·simp only;omega
  ·exact (iM _).2 (Nat.le_of_lt_succ (Nat.mod_lt _ (Nat.succ_pos _)))
end
section
variable {xs:Array Nat}
def vh (xs:Array Nat):Prop:=∀ i k (h:i < k) (hk:k < xs.size),xs[i]'(Nat.lt_trans h hk) < xs[k]
theorem mC (dj:vh xs):∀ (e_ lo hi:Nat),hi - lo<=e_->lo<=hi->hi<=xs.size->(∀ i (h:i < xs.size),i < lo->xs[i] < j)->(∀ i (h:i < xs.size),hi<=i->j<=xs[i])->
  below.go xs j e_ lo hi<=xs.size/\(∀ i (h:i < xs.size),i < below.go xs j e_ lo hi->xs[i] < j)/\(∀ i (h:i < xs.size),below.go xs j e_ lo hi<=i->j<=xs[i])
 | 0,lo,hi,hf,hl,hs,h1,h2=>by
  have:lo=hi:=by omega
  subst this
  exact ⟨hs,h1,h2⟩
 | e_+1,lo,hi,hf,hl,hs,h1,h2=>by
  unfold below.go
  by_cases c:lo < hi
  ·rw [if_pos c]
   have hm:(lo+hi) / 2 < xs.size:=by omega
   have eg:xs.getD ((lo+hi) / 2) j=xs[(lo+hi) / 2]:=by simp [Array.getD,hm]
   simp only [eg]
   by_cases d:xs[(lo+hi) / 2] < j
   ·rw [if_pos d]
    refine mC dj e_ _ _ (by omega) (by omega) hs (fun i h cj=>?_) h2
    by_cases q:i=(lo+hi) / 2
    ·subst q;exact d
    ·have:=dj i ((lo+hi) / 2) (by omega) hm;omega
   ·rw [if_neg d]
    refine mC dj e_ _ _ (by omega) (by omega) (by omega) h1 (fun i h cj=>?_)
    by_cases q:i=(lo+hi) / 2
    ·subst q;omega
    ·have:=dj ((lo+hi) / 2) i (by omega) h;omega
  ·rw [if_neg c]
   have:lo=hi:=by omega
   subst this
   exact ⟨hs,h1,h2⟩
theorem fG (dj:vh xs):below xs j<=xs.size/\(∀ i (h:i < xs.size),i < below xs j->xs[i] < j)/\(∀ i (h:i < xs.size),below xs j<=i->j<=xs[i]):=
 mC dj xs.size 0 xs.size (by omega) (by omega) (by omega) (fun _ _ h=>absurd h (Nat.not_lt_zero _)) (fun i h hi=>absurd h (by omega))
theorem VZ (dj:vh xs) (hi:i < xs.size):below xs xs[i]=i:=by
 obtain ⟨h1,h2,h3⟩:=fG (j:=xs[i]) dj
 by_cases c:i < below xs xs[i]
 ·exact absurd (h2 i hi c) (Nat.lt_irrefl _)
 ·by_cases d:below xs xs[i] < i
  ·have:=h3 (below xs xs[i]) (by omega) (Qy _)
   have:=dj (below xs xs[i]) i d hi
   omega
  ·omega
end
theorem iO {t:SetTable} (dj:vh t.place) (hi:i < t.place.size):t.slot t.place[i]=.live i:=by
 unfold slot
 rw [VZ dj hi]
 simp [hi]
theorem xR {t:SetTable} (dj:vh t.place) (nd:t.dummies=#[]) (hj:∀ i (h:i < t.place.size),t.place[i]≠j):t.slot j=.empty:=by
 unfold slot
 have h1:(t.place[below t.place j]?==some j)=false:=by
  rw [beq_eq_false_iff_ne]
  intro e
  obtain ⟨h,e'⟩:=Array.getElem?_eq_some_iff.mp e
  exact hj _ h e'
 have h2:has t.dummies j=false:=by
  unfold has;rw [nd]
  simp
 simp only [h1,h2]
 rfl
def lz (t:SetTable) (j:Nat):Prop:=∃ i,∃ h:i < t.place.size,t.place[i]=j
structure n_ (t:SetTable) (es:Array (Int×Value)):Prop where
 pw:∃ k,t.mask+1=2^k/\3<=k
 nd:t.dummies=#[]
 sz:t.place.size=es.size
 dj:vh t.place
 le:∀ i (h:i < t.place.size),t.place[i]<=t.mask
 room:es.size*5 < t.mask*3
 reach:∀ i (h:i < es.size) (h':i < t.place.size),∃ n,(st t.mask es[i].1 n).j=t.place[i]/\∀ m,m < n->lz t (st t.mask es[i].1 m).j
section
variable {t:SetTable} {h:Int}
theorem wK (dj:vh t.place):∀ j,(∀ j',j'<=j->lz t j')->∃ h:j < t.place.size,t.place[j]=j
 | 0,ha=>by
  obtain ⟨i,hi,e⟩:=ha 0 (Qy _)
  rcases Nat.eq_zero_or_pos i with rfl | hp
  ·exact ⟨hi,e⟩
  ·have:=dj 0 i hp hi;omega
 | j+1,ha=>by
  obtain ⟨hj,ej⟩:=wK dj j fun j' h=>ha j' (by omega)
  obtain ⟨i,hi,e⟩:=ha (j+1) (Qy _)
  have h1:j < i:=by
   rcases Nat.lt_trichotomy i j with c | c | c
   ·have:=dj i j c hj;omega
   ·subst c;omega
   ·exact c
  rcases Nat.lt_or_ge (j+1) i with c | c
  ·have:=dj j (j+1) (by omega) (by omega)
   have:=dj (j+1) i c hi
   omega
  ·have:i=j+1:=by omega
   subst this
   exact ⟨hi,e⟩
theorem n_.free (T:n_ t es):∃ e,e<=t.mask/\¬lz t e:=by
 refine Classical.byContradiction fun c=>?_
 have:∀ j',j'<=t.mask->lz t j':=fun j' hj=>Classical.byContradiction fun q=>c ⟨j',hj,q⟩
 obtain ⟨hm,_⟩:=wK T.dj t.mask this
 have:=T.sz
 have:=T.room
 omega
theorem least {P:Nat->Prop}:∀ n,P n->∃ m,m<=n/\P m/\∀ k,k < m->¬P k:=by
 intro n
 induction n using Nat.strongRecOn with
 | _ n ih=>
  intro hn
  by_cases c:∃ k,k < n/\P k
  ·obtain ⟨k,hk,hp⟩:=c
   obtain ⟨m,h1,h2,h3⟩:=ih k hk hp
   exact ⟨m,by omega,h2,h3⟩
  ·exact ⟨n,Qy _,hn,fun k hk hp=>c ⟨k,hk,hp⟩⟩
structure FF (t:SetTable) (h:Int) (n0:Nat):Prop where
 free:¬lz t (st t.mask h n0).j
 full:∀ m,m < n0->lz t (st t.mask h m).j
 Iq:n0 < 10*turns t.mask
theorem n_.ff (T:n_ t es) (h:Int):∃ n0,FF t h n0:=by
 obtain ⟨e,he,hf⟩:=T.free
 obtain ⟨k,hk,_⟩:=T.pw
 obtain ⟨n,hn,ej⟩:=meets (h:=h) hk he
 obtain ⟨m,h1,h2,h3⟩:=least (P:=fun n=>¬lz t (st t.mask h n).j) n (by rw [ej];exact hf)
 exact ⟨m,h2,fun k hk=>Classical.byContradiction (h3 k hk),by unfold turns;omega⟩
theorem lz.slot (dj:vh t.place) {j:Nat} (o:lz t j):∃ i,∃ h:i < t.place.size,t.place[i]=j/\t.slot j=.live i:=by
 obtain ⟨i,hi,rfl⟩:=o
 exact ⟨i,hi,rfl,iO dj hi⟩
theorem rT {hashAt:Nat->Int} {n0:Nat} (dj:vh t.place) (nd:t.dummies=#[]) (F:FF t h n0):∀ (e_ n:Nat),n<=n0->n0 - n < e_->
  (∃ m i,∃ hi:i < t.place.size,n<=m/\m < n0/\t.place[i]=(st t.mask h m).j/\hashAt i=h/\(∀ m',n<=m'->m' < m->∀ i' (cj:i' < t.place.size),t.place[i']=(st t.mask h m').j->hashAt i'≠h)/\probe.go t hashAt h e_ (st t.mask h n)=some (.candidate (st t.mask h m).j i (st t.mask h (m+1))))\/
  ((∀ m',n<=m'->m' < n0->∀ i' (cj:i' < t.place.size),t.place[i']=(st t.mask h m').j->hashAt i'≠h)/\probe.go t hashAt h e_ (st t.mask h n)=some (.empty (st t.mask h n0).j none))
 | 0,n,_,hf=>absurd hf (Nat.not_lt_zero _)
 | e_+1,n,hn,hf=>by
  rcases Nat.lt_or_ge n n0 with c | c
  ·obtain ⟨i,hi,ei,es⟩:=(F.full n c).slot dj
   unfold probe.go
   rw [es]
   dsimp only
   by_cases d:hashAt i=h
   ·rw [if_pos (by simpa using d)]
    exact .inl ⟨n,i,hi,Qy _,c,ei,d,fun m' h1 h2=>absurd h1 (by omega),rfl⟩
   ·rw [if_neg (by simpa using d)]
    have Mj:∀ m',n<=m'->n+1<=m'\/m'=n:=fun m' _=>by omega
    have un:∀ i' (cj:i' < t.place.size),t.place[i']=(st t.mask h n).j->hashAt i'≠h:=fun i' cj e'=>by
     have:i'=i:=by
      have:=iO dj cj
      rw [e',es] at this
      injection this with this
      exact this.symm
     subst this;exact d
    rcases rT dj nd F e_ (n+1) c (by omega) with ⟨m,i',cj,h1,h2,h3,h4,h5,h6⟩ | ⟨h1,h2⟩
    ·refine .inl ⟨m,i',cj,by omega,h2,h3,h4,fun m' q1 q2=>?_,h6⟩
     rcases Mj m' q1 with q | q
     ·exact h5 m' q q2
     ·rw [q];exact un
    ·refine .inr ⟨fun m' q1 q2=>?_,h2⟩
     rcases Mj m' q1 with q | q
     ·exact h1 m' q q2
     ·rw [q];exact un
  ·have:n=n0:=by omega
   subst this
   unfold probe.go
   rw [xR dj nd fun i hi e=>F.free ⟨i,hi,e⟩]
   dsimp only
   rw [sF]
   exact .inr ⟨fun m' h1 h2=>absurd h1 (by omega),rfl⟩
theorem n_.met {n0:Nat} (T:n_ t es) (F:FF t h n0) (hi:i < es.size) (cj:i < t.place.size) (eh:es[i].1=h):∃ m,m < n0/\(st t.mask h m).j=t.place[i]:=by
 obtain ⟨n,e1,e2⟩:=T.reach i hi cj
 rw [eh] at e1 e2
 refine ⟨n,?_,e1⟩
 rcases Nat.lt_or_ge n n0 with c | c
 ·exact c
 ·rcases Nat.lt_or_ge n0 n with d | d
  ·exact absurd (e2 n0 d) F.free
  ·have:n=n0:=by omega
   subst this
   exact absurd ⟨i,cj,e1.symm⟩ F.free
end
section
variable {xs:Array α} {p:Nat} {x:α}
theorem dY (hp:p<=xs.size):(insertAt xs p x).toList=xs.toList.take p++x::xs.toList.drop p:=by
 unfold insertAt
 simp [Array.toList_extract,List.take_of_length_le]
theorem bG (hp:p<=xs.size):(insertAt xs p x).size=xs.size+1:=by
 rw [<- Array.length_toList,dY hp]
 simp;omega
theorem bY (hp:p<=xs.size) (i:Nat) (hi:i < (insertAt xs p x).size):(insertAt xs p x)[i]=if h:i < p then xs[i]'(by omega) else if h2:i=p then x else xs[i - 1]'(by rw [bG hp] at hi;omega):=by
 have hs:=bG (x:=x) hp
 have e:(insertAt xs p x)[i]=(insertAt xs p x).toList[i]'(by simpa using hi):=by simp
 rw [e]
 simp only [dY hp]
 have hl:(xs.toList.take p).length=p:=by simp;omega
 by_cases h:i < p
 ·rw [dif_pos h,Qe (by omega)]
  simp
 ·rw [dif_neg h,Qf (by omega)]
  by_cases h2:i=p
  ·rw [dif_pos h2]
   have z:∀ (l:List α) (k:Nat) (hk:k < (x::l).length),k=0->(x::l)[k]=x:=fun l k hk e=>by subst e;rfl
   exact z _ _ _ (by omega)
  ·rw [dif_neg h2]
   obtain ⟨k,hk⟩:∃ k,i - (xs.toList.take p).length=k+1:=⟨i - p - 1,by omega⟩
   simp only [hk,List.getElem_cons_succ,List.getElem_drop]
   have:p+k=i - 1:=by omega
   simp [this]
end
theorem V0 (j:Nat):has #[] j=false:=by
 unfold has;simp
section
variable {t:SetTable} {h:Int} {x:Value} {n0:Nat}
theorem mL (nd:t.dummies=#[]) (j:Nat):t.put j=({t with place:=insertAt t.place (below t.place j) j},below t.place j):=by
 unfold put
 rw [nd,V0]
 simp only [Bool.false_eq_true,if_false]
theorem V1 (T:n_ t es) (j:Nat) {j':Nat}:lz (t.put j).1 j'↔j'=j\/lz t j':=by
 rw [mL T.nd]
 have hp:=(fG (j:=j) T.dj).1
 generalize below t.place j=p at hp
 constructor
 ·rintro ⟨i,hi,e⟩
  have cj:i < (insertAt t.place p j).size:=hi
  have e':(insertAt t.place p j)[i]=j':=e
  rw [bY hp] at e'
  split at e'
  ·exact .inr ⟨_,_,e'⟩
  ·split at e'
   ·exact .inl e'.symm
   ·exact .inr ⟨_,_,e'⟩
 ·rintro (rfl | ⟨i,hi,rfl⟩)
  ·refine ⟨p,(by show p < (insertAt t.place p j').size;rw [bG hp];omega),?_⟩
   show (insertAt t.place p j')[p]'_=j'
   rw [bY hp];simp
  ·by_cases c:i < p
   ·refine ⟨i,(by show i < (insertAt t.place p j).size;rw [bG hp];omega),?_⟩
    show (insertAt t.place p j)[i]'_=_
    rw [bY hp,dif_pos c]
   ·refine ⟨i+1,(by show i+1 < (insertAt t.place p j).size;rw [bG hp];omega),?_⟩
    show (insertAt t.place p j)[i+1]'_=_
    rw [bY hp,dif_neg (by omega),dif_neg (by omega)]
    simp
theorem V2 (T:n_ t es) (hj:¬lz t j):vh (t.put j).1.place:=by
 rw [mL T.nd]
 obtain ⟨hp,h2,h3⟩:=fG (j:=j) T.dj
 generalize below t.place j=p at hp h2 h3
 intro i k Ak hk
 have hk':k < (insertAt t.place p j).size:=hk
 have hs:=bG (x:=j) hp
 show (insertAt t.place p j)[i]'_ < (insertAt t.place p j)[k]
 rw [bY hp,bY hp]
 by_cases c:k < p
 ·rw [dif_pos c,dif_pos (by omega)];exact T.dj i k Ak (by omega)
 ·rw [dif_neg c]
  by_cases d:k=p
  ·rw [dif_pos d,dif_pos (by omega)]
   exact h2 i (by omega) (by omega)
  ·rw [dif_neg d]
   by_cases a:i < p
   ·rw [dif_pos a];exact T.dj i (k - 1) (by omega) (by omega)
   ·rw [dif_neg a]
    by_cases b:i=p
    ·rw [dif_pos b]
     have:=h3 (k - 1) (by omega) (by omega)
     have ne:t.place[k - 1]'(by omega)≠j:=fun e=>hj ⟨k - 1,by omega,e⟩
     omega
    ·rw [dif_neg b];exact T.dj (i - 1) (k - 1) (by omega) (by omega)
abbrev l_ (t:SetTable) (j:Nat):SetTable:={t with place:=insertAt t.place (below t.place j) j}
theorem n_.put (T:n_ t es) (F:FF t h n0) (hr:(es.size+1)*5 < t.mask*3):n_ (l_ t (st t.mask h n0).j) (insertAt es (below t.place (st t.mask h n0).j) (h,x)):=by
 have F_:∀ j',lz (l_ t (st t.mask h n0).j) j'↔j'=(st t.mask h n0).j\/lz t j':=fun j'=>by have:=V1 T (st t.mask h n0).j (j':=j');rw [mL T.nd] at this;exact this
 have Ew:vh (l_ t (st t.mask h n0).j).place:=by have:=V2 T F.free;rw [mL T.nd] at this;exact this
 have hsz:=T.sz
 have hp:=(fG (j:=(st t.mask h n0).j) T.dj).1
 have V3:(st t.mask h n0).j<=t.mask:=by have:=nO (mask:=t.mask) (h:=h) n0;omega
 have grow:∀ {j'},lz t j'->lz (l_ t (st t.mask h n0).j) j':=fun o=>(F_ _).mpr (.inr o)
 have V4:∀ i (h':i < (l_ t (st t.mask h n0).j).place.size),(l_ t (st t.mask h n0).j).place[i]<=t.mask:=fun i hi=>by
  rcases (F_ _).mp ⟨i,hi,rfl⟩ with e | ⟨i',cj,e⟩
  ·rw [e];exact V3
  ·rw [<- e];exact T.le i' cj
 have AQ:below t.place (st t.mask h n0).j<=es.size:=by omega
 have s1:=bG (x:=(h,x)) AQ
 have s2:(l_ t (st t.mask h n0).j).place.size=t.place.size+1:=bG hp
 refine ⟨T.pw,T.nd,by omega,Ew,V4,by rw [s1];exact hr,fun i h1 h2=>?_⟩
 have e2:(l_ t (st t.mask h n0).j).place[i]=(insertAt t.place (below t.place (st t.mask h n0).j) (st t.mask h n0).j)[i]:=rfl
 rw [e2]
 generalize lz (l_ t (st t.mask h n0).j)=O at grow
 show ∃ n,(st t.mask (insertAt es (below t.place (st t.mask h n0).j) (h,x))[i].1 n).j=_/\∀ m,m < n->O (st t.mask (insertAt es (below t.place (st t.mask h n0).j) (h,x))[i].1 m).j
 simp only [bY hp,bY AQ]
 by_cases c:i < below t.place (st t.mask h n0).j
 ·simp only [dif_pos c]
  obtain ⟨n,e1,e2⟩:=T.reach i (by omega) (by omega)
  exact ⟨n,e1,fun m hm=>grow (e2 m hm)⟩
 ·simp only [dif_neg c]
  by_cases d:i=below t.place (st t.mask h n0).j
  ·simp only [dif_pos d]
   exact ⟨n0,rfl,fun m hm=>grow (F.full m hm)⟩
  ·simp only [dif_neg d]
   obtain ⟨n,e1,e2⟩:=T.reach (i - 1) (by omega) (by omega)
   exact ⟨n,e1,fun m hm=>grow (e2 m hm)⟩
end
theorem iS:∀ {l m:List Nat},l.Nodup->(∀ x∈l,x∈m)->l.length<=m.length
 | [],m,_,_=>Nat.zero_le _
 | a::l,m,nd,hs=>by
  obtain ⟨h1,h2⟩:=List.nodup_cons.mp nd
  have hm:=hs a (List.mem_cons_self ..)
  have:l.length<=(m.erase a).length:=iS h2 fun x hx=>(List.mem_erase_of_ne (show x≠a from fun e=>h1 (by rw [<- e];exact hx))).mpr (hs x (Qh _ hx))
  rw [List.length_erase_of_mem hm] at this
  have:=List.length_pos_of_mem hm
  simp only [List.length_cons];omega
def Ow (owner:Array (Option Nat)) (j:Nat):Prop:=(owner.getD j (some 0)).isNone=false
structure vj (mask:Nat) (owner:Array (Option Nat)) (hs:List Int):Prop where
 sz:owner.size=mask+1
 lt:∀ j k:Nat,owner[j]? =some (some k)->k < hs.length
 inj:∀ j j' k:Nat,owner[j]? =some (some k)->owner[j']? =some (some k)->j=j'
 reach:∀ k (h:k < hs.length),∃ n,owner[(st mask hs[k] n).j]? =some (some k)/\∀ m,m < n->Ow owner (st mask hs[k] m).j
section
variable {mask:Nat} {owner:Array (Option Nat)} {hs:List Int} {h:Int}
theorem tY (hz:owner.size=mask+1) (hj:j<=mask):Ow owner j↔∃ k,owner[j]? =some (some k):=by
 have oh:j < owner.size:=by omega
 unfold Ow
 have e:owner.getD j (some 0)=owner[j]:=by simp [Array.getD,oh]
 rw [e,Array.getElem?_eq_getElem oh]
 cases owner[j] with
 | none=>simp
 | some k=>simp
theorem vj.V5 (I:vj mask owner hs) (hl:hs.length<=mask):∃ e,e<=mask/\¬Ow owner e:=by
 refine Classical.byContradiction fun c=>?_
 have ha:∀ j,j<=mask->∃ k,owner[j]? =some (some k):=fun j hj=>(tY I.sz hj).mp (Classical.byContradiction fun q=>c ⟨j,hj,q⟩)
 have hk:∀ j,∃ k,j<=mask->owner[j]? =some (some k):=fun j=>by
  by_cases q:j<=mask
  ·obtain ⟨k,e⟩:=ha j q;exact ⟨k,fun _=>e⟩
  ·exact ⟨0,fun z=>absurd z q⟩
 let f:=fun j=>Classical.choose (hk j)
 have hf:∀ j,j<=mask->owner[j]? =some (some (f j)):=fun j=>Classical.choose_spec (hk j)
 have nd:((List.range (mask+1)).map f).Nodup:=by
  refine List.Pairwise.map f (R:=fun a b=>a < b/\b<=mask) (S:=(· ≠·)) (fun a b lj e=>?_) ?_
  ·have:=I.inj a b (f a) (hf a (by omega)) (by rw [e];exact hf b lj.2)
   omega
  ·rw [List.pairwise_iff_getElem]
   intro i k hi hk Ak
   simp at hi hk ⊢
   omega
 have:=iS nd (m:=List.range hs.length) fun x hx=>by
  obtain ⟨j,hj,rfl⟩:=List.mem_map.mp hx
  have:j<=mask:=by have:=List.mem_range.mp hj;omega
  exact List.mem_range.mpr (I.lt j _ (hf j this))
 simp at this
 omega
theorem wN (hz:owner.size=mask+1) {lm:Nat} (Ml:¬Ow owner (lp mask h lm).1):∀ (e_ l N:Nat),lm - l < e_->l<=lm->st mask h N=Eu mask (lp mask h l)->(∀ m,m < N->Ow owner (st mask h m).j)->
  ∃ n,layClean.free mask owner e_ (lp mask h l).1 (lp mask h l).2=some (st mask h n).j/\¬Ow owner (st mask h n).j/\∀ m,m < n->Ow owner (st mask h m).j
 | 0,l,N,hf,_,_,_=>absurd hf (Nat.not_lt_zero _)
 | e_+1,l,N,hf,hl,eN,ho=>by
  have hr:=iM (mask:=mask) (lp mask h l).1
  have B3:=uQ eN
  have er:runEnd mask (lp mask h l).1+1 - (lp mask h l).1=(runEnd mask (lp mask h l).1 - (lp mask h l).1)+1:=by
   unfold runEnd;split<;>omega
  unfold layClean.free
  cases Ga:(List.range (runEnd mask (lp mask h l).1+1 - (lp mask h l).1)).find? (fun k=>(owner.getD ((lp mask h l).1+k) (some 0)).isNone) with
  | some k=>
   have Gb:=List.find?_some Ga
   have Al:=List.mem_of_find?_eq_some Ga
   have Ex:k<=runEnd mask (lp mask h l).1 - (lp mask h l).1:=by have:=List.mem_range.mp Al;omega
   have ay:∀ k',k' < k->Ow owner ((lp mask h l).1+k'):=fun k' hk'=>by
    obtain ⟨_,as,bs,e1,e2⟩:=List.find?_eq_some_iff_append.mp Ga
    have fc:as.length=k:=by
     have e3:(List.range (runEnd mask (lp mask h l).1+1 - (lp mask h l).1))[as.length]? =some k:=by rw [e1];simp
     have e4:=(List.getElem?_eq_some_iff.mp e3)
     obtain ⟨q1,q2⟩:=e4
     simpa using q2
    have ir:k'∈as:=by
     have e3:(List.range (runEnd mask (lp mask h l).1+1 - (lp mask h l).1))[k']? =some k':=by
      rw [List.getElem?_range];have:=List.mem_range.mp Al;omega
     rw [e1,Qg (by omega)] at e3
     exact QC e3
    have:=e2 k' ir
    simpa [Ow] using this
   refine ⟨N+k,by rw [B3 k Ex],?_,fun m hm=>?_⟩
   ·rw [B3 k Ex]
    show ¬Ow owner ((lp mask h l).1+k)
    unfold Ow
    have:(owner.getD ((lp mask h l).1+k) (some 0)).isNone=true:=Gb
    rw [this];simp
   ·rcases Nat.lt_or_ge m N with c | c
    ·exact ho m c
    ·obtain ⟨k',rfl⟩:∃ k',m=N+k':=⟨m - N,by omega⟩
     rw [B3 k' (by omega)]
     exact ay k' (by omega)
  | none=>
   have kg:∀ k',k'<=runEnd mask (lp mask h l).1 - (lp mask h l).1->Ow owner ((lp mask h l).1+k'):=fun k' hk'=>by
    have:=List.find?_eq_none.mp Ga k' (List.mem_range.mpr (by omega))
    exact Bool.eq_false_iff.mpr this
   have ii:l≠lm:=fun e=>by subst e;exact Ml (by simpa using kg 0 (Nat.zero_le _))
   dsimp only
   have V6:st mask h (N+(runEnd mask (lp mask h l).1 - (lp mask h l).1)+1)=Eu mask (lp mask h (l+1)):=by
    show vg mask (st mask h (N+(runEnd mask (lp mask h l).1 - (lp mask h l).1)))=_
    rw [B3 _ (Qy _)]
    unfold vg
    rw [if_neg (by simp)]
    rfl
   refine wN hz Ml e_ (l+1) _ (by omega) (by omega) V6 fun m hm=>?_
   rcases Nat.lt_or_ge m N with c | c
   ·exact ho m c
   ·obtain ⟨k',rfl⟩:∃ k',m=N+k':=⟨m - N,by omega⟩
    rw [B3 k' (by omega)]
    exact kg k' (by omega)
theorem yK {k:Nat} (hk:mask+1=2^k) (I:vj mask owner hs) (hl:hs.length<=mask) (h:Int):∃ n,layClean.free mask owner (turns mask) (bits h % (mask+1)) (bits h)=some (st mask h n).j/\¬Ow owner (st mask h n).j/\∀ m,m < n->Ow owner (st mask h m).j:=by
 obtain ⟨e,he,hf⟩:=I.V5 hl
 obtain ⟨l,Am,hx⟩:=pT k (lp mask h 13).1 e (by omega)
 have e1:(lp mask h (13+l)).1=e:=by rw [vB,hk];exact hx
 exact wN (h:=h) I.sz (lm:=13+l) (by rw [e1];exact hf) (turns mask) 0 0 (by unfold turns;omega) (Nat.zero_le _) rfl fun m hm=>absurd hm (Nat.not_lt_zero _)
theorem vj.more (I:vj mask owner hs) (hn:¬Ow owner (st mask h n).j) (ho:∀ m,m < n->Ow owner (st mask h m).j):vj mask (owner.setIfInBounds (st mask h n).j (some hs.length)) (hs++[h]):=by
 have hj:(st mask h n).j<=mask:=by have:=nO (mask:=mask) (h:=h) n;omega
 have Ey:(st mask h n).j < owner.size:=by rw [I.sz];omega
 have get:∀ j:Nat,(owner.setIfInBounds (st mask h n).j (some hs.length))[j]? =if (st mask h n).j=j then some (some hs.length) else owner[j]?:=fun j=>by
  rw [Array.getElem?_setIfInBounds]
  by_cases c:(st mask h n).j=j
  ·subst c;simp [Ey]
  ·simp [c]
 have keep:∀ j k:Nat,owner[j]? =some (some k)->(owner.setIfInBounds (st mask h n).j (some hs.length))[j]? =some (some k):=fun j k e=>by
  rw [get,if_neg];exact e
  intro c;subst c
  exact hn ((tY I.sz hj).mpr ⟨k,e⟩)
 have Mm:∀ j,Ow owner j->Ow (owner.setIfInBounds (st mask h n).j (some hs.length)) j:=fun j o=>by
  unfold Ow at o ⊢
  rw [Array.getD_eq_getD_getElem?] at o ⊢
  rw [get]
  split
  ·rfl
  ·exact o
 refine ⟨by simp [I.sz],fun j k e=>?_,fun j j' k e e'=>?_,fun k hk=>?_⟩
 ·rw [get] at e
  split at e
  ·cases e;simp
  ·have:=I.lt j k e;simp;omega
 ·rw [get] at e e'
  split at e<;>split at e'
  ·omega
  ·cases e;exact absurd (I.lt j' _ e') (Nat.lt_irrefl _)
  ·cases e';exact absurd (I.lt j _ e) (Nat.lt_irrefl _)
  ·exact I.inj j j' k e e'
 ·rcases Nat.lt_or_ge k hs.length with c | c
  ·obtain ⟨n',e1,e2⟩:=I.reach k c
   rw [Qe c]
   exact ⟨n',keep _ _ e1,fun m hm=>Mm _ (e2 m hm)⟩
  ·have:k=hs.length:=by simp at hk;omega
   subst this
   rw [Qf (Qy _)]
   simp only [Nat.sub_self,List.getElem_cons_zero]
   exact ⟨n,by rw [get,if_pos rfl],fun m hm=>Mm _ (ho m hm)⟩
theorem rW {k:Nat} (hk:mask+1=2^k):∀ (rest hs:List Int) (owner:Array (Option Nat)),vj mask owner hs->hs.length+rest.length<=mask->
  ∃ Gc,rest.foldl (fun acc h=>do
   let (owner,k) <- acc
   let j <- layClean.free mask owner (turns mask) (bits h % (mask+1)) (bits h)
   pure (owner.setIfInBounds j (some k),k+1)) (some (owner,hs.length))=some (Gc,(hs++rest).length)/\vj mask Gc (hs++rest)
 | [],hs,owner,I,_=>⟨owner,by simp,by simpa using I⟩
 | h::rest,hs,owner,I,hl=>by
  obtain ⟨n,e1,e2,e3⟩:=yK hk I (by omega) h
  have I':=I.more e2 e3
  obtain ⟨Gc,f1,f2⟩:=rW hk rest (hs++[h]) _ I' (by simp at hl ⊢;omega)
  refine ⟨Gc,?_,by simpa using f2⟩
  rw [List.foldl_cons]
  simp only [Qk,List.length_cons,List.length_nil,QQ,List.cons_append,List.nil_append] at f1 ⊢
  rw [<- f1]
  congr 1
  show (do let j <- layClean.free mask owner (turns mask) (bits h % (mask+1)) (bits h);pure (owner.setIfInBounds j (some hs.length),hs.length+1))=_
  rw [e1]
  rfl
theorem nF {k:Nat} (hk:mask+1=2^k) (hashes:Array Int) (hl:hashes.size<=mask):∃ owner,layClean mask hashes=some owner/\vj mask owner hashes.toList:=by
 have I0:vj mask (Array.replicate (mask+1) none) []:=⟨by simp,fun j k e=>by simp [Array.getElem?_replicate] at e,fun j j' k e=>by simp [Array.getElem?_replicate] at e,fun k h=>absurd h (by simp)⟩
 obtain ⟨owner,e1,e2⟩:=rW hk hashes.toList [] _ I0 (by simpa using hl)
 refine ⟨owner,?_,by simpa using e2⟩
 unfold layClean
 rw [<- Array.foldl_toList]
 have Mn:=e1
 simp only [List.length_nil,List.nil_append] at Mn
 rw [Mn]
 rfl
end
def gu (mask:Nat) (owner:Array (Option Nat)):List (Nat×Nat):=(List.range (mask+1)).filterMap fun j=>(owner.getD j none).map (j,·)
section
variable {mask:Nat} {owner:Array (Option Nat)} {hs:List Int}
theorem dF (hz:owner.size=mask+1) {p:Nat×Nat}:p∈gu mask owner↔p.1<=mask/\owner[p.1]? =some (some p.2):=by
 unfold gu
 rw [List.mem_filterMap]
 constructor
 ·rintro ⟨j,hj,e⟩
  have oh:j < owner.size:=by have:=List.mem_range.mp hj;omega
  have eg:owner.getD j none=owner[j]:=by simp [Array.getD,oh]
  rw [eg] at e
  cases hx:owner[j] with
  | none=>rw [hx] at e;cases e
  | some k=>
   rw [hx] at e
   cases e
   exact ⟨by show j<=mask;omega,by show owner[j]? =_;rw [Array.getElem?_eq_getElem oh,hx]⟩
 ·rintro ⟨h1,h2⟩
  obtain ⟨h3,h4⟩:=Array.getElem?_eq_some_iff.mp h2
  refine ⟨p.1,List.mem_range.mpr (by omega),?_⟩
  have eg:owner.getD p.1 none=owner[p.1]:=by simp [Array.getD,h3]
  rw [eg,h4];rfl
theorem zX {f:Nat->Option Nat}:∀ l:List Nat,l.Pairwise (· < ·)->((l.filterMap fun j=>(f j).map (j,·)).map (·.1)).Pairwise (· < ·)/\∀ x∈(l.filterMap fun j=>(f j).map (j,·)).map (·.1),x∈l
 | [],_=>⟨.nil,fun _ h=>nomatch h⟩
 | a::l,h=>by
  obtain ⟨h1,h2⟩:=List.pairwise_cons.mp h
  obtain ⟨i1,i2⟩:=zX (f:=f) l h2
  cases e:f a with
  | none=>
   simp only [List.filterMap_cons,e,Option.map_none]
   exact ⟨i1,fun x hx=>Qh _ (i2 x hx)⟩
  | some k=>
   simp only [List.filterMap_cons,e,Option.map_some,List.map_cons]
   refine ⟨List.pairwise_cons.mpr ⟨fun x hx=>h1 x (i2 x hx),i1⟩,fun x hx=>?_⟩
   rcases Qp.mp hx with rfl | hx
   ·exact List.mem_cons_self ..
   ·exact Qh _ (i2 x hx)
theorem rQ:((gu mask owner).map (·.1)).Pairwise (· < ·):=(zX (f:=fun j=>owner.getD j none) _ List.pairwise_lt_range).1
theorem vj.len (I:vj mask owner hs):(gu mask owner).length=hs.length:=by
 have nd:((gu mask owner).map (·.2)).Nodup:=by
  have h1:=rQ (mask:=mask) (owner:=owner)
  rw [List.pairwise_map] at h1
  refine List.pairwise_map.mpr (h1.imp_of_mem fun {a b} ha hb lj e=>?_)
  have:=I.inj a.1 b.1 a.2 ((dF I.sz).mp ha).2 (by rw [e];exact ((dF I.sz).mp hb).2)
  omega
 have l1:=iS nd (m:=List.range hs.length) fun x hx=>by
  obtain ⟨p,hp,rfl⟩:=List.mem_map.mp hx
  exact List.mem_range.mpr (I.lt _ _ ((dF I.sz).mp hp).2)
 have l2:=iS (l:=List.range hs.length) (m:=(gu mask owner).map (·.2)) List.nodup_range fun x hx=>by
  have hx':=List.mem_range.mp hx
  obtain ⟨n,e1,_⟩:=I.reach x hx'
  have hj:(st mask hs[x] n).j<=mask:=by have:=nO (mask:=mask) (h:=hs[x]) n;omega
  exact List.mem_map.mpr ⟨((st mask hs[x] n).j,x),(dF I.sz).mpr ⟨hj,e1⟩,rfl⟩
 simp at l1 l2
 omega
end
theorem V7 {l : List Nat} (h : l.Pairwise (· < ·)) : vh l.toArray := fun i k Ak hk => by
  have := List.pairwise_iff_getElem.mp h i k (by have : k < l.length := by simpa using hk
                                                 omega) (by simpa using hk) Ak
  simpa using this
theorem Mp {es:Array (Int×Value)}:∀ {L:List (Nat×Nat)},(∀ p∈L,p.2 < es.size)->(L.map (·.2)).filterMap (es[·]?)=L.map fun p=>es.getD p.2 (0,.none)
 | [],_=>rfl
 | p::L,h=>by
  have hp:=h p (List.mem_cons_self ..)
  simp only [List.map_cons,List.filterMap_cons,Array.getElem?_eq_getElem hp]
  rw [Mp fun q hq=>h q (Qh _ hq)]
  congr 1
  simp [Array.getD,hp]
theorem xE {mask k finger moves:Nat} {led plain:Bool} (hk:mask+1=2^k) (k3:3<=k) (room:es.size*5 < mask*3):∃ t' order,laid mask finger moves led plain (es.map (·.1))=some (t',order)/\
  n_ t' (order.filterMap (es[·]?))/\(∀ e,e∈(order.filterMap (es[·]?)).toList↔e∈es.toList)/\(order.filterMap (es[·]?)).size=es.size/\t'.mask=mask:=by
 obtain ⟨owner,e1,I⟩:=nF hk (es.map (·.1)) (by simp;omega)
 have fc:=I.len
 simp only [Array.toList_map,Ql,Array.length_toList] at fc
 have ay:∀ p∈gu mask owner,p.2 < es.size:=fun p hp=>by
  have:=I.lt _ _ ((dF I.sz).mp hp).2
  simpa using this
 have Ir:(((gu mask owner).map (·.2)).toArray.filterMap (es[·]?)).toList=(gu mask owner).map fun p=>es.getD p.2 (0,.none):=by
  rw [Array.toList_filterMap]
  exact Mp ay
 have hsz:(((gu mask owner).map (·.2)).toArray.filterMap (es[·]?)).size=es.size:=by
  rw [<- Array.length_toList,Ir,Ql,fc]
 have F_:∀ j,lz ({mask,place:=((gu mask owner).map (·.1)).toArray,dummies:=#[],finger,led,moves,plain}:SetTable) j↔∃ k,(j,k)∈gu mask owner:=fun j=>by
  constructor
  ·rintro ⟨i,hi,e⟩
   have cj:i < (gu mask owner).length:=by simpa using hi
   have e':(gu mask owner)[i].1=j:=by simpa using e
   exact ⟨(gu mask owner)[i].2,by rw [<- e'];exact Qj cj⟩
  ·rintro ⟨k,hm⟩
   obtain ⟨i,hi,e⟩:=Qi hm
   refine ⟨i,by simpa using hi,?_⟩
   have:(gu mask owner)[i].1=j:=by rw [e]
   simpa using this
 refine ⟨{mask,place:=((gu mask owner).map (·.1)).toArray,dummies:=#[],finger,led,moves,plain},((gu mask owner).map (·.2)).toArray,?_,⟨⟨k,hk,k3⟩,rfl,?_,V7 rQ,fun i hi=>?_,?_,fun i h1 h2=>?_⟩,fun e=>?_,hsz,rfl⟩
 ·unfold laid
  rw [e1]
  rfl
 ·show ((gu mask owner).map (·.1)).toArray.size=_
  rw [hsz];simpa using fc
 ·have cj:i < (gu mask owner).length:=by simpa using hi
  have:=((dF I.sz).mp (Qj cj)).1
  simpa using this
 ·rw [hsz];exact room
 ·have cj:i < (gu mask owner).length:=by simpa using h2
  have hm:=Qj cj
  have hp:=ay _ hm
  have ee:(((gu mask owner).map (·.2)).toArray.filterMap (es[·]?))[i]=es[(gu mask owner)[i].2]:=by
   have:(((gu mask owner).map (·.2)).toArray.filterMap (es[·]?))[i]=(((gu mask owner).map (·.2)).toArray.filterMap (es[·]?)).toList[i]'(by simpa using h1):=by simp
   rw [this]
   simp only [Ir,Qr]
   simp [Array.getD,hp]
  obtain ⟨n,q1,q2⟩:=I.reach (gu mask owner)[i].2 (by simpa using hp)
  have eh:(es.map (·.1)).toList[(gu mask owner)[i].2]'(by simpa using hp)=es[(gu mask owner)[i].2].1:=by simp
  rw [eh] at q1 q2
  rw [ee]
  refine ⟨n,?_,fun m Mq=>?_⟩
  ·have:=I.inj _ _ _ q1 ((dF I.sz).mp hm).2
   simpa using this
  ·have hj:(st mask es[(gu mask owner)[i].2].1 m).j<=mask:=by have:=nO (mask:=mask) (h:=es[(gu mask owner)[i].2].1) m;omega
   obtain ⟨k',hk'⟩:=(tY I.sz hj).mp (q2 m Mq)
   exact (F_ _).mpr ⟨k',(dF I.sz).mpr ⟨hj,hk'⟩⟩
 ·rw [Ir]
  constructor
  ·intro he
   obtain ⟨p,hp,rfl⟩:=List.mem_map.mp he
   have:=ay p hp
   simp [Array.getD,this]
  ·intro he
   obtain ⟨x,hx,rfl⟩:=Qi he
   have hx':x < es.size:=by simpa using hx
   obtain ⟨n,q1,_⟩:=I.reach x (by simpa using hx')
   have eh:(es.map (·.1)).toList[x]'(by simpa using hx')=es[x].1:=by simp
   rw [eh] at q1
   have hj:(st mask es[x].1 n).j<=mask:=by have:=nO (mask:=mask) (h:=es[x].1) n;omega
   refine List.mem_map.mpr ⟨((st mask es[x].1 n).j,x),(dF I.sz).mpr ⟨hj,q1⟩,?_⟩
   simp [Array.getD,hx']
theorem jP:∀ (e_ k n:Nat),n < 2^(k+e_)->∃ k',k<=k'/\sizeAbove.go n e_ (2^k)=2^k'/\n < 2^k'
 | 0,k,n,h=>⟨k,Qy _,rfl,by simpa using h⟩
 | e_+1,k,n,h=>by
  unfold sizeAbove.go
  by_cases c:2^k<=n
  ·rw [if_pos c,show 2^k*2=2^(k+1) by rw [Nat.pow_succ]]
   obtain ⟨k',h1,h2,h3⟩:=jP e_ (k+1) n (by rw [show k+1+e_=k+(e_+1) by omega];exact h)
   exact ⟨k',by omega,h2,h3⟩
  ·rw [if_neg c]
   exact ⟨k,Qy _,rfl,by omega⟩
theorem jW:∀ (e_ size n:Nat),size<=2*n+8->sizeAbove.go n e_ size<=2*n+8
 | 0,size,n,h=>h
 | e_+1,size,n,h=>by
  unfold sizeAbove.go
  by_cases c:size<=n
  ·rw [if_pos c];exact jW e_ _ n (by omega)
  ·rw [if_neg c];exact h
theorem mN (h:n < 2^60):∃ k,3<=k/\sizeAbove n=2^k/\n < 2^k/\sizeAbove n<=2*n+8:=by
 obtain ⟨k,h1,h2,h3⟩:=jP 64 3 n (Nat.lt_of_lt_of_le h (Nat.pow_le_pow_right (by decide) (by decide)))
 exact ⟨k,h1,h2,h3,jW 64 8 n (by omega)⟩
section
variable {K:Type} [DecidableEq K] {knd:KeyKind prog w K}
theorem uM (n:Nat) {v:Value} (h:carriedByValue v=true):ofAClassStatement n v=pure false:=by
 cases v<;>first | (cases n<;>rfl) | (unfold ofAClassStatement;rfl) | (cases h;done)
theorem wH {ks:List K} {Q:Bool->Shared->Prop} (hk:IsTupleKey knd s.heap ks a) (h:Q false s):wpAny (model prog w) A (ofAClassStatement 8 (.ref a)) Q E s:=by
 have hT:=hk.typeIs
 obtain ⟨o,items,n,ho,_,hd,hi⟩:=hk
 unfold ofAClassStatement
 refine QT (wpAny_typeOf hT ?_)
 refine QT (QU ?_)
 dsimp only
 refine QT (wpAny_seqItems ho hd ?_)
 refine QT ?_
 show wpAny _ _ (forIn items _ _) _ _ s
 rw [<- Array.forIn_toList]
 refine wpAny_forIn_list _ (fun rest r s'=>r.1=none/\s'=s/\∀ v∈rest,carriedByValue v=true) _ ?_ ?_ _ _ ⟨rfl,rfl,hi.byValue⟩
 ·rintro v rest r s' ⟨hr,rfl,kg⟩
  rw [uM _ (kg v List.mem_cons_self)]
  refine QT (QU ?_)
  exact QU ⟨rfl,rfl,fun u Iu=>kg u (Qh _ Iu)⟩
 ·rintro ⟨r1,r2⟩ s' ⟨hr,rfl,_⟩
  simp only at hr
  subst hr
  exact QU h
theorem nA {ks:List K} {stored:List Value} {Q:Bool->Shared->Prop} (hk:IsTupleKey knd s.heap ks b) (uz:∀ y∈stored,∃ yp b',y=.ref b'/\IsTupleKey knd s.heap yp b') (h:Q false s):wpAny (model prog w) A (searchCouldBeSeen (.ref b) stored) Q E s:=by
 unfold searchCouldBeSeen
 refine QT ?_
 refine wpAny_forIn_list _ (fun rest r s'=>r.1=none/\s'=s/\∀ y∈rest,∃ yp b',y=.ref b'/\IsTupleKey knd s.heap yp b') _ ?_ ?_ _ _ ⟨rfl,rfl,uz⟩
 ·rintro y rest r s' ⟨hr,rfl,kg⟩
  obtain ⟨yp,b',rfl,hk'⟩:=kg y List.mem_cons_self
  have nx:∀ y∈rest,∃ yp b',y=Value.ref b'/\IsTupleKey knd s'.heap yp b':=fun u hu=>kg u (Qh _ hu)
  dsimp only
  split
  ·exact QU ⟨rfl,rfl,nx⟩
  ·refine QT (wpAny_eqIsQuiet_tuple hk ?_)
   simp only [Bool.not_true,Bool.false_eq_true,if_false]
   refine QT (wpAny_eqIsQuiet_tuple hk' ?_)
   simp only [Bool.not_true,Bool.false_eq_true,if_false]
   refine QT (wH hk ?_)
   simp only [Bool.false_eq_true,if_false]
   refine QT (wH hk' ?_)
   simp only [Bool.false_eq_true,if_false]
   exact QU ⟨rfl,rfl,nx⟩
 ·rintro ⟨r1,r2⟩ s' ⟨hr,rfl,_⟩
  simp only at hr
  subst hr
  exact QU h
theorem yA (n:Nat) {v:Value} (h:carriedByValue v=true):∃ b,hashByValue n v=pure b:=by
 cases v<;>first | (cases n<;>exact ⟨_,rfl⟩) | exact ⟨_,by unfold hashByValue;rfl⟩ | (cases h;done)
theorem V8 {ks:List K} {Q:Bool->Shared->Prop} (hk:IsTupleKey knd s.heap ks a) (h:∀ b,Q b s):wpAny (model prog w) A (hashByValue 8 (.ref a)) Q E s:=by
 have hT:=hk.typeIs
 obtain ⟨o,items,n,ho,_,hd,hi⟩:=hk
 unfold hashByValue
 refine QT (wpAny_specialOf hT F.slot_tuple_hash.lookup ?_)
 refine QT (wpAny_seqItems ho hd ?_)
 refine QT ?_
 show wpAny _ _ (forIn items _ _) _ _ s
 rw [<- Array.forIn_toList]
 refine wpAny_forIn_list _ (fun rest r s'=>r.1=none/\s'=s/\∀ v∈rest,carriedByValue v=true) _ ?_ ?_ _ _ ⟨rfl,rfl,hi.byValue⟩
 ·rintro v rest r s' ⟨hr,rfl,kg⟩
  obtain ⟨b,eb⟩:=yA 7 (kg v List.mem_cons_self)
  rw [eb]
  refine QT (QU ?_)
  cases b with
  | true=>exact QU ⟨rfl,rfl,fun u Iu=>kg u (Qh _ Iu)⟩
  | false=>exact QU (QU (h _))
 ·rintro ⟨r1,r2⟩ s' ⟨hr,rfl,_⟩
  simp only at hr
  subst hr
  exact QU (h _)
def Mr (knd:KeyKind prog w K) (h:Heap) (es:List (Int×Value)):Prop:=∀ e∈es,∃ ks b,e=(tupleKeyHash knd ks,.ref b)/\IsTupleKey knd h ks b
def Gd (knd:KeyKind prog w K) (h:Heap) (es:List (Int×Value)) (ks:List K):Prop:=∃ b,(tupleKeyHash knd ks,Value.ref b)∈es/\IsTupleKey knd h ks b
theorem jF {t:SetTable} (T:n_ t es):t.fits es.size=true:=by
 unfold SetTable.fits SetTable.fill
 rw [T.nd]
 have:=T.sz
 have:=T.room
 simp;omega
theorem V9 {t:SetTable} (T:n_ t es):t.gaveWay=false:=by
 obtain ⟨k,hk,h3⟩:=T.pw
 unfold SetTable.gaveWay
 have:2^k=2*2^(k - 1):=by rw [<- Nat.pow_succ'];congr 1;omega
 have:t.mask % 2=1:=by omega
 rw [this];rfl
theorem oO {t:SetTable} {h:Int} {n0:Nat} {hashAt:Nat->Int} {r:Option Met} (T:n_ t es) (F:FF t h n0) (hn:n<=n0) (e:t.probe hashAt h (st t.mask h n)=r) (hA:∀ i (h:i < es.size),hashAt i=es[i].1):
  (∃ m i,∃ (h1:i < es.size) (h2:i < t.place.size),n<=m/\m < n0/\t.place[i]=(st t.mask h m).j/\es[i].1=h/\(∀ m',n<=m'->m' < m->∀ i' (h1:i' < es.size) (h2:i' < t.place.size),t.place[i']=(st t.mask h m').j->es[i'].1≠h)/\r=some (.candidate (st t.mask h m).j i (st t.mask h (m+1))))\/
  ((∀ m',n<=m'->m' < n0->∀ i' (h1:i' < es.size) (h2:i' < t.place.size),t.place[i']=(st t.mask h m').j->es[i'].1≠h)/\r=some (.empty (st t.mask h n0).j none)):=by
 have hz:=T.sz
 rcases rT (hashAt:=hashAt) T.dj T.nd F (10*turns t.mask) n hn (by have:=F.Iq;omega) with ⟨m,i,hi,h1,h2,h3,h4,h5,h6⟩ | ⟨h1,h2⟩
 ·refine .inl ⟨m,i,by omega,hi,h1,h2,h3,by rw [<- hA];exact h4,fun m' q1 q2 i' g1 g2 g3=>?_,e.symm.trans h6⟩
  rw [<- hA];exact h5 m' q1 q2 i' g2 g3
 ·refine .inr ⟨fun m' q1 q2 i' g1 g2 g3=>?_,e.symm.trans h2⟩
  rw [<- hA];exact h1 m' q1 q2 i' g2 g3
theorem i8 {a b:Addr} {o:Obj} {es:Array (Int×Value)} {ep:Nat} {t:SetTable} {ks:List K} {n0:Nat} {CT:Bool} {Q:SetFound->Shared->Prop} (hu:A.units < cLine)
  (ho:s.heap.get? a=some o) (hd:o.data=.set es ep t) (T:n_ t es) (hE:Mr knd s.heap es.toList) (hk:IsTupleKey knd s.heap ks b) (F:FF t (tupleKeyHash knd ks) n0)
  (yes:Gd knd s.heap es.toList ks->∀ io,(CT=false->io.isSome=true)->Q (.there io) s)
  (no:¬Gd knd s.heap es.toList ks->Q (.free (st t.mask (tupleKeyHash knd ks) n0).j false) s):
  ∀ (e_ n:Nat) (Iv:Option Probe),n<=n0->n0 - n < e_->Iv.getD (t.probeStart (tupleKeyHash knd ks))=st t.mask (tupleKeyHash knd ks) n->
   (∀ m,m < n->∀ i (h1:i < es.size) (h2:i < t.place.size),t.place[i]=(st t.mask (tupleKeyHash knd ks) m).j->¬∃ b',es[i]=(tupleKeyHash knd ks,Value.ref b')/\IsTupleKey knd s.heap ks b')->
   wpAny (model prog w) A (setSearchFrom a (.ref b) (tupleKeyHash knd ks) CT e_ Iv) Q E s
 | 0,n,_,_,hf,_,_=>absurd hf (Nat.not_lt_zero _)
 | e_+1,n,Iv,hn,hf,V_,ii=>by
  unfold setSearchFrom
  refine QT (wpAny_setState_of ho hd (jF T) ?_)
  dsimp only
  rw [V9 T]
  simp only [Bool.false_eq_true,if_false]
  refine QT (QU ?_)
  rw [V_]
  have Ms:∀ hashAt:Nat->Int,(∀ i,hashAt i=((es[i]?).map (·.1)).getD 0)->∀ i (h:i < es.size),hashAt i=es[i].1:=fun hashAt e i h=>by rw [e,Array.getElem?_eq_getElem h];rfl
  have hz:=T.sz
  split
  ·rename_i met Ge
   rcases oO T F hn Ge (Ms _ fun _=>rfl) with ⟨m,i,h1,h2,q1,q2,q3,q4,q5,q6⟩ | ⟨q1,q2⟩
   ·cases q6
    dsimp only
    obtain ⟨yp,b',e1,hk'⟩:=hE es[i] (by simp)
    have go:wpAny (model prog w) A (do
      let equal <- holding [Value.ref b'] (eqBool (Value.ref b') (Value.ref b))
      let Iw <- setState a
      if (CT&&equal)=true then pure (SetFound.there none)
       else
        match Iw.2.snd.sameMemory t.moves t.mask with
        | some same=>do
         let Wa <- match (if same then Iw.2.snd.slot (st t.mask (tupleKeyHash knd ks) m).j else .empty) with
          | .live i'=>match Iw.1[i']? with
           | some (_,y')=>do pure (if <- isSame y' (.ref b') then some i' else none)
           | none=>pure none
          | _=>pure none
         match Wa with
         | none=>rule "set.search.anew";setSearchFrom a (.ref b) (tupleKeyHash knd ks) CT e_ none
         | some i'=>if equal then return .there (some i') else setSearchFrom a (.ref b) (tupleKeyHash knd ks) CT e_ (some (st t.mask (tupleKeyHash knd ks) (m+1)))
        | x=>unsupported "set.changed-during-lookup:is-the-new-block-at-the-old-address") Q E s:=by
     refine QT (wpAny_holding (wpAny_eqBool_tuple hu hk' hk ?_))
     refine QT (wpAny_setState_of ho hd (jF T) ?_)
     dsimp only
     have Ez:t.sameMemory t.moves t.mask=some true:=by unfold SetTable.sameMemory;simp
     have Mt:t.slot (st t.mask (tupleKeyHash knd ks) m).j=.live i:=by rw [<- q3];exact iO T.dj h2
     have Wb:es[i]? =some (tupleKeyHash knd yp,Value.ref b'):=by rw [Array.getElem?_eq_getElem h1,e1]
     rw [Ez]
     dsimp only
     rw [if_pos rfl,Mt]
     dsimp only
     rw [Wb]
     dsimp only
     by_cases c:yp=ks
     ·subst c
      have hs:Gd knd s.heap es.toList yp:=⟨b',by rw [<- e1];simp,hk'⟩
      rw [Qv rfl]
      cases CT with
      | true=>exact QU (yes hs none (fun z=>nomatch z))
      | false=>
       refine QT (wpAny_isSame_ref_self (QT (QU ?_)))
       exact QU (yes hs (some i) fun _=>rfl)
     ·rw [Qw c,Bool.and_false]
      refine QT (wpAny_isSame_ref_self (QT (QU ?_)))
      refine i8 hu ho hd T hE hk F yes no e_ (m+1) (some _) (by omega) (by omega) rfl fun m' Mq i' g1 g2 g3=>?_
      rintro ⟨b2,f1,f2⟩
      rcases Nat.lt_or_ge m' n with d | d
      ·exact ii m' d i' g1 g2 g3 ⟨b2,f1,f2⟩
      ·rcases Nat.lt_or_ge m' m with d' | d'
       ·exact q5 m' d d' i' g1 g2 g3 (by rw [f1])
       ·have:m'=m:=by omega
        subst this
        have ei:i'=i:=by
         have:=iO T.dj g2
         rw [g3,Mt] at this
         injection this with this
         exact this.symm
        subst ei
        rw [e1] at f1
        injection f1 with _ f3
        injection f3 with f3
        subst f3
        exact c (hk'.inj f2)
    split
    ·refine QT (nA hk (fun y hy=>?_) ?_)
     ·obtain ⟨e,he,rfl⟩:=List.mem_map.mp hy
      have:e∈es.toList:=by simp at he;simpa using he.1
      obtain ⟨k2,b2,e2,Al⟩:=hE e this
      exact ⟨k2,b2,by rw [e2],Al⟩
     ·simp only [Bool.false_eq_true,if_false]
      refine QT (QU ?_)
      rw [Array.getElem?_eq_getElem h1,e1]
      exact go
    ·refine QT (QU ?_)
     rw [Array.getElem?_eq_getElem h1,e1]
     exact go
   ·cases q2
    dsimp only
    refine QU (no ?_)
    rintro ⟨b',hm,hb⟩
    obtain ⟨i,hi,e⟩:=Qi hm
    have cj:i < es.size:=by simpa using hi
    have e':es[i]=(tupleKeyHash knd ks,Value.ref b'):=by simpa using e
    obtain ⟨m,yq,hm2⟩:=T.met F cj (by omega) (by rw [e'])
    rcases Nat.lt_or_ge m n with c | c
    ·exact ii m c i cj (by omega) hm2.symm ⟨b',e',hb⟩
    ·exact q1 m c yq i cj (by omega) hm2.symm (by rw [e'])
  ·rename_i Ge
   rcases oO T F hn rfl (Ms _ fun _=>rfl) with ⟨_,_,_,_,_,_,_,_,_,q6⟩ | ⟨_,q2⟩
   ·exact (Ge _ q6).elim
   ·exact (Ge _ q2).elim
def jd (knd:KeyKind prog w K) (h:Heap) (a:Addr) (ao:List (List K×Addr)):Prop:=∃ (o:Obj) (es:Array (Int×Value)) (ep:Nat) (t:SetTable),h.get? a=some o/\o.ExactSet/\o.data=.set es ep t/\n_ t es/\
 (∀ e,e∈es.toList↔∃ p∈ao,e=(tupleKeyHash knd p.1,Value.ref p.2))/\es.size=ao.length/\t.mask<=9000
def KeysIn (knd:KeyKind prog w K) (h:Heap) (ao:List (List K×Addr)):Prop:=∀ p∈ao,IsTupleKey knd h p.1 p.2
theorem o8 {ao:List (List K×Addr)} (hk:KeysIn knd h ao) (he:∀ e,e∈es.toList↔∃ p∈ao,e=(tupleKeyHash knd p.1,Value.ref p.2)):Mr knd h es.toList:=fun e hm=>by
 obtain ⟨p,hp,rfl⟩:=(he e).mp hm
 exact ⟨p.1,p.2,rfl,hk p hp⟩
theorem qR {ao:List (List K×Addr)} {ks:List K} (hk:KeysIn knd h ao) (he:∀ e,e∈es.toList↔∃ p∈ao,e=(tupleKeyHash knd p.1,Value.ref p.2)):Gd knd h es.toList ks↔ks∈ao.map (·.1):=by
 constructor
 ·rintro ⟨b,hm,hb⟩
  obtain ⟨p,hp,e⟩:=(he _).mp hm
  injection e with _ e2
  injection e2 with e2
  subst e2
  exact List.mem_map.mpr ⟨p,hp,(hk p hp).inj hb⟩
 ·intro hm
  obtain ⟨p,hp,rfl⟩:=List.mem_map.mp hm
  exact ⟨p.2,(he _).mpr ⟨p,hp,rfl⟩,hk p hp⟩
theorem sG (b:Addr) (es:Array (Int×Value)):byScan (.ref b) es=false:=rfl
theorem uF {ao:List (List K×Addr)} {ks:List K} {Q:Option Nat->Shared->Prop} (hu:A.units < cLine) (hS:jd knd s.heap a ao) (hK:KeysIn knd s.heap ao) (hk:IsTupleKey knd s.heap ks b)
  (h:∀ io:Option Nat,io.isSome=decide (ks∈ao.map (·.1))->Q io s):wpAny (model prog w) A (setFind a (.ref b) (tupleKeyHash knd ks)) Q E s:=by
 obtain ⟨o,es,ep,t,ho,hex,hd,T,he,hsz,hm⟩:=hS
 obtain ⟨n0,F⟩:=T.ff (tupleKeyHash knd ks)
 have hh:=qR (ks:=ks) hK he
 unfold setFind setFindIn
 refine QT (wpAny_setState_of ho hd (jF T) ?_)
 dsimp only
 rw [sG]
 simp only [Bool.false_eq_true,if_false]
 unfold setSearch
 refine QT (i8 hu ho hd T (o8 hK he) hk F (fun hy io Mu=>?_) (fun hn=>?_) 100000 0 none (Nat.zero_le _) (by have:=F.Iq;unfold turns at this;omega) rfl fun m hm=>absurd hm (Nat.not_lt_zero _))
 ·exact QU (h io (by rw [Mu rfl,Qv (hh.mp hy)]))
 ·exact QU (h none (by rw [Qw fun z=>hn (hh.mpr z)];rfl))
theorem lY {ao:List (List K×Addr)} {ks:List K} {Q:Bool->Shared->Prop} (hu:A.units < cLine) (hS:jd knd s.heap a ao) (hK:KeysIn knd s.heap ao) (hk:IsTupleKey knd s.heap ks b)
  (h:∀ r tk,(r=true↔ks∈ao.map (·.1))->Q r {s with toks:=tk}):wpAny (model prog w) A (setContains a (.ref b)) Q E s:=by
 unfold setContains
 refine wpAny_holding (QT ((tupleKind knd).pyHash hu hk ?_))
 refine QT (uF (s:={s with toks:=_}) hu hS hK hk fun io e=>QU ?_)
 rw [e]
 exact h _ _ decide_eq_true_iff
theorem pL {xs:Array α} {p:Nat} {x e:α} (hp:p<=xs.size):e∈(insertAt xs p x).toList↔e=x\/e∈xs.toList:=by
 rw [dY hp]
 rw [List.mem_append,Qp]
 conv=>rhs;rw [<- List.take_append_drop p xs.toList,List.mem_append]
 constructor
 ·rintro (h | h | h)
  ·exact .inr (.inl h)
  ·exact .inl h
  ·exact .inr (.inr h)
 ·rintro (h | h | h)
  ·exact .inr (.inl h)
  ·exact .inl h
  ·exact .inr (.inr h)
theorem o9 {o:Obj} {es':Array (Int×Value)} {ep:Nat} {t t':SetTable} (ho:h.get? a=some o) (hd:o.data=.set es ep t):(h.update a (Obj.putSet es' t')).get? a=some {o with data:=.set es' (ep+1) t'}:=by
 have:=Heap.get?_update_self (Obj.putSet es' t') ho (by rw [putSet_of es' t' hd];rfl)
 rw [putSet_of es' t' hd] at this;exact this
theorem Wc {X:Array (Int×Value)} {t':SetTable} {order:Array Nat} {Q:Array (Int×Value)×SetTable->Shared->Prop} (l4:(order.filterMap (X[·]?)).size=X.size) (h:Q (order.filterMap (X[·]?),t') s):wpAny (model prog w) A (do
  let some (t,od):=(some (t',order):Option (SetTable×Array Nat)) | unsupported "internal:set-table-without-room"
  let es':=od.filterMap (X[·]?)
  if es'.size !=X.size then unsupported "internal:set-table-lost-an-element"
  pure (es',t)) Q E s:=by
 dsimp only
 rw [if_neg (by rw [l4];simp)]
 exact QU h
theorem lH {ao:List (List K×Addr)} {ks:List K} {Q:Bool->Shared->Prop} (hu:A.units < cLine) (hS:jd knd s.heap a ao) (hK:KeysIn knd s.heap ao) (hk:IsTupleKey knd s.heap ks b) (hl:ao.length < 1000)
  (hy:ks∈ao.map (·.1)->Q false s) (hn:ks ∉ ao.map (·.1)->∀ h',Heap.SameBut a s.heap h'->jd knd h' a (ao++[(ks,b)])->Q true {s with heap:=h'}):wpAny (model prog w) A (setAddHashed a (.ref b) (tupleKeyHash knd ks)) Q E s:=by
 obtain ⟨o,es,ep,t,ho,hex,hd,T,he,hsz,hm⟩:=hS
 obtain ⟨n0,F⟩:=T.ff (tupleKeyHash knd ks)
 have hh:=qR (ks:=ks) hK he
 have We:sizeLine=16777216:=QL
 unfold setAddHashed setAddHashedIn
 refine wpAny_holding (QT (wpAny_setState_of ho hd (jF T) ?_))
 dsimp only
 rw [sG]
 simp only [Bool.false_eq_true,if_false]
 unfold setSearch
 refine QT (i8 hu ho hd T (o8 hK he) hk F (fun h io Mu=>?_) (fun h=>?_) 100000 0 none (Nat.zero_le _) (by have:=F.Iq;unfold turns at this;omega) rfl fun m hm=>absurd hm (Nat.not_lt_zero _))
 ·exact QU (hy (hh.mp h))
 ·dsimp only
  refine QT (wpAny_setState_of ho hd (jF T) ?_)
  dsimp only
  rw [mL T.nd]
  dsimp only
  have xu:ks ∉ ao.map (·.1):=fun z=>h (hh.mpr z)
  have hp:=(fG (j:=(st t.mask (tupleKeyHash knd ks) n0).j) T.dj).1
  have Gf:below t.place (st t.mask (tupleKeyHash knd ks) n0).j<=es.size:=by have:=T.sz;omega
  have CU:=bG (x:=(tupleKeyHash knd ks,Value.ref b)) Gf
  have ir:∀ e,e∈(insertAt es (below t.place (st t.mask (tupleKeyHash knd ks) n0).j) (tupleKeyHash knd ks,Value.ref b)).toList↔∃ p∈ao++[(ks,b)],e=(tupleKeyHash knd p.1,Value.ref p.2):=fun e=>by
   rw [pL Gf,he]
   constructor
   ·rintro (rfl | ⟨p,hp,rfl⟩)
    ·exact ⟨(ks,b),List.mem_append_right _ (List.mem_singleton.mpr rfl),rfl⟩
    ·exact ⟨p,List.mem_append_left _ hp,rfl⟩
   ·rintro ⟨p,hp,rfl⟩
    rcases List.mem_append.mp hp with hp | hp
    ·exact .inr ⟨p,hp,rfl⟩
    ·rw [List.mem_singleton] at hp;subst hp;exact .inl rfl
  -- Bu rest,aaC 'aaD is
  have rest:∀ (pl:Bool) (s1:Shared),s1=s->wpAny (model prog w) A (do
    storeSet a (insertAt es (below t.place (st t.mask (tupleKeyHash knd ks) n0).j) (tupleKeyHash knd ks,Value.ref b)) {l_ t (st t.mask (tupleKeyHash knd ks) n0).j with plain:=pl}
    if (!false&&({l_ t (st t.mask (tupleKeyHash knd ks) n0).j with plain:=pl}:SetTable).tooFull)=true then do setRelay a (SetTable.grown (es.size+1));pure true else pure true) Q E s1:=by
   rintro pl s1 rfl
   refine QT (wpAny_storeSet_of ho hd ?_ (by rw [CU];omega))
   have B4:=o9 (es':=insertAt es (below t.place (st t.mask (tupleKeyHash knd ks) n0).j) (tupleKeyHash knd ks,Value.ref b)) (t':={l_ t (st t.mask (tupleKeyHash knd ks) n0).j with plain:=pl}) ho hd
   have Gg:=Heap.SameBut.update s1.heap a (Obj.putSet (insertAt es (below t.place (st t.mask (tupleKeyHash knd ks) n0).j) (tupleKeyHash knd ks,Value.ref b)) {l_ t (st t.mask (tupleKeyHash knd ks) n0).j with plain:=pl})
   have Mv:({l_ t (st t.mask (tupleKeyHash knd ks) n0).j with plain:=pl}:SetTable).fill=es.size+1:=by
    show (insertAt t.place _ _).size+t.dummies.size=_
    rw [bG hp,T.nd,T.sz];rfl
   by_cases full:({l_ t (st t.mask (tupleKeyHash knd ks) n0).j with plain:=pl}:SetTable).tooFull=true
   ·rw [if_pos (by simpa using full)]
    have Wf:({l_ t (st t.mask (tupleKeyHash knd ks) n0).j with plain:=pl}:SetTable).fits (insertAt es (below t.place (st t.mask (tupleKeyHash knd ks) n0).j) (tupleKeyHash knd ks,Value.ref b)).size=true:=by
     unfold SetTable.fits
     rw [Mv,CU]
     have h1:=T.room
     have h2:(insertAt t.place (below t.place (st t.mask (tupleKeyHash knd ks) n0).j) (st t.mask (tupleKeyHash knd ks) n0).j).size=es.size+1:=by rw [bG hp,T.sz]
     have h3:es.size+1<=t.mask:=by
      obtain ⟨k,hk,k3⟩:=T.pw
      have:2^3<=2^k:=Nat.pow_le_pow_right (by decide) k3
      omega
     simp [h2,h3]
    have Gh:SetTable.grown (es.size+1)=4*(es.size+1):=by
     unfold SetTable.grown
     rw [if_neg (by omega)];omega
    obtain ⟨k,k3,e2,lt,le⟩:=mN (n:=SetTable.grown (es.size+1)) (by rw [Gh];omega)
    rw [Gh] at lt le
    have Wg:SetTable.sizeAbove (SetTable.grown (es.size+1)) - 1+1=2^k:=by rw [e2];have:0 < 2^k:=Nat.pow_pos (by decide);omega
    obtain ⟨t',order,l1,l2,l3,l4,l5⟩:=xE (mask:=SetTable.sizeAbove (SetTable.grown (es.size+1)) - 1) (finger:=t.finger) (moves:=({l_ t (st t.mask (tupleKeyHash knd ks) n0).j with plain:=pl}:SetTable).movedTo (SetTable.sizeAbove (SetTable.grown (es.size+1)) - 1)) (led:=t.led) (plain:=pl) (es:=insertAt es (below t.place (st t.mask (tupleKeyHash knd ks) n0).j) (tupleKeyHash knd ks,Value.ref b)) Wg k3 (by rw [CU,e2];omega)
    refine QT ?_
    unfold setRelay
    refine QT (wpAny_setState_of B4 rfl Wf ?_)
    dsimp only
    rw [if_neg (by rw [We,Gh] at*;omega)]
    have er:({l_ t (st t.mask (tupleKeyHash knd ks) n0).j with plain:=pl}:SetTable).relaid (Array.map (fun x=>x.fst) (insertAt es (below t.place (st t.mask (tupleKeyHash knd ks) n0).j) (tupleKeyHash knd ks,Value.ref b))) (SetTable.grown (es.size+1))=some (t',order):=l1
    rw [er]
    refine QT (Wc l4 ?_)
    refine wpAny_storeSet_of B4 rfl ?_ (by rw [l4,CU];omega)
    have u_:=o9 (es':=order.filterMap ((insertAt es (below t.place (st t.mask (tupleKeyHash knd ks) n0).j) (tupleKeyHash knd ks,Value.ref b))[·]?)) (t':=t') B4 rfl
    refine QU (hn xu _ (Gg.trans (Heap.SameBut.update _ a _)) ⟨_,_,_,_,u_,hex,rfl,l2,fun e=>(l3 e).trans (ir e),by rw [l4,CU,hsz];simp,by rw [l5];rw [Gh] at*;omega⟩)
   ·rw [if_neg (by simpa using full)]
    have hr:(es.size+1)*5 < t.mask*3:=by
     unfold SetTable.tooFull at full
     rw [Mv] at full
     simpa using full
    have T':=T.put (x:=Value.ref b) F hr
    refine QU (hn xu _ Gg ⟨_,_,_,_,B4,hex,rfl,⟨T'.pw,T'.nd,T'.sz,T'.dj,T'.le,T'.room,T'.reach⟩,ir,by rw [CU,hsz];simp,hm⟩)
  by_cases AN:t.plain=true
  ·rw [if_pos AN]
   refine QT (V8 hk fun bv=>?_)
   cases bv with
   | true=>exact rest t.plain s rfl
   | false=>exact rest false s rfl
  ·rw [if_neg AN]
   exact QT (QU (rest t.plain s rfl))
theorem oB {ao:List (List K×Addr)} {ks:List K} {Q:Bool->Shared->Prop} (hu:A.units < cLine) (hS:jd knd s.heap a ao) (hK:KeysIn knd s.heap ao) (hk:IsTupleKey knd s.heap ks b) (hl:ao.length < 1000)
  (hy:ks∈ao.map (·.1)->∀ tk,s.toks<=tk->Q false {s with toks:=tk}) (hn:ks ∉ ao.map (·.1)->∀ h' tk,s.toks<=tk->Heap.SameBut a s.heap h'->jd knd h' a (ao++[(ks,b)])->Q true {s with heap:=h',toks:=tk}):wpAny (model prog w) A (setAdd a (.ref b)) Q E s:=by
 unfold setAdd
 refine wpAny_holding (QT ((tupleKind knd).pyHash hu hk ?_))
 exact lH (s:={s with toks:=_}) hu hS hK hk hl (fun h=>hy h _ (Nat.le_add_right _ _)) fun h h' sb st=>hn h h' _ (Nat.le_add_right _ _) sb st
end
end L2
namespace L2
open PySem PySem.Spec PyProof.Rows
open Classical in
noncomputable def jr (ks:Nat->List Key) (bs:Nat->Addr):Nat->List (List Key×Addr)
 | 0=>[]
 | i+1=>if ks i∈(jr ks bs i).map (·.1) then jr ks bs i else jr ks bs i++[(ks i,bs i)]
theorem pS (ks:Nat->List Key) (bs:Nat->Addr):∀ i,(jr ks bs i).length<=i
 | 0=>Qy _
 | i+1=>by have:=pS ks bs i;unfold jr;split<;>simp<;>omega
theorem jN (ks:Nat->List Key) (bs:Nat->Addr):∀ i p,p∈jr ks bs i->∃ j,j < i/\p=(ks j,bs j)
 | 0,p,h=>nomatch h
 | i+1,p,h=>by
  unfold jr at h
  split at h
  ·obtain ⟨j,h1,h2⟩:=jN ks bs i p h;exact ⟨j,by omega,h2⟩
  ·rcases List.mem_append.mp h with h | h
   ·obtain ⟨j,h1,h2⟩:=jN ks bs i p h;exact ⟨j,by omega,h2⟩
   ·exact ⟨i,by omega,List.mem_singleton.mp h⟩
theorem nQ (ks:Nat->List Key) (bs:Nat->Addr):∀ i k,k∈(jr ks bs i).map (·.1)↔∃ j,j < i/\ks j=k
 | 0,k=>by simp [jr]
 | i+1,k=>by
  have ih:=nQ ks bs i
  unfold jr
  split
  ·rename_i h
   rw [ih]
   constructor
   ·rintro ⟨j,h1,h2⟩;exact ⟨j,by omega,h2⟩
   ·rintro ⟨j,h1,h2⟩
    rcases Nat.lt_or_ge j i with c | c
    ·exact ⟨j,c,h2⟩
    ·have:j=i:=by omega
     subst this
     rw [<- h2];exact (ih _).mp h
  ·rw [Qm,List.mem_append,ih]
   constructor
   ·rintro (⟨j,h1,h2⟩ | h)
    ·exact ⟨j,by omega,h2⟩
    ·exact ⟨i,by omega,by simpa using (List.mem_singleton.mp h).symm⟩
   ·rintro ⟨j,h1,h2⟩
    rcases Nat.lt_or_ge j i with c | c
    ·exact .inl ⟨j,c,h2⟩
    ·have:j=i:=by omega
     subst this
     exact .inr (by simp [h2])
section
theorem Mw (x:IsTupleKey (bx prog w) h ks b) (k:∀ o,h.get? b=some o->h'.get? b=some o):IsTupleKey (bx prog w) h' ks b:=let ⟨o,it,n,ho,r⟩:=x;⟨o,it,n,k o ho,r⟩
theorem _root_.PySem.IsTupleKey.lt (x:IsTupleKey (bx prog w) h ks b):b < h.objs.size:=let ⟨_,_,_,ho,_⟩:=x;Qz ho
theorem kM (q:jd (bx prog w) h a ao) (k:∀ o,h.get? a=some o->h'.get? a=some o):jd (bx prog w) h' a ao:=let ⟨o,es,ep,t,ho,r⟩:=q;⟨o,es,ep,t,k o ho,r⟩
theorem zL {led:Bool} (e:h.get? a=some {cls:=.type "set",dict:=none,data:=.set #[] 0 (.fresh 0 0 led)}):jd (bx prog w) h a []:=
 ⟨_,#[],0,_,e,⟨rfl,rfl,rfl⟩,rfl,⟨⟨3,rfl,Qy _⟩,rfl,rfl,fun i k h hk=>absurd hk (by simp [SetTable.fresh]),fun i h=>absurd h (by simp [SetTable.fresh]),(show 0*5 < 7*3 by decide),fun i h=>absurd h (by simp)⟩,fun e=>by simp,rfl,by show 7<=9000;decide⟩
variable {I:Addr} {wr:List Addr} {P:Nat->Value->Prop} {St:Nat->Shared->Prop}
theorem oV (hu:A.in1.units < cLine) (W:WalksS prog w A.in1 I fp wr G n P St) (S:Addr) (hS:S ∉ fp) (ks:Nat->List Key) (bs:Nat->Addr) (hv:∀ i v,P i v->v=.ref (bs i)) (hb:n < 1000) {h0:Heap} (hK:∀ i,i < n->IsTupleKey (bx prog w) h0 (ks i) (bs i)) (ii:∀ i,i < n->bs i≠S/\bs i ∉ wr):∀ (k i:Nat) (s:Shared),n - i=k->i<=n->St i s->jd (bx prog w) s.heap S (jr ks bs i)->
  (∀ b o,b≠S->b ∉ wr->h0.get? b=some o->s.heap.get? b=some o)->
  (∀ s',Moved (S::wr) G s s'->jd (bx prog w) s'.heap S (jr ks bs n)->R (.ok (.ret .none)) s')->codeAny (model prog w) A (.builtin "set.update.loop" ⟨[.ref S,.ref I],[]⟩) R s:=by
 have hw:S ∉ wr:=fun h=>hS (W.sub _ h)
 have up:∀ b∈wr,b∈S::wr:=fun b hb=>Qh _ hb
 intro k
 induction k with
 | zero=>
  intro i s hk hi st q Mx hR
  obtain rfl:i=n:=by omega
  refine codeAny_builtin F.entry_set_update_loop ?_
  rw [Around.under_plainId F.plain_set_update_loop _]
  show wpAny _ A.in1 (pyNext (.ref I) >>=_) _ _ s
  exact QT (W.done s _ _ st fun s' hm=>QU (hR s' (hm.mono up) (kM q fun o e=>hm.heap S o hw e)))
 | succ k ih=>
  intro i s hk hi st q Mx hR
  have ay:i < n:=by omega
  refine codeAny_builtin F.entry_set_update_loop ?_
  rw [Around.under_plainId F.plain_set_update_loop _]
  show wpAny _ A.in1 (pyNext (.ref I) >>=_) _ _ s
  refine QT (W.item i s _ _ ay st fun v s' hP st' hm=>?_)
  obtain rfl:=hv i v hP
  have q':=kM q fun o e=>hm.heap S o hw e
  have Iz:∀ b o,b≠S->b ∉ wr->h0.get? b=some o->s'.heap.get? b=some o:=fun b o n1 n2 e=>hm.heap b o n2 (Mx b o n1 n2 e)
  have My:∀ j,j < n->IsTupleKey (bx prog w) s'.heap (ks j) (bs j):=fun j hj=>Mw (hK j hj) fun o e=>Iz _ _ (ii j hj).1 (ii j hj).2 e
  show wpAny _ A.in1 (holding [Value.ref (bs i)] (setAdd S (.ref (bs i))) >>=_) _ _ s'
  refine QT (wpAny_holding ?_)
  refine oB hu q' (fun p hp=>?_) (My i ay) (by have:=pS ks bs i;omega) (fun hy tk wq=>?_) (fun hn h' tk wq Gg q2=>?_)
  ·obtain ⟨j,hj,rfl⟩:=jN ks bs i p hp
   exact My j (by omega)
  ·have e1:jr ks bs (i+1)=jr ks bs i:=by rw [jr,if_pos hy]
   refine QU ⟨plainId_quiet F.plain_set_update_loop _,ih (i+1) _ (by omega) ay (W.frame _ s' _ _ st' wq fun b hb o e=>e) (by rw [e1];exact q') Iz fun s'' hm2 q4=>hR s'' (Moved.trans W.gtrans ((hm.mono up).then_heap wq fun b o hb e=>e) hm2) q4⟩
  ·have e1:jr ks bs (i+1)=jr ks bs i++[(ks i,bs i)]:=by rw [jr,if_neg hn]
   have IA:∀ b o,b≠S->s'.heap.get? b=some o->h'.get? b=some o:=fun b o hb e=>by rw [Gg.2 b hb];exact e
   refine QU ⟨plainId_quiet F.plain_set_update_loop _,ih (i+1) _ (by omega) ay (W.frame _ s' _ _ st' wq fun b hb o e=>IA b o (fun z=>hS (by rw [<- z];exact hb)) e) (by rw [e1];exact q2) (fun b o n1 n2 e=>IA b o n1 (Iz b o n1 n2 e)) fun s'' hm2 q4=>hR s'' (Moved.trans W.gtrans ((hm.mono up).then_heap wq fun b o hb e=>IA b o (fun z=>hb (by rw [z];exact List.mem_cons_self)) e) hm2) q4⟩
end
def Wh (prog:Program) (w:World) (E:Value->Shared->Prop) (s:Shared) (ks:Nat->List Key) (bs:Nat->Addr) (n:Nat):Result->Shared->Prop:=wants (fun r s₂=>r=.none/\∃ h' tk,s₂={s with heap:=h',toks:=tk}/\jd (bx prog w) h' s.heap.objs.size (jr ks bs n)/\∀ b o,b < s.heap.objs.size->s.heap.get? b=some o->h'.get? b=some o) E
set_option maxHeartbeats 3200000 in
theorem lG {items:Array Value} {ks:Nat->List Key} {bs:Nat->Addr} (hu:A.units+10 < cLine) (hh:A.handled=none) (hl:s.heap.IsList l items) (hi:∀ (i:Nat) (v:Value),items[i]? =some v->v=Value.ref (bs i)) (hb:items.size < 1000)
  (hK:∀ i,i < items.size->IsTupleKey (bx prog w) s.heap (ks i) (bs i))
  (h:∀ (h':Heap) (tk:Nat),jd (bx prog w) h' s.heap.objs.size (jr ks bs items.size)->(∀ b o,b < s.heap.objs.size->s.heap.get? b=some o->h'.get? b=some o)->Q (.ref s.heap.objs.size) {s with heap:=h',toks:=tk}):
  wpAny (model prog w) A (call (.type "set") [.ref l]) Q E s:=by
 obtain ⟨c,tl,aaE⟩:=F.called_set.mro
 have aaF:=F.called_set.made
 have aaG:=F.called_set.sub
 refine wpAny_call (codeAny_of_tree ?_)
 show wpAny _ _ (callAny (.type "set") _) _ _ s
 refine QU ⟨Code.quiet_builtin _ (by decide+kernel),codeAny_builtin F.entry_type_call ?_⟩
 rw [Around.under_plain (weight_type_call_type "set" [.ref l] []) rfl]
 have h1:=F.called_set.notType
 have h2:=F.called_set.canCreate
 have hct:=F.typeCall_set_1 (.ref l)
 repeat (any_goals (first | assumption | wp_step))
 refine codeAny_mono (code_set_new_1 (.ref l) (E:=E) (Q₁:=fun obj s₁=>∃ led:Bool,obj=.ref s.heap.objs.size/\s₁={s with heap:=s.heap.push (yn led)}) fun led=>⟨led,rfl,rfl⟩) fun r s₁ hr=>?_
 cases r with
 | error e=>exact hr
 | ok fl=>
  cases fl with
  | ret obj=>
   obtain ⟨led,rfl,rfl⟩:=hr
   have hS:(s.heap.push (yn led)).get? s.heap.objs.size=some (yn led):=Qd _ rfl
   have hT:Shared.TypeIs {s with heap:=s.heap.push (yn led)} (.ref s.heap.objs.size) "set":=⟨_,hS,rfl⟩
   have hli:=F.called_set.init.lookup
   have hbi:=F.called_set.init.bind (.ref s.heap.objs.size)
   repeat (any_goals (first | assumption | wp_step))
   refine codeAny_mono (codeAny_call_builtin (R:=Wh prog w E s ks bs items.size) F.called_set.init.plain F.entry_set_init (check_set_init_1 hT ?_)) fun r₂ s₂ IB=>?_
   ·obtain ⟨⟨oc,od,oda,nk⟩,A3,nq,nl,Ed⟩:=hl
    simp only at nq Ed
    subst nq Ed
    have Wi:(s.heap.push (yn led)).get? l=some {cls:=.type "list",dict:=od,data:=.seq items nl,slots:=nk}:=Qc _ A3
    have aaL:=F.sub_list_set
    have aaM:=F.sub_list_frozenset
    have ii:(Value.type "list"==Value.type "dict")=false:=by decide
    have hl1:(s.heap.push (yn led)).IsList l items:=⟨_,Wi,rfl,nl,rfl⟩
    unfold Builtin.«set.__init__» noKeywords Builtin.Frozenset.updateFrom
    generalize Wj:pyIter=PI
    wp_walk
    subst Wj
    refine wpAny_pyIter_list hl1 (QT (wpAny_runValue ?_))
    have Mz:l < s.heap.objs.size:=Qz A3
    have hz:(s.heap.push (yn led)).objs.size=s.heap.objs.size+1:=Heap.size_push ..
    have Wk:l≠(s.heap.push (yn led)).objs.size:=by rw [hz];exact Nat.ne_of_lt (Nat.lt_succ_of_lt Mz)
    have Wl:s.heap.objs.size ∉ [(s.heap.push (yn led)).objs.size,l]:=by
     rw [hz]
     simp only [Qp,QA,or_false,not_or]
     exact ⟨Nat.ne_of_lt (Nat.lt_succ_self _),Nat.ne_of_gt Mz⟩
    have q0:jd (bx prog w) ((s.heap.push (yn led)).push {cls:=.type "list_iterator",data:=.fields #[.ref l,.int 0 0]}) s.heap.objs.size (jr ks bs 0):=zL (Qc _ hS)
    refine oV (show A.units+1+1+1 < cLine by omega) ((Walks.list (by simp [hh]) _ l Wk items).toS) s.heap.objs.size Wl ks bs (fun i v hP=>hi i v hP) (by omega) (fun i cj=>Mw (hK i cj) fun o e=>Qc _ (Qc _ e)) (fun i cj=>⟨Nat.ne_of_lt (hK i cj).lt,by rw [hz];simp only [List.mem_singleton];exact Nat.ne_of_lt (Nat.lt_succ_of_lt (hK i cj).lt)⟩) items.size 0 _ rfl (Nat.zero_le _) ⟨⟨_,Qd _ rfl,rfl,rfl⟩,(hl1.push _)⟩ q0 (fun b o _ _ e=>e) fun s' hm q=>?_
    obtain ⟨h',g',d',FW,Hr⟩:=s'
    have eg:g'=s.gens:=hm.gens
    have ed:d'=s.drawn:=hm.drawn
    have eo:Hr=s.os:=hm.os
    subst eg ed eo
    show wpAny _ _ _ _ _ _
    refine QU ?_
    show wpAny _ _ (ret Value.none) _ _ _
    refine QU ⟨rfl,h',FW,rfl,q,fun b o BX e=>hm.heap b o ?_ (Qc _ (Qc _ e))⟩
    simp only [Qp,QA,or_false,not_or]
    exact ⟨Nat.ne_of_lt BX,by rw [hz];exact Nat.ne_of_lt (Nat.lt_succ_of_lt BX)⟩
   ·cases r₂ with
    | error e=>exact IB
    | ok Wm=>
     cases Wm with
     | ret r=>
      obtain ⟨rfl,h',tk,rfl,MA,hk'⟩:=IB
      repeat (any_goals (first | assumption | wp_step))
      exact h _ _ MA hk'
     | _=>exact IB.elim
  | _=>exact hr.elim
theorem jd.typeIs (h:jd (bx prog w) s.heap a ao):s.TypeIs (.ref a) "set":=let ⟨o,_,_,_,ho,hc,_⟩:=h;⟨o,ho,hc.1⟩
theorem jd.noDict (h:jd (bx prog w) s.heap a ao):∀ b,Value.ref a=.ref b->∃ ob,s.heap.get? b=some ob/\ob.dict=none:=
 fun b e=>by injection e with e;subst e;exact let ⟨o,_,_,_,ho,hc,_⟩:=h;⟨o,ho,hc.2.1⟩
theorem qS {Q:Bool->Shared->Prop} (hu:A.units+10 < cLine) (hS:jd (bx prog w) s.heap a ao) (hK:KeysIn (bx prog w) s.heap ao) (hk:IsTupleKey (bx prog w) s.heap ks b)
  (h:∀ r tk,(r=true↔ks∈ao.map (·.1))->Q r {s with toks:=tk}):wpAny (model prog w) A (contains (.ref a) (.ref b)) Q E s:=by
 unfold contains
 try with_reducible refine wpAny_holding ?_
 refine QT (wpAny_specialOf hS.typeIs F.slot_set_contains.lookup ?_)
 show wpAny _ _ (if (some (Value.builtin "set.__contains__")==some Value.none)=true then _ else _) _ E s
 rw [if_neg (by rw [beq_builtin_none];exact Bool.false_ne_true)]
 refine QT (wpAny_callSpecialUnlessNone?_slot (name:=Str.ofString "__contains__") hS.typeIs F.slot_set_contains
  (wpAny_call_entry F.slot_set_contains hS.typeIs entry_set_contains ?_ (F.args_set_contains_2 _ _)))
 unfold Builtin.«frozenset.__contains__» Builtin.Frozenset.oneOther
 simp only [List.isEmpty_nil,bind_assoc]
 unfold Builtin.Frozenset.addrOf Builtin.Frozenset.withSetAsKey
 refine QT (QU ?_)
 try dsimp only
 refine QT (QU ?_)
 try dsimp only
 refine QT (wpAny_tryCatch ?_)
 refine lY (by first | (show A.units+1 < cLine;omega) | (show A.units < cLine;omega) | (show A.units+2 < cLine;omega)) hS hK hk fun r tk hr=>?_
 show wpAny _ _ (ret (Value.bool _)) _ _ _
 exact QU ⟨_,rfl,wpAny_truthy_bool (h r tk hr)⟩
theorem tD (hu:A.units+10 < cLine) (hS:jd (bx prog w) s.heap a ao) (hK:KeysIn (bx prog w) s.heap ao) (hk:IsTupleKey (bx prog w) s.heap ks b) (hl:ao.length < 1000)
  (hy:ks∈ao.map (·.1)->∀ tk,Q .none {s with toks:=tk}) (hn:ks ∉ ao.map (·.1)->∀ h' tk,Heap.SameBut a s.heap h'->jd (bx prog w) h' a (ao++[(ks,b)])->Q .none {s with heap:=h',toks:=tk}):wpAny (model prog w) A (call (.builtin "set.add") [.ref a,.ref b]) Q E s:=by
 refine wpAny_call_entry F.slot_set_add hS.typeIs F.entry_set_add ?_ (F.args_set_add_2 _ _)
 unfold Builtin.«set.add» Builtin.Frozenset.oneOther
 simp only [List.isEmpty_nil,bind_assoc]
 unfold Builtin.Frozenset.addrOf
 refine QT (QU ?_)
 try dsimp only
 refine QT (QU ?_)
 try dsimp only
 refine QT ?_
 refine oB (by first | (show A.units+1 < cLine;omega) | (show A.units < cLine;omega)) hS hK hk hl (fun h tk _=>?_) (fun h h' tk _ sb st=>?_)
 ·show wpAny _ _ (ret Value.none) _ _ _
  exact QU ⟨_,rfl,hy h tk⟩
 ·show wpAny _ _ (ret Value.none) _ _ _
  exact QU ⟨_,rfl,hn h h' tk sb st⟩
abbrev ik (P:Program) (w:World) (a:Addr) (ao:List (List Key×Addr)):HO:=.ext fun h=>jd (bx P w) h a ao
structure uq (P:Program) (w:World) (H:Hp) (a:Addr) (ao:List (List Key×Addr)):Prop where
 at_:H a=some (ik P w a ao)
 ks:∀ p∈ao,au H p.2 (p.1.map kV)
theorem uq.same (h:uq P w H a ao) (s:aa H H'):uq P w H' a ao:=⟨s _ _ h.at_,fun p hp=>(h.ks p hp).same s⟩
theorem uq.MB (e:jd (bx P w) h a ao):cz P w H h a (ik P w a ao):=⟨e,(let ⟨o,_,_,_,ho,_⟩:=e;⟨o,ho⟩),fun h1 h2 x k=>kM x k⟩
theorem uq.real (h:uq X.prog X.w H a ao) (I:Inv X pins σ H s):jd (bx X.prog X.w) s.heap a ao/\KeysIn (bx X.prog X.w) s.heap ao:=
 ⟨(show cz X.prog X.w H s.heap a (ik X.prog X.w a ao) from I.hok a _ h.at_).1,fun p hp=>fB I.hok (h.ks p hp)⟩
def MC (P:Program) (w:World) (ng:Bool):R2:=fun x y H Q=>∃ (b S:Addr) (ks:List Key) (ao:List (List Key×Addr)),x=.ref b/\y=.ref S/\au H b (ks.map kV)/\uq P w H S ao/\∀ r:Bool,(r=true↔ks∈ao.map (·.1))->Q (.bl (ng^^r)) H
theorem Wn (hu:X.A.units+10 < cLine):cu X (compareOp .NotIn) (MC X.prog X.w true):=by
 intro pins s σ H x y v u Q I rx ry h
 obtain ⟨b,S,ks,ao,rfl,rfl,hb,hS,q⟩:=h
 cases rx;cases ry
 obtain ⟨h1,h2⟩:=hS.real I
 show wpAny _ _ (do return Value.bool (!(<- contains (.ref S) (.ref b)))) _ _ s
 refine QT (qS hu h1 h2 (fB I.hok hb) fun r tk hr=>QU ?_)
 exact ⟨.bl _,H,I.tok tk,rfl,by have:=q r hr;rw [Bool.true_xor] at this;exact this⟩
def MD (P:Program) (w:World) (to te:TE):TE:=fun σ H Q=>to σ H fun x H1=>∃ S,x=.ref S/\(∃ ao,uq P w H1 S ao)/\te σ H1 fun y H2=>∃ (b:Addr) (ks:List Key) (ao:List (List Key×Addr)),y=.ref b/\au H2 b (ks.map kV)/\uq P w H2 S ao/\ao.length < 1000/\
 (ks∈ao.map (·.1)->Q .ai H2)/\(ks ∉ ao.map (·.1)->Q .ai (upd H2 S (ik P w S (ao++[(ks,b)]))))
theorem Wo {o:Expr} (hu:X.A.units+10 < cLine) (ho:SE X o to) (ha:SE X e te)
  (qx:attributeBase o "add" X.env (eval o X.env)=eval o X.env:=by rfl)
  (zy:((backTo cpos (starEach [e] X.env)).all (fun x=> !x.1)&&(backToKw cpos (keywordEach [] X.env)).all (fun x=>x.1.isSome)
   &&decide ([e].length+([]:List Keyword).length+(if ([]:List Keyword).isEmpty then 0 else 1) < 30))=true:=by rfl)
  (qz:(apos.endLine==cpos.line)=true:=by rfl) (hs:starEach [e] X.env=(false,eval e X.env)::starEach [] X.env:=by rfl):
  SE X (.Call (.Attribute o "add" apos) [e] [] cpos) (MD X.prog X.w to te):=by
 constructor
 intro pins s σ H Q I h
 refine wpAny_Call_method_late qx zy qz rfl (av (ho.h pins s σ H _ I h) ?_)
 rintro v s1 ⟨x,H1,I1,r1,S,ex,⟨aaN,IC⟩,q1⟩
 subst ex
 cases r1
 have hr0:=(IC.real I1).1
 refine ⟨"set","set.add",PySem.F.plainAttrs_set,PySem.F.slot_set_add,PySem.F.type_set_add,hr0.typeIs,hr0.noDict,?_⟩
 rw [hs]
 refine Calls.callWith_builtin rfl (Calls.evalArgs_plain ?_)
 show wpAny _ _ (spliced ((false,eval e X.env)::backTo cpos (starEach [] X.env))) _ _ s1
 refine Calls.spliced_cons (av (ha.h pins s1 σ H1 _ I1 q1) fun u s2 ⟨y,H2,I2,r2,b,ks,ao,ey,hb,hS,hl,qy,qn⟩=>Calls.spliced_nil ?_)
 subst ey
 cases r2
 obtain ⟨h1,h2⟩:=hS.real I2
 refine tD hu h1 h2 (fB I2.hok hb) hl (fun hy tk=>⟨.ai,H2,I2.tok tk,rfl,qy hy⟩) fun hn h' tk sb st=>⟨.ai,_,I2.write (by rw [hS.at_];trivial) (.inl rfl) (fun b u n e=>by rw [sb.2 b n];exact e) (let ⟨o,_,_,_,ho,_⟩:=st;⟨o,ho⟩) (uq.MB st),rfl,qn hn⟩
def ME (P:Program) (w:World) (K:Q0):List V->Hp->VK->Prop:=fun xs H Q=>∃ (l:Addr) (bs:List Addr) (eu:List (List Key)),xs=[.ref l]/\aj K H l (bs.map V.ref)/\bs.length=eu.length/\bs.length < 1000/\(∀ i (h:i < bs.length) (h':i < eu.length),au H bs[i] (eu[i].map kV))/\
 ∀ (S:Addr) (ao:List (List Key×Addr)),H S=none->(∀ k,k∈ao.map (·.1)↔k∈eu)->(∀ p∈ao,p∈eu.zip bs)->ao.length<=bs.length->Q (.ref S) (upd H S (ik P w S ao))
theorem wU (K:Q0) (hc:X.calm=true) (hu:X.A.units+10 < cLine) (hK:X.K=K:=by rfl):jp X (.type "set") (ME X.prog X.w K):=by
 subst hK
 intro pins s σ H xs us Q I r h
 obtain ⟨l,bs,eu,rfl,hq,fc,hl,hk,q⟩:=h
 obtain ⟨u,rfl,ru⟩:=r.one
 cases ru
 obtain ⟨its,rv,pl,hz⟩:=I.list hq
 have EA:=rv.length
 rw [Ql] at EA
 have get:∀ (i:Nat) (v:Value),its.toArray[i]? =some v->v=.ref (bs.getD i 0):=fun i v hP=>by
  have sy:its[i]? =some v:=by simpa using hP
  have hi:i < its.length:=(List.getElem?_eq_some_iff.mp sy).1
  obtain ⟨u,h1,h2⟩:=rv.get (i:=i) (x:=.ref (bs.getD i 0)) (by rw [Qq,Qa (by omega),Qb,Qa (by omega)];rfl)
  rw [sy] at h1
  cases h1
  cases h2
  rfl
 refine lG (ks:=fun i=>eu.getD i []) (bs:=fun i=>bs.getD i 0) hu (I.ok.hd hc) pl.isList get (by simp;omega) (fun i hi=>?_) fun h' tk st kp=>?_
 ·have cj:i < bs.length:=by simp at hi;omega
  have:=hk i cj (by omega)
  have e1:bs.getD i 0=bs[i]:=by simp [Qb,cj]
  have e2:eu.getD i []=eu[i]'(by omega):=by rw [Qb,Qa (by omega)];rfl
  show IsTupleKey _ _ (eu.getD i []) (bs.getD i 0)
  rw [e1,e2]
  exact fB I.hok this
 ·have hsz:its.toArray.size=bs.length:=by simp;omega
  rw [hsz] at st
  have hf:H s.heap.objs.size=none:=I.hok.fresh (Qy _)
  refine ⟨.ref s.heap.objs.size,_,I.laid (fun b u e=>kp b u (Qz e) e) (Qy _) (uq.MB st),rfl,q _ _ hf (fun k=>?_) (fun p hp=>?_) (pS _ _ _)⟩
  ·rw [nQ]
   constructor
   ·rintro ⟨j,hj,rfl⟩
    rw [Qb,Qa (by omega)]
    exact Qj _
   ·intro hm
    obtain ⟨j,hj,rfl⟩:=Qi hm
    exact ⟨j,by omega,by rw [Qb,Qa hj];rfl⟩
  ·obtain ⟨j,hj,rfl⟩:=jN _ _ _ _ hp
   have oh:j < (eu.zip bs).length:=by simp;omega
   have:(eu.zip bs)[j]=(eu.getD j [],bs.getD j 0):=by
    rw [List.getElem_zip,Qb,Qa (by omega),Qb,Qa (by omega)];rfl
   rw [<- this];exact Qj oh
theorem xJ {P':Program} {w':World} (h:ItemsAre (bx P w) ks vs):ItemsAre (bx P' w') ks vs:=by
 induction h with
 | nil=>exact .nil
 | cons h _ ih=>exact .cons h ih
theorem nV {P':Program} {w':World} (x:IsTupleKey (bx P w) h ks a):IsTupleKey (bx P' w') h ks a:=let ⟨o,it,n,h1,h2,h3,h4⟩:=x;⟨o,it,n,h1,h2,h3,xJ h4⟩
theorem Wp (I:Inv X pins σ H s) {xs ys:List Key} (h1:au H a (xs.map kV)) (h2:au H b (ys.map kV)) (hu:A.units < cLine):SeqAt.EqAt A s (.ref a) (.ref b) (decide (xs=ys)):=
 fun prog w E Q q=>wpAny_eqBool_tuple (knd:=bx prog w) hu (nV (fB I.hok h1)) (nV (fB I.hok h2)) q
theorem rM:∀ {xs ys:List Key},xs.map kV=ys.map kV->xs=ys
 | [],[],_=>rfl
 | [],_::_,e=>by cases e
 | _::_,[],e=>by cases e
 | x::xs,y::ys,e=>by
  have e':=List.cons.inj (show kV x::xs.map kV=kV y::ys.map kV from e)
  rw [Tj e'.1,rM e'.2]
def jm (H:Hp) (xs:List V) (eu:List (List Key)):Prop:=xs.length=eu.length/\∀ i (h:i < xs.length) (h':i < eu.length),∃ b,xs[i]=.ref b/\au H b (eu[i].map kV)
theorem jm.same {H':Hp} {xs:List V} {eu:List (List Key)} (h:jm H xs eu) (t:aa H H'):jm H' xs eu:=⟨h.1,fun i a b=>let ⟨c,e1,e2⟩:=h.2 i a b;⟨c,e1,e2.same t⟩⟩
theorem jm.nil:jm H [] []:=⟨rfl,fun i h=>absurd h (by simp)⟩
theorem jm.snoc {xs:List V} {k:List Key} (h:jm H xs eu) (e:au H b (k.map kV)):jm H (xs++[.ref b]) (eu++[k]):=by
 obtain ⟨hl,hh⟩:=h
 refine ⟨by simp [hl],fun i a c=>?_⟩
 by_cases hi:i < xs.length
 ·rw [Qe hi,Qe (by omega)];exact hh i hi (by omega)
 ·obtain rfl:i=xs.length:=by simp at a;omega
  rw [Qf (by omega),Qf (by omega)]
  exact ⟨b,by simp,by simpa [hl] using e⟩
def MF (K:Q0) (ng:Bool):R2:=fun x y H Q=>∃ (b p:Addr) (ks:List Key) (xs:List V) (eu:List (List Key)),x=.ref b/\y=.ref p/\au H b (ks.map kV)/\(aj K H p xs\/af K H p xs)/\jm H xs eu/\∀ r:Bool,(r=true↔ks∈eu)->Q (.bl (ng^^r)) H
open Classical in
theorem lK (I:Inv X pins σ H s) {xs:List V} {its:List Value} (hb:au H b (ks.map kV)) (hk:jm H xs eu) (rv:bg xs its) (hu:X.A.units+10 < cLine):
  ∃ e:Value->Bool,(∀ y,y∈its.toArray->SeqAt.EqAt X.A.in1 s y (.ref b) (e y))/\(its.toArray.any e=true↔ks∈eu):=by
 have hl:=rv.length
 have sr:=hk.1
 have key:∀ i (h:i < its.length) (h':i < eu.length),∃ c,its[i]=.ref c/\au H c (eu[i].map kV):=fun i h h'=>by
  obtain ⟨c,e1,e2⟩:=hk.2 i (by omega) h'
  obtain ⟨w1,f1,q1⟩:=rv.get (Qa (show i < xs.length by omega))
  rw [e1] at q1
  cases q1
  rw [Qa h] at f1
  exact ⟨c,by simpa using f1,e2⟩
 let ev:Value->Bool:=fun y=>decide (∃ c zs,y=.ref c/\au H c (zs.map kV)/\zs=ks)
 have ur:∀ {c:Addr} {zs:List Key},au H c (zs.map kV)->(ev (.ref c)=true↔zs=ks):=fun {c zs} hc=>by
  constructor
  ·intro h
   obtain ⟨c',zs',e1,e2,e3⟩:=Qt h
   cases e1
   rw [<- e3]
   exact rM (hc.inj e2)
  ·intro e
   exact Qv ⟨c,zs,rfl,hc,e⟩
 refine ⟨ev,fun y hy=>?_,?_⟩
 ·have HU:y∈its:=by simpa using hy
  obtain ⟨i,hi,rfl⟩:=Qi HU
  obtain ⟨c,e1,e2⟩:=key i hi (by omega)
  rw [e1]
  have:=Wp I e2 hb (A:=X.A.in1) (by simp [Around.in1_units];omega)
  have eb:∀ {b:Bool},(b=true↔eu[i]'(by omega)=ks)->ev (.ref c)=b:=fun {b} hb'=>by
   rw [Bool.eq_iff_iff,ur e2];exact hb'.symm
  rw [eb decide_eq_true_iff]
  exact this
 ·rw [Array.any_eq_true]
  constructor
  ·rintro ⟨i,hi,h⟩
   have cj:i < its.length:=by simpa using hi
   obtain ⟨c,e1,e2⟩:=key i cj (by omega)
   have:ev (.ref c)=true:=by rw [<- e1];simpa using h
   rw [<- (ur e2).mp this]
   exact Qj _
  ·intro hm
   obtain ⟨i,hi,e⟩:=Qi hm
   have cj:i < its.length:=by omega
   obtain ⟨c,e1,e2⟩:=key i cj hi
   refine ⟨i,by simpa using cj,?_⟩
   have:its.toArray[i]'(by simpa using cj)=.ref c:=by simpa using e1
   rw [this]
   exact (ur e2).mpr e
theorem Wq (K:Q0) (hu:X.A.units+10 < cLine) (hK:X.K=K:=by rfl):cu X (compareOp .In) (MF K false):=by
 subst hK
 intro pins s σ H x y v u Q I rx ry h
 obtain ⟨b,p,ks,xs,eu,rfl,rfl,hb,hq,hk,q⟩:=h
 cases rx;cases ry
 rcases hq with hq | hq
 ·obtain ⟨its,r,pl,hz⟩:=I.list hq
  obtain ⟨e,h1,h2⟩:=lK I hb hk r hu
  exact SeqAt.in_listAt e pl.isList (fun w hw=>h1 w hw) ⟨.bl _,H,I,rfl,by have:=q _ h2;rw [QE] at this;exact this⟩
 ·obtain ⟨its,r,pl,hz⟩:=I.tuple hq
  obtain ⟨e,h1,h2⟩:=lK I hb hk r hu
  exact SeqAt.in_tupleAt e pl (fun w hw=>h1 w hw) ⟨.bl _,H,I,rfl,by have:=q _ h2;rw [QE] at this;exact this⟩
theorem t9 (K:Q0) (hu:X.A.units+10 < cLine) (hK:X.K=K:=by rfl):cu X (compareOp .NotIn) (MF K true):=by
 subst hK
 intro pins s σ H x y v u Q I rx ry h
 obtain ⟨b,p,ks,xs,eu,rfl,rfl,hb,hq,hk,q⟩:=h
 cases rx;cases ry
 rcases hq with hq | hq
 ·obtain ⟨its,r,pl,hz⟩:=I.list hq
  obtain ⟨e,h1,h2⟩:=lK I hb hk r hu
  exact SeqAt.notIn_listAt e pl.isList (fun w hw=>h1 w hw) ⟨.bl _,H,I,rfl,by have:=q _ h2;rw [Bool.true_xor] at this;exact this⟩
 ·obtain ⟨its,r,pl,hz⟩:=I.tuple hq
  obtain ⟨e,h1,h2⟩:=lK I hb hk r hu
  exact SeqAt.notIn_tupleAt e pl (fun w hw=>h1 w hw) ⟨.bl _,H,I,rfl,by have:=q _ h2;rw [Bool.true_xor] at this;exact this⟩
theorem Wr {J:It} {ok:Hp->Prop} {item:Nat->V} {tk tw:TE} {τ0:St} {D:Addr} {Q:Hp->Prop} (hJ:BK J ok n item) (Pv:Nat->St->Hp->Prop) (h0:Pv 0 τ0 H0)
  (hok:∀ i τ H,i<=n->Pv i τ H->ok H)
  (hs:∀ i τ H,i < n->Pv i τ H->g (item i) τ H fun τ2 H2=>tc τ2 H2 fun b H3=>if b=true then tk τ2 H3 fun x H4=>tw τ2 H4 fun y H5=>∃ kvs key,x=kV key/\H5 D=some (.dK kvs)/\kvs.length < sizeLine/\Pv (i+1) τ2 (upd H5 D (.dK (putK kvs key y))) else Pv (i+1) τ2 H3)
  (hd:∀ τ H,Pv n τ H->Q H):∃ W:Nat->Nat->St->Hp->Prop,(∃ m,W 0 m τ0 H0)/\∀ i m τ H,W i m τ H->
   (J.stop i H/\Q H)\/(J.go i H/\∃ N:St->Hp->Prop,(∀ τ' H',N τ' H'->∃ m',m' < m/\W (i+1) m' τ' H')/\∀ x H',J.qi i H x H'->g x τ H' fun τ2 H2=>tc τ2 H2 fun b H3=>
    if b=true then tk τ2 H3 fun x H4=>tw τ2 H4 fun y H5=>∃ kvs key,x=kV key/\H5 D=some (.dK kvs)/\kvs.length < sizeLine/\N τ2 (upd H5 D (.dK (putK kvs key y))) else N τ2 H3):=by
 refine ⟨fun i m τ H=>m=n - i/\i<=n/\Pv i τ H,⟨n,by simp,Nat.zero_le _,h0⟩,?_⟩
 rintro i m τ H ⟨rfl,hi,p⟩
 obtain ⟨k1,k2⟩:=hJ H (hok i τ H hi p)
 by_cases ay:i < n
 ·refine .inr ⟨(k1 i ay).1,Pv (i+1),fun σ' H' p'=>⟨n - (i+1),by omega,rfl,ay,p'⟩,fun x H' y=>?_⟩
  obtain ⟨e,e2⟩:=(k1 i ay).2 x H' y
  subst e e2
  exact hs i τ _ ay p
 ·have e:i=n:=by omega
  subst e
  exact .inl ⟨k2,hd τ H p⟩
theorem vI {K:Q0} {J:It} {ok:Hp->Prop} {f1 f2:Nat->V} {a b:Nat} {tk tw:TE} {τ0:St} {D:Addr} {Q:Hp->Prop} (hJ:FU J ok n f1 f2) (Pv:Nat->St->Hp->Prop) (h0:Pv 0 τ0 H0)
  (hok:∀ i τ H,i<=n->Pv i τ H->ok H)
  (hs:∀ i τ H T,i < n->Pv i τ H->H T=none->tc ((τ.set a (some (f1 i))).set b (some (f2 i))) (upd H T (.tup [f1 i,f2 i])) fun c H3=>if c=true then tk ((τ.set a (some (f1 i))).set b (some (f2 i))) H3 fun x H4=>tw ((τ.set a (some (f1 i))).set b (some (f2 i))) H4 fun y H5=>
   ∃ kvs key,x=kV key/\H5 D=some (.dK kvs)/\kvs.length < sizeLine/\Pv (i+1) ((τ.set a (some (f1 i))).set b (some (f2 i))) (upd H5 D (.dK (putK kvs key y))) else Pv (i+1) ((τ.set a (some (f1 i))).set b (some (f2 i))) H3)
  (hd:∀ τ H,Pv n τ H->Q H):∃ W:Nat->Nat->St->Hp->Prop,(∃ m,W 0 m τ0 H0)/\∀ i m τ H,W i m τ H->
   (J.stop i H/\Q H)\/(J.go i H/\∃ N:St->Hp->Prop,(∀ τ' H',N τ' H'->∃ m',m' < m/\W (i+1) m' τ' H')/\∀ x H',J.qi i H x H'->g2 K a b x τ H' fun τ2 H2=>tc τ2 H2 fun b H3=>
    if b=true then tk τ2 H3 fun x H4=>tw τ2 H4 fun y H5=>∃ kvs key,x=kV key/\H5 D=some (.dK kvs)/\kvs.length < sizeLine/\N τ2 (upd H5 D (.dK (putK kvs key y))) else N τ2 H3):=by
 refine ⟨fun i m σ H=>m=n - i/\i<=n/\Pv i σ H,⟨n,by simp,Nat.zero_le _,h0⟩,?_⟩
 rintro i m σ H ⟨rfl,hi,p⟩
 obtain ⟨k1,k2⟩:=hJ H (hok i σ H hi p)
 by_cases ay:i < n
 ·refine .inr ⟨(k1 i ay).1,Pv (i+1),fun σ' H' p'=>⟨n - (i+1),by omega,rfl,ay,p'⟩,fun x H' y=>?_⟩
  obtain ⟨T,rfl,hT,rfl⟩:=(k1 i ay).2 x H' y
  exact cC aA (hs i σ _ T ay p hT)
 ·have e:i=n:=by omega
  subst e
  exact .inl ⟨k2,hd σ H p⟩
theorem zI {K:Q0} {J:It} {ok:Hp->Prop} {f1 f2:Nat->V} {a b:Nat} {tk tw:TE} {τ0:St} {D:Addr} {Q:Hp->Prop} (hJ:FU J ok n f1 f2) (Pv:Nat->St->Hp->Prop) (h0:Pv 0 τ0 H0)
  (hok:∀ i τ H,i<=n->Pv i τ H->ok H)
  (hs:∀ i τ H T,i < n->Pv i τ H->H T=none->tc ((τ.set a (some (f1 i))).set b (some (f2 i))) (upd H T (.tup [f1 i,f2 i])) fun c H3=>if c=true then tk ((τ.set a (some (f1 i))).set b (some (f2 i))) H3 fun x H4=>tw ((τ.set a (some (f1 i))).set b (some (f2 i))) H4 fun y H5=>
   ∃ kvs key b',x=.ref b'/\au H5 b' (key.map kV)/\H5 D=some (.dT kvs)/\kvs.length < sizeLine/\Pv (i+1) ((τ.set a (some (f1 i))).set b (some (f2 i))) (upd H5 D (.dT (putK kvs key y))) else Pv (i+1) ((τ.set a (some (f1 i))).set b (some (f2 i))) H3)
  (hd:∀ τ H,Pv n τ H->Q H):∃ W:Nat->Nat->St->Hp->Prop,(∃ m,W 0 m τ0 H0)/\∀ i m τ H,W i m τ H->
   (J.stop i H/\Q H)\/(J.go i H/\∃ N:St->Hp->Prop,(∀ τ' H',N τ' H'->∃ m',m' < m/\W (i+1) m' τ' H')/\∀ x H',J.qi i H x H'->g2 K a b x τ H' fun τ2 H2=>tc τ2 H2 fun b H3=>
    if b=true then tk τ2 H3 fun x H4=>tw τ2 H4 fun y H5=>∃ kvs key b,x=.ref b/\au H5 b (key.map kV)/\H5 D=some (.dT kvs)/\kvs.length < sizeLine/\N τ2 (upd H5 D (.dT (putK kvs key y))) else N τ2 H3):=by
 refine ⟨fun i m σ H=>m=n - i/\i<=n/\Pv i σ H,⟨n,by simp,Nat.zero_le _,h0⟩,?_⟩
 rintro i m σ H ⟨rfl,hi,p⟩
 obtain ⟨k1,k2⟩:=hJ H (hok i σ H hi p)
 by_cases ay:i < n
 ·refine .inr ⟨(k1 i ay).1,Pv (i+1),fun σ' H' p'=>⟨n - (i+1),by omega,rfl,ay,p'⟩,fun x H' y=>?_⟩
  obtain ⟨T,rfl,hT,rfl⟩:=(k1 i ay).2 x H' y
  exact cC aA (hs i σ _ T ay p hT)
 ·have e:i=n:=by omega
  subst e
  exact .inl ⟨k2,hd σ H p⟩
theorem Ws {κ:Type} [DecidableEq κ] {kvs:List (κ×V)} (nd:(kvs.map (·.1)).Nodup) (h:i < kvs.length):putK (kvs.take i) kvs[i].1 kvs[i].2=kvs.take (i+1):=by
 rw [L2.dE _ (by
  cases e:cg (kvs.take i) kvs[i].1 with
  | none=>rfl
  | some v=>
   have:=pO e
   obtain ⟨p,hp,q⟩:=List.mem_map.mp this
   obtain ⟨j,hj,rfl⟩:=Qi hp
   have oh:j < i:=by simp at hj;omega
   rw [List.getElem_take] at q
   have:=List.pairwise_iff_getElem.mp nd j i (by simp;omega) (by simpa using h) oh
   simp only [Qr] at this
   exact absurd q this),Qs,Qa h]
 rfl
theorem vW {κ:Type} [DecidableEq κ] {kvs:List (κ×V)} (nd:(kvs.map (·.1)).Nodup) {k:κ} {v:V} (h:(k,v)∈kvs):cg kvs k=some v:=by
 induction kvs with
 | nil=>cases h
 | cons p r ih=>
  rw [List.map_cons,List.nodup_cons] at nd
  rcases Qp.mp h with e | h
  ·rw [<- e,cA rfl]
  ·have ne:¬p.1=k:=fun e=>nd.1 (List.mem_map.mpr ⟨_,h,e.symm⟩)
   rw [cB ne];exact ih nd.2 h
theorem au.put {D:Addr} {ys:List V} {u:HO} (r:au H b ys) (hD:H D=some o) (n1:∀ xs,o≠.tup xs) (n2:∀ q xs,o≠.az q (.tup xs)):au (L2.upd H D u) b ys:=r.upd fun v hv z=>by
 subst z
 rcases r with r | ⟨q,r⟩
 ·rw [hD] at r;cases r;exact n1 _ rfl
 ·rw [hD] at r;cases r;exact n2 _ _ rfl
def i_ (rows:List aq):List (Key×V):=rows.map fun r=>(.inr r.1,.str (endOf rows r.1))
def xw:Hd->List Str
 | .as y=>[y]
 | .way x y=>[x,y]
 | .prs _ ps=>ps.map (·.2)
 | _=>[]
def ko (rows:List aq) (h:Hd):List (List Key×V):=h.ck.map fun m=>(m.1.map (Sum.inr:Str->Key),.str (endOf rows m.2))
theorem mW {xs ys:List Str} (h:xs.map (Sum.inr:Str->Key)=ys.map Sum.inr):xs=ys:=by
 induction xs generalizing ys with
 | nil=>cases ys with
  | nil=>rfl
  | cons y ys=>simp at h
 | cons x xs ih=>cases ys with
  | nil=>simp at h
  | cons y ys=>
   simp only [List.map_cons,List.cons.injEq,Sum.inr.injEq] at h
   rw [h.1,ih h.2]
theorem pX {rows:List aq} {h:Hd} (nd:(h.ck.map (·.1)).Nodup):((ko rows h).map (·.1)).Nodup:=by
 have e:(ko rows h).map (·.1)=(h.ck.map (·.1)).map fun m=>m.map (Sum.inr:Str->Key):=by simp [ko,Qn,QB]
 rw [e]
 exact List.pairwise_map.mpr (nd.imp fun h e=>h (mW e))
theorem Wt {h:Hd} (i:Nat) (hi:i < h.ck.length):(xw h)[i]? =some h.ck[i].2:=by
 cases h with
 | one s=>cases hi
 | as y=>cases hi
 | way x y=>
  match i,hi with
  | 0,_=>rfl
  | 1,_=>rfl
 | prs s ps=>
  have cj:i < ps.length:=by simpa [Hd.ck] using hi
  simp [xw,Hd.ck,Qa cj]
theorem Wu {h:Hd}:h.ck.length<=(xw h).length:=by
 cases h<;>simp [xw,Hd.ck]
theorem iP {h:Hd} (ok:h.ok ns):h.ck.length<=10:=by
 cases h with
 | one s=>simp [Hd.ck]
 | as y=>simp [Hd.ck]
 | way x y=>simp [Hd.ck]
 | prs s ps=>simpa [Hd.ck] using ok.2.2.2
theorem eP:∀ {ws:List Str},rising ws=true->ws.Pairwise (fun a b=>kj a b=true)
 | [],_=>.nil
 | [_],_=>List.pairwise_singleton _ _
 | a::b::r,h=>by
  have h':kj a b=true/\rising (b::r)=true:=by simpa [rising] using h
  have ih:=eP h'.2
  refine List.pairwise_cons.mpr ⟨fun c hc=>?_,ih⟩
  rcases Qp.mp hc with rfl | hc
  ·exact h'.1
  ·exact kT h'.1 ((List.pairwise_cons.mp ih).1 c hc)
theorem oS (h:rising ws=true):ws.Nodup:=(eP h).imp fun {x y} h e=>by rw [e,eI] at h;cases h
theorem MG {h:Hd} (ok:h.ok ns):(h.ck.map (·.1)).Nodup:=by
 cases h with
 | one s=>exact List.nodup_nil
 | as y=>exact List.nodup_nil
 | way x y=>exact (by decide+kernel:(([["from"],["to"]]:List (List Str))).Nodup)
 | prs s ps=>
  have hr:=oS ok.2.2.1
  have e:(Hd.prs s ps).ck.map (·.1)=(ps.map (·.1)).map fun w=>([if s="box" then "part" else "case",w]:List Str):=by simp [Hd.ck,Qn,QB]
  rw [e]
  exact List.pairwise_map.mpr (hr.imp fun h e=>h (by simpa using e))
theorem oM {rows:List aq} (nd:(rows.map (·.1)).Nodup) (hx:x∈rows.map (·.1)):cg (i_ rows) (.inr x)=some (.str (endOf rows x)):=by
 obtain ⟨r,hr,rfl⟩:=List.mem_map.mp hx
 refine vW ?_ (List.mem_map.mpr ⟨r,hr,rfl⟩)
 have e:(i_ rows).map (·.1)=(rows.map (·.1)).map (Sum.inr:Str->Key):=by simp [i_,Qn,QB]
 rw [e]
 exact List.pairwise_map.mpr (nd.imp fun h e=>h (Sum.inr.inj e))
theorem EB (m:List Str):(m.map (Sum.inr:Str->Key)).map kV=m.map V.str:=by simp [Qn,QB,kV]
def br (rows:List aq):List aq:=rows.filter fun r=>r.2.nx.isNone
structure DV (R:Hp->V->aq->Prop) (H:Hp) (kvs:List (Key×V)) (rs:List aq):Prop where
 len:kvs.length=rs.length
 at_:∀ i (h:i < kvs.length) (h':i < rs.length),kvs[i].1=.inr rs[i].1/\R H kvs[i].2 rs[i]
theorem DV.keep {R:Hp->V->aq->Prop} {kvs:List (Key×V)} (h:DV R H kvs rs) (s:∀ v r,R H v r->R H' v r):DV R H' kvs rs:=⟨h.len,fun i a b=>⟨(h.at_ i a b).1,s _ _ (h.at_ i a b).2⟩⟩
theorem DV.nil {R:Hp->V->aq->Prop}:DV R H [] []:=⟨rfl,fun i h=>absurd h (by simp)⟩
theorem DV.snoc {R:Hp->V->aq->Prop} {kvs:List (Key×V)} (h:DV R H kvs rs) {v:V} {r:aq} (e:R H v r):DV R H (kvs++[((Sum.inr r.1:Key),v)]) (rs++[r]):=by
 have hl:=h.len
 refine ⟨by simp [hl],fun i h1 h2=>?_⟩
 by_cases ay:i < kvs.length
 ·rw [Qe ay,Qe (by omega)]
  exact h.at_ i ay (by omega)
 ·have e':i=kvs.length:=by simp at h1;omega
  subst e'
  rw [Qf (Qy _),Qf (by omega)]
  simp only [Nat.sub_self,hl,List.getElem_cons_zero,true_and]
  exact e
theorem DV.keys {R:Hp->V->aq->Prop} {kvs:List (Key×V)} (h:DV R H kvs rs):kvs.map (·.1)=rs.map fun r=>(.inr r.1:Key):=by
 have hl:=h.len
 refine List.ext_getElem (by simpa using hl) fun i h1 h2=>?_
 simp only [Qr]
 exact (h.at_ i (by simpa using h1) (by simpa using h2)).1
theorem DV.put {R:Hp->V->aq->Prop} {kvs:List (Key×V)} (h:DV R H kvs rs) {r:aq} {v:V} (n:r.1 ∉ rs.map (·.1)):putK kvs (.inr r.1) v=kvs++[(.inr r.1,v)]:=by
 refine L2.dE _ ?_
 cases e:cg kvs (.inr r.1) with
 | none=>rfl
 | some u=>
  have:=pO e
  rw [h.keys] at this
  obtain ⟨r',ia,e'⟩:=List.mem_map.mp this
  exact absurd (List.mem_map.mpr ⟨r',ia,Sum.inr.inj e'⟩) n
theorem DV.get {R:Hp->V->aq->Prop} {kvs:List (Key×V)} (h:DV R H kvs rs) (nd:(rs.map (·.1)).Nodup) {r:aq} (hr:r∈rs):∃ v,cg kvs (.inr r.1)=some v/\R H v r:=by
 obtain ⟨i,hi,rfl⟩:=Qi hr
 have hl:=h.len
 obtain ⟨h1,h2⟩:=h.at_ i (by omega) hi
 refine ⟨kvs[i].2,vW ?_ (k:=(Sum.inr rs[i].1:Key)) (v:=kvs[i].2) ?_,h2⟩
 ·rw [h.keys]
  exact List.pairwise_map.mpr ((List.pairwise_map.mp nd).imp fun h e=>h (Sum.inr.inj e))
 ·rw [<- h1];exact Qj (by omega)
def Hd.be:Hd->Str
 | .one s=>s
 | .as _=>"as"
 | .way _ _=>"way"
 | .prs s _=>s
theorem HV.be {H:Hp} {v:V} {h:Hd} (q:HV H v h):∃ b ys,v=.ref b/\H b=some (.tup (.str h.be::ys)):=by
 cases q with
 | one e=>exact ⟨_,_,rfl,e⟩
 | as e=>exact ⟨_,_,rfl,e⟩
 | way e=>exact ⟨_,_,rfl,e⟩
 | prs e _ _=>exact ⟨_,_,rfl,e⟩
theorem tK {h:Hd} (ok:h.ok ns):(h.be="as")=(h.nx.isNone=false):=by
 cases h with
 | one s=>rcases ok with rfl | rfl<;>simp [Hd.be,Hd.nx]<;>decide+kernel
 | as y=>simp [Hd.be,Hd.nx]
 | way x y=>simp [Hd.be,Hd.nx];decide+kernel
 | prs s ps=>rcases ok.1 with rfl | rfl<;>simp [Hd.be,Hd.nx]<;>decide+kernel
def RH:Hp->V->aq->Prop:=fun H v r=>HV H v r.2
def RM:Hp->V->aq->Prop:=fun H v r=>∃ b c us,v=.ref b/\H b=some (.tup [.str r.2.be,.ref c])/\H c=some (.tup us)/\SV H us (r.2.ck.map (·.1))
def RO (rows:List aq):Hp->V->aq->Prop:=fun H v r=>∃ m o,v=.ref m/\H m=some (.az o (.dT (ko rows r.2)))
structure Wv (H:Hp) (rows:List aq) (fs:List (Str×V)):Prop where
 rws:∃ d o,fs.lookup ("rows":Str)=some (V.ref d)/\H d=some (.az o (.dK (i_ rows)))
 k_:∃ d o k,fs.lookup ("heads":Str)=some (V.ref d)/\H d=some (.az o (.dK k))/\DV RH H k (br rows)
 mks:∃ d o k,fs.lookup ("marks":Str)=some (V.ref d)/\H d=some (.az o (.dK k))/\DV RM H k (br rows)
 ck:∃ d o k,fs.lookup ("moves":Str)=some (V.ref d)/\H d=some (.az o (.dK k))/\DV (RO rows) H k (br rows)
def ID (H:Hp) (C x:Addr) (rows:List aq):Prop:=∃ dx fs,H x=some (.ins C dx fs)/\Wv H rows fs
def Sx (x:Addr) (H H':Hp):Prop:=∀ b o,b≠x->H b=some o->H' b=some o
theorem Sx.trans {x:Addr} {H1 H2:Hp} (a:Sx x H H1) (b:Sx x H1 H2):Sx x H H2:=fun c o n h=>b c o n (a c o n h)
theorem aa.sx {x:Addr} {H1:Hp} (a:aa H H1):Sx x H H1:=fun c o _ h=>a c o h
theorem Sx.upd {x:Addr} {H:Hp} {o:HO}:Sx x H (upd H x o):=fun c u n h=>by rw [aF n];exact h
theorem Sx.free {x D:Addr} (s:Sx x H H') (h:H' D=none) (n:D≠x):H D=none:=by
 cases e:H D with
 | none=>rfl
 | some o=>rw [s D o n e] at h;cases h
theorem Sx.tk {x:Addr} (s:Sx x H H') (n:∀ ys,H x≠some (.tup ys)):Tk H H':=fun b ys e=>s b _ (fun z=>n ys (by rw [<- z];exact e)) e
theorem Sx.az {x b:Addr} {H H':Hp} {q:Obj} {u:HO} (s:Sx x H H') (n:∀ q u,H x≠some (.az q u)) (e:H b=some (.az q u)):H' b=some (.az q u):=s b _ (fun z=>n q u (by rw [<- z];exact e)) e
theorem HV.same {v:V} {h:Hd} (q:HV H v h) (s:aa H H'):HV H' v h:=q.tk s.ts
theorem mD {K:Q0} {ta tv:TE} {f:Str} {v:TS} (h:tv σ H fun y H1=>ta σ H1 fun x H2=>∃ a C dx fs,x=.ref a/\H2 a=some (.ins C dx fs)/\yj K C/\yk K C f/\fs.length < 1000/\v D σ (upd H2 a (.ins C dx (dg f y fs)))):zj (Fy K ta tv f) v D σ H:=h
def jt (rows:List aq) (e:Str) (s:List Str):Option Str:=((gn rows e).find? fun m=>decide (m.1=s)).map (·.2)
def iy (rows:List aq) (ns:List Str) (e:Str):Prop:=e∈ns/\endOf rows e=e
def EC (rows:List aq) (e:Str):List (List Key×V):=(gn rows e).map fun m=>(m.1.map Sum.inr,.str m.2)
theorem vS (rows:List aq) (e:Str) (s:List Str):cg (EC rows e) (s.map Sum.inr)=(jt rows e s).map V.str:=by
 unfold cg EC jt
 induction gn rows e with
 | nil=>rfl
 | cons m ms ih=>
  simp only [List.map_cons,List.find?_cons]
  by_cases h:m.1=s
  ·rw [Qv h,Qv (congrArg _ h)];rfl
  ·rw [Qw h,Qw fun z=>h (mW z)];exact ih
section
variable {xs:List V} {rows:List aq}
theorem RT.stay (rt:RT H a xs rows ns ws) (hw:∀ z∈ws,Wd z) (hx:x∈ns):iy rows ns (endOf rows x):=by
 obtain ⟨h1,h2,_⟩:=rt.BR hw hx
 exact ⟨h1,dM _ h2⟩
theorem RT.ju (rt:RT H a xs rows ns ws) (hw:∀ z∈ws,Wd z) {e:Str} (h:iy rows ns e):(e,ak rows e)∈br rows/\(ak rows e).ok ns:=by
 obtain ⟨h1,h2,h3⟩:=rt.BR hw h.1
 rw [h.2] at h1 h2 h3
 have h4:e∈rows.map (·.1):=rt.nm.mem_iff.mpr h1
 obtain ⟨r,hr,rfl⟩:=List.mem_map.mp h4
 have e':=dB rt.kc hr
 refine ⟨List.mem_filter.mpr ⟨?_,?_⟩,h3⟩
 ·rw [e'];exact hr
 ·show (ak rows r.1).nx.isNone=true
  rw [h2];rfl
theorem RT.jt (rt:RT H a xs rows ns ws) (hw:∀ z∈ws,Wd z) {e e':Str} {s:List Str} (h:iy rows ns e) (m:L2.jt rows e s=some e'):iy rows ns e':=by
 unfold L2.jt at m
 obtain ⟨p,hp,rfl⟩:=Option.map_eq_some_iff.mp m
 have hm:=List.mem_of_find?_eq_some hp
 unfold gn at hm
 obtain ⟨q,hq,rfl⟩:=List.mem_map.mp hm
 rw [h.2] at hq
 exact rt.stay hw (tJ (rt.ju hw h).2 _ hq)
theorem RT.CW (rt:RT H a xs rows ns ws):((br rows).map (·.1)).Nodup:=rt.kc.sublist (List.filter_sublist.map _)
theorem RT.MH (rt:RT H a xs rows ns ws) (hw:∀ z∈ws,Wd z) (h:x∈ns):(gn rows x).length<=10:=by
 have:=iP (rt.BR hw h).2.2
 unfold gn
 simpa using this
end
def IE (K:Q0):R2:=fun x y H Q=>∃ a b xs ys,x=.ref a/\y=.ref b/\af K H a xs/\af K H b ys/\xs.length+ys.length<=sizeLine/\(xs=[]->Q (.ref b) H)/\
 (xs≠[]->ys=[]->Q (.ref a) H)/\(xs≠[]->ys≠[]->∀ p,H p=none->Q (.ref p) (upd H p (.tup (xs++ys))))
theorem jL (K:Q0) (h:X.K=K:=by rfl):cu X (binaryOp .Add) (IE K):=by
 subst h
 intro pins s σ H x y v u Q I rx ry h
 obtain ⟨a,b,xs,ys,rfl,rfl,ha,hb,hz,q0,q1,q2⟩:=h
 by_cases hx:xs=[]
 ·cases rx
  cases ry
  obtain ⟨its,r1,p1,_⟩:=I.tuple ha
  obtain ⟨its2,r2,p2,_⟩:=I.tuple hb
  have hi:its=[]:=r1.FA.mpr hx
  obtain ⟨⟨cls,dd,data,sl⟩,ho,hc,n,hd⟩:=id p1
  obtain ⟨⟨K9,AJ,data2,AK⟩,u_,jq,n2,hd2⟩:=id p2
  simp only at hc hd jq hd2
  subst hc hd jq hd2
  exact concat_meets ⟨_,ho,rfl⟩ ⟨_,u_,rfl⟩ noFill_tuple_add seq_tuple_add PySem.F.slot_tuple_add PySem.F.entry_tuple_add (PySem.F.args_tuple_add_2 _ _)
   (tuple_addW0 a b its.toArray its2.toArray n n2 dd AJ sl AK (by simp [hi])) ⟨ho,u_,⟨.ref b,H,I,rfl,q0 hx⟩⟩
 ·exact SM pins s σ H _ _ v u Q I rx ry ⟨a,b,xs,ys,rfl,rfl,ha,hb,hx,hz,q1 hx,q2 hx⟩
theorem ED {K:Q0} {xs ys:List V} {Q:VK} (ha:H a=some (.tup xs)) (hb:H b=some (.tup ys)) (hz:xs.length+ys.length<=sizeLine) (h:∀ p H',aa H H'->H' p=some (.tup (xs++ys))->Q (.ref p) H'):IE K (.ref a) (.ref b) H Q:=by
 refine ⟨a,b,xs,ys,rfl,rfl,af.of ha,af.of hb,hz,fun e=>?_,fun _ e=>?_,fun _ _ p hp=>?_⟩
 ·subst e;exact h b H (aa.refl _) hb
 ·subst e;exact h a H (aa.refl _) (by rw [QR];exact ha)
 ·exact h p _ (aa.upd hp _) aA
theorem SV.append {xs ys:List V} {ts:List (List Str)} (h:SV H xs ss) (h':SV H ys ts):SV H (xs++ys) (ss++ts):=by
 have hl:=h.len
 have Am:=h'.len
 refine ⟨by simp [hl,Am],fun i h1 h2=>?_⟩
 by_cases ay:i < xs.length
 ·rw [Qe ay,Qe (by omega)]
  exact h.at_ i ay (by omega)
 ·rw [Qf (by omega),Qf (by omega)]
  have:=h'.at_ (i - xs.length) (by simp at h1;omega) (by simp at h2;omega)
  simpa [hl] using this
theorem SV.one {H:Hp} {b:Addr} {m:List Str} (e:au H b (m.map V.str)):SV H [.ref b] [m]:=SV.nil.snoc e
theorem SV.same {H H':Hp} {xs:List V} {ss:List (List Str)} (h:SV H xs ss) (s:aa H H'):SV H' xs ss:=h.keep fun _ _ r=>r.same s
theorem lO {k:Nat} (hr:gk k A):A.units+20 < cLine:=by have:=hr.un;omega
section
variable {it d:Addr} {ep:Nat} {od:Obj} {es:Array DictEntry} {ok ov:Value} {Q:Option Value->Shared->Prop}
end
section
variable {k:Nat} {By:Pos} {o:Expr}
end
section
variable {o:Expr}
end
def MI (K:Q0):List V->Hp->VK->Prop:=fun xs H Q=>match xs with
 | [.ref p]=>∃ bs:List Bool,aj K H p (bs.map V.bl)/\Q (.bl (bs.any id)) H
 | _=>False
theorem wT (K:Q0) (hc:X.calm=true) (h:X.K=K:=by rfl):jp X (.builtin "any") (MI K):=by
 subst h
 intro pins s σ H xs us Q I r h
 unfold MI at h
 split at h
 ·next p=>
  obtain ⟨bs,hq,q⟩:=h
  obtain ⟨u,rfl,ru⟩:=r.one
  cases ru
  obtain ⟨its,rv,pl,hz⟩:=I.list hq
  have e:=nB rv
  subst e
  have ay:p < s.heap.objs.size:=by obtain ⟨_,e,_⟩:=pl.isList;exact Qz e
  refine call_any_walk (wpAny_pyIter_list pl.isList ?_)
  refine ⟨s.heap.objs.size,[s.heap.objs.size,p],[s.heap.objs.size],(bs.map Value.bool).toArray.size,_,_,fun i=>(bs[i]?).getD false,rfl,Walks.list (A:=X.A.in1) (I.ok.hd hc) _ p (Nat.ne_of_lt ay) _,
   ⟨⟨_,Qd _ rfl,rfl,rfl⟩,pl.isList.push _⟩,fun i v s' Q' E' hP hQ=>?_,fun h' tk hk=>?_⟩
  ·have sy:(bs.map Value.bool)[i]? =some v:=by simpa using hP
   rw [Qq] at sy
   cases eb:bs[i]? with
   | none=>rw [eb] at sy;cases sy
   | some b=>
    rw [eb] at sy
    cases sy
    simp only [eb,Option.getD_some] at hQ
    exact wpAny_truthy_bool hQ
  ·have e:((List.range (bs.map Value.bool).toArray.size).any fun i=>(bs[i]?).getD false)=bs.any id:=by
    rw [List.size_toArray,Ql]
    rw [Bool.eq_iff_iff,List.any_eq_true,List.any_eq_true]
    constructor
    ·rintro ⟨i,hi,h⟩
     have cj:=List.mem_range.mp hi
     exact ⟨_,Qj cj,by simpa [Qa cj] using h⟩
    ·rintro ⟨b,hb,h⟩
     obtain ⟨i,hi,rfl⟩:=Qi hb
     exact ⟨i,List.mem_range.mpr hi,by simpa [Qa hi] using h⟩
   rw [e]
   refine ⟨.bl (bs.any id),H,I.kept (t':=tk) fun b o e=>hk b o (fun hm=>?_) (Qc _ e),rfl,q⟩
   rw [List.mem_singleton.mp hm] at e
   exact Nat.lt_irrefl _ (Qz e)
 ·exact h.elim
def Ww:R2:=fun x y H Q=>∃ (a b:Addr) (xs ys:List Str),x=.ref a/\y=.ref b/\au H a (xs.map V.str)/\au H b (ys.map V.str)/\Q (.bl (decide (xs=ys))) H
theorem kP (hu:X.A.units+20 < cLine):cu X (compareOp .Eq) Ww:=by
 intro pins s σ H x y v u Q I rx ry h
 obtain ⟨a,b,xs,ys,rfl,rfl,h1,h2,q⟩:=h
 cases rx
 cases ry
 obtain ⟨i1,r1,p1,_⟩:=I.tuple (.inl h1)
 obtain ⟨i2,r2,p2,_⟩:=I.tuple (.inl h2)
 have l1:=r1.length
 have l2:=r2.length
 rw [Ql] at l1 l2
 have:=SeqAt.RcAt.tuples (A:=X.A) (e:=fun j=>xs.getD j ""==ys.getD j "") p1 p2 (by omega) fun j g1 g2=>by
  have k1:j < xs.length:=by simp at g1;omega
  have k2:j < ys.length:=by simp at g2;omega
  obtain ⟨w1,e1,q1⟩:=r1.get (i:=j) (x:=.str xs[j]) (by simp [k1])
  obtain ⟨w2,e2,q2⟩:=r2.get (i:=j) (x:=.str ys[j]) (by simp [k2])
  have m1:i1.toArray[j]=w1:=by rw [Qa (by simpa using g1)] at e1;simpa using e1
  have m2:i2.toArray[j]=w2:=by rw [Qa (by simpa using g2)] at e2;simpa using e2
  rw [m1,m2]
  obtain ⟨t,rfl⟩:=q1
  obtain ⟨t',rfl⟩:=q2
  have:=SeqAt.EqAt.str_str (A:=X.A.in1) (s:=s) xs[j] t ys[j] t'
  simpa [Qb,Qa k1,Qa k2] using this
 have e:((List.range (min i1.toArray.size i2.toArray.size)).all (fun j=>xs.getD j ""==ys.getD j "")&&i1.toArray.size==i2.toArray.size)=decide (xs=ys):=by
  rw [<- mS xs ys];simp only [List.size_toArray,<- l1,<- l2]
 rw [e] at this
 exact this _ _ _ _ ⟨.bl (decide (xs=ys)),H,I,rfl,q⟩
abbrev CL:=List (Str×(Int×Int))
def getL (L:CL) (e:Str):Int×Int:=((L.find? fun x=>decide (x.1=e)).map (·.2)).getD (0,0)
def putL (L:CL) (e:Str) (p:Int×Int):CL:=if (L.any fun x=>decide (x.1=e))=true then L.map (fun x=>if x.1=e then (x.1,p) else x) else L++[(e,p)]
abbrev Wx (H:Hp) (kv:Key×V) (x:Str×(Int×Int)):Prop:=kv.1=.inr x.1/\∃ b,kv.2=.ref b/\H b=some (.tup [.int x.2.1,.int x.2.2])
abbrev CV (H:Hp):List (Key×V)->CL->Prop:=Paired (Wx H)
theorem CV.get {kvs:List (Key×V)} {L:CL} (h:CV H kvs L) (e:Str):(cg kvs (.inr e)=none/\e ∉ L.map (·.1)/\getL L e=(0,0))\/∃ b,cg kvs (.inr e)=some (.ref b)/\e∈L.map (·.1)/\H b=some (.tup [.int (getL L e).1,.int (getL L e).2]):=by
 induction h with
 | nil=>exact .inl ⟨rfl,by simp,rfl⟩
 | @cons kv x ks xs a _ ih=>
  obtain ⟨e1,b,h1,h2⟩:=a
  by_cases hx:x.1=e
  ·refine .inr ⟨b,?_,by simp [hx],?_⟩
   ·rw [cA (by rw [e1,hx]),h1]
   ·have g:getL (x::xs) e=x.2:=by simp [getL,List.find?_cons,hx]
    rw [g];exact h2
  ·have g:getL (x::xs) e=getL xs e:=by simp [getL,List.find?_cons,hx]
   have ne:¬kv.1=Sum.inr e:=fun z=>hx (Sum.inr.inj (e1.symm.trans z))
   rw [g,cB ne]
   rcases ih with ⟨i1,i2,i3⟩ | ⟨b',i1,i2,i3⟩
   ·exact .inl ⟨i1,by simp only [List.map_cons,Qp,not_or];exact ⟨fun z=>hx z.symm,i2⟩,i3⟩
   ·exact .inr ⟨b',i1,by simp only [List.map_cons,Qp];exact .inr i2,i3⟩
theorem Paired.snoc {β:Type} {R:α->β->Prop} {xs:List α} {ys:List β} (h:Paired R xs ys) {x:α} {y:β} (r:R x y):Paired R (xs++[x]) (ys++[y]):=by
 induction h with
 | nil=>exact .cons r .nil
 | cons a _ ih=>exact .cons a ih
theorem CV.put {kvs:List (Key×V)} {L:CL} (h:CV H kvs L) (e:Str) {p:Int×Int} (hb:H b=some (.tup [.int p.1,.int p.2])):CV H (putK kvs (.inr e) (.ref b)) (putL L e p):=by
 rcases h.get e with ⟨h1,h2,_⟩ | ⟨b',h1,h2,h3⟩
 ·rw [L2.dE _ h1]
  unfold putL
  rw [if_neg fun q=>by
   obtain ⟨x,hx,q⟩:=List.any_eq_true.mp q
   exact h2 (List.mem_map.mpr ⟨x,hx,Qt q⟩)]
  exact Paired.snoc h ⟨rfl,b,rfl,hb⟩
 ·have a1:(kvs.any fun kv=>decide (kv.1=(Sum.inr e:Key)))=true:=by rw [cQ,h1];rfl
  have a2:(L.any fun x=>decide (x.1=e))=true:=by
   obtain ⟨x,hx,q⟩:=List.mem_map.mp h2
   exact List.any_eq_true.mpr ⟨x,hx,Qv q⟩
  unfold putK putL
  rw [if_pos a1,if_pos a2]
  clear h1 h2 h3 a1 a2
  induction h with
  | nil=>exact .nil
  | @cons kv x ks xs a _ ih=>
   rw [List.map_cons,List.map_cons]
   refine .cons ?_ ih
   obtain ⟨e1,b1,e2,e3⟩:=a
   by_cases hx:x.1=e
   ·rw [if_pos hx,if_pos (by rw [e1,hx])]
    exact ⟨e1,b,rfl,hb⟩
   ·rw [if_neg hx,if_neg fun z=>hx (Sum.inr.inj (e1.symm.trans z))]
    exact ⟨e1,b1,e2,e3⟩
theorem yI {rows:List aq} {e:Str} (h:endOf rows e=e):ko rows (ak rows e)=EC rows e:=by
 unfold ko EC gn
 rw [h,Qn];rfl
theorem Paired.at {β:Type} {R:α->β->Prop} {xs:List α} {ys:List β} (h:Paired R xs ys):∀ i (h1:i < xs.length) (h2:i < ys.length),R xs[i] ys[i]:=by
 induction h with
 | nil=>intro i h1;exact absurd h1 (by simp)
 | cons a _ ih=>
  intro i h1 h2
  cases i with
  | zero=>exact a
  | succ i=>exact ih i (by simpa using h1) (by simpa using h2)
theorem fu.same {H H':Hp} {a:Addr} {y:V} {r:Option V} (g:fu H a y r) (s:aa H H'):fu H' a y r:=by
 rcases g with ⟨kvs,k,h1,h2,h3⟩ | ⟨kvs,k,b,h1,h2,h3,h4⟩
 ·exact .inl ⟨kvs,k,h1.same s,h2,h3⟩
 ·exact .inr ⟨kvs,k,b,h1.same s,h2,h3.same s,h4⟩
section
variable {t1 i1 t2 i2 elt:Expr} {pos:Pos} {Vi:TI} {g2:TG}
end
section
variable {it d:Addr} {ep:Nat} {od:Obj} {es:Array DictEntry} {Q:Option Value->Shared->Prop}
end
section
variable {o:Expr}
end
section
variable {a:Expr} {p p2 pos aaR:Pos}
end
abbrev Road:=List (List Str)
def MJ (rows:List aq):Nat->Str->List (Road×Str)
 | 0,e=>[([],e)]
 | n+1,e=>(gn rows e).flatMap fun m=>(MJ rows n m.2).map fun q=>(m.1::q.1,q.2)
def allR (rows:List aq) (n:Nat) (e:Str):List Road:=(MJ rows n e).map (·.1)
section
variable {xs:List V} {rows:List aq}
end
section
variable {pos:Pos}
theorem Wy {op:Operator} {ti:DE} {pos':Pos} (hN:X.N.Nodup) (hi:X.N[i]? =some x) (hx:Loc X.env.scope x) (he:SE X e te) (ho:Hh X op ti) (hf:X.fn x=true\/X.env.scope.names.lookup x=some .local:=by first | exact .inl rfl | exact .inr rfl | assumption):
  SS X (.AugAssign (.Name x pos') op e pos) (KU i te ti):=⟨Rv hN hi hx he.h ho hf⟩
theorem Wz (K:Q0) {o:Expr} {id:String} {r:V->List V->Hp->VK->Prop} (pa:PlainAttrs T) (slot:Slot T name id) (zw:typeOf (.builtin id)=pure (.type "method_descriptor")) (hm:CB X id r) (ho:SE X o to) (h:X.K=K:=by rfl)
  (qx:attributeBase o name X.env (eval o X.env)=eval o X.env:=by rfl) (qz:(apos.endLine==cpos.line)=true:=by rfl):SE X (.Call (.Attribute o name apos) [] [] cpos) (Lf K T r to):=by
 subst h;exact ⟨S6 pa slot zw hm ho.h qx qz⟩
end
abbrev Gi:=List (Str×Option (Str×List Str))
def WA (row:Str) (cb:Gi) (ms:List (List Str×Str)):Gi:=ms.foldl (fun cb m=>if m.2∈cb.map (·.1) then cb else cb++[(m.2,some (row,m.1))]) cb
def CY (rows:List aq) (f:Str):Nat->Gi
 | 0=>[(f,none)]
 | i+1=>match (CY rows f i)[i]? with
  | none=>CY rows f i
  | some c=>WA c.1 (CY rows f i) (gn rows c.1)
theorem oJ:∀ {l m:List Str},l.Nodup->(∀ x∈l,x∈m)->l.length<=m.length
 | [],m,_,_=>Nat.zero_le _
 | a::l,m,nd,h=>by
  have ha:=h a List.mem_cons_self
  have h1:=oJ (l:=l) (m:=m.erase a) (List.nodup_cons.mp nd).2 fun x hx=>(List.mem_erase_of_ne (show x≠a from fun z=>(List.nodup_cons.mp nd).1 (by rw [<- z];exact hx))).mpr (h x (Qh _ hx))
  rw [List.length_erase_of_mem ha] at h1
  have hp:=List.length_pos_of_mem ha
  rw [List.length_cons]
  omega
section
variable {iter kx vx:Expr} {pos:Pos} {tk tw:TE}
end
structure SL (H:Hp) (us:List V) (ss:List (List Str×Str)):Prop where
 len:us.length=ss.length
 at_:∀ i (h:i < us.length) (h':i < ss.length),∃ c b,us[i]=.ref c/\H c=some (.tup [.ref b,.str ss[i].2])/\au H b (ss[i].1.map V.str)
theorem SL.nil:SL H [] []:=⟨rfl,fun i h=>absurd h (by simp)⟩
structure IF (H0 H:Hp) (kvs:List (Key×V)) (R:List Str) (f:Str->List (List Str×Str)):Prop where
 len:kvs.length=R.length
 at_:∀ i (h:i < kvs.length) (h':i < R.length),kvs[i].1=.inr R[i]/\∃ l us,kvs[i].2=.ref l/\H0 l=none/\H l=some (.lst us)/\SL H us (f R[i])
 inj:∀ i j (hi:i < kvs.length) (hj:j < kvs.length),kvs[i].2=kvs[j].2->i=j
theorem IF.put {kvs:List (Key×V)} {R:List Str} {f:Str->List (List Str×Str)} (h:IF H0 H kvs R f) {e:Str} (jl:H0 l=none) (hl:H l=some (.lst [])) (ii:∀ i (hi:i < kvs.length),kvs[i].2≠.ref l) (hf:f e=[]):IF H0 H (kvs++[(.inr e,.ref l)]) (R++[e]) f:=by
 have fc:=h.len
 refine ⟨by simp [fc],fun i h1 h2=>?_,fun i j hi hj he=>?_⟩
 ·by_cases ay:i < kvs.length
  ·rw [Qe ay,Qe (by omega)]
   exact h.at_ i ay (by omega)
  ·have e':i=kvs.length:=by simp at h1;omega
   subst e'
   rw [Qf (Qy _),Qf (by omega)]
   simp only [Nat.sub_self,fc,List.getElem_cons_zero]
   exact ⟨trivial,l,[],rfl,jl,hl,by rw [hf];exact SL.nil⟩
 ·simp only [Qk,List.length_cons,List.length_nil] at hi hj
  by_cases ay:i < kvs.length<;>by_cases Gj:j < kvs.length
  ·rw [Qe ay,Qe Gj] at he
   exact h.inj i j ay Gj he
  ·have ej:j=kvs.length:=by omega
   subst ej
   rw [Qe ay,Qf (Qy _)] at he
   simp only [Nat.sub_self,List.getElem_cons_zero] at he
   exact absurd he (ii i ay)
  ·have ei:i=kvs.length:=by omega
   subst ei
   rw [Qe Gj,Qf (Qy _)] at he
   simp only [Nat.sub_self,List.getElem_cons_zero] at he
   exact absurd he.symm (ii j Gj)
  ·omega
def MK (rows:List aq) (e:Str) (k:Nat):Prop:=allR rows k e≠[]/\allR rows (k+1) e=[]
def pb (hs:List (Str×Nat)) (wt:List Str) (y:Str):Bool:=decide (y∈hs.map (·.1))&& !decide (y∈wt)
structure HJ (rows:List aq) (R:List Str) (x:Str) (p:Str->Bool) (cnt:Str->Int) (S:List (List Str×Str)) (un:Str->Int) (hs:List (Str×Nat)) (wt:List Str):Prop where
 nd:(hs.map (·.1)).Nodup
 sub:∀ y∈hs.map (·.1),y∈R
 wn:wt.Nodup
 ws:∀ y∈wt,y∈hs.map (·.1)
 pp:∀ y,pb hs wt y=(p y||decide (y=x))
 WB:∀ r∈R,un r=cnt r - (S.countP (fun q=>decide (q.2=r)):Int)
 z:∀ r∈R,r∈hs.map (·.1)↔un r=0
 snd:∀ q∈hs,MK rows q.1 q.2
theorem HJ.put {rows:List aq} {R:List Str} {p:Str->Bool} {cnt un:Str->Int} {S:List (List Str×Str)} {hs:List (Str×Nat)} {wt:List Str} (h:HJ rows R x p cnt S un hs wt) {q:List Str×Str} (hq:q.2∈R) (h1:1<=un q.2) (h2:un q.2 - 1=0) {k:Nat} (hk:MK rows q.2 k):HJ rows R x p cnt (S++[q]) (fun y=>if y=q.2 then un y - 1 else un y) (hs++[(q.2,k)]) (wt++[q.2]):=by
 have AL:q.2 ∉ hs.map (·.1):=fun z=>by have:=(h.z _ hq).mp z;omega
 have IG:q.2 ∉ wt:=fun z=>AL (h.ws _ z)
 refine ⟨?_,fun y hy=>?_,?_,fun y hy=>?_,fun y=>?_,fun r hr=>?_,fun r hr=>?_,fun q' jz=>?_⟩
 ·rw [Qm,List.nodup_append]
  refine ⟨h.nd,by simp,fun a ha b hb=>?_⟩
  rw [List.map_cons,List.map_nil,List.mem_singleton] at hb
  exact fun z=>AL (by rw [z,hb] at ha;exact ha)
 ·rw [Qm] at hy
  rcases List.mem_append.mp hy with hy | hy
  ·exact h.sub y hy
  ·rw [List.map_cons,List.map_nil,List.mem_singleton] at hy
   rw [hy];exact hq
 ·rw [List.nodup_append]
  refine ⟨h.wn,by simp,fun a ha b hb=>?_⟩
  rw [List.mem_singleton] at hb
  subst hb
  exact fun z=>IG (z▸ha)
 ·rw [Qm]
  rcases List.mem_append.mp hy with hy | hy
  ·exact List.mem_append.mpr (.inl (h.ws y hy))
  ·rw [List.mem_singleton.mp hy];exact List.mem_append.mpr (.inr (by simp))
 ·rw [<- h.pp y]
  unfold pb
  by_cases e:y=q.2
  ·subst e
   simp [AL]
  ·have e1:decide (y∈(hs++[(q.2,k)]).map (·.1))=decide (y∈hs.map (·.1)):=by
    rw [Qm]
    by_cases hh:y∈hs.map (·.1)
    ·rw [Qv hh,Qv (List.mem_append.mpr (.inl hh))]
    ·rw [Qw hh,Qw fun z=>?_]
     rcases List.mem_append.mp z with z | z
     ·exact hh z
     ·rw [List.map_cons,List.map_nil,List.mem_singleton] at z;exact e z
   have e2:decide (y∈wt++[q.2])=decide (y∈wt):=by
    by_cases hh:y∈wt<;>simp [hh,e]
   rw [e1,e2]
 ·have:=h.WB r hr
  rw [List.countP_append]
  by_cases e:r=q.2
  ·subst e;simp;omega
  ·have e':q.2≠r:=fun z=>e z.symm
   simp [e,e'];omega
 ·have:=h.z r hr
  rw [Qm]
  by_cases e:r=q.2
  ·subst e
   simp only [if_true]
   exact ⟨fun _=>h2,fun _=>List.mem_append.mpr (.inr (by simp))⟩
  ·simp only [e,if_false]
   rw [<- this]
   constructor
   ·intro z
    rcases List.mem_append.mp z with z | z
    ·exact z
    ·rw [List.map_cons,List.map_nil,List.mem_singleton] at z;exact absurd z e
   ·exact fun z=>List.mem_append.mpr (.inl z)
 ·rcases List.mem_append.mp jz with z | z
  ·exact h.snd q' z
  ·rw [List.mem_singleton.mp z];exact hk
def hv (hs:List (Str×Nat)) (y:Str):Nat:=((hs.find? fun q=>decide (q.1=y)).map (·.2)).getD 0
theorem fm.add (x:fm P w H h) (hn:H a=none) (new:cz P w (upd H a o) h a o):fm P w (upd H a o) h:=fun b u e=>by
 by_cases hb:b=a
 ·subst hb;rw [aA] at e;cases e;exact new
 ·rw [aF hb] at e
  exact (x b u e).stay (fun c v _ q=>q) (fun c q=>by rw [aF (aR q hn)];exact q) fun c xs q=>q.upd fun u hu=>aR hu hn
section
variable {o:Expr} {p WC:Pos}
end
section
variable {o f:Expr} {td ty tx:TE}
end
abbrev LR:=List (Str×Road)
def WD (acc:LR) (r:Str):Road:=((acc.find? fun q=>decide (q.1=r)).map (·.2)).getD []
def ML (acc:LR):Option (Str×List Str)->Road
 | none=>[]
 | some q=>WD acc q.1++[q.2]
def II (cb:Gi):LR:=cb.foldl (fun acc c=>acc++[(c.1,ML acc c.2)]) []
def xx (A:Around) (s:Shared) (y x:Value) (b:Bool):Prop:=
 ∀ (prog:Program) (w:World) (E:Value->Shared->Prop) (Q:Value->Shared->Prop),Q (.bool b) s->wpAny (model prog w) A (richCompare .Lt y x) Q E s
theorem tI (l b:Addr) (items items2:Array Value) (n n2:Nat) (dd AJ:Option Addr) (sl AK:Array (Option Value)) (e:Nat->Bool) (j:Nat) (c:Bool):
  Meets (Builtin.«tuple.__lt__» ⟨[.ref l,.ref b],[]⟩)
   (fun A R s=>s.heap.get? l=some {cls:=.type "tuple",dict:=dd,data:=.seq items n,slots:=sl}/\s.heap.get? b=some {cls:=.type "tuple",dict:=AJ,data:=.seq items2 n2,slots:=AK}/\
    (∃ (h1:j < items.size) (h2:j < items2.size),(∀ i (g1:i < items.size) (g2:i < items2.size),i<=j->SeqAt.EqAt A.in1 s items[i] items2[i] (e i))/\(∀ i,i < j->e i=true)/\e j=false/\xx A.in1 s items[j] items2[j] c)/\
    R (.ok (.ret (.bool c))) s):=
 .of_wp fun prog w A R s h=>by
  obtain ⟨hp,g,d,tk,os⟩:=s;obtain ⟨hl,hb,⟨F0,Gk,he,ay,IJ,hc⟩,h⟩:=h
  have f2:=AutoSeq1.sub_tuple_tuple
  have hZ:(items.toList.zip items2.toList).length=min items.size items2.size:=by simp
  wp_walk using wpAny_loadPart' hl,wpAny_loadPart' hb,wpAny_forIn_list _ (fun rest b s'=>b.1=none/\s'=⟨hp,g,d,tk,os⟩/\∃ i,rest=(items.toList.zip items2.toList).drop i/\i<=j) _
  case turn=>
   rintro ⟨y,x⟩ rest b s' ⟨hb',rfl,i,hz,hR⟩
   have MM:i < (items.toList.zip items2.toList).length:=by
    rcases Nat.lt_or_ge i (items.toList.zip items2.toList).length with h' | h'
    ·exact h'
    ·rw [List.drop_of_length_le h'] at hz;cases hz
   have hm:i < min items.size items2.size:=hZ▸MM
   have h1:i < items.size:=Nat.lt_of_lt_of_le hm (Nat.min_le_left _ _)
   have h2:i < items2.size:=Nat.lt_of_lt_of_le hm (Nat.min_le_right _ _)
   rw [List.drop_eq_getElem_cons MM] at hz
   injection hz with MN WE
   have hy:y=items[i]:=by have:=congrArg Prod.fst MN;simpa using this
   have hx:x=items2[i]:=by have:=congrArg Prod.snd MN;simpa using this
   subst hy hx
   refine QT (he i h1 h2 hR prog w _ _ ?_)
   by_cases rn:i=j
   ·subst rn
    rw [IJ]
    rw [if_pos (by rfl)]
    refine QT (wpAny_rule (QT (hc prog w _ _ ?_)))
    wp_walk
    exact ⟨_,rfl,h⟩
   ·rw [ay i (by omega)]
    wp_walk
    exact ⟨rfl,rfl,i+1,WE,by omega⟩
  case fin=>
   rintro ⟨b1,b2⟩ s' ⟨hb',rfl,i,hz,hR⟩
   exfalso
   rcases Nat.lt_or_ge i (items.toList.zip items2.toList).length with h' | h'
   ·rw [List.drop_eq_getElem_cons h'] at hz;cases hz
   ·rw [hZ] at h';omega
  case h=>
   exact ⟨rfl,rfl,0,rfl,by omega⟩
theorem xx.tuples {items items2:Array Value} {e:Nat->Bool} {c:Bool} (hl:s.heap.IsTuple l items) (hb:s.heap.IsTuple b items2) (hu:A.units < cLine) (h1:j < items.size) (h2:j < items2.size)
  (he:∀ i (g1:i < items.size) (g2:i < items2.size),i<=j->SeqAt.EqAt A.in1 s items[i] items2[i] (e i)) (ay:∀ i,i < j->e i=true) (IJ:e j=false) (hc:xx A.in1 s items[j] items2[j] c):xx A s (.ref l) (.ref b) c:=fun prog w E Q h=>by
 obtain ⟨⟨cls,dd,data,sl⟩,ho,nq,n,hd⟩:=id hl
 obtain ⟨⟨K9,AJ,data2,AK⟩,u_,jq,n2,hd2⟩:=id hb
 simp only at nq hd jq hd2
 subst nq hd jq hd2
 exact richCompare_meets_room (op:=.Lt) ⟨_,ho,rfl⟩ ⟨_,u_,rfl⟩ F.slot_tuple_lt F.entry_tuple_lt (F.args_tuple_lt_2 _ _) (tI l b items items2 n n2 dd AJ sl AK e j c)
  ⟨ho,u_,⟨h1,h2,he,ay,IJ,hc⟩,show Value.bool c≠Value.notImplemented/\Q (.bool c) s from ⟨(fun x=>nomatch x),h⟩⟩ hu
def pq (xs ys:List Str):Prop:=∃ j,∃ (h1:j < xs.length) (h2:j < ys.length),(∀ i (g1:i < xs.length) (g2:i < ys.length),i < j->xs[i]=ys[i])/\xs[j]≠ys[j]/\decide (ys[j].cps.toList < xs[j].cps.toList)=false
def CZ (r q:Road):Prop:=∃ j,∃ (h1:j < r.length) (h2:j < q.length),(∀ i (g1:i < r.length) (g2:i < q.length),i < j->r[i]=q[i])/\r[j]≠q[j]/\pq r[j] q[j]
theorem xx.str {A:Around} {s:Shared} (i j:Str) (t t':Tok):xx A s (.str i t) (.str j t') (decide (i.cps.toList < j.cps.toList)):=fun prog w E Q h=>lt_str h
theorem zZ (I:Inv X pins σ H s) {xs ys:List Str} (h1:au H a (xs.map V.str)) (h2:au H b (ys.map V.str)) (ay:pq xs ys) (hu:A.units+2 < cLine):xx A s (.ref b) (.ref a) false:=by
 obtain ⟨j,j1,j2,z_,ii,hl⟩:=ay
 obtain ⟨i1,r1,p1,_⟩:=I.tuple (.inl h1)
 obtain ⟨i2,r2,p2,_⟩:=I.tuple (.inl h2)
 have l1:=r1.length
 have l2:=r2.length
 rw [Ql] at l1 l2
 have B5:∀ i (g:i < i1.toArray.size) (k:i < xs.length),∃ t,i1.toArray[i]=.str xs[i] t:=fun i g k=>by
  obtain ⟨w1,e1,q1⟩:=r1.get (i:=i) (x:=.str xs[i]) (by simp [k])
  obtain ⟨t,rfl⟩:=q1
  exact ⟨t,by rw [Qa (by simpa using g)] at e1;simpa using e1⟩
 have B6:∀ i (g:i < i2.toArray.size) (k:i < ys.length),∃ t,i2.toArray[i]=.str ys[i] t:=fun i g k=>by
  obtain ⟨w1,e1,q1⟩:=r2.get (i:=i) (x:=.str ys[i]) (by simp [k])
  obtain ⟨t,rfl⟩:=q1
  exact ⟨t,by rw [Qa (by simpa using g)] at e1;simpa using e1⟩
 refine xx.tuples (e:=fun i=>ys.getD i ""==xs.getD i "") (j:=j) p2 p1 (by omega) (by simp;omega) (by simp;omega) (fun i g1 g2 hi=>?_) (fun i hi=>?_) ?_ ?_
 ·have k1:i < xs.length:=by simp at g2;omega
  have k2:i < ys.length:=by simp at g1;omega
  obtain ⟨t1,e1⟩:=B5 i g2 k1
  obtain ⟨t2,e2⟩:=B6 i g1 k2
  rw [e1,e2]
  have:=SeqAt.EqAt.str_str (A:=A.in1) (s:=s) ys[i] t2 xs[i] t1
  simpa [Qb,Qa k1,Qa k2] using this
 ·have k1:i < xs.length:=by omega
  have k2:i < ys.length:=by omega
  simp [Qb,Qa k1,Qa k2,z_ i k1 k2 hi]
 ·simp [Qb,Qa j1,Qa j2,Ne.symm ii]
 ·obtain ⟨t1,e1⟩:=B5 j (by simp;omega) j1
  obtain ⟨t2,e2⟩:=B6 j (by simp;omega) j2
  rw [e1,e2,<- hl]
  exact xx.str _ _ _ _
theorem yU (I:Inv X pins σ H s) {xs ys:List V} {r q:Road} (h1:H a=some (.tup xs)) (h2:H b=some (.tup ys)) (v1:SV H xs r) (v2:SV H ys q) (ay:CZ r q) (hu:A.units+4 < cLine):xx A s (.ref b) (.ref a) false:=by
 obtain ⟨j,j1,j2,z_,ii,hl⟩:=ay
 obtain ⟨i1,r1,p1,_⟩:=I.tuple (af.of h1)
 obtain ⟨i2,r2,p2,_⟩:=I.tuple (af.of h2)
 have l1:=r1.length
 have l2:=r2.length
 have k1:=v1.len
 have k2:=v2.len
 have B5:∀ i (g:i < i1.toArray.size) (k:i < r.length),∃ c,i1.toArray[i]=.ref c/\au H c (r[i].map V.str):=fun i g k=>by
  obtain ⟨c,e1,m1⟩:=v1.at_ i (by omega) k
  obtain ⟨w1,f1,q1⟩:=r1.get (Qa (show i < xs.length by omega))
  rw [e1] at q1
  cases q1
  exact ⟨c,by rw [Qa (by simpa using g)] at f1;simpa using f1,m1⟩
 have B6:∀ i (g:i < i2.toArray.size) (k:i < q.length),∃ c,i2.toArray[i]=.ref c/\au H c (q[i].map V.str):=fun i g k=>by
  obtain ⟨c,e1,m1⟩:=v2.at_ i (by omega) k
  obtain ⟨w1,f1,q1⟩:=r2.get (Qa (show i < ys.length by omega))
  rw [e1] at q1
  cases q1
  exact ⟨c,by rw [Qa (by simpa using g)] at f1;simpa using f1,m1⟩
 refine xx.tuples (e:=fun i=>decide (q.getD i []=r.getD i [])) (j:=j) p2 p1 (by omega) (by simp;omega) (by simp;omega) (fun i g1 g2 hi=>?_) (fun i hi=>?_) ?_ ?_
 ·have m1:i < r.length:=by simp at g2;omega
  have m2:i < q.length:=by simp at g1;omega
  obtain ⟨c1,e1,t1⟩:=B5 i g2 m1
  obtain ⟨c2,e2,t2⟩:=B6 i g1 m2
  rw [e1,e2]
  have:=wD I t2 t1 (A:=A.in1) (by rw [Around.in1_units];omega)
  simpa [Qb,Qa m1,Qa m2] using this
 ·have m1:i < r.length:=by omega
  have m2:i < q.length:=by omega
  simp [Qb,Qa m1,Qa m2,z_ i m1 m2 hi]
 ·simp [Qb,Qa j1,Qa j2,Ne.symm ii]
 ·obtain ⟨c1,e1,t1⟩:=B5 j (by simp;omega) j1
  obtain ⟨c2,e2,t2⟩:=B6 j (by simp;omega) j2
  rw [e1,e2]
  exact zZ I t1 t2 hl (A:=A.in1) (by rw [Around.in1_units];omega)
theorem WG (I:Inv X pins σ H s) {xs ys:List V} {r q:Road} (h1:H a=some (.tup xs)) (h2:H b=some (.tup ys)) (v1:SV H xs r) (v2:SV H ys q) (ay:CZ r q) (hu:A.units+4 < cLine):SeqAt.EqAt A s (.ref b) (.ref a) false:=by
 obtain ⟨j,j1,j2,z_,ii,hl⟩:=ay
 obtain ⟨i1,r1,p1,_⟩:=I.tuple (af.of h1)
 obtain ⟨i2,r2,p2,_⟩:=I.tuple (af.of h2)
 have l1:=r1.length
 have l2:=r2.length
 have k1:=v1.len
 have k2:=v2.len
 have lj:b≠a:=fun z=>by
  subst z
  rw [h1] at h2
  cases h2
  obtain ⟨c,e1,m1⟩:=v1.at_ j (by omega) j1
  obtain ⟨c',e2,m2⟩:=v2.at_ j (by omega) j2
  rw [e1] at e2
  cases e2
  exact ii (m3 (m1.inj m2))
 have B5:∀ i (g:i < i1.toArray.size) (k:i < r.length),∃ c,i1.toArray[i]=.ref c/\au H c (r[i].map V.str):=fun i g k=>by
  obtain ⟨c,e1,m1⟩:=v1.at_ i (by omega) k
  obtain ⟨w1,f1,q1⟩:=r1.get (Qa (show i < xs.length by omega))
  rw [e1] at q1
  cases q1
  exact ⟨c,by rw [Qa (by simpa using g)] at f1;simpa using f1,m1⟩
 have B6:∀ i (g:i < i2.toArray.size) (k:i < q.length),∃ c,i2.toArray[i]=.ref c/\au H c (q[i].map V.str):=fun i g k=>by
  obtain ⟨c,e1,m1⟩:=v2.at_ i (by omega) k
  obtain ⟨w1,f1,q1⟩:=r2.get (Qa (show i < ys.length by omega))
  rw [e1] at q1
  cases q1
  exact ⟨c,by rw [Qa (by simpa using g)] at f1;simpa using f1,m1⟩
 have:=SeqAt.RcAt.tuples (A:=A) (e:=fun i=>decide (q.getD i []=r.getD i [])) p2 p1 (by omega) fun i g1 g2=>by
  have m1:i < r.length:=by simp at g2;omega
  have m2:i < q.length:=by simp at g1;omega
  obtain ⟨c1,e1,t1⟩:=B5 i g2 m1
  obtain ⟨c2,e2,t2⟩:=B6 i g1 m2
  rw [e1,e2]
  have:=wD I t2 t1 (A:=A.in1) (by rw [Around.in1_units];omega)
  simpa [Qb,Qa m1,Qa m2] using this
 have e:((List.range (min i2.toArray.size i1.toArray.size)).all (fun i=>decide (q.getD i []=r.getD i []))&&i2.toArray.size==i1.toArray.size)=false:=by
  have ha:(List.range (min i2.toArray.size i1.toArray.size)).all (fun i=>decide (q.getD i []=r.getD i []))=false:=by
   rw [List.all_eq_false]
   refine ⟨j,List.mem_range.mpr (by simp;omega),?_⟩
   simp [Qb,Qa j1,Qa j2,Ne.symm ii]
  rw [ha];rfl
 rw [e] at this
 exact SeqAt.EqAt.of_refs lj this
end L2
namespace L2
open PySem PySem.Spec PyProof.Rows PySem.W
theorem MO {cmp:Nat->Nat->(Bool->Shared->Prop)->Shared->Prop} {N:Nat} {s:Shared} {G:Nat->Shared->Prop} (hc:∀ k,1<=k->k < N->∀ C:Bool->Shared->Prop,C false s->cmp k (k - 1) C s) (hG:G N s):
  ∀ f m,1<=m->m+f=N->(kas_asc (List.toArray (List.range N)) f m).kasWp cmp G s
 | 0,m,h1,h=>by
  have:m=N:=by omega
  subst this
  exact hG
 | f+1,m,h1,h=>by
  have e1:(List.toArray (List.range N)).getD m 0=m:=by simp [Array.getD,show m < N by omega]
  have e2:(List.toArray (List.range N)).getD (m - 1) 0=m - 1:=by simp [Array.getD,show m - 1 < N by omega]
  show (KasT.ask ((List.toArray (List.range N)).getD m 0) ((List.toArray (List.range N)).getD (m - 1) 0) fun c=>if c=true then .ret m else kas_asc (List.toArray (List.range N)) f (m+1)).kasWp cmp G s
  rw [e1,e2]
  exact hc m h1 (by omega) _ (MO hc hG f (m+1) (by omega) (by omega))
theorem o5 {R:Value->Value->Prop}:∀ its:List Value,(∀ v∈its,∃ f,R v f)->∃ fs,Paired R its fs
 | [],_=>⟨[],.nil⟩
 | v::its,h=>by
  obtain ⟨f,hf⟩:=h v List.mem_cons_self
  obtain ⟨fs,WH⟩:=o5 its fun v' hv=>h v' (Qh _ hv)
  exact ⟨f::fs,.cons hf WH⟩
theorem tW {fs:List Value} (p:Paired (fun v f=>∃ a o xs n,v=Value.ref a/\h.get? a=some o/\o.cls=Value.type "tuple"/\o.data=.seq xs n/\xs[0]? =some f) vs fs):KatTups h vs fs:=by
 induction p with
 | nil=>trivial
 | cons a _ ih=>exact ⟨a,ih⟩
theorem uC {β:Type} {R R':α->β->Prop} (h:∀ a b,R a b->R' a b) {l:List α} {m:List β} (p:Paired R l m):Paired R' l m:=by
 induction p with
 | nil=>exact .nil
 | cons a _ ih=>exact .cons (h _ _ a) ih
theorem qK {β:Type} {R:α->β->Prop} {P:β->Prop} (h:∀ a b,R a b->P b) {l:List α} {m:List β} (p:Paired R l m):∀ b∈m,P b:=by
 induction p with
 | nil=>intro b hb;cases hb
 | cons a _ ih=>
  intro b hb
  rcases Qp.mp hb with rfl | hb
  ·exact h _ _ a
  ·exact ih b hb
end L2
namespace L2
open PySem PySem.Spec PyProof.Rows
def dd (seen:List Str):List (Road×Str)->LR
 | []=>[]
 | q::P=>if q.2∈seen then dd seen P else (q.2,q.1)::dd (seen++[q.2]) P
structure QI (rows:List aq) (f:Str) (i:Nat) (found:LR) (P:List (Road×Str)):Prop where
 fd:found=(II (CY rows f i)).take i
 pd:dd (found.map (·.1)) P=(II (CY rows f i)).drop i
theorem QI.start (rows:List aq) (f:Str):QI rows f 0 [] [([],f)]:=⟨by simp,by simp [dd,CY,II,ML]⟩
theorem sM {a b:Str} (h:kj a b=true):a≠b/\decide (b.cps.toList < a.cps.toList)=false:=by
 unfold kj at h
 have h1:=Qt h
 refine ⟨fun z=>?_,Qw fun h2=>?_⟩
 ·subst z;exact List.lt_irrefl _ h1
 ·exact List.lt_irrefl _ (List.lt_trans h1 h2)
theorem pq.ne {xs ys:List Str} (h:pq xs ys):xs≠ys:=fun z=>by
 subst z
 obtain ⟨j,h1,h2,_,h3,_⟩:=h
 exact h3 rfl
theorem zR (w:Str) {a b:Str} (h:kj a b=true):pq [w,a] [w,b]:=by
 obtain ⟨h1,h2⟩:=sM h
 refine ⟨1,by simp,by simp,fun i g1 g2 hi=>?_,h1,h2⟩
 have:i=0:=by omega
 subst this;rfl
theorem WI:pq ["from"] ["to"]:=⟨0,by simp,by simp,fun i g1 g2 hi=>absurd hi (by omega),by decide,by decide⟩
theorem WJ:∀ {h:Hd},h.ok ns->h.ck.Pairwise fun m m'=>pq m.1 m'.1
 | .one _,_=>.nil
 | .as _,_=>.nil
 | .way x y,_=>by
  show List.Pairwise _ [((["from"]:List Str),x),(["to"],y)]
  exact .cons (fun m hm=>by rw [List.mem_singleton.mp hm];exact WI) (.cons (fun m hm=>nomatch hm) .nil)
 | .prs s ps,ok=>by
  show List.Pairwise _ (ps.map fun p=>(([if s="box" then "part" else "case",p.1]:List Str),p.2))
  rw [List.pairwise_map]
  have:=eP ok.2.2.1
  rw [List.pairwise_map] at this
  exact this.imp fun h=>zR _ h
end L2
namespace L2
open PySem PySem.Spec PyProof.Rows PySem.W
section
variable {o:Expr} {p WC:Pos}
end
end L2
namespace L2
open PySem PySem.Spec PyProof.Rows
section
variable {it d:Addr} {ep:Nat} {od:Obj} {es:Array DictEntry} {Q:Option Value->Shared->Prop}
end
section
variable {a b:Expr} {ta tb:TE} {pos:Pos}
end
inductive Th where
 | pick (w:Str) (t:Th)
 | box (ps:List (Str×Th))
section
variable {rows:List aq} {e:Str}
end
theorem WK {β:Type} {ps:List (α×β)} (nd:(ps.map (·.1)).Nodup) {z:α} {t t':β} (h:(z,t)∈ps) (h':(z,t')∈ps):t=t':=by
 obtain ⟨i,hi,e⟩:=Qi h
 obtain ⟨j,hj,e'⟩:=Qi h'
 have rn:i=j:=by
  refine (List.getElem_inj (h₀:=by simpa using hi) (h₁:=by simpa using hj) nd).mp ?_
  simp [e,e']
 subst rn
 rw [e] at e'
 exact (Prod.mk.inj e').2
structure PD (R:V->Th->Prop) (ws:List Str) (kvs:List (Key×V)):Prop where
 all:∀ q∈kvs,∃ z t,q.1=.inr z/\z∈ws/\R q.2 t
 nd:(kvs.map (·.1)).Nodup
section
variable {R R':V->Th->Prop} {kvs aaT:List (Key×V)}
theorem PD.len (h:PD R ws kvs):kvs.length<=ws.length:=by
 have hc:∀ q:Key×V,∃ z:Str,q∈kvs->q.1=.inr z/\z∈ws:=fun q=>by
  by_cases hq:q∈kvs
  ·obtain ⟨z,t,h1,h2,_⟩:=h.all q hq;exact ⟨z,fun _=>⟨h1,h2⟩⟩
  ·exact ⟨"",fun z=>absurd z hq⟩
 obtain ⟨f,hf⟩:=Classical.axiomOfChoice hc
 have:=oJ (l:=kvs.map f) (m:=ws) ?_ ?_
 ·simpa using this
 ·refine List.pairwise_map.mpr ((List.pairwise_map.mp h.nd).imp_of_mem fun {a b} ha hb lj e=>lj ?_)
  rw [(hf a ha).1,(hf b hb).1,e]
 ·intro z hz
  obtain ⟨q,hq,rfl⟩:=List.mem_map.mp hz
  exact (hf q hq).2
theorem PD.put (h:PD R ws kvs) {v:V} {t:Th} (hz:z∈ws) (hv:R v t):PD R ws (putK kvs (.inr z) v):=by
 cases e:cg kvs (.inr z) with
 | none=>
  refine ⟨fun q hq=>?_,TM _ h.nd e⟩
  rw [L2.dE _ e] at hq
  rcases List.mem_append.mp hq with hq | hq
  ·exact h.all q hq
  ·rw [List.mem_singleton.mp hq];exact ⟨z,t,rfl,hz,hv⟩
 | some u=>
  have ha:(kvs.any fun kv=>decide (kv.1=.inr z))=true:=by rw [cQ,e];rfl
  unfold putK
  rw [if_pos ha]
  refine ⟨fun q hq=>?_,?_⟩
  ·obtain ⟨q',h1,rfl⟩:=List.mem_map.mp hq
   by_cases hk:q'.1=.inr z
   ·rw [if_pos hk];exact ⟨z,t,hk,hz,hv⟩
   ·rw [if_neg hk];exact h.all q' h1
  ·have ee:(kvs.map fun kv=>if kv.1=.inr z then (kv.1,v) else kv).map (·.1)=kvs.map (·.1):=by
    rw [Qn]
    refine List.map_congr_left fun q _=>?_
    show (if q.1=.inr z then (q.1,v) else q).1=q.1
    split<;>rfl
   rw [ee];exact h.nd
end
theorem qD {k:Nat} (hr:gk k A):A.units+10 < cLine:=by have:=hr.un;omega
theorem WL {κ:Type} [DecidableEq κ] {kvs:List (κ×V)} {k:κ}:(cg kvs k).isSome=true↔k∈kvs.map (·.1):=by
 rw [<- cQ,List.any_eq_true]
 constructor
 ·rintro ⟨p,hp,h⟩;exact List.mem_map.mpr ⟨p,hp,Qt h⟩
 ·intro h
  obtain ⟨p,hp,rfl⟩:=List.mem_map.mp h
  exact ⟨p,hp,Qv rfl⟩
theorem WM (s:Int):r_ (.int s) [.int 1,.int (-1)]=true↔s=1\/s= -1:=by
 simp only [r_,List.any_cons,List.any_nil,Bool.or_false,Bool.or_eq_true,zu]
 constructor
 ·rintro (h | h)
  ·exact .inl (by have:=Qt h;omega)
  ·exact .inr (by have:=Qt h;omega)
 ·rintro (h | h)
  ·exact .inl (Qv (by omega))
  ·exact .inr (Qv (by omega))
theorem af.p_ {K:Q0} {xs:List V} (h:au H a xs):af K H a xs:=.inl h
theorem yr {s:Str} {A B:Prop} (ht:s=z->A) (hf:s≠z->B):if (false^^decide (V.str s=V.str z))=true then A else B:=by
 by_cases h:s=z
 ·rw [Qv (congrArg V.str h)];exact ht h
 ·rw [Qw fun e=>h (V.str.inj e)];exact hf h
theorem IK {s:Str} {A B:Prop} (ht:s≠z->A) (hf:s=z->B):if (true^^decide (V.str s=V.str z))=true then A else B:=by
 by_cases h:s=z
 ·rw [Qv (congrArg V.str h)];exact hf h
 ·rw [Qw fun e=>h (V.str.inj e)];exact ht h
theorem MP {s z:Int} {A B:Prop} (ht:s=z->A) (hf:s≠z->B):if (false^^decide (V.int s=V.int z))=true then A else B:=by
 by_cases h:s=z
 ·rw [Qv (congrArg V.int h)];exact ht h
 ·rw [Qw fun e=>h (V.int.inj e)];exact hf h
theorem WO (P:Program) (w:World) (hu:X.A.units+10 < cLine) (hP:X.prog=P:=by rfl) (hw:X.w=w:=by rfl):cu X (compareOp .NotIn) (MC P w true):=by subst hP hw;exact Wn hu
theorem tN (K:Q0) (P:Program) (w:World) (hc:X.calm=true) (hu:X.A.units+10 < cLine) (hK:X.K=K:=by rfl) (hP:X.prog=P:=by rfl) (hw:X.w=w:=by rfl):jp X (.type "set") (ME P w K):=by subst hP hw;exact wU K hc hu hK
theorem WQ (P:Program) (w:World) {o:Expr} (hu:X.A.units+10 < cLine) (ho:SE X o to) (ha:SE X e te) (hP:X.prog=P:=by rfl) (hw:X.w=w:=by rfl)
  (qx:attributeBase o "add" X.env (eval o X.env)=eval o X.env:=by rfl)
  (zy:((backTo cpos (starEach [e] X.env)).all (fun x=> !x.1)&&(backToKw cpos (keywordEach [] X.env)).all (fun x=>x.1.isSome)
   &&decide ([e].length+([]:List Keyword).length+(if ([]:List Keyword).isEmpty then 0 else 1) < 30))=true:=by rfl)
  (qz:(apos.endLine==cpos.line)=true:=by rfl) (hs:starEach [e] X.env=(false,eval e X.env)::starEach [] X.env:=by rfl):
  SE X (.Call (.Attribute o "add" apos) [e] [] cpos) (MD P w to te):=by subst hP hw;exact Wo hu ho ha qx zy qz hs
def f_ (rows:List aq) (ns:List Str):Prop:=∃ H a xs ws,RT H a xs rows ns ws/\∀ z∈ws,Wd z
section
variable {rows:List aq}
theorem RT.gw {xs:List V} (rt:RT H a xs rows ns ws) (hw:∀ z∈ws,Wd z):f_ rows ns:=⟨H,a,xs,ws,rt,hw⟩
theorem f_.stay (g:f_ rows ns) {x:Str} (hx:x∈ns):iy rows ns (endOf rows x):=let ⟨_,_,_,_,rt,hw⟩:=g;rt.stay hw hx
theorem f_.ju (g:f_ rows ns) {e:Str} (h:iy rows ns e):(e,ak rows e)∈br rows/\(ak rows e).ok ns:=let ⟨_,_,_,_,rt,hw⟩:=g;rt.ju hw h
theorem f_.jt (g:f_ rows ns) {e e':Str} {s:List Str} (h:iy rows ns e) (m:L2.jt rows e s=some e'):iy rows ns e':=let ⟨_,_,_,_,rt,hw⟩:=g;rt.jt hw h m
theorem f_.few (g:f_ rows ns):ns.length<=14:=let ⟨_,_,_,_,rt,hw⟩:=g;rt.few
theorem f_.CW (g:f_ rows ns):((br rows).map (·.1)).Nodup:=let ⟨_,_,_,_,rt,hw⟩:=g;rt.CW
theorem f_.kc (g:f_ rows ns):(rows.map (·.1)).Nodup:=let ⟨_,_,_,_,rt,hw⟩:=g;rt.kc
theorem f_.nm (g:f_ rows ns) (x:Str):x∈rows.map (·.1)↔x∈ns:=let ⟨_,_,_,_,rt,hw⟩:=g;rt.nm.mem_iff
theorem f_.ai (g:f_ rows ns) (x:Str):x∈(br rows).map (·.1)↔iy rows ns x:=by
 constructor
 ·intro h
  obtain ⟨r,hr,rfl⟩:=List.mem_map.mp h
  obtain ⟨h1,h2⟩:=List.mem_filter.mp hr
  refine ⟨(g.nm _).mp (List.mem_map.mpr ⟨r,h1,rfl⟩),dM _ ?_⟩
  show (ak rows r.1).nx=none
  rw [dB g.kc h1]
  simpa using h2
 ·intro h
  exact List.mem_map.mpr ⟨_,(g.ju h).1,rfl⟩
end
def stH (h:Hd):List (List Str):=h.ck.map (·.1)
def fh (lo up:Hd):Option (List (List Str)):=
 if up.be="all"\/lo.be="none" then some [] else if lo.be≠up.be then none
 else if lo.be="pick" then (if ∀ s∈stH lo,s∈stH up then some (stH lo) else none)
 else (if ∀ s∈stH up,s∈stH lo then some (stH up) else none)
theorem qJ {lo up:Hd} (h:fh lo up=some ss) {s:List Str} (hs:s∈ss):s∈stH lo/\s∈stH up:=by
 unfold fh at h
 split at h
 ·cases h;cases hs
 ·split at h
  ·cases h
  ·split at h
   ·split at h
    ·rename_i _ _ _ hh;cases h;exact ⟨hs,hh s hs⟩
    ·cases h
   ·split at h
    ·rename_i _ _ _ hh;cases h;exact ⟨hh s hs,hs⟩
    ·cases h
theorem wI {lo up:Hd} (h:fh lo up=some ss) (h1:(stH lo).length<=n) (h2:(stH up).length<=n):ss.length<=n:=by
 unfold fh at h
 split at h
 ·cases h;exact Nat.zero_le _
 ·split at h
  ·cases h
  ·split at h
   ·split at h
    ·cases h;exact h1
    ·cases h
   ·split at h
    ·cases h;exact h2
    ·cases h
def C0 (H:Hp) (b:Addr) (h:Hd):Prop:=∃ c us,H b=some (.tup [.str h.be,.ref c])/\H c=some (.tup us)/\SV H us (stH h)
theorem C0.same {H H':Hp} {b:Addr} {h:Hd} (m:C0 H b h) (s:aa H H'):C0 H' b h:=let ⟨c,us,e1,e2,e3⟩:=m;⟨c,us,s _ _ e1,s _ _ e2,e3.same s⟩
theorem SV.WR {us:List V} (h:SV H us ss):jm H us (ss.map fun s=>s.map (Sum.inr:Str->Key)):=by
 have hl:=h.len
 refine ⟨by simpa using hl,fun i h1 h2=>?_⟩
 obtain ⟨b,e1,e2⟩:=h.at_ i h1 (by omega)
 refine ⟨b,e1,?_⟩
 rw [Qr,EB]
 exact e2
theorem WS {s:List Str}:s.map (Sum.inr:Str->Key)∈ss.map (fun s=>s.map (Sum.inr:Str->Key))↔s∈ss:=by
 constructor
 ·intro h
  obtain ⟨t,ht,e⟩:=List.mem_map.mp h
  rw [<- mW e];exact ht
 ·intro h;exact List.mem_map.mpr ⟨s,h,rfl⟩
structure C1 (K:Q0) (mg:Str->Option Value) (H:Hp) (n:Addr) (rows:List aq) (ns:List Str):Prop where
 at_:∃ dx fs d1 d3 d4,H n=some (.ins (adr mg "Net") dx fs)/\fs.lookup ("rows":Str)=some (V.ref d1)/\fs.lookup ("marks":Str)=some (V.ref d3)/\fs.lookup ("moves":Str)=some (V.ref d4)/\
  (∀ x,x∈ns->fu H d1 (.str x) (some (.str (endOf rows x))))/\
  (∀ e,iy rows ns e->∃ b,fu H d3 (.str e) (some (.ref b))/\C0 H b (ak rows e))/\(∀ e,¬iy rows ns e->fu H d3 (.str e) none)/\
  (∀ e,iy rows ns e->∃ m o,fu H d4 (.str e) (some (.ref m))/\H m=some (.az o (.dT (EC rows e))))
theorem C1.same {K:Q0} {mg:Str->Option Value} {H H':Hp} {n:Addr} {rows:List aq} {ns:List Str} (h:C1 K mg H n rows ns) (s:aa H H'):C1 K mg H' n rows ns:=by
 obtain ⟨dx,fs,d1,d3,d4,h0,h1,h2,h3,h4,h5,h6,h7⟩:=h.at_
 exact ⟨dx,fs,d1,d3,d4,s _ _ h0,h1,h2,h3,fun x hx=>(h4 x hx).same s,fun e he=>let ⟨b,q1,q2⟩:=h5 e he;⟨b,q1.same s,q2.same s⟩,fun e he=>(h6 e he).same s,fun e he=>let ⟨m,o,q1,q2⟩:=h7 e he;⟨m,o,q1.same s,s _ _ q2⟩⟩
theorem ID.Gm {K:Q0} {n:Addr} {rows:List aq} (h:ID H (adr mg "Net") n rows) (g:f_ rows ns):C1 K mg H n rows ns:=by
 obtain ⟨dx,fs,en,⟨⟨d1,o1,a1,a2⟩,_,⟨d3,o3,k3,c1,c2,c3⟩,⟨d4,o4,k4,e1,e2,e3⟩⟩⟩:=h
 refine ⟨dx,fs,d1,d3,d4,en,a1,c1,e1,fun x hx=>?_,fun e he=>?_,fun e he=>?_,fun e he=>?_⟩
 ·rw [<- oM g.kc ((g.nm x).mpr hx)]
  exact fu.rd (k:=Sum.inr x) (.inr ⟨o1,a2⟩)
 ·obtain ⟨v,h1,b,c,us,rfl,h2,h3,h4⟩:=c3.get g.CW (g.ju he).1
  exact ⟨b,by rw [<- h1];exact fu.rd (k:=Sum.inr e) (.inr ⟨o3,c2⟩),c,us,h2,h3,h4⟩
 ·have hn:cg k3 (.inr e)=none:=by
   cases hv:cg k3 (.inr e) with
   | none=>rfl
   | some u=>
    have:=pO hv
    rw [c3.keys] at this
    obtain ⟨r,hr,e'⟩:=List.mem_map.mp this
    exact absurd ((g.ai e).mp (List.mem_map.mpr ⟨r,hr,Sum.inr.inj e'⟩)) he
  rw [<- hn]
  exact fu.rd (k:=Sum.inr e) (.inr ⟨o3,c2⟩)
 ·obtain ⟨v,h1,m,o,rfl,h2⟩:=e3.get g.CW (g.ju he).1
  refine ⟨m,o,by rw [<- h1];exact fu.rd (k:=Sum.inr e) (.inr ⟨o4,e2⟩),?_⟩
  rw [yI he.2] at h2
  exact h2
theorem iR {rows:List aq} {e:Str} {s:List Str} (he:endOf rows e=e) (hs:s∈stH (ak rows e)):∃ e',jt rows e s=some e':=by
 unfold jt gn
 rw [he]
 obtain ⟨m,hm,rfl⟩:=List.mem_map.mp hs
 cases hf:List.find? (fun m':List Str×Str=>decide (m'.1=m.1)) ((ak rows e).ck.map fun m=>(m.1,endOf rows m.2)) with
 | some q=>exact ⟨q.2,rfl⟩
 | none=>
  have:=List.find?_eq_none.mp hf (m.1,endOf rows m.2) (List.mem_map.mpr ⟨m,hm,rfl⟩)
  simp at this
theorem IL {rows:List aq} {e:Str} (he:endOf rows e=e):(gn rows e).map (·.1)=stH (ak rows e):=by unfold gn stH;rw [he];simp [Qn,QB]
theorem MQ {rows:List aq} {e:Str} (nd:((gn rows e).map (·.1)).Nodup) {m:List Str×Str} (hm:m∈gn rows e):jt rows e m.1=some m.2:=by
 unfold jt
 cases hf:(gn rows e).find? (fun m'=>decide (m'.1=m.1)) with
 | none=>
  have:=List.find?_eq_none.mp hf m hm
  simp at this
 | some q=>
  have h1:=List.mem_of_find?_eq_some hf
  have h2:q.1=m.1:=by simpa using List.find?_some hf
  have h3:(m.1,q.2)∈gn rows e:=by rw [<- h2];exact h1
  exact congrArg some (WK nd h3 (show (m.1,m.2)∈gn rows e from hm))
theorem f_.MR {rows:List aq} (g:f_ rows ns) {e:Str} (he:iy rows ns e):((gn rows e).map (·.1)).Nodup:=by
 rw [IL he.2];exact MG (g.ju he).2
abbrev bf:=Int×Str×Str
def bq (t:bf):List Key:=[.inl t.1,.inr t.2.1,.inr t.2.2]
theorem jK {t u:bf} (h:bq t=bq u):t=u:=by
 obtain ⟨a,b,c⟩:=t
 obtain ⟨a',b',c'⟩:=u
 simp only [bq,List.cons.injEq,Sum.inl.injEq,Sum.inr.injEq,and_true] at h
 obtain ⟨rfl,rfl,rfl⟩:=h
 rfl
theorem WT {t:bf} {ts:List bf}:bq t∈ts.map bq↔t∈ts:=by
 constructor
 ·intro h
  obtain ⟨u,hu,e⟩:=List.mem_map.mp h
  rw [<- jK e];exact hu
 ·intro h;exact List.mem_map.mpr ⟨t,h,rfl⟩
def gh (r1 r2:List aq) (t:bf):Option (List (List Str)):=if t.1=1 then fh (ak r1 t.2.1) (ak r2 t.2.2) else fh (ak r2 t.2.2) (ak r1 t.2.1)
def gg (r1 r2:List aq) (t:bf) (s:List Str):bf:=(if s=(["from"]:List Str) then -t.1 else t.1,(jt r1 t.2.1 s).getD "",(jt r2 t.2.2 s).getD "")
structure qa (r1 r2:List aq) (n1 n2:List Str) (t:bf):Prop where
 sd:t.1=1\/t.1= -1
 a:iy r1 n1 t.2.1
 b:iy r2 n2 t.2.2
theorem vH {t:bf} (h:gh r1 r2 t=some ss) {s:List Str} (hs:s∈ss):s∈stH (ak r1 t.2.1)/\s∈stH (ak r2 t.2.2):=by
 unfold gh at h
 split at h
 ·exact qJ h hs
 ·exact (qJ h hs).symm
theorem vG {t:bf} {n1 n2:List Str} (g1:f_ r1 n1) (g2:f_ r2 n2) (h:iy r1 n1 t.2.1) (h':iy r2 n2 t.2.2) (e:gh r1 r2 t=some ss):ss.length<=10:=by
 have f1:(stH (ak r1 t.2.1)).length<=10:=by have:=iP (g1.ju h).2;simpa [stH] using this
 have f2:(stH (ak r2 t.2.2)).length<=10:=by have:=iP (g2.ju h').2;simpa [stH] using this
 unfold gh at e
 split at e
 ·exact wI e f1 f2
 ·exact wI e f2 f1
theorem qa.behind {n1 n2:List Str} (g1:f_ r1 n1) (g2:f_ r2 n2) {t:bf} (h:qa r1 r2 n1 n2 t) {s:List Str} (h1:s∈stH (ak r1 t.2.1)) (h2:s∈stH (ak r2 t.2.2)):qa r1 r2 n1 n2 (gg r1 r2 t s):=by
 obtain ⟨e1,m1⟩:=iR h.a.2 h1
 obtain ⟨e2,m2⟩:=iR h.b.2 h2
 refine ⟨?_,?_,?_⟩
 ·show (if s=(["from"]:List Str) then -t.1 else t.1)=1\/(if s=(["from"]:List Str) then -t.1 else t.1)= -1
  have:=h.sd
  split<;>omega
 ·show iy r1 n1 ((jt r1 t.2.1 s).getD "")
  rw [m1];exact g1.jt h.a m1
 ·show iy r2 n2 ((jt r2 t.2.2 s).getD "")
  rw [m2];exact g2.jt h.b m2
abbrev je:=List (bf×Option (Nat×List Str))
def uu (r1 r2:List aq) (i:Nat) (t:bf) (st:je) (ss:List (List Str)):je:=ss.foldl (fun st s=>if gg r1 r2 t s∈st.map (·.1) then st else st++[(gg r1 r2 t s,some (i,s))]) st
theorem o6 (r1 r2:List aq) (i:Nat) (t:bf) (st:je) (ss:List (List Str)) (s:List Str):uu r1 r2 i t st (ss++[s])=if gg r1 r2 t s∈(uu r1 r2 i t st ss).map (·.1) then uu r1 r2 i t st ss else uu r1 r2 i t st ss++[(gg r1 r2 t s,some (i,s))]:=by
 unfold uu
 rw [List.foldl_append]
 rfl
def jv (r1 r2:List aq) (f:bf):Nat->je
 | 0=>[(f,none)]
 | i+1=>match (jv r1 r2 f i)[i]? with
  | none=>jv r1 r2 f i
  | some c=>match gh r1 r2 c.1 with
   | none=>jv r1 r2 f i
   | some ss=>uu r1 r2 i c.1 (jv r1 r2 f i) ss
structure LI (r1 r2:List aq) (n1 n2:List Str) (i:Nat) (st:je):Prop where
 nd:(st.map (·.1)).Nodup
 ok:∀ c∈st,qa r1 r2 n1 n2 c.1
 tr:∀ k c j s,st[k]? =some c->c.2=some (j,s)->j < k/\j<=i/\∃ c' ss,st[j]? =some c'/\gh r1 r2 c'.1=some ss/\s∈ss/\gg r1 r2 c'.1 s=c.1
 cl:∀ j c,j < i->st[j]? =some c->∃ ss,gh r1 r2 c.1=some ss/\∀ s∈ss,gg r1 r2 c.1 s∈st.map (·.1)
theorem j5 {α:Type} [DecidableEq α]:∀ {l m:List α},l.Nodup->(∀ x∈l,x∈m)->l.length<=m.length
 | [],m,_,_=>Nat.zero_le _
 | a::l,m,nd,h=>by
  have ha:=h a List.mem_cons_self
  have h1:=j5 (l:=l) (m:=m.erase a) (List.nodup_cons.mp nd).2 fun x hx=>(List.mem_erase_of_ne (show x≠a from fun z=>(List.nodup_cons.mp nd).1 (by rw [<- z];exact hx))).mpr (h x (Qh _ hx))
  rw [List.length_erase_of_mem ha] at h1
  have hp:=List.length_pos_of_mem ha
  rw [List.length_cons]
  omega
theorem k8 {α:Type} (f:α->Nat) (c:Nat):∀ l:List α,(∀ x∈l,f x=c)->(l.map f).sum=l.length*c
 | [],_=>by simp
 | a::l,h=>by
  rw [List.map_cons,List.sum_cons,k8 f c l fun x hx=>h x (Qh _ hx),h a List.mem_cons_self,List.length_cons,Nat.add_mul]
  omega
theorem LI.few {r1 r2:List aq} {n1 n2:List Str} (g1:f_ r1 n1) (g2:f_ r2 n2) {i:Nat} {st:je} (h:LI r1 r2 n1 n2 i st):st.length<=400:=by
 have f1:=g1.few
 have f2:=g2.few
 have:=j5 (m:=([1, -1]:List Int).flatMap fun s=>n1.flatMap fun a=>n2.map fun b=>((s,a,b):bf)) h.nd fun x hx=>by
  obtain ⟨c,hc,rfl⟩:=List.mem_map.mp hx
  have o:=h.ok c hc
  refine List.mem_flatMap.mpr ⟨c.1.1,by have:=o.sd;simpa using this,List.mem_flatMap.mpr ⟨c.1.2.1,o.a.1,List.mem_map.mpr ⟨c.1.2.2,o.b.1,rfl⟩⟩⟩
 have e:(([1, -1]:List Int).flatMap fun s=>n1.flatMap fun a=>n2.map fun b=>((s,a,b):bf)).length=2*(n1.length*n2.length):=by
  rw [List.length_flatMap,k8 _ (n1.length*n2.length)]
  ·rfl
  ·intro s _
   rw [List.length_flatMap,k8 _ n2.length]
   intro a _
   simp
 rw [e] at this
 have h3:n1.length*n2.length<=14*14:=Nat.mul_le_mul f1 f2
 rw [Ql] at this
 omega
theorem LI.snoc {n1 n2:List Str} {st:je} (h:LI r1 r2 n1 n2 i st) (hi:i < st.length) {t:bf} {s:List Str} {c:bf×Option (Nat×List Str)} (ht:qa r1 r2 n1 n2 t) (hn:t ∉ st.map (·.1)) (hc:st[i]? =some c) (hl:gh r1 r2 c.1=some ss) (hs:s∈ss) (hb:gg r1 r2 c.1 s=t):LI r1 r2 n1 n2 i (st++[(t,some (i,s))]):=by
 refine ⟨?_,fun c' jj=>?_,fun k c' j s' hk e=>?_,fun j c' hj jj=>?_⟩
 ·rw [Qm,List.nodup_append]
  refine ⟨h.nd,by simp,fun a ha b hb=>?_⟩
  rw [List.map_cons,List.map_nil,List.mem_singleton] at hb
  subst hb
  exact fun z=>hn (z▸ha)
 ·rcases List.mem_append.mp jj with jj | jj
  ·exact h.ok c' jj
  ·rw [List.mem_singleton.mp jj];exact ht
 ·by_cases hk':k < st.length
  ·rw [Qg hk'] at hk
   obtain ⟨a1,a2,c2,WU,a3,a4⟩:=h.tr k c' j s' hk e
   exact ⟨a1,a2,c2,WU,by rw [Qg (by omega)];exact a3,a4⟩
  ·rw [List.getElem?_append_right (by omega)] at hk
   have Al:k - st.length=0:=by
    by_cases z:k - st.length=0
    ·exact z
    ·rw [QP (by simp;omega)] at hk;cases hk
   rw [Al] at hk
   have:c'=(t,some (i,s)):=by simpa using hk.symm
   subst this
   cases e
   exact ⟨by omega,Qy _,c,ss,by rw [Qg hi];exact hc,hl,hs,hb⟩
 ·rw [Qg (by omega)] at jj
  obtain ⟨MS,q1,q2⟩:=h.cl j c' hj jj
  exact ⟨MS,q1,fun s hs=>by rw [Qm];exact List.mem_append.mpr (.inl (q2 s hs))⟩
theorem SV.rev {xs:List V} (h:SV H xs ss):SV H xs.reverse ss.reverse:=by
 have hl:=h.len
 refine ⟨by simp [hl],fun i h1 h2=>?_⟩
 rw [List.getElem_reverse,List.getElem_reverse]
 have:=h.at_ (xs.length - 1 - i) (by simp at h1;omega) (by simp at h2;omega)
 simpa [hl] using this
def fi (tr:List (Option (Nat×List Str))):Nat->Nat->List (List Str)
 | 0,_=>[]
 | n+1,i=>match tr[i]? with
  | some (some (j,s))=>fi tr n j++[s]
  | _=>[]
def An (tr:List (Option (Nat×List Str))):Prop:=∀ (k j:Nat) (s:List Str),tr[k]? =some (some (j,s))->j < k
def EE (H:Hp) (v:V):Option (Nat×List Str)->Prop
 | none=>v=.ai
 | some q=>∃ b c,v=.ref b/\H b=some (.tup [.int (q.1:Int),.ref c])/\au H c (q.2.map V.str)
structure vm (H:Hp) (vs:List V) (tr:List (Option (Nat×List Str))):Prop where
 len:vs.length=tr.length
 at_:∀ i (h:i < vs.length) (h':i < tr.length),EE H vs[i] tr[i]
theorem EE.keep {v:V} {o:Option (Nat×List Str)} (h:EE H v o) (s:Tk H H') (s2:∀ b ys,au H b ys->au H' b ys):EE H' v o:=by
 cases o with
 | none=>exact h
 | some q=>
  obtain ⟨t,b,h1,h2,h3⟩:=h
  exact ⟨t,b,h1,s _ _ h2,s2 _ _ h3⟩
theorem vm.keep {H H':Hp} {vs:List V} {tr:List (Option (Nat×List Str))} (h:vm H vs tr) (s:Tk H H') (s2:∀ b ys,au H b ys->au H' b ys):vm H' vs tr:=⟨h.len,fun i a b=>(h.at_ i a b).keep s s2⟩
theorem vm.same {H H':Hp} {vs:List V} {tr:List (Option (Nat×List Str))} (h:vm H vs tr) (s:aa H H'):vm H' vs tr:=h.keep s.ts fun b ys r=>r.same s
theorem vm.snoc {vs:List V} (h:vm H vs tr) {v:V} {o:Option (Nat×List Str)} (e:EE H v o):vm H (vs++[v]) (tr++[o]):=by
 have hl:=h.len
 refine ⟨by simp [hl],fun i h1 h2=>?_⟩
 by_cases ay:i < vs.length
 ·rw [Qe ay,Qe (by omega)]
  exact h.at_ i ay (by omega)
 ·have e':i=vs.length:=by simp at h1;omega
  subst e'
  rw [Qf (Qy _),Qf (by omega)]
  simp only [Nat.sub_self,hl,List.getElem_cons_zero]
  exact e
theorem jm.keep {xs:List V} (h:jm H xs eu) (s:∀ b ys,au H b ys->au H' b ys):jm H' xs eu:=⟨h.1,fun i a b=>let ⟨c,e1,e2⟩:=h.2 i a b;⟨c,e1,s _ _ e2⟩⟩
theorem LI.WV {n1 n2:List Str} {st:je} (h:LI r1 r2 n1 n2 i st):An (st.map (·.2)):=fun k j s hk=>by
 rw [Qq] at hk
 obtain ⟨c,h1,h2⟩:=Option.map_eq_some_iff.mp hk
 exact (h.tr k c j s h1 h2).1
def vn:List Nat->List Nat->Prop
 | a::as,b::bs=>a < b\/(a=b/\vn as bs)
 | _,_=>False
def mi (w v:List Nat):Prop:=w.length < v.length\/(w.length=v.length/\vn w v)
theorem t8:∀ w:List Nat,¬vn w w
 | []=>id
 | a::as=>fun h=>h.elim (fun h=>Nat.lt_irrefl _ h) fun h=>t8 as h.2
theorem mO:∀ {w v u:List Nat},vn w v->vn v u->vn w u
 | a::as,b::bs,c::cs,h,h'=>by
  rcases h with h | ⟨rfl,h⟩
  ·rcases h' with h' | ⟨rfl,_⟩
   ·exact .inl (by omega)
   ·exact .inl h
  ·rcases h' with h' | ⟨rfl,h'⟩
   ·exact .inl h'
   ·exact .inr ⟨rfl,mO h h'⟩
 | [],_,_,h,_=>h.elim
 | _::_,[],_,h,_=>h.elim
 | _::_,_::_,[],_,h'=>h'.elim
theorem rA:∀ {w v:List Nat},w.length=v.length->w=v\/vn w v\/vn v w
 | [],[],_=>.inl rfl
 | a::as,b::bs,h=>by
  rcases Nat.lt_trichotomy a b with h1 | h1 | h1
  ·exact .inr (.inl (.inl h1))
  ·subst h1
   rcases rA (w:=as) (v:=bs) (by simpa using h) with h2 | h2 | h2
   ·exact .inl (by rw [h2])
   ·exact .inr (.inl (.inr ⟨rfl,h2⟩))
   ·exact .inr (.inr (.inr ⟨rfl,h2⟩))
  ·exact .inr (.inr (.inl h1))
 | [],_::_,h=>by cases h
 | _::_,[],h=>by cases h
theorem oI:∀ {w v:List Nat} (a b:Nat),w.length=v.length->vn w v->vn (w++[a]) (v++[b])
 | a::as,b::bs,x,y,hl,h=>by
  rcases h with h | ⟨rfl,h⟩
  ·exact .inl h
  ·exact .inr ⟨rfl,oI x y (by simpa using hl) h⟩
 | [],_,_,_,_,h=>h.elim
 | _::_,[],_,_,_,h=>h.elim
theorem iT:∀ (w:List Nat) {a b:Nat},a < b->vn (w++[a]) (w++[b])
 | [],_,_,h=>.inl h
 | x::w,_,_,h=>.inr ⟨rfl,iT w h⟩
theorem fL (w:List Nat):¬mi w w:=fun h=>h.elim (fun h=>Nat.lt_irrefl _ h) fun h=>t8 w h.2
theorem bU {w v u:List Nat} (h:mi w v) (h':mi v u):mi w u:=by
 rcases h with h | ⟨h,hl⟩
 ·rcases h' with h' | ⟨h',_⟩
  ·exact .inl (by omega)
  ·exact .inl (by omega)
 ·rcases h' with h' | ⟨h',Am⟩
  ·exact .inl (by omega)
  ·exact .inr ⟨by omega,mO hl Am⟩
theorem WX (w v:List Nat):w=v\/mi w v\/mi v w:=by
 rcases Nat.lt_trichotomy w.length v.length with h | h | h
 ·exact .inr (.inl (.inl h))
 ·rcases rA h with h1 | h1 | h1
  ·exact .inl h1
  ·exact .inr (.inl (.inr ⟨h,h1⟩))
  ·exact .inr (.inr (.inr ⟨h.symm,h1⟩))
 ·exact .inr (.inr (.inl h))
def A4 (w v:List Nat):Prop:=w=v\/mi w v
theorem xU {w v u:List Nat} (h:A4 w v) (h':A4 v u):A4 w u:=by
 rcases h with rfl | h
 ·exact h'
 ·rcases h' with rfl | h'
  ·exact .inr h
  ·exact .inr (bU h h')
theorem jE {w v:List Nat} (a b:Nat) (h:mi w v):mi (w++[a]) (v++[b]):=by
 rcases h with h | ⟨h,hl⟩
 ·exact .inl (by simp;omega)
 ·exact .inr ⟨by simp [h],oI a b h hl⟩
theorem zT {w v:List Nat} (a:Nat) (h:A4 w v):A4 (w++[a]) (v++[a]):=by
 rcases h with rfl | h
 ·exact .inl rfl
 ·exact .inr (jE a a h)
theorem mG (w:List Nat) (a:Nat):mi w (w++[a]):=.inl (by simp)
section
variable {N Lb:Type} (nx:N->List (Lb×N))
def gi:N->List Nat->Option N
 | n,[]=>some n
 | n,k::ks=>match (nx n)[k]? with
  | some q=>gi q.2 ks
  | none=>none
def gb:N->List Nat->List Lb
 | _,[]=>[]
 | n,k::ks=>match (nx n)[k]? with
  | some q=>q.1::gb q.2 ks
  | none=>[]
theorem iZ:∀ (n:N) (w v:List Nat),gi nx n (w++v)=(gi nx n w).bind fun m=>gi nx m v
 | n,[],v=>rfl
 | n,k::ks,v=>by
  show (match (nx n)[k]? with | some q=>gi nx q.2 (ks++v) | none=>none)=(match (nx n)[k]? with | some q=>gi nx q.2 ks | none=>none).bind _
  cases (nx n)[k]? with
  | none=>rfl
  | some q=>exact iZ q.2 ks v
theorem rL {n m:N} {w:List Nat} (h:gi nx n w=some m) (k:Nat):gi nx n (w++[k])=((nx m)[k]?).map (·.2):=by
 rw [iZ,h]
 show (match (nx m)[k]? with | some q=>some q.2 | none=>none)=_
 cases (nx m)[k]?<;>rfl
theorem mH:∀ {n m:N} {w:List Nat},gi nx n w=some m->∀ {k:Nat} {q:Lb×N},(nx m)[k]? =some q->gb nx n (w++[k])=gb nx n w++[q.1]
 | n,m,[],h,k,q,hk=>by
  cases h
  show (match (nx n)[k]? with | some q=>q.1::gb nx q.2 [] | none=>[])=_
  rw [hk];rfl
 | n,m,k'::ks,h,k,q,hk=>by
  have h':(match (nx n)[k']? with | some q=>gi nx q.2 ks | none=>none)=some m:=h
  show (match (nx n)[k']? with | some q=>q.1::gb nx q.2 (ks++[k]) | none=>[])=(match (nx n)[k']? with | some q=>q.1::gb nx q.2 ks | none=>[])++[q.1]
  cases e:(nx n)[k']? with
  | none=>rw [e] at h';cases h'
  | some q'=>
   rw [e] at h'
   show q'.1::gb nx q'.2 (ks++[k])=(q'.1::gb nx q'.2 ks)++[q.1]
   rw [mH h' hk];rfl
structure BW (n0:N) (i:Nat) (st:List (N×List Nat)):Prop where
 z:st[0]? =some (n0,[])
 go:∀ c∈st,gi nx n0 c.2=some c.1
 up:∀ (k k':Nat) (c c':N×List Nat),k < k'->st[k]? =some c->st[k']? =some c'->mi c.2 c'.2
 cl:∀ (k:Nat) (c:N×List Nat),k < i->st[k]? =some c->∀ (p:Nat) (q:Lb×N),(nx c.1)[p]? =some q->∃ c'∈st,c'.1=q.2/\A4 c'.2 (c.2++[p])
variable {nx}
theorem BW.least {n0:N} {st:List (N×List Nat)} (b:BW nx n0 i st) {vo:N->Prop} (nb:∀ (k:Nat) (c:N×List Nat),k < i->st[k]? =some c->¬vo c.1) {w:List Nat} {m:N} (hw:gi nx n0 w=some m) (hm:vo m):(∀ c,st[i]? =some c->¬mi w c.2)/\(st.length=i->False):=by
 -- aaU way WY aaV ahead of Bu one at place i aaW to a place WY is aaX to,by a way not later
 have key:∀ (v:List Nat) (m:N),gi nx n0 v=some m->((∃ c,st[i]? =some c/\mi v c.2)\/st.length=i)->∃ c∈st,c.1=m/\A4 c.2 v:=by
  intro v
  induction hv:v.length generalizing v with
  | zero=>
   intro m hg _
   obtain rfl:=QS hv
   cases hg
   exact ⟨_,QC b.z,rfl,.inl rfl⟩
  | succ n ih=>
   intro m hg hb
   obtain ⟨u,a,rfl⟩:∃ u a,v=u++[a]:=⟨v.dropLast,v.getLast (by intro e;rw [e] at hv;cases hv),(List.dropLast_concat_getLast _).symm⟩
   have hu:u.length=n:=by simpa using hv
   rw [iZ] at hg
   cases IM:gi nx n0 u with
   | none=>rw [IM] at hg;cases hg
   | some m'=>
    rw [IM] at hg
    have Gn:(match (nx m')[a]? with | some q=>gi nx q.2 [] | none=>none)=some m:=hg
    cases eq:(nx m')[a]? with
    | none=>rw [eq] at Gn;cases Gn
    | some q=>
     rw [eq] at Gn
     have WZ:q.2=m:=by cases Gn;rfl
     obtain ⟨c,hc,e1,e2⟩:=ih u hu m' IM (hb.imp (by rintro ⟨c,h1,h2⟩;exact ⟨c,h1,bU (mG u a) h2⟩) id)
     obtain ⟨k,hk,ek⟩:=Qi hc
     have hk?:st[k]? =some c:=by rw [Qa hk,ek]
     have uv:k < i:=by
      rcases hb with ⟨c',h1,h2⟩ | h1
      ·rcases Nat.lt_trichotomy k i with h | h | h
       ·exact h
       ·subst h
        rw [hk?] at h1;cases h1
        have:=bU (mG u a) h2
        rcases e2 with e2 | e2
        ·rw [e2] at this;exact absurd this (fL _)
        ·exact absurd (bU e2 this) (fL _)
       ·have h3:=b.up i k c' c h h1 hk?
        have:=bU (mG u a) h2
        rcases e2 with e2 | e2
        ·rw [e2] at h3;exact absurd (bU this h3) (fL _)
        ·exact absurd (bU e2 (bU this h3)) (fL _)
      ·omega
     obtain ⟨c',h1,h2,h3⟩:=b.cl k c uv hk? a q (by rw [e1];exact eq)
     exact ⟨c',h1,h2.trans WZ,xU h3 (zT a e2)⟩
 constructor
 ·intro c hc ay
  obtain ⟨c',h1,h2,h3⟩:=key w m hw (.inl ⟨c,hc,ay⟩)
  obtain ⟨k,hk,ek⟩:=Qi h1
  have hk?:st[k]? =some c':=by rw [Qa hk,ek]
  have uv:k < i:=by
   rcases Nat.lt_trichotomy k i with h | h | h
   ·exact h
   ·subst h
    rw [hk?] at hc;cases hc
    rcases h3 with e2 | e2
    ·rw [e2] at ay;exact absurd ay (fL _)
    ·exact absurd (bU e2 ay) (fL _)
   ·have h4:=b.up i k c c' h hc hk?
    rcases h3 with e2 | e2
    ·rw [e2] at h4;exact absurd (bU ay h4) (fL _)
    ·exact absurd (bU e2 (bU ay h4)) (fL _)
  exact nb k c' uv hk? (by rw [h2];exact hm)
 ·intro hl
  obtain ⟨c',h1,h2,h3⟩:=key w m hw (.inr hl)
  obtain ⟨k,hk,ek⟩:=Qi h1
  exact nb k c' (by omega) (by rw [Qa hk,ek]) (by rw [h2];exact hm)
def A5 (nx:N->List (Lb×N)) (vo:N->Prop) (n0:N) (w:List Nat):Prop:=(∃ m,gi nx n0 w=some m/\vo m)/\∀ v m,gi nx n0 v=some m->vo m->¬mi v w
theorem A5.W0 {vo:N->Prop} {n0:N} {w v:List Nat} (h:A5 nx vo n0 w) (h':A5 nx vo n0 v):w=v:=by
 obtain ⟨⟨m,h1,h2⟩,h3⟩:=h
 obtain ⟨⟨m',oz,rf⟩,MT⟩:=h'
 rcases WX w v with e | e | e
 ·exact e
 ·exact absurd e (MT w m h1 h2)
 ·exact absurd e (h3 v m' oz rf)
end
abbrev xy:=Option (Nat×List Str)
section
variable {N:Type} [DecidableEq N] (nx:N->List (List Str×N))
def ip (i:Nat) (st:List (N×xy)) (ms:List (List Str×N)):List (N×xy):=ms.foldl (fun st q=>if q.2∈st.map (·.1) then st else st++[(q.2,some (i,q.1))]) st
def gN (n0:N):Nat->List (N×xy)
 | 0=>[(n0,none)]
 | i+1=>match (gN n0 i)[i]? with
  | none=>gN n0 i
  | some c=>ip i (gN n0 i) (nx c.1)
variable {nx}
theorem rX {tr:List xy} (ok:An tr):∀ (n m k:Nat),k<=n->k<=m->fi tr n k=fi tr m k
 | 0,0,k,_,_=>rfl
 | 0,m+1,k,h,_=>by
  obtain rfl:k=0:=by omega
  show []=(match tr[0]? with | some (some (j,s))=>fi tr m j++[s] | _=>[])
  cases e:tr[0]? with
  | none=>rfl
  | some o=>cases o with
   | none=>rfl
   | some q=>exact absurd (ok 0 q.1 q.2 e) (by omega)
 | n+1,0,k,_,h=>by
  obtain rfl:k=0:=by omega
  show (match tr[0]? with | some (some (j,s))=>fi tr n j++[s] | _=>[])=[]
  cases e:tr[0]? with
  | none=>rfl
  | some o=>cases o with
   | none=>rfl
   | some q=>exact absurd (ok 0 q.1 q.2 e) (by omega)
 | n+1,m+1,k,h1,h2=>by
  show (match tr[k]? with | some (some (j,s))=>fi tr n j++[s] | _=>[])=(match tr[k]? with | some (some (j,s))=>fi tr m j++[s] | _=>[])
  cases e:tr[k]? with
  | none=>rfl
  | some o=>cases o with
   | none=>rfl
   | some q=>
    have:=ok k q.1 q.2 e
    show fi tr n q.1++[q.2]=fi tr m q.1++[q.2]
    rw [rX ok n m q.1 (by omega) (by omega)]
theorem oQ {tr:List xy} (ok:An tr) (x:xy):∀ (n k:Nat),k < tr.length->fi (tr++[x]) n k=fi tr n k
 | 0,k,_=>rfl
 | n+1,k,h=>by
  show (match (tr++[x])[k]? with | some (some (j,s))=>fi (tr++[x]) n j++[s] | _=>[])=(match tr[k]? with | some (some (j,s))=>fi tr n j++[s] | _=>[])
  rw [Qg h]
  cases e:tr[k]? with
  | none=>rfl
  | some o=>cases o with
   | none=>rfl
   | some q=>
    have:=ok k q.1 q.2 e
    show fi (tr++[x]) n q.1++[q.2]=fi tr n q.1++[q.2]
    rw [oQ ok x n q.1 (by omega)]
theorem W1 {tr:List xy} (ok:An tr) {s:List Str} (hj:j < tr.length):fi (tr++[some (j,s)]) tr.length tr.length=fi tr j j++[s]:=by
 obtain ⟨n,hn⟩:∃ n,tr.length=n+1:=⟨tr.length - 1,by omega⟩
 have h1:(tr++[some (j,s)])[n+1]? =some (some (j,s)):=by rw [<- hn];simp
 have h2:fi (tr++[some (j,s)]) (n+1) (n+1)=fi (tr++[some (j,s)]) n j++[s]:=by
  rw [fi.eq_2,h1]
 rw [hn,h2,oQ ok _ n j hj,rX ok n j j (by omega) (Qy _)]
theorem W2 {tr:List xy} (ok:An tr) {s:List Str} (hj:j < tr.length):An (tr++[some (j,s)]):=fun k j' s' h=>by
 by_cases hk:k < tr.length
 ·rw [Qg hk] at h;exact ok k j' s' h
 ·rw [List.getElem?_append_right (by omega)] at h
  have:k - tr.length=0:=by
   by_cases z:k - tr.length=0
   ·exact z
   ·rw [QP (by simp;omega)] at h;cases h
  rw [this] at h
  have:(j,s)=(j',s'):=by simpa using h
  cases this
  omega
structure GW (nx:N->List (List Str×N)) (n0:N) (i:Nat) (st:List (N×xy)) (sw:List (N×List Nat)):Prop where
 ln:sw.map (·.1)=st.map (·.1)
 bw:BW nx n0 i sw
 rd:∀ (k:Nat) (d:N×List Nat),sw[k]? =some d->fi (st.map (·.2)) k k=gb nx n0 d.2
 tr:An (st.map (·.2))
 pr:∀ d∈sw,d.2=[]\/∃ (k':Nat) (d':N×List Nat) (p:Nat),k' < i/\sw[k']? =some d'/\d.2=d'.2++[p]
theorem GW.step {n0:N} {st:List (N×xy)} {sw:List (N×List Nat)} (g:GW nx n0 i st sw) {c:N×xy} (hc:st[i]? =some c):∃ iz,GW nx n0 (i+1) (ip i st (nx c.1)) iz:=by
 have hi:i < st.length:=(List.getElem?_eq_some_iff.mp hc).1
 have fc:sw.length=st.length:=by have:=congrArg List.length g.ln;simpa using this
 obtain ⟨d0,C2⟩:∃ d0,sw[i]? =some d0:=⟨_,Qa (by omega)⟩
 have e0:d0.1=c.1:=by
  have h1:(sw.map (·.1))[i]? =some d0.1:=by rw [Qq,C2];rfl
  have h2:(st.map (·.1))[i]? =some c.1:=by rw [Qq,hc];rfl
  rw [g.ln,h2] at h1;exact (QD h1).symm
 have old:∀ d∈sw,∀ a,mi d.2 (d0.2++[a]):=fun d hd a=>by
  rcases g.pr d hd with h | ⟨k',d',p,h1,h2,h3⟩
  ·rw [h];exact .inl (by simp)
  ·rw [h3];exact jE p a (g.bw.up k' i d' d0 h1 h2 C2)
 have key:∀ j,j<=(nx c.1).length->∃ iz,(∃ e,iz=sw++e)/\iz.map (·.1)=(ip i st ((nx c.1).take j)).map (·.1)/\(∃ e,ip i st ((nx c.1).take j)=st++e)/\(∀ d∈iz,gi nx n0 d.2=some d.1)/\(∀ (k k':Nat) (c c':N×List Nat),k < k'->iz[k]? =some c->iz[k']? =some c'->mi c.2 c'.2)/\(∀ (k:Nat) (d:N×List Nat),iz[k]? =some d->fi ((ip i st ((nx c.1).take j)).map (·.2)) k k=gb nx n0 d.2)/\An ((ip i st ((nx c.1).take j)).map (·.2))/\(∀ d∈iz,d∈sw\/∃ p,p < j/\d.2=d0.2++[p])/\(∀ (p:Nat) (q:List Str×N),p < j->(nx c.1)[p]? =some q->∃ d∈iz,d.1=q.2/\A4 d.2 (d0.2++[p])):=by
  intro j
  induction j with
  | zero=>
   intro _
   exact ⟨sw,⟨[],by simp⟩,by simpa [ip] using g.ln,⟨[],by simp [ip]⟩,g.bw.go,g.bw.up,by simpa [ip] using g.rd,by simpa [ip] using g.tr,fun d hd=>.inl hd,fun p q hp=>absurd hp (by omega)⟩
  | succ j ih=>
   intro hj
   obtain ⟨iz,⟨e,h0⟩,h1,⟨e',oz⟩,h2,h3,h4,h5,h6,h7⟩:=ih (by omega)
   have MU:j < (nx c.1).length:=by omega
   have vp:(nx c.1).take (j+1)=(nx c.1).take j++[(nx c.1)[j]]:=by rw [Qs,Qa MU];rfl
   have hq:(nx c.1)[j]? =some (nx c.1)[j]:=Qa MU
   have MW:ip i st ((nx c.1).take (j+1))=if (nx c.1)[j].2∈(ip i st ((nx c.1).take j)).map (·.1) then ip i st ((nx c.1).take j) else ip i st ((nx c.1).take j)++[((nx c.1)[j].2,some (i,(nx c.1)[j].1))]:=by
    unfold ip
    rw [vp,List.foldl_append];rfl
   generalize (nx c.1)[j]=q at hq MW
   rw [MW]
   by_cases gm:q.2∈(ip i st ((nx c.1).take j)).map (·.1)
   ·rw [if_pos gm]
    refine ⟨iz,⟨e,h0⟩,h1,⟨e',oz⟩,h2,h3,h4,h5,fun d hd=>(h6 d hd).imp id fun ⟨p,hp,e⟩=>⟨p,by omega,e⟩,fun p q' hp jz=>?_⟩
    by_cases IP:p=j
    ·subst IP
     rw [hq] at jz;cases jz
     rw [<- h1] at gm
     obtain ⟨d,hd,ed⟩:=List.mem_map.mp gm
     refine ⟨d,hd,ed,.inr ?_⟩
     rcases h6 d hd with h | ⟨p',AQ,e⟩
     ·exact old d h p
     ·rw [e];exact .inr ⟨by simp,iT _ AQ⟩
    ·exact h7 p q' (by omega) jz
   ·rw [if_neg gm]
    have Am:iz.length=(ip i st ((nx c.1).take j)).length:=by have:=congrArg List.length h1;simpa using this
    have W3:∀ d∈iz,mi d.2 (d0.2++[j]):=fun d hd=>by
     rcases h6 d hd with h | ⟨p',AQ,e⟩
     ·exact old d h j
     ·rw [e];exact .inr ⟨by simp,iT _ AQ⟩
    have W4:i < (ip i st ((nx c.1).take j)).length:=by rw [oz,Qk];omega
    have MX:gi nx n0 d0.2=some c.1:=by rw [<- e0];exact g.bw.go d0 (QC C2)
    refine ⟨iz++[(q.2,d0.2++[j])],⟨e++[(q.2,d0.2++[j])],by rw [h0,QQ]⟩,by rw [Qm,Qm,h1];rfl,⟨e'++[(q.2,some (i,q.1))],by rw [oz,QQ]⟩,fun d hd=>?_,fun k k' a b Ao ha hb=>?_,fun k d hk=>?_,?_,fun d hd=>?_,fun p q' hp jz=>?_⟩
    ·rcases List.mem_append.mp hd with hd | hd
     ·exact h2 d hd
     ·rw [List.mem_singleton.mp hd]
      rw [rL nx MX,hq];rfl
    ·by_cases hk':k' < iz.length
     ·rw [Qg (by omega)] at ha
      rw [Qg hk'] at hb
      exact h3 k k' a b Ao ha hb
     ·rw [List.getElem?_append_right (by omega)] at hb
      have hz:k' - iz.length=0:=by
       by_cases z:k' - iz.length=0
       ·exact z
       ·rw [QP (by simp;omega)] at hb;cases hb
      rw [hz] at hb
      have eb:b=(q.2,d0.2++[j]):=by simpa using hb.symm
      rw [Qg (by omega)] at ha
      rw [eb]
      exact W3 a (QC ha)
    ·rw [Qm]
     have aaY:((ip i st ((nx c.1).take j)).map (·.2)).length=(ip i st ((nx c.1).take j)).length:=by simp
     by_cases hk':k < iz.length
     ·rw [Qg hk'] at hk
      show fi ((ip i st ((nx c.1).take j)).map (·.2)++[some (i,q.1)]) k k=_
      rw [oQ h5 _ k k (by omega)]
      exact h4 k d hk
     ·rw [List.getElem?_append_right (by omega)] at hk
      have hz:k - iz.length=0:=by
       by_cases z:k - iz.length=0
       ·exact z
       ·rw [QP (by simp;omega)] at hk;cases hk
      rw [hz] at hk
      have ed:d=(q.2,d0.2++[j]):=by simpa using hk.symm
      have W5:k=((ip i st ((nx c.1).take j)).map (·.2)).length:=by omega
      show fi ((ip i st ((nx c.1).take j)).map (·.2)++[some (i,q.1)]) k k=_
      rw [W5,W1 h5 (by omega),ed]
      show _=gb nx n0 (d0.2++[j])
      rw [mH nx MX hq]
      have W6:iz[i]? =some d0:=by rw [h0,Qg (by omega)];exact C2
      rw [h4 i d0 W6]
    ·rw [Qm]
     exact W2 h5 (by simpa using W4)
    ·rcases List.mem_append.mp hd with hd | hd
     ·exact (h6 d hd).imp id fun ⟨p,hp,e⟩=>⟨p,by omega,e⟩
     ·rw [List.mem_singleton.mp hd];exact .inr ⟨j,by omega,rfl⟩
    ·by_cases IP:p=j
     ·subst IP
      rw [hq] at jz;cases jz
      exact ⟨(q.2,d0.2++[p]),List.mem_append.mpr (.inr (by simp)),rfl,.inl rfl⟩
     ·obtain ⟨d,hd,e1,e2⟩:=h7 p q' (by omega) jz
      exact ⟨d,List.mem_append.mpr (.inl hd),e1,e2⟩
 obtain ⟨iz,⟨e,h0⟩,h1,⟨e',oz⟩,h2,h3,h4,h5,h6,h7⟩:=key _ (Qy _)
 rw [Qo] at h1 oz h4 h5
 have up:∀ (k:Nat) (d:N×List Nat),sw[k]? =some d->iz[k]? =some d:=fun k d h=>by
  have:=(List.getElem?_eq_some_iff.mp h).1
  rw [h0,Qg this];exact h
 have sub:∀ d∈sw,d∈iz:=fun d hd=>by rw [h0];exact List.mem_append.mpr (.inl hd)
 refine ⟨iz,h1,⟨up _ _ g.bw.z,h2,h3,fun k d hk hd p q hq=>?_⟩,h4,h5,fun d hd=>?_⟩
 ·by_cases uv:k=i
  ·subst uv
   have:=up _ _ C2
   rw [this] at hd;cases hd
   rw [e0] at hq
   have hp:=(List.getElem?_eq_some_iff.mp hq).1
   exact h7 p q hp hq
  ·have hk':k < sw.length:=by omega
   have zg:sw[k]? =some d:=by
    have:=up k _ (Qa hk')
    rw [hd] at this
    rw [Qa hk'];exact this.symm
   obtain ⟨d2,q1,q2,q3⟩:=g.bw.cl k d (by omega) zg p q hq
   exact ⟨d2,sub _ q1,q2,q3⟩
 ·rcases h6 d hd with h | ⟨p,hp,e1⟩
  ·rcases g.pr d h with h | ⟨k',d',p,q1,q2,q3⟩
   ·exact .inl h
   ·exact .inr ⟨k',d',p,by omega,up _ _ q2,q3⟩
  ·exact .inr ⟨i,d0,p,by omega,up _ _ C2,e1⟩
theorem zG (n0:N):∀ i,i<=(gN nx n0 i).length->∃ sw,GW nx n0 i (gN nx n0 i) sw:=by
 intro i
 induction i with
 | zero=>
  intro _
  have one:∀ (k:Nat) (c:N×List Nat),([(n0,[])]:List (N×List Nat))[k]? =some c->k=0/\c=(n0,[]):=fun k c hk=>by
   cases k with
   | zero=>exact ⟨rfl,by simpa using hk.symm⟩
   | succ k=>simp at hk
  refine ⟨[(n0,[])],rfl,⟨rfl,fun c hc=>by rw [List.mem_singleton.mp hc];rfl,fun k k' c c' Ao h1 h2=>?_,fun k c hk=>absurd hk (by omega)⟩,fun k d hk=>?_,fun k j s h=>?_,fun d hd=>by rw [List.mem_singleton.mp hd];exact .inl rfl⟩
  ·have a:=(one k c h1).1;have b:=(one k' c' h2).1;omega
  ·obtain ⟨rfl,rfl⟩:=one k d hk;rfl
  ·cases k with
   | zero=>simp [gN] at h
   | succ k=>simp [gN] at h
 | succ i ih=>
  intro hl
  have e:gN nx n0 (i+1)=match (gN nx n0 i)[i]? with | none=>gN nx n0 i | some c=>ip i (gN nx n0 i) (nx c.1):=rfl
  cases hc:(gN nx n0 i)[i]? with
  | none=>
   rw [hc] at e
   have:=List.getElem?_eq_none_iff.mp hc
   rw [e] at hl
   exfalso
   simp only at hl
   omega
  | some c=>
   rw [hc] at e
   have hi:=(List.getElem?_eq_some_iff.mp hc).1
   obtain ⟨sw,g⟩:=ih (by omega)
   simp only at e
   rw [e]
   exact g.step hc
end
section
variable {N Lb:Type} {nx:N->List (Lb×N)}
def jh (nx:N->List (Lb×N)) (c:N×List Nat):List (N×List Nat):=(List.range (nx c.1).length).filterMap fun p=>((nx c.1)[p]?).map fun q=>(q.2,c.2++[p])
theorem wP {α β:Type} (f:α->Option β) (g:α->β):∀ l:List α,(∀ x∈l,f x=some (g x))->l.filterMap f=l.map g
 | [],_=>rfl
 | a::l,h=>by
  rw [List.filterMap_cons,h a List.mem_cons_self,List.map_cons,wP f g l fun x hx=>h x (Qh _ hx)]
theorem eO (c:N×List Nat) (p:Nat):(jh nx c)[p]? =((nx c.1)[p]?).map fun q=>(q.2,c.2++[p]):=by
 unfold jh
 by_cases hn:(nx c.1).length=0
 ·have:nx c.1=[]:=QS hn
  rw [this];rfl
 ·have dflt:Lb×N:=(nx c.1)[0]'(by omega)
  rw [wP _ (fun p=>(((nx c.1).getD p dflt).2,c.2++[p])) _ fun x hx=>by
   have hx':=List.mem_range.mp hx
   rw [Qa hx',Qb,Qa hx'];rfl]
  rw [Qq]
  by_cases hp:p < (nx c.1).length
  ·rw [Qa (by simpa using hp),Qa hp,List.getElem_range]
   show some (((nx c.1).getD p dflt).2,c.2++[p])=some _
   rw [Qb,Qa hp];rfl
  ·rw [QP (by simpa using hp),QP (by omega)];rfl
theorem xP (c:N×List Nat):(jh nx c).length=(nx c.1).length:=by
 have h1:∀ p,p < (jh nx c).length↔p < (nx c.1).length:=fun p=>by
  have:=eO (nx:=nx) c p
  constructor
  ·intro h
   rw [Qa h] at this
   cases hq:(nx c.1)[p]? with
   | none=>rw [hq] at this;cases this
   | some q=>exact (List.getElem?_eq_some_iff.mp hq).1
  ·intro h
   rw [Qa h] at this
   exact (List.getElem?_eq_some_iff.mp this).1
 have a:=(h1 (nx c.1).length).mp
 have b:=(h1 (jh nx c).length).mpr
 by_cases x:(nx c.1).length < (jh nx c).length
 ·exact absurd (a x) (Nat.lt_irrefl _)
 ·by_cases y:(jh nx c).length < (nx c.1).length
  ·exact absurd (b y) (Nat.lt_irrefl _)
  ·omega
structure LS (nx:N->List (Lb×N)) (n0:N) (i:Nat) (st:List (N×List Nat)) (ms:List N):Prop where
 bw:BW nx n0 i st
 pr:∀ d∈st,d.2=[]\/∃ (k':Nat) (d':N×List Nat) (p:Nat),k' < i/\st[k']? =some d'/\d.2=d'.2++[p]
 ex:∀ t∈ms,∃ (k:Nat) (c:N×List Nat),k < i/\st[k]? =some c/\c.1=t/\∀ (p:Nat) (q:Lb×N),(nx t)[p]? =some q->(q.2,c.2++[p])∈st
theorem LS.start (n0:N):LS nx n0 0 [(n0,[])] []:=by
 have one:∀ (k:Nat) (c:N×List Nat),([(n0,[])]:List (N×List Nat))[k]? =some c->k=0/\c=(n0,[]):=fun k c hk=>by
  cases k with
  | zero=>exact ⟨rfl,by simpa using hk.symm⟩
  | succ k=>simp at hk
 refine ⟨⟨rfl,fun c hc=>by rw [List.mem_singleton.mp hc];rfl,fun k k' c c' Ao h1 h2=>?_,fun k c hk=>absurd hk (by omega)⟩,fun d hd=>by rw [List.mem_singleton.mp hd];exact .inl rfl,fun t ht=>nomatch ht⟩
 have a:=(one k c h1).1;have b:=(one k' c' h2).1;omega
theorem LS.old {n0:N} {st:List (N×List Nat)} {ms:List N} (h:LS nx n0 i st ms) {c:N×List Nat} (hc:st[i]? =some c) (hm:c.1∈ms):LS nx n0 (i+1) st ms:=by
 obtain ⟨k0,c0,a1,a2,a3,a4⟩:=h.ex c.1 hm
 refine ⟨⟨h.bw.z,h.bw.go,h.bw.up,fun k d hk hd p q hq=>?_⟩,fun d hd=>?_,fun t ht=>?_⟩
 ·by_cases uv:k=i
  ·subst uv
   rw [hc] at hd;cases hd
   exact ⟨_,a4 p q hq,rfl,.inr (jE p p (h.bw.up k0 k c0 c a1 a2 hc))⟩
  ·exact h.bw.cl k d (by omega) hd p q hq
 ·exact (h.pr d hd).imp id fun ⟨k',d',p,q1,q2,q3⟩=>⟨k',d',p,by omega,q2,q3⟩
 ·obtain ⟨k,c',b1,b2⟩:=h.ex t ht
  exact ⟨k,c',by omega,b2⟩
theorem LS.leaf {n0:N} {st:List (N×List Nat)} {ms:List N} (h:LS nx n0 i st ms) {c:N×List Nat} (hc:st[i]? =some c) (hm:nx c.1=[]):LS nx n0 (i+1) st ms:=by
 refine ⟨⟨h.bw.z,h.bw.go,h.bw.up,fun k d hk hd p q hq=>?_⟩,fun d hd=>?_,fun t ht=>?_⟩
 ·by_cases uv:k=i
  ·subst uv
   rw [hc] at hd;cases hd
   rw [hm] at hq;simp at hq
  ·exact h.bw.cl k d (by omega) hd p q hq
 ·exact (h.pr d hd).imp id fun ⟨k',d',p,q1,q2,q3⟩=>⟨k',d',p,by omega,q2,q3⟩
 ·obtain ⟨k,c',b1,b2⟩:=h.ex t ht
  exact ⟨k,c',by omega,b2⟩
theorem LS.expand {n0:N} {st:List (N×List Nat)} {ms:List N} (h:LS nx n0 i st ms) {c:N×List Nat} (hc:st[i]? =some c):LS nx n0 (i+1) (st++jh nx c) (ms++[c.1]):=by
 have hi:=(List.getElem?_eq_some_iff.mp hc).1
 have up:∀ (k:Nat) (d:N×List Nat),st[k]? =some d->(st++jh nx c)[k]? =some d:=fun k d q=>by
  have:=(List.getElem?_eq_some_iff.mp q).1
  rw [Qg this];exact q
 have dn:∀ (k:Nat) (d:N×List Nat),(st++jh nx c)[k]? =some d->st[k]? =some d\/(st.length<=k/\∃ q,(nx c.1)[k - st.length]? =some q/\d=(q.2,c.2++[k - st.length])):=fun k d q=>by
  by_cases hk:k < st.length
  ·rw [Qg hk] at q;exact .inl q
  ·rw [List.getElem?_append_right (by omega),eO] at q
   obtain ⟨q',h1,h2⟩:=Option.map_eq_some_iff.mp q
   exact .inr ⟨by omega,q',h1,h2.symm⟩
 have sub:∀ d∈st,d∈st++jh nx c:=fun d hd=>List.mem_append.mpr (.inl hd)
 have MY:∀ (p:Nat) (q:Lb×N),(nx c.1)[p]? =some q->(q.2,c.2++[p])∈st++jh nx c:=fun p q hq=>by
  refine List.mem_append.mpr (.inr (QC (i:=p) ?_))
  rw [eO,hq];rfl
 have old:∀ d∈st,∀ a,mi d.2 (c.2++[a]):=fun d hd a=>by
  rcases h.pr d hd with h' | ⟨k',d',p,h1,h2,h3⟩
  ·rw [h'];exact .inl (by simp)
  ·rw [h3];exact jE p a (h.bw.up k' i d' c h1 h2 hc)
 have D7:=h.bw.go c (QC hc)
 refine ⟨⟨up _ _ h.bw.z,fun d hd=>?_,fun k k' a b Ao ha hb=>?_,fun k d hk hd p q hq=>?_⟩,fun d hd=>?_,fun t ht=>?_⟩
 ·obtain ⟨k,hk,ek⟩:=Qi hd
  rcases dn k d (by rw [Qa hk,ek]) with q | ⟨_,q,h1,h2⟩
  ·exact h.bw.go d (QC q)
  ·rw [h2]
   show gi nx n0 (c.2++[k - st.length])=some q.2
   rw [rL nx D7,h1];rfl
 ·rcases dn k a ha with q | ⟨q0,q,h1,h2⟩
  ·rcases dn k' b hb with q' | ⟨C3,q',oz,rf⟩
   ·exact h.bw.up k k' a b Ao q q'
   ·rw [rf];exact old a (QC q) _
  ·rcases dn k' b hb with q' | ⟨C3,q',oz,rf⟩
   ·have:=(List.getElem?_eq_some_iff.mp q').1;omega
   ·rw [h2,rf];exact .inr ⟨by simp,iT _ (by omega)⟩
 ·by_cases uv:k=i
  ·subst uv
   rw [up _ _ hc] at hd;cases hd
   exact ⟨_,MY p q hq,rfl,.inl rfl⟩
  ·rcases dn k d hd with q' | ⟨q0,_⟩
   ·obtain ⟨d2,a1,a2,a3⟩:=h.bw.cl k d (by omega) q' p q hq
    exact ⟨d2,sub _ a1,a2,a3⟩
   ·omega
 ·rcases List.mem_append.mp hd with hd | hd
  ·exact (h.pr d hd).imp id fun ⟨k',d',p,q1,q2,q3⟩=>⟨k',d',p,by omega,up _ _ q2,q3⟩
  ·obtain ⟨p,hp,ep⟩:=Qi hd
   have:=eO (nx:=nx) c p
   rw [Qa hp,ep] at this
   obtain ⟨q',h1,h2⟩:=Option.map_eq_some_iff.mp this.symm
   exact .inr ⟨i,c,p,by omega,up _ _ hc,by rw [<- h2]⟩
 ·rcases List.mem_append.mp ht with ht | ht
  ·obtain ⟨k,c',b1,b2,b3,b4⟩:=h.ex t ht
   exact ⟨k,c',by omega,up _ _ b2,b3,fun p q hq=>sub _ (b4 p q hq)⟩
  ·rw [List.mem_singleton.mp ht]
   exact ⟨i,c,by omega,up _ _ hc,rfl,MY⟩
end
def bu (r1 r2:List aq) (t:bf):List (List Str×bf):=match gh r1 r2 t with
 | some ss=>ss.map fun s=>(s,gg r1 r2 t s)
 | none=>[]
theorem W7 (r1 r2:List aq) (i:Nat) (t:bf) (ss:List (List Str)):∀ st:je,uu r1 r2 i t st ss=ip i st (ss.map fun s=>(s,gg r1 r2 t s)):=by
 intro st
 unfold uu ip
 rw [List.foldl_map]
 congr 1
 funext st s
 by_cases h:gg r1 r2 t s∈st.map (·.1)
 ·rw [if_pos h];exact (if_pos h).symm
 ·rw [if_neg h];exact (if_neg h).symm
theorem vV (r1 r2:List aq) (f:bf):∀ i,jv r1 r2 f i=gN (bu r1 r2) f i
 | 0=>rfl
 | i+1=>by
  have ih:=vV r1 r2 f i
  rw [jv.eq_2,gN.eq_2]
  rw [ih]
  cases hc:(gN (bu r1 r2) f i)[i]? with
  | none=>rfl
  | some c=>
   show (match gh r1 r2 c.1 with | none=>gN (bu r1 r2) f i | some ss=>uu r1 r2 i c.1 (gN (bu r1 r2) f i) ss)=ip i (gN (bu r1 r2) f i) (bu r1 r2 c.1)
   unfold bu
   cases hl:gh r1 r2 c.1 with
   | none=>rfl
   | some ss=>exact W7 r1 r2 i c.1 ss _
def ja (r1 r2:List aq) (t:bf):Prop:=gh r1 r2 t=none
theorem sZ {f:bf} {st:je} (e:st=jv r1 r2 f i) (li:LI r1 r2 m1 m2 i st) {c:bf×Option (Nat×List Str)} (hc:st[i]? =some c) (hb:gh r1 r2 c.1=none):∃ w,A5 (bu r1 r2) (ja r1 r2) f w/\fi (st.map (·.2)) i i=gb (bu r1 r2) f w:=by
 rw [vV] at e
 have hi:=(List.getElem?_eq_some_iff.mp hc).1
 obtain ⟨sw,g⟩:=zG (nx:=bu r1 r2) f i (by rw [<- e];omega)
 rw [<- e] at g
 have fc:sw.length=st.length:=by have:=congrArg List.length g.ln;simpa using this
 have same:∀ (k:Nat) (d:bf×List Nat),sw[k]? =some d->∃ c',st[k]? =some c'/\c'.1=d.1:=fun k d hd=>by
  have hk:=(List.getElem?_eq_some_iff.mp hd).1
  refine ⟨_,Qa (by omega),?_⟩
  have h1:(sw.map (·.1))[k]? =some d.1:=by rw [Qq,hd];rfl
  rw [g.ln,Qq,Qa (by omega)] at h1
  exact QD h1
 obtain ⟨d,hd⟩:∃ d,sw[i]? =some d:=⟨_,Qa (by omega)⟩
 have ed:d.1=c.1:=by obtain ⟨c',h1,h2⟩:=same i d hd;rw [hc] at h1;cases h1;exact h2.symm
 refine ⟨d.2,⟨⟨d.1,g.bw.go d (QC hd),by rw [ed];exact hb⟩,fun v m hv hm=>?_⟩,g.rd i d hd⟩
 refine (g.bw.least (vo:=ja r1 r2) (fun k d' hk zg Gp=>?_) hv hm).1 d hd
 obtain ⟨c',h1,h2⟩:=same k d' zg
 obtain ⟨ss,h3,_⟩:=li.cl k c' hk h1
 rw [<- h2] at Gp
 rw [show gh r1 r2 c'.1=none from Gp] at h3;cases h3
theorem wR {f:bf} {st:je} (e:st=jv r1 r2 f i) (li:LI r1 r2 m1 m2 i st) (hl:st.length=i) {w:List Nat} {m:bf} (hw:gi (bu r1 r2) f w=some m):¬ja r1 r2 m:=fun hm=>by
 rw [vV] at e
 obtain ⟨sw,g⟩:=zG (nx:=bu r1 r2) f i (by rw [<- e];omega)
 rw [<- e] at g
 have fc:sw.length=st.length:=by have:=congrArg List.length g.ln;simpa using this
 refine (g.bw.least (vo:=ja r1 r2) (fun k d' hk zg Gp=>?_) hw hm).2 (by omega)
 have hk':k < st.length:=by omega
 have h1:(sw.map (·.1))[k]? =some d'.1:=by rw [Qq,zg];rfl
 rw [g.ln,Qq,Qa hk'] at h1
 have h2:st[k].1=d'.1:=QD h1
 obtain ⟨ss,h3,_⟩:=li.cl k _ hk (Qa hk')
 rw [h2,show gh r1 r2 d'.1=none from Gp] at h3;cases h3
theorem W8 {h:Hd} (ok:h.ok ns):(stH h).Pairwise pq:=by
 unfold stH
 exact List.pairwise_map.mpr (WJ ok)
theorem uU {a b:Str} (h:kj a b=true) (h':kj b a=true):False:=by
 have:=kT h h'
 rw [eI] at this;cases this
theorem oH:∀ {l m:List Str},l.Pairwise (fun a b=>kj a b=true)->m.Pairwise (fun a b=>kj a b=true)->(∀ x,x∈l↔x∈m)->l=m
 | [],[],_,_,_=>rfl
 | [],b::m,_,_,h=>absurd ((h b).mpr List.mem_cons_self) (by simp)
 | a::l,[],_,_,h=>absurd ((h a).mp List.mem_cons_self) (by simp)
 | a::l,b::m,hl,hm,h=>by
  obtain ⟨l1,l2⟩:=List.pairwise_cons.mp hl
  obtain ⟨m1,m2⟩:=List.pairwise_cons.mp hm
  have W9:a=b:=by
   rcases Qp.mp ((h a).mp List.mem_cons_self) with e | e
   ·exact e
   ·rcases Qp.mp ((h b).mpr List.mem_cons_self) with e' | e'
    ·exact e'.symm
    ·exact (uU (l1 b e') (m1 a e)).elim
  subst W9
  rw [oH l2 m2 fun x=>?_]
  constructor
  ·intro hx
   rcases Qp.mp ((h x).mp (Qh _ hx)) with e | e
   ·subst e;have:=l1 x hx;rw [eI] at this;cases this
   ·exact e
  ·intro hx
   rcases Qp.mp ((h x).mpr (Qh _ hx)) with e | e
   ·subst e;have:=m1 x hx;rw [eI] at this;cases this
   ·exact e
theorem xZ {s:Str} {ps qs:List (Str×Str)} (h1:rising (ps.map (·.1))=true) (h2:rising (qs.map (·.1))=true) (h:∀ z∈stH (.prs s qs),z∈stH (.prs s ps)):(stH (.prs s ps)).filter (fun z=>decide (z∈stH (.prs s qs)))=stH (.prs s qs):=by
 have e:∀ ps:List (Str×Str),stH (.prs s ps)=(ps.map (·.1)).map fun z=>([if s="box" then "part" else "case",z]:List Str):=fun ps=>by simp [stH,Hd.ck,Qn,QB]
 have inj:∀ {x:Str} {l:List Str},([if s="box" then "part" else "case",x]:List Str)∈l.map (fun z=>([if s="box" then "part" else "case",z]:List Str))↔x∈l:=fun {x l}=>by
  constructor
  ·intro h
   obtain ⟨y,hy,e⟩:=List.mem_map.mp h
   have:y=x:=by simpa using e
   rw [<- this];exact hy
  ·intro h;exact List.mem_map.mpr ⟨x,h,rfl⟩
 rw [e] at h
 rw [e,e,List.filter_map]
 congr 1
 refine oH ((eP h1).filter _) (eP h2) fun x=>?_
 rw [List.mem_filter]
 constructor
 ·rintro ⟨_,hx⟩
  have:=Qt hx
  exact inj.mp this
 ·intro hx
  refine ⟨?_,Qv (inj.mpr hx)⟩
  have:=h _ (List.mem_map.mpr ⟨x,hx,rfl⟩)
  rw [e] at this
  exact inj.mp this
theorem wO {N:Type} {nx:N->List (List Str×N)} (hr:∀ n,(nx n).Pairwise fun a b=>pq a.1 b.1):∀ {w v:List Nat} {n m m':N},gi nx n w=some m->gi nx n v=some m'->vn w v->CZ (gb nx n w) (gb nx n v)
 | a::as,b::bs,n,m,m',h,h',hl=>by
  rw [gi.eq_2] at h h'
  cases ea:(nx n)[a]? with
  | none=>rw [ea] at h;simp at h
  | some q=>
   cases eb:(nx n)[b]? with
   | none=>rw [eb] at h';simp at h'
   | some q'=>
    rw [ea] at h
    rw [eb] at h'
    dsimp only at h h'
    have e1:gb nx n (a::as)=q.1::gb nx q.2 as:=by
     rw [gb.eq_2,ea]
    have e2:gb nx n (b::bs)=q'.1::gb nx q'.2 bs:=by
     rw [gb.eq_2,eb]
    rw [e1,e2]
    rcases hl with hl | ⟨rfl,hl⟩
    ·obtain ⟨ha,W_⟩:=List.getElem?_eq_some_iff.mp ea
     obtain ⟨hb,W'⟩:=List.getElem?_eq_some_iff.mp eb
     have hs:=List.pairwise_iff_getElem.mp (hr n) a b ha hb hl
     rw [W_,W'] at hs
     exact ⟨0,by simp,by simp,fun i _ _ hi=>absurd hi (by omega),hs.ne,hs⟩
    ·rw [ea] at eb;cases eb
     obtain ⟨j,j1,j2,q1,q2,q3⟩:=wO hr h h' hl
     refine ⟨j+1,by simp;omega,by simp;omega,fun i g1 g2 hi=>?_,by simpa using q2,by simpa using q3⟩
     cases i with
     | zero=>rfl
     | succ i=>simpa using q1 i (by simpa using g1) (by simpa using g2) (by omega)
 | [],_,_,_,_,_,_,h=>h.elim
 | _::_,[],_,_,_,_,_,h=>h.elim
theorem RT.Gq {xs:List V} {rows:List aq} (rt:RT H a xs rows ns ws) (x:Str):(stH (ak rows x)).Pairwise pq:=by
 unfold ak
 cases hf:rows.find? fun r=>decide (r.1=x) with
 | none=>exact List.Pairwise.nil
 | some r=>
  have hm:=List.mem_of_find?_eq_some hf
  exact W8 (rt.ok r hm).2
theorem Xa {xs ys:List V} {fj:List Str} (rt:RT H a xs r1 m1 ws) (dh:RT H' b ys r2 m2 fj) (t:bf):(bu r1 r2 t).Pairwise fun a b=>pq a.1 b.1:=by
 unfold bu
 cases h:gh r1 r2 t with
 | none=>exact List.Pairwise.nil
 | some ss=>
  show (ss.map _).Pairwise _
  rw [List.pairwise_map]
  show ss.Pairwise fun a b=>pq a b
  have key:∀ lo up:Hd,(stH lo).Pairwise pq->(stH up).Pairwise pq->fh lo up=some ss->ss.Pairwise pq:=fun lo up h1 h2 hb=>by
   unfold fh at hb
   split at hb
   ·cases hb;exact List.Pairwise.nil
   ·split at hb
    ·cases hb
    ·split at hb
     ·split at hb
      ·cases hb;exact h1
      ·cases hb
     ·split at hb
      ·cases hb;exact h2
      ·cases hb
  unfold gh at h
  split at h
  ·exact key _ _ (rt.Gq _) (dh.Gq _) h
  ·exact key _ _ (dh.Gq _) (rt.Gq _) h
theorem mM {lo up:Hd} (o1:lo.ok m1) (o2:up.ok m2) (n0:¬(up.be="all"\/lo.be="none")) (h:fh lo up=some ss):(stH lo).filter (fun s=>decide (s∈stH up))=ss/\(stH up).filter (fun s=>decide (s∈stH lo))=ss:=by
 unfold fh at h
 rw [if_neg n0] at h
 have all:∀ {l m:List (List Str)},(∀ s∈l,s∈m)->l.filter (fun s=>decide (s∈m))=l:=fun hh=>List.filter_eq_self.mpr fun s hs=>Qv (hh s hs)
 have prs:∀ {h:Hd} {ns:List Str},h.ok ns->stH h=[]\/stH h=([["from"],["to"]]:List (List Str))/\h.be="way"\/∃ s ps,h=.prs s ps/\rising (ps.map (·.1))=true:=fun {h ns} ok=>by
  cases h with
  | one s=>exact .inl rfl
  | as y=>exact .inl rfl
  | way x y=>exact .inr (.inl ⟨rfl,rfl⟩)
  | prs s ps=>exact .inr (.inr ⟨s,ps,rfl,ok.2.2.1⟩)
 have sub:∀ {h g:Hd} {n1 n2:List Str},h.ok n1->g.ok n2->h.be=g.be->(∀ s∈stH h,s∈stH g)->(stH g).filter (fun s=>decide (s∈stH h))=stH h:=fun {h g n1 n2} o1 o2 he hs=>by
  rcases prs o1 with e | ⟨e,es⟩ | ⟨s,ps,rfl,e⟩
  ·rw [e];simp
  ·rcases prs o2 with e' | ⟨e',_⟩ | ⟨s',qs,rfl,e'⟩
   ·have:=hs (["from"]:List Str) (by rw [e];simp)
    rw [e'] at this;simp at this
   ·rw [e,e'];exact all fun s hs=>hs
   ·rw [es] at he
    have:s'="way":=he.symm
    rcases o2.1 with h' | h'<;>(rw [h'] at this;exact absurd this (by decide+kernel))
  ·rcases prs o2 with e' | ⟨e',es'⟩ | ⟨s',qs,rfl,e'⟩
   ·rw [e'] at hs ⊢
    have:stH (.prs s ps)=[]:=List.eq_nil_iff_forall_not_mem.mpr fun x hx=>by have:=hs x hx;simp at this
    rw [this];rfl
   ·rw [es'] at he
    have:s="way":=he
    rcases o1.1 with h' | h'<;>(rw [h'] at this;exact absurd this (by decide+kernel))
   ·obtain rfl:s=s':=he
    exact xZ e' e hs
 split at h
 ·cases h
 rename_i hs
 have hs':lo.be=up.be:=Classical.byContradiction hs
 split at h
 ·split at h
  ·rename_i hh
   cases h
   exact ⟨all hh,sub o1 o2 hs' hh⟩
  ·cases h
 ·split at h
  ·rename_i hh
   cases h
   exact ⟨sub o2 o1 hs'.symm hh,all hh⟩
  ·cases h
structure BY (r1 r2:List aq) (m1 m2:List Str) (f:bf) (i:Nat) (st:List (bf×List Nat)) (ms:List bf) (D N:List (bf×List Nat)) (len:Nat):Prop where
 ls:LS (bu r1 r2) f i st ms
 nb:∀ (k:Nat) (c:bf×List Nat),k < i->st[k]? =some c->¬ja r1 r2 c.1
 ok:∀ d∈st,qa r1 r2 m1 m2 d.1
 nd:ms.Nodup
 mo:∀ t∈ms,qa r1 r2 m1 m2 t
 il:i<=st.length
 qu:st.drop i=D++N
 dl:∀ d∈D,d.2.length=len
 nl:∀ d∈N,d.2.length=len+1
section
variable {f:bf} {st:List (bf×List Nat)} {ms:List bf} {D N:List (bf×List Nat)} {len:Nat} {d:bf×List Nat}
theorem BY.start (hf:qa r1 r2 m1 m2 f):BY r1 r2 m1 m2 f 0 [(f,[])] [] [(f,[])] [] 0:=by
 refine ⟨LS.start f,?_,?_,List.Pairwise.nil,?_,Nat.zero_le _,rfl,?_,?_⟩
 ·intro k c hk;omega
 ·intro d hd;rw [List.mem_singleton.mp hd];exact hf
 ·intro t ht;cases ht
 ·intro d hd;rw [List.mem_singleton.mp hd];rfl
 ·intro d hd;cases hd
theorem BY.few (h:BY r1 r2 m1 m2 f i st ms D N len) (g1:f_ r1 m1) (g2:f_ r2 m2):ms.length<=400:=by
 have f1:=g1.few
 have f2:=g2.few
 have:=j5 (m:=([1, -1]:List Int).flatMap fun s=>m1.flatMap fun a=>m2.map fun b=>((s,a,b):bf)) h.nd fun x hx=>by
  have o:=h.mo x hx
  exact List.mem_flatMap.mpr ⟨x.1,by have:=o.sd;simpa using this,List.mem_flatMap.mpr ⟨x.2.1,o.a.1,List.mem_map.mpr ⟨x.2.2,o.b.1,rfl⟩⟩⟩
 have e:∀ s:Int,(m1.flatMap fun a=>m2.map fun b=>((s,a,b):bf)).length=m1.length*m2.length:=fun s=>by
  rw [List.length_flatMap]
  simp [List.map_const']
 rw [List.flatMap_cons,List.flatMap_cons,List.flatMap_nil,QR,Qk,e,e] at this
 have h1:m1.length*m2.length<=14*14:=Nat.mul_le_mul f1 f2
 omega
theorem BY.head (h:BY r1 r2 m1 m2 f i st ms (d::D) N len):st[i]? =some d:=by
 have:=congrArg (fun l=>l[0]?) h.qu
 simpa using this
theorem BY.B7 (h:BY r1 r2 m1 m2 f i st ms (d::D) N len):qa r1 r2 m1 m2 d.1:=h.ok d (QC h.head)
theorem BY.IQ (h:BY r1 r2 m1 m2 f i st ms (d::D) N len):gi (bu r1 r2) f d.2=some d.1:=h.ls.bw.go d (QC h.head)
theorem BY.next (h:BY r1 r2 m1 m2 f i st ms (d::D) N len):st.drop (i+1)=D++N/\i+1<=st.length:=by
 refine ⟨?_,(List.getElem?_eq_some_iff.mp h.head).1⟩
 rw [<- List.drop_drop,h.qu];rfl
theorem BY.IR (h:BY r1 r2 m1 m2 f i st ms (d::D) N len) (hb:¬ja r1 r2 d.1):∀ (k:Nat) (c:bf×List Nat),k < i+1->st[k]? =some c->¬ja r1 r2 c.1:=fun k c hk hc=>by
 by_cases uv:k=i
 ·subst uv;rw [h.head] at hc;cases hc;exact hb
 ·exact h.nb k c (by omega) hc
theorem BY.bad (h:BY r1 r2 m1 m2 f i st ms (d::D) N len) (hb:ja r1 r2 d.1):A5 (bu r1 r2) (ja r1 r2) f d.2:=
 ⟨⟨d.1,h.IQ,hb⟩,fun v m hv hm=>(h.ls.bw.least (vo:=ja r1 r2) h.nb hv hm).1 d h.head⟩
theorem BY.fin (h:BY r1 r2 m1 m2 f i st ms [] [] len):∀ w m,gi (bu r1 r2) f w=some m->¬ja r1 r2 m:=fun w m hw hm=>by
 refine (h.ls.bw.least (vo:=ja r1 r2) h.nb hw hm).2 ?_
 have h1:=h.il
 have h2:=congrArg List.length h.qu
 rw [List.length_drop] at h2
 simp at h2
 omega
theorem BY.leaf (h:BY r1 r2 m1 m2 f i st ms (d::D) N len) (hb:¬ja r1 r2 d.1) (hn:bu r1 r2 d.1=[]):BY r1 r2 m1 m2 f (i+1) st ms D N len:=
 ⟨h.ls.leaf h.head hn,h.IR hb,h.ok,h.nd,h.mo,h.next.2,h.next.1,fun d hd=>h.dl d (Qh _ hd),h.nl⟩
theorem BY.old (h:BY r1 r2 m1 m2 f i st ms (d::D) N len) (hb:¬ja r1 r2 d.1) (hn:d.1∈ms):BY r1 r2 m1 m2 f (i+1) st ms D N len:=
 ⟨h.ls.old h.head hn,h.IR hb,h.ok,h.nd,h.mo,h.next.2,h.next.1,fun d hd=>h.dl d (Qh _ hd),h.nl⟩
theorem Xb {t:bf} {q:List Str×bf} (hq:q∈bu r1 r2 t):∃ ss,gh r1 r2 t=some ss/\q.1∈ss/\q.2=gg r1 r2 t q.1:=by
 unfold bu at hq
 cases hl:gh r1 r2 t with
 | none=>rw [hl] at hq;cases hq
 | some ss=>
  rw [hl] at hq
  obtain ⟨s,hs,rfl⟩:=List.mem_map.mp hq
  exact ⟨ss,rfl,hs,rfl⟩
theorem rH {c k:bf×List Nat} (hk:k∈jh (bu r1 r2) c):∃ p q,(bu r1 r2 c.1)[p]? =some q/\k=(q.2,c.2++[p]):=by
 obtain ⟨p,hp,ep⟩:=Qi hk
 have:=eO (nx:=bu r1 r2) c p
 rw [Qa hp,ep] at this
 obtain ⟨q,h1,h2⟩:=Option.map_eq_some_iff.mp this.symm
 exact ⟨p,q,h1,h2.symm⟩
theorem BY.expand (h:BY r1 r2 m1 m2 f i st ms (d::D) N len) (g1:f_ r1 m1) (g2:f_ r2 m2) (hb:¬ja r1 r2 d.1) (hn:d.1 ∉ ms):BY r1 r2 m1 m2 f (i+1) (st++jh (bu r1 r2) d) (ms++[d.1]) D (N++jh (bu r1 r2) d) len:=by
 obtain ⟨n1,n2⟩:=h.next
 have hd:=h.B7
 refine ⟨h.ls.expand h.head,fun k c hk hc=>?_,fun c hc=>?_,?_,fun t ht=>?_,by rw [Qk];omega,?_,fun d hd=>h.dl d (Qh _ hd),fun c hc=>?_⟩
 ·rw [Qg (by omega)] at hc
  exact h.IR hb k c hk hc
 ·rcases List.mem_append.mp hc with hc | hc
  ·exact h.ok c hc
  ·obtain ⟨p,q,h1,rfl⟩:=rH hc
   obtain ⟨ss,e1,e2,e3⟩:=Xb (QC h1)
   obtain ⟨i1,i2⟩:=vH e1 e2
   show qa r1 r2 m1 m2 q.2
   rw [e3];exact hd.behind g1 g2 i1 i2
 ·rw [List.nodup_append]
  exact ⟨h.nd,by simp,fun a ha b hb=>by rw [List.mem_singleton.mp hb];exact fun z=>hn (by rw [<- z];exact ha)⟩
 ·rcases List.mem_append.mp ht with ht | ht
  ·exact h.mo t ht
  ·rw [List.mem_singleton.mp ht];exact hd
 ·rw [List.drop_append_of_le_length n2,n1,QQ]
 ·rcases List.mem_append.mp hc with hc | hc
  ·exact h.nl c hc
  ·obtain ⟨p,q,h1,rfl⟩:=rH hc
   show (d.2++[p]).length=len+1
   rw [Qk,h.dl d List.mem_cons_self];rfl
theorem BY.turn (h:BY r1 r2 m1 m2 f i st ms [] N len):BY r1 r2 m1 m2 f i st ms N [] (len+1):=
 ⟨h.ls,h.nb,h.ok,h.nd,h.mo,h.il,by rw [h.qu];simp,h.nl,fun d hd=>nomatch hd⟩
theorem BY.rise (h:BY r1 r2 m1 m2 f i st ms [] N len) (hr:∀ t,(bu r1 r2 t).Pairwise fun a b=>pq a.1 b.1) (j:Nat) (hj:j+1 < N.length):CZ (gb (bu r1 r2) f N[j].2) (gb (bu r1 r2) f N[j+1].2):=by
 have hq:=h.qu
 rw [List.nil_append] at hq
 have at_:∀ k (hk:k < N.length),st[i+k]? =some N[k]:=fun k hk=>by
  rw [<- List.getElem?_drop,hq,Qa hk]
 have a:=at_ j (by omega)
 have b:=at_ (j+1) hj
 have lt:=h.ls.bw.up _ _ _ _ (by omega) a b
 have l1:=h.nl _ (Qj (show j < N.length by omega))
 have l2:=h.nl _ (Qj hj)
 refine wO hr (h.ls.bw.go _ (QC a)) (h.ls.bw.go _ (QC b)) ?_
 rcases lt with lt | lt
 ·omega
 ·exact lt.2
theorem xD {c:bf×List Nat} (hg:gi (bu r1 r2) f c.2=some c.1) {p:Nat} {q:List Str×bf} (hp:(bu r1 r2 c.1)[p]? =some q) (h:p < (jh (bu r1 r2) c).length):(jh (bu r1 r2) c)[p]=(q.2,c.2++[p])/\gb (bu r1 r2) f (c.2++[p])=gb (bu r1 r2) f c.2++[q.1]:=by
 refine ⟨?_,mH _ hg hp⟩
 have:=eO (nx:=bu r1 r2) c p
 rw [hp,Qa h] at this
 exact QD this
theorem wG {N Lb:Type} {nx:N->List (Lb×N)}:∀ {w:List Nat} {n m:N},gi nx n w=some m->(gb nx n w).length=w.length
 | [],n,m,h=>by cases h;rfl
 | a::as,n,m,h=>by
  rw [gi.eq_2] at h
  cases ea:(nx n)[a]? with
  | none=>rw [ea] at h;simp at h
  | some q=>
   rw [ea] at h
   rw [gb.eq_2,ea]
   show (gb nx q.2 as).length+1=as.length+1
   rw [wG h]
end
structure jw (r1 r2:List aq) (f:bf) (H:Hp) (us:List V) (D:List (bf×List Nat)):Prop where
 len:us.length=D.length
 at_:∀ i (h:i < us.length) (h':i < D.length),∃ c b e ys,us[i]=.ref c/\H c=some (.tup [.ref b,.ref e])/\H b=some (.tup ys)/\SV H ys (gb (bu r1 r2) f D[i].2)/\H e=some (.tup ((bq D[i].1).map kV))
section
variable {f:bf} {us:List V} {D:List (bf×List Nat)}
theorem jw.keep (h:jw r1 r2 f H us D) (s:Tk H H') (s2:∀ b ys,au H b ys->au H' b ys):jw r1 r2 f H' us D:=⟨h.len,fun i a b=>let ⟨c,d,e,ys,h1,h2,h3,h4,h5⟩:=h.at_ i a b;⟨c,d,e,ys,h1,s _ _ h2,s _ _ h3,h4.keep s2,s _ _ h5⟩⟩
theorem jw.same (h:jw r1 r2 f H us D) (s:aa H H'):jw r1 r2 f H' us D:=h.keep s.ts fun b ys r=>r.same s
theorem jw.nil:jw r1 r2 f H [] []:=⟨rfl,fun i h=>absurd h (by simp)⟩
theorem jw.snoc (h:jw r1 r2 f H us D) {c e:Addr} {ys:List V} {p:bf×List Nat} (h2:H c=some (.tup [.ref b,.ref e])) (h3:H b=some (.tup ys)) (h4:SV H ys (gb (bu r1 r2) f p.2)) (h5:H e=some (.tup ((bq p.1).map kV))):jw r1 r2 f H (us++[.ref c]) (D++[p]):=by
 have hl:=h.len
 refine ⟨by simp [hl],fun i g1 g2=>?_⟩
 by_cases ay:i < us.length
 ·rw [Qe ay,Qe (by omega)]
  exact h.at_ i ay (by omega)
 ·have e':i=us.length:=by simp at g1;omega
  subst e'
  rw [Qf (Qy _),Qf (by omega)]
  simp only [Nat.sub_self,hl,List.getElem_cons_zero]
  exact ⟨c,b,e,ys,rfl,h2,h3,h4,h5⟩
end
end L2
namespace L2
open PySem PySem.Spec PyProof.Rows PySem.W
theorem oA:∀ (e_ n r:Nat),r<=1->minRun' e_ n r<=n+r
 | 0,n,r,h=>by
  have:minRun' 0 n r=n+r:=rfl
  omega
 | e_+1,n,r,h=>by
  rw [minRun'_succ]
  split
  ·exact Qy _
  ·rename_i hn
   have:=oA e_ (n / 2) (max r (n % 2)) (by omega)
   omega
theorem Xc {κ:SortKind} {it:Array Keyed} {Q:Unit->SortSt->Shared->Prop} (h2:2<=n) (hc:∀ k,1<=k->k < n->∀ C:Bool->Shared->Prop,C false s->kas_cmp prog w A κ it k (k - 1) C s)
  (hQ:∀ st':SortSt,arrOf st'=Array.map (kas_item it) (List.range n).toArray->failedOf st'=none->Q () st' s):kasC (model prog w) A E sortRuns' Q (kas_st κ it (List.range n).toArray) s:=by
 obtain ⟨r,rfl⟩:∃ r,n=r+2:=⟨n - 2,by omega⟩
 have hsz:(arrOf (kas_st κ it (List.range (r+2)).toArray)).size=r+2:=by
  show (Array.map (kas_item it) (List.range (r+2)).toArray).size=r+2
  simp
 have Xd:minRun' (r+2) (r+2) 0<=r+2:=by have:=oA (r+2) (r+2) 0 (by omega);omega
 rw [sortRuns'_eq]
 unfold kasC
 rw [StateT.run_bind]
 refine QT (wpAny_of_eq (a:=(kas_st κ it (List.range (r+2)).toArray,kas_st κ it (List.range (r+2)).toArray)) rfl ?_)
 dsimp only
 rw [hsz]
 generalize minRun' (r+2) (r+2) 0=mr at Xd
 rw [StateT.run_bind]
 refine QT ?_
 rw [Std.Legacy.Range.forIn_eq_forIn_range']
 have MZ:List.range' ({stop:=r+2,step_pos:=Nat.zero_lt_one}:Std.Legacy.Range).start ({stop:=r+2,step_pos:=Nat.zero_lt_one}:Std.Legacy.Range).size ({stop:=r+2,step_pos:=Nat.zero_lt_one}:Std.Legacy.Range).step=0::1::List.range' 2 r:=by
  simp [Std.Legacy.Range.size,List.range'_succ]
 rw [MZ,List.forIn_cons]
 dsimp only
 rw [if_neg (by omega:¬(0≥r+2)),bind_assoc,StateT.run_bind]
 have hrs:(List.range (r+2)).toArray.size=r+2:=by simp
 have Xe:wpAny (model prog w) A ((countRun' 0 (r+2)).run (kas_st κ it (List.range (r+2)).toArray)) (fun a s'=>a=(some (r+2),kas_st κ it (List.range (r+2)).toArray)/\s'=s) E s:=by
  refine kas_count_ (p:=(List.range (r+2)).toArray) (nrem:=r+2) (G:=fun m s'=>m=(r+2,(List.range (r+2)).toArray)/\s'=s) (Q:=fun o st' s'=>(o,st')=(some (r+2),kas_st κ it (List.range (r+2)).toArray)/\s'=s) (by omega) (by omega) ?_ ?_
  ·rintro m p' s' _ _ _ ⟨h,rfl⟩
   cases h
   exact ⟨rfl,rfl⟩
  ·unfold kas_count
   rw [KasT.kasWp_bind]
   refine MO hc ?_ (r+2 - 1) 1 (Qy _) (by omega)
   rw [if_pos (by simp)]
   exact ⟨rfl,rfl⟩
 refine QT (wpAny_mono Xe (fun a s' h=>?_) (fun _ _ e=>e))
 obtain ⟨rfl,rfl⟩:=h
 dsimp only
 rw [if_neg (by omega:¬(r+2 < mr)),bind_assoc,StateT.run_bind]
 refine QT (wpAny_of_eq (a:=(kas_st κ it (List.range (r+2)).toArray,kas_st κ it (List.range (r+2)).toArray)) rfl ?_)
 dsimp only
 have Gf:(pendingOf (kas_st κ it (List.range (r+2)).toArray)).back?=none:=rfl
 simp only [Gf]
 rw [bind_assoc,StateT.run_bind]
 refine QT (wpAny_of_eq (a:=((),setPending (kas_st κ it (List.range (r+2)).toArray) #[(0,r+2,0)])) rfl ?_)
 rw [pure_bind]
 dsimp only
 rw [List.forIn_cons]
 dsimp only
 rw [if_pos (by omega:0+(r+2)≥r+2),pure_bind]
 dsimp only
 rw [StateT.run_pure]
 refine QU ?_
 dsimp only
 rw [StateT.run_bind]
 refine QT ?_
 rw [Std.Legacy.Range.forIn_eq_forIn_range',MZ,List.forIn_cons,bind_assoc,StateT.run_bind]
 refine QT (wpAny_of_eq (a:=(setPending (kas_st κ it (List.range (r+2)).toArray) #[(0,r+2,0)],setPending (kas_st κ it (List.range (r+2)).toArray) #[(0,r+2,0)])) rfl ?_)
 dsimp only
 rw [if_pos (show (pendingOf (setPending (kas_st κ it (List.range (r+2)).toArray) #[(0,r+2,0)])).size<=1 from Qy 1),pure_bind]
 dsimp only
 rw [StateT.run_pure]
 refine QU ?_
 dsimp only
 rw [StateT.run_pure]
 exact QU (hQ _ rfl rfl)
theorem nJ {κ:SortKind} {P:PySem.Fin->Shared->Prop} (ho:s.heap.get? a=some (seqObj "list" vs.toArray n)) (IS:vs.length<=100000)
  (Ao:2<=vs.length->∀ h':Heap,(∀ b o,b≠a->s.heap.get? b=some o->h'.get? b=some o)->∀ Q:SortKind->Shared->Prop,Q κ {s with heap:=h'}->wpAny (model prog w) A (keyKind' vs.toArray) Q (fun _ _=>False) {s with heap:=h'})
  (IT:∀ h':Heap,(∀ b o,b≠a->s.heap.get? b=some o->h'.get? b=some o)->∀ k,1<=k->k < vs.length->∀ C:Bool->Shared->Prop,C false {s with heap:=h'}->wpAny (model prog w) A (keyLt' κ (vs.getD k Value.none) (vs.getD (k - 1) Value.none)) C (fun _ _=>False) {s with heap:=h'})
  (h:P (.done (.ret .none)) {s with heap:=sortedHeap s.heap a vs vs.toArray}):
  wpAny (model prog w) A (Builtin.«list.sort» ⟨[.ref a],[]⟩) P E s:=by
 rw [list_sort_plain]
 have ha:a < s.heap.objs.size:=Qz ho
 refine QT (listItems_at ho rfl ?_)
 refine QT (listUpdate_at ho rfl ?_)
 obtain ⟨e1,B4⟩:∃ e1,(s.heap.update a (Obj.mapSeq fun _=>#[])).get? a=some (seqObj "list" #[] e1):=⟨_,get?_update_seq ho (fun _=>#[])⟩
 refine QT (seqEpoch_at B4 rfl ?_)
 refine QT (wpAny_newTuple ?_)
 refine QT (wpAny_newList ?_)
 refine wpAny_holding ?_
 have Gr:(((s.heap.update a (Obj.mapSeq fun _=>#[])).push (seqObj "tuple" vs.toArray 0)).push (seqObj "list" #[] 0)).get? a=some (seqObj "list" #[] e1):=by
  rw [Heap.get?_push_ne _ _ _ (by rw [size_push',Heap.size_update];exact Nat.ne_of_lt (Nat.lt_succ_of_lt ha)),Heap.get?_push_ne _ _ _ (by rw [Heap.size_update];exact Nat.ne_of_lt ha)]
  exact B4
 have keep:∀ b o,b≠a->s.heap.get? b=some o->(((s.heap.update a (Obj.mapSeq fun _=>#[])).push (seqObj "tuple" vs.toArray 0)).push (seqObj "list" #[] 0)).get? b=some o:=fun b o hb e=>
  Qc _ (Qc _ ((Heap.get?_update_other _ _ (Ne.symm hb)).trans e))
 show wpAny (model prog w) A _ P E {s with heap:=((s.heap.update a (Obj.mapSeq fun _=>#[])).push (seqObj "tuple" vs.toArray 0)).push (seqObj "list" #[] 0)}
 dsimp only
 have hsz:vs.toArray.size=vs.length:=by simp
 by_cases h2:vs.toArray.size < 2
 ·rw [if_pos h2,if_pos h2]
  refine QT (QU ?_)
  rw [StateT.run_pure]
  refine QT (QU ?_)
  dsimp only
  refine QT (seqEpoch_at Gr rfl ?_)
  refine QT (listUpdate_at Gr rfl ?_ (hsz2:=by rw [Array.size_map];show (pairsOf vs).size<=_;rw [pairsOf_size,QL];omega))
  simp only [bne_self_eq_false,Bool.false_eq_true,if_false]
  refine QU ?_
  have ez:(vs.toArray.zip vs.toArray).map (·.2)=vs.toArray:=by
   apply Array.toList_inj.mp
   simp [Array.toList_zip,List.map_snd_zip]
  show P (.done (.ret .none)) {s with heap:=sortedHeap s.heap a vs ((vs.toArray.zip vs.toArray).map (·.2))}
  rw [ez]
  exact h
 ·rw [if_neg h2,if_neg h2]
  have rf:2<=vs.length:=by omega
  refine QT (wpAny_mono (Ao rf _ keep (fun κ' s'=>κ'=κ/\s'={s with heap:=((s.heap.update a (Obj.mapSeq fun _=>#[])).push (seqObj "tuple" vs.toArray 0)).push (seqObj "list" #[] 0)}) ⟨rfl,rfl⟩) (fun κ' s0 hk=>?_) fun _ _ x=>x.elim)
  obtain ⟨rfl,rfl⟩:=hk
  have B3:wpAny (model prog w) A (sortRuns'.run (SortSt.mk' κ' (vs.toArray.zip vs.toArray) #[] 7 none)) (fun r s'=>arrOf r.2=(List.toArray (List.range vs.length)).map (kas_item (vs.toArray.zip vs.toArray))/\failedOf r.2=none/\s'={s with heap:=((s.heap.update a (Obj.mapSeq fun _=>#[])).push (seqObj "tuple" vs.toArray 0)).push (seqObj "list" #[] 0)}) E {s with heap:=((s.heap.update a (Obj.mapSeq fun _=>#[])).push (seqObj "tuple" vs.toArray 0)).push (seqObj "list" #[] 0)}:=by
   have uz:SortSt.mk' κ' (vs.toArray.zip vs.toArray) #[] 7 none=kas_st κ' (vs.toArray.zip vs.toArray) (List.range vs.length).toArray:=by
    unfold kas_st
    have:=kas_range (vs.toArray.zip vs.toArray)
    rw [show (vs.toArray.zip vs.toArray).size=vs.length by simp] at this
    rw [this]
   rw [uz]
   refine Xc (Q:=fun _ st' s'=>arrOf st'=(List.toArray (List.range vs.length)).map (kas_item (vs.toArray.zip vs.toArray))/\failedOf st'=none/\s'={s with heap:=((s.heap.update a (Obj.mapSeq fun _=>#[])).push (seqObj "tuple" vs.toArray 0)).push (seqObj "list" #[] 0)}) rf (fun k k1 k2 C hC=>?_) fun st' h1 h2=>⟨h1,h2,rfl⟩
   rw [<- kat_ask_eq (ks:=vs) (vs:=vs) rfl]
   exact IT _ keep k k1 k2 C hC
  refine QT (wpAny_mono B3 ?_ fun _ _ e=>e)
  rintro ⟨⟨⟩,st'⟩ s' ⟨Xf,hf,rfl⟩
  dsimp only
  have M0:(arrOf st').map (·.2)=vs.toArray:=by
   rw [kat_snds rfl Xf]
   congr 1
   refine List.ext_getElem (by simp) fun i h1 h2=>?_
   simp [Qb,Qa h2]
  refine QT (seqEpoch_at Gr rfl ?_)
  refine QT (listUpdate_at Gr rfl ?_ (hsz2:=by rw [M0,hsz,QL];omega))
  rw [hf,M0]
  simp only [bne_self_eq_false,Bool.false_eq_true,if_false]
  exact QU h
theorem uT {κ:SortKind} (hl:s.heap.IsList l vs.toArray) (IS:vs.length<=100000)
  (Ao:2<=vs.length->∀ h':Heap,(∀ b o,s.heap.get? b=some o->h'.get? b=some o)->∀ Q:SortKind->Shared->Prop,Q κ {s with heap:=h'}->wpAny (model prog w) A.in1.in1 (keyKind' vs.toArray) Q (fun _ _=>False) {s with heap:=h'})
  (IT:∀ h':Heap,(∀ b o,s.heap.get? b=some o->h'.get? b=some o)->∀ k,1<=k->k < vs.length->∀ C:Bool->Shared->Prop,C false {s with heap:=h'}->wpAny (model prog w) A.in1.in1 (keyLt' κ (vs.getD k Value.none) (vs.getD (k - 1) Value.none)) C (fun _ _=>False) {s with heap:=h'})
  (h:Q (.ref (s.heap.objs.size+1)) {s with heap:=sortedAll s.heap vs vs.toArray}):
  wpAny (model prog w) A (call (.builtin "sorted") [.ref l]) Q E s:=by
 refine Calls.call_function_entry kind_sorted plain_sorted entry_sorted (args_sorted1 _) ?_
 unfold Builtin.«sorted»
 refine QT (m:=checkCount "sorted" 1 1 _) (QU ?_)
 refine QT (collect_list hl ?_)
 refine QT (wpAny_newList ?_)
 have hsz:((s.heap.push (seqObj "list" #[] 0)).update s.heap.objs.size (Obj.mapSeq (· ++vs.toArray))).objs.size=s.heap.objs.size+1:=by
  rw [Heap.size_update,size_push']
 have Fk:(((s.heap.push (seqObj "list" #[] 0)).update s.heap.objs.size (Obj.mapSeq (· ++vs.toArray))).push (seqObj "list" vs.toArray 0)).get? (s.heap.objs.size+1)=some (seqObj "list" vs.toArray 0):=by
  rw [<- hsz];exact Qd _ rfl
 have keep:∀ b o,s.heap.get? b=some o->b≠s.heap.objs.size+1/\(((s.heap.push (seqObj "list" #[] 0)).update s.heap.objs.size (Obj.mapSeq (· ++vs.toArray))).push (seqObj "list" vs.toArray 0)).get? b=some o:=fun b o q=>by
  have ay:b < s.heap.objs.size:=Qz q
  refine ⟨Nat.ne_of_lt (Nat.lt_succ_of_lt ay),?_⟩
  rw [Heap.get?_push_ne _ _ _ (by rw [hsz];exact Nat.ne_of_lt (Nat.lt_succ_of_lt ay)),Heap.get?_update_ne _ _ _ _ (Nat.ne_of_lt ay),Heap.get?_push_ne _ _ _ (Nat.ne_of_lt ay)]
  exact q
 show wpAny _ _ _ _ _ {s with heap:=((s.heap.push (seqObj "list" #[] 0)).update s.heap.objs.size (Obj.mapSeq (· ++vs.toArray))).push (seqObj "list" vs.toArray 0)}
 rw [hsz]
 refine QT (wpAny_holding (wpAny_call_entry slot_list_sort ⟨_,Fk,rfl⟩ entry_list_sort (nJ (κ:=κ) Fk IS (fun h2 h' hk Q hq=>?_) (fun h' hk k k1 k2 C hC=>?_) ⟨_,rfl,?_⟩) (args_list_sort _)))
 ·exact Ao h2 h' (fun b o e=>hk b o (keep b o e).1 (keep b o e).2) Q hq
 ·exact IT h' (fun b o e=>hk b o (keep b o e).1 (keep b o e).2) k k1 k2 C hC
 ·exact QU ⟨_,rfl,h⟩
abbrev Xg:=List (List Str)
structure FG (H:Hp) (us:List V) (F:List Xg):Prop where
 len:us.length=F.length
 at_:∀ i (h:i < us.length) (h':i < F.length),∃ c b ys rest,us[i]=.ref c/\H c=some (.tup (.ref b::rest))/\H b=some (.tup ys)/\SV H ys F[i]
def Xh:List V->Hp->VK->Prop:=fun xs H Q=>∃ l us F,xs=[.ref l]/\H l=some (.lst us)/\us.length<=100000/\FG H us F/\(∀ i (h:i+1 < F.length),CZ F[i] F[i+1])/\∀ L,H L=none->Q (.ref L) (upd H L (.lst us))
theorem pI (hu:X.A.units+20 < cLine):jp X (.builtin "sorted") Xh:=by
 intro pins s σ H xs qb Q I r h
 obtain ⟨l,us,F,rfl,hl,IS,fl,dj,q⟩:=h
 obtain ⟨u,rfl,ru⟩:=r.one
 cases ru
 obtain ⟨its,rv,pl,hz⟩:=I.list (aj.of hl)
 have fc:=rv.length
 have aa0:=fl.len
 have pair:∀ i (h1:i < its.length) (h2:i < F.length),∃ c b ys o n rr,its[i]=.ref c/\s.heap.get? c=some o/\o.cls=.type "tuple"/\o.data=.seq (Value.ref b::rr).toArray n/\H b=some (.tup ys)/\SV H ys F[i]:=fun i h1 h2=>by
  obtain ⟨c,b,ys,rest,e1,e2,e3,e4⟩:=fl.at_ i (by omega) h2
  obtain ⟨w1,f1,q1⟩:=rv.get (Qa (show i < us.length by omega))
  rw [e1] at q1
  cases q1
  rw [Qa h1] at f1
  obtain ⟨i2,r2,p2,_⟩:=I.tuple (af.of e2)
  cases r2 with
  | cons ra rb=>
   cases ra
   obtain ⟨o,g1,g2,n,g3⟩:=p2
   exact ⟨c,b,ys,o,n,_,QD f1,g1,g2,g3,e3,e4⟩
 refine uT (κ:=tuples' false) pl.isList (by omega) (fun h2 h' hk Q' hq=>?_) (fun h' hk k k1 k2 C hC=>?_) ?_
 ·have I':Inv X pins σ H {s with heap:=h'}:=I.kept (t':=s.toks) hk
  obtain ⟨fs,IU⟩:=o5 (R:=fun v f=>(∃ a o xs n,v=Value.ref a/\h'.get? a=some o/\o.cls=Value.type "tuple"/\o.data=.seq xs n/\xs[0]? =some f)/\∃ b ys,f=Value.ref b/\H b=some (.tup ys)) its fun v hv=>by
   obtain ⟨i,hi,rfl⟩:=Qi hv
   obtain ⟨c,b,ys,o,n,rr,g0,g1,g2,g3,g4,g5⟩:=pair i hi (by omega)
   exact ⟨.ref b,⟨c,o,_,n,g0,hk _ _ g1,g2,g3,by simp⟩,b,ys,rfl,g4⟩
  have hfl:=Paired.length IU
  refine kat_kind (s:={s with heap:=h'}) (T:=.type "tuple") (tW (uC (fun _ _ h=>h.1) IU)) (by omega) (fun v hv=>?_) (by decide) hq
  obtain ⟨b,ys,rfl,hb⟩:=qK (P:=fun f=>∃ b ys,f=Value.ref b/\H b=some (.tup ys)) (fun _ _ h=>h.2) IU v hv
  obtain ⟨i2,r2,⟨o,g1,g2,_⟩,_⟩:=I'.tuple (af.of hb)
  exact fun A' Q'' E' s' k' q'=>wpAny_typeOf ⟨o,k' _ _ g1,g2⟩ q'
 ·have I':Inv X pins σ H {s with heap:=h'}:=I.kept (t':=s.toks) hk
  obtain ⟨c,b,ys,o,n,rr,g0,g1,g2,g3,g4,g5⟩:=pair k (by omega) (by omega)
  obtain ⟨c',b',HW,o',n',Xi,Xj,EF,M3,Xk,M4,M5⟩:=pair (k - 1) (by omega) (by omega)
  have ek:its.getD k Value.none=.ref c:=by rw [Qb,Qa k2,g0];rfl
  have Xl:its.getD (k - 1) Value.none=.ref c':=by rw [Qb,Qa (by omega),Xj];rfl
  rw [ek,Xl]
  have hr:CZ (F[k - 1]'(by omega)) (F[k]'(by omega)):=by
   have:=dj (k - 1) (by omega)
   have e:k - 1+1=k:=by omega
   simp only [e] at this
   exact this
  refine kat_lt (s:={s with heap:=h'}) (hk _ _ g1) g3 (hk _ _ EF) Xk ?_
  have M6:X.A.in1.in1.units+4 < cLine:=by rw [Around.in1_units,Around.in1_units];omega
  show KatLex _ _ _ _ _ _ ((Value.ref b,Value.ref b')::rr.zip Xi) 0 _
  refine kat_cons (WG I' M4 g4 M5 g5 hr M6 _ _ _ _ (kat_no (kat_one _ _ ?_)))
  exact yU I' M4 g4 M5 g5 hr M6 _ _ _ _ hC
 ·obtain ⟨e,he⟩:=sortedAll_at s.heap its its.toArray
  have hf:H (s.heap.objs.size+1)=none:=I.hok.fresh (Nat.le_succ _)
  refine ⟨.ref (s.heap.objs.size+1),_,I.laid (t':=s.toks) (a:=s.heap.objs.size+1) (o:=.lst us) (fun b o eo=>sortedAll_old eo) (Nat.le_succ _) ?_,rfl,q _ hf⟩
  exact ⟨by omega,its,e,rv,he⟩
end L2
namespace L2
open PySem PySem.Spec PyProof.Rows
inductive Tv where
 | s (z:Str)
 | i (n:Int)
 | t (l:List Tv)
def TD (H:Hp):Nat->V->Tv->Prop
 | _,.str z,.s z'=>z=z'
 | _,.int k,.i j=>k=j
 | n+1,.ref a,.t ds=>∃ xs,au H a xs/\xs.length=ds.length/\∀ j (h:j < xs.length) (h':j < ds.length),TD H n xs[j] ds[j]
 | _,_,_=>False
structure mj (H:Hp) (n:Nat) (xs:List V) (ds:List Tv):Prop where
 len:xs.length=ds.length
 at_:∀ j (h:j < xs.length) (h':j < ds.length),TD H n xs[j] ds[j]
theorem TD.str {n:Nat} {z:Str}:TD H n (.str z) (.s z):=by cases n<;>rfl
theorem TD.int {n:Nat} {z:Int}:TD H n (.int z) (.i z):=by cases n<;>rfl
theorem TD.tup {n:Nat} {a:Addr} {xs:List V} {ds:List Tv} (h:au H a xs) (t:mj H n xs ds):TD H (n+1) (.ref a) (.t ds):=⟨xs,h,t.len,t.at_⟩
theorem mj.nil:mj H n [] []:=⟨rfl,fun i h=>absurd h (by simp)⟩
theorem mj.cons {n:Nat} {x:V} {d:Tv} {xs:List V} {ds:List Tv} (h:TD H n x d) (t:mj H n xs ds):mj H n (x::xs) (d::ds):=⟨by simp [t.len],fun i h1 h2=>by
 cases i with
 | zero=>exact h
 | succ i=>exact t.at_ i (by simpa using h1) (by simpa using h2)⟩
theorem TD.yt {d:Tv} (h:TD H n (.ref a) d):∃ m ds xs,n=m+1/\d=.t ds/\au H a xs/\mj H m xs ds:=by
 cases n with
 | zero=>cases d<;>exact h.elim
 | succ n=>
  cases d with
  | t ds=>obtain ⟨xs,h1,h2,h3⟩:=h;exact ⟨n,ds,xs,rfl,rfl,h1,h2,h3⟩
  | _=>exact h.elim
theorem TD.Aq {d:Tv} (h:TD H n (.str z) d):d=.s z:=by
 cases n<;>(cases d with
  | s z'=>exact congrArg Tv.s (show z=z' from h).symm
  | _=>exact h.elim)
theorem TD.Ar {z:Int} {d:Tv} (h:TD H n (.int z) d):d=.i z:=by
 cases n<;>(cases d with
  | i z'=>exact congrArg Tv.i (show z=z' from h).symm
  | _=>exact h.elim)
theorem TD.v {n:Nat} {v:V} {d:Tv} (h:TD H n v d):(∃ z,v=.str z)\/(∃ z,v=.int z)\/∃ a,v=.ref a:=by
 cases n<;>(cases v<;>first | exact .inl ⟨_,rfl⟩ | exact .inr (.inl ⟨_,rfl⟩) | exact .inr (.inr ⟨_,rfl⟩) | (cases d<;>exact h.elim))
theorem TD.det:∀ {n m:Nat} {v:V} {d e:Tv},TD H n v d->TD H m v e->d=e
 | 0,m,v,d,e,h,h'=>by
  rcases h.v with ⟨z,rfl⟩ | ⟨z,rfl⟩ | ⟨a,rfl⟩
  ·rw [h.Aq,h'.Aq]
  ·rw [h.Ar,h'.Ar]
  ·obtain ⟨_,_,_,z,_⟩:=h.yt;cases z
 | n+1,m,v,d,e,h,h'=>by
  rcases h.v with ⟨z,rfl⟩ | ⟨z,rfl⟩ | ⟨a,rfl⟩
  ·rw [h.Aq,h'.Aq]
  ·rw [h.Ar,h'.Ar]
  ·obtain ⟨m1,ds,xs,e1,rfl,r1,t1⟩:=h.yt
   obtain ⟨m2,es,ys,e2,rfl,r2,t2⟩:=h'.yt
   cases e1
   have:=r1.inj r2
   subst this
   have l1:=t1.len
   have l2:=t2.len
   congr 1
   refine List.ext_getElem (by omega) fun i h1 h2=>?_
   exact TD.det (t1.at_ i (by omega) h1) (t2.at_ i (by omega) h2)
theorem lP {ds es:List Tv} {e:Nat->Bool} (hl:ds.length=es.length) (h:∀ j (h1:j < ds.length) (h2:j < es.length),e j=true↔ds[j]=es[j]):(List.range ds.length).all e=true↔ds=es:=by
 rw [QF]
 constructor
 ·intro ha
  exact List.ext_getElem hl fun i h1 h2=>(h i h1 h2).mp (ha i (List.mem_range.mpr h1))
 ·rintro rfl j hj
  have:=List.mem_range.mp hj
  exact (h j this this).mpr rfl
theorem TD.Xm (I:Inv X pins σ H s):∀ {n:Nat} {m:Nat} {x y:V} {d e:Tv},TD H n x d->TD H m y e->∃ bo:Bool,(bo=true↔d=e)/\∀ (A:Around) (u v:Value),A.units+n < cLine->RelV x u->RelV y v->SeqAt.EqAt A s u v bo:=by
 intro n
 induction n with
 | zero=>
  intro m x y d e h h'
  rcases h.v with ⟨z,rfl⟩ | ⟨z,rfl⟩ | ⟨a,rfl⟩
  ·obtain rfl:=h.Aq
   rcases h'.v with ⟨z',rfl⟩ | ⟨z',rfl⟩ | ⟨b,rfl⟩
   ·obtain rfl:=h'.Aq
    exact ⟨z==z',by simp,fun A u v hu ru rv=>by obtain ⟨t,rfl⟩:=ru;obtain ⟨t',rfl⟩:=rv;exact SeqAt.EqAt.str_str z t z' t'⟩
   ·obtain rfl:=h'.Ar
    exact ⟨false,by simp,fun A u v hu ru rv=>by obtain ⟨t,rfl⟩:=ru;obtain ⟨t',rfl⟩:=rv;exact SeqAt.EqAt.str_int z t z' t'⟩
   ·obtain ⟨_,ds,xs,rfl,rfl,r1,_⟩:=h'.yt
    refine ⟨false,by simp,fun A u v hu ru rv=>?_⟩
    obtain ⟨t,rfl⟩:=ru
    cases rv
    obtain ⟨i1,_,p1,_⟩:=I.tuple (af.p_ r1)
    exact SeqAt.EqAt.str_tuple z t p1 (by omega)
  ·obtain rfl:=h.Ar
   rcases h'.v with ⟨z',rfl⟩ | ⟨z',rfl⟩ | ⟨b,rfl⟩
   ·obtain rfl:=h'.Aq
    exact ⟨false,by simp,fun A u v hu ru rv=>by obtain ⟨t,rfl⟩:=ru;obtain ⟨t',rfl⟩:=rv;exact SeqAt.EqAt.int_str z t z' t'⟩
   ·obtain rfl:=h'.Ar
    exact ⟨z==z',by simp,fun A u v hu ru rv=>by obtain ⟨t,rfl⟩:=ru;obtain ⟨t',rfl⟩:=rv;exact SeqAt.EqAt.int_int z t z' t'⟩
   ·obtain ⟨_,ds,xs,rfl,rfl,r1,_⟩:=h'.yt
    refine ⟨false,by simp,fun A u v hu ru rv=>?_⟩
    obtain ⟨t,rfl⟩:=ru
    cases rv
    obtain ⟨i1,_,p1,_⟩:=I.tuple (af.p_ r1)
    exact SeqAt.EqAt.int_tuple z t p1 (by omega)
  ·obtain ⟨_,_,_,z,_⟩:=h.yt;cases z
 | succ n ih=>
  intro m x y d e h h'
  rcases h.v with ⟨z,rfl⟩ | ⟨z,rfl⟩ | ⟨a,rfl⟩
  ·obtain ⟨bo,h1,h2⟩:=ih (m:=m) (TD.str (n:=n) (z:=z)) h'
   rw [h.Aq]
   exact ⟨bo,h1,fun A u v hu=>h2 A u v (by omega)⟩
  ·obtain ⟨bo,h1,h2⟩:=ih (m:=m) (TD.int (n:=n) (z:=z)) h'
   rw [h.Ar]
   exact ⟨bo,h1,fun A u v hu=>h2 A u v (by omega)⟩
  ·obtain ⟨n',ds,xs,e1,rfl,r1,t1⟩:=h.yt
   cases e1
   rcases h'.v with ⟨z',rfl⟩ | ⟨z',rfl⟩ | ⟨b,rfl⟩
   ·obtain rfl:=h'.Aq
    refine ⟨false,by simp,fun A u v hu ru rv=>?_⟩
    obtain ⟨t,rfl⟩:=rv
    cases ru
    obtain ⟨i1,_,p1,_⟩:=I.tuple (af.p_ r1)
    exact SeqAt.EqAt.tuple_str z' t p1 (by omega)
   ·obtain rfl:=h'.Ar
    refine ⟨false,by simp,fun A u v hu ru rv=>?_⟩
    obtain ⟨t,rfl⟩:=rv
    cases ru
    obtain ⟨i1,_,p1,_⟩:=I.tuple (af.p_ r1)
    exact SeqAt.EqAt.tuple_int z' t p1 (by omega)
   ·obtain ⟨m',es,ys,rfl,rfl,r2,t2⟩:=h'.yt
    by_cases lj:a=b
    ·subst lj
     refine ⟨true,⟨fun _=>TD.det h h',fun _=>rfl⟩,fun A u v hu ru rv=>?_⟩
     cases ru
     cases rv
     exact SeqAt.EqAt.same _
    ·obtain ⟨i1,v1,p1,_⟩:=I.tuple (af.p_ r1)
     obtain ⟨i2,v2,p2,_⟩:=I.tuple (af.p_ r2)
     have l1:=v1.length
     have l2:=v2.length
     have k1:=t1.len
     have k2:=t2.len
     have hc:∀ j:Nat,∃ bo:Bool,∀ (h1:j < ds.length) (h2:j < es.length),(bo=true↔ds[j]=es[j])/\∀ (A:Around) (u v:Value),A.units+n < cLine->RelV (xs[j]'(by omega)) u->RelV (ys[j]'(by omega)) v->SeqAt.EqAt A s u v bo:=fun j=>by
      by_cases hj:j < ds.length/\j < es.length
      ·obtain ⟨bo,q1,q2⟩:=ih (t1.at_ j (by omega) hj.1) (t2.at_ j (by omega) hj.2)
       exact ⟨bo,fun _ _=>⟨q1,q2⟩⟩
      ·exact ⟨false,fun h1 h2=>absurd ⟨h1,h2⟩ hj⟩
     obtain ⟨ev,ur⟩:=Classical.axiomOfChoice hc
     refine ⟨(List.range (min i1.toArray.size i2.toArray.size)).all ev&&i1.toArray.size==i2.toArray.size,?_,fun A u v hu ru rv=>?_⟩
     ·have s1:i1.toArray.size=ds.length:=by simp;omega
      have s2:i2.toArray.size=es.length:=by simp;omega
      rw [s1,s2,Bool.and_eq_true]
      constructor
      ·rintro ⟨q1,q2⟩
       have hl:ds.length=es.length:=by simpa using q2
       rw [<- hl,Nat.min_self] at q1
       exact congrArg Tv.t ((lP hl fun j h1 h2=>(ur j h1 h2).1).mp q1)
      ·intro q
       have hq:ds=es:=by injection q
       have hl:ds.length=es.length:=by rw [hq]
       refine ⟨?_,by simp [hl]⟩
       rw [<- hl,Nat.min_self]
       exact (lP hl fun j h1 h2=>(ur j h1 h2).1).mpr hq
     ·cases ru
      cases rv
      refine SeqAt.EqAt.of_refs lj (SeqAt.RcAt.tuples (A:=A) (e:=ev) p1 p2 (by omega) fun j g1 g2=>?_)
      have j1:j < ds.length:=by simp at g1;omega
      have j2:j < es.length:=by simp at g2;omega
      obtain ⟨w1,f1,q1⟩:=v1.get (Qa (show j < xs.length by omega))
      obtain ⟨w2,f2,q2⟩:=v2.get (Qa (show j < ys.length by omega))
      have n1:i1.toArray[j]=w1:=by rw [Qa (by simpa using g1)] at f1;simpa using f1
      have n2:i2.toArray[j]=w2:=by rw [Qa (by simpa using g2)] at f2;simpa using f2
      rw [n1,n2]
      exact (ur j j1 j2).2 A.in1 w1 w2 (by rw [Around.in1_units];omega) q1 q2
theorem mj.Xn (I:Inv X pins σ H s) {m:Nat} {xs ys:List V} {ds es:List Tv} (t1:mj H n xs ds) (t2:mj H m ys es):∃ ev:Nat->Bool,(∀ j (h1:j < ds.length) (h2:j < es.length),ev j=true↔ds[j]=es[j])/\∀ (i1 i2:List Value),bg xs i1->bg ys i2->∀ (A:Around),A.units+n+1 < cLine->∀ (j:Nat) (h1:j < i1.toArray.size) (h2:j < i2.toArray.size),SeqAt.EqAt A.in1 s i1.toArray[j] i2.toArray[j] (ev j):=by
 have k1:=t1.len
 have k2:=t2.len
 have hc:∀ j:Nat,∃ bo:Bool,∀ (h1:j < ds.length) (h2:j < es.length),(bo=true↔ds[j]=es[j])/\∀ (A:Around) (u v:Value),A.units+n < cLine->RelV (xs[j]'(by omega)) u->RelV (ys[j]'(by omega)) v->SeqAt.EqAt A s u v bo:=fun j=>by
  by_cases hj:j < ds.length/\j < es.length
  ·obtain ⟨bo,q1,q2⟩:=TD.Xm I (t1.at_ j (by omega) hj.1) (t2.at_ j (by omega) hj.2)
   exact ⟨bo,fun _ _=>⟨q1,q2⟩⟩
  ·exact ⟨false,fun h1 h2=>absurd ⟨h1,h2⟩ hj⟩
 obtain ⟨ev,ur⟩:=Classical.axiomOfChoice hc
 refine ⟨ev,fun j h1 h2=>(ur j h1 h2).1,fun i1 i2 v1 v2 A hu j g1 g2=>?_⟩
 have l1:=v1.length
 have l2:=v2.length
 have j1:j < ds.length:=by simp at g1;omega
 have j2:j < es.length:=by simp at g2;omega
 obtain ⟨w1,f1,q1⟩:=v1.get (Qa (show j < xs.length by omega))
 obtain ⟨w2,f2,q2⟩:=v2.get (Qa (show j < ys.length by omega))
 have n1:i1.toArray[j]=w1:=by rw [Qa (by simpa using g1)] at f1;simpa using f1
 have n2:i2.toArray[j]=w2:=by rw [Qa (by simpa using g2)] at f2;simpa using f2
 rw [n1,n2]
 exact (ur j j1 j2).2 A.in1 w1 w2 (by rw [Around.in1_units];omega) q1 q2
def Xo (ng:Bool):R2:=fun x y H Q=>∃ n m d e a b,n<=60/\x=.ref a/\y=.ref b/\TD H n x d/\TD H m y e/\∀ bo:Bool,(bo=true↔d=e)->Q (.bl (ng^^bo)) H
theorem Xp {ds es:List Tv} {s1 s2:Nat} {ev:Nat->Bool} (h1:s1=ds.length) (h2:s2=es.length) (ur:∀ j (h1:j < ds.length) (h2:j < es.length),ev j=true↔ds[j]=es[j]):((List.range (min s1 s2)).all ev&&s1==s2)=true↔Tv.t ds=.t es:=by
 subst h1 h2
 rw [Bool.and_eq_true]
 constructor
 ·rintro ⟨q1,q2⟩
  have hl:ds.length=es.length:=by simpa using q2
  rw [<- hl,Nat.min_self] at q1
  exact congrArg Tv.t ((lP hl ur).mp q1)
 ·intro q
  have hq:ds=es:=by injection q
  have hl:ds.length=es.length:=by rw [hq]
  refine ⟨?_,by simp [hl]⟩
  rw [<- hl,Nat.min_self]
  exact (lP hl ur).mpr hq
theorem Xq (hu:X.A.units+100 < cLine):cu X (compareOp .NotEq) (Xo true):=by
 intro pins s σ H x y v u Q I rx ry h
 obtain ⟨n,m,d,e,a,b,hn,rfl,rfl,h1,h2,q⟩:=h
 cases rx
 cases ry
 obtain ⟨n',ds,xs,rfl,rfl,r1,t1⟩:=h1.yt
 obtain ⟨m',es,ys,rfl,rfl,r2,t2⟩:=h2.yt
 obtain ⟨i1,v1,p1,_⟩:=I.tuple (af.p_ r1)
 obtain ⟨i2,v2,p2,_⟩:=I.tuple (af.p_ r2)
 have l1:=v1.length
 have l2:=v2.length
 have k1:=t1.len
 have k2:=t2.len
 obtain ⟨ev,e1,e2⟩:=mj.Xn I t1 t2
 refine SeqAt.RcNeAt.tuples (A:=X.A) (e:=ev) p1 p2 (by omega) (e2 i1 i2 v1 v2 X.A (by omega)) _ _ _ _ ?_
 refine ⟨.bl _,H,I,rfl,?_⟩
 have:=q _ (Xp (s1:=i1.toArray.size) (s2:=i2.toArray.size) (by simp;omega) (by simp;omega) e1)
 rw [Bool.true_xor] at this
 exact this
end L2
namespace L2
open PySem PySem.Spec PyProof.Rows HT
end L2
namespace L2
open PySem PySem.Spec PyProof.Rows
open AutoSeq1 (wpAny_loadPart')
def Dt.Xr (z:Str):Dt->Bool
 | .tup [.str y]=>y==z
 | _=>false
def EG (h:Dt):Dt:=if h.Xr "hole" then .tup [.str "all"] else h
def Gs:Dt->Dt | .tup [a,h]=>.tup [a,EG h] | d=>d
theorem DD.IV {x y:V} {dx dy:Dt} (e:H b=some (.tup [x,y])) (h1:DD H x dx) (h2:DD H y dy):DD H (.ref b) (.tup [dx,dy]):=.tup e rfl (by simp) fun i a b=>by
 match i,a with
 | 0,_=>exact h1
 | 1,_=>exact h2
theorem DD.IW {x:V} {dx:Dt} (e:H b=some (.tup [x])) (h1:DD H x dx):DD H (.ref b) (.tup [dx]):=.tup e rfl (by simp) fun i a b=>by
 match i,a with
 | 0,_=>exact h1
def EH (H3 H4:Hp) (ws:List V) (ds:List Dt):Prop:=∀ j (h:j < ws.length) (h':j < ds.length),∃ c x1 hv dx dy,ws[j]=.ref c/\H4 c=some (.tup [x1,hv])/\ds[j]=.tup [dx,dy]/\DD H3 x1 dx/\(DD H3 hv (EG dy)\/∃ b,hv=.ref b/\H4 b=some (.tup [.str "all"])/\EG dy=.tup [.str "all"])
theorem EH.add {H3 H4 H6:Hp} {ws:List V} {c:Addr} {x1 hv:V} {dx dy:Dt} (f:EH H3 H4 ws ds) (tk:Tk H4 H6) (hl:ws.length < ds.length) (e:H6 c=some (.tup [x1,hv])) (ed:ds[ws.length]=.tup [dx,dy]) (h1:DD H3 x1 dx) (h2:DD H3 hv (EG dy)\/∃ b,hv=.ref b/\H6 b=some (.tup [.str "all"])/\EG dy=.tup [.str "all"]):EH H3 H6 (ws++[.ref c]) ds:=fun j h h'=>by
 by_cases hj:j < ws.length
 ·obtain ⟨c',x',DH,As,Xs,q1,q2,q3,q4,q5⟩:=f j hj h'
  refine ⟨c',x',DH,As,Xs,by rw [Qe hj];exact q1,tk _ _ q2,q3,q4,q5.imp id fun ⟨b,r1,r2,r3⟩=>⟨b,r1,tk _ _ r2,r3⟩⟩
 ·have:j=ws.length:=by simp at h;omega
  subst this
  exact ⟨c,x1,hv,dx,dy,by simp,e,ed,h1,h2⟩
theorem EH.dd {H3 H4:Hp} {ws:List V} (f:EH H3 H4 ws ds) (s:aa H3 H4) (j:Nat) (h:j < ws.length) (h':j < ds.length):DD H4 ws[j] (Gs ds[j]):=by
 obtain ⟨c,x1,hv,dx,dy,q1,q2,q3,q4,q5⟩:=f j h h'
 rw [q1,q3]
 refine DD.IV q2 (q4.same s) ?_
 rcases q5 with q5 | ⟨b,rfl,q6,q7⟩
 ·exact q5.same s
 ·rw [q7];exact DD.IW q6 (.str (by decide))
def Gu (H H':Hp) (v:V) (d:Dt):Prop:=DD H v (Gs d)\/∃ c x1 b dx,v=.ref c/\H' c=some (.tup [x1,.ref b])/\H' b=some (.tup [.str "all"])/\DD H x1 dx/\Gs d=.tup [dx,.tup [.str "all"]]
theorem Gu.dd {v:V} (h:Gu H H' v d) (s:aa H H'):DD H' v (Gs d):=by
 rcases h with h | ⟨c,x1,b,dx,rfl,h2,h3,h4,h5⟩
 ·exact h.same s
 ·rw [h5];exact DD.IV h2 (h4.same s) (DD.IW h3 (.str (by decide)))
def IX (H H':Hp) (ws:List V) (ds:List Dt):Prop:=∀ j (h:j < ws.length) (h':j < ds.length),Gu H H' ws[j] ds[j]
theorem IX.add {ws:List V} {v:V} (f:IX H H' ws ds) (hl:ws.length < ds.length) (h:Gu H H' v ds[ws.length]):IX H H' (ws++[v]) ds:=fun j a b=>by
 by_cases hj:j < ws.length
 ·rw [Qe hj];exact f j hj b
 ·have:j=ws.length:=by simp at a;omega
  subst this
  simpa using h
def Hd.A3:Hd->Bool | .one s=>s=="hole" | _=>false
def Hd.Xu:Hd->Bool | .way _ _=>true | _=>false
def Hd.Gv (h:Hd):Hd:=if h.A3 then .one "all" else h
def M7 (r:aq):aq:=(r.1,r.2.Gv)
structure TH (H:Hp) (a:Addr) (xs:List V) (rows:List aq) (ns ws:List Str):Prop where
 at_:H a=some (.tup xs)
 rv:RV H xs rows
 nm:(rows.map (·.1)).Perm ns
 nd:ns.Nodup
 ok:LY ns (rows.map M7)
 wd:∀ n∈ns,Wd n
 ah:∀ r∈rows,Af ns r.1 r.2.nx
 ww:∀ r∈rows,∀ z∈r.2.AW,z∈ws
 pos:1<=ns.length
 few:ns.length<=10
 nw:∀ r∈rows,r.2.Xu=false
 hl:rows.countP (fun r=>r.2.A3)<=6
section
variable {xs:List V} {rows:List aq}
theorem TH.rl (h:TH H a xs rows ns ws):rows.length=ns.length:=by have:=h.nm.length_eq;simpa using this
theorem HV.ow {v:V} {h:Hd} (q:HV H v h) (ok:h.Gv.ok ns):DD H v h.dt:=by
 cases e:h.A3 with
 | false=>
  have:h.Gv=h:=by unfold Hd.Gv;rw [e];rfl
  rw [this] at ok
  exact (q.tx ok).dd
 | true=>
  cases q with
  | @one b s e1=>
   have:s="hole":=eq_of_beq e
   subst this
   exact DD.IW e1 (.str (by decide))
  | _=>cases e
theorem TH.dd (h:TH H a xs rows ns ws):DD H (.ref a) (.tup (rows.map Vk)):=by
 have Ag:=h.rl
 have few:=h.few
 have hl:=h.rv.len
 refine .tup h.at_ (by simp [hl]) (by omega) fun i h1 h2=>?_
 have h3:i < rows.length:=by simpa using h2
 obtain ⟨b,v,q1,q2,q3⟩:=h.rv.at_ i h1 h3
 obtain ⟨m1,m2⟩:=h.ok (M7 rows[i]) (List.mem_map.mpr ⟨_,Qj h3,rfl⟩)
 have Xv:isName rows[i].1=true:=m1
 rw [q1]
 simp only [Qr]
 exact DD.IV q2 (.str (by have:=fE Xv;omega)) (q3.ow m2)
end
end L2
namespace L2
open PySem PySem.Spec PyProof.Rows
open AutoSeq1 (wpAny_loadPart')
section
variable {o:Obj} {es:Array DictEntry} {ep:Nat} {items2:Array Value}
end
mutual
def Dt.oc:Dt->Nat
 | .str _=>0
 | .lq=>1
 | .tup ds=>M8 ds
def M8:List Dt->Nat
 | []=>0
 | d::r=>d.oc+M8 r
end
mutual
def Dt.dep:Dt->Nat
 | .str _=>0
 | .lq=>0
 | .tup ds=>M9 ds+1
def M9:List Dt->Nat
 | []=>0
 | d::r=>max d.dep (M9 r)
end
end L2
namespace L2
open PySem PySem.Spec PyProof.Rows
mutual
def Dt.cn:Dt->Nat
 | .str _=>1
 | .lq=>1
 | .tup ds=>M_ ds+1
def M_:List Dt->Nat
 | []=>0
 | d::r=>d.cn+M_ r
end
structure DX (P:Addr->Prop) (H:Hp) (m:Bool) (v:V) (d:Dt) (k c:Nat):Prop where
 ex:∃ p,DA P H m v p d/\p.depth<=k/\p.shown.length+2<=220*c/\p.showable=true/\d.cn<=c/\d.dep<=k
section
variable {P:Addr->Prop} {m:Bool} {v:V} {k k' c c':Nat}
theorem DX.dd (h:DX P H m v d k c):DD H v d:=let ⟨p,h1,_⟩:=h.ex;h1.dd
theorem DX.cn (h:DX P H m v d k c):d.cn<=c:=let ⟨p,_,_,_,_,h,_⟩:=h.ex;h
theorem DX.dep (h:DX P H m v d k c):d.dep<=k:=let ⟨p,_,_,_,_,_,h⟩:=h.ex;h
theorem DX.ai:DX P H m .ai .lq k 1:=⟨.none,.ai,by simp [PyData.depth],by simp only [PyData.shown];decide,by simp [PyData.showable],by simp [Dt.cn],by simp [Dt.dep]⟩
end
structure PX (H:Hp) (v:V) (d:Dt) (k c:Nat):Prop where
 ex:∃ p,TX H v d/\Ac H v p/\p.depth<=k/\p.shown.length+2<=220*c/\p.showable=true/\d.cn<=c/\d.dep<=k/\d.oc=0
section
variable {v:V} {k k' c c':Nat}
theorem PX.dd (h:PX H v d k c):DD H v d:=let ⟨_,h1,_⟩:=h.ex;h1.dd
theorem PX.cn (h:PX H v d k c):d.cn<=c:=let ⟨_,_,_,_,_,_,h,_⟩:=h.ex;h
theorem PX.dep (h:PX H v d k c):d.dep<=k:=let ⟨_,_,_,_,_,_,_,h,_⟩:=h.ex;h
inductive EI (H:Hp) (k:Nat):List V->List Dt->Nat->Prop
 | nil:EI H k [] [] 0
 | cons {v:V} {d:Dt} {c:Nat} {vs:List V} {ds:List Dt} {cs:Nat}:PX H v d k c->EI H k vs ds cs->EI H k (v::vs) (d::ds) (c+cs)
theorem EI.len {vs:List V} {cs:Nat} (h:EI H k vs ds cs):vs.length=ds.length:=by
 induction h with
 | nil=>rfl
 | cons _ _ ih=>simp [ih]
end
theorem zY {k:Nat} (hr:gk k A):A.units+100 < cLine:=by have:=hr.un;omega
section
variable {pos:Pos}
theorem Xw:SE X (.Dict [] [] pos) Lm:=⟨Tu⟩
end
def Xx:List V->Hp->VK->Prop:=fun xs H Q=>∃ a ys T,xs=[.ref a,.ty T]/\au H a ys/\T∈["bool","int","str","list","tuple","dict"]/\Q (.bl (BI "tuple" T)) H
theorem xM:jp X (.builtin "isinstance") Xx:=by
 intro pins s σ H xs us Q I r h
 obtain ⟨a,ys,T,rfl,rd,hT,q⟩:=h
 obtain ⟨u,c,rfl,ru,rc⟩:=r.two
 cases rc
 cases ru
 have fin:∀ tk,EP X pins σ Q (.bool (BI "tuple" T)) {s with toks:=tk}:=fun tk=>⟨.bl (BI "tuple" T),H,I.tok tk,rfl,q⟩
 obtain ⟨its,_,⟨o,ho,hc,_⟩,_⟩:=I.tuple (af.p_ rd)
 exact PySem.W.kia_one PySem.W.kitx_tuple I.jb ⟨o,ho,hc⟩ (vO _ "tuple" T (by simp) hT) (fun z=>nomatch z) fin
theorem mj.strs (zs:List Str):mj H n (zs.map V.str) (zs.map Tv.s):=⟨by simp,fun j h1 h2=>by
 rw [Qr,Qr];exact TD.str⟩
theorem SV.Xy {us:List V} {R:List (List Str)} (h:SV H us R):mj H 1 us (R.map fun s=>.t (s.map Tv.s)):=⟨by simp [h.len],fun j h1 h2=>by
 obtain ⟨b,e,r⟩:=h.at_ j h1 (by simpa using h2)
 rw [e,Qr]
 exact TD.tup r (mj.strs _)⟩
theorem vQ {F R:Addr} {us:List V} {rd:List (List Str)} (e:H F=some (.tup [.str z,.ref R])) (e2:H R=some (.tup us)) (sv:SV H us rd):TD H 3 (.ref F) (.t [.s z,.t (rd.map fun s=>.t (s.map Tv.s))]):=
 TD.tup (.inl e) (mj.cons TD.str (mj.cons (TD.tup (.inl e2) sv.Xy) mj.nil))
theorem dH (CD:Scope) (oN:List Str) (h:sc.kind=.function/\(∀ y∈sc.names,y.2≠.cell)/\(∀ y∈sc.names,y.2=.local->sc.names.lookup y.1=some .local)/\(∀ y∈sc.names,y.2=.free->(CD.names.lookup y.1=some .cell\/CD.names.lookup y.1=some .free))/\(∀ j∈idx,sc.names.lookup (oN.getD j "")=some .free/\j < oN.length)/\N'=own++idx.map (fun j=>oN.getD j "")):q_ CD oN sc own idx N':=⟨h.1,h.2.1,h.2.2.1,h.2.2.2.1,h.2.2.2.2.1,h.2.2.2.2.2⟩
theorem bJ {N P:List Str} (h:sc.kind=.function/\sc.isCoroutine=false/\sc.isGenerator=false/\N.Nodup/\N.take P.length=P/\(∀ x∈P,sc.names.lookup x=some .local\/sc.names.lookup x=some .cell)/\∀ y∈sc.names,y.2≠.free):dw N P sc:=⟨h.1,h.2.1,h.2.2.1,h.2.2.2.1,h.2.2.2.2.1,h.2.2.2.2.2.1,h.2.2.2.2.2.2⟩
theorem wS (xs:Array Value):slicePick xs none none (some (-1))=xs.toList.reverse.toArray:=by
 unfold slicePick
 congr 1
 rw [<- Vj xs]
 show (sliceRange ((xs.size:Int) - 1) (-1) (-1)).filterMap (xs[·]?)=_
 unfold sliceRange
 simp only [show ¬((-1:Int) > 0) by decide,if_false]
 rw [List.filterMap_map]
 have e:(if (xs.size:Int) - 1 > -1 then (((xs.size:Int) - 1) - (-1) - (-1) - 1) / (- -1) else 0).toNat=xs.size:=by
  have h1:(- -1:Int)=1:=rfl
  rw [h1,Int.ediv_one]
  split<;>omega
 rw [e]
 refine n5 fun k hk=>?_
 show xs[((xs.size:Int) - 1+ -1*(k:Int)).toNat]? =_
 have h2:((xs.size:Int) - 1+ -1*(k:Int))=((xs.size:Int) - 1+(k:Int)* -1):=by omega
 rw [h2]
section
variable {st:Expr} {ts:TE} {p2 pos:Pos}
def Xz (K:Q0) (te ts:TE):TE:=fun σ H Q=>te σ H fun x H1=>ts σ H1 fun y H2=>y=.int (-1)/\∃ a xs,x=.ref a/\aj K H2 a xs/\∀ p,H2 p=none->Q (.ref p) (upd H2 p (.lst xs.reverse))
theorem XA (K:Q0) (he:SE X e te) (hs:SE X st ts) (hK:X.K=K:=by rfl):SE X (.Subscript e (.Slice none none (some st) p2) pos) (Xz K te ts):=by
 subst hK
 constructor
 intro pins s σ H Q I h
 refine Subscript_ (av (he.h pins s σ H _ I h) ?_)
 rintro v s1 ⟨x,H1,I1,r1,q1⟩
 refine wpAny_Slice ?_
 rw [evalPart_none]
 refine QU ?_
 refine QU ?_
 rw [evalPart_some]
 refine av (hs.h pins s1 σ H1 _ I1 q1) ?_
 rintro u s3 ⟨y,H3,I3,ry,ey,a,xs,ex,hq,q⟩
 subst ey ex
 obtain ⟨tk,rfl⟩:=(show ∃ t,u=Value.int (-1) t from ry)
 cases r1
 have I4:Inv X pins σ H3 {s3 with heap:=s3.heap.push {cls:=.type "slice",data:=.fields #[.none,.none,.int (-1) tk]}}:=I3.kept (t':=s3.toks) fun b ob q=>Qc _ q
 obtain ⟨its,r,pl,hz⟩:=I4.list hq
 have hl:=pl.isList
 show wpAny (model X.prog X.w) X.A (subscriptTail e (.Slice none none (some st) p2) (.ref a) (.ref s3.heap.objs.size)) (EP X pins σ Q) X.xe {s3 with heap:=s3.heap.push {cls:=.type "slice",data:=.fields #[.none,.none,.int (-1) tk]}}
 refine tail_any (ops:=[.ref a,.ref s3.heap.objs.size]) hl.typeIs list_getitem_lookup (wpAny_getItem_list_slice (lo:=none) (hi:=none) (st:=some (-1)) hl (Heap.IsSliceOf.new ..) .none .none (.int _ _) (by simp) ?_ (by have:=r.length;simp;omega)) (by with_unfolding_all rfl)
 rw [wS]
 refine ⟨.ref _,_,I4.laid (t':=s3.toks) (o:=.lst xs.reverse) (fun b ob q=>Qc _ q) (Qy _) ?_,rfl,q _ (I4.hok.fresh (Qy _))⟩
 exact ⟨by simpa using hz,its.reverse,0,bg.rev r,Qd _ rfl⟩
def XC:R2:=fun x y H Q=>∃ a b xs,x=.ref a/\y=.ref b/\H a=some (.tup xs)/\H b=some (.tup [])/\Q (.bl (!xs.isEmpty)) H
theorem XD (hu:X.A.units+20 < cLine):cu X (compareOp .NotEq) XC:=by
 intro pins s σ H x y v u Q I rx ry h
 obtain ⟨a,b,xs,rfl,rfl,ha,hb,q⟩:=h
 cases rx
 cases ry
 obtain ⟨i1,r1,p1,_⟩:=I.tuple (af.of ha)
 obtain ⟨i2,r2,p2,_⟩:=I.tuple (af.of hb)
 cases r2
 refine SeqAt.RcNeAt.tuples (e:=fun _=>true) p1 p2 (by omega) (fun j h1 h2=>absurd h2 (by simp)) _ _ _ _ ?_
 have e:((List.range (min i1.toArray.size ([]:List Value).toArray.size)).all (fun _=>true)&&i1.toArray.size==([]:List Value).toArray.size)=xs.isEmpty:=by
  have hl:=r1.length
  cases xs with
  | nil=>simp at hl;simp [<- hl]
  | cons x xs=>cases i1 with
   | nil=>simp at hl
   | cons u us=>simp
 rw [e]
 exact ⟨.bl (!xs.isEmpty),H,I,rfl,q⟩
end
end L2
set_option maxHeartbeats 400000
--aa3 14
--SEE
namespace T1
open PySem L2
def top (i:Nat):Stmt:=PySem.Challenge.pw_coilkind_k34_within_or_beyond.main.body.getD i (.Pass ⟨0,0,0,0⟩)
abbrev gK:Stmt:=top 2
abbrev k9:Stmt:=top 3
abbrev gP:Stmt:=top 4
abbrev gU:Stmt:=top 10
abbrev gH:Stmt:=top 11
abbrev iL:Stmt:=top 12
abbrev lS:Stmt:=top 14
abbrev fX:Stmt:=top 15
abbrev iC:Stmt:=top 16
abbrev d6:Stmt:=top 17
abbrev cU:Stmt:=top 18
abbrev dX:Stmt:=top 19
abbrev j0:Stmt:=top 21
abbrev jA:Stmt:=top 22
abbrev gQ:Stmt:=top 23
abbrev fV:Stmt:=top 24
abbrev gB:Stmt:=top 25
abbrev fW:Stmt:=top 26
abbrev kD:Stmt:=top 27
abbrev cE:Stmt:=top 28
abbrev j6:Stmt:=top 29
abbrev gE:Stmt:=top 30
abbrev kH:Stmt:=top 31
abbrev fH:Stmt:=top 32
abbrev dS:Stmt:=top 33
abbrev g7:Stmt:=top 34
abbrev gJ:Stmt:=top 35
abbrev iB:Stmt:=top 36
abbrev eX:Stmt:=top 37
abbrev d7:Stmt:=top 38
abbrev d8:Stmt:=top 39
abbrev gM:Stmt:=top 40
abbrev gT:Stmt:=top 41
abbrev cF:Stmt:=top 42
abbrev mI:Stmt:=top 43
abbrev dN:Stmt:=inClass (top 9) 0
structure Txt (K:Q0) (mg:Str->Option Value) (w:World):Prop where
 uw:mg "len"=none
 dA:mg "isinstance"=none
 XE:mg "all"=none
 pF:mg "range"=none
 Na:mg "bool"=none
 XF:mg "int"=none
 tL:mg "list"=none
 dP:mg "tuple"=none
 pR:mg "dict"=none
 XG:mg "sorted"=none
 XH:mg "zip"=none
 XI:mg "set"=none
 XJ:mg "any"=none
 yV:∃ a,mg "WORDED"=some (.ref a)/\∀ H,af K H a [.str "box",.str "pick"]
 oZ:∃ u,mg "FROM"=some u/\RelV (.ref (adr mg "FROM")) u
 IY:∃ u,mg "TO"=some u/\RelV (.ref (adr mg "TO")) u
 jQ:∃ a,mg "STEP_WORDS"=some (.ref a)/\KD w K a [(.inr "box",.str "part"),(.inr "pick",.str "case")]
 tH:dm K mg "heads_of" gK ["T"]
 xA:dm K mg "rows_of" k9 ["T"]
 uG:dm K mg "names_in" gP ["head"]
 tQ:dm K mg "steps_in" gU ["head"]
 u9:dm K mg "moves_in" gH ["head","rows"]
 sX:dm K mg "road_back" iL ["trail","at"]
 XM:dm K mg "within" lS ["T","x","S","y"]
 nI:dm K mg "lies_within" fX ["T","x","S","y"]
 sS:dm K mg "looked_at" iC ["left","x","right","y"]
 jG:dm K mg "steps_looked_at" d6 ["left","right","triple"]
 lA:dm K mg "steps_between" cU ["lower","upper"]
 l9:dm K mg "triple_behind" dX ["left","right","triple","step"]
 vE:dm K mg "_law_fill" j0 ["_law_cell","_law_at"]
 tM:dm K mg "_law_next" jA ["_law_pen","_law_many"]
 qE:dm K mg "_law_turned" gQ ["_law_pen","_law_some"]
 rP:dm K mg "_law_words" fV ["_law_pen"]
 uY:dm K mg "_law_head" gB ["_law_pen","_law_names","_law_ahead"]
 nE:dm K mg "_law_telling" fW ["_law_pen","_law_most"]
 yF:dm K mg "_law_any" kD ["_law_pen","_law_told"]
 lC:dm K mg "_law_twin_head" cE ["_law_pen","_law_here"]
 uS:dm K mg "_law_twin" j6 ["_law_pen","_law_told"]
 uD:dm K mg "_law_bent" gE ["_law_pen","_law_told"]
 yO:dm K mg "_law_two" kH ["_law_pen","_law_most"]
 lU:dm K mg "_law_row_here" fH ["_law_told","_law_name"]
 lE:dm K mg "_law_head_here" dS ["_law_told","_law_name"]
 XN:dm K mg "_law_on" g7 ["_law_told","_law_name"]
 pB:dm K mg "_law_nearer" gJ ["_law_pen","_law_told"]
 sJ:dm K mg "_law_close" iB ["_law_pen","_law_most"]
 mU:dm K mg "_law_low_high" eX ["_law_told","_law_other","_law_entry"]
 m8:dm K mg "_law_words_of" d7 ["_law_here"]
 mE:dm K mg "_law_state_of" d8 ["_law_low","_law_high"]
 oT:dm K mg "_law_behind" gM ["_law_told","_law_other","_law_entry"]
 pN:dm K mg "_law_beyond" gT ["_law_told","_law_name","_law_other","_law_twin_name"]
 hX:dm K mg "_law_is_within_paper" cF ["_law_told","_law_name","_law_other","_law_twin_name","_law_paper"]
 Nb:dm K mg "law" mI ["script"]
 Au:Eh K mg "Net" "Net.__init__" dN ["self","T"] ["rows","heads","marks","moves"] (adr mg "Net")
theorem rR:dw ["self","T"] ["self","T"] (bh dN):=bJ (by decide+kernel)
theorem qU:dw ["T"] ["T"] (bh gK):=bJ (by decide+kernel)
theorem dL:dw ["T","heads","rows","name","row"] ["T"] (bh k9):=bJ (by decide+kernel)
theorem qN:dw ["head"] ["head"] (bh gP):=bJ (by decide+kernel)
theorem rB:dw ["head"] ["head"] (bh gU):=bJ (by decide+kernel)
theorem qL:dw ["head","rows"] ["head","rows"] (bh gH):=bJ (by decide+kernel)
theorem eK:dw ["trail","at","steps","step"] ["trail","at"] (bh iL):=bJ (by decide+kernel)
theorem jX:dw ["T","x","S","y","looked","road"] ["T","x","S","y"] (bh lS):=bJ (by decide+kernel)
theorem fC:dw ["T","x","S","y","looked","road"] ["T","x","S","y"] (bh fX):=bJ (by decide+kernel)
theorem bQ:dw ["left","x","right","y","looked","seen","trail","at","steps","step","triple"] ["left","x","right","y"] (bh iC):=bJ (by decide+kernel)
theorem cD:dw ["left","right","triple","side","a","b"] ["left","right","triple"] (bh d6):=bJ (by decide+kernel)
theorem dI:dw ["lower","upper","fewer","more"] ["lower","upper"] (bh cU):=bJ (by decide+kernel)
theorem cO:dw ["left","right","triple","step","side","a","b"] ["left","right","triple","step"] (bh dX):=bJ (by decide+kernel)
theorem iK:dw ["_law_cell","_law_at","_law_x"] ["_law_cell","_law_at"] (bh j0):=bJ (by decide+kernel)
theorem cW:dw ["_law_pen","_law_many","_law_at","_law_cell","_law_found"] ["_law_pen","_law_many"] (bh jA):=bJ (by decide+kernel)
theorem fY:dw ["_law_pen","_law_some","_law_left","_law_found"] ["_law_pen","_law_some"] (bh gQ):=bJ (by decide+kernel)
theorem pZ:dw ["_law_pen"] ["_law_pen"] (bh fV):=bJ (by decide+kernel)
theorem iG:dw ["_law_pen","_law_names","_law_ahead","_law_way","_law_one"] ["_law_pen","_law_names","_law_ahead"] (bh gB):=bJ (by decide+kernel)
theorem cI:dw ["_law_pen","_law_most","_law_size","_law_names","_law_rows","_law_k"] ["_law_pen","_law_most"] (bh fW):=bJ (by decide+kernel)
theorem vC:dw ["_law_pen","_law_told"] ["_law_pen","_law_told"] (bh kD):=bJ (by decide+kernel)
theorem k7:dw ["_law_pen","_law_here"] ["_law_pen","_law_here"] (bh cE):=bJ (by decide+kernel)
theorem fP:dw ["_law_pen","_law_told","_law_rows","_law_name","_law_here"] ["_law_pen","_law_told"] (bh j6):=bJ (by decide+kernel)
theorem fK:dw ["_law_pen","_law_told","_law_at","_law_names","_law_row"] ["_law_pen","_law_told"] (bh gE):=bJ (by decide+kernel)
theorem eW:dw ["_law_pen","_law_most","_law_told","_law_name","_law_way","_law_other"] ["_law_pen","_law_most"] (bh kH):=bJ (by decide+kernel)
theorem dU:dw ["_law_told","_law_name","_law_rows"] ["_law_told","_law_name"] (bh fH):=bJ (by decide+kernel)
theorem kJ:dw ["_law_told","_law_name"] ["_law_told","_law_name"] (bh dS):=bJ (by decide+kernel)
theorem eQ:dw ["_law_told","_law_name","_law_here","_law_found"] ["_law_told","_law_name"] (bh g7):=bJ (by decide+kernel)
theorem bR:dw ["_law_pen","_law_told","_law_rows","_law_name","_law_here","_law_way","_law_at"] ["_law_pen","_law_told"] (bh gJ):=bJ (by decide+kernel)
theorem cN:dw ["_law_pen","_law_most","_law_told","_law_name","_law_other","_law_twin_name"] ["_law_pen","_law_most"] (bh iB):=bJ (by decide+kernel)
theorem cS:dw ["_law_told","_law_other","_law_entry","_law_side","_law_a","_law_b"] ["_law_told","_law_other","_law_entry"] (bh eX):=bJ (by decide+kernel)
theorem lI:dw ["_law_here"] ["_law_here"] (bh d7):=bJ (by decide+kernel)
theorem dW:dw ["_law_low","_law_high","_law_all"] ["_law_low","_law_high"] (bh d8):=bJ (by decide+kernel)
theorem bH:dw ["_law_told","_law_other","_law_entry","_law_side","_law_a","_law_b","_law_found","_law_step","_law_one","_law_again","_law_two_here","_law_turn"] ["_law_told","_law_other","_law_entry"] (bh gM):=bJ (by decide+kernel)
theorem bF:dw ["_law_told","_law_name","_law_other","_law_twin_name","_law_layer","_law_met","_law_later","_law_road","_law_entry","_law_low","_law_high","_law_step","_law_there"] ["_law_told","_law_name","_law_other","_law_twin_name"] (bh gT):=bJ (by decide+kernel)
theorem aM:dw ["_law_told","_law_name","_law_other","_law_twin_name","_law_paper","_law_rows","_law_others","_law_side","_law_a","_law_b","_law_entry","_law_low","_law_high","_law_state","_law_step","_law_there"] ["_law_told","_law_name","_law_other","_law_twin_name","_law_paper"] (bh cF):=bJ (by decide+kernel)
theorem dZ:dw ["script","_law_pen","_law_k","_law_told","_law_name","_law_other","_law_twin_name","_law_due","_law_turn","_law_found","_law_one","_law_said"] ["script"] (bh mI):=bJ (by decide+kernel)
def XO (K:Q0) (mg:Str->Option Value) (w:World):Prop:=∃ ts:List (Addr×Obj×List V),(∀ t∈ts,Eg K t)/\(ts.map (·.1)).Nodup/\Txt (without K (ts.map (·.1))) mg w/\∀ H:Hp,(∀ t∈ts,H t.1=some (.az t.2.1 (.tup t.2.2)))->Kn mg H "FROM" [.str "from"]/\Kn mg H "TO" [.str "to"]
section
variable {K:Q0}
def Nc:Sp:=fun vs H Q _=>∃ c t:Int,vs=[.int c,.int t]/\(0<=t/\t < 1000000000)/\∀ r:Int,Q (.int r) H
theorem rE (T:Txt K mg w):a_ P w K mg base 1 "_law_fill" ["_law_cell","_law_at"] Nc:=by
 refine T.vE.fk iK (fun vs H Q E h=>?_) (fun f bc A outer s H vs Q E hr h=>?_)
 ·obtain ⟨c,t,rfl,_⟩:=h
  rfl
 ·obtain ⟨c,t,rfl,⟨Gw,XQ⟩,k⟩:=h
  refine ⟨_,(aC (bN (aL Up (zv 0) (bX Uo aG aG) (cy _)) (aE (aQ (zv 0))) aV)
   (aC (aX (i:=2) iK.nd rfl (Or.inl rfl) (bX fQ (bX bW (bX bW (bX d9 (bX fQ (zv 0) aG) aG) (bX d9 (zv 1) aG)) aG) aG))
   (aC (aX (i:=2) iK.nd rfl (Or.inl rfl) (bX fQ (bX bW (bX bW (bX d9 (zv 2) (zv 2)) (bX d9 aG (zv 2))) (zv 1)) aG))
   (aE (aQ (bX bW (bX d9 (zv 2) aG) (bX fQ (bX bW (bX d9 (zv 2) (zv 2)) (bX d9 aG (zv 1))) aG))))))),?_⟩
  refine ⟨⟨by decide,by decide,by decide⟩,_,rfl,FI (fun hk=>k _) (fun hk=>?_)⟩
  refine ⟨by decide,.inl ⟨?_,?_⟩,.inl ⟨by omega,by omega⟩,by decide,?_⟩
  ·have:=Int.emod_nonneg c (show (2147483647:Int)≠0 by decide);omega
  ·have:=Int.emod_lt_of_pos c (show (0:Int) < 2147483647 by decide);omega
  generalize hx:(c % 2147483647*48271+t*69621+11) % 2147483629=x
  have hx0:0<=x:=by rw [<- hx];exact Int.emod_nonneg _ (by decide)
  have hx1:x < 2147483629:=by rw [<- hx];exact Int.emod_lt_of_pos _ (by decide)
  refine ⟨.inl ⟨by omega,by omega⟩,.inl ⟨by decide,by decide⟩,by decide,?_⟩
  generalize hy:(x*x+48271*x+t) % 2147483587=y
  have XR:0<=y:=by rw [<- hy];exact Int.emod_nonneg _ (by decide)
  have hy1:y < 2147483587:=by rw [<- hy];exact Int.emod_lt_of_pos _ (by decide)
  exact ⟨.inl ⟨by omega,by omega⟩,.inl ⟨by omega,by omega⟩,.inl ⟨by decide,by decide⟩,by decide,k _⟩
def XS (K:Q0):Sp:=fun vs H Q _=>∃ (p a:Addr) (ns:List Int) (m t x:Int),vs=[.ref p,.int m]/\H p=some (.lst [.ref a,.int t,.int x])/\(∀ o,aj K (upd H p o) a (ns.map V.int))/\aj K H a (ns.map V.int)/\(0<=t/\t < 1000000)/\(0 < m/\m < 1073741824)/\
 ∀ r t' x':Int,0<=r->r < m->0<=t'->t'<=t+1->Q (.int r) (upd H p (.lst [.ref a,.int t',.int x']))
theorem EJ (x y z:α):lg [x,y,z] 0=some x:=rfl
theorem XT (x y z:α):lg [x,y,z] 1=some y:=rfl
theorem IZ (x y z:α):lg [x,y,z] 2=some z:=rfl
theorem sH (T:Txt K mg w):a_ P w K mg base 2 "_law_next" ["_law_pen","_law_many"] (XS K):=by
 have tP:a_ P w K mg base 1 "_law_fill" ["_law_cell","_law_at"] Nc:=rE T
 refine T.tM.fk cW (fun vs H Q E h=>?_) (fun f bc A outer s H vs Q E hr h=>?_)
 ·refine hdn fun G9 hG=>?_;obtain ⟨p,a,ns,m,t,x,rfl,_⟩:=h;refine hG ?_
  rfl
 ·refine hdn fun G9 hG=>?_;obtain ⟨p,a,ns,m,t,x,rfl,hp,MA,hS,⟨Gw,XQ⟩,⟨C4,yq⟩,k⟩:=h;refine hG ?_
  refine ⟨_,(aC (bN (aL j8 (aY (aZ K) (zv 0) aG (fun _ _=>rfl)) (zv 1) (cy _)) (aC (aX (i:=2) cW.nd rfl (Or.inl rfl) (aY (aZ K) (zv 0) aG (fun _ _=>rfl)))
   (aC (aX (i:=3) cW.nd rfl (Or.inl rfl) aG)
   (aC (bN (aL j8 (zv 2) (bK (bT K) (by rfl) T.uw PySem.boot_len (aH (aY (aZ K) (zv 0) aG (fun _ _=>rfl)) ae)) (cy _)) (aE (aX (i:=3) cW.nd rfl (Or.inl rfl) (aY (aZ K) (aY (aZ K) (zv 0) aG (fun _ _=>rfl)) (zv 2) (fun _ _=>rfl)))) (aE (bN (aL uX (bK (bT K) (by rfl) T.uw PySem.boot_len (aH (aY (aZ K) (zv 0) aG (fun _ _=>rfl)) ae)) aG (cy _)) (aE (aX (i:=3) cW.nd rfl (Or.inl rfl) (bX bW (bX fQ (aY (aZ K) (aY (aZ K) (zv 0) aG (fun _ _=>rfl)) (bX fQ (bX d9 (zv 2) aG) (bK (bT K) (by rfl) T.uw PySem.boot_len (aH (aY (aZ K) (zv 0) aG (fun _ _=>rfl)) ae))) (fun _ _=>rfl)) aG) (bX d9 (zv 2) aG)))) aV)))
   (aC (fF (bX bW (zv 2) aG) (HM (zv 0) aG mJ))
   (aE (fF (bA tP (hr.mono (by decide)) (aB (zv 3) (aB (zv 2) ae))) (HM (zv 0) aG mJ))))))) aV)
   (aC (aX (i:=4) cW.nd rfl (Or.inl rfl) (bX fQ (aY (aZ K) (zv 0) aG (fun _ _=>rfl)) (zv 1)))
   (aC (fF (bX Ul (aY (aZ K) (zv 0) aG (fun _ _=>rfl)) (zv 1)) (HM (zv 0) aG mJ))
   (aE (aQ (zv 4)))))),?_⟩
  refine bC (fun σ' H1=>∃ (v2 v3:Option V) (t' x':Int),σ'=[some (.ref p),some (.int m),v2,v3,none]/\H1 p=some (.lst [.ref a,.int t',.int x'])/\(H1=H\/∃ o,H1=upd H p o)/\0<=t'/\t'<=t+1) ?_ ?_
  ·intro nx dc
   refine ⟨_,.int x,.inl (aj.of hp),IZ _ _ _,_,rfl,FI (fun hk=>?_) (fun hk=>?_)⟩
   ·refine aO ⟨_,.int t,.inl (aj.of hp),XT _ _ _,?_⟩
    refine oG ?_
    refine bC (fun σ' H1=>H1=H/\∃ c:Int,σ'=[some (.ref p),some (.int m),some (.int t),some (.int c),none]) ?_ ?_
    ·intro XU B8
     refine ⟨_,.ref a,.inl (aj.of hp),EJ _ _ _,.inl ⟨_,.inl hS,_,rfl,FI (fun hl=>?_) (fun hl=>?_)⟩⟩
     ·obtain ⟨c,ki,jq⟩:=m7 (ns.map V.int) t Gw (by have:=Qt hl;omega)
      have Am:t.toNat < ns.length:=by
       have:=Qt hl
       rw [Ql] at this;omega
      have hc:c=.int (ns[t.toNat]):=by
       rw [Qq,Qa Am] at ki
       exact (QD ki).symm
      subst hc
      exact ⟨_,.ref a,.inl (aj.of hp),EJ _ _ _,_,_,.inl hS,jq,B8 _ _ ⟨rfl,_,rfl⟩⟩
     ·refine ⟨_,.ref a,.inl (aj.of hp),EJ _ _ _,.inl ⟨_,.inl hS,_,rfl,FI (fun sr=>?_) (fun sr=>?_)⟩⟩
      ·have XW:=Qt sr
       have hlp:0 < (ns.map V.int).length:=by omega
       have e0:=Int.emod_nonneg (t*7) (show ((ns.map V.int).length:Int)≠0 by omega)
       have e1:=Int.emod_lt_of_pos (t*7) (show (0:Int) < (ns.map V.int).length by omega)
       obtain ⟨c,ki,jq⟩:=m7 (ns.map V.int) (t*7 % ((ns.map V.int).length:Int)) e0 e1
       have Am:(t*7 % ((ns.map V.int).length:Int)).toNat < ns.length:=by
        have e2:(ns.map V.int).length=ns.length:=Ql _
        omega
       have hc:c=.int (ns[(t*7 % ((ns.map V.int).length:Int)).toNat]):=by
        rw [Qq,Qa Am] at ki
        exact (QD ki).symm
       subst hc
       refine ⟨_,.ref a,.inl (aj.of hp),EJ _ _ _,.inl ⟨by omega,by omega⟩,_,.ref a,.inl (aj.of hp),EJ _ _ _,.inl ⟨_,.inl hS,XW,_,_,.inl hS,jq,by decide,.inl ⟨by omega,by omega⟩,B8 _ _ ⟨rfl,_,rfl⟩⟩⟩
      ·exact B8 _ _ ⟨rfl,0,rfl⟩
    ·rintro σ' H1 ⟨rfl,c,rfl⟩
     refine ⟨p,_,1,1,rfl,rfl,hp,rfl,?_⟩
     refine ⟨c,t,rfl,⟨Gw,by omega⟩,fun r=>?_⟩
     refine ⟨p,_,2,2,rfl,rfl,aA,rfl,?_⟩
     rw [lM]
     exact dc _ _ ⟨_,_,t+1,r,rfl,aA,.inr ⟨_,rfl⟩,by omega,by omega⟩
   ·exact dc _ _ ⟨none,none,t,x,rfl,hp,.inl rfl,Gw,by omega⟩
  ·rintro σ' H1 z0;refine hdn fun G9 hG=>?_;obtain ⟨v2,v3,t',x',rfl,h1,h2,h3,h4⟩:=z0;refine hG ?_
   refine ⟨_,.int x',.inl (aj.of h1),IZ _ _ _,C4,?_⟩
   refine ⟨_,.int x',.inl (aj.of h1),IZ _ _ _,⟨C4,yq⟩,p,_,2,2,rfl,rfl,h1,rfl,?_⟩
   have e:∀ o,upd H1 p o=upd H p o:=fun o=>by
    rcases h2 with rfl | ⟨o',rfl⟩
    ·rfl
    ·exact lM
   rw [e]
   exact k _ t' _ (Int.emod_nonneg _ (by omega)) (Int.emod_lt_of_pos _ C4) h3 h4
structure b_ (K:Q0) (H0 H:Hp) (p:Addr) (t:Nat):Prop where
 ex:∃ (a:Addr) (ns:List Int) (u x:Int),H p=some (.lst [.ref a,.int u,.int x])/\(∀ H',Sm p p H0 H'->aj K H' a (ns.map V.int))/\0<=u/\u<=(t:Int)
 sm:Sm p p H0 H
section
variable {D:Addr} {t u:Nat}
theorem b_.mono (h:b_ K H0 H p t) (l:t<=u):b_ K H0 H p u:=by
 refine hdn fun G9 hG=>?_;obtain ⟨a,ns,y,x,h1,h2,h3,h4⟩:=h.ex;refine hG ?_
 exact ⟨⟨a,ns,y,x,h1,h2,h3,by omega⟩,h.sm⟩
theorem b_.same (h:b_ K H0 H p t) (s:aa H H'):b_ K H0 H' p t:=by
 obtain ⟨a,ns,y,x,h1,h2⟩:=h.ex
 exact ⟨⟨a,ns,y,x,s _ _ h1,h2⟩,h.sm.trans s.sm⟩
theorem b_.ne (h:b_ K H0 H p t) (hD:H D=none):D≠p:=fun e=>by
 obtain ⟨_,_,_,_,z,_⟩:=h.ex
 rw [<- e,hD] at z;cases z
theorem b_.free (h:b_ K H0 H p t) (hD:H D=none):H0 D=none:=h.sm.free hD (h.ne hD) (h.ne hD)
theorem b_.put (h:b_ K H0 H p t) (h1:D≠p) (h2:H0 D=none):b_ K H0 (upd H D o) p t:=by
 obtain ⟨a,ns,y,x,e1,e2⟩:=h.ex
 exact ⟨⟨a,ns,y,x,by rw [aF h1.symm];exact e1,e2⟩,h.sm.upd h2⟩
theorem b_.ts (h:b_ K H0 H p t) (s:Sm p p H H'):Tk H H':=fun b xs e=>by
 obtain ⟨_,_,_,_,z,_⟩:=h.ex
 have n:b≠p:=fun q=>by rw [q,z] at e;cases e
 exact s _ _ e n n
end
def vq (K:Q0):Sp:=fun vs H Q _=>∃ (H0:Hp) (p:Addr) (m:Int) (t:Nat),vs=[.ref p,.int m]/\b_ K H0 H p t/\(0 < m/\m < 1073741824)/\t < 900000/\
 ∀ (r:Int) (H':Hp),0<=r->r < m->b_ K H0 H' p (t+1)->Sm p p H H'->Q (.int r) H'
theorem XX (h:j < n):zq n (j:Int)=some j:=by
 unfold zq
 rw [if_pos (by omega),if_pos (by omega)];simp
theorem mZ {α:Type}:∀ {ls:List α} {i:Nat} (h:i < ls.length),(ls[i]::ls.eraseIdx i).Perm ls
 | x::r,0,_=>List.Perm.refl _
 | x::r,i+1,h=>by
  have ih:=mZ (ls:=r) (i:=i) (by simpa using h)
  exact (List.Perm.swap _ _ _).trans (ih.cons x)
theorem bL (T:Txt K mg w):a_ P w K mg base 2 "_law_next" ["_law_pen","_law_many"] (vq K):=(sH T).imp fun vs H Q E h=>by
 refine hdn fun G9 hG=>?_;obtain ⟨H0,p,m,t,rfl,hn,hm,ht,k⟩:=h;refine hG ?_
 refine hdn fun G9 hG=>?_;obtain ⟨a,ns,u,x,h1,h2,h3,h4⟩:=hn.ex;refine hG ?_
 have sU:∀ o,Sm p p H (upd H p o):=fun o b u hb n _=>by rw [aF n];exact hb
 refine ⟨p,a,ns,m,u,x,rfl,h1,fun o=>h2 _ (hn.sm.trans (sU o)),h2 _ hn.sm,⟨h3,by omega⟩,hm,fun r t' x' r0 r1 t0 t1=>?_⟩
 exact k r _ r0 r1 ⟨⟨a,ns,t',x',aA,h2,t0,by push_cast;omega⟩,hn.sm.trans (sU _)⟩ (sU _)
def I_ (K:Q0):Sp:=fun vs H Q _=>∃ (H0:Hp) (p a:Addr) (xs:List V) (t:Nat),vs=[.ref p,.ref a]/\b_ K H0 H p t/\t+100 < 900000/\(aj K H a xs\/af K H a xs)/\xs.length<=100/\
 ∀ (L:Addr) (ys:List V) (H':Hp),H L=none->H' L=some (.lst ys)->ys.Perm xs->b_ K H0 H' p (t+100)->Sm p p H H'->Q (.ref L) H'
theorem iY (T:Txt K mg w):a_ P w K mg base 3 "_law_turned" ["_law_pen","_law_some"] (I_ K):=by
 have aN:a_ P w K mg base 2 "_law_next" ["_law_pen","_law_many"] (vq K):=bL T
 refine T.qE.fk fY (fun vs H Q E h=>?_) (fun f bc A outer s H vs Q E hr h=>?_)
 ·obtain ⟨H0,p,a,xs,t,rfl,_⟩:=h
  rfl
 ·refine hdn fun G9 hG=>?_;obtain ⟨H0,p,a,xs,t,rfl,hn,ht,ha,hx,k⟩:=h;refine hG ?_
  have hu:=aU hr
  have bz:=Qx (aU hr)
  have hsz:sizeLine=16777216:=QL
  refine ⟨_,(aC (aX (i:=2) fY.nd rfl (Or.inl rfl) (bM (o7 K) (by rfl) T.tL PyProof.Rows.boot_list (aB (zv 1) ae)))
   (aC (aX (i:=3) fY.nd rfl (Or.inl rfl) (cP ae))
   (aC (iN PassesOwn.never (aL (gW bz) (zv 2) (cP ae) (cy _)) (aE (dR (lW K QH QJ QK bZ (zv 3) (aP (lW K QH PySem.F.slot_list_pop PySem.F.type_list_pop S_ (zv 2) (aP (bA aN (hr.mono (by decide)) (aB (zv 0) (aP (bK (bT K) (by rfl) T.uw PySem.boot_len (aB (zv 2) ae)) ae))) ae)) ae)))))
   (aE (aQ (zv 3)))))),?_⟩
  refine aO ⟨a,xs,rfl,ha,fun l0 jl=>?_⟩
  refine aO ⟨(show 0<=sizeLine by decide),fun l1 hl1=>?_⟩
  have s1:=aa.upd jl (.lst xs)
  have s2:=aa.upd hl1 (.lst [])
  have e0:l0≠p:=hn.ne jl
  have e1:l1≠p:=(hn.same s1).ne hl1
  have Nd:l0≠l1:=aR aA hl1
  have f0:=hn.free jl
  have f1:=(hn.same s1).free hl1
  have g0:upd (upd H l0 (.lst xs)) l1 (.lst []) l0=some (.lst xs):=s2 _ _ aA
  have g1:upd (upd H l0 (.lst xs)) l1 (.lst []) l1=some (.lst []):=aA
  have hn2:=(hn.same s1).same s2
  have iq:Sm p p H (upd (upd H l0 (.lst xs)) l1 (.lst [])):=(s1.trans s2).sm
  dsimp only
  generalize upd (upd H l0 (.lst xs)) l1 (.lst [])=H2 at g0 g1 hn2 iq
  have XY:H l0=none:=jl
  have Nf:H l1=none:=s1.free hl1
  refine bC (fun σ' H'=>∃ ys,σ'=[some (.ref p),some (.ref a),some (.ref l0),some (.ref l1)]/\H' l1=some (.lst ys)/\ys.Perm xs/\b_ K H0 H' p (t+100)/\Sm p p H H') ?_ ?_
  ·intro nx dc
   refine ⟨fun m σ' H'=>∃ (ls ys:List V),σ'=[some (.ref p),some (.ref a),some (.ref l0),some (.ref l1)]/\H' l0=some (.lst ls)/\H' l1=some (.lst ys)/\ls.length=m/\(ys++ls).Perm xs/\b_ K H0 H' p (t+ys.length)/\Sm p p H H',⟨xs.length,xs,[],rfl,g0,g1,rfl,by simp,hn2,iq⟩,?_⟩
   rintro m σ' H3 z0;refine hdn fun G9 hG=>?_;obtain ⟨ls,ys,rfl,q0,q1,q2,q3,q4,q5⟩:=z0;refine hG ?_
   have hyl:ys.length+ls.length=xs.length:=by have:=q3.length_eq;rw [Qk] at this;exact this
   refine ⟨(show 0<=sizeLine by decide),fun b hb=>⟨aR q0 hb,ls,(aa.upd hb _) _ _ q0,aA,_,rfl,dz (fun c=>?_) (fun c=>?_)⟩⟩
   ·have s3:=aa.upd hb (.lst [])
    have Ng:=q4.same s3
    have C3:=s3 _ _ q0
    have Ja:=s3 _ _ q1
    have Nh:=q5.trans s3.sm
    generalize upd H3 b (.lst [])=H4 at Ng C3 Ja Nh
    have aa_:0 < ls.length:=by
     cases ls with
     | nil=>exact absurd c (by decide)
     | cons x r=>simp
    refine ⟨fun σ' Av=>∃ m',m' < m/\∃ (ls ys:List V),σ'=[some (.ref p),some (.ref a),some (.ref l0),some (.ref l1)]/\Av l0=some (.lst ls)/\Av l1=some (.lst ys)/\ls.length=m'/\(ys++ls).Perm xs/\b_ K H0 Av p (t+ys.length)/\Sm p p H Av,fun σ' Av h=>h,?_⟩
    refine ⟨.inl ⟨rfl,ys,aj.of Ja⟩,.inl ⟨rfl,ls,aj.of C3⟩,.inl ⟨ls,.inl (aj.of C3),H0,p,_,_,rfl,Ng,⟨by omega,by omega⟩,by omega,fun r H5 r0 r1 jx gj=>?_⟩⟩
    obtain ⟨i,rfl⟩:∃ i:Nat,r=(i:Int):=⟨r.toNat,by omega⟩
    have hi:i < ls.length:=by omega
    have p0:=gj _ _ C3 e0 e0
    have p1:=gj _ _ Ja e1 e1
    refine ⟨l0,ls,(i:Int),i,ls[i],rfl,rfl,p0,by omega,by omega,(oY (XX hi)).1,Qa hi,l1,ys,ls[i],rfl,rfl,by rw [aF Nd.symm];exact p1,by omega,ls.length - 1,by omega,ls.eraseIdx i,ys++[ls[i]],rfl,by rw [aF Nd];exact aA,aA,?_,?_,?_,(Nh.trans gj).upd XY |>.upd Nf⟩
    ·rw [List.length_eraseIdx,if_pos hi]
    ·rw [QQ]
     exact ((mZ hi).append_left ys).trans q3
    ·rw [Qk]
     exact (jx.put e0 f0).put e1 f1
   ·have XZ:ls=[]:=by
     cases ls with
     | nil=>rfl
     | cons x r=>exact absurd c (by simp)
    subst XZ
    rw [QR] at q3
    have s3:=aa.upd hb (.lst [])
    exact dc _ _ ⟨ys,rfl,s3 _ _ q1,q3,(q4.same s3).mono (by have:=q3.length_eq;omega),q5.trans s3.sm⟩
  ·rintro σ' H' ⟨ys,rfl,q1,q2,q3,q4⟩
   exact k l1 ys H' Nf q1 q2 q3 q4
def B9:List Str:=["a","ab","b","ba"]
def EK:List Str:=["case","from","part","to"]
def WW:List Str:=B9++EK
theorem Ni:∀ z∈WW,isName z=true/\Wd z:=fun z hz=>by
 simp only [WW,B9,EK,List.cons_append,List.nil_append,Qp,QA,or_false] at hz
 rcases hz with rfl | rfl | rfl | rfl | rfl | rfl | rfl | rfl<;>exact ⟨by decide+kernel,g9 (by decide) (by decide)⟩
structure WN (os:List Str):Prop where
 dj:rising os=true
 len:os.length<=4
 ww:∀ z∈os,z∈WW
theorem X0:B9.Pairwise fun a b=>kj a b=true:=by decide+kernel
theorem X3:EK.Pairwise fun a b=>kj a b=true:=by decide+kernel
theorem WN.of {b os:List Str} (hb:b=B9\/b=EK) (s:os.Sublist b):WN os:=by
 rcases hb with rfl | rfl
 ·exact ⟨eE (X0.sublist s),s.length_le,fun z hz=>List.mem_append.mpr (.inl (s.subset hz))⟩
 ·exact ⟨eE (X3.sublist s),s.length_le,fun z hz=>List.mem_append.mpr (.inr (s.subset hz))⟩
def Nj (K:Q0):Sp:=fun vs H Q _=>∃ (H0:Hp) (p:Addr) (t:Nat),vs=[.ref p]/\b_ K H0 H p t/\t+5 < 900000/\
 ∀ (L:Addr) (os:List Str) (H':Hp),H L=none->H' L=some (.lst (os.map V.str))->WN os->b_ K H0 H' p (t+5)->Sm p p H H'->Q (.ref L) H'
theorem pV (T:Txt K mg w):a_ P w K mg base 3 "_law_words" ["_law_pen"] (Nj K):=by
 have aN:a_ P w K mg base 2 "_law_next" ["_law_pen","_law_many"] (vq K):=bL T
 refine T.rP.fk pZ (fun vs H Q E h=>?_) (fun f bc A outer s H vs Q E hr h=>?_)
 ·obtain ⟨H0,p,t,rfl,_⟩:=h
  rfl
 ·obtain ⟨H0,p,t,rfl,hn,ht,k⟩:=h
  have hu:=aU hr
  have bz:=Qx (aU hr)
  have hsz:sizeLine=16777216:=QL
  refine ⟨_,(aE (aQ (nC (own:=["_law_word"]) (idx:=[0]) (N':=["_law_word","_law_pen"]) (dH (bh fV) (["_law_pen"]:List Str) (by decide+kernel)) rfl (lJ K (cP (aD aS (aD aS (aD aS (aD aS ae)))))) (fun _ _ _ _ _ _=>(aJ (i:=0) (show List.Nodup (["_law_word","_law_pen"]:List Str) by decide+kernel) rfl (Or.inl rfl))) (fun _ _ _ _ _ _=>(LB (aL (bP bz) (bA aN (hr.mono (by decide)) (aB (zv 1) (aD aG ae))) aG (cy _)))) (fun _ _ _ _ _ _=>(zv 0))))),?_⟩
  refine ⟨(show 4<=sizeLine by decide),fun S hl1=>?_⟩
  have s1:=aa.upd hl1 (.lst [V.str "a",V.str "ab",V.str "b",V.str "ba"])
  have Nk:upd H S (.lst [V.str "a",V.str "ab",V.str "b",V.str "ba"]) S=some (.lst (B9.map V.str)):=aA
  have gp:=(hn.same s1).mono (u:=t+1) (by omega)
  have eS:S≠p:=hn.ne hl1
  generalize upd H S (.lst [V.str "a",V.str "ab",V.str "b",V.str "ba"])=H4 at s1 Nk gp ⊢
  obtain ⟨bs,hb,gS⟩:∃ bs:List Str,(bs=B9\/bs=EK)/\H4 S=some (.lst (bs.map V.str)):=⟨B9,.inl rfl,Nk⟩
  have Nl:bs.length=4:=by rcases hb with rfl | rfl<;>rfl
  have Gx:Sm p p H H4:=s1.sm
  refine Or.inl ⟨⟨_,aj.of gS⟩,fun D hD=>?_⟩
  have qc:D≠p:=gp.ne hD
  have Nm:D≠S:=fun e=>by rw [e,gS] at hD;cases hD
  have fD:H0 D=none:=gp.free hD
  have x_:H D=none:=Gx.free hD qc qc
  refine hV (cH (bs.map V.str)) (fun i τ H2=>∃ (v:Option V) (os:List Str),τ=[v,some (.ref p)]/\H2 D=some (.lst (os.map V.str))/\os.Sublist (bs.take i)/\H2 S=some (.lst (bs.map V.str))/\b_ K H0 H2 p (t+1+i)/\Sm p p H H2)
   ⟨none,[],rfl,aA,List.Sublist.refl _,by rw [aF Nm.symm];exact gS,gp.same (aa.upd hD _),Gx.upd x_⟩ (by rintro i τ H2 _ ⟨_,_,_,_,_,q,_⟩;exact aj.of q) ?_ ?_
  ·rintro i τ H5 hi z0;refine hdn fun G9 hG=>?_;obtain ⟨v,os,rfl,q1,q2,q4,q5,q6⟩:=z0;refine hG ?_
   rw [Ql] at hi
   rw [iI bs i hi]
   have C5:bs.take (i+1)=bs.take i++[bs.getD i ""]:=by
    rw [Qs,Qb,Qa hi];rfl
   generalize bs.getD i ""=z at C5
   have A3:os.length<=i:=by have:=q2.length_le;simp at this;omega
   refine ⟨H0,p,2,t+1+i,rfl,q5,⟨by decide,by decide⟩,by omega,fun r H6 r0 r1 Nn fb=>?_⟩
   refine ⟨rfl,_,rfl,?_⟩
   have g4:=fb _ _ q4 eS eS
   have g1:=fb _ _ q1 qc qc
   refine dz (fun _=>?_) (fun _=>?_)
   ·exact ⟨_,g1,by rw [Ql];exact TL (by omega),_,os++[z],rfl,by rw [aA,Qm];rfl,by rw [C5];exact q2.append (List.Sublist.refl _),by rw [aF Nm.symm];exact g4,Nn.put qc fD,(q6.trans fb).upd x_⟩
   ·exact ⟨_,os,rfl,g1,by rw [C5];exact q2.trans (List.sublist_append_left _ _),g4,Nn,q6.trans fb⟩
  ·rintro τ H5 z0;refine hdn fun G9 hG=>?_;obtain ⟨v,os,rfl,q1,q2,q4,q5,q6⟩:=z0;refine hG ?_
   rw [Ql] at q2 q5
   rw [Qo] at q2
   exact k D os H5 x_ q1 (WN.of hb q2) (q5.mono (by omega)) q6
structure oi (H:Hp) (l:Addr) (ss:List Str):Prop where
 e:H l=some (.lst (ss.map V.str))
 ne:ss≠[]
 few:ss.length<=60
 wd:∀ z∈ss,Wd z
theorem Np {t:Nat} {ss:List Str} (h:oi H l ss) (hp:b_ K H0 H p t):l≠p:=fun q=>by
 obtain ⟨_,_,_,_,z,_⟩:=hp.ex
 have e:=h.e
 have ne:=h.ne
 rw [q,z] at e
 cases ss with
 | nil=>exact ne rfl
 | cons a r=>cases e
theorem oi.nx {t:Nat} {ss:List Str} (h:oi H l ss) (hp:b_ K H0 H p t) (s:Sm p p H H'):oi H' l ss:=⟨s _ _ h.e (Np h hp) (Np h hp),h.ne,h.few,h.wd⟩
theorem oi.same {ss:List Str} (h:oi H l ss) (s:aa H H'):oi H' l ss:=⟨s _ _ h.e,h.ne,h.few,h.wd⟩
theorem oi.at {H:Hp} {l:Addr} {ss:List Str} (h:oi H l ss) (r:Int) (h0:0<=r) (h1:r < ss.length):∃ z,lg (ss.map V.str) r=some (.str z)/\ss[r.toNat]? =some z/\Wd z:=by
 obtain ⟨c,ki,jq⟩:=m7 (ss.map V.str) r h0 (by rw [Ql];exact h1)
 rw [Qq] at ki
 cases e:ss[r.toNat]? with
 | none=>rw [e] at ki;cases ki
 | some z=>
  rw [e] at ki
  cases ki
  exact ⟨z,jq,rfl,h.wd z (QC e)⟩
theorem oi.pos {ss:List Str} (h:oi H l ss):0 < ss.length:=List.length_pos_iff.mpr h.ne
def X4 (ns:List Str) (k:Nat) (o:Option Str):Prop:=∀ y,o=some y->∃ i,i < k/\ns[i]? =some y
def Jb (K:Q0):Sp:=fun vs H Q _=>∃ (H0:Hp) (p nm:Addr) (k t:Nat) (ns:List Str),vs=[.ref p,.ref nm,.int (k:Int)]/\b_ K H0 H p t/\t+20 < 900000/\oi H nm ns/\(∀ z∈ns,isName z=true)/\k<=ns.length/\
 ∀ (v:V) (H':Hp),pe H' ns WW v (X4 ns k)->b_ K H0 H' p (t+20)->Sm p p H H'->Q v H'
theorem kY (T:Txt K mg w):a_ P w K mg base 4 "_law_head" ["_law_pen","_law_names","_law_ahead"] (Jb K):=by
 have aN:a_ P w K mg base 2 "_law_next" ["_law_pen","_law_many"] (vq K):=bL T
 have sW:a_ P w K mg base 3 "_law_words" ["_law_pen"] (Nj K):=pV T
 refine T.uY.fk iG (fun vs H Q E h=>?_) (fun f bc A outer s H vs Q E hr h=>?_)
 ·refine hdn fun G9 hG=>?_;obtain ⟨H0,p,nm,k,t,ns,rfl,_⟩:=h;refine hG ?_
  rfl
 ·refine hdn fun G9 hG=>?_;obtain ⟨H0,p,nm,ka,t,ns,rfl,hn,ht,tn,C6,hk,k⟩:=h;refine hG ?_
  have hu:=aU hr
  have bz:=Qx (aU hr)
  have hsz:sizeLine=16777216:=QL
  have aa':=tn.pos
  have aba:=tn.few
  refine ⟨_,(aC (aX (i:=3) iG.nd rfl (Or.inl rfl) (bA aN (hr.mono (by decide)) (aB (zv 0) (aD aG ae))))
   (aC (bN (aL j8 (zv 3) aG (cy _)) (aE (aQ (aY (aZ K) (cP (bD (aT (aD aS ae)) (bD (aT (aD aS ae)) ae))) (zv 3) (fun _ _=>rfl)))) aV)
   (aC (bN (vT (aL (bP bz) (zv 3) aG (cy _)) (uA (aL uX (zv 2) aG (cy _)))).pt (aE (aQ (aT (aD aS (aH (aY (aZ K) (zv 1) (bA aN (hr.mono (by decide)) (aB (zv 0) (aB (zv 2) ae))) (fun _ _=>rfl)) ae))))) aV)
   (aC (bN (aL j8 (zv 3) aG (cy _)) (aC (aX (i:=4) iG.nd rfl (Or.inl rfl) (aY (aZ K) (zv 1) (bA aN (hr.mono (by decide)) (aB (zv 0) (aP (bK (bT K) (by rfl) T.uw PySem.boot_len (aB (zv 1) ae)) ae))) (fun _ _=>rfl)))
   (aE (aQ (aT (aD aS (aB (zv 4) (aH (aY (aZ K) (zv 1) (bA aN (hr.mono (by decide)) (aB (zv 0) (aP (bK (bT K) (by rfl) T.uw PySem.boot_len (aB (zv 1) ae)) ae))) (fun _ _=>rfl)) ae))))))) aV)
   (aE (aQ (aT (aH (aY (aZ K) (cP (aD aS (aD aS ae))) (bX fQ (zv 3) aG) (fun _ _=>rfl)) (aP (bM (cV K) (by rfl) T.dP QG (dQ (nC (own:=["_law_word"]) (idx:=[0,1]) (N':=["_law_word","_law_pen","_law_names"]) (dH (bh gB) (["_law_pen","_law_names","_law_ahead","_law_way","_law_one"]:List Str) (by decide+kernel)) rfl (lJ K (bA sW (hr.mono (by decide)) (aB (zv 0) ae))) (fun _ _ _ _ _ _=>(aJ (i:=0) (show List.Nodup (["_law_word","_law_pen","_law_names"]:List Str) by decide+kernel) rfl (Or.inl rfl))) (fun _ _ _ _ _ _=>eA) (fun _ _ _ _ _ _=>(aT (aB (zv 0) (aH (aY (aZ K) (zv 2) (bA aN (hr.mono (by decide)) (aB (zv 1) (aP (bK (bT K) (by rfl) T.uw PySem.boot_len (aB (zv 2) ae)) ae))) (fun _ _=>rfl)) ae))))) ae)) ae))))))))),?_⟩
  refine aO ⟨H0,p,10,t,rfl,hn,⟨by decide,by decide⟩,by omega,fun wy H1 w0 w1 hn1 kq=>?_⟩
  have Gy:=tn.nx hn kq
  refine bC (fun σ' H'=>σ'=[some (.ref p),some (.ref nm),some (.int (ka:Int)),some (.int wy),none]/\H1=H') ?_ ?_
  ·intro nx dc
   refine ⟨_,rfl,dz (fun c1=>?_) (fun c1=>dc _ _ ⟨rfl,rfl⟩)⟩
   have c1':wy < 2:=Qt c1
   refine ⟨(show 1<=sizeLine by decide),fun q1 ve=>⟨(show 1<=sizeLine by decide),fun q2 vf=>⟨(show 2<=sizeLine by decide),fun O hO=>?_⟩⟩⟩
   have s1:=aa.upd ve (.tup [.str "all"])
   have s2:=aa.upd vf (.tup [.str "none"])
   have s3:=aa.upd hO (.lst [.ref q1,.ref q2])
   have sA:=(s1.trans s2).trans s3
   have g1:=s3 _ _ (s2 _ _ (aA:upd H1 q1 (.tup [.str "all"]) q1=some (.tup [.str "all"])))
   have g2:=s3 _ _ (aA:upd (upd H1 q1 (.tup [.str "all"])) q2 (.tup [.str "none"]) q2=some (.tup [.str "none"]))
   rcases (show wy=0\/wy=1 by omega) with rfl | rfl
   ·exact ⟨_,.ref q1,.inl (aj.of aA),rfl,k _ _ (Vp g1 (fun _ h=>nomatch h)) ((hn1.same sA).mono (by omega)) (kq.trans sA.sm)⟩
   ·exact ⟨_,.ref q2,.inl (aj.of aA),rfl,k _ _ (Vo g2 (fun _ h=>nomatch h)) ((hn1.same sA).mono (by omega)) (kq.trans sA.sm)⟩
  rintro σ' H' ⟨rfl,rfl⟩
  refine bC (fun σ' H'=>σ'=[some (.ref p),some (.ref nm),some (.int (ka:Int)),some (.int wy),none]/\H1=H') ?_ ?_
  ·intro nx dc
   refine ⟨rfl,_,rfl,dz (fun h2=>⟨_,rfl,dz (fun h3=>?_) (fun _=>dc _ _ ⟨rfl,rfl⟩)⟩) (fun h2=>dz (fun c=>absurd c (by decide)) fun _=>dc _ _ ⟨rfl,rfl⟩)⟩
   have MT:(0:Int) < (ka:Int):=Qt h3
   refine ⟨H0,p,(ka:Int),_,rfl,hn1,⟨by omega,by omega⟩,by omega,fun r H2 r0 r1 hn2 iq=>?_⟩
   have B_:=Gy.nx hn1 iq
   obtain ⟨y,Jc,C7,X5⟩:=B_.at r r0 (by omega)
   refine ⟨_,_,.inl (aj.of B_.e),Jc,(show 2<=sizeLine by decide),fun c hc=>?_⟩
   refine k _ _ (Vn aA (C6 _ (QC C7)) (QC C7) (fun y' e=>?_)) ((hn2.same (aa.upd hc _)).mono (by omega)) ((kq.trans iq).trans (aa.upd hc _).sm)
   cases e
   exact ⟨r.toNat,by omega,C7⟩
  rintro σ' H' ⟨rfl,rfl⟩
  refine bC (fun σ' H'=>σ'=[some (.ref p),some (.ref nm),some (.int (ka:Int)),some (.int wy),none]/\H1=H') ?_ ?_
  ·intro nx dc
   refine ⟨_,rfl,dz (fun c1=>?_) (fun c1=>dc _ _ ⟨rfl,rfl⟩)⟩
   refine aO (.inl ⟨_,.inl (aj.of Gy.e),H0,p,_,_,rfl,hn1,⟨by rw [Ql];omega,by rw [Ql];omega⟩,by omega,fun r H2 r0 r1 hn2 iq=>?_⟩)
   rw [Ql] at r1
   have B_:=Gy.nx hn1 iq
   obtain ⟨x,X6,Nq,hxw⟩:=B_.at r r0 r1
   refine ⟨_,_,.inl (aj.of B_.e),X6,.inl ⟨_,.inl (aj.of B_.e),H0,p,_,_,rfl,hn2,⟨by rw [Ql];omega,by rw [Ql];omega⟩,by omega,fun r2 H3 b0 b1 fq fb=>?_⟩⟩
   rw [Ql] at b1
   have EL:=B_.nx hn2 fb
   obtain ⟨y,Jc,C7,X5⟩:=EL.at r2 b0 b1
   refine ⟨_,_,.inl (aj.of EL.e),Jc,(show 3<=sizeLine by decide),fun b hb=>?_⟩
   exact k _ _ (Vq aA (C6 _ (QC Nq)) (C6 _ (QC C7)) (QC Nq) (QC C7) (fun _ h=>nomatch h)) ((fq.same (aa.upd hb _)).mono (by omega)) (((kq.trans iq).trans fb).trans (aa.upd hb _).sm)
  rintro σ' H' ⟨rfl,rfl⟩
  refine ⟨(show 2<=sizeLine by decide),fun O hO=>?_⟩
  have sO:=aa.upd hO (.lst [.str "box",.str "pick"])
  have gO:upd H1 O (.lst [.str "box",.str "pick"]) O=some (.lst [.str "box",.str "pick"]):=aA
  have Gz:=hn1.same sO
  have Nr:=Gy.same sO
  have Nt:=kq.trans sO.sm
  dsimp only
  generalize upd H1 O (.lst [.str "box",.str "pick"])=H2 at sO gO Gz Nr Nt
  obtain ⟨so,C8,X7⟩:∃ so:Str,lg [V.str "box",V.str "pick"] (wy % 2)=some (.str so)/\(so="box"\/so="pick"):=by
   rcases (show wy % 2=0\/wy % 2=1 by omega) with e | e
   ·rw [e];exact ⟨"box",rfl,.inl rfl⟩
   ·rw [e];exact ⟨"pick",rfl,.inr rfl⟩
  refine ⟨(show (0:Int) < 2 by decide),_,_,.inl (aj.of gO),C8,H0,p,_,rfl,Gz,by omega,fun D os H3 x_ q1 wn q5 fb=>?_⟩
  have q6:Sm p p H H3:=Nt.trans fb
  have EL:=Nr.nx Gz fb
  have A3:=wn.len
  have qc:D≠p:=Gz.ne x_
  refine Or.inl ⟨⟨_,aj.of q1⟩,fun D2 Aw=>?_⟩
  have EM:D2≠p:=q5.ne Aw
  have Nu:D2≠D:=fun e=>by rw [e,q1] at Aw;cases Aw
  have Nv:H D2=none:=q6.free Aw EM EM
  have f2:H0 D2=none:=q5.free Aw
  have X8:D2≠nm:=fun e=>by rw [e,EL.e] at Aw;cases Aw
  refine hV (cH (os.map V.str)) (fun i τ H3=>∃ (v:Option V) (xs:List V) (rs:List (Str×V)),τ=[v,some (.ref p),some (.ref nm)]/\H3 D2=some (.lst xs)/\iw H3 xs (bj rs)/\rs.map (·.1)=os.take i/\(∀ r∈rs,∃ y,r.2=.str y/\y∈ns/\Wd y)/\H3 D=some (.lst (os.map V.str))/\b_ K H0 H3 p (t+1+5+i)/\Sm p p H H3/\oi H3 nm ns)
   ⟨none,[],[],rfl,aA,iQ,rfl,(fun _ h=>nomatch h),by rw [aF Nu.symm];exact q1,(q5.same (aa.upd Aw _)).mono (by omega),q6.upd Nv,EL.same (aa.upd Aw _)⟩ (by rintro i τ H2 _ ⟨_,_,_,_,_,_,_,_,q,_⟩;exact aj.of q) ?_ ?_
  ·rintro i τ H4 hi z0;refine hdn fun G9 hG=>?_;obtain ⟨v,xs,rs,rfl,r1,r2,A6,r3,r4,r5,r6,Ca⟩:=z0;refine hG ?_
   rw [Ql] at hi
   rw [iI os i hi]
   have C5:os.take (i+1)=os.take i++[os.getD i ""]:=by
    rw [Qs,Qb,Qa hi];rfl
   generalize os.getD i ""=z at C5
   have Ag:rs.length=i:=by have:=congrArg List.length A6;simp at this;omega
   have ph:xs.length=i:=by have:=r2.1;simp at this;omega
   refine .inl ⟨_,.inl (aj.of Ca.e),H0,p,_,t+1+5+i,rfl,r5,⟨by rw [Ql];omega,by rw [Ql];omega⟩,by omega,fun r H5 a0 a1 Jd ic=>?_⟩
   rw [Ql] at a1
   have vt:=Ca.nx r5 ic
   obtain ⟨n,X9,yc,IG⟩:=vt.at r a0 a1
   refine ⟨_,_,.inl (aj.of vt.e),X9,(show 2<=sizeLine by decide),fun b hb=>?_⟩
   have g1:=ic _ _ r1 EM EM
   have g4:=ic _ _ r4 qc qc
   have Je:D2≠b:=aR g1 hb
   have X_:D≠b:=aR g4 hb
   have vy:Tk H4 H5:=r5.ts ic
   have jn:Tk H4 (upd (upd H5 b (.tup [.str z,.str n])) D2 (.lst (xs++[.ref b]))):=(vy.trans (aa.upd hb _).ts).set (by rw [aF Je];exact g1) (by intro _ z;cases z)
   have Yb:upd (upd H5 b (.tup [.str z,.str n])) D2 (.lst (xs++[.ref b])) b=some (.tup [.str z,.str n]):=by rw [aF Je.symm];exact aA
   have Yc:oi (upd (upd H5 b (.tup [.str z,.str n])) D2 (.lst (xs++[.ref b]))) nm ns:=⟨by rw [aF X8.symm];exact (aa.upd hb _) _ _ vt.e,vt.ne,vt.few,vt.wd⟩
   refine ⟨xs,by rw [aF Je];exact g1,by omega,_,xs++[.ref b],rs++[(z,.str n)],rfl,aA,gC (r2.ts jn) Yb,by rw [Qm,A6,C5];rfl,fun r' ia=>?_,by rw [aF Nu.symm,aF X_];exact g4,((Jd.same (aa.upd hb _)).put EM f2),((r6.trans ic).trans (aa.upd hb _).sm).upd Nv,Yc⟩
   rcases List.mem_append.mp ia with hx | hx
   ·exact r3 r' hx
   ·rw [List.mem_singleton.mp hx]
    exact ⟨n,rfl,QC yc,IG⟩
  ·rintro τ H4 z0;refine hdn fun G9 hG=>?_;obtain ⟨v,xs,rs,rfl,r1,r2,A6,r3,r4,r5,r6,Ca⟩:=z0;refine hG ?_
   rw [Ql] at A6 r5
   rw [Qo] at A6
   have Ag:rs.length=os.length:=by rw [<- A6,Ql]
   have ph:xs.length=os.length:=by have:=r2.1;simp at this;omega
   refine ⟨D2,xs,rfl,.inl ⟨aj.of r1,fun c hc=>⟨(show 2<=sizeLine by decide),fun b hb=>?_⟩⟩⟩
   have s5:=aa.upd hc (.tup xs)
   have s6:=aa.upd hb (.tup [.str so,.ref c])
   have gc:=s6 _ _ (aA:upd H4 c (.tup xs) c=some (.tup xs))
   have ir:∀ r'∈rs,r'.1∈os:=fun r' ia=>by rw [<- A6];exact List.mem_map.mpr ⟨r',ia,rfl⟩
   have tk:=s5.ts.trans s6.ts
   have Yd:=Vg (r2.ts tk) (fun r' ia=>(Ni _ (wn.ww _ (ir r' ia))).1) (fun r' ia=>by obtain ⟨y,e1,e2,_⟩:=r3 r' ia;exact ⟨y,e1,e2,C6 y e2⟩) (by rw [A6];exact wn.dj)
   exact k _ _ (tX X7 aA gc (by omega) Yd (fun q hq=>by obtain ⟨q',jz,rfl⟩:=List.mem_map.mp hq;exact wn.ww _ (ir q' jz)) (fun _ h=>nomatch h)) ((r5.same (s5.trans s6)).mono (by omega)) (r6.trans (s5.trans s6).sm)
def N8:List Str:=["x","xa","xb","y","ya","z","ka","kb"]
theorem nZ:∀ z∈N8,isName z=true/\Wd z:=fun z hz=>by
 simp only [N8,Qp,QA,or_false] at hz
 rcases hz with rfl | rfl | rfl | rfl | rfl | rfl | rfl | rfl<;>exact ⟨by decide+kernel,g9 (by decide) (by decide)⟩
theorem Ye:N8.Nodup:=by decide+kernel
theorem yN {ys:List V} {l:List Str} (h:ys.Perm (l.map V.str)):∃ zs:List Str,zs.Perm l/\ys=zs.map V.str:=by
 refine ⟨ys.map BU,?_,?_⟩
 ·have:=h.map BU
  rw [Qn] at this
  have e:(BU∘V.str)=(id:Str->Str):=rfl
  rw [e,List.map_id] at this
  exact this
 ·rw [Qn]
  have:∀ y∈ys,(V.str∘BU) y=y:=fun y hy=>by
   obtain ⟨z,_,rfl⟩:=List.mem_map.mp (h.mem_iff.mp hy)
   rfl
  rw [List.map_congr_left this,List.map_id']
theorem qO {β:Type} {R:α->β->Prop} {xs ys:List α} (p:ys.Perm xs):∀ {rs:List β},Paired R xs rs->∃ rs',rs'.Perm rs/\Paired R ys rs':=by
 induction p with
 | nil=>intro rs h;cases h;exact ⟨[],.refl _,.nil⟩
 | cons x p ih=>
  intro rs h
  cases h with
  | cons a b=>
   obtain ⟨rs',q1,q2⟩:=ih b
   exact ⟨_::rs',q1.cons _,.cons a q2⟩
 | swap x y l=>
  intro rs h
  cases h with
  | cons a h=>
   cases h with
   | cons b h=>exact ⟨_::_::_,.swap _ _ _,.cons b (.cons a h)⟩
 | trans p1 p2 Yg Yh=>
  intro rs h
  obtain ⟨r1,a1,b1⟩:=Yh h
  obtain ⟨r2,a2,b2⟩:=Yg b1
  exact ⟨r2,a2.trans a1,b2⟩
theorem jU {α β γ:Type} {R:α->β->Prop} {g:γ->β}:∀ {xs:List α} {rs:List γ},Paired R xs (rs.map g)->Paired (fun x r=>R x (g r)) xs rs
 | [],[],.nil=>.nil
 | _::_,_::_,.cons a b=>.cons a (jU b)
theorem lT {α β γ:Type} {R:α->β->Prop} {g:γ->β}:∀ {xs:List α} {rs:List γ},Paired (fun x r=>R x (g r)) xs rs->Paired R xs (rs.map g)
 | [],[],.nil=>.nil
 | _::_,_::_,.cons a b=>.cons a (lT b)
theorem mV {xs ys:List V} {rs:List (Str×V)} (h:iw H xs (bj rs)) (p:ys.Perm xs):∃ rs',rs'.Perm rs/\iw H ys (bj rs'):=by
 obtain ⟨rs',q1,q2⟩:=qO p (jU (fZ.mp h))
 exact ⟨rs',q1,fZ.mpr (lT q2)⟩
def Nx (K:Q0):Sp:=fun vs H Q _=>∃ (H0:Hp) (p:Addr) (most:Int) (t:Nat),vs=[.ref p,.int most]/\b_ K H0 H p t/\t+600 < 900000/\(1<=most/\most<=8)/\
 ∀ (a:Addr) (xs:List V) (rows:List aq) (ns:List Str) (H':Hp),RT H' a xs rows ns WW->(ns.length:Int)<=most->(∀ n∈ns,n∈N8)->b_ K H0 H' p (t+600)->Sm p p H H'->Q (.ref a) H'
theorem lX (T:Txt K mg w):a_ P w K mg base 5 "_law_telling" ["_law_pen","_law_most"] (Nx K):=by
 have aN:a_ P w K mg base 2 "_law_next" ["_law_pen","_law_many"] (vq K):=bL T
 have eJ:a_ P w K mg base 3 "_law_turned" ["_law_pen","_law_some"] (I_ K):=iY T
 have j7:a_ P w K mg base 4 "_law_head" ["_law_pen","_law_names","_law_ahead"] (Jb K):=kY T
 refine T.nE.fk cI (fun vs H Q E h=>?_) (fun f bc A outer s H vs Q E hr h=>?_)
 ·obtain ⟨H0,p,most,t,rfl,_⟩:=h
  rfl
 ·refine hdn fun G9 hG=>?_;obtain ⟨H0,p,most,t,rfl,hn,ht,⟨yq,hm2⟩,k⟩:=h;refine hG ?_
  have hu:=aU hr
  have bz:=Qx (aU hr)
  have hsz:sizeLine=16777216:=QL
  refine ⟨_,(aC (aX (i:=2) cI.nd rfl (Or.inl rfl) (bX bW aG (bA aN (hr.mono (by decide)) (aB (zv 0) (aB (zv 1) ae)))))
   (aC (aX (i:=3) cI.nd rfl (Or.inl rfl) (fM (rF K) (bA eJ (hr.mono (by decide)) (aB (zv 0) (UG (cP (aD aS (aD aS (aD aS (aD aS (aD aS (aD aS (aD aS (aD aS ae))))))))) ae))) fS (fT (zv 2))))
   (aC (aX (i:=4) cI.nd rfl (Or.inl rfl) (cP ae))
   (aC (fU PassesOwn.never rfl (lV (by rfl) T.pF (aB (zv 2) ae)) (aJ (i:=5) cI.nd rfl (Or.inl rfl)) (aE (dR (lW K QH QJ QK bZ (zv 4) (bD (aT (aH (aY (aZ K) (zv 3) (zv 5) (fun _ _=>rfl)) (aP (bA j7 (hr.mono (by decide)) (aB (zv 0) (aB (zv 3) (aB (zv 5) ae)))) ae))) ae)))))
   (aE (aQ (bM (cV K) (by rfl) T.dP QG (aP (bA eJ (hr.mono (by decide)) (aB (zv 0) (aB (zv 4) ae))) ae)))))))),?_⟩
  refine aO ⟨H0,p,most,t,rfl,hn,⟨by omega,by omega⟩,by omega,fun r H1 r0 r1 hn1 kq=>?_⟩
  obtain ⟨i0,rfl⟩:∃ i:Nat,r=(i:Int):=⟨r.toNat,by omega⟩
  refine aO ⟨(show 8<=sizeLine by decide),fun l1 hl1=>?_⟩
  have s1:=aa.upd hl1 (.lst (N8.map V.str))
  have g1:upd H1 l1 (.lst (N8.map V.str)) l1=some (.lst (N8.map V.str)):=aA
  have hn2:=hn1.same s1
  have iq:=kq.trans s1.sm
  refine ⟨H0,p,l1,N8.map V.str,_,rfl,hn2,by omega,.inl (aj.of g1),(by decide),fun L ys H2 hL gL pm fq fb=>?_⟩
  obtain ⟨zs,Jf,rfl⟩:=yN pm
  have Gx:=iq.trans fb
  have Jg:zs.length=8:=Jf.length_eq
  refine ⟨1+(i0:Int),rfl,Or.inr (Or.inl ⟨L,zs.map V.str,rfl,aj.of gL,fun N hN=>?_⟩)⟩
  have Yi:ou (zs.map V.str) none (some (1+(i0:Int)))=(zs.take (1+i0)).map V.str:=by
   rw [show (1+(i0:Int))=((1+i0:Nat):Int) by omega,pD,List.map_take]
  rw [Yi]
  have sN:=aa.upd hN (.lst ((zs.take (1+i0)).map V.str))
  have gN:upd H2 N (.lst ((zs.take (1+i0)).map V.str)) N=some (.lst ((zs.take (1+i0)).map V.str)):=aA
  have gp:=fq.same sN
  have Jh:=Gx.trans sN.sm
  generalize upd H2 N (.lst ((zs.take (1+i0)).map V.str))=H3 at sN gN gp Jh
  have Ji:(zs.take (1+i0)).length=1+i0:=by rw [List.length_take];omega
  have EN:∀ n∈zs.take (1+i0),n∈N8:=fun n hn=>Jf.mem_iff.mp (List.mem_of_mem_take hn)
  have Ny:(zs.take (1+i0)).Nodup:=(Jf.nodup_iff.mpr Ye).sublist (List.take_sublist _ _)
  generalize zs.take (1+i0)=ns at gN Ji EN Ny
  have tn:oi H3 N ns:=⟨gN,by intro e;rw [e] at Ji;simp at Ji;omega,by omega,fun n hn=>(nZ n (EN n hn)).2⟩
  refine aO ⟨(show 0<=sizeLine by decide),fun R hR=>?_⟩
  have oj:R≠p:=gp.ne hR
  have Yj:R≠N:=fun e=>by rw [e,gN] at hR;cases hR
  have EO:H R=none:=Jh.free hR oj oj
  have fR:H0 R=none:=gp.free hR
  have sR:=aa.upd hR (.lst [])
  refine bC (fun σ' H'=>∃ (v5:Option V) (xs:List V) (rs:List (Str×V)),σ'=[some (.ref p),some (.int most),some (.int (1+(i0:Int))),some (.ref N),some (.ref R),v5]/\H' R=some (.lst xs)/\iw H' xs (bj rs)/\rs.map (·.1)=ns/\j_ H' ns WW rs/\b_ K H0 H' p (t+101+20*8)/\Sm p p H H') ?_ ?_
  ·intro nx dc
   refine ⟨1+(i0:Int),rfl,by omega,by omega,cZ (jY 0 (1+(i0:Int)).toNat) (fun i σ' H'=>∃ (v5:Option V) (xs:List V) (rs:List (Str×V)),σ'=[some (.ref p),some (.int most),some (.int (1+(i0:Int))),some (.ref N),some (.ref R),v5]/\H' R=some (.lst xs)/\iw H' xs (bj rs)/\rs.map (·.1)=ns.take i/\j_ H' ns WW rs/\oi H' N ns/\b_ K H0 H' p (t+101+20*i)/\Sm p p H H')
    ⟨none,[],[],rfl,aA,iQ,rfl,⟨(fun _ h=>nomatch h),(fun _ h=>nomatch h)⟩,tn.same sR,(gp.same sR).mono (by omega),Jh.trans sR.sm⟩ (fun _ _ _ _ _=>True.intro) ?_ ?_⟩
   ·rintro i σ' H4 hi z0;refine hdn fun G9 hG=>?_;obtain ⟨v5,xs,rs,rfl,q1,q2,q3,q4,Ca,q6,q7⟩:=z0;refine hG ?_
    have cj:i < ns.length:=by omega
    have e0:(0+(i:Int))=(i:Int):=by omega
    rw [e0]
    have yc:ns[i]? =some ns[i]:=Qa cj
    have GA:ns[i]∈ns:=Qj cj
    generalize ns[i]=nm at yc GA
    have ph:xs.length=i:=by
     have h1:=q2.1
     have h2:=congrArg List.length q3
     simp at h1 h2
     omega
    refine ⟨.inl ⟨rfl,_,aj.of q1⟩,_,.str nm,.inl (aj.of Ca.e),fO (by rw [Qq,yc];rfl),H0,p,N,i,_,ns,rfl,q6,by omega,Ca,(fun z hz=>(nZ z (EN z hz)).1),by omega,fun hv H5 hg jx gj=>⟨(show 2<=sizeLine by decide),fun c hc=>?_⟩⟩
    have g4:H5 R=some (.lst xs):=gj _ _ q1 oj oj
    have vt:=Ca.nx q6 gj
    have Jj:R≠c:=aR g4 hc
    refine ⟨R,xs,.ref c,rfl,rfl,by rw [aF Jj];exact g4,by omega,?_⟩
    have C9:Tk H5 (upd (upd H5 c (.tup [.str nm,hv])) R (.lst (xs++[.ref c]))):=((aa.upd hc _).ts).set (by rw [aF Jj];exact g4) (by intro _ z;cases z)
    have Yk:upd (upd H5 c (.tup [.str nm,hv])) R (.lst (xs++[.ref c])) c=some (.tup [.str nm,hv]):=by rw [aF Jj.symm];exact aA
    have Nz:=(q6.ts gj).trans C9
    refine ⟨_,xs++[.ref c],rs++[(nm,hv)],rfl,aA,gC (q2.ts Nz) Yk,?_,?_,⟨by rw [aF Yj.symm,aF (aR vt.e hc)];exact vt.e,vt.ne,vt.few,vt.wd⟩,((jx.same (aa.upd hc _)).put oj fR).mono (by omega),((q7.trans gj).trans (aa.upd hc _).sm).upd EO⟩
    ·rw [Qm,q3,Qs,yc];rfl
    ·have:=((q4.tk Nz).add (n:=nm) (v:=hv) GA ((hg.tk C9).imp fun o h y e=>by obtain ⟨i',h1,h2⟩:=h y e;exact ⟨i',i,h1,h2,yc⟩))
     exact this.perm fun r hr=>by
      rcases List.mem_append.mp hr with hr | hr
      ·exact Qh _ hr
      ·rw [List.mem_singleton.mp hr];exact List.mem_cons_self
   ·rintro σ' H' z0;refine hdn fun G9 hG=>?_;obtain ⟨v5,xs,rs,rfl,q1,q2,q3,q4,q5,q6,q7⟩:=z0;refine hG ?_
    have en:(1+(i0:Int)).toNat=ns.length:=by omega
    rw [en,Qo] at q3
    exact dc _ _ ⟨v5,xs,rs,rfl,q1,q2,q3,q4,q6.mono (by omega),q7⟩
  ·rintro σ' H4 z0;refine hdn fun G9 hG=>?_;obtain ⟨v5,xs,rs,rfl,q1,q2,q3,q4,q6,q7⟩:=z0;refine hG ?_
   have Ag:rs.length=ns.length:=by rw [<- q3,Ql]
   have ph:xs.length=rs.length:=by have:=q2.1;simpa using this
   refine ⟨H0,p,R,xs,_,rfl,q6,by omega,.inl (aj.of q1),by omega,fun L2 ys H5 NB Jk Jl jx gj=>⟨L2,ys,rfl,.inl ⟨aj.of Jk,fun a ha=>?_⟩⟩⟩
   have s6:=aa.upd ha (.tup ys)
   have jn:=(q6.ts gj).trans s6.ts
   obtain ⟨rs',pr,pa⟩:=mV (q2.ts jn) Jl
   obtain ⟨rows,rt⟩:=RT.of aA pa (by rw [<- q3];exact pr.map _) Ny (fun n hn=>nZ n (EN n hn)) (by omega) (by omega) ((q4.tk jn).perm fun r hr=>pr.mem_iff.mp hr)
   exact k a _ rows ns _ rt (by omega) EN ((jx.same s6).mono (by omega)) ((q7.trans gj).trans s6.sm)
theorem Jm {rs:List (Str×V)} (i:Nat) (h:i < (bj rs).length) (h':i < rs.length):(bj rs)[i]=(Sum.inr rs[i].1,rs[i].2):=by simp [bj]
def NC (H:Hp) (a:Addr) (xs:List V) (rs:List (Str×V)):Prop:=H a=some (.tup xs)/\iw H xs (bj rs)/\rs.length<=1000
def ND:Sp:=fun vs H Q _=>∃ (a:Addr) (xs:List V) (rs:List (Str×V)),vs=[.ref a]/\NC H a xs rs/\∀ d,H d=none->Q (.ref d) (upd H d (.dK (dictOf (bj rs))))
theorem sP (T:Txt K mg w):a_ P w K mg base 1 "heads_of" ["T"] ND:=by
 refine T.tH.fk qU (fun vs H Q E h=>?_) (fun f bc A outer s H vs Q E hr h=>?_)
 ·obtain ⟨a,xs,rs,rfl,_⟩:=h
  rfl
 ·refine hdn fun G9 hG=>?_;obtain ⟨a,xs,rs,rfl,⟨hx,hp,fc⟩,k⟩:=h;refine hG ?_
  refine ⟨_,(aE (aQ (FO (own:=["name","head"]) (idx:=[]) (N':=["name","head"]) (dH (bh gK) (["T"]:List Str) (by decide+kernel)) rfl (lJ K (zv 0)) (fun _ _ _ _ _ _=>(bO K (n:=2) rfl (aI (aJ (i:=0) (show List.Nodup (["name","head"]:List Str) by decide+kernel) rfl (Or.inl rfl)) (aI (aJ (i:=1) (show List.Nodup (["name","head"]:List Str) by decide+kernel) rfl (Or.inl rfl)) bE)))) (fun _ _ _ _ _ _=>eA) (fun _ _ _ _ _ _=>(zv 0)) (fun _ _ _ _ _ _=>(zv 1))))),?_⟩
  refine Or.inr ⟨⟨xs,af.of hx⟩,fun D hD=>?_⟩
  have J:=cM (K:=K) (a:=a) xs
  have hsz:sizeLine=16777216:=QL
  have ph:xs.length=rs.length:=by have:=hp.1;simpa using this
  have sD:∀ o,aa H (upd H D o):=fun o=>aa.upd hD o
  refine ⟨fun i m τ H'=>m=xs.length - i/\i<=xs.length/\(∃ v1 v2,τ=[v1,v2])/\H'=upd H D (.dK (dictOf ((bj rs).take i))),⟨_,rfl,Nat.zero_le _,⟨none,none,rfl⟩,rfl⟩,?_⟩
  rintro i m τ H' ⟨rfl,hi,⟨v1,v2,rfl⟩,rfl⟩
  obtain ⟨k1,k2⟩:=J _ (show af K (upd H D _) a xs from af.of (sD _ _ _ hx))
  by_cases ay:i < xs.length
  ·have gy:i < rs.length:=by omega
   have Ak:i < (bj rs).length:=by simpa using gy
   refine .inr ⟨(k1 i ay).1,fun τ' H'=>(∃ v1 v2,τ'=[v1,v2])/\H'=upd H D (.dK (dictOf ((bj rs).take (i+1)))),fun τ' H' ⟨h1,h2⟩=>⟨xs.length - (i+1),by omega,rfl,ay,h1,h2⟩,fun x H' y=>?_⟩
   obtain ⟨e,e2⟩:=(k1 i ay).2 x H' y
   subst e e2
   obtain ⟨b,hb1,uo⟩:=hp.2 i Ak
   rw [Jm i Ak gy] at uo
   have eb:xs.getD i .ai=.ref b:=by rw [Qb,hb1];rfl
   show zk K 2 _ (xs.getD i .ai) _ _ _
   rw [eb]
   refine ⟨b,_,rfl,af.of (sD _ _ _ uo),rfl,_,_,rfl,_,_,rfl,rfl,?_⟩
   refine ⟨dictOf ((bj rs).take i),.inr rs[i].1,rfl,aA,?_,⟨_,_,rfl⟩,?_⟩
   ·have:=j4 ((bj rs).take i)
    rw [List.length_take] at this
    omega
   ·rw [lM,l7 (bj rs) i Ak,Jm i Ak gy]
  ·have e:i=xs.length:=by omega
   subst e
   refine .inl ⟨k2,?_⟩
   rw [List.take_of_length_le (by simp;omega)]
   exact k D hD
theorem Yl {xs:List V} {rs:List (Str×V)} {nx:Str->Option Str} {ρ:Str->Nat} (g:o_ H a xs rs nx ρ):NC H a xs rs:=⟨g.at_,g.ps,by have:=g.len;omega⟩
def EQ:Sp:=fun vs H Q _=>∃ (a:Addr) (xs:List V) (rs:List (Str×V)) (nx:Str->Option Str) (ρ:Str->Nat) (x:Str),vs=[.ref a,.str x]/\o_ H a xs rs nx ρ/\x∈rs.map (·.1)/\∀ H',aa H H'->Q (.str (fg nx rs.length x)) H'
def Jo:Sp:=fun vs H Q _=>∃ (a:Addr) (xs:List V) (rs:List (Str×V)) (nx:Str->Option Str) (ρ:Str->Nat) (x:Str),vs=[.ref a,.str x]/\o_ H a xs rs nx ρ/\x∈rs.map (·.1)/\
 ∀ v H',aa H H'->cg (dictOf (bj rs)) (.inr (fg nx rs.length x))=some v->Q v H'
def NE (K:Q0):Sp:=fun vs H Q _=>∃ (H0:Hp) (p a:Addr) (t:Nat) (xs:List V) (rows:List aq) (ns ws:List Str),vs=[.ref p,.ref a]/\b_ K H0 H p t/\t < 900000/\RT H a xs rows ns ws/\
 ∀ (n:Str) (H':Hp),n∈ns->b_ K H0 H' p (t+1)->Sm p p H H'->Q (.str n) H'
theorem u7 (T:Txt K mg w):a_ P w K mg base 3 "_law_any" ["_law_pen","_law_told"] (NE K):=by
 have aN:a_ P w K mg base 2 "_law_next" ["_law_pen","_law_many"] (vq K):=bL T
 refine T.yF.fk vC (fun vs H Q E h=>?_) (fun f bc A outer s H vs Q E hr h=>?_)
 ·refine hdn fun G9 hG=>?_;obtain ⟨H0,p,a,t,xs,rows,ns,ws,rfl,_⟩:=h;refine hG ?_
  rfl
 ·refine hdn fun G9 hG=>?_;obtain ⟨H0,p,a,t,xs,rows,ns,ws,rfl,hn,ht,rt,k⟩:=h;refine hG ?_
  have hu:=aU hr
  have bz:=Qx (aU hr)
  have hsz:sizeLine=16777216:=QL
  have Ag:=rt.rl
  have ph:=rt.rv.len
  have pos:=rt.pos
  have few:=rt.few
  refine ⟨_,(aE (aQ (aY (aZ K) (aY (aZ K) (zv 1) (bA aN (hr.mono (by decide)) (aB (zv 0) (aP (bK (bT K) (by rfl) T.uw PySem.boot_len (aB (zv 1) ae)) ae))) (fun _ _=>rfl)) aG (fun _ _=>rfl)))),?_⟩
  refine .inl ⟨_,.inr (af.of rt.at_),H0,p,_,t,rfl,hn,⟨by omega,by omega⟩,by omega,fun r H1 r0 r1 hn1 kq=>?_⟩
  obtain ⟨i,rfl⟩:∃ i:Nat,r=(i:Int):=⟨r.toNat,by omega⟩
  have A7:=rt.tk (hn.ts kq)
  obtain ⟨b,v,q1,q2,q3⟩:=A7.rv.at_ i (by omega) (by omega)
  refine ⟨xs,.ref b,.inr (af.of A7.at_),fO (by rw [Qa (by omega),q1]),_,_,.inr (af.of q2),aK _ _,k _ H1 (A7.nm.mem_iff.mp (List.mem_map.mpr ⟨_,Qj (by omega),rfl⟩)) hn1 kq⟩
theorem cR (T:Txt K mg w):a_ P w K mg base 1 "_law_row_here" ["_law_told","_law_name"] EQ:=by
 refine T.lU.fk dU (fun vs H Q E h=>?_) (fun f bc A outer s H vs Q E hr h=>?_)
 ·refine hdn fun G9 hG=>?_;obtain ⟨a,xs,rs,nx,ρ,x,rfl,_⟩:=h;refine hG ?_
  rfl
 ·refine hdn fun G9 hG=>?_;obtain ⟨a,xs,rs,nx,ρ,x,rfl,g,hx,k⟩:=h;refine hG ?_
  have hu:=aU hr
  have bz:=Qx hu
  refine ⟨_,(aC (aX (i:=2) dU.nd rfl (Or.inl rfl) (bM (eG rfl) (by rfl) T.pR PyProof.Rows.boot_dict (aB (zv 0) ae)))
   (aC (iN PassesOwn.never (aL (bP bz) (aY (aZ K) (cG hu (zv 2) (zv 1) (fun _ _=>rfl)) aG (fun _ _=>rfl)) aS (cy _)) (aE (aX (i:=1) dU.nd rfl (Or.inl rfl) (aY (aZ K) (cG hu (zv 2) (zv 1) (fun _ _=>rfl)) aG (fun _ _=>rfl)))))
   (aE (aQ (zv 1))))),?_⟩
  have hsz:sizeLine=16777216:=QL
  have NF:=g.len
  refine aO ⟨a,xs,bj rs,rfl,g.at_,g.ps,(by simp;omega),fun d hd=>?_⟩
  have s1:aa H (upd H d (.dK (dictOf (bj rs)))):=aa.upd hd _
  have g1:=g.ts s1.ts
  refine ⟨fun m σ H'=>H'=upd H d (.dK (dictOf (bj rs)))/\∃ y,σ=[some (.ref a),some (.str y),some (.ref d)]/\y∈rs.map (·.1)/\fg nx rs.length y=fg nx rs.length x/\m=ρ y,⟨_,rfl,x,rfl,hx,rfl,rfl⟩,?_⟩
  rintro m σ H' ⟨rfl,y,rfl,hy,he,rfl⟩
  obtain ⟨v,hv,lu⟩:=g1.get hy
  have Cb:fu (upd H d (.dK (dictOf (bj rs)))) d (.str y) (some v):=by
   rw [<- lu];exact fu.k (k:=Sum.inr y) aA
  obtain ⟨b,rfl,hb⟩:=g1.as _ hv
  rcases hb with ⟨z,ys,h1,h2,h3⟩ | ⟨z,h1,h3⟩
  ·refine ⟨d,_,rfl,Cb,_,.str z,.inr (af.of h1),aK _ _,rfl,_,rfl,?_⟩
   rw [QE,Qw (fun e=>h2 (V.str.inj e))]
   refine ig ?_
   have e2:fg nx rs.length y=y:=dM _ h3
   have:=k _ s1
   rw [<- he,e2] at this
   exact this
  ·refine ⟨d,_,rfl,Cb,_,.str "as",.inr (af.of h1),aK _ _,rfl,_,rfl,?_⟩
   refine w_ ?_
   obtain ⟨i1,i2⟩:=g1.BP _ hv z h3
   refine ⟨fun σ' Av=>∃ m',m' < ρ y/\Av=upd H d (.dK (dictOf (bj rs)))/\∃ y,σ'=[some (.ref a),some (.str y),some (.ref d)]/\y∈rs.map (·.1)/\fg nx rs.length y=fg nx rs.length x/\m'=ρ y,fun _ _ h=>h,?_⟩
   refine ⟨d,_,rfl,Cb,_,.str z,.inr (af.of h1),rfl,_,i2,rfl,z,rfl,i1,?_,rfl⟩
   rw [<- he]
   exact g1.LP hy h3
theorem gA (T:Txt K mg w):a_ P w K mg base 2 "_law_head_here" ["_law_told","_law_name"] Jo:=by
 have bI:a_ P w K mg base 1 "_law_row_here" ["_law_told","_law_name"] EQ:=cR T
 refine T.lE.fk kJ (fun vs H Q E h=>?_) (fun f bc A outer s H vs Q E hr h=>?_)
 ·refine hdn fun G9 hG=>?_;obtain ⟨a,xs,rs,nx,ρ,x,rfl,_⟩:=h;refine hG ?_
  rfl
 ·refine hdn fun G9 hG=>?_;obtain ⟨a,xs,rs,nx,ρ,x,rfl,g,hx,k⟩:=h;refine hG ?_
  have hu:=aU hr
  have hsz:sizeLine=16777216:=QL
  have NF:=g.len
  refine ⟨_,(aE (aQ (cG hu (bM (eG rfl) (by rfl) T.pR PyProof.Rows.boot_dict (aB (zv 0) ae)) (bA bI (hr.mono (by decide)) (aB (zv 0) (aB (zv 1) ae))) (fun _ _=>rfl)))),?_⟩
  refine ⟨a,xs,bj rs,rfl,g.at_,g.ps,(by simp;omega),fun d hd=>?_⟩
  have s1:aa H (upd H d (.dK (dictOf (bj rs)))):=aa.upd hd _
  refine ⟨a,xs,rs,nx,ρ,x,rfl,g.ts s1.ts,hx,fun H' s2=>?_⟩
  obtain ⟨v,hv,lu⟩:=g.get (g.BR hx).1
  refine ⟨d,v,rfl,?_,k v _ (s1.trans s2) lu⟩
  rw [<- lu];exact fu.k (k:=Sum.inr (fg nx rs.length x)) (s2 _ _ aA)
def NG:Sp:=fun vs H Q _=>∃ (a:Addr) (xs:List V) (rows:List aq) (ns ws:List Str) (x:Str),vs=[.ref a,.str x]/\RT H a xs rows ns ws/\(∀ z∈ws,Wd z)/\x∈ns/\
 ∀ (L:Addr) (us:List V) (H':Hp),H L=none->aa H H'->H' L=some (.lst us)->MV H' us (gn rows x)->Q (.ref L) H'
theorem xS (T:Txt K mg w):a_ P w K mg base 3 "_law_on" ["_law_told","_law_name"] NG:=by
 have bI:a_ P w K mg base 1 "_law_row_here" ["_law_told","_law_name"] EQ:=cR T
 have bV:a_ P w K mg base 2 "_law_head_here" ["_law_told","_law_name"] Jo:=gA T
 refine T.XN.fk eQ (fun vs H Q E h=>?_) (fun f bc A outer s H vs Q E hr h=>?_)
 ·refine hdn fun G9 hG=>?_;obtain ⟨a,xs,rows,ns,ws,x,rfl,_⟩:=h;refine hG ?_
  rfl
 ·refine hdn fun G9 hG=>?_;obtain ⟨a,xs,rows,ns,ws,x,rfl,rt,hw,hx,k⟩:=h;refine hG ?_
  have hu:=aU hr
  have bz:=Qx (aU hr)
  have hsz:sizeLine=16777216:=QL
  obtain ⟨rs,g,nm,rl,lu⟩:=rt.good hw
  have hm:∀ z,z∈ns↔z∈rs.map (·.1):=fun z=>by rw [nm];exact rt.nm.mem_iff.symm
  obtain ⟨e1,e2,e3⟩:=rt.BR hw hx
  have few:=rt.few
  refine ⟨_,(aC (aX (i:=2) eQ.nd rfl (Or.inl rfl) (bA bV (hr.mono (by decide)) (aB (zv 0) (aB (zv 1) ae))))
   (aC (bN (aL (bP bz) (aY (aZ K) (zv 2) aG (fun _ _=>rfl)) aS (cy _)) (aE (aX (i:=3) eQ.nd rfl (Or.inl rfl) (cP (bD (aT (bD (aT (aD aS ae)) (aH (aY (aZ K) (zv 2) aG (fun _ _=>rfl)) ae))) (bD (aT (bD (aT (aD aS ae)) (aH (aY (aZ K) (zv 2) aG (fun _ _=>rfl)) ae))) ae))))) (aE (bN (aL (bP bz) (aY (aZ K) (zv 2) aG (fun _ _=>rfl)) aS (cy _)) (aE (HN (i:=3) (own:=["_law_word","_law_other"]) (idx:=[]) (N':=["_law_word","_law_other"]) (dH (bh g7) (["_law_told","_law_name","_law_here","_law_found"]:List Str) (by decide+kernel)) rfl (lJ K (aY (aZ K) (zv 2) aG (fun _ _=>rfl))) (fun _ _ _ _ _ _=>(bO K (n:=2) rfl (aI (aJ (i:=0) (show List.Nodup (["_law_word","_law_other"]:List Str) by decide+kernel) rfl (Or.inl rfl)) (aI (aJ (i:=1) (show List.Nodup (["_law_word","_law_other"]:List Str) by decide+kernel) rfl (Or.inl rfl)) bE)))) (fun _ _ _ _ _ _=>eA) (fun _ _ _ _ _ _=>(aT (bD (aT (aD aS (aB (zv 0) ae))) (aB (zv 1) ae)))) eQ.nd rfl rfl)) (aE (bN (aL (bP bz) (aY (aZ K) (zv 2) aG (fun _ _=>rfl)) aS (cy _)) (aE (HN (i:=3) (own:=["_law_word","_law_other"]) (idx:=[]) (N':=["_law_word","_law_other"]) (dH (bh g7) (["_law_told","_law_name","_law_here","_law_found"]:List Str) (by decide+kernel)) rfl (lJ K (aY (aZ K) (zv 2) aG (fun _ _=>rfl))) (fun _ _ _ _ _ _=>(bO K (n:=2) rfl (aI (aJ (i:=0) (show List.Nodup (["_law_word","_law_other"]:List Str) by decide+kernel) rfl (Or.inl rfl)) (aI (aJ (i:=1) (show List.Nodup (["_law_word","_law_other"]:List Str) by decide+kernel) rfl (Or.inl rfl)) bE)))) (fun _ _ _ _ _ _=>eA) (fun _ _ _ _ _ _=>(aT (bD (aT (aD aS (aB (zv 0) ae))) (aB (zv 1) ae)))) eQ.nd rfl rfl)) (aE (aX (i:=3) eQ.nd rfl (Or.inl rfl) (cP ae))))))))
   (aE (aQ (nC (own:=["_law_step","_law_other"]) (idx:=[0]) (N':=["_law_step","_law_other","_law_told"]) (dH (bh g7) (["_law_told","_law_name","_law_here","_law_found"]:List Str) (by decide+kernel)) rfl (lJ K (zv 3)) (fun _ _ _ _ _ _=>(bO K (n:=2) rfl (aI (aJ (i:=0) (show List.Nodup (["_law_step","_law_other","_law_told"]:List Str) by decide+kernel) rfl (Or.inl rfl)) (aI (aJ (i:=1) (show List.Nodup (["_law_step","_law_other","_law_told"]:List Str) by decide+kernel) rfl (Or.inl rfl)) bE)))) (fun _ _ _ _ _ _=>eA) (fun _ _ _ _ _ _=>(aT (aB (zv 0) (aP (bA bI (hr.mono (by decide)) (aB (zv 2) (aB (zv 1) ae))) ae))))))))),?_⟩
  refine aO ⟨a,xs,rs,_,_,x,rfl,g,(hm x).mp hx,fun v H1 s1 hv=>?_⟩
  have NH:HV H v (ak rows (endOf rows x)):=lu _ v e1 (by rw [rl] at hv;exact hv)
  have hq:=NH.tk s1.ts
  have eo:gn rows x=(ak rows (endOf rows x)).ck.map fun m=>(m.1,endOf rows m.2):=rfl
  generalize ak rows (endOf rows x)=h at e2 e3 hq eo
  clear NH lu hv
  have BP:=tJ e3
  refine bC (fun σ' H'=>∃ (F:Addr) (us:List V),σ'=[some (.ref a),some (.str x),some v,some (.ref F)]/\H' F=some (.lst us)/\MV H' us h.ck/\aa H H'/\h.ck.length<=10) ?_ ?_
  ·intro nx dc
   cases hq with
   | @one b s e=>
    have nd:∀ z:Str,z∈(["way","box","pick"]:List Str)->(s==z)=false:=fun z hz=>by
     simp only [Qp,QA,or_false] at hz
     rcases e3 with rfl | rfl<;>rcases hz with rfl | rfl | rfl<;>decide+kernel
    refine ⟨_,.str s,.inr (af.of e),aK _ _,rfl,_,rfl,dz (fun c=>?_) (fun _=>⟨_,.str s,.inr (af.of e),aK _ _,rfl,_,rfl,dz (fun c=>?_) (fun _=>⟨_,.str s,.inr (af.of e),aK _ _,rfl,_,rfl,dz (fun c=>?_) (fun _=>⟨(show 0<=sizeLine by decide),fun F hF=>dc _ _ ⟨F,[],rfl,aA,MV.nil,s1.trans (aa.upd hF _),by show 0<=10;decide⟩⟩)⟩)⟩)⟩
    ·rw [QE,dC,nd "way" (by simp)] at c;cases c
    ·rw [QE,dC,nd "box" (by simp)] at c;cases c
    ·rw [QE,dC,nd "pick" (by simp)] at c;cases c
   | @as b y e=>cases e2
   | @way b y z e=>
    refine ⟨_,.str "way",.inr (af.of e),aK _ _,rfl,_,rfl,dz (fun _=>?_) (fun c=>absurd c (by simp))⟩
    refine ⟨(show 1<=sizeLine by decide),fun c1 h1=>?_⟩
    have t1:=aa.upd h1 (.tup [.str "from"])
    refine ⟨_,.str y,.inr (af.of (t1 _ _ e)),rfl,(show 2<=sizeLine by decide),fun c2 h2=>?_⟩
    have t2:=aa.upd h2 (.tup [.ref c1,.str y])
    refine ⟨(show 1<=sizeLine by decide),fun c3 h3=>?_⟩
    have t3:=aa.upd h3 (.tup [.str "to"])
    refine ⟨_,.str z,.inr (af.of (t3 _ _ (t2 _ _ (t1 _ _ e)))),rfl,(show 2<=sizeLine by decide),fun c4 h4=>?_⟩
    have t4:=aa.upd h4 (.tup [.ref c3,.str z])
    refine ⟨(show 2<=sizeLine by decide),fun F hF=>?_⟩
    have t5:=aa.upd hF (.lst [.ref c2,.ref c4])
    have g1:=t5 _ _ (t4 _ _ (t3 _ _ (t2 _ _ (aA:upd H1 c1 (.tup [.str "from"]) c1=some (.tup [.str "from"])))))
    have g2:=t5 _ _ (t4 _ _ (t3 _ _ (aA:upd (upd H1 c1 (.tup [.str "from"])) c2 (.tup [.ref c1,.str y]) c2=_)))
    have g3:=t5 _ _ (t4 _ _ (aA:upd (upd (upd H1 c1 (.tup [.str "from"])) c2 (.tup [.ref c1,.str y])) c3 (.tup [.str "to"]) c3=_))
    have g4:=t5 _ _ (aA:upd (upd (upd (upd H1 c1 (.tup [.str "from"])) c2 (.tup [.ref c1,.str y])) c3 (.tup [.str "to"])) c4 (.tup [.ref c3,.str z]) c4=_)
    exact dc _ _ ⟨F,[.ref c2,.ref c4],rfl,aA,(MV.nil.snoc (m:=(["from"],y)) g2 g1).snoc (m:=(["to"],z)) g4 g3,s1.trans (t1.trans (t2.trans (t3.trans (t4.trans t5)))),by show 2<=10;decide⟩
   | @prs b c s ys ps e ec hp=>
    have h_:=hp.len
    have loop:∀ (wd:Str) (D:Ends),D.nx=nx->(wd=if s="box" then ("part":Str) else ("case":Str))->zl (BG ["_law_word","_law_other"] [] (iD K (ky (BH K) (tV 2) (tC (V.int 1)))) (zk K 2 (qg (jc 0) (qg (jc 1) Br))) DP (Cw (g_ (Cw (g_ (tC (V.str wd)) (g_ (tV 0) uc))) (g_ (tV 1) uc)))) (jc 3) D [some (.ref a),some (.str x),some (.ref b),none] H1:=by
     intro wd D Ym Yn
     refine ⟨_,.ref c,.inr (af.of e),rfl,Or.inr ⟨⟨ys,af.of ec⟩,fun L hL=>?_⟩⟩
     refine hV (cM ys) (fun i τ H'=>∃ (v0 v1:Option V) (zs:List V),τ=[v0,v1]/\H' L=some (.lst zs)/\MV H' zs ((ps.take i).map fun p=>([wd,p.1],p.2))/\aa H1 H') ⟨none,none,[],rfl,aA,MV.nil,aa.upd hL _⟩ (by rintro i τ H' _ ⟨_,_,_,_,_,_,s⟩;exact af.of (s _ _ ec)) ?_ ?_
     ·rintro i τ H3 hi ⟨v0,v1,zs,rfl,q1,q2,q3⟩
      have mq:i < ps.length:=by omega
      have abd:=e3.2.2.2
      obtain ⟨d,r1,r2⟩:=hp.at_ i hi mq
      have eg:ys.getD i .ai=.ref d:=by rw [Qb,Qa hi,r1];rfl
      rw [eg]
      refine cC (q3 _ _ r2) ?_
      have Jg:zs.length=i:=by have:=q2.len;simp at this;omega
      refine ⟨(show 2<=sizeLine by decide),fun c1 h1=>⟨(show 2<=sizeLine by decide),fun c2 h2=>?_⟩⟩
      have t1:=aa.upd h1 (.tup [.str wd,.str ps[i].1])
      have t2:=aa.upd h2 (.tup [.ref c1,.str ps[i].2])
      have g1:=t2 _ _ (aA:upd H3 c1 (.tup [.str wd,.str ps[i].1]) c1=some (.tup [.str wd,.str ps[i].1]))
      have g2:upd (upd H3 c1 (.tup [.str wd,.str ps[i].1])) c2 (.tup [.ref c1,.str ps[i].2]) c2=some (.tup [.ref c1,.str ps[i].2]):=aA
      dsimp only
      have sA:=t1.trans t2
      generalize upd (upd H3 c1 (.tup [.str wd,.str ps[i].1])) c2 (.tup [.ref c1,.str ps[i].2])=H5 at sA g1 g2
      have gD:=sA _ _ q1
      have tk:Tk H5 (upd H5 L (.lst (zs++[.ref c2]))):=(Tk.refl).set gD (by intro _ z;cases z)
      refine ⟨zs,gD,by omega,_,_,zs++[.ref c2],rfl,aA,?_,(q3.trans sA).put hL⟩
      have et:(ps.take (i+1)).map (fun p=>(([wd,p.1],p.2):List Str×Str))=(ps.take i).map (fun p=>(([wd,p.1],p.2):List Str×Str))++[([wd,ps[i].1],ps[i].2)]:=by
       rw [Qs,Qa mq,Qm];rfl
      rw [et]
      exact (q2.tk (sA.ts.trans tk)).snoc (m:=([wd,ps[i].1],ps[i].2)) (tk _ _ g2) (tk _ _ g1)
     ·rintro τ H3 ⟨v0,v1,zs,rfl,q1,q2,q3⟩
      rw [h_,Qo] at q2
      show D.nx _ H3
      rw [Ym]
      refine dc _ _ ⟨L,zs,rfl,q1,?_,s1.trans q3,by show (ps.map _).length<=10;rw [Ql];exact e3.2.2.2⟩
      rw [Yn] at q2
      exact q2
    rcases e3.1 with rfl | rfl
    ·refine ⟨_,.str "box",.inr (af.of e),aK _ _,rfl,_,rfl,dz (fun c=>?_) (fun _=>⟨_,.str "box",.inr (af.of e),aK _ _,rfl,_,rfl,dz (fun _=>loop "part" _ rfl rfl) (fun c=>absurd c (by simp))⟩)⟩
     rw [QE,dC] at c;exact absurd c (by decide+kernel)
    ·refine ⟨_,.str "pick",.inr (af.of e),aK _ _,rfl,_,rfl,dz (fun c=>?_) (fun _=>⟨_,.str "pick",.inr (af.of e),aK _ _,rfl,_,rfl,dz (fun c=>?_) (fun _=>⟨_,.str "pick",.inr (af.of e),aK _ _,rfl,_,rfl,dz (fun _=>loop "case" _ rfl (by decide+kernel)) (fun c=>absurd c (by simp))⟩)⟩)⟩
     ·rw [QE,dC] at c;exact absurd c (by decide+kernel)
     ·rw [QE,dC] at c;exact absurd c (by decide+kernel)
  rintro σ' H2 ⟨F,us,rfl,gF,mv,s2,ml⟩
  have dh:=rt.tk s2.ts
  have g2:=g.ts s2.ts
  have ul:=mv.len
  refine Or.inl ⟨⟨us,aj.of gF⟩,fun D hD=>?_⟩
  refine hV (cH us) (fun i τ H'=>∃ (v0 v1:Option V) (zs:List V),τ=[v0,v1,some (.ref a)]/\H' D=some (.lst zs)/\MV H' zs ((h.ck.take i).map fun m=>(m.1,endOf rows m.2))/\aa H2 H') ⟨none,none,[],rfl,aA,MV.nil,aa.upd hD _⟩ (by rintro i τ H' _ ⟨_,_,_,_,_,_,s⟩;exact aj.of (s _ _ gF)) ?_ ?_
  ·rintro i τ H3 hi ⟨v0,v1,zs,rfl,q1,q2,q3⟩
   have Jp:i < h.ck.length:=by omega
   obtain ⟨c,b,r1,r2,r3⟩:=mv.at_ i hi Jp
   have eg:us.getD i .ai=.ref c:=by rw [Qb,Qa hi,r1];rfl
   rw [eg]
   have Jq:h.ck[i]∈h.ck:=Qj Jp
   refine cC (q3 _ _ r2) ?_
   have Jg:zs.length=i:=by have:=q2.len;simp at this;omega
   refine ⟨a,xs,rs,_,_,h.ck[i].2,rfl,g2.ts q3.ts,(hm _).mp (BP _ Jq),fun H4 s4=>⟨(show 2<=sizeLine by decide),fun d hd=>?_⟩⟩
   have s5:=aa.upd hd (.tup [.ref b,.str (fg (gr rows) rs.length h.ck[i].2)])
   have gd:upd H4 d (.tup [.ref b,.str (fg (gr rows) rs.length h.ck[i].2)]) d=some (.tup [.ref b,.str (fg (gr rows) rs.length h.ck[i].2)]):=aA
   dsimp only
   generalize upd H4 d (.tup [.ref b,.str (fg (gr rows) rs.length h.ck[i].2)])=H5 at s5 gd
   rw [rl] at gd
   have sA:=s4.trans s5
   have gD:=sA _ _ q1
   have tk:Tk H5 (upd H5 D (.lst (zs++[.ref d]))):=(Tk.refl).set gD (by intro _ z;cases z)
   refine ⟨zs,gD,by omega,_,_,zs++[.ref d],rfl,aA,?_,(q3.trans sA).put hD⟩
   have et:(h.ck.take (i+1)).map (fun m=>(m.1,endOf rows m.2))=(h.ck.take i).map (fun m=>(m.1,endOf rows m.2))++[(h.ck[i].1,endOf rows h.ck[i].2)]:=by
    rw [Qs,Qa Jp,Qm];rfl
   rw [et]
   exact (q2.tk (sA.ts.trans tk)).snoc (tk _ _ gd) (tk _ _ (sA _ _ (q3 _ _ r3)))
  ·rintro τ H3 ⟨v0,v1,zs,rfl,q1,q2,q3⟩
   rw [ul,Qo,<- eo] at q2
   exact k D zs H3 (s2.free hD) (s2.trans q3) q1 q2
theorem Yo {Q:VK} {v:V} (e:σ[i]? =some (some v)) (h:Q v H):tV i σ H Q:=by
 unfold tV
 rw [e]
 exact h
theorem dE {kvs:List (Key×V)} {k:Key} {v:V} (h:∀ kv∈kvs,kv.1≠k):putK kvs k v=kvs++[(k,v)]:=by
 unfold putK
 rw [if_neg]
 intro e
 rw [List.any_eq_true] at e
 obtain ⟨kv,hk,e⟩:=e
 exact h kv hk (Qt e)
def NI:Sp:=fun vs H Q _=>∃ (a:Addr) (xs:List V) (rows:List aq) (ns ws:List Str),vs=[.ref a]/\RT H a xs rows ns ws/\(∀ z∈ws,Wd z)/\
 ∀ (d:Addr) (H':Hp),H d=none->aa H H'->H' d=some (.dK (i_ rows))->Q (.ref d) H'
theorem tS (T:Txt K mg w):a_ P w K mg base 2 "rows_of" ["T"] NI:=by
 have uK:a_ P w K mg base 1 "heads_of" ["T"] ND:=sP T
 refine T.xA.fk dL (fun vs H Q E h=>?_) (fun f bc A outer s H vs Q E hr h=>?_)
 ·obtain ⟨a,xs,rows,ns,ws,rfl,_⟩:=h
  rfl
 ·refine hdn fun G9 hG=>?_;obtain ⟨a,xs,rows,ns,ws,rfl,rt,hw,k⟩:=h;refine hG ?_
  have hu:=aU hr
  have bz:=Qx (aU hr)
  have hsz:sizeLine=16777216:=QL
  obtain ⟨rs,g,nm,rl,lu⟩:=rt.good hw
  refine ⟨_,(aC (aX (i:=1) dL.nd rfl (Or.inl rfl) (bA uK (hr.mono (by decide)) (aB (zv 0) ae)))
   (aC (aX (i:=2) dL.nd rfl (Or.inl rfl) UJ)
   (aC (fU PassesOwn.never rfl (U_ (zv 1)) (aJ (i:=3) dL.nd rfl (Or.inl rfl)) (aC (aX (i:=4) dL.nd rfl (Or.inl rfl) (zv 3))
   (aC (iN PassesOwn.never (aL (bP bz) (aY (aZ K) (cG hu (zv 1) (zv 4) (fun _ _=>rfl)) aG (fun _ _=>rfl)) aS (cy _)) (aE (aX (i:=4) dL.nd rfl (Or.inl rfl) (aY (aZ K) (cG hu (zv 1) (zv 4) (fun _ _=>rfl)) aG (fun _ _=>rfl)))))
   (aE (zD hu (zv 2) (zv 3) (zv 4) rfl)))))
   (aE (aQ (zv 2)))))),?_⟩
  refine aO ⟨a,xs,rs,rfl,Yl g,fun d hd=>?_⟩
  have knd:((bj rs).map (·.1)).Nodup:=by
   have e:(bj rs).map (·.1)=(rs.map (·.1)).map (Sum.inr:Str->Key):=by simp [bj,Qn,QB]
   rw [e]
   exact List.pairwise_map.mpr (g.nd.imp fun h e=>h (Sum.inr.inj e))
  have NF:=g.len
  have ed:=jJ _ knd
  dsimp only
  have s1:aa H (upd H d (.dK (dictOf (bj rs)))):=aa.upd hd _
  refine aO fun R hR=>?_
  have Jr:R≠d:=fun e=>by rw [e,aA] at hR;cases hR
  have EO:H R=none:=s1.free hR
  refine bC (fun σ' H'=>∃ v3 v4:Option V,σ'=[some (.ref a),some (.ref d),some (.ref R),v3,v4]/\H' R=some (.dK (i_ rows))/\aa H H') ?_ ?_
  ·intro nx dc
   refine ⟨d,dictOf (bj rs),rfl,.inl (by rw [aF Jr.symm];exact aA),fun o=>?_⟩
   refine cZ (yZ (dictOf (bj rs))) (fun i σ' H'=>∃ v3 v4:Option V,σ'=[some (.ref a),some (.ref d),some (.ref R),v3,v4]/\H' d=some (.az o (.dK (dictOf (bj rs))))/\H' R=some (.dK ((i_ rows).take i))/\aa H H')
    ⟨none,none,rfl,aA,by rw [aF Jr,aA];rfl,(((s1.put EO)).put hd)⟩ (by rintro i σ' H' _ ⟨_,_,_,h,_⟩;exact h) ?_ ?_
   ·rintro i σ' H3 hi ⟨v3,v4,rfl,q1,q2,q3⟩
    have gy:i < rs.length:=by have:=j4 (bj rs);simp at this;omega
    have Js:i < rows.length:=by omega
    have ek:s_ (dictOf (bj rs)) i=.str rs[i].1:=by
     unfold s_
     rw [ed,Qa (by simpa using gy),Jm i (by simpa using gy) gy];rfl
    have en:rs[i].1=rows[i].1:=by
     have:(rs.map (·.1))[i]'(by simpa using gy)=(rows.map (·.1))[i]'(by simpa using Js):=by simp only [nm]
     simpa using this
    rw [ek]
    have hx:rs[i].1∈rs.map (·.1):=List.mem_map.mpr ⟨_,Qj gy,rfl⟩
    generalize rs[i].1=x at en hx
    have g3:=g.ts q3.ts
    refine aO (Yo (v:=.str x) rfl ?_)
    refine bC (fun σ' H'=>H'=H3/\σ'=[some (.ref a),some (.ref d),some (.ref R),some (.str x),some (.str (fg (gr rows) rs.length x))]) ?_ ?_
    ·intro XU B8
     refine ⟨fun m σ H'=>H'=H3/\∃ y,σ=[some (.ref a),some (.ref d),some (.ref R),some (.str x),some (.str y)]/\y∈rs.map (·.1)/\fg (gr rows) rs.length y=fg (gr rows) rs.length x/\m=ns.idxOf y,⟨_,rfl,x,rfl,hx,rfl,rfl⟩,?_⟩
     rintro m σ H' ⟨rfl,y,rfl,hy,he,rfl⟩
     obtain ⟨v,hv,lu⟩:=g3.get hy
     have Cb:fu H' d (.str y) (some v):=by
      rw [<- lu];exact fu.rd (k:=Sum.inr y) (.inr ⟨o,q1⟩)
     obtain ⟨b,rfl,hb⟩:=g3.as _ hv
     rcases hb with ⟨z,ys,h1,h2,h3⟩ | ⟨z,h1,h3⟩
     ·refine ⟨d,_,rfl,Cb,_,.str z,.inr (af.of h1),aK _ _,rfl,_,rfl,?_⟩
      rw [QE,Qw (fun e=>h2 (V.str.inj e))]
      refine ig ?_
      have e2:fg (gr rows) rs.length y=y:=dM _ h3
      refine B8 _ _ ⟨rfl,?_⟩
      rw [<- he,e2]
     ·refine ⟨d,_,rfl,Cb,_,.str "as",.inr (af.of h1),aK _ _,rfl,_,rfl,?_⟩
      refine w_ ?_
      obtain ⟨i1,i2⟩:=g3.BP _ hv z h3
      refine ⟨fun σ' Av=>∃ m',m' < ns.idxOf y/\Av=H'/\∃ y,σ'=[some (.ref a),some (.ref d),some (.ref R),some (.str x),some (.str y)]/\y∈rs.map (·.1)/\fg (gr rows) rs.length y=fg (gr rows) rs.length x/\m'=ns.idxOf y,fun _ _ h=>h,?_⟩
      refine ⟨d,_,rfl,Cb,_,.str z,.inr (af.of h1),rfl,_,i2,rfl,z,rfl,i1,?_,rfl⟩
      rw [<- he]
      exact g3.LP hy h3
    ·rintro σ' H' ⟨rfl,rfl⟩
     have fc:((i_ rows).take i).length<=14:=by have:=rt.few;have:=rt.rl;simp [i_];omega
     have Yp:putK ((i_ rows).take i) (.inr x) (.str (fg (gr rows) rs.length x))=(i_ rows).take (i+1):=by
      rw [dE,Qs,Qa (by simpa [i_] using Js)]
      ·simp [i_,en,endOf,rl]
      ·intro kv Yq e
       obtain ⟨j,hj,rfl⟩:=Qi Yq
       have oh:j < i:=by simp at hj;omega
       rw [List.getElem_take] at e
       simp only [i_,Qr] at e
       have e':rows[j].1=rows[i].1:=by rw [<- en];exact Sum.inr.inj e
       have nd:=rt.kc
       have:=List.pairwise_iff_getElem.mp nd j i (by simp;omega) (by simpa using Js) oh
       simp at this
       exact this e'
     refine ⟨R,_,rfl,AM.k (k:=Sum.inr x) q2 (by omega),?_⟩
     rw [Yp]
     exact ⟨_,_,rfl,by rw [aF Jr.symm];exact q1,aA,q3.put EO⟩
   ·rintro σ' H' ⟨v3,v4,rfl,q1,q2,q3⟩
    have e:(dictOf (bj rs)).length=(i_ rows).length:=by rw [ed];simp [i_,rl]
    rw [e,Qo] at q2
    exact dc _ _ ⟨v3,v4,rfl,q2,q3⟩
  ·rintro σ' H' ⟨v3,v4,rfl,q2,q3⟩
   exact k R H' EO q3 q2
def NJ:Sp:=fun vs H Q _=>∃ (x:V) (h:Hd) (ns:List Str),vs=[x]/\HV H x h/\h.ok ns/\∀ L H',H L=none->H' L=some (.lst ((xw h).map V.str))->aa H H'->Q (.ref L) H'
theorem pW (T:Txt K mg w):a_ P w K mg base 1 "names_in" ["head"] NJ:=by
 refine T.uG.fk qN (fun vs H Q E h=>?_) (fun f bc A outer s H vs Q E hr h=>?_)
 ·obtain ⟨x,h,ns,rfl,_⟩:=h
  rfl
 ·obtain ⟨x,h,ns,rfl,hv,hok,k⟩:=h
  have hsz:sizeLine=16777216:=QL
  refine ⟨_,(aC (bN (aL (kF K) (aY (aZ K) (zv 0) aG (fun _ _=>rfl)) (UI K T.yV) rfl) (aE (aQ (nC (own:=["word","x"]) (idx:=[]) (N':=["word","x"]) (dH (bh gP) (["head"]:List Str) (by decide+kernel)) rfl (lJ K (aY (aZ K) (zv 0) aG (fun _ _=>rfl))) (fun _ _ _ _ _ _=>(bO K (n:=2) rfl (aI (aJ (i:=0) (show List.Nodup (["word","x"]:List Str) by decide+kernel) rfl (Or.inl rfl)) (aI (aJ (i:=1) (show List.Nodup (["word","x"]:List Str) by decide+kernel) rfl (Or.inl rfl)) bE)))) (fun _ _ _ _ _ _=>eA) (fun _ _ _ _ _ _=>(zv 1))))) aV)
   (aE (aQ (bM (o7 K) (by rfl) T.tL PyProof.Rows.boot_list (aH (fM (rF K) (zv 0) (fT aG) fS) ae))))),?_⟩
  have fin:∀ (b:Addr) (z:Str) (ys:List Str),H b=some (.tup (.str z::ys.map V.str))->xw h=ys->∀ D:Ends,D.rt=Q->Cq (BB (HR K) (g_ (CA (fun x lo hi H Q=>BJ x lo hi H Q\/BF K x lo hi H Q\/BD K x lo hi H Q) (tV 0) (Cz (tC (V.int 1))) Cy) uc)) D [some (.ref b)] H:=by
   intro b z ys e en D hD
   refine ⟨1,rfl,Or.inr (Or.inr ⟨b,_,rfl,af.of e,?_,fun p1 NK=>⟨p1,_,rfl,.inr (af.of aA),fun L hL=>?_⟩⟩)⟩
   ·intro ⟨h1,_⟩
    have:HT.c_ (V.str z::ys.map V.str).length 0 (some ((1:Nat):Int))=0:=h1
    rw [HT.gG] at this
    simp at this
   ·have s1:=(aa.upd NK (.tup (ou (V.str z::ys.map V.str) (some 1) none))).trans (aa.upd hL (.lst (ou (V.str z::ys.map V.str) (some 1) none)))
    rw [hD]
    refine k L _ ((aa.upd NK _).free hL) ?_ s1
    rw [aA]
    have ec:ou (V.str z::ys.map V.str) (some 1) none=ys.map V.str:=by
     have:=jO (V.str z::ys.map V.str) 1
     exact this
    rw [ec,en]
  have Jt:∀ (b:Addr) (z:Str) (ys:List Str),H b=some (.tup (.str z::ys.map V.str))->(z=="box")=false->(z=="pick")=false->xw h=ys->zj (Fp (Fx (ky (CF K false) (ky (BH K) (tV 0) (tC (V.int 0))) (FL K [V.str "box",V.str "pick"]))) (Cq (BG ["word","x"] [] (iD K (ky (BH K) (tV 0) (tC (V.int 1)))) (zk K 2 (qg (jc 0) (qg (jc 1) Br))) DP (tV 1))) Fo) (Cq (BB (HR K) (g_ (CA (fun x lo hi H Q=>BJ x lo hi H Q\/BF K x lo hi H Q\/BD K x lo hi H Q) (tV 0) (Cz (tC (V.int 1))) Cy) uc))) {nx:=fun x H'=>Q V.ai H',rt:=Q} [some (.ref b)] H:=fun b z ys e n1 n2 en=>by
   refine ⟨_,.str z,.inr (af.of e),aK _ _,?_⟩
   intro aW hW
   refine ⟨_,.inr hW,rfl,rfl,_,rfl,?_⟩
   have ew:(false^^r_ (.str z) [V.str "box",V.str "pick"])=false:=by
    rw [QE,show ([V.str "box",V.str "pick"]:List V)=(["box","pick"]:List Str).map V.str from rfl,fI]
    refine Qw fun hm=>?_
    simp only [Qp,QA,or_false] at hm
    rcases hm with rfl | rfl
    ·simp at n1
    ·simp at n2
   rw [ew]
   exact ig (fin b z ys e en _ rfl)
  cases hv with
  | @one b s e=>exact Jt b s [] e (by rcases hok with rfl | rfl<;>decide+kernel) (by rcases hok with rfl | rfl<;>decide+kernel) rfl
  | @as b y e=>exact Jt b "as" [y] e (by decide+kernel) (by decide+kernel) rfl
  | @way b y z e=>exact Jt b "way" [y,z] e (by decide+kernel) (by decide+kernel) rfl
  | @prs b c s ys ps e ec hp=>
   refine ⟨_,.str s,.inr (af.of e),aK _ _,?_⟩
   intro aW hW
   refine ⟨_,.inr hW,rfl,rfl,_,rfl,?_⟩
   have ew:(false^^r_ (.str s) [V.str "box",V.str "pick"])=true:=by
    rw [QE,show ([V.str "box",V.str "pick"]:List V)=(["box","pick"]:List Str).map V.str from rfl,fI]
    refine Qv ?_
    rcases hok.1 with rfl | rfl<;>simp
   rw [ew]
   refine w_ ?_
   have h_:=hp.len
   have Ef:=hok.2.2.2
   refine ⟨_,.ref c,.inr (af.of e),rfl,Or.inr ⟨⟨ys,af.of ec⟩,fun D hD=>?_⟩⟩
   refine hV (cM ys) (fun i τ H3=>H3 D=some (.lst (((ps.take i).map (·.2)).map V.str))/\aa H H3/\∃ v1 v2,τ=[v1,v2]) ⟨aA,aa.upd hD _,none,none,rfl⟩ (fun i τ H3 _ h=>af.of (h.2.1 _ _ ec)) ?_ ?_
   ·rintro i τ H3 hi ⟨q1,q2,v1,v2,rfl⟩
    have mq:i < ps.length:=by omega
    obtain ⟨d,e1,e2⟩:=hp.at_ i hi mq
    have eg:ys.getD i .ai=.ref d:=by rw [Qb,Qa hi,e1];rfl
    rw [eg]
    refine cC (q2 _ _ e2) ?_
    refine ⟨_,q1,by simp;omega,?_,(q2.put hD),_,_,rfl⟩
    rw [aA,Qs,Qa mq,Qm,Qm]
    rfl
   ·rintro τ H3 ⟨q1,q2,v1,v2,rfl⟩
    rw [h_,Qo] at q1
    exact k D H3 hD q1 q2
def vz (s:Str):Str:=if s="box" then "part" else "case"
def Ju (mg:Str->Option Value):Sp:=fun vs H Q _=>∃ (x:V) (h:Hd) (ns:List Str),vs=[x]/\HV H x h/\h.ok ns/\Kn mg H "FROM" [.str "from"]/\Kn mg H "TO" [.str "to"]/\
 ∀ (L:Addr) (us:List V) (H':Hp),H L=none->H' L=some (.lst us)->SV H' us (h.ck.map (·.1))->aa H H'->Q (.ref L) H'
theorem kZ (T:Txt K mg w):a_ P w K mg base 1 "steps_in" ["head"] (Ju mg):=by
 refine T.tQ.fk rB (fun vs H Q E h=>?_) (fun f bc A outer s H vs Q E hr h=>?_)
 ·obtain ⟨x,h,ns,rfl,_⟩:=h
  rfl
 ·refine hdn fun G9 hG=>?_;obtain ⟨x,h,ns,rfl,hv,hok,kf,kt,k⟩:=h;refine hG ?_
  have bz:=Qx (aU hr)
  have hsz:sizeLine=16777216:=QL
  refine ⟨_,(aC (bN (aL (bP bz) (aY (aZ K) (zv 0) aG (fun _ _=>rfl)) aS (cy _)) (aE (aQ (cP (aB (HK T.oZ) (aB (HK T.IY) ae))))) aV)
   (aC (bN (U5 T.jQ (aY (aZ K) (zv 0) aG (fun _ _=>rfl))) (aE (aQ (nC (own:=["word","x"]) (idx:=[0]) (N':=["word","x","head"]) (dH (bh gU) (["head"]:List Str) (by decide+kernel)) rfl (lJ K (aY (aZ K) (zv 0) aG (fun _ _=>rfl))) (fun _ _ _ _ _ _=>(bO K (n:=2) rfl (aI (aJ (i:=0) (show List.Nodup (["word","x","head"]:List Str) by decide+kernel) rfl (Or.inl rfl)) (aI (aJ (i:=1) (show List.Nodup (["word","x","head"]:List Str) by decide+kernel) rfl (Or.inl rfl)) bE)))) (fun _ _ _ _ _ _=>eA) (fun _ _ _ _ _ _=>(aT (aH (U7 T.jQ (aY (aZ K) (zv 2) aG (fun _ _=>rfl)) (fun _ _=>rfl)) (aB (zv 0) ae))))))) aV)
   (aE (aQ (cP ae))))),?_⟩
  cases hv with
  | @one b s e=>
   refine ⟨_,.str s,.inr (af.of e),aK _ _,rfl,_,rfl,dz (fun c=>?_) (fun _=>⟨_,.str s,.inr (af.of e),aK _ _,Sum.inr s,rfl,_,rfl,dz (fun c=>?_) (fun _=>⟨(show 0<=sizeLine by decide),fun L hL=>k L [] _ hL aA SV.nil (aa.upd hL _)⟩)⟩)⟩
   ·rw [QE,dC] at c
    rcases hok with rfl | rfl<;>exact absurd c (by decide+kernel)
   ·rcases hok with rfl | rfl<;>exact absurd c (by decide+kernel)
  | @as b y e=>
   refine ⟨_,.str "as",.inr (af.of e),aK _ _,rfl,_,rfl,dz (fun c=>?_) (fun _=>⟨_,.str "as",.inr (af.of e),aK _ _,Sum.inr "as",rfl,_,rfl,dz (fun c=>?_) (fun _=>⟨(show 0<=sizeLine by decide),fun L hL=>k L [] _ hL aA SV.nil (aa.upd hL _)⟩)⟩)⟩
   ·rw [QE,dC] at c
    exact absurd c (by decide+kernel)
   ·exact absurd c (by decide+kernel)
  | @way b y z e=>
   refine ⟨_,.str "way",.inr (af.of e),aK _ _,rfl,_,rfl,dz (fun _=>?_) (fun c=>absurd c (by simp))⟩
   refine ⟨(show 2<=sizeLine by decide),fun L hL=>k L _ _ hL aA ?_ (aa.upd hL _)⟩
   exact (SV.nil.snoc (m:=["from"]) (kf.same (aa.upd hL _)).rd).snoc (m:=["to"]) (kt.same (aa.upd hL _)).rd
  | @prs b c s ys ps e ec hp=>
   have h_:=hp.len
   have Ef:=hok.2.2.2
   obtain ⟨n1,n2,n3⟩:(s=="way")=false/\(cg [((Sum.inr "box":Key),V.str "part"),(Sum.inr "pick",V.str "case")] (Sum.inr s)).isSome=true/\cg [((Sum.inr "box":Key),V.str "part"),(Sum.inr "pick",V.str "case")] (Sum.inr s)=some (.str (vz s)):=by
    rcases hok.1 with rfl | rfl<;>exact ⟨by decide+kernel,by decide+kernel,by decide+kernel⟩
   refine ⟨_,.str s,.inr (af.of e),aK _ _,rfl,_,rfl,dz (fun c=>?_) (fun _=>⟨_,.str s,.inr (af.of e),aK _ _,Sum.inr s,rfl,_,rfl,dz (fun _=>?_) (fun c=>?_)⟩)⟩
   ·rw [QE,dC,n1] at c;cases c
   ·refine ⟨_,.ref c,.inr (af.of e),rfl,Or.inr ⟨⟨ys,af.of ec⟩,fun D hD=>?_⟩⟩
    refine hV (cM ys) (fun i τ H3=>∃ (v0 v1:Option V) (zs:List V),τ=[v0,v1,some (.ref b)]/\H3 D=some (.lst zs)/\SV H3 zs ((ps.take i).map fun p=>[vz s,p.1])/\aa H H3) ⟨none,none,[],rfl,aA,SV.nil,aa.upd hD _⟩ (by rintro i τ H3 _ ⟨_,_,_,_,_,_,s⟩;exact af.of (s _ _ ec)) ?_ ?_
    ·rintro i τ H3 hi ⟨v0,v1,zs,rfl,q1,q2,q3⟩
     have mq:i < ps.length:=by omega
     obtain ⟨d,r1,r2⟩:=hp.at_ i hi mq
     have eg:ys.getD i .ai=.ref d:=by rw [Qb,Qa hi,r1];rfl
     rw [eg]
     refine cC (q3 _ _ r2) ?_
     have Jg:zs.length=i:=by have:=q2.len;simp at this;omega
     refine ⟨_,.str s,.inr (af.of (q3 _ _ e)),aK _ _,Sum.inr s,_,rfl,n3,(show 2<=sizeLine by decide),fun c1 h1=>?_⟩
     have t1:=aa.upd h1 (.tup [.str (vz s),.str ps[i].1])
     have g1:upd H3 c1 (.tup [.str (vz s),.str ps[i].1]) c1=some (.tup [.str (vz s),.str ps[i].1]):=aA
     dsimp only
     generalize upd H3 c1 (.tup [.str (vz s),.str ps[i].1])=H5 at t1 g1
     have gD:=t1 _ _ q1
     have kp:∀ b ys,au H5 b ys->au (upd H5 D (.lst (zs++[.ref c1]))) b ys:=fun b ys r=>r.upd fun u hu z=>by
      subst z
      rcases r with r | ⟨_,r⟩<;>(rw [gD] at r;cases r)
     refine ⟨zs,gD,by omega,_,_,zs++[.ref c1],rfl,aA,?_,(q3.trans t1).put hD⟩
     have et:(ps.take (i+1)).map (fun p=>([vz s,p.1]:List Str))=(ps.take i).map (fun p=>([vz s,p.1]:List Str))++[[vz s,ps[i].1]]:=by
      rw [Qs,Qa mq,Qm];rfl
     rw [et]
     exact ((q2.keep fun b ys r=>r.same t1).keep kp).snoc (m:=[vz s,ps[i].1]) (kp _ _ (.inl g1))
    ·rintro τ H3 ⟨v0,v1,zs,rfl,q1,q2,q3⟩
     rw [h_,Qo] at q2
     refine k D zs H3 hD q1 ?_ q3
     have em:(Hd.prs s ps).ck.map (·.1)=ps.map fun p=>([vz s,p.1]:List Str):=by
      simp [Hd.ck,vz,Qn,QB]
     rw [em]
     exact q2
   ·rw [n2] at c;cases c
def NL (mg:Str->Option Value):Sp:=fun vs H Q _=>∃ (x:V) (h:Hd) (ns:List Str) (rows:List aq) (d:Addr),vs=[x,.ref d]/\HV H x h/\h.ok ns/\Kn mg H "FROM" [.str "from"]/\Kn mg H "TO" [.str "to"]/\Rd H d (.dK (i_ rows))/\(∀ z∈ns,z∈rows.map (·.1))/\(rows.map (·.1)).Nodup/\
 ∀ (m:Addr) (H':Hp),H m=none->H' m=some (.dT (ko rows h))->aa H H'->Q (.ref m) H'
theorem qV (T:Txt K mg w):a_ P w K mg base 2 "moves_in" ["head","rows"] (NL mg):=by
 have jC:a_ P w K mg base 1 "steps_in" ["head"] (Ju mg):=kZ T
 have uH:a_ P w K mg base 1 "names_in" ["head"] NJ:=pW T
 refine T.u9.fk qL (fun vs H Q E h=>?_) (fun f bc A outer s H vs Q E hr h=>?_)
 ·obtain ⟨x,h,ns,rows,d,rfl,_⟩:=h
  rfl
 ·refine hdn fun G9 hG=>?_;obtain ⟨x,h,ns,rows,d,rfl,hv,hok,kf,kt,hd,gm,nd,k⟩:=h;refine hG ?_
  have hu:=aU hr
  have bz:=Qx (aU hr)
  have hsz:sizeLine=16777216:=QL
  have few:=iP hok
  refine ⟨_,(aE (aQ (VB (own:=["step","x"]) (idx:=[1]) (N':=["step","x","rows"]) (dH (bh gH) (["head","rows"]:List Str) (by decide+kernel)) rfl bz (UX K (by rfl) T.XH (aP (bA jC (hr.mono (by decide)) (aB (zv 0) ae)) (aP (bA uH (hr.mono (by decide)) (aB (zv 0) ae)) ae))) (fun _ _ _ _ _ _=>(bO K (n:=2) rfl (aI (aJ (i:=0) (show List.Nodup (["step","x","rows"]:List Str) by decide+kernel) rfl (Or.inl rfl)) (aI (aJ (i:=1) (show List.Nodup (["step","x","rows"]:List Str) by decide+kernel) rfl (Or.inl rfl)) bE)))) (fun _ _ _ _ _ _=>eA) (fun _ _ _ _ _ _=>(zv 0)) (fun _ _ _ _ _ _=>(cG hu (zv 2) (zv 1) (fun _ _=>rfl)))))),?_⟩
  refine ⟨x,h,ns,rfl,hv,hok,kf,kt,fun L us H1 hL eL sv s1=>⟨x,h,ns,rfl,hv.tk s1.ts,hok,fun M H2 hM eM s2=>?_⟩⟩
  have Yr:=sv.len
  rw [Ql] at Yr
  refine ⟨L,M,us,(xw h).map V.str,rfl,aj.of (s2 _ _ eL),aj.of eM,fun D hD=>?_⟩
  have x_:H D=none:=(s1.trans s2).free hD
  have mn:min us.length ((xw h).map V.str).length=h.ck.length:=by have:=Wu (h:=h);simp;omega
  have Ys:=pX (rows:=rows) (MG hok)
  have ml:(ko rows h).length=h.ck.length:=by simp [ko]
  refine zI (UY us ((xw h).map V.str)) (fun i τ H3=>∃ v0 v1:Option V,τ=[v0,v1,some (.ref d)]/\H3 D=some (.dT ((ko rows h).take i))/\aa H2 H3) ⟨none,none,rfl,aA,aa.upd hD _⟩ (by rintro i τ H3 _ ⟨_,_,_,_,s⟩;exact ⟨aj.of (s _ _ (s2 _ _ eL)),aj.of (s _ _ eM)⟩) ?_ ?_
  ·rintro i τ H3 T hi ⟨v0,v1,rfl,q1,q2⟩ hT
   rw [mn] at hi
   have NN:i < us.length:=by omega
   obtain ⟨b,e1,e2⟩:=sv.at_ i NN (by simpa using hi)
   have g1:us.getD i .ai=.ref b:=by rw [Qb,Qa NN,e1];rfl
   have M3:((xw h).map V.str).getD i .ai=.str h.ck[i].2:=by rw [Qb,Qq,Wt i hi];rfl
   rw [g1,M3]
   have t1:=aa.upd hT (.tup [.ref b,.str h.ck[i].2])
   generalize upd H3 T (.tup [.ref b,.str h.ck[i].2])=H5 at t1
   have hz:h.ck[i].2∈ns:=tJ hok _ (Qj hi)
   have Yt:Rd H5 d (.dK (i_ rows)):=hd.same (((s1.trans s2).trans q2).trans t1)
   refine ⟨d,.str (endOf rows h.ck[i].2),rfl,by rw [<- oM nd (gm _ hz)];exact fu.rd (k:=Sum.inr h.ck[i].2) Yt,?_⟩
   have er:au H5 b (h.ck[i].1.map V.str):=by
    have:=(e2.same ((s2.trans q2).trans t1))
    simpa using this
   have EA:i < (ko rows h).length:=by omega
   have em:(ko rows h)[i]=(h.ck[i].1.map Sum.inr,.str (endOf rows h.ck[i].2)):=by simp [ko]
   refine ⟨(ko rows h).take i,(ko rows h)[i].1,b,rfl,by rw [em,EB];exact er,t1 _ _ q1,by simp;omega,_,_,rfl,?_,?_⟩
   ·have:=Ws Ys EA
    rw [em] at this ⊢
    rw [this]
    exact aA
   ·exact (q2.trans t1).put hD
  ·rintro τ H3 ⟨v0,v1,rfl,q1,q2⟩
   rw [mn,<- ml,Qo] at q1
   exact k D H3 x_ q1 ((s1.trans s2).trans q2)
def Jv (mg:Str->Option Value):Sp:=fun vs H Q _=>∃ (x dx a:Addr) (xs:List V) (rows:List aq) (ns ws:List Str),vs=[.ref x,.ref a]/\H x=some (.ins (adr mg "Net") dx [])/\RT H a xs rows ns ws/\(∀ z∈ws,Wd z)/\Kn mg H "FROM" [.str "from"]/\Kn mg H "TO" [.str "to"]/\
 ∀ H',ID H' (adr mg "Net") x rows->Sx x H H'->Q .ai H'
theorem Yu {f g:Str} {u v:V} (n:Nat):(dg f u (dg g v [])).length < 1000:=by
 have h1:=cL f u (dg g v [])
 have h2:=cL g v []
 simp at h2
 omega
theorem yC {K:Q0} {ta tv:TE} {f:Str} (h:tv σ H fun y H1=>ta σ H1 fun x H2=>∃ a C dx fs,x=.ref a/\H2 a=some (.ins C dx fs)/\yj K C/\yk K C f/\fs.length < 1000/\D.nx σ (upd H2 a (.ins C dx (dg f y fs)))):Fy K ta tv f D σ H:=h
set_option maxHeartbeats 1000000 in
theorem zH (T:Txt K mg w):Ei P w K mg base 4 "Net" (adr mg "Net") ["self","T"] (Jv mg):=by
 have xX:a_ P w K mg base 2 "rows_of" ["T"] NI:=tS T
 have jC:a_ P w K mg base 1 "steps_in" ["head"] (Ju mg):=kZ T
 have uJ:a_ P w K mg base 2 "moves_in" ["head","rows"] (NL mg):=qV T
 have cl:=T.Au.2.1
 have na:=T.Au.2.2.1
 refine T.Au.fk rR (fun vs H Q E h=>?_) (fun f bc A outer s H vs Q E hr h=>?_)
 ·refine hdn fun G9 hG=>?_;obtain ⟨x,dx,a,xs,rows,ns,ws,rfl,_⟩:=h;refine hG ?_
  rfl
 ·refine hdn fun G9 hG=>?_;obtain ⟨x,dx,a,xs,rows,ns,ws,rfl,hx,rt,hw,kf,kt,k⟩:=h;refine hG ?_
  have hu:=aU hr
  have bz:=Qx (aU hr)
  have hsz:sizeLine=16777216:=QL
  have kc:=rt.kc
  have Ag:=rt.rl
  have few:=rt.few
  have abe:(br rows).length<=14:=by have:=List.length_filter_le (fun r:aq=>r.2.nx.isNone) rows;unfold br;omega
  have CW:((br rows).map (·.1)).Nodup:=(kc.sublist (List.filter_sublist.map _))
  refine ⟨_,(aC (vZ K (zv 0) (sC (bA xX (hr.mono (by decide)) (aB (zv 1) ae))))
   (aC (vZ K (zv 0) (sC (FO (own:=["name","head"]) (idx:=[]) (N':=["name","head"]) (dH (bh dN) (["self","T"]:List Str) (by decide+kernel)) rfl (lJ K (zv 1)) (fun _ _ _ _ _ _=>(bO K (n:=2) rfl (aI (aJ (i:=0) (show List.Nodup (["name","head"]:List Str) by decide+kernel) rfl (Or.inl rfl)) (aI (aJ (i:=1) (show List.Nodup (["name","head"]:List Str) by decide+kernel) rfl (Or.inl rfl)) bE)))) (fun _ _ _ _ _ _=>(LB (aL (gW bz) (aY (aZ K) (zv 1) aG (fun _ _=>rfl)) aS (cy _)))) (fun _ _ _ _ _ _=>(zv 0)) (fun _ _ _ _ _ _=>(zv 1)))))
   (aC (vZ K (zv 0) (sC (FO (own:=["row","head"]) (idx:=[]) (N':=["row","head"]) (dH (bh dN) (["self","T"]:List Str) (by decide+kernel)) rfl (rO (iF K (zv 0))) (fun _ _ _ _ _ _=>(bO K (n:=2) rfl (aI (aJ (i:=0) (show List.Nodup (["row","head"]:List Str) by decide+kernel) rfl (Or.inl rfl)) (aI (aJ (i:=1) (show List.Nodup (["row","head"]:List Str) by decide+kernel) rfl (Or.inl rfl)) bE)))) (fun _ _ _ _ _ _=>eA) (fun _ _ _ _ _ _=>(zv 0)) (fun _ _ _ _ _ _=>(aT (aH (aY (aZ K) (zv 1) aG (fun _ _=>rfl)) (aP (bM (cV K) (by rfl) T.dP QG (aP (bA jC (hr.mono (by decide)) (aB (zv 1) ae)) ae)) ae)))))))
   (aE (vZ K (zv 0) (sC (FO (own:=["row","head"]) (idx:=[0]) (N':=["row","head","self"]) (dH (bh dN) (["self","T"]:List Str) (by decide+kernel)) rfl (rO (iF K (zv 0))) (fun _ _ _ _ _ _=>(bO K (n:=2) rfl (aI (aJ (i:=0) (show List.Nodup (["row","head","self"]:List Str) by decide+kernel) rfl (Or.inl rfl)) (aI (aJ (i:=1) (show List.Nodup (["row","head","self"]:List Str) by decide+kernel) rfl (Or.inl rfl)) bE)))) (fun _ _ _ _ _ _=>eA) (fun _ _ _ _ _ _=>(zv 0)) (fun _ _ _ _ _ _=>(sC (bA uJ (hr.mono (by decide)) (aB (zv 1) (pH (iF K (zv 2)) ae)))))))))))),?_⟩
  generalize hC:adr mg "Net"=C at*
  refine mD ⟨a,xs,rows,ns,ws,rfl,rt,hw,fun d1 H1 C_ s1 e1=>⟨d1,rfl,.inl ⟨_,.inl e1,fun o1=>?_⟩⟩⟩
  have ku:d1≠x:=fun z=>by rw [z,hx] at C_;cases C_
  refine ⟨x,C,dx,[],rfl,by rw [aF ku.symm];exact s1 _ _ hx,cl,na "rows" (by simp),by simp,?_⟩
  have Jw:Sx x H (upd (upd H1 d1 (.az o1 (.dK (i_ rows)))) x (.ins C dx (dg "rows" (.ref d1) []))):=((s1.put C_).sx).trans Sx.upd
  have g1:upd (upd H1 d1 (.az o1 (.dK (i_ rows)))) x (.ins C dx (dg "rows" (.ref d1) [])) d1=some (.az o1 (.dK (i_ rows))):=by rw [aF ku];exact aA
  have gx:upd (upd H1 d1 (.az o1 (.dK (i_ rows)))) x (.ins C dx (dg "rows" (.ref d1) [])) x=some (.ins C dx (dg "rows" (.ref d1) [])):=aA
  generalize upd (upd H1 d1 (.az o1 (.dK (i_ rows)))) x (.ins C dx (dg "rows" (.ref d1) []))=H2 at Jw g1 gx ⊢
  have nt:∀ ys,H x≠some (.tup ys):=fun ys z=>by rw [hx] at z;cases z
  have nf:∀ q u,H x≠some (.az q u):=fun q u z=>by rw [hx] at z;cases z
  have dh:=rt.tk (Jw.tk nt)
  clear e1 s1 C_ H1
  -- heads
  refine mD (Or.inr ⟨⟨xs,af.of dh.at_⟩,fun D hD=>?_⟩)
  have ER:D≠x:=fun z=>by rw [z,gx] at hD;cases hD
  refine Wr (cM xs) (fun i τ H3=>∃ (v0 v1:Option V) (kvs:List (Key×V)),τ=[v0,v1]/\H3 D=some (.dK kvs)/\DV RH H3 kvs (br (rows.take i))/\aa H2 H3) ⟨none,none,[],rfl,aA,DV.nil,aa.upd hD _⟩ (by rintro i τ H3 _ ⟨_,_,_,_,_,_,s⟩;exact af.of (s _ _ dh.at_)) ?_ ?_
  ·rintro i τ H3 hi ⟨v0,v1,kvs,rfl,q1,q2,q3⟩
   have gy:i < rows.length:=by have:=dh.rv.len;omega
   obtain ⟨b,v,r1,r2,r3⟩:=dh.rv.at_ i hi gy
   have eg:xs.getD i .ai=.ref b:=by rw [Qb,Qa hi,r1];rfl
   rw [eg]
   refine cC (q3 _ _ r2) ?_
   have r3':=r3.same q3
   obtain ⟨c,ys,rfl,hc⟩:=r3'.be
   have hok:=(dh.ok rows[i] (Qj gy)).2
   have et:rows.take (i+1)=rows.take i++[rows[i]]:=by rw [Qs,Qa gy];rfl
   have kl:kvs.length < sizeLine:=by
    have h1:=q2.len
    have h2:=List.length_filter_le (fun r:aq=>r.2.nx.isNone) (rows.take i)
    unfold br at h1
    simp at h2
    omega
   refine ⟨_,.str rows[i].2.be,.inr (af.of hc),aK _ _,rfl,_,rfl,dz (fun c1=>?_) (fun c1=>?_)⟩
   ·have hn:rows[i].2.nx.isNone=true:=by
     cases e:rows[i].2.nx.isNone with
     | true=>rfl
     | false=>
      have:=(tK hok).symm▸e
      rw [this] at c1
      simp at c1
    have en:br (rows.take (i+1))=br (rows.take i)++[rows[i]]:=by
     rw [et];unfold br;rw [List.filter_append,List.filter_cons,if_pos hn];rfl
    have xu:rows[i].1 ∉ (br (rows.take i)).map (·.1):=fun hm=>by
     obtain ⟨r,hr,e⟩:=List.mem_map.mp hm
     have ia:=(List.mem_filter.mp hr).1
     obtain ⟨j,hj,rfl⟩:=Qi ia
     have oh:j < i:=by simp at hj;omega
     rw [List.getElem_take] at e
     have:=List.pairwise_iff_getElem.mp kc j i (by simp;omega) (by simpa using gy) oh
     simp only [Qr] at this
     exact this e
    refine ⟨kvs,.inr rows[i].1,rfl,q1,kl,_,_,kvs++[(.inr rows[i].1,.ref c)],rfl,?_,?_,q3.put hD⟩
    ·rw [q2.put xu];exact aA
    ·rw [en]
     exact (q2.snoc (show RH H3 (.ref c) rows[i] from r3')).keep fun v r h=>HV.tk ((Tk.refl).set q1 fun xs z=>nomatch z) h
   ·have hn:rows[i].2.nx.isNone=false:=by
     have e:rows[i].2.be="as":=by
      have:decide (V.str rows[i].2.be=V.str "as")=true:=by simpa using c1
      exact V.str.inj (Qt this)
     exact (tK hok)▸e
    have en:br (rows.take (i+1))=br (rows.take i):=by
     rw [et];unfold br;rw [List.filter_append,List.filter_cons,if_neg (by rw [hn];decide)];simp
    exact ⟨_,_,kvs,rfl,q1,by rw [en];exact q2,q3⟩
  ·rintro τ H3 ⟨v0,v1,k2,rfl,q1,q2,q3⟩
   rw [dh.rv.len,Qo] at q2
   refine ⟨D,rfl,.inl ⟨k2,.inl q1,fun o2=>?_⟩⟩
   refine ⟨x,C,dx,_,rfl,by rw [aF ER.symm];exact q3 _ _ gx,cl,na "heads" (by simp),by simp [dg],?_⟩
   have Jx:d1≠D:=fun z=>by rw [z,hD] at g1;cases g1
   have Cc:Sx x H2 (upd (upd H3 D (.az o2 (.dK k2))) x (.ins C dx (dg "heads" (.ref D) (dg "rows" (.ref d1) [])))):=((q3.put hD:aa _ _) |> aa.sx).trans Sx.upd
   have g2:upd (upd H3 D (.az o2 (.dK k2))) x (.ins C dx (dg "heads" (.ref D) (dg "rows" (.ref d1) []))) D=some (.az o2 (.dK k2)):=by rw [aF ER];exact aA
   have yu:upd (upd H3 D (.az o2 (.dK k2))) x (.ins C dx (dg "heads" (.ref D) (dg "rows" (.ref d1) []))) x=some (.ins C dx (dg "heads" (.ref D) (dg "rows" (.ref d1) []))):=aA
   have Dc:DV RH (upd (upd H3 D (.az o2 (.dK k2))) x (.ins C dx (dg "heads" (.ref D) (dg "rows" (.ref d1) [])))) k2 (br rows):=q2.keep fun v r h=>HV.tk (((Tk.refl).set q1 fun xs z=>nomatch z).set (by rw [aF ER.symm];exact q3 _ _ gx) fun xs z=>by cases z) h
   generalize upd (upd H3 D (.az o2 (.dK k2))) x (.ins C dx (dg "heads" (.ref D) (dg "rows" (.ref d1) [])))=H4 at Cc g2 yu Dc ⊢
   have EF:H4 d1=some (.az o1 (.dK (i_ rows))):=Cc _ _ ku g1
   have Jy:=Jw.trans Cc
   have ES:Kn mg H4 "FROM" [.str "from"]:=let ⟨o,e⟩:=kf;⟨o,Jy.az nf e⟩
   have ET:Kn mg H4 "TO" [.str "to"]:=let ⟨o,e⟩:=kt;⟨o,Jy.az nf e⟩
   have NO:=Dc.len
   have NP:∀ i (h:i < (br rows).length),((br rows)[i]).2.ok ns:=fun i h=>(rt.ok _ (List.mem_filter.mp (Qj h)).1).2
   have NQ:∀ i (h:i < (br rows).length),s_ k2 i=.str (br rows)[i].1:=fun i h=>by
    unfold s_
    rw [Qa (by omega)]
    show kV k2[i].1=_
    rw [(Dc.at_ i (by omega) h).1];rfl
   have Yv:∀ i (h:i < (br rows).length),HV H4 (valAt k2 i) (br rows)[i].2:=fun i h=>by
    unfold valAt
    rw [Qa (by omega)]
    exact (Dc.at_ i (by omega) h).2
   have GB:∀ i (h:i < (br rows).length),(br rows)[i].1 ∉ ((br rows).take i).map (·.1):=fun i h hm=>by
    obtain ⟨r,hr,e⟩:=List.mem_map.mp hm
    obtain ⟨j,hj,rfl⟩:=Qi hr
    have oh:j < i:=by simp at hj;omega
    rw [List.getElem_take] at e
    have:=List.pairwise_iff_getElem.mp CW j i (by simp;omega) (by simpa using h) oh
    simp only [Qr] at this
    exact this e
   have NR:∀ i (h:i < (br rows).length),(br rows).take (i+1)=(br rows).take i++[(br rows)[i]]:=fun i h=>by rw [Qs,Qa h];rfl
   clear q1 q2 q3 hD dh
   -- marks
   refine mD ⟨x,C,dx,_,.ref D,rfl,yu,cl,na "heads" (by simp),by rw [cJ,if_pos rfl],D,k2,rfl,.inl ⟨o2,g2,fun D3 Cd=>?_⟩⟩
   have EU:D3≠x:=fun z=>by rw [z,yu] at Cd;cases Cd
   refine vI (oK k2) (fun i τ H5=>∃ (v0 v1:Option V) (kvs:List (Key×V)),τ=[v0,v1]/\H5 D3=some (.dK kvs)/\DV RM H5 kvs ((br rows).take i)/\aa H4 H5) ⟨none,none,[],rfl,aA,DV.nil,aa.upd Cd _⟩ (by rintro i τ H5 _ ⟨_,_,_,_,_,_,s⟩;exact s _ _ g2) ?_ ?_
   ·rintro i τ H5 T5 hi ⟨v0,v1,kvs,rfl,q1,q2,q3⟩ hT
    have gm:i < (br rows).length:=by omega
    rw [NQ i gm]
    have hv:=Yv i gm
    generalize valAt k2 i=v at hv
    have t1:=aa.upd hT (.tup [.str (br rows)[i].1,v])
    generalize upd H5 T5 (.tup [.str (br rows)[i].1,v])=H6 at t1
    have NS:=hv.same (q3.trans t1)
    obtain ⟨c,ys,rfl,hc⟩:=NS.be
    refine ⟨_,.str (br rows)[i].2.be,.inr (af.of hc),aK _ _,.ref c,(br rows)[i].2,ns,rfl,NS,NP i gm,ES.same (q3.trans t1),ET.same (q3.trans t1),fun L us H7 hL eL sv s7=>?_⟩
    refine ⟨L,us,rfl,.inl ⟨aj.of eL,fun l hl=>⟨(show 2<=sizeLine by decide),fun t ht=>?_⟩⟩⟩
    have s8:=(s7.trans (aa.upd hl (.tup us))).trans (aa.upd ht (.tup [.str (br rows)[i].2.be,.ref l]))
    have el:upd (upd H7 l (.tup us)) t (.tup [.str (br rows)[i].2.be,.ref l]) l=some (.tup us):=aa.upd ht _ _ _ aA
    have et:upd (upd H7 l (.tup us)) t (.tup [.str (br rows)[i].2.be,.ref l]) t=some (.tup [.str (br rows)[i].2.be,.ref l]):=aA
    have NT:SV (upd (upd H7 l (.tup us)) t (.tup [.str (br rows)[i].2.be,.ref l])) us ((br rows)[i].2.ck.map (·.1)):=sv.keep fun b ys r=>r.same ((aa.upd hl _).trans (aa.upd ht _))
    dsimp only
    generalize upd (upd H7 l (.tup us)) t (.tup [.str (br rows)[i].2.be,.ref l])=H8 at s8 el et NT
    have g3:=(t1.trans s8) _ _ q1
    have kl:kvs.length < sizeLine:=by have h1:=q2.len;simp at h1;omega
    have kp:Tk H8 (upd H8 D3 (.dK (kvs++[(.inr (br rows)[i].1,.ref t)]))):=(Tk.refl).set g3 fun xs z=>nomatch z
    refine ⟨kvs,.inr (br rows)[i].1,rfl,g3,kl,_,_,kvs++[(.inr (br rows)[i].1,.ref t)],rfl,?_,?_,((q3.trans t1).trans s8).put Cd⟩
    ·rw [q2.put (GB i gm)];exact aA
    ·rw [NR i gm,q2.put (GB i gm)]
     have kr:∀ b ys,au H8 b ys->au (upd H8 D3 (.dK (kvs++[(.inr (br rows)[i].1,.ref t)]))) b ys:=fun b ys r=>r.put g3 (fun _ z=>nomatch z) fun _ _ z=>nomatch z
     refine ((q2.keep fun v r ⟨b,c,us,e1,e2,e3,e4⟩=>⟨b,c,us,e1,(t1.trans s8) _ _ e2,(t1.trans s8) _ _ e3,e4.keep fun b ys r=>r.same (t1.trans s8)⟩:DV RM H8 kvs _).snoc (show RM H8 (.ref t) (br rows)[i] from ⟨t,l,us,rfl,et,el,NT⟩)).keep fun v r ⟨b,c,us,e1,e2,e3,e4⟩=>⟨b,c,us,e1,kp _ _ e2,kp _ _ e3,e4.keep kr⟩
   ·rintro τ H5 ⟨v0,v1,k3,rfl,q1,q2,q3⟩
    rw [NO,Qo] at q2
    refine ⟨D3,rfl,.inl ⟨k3,.inl q1,fun o3=>?_⟩⟩
    refine ⟨x,C,dx,_,rfl,by rw [aF EU.symm];exact q3 _ _ yu,cl,na "marks" (by simp),Yu 2,?_⟩
    have nd3:d1≠D3:=fun z=>by rw [z,Cd] at EF;cases EF
    have nD2:D≠D3:=fun z=>by rw [z,Cd] at g2;cases g2
    generalize NU:dg "marks" (.ref D3) (dg "heads" (.ref D) (dg "rows" (.ref d1) []))=jy
    have lk:∀ y:Str,jy.lookup y=if y="marks" then some (.ref D3) else if y="heads" then some (.ref D) else if y="rows" then some (.ref d1) else none:=fun y=>by rw [<- NU,cJ,cJ,cJ];rfl
    have fl:jy.length<=3:=by rw [<- NU];have h1:=cL "marks" (.ref D3) (dg "heads" (.ref D) (dg "rows" (.ref d1) []));have h2:=cL "heads" (.ref D) (dg "rows" (.ref d1) []);have h3:=cL "rows" (.ref d1) [];simp at h3;omega
    have Ce:Sx x H4 (upd (upd H5 D3 (.az o3 (.dK k3))) x (.ins C dx jy)):=((q3.put Cd:aa _ _) |> aa.sx).trans Sx.upd
    have g3:upd (upd H5 D3 (.az o3 (.dK k3))) x (.ins C dx jy) D3=some (.az o3 (.dK k3)):=by rw [aF EU];exact aA
    have A8:upd (upd H5 D3 (.az o3 (.dK k3))) x (.ins C dx jy) x=some (.ins C dx jy):=aA
    have GC:Tk H5 (upd (upd H5 D3 (.az o3 (.dK k3))) x (.ins C dx jy)):=((Tk.refl).set q1 fun xs z=>nomatch z).set (by rw [aF EU.symm];exact q3 _ _ yu) fun xs z=>by cases z
    have NV:∀ b ys,au H5 b ys->au (upd (upd H5 D3 (.az o3 (.dK k3))) x (.ins C dx jy)) b ys:=fun b ys r=>(r.put q1 (fun _ z=>nomatch z) fun _ _ z=>nomatch z).put (by rw [aF EU.symm];exact q3 _ _ yu) (fun _ z=>by cases z) fun _ _ z=>by cases z
    have NW:DV RM (upd (upd H5 D3 (.az o3 (.dK k3))) x (.ins C dx jy)) k3 (br rows):=q2.keep fun v r ⟨b,c,us,e1,e2,e3,e4⟩=>⟨b,c,us,e1,GC _ _ e2,GC _ _ e3,e4.keep NV⟩
    have Jz:DV RH (upd (upd H5 D3 (.az o3 (.dK k3))) x (.ins C dx jy)) k2 (br rows):=Dc.keep fun v r h=>HV.tk ((q3.ts).trans GC) h
    generalize upd (upd H5 D3 (.az o3 (.dK k3))) x (.ins C dx jy)=H6 at Ce g3 A8 NW Jz ⊢
    have GD:H6 d1=some (.az o1 (.dK (i_ rows))):=Ce _ _ ku EF
    have EV:H6 D=some (.az o2 (.dK k2)):=Ce _ _ ER g2
    have Yw:Kn mg H6 "FROM" [.str "from"]:=let ⟨o,e⟩:=ES;⟨o,Ce.az (fun q u z=>by rw [yu] at z;cases z) e⟩
    have Yx:Kn mg H6 "TO" [.str "to"]:=let ⟨o,e⟩:=ET;⟨o,Ce.az (fun q u z=>by rw [yu] at z;cases z) e⟩
    have Yy:∀ i (h:i < (br rows).length),HV H6 (valAt k2 i) (br rows)[i].2:=fun i h=>by
     unfold valAt
     rw [Qa (by omega)]
     exact (Jz.at_ i (by omega) h).2
    have Yz:=Jy.trans Ce
    have YA:∀ z∈ns,z∈rows.map (·.1):=fun z hz=>rt.nm.mem_iff.mpr hz
    clear q1 q2 q3 GC NV Dc Ce
    -- moves
    refine yC ⟨x,C,dx,jy,.ref D,rfl,A8,cl,na "heads" (by simp),by rw [lk,if_neg (by decide+kernel),if_pos rfl],D,k2,rfl,.inl ⟨o2,EV,fun D4 A9=>?_⟩⟩
    have GF:D4≠x:=fun z=>by rw [z,A8] at A9;cases A9
    refine vI (oK k2) (fun i τ H7=>∃ (v0 v1:Option V) (kvs:List (Key×V)),τ=[v0,v1,some (.ref x)]/\H7 D4=some (.dK kvs)/\DV (RO rows) H7 kvs ((br rows).take i)/\aa H6 H7) ⟨none,none,[],rfl,aA,DV.nil,aa.upd A9 _⟩ (by rintro i τ H5 _ ⟨_,_,_,_,_,_,s⟩;exact s _ _ EV) ?_ ?_
    ·rintro i τ H7 T7 hi ⟨v0,v1,kvs,rfl,q1,q2,q3⟩ hT
     have gm:i < (br rows).length:=by omega
     rw [NQ i gm]
     have hv:=Yy i gm
     generalize valAt k2 i=v at hv
     have t1:=aa.upd hT (.tup [.str (br rows)[i].1,v])
     generalize upd H7 T7 (.tup [.str (br rows)[i].1,v])=H8 at t1
     have q4:=q3.trans t1
     refine ⟨x,C,dx,jy,.ref d1,rfl,q4 _ _ A8,cl,na "rows" (by simp),by rw [lk,if_neg (by decide+kernel),if_neg (by decide+kernel),if_pos rfl],?_⟩
     refine ⟨v,(br rows)[i].2,ns,rows,d1,rfl,hv.same q4,NP i gm,Yw.same q4,Yx.same q4,.inr ⟨o1,q4 _ _ GD⟩,YA,kc,fun m H9 hm em s9=>⟨m,rfl,.inr ⟨_,.inl em,fun o=>?_⟩⟩⟩
     have nmD:D4≠m:=fun z=>by
      have:=t1 _ _ q1
      rw [z,hm] at this;cases this
     have GG:aa H8 (upd H9 m (.az o (.dT (ko rows (br rows)[i].2)))):=s9.put hm
     have NX:upd H9 m (.az o (.dT (ko rows (br rows)[i].2))) m=some (.az o (.dT (ko rows (br rows)[i].2))):=aA
     generalize upd H9 m (.az o (.dT (ko rows (br rows)[i].2)))=EW at GG NX
     have NY:=(t1.trans GG) _ _ q1
     have kl:kvs.length < sizeLine:=by have h1:=q2.len;simp at h1;omega
     refine ⟨kvs,.inr (br rows)[i].1,rfl,NY,kl,_,_,kvs++[(.inr (br rows)[i].1,.ref m)],rfl,?_,?_,(q4.trans GG).put A9⟩
     ·rw [q2.put (GB i gm)];exact aA
     ·rw [NR i gm,q2.put (GB i gm)]
      refine ((q2.keep fun v r ⟨m',o',e1,e2⟩=>⟨m',o',e1,(t1.trans GG) _ _ e2⟩:DV (RO rows) EW kvs _).snoc (show RO rows EW (.ref m) (br rows)[i] from ⟨m,o,rfl,NX⟩)).keep fun v r ⟨m',o',e1,e2⟩=>⟨m',o',e1,?_⟩
      rw [aF (fun z=>by rw [z,NY] at e2;cases e2)]
      exact e2
    ·rintro τ H7 ⟨v0,v1,k4,rfl,q1,q2,q3⟩
     rw [NO,Qo] at q2
     refine ⟨D4,rfl,.inl ⟨k4,.inl q1,fun o4=>?_⟩⟩
     refine ⟨x,C,dx,jy,rfl,by rw [aF GF.symm];exact q3 _ _ A8,cl,na "moves" (by simp),by omega,?_⟩
     have abi:d1≠D4:=fun z=>by rw [z,A9] at GD;cases GD
     have abj:D≠D4:=fun z=>by rw [z,A9] at EV;cases EV
     have abk:D3≠D4:=fun z=>by rw [z,A9] at g3;cases g3
     have s7:Sx x H6 (upd (upd H7 D4 (.az o4 (.dK k4))) x (.ins C dx (dg "moves" (.ref D4) jy))):=((q3.put A9:aa _ _) |> aa.sx).trans Sx.upd
     have JA:Tk H7 (upd (upd H7 D4 (.az o4 (.dK k4))) x (.ins C dx (dg "moves" (.ref D4) jy))):=((Tk.refl).set q1 fun xs z=>nomatch z).set (by rw [aF GF.symm];exact q3 _ _ A8) fun xs z=>by cases z
     have YB:∀ b ys,au H7 b ys->au (upd (upd H7 D4 (.az o4 (.dK k4))) x (.ins C dx (dg "moves" (.ref D4) jy))) b ys:=fun b ys r=>(r.put q1 (fun _ z=>nomatch z) fun _ _ z=>nomatch z).put (by rw [aF GF.symm];exact q3 _ _ A8) (fun _ z=>by cases z) fun _ _ z=>by cases z
     have YC:∀ b q u,H7 b=some (.az q u)->upd (upd H7 D4 (.az o4 (.dK k4))) x (.ins C dx (dg "moves" (.ref D4) jy)) b=some (.az q u):=fun b q u e=>by
      rw [aF (fun z=>by rw [z,q3 _ _ A8] at e;cases e),aF (fun z=>by rw [z,q1] at e;cases e)]
      exact e
     have l4:∀ y:Str,(dg "moves" (.ref D4) jy).lookup y=if y="moves" then some (.ref D4) else jy.lookup y:=fun y=>cJ _ _ _ _
     refine k _ ⟨dx,dg "moves" (.ref D4) jy,aA,⟨⟨d1,o1,?_,s7 _ _ ku GD⟩,⟨D,o2,k2,?_,s7 _ _ ER EV,Jz.keep fun v r h=>HV.tk (q3.ts.trans JA) h⟩,⟨D3,o3,k3,?_,s7 _ _ EU g3,NW.keep fun v r ⟨b,c,us,e1,e2,e3,e4⟩=>⟨b,c,us,e1,JA _ _ (q3 _ _ e2),JA _ _ (q3 _ _ e3),e4.keep fun b ys r=>YB _ _ (r.same q3)⟩⟩,⟨D4,o4,k4,?_,?_,q2.keep fun v r ⟨m,o,e1,e2⟩=>⟨m,o,e1,YC _ _ _ e2⟩⟩⟩⟩ (Yz.trans s7)
     ·rw [l4,if_neg (by decide+kernel),lk,if_neg (by decide+kernel),if_neg (by decide+kernel),if_pos rfl]
     ·rw [l4,if_neg (by decide+kernel),lk,if_neg (by decide+kernel),if_pos rfl]
     ·rw [l4,if_neg (by decide+kernel),lk,if_pos rfl]
     ·rw [l4,if_pos rfl]
     ·rw [aF GF];exact aA
def dbl (ns:List Str):List Str:=ns.flatMap fun n=>[n++"q",n++"r"]
theorem dO:z∈dbl ns↔∃ n∈ns,z=n++"q"\/z=n++"r":=by
 unfold dbl
 rw [List.mem_flatMap]
 constructor
 ·rintro ⟨n,hn,h⟩
  simp only [Qp,QA,or_false] at h
  exact ⟨n,hn,h⟩
 ·rintro ⟨n,hn,h⟩
  exact ⟨n,hn,by simpa using h⟩
theorem NZ:∀ z∈dbl N8,isName z=true/\Wd z:=by
 have h1:(dbl N8).all (fun z=>isName z&&decide (z.length<=20)&&z.cps.toList.all (fun c=>decide (c < 128)))=true:=by decide+kernel
 intro z hz
 have h2:=QF.mp h1 z hz
 simp only [Bool.and_eq_true,decide_eq_true_eq] at h2
 exact ⟨h2.1.1,h2.1.2,fun c hc=>Qt (QF.mp h2.2 c hc)⟩
theorem pQ (ns:List Str):(dbl ns).length=2*ns.length:=by
 unfold dbl
 induction ns with
 | nil=>rfl
 | cons n ns ih=>rw [List.flatMap_cons,Qk,ih];simp;omega
theorem N4 (ns:List Str) (i:Nat) (h:i < ns.length):(dbl ns)[2*i]? =some (ns[i]++"q")/\(dbl ns)[2*i+1]? =some (ns[i]++"r"):=by
 unfold dbl
 induction ns generalizing i with
 | nil=>simp at h
 | cons n ns ih=>
  rw [List.flatMap_cons]
  cases i with
  | zero=>exact ⟨rfl,rfl⟩
  | succ i=>
   have:=ih i (by simpa using h)
   rw [show 2*(i+1)=2*i+2 by omega,show 2*i+2+1=2*i+1+2 by omega]
   simpa using this
theorem YD (h:ns.Nodup) (h8:∀ n∈ns,n∈N8):(dbl ns).Nodup:=by
 have inj:∀ a∈N8,∀ b∈N8,∀ c∈(["q","r"]:List Str),∀ d∈(["q","r"]:List Str),a++c=b++d->a=b/\c=d:=by decide+kernel
 unfold dbl
 induction ns with
 | nil=>exact List.nodup_nil
 | cons n ns ih=>
  rw [List.nodup_cons] at h
  rw [List.flatMap_cons,List.nodup_append]
  refine ⟨?_,ih h.2 fun m hm=>h8 m (Qh _ hm),fun a ha b hb e=>?_⟩
  ·have:=inj n (h8 n List.mem_cons_self) n (h8 n List.mem_cons_self) "q" (by simp) "r" (by simp)
   simp only [List.nodup_cons,List.mem_singleton,List.not_mem_nil,not_false_eq_true,List.nodup_nil,and_true]
   exact fun z=>absurd (this z).2 (by decide+kernel)
  ·obtain ⟨m,hm,hb⟩:=List.mem_flatMap.mp hb
   subst e
   simp only [Qp,QA,or_false] at ha hb
   have key:∀ c∈(["q","r"]:List Str),∀ d∈(["q","r"]:List Str),n++c=m++d->False:=fun c hc d hd e=>by
    have:=(inj n (h8 n List.mem_cons_self) m (h8 m (Qh _ hm)) c hc d hd e).1
    rw [this] at h
    exact h.1 hm
   rcases ha with rfl | rfl<;>rcases hb with hb | hb
   ·exact key "q" (by simp) "q" (by simp) hb
   ·exact key "q" (by simp) "r" (by simp) hb
   ·exact key "r" (by simp) "q" (by simp) hb
   ·exact key "r" (by simp) "r" (by simp) hb
def JB (K:Q0):Sp:=fun vs H Q _=>∃ (H0:Hp) (p:Addr) (v:V) (h:Hd) (t:Nat) (ns:List Str),vs=[.ref p,v]/\b_ K H0 H p t/\t+20 < 900000/\HV H v h/\h.ok ns/\(∀ n∈ns,n∈N8)/\(∀ z∈h.AW,z∈WW)/\
 ∀ (v':V) (h':Hd) (H':Hp),HV H' v' h'->h'.ok (dbl ns)->(∀ y',h'.nx=some y'->∃ y,h.nx=some y/\(y'=y++"q"\/y'=y++"r"))->(∀ z∈h'.AW,z∈WW)->b_ K H0 H' p (t+20)->Sm p p H H'->Q v' H'
theorem N5 (i:Nat) (h:i < 2):∃ c,lg (("qr":Str).cps.toList) (i:Int)=some c/\((⟨#[c]⟩:Str)="q"\/(⟨#[c]⟩:Str)="r"):=by
 match i,h with
 | 0,_=>exact ⟨113,rfl,.inl rfl⟩
 | 1,_=>exact ⟨114,rfl,.inr rfl⟩
set_option maxHeartbeats 2000000 in
theorem kK (T:Txt K mg w):a_ P w K mg base 3 "_law_twin_head" ["_law_pen","_law_here"] (JB K):=by
 have aN:a_ P w K mg base 2 "_law_next" ["_law_pen","_law_many"] (vq K):=bL T
 refine T.lC.fk k7 (fun vs H Q E h=>?_) (fun f bc A outer s H vs Q E hr h=>?_)
 ·refine hdn fun G9 hG=>?_;obtain ⟨H0,p,v,h,t,ns,rfl,_⟩:=h;refine hG ?_
  rfl
 ·refine hdn fun G9 hG=>?_;obtain ⟨H0,p,v,h,t,ns,rfl,hn,ht,hv,hok,h8,A_,k⟩:=h;refine hG ?_
  have hu:=aU hr
  have bz:=Qx (aU hr)
  have hsz:sizeLine=16777216:=QL
  have GH:∀ z∈ns,z.length<=8:=fun z hz=>fE (nZ z (h8 z hz)).1
  have B7:∀ z∈dbl ns,isName z=true:=fun z hz=>by
   obtain ⟨n,hn,h⟩:=dO.mp hz
   exact (NZ z (dO.mpr ⟨n,h8 n hn,h⟩)).1
  refine ⟨_,(aC (bN (aL (kF K) (aY (aZ K) (zv 1) aG (fun _ _=>rfl)) (aT (aD aS (aD aS ae))) rfl) (aE (aQ (zv 1))) aV)
   (aC (bN (aL (kF K) (aY (aZ K) (zv 1) aG (fun _ _=>rfl)) (aT (aD aS (aD aS ae))) rfl) (aE (aQ (bX (jL K) (fM (rF K) (zv 1) fS (fT aG)) (bM (cV K) (by rfl) T.dP QG (dQ (nC (own:=["_law_name"]) (idx:=[0]) (N':=["_law_name","_law_pen"]) (dH (bh cE) (["_law_pen","_law_here"]:List Str) (by decide+kernel)) rfl (lJ K (fM (rF K) (zv 1) (fT aG) fS)) (fun _ _ _ _ _ _=>(aJ (i:=0) (show List.Nodup (["_law_name","_law_pen"]:List Str) by decide+kernel) rfl (Or.inl rfl))) (fun _ _ _ _ _ _=>eA) (fun _ _ _ _ _ _=>(bX bW (zv 0) (aY (aZ K) aS (bA aN (hr.mono (by decide)) (aB (zv 1) (aD aG ae))) (fun _ _=>rfl))))) ae))))) aV)
   (aE (aQ (aT (aH (aY (aZ K) (zv 1) aG (fun _ _=>rfl)) (aP (bM (cV K) (by rfl) T.dP QG (dQ (nC (own:=["_law_word","_law_name"]) (idx:=[0]) (N':=["_law_word","_law_name","_law_pen"]) (dH (bh cE) (["_law_pen","_law_here"]:List Str) (by decide+kernel)) rfl (lJ K (aY (aZ K) (zv 1) aG (fun _ _=>rfl))) (fun _ _ _ _ _ _=>(bO K (n:=2) rfl (aI (aJ (i:=0) (show List.Nodup (["_law_word","_law_name","_law_pen"]:List Str) by decide+kernel) rfl (Or.inl rfl)) (aI (aJ (i:=1) (show List.Nodup (["_law_word","_law_name","_law_pen"]:List Str) by decide+kernel) rfl (Or.inl rfl)) bE)))) (fun _ _ _ _ _ _=>eA) (fun _ _ _ _ _ _=>(aT (aB (zv 0) (eZ (bX bW (zv 1) (aY (aZ K) aS (bA aN (hr.mono (by decide)) (aB (zv 2) (aD aG ae))) (fun _ _=>rfl))) ae))))) ae)) ae))))))),?_⟩
  /- Bu first two tests -/
  have tests:∀ (b:Addr) (z:Str) (ys:List V) (A B:TS) (D:Ends) (l1 l2:Str),H b=some (.tup (.str z::ys))->((z∈([l1,l2]:List Str))->∀ H1,aa H H1->A D [some (.ref p),some (.ref b)] H1)->((z ∉ ([l1,l2]:List Str))->∀ H1,aa H H1->B D [some (.ref p),some (.ref b)] H1)->
    ∀ H1,aa H H1->Fp (Fx (ky (CF K false) (ky (BH K) (tV 1) (tC (V.int 0))) (Cw (g_ (tC (V.str l1)) (g_ (tC (V.str l2)) uc))))) A B D [some (.ref p),some (.ref b)] H1:=by
   intro b z ys A B D l1 l2 e hA hB H1 s1
   refine ⟨_,.str z,.inr (af.of (s1 _ _ e)),aK _ _,(show 2<=sizeLine by decide),fun T1 Cf=>⟨[.str l1,.str l2],.inr (af.of aA),rfl,rfl,_,rfl,?_⟩⟩
   show if (false^^r_ (.str z) (([l1,l2]:List Str).map V.str))=true then _ else _
   rw [fI,QE]
   by_cases hz:z∈([l1,l2]:List Str)
   ·rw [Qv hz];exact w_ (hA hz _ (s1.trans (aa.upd Cf _)))
   ·rw [Qw hz];exact ig (hB hz _ (s1.trans (aa.upd Cf _)))
  have plain:∀ (b:Addr) (z0:Str) (ys:List Str),H b=some (.tup (.str z0::ys.map V.str))->(ys.length=1\/ys.length=2)->(∀ y∈ys,y.length<=8)->(∀ (pp:Addr) (zs:List Str) (H':Hp),H' pp=some (.tup (.str z0::zs.map V.str))->zs.length=ys.length->(∀ i (h1:i < zs.length) (h2:i < ys.length),zs[i]=ys[i]++"q"\/zs[i]=ys[i]++"r")->b_ K H0 H' p (t+20)->Sm p p H H'->Q (.ref pp) H')->
    ∀ H1,aa H H1->Cq (ky (IE K) (CA (fun x lo hi H Q=>BJ x lo hi H Q\/(BF K x lo hi H Q\/BD K x lo hi H Q)) (tV 1) Cy (Cz (tC (V.int 1)))) (BB (LG K) (g_ (BG ["_law_name"] [0] (iD K (CA (fun x lo hi H Q=>BJ x lo hi H Q\/(BF K x lo hi H Q\/BD K x lo hi H Q)) (tV 1) (Cz (tC (V.int 1))) Cy)) (jc 0) DP (ky HD (tV 0) (ky (BH K) (tC (V.str "qr")) (DJ (vq K) [] E0 (g_ (tV 1) (g_ (tC (V.int 2)) uc)))))) uc))) {nx:=fun _ H'=>Q .ai H',rt:=Q} [some (.ref p),some (.ref b)] H1:=by
   intro b z0 ys e hl YE kk H1 s1
   have e1:=s1 _ _ e
   have el:(V.str z0::ys.map V.str).length=ys.length+1:=by simp
   refine ⟨1,rfl,Or.inr (Or.inr ⟨b,_,rfl,af.of e1,?_,fun N hN=>?_⟩)⟩
   ·rw [el];rcases hl with h | h<;>(rw [h];decide)
   have ec:ou (V.str z0::ys.map V.str) none (some 1)=[.str z0]:=(pD _ 1).trans rfl
   rw [ec]
   have s2:=s1.trans (aa.upd hN (.tup [.str z0]))
   have f2:upd H1 N (.tup [.str z0]) N=some (.tup [.str z0]):=aA
   dsimp only
   generalize upd H1 N (.tup [.str z0])=H2 at s2 f2 ⊢
   refine ⟨1,rfl,Or.inr (Or.inr ⟨b,_,rfl,af.of (s2 _ _ e),?_,fun M hM=>?_⟩)⟩
   ·rw [el];rcases hl with h | h<;>(rw [h];decide)
   have YF:ou (V.str z0::ys.map V.str) (some 1) none=ys.map V.str:=(jO _ 1).trans rfl
   rw [YF]
   have s3:=s2.trans (aa.upd hM (.tup (ys.map V.str)))
   have f3:upd H2 M (.tup (ys.map V.str)) M=some (.tup (ys.map V.str)):=aA
   have N6:=(aa.upd hM (.tup (ys.map V.str))) _ _ f2
   generalize upd H2 M (.tup (ys.map V.str))=H3 at s3 f3 N6 ⊢
   refine Or.inr ⟨⟨_,af.of f3⟩,fun D hD=>?_⟩
   have fq:=hn.same s3
   have qc:D≠p:=fq.ne hD
   have fD:=fq.free hD
   have x_:H D=none:=s3.free hD
   refine hV (cM (ys.map V.str)) (fun i τ H'=>∃ (v0:Option V) (zs:List Str),τ=[v0,some (.ref p)]/\H' D=some (.lst (zs.map V.str))/\zs.length=i/\(∀ j (h1:j < zs.length) (h2:j < ys.length),zs[j]=ys[j]++"q"\/zs[j]=ys[j]++"r")/\b_ K H0 H' p (t+i)/\Sm p p H H'/\Tk H3 H')
    ⟨none,[],rfl,aA,rfl,fun j h=>absurd h (by simp),fq.same (aa.upd hD _),(s3.trans (aa.upd hD _)).sm,(aa.upd hD _).ts⟩ (by rintro i τ H' _ ⟨_,_,_,_,_,_,_,_,tk⟩;exact af.of (tk _ _ f3)) ?_ ?_
   ·rintro i τ H4 hi z0;refine hdn fun G9 hG=>?_;obtain ⟨v0,zs,rfl,q1,q2,q3,q4,q5,q6⟩:=z0;refine hG ?_
    rw [Ql] at hi
    rw [iI ys i hi]
    have ey:ys.getD i ""=ys[i]:=by rw [Qb,Qa hi];rfl
    rw [ey]
    have hy:=YE _ (Qj hi)
    refine ⟨H0,p,2,t+i,rfl,q4,⟨by decide,by decide⟩,by omega,fun r H5 r0 r1 jx gj=>?_⟩
    obtain ⟨j,rfl⟩:∃ j:Nat,r=(j:Int):=⟨r.toNat,by omega⟩
    obtain ⟨c,ki,jq⟩:=N5 j (by omega)
    refine ⟨(show 2<=sizeLine by decide),c,ki,⟨by show ys[i].length+1<=sizeLine;omega,?_⟩⟩
    have g1:=gj _ _ q1 qc qc
    have EX:Tk H4 (upd H5 D (.lst (zs.map V.str++[.str (ys[i]++⟨#[c]⟩)]))):=(q4.ts gj).trans (Tk.refl.set g1 (fun _ z=>nomatch z))
    refine ⟨_,g1,by simp;omega,_,zs++[ys[i]++⟨#[c]⟩],rfl,by rw [aA,Qm];rfl,by simp [q2],fun j' h1 h2=>?_,jx.put qc fD,(q5.trans gj).upd x_,q6.trans EX⟩
    by_cases hj:j' < zs.length
    ·rw [Qe hj];exact q3 j' hj h2
    ·have ej:j'=zs.length:=by simp at h1;omega
     subst ej
     rw [Qf (Qy _)]
     simp only [Nat.sub_self,List.getElem_cons_zero]
     subst q2
     rcases jq with h | h
     ·rw [h];exact .inl rfl
     ·rw [h];exact .inr rfl
   ·rintro τ H4 z0;refine hdn fun G9 hG=>?_;obtain ⟨v0,zs,rfl,q1,q2,q3,q4,q5,q6⟩:=z0;refine hG ?_
    rw [Ql] at q2 q4
    refine ⟨D,_,rfl,.inl ⟨aj.of q1,fun N2 Cg=>?_⟩⟩
    have s5:=aa.upd Cg (.tup (zs.map V.str))
    have f5:upd H4 N2 (.tup (zs.map V.str)) N2=some (.tup (zs.map V.str)):=aA
    dsimp only
    generalize upd H4 N2 (.tup (zs.map V.str))=H5 at s5 f5 ⊢
    refine ED (s5 _ _ (q6 _ _ N6)) f5 (by simp;omega) fun pp H6 s6 e6=>?_
    exact kk pp zs H6 e6 q2 q3 (((q4.same s5).same s6).mono (by omega)) ((q5.trans s5.sm).trans s6.sm)
  cases hv with
  | @one b z e=>
   refine tests b z [] _ _ _ "all" "none" e (fun hz H1 s1=>?_) (fun hz H1 s1=>?_) H (aa.refl _)
   ·exact k (.ref b) (.one z) H1 (.one (s1 _ _ e)) hok (fun y h=>nomatch h) (fun _ h=>nomatch h) ((hn.same s1).mono (by omega)) s1.sm
   ·exact absurd (by rcases hok with rfl | rfl<;>simp) hz
  | @as b y e=>
   refine tests b "as" [.str y] _ _ _ "all" "none" e (fun hz H1 s1=>absurd hz (by decide+kernel)) (fun hz H1 s1=>?_) H (aa.refl _)
   refine tests b "as" [.str y] _ _ _ "way" "as" e (fun hz H1 s1=>?_) (fun hz H1 s1=>absurd (by simp) hz) H1 s1
   refine plain b "as" [y] e (.inl rfl) (fun z hz=>by rw [List.mem_singleton.mp hz];exact GH _ hok.2) (fun pp zs H' e' hl hz wk JC=>?_) H1 s1
   match zs,hl with
   | [y'],_=>
    have h0:=hz 0 (by simp) (by simp)
    have hm:y'∈dbl ns:=dO.mpr ⟨y,hok.2,h0⟩
    exact k (.ref pp) (.as y') H' (.as e') ⟨B7 _ hm,hm⟩ (fun y2 h2=>by cases h2;exact ⟨y,rfl,h0⟩) (fun _ h=>nomatch h) wk JC
  | @way b x y e=>
   refine tests b "way" [.str x,.str y] _ _ _ "all" "none" e (fun hz H1 s1=>absurd hz (by decide+kernel)) (fun hz H1 s1=>?_) H (aa.refl _)
   refine tests b "way" [.str x,.str y] _ _ _ "way" "as" e (fun hz H1 s1=>?_) (fun hz H1 s1=>absurd (by simp) hz) H1 s1
   refine plain b "way" [x,y] e (.inr rfl) (fun z hz=>?_) (fun pp zs H' e' hl hz wk JC=>?_) H1 s1
   ·simp only [Qp,QA,or_false] at hz
    rcases hz with rfl | rfl
    ·exact GH _ hok.2.2.1
    ·exact GH _ hok.2.2.2
   match zs,hl with
   | [x',y'],_=>
    have h0:=hz 0 (by simp) (by simp)
    have h1:=hz 1 (by simp) (by simp)
    have C4:x'∈dbl ns:=dO.mpr ⟨x,hok.2.2.1,h0⟩
    have yq:y'∈dbl ns:=dO.mpr ⟨y,hok.2.2.2,h1⟩
    exact k (.ref pp) (.way x' y') H' (.way e') ⟨B7 _ C4,B7 _ yq,C4,yq⟩ (fun y2 h2=>nomatch h2) (fun _ h=>nomatch h) wk JC
  | @prs b c s0 ys ps e ec hp=>
   have N7:s0 ∉ (["all","none"]:List Str)/\s0 ∉ (["way","as"]:List Str):=by rcases hok.1 with rfl | rfl<;>decide+kernel
   refine tests b s0 [.ref c] _ _ _ "all" "none" e (fun hz H1 s1=>absurd hz N7.1) (fun hz H1 s1=>?_) H (aa.refl _)
   refine tests b s0 [.ref c] _ _ _ "way" "as" e (fun hz H1 s1=>absurd hz N7.2) (fun hz H1 s1=>?_) H1 s1
   have h_:=hp.len
   obtain ⟨hs,GI,Ew,Ef⟩:=hok
   refine ⟨_,.str s0,.inr (af.of (s1 _ _ e)),aK _ _,_,.ref c,.inr (af.of (s1 _ _ e)),rfl,Or.inr ⟨⟨ys,af.of (s1 _ _ ec)⟩,fun D hD=>?_⟩⟩
   have fq:=hn.same s1
   have qc:D≠p:=fq.ne hD
   have fD:=fq.free hD
   have x_:H D=none:=s1.free hD
   refine hV (cM ys) (fun i τ H'=>∃ (v0 v1:Option V) (us:List V) (qs:List (Str×Str)),τ=[v0,v1,some (.ref p)]/\H' D=some (.lst us)/\BV H' us qs/\qs.length=i/\(∀ j (h1:j < qs.length) (h2:j < ps.length),qs[j].1=ps[j].1/\(qs[j].2=ps[j].2++"q"\/qs[j].2=ps[j].2++"r"))/\b_ K H0 H' p (t+i)/\Sm p p H H'/\Tk H1 H')
    ⟨none,none,[],[],rfl,aA,⟨rfl,fun i h=>absurd h (by simp)⟩,rfl,fun j h=>absurd h (by simp),fq.same (aa.upd hD _),(s1.trans (aa.upd hD _)).sm,(aa.upd hD _).ts⟩ (by rintro i τ H' _ ⟨_,_,_,_,_,_,_,_,_,_,_,tk⟩;exact af.of (tk _ _ (s1 _ _ ec))) ?_ ?_
   ·rintro i τ H4 hi z0;refine hdn fun G9 hG=>?_;obtain ⟨v0,v1,us,qs,rfl,q1,q2,q3,q4,q5,q6,q7⟩:=z0;refine hG ?_
    have mq:i < ps.length:=by omega
    obtain ⟨d0,r1,r2⟩:=hp.at_ i hi mq
    have eg:ys.getD i .ai=.ref d0:=by rw [Qb,Qa hi,r1];rfl
    rw [eg]
    have hy:=GH _ (GI _ (Qj mq)).2.2
    refine cC (q7 _ _ (s1 _ _ r2)) ?_
    refine ⟨H0,p,2,t+i,rfl,q5,⟨by decide,by decide⟩,by omega,fun r H5 r0 FT jx gj=>?_⟩
    obtain ⟨j,rfl⟩:∃ j:Nat,r=(j:Int):=⟨r.toNat,by omega⟩
    obtain ⟨c',ki,jq⟩:=N5 j (by omega)
    refine ⟨(show 2<=sizeLine by decide),c',ki,⟨by show ps[i].2.length+1<=sizeLine;omega,(show 2<=sizeLine by decide),fun T8 Ba=>?_⟩⟩
    have g1:=gj _ _ q1 qc qc
    have s8:=aa.upd Ba (.tup [.str ps[i].1,.str (ps[i].2++⟨#[c']⟩)])
    have f8:upd H5 T8 (.tup [.str ps[i].1,.str (ps[i].2++⟨#[c']⟩)]) T8=some (.tup [.str ps[i].1,.str (ps[i].2++⟨#[c']⟩)]):=aA
    have g8:=s8 _ _ g1
    have N9:=jx.same s8
    have N_:=(q6.trans gj).trans s8.sm (p:=p) (w:=p)
    have C9:Tk H4 (upd H5 T8 (.tup [.str ps[i].1,.str (ps[i].2++⟨#[c']⟩)])):=(q5.ts gj).trans s8.ts
    dsimp only
    generalize upd H5 T8 (.tup [.str ps[i].1,.str (ps[i].2++⟨#[c']⟩)])=H6 at s8 f8 g8 N9 N_ C9 ⊢
    have JD:Tk H6 (upd H6 D (.lst (us++[.ref T8]))):=Tk.refl.set g8 (fun _ z=>nomatch z)
    have ul:=q2.len
    refine ⟨us,g8,by omega,_,_,us++[.ref T8],qs++[(ps[i].1,ps[i].2++⟨#[c']⟩)],rfl,aA,?_,by simp [q3],fun j' h1 h2=>?_,N9.put qc fD,N_.upd x_,(q7.trans C9).trans JD⟩
    ·have YG:=q2.tk (C9.trans JD)
     refine ⟨by simp [ul],fun i' h1 h2=>?_⟩
     by_cases cj:i' < us.length
     ·rw [Qe cj,Qe (by omega)]
      exact YG.at_ i' cj (by omega)
     ·have ei:i'=us.length:=by simp at h1;omega
      subst ei
      rw [Qf (Qy _),Qf (by omega)]
      simp only [Nat.sub_self,ul,List.getElem_cons_zero]
      exact ⟨T8,rfl,JD _ _ f8⟩
    ·by_cases hj:j' < qs.length
     ·rw [Qe hj];exact q4 j' hj h2
     ·have ej:j'=qs.length:=by simp at h1;omega
      subst ej
      rw [Qf (Qy _)]
      simp only [Nat.sub_self,List.getElem_cons_zero]
      subst q3
      rcases jq with h | h
      ·rw [h];exact ⟨rfl,.inl rfl⟩
      ·rw [h];exact ⟨rfl,.inr rfl⟩
   ·rintro τ H4 z0;refine hdn fun G9 hG=>?_;obtain ⟨v0,v1,us,qs,rfl,q1,q2,q3,q4,q5,q6,q7⟩:=z0;refine hG ?_
    rw [h_] at q3 q5
    refine ⟨D,_,rfl,.inl ⟨aj.of q1,fun N2 Cg=>⟨(show 2<=sizeLine by decide),fun N3 EY=>?_⟩⟩⟩
    have s5:=aa.upd Cg (.tup us)
    have f5:upd H4 N2 (.tup us) N2=some (.tup us):=aA
    have s6:=aa.upd EY (.tup [.str s0,.ref N2])
    have JE:=s5.trans s6
    have Oa:qs.map (·.1)=ps.map (·.1):=by
     refine List.ext_getElem (by simp;omega) fun i h1 h2=>?_
     simp only [Qr]
     exact (q4 i (by simpa using h1) (by simpa using h2)).1
    refine k (.ref N3) (.prs s0 qs) _ (.prs aA (s6 _ _ f5) (q2.tk JE.ts)) ⟨hs,fun q hq=>?_,by rw [Oa];exact Ew,by omega⟩ (fun y h=>nomatch h) (fun z hz=>?_) ((q5.same JE).mono (by omega)) (q6.trans JE.sm)
    ·obtain ⟨i,hi,rfl⟩:=Qi hq
     obtain ⟨g1,g2⟩:=q4 i hi (by omega)
     have Ob:=GI _ (Qj (show i < ps.length by omega))
     have hm:qs[i].2∈dbl ns:=dO.mpr ⟨_,Ob.2.2,g2⟩
     exact ⟨by rw [g1];exact Ob.1,B7 _ hm,hm⟩
    ·have:z∈ps.map (·.1):=by rw [<- Oa];exact hz
     exact A_ z this
def Oc (K:Q0):Sp:=fun vs H Q _=>∃ (H0:Hp) (p a:Addr) (t:Nat) (xs:List V) (rows:List aq) (ns:List Str),vs=[.ref p,.ref a]/\b_ K H0 H p t/\t+600 < 900000/\RT H a xs rows ns WW/\(∀ n∈ns,n∈N8)/\ns.length<=7/\
 ∀ (b:Addr) (ys:List V) (d_:List aq) (H':Hp),RT H' b ys d_ (dbl ns) WW->b_ K H0 H' p (t+600)->Sm p p H H'->Q (.ref b) H'
theorem zS {l m:List Str} (h:l.Perm m):(dbl l).Perm (dbl m):=h.flatMap_right _
theorem YH (l:List Str) (n:Str):dbl (l++[n])=dbl l++[n++"q",n++"r"]:=by simp [dbl]
theorem mX {rs:List (Str×V)} (h:j_ H ns ws rs) {n:Str} {v:V} (h1:n∈ns) (h2:pe H ns ws v (Af ns n)):j_ H ns ws (rs++[(n,v)]):=
 (h.add h1 h2).perm fun r hr=>by
  rcases List.mem_append.mp hr with hr | hr
  ·exact Qh _ hr
  ·rw [List.mem_singleton.mp hr];exact List.mem_cons_self
set_option maxHeartbeats 2000000 in
theorem qX (T:Txt K mg w):a_ P w K mg base 4 "_law_twin" ["_law_pen","_law_told"] (Oc K):=by
 have gX:a_ P w K mg base 3 "_law_twin_head" ["_law_pen","_law_here"] (JB K):=kK T
 have eJ:a_ P w K mg base 3 "_law_turned" ["_law_pen","_law_some"] (I_ K):=iY T
 refine T.uS.fk fP (fun vs H Q E h=>?_) (fun f bc A outer s H vs Q E hr h=>?_)
 ·refine hdn fun G9 hG=>?_;obtain ⟨H0,p,a,t,xs,rows,ns,rfl,_⟩:=h;refine hG ?_
  rfl
 ·refine hdn fun G9 hG=>?_;obtain ⟨H0,p,a,t,xs,rows,ns,rfl,hn,ht,rt,h8,h5,k⟩:=h;refine hG ?_
  have hu:=aU hr
  have bz:=Qx (aU hr)
  have hsz:sizeLine=16777216:=QL
  have Ag:=rt.rl
  have ph:=rt.rv.len
  have YI:∀ z∈dbl ns,isName z=true/\Wd z:=fun z hz=>by
   obtain ⟨n,hn,h⟩:=dO.mp hz
   exact NZ z (dO.mpr ⟨n,h8 n hn,h⟩)
  refine ⟨_,(aC (aX (i:=2) fP.nd rfl (Or.inl rfl) (cP ae))
   (aC (fU PassesOwn.never rfl (lJ K (zv 1)) (bO K (n:=2) rfl (aI (aJ (i:=3) fP.nd rfl (Or.inl rfl)) (aI (aJ (i:=4) fP.nd rfl (Or.inl rfl)) bE))) (aC (dR (lW K QH QJ QK bZ (zv 2) (bD (aT (eZ (bX bW (zv 3) aS) (aP (bA gX (hr.mono (by decide)) (aB (zv 0) (aB (zv 4) ae))) ae))) ae)))
   (aE (dR (lW K QH QJ QK bZ (zv 2) (bD (aT (eZ (bX bW (zv 3) aS) (aP (bA gX (hr.mono (by decide)) (aB (zv 0) (aB (zv 4) ae))) ae))) ae))))))
   (aE (aQ (bM (cV K) (by rfl) T.dP QG (aP (bA eJ (hr.mono (by decide)) (aB (zv 0) (aB (zv 2) ae))) ae)))))),?_⟩
  refine aO ⟨(show 0<=sizeLine by decide),fun R hR=>?_⟩
  have oj:R≠p:=hn.ne hR
  have fR:=hn.free hR
  refine bC (fun σ' H'=>∃ (v3 v4:Option V) (us:List V) (rs:List (Str×V)),σ'=[some (.ref p),some (.ref a),some (.ref R),v3,v4]/\H' R=some (.lst us)/\iw H' us (bj rs)/\rs.map (·.1)=dbl (rows.map (·.1))/\j_ H' (dbl ns) WW rs/\b_ K H0 H' p (t+300)/\Sm p p H H') ?_ ?_
  ·intro nx dc
   refine .inr ⟨⟨xs,af.of (aa.upd hR _ _ _ rt.at_)⟩,?_⟩
   refine cZ (cM xs) (fun i σ' H'=>∃ (v3 v4:Option V) (us:List V) (rs:List (Str×V)),σ'=[some (.ref p),some (.ref a),some (.ref R),v3,v4]/\H' R=some (.lst us)/\iw H' us (bj rs)/\rs.map (·.1)=dbl ((rows.map (·.1)).take i)/\j_ H' (dbl ns) WW rs/\b_ K H0 H' p (t+40*i)/\Sm p p H H')
    ⟨none,none,[],[],rfl,aA,iQ,rfl,⟨(fun _ h=>nomatch h),(fun _ h=>nomatch h)⟩,hn.same (aa.upd hR _),(aa.upd hR _).sm⟩ (by rintro i σ' H' _ ⟨_,_,_,_,_,_,_,_,_,_,s⟩;exact af.of (hn.ts s _ _ rt.at_)) ?_ ?_
   ·rintro i σ' H1 hi z0;refine hdn fun G9 hG=>?_;obtain ⟨v3,v4,us,rs,rfl,q1,q2,q3,q4,q5,q6⟩:=z0;refine hG ?_
    have gy:i < rows.length:=by omega
    obtain ⟨rb,hv,r1,r2,r3⟩:=rt.rv.at_ i hi gy
    have eg:xs.getD i .ai=.ref rb:=by rw [Qb,Qa hi,r1];rfl
    rw [eg]
    have ir:rows[i]∈rows:=Qj gy
    have Dd:rows[i].1∈ns:=rt.nm.mem_iff.mp (List.mem_map.mpr ⟨_,ir,rfl⟩)
    have hok:=(rt.ok _ ir).2
    have A_:=rt.ww _ ir
    have EZ:=rt.ah _ ir
    have Ci:(rows.map (·.1)).take (i+1)=(rows.map (·.1)).take i++[rows[i].1]:=by
     rw [Qs,Qq,Qa gy];rfl
    have JF:rs.length=2*i:=by
     have h1:=congrArg List.length q3
     rw [pQ,Ql,List.length_take,Ql] at h1
     omega
    generalize rows[i]=row at r2 r3 Dd hok A_ EZ Ci
    obtain ⟨nm,hd⟩:=row
    have nl:nm.length<=8:=fE (nZ _ (h8 _ Dd)).1
    have GJ:=hn.ts q6
    refine cC (GJ _ _ r2) ?_
    have De:us.length=rs.length:=by have:=q2.1;simpa using this
    /- RA holds of a new head -/
    have YJ:∀ (c:Str) (h':Hd),(c="q"\/c="r")->(∀ y',h'.nx=some y'->∃ y,hd.nx=some y/\(y'=y++"q"\/y'=y++"r"))->Af (dbl ns) (nm++c) h'.nx:=fun c h' hc dc y' e'=>by
     obtain ⟨y,e1,e2⟩:=dc y' e'
     obtain ⟨i1,j1,rn,g1,g2⟩:=EZ y e1
     have E1:i1 < ns.length:=(List.getElem?_eq_some_iff.mp g1).1
     have F0:j1 < ns.length:=(List.getElem?_eq_some_iff.mp g2).1
     have ei:ns[i1]=y:=(List.getElem?_eq_some_iff.mp g1).2
     have ej:ns[j1]=nm:=(List.getElem?_eq_some_iff.mp g2).2
     obtain ⟨a1,a2⟩:=N4 ns i1 E1
     obtain ⟨b1,b2⟩:=N4 ns j1 F0
     rw [ei] at a1 a2
     rw [ej] at b1 b2
     rcases e2 with rfl | rfl<;>rcases hc with rfl | rfl
     ·exact ⟨2*i1,2*j1,by omega,a1,b1⟩
     ·exact ⟨2*i1,2*j1+1,by omega,a1,b2⟩
     ·exact ⟨2*i1+1,2*j1,by omega,a2,b1⟩
     ·exact ⟨2*i1+1,2*j1+1,by omega,a2,b2⟩
    have step:∀ (c:Str) (hc:c="q"\/c="r") (D:Ends) (H2:Hp) (us:List V) (rs:List (Str×V)) (tt:Nat),H2 R=some (.lst us)->iw H2 us (bj rs)->j_ H2 (dbl ns) WW rs->b_ K H0 H2 p tt->Sm p p H H2->us.length<=30->tt+20 < 900000->
      (∀ (qb:List V) (v':V) (H3:Hp),H3 R=some (.lst qb)->iw H3 qb (bj (rs++[(nm++c,v')]))->j_ H3 (dbl ns) WW (rs++[(nm++c,v')])->qb.length=us.length+1->b_ K H0 H3 p (tt+20)->Sm p p H H3->D.nx [some (.ref p),some (.ref a),some (.ref R),some (.str nm),some hv] H3)->
      Hf (FD K "list" Lg (tV 2) (g_ (Cw (g_ (ky HD (tV 3) (tC (V.str c))) (g_ (DJ (JB K) [] E0 (g_ (tV 0) (g_ (tV 4) uc))) uc))) uc)) D [some (.ref p),some (.ref a),some (.ref R),some (.str nm),some hv] H2:=by
     intro c hc D H2 us rs tt z1 z2 z3 z4 z5 z6 z7 kk
     have nq:c.length=1:=by rcases hc with rfl | rfl<;>rfl
     refine ⟨.inl ⟨rfl,_,aj.of z1⟩,⟨by omega,?_⟩⟩
     refine ⟨H0,p,hv,hd,tt,ns,rfl,z4,z7,r3.tk (hn.ts z5),hok,h8,A_,fun v' h' H3 DH Ig B8 YK fq fb=>⟨(show 2<=sizeLine by decide),fun cc t_=>?_⟩⟩
     have g3:=fb _ _ z1 oj oj
     have s4:=aa.upd t_ (.tup [.str (nm++c),v'])
     have f4:upd H3 cc (.tup [.str (nm++c),v']) cc=some (.tup [.str (nm++c),v']):=aA
     have g4:=s4 _ _ g3
     have gp:=fq.same s4
     have ic:=(z5.trans fb).trans s4.sm (p:=p) (w:=p)
     have vy:Tk H2 (upd H3 cc (.tup [.str (nm++c),v'])):=(z4.ts fb).trans s4.ts
     have Od:=DH.tk s4.ts
     dsimp only
     generalize upd H3 cc (.tup [.str (nm++c),v'])=H4 at s4 f4 g4 gp ic vy Od ⊢
     have jn:Tk H4 (upd H4 R (.lst (us++[.ref cc]))):=Tk.refl.set g4 (fun _ z=>nomatch z)
     refine ⟨R,us,.ref cc,rfl,rfl,g4,by omega,kk (us++[.ref cc]) v' _ aA (gC (z2.ts (vy.trans jn)) (jn _ _ f4)) (mX (z3.tk (vy.trans jn)) (dO.mpr ⟨nm,Dd,by rcases hc with rfl | rfl<;>simp⟩) ⟨h',Od.tk jn,Ig,YJ c h' hc B8,YK⟩) (by simp) (gp.put oj fR) (ic.upd hR)⟩
    refine step "q" (.inl rfl) _ H1 us rs _ q1 q2 q4 q5 q6 (by omega) (by omega) (fun nu v1 H2 a1 a2 a3 a4 a5 a6=>?_)
    refine step "r" (.inr rfl) _ H2 nu _ _ a1 a2 a3 a5 a6 (by omega) (by omega) (fun fz v2 H3 b1 b2 b3 b4 b5 b6=>?_)
    refine ⟨_,_,fz,rs++[(nm++"q",v1)]++[(nm++"r",v2)],rfl,b1,b2,?_,b3,b5.mono (by omega),b6⟩
    rw [Ci,YH,Qm,Qm,q3]
    simp
   ·rintro σ' H1 z0;refine hdn fun G9 hG=>?_;obtain ⟨v3,v4,us,rs,rfl,q1,q2,q3,q4,q5,q6⟩:=z0;refine hG ?_
    have e:(rows.map (·.1)).take xs.length=rows.map (·.1):=by rw [ph,<- Ql (f:=fun r:aq=>r.1),Qo]
    rw [e] at q3
    exact dc _ _ ⟨v3,v4,us,rs,rfl,q1,q2,q3,q4,q5.mono (by omega),q6⟩
  ·rintro σ' H1 z0;refine hdn fun G9 hG=>?_;obtain ⟨v3,v4,us,rs,rfl,q1,q2,q3,q4,q5,q6⟩:=z0;refine hG ?_
   have Ed:=pQ ns
   have JF:rs.length=2*ns.length:=by
    have h1:=congrArg List.length q3
    rw [pQ,Ql,Ql] at h1
    omega
   have De:us.length=rs.length:=by have:=q2.1;simpa using this
   have pos:=rt.pos
   refine ⟨H0,p,R,us,_,rfl,q5,by omega,.inl (aj.of q1),by omega,fun L2 ys H5 NB Jk Jl jx gj=>⟨L2,ys,rfl,.inl ⟨aj.of Jk,fun b hb=>?_⟩⟩⟩
   have s6:=aa.upd hb (.tup ys)
   have jn:=(q5.ts gj).trans s6.ts
   obtain ⟨rs',pr,pa⟩:=mV (q2.ts jn) Jl
   obtain ⟨d_,dh⟩:=RT.of aA pa ((pr.map _).trans (by rw [q3];exact zS rt.nm)) (YD rt.nd h8) YI (by omega) (by omega) ((q4.tk jn).perm fun r hr=>pr.mem_iff.mp hr)
   exact k b _ d_ _ dh ((jx.same s6).mono (by omega)) ((q6.trans gj).trans s6.sm)
theorem YL {rb:Addr} {xs:List V} {rows:List aq} {v:V} {h':Hd} (rt:RT H a xs rows ns ws) (hi:i < rows.length) (tk:Tk H H') (e:H' b=some (.tup (xs.set i (.ref rb)))) (er:H' rb=some (.tup [.str rows[i].1,v])) (hv:HV H' v h') (ok:h'.ok ns) (ah:Af ns rows[i].1 h'.nx) (ww:∀ z∈h'.AW,z∈ws):
  RT H' b (xs.set i (.ref rb)) (rows.set i (rows[i].1,h')) ns ws:=by
 have hl:=rt.rv.len
 have nm:(rows.set i (rows[i].1,h')).map (·.1)=rows.map (·.1):=by
  rw [List.map_set]
  refine List.ext_getElem (by simp) fun j h1 h2=>?_
  rw [List.getElem_set]
  split
  ·next e=>subst e;simp
  ·rfl
 have mem:∀ r∈rows.set i (rows[i].1,h'),r∈rows\/r=(rows[i].1,h'):=fun r hr=>List.mem_or_eq_of_mem_set hr
 refine ⟨e,⟨by simp [hl],fun j h1 h2=>?_⟩,by rw [nm];exact rt.nm,rt.nd,fun r hr=>?_,rt.wd,fun r hr=>?_,fun r hr=>?_,rt.pos,rt.few⟩
 ·rw [List.length_set] at h1 h2
  rw [List.getElem_set,List.getElem_set]
  by_cases rn:i=j
  ·subst rn
   rw [if_pos rfl,if_pos rfl]
   exact ⟨rb,v,rfl,er,hv⟩
  ·rw [if_neg rn,if_neg rn]
   obtain ⟨b',v',q1,q2,q3⟩:=rt.rv.at_ j h1 h2
   exact ⟨b',v',q1,tk _ _ q2,q3.tk tk⟩
 ·rcases mem r hr with h | rfl
  ·exact rt.ok r h
  ·exact ⟨(rt.ok _ (Qj hi)).1,ok⟩
 ·rcases mem r hr with h | rfl
  ·exact rt.ah r h
  ·exact ah
 ·rcases mem r hr with h | rfl
  ·exact rt.ww r h
  ·exact ww
theorem YM {xs:List V} (h:i < xs.length) (v:V):(xs.take i++[v])++xs.drop (i+1)=xs.set i v:=by
 rw [QQ,List.set_eq_take_append_cons_drop,if_pos h];rfl
def Oe (K:Q0):Sp:=fun vs H Q _=>∃ (H0:Hp) (p a:Addr) (t:Nat) (xs:List V) (rows:List aq) (ns:List Str),vs=[.ref p,.ref a]/\b_ K H0 H p t/\t+30 < 900000/\RT H a xs rows ns WW/\
 ∀ (b:Addr) (ys:List V) (d_:List aq) (H':Hp),RT H' b ys d_ ns WW->b_ K H0 H' p (t+30)->Sm p p H H'->Q (.ref b) H'
set_option maxHeartbeats 2000000 in
theorem rN (T:Txt K mg w):a_ P w K mg base 5 "_law_bent" ["_law_pen","_law_told"] (Oe K):=by
 have aN:a_ P w K mg base 2 "_law_next" ["_law_pen","_law_many"] (vq K):=bL T
 have j7:a_ P w K mg base 4 "_law_head" ["_law_pen","_law_names","_law_ahead"] (Jb K):=kY T
 refine T.uD.fk fK (fun vs H Q E h=>?_) (fun f bc A outer s H vs Q E hr h=>?_)
 ·refine hdn fun G9 hG=>?_;obtain ⟨H0,p,a,t,xs,rows,ns,rfl,_⟩:=h;refine hG ?_
  rfl
 ·refine hdn fun G9 hG=>?_;obtain ⟨H0,p,a,t,xs,rows,ns,rfl,hn,ht,rt,k⟩:=h;refine hG ?_
  have hu:=aU hr
  have bz:=Qx (aU hr)
  have hsz:sizeLine=16777216:=QL
  have Ag:=rt.rl
  have ph:=rt.rv.len
  have pos:=rt.pos
  have few:=rt.few
  refine ⟨_,(aC (aX (i:=2) fK.nd rfl (Or.inl rfl) (bA aN (hr.mono (by decide)) (aB (zv 0) (aP (bK (bT K) (by rfl) T.uw PySem.boot_len (aB (zv 1) ae)) ae))))
   (aC (HN (i:=3) (own:=["_law_name","_law_here"]) (idx:=[]) (N':=["_law_name","_law_here"]) (dH (bh gE) (["_law_pen","_law_told","_law_at","_law_names","_law_row"]:List Str) (by decide+kernel)) rfl (lJ K (zv 1)) (fun _ _ _ _ _ _=>(bO K (n:=2) rfl (aI (aJ (i:=0) (show List.Nodup (["_law_name","_law_here"]:List Str) by decide+kernel) rfl (Or.inl rfl)) (aI (aJ (i:=1) (show List.Nodup (["_law_name","_law_here"]:List Str) by decide+kernel) rfl (Or.inl rfl)) bE)))) (fun _ _ _ _ _ _=>eA) (fun _ _ _ _ _ _=>(zv 0)) fK.nd rfl rfl)
   (aC (aX (i:=4) fK.nd rfl (Or.inl rfl) (aT (aH (aY (aZ K) (zv 3) (zv 2) (fun _ _=>rfl)) (aP (bA j7 (hr.mono (by decide)) (aB (zv 0) (aB (zv 3) (aD aG ae)))) ae))))
   (aE (aQ (bX (jL K) (bX (jL K) (fM (rF K) (zv 1) fS (fT (zv 2))) (aT (aB (zv 4) ae))) (fM (rF K) (zv 1) (fT (bX bW (zv 2) aG)) fS))))))),?_⟩
  refine aO (.inl ⟨_,.inr (af.of rt.at_),H0,p,_,t,rfl,hn,⟨by omega,by omega⟩,by omega,fun r H1 r0 r1 hn1 kq=>?_⟩)
  obtain ⟨i,rfl⟩:∃ i:Nat,r=(i:Int):=⟨r.toNat,by omega⟩
  have gy:i < rows.length:=by omega
  have A7:=rt.tk (hn.ts kq)
  refine .inr ⟨⟨xs,af.of A7.at_⟩,fun N hN=>?_⟩
  have nNp:N≠p:=hn1.ne hN
  have fN:=hn1.free hN
  refine hV (cM xs) (fun j τ H'=>∃ (v0 v1:Option V),τ=[v0,v1]/\H' N=some (.lst (((rows.map (·.1)).take j).map V.str))/\aa H1 H')
   ⟨none,none,rfl,aA,aa.upd hN _⟩ (by rintro j τ H' _ ⟨_,_,_,_,s⟩;exact af.of (s _ _ A7.at_)) ?_ ?_
  ·rintro j τ H2 hj ⟨v0,v1,rfl,q1,q2⟩
   have Of:j < rows.length:=by omega
   obtain ⟨rb,hv,FT,r2,r3⟩:=A7.rv.at_ j hj Of
   have eg:xs.getD j .ai=.ref rb:=by rw [Qb,Qa hj,FT];rfl
   rw [eg]
   have Ci:(rows.map (·.1)).take (j+1)=(rows.map (·.1)).take j++[rows[j].1]:=by
    rw [Qs,Qq,Qa Of];rfl
   refine cC (q2 _ _ r2) ⟨_,q1,by simp;omega,_,_,rfl,by rw [aA,Ci,Qm];rfl,q2.put hN⟩
  ·rintro τ H2 ⟨v0,v1,rfl,q1,q2⟩
   have e:(rows.map (·.1)).take xs.length=rows.map (·.1):=by rw [ph,<- Ql (f:=fun r:aq=>r.1),Qo]
   rw [e] at q1
   have hn2:=hn1.same q2
   have yc:∀ n∈rows.map (·.1),n∈ns:=fun n hn=>rt.nm.mem_iff.mp hn
   have tn:oi H2 N (rows.map (·.1)):=⟨q1,by intro z;rw [List.map_eq_nil_iff] at z;rw [z] at gy;simp at gy,by simp;omega,fun z hz=>rt.wd z (yc z hz)⟩
   have GA:(rows.map (·.1))[i]? =some rows[i].1:=by rw [Qq,Qa gy];rfl
   refine ⟨_,.str rows[i].1,.inl (aj.of q1),fO (by rw [Qq,GA];rfl),H0,p,N,0,_,_,rfl,hn2,by omega,tn,fun z hz=>?_,by omega,fun v H3 hg fq fb=>⟨(show 2<=sizeLine by decide),fun rb YN=>?_⟩⟩
   ·obtain ⟨r,hr,rfl⟩:=List.mem_map.mp hz
    exact (rt.ok r hr).1
   have s4:=aa.upd YN (.tup [.str rows[i].1,v])
   have f4:upd H3 rb (.tup [.str rows[i].1,v]) rb=some (.tup [.str rows[i].1,v]):=aA
   have gp:=fq.same s4
   have vy:Tk H1 (upd H3 rb (.tup [.str rows[i].1,v])):=(q2.ts.trans (hn2.ts fb)).trans s4.ts
   have ic:Sm p p H (upd H3 rb (.tup [.str rows[i].1,v])):=((kq.trans q2.sm).trans fb).trans s4.sm
   have E2:=hg.tk s4.ts
   dsimp only
   generalize upd H3 rb (.tup [.str rows[i].1,v])=H4 at s4 f4 gp vy ic E2 ⊢
   have yw:=A7.tk vy
   have YO:i < xs.length:=by omega
   refine ⟨(i:Int),rfl,Or.inr (Or.inr ⟨a,xs,rfl,af.of yw.at_,?_,fun N1 JG=>?_⟩)⟩
   ·rw [HT.gG];rintro ⟨_,z⟩;omega
   rw [pD]
   have s5:=aa.upd JG (.tup (xs.take i))
   have f5:upd H4 N1 (.tup (xs.take i)) N1=some (.tup (xs.take i)):=aA
   generalize upd H4 N1 (.tup (xs.take i))=H5 at s5 f5 ⊢
   refine ⟨(show 1<=sizeLine by decide),fun N2 Cg=>?_⟩
   have s6:=aa.upd Cg (.tup [.ref rb])
   have f6:upd H5 N2 (.tup [.ref rb]) N2=some (.tup [.ref rb]):=aA
   dsimp only
   generalize upd H5 N2 (.tup [.ref rb])=H6 at s6 f6 ⊢
   refine ED (s6 _ _ f5) f6 (by simp;omega) fun P1 H7 s7 e7=>?_
   have qd:=(s5.trans s6).trans s7
   refine ⟨(i:Int)+1,rfl,Or.inr (Or.inr ⟨a,xs,rfl,af.of (qd _ _ yw.at_),?_,fun N3 EY=>?_⟩)⟩
   ·rw [show ((i:Int)+1)=((i+1:Nat):Int) by omega,HT.gG];rintro ⟨z,_⟩;omega
   rw [show ((i:Int)+1)=((i+1:Nat):Int) by omega,jO]
   have s8:=aa.upd EY (.tup (xs.drop (i+1)))
   have f8:upd H7 N3 (.tup (xs.drop (i+1))) N3=some (.tup (xs.drop (i+1))):=aA
   generalize upd H7 N3 (.tup (xs.drop (i+1)))=H8 at s8 f8 ⊢
   refine ED (s8 _ _ e7) f8 (by simp;omega) fun P2 H9 s9 e9=>?_
   rw [YM YO] at e9
   have E3:=(qd.trans s8).trans s9
   obtain ⟨h',g1,g2,g3,g4⟩:=(E2.tk E3.ts).ex
   have dc:h'.nx=none:=by
    cases ez:h'.nx with
    | none=>rfl
    | some y=>obtain ⟨j,hj,_⟩:=g3 y ez;omega
   have YQ:h'.ok ns:=by
    cases h' with
    | one s=>exact g2
    | as y=>cases dc
    | way x y=>exact ⟨g2.1,g2.2.1,yc _ g2.2.2.1,yc _ g2.2.2.2⟩
    | prs s ps=>exact ⟨g2.1,fun q hq=>⟨(g2.2.1 q hq).1,(g2.2.1 q hq).2.1,yc _ (g2.2.1 q hq).2.2⟩,g2.2.2.1,g2.2.2.2⟩
   exact k P2 _ _ H9 (YL yw gy E3.ts e9 (E3 _ _ f4) g1 YQ (by rw [dc];intro y z;cases z) g4) ((gp.same E3).mono (by omega)) (ic.trans E3.sm)
def Og (K:Q0):Sp:=fun vs H Q _=>∃ (H0:Hp) (p a:Addr) (t:Nat) (xs:List V) (rows:List aq) (ns:List Str),vs=[.ref p,.ref a]/\b_ K H0 H p t/\t+60 < 900000/\RT H a xs rows ns WW/\
 ∀ (b:Addr) (ys:List V) (d_:List aq) (H':Hp),RT H' b ys d_ ns WW->b_ K H0 H' p (t+60)->Sm p p H H'->Q (.ref b) H'
theorem YR (l:List α) (i:Nat):(l.take i++l.drop (i+1)).Sublist l:=by
 rw [<- List.eraseIdx_eq_take_drop_succ];exact List.eraseIdx_sublist _ _
theorem YS {xs:List V} {ps:List (Str×Str)} (h:BV H xs ps) (i:Nat):BV H (xs.take i++xs.drop (i+1)) (ps.take i++ps.drop (i+1)):=by
 have hl:=h.len
 rw [<- List.eraseIdx_eq_take_drop_succ,<- List.eraseIdx_eq_take_drop_succ]
 refine ⟨by rw [List.length_eraseIdx,List.length_eraseIdx,hl],fun j h1 h2=>?_⟩
 rw [List.getElem_eraseIdx,List.getElem_eraseIdx]
 split
 ·next hj=>exact h.at_ j (by rw [List.length_eraseIdx] at h1;split at h1<;>omega) (by rw [List.length_eraseIdx] at h2;split at h2<;>omega)
 ·next hj=>exact h.at_ (j+1) (by rw [List.length_eraseIdx] at h1;split at h1<;>omega) (by rw [List.length_eraseIdx] at h2;split at h2<;>omega)
set_option maxHeartbeats 2000000 in
theorem nL (T:Txt K mg w):a_ P w K mg base 3 "_law_nearer" ["_law_pen","_law_told"] (Og K):=by
 have aN:a_ P w K mg base 2 "_law_next" ["_law_pen","_law_many"] (vq K):=bL T
 refine T.pB.fk bR (fun vs H Q E h=>?_) (fun f bc A outer s H vs Q E hr h=>?_)
 ·refine hdn fun G9 hG=>?_;obtain ⟨H0,p,a,t,xs,rows,ns,rfl,_⟩:=h;refine hG ?_
  rfl
 ·refine hdn fun G9 hG=>?_;obtain ⟨H0,p,a,t,xs,rows,ns,rfl,hn,ht,rt,k⟩:=h;refine hG ?_
  have hu:=aU hr
  have bz:=Qx (aU hr)
  have Bb:=lO hr
  have hsz:sizeLine=16777216:=QL
  have Ag:=rt.rl
  have ph:=rt.rv.len
  have few:=rt.few
  refine ⟨_,(aC (aX (i:=2) bR.nd rfl (Or.inl rfl) (cP ae))
   (aC (fU PassesOwn.never rfl (lJ K (zv 1)) (bO K (n:=2) rfl (aI (aJ (i:=3) bR.nd rfl (Or.inl rfl)) (aI (aJ (i:=4) bR.nd rfl (Or.inl rfl)) bE))) (aC (aX (i:=5) bR.nd rfl (Or.inl rfl) (bA aN (hr.mono (by decide)) (aB (zv 0) (aD aG ae))))
   (aC (bN (aL (bP bz) (zv 5) aG (cy _)) (aE (aX (i:=4) bR.nd rfl (Or.inl rfl) (aY (aZ K) (cP (bD (aT (aD aS ae)) (bD (aT (aD aS ae)) ae))) (bA aN (hr.mono (by decide)) (aB (zv 0) (aD aG ae))) (fun _ _=>rfl)))) (aE (bN (vT (aL j8 (zv 5) aG (cy _)) (vT (aL (kF K) (aY (aZ K) (zv 4) aG (fun _ _=>rfl)) (aT (aD aS (aD aS ae))) rfl) (uA (aL (XD Bb) (aY (aZ K) (zv 4) aG (fun _ _=>rfl)) (aT ae) (cy _))))).pt (aC (aX (i:=6) bR.nd rfl (Or.inl rfl) (bA aN (hr.mono (by decide)) (aB (zv 0) (aP (bK (bT K) (by rfl) T.uw PySem.boot_len (aH (aY (aZ K) (zv 4) aG (fun _ _=>rfl)) ae)) ae))))
   (aE (aX (i:=4) bR.nd rfl (Or.inl rfl) (aT (aH (aY (aZ K) (zv 4) aG (fun _ _=>rfl)) (eZ (bX (jL K) (fM (rF K) (aY (aZ K) (zv 4) aG (fun _ _=>rfl)) fS (fT (zv 6))) (fM (rF K) (aY (aZ K) (zv 4) aG (fun _ _=>rfl)) (fT (bX bW (zv 6) aG)) fS)) ae)))))) aV)))
   (aE (dR (lW K QH QJ QK bZ (zv 2) (bD (aT (aB (zv 3) (aB (zv 4) ae))) ae)))))))
   (aE (aQ (bM (cV K) (by rfl) T.dP QG (aB (zv 2) ae)))))),?_⟩
  refine aO ⟨(show 0<=sizeLine by decide),fun R hR=>?_⟩
  have oj:R≠p:=hn.ne hR
  have fR:=hn.free hR
  refine bC (fun σ' H'=>∃ (v3 v4 v5 v6:Option V) (us:List V) (rs:List (Str×V)),σ'=[some (.ref p),some (.ref a),some (.ref R),v3,v4,v5,v6]/\H' R=some (.lst us)/\iw H' us (bj rs)/\rs.map (·.1)=rows.map (·.1)/\j_ H' ns WW rs/\b_ K H0 H' p (t+60)/\Sm p p H H') ?_ ?_
  ·intro nx dc
   refine .inr ⟨⟨xs,af.of (aa.upd hR _ _ _ rt.at_)⟩,?_⟩
   refine cZ (cM xs) (fun i σ' H'=>∃ (v3 v4 v5 v6:Option V) (us:List V) (rs:List (Str×V)),σ'=[some (.ref p),some (.ref a),some (.ref R),v3,v4,v5,v6]/\H' R=some (.lst us)/\iw H' us (bj rs)/\rs.map (·.1)=(rows.map (·.1)).take i/\j_ H' ns WW rs/\b_ K H0 H' p (t+3*i)/\Sm p p H H')
    ⟨none,none,none,none,[],[],rfl,aA,iQ,rfl,⟨(fun _ h=>nomatch h),(fun _ h=>nomatch h)⟩,hn.same (aa.upd hR _),(aa.upd hR _).sm⟩ (by rintro i σ' H' _ ⟨_,_,_,_,_,_,_,_,_,_,_,_,s⟩;exact af.of (hn.ts s _ _ rt.at_)) ?_ ?_
   ·rintro i σ' H1 hi z0;refine hdn fun G9 hG=>?_;obtain ⟨v3,v4,v5,v6,us,rs,rfl,q1,q2,q3,q4,q5,q6⟩:=z0;refine hG ?_
    have gy:i < rows.length:=by omega
    obtain ⟨rb,hv,r1,r2,r3⟩:=rt.rv.at_ i hi gy
    have eg:xs.getD i .ai=.ref rb:=by rw [Qb,Qa hi,r1];rfl
    rw [eg]
    have ir:rows[i]∈rows:=Qj gy
    have Dd:rows[i].1∈ns:=rt.nm.mem_iff.mp (List.mem_map.mpr ⟨_,ir,rfl⟩)
    have hok:=(rt.ok _ ir).2
    have A_:=rt.ww _ ir
    have EZ:=rt.ah _ ir
    have Ci:(rows.map (·.1)).take (i+1)=(rows.map (·.1)).take i++[rows[i].1]:=by
     rw [Qs,Qq,Qa gy];rfl
    have JF:rs.length=i:=by
     have h1:=congrArg List.length q3
     simp at h1
     omega
    generalize rows[i]=row at r2 r3 Dd hok A_ EZ Ci
    obtain ⟨nm,hd⟩:=row
    have GJ:=hn.ts q6
    have r3:=r3.tk GJ
    refine cC (GJ _ _ r2) ?_
    have De:us.length=rs.length:=by have:=q2.1;simpa using this
    refine ⟨H0,p,6,_,rfl,q5,⟨by decide,by decide⟩,by omega,fun wy H2 YT YU hn2 iq=>?_⟩
    have JH:=q6.trans iq
    have r3:=r3.tk (q5.ts iq)
    have JI:=iq _ _ q1 oj oj
    dsimp only
    refine bC (fun σ' H'=>∃ (v':V) (v6:Option V),σ'=[some (.ref p),some (.ref a),some (.ref R),some (.str nm),some v',some (.int wy),v6]/\pe H' ns WW v' (Af ns nm)/\H' R=some (.lst us)/\b_ K H0 H' p (t+3*i+2)/\Sm p p H H'/\Tk H2 H') ?_ ?_
    ·intro ku v_
     have stay:∀ (H3:Hp) (v6:Option V),aa H2 H3->ku [some (.ref p),some (.ref a),some (.ref R),some (.str nm),some hv,some (.int wy),v6] H3:=fun H3 v6 s3=>v_ _ _ ⟨hv,v6,rfl,⟨hd,r3.tk s3.ts,hok,EZ,A_⟩,s3 _ _ JI,(hn2.same s3).mono (by omega),JH.trans s3.sm,s3.ts⟩
     refine ⟨rfl,_,rfl,dz (fun cc=>?_) (fun cc=>?_)⟩
     ·refine ⟨(show 1<=sizeLine by decide),fun c1 ki=>⟨(show 1<=sizeLine by decide),fun c2 jq=>⟨(show 2<=sizeLine by decide),fun ll JJ=>?_⟩⟩⟩
      have s1:=aa.upd ki (.tup [.str "all"])
      have f1:upd H2 c1 (.tup [.str "all"]) c1=some (.tup [.str "all"]):=aA
      generalize upd H2 c1 (.tup [.str "all"])=H3 at s1 f1 jq JJ ⊢
      have s2:=aa.upd jq (.tup [.str "none"])
      have f2:upd H3 c2 (.tup [.str "none"]) c2=some (.tup [.str "none"]):=aA
      generalize upd H3 c2 (.tup [.str "none"])=H4 at s2 f2 JJ ⊢
      have s3:=aa.upd JJ (.lst [.ref c1,.ref c2])
      have f3:upd H4 ll (.lst [.ref c1,.ref c2]) ll=some (.lst [.ref c1,.ref c2]):=aA
      generalize upd H4 ll (.lst [.ref c1,.ref c2])=H5 at s3 f3 ⊢
      have sA:=(s1.trans s2).trans s3
      have jx:=hn2.same sA
      have Oh:ll≠p:=fun z=>by
       obtain ⟨_,_,_,_,zz,_⟩:=jx.ex
       rw [z,zz] at f3;cases f3
      refine ⟨H0,p,2,_,rfl,jx,⟨by decide,by decide⟩,by omega,fun r H6 r0 r1 YV GK=>?_⟩
      have EX:=jx.ts GK
      have g6:=GK _ _ f3 Oh Oh
      obtain ⟨j,rfl⟩:∃ j:Nat,r=(j:Int):=⟨r.toNat,by omega⟩
      have fin:∀ (c:Addr) (z:Str),(z="all"\/z="none")->H6 c=some (.tup [.str z])->ku [some (.ref p),some (.ref a),some (.ref R),some (.str nm),some (.ref c),some (.int wy),v6] H6:=fun c z hz ec=>v_ _ _ ⟨.ref c,v6,rfl,⟨.one z,.one ec,hz,(fun y e=>nomatch e),(fun _ h=>nomatch h)⟩,GK _ _ (sA _ _ JI) oj oj,YV,(JH.trans sA.sm).trans GK,sA.ts.trans EX⟩
      have hj:j=0\/j=1:=by omega
      rcases hj with rfl | rfl
      ·exact ⟨_,_,.inl (aj.of g6),aK _ _,fin c1 "all" (.inl rfl) (EX _ _ (s3 _ _ (s2 _ _ f1)))⟩
      ·exact ⟨_,.ref c2,.inl (aj.of g6),rfl,fin c2 "none" (.inr rfl) (EX _ _ (s3 _ _ f2))⟩
     ·refine ⟨_,rfl,dz (fun c3=>?_) (fun c3=>stay H2 v6 (aa.refl _))⟩
      obtain ⟨hb,hzs,e0,YW⟩:=r3.be
      subst e0
      refine ⟨_,.str hd.be,.inr (af.of YW),aK _ _,(show 2<=sizeLine by decide),fun T1 Cf=>⟨[.str "box",.str "pick"],.inr (af.of aA),rfl,rfl,_,rfl,?_⟩⟩
      have sT:=aa.upd Cf (.tup [.str "box",.str "pick"])
      show if (false^^r_ (.str hd.be) ((["box","pick"]:List Str).map V.str))=true then _ else _
      rw [fI,QE]
      by_cases Oi:hd.be ∉ (["box","pick"]:List Str)
      ·rw [Qw Oi];exact stay _ v6 sT
      have hz:hd.be∈(["box","pick"]:List Str):=Decidable.not_not.mp Oi
      rw [Qv hz]
      refine w_ ?_
      generalize upd H2 T1 (.tup [.str "box",.str "pick"])=H3 at sT ⊢
      have YX:=r3.tk sT.ts
      cases YX with
      | one e=>exact absurd hz (by rcases hok with rfl | rfl<;>decide+kernel)
      | as e=>exact absurd hz (show ¬("as":Str)∈(["box","pick"]:List Str) by decide+kernel)
      | way e=>exact absurd hz (show ¬("way":Str)∈(["box","pick"]:List Str) by decide+kernel)
      | @prs b c s0 ys ps e ec hp=>
       obtain ⟨hs,GI,Ew,Ef⟩:=hok
       have h_:=hp.len
       refine ⟨_,.ref c,.inr (af.of e),rfl,(show 0<=sizeLine by decide),fun T2 YY=>?_⟩
       have yx:=aa.upd YY (.tup [])
       have Oj:upd H3 T2 (.tup []) T2=some (.tup []):=aA
       dsimp only
       generalize upd H3 T2 (.tup [])=H4 at yx Oj ⊢
       refine ⟨c,T2,ys,rfl,rfl,yx _ _ ec,Oj,_,rfl,UL (fun c5=>stay H4 v6 (sT.trans yx)) (fun c5=>?_)⟩
       have XR:0 < ys.length:=by
        cases ys with
        | nil=>simp at c5
        | cons y ys=>simp
       have e4:=yx _ _ e
       have Ol:=yx _ _ ec
       have Jd:=hp.tk yx.ts
       have gp:=(hn2.same sT).same yx
       have ic:=JH.trans (sT.trans yx).sm
       have YZ:=yx _ _ (sT _ _ JI)
       have Y0:=(sT.trans yx).ts
       refine ⟨_,.ref c,.inr (af.of e4),rfl,.inl ⟨_,.inr (af.of Ol),H0,p,_,_,rfl,gp,⟨by omega,by omega⟩,by omega,fun r H5 r0 r1 jx gj=>?_⟩⟩
       obtain ⟨j,rfl⟩:∃ j:Nat,r=(j:Int):=⟨r.toNat,by omega⟩
       have hj:j < ys.length:=by omega
       have jn:=gp.ts gj
       have e5:=jn _ _ e4
       have Om:=jn _ _ Ol
       refine ⟨_,.str s0,.inr (af.of e5),aK _ _,_,.ref c,.inr (af.of e5),rfl,(j:Int),rfl,Or.inr (Or.inr ⟨c,ys,rfl,af.of Om,?_,fun N1 JG=>?_⟩)⟩
       ·rw [HT.gG];rintro ⟨_,z⟩;omega
       rw [pD]
       have s6:=aa.upd JG (.tup (ys.take j))
       have f6:upd H5 N1 (.tup (ys.take j)) N1=some (.tup (ys.take j)):=aA
       generalize upd H5 N1 (.tup (ys.take j))=H6 at s6 f6 ⊢
       refine ⟨_,.ref c,.inr (af.of (s6 _ _ e5)),rfl,(j:Int)+1,rfl,Or.inr (Or.inr ⟨c,ys,rfl,af.of (s6 _ _ Om),?_,fun N2 Cg=>?_⟩)⟩
       ·rw [show ((j:Int)+1)=((j+1:Nat):Int) by omega,HT.gG];rintro ⟨z,_⟩;omega
       rw [show ((j:Int)+1)=((j+1:Nat):Int) by omega,jO]
       have s7:=aa.upd Cg (.tup (ys.drop (j+1)))
       have f7:upd H6 N2 (.tup (ys.drop (j+1))) N2=some (.tup (ys.drop (j+1))):=aA
       generalize upd H6 N2 (.tup (ys.drop (j+1)))=H7 at s7 f7 ⊢
       refine ED (s7 _ _ f6) f7 (by simp;omega) fun P1 H8 s8 e8=>⟨(show 2<=sizeLine by decide),fun N3 EY=>?_⟩
       have s9:=aa.upd EY (.tup [.str s0,.ref P1])
       have f9:upd H8 N3 (.tup [.str s0,.ref P1]) N3=some (.tup [.str s0,.ref P1]):=aA
       dsimp only
       generalize upd H8 N3 (.tup [.str s0,.ref P1])=H9 at s9 f9 ⊢
       have E4:=((s6.trans s7).trans s8).trans s9
       have Y3:=YS (Jd.tk (jn.trans E4.ts)) j
       have sub:=YR ps j
       refine v_ _ _ ⟨.ref N3,_,rfl,⟨.prs s0 (ps.take j++ps.drop (j+1)),.prs f9 (s9 _ _ e8) Y3,⟨hs,fun q hq=>GI q (sub.subset hq),eE ((eP Ew).sublist (sub.map _)),by have:=sub.length_le;omega⟩,(fun y e=>nomatch e),fun z hz=>A_ z ((sub.map _).subset hz)⟩,E4 _ _ (gj _ _ YZ oj oj),(jx.same E4).mono (by omega),(ic.trans gj).trans E4.sm,(Y0.trans jn).trans E4.ts⟩
    ·rintro σ' H3 z0;refine hdn fun G9 hG=>?_;obtain ⟨v',v6,rfl,hg,g3,fq,fb,Y4⟩:=z0;refine hG ?_
     refine ⟨.inl ⟨rfl,_,aj.of g3⟩,(show 2<=sizeLine by decide),fun cc t_=>?_⟩
     have s4:=aa.upd t_ (.tup [.str nm,v'])
     have f4:upd H3 cc (.tup [.str nm,v']) cc=some (.tup [.str nm,v']):=aA
     have g4:=s4 _ _ g3
     have gp:=fq.same s4
     have ic:=fb.trans s4.sm (p:=p) (w:=p)
     have vy:Tk H1 (upd H3 cc (.tup [.str nm,v'])):=((q5.ts iq).trans Y4).trans s4.ts
     have E2:=hg.tk s4.ts
     dsimp only
     generalize upd H3 cc (.tup [.str nm,v'])=H4 at s4 f4 g4 gp ic vy E2 ⊢
     have jn:Tk H4 (upd H4 R (.lst (us++[.ref cc]))):=Tk.refl.set g4 (fun _ z=>nomatch z)
     refine ⟨R,us,.ref cc,rfl,rfl,g4,by omega,_,_,_,_,us++[.ref cc],rs++[(nm,v')],rfl,aA,gC (q2.ts (vy.trans jn)) (jn _ _ f4),by rw [Qm,q3,Ci];rfl,mX (q4.tk (vy.trans jn)) Dd (E2.tk jn),(gp.put oj fR).mono (by omega),ic.upd hR⟩
   ·rintro σ' H1 z0;refine hdn fun G9 hG=>?_;obtain ⟨v3,v4,v5,v6,us,rs,rfl,q1,q2,q3,q4,q5,q6⟩:=z0;refine hG ?_
    have e:(rows.map (·.1)).take xs.length=rows.map (·.1):=by rw [ph,<- Ql (f:=fun r:aq=>r.1),Qo]
    rw [e] at q3
    exact dc _ _ ⟨v3,v4,v5,v6,us,rs,rfl,q1,q2,q3,q4,q5.mono (by omega),q6⟩
  ·rintro σ' H1 z0;refine hdn fun G9 hG=>?_;obtain ⟨v3,v4,v5,v6,us,rs,rfl,q1,q2,q3,q4,q5,q6⟩:=z0;refine hG ?_
   have JF:rs.length=rows.length:=by have h1:=congrArg List.length q3;simpa using h1
   refine ⟨R,us,rfl,.inl ⟨aj.of q1,fun b hb=>?_⟩⟩
   have s6:=aa.upd hb (.tup us)
   obtain ⟨d_,dh⟩:=RT.of aA (q2.ts s6.ts) (by rw [q3];exact rt.nm) rt.nd (fun n hn=>⟨by obtain ⟨r,hr,e⟩:=List.mem_map.mp (rt.nm.mem_iff.mpr hn);rw [<- e];exact (rt.ok r hr).1,rt.wd n hn⟩) rt.pos rt.few (q4.tk s6.ts)
   exact k b _ d_ _ dh (q5.same s6) (q6.trans s6.sm)
def Oo (K:Q0):Sp:=fun vs H Q _=>∃ (H0:Hp) (p:Addr) (most:Int) (t:Nat),vs=[.ref p,.int most]/\b_ K H0 H p t/\t+2000 < 900000/\(1<=most/\most<=7)/\
 ∀ (q a b:Addr) (xs ys:List V) (rows d_:List aq) (ns mw:List Str) (x y:Str) (H':Hp),H' q=some (.tup [.ref a,.str x,.ref b,.str y])->RT H' a xs rows ns WW->x∈ns->RT H' b ys d_ mw WW->y∈mw->b_ K H0 H' p (t+2000)->Sm p p H H'->Q (.ref q) H'
set_option maxHeartbeats 2000000 in
theorem uW (T:Txt K mg w):a_ P w K mg base 6 "_law_two" ["_law_pen","_law_most"] (Oo K):=by
 have aN:a_ P w K mg base 2 "_law_next" ["_law_pen","_law_many"] (vq K):=bL T
 have iX:a_ P w K mg base 5 "_law_telling" ["_law_pen","_law_most"] (Nx K):=lX T
 have kI:a_ P w K mg base 3 "_law_any" ["_law_pen","_law_told"] (NE K):=u7 T
 have mK:a_ P w K mg base 4 "_law_twin" ["_law_pen","_law_told"] (Oc K):=qX T
 have tZ:a_ P w K mg base 5 "_law_bent" ["_law_pen","_law_told"] (Oe K):=rN T
 refine T.yO.fk eW (fun vs H Q E h=>?_) (fun f bc A outer s H vs Q E hr h=>?_)
 ·obtain ⟨H0,p,most,t,rfl,_⟩:=h
  rfl
 ·refine hdn fun G9 hG=>?_;obtain ⟨H0,p,most,t,rfl,hn,ht,⟨yq,hm2⟩,k⟩:=h;refine hG ?_
  have hu:=aU hr
  have bz:=Qx (aU hr)
  have hsz:sizeLine=16777216:=QL
  refine ⟨_,(aC (aX (i:=2) eW.nd rfl (Or.inl rfl) (bA iX (hr.mono (by decide)) (aB (zv 0) (aB (zv 1) ae))))
   (aC (aX (i:=3) eW.nd rfl (Or.inl rfl) (bA kI (hr.mono (by decide)) (aB (zv 0) (aB (zv 2) ae))))
   (aC (aX (i:=4) eW.nd rfl (Or.inl rfl) (bA aN (hr.mono (by decide)) (aB (zv 0) (aD aG ae))))
   (aC (bN (aL (bP bz) (zv 4) aG (cy _)) (aE (aQ (aT (aB (zv 2) (aB (zv 3) (aB (zv 2) (aP (bA kI (hr.mono (by decide)) (aB (zv 0) (aB (zv 2) ae))) ae))))))) aV)
   (aC (bN (aL (bP bz) (zv 4) aG (cy _)) (aE (aQ (aT (aB (zv 2) (aB (zv 3) (aP (bA mK (hr.mono (by decide)) (aB (zv 0) (aB (zv 2) ae))) (eZ (bX bW (zv 3) aS) ae))))))) aV)
   (aC (bN (aL j8 (zv 4) aG (cy _)) (aE (aQ (aT (aB (zv 2) (aB (zv 3) (aP (bA tZ (hr.mono (by decide)) (aB (zv 0) (aP (bA mK (hr.mono (by decide)) (aB (zv 0) (aB (zv 2) ae))) ae))) (eZ (bX bW (zv 3) aS) ae))))))) aV)
   (aC (aX (i:=5) eW.nd rfl (Or.inl rfl) (bA iX (hr.mono (by decide)) (aB (zv 0) (aB (zv 1) ae))))
   (aE (aQ (aT (aB (zv 2) (aB (zv 3) (aB (zv 5) (aP (bA kI (hr.mono (by decide)) (aB (zv 0) (aB (zv 5) ae))) ae)))))))))))))),?_⟩
  refine aO ⟨H0,p,most,t,rfl,hn,by omega,⟨by omega,by omega⟩,fun a xs rows ns H1 rt hl h8 hn1 kq=>?_⟩
  refine aO ⟨H0,p,a,_,xs,rows,ns,WW,rfl,hn1,by omega,rt,fun x H2 hx hn2 iq=>?_⟩
  have dh:=rt.tk (hn1.ts iq)
  have xl:x.length<=8:=fE (nZ _ (h8 _ hx)).1
  refine aO ⟨H0,p,5,_,rfl,hn2,⟨by decide,by decide⟩,by omega,fun wy H3 YT YU fq fb=>?_⟩
  have Ax:=dh.tk (hn2.ts fb)
  have GL:=(kq.trans iq).trans fb
  have eq1:(x++("q":Str))∈dbl ns:=dO.mpr ⟨x,hx,.inl rfl⟩
  have ql:("q":Str).length=1:=rfl
  refine ⟨rfl,_,rfl,dz (fun c=>?_) (fun c=>?_)⟩
  ·refine ⟨H0,p,a,_,xs,rows,ns,WW,rfl,fq,by omega,Ax,fun y H4 hy gp ic=>⟨(show 4<=sizeLine by decide),fun q hq=>?_⟩⟩
   have s5:=aa.upd hq (.tup [.ref a,.str x,.ref a,.str y])
   have GN:=(Ax.tk (fq.ts ic)).tk s5.ts
   exact k q a a xs xs rows rows ns ns x y _ aA GN hx GN hy ((gp.same s5).mono (by omega)) ((GL.trans ic).trans s5.sm)
  refine ⟨rfl,_,rfl,dz (fun c=>?_) (fun c=>?_)⟩
  ·refine ⟨H0,p,a,_,xs,rows,ns,rfl,fq,by omega,Ax,h8,by omega,fun b ys d_ H4 yw gp ic=>⟨by omega,(show 4<=sizeLine by decide),fun q hq=>?_⟩⟩
   have s5:=aa.upd hq (.tup [.ref a,.str x,.ref b,.str (x++"q")])
   exact k q a b xs ys rows d_ ns _ x _ _ aA ((Ax.tk (fq.ts ic)).tk s5.ts) hx (yw.tk s5.ts) eq1 ((gp.same s5).mono (by omega)) ((GL.trans ic).trans s5.sm)
  refine ⟨_,rfl,dz (fun c=>?_) (fun c=>?_)⟩
  ·refine ⟨H0,p,a,_,xs,rows,ns,rfl,fq,by omega,Ax,h8,by omega,fun b ys d_ H4 yw gp ic=>⟨H0,p,b,_,ys,d_,_,rfl,gp,by omega,yw,fun b2 Df JK H5 GN jx gj=>⟨by omega,(show 4<=sizeLine by decide),fun q hq=>?_⟩⟩⟩
   have s6:=aa.upd hq (.tup [.ref a,.str x,.ref b2,.str (x++"q")])
   exact k q a b2 xs Df rows JK ns _ x _ _ aA (((Ax.tk (fq.ts ic)).tk (gp.ts gj)).tk s6.ts) hx (GN.tk s6.ts) eq1 ((jx.same s6).mono (by omega)) (((GL.trans ic).trans gj).trans s6.sm)
  refine ⟨H0,p,most,_,rfl,fq,by omega,⟨by omega,by omega⟩,fun b ys d_ mw H4 yw Me h84 gp ic=>?_⟩
  refine ⟨H0,p,b,_,ys,d_,mw,WW,rfl,gp,by omega,yw,fun y H5 hy jx gj=>⟨(show 4<=sizeLine by decide),fun q hq=>?_⟩⟩
  have s6:=aa.upd hq (.tup [.ref a,.str x,.ref b,.str y])
  exact k q a b xs ys rows d_ ns mw x y _ aA (((Ax.tk (fq.ts ic)).tk (gp.ts gj)).tk s6.ts) hx ((yw.tk (gp.ts gj)).tk s6.ts) hy ((jx.same s6).mono (by omega)) (((GL.trans ic).trans gj).trans s6.sm)
def Oq (K:Q0):Sp:=fun vs H Q _=>∃ (H0:Hp) (p:Addr) (most:Int) (t:Nat),vs=[.ref p,.int most]/\b_ K H0 H p t/\t+2100 < 900000/\(1<=most/\most<=7)/\
 ∀ (q a b:Addr) (xs ys:List V) (rows d_:List aq) (ns mw:List Str) (x y:Str) (H':Hp),H' q=some (.tup [.ref a,.str x,.ref b,.str y])->RT H' a xs rows ns WW->x∈ns->RT H' b ys d_ mw WW->y∈mw->b_ K H0 H' p (t+2100)->Sm p p H H'->Q (.ref q) H'
theorem Ot {K:Q0} {k l:Nat} {T:Addr} {v1 v2 v3 v4:V} {Q:St->Hp->Prop} (h:H T=some (.tup [v1,v2,v3,v4])) (q:Q ((((σ.set i (some v1)).set j (some v2)).set k (some v3)).set l (some v4)) H):zk K 4 (qg (jc i) (qg (jc j) (qg (jc k) (qg (jc l) Br)))) (.ref T) σ H Q:=
 ⟨T,_,rfl,af.of h,rfl,_,_,rfl,_,_,rfl,_,_,rfl,_,_,rfl,rfl,q⟩
set_option maxHeartbeats 2000000 in
theorem qG (T:Txt K mg w):a_ P w K mg base 7 "_law_close" ["_law_pen","_law_most"] (Oq K):=by
 have aN:a_ P w K mg base 2 "_law_next" ["_law_pen","_law_many"] (vq K):=bL T
 have xL:a_ P w K mg base 6 "_law_two" ["_law_pen","_law_most"] (Oo K):=uW T
 have qI:a_ P w K mg base 3 "_law_nearer" ["_law_pen","_law_told"] (Og K):=nL T
 refine T.sJ.fk cN (fun vs H Q E h=>?_) (fun f bc A outer s H vs Q E hr h=>?_)
 ·obtain ⟨H0,p,most,t,rfl,_⟩:=h
  rfl
 ·refine hdn fun G9 hG=>?_;obtain ⟨H0,p,most,t,rfl,hn,ht,⟨yq,hm2⟩,k⟩:=h;refine hG ?_
  have hu:=aU hr
  have bz:=Qx (aU hr)
  have hsz:sizeLine=16777216:=QL
  refine ⟨_,(aC (fF (bA xL (hr.mono (by decide)) (aB (zv 0) (aB (zv 1) ae))) (bO K (n:=4) rfl (aI (aJ (i:=2) cN.nd rfl (Or.inl rfl)) (aI (aJ (i:=3) cN.nd rfl (Or.inl rfl)) (aI (aJ (i:=4) cN.nd rfl (Or.inl rfl)) (aI (aJ (i:=5) cN.nd rfl (Or.inl rfl)) bE))))))
   (aC (bN (aL uX (bA aN (hr.mono (by decide)) (aB (zv 0) (aD aG ae))) aG (cy _)) (aE (aX (i:=4) cN.nd rfl (Or.inl rfl) (bA qI (hr.mono (by decide)) (aB (zv 0) (aB (zv 4) ae))))) aV)
   (aC (bN (aL (bP bz) (bA aN (hr.mono (by decide)) (aB (zv 0) (aD aG ae))) aG (cy _)) (aE (aQ (aT (aB (zv 4) (aB (zv 5) (aB (zv 2) (aB (zv 3) ae))))))) aV)
   (aE (aQ (aT (aB (zv 2) (aB (zv 3) (aB (zv 4) (aB (zv 5) ae)))))))))),?_⟩
  refine ⟨H0,p,most,t,rfl,hn,by omega,⟨yq,hm2⟩,fun q a b xs ys rows d_ ns mw x y H1 eq rt hx dh hy hn1 kq=>Ot eq ?_⟩
  dsimp only
  refine bC (fun σ' H'=>∃ (b:Addr) (ys:List V) (d_:List aq),σ'=[some (.ref p),some (.int most),some (.ref a),some (.str x),some (.ref b),some (.str y)]/\RT H' a xs rows ns WW/\RT H' b ys d_ mw WW/\b_ K H0 H' p (t+2090)/\Sm p p H H') ?_ ?_
  ·intro nx dc
   refine ⟨H0,p,3,_,rfl,hn1,⟨by decide,by decide⟩,by omega,fun r H2 r0 r1 hn2 iq=>⟨_,rfl,dz (fun c=>?_) (fun c=>dc _ _ ⟨b,ys,d_,rfl,rt.tk (hn1.ts iq),dh.tk (hn1.ts iq),hn2.mono (by omega),kq.trans iq⟩)⟩⟩
   have Ou:=hn1.ts iq
   exact ⟨H0,p,b,_,ys,d_,mw,rfl,hn2,by omega,dh.tk Ou,fun b2 Df JK H3 Ax fq fb=>dc _ _ ⟨b2,Df,JK,rfl,(rt.tk Ou).tk (hn2.ts fb),Ax,fq.mono (by omega),(kq.trans iq).trans fb⟩⟩
  ·rintro σ' H2 z0;refine hdn fun G9 hG=>?_;obtain ⟨b,ys,d_,rfl,Dg,Dh,hn2,iq⟩:=z0;refine hG ?_
   refine ⟨H0,p,2,_,rfl,hn2,⟨by decide,by decide⟩,by omega,fun r H3 r0 r1 fq fb=>⟨rfl,_,rfl,dz (fun c=>⟨(show 4<=sizeLine by decide),fun q hq=>?_⟩) (fun c=>⟨(show 4<=sizeLine by decide),fun q hq=>?_⟩)⟩⟩
   ·have s4:=aa.upd hq (.tup [.ref b,.str y,.ref a,.str x])
    have tk:=(hn2.ts fb).trans s4.ts
    exact k q b a ys xs d_ rows mw ns y x _ aA (Dh.tk tk) hy (Dg.tk tk) hx ((fq.same s4).mono (by omega)) ((iq.trans fb).trans s4.sm)
   ·have s4:=aa.upd hq (.tup [.ref a,.str x,.ref b,.str y])
    have tk:=(hn2.ts fb).trans s4.ts
    exact k q a b xs ys rows d_ ns mw x y _ aA (Dg.tk tk) hx (Dh.tk tk) hy ((fq.same s4).mono (by omega)) ((iq.trans fb).trans s4.sm)
def Ov:Sp:=fun vs H Q _=>∃ (b1 b2:Addr) (h1 h2:Hd),vs=[.ref b1,.ref b2]/\C0 H b1 h1/\C0 H b2 h2/\(stH h1).length<=10/\(stH h2).length<=10/\
 (fh h1 h2=none->∀ H',aa H H'->Q .ai H')/\∀ ss,fh h1 h2=some ss->∀ (r:Addr) (us:List V) (H':Hp),aa H H'->H' r=some (.tup us)->SV H' us ss->Q (.ref r) H'
theorem kG (T:Txt K mg w):a_ P w K mg base 1 "steps_between" ["lower","upper"] Ov:=by
 refine T.lA.fk dI (fun vs H Q E h=>?_) (fun f bc A outer s H vs Q E hr h=>?_)
 ·obtain ⟨b1,b2,h1,h2,rfl,_⟩:=h
  rfl
 ·refine hdn fun G9 hG=>?_;obtain ⟨b1,b2,h1,h2,rfl,⟨c1,nu,e1,f1,g1⟩,⟨c2,fz,e2,f2,g2⟩,l1,l2,kn,ks⟩:=h;refine hG ?_
  have hu:=aU hr
  have bz:=Qx (aU hr)
  have Bc:=qD hr
  have hsz:sizeLine=16777216:=QL
  refine ⟨_,(aC (bN (qA (aL (bP bz) (aY (aZ K) (zv 1) aG (fun _ _=>rfl)) aS (cy _)) (mR (aL (bP bz) (aY (aZ K) (zv 0) aG (fun _ _=>rfl)) aS (cy _)))).pt (aE (aQ (aT ae))) aV)
   (aC (bN (aL (gW bz) (aY (aZ K) (zv 0) aG (fun _ _=>rfl)) (aY (aZ K) (zv 1) aG (fun _ _=>rfl)) (cy _)) (aE (aQ iJ)) aV)
   (aC (fF (pK (aL (bP bz) (aY (aZ K) (zv 0) aG (fun _ _=>rfl)) aS (cy _)) (aT (aH (aY (aZ K) (zv 0) aG (fun _ _=>rfl)) (aH (aY (aZ K) (zv 1) aG (fun _ _=>rfl)) ae))) (aT (aH (aY (aZ K) (zv 1) aG (fun _ _=>rfl)) (aH (aY (aZ K) (zv 0) aG (fun _ _=>rfl)) ae)))) (bO K (n:=2) rfl (aI (aJ (i:=2) dI.nd rfl (Or.inl rfl)) (aI (aJ (i:=3) dI.nd rfl (Or.inr rfl)) bE))))
   (aE (aQ (pK (kX (bK (wX K rfl) (by rfl) T.XE PyProof.Rows.boot_all (dQ (nC (own:=["step"]) (idx:=[3]) (N':=["step","more"]) (dH (bh cU) (["lower","upper","fewer","more"]:List Str) (by decide+kernel)) rfl (lJ K (zv 2)) (fun _ _ _ _ _ _=>(aJ (i:=0) (show List.Nodup (["step","more"]:List Str) by decide+kernel) rfl (Or.inl rfl))) (fun _ _ _ _ _ _=>eA) (fun _ _ _ _ _ _=>(mY (Wq K Bc) (zv 0) (zv 1) rfl))) ae))) (zv 2) iJ)))))),?_⟩
  have Ox:(h2.be="all"\/h1.be="none")->0<=sizeLine/\∀ p,H p=none->Q (.ref p) (upd H p (.tup [])):=fun hh=>⟨by omega,fun p hp=>ks [] (by unfold fh;rw [if_pos hh]) p [] _ (aa.upd hp _) aA SV.nil⟩
  refine ⟨_,_,.inr (af.of e2),aK _ _,rfl,_,rfl,yr (fun a=>?_) (fun a=>?_)⟩
  ·exact Ox (.inl a)
  refine ⟨_,_,.inr (af.of e1),aK _ _,rfl,_,rfl,yr (fun b=>?_) (fun b=>?_)⟩
  ·exact Ox (.inr b)
  have n0:¬(h2.be="all"\/h1.be="none"):=fun h=>h.elim a b
  refine ⟨_,_,.inr (af.of e1),aK _ _,_,_,.inr (af.of e2),aK _ _,rfl,_,rfl,IK (fun c=>kn (by unfold fh;rw [if_neg n0,if_pos c]) H (aa.refl _)) (fun c=>?_)⟩
  refine dJ ?_
  refine bC (fun σ' H'=>∃ (cf cm:Addr) (uf um:List V) (sf sm:List (List Str)),σ'=[some (.ref b1),some (.ref b2),some (.ref cf),some (.ref cm)]/\aa H H'/\H cf=some (.tup uf)/\SV H uf sf/\H cm=some (.tup um)/\SV H um sm/\sf.length<=10/\fh h1 h2=if ∀ s∈sf,s∈sm then some sf else none) ?_ ?_
  ·intro nx dc
   refine ⟨_,_,.inr (af.of e1),aK _ _,rfl,_,rfl,yr (fun d=>?_) (fun d=>?_)⟩
   ·refine ⟨_,_,.inr (af.of e1),rfl,_,_,.inr (af.of e2),rfl,(show 2<=sizeLine by decide),fun p hp=>cC aA ?_⟩
    exact dc _ _ ⟨c1,c2,nu,fz,stH h1,stH h2,rfl,aa.upd hp _,f1,g1,f2,g2,l1,by unfold fh;rw [if_neg n0,if_neg (fun h=>h c),if_pos d]⟩
   ·refine ⟨_,_,.inr (af.of e2),rfl,_,_,.inr (af.of e1),rfl,(show 2<=sizeLine by decide),fun p hp=>cC aA ?_⟩
    exact dc _ _ ⟨c2,c1,fz,nu,stH h2,stH h1,rfl,aa.upd hp _,f2,g2,f1,g1,l2,by unfold fh;rw [if_neg n0,if_neg (fun h=>h c),if_neg d]⟩
  ·rintro σ' H1 z0;refine hdn fun G9 hG=>?_;obtain ⟨cf,cm,uf,um,sf,sm,rfl,s1,ef,JL,em,Y5,hl,hb⟩:=z0;refine hG ?_
   have De:=JL.len
   refine .inr ⟨⟨uf,af.of (s1 _ _ ef)⟩,fun D hD=>?_⟩
   refine hV (cM uf) (fun i τ H'=>∃ (v0:Option V) (bs:List Bool),τ=[v0,some (.ref cm)]/\H' D=some (.lst (bs.map V.bl))/\bs=(sf.take i).map (fun s=>decide (s∈sm))/\aa H1 H') ⟨none,[],rfl,aA,by simp,aa.upd hD _⟩ (by rintro i τ H' _ ⟨_,_,_,_,_,s⟩;exact af.of ((s1.trans s) _ _ ef)) ?_ ?_
   ·rintro i τ H4 hi ⟨v0,bs,rfl,q1,q2,q3⟩
    have mq:i < sf.length:=by omega
    obtain ⟨bb,w1,w2⟩:=JL.at_ i hi mq
    have eg:uf.getD i .ai=.ref bb:=by rw [Qb,Qa hi,w1];rfl
    rw [eg]
    have vp:sf.take (i+1)=sf.take i++[sf[i]]:=by rw [Qs,Qa mq];rfl
    have s4:=s1.trans q3
    have Nl:bs.length<=i:=by rw [q2];simp;omega
    refine ⟨bb,cm,sf[i].map Sum.inr,um,_,rfl,rfl,by rw [EB];exact w2.same s4,.inr (af.of (s4 _ _ em)),(Y5.same s4).WR,fun r hr=>?_⟩
    have er:(false^^r)=decide (sf[i]∈sm):=by
     rw [QE,Bool.eq_iff_iff,hr,WS,decide_eq_true_iff]
    refine ⟨bs.map V.bl,q1,by simp;omega,_,bs++[decide (sf[i]∈sm)],rfl,?_,?_,q3.put hD⟩
    ·rw [er,Qm];exact aA
    ·rw [vp,Qm,<- q2];rfl
   ·rintro τ H4 ⟨v0,bs,rfl,q1,q2,q3⟩
    rw [De,Qo] at q2
    have s4:=s1.trans q3
    refine ⟨bs,aj.of q1,_,rfl,dz (fun cc=>?_) (fun cc=>?_)⟩
    ·refine ks sf ?_ cf uf H4 s4 (s4 _ _ ef) (JL.same s4)
     rw [hb,if_pos]
     intro s hs
     rw [q2] at cc
     exact Qt (QF.mp cc _ (List.mem_map.mpr ⟨s,hs,rfl⟩))
    ·refine kn ?_ H4 s4
     rw [hb,if_neg]
     intro kg
     have:((sf.map fun s=>decide (s∈sm)).all id)=true:=QF.mpr fun bb BX=>by
      obtain ⟨p,hp,rfl⟩:=List.mem_map.mp BX
      exact Qv (kg p hp)
     rw [q2,this] at cc;cases cc
structure Di (K:Q0) (mg:Str->Option Value) (H:Hp) (n1 n2:Addr) (r1 r2:List aq) (m1 m2:List Str):Prop where
 v1:C1 K mg H n1 r1 m1
 v2:C1 K mg H n2 r2 m2
 g1:f_ r1 m1
 g2:f_ r2 m2
theorem Di.same {H H':Hp} {n1 n2:Addr} {r1 r2:List aq} {m1 m2:List Str} (h:Di K mg H n1 n2 r1 r2 m1 m2) (s:aa H H'):Di K mg H' n1 n2 r1 r2 m1 m2:=⟨h.v1.same s,h.v2.same s,h.g1,h.g2⟩
def Oz (K:Q0) (mg:Str->Option Value):Sp:=fun vs H Q _=>∃ (n1 n2 b:Addr) (r1 r2:List aq) (m1 m2:List Str) (t:bf),vs=[.ref n1,.ref n2,.ref b]/\Di K mg H n1 n2 r1 r2 m1 m2/\au H b ((bq t).map kV)/\iy r1 m1 t.2.1/\iy r2 m2 t.2.2/\
 (gh r1 r2 t=none->∀ H',aa H H'->Q .ai H')/\∀ ss,gh r1 r2 t=some ss->∀ (r:Addr) (us:List V) (H':Hp),aa H H'->H' r=some (.tup us)->SV H' us ss->Q (.ref r) H'
theorem qP {K:Q0} {k:Nat} {T:Addr} {v1 v2 v3:V} {Q:St->Hp->Prop} (h:af K H T [v1,v2,v3]) (q:Q (((σ.set i (some v1)).set j (some v2)).set k (some v3)) H):zk K 3 (qg (jc i) (qg (jc j) (qg (jc k) Br))) (.ref T) σ H Q:=
 ⟨T,_,rfl,h,rfl,_,_,rfl,_,_,rfl,_,_,rfl,rfl,q⟩
theorem jB (T:Txt K mg w):a_ P w K mg base 2 "steps_looked_at" ["left","right","triple"] (Oz K mg):=by
 have h9:a_ P w K mg base 1 "steps_between" ["lower","upper"] Ov:=kG T
 have cl:=T.Au.2.1
 have na:=T.Au.2.2.1
 refine T.jG.fk cD (fun vs H Q E h=>?_) (fun f bc A outer s H vs Q E hr h=>?_)
 ·refine hdn fun G9 hG=>?_;obtain ⟨n1,n2,b,r1,r2,m1,m2,t,rfl,_⟩:=h;refine hG ?_
  rfl
 ·refine hdn fun G9 hG=>?_;obtain ⟨n1,n2,b,r1,r2,m1,m2,t,rfl,nt,hb,ha,uo,kn,ks⟩:=h;refine hG ?_
  have hu:=aU hr
  have bz:=Qx (aU hr)
  refine hdn fun G9 hG=>?_;obtain ⟨dx,fs,d1,d3,d4,x0,x1,x2,x3,x4,x5,x6,x7⟩:=nt.v1.at_;refine hG ?_
  refine hdn fun G9 hG=>?_;obtain ⟨As,zd,JM,GO,GP,y0,y1,y2,y3,y4,y5,y6,y7⟩:=nt.v2.at_;refine hG ?_
  obtain ⟨p1,p2,p3⟩:=x5 _ ha
  obtain ⟨q1,q2,q3⟩:=y5 _ uo
  have f1:(stH (ak r1 t.2.1)).length<=10:=by have:=iP (nt.g1.ju ha).2;simpa [stH] using this
  have f2:(stH (ak r2 t.2.2)).length<=10:=by have:=iP (nt.g2.ju uo).2;simpa [stH] using this
  generalize adr mg "Net"=C at*
  refine ⟨_,(aC (fF (zv 2) (bO K (n:=3) rfl (aI (aJ (i:=3) cD.nd rfl (Or.inl rfl)) (aI (aJ (i:=4) cD.nd rfl (Or.inl rfl)) (aI (aJ (i:=5) cD.nd rfl (Or.inl rfl)) bE)))))
   (aC (bN (aL (bP bz) (zv 3) aG (cy _)) (aE (aQ (bA h9 (hr.mono (by decide)) (aH (cG hu (iF K (zv 0)) (zv 4) (fun _ _=>rfl)) (aH (cG hu (iF K (zv 1)) (zv 5) (fun _ _=>rfl)) ae))))) aV)
   (aE (aQ (bA h9 (hr.mono (by decide)) (aH (cG hu (iF K (zv 1)) (zv 5) (fun _ _=>rfl)) (aH (cG hu (iF K (zv 0)) (zv 4) (fun _ _=>rfl)) ae))))))),?_⟩
  refine qP (af.p_ hb) ?_
  refine ⟨rfl,_,rfl,MP (fun d=>?_) (fun d=>?_)⟩
  ·refine ⟨n1,C,dx,fs,_,rfl,x0,cl,na "marks" (by simp),x2,d3,_,rfl,p2,n2,C,As,zd,_,rfl,y0,cl,na "marks" (by simp),y2,GO,_,rfl,q2,?_⟩
   refine ⟨p1,q1,_,_,rfl,p3,q3,f1,f2,fun e=>kn (by unfold gh;rw [if_pos d];exact e),fun ss e=>ks ss (by unfold gh;rw [if_pos d];exact e)⟩
  ·refine ⟨n2,C,As,zd,_,rfl,y0,cl,na "marks" (by simp),y2,GO,_,rfl,q2,n1,C,dx,fs,_,rfl,x0,cl,na "marks" (by simp),x2,d3,_,rfl,p2,?_⟩
   refine ⟨q1,p1,_,_,rfl,q3,p3,f2,f1,fun e=>kn (by unfold gh;rw [if_neg d];exact e),fun ss e=>ks ss (by unfold gh;rw [if_neg d];exact e)⟩
def OA (K:Q0) (mg:Str->Option Value):Sp:=fun vs H Q _=>∃ (n1 n2 b c:Addr) (r1 r2:List aq) (m1 m2:List Str) (t:bf) (sp:List Str),vs=[.ref n1,.ref n2,.ref b,.ref c]/\Di K mg H n1 n2 r1 r2 m1 m2/\Kn mg H "FROM" [.str "from"]/\au H b ((bq t).map kV)/\au H c (sp.map V.str)/\iy r1 m1 t.2.1/\iy r2 m2 t.2.2/\
 sp∈stH (ak r1 t.2.1)/\sp∈stH (ak r2 t.2.2)/\∀ (r:Addr) (H':Hp),aa H H'->H' r=some (.tup ((bq (gg r1 r2 t sp)).map kV))->Q (.ref r) H'
theorem kO (T:Txt K mg w):a_ P w K mg base 1 "triple_behind" ["left","right","triple","step"] (OA K mg):=by
 have cl:=T.Au.2.1
 have na:=T.Au.2.2.1
 refine T.l9.fk cO (fun vs H Q E h=>?_) (fun f bc A outer s H vs Q E hr h=>?_)
 ·refine hdn fun G9 hG=>?_;obtain ⟨n1,n2,b,c,r1,r2,m1,m2,t,sp,rfl,_⟩:=h;refine hG ?_
  rfl
 ·refine hdn fun G9 hG=>?_;obtain ⟨n1,n2,b,c,r1,r2,m1,m2,t,sp,rfl,nt,kf,hb,hc,ha,uo,i1,i2,k⟩:=h;refine hG ?_
  have hu:=aU hr
  have bz:=Qx (aU hr)
  have Bb:=lO hr
  refine hdn fun G9 hG=>?_;obtain ⟨dx,fs,d1,d3,d4,x0,x1,x2,x3,x4,x5,x6,x7⟩:=nt.v1.at_;refine hG ?_
  refine hdn fun G9 hG=>?_;obtain ⟨As,zd,JM,GO,GP,y0,y1,y2,y3,y4,y5,y6,y7⟩:=nt.v2.at_;refine hG ?_
  obtain ⟨p1,o1,p2,p3⟩:=x7 _ ha
  obtain ⟨q1,o2,q2,q3⟩:=y7 _ uo
  obtain ⟨e1,w1⟩:=iR ha.2 i1
  obtain ⟨e2,w2⟩:=iR uo.2 i2
  have OB:fu H p1 (.ref c) (some (.str e1)):=by
   have:=vS r1 t.2.1 sp
   rw [w1] at this
   exact .inr ⟨_,sp.map Sum.inr,c,.inr ⟨o1,p3⟩,rfl,by rw [EB];exact hc,this.symm⟩
  have OC:fu H q1 (.ref c) (some (.str e2)):=by
   have:=vS r2 t.2.2 sp
   rw [w2] at this
   exact .inr ⟨_,sp.map Sum.inr,c,.inr ⟨o2,q3⟩,rfl,by rw [EB];exact hc,this.symm⟩
  have et:gg r1 r2 t sp=(if sp=(["from"]:List Str) then -t.1 else t.1,e1,e2):=by unfold gg;rw [w1,w2];rfl
  rw [et] at k
  generalize adr mg "Net"=C at*
  refine ⟨_,(aC (fF (zv 2) (bO K (n:=3) rfl (aI (aJ (i:=4) cO.nd rfl (Or.inl rfl)) (aI (aJ (i:=5) cO.nd rfl (Or.inl rfl)) (aI (aJ (i:=6) cO.nd rfl (Or.inl rfl)) bE)))))
   (aE (aQ (aT (UH (pK (aL (kP Bb) (zv 3) (HK T.oZ) (cy _)) (HL uV (zv 4)) (zv 4)) (aH (cG hu (cG hu (iF K (zv 0)) (zv 5) (fun _ _=>rfl)) (zv 3) (fun _ _=>rfl)) (aH (cG hu (cG hu (iF K (zv 1)) (zv 6) (fun _ _=>rfl)) (zv 3) (fun _ _=>rfl)) ae))))))),?_⟩
  refine qP (af.p_ hb) ?_
  refine ⟨c,adr mg "FROM",sp,(["from"]:List Str),rfl,rfl,hc,kf.rd,_,rfl,dz (fun d=>?_) (fun d=>?_)⟩
  ·have hd:sp=(["from"]:List Str):=Qt d
   refine ⟨_,rfl,n1,C,dx,fs,_,rfl,x0,cl,na "moves" (by simp),x3,d4,_,rfl,p2,p1,_,rfl,OB,n2,C,As,zd,_,rfl,y0,cl,na "moves" (by simp),y3,GP,_,rfl,q2,q1,_,rfl,OC,(show 3<=sizeLine by decide),fun r hr=>k r _ (aa.upd hr _) ?_⟩
   rw [if_pos hd];exact aA
  ·have hd:sp≠(["from"]:List Str):=of_decide_eq_false d
   refine ⟨n1,C,dx,fs,_,rfl,x0,cl,na "moves" (by simp),x3,d4,_,rfl,p2,p1,_,rfl,OB,n2,C,As,zd,_,rfl,y0,cl,na "moves" (by simp),y3,GP,_,rfl,q2,q1,_,rfl,OC,(show 3<=sizeLine by decide),fun r hr=>k r _ (aa.upd hr _) ?_⟩
   rw [if_neg hd];exact aA
def OD:Sp:=fun vs H Q _=>∃ (W:Addr) (i:Nat) (ts:List V) (tr:List (Option (Nat×List Str))),vs=[.ref W,.int (i:Int)]/\H W=some (.lst ts)/\vm H ts tr/\An tr/\i < tr.length/\tr.length<=1000/\
 ∀ (r:Addr) (us:List V) (H':Hp),aa H H'->H' r=some (.tup us)->SV H' us (fi tr i i)->Q (.ref r) H'
theorem pG (T:Txt K mg w):a_ P w K mg base 1 "road_back" ["trail","at"] OD:=by
 refine T.sX.fk eK (fun vs H Q E h=>?_) (fun f bc A outer s H vs Q E hr h=>?_)
 ·obtain ⟨W,i,ts,tr,rfl,_⟩:=h
  rfl
 ·refine hdn fun G9 hG=>?_;obtain ⟨W,i,ts,tr,rfl,hW,tv,tok,hi,hl,k⟩:=h;refine hG ?_
  have hu:=aU hr
  have bz:=Qx (aU hr)
  have hsz:sizeLine=16777216:=QL
  have htl:=tv.len
  refine ⟨_,(aC (aX (i:=2) eK.nd rfl (Or.inl rfl) (cP ae))
   (aC (iN PassesOwn.never (aL wJ (aY (aZ K) (zv 0) (zv 1) (fun _ _=>rfl)) iJ (cy _)) (aC (fF (aY (aZ K) (zv 0) (zv 1) (fun _ _=>rfl)) (bO K (n:=2) rfl (aI (aJ (i:=1) eK.nd rfl (Or.inl rfl)) (aI (aJ (i:=3) eK.nd rfl (Or.inl rfl)) bE))))
   (aE (dR (lW K QH QJ QK bZ (zv 2) (aB (zv 3) ae))))))
   (aE (aQ (bM (cV K) (by rfl) T.dP QG (aH (XA K (zv 2) (HL uV aG)) ae)))))),?_⟩
  refine aO ⟨(show 0<=sizeLine by decide),fun L hL=>?_⟩
  refine bC (fun σ' H'=>∃ (v3:Option V) (j:Nat) (us:List V) (ss:List (List Str)),σ'=[some (.ref W),some (.int (j:Int)),some (.ref L),v3]/\aa H H'/\H' L=some (.lst us)/\SV H' us ss/\ss.length<=1000/\fi tr i i=ss.reverse) ?_ ?_
  ·intro nx dc
   refine ⟨fun m σ' H'=>∃ (v3:Option V) (j:Nat) (us:List V) (ss:List (List Str)),σ'=[some (.ref W),some (.int (j:Int)),some (.ref L),v3]/\aa H H'/\H' L=some (.lst us)/\SV H' us ss/\j<=m/\m+ss.length<=i/\fi tr i i=fi tr m j++ss.reverse,⟨i,none,i,[],[],rfl,aa.upd hL _,aA,SV.nil,Qy _,by simp,by simp⟩,?_⟩
   rintro m σ' H1 z0;refine hdn fun G9 hG=>?_;obtain ⟨v3,j,us,ss,rfl,s1,e1,sv,hj,hm,he⟩:=z0;refine hG ?_
   have GQ:j < tr.length:=by omega
   have Dj:=tv.at_ j (by omega) GQ
   have C8:lg ts (j:Int)=some (ts[j]'(by omega)):=fO (Qa (by omega))
   refine ⟨_,_,.inl (aj.of (s1 _ _ hW)),C8,?_⟩
   cases ho:tr[j] with
   | none=>
    rw [ho] at Dj
    have Dj:ts[j]'(by omega)=.ai:=Dj
    rw [Dj]
    refine ⟨_,rfl,dc _ _ ⟨v3,j,us,ss,rfl,s1,e1,sv,by omega,?_⟩⟩
    rw [he]
    have:fi tr m j=[]:=by
     cases m with
     | zero=>rfl
     | succ m=>unfold fi;rw [Qa GQ,ho]
    rw [this,List.nil_append]
   | some q=>
    rw [ho] at Dj
    obtain ⟨b,c,q1,q2,q3⟩:=Dj
    rw [q1]
    have hqj:=tok j q.1 q.2 (by rw [Qa GQ,ho])
    have De:=sv.len
    refine ⟨_,rfl,w_ ?_⟩
    refine ⟨fun σ' H'=>∃ m',m' < m/\∃ (v3:Option V) (j:Nat) (us:List V) (ss:List (List Str)),σ'=[some (.ref W),some (.int (j:Int)),some (.ref L),v3]/\aa H H'/\H' L=some (.lst us)/\SV H' us ss/\j<=m'/\m'+ss.length<=i/\fi tr i i=fi tr m' j++ss.reverse,fun _ _ h=>h,?_⟩
    refine ⟨_,_,.inl (aj.of (s1 _ _ hW)),C8,?_⟩
    rw [q1]
    refine cC (s1 _ _ q2) ?_
    refine ⟨.inl ⟨rfl,_,aj.of e1⟩,L,us,.ref c,rfl,rfl,e1,by omega,m - 1,by omega,_,q.1,us++[.ref c],ss++[q.2],rfl,s1.put hL,aA,?_,by omega,by simp;omega,?_⟩
    ·exact (sv.snoc (q3.same s1)).keep fun b ys r=>r.put e1 (fun _ z=>nomatch z) (fun _ _ z=>nomatch z)
    ·rw [he]
     cases m with
     | zero=>omega
     | succ m=>
      have:fi tr (m+1) j=fi tr m q.1++[q.2]:=by
       show (match tr[j]? with | some (some (j,s))=>fi tr m j++[s] | _=>[])=_
       rw [Qa GQ,ho]
      rw [this,Nat.add_sub_cancel,List.reverse_append,QQ]
      rfl
  ·rintro σ' H1 z0;refine hdn fun G9 hG=>?_;obtain ⟨v3,j,us,ss,rfl,s1,e1,sv,hl,he⟩:=z0;refine hG ?_
   have De:=sv.len
   refine ⟨_,rfl,rfl,L,us,rfl,aj.of e1,fun p hp=>?_⟩
   refine ⟨p,us.reverse,rfl,.inl ⟨aj.of aA,fun r hr=>?_⟩⟩
   have s2:=(aa.upd hp (.lst us.reverse)).trans (aa.upd hr (.tup us.reverse))
   refine k r _ _ (s1.trans s2) aA ?_
   rw [he]
   exact (sv.same s2).rev
structure yz (P:Program) (w:World) (H0 H:Hp) (L S W:Addr) (st:je):Prop where
 l:∃ xs,H L=some (.lst xs)/\jm H xs (st.map fun c=>bq c.1)
 s:∃ ao,uq P w H S ao/\(∀ k,k∈ao.map (·.1)↔k∈st.map fun c=>bq c.1)/\ao.length<=st.length
 w:∃ ts,H W=some (.lst ts)/\vm H ts (st.map (·.2))
 sm:aa H0 H
theorem yz.same {P:Program} {w:World} {H0 H H':Hp} {L S W:Addr} {st:je} (h:yz P w H0 H L S W st) (s:aa H H'):yz P w H0 H' L S W st:=by
 refine hdn fun G9 hG=>?_;obtain ⟨⟨xs,a1,a2⟩,⟨ao,b1,b2,b3⟩,⟨ts,c1,c2⟩,d⟩:=h;refine hG ?_
 exact ⟨⟨xs,s _ _ a1,a2.same s⟩,⟨ao,b1.same s,b2,b3⟩,⟨ts,s _ _ c1,c2.same s⟩,d.trans s⟩
theorem Y6 {L S W T8 r sb:Addr} {st:je} {xs ts:List V} {t:bf} {sp:List Str} (l1:H L=some (.lst xs)) (l2:jm H xs (st.map fun c=>bq c.1)) (sa:uq P w H S ao) (sk:∀ k,k∈ao.map (·.1)↔k∈st.map fun c=>bq c.1) (sl:ao.length<=st.length) (w1:H W=some (.lst ts)) (w2:vm H ts (st.map (·.2))) (sm:aa H0 H)
  (hL:H0 L=none) (hS:H0 S=none) (hW:H0 W=none) (E5:L≠S) (E6:L≠W) (E7:S≠W) (er:H r=some (.tup ((bq t).map kV))) (g:au H sb (sp.map V.str)) (hT:upd (upd H S (ik P w S (ao++[(bq t,r)]))) L (.lst (xs++[.ref r])) T8=none):
  yz P w H0 (upd (upd (upd (upd H S (ik P w S (ao++[(bq t,r)]))) L (.lst (xs++[.ref r]))) T8 (.tup [.int (i:Int),.ref sb])) W (.lst (ts++[.ref T8]))) L S W (st++[(t,some (i,sp))])/\
  Tk H (upd (upd (upd (upd H S (ik P w S (ao++[(bq t,r)]))) L (.lst (xs++[.ref r]))) T8 (.tup [.int (i:Int),.ref sb])) W (.lst (ts++[.ref T8])))/\
  ∀ b ys,au H b ys->au (upd (upd (upd (upd H S (ik P w S (ao++[(bq t,r)]))) L (.lst (xs++[.ref r]))) T8 (.tup [.int (i:Int),.ref sb])) W (.lst (ts++[.ref T8]))) b ys:=by
 have k1:∀ b ys,au H b ys->au (upd H S (ik P w S (ao++[(bq t,r)]))) b ys:=fun b ys h=>h.put sa.at_ (fun _ z=>nomatch z) (fun _ _ z=>nomatch z)
 have t1:Tk H (upd H S (ik P w S (ao++[(bq t,r)]))):=(Tk.refl).set sa.at_ fun _ z=>nomatch z
 have OE:upd H S (ik P w S (ao++[(bq t,r)])) L=some (.lst xs):=by rw [aF E5];exact l1
 have JN:upd H S (ik P w S (ao++[(bq t,r)])) W=some (.lst ts):=by rw [aF E7.symm];exact w1
 have Y7:upd H S (ik P w S (ao++[(bq t,r)])) S=some (ik P w S (ao++[(bq t,r)])):=aA
 have m1:aa H0 (upd H S (ik P w S (ao++[(bq t,r)]))):=sm.put hS
 generalize upd H S (ik P w S (ao++[(bq t,r)]))=H1 at*
 have k2:∀ b ys,au H1 b ys->au (upd H1 L (.lst (xs++[.ref r]))) b ys:=fun b ys h=>h.put OE (fun _ z=>nomatch z) (fun _ _ z=>nomatch z)
 have t2:Tk H1 (upd H1 L (.lst (xs++[.ref r]))):=(Tk.refl).set OE fun _ z=>nomatch z
 have Y8:upd H1 L (.lst (xs++[.ref r])) L=some (.lst (xs++[.ref r])):=aA
 have Y9:upd H1 L (.lst (xs++[.ref r])) W=some (.lst ts):=by rw [aF E6.symm];exact JN
 have Y_:upd H1 L (.lst (xs++[.ref r])) S=some (ik P w S (ao++[(bq t,r)])):=by rw [aF E5.symm];exact Y7
 have m2:aa H0 (upd H1 L (.lst (xs++[.ref r]))):=m1.put hL
 generalize upd H1 L (.lst (xs++[.ref r]))=H2 at*
 have fb:=aa.upd hT (.tup [.int (i:Int),.ref sb])
 have e3:upd H2 T8 (.tup [.int (i:Int),.ref sb]) T8=some (.tup [.int (i:Int),.ref sb]):=aA
 generalize upd H2 T8 (.tup [.int (i:Int),.ref sb])=H3 at*
 have OF:=fb _ _ Y9
 have k4:∀ b ys,au H3 b ys->au (upd H3 W (.lst (ts++[.ref T8]))) b ys:=fun b ys h=>h.put OF (fun _ z=>nomatch z) (fun _ _ z=>nomatch z)
 have t4:Tk H3 (upd H3 W (.lst (ts++[.ref T8]))):=(Tk.refl).set OF fun _ z=>nomatch z
 have kk:∀ b ys,au H b ys->au (upd H3 W (.lst (ts++[.ref T8]))) b ys:=fun b ys h=>k4 _ _ ((k2 _ _ (k1 _ _ h)).same fb)
 have tt:Tk H (upd H3 W (.lst (ts++[.ref T8]))):=((t1.trans t2).trans fb.ts).trans t4
 refine ⟨⟨⟨xs++[.ref r],by rw [aF E6];exact fb _ _ Y8,?_⟩,⟨ao++[(bq t,r)],⟨by rw [aF E7];exact fb _ _ Y_,fun p hp=>?_⟩,fun k=>?_,by simpa using sl⟩,⟨ts++[.ref T8],aA,?_⟩,(m2.trans fb).put hW⟩,tt,kk⟩
 ·rw [Qm]
  exact (l2.keep kk).snoc (.inl (tt _ _ er))
 ·rcases List.mem_append.mp hp with hp | hp
  ·exact kk _ _ (sa.ks p hp)
  ·rw [List.mem_singleton.mp hp];exact .inl (tt _ _ er)
 ·rw [Qm,Qm,List.mem_append,List.mem_append,sk]
  rfl
 ·rw [Qm]
  exact (w2.keep tt kk).snoc ⟨T8,sb,rfl,t4 _ _ e3,kk _ _ g⟩
def JO (K:Q0) (mg:Str->Option Value):Sp:=fun vs H Q _=>∃ (n1 n2:Addr) (r1 r2:List aq) (m1 m2:List Str) (x y:Str),vs=[.ref n1,.str x,.ref n2,.str y]/\Di K mg H n1 n2 r1 r2 m1 m2/\Kn mg H "FROM" [.str "from"]/\x∈m1/\y∈m2/\
 (∀ (r L:Addr) (xs:List V) (i:Nat) (st:je) (H':Hp),st=jv r1 r2 (1,endOf r1 x,endOf r2 y) i->H L=none->aa H H'->H' r=some (.tup [.ref L,.ai])->H' L=some (.lst xs)->jm H' xs (st.map fun c=>bq c.1)->LI r1 r2 m1 m2 i st->st.length=i->Q (.ref r) H')/\
 ∀ (r L R:Addr) (xs us:List V) (i:Nat) (st:je) (c:bf×Option (Nat×List Str)) (H':Hp),st=jv r1 r2 (1,endOf r1 x,endOf r2 y) i->H L=none->aa H H'->H' r=some (.tup [.ref L,.ref R])->H' L=some (.lst xs)->jm H' xs (st.map fun c=>bq c.1)->H' R=some (.tup us)->SV H' us (fi (st.map (·.2)) i i)->LI r1 r2 m1 m2 i st->st[i]? =some c->gh r1 r2 c.1=none->Q (.ref r) H'
set_option maxHeartbeats 4000000 in
theorem jD (T:Txt K mg w):a_ P w K mg base 3 "looked_at" ["left","x","right","y"] (JO K mg):=by
 have jI:a_ P w K mg base 2 "steps_looked_at" ["left","right","triple"] (Oz K mg):=jB T
 have l8:a_ P w K mg base 1 "triple_behind" ["left","right","triple","step"] (OA K mg):=kO T
 have sE:a_ P w K mg base 1 "road_back" ["trail","at"] OD:=pG T
 have cl:=T.Au.2.1
 have na:=T.Au.2.2.1
 refine T.sS.fk bQ (fun vs H Q E h=>?_) (fun f bc A outer s H vs Q E hr h=>?_)
 ·refine hdn fun G9 hG=>?_;obtain ⟨n1,n2,r1,r2,m1,m2,x,y,rfl,_⟩:=h;refine hG ?_
  rfl
 ·refine hdn fun G9 hG=>?_;obtain ⟨n1,n2,r1,r2,m1,m2,x,y,rfl,nt,kf,hx,hy,kA,kB⟩:=h;refine hG ?_
  have hu:=aU hr
  have bz:=Qx (aU hr)
  have Bc:=qD hr
  have hsz:sizeLine=16777216:=QL
  refine ⟨_,(aC (aX (i:=4) bQ.nd rfl (Or.inl rfl) (cP (bD (aT (aD aG (aH (cG hu (iF K (zv 0)) (zv 1) (fun _ _=>rfl)) (aH (cG hu (iF K (zv 2)) (zv 3) (fun _ _=>rfl)) ae)))) ae)))
   (aC (aX (i:=5) bQ.nd rfl (Or.inl rfl) (bM (tN K P w rfl Bc) (by rfl) T.XI PyProof.Rows.boot_set (aB (zv 4) ae)))
   (aC (aX (i:=6) bQ.nd rfl (Or.inl rfl) (cP (aD iJ ae)))
   (aC (aX (i:=7) bQ.nd rfl (Or.inl rfl) aG)
   (aC (iN PassesOwn.never (aL j8 (zv 7) (bK (bT K) (by rfl) T.uw PySem.boot_len (aB (zv 4) ae)) (cy _)) (aC (aX (i:=8) bQ.nd rfl (Or.inl rfl) (bA jI (hr.mono (by decide)) (aB (zv 0) (aB (zv 2) (aH (aY (aZ K) (zv 4) (zv 7) (fun _ _=>rfl)) ae)))))
   (aC (bN (aL pC (zv 8) iJ (cy _)) (aE (aQ (aT (aB (zv 4) (aP (bA sE (hr.mono (by decide)) (aB (zv 6) (aB (zv 7) ae))) ae))))) aV)
   (aC (fU PassesOwn.never rfl (lJ K (zv 8)) (aJ (i:=9) bQ.nd rfl (Or.inl rfl)) (aC (aX (i:=10) bQ.nd rfl (Or.inl rfl) (bA l8 (hr.mono (by decide)) (aB (zv 0) (aB (zv 2) (aH (aY (aZ K) (zv 4) (zv 7) (fun _ _=>rfl)) (aB (zv 9) ae))))))
   (aE (bN (aL (WO P w Bc) (zv 10) (zv 5) rfl) (aC (dR (WQ P w Bc (zv 5) (zv 10)))
   (aC (dR (lW K QH QJ QK bZ (zv 4) (aB (zv 10) ae)))
   (aE (dR (lW K QH QJ QK bZ (zv 6) (bD (aT (aB (zv 7) (aB (zv 9) ae))) ae)))))) aV))))
   (aE (Wy (i:=7) bQ.nd rfl (Or.inl rfl) aG Ry))))))
   (aE (aQ (aT (aB (zv 4) (aD iJ ae)))))))))),?_⟩
  generalize Dk:((1,endOf r1 x,endOf r2 y):bf)=fst at kA kB
  have hf:qa r1 r2 m1 m2 fst:=by rw [<- Dk];exact ⟨.inl rfl,nt.g1.stay hx,nt.g2.stay hy⟩
  refine hdn fun G9 hG=>?_;obtain ⟨dx,fs,d1,d3,d4,x0,x1,x2,x3,x4,x5,x6,x7⟩:=nt.v1.at_;refine hG ?_
  refine hdn fun G9 hG=>?_;obtain ⟨As,zd,JM,GO,GP,y0,y1,y2,y3,y4,y5,y6,y7⟩:=nt.v2.at_;refine hG ?_
  generalize hC:adr mg "Net"=C at x0 y0 cl na
  refine aO ⟨n1,C,dx,fs,_,rfl,x0,cl,na "rows" (by simp),x1,d1,_,rfl,x4 x hx,n2,C,As,zd,_,rfl,y0,cl,na "rows" (by simp),y1,JM,_,rfl,y4 y hy,(show 3<=sizeLine by decide),fun q hq=>⟨(show 1<=sizeLine by decide),fun L hL=>?_⟩⟩
  have s0:=(aa.upd hq (.tup [.int 1,.str (endOf r1 x),.str (endOf r2 y)])).trans (aa.upd hL (.lst [.ref q]))
  have GR:upd (upd H q (.tup [.int 1,.str (endOf r1 x),.str (endOf r2 y)])) L (.lst [.ref q]) q=some (.tup ((bq fst).map kV)):=by rw [<- Dk];exact aa.upd hL _ _ _ aA
  have Dl:upd (upd H q (.tup [.int 1,.str (endOf r1 x),.str (endOf r2 y)])) L (.lst [.ref q]) L=some (.lst [.ref q]):=aA
  have JP:H L=none:=(aa.upd hq _).free hL
  dsimp only
  generalize upd (upd H q (.tup [.int 1,.str (endOf r1 x),.str (endOf r2 y)])) L (.lst [.ref q])=H1 at s0 GR Dl ⊢
  refine aO ⟨L,[q],[bq fst],rfl,aj.of Dl,rfl,by simp,fun i h h'=>?_,fun S ao hS Gb Al Ex=>?_⟩
  ·obtain rfl:i=0:=by simp at h;omega
   exact .inl GR
  have s1:=s0.trans (aa.upd hS (ik P w S ao))
  have IC:H S=none:=s0.free hS
  have E5:L≠S:=fun z=>by rw [z,hS] at Dl;cases Dl
  have eq1:=aa.upd hS (ik P w S ao) _ _ GR
  have E8:=aa.upd hS (ik P w S ao) _ _ Dl
  have E9:upd H1 S (ik P w S ao) S=some (ik P w S ao):=aA
  have JQ:∀ p∈ao,au (upd H1 S (ik P w S ao)) p.2 (p.1.map kV):=fun p hp=>by
   have:p=(bq fst,q):=by simpa using Al p hp
   rw [this];exact .inl eq1
  dsimp only
  generalize upd H1 S (ik P w S ao)=H2 at s1 eq1 E8 E9 JQ ⊢
  refine aO ⟨(show 1<=sizeLine by decide),fun W hW=>?_⟩
  have s2:=aa.upd hW (.lst [V.ai])
  have Za:H W=none:=s1.free hW
  have E6:L≠W:=fun z=>by rw [z,hW] at E8;cases E8
  have E7:S≠W:=fun z=>by rw [z,hW] at E9;cases E9
  have b3:yz P w H (upd H2 W (.lst [V.ai])) L S W [(fst,none)]:=by
   refine ⟨⟨[.ref q],s2 _ _ E8,jm.nil.snoc (.inl (s2 _ _ eq1))⟩,⟨ao,⟨s2 _ _ E9,fun p hp=>(JQ p hp).same s2⟩,fun k=>?_,by simpa using Ex⟩,⟨[.ai],aA,⟨rfl,fun i h h'=>?_⟩⟩,s1.trans s2⟩
   ·rw [Gb];simp
   ·obtain rfl:i=0:=by simp at h;omega
    rfl
  dsimp only
  generalize upd H2 W (.lst [V.ai])=H3 at b3 ⊢
  clear s0 s1 s2 GR eq1 Dl E8 E9 JQ Gb Al Ex hq hL hS hW x0 y0 x1 y1 x2 y2 x3 y3 x4 y4 x5 y5 x6 y6 x7 y7
  refine oG ?_
  have i0:LI r1 r2 m1 m2 0 [(fst,none)]:=⟨by simp,fun c hc=>by rw [List.mem_singleton.mp hc];exact hf,fun k c j s hk e=>by
   have Zb:k=0:=by
    by_cases z:k=0
    ·exact z
    ·rw [QP (by simp;omega)] at hk;cases hk
   subst Zb
   have:c=(fst,none):=by simpa using hk.symm
   subst this
   exact absurd e (by simp),fun j c hj=>absurd hj (by omega)⟩
  refine bC (fun σ' H'=>∃ (v8 v9 v10:Option V) (i:Nat) (st:je),σ'=[some (.ref n1),some (.str x),some (.ref n2),some (.str y),some (.ref L),some (.ref S),some (.ref W),some (.int (i:Int)),v8,v9,v10]/\yz P w H H' L S W st/\LI r1 r2 m1 m2 i st/\st=jv r1 r2 fst i/\st.length=i) ?_ ?_
  ·intro nx dc
   refine ⟨fun mm σ' H'=>∃ (v8 v9 v10:Option V) (i:Nat) (st:je),σ'=[some (.ref n1),some (.str x),some (.ref n2),some (.str y),some (.ref L),some (.ref S),some (.ref W),some (.int (i:Int)),v8,v9,v10]/\yz P w H H' L S W st/\LI r1 r2 m1 m2 i st/\st=jv r1 r2 fst i/\i<=st.length/\mm=500 - i,
    ⟨500,none,none,none,0,[(fst,none)],rfl,b3,i0,rfl,by simp,rfl⟩,?_⟩
   rintro mm σ' H4 ⟨v8,v9,v10,i,st,rfl,bb,li,mz,EA,rfl⟩
   obtain ⟨xs,l1,l2⟩:=bb.l
   have ph:xs.length=st.length:=by have:=l2.1;simpa using this
   have few:=li.few nt.g1 nt.g2
   refine .inl ⟨_,.inl (aj.of l1),_,rfl,dz (fun c=>?_) (fun c=>?_)⟩
   ·have hi:i < st.length:=by have:=Qt c;omega
    refine ⟨fun σ' H'=>∃ (v8 v9 v10:Option V) (st:je),σ'=[some (.ref n1),some (.str x),some (.ref n2),some (.str y),some (.ref L),some (.ref S),some (.ref W),some (.int ((i+1:Nat):Int)),v8,v9,v10]/\yz P w H H' L S W st/\LI r1 r2 m1 m2 (i+1) st/\st=jv r1 r2 fst (i+1)/\i+1<=st.length,?_,?_⟩
    ·rintro σ' H' z0;refine hdn fun G9 hG=>?_;obtain ⟨v8,v9,v10,st,rfl,p1,p2,p3,p4⟩:=z0;refine hG ?_
     exact ⟨500 - (i+1),by omega,v8,v9,v10,i+1,st,rfl,p1,p2,p3,p4,rfl⟩
    have GS:st[i]? =some st[i]:=Qa hi
    have hok:=li.ok _ (Qj hi)
    obtain ⟨q,xq,rq⟩:=l2.2 i (by omega) (by simpa using hi)
    rw [Qr] at rq
    have hb1:jv r1 r2 fst (i+1)=match gh r1 r2 st[i].1 with | none=>st | some ss=>uu r1 r2 i st[i].1 st ss:=by
     show (match (jv r1 r2 fst i)[i]? with | none=>jv r1 r2 fst i | some c=>match gh r1 r2 c.1 with | none=>jv r1 r2 fst i | some ss=>uu r1 r2 i c.1 (jv r1 r2 fst i) ss)=_
     rw [<- mz,GS]
    have C8:xs[i]? =some (.ref q):=by rw [Qa (by omega),xq]
    generalize t_:st[i]=c0 at GS hok rq hb1
    have Zc:=nt.same bb.sm
    refine aO ⟨_,_,.inl (aj.of l1),fO C8,n1,n2,q,r1,r2,m1,m2,c0.1,rfl,Zc,rq,hok.a,hok.b,fun e H5 s5=>?_,fun ss e R us H5 s5 eR sv=>?_⟩
    ·have b5:=bb.same s5
     obtain ⟨Zd,Ze,Zf⟩:=b5.l
     obtain ⟨Zg,OG,Zh⟩:=b5.w
     refine ⟨_,rfl,w_ ⟨W,i,Zg,st.map (·.2),rfl,OG,Zh,li.WV,by simpa using hi,by simp;omega,fun R us H6 s6 eR sv=>⟨(show 2<=sizeLine by decide),fun r hr=>?_⟩⟩⟩
     have s7:=s6.trans (aa.upd hr (.tup [.ref L,.ref R]))
     exact kB r L R Zd us i st c0 _ mz JP (b5.sm.trans s7) aA (s7 _ _ Ze) (Zf.same s7) (aa.upd hr _ _ _ eR) (sv.same (aa.upd hr _)) li GS e
    refine ⟨_,rfl,ig ?_⟩
    have b5:=bb.same s5
    rw [e] at hb1
    have ssl:=vG nt.g1 nt.g2 hok.a hok.b e
    have Dm:=sv.len
    refine dJ ?_
    refine bC (fun σ' H'=>∃ (v8 v9 v10:Option V) (st':je),σ'=[some (.ref n1),some (.str x),some (.ref n2),some (.str y),some (.ref L),some (.ref S),some (.ref W),some (.int (i:Int)),v8,v9,v10]/\yz P w H H' L S W st'/\LI r1 r2 m1 m2 (i+1) st'/\st'=uu r1 r2 i c0.1 st ss/\i < st'.length) ?_ ?_
    ·intro ku v_
     refine Or.inr ⟨⟨us,af.of eR⟩,?_⟩
     refine cZ (cM us) (fun j σ' H'=>∃ (v9 v10:Option V) (st':je),σ'=[some (.ref n1),some (.str x),some (.ref n2),some (.str y),some (.ref L),some (.ref S),some (.ref W),some (.int (i:Int)),some (.ref R),v9,v10]/\yz P w H H' L S W st'/\LI r1 r2 m1 m2 i st'/\st'=uu r1 r2 i c0.1 st (ss.take j)/\i < st'.length/\st'[i]? =some c0/\(∀ s∈ss.take j,gg r1 r2 c0.1 s∈st'.map (·.1))/\H' R=some (.tup us)/\SV H' us ss)
      ⟨_,_,st,rfl,b5,li,rfl,hi,GS,fun s hs=>absurd hs (by simp),eR,sv⟩ (by rintro j σ' H' _ ⟨_,_,_,_,_,_,_,_,_,_,e,_⟩;exact af.of e) ?_ ?_
     ·rintro j σ' H6 hj z0;refine hdn fun G9 hG=>?_;obtain ⟨w9,GU,st',rfl,p1,p2,p3,p4,p5,p6,p7,p8⟩:=z0;refine hG ?_
      have Ey:j < ss.length:=by omega
      obtain ⟨sb,g1,g2⟩:=p8.at_ j hj Ey
      have eg:us.getD j .ai=.ref sb:=by rw [Qb,Qa hj,g1];rfl
      rw [eg]
      have vp:ss.take (j+1)=ss.take j++[ss[j]]:=by rw [Qs,Qa Ey];rfl
      have Ez:ss[j]∈ss:=Qj Ey
      obtain ⟨i1,i2⟩:=vH e Ez
      have Dn:=hok.behind nt.g1 nt.g2 i1 i2
      rw [vp]
      generalize hsj:ss[j]=sj at g2 Ez i1 i2 Dn
      obtain ⟨Zi,Zj,OH⟩:=p1.l
      have hx6:Zi.length=st'.length:=by have:=OH.1;simpa using this
      obtain ⟨q6,Zk,JR⟩:=OH.2 i (by omega) (by simpa using p4)
      rw [Qr] at JR
      have ec:st'[i]=c0:=by rw [Qa p4] at p5;exact QD p5
      rw [ec] at JR
      have Zl:=nt.same p1.sm
      refine aO ⟨_,_,.inl (aj.of Zj),fO (by rw [Qa (by omega),Zk]),n1,n2,q6,sb,r1,r2,m1,m2,c0.1,sj,rfl,Zl,kf.same p1.sm,JR,g2,hok.a,hok.b,i1,i2,fun r H7 s7 er=>?_⟩
      have b7:=p1.same s7
      have OI:=s7 _ _ p7
      have OJ:=p8.same s7
      have Zm:=g2.same s7
      obtain ⟨ao,sa,sk,sl⟩:=b7.s
      have abu:=p2.few nt.g1 nt.g2
      refine ⟨r,S,bq (gg r1 r2 c0.1 sj),ao,rfl,rfl,.inl er,sa,fun bo GV=>⟨_,rfl,dz (fun c=>?_) (fun c=>?_)⟩⟩
      ·have xu:gg r1 r2 c0.1 sj ∉ st'.map (·.1):=fun hm=>by
        have:bo=true:=GV.mpr ((sk _).mpr (by
         obtain ⟨c',jj,e'⟩:=List.mem_map.mp hm
         exact List.mem_map.mpr ⟨c',jj,by rw [e']⟩))
        rw [this] at c;cases c
       have Zn:bq (gg r1 r2 c0.1 sj) ∉ ao.map (·.1):=fun hm=>by
        obtain ⟨c',jj,e'⟩:=List.mem_map.mp ((sk _).mp hm)
        exact xu (List.mem_map.mpr ⟨c',jj,jK e'⟩)
       have hadd:=o6 r1 r2 i c0.1 st (ss.take j) sj
       rw [<- p3,if_neg xu] at hadd
       have htn:=Dn
       have BX:gg r1 r2 c0.1 sj=gg r1 r2 c0.1 sj:=rfl
       obtain ⟨JS,Dp,OL⟩:=b7.w
       obtain ⟨GX,OM,ON⟩:=b7.l
       have hx7:GX.length=st'.length:=by have:=ON.1;simpa using this
       have ht7:JS.length=st'.length:=by have:=OL.len;simpa using this
       refine ⟨S,rfl,⟨ao,sa⟩,r,_,ao,rfl,.inl er,sa,by omega,fun h=>absurd h Zn,fun _=>?_⟩
       have OO:upd H7 S (ik P w S (ao++[(bq (gg r1 r2 c0.1 sj),r)])) L=some (.lst GX):=by rw [aF E5];exact OM
       refine ⟨.inl ⟨rfl,_,aj.of OO⟩,L,GX,.ref r,rfl,rfl,OO,by omega,?_⟩
       have OP:upd (upd H7 S (ik P w S (ao++[(bq (gg r1 r2 c0.1 sj),r)]))) L (.lst (GX++[.ref r])) W=some (.lst JS):=by rw [aF E6.symm,aF E7.symm];exact Dp
       refine ⟨.inl ⟨rfl,_,aj.of OP⟩,(show 2<=sizeLine by decide),fun T8 Ba=>?_⟩
       obtain ⟨c1,c2,c3⟩:=Y6 (i:=i) OM ON sa sk sl Dp OL b7.sm JP IC Za E5 E6 E7 er Zm Ba
       refine ⟨W,JS,.ref T8,rfl,rfl,aa.upd Ba _ _ _ OP,by omega,_,_,_,rfl,c1,p2.snoc p4 Dn xu p5 e Ez rfl,hadd.symm,by simp;omega,?_,?_,c2 _ _ OI,OJ.keep c3⟩
       ·rw [Qg p4];exact p5
       ·intro s hs
        rw [Qm]
        rcases List.mem_append.mp hs with h | h
        ·exact List.mem_append.mpr (.inl (p6 s h))
        ·rw [List.mem_singleton.mp h];exact List.mem_append.mpr (.inr (by simp))
      ·have gm:gg r1 r2 c0.1 sj∈st'.map (·.1):=by
        have Zo:bo=true:=by cases bo<;>first | rfl | cases c
        obtain ⟨c',jj,e'⟩:=List.mem_map.mp ((sk _).mp (GV.mp Zo))
        exact List.mem_map.mpr ⟨c',jj,jK e'⟩
       have hadd:=o6 r1 r2 i c0.1 st (ss.take j) sj
       rw [<- p3,if_pos gm] at hadd
       refine ⟨_,_,st',rfl,b7,p2,hadd.symm,p4,p5,fun s hs=>?_,OI,OJ⟩
       rcases List.mem_append.mp hs with h | h
       ·exact p6 s h
       ·rw [List.mem_singleton.mp h];exact gm
     ·rintro σ' H6 z0;refine hdn fun G9 hG=>?_;obtain ⟨w9,GU,st',rfl,p1,p2,p3,p4,p5,p6,p7,p8⟩:=z0;refine hG ?_
      rw [Dm,Qo] at p3 p6
      refine v_ _ _ ⟨_,w9,GU,st',rfl,p1,⟨p2.nd,p2.ok,fun k c j s hk hc=>?_,fun j c hj hc=>?_⟩,p3,p4⟩
      ·obtain ⟨a1,a2,a3⟩:=p2.tr k c j s hk hc
       exact ⟨a1,by omega,a3⟩
      ·by_cases Zp:j=i
       ·subst Zp
        rw [p5] at hc
        cases hc
        exact ⟨ss,e,p6⟩
       ·exact p2.cl j c (by omega) hc
    ·rintro σ' H6 z0;refine hdn fun G9 hG=>?_;obtain ⟨w8,w9,GU,st',rfl,p1,p2,p3,p4⟩:=z0;refine hG ?_
     exact ⟨.int (i:Int),rfl,(i:Int),1,rfl,rfl,w8,w9,GU,st',rfl,p1,p2,by rw [hb1];exact p3,p4⟩
   ·have hi:st.length=i:=by have:=of_decide_eq_false c;omega
    exact dc _ _ ⟨v8,v9,v10,i,st,rfl,bb,li,mz,hi⟩
  ·rintro σ' H4 z0;refine hdn fun G9 hG=>?_;obtain ⟨v8,v9,v10,i,st,rfl,bb,li,mz,hi⟩:=z0;refine hG ?_
   obtain ⟨xs,l1,l2⟩:=bb.l
   refine ⟨(show 2<=sizeLine by decide),fun r hr=>?_⟩
   have s5:=aa.upd hr (.tup [.ref L,.ai])
   exact kA r L xs i st _ mz JP (bb.sm.trans s5) aA (s5 _ _ l1) (l2.same s5) li hi
def OQ (mg:Str->Option Value):Sp:=fun vs H Q _=>∃ (a b:Addr) (xs ys:List V) (r1 r2:List aq) (m1 m2 ws fj:List Str) (x y:Str),vs=[.ref a,.str x,.ref b,.str y]/\RT H a xs r1 m1 ws/\RT H b ys r2 m2 fj/\(∀ z∈ws,Wd z)/\(∀ z∈fj,Wd z)/\Kn mg H "FROM" [.str "from"]/\Kn mg H "TO" [.str "to"]/\x∈m1/\y∈m2/\
 (∀ (r L:Addr) (xs:List V) (i:Nat) (st:je) (H':Hp),st=jv r1 r2 (1,endOf r1 x,endOf r2 y) i->H L=none->aa H H'->H' r=some (.tup [.str "within",.ref L])->H' L=some (.lst xs)->jm H' xs (st.map fun c=>bq c.1)->LI r1 r2 m1 m2 i st->st.length=i->Q (.ref r) H')/\
 ∀ (r R:Addr) (us:List V) (i:Nat) (st:je) (c:bf×Option (Nat×List Str)) (H':Hp),st=jv r1 r2 (1,endOf r1 x,endOf r2 y) i->aa H H'->H' r=some (.tup [.str "beyond",.ref R])->H' R=some (.tup us)->SV H' us (fi (st.map (·.2)) i i)->LI r1 r2 m1 m2 i st->st[i]? =some c->gh r1 r2 c.1=none->Q (.ref r) H'
theorem yS (T:Txt K mg w):a_ P w K mg base 6 "within" ["T","x","S","y"] (OQ mg):=by
 have E_:Ei P w K mg base 4 "Net" (adr mg "Net") ["self","T"] (Jv mg):=zH T
 have iE:a_ P w K mg base 3 "looked_at" ["left","x","right","y"] (JO K mg):=jD T
 refine T.XM.fk jX (fun vs H Q E h=>?_) (fun f bc A outer s H vs Q E hr h=>?_)
 ·refine hdn fun G9 hG=>?_;obtain ⟨a,b,xs,ys,r1,r2,m1,m2,ws,fj,x,y,rfl,_⟩:=h;refine hG ?_
  rfl
 ·refine hdn fun G9 hG=>?_;obtain ⟨a,b,xs,ys,r1,r2,m1,m2,ws,fj,x,y,rfl,rt,dh,hw,ji,kf,kt,hx,hy,kA,kB⟩:=h;refine hG ?_
  have hu:=aU hr
  have bz:=Qx (aU hr)
  refine ⟨_,(aC (fF (bA iE (hr.mono (by decide)) (aP (oW E_ (hr.mono (by decide)) (aB (zv 0) ae)) (aB (zv 1) (aP (oW E_ (hr.mono (by decide)) (aB (zv 2) ae)) (aB (zv 3) ae))))) (bO K (n:=2) rfl (aI (aJ (i:=4) jX.nd rfl (Or.inl rfl)) (aI (aJ (i:=5) jX.nd rfl (Or.inl rfl)) bE))))
   (aC (bN (aL pC (zv 5) iJ (cy _)) (aE (aQ (aT (aD aS (aB (zv 4) ae))))) aV)
   (aE (aQ (aT (aD aS (aB (zv 5) ae))))))),?_⟩
  refine fun n dn hn JT ne=>?_
  have s0:aa H (upd (upd H dn (.own n)) n (.ins (adr mg "Net") dn [])):=(aa.upd JT _).trans (aa.upd (by rw [aF ne.symm];exact hn) _)
  refine ⟨n,dn,a,xs,r1,m1,ws,rfl,aA,rt.tk s0.ts,hw,kf.same s0,kt.same s0,fun H2 JU sx=>⟨rfl,?_⟩⟩
  have s2:aa H H2:=fun b o e=>sx b o (fun z=>by rw [z,hn] at e;cases e) (s0 b o e)
  have nv:=JU.Gm (K:=K) (rt.gw hw)
  refine fun n' Cj wk JV ne'=>?_
  have Ay:aa H2 (upd (upd H2 Cj (.own n')) n' (.ins (adr mg "Net") Cj [])):=(aa.upd JV _).trans (aa.upd (by rw [aF ne'.symm];exact wk) _)
  refine ⟨n',Cj,b,ys,r2,m2,fj,rfl,aA,dh.tk (s2.trans Ay).ts,ji,kf.same (s2.trans Ay),kt.same (s2.trans Ay),fun H3 JW Cc=>⟨rfl,?_⟩⟩
  have s3:aa H2 H3:=fun b o e=>Cc b o (fun z=>by rw [z,wk] at e;cases e) (Ay b o e)
  have JX:=JW.Gm (K:=K) (dh.gw ji)
  have Bd:=s2.trans s3
  refine ⟨n,n',r1,r2,m1,m2,x,y,rfl,⟨nv.same s3,JX,rt.gw hw,dh.gw ji⟩,kf.same Bd,hx,hy,fun r L xs i st H4 mz hL s4 e1 e2 ks li hl=>?_,fun r L R xs us i st c H4 mz hL s4 e1 e2 ks e3 sv li hc hn=>?_⟩
  ·refine cC e1 ⟨_,rfl,w_ ⟨(show 2<=sizeLine by decide),fun q hq=>?_⟩⟩
   have s5:=aa.upd hq (.tup [.str "within",.ref L])
   exact kA q L xs i st _ mz (Bd.free hL) (Bd.trans (s4.trans s5)) aA (s5 _ _ e2) (ks.same s5) li hl
  ·refine cC e1 ⟨_,rfl,ig ⟨(show 2<=sizeLine by decide),fun q hq=>?_⟩⟩
   have s5:=aa.upd hq (.tup [.str "beyond",.ref R])
   exact kB q R us i st c _ mz (Bd.trans (s4.trans s5)) aA (s5 _ _ e3) (sv.same s5) li hc hn
def JY (r1 r2:List aq) (m1 m2:List Str) (eu:List (List Key)) (t:bf):Prop:=qa r1 r2 m1 m2 t/\∃ ss,gh r1 r2 t=some ss/\∀ s∈ss,bq (gg r1 r2 t s)∈eu
def OR (r1 r2:List aq) (m1 m2:List Str) (f:bf) (ts:List bf):Prop:=f∈ts/\∀ t∈ts,JY r1 r2 m1 m2 (ts.map bq) t
def JZ:Sp:=fun vs H Q _=>∃ (a b e:Addr) (xs ys:List V) (r1 r2:List aq) (m1 m2 ws fj:List Str) (t:bf),vs=[.ref a,.ref b,.ref e]/\RT H a xs r1 m1 ws/\RT H b ys r2 m2 fj/\(∀ z∈ws,Wd z)/\(∀ z∈fj,Wd z)/\au H e ((bq t).map kV)/\iy r1 m1 t.2.1/\iy r2 m2 t.2.2/\
 ∀ (q:Addr) (v1 v2:V) (H':Hp),aa H H'->H' q=some (.tup [v1,v2])->HV H' v1 (if t.1=1 then ak r1 t.2.1 else ak r2 t.2.2)->HV H' v2 (if t.1=1 then ak r2 t.2.2 else ak r1 t.2.1)->Q (.ref q) H'
theorem hU (T:Txt K mg w):a_ P w K mg base 3 "_law_low_high" ["_law_told","_law_other","_law_entry"] JZ:=by
 have bV:a_ P w K mg base 2 "_law_head_here" ["_law_told","_law_name"] Jo:=gA T
 refine T.mU.fk cS (fun vs H Q E h=>?_) (fun f bc A outer s H vs Q E hr h=>?_)
 ·refine hdn fun G9 hG=>?_;obtain ⟨a,b,e,xs,ys,r1,r2,m1,m2,ws,fj,t,rfl,_⟩:=h;refine hG ?_
  rfl
 ·refine hdn fun G9 hG=>?_;obtain ⟨a,b,e,xs,ys,r1,r2,m1,m2,ws,fj,t,rfl,rt,dh,hw,ji,he,ha,hb,k⟩:=h;refine hG ?_
  have hu:=aU hr
  have bz:=Qx (aU hr)
  obtain ⟨rs,g,nm,rl,lu⟩:=rt.good hw
  have hm:t.2.1∈rs.map (·.1):=by rw [nm];exact rt.nm.mem_iff.mpr ha.1
  obtain ⟨jo,g2,Fb,Fc,Fd⟩:=dh.good ji
  have hm2:t.2.2∈jo.map (·.1):=by rw [Fb];exact dh.nm.mem_iff.mpr hb.1
  have OS:fg (gr r1) rs.length t.2.1=t.2.1:=by rw [rl];exact ha.2
  have OT:fg (gr r2) jo.length t.2.2=t.2.2:=by rw [Fc];exact hb.2
  refine ⟨_,(aC (fF (zv 2) (bO K (n:=3) rfl (aI (aJ (i:=3) cS.nd rfl (Or.inl rfl)) (aI (aJ (i:=4) cS.nd rfl (Or.inl rfl)) (aI (aJ (i:=5) cS.nd rfl (Or.inl rfl)) bE)))))
   (aC (bN (aL (bP bz) (zv 3) aG (cy _)) (aE (aQ (aT (aP (bA bV (hr.mono (by decide)) (aB (zv 0) (aB (zv 4) ae))) (aP (bA bV (hr.mono (by decide)) (aB (zv 1) (aB (zv 5) ae))) ae))))) aV)
   (aE (aQ (aT (aP (bA bV (hr.mono (by decide)) (aB (zv 1) (aB (zv 5) ae))) (aP (bA bV (hr.mono (by decide)) (aB (zv 0) (aB (zv 4) ae))) ae))))))),?_⟩
  refine qP (af.p_ he) ?_
  refine ⟨rfl,_,rfl,MP (fun d=>?_) (fun d=>?_)⟩
  ·rw [if_pos d,if_pos d] at k
   refine ⟨a,xs,rs,_,_,t.2.1,rfl,g,hm,fun v H1 s1 hv=>?_⟩
   refine ⟨b,ys,jo,_,_,t.2.2,rfl,g2.ts s1.ts,hm2,fun v2 H2 s2 hv2=>⟨(show 2<=sizeLine by decide),fun q hq=>?_⟩⟩
   rw [OS] at hv
   rw [OT] at hv2
   have s3:=aa.upd hq (.tup [v,v2])
   exact k q v v2 _ ((s1.trans s2).trans s3) aA ((lu _ v ha.1 hv).same ((s1.trans s2).trans s3)) ((Fd _ v2 hb.1 hv2).same ((s1.trans s2).trans s3))
  ·rw [if_neg d,if_neg d] at k
   refine ⟨b,ys,jo,_,_,t.2.2,rfl,g2,hm2,fun v2 H1 s1 hv2=>?_⟩
   refine ⟨a,xs,rs,_,_,t.2.1,rfl,g.ts s1.ts,hm,fun v H2 s2 hv=>⟨(show 2<=sizeLine by decide),fun q hq=>?_⟩⟩
   rw [OS] at hv
   rw [OT] at hv2
   have s3:=aa.upd hq (.tup [v2,v])
   exact k q v2 v _ ((s1.trans s2).trans s3) aA ((Fd _ v2 hb.1 hv2).same ((s1.trans s2).trans s3)) ((lu _ v ha.1 hv).same ((s1.trans s2).trans s3))
def OU:Sp:=fun vs H Q _=>∃ (v:V) (z:Str) (ps:List (Str×Str)),vs=[v]/\HV H v (.prs z ps)/\ps.length<=10/\∀ (L:Addr) (H':Hp),H L=none->aa H H'->H' L=some (.lst ((ps.map (·.1)).map V.str))->Q (.ref L) H'
theorem lF (T:Txt K mg w):a_ P w K mg base 1 "_law_words_of" ["_law_here"] OU:=by
 refine T.m8.fk lI (fun vs H Q E h=>?_) (fun f bc A outer s H vs Q E hr h=>?_)
 ·obtain ⟨v,z,ps,rfl,_⟩:=h
  rfl
 ·obtain ⟨v,z,ps,rfl,hv,hl,k⟩:=h
  have hsz:sizeLine=16777216:=QL
  cases hv with
  | @prs b c _ xs _ e0 ec hp=>
  have ph:=hp.len
  refine ⟨_,(aE (aQ (nC (own:=["_law_word","_law_name"]) (idx:=[]) (N':=["_law_word","_law_name"]) (dH (bh d7) (["_law_here"]:List Str) (by decide+kernel)) rfl (lJ K (aY (aZ K) (zv 0) aG (fun _ _=>rfl))) (fun _ _ _ _ _ _=>(bO K (n:=2) rfl (aI (aJ (i:=0) (show List.Nodup (["_law_word","_law_name"]:List Str) by decide+kernel) rfl (Or.inl rfl)) (aI (aJ (i:=1) (show List.Nodup (["_law_word","_law_name"]:List Str) by decide+kernel) rfl (Or.inl rfl)) bE)))) (fun _ _ _ _ _ _=>eA) (fun _ _ _ _ _ _=>(zv 0))))),?_⟩
  refine ⟨_,.ref c,.inr (af.of e0),rfl,.inr ⟨⟨xs,af.of ec⟩,fun L hL=>?_⟩⟩
  refine hV (cM xs) (fun i τ H'=>∃ (v0 v1:Option V),τ=[v0,v1]/\H' L=some (.lst (((ps.take i).map (·.1)).map V.str))/\aa H H') ⟨none,none,rfl,aA,aa.upd hL _⟩ (by rintro i τ H' _ ⟨_,_,_,_,s⟩;exact af.of (s _ _ ec)) ?_ ?_
  ·rintro i τ H1 hi ⟨v0,v1,rfl,q1,q2⟩
   have gy:i < ps.length:=by omega
   obtain ⟨d0,w1,w2⟩:=hp.at_ i hi gy
   have eg:xs.getD i .ai=.ref d0:=by rw [Qb,Qa hi,w1];rfl
   rw [eg]
   have vp:ps.take (i+1)=ps.take i++[ps[i]]:=by rw [Qs,Qa gy];rfl
   refine cC (q2 _ _ w2) ⟨_,q1,by simp;omega,_,_,rfl,?_,q2.put hL⟩
   rw [vp,Qm,Qm];exact aA
  ·rintro τ H1 ⟨v0,v1,rfl,q1,q2⟩
   rw [ph,Qo] at q1
   exact k L H1 hL q2 q1
def ie (lo up:Hd):Str:=if up.be="all"\/lo.be="none" then "settled" else match fh lo up with
 | none=>"bad"
 | some _=>"open"
theorem Zq {s:Str} {ps qs:List (Str×Str)}:(∀ z∈stH (.prs s ps),z∈stH (.prs s qs))↔∀ z∈ps.map (·.1),z∈qs.map (·.1):=by
 have e:∀ ps:List (Str×Str),stH (.prs s ps)=(ps.map (·.1)).map fun z=>([if s="box" then "part" else "case",z]:List Str):=fun ps=>by simp [stH,Hd.ck,Qn,QB]
 rw [e,e]
 constructor
 ·intro h z hz
  obtain ⟨z',h1,h2⟩:=List.mem_map.mp (h _ (List.mem_map.mpr ⟨z,hz,rfl⟩))
  have:z'=z:=by simpa using h2
  rw [<- this];exact h1
 ·intro h z hz
  obtain ⟨z',h1,rfl⟩:=List.mem_map.mp hz
  exact List.mem_map.mpr ⟨z',h z' h1,rfl⟩
def J7:Sp:=fun vs H Q _=>∃ (v1 v2:V) (h1 h2:Hd) (m1 m2:List Str),vs=[v1,v2]/\HV H v1 h1/\HV H v2 h2/\h1.ok m1/\h2.ok m2/\h1.nx=none/\h2.nx=none/\∀ H',aa H H'->Q (.str (ie h1 h2)) H'
theorem wB {h:Hd} (ok:h.ok ns) (hs:h.be="box"\/h.be="pick"):∃ ps,h=.prs h.be ps/\ps.length<=10:=by
 cases h with
 | one s=>rcases ok with rfl | rfl<;>(rcases hs with hs | hs<;>exact absurd hs (by decide+kernel))
 | as y=>rcases hs with hs | hs<;>exact absurd (show ("as":Str)=_ from hs) (by decide+kernel)
 | way x y=>rcases hs with hs | hs<;>exact absurd (show ("way":Str)=_ from hs) (by decide+kernel)
 | prs s ps=>exact ⟨ps,rfl,ok.2.2.2⟩
theorem lL {h:Hd} (ok:h.ok ns) (hs:¬(h.be="box"\/h.be="pick")) (h1:h.be≠"all") (h2:h.be≠"none") (h3:h.nx=none):stH h=([["from"],["to"]]:List (List Str))/\h.be="way":=by
 cases h with
 | one s=>rcases ok with rfl | rfl<;>first | exact absurd rfl h1 | exact absurd rfl h2
 | as y=>cases h3
 | way x y=>exact ⟨rfl,rfl⟩
 | prs s ps=>exact absurd ok.1 hs
set_option maxHeartbeats 1000000 in
theorem gZ (T:Txt K mg w):a_ P w K mg base 2 "_law_state_of" ["_law_low","_law_high"] J7:=by
 have iH:a_ P w K mg base 1 "_law_words_of" ["_law_here"] OU:=lF T
 refine T.mE.fk dW (fun vs H Q E h=>?_) (fun f bc A outer s H vs Q E hr h=>?_)
 ·refine hdn fun G9 hG=>?_;obtain ⟨v1,v2,h1,h2,m1,m2,rfl,_⟩:=h;refine hG ?_
  rfl
 ·refine hdn fun G9 hG=>?_;obtain ⟨v1,v2,h1,h2,m1,m2,rfl,hv1,hv2,Az,AA,ku,Be,k⟩:=h;refine hG ?_
  have hu:=aU hr
  have bz:=Qx (aU hr)
  have hsz:sizeLine=16777216:=QL
  obtain ⟨b1,OV,rfl,e1⟩:=hv1.be
  obtain ⟨b2,Df,rfl,e2⟩:=hv2.be
  refine ⟨_,(aC (bN (qA (aL (bP bz) (aY (aZ K) (zv 1) aG (fun _ _=>rfl)) aS (cy _)) (mR (aL (bP bz) (aY (aZ K) (zv 0) aG (fun _ _=>rfl)) aS (cy _)))).pt (aE (aQ aS)) aV)
   (aC (bN (aL (gW bz) (aY (aZ K) (zv 1) aG (fun _ _=>rfl)) (aY (aZ K) (zv 0) aG (fun _ _=>rfl)) (cy _)) (aE (aQ aS)) aV)
   (aC (bN (aL (bP bz) (aY (aZ K) (zv 0) aG (fun _ _=>rfl)) aS (cy _)) (aE (LZ (i:=0) (j:=1) rfl dW.nd rfl rfl (by decide) rfl rfl (aB (zv 1) (aB (zv 0) ae)) rfl)) aV)
   (aC (bN (aL (kF K) (aY (aZ K) (zv 0) aG (fun _ _=>rfl)) (aT (aD aS (aD aS ae))) rfl) (aC (aX (i:=2) dW.nd rfl (Or.inr rfl) (bA iH (hr.mono (by decide)) (aB (zv 1) ae)))
   (aE (bN (kX (bK (wT K rfl) (by rfl) T.XJ PyProof.Rows.boot_any (dQ (nC (own:=["_law_word"]) (idx:=[2]) (N':=["_law_word","_law_all"]) (dH (bh d8) (["_law_low","_law_high","_law_all"]:List Str) (by decide+kernel)) rfl (lJ K (bA iH (hr.mono (by decide)) (aB (zv 0) ae))) (fun _ _ _ _ _ _=>(aJ (i:=0) (show List.Nodup (["_law_word","_law_all"]:List Str) by decide+kernel) rfl (Or.inl rfl))) (fun _ _ _ _ _ _=>eA) (fun _ _ _ _ _ _=>(mY (oE K) (zv 0) (zv 1) rfl))) ae))) (aE (aQ aS)) aV))) aV)
   (aE (aQ aS)))))),?_⟩
  refine ⟨_,_,.inr (af.of e2),aK _ _,rfl,_,rfl,yr (fun a=>?_) (fun a=>?_)⟩
  ·have:ie h1 h2="settled":=by unfold ie;rw [if_pos (.inl a)]
   rw [<- this];exact k H (aa.refl _)
  refine ⟨_,_,.inr (af.of e1),aK _ _,rfl,_,rfl,yr (fun b=>?_) (fun b=>?_)⟩
  ·have:ie h1 h2="settled":=by unfold ie;rw [if_pos (.inr b)]
   rw [<- this];exact k H (aa.refl _)
  have n0:¬(h2.be="all"\/h1.be="none"):=fun h=>h.elim a b
  have es:ie h1 h2=match fh h1 h2 with | none=>"bad" | some _=>"open":=by unfold ie;rw [if_neg n0]
  refine ⟨_,_,.inr (af.of e2),aK _ _,_,_,.inr (af.of e1),aK _ _,rfl,_,rfl,IK (fun c=>?_) (fun c=>?_)⟩
  ·have:ie h1 h2="bad":=by
    have eb:fh h1 h2=none:=by unfold fh;rw [if_neg n0,if_pos (fun z=>c z.symm)]
    rw [es,eb]
   rw [<- this];exact k H (aa.refl _)
  have OW:h1.be≠"all":=by rw [<- c];exact a
  refine dJ ?_
  refine bC (fun σ' H'=>∃ (c1 c2:Addr) (g1 g2:Hd) (n1 n2:List Str) (w1 w2:List V),σ'=[some (.ref c1),some (.ref c2),none]/\H'=H/\HV H (.ref c1) g1/\HV H (.ref c2) g2/\g1.ok n1/\g2.ok n2/\g1.nx=none/\g2.nx=none/\H c1=some (.tup (.str g1.be::w1))/\H c2=some (.tup (.str g2.be::w2))/\g1.be=h1.be/\g2.be=h1.be/\fh h1 h2=if ∀ s∈stH g1,s∈stH g2 then some (stH g1) else none) ?_ ?_
  ·intro nx dc
   refine ⟨_,_,.inr (af.of e1),aK _ _,rfl,_,rfl,yr (fun d=>?_) (fun d=>?_)⟩
   ·refine ⟨_,_,rfl,dc _ _ ⟨b2,b1,h2,h1,m2,m1,Df,OV,rfl,rfl,hv2,hv1,AA,Az,Be,ku,e2,e1,c,rfl,?_⟩⟩
    unfold fh;rw [if_neg n0,if_neg (fun h=>h c.symm),if_neg (by rw [d];decide+kernel)]
   ·refine dc _ _ ⟨b1,b2,h1,h2,m1,m2,OV,Df,rfl,rfl,hv1,hv2,Az,AA,ku,Be,e1,e2,rfl,c,?_⟩
    unfold fh;rw [if_neg n0,if_neg (fun h=>h c.symm)]
    by_cases hp:h1.be="pick"
    ·rw [if_pos hp]
    ·rw [if_neg hp]
     have nb:¬(h1.be="box"\/h1.be="pick"):=fun h=>h.elim d hp
     obtain ⟨w1,_⟩:=lL Az nb (by rw [<- c];exact a) b ku
     obtain ⟨w2,_⟩:=lL AA (by rw [c];exact nb) a (by rw [c];exact b) Be
     rw [w1,w2]
  ·rintro σ' H1 ⟨c1,c2,g1,g2,n1,n2,w1,w2,rfl,rfl,Zr,Zs,o1,o2,Zt,yu,f1,f2,z1,z2,hb⟩
   refine bC (fun σ' H'=>aa H1 H'/\fh h1 h2≠none) ?_ ?_
   ·intro nx dc
    refine ⟨_,_,.inr (af.of f1),aK _ _,(show 2<=sizeLine by decide),fun p hp=>⟨_,.inr (af.of aA),rfl,rfl,_,rfl,?_⟩⟩
    have s2:=aa.upd hp (.tup [.str "box",.str "pick"])
    generalize upd H1 p (.tup [.str "box",.str "pick"])=H2 at s2 ⊢
    have ew:(false^^r_ (.str g1.be) [V.str "box",V.str "pick"])=decide (g1.be∈(["box","pick"]:List Str)):=by
     rw [QE,show ([V.str "box",V.str "pick"]:List V)=(["box","pick"]:List Str).map V.str from rfl,fI]
    rw [ew]
    refine dz (fun c=>?_) (fun c=>?_)
    ·have hm:g1.be="box"\/g1.be="pick":=by have:=Qt c;simpa using this
     obtain ⟨ps,p1,p2⟩:=wB o1 hm
     obtain ⟨qs,q1,q2⟩:=wB o2 (by rw [z2,<- z1];exact hm)
     have OX:=Zr.same s2
     have OY:=Zs.same s2
     rw [p1] at OX
     rw [q1] at OY
     have uz:(∀ s∈stH g1,s∈stH g2)↔∀ z∈ps.map (·.1),z∈qs.map (·.1):=by
      rw [p1,q1,z2,<- z1];exact Zq
     refine aO ⟨_,_,qs,rfl,OY,q2,fun L H3 hL s3 eL=>?_⟩
     refine ⟨_,_,ps,rfl,OX.same s3,p2,fun M H4 hM s4 eM=>.inl ⟨⟨_,aj.of eM⟩,fun D hD=>?_⟩⟩
     have Zu:=s4 _ _ eL
     refine hV (cH _) (fun i τ H'=>∃ (v0:Option V) (bs:List Bool),τ=[v0,some (.ref L)]/\H' D=some (.lst (bs.map V.bl))/\bs=((ps.map (·.1)).take i).map (fun z=> !decide (z∈qs.map (·.1)))/\aa H4 H') ⟨none,[],rfl,aA,by simp,aa.upd hD _⟩ (by rintro i τ H' _ ⟨_,_,_,_,_,s⟩;exact aj.of (s _ _ eM)) ?_ ?_
     ·rintro i τ H5 hi ⟨v0,bs,rfl,r1,r2,r3⟩
      have mq:i < (ps.map (·.1)).length:=by simpa using hi
      have eg:((ps.map (·.1)).map V.str).getD i .ai=.str (ps.map (·.1))[i]:=by rw [Qb,Qq,Qa mq];rfl
      rw [eg]
      have vp:(ps.map (·.1)).take (i+1)=(ps.map (·.1)).take i++[(ps.map (·.1))[i]]:=by rw [Qs,Qa mq];rfl
      have Nl:bs.length<=i:=by rw [r2];simp;omega
      have EA:i<=10:=by simp at mq;omega
      refine ⟨_,.inl (aj.of (r3 _ _ Zu)),rfl,by simp [QF,wz],bs.map V.bl,r1,by simp;omega,_,bs++[!decide ((ps.map (·.1))[i]∈qs.map (·.1))],rfl,?_,?_,r3.put hD⟩
      ·rw [fI,Bool.true_xor,Qm];exact aA
      ·rw [vp,Qm,<- r2];rfl
     ·rintro τ H5 ⟨v0,bs,rfl,r1,r2,r3⟩
      have:((ps.map (·.1)).map V.str).length=(ps.map (·.1)).length:=by simp
      rw [this,Qo] at r2
      have Dq:=((s2.trans s3).trans s4).trans r3
      refine ⟨bs,aj.of r1,_,rfl,dz (fun cc=>?_) (fun cc=>?_)⟩
      ·have eb:fh h1 h2=none:=by
        rw [hb,if_neg]
        rw [uz]
        intro kg
        rw [r2,List.any_eq_true] at cc
        obtain ⟨x,hx,Zv⟩:=cc
        obtain ⟨z,hz,rfl⟩:=List.mem_map.mp hx
        have:=kg z hz
        simp [this] at Zv
       rw [eb] at es
       rw [es] at k
       exact k H5 Dq
      ·refine dc _ _ ⟨Dq,?_⟩
       rw [hb,if_pos]
       ·simp
       rw [uz]
       intro z hz
       rw [r2] at cc
       have:=List.any_eq_false.mp cc _ (List.mem_map.mpr ⟨z,hz,rfl⟩)
       simpa using this
    ·have hm:¬(g1.be="box"\/g1.be="pick"):=by have:=of_decide_eq_false c;simpa using this
     refine dc _ _ ⟨s2,?_⟩
     obtain ⟨w1,_⟩:=lL o1 hm (by rw [z1];exact OW) (by rw [z1];exact b) Zt
     obtain ⟨w2,_⟩:=lL o2 (by rw [z2,<- z1];exact hm) (by rw [z2];exact OW) (by rw [z2];exact b) yu
     rw [hb,w1,w2,if_pos fun _ h=>h]
     simp
   ·rintro σ' H2 ⟨s2,ii⟩
    have:ie h1 h2="open":=by
     rw [es]
     cases hx:fh h1 h2 with
     | none=>exact absurd hx ii
     | some ss=>rfl
    rw [<- this];exact k H2 s2
def AB (r1 r2:List aq) (t:bf):List (List Str×bf):=((stH (ak r1 t.2.1)).filter fun s=>decide (s∈stH (ak r2 t.2.2))).map fun s=>(s,gg r1 r2 t s)
structure om (H:Hp) (us:List V) (ps:List (List Str×bf)):Prop where
 len:us.length=ps.length
 at_:∀ i (h:i < us.length) (h':i < ps.length),∃ c b e,us[i]=.ref c/\H c=some (.tup [.ref b,.ref e])/\au H b (ps[i].1.map V.str)/\H e=some (.tup ((bq ps[i].2).map kV))
theorem om.keep {us:List V} {ps:List (List Str×bf)} (h:om H us ps) (s:Tk H H') (s2:∀ b ys,au H b ys->au H' b ys):om H' us ps:=⟨h.len,fun i a b=>let ⟨c,d,e,h1,h2,h3,h4⟩:=h.at_ i a b;⟨c,d,e,h1,s _ _ h2,s2 _ _ h3,s _ _ h4⟩⟩
theorem om.same {H H':Hp} {us:List V} {ps:List (List Str×bf)} (h:om H us ps) (s:aa H H'):om H' us ps:=h.keep s.ts fun b ys r=>r.same s
theorem om.nil:om H [] []:=⟨rfl,fun i h=>absurd h (by simp)⟩
theorem om.snoc {us:List V} {ps:List (List Str×bf)} (h:om H us ps) {c e:Addr} {p:List Str×bf} (h2:H c=some (.tup [.ref b,.ref e])) (h3:au H b (p.1.map V.str)) (h4:H e=some (.tup ((bq p.2).map kV))):om H (us++[.ref c]) (ps++[p]):=by
 have hl:=h.len
 refine ⟨by simp [hl],fun i h1 h2=>?_⟩
 by_cases ay:i < us.length
 ·rw [Qe ay,Qe (by omega)]
  exact h.at_ i ay (by omega)
 ·have e':i=us.length:=by simp at h1;omega
  subst e'
  rw [Qf (Qy _),Qf (by omega)]
  simp only [Nat.sub_self,hl,List.getElem_cons_zero]
  exact ⟨c,b,e,rfl,by assumption,h3,h4⟩
def J8:Sp:=fun vs H Q _=>∃ (a b e:Addr) (xs ys:List V) (r1 r2:List aq) (m1 m2 ws fj:List Str) (t:bf),vs=[.ref a,.ref b,.ref e]/\RT H a xs r1 m1 ws/\RT H b ys r2 m2 fj/\(∀ z∈ws,Wd z)/\(∀ z∈fj,Wd z)/\au H e ((bq t).map kV)/\qa r1 r2 m1 m2 t/\
 ∀ (L:Addr) (us:List V) (H':Hp),H L=none->aa H H'->H' L=some (.lst us)->om H' us (AB r1 r2 t)->Q (.ref L) H'
set_option maxHeartbeats 2000000 in
theorem iV (T:Txt K mg w):a_ P w K mg base 4 "_law_behind" ["_law_told","_law_other","_law_entry"] J8:=by
 have rZ:a_ P w K mg base 3 "_law_on" ["_law_told","_law_name"] NG:=xS T
 refine T.oT.fk bH (fun vs H Q E h=>?_) (fun f bc A outer s H vs Q E hr h=>?_)
 ·refine hdn fun G9 hG=>?_;obtain ⟨a,b,e,xs,ys,r1,r2,m1,m2,ws,fj,t,rfl,_⟩:=h;refine hG ?_
  rfl
 ·refine hdn fun G9 hG=>?_;obtain ⟨a,b,e,xs,ys,r1,r2,m1,m2,ws,fj,t,rfl,rt,dh,hw,ji,he,to,k⟩:=h;refine hG ?_
  have hu:=aU hr
  have bz:=Qx (aU hr)
  have Bb:=lO hr
  have hsz:sizeLine=16777216:=QL
  have g1:=rt.gw hw
  have g2:=dh.gw ji
  have Jx:=g1.MR to.a
  have J9:=g2.MR to.b
  have GY:=IL to.a.2
  have gf:=IL to.b.2
  have Zw:=rt.MH hw to.a.1
  have GZ:=dh.MH ji to.b.1
  obtain ⟨sd,na,nb⟩:=t
  dsimp only at na nb sd to Jx J9 GY gf Zw GZ
  refine ⟨_,(aC (fF (zv 2) (bO K (n:=3) rfl (aI (aJ (i:=3) bH.nd rfl (Or.inl rfl)) (aI (aJ (i:=4) bH.nd rfl (Or.inl rfl)) (aI (aJ (i:=5) bH.nd rfl (Or.inl rfl)) bE)))))
   (aC (aX (i:=6) bH.nd rfl (Or.inl rfl) (cP ae))
   (aC (fU PassesOwn.never rfl (lJ K (bA rZ (hr.mono (by decide)) (aB (zv 0) (aB (zv 4) ae)))) (bO K (n:=2) rfl (aI (aJ (i:=7) bH.nd rfl (Or.inl rfl)) (aI (aJ (i:=8) bH.nd rfl (Or.inl rfl)) bE))) (aE (fU PassesOwn.never rfl (lJ K (bA rZ (hr.mono (by decide)) (aB (zv 1) (aB (zv 5) ae)))) (bO K (n:=2) rfl (aI (aJ (i:=9) bH.nd rfl (Or.inl rfl)) (aI (aJ (i:=10) bH.nd rfl (Or.inl rfl)) bE))) (aE (bN (aL (kP Bb) (zv 7) (zv 9) (cy _)) (aC (aX (i:=11) bH.nd rfl (Or.inl rfl) (bX Uh (zv 3) (bX d9 (bX d9 aG (zv 3)) (bM yD (by rfl) T.XF PyProof.Rows.boot_int (tT (mY (kP Bb) (zv 7) (aT (aD aS ae)) (cy _)) ae)))))
   (aE (dR (lW K QH QJ QK bZ (zv 6) (bD (aT (aB (zv 7) (bD (aT (aB (zv 11) (aB (zv 8) (aB (zv 10) ae)))) ae))) ae))))) aV)))))
   (aE (aQ (zv 6)))))),?_⟩
  refine qP (af.p_ he) ?_
  refine aO (te:=Hq uc) ⟨(show 0<=sizeLine by decide),fun L hL=>?_⟩
  have sL:=aa.upd hL (.lst [])
  refine bC (fun σ' H'=>∃ (v7 v8 v9 v10 v11:Option V) (us:List V),σ'=[some (.ref a),some (.ref b),some (.ref e),some (.int sd),some (.str na),some (.str nb),some (.ref L),v7,v8,v9,v10,v11]/\H' L=some (.lst us)/\om H' us (AB r1 r2 (sd,na,nb))/\aa H H') ?_ ?_
  ·intro nx dc
   refine ⟨a,xs,r1,m1,ws,na,rfl,rt.tk sL.ts,hw,to.a.1,fun M1 nu H1 OZ s1 O0 O1=>Or.inl ⟨⟨nu,aj.of O0⟩,?_⟩⟩
   have l1:=O1.len
   have Zx:M1≠L:=fun z=>by rw [z,aA] at OZ;cases OZ
   have Zy:=sL.trans s1
   refine cZ (cH nu) (fun i σ' H'=>∃ (v7 v8 v9 v10 v11:Option V) (us:List V),σ'=[some (.ref a),some (.ref b),some (.ref e),some (.int sd),some (.str na),some (.str nb),some (.ref L),v7,v8,v9,v10,v11]/\H' L=some (.lst us)/\om H' us ((((stH (ak r1 na)).take i).filter fun s=>decide (s∈stH (ak r2 nb))).map fun s=>(s,gg r1 r2 (sd,na,nb) s))/\aa H H'/\H' M1=some (.lst nu)/\MV H' nu (gn r1 na))
    ⟨none,none,none,none,none,[],rfl,s1 _ _ aA,om.nil,Zy,O0,O1⟩ (by rintro i σ' H' _ ⟨_,_,_,_,_,_,_,_,_,_,e,_⟩;exact aj.of e) ?_ ?_
   ·rintro i σ' H2 hi z0;refine hdn fun G9 hG=>?_;obtain ⟨v7,v8,v9,v10,v11,us,rfl,q1,q2,q3,q4,q5⟩:=z0;refine hG ?_
    have E1:i < (gn r1 na).length:=by omega
    have Zz:i < (stH (ak r1 na)).length:=by rw [<- GY];simpa using E1
    obtain ⟨c,d,p1,p2,p3⟩:=q5.at_ i hi E1
    have eg:nu.getD i .ai=.ref c:=by rw [Qb,Qa hi,p1];rfl
    rw [eg]
    have ZA:(stH (ak r1 na))[i]=(gn r1 na)[i].1:=by simp only [<- GY,Qr]
    have O2:=MQ Jx (Qj E1)
    have vp:(stH (ak r1 na)).take (i+1)=(stH (ak r1 na)).take i++[(gn r1 na)[i].1]:=by rw [Qs,Qa Zz,ZA];rfl
    have aby:us.length<=10:=by
     have:=q2.len
     rw [this,Ql]
     have h1:=List.length_filter_le (fun s=>decide (s∈stH (ak r2 nb))) ((stH (ak r1 na)).take i)
     have h2:((stH (ak r1 na)).take i).length<=i:=by simp;omega
     omega
    generalize (gn r1 na)[i]=mm at p2 p3 O2 vp
    refine cC p2 ?_
    refine ⟨b,ys,r2,m2,fj,nb,rfl,dh.tk q3.ts,ji,to.b.1,fun M2 fz H3 G0 s3 O3 O4=>Or.inl ⟨⟨fz,aj.of O3⟩,?_⟩⟩
    have l2:=O4.len
    have ZC:M2≠L:=fun z=>by rw [z,q1] at G0;cases G0
    have abz:M1≠M2:=fun z=>by rw [<- z,q4] at G0;cases G0
    refine cZ (cH fz) (fun j σ' H'=>∃ (v9 v10 v11:Option V) (qb:List V),σ'=[some (.ref a),some (.ref b),some (.ref e),some (.int sd),some (.str na),some (.str nb),some (.ref L),some (.ref d),some (.str mm.2),v9,v10,v11]/\H' L=some (.lst qb)/\qb.length<=20/\om H' qb (((((stH (ak r1 na)).take i).filter fun s=>decide (s∈stH (ak r2 nb))).map fun s=>(s,gg r1 r2 (sd,na,nb) s))++if mm.1∈(stH (ak r2 nb)).take j then [(mm.1,gg r1 r2 (sd,na,nb) mm.1)] else [])/\aa H H'/\H' M1=some (.lst nu)/\MV H' nu (gn r1 na)/\H' M2=some (.lst fz)/\MV H' fz (gn r2 nb)/\au H' d (mm.1.map V.str))
     ⟨_,_,_,us,rfl,s3 _ _ q1,by omega,by simpa using q2.same s3,q3.trans s3,s3 _ _ q4,q5.tk s3.ts,O3,O4,.inl (s3 _ _ p3)⟩ (by rintro j σ' H' _ ⟨_,_,_,_,_,_,_,_,_,_,_,e,_⟩;exact aj.of e) ?_ ?_
    ·rintro j σ' H4 hj z0;refine hdn fun G9 hG=>?_;obtain ⟨v9,v10,v11,qb,rfl,w1,O5,w2,w3,w4,w5,w6,w7,w8⟩:=z0;refine hG ?_
     have Gk:j < (gn r2 nb).length:=by omega
     have O6:j < (stH (ak r2 nb)).length:=by rw [<- gf];simpa using Gk
     obtain ⟨c',d',ZD,O7,O8⟩:=w7.at_ j hj Gk
     have J_:fz.getD j .ai=.ref c':=by rw [Qb,Qa hj,ZD];rfl
     rw [J_]
     have O9:(stH (ak r2 nb))[j]=(gn r2 nb)[j].1:=by simp only [<- gf,Qr]
     have O_:=MQ J9 (Qj Gk)
     have J':(stH (ak r2 nb)).take (j+1)=(stH (ak r2 nb)).take j++[(gn r2 nb)[j].1]:=by rw [Qs,Qa O6,O9];rfl
     have xu:(gn r2 nb)[j].1 ∉ (stH (ak r2 nb)).take j:=fun hm=>by
      obtain ⟨j',oh,e'⟩:=Qi hm
      have ZE:j' < j:=by simp at oh;omega
      rw [List.getElem_take,<- O9] at e'
      have ZF:(stH (ak r2 nb)).Nodup:=by rw [<- gf];exact J9
      exact List.pairwise_iff_getElem.mp ZF j' j (by omega) O6 ZE e'
     generalize (gn r2 nb)[j]=Bf at O7 O8 O_ J' xu
     refine cC O7 ⟨d,d',mm.1,Bf.1,rfl,rfl,w8,.inl O8,_,rfl,dz (fun cc=>?_) (fun cc=>?_)⟩
     ·have t_:mm.1=Bf.1:=Qt cc
      have hn:mm.1 ∉ (stH (ak r2 nb)).take j:=by rw [t_];exact xu
      rw [if_neg hn,QR] at w2
      rw [if_pos (by rw [J',t_];simp)]
      have ZG:gg r1 r2 (sd,na,nb) mm.1=(if mm.1=(["from"]:List Str) then -sd else sd,mm.2,Bf.2):=by
       unfold gg
       show (_,(jt r1 na mm.1).getD "",(jt r2 nb mm.1).getD "")=_
       rw [O2,show jt r2 nb mm.1=some Bf.2 by rw [t_];exact O_];rfl
      have c2:Cu 2 sd:=.inl ⟨by decide,by decide⟩
      refine aO ⟨c2,(show 1<=sizeLine by decide),fun tf Pa=>⟨d,tf,mm.1,(["from"]:List Str),rfl,rfl,w8.same (aa.upd Pa _),.inl aA,_,rfl,?_⟩⟩
      have c3:∀ z:Int,Cu z (if decide (mm.1=(["from"]:List Str))=true then 1 else 0):=fun z=>.inr (by split<;>exact ⟨by decide,by decide⟩)
      refine ⟨c3 _,?_⟩
      have e4:=aa.upd Pa (.tup [.str "from"])
      dsimp only
      generalize upd H4 tf (.tup [.str "from"])=H5 at e4 ⊢
      have JN:=e4 _ _ w1
      refine ⟨.inl ⟨rfl,_,aj.of JN⟩,(show 3<=sizeLine by decide),fun te Ka=>⟨(show 2<=sizeLine by decide),fun tc Kc=>?_⟩⟩
      have ev:sd - 2*sd*(if decide (mm.1=(["from"]:List Str))=true then 1 else 0)=(if mm.1=(["from"]:List Str) then -sd else sd):=by
       by_cases hz:mm.1=(["from"]:List Str)
       ·rw [if_pos (Qv hz),if_pos hz];omega
       ·rw [if_neg (by rw [Qw hz];decide),if_neg hz];omega
      rw [ev] at Kc ⊢
      have s6:=aa.upd Ka (.tup [.int (if mm.1=(["from"]:List Str) then -sd else sd),.str mm.2,.str Bf.2])
      have e6:upd H5 te (.tup [.int (if mm.1=(["from"]:List Str) then -sd else sd),.str mm.2,.str Bf.2]) te=some (.tup ((bq (gg r1 r2 (sd,na,nb) mm.1)).map kV)):=by rw [ZG];exact aA
      generalize upd H5 te (.tup [.int (if mm.1=(["from"]:List Str) then -sd else sd),.str mm.2,.str Bf.2])=H6 at s6 e6 Kc ⊢
      have s7:=aa.upd Kc (.tup [.ref d,.ref te])
      have e7:upd H6 tc (.tup [.ref d,.ref te]) tc=some (.tup [.ref d,.ref te]):=aA
      generalize upd H6 tc (.tup [.ref d,.ref te])=H7 at s7 e7 ⊢
      have qd:=(e4.trans s6).trans s7
      have Dp:=qd _ _ w1
      have kr:∀ b ys,au H7 b ys->au (upd H7 L (.lst (qb++[.ref tc]))) b ys:=fun b ys h=>h.put Dp (fun _ z=>nomatch z) (fun _ _ z=>nomatch z)
      have tk:Tk H7 (upd H7 L (.lst (qb++[.ref tc]))):=(Tk.refl).set Dp fun _ z=>nomatch z
      refine ⟨L,qb,.ref tc,rfl,rfl,Dp,by omega,_,_,_,_,rfl,aA,?_,?_,(w3.trans qd).put hL,by rw [aF Zx];exact qd _ _ w4,w5.tk (qd.ts.trans tk),by rw [aF ZC];exact qd _ _ w6,w7.tk (qd.ts.trans tk),kr _ _ (w8.same qd)⟩
      ·have:=w2.len
       rw [Qk,this,Ql]
       have h1:=List.length_filter_le (fun s=>decide (s∈stH (ak r2 nb))) ((stH (ak r1 na)).take i)
       have h2:((stH (ak r1 na)).take i).length<=i:=by simp;omega
       simp;omega
      ·exact ((w2.same qd).keep tk kr).snoc (tk _ _ e7) (kr _ _ (w8.same qd)) (tk _ _ (s7 _ _ e6))
     ·have t_:mm.1≠Bf.1:=of_decide_eq_false cc
      refine ⟨_,_,_,qb,rfl,w1,O5,?_,w3,w4,w5,w6,w7,w8⟩
      have:(mm.1∈(stH (ak r2 nb)).take (j+1))↔(mm.1∈(stH (ak r2 nb)).take j):=by rw [J'];simp [t_]
      by_cases hq:mm.1∈(stH (ak r2 nb)).take j
      ·rw [if_pos hq] at w2
       rw [if_pos (this.mpr hq)];exact w2
      ·rw [if_neg hq] at w2
       rw [if_neg fun z=>hq (this.mp z)];exact w2
    ·rintro σ' H4 z0;refine hdn fun G9 hG=>?_;obtain ⟨v9,v10,v11,qb,rfl,w1,O5,w2,w3,w4,w5,w6,w7,w8⟩:=z0;refine hG ?_
     have sr:fz.length=(stH (ak r2 nb)).length:=by rw [l2,<- gf];simp
     rw [sr,Qo] at w2
     refine ⟨_,_,_,_,_,qb,rfl,w1,?_,w3,w4,w5⟩
     rw [vp,List.filter_append,Qm]
     by_cases gm:mm.1∈stH (ak r2 nb)
     ·rw [if_pos gm] at w2
      rw [List.filter_cons,if_pos (Qv gm)]
      exact w2
     ·rw [if_neg gm] at w2
      rw [List.filter_cons,if_neg (by rw [Qw gm];decide)]
      exact w2
   ·rintro σ' H2 z0;refine hdn fun G9 hG=>?_;obtain ⟨v7,v8,v9,v10,v11,us,rfl,q1,q2,q3,q4,q5⟩:=z0;refine hG ?_
    have hl1:nu.length=(stH (ak r1 na)).length:=by rw [l1,<- GY];simp
    rw [hl1,Qo] at q2
    exact dc _ _ ⟨_,_,_,_,_,us,rfl,q1,q2,q3⟩
  ·rintro σ' H2 z0;refine hdn fun G9 hG=>?_;obtain ⟨v7,v8,v9,v10,v11,us,rfl,q1,q2,q3⟩:=z0;refine hG ?_
   exact k L us H2 hL q3 q1 q2
theorem zQ {lo up:Hd} (n0:¬(up.be="all"\/lo.be="none")) (h:fh lo up=some ss) (s:List Str):s∈ss↔s∈stH lo/\s∈stH up:=by
 refine ⟨fun hs=>qJ h hs,fun ⟨h1,h2⟩=>?_⟩
 unfold fh at h
 rw [if_neg n0] at h
 split at h
 ·cases h
 ·split at h
  ·split at h
   ·cases h;exact h1
   ·cases h
  ·split at h
   ·cases h;exact h2
   ·cases h
theorem xT (lo up:Hd):(ie lo up="settled"/\fh lo up=some [])\/(ie lo up="bad"/\fh lo up=none)\/(ie lo up="open"/\∃ ss,fh lo up=some ss/\∀ s,s∈ss↔s∈stH lo/\s∈stH up):=by
 by_cases n0:up.be="all"\/lo.be="none"
 ·exact .inl ⟨by unfold ie;rw [if_pos n0],by unfold fh;rw [if_pos n0]⟩
 ·cases hb:fh lo up with
  | none=>exact .inr (.inl ⟨by unfold ie;rw [if_neg n0,hb],rfl⟩)
  | some ss=>exact .inr (.inr ⟨by unfold ie;rw [if_neg n0,hb],ss,rfl,zQ n0 hb⟩)
theorem Pb (r1 r2:List aq) (t:bf):gh r1 r2 t=fh (if t.1=1 then ak r1 t.2.1 else ak r2 t.2.2) (if t.1=1 then ak r2 t.2.2 else ak r1 t.2.1):=by
 unfold gh;split<;>rfl
theorem wE {t:bf} {p:List Str×bf}:p∈AB r1 r2 t↔p.1∈stH (ak r1 t.2.1)/\p.1∈stH (ak r2 t.2.2)/\p.2=gg r1 r2 t p.1:=by
 unfold AB
 rw [List.mem_map]
 constructor
 ·rintro ⟨s,hs,rfl⟩
  obtain ⟨h1,h2⟩:=List.mem_filter.mp hs
  exact ⟨h1,Qt h2,rfl⟩
 ·rintro ⟨h1,h2,h3⟩
  exact ⟨p.1,List.mem_filter.mpr ⟨h1,Qv h2⟩,by rw [<- h3]⟩
theorem ZH {t:bf} {lo up:Hd} (to:qa r1 r2 m1 m2 t) (hl:lo=if t.1=1 then ak r1 t.2.1 else ak r2 t.2.2) (hu:up=if t.1=1 then ak r2 t.2.2 else ak r1 t.2.1):
  JY r1 r2 m1 m2 eu t↔ie lo up≠"bad"/\(ie lo up="open"->∀ p∈AB r1 r2 t,bq p.2∈eu):=by
 have el:=Pb r1 r2 t
 rw [<- hl,<- hu] at el
 have Pc:∀ s,(s∈stH lo/\s∈stH up)↔(s∈stH (ak r1 t.2.1)/\s∈stH (ak r2 t.2.2)):=fun s=>by
  rw [hl,hu];split
  ·rfl
  ·exact and_comm
 unfold JY
 rcases xT lo up with ⟨h1,h2⟩ | ⟨h1,h2⟩ | ⟨h1,ss,h2,h3⟩
 ·rw [h1,el,h2]
  refine ⟨fun _=>⟨by decide+kernel,fun z=>absurd z (by decide+kernel)⟩,fun _=>⟨to,[],rfl,fun s hs=>nomatch hs⟩⟩
 ·rw [h1,el,h2]
  refine ⟨fun ⟨_,ss,h,_⟩=>(nomatch h),fun h=>absurd rfl h.1⟩
 ·rw [h1,el,h2]
  constructor
  ·rintro ⟨_,MS,e,h⟩
   cases e
   refine ⟨by decide+kernel,fun _ p hp=>?_⟩
   obtain ⟨p1,p2,p3⟩:=wE.mp hp
   rw [p3]
   exact h _ ((h3 _).mpr ((Pc _).mpr ⟨p1,p2⟩))
  ·rintro ⟨_,h⟩
   refine ⟨to,ss,rfl,fun s hs=>?_⟩
   obtain ⟨q1,q2⟩:=(Pc s).mp ((h3 s).mp hs)
   exact h rfl (s,gg r1 r2 t s) (wE.mpr ⟨q1,q2,rfl⟩)
def Pd:Sp:=fun vs H Q _=>∃ (a b p:Addr) (xs ys ps:List V) (r1 r2:List aq) (m1 m2 ws fj:List Str) (x y:Str) (ts:List bf),vs=[.ref a,.str x,.ref b,.str y,.ref p]/\RT H a xs r1 m1 ws/\RT H b ys r2 m2 fj/\(∀ z∈ws,Wd z)/\(∀ z∈fj,Wd z)/\x∈m1/\y∈m2/\H p=some (.lst ps)/\jm H ps (ts.map bq)/\OR r1 r2 m1 m2 (1,endOf r1 x,endOf r2 y) ts/\
 ∀ H',aa H H'->Q (.bl true) H'
theorem vP {rows:List aq} (g:f_ rows ns) {e:Str} (he:e∈ns):(ak rows e).be="as"↔¬iy rows ns e:=by
 have h0:=(g.nm e).mpr he
 obtain ⟨r,hr,rfl⟩:=List.mem_map.mp h0
 have hok:(ak rows r.1).ok ns:=by
  obtain ⟨_,_,_,_,rt,_⟩:=g
  rw [dB rt.kc hr];exact (rt.ok r hr).2
 rw [tK hok,<- g.ai]
 constructor
 ·intro h hm
  obtain ⟨r',ia,e'⟩:=List.mem_map.mp hm
  obtain ⟨q1,q2⟩:=List.mem_filter.mp ia
  have:=dB g.kc q1
  rw [e'] at this
  rw [this,q2] at h;cases h
 ·intro h
  cases hx:(ak rows r.1).nx.isNone with
  | false=>rfl
  | true=>
   refine absurd (List.mem_map.mpr ⟨r,List.mem_filter.mpr ⟨hr,?_⟩,rfl⟩) h
   rw [<- dB g.kc hr];exact hx
set_option maxHeartbeats 2000000 in
theorem gR (T:Txt K mg w):a_ P w K mg base 5 "_law_is_within_paper" ["_law_told","_law_name","_law_other","_law_twin_name","_law_paper"] Pd:=by
 have bI:a_ P w K mg base 1 "_law_row_here" ["_law_told","_law_name"] EQ:=cR T
 have fJ:a_ P w K mg base 3 "_law_low_high" ["_law_told","_law_other","_law_entry"] JZ:=hU T
 have dD:a_ P w K mg base 2 "_law_state_of" ["_law_low","_law_high"] J7:=gZ T
 have gI:a_ P w K mg base 4 "_law_behind" ["_law_told","_law_other","_law_entry"] J8:=iV T
 refine T.hX.fk aM (fun vs H Q E h=>?_) (fun f bc A outer s H vs Q E hr h=>?_)
 ·refine hdn fun G9 hG=>?_;obtain ⟨a,b,p,xs,ys,ps,r1,r2,m1,m2,ws,fj,x,y,ts,rfl,_⟩:=h;refine hG ?_
  rfl
 ·refine hdn fun G9 hG=>?_;obtain ⟨a,b,p,xs,ys,ps,r1,r2,m1,m2,ws,fj,x,y,ts,rfl,rt,dh,hw,ji,hx,hy,hp,ks,rp,k⟩:=h;refine hG ?_
  have hu:=aU hr
  have bz:=Qx (aU hr)
  have Bc:=qD hr
  have hsz:sizeLine=16777216:=QL
  have h_:ps.length=ts.length:=by have:=ks.1;simpa using this
  have rh:=rt.gw hw
  have gw:=dh.gw ji
  obtain ⟨rs,g,nm,rl,lu⟩:=rt.good hw
  have hm:∀ z,z∈rs.map (·.1)↔z∈m1:=fun z=>by rw [nm];exact rt.nm.mem_iff
  obtain ⟨jo,g2,Fb,Fc,Fd⟩:=dh.good ji
  have hm2:∀ z,z∈jo.map (·.1)↔z∈m2:=fun z=>by rw [Fb];exact dh.nm.mem_iff
  have gl:=g.len
  have gl2:=g2.len
  refine ⟨_,(aC (bN (aL (t9 K Bc) (aT (aD aG (aP (bA bI (hr.mono (by decide)) (aB (zv 0) (aB (zv 1) ae))) (aP (bA bI (hr.mono (by decide)) (aB (zv 2) (aB (zv 3) ae))) ae)))) (zv 4) rfl) (aE (aQ jS)) aV)
   (aC (LZ (i:=5) (j:=6) rfl aM.nd rfl rfl (by decide) rfl rfl (aP (bM (eG rfl) (by rfl) T.pR PyProof.Rows.boot_dict (aB (zv 0) ae)) (aP (bM (eG rfl) (by rfl) T.pR PyProof.Rows.boot_dict (aB (zv 2) ae)) ae)) rfl)
   (aC (fU PassesOwn.never rfl (lJ K (zv 4)) (bO K (n:=3) rfl (aI (aJ (i:=7) aM.nd rfl (Or.inl rfl)) (aI (aJ (i:=8) aM.nd rfl (Or.inl rfl)) (aI (aJ (i:=9) aM.nd rfl (Or.inl rfl)) bE)))) (aC (bN (qA (aL (oE K) (zv 7) (aT (aD aG (vD (HL uV aG) ae))) rfl) (qA (aL (jZ hu) (zv 8) (zv 5) rfl) (mR (aL (jZ hu) (zv 9) (zv 6) rfl)))).pt (aE (aQ jS)) aV)
   (aC (bN (aL (kF K) aS (aT (aH (aY (aZ K) (cG hu (zv 5) (zv 8) (fun _ _=>rfl)) aG (fun _ _=>rfl)) (aH (aY (aZ K) (cG hu (zv 6) (zv 9) (fun _ _=>rfl)) aG (fun _ _=>rfl)) ae))) rfl) (aE (aQ jS)) aV)
   (aC (aX (i:=10) aM.nd rfl (Or.inl rfl) (aT (aB (zv 7) (aB (zv 8) (aB (zv 9) ae)))))
   (aC (fF (bA fJ (hr.mono (by decide)) (aB (zv 0) (aB (zv 2) (aB (zv 10) ae)))) (bO K (n:=2) rfl (aI (aJ (i:=11) aM.nd rfl (Or.inl rfl)) (aI (aJ (i:=12) aM.nd rfl (Or.inl rfl)) bE))))
   (aC (aX (i:=13) aM.nd rfl (Or.inl rfl) (bA dD (hr.mono (by decide)) (aB (zv 11) (aB (zv 12) ae))))
   (aC (bN (aL (bP bz) (zv 13) aS (cy _)) (aE (aQ jS)) aV)
   (aE (bN (aL (bP bz) (zv 13) aS (cy _)) (aE (fU PassesOwn.never rfl (lJ K (bA gI (hr.mono (by decide)) (aB (zv 0) (aB (zv 2) (aB (zv 10) ae))))) (bO K (n:=2) rfl (aI (aJ (i:=14) aM.nd rfl (Or.inl rfl)) (aI (aJ (i:=15) aM.nd rfl (Or.inl rfl)) bE))) (aE (bN (aL (t9 K Bc) (zv 15) (zv 4) rfl) (aE (aQ jS)) aV)))) aV)))))))))
   (aE (aQ jS))))),?_⟩
  generalize Dk:((1,endOf r1 x,endOf r2 y):bf)=fst at rp
  refine ⟨a,xs,rs,_,_,x,rfl,g,(hm x).mpr hx,fun H1 s1=>?_⟩
  refine ⟨b,ys,jo,_,_,y,rfl,g2.ts s1.ts,(hm2 y).mpr hy,fun H2 s2=>⟨(show 3<=sizeLine by decide),fun q hq=>?_⟩⟩
  have s3:=(s1.trans s2).trans (aa.upd hq (.tup [.int 1,.str (fg (gr r1) rs.length x),.str (fg (gr r2) jo.length y)]))
  have eq3:upd H2 q (.tup [.int 1,.str (fg (gr r1) rs.length x),.str (fg (gr r2) jo.length y)]) q=some (.tup ((bq fst).map kV)):=by rw [<- Dk,rl,Fc];exact aA
  generalize upd H2 q (.tup [.int 1,.str (fg (gr r1) rs.length x),.str (fg (gr r2) jo.length y)])=H3 at s3 eq3 ⊢
  refine ⟨q,p,bq fst,ps,_,rfl,rfl,.inl eq3,.inl (aj.of (s3 _ _ hp)),ks.same s3,fun r hr=>?_⟩
  have Kd:r=true:=hr.mpr (WT.mpr rp.1)
  subst Kd
  refine ⟨_,rfl,ig ?_⟩
  refine dJ ?_
  refine ⟨a,xs,bj rs,rfl,(g.ts s3.ts).at_,(g.ts s3.ts).ps,(by simp;omega),fun d1 C_=>?_⟩
  have s4:=s3.trans (aa.upd C_ (.dK (dictOf (bj rs))))
  have e4:upd H3 d1 (.dK (dictOf (bj rs))) d1=some (.dK (dictOf (bj rs))):=aA
  generalize upd H3 d1 (.dK (dictOf (bj rs)))=H4 at s4 e4 ⊢
  refine ⟨b,ys,bj jo,rfl,(g2.ts s4.ts).at_,(g2.ts s4.ts).ps,(by simp;omega),fun d2 hd2=>?_⟩
  have s5:=s4.trans (aa.upd hd2 (.dK (dictOf (bj jo))))
  have e5:upd H4 d2 (.dK (dictOf (bj jo))) d2=some (.dK (dictOf (bj jo))):=aA
  have Pe:=aa.upd hd2 (.dK (dictOf (bj jo))) _ _ e4
  generalize upd H4 d2 (.dK (dictOf (bj jo)))=H5 at s5 e5 Pe ⊢
  refine ⟨_,_,rfl,?_⟩
  dsimp only
  refine bC (fun σ' H'=>aa H H') ?_ (fun σ' H6 s6=>k H6 s6)
  intro nx dc
  refine Or.inl ⟨⟨ps,aj.of (s5 _ _ hp)⟩,?_⟩
  refine cZ (cH ps) (fun i σ' H'=>∃ (v7 v8 v9 v10 v11 jf Pf G1 G2:Option V),σ'=[some (.ref a),some (.str x),some (.ref b),some (.str y),some (.ref p),some (.ref d1),some (.ref d2),v7,v8,v9,v10,v11,jf,Pf,G1,G2]/\aa H5 H')
   ⟨none,none,none,none,none,none,none,none,none,rfl,aa.refl _⟩ (by rintro i σ' H' _ ⟨_,_,_,_,_,_,_,_,_,_,s⟩;exact aj.of (s _ _ (s5 _ _ hp))) ?_ (by rintro σ' H6 ⟨_,_,_,_,_,_,_,_,_,_,q1⟩;exact dc _ _ (s5.trans q1))
  rintro i σ' H6 hi z0;refine hdn fun G9 hG=>?_;obtain ⟨v7,v8,v9,v10,v11,jf,Pf,G1,G2,rfl,q1⟩:=z0;refine hG ?_
  have hit:i < ts.length:=by omega
  have s6:=s5.trans q1
  obtain ⟨c,f1,f2⟩:=(ks.same s6).2 i hi (by simpa using hit)
  rw [Qr] at f2
  have eg:ps.getD i .ai=.ref c:=by rw [Qb,Qa hi,f1];rfl
  rw [eg]
  have u:=rp.2 _ (Qj hit)
  generalize ts[i]=t at f2 u
  obtain ⟨sd,Ck,Cm⟩:=id u.1
  have f2:au H6 c [.int t.1,.str t.2.1,.str t.2.2]:=f2
  refine qP (af.p_ f2) ?_
  dsimp only
  obtain ⟨va,_,Pg⟩:=g.get ((hm _).mpr Ck.1)
  obtain ⟨vb,_,Ph⟩:=g2.get ((hm2 _).mpr Cm.1)
  have Pj:∀ {H'},aa H5 H'->fu H' d1 (.str t.2.1) (some va):=fun {H'} s'=>by rw [<- Pg];exact fu.k (k:=Sum.inr t.2.1) (s' _ _ Pe)
  have Pk:∀ {H'},aa H5 H'->fu H' d2 (.str t.2.2) (some vb):=fun {H'} s'=>by rw [<- Ph];exact fu.k (k:=Sum.inr t.2.2) (s' _ _ e5)
  refine ⟨_,rfl,(show 2<=sizeLine by decide),fun p2 AN=>⟨_,.inr (af.of aA),rfl,rfl,_,rfl,?_⟩⟩
  have t1:=aa.upd AN (.tup [.int 1,.int (-1)])
  generalize upd H6 p2 (.tup [.int 1,.int (-1)])=H7 at t1 ⊢
  have h1:(true^^r_ (.int t.1) [.int 1,.int (-1)])=false:=by rw [(WM t.1).mpr sd];rfl
  refine dz (fun c=>nomatch h1.symm.trans c) (fun _=>?_)
  refine ⟨d1,_,rfl,Pj (q1.trans t1),_,rfl,ig ⟨d2,_,rfl,Pk (q1.trans t1),_,rfl,ig ?_⟩⟩
  refine dJ ?_
  have s7:=s6.trans t1
  have Pn:=q1.trans t1
  obtain ⟨ba,ya,rfl,ea⟩:=((lu _ va Ck.1 Pg).same s7).be
  obtain ⟨bb,yb,rfl,eb⟩:=((Fd _ vb Cm.1 Ph).same s7).be
  refine ⟨d1,_,rfl,Pj Pn,_,_,.inr (af.of ea),aK _ _,d2,_,rfl,Pk Pn,_,_,.inr (af.of eb),aK _ _,(show 2<=sizeLine by decide),fun p2 AN=>⟨_,.inr (af.of aA),rfl,rfl,_,rfl,?_⟩⟩
  have t2:=t1.trans (aa.upd AN (.tup [.str (ak r1 t.2.1).be,.str (ak r2 t.2.2).be]))
  generalize upd H7 p2 (.tup [.str (ak r1 t.2.1).be,.str (ak r2 t.2.2).be])=H8 at t2 ⊢
  have ew:(false^^r_ (.str "as") [V.str (ak r1 t.2.1).be,V.str (ak r2 t.2.2).be])=false:=by
   rw [QE,show ([V.str (ak r1 t.2.1).be,V.str (ak r2 t.2.2).be]:List V)=([(ak r1 t.2.1).be,(ak r2 t.2.2).be]:List Str).map V.str from rfl,fI]
   refine Qw fun z=>?_
   simp only [Qp,QA,or_false] at z
   exact z.elim (fun h=>(vP rh Ck.1).mp h.symm Ck) (fun h=>(vP gw Cm.1).mp h.symm Cm)
  refine dz (fun c=>nomatch ew.symm.trans c) (fun _=>dJ ?_)
  have s8:=s6.trans t2
  refine aO ⟨(show 3<=sizeLine by decide),fun te Ka=>?_⟩
  have t3:=t2.trans (aa.upd Ka (.tup [.int t.1,.str t.2.1,.str t.2.2]))
  have s9:=s6.trans t3
  have e9:upd H8 te (.tup [.int t.1,.str t.2.1,.str t.2.2]) te=some (.tup ((bq t).map kV)):=aA
  dsimp only
  generalize upd H8 te (.tup [.int t.1,.str t.2.1,.str t.2.2])=H9 at s9 e9 t3 ⊢
  refine ⟨a,b,te,xs,ys,r1,r2,m1,m2,ws,fj,t,rfl,rt.tk s9.ts,dh.tk s9.ts,hw,ji,.inl e9,Ck,Cm,fun qq v1 v2 EW t4 Ke hv1 hv2=>cC Ke ?_⟩
  dsimp only
  have Az:=(rh.ju Ck).2
  have AA:=(gw.ju Cm).2
  have ku:(ak r1 t.2.1).nx=none:=by have:=(List.mem_filter.mp (rh.ju Ck).1).2;simpa using this
  have Be:(ak r2 t.2.2).nx=none:=by have:=(List.mem_filter.mp (gw.ju Cm).1).2;simpa using this
  have us:=(ZH (eu:=ts.map bq) u.1 rfl rfl).mp u
  have y_:∃ m,Hd.ok m (if t.1=1 then ak r1 t.2.1 else ak r2 t.2.2):=by split;exact ⟨_,Az⟩;exact ⟨_,AA⟩
  have za:∃ m,Hd.ok m (if t.1=1 then ak r2 t.2.2 else ak r1 t.2.1):=by split;exact ⟨_,AA⟩;exact ⟨_,Az⟩
  have Dr:Hd.nx (if t.1=1 then ak r1 t.2.1 else ak r2 t.2.2)=none:=by split;exact ku;exact Be
  have Ds:Hd.nx (if t.1=1 then ak r2 t.2.2 else ak r1 t.2.1)=none:=by split;exact Be;exact ku
  obtain ⟨ml,y_⟩:=y_
  obtain ⟨mh,za⟩:=za
  generalize (if t.1=1 then ak r1 t.2.1 else ak r2 t.2.2)=lo at hv1 us y_ Dr
  generalize (if t.1=1 then ak r2 t.2.2 else ak r1 t.2.1)=up at hv2 us za Ds
  refine aO ⟨v1,v2,lo,up,ml,mh,rfl,hv1,hv2,y_,za,Dr,Ds,fun yd t5=>?_⟩
  have Kf:=(s9.trans t4).trans t5
  have t6:=(t3.trans t4).trans t5
  refine ⟨rfl,_,rfl,yr (fun c=>absurd c us.1) (fun _=>⟨rfl,_,rfl,yr (fun c2=>?_) (fun c2=>⟨_,_,_,_,_,_,_,_,_,rfl,q1.trans t6⟩)⟩)⟩
  refine ⟨a,b,te,xs,ys,r1,r2,m1,m2,ws,fj,t,rfl,rt.tk Kf.ts,dh.tk Kf.ts,hw,ji,.inl (t5 _ _ (t4 _ _ e9)),u.1,fun L2' fz Kg NB t7 Po bv=>Or.inl ⟨⟨fz,aj.of Po⟩,?_⟩⟩
  have bl:=bv.len
  have Pp:=Kf.trans t7
  refine cZ (cH fz) (fun j σ' H'=>∃ (G1 G2:Option V),σ'=[some (.ref a),some (.str x),some (.ref b),some (.str y),some (.ref p),some (.ref d1),some (.ref d2),some (.int t.1),some (.str t.2.1),some (.str t.2.2),some (.ref te),some v1,some v2,some (.str (ie lo up)),G1,G2]/\H'=Kg)
   ⟨_,_,rfl,rfl⟩ (by rintro j σ' H' _ ⟨_,_,_,e⟩;(rw [e];exact aj.of Po)) ?_ (by rintro σ' Pq ⟨_,_,e1,e2⟩;(rw [e1,e2];exact ⟨_,_,_,_,_,_,_,_,_,rfl,(q1.trans t6).trans t7⟩))
  rintro j σ' Pq hj ⟨w14,OG,rfl,rfl⟩
  have Pr:j < (AB r1 r2 t).length:=by omega
  obtain ⟨cc,db,de,u1,u2,u3,u4⟩:=bv.at_ j hj Pr
  have J_:fz.getD j .ai=.ref cc:=by rw [Qb,Qa hj,u1];rfl
  rw [J_]
  refine cC u2 ⟨de,p,bq (AB r1 r2 t)[j].2,ps,_,rfl,rfl,.inl u4,.inl (aj.of (Pp _ _ hp)),ks.same Pp,fun r hr=>?_⟩
  have Kd:r=true:=hr.mpr (us.2 c2 _ (Qj Pr))
  subst Kd
  exact ⟨_,rfl,ig ⟨_,_,rfl,rfl⟩⟩
theorem ZI (g1:f_ r1 m1) (g2:f_ r2 m2) {t:bf} (to:qa r1 r2 m1 m2 t) {lo up:Hd} (hl:(if t.1=1 then ak r1 t.2.1 else ak r2 t.2.2)=lo) (hu:(if t.1=1 then ak r2 t.2.2 else ak r1 t.2.1)=up):
  (ie lo up="bad"↔ja r1 r2 t)/\(ie lo up≠"bad"->ie lo up≠"open"->bu r1 r2 t=[])/\(ie lo up="open"->AB r1 r2 t=bu r1 r2 t):=by
 have el:=Pb r1 r2 t
 rw [hl,hu] at el
 have o1:=(g1.ju to.a).2
 have o2:=(g2.ju to.b).2
 unfold ja
 rw [el]
 by_cases n0:up.be="all"\/lo.be="none"
 ·have e1:ie lo up="settled":=by unfold ie;rw [if_pos n0]
  have e2:fh lo up=some []:=by unfold fh;rw [if_pos n0]
  rw [e1,e2]
  exact ⟨⟨fun z=>absurd z (by decide+kernel),fun z=>nomatch z⟩,fun _ _=>by unfold bu;rw [el,e2];rfl,fun z=>absurd z (by decide+kernel)⟩
 ·cases hb:fh lo up with
  | none=>
   have e1:ie lo up="bad":=by unfold ie;rw [if_neg n0,hb]
   rw [e1]
   exact ⟨⟨fun _=>rfl,fun _=>rfl⟩,fun z=>absurd rfl z,fun z=>absurd z (by decide+kernel)⟩
  | some ss=>
   have e1:ie lo up="open":=by unfold ie;rw [if_neg n0,hb]
   rw [e1]
   refine ⟨⟨fun z=>absurd z (by decide+kernel),fun z=>nomatch z⟩,fun _ z=>absurd rfl z,fun _=>?_⟩
   unfold AB bu
   rw [el,hb]
   show List.map _ _=List.map _ ss
   congr 1
   by_cases h1:t.1=1
   ·rw [if_pos h1] at hl hu
    subst hl;subst hu
    exact (mM o1 o2 n0 hb).1
   ·rw [if_neg h1] at hl hu
    subst hl;subst hu
    exact (mM o2 o1 n0 hb).2
def Pu:Sp:=fun vs H Q _=>∃ (a b:Addr) (xs ys:List V) (r1 r2:List aq) (m1 m2 ws fj:List Str) (x y:Str),vs=[.ref a,.str x,.ref b,.str y]/\RT H a xs r1 m1 ws/\RT H b ys r2 m2 fj/\(∀ z∈ws,Wd z)/\(∀ z∈fj,Wd z)/\x∈m1/\y∈m2/\
 (∀ H',aa H H'->(∀ w m,gi (bu r1 r2) (1,endOf r1 x,endOf r2 y) w=some m->¬ja r1 r2 m)->Q .ai H')/\
 ∀ (R:Addr) (us:List V) (w:List Nat) (H':Hp),aa H H'->H' R=some (.tup us)->SV H' us (gb (bu r1 r2) (1,endOf r1 x,endOf r2 y) w)->A5 (bu r1 r2) (ja r1 r2) (1,endOf r1 x,endOf r2 y) w->Q (.ref R) H'
def ye (H:Hp) (F:Addr) (ms:List bf):Prop:=∃ kvs:List (List Key×V),H F=some (.dT kvs)/\kvs.map (·.1)=ms.map bq
theorem ye.same {F:Addr} {ms:List bf} (h:ye H F ms) (s:aa H H'):ye H' F ms:=let ⟨kvs,e,k⟩:=h;⟨kvs,s _ _ e,k⟩
set_option maxHeartbeats 4000000 in
theorem nG (T:Txt K mg w):a_ P w K mg base 5 "_law_beyond" ["_law_told","_law_name","_law_other","_law_twin_name"] Pu:=by
 have bI:a_ P w K mg base 1 "_law_row_here" ["_law_told","_law_name"] EQ:=cR T
 have fJ:a_ P w K mg base 3 "_law_low_high" ["_law_told","_law_other","_law_entry"] JZ:=hU T
 have dD:a_ P w K mg base 2 "_law_state_of" ["_law_low","_law_high"] J7:=gZ T
 have gI:a_ P w K mg base 4 "_law_behind" ["_law_told","_law_other","_law_entry"] J8:=iV T
 refine T.pN.fk bF (fun vs H Q E h=>?_) (fun f bc A outer s H vs Q E hr h=>?_)
 ·refine hdn fun G9 hG=>?_;obtain ⟨a,b,xs,ys,r1,r2,m1,m2,ws,fj,x,y,rfl,_⟩:=h;refine hG ?_
  rfl
 ·refine hdn fun G9 hG=>?_;obtain ⟨a,b,xs,ys,r1,r2,m1,m2,ws,fj,x,y,rfl,rt,dh,hw,ji,hx,hy,kN,kB⟩:=h;refine hG ?_
  have hu:=aU hr
  have bz:=Qx (aU hr)
  have Bb:=lO hr
  have hsz:sizeLine=16777216:=QL
  have rh:=rt.gw hw
  have gw:=dh.gw ji
  have dj:=Xa rt dh
  obtain ⟨rs,g,nm,rl,lu⟩:=rt.good hw
  have hm:∀ z,z∈rs.map (·.1)↔z∈m1:=fun z=>by rw [nm];exact rt.nm.mem_iff
  obtain ⟨jo,g2,Fb,Fc,Fd⟩:=dh.good ji
  have hm2:∀ z,z∈jo.map (·.1)↔z∈m2:=fun z=>by rw [Fb];exact dh.nm.mem_iff
  refine ⟨_,(aC (aX (i:=4) bF.nd rfl (Or.inl rfl) (cP (bD (aT (bD (aT ae) (bD (aT (aD aG (aP (bA bI (hr.mono (by decide)) (aB (zv 0) (aB (zv 1) ae))) (aP (bA bI (hr.mono (by decide)) (aB (zv 2) (aB (zv 3) ae))) ae)))) ae))) ae)))
   (aC (aX (i:=5) bF.nd rfl (Or.inl rfl) Xw)
   (aC (iN PassesOwn.never (aL (gW bz) (zv 4) (cP ae) (cy _)) (aC (aX (i:=6) bF.nd rfl (Or.inl rfl) (cP ae))
   (aC (fU PassesOwn.never rfl (lJ K (zv 4)) (bO K (n:=2) rfl (aI (aJ (i:=7) bF.nd rfl (Or.inl rfl)) (aI (aJ (i:=8) bF.nd rfl (Or.inl rfl)) bE))) (aC (fF (bA fJ (hr.mono (by decide)) (aB (zv 0) (aB (zv 2) (aB (zv 8) ae)))) (bO K (n:=2) rfl (aI (aJ (i:=9) bF.nd rfl (Or.inl rfl)) (aI (aJ (i:=10) bF.nd rfl (Or.inl rfl)) bE))))
   (aC (bN (aL (bP bz) (bA dD (hr.mono (by decide)) (aB (zv 9) (aB (zv 10) ae))) aS (cy _)) (aE (aQ (zv 7))) aV)
   (aE (bN (vT (aL (bP bz) (bA dD (hr.mono (by decide)) (aB (zv 9) (aB (zv 10) ae))) aS (cy _)) (uA (aL (jZ hu) (zv 8) (zv 5) rfl))).pt (aC (zD hu (zv 5) (zv 8) jS rfl)
   (aE (fU PassesOwn.never rfl (lJ K (bA gI (hr.mono (by decide)) (aB (zv 0) (aB (zv 2) (aB (zv 8) ae))))) (bO K (n:=2) rfl (aI (aJ (i:=11) bF.nd rfl (Or.inl rfl)) (aI (aJ (i:=12) bF.nd rfl (Or.inl rfl)) bE))) (aE (dR (lW K QH QJ QK bZ (zv 6) (bD (aT (eZ (bX (jL K) (zv 7) (aT (aB (zv 11) ae))) (aB (zv 12) ae))) ae))))))) aV)))))
   (aE (aX (i:=4) bF.nd rfl (Or.inl rfl) (bK (pI Bb) (by rfl) T.XG PyProof.Rows.boot_sorted (aB (zv 6) ae)))))))
   (aE (aQ iJ))))),?_⟩
  have Pw:qa r1 r2 m1 m2 (1,endOf r1 x,endOf r2 y):=⟨.inl rfl,rh.stay hx,gw.stay hy⟩
  generalize Dk:((1,endOf r1 x,endOf r2 y):bf)=fst at kN kB Pw
  refine aO ⟨(show 0<=sizeLine by decide),fun T0 Px=>?_⟩
  have u0:=aa.upd Px (.tup [])
  have x0:upd H T0 (.tup []) T0=some (.tup []):=aA
  dsimp only
  generalize upd H T0 (.tup [])=J0 at u0 x0 ⊢
  refine ⟨a,xs,rs,_,_,x,rfl,g.ts u0.ts,(hm x).mpr hx,fun J1 u1=>?_⟩
  refine ⟨b,ys,jo,_,_,y,rfl,g2.ts (u0.trans u1).ts,(hm2 y).mpr hy,fun J2 u2=>⟨(show 3<=sizeLine by decide),fun q hq=>?_⟩⟩
  have u3:=aa.upd hq (.tup [.int 1,.str (fg (gr r1) rs.length x),.str (fg (gr r2) jo.length y)])
  have x3:upd J2 q (.tup [.int 1,.str (fg (gr r1) rs.length x),.str (fg (gr r2) jo.length y)]) q=some (.tup ((bq fst).map kV)):=by rw [<- Dk,rl,Fc];exact aA
  generalize upd J2 q (.tup [.int 1,.str (fg (gr r1) rs.length x),.str (fg (gr r2) jo.length y)])=J3 at u3 x3 ⊢
  refine ⟨(show 2<=sizeLine by decide),fun T1 Cf=>⟨(show 1<=sizeLine by decide),fun La Kh=>?_⟩⟩
  have u4:=aa.upd Cf (.tup [.ref T0,.ref q])
  have x4:upd J3 T1 (.tup [.ref T0,.ref q]) T1=some (.tup [.ref T0,.ref q]):=aA
  generalize upd J3 T1 (.tup [.ref T0,.ref q])=J4 at u4 x4 Kh ⊢
  have u5:=aa.upd Kh (.lst [.ref T1])
  have x5:upd J4 La (.lst [.ref T1]) La=some (.lst [.ref T1]):=aA
  generalize upd J4 La (.lst [.ref T1])=J5 at u5 x5 ⊢
  have Kl:aa H J5:=((((u0.trans u1).trans u2).trans u3).trans u4).trans u5
  have Py:jw r1 r2 fst J5 [.ref T1] [(fst,[])]:=jw.nil.snoc (p:=(fst,[])) (u5 _ _ x4) (((((u1.trans u2).trans u3).trans u4).trans u5) _ _ x0) SV.nil ((u4.trans u5) _ _ x3)
  refine aO fun F hF=>?_
  have u6:=aa.upd hF (.dT [])
  have x6:ye (upd J5 F (.dT [])) F []:=⟨[],aA,rfl⟩
  have ZJ:H F=none:=Kl.free hF
  dsimp only
  generalize upd J5 F (.dT [])=J6 at u6 x6 ⊢
  have ZK:=Kl.trans u6
  have ZL:=BY.start (r1:=r1) (r2:=r2) (m1:=m1) (m2:=m2) Pw
  have ZM:=Py.same u6
  have ZN:=u6 _ _ x5
  clear u0 u1 u2 u3 u4 u5 u6 x0 x3 x4 x5 Kl Py Px hq Cf Kh hF
  refine bC (fun σ' H'=>aa H H'/\∀ w m,gi (bu r1 r2) fst w=some m->¬ja r1 r2 m) ?_ ?_
  ·intro nx dc
   refine ⟨fun mm σ' H'=>∃ (v6 v7 v8 v9 v10 v11 jf:Option V) (Lr:Addr) (us:List V) (D st:List (bf×List Nat)) (ms:List bf) (i len:Nat),σ'=[some (.ref a),some (.str x),some (.ref b),some (.str y),some (.ref Lr),some (.ref F),v6,v7,v8,v9,v10,v11,jf]/\ye H' F ms/\H' Lr=some (.lst us)/\jw r1 r2 fst H' us D/\BY r1 r2 m1 m2 fst i st ms D [] len/\len+mm<=900/\aa H H'/\(mm=2*(400 - ms.length)+if D=[] then 0 else 1),
    ⟨_,none,none,none,none,none,none,none,La,[.ref T1],[(fst,[])],_,[],0,0,rfl,x6,ZN,ZM,ZL,by simp,ZK,rfl⟩,?_⟩
   rintro mm σ' H5 ⟨v6,v7,v8,v9,v10,v11,jf,Lr,us,D,st,ms,i,len,rfl,q1,q3,q4,q5,q9,Fe,rfl⟩
   have Dm:=q4.len
   refine ⟨(show 0<=sizeLine by decide),fun l0 jl=>?_⟩
   have w1:=aa.upd jl (.lst [])
   have w2:upd H5 l0 (.lst []) l0=some (.lst []):=aA
   have ZO:Lr≠l0:=fun z=>by rw [<- z,q3] at jl;cases jl
   generalize upd H5 l0 (.lst [])=H6 at w1 w2 ⊢
   refine ⟨ZO,us,w1 _ _ q3,w2,_,rfl,dz (fun c=>?_) (fun c=>?_)⟩
   ·have hP:D≠[]:=fun z=>by
     rw [z] at Dm
     rw [QS Dm] at c
     simp at c
    rw [if_neg hP] at q9 ⊢
    have q1:=q1.same w1
    have q3:=w1 _ _ q3
    have q4:=q4.same w1
    have Fe:=Fe.trans w1
    have abD:=q5.few rh gw
    refine ⟨fun σ' H'=>∃ (v6 v7 v8 v9 v10 v11 jf:Option V) (Lr:Addr) (us:List V) (D2 gf:List (bf×List Nat)) (gq:List bf) (i2:Nat),σ'=[some (.ref a),some (.str x),some (.ref b),some (.str y),some (.ref Lr),some (.ref F),v6,v7,v8,v9,v10,v11,jf]/\ye H' F gq/\H' Lr=some (.lst us)/\jw r1 r2 fst H' us D2/\BY r1 r2 m1 m2 fst i2 gf gq D2 [] (len+1)/\D2.length<=10*(gq.length - ms.length)/\ms.length<=gq.length/\aa H H',?_,?_⟩
    ·rintro σ' H' z0;refine hdn fun G9 hG=>?_;obtain ⟨v6,v7,v8,v9,v10,v11,jf,Lr,us,D2,gf,gq,i2,rfl,z1,z2,z3,z4,z5,z6,z7⟩:=z0;refine hG ?_
     have GZ:=z4.few rh gw
     have Jq:(2*(400 - gq.length)+if D2=[] then 0 else 1) < 2*(400 - ms.length)+1:=by
      by_cases h0:gq.length=ms.length
      ·have:D2=[]:=QS (by omega)
       rw [if_pos this];omega
      ·split<;>omega
     exact ⟨_,Jq,v6,v7,v8,v9,v10,v11,jf,Lr,us,D2,gf,gq,i2,len+1,rfl,z1,z2,z3,z4,by omega,z7,rfl⟩
    refine aO ⟨(show 0<=sizeLine by decide),fun Lt Du=>?_⟩
    have w3:=aa.upd Du (.lst [])
    have w4:upd H6 Lt (.lst []) Lt=some (.lst []):=aA
    have ZP:H Lt=none:=Fe.free Du
    obtain ⟨kvs,e1,e2⟩:=q1
    have Pz:Lt≠F:=fun z=>by rw [z,e1] at Du;cases Du
    have ZQ:Lt≠Lr:=fun z=>by rw [z,q3] at Du;cases Du
    have ZR:F≠Lr:=fun z=>by rw [z,q3] at e1;cases e1
    have q1:ye H6 F ms:=⟨kvs,e1,e2⟩
    dsimp only
    generalize upd H6 Lt (.lst [])=H7 at w3 w4 ⊢
    refine bC (fun σ' H'=>∃ (v7 v8 v9 v10 v11 jf:Option V) (fz:List V) (N gf:List (bf×List Nat)) (gq:List bf) (i2:Nat),σ'=[some (.ref a),some (.str x),some (.ref b),some (.str y),some (.ref Lr),some (.ref F),some (.ref Lt),v7,v8,v9,v10,v11,jf]/\ye H' F gq/\H' Lt=some (.lst fz)/\jw r1 r2 fst H' fz N/\BY r1 r2 m1 m2 fst i2 gf gq [] N len/\N.length<=10*(gq.length - ms.length)/\ms.length<=gq.length/\aa H H') ?_ ?_
    ·intro ku v_
     refine .inl ⟨⟨us,aj.of (w3 _ _ q3)⟩,?_⟩
     refine cZ (cH us) (fun j σ' H'=>∃ (v7 v8 v9 v10 v11 jf:Option V) (fz:List V) (N gf:List (bf×List Nat)) (gq:List bf) (i2:Nat),σ'=[some (.ref a),some (.str x),some (.ref b),some (.str y),some (.ref Lr),some (.ref F),some (.ref Lt),v7,v8,v9,v10,v11,jf]/\ye H' F gq/\H' Lt=some (.lst fz)/\jw r1 r2 fst H' fz N/\BY r1 r2 m1 m2 fst i2 gf gq (D.drop j) N len/\N.length<=10*(gq.length - ms.length)/\ms.length<=gq.length/\H' Lr=some (.lst us)/\jw r1 r2 fst H' us D/\aa H H')
      ⟨v7,v8,v9,v10,v11,jf,[],[],st,ms,i,rfl,q1.same w3,w4,jw.nil,by simpa using q5,by simp,Qy _,w3 _ _ q3,q4.same w3,Fe.trans w3⟩ (by rintro j σ' H' _ ⟨_,_,_,_,_,_,_,_,_,_,_,_,_,_,_,_,_,_,h,_⟩;exact aj.of h) ?_ ?_
     ·rintro j σ' H8 hj z0;refine hdn fun G9 hG=>?_;obtain ⟨v7,v8,v9,v10,v11,jf,fz,N,gf,gq,i2,rfl,z1,z2,z3,z4,z5,z6,z7,z8,z9⟩:=z0;refine hG ?_
      have PB:j < D.length:=by omega
      refine hdn fun G9 hG=>?_;obtain ⟨c,bb,e,yy,c1,c2,c3,c4,c5⟩:=z8.at_ j hj PB;refine hG ?_
      have eg:us.getD j .ai=.ref c:=by rw [Qb,Qa hj,c1];rfl
      rw [eg]
      rw [List.drop_eq_getElem_cons PB] at z4
      generalize D[j]=d at c4 c5 z4
      have to:=z4.B7
      refine cC c2 ?_
      dsimp only
      refine ⟨a,b,e,xs,ys,r1,r2,m1,m2,ws,fj,d.1,rfl,rt.tk z9.ts,dh.tk z9.ts,hw,ji,.inl c5,to.a,to.b,fun qq v1 v2 H9 t4 Ke hv1 hv2=>cC Ke ?_⟩
      dsimp only
      have Az:=(rh.ju to.a).2
      have AA:=(gw.ju to.b).2
      have PF:(ak r1 d.1.2.1).nx=none:=by have:=(List.mem_filter.mp (rh.ju to.a).1).2;simpa using this
      have PJ:(ak r2 d.1.2.2).nx=none:=by have:=(List.mem_filter.mp (gw.ju to.b).1).2;simpa using this
      have y_:∃ m,Hd.ok m (if d.1.1=1 then ak r1 d.1.2.1 else ak r2 d.1.2.2):=by split;exact ⟨_,Az⟩;exact ⟨_,AA⟩
      have za:∃ m,Hd.ok m (if d.1.1=1 then ak r2 d.1.2.2 else ak r1 d.1.2.1):=by split;exact ⟨_,AA⟩;exact ⟨_,Az⟩
      have Dr:Hd.nx (if d.1.1=1 then ak r1 d.1.2.1 else ak r2 d.1.2.2)=none:=by split;exact PF;exact PJ
      have Ds:Hd.nx (if d.1.1=1 then ak r2 d.1.2.2 else ak r1 d.1.2.1)=none:=by split;exact PJ;exact PF
      have Km:=ZI rh gw to rfl rfl
      obtain ⟨ml,y_⟩:=y_
      obtain ⟨mh,za⟩:=za
      generalize TF:(if d.1.1=1 then ak r1 d.1.2.1 else ak r2 d.1.2.2)=lo at hv1 Km y_ Dr
      generalize hup:(if d.1.1=1 then ak r2 d.1.2.2 else ak r1 d.1.2.1)=up at hv2 Km za Ds
      obtain ⟨hb1,uo,ZS⟩:=Km
      refine ⟨v1,v2,lo,up,ml,mh,rfl,hv1,hv2,y_,za,Dr,Ds,fun EW t5=>?_⟩
      have Ff:=t4.trans t5
      refine ⟨rfl,_,rfl,yr (fun cb=>?_) (fun cb=>?_)⟩
      ·exact kB bb yy d.2 EW (z9.trans Ff) (Ff _ _ c3) (c4.same Ff) (z4.bad (hb1.mp cb))
      have Ko:¬ja r1 r2 d.1:=fun z=>cb (hb1.mpr z)
      refine ⟨v1,v2,lo,up,ml,mh,rfl,hv1.same t5,hv2.same t5,y_,za,Dr,Ds,fun yd t6=>?_⟩
      have zb:=Ff.trans t6
      have y1:=z1.same zb
      have y2:=zb _ _ z2
      have y3:=z3.same zb
      have y7:=zb _ _ z7
      have y8:=z8.same zb
      have y9:=z9.trans zb
      have d3:=zb _ _ c3
      have d4:=c4.same zb
      have d5:=zb _ _ c5
      clear c3 c4 c5 z1 z2 z3 z7 z8 z9 hv1 hv2 t4 t5 t6 Ff zb
      refine ⟨rfl,_,rfl,yr (fun co=>?_) (fun co=>?_)⟩
      ·obtain ⟨rj,k1,k2⟩:=y1
       have AE:(cg rj (bq d.1)).isSome=true↔d.1∈gq:=by
        rw [WL,k2]
        constructor
        ·intro h
         obtain ⟨t',h1,h2⟩:=List.mem_map.mp h
         rw [<- jK h2];exact h1
        ·intro h;exact List.mem_map.mpr ⟨_,h,rfl⟩
       have kl:rj.length=gq.length:=by have:=congrArg List.length k2;simpa using this
       have GZ:=z4.few rh gw
       refine ⟨F,cg rj (bq d.1),rfl,fu.t k1 d5,_,rfl,dz (fun cc=>?_) (fun cc=>?_)⟩
       ·have AL:d.1 ∉ gq:=fun z=>by
         rw [AE.mpr z] at cc;cases cc
        have ZT:cg rj (bq d.1)=none:=by
         cases hv:cg rj (bq d.1) with
         | none=>rfl
         | some v=>exact absurd (AE.mp (by rw [hv];rfl)) AL
        have zx:=z4.expand rh gw Ko AL
        have ZU:=zx.few rh gw
        rw [Qk] at ZU
        have abF:(bu r1 r2 d.1).length<=10:=by
         unfold bu
         cases hl:gh r1 r2 d.1 with
         | none=>simp
         | some ss=>simpa using vG rh gw to.a to.b hl
        refine bC (fun σ' H'=>σ'=[some (.ref a),some (.str x),some (.ref b),some (.str y),some (.ref Lr),some (.ref F),some (.ref Lt),some (.ref bb),some (.ref e),some v1,some v2,v11,jf]/\H'=upd yd F (.dT (rj++[(bq d.1,.bl true)]))) (fun Be Kp=>⟨F,_,rfl,AM.t k1 d5 (by omega),Kp _ _ ⟨rfl,by rw [L2.dE _ ZT]⟩⟩) ?_
        rintro σ' Kg ⟨rfl,rfl⟩
        have tk:Tk yd (upd yd F (.dT (rj++[(bq d.1,.bl true)]))):=(Tk.refl).set k1 fun _ z=>nomatch z
        have zc:∀ b' ys,au yd b' ys->au (upd yd F (.dT (rj++[(bq d.1,.bl true)]))) b' ys:=fun b' ys h=>h.put k1 (fun _ z=>nomatch z) (fun _ _ z=>nomatch z)
        have p1:ye (upd yd F (.dT (rj++[(bq d.1,.bl true)]))) F (gq++[d.1]):=⟨_,aA,by rw [Qm,Qm,k2];rfl⟩
        have p2:upd yd F (.dT (rj++[(bq d.1,.bl true)])) Lt=some (.lst fz):=by rw [aF Pz];exact y2
        have p3:=y3.keep tk zc
        have p7:upd yd F (.dT (rj++[(bq d.1,.bl true)])) Lr=some (.lst us):=by rw [aF ZR.symm];exact y7
        have p8:=y8.keep tk zc
        have p9:aa H (upd yd F (.dT (rj++[(bq d.1,.bl true)]))):=y9.put ZJ
        have g3:=tk _ _ d3
        have g4:=d4.keep zc
        have g5:=tk _ _ d5
        generalize upd yd F (.dT (rj++[(bq d.1,.bl true)]))=Kg at p1 p2 p3 p7 p8 p9 g3 g4 g5 ⊢
        clear tk zc y2 y3 y7 y8 y9 d3 d4 d5 k1
        refine ⟨a,b,e,xs,ys,r1,r2,m1,m2,ws,fj,d.1,rfl,rt.tk p9.ts,dh.tk p9.ts,hw,ji,.inl g5,to,fun L ks Pq hL AD eL bv=>.inl ⟨⟨ks,aj.of eL⟩,?_⟩⟩
        rw [ZS co] at bv
        have kl2:=bv.len
        have kwl:=xP (nx:=bu r1 r2) d
        have ZV:L≠Lt:=fun z=>by rw [z,p2] at hL;cases hL
        have abI:=(g4.same AD).len
        have Tz:(gb (bu r1 r2) fst d.2).length<=900:=by
         have h1:=z4.dl d List.mem_cons_self
         have h2:=wG z4.IQ
         omega
        refine cZ (cH ks) (fun t σ' H'=>∃ (v11 jf:Option V) (xo:List V),σ'=[some (.ref a),some (.str x),some (.ref b),some (.str y),some (.ref Lr),some (.ref F),some (.ref Lt),some (.ref bb),some (.ref e),some v1,some v2,v11,jf]/\H' Lt=some (.lst xo)/\jw r1 r2 fst H' xo (N++(jh (bu r1 r2) d).take t)/\ye H' F (gq++[d.1])/\H' Lr=some (.lst us)/\jw r1 r2 fst H' us D/\H' bb=some (.tup yy)/\SV H' yy (gb (bu r1 r2) fst d.2)/\aa H H'/\H' L=some (.lst ks)/\om H' ks (bu r1 r2 d.1))
         ⟨v11,jf,fz,rfl,AD _ _ p2,by simpa using p3.same AD,p1.same AD,AD _ _ p7,p8.same AD,AD _ _ g3,g4.same AD,p9.trans AD,eL,bv⟩ (by rintro t σ' H' _ ⟨_,_,_,_,_,_,_,_,_,_,_,_,h,_⟩;exact aj.of h) ?_ ?_
        ·rintro t σ' Kq ht z0;refine hdn fun G9 hG=>?_;obtain ⟨v11,jf,xo,rfl,x1,x2,x3,x5,x6,x7,x8,x9,PK,Kr⟩:=z0;refine hG ?_
         have Dn:t < (bu r1 r2 d.1).length:=by omega
         have wq:t < (jh (bu r1 r2) d).length:=by omega
         obtain ⟨ZW,sb,se,n1,n2,n3,n4⟩:=Kr.at_ t ht Dn
         have ZX:ks.getD t .ai=.ref ZW:=by rw [Qb,Qa ht,n1];rfl
         rw [ZX]
         have ZY:=x2.len
         rw [Qk,List.length_take] at ZY
         obtain ⟨PL,PM⟩:=xD z4.IQ (Qa Dn) wq
         rw [show (jh (bu r1 r2) d).take (t+1)=(jh (bu r1 r2) d).take t++[(jh (bu r1 r2) d)[t]] by rw [Qs,Qa wq];rfl,<- QQ]
         generalize (bu r1 r2 d.1)[t]=pp at n3 n4 PL PM
         refine cC n2 ?_
         dsimp only
         have ysl:=x8.len
         refine ⟨.inl ⟨rfl,_,aj.of x1⟩,(show 1<=sizeLine by decide),fun T8 Ba=>?_⟩
         have Dq:=aa.upd Ba (.tup [.ref sb])
         have PN:upd Kq T8 (.tup [.ref sb]) T8=some (.tup [.ref sb]):=aA
         dsimp only
         generalize upd Kq T8 (.tup [.ref sb])=H15 at Dq PN
         refine ED (Dq _ _ x7) PN (by simp;omega) fun fr PP ZZ Z0=>⟨(show 2<=sizeLine by decide),fun T9 Z1=>?_⟩
         have Ks:=aa.upd Z1 (.tup [.ref fr,.ref se])
         have PU:upd PP T9 (.tup [.ref fr,.ref se]) T9=some (.tup [.ref fr,.ref se]):=aA
         generalize upd PP T9 (.tup [.ref fr,.ref se])=G3 at Ks PU
         have sA:=(Dq.trans ZZ).trans Ks
         have Ku:=sA _ _ x1
         have tk:Tk G3 (upd G3 Lt (.lst (xo++[.ref T9]))):=(Tk.refl).set Ku fun _ z=>nomatch z
         have zc:∀ b' ys,au G3 b' ys->au (upd G3 Lt (.lst (xo++[.ref T9]))) b' ys:=fun b' ys h=>h.put Ku (fun _ z=>nomatch z) (fun _ _ z=>nomatch z)
         obtain ⟨Z2,f1,f2⟩:=x3
         refine ⟨Lt,xo,.ref T9,rfl,rfl,Ku,by omega,_,_,xo++[.ref T9],rfl,aA,?_,⟨Z2,by rw [aF Pz.symm];exact sA _ _ f1,f2⟩,by rw [aF ZQ.symm];exact sA _ _ x5,(x6.same sA).keep tk zc,tk _ _ (sA _ _ x7),(x8.same sA).keep zc,(x9.trans sA).put ZP,by rw [aF ZV];exact sA _ _ PK,(Kr.same sA).keep tk zc⟩
         rw [PL]
         refine ((x2.same sA).keep tk zc).snoc (p:=(pp.2,d.2++[t])) (tk _ _ PU) (tk _ _ (Ks _ _ Z0)) ?_ (tk _ _ (sA _ _ n4))
         show SV _ _ (gb (bu r1 r2) fst (d.2++[t]))
         rw [PM]
         exact SV.keep ((x8.same sA).append (SV.one (n3.same sA))) zc
        ·rintro σ' Kq z0;refine hdn fun G9 hG=>?_;obtain ⟨v11,jf,xo,rfl,x1,x2,x3,x5,x6,x7,x8,x9,PK,Kr⟩:=z0;refine hG ?_
         rw [show ks.length=(jh (bu r1 r2) d).length by omega,Qo] at x2
         refine ⟨_,_,_,_,_,_,xo,_,_,_,_,rfl,x3,x1,x2,zx,?_,?_,x5,x6,x9⟩
         ·rw [Qk,Qk,List.length_singleton];omega
         ·rw [Qk];omega
       ·have gm:d.1∈gq:=AE.mp (by cases hz:(cg rj (bq d.1)).isSome with | true=>rfl | false=>rw [hz] at cc;cases cc)
        exact ⟨_,_,_,_,_,_,fz,N,gf,gq,_,rfl,⟨rj,k1,k2⟩,y2,y3,z4.old Ko gm,z5,z6,y7,y8,y9⟩
      ·exact ⟨_,_,_,_,_,_,fz,N,gf,gq,_,rfl,y1,y2,y3,z4.leaf Ko (uo cb co),z5,z6,y7,y8,y9⟩
     ·rintro σ' H8 z0;refine hdn fun G9 hG=>?_;obtain ⟨v7,v8,v9,v10,v11,jf,fz,N,gf,gq,i2,rfl,z1,z2,z3,z4,z5,z6,z7,z8,z9⟩:=z0;refine hG ?_
      rw [Dm,List.drop_length] at z4
      exact v_ _ _ ⟨v7,v8,v9,v10,v11,jf,fz,N,gf,gq,i2,rfl,z1,z2,z3,z4,z5,z6,z9⟩
    ·rintro σ' H8 z0;refine hdn fun G9 hG=>?_;obtain ⟨v7,v8,v9,v10,v11,jf,fz,N,gf,gq,i2,rfl,z1,z2,z3,z4,z5,z6,z7⟩:=z0;refine hG ?_
     have nl:=z3.len
     have GZ:=z4.few rh gw
     refine ⟨Lt,fz,N.map fun d=>gb (bu r1 r2) fst d.2,rfl,z2,by omega,⟨by simp [nl],fun j h1 h2=>?_⟩,fun j hj=>?_,fun L hL=>?_⟩
     ·refine hdn fun G9 hG=>?_;obtain ⟨c,bb,e,yy,c1,c2,c3,c4,c5⟩:=z3.at_ j h1 (by omega);refine hG ?_
      exact ⟨c,bb,yy,[.ref e],c1,c2,c3,by rw [Qr];exact c4⟩
     ·rw [Qr,Qr]
      exact z4.rise dj j (by simpa using hj)
     ·have w5:=aa.upd hL (.lst fz)
      exact ⟨_,_,_,_,_,_,_,L,fz,N,gf,gq,i2,rfl,z1.same w5,aA,z3.same w5,z4.turn,z5,z6,z7.trans w5⟩
   ·have hP:D=[]:=by
     cases us with
     | nil=>exact QS (by simpa using Dm.symm)
     | cons u us=>simp at c
    subst hP
    exact dc _ _ ⟨Fe.trans w1,q5.fin⟩
  ·rintro σ' H5 ⟨q1,q2⟩
   exact kN H5 q1 q2
def PV (mg:Str->Option Value):Sp:=fun vs H Q _=>∃ (a b:Addr) (xs ys:List V) (r1 r2:List aq) (m1 m2 ws fj:List Str) (x y:Str),vs=[.ref a,.str x,.ref b,.str y]/\RT H a xs r1 m1 ws/\RT H b ys r2 m2 fj/\(∀ z∈ws,Wd z)/\(∀ z∈fj,Wd z)/\Kn mg H "FROM" [.str "from"]/\Kn mg H "TO" [.str "to"]/\x∈m1/\y∈m2/\
 (∀ H',aa H H'->(∀ w m,gi (bu r1 r2) (1,endOf r1 x,endOf r2 y) w=some m->¬ja r1 r2 m)->Q (.bl true) H')/\
 ∀ w H',aa H H'->A5 (bu r1 r2) (ja r1 r2) (1,endOf r1 x,endOf r2 y) w->Q (.bl false) H'
theorem m6 (T:Txt K mg w):a_ P w K mg base 6 "lies_within" ["T","x","S","y"] (PV mg):=by
 have E_:Ei P w K mg base 4 "Net" (adr mg "Net") ["self","T"] (Jv mg):=zH T
 have iE:a_ P w K mg base 3 "looked_at" ["left","x","right","y"] (JO K mg):=jD T
 refine T.nI.fk fC (fun vs H Q E h=>?_) (fun f bc A outer s H vs Q E hr h=>?_)
 ·refine hdn fun G9 hG=>?_;obtain ⟨a,b,xs,ys,r1,r2,m1,m2,ws,fj,x,y,rfl,_⟩:=h;refine hG ?_
  rfl
 ·refine hdn fun G9 hG=>?_;obtain ⟨a,b,xs,ys,r1,r2,m1,m2,ws,fj,x,y,rfl,rt,dh,hw,ji,kf,kt,hx,hy,kA,kB⟩:=h;refine hG ?_
  have hu:=aU hr
  have bz:=Qx (aU hr)
  refine ⟨_,(aC (fF (bA iE (hr.mono (by decide)) (aP (oW E_ (hr.mono (by decide)) (aB (zv 0) ae)) (aB (zv 1) (aP (oW E_ (hr.mono (by decide)) (aB (zv 2) ae)) (aB (zv 3) ae))))) (bO K (n:=2) rfl (aI (aJ (i:=4) fC.nd rfl (Or.inl rfl)) (aI (aJ (i:=5) fC.nd rfl (Or.inl rfl)) bE))))
   (aE (aQ (mY pC (zv 5) iJ (cy _))))),?_⟩
  refine fun n dn hn JT ne=>?_
  have s0:aa H (upd (upd H dn (.own n)) n (.ins (adr mg "Net") dn [])):=(aa.upd JT _).trans (aa.upd (by rw [aF ne.symm];exact hn) _)
  refine ⟨n,dn,a,xs,r1,m1,ws,rfl,aA,rt.tk s0.ts,hw,kf.same s0,kt.same s0,fun H2 JU sx=>⟨rfl,?_⟩⟩
  have s2:aa H H2:=fun b o e=>sx b o (fun z=>by rw [z,hn] at e;cases e) (s0 b o e)
  have nv:=JU.Gm (K:=K) (rt.gw hw)
  refine fun n' Cj wk JV ne'=>?_
  have Ay:aa H2 (upd (upd H2 Cj (.own n')) n' (.ins (adr mg "Net") Cj [])):=(aa.upd JV _).trans (aa.upd (by rw [aF ne'.symm];exact wk) _)
  refine ⟨n',Cj,b,ys,r2,m2,fj,rfl,aA,dh.tk (s2.trans Ay).ts,ji,kf.same (s2.trans Ay),kt.same (s2.trans Ay),fun H3 JW Cc=>⟨rfl,?_⟩⟩
  have s3:aa H2 H3:=fun b o e=>Cc b o (fun z=>by rw [z,wk] at e;cases e) (Ay b o e)
  have JX:=JW.Gm (K:=K) (dh.gw ji)
  have Bd:=s2.trans s3
  refine ⟨n,n',r1,r2,m1,m2,x,y,rfl,⟨nv.same s3,JX,rt.gw hw,dh.gw ji⟩,kf.same Bd,hx,hy,fun r L xs i st H4 mz hL s4 e1 e2 ks li hl=>?_,fun r L R xs us i st c H4 mz hL s4 e1 e2 ks e3 sv li hc hn=>?_⟩
  ·exact cC e1 (kA H4 (Bd.trans s4) fun w m hw=>wR mz li hl hw)
  ·obtain ⟨w',l1,_⟩:=sZ mz li hc hn
   exact cC e1 (kB w' H4 (Bd.trans s4) l1)
theorem zK {f:bf} {st:je} (e:st=jv r1 r2 f i) (li:LI r1 r2 m1 m2 i st) (hl:st.length=i):OR r1 r2 m1 m2 f (st.map (·.1)):=by
 refine ⟨?_,fun t ht=>?_⟩
 ·rw [vV] at e
  obtain ⟨sw,g⟩:=zG (nx:=bu r1 r2) f i (by rw [<- e];omega)
  rw [<- e] at g
  rw [<- g.ln]
  exact List.mem_map.mpr ⟨(f,[]),QC g.bw.z,rfl⟩
 ·obtain ⟨c,hc,rfl⟩:=List.mem_map.mp ht
  obtain ⟨k,hk,ek⟩:=Qi hc
  obtain ⟨ss,h1,h2⟩:=li.cl k c (by omega) (by rw [Qa hk,ek])
  exact ⟨li.ok c hc,ss,h1,fun s hs=>List.mem_map.mpr ⟨_,h2 s hs,rfl⟩⟩
def Kv (K:Q0) (mg:Str->Option Value):Sp:=fun vs H Q _=>∃ (a:Addr) (ns:List Int),vs=[.ref a]/\aj K H a (ns.map V.int)/\ns.length<=63/\(Kn mg H "FROM" [.str "from"]/\Kn mg H "TO" [.str "to"])/\∀ H',Q (.bl true) H'
theorem zF {ns:List Int} (hs:aj K H a (ns.map V.int)) (hp:H p=none):b_ K H (upd H p (.lst [.ref a,.int 0,.int 0])) p 0:=by
 refine ⟨⟨a,ns,0,0,aA,fun H' sm=>?_,by omega,by omega⟩,(aa.upd hp _).sm⟩
 rcases hs with h | h
 ·refine .inl ?_
  have n:a≠p:=fun z=>by rcases h with h | ⟨o,h⟩<;>(rw [z,hp] at h;cases h)
  exact h.imp (fun e=>sm _ _ e n n) fun ⟨o,e⟩=>⟨o,sm _ _ e n n⟩
 ·exact .inr h
theorem Kn.PY {t:Nat} {ys:List V} (h:Kn mg H0 x ys) (hp:H0 p=none) (hn:b_ K H0 H p t):Kn mg H x ys:=by
 obtain ⟨o,e⟩:=h
 have n:adr mg x≠p:=fun z=>by rw [z,hp] at e;cases e
 exact ⟨o,hn.sm _ _ e n n⟩
set_option maxHeartbeats 4000000 in
theorem Z3 (T:Txt K mg w):a_ P w K mg base 14 "law" ["script"] (Kv K mg):=by
 have sY:a_ P w K mg base 7 "_law_close" ["_law_pen","_law_most"] (Oq K):=qG T
 have zN:a_ P w K mg base 6 "within" ["T","x","S","y"] (OQ mg):=yS T
 have nM:a_ P w K mg base 6 "lies_within" ["T","x","S","y"] (PV mg):=m6 T
 have qH:a_ P w K mg base 5 "_law_beyond" ["_law_told","_law_name","_law_other","_law_twin_name"] Pu:=nG T
 have i4:a_ P w K mg base 5 "_law_is_within_paper" ["_law_told","_law_name","_law_other","_law_twin_name","_law_paper"] Pd:=gR T
 refine T.Nb.fk dZ (fun vs H Q E h=>?_) (fun f bc A outer s H vs Q E hr h=>?_)
 ·obtain ⟨a,ns,rfl,_⟩:=h
  rfl
 ·refine hdn fun G9 hG=>?_;obtain ⟨sc,cells,rfl,Z4,abL,⟨kf,kt⟩,k⟩:=h;refine hG ?_
  have hu:=aU hr
  have bz:=Qx (aU hr)
  have Z5:=zY hr
  have hsz:sizeLine=16777216:=QL
  have hw:∀ z∈WW,Wd z:=fun z hz=>(Ni z hz).2
  refine ⟨_,(aC (aX (i:=1) dZ.nd rfl (Or.inl rfl) (cP (aB (zv 0) (aD aG (aD aG ae)))))
   (aC (fU PassesOwn.never rfl (lV (by rfl) T.pF (aD aG ae)) (aJ (i:=2) dZ.nd rfl (Or.inl rfl)) (aC (fF (bA sY (hr.mono (by decide)) (aB (zv 1) (aD aG ae))) (bO K (n:=4) rfl (aI (aJ (i:=3) dZ.nd rfl (Or.inl rfl)) (aI (aJ (i:=4) dZ.nd rfl (Or.inl rfl)) (aI (aJ (i:=5) dZ.nd rfl (Or.inl rfl)) (aI (aJ (i:=6) dZ.nd rfl (Or.inl rfl)) bE))))))
   (aC (aX (i:=7) dZ.nd rfl (Or.inl rfl) (bA qH (hr.mono (by decide)) (aB (zv 3) (aB (zv 4) (aB (zv 5) (aB (zv 6) ae))))))
   (aC (fU PassesOwn.never rfl (lV (by rfl) T.pF (aD aG ae)) (aJ (i:=8) dZ.nd rfl (Or.inl rfl)) (aC (aX (i:=9) dZ.nd rfl (Or.inl rfl) (bA zN (hr.mono (by decide)) (aB (zv 3) (aB (zv 4) (aB (zv 5) (aB (zv 6) ae))))))
   (aC (bN (qA (rD (kX (bK iU (by rfl) T.dA PyProof.Rows.boot_isinstance (aB (zv 9) (aB (mP (v:=.ty "tuple") (by rfl) T.dP QG rfl) ae))))) (mR (aL (gW bz) (bK (bT K) (by rfl) T.uw PySem.boot_len (aB (zv 9) ae)) aG (cy _)))).pt (aE (aQ jS)) aV)
   (aE (bN (aL wJ (zv 7) iJ (cy _)) (aE (bN (aL (Xq Z5) (zv 9) (aT (aD aS (aB (zv 7) ae))) (cy _)) (aE (aQ jS)) aV)) (aC (bN (qA (aL (gW bz) (aY (aZ K) (zv 9) aG (fun _ _=>rfl)) aS (cy _)) (mR (rD (kX (bK iU (by rfl) T.dA PyProof.Rows.boot_isinstance (aH (aY (aZ K) (zv 9) aG (fun _ _=>rfl)) (aB (mP (v:=.ty "list") (by rfl) T.tL PyProof.Rows.boot_list rfl) ae))))))).pt (aE (aQ jS)) aV)
   (aC (fU PassesOwn.never rfl (lJ K (aY (aZ K) (zv 9) aG (fun _ _=>rfl))) (aJ (i:=10) dZ.nd rfl (Or.inl rfl)) (aE (bN (qA (rD (kX (bK xM (by rfl) T.dA PyProof.Rows.boot_isinstance (aB (zv 10) (aB (mP (v:=.ty "tuple") (by rfl) T.dP QG rfl) ae))))) (qA (aL (gW bz) (bK (bT K) (by rfl) T.uw PySem.boot_len (aB (zv 10) ae)) aG (cy _)) (mR (kX (bK iU (by rfl) T.dA PyProof.Rows.boot_isinstance (aH (aY (aZ K) (zv 10) aG (fun _ _=>rfl)) (aB (mP (v:=.ty "bool") (by rfl) T.Na PyProof.Rows.boot_bool rfl) ae))))))).pt (aE (aQ jS)) aV)))
   (aC (bN (rD (kX (bA i4 (hr.mono (by decide)) (aB (zv 3) (aB (zv 4) (aB (zv 5) (aB (zv 6) (aH (aY (aZ K) (zv 9) aG (fun _ _=>rfl)) ae)))))))) (aE (aQ jS)) aV)
   (aE (dR (Wz K QH PySem.F.slot_list_clear PySem.F.type_list_clear Td (aY (aZ K) (zv 9) aG (fun _ _=>rfl)))))))))))))
   (aC (aX (i:=11) dZ.nd rfl (Or.inl rfl) (bA nM (hr.mono (by decide)) (aB (zv 3) (aB (zv 4) (aB (zv 5) (aB (zv 6) ae))))))
   (aE (bN (qA (rD (kX (bK iU (by rfl) T.dA PyProof.Rows.boot_isinstance (aB (zv 11) (aB (mP (v:=.ty "bool") (by rfl) T.Na PyProof.Rows.boot_bool rfl) ae))))) (mR (aL (gW bz) (zv 11) (mY pC (zv 7) iJ (cy _)) (cy _)))).pt (aE (aQ jS)) aV)))))))
   (aE (aQ jS)))),?_⟩
  refine aO ⟨(show 3<=sizeLine by decide),fun p hp=>?_⟩
  have PZ:=zF Z4 hp
  dsimp only
  generalize upd H p (.lst [.ref sc,.int 0,.int 0])=H1 at PZ
  refine bC (fun σ' H'=>True) ?_ (fun σ' H' _=>k H')
  intro nx dc
  refine ⟨6,rfl,by decide,by decide,?_⟩
  refine cZ (jY 0 6) (fun i σ' H'=>∃ v2 v3 v4 v5 v6 v7 v8 v9 v10 v11,σ'=[some (.ref sc),some (.ref p),v2,v3,v4,v5,v6,v7,v8,v9,v10,v11]/\b_ K H H' p (i*2100))
   ⟨none,none,none,none,none,none,none,none,none,none,rfl,PZ⟩ (fun _ _ _ _ _=>trivial) ?_ (fun σ' H' _=>dc _ _ trivial)
  rintro i σ' H2 hi z0;refine hdn fun G9 hG=>?_;obtain ⟨v2,v3,v4,v5,v6,v7,v8,v9,v10,v11,rfl,hn2⟩:=z0;refine hG ?_
  have hi4:i < 6:=hi
  refine ⟨H,p,6,i*2100,rfl,hn2,by omega,⟨by decide,by decide⟩,fun q a b xs ys rows d_ ns mw x y H3 eq rt hx dh hy fq fb=>Ot eq ?_⟩
  dsimp only
  have Z6:=Kn.PY kf hp fq
  have Z7:=Kn.PY kt hp fq
  refine bC (fun σ' H'=>∃ (dv:V),σ'=[some (.ref sc),some (.ref p),some (.int (0+(i:Int))),some (.ref a),some (.str x),some (.ref b),some (.str y),some dv,v8,v9,v10,v11]/\aa H3 H'/\((dv=.ai/\∀ w m,gi (bu rows d_) (1,endOf rows x,endOf d_ y) w=some m->¬ja rows d_ m)\/∃ R us w,dv=.ref R/\H' R=some (.tup us)/\SV H' us (gb (bu rows d_) (1,endOf rows x,endOf d_ y) w)/\A5 (bu rows d_) (ja rows d_) (1,endOf rows x,endOf d_ y) w)) ?_ ?_
  ·intro ku v_
   refine ⟨a,b,xs,ys,rows,d_,ns,mw,WW,WW,x,y,rfl,rt,dh,hw,hw,hx,hy,fun H4 s4 h0=>?_,fun R us w H4 s4 e1 sv lw=>?_⟩
   ·exact v_ _ _ ⟨_,rfl,s4,.inl ⟨rfl,h0⟩⟩
   ·exact v_ _ _ ⟨_,rfl,s4,.inr ⟨R,us,w,rfl,e1,sv,lw⟩⟩
  rintro σ' H4 ⟨dv,rfl,s4,G4⟩
  have Dg:=rt.tk s4.ts
  have Dh:=dh.tk s4.ts
  have ES:=Z6.same s4
  have ET:=Z7.same s4
  refine bC (fun σ' H'=>∃ v8 v9 v10,σ'=[some (.ref sc),some (.ref p),some (.int (0+(i:Int))),some (.ref a),some (.str x),some (.ref b),some (.str y),some dv,v8,v9,v10,v11]/\aa H4 H') ?_ ?_
  ·intro ku v_
   refine ⟨2,rfl,by decide,by decide,?_⟩
   refine cZ (jY 0 2) (fun j σ' H'=>∃ v8 v9 v10,σ'=[some (.ref sc),some (.ref p),some (.int (0+(i:Int))),some (.ref a),some (.str x),some (.ref b),some (.str y),some dv,v8,v9,v10,v11]/\aa H4 H')
    ⟨v8,v9,v10,rfl,aa.refl _⟩ (fun _ _ _ _ _=>trivial) ?_ (fun σ' H' h=>v_ _ _ h)
   rintro j σ' H5 hj ⟨v8,v9,v10,rfl,s5⟩
   refine aO ⟨a,b,xs,ys,rows,d_,ns,mw,WW,WW,x,y,rfl,Dg.tk s5.ts,Dh.tk s5.ts,hw,hw,ES.same s5,ET.same s5,hx,hy,fun r L xs' i' st H6 mz hL s6 e1 e2 ks li hl=>?_,fun r R qb i' st c H6 mz s6 e1 e2 sv li hc C6=>?_⟩
   ·refine ⟨by decide,"tuple",by show AS H6 (.ref r)=_;simp [AS,e1],_,rfl,?_⟩
    have hd:dv=.ai:=by
     rcases G4 with ⟨rfl,hd⟩ | ⟨R,us,w,rfl,eR,sv,lw⟩
     ·rfl
     ·obtain ⟨⟨m,h1,h2⟩,_⟩:=lw
      exact absurd h2 (wR mz li hl h1)
    subst hd
    refine ig (Or.inl ⟨_,.inr (af.of e1),rfl,_,rfl,ig ?_⟩)
    refine ⟨_,rfl,ig ?_⟩
    refine ⟨_,_,.inr (af.of e1),aK _ _,rfl,_,rfl,IK (fun c=>absurd rfl c) (fun c=>?_)⟩
    refine ⟨_,_,.inr (af.of e1),rfl,by decide,"list",by show AS H6 (.ref L)=_;simp [AS,e2],_,rfl,ig ?_⟩
    refine dJ ?_
    refine bC (fun σ' H'=>∃ v10,σ'=[some (.ref sc),some (.ref p),some (.int (0+(i:Int))),some (.ref a),some (.str x),some (.ref b),some (.str y),some .ai,some (.int (0+(j:Int))),some (.ref r),v10,v11]/\H'=H6) ?_ ?_
    ·intro Be Kp
     refine ⟨_,_,.inr (af.of e1),rfl,Or.inl ⟨⟨xs',aj.of e2⟩,?_⟩⟩
     refine cZ (cH xs') (fun t σ' H'=>∃ v10,σ'=[some (.ref sc),some (.ref p),some (.int (0+(i:Int))),some (.ref a),some (.str x),some (.ref b),some (.str y),some .ai,some (.int (0+(j:Int))),some (.ref r),v10,v11]/\H'=H6)
      ⟨_,rfl,rfl⟩ (by rintro t σ' H' _ ⟨_,_,h⟩;(rw [h];exact aj.of e2)) ?_ (fun σ' H' h=>Kp _ _ h)
     rintro t σ' H7 ht ⟨v10,rfl,rfl⟩
     have Z8:=ks.1
     rw [Ql] at Z8
     obtain ⟨q0,g1,g2⟩:=ks.2 t ht (by simpa using (show t < st.length by omega))
     have eg:xs'.getD t .ai=.ref q0:=by rw [Qb,Qa ht,g1];rfl
     rw [eg]
     rw [Qr] at g2
     generalize st[t].1=tt at g2
     refine ⟨q0,_,"tuple",rfl,g2,by decide,_,rfl,ig (Or.inl ⟨_,.inr (af.p_ g2),rfl,_,rfl,ig ?_⟩)⟩
     refine ⟨_,_,.inr (af.p_ g2),aK _ _,by decide,"int",rfl,_,rfl,ig ⟨_,rfl,rfl⟩⟩
    ·rintro σ' H7 ⟨v10,rfl,rfl⟩
     have rp:=zK mz li hl
     have Z9:jm H7 xs' ((st.map (·.1)).map bq):=by rw [Qn];exact ks
     have Kw:=s5.trans s6
     refine ⟨_,_,.inr (af.of e1),rfl,a,b,L,xs,ys,xs',rows,d_,ns,mw,WW,WW,x,y,st.map (·.1),rfl,Dg.tk Kw.ts,Dh.tk Kw.ts,hw,hw,hx,hy,e2,Z9,rp,fun H8 s8=>?_⟩
     refine ⟨_,rfl,ig ?_⟩
     have P0:=s8 _ _ e2
     have Z_:H4 L=none:=s5.free hL
     refine ⟨_,_,.inr (af.of (s8 _ _ e1)),rfl,.inl ⟨rfl,_,aj.of P0⟩,L,xs',rfl,rfl,P0,?_⟩
     exact ⟨_,_,_,rfl,(Kw.trans s8).put Z_⟩
   ·refine ⟨by decide,"tuple",by show AS H6 (.ref r)=_;simp [AS,e1],_,rfl,?_⟩
    obtain ⟨w',G5,Z'⟩:=sZ mz li hc C6
    rcases G4 with ⟨rfl,hd⟩ | ⟨R',us,w,rfl,eR,sv',lw⟩
    ·obtain ⟨⟨m,h1,h2⟩,_⟩:=G5
     exact absurd h2 (hd _ _ h1)
    have ew:=lw.W0 G5
    subst ew
    rw [Z'] at sv
    refine ig (Or.inl ⟨_,.inr (af.of e1),rfl,_,rfl,ig ?_⟩)
    refine ⟨_,rfl,w_ ⟨(show 2<=sizeLine by decide),fun T8 Ba=>?_⟩⟩
    have s7:=aa.upd Ba (.tup [.str "beyond",.ref R'])
    have e7:upd H6 T8 (.tup [.str "beyond",.ref R']) T8=some (.tup [.str "beyond",.ref R']):=aA
    generalize upd H6 T8 (.tup [.str "beyond",.ref R'])=H7 at s7 e7 ⊢
    have qd:=(s5.trans s6).trans s7
    refine ⟨3,3,_,_,r,T8,by decide,rfl,rfl,vQ (s7 _ _ e1) (s7 _ _ e2) (sv.same s7),vQ e7 (qd _ _ eR) (sv'.same qd),fun bo GV=>?_⟩
    have:bo=true:=GV.mpr rfl
    subst this
    refine ⟨_,rfl,ig ⟨_,_,_,rfl,qd⟩⟩
  ·rintro σ' H5 ⟨v8,v9,v10,rfl,s5⟩
   refine aO ⟨a,b,xs,ys,rows,d_,ns,mw,WW,WW,x,y,rfl,Dg.tk s5.ts,Dh.tk s5.ts,hw,hw,ES.same s5,ET.same s5,hx,hy,fun H6 s6 h0=>?_,fun w' H6 s6 G5=>?_⟩
   ·rcases G4 with ⟨rfl,hd⟩ | ⟨R,us,w,rfl,eR,sv,lw⟩
    ·refine ⟨by decide,"bool",rfl,_,rfl,ig ⟨rfl,_,rfl,?_⟩⟩
     refine ig ?_
     exact ⟨_,_,_,_,_,_,_,_,_,_,rfl,((fq.same s4).same (s5.trans s6)).mono (by omega)⟩
    ·obtain ⟨⟨m,h1,h2⟩,_⟩:=lw
     exact absurd h2 (h0 _ _ h1)
   ·rcases G4 with ⟨rfl,hd⟩ | ⟨R,us,w,rfl,eR,sv,lw⟩
    ·obtain ⟨⟨m,h1,h2⟩,_⟩:=G5
     exact absurd h2 (hd _ _ h1)
    ·refine ⟨by decide,"bool",rfl,_,rfl,ig ⟨rfl,_,rfl,?_⟩⟩
     refine ig ?_
     exact ⟨_,_,_,_,_,_,_,_,_,_,rfl,((fq.same s4).same (s5.trans s6)).mono (by omega)⟩
end
abbrev pw:=PySem.Challenge.pw_coilkind_k34_within_or_beyond
abbrev wc:=PySem.Challenge.rw_coilkind_k34_within_or_beyond
def view:Program:={pw with main:={pw.main with body:=([1,2,3,4,6,7,8,9,10,11,12,14,15,16,17,18,19,21,22,23,24,25,26,27,28,29,30,31,32,33,34,35,36,37,38,39,40,41,42,43]:List Nat).filterMap fun i=>pw.main.body[i]?}}
def fns:List (Str×Stmt):=[⟨"heads_of",gK⟩,⟨"rows_of",k9⟩,⟨"names_in",gP⟩,⟨"steps_in",gU⟩,⟨"moves_in",gH⟩,⟨"road_back",iL⟩,⟨"within",lS⟩,⟨"lies_within",fX⟩,⟨"looked_at",iC⟩,⟨"steps_looked_at",d6⟩,⟨"steps_between",cU⟩,⟨"triple_behind",dX⟩,⟨"_law_fill",j0⟩,⟨"_law_next",jA⟩,⟨"_law_turned",gQ⟩,⟨"_law_words",fV⟩,⟨"_law_head",gB⟩,⟨"_law_telling",fW⟩,⟨"_law_any",kD⟩,⟨"_law_twin_head",cE⟩,⟨"_law_twin",j6⟩,⟨"_law_bent",gE⟩,⟨"_law_two",kH⟩,⟨"_law_row_here",fH⟩,⟨"_law_head_here",dS⟩,⟨"_law_on",g7⟩,⟨"_law_nearer",gJ⟩,⟨"_law_close",iB⟩,⟨"_law_low_high",eX⟩,⟨"_law_words_of",d7⟩,⟨"_law_state_of",d8⟩,⟨"_law_behind",gM⟩,⟨"_law_beyond",gT⟩,⟨"_law_is_within_paper",cF⟩,⟨"law",mI⟩]
def vals:List (Str×V):=[]
def tups:List (Str×List V):=[⟨"WORDED",[.str "box",.str "pick"]⟩]
def P4:List (Str×List tq):=[⟨"STEP_WORDS",[⟨"box",.inl (.str "part")⟩,⟨"pick",.inl (.str "case")⟩]⟩]
def aaa:List Str:=["len","isinstance","all","range","bool","int","list","tuple","dict","sorted","zip","set","any"]
def nc:List (Str×List V):=[⟨"FROM",[.str "from"]⟩,⟨"TO",[.str "to"]⟩]
def P5:List A2:=[⟨"Net","Net.__init__",dN,["rows","heads","marks","moves"]⟩]
def look (K:Q0):=(Ah (without K (xr K nc)) fns,Mb (without K (xr K nc)) vals,AZ (without K (xr K nc)) tups,Ik (without K (xr K nc)) P4,CP (without K (xr K nc)) aaa,AZ K nc,decide (xr K nc).Nodup,Es (without K (xr K nc)) P5)
def want (w:World):=(Ai fns,Mc vals,A0 tups,Il w P4,true,A0 nc,true,Et P5)
theorem aab (w:World):(PySem.W.openEnds treeTable pw (w.withFollow "special-get-raises" false) 3006).map (fun s=>(PySem.W.openSeen view ["STEP_WORDS"] (PySem.importedModules pw.main.body) (fun s=>PySem.W.xlAt view [] s&&PySem.W.recOk [] s) true s,(xn look want).obs s))=some (PySem.W.openGood view ["STEP_WORDS"],(xn look want).val (w.withFollow "special-get-raises" false)):=by kernel_rfl
theorem aac (w:World):(PySem.W.openEnds treeTable pw (w.withFollow "special-get-raises" true) 3006).map (fun s=>(PySem.W.openSeen view ["STEP_WORDS"] (PySem.importedModules pw.main.body) (fun s=>PySem.W.xlAt view [] s&&PySem.W.recOk [] s) true s,(xn look want).obs s))=some (PySem.W.openGood view ["STEP_WORDS"],(xn look want).val (w.withFollow "special-get-raises" true)):=by kernel_rfl
theorem a0r {K:Q0} (X:K.In h) (G:h.Ns mainGlobals mg) (e:look K=want w):XO K mg w:=by
 obtain ⟨eF,e⟩:=Prod.mk.inj e
 obtain ⟨eV,e⟩:=Prod.mk.inj e
 obtain ⟨eT,e⟩:=Prod.mk.inj e
 obtain ⟨eD,e⟩:=Prod.mk.inj e
 obtain ⟨eN,e⟩:=Prod.mk.inj e
 obtain ⟨eR,e⟩:=Prod.mk.inj e
 obtain ⟨eU,eC⟩:=Prod.mk.inj e
 obtain ⟨ts,r1,r2,r3⟩:=Mh X G eR rfl
 have X':=tE (as:=xr K nc) X
 have oZ:=vL X G eR 0 (x:="FROM") rfl
 have IY:=vL X G eR 1 (x:="TO") rfl
 obtain ⟨aae,abN,aaf,aag,qF⟩:=VP X' G (sV eD 0 (x:="STEP_WORDS") rfl) rfl (by decide+kernel)
 obtain ⟨abO,rfl,aah⟩:=Mf aag
 obtain ⟨abP,rfl,aai⟩:=Mf aah
 obtain rfl:=VO aai
 refine ⟨ts,r2,by rw [r1];exact Qt eU,?_,fun H hH=>⟨Mi (r3 0 "FROM" _ rfl) hH,Mi (r3 1 "TO" _ rfl) hH⟩⟩
 rw [r1]
 exact ⟨nn X' G eN 0,
  nn X' G eN 1,
  nn X' G eN 2,
  nn X' G eN 3,
  nn X' G eN 4,
  nn X' G eN 5,
  nn X' G eN 6,
  nn X' G eN 7,
  nn X' G eN 8,
  nn X' G eN 9,
  nn X' G eN 10,
  nn X' G eN 11,
  nn X' G eN 12,
  tu X' G eT 0,
  oZ,
  IY,
  ⟨aae,aaf,qF⟩,
  B0 X' G eF 0,
  B0 X' G eF 1,
  B0 X' G eF 2,
  B0 X' G eF 3,
  ly X' G eF 4,
  ly X' G eF 5,
  En X' G eF 6,
  En X' G eF 7,
  En X' G eF 8,
  F5 X' G eF 9,
  ly X' G eF 10,
  En X' G eF 11,
  ly X' G eF 12,
  ly X' G eF 13,
  ly X' G eF 14,
  B0 X' G eF 15,
  F5 X' G eF 16,
  ly X' G eF 17,
  ly X' G eF 18,
  ly X' G eF 19,
  ly X' G eF 20,
  ly X' G eF 21,
  ly X' G eF 22,
  ly X' G eF 23,
  ly X' G eF 24,
  ly X' G eF 25,
  ly X' G eF 26,
  ly X' G eF 27,
  F5 X' G eF 28,
  B0 X' G eF 29,
  ly X' G eF 30,
  F5 X' G eF 31,
  En X' G eF 32,
  VN X' G eF 33,
  B0 X' G eF 34,
  VU X' G eC 0⟩
def Bg:DefRec:=⟨"law",su mI,lh mI,bh mI,(match mI with | .FunctionDef _ _ _ _ _ _ _ _ _ p=>p | _=>⟨0,0,0,0⟩)⟩
theorem walk:PySem.W.WalkO view ["STEP_WORDS"] XP (xn look want).says wc.row.toRowW Bg [] (fun f vs=>PySem.call f vs):=
 VS (l:=wc) (n:=63) (k:=14) (x:="script") rfl (by decide) rfl ⟨rfl,by decide,by decide,rfl⟩ fun w mg fa h K X e G CC=>by
  obtain ⟨ts,AX,nd,T,hk⟩:=a0r X G e
  obtain ⟨f,fd,Fu,m,b⟩:=T.Nb
  rw [show Bg.name="law" from rfl,m] at CC
  cases CC
  refine ⟨ts,fd,Kv (without K (ts.map (·.1))) mg,AX,nd,fun s u=>?_,fun base kb nb=>?_,fun H a ns hl ht hS=>⟨a,ns,rfl,hS,hl,hk H ht,fun _=>rfl⟩⟩
  ·refine hdn fun G9 hG=>?_;obtain ⟨oc,od,kV,doc,pm,an,bc,ct,nk,rfl,lk,qf⟩:=Fu.ex;refine hG ?_
   exact .of_eq rfl
  ·refine hdn fun G9 hG=>?_;obtain ⟨f',fd',G',m',k',b',oc',od',abS,P6⟩:=(Z3 T:a_ wc.prog w (without K (ts.map (·.1))) mg base 14 "law" ["script"] (Kv (without K (ts.map (·.1))) mg));refine hG ?_
   rw [m] at m'
   cases m'
   have e:fd=fd':=by
    refine hdn fun G9 hG=>?_;obtain ⟨oc,od,kV,doc,pm,an,bc,ct,nk,e1,lk,qf⟩:=Fu.ex;refine hG ?_
    rw [lk] at P6
    have:=QD P6
    injection this with _ _ h3 _
    injection h3
   rw [e];exact G'
theorem hdef:PySem.W.defOf view wc.row.name=some (Bg,[]):=by kernel_rfl
theorem hprog:wc.row.prog.theDef wc.row.name=some (Bg.params,Bg.body,Bg.scope):=by kernel_rfl
theorem hkw:PySem.W.kwWritten? Bg.params.kwonlyargs Bg.params.kw_defaults=some []:=by kernel_rfl
theorem hok:(PySem.W.chainsOk view&&PySem.W.opensWell wc.row.prog&&(PySem.W.frees wc.row.toRowW&&wc.row.within.isEmpty))=true:=by kernel_rfl
theorem hbare:wc.row.prog.bare:=⟨rfl,rfl,rfl,rfl,rfl,by decide+kernel⟩
theorem aak:wc.row.toRowW.promised:=by w_witness2
theorem said:wc.wellSaid=true:=by
 refine VQ (p:=pw) rfl ?_ ?_ ?_ ?_ ?_ ?_ ?_ ?_ ?_ ?_ ?_ ?_ ?_ ?_ ?_ ?_ ?_ ?_ ?_ ?_ ?_ ?_ ?_ ?_ ?_ ?_ ?_ ?_<;>kernel_rfl
end T1
open PySem PySem.W PyProof.Rows L2
set_option maxRecDepth 100000 in
set_option maxHeartbeats 0 in
theorem PySem.Challenge.cw_coilkind_k34_within_or_beyond_holds : PySem.Challenge.rw_coilkind_k34_within_or_beyond.Holds := by
 refine PySem.W.holds_law T1.said fun said=>?_
 exact PySem.W.holds_open (q:=T1.view) (loose:=["STEP_WORDS"]) (Xt:=fun s=>xlAt T1.view [] s&&recOk [] s) (XP:=XL T1.view []) (Yf:=(xn T1.look T1.want).obs) (Ya:=(xn T1.look T1.want).val) (YP:=(xn T1.look T1.want).says) (N:=3006)
  (yW "special-get-raises" T1.aab T1.aac) (xn T1.look T1.want).of (xn T1.look T1.want).keeps (fun s e=>xl_of s (Bool.and_eq_true_iff.mp e).1) XL.keeps T1.hdef T1.hprog T1.hkw (fun s e=>recFacts_of (Bool.and_eq_true_iff.mp e).2) rfl (by assumption) T1.hok T1.hbare T1.aak T1.walk
