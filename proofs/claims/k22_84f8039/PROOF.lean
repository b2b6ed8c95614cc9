import PyProof.Rows.All
import Wide.All
import OpenK.AllK
import Wide.FinOn
import Lean
import PyProof.EqAt
import PyProof.EqKinds
import PyProof.TupleCall
import PyProof.DictCompW
import PyProof.AutoListH
import PyProof.EnumMake
import PyProof.ZipIter
import PyProof.AttrMissSeq
import KE.KDictOf
import PyProof.ReprLen
import PyProof.StrLawsRepr
import KE.KUnpackStar
import PyProof.DictWalks
import PyProof.Rows.DictUnroll
import PyProof.Rows.Range3
import PyProof.Rows.ChunkEnd
import PyProof.Rows.ChunkLeaf
import PyProof.StrCalls2
import PyProof.StrLawsTight
import PyProof.StrLawsChain
import PyProof.Rows.StrSplitJoin
import PyProof.Conv_int_bool
import PyProof.Rows.TupMore
import PyProof.StrLawsIn
import PyProof.Rows.StrCut
import PyProof.StrCalls
import PyProof.CallFns
import PyProof.FString5
import PyProof.NsCount
import PyProof.Rows.SetFrom
import PyProof.SetRoads
import KE.KRevIter
import PyProof.CollectIter
import PyProof.TupleOfGen
import KE.KItemsList
import PyProof.NeKinds
import PyProof.DictItems
import KE.KPairComp
import PyProof.SetKind
import PyProof.TupleKey
import PyProof.IsRules
import PyProof.DictValues
import PyProof.SumWalk
import PyProof.ConsumeWalk
import PyProof.SumAny
import PyProof.FactsAll.range_2
import PyProof.WalksMore
import PyProof.MinMaxWalk
import PyProof.SeqI3
import KE.KDictList
import KE.KDictLaws
import KE.KSortTup
import KE.KSetDisp
import KE.KStrOpen
import PyProof.NeData
import PySem.Challenge.RW_coilkind_k22_classes
set_option Elab.async false
set_option linter.all false
set_option maxRecDepth 100000
section
open PySem PySem.Spec PyProof.Rows
abbrev Qa := @List.getElem?_eq_getElem
abbrev Qb := @List.getD_eq_getElem?_getD
abbrev Qc := @Heap.get?_push_of_some
abbrev Qd := @Heap.get?_push_size
abbrev Qe := @List.getElem_append_left
abbrev Qf := @List.getElem_append_right
abbrev Qg := @List.getElem?_append_left
abbrev Qh := @List.mem_cons_of_mem
abbrev Qi := @List.getElem_of_mem
abbrev Qj := @List.getElem_mem
abbrev Qk := @List.length_append
abbrev Ql := @List.length_map
abbrev Qm := @List.map_append
abbrev Qn := @List.map_map
abbrev Qo := @List.take_length
abbrev Qp := @List.mem_cons
abbrev Qq := @List.getElem?_map
abbrev Qr := @List.getElem_map
abbrev Qs := @List.take_add_one
abbrev Qt := @of_decide_eq_true
abbrev Qw := @decide_eq_true
abbrev Qx := @decide_eq_false
abbrev Qy := @Nat.lt_of_succ_lt
abbrev Qz := @Nat.le_refl
abbrev QA := @Heap.lt_size
abbrev QB := @List.mem_nil_iff
abbrev QC := @Function.comp_def
abbrev QD := @List.mem_of_getElem?
abbrev QE := @Option.some.inj
abbrev QF := @Bool.false_xor
abbrev QH := @PyProof.Rows.boot_tuple
abbrev QJ := @PySem.F.plainAttrs_list
abbrev QK := @PySem.F.slot_list_append
abbrev QL := @PySem.F.type_list_append
abbrev QM := @sizeLine_eq
abbrev QR := @List.append_assoc
abbrev QS := @List.append_nil
abbrev QT := @List.eq_nil_of_length_eq_zero
abbrev QU := @wpAny_bind
abbrev QV := @wpAny_pure
abbrev Q1 := PySem.W.Frag
end
variable {us:List PySem.Value} {u:PySem.Value} {a b it p C l:PySem.Addr} {o:PySem.Obj} {h h' base:PySem.Heap} {P prog:PySem.Program} {w:PySem.World} {α κ:Type} {x name z:PySem.Str} {pins:List (PySem.Addr×PySem.Obj)} {s:PySem.Shared} {t' i j n ep:Nat} {ch fp:List PySem.Addr} {N ns ps own N' ws:List PySem.Str} {A:PySem.Around} {E Q:PySem.Value->PySem.Shared->Prop} {e tg:PySem.Expr} {es ifs BA:List PySem.Expr} {body:List PySem.Stmt} {f:PySem.Str->List (List PySem.Str×PySem.Str)} {mA mg:PySem.Str->Option PySem.Value} {pl:PySem.Sem Bool} {R:PySem.Result->PySem.Shared->Prop} {kw:List (PySem.Str×PySem.Value)} {env:PySem.Env} {fd:PySem.FuncData} {apos cpos:PySem.Pos} {sc:PySem.Scope} {T:String} {XP:(PySem.Str->Option PySem.Value)->PySem.Heap->Prop} {idx:List Nat} {G:Array PySem.GenState->Array PySem.GenState->Prop} {ss mem:List (List PySem.Str)} {q:List PySem.Str×PySem.Str} {num:PySem.Str->Nat}
theorem hdn {p:Prop} (h:∀ G:Prop,(p->G)->G):p:=h p id
namespace L2
open PySem PySem.Spec PyProof.Rows
abbrev Key:=Sum Int Str
end L2
variable {vs:List (L2.Key×PySem.Value)} {xs:List (List L2.Key×PySem.Addr×PySem.Value)}
namespace L2
open PySem PySem.Spec PyProof.Rows
def AK:Key->Value->Bool
 | .inl k,v=>Value.isInt k v
 | .inr x,v=>Value.isStrOf x v
def zy (w:World):Key->Int
 | .inl k=>hashInt k
 | .inr x=>hashStr w x
theorem bD:∀ {k:Key} {v:Value},AK k v=true->(∃ i t,k=Sum.inl i/\v=Value.int i t)\/(∃ x t,k=Sum.inr x/\v=Value.str x t)
 | .inl i,v,h=>by
  obtain ⟨t,e⟩:=Value.isInt_shape (k:=i) (v:=v) h
  exact .inl ⟨i,t,rfl,e⟩
 | .inr x,v,h=>by
  obtain ⟨t,e⟩:=Value.isStrOf_shape (x:=x) (v:=v) h
  exact .inr ⟨x,t,rfl,e⟩
theorem uW (i:Int) (t:Tok):AK (.inl i) (.int i t)=true:=by simp [AK,Value.isInt]
theorem vF (x:Str) (t:Tok):AK (.inr x) (.str x t)=true:=by simp [AK,Value.isStrOf]
theorem Q_ (a b:Int):decide ((Sum.inl a:Key)=Sum.inl b)=(a==b):=by
 by_cases e:a=b
 ·subst e;simp
 ·have h:¬(Sum.inl a:Key)=Sum.inl b:=fun q=>e (Sum.inl.inj q)
  rw [Qx h]
  exact (beq_eq_false_iff_ne.mpr e).symm
theorem Ra (a b:Str):decide ((Sum.inr a:Key)=Sum.inr b)=decide (a=b):=by
 by_cases e:a=b
 ·subst e;simp
 ·have h:¬(Sum.inr a:Key)=Sum.inr b:=fun q=>e (Sum.inr.inj q)
  rw [Qx h,Qx e]
theorem Rb (a:Int) (b:Str):decide ((Sum.inl a:Key)=Sum.inr b)=false:=Qx (fun q=>nomatch q)
theorem Rc (a:Str) (b:Int):decide ((Sum.inr a:Key)=Sum.inl b)=false:=Qx (fun q=>nomatch q)
def cg (prog:Program) (w:World):PySem.KeyKind prog w Key where
 is:=AK
 hash:=zy w
 inj:=fun v a b ha hb=>by
  rcases bD ha with ⟨i,t,rfl,rfl⟩ | ⟨x,t,rfl,rfl⟩
  ·rcases bD hb with ⟨j,u,rfl,e⟩ | ⟨y,u,rfl,e⟩
   ·injection e with e1 _;rw [e1]
   ·exact nomatch e
  ·rcases bD hb with ⟨j,u,rfl,e⟩ | ⟨y,u,rfl,e⟩
   ·exact nomatch e
   ·injection e with e1 _;rw [e1]
 byValue:=fun k v h=>by
  rcases bD h with ⟨i,t,rfl,rfl⟩ | ⟨x,t,rfl,rfl⟩<;>rfl
 pyHash:=fun hv h=>by
  rcases bD hv with ⟨i,t,rfl,rfl⟩ | ⟨x,t,rfl,rfl⟩
  ·exact wpAny_pyHash_int h
  ·exact wpAny_pyHash_str h
 eqBool:=fun hu hv h=>by
  rcases bD hu with ⟨i,t,rfl,rfl⟩ | ⟨x,t,rfl,rfl⟩
  ·rcases bD hv with ⟨j,u,rfl,rfl⟩ | ⟨y,u,rfl,rfl⟩
   ·rw [Q_] at h;exact wpAny_eqBool_int h
   ·rw [Rb] at h;exact SeqAt.EqAt.int_str i t y u _ _ _ _ h
  ·rcases bD hv with ⟨j,u,rfl,rfl⟩ | ⟨y,u,rfl,rfl⟩
   ·rw [Rc] at h;exact SeqAt.EqAt.str_int x t j u _ _ _ _ h
   ·rw [Ra] at h;exact wpAny_eqBool_str h
 «strs»:=fun k x t v h=>by
  rcases bD h with ⟨i,u,rfl,e⟩ | ⟨y,u,rfl,e⟩
  ·exact nomatch e
  ·injection e with e1 _
   subst e1
   cases v<;>rfl
theorem pS (prog:Program) (w:World) (i:Int) (t:Tok):(cg prog w).is (.inl i) (.int i t)=true:=uW i t
theorem eQ (prog:Program) (w:World) (x:Str) (t:Tok):(cg prog w).is (.inr x) (.str x t)=true:=vF x t
inductive V where
 | ai | bl (b:Bool) | int (i:Int) | str (x:Str) | ou (b:Array UInt8) | BB (b:UInt64) | ref (a:Addr) | ty (n:String)
 deriving DecidableEq
def RelV:V->Value->Prop
 | .ai,u=>u=Value.none
 | .bl b,u=>u=Value.bool b
 | .int i,u=>∃ t,u=Value.int i t
 | .str x,u=>∃ t,u=Value.str x t
 | .ou b,u=>∃ t,u=Value.bytes b t
 | .BB b,u=>∃ t,u=Value.float b t
 | .ref a,u=>u=Value.ref a
 | .ty n,u=>u=Value.type n
abbrev az:List V->List Value->Prop:=Paired RelV
theorem az.length {xs:List V} {us:List Value} (r:az xs us):xs.length=us.length:=Paired.length r
theorem az.get:∀ {xs:List V} {us:List Value} {i:Nat} {x:V},az xs us->xs[i]? =some x->∃ u,us[i]? =some u/\RelV x u
 | _,_,_,_,.nil,e=>by simp at e
 | _,_,0,_,.cons r _,e=>by simp at e;subst e;exact ⟨_,rfl,r⟩
 | _,_,i+1,x,.cons _ t,e=>by
  obtain ⟨u,h1,h2⟩:=az.get (i:=i) (x:=x) t (by simpa using e)
  exact ⟨u,by simpa using h1,h2⟩
theorem az.set {x:V} {u:Value} (r:RelV x u):∀ {xs:List V} {us:List Value} (i:Nat),az xs us->az (xs.set i x) (us.set i u)
 | _,_,_,.nil=>.nil
 | _,_,0,.cons _ t=>.cons r t
 | _,_,i+1,.cons q t=>.cons q (az.set r i t)
theorem az.append:∀ {xs ys:List V} {us ws:List Value},az xs us->az ys ws->az (xs++ys) (us++ws)
 | _,_,_,_,.nil,s=>s
 | _,_,_,_,.cons r t,s=>.cons r (az.append t s)
theorem az.take:∀ {xs:List V} {us:List Value} (n:Nat),az xs us->az (xs.take n) (us.take n)
 | _,_,0,_=>.nil
 | _,_,_+1,.nil=>.nil
 | _,_,n+1,.cons r t=>.cons r (az.take n t)
theorem az.drop:∀ {xs:List V} {us:List Value} (n:Nat),az xs us->az (xs.drop n) (us.drop n)
 | _,_,0,r=>r
 | _,_,_+1,.nil=>.nil
 | _,_,n+1,.cons _ t=>az.drop n t
def kg:Option V->Option Value->Prop
 | some v,some u=>RelV v u
 | none,none=>True
 | _,_=>False
def KV {κ:Type}:List (κ×V)->List (κ×Value)->Prop:=Paired fun (p:κ×V) (q:κ×Value)=>p.1=q.1/\RelV p.2 q.2
def kV:Key->V
 | .inl i=>.int i
 | .inr x=>.str x
inductive HO where
  | lst (xs:List V)
  | tup (xs:List V)
  | dK (kvs:List (Key×V)) | dT (kvs:List (List Key×V))
  | set (S:Int->Bool) (n:Nat)
  | ins (C dx:Addr) (fs:List (Str×V))
  | own (x:Addr)
  | xd (fs:List (Str×V))
  | met (f x:Addr)
  | HW (lo hi:Int)
  | ae (o:Obj) (u:HO)
  | BC (ps:Array Value)
  | ext (φ:Heap->Prop)
abbrev Hp:=Addr->Option HO
end L2
variable {H H' H0:L2.Hp}
namespace L2
open PySem PySem.Spec PyProof.Rows
def upd (H:Hp) (a:Addr) (o:HO):Hp:=fun b=>if b=a then some o else H b
theorem aA {o:HO}:upd H a o a=some o:=by unfold upd;rw [if_pos rfl]
theorem aB {o:HO} (h:b≠a):upd H a o b=H b:=by unfold upd;rw [if_neg h]
theorem gX {o u:HO}:upd (upd H a o) a u=upd H a u:=by
 funext b;unfold upd;split<;>rfl
theorem aL {o:HO} (h:H a=some o) (h':H b=none):a≠b:=by
 intro e;subst e;rw [h] at h';cases h'
def BD (h:Heap) (a:Addr):Prop:=∀ o,h.get? a=some o->o.dict=none
theorem BD.new {ob:Obj} (h0:ob.isFreed=false) (hd:ob.dict=none):BD (h.push ob) h.objs.size:=fun o q=>by rw [Qd _ h0] at q;cases q;exact hd
def be (H:Hp) (b:Addr) (ys:List V):Prop:=H b=some (.tup ys)\/∃ o,H b=some (.ae o (.tup ys))
theorem be.upd {H:Hp} {b a:Addr} {ys:List V} {o:HO} (r:be H b ys) (ne:∀ u,H b=some u->b≠a):be (L2.upd H a o) b ys:=by
 rcases r with r | ⟨ob,r⟩
 ·exact .inl (by rw [aB (ne _ r)];exact r)
 ·exact .inr ⟨ob,by rw [aB (ne _ r)];exact r⟩
section
variable (P:Program) (w:World)
def bg (H:Hp) (h:Heap) (a:Addr):HO->Prop
 | .lst xs=>xs.length<=sizeLine/\∃ (its:List Value) (n:Nat),az xs its/\h.get? a=some {cls:=.type "list",data:=.seq its.toArray n}
 | .tup xs=>(xs.length<=sizeLine/\BD h a)/\∃ its:List Value,az xs its/\IsTup h a its.toArray
 | .dK kvs=>kvs.length<=sizeLine/\(a==sysModules)=false/\∃ vs,KV kvs vs/\h.DictOf (cg P w) a vs
 | .dT kvs=>kvs.length<=sizeLine/\(a==sysModules)=false/\∃ xs:List (List Key×Addr×Value),
   Paired (fun (p:List Key×V) (q:List Key×Addr×Value)=>p.1=q.1/\be H q.2.1 (p.1.map kV)/\RelV p.2 q.2.2) kvs xs/\
   ∃ o es ep,h.get? a=some o/\o.ExactDict/\o.data=.dict es ep/\es.toList=xs.map (entryOfKey (tupleKind (cg P w)))/\(xs.map (·.1)).Nodup
 | .set S n=>h.SetOf (intKind P w) a S n
 | .ins C dx fs=>H dx=some (.own a)/\fs.length<=1000/\dx≠a/\h.get? a=some (PySem.W.instObj C dx)/\
   ∃ mA,h.Ns1 dx mA/\(∀ f,kg (fs.lookup f) (mA f))/\PySem.Within mA (fs.map (·.1))
 | .own _=>∃ o,h.get? a=some o
 | .xd fs=>∃ mA,h.Ns1 a mA/\∀ f,kg (fs.lookup f) (mA f)
 | .HW lo hi=>∃ t u v,h.get? a=some {cls:=.type "range",data:=.fields #[.int lo t,.int hi u,.int 1 v]}
 | .ae o u=>h.get? a=some o/\bg H h a u
 | .BC ps=>h.get? a=some {cls:=.none,data:=.fields ps}
 | .met f x=>h.get? a=some (PySem.W.methodObj (.ref f) (.ref x))
 | .ext φ=>φ h/\(∃ o,h.get? a=some o)/\∀ h1 h2:Heap,φ h1->(∀ o,h1.get? a=some o->h2.get? a=some o)->φ h2
def fg (H:Hp) (h:Heap):Prop:=∀ a o,H a=some o->bg P w H h a o
end
section
variable {o:HO}
theorem bg.lt (x:bg P w H h a o):a < h.objs.size:=by
 cases o with
 | lst xs=>obtain ⟨_,_,_,_,e⟩:=x;exact QA e
 | tup xs=>obtain ⟨_,_,_,p⟩:=x;exact p.lt
 | dK kvs=>obtain ⟨_,_,_,_,o,_,_,e,_⟩:=x;exact QA e
 | dT kvs=>obtain ⟨_,_,_,_,o,_,_,e,_⟩:=x;exact QA e
 | set S n=>obtain ⟨o,_,_,_,e,_⟩:=x;exact QA e
 | ins C dx fs=>obtain ⟨_,_,_,e,_⟩:=x;exact QA e
 | own y=>obtain ⟨_,e⟩:=x;exact QA e
 | xd fs=>obtain ⟨_,⟨_,_,_,e,_⟩,_⟩:=x;exact QA e
 | HW lo hi=>obtain ⟨_,_,_,e⟩:=x;exact QA e
 | ae ob u=>obtain ⟨e,_⟩:=x;exact QA e
 | BC ps=>exact QA (show h.get? a=some _ from x)
 | met f y=>exact QA (show h.get? a=some _ from x)
 | ext φ=>obtain ⟨_,⟨_,e⟩,_⟩:=x;exact QA e
theorem Paired.HX {α β:Type} {F G:α->β->Prop}:∀ {l₁:List α} {l₂:List β},Paired F l₁ l₂->(∀ a b,F a b->G a b)->Paired G l₁ l₂
 | _,_,.nil,_=>.nil
 | _,_,.cons r t,f=>.cons (f _ _ r) (Paired.HX t f)
theorem bg.stay (x:bg P w H h a o) (k:∀ b u,(b=a\/H b=some (.own a))->h.get? b=some u->h'.get? b=some u)
  (ho:∀ b,H b=some (.own a)->H' b=some (.own a)) (ht:∀ b xs,be H b xs->be H' b xs):bg P w H' h' a o:=by
 induction o with
 | lst xs=>obtain ⟨z,its,n,r,e⟩:=x;exact ⟨z,its,n,r,k _ _ (.inl rfl) e⟩
 | tup xs=>obtain ⟨⟨z,nd⟩,its,r,ob,e,c⟩:=x;exact ⟨⟨z,fun o q=>by rw [k _ _ (.inl rfl) e] at q;cases q;exact nd _ e⟩,its,r,ob,k _ _ (.inl rfl) e,c⟩
 | dK kvs=>obtain ⟨z,y,vs,r,ob,es,ep,e,c⟩:=x;exact ⟨z,y,vs,r,ob,es,ep,k _ _ (.inl rfl) e,c⟩
 | dT kvs=>
  obtain ⟨z,y,xs,r,ob,es,ep,e,c⟩:=x
  exact ⟨z,y,xs,Paired.HX r fun p q z=>⟨z.1,ht _ _ z.2.1,z.2.2⟩,ob,es,ep,k _ _ (.inl rfl) e,c⟩
 | set S n=>obtain ⟨ob,es,ep,t,e,c⟩:=x;exact ⟨ob,es,ep,t,k _ _ (.inl rfl) e,c⟩
 | ins C dx fs=>
  obtain ⟨d,z,ne,e,mA,⟨od,es,ep,e2,c⟩,r⟩:=x
  exact ⟨ho _ d,z,ne,k _ _ (.inl rfl) e,mA,⟨od,es,ep,k _ _ (.inr d) e2,c⟩,r⟩
 | own y=>obtain ⟨ob,e⟩:=x;exact ⟨ob,k _ _ (.inl rfl) e⟩
 | xd fs=>obtain ⟨mA,⟨od,es,ep,e,c⟩,r⟩:=x;exact ⟨mA,⟨od,es,ep,k _ _ (.inl rfl) e,c⟩,r⟩
 | HW lo hi=>obtain ⟨t,u,v,e⟩:=x;exact ⟨t,u,v,k _ _ (.inl rfl) e⟩
 | ae ob u ih=>obtain ⟨e,q⟩:=x;exact ⟨k _ _ (.inl rfl) e,ih q⟩
 | BC ps=>
  have e:h.get? a=some {cls:=.none,data:=.fields ps}:=x
  show h'.get? a=some {cls:=.none,data:=.fields ps}
  exact k a _ (.inl rfl) e
 | met f y=>
  have e:h.get? a=some (PySem.W.methodObj (.ref f) (.ref y)):=x
  show h'.get? a=some (PySem.W.methodObj (.ref f) (.ref y))
  exact k a _ (.inl rfl) e
 | ext φ=>obtain ⟨p,⟨o,e⟩,st⟩:=x;exact ⟨st _ _ p fun o q=>k _ _ (.inl rfl) q,⟨o,k _ _ (.inl rfl) e⟩,st⟩
theorem fg.lt (x:fg P w H h) (e:H a=some o):a < h.objs.size:=(x a o e).lt
theorem fg.fresh (x:fg P w H h) (e:h.objs.size<=a):H a=none:=by
 cases q:H a with
 | none=>rfl
 | some u=>exact absurd (Nat.lt_of_lt_of_le (x.lt q) e) (Nat.lt_irrefl _)
theorem fg.kept (x:fg P w H h) (k:∀ b u,h.get? b=some u->h'.get? b=some u):fg P w H h':=fun a o e=>
 (x a o e).stay (fun b u _ q=>k b u q) (fun _ q=>q) fun _ _ q=>q
theorem fg.laid (x:fg P w H h) (k:∀ b u,h.get? b=some u->h'.get? b=some u) (hp:h.objs.size<=a) (new:bg P w (upd H a o) h' a o):fg P w (upd H a o) h':=fun b u e=>by
 have hn:=x.fresh hp
 by_cases hb:b=a
 ·subst hb;rw [aA] at e;cases e;exact new
 ·rw [aB hb] at e
  exact (x b u e).stay (fun c v _ q=>k c v q) (fun c q=>by rw [aB (aL q hn)];exact q) fun c xs q=>q.upd fun u hu=>aL hu hn
end
def Rd (H:Hp) (a:Addr) (u:HO):Prop:=H a=some u\/∃ o,H a=some (.ae o u)
theorem Rd.ok {u:HO} (r:Rd H a u) (x:fg P w H h):bg P w H h a u:=by
 rcases r with r | ⟨o,r⟩
 ·exact x a u r
 ·obtain ⟨_,q⟩:=x a _ r
  exact q
def Eg:Option HO->Prop
 | some (.lst _)=>True
 | some (.dK _)=>True
 | some (.dT _)=>True
 | some (.set _ _)=>True
 | some (.ins _ _ _)=>True
 | some (.ext _)=>True
 | _=>False
section
variable {x e:Addr} {o':HO}
theorem fg.write (ok:fg P w H h) (mu:Eg (H x)) (he:e=x\/H e=some (.own x)) (k:∀ b u,b≠e->h.get? b=some u->h'.get? b=some u) (CT:∃ u,h'.get? e=some u)
  (new:bg P w (upd H x o') h' x o'):fg P w (upd H x o') h':=fun b u q=>by
 have Lw:∀ c y,H c=some (.own y)->c≠x:=fun c y r z=>by subst z;rw [r] at mu;exact mu
 have aau:∀ c xs,H c=some (.tup xs)->c≠x:=fun c xs r z=>by subst z;rw [r] at mu;exact mu
 by_cases hb:b=x
 ·subst hb;rw [aA] at q;cases q;exact new
 ·rw [aB hb] at q
  by_cases BE:b=e
  ·have q':H b=some (.own x):=by
    rcases he with z | z
    ·exact absurd (BE.trans z) hb
    ·rw [BE];exact z
   rw [q] at q';cases q'
   obtain ⟨v,hv⟩:=CT
   exact ⟨v,by rw [BE];exact hv⟩
  ·refine (ok b u q).stay (fun c v hc r=>k c v ?_ r) (fun c r=>by rw [aB (Lw c b r)];exact r) fun c xs r=>r.upd fun _ _ z=>by
    subst z
    rcases r with r | ⟨_,r⟩<;>(rw [r] at mu;exact mu)
   rcases hc with rfl | hc
   ·exact BE
   ·rintro rfl
    rcases he with z | z
    ·exact Lw c b hc z
    ·rw [hc] at z;cases z;exact hb rfl
end
structure Un (fs ex:List Addr) (H H':Hp) (h h':Heap):Prop where
 keep:∀ b o,h.get? b=some o->H b=none->b ∉ fs->b ∉ ex->h'.get? b=some o
 slot:∀ b o,h.get? b=some o->H b=none->b∈fs->b ∉ ex->∃ sl,h'.get? b=some {o with slots:=sl}
 free:∀ b o,h.get? b=some o->H b=none->b ∉ ex->H' b=none
 there:∀ b o,h.get? b=some o->b ∉ ex->∃ o',h'.get? b=some o'
 tups:∀ b xs,H b=some (.tup xs)->H' b=some (.tup xs)
 ue:∀ b o u,H b=some (.ae o u)->H' b=some (.ae o u)
 vc:∀ b ps,H b=some (.BC ps)->∃ more,H' b=some (.BC (ps++more))
section
variable {fs Rf ex ex':List Addr} {H1 H2:Hp} {h1 h2:Heap} {x e:Addr} {o:HO}
theorem Un.any (u:Un fs ex H H1 h h1) {ob:Obj} (q:h.get? b=some ob) (n:H b=none) (hx:b ∉ ex):∃ sl,h1.get? b=some {ob with slots:=sl}:=by
 by_cases hb:b∈fs
 ·exact u.slot b ob q n hb hx
 ·exact ⟨ob.slots,u.keep b ob q n hb hx⟩
theorem Un.trans (a:Un fs ex H H1 h h1) (b:Un fs ex H1 H2 h1 h2):Un fs ex H H2 h h2 where
 keep:=fun c ob q n hc hx=>b.keep c ob (a.keep c ob q n hc hx) (a.free c ob q n hx) hc hx
 slot:=fun c ob q n hc hx=>by
  obtain ⟨sl,e1⟩:=a.slot c ob q n hc hx
  obtain ⟨HY,e2⟩:=b.slot c _ e1 (a.free c ob q n hx) hc hx
  exact ⟨HY,e2⟩
 free:=fun c ob q n hx=>by
  obtain ⟨o',e1⟩:=a.there c ob q hx
  exact b.free c o' e1 (a.free c ob q n hx) hx
 there:=fun c ob q hx=>by
  obtain ⟨o',e1⟩:=a.there c ob q hx
  exact b.there c o' e1 hx
 tups:=fun c xs q=>b.tups c xs (a.tups c xs q)
 ue:=fun c ob xs q=>b.ue c ob xs (a.ue c ob xs q)
 vc:=fun c ps q=>by
  obtain ⟨m1,e1⟩:=a.vc c ps q
  obtain ⟨m2,e2⟩:=b.vc c _ e1
  exact ⟨m1++m2,by rw [e2,Array.append_assoc]⟩
theorem Un.kept (k:∀ b u,h.get? b=some u->h'.get? b=some u):Un fs ex H H h h':=
 ⟨fun b ob q _ _ _=>k b ob q,fun b ob q _ _ _=>⟨ob.slots,k b ob q⟩,fun _ _ _ n _=>n,fun b ob q _=>⟨ob,k b ob q⟩,fun _ _ q=>q,fun _ _ _ q=>q,fun _ ps q=>⟨#[],by rw [q];simp⟩⟩
theorem Un.refl:Un fs ex H H h h:=Un.kept fun _ _ q=>q
theorem Un.laid (k:∀ b u,h.get? b=some u->h'.get? b=some u) (hp:h.objs.size<=a) (hn:H a=none):Un fs ex H (upd H a o) h h' where
 keep:=fun b u q _ _ _=>k b u q
 slot:=fun b u q _ _ _=>⟨u.slots,k b u q⟩
 free:=fun b u q n _=>by rw [aB (Nat.ne_of_lt (Nat.lt_of_lt_of_le (QA q) hp))];exact n
 there:=fun b u q _=>⟨u,k b u q⟩
 tups:=fun b xs q=>by rw [aB (aL q hn)];exact q
 ue:=fun b u xs q=>by rw [aB (aL q hn)];exact q
 vc:=fun b ps q=>⟨#[],by rw [aB (aL q hn),q];simp⟩
theorem Un.write (mu:Eg (H x)) (he:e=x\/H e=some (.own x)) (k:∀ b u,b≠e->h.get? b=some u->h'.get? b=some u) (CT:∃ u,h'.get? e=some u):Un fs ex H (upd H x o) h h':=by
 have hx:∀ b,H b=none->b≠x:=fun b n z=>by subst z;rw [n] at mu;exact mu
 have hb:∀ b,H b=none->b≠e:=fun b n z=>by
  subst z
  rcases he with r | r
  ·exact hx b n r
  ·rw [n] at r;cases r
 have hm:∀ b u,H b=some u->¬Eg (some u)->b≠x:=fun b u q nm z=>by subst z;rw [q] at mu;exact nm mu
 refine ⟨fun b u q n _ _=>k b u (hb b n) q,fun b u q n _ _=>⟨u.slots,k b u (hb b n) q⟩,fun b u q n _=>by rw [aB (hx b n)];exact n,fun b u q _=>?_,
  fun b xs q=>by rw [aB (hm b _ q fun z=>z)];exact q,fun b u xs q=>by rw [aB (hm b _ q fun z=>z)];exact q,fun b ps q=>⟨#[],by rw [aB (hm b _ q fun z=>z),q];simp⟩⟩
 by_cases BE:b=e
 ·subst BE;exact CT
 ·exact ⟨u,k b u BE q⟩
end
def lg (h:Heap) (H:Hp):List Addr:=(List.range h.objs.size).filter fun a=>(H a).isSome
def zz (h:Heap) (H:Hp):Heap:=PySem.W.hideAll h (lg h H)
theorem vQ (h:Heap) (H:Hp):(zz h H).objs.size=h.objs.size:=PySem.W.hideAll_size _ _
theorem zJ (e:h.get? b=some o) (n:H b=none):(zz h H).get? b=some o:=
 PySem.W.hideAll_get _ e fun hm=>by
  have q:(H b).isSome=true:=(List.mem_filter.mp hm).2
  rw [n] at q;simp at q
theorem Rg (e:(zz h H).get? b=some o):h.get? b=some o/\H b=none:=by
 have e':h.get? b=some o:=PySem.W.of_hideAll (lg h H) e
 refine ⟨e',?_⟩
 cases q:H b with
 | none=>rfl
 | some x=>
  have hm:b∈lg h H:=List.mem_filter.mpr ⟨List.mem_range.mpr (QA e'),by simp [q]⟩
  have z:(zz h H).get? b=none:=PySem.W.hideAll_none (lg h H) hm
  rw [z] at e;cases e
structure Mod (K:Q1) (mg:Str->Option Value) (base:Heap):Prop where
 z_:K.In base
 glob:base.Ns mainGlobals mg
 blt:∃ mb,base.Ns builtinsNs mb/\∀ x:Str,x≠"__name__"->mb x=bootBuiltins x
 nolimit:base.NoLimit
structure Cx where
 prog:Program
 w:World
 K:Q1
 mg:Str->Option Value
 base:Heap
 A:Around
 N:List Str
 s₀:Shared
 H₀:Hp
 env:Env
 outer:List Env
 stack:List Env
 ex:List Addr
 fn:Str->Bool
 calm:Bool
 pn:List (Addr×Obj)
 xe:Value->Shared->Prop
end L2
variable {X:L2.Cx}
namespace L2
open PySem PySem.Spec PyProof.Rows
def mi (l:List Env):List Addr:=l.filterMap (·.frame)
abbrev Cx.fs (X:Cx):List Addr:=mi X.outer
def Eh (sc:Scope) (x:Str):Prop:=sc.names.lookup x=some .local\/sc.names.lookup x=some .cell\/sc.names.lookup x=some .free
def Loc (sc:Scope) (x:Str):Prop:=sc.names.lookup x=some .local\/sc.names.lookup x=some .cell
def Look (env:Env) (h:Heap) (m:Str->Option Value) (x:Str) (u:Value):Prop:=
 (env.kindOf x=some .local/\m x=some u)\/((env.kindOf x=some .cell\/env.kindOf x=some .free)/\∃ c,env.cells.lookup x=some c/\h.IsCell c (some u))
structure Cx.Ok (X:Cx):Prop where
 mod:Mod X.K X.mg X.base
 kind:X.env.scope.kind=.function
 glob:X.env.globals=mainGlobals
 blt:X.env.builtins=builtinsNs
 above:X.s₀.heap.objs.size<=X.env.locals
 inj:∀ x y c,X.env.cells.lookup x=some c->X.env.cells.lookup y=some c->x=y
 has:∀ x,(X.env.kindOf x=some .cell\/X.env.kindOf x=some .free)->∃ c,X.env.cells.lookup x=some c
 Ei:∀ x c,X.fn x=true->X.env.cells.lookup x=some c->X.s₀.heap.objs.size<=c
 hd:X.calm=true->X.A.handled=none
 frames:X.A.frames=some X.stack
 F1:X.stack=X.outer\/(X.stack=X.env::X.outer/\X.env.frame=some X.env.locals)
 Lx:∀ b∈X.ex,b≠X.env.locals/\∀ x c,X.env.cells.lookup x=some c->c≠b
 bs:∀ b o,X.base.get? b=some o->X.s₀.heap.get? b=some o/\X.H₀ b=none
 Aa:X.base.objs.size<=X.s₀.heap.objs.size
 Ej:∀ b o,X.base.get? b=some o->b ∉ X.ex
 F2:∀ b∈X.ex,b ∉ X.fs
 vd:X.s₀.heap.FunFrames X.base X.outer
 BF:∀ b∈X.fs,X.H₀ b=none
structure Inv (X:Cx) (pins:List (Addr×Obj)) (σ:List (Option V)) (H:Hp) (s:Shared):Prop where
 ok:X.Ok
 os:s.os=X.s₀.os
 bare:AllBare s.gens
 base:Un X.fs X.ex X.H₀ H X.s₀.heap s.heap
 loc:∃ m,s.heap.Ns X.env.locals m/\∀ (i:Nat) (x:Str) (v:V),X.N[i]? =some x->σ[i]? =some (some v)->Eh X.env.scope x->∃ u,RelV v u/\Look X.env s.heap m x u
 cell:∀ x c,X.env.cells.lookup x=some c->∃ v,s.heap.IsCell c v
 free:H X.env.locals=none
 wg:∀ x c,X.env.cells.lookup x=some c->H c=none
 pin:∀ p∈X.pn++pins,s.heap.get? p.1=some p.2/\H p.1=none/\p.1≠X.env.locals/\p.1 ∉ X.fs/\∀ v,p.2.data≠.cell v
 hok:fg X.prog X.w H s.heap
 len:σ.length=X.N.length
section
variable {σ:List (Option V)}
theorem Cx.Ok.Rh (ok:X.Ok) (e:X.base.get? b=some o):b ∉ X.fs:=fun hb=>by
 have:=(ok.vd.mem hb).1
 rw [e] at this;cases this
theorem Inv.bs (I:Inv X pins σ H s):∀ b o,X.base.get? b=some o->s.heap.get? b=some o/\H b=none:=fun b o e=>
 ⟨I.base.keep b o (I.ok.bs b o e).1 (I.ok.bs b o e).2 (I.ok.Rh e) (I.ok.Ej b o e),I.base.free b o (I.ok.bs b o e).1 (I.ok.bs b o e).2 (I.ok.Ej b o e)⟩
theorem Inv.bk (I:Inv X pins σ H s):∀ b o,X.base.get? b=some o->s.heap.get? b=some o:=fun b o e=>(I.bs b o e).1
theorem Inv.mod (I:Inv X pins σ H s):Mod X.K X.mg X.base:=I.ok.mod
theorem Inv.gy (I:Inv X pins σ H s):X.K.In s.heap:=I.ok.mod.z_.keeps I.bk
theorem Inv.lt (I:Inv X pins σ H s):X.env.locals < s.heap.objs.size:=let ⟨_,hn,_⟩:=I.loc;hn.lt
theorem Inv.sz (I:Inv X pins σ H s):X.s₀.heap.objs.size<=s.heap.objs.size:=Nat.le_trans I.ok.above (Nat.le_of_lt I.lt)
theorem Inv.Ri (I:Inv X pins σ H s) (h:s.heap.objs.size<=a):a ∉ X.fs:=fun hb=>by
 obtain ⟨_,o,ho,_⟩:=I.ok.vd.mem hb
 exact absurd (Nat.lt_of_lt_of_le (QA ho) (Nat.le_trans I.sz h)) (Nat.lt_irrefl _)
theorem Inv.BH (I:Inv X pins σ H s):∀ x c,X.env.cells.lookup x=some c->c≠X.env.locals:=fun x c e z=>by
 obtain ⟨v,o,ho,hd⟩:=I.cell x c e
 obtain ⟨m,⟨o',es,ep,wj,HZ,_⟩,_⟩:=I.loc
 rw [z,wj] at ho;cases ho;rw [HZ] at hd;cases hd
theorem Inv.vd (I:Inv X pins σ H s):s.heap.FunFrames X.base X.outer:=by
 have all:∀ (l:List Env),(∀ b∈mi l,b∈X.fs)->X.s₀.heap.FunFrames X.base l->s.heap.FunFrames X.base l:=by
  intro l
  induction l with
  | nil=>intro _ _;trivial
  | cons env r ih=>
   intro hs hl
   obtain ⟨hk,⟨L,o,hf,hn,ho,hd⟩,hr⟩:=hl
   have hL:L∈X.fs:=hs L (by unfold mi;rw [List.filterMap_cons,hf];exact List.mem_cons_self)
   obtain ⟨sl,e⟩:=I.base.slot L o ho (I.ok.BF L hL) hL fun z=>I.ok.F2 L z hL
   exact ⟨hk,⟨L,_,hf,hn,e,hd⟩,ih (fun b hb=>hs b (by unfold mi;rw [List.filterMap_cons,hf];exact Qh _ hb)) hr⟩
 exact all X.outer (fun _ hb=>hb) I.ok.vd
theorem Inv.stack (I:Inv X pins σ H s):s.heap.FunFrames X.base X.stack:=by
 rcases I.ok.F1 with e | ⟨e,hf⟩
 ·rw [e];exact I.vd
 ·rw [e]
  obtain ⟨m,hn,_⟩:=I.loc
  refine .cons (by rw [I.ok.kind];decide) hf hn ?_ I.vd
  exact Heap.get?_none_of_le (Nat.le_trans I.ok.Aa I.ok.above)
theorem Inv.BI (I:Inv X pins σ H s):∀ b∈mi X.stack,b∈X.env.locals::X.fs:=fun b hb=>by
 rcases I.ok.F1 with e | ⟨e,hf⟩
 ·rw [e] at hb;exact Qh _ hb
 ·rw [e] at hb
  unfold mi at hb
  rw [List.filterMap_cons,hf] at hb
  exact hb
theorem Inv.Ly (I:Inv X pins σ H s):∀ b∈mi X.stack,H b=none:=fun b hb=>by
 rcases Qp.mp (I.BI b hb) with e | hb
 ·rw [e];exact I.free
 ·obtain ⟨_,o,ho,_⟩:=I.ok.vd.mem hb
  exact I.base.free b o ho (I.ok.BF b hb) fun z=>I.ok.F2 b z hb
theorem Inv.step {g':Array GenState} {d':Drawn} (I:Inv X pins σ H s)
  (yo:∀ b∈ch,(b∈X.ex\/X.s₀.heap.objs.size<=b)/\b≠X.env.locals/\(∀ x c,X.env.cells.lookup x=some c->c≠b)/\∀ p∈X.pn++pins,p.1≠b)
  (keep:∀ b o,b≠X.env.locals->b ∉ X.fs->b ∉ ch->s.heap.get? b=some o->H b=none->h'.get? b=some o)
  (slot:∀ b o,b≠X.env.locals->b∈X.fs->b ∉ ch->s.heap.get? b=some o->H b=none->∃ sl,h'.get? b=some {o with slots:=sl}) (free:∀ b o,b ∉ ch->s.heap.get? b=some o->H b=none->H' b=none)
  (there:∀ b o,b ∉ ch->s.heap.get? b=some o->∃ o',h'.get? b=some o')
  (tups:∀ b xs,H b=some (.tup xs)->H' b=some (.tup xs)) (ue:∀ b o u,H b=some (.ae o u)->H' b=some (.ae o u)) (vc:∀ b ps,H b=some (.BC ps)->∃ more,H' b=some (.BC (ps++more)))
  (ns:∀ m,s.heap.Ns X.env.locals m->h'.Ns X.env.locals m) (hok:fg X.prog X.w H' h') (hg:AllBare g'):
  Inv X pins σ H' {s with heap:=h',gens:=g',drawn:=d',toks:=t'}:=by
 have Lz:∀ b o,X.s₀.heap.get? b=some o->b≠X.env.locals:=fun b o e=>Nat.ne_of_lt (Nat.lt_of_lt_of_le (QA e) I.ok.above)
 have F3:∀ b o,X.s₀.heap.get? b=some o->b ∉ X.ex->b ∉ ch:=fun b o e hx hb=>by
  rcases (yo b hb).1 with z | z
  ·exact hx z
  ·exact absurd (Nat.lt_of_lt_of_le (QA e) z) (Nat.lt_irrefl _)
 have cellK:∀ x c,X.env.cells.lookup x=some c->∀ v,s.heap.IsCell c v->h'.IsCell c v:=fun x c e v ⟨o,ho,hd⟩=>by
  have wm:c ∉ ch:=fun z=>(yo c z).2.2.1 x c e rfl
  by_cases hc:c∈X.fs
  ·obtain ⟨sl,q⟩:=slot c o (I.BH x c e) hc wm ho (I.wg x c e)
   exact ⟨_,q,hd⟩
  ·exact ⟨o,keep c o (I.BH x c e) hc wm ho (I.wg x c e),hd⟩
 refine ⟨I.ok,I.os,hg,⟨fun b o e n hb hx=>?_,fun b o e n hb hx=>?_,fun b o e n hx=>?_,fun b o e hx=>?_,fun b xs e=>tups b xs (I.base.tups b xs e),fun b o xs e=>ue b o xs (I.base.ue b o xs e),fun b ps e=>?_⟩,?_,fun x c e=>?_,?_,fun x c e=>?_,fun p hp=>?_,hok,I.len⟩
 ·exact keep b o (Lz b o e) hb (F3 b o e hx) (I.base.keep b o e n hb hx) (I.base.free b o e n hx)
 ·obtain ⟨sl,e1⟩:=I.base.slot b o e n hb hx
  obtain ⟨HY,e2⟩:=slot b _ (Lz b o e) hb (F3 b o e hx) e1 (I.base.free b o e n hx)
  exact ⟨HY,e2⟩
 ·obtain ⟨o',e1⟩:=I.base.there b o e hx
  exact free b o' (F3 b o e hx) e1 (I.base.free b o e n hx)
 ·obtain ⟨o',e1⟩:=I.base.there b o e hx
  exact there b o' (F3 b o e hx) e1
 ·obtain ⟨m1,e1⟩:=I.base.vc b ps e
  obtain ⟨m2,e2⟩:=vc b _ e1
  exact ⟨m1++m2,by rw [e2,Array.append_assoc]⟩
 ·obtain ⟨m,hn,hl⟩:=I.loc
  refine ⟨m,ns m hn,fun i x v e1 e2 e3=>?_⟩
  obtain ⟨u,r,l⟩:=hl i x v e1 e2 e3
  refine ⟨u,r,?_⟩
  rcases l with l | ⟨k,c,e,z⟩
  ·exact .inl l
  ·exact .inr ⟨k,c,e,cellK x c e _ z⟩
 ·obtain ⟨v,z⟩:=I.cell x c e
  exact ⟨v,cellK x c e v z⟩
 ·obtain ⟨m,⟨o,_,_,ho,_⟩,_⟩:=I.loc
  exact free _ o (fun z=>(yo _ z).2.1 rfl) ho I.free
 ·obtain ⟨v,o,ho,hd⟩:=I.cell x c e
  exact free c o (fun z=>(yo c z).2.2.1 x c e rfl) ho (I.wg x c e)
 ·obtain ⟨e,n,ne,nf,d⟩:=I.pin p hp
  have wm:p.1 ∉ ch:=fun z=>(yo p.1 z).2.2.2 p hp rfl
  exact ⟨keep p.1 p.2 ne nf wm e n,free p.1 p.2 wm e n,ne,nf,d⟩
theorem Inv.un (I:Inv X pins σ H s) (u:Un X.fs [] H H' s.heap h') (hok:fg X.prog X.w H' h'):Inv X pins σ H' {s with heap:=h',toks:=t'}:=by
 obtain ⟨m,⟨o,es,ep,ho,r⟩,_⟩:=id I.loc
 obtain ⟨sl,hL⟩:=u.any ho I.free (by simp)
 exact I.step (g':=s.gens) (d':=s.drawn) (ch:=[]) (fun _ z=>nomatch z) (fun b o _ hb _ e n=>u.keep b o e n hb (by simp)) (fun b o _ hb _ e n=>u.slot b o e n hb (by simp)) (fun b o _ e n=>u.free b o e n (by simp)) (fun b o _ e=>u.there b o e (by simp)) u.tups u.ue u.vc (fun m' hm=>by
  obtain ⟨o',es',lh,wj,r'⟩:=hm
  rw [ho] at wj;cases wj
  exact ⟨_,es',lh,hL,r'⟩) hok I.bare
theorem Inv.call {g':Array GenState} {d':Drawn} (I:Inv X pins σ H s) (u:Un (mi X.stack) ch H H' s.heap h') (hok:fg X.prog X.w H' h') (hg:AllBare g')
  (yo:∀ b∈ch,(b∈X.ex\/X.s₀.heap.objs.size<=b)/\b≠X.env.locals/\(∀ x c,X.env.cells.lookup x=some c->c≠b)/\∀ p∈X.pn++pins,p.1≠b):
  Inv X pins σ H' {s with heap:=h',gens:=g',drawn:=d',toks:=t'}:=by
 obtain ⟨m,⟨o,es,ep,ho,r⟩,_⟩:=id I.loc
 obtain ⟨sl,hL⟩:=u.any ho I.free fun z=>(yo _ z).2.1 rfl
 exact I.step (ch:=ch) yo (fun b o hL hb hc e n=>u.keep b o e n (fun z=>(Qp.mp (I.BI b z)).elim hL hb) hc) (fun b o _ _ hc e n=>u.any e n hc) (fun b o hc e n=>u.free b o e n hc) (fun b o hc e=>u.there b o e hc) u.tups u.ue u.vc (fun m' hm=>by
  obtain ⟨o',es',lh,wj,r'⟩:=hm
  rw [ho] at wj;cases wj
  exact ⟨_,es',lh,hL,r'⟩) hok hg
theorem Inv.turned (I:Inv X pins σ H s) (k:∀ b o,b≠it->s.heap.get? b=some o->h'.get? b=some o) (hn:H it=none) (hL:it≠X.env.locals)
  (h1:it∈X.ex\/X.s₀.heap.objs.size<=it) (h2:∀ x c,X.env.cells.lookup x=some c->c≠it) (h3:∀ p∈X.pn++pins,p.1≠it):Inv X pins σ H {s with heap:=h',toks:=t'}:=by
 have LA:∀ b u,H b=some u->b≠it:=fun b u e z=>by rw [z,hn] at e;cases e
 refine I.step (g':=s.gens) (d':=s.drawn) (ch:=[it]) (fun b hb=>?_) (fun b o _ _ hc e _=>k b o (fun z=>hc (by simp [z])) e) (fun b o _ _ hc e _=>⟨o.slots,k b o (fun z=>hc (by simp [z])) e⟩) (fun _ _ _ _ n=>n)
  (fun b o hc e=>⟨o,k b o (fun z=>hc (by simp [z])) e⟩) (fun _ _ e=>e) (fun _ _ _ e=>e) (fun b ps e=>⟨#[],by rw [e];simp⟩) (fun m hm=>?_) (fun b u e=>?_) I.bare
 ·have e:b=it:=by simpa using hb
  subst e
  exact ⟨h1,hL,h2,h3⟩
 ·obtain ⟨o,es,ep,ho,r⟩:=hm
  exact ⟨o,es,ep,k _ o (Ne.symm hL) ho,r⟩
 ·refine (I.hok b u e).stay (fun c v hc q=>k c v ?_ q) (fun _ q=>q) fun _ _ q=>q
  rcases hc with z | z
  ·rw [z];exact LA b u e
  ·exact LA c _ z
theorem Inv.tok (I:Inv X pins σ H s) (t:Nat):Inv X pins σ H {s with toks:=t}:=I.un (h':=s.heap) (t':=t) Un.refl I.hok
theorem Inv.kept {t':Nat} (I:Inv X pins σ H s) (k:∀ b u,s.heap.get? b=some u->h'.get? b=some u):Inv X pins σ H {s with heap:=h',toks:=t'}:=I.un (Un.kept k) (I.hok.kept k)
theorem Inv.laid {a:Addr} {o:HO} {t':Nat} (I:Inv X pins σ H s) (k:∀ b u,s.heap.get? b=some u->h'.get? b=some u) (hp:s.heap.objs.size<=a) (new:bg X.prog X.w (upd H a o) h' a o):
  Inv X pins σ (upd H a o) {s with heap:=h',toks:=t'}:=I.un (Un.laid k hp (I.hok.fresh hp)) (I.hok.laid k hp new)
theorem Inv.write {x e:Addr} {o:HO} {t':Nat} (I:Inv X pins σ H s) (mu:Eg (H x)) (he:e=x\/H e=some (.own x)) (k:∀ b u,b≠e->s.heap.get? b=some u->h'.get? b=some u) (CT:∃ u,h'.get? e=some u)
  (new:bg X.prog X.w (upd H x o) h' x o):Inv X pins σ (upd H x o) {s with heap:=h',toks:=t'}:=I.un (Un.write mu he k CT) (I.hok.write mu he k CT new)
theorem Inv.LB {LC:List (Addr×Obj)} (I:Inv X pins σ H s) (h:∀ p∈LC,s.heap.get? p.1=some p.2/\H p.1=none/\p.1≠X.env.locals/\p.1 ∉ X.fs/\∀ v,p.2.data≠.cell v):Inv X LC σ H s:=
 ⟨I.ok,I.os,I.bare,I.base,I.loc,I.cell,I.free,I.wg,fun p hp=>(List.mem_append.mp hp).elim (fun z=>I.pin p (List.mem_append_left _ z)) (h p),I.hok,I.len⟩
theorem pT (hN:N.Nodup) (a:N[i]? =some x) (b:N[j]? =some x):i=j:=by
 obtain ⟨h1,e1⟩:=List.getElem?_eq_some_iff.mp a
 obtain ⟨h2,e2⟩:=List.getElem?_eq_some_iff.mp b
 exact (List.getElem_inj hN).mp (e1.trans e2.symm)
theorem jA {M:Model} {v:V} {Q:Unit->Shared->Prop} (I:Inv X pins σ H s) (hN:X.N.Nodup) (hi:X.N[i]? =some x) (hx:Loc X.env.scope x) (r:RelV v u)
  (h:∀ s',Inv X pins (σ.set i (some v)) H s'->(∃ a,Heap.SameBut a s.heap s'.heap/\(a=X.env.locals\/X.env.cells.lookup x=some a))->Q () s') (hf:X.fn x=true\/X.env.scope.names.lookup x=some .local:=by first | exact .inl rfl | exact .inr rfl | assumption):wpAny M A (storeName X.env x u) Q E s:=by
 obtain ⟨m,hn,hl⟩:=id I.loc
 have Rj:(X.env.scope.kind==.class||(X.env.scope.kind==.module&&X.env.locals !=X.env.globals))=false:=by rw [I.ok.kind];rfl
 have LD:i < σ.length:=by rw [I.len];exact (List.getElem?_eq_some_iff.mp hi).1
 have BH:=I.BH
 have tracked:∀ {a:Addr} {h':Heap},(∃ o,s.heap.get? a=some o/\H a=none)->Heap.SameBut a s.heap h'->fg X.prog X.w H h':=fun {a h'} ha hs b ob e=>by
  obtain ⟨_,_,LF⟩:=ha
  refine (I.hok b ob e).stay (fun c w' hc q=>(hs.2 c ?_).trans q) (fun _ q=>q) fun _ _ q=>q
  rintro rfl
  rcases hc with rfl | hc
  ·rw [LF] at e;cases e
  ·rw [LF] at hc;cases hc
 rcases hx with hk | hk
 ·refine wpAny_storeName_local hk hn (fun h' Ek hs=>?_) Rj
  obtain ⟨oL,_,_,F4,_⟩:=id hn
  refine h _ ⟨I.ok,I.os,I.bare,⟨fun b o e n hb hx=>?_,fun b o e n hb hx=>?_,I.base.free,fun b o e hx=>?_,I.base.tups,I.base.ue,I.base.vc⟩,⟨_,Ek,fun j y v' e1 e2 e3=>?_⟩,fun y c e=>?_,I.free,I.wg,fun p hp=>?_,tracked ⟨oL,F4,I.free⟩ hs,by simpa using I.len⟩ ⟨_,hs,.inl rfl⟩
  ·exact (hs.2 b (Nat.ne_of_lt (Nat.lt_of_lt_of_le (QA e) I.ok.above))).trans (I.base.keep b o e n hb hx)
  ·obtain ⟨sl,e1⟩:=I.base.slot b o e n hb hx
   exact ⟨sl,(hs.2 b (Nat.ne_of_lt (Nat.lt_of_lt_of_le (QA e) I.ok.above))).trans e1⟩
  ·obtain ⟨o',e1⟩:=I.base.there b o e hx
   exact ⟨o',(hs.2 b (Nat.ne_of_lt (Nat.lt_of_lt_of_le (QA e) I.ok.above))).trans e1⟩
  ·by_cases hj:j=i
   ·subst hj
    rw [hi] at e1;cases e1
    rw [List.getElem?_set_self LD] at e2
    cases e2
    exact ⟨u,r,.inl ⟨hk,by simp⟩⟩
   ·rw [List.getElem?_set_ne (Ne.symm hj)] at e2
    obtain ⟨u',r',q⟩:=hl j y v' e1 e2 e3
    refine ⟨u',r',?_⟩
    rcases q with ⟨k,e⟩ | ⟨k,c,e,z⟩
    ·refine .inl ⟨k,?_⟩
     have:y≠x:=fun e=>hj (pT hN e1 (e▸hi))
     simp [this,e]
    ·exact .inr ⟨k,c,e,z.sameBut hs (BH y c e)⟩
  ·obtain ⟨w',z⟩:=I.cell y c e
   exact ⟨w',z.sameBut hs (BH y c e)⟩
  ·obtain ⟨e,n,ne,nf,d⟩:=I.pin p hp
   exact ⟨(hs.2 p.1 ne).trans e,n,ne,nf,d⟩
 ·have H_:X.fn x=true:=by
   rcases hf with z | z
   ·exact z
   ·rw [z] at hk;cases hk
  obtain ⟨c,hc⟩:=I.ok.has x (.inl hk)
  obtain ⟨w',z⟩:=I.cell x c hc
  refine wpAny_storeName_cell I.ok.kind hk hc z (fun h' wo hs=>?_)
  obtain ⟨oc,LG,Rk⟩:=id z
  refine h {s with heap:=h'} ⟨I.ok,I.os,I.bare,⟨fun b o e n hb hx=>?_,fun b o e n hb hx=>?_,I.base.free,fun b o e hx=>?_,I.base.tups,I.base.ue,I.base.vc⟩,⟨m,hn.sameBut hs (Ne.symm (BH x c hc)),fun j y v' e1 e2 e3=>?_⟩,fun y c' e=>?_,I.free,I.wg,fun p hp=>?_,tracked ⟨oc,LG,I.wg x c hc⟩ hs,by simpa using I.len⟩ ⟨c,hs,.inr hc⟩
  ·exact (hs.2 b (Nat.ne_of_lt (Nat.lt_of_lt_of_le (QA e) (I.ok.Ei x c H_ hc)))).trans (I.base.keep b o e n hb hx)
  ·obtain ⟨sl,e1⟩:=I.base.slot b o e n hb hx
   exact ⟨sl,(hs.2 b (Nat.ne_of_lt (Nat.lt_of_lt_of_le (QA e) (I.ok.Ei x c H_ hc)))).trans e1⟩
  ·obtain ⟨o',e1⟩:=I.base.there b o e hx
   exact ⟨o',(hs.2 b (Nat.ne_of_lt (Nat.lt_of_lt_of_le (QA e) (I.ok.Ei x c H_ hc)))).trans e1⟩
  ·by_cases hj:j=i
   ·subst hj
    rw [hi] at e1;cases e1
    rw [List.getElem?_set_self LD] at e2
    cases e2
    exact ⟨u,r,.inr ⟨.inl hk,c,hc,wo⟩⟩
   ·rw [List.getElem?_set_ne (Ne.symm hj)] at e2
    obtain ⟨u',r',q⟩:=hl j y v' e1 e2 e3
    refine ⟨u',r',?_⟩
    rcases q with q | ⟨k,c',e,z'⟩
    ·exact .inl q
    ·refine .inr ⟨k,c',e,z'.sameBut hs ?_⟩
     rintro rfl
     exact hj (pT hN e1 (I.ok.inj _ _ _ e hc▸hi))
  ·by_cases F5:c'=c
   ·subst F5;exact ⟨_,wo⟩
   ·obtain ⟨w2,z2⟩:=I.cell y c' e
    exact ⟨w2,z2.sameBut hs F5⟩
  ·obtain ⟨e,n,ne,nf,d⟩:=I.pin p hp
   refine ⟨(hs.2 p.1 ?_).trans e,n,ne,nf,d⟩
   intro q
   rw [q,LG] at e
   have q':oc=p.2:=QE e
   exact d w' (by rw [<- q'];exact Rk)
theorem qF {M:Model} {v:V} {Q:Unit->Shared->Prop} (I:Inv X pins σ H s) (hN:X.N.Nodup) (hi:X.N[i]? =some x) (hx:Loc X.env.scope x) (r:RelV v u)
  (h:∀ s',Inv X pins (σ.set i (some v)) H s'->Q () s') (hf:X.fn x=true\/X.env.scope.names.lookup x=some .local:=by first | exact .inl rfl | exact .inr rfl | assumption):wpAny M A (storeName X.env x u) Q E s:=
 jA I hN hi hx r (fun s' I' _=>h s' I') hf
theorem Inv.Rl {s':Shared} (I:Inv X pins σ H s) (ho:s'.os=s.os) (u:Un (mi X.stack) ch H H' s.heap s'.heap) (hok:fg X.prog X.w H' s'.heap) (hg:AllBare s'.gens)
  (yo:∀ b∈ch,(b∈X.ex\/X.s₀.heap.objs.size<=b)/\b≠X.env.locals/\(∀ x c,X.env.cells.lookup x=some c->c≠b)/\∀ p∈X.pn++pins,p.1≠b):Inv X pins σ H' s':=by
 obtain ⟨h',g',d',t',o'⟩:=s'
 have e:o'=s.os:=ho
 subst e
 exact I.call (g':=g') (t':=t') (d':=d') u hok hg yo
end
abbrev XK:=Value->Option Addr->Hp->Prop
abbrev St:=List (Option V)
end L2
variable {σ:L2.St}
namespace L2
open PySem PySem.Spec PyProof.Rows
abbrev VK:=V->Hp->Prop
abbrev TE:=St->Hp->VK->Prop
end L2
variable {ta te to:L2.TE}
namespace L2
open PySem PySem.Spec PyProof.Rows
abbrev TT:=St->Hp->(Bool->Hp->Prop)->Prop
abbrev TA:=St->Hp->(List V->Hp->Prop)->Prop
structure Ends where
 nx:St->Hp->Prop
 rt:VK
 bk:St->Hp->Prop:=fun _ _=>False
 ct:St->Hp->Prop:=fun _ _=>False
abbrev TS:=Ends->St->Hp->Prop
def EP (X:Cx) (pins:List (Addr×Obj)) (σ:St) (Q:VK) (u:Value) (s':Shared):Prop:=∃ v H',Inv X pins σ H' s'/\RelV v u/\Q v H'
def TP (X:Cx) (pins:List (Addr×Obj)) (σ:St) (Q:Bool->Hp->Prop) (b:Bool) (s':Shared):Prop:=∃ H',Inv X pins σ H' s'/\Q b H'
def AP (X:Cx) (pins:List (Addr×Obj)) (σ:St) (Q:List V->Hp->Prop) (us:List Value) (s':Shared):Prop:=∃ vs H',Inv X pins σ H' s'/\az vs us/\Q vs H'
def SP (X:Cx) (pins:List (Addr×Obj)) (D:Ends) (f:Flow) (s':Shared):Prop:=
 match f with
 | .next=>∃ σ' H',Inv X pins σ' H' s'/\D.nx σ' H'
 | .brk=>∃ σ' H',Inv X pins σ' H' s'/\D.bk σ' H'
 | .cont=>∃ σ' H',Inv X pins σ' H' s'/\D.ct σ' H'
 | .ret u=>∃ v σ' H',Inv X pins σ' H' s'/\RelV v u/\D.rt v H'
def PE (X:Cx) (e:Expr) (t:TE):Prop:=
 ∀ (pins:List (Addr×Obj)) (s:Shared) (σ:St) (H:Hp) (Q:VK),Inv X pins σ H s->t σ H Q->wpAny (model X.prog X.w) X.A (eval e X.env) (EP X pins σ Q) X.xe s
def PT (X:Cx) (e:Expr) (t:TT):Prop:=
 ∀ (pins:List (Addr×Obj)) (s:Shared) (σ:St) (H:Hp) (Q:Bool->Hp->Prop),Inv X pins σ H s->t σ H Q->wpAny (model X.prog X.w) X.A (isTrue e X.env (eval e X.env)) (TP X pins σ Q) X.xe s
def PW (X:Cx) (e:Expr) (t:TT):Prop:=
 ∀ (whole:Sem Value) (pins:List (Addr×Obj)) (s:Shared) (σ:St) (H:Hp) (Q:Bool->Hp->Prop),Inv X pins σ H s->t σ H Q->wpAny (model X.prog X.w) X.A (isTrue e X.env whole) (TP X pins σ Q) X.xe s
theorem PW.pt {t:TT} (h:PW X e t):PT X e t:=h _
def PA (X:Cx) (es:List Expr) (t:TA):Prop:=
 ∀ (pos:Pos) (pins:List (Addr×Obj)) (s:Shared) (σ:St) (H:Hp) (Q:List V->Hp->Prop),Inv X pins σ H s->t σ H Q->wpAny (model X.prog X.w) X.A (spliced (backTo pos (starEach es X.env))) (AP X pins σ Q) X.xe s
def PS (X:Cx) (st:Stmt) (t:TS):Prop:=
 ∀ (pins:List (Addr×Obj)) (s:Shared) (σ:St) (H:Hp) (D:Ends),Inv X pins σ H s->t D σ H->wpAny (model X.prog X.w) X.A (exec st X.env) (SP X pins D) X.xe s
def qj (X:Cx) (st:List Stmt) (t:TS):Prop:=
 ∀ (pins:List (Addr×Obj)) (s:Shared) (σ:St) (H:Hp) (D:Ends),Inv X pins σ H s->t D σ H->wpAny (model X.prog X.w) X.A (execs st X.env) (SP X pins D) X.xe s
theorem ao {t:Sem α} {Q Q':α->Shared->Prop} {M:Model} (h:wpAny M A t Q E s) (hQ:∀ a s,Q a s->Q' a s):wpAny M A t Q' E s:=wpAny_mono h hQ fun _ _ x=>x
section
def Rm (i:Nat):TE:=fun σ H Q=>∃ v,σ[i]? =some (some v)/\Q v H
def tC (v:V):TE:=fun _ H Q=>Q v H
theorem Rn {pos:Pos} (hN:X.N[i]? =some x) (hv:Eh X.env.scope x) (hd:(x==("__debug__":Str))=false:=by decide) (qm:(x==("__classdict__":Str))=false:=by decide):PE X (.Name x pos) (Rm i):=by
 intro pins s σ H Q I h
 obtain ⟨v,e,h⟩:=h
 obtain ⟨m,hn,hl⟩:=I.loc
 obtain ⟨u,r,l⟩:=hl i x v hN e hv
 have fin:EP X pins σ Q u s:=⟨v,H,I,r,h⟩
 rcases l with ⟨hk,hm⟩ | ⟨hk,c,hc,LH⟩
 ·exact wpAny_Name (wpAny_loadName_local I.ok.kind hk hn hm fin) hd
 ·rcases hk with hk | hk
  ·exact wpAny_Name (wpAny_loadName_cell I.ok.kind hk hc LH fin) hd
  ·exact wpAny_Name (wpAny_loadName_free I.ok.kind hk hc LH fin qm) hd
theorem Ro {i j pos}:PE X (.Constant (.int i) j pos) (tC (.int i)):=fun _ _ _ H _ I h=>wpAny_Constant_int ⟨.int i,H,I.tok _,⟨_,rfl⟩,h⟩
theorem Rp {b j pos}:PE X (.Constant (.bool b) j pos) (tC (.bl b)):=fun _ _ _ H _ I h=>Constant_bool ⟨.bl b,H,I,rfl,h⟩
theorem Rq {j pos}:PE X (.Constant .none j pos) (tC .ai):=fun _ _ _ H _ I h=>Constant_none ⟨.ai,H,I,rfl,h⟩
theorem Rr {x j pos}:PE X (.Constant (.str x) j pos) (tC (.str x)):=fun _ _ _ H _ I h=>Calls.Constant_str ⟨.str x,H,I.tok _,⟨_,rfl⟩,h⟩
def Gl (X:Cx) (x:Str):Prop:=X.env.kindOf x=some .globalImplicit
theorem kU {pos:Pos} (I:Inv X pins σ H s) (hg:Gl X x) (hm:X.mg x=some u) (h:Q u s)
  (hd:(x==("__debug__":Str))=false:=by decide):wpAny (model X.prog X.w) X.A (eval (.Name x pos) X.env) Q E s:=
 Calls.Name_function_global I.ok.kind hg (Calls.loadGlobal_global (by rw [I.ok.glob];exact I.mod.glob.keeps I.bk) hm h) hd
theorem jG {pos:Pos} (I:Inv X pins σ H s) (hg:Gl X x) (hm:X.mg x=none) (hv:bootBuiltins x=some u) (h:Q u s)
  (hn:x≠"__name__":=by decide) (hd:(x==("__debug__":Str))=false:=by decide):wpAny (model X.prog X.w) X.A (eval (.Name x pos) X.env) Q E s:=by
 obtain ⟨mb,h1,h2⟩:=I.mod.blt
 exact Calls.Name_function_global I.ok.kind hg (Calls.loadGlobal_builtin (by rw [I.ok.glob];exact I.mod.glob.keeps I.bk) hm (by rw [I.ok.blt];exact h1.keeps I.bk) ((h2 x hn).trans hv) h) hd
theorem kT {v:V} {pos:Pos} (hg:Gl X x) (hm:X.mg x=some u) (r:RelV v u) (hd:(x==("__debug__":Str))=false:=by decide):PE X (.Name x pos) (tC v):=
 fun _ _ _ H _ I h=>kU I hg hm ⟨v,H,I,r,h⟩ hd
theorem Rt {v:V} {pos:Pos} (hg:Gl X x) (hm:X.mg x=none) (hv:bootBuiltins x=some u) (r:RelV v u) (hn:x≠"__name__":=by decide) (hd:(x==("__debug__":Str))=false:=by decide):PE X (.Name x pos) (tC v):=
 fun _ _ _ H _ I h=>jG I hg hm hv ⟨v,H,I,r,h⟩ hn hd
variable {a b:Expr} {tb:TE} {pos:Pos}
def PC (X:Cx) (op:CmpOp) (a b:Expr) (t:TE):Prop:=
 ∀ (pins:List (Addr×Obj)) (s:Shared) (σ:St) (H:Hp) (Q:VK),Inv X pins σ H s->t σ H Q->
  wpAny (model X.prog X.w) X.A (eval a X.env) (fun v s₁=>wpAny (model X.prog X.w) X.A (eval b X.env) (fun u s₂=>wpAny (model X.prog X.w) X.A (compareOp op v u) (EP X pins σ Q) X.xe s₂) X.xe s₁) X.xe s
def tB (t:TE):TT:=fun σ H Q=>t σ H fun x H1=>∃ c,x=.bl c/\Q c H1
theorem Ru {op:CmpOp} {t:TE} (h:PC X op a b t) (h1:behindInMarks op b=false:=by first | exact aaw _ (by decide) (by decide) | rfl):PT X (.Compare a [op] [b] pos) (tB t):=by
 intro pins s σ H Q I hw
 refine wpAny_isTrue_Compare1 (ao (h pins s σ H _ I hw) fun v s1 h1=>ao h1 fun u s2 h2=>ao h2 fun c s3 ⟨x,H1,I1,r1,q1⟩=>?_) h1
 obtain ⟨d,rfl,q⟩:=q1
 cases r1
 exact wpAny_truthy_bool ⟨H1,I1,q⟩
theorem Rv {t:TE} (h:PE X e t) (he:∀ whole,isTrue e X.env whole=(do let v <- whole;standAt e.pos;holding [v] (truthy v)):=by intro _;rfl):PT X e (tB t):=by
 intro pins s σ H Q I hw
 refine isTrue_plain (ao (h pins s σ H _ I hw) fun v s1 ⟨x,H1,I1,r1,q1⟩=>?_) (he _)
 obtain ⟨d,rfl,q⟩:=q1
 cases r1
 exact wpAny_truthy_bool ⟨H1,I1,q⟩
variable {tA yp:TT} {rest:List Expr}
def LI (t u:TT):TT:=fun σ H Q=>t σ H fun c H1=>if c=true then u σ H1 Q else Q false H1
def LJ (t u:TT):TT:=fun σ H Q=>t σ H fun c H1=>if c=true then Q true H1 else u σ H1 Q
def LK (t:TT):TT:=fun σ H Q=>t σ H fun c H1=>Q (!c) H1
theorem Rw (ha:PT X a tA):PW X (.BoolOp .And [a] pos) tA:=by
 intro wh pins s σ H Q I h
 refine isTrue_and (ao (ha pins s σ H Q I h) fun c s1 e=>?_)
 cases c with
 | true=>exact isTrue_and_nil e
 | false=>exact e
theorem Rx (ha:PT X a tA):PW X (.BoolOp .Or [a] pos) tA:=by
 intro wh pins s σ H Q I h
 refine isTrue_or (ao (ha pins s σ H Q I h) fun c s1 e=>?_)
 cases c with
 | false=>exact isTrue_or_nil e
 | true=>exact e
theorem Ry (ha:PT X a tA) (hb:PW X (.BoolOp .And (b::rest) pos) yp):PW X (.BoolOp .And (a::b::rest) pos) (LI tA yp):=by
 intro wh pins s σ H Q I h
 refine isTrue_and (ao (ha pins s σ H _ I h) ?_)
 rintro c s1 ⟨H1,I1,q1⟩
 cases c with
 | true=>exact hb wh pins s1 σ H1 Q I1 q1
 | false=>exact ⟨H1,I1,q1⟩
theorem Rz (ha:PT X a tA) (hb:PW X (.BoolOp .Or (b::rest) pos) yp):PW X (.BoolOp .Or (a::b::rest) pos) (LJ tA yp):=by
 intro wh pins s σ H Q I h
 refine isTrue_or (ao (ha pins s σ H _ I h) ?_)
 rintro c s1 ⟨H1,I1,q1⟩
 cases c with
 | true=>exact ⟨H1,I1,q1⟩
 | false=>exact hb wh pins s1 σ H1 Q I1 q1
theorem RA (ha:PT X a tA):PT X (.UnaryOp .Not a pos) (LK tA):=by
 intro pins s σ H Q I h
 exact isTrue_not (ha pins s σ H (fun c H1=>Q (!c) H1) I h)
end
def af (K:Q1) (H:Hp) (a:Addr) (xs:List V):Prop:=
 Rd H a (.lst xs)\/
  ∃ (o:Obj) (its:Array Value) (n:Nat),K.lookup a=some o/\o.cls=.type "list"/\o.dict=none/\o.data=.seq its n/\its.size<=sizeLine/\az xs its.toList
def aj (K:Q1) (H:Hp) (a:Addr) (xs:List V):Prop:=
 Rd H a (.tup xs)\/
  ∃ (o:Obj) (its:Array Value) (n:Nat),K.lookup a=some o/\o.cls=.type "tuple"/\o.data=.seq its n/\its.size<=sizeLine/\az xs its.toList
def Ab:Value->Option V
 | .none=>some .ai
 | .bool b=>some (.bl b)
 | .int i _=>some (.int i)
 | .str x _=>some (.str x)
 | .bytes b _=>some (.ou b)
 | .float b _=>some (.BB b)
 | .ref a=>some (.ref a)
 | .type n=>some (.ty n)
 | _=>none
theorem RelV.abs {x:V} (r:RelV x u):Ab u=some x:=by
 cases x with
 | ai=>cases r;rfl
 | bl _=>cases r;rfl
 | int _=>obtain ⟨t,rfl⟩:=r;rfl
 | str _=>obtain ⟨t,rfl⟩:=r;rfl
 | ou _=>obtain ⟨t,rfl⟩:=r;rfl
 | BB _=>obtain ⟨t,rfl⟩:=r;rfl
 | ref _=>cases r;rfl
 | ty _=>cases r;rfl
theorem RelV.inj {x y:V} (r:RelV x u) (q:RelV y u):x=y:=QE (r.abs.symm.trans q.abs)
theorem az.inj:∀ {xs ys:List V} {us:List Value},az xs us->az ys us->xs=ys
 | _,_,_,.nil,.nil=>rfl
 | _,_,_,.cons r t,.cons r' t'=>by rw [r.inj r',az.inj t t']
section
variable {xs ys:List V}
theorem af.of {K:Q1} (h:H a=some (.lst xs)):af K H a xs:=.inl (.inl h)
theorem aj.of {K:Q1} (h:H a=some (.tup xs)):aj K H a xs:=.inl (.inl h)
theorem Inv.list (I:Inv X pins σ H s) (h:af X.K H a xs):∃ its:List Value,az xs its/\PlainL s.heap a its.toArray/\xs.length<=sizeLine:=by
 rcases h with h | ⟨o,its,n,hk,hc,hd,hs,hz,r⟩
 ·obtain ⟨z,its,n,r,e⟩:=h.ok I.hok
  exact ⟨its,r,⟨_,n,e,rfl,rfl,rfl⟩,z⟩
 ·refine ⟨its.toList,r,⟨o,n,I.gy a o hk,hc,hd,by simpa using hs⟩,?_⟩
  have e:=r.length
  simp only [Array.length_toList] at e
  omega
theorem Inv.tuple (I:Inv X pins σ H s) (h:aj X.K H a xs):∃ its:List Value,az xs its/\IsTup s.heap a its.toArray/\xs.length<=sizeLine:=by
 rcases h with h | ⟨o,its,n,hk,hc,hs,hz,r⟩
 ·obtain ⟨⟨z,_⟩,its,r,p⟩:=h.ok I.hok
  exact ⟨its,r,p,z⟩
 ·refine ⟨its.toList,r,⟨o,I.gy a o hk,hc,n,by simpa using hs⟩,?_⟩
  have e:=r.length
  simp only [Array.length_toList] at e
  omega
theorem Inv.Ia (I:Inv X pins σ H s) (h:af X.K H a xs) (h':af X.K H a ys):xs=ys:=by
 obtain ⟨its,r,⟨o,n,e,_,_,d⟩,_⟩:=I.list h
 obtain ⟨its',r',⟨o',n',e',_,_,d'⟩,_⟩:=I.list h'
 rw [e] at e';cases e'
 rw [d] at d'
 injection d' with d1 _
 have:its=its':=by simpa using congrArg Array.toList d1
 subst this
 exact r.inj r'
theorem Inv.RB (I:Inv X pins σ H s) (h:aj X.K H a xs) (h':aj X.K H a ys):xs=ys:=by
 obtain ⟨its,r,⟨o,e,_,n,d⟩,_⟩:=I.tuple h
 obtain ⟨its',r',⟨o',e',_,n',d'⟩,_⟩:=I.tuple h'
 rw [e] at e';cases e'
 rw [d] at d'
 injection d' with d1 _
 have:its=its':=by simpa using congrArg Array.toList d1
 subst this
 exact r.inj r'
end
abbrev Cx.yq (X:Cx) (E:Value->Shared->Prop):Cx:={X with xe:=E}
abbrev Cx.AL (X:Cx):Cx:=X.yq fun _ _=>False
theorem Cx.Ok.yq {X:Cx} (ok:X.Ok) (E:Value->Shared->Prop):(X.yq E).Ok:=
 ⟨ok.mod,ok.kind,ok.glob,ok.blt,ok.above,ok.inj,ok.has,ok.Ei,ok.hd,ok.frames,ok.F1,ok.Lx,ok.bs,ok.Aa,ok.Ej,ok.F2,ok.vd,ok.BF⟩
theorem Cx.Ok.AM (ok:(X.yq E).Ok):X.Ok:=
 ⟨ok.mod,ok.kind,ok.glob,ok.blt,ok.above,ok.inj,ok.has,ok.Ei,ok.hd,ok.frames,ok.F1,ok.Lx,ok.bs,ok.Aa,ok.Ej,ok.F2,ok.vd,ok.BF⟩
theorem Inv.yq (I:Inv X pins σ H s) (E:Value->Shared->Prop):Inv (X.yq E) pins σ H s:=⟨I.ok.yq E,I.os,I.bare,I.base,I.loc,I.cell,I.free,I.wg,I.pin,I.hok,I.len⟩
theorem Inv.AM (I:Inv (X.yq E) pins σ H s):Inv X pins σ H s:=⟨I.ok.AM,I.os,I.bare,I.base,I.loc,I.cell,I.free,I.wg,I.pin,I.hok,I.len⟩
theorem SP.AM {D:Ends} {f:Flow} {s':Shared} (h:SP (X.yq E) pins D f s'):SP X pins D f s':=by
 cases f with
 | next=>obtain ⟨σ',H',I,q⟩:=h;exact ⟨σ',H',I.AM,q⟩
 | brk=>obtain ⟨σ',H',I,q⟩:=h;exact ⟨σ',H',I.AM,q⟩
 | cont=>obtain ⟨σ',H',I,q⟩:=h;exact ⟨σ',H',I.AM,q⟩
 | ret u=>obtain ⟨v,σ',H',I,r,q⟩:=h;exact ⟨v,σ',H',I.AM,r,q⟩
theorem qj.AL {st:List Stmt} {t:TS} (h:qj X.AL st t):qj X st t:=fun pins s σ H D I hw=>
 wpAny_mono (h pins s σ H D (I.yq _) hw) (fun _ _ q=>q.AM) fun _ _ z=>False.elim z
section
variable {st:Stmt} {rest:List Stmt} {t u:TS} {pos:Pos}
def Ib:TS:=fun D σ H=>D.nx σ H
def BJ (t u:TS):TS:=fun D σ H=>t {D with nx:=u D} σ H
theorem RC:qj X [] Ib:=fun _ _ σ H _ I h=>wpAny_execs_nil ⟨σ,H,I,h⟩
theorem xV (h1:PS X st t) (h2:qj X rest u):qj X (st::rest) (BJ t u):=by
 intro pins s σ H D I h
 refine wpAny_execs_cons (ao (h1 pins s σ H {D with nx:=u D} I h) fun f s1 q=>?_)
 cases f with
 | next=>
  obtain ⟨σ',H',I',q⟩:=q
  exact h2 pins s1 σ' H' D I' q
 | ret v=>exact q
 | brk=>exact q
 | cont=>exact q
theorem RD (h1:PS X st t):qj X [st] t:=by
 intro pins s σ H D I h
 refine wpAny_execs_cons (ao (h1 pins s σ H D I h) fun f s1 q=>?_)
 cases f with
 | next=>exact wpAny_execs_nil q
 | ret v=>exact q
 | brk=>exact q
 | cont=>exact q
theorem Inv.quiet (I:Inv X pins σ H s):interactive X.env=false:=by simp [interactive,I.ok.kind]
def F6 (te:TE):TS:=fun D σ H=>te σ H fun _ H1=>D.nx σ H1
theorem RE (he:PE X e te) (hs:swapsWith e none pos.line X.env=pure false:=by rfl):PS X (.Expr e pos) (F6 te):=by
 intro pins s σ H D I h
 exact wpAny_Expr_any (ao (he pins s σ H _ I h) fun v s1 ⟨x,H1,I1,r1,q1⟩=>⟨σ,H1,I1,q1⟩) I.quiet hs
def CU (te:TE):TS:=fun D σ H=>te σ H D.rt
theorem RG (he:PE X e te):PS X (.Return (some e) pos) (CU te):=by
 intro pins s σ H D I h
 exact wpAny_Return_some (ao (he pins s σ H _ I h) fun v s1 ⟨x,H1,I1,r1,q1⟩=>⟨x,σ,H1,I1,r1,q1⟩)
def LL:TS:=fun D _ H=>D.rt .ai H
theorem RI:PS X (.Return none pos) LL:=fun _ _ σ H _ I h=>wpAny_Return_none ⟨.ai,σ,H,I,rfl,h⟩
def F7 (c:TT) (t u:TS):TS:=fun D σ H=>c σ H fun b H1=>if b=true then t D σ H1 else u D σ H1
theorem RJ {c:Expr} {a b:List Stmt} {tc:TT} (hc:PT X c tc) (ha:qj X a t) (hb:qj X b u):PS X (.If c a b pos) (F7 tc t u):=by
 intro pins s σ H D I h
 refine wpAny_If (ao (hc pins s σ H _ I h) ?_)
 rintro d s1 ⟨H1,I1,q1⟩
 cases d with
 | true=>exact ha pins s1 σ H1 D I1 q1
 | false=>exact hb pins s1 σ H1 D I1 q1
end
abbrev TG:=V->St->Hp->(St->Hp->Prop)->Prop
abbrev wq:=List V->St->Hp->(St->Hp->Prop)->Prop
def PG (X:Cx) (target:Expr) (t:TG):Prop:=
 ∀ (pins:List (Addr×Obj)) (s:Shared) (σ:St) (H:Hp) (v:V) (u:Value) (Q:St->Hp->Prop),Inv X pins σ H s->RelV v u->t v σ H Q->
  wpAny (model X.prog X.w) X.A (assign target X.env u) (fun _ s'=>∃ σ' H',Inv X pins σ' H' s'/\Q σ' H') X.xe s
def CV (X:Cx) (ts:List Expr) (t:wq):Prop:=
 ∀ (pins:List (Addr×Obj)) (s:Shared) (σ:St) (H:Hp) (vs:List V) (us:List Value) (Q:St->Hp->Prop),Inv X pins σ H s->az vs us->t vs σ H Q->
  wpAny (model X.prog X.w) X.A (assignInOrder ((assignEach ts X.env).map (·.2)) us) (fun _ s'=>∃ σ' H',Inv X pins σ' H' s'/\Q σ' H') X.xe s
abbrev F8:=V->V->V->Hp->(Hp->Prop)->Prop
def Ic (X:Cx) (t:F8):Prop:=
 ∀ (pins:List (Addr×Obj)) (s:Shared) (σ:St) (H:Hp) (o i v:V) (ov iv u:Value) (Q:Hp->Prop),Inv X pins σ H s->RelV o ov->RelV i iv->RelV v u->t o i v H Q->
  wpAny (model X.prog X.w) X.A (setItem ov iv u) (fun _ s'=>∃ H',Inv X pins σ H' s'/\Q H') X.xe s
section
variable {pos:Pos}
def jc (i:Nat):TG:=fun v σ H Q=>Q (σ.set i (some v)) H
theorem zW (hN:X.N.Nodup) (hi:X.N[i]? =some x) (hx:Loc X.env.scope x) (hf:X.fn x=true\/X.env.scope.names.lookup x=some .local:=by first | exact .inl rfl | exact .inr rfl | assumption):PG X (.Name x pos) (jc i):=by
 intro pins s σ H v u Q I r h
 exact wpAny_assign_Name (qF I hN hi hx r (fun s' I'=>⟨_,H,I',h⟩) hf)
def CW:wq:=fun vs σ H Q=>vs=[]/\Q σ H
def wu (t:TG) (u:wq):wq:=fun vs σ H Q=>∃ v r,vs=v::r/\t v σ H fun σ' H'=>u r σ' H' Q
theorem zX:CV X [] CW:=by
 intro pins s σ H vs us Q I r h
 obtain ⟨e,h⟩:=h
 subst e
 cases r
 exact assignInOrder_nil ⟨σ,H,I,h⟩
theorem xF {t:TG} {u:wq} (h1:PG X e t) (h2:CV X es u)
  (hs:(assignEach (e::es) X.env).map (·.2)=assign e X.env::(assignEach es X.env).map (·.2):=by rfl):CV X (e::es) (wu t u):=by
 intro pins s σ H vs us Q I r h
 obtain ⟨v,vr,e1,h⟩:=h
 subst e1
 cases r with
 | cons r rr=>
  rw [hs]
  refine assignInOrder_cons (ao (h1 pins s σ H _ _ _ I r h) ?_)
  rintro _ s1 ⟨σ1,H1,I1,q1⟩
  exact h2 pins s1 σ1 H1 _ _ Q I1 rr q1
def AN (K:Q1) (n:Nat) (t:wq):TG:=fun v σ H Q=>∃ a xs,v=.ref a/\aj K H a xs/\xs.length=n/\t xs σ H Q
theorem RK {k:Nat} {t:wq} (hc:X.calm=true) (h:CV X es t)
  (hn:(assignEach es X.env).length=n:=by rfl) (wx:(assignEach es X.env).findIdx? (·.1)=none:=by rfl):PG X (.Tuple es k pos) (AN X.K n t):=by
 intro pins s σ H v u Q I r hw
 obtain ⟨a,xs,e1,hq,hl,hw⟩:=hw
 subst e1
 cases r
 obtain ⟨its,rv,ht,hz⟩:=I.tuple hq
 refine assign_Tuple_tuple (I.ok.hd hc) ht (by simp [hn,<- hl,rv.length]) wx fun h' hx=>?_
 have I1:Inv X pins σ H {s with heap:=h'}:=I.kept (t':=s.toks) fun b o e=>hx b o (Nat.ne_of_lt (QA e)) e
 exact h pins _ σ H xs _ Q I1 (by simpa using rv) hw
def LM (to ti:TE) (t:F8):TG:=fun v σ H Q=>to σ H fun o H1=>ti σ H1 fun i H2=>t o i v H2 fun H3=>Q σ H3
theorem RL {o i:Expr} {ti:TE} {t:F8} (ho:PE X o to) (hi:PE X i ti) (hs:Ic X t)
  (ha:∀ v,assign (.Subscript o i pos) X.env v=(do
   let ov <- holding [v] (eval o X.env)
   let iv <- holding [v,ov] (eval i X.env)
   standAt pos
   holding [v,ov,iv] (setItem ov iv v)
   release [v,ov,iv] []):=by intro _;rfl):PG X (.Subscript o i pos) (LM to ti t):=by
 intro pins s σ H v u Q I r h
 rw [ha]
 refine QU (wpAny_holding (ao (ho pins s σ H _ I h) ?_))
 rintro ov s1 ⟨x,H1,I1,r1,q1⟩
 refine QU (wpAny_holding (ao (hi pins s1 σ H1 _ I1 q1) ?_))
 rintro iv s2 ⟨y,H2,I2,r2,q2⟩
 refine QU (wpAny_standAt (QU (wpAny_holding (ao (hs pins s2 σ H2 x y v ov iv u _ I2 r1 r2 r q2) ?_))))
 rintro _ s3 ⟨H3,I3,q3⟩
 exact wpAny_release ⟨σ,H3,I3,q3⟩
def yr (te:TE) (g:TG):TS:=fun D σ H=>te σ H fun x H1=>g x σ H1 D.nx
theorem RN {g:TG} (he:PE X e te) (hg:PG X tg g) (hs:swapsWithSole [tg] e pos.line X.env=pure false:=by rfl) (hw:swappedStores [tg] e X.env=pure none:=by rfl)
  (h1:(assignEach [tg] X.env).map (·.2)=[assign tg X.env]:=by rfl):PS X (.Assign [tg] e pos) (yr te g):=by
 intro pins s σ H D I h
 refine wpAny_Assign_stores (ao (he pins s σ H _ I h) fun v s1 ⟨x,H1,I1,r1,q1⟩=>?_) hs hw
 rw [h1]
 exact ao (hg pins s1 σ H1 x v _ I1 r1 q1) fun _ s2 q=>q
theorem RP {pos':Pos} (hN:X.N.Nodup) (hi:X.N[i]? =some x) (hx:Loc X.env.scope x) (he:PE X e te) (hs:swapsWith e (some (.Name x pos')) pos.line X.env=pure false:=by rfl) (hf:X.fn x=true\/X.env.scope.names.lookup x=some .local:=by first | exact .inl rfl | exact .inr rfl | assumption):
  PS X (.Assign [.Name x pos'] e pos) (yr te (jc i)):=by
 intro pins s σ H D I h
 refine wpAny_Assign_Name (ao (he pins s σ H _ I h) fun v s1 ⟨y,H1,I1,r1,q1⟩=>?_) hs
 exact qF I1 hN hi hx r1 (fun s2 I2=>⟨_,H1,I2,q1⟩) hf
def LN (c:TT) (tb:TS):TS:=fun D σ H=>∃ W:Nat->St->Hp->Prop,(∃ m,W m σ H)/\∀ m σ H,W m σ H->
 c σ H fun b H1=>if b=true then ∃ N:St->Hp->Prop,(∀ σ' H',N σ' H'->∃ m',m' < m/\W m' σ' H')/\tb {D with nx:=N,ct:=N,bk:=D.nx} σ H1 else D.nx σ H1
theorem yG {c:Expr} {tc:TT} {tb:TS} (hp:PassesOwn (model X.prog X.w) X.A X.env X.xe) (hc:PT X c tc) (hb:qj X body tb):PS X (.While c body [] pos) (LN tc tb):=by
 intro pins s σ H D I h
 obtain ⟨W,⟨m0,w0⟩,turn⟩:=h
 refine wpAny_While (codeAny_whileLoop (fun n s'=>∃ σ' H',Inv X pins σ' H' s'/\W n σ' H') ?_ m0 ⟨σ,H,I,w0⟩)
 rintro n s1 ⟨σ1,H1,I1,w1⟩
 refine wpAny_passesOwn hp (ao (hc pins s1 σ1 H1 _ I1 (turn n σ1 H1 w1)) ?_)
 rintro b s2 ⟨H2,I2,q2⟩
 cases b with
 | true=>
  obtain ⟨N,hN,q2⟩:=q2
  rw [if_pos rfl]
  refine wpAny_passesOwn hp (ao (hb pins s2 σ1 H2 _ I2 q2) fun f s3 q3=>?_)
  cases f with
  | next=>
   obtain ⟨σ3,H3,I3,n3⟩:=q3
   obtain ⟨m',hm,w3⟩:=hN σ3 H3 n3
   exact ⟨m',hm,σ3,H3,I3,w3⟩
  | cont=>
   obtain ⟨σ3,H3,I3,n3⟩:=q3
   obtain ⟨m',hm,w3⟩:=hN σ3 H3 n3
   exact ⟨m',hm,σ3,H3,I3,w3⟩
  | brk=>exact q3
  | ret v=>exact q3
 | false=>
  rw [if_neg Bool.false_ne_true]
  exact wpAny_execs_nil ⟨σ1,H2,I2,q2⟩
end
structure It where
 go:Nat->Hp->Prop
 lj:Nat->Hp->V->Hp->Prop
 stop:Nat->Hp->Prop
def qo (X:Cx) (pins:List (Addr×Obj)) (H:Hp) (b:Addr):Prop:=
 H b=none/\b≠X.env.locals/\b ∉ X.fs/\(b∈X.ex\/X.s₀.heap.objs.size<=b)/\(∀ x c,X.env.cells.lookup x=some c->c≠b)/\∀ p∈X.pn++pins,p.1≠b
theorem Inv.ve (I:Inv X pins σ H s) (hb:s.heap.objs.size<=b) (hn:H' b=none):qo X pins H' b:=by
 refine ⟨hn,Nat.ne_of_gt (Nat.lt_of_lt_of_le I.lt hb),I.Ri hb,.inr (Nat.le_trans I.sz hb),fun x c e z=>?_,fun p hp z=>?_⟩
 ·obtain ⟨v,q⟩:=I.cell x c e
  exact absurd (Nat.lt_of_lt_of_le q.lt (by rw [z];exact hb)) (Nat.lt_irrefl _)
 ·exact absurd (Nat.lt_of_lt_of_le (QA (I.pin p hp).1) (by rw [z];exact hb)) (Nat.lt_irrefl _)
structure Turn (P:Program) (w:World) (K:Q1) (tg:Expr) (J:It) (fp:List Addr) (it:Addr) (tn:Nat->Heap->Prop):Prop where
 mem:it∈fp
 obj:∀ i h,tn i h->∀ b∈fp,∃ o,h.get? b=some o/\∀ v,o.data≠.cell v
 keep:∀ i h h',tn i h->(∀ b∈fp,∀ o,h.get? b=some o->h'.get? b=some o)->tn i h'
 item:∀ (X:Cx),X.prog=P->X.w=w->X.K=K->X.calm=true->∀ (i:Nat) (pins:List (Addr×Obj)) (s:Shared) (σ:St) (H:Hp) (E:Value->Shared->Prop),Inv X pins σ H s->(∀ b∈fp,qo X pins H b)->tn i s.heap->J.go i H->
  wpAny (model P w) X.A (pyNext (.ref it)) (fun r s1=>∃ u,r=some u/\
   wpAny (model P w) X.A (letOwnedTupleGo tg (.ref it) u) (fun _ s2=>∃ x H',Inv X pins σ H' s2/\RelV x u/\J.lj i H x H'/\tn (i+1) s2.heap/\∀ b∈fp,H' b=none) E s1) E s
 done:∀ (X:Cx),X.prog=P->X.w=w->X.K=K->X.calm=true->∀ (i:Nat) (pins:List (Addr×Obj)) (s:Shared) (σ:St) (H:Hp) (E:Value->Shared->Prop),Inv X pins σ H s->(∀ b∈fp,qo X pins H b)->tn i s.heap->J.stop i H->
  wpAny (model P w) X.A (pyNext (.ref it)) (fun r s1=>r=none/\Inv X pins σ H s1) E s
 self:∀ (A:Around) (i:Nat) (s:Shared) (Q:Value->Shared->Prop) (E:Value->Shared->Prop),tn i s.heap->Q (.ref it) s->wpAny (model P w) A (pyIter (.ref it)) Q E s
abbrev TI:=St->Hp->(It->Hp->Prop)->Prop
def CY (X:Cx) (pins:List (Addr×Obj)) (σ:St) (tg:Expr) (R:It->Hp->Prop) (ow:Value) (s2:Shared):Prop:=
 ∃ (it:Addr) (fp:List Addr) (tn:Nat->Heap->Prop) (J:It) (H':Hp),ow=.ref it/\Inv X pins σ H' s2/\Turn X.prog X.w X.K tg J fp it tn/\tn 0 s2.heap/\(∀ b∈fp,qo X pins H' b)/\R J H'
def PI (X:Cx) (tg iter:Expr) (wi:TI):Prop:=
 ∀ (pins:List (Addr×Obj)) (s:Shared) (σ:St) (H:Hp) (R:It->Hp->Prop),Inv X pins σ H s->wi σ H R->
  wpAny (model X.prog X.w) X.A (eval iter X.env) (fun v s1=>wpAny (model X.prog X.w) X.A (pyIter v) (CY X pins σ tg R) X.xe s1) X.xe s
theorem jS {M : Model} {A : Around} {E : Value -> Shared -> Prop} {s : Shared} {tg : Expr} {it : Addr} {u : Value} {o : Obj} {n : String} {vs : Array Value} {Q : Unit -> Shared -> Prop} (ho : s.heap.get? it = some o) (hc : o.cls = .type n) (hd : o.data = .fields vs)
    (hn : ["enumerate", "zip", "dict_itemiterator", "dict_reverseitemiterator", "odict_iterator", "itertools.zip_longest", "itertools.pairwise"].contains n = false) (hQ : Q () s) : wpAny M A (letOwnedTupleGo tg (.ref it) u) Q E s := by
  unfold letOwnedTupleGo
  cases tg <;> first
    | exact QV hQ
    | (cases u <;> first
        | exact QV hQ
        | (refine QU (wpAny_load ho ?_)
           rw [hc, hd]
           show wpAny M A (if (["enumerate", "zip", "dict_itemiterator", "dict_reverseitemiterator", "odict_iterator", "itertools.zip_longest", "itertools.pairwise"].contains n && vs[0]? == some (rawInt _)) = true then _ else _) Q E s
           rw [if_neg (by intro h; rw [hn, Bool.false_and] at h; cases h)]
           exact QV hQ))
def CZ (K:Q1) (a:Addr):It:=
 ⟨fun i H=>∃ xs x,af K H a xs/\xs[i]? =some x,fun i H x H'=>H'=H/\∀ xs,af K H a xs->xs[i]? =some x,fun i H=>∃ xs,af K H a xs/\xs.length<=i⟩
def Ie (K:Q1) (a:Addr):It:=
 ⟨fun i H=>∃ xs x,aj K H a xs/\xs[i]? =some x,fun i H x H'=>H'=H/\∀ xs,aj K H a xs->xs[i]? =some x,fun i H=>∃ xs,aj K H a xs/\xs.length<=i⟩
def F9 (lo:Int) (n:Nat):It:=⟨fun i _=>i < n,fun i H x H'=>H'=H/\x=.int (lo+i),fun i _=>n<=i⟩
theorem uT {K:Q1} (a it:Addr):Turn P w K tg (CZ K a) [it] it (fun i h=>h.IsListIter it a i) where
 mem:=by simp
 obj:=fun i h st b hb=>by
  have e:b=it:=by simpa using hb
  subst e
  obtain ⟨o,e,c,d⟩:=st
  exact ⟨o,e,fun v z=>by rw [d] at z;cases z⟩
 keep:=fun i h h' st k=>st.at fun o e=>k it (by simp) o e
 item:=by
  intro X hP hw hK hc i pins s σ H E I hf st hg
  subst hP hw hK
  obtain ⟨xs,x,hq,hx⟩:=hg
  obtain ⟨its,rv,p,hz⟩:=I.list hq
  obtain ⟨u,hu,ru⟩:=rv.get hx
  obtain ⟨f0,f1,f2,f3,f4,f5⟩:=hf it (by simp)
  refine wpAny_pyNext_list_item st p.isList (x:=u) (by simpa using hu) fun h' st' sb=>?_
  have I1:Inv X pins σ H {s with heap:=h'}:=I.turned (t':=s.toks) (fun b o hb e=>(sb.2 b hb).trans e) f0 f1 f3 f4 f5
  obtain ⟨o,e,c,d⟩:=id st'
  exact ⟨u,rfl,jS (s:={s with heap:=h'}) e c d (by decide) ⟨x,H,I1,ru,⟨rfl,fun ys hy=>by rw [I.Ia hy hq];exact hx⟩,st',fun b hb=>(hf b hb).1⟩⟩
 done:=by
  intro X hP hw hK hc i pins s σ H E I hf st hg
  subst hP hw hK
  obtain ⟨xs,hq,hx⟩:=hg
  obtain ⟨its,rv,p,hz⟩:=I.list hq
  obtain ⟨f0,f1,f2,f3,f4,f5⟩:=hf it (by simp)
  have hl:=rv.length
  exact wpAny_pyNext_list_end (I.ok.hd hc) st p.isList (by simp;omega) fun h' eb=>⟨rfl,I.turned (t':=s.toks) (fun b o hb e=>eb b o hb e) f0 f1 f3 f4 f5⟩
 self:=fun _ _ _ _ _ st h=>wpAny_pyIter_listiter st h
theorem sW {K:Q1} (a it:Addr):Turn P w K tg (Ie K a) [it] it (fun i h=>h.IsTupleIter it a i) where
 mem:=by simp
 obj:=fun i h st b hb=>by
  have e:b=it:=by simpa using hb
  subst e
  obtain ⟨o,e,c,d⟩:=st
  exact ⟨o,e,fun v z=>by rw [d] at z;cases z⟩
 keep:=fun i h h' st k=>st.at fun o e=>k it (by simp) o e
 item:=by
  intro X hP hw hK hc i pins s σ H E I hf st hg
  subst hP hw hK
  obtain ⟨xs,x,hq,hx⟩:=hg
  obtain ⟨its,rv,p,hz⟩:=I.tuple hq
  obtain ⟨u,hu,ru⟩:=rv.get hx
  obtain ⟨f0,f1,f2,f3,f4,f5⟩:=hf it (by simp)
  refine wpAny_pyNext_tuple_item st (show s.heap.IsTuple a its.toArray from p) (x:=u) (by simpa using hu) fun h' st' sb=>?_
  have I1:Inv X pins σ H {s with heap:=h'}:=I.turned (t':=s.toks) (fun b o hb e=>(sb.2 b hb).trans e) f0 f1 f3 f4 f5
  obtain ⟨o,e,c,d⟩:=id st'
  exact ⟨u,rfl,jS (s:={s with heap:=h'}) e c d (by decide) ⟨x,H,I1,ru,⟨rfl,fun ys hy=>by rw [I.RB hy hq];exact hx⟩,st',fun b hb=>(hf b hb).1⟩⟩
 done:=by
  intro X hP hw hK hc i pins s σ H E I hf st hg
  subst hP hw hK
  obtain ⟨xs,hq,hx⟩:=hg
  obtain ⟨its,rv,p,hz⟩:=I.tuple hq
  obtain ⟨f0,f1,f2,f3,f4,f5⟩:=hf it (by simp)
  have hl:=rv.length
  exact wpAny_pyNext_tuple_end (I.ok.hd hc) st (show s.heap.IsTuple a its.toArray from p) (by simp;omega) fun h' eb=>⟨rfl,I.turned (t':=s.toks) (fun b o hb e=>eb b o hb e) f0 f1 f3 f4 f5⟩
 self:=fun _ _ _ _ _ st h=>wpAny_pyIter_tupleiter st h
theorem t8 {K:Q1} (it:Addr) (lo:Int) (n:Nat):Turn P w K tg (F9 lo n) [it] it (fun i h=>IsRangeIter h it (lo+(i:Nat)*1) ((n:Int) - (i:Nat)) 1) where
 mem:=by simp
 obj:=fun i h st b hb=>by
  have e:b=it:=by simpa using hb
  subst e
  exact ⟨_,st,fun v z=>by
   have z':Data.fields _=Data.cell v:=z
   cases z'⟩
 keep:=fun i h h' st k=>k it (by simp) _ st
 item:=by
  intro X hP hw hK hc i pins s σ H E I hf st hg
  subst hP hw hK
  obtain ⟨f0,f1,f2,f3,f4,f5⟩:=hf it (by simp)
  have W:=Walks.range (prog:=X.prog) (w:=X.w) (I.ok.hd hc) it lo 1 n
  refine W.item i s _ _ hg st fun v h' tk hv st' kk=>?_
  obtain ⟨t,rfl⟩:=hv
  have I1:Inv X pins σ H {s with heap:=h',toks:=tk}:=I.turned (fun b o hb e=>kk b o (by simpa using hb) e) f0 f1 f3 f4 f5
  refine ⟨_,rfl,jS (s:={s with heap:=h',toks:=tk}) (n:="range_iterator") st' rfl rfl (by decide) ⟨.int (lo+i),H,I1,⟨t,?_⟩,⟨rfl,rfl⟩,st',fun b hb=>(hf b hb).1⟩⟩
  rw [Int.mul_one]
 done:=by
  intro X hP hw hK hc i pins s σ H E I hf st hg
  subst hP hw hK
  obtain ⟨f0,f1,f2,f3,f4,f5⟩:=hf it (by simp)
  exact wpAny_pyNext_range_end (I.ok.hd hc) st (by have:n<=i:=hg;omega) fun h' eb=>⟨rfl,I.turned (t':=s.toks) (fun b o hb e=>eb b o hb e) f0 f1 f3 f4 f5⟩
 self:=fun _ _ _ _ _ st h=>wpAny_pyIter_rangeiter st h
theorem wP {R:It->Hp->Prop} {lo hi:Int} {t u v:Tok} {tk:Nat} (I:Inv X pins σ H s) (h1: -(2^62)<=lo) (h2:lo < 2^62) (h3: -(2^62)<=hi) (h4:hi < 2^62)
  (q:R (F9 lo (hi - lo).toNat) H):wpAny (model X.prog X.w) X.A (pyIter (.ref s.heap.objs.size)) (CY X pins σ tg R) E {s with heap:=s.heap.push {cls:=.type "range",data:=.fields #[.int lo t,.int hi u,.int 1 v]},toks:=tk}:=by
 refine wpAny_pyIter_range (IsRange.new ..) (small_one h1 h2 h3 h4) ?_
 have I1:Inv X pins σ H {s with heap:=s.heap.push {cls:=.type "range",data:=.fields #[.int lo t,.int hi u,.int 1 v]},toks:=tk}:=I.kept fun b o e=>Qc _ e
 refine ⟨(s.heap.push {cls:=.type "range",data:=.fields #[.int lo t,.int hi u,.int 1 v]}).objs.size,[(s.heap.push {cls:=.type "range",data:=.fields #[.int lo t,.int hi u,.int 1 v]}).objs.size],_,_,H,rfl,
  I1.kept (t':=tk) fun b o e=>Qc _ e,t8 _ lo (hi - lo).toNat,?_,fun b hb=>?_,q⟩
 ·have e1:lo+((0:Nat):Int)*1=lo:=by simp
  have e2:(((hi - lo).toNat:Nat):Int) - ((0:Nat):Int)=Builtin.Range.rangeSize lo hi 1:=by rw [rangeSize_one];split<;>omega
  show IsRangeIter _ _ (lo+((0:Nat):Int)*1) ((((hi - lo).toNat:Nat):Int) - ((0:Nat):Int)) 1
  rw [e1,e2]
  exact Qd _ rfl
 ·have e:b=(s.heap.push {cls:=.type "range",data:=.fields #[.int lo t,.int hi u,.int 1 v]}).objs.size:=by simpa using hb
  subst e
  exact I1.ve (Qz _) (I1.hok.fresh (Qz _))
def LO (ta:TA):TI:=fun σ H R=>ta σ H fun vs H1=>∃ j:Int,vs=[.int j]/\ -(2^62)<=j/\j < 2^62/\R (F9 0 j.toNat) H1
theorem vE {a:Expr} {ta:TA} {p pos:Pos} (hg:Gl X "range") (hm:X.mg "range"=none) (ha:PA X [a] ta) (hs:starEach [a] X.env=[(false,eval a X.env)]:=by rfl):PI X tg (.Call (.Name "range" p) [a] [] pos) (LO ta):=by
 intro pins s σ H R I h
 refine Call_ (jG I hg hm boot_range (PyProof.Rows.callWith_type1 (ao (ha pos pins s σ H _ I h) fun us s1 ⟨vs,H1,I1,r1,q1⟩=>?_) hs rfl))
 obtain ⟨j,e,q1,q2,q⟩:=q1
 subst e
 cases r1 with
 | cons r rr=>
  cases rr
  obtain ⟨t,rfl⟩:=r
  exact call_range_1 (wP I1 (by omega) (by omega) q1 q2 (by simpa using q))
def LP (wi:TI) (g:TG) (tb:TS):TS:=fun D σ H=>wi σ H fun J H1=>∃ W:Nat->Nat->St->Hp->Prop,(∃ m,W 0 m σ H1)/\∀ i m σ H,W i m σ H->
 (J.stop i H/\D.nx σ H)\/(J.go i H/\∃ N:St->Hp->Prop,(∀ σ' H',N σ' H'->∃ m',m' < m/\W (i+1) m' σ' H')/\∀ x H',J.lj i H x H'->g x σ H' fun σ2 H2=>tb {D with nx:=N,ct:=N,bk:=D.nx} σ2 H2)
def BK (fp:List Addr) (h:Heap):List (Addr×Obj):=fp.filterMap fun b=>(h.get? b).map fun o=>(b,o)
theorem cI (hb:b∈fp) (e:h.get? b=some o):(b,o)∈BK fp h:=List.mem_filterMap.mpr ⟨b,hb,by rw [e];rfl⟩
theorem vP {p:Addr×Obj} (hp:p∈BK fp h):p.1∈fp/\h.get? p.1=some p.2:=by
 obtain ⟨b,hb,e⟩:=List.mem_filterMap.mp hp
 cases q:h.get? b with
 | none=>rw [q] at e;cases e
 | some o=>
  rw [q] at e
  have e':(b,o)=p:=QE e
  subst e'
  exact ⟨hb,q⟩
theorem Inv.pinned (I:Inv X pins σ H s) (hf:∀ b∈fp,qo X pins H b) (ho:∀ b∈fp,∃ o,s.heap.get? b=some o/\∀ v,o.data≠.cell v):Inv X (pins++BK fp s.heap) σ H s:=
 I.LB fun p hp=>(List.mem_append.mp hp).elim (fun z=>I.pin p (List.mem_append_right _ z)) fun z=>by
  obtain ⟨hb,e⟩:=vP z
  obtain ⟨f0,f1,f2,_⟩:=hf p.1 hb
  obtain ⟨o,e',d⟩:=ho p.1 hb
  rw [e] at e';cases e'
  exact ⟨e,f0,f1,f2,d⟩
theorem Inv.C0 {pl:List (Addr×Obj)} (I:Inv X (pins++pl) σ H s):Inv X pins σ H s:=I.LB fun p hp=>I.pin p (List.mem_append_right _ (List.mem_append_left _ hp))
theorem RQ {iter:Expr} {wi:TI} {g:TG} {tb:TS} {pos:Pos} (hp:PassesOwn (model X.prog X.w) X.A X.env X.xe) (hc:X.calm=true) (hi:PI X tg iter wi) (hg:PG X tg g) (hb:qj X body tb)
  (hs:∀ x,foldedSetIterable iter X.env x=pure x:=by intro _;rfl):PS X (.For tg iter body [] pos) (LP wi g tb):=by
 intro pins s σ H D I h
 refine wpAny_For (ao (hi pins s σ H _ I h) fun v s1 h1=>ao h1 fun ow s2 h2=>?_) hs
 obtain ⟨it,fp,tn,J,H2,e,I2,T,fu,f2,W,⟨m0,w0⟩,turn⟩:=h2
 subst e
 -- RS stays true of C1 aax objects through C1 loop
 have qp:∀ {H':Hp},(∀ b∈fp,H' b=none)->∀ b∈fp,qo X pins H' b:=fun hn b hb=>⟨hn b hb,(f2 b hb).2⟩
 refine codeAny_forLoop_any (fun n s'=>∃ i σ' H',Inv X pins σ' H' s'/\tn i s'.heap/\(∀ b∈fp,H' b=none)/\W i n σ' H') ?_ m0 ⟨0,σ,H2,I2,fu,fun b hb=>(f2 b hb).1,w0⟩
 rintro n s3 ⟨i,σ3,H3,I3,wz,mj,w3⟩
 rcases turn i n σ3 H3 w3 with ⟨stop,qn⟩ | ⟨go,N,hN,step⟩
 ·refine wpAny_passesOwn hp (ao (T.done X rfl rfl rfl hc i pins s3 σ3 H3 X.xe I3 (qp mj) wz stop) ?_)
  rintro r s4 ⟨hr,I4⟩
  subst hr
  exact wpAny_execs_nil ⟨σ3,H3,I4,qn⟩
 ·refine wpAny_passesOwn hp (ao (T.item X rfl rfl rfl hc i pins s3 σ3 H3 X.xe I3 (qp mj) wz go) ?_)
  rintro r s4 ⟨u,hr,h4⟩
  subst hr
  refine wpAny_passesOwn hp (ao h4 ?_)
  rintro _ s5 ⟨x,H5,I5,r5,y5,qt,BL⟩
  have BN:=I5.pinned (qp BL) (T.obj _ _ qt)
  refine wpAny_passesOwn hp (ao (hg _ s5 σ3 H5 x u _ BN r5 (step x H5 y5)) ?_)
  rintro _ s6 ⟨σ6,H6,I6,q6⟩
  refine wpAny_passesOwn hp (ao (hb _ s6 σ6 H6 _ I6 q6) fun f s7 q7=>?_)
  have again:∀ {σ7:St} {H7:Hp},Inv X (pins++BK fp s5.heap) σ7 H7 s7->N σ7 H7->∃ m,m < n/\∃ i σ' H',Inv X pins σ' H' s7/\tn i s7.heap/\(∀ b∈fp,H' b=none)/\W i m σ' H':=fun {σ7 H7} I7 n7=>by
   obtain ⟨m',hm,w7⟩:=hN σ7 H7 n7
   refine ⟨m',hm,i+1,σ7,H7,I7.C0,T.keep _ _ _ qt fun b hb o e=>(I7.pin (b,o) (List.mem_append_right _ (List.mem_append_right _ (cI hb e)))).1,fun b hb=>?_,w7⟩
   obtain ⟨o,e,d⟩:=T.obj _ _ qt b hb
   exact (I7.pin (b,o) (List.mem_append_right _ (List.mem_append_right _ (cI hb e)))).2.1
  cases f with
  | next=>obtain ⟨σ7,H7,I7,n7⟩:=q7;exact again I7 n7
  | cont=>obtain ⟨σ7,H7,I7,n7⟩:=q7;exact again I7 n7
  | brk=>obtain ⟨σ7,H7,I7,q7⟩:=q7;exact ⟨σ7,H7,I7.C0,q7⟩
  | ret v=>obtain ⟨x7,σ7,H7,I7,r7,q7⟩:=q7;exact ⟨x7,σ7,H7,I7.C0,r7,q7⟩
abbrev R2:=V->V->Hp->VK->Prop
def ck (X:Cx) (f:Value->Value->Sem Value) (r:R2):Prop:=
 ∀ (pins:List (Addr×Obj)) (s:Shared) (σ:St) (H:Hp) (x y:V) (v u:Value) (Q:VK),Inv X pins σ H s->RelV x v->RelV y u->r x y H Q->
  wpAny (model X.prog X.w) X.A (f v u) (EP X pins σ Q) X.xe s
def qw (X:Cx) (f:Value) (r:List V->Hp->VK->Prop):Prop:=
 ∀ (pins:List (Addr×Obj)) (s:Shared) (σ:St) (H:Hp) (xs:List V) (us:List Value) (Q:VK),Inv X pins σ H s->az xs us->r xs H Q->
  wpAny (model X.prog X.w) X.A (call f us) (EP X pins σ Q) X.xe s
def RU (X:Cx) (r:V->Hp->(Bool->Hp->Prop)->Prop):Prop:=
 ∀ (pins:List (Addr×Obj)) (s:Shared) (σ:St) (H:Hp) (x:V) (v:Value) (Q:Bool->Hp->Prop),Inv X pins σ H s->RelV x v->r x H Q->
  wpAny (model X.prog X.w) X.A (truthy v) (TP X pins σ Q) X.xe s
def mq (r:R2) (ta tb:TE):TE:=fun σ H Q=>ta σ H fun x H1=>tb σ H1 fun y H2=>r x y H2 Q
def rI (C:Int->Int->Prop) (g:Int->Int->V):R2:=fun x y H Q=>∃ i j,x=.int i/\y=.int j/\C i j/\Q (g i j) H
def BO (g:Int->Int->V):R2:=fun x y H Q=>∃ i j,x=.int i/\y=.int j/\Q (g i j) H
section
variable {a b c:Expr} {tb tc:TE} {pos:Pos}
theorem LQ (ha:PE X a ta) (hb:PE X b tb) {R:V->V->Hp->Prop} (I:Inv X pins σ H s)
  (h:ta σ H fun x H1=>tb σ H1 fun y H2=>R x y H2) {Q:Value->Shared->Prop} {f:Value->Value->Sem Value}
  (hf:∀ v u s2 x y H2,Inv X pins σ H2 s2->RelV x v->RelV y u->R x y H2->wpAny (model X.prog X.w) X.A (f v u) Q X.xe s2):
  wpAny (model X.prog X.w) X.A (eval a X.env) (fun v s₁=>wpAny (model X.prog X.w) X.A (eval b X.env) (fun u s₂=>wpAny (model X.prog X.w) X.A (f v u) Q X.xe s₂) X.xe s₁) X.xe s:=by
 refine ao (ha pins s σ H _ I h) ?_
 rintro v s1 ⟨x,H1,I1,r1,q1⟩
 refine ao (hb pins s1 σ H1 _ I1 q1) ?_
 rintro u s2 ⟨y,H2,I2,r2,q2⟩
 exact hf v u s2 x y H2 I2 r1 r2 q2
theorem RW {op:Operator} {r:R2} (ho:ck X (binaryOp op) r) (ha:PE X a ta) (hb:PE X b tb):PE X (.BinOp a op b pos) (mq r ta tb):=by
 intro pins s σ H Q I h
 exact wpAny_BinOp (LQ ha hb I h fun v u s2 x y H2 I2 rx ry q=>ho pins s2 σ H2 x y v u Q I2 rx ry q)
theorem F_ {f:Value->Value->Sem Value} {C:Int->Int->Prop} {g:Int->Int->Int}
  (rule:∀ (i j:Int) (t u:Tok) (s:Shared) (Q:Value->Shared->Prop) (E:Value->Shared->Prop),C i j->Q (.int (g i j) s.toks) {s with toks:=s.toks+1}->wpAny (model X.prog X.w) X.A (f (.int i t) (.int j u)) Q E s):
  ck X f (rI C fun i j=>.int (g i j)):=by
 intro pins s σ H x y v u Q I rx ry h
 obtain ⟨i,j,rfl,rfl,hc,q⟩:=h
 obtain ⟨t,rfl⟩:=rx
 obtain ⟨t',rfl⟩:=ry
 exact rule i j t t' s _ _ hc ⟨.int (g i j),H,I.tok _,⟨_,rfl⟩,q⟩
theorem RX {f:Value->Value->Sem Value} {g:Int->Int->Int}
  (rule:∀ (i j:Int) (t u:Tok) (s:Shared) (Q:Value->Shared->Prop) (E:Value->Shared->Prop),Q (.int (g i j) s.toks) {s with toks:=s.toks+1}->wpAny (model X.prog X.w) X.A (f (.int i t) (.int j u)) Q E s):
  ck X f (BO fun i j=>.int (g i j)):=by
 intro pins s σ H x y v u Q I rx ry h
 obtain ⟨i,j,rfl,rfl,q⟩:=h
 obtain ⟨t,rfl⟩:=rx
 obtain ⟨t',rfl⟩:=ry
 exact rule i j t t' s _ _ ⟨.int (g i j),H,I.tok _,⟨_,rfl⟩,q⟩
theorem Ga {f:Value->Value->Sem Value} {g:Int->Int->Bool}
  (rule:∀ (i j:Int) (t u:Tok) (s:Shared) (Q:Value->Shared->Prop) (E:Value->Shared->Prop),Q (.bool (g i j)) s->wpAny (model X.prog X.w) X.A (f (.int i t) (.int j u)) Q E s):
  ck X f (BO fun i j=>.bl (g i j)):=by
 intro pins s σ H x y v u Q I rx ry h
 obtain ⟨i,j,rfl,rfl,q⟩:=h
 obtain ⟨t,rfl⟩:=rx
 obtain ⟨t',rfl⟩:=ry
 exact rule i j t t' s _ _ ⟨.bl (g i j),H,I,rfl,q⟩
def RY (i j:Int):Prop:=0 < j/\j < 1073741824
def LU (i j:Int):Prop:=0<=j/\j<=1000000/\i.natAbs < 2^64
def Gb (i j:Int):Prop:=(-(2^64) < i/\i < 2^64)\/(-(2^64) < j/\j < 2^64)
theorem Gb.ok {i j:Int} (h:Gb i j):IntMulOk i j:=by
 rcases h with ⟨h1,h2⟩ | ⟨h1,h2⟩
 ·exact .of_left (intBits_le_64 h1 h2)
 ·exact .of_right (intBits_le_64 h1 h2)
theorem RZ:ck X (binaryOp .Add) (BO fun i j=>.int (i+j)):=RX fun _ _ _ _ _ _ _ q=>add_int q
theorem R0:ck X (binaryOp .Mult) (rI Gb fun i j=>.int (i*j)):=F_ fun _ _ _ _ _ _ _ hc q=>mul_int q hc.ok
theorem R1:ck X (binaryOp .FloorDiv) (rI RY fun i j=>.int (i / j)):=F_ fun i j _ _ _ _ _ hc q=>by
 have h1:(0:Int) < j:=hc.1
 have h2:j < 1073741824:=hc.2
 exact floordiv_int (by omega) (by rw [Int.fdiv_eq_ediv_of_nonneg i (by omega)];exact q) (.inl (PyProof.noPylong_small (by omega)))
theorem R3:ck X (binaryOp .Mod) (rI (fun _ j=>0 < j) fun i j=>.int (i % j)):=F_ fun i j _ _ _ _ _ hc q=>by
 have h1:(0:Int) < j:=hc
 exact mod_int' (by omega) (by rw [Int.fmod_eq_emod_of_nonneg i (by omega)];exact q)
theorem R4:ck X (binaryOp .Pow) (rI LU fun i j=>.int (i^j.toNat)):=F_ fun _ _ _ _ _ _ _ hc q=>pow_int_small hc.1 hc.2.1 hc.2.2 q
end
def El:V->V->Bool
 | .ai,.ai=>true | .ai,.int _=>true | .int _,.ai=>true | .ai,.bl _=>true | .bl _,.ai=>true | .ai,.str _=>true | .str _,.ai=>true
 | .int _,.int _=>true | .bl _,.bl _=>true | .str _,.str _=>true | .ou _,.ou _=>true
 | .int _,.str _=>true | .str _,.int _=>true | .bl _,.str _=>true | .str _,.bl _=>true
 | _,_=>false
def R5:R2:=fun x y H Q=>El x y=true/\Q (.bl (decide (x=y))) H
def R6:R2:=fun x y H Q=>El x y=true/\Q (.bl (!decide (x=y))) H
theorem tL {i j:Int}:decide (V.int i=V.int j)=(i==j):=by
 rw [Bool.eq_iff_iff]
 simp
theorem xD {i j:Bool}:decide (V.bl i=V.bl j)=(i==j):=by
 rw [Bool.eq_iff_iff]
 simp
theorem tS {i j:Str}:decide (V.str i=V.str j)=(i==j):=by
 rw [Bool.eq_iff_iff]
 simp
theorem tX {i j:Array UInt8}:decide (V.ou i=V.ou j)=(i.toList==j.toList):=by
 rw [Bool.eq_iff_iff]
 cases i
 cases j
 simp
section
variable {a b c:Expr} {tb tc:TE} {pos:Pos}
theorem aS {Q:VK} {k k':Bool} (I:Inv X pins σ H s) (q:Q (.bl k) H) (e:k=k'):EP X pins σ Q (.bool k') s:=by
 subst e
 exact ⟨.bl k,H,I,rfl,q⟩
theorem R7:ck X (compareOp .Eq) R5:=by
 intro pins s σ H x y v u Q I rx ry h
 obtain ⟨hs,q⟩:=h
 cases x with
 | ai=>
  cases rx
  cases y with
  | ai=>cases ry;exact PySem.EqNone.eq_none_none (aS I q (by simp))
  | bl j=>cases ry;exact PySem.EqNone.eq_none_bool (aS I q (by simp))
  | int j=>obtain ⟨t',rfl⟩:=ry;exact PySem.EqNone.eq_none_int (aS I q (by simp))
  | str j=>obtain ⟨t',rfl⟩:=ry;exact PySem.EqNone.eq_none_str (aS I q (by simp))
  | _=>exact absurd (show false=true from hs) Bool.false_ne_true
 | bl i=>
  cases rx
  cases y with
  | ai=>cases ry;exact PySem.EqNone.eq_bool_none (aS I q (by simp))
  | bl j=>cases ry;exact eq_bool (aS I q xD)
  | str j=>obtain ⟨t',rfl⟩:=ry;exact PySem.EqMixed.eq_bool_str (aS I q (by simp))
  | _=>exact absurd (show false=true from hs) Bool.false_ne_true
 | int i=>
  obtain ⟨t,rfl⟩:=rx
  cases y with
  | ai=>cases ry;exact PySem.EqNone.eq_int_none (aS I q (by simp))
  | int j=>obtain ⟨t',rfl⟩:=ry;exact eq_int (aS I q tL)
  | str j=>obtain ⟨t',rfl⟩:=ry;exact PySem.EqMixed.eq_int_str (aS I q (by simp))
  | _=>exact absurd (show false=true from hs) Bool.false_ne_true
 | str i=>
  obtain ⟨t,rfl⟩:=rx
  cases y with
  | ai=>cases ry;exact PySem.EqNone.eq_str_none (aS I q (by simp))
  | bl j=>cases ry;exact PySem.EqMixed.eq_str_bool (aS I q (by simp))
  | int j=>obtain ⟨t',rfl⟩:=ry;exact PySem.EqMixed.eq_str_int (aS I q (by simp))
  | str j=>obtain ⟨t',rfl⟩:=ry;exact eq_str (aS I q tS)
  | _=>exact absurd (show false=true from hs) Bool.false_ne_true
 | ou i=>
  obtain ⟨t,rfl⟩:=rx
  cases y with
  | ou j=>obtain ⟨t',rfl⟩:=ry;exact PySem.W.eq_bytes (aS I q tX)
  | _=>exact absurd (show false=true from hs) Bool.false_ne_true
 | _=>cases y<;>exact absurd (show false=true from hs) Bool.false_ne_true
theorem R8:ck X (compareOp .NotEq) R6:=by
 intro pins s σ H x y v u Q I rx ry h
 obtain ⟨hs,q⟩:=h
 cases x with
 | ai=>
  cases rx
  cases y with
  | ai=>cases ry;exact PySem.EqNone.ne_none_none (aS I q (by simp))
  | bl j=>cases ry;exact PySem.EqNone.ne_none_bool (aS I q (by simp))
  | int j=>obtain ⟨t',rfl⟩:=ry;exact PySem.EqNone.ne_none_int (aS I q (by simp))
  | str j=>obtain ⟨t',rfl⟩:=ry;exact PySem.EqNone.ne_none_str (aS I q (by simp))
  | _=>exact absurd (show false=true from hs) Bool.false_ne_true
 | bl i=>
  cases rx
  cases y with
  | ai=>cases ry;exact PySem.EqNone.ne_bool_none (aS I q (by simp))
  | bl j=>cases ry;exact ne_bool (aS I q (congrArg not xD))
  | str j=>obtain ⟨t',rfl⟩:=ry;exact PySem.EqMixed.ne_bool_str (aS I q (by simp))
  | _=>exact absurd (show false=true from hs) Bool.false_ne_true
 | int i=>
  obtain ⟨t,rfl⟩:=rx
  cases y with
  | ai=>cases ry;exact PySem.EqNone.ne_int_none (aS I q (by simp))
  | int j=>obtain ⟨t',rfl⟩:=ry;exact ne_int (aS I q (congrArg not tL))
  | str j=>obtain ⟨t',rfl⟩:=ry;exact PySem.EqMixed.ne_int_str (aS I q (by simp))
  | _=>exact absurd (show false=true from hs) Bool.false_ne_true
 | str i=>
  obtain ⟨t,rfl⟩:=rx
  cases y with
  | ai=>cases ry;exact PySem.EqNone.ne_str_none (aS I q (by simp))
  | bl j=>cases ry;exact PySem.EqMixed.ne_str_bool (aS I q (by simp))
  | int j=>obtain ⟨t',rfl⟩:=ry;exact PySem.EqMixed.ne_str_int (aS I q (by simp))
  | str j=>obtain ⟨t',rfl⟩:=ry;exact ne_str (aS I q (congrArg not tS))
  | _=>exact absurd (show false=true from hs) Bool.false_ne_true
 | ou i=>
  obtain ⟨t,rfl⟩:=rx
  cases y with
  | ou j=>obtain ⟨t',rfl⟩:=ry;exact PySem.W.ne_bytes (aS I q (congrArg not tX))
  | _=>exact absurd (show false=true from hs) Bool.false_ne_true
 | _=>cases y<;>exact absurd (show false=true from hs) Bool.false_ne_true
theorem R9:ck X (compareOp .Lt) (BO fun i j=>.bl (decide (i < j))):=Ga fun _ _ _ _ _ _ _ q=>lt_int q
theorem R_:ck X (compareOp .LtE) (BO fun i j=>.bl (decide (i<=j))):=Ga fun _ _ _ _ _ _ _ q=>le_int q
theorem Sa:ck X (compareOp .Gt) (BO fun i j=>.bl (decide (j < i))):=Ga fun _ _ _ _ _ _ _ q=>gt_int q
theorem Sb:ck X (compareOp .GtE) (BO fun i j=>.bl (decide (j<=i))):=Ga fun _ _ _ _ _ _ _ q=>ge_int q
theorem vL:ck X (compareOp .Lt) (fun x y H Q=>∃ i j,x=.str i/\y=.str j/\Q (.bl (decide (i.cps.toList < j.cps.toList))) H):=by
 intro pins s σ H x y v u Q I rx ry h
 obtain ⟨i,j,rfl,rfl,q⟩:=h
 obtain ⟨t,rfl⟩:=rx
 obtain ⟨t',rfl⟩:=ry
 exact lt_str (aS I q rfl)
theorem uJ:ck X (compareOp .In) (fun x y H Q=>∃ i j,x=.str i/\y=.str j/\Q (.bl (!(Builtin.Str.occurrences j i 0 j.length 1).isEmpty)) H):=by
 intro pins s σ H x y v u Q I rx ry h
 obtain ⟨i,j,rfl,rfl,q⟩:=h
 obtain ⟨t,rfl⟩:=rx
 obtain ⟨t',rfl⟩:=ry
 exact in_str (aS I q rfl)
theorem Sd:ck X (compareOp .Is) (fun x y H Q=>y=.ai/\Q (.bl (decide (x=.ai))) H):=by
 intro pins s σ H x y v u Q I rx ry h
 obtain ⟨rfl,q⟩:=h
 cases ry
 refine is_none_gen (aS I q ?_)
 cases x<;>first
  | (cases rx;rfl)
  | (obtain ⟨t,rfl⟩:=rx;rfl)
theorem h_ (b:Expr) {op:CmpOp} (h:op≠.In:=by decide) (h2:op≠.NotIn:=by decide):behindInMarks op b=false:=by
 have e1:(op==CmpOp.In)=false:=by cases op<;>first | rfl | exact absurd rfl h
 have e2:(op==CmpOp.NotIn)=false:=by cases op<;>first | rfl | exact absurd rfl h2
 cases b<;>simp [behindInMarks,e1,e2]
def Gc (t:TE):TT:=fun σ H Q=>t σ H fun x H'=>∃ k,x=.bl k/\Q k H'
theorem Se {op:CmpOp} {r:R2} (ho:ck X (compareOp op) r) (ha:PE X a ta) (hb:PE X b tb) (hm:behindInMarks op b=false):PT X (.Compare a [op] [b] pos) (Gc (mq r ta tb)):=by
 intro pins s σ H Q I h
 refine wpAny_isTrue_Compare1 (ao (ha pins s σ H _ I h) fun v s1 ⟨x,H1,I1,r1,q1⟩=>ao (hb pins s1 σ H1 _ I1 q1) fun u s2 ⟨y,H2,I2,r2,q2⟩=>
  ao (ho pins s2 σ H2 x y v u _ I2 r1 r2 q2) fun c s3 ⟨z,H3,I3,r3,k,e,q3⟩=>?_) hm
 subst e
 cases r3
 exact wpAny_truthy_bool ⟨H3,I3,q3⟩
def Ig (K:Q1) (x:V) (H:Hp) (k:Bool):Prop:=
 match x with
 | .ai=>k=false
 | .bl b=>k=b
 | .int i=>k=(i !=0)
 | .str y=>y.length<=sizeLine/\k=((y.length:Int) !=0)
 | .ou y=>y.size<=sizeLine/\k=((y.size:Int) !=0)
 | .ref p=>(∃ xs,af K H p xs/\k= !xs.isEmpty)\/(∃ xs,aj K H p xs/\k= !xs.isEmpty)\/∃ kvs,H p=some (.dK kvs)/\k= !kvs.isEmpty
 | _=>False
theorem rF {kvs:List (κ×V)} {vs:List (κ×Value)} (r:KV kvs vs):(!vs.isEmpty)= !kvs.isEmpty:=by
 cases r<;>rfl
theorem lV {xs:List V} {its:List Value} (r:az xs its):(!its.toArray.isEmpty)= !xs.isEmpty:=by
 cases r<;>simp
theorem C2:(sizeLine:Nat) < 2^63:=by rw [QM];decide
theorem Sf:RU X (fun x H Q=>∃ k,Ig X.K x H k/\Q k H):=by
 intro pins s σ H x v Q I rx h
 obtain ⟨k,e,q⟩:=h
 have hl:=C2
 have hs:sizeLine=16777216:=QM
 cases x with
 | ai=>
  cases rx
  have e':k=false:=e
  subst e'
  exact truthy_none ⟨H,I,q⟩
 | bl b=>
  cases rx
  have e':k=b:=e
  subst e'
  exact wpAny_truthy_bool ⟨H,I,q⟩
 | int i=>
  obtain ⟨t,rfl⟩:=rx
  have e':k=(i !=0):=e
  subst e'
  exact PySem.P.truthy_int ⟨H,I,q⟩
 | str y=>
  obtain ⟨t,rfl⟩:=rx
  obtain ⟨hy,e'⟩:y.length<=sizeLine/\k=((y.length:Int) !=0):=e
  subst e'
  exact PySem.P.truthy_str (by omega) ⟨H,I.tok _,q⟩
 | ou y=>
  obtain ⟨t,rfl⟩:=rx
  obtain ⟨hy,e'⟩:y.size<=sizeLine/\k=((y.size:Int) !=0):=e
  subst e'
  exact PySem.W.truthy_bytes (by omega) ⟨H,I.tok _,q⟩
 | ref p=>
  cases rx
  have e':(∃ xs,af X.K H p xs/\k= !xs.isEmpty)\/(∃ xs,aj X.K H p xs/\k= !xs.isEmpty)\/∃ kvs,H p=some (.dK kvs)/\k= !kvs.isEmpty:=e
  rcases e' with ⟨xs,hx,e'⟩ | ⟨xs,hx,e'⟩ | ⟨kvs,hx,e'⟩
  ·subst e'
   obtain ⟨its,r,pl,hz⟩:=I.list hx
   have c_:=r.length
   exact wpAny_truthy_list pl.isList (by simp only [List.size_toArray];omega) ⟨H,I.tok _,by rw [lV r];exact q⟩
  ·subst e'
   obtain ⟨its,r,pl,hz⟩:=I.tuple hx
   have c_:=r.length
   exact truthy_tuple pl (by simp only [List.size_toArray];omega) ⟨H,I.tok _,by rw [lV r];exact q⟩
  ·subst e'
   obtain ⟨hz,hS,vs,r,m⟩:kvs.length<=sizeLine/\(p==sysModules)=false/\∃ vs,KV kvs vs/\s.heap.DictOf (cg X.prog X.w) p vs:=I.hok p _ hx
   have c_:kvs.length=vs.length:=Paired.length r
   exact wpAny_truthy_dict hS m (by omega) ⟨H,I.tok _,by rw [rF r];exact q⟩
 | _=>exact (show False from e).elim
theorem zR (ha:PE X a ta) (he:∀ whole,isTrue a X.env whole=(do let v <- whole;standAt a.pos;holding [v] (truthy v))):
  PT X a (fun σ H Q=>ta σ H fun x H'=>∃ k,Ig X.K x H' k/\Q k H'):=by
 intro pins s σ H Q I h
 exact isTrue_plain (ao (ha pins s σ H _ I h) fun v s1 ⟨x,H1,I1,r1,q1⟩=>Sf pins s1 σ H1 x v Q I1 r1 q1) (he _)
theorem rR:ck X (binaryOp .Add) (fun x y H Q=>∃ i j,x=.str i/\y=.str j/\i.length+j.length<=sizeLine/\Q (.str (i++j)) H):=by
 intro pins s σ H x y v u Q I rx ry h
 obtain ⟨i,j,rfl,rfl,hz,q⟩:=h
 obtain ⟨t,rfl⟩:=rx
 obtain ⟨t',rfl⟩:=ry
 exact add_str (fun t' tk=>⟨.str (i++j),H,I.tok _,⟨_,rfl⟩,q⟩) hz
theorem vals1 {x:V} (r:az [x] us):∃ u,us=[u]/\RelV x u:=by
 cases r with
 | cons r1 r2=>cases r2;exact ⟨_,rfl,r1⟩
def Sg (K:Q1) (x:V) (H:Hp) (n:Nat):Prop:=
 match x with
 | .str y=>y.length<=sizeLine/\n=y.length
 | .ou y=>y.size<=sizeLine/\n=y.size
 | .ref p=>(∃ xs,af K H p xs/\n=xs.length)\/∃ xs,aj K H p xs/\n=xs.length
 | _=>False
theorem lC:qw X (.builtin "len") (fun xs H Q=>∃ x n,xs=[x]/\Sg X.K x H n/\Q (.int n) H):=by
 intro pins s σ H xs us Q I r h
 obtain ⟨x,n,rfl,e,q⟩:=h
 obtain ⟨u,rfl,rx⟩:=vals1 r
 have hl:=C2
 have hs:sizeLine=16777216:=QM
 cases x with
 | str y=>
  obtain ⟨t,rfl⟩:=rx
  obtain ⟨hy,e'⟩:y.length<=sizeLine/\n=y.length:=e
  subst e'
  exact len_str (by omega) ⟨.int _,H,I.tok _,⟨_,rfl⟩,q⟩
 | ou y=>
  obtain ⟨t,rfl⟩:=rx
  obtain ⟨hy,e'⟩:y.size<=sizeLine/\n=y.size:=e
  subst e'
  exact PySem.W.len_bytes (by omega) ⟨.int _,H,I.tok _,⟨_,rfl⟩,q⟩
 | ref p=>
  cases rx
  have e':(∃ xs,af X.K H p xs/\n=xs.length)\/∃ xs,aj X.K H p xs/\n=xs.length:=e
  rcases e' with ⟨xs,hx,e'⟩ | ⟨xs,hx,e'⟩
  ·subst e'
   obtain ⟨its,r',pl,hz⟩:=I.list hx
   have c_:=r'.length
   exact Calls.call_len_list pl.isList (by simp only [List.size_toArray];omega) ⟨.int xs.length,H,I.tok _,⟨_,by simp only [List.size_toArray];rw [c_]⟩,q⟩
  ·subst e'
   obtain ⟨its,r',pl,hz⟩:=I.tuple hx
   have c_:=r'.length
   exact len_tuple pl (by simp only [List.size_toArray];omega) ⟨.int xs.length,H,I.tok _,⟨_,by simp only [List.size_toArray];rw [c_]⟩,q⟩
 | _=>exact (show False from e).elim
end
structure BQ (h:Heap) (x dx C:Addr) (mA:Str->Option Value):Prop where
 obj:h.get? x=some (PySem.W.instObj C dx)
 ns:h.Ns1 dx mA
 ne:dx≠x
theorem uD {dx:Addr} (n:h.Ns1 dx mA):∃ od,h.get? dx=some od/\∀ name,PySem.W.lookIn name od=some (mA name):=by
 obtain ⟨o,es,ep,ho,hd,hk,_,hm⟩:=n
 refine ⟨o,ho,fun name=>?_⟩
 have e:=hm name
 unfold nsFind findBy at e
 rw [<- Array.find?_toList] at e
 unfold PySem.W.lookIn
 rw [hd]
 dsimp only
 split
 ·rename_i y q
  rw [q] at e
  exact congrArg some e
 ·rename_i q
  rw [q] at e
  have a:es.toList.any (·.refKey)=false:=by
   rw [List.any_eq_false]
   intro y hy
   obtain ⟨z,t,BR⟩:=hk y (Array.mem_toList_iff.mp hy)
   simp [DictEntry.refKey,BR]
  have a':¬es.toList.any (·.refKey)=true:=by rw [a];exact Bool.false_ne_true
  rw [if_neg a']
  exact congrArg some e
theorem BQ.look {x dx:Addr} (I:BQ h x dx C mA):∃ od,PySem.W.InstAt h x (PySem.W.instObj C dx) C (some od)/\∀ name,PySem.W.lookIn name od=some (mA name):=
 let ⟨od,ho,hl⟩:=uD I.ns
 ⟨od,⟨I.obj,rfl,rfl,ho⟩,hl⟩
section
variable {K:Q1} {x dx f:Addr} {v:Value}
theorem Sh {expr:Bool} (X:K.In s.heap) (I:BQ s.heap x dx C mA) (hg:PySem.W.plainGet K C name=true) (hh:PySem.W.hasDictIn K C=true)
  (ha:PySem.W.findIn K (.ref C) name=some none) (hv:mA name=some v) (Em:PySem.W.handedIn v=true) (h:Q v {s with toks:=s.toks+1}):
  wpAny (model prog w) A (getAttr (.ref x) name expr) Q E s:=by
 obtain ⟨od,J,hl⟩:=I.look
 exact PySem.W.get_value X J (PySem.W.plainGet_of hg).1 (PySem.W.findObj_own hh ha rfl (by rw [hl,hv])) Em h
theorem xO {Q:Value×List Value->Shared->Prop} (X:K.In s.heap) (I:BQ s.heap x dx C mA) (hg:PySem.W.plainGet K C name=true)
  (hf:PySem.W.findIn K (.ref C) name=some (some (.ref f))) (ht:PySem.W.isFn K (.ref f)=true) (hv:mA name=none) (h:Q (.ref f,[.ref x]) s):
  wpAny (model prog w) A (getMethod (.ref x) name pl) Q E s:=by
 obtain ⟨od,J,hl⟩:=I.look
 exact PySem.W.method_fn X J (PySem.W.plainGet_of hg).1 (PySem.W.plainGet_of hg).2 hf (beq_iff_eq.mp ht) (by show (PySem.W.lookIn name od).map (·.isSome)=some false;rw [hl,hv];rfl) h
theorem Si {Q:Unit->Shared->Prop} (X:K.In s.heap) (I:BQ s.heap x dx C mA)
  (hs:PySem.W.findIn K (.ref C) "__setattr__"=some (some (.builtin "object.__setattr__"))) (hp:PySem.W.plainOver K C=true) (ht:PySem.W.takerIn K C name=some none) (hh:PySem.W.hasDictIn K C=true)
  (hw:PySem.Within mA ns) (hsz:ns.length<=sizeLine)
  (h:∀ h',BQ h' x dx C (fun y=>if y=name then some v else mA y)->Heap.SameBut dx s.heap h'->Q () {s with heap:=h',toks:=s.toks+2}):
  wpAny (model prog w) A (setAttr (.ref x) name v) Q E s:=by
 obtain ⟨od,J,hl⟩:=I.look
 refine PySem.W.set_plain X J hs (PySem.W.osa_open (s:={s with toks:=s.toks+1}) (r:=none) X J hp ht fun b=>?_)
 obtain ⟨cd,hc,HZ⟩:=PySem.W.any_some hh
 have hx:s.heap.get? x=some ⟨.ref C,some dx,.plain,#[]⟩:=I.obj
 refine QU (QV (QU (QU (wpAny_loadPart hx (QU (PySem.W.Looks.here (s:={s with toks:=s.toks+1}) (PySem.W.looks_clsIn X hc) ?_))))))
 rw [HZ]
 refine QV (a:=some dx) (QU (QV (QU ?_)))
 refine wpAny_nsSet1 (s:={s with toks:=s.toks+1}) I.ns fun h' hn2 jq=>?_
 obtain ⟨oD,esD,epD,Sj,Sk,Sl⟩:=hn2.count (PySem.Within.cons name v hw)
 refine QU (wpAny_lookBehind Sj (by rw [Sk];exact pastItsLine_dict (Nat.le_trans Sl (by rw [List.length_cons];omega))) ?_)
 exact QV (h _ ⟨(jq.2 _ (Ne.symm I.ne)).trans I.obj,hn2,I.ne⟩ jq)
theorem zC {vs:List Value} (X:K.In s.heap) (hm:PySem.W.makesIn K C=true)
  (hi:PySem.W.findIn K (.ref C) "__init__"=some (some (.ref f))) (hf:PySem.W.typeIn K (.ref f)=some (.type "function"))
  (h:codeAny (model prog w) (A.under (.builtin "type.__call__" ⟨.ref C::vs,kw⟩)) (.call (.ref f) ⟨.ref (s.heap.objs.size+1)::vs,kw⟩) (PySem.W.InitBack (s.heap.objs.size+1) R)
   {s with heap:=(s.heap.push PySem.W.emptyDict).push (PySem.W.instObj C s.heap.objs.size)}):
  codeAny (model prog w) A (.call (.ref C) ⟨vs,kw⟩) R s:=by
 obtain ⟨hh,g,d,t,os⟩:=s
 exact PySem.W.make_core (PySem.W.makes_of X hm) (PySem.W.looks_findIn X hi) (fun self=>PySem.W.bind_fn X self hf) (.inl rfl) h
end
def br (f:Str) (v:V):List (Str×V)->List (Str×V)
 | []=>[(f,v)]
 | (g,x)::r=>if g=f then (g,v)::r else (g,x)::br f v r
theorem bM (f g:Str) (v:V):∀ fs:List (Str×V),(br f v fs).lookup g=if g=f then some v else fs.lookup g
 | []=>by
  show List.lookup g [(f,v)]=_
  by_cases h:g=f
  ·have hb:(g==f)=true:=beq_iff_eq.mpr h
   simp only [List.lookup,hb,if_pos h]
  ·have hb:(g==f)=false:=beq_eq_false_iff_ne.mpr h
   simp only [List.lookup,hb,if_neg h]
 | (k,x)::r=>by
  have ih:=bM f g v r
  rw [show br f v ((k,x)::r)=(if k=f then (k,v)::r else (k,x)::br f v r) from rfl]
  by_cases hk:k=f
  ·rw [if_pos hk]
   by_cases h:g=k
   ·have hb:(g==k)=true:=beq_iff_eq.mpr h
    simp only [List.lookup,hb,if_pos (h.trans hk)]
   ·have hb:(g==k)=false:=beq_eq_false_iff_ne.mpr h
    simp only [List.lookup,hb,if_neg (fun e:g=f=>h (e.trans hk.symm))]
  ·rw [if_neg hk]
   by_cases h:g=k
   ·have hb:(g==k)=true:=beq_iff_eq.mpr h
    simp only [List.lookup,hb,if_neg (fun e:g=f=>hk (h.symm.trans e))]
   ·have hb:(g==k)=false:=beq_eq_false_iff_ne.mpr h
    simp only [List.lookup,hb]
    exact ih
theorem jB (f:Str) (v:V):∀ fs:List (Str×V),f∈(br f v fs).map (·.1)/\∀ g,g∈fs.map (·.1)->g∈(br f v fs).map (·.1)
 | []=>⟨by simp [br],fun g h=>by simp at h⟩
 | (k,x)::r=>by
  obtain ⟨i1,i2⟩:=jB f v r
  rw [show br f v ((k,x)::r)=(if k=f then (k,v)::r else (k,x)::br f v r) from rfl]
  by_cases hk:k=f
  ·rw [if_pos hk]
   subst hk
   exact ⟨by simp,fun g h=>by simpa using h⟩
  ·rw [if_neg hk]
   refine ⟨?_,fun g h=>?_⟩
   ·rw [List.map_cons]
    exact Qh _ i1
   ·rw [List.map_cons] at h ⊢
    rcases Qp.mp h with e | e
    ·exact Qp.mpr (.inl e)
    ·exact Qh _ (i2 g e)
theorem bF (f:Str) (v:V):∀ fs:List (Str×V),(br f v fs).length<=fs.length+1
 | []=>by simp [br]
 | (k,x)::r=>by
  have ih:=bF f v r
  rw [show br f v ((k,x)::r)=(if k=f then (k,v)::r else (k,x)::br f v r) from rfl]
  by_cases hk:k=f
  ·rw [if_pos hk,List.length_cons,List.length_cons];omega
  ·rw [if_neg hk,List.length_cons,List.length_cons];omega
theorem kg.some_of {v:V} {o:Option Value} (r:kg (some v) o):∃ u,o=some u/\RelV v u:=by
 cases o with
 | none=>exact (show False from r).elim
 | some u=>exact ⟨u,rfl,r⟩
theorem kg.none_of {o:Option Value} (r:kg none o):o=none:=by
 cases o with
 | none=>rfl
 | some u=>exact (show False from r).elim
theorem vW {v:V} (r:RelV v u):PySem.W.handedIn u=true:=by
 cases v with
 | ai=>cases (show u=Value.none from r);rfl
 | bl b=>cases (show u=Value.bool b from r);rfl
 | int i=>obtain ⟨t,e⟩:=(show ∃ t,u=Value.int i t from r);cases e;rfl
 | str x=>obtain ⟨t,e⟩:=(show ∃ t,u=Value.str x t from r);cases e;rfl
 | ou b=>obtain ⟨t,e⟩:=(show ∃ t,u=Value.bytes b t from r);cases e;rfl
 | BB b=>obtain ⟨t,e⟩:=(show ∃ t,u=Value.float b t from r);cases e;rfl
 | ref a=>cases (show u=Value.ref a from r);rfl
 | ty n=>cases (show u=Value.type n from r);rfl
section
variable {dx:Addr} {fs Rf:List (Str×V)}
theorem kP (hok:fg P w H h) (e:H a=some (.ins C dx fs)):∃ mA,BQ h a dx C mA/\(∀ f,kg (fs.lookup f) (mA f))/\PySem.Within mA (fs.map (·.1))/\fs.length<=1000/\H dx=some (.own a):=by
 obtain ⟨d,z,ne,ob,mA,n,r,q⟩:=(show bg P w H h a (.ins C dx fs) from hok a _ e)
 exact ⟨mA,⟨ob,n,ne⟩,r,q,z,d⟩
end
structure qx (K:Q1) (C:Addr):Prop where
 pg:PySem.W.plainGet K C Str.empty=true
 hd:PySem.W.hasDictIn K C=true
 po:PySem.W.plainOver K C=true
 sa:PySem.W.findIn K (.ref C) "__setattr__"=some (some (.builtin "object.__setattr__"))
theorem qx.get {K:Q1} (c:qx K C) (f:Str):PySem.W.plainGet K C f=true:=c.pg
def yt (K:Q1) (C:Addr) (f:Str):Prop:=PySem.W.findIn K (.ref C) f=some none
theorem yt.Sn {K:Q1} {f:Str} (n:yt K C f):PySem.W.takerIn K C f=some none:=by
 unfold PySem.W.takerIn
 rw [show PySem.W.findIn K (.ref C) f=some none from n]
 rfl
structure En (K:Q1) (C:Addr) (m:Str) (f:Addr):Prop where
 at_:PySem.W.findIn K (.ref C) m=some (some (.ref f))
 fn:PySem.W.isFn K (.ref f)=true
 kp:PySem.W.keepIn K (.ref f)=true
section
variable {dx:Addr} {fs:List (Str×V)} {f:Str} {v:V}
theorem sY {b:Bool} (I:Inv X pins σ H s) (e:H a=some (.ins C dx fs)) (c:qx X.K C) (n:yt X.K C f) (l:fs.lookup f=some v)
  (h:∀ u s',Inv X pins σ H s'->RelV v u->Q u s'):wpAny (model X.prog X.w) A (getAttr (.ref a) f b) Q E s:=by
 obtain ⟨mA,O,r,_,_,_⟩:=kP I.hok e
 obtain ⟨u,hu,ru⟩:=kg.some_of (v:=v) (o:=mA f) (by rw [<- l];exact r f)
 exact Sh I.gy O (c.get f) c.hd n hu (vW ru) (h u _ (I.tok _) ru)
theorem lH {m:Str} {g:Addr} {Q:Value×List Value->Shared->Prop} (I:Inv X pins σ H s) (e:H a=some (.ins C dx fs)) (c:qx X.K C) (k:En X.K C m g) (l:fs.lookup m=none)
  (h:Q (.ref g,[.ref a]) s):wpAny (model X.prog X.w) A (getMethod (.ref a) m pl) Q E s:=by
 obtain ⟨mA,O,r,_,_,_⟩:=kP I.hok e
 have hn:mA m=none:=kg.none_of (by rw [<- l];exact r m)
 exact xO I.gy O (c.get m) k.at_ k.fn hn h
theorem t9 {y:V} {Q:Unit->Shared->Prop} (I:Inv X pins σ H s) (e:H a=some (.ins C dx fs)) (c:qx X.K C) (n:yt X.K C f) (hl:fs.length < 1000) (ry:RelV y u)
  (h:∀ s',Inv X pins σ (upd H a (.ins C dx (br f y fs))) s'->Q () s'):wpAny (model X.prog X.w) A (setAttr (.ref a) f u) Q E s:=by
 obtain ⟨mA,O,r,wi,_,ho⟩:=kP I.hok e
 have hz:(fs.map (·.1)).length<=sizeLine:=by rw [Ql,QM];omega
 refine Si I.gy O c.sa c.po n.Sn c.hd wi hz fun h' O' sb=>h _ ?_
 have hd:∃ o,h'.get? dx=some o:=let ⟨o,_,_,e',_⟩:=O'.ns;⟨o,e'⟩
 refine I.write (x:=a) (e:=dx) (by rw [e];exact True.intro) (.inr ho) (fun b q hb z=>(sb.2 b hb).trans z) hd ?_
 refine ⟨by rw [aB O.ne];exact ho,?_,O.ne,O'.obj,_,O'.ns,fun g=>?_,fun g hg=>?_⟩
 ·have:=bF f y fs;omega
 ·show kg ((br f y fs).lookup g) (if g=f then some u else mA g)
  rw [bM]
  by_cases q:g=f
  ·rw [if_pos q,if_pos q];exact ry
  ·rw [if_neg q,if_neg q];exact r g
 ·by_cases q:g=f
  ·rw [q];exact (jB f y fs).1
  ·refine (jB f y fs).2 g (wi g fun z=>hg ?_)
   show (if g=f then some u else mA g)=none
   rw [if_neg q];exact z
theorem Inv.made (I:Inv X pins σ H s):Inv X pins σ (upd (upd H s.heap.objs.size (.own (s.heap.objs.size+1))) (s.heap.objs.size+1) (.ins C s.heap.objs.size []))
  {s with heap:=(s.heap.push PySem.W.emptyDict).push (PySem.W.instObj C s.heap.objs.size)}:=by
 have e1:(s.heap.push PySem.W.emptyDict).get? s.heap.objs.size=some PySem.W.emptyDict:=Qd s.heap rfl
 have e2:((s.heap.push PySem.W.emptyDict).push (PySem.W.instObj C s.heap.objs.size)).get? (s.heap.objs.size+1)=some (PySem.W.instObj C s.heap.objs.size):=by
  have:=Qd (s.heap.push PySem.W.emptyDict) (o:=PySem.W.instObj C s.heap.objs.size) rfl
  rwa [Heap.size_push] at this
 have e3:(s.heap.push PySem.W.emptyDict).Ns s.heap.objs.size (fun _=>none):=⟨PySem.W.emptyDict,#[],_,e1,rfl,(fun e he=>absurd he (by simp)),fun _=>rfl⟩
 have I1:=I.laid (a:=s.heap.objs.size) (o:=.own (s.heap.objs.size+1)) (h':=s.heap.push PySem.W.emptyDict) (t':=s.toks) (fun b u q=>Qc _ q) (Qz _) ⟨_,e1⟩
 refine I1.laid (a:=s.heap.objs.size+1) (o:=.ins C s.heap.objs.size []) (t':=s.toks) (fun b u q=>Qc _ q) (Nat.le_of_eq (Heap.size_push _ _)) ?_
 have ne:s.heap.objs.size≠s.heap.objs.size+1:=Nat.ne_of_lt (Nat.lt_succ_self _)
 refine ⟨by rw [aB ne,aA],Nat.zero_le _,ne,e2,fun _=>none,(Heap.Ns1.of_empty e3).at fun o q=>Qc _ q,fun _=>True.intro,fun y hy=>absurd rfl hy⟩
theorem So {f:Str} {pos:Pos} (hb:attributeBase e f env (eval e env)=eval e env)
  (h:wpAny (model prog w) A (eval e env) (fun o s₁=>wpAny (model prog w) A (getAttr o f true) Q E s₁) E s):wpAny (model prog w) A (eval (.Attribute e f pos) env) Q E s:=
 Attribute_any_ h (by rw [arm_eval_Attribute,hb])
end
def LV (K:Q1) (ta:TE) (f:Str):TE:=fun σ H Q=>ta σ H fun x H1=>∃ a C dx fs v,x=.ref a/\H1 a=some (.ins C dx fs)/\qx K C/\yt K C f/\fs.lookup f=some v/\Q v H1
def Gd (K:Q1) (ta tv:TE) (f:Str):TS:=fun D σ H=>tv σ H fun y H1=>ta σ H1 fun x H2=>∃ a C dx fs,x=.ref a/\H2 a=some (.ins C dx fs)/\qx K C/\yt K C f/\fs.length < 1000/\
 D.nx σ (upd H2 a (.ins C dx (br f y fs)))
section
variable {o value:Expr} {f:Str} {pos pos' vf:Pos} {tv:TE}
theorem Sq (he:PE X e ta) (hb:attributeBase e f X.env (eval e X.env)=eval e X.env):PE X (.Attribute e f pos) (LV X.K ta f):=by
 intro pins s σ H Q I h
 refine So hb (ao (he pins s σ H _ I h) ?_)
 rintro u s1 ⟨x,H1,I1,rx,a,C,dx,fs,v,ex,ea,c,n,l,q⟩
 subst ex
 obtain rfl:u=Value.ref a:=rx
 exact sY I1 ea c n l fun u' s2 I2 ru=>⟨v,H1,I2,ru,q⟩
theorem Ss (ha:PE X o ta) (hv:PE X value tv) (hs:swapsWith value (some (.Attribute o f pos')) pos.line X.env=pure false):PS X (.Assign [.Attribute o f pos'] value pos) (Gd X.K ta tv f):=by
 intro pins s σ H D I h
 refine plainObj_wpAny_Assign_Attribute (ao (hv pins s σ H _ I h) fun u s1 ⟨y,H1,I1,ry,q⟩=>ao (ha pins s1 σ H1 _ I1 q) fun ov s2 ⟨x,H2,I2,rx,a,C,dx,fs,ex,ea,c,n,l,q2⟩=>?_) hs
 subst ex
 obtain rfl:ov=Value.ref a:=rx
 exact t9 I2 ea c n l ry fun s3 I3=>⟨σ,_,I3,q2⟩
end
section
variable {c:Value} {b:Bool}
inductive uf (K:Q1) (H:Hp):V->Value->Prop where
 | ai:uf K H .ai (.type "NoneType")
 | bl (x:Bool):uf K H (.bl x) (.type "bool")
 | int (i:Int):uf K H (.int i) (.type "int")
 | str (x:Str):uf K H (.str x) (.type "str")
 | BB (x:UInt64):uf K H (.BB x) (.type "float")
 | lst {a:Addr} {xs:List V} (e:H a=some (.lst xs)):uf K H (.ref a) (.type "list")
 | ae {a:Addr} {o:Obj} {xs:List V} (e:H a=some (.ae o (.lst xs))):uf K H (.ref a) (.type "list")
 | tup {a:Addr} {xs:List V} (e:H a=some (.tup xs)):uf K H (.ref a) (.type "tuple")
 | dK {a:Addr} {kvs:List (Key×V)} (e:H a=some (.dK kvs)):uf K H (.ref a) (.type "dict")
 | dT {a:Addr} {kvs:List (List Key×V)} (e:H a=some (.dT kvs)):uf K H (.ref a) (.type "dict")
 | ins {a C dx:Addr} {fs:List (Str×V)} (e:H a=some (.ins C dx fs)) (cl:qx K C) (ha:PySem.W.findIn K (.ref C) "__class__"=some (some (.builtin "object.__class__")))
   (hn:PySem.W.specialIn K (.builtin "object.__class__") "__get__"=some (some (.builtin "getset_descriptor.__get__"))) (Eo:PySem.W.takesIn K (.builtin "object.__class__")=some true)
   (hm:PySem.W.mroIn K C (.type "object")=some true):uf K H (.ref a) (.ref C)
theorem vC {x:V} {t:Value} (I:Inv X pins σ H s) (rx:RelV x u) (ty:uf X.K H x t) (e:PySem.W.kitOne X.K t c=some b) (h:∀ tk,Q (.bool b) {s with toks:=tk}):
  wpAny (model X.prog X.w) A (call (.builtin "isinstance") [u,c]) Q E s:=by
 cases ty with
 | ai=>cases (show u=Value.none from rx);exact PySem.W.kia_one PySem.W.kitx_none I.gy True.intro e (fun z=>nomatch z) h
 | bl y=>cases (show u=Value.bool y from rx);exact PySem.W.kia_one PySem.W.kitx_bool I.gy True.intro e (fun z=>nomatch z) h
 | int i=>obtain ⟨t,q⟩:=(show ∃ t,u=Value.int i t from rx);cases q;exact PySem.W.kia_one PySem.W.kitx_int I.gy True.intro e (fun z=>nomatch z) h
 | str y=>obtain ⟨t,q⟩:=(show ∃ t,u=Value.str y t from rx);cases q;exact PySem.W.kia_one PySem.W.kitx_str I.gy True.intro e (fun z=>nomatch z) h
 | BB y=>obtain ⟨t,q⟩:=(show ∃ t,u=Value.float y t from rx);cases q;exact PySem.W.kia_one PySem.W.kitx_float I.gy True.intro e (fun z=>nomatch z) h
 | @lst a xs ea=>
  cases (show u=Value.ref a from rx)
  obtain ⟨_,_,n,_,h1⟩:=(show bg X.prog X.w H s.heap a (.lst xs) from I.hok a _ ea)
  exact PySem.W.kia_one PySem.W.kitx_list I.gy ⟨_,h1,rfl⟩ e (fun z=>nomatch z) h
 | @ae a ob xs ea=>
  cases (show u=Value.ref a from rx)
  obtain ⟨_,_,_,n,_,h1⟩:=(show bg X.prog X.w H s.heap a (.ae ob (.lst xs)) from I.hok a _ ea)
  exact PySem.W.kia_one PySem.W.kitx_list I.gy ⟨_,h1,rfl⟩ e (fun z=>nomatch z) h
 | @tup a xs ea=>
  cases (show u=Value.ref a from rx)
  obtain ⟨_,_,_,p⟩:=(show bg X.prog X.w H s.heap a (.tup xs) from I.hok a _ ea)
  obtain ⟨o,h1,h2,_⟩:=p
  exact PySem.W.kia_one PySem.W.kitx_tuple I.gy ⟨o,h1,h2⟩ e (fun z=>nomatch z) h
 | @dK a kvs ea=>
  cases (show u=Value.ref a from rx)
  obtain ⟨_,_,vs,_,p⟩:=(show bg X.prog X.w H s.heap a (.dK kvs) from I.hok a _ ea)
  obtain ⟨o,es,ep,h1,h2,_⟩:=p
  exact PySem.W.kia_one PySem.W.kitx_dict I.gy ⟨o,h1,h2.1⟩ e (fun z=>nomatch z) h
 | @dT a kvs ea=>
  cases (show u=Value.ref a from rx)
  obtain ⟨_,_,xs,_,o,es,ep,h1,h2,_⟩:=(show bg X.prog X.w H s.heap a (.dT kvs) from I.hok a _ ea)
  exact PySem.W.kia_one PySem.W.kitx_dict I.gy ⟨o,h1,h2.1⟩ e (fun z=>nomatch z) h
 | @ins a C dx fs ea cl ha hn Eo hm=>
  cases (show u=Value.ref a from rx)
  obtain ⟨mA,O,_⟩:=kP I.hok ea
  obtain ⟨od,J,_⟩:=O.look
  exact PySem.W.kia_one (PySem.W.kitx_own (cl.get _) cl.hd ha hn Eo hm) I.gy J e (fun z=>nomatch z) h
end
structure di (k:Nat) (A:Around):Prop where
 hd:A.handled=none
 dp:A.depth+3*k+5 < recursionLimit
 un:A.units+16*k+200 < cLine
 gd:A.guards=some []
theorem di.mono {k:Nat} (r:di k A) (h:j<=k):di j A:=⟨r.hd,by have:=r.dp;omega,by have:=r.un;omega,r.gd⟩
theorem di.deeper {k:Nat} {A:Around} (r:di (k+1) A) (env:Env):di k (A.deeper env):=
 ⟨r.hd,by have:=r.dp;show A.depth+1+3*k+5 < _;omega,by have:=r.un;show A.units+3+16*k+200 < _;omega,r.gd⟩
theorem sG:(A.under (.builtin "type.__call__" ⟨.ref C::us,kw⟩)).depth=A.depth+1:=by
 first | rfl | simp [Around.under,Code.weight,Code.isCreation,Code.isGuard,Code.isCaller,Code.frames,Code.isFrame,guardIds]
theorem tD:(A.under (.builtin "type.__call__" ⟨.ref C::us,kw⟩)).units=A.units+1:=by
 first | rfl | simp [Around.under,Code.cUnits,Code.frames,Code.isFrame]
theorem pC (h:A.guards=some []):(A.under (.builtin "type.__call__" ⟨.ref C::us,kw⟩)).guards=some []:=by
 first | exact h | (simp [Around.under,pushGuards,Code.guards,Code.isGuard,guardIds,h])
theorem di.make {k:Nat} (r:di (k+1) A) (C:Addr) (us:List Value) (kw:List (Str×Value)):di k (A.under (.builtin "type.__call__" ⟨.ref C::us,kw⟩)):=
 ⟨r.hd,by have:=r.dp;rw [sG];omega,by have:=r.un;rw [tD];omega,pC r.gd⟩
theorem di.depth {k:Nat} {A:Around} (r:di k A):A.depth < recursionLimit:=by have:=r.dp;omega
theorem di.units {k:Nat} {A:Around} (r:di k A):A.units+64 < cLine:=by have:=r.un;omega
def mw:TA:=fun _ H Q=>Q [] H
def gu (ta:TE) (tr:TA):TA:=fun σ H Q=>ta σ H fun x H1=>tr σ H1 fun xs H2=>Q (x::xs) H2
section
variable {t:TA} {pos:Pos}
theorem Su:PA X [] mw:=fun _ _ _ _ H Q I h=>Calls.spliced_nil ⟨[],H,I,.nil,h⟩
theorem dC (ha:PE X e te) (hr:PA X es t) (hs:starEach (e::es) X.env=(false,eval e X.env)::starEach es X.env:=by rfl):PA X (e::es) (gu te t):=by
 intro pos pins s σ H Q I h
 rw [hs]
 show wpAny _ _ (spliced ((false,eval e X.env)::backTo pos (starEach es X.env))) _ _ s
 refine Calls.spliced_cons (ao (ha pins s σ H _ I h) ?_)
 rintro u s1 ⟨x,H1,I1,r1,q1⟩
 exact ao (hr pos pins s1 σ H1 _ I1 q1) fun us s2 ⟨xs,H2,I2,r2,q2⟩=>⟨x::xs,H2,I2,.cons r1 r2,q2⟩
def C3 (t:TA):TE:=fun σ H Q=>t σ H fun xs H1=>xs.length<=sizeLine/\∀ p,H1 p=none->Q (.ref p) (upd H1 p (.tup xs))
def LW (t:TA):TE:=fun σ H Q=>t σ H fun xs H1=>xs.length<=sizeLine/\∀ p,H1 p=none->Q (.ref p) (upd H1 p (.lst xs))
theorem Sv {x1} (h:PA X es t):PE X (.Tuple es x1 pos) (C3 t):=by
 intro pins s σ H Q I hq
 refine wpAny_Tuple_spliced (ao (h pos pins s σ H _ I hq) fun us s1 ⟨xs,H1,I1,r,z,q⟩=>⟨by rw [<- r.length];exact z,?_⟩)
 have hf:H1 s1.heap.objs.size=none:=I1.hok.fresh (Qz _)
 refine ⟨.ref s1.heap.objs.size,upd H1 s1.heap.objs.size (.tup xs),I1.laid (t':=s1.toks) (fun b u e=>Qc _ e) (Qz _) ?_,rfl,q _ hf⟩
 exact ⟨⟨z,BD.new rfl rfl⟩,us,r,⟨_,Qd _ rfl,rfl,_,rfl⟩⟩
theorem Sw (h:PA X es t):PE X (.List es pos) (LW t):=by
 intro pins s σ H Q I hq
 refine wpAny_List_spliced (ao (h pos pins s σ H _ I hq) fun us s1 ⟨xs,H1,I1,r,z,q⟩=>⟨by rw [<- r.length];exact z,?_⟩)
 have hf:H1 s1.heap.objs.size=none:=I1.hok.fresh (Qz _)
 refine ⟨.ref s1.heap.objs.size,upd H1 s1.heap.objs.size (.lst xs),I1.laid (t':=s1.toks) (fun b u e=>Qc _ e) (Qz _) ?_,rfl,q _ hf⟩
 exact ⟨z,us,0,r,Qd _ rfl⟩
end
abbrev Sp:=List V->Hp->VK->XK->Prop
abbrev w_:=List Env->Hp->Shared->XK->Value->Shared->Prop
structure BS (P:Program) (w:World) (K:Q1) (mg:Str->Option Value) (base:Heap) (A:Around) (outer:List Env) (s:Shared) (H:Hp):Prop where
 frames:A.frames=some outer
 mod:Mod K mg base
 bs:∀ b o,base.get? b=some o->s.heap.get? b=some o/\H b=none
 Aa:base.objs.size<=s.heap.objs.size
 vd:s.heap.FunFrames base outer
 BF:∀ b∈mi outer,H b=none
 hok:fg P w H s.heap
 bare:AllBare s.gens
def CE (outer:List Env) (P:Program) (w:World) (H:Hp) (s:Shared) (Q:VK) (u:Value) (s':Shared):Prop:=
 ∃ v H',s'.os=s.os/\AllBare s'.gens/\Un (mi outer) [] H H' s.heap s'.heap/\fg P w H' s'.heap/\RelV v u/\Q v H'
def CR (CX:w_) (outer:List Env) (P:Program) (w:World) (H:Hp) (s:Shared) (Q:VK) (E:XK) (r:Result) (s':Shared):Prop:=
 match r with
 | .ok (.ret u)=>CE outer P w H s Q u s'
 | .ok _=>False
 | .error e=>CX outer H s E e s'
structure mz (P:Program) (w:World) (K:Q1) (mg:Str->Option Value) (base:Heap) (CX:w_) (k:Nat) (f:Addr) (fd:FuncData) (ps:List Str) (sp:Sp):Prop where
 len:∀ vs H Q E,sp vs H Q E->vs.length=ps.length
 run:∀ (A:Around) (outer:List Env) (s:Shared) (H:Hp) (args:Args) (us:List Value) (vs:List V) (Q:VK) (E:XK),di k A->BS P w K mg base A outer s H->BindsTo s fd args (ps.zip us)->az vs us->sp vs H Q E->
  codeAny (model P w) A (.call (.ref f) args) (CR CX outer P w H s Q E) s
theorem mz.imp {K:Q1} {CX:w_} {k:Nat} {f:Addr} {sp Ep:Sp} (F:mz P w K mg base CX k f fd ps sp)
  (h:∀ vs H Q E,Ep vs H Q E->sp vs H Q E):mz P w K mg base CX k f fd ps Ep:=
 ⟨fun vs H Q E q=>F.len vs H Q E (h _ _ _ _ q),fun A outer s H args us vs Q E hr he hb hv hs=>F.run A outer s H args us vs Q E hr he hb hv (h _ _ _ _ hs)⟩
theorem BS.make {K:Q1} {outer:List Env} (e:BS P w K mg base A outer s H) (C:Addr) (us:List Value) (kw:List (Str×Value)):
  BS P w K mg base (A.under (.builtin "type.__call__" ⟨.ref C::us,kw⟩)) outer s H:=⟨by first | exact e.frames | (simpa [Around.under,Code.envs,Code.isFrame,pushEnvs] using e.frames),e.mod,e.bs,e.Aa,e.vd,e.BF,e.hok,e.bare⟩
section
variable {s':Shared}
theorem Inv.LX (I:Inv X pins σ H s):BS X.prog X.w X.K X.mg X.base X.A X.stack s H:=
 ⟨I.ok.frames,I.ok.mod,I.bs,Nat.le_trans I.ok.Aa I.sz,I.stack,I.Ly,I.hok,I.bare⟩
theorem Inv.after {Q:VK} (I:Inv X pins σ H s) (h:CE X.stack X.prog X.w H s Q u s'):EP X pins σ Q u s':=by
 obtain ⟨v,H',os,bare,un,hok,r,q⟩:=h
 obtain ⟨hh,g,d,t,Sy⟩:=s'
 obtain rfl:Sy=s.os:=os
 exact ⟨v,H',I.call (h':=hh) (g':=g) (d':=d) (t':=t) (ch:=[]) un hok bare (fun b z=>absurd z (by simp)),r,q⟩
end
def Er (sp:Sp) (jd:List V) (E:XK) (t:TA):TE:=fun σ H Q=>t σ H fun vs H1=>sp (vs++jd) H1 Q E
def Es (C:Addr) (m:Str) (sp:Sp) (jd:List V) (E:XK) (ta:TE) (t:TA):TE:=fun σ H Q=>ta σ H fun x H1=>∃ a dx fs,x=.ref a/\H1 a=some (.ins C dx fs)/\fs.lookup m=none/\
 t σ H1 fun vs H2=>sp (x::(vs++jd)) H2 Q E
def Ge (C:Addr) (sp:Sp) (jd:List V) (E:XK) (t:TA):TE:=fun σ H Q=>t σ H fun vs H1=>∀ x dx,H1 x=none->H1 dx=none->dx≠x->
 sp (.ref x::(vs++jd)) (upd (upd H1 dx (.own x)) x (.ins C dx [])) (fun v H2=>v=.ai/\Q (.ref x) H2) E
def Binds (K:Q1) (fd:FuncData) (ps:List Str) (ds:List Value):Prop:=
 ∀ (s:Shared) (us:List Value),K.In s.heap->(us++ds).length=ps.length->BindsTo s fd ⟨us,[]⟩ (ps.zip (us++ds))
theorem Binds.all {K:Q1} (h:∀ us:List Value,us.length=ps.length->bindArgs fd ⟨us,[]⟩=pure (ps.zip us)):Binds K fd ps []:=fun s us _ hl=>by
 rw [QS] at hl ⊢
 exact .of_eq (h us hl)
def AO (CX:w_) (X:Cx) (E:XK):Prop:=∀ (pins:List (Addr×Obj)) (σ:St) (H:Hp) (s:Shared) (e:Value) (s':Shared),Inv X pins σ H s->CX X.stack H s E e s'->X.xe e s'
section
variable {CX:w_} {k:Nat} {f:Addr} {sp:Sp} {jd:List V} {ds:List Value} {E:XK} {m:Str} {p pos:Pos} {o:Expr} {t:TA}
theorem tG {Q:VK} {vs:List V} (F:mz X.prog X.w X.K X.mg X.base CX k f fd ps sp) (hr:di k X.A) (hb:Binds X.K fd ps ds) (hd:az jd ds) (hx:AO CX X E)
  (I:Inv X pins σ H s) (r:az vs us) (h:sp (vs++jd) H Q E):wpAny (model X.prog X.w) X.A (call (.ref f) us) (EP X pins σ Q) X.xe s:=by
 have r2:az (vs++jd) (us++ds):=r.append hd
 have hl:(us++ds).length=ps.length:=by rw [<- r2.length];exact F.len _ _ _ _ h
 refine wpAny_call (codeAny_mono (F.run X.A X.stack s H ⟨us,[]⟩ (us++ds) (vs++jd) Q E hr I.LX (hb s us I.gy hl) r2 h) fun r s' hq=>?_)
 cases r with
 | error e=>exact hx pins σ H s e s' I hq
 | ok fl=>
  cases fl with
  | ret u=>exact I.after hq
  | next=>exact False.elim hq
  | brk=>exact False.elim hq
  | cont=>exact False.elim hq
theorem Sz (F:mz X.prog X.w X.K X.mg X.base CX k f fd ps sp) (hr:di k X.A) (hg:Gl X x) (hm:X.mg x=some (.ref f)) (hk:PySem.W.keepIn X.K (.ref f)=true) (hb:Binds X.K fd ps ds) (hd:az jd ds) (hx:AO CX X E)
  (ha:PA X (e::es) t) (jr:(x==("__debug__":Str))=false:=by decide) (he:starEach (e::es) X.env=(false,eval e X.env)::starEach es X.env:=by rfl) (gf:(backTo pos (starEach es X.env)).any (·.1)=false:=by rfl):
  PE X (.Call (.Name x p) (e::es) [] pos) (Er sp jd E t):=by
 intro pins s σ H Q I h
 refine wpAny_Call_Name_kw (kU I hg hm ?_ jr)
 refine PySem.W.callWith_K (h₀:=X.base) I.ok.mod.z_ hk (ao (ha pos pins s σ H _ I h) fun us s1 ⟨vs,H1,I1,r,q⟩=>⟨I1.gy,?_⟩) he gf
 exact tG F hr hb hd hx I1 r q
theorem SD (he:PE X o ta) (c:qx X.K C) (hm:En X.K C m f) (F:mz X.prog X.w X.K X.mg X.base CX k f fd ps sp) (hr:di k X.A) (hb:Binds X.K fd ps ds) (hd:az jd ds) (hx:AO CX X E) (ha:PA X (e::es) t)
  (wx:starEach (e::es) X.env=(false,eval e X.env)::starEach es X.env:=by rfl) (gf:(backTo pos (starEach es X.env)).any (·.1)=false:=by rfl)
  (ht:eval (.Call (.Attribute o m apos) (e::es) [] pos) X.env=(do
   let ov <- eval o X.env
   standAt apos.atName
   let (f,first) <- holding [ov] (getMethod ov m pl)
   callWith pos f first (backTo pos (starEach (e::es) X.env)) (backToKw pos (keywordEach [] X.env))):=by rfl):
  PE X (.Call (.Attribute o m apos) (e::es) [] pos) (Es C m sp jd E ta t):=by
 intro pins s σ H Q I h
 refine PySem.W.methodCall_KW (pl:=pl) (ao (he pins s σ H _ I h) fun u s1 ⟨x,H1,I1,rx,a,dx,fs,ex,ea,l,q⟩=>?_) ht
 subst ex
 obtain rfl:u=Value.ref a:=rx
 refine lH I1 ea c hm l ?_
 refine PySem.W.callWith_K (first:=[.ref a]) (h₀:=X.base) I.ok.mod.z_ hm.kp (ao (ha pos pins s1 σ H1 _ I1 q) fun us s2 ⟨vs,H2,I2,r,q2⟩=>⟨I2.gy,?_⟩) wx gf
 exact tG (us:=.ref a::us) (vs:=.ref a::vs) F hr hb hd hx I2 (.cons rfl r) q2
theorem xK (he:PE X o ta) (c:qx X.K C) (hm:En X.K C m f) (F:mz X.prog X.w X.K X.mg X.base CX k f fd ps sp) (hr:di k X.A) (hb:Binds X.K fd ps ds) (hd:az jd ds) (hx:AO CX X E)
  (ht:eval (.Call (.Attribute o m apos) [] [] pos) X.env=(do
   let ov <- eval o X.env
   standAt apos.atName
   let (f,first) <- holding [ov] (getMethod ov m pl)
   callWith pos f first (backTo pos (starEach [] X.env)) (backToKw pos (keywordEach [] X.env))):=by rfl):
  PE X (.Call (.Attribute o m apos) [] [] pos) (Es C m sp jd E ta mw):=by
 intro pins s σ H Q I h
 refine PySem.W.methodCall_KW (pl:=pl) (ao (he pins s σ H _ I h) fun u s1 ⟨x,H1,I1,rx,a,dx,fs,ex,ea,l,q⟩=>?_) ht
 subst ex
 obtain rfl:u=Value.ref a:=rx
 refine lH I1 ea c hm l ?_
 exact PySem.W.callWith_K0 (first:=[.ref a]) I1.gy hm.kp (tG (us:=[.ref a]) (vs:=[.ref a]) F hr hb hd hx I1 (.cons rfl .nil) q)
structure Mk (K:Q1) (C f:Addr):Prop where
 makes:PySem.W.makesIn K C=true
 init:PySem.W.findIn K (.ref C) "__init__"=some (some (.ref f))
 fn:PySem.W.isFn K (.ref f)=true
 kp:PySem.W.keepIn K (.ref C)=true
theorem oX {Q:VK} {vs:List V} (M:Mk X.K C f) (F:mz X.prog X.w X.K X.mg X.base CX k f fd ps sp) (hr:di (k+1) X.A) (hb:Binds X.K fd ps ds) (hd:az jd ds)
  (hx:AO CX X E) (I:Inv X pins σ H s) (r:az vs us)
  (h:∀ x dx,H x=none->H dx=none->dx≠x->sp (.ref x::(vs++jd)) (upd (upd H dx (.own x)) x (.ins C dx [])) (fun v H2=>v=.ai/\Q (.ref x) H2) E):
  wpAny (model X.prog X.w) X.A (call (.ref C) us) (EP X pins σ Q) X.xe s:=by
 have hq:=h (s.heap.objs.size+1) s.heap.objs.size (I.hok.fresh (Nat.le_succ _)) (I.hok.fresh (Qz _)) (Nat.ne_of_lt (Nat.lt_succ_self _))
 have I2:=Inv.made (C:=C) I
 have r2:az (V.ref (s.heap.objs.size+1)::(vs++jd)) (Value.ref (s.heap.objs.size+1)::(us++ds)):=.cons rfl (r.append hd)
 have hl:(Value.ref (s.heap.objs.size+1)::us++ds).length=ps.length:=by
  have e:=r2.length
  rw [F.len _ _ _ _ hq] at e
  exact e.symm
 refine wpAny_call (zC (f:=f) I.gy M.makes M.init (beq_iff_eq.mp M.fn) (codeAny_mono (F.run _ X.stack _ _ ⟨Value.ref (s.heap.objs.size+1)::us,[]⟩ (Value.ref (s.heap.objs.size+1)::(us++ds)) _ _ E (hr.make C us [])
  (I2.LX.make C us []) (hb _ (Value.ref (s.heap.objs.size+1)::us) I2.gy hl) r2 hq) fun r s' lq=>?_))
 cases r with
 | error e=>exact hx pins σ _ _ e s' I2 lq
 | ok fl=>
  cases fl with
  | ret u=>
   obtain ⟨v,H',I3,rv,ev,q3⟩:=I2.after lq
   subst ev
   exact ⟨rv,⟨V.ref (s.heap.objs.size+1),H',I3,rfl,q3⟩⟩
  | next=>exact False.elim lq
  | brk=>exact False.elim lq
  | cont=>exact False.elim lq
theorem SH (M:Mk X.K C f) (F:mz X.prog X.w X.K X.mg X.base CX k f fd ps sp) (hr:di (k+1) X.A) (hg:Gl X x) (hm:X.mg x=some (.ref C)) (hb:Binds X.K fd ps ds) (hd:az jd ds) (hx:AO CX X E)
  (ha:PA X (e::es) t) (jr:(x==("__debug__":Str))=false:=by decide) (he:starEach (e::es) X.env=(false,eval e X.env)::starEach es X.env:=by rfl) (gf:(backTo pos (starEach es X.env)).any (·.1)=false:=by rfl):
  PE X (.Call (.Name x p) (e::es) [] pos) (Ge C sp jd E t):=by
 intro pins s σ H Q I h
 refine wpAny_Call_Name_kw (kU I hg hm ?_ jr)
 refine PySem.W.callWith_K (h₀:=X.base) I.ok.mod.z_ M.kp (ao (ha pos pins s σ H _ I h) fun us s1 ⟨vs,H1,I1,r,q⟩=>⟨I1.gy,?_⟩) he gf
 exact oX M F hr hb hd hx I1 r q
theorem zO (M:Mk X.K C f) (F:mz X.prog X.w X.K X.mg X.base CX k f fd ps sp) (hr:di (k+1) X.A) (hg:Gl X x) (hm:X.mg x=some (.ref C)) (hb:Binds X.K fd ps ds) (hd:az jd ds) (hx:AO CX X E)
  (jr:(x==("__debug__":Str))=false:=by decide):PE X (.Call (.Name x p) [] [] pos) (Ge C sp jd E mw):=by
 intro pins s σ H Q I h
 refine wpAny_Call_Name_kw (kU I hg hm ?_ jr)
 exact PySem.W.callWith_K0 I.gy M.kp (oX (us:=[]) M F hr hb hd hx I .nil h)
end
section
variable {CX:w_} {k:Nat} {f:Addr} {ks:List Str} {sp:Sp} {E:XK} {m:Str} {p pos aaA:Pos} {o:Expr} {kws:List Keyword} {t tk:TA} {nm:Option Str}
variable {g:List Value->List Value->List Value} {gV:List V->List V->List V}
end
structure ee (N P:List Str) (sc:Scope):Prop where
 kind:sc.kind=.function
 co:sc.isCoroutine=false
 gen:sc.isGenerator=false
 nd:N.Nodup
 pre:N.take P.length=P
 LY:∀ x∈P,sc.names.lookup x=some .local\/sc.names.lookup x=some .cell
 SJ:∀ y∈sc.names,y.2≠.free
theorem mO {kindOf:Str->Option NameKind} {x:Str}:∀ {binds:List (Str×Value)} {m:Str->Option Value},(∀ v,(x,v) ∉ binds)->bindL kindOf binds m x=m x
 | [],_,_=>rfl
 | (n,v)::r,m,h=>by
  unfold bindL
  rw [mO fun w hw=>h w (Qh _ hw)]
  split
  ·have:x≠n:=by rintro rfl;exact h v List.mem_cons_self
   simp [this]
  ·rfl
theorem mK {kindOf:Str->Option NameKind} {x:Str}:∀ {binds:List (Str×Value)} {m:Str->Option Value},(∀ v,(x,v) ∉ binds)->bindC kindOf binds m x=m x
 | [],_,_=>rfl
 | (n,v)::r,m,h=>by
  unfold bindC
  rw [mK fun w hw=>h w (Qh _ hw)]
  split
  ·rfl
  ·have:x≠n:=by rintro rfl;exact h v List.mem_cons_self
   simp [this]
theorem mY {kindOf:Str->Option NameKind} {x:Str} {v:Value}:∀ {P:List Str} {vs:List Value} {i:Nat} {m:Str->Option Value},P.Nodup->P[i]? =some x->vs[i]? =some v->kindOf x=some .local->
  bindL kindOf (P.zip vs) m x=some v
 | [],_,_,_,_,h,_,_=>by simp at h
 | _::_,[],_,_,_,_,h,_=>by simp at h
 | p::P,w::vs,0,m,nd,h1,h2,hk=>by
  simp at h1 h2;subst h1;subst h2
  show bindL kindOf ((p,w)::P.zip vs) m p=_
  unfold bindL
  rw [mO fun v hv=>(List.nodup_cons.mp nd).1 (List.of_mem_zip hv).1,if_pos hk]
  simp
 | p::P,w::vs,i+1,m,nd,h1,h2,hk=>by
  show bindL kindOf ((p,w)::P.zip vs) m x=_
  unfold bindL
  exact mY (i:=i) (List.nodup_cons.mp nd).2 (by simpa using h1) (by simpa using h2) hk
theorem nA {kindOf:Str->Option NameKind} {x:Str} {v:Value}:∀ {P:List Str} {vs:List Value} {i:Nat} {m:Str->Option Value},P.Nodup->P[i]? =some x->vs[i]? =some v->kindOf x≠some .local->
  bindC kindOf (P.zip vs) m x=some v
 | [],_,_,_,_,h,_,_=>by simp at h
 | _::_,[],_,_,_,_,h,_=>by simp at h
 | p::P,w::vs,0,m,nd,h1,h2,hk=>by
  simp at h1 h2;subst h1;subst h2
  show bindC kindOf ((p,w)::P.zip vs) m p=_
  unfold bindC
  rw [mK fun v hv=>(List.nodup_cons.mp nd).1 (List.of_mem_zip hv).1,if_neg hk]
  simp
 | p::P,w::vs,i+1,m,nd,h1,h2,hk=>by
  show bindC kindOf ((p,w)::P.zip vs) m x=_
  unfold bindC
  exact nA (i:=i) (List.nodup_cons.mp nd).2 (by simpa using h1) (by simpa using h2) hk
def start (N:List Str) (vs:List V):St:=vs.map some++List.replicate (N.length - vs.length) none
def yu (CX:w_) (P:Program) (w:World) (K:Q1) (mg:Str->Option Value) (base:Heap) (N:List Str) (qual:Str) (scope:Scope) (f:Addr) (cd:Value) (A:Around) (outer:List Env) (s:Shared) (H:Hp) (E:XK):Cx where
 prog:=P
 w:=w
 K:=K
 mg:=mg
 base:=base
 A:=A.deeper (envOfC qual scope s.heap.objs.size f cd)
 N:=N
 s₀:=s
 H₀:=H
 env:=envOfC qual scope s.heap.objs.size f cd
 outer:=outer
 stack:=envOfC qual scope s.heap.objs.size f cd::outer
 ex:=[]
 calm:=true
 fn:=fun _=>true
 pn:=[]
 xe:=fun e s'=>wpAny (model P w) (A.deeper (envOfC qual scope s.heap.objs.size f cd)) (leaving (envOfC qual scope s.heap.objs.size f cd) e) (fun _ s''=>CX outer H s E e s'') (fun e' s''=>CX outer H s E e' s'') s'
theorem pG (h:sc.names.lookup x=some .cell):∃ c,(cellsFrom n sc.names []).lookup x=some c:=by
 have q:=PySem.W.cellsFrom_some sc.names n [] (.inl h)
 exact Option.isSome_iff_exists.mp q
theorem vJ {CX:w_} {K:Q1} {qual:Str} {scope:Scope} {f:Addr} {cd:Value} {outer:List Env} {s1:Shared} {E:XK} {vs:List V}
  (S:ee N ps scope) (hd:A.handled=none) (e0:BS P w K mg base A outer s H) (hl:vs.length=ps.length) (r:az vs us)
  (x:InCallC s s.heap.objs.size (bindL (envOfC qual scope s.heap.objs.size f cd).kindOf (ps.zip us) fun _=>none) (cellsFrom (s.heap.objs.size+1) scope.names []) (bindC (envOfC qual scope s.heap.objs.size f cd).kindOf (ps.zip us) fun _=>none) s1):
  Inv (yu CX P w K mg base N qual scope f cd A outer s H E) [] (start N vs) H s1:=by
 have gf:ps.length<=N.length:=by have:=congrArg List.length S.pre;rw [List.length_take] at this;omega
 obtain ⟨h1,tk,rfl,hk⟩:=x.done
 have Et:∀ b:Addr,b ∉ (yu CX P w K mg base N qual scope f cd A outer s H E).ex:=fun b z=>absurd (show b∈([]:List Addr) from z) (by simp)
 refine ⟨⟨e0.mod,S.kind,rfl,rfl,Qz _,fun y z c h1 h2=>?_,fun y hy=>?_,fun y c _ h=>?_,fun _=>hd,Around.frames_deeper e0.frames,.inr ⟨rfl,rfl⟩,fun b z=>absurd z (Et b),e0.bs,e0.Aa,fun b _ _=>Et b,fun b z=>absurd z (Et b),e0.vd,e0.BF⟩,
  rfl,e0.bare,Un.kept hk,⟨_,x.toInCall.ns,fun i y v h1 h2 h3=>?_⟩,fun y c h=>⟨_,x.cell y c h⟩,e0.hok.fresh (Qz _),fun y c h=>?_,fun p hp=>absurd (show p∈([]:List (Addr×Obj)) from hp) (by simp),e0.hok.kept hk,?_⟩
 ·exact name_of_addr x.apart (PySem.mem_of_lookup h1) (PySem.mem_of_lookup h2)
 ·have hy:scope.names.lookup y=some .cell\/scope.names.lookup y=some .free:=hy
  rcases hy with hy | hy
  ·exact pG hy
  ·exact absurd rfl (S.SJ _ (PySem.mem_of_lookup hy))
 ·exact Nat.le_of_lt (x.above y c (PySem.mem_of_lookup h))
 ·have hi:i < vs.length:=by
   unfold start at h2
   by_cases hi:i < vs.length
   ·exact hi
   ·rw [List.getElem?_append_right (by simpa using hi)] at h2
    rw [List.getElem?_replicate] at h2
    split at h2<;>cases h2
  have ha:vs[i]? =some v:=by
   unfold start at h2
   rw [Qg (by simpa using hi),Qq] at h2
   cases e:vs[i]? with
   | none=>rw [e] at h2;cases h2
   | some a=>rw [e] at h2;cases h2;rfl
  obtain ⟨u,hu,rv⟩:=r.get ha
  have hp:ps[i]? =some y:=by
   rw [<- S.pre,List.getElem?_take_of_lt (by omega)];exact h1
  have LZ:ps.Nodup:=by rw [<- S.pre];exact S.nd.sublist (List.take_sublist _ _)
  refine ⟨u,rv,?_⟩
  rcases S.LY y (QD hp) with k | k
  ·exact .inl ⟨k,mY LZ hp hu k⟩
  ·obtain ⟨c,e⟩:=pG (n:=s.heap.objs.size+1) k
   refine .inr ⟨.inl k,c,e,?_⟩
   have q:=x.cell y c e
   rw [nA LZ hp hu (by show scope.names.lookup y≠_;rw [k];decide)] at q
   exact q
 ·exact e0.hok.fresh (Nat.le_of_lt (x.above y c (PySem.mem_of_lookup h)))
 ·unfold start
  show _=N.length
  rw [Qk,Ql,List.length_replicate]
  omega
theorem SK {CX:w_} {K:Q1} {k:Nat} {f:Addr} {qual:Str} {params:Arguments} {scope:Scope} {dV kV doc pm ay ct oc:Value} {an od:Option Addr}
  {qy:Array (Option Value)} {N ps:List Str} {sp:Sp} (lk:K.lookup f=some ⟨oc,od,.func (PySem.W.fnOf name qual params body scope dV kV doc pm an ay ct),qy⟩) (qm:PySem.W.codeIn K ay qual=true) (S:ee N ps scope)
  (len:∀ vs H Q E,sp vs H Q E->vs.length=ps.length)
  (xf:∀ (A:Around) (outer:List Env) (s:Shared) (H:Hp) (vs:List V) (Q:VK) (E:XK),di k (A.deeper (envOfC qual scope s.heap.objs.size f ay))->sp vs H Q E->
   ∃ t,qj (yu CX P w K mg base N qual scope f ay A outer s H E) body t/\t {nx:=fun _ H'=>Q .ai H',rt:=Q} (start N vs) H):
  mz P w K mg base CX (k+1) f (PySem.W.fnOf name qual params body scope dV kV doc pm an ay ct) ps sp:=by
 refine ⟨len,fun A outer s H args us vs Q E hr e0 hb r AQ=>?_⟩
 have hl:=len _ _ _ _ AQ
 have KX:K.In s.heap:=e0.mod.z_.keeps fun b o e=>(e0.bs b o e).1
 have lim:s.heap.NoLimit:=e0.mod.nolimit.keeps fun b o e=>(e0.bs b o e).1
 have SM:∀ y∈ps.zip us,scope.names.lookup y.1=some .local\/(scope.names.lookup y.1=some .cell/\((cellsFrom (s.heap.objs.size+1) scope.names []).lookup y.1).isSome=true):=fun ⟨n,v⟩ hy=>by
  rcases S.LY n (List.of_mem_zip hy).1 with q | q
  ·exact .inl q
  ·exact .inr ⟨q,PySem.W.cellsFrom_some _ _ _ (.inl q)⟩
 refine codeAny_call_function hr.depth (KX _ _ lk) rfl S.co S.gen rfl (PySem.W.codeRec_of KX qm) (hb _ _ _ _ ?_)
 refine wpAny_newFunctionEnv_cells S.kind SM fun env he s1 x=>?_
 subst he
 refine ⟨lim.keeps x.toInCall.keep,codeAny_func ?_⟩
 obtain ⟨t,ht,hq⟩:=xf A outer s H vs Q E (hr.deeper _) AQ
 have I:Inv (yu CX P w K mg base N qual scope f ay A outer s H E) [] (start N vs) H s1:=vJ S hr.hd e0 hl r x
 refine wpAny_mono (ht [] s1 (start N vs) H _ I hq) (fun fl s' hs=>?_) fun e s' hs=>hs
 have fin:∀ {σ':St} {H':Hp} {v:V} {u:Value},Inv (yu CX P w K mg base N qual scope f ay A outer s H E) [] σ' H' s'->RelV v u->Q v H'->CE outer P w H s Q u s':=
  fun {σ' H' v u} J rv q=>⟨v,H',J.os,J.bare,J.base,J.hok,rv,q⟩
 cases fl with
 | ret u=>
  obtain ⟨v,σ',H',J,rv,q⟩:=hs
  exact fin J rv q
 | next=>
  obtain ⟨σ',H',J,q⟩:=hs
  exact fin (v:=V.ai) (u:=Value.none) J rfl q
 | brk=>
  obtain ⟨_,_,_,q⟩:=hs
  exact False.elim q
 | cont=>
  obtain ⟨_,_,_,q⟩:=hs
  exact False.elim q
section
variable {p pos:Pos} {t:TA} {id:String} {r:List V->Hp->VK->Prop}
def BU (r:List V->Hp->VK->Prop) (t:TA):TE:=fun σ H Q=>t σ H fun vs H1=>r vs H1 Q
theorem zP (hc:qw X (.builtin id) r) (hg:Gl X x) (hm:X.mg x=none) (hv:bootBuiltins x=some (.builtin id)) (ha:PA X (e::es) t) (hn:x≠"__name__":=by decide) (jr:(x==("__debug__":Str))=false:=by decide)
  (he:starEach (e::es) X.env=(false,eval e X.env)::starEach es X.env:=by rfl) (gf:(backTo pos (starEach es X.env)).any (·.1)=false:=by rfl):PE X (.Call (.Name x p) (e::es) [] pos) (BU r t):=by
 intro pins s σ H Q I h
 refine wpAny_Call_Name_kw (jG I hg hm hv ?_ hn jr)
 exact PyProof.Rows.callWith_builtin1 (ao (ha pos pins s σ H _ I h) fun us s1 ⟨vs,H1,I1,r1,q1⟩=>hc pins s1 σ H1 vs us Q I1 r1 q1) he gf
theorem uI (hc:qw X (.type T) r) (hg:Gl X x) (hm:X.mg x=none) (hv:bootBuiltins x=some (.type T)) (ha:PA X (e::es) t) (hn:x≠"__name__":=by decide) (jr:(x==("__debug__":Str))=false:=by decide)
  (he:starEach (e::es) X.env=(false,eval e X.env)::starEach es X.env:=by rfl) (gf:(backTo pos (starEach es X.env)).any (·.1)=false:=by rfl):PE X (.Call (.Name x p) (e::es) [] pos) (BU r t):=by
 intro pins s σ H Q I h
 refine wpAny_Call_Name_kw (jG I hg hm hv ?_ hn jr)
 exact PyProof.Rows.callWith_type1 (ao (ha pos pins s σ H _ I h) fun us s1 ⟨vs,H1,I1,r1,q1⟩=>hc pins s1 σ H1 vs us Q I1 r1 q1) he gf
end
end L2
namespace HT
open PySem PyProof.Rows
section
open PySem.SeqAt
open PySem.AutoSeq1 (wpAny_loadPart')
open PySem.MeetsSeq PySem.MeetsSeq2 PySem.MeetsSeq3
end
theorem SN {t:Addr} {vs ws:List Value} (ht:IsTup s.heap t vs.toArray) (hb:IsTup s.heap b ws.toArray) (hv:vs≠[])
  (h1:ws=[]->Q (.ref t) s) (h2:ws≠[]->Q (.ref s.heap.objs.size) {s with heap:=s.heap.push {cls:=.type "tuple",data:=.seq (vs++ws).toArray}})
  (hsz:vs.length+ws.length<=sizeLine):wpAny (model prog w) A (binaryOp .Add (.ref t) (.ref b)) Q E s:=by
 obtain ⟨⟨cls,dd,data,sl⟩,ho,hc,n,hd⟩:=id ht
 obtain ⟨⟨L0,AR,data2,AS⟩,yw,lu,n2,hd2⟩:=id hb
 simp only at hc hd lu hd2
 subst hc hd lu hd2
 have e:vs.toArray++ws.toArray=(vs++ws).toArray:=by simp
 by_cases hw:ws=[]
 ·exact concat_meets ⟨_,ho,rfl⟩ ⟨_,yw,rfl⟩ noFill_tuple_add seq_tuple_add PySem.F.slot_tuple_add PySem.F.entry_tuple_add (PySem.F.args_tuple_add_2 _ _)
   (tuple_addW1 t b vs.toArray ws.toArray n n2 dd AR sl AS (by simpa using hv) (by simp [hw])) ⟨ho,yw,h1 hw⟩
 ·refine concat_meets ⟨_,ho,rfl⟩ ⟨_,yw,rfl⟩ noFill_tuple_add seq_tuple_add PySem.F.slot_tuple_add PySem.F.entry_tuple_add (PySem.F.args_tuple_add_2 _ _)
   (tuple_addW2 t b vs.toArray ws.toArray n n2 dd AR sl AS (by simpa using hv) (by simpa using hw) (by rw [List.size_toArray,List.size_toArray];exact hsz)) ⟨ho,yw,?_⟩
  rw [e]
  exact h2 hw
def bu (n d:Nat):Option Int->Nat
 | none=>d
 | some v=>if v < 0 then (v+(n:Int)).toNat else min v.toNat n
theorem qG (n d:Nat):bu n d none=d:=rfl
theorem oM (n d k:Nat):bu n d (some (k:Int))=min k n:=by
 show (if (k:Int) < 0 then ((k:Int)+(n:Int)).toNat else min (k:Int).toNat n)=min k n
 rw [if_neg (by omega),Int.toNat_natCast]
theorem SQ (n d:Nat) (hd:d<=n) (o:Option Int):bu n d o<=n:=by
 cases o with
 | none=>exact hd
 | some v=>
  show (if v < 0 then (v+(n:Int)).toNat else min v.toNat n)<=n
  by_cases hv:v < 0
  ·rw [if_pos hv];omega
  ·rw [if_neg hv];exact Nat.min_le_right _ _
theorem tW (v:Int) (n d:Nat):(if v < 0 then max (v+(n:Int)) 0 else min v (n:Int))=((bu n d (some v):Nat):Int):=by
 show (if v < 0 then max (v+(n:Int)) 0 else min v (n:Int))=(((if v < 0 then (v+(n:Int)).toNat else min v.toNat n):Nat):Int)
 by_cases hv:v < 0
 ·simp only [if_pos hv];omega
 ·simp only [if_neg hv];omega
theorem rQ (lo hi:Option Int) (n:Nat):Builtin.Slice.sliceAdjust lo hi 1 (n:Int)=(((bu n 0 lo:Nat):Int),((bu n n hi:Nat):Int)):=by
 have h1:¬((1:Int) < 0):=by omega
 unfold Builtin.Slice.sliceAdjust
 simp only [h1,if_false]
 refine Prod.ext ?_ ?_
 ·cases lo with
  | none=>rfl
  | some v=>exact tW v n 0
 ·cases hi with
  | none=>rfl
  | some v=>exact tW v n n
theorem tF (i j:Nat):Builtin.Slice.slicePlaces (i:Int) (j:Int) 1=j - i:=by
 unfold Builtin.Slice.slicePlaces
 have h1:(1:Int) > 0:=by omega
 simp only [h1,if_true,Int.ediv_one]
 split<;>omega
theorem lT {v:Value} {o:Option Int} {Q:Option Int->Shared->Prop} (p:IsPart v o) (h:Q o s):wpAny (model prog w) A (Builtin.Slice.slicePartIndex v) Q E s:=by
 cases p with
 | none=>exact slicePart_none h
 | int i t=>exact slicePart_int h
theorem j8 {sl:Addr} {vl vu:Value} {lo hi:Option Int} {Q:Int×Int×Nat->Shared->Prop} (hs:s.heap.IsSliceOf sl vl vu .none) (pl:IsPart vl lo) (pu:IsPart vu hi)
  (h:Q (((bu n 0 lo:Nat):Int),1,bu n n hi - bu n 0 lo) s):wpAny (model prog w) A (Builtin.Slice.sliceApplied (.ref sl) (pure (n:Int))) Q E s:=by
 obtain ⟨os,BV,L1,hds⟩:=id hs
 unfold Builtin.Slice.sliceApplied Builtin.Slice.sliceFields
 refine QU (QU (wpAny_field BV hds (x:=vl) rfl (QU (wpAny_field BV hds (x:=vu) rfl (QU (wpAny_field BV hds (x:=.none) rfl (QV ?_)))))))
 refine QU (slicePart_none ?_)
 show wpAny _ _ (if ((1:Int)==0)=true then _ else _) _ _ s
 rw [if_neg (by decide)]
 refine QU (lT pl (QU (lT pu (QU (QV ?_)))))
 show wpAny _ _ (match Builtin.Slice.sliceAdjust lo hi 1 (n:Int) with | (lo,hi)=>pure (lo,(1:Int),Builtin.Slice.slicePlaces lo hi 1)) _ _ s
 rw [rQ lo hi n]
 show wpAny _ _ (pure (((bu n 0 lo:Nat):Int),(1:Int),Builtin.Slice.slicePlaces ((bu n 0 lo:Nat):Int) ((bu n n hi:Nat):Int) 1)) _ _ s
 rw [tF]
 exact QV h
theorem yK (xs:Array Value) (i k:Nat):((List.range k).filterMap fun (m:Nat)=>xs[((i:Int)+(m:Int)*1).toNat]?).toArray=((xs.toList.drop i).take k).toArray:=by
 have e:(fun (m:Nat)=>xs[((i:Int)+(m:Int)*1).toNat]?)=fun m=>xs[i+m]?:=by
  funext m
  have:((i:Int)+(m:Int)*1).toNat=i+m:=by omega
  rw [this]
 rw [e]
 have:=pick_run xs i k
 rw [List.filterMap_map] at this
 have e2:((fun x=>xs[x]?)∘fun x=>i+x)=fun m=>xs[i+m]?:=rfl
 rw [e2] at this
 rw [this]
theorem iW {t sl:Addr} {items:Array Value} {vl vu:Value} {lo hi:Option Int} (ht:IsTup s.heap t items) (hs:s.heap.IsSliceOf sl vl vu .none) (pl:IsPart vl lo) (pu:IsPart vu hi)
  (hw:¬(bu items.size 0 lo=0/\bu items.size items.size hi=items.size))
  (h:Q (.ref s.heap.objs.size) {s with heap:=s.heap.push {cls:=.type "tuple",data:=.seq ((items.toList.drop (bu items.size 0 lo)).take (bu items.size items.size hi - bu items.size 0 lo)).toArray}})
  (hsz:items.size<=sizeLine):wpAny (model prog w) A (getItem (.ref t) (.ref sl)) Q E s:=by
 have Gf:sizeOk (.seq ((items.toList.drop (bu items.size 0 lo)).take (bu items.size items.size hi - bu items.size 0 lo)).toArray):=by
  show ((items.toList.drop (bu items.size 0 lo)).take (bu items.size items.size hi - bu items.size 0 lo)).toArray.size<=sizeLine
  rw [List.size_toArray,List.length_take,List.length_drop,Array.length_toList]
  omega
 have hj:bu items.size items.size hi<=items.size:=SQ _ _ (Qz _) hi
 obtain ⟨os,BV,L1,hds⟩:=id hs
 have SR:s.TypeIs (.ref sl) "slice":=⟨os,BV,L1⟩
 unfold getItem
 try with_reducible refine wpAny_holding ?_
 first | refine QU (QV ?_) | skip
 refine QU (wpAny_sequenceKey ht.typeIs (by decide) ?_)
 refine QU (wpAny_callSpecial?_slot (name:=Str.ofString "__getitem__") ht.typeIs PyProof.Rows.slot_tuple_getitem
  (wpAny_call_entry PyProof.Rows.slot_tuple_getitem ht.typeIs entry_tuple_getitem ?_ (args_tuple_getitem _ _)))
 show wpAny _ _ (Builtin.Tuple.tupleItemsOf (.ref t) >>=_) _ _ s
 refine QU (tupleItemsOf_ ht ?_)
 refine QU (wpAny_typeOf SR ?_)
 rw [if_pos (by decide)]
 refine QU (j8 hs pl pu ?_)
 have xg:¬((((bu items.size 0 lo:Nat):Int)==0&&(1:Int)==1&&(bu items.size items.size hi - bu items.size 0 lo)==items.size)=true):=by
  intro q
  rw [Bool.and_eq_true,Bool.and_eq_true] at q
  have q1:((bu items.size 0 lo:Nat):Int)=0:=eq_of_beq q.1.1
  have q2:bu items.size items.size hi - bu items.size 0 lo=items.size:=eq_of_beq q.2
  exact hw ⟨by omega,by omega⟩
 show wpAny _ _ (if (((bu items.size 0 lo:Nat):Int)==0&&(1:Int)==1&&(bu items.size items.size hi - bu items.size 0 lo)==items.size)=true then _ else _) _ _ s
 rw [if_neg xg,yK]
 first
  | exact QU (m:=Builtin.Tuple.tupleExact _) (wpAny_newObj_type (QV ⟨_,rfl,QV h⟩) Gf)
  | exact QU (m:=Builtin.Tuple.tupleExact _) (wpAny_newObj_type (QU (QV (QV ⟨_,rfl,QV h⟩))) Gf)
  | exact QU (QU (m:=Builtin.Tuple.tupleExact _) (wpAny_newObj_type (QV (QV ⟨_,rfl,QV h⟩)) Gf))
  | exact QU (QU (m:=Builtin.Tuple.tupleExact _) (wpAny_newObj_type (QV ⟨_,rfl,QV h⟩) Gf))
end HT
namespace L2
open PySem PySem.Spec PyProof.Rows
abbrev TO:=St->Hp->(Option Int->Hp->Prop)->Prop
def PO (X:Cx) (e:Option Expr) (t:TO):Prop:=
 ∀ (pins:List (Addr×Obj)) (s:Shared) (σ:St) (H:Hp) (Q:Option Int->Hp->Prop),Inv X pins σ H s->t σ H Q->
  wpAny (model X.prog X.w) X.A (evalPart e X.env) (fun u s'=>∃ o H',Inv X pins σ H' s'/\IsPart u o/\Q o H') X.xe s
def C4:TO:=fun _ H Q=>Q none H
def C5 (t:TE):TO:=fun σ H Q=>t σ H fun x H1=>∃ i,x=.int i/\Q (some i) H1
section
variable {lo hi:Option Expr} {tl th:TO} {pos p2:Pos}
theorem SX:PO X none C4:=by
 intro pins s σ H Q I h
 rw [evalPart_none]
 exact QV ⟨none,H,I,.none,h⟩
theorem SY (h:PE X e te):PO X (some e) (C5 te):=by
 intro pins s σ H Q I hw
 rw [evalPart_some]
 refine ao (h pins s σ H _ I hw) ?_
 rintro u s1 ⟨x,H1,I1,r1,q1⟩
 obtain ⟨i,rfl,q⟩:=q1
 obtain ⟨t,rfl⟩:=r1
 exact ⟨some i,H1,I1,.int i t,q⟩
def xh (X:Cx) (r:V->Option Int->Option Int->Hp->VK->Prop):Prop:=
 ∀ (pins:List (Addr×Obj)) (s:Shared) (σ:St) (H:Hp) (x:V) (v vl vu:Value) (lo hi:Option Int) (sl:Addr) (Q:VK),Inv X pins σ H s->RelV x v->s.heap.IsSliceOf sl vl vu .none->IsPart vl lo->IsPart vu hi->r x lo hi H Q->
  ∃ T id,typeLookup (.type T) "__getitem__"=pure (some (.builtin id))/\s.TypeIs v T/\wpAny (model X.prog X.w) X.A (getItem v (.ref sl)) (EP X pins σ Q) X.xe s
theorem xh.or {r r':V->Option Int->Option Int->Hp->VK->Prop} (h:xh X r) (h':xh X r'):xh X (fun x lo hi H Q=>r x lo hi H Q\/r' x lo hi H Q):=by
 intro pins s σ H x v vl vu lo hi sl Q I rx hs pl pu q
 rcases q with q | q
 ·exact h pins s σ H x v vl vu lo hi sl Q I rx hs pl pu q
 ·exact h' pins s σ H x v vl vu lo hi sl Q I rx hs pl pu q
def C6 (r:V->Option Int->Option Int->Hp->VK->Prop) (te:TE) (tl th:TO):TE:=fun σ H Q=>te σ H fun x H1=>tl σ H1 fun l H2=>th σ H2 fun u H3=>r x l u H3 Q
theorem yM {r:V->Option Int->Option Int->Hp->VK->Prop} (hr:xh X r) (he:PE X e te) (hl:PO X lo tl) (hu:PO X hi th):PE X (.Subscript e (.Slice lo hi none p2) pos) (C6 r te tl th):=by
 intro pins s σ H Q I h
 refine Subscript_ (ao (he pins s σ H _ I h) ?_)
 rintro v s1 ⟨x,H1,I1,r1,q1⟩
 refine wpAny_Slice (ao (hl pins s1 σ H1 _ I1 q1) fun vl s2 ⟨l,H2,I2,pl,q2⟩=>ao (hu pins s2 σ H2 _ I2 q2) fun vu s3 ⟨u,H3,I3,pu,q3⟩=>?_)
 rw [evalPart_none]
 refine QV ?_
 have I4:Inv X pins σ H3 {s3 with heap:=s3.heap.push {cls:=.type "slice",data:=.fields #[vl,vu,.none]}}:=I3.kept (t':=s3.toks) fun b ob q=>Qc _ q
 obtain ⟨T,id,hT,ht,hg⟩:=hr pins {s3 with heap:=s3.heap.push {cls:=.type "slice",data:=.fields #[vl,vu,.none]}} σ H3 x v vl vu l u s3.heap.objs.size Q I4 r1 (Heap.IsSliceOf.new ..) pl pu q3
 show wpAny (model X.prog X.w) X.A (subscriptTail e (.Slice lo hi none p2) v (.ref s3.heap.objs.size)) (EP X pins σ Q) X.xe {s3 with heap:=s3.heap.push {cls:=.type "slice",data:=.fields #[vl,vu,.none]}}
 exact tail_any (ops:=[.ref s3.heap.objs.size,v]) ht hT hg (by with_unfolding_all rfl)
def oz (xs:List V) (lo hi:Option Int):List V:=(xs.drop (HT.bu xs.length 0 lo)).take (HT.bu xs.length xs.length hi - HT.bu xs.length 0 lo)
theorem kC (xs:List V) (lo hi:Option Int):(oz xs lo hi).length<=xs.length:=by
 unfold oz
 rw [List.length_take,List.length_drop]
 omega
def AU (K:Q1):V->Option Int->Option Int->Hp->VK->Prop:=fun x lo hi H Q=>∃ a xs,x=.ref a/\aj K H a xs/\
 ¬(HT.bu xs.length 0 lo=0/\HT.bu xs.length xs.length hi=xs.length)/\∀ p,H p=none->Q (.ref p) (upd H p (.tup (oz xs lo hi)))
theorem S0:xh X (AU X.K):=by
 intro pins s σ H x v vl vu lo hi sl Q I rx hs pl pu h
 obtain ⟨a,xs,rfl,hx,hw,q⟩:=h
 cases rx
 obtain ⟨its,r,ht,hz⟩:=I.tuple hx
 have c_:its.toArray.size=xs.length:=by rw [List.size_toArray];exact r.length.symm
 refine ⟨"tuple",_,PyProof.Rows.slot_tuple_getitem.lookup,ht.typeIs,?_⟩
 refine HT.iW ht hs pl pu (by rw [c_];exact hw) ?_ (by rw [c_];exact hz)
 rw [c_]
 refine ⟨.ref s.heap.objs.size,_,I.laid (t':=s.toks) (o:=.tup (oz xs lo hi)) (fun b ob q=>Qc _ q) (Qz _) ?_,rfl,q _ (I.hok.fresh (Qz _))⟩
 exact ⟨⟨Nat.le_trans (kC xs lo hi) hz,BD.new rfl rfl⟩,_,(r.drop (HT.bu xs.length 0 lo)).take (HT.bu xs.length xs.length hi - HT.bu xs.length 0 lo),IsTup.new _ _⟩
def S1 (K:Q1):R2:=fun x y H Q=>∃ a b xs ys,x=.ref a/\y=.ref b/\aj K H a xs/\aj K H b ys/\xs≠[]/\xs.length+ys.length<=sizeLine/\
 (ys=[]->Q (.ref a) H)/\(ys≠[]->∀ p,H p=none->Q (.ref p) (upd H p (.tup (xs++ys))))
theorem az.Gg {xs:List V} (r:az xs us):us=[]↔xs=[]:=by
 cases r with
 | nil=>simp
 | cons _ _=>simp
theorem S2:ck X (binaryOp .Add) (S1 X.K):=by
 intro pins s σ H x y v u Q I rx ry h
 obtain ⟨a,b,xs,ys,rfl,rfl,ha,hb,hx,hz,q1,q2⟩:=h
 cases rx
 cases ry
 obtain ⟨its,r1,p1,_⟩:=I.tuple ha
 obtain ⟨its2,r2,p2,_⟩:=I.tuple hb
 refine HT.SN p1 p2 (fun z=>hx (r1.Gg.mp z)) (fun z=>⟨.ref a,H,I,rfl,q1 (r2.Gg.mp z)⟩) (fun z=>?_) (by rw [<- r1.length,<- r2.length];exact hz)
 refine ⟨.ref s.heap.objs.size,_,I.laid (t':=s.toks) (o:=.tup (xs++ys)) (fun b ob q=>Qc _ q) (Qz _) ?_,rfl,q2 (fun w=>z (r2.Gg.mpr w)) _ (I.hok.fresh (Qz _))⟩
 exact ⟨⟨by rw [Qk];exact hz,BD.new rfl rfl⟩,_,r1.append r2,IsTup.new _ _⟩
end
def Ac (n:Nat) (i:Int):Option Nat:=if 0<=i then (if i < n then some i.toNat else none) else if -(n:Int)<=i then some (i+n).toNat else none
def nc {α:Type} (xs:List α) (i:Int):Option α:=(Ac xs.length i).bind fun j=>xs[j]?
theorem oV {i:Int} (h:Ac n i=some j):seqIndex? i n=some j/\j < n/\ -(n:Int)<=i/\i < n:=by
 unfold Ac at h
 by_cases h0:0<=i
 ·rw [if_pos h0] at h
  by_cases h1:i < n
  ·rw [if_pos h1] at h
   have e:i.toNat=j:=QE h
   exact ⟨by rw [seqIndex_of h0 h1,e],by omega,by omega,h1⟩
  ·rw [if_neg h1] at h;cases h
 ·rw [if_neg h0] at h
  by_cases h1: -(n:Int)<=i
  ·rw [if_pos h1] at h
   have e:(i+n).toNat=j:=QE h
   exact ⟨by rw [seqIndex_neg (by omega) h1,e],by omega,h1,by omega⟩
  ·rw [if_neg h1] at h;cases h
theorem oE {xs:List α} {i:Int} {v:α} (h:nc xs i=some v):∃ j,seqIndex? i xs.length=some j/\xs[j]? =some v/\j < xs.length/\ -(xs.length:Int)<=i/\i < xs.length:=by
 unfold nc at h
 cases e:Ac xs.length i with
 | none=>rw [e] at h;cases h
 | some j=>
  rw [e] at h
  obtain ⟨h1,h2,h3,h4⟩:=oV e
  exact ⟨j,h1,h,h2,h3,h4⟩
theorem gT {xs:List α} {v:α} (h:xs[j]? =some v):nc xs (j:Int)=some v:=by
 have hj:j < xs.length:=(List.getElem?_eq_some_iff.mp h).1
 have e:Ac xs.length (j:Int)=some j:=by
  unfold Ac
  rw [if_pos (by omega),if_pos (by omega)];simp
 unfold nc;rw [e];exact h
def L3 (b:Expr):Prop:=∀ o i,subscripted b false o i=operate [o,i] (getItem o i)
def BX (X:Cx) (r:R2):Prop:=
 ∀ (value slice:Expr) (pins:List (Addr×Obj)) (s:Shared) (σ:St) (H:Hp) (x y:V) (v u:Value) (Q:VK),Inv X pins σ H s->RelV x v->RelV y u->r x y H Q->
  subscripted slice false v u=operate [v,u] (getItem v u)->wpAny (model X.prog X.w) X.A (subscriptTail value slice v u) (EP X pins σ Q) X.xe s
def Ih (X:Cx) (id:String) (r:V->List V->Hp->VK->Prop):Prop:=
 ∀ (pins:List (Addr×Obj)) (s:Shared) (σ:St) (H:Hp) (x:V) (xs:List V) (v:Value) (us:List Value) (Q:VK),Inv X pins σ H s->RelV x v->az xs us->r x xs H Q->
  wpAny (model X.prog X.w) X.A (call (.builtin id) (v::us)) (EP X pins σ Q) X.xe s
section
variable {a b:Expr} {tb:TE} {pos:Pos}
theorem S3 {r:R2} (hr:BX X r) (ha:PE X a ta) (hb:PE X b tb) (hs:L3 b):PE X (.Subscript a b pos) (mq r ta tb):=by
 intro pins s σ H Q I h
 exact Subscript_ (LQ ha hb I h fun v u s2 x y H2 I2 rx ry q=>hr a b pins s2 σ H2 x y v u Q I2 rx ry q (hs _ _))
def S4 (K:Q1):R2:=fun x y H Q=>∃ p xs i v,x=.ref p/\y=.int i/\af K H p xs/\nc xs i=some v/\Q v H
def S5 (K:Q1):R2:=fun x y H Q=>∃ p xs i v,x=.ref p/\y=.int i/\aj K H p xs/\nc xs i=some v/\Q v H
def S6:R2:=fun x y H Q=>∃ z i c,x=.str z/\y=.int i/\z.length<=sizeLine/\nc z.cps.toList i=some c/\Q (.str ⟨#[c]⟩) H
theorem zV:BX X (S4 X.K):=by
 intro value slice pins s σ H x y v u Q I rx ry h hs
 obtain ⟨p,xs,i,z,rfl,rfl,hq,he,q⟩:=h
 cases rx
 obtain ⟨t,rfl⟩:=ry
 obtain ⟨its,r,pl,hz⟩:=I.list hq
 obtain ⟨j,h1,h2,h3,h4,h5⟩:=oE he
 obtain ⟨w,ew,ug⟩:=r.get h2
 have hl:=r.length
 have hn:=C2
 have fin:EP X pins σ Q w s:=⟨z,H,I,ug,q⟩
 by_cases h0:0<=i
 ·have hj:i.toNat=j:=by
   rw [seqIndex_of h0 h5] at h1
   exact QE h1
  exact item_listR pl.isList h0 (by omega) (by rw [hj];simpa using ew) fin hs
 ·have hj:(i+(its.toArray.size:Int)).toNat=j:=by
   rw [seqIndex_neg (by omega) h4] at h1
   rw [List.size_toArray,<- hl]
   exact QE h1
  exact subscriptTail_builtinR (x:=w) pl.isList.typeIs slot_list_getitem.lookup
   (wpAny_getItem_list_neg (Q:=fun r s'=>r=w/\EP X pins σ Q r s') pl.isList (by omega) (by rw [List.size_toArray]<;>omega) (by omega) (by rw [hj];simpa using ew) ⟨rfl,fin⟩) hs
theorem S7:BX X (S5 X.K):=by
 intro value slice pins s σ H x y v u Q I rx ry h hs
 obtain ⟨p,xs,i,z,rfl,rfl,hq,he,q⟩:=h
 cases rx
 obtain ⟨t,rfl⟩:=ry
 obtain ⟨its,r,pl,hz⟩:=I.tuple hq
 obtain ⟨j,h1,h2,h3,h4,h5⟩:=oE he
 obtain ⟨w,ew,ug⟩:=r.get h2
 have hl:=r.length
 have hn:=C2
 have fin:EP X pins σ Q w s:=⟨z,H,I,ug,q⟩
 exact subscriptTail_builtinR (x:=w) pl.typeIs slot_tuple_getitem.lookup
  (getItem_tuple (j:=j) (Q:=fun r s'=>r=w/\EP X pins σ Q r s') pl (by omega) (by omega) (by rw [List.size_toArray,<- hl];exact h1) (by simpa using ew) ⟨rfl,fin⟩) hs
theorem S8:BX X S6:=by
 intro value slice pins s σ H x y v u Q I rx ry h hs
 obtain ⟨z,i,c,rfl,rfl,hz,he,q⟩:=h
 obtain ⟨t,rfl⟩:=rx
 obtain ⟨t',rfl⟩:=ry
 obtain ⟨j,h1,h2,h3,h4,h5⟩:=oE he
 have hl:z.cps.toList.length=z.length:=by simp [Str.length]
 rw [hl] at h1 h4 h5
 have hn:=C2
 exact tail_any (typeIs_str s z t) slot_str_getitem.lookup (getItem_str (c:=c) (by
  have e1:decide (i < -(2^63:Int))=false:=Qx (by omega)
  have e2:decide (i≥2^63)=false:=Qx (by omega)
  rw [e1,e2,Bool.or_false]) (by rw [h1];simpa using h2) ⟨.str ⟨#[c]⟩,H,I.tok _,⟨_,rfl⟩,q⟩) hs
theorem sJ (its:List Value) (n j:Nat) (u:Value):Obj.mapSeq (·.setIfInBounds j u) {cls:=.type "list",data:=.seq its.toArray n}={cls:=.type "list",data:=.seq (its.set j u).toArray n}:=by
 simp [Obj.mapSeq]
theorem Inv.lst {pins:List (Addr×Obj)} {σ:St} {H:Hp} {s:Shared} {p:Addr} {xs:List V} (I:Inv X pins σ H s) (h:H p=some (.lst xs)):
  ∃ (its:List Value) (n:Nat),az xs its/\s.heap.get? p=some {cls:=.type "list",data:=.seq its.toArray n}/\xs.length<=sizeLine:=by
 obtain ⟨z,its,n,r,e⟩:=I.hok p _ h
 exact ⟨its,n,r,e,z⟩
theorem Inv.S9 {xs ys:List V} {its its':List Value} {n':Nat} {f:Obj->Obj} (I:Inv X pins σ H s) (h:H p=some (.lst xs))
  (ho:s.heap.get? p=some {cls:=.type "list",data:=.seq its.toArray n}) (hf:f {cls:=.type "list",data:=.seq its.toArray n}={cls:=.type "list",data:=.seq its'.toArray n'}) (r:az ys its') (hz:ys.length<=sizeLine) (t:Nat):
  Inv X pins σ (upd H p (.lst ys)) {s with heap:=s.heap.update p f,toks:=t}:=by
 have e:(s.heap.update p f).get? p=some {cls:=.type "list",data:=.seq its'.toArray n'}:=by
  rw [Heap.get?_update_self f ho (by rw [hf]<;>rfl),hf]
 refine I.write (x:=p) (e:=p) (by rw [h];trivial) (.inl rfl) (fun b u hb q=>(Heap.get?_update_other _ _ (Ne.symm hb)).trans q) ⟨_,e⟩ ?_
 exact ⟨hz,its',n',r,e⟩
def S_:V->V->V->Hp->(Hp->Prop)->Prop:=fun o i v H Q=>∃ p xs k j,o=.ref p/\i=.int k/\H p=some (.lst xs)/\Ac xs.length k=some j/\Q (upd H p (.lst (xs.set j v)))
theorem lZ:Ic X S_:=by
 intro pins s σ H o i v ov iv u Q I ro ri rv h
 obtain ⟨p,xs,k,j,rfl,rfl,hp,hj,q⟩:=h
 cases ro
 obtain ⟨t,rfl⟩:=ri
 obtain ⟨its,n,r,ho,hz⟩:=I.lst hp
 obtain ⟨h1,h2,h3,h4⟩:=oV hj
 have hl:=r.length
 have hn:=C2
 have I':Inv X pins σ (upd H p (.lst (xs.set j v))) {s with heap:=s.heap.update p (Obj.mapSeq (·.setIfInBounds j u))}:=
  I.S9 hp ho (sJ its n j u) (r.set rv j) (by rw [List.length_set];exact hz) s.toks
 by_cases h0:0<=k
 ·have hk:k.toNat=j:=by
   rw [seqIndex_of h0 h4] at h1
   exact QE h1
  exact PySem.W.ki_setAt ho h0 (by omega) (by rw [List.size_toArray,<- hl];exact h4) (by rw [hk];exact ⟨_,I',q⟩)
 ·have hk:(k+(its.toArray.size:Int)).toNat=j:=by
   rw [seqIndex_neg (by omega) h3] at h1
   rw [List.size_toArray,<- hl]
   exact QE h1
  exact PySem.W.ki_setBack ho (by omega) (by rw [List.size_toArray,<- hl];exact h3) (by omega) (by rw [hk];exact ⟨_,I',q⟩)
theorem oT (lo hi:Option Int) (n:Nat):(sliceBounds lo hi none n).1=((HT.bu n 0 lo:Nat):Int)/\(sliceBounds lo hi none n).2.1=((HT.bu n n hi:Nat):Int)/\(sliceBounds lo hi none n).2.2=1:=by
 refine ⟨?_,?_,rfl⟩
 ·cases lo with
  | none=>simp [sliceBounds,HT.bu]
  | some i=>
   simp only [sliceBounds,HT.bu,Option.getD_none,show (1:Int) > 0 by decide,if_true]
   by_cases h:i < 0
   ·simp only [h,if_true]<;>omega
   ·simp only [h,if_false]<;>omega
 ·cases hi with
  | none=>simp [sliceBounds,HT.bu]
  | some i=>
   simp only [sliceBounds,HT.bu,Option.getD_none,show (1:Int) > 0 by decide,if_true]
   by_cases h:i < 0
   ·simp only [h,if_true]<;>omega
   ·simp only [h,if_false]<;>omega
theorem mE (its:List Value) (lo hi:Option Int):slicePick its.toArray lo hi none=((its.drop (HT.bu its.length 0 lo)).take (HT.bu its.length its.length hi - HT.bu its.length 0 lo)).toArray:=by
 obtain ⟨h1,h2,h3⟩:=oT lo hi its.toArray.size
 unfold slicePick
 rw [h1,h2,h3]
 simp only [sliceRange_one,pick_run,List.size_toArray]<;>rfl
def AV (K:Q1):V->Option Int->Option Int->Hp->VK->Prop:=fun x lo hi H Q=>∃ a xs,x=.ref a/\af K H a xs/\∀ p,H p=none->Q (.ref p) (upd H p (.lst (oz xs lo hi)))
theorem Tc:xh X (AV X.K):=by
 intro pins s σ H x v vl vu lo hi sl Q I rx hs pl pu h
 obtain ⟨a,xs,rfl,hx,q⟩:=h
 cases rx
 obtain ⟨its,r,ht,hz⟩:=I.list hx
 have c_:=r.length
 refine ⟨"list",_,slot_list_getitem.lookup,ht.isList.typeIs,?_⟩
 refine wpAny_getItem_list_slice ht.isList hs pl pu .none (by simp) ?_ (by rw [List.size_toArray]<;>omega)
 rw [mE,<- c_]
 refine ⟨.ref s.heap.objs.size,_,I.laid (t':=s.toks) (o:=.lst (oz xs lo hi)) (fun b ob q=>Qc _ q) (Qz _) ?_,rfl,q _ (I.hok.fresh (Qz _))⟩
 exact ⟨Nat.le_trans (kC xs lo hi) hz,_,0,(r.drop (HT.bu xs.length 0 lo)).take (HT.bu xs.length xs.length hi - HT.bu xs.length 0 lo),Qd _ rfl⟩
def yx:V->Bool
 | .ai=>true
 | .bl _=>true
 | .int _=>true
 | .str _=>true
 | _=>false
def AW:V->V->Bool
 | .ai,.ai=>true
 | .bl a,.bl b=>a==b
 | .bl a,.int b=>(if a then 1 else 0)==b
 | .int a,.bl b=>a==(if b then 1 else 0)
 | .int a,.int b=>a==b
 | .str a,.str b=>a==b
 | _,_=>false
theorem Td {y x:V} {v:Value} (ry:RelV y u) (rx:RelV x v) (fy:yx y=true) (fx:yx x=true):SeqAt.EqAt A s u v (AW y x):=by
 cases y with
 | ai=>
  cases ry
  cases x with
  | ai=>cases rx;exact SeqAt.EqAt.same _
  | bl b=>cases rx;exact SeqAt.EqAt.none_bool b
  | int b=>obtain ⟨t,rfl⟩:=rx;exact SeqAt.EqAt.none_int b t
  | str b=>obtain ⟨t,rfl⟩:=rx;exact SeqAt.EqAt.none_str b t
  | _=>exact absurd (show false=true from fx) Bool.false_ne_true
 | bl a=>
  cases ry
  cases x with
  | ai=>cases rx;exact SeqAt.EqAt.bool_none a
  | bl b=>cases rx;exact SeqAt.EqAt.bool_bool a b
  | int b=>obtain ⟨t,rfl⟩:=rx;exact SeqAt.EqAt.bool_int a b t
  | str b=>obtain ⟨t,rfl⟩:=rx;exact SeqAt.EqAt.bool_str a b t
  | _=>exact absurd (show false=true from fx) Bool.false_ne_true
 | int a=>
  obtain ⟨t',rfl⟩:=ry
  cases x with
  | ai=>cases rx;exact SeqAt.EqAt.int_none a t'
  | bl b=>cases rx;exact SeqAt.EqAt.int_bool a t' b
  | int b=>obtain ⟨t,rfl⟩:=rx;exact SeqAt.EqAt.int_int a t' b t
  | str b=>obtain ⟨t,rfl⟩:=rx;exact SeqAt.EqAt.int_str a t' b t
  | _=>exact absurd (show false=true from fx) Bool.false_ne_true
 | str a=>
  obtain ⟨t',rfl⟩:=ry
  cases x with
  | ai=>cases rx;exact SeqAt.EqAt.str_none a t'
  | bl b=>cases rx;exact SeqAt.EqAt.str_bool a t' b
  | int b=>obtain ⟨t,rfl⟩:=rx;exact SeqAt.EqAt.str_int a t' b t
  | str b=>obtain ⟨t,rfl⟩:=rx;exact SeqAt.EqAt.str_str a t' b t
  | _=>exact absurd (show false=true from fx) Bool.false_ne_true
 | _=>exact absurd (show false=true from fy) Bool.false_ne_true
def Ad (x:V) (u:Value):Bool:=match u with
 | .none=>AW .ai x
 | .bool b=>AW (.bl b) x
 | .int i _=>AW (.int i) x
 | .str z _=>AW (.str z) x
 | _=>false
theorem xI {x y:V} (r:RelV y u) (f:yx y=true):Ad x u=AW y x:=by
 cases y with
 | ai=>cases r;rfl
 | bl b=>cases r;rfl
 | int i=>obtain ⟨t,rfl⟩:=r;rfl
 | str z=>obtain ⟨t,rfl⟩:=r;rfl
 | _=>exact absurd (show false=true from f) Bool.false_ne_true
theorem oQ {x:V}:∀ {xs:List V} {us:List Value},az xs us->xs.all yx=true->us.any (Ad x)=xs.any fun y=>AW y x
 | _,_,.nil,_=>rfl
 | y::xs,u::us,.cons r t,f=>by
  rw [List.all_cons,Bool.and_eq_true] at f
  rw [List.any_cons,List.any_cons,xI r f.1,oQ t f.2]
theorem m6 {A:Around} {s:Shared} {x:V} {v:Value} (rx:RelV x v) (fx:yx x=true):∀ {xs:List V} {us:List Value},az xs us->xs.all yx=true->∀ u∈us,SeqAt.EqAt A s u v (Ad x u)
 | _,_,.nil,_=>fun u hu=>by cases hu
 | y::xs,u::us,.cons r t,f=>fun u' hu=>by
  rw [List.all_cons,Bool.and_eq_true] at f
  rcases Qp.mp hu with rfl | hu
  ·rw [xI r f.1];exact Td r rx f.1 fx
  ·exact m6 rx fx t f.2 u' hu
def AX (x:V) (xs:List V):Bool:=xs.any fun y=>AW y x
def Te (K:Q1) (neg:Bool):R2:=fun x y H Q=>∃ p xs,y=.ref p/\(af K H p xs\/aj K H p xs)/\yx x=true/\xs.all yx=true/\Q (.bl (if neg then !AX x xs else AX x xs)) H
theorem vZ:ck X (compareOp .In) (Te X.K false):=by
 intro pins s σ H x y v u Q I rx ry h
 obtain ⟨p,xs,rfl,hq,fx,fs,q⟩:=h
 cases ry
 rcases hq with hq | hq
 ·obtain ⟨its,r,pl,hz⟩:=I.list hq
  refine SeqAt.in_listAt (Ad x) pl.isList (fun w hw=>m6 rx fx r fs w (by simpa using hw)) ⟨.bl _,H,I,rfl,?_⟩
  rw [show its.toArray.any (Ad x)=its.any (Ad x) by simp,oQ r fs]
  exact q
 ·obtain ⟨its,r,pl,hz⟩:=I.tuple hq
  refine SeqAt.in_tupleAt (Ad x) pl (fun w hw=>m6 rx fx r fs w (by simpa using hw)) ⟨.bl _,H,I,rfl,?_⟩
  rw [show its.toArray.any (Ad x)=its.any (Ad x) by simp,oQ r fs]
  exact q
theorem nK:qw X (.type "list") (fun xs H Q=>∃ p ys,xs=[.ref p]/\(af X.K H p ys\/aj X.K H p ys)/\∀ l,H l=none->Q (.ref l) (upd H l (.lst ys))):=by
 intro pins s σ H xs us Q I r h
 obtain ⟨p,ys,rfl,hq,q⟩:=h
 obtain ⟨u,rfl,rx⟩:=vals1 r
 cases rx
 have fin:∀ (its:List Value),az ys its->ys.length<=sizeLine->∀ (h':Heap) (c':Nat),(∀ b o',s.heap.get? b=some o'->h'.get? b=some o')->
   h'.get? s.heap.objs.size=some {cls:=.type "list",dict:=none,data:=.seq its.toArray c',slots:=#[]}->EP X pins σ Q (.ref s.heap.objs.size) {s with heap:=h'}:=fun its r' hz h' c' kp e=>
  ⟨.ref s.heap.objs.size,_,I.laid (t':=s.toks) kp (Qz _) (show bg X.prog X.w _ h' _ (.lst ys) from ⟨hz,its,c',r',e⟩),rfl,q _ (I.hok.fresh (Qz _))⟩
 rcases hq with hq | hq
 ·obtain ⟨its,r',pl,hz⟩:=I.list hq
  have c_:=r'.length
  obtain ⟨o,ho,hc,n,hd⟩:=pl.isList
  exact call_list_seq p (.inl rfl) ho hc hd (fun h' c' kp e=>fin its r' hz h' c' kp e) (by simp only [List.size_toArray]<;>omega)
 ·obtain ⟨its,r',pl,hz⟩:=I.tuple hq
  have c_:=r'.length
  obtain ⟨o,ho,hc,n,hd⟩:=pl
  exact call_list_seq p (.inr rfl) ho hc hd (fun h' c' kp e=>fin its r' hz h' c' kp e) (by simp only [List.size_toArray]<;>omega)
theorem mC:qw X (.type "tuple") (fun xs H Q=>∃ p ys,xs=[.ref p]/\((af X.K H p ys/\∀ l,H l=none->Q (.ref l) (upd H l (.tup ys)))\/(aj X.K H p ys/\Q (.ref p) H))):=by
 intro pins s σ H xs us Q I r h
 obtain ⟨p,ys,rfl,h⟩:=h
 obtain ⟨u,rfl,rx⟩:=vals1 r
 cases rx
 rcases h with ⟨hq,q⟩ | ⟨hq,q⟩
 ·obtain ⟨its,r',pl,hz⟩:=I.list hq
  have c_:=r'.length
  refine call_tuple_list pl.isList (fun h' kp=>?_) (by simp only [List.size_toArray]<;>omega)
  have I1:Inv X pins σ H {s with heap:=h'}:=I.kept (t':=s.toks) kp
  have I2:Inv X pins σ (upd H h'.objs.size (.tup ys)) {s with heap:=h'.push {cls:=.type "tuple",data:=.seq its.toArray}}:=
   I1.laid (t':=s.toks) (fun b o e=>Qc _ e) (Qz _) (show bg X.prog X.w _ _ _ (.tup ys) from ⟨⟨hz,BD.new rfl rfl⟩,its,r',IsTup.new _ _⟩)
  exact ⟨.ref h'.objs.size,_,I2,rfl,q _ (I1.hok.fresh (Qz _))⟩
 ·obtain ⟨its,r',pl,hz⟩:=I.tuple hq
  exact call_tuple_same pl ⟨.ref p,H,I,rfl,q⟩
def Ii (K:Q1) (T:String) (x:V) (H:Hp):Prop:=match x with
 | .str _=>T="str"
 | .int _=>T="int"
 | .ref p=>(T="list"/\∃ xs,af K H p xs)\/(T="tuple"/\∃ o,K.lookup p=some o/\o.cls=.type "tuple"/\o.dict=none)\/
   (T="dict"/\((∃ kvs,H p=some (.dK kvs))\/∃ kvs,H p=some (.dT kvs)))\/(T="set"/\∃ S n,H p=some (.set S n))
 | _=>False
theorem yJ {x:V} {v:Value} (I:Inv X pins σ H s) (r:RelV x v) (ty:Ii X.K T x H):
  s.TypeIs v T/\∀ a,v=.ref a->∃ ob,s.heap.get? a=some ob/\ob.dict=none:=by
 cases x with
 | str z=>
  obtain ⟨t,rfl⟩:=r
  cases (show T="str" from ty)
  exact ⟨typeIs_str s z t,fun _ e=>nomatch e⟩
 | int i=>
  obtain ⟨t,rfl⟩:=r
  cases (show T="int" from ty)
  exact ⟨typeIs_int s i t,fun _ e=>nomatch e⟩
 | ref p=>
  cases r
  rcases ty with ⟨rfl,xs,hq⟩ | ⟨rfl,o,hk,hc,hd⟩ | ⟨rfl,hk⟩ | ⟨rfl,S,n,hk⟩
  ·obtain ⟨its,_,pl,_⟩:=I.list hq
   refine ⟨pl.isList.typeIs,fun a e=>?_⟩
   cases e
   obtain ⟨o,n,e,c,hd,_⟩:=pl
   exact ⟨o,e,hd⟩
  ·refine ⟨⟨o,I.gy p o hk,hc⟩,fun a e=>?_⟩
   cases e
   exact ⟨o,I.gy _ o hk,hd⟩
  ·have z:∃ o,s.heap.get? p=some o/\o.ExactDict:=by
    rcases hk with ⟨kvs,hk⟩ | ⟨kvs,hk⟩
    ·obtain ⟨_,_,_,_,o,_,_,e,ex,_⟩:=I.hok p _ hk
     exact ⟨o,e,ex⟩
    ·obtain ⟨_,_,_,_,o,_,_,e,ex,_⟩:=I.hok p _ hk
     exact ⟨o,e,ex⟩
   obtain ⟨o,e,ex⟩:=z
   refine ⟨⟨o,e,ex.1⟩,fun a e2=>?_⟩
   cases e2
   exact ⟨o,e,ex.2.1⟩
  ·obtain ⟨o,_,_,_,e,ex,_⟩:=I.hok p _ hk
   refine ⟨⟨o,e,ex.1⟩,fun a e2=>?_⟩
   cases e2
   exact ⟨o,e,ex.2.1⟩
 | _=>exact False.elim ty
def L4 (K:Q1) (T:String) (r:V->List V->Hp->VK->Prop) (to:TE):TE:=fun σ H Q=>to σ H fun x H1=>Ii K T x H1/\r x [] H1 Q
def Gh (K:Q1) (T:String) (r:V->List V->Hp->VK->Prop) (to:TE) (t:TA):TE:=fun σ H Q=>to σ H fun x H1=>Ii K T x H1/\t σ H1 fun xs H2=>r x xs H2 Q
variable {o:Expr} {t:TA} {id:String} {r:V->List V->Hp->VK->Prop}
theorem Tf (pa:PlainAttrs T) (slot:Slot T name id) (Ae:typeOf (.builtin id)=pure (.type "method_descriptor")) (hm:Ih X id r) (ho:PE X o to)
  (jt:attributeBase o name X.env (eval o X.env)=eval o X.env:=by rfl) (ju:(apos.endLine==cpos.line)=true:=by rfl):PE X (.Call (.Attribute o name apos) [] [] cpos) (L4 X.K T r to):=by
 intro pins s σ H Q I h
 refine wpAny_Call_method0_late jt ju (ao (ho pins s σ H _ I h) ?_)
 rintro v s1 ⟨x,H1,I1,r1,ty,q1⟩
 obtain ⟨h1,h2⟩:=yJ I1 r1 ty
 exact ⟨T,id,pa,slot,Ae,h1,h2,Calls.callWith_builtin rfl (PySem.evalArgs_none (hm pins s1 σ H1 x [] v [] Q I1 r1 .nil q1))⟩
theorem Ti (pa:PlainAttrs T) (slot:Slot T name id) (Ae:typeOf (.builtin id)=pure (.type "method_descriptor")) (hm:Ih X id r) (ho:PE X o to) (ha:PA X (e::es) t)
  (jt:attributeBase o name X.env (eval o X.env)=eval o X.env:=by rfl)
  (Eu:((backTo cpos (starEach (e::es) X.env)).all (fun x=> !x.1)&&(backToKw cpos (keywordEach [] X.env)).all (fun x=>x.1.isSome)
   &&decide ((e::es).length+([]:List Keyword).length+(if ([]:List Keyword).isEmpty then 0 else 1) < 30))=true:=by rfl)
  (ju:(apos.endLine==cpos.line)=true:=by rfl) (hs:starEach (e::es) X.env=(false,eval e X.env)::starEach es X.env:=by rfl) (Ew:(backTo cpos (starEach es X.env)).any (·.1)=false:=by rfl):
  PE X (.Call (.Attribute o name apos) (e::es) [] cpos) (Gh X.K T r to t):=by
 intro pins s σ H Q I h
 refine wpAny_Call_method_late jt Eu ju rfl (ao (ho pins s σ H _ I h) ?_)
 rintro v s1 ⟨x,H1,I1,r1,ty,q1⟩
 obtain ⟨h1,h2⟩:=yJ I1 r1 ty
 refine ⟨T,id,pa,slot,Ae,h1,h2,?_⟩
 have hA:=ha cpos pins s1 σ H1 _ I1 q1
 rw [hs] at hA ⊢
 refine Calls.callWith_builtin (by show (false||(backTo cpos (starEach es X.env)).any (·.1))=false;rw [Ew]<;>rfl) (Calls.evalArgs_plain ?_)
 exact ao hA fun us s2 ⟨vs,H2,I2,r2,q2⟩=>hm pins s2 σ H2 x vs v us Q I2 r1 r2 q2
/- xs.append(e),list.index on a aaC tuple .. are Ih facts of 06m -/
end
def BY (X:Cx) (id:String) (r:V->List V->Hp->VK->Prop):Prop:=
 ∀ (pins:List (Addr×Obj)) (s:Shared) (σ:St) (H:Hp) (x:V) (xs:List V) (v:Value) (us:List Value) (Q:VK),Inv X pins σ H s->RelV x v->az xs us->r x xs H Q->
  wpAny (model X.prog X.w) X.A (call (.builtin id) (v::us)) (EP X pins σ Q) X.xe s
theorem az.one {x:V} {us:List Value} (h:az [x] us):∃ u,us=[u]/\RelV x u:=by
 cases h with
 | cons r t=>
  cases t
  exact ⟨_,rfl,r⟩
theorem az.two {x y:V} (h:az [x,y] us):∃ u v,us=[u,v]/\RelV x u/\RelV y v:=by
 cases h with
 | cons r t=>
  cases t with
  | cons q t=>
   cases t
   exact ⟨_,_,rfl,r,q⟩
theorem az.zero:∀ {us:List Value},az [] us->us=[]
 | _,.nil=>rfl
theorem az.dropLast {xs:List V} {us:List Value} (h:az xs us):az xs.dropLast us.dropLast:=by
 induction h with
 | nil=>exact .nil
 | cons r t ih=>
  cases t with
  | nil=>exact .nil
  | cons q t'=>exact .cons r ih
theorem az.eraseIdx:∀ {xs:List V} {us:List Value} (i:Nat),az xs us->az (xs.eraseIdx i) (us.eraseIdx i)
 | _,_,_,.nil=>.nil
 | _,_,0,.cons _ t=>t
 | _,_,i+1,.cons r t=>.cons r (az.eraseIdx i t)
theorem qW (l:List α):l.eraseIdx (l.length - 1)=l.dropLast:=by
 induction l with
 | nil=>rfl
 | cons a r ih=>
  cases r with
  | nil=>rfl
  | cons b r=>
   have e:(a::b::r).length - 1=((b::r).length - 1)+1:=by
    have h1:(a::b::r).length=r.length+2:=rfl
    have h2:(b::r).length=r.length+1:=rfl
    omega
   rw [e,List.eraseIdx_cons_succ,ih]
   all_goals rfl
theorem mQ {α:Type}:∀ (l:List α) (i:Nat),(l.eraseIdx i).length<=l.length
 | [],_=>Qz _
 | _::_,0=>Nat.le_succ _
 | _::r,i+1=>Nat.succ_le_succ (mQ r i)
section
variable {xs ys zs:List V}
theorem Inv.Gi {its its':List Value} {f:Array Value->Array Value} (I:Inv X pins σ H s) (hH:H l=some (.lst xs))
  (e:s.heap.get? l=some {cls:=.type "list",data:=.seq its.toArray n}) (hf:f its.toArray=its'.toArray) (hv:az ys its') (hz:ys.length<=sizeLine):
  Inv X pins σ (upd H l (.lst ys)) {s with heap:=s.heap.update l (Obj.mapSeq f),toks:=t'}:=by
 have q:=PySem.IsL.update e f
 rw [hf] at q
 refine I.write (x:=l) (e:=l) (by rw [hH];exact trivial) (.inl rfl) (fun b' u hb hu=>(Heap.get?_update_other s.heap (Obj.mapSeq f) (Ne.symm hb)).trans hu) ⟨_,q⟩ ?_
 exact ⟨hz,its',_,hv,q⟩
theorem Inv.Tj {its:List Value} (I:Inv X pins σ H s) (hv:az ys its) (hz:ys.length<=sizeLine):
  Inv X pins σ (upd H s.heap.objs.size (.lst ys)) {s with heap:=s.heap.push {cls:=.type "list",data:=.seq its.toArray},toks:=t'}:=
 I.laid (fun _ _ q=>Qc _ q) (Qz _) ⟨hz,its,0,hv,Qd _ rfl⟩
theorem Inv.fresh (I:Inv X pins σ H s):H s.heap.objs.size=none:=I.hok.fresh (Qz _)
theorem Inv.C7 (I:Inv X pins σ H s) (hH:H l=some (.lst xs)):xs.length<=sizeLine/\∃ (its:List Value) (n:Nat),az xs its/\xs.length=its.length/\s.heap.get? l=some {cls:=.type "list",data:=.seq its.toArray n}:=by
 obtain ⟨z,its,n,r,e⟩:=I.hok l _ hH
 exact ⟨z,its,n,r,r.length,e⟩
end
def L5:V->List V->Hp->VK->Prop:=fun x vs H Q=>∃ l xs y,x=.ref l/\vs=[y]/\H l=some (.lst xs)/\xs.length < sizeLine/\Q .ai (upd H l (.lst (xs++[y])))
theorem aZ:BY X "list.append" L5:=by
 intro pins s σ H x vs v us Q I rx rv h
 obtain ⟨l,xs,y,rfl,rfl,hH,hz,q⟩:=h
 cases rx
 obtain ⟨u,rfl,ru⟩:=rv.one
 obtain ⟨z,its,n,r,hl,e⟩:=I.C7 hH
 refine call_meets F.slot_list_append ⟨_,e,rfl⟩ F.entry_list_append (F.args_list_append_2 _ _) (PySem.list_append l its.toArray n u (by rw [List.size_toArray];omega)) ⟨e,?_⟩
 refine ⟨.ai,_,I.Gi (its':=its++[u]) hH e (by simp) (r.append (.cons ru .nil)) ?_,rfl,q⟩
 rw [Qk,List.length_singleton]
 omega
def Tn:V->List V->Hp->VK->Prop:=fun x vs H Q=>∃ l xs y,x=.ref l/\vs=[]/\H l=some (.lst xs)/\xs[xs.length - 1]? =some y/\Q y (upd H l (.lst xs.dropLast))
theorem zN:BY X "list.pop" Tn:=by
 intro pins s σ H x vs v us Q I rx rv h
 obtain ⟨l,xs,y,rfl,rfl,hH,hy,q⟩:=h
 cases rx
 have Ij:=rv.zero
 subst Ij
 obtain ⟨z,its,n,r,hl,e⟩:=I.C7 hH
 obtain ⟨u,hu,ru⟩:=r.get hy
 have Ik:its.toArray[its.toArray.size - 1]? =some u:=by
  show its.toArray[its.length - 1]? =some u
  rw [<- Array.getElem?_toList,<- hl]
  exact hu
 refine call_meets F.slot_list_pop ⟨_,e,rfl⟩ F.entry_list_pop (F.args_list_pop_1 _) (MeetsSeq.list_pop_last l its.toArray n u Ik (by rw [List.size_toArray];omega)) ⟨e,?_⟩
 refine ⟨y,_,I.Gi (its':=its.dropLast) hH e ?_ r.dropLast ?_,ru,q⟩
 ·show its.toArray.eraseIdxIfInBounds (its.toArray.size - 1)=its.dropLast.toArray
  rw [List.size_toArray,List.eraseIdxIfInBounds_toArray,qW]
 ·rw [List.length_dropLast]
  omega
def To:V->List V->Hp->VK->Prop:=fun x vs H Q=>∃ l xs i k y,x=.ref l/\vs=[.int i]/\H l=some (.lst xs)/\ -(2^63)<=i/\i < 2^63/\seqIndex? i xs.length=some k/\xs[k]? =some y/\Q y (upd H l (.lst (xs.eraseIdx k)))
theorem yY:BY X "list.pop" To:=by
 intro pins s σ H x vs v us Q I rx rv h
 obtain ⟨l,xs,i,k,y,rfl,rfl,hH,h1,h2,hk,hy,q⟩:=h
 cases rx
 obtain ⟨u,rfl,ru⟩:=rv.one
 obtain ⟨t,rfl⟩:=ru
 obtain ⟨z,its,n,r,hl,e⟩:=I.C7 hH
 obtain ⟨w,hw,ug⟩:=r.get hy
 refine call_meets F.slot_list_pop ⟨_,e,rfl⟩ F.entry_list_pop (F.args_list_pop_2 _ _)
  (MeetsSeq.list_pop_at l its.toArray n i t k w (fitsIndex_both h1 h2) (by rw [List.size_toArray,<- hl];exact hk) (by rw [<- Array.getElem?_toList];exact hw) (by rw [List.size_toArray];omega)) ⟨e,?_⟩
 refine ⟨y,_,I.Gi (its':=its.eraseIdx k) hH e ?_ (r.eraseIdx k) ?_,ug,q⟩
 ·show its.toArray.eraseIdxIfInBounds k=(its.eraseIdx k).toArray
  rw [List.eraseIdxIfInBounds_toArray]
 ·have:=mQ xs k
  omega
def Tp:V->List V->Hp->VK->Prop:=fun x vs H Q=>∃ l xs,x=.ref l/\vs=[]/\H l=some (.lst xs)/\Q .ai (upd H l (.lst []))
theorem wO:BY X "list.clear" Tp:=by
 intro pins s σ H x vs v us Q I rx rv h
 obtain ⟨l,xs,rfl,rfl,hH,q⟩:=h
 cases rx
 have Ij:=rv.zero
 subst Ij
 obtain ⟨z,its,n,r,hl,e⟩:=I.C7 hH
 refine call_meets F.slot_list_clear ⟨_,e,rfl⟩ F.entry_list_clear (F.args_list_clear_1 _) (AutoSeq1.list_clear_list_0 l its.toArray n (by rw [List.size_toArray];omega)) ⟨e,?_⟩
 exact ⟨.ai,_,I.Gi (its':=[]) (ys:=[]) hH e rfl .nil (Nat.zero_le _),rfl,q⟩
def Tq:R2:=fun x y H Q=>∃ l b xs zs,x=.ref l/\y=.ref b/\H l=some (.lst xs)/\H b=some (.lst zs)/\xs.length+zs.length<=sizeLine/\∀ p,H p=none->Q (.ref p) (upd H p (.lst (xs++zs)))
theorem Tr:ck X (binaryOp .Add) Tq:=by
 intro pins s σ H x y v u Q I rx ry h
 obtain ⟨l,b,xs,zs,rfl,rfl,hH,hB,hz,q⟩:=h
 cases rx
 cases ry
 obtain ⟨z,its,n,r,hl,e⟩:=I.C7 hH
 obtain ⟨z2,its2,n2,r2,Af,e2⟩:=I.C7 hB
 refine PySem.P.add_list e e2 ?_ (by rw [List.size_toArray,List.size_toArray];omega)
 have ea:its.toArray++its2.toArray=(its++its2).toArray:=by simp
 rw [ea]
 exact ⟨.ref _,_,I.Tj (t':=s.toks) (r.append r2) (by rw [Qk];omega),rfl,q _ I.fresh⟩
section
variable [DecidableEq κ]
def av (kvs:List (κ×V)) (k:κ):Option V:=(kvs.find? fun kv=>decide (kv.1=k)).map (·.2)
def putK (kvs:List (κ×V)) (k:κ) (v:V):List (κ×V):=
 if (kvs.any fun kv=>decide (kv.1=k))=true then kvs.map (fun kv=>if kv.1=k then (kv.1,v) else kv) else kvs++[(k,v)]
def qz (kvs:List (κ×V)) (k:κ):List (κ×V):=kvs.filter fun kv=>decide (kv.1≠k)
theorem bZ {p:κ×V} {r:List (κ×V)} {k:κ} (e:p.1=k):av (p::r) k=some p.2:=by simp [av,List.find?_cons,e]
theorem bX {p:κ×V} {r:List (κ×V)} {k:κ} (e:¬p.1=k):av (p::r) k=av r k:=by simp [av,List.find?_cons,e]
theorem dE (k:κ):∀ kvs:List (κ×V),(kvs.any fun kv=>decide (kv.1=k))=(av kvs k).isSome
 | []=>rfl
 | p::r=>by
  rw [List.any_cons]
  by_cases e:p.1=k
  ·simp only [bZ e,Qw e,Bool.true_or,Option.isSome_some]
  ·rw [bX e,Qx e,Bool.false_or];exact dE k r
theorem qU (k j:κ) (y:V):∀ kvs:List (κ×V),av (kvs.map fun kv=>if kv.1=k then (kv.1,y) else kv) j=(av kvs j).map fun x=>if j=k then y else x
 | []=>rfl
 | p::r=>by
  have ih:=qU k j y r
  rw [List.map_cons]
  by_cases h:p.1=k
  ·rw [if_pos h]
   by_cases e:p.1=j
   ·rw [bZ (p:=(p.1,y)) e,bZ e,Option.map_some,if_pos (e.symm.trans h)]
   ·rw [bX (p:=(p.1,y)) e,bX e,ih]
  ·rw [if_neg h]
   by_cases e:p.1=j
   ·rw [bZ (p:=p) e,bZ e,Option.map_some,if_neg (fun z=>h (e.trans z))]
   ·rw [bX (p:=p) e,bX e,ih]
theorem jO (k j:κ) (y:V):∀ kvs:List (κ×V),av kvs k=none->av (kvs++[(k,y)]) j=if j=k then some y else av kvs j
 | [],_=>by
  by_cases e:k=j
  ·rw [if_pos e.symm];exact bZ (p:=(k,y)) e
  ·rw [if_neg (fun z=>e z.symm)];exact bX (p:=(k,y)) e
 | p::r,hn=>by
  rw [List.cons_append]
  have hk:¬p.1=k:=fun z=>by rw [bZ z] at hn;cases hn
  rw [bX hk] at hn
  have ih:=jO k j y r hn
  by_cases e:p.1=j
  ·rw [bZ e,bZ e,if_neg (fun z=>hk (e.trans z))]
  ·rw [bX e,bX e,ih]
theorem lE (kvs:List (κ×V)) (k j:κ) (y:V):av (putK kvs k y) j=if j=k then some y else av kvs j:=by
 unfold putK
 by_cases a:(kvs.any fun kv=>decide (kv.1=k))=true
 ·rw [if_pos a,qU]
  rw [dE] at a
  by_cases e:j=k
  ·obtain ⟨x,hx⟩:=Option.isSome_iff_exists.mp a
   rw [if_pos e,e,hx,Option.map_some,if_pos rfl]
  ·rw [if_neg e]
   cases av kvs j with
   | none=>rfl
   | some x=>rw [Option.map_some,if_neg e]
 ·rw [if_neg a]
  refine jO k j y kvs ?_
  rw [dE] at a
  cases q:av kvs k with
  | none=>rfl
  | some x=>rw [q] at a;exact (a rfl).elim
theorem bT (kvs:List (κ×V)) (k:κ) (v:V):(putK kvs k v).length<=kvs.length+1:=by
 unfold putK
 split
 ·rw [Ql];omega
 ·rw [Qk,List.length_cons,List.length_nil];omega
theorem cF {kvs:List (κ×V)} {k:κ} (v:V) (h:av kvs k=none):putK kvs k v=kvs++[(k,v)]:=by
 unfold putK
 rw [dE,h]
 exact if_neg (by decide)
theorem kg.BZ {o:Option V} {u:Option Value} (r:kg o u):o.isSome=u.isSome:=by
 cases o with
 | none=>cases u with
  | none=>rfl
  | some _=>exact (show False from r).elim
 | some _=>cases u with
  | none=>exact (show False from r).elim
  | some _=>rfl
theorem kg.getD {o:Option V} {u:Option Value} {d:V} {d':Value} (r:kg o u) (rd:RelV d d'):RelV (o.getD d) (u.getD d'):=by
 cases o with
 | none=>cases u with
  | none=>exact rd
  | some _=>exact (show False from r).elim
 | some _=>cases u with
  | none=>exact (show False from r).elim
  | some _=>exact r
theorem KV.val {kvs:List (κ×V)} {vs:List (κ×Value)} (r:KV kvs vs) (k:κ):kg (av kvs k) (valueAt vs k):=by
 unfold KV at r
 induction r with
 | nil=>exact True.intro
 | @cons p q ps qs h t ih=>
  obtain ⟨h1,h2⟩:=h
  by_cases e:p.1=k
  ·have e':q.1=k:=h1.symm.trans e
   have b:valueAt (q::qs) k=some q.2:=by simp [valueAt,List.find?_cons,e']
   rw [bZ e,b];exact h2
  ·have e':¬q.1=k:=fun z=>e (h1.trans z)
   have b:valueAt (q::qs) k=valueAt qs k:=by simp [valueAt,List.find?_cons,e']
   rw [bX e,b];exact ih
theorem KV.any {kvs:List (κ×V)} {vs:List (κ×Value)} (r:KV kvs vs) (k:κ):(kvs.any fun kv=>decide (kv.1=k))=vs.any fun kv=>decide (kv.1=k):=by
 unfold KV at r
 induction r with
 | nil=>rfl
 | cons h t ih=>rw [List.any_cons,List.any_cons,ih,h.1]
theorem KV.repl {kvs:List (κ×V)} {vs:List (κ×Value)} (r:KV kvs vs) (k:κ) {y:V} (ry:RelV y u):
  KV (kvs.map fun kv=>if kv.1=k then (kv.1,y) else kv) (vs.map fun kv=>if kv.1=k then (kv.1,u) else kv):=by
 unfold KV at r ⊢
 induction r with
 | nil=>exact .nil
 | @cons p q ps qs h t ih=>
  rw [List.map_cons,List.map_cons]
  refine .cons ?_ ih
  obtain ⟨h1,h2⟩:=h
  by_cases e:p.1=k
  ·rw [if_pos e,if_pos (h1.symm.trans e)];exact ⟨h1,ry⟩
  ·rw [if_neg e,if_neg (fun z=>e (h1.trans z))];exact ⟨h1,h2⟩
theorem KV.put {kvs:List (κ×V)} {vs:List (κ×Value)} (r:KV kvs vs) (k:κ) {y:V} (ry:RelV y u):KV (putK kvs k y) (stored vs k u):=by
 unfold putK stored
 rw [r.any k]
 by_cases e:(vs.any fun kv=>decide (kv.1=k))=true
 ·rw [if_pos e,if_pos e];exact r.repl k ry
 ·rw [if_neg e,if_neg e];exact Paired.snoc r ⟨rfl,ry⟩
theorem KV.drop {kvs:List (κ×V)} {vs:List (κ×Value)} (r:KV kvs vs) (k:κ):KV (qz kvs k) (without vs k):=by
 unfold KV at r ⊢
 unfold qz without
 induction r with
 | nil=>exact .nil
 | @cons p q ps qs h t ih=>
  obtain ⟨h1,h2⟩:=h
  rw [List.filter_cons,List.filter_cons]
  by_cases e:p.1=k
  ·have a:¬decide (p.1≠k)=true:=by simp [e]
   have b:¬decide (q.1≠k)=true:=by simp [h1.symm.trans e]
   rw [if_neg a,if_neg b];exact ih
  ·have e':¬q.1=k:=fun z=>e (h1.trans z)
   have a:decide (p.1≠k)=true:=by simp [e]
   have b:decide (q.1≠k)=true:=by simp [e']
   rw [if_pos a,if_pos b];exact .cons ⟨h1,h2⟩ ih
theorem KV.length {kvs:List (κ×V)} {vs:List (κ×Value)} (r:KV kvs vs):kvs.length=vs.length:=Paired.length r
theorem yW (kvs:List (κ×V)) (k:κ):(qz kvs k).length<=kvs.length:=List.length_filter_le _ _
end
theorem gA {k:Key} (r:RelV (kV k) u):(cg P w).is k u=true:=by
 cases k with
 | inl i=>obtain ⟨t,e⟩:=(show ∃ t,u=Value.int i t from r);subst e;exact pS P w i t
 | inr x=>obtain ⟨t,e⟩:=(show ∃ t,u=Value.str x t from r);subst e;exact eQ P w x t
theorem mR {P:Program} {w:World}:∀ {ks:List Key} {us:List Value},az (ks.map kV) us->ItemsAre (cg P w) ks us
 | [],_,r=>by rw [List.map_nil] at r;cases r;exact .nil
 | k::ks,_,r=>by
  rw [List.map_cons] at r
  cases r with
  | cons h t=>exact .cons (gA h) (mR t)
abbrev KT (H:Hp):List (List Key×V)->List (List Key×Addr×Value)->Prop:=Paired fun p q=>p.1=q.1/\be H q.2.1 (p.1.map kV)/\RelV p.2 q.2.2
theorem KT.val {kvs:List (List Key×V)} (r:KT H kvs xs) (k:List Key):kg (av kvs k) ((atKey xs k).map (·.2)):=by
 induction r with
 | nil=>exact True.intro
 | @cons p q ps qs h t ih=>
  obtain ⟨h1,_,h2⟩:=h
  by_cases e:p.1=k
  ·have e':q.1=k:=h1.symm.trans e
   have b:atKey (q::qs) k=some q.2:=by simp [atKey,List.find?_cons,e']
   rw [bZ e,b];exact h2
  ·have e':¬q.1=k:=fun z=>e (h1.trans z)
   have b:atKey (q::qs) k=atKey qs k:=by simp [atKey,List.find?_cons,e']
   rw [bX e,b];exact ih
theorem KT.repl {kvs:List (List Key×V)} (r:KT H kvs xs) (k:List Key) {y:V} (ry:RelV y u):
  KT H (kvs.map fun kv=>if kv.1=k then (kv.1,y) else kv) (xs.map (putAt k u)):=by
 induction r with
 | nil=>exact .nil
 | @cons p q ps qs h t ih=>
  rw [List.map_cons,List.map_cons]
  refine .cons ?_ ih
  obtain ⟨h1,h2,h3⟩:=h
  unfold putAt
  by_cases e:p.1=k
  ·rw [if_pos e,if_pos (h1.symm.trans e)];exact ⟨h1,h2,ry⟩
  ·rw [if_neg e,if_neg (fun z=>e (h1.trans z))];exact ⟨h1,h2,h3⟩
theorem KT.put {kvs:List (List Key×V)} (r:KT H kvs xs) (k:List Key) {y:V} (hb:be H b (k.map kV)) (ry:RelV y u):
  KT H (putK kvs k y) (storedH xs k b u):=by
 have e:(kvs.any fun kv=>decide (kv.1=k))=(atKey xs k).isSome:=by
  rw [dE,(r.val k).BZ,Option.isSome_map]
 unfold putK storedH
 rw [e]
 by_cases q:(atKey xs k).isSome=true
 ·rw [if_pos q,if_pos q];exact r.repl k ry
 ·rw [if_neg q,if_neg q];exact Paired.snoc r ⟨rfl,hb,ry⟩
theorem KT.keeps {kvs:List (List Key×V)} (r:KT H kvs xs) (ht:∀ b ys,be H b ys->be H' b ys):KT H' kvs xs:=
 Paired.HX r fun _ _ z=>⟨z.1,ht _ _ z.2.1,z.2.2⟩
theorem L6 {u:HO} (ok:fg P w H h) (e:Rd H a u):bg P w H h a u:=e.ok ok
theorem iT {kvs:List (Key×V)} (ok:fg P w H h) (e:Rd H a (.dK kvs)):kvs.length<=sizeLine/\(a==sysModules)=false/\∃ vs,KV kvs vs/\h.DictOf (cg P w) a vs:=
 show bg P w H h a (.dK kvs) from L6 ok e
theorem pB {kvs:List (Key×V)} (ok:fg P w H h) (e:H a=some (.dK kvs)):kvs.length<=sizeLine/\(a==sysModules)=false/\∃ vs,KV kvs vs/\h.DictOf (cg P w) a vs:=iT ok (.inl e)
theorem iH {ks:List Key} (ok:fg P w H h) (e:be H a (ks.map kV)):(tupleKind (cg P w)).is h ks a:=by
 have qq:bg P w H h a (.tup (ks.map kV)):=by
  rcases e with e | ⟨_,e⟩
  ·exact ok a _ e
  ·exact (ok a _ e).2
 obtain ⟨_,its,r,o,h1,h2,n,h3⟩:=qq
 exact ⟨o,its.toArray,n,h1,h2,h3,by simpa using mR r⟩
theorem mJ {kvs:List (List Key×V)} (ok:fg P w H h) (e:Rd H a (.dT kvs)):kvs.length<=sizeLine/\(a==sysModules)=false/\
  ∃ xs,KT H kvs xs/\h.DictOfH (tupleKind (cg P w)) a xs:=by
 obtain ⟨z,y,xs,r,o,es,ep,h1,h2,h3,h4,h5⟩:=(show bg P w H h a (.dT kvs) from L6 ok e)
 refine ⟨z,y,xs,r,o,es,ep,h1,h2,h3,h4,fun x hx=>?_,h5⟩
 have all:∀ {l:List (List Key×V)} {m:List (List Key×Addr×Value)},KT H l m->∀ x∈m,(tupleKind (cg P w)).is h x.1 x.2.1:=by
  intro l m q
  induction q with
  | nil=>intro x hx;exact nomatch hx
  | @cons p q ps qs hq t ih=>
   intro x hx
   rcases Qp.mp hx with e | hx
   ·subst e
    exact iH ok (by rw [<- hq.1];exact hq.2.1)
   ·exact ih x hx
 exact all r x hx
theorem yA {kvs:List (List Key×V)} (ok:fg P w H h) (e:H a=some (.dT kvs)):kvs.length<=sizeLine/\(a==sysModules)=false/\
  ∃ xs,KT H kvs xs/\h.DictOfH (tupleKind (cg P w)) a xs:=mJ ok (.inl e)
def dj (H:Hp) (a:Addr) (y:V) (r:Option V):Prop:=
 (∃ kvs k,Rd H a (.dK kvs)/\y=kV k/\r=av kvs k)\/∃ kvs k b,Rd H a (.dT kvs)/\y=.ref b/\be H b (k.map kV)/\r=av kvs k
def yz (H:Hp) (a:Addr) (y v:V) (H':Hp):Prop:=
 (∃ kvs k,H a=some (.dK kvs)/\y=kV k/\kvs.length < sizeLine/\H'=upd H a (.dK (putK kvs k v)))\/
 ∃ kvs k b,H a=some (.dT kvs)/\y=.ref b/\be H b (k.map kV)/\kvs.length < sizeLine/\H'=upd H a (.dT (putK kvs k v))
theorem dj.k {H:Hp} {a:Addr} {kvs:List (Key×V)} {k:Key} (e:H a=some (.dK kvs)):dj H a (kV k) (av kvs k):=.inl ⟨kvs,k,.inl e,rfl,rfl⟩
theorem dj.t {kvs:List (List Key×V)} {k:List Key} (e:H a=some (.dT kvs)) (eb:H b=some (.tup (k.map kV))):dj H a (.ref b) (av kvs k):=.inr ⟨kvs,k,b,.inl e,rfl,.inl eb,rfl⟩
theorem yz.k {H:Hp} {a:Addr} {kvs:List (Key×V)} {k:Key} {v:V} (e:H a=some (.dK kvs)) (hl:kvs.length < sizeLine):yz H a (kV k) v (upd H a (.dK (putK kvs k v))):=.inl ⟨kvs,k,e,rfl,hl,rfl⟩
theorem yz.t {kvs:List (List Key×V)} {k:List Key} {v:V} (e:H a=some (.dT kvs)) (eb:H b=some (.tup (k.map kV))) (hl:kvs.length < sizeLine):
  yz H a (.ref b) v (upd H a (.dT (putK kvs k v))):=.inr ⟨kvs,k,b,e,rfl,.inl eb,hl,rfl⟩
section
variable {y v:V} {r:Value} {o:Option V}
theorem Inv.big (I:Inv X pins σ H s):sysModules < s.heap.objs.size:=by
 have h:mainGlobals < s.heap.objs.size:=(I.mod.glob.keeps I.bk).lt
 exact Nat.lt_trans (by decide) h
theorem uZ (hu:A.units+1 < cLine) (I:Inv X pins σ H s) (g:dj H a y (some v)) (ry:RelV y u) (h:∀ w' s',Inv X pins σ H s'->RelV v w'->Q w' s'):
  wpAny (model X.prog X.w) A (getItem (.ref a) u) Q E s:=by
 rcases g with ⟨kvs,k,e,ey,l⟩ | ⟨kvs,k,b,e,ey,eb,l⟩
 ·subst ey
  obtain ⟨z,hd,vs,rel,dd⟩:=iT I.hok e
  obtain ⟨w',hw,ug⟩:=kg.some_of (v:=v) (o:=valueAt vs k) (by rw [l];exact rel.val k)
  exact wpAny_getItem_of (gA ry) dd.mapOf hw (h w' _ (I.tok _) ug)
 ·subst ey
  cases (show u=Value.ref b from ry)
  obtain ⟨z,hd,xs,rel,dd⟩:=mJ I.hok e
  obtain ⟨w',hw,ug⟩:=kg.some_of (v:=v) (o:=(atKey xs k).map (·.2)) (by rw [l];exact rel.val k)
  obtain ⟨p,hp,Tt⟩:=Option.map_eq_some_iff.mp hw
  refine wpAny_getItem_heap (tupleKind_room_in1 hu) (iH I.hok eb) dd hp ?_
  rw [Tt]
  exact h w' _ (I.tok _) ug
theorem Tu (hu:A.units+1 < cLine) (I:Inv X pins σ H s) (g:dj H a y o) (ry:RelV y u) (h:∀ s',Inv X pins σ H s'->Q (.bool o.isSome) s'):
  wpAny (model X.prog X.w) A (compareOp .In u (.ref a)) Q E s:=by
 rcases g with ⟨kvs,k,e,ey,l⟩ | ⟨kvs,k,b,e,ey,eb,l⟩
 ·subst ey
  obtain ⟨z,hd,vs,rel,dd⟩:=iT I.hok e
  refine wpAny_in_of (gA ry) hd dd.mapOf ?_
  rw [<- (rel.val k).BZ,<- l]
  exact h _ (I.tok _)
 ·subst ey
  cases (show u=Value.ref b from ry)
  obtain ⟨z,hd,xs,rel,dd⟩:=mJ I.hok e
  refine wpAny_in_heap (tupleKind_room_in1 hu) (iH I.hok eb) hd dd ?_
  have q:=(rel.val k).BZ
  rw [Option.isSome_map] at q
  rw [<- q,<- l]
  exact h _ (I.tok _)
theorem zZ (hu:A.units+1 < cLine) (I:Inv X pins σ H s) (g:dj H a y o) (ry:RelV y u) (h:∀ s',Inv X pins σ H s'->Q (.bool (!o.isSome)) s'):
  wpAny (model X.prog X.w) A (compareOp .NotIn u (.ref a)) Q E s:=by
 rcases g with ⟨kvs,k,e,ey,l⟩ | ⟨kvs,k,b,e,ey,eb,l⟩
 ·subst ey
  obtain ⟨z,hd,vs,rel,dd⟩:=iT I.hok e
  refine wpAny_notIn_of (gA ry) hd dd.mapOf ?_
  rw [<- (rel.val k).BZ,<- l]
  exact h _ (I.tok _)
 ·subst ey
  cases (show u=Value.ref b from ry)
  obtain ⟨z,hd,xs,rel,dd⟩:=mJ I.hok e
  refine wpAny_notIn_heap (tupleKind_room_in1 hu) (iH I.hok eb) hd dd ?_
  have q:=(rel.val k).BZ
  rw [Option.isSome_map] at q
  rw [<- q,<- l]
  exact h _ (I.tok _)
theorem dR {ob:HO} (I:Inv X pins σ H s) (mu:Eg (H a)) (hs:Heap.SameBut a s.heap h') (he:∃ q,h'.get? a=some q) (new:bg X.prog X.w (upd H a ob) h' a ob):
  Inv X pins σ (upd H a ob) {s with heap:=h',toks:=t'}:=
 I.write (x:=a) (e:=a) mu (.inl rfl) (fun b q hb z=>(hs.2 b hb).trans z) he new
theorem lF {kvs:List (Key×V)} (z:kvs.length<=sizeLine) (hd:(a==sysModules)=false) (rel:KV kvs vs) (dd:h'.DictOf (cg P w) a vs):
  bg P w H' h' a (.dK kvs):=⟨z,hd,vs,rel,dd⟩
theorem wD {Q:Unit->Shared->Prop} (hu:A.units+1 < cLine) (I:Inv X pins σ H s) (g:yz H a y v H') (ry:RelV y u) (rv:RelV v r) (h:∀ s',Inv X pins σ H' s'->Q () s'):
  wpAny (model X.prog X.w) A (setItem (.ref a) u r) Q E s:=by
 rcases g with ⟨kvs,k,e,ey,l,eH⟩ | ⟨kvs,k,b,e,ey,eb,l,eH⟩
 ·subst ey eH
  obtain ⟨z,hd,vs,rel,dd⟩:=pB I.hok e
  have hz:vs.length<=sizeLine:=by rw [<- rel.length];exact z
  have hl:(putK kvs k v).length<=sizeLine:=by have:=bT kvs k v;omega
  refine wpAny_setItem_pairs (hsz:=hz) (gA ry) dd fun h' ia hs=>h _ ?_
  have he:∃ q,h'.get? a=some q:=let ⟨q,_,_,hq,_⟩:=ia;⟨q,hq⟩
  exact dR I (by rw [e];exact True.intro) hs he (lF hl hd (rel.put k rv) ia)
 ·subst ey eH
  cases (show u=Value.ref b from ry)
  obtain ⟨z,hd,xs,rel,dd⟩:=yA I.hok e
  have hz:xs.length<=sizeLine:=by rw [<- Paired.length rel];exact z
  have hl:(putK kvs k v).length<=sizeLine:=by have:=bT kvs k v;omega
  refine wpAny_setItem_heap (hsz:=hz) (tupleKind_room_in1 hu) (iH I.hok eb) dd fun h' ia hs=>h _ ?_
  obtain ⟨q,es,ep,hq,h2,h3,h4,_,h5⟩:=ia
  refine dR I (by rw [e];exact True.intro) hs ⟨q,hq⟩ ⟨hl,hd,_,(rel.put k eb rv).keeps fun c ys ec=>?_,q,es,ep,hq,h2,h3,h4,h5⟩
  refine ec.upd fun u hu z=>?_
  subst z
  rcases ec with ec | ⟨_,ec⟩<;>(rw [e] at ec;cases ec)
end
section
variable {kvs:List (Key×V)} {k:Key}
theorem vU {Q:Unit->Shared->Prop} (I:Inv X pins σ H s) (e:H a=some (.dK kvs)) (ry:RelV (kV k) u) (l:(av kvs k).isSome=true) (h:∀ s',Inv X pins σ (upd H a (.dK (qz kvs k))) s'->Q () s'):
  wpAny (model X.prog X.w) A (delItem (.ref a) u) Q E s:=by
 obtain ⟨z,hd,vs,rel,dd⟩:=pB I.hok e
 refine wpAny_delItem_slot dd.typeIs (by decide) PySem.F.slot_dict_delitem
  (call_meetsIn PySem.F.slot_dict_delitem dd.typeIs PySem.F.entry_dict_delitem (PySem.F.args_dict_delitem_2 _ _) (meets_dict_delitem_pairs (cg X.prog X.w) a (gA ry)) ⟨vs,dd,by rw [<- rel.length];exact z,by rw [<- (rel.val k).BZ];exact l,fun h' ia hs=>h _ ?_⟩)
 have he:∃ q,h'.get? a=some q:=let ⟨q,_,_,hq,_⟩:=ia;⟨q,hq⟩
 exact dR I (by rw [e];exact True.intro) hs he (lF (Nat.le_trans (yW kvs k) z) hd (rel.drop k) ia)
theorem Tw (I:Inv X pins σ H s) (e:Rd H a (.dK kvs)) (h:∀ t s',Inv X pins σ H s'->Q (.int kvs.length t) s'):wpAny (model X.prog X.w) A (call (.builtin "len") [.ref a]) Q E s:=by
 obtain ⟨z,hd,vs,rel,dd⟩:=iT I.hok e
 refine call_len_dict hd dd (by rw [<- rel.length];rw [QM] at z;omega) ?_
 rw [<- rel.length]
 exact h _ _ (I.tok _)
end
def Gj (i:Expr):Prop:=∀ ov iv,subscripted i false ov iv=operate [ov,iv] (getItem ov iv)
theorem tT {value slice:Expr} {pos:Pos} {id:String}
  (hl:typeLookup (.type T) "__getitem__"=pure (some (.builtin id))) (hs:Gj slice)
  (h:wpAny (model prog w) A (eval value env) (fun o s₁=>wpAny (model prog w) A (eval slice env) (fun i s₂=>s₂.TypeIs o T/\wpAny (model prog w) A (getItem o i) Q E s₂) E s₁) E s):
  wpAny (model prog w) A (eval (.Subscript value slice pos) env) Q E s:=by
 refine Subscript_ (wpAny_mono h (fun o s₁ h₁=>wpAny_mono h₁ (fun i s₂ h₂=>?_) fun _ _ x=>x) fun _ _ x=>x)
 obtain ⟨hT,h₂⟩:=h₂
 unfold subscriptTail
 refine QU ?_
 rw [getitemInPython_of_ne hT.not_modules]
 refine QU (wpAny_specialOf hT hl ?_)
 have fin:wpAny (model prog w) A (subscripted slice false o i) (fun r s₃=>wpAny (model prog w) A (letTemporaryGo value o r >>=fun _=>pure r) Q E s₃) E s₂:=by
  rw [hs o i]
  exact wpAny_operating (wpAny_mono h₂ (fun r s₃ h₃=>QU (wpAny_letTemporaryGo (QV h₃))) fun _ _ x=>x)
 first
  | exact QV (QU fin)
  | exact QU (QV (QU fin))
  | exact QU fin
theorem pF {y:V} {o:Option V} (I:Inv X pins σ H s) (g:dj H a y o):s.TypeIs (.ref a) "dict":=by
 rcases g with ⟨kvs,k,e,_,_⟩ | ⟨kvs,k,b,e,_,_,_⟩
 ·obtain ⟨_,_,vs,_,dd⟩:=iT I.hok e
  exact dd.typeIs
 ·obtain ⟨_,_,xs,_,dd⟩:=mJ I.hok e
  exact dd.typeIs
def L7 (td ty:TE):TE:=fun σ H Q=>td σ H fun x H1=>ty σ H1 fun y H2=>∃ a v,x=.ref a/\dj H2 a y (some v)/\Q v H2
def L8 (td ty tv:TE):TS:=fun D σ H=>tv σ H fun v H1=>td σ H1 fun x H2=>ty σ H2 fun y H3=>∃ a H4,x=.ref a/\yz H3 a y v H4/\D.nx σ H4
def L_ (td ty:TE):TS:=fun D σ H=>td σ H fun x H1=>ty σ H1 fun y H2=>∃ a kvs k,x=.ref a/\H2 a=some (.dK kvs)/\y=kV k/\(av kvs k).isSome=true/\D.nx σ (upd H2 a (.dK (qz kvs k)))
section
variable {o i value:Expr} {pos pos' vf:Pos} {td ty tv:TE}
theorem Tz (hu:X.A.units+1 < cLine) (ho:PE X o td) (hi:PE X i ty) (hs:Gj i):PE X (.Subscript o i pos) (L7 td ty):=by
 intro pins s σ H Q I h
 refine tT PySem.F.slot_dict_getitem.lookup hs (ao (ho pins s σ H _ I h) fun u s1 ⟨x,H1,I1,rx,q1⟩=>ao (hi pins s1 σ H1 _ I1 q1) fun iv s2 ⟨y,H2,I2,ry,a,v,ex,g,q2⟩=>?_)
 subst ex
 obtain rfl:u=Value.ref a:=rx
 exact ⟨pF I2 g,uZ hu I2 g ry fun w' s3 I3 ug=>⟨v,H2,I3,ug,q2⟩⟩
theorem TF (hu:X.A.units+1 < cLine) (ho:PE X o td) (hi:PE X i ty) (hv:PE X value tv) (hs:swapsWith value (some (.Subscript o i pos')) pos.line X.env=pure false):
  PS X (.Assign [.Subscript o i pos'] value pos) (L8 td ty tv):=by
 intro pins s σ H D I h
 refine wpAny_Assign_Subscript (ao (hv pins s σ H _ I h) fun r s1 ⟨v,H1,I1,rv,q1⟩=>ao (ho pins s1 σ H1 _ I1 q1) fun u s2 ⟨x,H2,I2,rx,q2⟩=>ao (hi pins s2 σ H2 _ I2 q2) fun iv s3 ⟨y,H3,I3,ry,a,H4,ex,g,q3⟩=>?_) hs
 subst ex
 obtain rfl:u=Value.ref a:=rx
 exact wD hu I3 g ry rv fun s4 I4=>⟨σ,H4,I4,q3⟩
theorem TJ (ho:PE X o td) (hi:PE X i ty):PS X (.Delete [.Subscript o i vf] pos) (L_ td ty):=by
 intro pins s σ H D I h
 refine wpAny_Delete (wpAny_deleteEach_cons (wpAny_delete_Subscript (ao (ho pins s σ H _ I h) fun u s1 ⟨x,H1,I1,rx,q1⟩=>ao (hi pins s1 σ H1 _ I1 q1) fun iv s2 ⟨y,H2,I2,ry,a,kvs,k,ex,e,ey,l,q2⟩=>?_)))
 subst ex ey
 obtain rfl:u=Value.ref a:=rx
 exact vU I2 e ry l fun s3 I3=>wpAny_deleteEach_nil ⟨σ,_,I3,q2⟩
end
theorem zA (h:Heap) (hb:sysModules < h.objs.size):bg P w H (h.push {cls:=.type "dict",data:=.dict #[]}) h.objs.size (.dK []):=
 ⟨Nat.zero_le _,beq_eq_false_iff_ne.mpr (Ne.symm (Nat.ne_of_lt hb)),[],.nil,Heap.DictOf.new h⟩
theorem pQ (h:Heap) (hb:sysModules < h.objs.size):bg P w H (h.push {cls:=.type "dict",data:=.dict #[]}) h.objs.size (.dT []):=
 ⟨Nat.zero_le _,beq_eq_false_iff_ne.mpr (Ne.symm (Nat.ne_of_lt hb)),[],.nil,_,#[],0,Qd _ rfl,⟨rfl,rfl,rfl⟩,rfl,rfl,List.nodup_nil⟩
def Ma:TE:=fun _ H Q=>∀ p,H p=none->Q (.ref p) (upd H p (.dK []))
def Mb:TE:=fun _ H Q=>∀ p,H p=none->Q (.ref p) (upd H p (.dT []))
section
variable {pos:Pos}
theorem yT:PE X (.Dict [] [] pos) Ma:=fun pins s σ H Q I h=>
 wpAny_Dict_empty ⟨.ref s.heap.objs.size,_,I.laid (a:=s.heap.objs.size) (o:=.dK []) (t':=s.toks) (fun _ _ q=>Qc _ q) (Qz _) (zA s.heap I.big),rfl,h _ (I.hok.fresh (Qz _))⟩
theorem yX:PE X (.Dict [] [] pos) Mb:=fun pins s σ H Q I h=>
 wpAny_Dict_empty ⟨.ref s.heap.objs.size,_,I.laid (a:=s.heap.objs.size) (o:=.dT []) (t':=s.toks) (fun _ _ q=>Qc _ q) (Qz _) (pQ s.heap I.big),rfl,h _ (I.hok.fresh (Qz _))⟩
end
structure M2 (X:Cx) (o:Expr) (m:Str) (apos:Pos) (e f:Expr) (cpos:Pos):Prop where
 base:attributeBase o m X.env (eval o X.env)=eval o X.env
 few:((backTo cpos (starEach [e,f] X.env)).all (fun x=> !x.1)&&(backToKw cpos (keywordEach [] X.env)).all (fun x=>x.1.isSome)
  &&decide (([e,f]:List Expr).length+([]:List Keyword).length+(if ([]:List Keyword).isEmpty then 0 else 1) < 30))=true
 line:(apos.endLine==cpos.line)=true
 trees:backTo cpos (starEach [e,f] X.env)=[(false,eval e X.env),(false,eval f X.env)]
def Il (H:Hp) (a:Addr):Prop:=(∃ kvs,Rd H a (.dK kvs))\/∃ kvs,Rd H a (.dT kvs)
theorem wJ (I:Inv X pins σ H s) (d:Il H a):
  s.TypeIs (.ref a) "dict"/\(∀ b,Value.ref a=.ref b->∃ ob,s.heap.get? b=some ob/\ob.dict=none)/\(a==sysModules)=false:=by
 rcases d with ⟨kvs,e⟩ | ⟨kvs,e⟩
 ·obtain ⟨_,hd,vs,_,dd⟩:=iT I.hok e
  refine ⟨dd.typeIs,fun b q=>?_,hd⟩
  cases q
  obtain ⟨ob,_,_,h1,h2,_⟩:=dd
  exact ⟨ob,h1,h2.2.1⟩
 ·obtain ⟨_,hd,xs,_,dd⟩:=mJ I.hok e
  refine ⟨dd.typeIs,fun b q=>?_,hd⟩
  cases q
  obtain ⟨ob,_,_,h1,h2,_⟩:=dd
  exact ⟨ob,h1,h2.2.1⟩
section
variable {y d:V} {r:Value} {o:Option V}
end
section
variable {o f:Expr} {td ty tx:TE}
end
section
variable {kvs:List (Key×V)}
end
section
variable {y:V}
end
end L2
namespace Mc
open PySem PySem.W PySem.Calls PyProof.Rows
theorem kM {P:Params}:∀ (ns:List Int) (vs:List Value),WellAll P h vs (ns.map WData.int)->IntsAre vs ns:=by
 intro ns
 induction ns with
 | nil=>
  intro vs w
  rw [List.map_nil] at w
  cases w
  exact .nil
 | cons n ns ih=>
  intro vs w
  rw [List.map_cons] at w
  cases w with
  | cons a b=>
   cases a
   exact .cons _ _ (ih _ b)
theorem vR {l:OpenLaw} (hn:l.most=some n) {P:Params} {args:List WData} {vals:List Value}
  (Ag:l.row.toRowW.claim.pre args=true) (Im:WellAll P h vals args):
  ∃ a vs ns,vals=[Value.ref a]/\args=[WData.list (ns.map WData.int)]/\h.get? a=some {cls:=.type "list",data:=.seq vs.toArray}/\IntsAre vs ns/\ns.length<=n:=by
 have TL:WShape.hasAll [] args [.list .int]=true:=(pre_splitW Ag).1
 have hc:l.pre.holds [] {args:=args}=true:=(pre_splitW Ag).2
 obtain ⟨d,r,rfl,h1,h2⟩:=hasAllW_cons TL
 obtain rfl:=hasAllW_nil h2
 obtain ⟨xs,rfl,h3⟩:=hasW_list h1
 obtain ⟨ns,rfl⟩:=items_int h3
 have c_:ns.length<=n:=by
  unfold OpenLaw.pre at hc
  have h4:(WTm.not (.lt (.lit (.int (n:Int))) (.len (.arg 0)))).holds [] {args:=[.list (ns.map .int)]}=true:=by
   have h4:=(holds_andW hc).1
   rw [hn] at h4
   exact h4
  have h5:=condW_of h4 (w_not (w_lt w_lit (w_len_list (w_arg rfl))))
  rw [Ql] at h5
  refine Nat.le_of_not_lt fun q=>?_
  have q':(n:Int) < ((ns.length:Nat):Int):=by omega
  first
   | (rw [Qw q'] at h5;exact absurd h5 (by decide))
   | (simp at h5;omega)
 cases Im with
 | cons w1 w2=>
  cases w2
  cases w1 with
  | list ho C8=>exact ⟨_,_,ns,rfl,rfl,ho,kM ns _ C8,c_⟩
theorem vM (l:OpenLaw) (args:List WData):l.row.toRowW.claim.post args (.bool true) args=true:=
 postW_of (r:=l.row.toRowW) (X:=(true==true))
  (show WShape.has [] (.bool true) .bool=true by first | rfl | decide | simp [WShape.has,WShape.arms,WShape.armsAll])
  (show (WTm.eq .res (.lit (.bool true))).value [] {args:=args,res:=some (.bool true),after:=args}=some (.bool (true==true)) from w_eq_bool (w_res rfl) w_lit) rfl
theorem qI {l:OpenLaw} {q:Program} {loose:List Str} {YP:World->Heap->Prop} {d:DefRec}
  (hn:l.most=some n) (Io:d.params.defaults=[])
  (call:∀ (w:World) (s₀ s₁:Shared) (mg mb:Str->Option Value) (fa:Addr) (o:Obj) (pm cd doc:Value) (a:Addr) (vs:List Value) (ns:List Int),
   Ground q loose [] XP w s₀ mg mb s₁.heap->YP w s₁.heap->
   s₁.heap.get? fa=some o->o.data=.func (docDef d.name d.params d.body d.scope pm cd doc)->s₁.heap.CodeRec cd d.name->mg d.name=some (.ref fa)->
   s₁.heap.get? a=some {cls:=.type "list",data:=.seq vs.toArray}->IntsAre vs ns->ns.length<=n->s₁.gens=#[]->
   codeAny (model l.prog w) callerA (.call (.ref fa) ⟨[.ref a],[]⟩) (fun r s'=>r=.ok (.ret (.bool true))/\OldK s₁.heap s'.heap/\s'.os=s₁.os/\AllBare s'.gens) s₁):
  WalkO q loose XP YP l.row.toRowW d [] (fun f vs=>PySem.call f vs):=by
 intro w s₀ s₁ mg mb G Y fa o pm cd doc dV kV ho hd qm hD C9 hg args vals as Ag aaD TM Im hlo
 obtain rfl:dV=.none:=Dflts.none hD Io
 obtain rfl:kV=.none:=Dflts.noKw hD
 obtain ⟨a,vs,ns,rfl,rfl,Ip,Iq,c_⟩:=vR hn Ag Im
 refine enter_call (codeAny_mono (call w s₀ s₁ mg mb fa o pm cd doc a vs ns G Y ho (fd_plain hd) qm C9 Ip Iq c_ hg) fun r s' hq=>?_)
 obtain ⟨rfl,h2,h3,h4⟩:=hq
 exact ⟨.inl ⟨.bool true,.bool true,[],rfl,fun _=>rfl,.bool true,vM l _,fun _=>⟨List.Pairwise.nil,fun _ hm=>(nomatch hm)⟩⟩,h2,h3,h4⟩
section
variable {K:Frag}
end
end Mc
namespace L2
open PySem PySem.Spec PyProof.Rows
theorem mT:∀ {vs:List Value} {ns:List Int},IntsAre vs ns->az (ns.map V.int) vs
 | _,_,.nil=>.nil
 | _,_,.cons n t h=>.cons ⟨t,rfl⟩ (mT h)
def inClass (s:Stmt) (j:Nat):Stmt:=match s with
 | .ClassDef _ _ _ body _ _ _ _ _ _ _=>body.getD j (.Pass ⟨0,0,0,0⟩)
 | _=>.Pass ⟨0,0,0,0⟩
def ni (s:Stmt):Arguments:=match s with
 | .FunctionDef _ a _ _ _ _ _ _ _ _=>a
 | _=>{posonlyargs:=[],args:=[],vararg:=none,kwonlyargs:=[],kw_defaults:=[],kwarg:=none,defaults:=[]}
def jj (s:Stmt):List Stmt:=match s with
 | .FunctionDef _ _ b _ _ _ _ _ _ _=>b
 | _=>[]
def a_ (s:Stmt):Scope:=match s with
 | .FunctionDef _ _ _ _ _ _ sc _ _ _=>sc
 | _=>{kind:=.function,names:=[],isGenerator:=false,isCoroutine:=false}
abbrev xj:w_:=fun _ _ _ _ _ _=>False
abbrev E0:XK:=fun _ _ _=>False
theorem Ex:AO xj X E0:=fun _ _ _ _ _ _ _ h=>h.elim
structure Ah (K:Q1) (x qual:Str) (st:Stmt) (f:Addr) (fd:FuncData):Prop where
 ex:∃ (oc:Value) (od:Option Addr) (kV doc pm:Value) (an:Option Addr) (ay ct:Value) (qy:Array (Option Value)),
  fd=PySem.W.fnOf x qual (ni st) (jj st) (a_ st) .none kV doc pm an ay ct/\K.lookup f=some ⟨oc,od,.func fd,qy⟩/\PySem.W.codeIn K ay qual=true
 kp:PySem.W.keepIn K (.ref f)=true
section
variable {K:Q1}
theorem Ah.ok {qual:Str} {st:Stmt} {f:Addr} {k:Nat} {sp:Sp} (F:Ah K x qual st f fd) (S:ee N ps (a_ st)) (len:∀ vs H Q E,sp vs H Q E->vs.length=ps.length)
  (xf:∀ (ay:Value) (A:Around) (outer:List Env) (s:Shared) (H:Hp) (vs:List V) (Q:VK) (E:XK),di k (A.deeper (envOfC qual (a_ st) s.heap.objs.size f ay))->sp vs H Q E->
   ∃ t,qj (yu xj P w K mg base N qual (a_ st) f ay A outer s H E).AL (jj st) t/\t {nx:=fun _ H'=>Q .ai H',rt:=Q} (start N vs) H):mz P w K mg base xj (k+1) f fd ps sp:=by
 obtain ⟨oc,od,kV,doc,pm,an,ay,ct,qy,rfl,lk,qm⟩:=F.ex
 refine SK lk qm S len fun A outer s H vs Q E hr AQ=>?_
 obtain ⟨t,h,q⟩:=xf ay A outer s H vs Q E hr AQ
 exact ⟨t,h.AL,q⟩
theorem Ah.binds {qual:Str} {st:Stmt} {f:Addr} (F:Ah K x qual st f fd)
  (h:∀ (kV doc pm:Value) (an:Option Addr) (ay ct:Value) (us:List Value),us.length=ps.length->bindArgs (PySem.W.fnOf x qual (ni st) (jj st) (a_ st) .none kV doc pm an ay ct) ⟨us,[]⟩=pure (ps.zip us)):Binds K fd ps []:=by
 obtain ⟨oc,od,kV,doc,pm,an,ay,ct,qy,rfl,lk,qm⟩:=F.ex
 exact .all (h kV doc pm an ay ct)
theorem TN {qual:Str} {st:Stmt} {f:Addr} {oc:Value} {od an:Option Addr} {qy:Array (Option Value)} {kV doc pm ay ct:Value} (l:K.lookup f=some ⟨oc,od,.func (PySem.W.fnOf x qual (ni st) (jj st) (a_ st) .none kV doc pm an ay ct),qy⟩)
  (c:PySem.W.codeIn K ay qual=true) (k:PySem.W.keepIn K (.ref f)=true):Ah K x qual st f (PySem.W.fnOf x qual (ni st) (jj st) (a_ st) .none kV doc pm an ay ct):=⟨⟨oc,od,kV,doc,pm,an,ay,ct,qy,rfl,l,c⟩,k⟩
end
theorem aV {k:Nat} (hr:di k A):A.units+1 < cLine:=Nat.lt_of_le_of_lt (Nat.add_le_add_left (by decide:1<=64) _) hr.units
theorem TQ (h:n<=1000):n < sizeLine:=Nat.lt_of_le_of_lt h (by decide)
theorem Ai {A B:Prop} (h:B):if false=true then A else B:=by
 rw [if_neg Bool.false_ne_true]
 exact h
theorem B0 {A B:Prop} (h:A):if true=true then A else B:=by
 rw [if_pos rfl]
 exact h
theorem Gk {c A B:Prop} [Decidable c] (h1:c->A) (h2:¬c->B):if c then A else B:=by
 by_cases h:c
 ·rw [if_pos h]
  exact h1 h
 ·rw [if_neg h]
  exact h2 h
def aa (H H':Hp):Prop:=∀ b o,H b=some o->H' b=some o
theorem aa.refl (H:Hp):aa H H:=fun _ _ h=>h
theorem aa.trans {H1 H2:Hp} (a:aa H H1) (b:aa H1 H2):aa H H2:=fun c o h=>b c o (a c o h)
theorem aa.free (e:aa H H') (h:H' l=Option.none):H l=Option.none:=by
 cases q:H l with
 | none=>rfl
 | some o=>
  rw [e l o q] at h
  cases h
section
variable [DecidableEq κ]
theorem gW {kvs:List (κ×V)} {k:κ} {v:V} (h:av kvs k=some v):k∈kvs.map (·.1):=by
 have q:(kvs.any fun kv=>decide (kv.1=k))=true:=by
  rw [dE,h]
  all_goals rfl
 obtain ⟨p,hp,e⟩:=List.any_eq_true.mp q
 exact List.mem_map.mpr ⟨p,hp,Qt e⟩
end
theorem iE {env:Env}:∀ (names:List (Str×NameKind)) (acc:List (Str×Addr)),
  (∀ y∈names,y.2=.free->∃ c,env.cells.lookup y.1=some c)->(∀ x c,acc.lookup x=some c->env.cells.lookup x=some c)->
  ∃ cl,(forIn names acc fun (x:Str×NameKind) cs=>(if (x.2==NameKind.free)=true then (do let c <- cellOf env x.1;pure (ForInStep.yield ((x.1,c)::cs))) else pure (ForInStep.yield cs):Sem (ForInStep (List (Str×Addr)))))=pure cl/\
   (∀ x c,cl.lookup x=some c->env.cells.lookup x=some c)/\(∀ y∈names,y.2=.free->∃ c,cl.lookup y.1=some c)/\(∀ x c,acc.lookup x=some c->∃ c,cl.lookup x=some c)
 | [],acc,_,ha=>⟨acc,rfl,ha,(fun _ h=>nomatch h),fun x c h=>⟨c,h⟩⟩
 | (n,k)::r,acc,h,ha=>by
  rw [List.forIn_cons]
  by_cases hk:k=.free
  ·obtain ⟨c,hc⟩:=h (n,k) List.mem_cons_self hk
   have wo:cellOf env n=pure c:=by unfold cellOf;rw [show env.cells.lookup n=some c from hc]
   have TR:∀ x d,((n,c)::acc).lookup x=some d->env.cells.lookup x=some d:=fun x d hx=>by
    rw [List.lookup_cons] at hx
    cases e:x==n with
    | true=>rw [e] at hx;cases hx;rw [eq_of_beq e];exact hc
    | false=>rw [e] at hx;exact ha x d hx
   obtain ⟨cl,e,h1,h2,h3⟩:=iE r ((n,c)::acc) (fun y hy=>h y (Qh _ hy)) TR
   refine ⟨cl,?_,h1,fun y hy hf=>?_,fun x d hx=>?_⟩
   ·have Gm:(k==NameKind.free)=true:=by rw [hk];rfl
    simp only [Gm,if_true,wo,pure_bind]
    exact e
   ·rcases Qp.mp hy with z | hy
    ·rw [z];exact h3 n c (by simp [List.lookup_cons])
    ·exact h2 y hy hf
   ·cases e2:x==n with
    | true=>exact h3 x c (by simp [List.lookup_cons,e2])
    | false=>exact h3 x d (by simp [List.lookup_cons,e2,hx])
  ·have Gm:(k==NameKind.free)=false:=by simpa using hk
   obtain ⟨cl,e,h1,h2,h3⟩:=iE r acc (fun y hy=>h y (Qh _ hy)) ha
   refine ⟨cl,?_,h1,fun y hy hf=>?_,h3⟩
   ·simp only [Gm,Bool.false_eq_true,if_false,pure_bind]
    exact e
   ·rcases Qp.mp hy with z | hy
    ·rw [z] at hf;exact absurd hf hk
    ·exact h2 y hy hf
theorem sK (h:∀ y∈sc.names,y.2=.free->∃ c,env.cells.lookup y.1=some c):
  ∃ cl,closureFor sc env=pure cl/\(∀ x c,cl.lookup x=some c->env.cells.lookup x=some c)/\(∀ y∈sc.names,y.2=.free->∃ c,cl.lookup y.1=some c):=by
 obtain ⟨cl,e,h1,h2,_⟩:=iE (env:=env) sc.names [] h (fun _ _ h=>nomatch h)
 refine ⟨cl,?_,h1,h2⟩
 unfold closureFor
 have e':(forIn sc.names ([]:List (Str×Addr)) fun (x:Str×NameKind) cs=>(if (x.2==NameKind.free)=true then (do let c <- cellOf env x.1;pure (ForInStep.yield ((x.1,c)::cs))) else pure (ForInStep.yield cs):Sem (ForInStep (List (Str×Addr))))) >>=(fun cs=>(pure cs:Sem _))=pure cl:=by rw [e];rfl
 exact e'
theorem dM {env:Env}:∀ {names:List (Str×NameKind)} {x:Str},names.lookup x=some .free->
  (names.map fun (n,k)=>if (k==NameKind.free&&env.scope.kind==.function&&env.kindOf n==some .cell) then (n,NameKind.cell) else (n,k)).lookup x=some .cell\/
  (names.map fun (n,k)=>if (k==NameKind.free&&env.scope.kind==.function&&env.kindOf n==some .cell) then (n,NameKind.cell) else (n,k)).lookup x=some .free
 | [],_,h=>by simp at h
 | (n,k)::r,x,h=>by
  have ih:=@dM env r x
  show List.lookup x ((if (k==NameKind.free&&env.scope.kind==.function&&env.kindOf n==some .cell)=true then (n,NameKind.cell) else (n,k))::_)=_\/List.lookup x ((if (k==NameKind.free&&env.scope.kind==.function&&env.kindOf n==some .cell)=true then (n,NameKind.cell) else (n,k))::_)=_
  cases hx:x==n with
  | true=>
   simp only [List.lookup_cons,hx] at h
   cases h
   by_cases hc:(NameKind.free==NameKind.free&&env.scope.kind==.function&&env.kindOf n==some .cell)=true
   ·rw [if_pos hc];simp [List.lookup_cons,hx]
   ·rw [if_neg hc];simp [List.lookup_cons,hx]
  | false=>
   simp only [List.lookup_cons,hx] at h
   by_cases hc:(k==NameKind.free&&env.scope.kind==.function&&env.kindOf n==some .cell)=true
   ·rw [if_pos hc];simp only [List.lookup_cons,hx];exact ih h
   ·rw [if_neg hc];simp only [List.lookup_cons,hx];exact ih h
theorem jW {names:List (Str×NameKind)} {k:NameKind}
  (h:(names.map fun (n,k)=>if (k==NameKind.free&&env.scope.kind==.function&&env.kindOf n==some .cell) then (n,NameKind.cell) else (n,k)).lookup x=some k) (hk:k=.cell\/k=.free) (hc:∀ y∈names,y.2≠.cell):(x,NameKind.free)∈names:=by
 have hm:=PySem.mem_of_lookup h
 obtain ⟨⟨n,k'⟩,h1,h2⟩:=List.mem_map.mp hm
 dsimp only at h2
 split at h2
 ·next hh=>
  cases h2
  have:k'=.free:=by
   simp only [Bool.and_eq_true,beq_iff_eq] at hh
   exact hh.1.1
  rw [<- this];exact h1
 ·cases h2
  rcases hk with z | z
  ·exact absurd z (hc _ h1)
  ·rw [<- z];exact h1
abbrev bz (X:Cx) (N':List Str) (sc:Scope) (cl:List (Str×Addr)) (C:Addr) (s3:Shared) (H0:Hp) (fp:List Addr) (pn:List (Addr×Obj)):Cx where
 prog:=X.prog
 w:=X.w
 K:=X.K
 mg:=X.mg
 base:=X.base
 A:=X.A
 N:=N'
 s₀:=s3
 H₀:=H0
 env:=compEnvC sc cl C X.env
 outer:=X.stack
 stack:=X.stack
 ex:=fp
 fn:=fun _=>false
 calm:=X.calm
 pn:=pn
 xe:=fun _ _=>False
structure o_ (C_:Scope) (oN:List Str) (sc:Scope) (own:List Str) (idx:List Nat) (N':List Str):Prop where
 kind:sc.kind=.function
 cell:∀ y∈sc.names,y.2≠.cell
 names:∀ y∈sc.names,y.2=.local->sc.names.lookup y.1=some .local
 free:∀ y∈sc.names,y.2=.free->(C_.names.lookup y.1=some .cell\/C_.names.lookup y.1=some .free)
 seen:∀ j∈idx,sc.names.lookup (oN.getD j "")=some .free/\j < oN.length
 nn:N'=own++idx.map (fun j=>oN.getD j "")
def uh (own:List Str) (idx:List Nat) (σ:St):St:=List.replicate own.length none++idx.map fun j=>(σ[j]?).join
section
variable {H2:Hp} {s2:Shared}
theorem kX {cl:List (Str×Addr)} {h4:Heap} {ob:Obj} {ho:HO} {t4:Nat} (S:o_ X.env.scope X.N sc own idx N') (I:Inv X pins σ H2 s2) (hf:∀ b∈fp,qo X pins H2 b) (um:∀ b∈fp,∃ o,s2.heap.get? b=some o)
  (c1:∀ x c,cl.lookup x=some c->X.env.cells.lookup x=some c) (c2:∀ y∈sc.names,y.2=.free->∃ c,cl.lookup y.1=some c) (xn:ob.isFreed=false)
  (hD:∀ (H:Hp) (h:Heap),h.get? s2.heap.objs.size=some ob->bg X.prog X.w H h s2.heap.objs.size ho)
  (ns:h4.Ns (s2.heap.push ob).objs.size (fun x=>([]:List (Str×Value)).reverse.lookup x)) (sb:∀ b o,(s2.heap.push ob).get? b=some o->h4.get? b=some o):
  Inv (bz X N' sc cl (s2.heap.push ob).objs.size {s2 with heap:=s2.heap.push ob} (upd H2 s2.heap.objs.size ho) fp (X.pn++pins)) [] (uh own idx σ) (upd H2 s2.heap.objs.size ho) {s2 with heap:=h4,toks:=t4}:=by
 have hsz:(s2.heap.push ob).objs.size=s2.heap.objs.size+1:=Heap.size_push _ _
 have Ir:H2 s2.heap.objs.size=none:=I.hok.fresh (Qz _)
 have up:∀ b o,s2.heap.get? b=some o->(s2.heap.push ob).get? b=some o:=fun b o e=>Qc _ e
 have Gn:∀ b o,s2.heap.get? b=some o->h4.get? b=some o:=fun b o e=>sb b o (up b o e)
 have TU:∀ b o,s2.heap.get? b=some o->b≠s2.heap.objs.size:=fun b o e=>Nat.ne_of_lt (QA e)
 have nh:∀ b o,s2.heap.get? b=some o->H2 b=none->upd H2 s2.heap.objs.size ho b=none:=fun b o e n=>by rw [aB (TU b o e)];exact n
 have TV:∀ b∈mi X.stack,∃ o,s2.heap.get? b=some o:=fun b hb=>by
  obtain ⟨_,o,ho,_⟩:=I.stack.mem hb
  exact ⟨o,ho⟩
 have TY:∀ x c,cl.lookup x=some c->∃ o,s2.heap.get? c=some o:=fun x c e=>by
  obtain ⟨v,o,ho,_⟩:=I.cell x c (c1 x c e)
  exact ⟨o,ho⟩
 have eD:(s2.heap.push ob).get? s2.heap.objs.size=some ob:=Qd s2.heap xn
 have TZ:fg X.prog X.w (upd H2 s2.heap.objs.size ho) h4:=I.hok.laid Gn (Qz _) (hD _ _ (sb _ _ eD))
 refine ⟨⟨I.ok.mod,S.kind,I.ok.glob,I.ok.blt,Qz _,fun x y c h1 h2=>I.ok.inj x y c (c1 x c h1) (c1 y c h2),fun x hx=>?_,(fun x c hx _=>nomatch hx),I.ok.hd,I.ok.frames,.inl rfl,fun b hb=>⟨?_,fun x c e=>?_⟩,fun b o e=>⟨?_,?_⟩,?_,fun b o e hb=>?_,fun b hb=>?_,?_,fun b hb=>?_⟩,
  rfl,I.bare,Un.kept sb,⟨_,ns,fun i x v h1 h2 h3=>?_⟩,fun x c e=>?_,?_,fun x c e=>?_,fun p hp=>?_,TZ,?_⟩
 ·rcases hx with hx | hx
  ·exact c2 (x,.free) (jW hx (.inl rfl) S.cell) rfl
  ·exact c2 (x,.free) (jW hx (.inr rfl) S.cell) rfl
 ·obtain ⟨o,e⟩:=um b hb
  have:=QA e
  show b≠(s2.heap.push ob).objs.size
  rw [hsz];exact Nat.ne_of_lt (Nat.lt_succ_of_lt this)
 ·exact (hf b hb).2.2.2.2.1 x c (c1 x c e)
 ·exact up b o (I.bk b o e)
 ·exact nh b o (I.bk b o e) (I.bs b o e).2
 ·show X.base.objs.size<=(s2.heap.push ob).objs.size
  have:=Nat.le_trans I.ok.Aa I.sz
  rw [hsz];omega
 ·obtain ⟨f0,f1,f2,f3,f4,f5⟩:=hf b hb
  rcases f3 with z | z
  ·exact I.ok.Ej b o e z
  ·exact absurd (QA e) (Nat.not_lt.mpr (Nat.le_trans I.ok.Aa z))
 ·obtain ⟨f0,f1,f2,f3,f4,f5⟩:=hf b hb
  intro z
  rcases Qp.mp (I.BI b z) with z | z
  ·exact f1 z
  ·exact f2 z
 ·exact Heap.FunFrames.of_keeps (fun b o e _=>⟨o,up b o e,rfl⟩) I.stack
 ·obtain ⟨o,e⟩:=TV b hb
  exact nh b o e (I.Ly b hb)
 ·unfold uh at h2
  by_cases hi:i < own.length
  ·rw [Qg (by simpa using hi),List.getElem?_replicate,if_pos hi] at h2
   cases h2
  ·rw [List.getElem?_append_right (by simpa using hi),List.length_replicate,Qq] at h2
   have AZ:N'[i]? =some x:=h1
   rw [S.nn,List.getElem?_append_right (by simpa using hi),Qq] at AZ
   cases ej:idx[i - own.length]? with
   | none=>rw [ej] at AZ;cases AZ
   | some j=>
    rw [ej] at AZ h2
    obtain ⟨Gp,jq⟩:=S.seen j (QD ej)
    have hx:X.N[j]? =some x:=by
     have:X.N.getD j ""=x:=QE AZ
     rw [<- this,Qb,Qa jq];rfl
    have hv:σ[j]? =some (some v):=by
     have uo:(σ[j]?).join=some v:=QE h2
     cases q:σ[j]? with
     | none=>rw [q] at uo;cases uo
     | some w=>rw [q] at uo;exact congrArg some uo
    have Me:sc.names.lookup x=some .free:=by
     have:X.N.getD j ""=x:=QE AZ
     rw [<- this];exact Gp
    have jf:(x,NameKind.free)∈sc.names:=PySem.mem_of_lookup Me
    obtain ⟨m,hn,hl⟩:=I.loc
    have T3:Eh X.env.scope x:=by
     rcases S.free _ jf rfl with z | z
     ·exact .inr (.inl z)
     ·exact .inr (.inr z)
    obtain ⟨u,r,lk⟩:=hl j x v hx hv T3
    refine ⟨u,r,?_⟩
    rcases lk with ⟨k,_⟩ | ⟨k,c,e,z⟩
    ·rcases S.free _ jf rfl with q | q
     ·have q':X.env.kindOf x=some .cell:=q
      rw [q'] at k;cases k
     ·have q':X.env.kindOf x=some .free:=q
      rw [q'] at k;cases k
    ·obtain ⟨c',wo⟩:=c2 (x,.free) jf rfl
     have e':=c1 x c' wo
     rw [e] at e'
     cases e'
     refine .inr ⟨?_,c,wo,?_⟩
     ·rcases dM (env:=X.env) Me with q | q
      ·exact .inl q
      ·exact .inr q
     ·obtain ⟨o,wj,hd⟩:=z
      exact ⟨o,Gn c o wj,hd⟩
 ·obtain ⟨v,o,wj,hd⟩:=I.cell x c (c1 x c e)
  exact ⟨v,o,Gn c o wj,hd⟩
 ·show upd H2 s2.heap.objs.size ho (s2.heap.push ob).objs.size=none
  rw [aB (by rw [hsz];exact Nat.ne_of_gt (Nat.lt_succ_self _))]
  exact I.hok.fresh (by rw [hsz];omega)
 ·obtain ⟨o,e1⟩:=TY x c e
  exact nh c o e1 (I.wg x c (c1 x c e))
 ·have T4:p∈X.pn++pins:=by simpa using hp
  obtain ⟨e,n,ne,nf,d⟩:=I.pin p T4
  refine ⟨Gn _ _ e,nh _ _ e n,?_,fun z=>?_,d⟩
  ·have:=QA e
   show p.1≠(s2.heap.push ob).objs.size
   rw [hsz];exact Nat.ne_of_lt (Nat.lt_succ_of_lt this)
  ·rcases Qp.mp (I.BI p.1 z) with z | z
   ·exact ne z
   ·exact nf z
 ·show (uh own idx σ).length=N'.length
  rw [S.nn];unfold uh
  simp
theorem jK {cl:List (Str×Addr)} {ob:Obj} {ho:HO} {τ:St} {s':Shared} (I:Inv X pins σ H2 s2) (hf:∀ b∈fp,qo X pins H2 b) (xn:ob.isFreed=false)
  (J:Inv (bz X N' sc cl (s2.heap.push ob).objs.size {s2 with heap:=s2.heap.push ob} (upd H2 s2.heap.objs.size ho) fp (X.pn++pins)) [] τ H' s'):
  Inv X pins σ H' s'/\H' (s2.heap.push ob).objs.size=none/\(s2.heap.push ob).objs.size≠X.env.locals/\X.s₀.heap.objs.size<=(s2.heap.push ob).objs.size/\
   (∀ x c,X.env.cells.lookup x=some c->c≠(s2.heap.push ob).objs.size)/\(∀ p∈X.pn++pins,p.1≠(s2.heap.push ob).objs.size)/\∃ m,s'.heap.Ns (s2.heap.push ob).objs.size m:=by
 have hsz:(s2.heap.push ob).objs.size=s2.heap.objs.size+1:=Heap.size_push _ _
 have u1:Un (mi X.stack) fp H2 (upd H2 s2.heap.objs.size ho) s2.heap (s2.heap.push ob):=Un.laid (fun b o e=>Qc _ e) (Qz _) (I.hok.fresh (Qz _))
 have u2:Un (mi X.stack) fp (upd H2 s2.heap.objs.size ho) H' (s2.heap.push ob) s'.heap:=J.base
 have BV:s'.os=s2.os:=J.os
 refine ⟨I.Rl BV (u1.trans u2) J.hok J.bare fun b hb=>?_,J.free,?_,?_,fun x c e z=>?_,fun p hp z=>?_,let ⟨m,hn,_⟩:=J.loc;⟨m,hn⟩⟩
 ·obtain ⟨f0,f1,f2,f3,f4,f5⟩:=hf b hb
  exact ⟨f3,f1,f4,f5⟩
 ·rw [hsz];exact Nat.ne_of_gt (Nat.lt_succ_of_lt I.lt)
 ·have:=I.sz;rw [hsz];omega
 ·obtain ⟨v,q⟩:=I.cell x c e
  have:=q.lt
  rw [z,hsz] at this;exact absurd this (Nat.not_lt.mpr (Nat.le_succ _))
 ·have:=QA (I.pin p hp).1
  rw [z,hsz] at this;exact absurd this (Nat.not_lt.mpr (Nat.le_succ _))
end
abbrev ki:Value->Shared->Prop:=fun _ _=>False
theorem T6 {elt target iter:Expr} {scope:Scope} {pos:Pos} {it acc:Value} (I:Nat->Shared->Prop)
  (turn:∀ n s,I n s->wpAny (model prog w) A (pyNext it) (fun r s₁=>match r with
   | none=>R (.ok .next) s₁
   | some v=>wpAny (model prog w) A (letOwnedTupleGo target it v) (fun _ Ey=>wpAny (model prog w) A (assign target env v) (fun _ s₂=>
     wpAny (model prog w) A (forIn ifs true fun c r=>if r=true then do let ok <- isTrue c env (eval c env);pure (ForInStep.yield ok) else pure (ForInStep.yield r)) (fun ok s₃=>
      if ok=true then wpAny (model prog w) A (eval elt env) (fun x s₄=>
       wpAny (model prog w) A (call (.builtin "list.append") [acc,x]) (fun _ s₅=>∃ m,m < n/\I m s₅) ki s₄) ki s₃
      else ∃ m,m < n/\I m s₃) ki s₂) ki Ey) ki s₁) ki s)
  (n:Nat) (h:I n s):
  codeAny (model prog w) A (.compLoop (.ListComp elt [⟨target,iter,ifs,0⟩] scope pos) 0 it acc env) R s:=by
 refine codeAny_loop rfl I (fun n s hI=>?_) n h
 show wpAny _ A ((compTurn (.ListComp elt [⟨target,iter,ifs,0⟩] scope pos) 0 it acc env).onRaise (fun x=>do noteFrame x env;theTreesLotGoes x)) _ _ s
 refine wpAny_noted ?_
 rw [compTurn_list]
 refine QU (wpAny_standAt (QU (wpAny_mono (turn n s hI) (fun r s₁ h₁=>?_) fun _ _ h'=>h'.elim)))
 cases r with
 | none=>exact QV h₁
 | some v=>
  refine QU (wpAny_mono h₁ (fun _ Ey Iu=>?_) fun _ _ h'=>h'.elim)
  refine QU (wpAny_mono Iu (fun _ s₂ h₂=>QU (wpAny_mono h₂ (fun ok s₃ h₃=>?_) fun _ _ h'=>h'.elim)) fun _ _ h'=>h'.elim)
  cases ok with
  | false=>exact QV ⟨rfl,h₃⟩
  | true=>
   exact QU (QU (wpAny_mono h₃ (fun x s₄ h₄=>QU (wpAny_mono h₄ (fun _ s₅ h₅=>QV (QV ⟨rfl,h₅⟩)) fun _ _ h'=>h'.elim)) fun _ _ h'=>h'.elim))
abbrev TC:=St->Hp->(Bool->Hp->Prop)->Prop
def uq (X:Cx) (ifs:List Expr) (t:TC):Prop:=
 ∀ (pins:List (Addr×Obj)) (s:Shared) (σ:St) (H:Hp) (Q:Bool->Hp->Prop),Inv X pins σ H s->t σ H Q->
  wpAny (model X.prog X.w) X.A (forIn ifs true fun c r=>if r=true then do let ok <- isTrue c X.env (eval c X.env);pure (ForInStep.yield ok) else pure (ForInStep.yield r)) (TP X pins σ Q) X.xe s
def Dc:TC:=fun _ H Q=>Q true H
theorem T_:uq X [] Dc:=fun pins s σ H Q I h=>QV ⟨H,I,h⟩
theorem Ua {c:Expr} {t:TT} (h:PT X c t):uq X [c] t:=fun pins s σ H Q I hq=>wpAny_tests_one (h pins s σ H Q I hq)
def B3 (own:List Str) (idx:List Nat) (wi:TI) (g:TG) (tc:TC) (te:TE):TE:=fun σ H Q=>wi σ H fun J H1=>∀ D,H1 D=none->∃ W:Nat->Nat->St->Hp->Prop,(∃ m,W 0 m (uh own idx σ) (upd H1 D (.lst [])))/\∀ i m τ H,W i m τ H->
 (J.stop i H/\Q (.ref D) H)\/(J.go i H/\∃ N:St->Hp->Prop,(∀ τ' H',N τ' H'->∃ m',m' < m/\W (i+1) m' τ' H')/\∀ x H',J.lj i H x H'->g x τ H' fun τ2 H2=>tc τ2 H2 fun b H3=>
  if b=true then te τ2 H3 fun y H4=>∃ xs,H4 D=some (.lst xs)/\xs.length < sizeLine/\N τ2 (upd H4 D (.lst (xs++[y]))) else N τ2 H3)
section
variable {iter elt:Expr} {pos:Pos} {wi:TI} {g:TG} {tc:TC}
abbrev xo:Obj:={cls:=.type "list",dict:=none,data:=.seq ([]:List Value).toArray}
theorem kZ (S:o_ X.env.scope X.N sc own idx N') {cl:List (Str×Addr)} (c1:∀ x c,cl.lookup x=some c->X.env.cells.lookup x=some c) (c2:∀ y∈sc.names,y.2=.free->∃ c,cl.lookup y.1=some c) (hc:X.calm=true)
  (hg:∀ cl C s3 H0 fp pn,PG (bz X N' sc cl C s3 H0 fp pn) tg g) (ht:∀ cl C s3 H0 fp pn,uq (bz X N' sc cl C s3 H0 fp pn) ifs tc) (he:∀ cl C s3 H0 fp pn,PE (bz X N' sc cl C s3 H0 fp pn) elt te)
  {pins:List (Addr×Obj)} {σ:St} {Q:VK} {ow:Value} {s2:Shared} {RR:Value->Addr->Result->Shared->Prop} {E:Value->Shared->Prop}
  (hI:CY X pins σ tg (fun J H1=>∀ D,H1 D=none->∃ W:Nat->Nat->St->Hp->Prop,(∃ m,W 0 m (uh own idx σ) (upd H1 D (.lst [])))/\∀ i m τ H,W i m τ H->
   (J.stop i H/\Q (.ref D) H)\/(J.go i H/\∃ N:St->Hp->Prop,(∀ τ' H',N τ' H'->∃ m',m' < m/\W (i+1) m' τ' H')/\∀ x H',J.lj i H x H'->g x τ H' fun τ2 H2=>tc τ2 H2 fun b H3=>
    if b=true then te τ2 H3 fun y H4=>∃ xs,H4 D=some (.lst xs)/\xs.length < sizeLine/\N τ2 (upd H4 D (.lst (xs++[y]))) else N τ2 H3)) ow s2)
  (Ez:∀ D C H' s',Inv X pins σ H' s'->Q (.ref D) H'->(H' C=none/\C≠X.env.locals/\X.s₀.heap.objs.size<=C/\(∀ x c,X.env.cells.lookup x=some c->c≠C)/\(∀ p∈X.pn++pins,p.1≠C)/\∃ m,s'.heap.Ns C m)->RR (.ref D) C (.ok .next) s'):
  wpAny (model X.prog X.w) X.A (newList []) (fun acc s₃=>wpAny (model X.prog X.w) X.A (newFunctionEnv sc X.env.globals cl [] X.env.qual none .none (some X.env)) (fun cenv s₄=>
   codeAny (model X.prog X.w) X.A (.compStart (.ListComp elt [⟨tg,iter,ifs,0⟩] sc pos) 0 ow acc {cenv with scope:=relabel sc X.env}) (RR acc cenv.locals) s₄) E s₃) E s2:=by
 obtain ⟨it,fp,tn,J,H2,rfl,I,T,fu,f2,body⟩:=hI
 refine wpAny_newObj_type (wpAny_newFunctionEnv S.cell (by intro y hy;simp at hy) (fun h4 ns sb=>?_) S.kind)
 dsimp only at ns sb ⊢
 have xn:xo.isFreed=false:=rfl
 have fr:H2 s2.heap.objs.size=none:=I.hok.fresh (Qz _)
 obtain ⟨W,⟨m0,w0⟩,turn⟩:=body _ fr
 have um:∀ b∈fp,∃ o,s2.heap.get? b=some o:=fun b hb=>let ⟨o,e,_⟩:=T.obj _ _ fu b hb;⟨o,e⟩
 have vg:∀ b o,(s2.heap.push xo).get? b=some o->h4.get? b=some o:=fun b o e=>(sb.2 b (Nat.ne_of_lt (QA e))).trans (Qc _ e)
 have EA:∀ (H:Hp) (h:Heap),h.get? s2.heap.objs.size=some xo->bg X.prog X.w H h s2.heap.objs.size (.lst []):=fun H h e=>⟨Nat.zero_le _,[],_,.nil,e⟩
 have I4:Inv (bz X N' sc cl (s2.heap.push xo).objs.size {s2 with heap:=s2.heap.push xo} (upd H2 s2.heap.objs.size (.lst [])) fp (X.pn++pins)) [] (uh own idx σ) (upd H2 s2.heap.objs.size (.lst [])) {s2 with heap:=h4,toks:=s2.toks+([]:List (Str×Value)).length}:=
  kX S I f2 um c1 c2 xn EA ns vg
 -- C1 Mf own context
 generalize hY:bz X N' sc cl (s2.heap.push xo).objs.size {s2 with heap:=s2.heap.push xo} (upd H2 s2.heap.objs.size (.lst [])) fp (X.pn++pins)=Y at I4
 have EB:PG Y tg g:=by rw [<- hY];exact hg _ _ _ _ _ _
 have EC:uq Y ifs tc:=by rw [<- hY];exact ht _ _ _ _ _ _
 have ED:PE Y elt te:=by rw [<- hY];exact he _ _ _ _ _ _
 have pY:Y.prog=X.prog:=by rw [<- hY]
 have wY:Y.w=X.w:=by rw [<- hY]
 have KY:Y.K=X.K:=by rw [<- hY]
 have AY:Y.A=X.A:=by rw [<- hY]
 have cY:Y.calm=true:=by rw [<- hY];exact hc
 have xY:Y.xe=fun _ _=>False:=by rw [<- hY]
 have eY:Y.env=compEnvC sc cl (s2.heap.push xo).objs.size X.env:=by rw [<- hY]
 have EE:Y.ex=fp:=by rw [<- hY]
 have EF:Y.fs=mi X.stack:=by rw [<- hY]
 have EG:Y.pn=X.pn++pins:=by rw [<- hY]
 have qp:∀ {H':Hp},(∀ b∈fp,H' b=none)->∀ b∈fp,qo Y [] H' b:=fun hn b hb=>by
  obtain ⟨f0,f1,f3,f4,f5,f6⟩:=f2 b hb
  refine ⟨hn b hb,?_,?_,.inl (by rw [EE];exact hb),fun x c e=>?_,fun p hp=>?_⟩
  ·obtain ⟨o,e⟩:=um b hb
   have:=QA e
   rw [eY]
   show b≠(s2.heap.push xo).objs.size
   rw [Heap.size_push];exact Nat.ne_of_lt (Nat.lt_succ_of_lt this)
  ·rw [EF]
   intro z
   rcases Qp.mp (I.BI b z) with z | z
   ·exact f1 z
   ·exact f3 z
  ·rw [eY] at e
   exact f5 x c (c1 x c e)
  ·rw [EG,QS] at hp
   exact f6 p hp
 have A0:tn 0 h4:=T.keep _ _ _ fu fun b hb o e=>vg b o (Qc _ e)
 have Aj:∀ b∈fp,upd H2 s2.heap.objs.size (.lst []) b=none:=fun b hb=>by
  obtain ⟨o,e⟩:=um b hb
  rw [aB (Nat.ne_of_lt (QA e))]
  exact (f2 b hb).1
 have loop:codeAny (model X.prog X.w) X.A (.compLoop (.ListComp elt [⟨tg,iter,ifs,0⟩] sc pos) 0 (.ref it) (.ref s2.heap.objs.size) (compEnvC sc cl (s2.heap.push xo).objs.size X.env))
   (RR (.ref s2.heap.objs.size) (s2.heap.push xo).objs.size) {s2 with heap:=h4,toks:=s2.toks+([]:List (Str×Value)).length}:=by
  refine T6 (fun n s'=>∃ i τ H',Inv Y [] τ H' s'/\tn i s'.heap/\(∀ b∈fp,H' b=none)/\W i n τ H') ?_ m0 ⟨0,_,_,I4,A0,Aj,w0⟩
  rintro n s3 ⟨i,τ3,H3,I3,wz,mj,w3⟩
  rcases turn i n τ3 H3 w3 with ⟨stop,qn⟩ | ⟨go,N,hN,step⟩
  ·have h:=T.done Y pY wY KY cY i [] s3 τ3 H3 ki I3 (qp mj) wz stop
   rw [AY] at h
   refine ao h ?_
   rintro r s4 ⟨hr,EH⟩
   subst hr
   have J4:=EH
   rw [<- hY] at J4
   obtain ⟨b1,b2⟩:=jK I f2 xn J4
   exact Ez _ _ _ _ b1 qn b2
  ·have h:=T.item Y pY wY KY cY i [] s3 τ3 H3 ki I3 (qp mj) wz go
   rw [AY] at h
   refine ao h ?_
   rintro r s4 ⟨u,hr,EI⟩
   subst hr
   refine ao EI ?_
   rintro _ s5 ⟨x,H5,I5,r5,y5,qt,BL⟩
   have BN:=I5.pinned (qp BL) (T.obj _ _ qt)
   have g5:=EB _ s5 τ3 H5 x u _ BN r5 (step x H5 y5)
   rw [pY,wY,AY,xY,eY] at g5
   refine ao g5 ?_
   rintro _ s6 ⟨τ6,H6,I6,q6⟩
   have t6:=EC _ s6 τ6 H6 _ I6 q6
   rw [pY,wY,AY,xY,eY] at t6
   refine ao t6 ?_
   rintro ok s7 ⟨H7,I7,q7⟩
   have again:∀ {τ8:St} {H8:Hp} {s8:Shared},Inv Y ([]++BK fp s5.heap) τ8 H8 s8->N τ8 H8->∃ m,m < n/\∃ i τ' H',Inv Y [] τ' H' s8/\tn i s8.heap/\(∀ b∈fp,H' b=none)/\W i m τ' H':=fun {τ8 H8 s8} I8 n8=>by
    obtain ⟨m',hm,w8⟩:=hN τ8 H8 n8
    refine ⟨m',hm,i+1,τ8,H8,I8.C0,T.keep _ _ _ qt fun b hb o e=>(I8.pin (b,o) (List.mem_append_right _ (List.mem_append_right _ (cI hb e)))).1,fun b hb=>?_,w8⟩
    obtain ⟨o,e,d⟩:=T.obj _ _ qt b hb
    exact (I8.pin (b,o) (List.mem_append_right _ (List.mem_append_right _ (cI hb e)))).2.1
   cases ok with
   | false=>
    rw [if_neg (by decide)] at q7 ⊢
    exact again I7 q7
   | true=>
    rw [if_pos rfl] at q7 ⊢
    have e7:=ED _ s7 τ6 H7 _ I7 q7
    rw [pY,wY,AY,xY,eY] at e7
    refine ao e7 ?_
    rintro yv s8 ⟨y,H8,I8,r8,xs,Ub,hz,n8⟩
    have a8:=aZ (X:=Y) _ s8 τ6 H8 (.ref s2.heap.objs.size) [y] (.ref s2.heap.objs.size) [yv] (fun v H'=>N τ6 H') I8 rfl (.cons r8 .nil) ⟨_,xs,y,rfl,rfl,Ub,hz,n8⟩
    rw [pY,wY,AY,xY] at a8
    refine ao a8 ?_
    rintro _ s9 ⟨_,H9,I9,_,n9⟩
    exact again I9 n9
 exact codeAny_compStart_list loop (T.self _ 0 _ _ _ A0 loop)
theorem o_.closure (S:o_ X.env.scope X.N sc own idx N') (ok:X.Ok):∃ cl,closureFor sc X.env=pure cl/\(∀ x c,cl.lookup x=some c->X.env.cells.lookup x=some c)/\(∀ y∈sc.names,y.2=.free->∃ c,cl.lookup y.1=some c):=
 sK fun y hy hf=>ok.has _ (S.free y hy hf)
theorem Uc (S:o_ X.env.scope X.N sc own idx N') (hc:X.calm=true) (hi:PI X tg iter wi)
  (hg:∀ cl C s3 H0 fp pn,PG (bz X N' sc cl C s3 H0 fp pn) tg g) (ht:∀ cl C s3 H0 fp pn,uq (bz X N' sc cl C s3 H0 fp pn) ifs tc) (he:∀ cl C s3 H0 fp pn,PE (bz X N' sc cl C s3 H0 fp pn) elt te)
  (hs:∀ x,foldedSetIterable iter X.env x=pure x:=by intro _;rfl):PE X (.ListComp elt [⟨tg,iter,ifs,0⟩] sc pos) (B3 own idx wi g tc te):=by
 intro pins s σ H Q I h
 obtain ⟨cl,pe,c1,c2⟩:=S.closure I.ok
 rw [eval_ListComp]
 refine wpAny_comprehension_free (use:=none) rfl hs pe S.kind S.names (ao (hi pins s σ H _ I h) fun v s1 h1=>ao h1 fun ow s2 h2=>?_)
 refine kZ (Q:=Q) (pins:=pins) (σ:=σ) (RR:=fun acc C=>compPost (model X.prog X.w) X.A X.xe none (EP X pins σ Q) acc C) S c1 c2 hc hg ht he h2 ?_
 intro D C H' s' I' q ⟨a1,a2,a3,a4,a5,m,a6⟩
 exact ⟨m,a6,fun h' sb=>⟨.ref D,H',I'.turned (t':=s'.toks) (fun b o hb e=>(sb.2 b hb).trans e) a1 (Ne.symm (Ne.symm a2)) (.inr a3) a4 a5,rfl,q⟩⟩
theorem Ud {y:Str} {py spos:Pos} (S:o_ X.env.scope X.N sc own idx N') (hc:X.calm=true) (hi:PI X tg iter wi)
  (hg:∀ cl C s3 H0 fp pn,PG (bz X N' sc cl C s3 H0 fp pn) tg g) (ht:∀ cl C s3 H0 fp pn,uq (bz X N' sc cl C s3 H0 fp pn) ifs tc) (he:∀ cl C s3 H0 fp pn,PE (bz X N' sc cl C s3 H0 fp pn) elt te)
  (hN:X.N.Nodup) (EJ:X.N[i]? =some y) (hy:X.env.scope.names.lookup y=some .local)
  (EK:swapsWith (.ListComp elt [⟨tg,iter,ifs,0⟩] sc pos) (some (.Name y py)) spos.line X.env=pure true:=by rfl)
  (hs:∀ x,foldedSetIterable iter X.env x=pure x:=by intro _;rfl):PS X (.Assign [.Name y py] (.ListComp elt [⟨tg,iter,ifs,0⟩] sc pos) spos) (yr (B3 own idx wi g tc te) (jc i)):=by
 intro pins s σ H D I h
 obtain ⟨cl,pe,c1,c2⟩:=S.closure I.ok
 rw [exec_Assign_Name_used _ _ _ _ EK]
 refine QU (wpAny_standAt (QU ?_))
 show wpAny _ X.A (do let _ <- comprehension (.ListComp elt [⟨tg,iter,ifs,0⟩] sc pos) sc X.env _ (newList []) false (eval iter X.env) (some (assign (.Name y py) X.env))) _ _ s
 refine QU (wpAny_mono (wpAny_comprehension_free (use:=some (assign (.Name y py) X.env)) (Q:=fun _ s'=>SP X pins D .next s') rfl hs pe S.kind S.names
  (ao (hi pins s σ H _ I h) fun v s1 h1=>ao h1 fun ow s2 h2=>?_)) (fun _ s' hq=>QV (QV hq)) fun _ _ e=>e)
 refine kZ (Q:=fun x H1=>jc i x σ H1 D.nx) (pins:=pins) (σ:=σ) (RR:=fun acc C=>compPost (model X.prog X.w) X.A X.xe (some (assign (.Name y py) X.env)) (fun _ s'=>SP X pins D .next s') acc C) S c1 c2 hc hg ht he h2 ?_
 intro D' C H' s' I' q ⟨a1,a2,a3,a4,a5,m,a6⟩
 show wpAny _ X.A (assign (.Name y py) X.env (.ref D')) _ _ _
 refine wpAny_assign_Name (jA (v:=.ref D') I' hN EJ (.inl hy) rfl (fun s'' Iv ⟨a,sb,ha⟩=>?_) (.inr hy))
 have Iw:C≠a:=by
  rcases ha with z | z
  ·rw [z];exact a2
  ·exact Ne.symm (a4 _ _ z)
 refine ⟨m,a6.sameBut sb Iw,fun h' vg=>⟨_,H',Iv.turned (t':=s''.toks) (fun b o hb e=>(vg.2 b hb).trans e) a1 a2 (.inr a3) a4 a5,q⟩⟩
end
def tV (i:Nat):TE:=fun σ H Q=>match σ[i]? with | some (some v)=>Q v H | _=>False
theorem Ue (i:Nat) {pos:Pos} (hN:X.N[i]? =some x:=by rfl) (hv:Eh X.env.scope x:=by first | exact Or.inl rfl | exact Or.inr (Or.inl rfl) | exact Or.inr (Or.inr rfl)) (hd:(x==("__debug__":Str))=false:=by decide) (qm:(x==("__classdict__":Str))=false:=by decide):PE X (.Name x pos) (tV i):=by
 intro pins s σ H Q I h
 refine Rn hN hv hd qm pins s σ H Q I ?_
 unfold tV at h
 split at h
 ·next v e=>exact ⟨v,e,h⟩
 ·exact h.elim
def Iz:R2:=fun x y H Q=>match x,y with
 | .int i,.int j=>Q (.int (i+j)) H
 | .str i,.str j=>i.length+j.length<=sizeLine/\Q (.str (i++j)) H
 | .ref l,.ref b=>(∃ xs zs,H l=some (.lst xs)/\H b=some (.lst zs)/\xs.length+zs.length<=sizeLine/\∀ p,H p=none->Q (.ref p) (upd H p (.lst (xs++zs))))
 | _,_=>False
theorem cL:ck X (binaryOp .Add) Iz:=by
 intro pins s σ H x y v u Q I rx ry h
 cases x<;>cases y<;>first
  | exact (show False from h).elim
  | exact RZ pins s σ H _ _ v u Q I rx ry ⟨_,_,rfl,rfl,h⟩
  | exact rR pins s σ H _ _ v u Q I rx ry ⟨_,_,rfl,rfl,h.1,h.2⟩
  | (obtain ⟨xs,zs,h1,h2,h3,h4⟩:=h;exact Tr pins s σ H _ _ v u Q I rx ry ⟨_,_,xs,zs,rfl,rfl,h1,h2,h3,h4⟩)
def Ug:R2:=fun x y H Q=>match x,y with | .int i,.int j=>Gb i j/\Q (.int (i*j)) H | _,_=>False
theorem dO:ck X (binaryOp .Mult) Ug:=by
 intro pins s σ H x y v u Q I rx ry h
 cases x<;>cases y<;>first
  | exact (show False from h).elim
  | exact R0 pins s σ H _ _ v u Q I rx ry ⟨_,_,rfl,rfl,h.1,h.2⟩
def Uh:R2:=fun x y H Q=>match x,y with | .int i,.int j=>0 < j/\Q (.int (i % j)) H | _,_=>False
theorem eX:ck X (binaryOp .Mod) Uh:=by
 intro pins s σ H x y v u Q I rx ry h
 cases x<;>cases y<;>first
  | exact (show False from h).elim
  | exact R3 pins s σ H _ _ v u Q I rx ry ⟨_,_,rfl,rfl,h.1,h.2⟩
def Ui:R2:=fun x y H Q=>match x,y with | .int i,.int j=>(0 < j/\j < 1073741824)/\Q (.int (i / j)) H | _,_=>False
theorem Uj:ck X (binaryOp .FloorDiv) Ui:=by
 intro pins s σ H x y v u Q I rx ry h
 cases x<;>cases y<;>first
  | exact (show False from h).elim
  | exact R1 pins s σ H _ _ v u Q I rx ry ⟨_,_,rfl,rfl,h.1,h.2⟩
def Uk:R2:=fun x y H Q=>match x,y with | .int i,.int j=>LU i j/\Q (.int (i^j.toNat)) H | _,_=>False
theorem Ul:ck X (binaryOp .Pow) Uk:=by
 intro pins s σ H x y v u Q I rx ry h
 cases x<;>cases y<;>first
  | exact (show False from h).elim
  | exact R4 pins s σ H _ _ v u Q I rx ry ⟨_,_,rfl,rfl,h.1,h.2⟩
def IA (p:Int->Int->Bool):R2:=fun x y H Q=>match x,y with | .int i,.int j=>Q (.bl (p i j)) H | _,_=>False
theorem xL:ck X (compareOp .Gt) (IA fun i j=>decide (j < i)):=by
 intro pins s σ H x y v u Q I rx ry h
 cases x<;>cases y<;>first
  | exact (show False from h).elim
  | exact Sa pins s σ H _ _ v u Q I rx ry ⟨_,_,rfl,rfl,h⟩
theorem Um:ck X (compareOp .GtE) (IA fun i j=>decide (j<=i)):=by
 intro pins s σ H x y v u Q I rx ry h
 cases x<;>cases y<;>first
  | exact (show False from h).elim
  | exact Sb pins s σ H _ _ v u Q I rx ry ⟨_,_,rfl,rfl,h⟩
theorem Uo:ck X (compareOp .LtE) (IA fun i j=>decide (i<=j)):=by
 intro pins s σ H x y v u Q I rx ry h
 cases x<;>cases y<;>first
  | exact (show False from h).elim
  | exact R_ pins s σ H _ _ v u Q I rx ry ⟨_,_,rfl,rfl,h⟩
def Up:R2:=fun x y H Q=>match x,y with
 | .int i,.int j=>Q (.bl (decide (i < j))) H
 | .str i,.str j=>Q (.bl (decide (i.cps.toList < j.cps.toList))) H
 | _,_=>False
theorem o5:ck X (compareOp .Lt) Up:=by
 intro pins s σ H x y v u Q I rx ry h
 cases x<;>cases y<;>first
  | exact (show False from h).elim
  | exact R9 pins s σ H _ _ v u Q I rx ry ⟨_,_,rfl,rfl,h⟩
  | exact vL pins s σ H _ _ v u Q I rx ry ⟨_,_,rfl,rfl,h⟩
def Mg (n:Bool):R2:=fun x y H Q=>match x,y with
 | .ref a,.ref b=>a≠b/\∃ xs,H a=some (.lst xs)/\H b=some (.lst [])/\Q (.bl (n^^xs.isEmpty)) H
 | x,y=>El x y=true/\Q (.bl (n^^decide (x=y))) H
theorem xR {xs:List V} (hu:A.units < cLine) (I:Inv X pins σ H s) (ha:H a=some (.lst xs)) (hb:H b=some (.lst [])) (jk:a≠b)
  (q:∀ tk,Q (.bool xs.isEmpty) {s with toks:=tk}) (q0:Q (.bool xs.isEmpty) s):wpAny (model X.prog X.w) A (compareOp .Eq (.ref a) (.ref b)) Q E s:=by
 obtain ⟨_,its,n,r1,e1⟩:=(show bg X.prog X.w H s.heap a (.lst xs) from I.hok a _ ha)
 obtain ⟨_,its2,n2,r2,e2⟩:=(show bg X.prog X.w H s.heap b (.lst []) from I.hok b _ hb)
 cases r2
 have l1:s.heap.IsList a its.toArray:=⟨_,e1,rfl,_,rfl⟩
 have l2:s.heap.IsList b (#[]:Array Value):=⟨_,e2,rfl,_,rfl⟩
 cases r1 with
 | nil=>
  exact SeqAt.eq_listAt (e:=fun _=>true) l1 l2 rfl hu (fun i hi=>absurd hi (by simp)) (by simpa using q0)
 | cons z t=>
  exact SeqAt.eq_list_lengthsAt l1 l2 (by simp) hu (by simpa using q0)
theorem dY (hu:X.A.units < cLine):ck X (compareOp .Eq) (Mg false):=by
 intro pins s σ H x y v u Q I rx ry h
 have hs:(∀ a b,x=.ref a->y=.ref b->False)->El x y=true/\Q (.bl (false^^decide (x=y))) H:=fun hn=>by
  cases x<;>cases y<;>first
   | exact (hn _ _ rfl rfl).elim
   | exact h
 by_cases hr:∃ a b,x=.ref a/\y=.ref b
 ·obtain ⟨a,b,rfl,rfl⟩:=hr
  obtain ⟨jk,xs,h1,h2,q⟩:=h
  cases rx;cases ry
  exact xR hu I h1 h2 jk (fun tk=>⟨.bl xs.isEmpty,H,I.tok tk,rfl,by simpa using q⟩) ⟨.bl xs.isEmpty,H,I,rfl,by simpa using q⟩
 ·obtain ⟨h1,h2⟩:=hs fun a b e1 e2=>hr ⟨a,b,e1,e2⟩
  exact R7 pins s σ H x y v u Q I rx ry ⟨h1,by simpa using h2⟩
theorem zG {xs:List V} (hu:A.units < cLine) (I:Inv X pins σ H s) (ha:H a=some (.lst xs)) (hb:H b=some (.lst []))
  (q0:Q (.bool (!xs.isEmpty)) s):wpAny (model X.prog X.w) A (compareOp .NotEq (.ref a) (.ref b)) Q E s:=by
 obtain ⟨_,its,n,r1,e1⟩:=(show bg X.prog X.w H s.heap a (.lst xs) from I.hok a _ ha)
 obtain ⟨_,its2,n2,r2,e2⟩:=(show bg X.prog X.w H s.heap b (.lst []) from I.hok b _ hb)
 cases r2
 have l1:s.heap.IsList a its.toArray:=⟨_,e1,rfl,_,rfl⟩
 have l2:s.heap.IsList b (#[]:Array Value):=⟨_,e2,rfl,_,rfl⟩
 cases r1 with
 | nil=>
  exact SeqAt.RcNeAt.lists (e:=fun _=>true) l1 l2 rfl hu (fun i hi=>absurd hi (by simp)) _ _ _ _ (by simpa using q0)
 | cons z t=>
  exact SeqAt.RcNeAt.lists_lengths l1 l2 (by simp) hu _ _ _ _ (by simpa using q0)
theorem oA (hu:X.A.units < cLine):ck X (compareOp .NotEq) (Mg true):=by
 intro pins s σ H x y v u Q I rx ry h
 have hs:(∀ a b,x=.ref a->y=.ref b->False)->El x y=true/\Q (.bl (true^^decide (x=y))) H:=fun hn=>by
  cases x<;>cases y<;>first
   | exact (hn _ _ rfl rfl).elim
   | exact h
 by_cases hr:∃ a b,x=.ref a/\y=.ref b
 ·obtain ⟨a,b,rfl,rfl⟩:=hr
  obtain ⟨jk,xs,h1,h2,q⟩:=h
  cases rx;cases ry
  exact zG hu I h1 h2 ⟨.bl (!xs.isEmpty),H,I,rfl,by simpa using q⟩
 ·obtain ⟨h1,h2⟩:=hs fun a b e1 e2=>hr ⟨a,b,e1,e2⟩
  exact R8 pins s σ H x y v u Q I rx ry ⟨h1,by simpa using h2⟩
def A1 (K:Q1):R2:=fun x y H Q=>match x,y with
 | .ref p,.int i=>∃ xs v,(af K H p xs\/aj K H p xs)/\nc xs i=some v/\Q v H
 | .str z,.int i=>z.length<=sizeLine/\∃ c,nc z.cps.toList i=some c/\Q (.str ⟨#[c]⟩) H
 | _,_=>False
theorem Uq : BX X (A1 X.K) := by
  intro e1 e2 pins s σ H x y v u Q I rx ry h hs
  cases x <;> cases y <;> first
    | exact (show False from h).elim
    | (obtain ⟨xs, w, h1 | h1, h2, h3⟩ := h
       · exact zV e1 e2 pins s σ H _ _ v u Q I rx ry ⟨_, xs, _, w, rfl, rfl, h1, h2, h3⟩ hs
       · exact S7 e1 e2 pins s σ H _ _ v u Q I rx ry ⟨_, xs, _, w, rfl, rfl, h1, h2, h3⟩ hs)
    | (obtain ⟨h1, c, h2, h3⟩ := h; exact S8 e1 e2 pins s σ H _ _ v u Q I rx ry ⟨_, _, c, rfl, rfl, h1, h2, h3⟩ hs)
def Gq (K:Q1) (n:Bool):R2:=fun x y H Q=>match y with
 | .str j=>∃ i,x=.str i/\Q (.bl (n^^(!(Builtin.Str.occurrences j i 0 j.length 1).isEmpty))) H
 | .ref p=>∃ xs,(af K H p xs\/aj K H p xs)/\yx x=true/\xs.all yx=true/\Q (.bl (n^^AX x xs)) H
 | _=>False
theorem Ur:ck X (compareOp .In) (Gq X.K false):=by
 intro pins s σ H x y v u Q I rx ry h
 cases y<;>first
  | exact (show False from h).elim
  | (obtain ⟨i,rfl,h2⟩:=h;exact uJ pins s σ H _ _ v u Q I rx ry ⟨i,_,rfl,rfl,by simpa using h2⟩)
  | (obtain ⟨xs,h1,h2,h3,h4⟩:=h;exact vZ pins s σ H _ _ v u Q I rx ry ⟨_,xs,rfl,h1,h2,h3,by simpa using h4⟩)
def IB (K:Q1):List V->Hp->VK->Prop:=fun xs H Q=>match xs with
 | [.str y]=>y.length<=sizeLine/\Q (.int y.length) H
 | [.ref p]=>(∃ ys,(af K H p ys\/aj K H p ys)/\Q (.int ys.length) H)\/(∃ kvs,Rd H p (.dK kvs)/\Q (.int kvs.length) H)
 | _=>False
theorem vI:qw X (.builtin "len") (IB X.K):=by
 intro pins s σ H xs us Q I r h
 unfold IB at h
 split at h
 ·exact lC pins s σ H _ us Q I r ⟨_,_,rfl,⟨h.1,rfl⟩,h.2⟩
 ·rcases h with ⟨ys,h1 | h1,q⟩ | ⟨kvs,h1,q⟩
  ·exact lC pins s σ H _ us Q I r ⟨_,_,rfl,.inl ⟨ys,h1,rfl⟩,q⟩
  ·exact lC pins s σ H _ us Q I r ⟨_,_,rfl,.inr ⟨ys,h1,rfl⟩,q⟩
  ·obtain ⟨u,rfl,ru⟩:=vals1 r
   cases ru
   exact Tw I h1 fun t s' I'=>⟨.int kvs.length,H,I',⟨t,rfl⟩,q⟩
 ·exact h.elim
def Gr (H:Hp):V->Option String
 | .ai=>some "NoneType"
 | .bl _=>some "bool"
 | .int _=>some "int"
 | .str _=>some "str"
 | .ref a=>match H a with
  | some (.lst _)=>some "list"
  | some (.tup _)=>some "tuple"
  | some (.dK _)=>some "dict"
  | _=>none
 | _=>none
def Gs (t T:String):Bool:=t==T||(t=="bool"&&T=="int")
theorem Us:∀ (K:Q1) (t T:String),t∈["NoneType","bool","int","str","list","tuple","dict"]->T∈["bool","int","str","list","tuple","dict"]->PySem.W.kitOne K (.type t) (.type T)=some (Gs t T):=by
 intro K t T h1 h2
 simp only [Qp,QB,or_false] at h1 h2
 rcases h1 with rfl | rfl | rfl | rfl | rfl | rfl | rfl<;>rcases h2 with rfl | rfl | rfl | rfl | rfl | rfl<;>rfl
def Mh:List V->Hp->VK->Prop:=fun xs H Q=>match xs with
 | [x,.ty T]=>T∈["bool","int","str","list","tuple","dict"]/\∃ t,Gr H x=some t/\Q (.bl (Gs t T)) H
 | _=>False
theorem vG:qw X (.builtin "isinstance") Mh:=by
 intro pins s σ H xs us Q I r h
 unfold Mh at h
 split at h
 ·next x T=>
  obtain ⟨hT,t,ht,q⟩:=h
  obtain ⟨u,c,rfl,ru,rc⟩:=r.two
  cases rc
  have fin:∀ tk,EP X pins σ Q (.bool (Gs t T)) {s with toks:=tk}:=fun tk=>⟨.bl (Gs t T),H,I.tok tk,rfl,q⟩
  have tm:t∈["NoneType","bool","int","str","list","tuple","dict"]/\uf X.K H x (.type t):=by
   cases x with
   | ai=>cases ht;exact ⟨by simp,.ai⟩
   | bl b=>cases ht;exact ⟨by simp,.bl b⟩
   | int b=>cases ht;exact ⟨by simp,.int b⟩
   | str b=>cases ht;exact ⟨by simp,.str b⟩
   | ref a=>
    unfold Gr at ht
    dsimp only at ht
    split at ht
    ·next e=>cases ht;exact ⟨by simp,.lst e⟩
    ·next e=>cases ht;exact ⟨by simp,.tup e⟩
    ·next e=>cases ht;exact ⟨by simp,.dK e⟩
    ·cases ht
   | _=>cases ht
  exact vC I ru tm.2 (Us _ t T tm.1 hT) fin
 ·exact h.elim
def A2:V->Option Int->Option Int->Hp->VK->Prop:=fun x lo hi H Q=>∃ z,x=.str z/\z.length<=sizeLine/\Q (.str (Txt.slice z lo hi)) H
theorem Ut:xh X A2:=by
 intro pins s σ H x v vl vu lo hi sl Q I rx hs pl pu h
 obtain ⟨z,rfl,hz,q⟩:=h
 obtain ⟨t,rfl⟩:=(show ∃ t,v=Value.str z t from rx)
 refine ⟨"str",_,F.slot_str_getitem.lookup,typeIs_str _ _ _,?_⟩
 have Mi:∀ {w:Value} {o:Option Int},IsPart w o->∃ l:Option (Int×Tok),w=partValue l/\l.map (·.1)=o:=fun {w o} p=>by
  cases p with
  | none=>exact ⟨none,rfl,rfl⟩
  | int k t=>exact ⟨some (k,t),rfl,rfl⟩
 obtain ⟨l,e1,e2⟩:=Mi pl
 obtain ⟨u,e3,e4⟩:=Mi pu
 subst e1 e3
 obtain ⟨o,ho,hc,hd⟩:=hs
 refine wpAny_getItem_str_slice (l:=l) (u:=u) (st:=none) ⟨o,ho,hc,hd⟩ rfl ?_
 refine post_val_or_str ⟨Nat.le_trans (Txt.slice_le z _ _) hz,fun t' k=>?_⟩
 show EP X pins σ Q (.str (Txt.slice z (l.map (·.1)) (u.map (·.1))) t') _
 rw [e2,e4]
 exact ⟨.str (Txt.slice z lo hi),H,I.tok k,⟨t',rfl⟩,q⟩
def IC (z:Str):It:=⟨fun i _=>i < z.cps.size,fun i H x H'=>H'=H/\∃ c,z.cps[i]? =some c/\x=.str ⟨#[c]⟩,fun i _=>z.cps.size=i⟩
theorem sZ {K:Q1} {St:Nat->Heap->Prop} (W:∀ A':Around,A'.handled=none->Walks P w A' it [it] [it] z.cps.size (SignAt z) St)
  (ID:∀ (A:Around) (i:Nat) (s:Shared) (Q:Value->Shared->Prop) (E:Value->Shared->Prop),St i s.heap->Q (.ref it) s->wpAny (model P w) A (pyIter (.ref it)) Q E s)
  (hg:∀ i h,St i h->∃ o n vs,h.get? it=some o/\o.cls=.type n/\o.data=.fields vs/\["enumerate","zip","dict_itemiterator","dict_reverseitemiterator","odict_iterator","itertools.zip_longest","itertools.pairwise"].contains n=false):Turn P w K tg (IC z) [it] it St where
 mem:=by simp
 obj:=fun i h st b hb=>by
  have e:b=it:=by simpa using hb
  subst e
  obtain ⟨o,n,vs,e,c,d,_⟩:=hg i h st
  exact ⟨o,e,fun v z=>by rw [d] at z;cases z⟩
 keep:=fun i h h' st k=>(W {} rfl).frame _ _ _ st k
 item:=by
  intro X hP hw hK hc i pins s σ H E I hf st EL
  subst hP hw hK
  obtain ⟨f0,f1,f2,f3,f4,f5⟩:=hf it (by simp)
  refine (W X.A (I.ok.hd hc)).item i s _ _ EL st fun v h' tk hv st' kk=>?_
  obtain ⟨c,t,nj,rfl⟩:=hv
  have I1:Inv X pins σ H {s with heap:=h',toks:=tk}:=I.turned (fun b o hb e=>kk b o (by simpa using hb) e) f0 f1 f3 f4 f5
  obtain ⟨o,n,vs,e,c',d,nn⟩:=hg _ _ st'
  exact ⟨_,rfl,jS (s:={s with heap:=h',toks:=tk}) e c' d nn ⟨.str ⟨#[c]⟩,H,I1,⟨t,rfl⟩,⟨rfl,c,nj,rfl⟩,st',fun b hb=>(hf b hb).1⟩⟩
 done:=by
  intro X hP hw hK hc i pins s σ H E I hf st EL
  subst hP hw hK
  obtain ⟨f0,f1,f2,f3,f4,f5⟩:=hf it (by simp)
  have e:z.cps.size=i:=EL
  subst e
  exact (W X.A (I.ok.hd hc)).done s _ _ st fun h' tk kk=>⟨rfl,I.turned (fun b o hb e=>kk b o (by simpa using hb) e) f0 f1 f3 f4 f5⟩
 self:=ID
def bj (P:Program) (w:World) (K:Q1) (mg:Str->Option Value) (base:Heap) (k:Nat) (x:Str) (ps:List Str) (sp:Sp):Prop:=
 ∃ (f:Addr) (fd:FuncData),mz P w K mg base xj k f fd ps sp/\mg x=some (.ref f)/\PySem.W.keepIn K (.ref f)=true/\Binds K fd ps []/\∃ (oc:Value) (od:Option Addr) (qy:Array (Option Value)),K.lookup f=some ⟨oc,od,.func fd,qy⟩
section
variable {k:Nat} {sp:Sp} {p pos:Pos} {t:TA}
theorem Uu (F:bj X.prog X.w X.K X.mg X.base k x ps sp) (hr:di k X.A) (ha:PA X (e::es) t) (hg:Gl X x:=by rfl) (jr:(x==("__debug__":Str))=false:=by decide)
  (he:starEach (e::es) X.env=(false,eval e X.env)::starEach es X.env:=by rfl) (gf:(backTo pos (starEach es X.env)).any (·.1)=false:=by rfl):
  PE X (.Call (.Name x p) (e::es) [] pos) (Er sp [] E0 t):=by
 obtain ⟨f,fd,G,Uv,kp,b,_⟩:=F
 exact Sz G hr hg Uv kp b .nil Ex ha jr he gf
end
def iD (K:Q1) (tl:TE):TI:=fun σ H R=>tl σ H fun x H1=>match x with
 | .ref a=>((∃ xs,af K H1 a xs)/\R (CZ K a) H1)\/((∃ xs,aj K H1 a xs)/\R (Ie K a) H1)
 | .str z=>R (IC z) H1
 | _=>False
theorem Uw {l:Expr} {tl:TE} (hl:PE X l tl):PI X tg l (iD X.K tl):=by
 intro pins s σ H R I h
 refine ao (hl pins s σ H _ I h) ?_
 rintro v s1 ⟨x,H1,I1,r1,q1⟩
 cases x with
 | ref a=>
  cases r1
  rcases q1 with ⟨⟨xs,hq⟩,q⟩ | ⟨⟨xs,hq⟩,q⟩
  ·obtain ⟨its,rv,p,hz⟩:=I1.list hq
   refine wpAny_pyIter_list p.isList ?_
   refine ⟨s1.heap.objs.size,[s1.heap.objs.size],_,_,H1,rfl,I1.kept (t':=s1.toks) fun b o e=>Qc _ e,uT a _,⟨_,Qd _ rfl,rfl,rfl⟩,fun b hb=>?_,q⟩
   have e:b=s1.heap.objs.size:=by simpa using hb
   subst e
   exact I1.ve (Qz _) (I1.hok.fresh (Qz _))
  ·obtain ⟨its,rv,p,hz⟩:=I1.tuple hq
   refine wpAny_pyIter_tuple (show s1.heap.IsTuple a its.toArray from p) ?_
   refine ⟨s1.heap.objs.size,[s1.heap.objs.size],_,_,H1,rfl,I1.kept (t':=s1.toks) fun b o e=>Qc _ e,sW a _,⟨_,Qd _ rfl,rfl,rfl⟩,fun b hb=>?_,q⟩
   have e:b=s1.heap.objs.size:=by simpa using hb
   subst e
   exact I1.ve (Qz _) (I1.hok.fresh (Qz _))
 | str z=>
  obtain ⟨t,rfl⟩:=(show ∃ t,v=Value.str z t from r1)
  have q:R (IC z) H1:=q1
  have fin:∀ (o:Obj) (n:String) (W:∀ A':Around,A'.handled=none->Walks X.prog X.w A' s1.heap.objs.size [s1.heap.objs.size] [s1.heap.objs.size] z.cps.size (SignAt z) (fun i h=>h.IsStrIter s1.heap.objs.size n z t i)),
    (∀ (A:Around) (i:Nat) (s:Shared) (Q:Value->Shared->Prop) (E:Value->Shared->Prop),s.heap.IsStrIter s1.heap.objs.size n z t i->Q (.ref s1.heap.objs.size) s->wpAny (model X.prog X.w) A (pyIter (.ref s1.heap.objs.size)) Q E s)->
    ["enumerate","zip","dict_itemiterator","dict_reverseitemiterator","odict_iterator","itertools.zip_longest","itertools.pairwise"].contains n=false->
    (s1.heap.push o).IsStrIter s1.heap.objs.size n z t 0->CY X pins σ tg R (.ref s1.heap.objs.size) {s1 with heap:=s1.heap.push o}:=by
   intro o n W ID hn st
   refine ⟨s1.heap.objs.size,[s1.heap.objs.size],_,_,H1,rfl,I1.kept (t':=s1.toks) fun b o e=>Qc _ e,sZ W ID (fun i h st=>?_),st,fun b hb=>?_,q⟩
   ·obtain ⟨o,e,c,d⟩:=st
    exact ⟨o,n,_,e,c,d,hn⟩
   ·have e:b=s1.heap.objs.size:=by simpa using hb
    subst e
    exact I1.ve (Qz _) (I1.hok.fresh (Qz _))
  cases ha:z.cps.all (· < 128)
  ·exact wpAny_pyIter_wide ha (fin _ _ (fun A' hA=>Walks.strWide hA _ z t) (fun A i s Q E st h=>wpAny_pyIter_striter_wide st h) (by decide) ⟨_,Qd _ rfl,rfl,rfl⟩)
  ·exact wpAny_pyIter_ascii ha (fin _ _ (fun A' hA=>Walks.strAscii hA _ z t) (fun A i s Q E st h=>wpAny_pyIter_striter_ascii st h) (by decide) ⟨_,Qd _ rfl,rfl,rfl⟩)
 | _=>exact (show False from q1).elim
def y_ (J:It) (ok:Hp->Prop) (n:Nat) (item:Nat->V):Prop:=
 ∀ H,ok H->(∀ i,i < n->J.go i H/\∀ x H',J.lj i H x H'->H'=H/\x=item i)/\J.stop n H
theorem bN {K:Q1} (xs:List V):y_ (CZ K a) (fun H=>af K H a xs) xs.length (fun i=>xs.getD i .ai):=fun H ok=>
 ⟨fun i hi=>⟨⟨xs,xs[i],ok,by simp [hi]⟩,fun x H' ⟨e,y⟩=>⟨e,by
  have:=y xs ok
  show x=xs.getD i V.ai
  rw [Qb,this];rfl⟩⟩,⟨xs,ok,Qz _⟩⟩
theorem dD {K:Q1} (xs:List V):y_ (Ie K a) (fun H=>aj K H a xs) xs.length (fun i=>xs.getD i .ai):=fun H ok=>
 ⟨fun i hi=>⟨⟨xs,xs[i],ok,by simp [hi]⟩,fun x H' ⟨e,y⟩=>⟨e,by
  have:=y xs ok
  show x=xs.getD i V.ai
  rw [Qb,this];rfl⟩⟩,⟨xs,ok,Qz _⟩⟩
theorem jQ (lo:Int) (n:Nat):y_ (F9 lo n) (fun _=>True) n (fun i=>.int (lo+i)):=fun H _=>
 ⟨fun i hi=>⟨hi,fun x H' ⟨e,y⟩=>⟨e,y⟩⟩,Qz _⟩
theorem gZ {J:It} {ok:Hp->Prop} {item:Nat->V} {g:TG} {tc:TC} {τ0:St} {D:Addr} {Q:Hp->Prop} (hJ:y_ J ok n item) (Pv:Nat->St->Hp->Prop) (h0:Pv 0 τ0 H0)
  (hok:∀ i τ H,i<=n->Pv i τ H->ok H)
  (hs:∀ i τ H,i < n->Pv i τ H->g (item i) τ H fun τ2 H2=>tc τ2 H2 fun b H3=>if b=true then te τ2 H3 fun y H4=>∃ xs,H4 D=some (.lst xs)/\xs.length < sizeLine/\Pv (i+1) τ2 (upd H4 D (.lst (xs++[y]))) else Pv (i+1) τ2 H3)
  (hd:∀ τ H,Pv n τ H->Q H):∃ W:Nat->Nat->St->Hp->Prop,(∃ m,W 0 m τ0 H0)/\∀ i m τ H,W i m τ H->
   (J.stop i H/\Q H)\/(J.go i H/\∃ N:St->Hp->Prop,(∀ τ' H',N τ' H'->∃ m',m' < m/\W (i+1) m' τ' H')/\∀ x H',J.lj i H x H'->g x τ H' fun τ2 H2=>tc τ2 H2 fun b H3=>
    if b=true then te τ2 H3 fun y H4=>∃ xs,H4 D=some (.lst xs)/\xs.length < sizeLine/\N τ2 (upd H4 D (.lst (xs++[y]))) else N τ2 H3):=by
 refine ⟨fun i m τ H=>m=n - i/\i<=n/\Pv i τ H,⟨n,by simp,Nat.zero_le _,h0⟩,?_⟩
 rintro i m τ H ⟨rfl,hi,p⟩
 obtain ⟨k1,k2⟩:=hJ H (hok i τ H hi p)
 by_cases au:i < n
 ·refine .inr ⟨(k1 i au).1,Pv (i+1),fun σ' H' p'=>⟨n - (i+1),by omega,rfl,au,p'⟩,fun x H' y=>?_⟩
  obtain ⟨e,e2⟩:=(k1 i au).2 x H' y
  subst e e2
  exact hs i τ _ au p
 ·have e:i=n:=by omega
  subst e
  exact .inl ⟨k2,hd τ H p⟩
theorem cB {J:It} {ok:Hp->Prop} {item:Nat->V} {g:TG} {tb:TS} {D:Ends} (hJ:y_ J ok n item) (Pv:Nat->St->Hp->Prop) (h0:Pv 0 σ H) (hok:∀ i τ H,i<=n->Pv i τ H->ok H)
  (hs:∀ i σ H,i < n->Pv i σ H->g (item i) σ H fun σ2 H2=>tb {D with nx:=Pv (i+1),ct:=Pv (i+1),bk:=D.nx} σ2 H2) (hd:∀ σ H,Pv n σ H->D.nx σ H):
  ∃ W:Nat->Nat->St->Hp->Prop,(∃ m,W 0 m σ H)/\∀ i m σ H,W i m σ H->
   (J.stop i H/\D.nx σ H)\/(J.go i H/\∃ N:St->Hp->Prop,(∀ σ' H',N σ' H'->∃ m',m' < m/\W (i+1) m' σ' H')/\∀ x H',J.lj i H x H'->g x σ H' fun σ2 H2=>tb {D with nx:=N,ct:=N,bk:=D.nx} σ2 H2):=by
 refine ⟨fun i m σ H=>m=n - i/\i<=n/\Pv i σ H,⟨n,by simp,Nat.zero_le _,h0⟩,?_⟩
 rintro i m σ H ⟨rfl,hi,p⟩
 obtain ⟨k1,k2⟩:=hJ H (hok i σ H hi p)
 by_cases au:i < n
 ·refine .inr ⟨(k1 i au).1,Pv (i+1),fun σ' H' p'=>⟨n - (i+1),by omega,rfl,au,p'⟩,fun x H' y=>?_⟩
  obtain ⟨e,e2⟩:=(k1 i au).2 x H' y
  subst e e2
  exact hs i σ _ au p
 ·have e:i=n:=by omega
  subst e
  exact .inl ⟨k2,hd σ H p⟩
def fz (K:Q1) (mg:Str->Option Value) (x:Str) (st:Stmt) (ps:List Str):Prop:=∃ (f:Addr) (fd:FuncData),Ah K x x st f fd/\mg x=some (.ref f)/\Binds K fd ps []
theorem fz.ok {P:Program} {w:World} {K:Q1} {mg:Str->Option Value} {base:Heap} {x:Str} {st:Stmt} {N ps:List Str} {k:Nat} {sp:Sp} (F:fz K mg x st ps) (S:ee N ps (a_ st)) (len:∀ vs H Q E,sp vs H Q E->vs.length=ps.length)
  (xf:∀ (f:Addr) (ay:Value) (A:Around) (outer:List Env) (s:Shared) (H:Hp) (vs:List V) (Q:VK) (E:XK),di k (A.deeper (envOfC x (a_ st) s.heap.objs.size f ay))->sp vs H Q E->
   ∃ t,qj (yu xj P w K mg base N x (a_ st) f ay A outer s H E).AL (jj st) t/\t {nx:=fun _ H'=>Q .ai H',rt:=Q} (start N vs) H):bj P w K mg base (k+1) x ps sp:=by
 obtain ⟨f,fd,Fu,m,b⟩:=F
 exact ⟨f,fd,Fu.ok S len (xf f),m,Fu.kp,b,let ⟨oc,od,_,_,_,_,_,_,qy,_,lk,_⟩:=Fu.ex;⟨oc,od,qy,lk⟩⟩
section
variable {pos:Pos}
theorem Ux {v:V} (h:∃ u,X.mg x=some u/\RelV v u) (hg:Gl X x:=by rfl) (hd:(x==("__debug__":Str))=false:=by decide):PE X (.Name x pos) (tC v):=by
 obtain ⟨u,h1,h2⟩:=h
 exact kT hg h1 h2 hd
def Gu (K:Q1) (xs:List V):TE:=fun _ H Q=>∀ a,aj K H a xs->Q (.ref a) H
theorem Uy {xs:List V} (h:∃ a,X.mg x=some (.ref a)/\∀ H,aj X.K H a xs) (hg:Gl X x:=by rfl) (hd:(x==("__debug__":Str))=false:=by decide):PE X (.Name x pos) (Gu X.K xs):=by
 obtain ⟨a,h1,h2⟩:=h
 intro pins s σ H Q I q
 exact kT (v:=.ref a) hg h1 rfl hd pins s σ H Q I (q a (h2 H))
theorem Uz:xh X (fun x lo hi H Q=>A2 x lo hi H Q\/(AV X.K x lo hi H Q\/AU X.K x lo hi H Q)):=Ut.or (Tc.or S0)
end
section
variable (K:Q1)
theorem bC (h:X.K=K:=by rfl):BX X (A1 K):=by rw [<- h];exact Uq
theorem rZ (h:X.K=K:=by rfl):ck X (compareOp .In) (Gq K false):=by rw [<- h];exact Ur
theorem bL (h:X.K=K:=by rfl):qw X (.builtin "len") (IB K):=by rw [<- h];exact vI
theorem xP (h:X.K=K:=by rfl):xh X (fun x lo hi H Q=>A2 x lo hi H Q\/(AV K x lo hi H Q\/AU K x lo hi H Q)):=by rw [<- h];exact Uz
theorem UA {l:Expr} {tl:TE} (hl:PE X l tl) (h:X.K=K:=by rfl):PI X tg l (iD K tl):=by rw [<- h];exact Uw hl
theorem UB {pos:Pos} {xs:List V} (hx:∃ a,X.mg x=some (.ref a)/\∀ H,aj K H a xs) (h:X.K=K:=by rfl) (hg:Gl X x:=by rfl) (hd:(x==("__debug__":Str))=false:=by decide):PE X (.Name x pos) (Gu K xs):=by
 subst h;exact Uy hx hg hd
theorem UC {k:Nat} {t:wq} {pos:Pos} (hc:X.calm=true) (hh:CV X es t) (h:X.K=K:=by rfl)
  (hn:(assignEach es X.env).length=n:=by rfl) (wx:(assignEach es X.env).findIdx? (·.1)=none:=by rfl):PG X (.Tuple es k pos) (AN K n t):=by
 subst h;exact RK hc hh hn wx
theorem UD {id:String} {r:V->List V->Hp->VK->Prop} {o:Expr} {t:TA} (pa:PlainAttrs T) (slot:Slot T name id) (Ae:typeOf (.builtin id)=pure (.type "method_descriptor")) (hm:BY X id r) (ho:PE X o to) (ha:PA X (e::es) t) (h:X.K=K:=by rfl)
  (jt:attributeBase o name X.env (eval o X.env)=eval o X.env:=by rfl)
  (Eu:((backTo cpos (starEach (e::es) X.env)).all (fun x=> !x.1)&&(backToKw cpos (keywordEach [] X.env)).all (fun x=>x.1.isSome)
   &&decide ((e::es).length+([]:List Keyword).length+(if ([]:List Keyword).isEmpty then 0 else 1) < 30))=true:=by rfl)
  (ju:(apos.endLine==cpos.line)=true:=by rfl) (hs:starEach (e::es) X.env=(false,eval e X.env)::starEach es X.env:=by rfl) (Ew:(backTo cpos (starEach es X.env)).any (·.1)=false:=by rfl):
  PE X (.Call (.Attribute o name apos) (e::es) [] cpos) (Gh K T r to t):=by
 subst h;exact Ti pa slot Ae hm ho ha jt Eu ju hs Ew
end
structure SE (X:Cx) (e:Expr) (t:TE):Prop where
 h:PE X e t
structure ST (X:Cx) (e:Expr) (t:TT):Prop where
 h:PT X e t
structure SW (X:Cx) (e:Expr) (t:TT):Prop where
 h:PW X e t
structure SA (X:Cx) (es:List Expr) (t:TA):Prop where
 h:PA X es t
structure SS (X:Cx) (s:Stmt) (t:TS):Prop where
 h:PS X s t
structure SB (X:Cx) (s:List Stmt) (t:TS):Prop where
 h:qj X s t
structure SG (X:Cx) (e:Expr) (t:TG):Prop where
 h:PG X e t
structure Gv (X:Cx) (e:List Expr) (t:wq):Prop where
 h:CV X e t
structure SI (X:Cx) (tg e:Expr) (t:TI):Prop where
 h:PI X tg e t
structure SC (X:Cx) (e:List Expr) (t:TC):Prop where
 h:uq X e t
structure SO (X:Cx) (e:Option Expr) (t:TO):Prop where
 h:PO X e t
section
variable {t:TA} {c:Const} {jl:Pos} {n:Str} {Ak:List Expr} {f0 a0 b0 c0:Expr} {Mj:List Keyword} {o0:Operator} {ks0:List (Option Expr)} {Gw:List Comprehension} {Gx:Scope} {u0:UnaryOp} {bo0:BoolOp} {aaH:List CmpOp}
theorem aC:SA X [] mw:=⟨Su⟩
theorem aF (ha:SE X (.Constant c j jl) te) (hr:SA X es t):SA X (.Constant c j jl::es) (gu te t):=⟨dC ha.h hr.h⟩
theorem aD (ha:SE X (.Name n jl) te) (hr:SA X es t):SA X (.Name n jl::es) (gu te t):=⟨dC ha.h hr.h⟩
theorem tK (ha:SE X (.List Ak jl) te) (hr:SA X es t):SA X (.List Ak jl::es) (gu te t):=⟨dC ha.h hr.h⟩
theorem bH (ha:SE X (.Tuple Ak j jl) te) (hr:SA X es t):SA X (.Tuple Ak j jl::es) (gu te t):=⟨dC ha.h hr.h⟩
theorem aX (ha:SE X (.Call f0 Ak Mj jl) te) (hr:SA X es t):SA X (.Call f0 Ak Mj jl::es) (gu te t):=⟨dC ha.h hr.h⟩
theorem iX (ha:SE X (.BinOp a0 o0 b0 jl) te) (hr:SA X es t):SA X (.BinOp a0 o0 b0 jl::es) (gu te t):=⟨dC ha.h hr.h⟩
theorem aN (ha:SE X (.Subscript a0 b0 jl) te) (hr:SA X es t):SA X (.Subscript a0 b0 jl::es) (gu te t):=⟨dC ha.h hr.h⟩
theorem gJ (ha:SE X (.ListComp a0 Gw Gx jl) te) (hr:SA X es t):SA X (.ListComp a0 Gw Gx jl::es) (gu te t):=⟨dC ha.h hr.h⟩
theorem qS (ha:SE X (.DictComp a0 b0 Gw Gx jl) te) (hr:SA X es t):SA X (.DictComp a0 b0 Gw Gx jl::es) (gu te t):=⟨dC ha.h hr.h⟩
end
section
variable {a b c o i value lo hi iter elt:Expr} {tb tc td ty tv:TE} {t:TA} {pos p p2 pos' jl:Pos}
theorem zv (i:Nat) {pos:Pos} (hN:X.N[i]? =some x:=by rfl) (hv:Eh X.env.scope x:=by first | exact Or.inl rfl | exact Or.inr (Or.inl rfl) | exact Or.inr (Or.inr rfl)) (hd:(x==("__debug__":Str))=false:=by decide) (qm:(x==("__classdict__":Str))=false:=by decide):SE X (.Name x pos) (tV i):=⟨Ue i hN hv hd qm⟩
theorem Ml {v:V} (h:∃ u,X.mg x=some u/\RelV v u) (hg:Gl X x:=by rfl) (hd:(x==("__debug__":Str))=false:=by decide):SE X (.Name x pos) (tC v):=⟨Ux h hg hd⟩
theorem UE (K:Q1) {xs:List V} (hx:∃ a,X.mg x=some (.ref a)/\∀ H,aj K H a xs) (h:X.K=K:=by rfl) (hg:Gl X x:=by rfl) (hd:(x==("__debug__":Str))=false:=by decide):SE X (.Name x pos) (Gu K xs):=⟨UB K hx h hg hd⟩
theorem UG {v:V} (hg:Gl X x) (hm:X.mg x=none) (hv:bootBuiltins x=some u) (r:RelV v u) (hn:x≠"__name__":=by decide) (hd:(x==("__debug__":Str))=false:=by decide):SE X (.Name x pos) (tC v):=⟨Rt hg hm hv r hn hd⟩
theorem Mm {j}:SE X (.Constant .none j pos) (tC .ai):=⟨Rq⟩
theorem zE {b:Bool} {j}:SE X (.Constant (.bool b) j pos) (tC (.bl b)):=⟨Rp⟩
theorem aH {i:Int} {j}:SE X (.Constant (.int i) j pos) (tC (.int i)):=⟨Ro⟩
theorem aY {j}:SE X (.Constant (.str x) j pos) (tC (.str x)):=⟨Rr⟩
theorem cM {op:Operator} {r:R2} (ho:ck X (binaryOp op) r) (ha:SE X a ta) (hb:SE X b tb):SE X (.BinOp a op b pos) (mq r ta tb):=⟨RW ho ha.h hb.h⟩
theorem aU {op:CmpOp} {r:R2} (ho:ck X (compareOp op) r) (ha:SE X a ta) (hb:SE X b tb) (hm:behindInMarks op b=false):ST X (.Compare a [op] [b] pos) (Gc (mq r ta tb)):=⟨Se ho ha.h hb.h hm⟩
theorem UH (h:SE X e te) (he:∀ whole,isTrue e X.env whole=(do let v <- whole;standAt e.pos;holding [v] (truthy v)):=by intro _;rfl):ST X e (tB te):=⟨Rv h.h he⟩
theorem UI {tA:TT} (ha:ST X a tA):ST X (.UnaryOp .Not a pos) (LK tA):=⟨RA ha.h⟩
theorem UJ {tA:TT} (ha:ST X a tA):SW X (.BoolOp .And [a] pos) tA:=⟨Rw ha.h⟩
theorem Mn {tA:TT} (ha:ST X a tA):SW X (.BoolOp .Or [a] pos) tA:=⟨Rx ha.h⟩
theorem UK {tA yp:TT} {rest:List Expr} (ha:ST X a tA) (hb:SW X (.BoolOp .And (b::rest) pos) yp):SW X (.BoolOp .And (a::b::rest) pos) (LI tA yp):=⟨Ry ha.h hb.h⟩
theorem Mp {tA yp:TT} {rest:List Expr} (ha:ST X a tA) (hb:SW X (.BoolOp .Or (b::rest) pos) yp):SW X (.BoolOp .Or (a::b::rest) pos) (LJ tA yp):=⟨Rz ha.h hb.h⟩
theorem SW.pt {tA:TT} (h:SW X e tA):ST X e tA:=⟨h.h.pt⟩
theorem bS (h:SA X es t):SE X (.List es pos) (LW t):=⟨Sw h.h⟩
theorem bI {x1} (h:SA X es t):SE X (.Tuple es x1 pos) (C3 t):=⟨Sv h.h⟩
theorem m8:SE X (.Dict [] [] pos) Ma:=⟨yT⟩
theorem iV:SO X none C4:=⟨SX⟩
theorem iR (h:SE X e te):SO X (some e) (C5 te):=⟨SY h.h⟩
theorem iU {r:V->Option Int->Option Int->Hp->VK->Prop} {l u:Option Expr} {tl th:TO} (hr:xh X r) (he:SE X e te) (hl:SO X l tl) (hu:SO X u th):SE X (.Subscript e (.Slice l u none p2) pos) (C6 r te tl th):=⟨yM hr he.h hl.h hu.h⟩
theorem cW (hu:X.A.units+1 < cLine) (ho:SE X o td) (hi:SE X i ty) (hs:Gj i):SE X (.Subscript o i pos) (L7 td ty):=⟨Tz hu ho.h hi.h hs⟩
theorem bB {r:R2} (hr:BX X r) (ha:SE X a ta) (hb:SE X b tb) (hs:L3 b):SE X (.Subscript a b pos) (mq r ta tb):=⟨S3 hr ha.h hb.h hs⟩
theorem bQ {k:Nat} {sp:Sp} (F:bj X.prog X.w X.K X.mg X.base k x ps sp) (hr:di k X.A) (ha:SA X (e::es) t) (hg:Gl X x:=by rfl) (jr:(x==("__debug__":Str))=false:=by decide)
  (he:starEach (e::es) X.env=(false,eval e X.env)::starEach es X.env:=by rfl) (gf:(backTo pos (starEach es X.env)).any (·.1)=false:=by rfl):
  SE X (.Call (.Name x p) (e::es) [] pos) (Er sp [] E0 t):=⟨Uu F hr ha.h hg jr he gf⟩
theorem cE {id:String} {r:List V->Hp->VK->Prop} (hc:qw X (.builtin id) r) (hg:Gl X x) (hm:X.mg x=none) (hv:bootBuiltins x=some (.builtin id)) (ha:SA X (e::es) t) (hn:x≠"__name__":=by decide) (jr:(x==("__debug__":Str))=false:=by decide)
  (he:starEach (e::es) X.env=(false,eval e X.env)::starEach es X.env:=by rfl) (gf:(backTo pos (starEach es X.env)).any (·.1)=false:=by rfl):SE X (.Call (.Name x p) (e::es) [] pos) (BU r t):=⟨zP hc hg hm hv ha.h hn jr he gf⟩
theorem iB (K:Q1) {id:String} {r:V->List V->Hp->VK->Prop} (pa:PlainAttrs T) (slot:Slot T name id) (Ae:typeOf (.builtin id)=pure (.type "method_descriptor")) (hm:BY X id r) (ho:SE X o to) (ha:SA X (e::es) t) (h:X.K=K:=by rfl)
  (jt:attributeBase o name X.env (eval o X.env)=eval o X.env:=by rfl)
  (Eu:((backTo cpos (starEach (e::es) X.env)).all (fun x=> !x.1)&&(backToKw cpos (keywordEach [] X.env)).all (fun x=>x.1.isSome)
   &&decide ((e::es).length+([]:List Keyword).length+(if ([]:List Keyword).isEmpty then 0 else 1) < 30))=true:=by rfl)
  (ju:(apos.endLine==cpos.line)=true:=by rfl) (hs:starEach (e::es) X.env=(false,eval e X.env)::starEach es X.env:=by rfl) (Ew:(backTo cpos (starEach es X.env)).any (·.1)=false:=by rfl):
  SE X (.Call (.Attribute o name apos) (e::es) [] cpos) (Gh K T r to t):=⟨UD K pa slot Ae hm ho.h ha.h h jt Eu ju hs Ew⟩
theorem cH:SB X [] Ib:=⟨RC⟩
theorem aG {st:Stmt} {u:TS} (h1:SS X st u):SB X [st] u:=⟨RD h1.h⟩
theorem aE {st:Stmt} {rest:List Stmt} {u v:TS} (h1:SS X st u) (h2:SB X rest v):SB X (st::rest) (BJ u v):=⟨xV h1.h h2.h⟩
theorem bE (he:SE X e te):SS X (.Return (some e) pos) (CU te):=⟨RG he.h⟩
theorem bO (he:SE X e te) (hs:swapsWith e none pos.line X.env=pure false:=by rfl):SS X (.Expr e pos) (F6 te):=⟨RE he.h hs⟩
theorem eG {a b:List Stmt} {tA:TT} {u v:TS} (hc:ST X c tA) (ha:SB X a u) (hb:SB X b v):SS X (.If c a b pos) (F7 tA u v):=⟨RJ hc.h ha.h hb.h⟩
theorem cU {wi:TI} {g:TG} {u:TS} (hp:PassesOwn (model X.prog X.w) X.A X.env X.xe) (hc:X.calm=true) (hi:SI X tg iter wi) (hg:SG X tg g) (hb:SB X body u) (hs:∀ x,foldedSetIterable iter X.env x=pure x:=by intro _;rfl):SS X (.For tg iter body [] pos) (LP wi g u):=⟨RQ hp hc hi.h hg.h hb.h hs⟩
theorem iJ {tA:TT} {u:TS} (hp:PassesOwn (model X.prog X.w) X.A X.env X.xe) (hc:ST X c tA) (hb:SB X body u):SS X (.While c body [] pos) (LN tA u):=⟨yG hp hc.h hb.h⟩
theorem aQ {i:Nat} (hN:X.N.Nodup) (hi:X.N[i]? =some x) (hx:Loc X.env.scope x) (he:SE X e te) (hs:swapsWith e (some (.Name x pos')) pos.line X.env=pure false:=by rfl) (hf:X.fn x=true\/X.env.scope.names.lookup x=some .local:=by first | exact .inl rfl | exact .inr rfl | assumption):
  SS X (.Assign [.Name x pos'] e pos) (yr te (jc i)):=⟨RP hN hi hx he.h hs hf⟩
theorem nP (hu:X.A.units+1 < cLine) (ho:SE X o td) (hi:SE X i ty) (hv:SE X value tv) (hs:swapsWith value (some (.Subscript o i pos')) pos.line X.env=pure false):SS X (.Assign [.Subscript o i pos'] value pos) (L8 td ty tv):=⟨TF hu ho.h hi.h hv.h hs⟩
theorem zQ {g:TG} (he:SE X e te) (hg:SG X tg g) (hs:swapsWithSole [tg] e pos.line X.env=pure false:=by rfl) (hw:swappedStores [tg] e X.env=pure none:=by rfl)
  (h1:(assignEach [tg] X.env).map (·.2)=[assign tg X.env]:=by rfl):SS X (.Assign [tg] e pos) (yr te g):=⟨RN he.h hg.h hs hw h1⟩
theorem aI {i:Nat} (hN:X.N.Nodup) (hi:X.N[i]? =some x) (hx:Loc X.env.scope x) (hf:X.fn x=true\/X.env.scope.names.lookup x=some .local:=by first | exact .inl rfl | exact .inr rfl | assumption):SG X (.Name x pos) (jc i):=⟨zW hN hi hx hf⟩
theorem cC:Gv X [] CW:=⟨zX⟩
theorem aM {g:TG} {u:wq} (h1:SG X e g) (h2:Gv X es u) (hs:(assignEach (e::es) X.env).map (·.2)=assign e X.env::(assignEach es X.env).map (·.2):=by rfl):Gv X (e::es) (wu g u):=⟨xF h1.h h2.h hs⟩
theorem d6 (K:Q1) {k:Nat} {u:wq} (hc:X.calm=true) (hh:Gv X es u) (h:X.K=K:=by rfl)
  (hn:(assignEach es X.env).length=n:=by rfl) (wx:(assignEach es X.env).findIdx? (·.1)=none:=by rfl):SG X (.Tuple es k pos) (AN K n u):=⟨UC K hc hh.h h hn wx⟩
theorem zU {u:F8} (ho:SE X o td) (hi:SE X i ty) (hs:Ic X u)
  (ha:∀ v,assign (.Subscript o i pos) X.env v=(do
   let ov <- holding [v] (eval o X.env)
   let iv <- holding [v,ov] (eval i X.env)
   standAt pos
   holding [v,ov,iv] (setItem ov iv v)
   release [v,ov,iv] []):=by intro _;rfl):SG X (.Subscript o i pos) (LM td ty u):=⟨RL ho.h hi.h hs ha⟩
theorem lI (hg:Gl X "range") (hm:X.mg "range"=none) (ha:SA X [a] t) (hs:starEach [a] X.env=[(false,eval a X.env)]:=by rfl):SI X tg (.Call (.Name "range" p) [a] [] pos) (LO t):=⟨vE hg hm ha.h hs⟩
theorem jT (K:Q1) (hl:SE X e te) (h:X.K=K:=by rfl):SI X tg e (iD K te):=⟨UA K hl.h h⟩
theorem dL:SC X [] Dc:=⟨T_⟩
theorem wV {tA:TT} (h:ST X c tA):SC X [c] tA:=⟨Ua h.h⟩
theorem nU {wi:TI} {g:TG} {tt:TC} (S:o_ X.env.scope X.N sc own idx N') (hc:X.calm=true) (hi:SI X tg iter wi)
  (hg:∀ cl C s3 H0 fp pn,SG (bz X N' sc cl C s3 H0 fp pn) tg g) (ht:∀ cl C s3 H0 fp pn,SC (bz X N' sc cl C s3 H0 fp pn) ifs tt) (he:∀ cl C s3 H0 fp pn,SE (bz X N' sc cl C s3 H0 fp pn) elt te)
  (hs:∀ x,foldedSetIterable iter X.env x=pure x:=by intro _;rfl):SE X (.ListComp elt [⟨tg,iter,ifs,0⟩] sc pos) (B3 own idx wi g tt te):=
 ⟨Uc S hc hi.h (fun q r s t u v=>(hg q r s t u v).h) (fun q r s t u v=>(ht q r s t u v).h) (fun q r s t u v=>(he q r s t u v).h) hs⟩
theorem IE {wi:TI} {g:TG} {tt:TC} {i:Nat} {y:Str} {py spos:Pos} (S:o_ X.env.scope X.N sc own idx N') (hc:X.calm=true) (hi:SI X tg iter wi)
  (hg:∀ cl C s3 H0 fp pn,SG (bz X N' sc cl C s3 H0 fp pn) tg g) (ht:∀ cl C s3 H0 fp pn,SC (bz X N' sc cl C s3 H0 fp pn) ifs tt) (he:∀ cl C s3 H0 fp pn,SE (bz X N' sc cl C s3 H0 fp pn) elt te)
  (hN:X.N.Nodup) (EJ:X.N[i]? =some y) (hy:X.env.scope.names.lookup y=some .local)
  (EK:swapsWith (.ListComp elt [⟨tg,iter,ifs,0⟩] sc pos) (some (.Name y py)) spos.line X.env=pure true:=by rfl)
  (hs:∀ x,foldedSetIterable iter X.env x=pure x:=by intro _;rfl):SS X (.Assign [.Name y py] (.ListComp elt [⟨tg,iter,ifs,0⟩] sc pos) spos) (yr (B3 own idx wi g tt te) (jc i)):=
 ⟨Ud S hc hi.h (fun q r s t u v=>(hg q r s t u v).h) (fun q r s t u v=>(ht q r s t u v).h) (fun q r s t u v=>(he q r s t u v).h) hN EJ hy EK hs⟩
end
theorem fz.gg {K:Q1} {st:Stmt} {k:Nat} {sp:Sp} (F:fz K mg x st ps) (S:ee N ps (a_ st)) (len:∀ vs H Q E,sp vs H Q E->vs.length=ps.length)
  (xf:∀ (f:Addr) (ay:Value) (A:Around) (outer:List Env) (s:Shared) (H:Hp) (vs:List V) (Q:VK) (E:XK),di k (A.deeper (envOfC x (a_ st) s.heap.objs.size f ay))->sp vs H Q E->
   ∃ t,SB (yu xj P w K mg base N x (a_ st) f ay A outer s H E).AL (jj st) t/\t {nx:=fun _ H'=>Q .ai H',rt:=Q} (start N vs) H):bj P w K mg base (k+1) x ps sp:=
 F.ok S len fun f ay A outer s H vs Q E hr h=>let ⟨t,h1,h2⟩:=xf f ay A outer s H vs Q E hr h;⟨t,h1.h,h2⟩
theorem Mq {kx vx target iter:Expr} {scope:Scope} {pos:Pos} {it:Value} {D:Addr} (I:Nat->Shared->Prop)
  (turn:∀ n s,I n s->wpAny (model prog w) A (pyNext it) (fun r s₁=>match r with
   | none=>R (.ok .next) s₁
   | some v=>wpAny (model prog w) A (letOwnedTupleGo target it v) (fun _ Ey=>wpAny (model prog w) A (assign target env v) (fun _ s₂=>
     wpAny (model prog w) A (forIn ifs true fun c r=>if r=true then do let ok <- isTrue c env (eval c env);pure (ForInStep.yield ok) else pure (ForInStep.yield r)) (fun ok s₃=>
      if ok=true then wpAny (model prog w) A (eval kx env) (fun kv s₄=>wpAny (model prog w) A (eval vx env) (fun vv s₅=>
       wpAny (model prog w) A (dictSet D kv vv) (fun _ s₆=>∃ m,m < n/\I m s₆) ki s₅) ki s₄) ki s₃
      else ∃ m,m < n/\I m s₃) ki s₂) ki Ey) ki s₁) ki s)
  (n:Nat) (h:I n s):
  codeAny (model prog w) A (.compLoop (.DictComp kx vx [⟨target,iter,ifs,0⟩] scope pos) 0 it (.ref D) env) R s:=by
 refine codeAny_loop rfl I (fun n s hI=>?_) n h
 show wpAny _ A ((compTurn (.DictComp kx vx [⟨target,iter,ifs,0⟩] scope pos) 0 it (.ref D) env).onRaise (fun x=>do noteFrame x env;theTreesLotGoes x)) _ _ s
 refine wpAny_noted ?_
 rw [compTurn_dict]
 refine QU (wpAny_standAt (QU (wpAny_mono (turn n s hI) (fun r s₁ h₁=>?_) fun _ _ h'=>h'.elim)))
 cases r with
 | none=>exact QV h₁
 | some v=>
  refine QU (wpAny_mono h₁ (fun _ Ey Iu=>?_) fun _ _ h'=>h'.elim)
  refine QU (wpAny_mono Iu (fun _ s₂ h₂=>QU (wpAny_mono h₂ (fun ok s₃ h₃=>?_) fun _ _ h'=>h'.elim)) fun _ _ h'=>h'.elim)
  cases ok with
  | false=>exact QV ⟨rfl,h₃⟩
  | true=>
   exact QU (QU (wpAny_mono h₃ (fun kv s₄ h₄=>QU (wpAny_holding (wpAny_mono h₄ (fun vv s₅ h₅=>QU (wpAny_standAt (wpAny_holding (wpAny_mono h₅ (fun _ s₆ h₆=>QV ⟨rfl,h₆⟩) fun _ _ h'=>h'.elim)))) fun _ _ h'=>h'.elim))) fun _ _ h'=>h'.elim))
section
variable {iter kx vx:Expr} {pos:Pos} {wi:TI} {g:TG} {tc:TC} {tk tw:TE}
abbrev jm:Obj:={cls:=.type "dict",data:=.dict #[]}
def IF (own:List Str) (idx:List Nat) (wi:TI) (g:TG) (tc:TC) (tk tw:TE):TE:=fun σ H Q=>wi σ H fun J H1=>∀ D,H1 D=none->∃ W:Nat->Nat->St->Hp->Prop,(∃ m,W 0 m (uh own idx σ) (upd H1 D (.dK [])))/\∀ i m τ H,W i m τ H->
 (J.stop i H/\Q (.ref D) H)\/(J.go i H/\∃ N:St->Hp->Prop,(∀ τ' H',N τ' H'->∃ m',m' < m/\W (i+1) m' τ' H')/\∀ x H',J.lj i H x H'->g x τ H' fun τ2 H2=>tc τ2 H2 fun b H3=>
  if b=true then tk τ2 H3 fun x H4=>tw τ2 H4 fun y H5=>∃ kvs key,x=kV key/\H5 D=some (.dK kvs)/\kvs.length < sizeLine/\N τ2 (upd H5 D (.dK (putK kvs key y))) else N τ2 H3)
theorem k8 (S:o_ X.env.scope X.N sc own idx N') {cl:List (Str×Addr)} (c1:∀ x c,cl.lookup x=some c->X.env.cells.lookup x=some c) (c2:∀ y∈sc.names,y.2=.free->∃ c,cl.lookup y.1=some c) (hc:X.calm=true)
  (hg:∀ cl C s3 H0 fp pn,PG (bz X N' sc cl C s3 H0 fp pn) tg g) (ht:∀ cl C s3 H0 fp pn,uq (bz X N' sc cl C s3 H0 fp pn) ifs tc) (he:∀ cl C s3 H0 fp pn,PE (bz X N' sc cl C s3 H0 fp pn) kx tk) (hv:∀ cl C s3 H0 fp pn,PE (bz X N' sc cl C s3 H0 fp pn) vx tw)
  {pins:List (Addr×Obj)} {σ:St} {Q:VK} {ow:Value} {s2:Shared} {RR:Value->Addr->Result->Shared->Prop} {E:Value->Shared->Prop}
  (hI:CY X pins σ tg (fun J H1=>∀ D,H1 D=none->∃ W:Nat->Nat->St->Hp->Prop,(∃ m,W 0 m (uh own idx σ) (upd H1 D (.dK [])))/\∀ i m τ H,W i m τ H->
   (J.stop i H/\Q (.ref D) H)\/(J.go i H/\∃ N:St->Hp->Prop,(∀ τ' H',N τ' H'->∃ m',m' < m/\W (i+1) m' τ' H')/\∀ x H',J.lj i H x H'->g x τ H' fun τ2 H2=>tc τ2 H2 fun b H3=>
    if b=true then tk τ2 H3 fun x H4=>tw τ2 H4 fun y H5=>∃ kvs key,x=kV key/\H5 D=some (.dK kvs)/\kvs.length < sizeLine/\N τ2 (upd H5 D (.dK (putK kvs key y))) else N τ2 H3)) ow s2)
  (Ez:∀ D C H' s',Inv X pins σ H' s'->Q (.ref D) H'->(H' C=none/\C≠X.env.locals/\X.s₀.heap.objs.size<=C/\(∀ x c,X.env.cells.lookup x=some c->c≠C)/\(∀ p∈X.pn++pins,p.1≠C)/\∃ m,s'.heap.Ns C m)->RR (.ref D) C (.ok .next) s'):
  wpAny (model X.prog X.w) X.A newDict (fun acc s₃=>wpAny (model X.prog X.w) X.A (newFunctionEnv sc X.env.globals cl [] X.env.qual none .none (some X.env)) (fun cenv s₄=>
   codeAny (model X.prog X.w) X.A (.compStart (.DictComp kx vx [⟨tg,iter,ifs,0⟩] sc pos) 0 ow acc {cenv with scope:=relabel sc X.env}) (RR acc cenv.locals) s₄) E s₃) E s2:=by
 obtain ⟨it,fp,tn,J,H2,rfl,I,T,fu,f2,body⟩:=hI
 refine wpAny_newObj_type (wpAny_newFunctionEnv S.cell (by intro y hy;simp at hy) (fun h4 ns sb=>?_) S.kind)
 dsimp only at ns sb ⊢
 have xn:jm.isFreed=false:=rfl
 have fr:H2 s2.heap.objs.size=none:=I.hok.fresh (Qz _)
 obtain ⟨W,⟨m0,w0⟩,turn⟩:=body _ fr
 have um:∀ b∈fp,∃ o,s2.heap.get? b=some o:=fun b hb=>let ⟨o,e,_⟩:=T.obj _ _ fu b hb;⟨o,e⟩
 have vg:∀ b o,(s2.heap.push jm).get? b=some o->h4.get? b=some o:=fun b o e=>(sb.2 b (Nat.ne_of_lt (QA e))).trans (Qc _ e)
 have EA:∀ (H:Hp) (h:Heap),h.get? s2.heap.objs.size=some jm->bg X.prog X.w H h s2.heap.objs.size (.dK []):=fun H h e=>⟨Nat.zero_le _,beq_eq_false_iff_ne.mpr (Ne.symm (Nat.ne_of_lt I.big)),[],.nil,(Heap.DictOf.new s2.heap).at fun o eo=>by rw [Qd _ rfl] at eo;cases eo;exact e⟩
 have I4:Inv (bz X N' sc cl (s2.heap.push jm).objs.size {s2 with heap:=s2.heap.push jm} (upd H2 s2.heap.objs.size (.dK [])) fp (X.pn++pins)) [] (uh own idx σ) (upd H2 s2.heap.objs.size (.dK [])) {s2 with heap:=h4,toks:=s2.toks+([]:List (Str×Value)).length}:=
  kX S I f2 um c1 c2 xn EA ns vg
 -- C1 Mf own context
 generalize hY:bz X N' sc cl (s2.heap.push jm).objs.size {s2 with heap:=s2.heap.push jm} (upd H2 s2.heap.objs.size (.dK [])) fp (X.pn++pins)=Y at I4
 have EB:PG Y tg g:=by rw [<- hY];exact hg _ _ _ _ _ _
 have EC:uq Y ifs tc:=by rw [<- hY];exact ht _ _ _ _ _ _
 have ED:PE Y kx tk:=by rw [<- hY];exact he _ _ _ _ _ _
 have IG:PE Y vx tw:=by rw [<- hY];exact hv _ _ _ _ _ _
 have pY:Y.prog=X.prog:=by rw [<- hY]
 have wY:Y.w=X.w:=by rw [<- hY]
 have KY:Y.K=X.K:=by rw [<- hY]
 have AY:Y.A=X.A:=by rw [<- hY]
 have cY:Y.calm=true:=by rw [<- hY];exact hc
 have xY:Y.xe=fun _ _=>False:=by rw [<- hY]
 have eY:Y.env=compEnvC sc cl (s2.heap.push jm).objs.size X.env:=by rw [<- hY]
 have EE:Y.ex=fp:=by rw [<- hY]
 have EF:Y.fs=mi X.stack:=by rw [<- hY]
 have EG:Y.pn=X.pn++pins:=by rw [<- hY]
 have qp:∀ {H':Hp},(∀ b∈fp,H' b=none)->∀ b∈fp,qo Y [] H' b:=fun hn b hb=>by
  obtain ⟨f0,f1,f3,f4,f5,f6⟩:=f2 b hb
  refine ⟨hn b hb,?_,?_,.inl (by rw [EE];exact hb),fun x c e=>?_,fun p hp=>?_⟩
  ·obtain ⟨o,e⟩:=um b hb
   have:=QA e
   rw [eY]
   show b≠(s2.heap.push jm).objs.size
   rw [Heap.size_push];exact Nat.ne_of_lt (Nat.lt_succ_of_lt this)
  ·rw [EF]
   intro z
   rcases Qp.mp (I.BI b z) with z | z
   ·exact f1 z
   ·exact f3 z
  ·rw [eY] at e
   exact f5 x c (c1 x c e)
  ·rw [EG,QS] at hp
   exact f6 p hp
 have A0:tn 0 h4:=T.keep _ _ _ fu fun b hb o e=>vg b o (Qc _ e)
 have Aj:∀ b∈fp,upd H2 s2.heap.objs.size (.dK []) b=none:=fun b hb=>by
  obtain ⟨o,e⟩:=um b hb
  rw [aB (Nat.ne_of_lt (QA e))]
  exact (f2 b hb).1
 have loop:codeAny (model X.prog X.w) X.A (.compLoop (.DictComp kx vx [⟨tg,iter,ifs,0⟩] sc pos) 0 (.ref it) (.ref s2.heap.objs.size) (compEnvC sc cl (s2.heap.push jm).objs.size X.env))
   (RR (.ref s2.heap.objs.size) (s2.heap.push jm).objs.size) {s2 with heap:=h4,toks:=s2.toks+([]:List (Str×Value)).length}:=by
  refine Mq (fun n s'=>∃ i τ H',Inv Y [] τ H' s'/\tn i s'.heap/\(∀ b∈fp,H' b=none)/\W i n τ H') ?_ m0 ⟨0,_,_,I4,A0,Aj,w0⟩
  rintro n s3 ⟨i,τ3,H3,I3,wz,mj,w3⟩
  rcases turn i n τ3 H3 w3 with ⟨stop,qn⟩ | ⟨go,N,hN,step⟩
  ·have h:=T.done Y pY wY KY cY i [] s3 τ3 H3 ki I3 (qp mj) wz stop
   rw [AY] at h
   refine ao h ?_
   rintro r s4 ⟨hr,EH⟩
   subst hr
   have J4:=EH
   rw [<- hY] at J4
   obtain ⟨b1,b2⟩:=jK I f2 xn J4
   exact Ez _ _ _ _ b1 qn b2
  ·have h:=T.item Y pY wY KY cY i [] s3 τ3 H3 ki I3 (qp mj) wz go
   rw [AY] at h
   refine ao h ?_
   rintro r s4 ⟨u,hr,EI⟩
   subst hr
   refine ao EI ?_
   rintro _ s5 ⟨x,H5,I5,r5,y5,qt,BL⟩
   have BN:=I5.pinned (qp BL) (T.obj _ _ qt)
   have g5:=EB _ s5 τ3 H5 x u _ BN r5 (step x H5 y5)
   rw [pY,wY,AY,xY,eY] at g5
   refine ao g5 ?_
   rintro _ s6 ⟨τ6,H6,I6,q6⟩
   have t6:=EC _ s6 τ6 H6 _ I6 q6
   rw [pY,wY,AY,xY,eY] at t6
   refine ao t6 ?_
   rintro ok s7 ⟨H7,I7,q7⟩
   have again:∀ {τ8:St} {H8:Hp} {s8:Shared},Inv Y ([]++BK fp s5.heap) τ8 H8 s8->N τ8 H8->∃ m,m < n/\∃ i τ' H',Inv Y [] τ' H' s8/\tn i s8.heap/\(∀ b∈fp,H' b=none)/\W i m τ' H':=fun {τ8 H8 s8} I8 n8=>by
    obtain ⟨m',hm,w8⟩:=hN τ8 H8 n8
    refine ⟨m',hm,i+1,τ8,H8,I8.C0,T.keep _ _ _ qt fun b hb o e=>(I8.pin (b,o) (List.mem_append_right _ (List.mem_append_right _ (cI hb e)))).1,fun b hb=>?_,w8⟩
    obtain ⟨o,e,d⟩:=T.obj _ _ qt b hb
    exact (I8.pin (b,o) (List.mem_append_right _ (List.mem_append_right _ (cI hb e)))).2.1
   cases ok with
   | false=>
    rw [if_neg (by decide)] at q7 ⊢
    exact again I7 q7
   | true=>
    rw [if_pos rfl] at q7 ⊢
    have e7:=ED _ s7 τ6 H7 _ I7 q7
    rw [pY,wY,AY,xY,eY] at e7
    refine ao e7 ?_
    rintro kv s8 ⟨x8,H8,I8,r8,q8⟩
    have v8:=IG _ s8 τ6 H8 _ I8 q8
    rw [pY,wY,AY,xY,eY] at v8
    refine ao v8 ?_
    rintro yv s9 ⟨y9,H9,I9,r9,kvs,key,ek,Dd,hz,n9⟩
    subst ek
    obtain ⟨z,hd,vs,rel,dd⟩:=pB I9.hok Dd
    have B4:vs.length<=sizeLine:=by rw [<- rel.length];exact z
    have c_:(putK kvs key y9).length<=sizeLine:=by have:=bT kvs key y9;omega
    rw [pY,wY] at dd
    refine wpAny_dictSet_pairs (hsz:=B4) (gA r8) dd fun h' ia hs=>?_
    have II:∃ q,h'.get? s2.heap.objs.size=some q:=let ⟨q,_,_,hq,_⟩:=ia;⟨q,hq⟩
    rw [<- pY,<- wY] at ia
    have De:=dR (t':=s9.toks+1) (ob:=.dK (putK kvs key y9)) I9 (by rw [Dd];exact True.intro) hs II (lF c_ hd (rel.put key r9) ia)
    exact again De n9
 exact codeAny_compStart_dict loop (T.self _ 0 _ _ _ A0 loop)
theorem UL (S:o_ X.env.scope X.N sc own idx N') (hc:X.calm=true) (hi:PI X tg iter wi)
  (hg:∀ cl C s3 H0 fp pn,PG (bz X N' sc cl C s3 H0 fp pn) tg g) (ht:∀ cl C s3 H0 fp pn,uq (bz X N' sc cl C s3 H0 fp pn) ifs tc) (he:∀ cl C s3 H0 fp pn,PE (bz X N' sc cl C s3 H0 fp pn) kx tk) (hv:∀ cl C s3 H0 fp pn,PE (bz X N' sc cl C s3 H0 fp pn) vx tw)
  (hs:∀ x,foldedSetIterable iter X.env x=pure x:=by intro _;rfl):PE X (.DictComp kx vx [⟨tg,iter,ifs,0⟩] sc pos) (IF own idx wi g tc tk tw):=by
 intro pins s σ H Q I h
 obtain ⟨cl,pe,c1,c2⟩:=S.closure I.ok
 show wpAny _ X.A (comprehension (.DictComp kx vx [⟨tg,iter,ifs,0⟩] sc pos) sc X.env _ newDict false (eval iter X.env)) _ _ s
 refine wpAny_comprehension_free (use:=none) rfl hs pe S.kind S.names (ao (hi pins s σ H _ I h) fun v s1 h1=>ao h1 fun ow s2 h2=>?_)
 refine k8 (Q:=Q) (pins:=pins) (σ:=σ) (RR:=fun acc C=>compPost (model X.prog X.w) X.A X.xe none (EP X pins σ Q) acc C) S c1 c2 hc hg ht he hv h2 ?_
 intro D C H' s' I' q ⟨a1,a2,a3,a4,a5,m,a6⟩
 exact ⟨m,a6,fun h' sb=>⟨.ref D,H',I'.turned (t':=s'.toks) (fun b o hb e=>(sb.2 b hb).trans e) a1 (Ne.symm (Ne.symm a2)) (.inr a3) a4 a5,rfl,q⟩⟩
theorem zH (S:o_ X.env.scope X.N sc own idx N') (hc:X.calm=true) (hi:SI X tg iter wi)
  (hg:∀ cl C s3 H0 fp pn,SG (bz X N' sc cl C s3 H0 fp pn) tg g) (ht:∀ cl C s3 H0 fp pn,SC (bz X N' sc cl C s3 H0 fp pn) ifs tc) (he:∀ cl C s3 H0 fp pn,SE (bz X N' sc cl C s3 H0 fp pn) kx tk) (hv:∀ cl C s3 H0 fp pn,SE (bz X N' sc cl C s3 H0 fp pn) vx tw)
  (hs:∀ x,foldedSetIterable iter X.env x=pure x:=by intro _;rfl):SE X (.DictComp kx vx [⟨tg,iter,ifs,0⟩] sc pos) (IF own idx wi g tc tk tw):=
 ⟨UL S hc hi.h (fun q r s t u v=>(hg q r s t u v).h) (fun q r s t u v=>(ht q r s t u v).h) (fun q r s t u v=>(he q r s t u v).h) (fun q r s t u v=>(hv q r s t u v).h) hs⟩
end
theorem aa.upd {H:Hp} {a:Addr} (h:H a=none) (o:HO):aa H (upd H a o):=fun b u q=>by rw [aB (aL q h)];exact q
theorem f_ {c:Bool} {A B:Prop} (h1:c=true->A) (h2:c=false->B):if c=true then A else B:=by
 cases c with
 | true=>exact B0 (h1 rfl)
 | false=>exact Ai (h2 rfl)
theorem aO {t u:TS} {D:Ends} (mid:St->Hp->Prop) (h1:∀ nx:St->Hp->Prop,(∀ σ' H',mid σ' H'->nx σ' H')->t {D with nx:=nx} σ H) (h2:∀ σ' H',mid σ' H'->u D σ' H'):BJ t u D σ H:=h1 (u D) h2
theorem aK (x:α) (xs:List α):nc (x::xs) 0=some x:=gT (j:=0) rfl
theorem l5 (xs:List α) (i:Int) (h0:0<=i) (h1:i < xs.length):∃ c,xs[i.toNat]? =some c/\nc xs i=some c:=by
 have hl:i.toNat < xs.length:=by omega
 refine ⟨xs[i.toNat],by simp [hl],?_⟩
 have:=gT (xs:=xs) (j:=i.toNat) (v:=xs[i.toNat]) (by simp [hl])
 rw [<- this]
 congr 1
 omega
theorem g9 (ns:List Str) (i:Nat) (h:i < ns.length):(ns.map V.str).getD i .ai=.str (ns.getD i ""):=by
 simp [Qb,h]
abbrev UM (w:Addr) (m t:Int):List (Key×V):=[(.inr "mixed",.int m),(.inr "turn",.int t),(.inr "wide",.ref w)]
structure A3 (H:Hp) (p w:Addr) (t:Nat):Prop where
 ex:∃ (m c:Int) (ws:List Int),H p=some (.dK (UM w m c))/\H w=some (.lst (ws.map V.int))/\(0<=m/\m < 2147483629)/\0<=c/\c<=(t:Int)
def Sm (p w:Addr) (H H':Hp):Prop:=∀ b o,H b=some o->b≠p->b≠w->H' b=some o
theorem Sm.trans {w:Addr} {H1 H2:Hp} (a:Sm p w H H1) (b:Sm p w H1 H2):Sm p w H H2:=fun c o h h1 h2=>b c o (a c o h h1 h2) h1 h2
theorem aa.sm {w:Addr} {H1:Hp} (a:aa H H1):Sm p w H H1:=fun c o h _ _=>a c o h
theorem A3.same {w:Addr} {t:Nat} (h:A3 H p w t) (s:aa H H'):A3 H' p w t:=by
 obtain ⟨m,c,ws,h1,h2,r⟩:=h.ex
 exact ⟨m,c,ws,s _ _ h1,s _ _ h2,r⟩
theorem Sm.free {w:Addr} (s:Sm p w H H') (h:H' l=none) (hp:l≠p) (hw:l≠w):H l=none:=by
 cases q:H l with
 | none=>rfl
 | some o=>rw [s l o q hp hw] at h;cases h
theorem A3.upd {H:Hp} {p w D:Addr} {t:Nat} {o:HO} (h:A3 H p w t) (h1:D≠p) (h2:D≠w):A3 (upd H D o) p w t:=by
 obtain ⟨m,c,ws,e1,e2,r⟩:=h.ex
 exact ⟨m,c,ws,by rw [aB h1.symm];exact e1,by rw [aB h2.symm];exact e2,r⟩
theorem Sm.upd {p w D:Addr} {H H':Hp} {o:HO} (s:Sm p w H H') (h:H D=none):Sm p w H (upd H' D o):=fun b u hb h1 h2=>by rw [aB (aL hb h)];exact s b u hb h1 h2
def Gy (p w:Addr) (H:Hp):V->Prop
 | .ai=>True
 | .bl _=>True
 | .int _=>True
 | .str z=>z.length<=100000
 | .ref a=>a≠p/\a≠w/\((∃ xs,H a=some (.lst xs))\/(∃ xs,H a=some (.tup xs))\/∃ kvs,H a=some (.dK kvs))
 | _=>False
theorem Gy.sm {w:Addr} {x:V} (h:Gy p w H x) (s:Sm p w H H'):Gy p w H' x:=by
 cases x with
 | ref a=>
  obtain ⟨h1,h2,h3⟩:=h
  refine ⟨h1,h2,?_⟩
  rcases h3 with ⟨xs,e⟩ | ⟨xs,e⟩ | ⟨xs,e⟩
  ·exact .inl ⟨xs,s _ _ e h1 h2⟩
  ·exact .inr (.inl ⟨xs,s _ _ e h1 h2⟩)
  ·exact .inr (.inr ⟨xs,s _ _ e h1 h2⟩)
 | _=>exact h
structure Df (p w:Addr) (t:Nat) (H:Hp) (xs:List V):Prop where
 UN:A3 H p w t
 all:∀ x∈xs,Gy p w H x
section
variable {w:Addr} {t u:Nat} {xs ys:List V}
theorem Df.sm (g:Df p w t H xs) (hp:A3 H' p w u) (s:Sm p w H H'):Df p w u H' xs:=⟨hp,fun x hx=>(g.all x hx).sm s⟩
theorem Df.upd {q:Addr} {o:HO} (g:Df p w t H xs) (h:H q=none):Df p w t (upd H q o) xs:=g.sm (g.UN.same (aa.upd h o)) (aa.upd h o).sm
end
section
variable {p pos:Pos} {t:TA}
theorem cJ {r:List V->Hp->VK->Prop} (hc:qw X (.type T) r) (hg:Gl X x) (hm:X.mg x=none) (hv:bootBuiltins x=some (.type T)) (ha:SA X (e::es) t) (hn:x≠"__name__":=by decide) (jr:(x==("__debug__":Str))=false:=by decide)
  (he:starEach (e::es) X.env=(false,eval e X.env)::starEach es X.env:=by rfl) (gf:(backTo pos (starEach es X.env)).any (·.1)=false:=by rfl):SE X (.Call (.Name x p) (e::es) [] pos) (BU r t):=⟨uI hc hg hm hv ha.h hn jr he gf⟩
def Mr (K:Q1):List V->Hp->VK->Prop:=fun xs H Q=>∃ p ys,xs=[.ref p]/\((af K H p ys/\∀ l,H l=none->Q (.ref l) (upd H l (.tup ys)))\/(aj K H p ys/\Q (.ref p) H))
def IJ (K:Q1):List V->Hp->VK->Prop:=fun xs H Q=>∃ p ys,xs=[.ref p]/\(af K H p ys\/aj K H p ys)/\∀ l,H l=none->Q (.ref l) (upd H l (.lst ys))
theorem dW (K:Q1) (h:X.K=K:=by rfl):qw X (.type "tuple") (Mr K):=by subst h;exact mC
theorem mU (K:Q1) (h:X.K=K:=by rfl):qw X (.type "list") (IJ K):=by subst h;exact nK
end
mutual
inductive vh (H:Hp):V->PyData->Prop
 | ai:vh H .ai .none
 | bl (b:Bool):vh H (.bl b) (.bool b)
 | int (i:Int):vh H (.int i) (.int i)
 | str (z:Str):vh H (.str z) (.str z)
 | tup {a:Addr} {xs:List V} {ds:List PyData}:H a=some (.tup xs)->vj H xs ds->vh H (.ref a) (.tuple ds)
 | lst {a:Addr} {xs:List V} {ds:List PyData}:H a=some (.lst xs)->vj H xs ds->vh H (.ref a) (.list ds)
inductive vj (H:Hp):List V->List PyData->Prop
 | nil:vj H [] []
 | cons {x:V} {d:PyData} {xs:List V} {ds:List PyData}:vh H x d->vj H xs ds->vj H (x::xs) (d::ds)
end
mutual
theorem vh.same {H H':Hp} (s:aa H H'):∀ {x:V} {d:PyData},vh H x d->vh H' x d
 | _,_,.ai=>.ai
 | _,_,.bl b=>.bl b
 | _,_,.int i=>.int i
 | _,_,.str z=>.str z
 | _,_,.tup e r=>.tup (s _ _ e) (vj.same s r)
 | _,_,.lst e r=>.lst (s _ _ e) (vj.same s r)
theorem vj.same {H H':Hp} (s:aa H H'):∀ {xs:List V} {ds:List PyData},vj H xs ds->vj H' xs ds
 | _,_,.nil=>.nil
 | _,_,.cons a r=>.cons (vh.same s a) (vj.same s r)
end
mutual
theorem xX {P:Program} {w:World} {H:Hp} {h:Heap} (ok:fg P w H h):∀ {x:V} {d:PyData} {u:Value},vh H x d->RelV x u->∃ as,Reads h u d as
 | _,_,_,.ai,r=>by cases (show _=Value.none from r);exact ⟨[],.none⟩
 | _,_,_,.bl b,r=>by cases (show _=Value.bool b from r);exact ⟨[],.bool b⟩
 | _,_,_,.int i,r=>by obtain ⟨t,rfl⟩:=(show ∃ t,_=Value.int i t from r);exact ⟨[],.int i t⟩
 | _,_,_,.str z,r=>by obtain ⟨t,rfl⟩:=(show ∃ t,_=Value.str z t from r);exact ⟨[],.str z t⟩
 | _,_,_,.tup (a:=a) (xs:=xs) e l,r=>by
  cases (show _=Value.ref a from r)
  obtain ⟨_,its,rv,o,ho,hc,n,hd⟩:=(show bg P w H h a (.tup xs) from ok a _ e)
  obtain ⟨as,ra⟩:=gG ok l rv
  exact ⟨as,.tuple ho hc hd (by simpa using ra)⟩
 | _,_,_,.lst (a:=a) (xs:=xs) e l,r=>by
  cases (show _=Value.ref a from r)
  obtain ⟨_,its,n,rv,ho⟩:=(show bg P w H h a (.lst xs) from ok a _ e)
  obtain ⟨as,ra⟩:=gG ok l rv
  exact ⟨a::as,.list ho rfl rfl (by simpa using ra)⟩
theorem gG {P:Program} {w:World} {H:Hp} {h:Heap} (ok:fg P w H h):∀ {xs:List V} {ds:List PyData} {us:List Value},vj H xs ds->az xs us->∃ as,ReadsAll h us ds as
 | _,_,_,.nil,.nil=>⟨[],.nil⟩
 | _,_,_,.cons a l,.cons r rs=>by
  obtain ⟨as,ra⟩:=xX ok a r
  obtain ⟨bs,rb⟩:=gG ok l rs
  exact ⟨as++bs,.cons ra rb⟩
end
def Ms (n:Bool):R2:=fun x y H Q=>match x,y with
 | .bl a,.bl b=>Q (.bl (n^^(a==b))) H
 | x,.ai=>Q (.bl (n^^decide (x=.ai))) H
 | _,_=>False
theorem UO:ck X (compareOp .Is) (Ms false):=by
 intro pins s σ H x y v u Q I rx ry h
 cases y with
 | ai=>exact Sd pins s σ H _ _ v u Q I rx ry ⟨rfl,by cases x<;>simpa [Ms] using h⟩
 | bl b=>
  cases x with
  | bl a=>
   cases rx;cases ry
   exact is_bool (aS I h (by cases a<;>cases b<;>rfl))
  | _=>exact (show False from h).elim
 | _=>cases x<;>exact (show False from h).elim
abbrev Mt:Str:="abcdefghijklmnopqrstuvwxyz"
abbrev UP:List Str:=["all","none","way","box","pick"]
def UQ (c:Nat):Bool:= !(Builtin.Str.occurrences Mt ⟨#[c]⟩ 0 Mt.length 1).isEmpty
def isName (z:Str):Bool:=decide (1<=z.length)&&decide (z.length<=8)&& !(UP.any fun y=>y==z)&&z.cps.toList.all UQ
theorem cV {i j:Str}:(decide (V.str i=V.str j))=(i==j):=by
 by_cases h:i=j
 ·subst h;simp
 ·rw [Qx (fun e=>h (V.str.inj e))]
  exact (beq_eq_false_iff_ne.mpr h).symm
theorem aa.put {o:HO} (s:aa H0 H') (h:H0 p=none):aa H0 (L2.upd H' p o):=fun b u q=>by rw [aB (aL q h)];exact s b u q
theorem aJ {u:TS} {D:Ends} (h:te σ H fun x H1=>u D (σ.set i (some x)) H1):BJ (yr te (jc i)) u D σ H:=h
theorem uN {v:V} {u:TS} {D:Ends} (h:u D (σ.set i (some v)) H):BJ (yr (tC v) (jc i)) u D σ H:=h
theorem Inv.IK {T:Addr} {o:HO} (I:Inv X pins σ H s) (hf:∀ b∈ch,qo X pins H b) (k:∀ b o,b ∉ ch->s.heap.get? b=some o->h'.get? b=some o)
  (hT:s.heap.objs.size<=T) (new:bg X.prog X.w (upd H T o) h' T o):Inv X pins σ (upd H T o) {s with heap:=h',toks:=t'}:=by
 have EM:H T=none:=I.hok.fresh hT
 have nT:∀ b ob,s.heap.get? b=some ob->b≠T:=fun b ob e=>Nat.ne_of_lt (Nat.lt_of_lt_of_le (QA e) hT)
 have wm:∀ b u,H b=some u->b ∉ ch:=fun b u e hb=>by rw [(hf b hb).1] at e;cases e
 refine I.step (g':=s.gens) (d':=s.drawn) (ch:=ch) (fun b hb=>?_) (fun b o _ _ hc e _=>k b o hc e) (fun b o _ _ hc e _=>⟨o.slots,k b o hc e⟩) (fun b o hc e n=>by rw [aB (nT b o e)];exact n)
  (fun b o hc e=>⟨o,k b o hc e⟩) (fun b xs e=>by rw [aB (aL e EM)];exact e) (fun b o u e=>by rw [aB (aL e EM)];exact e) (fun b ps e=>⟨#[],by rw [aB (aL e EM),e];simp⟩) (fun m hm=>?_) (fun b u e=>?_) I.bare
 ·obtain ⟨f0,f1,f2,f3,f4,f5⟩:=hf b hb
  exact ⟨f3,f1,f4,f5⟩
 ·obtain ⟨o,es,ep,ho,r⟩:=hm
  exact ⟨o,es,ep,k _ o (fun z=>(hf _ z).2.1 rfl) ho,r⟩
 ·by_cases hb:b=T
  ·subst hb
   rw [aA] at e;cases e
   exact new
  ·rw [aB hb] at e
   refine (I.hok b u e).stay (fun c v hc q=>k c v ?_ q) (fun c q=>by rw [aB (aL q EM)];exact q) fun c xs q=>q.upd fun u' hu=>aL hu EM
   rcases hc with z | z
   ·rw [z];exact wm b u e
   ·exact wm c _ z
theorem Inv.UR (I:Inv X pins σ H s) (hf:∀ b∈ch,qo X pins H b) (k:∀ b o,b ∉ ch->s.heap.get? b=some o->h'.get? b=some o):Inv X pins σ H {s with heap:=h',toks:=t'}:=by
 have wm:∀ b u,H b=some u->b ∉ ch:=fun b u e hb=>by rw [(hf b hb).1] at e;cases e
 refine I.step (g':=s.gens) (d':=s.drawn) (ch:=ch) (fun b hb=>?_) (fun b o _ _ hc e _=>k b o hc e) (fun b o _ _ hc e _=>⟨o.slots,k b o hc e⟩) (fun b o hc e n=>n)
  (fun b o hc e=>⟨o,k b o hc e⟩) (fun b xs e=>e) (fun b o u e=>e) (fun b ps e=>⟨#[],by rw [e];simp⟩) (fun m hm=>?_) (fun b u e=>?_) I.bare
 ·obtain ⟨f0,f1,f2,f3,f4,f5⟩:=hf b hb
  exact ⟨f3,f1,f4,f5⟩
 ·obtain ⟨o,es,ep,ho,r⟩:=hm
  exact ⟨o,es,ep,k _ o (fun z=>(hf _ z).2.1 rfl) ho,r⟩
 ·refine (I.hok b u e).stay (fun c v hc q=>k c v ?_ q) (fun c q=>q) fun c xs q=>q
  rcases hc with z | z
  ·rw [z];exact wm b u e
  ·exact wm c _ z
abbrev EN (v1 v2:V):Hp->V->Hp->Prop:=fun H x H'=>∃ T,x=.ref T/\H T=none/\H'=upd H T (.tup [v1,v2])
theorem o9 {T:Addr} {v1 v2:V} {u1 u2:Value} (r1:RelV v1 u1) (r2:RelV v2 u2) (e:h.get? T=some {cls:=.type "tuple",data:=.seq #[u1,u2]}):bg P w H h T (.tup [v1,v2]):=
 ⟨⟨show 2<=sizeLine by decide,fun o q=>by rw [e] at q;cases q;rfl⟩,[u1,u2],.cons r1 (.cons r2 .nil),_,e,rfl,_,rfl⟩
theorem pE {l m:Nat} (h1:l < n) (h2:m < n):ZipApart (n+4) (n+2) (n+3) n (n+1) l m:=by
 constructor<;>(show (_:Nat)≠_)<;>omega
def IL (K : Q1) (a b : Addr) : It :=
  ⟨fun i H => ∃ xs ys x y, af K H a xs /\ af K H b ys /\ xs[i]? = some x /\ ys[i]? = some y, fun i H x H' => ∃ v1 v2, (∀ xs, af K H a xs -> xs[i]? = some v1) /\ (∀ ys, af K H b ys -> ys[i]? = some v2) /\ EN v1 v2 H x H',
   fun i H => ∃ xs ys, af K H a xs /\ af K H b ys /\ (xs.length <= i \/ ys.length <= i)⟩
abbrev US (z TI TO i1 i2 a b:Addr) (i:Nat) (h:Heap):Prop:=IsZip h z TI TO .none/\IsPair h TI (.ref i1) (.ref i2)/\(∃ u v,IsPair h TO u v)/\h.IsListIter i1 a i/\h.IsListIter i2 b i
theorem xQ {K:Q1} {k:Nat} {pos:Pos} (z TI TO i1 i2 a b:Addr) (D:ZipApart z TI TO i1 i2 a b):Turn P w K (.Tuple BA k pos) (IL K a b) [z,TI,TO,i1,i2] z (US z TI TO i1 i2 a b) where
 mem:=by simp
 obj:=fun i h st c hc=>by
  obtain ⟨hz,xq,⟨u,v,za⟩,⟨o1,e1,c1,d1⟩,o2,e2,c2,d2⟩:=st
  simp only [Qp,QB,or_false] at hc
  rcases hc with rfl | rfl | rfl | rfl | rfl
  ·exact ⟨_,hz,fun v z=>by have z':Data.fields _=Data.cell v:=z;cases z'⟩
  ·exact ⟨_,xq,fun v z=>by have z':Data.seq _ _=Data.cell v:=z;cases z'⟩
  ·exact ⟨_,za,fun v z=>by have z':Data.seq _ _=Data.cell v:=z;cases z'⟩
  ·exact ⟨_,e1,fun v z=>by rw [d1] at z;cases z⟩
  ·exact ⟨_,e2,fun v z=>by rw [d2] at z;cases z⟩
 keep:=fun i h h' st k=>by
  obtain ⟨hz,xq,⟨u,v,za⟩,h1,h2⟩:=st
  exact ⟨k z (by simp) _ hz,k TI (by simp) _ xq,⟨u,v,k TO (by simp) _ za⟩,h1.at fun o x=>k i1 (by simp) o x,h2.at fun o x=>k i2 (by simp) o x⟩
 item:=by
  intro X hP hw hK hc i pins s σ H E I hf st hg
  subst hP hw hK
  obtain ⟨hz,xq,⟨u0,v0,za⟩,h1,h2⟩:=st
  obtain ⟨xs,ys,x,y,ly,nq,hx,hy⟩:=hg
  obtain ⟨its,rv,p,B4⟩:=I.list ly
  obtain ⟨its2,B5,p2,Gz⟩:=I.list nq
  obtain ⟨u,hu,ru⟩:=rv.get hx
  obtain ⟨u2,UT,UU⟩:=B5.get hy
  refine wpAny_pyNext_zip_item D hz xq za h1 h2 p.isList p2.isList (x:=u) (y:=u2) (by simpa using hu) (by simpa using UT) fun h' a1 a2 a3 a4 a5 a6 hk=>?_
  have I1:Inv X pins σ (upd H s.heap.objs.size (.tup [x,y])) {s with heap:=h',toks:=s.toks}:=I.IK (t':=s.toks) hf (fun b o hb e=>hk b o (fun z=>hb (by simp [z])) (fun z=>hb (by simp [z])) (fun z=>hb (by simp [z])) (fun z=>hb (by simp [z])) e) (Qz _) (o9 ru UU a5)
  refine ⟨_,rfl,wpAny_letOwnedTupleGo_zip (s:={s with heap:=h'}) a1 fun Dg UW sb=>?_⟩
  have au:∀ b∈[z,TI,TO,i1,i2],b≠s.heap.objs.size:=fun c hc z'=>by
   simp only [Qp,QB,or_false] at hc
   obtain ⟨o1,e1,_⟩:=h1
   obtain ⟨o2,e2,_⟩:=h2
   rcases hc with rfl | rfl | rfl | rfl | rfl
   ·exact Nat.ne_of_lt (QA hz) z'
   ·exact Nat.ne_of_lt (QA xq) z'
   ·exact Nat.ne_of_lt (QA za) z'
   ·exact Nat.ne_of_lt (QA e1) z'
   ·exact Nat.ne_of_lt (QA e2) z'
  have Dh:∀ b∈[z,TI,TO,i1,i2],qo X pins (upd H s.heap.objs.size (.tup [x,y])) b:=fun b hb=>by
   obtain ⟨f0,f⟩:=hf b hb
   exact ⟨by rw [aB (au b hb)];exact f0,f⟩
  obtain ⟨f0,f1,f2,f3,f4,f5⟩:=Dh z (by simp)
  refine ⟨.ref s.heap.objs.size,_,I1.turned (t':=s.toks) (fun b o hb q=>(sb.2 b hb).trans q) f0 f1 f3 f4 f5,rfl,⟨x,y,fun ys hy=>by rw [I.Ia hy ly];exact hx,fun ys Ik=>by rw [I.Ia Ik nq];exact hy,_,rfl,I.hok.fresh (Qz _),rfl⟩,?_,fun b hb=>(Dh b hb).1⟩
  refine ⟨UW,(sb.2 _ D.TIz).trans (hk _ _ D.TIz D.TITO D.TIi1 D.TIi2 xq),⟨_,_,(sb.2 _ D.TOz).trans a2⟩,a3.at fun o q=>(sb.2 _ D.i1z).trans q,a4.at fun o q=>(sb.2 _ D.i2z).trans q⟩
 done:=by
  intro X hP hw hK hc i pins s σ H E I hf st hg
  subst hP hw hK
  obtain ⟨hz,xq,⟨u0,v0,za⟩,h1,h2⟩:=st
  obtain ⟨xs,ys,ly,nq,hx⟩:=hg
  obtain ⟨its,rv,p,B4⟩:=I.list ly
  obtain ⟨its2,B5,p2,Gz⟩:=I.list nq
  have hl:=rv.length
  have Af:=B5.length
  refine wpAny_pyNext_zip_end (I.ok.hd hc) D hz xq za h1 h2 p.isList p2.isList ?_ fun h' hk=>⟨rfl,I.UR (t':=s.toks) hf fun b o hb q=>hk b o (fun z=>hb (by simp [z])) (fun z=>hb (by simp [z])) (fun z=>hb (by simp [z])) (fun z=>hb (by simp [z])) q⟩
  rcases hx with hx | hx
  ·exact .inl (by simp;omega)
  ·exact .inr (by simp;omega)
 self:=fun _ _ _ _ _ st h=>wpAny_pyIter_zip st.1 h
section
variable {k:Nat} {vf p pos:Pos} {a b:Expr} {ta:TA}
def Mu (K:Q1) (ta:TA):TI:=fun σ H R=>ta σ H fun vs H1=>∃ l m xs ys,vs=[.ref l,.ref m]/\af K H1 l xs/\af K H1 m ys/\R (IL K l m) H1
theorem UX (hg:Gl X "zip") (hm:X.mg "zip"=none) (ha:PA X [a,b] ta) (hs:starEach [a,b] X.env=[(false,eval a X.env),(false,eval b X.env)]:=by rfl) (jq:starEach [b] X.env=[(false,eval b X.env)]:=by rfl):
  PI X (.Tuple BA k vf) (.Call (.Name "zip" p) [a,b] [] pos) (Mu X.K ta):=by
 intro pins s σ H R I h
 refine Call_ (jG I hg hm boot_zip (PyProof.Rows.callWith_type1 (ao (ha pos pins s σ H _ I h) fun us s1 ⟨vs,H1,I1,r1,q1⟩=>?_) (by rw [hs,jq]) (by rw [jq];rfl)))
 obtain ⟨l,m,xs,ys,e,ly,nq,q⟩:=q1
 subst e
 obtain ⟨u1,u2,rfl,Mv,UY⟩:=r1.two
 cases Mv
 cases UY
 obtain ⟨its,rv,pl,hz⟩:=I1.list ly
 obtain ⟨its2,B5,Mw,Gz⟩:=I1.list nq
 have l1:l < s1.heap.objs.size:=by obtain ⟨_,e,_⟩:=pl.isList;exact QA e
 have l2:m < s1.heap.objs.size:=by obtain ⟨_,e,_⟩:=Mw.isList;exact QA e
 refine call_zip_2 pl.isList Mw.isList fun h' hz xq za h1 h2 hsz hk=>wpAny_pyIter_zip hz ?_
 have I2:Inv X pins σ H1 {s1 with heap:=h'}:=I1.kept (t':=s1.toks) hk
 have ne:∀ {x y:Nat},x < y->x≠y:=fun h=>Nat.ne_of_lt h
 have ne':∀ {x y:Nat},y < x->x≠y:=fun h=>Nat.ne_of_gt h
 refine ⟨s1.heap.objs.size+4,[s1.heap.objs.size+4,s1.heap.objs.size+2,s1.heap.objs.size+3,s1.heap.objs.size,s1.heap.objs.size+1],_,_,H1,rfl,I2,xQ _ _ _ _ _ l m ?_,⟨hz,xq,⟨_,_,za⟩,h1,h2⟩,fun b hb=>?_,q⟩
 ·exact pE l1 l2
 ·simp only [Qp,QB,or_false] at hb
  rcases hb with rfl | rfl | rfl | rfl | rfl<;>exact I1.ve (by simp) (I1.hok.fresh (by simp))
theorem tY (K:Q1) (hg:Gl X "zip") (hm:X.mg "zip"=none) (ha:SA X [a,b] ta) (h:X.K=K:=by rfl) (hs:starEach [a,b] X.env=[(false,eval a X.env),(false,eval b X.env)]:=by rfl) (jq:starEach [b] X.env=[(false,eval b X.env)]:=by rfl):
  SI X (.Tuple BA k vf) (.Call (.Name "zip" p) [a,b] [] pos) (Mu K ta):=by subst h;exact ⟨UX hg hm ha.h hs jq⟩
end
def EO (J:It) (ok:Hp->Prop) (n:Nat) (f1 f2:Nat->V):Prop:=
 ∀ H,ok H->(∀ i,i < n->J.go i H/\∀ x H',J.lj i H x H'->EN (f1 i) (f2 i) H x H')/\J.stop n H
theorem uA {K:Q1} (xs ys:List V):EO (IL K a b) (fun H=>af K H a xs/\af K H b ys) (min xs.length ys.length) (fun i=>xs.getD i .ai) (fun i=>ys.getD i .ai):=fun H ok=>
 ⟨fun i hi=>⟨⟨xs,ys,xs[i]'(by omega),ys[i]'(by omega),ok.1,ok.2,by simp,by simp⟩,fun x H' ⟨v1,v2,UZ,U0,y⟩=>by
  have e1:xs.getD i V.ai=v1:=by rw [Qb,UZ xs ok.1];rfl
  have e2:ys.getD i V.ai=v2:=by rw [Qb,U0 ys ok.2];rfl
  show EN (xs.getD i .ai) (ys.getD i .ai) H x H'
  rw [e1,e2];exact y⟩,⟨xs,ys,ok.1,ok.2,by omega⟩⟩
abbrev g2 (K:Q1) (a b:Nat):TG:=AN K 2 (wu (jc a) (wu (jc b) CW))
theorem fJ {K:Q1} {a b:Nat} {T:Addr} {v1 v2:V} {Q:St->Hp->Prop} (h:H T=some (.tup [v1,v2])) (q:Q ((σ.set a (some v1)).set b (some v2)) H):g2 K a b (.ref T) σ H Q:=
 ⟨T,_,rfl,aj.of h,rfl,_,_,rfl,_,_,rfl,rfl,q⟩
theorem zF {K:Q1} {J:It} {ok:Hp->Prop} {f1 f2:Nat->V} {a b:Nat} {tb:TS} {D:Ends} (hJ:EO J ok n f1 f2) (Pv:Nat->St->Hp->Prop) (h0:Pv 0 σ H) (hok:∀ i τ H,i<=n->Pv i τ H->ok H)
  (hs:∀ i σ H T,i < n->Pv i σ H->H T=none->tb {D with nx:=Pv (i+1),ct:=Pv (i+1),bk:=D.nx} ((σ.set a (some (f1 i))).set b (some (f2 i))) (upd H T (.tup [f1 i,f2 i]))) (hd:∀ σ H,Pv n σ H->D.nx σ H):
  ∃ W:Nat->Nat->St->Hp->Prop,(∃ m,W 0 m σ H)/\∀ i m σ H,W i m σ H->
   (J.stop i H/\D.nx σ H)\/(J.go i H/\∃ N:St->Hp->Prop,(∀ σ' H',N σ' H'->∃ m',m' < m/\W (i+1) m' σ' H')/\∀ x H',J.lj i H x H'->g2 K a b x σ H' fun σ2 H2=>tb {D with nx:=N,ct:=N,bk:=D.nx} σ2 H2):=by
 refine ⟨fun i m σ H=>m=n - i/\i<=n/\Pv i σ H,⟨n,by simp,Nat.zero_le _,h0⟩,?_⟩
 rintro i m σ H ⟨rfl,hi,p⟩
 obtain ⟨k1,k2⟩:=hJ H (hok i σ H hi p)
 by_cases au:i < n
 ·refine .inr ⟨(k1 i au).1,Pv (i+1),fun σ' H' p'=>⟨n - (i+1),by omega,rfl,au,p'⟩,fun x H' y=>?_⟩
  obtain ⟨T,rfl,hT,rfl⟩:=(k1 i au).2 x H' y
  exact fJ aA (hs i σ _ T au p hT)
 ·have e:i=n:=by omega
  subst e
  exact .inl ⟨k2,hd σ H p⟩
end L2
namespace PySem
theorem lM {xs:Array Value} {k:Nat} {Q:Option Value->Shared->Prop}
  (hx:s.heap.get? a=some o) (hc:o.cls=.type "tuple") (IM:o.data=.seq xs k) (hd:o.dict=none) (hA:A.handled=none)
  (h:∀ h' tk,(∀ b ob,s.heap.get? b=some ob->h'.get? b=some ob)->Q none {s with heap:=h',toks:=tk}):
  wpAny (model prog w) A (getAttr? (.ref a) "keys") Q E s:=by
 obtain ⟨c,dct,dat,sl⟩:=o
 simp only at hc IM hd
 subst hc IM hd
 obtain ⟨hp,g,d,tk,os⟩:=s
 have hT:∀ Mx,(⟨hp,g,d,Mx,os⟩:Shared).TypeIs (.ref a) "tuple":=fun _=>⟨_,hx,rfl⟩
 have U1:typeLookup (.type "tuple") "keys"=pure none:=am_miss_of_fast (by kernel_rfl)
 have f1:=sub_AttributeError
 have f3:=F.slot_tuple_getattribute.lookup
 have f4:=F.slot_tuple_getattribute.bind (.ref a)
 have f5:=am_tuple_getattr_none
 unfold getAttr? getAttrBy? getAttrBy
 repeat (any_goals (first | assumption | exact hT _ | ((with_reducible show wpAny _ _ (call (Value.builtin "tuple.__getattribute__") _ _) _ _ _);refine call_meets F.slot_tuple_getattribute (hT _) am_entry_tuple_getattribute (F.args_tuple_getattribute_2 _ _) (meets_getattribute_miss_tuple a xs k sl _ _ U1 (by decide) (by decide)) ⟨hx,hA,fun h' Mx e hx'=>?_⟩) | wp_step))
 obtain ⟨t',u',he⟩:=hx'.there
 show wpAny _ _ (getattributeRaised _ _ _ _ _ _ _) _ _ _
 unfold getattributeRaised
 repeat (any_goals (first | assumption | wp_step))
 exact h _ _ hx'.keeps
end PySem
namespace PySem.F
theorem My:entryFor table "dict.update.loop"=some Builtin.«dict.update.loop»:=entryFor_of_tree (by kernel_rfl)
theorem GA:plainId "dict.update.loop"=true:=by decide+kernel
end PySem.F
namespace L2
open PySem PySem.Spec PyProof.Rows
def iy (H:Hp) (ys:List V) (rs:List (Key×V)):Prop:=ys.length=rs.length/\∀ i (h:i < rs.length),∃ b,ys[i]? =some (.ref b)/\H b=some (.tup [kV rs[i].1,rs[i].2])
def dictOf (rs:List (Key×V)):List (Key×V):=rs.foldl (fun kvs r=>putK kvs r.1 r.2) []
theorem qE (rs:List (Key×V)):∀ kvs:List (Key×V),(rs.foldl (fun kvs r=>putK kvs r.1 r.2) kvs).length<=kvs.length+rs.length:=by
 induction rs with
 | nil=>intro kvs;exact Qz _
 | cons r rs ih=>
  intro kvs
  have h1:=ih (putK kvs r.1 r.2)
  have h2:=bT kvs r.1 r.2
  rw [List.foldl_cons,List.length_cons]
  omega
theorem iC (rs:List (Key×V)):(dictOf rs).length<=rs.length:=by have:=qE rs [];simpa [dictOf] using this
theorem jU (rs:List (Key×V)) (i:Nat) (h:i < rs.length):dictOf (rs.take (i+1))=putK (dictOf (rs.take i)) rs[i].1 rs[i].2:=by
 unfold dictOf
 rw [Qs,Qa h,Option.toList_some,List.foldl_append];rfl
theorem rP {d:Addr} {ys:List V} {rs:List (Key×V)} (hA:A.handled=none) (hH:H d=none) (c_:rs.length<=sizeLine) (hp:iy H ys rs) (ha:H a=some (.tup ys)) (hit:it≠d)
  (hR:∀ s,Inv X pins σ (upd H d (.dK (dictOf rs))) s->R (.ok (.ret .none)) s):
  ∀ (k i:Nat) (s:Shared),rs.length - i=k->i<=rs.length->Inv X pins σ (upd H d (.dK (dictOf (rs.take i)))) s->s.heap.IsTupleIter it a i->qo X pins (upd H d (.dK (dictOf (rs.take i)))) it->
   codeAny (model X.prog X.w) A (.builtin "dict.update.loop" ⟨[.ref d,.ref it,rawInt i,.none],[]⟩) R s:=by
 have EQ:a≠d:=aL ha hH
 intro k
 induction k with
 | zero=>
  intro i s hk hi I st f
  have gj:i=rs.length:=by omega
  subst gj
  refine codeAny_builtin F.My ?_
  rw [Around.under_plainId F.GA _]
  show wpAny _ A.in1 (pyNext (.ref it) >>=_) _ _ s
  obtain ⟨its,rv,p,hz⟩:=I.tuple (aj.of (by rw [aB EQ];exact ha))
  have hl:=rv.length
  have Af:=hp.1
  obtain ⟨f0,f1,f2,f3,f4,f5⟩:=f
  refine QU (wpAny_pyNext_tuple_end (by simp [hA]) st (show s.heap.IsTuple a its.toArray from p) (by simp;omega) fun h' eb=>?_)
  have I1:=I.turned (t':=s.toks) (h':=h') (fun b o hb e=>eb b o hb e) f0 f1 f3 f4 f5
  rw [Qo] at I1
  show wpAny _ _ (Builtin.Dict.addKeywords d [] >>=fun _=>ret .none) _ _ _
  exact QU (QV (QV (hR _ I1)))
 | succ k ih=>
  intro i s hk hi I st f
  have au:i < rs.length:=by omega
  refine codeAny_builtin F.My ?_
  rw [Around.under_plainId F.GA _]
  show wpAny _ A.in1 (pyNext (.ref it) >>=_) _ _ s
  obtain ⟨its,rv,p,hz⟩:=I.tuple (aj.of (by rw [aB EQ];exact ha))
  obtain ⟨b,IP,ER⟩:=hp.2 i au
  obtain ⟨u,hu,ru⟩:=rv.get IP
  cases ru
  obtain ⟨f0,f1,f2,f3,f4,f5⟩:=id f
  refine QU (wpAny_pyNext_tuple_item st (show s.heap.IsTuple a its.toArray from p) (x:=.ref b) (by simpa using hu) fun h' st' sb=>?_)
  have I1:Inv X pins σ (upd H d (.dK (dictOf (rs.take i)))) {s with heap:=h'}:=I.turned (t':=s.toks) (fun b o hb e=>(sb.2 b hb).trans e) f0 f1 f3 f4 f5
  have U3:b≠d:=aL ER hH
  obtain ⟨its2,B5,⟨ob,ho,hc,n,hd2⟩,Gz⟩:=I1.tuple (aj.of (a:=b) (by rw [aB U3];exact ER))
  obtain ⟨u1,u2,rfl,r1,r2⟩:=B5.two
  show wpAny _ A.in1 (holding [Value.ref b] _ >>=_) _ _ _
  refine QU (wpAny_holding (QU (wpAny_tryCatch ?_)))
  unfold Builtin.Dict.pairItems
  refine QU (wpAny_typeOf (T:="tuple") ⟨ob,ho,hc⟩ ?_)
  rw [if_pos (by decide)]
  refine QU (wpAny_seqItems ho hd2 (QV ?_))
  show wpAny _ A.in1 (holding [u1,u2] (dictSet d u1 u2)) _ _ _
  refine wpAny_holding ?_
  obtain ⟨z,hd,vs,rel,dd⟩:=pB I1.hok (aA:upd H d (.dK (dictOf (rs.take i))) d=_)
  have gp:=iC (rs.take i)
  rw [List.length_take] at gp
  have fj:(dictOf (rs.take i)).length < sizeLine:=by omega
  have B4:vs.length<=sizeLine:=by rw [<- rel.length];exact z
  have U4:(putK (dictOf (rs.take i)) rs[i].1 rs[i].2).length<=sizeLine:=by have:=bT (dictOf (rs.take i)) rs[i].1 rs[i].2;omega
  refine wpAny_dictSet_pairs (hsz:=B4) (gA r1) dd fun h2 ia hs=>?_
  have II:∃ q,h2.get? d=some q:=let ⟨q,_,_,hq,_⟩:=ia;⟨q,hq⟩
  have De:=dR (t':=s.toks+1) (ob:=.dK (putK (dictOf (rs.take i)) rs[i].1 rs[i].2)) I1 (by rw [aA];exact True.intro) hs II (lF U4 hd (rel.put _ r2) ia)
  rw [gX,<- jU rs i au] at De
  refine QV ⟨plainId_quiet F.GA _,?_⟩
  exact ih (i+1) _ (by omega) au De (st'.at fun o q=>(hs.2 it hit).trans q) ⟨by rw [aB hit] at f0 ⊢;exact f0,f1,f2,f3,f4,f5⟩
def U5:List V->Hp->VK->Prop:=fun xs H Q=>∃ a ys rs,xs=[.ref a]/\H a=some (.tup ys)/\iy H ys rs/\rs.length<=sizeLine/\∀ d,H d=none->Q (.ref d) (upd H d (.dK (dictOf rs)))
theorem iQ (hc:X.calm=true):qw X (.type "dict") U5:=by
 intro pins s σ H xs us Q I r h
 obtain ⟨a,ys,rs,rfl,ha,hp,hl,q⟩:=h
 obtain ⟨u,rfl,ru⟩:=r.one
 cases ru
 refine callType_codes (Q₁:=fun obj s₁=>obj=.ref s.heap.objs.size/\s₁={s with heap:=s.heap.push {cls:=.type "dict",data:=.dict #[]}}) F.kt_called_dict (F.kt_typeCall_dict_1 _) F.entry_dict_init (kt_code_dict_new _ ⟨rfl,rfl⟩) ?_
 rintro obj s₁ ⟨rfl,rfl⟩
 have fr:H s.heap.objs.size=none:=I.hok.fresh (Qz _)
 have hnew:(s.heap.push {cls:=.type "dict",data:=.dict #[]}).DictOf (cg X.prog X.w) s.heap.objs.size []:=Heap.DictOf.new s.heap
 have I1:Inv X pins σ (upd H s.heap.objs.size (.dK [])) {s with heap:=s.heap.push {cls:=.type "dict",data:=.dict #[]}}:=I.laid (t':=s.toks) (fun b u e=>Qc _ e) (Qz _)
  ⟨Nat.zero_le _,beq_eq_false_iff_ne.mpr (Ne.symm (Nat.ne_of_lt I.big)),[],.nil,hnew⟩
 have EQ:a≠s.heap.objs.size:=aL ha fr
 obtain ⟨⟨z,nd⟩,its,rv,o,ho,pe,n,hd⟩:=(show bg X.prog X.w _ _ a (.tup ys) from I1.hok a _ (by rw [aB EQ];exact ha))
 refine ⟨hnew.typeIs,F.args_dict_init_2 _ _,?_⟩
 unfold Builtin.«dict.__init__»
 refine QU ?_
 unfold Builtin.Dict.selfAndRest
 refine QU (wpAny_notOrdered_dict hnew.typeIs ?_)
 show wpAny _ _ (pure (s.heap.objs.size,[Value.ref a])) _ _ _
 refine QV ?_
 show wpAny _ _ (Builtin.Dict.updateFrom "dict.__init__" s.heap.objs.size (.ref a) [] .none) _ _ _
 unfold Builtin.Dict.updateFrom
 refine QU (wpAny_typeOf (T:="tuple") ⟨o,ho,pe⟩ ?_)
 rw [if_pos (by decide)]
 have hh:X.A.handled=none:=I.ok.hd hc
 refine QU (lM ho pe hd (nd _ ho) (by simp [hh]) fun h' tk hk=>?_)
 rw [if_pos (by rfl)]
 refine QU (wpAny_rule ?_)
 have I2:Inv X pins σ (upd H s.heap.objs.size (.dK [])) {s with heap:=h',toks:=tk}:=I1.kept (t':=tk) hk
 obtain ⟨its2,B5,p2,Gz⟩:=I2.tuple (aj.of (a:=a) (xs:=ys) (by rw [aB EQ];exact ha))
 refine QU (wpAny_pyIter_tuple (show Heap.IsTuple h' a its2.toArray from p2) ?_)
 have hsz:s.heap.objs.size < h'.objs.size:=by
  obtain ⟨_,_,_,e,_⟩:=hnew
  exact QA (hk _ _ e)
 refine QV ⟨plainId_quiet F.GA _,?_⟩
 refine rP (X:=X) (pins:=pins) (σ:=σ) (by simp [hh]) fr hl hp ha (Nat.ne_of_gt hsz) (fun s' I'=>⟨rfl,.ref s.heap.objs.size,_,I',rfl,q _ fr⟩) rs.length 0 _ rfl (Nat.zero_le _) (I2.kept (t':=tk) fun b o e=>Qc _ e) ⟨_,Qd _ rfl,rfl,rfl⟩ (I2.ve (Qz _) (I2.hok.fresh (Qz _)))
def Tk (H H':Hp):Prop:=∀ b xs,H b=some (.tup xs)->H' b=some (.tup xs)
theorem Tk.refl:Tk H H:=fun _ _ h=>h
theorem Tk.trans {H1 H2:Hp} (a:Tk H H1) (b:Tk H1 H2):Tk H H2:=fun c xs h=>b c xs (a c xs h)
theorem aa.ts (s:aa H H'):Tk H H':=fun b xs h=>s b _ h
theorem Tk.upd {H H':Hp} {a:Addr} {o:HO} (s:Tk H H') (h:H' a=none):Tk H (L2.upd H' a o):=fun b xs e=>by rw [aB (aL (s b xs e) h)];exact s b xs e
theorem Tk.set {o o':HO} (s:Tk H H') (h:H' a=some o) (hn:∀ xs,o≠.tup xs):Tk H (L2.upd H' a o'):=fun b xs e=>by
 rw [aB (fun z=>by rw [z] at e;have:=s a xs e;rw [h] at this;cases this;exact hn _ rfl)];exact s b xs e
inductive Al (H:Hp):V->PyData->Prop
 | str (z:Str):Al H (.str z) (.str z)
 | tup {a:Addr} {xs:List V} {ds:List PyData}:H a=some (.tup xs)->xs.length=ds.length->(∀ i (h:i < xs.length) (h':i < ds.length),Al H xs[i] ds[i])->Al H (.ref a) (.tuple ds)
theorem Al.ts (s:Tk H H') {v:V} {d:PyData} (h:Al H v d):Al H' v d:=by
 induction h with
 | str z=>exact .str z
 | tup e hl _ ih=>exact .tup (s _ _ e) hl ih
theorem gP:∀ {ds:List PyData},(∀ d∈ds,d.showable=true)->PyData.showableAll ds=true
 | [],_=>by simp [PyData.showableAll]
 | d::ds,h=>by simp [PyData.showableAll,h d List.mem_cons_self,gP fun x hx=>h x (Qh _ hx)]
theorem h9:∀ {ds:List PyData},(∀ d∈ds,d.hasDict=false)->PyData.hasDictAll ds=false
 | [],_=>by simp [PyData.hasDictAll]
 | d::ds,h=>by simp [PyData.hasDictAll,h d List.mem_cons_self,h9 fun x hx=>h x (Qh _ hx)]
theorem k7 {k:Nat}:∀ {ds:List PyData},(∀ d∈ds,d.depth<=k)->PyData.depthAll ds<=k
 | [],_=>by simp [PyData.depthAll]
 | d::ds,h=>by
  have h1:=h d List.mem_cons_self
  have h2:=k7 (ds:=ds) fun x hx=>h x (Qh _ hx)
  simp [PyData.depthAll];omega
theorem wS {n:Nat}:∀ {ts:List Str},(∀ t∈ts,t.length<=n)->(ts.map (·.length)).sum<=ts.length*n
 | [],_=>by simp
 | t::ts,h=>by
  have h1:=h t List.mem_cons_self
  have h2:=wS (ts:=ts) fun x hx=>h x (Qh _ hx)
  rw [List.map_cons,List.sum_cons,List.length_cons,Nat.add_mul];omega
def TB (H:Hp) (v:V) (k n:Nat):Prop:=∃ d,Al H v d/\d.depth<=k/\d.shown.length<=n/\d.showable=true/\d.hasDict=false
def Wd (z:Str):Prop:=z.length<=20/\∀ c∈z.cps.toList,c < 128
theorem TB.mono {v:V} {k k' n':Nat} (h:TB H v k n) (hk:k<=k') (hn:n<=n'):TB H v k' n':=by
 obtain ⟨d,h1,h2,h3,h4,h5⟩:=h
 exact ⟨d,h1,by omega,by omega,h4,h5⟩
theorem TB.ts {H H':Hp} (s:Tk H H') {v:V} {k n:Nat} (h:TB H v k n):TB H' v k n:=by
 obtain ⟨d,h1,h2⟩:=h
 exact ⟨d,h1.ts s,h2⟩
theorem TB.str {H:Hp} {z:Str} (h:Wd z):TB H (.str z) 0 202:=by
 refine ⟨.str z,.str z,by simp [PyData.depth],?_,by simp [PyData.showable],by simp [PyData.hasDict]⟩
 show (PyData.str z).shown.length<=202
 simp only [PyData.shown]
 have:=StrLaws.reprText_len z (fun c hc=>Nat.lt_of_lt_of_le (h.2 c hc) (by decide))
 have:=h.1
 omega
theorem TB.tup {H:Hp} {a:Addr} {xs:List V} {k n:Nat} (e:H a=some (.tup xs)) (h:∀ x∈xs,TB H x k n):TB H (.ref a) (k+1) (xs.length*(n+2)+3):=by
 have hc:∀ i:Fin xs.length,∃ d,Al H xs[i.val] d/\d.depth<=k/\d.shown.length<=n/\d.showable=true/\d.hasDict=false:=fun i=>h _ (Qj i.isLt)
 obtain ⟨f,hf⟩:=Classical.axiomOfChoice hc
 have hm:∀ d∈List.ofFn f,d.depth<=k/\d.shown.length<=n/\d.showable=true/\d.hasDict=false:=fun d hd=>by
  obtain ⟨i,rfl⟩:=List.mem_ofFn.mp hd
  exact (hf i).2
 refine ⟨.tuple (List.ofFn f),.tup e (by simp) fun i h1 h2=>?_,?_,?_,?_,?_⟩
 ·have:=(hf ⟨i,h1⟩).1
  simpa using this
 ·simp only [PyData.depth]
  have:=k7 (fun d hd=>(hm d hd).1)
  omega
 ·simp only [PyData.shown]
  have h1:=tupleText_len_le (PyData.shownAll (List.ofFn f))
  have e2:PyData.shownAll (List.ofFn f)=(List.ofFn f).map PyData.shown:=shownAll_eq_map _
  have h2:((PyData.shownAll (List.ofFn f)).map (·.length)).sum<=(PyData.shownAll (List.ofFn f)).length*n:=wS fun t ht=>by
   rw [e2] at ht
   obtain ⟨d,hd,rfl⟩:=List.mem_map.mp ht
   exact (hm d hd).2.1
  have h3:(PyData.shownAll (List.ofFn f)).length=xs.length:=by rw [e2];simp
  rw [h3] at h1 h2
  rw [Nat.mul_add];omega
 ·simp only [PyData.showable]
  exact gP fun d hd=>(hm d hd).2.2.1
 ·simp only [PyData.hasDict]
  exact h9 fun d hd=>(hm d hd).2.2.2
theorem kE (rs:List (Key×V)):(rs.map (·.1)).Nodup->∀ i (h:i < rs.length),av (dictOf rs) rs[i].1=some rs[i].2:=by
 have gen:∀ (rs:List (Key×V)) (kvs:List (Key×V)),(rs.map (·.1)).Nodup->∀ k,av (rs.foldl (fun kvs r=>putK kvs r.1 r.2) kvs) k=((rs.find? fun r=>decide (r.1=k)).map (·.2)).or (av kvs k):=by
  intro rs
  induction rs with
  | nil=>intro kvs _ k;simp
  | cons r rs ih=>
   intro kvs hn k
   rw [List.map_cons,List.nodup_cons] at hn
   rw [List.foldl_cons,ih _ hn.2,lE]
   by_cases e:r.1=k
   ·have:rs.find? (fun r=>decide (r.1=k))=none:=by
     rw [List.find?_eq_none]
     intro x hx z
     have z':=Qt z
     exact hn.1 (List.mem_map.mpr ⟨x,hx,by rw [z',e]⟩)
    rw [this,List.find?_cons,if_pos e.symm]
    simp [e]
   ·rw [if_neg (fun z=>e z.symm),List.find?_cons]
    simp [e]
 intro hn i h
 unfold dictOf
 rw [gen rs [] hn]
 have:rs.find? (fun r=>decide (r.1=rs[i].1))=some rs[i]:=by
  rw [List.find?_eq_some_iff_getElem]
  refine ⟨by simp,i,h,rfl,fun j hj=>?_⟩
  have gr:(rs.map (·.1))[j]'(by simp;omega)≠(rs.map (·.1))[i]'(by simpa using h):=fun z=>by
   exact (List.pairwise_iff_getElem.mp hn j i (by simp;omega) (by simpa using h) hj) z
  simpa using gr
 rw [this];rfl
abbrev bh (rs:List (Str×V)):List (Key×V):=rs.map fun r=>(Sum.inr r.1,r.2)
def B6 (H:Hp) (v:V) (o:Option Str):Prop:=∃ b,v=.ref b/\((∃ s ys,H b=some (.tup (.str s::ys))/\s≠"as"/\o=none)\/∃ x,H b=some (.tup [.str "as",.str x])/\o=some x)
theorem B6.ts (s:Tk H H') {v:V} {o:Option Str} (h:B6 H v o):B6 H' v o:=by
 obtain ⟨b,e,h⟩:=h
 refine ⟨b,e,?_⟩
 rcases h with ⟨z,ys,h1,h2⟩ | ⟨x,h1,h2⟩
 ·exact .inl ⟨z,ys,s _ _ h1,h2⟩
 ·exact .inr ⟨x,s _ _ h1,h2⟩
structure ph (H:Hp) (a:Addr) (xs:List V) (rs:List (Str×V)) (nx:Str->Option Str) (ρ:Str->Nat):Prop where
 at_:H a=some (.tup xs)
 ps:iy H xs (bh rs)
 nd:(rs.map (·.1)).Nodup
 len:rs.length<=300
 pos:0 < rs.length
 as:∀ r∈rs,B6 H r.2 (nx r.1)
 ig:∀ r∈rs,∀ y,nx r.1=some y->y∈rs.map (·.1)/\ρ y < ρ r.1
 rk:∀ r∈rs,ρ r.1<=rs.length
 tb:∀ r∈rs,Wd r.1/\TB H r.2 3 8273
theorem iy.ts {ys:List V} {rs:List (Key×V)} (p:iy H ys rs) (s:Tk H H'):iy H' ys rs:=⟨p.1,fun i h=>let ⟨b,e1,e2⟩:=p.2 i h;⟨b,e1,s _ _ e2⟩⟩
section
variable {xs:List V} {rs:List (Str×V)} {nx:Str->Option Str} {ρ:Str->Nat}
theorem ph.ts (g:ph H a xs rs nx ρ) (s:Tk H H'):ph H' a xs rs nx ρ:=
 ⟨s _ _ g.at_,g.ps.ts s,g.nd,g.len,g.pos,fun r hr=>(g.as r hr).ts s,g.ig,g.rk,fun r hr=>⟨(g.tb r hr).1,(g.tb r hr).2.ts s⟩⟩
theorem lR (h:(rs.map (·.1)).Nodup):((bh rs).map (·.1)).Nodup:=by
 have e:(bh rs).map (·.1)=(rs.map (·.1)).map (Sum.inr:Str->Key):=by simp [bh,Qn,QC]
 rw [e]
 exact List.Pairwise.map _ (fun a b jk z=>jk (Sum.inr.inj z)) h
theorem ph.get (g:ph H a xs rs nx ρ) (hx:x∈rs.map (·.1)):∃ v,(x,v)∈rs/\av (dictOf (bh rs)) (.inr x)=some v:=by
 obtain ⟨r,hr,rfl⟩:=List.mem_map.mp hx
 obtain ⟨i,hi,rfl⟩:=Qi hr
 refine ⟨rs[i].2,hr,?_⟩
 have:=kE (bh rs) (lR g.nd) i (by simpa using hi)
 simpa using this
def B7 (nx:Str->Option Str) (x:Str):Str:=(nx x).getD x
def xr (nx:Str->Option Str):Nat->Str->Str
 | 0,x=>x
 | n+1,x=>xr nx n (B7 nx x)
theorem dB (n:Nat) (h:nx x=none):xr nx n x=x:=by
 induction n with
 | zero=>rfl
 | succ n ih=>rw [xr];rw [show B7 nx x=x by simp [B7,h]];exact ih
theorem ph.run (g:ph H a xs rs nx ρ):∀ (n:Nat) (x:Str),x∈rs.map (·.1)->ρ x<=n->xr nx n x∈rs.map (·.1)/\nx (xr nx n x)=none/\xr nx (n+1) x=xr nx n x:=by
 intro n
 induction n with
 | zero=>
  intro x hx hr
  obtain ⟨r,fb,rfl⟩:=List.mem_map.mp hx
  cases e:nx r.1 with
  | none=>exact ⟨hx,e,dB 1 e⟩
  | some y=>have:=(g.ig r fb y e).2;omega
 | succ n ih=>
  intro x hx hr
  obtain ⟨r,fb,rfl⟩:=List.mem_map.mp hx
  cases e:nx r.1 with
  | none=>
   rw [dB _ e,dB _ e]
   exact ⟨hx,e,rfl⟩
  | some y=>
   have e2:B7 nx r.1=y:=by simp [B7,e]
   obtain ⟨h1,h2⟩:=g.ig r fb y e
   have:=ih y h1 (by omega)
   rw [xr,xr,e2]
   exact this
def fq (nx:Str->Option Str) (n:Nat) (x:Str):Str:=xr nx n x
theorem ph.A4 (g:ph H a xs rs nx ρ) (hx:x∈rs.map (·.1)):fq nx rs.length x∈rs.map (·.1)/\nx (fq nx rs.length x)=none:=by
 obtain ⟨r,hr,rfl⟩:=List.mem_map.mp hx
 obtain ⟨h1,h2,_⟩:=g.run rs.length r.1 hx (g.rk r hr)
 exact ⟨h1,h2⟩
theorem ph.Mz (g:ph H a xs rs nx ρ) {y:Str} (hx:x∈rs.map (·.1)) (e:nx x=some y):fq nx rs.length y=fq nx rs.length x:=by
 obtain ⟨r,hr,rfl⟩:=List.mem_map.mp hx
 obtain ⟨h1,h2,h3⟩:=g.run rs.length r.1 hx (g.rk r hr)
 have e2:B7 nx r.1=y:=by simp [B7,e]
 rw [xr,e2] at h3
 exact h3
end
theorem pI (xs:List V) (k:Nat):oz xs (some (k:Int)) none=xs.drop k:=by
 unfold oz
 rw [HT.oM,HT.qG]
 by_cases h:k<=xs.length
 ·rw [Nat.min_eq_left h]
  exact List.take_of_length_le (by simp)
 ·rw [Nat.min_eq_right (by omega)]
  simp [List.drop_eq_nil_of_le (show xs.length<=k by omega)]
theorem zI (xs:List V) (k:Nat):oz xs none (some (k:Int))=xs.take k:=by
 unfold oz
 rw [HT.oM,HT.qG]
 simp
theorem wB {l:List α} (h:l.Nodup) {x:α} (hi:l[i]? =some x) (hj:l[j]? =some x):i=j:=by
 obtain ⟨a,e1⟩:=List.getElem?_eq_some_iff.mp hi
 obtain ⟨b,e2⟩:=List.getElem?_eq_some_iff.mp hj
 rcases Nat.lt_trichotomy i j with z | z | z
 ·exact ((List.pairwise_iff_getElem.mp h i j a b z) (e1.trans e2.symm)).elim
 ·exact z
 ·exact ((List.pairwise_iff_getElem.mp h j i b a z) (e2.trans e1.symm)).elim
theorem mX [BEq α] [LawfulBEq α] {l:List α} (h:l.Nodup) {x:α} (hi:l[i]? =some x):l.idxOf x=i:=by
 have hm:x∈l:=QD hi
 have h1:l.idxOf x < l.length:=List.idxOf_lt_length_of_mem hm
 have h2:l[l.idxOf x]? =some x:=by rw [Qa h1,List.getElem_idxOf]
 exact wB h h2 hi
open Classical in
theorem fK (h1:z.length<=20) (h2:∀ c∈z.cps.toList,c < 128):Wd z:=⟨h1,h2⟩
section
variable {β:Type} {R:α->β->Prop}
theorem lP:∀ {xs MA:List α} {ys IQ:List β},Paired R xs ys->Paired R MA IQ->Paired R (xs++MA) (ys++IQ)
 | _,_,_,_,.nil,h=>h
 | _,_,_,_,.cons a r,h=>.cons a (lP r h)
theorem yO:∀ {xs:List α} {ys:List β},xs.length=ys.length->(∀ i (h:i < xs.length) (h':i < ys.length),R xs[i] ys[i])->Paired R xs ys
 | [],[],_,_=>.nil
 | x::xs,y::ys,hl,h=>.cons (h 0 (by simp) (by simp)) (yO (by simpa using hl) fun i a b=>h (i+1) (by simpa using a) (by simpa using b))
theorem u8:∀ {xs:List α} {ys:List β},Paired R xs ys->xs.length=ys.length/\∀ i (h:i < xs.length) (h':i < ys.length),R xs[i] ys[i]
 | _,_,.nil=>⟨rfl,fun i h=>absurd h (by simp)⟩
 | _,_,.cons a r=>by
  obtain ⟨h1,h2⟩:=u8 r
  refine ⟨by simp [h1],fun i h h'=>?_⟩
  cases i with
  | zero=>exact a
  | succ i=>exact h2 i (by simpa using h) (by simpa using h')
end
def PR (H:Hp) (x:V) (r:Key×V):Prop:=∃ b,x=.ref b/\H b=some (.tup [kV r.1,r.2])
theorem fN {xs:List V} {rs:List (Key×V)}:iy H xs rs↔Paired (PR H) xs rs:=by
 constructor
 ·rintro ⟨hl,h⟩
  refine yO hl fun i h1 h2=>?_
  obtain ⟨b,e1,e2⟩:=h i h2
  rw [Qa h1] at e1
  exact ⟨b,QE e1,e2⟩
 ·intro h
  obtain ⟨hl,h'⟩:=u8 h
  refine ⟨hl,fun i h2=>?_⟩
  obtain ⟨b,e1,e2⟩:=h' i (by omega) h2
  exact ⟨b,by rw [Qa (by omega),e1],e2⟩
section
variable {xs:List V} {rs:List (Str×V)}
theorem nL (a b:List (Str×V)):bh (a++b)=bh a++bh b:=by simp [bh]
theorem jC:iy H [] (bh []):=fN.mpr .nil
theorem iA (h:iy H xs (bh rs)) {n:Str} {v:V} (e:H b=some (.tup [.str n,v])):iy H (xs++[.ref b]) (bh (rs++[(n,v)])):=by
 rw [nL]
 exact fN.mpr (lP (fN.mp h) (.cons ⟨b,rfl,e⟩ .nil))
end
section
variable {e1 e2:Expr} {p pos:Pos} {k:Nat} {g1 g2:TG}
end
def KD (w:World) (K:Q1) (a:Addr) (kvs:List (Key×V)):Prop:=∀ P:Program,∃ (o:Obj) (es:Array DictEntry) (ep:Nat) (vs:List (Key×Value)),K.lookup a=some o/\(a==sysModules)=false/\o.ExactDict/\o.data=.dict es ep/\KeysOf (cg P w) es/\Pairs (cg P w) es.toList vs/\(vs.map (·.1)).Nodup/\KV kvs vs
section
variable {kvs:List (Key×V)}
theorem KD.of (h:KD X.w X.K a kvs) (I:Inv X pins σ H s):(a==sysModules)=false/\∃ vs,KV kvs vs/\s.heap.DictOf (cg X.prog X.w) a vs:=by
 obtain ⟨o,es,ep,vs,h1,h2,h3,h4,h5,h6,h7,h8⟩:=h X.prog
 exact ⟨h2,vs,h8,o,es,ep,I.gy a o h1,h3,h4,h5,h6,h7⟩
variable {pos p:Pos}
def MB (kvs:List (Key×V)) (te:TE):TE:=fun σ H Q=>te σ H fun y H1=>∃ k,y=kV k/\Q (.bl (av kvs k).isSome) H1
theorem U6 {K:Q1} (hx:∃ a,X.mg x=some (.ref a)/\KD w K a kvs) (he:PE X e te) (hw:X.w=w) (hK:X.K=K) (hg:Gl X x) (hd:(x==("__debug__":Str))=false):PC X .In e (.Name x p) (MB kvs te):=by
 subst hw hK
 obtain ⟨a,hm,kd⟩:=hx
 intro pins s σ H Q I h
 refine ao (he pins s σ H _ I h) ?_
 rintro iv s1 ⟨y,H1,I1,ry,k,ey,q1⟩
 subst ey
 refine ao (kT (v:=.ref a) hg hm rfl hd pins s1 σ H1 (fun v H'=>v=.ref a/\H'=H1) I1 ⟨rfl,rfl⟩) fun u s2 ⟨z,H2,I2,rz,ez,eH⟩=>?_
 subst ez eH
 cases rz
 obtain ⟨h1,vs,rel,dd⟩:=kd.of I2
 refine wpAny_in_of (gA ry) h1 dd.mapOf ?_
 rw [<- (rel.val k).BZ]
 exact ⟨.bl _,_,I2.tok _,rfl,q1⟩
theorem U7 {K:Q1} (hx:∃ a,X.mg x=some (.ref a)/\KD w K a kvs) (he:SE X e te) (hw:X.w=w:=by rfl) (hK:X.K=K:=by rfl) (hg:Gl X x:=by rfl) (hd:(x==("__debug__":Str))=false:=by decide):ST X (.Compare e [.In] [.Name x p] pos) (tB (MB kvs te)):=⟨Ru (U6 hx he.h hw hK hg hd) rfl⟩
def U8 (kvs:List (Key×V)) (te:TE):TE:=fun σ H Q=>te σ H fun y H1=>∃ k v,y=kV k/\av kvs k=some v/\Q v H1
theorem U9 {K:Q1} (hx:∃ a,X.mg x=some (.ref a)/\KD w K a kvs) (he:SE X e te) (hs:Gj e) (hw:X.w=w:=by rfl) (hK:X.K=K:=by rfl) (hg:Gl X x:=by rfl) (hd:(x==("__debug__":Str))=false:=by decide):SE X (.Subscript (.Name x p) e pos) (U8 kvs te):=by
 subst hw hK
 obtain ⟨a,hm,kd⟩:=hx
 constructor
 intro pins s σ H Q I h
 refine tT PySem.F.slot_dict_getitem.lookup hs (ao (kT (v:=.ref a) hg hm rfl hd pins s σ H (fun v H'=>v=.ref a/\H'=H) I ⟨rfl,rfl⟩) fun u s2 ⟨z,H2,I2,rz,ez,eH⟩=>?_)
 subst ez eH
 cases rz
 refine ao (he.h pins s2 σ _ _ I2 h) ?_
 rintro iv s3 ⟨y,H3,I3,ry,k,v,ey,ev,q⟩
 subst ey
 obtain ⟨h1,vs,rel,dd⟩:=kd.of I3
 obtain ⟨w',hw,ug⟩:=kg.some_of (v:=v) (o:=valueAt vs k) (by rw [<- ev];exact rel.val k)
 exact ⟨dd.typeIs,wpAny_getItem_of (gA ry) dd.mapOf hw ⟨v,_,I3.tok _,ug,q⟩⟩
end
def pq (kvs:List (Key×V)) (i:Nat):V:=((kvs[i]?).map fun kv=>kV kv.1).getD .ai
def IR (a:Addr) (o:Obj) (kvs:List (Key×V)):It:=⟨fun i H=>H a=some (.ae o (.dK kvs))/\i < kvs.length,fun i H x H'=>H'=H/\x=pq kvs i,fun i H=>H a=some (.ae o (.dK kvs))/\kvs.length=i⟩
theorem pP (kvs:List (Key×V)):y_ (IR a o kvs) (fun H=>H a=some (.ae o (.dK kvs))) kvs.length (pq kvs):=fun H ok=>⟨fun i hi=>⟨⟨ok,hi⟩,fun x H' h=>h⟩,ok,rfl⟩
theorem U_ {kvs:List (Key×V)} (r:KV kvs vs):∀ {i:Nat} {p:Key×V},kvs[i]? =some p->∃ q,vs[i]? =some q/\q.1=p.1:=by
 intro i
 induction r generalizing i with
 | nil=>intro p h;simp at h
 | cons a t ih=>
  intro p h
  cases i with
  | zero=>simp at h;subst h;exact ⟨_,by simp,a.1.symm⟩
  | succ i=>simp at h;simpa using ih h
theorem pR {k:Key} (h:(cg P w).is k u=true):RelV (kV k) u:=by
 rcases bD h with ⟨i,t,rfl,rfl⟩ | ⟨x,t,rfl,rfl⟩
 ·exact ⟨t,rfl⟩
 ·exact ⟨t,rfl⟩
theorem KV.len {kvs:List (Key×V)} (r:KV kvs vs):kvs.length=vs.length:=Paired.length r
theorem wF {K:Q1} {kvs:List (Key×V)} (nu:∃ es,o.data=.dict es ep):Turn P w K tg (IR a o kvs) [it] it (fun i h=>h.IsKeyIter it a i kvs.length ep) where
 mem:=by simp
 obj:=fun i h st b hb=>by
  have e:b=it:=by simpa using hb
  subst e
  obtain ⟨o,e,c,d⟩:=st
  exact ⟨o,e,fun v z=>by rw [d] at z;cases z⟩
 keep:=fun i h h' st k=>st.at fun o e=>k it (by simp) o e
 item:=by
  intro X hP hw hK hc i pins s σ H E I hf st hg
  subst hP hw hK
  obtain ⟨hq,hi⟩:=hg
  obtain ⟨e,z,hd,vs,rel,ob,es,lh,h1,h2,h3,h4⟩:=(show bg X.prog X.w H s.heap a (.ae o (.dK kvs)) from I.hok a _ hq)
  obtain ⟨es',e_⟩:=nu
  rw [e] at h1;cases h1
  rw [e_] at h3;injection h3 with ii ik
  subst ii ik
  obtain ⟨q,ly,nq⟩:=U_ rel (Qa hi)
  have hl:=rel.len
  obtain ⟨f0,f1,f2,f3,f4,f5⟩:=hf it (by simp)
  obtain ⟨qk,qv⟩:=q
  refine wpAny_pyNext_dict_item (knd:=cg X.prog X.w) (kvs:=vs) (ep:=ep) (by rw [<- hl];exact st) ⟨o,es',e,h2,e_,h4⟩ ly fun key h' hk st' sb=>?_
  have I1:Inv X pins σ H {s with heap:=h'}:=I.turned (t':=s.toks) (fun b o hb e=>(sb.2 b hb).trans e) f0 f1 f3 f4 f5
  have fu:h'.IsKeyIter it a (i+1) kvs.length ep:=by rw [hl];exact st'
  obtain ⟨o3,e3,c3,d3⟩:=id fu
  refine ⟨key,rfl,jS (s:={s with heap:=h'}) e3 c3 d3 (by decide) ⟨pq kvs i,H,I1,?_,⟨rfl,rfl⟩,fu,fun b hb=>(hf b hb).1⟩⟩
  unfold pq
  rw [Qa hi]
  show RelV (kV kvs[i].1) key
  have IS:qk=kvs[i].1:=nq
  rw [<- IS]
  exact pR hk
 done:=by
  intro X hP hw hK hc i pins s σ H E I hf st hg
  subst hP hw hK
  obtain ⟨hq,hi⟩:=hg
  obtain ⟨e,z,hd,vs,rel,ob,es,lh,h1,h2,h3,h4⟩:=(show bg X.prog X.w H s.heap a (.ae o (.dK kvs)) from I.hok a _ hq)
  obtain ⟨es',e_⟩:=nu
  rw [e] at h1;cases h1
  rw [e_] at h3;injection h3 with ii ik
  subst ii ik
  have hl:=rel.len
  obtain ⟨f0,f1,f2,f3,f4,f5⟩:=hf it (by simp)
  exact wpAny_pyNext_dict_end (knd:=cg X.prog X.w) (kvs:=vs) (ep:=ep) (I.ok.hd hc) (by rw [<- hl];exact st) ⟨o,es',e,h2,e_,h4⟩ (by simp;omega) fun h' eb=>⟨rfl,I.turned (t':=s.toks) (fun b o hb e=>eb b o hb e) f0 f1 f3 f4 f5⟩
 self:=fun _ _ _ _ _ st h=>wpAny_pyIter_keyiter st h
theorem iY {o:HO} (h:H a=some o):upd H a o=H:=by
 funext b
 unfold upd
 by_cases e:b=a
 ·rw [if_pos e,e,h]
 ·rw [if_neg e]
theorem Inv.freeze {kvs:List (Key×V)} (I:Inv X pins σ H s) (h:Rd H a (.dK kvs)):∃ o es ep,o.data=.dict es ep/\Inv X pins σ (upd H a (.ae o (.dK kvs))) s/\s.heap.get? a=some o:=by
 rcases h with h | ⟨o,h⟩
 ·have ok:=(show bg X.prog X.w H s.heap a (.dK kvs) from I.hok a _ h)
  obtain ⟨z,hd,vs,rel,o,es,ep,h1,h2,h3,h4⟩:=ok
  have I2:=I.write (x:=a) (e:=a) (h':=s.heap) (t':=s.toks) (o:=.ae o (.dK kvs)) (by rw [h];exact True.intro) (.inl rfl) (fun b u _ q=>q) ⟨o,h1⟩ ⟨h1,z,hd,vs,rel,o,es,ep,h1,h2,h3,h4⟩
  exact ⟨o,es,ep,h3,I2,h1⟩
 ·obtain ⟨e,z,hd,vs,rel,ob,es,ep,h1,h2,h3,h4⟩:=(show bg X.prog X.w H s.heap a (.ae o (.dK kvs)) from I.hok a _ h)
  rw [e] at h1;cases h1
  exact ⟨o,es,ep,h3,by rw [iY h];exact I,e⟩
def U' (te:TE):TI:=fun σ H R=>te σ H fun x H1=>∃ a kvs,x=.ref a/\Rd H1 a (.dK kvs)/\∀ o,R (IR a o kvs) (upd H1 a (.ae o (.dK kvs)))
theorem uC (he:SE X e te):SI X tg e (U' te):=by
 constructor
 intro pins s σ H R I h
 refine ao (he.h pins s σ H _ I h) ?_
 rintro v s1 ⟨x,H1,I1,r1,a,kvs,ex,hr,q⟩
 subst ex
 cases r1
 obtain ⟨o,es,ep,hd,I2,ho⟩:=I1.freeze hr
 obtain ⟨e,z,ur,vs,rel,ob,es',lh,h1,h2,h3,h4⟩:=(show bg X.prog X.w _ s1.heap a (.ae o (.dK kvs)) from I2.hok a _ aA)
 rw [e] at h1;cases h1
 rw [hd] at h3;injection h3 with ii ik
 subst ii ik
 refine wpAny_pyIter_dict (knd:=cg X.prog X.w) (kvs:=vs) (ep:=ep) ur ⟨o,es,e,h2,hd,h4⟩ ?_
 have hl:=rel.len
 refine ⟨s1.heap.objs.size,[s1.heap.objs.size],_,_,_,rfl,I2.kept (t':=s1.toks) fun b o e=>Qc _ e,wF (kvs:=kvs) (a:=a) (o:=o) ⟨es,hd⟩,by rw [hl];exact ⟨_,Qd _ rfl,rfl,rfl⟩,fun b hb=>?_,q o⟩
 have e:b=s1.heap.objs.size:=by simpa using hb
 subst e
 exact I2.ve (Qz _) (I2.hok.fresh (Qz _))
def MC (n:Bool):R2:=fun y x H Q=>∃ a o,x=.ref a/\dj H a y o/\Q (.bl (n^^o.isSome)) H
theorem Va (hu:X.A.units+1 < cLine):ck X (compareOp .In) (MC false):=by
 intro pins s σ H x y v u Q I rx ry h
 obtain ⟨a,o,rfl,g,q⟩:=h
 cases ry
 exact Tu hu I g rx fun s' I'=>⟨.bl o.isSome,H,I',rfl,by simpa using q⟩
theorem uX (hu:X.A.units+1 < cLine):ck X (compareOp .NotIn) (MC true):=by
 intro pins s σ H x y v u Q I rx ry h
 obtain ⟨a,o,rfl,g,q⟩:=h
 cases ry
 exact zZ hu I g rx fun s' I'=>⟨.bl (!o.isSome),H,I',rfl,by simpa using q⟩
theorem dj.rd {kvs:List (Key×V)} {k:Key} (e:Rd H a (.dK kvs)):dj H a (kV k) (av kvs k):=.inl ⟨kvs,k,e,rfl,rfl⟩
section
variable {a b c:Expr} {ta:TA} {p pos:Pos}
end
inductive Dt where
 | str (z:Str)
 | tup (ds:List Dt)
 | p_
inductive DD (H:Hp):V->Dt->Prop
 | str {z:Str} (h:z.length<=100000):DD H (.str z) (.str z)
 | tup {a:Addr} {xs:List V} {ds:List Dt}:H a=some (.tup xs)->xs.length=ds.length->xs.length<=1000->(∀ i (h:i < xs.length) (h':i < ds.length),DD H xs[i] ds[i])->DD H (.ref a) (.tup ds)
 | ai:DD H .ai .p_
 | bl (b:Bool):DD H (.bl b) .p_
 | int (i:Int):DD H (.int i) .p_
 | lst {a:Addr} {xs:List V}:H a=some (.lst xs)->DD H (.ref a) .p_
 | dct {a:Addr} {kvs:List (Key×V)}:H a=some (.dK kvs)->DD H (.ref a) .p_
theorem DD.same (s:aa H H') {v:V} {d:Dt} (h:DD H v d):DD H' v d:=by
 induction h with
 | str h=>exact .str h
 | tup e hl hn _ ih=>exact .tup (s _ _ e) hl hn ih
 | ai=>exact .ai
 | bl b=>exact .bl b
 | int i=>exact .int i
 | lst e=>exact .lst (s _ _ e)
 | dct e=>exact .dct (s _ _ e)
def Di:Dt->Bool | .str z=>isName z | _=>false
def pairD:Dt->Bool | .tup [a,b]=>Di a&&Di b | _=>false
def MD:Dt->Str | .tup (.str z::_)=>z | _=>""
def q_ (a b:Str):Bool:=decide (a.cps.toList < b.cps.toList)
def rising:List Str->Bool
 | a::b::r=>q_ a b&&rising (b::r)
 | _=>true
def IT:Dt->Bool | .tup ps=>ps.all pairD&&rising (ps.map MD) | _=>false
def Dj (s:Str):Bool:=s=="box"||s=="pick"
def ES (s:Str):Option Nat:=if s=="all" then some 0 else if s=="none" then some 0 else if s=="way" then some 2 else if s=="as" then some 1 else none
def headD:Dt->Bool
 | .tup (.str s::rest)=>if Dj s then (match rest with | [p]=>IT p | _=>false) else match ES s with | some n=>decide (rest.length=n)&&rest.all Di | none=>false
 | _=>false
theorem bj.imp {P:Program} {w:World} {K:Q1} {mg:Str->Option Value} {base:Heap} {k:Nat} {x:Str} {ps:List Str} {sp Ep:Sp} (F:bj P w K mg base k x ps sp) (h:∀ vs H Q E,Ep vs H Q E->sp vs H Q E):bj P w K mg base k x ps Ep:=by
 obtain ⟨f,fd,G,r⟩:=F
 exact ⟨f,fd,G.imp h,r⟩
theorem iP (rs:List (Key×V)):(rs.map (·.1)).Nodup->dictOf rs=rs:=by
 have gen:∀ (rs kvs:List (Key×V)),(rs.map (·.1)).Nodup->(∀ r∈rs,av kvs r.1=none)->rs.foldl (fun kvs r=>putK kvs r.1 r.2) kvs=kvs++rs:=by
  intro rs
  induction rs with
  | nil=>intro kvs _ _;simp
  | cons r rs ih=>
   intro kvs hn hk
   rw [List.map_cons,List.nodup_cons] at hn
   rw [List.foldl_cons,cF _ (hk r List.mem_cons_self),ih _ hn.2 fun x hx=>?_]
   ·simp
   ·rw [jO _ _ _ _ (hk r List.mem_cons_self),if_neg (fun e=>hn.1 (List.mem_map.mpr ⟨x,hx,e⟩))]
    exact hk x (Qh _ hx)
 intro hn
 have:=gen rs [] hn (fun _ _=>rfl)
 simpa [dictOf] using this
theorem vO {v:V} {d:Dt} (h:DD H v d) (hn:Di d=true):∃ z,v=.str z/\d=.str z/\isName z=true:=by
 cases h with
 | str _=>exact ⟨_,rfl,rfl,hn⟩
 | tup _ _ _ _=>exact Bool.noConfusion hn
 | ai=>exact Bool.noConfusion hn
 | bl _=>exact Bool.noConfusion hn
 | int _=>exact Bool.noConfusion hn
 | lst _=>exact Bool.noConfusion hn
 | dct _=>exact Bool.noConfusion hn
def Vb:Dt->Dt | .tup (_::h::_)=>h | _=>.p_
def ET:Dt->Option Str | .tup [.str s,.str x]=>if s=="as" then some x else none | _=>none
def B8 (ds:List Dt):List (Str×Dt):=ds.map fun d=>(MD d,Vb d)
def IU (rs:List (Str×Dt)) (n:Str):Option Str:=(rs.find? fun r=>decide (r.1=n)).bind fun r=>ET r.2
theorem Rd.same {u:HO} (r:Rd H a u) (s:aa H H'):Rd H' a u:=by
 rcases r with r | ⟨o,r⟩
 ·exact .inl (s _ _ r)
 ·exact .inr ⟨o,s _ _ r⟩
theorem yB (z:Str) (ds:List Dt):headD (.tup (.str z::ds))=if Dj z then (match ds with | [p]=>IT p | _=>false) else match ES z with | some n=>decide (ds.length=n)&&ds.all Di | none=>false:=rfl
theorem wT {v:V} {d:Dt} (h:DD H v d) (hh:headD d=true):∃ a z xs ds,v=.ref a/\d=.tup (.str z::ds)/\H a=some (.tup (.str z::xs))/\xs.length=ds.length/\xs.length < 1000/\(∀ i (h:i < xs.length) (h':i < ds.length),DD H xs[i] ds[i])/\
  ((Dj z=true/\∃ p,ds=[p]/\IT p=true)\/(Dj z=false/\∃ n,ES z=some n/\ds.length=n/\ds.all Di=true)):=by
 cases h with
 | @tup a xs ds e hl hn hds=>
  match ds,hl,hh,hds with
  | .str z::ds,hl,hh,hds=>
   match xs,hl,e,hn,hds with
   | x0::xs,hl,e,hn,hds=>
    have h0:=hds 0 (by simp) (by simp)
    simp only [List.getElem_cons_zero] at h0
    cases h0
    refine ⟨a,z,xs,ds,rfl,rfl,e,by simpa using hl,by simp at hn;omega,fun i h h'=>hds (i+1) (by simpa using h) (by simpa using h'),?_⟩
    rw [yB] at hh
    cases hw:Dj z with
    | true=>
     rw [hw] at hh
     simp only [if_true] at hh
     match ds,hh with
     | [p],hh=>exact .inl ⟨rfl,p,rfl,hh⟩
    | false=>
     rw [hw] at hh
     simp only [Bool.false_eq_true,if_false] at hh
     cases hb:ES z with
     | none=>rw [hb] at hh;exact Bool.noConfusion hh
     | some n=>
      rw [hb] at hh
      simp only [Bool.and_eq_true,decide_eq_true_eq] at hh
      exact .inr ⟨rfl,n,rfl,hh.1,hh.2⟩
  | .tup _::_,_,hh,_=>exact Bool.noConfusion hh
  | .p_::_,_,hh,_=>exact Bool.noConfusion hh
  | [],_,hh,_=>exact Bool.noConfusion hh
 | str _=>exact Bool.noConfusion hh
 | ai=>exact Bool.noConfusion hh
 | bl _=>exact Bool.noConfusion hh
 | int _=>exact Bool.noConfusion hh
 | lst _=>exact Bool.noConfusion hh
 | dct _=>exact Bool.noConfusion hh
theorem uO:Dj "as"=false:=by decide
theorem Vc {v:V} {d:Dt} (h:DD H v d) (hh:headD d=true):B6 H v (ET d):=by
 obtain ⟨a,z,xs,ds,rfl,rfl,e,hl,hn,hds,hc⟩:=wT h hh
 refine ⟨a,rfl,?_⟩
 by_cases hz:z="as"
 ·subst hz
  rcases hc with ⟨hw,_⟩ | ⟨_,n,hb,ME,GB⟩
  ·rw [uO] at hw;cases hw
  ·have hn1:n=1:=by
    have:ES "as"=some 1:=by decide
    rw [this] at hb;cases hb;rfl
   subst hn1
   match ds,ME,hl,GB,hds with
   | [d1],_,hl,GB,hds=>
    match xs,hl,e,hds with
    | [x1],_,e,hds=>
     simp only [List.all_cons,List.all_nil,Bool.and_true] at GB
     obtain ⟨y,q1,q2,_⟩:=vO (hds 0 (by simp) (by simp)) GB
     simp only [List.getElem_cons_zero] at q1
     subst q1 q2
     exact .inr ⟨y,e,by simp [ET]⟩
 ·refine .inl ⟨z,xs,e,hz,?_⟩
  have IV:(z==Str.ofString "as")=false:=by simpa using hz
  unfold ET
  split
  ·next s x IW=>
   injection IW with IW
   injection IW with h1 _
   injection h1 with h1
   rw [<- h1,if_neg (by rw [IV];exact Bool.false_ne_true)]
  ·rfl
structure Dk (H:Hp) (xs:List V) (ds:List Dt) (rs:List (Str×V)) (hs:List Dt):Prop where
 l1:rs.length=ds.length
 l2:hs.length=ds.length
 ps:iy H xs (bh rs)
 dd:∀ i (h:i < ds.length) (h1:i < rs.length) (h2:i < hs.length),ds[i]=.tup [.str rs[i].1,hs[i]]/\DD H rs[i].2 hs[i]/\headD hs[i]=true/\isName rs[i].1=true
section
variable {xs:List V} {ds:List Dt} {rs:List (Str×V)} {hs:List Dt}
theorem Dk.rows (R:Dk H xs ds rs hs) (h:i < ds.length) (h1:i < rs.length) (h2:i < hs.length):(B8 ds)[i]? =some (rs[i].1,hs[i]):=by
 unfold B8
 rw [Qq,Qa h,(R.dd i h h1 h2).1];rfl
theorem kJ (n:Str) (h:n ∉ rs.map (·.1)):av (bh rs) (.inr n)=none:=by
 unfold av
 rw [List.find?_eq_none.mpr]
 ·rfl
 ·intro p hp e
  obtain ⟨r,hr,rfl⟩:=List.mem_map.mp hp
  exact h (List.mem_map.mpr ⟨r,hr,Sum.inr.inj (Qt e)⟩)
theorem mG (nd:(rs.map (·.1)).Nodup) (h:i < rs.length):av (bh rs) (.inr rs[i].1)=some rs[i].2:=by
 have:=kE (bh rs) (lR nd) i (by simpa using h)
 rw [iP _ (lR nd)] at this
 simpa using this
theorem Dk.nx (R:Dk H xs ds rs hs) (nd:(rs.map (·.1)).Nodup) (h1:i < rs.length) (h2:i < hs.length):IU (B8 ds) rs[i].1=ET hs[i]:=by
 have h:i < ds.length:=by have:=R.l1;omega
 unfold IU
 have:(B8 ds).find? (fun r=>decide (r.1=rs[i].1))=some (rs[i].1,hs[i]):=by
  rw [List.find?_eq_some_iff_getElem]
  have hl:(B8 ds).length=ds.length:=by unfold B8;simp
  refine ⟨by simp,i,by omega,?_,fun j hj=>?_⟩
  ·have:=R.rows h h1 h2
   rw [Qa (by omega)] at this
   exact QE this
  ·have GC:j < rs.length:=by omega
   have:=R.rows (i:=j) (by omega) GC (by omega)
   rw [Qa (by omega)] at this
   rw [QE this]
   have gr:(rs.map (·.1))[j]'(by simp;omega)≠(rs.map (·.1))[i]'(by simpa using h1):=fun z=>(List.pairwise_iff_getElem.mp nd j i (by simp;omega) (by simpa using h1) hj) z
   simpa using gr
 rw [this];rfl
theorem Dk.has (R:Dk H xs ds rs hs) (nd:(rs.map (·.1)).Nodup) (n:Str) (v:V) (hv:av (bh rs) (.inr n)=some v):B6 H v (IU (B8 ds) n):=by
 by_cases h:n∈rs.map (·.1)
 ·obtain ⟨r,hr,rfl⟩:=List.mem_map.mp h
  obtain ⟨i,hi,rfl⟩:=Qi hr
  rw [mG nd hi] at hv
  cases hv
  have h2:i < hs.length:=by have:=R.l1;have:=R.l2;omega
  rw [R.nx nd hi h2]
  obtain ⟨_,q1,q2,_⟩:=R.dd i (by have:=R.l1;omega) hi h2
  exact Vc q1 q2
 ·rw [kJ n h] at hv;cases hv
end
inductive TX (H:Hp):V->Dt->Prop
 | str {z:Str} (h:z.length<=100000):TX H (.str z) (.str z)
 | tup {a:Addr} {xs:List V} {ds:List Dt}:H a=some (.tup xs)->xs.length=ds.length->xs.length<=1000->(∀ i (h:i < xs.length) (h':i < ds.length),TX H xs[i] ds[i])->TX H (.ref a) (.tup ds)
theorem TX.dd {v:V} {d:Dt} (h:TX H v d):DD H v d:=by
 induction h with
 | str h=>exact .str h
 | tup e hl hn _ ih=>exact .tup e hl hn ih
theorem Vd {x:V} {d:Dt} (e:H a=some (.tup [x])) (h:TX H x d):TX H (.ref a) (.tup [d]):=.tup e rfl (by simp) fun i h1 h2=>by
 match i,h1 with
 | 0,_=>exact h
theorem nQ {x y:V} {d d':Dt} (e:H a=some (.tup [x,y])) (h:TX H x d) (h':TX H y d'):TX H (.ref a) (.tup [d,d']):=.tup e rfl (by simp) fun i h1 h2=>by
 match i,h1 with
 | 0,_=>exact h
 | 1,_=>exact h'
theorem Ve {x y z:V} {d d' MF:Dt} (e:H a=some (.tup [x,y,z])) (h:TX H x d) (h':TX H y d') (Dg:TX H z MF):TX H (.ref a) (.tup [d,d',MF]):=.tup e rfl (by simp) fun i h1 h2=>by
 match i,h1 with
 | 0,_=>exact h
 | 1,_=>exact h'
 | 2,_=>exact Dg
theorem fS (h:isName z=true):z.length<=8:=by
 unfold isName at h
 simp only [Bool.and_eq_true,decide_eq_true_eq] at h
 exact h.1.1.2
theorem iZ (h:isName z=true):TX H (.str z) (.str z):=.str (by have:=fS h;omega)
theorem o7 (h:z.length<=100):TX H (.str z) (.str z):=.str (by omega)
section
variable {P:Option Str->Prop}
structure MG (H:Hp) (ns:List Str) (xs:List V) (ps:List (Str×Str)):Prop where
 len:xs.length=ps.length
 at_:∀ i (h:i < xs.length) (h':i < ps.length),∃ c,xs[i]=.ref c/\H c=some (.tup [.str ps[i].1,.str ps[i].2])
 nm:∀ p∈ps,isName p.1=true/\isName p.2=true/\p.2∈ns
 B9:rising (ps.map (·.1))=true
end
theorem pL {a b c:Str} (h1:q_ a b=true) (h2:q_ b c=true):q_ a c=true:=by
 unfold q_ at*
 exact Qw (List.lt_trans (Qt h1) (Qt h2))
theorem fO:∀ {ws:List Str},ws.Pairwise (fun a b=>q_ a b=true)->rising ws=true
 | [],_=>rfl
 | [_],_=>rfl
 | a::b::r,h=>by
  rw [List.pairwise_cons] at h
  rw [rising,h.1 b List.mem_cons_self,fO h.2];rfl
def B_:V->Str
 | .str z=>z
 | _=>""
theorem Vf {xs:List V} {rs:List (Str×V)} (q2:iy H xs (bh rs)) (hn:∀ r∈rs,isName r.1=true) (q4:∀ r∈rs,∃ y,r.2=.str y/\y∈ns/\isName y=true) (hr:rising (rs.map (·.1))=true):MG H ns xs (rs.map fun q=>(q.1,B_ q.2)):=by
 have hl:xs.length=rs.length:=by have:=q2.1;simpa using this
 refine ⟨by simp;omega,fun i h1 h2=>?_,fun q hq=>?_,?_⟩
 ·have h3:i < rs.length:=by omega
  obtain ⟨c',e1,e2⟩:=q2.2 i (by simpa using h3)
  rw [Qa h1] at e1
  refine ⟨c',QE e1,?_⟩
  obtain ⟨y,ey,_⟩:=q4 _ (Qj h3)
  simp only [Qr]
  rw [ey]
  have:H c'=some (.tup [.str rs[i].1,rs[i].2]):=by simpa [bh,kV] using e2
  rw [ey] at this
  exact this
 ·obtain ⟨q',lq,rfl⟩:=List.mem_map.mp hq
  obtain ⟨y,ey,my,ny⟩:=q4 q' lq
  refine ⟨hn q' lq,?_,?_⟩
  ·show isName (B_ q'.2)=true
   rw [ey];exact ny
  ·show B_ q'.2∈ns
   rw [ey];exact my
 ·rw [Qn];exact hr
section
variable {e1 e2:Expr} {p pos:Pos} {k:Nat} {g1 g2:TG}
end
section
variable {t1 i1 t2 i2 elt:Expr} {pos:Pos} {wi Vg:TI} {g g2:TG}
end
section
variable {st:Expr} {ts:TE} {p2 pos:Pos}
end
inductive Hd where
 | one (s:Str)
 | as (y:Str)
 | way (x y:Str)
 | prs (s:Str) (ps:List (Str×Str))
def Hd.nx:Hd->Option Str
 | .as y=>some y
 | _=>none
def Hd.ok (ns:List Str):Hd->Prop
 | .one s=>s="all"\/s="none"
 | .as y=>isName y=true/\y∈ns
 | .way x y=>isName x=true/\isName y=true/\x∈ns/\y∈ns
 | .prs s ps=>(s="box"\/s="pick")/\(∀ p∈ps,isName p.1=true/\isName p.2=true/\p.2∈ns)/\rising (ps.map (·.1))=true/\ps.length<=10
structure EU (H:Hp) (xs:List V) (ps:List (Str×Str)):Prop where
 len:xs.length=ps.length
 at_:∀ i (h:i < xs.length) (h':i < ps.length),∃ c,xs[i]=.ref c/\H c=some (.tup [.str ps[i].1,.str ps[i].2])
theorem EU.tk {xs:List V} {ps:List (Str×Str)} (h:EU H xs ps) (s:Tk H H'):EU H' xs ps:=⟨h.len,fun i a b=>let ⟨c,h1,h2⟩:=h.at_ i a b;⟨c,h1,s _ _ h2⟩⟩
inductive HV (H:Hp):V->Hd->Prop
 | one {b:Addr} {s:Str}:H b=some (.tup [.str s])->HV H (.ref b) (.one s)
 | as {b:Addr} {y:Str}:H b=some (.tup [.str "as",.str y])->HV H (.ref b) (.as y)
 | way {b:Addr} {x y:Str}:H b=some (.tup [.str "way",.str x,.str y])->HV H (.ref b) (.way x y)
 | prs {b c:Addr} {s:Str} {xs:List V} {ps:List (Str×Str)}:H b=some (.tup [.str s,.ref c])->H c=some (.tup xs)->EU H xs ps->HV H (.ref b) (.prs s ps)
theorem HV.tk {H H':Hp} (s:Tk H H') {v:V} {h:Hd} (q:HV H v h):HV H' v h:=by
 cases q with
 | one e=>exact .one (s _ _ e)
 | as e=>exact .as (s _ _ e)
 | way e=>exact .way (s _ _ e)
 | prs e e' p=>exact .prs (s _ _ e) (s _ _ e') (p.tk s)
section
variable {v:V} {P:Option Str->Prop}
end
def Hd.dt:Hd->Dt
 | .one s=>.tup [.str s]
 | .as y=>.tup [.str "as",.str y]
 | .way x y=>.tup [.str "way",.str x,.str y]
 | .prs s ps=>.tup [.str s,.tup (ps.map fun p=>.tup [.str p.1,.str p.2])]
theorem HV.tx {v:V} {h:Hd} (q:HV H v h) (ok:h.ok ns):TX H v h.dt:=by
 cases q with
 | one e=>exact Vd e (o7 (by rcases ok with rfl | rfl<;>decide))
 | as e=>exact nQ e (o7 (by decide)) (iZ ok.1)
 | way e=>exact Ve e (o7 (by decide)) (iZ ok.1) (iZ ok.2.1)
 | @prs b c s xs ps e e' p=>
  have GD:=ok.2.2.2
  have hl:=p.len
  refine nQ e (o7 (by rcases ok.1 with rfl | rfl<;>decide)) (.tup e' (by simp [p.len]) (by omega) fun i h1 h2=>?_)
  have h3:i < ps.length:=by simpa using h2
  obtain ⟨c',q1,q2⟩:=p.at_ i h1 h3
  obtain ⟨m1,m2,_⟩:=ok.2.1 _ (Qj h3)
  rw [q1]
  simp only [Qr]
  exact nQ q2 (iZ m1) (iZ m2)
abbrev ak:=Str×Hd
end L2
variable {tA:L2.TT} {D:L2.Ends} {g:L2.TG} {wi:L2.TI} {sp:L2.Sp} {tc:L2.TC} {d:L2.Dt} {rs r1 r2:List L2.ak}
namespace L2
open PySem PySem.Spec PyProof.Rows
structure RV (H:Hp) (xs:List V) (rows:List ak):Prop where
 len:xs.length=rows.length
 at_:∀ i (h:i < xs.length) (h':i < rows.length),∃ b v,xs[i]=.ref b/\H b=some (.tup [.str rows[i].1,v])/\HV H v rows[i].2
theorem RV.tk {H H':Hp} {xs:List V} {rows:List ak} (h:RV H xs rows) (s:Tk H H'):RV H' xs rows:=⟨h.len,fun i a b=>let ⟨c,v,h1,h2,h3⟩:=h.at_ i a b;⟨c,v,h1,s _ _ h2,h3.tk s⟩⟩
def Vh (r:ak):Dt:=.tup [.str r.1,r.2.dt]
def MH (ns:List Str) (rows:List ak):Prop:=∀ r∈rows,isName r.1=true/\r.2.ok ns
def Hd.pre:Hd->List Str
 | .one s=>[s]
 | .as _=>[]
 | .way _ _=>["way"]
 | .prs s _=>[s]
inductive DA (P:Addr->Prop) (H:Hp):Bool->V->PyData->Dt->Prop
 | str {m:Bool} {z:Str} (h:z.length<=100000):DA P H m (.str z) (.str z) (.str z)
 | ai {m:Bool}:DA P H m .ai .none .p_
 | bl {m:Bool} (b:Bool):DA P H m (.bl b) (.bool b) .p_
 | int {m:Bool} (i:Int):DA P H m (.int i) (.int i) .p_
 | tup {m:Bool} {a:Addr} {xs:List V} {ps:List PyData} {ds:List Dt}:P a->H a=some (.tup xs)->xs.length=ps.length->xs.length=ds.length->xs.length<=1000->(∀ i (h:i < xs.length) (h':i < ps.length) (Dg:i < ds.length),DA P H m xs[i] ps[i] ds[i])->DA P H m (.ref a) (.tuple ps) (.tup ds)
 | lst {a:Addr} {xs:List V} {ps:List PyData} {ds:List Dt}:P a->H a=some (.lst xs)->xs.length=ps.length->xs.length=ds.length->(∀ i (h:i < xs.length) (h':i < ps.length) (Dg:i < ds.length),DA P H true xs[i] ps[i] ds[i])->DA P H true (.ref a) (.list ps) .p_
 | Vi {a:Addr}:P a->H a=some (.dK [])->DA P H false (.ref a) (.dict []) .p_
 | Vj {a:Addr} {z:Str} {x:V} {p:PyData} {d:Dt}:P a->H a=some (.dK [(.inr z,x)])->DA P H false x p d->DA P H false (.ref a) (.dict [(.str z,p)]) .p_
theorem DA.dd {P:Addr->Prop} {m:Bool} {v:V} {p:PyData} (h:DA P H m v p d):DD H v d:=by
 induction h with
 | str h=>exact .str h
 | ai=>exact .ai
 | bl b=>exact .bl b
 | int i=>exact .int i
 | tup _ e h1 h2 h3 _ ih=>exact .tup e h2 h3 fun i a b=>ih i a (by omega) b
 | lst _ e h1 h2 _ ih=>exact .lst e
 | Vi _ e=>exact .dct e
 | Vj _ e _ ih=>exact .dct e
section
variable {P P':Addr->Prop} {m:Bool} {v:V} {k k' n':Nat} {xs:List V}
end
section
variable {P:Addr->Prop} {m:Bool} {ta:TA} {k c:Nat}
end
section
variable {pos:Pos}
end
theorem lN (y:Str) (zs:List Str):AX (.str y) (zs.map V.str)=decide (y∈zs):=by
 rw [Bool.eq_iff_iff,decide_eq_true_iff]
 unfold AX
 rw [List.any_map,List.any_eq_true]
 constructor
 ·rintro ⟨a,ha,e⟩
  have e':(a==y)=true:=e
  rw [<- eq_of_beq e'];exact ha
 ·intro h
  exact ⟨y,h,(beq_self_eq_true y:(y==y)=true)⟩
section
variable {I:Addr} {wr:List Addr} {P:Nat->Value->Prop} {St:Nat->Shared->Prop}
end
section
variable {a b c:Expr} {ta:TA} {p pos:Pos}
end
def Hd.Ca:Hd->List Str
 | .prs _ ps=>ps.map (·.1)
 | _=>[]
structure rf (H:Hp) (ns ws:List Str) (v:V) (P:Option Str->Prop):Prop where
 ex:∃ h,HV H v h/\h.ok ns/\P h.nx/\∀ z∈h.Ca,z∈ws
section
variable {v:V} {P:Option Str->Prop}
theorem rf.tk {H':Hp} (h:rf H ns ws v P) (s:Tk H H'):rf H' ns ws v P:=let ⟨d,h1,h2⟩:=h.ex;⟨d,h1.tk s,h2⟩
theorem rf.imp {P':Option Str->Prop} (h:rf H ns ws v P) (f:∀ o,P o->P' o):rf H ns ws v P':=let ⟨d,h1,h2,h3,h4⟩:=h.ex;⟨d,h1,h2,f _ h3,h4⟩
theorem Vk {y:Str} (e:H b=some (.tup [.str "as",.str y])) (hy:isName y=true) (hm:y∈ns) (hP:P (some y)):rf H ns ws (.ref b) P:=⟨.as y,.as e,⟨hy,hm⟩,hP,(fun _ h=>nomatch h)⟩
theorem xW (e:H b=some (.tup [.str "none"])) (hP:P none):rf H ns ws (.ref b) P:=⟨.one "none",.one e,.inr rfl,hP,(fun _ h=>nomatch h)⟩
theorem Vl (e:H b=some (.tup [.str "all"])) (hP:P none):rf H ns ws (.ref b) P:=⟨.one "all",.one e,.inl rfl,hP,(fun _ h=>nomatch h)⟩
theorem Vm {y:Str} (e:H b=some (.tup [.str "way",.str x,.str y])) (hx:isName x=true) (hy:isName y=true) (mx:x∈ns) (my:y∈ns) (hP:P none):rf H ns ws (.ref b) P:=⟨.way x y,.way e,⟨hx,hy,mx,my⟩,hP,(fun _ h=>nomatch h)⟩
theorem qX {s:Str} {c:Addr} {xs:List V} {ps:List (Str×Str)} (hs:s="box"\/s="pick") (e:H b=some (.tup [.str s,.ref c])) (ec:H c=some (.tup xs)) (hn:xs.length<=10) (h:MG H ns xs ps) (hw:∀ q∈ps,q.1∈ws) (hP:P none):rf H ns ws (.ref b) P:=
 ⟨.prs s ps,.prs e ec ⟨h.len,h.at_⟩,⟨hs,h.nm,h.B9,by rw [<- h.len];exact hn⟩,hP,fun z hz=>by obtain ⟨q,hq,rfl⟩:=List.mem_map.mp hz;exact hw q hq⟩
end
theorem xE {y:Str} (e:H b=some (.tup [.str x,.str y])) (hx:Wd x) (hy:Wd y):TB H (.ref b) 1 411:=
 (TB.tup (k:=0) (n:=202) e fun v hv=>by
  simp only [Qp,QB,or_false] at hv
  rcases hv with rfl | rfl
  ·exact TB.str hx
  ·exact TB.str hy).mono (by omega) (by simp)
theorem HV.tb {ws:List Str} {v:V} {h:Hd} (q:HV H v h) (ok:h.ok ns) (hn:∀ n∈ns,Wd n) (hw:∀ z∈h.Ca,Wd z):TB H v 3 8273:=by
 cases q with
 | one e=>
  refine (TB.tup (k:=0) (n:=202) e fun v hv=>?_).mono (by omega) (by simp)
  rw [List.mem_singleton.mp hv]
  rcases ok with rfl | rfl<;>exact TB.str (fK (by decide) (by decide))
 | as e=>exact (xE e (fK (by decide) (by decide)) (hn _ ok.2)).mono (by omega) (by omega)
 | way e=>
  refine (TB.tup (k:=0) (n:=202) e fun v hv=>?_).mono (by omega) (by simp)
  simp only [Qp,QB,or_false] at hv
  rcases hv with rfl | rfl | rfl
  ·exact TB.str (fK (by decide) (by decide))
  ·exact TB.str (hn _ ok.2.2.1)
  ·exact TB.str (hn _ ok.2.2.2)
 | @prs b c s xs ps e e' p=>
  have GD:=ok.2.2.2
  have hl:=p.len
  refine (TB.tup (k:=2) (n:=4133) e fun v hv=>?_).mono (by omega) (by simp)
  simp only [Qp,QB,or_false] at hv
  rcases hv with rfl | rfl
  ·rcases ok.1 with rfl | rfl<;>exact (TB.str (fK (by decide) (by decide))).mono (by omega) (by omega)
  ·refine (TB.tup (k:=1) (n:=411) e' fun x hx=>?_).mono (by omega) (by omega)
   obtain ⟨i,hi,rfl⟩:=Qi hx
   have h3:i < ps.length:=by omega
   obtain ⟨c',q1,q2⟩:=p.at_ i hi h3
   rw [q1]
   have hm:ps[i]∈ps:=Qj h3
   exact xE q2 (hw _ (List.mem_map.mpr ⟨_,hm,rfl⟩)) (hn _ (ok.2.1 _ hm).2.2)
theorem nY (a:Str):q_ a a=false:=by
 unfold q_
 exact Qx (List.lt_irrefl _)
def Cb (ns:List Str) (n:Str) (o:Option Str):Prop:=∀ y,o=some y->∃ (i j:Nat),i < j/\ns[i]? =some y/\ns[j]? =some n
structure lz (H:Hp) (ns ws:List Str) (rs:List (Str×V)):Prop where
 sub:∀ r∈rs,r.1∈ns
 hd:∀ r∈rs,rf H ns ws r.2 (Cb ns r.1)
theorem lz.tk {H H':Hp} {ns ws:List Str} {rs:List (Str×V)} (h:lz H ns ws rs) (s:Tk H H'):lz H' ns ws rs:=⟨h.sub,fun r hr=>(h.hd r hr).tk s⟩
theorem lz.perm {rs rs':List (Str×V)} (h:lz H ns ws rs) (p:∀ r∈rs',r∈rs):lz H ns ws rs':=⟨fun r hr=>h.sub r (p r hr),fun r hr=>h.hd r (p r hr)⟩
theorem lz.add {rs:List (Str×V)} (h:lz H ns ws rs) {n:Str} {v:V} (h1:n∈ns) (h2:rf H ns ws v (Cb ns n)):lz H ns ws ((n,v)::rs):=by
 refine ⟨fun r hr=>?_,fun r hr=>?_⟩<;>rcases Qp.mp hr with rfl | hr
 ·exact h1
 ·exact h.sub r hr
 ·exact h2
 ·exact h.hd r hr
structure RT (H:Hp) (a:Addr) (xs:List V) (rows:List ak) (ns ws:List Str):Prop where
 at_:H a=some (.tup xs)
 rv:RV H xs rows
 nm:(rows.map (·.1)).Perm ns
 nd:ns.Nodup
 ok:MH ns rows
 wd:∀ n∈ns,Wd n
 ah:∀ r∈rows,Cb ns r.1 r.2.nx
 ww:∀ r∈rows,∀ z∈r.2.Ca,z∈ws
 pos:1<=ns.length
 few:ns.length<=14
section
variable {xs:List V} {rows:List ak}
theorem RT.tk (h:RT H a xs rows ns ws) (s:Tk H H'):RT H' a xs rows ns ws:=⟨s _ _ h.at_,h.rv.tk s,h.nm,h.nd,h.ok,h.wd,h.ah,h.ww,h.pos,h.few⟩
theorem RT.rl (h:RT H a xs rows ns ws):rows.length=ns.length:=by have:=h.nm.length_eq;simpa using this
theorem RT.jn (h:RT H a xs rows ns ws):(rows.map (·.1)).Nodup:=by rw [h.nm.nodup_iff];exact h.nd
theorem RT.of {rs:List (Str×V)} (e:H a=some (.tup xs)) (ps:iy H xs (bh rs)) (nm:(rs.map (·.1)).Perm ns) (nd:ns.Nodup) (MI:∀ n∈ns,isName n=true/\Wd n) (pos:1<=ns.length) (few:ns.length<=14) (g:lz H ns ws rs):∃ rows,RT H a xs rows ns ws:=by
 have hc:∀ i:Fin rs.length,∃ hd:Hd,HV H rs[i.val].2 hd/\hd.ok ns/\Cb ns rs[i.val].1 hd.nx/\∀ z∈hd.Ca,z∈ws:=fun i=>(g.hd _ (Qj i.isLt)).ex
 obtain ⟨f,hf⟩:=Classical.axiomOfChoice hc
 have A5:xs.length=rs.length:=by have:=ps.1;simpa using this
 have en:(List.ofFn fun i:Fin rs.length=>((rs[i.val].1,f i):ak)).map (·.1)=rs.map (·.1):=by
  apply List.ext_getElem
  ·simp
  ·intro i h1 h2;simp
 have mem:∀ r∈(List.ofFn fun i:Fin rs.length=>((rs[i.val].1,f i):ak)),∃ i:Fin rs.length,r=(rs[i.val].1,f i):=fun r hr=>by
  obtain ⟨i,hi,rfl⟩:=Qi hr
  exact ⟨⟨i,by simpa using hi⟩,by simp⟩
 refine ⟨List.ofFn fun i=>(rs[i.val].1,f i),e,⟨by simp [A5],fun i h1 h2=>?_⟩,by rw [en];exact nm,nd,fun r hr=>?_,fun n hn=>(MI n hn).2,fun r hr=>?_,fun r hr=>?_,pos,few⟩
 ·have h3:i < rs.length:=by omega
  obtain ⟨b,e1,e2⟩:=ps.2 i (by simpa using h3)
  rw [Qa h1] at e1
  refine ⟨b,rs[i].2,QE e1,?_,?_⟩
  ·simpa [bh,kV] using e2
  ·simpa using (hf ⟨i,h3⟩).1
 ·obtain ⟨i,rfl⟩:=mem r hr
  exact ⟨(MI _ (g.sub _ (Qj i.isLt))).1,(hf i).2.1⟩
 ·obtain ⟨i,rfl⟩:=mem r hr
  exact (hf i).2.2.1
 ·obtain ⟨i,rfl⟩:=mem r hr
  exact (hf i).2.2.2
end
section
variable {xs ys:List V} {rows Cc:List ak} {ws':List Str} {f g:Str->Str}
theorem RT.pairs (h:RT H a xs rows ns ws):∃ rs:List (Str×V),iy H xs (bh rs)/\rs.map (·.1)=rows.map (·.1)/\rs.length=rows.length/\∀ i (h1:i < rs.length) (h2:i < rows.length),HV H rs[i].2 rows[i].2:=by
 have hl:=h.rv.len
 have hc:∀ i:Fin rows.length,∃ v:V,(∃ b,xs[i.val]? =some (.ref b)/\H b=some (.tup [.str rows[i.val].1,v]))/\HV H v rows[i.val].2:=fun i=>by
  obtain ⟨b,v,q1,q2,q3⟩:=h.rv.at_ i.val (by have:=i.isLt;omega) i.isLt
  exact ⟨v,⟨b,by rw [Qa (by have:=i.isLt;omega),q1],q2⟩,q3⟩
 obtain ⟨f,hf⟩:=Classical.axiomOfChoice hc
 refine ⟨List.ofFn fun i=>(rows[i.val].1,f i),⟨by simp [hl],fun i hi=>?_⟩,?_,by simp,fun i h1 h2=>?_⟩
 ·have ip:i < rows.length:=by simpa using hi
  obtain ⟨b,q1,q2⟩:=(hf ⟨i,ip⟩).1
  exact ⟨b,q1,by simpa [bh,kV] using q2⟩
 ·apply List.ext_getElem
  ·simp
  ·intro i h1 h2;simp
 ·simpa using (hf ⟨i,h2⟩).2
def aq (rows:List ak) (x:Str):Hd:=((rows.find? fun r=>decide (r.1=x)).map (·.2)).getD (.one "")
def iz (rows:List ak) (x:Str):Option Str:=(aq rows x).nx
theorem fL (nd:(rows.map (·.1)).Nodup) {r:ak} (hr:r∈rows):aq rows r.1=r.2:=by
 obtain ⟨i,hi,rfl⟩:=Qi hr
 have:rows.find? (fun r=>decide (r.1=rows[i].1))=some rows[i]:=by
  rw [List.find?_eq_some_iff_getElem]
  refine ⟨by simp,i,hi,rfl,fun j hj=>?_⟩
  have gr:(rows.map (·.1))[j]'(by simp;omega)≠(rows.map (·.1))[i]'(by simpa using hi):=List.pairwise_iff_getElem.mp nd j i (by simp;omega) (by simpa using hi) hj
  simpa using gr
 unfold aq
 rw [this];rfl
theorem HV.Vn {v:V} {h:Hd} (q:HV H v h) (ok:h.ok ns):B6 H v h.nx:=by
 cases q with
 | one e=>exact ⟨_,rfl,.inl ⟨_,_,e,by rcases ok with rfl | rfl<;>decide,rfl⟩⟩
 | as e=>exact ⟨_,rfl,.inr ⟨_,e,rfl⟩⟩
 | way e=>exact ⟨_,rfl,.inl ⟨_,_,e,by decide,rfl⟩⟩
 | prs e e' p=>exact ⟨_,rfl,.inl ⟨_,_,e,by rcases ok.1 with rfl | rfl<;>decide,rfl⟩⟩
theorem RT.good (h:RT H a xs rows ns ws) (hw:∀ z∈ws,Wd z):∃ rs,ph H a xs rs (iz rows) (fun n=>ns.idxOf n)/\rs.map (·.1)=rows.map (·.1)/\rs.length=rows.length/\∀ x v,x∈ns->av (dictOf (bh rs)) (.inr x)=some v->HV H v (aq rows x):=by
 obtain ⟨rs,ps,nm,rl,hv⟩:=h.pairs
 have Dl:=h.rl
 have hf:=h.few
 have hp:=h.pos
 have nd:(rs.map (·.1)).Nodup:=by rw [nm];exact h.jn
 have jf:∀ n,n∈ns↔n∈rs.map (·.1):=fun n=>by rw [nm];exact h.nm.mem_iff.symm
 have at':∀ r∈rs,∃ r'∈rows,r.1=r'.1/\HV H r.2 r'.2:=fun r hr=>by
  obtain ⟨i,hi,rfl⟩:=Qi hr
  have ip:i < rows.length:=by omega
  refine ⟨rows[i],Qj ip,?_,hv i hi ip⟩
  have:(rs.map (·.1))[i]'(by simpa using hi)=(rows.map (·.1))[i]'(by simpa using ip):=by simp only [nm]
  simpa using this
 have g:ph H a xs rs (iz rows) (fun n=>ns.idxOf n):=by
  refine ⟨h.at_,ps,nd,by omega,by omega,fun r hr=>?_,fun r hr y hy=>?_,fun r hr=>?_,fun r hr=>?_⟩
  ·obtain ⟨r',fb,e,v⟩:=at' r hr
   unfold iz
   rw [e,fL h.jn fb]
   exact v.Vn (h.ok r' fb).2
  ·obtain ⟨r',fb,e,v⟩:=at' r hr
   unfold iz at hy
   rw [e,fL h.jn fb] at hy
   obtain ⟨i,j,zb,h1,h2⟩:=h.ah r' fb y hy
   refine ⟨(jf y).mp (QD h1),?_⟩
   show ns.idxOf y < ns.idxOf r.1
   rw [e,mX h.nd h1,mX h.nd h2]
   exact zb
  ·have:=List.idxOf_lt_length_of_mem ((jf r.1).mpr (List.mem_map.mpr ⟨r,hr,rfl⟩))
   show ns.idxOf r.1<=_
   omega
  ·obtain ⟨r',fb,e,v⟩:=at' r hr
   refine ⟨h.wd _ ((jf r.1).mpr (List.mem_map.mpr ⟨r,hr,rfl⟩)),v.tb (ws:=ws) (h.ok r' fb).2 h.wd fun z hz=>hw z (h.ww r' fb z hz)⟩
 refine ⟨rs,g,nm,rl,fun x v hx sr=>?_⟩
 obtain ⟨v',m,e⟩:=g.get ((jf x).mp hx)
 rw [sr] at e
 cases e
 obtain ⟨r',fb,e,q⟩:=at' _ m
 have e':x=r'.1:=e
 rw [e',fL h.jn fb]
 exact q
end
def Hd.bc:Hd->List (List Str×Str)
 | .way x y=>[(["from"],x),(["to"],y)]
 | .prs s ps=>ps.map fun p=>([if s="box" then "part" else "case",p.1],p.2)
 | _=>[]
theorem rM:∀ {h:Hd},h.ok ns->∀ m∈h.bc,m.2∈ns
 | .one _,_,_,hm=>nomatch hm
 | .as _,_,_,hm=>nomatch hm
 | .way x y,ok,m,hm=>by
  simp only [Hd.bc,Qp,QB,or_false] at hm
  rcases hm with rfl | rfl
  ·exact ok.2.2.1
  ·exact ok.2.2.2
 | .prs s ps,ok,m,hm=>by
  obtain ⟨p,hp,rfl⟩:=List.mem_map.mp hm
  exact (ok.2.1 p hp).2.2
structure MV (H:Hp) (xs:List V) (ms:List (List Str×Str)):Prop where
 len:xs.length=ms.length
 at_:∀ i (h:i < xs.length) (h':i < ms.length),∃ c b,xs[i]=.ref c/\H c=some (.tup [.ref b,.str ms[i].2])/\H b=some (.tup (ms[i].1.map V.str))
theorem MV.tk {xs:List V} {ms:List (List Str×Str)} (h:MV H xs ms) (s:Tk H H'):MV H' xs ms:=⟨h.len,fun i a b=>let ⟨c,d,h1,h2,h3⟩:=h.at_ i a b;⟨c,d,h1,s _ _ h2,s _ _ h3⟩⟩
theorem MV.nil:MV H [] []:=⟨rfl,fun i h=>absurd h (by simp)⟩
theorem MV.snoc {xs:List V} {ms:List (List Str×Str)} (h:MV H xs ms) {c:Addr} {m:List Str×Str} (e1:H c=some (.tup [.ref b,.str m.2])) (e2:H b=some (.tup (m.1.map V.str))):MV H (xs++[.ref c]) (ms++[m]):=by
 have hl:=h.len
 refine ⟨by simp [hl],fun i h1 h2=>?_⟩
 by_cases au:i < xs.length
 ·rw [Qe au,Qe (by omega)]
  exact h.at_ i au (by omega)
 ·have e:i=xs.length:=by simp at h1;omega
  subst e
  rw [Qf (Qz _),Qf (by omega)]
  simp only [Nat.sub_self,hl,List.getElem_cons_zero]
  exact ⟨c,b,rfl,e1,e2⟩
def endOf (rows:List ak) (x:Str):Str:=fq (iz rows) rows.length x
def bq (rows:List ak) (x:Str):List (List Str×Str):=(aq rows (endOf rows x)).bc.map fun m=>(m.1,endOf rows m.2)
theorem RT.A4 {H:Hp} {a:Addr} {xs:List V} {rows:List ak} {ns ws:List Str} (rt:RT H a xs rows ns ws) (hw:∀ z∈ws,Wd z) {x:Str} (hx:x∈ns):endOf rows x∈ns/\(aq rows (endOf rows x)).nx=none/\(aq rows (endOf rows x)).ok ns:=by
 obtain ⟨rs,g,nm,rl,hv⟩:=rt.good hw
 have hm:∀ z,z∈ns↔z∈rs.map (·.1):=fun z=>by rw [nm];exact rt.nm.mem_iff.symm
 obtain ⟨h1,h2⟩:=g.A4 ((hm x).mp hx)
 rw [rl] at h1 h2
 refine ⟨(hm _).mpr h1,h2,?_⟩
 have h3:endOf rows x∈rows.map (·.1):=by rw [<- nm];exact h1
 obtain ⟨r,hr,e⟩:=List.mem_map.mp h3
 rw [<- e,fL rt.jn hr]
 exact (rt.ok r hr).2
structure EV (K:Q1) (t:Addr×Obj×List V):Prop where
 lk:K.lookup t.1=some t.2.1
 ok:∃ (its:List Value) (n:Nat),t.2.1.cls=.type "tuple"/\t.2.1.dict=none/\t.2.1.data=.seq its.toArray n/\az t.2.2 its/\t.2.2.length<=sizeLine
def without (K:Q1) (as:List Addr):Q1:=K.filter fun p=> !as.contains p.1
theorem cX {as:List Addr} {b:Addr}:∀ {K:Q1},(without K as).lookup b=if as.contains b=true then none else K.lookup b
 | []=>by unfold without;simp
 | (c,o)::K=>by
  have ih:=cX (as:=as) (b:=b) (K:=K)
  unfold without at ih ⊢
  rw [List.filter_cons]
  by_cases hc:as.contains c=true
  ·have h0:¬(!as.contains (c,o).1)=true:=by show ¬(!as.contains c)=true;rw [hc];decide
   rw [if_neg h0,ih]
   by_cases hb:as.contains b=true
   ·rw [if_pos hb,if_pos hb]
   ·have n:(b==c)=false:=by
     cases e:b==c with
     | false=>rfl
     | true=>rw [eq_of_beq e] at hb;exact absurd hc hb
    rw [if_neg hb,if_neg hb,List.lookup_cons,n]
  ·have h0:(!as.contains (c,o).1)=true:=by
    show (!as.contains c)=true
    cases q:as.contains c with
    | true=>exact absurd q hc
    | false=>rfl
   rw [if_pos h0,List.lookup_cons,List.lookup_cons,ih]
   cases e:b==c with
   | true=>
    have:¬as.contains b=true:=by rw [eq_of_beq e];exact hc
    show some o=if as.contains b=true then none else some o
    rw [if_neg this]
   | false=>rfl
def MJ (H:Hp):Prop:=∀ b,H b=none\/∃ o u,H b=some (.ae o u)
def jg (ts:List (Addr×Obj×List V)) (G:Hp):Hp:=fun b=>match ts.find? fun t=>decide (t.1=b) with
 | some t=>some (.ae t.2.1 (.tup t.2.2))
 | none=>G b
theorem zT {ts:List (Addr×Obj×List V)} {G:Hp} {t:Addr×Obj×List V} (h:t∈ts) (nd:(ts.map (·.1)).Nodup):jg ts G t.1=some (.ae t.2.1 (.tup t.2.2)):=by
 induction ts with
 | nil=>cases h
 | cons a ts ih=>
  unfold jg
  rw [List.find?_cons]
  rw [List.map_cons,List.nodup_cons] at nd
  by_cases e:a.1=t.1
  ·rw [Qw e]
   rcases Qp.mp h with rfl | h
   ·rfl
   ·exact absurd (List.mem_map.mpr ⟨t,h,e.symm⟩) nd.1
  ·rw [Qx e]
   rcases Qp.mp h with rfl | h
   ·exact absurd rfl e
   ·exact ih h nd.2
theorem eA {ts:List (Addr×Obj×List V)} {G:Hp}:(∃ t∈ts,t.1=b/\jg ts G b=some (.ae t.2.1 (.tup t.2.2)))\/((∀ t∈ts,t.1≠b)/\jg ts G b=G b):=by
 unfold jg
 cases q:ts.find? fun t=>decide (t.1=b) with
 | some t=>
  have h1:=List.mem_of_find?_eq_some q
  have h2:=List.find?_some q
  exact .inl ⟨t,h1,Qt h2,rfl⟩
 | none=>
  refine .inr ⟨fun t ht e=>?_,rfl⟩
  have:=List.find?_eq_none.mp q t ht
  simp [e] at this
theorem uS {K:Q1} {mb:Str->Option Value} {CX:w_} {k:Nat} {fa:Addr} {s₁:Shared} {vs:List Value} {ns:List Int} {ts:List (Addr×Obj×List V)}
  (xu:∀ t∈ts,EV K t) (nd:(ts.map (·.1)).Nodup)
  (KX:K.In s₁.heap) (MK:s₁.heap.Ns mainGlobals mg) (hb:s₁.heap.Ns builtinsNs mb) (Vo:∀ x:Str,x≠"__name__"->mb x=bootBuiltins x) (Vp:s₁.heap.NoLimit) (hg:s₁.gens=#[])
  (ha:s₁.heap.get? a=some {cls:=.type "list",data:=.seq vs.toArray}) (hi:IntsAre vs ns) (hl:ns.length<=sizeLine) (hr:di k callerA)
  (F:∀ base:Heap,(without K (ts.map (·.1))).In base->base.Ns mainGlobals mg->mz P w (without K (ts.map (·.1))) mg base CX k fa fd [x] sp) (Vq:∀ (s:Shared) (u:Value),BindsTo s fd ⟨[u],[]⟩ [(x,u)])
  (AQ:∀ H:Hp,MJ H->(∀ t∈ts,H t.1=some (.ae t.2.1 (.tup t.2.2)))->af (without K (ts.map (·.1))) H a (ns.map V.int)->sp [.ref a] H (fun v _=>v=.bl true) fun _ _ _=>False)
  (Vr:∀ H e s',CX [] H s₁ (fun _ _ _=>False) e s'->False):
  codeAny (model P w) callerA (.call (.ref fa) ⟨[.ref a],[]⟩) (fun r s'=>r=.ok (.ret (.bool true))/\OldK s₁.heap s'.heap/\s'.os=s₁.os/\AllBare s'.gens) s₁:=by
 have rv:=mT hi
 have Vs:=hi.length
 have IX:∀ t∈ts,s₁.heap.get? t.1=some t.2.1:=fun t ht=>KX _ _ (xu t ht).lk
 have ML:∀ t∈ts,t.1≠a:=fun t ht e=>by
  obtain ⟨its,n,h1,_⟩:=(xu t ht).ok
  have:=IX t ht
  rw [e,ha] at this
  rw [<- QE this] at h1
  injection h1 with h2
  exact absurd h2 (by decide)
 have core:∀ G:Hp,(∀ b,G b≠none->b=a)->(G a≠none->K.lookup a=none)->(∀ b,G b=none\/∃ o u,G b=some (.ae o u))->af (without K (ts.map (·.1))) (jg ts G) a (ns.map V.int)->(∀ u,G a=some u->∀ H,bg P w H s₁.heap a u)->
   codeAny (model P w) callerA (.call (.ref fa) ⟨[.ref a],[]⟩) (fun r s'=>r=.ok (.ret (.bool true))/\OldK s₁.heap s'.heap/\s'.os=s₁.os/\AllBare s'.gens) s₁:=by
  intro G hG hK hF hS hO
  have lg:∀ b,jg ts G b≠none->b=a\/∃ t∈ts,t.1=b:=fun b q=>by
   rcases eA (ts:=ts) (G:=G) (b:=b) with ⟨t,ht,e,_⟩ | ⟨_,e⟩
   ·exact .inr ⟨t,ht,e⟩
   ·rw [e] at q;exact .inl (hG b q)
  have ae:MJ (jg ts G):=fun b=>by
   rcases eA (ts:=ts) (G:=G) (b:=b) with ⟨t,ht,e,q⟩ | ⟨_,q⟩
   ·exact .inr ⟨_,_,q⟩
   ·rw [q];exact hF b
  have hok:fg P w (jg ts G) s₁.heap:=fun b u q=>by
   rcases eA (ts:=ts) (G:=G) (b:=b) with ⟨t,ht,e,q'⟩ | ⟨_,q'⟩
   ·rw [q'] at q
    cases q
    obtain ⟨its,n,h1,h2,h3,h4,h5⟩:=(xu t ht).ok
    have o1:=IX t ht
    rw [e] at o1
    exact ⟨o1,⟨h5,fun o z=>by rw [o1] at z;cases z;exact h2⟩,its,h4,t.2.1,o1,h1,n,h3⟩
   ·rw [q'] at q
    have e:=hG b (by rw [q];simp)
    subst e
    exact hO u q _
  have MM:∀ {b:Addr} {o:Obj},s₁.heap.get? b=some o->jg ts G b=none->(zz s₁.heap (jg ts G)).get? b=some o:=fun e n=>zJ e n
  have Et:∀ {b:Addr} {o:Obj} {es:Array DictEntry} {ep:Nat},s₁.heap.get? b=some o->o.data=.dict es ep->jg ts G b=none:=fun {b o es ep} e d=>by
   cases q:jg ts G b with
   | none=>rfl
   | some u=>
    rcases lg b (by rw [q];simp) with z | ⟨t,ht,z⟩
    ·subst z
     rw [ha] at e;cases e
     cases d
    ·have o1:=IX t ht
     rw [z,e] at o1
     cases o1
     obtain ⟨its,n,h1,h2,h3,_⟩:=(xu t ht).ok
     rw [d] at h3;cases h3
  have GF:∀ {b:Addr} {m:Str->Option Value},s₁.heap.Ns b m->(zz s₁.heap (jg ts G)).Ns b m:=fun {b m} ⟨o,es,ep,e,d,r⟩=>⟨o,es,ep,MM e (Et e d),d,r⟩
  have MN:(without K (ts.map (·.1))).In (zz s₁.heap (jg ts G)):=fun b o e=>by
   rw [cX] at e
   by_cases hc:(ts.map (·.1)).contains b=true
   ·rw [if_pos hc] at e;cases e
   ·rw [if_neg hc] at e
    refine MM (KX b o e) ?_
    cases q:jg ts G b with
    | none=>rfl
    | some u=>
     rcases eA (ts:=ts) (G:=G) (b:=b) with ⟨t,ht,z,_⟩ | ⟨_,q'⟩
     ·exact absurd (by rw [List.contains_iff_mem];exact List.mem_map.mpr ⟨t,ht,z⟩) hc
     ·rw [q'] at q
      have z:=hG b (by rw [q];simp)
      subst z
      rw [hK (by rw [q];simp)] at e;cases e
  have hM:Mod (without K (ts.map (·.1))) mg (zz s₁.heap (jg ts G)):=⟨MN,GF MK,⟨mb,GF hb,Vo⟩,let ⟨mc,h1,h2⟩:=Vp;⟨mc,GF h1,h2⟩⟩
  have e0:BS P w (without K (ts.map (·.1))) mg (zz s₁.heap (jg ts G)) callerA [] s₁ (jg ts G):=⟨rfl,hM,fun b o e=>Rg e,Nat.le_of_eq (vQ _ _),trivial,fun b hb=>absurd (show b∈([]:List Addr) from hb) (by simp),hok,.of_eq hg⟩
  refine codeAny_mono ((F _ MN (GF MK)).run callerA [] s₁ (jg ts G) ⟨[.ref a],[]⟩ [.ref a] [.ref a] _ _ hr e0 (Vq s₁ (.ref a)) (.cons rfl .nil) (AQ (jg ts G) ae (fun t ht=>zT ht nd) hS)) fun r s' h=>?_
  cases r with
  | error e=>exact (Vr _ e s' h).elim
  | ok fl=>
   cases fl with
   | next=>exact False.elim h
   | brk=>exact False.elim h
   | cont=>exact False.elim h
   | ret u=>
    obtain ⟨v,H',os,bare,un,IY,r',q⟩:=h
    have q':v=.bl true:=q
    subst q'
    obtain rfl:u=Value.bool true:=r'
    refine ⟨rfl,OldK.of_keep fun b o e=>?_,os,bare⟩
    cases q:jg ts G b with
    | none=>exact un.keep b o e q (by intro z;exact absurd (show b∈([]:List Addr) from z) (by simp)) (by simp)
    | some u=>
     rcases ae b with z | ⟨ob,u',z⟩
     ·rw [q] at z;cases z
     ·have z2:=un.ue b ob _ z
      obtain ⟨e1,_⟩:=hok b _ z
      obtain ⟨e2,_⟩:=IY b _ z2
      rw [e] at e1;cases e1
      exact e2
 have Vt:¬(ts.map (·.1)).contains a=true:=fun h=>by
  rw [List.contains_iff_mem] at h
  obtain ⟨t,ht,e⟩:=List.mem_map.mp h
  exact ML t ht e
 have Vu:∀ G:Hp,jg ts G a=G a:=fun G=>by
  rcases eA (ts:=ts) (G:=G) (b:=a) with ⟨t,ht,e,_⟩ | ⟨_,q⟩
  ·exact absurd e (ML t ht)
  ·exact q
 cases hk:K.lookup a with
 | some o=>
  have e:=KX a o hk
  rw [ha] at e
  cases e
  exact core (fun _=>none) (fun b z=>absurd rfl z) (fun z=>absurd rfl z) (fun _=>.inl rfl) (.inr ⟨_,vs.toArray,_,by rw [cX,if_neg Vt];exact hk,rfl,rfl,rfl,by rw [List.size_toArray,Vs];exact hl,by simpa using rv⟩) fun u z=>by cases z
 | none=>
  refine core (fun b=>if b=a then some (.ae {cls:=.type "list",data:=.seq vs.toArray} (.lst (ns.map V.int))) else none) (fun b z=>?_) (fun _=>hk) (fun b=>?_) (.inl (.inr ⟨{cls:=.type "list",data:=.seq vs.toArray},by rw [Vu];exact if_pos rfl⟩)) fun u z H=>?_
  ·by_cases hb:b=a
   ·exact hb
   ·exact absurd (if_neg hb) z
  ·by_cases hb:b=a
   ·exact .inr ⟨_,_,if_pos hb⟩
   ·exact .inl (if_neg hb)
  ·have z':=(if_pos rfl).symm.trans z
   cases z'
   exact ⟨ha,by rw [Ql];exact hl,vs,_,rv,ha⟩
def adr (mg:Str->Option Value) (x:Str):Addr:=match mg x with
 | some (.ref a)=>a
 | _=>0
theorem Vv (h:mg x=some (.ref a)):RelV (.ref (adr mg x)) (.ref a):=by
 unfold adr
 rw [h]
 exact rfl
def Kn (mg:Str->Option Value) (H:Hp) (x:Str) (ys:List V):Prop:=∃ o,H (adr mg x)=some (.ae o (.tup ys))
theorem Kn.same {ys:List V} (h:Kn mg H x ys) (s:aa H H'):Kn mg H' x ys:=let ⟨o,e⟩:=h;⟨o,s _ _ e⟩
theorem Kn.rd {ys:List V} (h:Kn mg H x ys):be H (adr mg x) ys:=.inr h
theorem be.same {ys:List V} (h:be H b ys) (s:aa H H'):be H' b ys:=h.imp (fun e=>s _ _ e) fun ⟨o,e⟩=>⟨o,s _ _ e⟩
structure SV (H:Hp) (xs:List V) (ss:List (List Str)):Prop where
 len:xs.length=ss.length
 at_:∀ i (h:i < xs.length) (h':i < ss.length),∃ b,xs[i]=.ref b/\be H b (ss[i].map V.str)
theorem SV.keep {xs:List V} (h:SV H xs ss) (s:∀ b ys,be H b ys->be H' b ys):SV H' xs ss:=⟨h.len,fun i a b=>let ⟨c,h1,h2⟩:=h.at_ i a b;⟨c,h1,s _ _ h2⟩⟩
theorem SV.nil:SV H [] []:=⟨rfl,fun i h=>absurd h (by simp)⟩
theorem SV.snoc {xs:List V} (h:SV H xs ss) {m:List Str} (e:be H b (m.map V.str)):SV H (xs++[.ref b]) (ss++[m]):=by
 have hl:=h.len
 refine ⟨by simp [hl],fun i h1 h2=>?_⟩
 by_cases au:i < xs.length
 ·rw [Qe au,Qe (by omega)]
  exact h.at_ i au (by omega)
 ·have e':i=xs.length:=by simp at h1;omega
  subst e'
  rw [Qf (Qz _),Qf (by omega)]
  simp only [Nat.sub_self,hl,List.getElem_cons_zero]
  exact ⟨b,rfl,e⟩
section
variable {iter kx vx:Expr} {pos:Pos} {tk tw:TE}
def MO (own:List Str) (idx:List Nat) (wi:TI) (g:TG) (tc:TC) (tk tw:TE):TE:=fun σ H Q=>wi σ H fun J H1=>∀ D,H1 D=none->∃ W:Nat->Nat->St->Hp->Prop,(∃ m,W 0 m (uh own idx σ) (upd H1 D (.dT [])))/\∀ i m τ H,W i m τ H->
 (J.stop i H/\Q (.ref D) H)\/(J.go i H/\∃ N:St->Hp->Prop,(∀ τ' H',N τ' H'->∃ m',m' < m/\W (i+1) m' τ' H')/\∀ x H',J.lj i H x H'->g x τ H' fun τ2 H2=>tc τ2 H2 fun b H3=>
  if b=true then tk τ2 H3 fun x H4=>tw τ2 H4 fun y H5=>∃ kvs key b,x=.ref b/\be H5 b (key.map kV)/\H5 D=some (.dT kvs)/\kvs.length < sizeLine/\N τ2 (upd H5 D (.dT (putK kvs key y))) else N τ2 H3)
theorem nV (S:o_ X.env.scope X.N sc own idx N') {cl:List (Str×Addr)} (c1:∀ x c,cl.lookup x=some c->X.env.cells.lookup x=some c) (c2:∀ y∈sc.names,y.2=.free->∃ c,cl.lookup y.1=some c) (hc:X.calm=true) (hu:X.A.units < cLine)
  (hg:∀ cl C s3 H0 fp pn,PG (bz X N' sc cl C s3 H0 fp pn) tg g) (ht:∀ cl C s3 H0 fp pn,uq (bz X N' sc cl C s3 H0 fp pn) ifs tc) (he:∀ cl C s3 H0 fp pn,PE (bz X N' sc cl C s3 H0 fp pn) kx tk) (hv:∀ cl C s3 H0 fp pn,PE (bz X N' sc cl C s3 H0 fp pn) vx tw)
  {pins:List (Addr×Obj)} {σ:St} {Q:VK} {ow:Value} {s2:Shared} {RR:Value->Addr->Result->Shared->Prop} {E:Value->Shared->Prop}
  (hI:CY X pins σ tg (fun J H1=>∀ D,H1 D=none->∃ W:Nat->Nat->St->Hp->Prop,(∃ m,W 0 m (uh own idx σ) (upd H1 D (.dT [])))/\∀ i m τ H,W i m τ H->
   (J.stop i H/\Q (.ref D) H)\/(J.go i H/\∃ N:St->Hp->Prop,(∀ τ' H',N τ' H'->∃ m',m' < m/\W (i+1) m' τ' H')/\∀ x H',J.lj i H x H'->g x τ H' fun τ2 H2=>tc τ2 H2 fun b H3=>
    if b=true then tk τ2 H3 fun x H4=>tw τ2 H4 fun y H5=>∃ kvs key b,x=.ref b/\be H5 b (key.map kV)/\H5 D=some (.dT kvs)/\kvs.length < sizeLine/\N τ2 (upd H5 D (.dT (putK kvs key y))) else N τ2 H3)) ow s2)
  (Ez:∀ D C H' s',Inv X pins σ H' s'->Q (.ref D) H'->(H' C=none/\C≠X.env.locals/\X.s₀.heap.objs.size<=C/\(∀ x c,X.env.cells.lookup x=some c->c≠C)/\(∀ p∈X.pn++pins,p.1≠C)/\∃ m,s'.heap.Ns C m)->RR (.ref D) C (.ok .next) s'):
  wpAny (model X.prog X.w) X.A newDict (fun acc s₃=>wpAny (model X.prog X.w) X.A (newFunctionEnv sc X.env.globals cl [] X.env.qual none .none (some X.env)) (fun cenv s₄=>
   codeAny (model X.prog X.w) X.A (.compStart (.DictComp kx vx [⟨tg,iter,ifs,0⟩] sc pos) 0 ow acc {cenv with scope:=relabel sc X.env}) (RR acc cenv.locals) s₄) E s₃) E s2:=by
 obtain ⟨it,fp,tn,J,H2,rfl,I,T,fu,f2,body⟩:=hI
 refine wpAny_newObj_type (wpAny_newFunctionEnv S.cell (by intro y hy;simp at hy) (fun h4 ns sb=>?_) S.kind)
 dsimp only at ns sb ⊢
 have xn:jm.isFreed=false:=rfl
 have fr:H2 s2.heap.objs.size=none:=I.hok.fresh (Qz _)
 obtain ⟨W,⟨m0,w0⟩,turn⟩:=body _ fr
 have um:∀ b∈fp,∃ o,s2.heap.get? b=some o:=fun b hb=>let ⟨o,e,_⟩:=T.obj _ _ fu b hb;⟨o,e⟩
 have vg:∀ b o,(s2.heap.push jm).get? b=some o->h4.get? b=some o:=fun b o e=>(sb.2 b (Nat.ne_of_lt (QA e))).trans (Qc _ e)
 have EA:∀ (H:Hp) (h:Heap),h.get? s2.heap.objs.size=some jm->bg X.prog X.w H h s2.heap.objs.size (.dT []):=fun H h e=>⟨Nat.zero_le _,beq_eq_false_iff_ne.mpr (Ne.symm (Nat.ne_of_lt I.big)),[],.nil,_,#[],0,e,⟨rfl,rfl,rfl⟩,rfl,rfl,List.nodup_nil⟩
 have I4:Inv (bz X N' sc cl (s2.heap.push jm).objs.size {s2 with heap:=s2.heap.push jm} (upd H2 s2.heap.objs.size (.dT [])) fp (X.pn++pins)) [] (uh own idx σ) (upd H2 s2.heap.objs.size (.dT [])) {s2 with heap:=h4,toks:=s2.toks+([]:List (Str×Value)).length}:=
  kX S I f2 um c1 c2 xn EA ns vg
 -- C1 Mf own context
 generalize hY:bz X N' sc cl (s2.heap.push jm).objs.size {s2 with heap:=s2.heap.push jm} (upd H2 s2.heap.objs.size (.dT [])) fp (X.pn++pins)=Y at I4
 have EB:PG Y tg g:=by rw [<- hY];exact hg _ _ _ _ _ _
 have EC:uq Y ifs tc:=by rw [<- hY];exact ht _ _ _ _ _ _
 have ED:PE Y kx tk:=by rw [<- hY];exact he _ _ _ _ _ _
 have IG:PE Y vx tw:=by rw [<- hY];exact hv _ _ _ _ _ _
 have pY:Y.prog=X.prog:=by rw [<- hY]
 have wY:Y.w=X.w:=by rw [<- hY]
 have KY:Y.K=X.K:=by rw [<- hY]
 have AY:Y.A=X.A:=by rw [<- hY]
 have cY:Y.calm=true:=by rw [<- hY];exact hc
 have xY:Y.xe=fun _ _=>False:=by rw [<- hY]
 have eY:Y.env=compEnvC sc cl (s2.heap.push jm).objs.size X.env:=by rw [<- hY]
 have EE:Y.ex=fp:=by rw [<- hY]
 have EF:Y.fs=mi X.stack:=by rw [<- hY]
 have EG:Y.pn=X.pn++pins:=by rw [<- hY]
 have qp:∀ {H':Hp},(∀ b∈fp,H' b=none)->∀ b∈fp,qo Y [] H' b:=fun hn b hb=>by
  obtain ⟨f0,f1,f3,f4,f5,f6⟩:=f2 b hb
  refine ⟨hn b hb,?_,?_,.inl (by rw [EE];exact hb),fun x c e=>?_,fun p hp=>?_⟩
  ·obtain ⟨o,e⟩:=um b hb
   have:=QA e
   rw [eY]
   show b≠(s2.heap.push jm).objs.size
   rw [Heap.size_push];exact Nat.ne_of_lt (Nat.lt_succ_of_lt this)
  ·rw [EF]
   intro z
   rcases Qp.mp (I.BI b z) with z | z
   ·exact f1 z
   ·exact f3 z
  ·rw [eY] at e
   exact f5 x c (c1 x c e)
  ·rw [EG,QS] at hp
   exact f6 p hp
 have A0:tn 0 h4:=T.keep _ _ _ fu fun b hb o e=>vg b o (Qc _ e)
 have Aj:∀ b∈fp,upd H2 s2.heap.objs.size (.dT []) b=none:=fun b hb=>by
  obtain ⟨o,e⟩:=um b hb
  rw [aB (Nat.ne_of_lt (QA e))]
  exact (f2 b hb).1
 have loop:codeAny (model X.prog X.w) X.A (.compLoop (.DictComp kx vx [⟨tg,iter,ifs,0⟩] sc pos) 0 (.ref it) (.ref s2.heap.objs.size) (compEnvC sc cl (s2.heap.push jm).objs.size X.env))
   (RR (.ref s2.heap.objs.size) (s2.heap.push jm).objs.size) {s2 with heap:=h4,toks:=s2.toks+([]:List (Str×Value)).length}:=by
  refine Mq (fun n s'=>∃ i τ H',Inv Y [] τ H' s'/\tn i s'.heap/\(∀ b∈fp,H' b=none)/\W i n τ H') ?_ m0 ⟨0,_,_,I4,A0,Aj,w0⟩
  rintro n s3 ⟨i,τ3,H3,I3,wz,mj,w3⟩
  rcases turn i n τ3 H3 w3 with ⟨stop,qn⟩ | ⟨go,N,hN,step⟩
  ·have h:=T.done Y pY wY KY cY i [] s3 τ3 H3 ki I3 (qp mj) wz stop
   rw [AY] at h
   refine ao h ?_
   rintro r s4 ⟨hr,EH⟩
   subst hr
   have J4:=EH
   rw [<- hY] at J4
   obtain ⟨b1,b2⟩:=jK I f2 xn J4
   exact Ez _ _ _ _ b1 qn b2
  ·have h:=T.item Y pY wY KY cY i [] s3 τ3 H3 ki I3 (qp mj) wz go
   rw [AY] at h
   refine ao h ?_
   rintro r s4 ⟨u,hr,EI⟩
   subst hr
   refine ao EI ?_
   rintro _ s5 ⟨x,H5,I5,r5,y5,qt,BL⟩
   have BN:=I5.pinned (qp BL) (T.obj _ _ qt)
   have g5:=EB _ s5 τ3 H5 x u _ BN r5 (step x H5 y5)
   rw [pY,wY,AY,xY,eY] at g5
   refine ao g5 ?_
   rintro _ s6 ⟨τ6,H6,I6,q6⟩
   have t6:=EC _ s6 τ6 H6 _ I6 q6
   rw [pY,wY,AY,xY,eY] at t6
   refine ao t6 ?_
   rintro ok s7 ⟨H7,I7,q7⟩
   have again:∀ {τ8:St} {H8:Hp} {s8:Shared},Inv Y ([]++BK fp s5.heap) τ8 H8 s8->N τ8 H8->∃ m,m < n/\∃ i τ' H',Inv Y [] τ' H' s8/\tn i s8.heap/\(∀ b∈fp,H' b=none)/\W i m τ' H':=fun {τ8 H8 s8} I8 n8=>by
    obtain ⟨m',hm,w8⟩:=hN τ8 H8 n8
    refine ⟨m',hm,i+1,τ8,H8,I8.C0,T.keep _ _ _ qt fun b hb o e=>(I8.pin (b,o) (List.mem_append_right _ (List.mem_append_right _ (cI hb e)))).1,fun b hb=>?_,w8⟩
    obtain ⟨o,e,d⟩:=T.obj _ _ qt b hb
    exact (I8.pin (b,o) (List.mem_append_right _ (List.mem_append_right _ (cI hb e)))).2.1
   cases ok with
   | false=>
    rw [if_neg (by decide)] at q7 ⊢
    exact again I7 q7
   | true=>
    rw [if_pos rfl] at q7 ⊢
    have e7:=ED _ s7 τ6 H7 _ I7 q7
    rw [pY,wY,AY,xY,eY] at e7
    refine ao e7 ?_
    rintro kv s8 ⟨x8,H8,I8,r8,q8⟩
    have v8:=IG _ s8 τ6 H8 _ I8 q8
    rw [pY,wY,AY,xY,eY] at v8
    refine ao v8 ?_
    rintro yv s9 ⟨y9,H9,I9,r9,kvs,key,b9,ek,eb,Dd,hz,n9⟩
    subst ek
    cases (show kv=Value.ref b9 from r8)
    obtain ⟨z,hd,xs,rel,dd⟩:=yA I9.hok Dd
    have B4:xs.length<=sizeLine:=by rw [<- Paired.length rel];exact z
    have c_:(putK kvs key y9).length<=sizeLine:=by have:=bT kvs key y9;omega
    have MP:=iH I9.hok eb
    rw [pY,wY] at dd MP
    refine wpAny_dictSet_heap (hsz:=B4) hu MP dd fun h' ia hs=>?_
    rw [<- pY,<- wY] at ia
    obtain ⟨q,es,ep,hq,h2,h3,h4,_,h5⟩:=ia
    have De:=dR (t':=s9.toks+(tupleKind (cg X.prog X.w)).draws key) (ob:=.dT (putK kvs key y9)) I9 (by rw [Dd];exact True.intro) hs ⟨q,hq⟩ ⟨c_,hd,_,(rel.put key eb r9).keeps fun c ys ec=>ec.upd fun u hu z=>by subst z;rcases ec with ec | ⟨_,ec⟩<;>(rw [Dd] at ec;cases ec),q,es,ep,hq,h2,h3,h4,h5⟩
    exact again De n9
 exact codeAny_compStart_dict loop (T.self _ 0 _ _ _ A0 loop)
theorem Vw (S:o_ X.env.scope X.N sc own idx N') (hc:X.calm=true) (hu:X.A.units < cLine) (hi:PI X tg iter wi)
  (hg:∀ cl C s3 H0 fp pn,PG (bz X N' sc cl C s3 H0 fp pn) tg g) (ht:∀ cl C s3 H0 fp pn,uq (bz X N' sc cl C s3 H0 fp pn) ifs tc) (he:∀ cl C s3 H0 fp pn,PE (bz X N' sc cl C s3 H0 fp pn) kx tk) (hv:∀ cl C s3 H0 fp pn,PE (bz X N' sc cl C s3 H0 fp pn) vx tw)
  (hs:∀ x,foldedSetIterable iter X.env x=pure x:=by intro _;rfl):PE X (.DictComp kx vx [⟨tg,iter,ifs,0⟩] sc pos) (MO own idx wi g tc tk tw):=by
 intro pins s σ H Q I h
 obtain ⟨cl,pe,c1,c2⟩:=S.closure I.ok
 show wpAny _ X.A (comprehension (.DictComp kx vx [⟨tg,iter,ifs,0⟩] sc pos) sc X.env _ newDict false (eval iter X.env)) _ _ s
 refine wpAny_comprehension_free (use:=none) rfl hs pe S.kind S.names (ao (hi pins s σ H _ I h) fun v s1 h1=>ao h1 fun ow s2 h2=>?_)
 refine nV (Q:=Q) (pins:=pins) (σ:=σ) (RR:=fun acc C=>compPost (model X.prog X.w) X.A X.xe none (EP X pins σ Q) acc C) S c1 c2 hc hu hg ht he hv h2 ?_
 intro D C H' s' I' q ⟨a1,a2,a3,a4,a5,m,a6⟩
 exact ⟨m,a6,fun h' sb=>⟨.ref D,H',I'.turned (t':=s'.toks) (fun b o hb e=>(sb.2 b hb).trans e) a1 (Ne.symm (Ne.symm a2)) (.inr a3) a4 a5,rfl,q⟩⟩
theorem Vx (S:o_ X.env.scope X.N sc own idx N') (hc:X.calm=true) (hu:X.A.units < cLine) (hi:SI X tg iter wi)
  (hg:∀ cl C s3 H0 fp pn,SG (bz X N' sc cl C s3 H0 fp pn) tg g) (ht:∀ cl C s3 H0 fp pn,SC (bz X N' sc cl C s3 H0 fp pn) ifs tc) (he:∀ cl C s3 H0 fp pn,SE (bz X N' sc cl C s3 H0 fp pn) kx tk) (hv:∀ cl C s3 H0 fp pn,SE (bz X N' sc cl C s3 H0 fp pn) vx tw)
  (hs:∀ x,foldedSetIterable iter X.env x=pure x:=by intro _;rfl):SE X (.DictComp kx vx [⟨tg,iter,ifs,0⟩] sc pos) (MO own idx wi g tc tk tw):=
 ⟨Vw S hc hu hi.h (fun q r s t u v=>(hg q r s t u v).h) (fun q r s t u v=>(ht q r s t u v).h) (fun q r s t u v=>(he q r s t u v).h) (fun q r s t u v=>(hv q r s t u v).h) hs⟩
end
def Cd (K:Q1) (mg:Str->Option Value) (x q:Str) (st:Stmt) (ps fs:List Str) (C:Addr):Prop:=
 mg x=some (.ref C)/\qx K C/\(∀ f∈fs,yt K C f)/\∃ (f:Addr) (fd:FuncData),Mk K C f/\Ah K "__init__" q st f fd/\Binds K fd ps []
def Ce (P:Program) (w:World) (K:Q1) (mg:Str->Option Value) (base:Heap) (k:Nat) (x:Str) (C:Addr) (ps:List Str) (sp:Sp):Prop:=
 mg x=some (.ref C)/\∃ (f:Addr) (fd:FuncData),Mk K C f/\mz P w K mg base xj k f fd ps sp/\Binds K fd ps []
section
variable {o value:Expr} {tv:TE} {t:TA} {f:Str} {pos pos' p:Pos} {k:Nat}
theorem cN (K:Q1) (he:SE X e te) (h:X.K=K:=by rfl) (hb:attributeBase e f X.env (eval e X.env)=eval e X.env:=by rfl):SE X (.Attribute e f pos) (LV K te f):=by subst h;exact ⟨Sq he.h hb⟩
theorem jV (K:Q1) (ha:SE X o ta) (hv:SE X value tv) (h:X.K=K:=by rfl) (hs:swapsWith value (some (.Attribute o f pos')) pos.line X.env=pure false:=by rfl):SS X (.Assign [.Attribute o f pos'] value pos) (Gd K ta tv f):=by subst h;exact ⟨Ss ha.h hv.h hs⟩
theorem Vy (F:Ce X.prog X.w X.K X.mg X.base k x C ps sp) (hr:di (k+1) X.A) (ha:SA X (e::es) t) (hg:Gl X x:=by rfl) (jr:(x==("__debug__":Str))=false:=by decide)
  (he:starEach (e::es) X.env=(false,eval e X.env)::starEach es X.env:=by rfl) (gf:(backTo pos (starEach es X.env)).any (·.1)=false:=by rfl):
  SE X (.Call (.Name x p) (e::es) [] pos) (Ge C sp [] E0 t):=by
 obtain ⟨m,f,fd,M,G,b⟩:=F
 exact ⟨SH M G hr hg m b .nil Ex ha.h jr he gf⟩
end
theorem Cd.gg {K:Q1} {q:Str} {st:Stmt} {fs:List Str} {k:Nat} (F:Cd K mg x q st ps fs C) (S:ee N ps (a_ st)) (len:∀ vs H Q E,sp vs H Q E->vs.length=ps.length)
  (xf:∀ (f:Addr) (ay:Value) (A:Around) (outer:List Env) (s:Shared) (H:Hp) (vs:List V) (Q:VK) (E:XK),di k (A.deeper (envOfC q (a_ st) s.heap.objs.size f ay))->sp vs H Q E->
   ∃ t,SB (yu xj P w K mg base N q (a_ st) f ay A outer s H E).AL (jj st) t/\t {nx:=fun _ H'=>Q .ai H',rt:=Q} (start N vs) H):Ce P w K mg base (k+1) x C ps sp:=by
 obtain ⟨m,_,_,f,fd,M,Fu,b⟩:=F
 exact ⟨m,f,fd,M,Fu.ok S len fun ay A outer s H vs Q E hr h=>let ⟨t,h1,h2⟩:=xf f ay A outer s H vs Q E hr h;⟨t,h1.h,h2⟩,b⟩
theorem Inv.Vz {kvs:List (List Key×V)} (I:Inv X pins σ H s) (h:Rd H a (.dT kvs)):∃ o,Inv X pins σ (upd H a (.ae o (.dT kvs))) s:=by
 rcases h with h | ⟨o,h⟩
 ·have ok:=(show bg X.prog X.w H s.heap a (.dT kvs) from I.hok a _ h)
  obtain ⟨z,hd,xs,rel,o,es,ep,h1,h2,h3,h4,h5⟩:=ok
  refine ⟨o,I.write (x:=a) (e:=a) (h':=s.heap) (t':=s.toks) (o:=.ae o (.dT kvs)) (by rw [h];exact True.intro) (.inl rfl) (fun b u _ q=>q) ⟨o,h1⟩ ⟨h1,z,hd,xs,?_,o,es,ep,h1,h2,h3,h4,h5⟩⟩
  exact (show KT H kvs xs from rel).keeps fun c ys ec=>ec.upd fun u hu z=>by subst z;rcases ec with ec | ⟨_,ec⟩<;>(rw [h] at ec;cases ec)
 ·exact ⟨o,by rw [iY h];exact I⟩
def VA (te:TE):TE:=fun σ H Q=>te σ H fun x H1=>∃ a,x=.ref a/\((∃ kvs,Rd H1 a (.dK kvs)/\∀ o,Q x (upd H1 a (.ae o (.dK kvs))))\/∃ kvs,Rd H1 a (.dT kvs)/\∀ o,Q x (upd H1 a (.ae o (.dT kvs))))
theorem lK (he:SE X e te):SE X e (VA te):=by
 constructor
 intro pins s σ H Q I h
 refine ao (he.h pins s σ H _ I h) ?_
 rintro v s1 ⟨x,H1,I1,r1,a,ex,q⟩
 rcases q with ⟨kvs,hr,q⟩ | ⟨kvs,hr,q⟩
 ·obtain ⟨o,es,ep,hd,I2,ho⟩:=I1.freeze hr
  exact ⟨x,_,I2,r1,q o⟩
 ·obtain ⟨o,I2⟩:=I1.Vz hr
  exact ⟨x,_,I2,r1,q o⟩
def valAt (kvs:List (Key×V)) (i:Nat):V:=((kvs[i]?).map fun kv=>kv.2).getD .ai
def EW (a:Addr) (o:Obj) (kvs:List (Key×V)):It:=⟨fun i H=>H a=some (.ae o (.dK kvs))/\i < kvs.length,fun i H x H'=>EN (pq kvs i) (valAt kvs i) H x H',fun i H=>H a=some (.ae o (.dK kvs))/\kvs.length=i⟩
theorem mV (kvs:List (Key×V)):EO (EW a o kvs) (fun H=>H a=some (.ae o (.dK kvs))) kvs.length (pq kvs) (valAt kvs):=fun H ok=>⟨fun i hi=>⟨⟨ok,hi⟩,fun x H' h=>h⟩,ok,rfl⟩
theorem kQ {kvs:List (Key×V)} (r:KV kvs vs):∀ {i:Nat} {p:Key×V},kvs[i]? =some p->∃ q,vs[i]? =some q/\q.1=p.1/\RelV p.2 q.2:=by
 intro i
 induction r generalizing i with
 | nil=>intro p h;simp at h
 | cons a t ih=>
  intro p h
  cases i with
  | zero=>simp at h;subst h;exact ⟨_,by simp,a.1.symm,a.2⟩
  | succ i=>simp at h;simpa using ih h
theorem tI {K:Q1} {k:Nat} {pos:Pos} {kvs:List (Key×V)} (VB:a≠it) (nu:∃ es,o.data=.dict es ep):
  Turn P w K (.Tuple BA k pos) (EW a o kvs) [it] it (fun i h=>∃ ok ov,IsItemIter h it a i kvs.length ep ok ov) where
 mem:=by simp
 obj:=fun i h st b hb=>by
  have e:b=it:=by simpa using hb
  subst e
  obtain ⟨ok,ov,he⟩:=st
  exact ⟨_,he,fun v z=>by
   have z':Data.fields _=Data.cell v:=z
   cases z'⟩
 keep:=fun i h h' st k=>let ⟨ok,ov,he⟩:=st;⟨ok,ov,k it (by simp) _ he⟩
 item:=by
  intro X hP hw hK hc i pins s σ H E I hf st hg
  subst hP hw hK
  obtain ⟨ok,ov,he⟩:=st
  obtain ⟨hq,hi⟩:=hg
  obtain ⟨e,z,hd,vs,rel,ob,es,lh,h1,h2,h3,h4⟩:=(show bg X.prog X.w H s.heap a (.ae o (.dK kvs)) from I.hok a _ hq)
  obtain ⟨es',e_⟩:=nu
  rw [e] at h1;cases h1
  rw [e_] at h3;injection h3 with ii ik
  subst ii ik
  obtain ⟨q,ly,nq,Cf⟩:=kQ rel (Qa hi)
  have hl:=rel.len
  obtain ⟨qk,qv⟩:=q
  refine wpAny_pyNext_items_item (knd:=cg X.prog X.w) (kvs:=vs) (ep:=ep) (ok:=ok) (ov:=ov) (by rw [<- hl];exact he) ⟨o,es',e,h2,e_,h4⟩ ly fun key h' hk ho hT hsz IZ=>?_
  have rk:RelV (pq kvs i) key:=by
   unfold pq
   rw [Qa hi]
   show RelV (kV kvs[i].1) key
   have IS:qk=kvs[i].1:=nq
   rw [<- IS]
   exact pR hk
  have rv:RelV (valAt kvs i) qv:=by
   unfold valAt
   rw [Qa hi]
   exact Cf
  have I1:Inv X pins σ (upd H s.heap.objs.size (.tup [pq kvs i,valAt kvs i])) {s with heap:=h'}:=I.IK (t':=s.toks) hf (fun b o hb e=>IZ b o (fun z=>hb (by simp [z])) e) (Qz _) (o9 rk rv hT)
  refine ⟨_,rfl,wpAny_letOwnedTupleGo_items (s:={s with heap:=h'}) ho fun Dg I0 sb=>?_⟩
  have au:it≠s.heap.objs.size:=Nat.ne_of_lt (QA he)
  obtain ⟨f0,f1,f2,f3,f4,f5⟩:=hf it (by simp)
  have EX:upd H s.heap.objs.size (.tup [pq kvs i,valAt kvs i]) it=none:=by rw [aB au];exact f0
  refine ⟨.ref s.heap.objs.size,_,I1.turned (t':=s.toks) (fun b o hb q=>(sb.2 b hb).trans q) EX f1 f3 f4 f5,rfl,⟨_,rfl,I.hok.fresh (Qz _),rfl⟩,⟨_,_,by rw [hl];exact I0⟩,fun b hb=>?_⟩
  have e:b=it:=by simpa using hb
  subst e
  exact EX
 done:=by
  intro X hP hw hK hc i pins s σ H E I hf st hg
  subst hP hw hK
  obtain ⟨ok,ov,he⟩:=st
  obtain ⟨hq,hi⟩:=hg
  obtain ⟨e,z,hd,vs,rel,ob,es,lh,h1,h2,h3,h4⟩:=(show bg X.prog X.w H s.heap a (.ae o (.dK kvs)) from I.hok a _ hq)
  obtain ⟨es',e_⟩:=nu
  rw [e] at h1;cases h1
  rw [e_] at h3;injection h3 with ii ik
  subst ii ik
  have hl:=rel.len
  obtain ⟨f0,f1,f2,f3,f4,f5⟩:=hf it (by simp)
  exact wpAny_pyNext_items_end (knd:=cg X.prog X.w) (kvs:=vs) (ep:=ep) (ok:=ok) (ov:=ov) (I.ok.hd hc) (by rw [<- hl];exact he) ⟨o,es',e,h2,e_,h4⟩ (by simp;omega) fun h' eb=>⟨rfl,I.turned (t':=s.toks) (fun b o hb e=>eb b o hb e) f0 f1 f3 f4 f5⟩
 self:=fun _ _ _ _ _ st h=>let ⟨_,_,he⟩:=st;PySem.W.kcp_self he h
section
variable {k:Nat} {vf:Pos} {o:Expr}
def VC (te:TE):TI:=fun σ H R=>te σ H fun x H1=>∃ a kvs,x=.ref a/\((∃ o,H1 a=some (.ae o (.dK kvs))/\R (EW a o kvs) H1)\/(H1 a=some (.dK kvs)/\∀ o,R (EW a o kvs) (upd H1 a (.ae o (.dK kvs)))))
theorem qM (ho:SE X o to) (jt:attributeBase o "items" X.env (eval o X.env)=eval o X.env:=by rfl) (ju:(apos.endLine==cpos.line)=true:=by rfl):
  SI X (.Tuple BA k vf) (.Call (.Attribute o "items" apos) [] [] cpos) (VC to):=by
 constructor
 intro pins s σ H R I h
 refine wpAny_Call_method0_late jt ju (ao (ho.h pins s σ H _ I h) ?_)
 rintro v s1 ⟨x,H1,I1,r1,a,kvs,ex,hr⟩
 subst ex
 cases r1
 obtain ⟨o,H2,I2,I_,q⟩:∃ (o:Obj) (H2:Hp),Inv X pins σ H2 s1/\H2 a=some (.ae o (.dK kvs))/\R (EW a o kvs) H2:=by
  rcases hr with ⟨o,e,q⟩ | ⟨e,q⟩
  ·exact ⟨o,H1,I1,e,q⟩
  ·obtain ⟨o,_,_,_,I2,_⟩:=I1.freeze (.inl e)
   exact ⟨o,_,I2,aA,q o⟩
 obtain ⟨e,z,ur,vs,rel,ob,es,ep,h1,h2,hd,h4⟩:=(show bg X.prog X.w _ s1.heap a (.ae o (.dK kvs)) from I2.hok a _ I_)
 rw [e] at h1;cases h1
 have hl:=rel.len
 have hT:s1.TypeIs (.ref a) "dict":=⟨o,e,h2.1⟩
 refine ⟨"dict","dict.items",PySem.F.plainAttrs_dict,PySem.F.slot_dict_items,PySem.F.type_dict_items,hT,fun b hb=>by cases hb;exact ⟨o,e,h2.2.1⟩,Calls.callWith_builtin rfl (PySem.evalArgs_none ?_)⟩
 refine call_meetsIn PySem.F.slot_dict_items hT PySem.F.entry_dict_items (PySem.F.args_dict_items_1 _) (meets_dict_items (cg X.prog X.w) a ur) ⟨⟨vs,o,es,ep,e,h2,hd,h4⟩,?_⟩
 have I3:Inv X pins σ H2 {s1 with heap:=s1.heap.push {cls:=.type "dict_items",data:=.fields #[.ref a]}}:=I2.kept (t':=s1.toks) fun b o e=>Qc _ e
 refine wpAny_pyIter_items (knd:=cg X.prog X.w) (kvs:=vs) (ep:=ep) ⟨_,Qd _ rfl,rfl,rfl⟩ ⟨o,es,Qc _ e,h2,hd,h4⟩ ?_
 have gr:a≠(s1.heap.push {cls:=.type "dict_items",data:=.fields #[.ref a]}).objs.size:=by
  rw [Heap.size_push];exact Nat.ne_of_lt (Nat.lt_succ_of_lt (QA e))
 refine ⟨_,[(s1.heap.push {cls:=.type "dict_items",data:=.fields #[.ref a]}).objs.size],_,_,_,rfl,I3.kept (t':=s1.toks) fun b o e=>Qc _ e,tI (kvs:=kvs) (a:=a) (o:=o) gr ⟨es,hd⟩,⟨.none,.none,by rw [hl];exact Qd _ rfl⟩,fun b hb=>?_,q⟩
 have e:b=(s1.heap.push {cls:=.type "dict_items",data:=.fields #[.ref a]}).objs.size:=by simpa using hb
 subst e
 exact I3.ve (Qz _) (I3.hok.fresh (Qz _))
end
end L2
namespace PySem
end PySem
namespace L2
open PySem PySem.Spec PyProof.Rows
theorem be.inj {xs ys:List V} (h:be H a xs) (h':be H a ys):xs=ys:=by
 rcases h with h | ⟨o,h⟩<;>rcases h' with h' | ⟨o',h'⟩<;>(rw [h] at h';cases h')<;>rfl
theorem m7 {xs ys:List Str} (h:xs.map V.str=ys.map V.str):xs=ys:=by
 induction xs generalizing ys with
 | nil=>cases ys with
  | nil=>rfl
  | cons y ys=>simp at h
 | cons x xs ih=>cases ys with
  | nil=>simp at h
  | cons y ys=>
   simp only [List.map_cons,List.cons.injEq,V.str.injEq] at h
   rw [h.1,ih h.2]
theorem rW (xs ys:List Str):((List.range (min xs.length ys.length)).all (fun j=>xs.getD j ""==ys.getD j "")&&xs.length==ys.length)=decide (xs=ys):=by
 by_cases h:xs=ys
 ·subst h;simp
 ·rw [Qx h,Bool.and_eq_false_iff]
  by_cases hl:xs.length=ys.length
  ·left
   rw [Bool.eq_false_iff]
   intro C8
   apply h
   refine List.ext_getElem hl fun i h1 h2=>?_
   have:=List.all_eq_true.mp C8 i (by simp;omega)
   simpa [Qb,Qa h1,Qa h2] using this
  ·right;simpa using hl
theorem tU (I:Inv X pins σ H s) {xs ys:List Str} (h1:be H a (xs.map V.str)) (h2:be H b (ys.map V.str)) (hu:A.units+2 < cLine):SeqAt.EqAt A s (.ref a) (.ref b) (decide (xs=ys)):=by
 by_cases jk:a=b
 ·subst jk
  have e:xs=ys:=m7 (h1.inj h2)
  rw [Qw e]
  exact SeqAt.EqAt.same _
 ·obtain ⟨i1,r1,p1,_⟩:=I.tuple (.inl h1)
  obtain ⟨i2,r2,p2,_⟩:=I.tuple (.inl h2)
  have l1:=r1.length
  have l2:=r2.length
  rw [Ql] at l1 l2
  have:=SeqAt.RcAt.tuples (A:=A) (e:=fun j=>xs.getD j ""==ys.getD j "") p1 p2 (by omega) fun j g1 g2=>by
   have k1:j < xs.length:=by simp at g1;omega
   have k2:j < ys.length:=by simp at g2;omega
   obtain ⟨w1,e1,q1⟩:=r1.get (i:=j) (x:=.str xs[j]) (by simp [k1])
   obtain ⟨w2,e2,q2⟩:=r2.get (i:=j) (x:=.str ys[j]) (by simp [k2])
   have m1:i1.toArray[j]=w1:=by rw [Qa (by simpa using g1)] at e1;simpa using e1
   have m2:i2.toArray[j]=w2:=by rw [Qa (by simpa using g2)] at e2;simpa using e2
   rw [m1,m2]
   obtain ⟨t,rfl⟩:=q1
   obtain ⟨t',rfl⟩:=q2
   have:=SeqAt.EqAt.str_str (A:=A.in1) (s:=s) xs[j] t ys[j] t'
   simpa [Qb,Qa k1,Qa k2] using this
  have e:((List.range (min i1.toArray.size i2.toArray.size)).all (fun j=>xs.getD j ""==ys.getD j "")&&i1.toArray.size==i2.toArray.size)=decide (xs=ys):=by
   rw [<- rW xs ys];simp only [List.size_toArray,<- l1,<- l2]
  rw [e] at this
  exact SeqAt.EqAt.of_refs jk this
section
variable {o:Expr} {t:TA}
end
theorem fY {a0:Expr} {n:Str} {jl:Pos} {t:TA} (ha:SE X (.Attribute a0 n jl) te) (hr:SA X es t):SA X (.Attribute a0 n jl::es) (gu te t):=⟨dC ha.h hr.h⟩
theorem VD {K:Q1} {it:Array Value} {sq:Array (Option Value)} {xs:List V} (gl:K.lookup a=some ⟨.type "tuple",none,.seq it n,sq⟩) (gv:az xs it.toList) (gz:xs.length<=sizeLine):EV K (a,⟨.type "tuple",none,.seq it n,sq⟩,xs):=
 ⟨gl,it.toList,n,rfl,rfl,by simp,gv,gz⟩
theorem rS {K:Q1} {as:List Addr} (x:K.In h):(without K as).In h:=fun a o e=>by
 rw [cX] at e
 by_cases hc:as.contains a=true
 ·rw [if_pos hc] at e;cases e
 ·rw [if_neg hc] at e;exact x a o e
end L2
set_option autoImplicit false
namespace L2
open PySem PySem.Spec PySem.W PyProof.Rows
def Ja:Data->Bool
 | .freed=>false
 | _=>true
def Ci:Nat->List Obj->Frag
 | _,[]=>[]
 | n,o::os=>if Ja o.data then (n,o)::Ci (n+1) os else Ci (n+1) os
def Jb (h:Heap):Frag:=Ci 0 h.objs.toList
theorem fZ:∀ {os:List Obj} {n a:Nat} {o:Obj},(Ci n os).lookup a=some o->n<=a/\os[a - n]? =some o/\Ja o.data=true
 | [],n,a,o,h=>by simp [Ci] at h
 | x::os,n,a,o,h=>by
  unfold Ci at h
  have next:(Ci (n+1) os).lookup a=some o->n<=a/\(x::os)[a - n]? =some o/\Ja o.data=true:=fun h=>by
   obtain ⟨h1,h2,h3⟩:=fZ h
   refine ⟨by omega,?_,h3⟩
   obtain ⟨k,hk⟩:∃ k,a - n=k+1:=⟨a - n - 1,by omega⟩
   rw [hk,List.getElem?_cons_succ,<- h2]
   congr 1;omega
  split at h
  ·rename_i hf
   rw [List.lookup_cons] at h
   split at h
   ·rename_i e
    obtain rfl:a=n:=by simpa using e
    cases h
    exact ⟨Qz _,by simp,hf⟩
   ·exact next h
  ·exact next h
theorem sH (h:Heap):(Jb h).In h:=fun a o e=>by
 obtain ⟨_,h2,h3⟩:=fZ e
 have uo:h.objs[a]? =some o:=by rw [<- Array.getElem?_toList];simpa using h2
 unfold Heap.get?
 rw [uo]
 obtain ⟨c,d,dt,sl⟩:=o
 cases dt<;>first | rfl | cases h3
def xw {α:Type} (look:Frag->α) (want:World->α):Hook where
 α:=α
 obs s:=look (Jb s.heap)
 val:=want
 says w h:=∃ K:Frag,K.In h/\look K=want w
 of:=fun w s e=>⟨Jb s.heap,sH _,e⟩
 keeps:=fun w h h' ⟨K,x,e⟩ k=>⟨K,fun a o l=>k a o (x a o l),e⟩
theorem yR {p q:Program} {loose:List Str} {Xt:Shared->Bool} {Yf:Shared->α} {Ya:World->α} {N:Nat} {g0:Bool} (row:String)
  (hF:∀ w:World,(openEnds treeTable p (w.withFollow row false) N).map (fun s=>(openSeen q loose (importedModules p.main.body) Xt g0 s,Yf s))=some (openGood q loose,Ya (w.withFollow row false)))
  (hT:∀ w:World,(openEnds treeTable p (w.withFollow row true) N).map (fun s=>(openSeen q loose (importedModules p.main.body) Xt g0 s,Yf s))=some (openGood q loose,Ya (w.withFollow row true))):LeftO p q loose Xt Yf Ya N g0:=fun w=>by
 have e:=World.withFollow_self w row
 cases hb:w.params.followText row<;>rw [hb] at e
 ·have:=hF w;rw [e] at this;exact this
 ·have:=hT w;rw [e] at this;exact this
abbrev A6:=Str×Str×Arguments×FuncBody×Scope×Addr×List (Str×Addr)×Value×Addr×Bool
def fnAt (K:Frag) (q:Str):Option (Option Value)->Option A6
 | some (some (.ref f))=>(match K.lookup f with
  | some ⟨_,_,.func fd,_⟩=>some (fd.name,fd.qualname,fd.params,fd.body,fd.scope,fd.globals,fd.closure,fd.defaults,fd.builtins,codeIn K fd.code q)
  | _=>none)
 | _=>none
def A7 (x q:Str) (st:Stmt):A6:=(x,q,ni st,.stmts (jj st),a_ st,mainGlobals,[],.none,builtinsNs,true)
def A8 (K:Frag):List (Str×Stmt)->List (Option A6)
 | []=>[]
 | x::l=>fnAt K x.1 (nsIn K mainGlobals x.1)::A8 K l
def A9:List (Str×Stmt)->List (Option A6)
 | []=>[]
 | x::l=>some (A7 x.1 x.1 x.2)::A9 l
def VE (K:Frag) (x:Str):Option V:=match nsIn K mainGlobals x with
 | some (some v)=>Ab v
 | _=>none
def MQ (K:Frag):List (Str×V)->List (Option V)
 | []=>[]
 | x::l=>VE K x.1::MQ K l
def MR:List (Str×V)->List (Option V)
 | []=>[]
 | x::l=>some x.2::MR l
abbrev Dm:=Value×Option Addr×List (Option V)
def GG:List Value->List (Option V)
 | []=>[]
 | v::l=>Ab v::GG l
def GH:List V->List (Option V)
 | []=>[]
 | v::l=>some v::GH l
def EY (K:Frag):Value->Option Dm
 | .ref a=>(match K.lookup a with
  | some ⟨c,d,.seq it _,_⟩=>some (c,d,GG it.toList)
  | _=>none)
 | _=>none
def Am (xs:List V):Dm:=(.type "tuple",none,GH xs)
def EZ (K:Frag) (x:Str):Option Dm:=match nsIn K mainGlobals x with
 | some (some v)=>EY K v
 | _=>none
def A_ (K:Frag):List (Str×List V)->List (Option Dm)
 | []=>[]
 | x::l=>EZ K x.1::A_ K l
def Ba:List (Str×List V)->List (Option Dm)
 | []=>[]
 | x::l=>some (Am x.2)::Ba l
def Dn (K:Frag):List Str->Bool
 | []=>true
 | x::l=>(match nsIn K mainGlobals x with | some none=>true | _=>false)&&Dn K l
section
variable {K:Frag}
theorem iO {v:Value} {x:V} (e:Ab v=some x):RelV x v:=by
 cases v<;>first | (cases e;first | rfl | exact ⟨_,rfl⟩) | cases e
theorem mP:∀ {us:List Value} {xs:List V},GG us=GH xs->az xs us
 | [],[],_=>.nil
 | [],_::_,e=>by cases e
 | _::_,[],e=>by cases e
 | u::us,x::xs,e=>by
  have e':=List.cons.inj (show Ab u::GG us=some x::GH xs from e)
  exact .cons (iO e'.1) (mP e'.2)
theorem nW {q:Str} {st:Stmt} {v:Option (Option Value)} (e:fnAt K q v=some (A7 x q st)):∃ f fd,v=some (some (.ref f))/\Ah K x q st f fd:=by
 unfold fnAt at e
 split at e
 ·rename_i f
  split at e
  ·rename_i oc od fd qy hl
   have e:=QE e
   unfold A7 at e
   obtain ⟨n,qn,ps,b,sc,gl,cl,df,kd,doc,pm,an,cd,ct,bt⟩:=fd
   simp only [Prod.mk.injEq] at e
   obtain ⟨rfl,rfl,rfl,rfl,rfl,rfl,rfl,rfl,rfl,hc⟩:=e
   refine ⟨f,_,rfl,TN hl hc ?_⟩
   unfold keepIn
   simp only [hl]
  ·cases e
 ·cases e
theorem tN:∀ {l:List (Str×Stmt)},A8 K l=A9 l->∀ (i:Nat) {x:Str} {st:Stmt},l[i]? =some (x,st)->fnAt K x (nsIn K mainGlobals x)=some (A7 x x st)
 | y::l,e,0,x,st,h=>by cases h;exact (List.cons.inj e).1
 | y::l,e,i+1,x,st,h=>tN (List.cons.inj e).2 i (by simpa using h)
theorem oC (X:K.In h) (G:h.Ns mainGlobals mg) {l:List (Str×Stmt)} (e:A8 K l=A9 l) (i:Nat) {st:Stmt} (hi:l[i]? =some (x,st))
  (hb:∀ (kV doc pm:Value) (an:Option Addr) (ay ct:Value) (us:List Value),us.length=ps.length->bindArgs (fnOf x x (ni st) (jj st) (a_ st) .none kV doc pm an ay ct) ⟨us,[]⟩=pure (ps.zip us)):fz K mg x st ps:=by
 obtain ⟨f,fd,e1,F⟩:=nW (tN e i hi)
 exact ⟨f,fd,F,mg_of X G e1,F.binds hb⟩
variable {st:Stmt} {l:List (Str×Stmt)} {p0 p1 p2 p3 p4 p5 p6:Str}
theorem su (h:us.length=n+1):∃ a t,us=a::t/\t.length=n:=by
 cases us with
 | nil=>cases h
 | cons a t=>exact ⟨a,t,rfl,by simpa using h⟩
theorem Cj (X:K.In h) (G:h.Ns mainGlobals mg) (e:A8 K l=A9 l) (i:Nat) (hi:l[i]? =some (x,st):=by rfl)
  (hb:∀ (kV doc pm:Value) (an:Option Addr) (ay ct a0:Value),bindArgs (fnOf x x (ni st) (jj st) (a_ st) .none kV doc pm an ay ct) ⟨[a0],[]⟩=pure [(p0,a0)]:=by intros;rfl):fz K mg x st [p0]:=
 oC X G e i hi fun a b c d f g us hl=>by
  obtain ⟨a0,Dp,rfl,gp⟩:=su (n:=0) hl
  obtain rfl:=QT gp
  exact hb ..
theorem vm (X:K.In h) (G:h.Ns mainGlobals mg) (e:A8 K l=A9 l) (i:Nat) (hi:l[i]? =some (x,st):=by rfl)
  (hb:∀ (kV doc pm:Value) (an:Option Addr) (ay ct a0 a1:Value),bindArgs (fnOf x x (ni st) (jj st) (a_ st) .none kV doc pm an ay ct) ⟨[a0,a1],[]⟩=pure [(p0,a0),(p1,a1)]:=by intros;rfl):fz K mg x st [p0,p1]:=
 oC X G e i hi fun a b c d f g us hl=>by
  obtain ⟨a0,Dp,rfl,gp⟩:=su (n:=1) hl
  obtain ⟨a1,E2,rfl,fj⟩:=su (n:=0) gp
  obtain rfl:=QT fj
  exact hb ..
theorem MS (X:K.In h) (G:h.Ns mainGlobals mg) (e:A8 K l=A9 l) (i:Nat) (hi:l[i]? =some (x,st):=by rfl)
  (hb:∀ (kV doc pm:Value) (an:Option Addr) (ay ct a0 a1 a2:Value),bindArgs (fnOf x x (ni st) (jj st) (a_ st) .none kV doc pm an ay ct) ⟨[a0,a1,a2],[]⟩=pure [(p0,a0),(p1,a1),(p2,a2)]:=by intros;rfl):fz K mg x st [p0,p1,p2]:=
 oC X G e i hi fun a b c d f g us hl=>by
  obtain ⟨a0,Dp,rfl,gp⟩:=su (n:=2) hl
  obtain ⟨a1,E2,rfl,fj⟩:=su (n:=1) gp
  obtain ⟨a2,kj,rfl,Af⟩:=su (n:=0) fj
  obtain rfl:=QT Af
  exact hb ..
theorem VF (X:K.In h) (G:h.Ns mainGlobals mg) (e:A8 K l=A9 l) (i:Nat) (hi:l[i]? =some (x,st):=by rfl)
  (hb:∀ (kV doc pm:Value) (an:Option Addr) (ay ct a0 a1 a2 a3:Value),bindArgs (fnOf x x (ni st) (jj st) (a_ st) .none kV doc pm an ay ct) ⟨[a0,a1,a2,a3],[]⟩=pure [(p0,a0),(p1,a1),(p2,a2),(p3,a3)]:=by intros;rfl):fz K mg x st [p0,p1,p2,p3]:=
 oC X G e i hi fun a b c d f g us hl=>by
  obtain ⟨a0,Dp,rfl,gp⟩:=su (n:=3) hl
  obtain ⟨a1,E2,rfl,fj⟩:=su (n:=2) gp
  obtain ⟨a2,kj,rfl,Af⟩:=su (n:=1) fj
  obtain ⟨a3,zc,rfl,VG⟩:=su (n:=0) Af
  obtain rfl:=QT VG
  exact hb ..
theorem qK {v:Value} {xs:List V} (e:EY K v=some (Am xs)):∃ (a:Addr) (it:Array Value) (n:Nat) (sq:Array (Option Value)),v=.ref a/\K.lookup a=some ⟨.type "tuple",none,.seq it n,sq⟩/\az xs it.toList:=by
 unfold EY at e
 split at e
 ·rename_i a
  split at e
  ·rename_i c d it n sl hl
   have e:=QE e
   unfold Am at e
   simp only [Prod.mk.injEq] at e
   obtain ⟨rfl,rfl,e3⟩:=e
   exact ⟨a,it,n,sl,rfl,hl,mP e3⟩
  ·cases e
 ·cases e
theorem iG {xs:List V} (e:EZ K x=some (Am xs)):∃ (a:Addr) (it:Array Value) (n:Nat) (sq:Array (Option Value)),nsIn K mainGlobals x=some (some (.ref a))/\K.lookup a=some ⟨.type "tuple",none,.seq it n,sq⟩/\az xs it.toList:=by
 unfold EZ at e
 split at e
 ·rename_i u hn
  obtain ⟨a,it,n,sq,rfl,h1,h2⟩:=qK e
  exact ⟨a,it,n,sq,hn,h1,h2⟩
 ·cases e
theorem lJ:∀ {l:List (Str×List V)},A_ K l=Ba l->∀ (i:Nat) {x:Str} {v:List V},l[i]? =some (x,v)->EZ K x=some (Am v)
 | y::l,e,0,x,st,h=>by cases h;exact (List.cons.inj e).1
 | y::l,e,i+1,x,st,h=>lJ (List.cons.inj e).2 i (by simpa using h)
theorem zL {it:Array Value} {d:Option Addr} {sq:Array (Option Value)} {xs:List V} (hl:K.lookup a=some ⟨.type "tuple",d,.seq it n,sq⟩) (hv:az xs it.toList) (hz:xs.length<=sizeLine) (H:Hp):aj K H a xs:=
 .inr ⟨_,it,n,hl,rfl,rfl,by have:=hv.length;simp at this;omega,hv⟩
theorem tu (X:K.In h) (G:h.Ns mainGlobals mg) {l:List (Str×List V)} (e:A_ K l=Ba l) (i:Nat) {v:List V} (hi:l[i]? =some (x,v):=by rfl) (hz:v.length<=sizeLine:=by decide):∃ a,mg x=some (.ref a)/\∀ H,aj K H a v:=by
 obtain ⟨a,it,n,sq,h1,h2,h3⟩:=iG (lJ e i hi)
 exact ⟨a,mg_of X G h1,zL h2 h3 hz⟩
theorem oZ:∀ {l:List Str},Dn K l=true->∀ (i:Nat) {x:Str},l[i]? =some x->nsIn K mainGlobals x=some none
 | y::l,e,0,x,h=>by
  cases h
  unfold Dn at e
  rw [Bool.and_eq_true_iff] at e
  have e:=e.1
  split at e
  ·assumption
  ·cases e
 | y::l,e,i+1,x,h=>by
  unfold Dn at e
  rw [Bool.and_eq_true_iff] at e
  exact oZ e.2 i (by simpa using h)
theorem nn (X:K.In h) (G:h.Ns mainGlobals mg) {l:List Str} (e:Dn K l=true) (i:Nat) (hi:l[i]? =some x:=by rfl):mg x=none:=mg_none_of X G (oZ e i hi)
end
inductive Dq where
 | v (x:Option V)
 | t (x:Option Dm)
abbrev GI:=Value×Option Addr×Nat×Bool×List (Int×Option V×Dq)
def E3 (K:Frag) (v:Value):Dq:=match v with
 | .ref _=>.t (EY K v)
 | _=>.v (Ab v)
def E4 (K:Frag):List DictEntry->List (Int×Option V×Dq)
 | []=>[]
 | e::l=>(e.hash,Ab e.key,E3 K e.val)::E4 K l
def GJ (K:Frag) (x:Str):Option GI:=match nsIn K mainGlobals x with
 | some (some (.ref a))=>(match K.lookup a with
  | some ⟨c,d,.dict es _,sl⟩=>some (c,d,sl.size,a==sysModules,E4 K es.toList)
  | _=>none)
 | _=>none
abbrev sy:=Str×(V ⊕ List V)
def Dr (w:World):List sy->List (Int×Option V×Dq)
 | []=>[]
 | (k,.inl v)::l=>(zy w (.inr k),some (.str k),.v (some v))::Dr w l
 | (k,.inr v)::l=>(zy w (.inr k),some (.str k),.t (some (Am v)))::Dr w l
def GK (w:World) (l:List sy):GI:=(.type "dict",none,0,false,Dr w l)
def Jc (K:Frag):List (Str×List sy)->List (Option GI)
 | []=>[]
 | x::l=>GJ K x.1::Jc K l
def Jd (w:World):List (Str×List sy)->List (Option GI)
 | []=>[]
 | x::l=>some (GK w x.2)::Jd w l
def Bb (K:Frag):List sy->List V->Prop
 | [],[]=>True
 | (_,.inl v)::l,u::us=>u=v/\Bb K l us
 | (_,.inr xs)::l,u::us=>(∃ a,u=.ref a/\∀ H,aj K H a xs)/\Bb K l us
 | _,_=>False
def Je:List sy->List V->List (Key×V)
 | e::l,u::us=>(.inr e.1,u)::Je l us
 | _,_=>[]
def E5:List sy->Bool
 | []=>true
 | (_,.inl _)::l=>E5 l
 | (_,.inr xs)::l=>decide (xs.length<=1000)&&E5 l
section
variable {K:Frag}
theorem jN:∀ {l:List sy},E5 l=true->∀ e∈l,∀ xs,e.2=.inr xs->xs.length<=sizeLine
 | (_,.inl _)::l,h,e,he,xs,hx=>by
  rcases Qp.mp he with rfl | he
  ·cases hx
  ·exact jN (l:=l) h e he xs hx
 | (_,.inr ys)::l,h,e,he,xs,hx=>by
  unfold E5 at h
  rw [Bool.and_eq_true_iff,decide_eq_true_iff] at h
  rcases Qp.mp he with rfl | he
  ·cases hx;exact Nat.le_trans h.1 (by decide)
  ·exact jN (l:=l) h.2 e he xs hx
theorem MT {k:Str} {v:V} {l:List sy} {us:List V} (e:Bb K ((k,.inl v)::l) us):∃ vs,us=v::vs/\Bb K l vs:=by
 cases us with
 | nil=>exact False.elim e
 | cons u vs=>obtain ⟨rfl,r⟩:=(show u=v/\Bb K l vs from e);exact ⟨vs,rfl,r⟩
theorem VH {us:List V} (e:Bb K [] us):us=[]:=by
 cases us with
 | nil=>rfl
 | cons u vs=>exact False.elim e
theorem nN:∀ {l:List sy} {es:List DictEntry},E4 K es=Dr w l->(∀ e∈l,∀ xs,e.2=.inr xs->xs.length<=sizeLine)->∃ (us:List V) (vs:List (Key×Value)),Bb K l us/\(∀ P,Pairs (cg P w) es vs)/\(∀ P,∀ e∈es,∃ k,(cg P w).is k e.key=true/\e.hash=(cg P w).hash k)/\KV (Je l us) vs/\vs.map (·.1)=l.map (fun e=>.inr e.1)
 | [],[],_,_=>⟨[],[],trivial,fun _=>.nil,(fun _ _ h=>nomatch h),.nil,rfl⟩
 | [],_::_,e,_=>by cases e
 | (_,.inl _)::_,[],e,_=>by cases e
 | (_,.inr _)::_,[],e,_=>by cases e
 | (k,.inl v)::l,d::es,e,hz=>by
  have e':=List.cons.inj (show (d.hash,Ab d.key,E3 K d.val)::E4 K es=(zy w (.inr k),some (.str k),.v (some v))::Dr w l from e)
  obtain ⟨us,vs,h1,h2,h3,h4,h5⟩:=nN e'.2 fun x hx=>hz x (Qh _ hx)
  have e1:=e'.1
  simp only [Prod.mk.injEq] at e1
  obtain ⟨q1,q2,q3⟩:=e1
  obtain ⟨t,q2⟩:=iO q2
  have q4:RelV v d.val:=by
   unfold E3 at q3
   split at q3
   ·cases q3
   ·exact iO (Dq.v.inj q3)
  have hk:∀ P,(cg P w).is (.inr k) d.key=true:=fun P=>by rw [q2];exact eQ P w k t
  refine ⟨v::us,(.inr k,d.val)::vs,⟨rfl,h1⟩,fun P=>.cons (kv:=((Sum.inr k,d.val):Key×Value)) (hk P) rfl (h2 P),fun P y hy=>?_,.cons ⟨rfl,q4⟩ h4,by simp [h5]⟩
  rcases Qp.mp hy with rfl | hy
  ·exact ⟨.inr k,hk P,q1⟩
  ·exact h3 P y hy
 | (k,.inr xs)::l,d::es,e,hz=>by
  have e':=List.cons.inj (show (d.hash,Ab d.key,E3 K d.val)::E4 K es=(zy w (.inr k),some (.str k),.t (some (Am xs)))::Dr w l from e)
  obtain ⟨us,vs,h1,h2,h3,h4,h5⟩:=nN e'.2 fun x hx=>hz x (Qh _ hx)
  have e1:=e'.1
  simp only [Prod.mk.injEq] at e1
  obtain ⟨q1,q2,q3⟩:=e1
  obtain ⟨t,q2⟩:=iO q2
  have q4:EY K d.val=some (Am xs):=by
   unfold E3 at q3
   split at q3
   ·exact Dq.t.inj q3
   ·cases q3
  obtain ⟨a,it,n,sq,q5,q6,q7⟩:=qK q4
  have hk:∀ P,(cg P w).is (.inr k) d.key=true:=fun P=>by rw [q2];exact eQ P w k t
  refine ⟨.ref a::us,(.inr k,d.val)::vs,⟨⟨a,rfl,zL q6 q7 (hz _ (List.mem_cons_self ..) xs rfl)⟩,h1⟩,fun P=>.cons (kv:=((Sum.inr k,d.val):Key×Value)) (hk P) rfl (h2 P),fun P y hy=>?_,.cons ⟨rfl,by rw [q5];rfl⟩ h4,by simp [h5]⟩
  rcases Qp.mp hy with rfl | hy
  ·exact ⟨.inr k,hk P,q1⟩
  ·exact h3 P y hy
theorem VI {l:List sy} (X:K.In h) (G:h.Ns mainGlobals mg) (e:GJ K x=some (GK w l)) (IV:E5 l=true) (nd:(l.map (·.1)).Nodup):∃ (a:Addr) (us:List V),mg x=some (.ref a)/\Bb K l us/\KD w K a (Je l us):=by
 have hz:=jN IV
 unfold GJ at e
 split at e
 ·rename_i a hn
  split at e
  ·rename_i c d es ep sl hl
   have e:=QE e
   unfold GK at e
   simp only [Prod.mk.injEq] at e
   obtain ⟨rfl,rfl,e3,e4,e5⟩:=e
   obtain ⟨us,vs,h1,h2,h3,h4,h5⟩:=nN e5 hz
   refine ⟨a,us,mg_of X G hn,h1,fun P=>⟨_,es,ep,vs,hl,e4,⟨rfl,rfl,Array.eq_empty_of_size_eq_zero e3⟩,rfl,fun y hy=>h3 P y (by simpa using hy),h2 P,?_,h4⟩⟩
   rw [h5]
   have:l.map (fun e=>(Sum.inr e.1:Key))=(l.map (·.1)).map Sum.inr:=by simp
   rw [this]
   exact List.Pairwise.map _ (fun a b q c=>q (Sum.inr.inj c)) nd
  ·cases e
 ·cases e
theorem pN:∀ {l:List (Str×List sy)},Jc K l=Jd w l->∀ (i:Nat) {x:Str} {v:List sy},l[i]? =some (x,v)->GJ K x=some (GK w v)
 | y::l,e,0,x,st,h=>by cases h;exact (List.cons.inj e).1
 | y::l,e,i+1,x,st,h=>pN (List.cons.inj e).2 i (by simpa using h)
end
abbrev MU:List Str:=["type","isinstance","issubclass","getattr","hasattr"]
theorem zY {l:OpenLaw} {p:Program} (hp:l.prog=p)
 (a0:sreFenced p.main=true) (a1:((moduleNames p.main.body).isEmpty||lookedIntoSs (moduleNames p.main.body) p.main.body)=true)
 (a2:namesResolve p=true) (a3:p.boundNames.all (fun n=> !worldNames.contains n)=true)
 (a4:noRoadLSs {strict:= !(importedModules p.main.body).all cThrough.contains,foot:=none,bare:=(["vars","dir","locals"]:List Str).filter (readsOut p p.main.body)} p.main.body=true)
 (a5:(namesMeet p p.main.body fun _ n=>attrL n)=true)
 (a6:l.row.toRowW.solid=true) (VJ:l.row.pre.litsOk=true)
 (a7:p.boundNames.contains l.name=true) (a8:(!startupNames.contains l.name)=true)
 (a9:decide (l.foot<=(behindTheImports p).length)=true)
 (b0:l.footing.all footLine=true) (b1:noClassBlock p l.footing=true)
 (b2:l.most.all (fun n=>decide (63<=n))=true) (b3:l.bound.all (fun n=>decide (2^63<=n))=true)
 (b4:noRoadLSs {strict:=true,foot:=some l.bound',writes:=l.writes,may:=l.may} l.footing=true)
 (b5:defStands l.about l.above=true) (b6:l.namesIt=true) (b7:MU.all (fun n=>l.about !=[n])=true)
 (b8:l.bound'.all (fun n=> !builtinNamed n||l.about==[n]|| !l.reads n)=true)
 (b9:(!l.writes||(p.main.body.flatMap importedNames).all fun n=> !l.reads n)=true)
 (c0:(p.main.body.flatMap importedNames).all (fun n=> !l.reads n||(drawsOf n p.main.body).all fun mn=>mn.2 !=("attrgetter":Str)&&mn.2 !=("methodcaller":Str))=true)
 (c1:namesMeet p l.footing (fun sc n=>(!MU.contains n||sc.names.lookup n==some .globalImplicit)&&(l.may !=some n||sc.kind==.module||sc.names.lookup n==some .globalImplicit))=true)
 (c2:l.own.contains l.name=true) (c3:(l.own.eraseDups.length==l.own.length)=true) (c4:l.own.all (fun n=> !builtinNamed n)=true)
 (c5:namesMeet p l.above (fun _ n=> !l.own.contains n)=true) (c6:(namesMeet p l.footing fun sc n=>sc.kind==.module||sc.names.lookup n !=some .globalExplicit)=true):l.wellSaid=true:=by
 subst hp
 have q:l.row.wellSaid=true:=by
  unfold OpenRow.wellSaid OpenRow.partSaid looksOpen
  exact look_both (look_both (look_both (look_both (look_both (look_both (look_both (look_both (look_both (look_both (look_both (look_both (look_both (look_both (look_both (look_both (look_both (look_both (look_both (look_both a0 a1) a2) a3) a4) a5) rfl) rfl) rfl) rfl) rfl) rfl) a6) VJ) rfl) rfl) rfl) rfl) rfl) a7) a8
 unfold OpenLaw.wellSaid
 rw [q,a9,b0,b1,b2,b3,b4,b5,b6,b7,b8,b9,c0,c1,c2,c3,c4,c5,c6];rfl
theorem xN {l:OpenLaw} {k:Nat} {q:Program} {loose:List Str} {d:DefRec} {look:Frag->α} {want:World->α}
  (hn:l.most=some n) (hn2:n<=sizeLine) (Io:d.params.defaults=[]) (hr:di k callerA)
  (F:∀ (w:World) (mg:Str->Option Value) (fa:Addr) (h:Heap) (K:Frag),K.In h->look K=want w->h.Ns mainGlobals mg->mg d.name=some (.ref fa)->
   ∃ (ts:List (Addr×Obj×List V)) (fd:FuncData) (sp:Sp),(∀ t∈ts,EV K t)/\(ts.map (·.1)).Nodup/\(∀ (s:Shared) (u:Value),BindsTo s fd ⟨[u],[]⟩ [(x,u)])/\
    (∀ base:Heap,(without K (ts.map (·.1))).In base->base.Ns mainGlobals mg->mz l.prog w (without K (ts.map (·.1))) mg base xj k fa fd [x] sp)/\
    (∀ (H:Hp) (a:Addr) (ns:List Int),ns.length<=n->(∀ t∈ts,H t.1=some (.ae t.2.1 (.tup t.2.2)))->af (without K (ts.map (·.1))) H a (ns.map V.int)->sp [.ref a] H (fun v _=>v=.bl true) fun _ _ _=>False)):
  WalkO q loose XP (xw look want).says l.row.toRowW d [] (fun f vs=>PySem.call f vs):=by
 refine Mc.qI hn Io fun w s₀ s₁ mg mb fa o pm cd doc a vs ns G Y ho hd qm C9 Ip Iq c_ hg=>?_
 obtain ⟨K,KX,hl⟩:=Y
 obtain ⟨ts,fd,sp,xu,nd,hb,hF,AQ⟩:=F w mg fa _ K KX hl G.T.g C9
 exact uS xu nd KX G.T.g G.T.b G.T.builtins G.T.nolimit hg Ip Iq (Nat.le_trans c_ hn2) hr hF hb (fun H _ ht hS=>AQ H a ns c_ ht hS) fun _ _ _ z=>z
def vn (K:Frag):List (Str×List V)->List Addr
 | []=>[]
 | x::l=>(match nsIn K mainGlobals x.1 with | some (some (.ref a))=>a | _=>0)::vn K l
def Jf:List (Str×List V)->Bool
 | []=>true
 | x::l=>decide (x.2.length<=1000)&&Jf l
section
variable {K:Frag}
theorem xA (X:K.In h) (G:h.Ns mainGlobals mg):∀ {l:List (Str×List V)},A_ K l=Ba l->Jf l=true->∃ ts:List (Addr×Obj×List V),ts.map (·.1)=vn K l/\(∀ t∈ts,EV K t)/\∀ (i:Nat) (x:Str) (xs:List V),l[i]? =some (x,xs)->∃ t∈ts,t.1=adr mg x/\t.2.2=xs
 | [],_,_=>⟨[],rfl,(fun t ht=>nomatch ht),fun i x xs e=>by simp at e⟩
 | y::l,e,hs=>by
  have e':=List.cons.inj (show EZ K y.1::A_ K l=some (Am y.2)::Ba l from e)
  unfold Jf at hs
  rw [Bool.and_eq_true_iff,decide_eq_true_iff] at hs
  obtain ⟨ts,h1,h2,h3⟩:=xA X G e'.2 hs.2
  obtain ⟨a,it,n,sq,g1,g2,g3⟩:=iG e'.1
  have hm:=mg_of X G g1
  refine ⟨(a,⟨.type "tuple",none,.seq it n,sq⟩,y.2)::ts,?_,fun t ht=>?_,fun i x xs ei=>?_⟩
  ·unfold vn
   rw [g1,List.map_cons,h1]
  ·rcases Qp.mp ht with rfl | ht
   ·exact VD g2 g3 (Nat.le_trans hs.1 (by decide))
   ·exact h2 t ht
  ·cases i with
   | zero=>
    cases ei
    refine ⟨_,List.mem_cons_self ..,?_,rfl⟩
    show a=adr mg _
    unfold adr;rw [hm]
   | succ i=>
    obtain ⟨t,ht,r⟩:=h3 i x xs (by simpa using ei)
    exact ⟨t,Qh _ ht,r⟩
theorem wX {ts:List (Addr×Obj×List V)} {xs:List V} (h:∃ t∈ts,t.1=adr mg x/\t.2.2=xs) (hH:∀ t∈ts,H t.1=some (.ae t.2.1 (.tup t.2.2))):Kn mg H x xs:=by
 obtain ⟨t,ht,e1,e2⟩:=h
 exact ⟨t.2.1,by rw [<- e1,<- e2];exact hH t ht⟩
theorem u3 (X:K.In h) (G:h.Ns mainGlobals mg) {l:List (Str×List V)} (e:A_ K l=Ba l) (i:Nat) {xs:List V} (hi:l[i]? =some (x,xs):=by rfl):∃ u,mg x=some u/\RelV (.ref (adr mg x)) u:=by
 obtain ⟨a,it,n,sq,h1,h2,h3⟩:=iG (lJ e i hi)
 exact ⟨.ref a,mg_of X G h1,Vv (mg_of X G h1)⟩
end
structure An where
 x:Str
 q:Str
 st:Stmt
 fs:List Str
abbrev Jg:=Option A6×Option (Option Value)×Bool
def GL (K:Frag) (C:Addr):List Str->Bool
 | []=>true
 | f::l=>(match findIn K (.ref C) f with | some none=>true | _=>false)&&GL K C l
def clsAt (K:Frag) (c:An) (C:Addr):Jg:=(fnAt K c.q (findIn K (.ref C) "__init__"),findIn K (.ref C) "__setattr__",
 plainGet K C Str.empty&&(hasDictIn K C&&(plainOver K C&&(makesIn K C&&(keepIn K (.ref C)&&((match findIn K (.ref C) "__init__" with | some (some v)=>isFn K v | _=>false)&&GL K C c.fs))))))
def Ds (K:Frag):List An->List (Option Jg)
 | []=>[]
 | c::l=>(match nsIn K mainGlobals c.x with | some (some (.ref C))=>some (clsAt K c C) | _=>none)::Ds K l
def Du:List An->List (Option Jg)
 | []=>[]
 | c::l=>some (some (A7 "__init__" c.q c.st),some (some (.builtin "object.__setattr__")),true)::Du l
section
variable {K:Frag}
theorem k9:∀ {C:Addr} {l:List Str},GL K C l=true->∀ f∈l,yt K C f
 | C,f::l,e,g,hg=>by
  unfold GL at e
  rw [Bool.and_eq_true_iff] at e
  rcases Qp.mp hg with rfl | hg
  ·have e1:=e.1
   split at e1
   ·assumption
   ·cases e1
  ·exact k9 e.2 g hg
theorem uB:∀ {l:List An},Ds K l=Du l->∀ (i:Nat) {c:An},l[i]? =some c->∃ C,nsIn K mainGlobals c.x=some (some (.ref C))/\clsAt K c C=(some (A7 "__init__" c.q c.st),some (some (.builtin "object.__setattr__")),true)
 | y::l,e,0,c,h=>by
  cases h
  have e1:=(List.cons.inj e).1
  split at e1
  ·rename_i C hC
   exact ⟨C,hC,QE e1⟩
  ·cases e1
 | y::l,e,i+1,c,h=>uB (List.cons.inj e).2 i (by simpa using h)
theorem zM (X:K.In h) (G:h.Ns mainGlobals mg) {l:List An} (e:Ds K l=Du l) (i:Nat) {q:Str} {st:Stmt} {fs:List Str} (hi:l[i]? =some ⟨x,q,st,fs⟩)
  (hb:∀ (kV doc pm:Value) (an:Option Addr) (ay ct:Value) (us:List Value),us.length=ps.length->bindArgs (fnOf "__init__" q (ni st) (jj st) (a_ st) .none kV doc pm an ay ct) ⟨us,[]⟩=pure (ps.zip us)):Cd K mg x q st ps fs (adr mg x):=by
 obtain ⟨C,hn,hc⟩:=uB e i hi
 have hm:=mg_of X G hn
 have ea:adr mg x=C:=by unfold adr;rw [hm]
 unfold clsAt at hc
 simp only [Prod.mk.injEq,Bool.and_eq_true_iff] at hc
 obtain ⟨c1,c2,c3,c4,c5,c6,c7,c8,c9⟩:=hc
 obtain ⟨f,fd,e1,F⟩:=nW c1
 rw [e1] at c8
 rw [ea]
 exact ⟨hm,⟨c3,c4,c5,c2⟩,k9 c9,f,fd,⟨c6,e1,c8,c7⟩,F,F.binds hb⟩
theorem VL (X:K.In h) (G:h.Ns mainGlobals mg) {l:List An} (e:Ds K l=Du l) (i:Nat) {q p0 p1:Str} {st:Stmt} {fs:List Str} (hi:l[i]? =some ⟨x,q,st,fs⟩:=by rfl)
  (hb:∀ (kV doc pm:Value) (an:Option Addr) (ay ct a0 a1:Value),bindArgs (fnOf "__init__" q (ni st) (jj st) (a_ st) .none kV doc pm an ay ct) ⟨[a0,a1],[]⟩=pure [(p0,a0),(p1,a1)]:=by intros;rfl):Cd K mg x q st [p0,p1] fs (adr mg x):=
 zM X G e i hi fun a b c d f g us hl=>by
  match us,hl with
  | [a0,a1],_=>exact hb ..
end
end L2
namespace L2
end L2
namespace L2
open PySem PySem.SetTable
def GN (mask:Nat) (p:Probe):Probe:=if p.more > 0 then {p with j:=p.j+1,more:=p.more - 1} else {p with j:=(leap mask p.i p.perturb).1,more:=runEnd mask (leap mask p.i p.perturb).1 - (leap mask p.i p.perturb).1,i:=(leap mask p.i p.perturb).1,perturb:=(leap mask p.i p.perturb).2}
def VM (mask:Nat) (q:Nat×Nat):Probe:={j:=q.1,more:=runEnd mask q.1 - q.1,i:=q.1,perturb:=q.2,dummy:=none}
def st (mask:Nat) (h:Int):Nat->Probe
 | 0=>VM mask (bits h % (mask+1),bits h)
 | n+1=>GN mask (st mask h n)
section
variable {mask:Nat} {h:Int}
theorem nG (i:Nat):runEnd mask i - i<=9/\(i<=mask->i+(runEnd mask i - i)<=mask):=by
 unfold runEnd
 split<;>omega
theorem MW:∀ n,(st mask h n).j+(st mask h n).more<=mask
 | 0=>(nG _).2 (Nat.le_of_lt_succ (Nat.mod_lt _ (Nat.succ_pos _)))
 | n+1=>by
  have ih:=MW n
  show (GN mask (st mask h n)).j+(GN mask (st mask h n)).more<=mask
  unfold GN
  split
  ·simp only;omega
  ·exact (nG _).2 (Nat.le_of_lt_succ (Nat.mod_lt _ (Nat.succ_pos _)))
end
section
variable {xs:Array Nat}
end
section
variable {t:SetTable} {es:Array (Int×Value)} {h:Int}
end
section
variable {xs:Array α} {p:Nat} {x:α}
end
section
variable {t:SetTable} {es:Array (Int×Value)} {h:Int} {x:Value} {n0:Nat}
end
theorem jP:∀ {l m:List Nat},l.Nodup->(∀ x∈l,x∈m)->l.length<=m.length
 | [],m,_,_=>Nat.zero_le _
 | a::l,m,nd,hs=>by
  obtain ⟨h1,h2⟩:=List.nodup_cons.mp nd
  have hm:=hs a (List.mem_cons_self ..)
  have:l.length<=(m.erase a).length:=jP h2 fun x hx=>(List.mem_erase_of_ne (show x≠a from fun e=>h1 (by rw [<- e];exact hx))).mpr (hs x (Qh _ hx))
  rw [List.length_erase_of_mem hm] at this
  have:=List.length_pos_of_mem hm
  simp only [List.length_cons];omega
def Ow (owner:Array (Option Nat)) (j:Nat):Prop:=(owner.getD j (some 0)).isNone=false
structure MX (mask:Nat) (owner:Array (Option Nat)) (hs:List Int):Prop where
 sz:owner.size=mask+1
 lt:∀ j k:Nat,owner[j]? =some (some k)->k < hs.length
 inj:∀ j j' k:Nat,owner[j]? =some (some k)->owner[j']? =some (some k)->j=j'
 reach:∀ k (h:k < hs.length),∃ n,owner[(st mask hs[k] n).j]? =some (some k)/\∀ m,m < n->Ow owner (st mask hs[k] m).j
section
variable {mask:Nat} {owner:Array (Option Nat)} {hs:List Int} {h:Int}
end
def Dv (mask:Nat) (owner:Array (Option Nat)):List (Nat×Nat):=(List.range (mask+1)).filterMap fun j=>(owner.getD j none).map (j,·)
section
variable {mask:Nat} {owner:Array (Option Nat)} {hs:List Int}
theorem iM (hz:owner.size=mask+1) {p:Nat×Nat}:p∈Dv mask owner↔p.1<=mask/\owner[p.1]? =some (some p.2):=by
 unfold Dv
 rw [List.mem_filterMap]
 constructor
 ·rintro ⟨j,hj,e⟩
  have s_:j < owner.size:=by have:=List.mem_range.mp hj;omega
  have eg:owner.getD j none=owner[j]:=by simp [Array.getD,s_]
  rw [eg] at e
  cases hx:owner[j] with
  | none=>rw [hx] at e;cases e
  | some k=>
   rw [hx] at e
   cases e
   exact ⟨by show j<=mask;omega,by show owner[j]? =_;rw [Array.getElem?_eq_getElem s_,hx]⟩
 ·rintro ⟨h1,h2⟩
  obtain ⟨h3,h4⟩:=Array.getElem?_eq_some_iff.mp h2
  refine ⟨p.1,List.mem_range.mpr (by omega),?_⟩
  have eg:owner.getD p.1 none=owner[p.1]:=by simp [Array.getD,h3]
  rw [eg,h4];rfl
theorem wI {f:Nat->Option Nat}:∀ l:List Nat,l.Pairwise (· < ·)->((l.filterMap fun j=>(f j).map (j,·)).map (·.1)).Pairwise (· < ·)/\∀ x∈(l.filterMap fun j=>(f j).map (j,·)).map (·.1),x∈l
 | [],_=>⟨.nil,fun _ h=>nomatch h⟩
 | a::l,h=>by
  obtain ⟨h1,h2⟩:=List.pairwise_cons.mp h
  obtain ⟨i1,i2⟩:=wI (f:=f) l h2
  cases e:f a with
  | none=>
   simp only [List.filterMap_cons,e,Option.map_none]
   exact ⟨i1,fun x hx=>Qh _ (i2 x hx)⟩
  | some k=>
   simp only [List.filterMap_cons,e,Option.map_some,List.map_cons]
   refine ⟨List.pairwise_cons.mpr ⟨fun x hx=>h1 x (i2 x hx),i1⟩,fun x hx=>?_⟩
   rcases Qp.mp hx with rfl | hx
   ·exact List.mem_cons_self ..
   ·exact Qh _ (i2 x hx)
theorem xS:((Dv mask owner).map (·.1)).Pairwise (· < ·):=(wI (f:=fun j=>owner.getD j none) _ List.pairwise_lt_range).1
theorem MX.len (I:MX mask owner hs):(Dv mask owner).length=hs.length:=by
 have nd:((Dv mask owner).map (·.2)).Nodup:=by
  have h1:=xS (mask:=mask) (owner:=owner)
  rw [List.pairwise_map] at h1
  refine List.pairwise_map.mpr (h1.imp_of_mem fun {a b} ha hb jk e=>?_)
  have:=I.inj a.1 b.1 a.2 ((iM I.sz).mp ha).2 (by rw [e];exact ((iM I.sz).mp hb).2)
  omega
 have l1:=jP nd (m:=List.range hs.length) fun x hx=>by
  obtain ⟨p,hp,rfl⟩:=List.mem_map.mp hx
  exact List.mem_range.mpr (I.lt _ _ ((iM I.sz).mp hp).2)
 have l2:=jP (l:=List.range hs.length) (m:=(Dv mask owner).map (·.2)) List.nodup_range fun x hx=>by
  have hx':=List.mem_range.mp hx
  obtain ⟨n,e1,_⟩:=I.reach x hx'
  have hj:(st mask hs[x] n).j<=mask:=by have:=MW (mask:=mask) (h:=hs[x]) n;omega
  exact List.mem_map.mpr ⟨((st mask hs[x] n).j,x),(iM I.sz).mpr ⟨hj,e1⟩,rfl⟩
 simp at l1 l2
 omega
end
section
variable {K:Type} [DecidableEq K] {knd:KeyKind prog w K}
end
end L2
namespace L2
open PySem PySem.Spec PyProof.Rows
section
variable {I:Addr} {wr:List Addr} {P:Nat->Value->Prop} {St:Nat->Shared->Prop}
end
section
variable {VN:List (List Key×Addr)} {ks:List Key}
end
section
variable {VN:List (List Key×Addr)}
end
theorem wQ {J:It} {ok:Hp->Prop} {item:Nat->V} {tk tw:TE} {τ0:St} {D:Addr} {Q:Hp->Prop} (hJ:y_ J ok n item) (Pv:Nat->St->Hp->Prop) (h0:Pv 0 τ0 H0)
  (hok:∀ i τ H,i<=n->Pv i τ H->ok H)
  (hs:∀ i τ H,i < n->Pv i τ H->g (item i) τ H fun τ2 H2=>tc τ2 H2 fun b H3=>if b=true then tk τ2 H3 fun x H4=>tw τ2 H4 fun y H5=>∃ kvs key,x=kV key/\H5 D=some (.dK kvs)/\kvs.length < sizeLine/\Pv (i+1) τ2 (upd H5 D (.dK (putK kvs key y))) else Pv (i+1) τ2 H3)
  (hd:∀ τ H,Pv n τ H->Q H):∃ W:Nat->Nat->St->Hp->Prop,(∃ m,W 0 m τ0 H0)/\∀ i m τ H,W i m τ H->
   (J.stop i H/\Q H)\/(J.go i H/\∃ N:St->Hp->Prop,(∀ τ' H',N τ' H'->∃ m',m' < m/\W (i+1) m' τ' H')/\∀ x H',J.lj i H x H'->g x τ H' fun τ2 H2=>tc τ2 H2 fun b H3=>
    if b=true then tk τ2 H3 fun x H4=>tw τ2 H4 fun y H5=>∃ kvs key,x=kV key/\H5 D=some (.dK kvs)/\kvs.length < sizeLine/\N τ2 (upd H5 D (.dK (putK kvs key y))) else N τ2 H3):=by
 refine ⟨fun i m τ H=>m=n - i/\i<=n/\Pv i τ H,⟨n,by simp,Nat.zero_le _,h0⟩,?_⟩
 rintro i m τ H ⟨rfl,hi,p⟩
 obtain ⟨k1,k2⟩:=hJ H (hok i τ H hi p)
 by_cases au:i < n
 ·refine .inr ⟨(k1 i au).1,Pv (i+1),fun σ' H' p'=>⟨n - (i+1),by omega,rfl,au,p'⟩,fun x H' y=>?_⟩
  obtain ⟨e,e2⟩:=(k1 i au).2 x H' y
  subst e e2
  exact hs i τ _ au p
 ·have e:i=n:=by omega
  subst e
  exact .inl ⟨k2,hd τ H p⟩
theorem tM {K:Q1} {J:It} {ok:Hp->Prop} {f1 f2:Nat->V} {a b:Nat} {tk tw:TE} {τ0:St} {D:Addr} {Q:Hp->Prop} (hJ:EO J ok n f1 f2) (Pv:Nat->St->Hp->Prop) (h0:Pv 0 τ0 H0)
  (hok:∀ i τ H,i<=n->Pv i τ H->ok H)
  (hs:∀ i τ H T,i < n->Pv i τ H->H T=none->tc ((τ.set a (some (f1 i))).set b (some (f2 i))) (upd H T (.tup [f1 i,f2 i])) fun c H3=>if c=true then tk ((τ.set a (some (f1 i))).set b (some (f2 i))) H3 fun x H4=>tw ((τ.set a (some (f1 i))).set b (some (f2 i))) H4 fun y H5=>
   ∃ kvs key,x=kV key/\H5 D=some (.dK kvs)/\kvs.length < sizeLine/\Pv (i+1) ((τ.set a (some (f1 i))).set b (some (f2 i))) (upd H5 D (.dK (putK kvs key y))) else Pv (i+1) ((τ.set a (some (f1 i))).set b (some (f2 i))) H3)
  (hd:∀ τ H,Pv n τ H->Q H):∃ W:Nat->Nat->St->Hp->Prop,(∃ m,W 0 m τ0 H0)/\∀ i m τ H,W i m τ H->
   (J.stop i H/\Q H)\/(J.go i H/\∃ N:St->Hp->Prop,(∀ τ' H',N τ' H'->∃ m',m' < m/\W (i+1) m' τ' H')/\∀ x H',J.lj i H x H'->g2 K a b x τ H' fun τ2 H2=>tc τ2 H2 fun b H3=>
    if b=true then tk τ2 H3 fun x H4=>tw τ2 H4 fun y H5=>∃ kvs key,x=kV key/\H5 D=some (.dK kvs)/\kvs.length < sizeLine/\N τ2 (upd H5 D (.dK (putK kvs key y))) else N τ2 H3):=by
 refine ⟨fun i m σ H=>m=n - i/\i<=n/\Pv i σ H,⟨n,by simp,Nat.zero_le _,h0⟩,?_⟩
 rintro i m σ H ⟨rfl,hi,p⟩
 obtain ⟨k1,k2⟩:=hJ H (hok i σ H hi p)
 by_cases au:i < n
 ·refine .inr ⟨(k1 i au).1,Pv (i+1),fun σ' H' p'=>⟨n - (i+1),by omega,rfl,au,p'⟩,fun x H' y=>?_⟩
  obtain ⟨T,rfl,hT,rfl⟩:=(k1 i au).2 x H' y
  exact fJ aA (hs i σ _ T au p hT)
 ·have e:i=n:=by omega
  subst e
  exact .inl ⟨k2,hd σ H p⟩
theorem yC {K:Q1} {J:It} {ok:Hp->Prop} {f1 f2:Nat->V} {a b:Nat} {tk tw:TE} {τ0:St} {D:Addr} {Q:Hp->Prop} (hJ:EO J ok n f1 f2) (Pv:Nat->St->Hp->Prop) (h0:Pv 0 τ0 H0)
  (hok:∀ i τ H,i<=n->Pv i τ H->ok H)
  (hs:∀ i τ H T,i < n->Pv i τ H->H T=none->tc ((τ.set a (some (f1 i))).set b (some (f2 i))) (upd H T (.tup [f1 i,f2 i])) fun c H3=>if c=true then tk ((τ.set a (some (f1 i))).set b (some (f2 i))) H3 fun x H4=>tw ((τ.set a (some (f1 i))).set b (some (f2 i))) H4 fun y H5=>
   ∃ kvs key b',x=.ref b'/\be H5 b' (key.map kV)/\H5 D=some (.dT kvs)/\kvs.length < sizeLine/\Pv (i+1) ((τ.set a (some (f1 i))).set b (some (f2 i))) (upd H5 D (.dT (putK kvs key y))) else Pv (i+1) ((τ.set a (some (f1 i))).set b (some (f2 i))) H3)
  (hd:∀ τ H,Pv n τ H->Q H):∃ W:Nat->Nat->St->Hp->Prop,(∃ m,W 0 m τ0 H0)/\∀ i m τ H,W i m τ H->
   (J.stop i H/\Q H)\/(J.go i H/\∃ N:St->Hp->Prop,(∀ τ' H',N τ' H'->∃ m',m' < m/\W (i+1) m' τ' H')/\∀ x H',J.lj i H x H'->g2 K a b x τ H' fun τ2 H2=>tc τ2 H2 fun b H3=>
    if b=true then tk τ2 H3 fun x H4=>tw τ2 H4 fun y H5=>∃ kvs key b,x=.ref b/\be H5 b (key.map kV)/\H5 D=some (.dT kvs)/\kvs.length < sizeLine/\N τ2 (upd H5 D (.dT (putK kvs key y))) else N τ2 H3):=by
 refine ⟨fun i m σ H=>m=n - i/\i<=n/\Pv i σ H,⟨n,by simp,Nat.zero_le _,h0⟩,?_⟩
 rintro i m σ H ⟨rfl,hi,p⟩
 obtain ⟨k1,k2⟩:=hJ H (hok i σ H hi p)
 by_cases au:i < n
 ·refine .inr ⟨(k1 i au).1,Pv (i+1),fun σ' H' p'=>⟨n - (i+1),by omega,rfl,au,p'⟩,fun x H' y=>?_⟩
  obtain ⟨T,rfl,hT,rfl⟩:=(k1 i au).2 x H' y
  exact fJ aA (hs i σ _ T au p hT)
 ·have e:i=n:=by omega
  subst e
  exact .inl ⟨k2,hd σ H p⟩
theorem VO [DecidableEq κ] {kvs:List (κ×V)} (nd:(kvs.map (·.1)).Nodup) (h:i < kvs.length):putK (kvs.take i) kvs[i].1 kvs[i].2=kvs.take (i+1):=by
 rw [L2.cF _ (by
  cases e:av (kvs.take i) kvs[i].1 with
  | none=>rfl
  | some v=>
   have:=gW e
   obtain ⟨p,hp,q⟩:=List.mem_map.mp this
   obtain ⟨j,hj,rfl⟩:=Qi hp
   have s_:j < i:=by simp at hj;omega
   rw [List.getElem_take] at q
   have:=List.pairwise_iff_getElem.mp nd j i (by simp;omega) (by simpa using h) s_
   simp only [Qr] at this
   exact absurd q this),Qs,Qa h]
 rfl
theorem gR [DecidableEq κ] {kvs:List (κ×V)} (nd:(kvs.map (·.1)).Nodup) {k:κ} {v:V} (h:(k,v)∈kvs):av kvs k=some v:=by
 induction kvs with
 | nil=>cases h
 | cons p r ih=>
  rw [List.map_cons,List.nodup_cons] at nd
  rcases Qp.mp h with e | h
  ·rw [<- e,bZ rfl]
  ·have ne:¬p.1=k:=fun e=>nd.1 (List.mem_map.mpr ⟨_,h,e.symm⟩)
   rw [bX ne];exact ih nd.2 h
theorem be.put {D:Addr} {ys:List V} {o u:HO} (r:be H b ys) (hD:H D=some o) (n1:∀ xs,o≠.tup xs) (n2:∀ q xs,o≠.ae q (.tup xs)):be (L2.upd H D u) b ys:=r.upd fun v hv z=>by
 subst z
 rcases r with r | ⟨q,r⟩
 ·rw [hD] at r;cases r;exact n1 _ rfl
 ·rw [hD] at r;cases r;exact n2 _ _ rfl
def iq (rows:List ak):List (Key×V):=rows.map fun r=>(.inr r.1,.str (endOf rows r.1))
def xx:Hd->List Str
 | .as y=>[y]
 | .way x y=>[x,y]
 | .prs _ ps=>ps.map (·.2)
 | _=>[]
def kq (rows:List ak) (h:Hd):List (List Key×V):=h.bc.map fun m=>(m.1.map (Sum.inr:Str->Key),.str (endOf rows m.2))
theorem pA {xs ys:List Str} (h:xs.map (Sum.inr:Str->Key)=ys.map Sum.inr):xs=ys:=by
 induction xs generalizing ys with
 | nil=>cases ys with
  | nil=>rfl
  | cons y ys=>simp at h
 | cons x xs ih=>cases ys with
  | nil=>simp at h
  | cons y ys=>
   simp only [List.map_cons,List.cons.injEq,Sum.inr.injEq] at h
   rw [h.1,ih h.2]
theorem nO {rows:List ak} {h:Hd} (nd:(h.bc.map (·.1)).Nodup):((kq rows h).map (·.1)).Nodup:=by
 have e:(kq rows h).map (·.1)=(h.bc.map (·.1)).map fun m=>m.map (Sum.inr:Str->Key):=by simp [kq,Qn,QC]
 rw [e]
 exact List.pairwise_map.mpr (nd.imp fun h e=>h (pA e))
theorem VP {h:Hd} (i:Nat) (hi:i < h.bc.length):(xx h)[i]? =some h.bc[i].2:=by
 cases h with
 | one s=>cases hi
 | as y=>cases hi
 | way x y=>
  match i,hi with
  | 0,_=>rfl
  | 1,_=>rfl
 | prs s ps=>
  have ip:i < ps.length:=by simpa [Hd.bc] using hi
  simp [xx,Hd.bc,Qa ip]
theorem VQ {h:Hd}:h.bc.length<=(xx h).length:=by
 cases h<;>simp [xx,Hd.bc]
theorem oU {h:Hd} (ok:h.ok ns):h.bc.length<=10:=by
 cases h with
 | one s=>simp [Hd.bc]
 | as y=>simp [Hd.bc]
 | way x y=>simp [Hd.bc]
 | prs s ps=>simpa [Hd.bc] using ok.2.2.2
theorem jL:∀ {ws:List Str},rising ws=true->ws.Pairwise (fun a b=>q_ a b=true)
 | [],_=>.nil
 | [_],_=>List.pairwise_singleton _ _
 | a::b::r,h=>by
  have h':q_ a b=true/\rising (b::r)=true:=by simpa [rising] using h
  have ih:=jL h'.2
  refine List.pairwise_cons.mpr ⟨fun c hc=>?_,ih⟩
  rcases Qp.mp hc with rfl | hc
  ·exact h'.1
  ·exact pL h'.1 ((List.pairwise_cons.mp ih).1 c hc)
theorem oO (h:rising ws=true):ws.Nodup:=(jL h).imp fun {x y} h e=>by rw [e,nY] at h;cases h
theorem qV {h:Hd} (ok:h.ok ns):(h.bc.map (·.1)).Nodup:=by
 cases h with
 | one s=>exact List.nodup_nil
 | as y=>exact List.nodup_nil
 | way x y=>exact (by decide+kernel:(([["from"],["to"]]:List (List Str))).Nodup)
 | prs s ps=>
  have hr:=oO ok.2.2.1
  have e:(Hd.prs s ps).bc.map (·.1)=(ps.map (·.1)).map fun w=>([if s="box" then "part" else "case",w]:List Str):=by simp [Hd.bc,Qn,QC]
  rw [e]
  exact List.pairwise_map.mpr (hr.imp fun h e=>h (by simpa using e))
theorem mN {rows:List ak} (nd:(rows.map (·.1)).Nodup) (hx:x∈rows.map (·.1)):av (iq rows) (.inr x)=some (.str (endOf rows x)):=by
 obtain ⟨r,hr,rfl⟩:=List.mem_map.mp hx
 refine gR ?_ (List.mem_map.mpr ⟨r,hr,rfl⟩)
 have e:(iq rows).map (·.1)=(rows.map (·.1)).map (Sum.inr:Str->Key):=by simp [iq,Qn,QC]
 rw [e]
 exact List.pairwise_map.mpr (nd.imp fun h e=>h (Sum.inr.inj e))
theorem Jh (m:List Str):(m.map (Sum.inr:Str->Key)).map kV=m.map V.str:=by simp [Qn,QC,kV]
def bf (rows:List ak):List ak:=rows.filter fun r=>r.2.nx.isNone
structure DV (R:Hp->V->ak->Prop) (H:Hp) (kvs:List (Key×V)) (rs:List ak):Prop where
 len:kvs.length=rs.length
 at_:∀ i (h:i < kvs.length) (h':i < rs.length),kvs[i].1=.inr rs[i].1/\R H kvs[i].2 rs[i]
theorem DV.keep {R:Hp->V->ak->Prop} {kvs:List (Key×V)} (h:DV R H kvs rs) (s:∀ v r,R H v r->R H' v r):DV R H' kvs rs:=⟨h.len,fun i a b=>⟨(h.at_ i a b).1,s _ _ (h.at_ i a b).2⟩⟩
theorem DV.nil {R:Hp->V->ak->Prop}:DV R H [] []:=⟨rfl,fun i h=>absurd h (by simp)⟩
theorem DV.snoc {R:Hp->V->ak->Prop} {kvs:List (Key×V)} (h:DV R H kvs rs) {v:V} {r:ak} (e:R H v r):DV R H (kvs++[((Sum.inr r.1:Key),v)]) (rs++[r]):=by
 have hl:=h.len
 refine ⟨by simp [hl],fun i h1 h2=>?_⟩
 by_cases au:i < kvs.length
 ·rw [Qe au,Qe (by omega)]
  exact h.at_ i au (by omega)
 ·have e':i=kvs.length:=by simp at h1;omega
  subst e'
  rw [Qf (Qz _),Qf (by omega)]
  simp only [Nat.sub_self,hl,List.getElem_cons_zero,true_and]
  exact e
theorem DV.keys {R:Hp->V->ak->Prop} {kvs:List (Key×V)} (h:DV R H kvs rs):kvs.map (·.1)=rs.map fun r=>(.inr r.1:Key):=by
 have hl:=h.len
 refine List.ext_getElem (by simpa using hl) fun i h1 h2=>?_
 simp only [Qr]
 exact (h.at_ i (by simpa using h1) (by simpa using h2)).1
theorem DV.put {R:Hp->V->ak->Prop} {kvs:List (Key×V)} (h:DV R H kvs rs) {r:ak} {v:V} (n:r.1 ∉ rs.map (·.1)):putK kvs (.inr r.1) v=kvs++[(.inr r.1,v)]:=by
 refine L2.cF _ ?_
 cases e:av kvs (.inr r.1) with
 | none=>rfl
 | some u=>
  have:=gW e
  rw [h.keys] at this
  obtain ⟨r',fb,e'⟩:=List.mem_map.mp this
  exact absurd (List.mem_map.mpr ⟨r',fb,Sum.inr.inj e'⟩) n
theorem DV.get {R:Hp->V->ak->Prop} {kvs:List (Key×V)} (h:DV R H kvs rs) (nd:(rs.map (·.1)).Nodup) {r:ak} (hr:r∈rs):∃ v,av kvs (.inr r.1)=some v/\R H v r:=by
 obtain ⟨i,hi,rfl⟩:=Qi hr
 have hl:=h.len
 obtain ⟨h1,h2⟩:=h.at_ i (by omega) hi
 refine ⟨kvs[i].2,gR ?_ (k:=(Sum.inr rs[i].1:Key)) (v:=kvs[i].2) ?_,h2⟩
 ·rw [h.keys]
  exact List.pairwise_map.mpr ((List.pairwise_map.mp nd).imp fun h e=>h (Sum.inr.inj e))
 ·rw [<- h1];exact Qj (by omega)
def Hd.dc:Hd->Str
 | .one s=>s
 | .as _=>"as"
 | .way _ _=>"way"
 | .prs s _=>s
theorem HV.dc {H:Hp} {v:V} {h:Hd} (q:HV H v h):∃ b ys,v=.ref b/\H b=some (.tup (.str h.dc::ys)):=by
 cases q with
 | one e=>exact ⟨_,_,rfl,e⟩
 | as e=>exact ⟨_,_,rfl,e⟩
 | way e=>exact ⟨_,_,rfl,e⟩
 | prs e _ _=>exact ⟨_,_,rfl,e⟩
theorem wH {h:Hd} (ok:h.ok ns):(h.dc="as")=(h.nx.isNone=false):=by
 cases h with
 | one s=>rcases ok with rfl | rfl<;>simp [Hd.dc,Hd.nx]<;>decide+kernel
 | as y=>simp [Hd.dc,Hd.nx]
 | way x y=>simp [Hd.dc,Hd.nx];decide+kernel
 | prs s ps=>rcases ok.1 with rfl | rfl<;>simp [Hd.dc,Hd.nx]<;>decide+kernel
def RH:Hp->V->ak->Prop:=fun H v r=>HV H v r.2
def RM:Hp->V->ak->Prop:=fun H v r=>∃ b c us,v=.ref b/\H b=some (.tup [.str r.2.dc,.ref c])/\H c=some (.tup us)/\SV H us (r.2.bc.map (·.1))
def RO (rows:List ak):Hp->V->ak->Prop:=fun H v r=>∃ m o,v=.ref m/\H m=some (.ae o (.dT (kq rows r.2)))
structure GO (H:Hp) (rows:List ak) (fs:List (Str×V)):Prop where
 rws:∃ d o,fs.lookup ("rows":Str)=some (V.ref d)/\H d=some (.ae o (.dK (iq rows)))
 hds:∃ d o k,fs.lookup ("heads":Str)=some (V.ref d)/\H d=some (.ae o (.dK k))/\DV RH H k (bf rows)
 mks:∃ d o k,fs.lookup ("marks":Str)=some (V.ref d)/\H d=some (.ae o (.dK k))/\DV RM H k (bf rows)
 bc:∃ d o k,fs.lookup ("moves":Str)=some (V.ref d)/\H d=some (.ae o (.dK k))/\DV (RO rows) H k (bf rows)
def Ck (H:Hp) (C x:Addr) (rows:List ak):Prop:=∃ dx fs,H x=some (.ins C dx fs)/\GO H rows fs
def Sx (x:Addr) (H H':Hp):Prop:=∀ b o,b≠x->H b=some o->H' b=some o
theorem Sx.trans {x:Addr} {H1 H2:Hp} (a:Sx x H H1) (b:Sx x H1 H2):Sx x H H2:=fun c o n h=>b c o n (a c o n h)
theorem aa.sx {x:Addr} {H1:Hp} (a:aa H H1):Sx x H H1:=fun c o _ h=>a c o h
theorem Sx.upd {x:Addr} {H:Hp} {o:HO}:Sx x H (upd H x o):=fun c u n h=>by rw [aB n];exact h
theorem Sx.tk {x:Addr} (s:Sx x H H') (n:∀ ys,H x≠some (.tup ys)):Tk H H':=fun b ys e=>s b _ (fun z=>n ys (by rw [<- z];exact e)) e
theorem Sx.ae {x b:Addr} {H H':Hp} {q:Obj} {u:HO} (s:Sx x H H') (n:∀ q u,H x≠some (.ae q u)) (e:H b=some (.ae q u)):H' b=some (.ae q u):=s b _ (fun z=>n q u (by rw [<- z];exact e)) e
theorem HV.same {v:V} {h:Hd} (q:HV H v h) (s:aa H H'):HV H' v h:=q.tk s.ts
theorem fH {K:Q1} {tv:TE} {f:Str} {v:TS} (h:tv σ H fun y H1=>ta σ H1 fun x H2=>∃ a C dx fs,x=.ref a/\H2 a=some (.ins C dx fs)/\qx K C/\yt K C f/\fs.length < 1000/\v D σ (upd H2 a (.ins C dx (br f y fs)))):BJ (Gd K ta tv f) v D σ H:=h
def jh (rows:List ak) (e:Str) (s:List Str):Option Str:=((bq rows e).find? fun m=>decide (m.1=s)).map (·.2)
def ji (rows:List ak) (ns:List Str) (e:Str):Prop:=e∈ns/\endOf rows e=e
def tq (rows:List ak) (e:Str):List (List Key×V):=(bq rows e).map fun m=>(m.1.map Sum.inr,.str m.2)
section
variable {xs:List V} {rows:List ak}
theorem RT.stay (rt:RT H a xs rows ns ws) (hw:∀ z∈ws,Wd z) (hx:x∈ns):ji rows ns (endOf rows x):=by
 obtain ⟨h1,h2,_⟩:=rt.A4 hw hx
 exact ⟨h1,dB _ h2⟩
theorem RT.Ao (rt:RT H a xs rows ns ws) (hw:∀ z∈ws,Wd z) {e:Str} (h:ji rows ns e):(e,aq rows e)∈bf rows/\(aq rows e).ok ns:=by
 obtain ⟨h1,h2,h3⟩:=rt.A4 hw h.1
 rw [h.2] at h1 h2 h3
 have h4:e∈rows.map (·.1):=rt.nm.mem_iff.mpr h1
 obtain ⟨r,hr,rfl⟩:=List.mem_map.mp h4
 have e':=fL rt.jn hr
 refine ⟨List.mem_filter.mpr ⟨?_,?_⟩,h3⟩
 ·rw [e'];exact hr
 ·show (aq rows r.1).nx.isNone=true
  rw [h2];rfl
theorem RT.jh (rt:RT H a xs rows ns ws) (hw:∀ z∈ws,Wd z) {e e':Str} {s:List Str} (h:ji rows ns e) (m:L2.jh rows e s=some e'):ji rows ns e':=by
 unfold L2.jh at m
 obtain ⟨p,hp,rfl⟩:=Option.map_eq_some_iff.mp m
 have hm:=List.mem_of_find?_eq_some hp
 unfold bq at hm
 obtain ⟨q,hq,rfl⟩:=List.mem_map.mp hm
 rw [h.2] at hq
 exact rt.stay hw (rM (rt.Ao hw h).2 _ hq)
theorem RT.Bc (rt:RT H a xs rows ns ws):((bf rows).map (·.1)).Nodup:=rt.jn.sublist (List.filter_sublist.map _)
theorem RT.Cm (rt:RT H a xs rows ns ws) (hw:∀ z∈ws,Wd z) (h:x∈ns):((tq rows x).map (·.1)).Nodup:=by
 have h3:=(rt.A4 hw h).2.2
 have e:(tq rows x).map (·.1)=((aq rows (endOf rows x)).bc.map (·.1)).map fun m=>m.map (Sum.inr:Str->Key):=by simp [tq,bq,Qn,QC]
 rw [e]
 exact List.pairwise_map.mpr ((qV h3).imp fun h e=>h (pA e))
theorem RT.E6 (rt:RT H a xs rows ns ws) (hw:∀ z∈ws,Wd z) (h:x∈ns):(bq rows x).length<=10:=by
 have:=oU (rt.A4 hw h).2.2
 unfold bq
 simpa using this
end
theorem GO.same {H H':Hp} {rows:List ak} {fs:List (Str×V)} (n:GO H rows fs) (s:aa H H'):GO H' rows fs:=by
 obtain ⟨⟨d1,o1,a1,a2⟩,⟨d2,o2,k2,b1,b2,b3⟩,⟨d3,o3,k3,c1,c2,c3⟩,⟨d4,o4,k4,e1,e2,e3⟩⟩:=n
 exact ⟨⟨d1,o1,a1,s _ _ a2⟩,⟨d2,o2,k2,b1,s _ _ b2,b3.keep fun v r h=>HV.tk s.ts h⟩,⟨d3,o3,k3,c1,s _ _ c2,c3.keep fun v r ⟨b,c,us,h1,h2,h3,h4⟩=>⟨b,c,us,h1,s _ _ h2,s _ _ h3,h4.keep fun b ys r=>r.same s⟩⟩,⟨d4,o4,k4,e1,s _ _ e2,e3.keep fun v r ⟨m,o,h1,h2⟩=>⟨m,o,h1,s _ _ h2⟩⟩⟩
def GP (K:Q1):R2:=fun x y H Q=>∃ a b xs ys,x=.ref a/\y=.ref b/\aj K H a xs/\aj K H b ys/\xs.length+ys.length<=sizeLine/\(xs=[]->Q (.ref b) H)/\
 (xs≠[]->ys=[]->Q (.ref a) H)/\(xs≠[]->ys≠[]->∀ p,H p=none->Q (.ref p) (upd H p (.tup (xs++ys))))
theorem u7 (K:Q1) (h:X.K=K:=by rfl):ck X (binaryOp .Add) (GP K):=by
 subst h
 intro pins s σ H x y v u Q I rx ry h
 obtain ⟨a,b,xs,ys,rfl,rfl,ha,hb,hz,q0,q1,q2⟩:=h
 by_cases hx:xs=[]
 ·cases rx
  cases ry
  obtain ⟨its,r1,p1,_⟩:=I.tuple ha
  obtain ⟨its2,r2,p2,_⟩:=I.tuple hb
  have hi:its=[]:=r1.Gg.mpr hx
  obtain ⟨⟨cls,dd,data,sl⟩,ho,hc,n,hd⟩:=id p1
  obtain ⟨⟨L0,AR,data2,AS⟩,yw,lu,n2,hd2⟩:=id p2
  simp only at hc hd lu hd2
  subst hc hd lu hd2
  exact concat_meets ⟨_,ho,rfl⟩ ⟨_,yw,rfl⟩ noFill_tuple_add seq_tuple_add PySem.F.slot_tuple_add PySem.F.entry_tuple_add (PySem.F.args_tuple_add_2 _ _)
   (tuple_addW0 a b its.toArray its2.toArray n n2 dd AR sl AS (by simp [hi])) ⟨ho,yw,⟨.ref b,H,I,rfl,q0 hx⟩⟩
 ·exact S2 pins s σ H _ _ v u Q I rx ry ⟨a,b,xs,ys,rfl,rfl,ha,hb,hx,hz,q1 hx,q2 hx⟩
theorem MY {K:Q1} {xs ys:List V} {Q:VK} (ha:H a=some (.tup xs)) (hb:H b=some (.tup ys)) (hz:xs.length+ys.length<=sizeLine) (h:∀ p H',aa H H'->H' p=some (.tup (xs++ys))->Q (.ref p) H'):GP K (.ref a) (.ref b) H Q:=by
 refine ⟨a,b,xs,ys,rfl,rfl,aj.of ha,aj.of hb,hz,fun e=>?_,fun _ e=>?_,fun _ _ p hp=>?_⟩
 ·subst e;exact h b H (aa.refl _) hb
 ·subst e;exact h a H (aa.refl _) (by rw [QS];exact ha)
 ·exact h p _ (aa.upd hp _) aA
theorem SV.append {xs ys:List V} {ts:List (List Str)} (h:SV H xs ss) (h':SV H ys ts):SV H (xs++ys) (ss++ts):=by
 have hl:=h.len
 have zd:=h'.len
 refine ⟨by simp [hl,zd],fun i h1 h2=>?_⟩
 by_cases au:i < xs.length
 ·rw [Qe au,Qe (by omega)]
  exact h.at_ i au (by omega)
 ·rw [Qf (by omega),Qf (by omega)]
  have:=h'.at_ (i - xs.length) (by simp at h1;omega) (by simp at h2;omega)
  simpa [hl] using this
theorem SV.one {H:Hp} {b:Addr} {m:List Str} (e:be H b (m.map V.str)):SV H [.ref b] [m]:=SV.nil.snoc e
theorem SV.same {H H':Hp} {xs:List V} {ss:List (List Str)} (h:SV H xs ss) (s:aa H H'):SV H' xs ss:=h.keep fun _ _ r=>r.same s
theorem kR {k:Nat} (hr:di k A):A.units+20 < cLine:=by have:=hr.un;omega
section
variable {d:Addr} {od:Obj} {es:Array DictEntry} {ok ov:Value} {Q:Option Value->Shared->Prop}
theorem uM {en:DictEntry} (a0:IsItemIter s.heap it d i n ep ok ov) (n_:s.heap.get? d=some od) (oi:od.data=.dict es ep) (hn:es.size=n) (hx:es[i]? =some en)
  (hQ:∀ h',IsItemIterOut h' it d (i+1) n ep en.key en.val s.heap.objs.size->h'.get? s.heap.objs.size=some {cls:=.type "tuple",data:=.seq #[en.key,en.val]}->
   (∀ b o,b≠it->s.heap.get? b=some o->h'.get? b=some o)->Q (some (.ref s.heap.objs.size)) {s with heap:=h'}):wpAny (model P w) A (pyNext (.ref it)) Q E s:=by
 obtain ⟨hp,g,dr,tk,os⟩:=s
 have ty:Shared.TypeIs ⟨hp,g,dr,tk,os⟩ (.ref it) "dict_itemiterator":=⟨_,a0,rfl⟩
 have au:i < es.size:=(Array.getElem?_eq_some_iff.mp hx).1
 have hen:es[i]=en:=(Array.getElem?_eq_some_iff.mp hx).2
 have own:Builtin.Dict_items.ownsTuple "dict_itemiterator"=true:=by decide
 have qc:¬(Value.ref d==Value.none)=true:=fun hz=>Bool.false_ne_true hz
 unfold pyNext
 refine QU (wpAny_attempt (wpAny_callSpecial?_slot (name:=Str.ofString "__next__") ty F.slot_dict_itemiterator_next (wpAny_call_entry F.slot_dict_itemiterator_next ty F.entry_dict_itemiterator_next ?_ (F.args_dict_itemiterator_next_1 _))))
 refine QU (QV (QU (QU ?_)))
 first
  | refine QU (wpAny_typeNameOfWhole_itemiter ty (QV (QU (wpAny_fieldsOf a0 rfl ?_))))
  | refine QU (wpAny_typeNameOf_itemiter ty (QV (QU (wpAny_fieldsOf a0 rfl ?_))))
 simp only [own,if_true]
 show wpAny _ _ (if (Value.ref d==Value.none)=true then _ else _) _ _ _
 rw [if_neg qc]
 refine QU (QV (QU (wpAny_dictEntries n_ oi ?_)))
 rw [if_neg (by rw [hn];simp)]
 refine QU (QV (QU (wpAny_dictEpoch n_ oi ?_)))
 rw [if_neg (by simp)]
 refine QV ?_
 simp only [show ¬((i:Int) < 0) by omega,if_false,Int.toNat_natCast,hx]
 refine QU ?_
 first
  | refine QU (wpAny_typeNameOfWhole_itemiter ty (QV (QU (wpAny_isOneOf_itemiter ty ?_))))
  | refine QU (wpAny_typeNameOf_itemiter ty (QV (QU (wpAny_isOneOf_itemiter ty ?_))))
 show wpAny _ _ (setField (.ref it) 3 (rawInt ((i:Int)+1)) >>=_) _ _ ⟨hp,g,dr,tk,os⟩
 refine QU (wpAny_setField_rec a0 (by simp) fun k1 b1 c1=>?_)
 have Ji:Heap.SameBut it hp k1:=c1
 have MZ:IsItemIter k1 it d (i+1) n ep ok ov:=by
  have e:((i+1:Nat):Int)=(i:Int)+1:=by omega
  unfold IsItemIter;rw [e];simpa [rawInt] using b1
 have M0:Shared.TypeIs ⟨k1,g,dr,tk,os⟩ (.ref it) "dict_itemiterator":=⟨_,MZ,rfl⟩
 refine QU (wpAny_holding (QU (wpAny_isOneOf_itemiter M0 (QU (wpAny_isOneOf_itemiter M0 ?_)))))
 show wpAny _ _ (Builtin.Dict_items.pairFromOwner (.ref it) 6 en.key en.val) _ _ ⟨k1,g,dr,tk,os⟩
 unfold Builtin.Dict_items.pairFromOwner
 refine QU (wpAny_newTuple ?_)
 have sz:k1.objs.size=hp.objs.size:=Ji.1
 have il:it < hp.objs.size:=QA a0
 have b2:IsItemIter (k1.push {cls:=.type "tuple",data:=.seq #[en.key,en.val]}) it d (i+1) n ep ok ov:=Qc _ MZ
 have t2:(k1.push {cls:=.type "tuple",data:=.seq #[en.key,en.val]}).get? hp.objs.size=some {cls:=.type "tuple",data:=.seq #[en.key,en.val]}:=by rw [<- sz];exact Qd _ rfl
 have m2:∀ b o,b≠it->hp.get? b=some o->(k1.push {cls:=.type "tuple",data:=.seq #[en.key,en.val]}).get? b=some o:=fun b o hb e=>Qc _ (Ji.extBut b o hb e)
 show wpAny _ _ (Builtin.Dict_items.ownedTupleIsFree (.ref it) >>=_) _ _ ⟨k1.push {cls:=.type "tuple",data:=.seq #[en.key,en.val]},g,dr,tk,os⟩
 rw [sz]
 generalize k1.push {cls:=.type "tuple",data:=.seq #[en.key,en.val]}=k2 at b2 t2 m2
 refine QU ?_
 unfold Builtin.Dict_items.ownedTupleIsFree
 refine QU (wpAny_field b2 rfl (x:=.none) rfl (QV ?_))
 simp only [if_true]
 refine QU (wpAny_field b2 rfl (x:=ok) rfl (QU (wpAny_field b2 rfl (x:=ov) rfl (QU (wpAny_setField_rec b2 (by simp) fun k3 b3 c3=>?_)))))
 have VR:IsItemIter k3 it d (i+1) n ep en.key ov:=b3
 refine QU (wpAny_setField_rec VR (by simp) fun k4 b4 c4=>?_)
 have VS:IsItemIter k4 it d (i+1) n ep en.key en.val:=b4
 refine QU (wpAny_setField_rec VS (by simp) fun k5 b5 c5=>?_)
 have VT:IsItemIterOut k5 it d (i+1) n ep en.key en.val hp.objs.size:=b5
 refine QU (wpAny_setField_rec VT (by simp) fun k6 b6 c6=>?_)
 have up:∀ b o,b≠it->k2.get? b=some o->k6.get? b=some o:=fun b o hb e=>c6.extBut b o hb (c5.extBut b o hb (c4.extBut b o hb (c3.extBut b o hb e)))
 exact QU (wpAny_letGo (QV (QV ⟨_,rfl,QV (hQ k6 b6 (up _ _ (Nat.ne_of_gt il) t2) fun b o hb e=>up b o hb (m2 b o hb e))⟩)))
theorem wK (hh:A.handled=none) (a0:IsItemIter s.heap it d i n ep ok ov) (n_:s.heap.get? d=some od) (oi:od.data=.dict es ep) (hn:es.size=n) (hx:n<=i)
  (hQ:∀ h',Heap.ExtBut it s.heap h'->Q none {s with heap:=h'}):wpAny (model P w) A (pyNext (.ref it)) Q E s:=by
 have ty:s.TypeIs (.ref it) "dict_itemiterator":=⟨_,a0,rfl⟩
 have own:Builtin.Dict_items.ownsTuple "dict_itemiterator"=true:=by decide
 have Jj:es.size<=i:=by omega
 have qc:¬(Value.ref d==Value.none)=true:=fun hz=>Bool.false_ne_true hz
 unfold pyNext
 refine QU (wpAny_attempt (wpAny_callSpecial?_slot (name:=Str.ofString "__next__") ty F.slot_dict_itemiterator_next (wpAny_call_entry F.slot_dict_itemiterator_next ty F.entry_dict_itemiterator_next ?_ (F.args_dict_itemiterator_next_1 _))))
 refine QU (QV (QU (QU ?_)))
 first
  | refine QU (wpAny_typeNameOfWhole_itemiter ty (QV (QU (wpAny_fieldsOf a0 rfl ?_))))
  | refine QU (wpAny_typeNameOf_itemiter ty (QV (QU (wpAny_fieldsOf a0 rfl ?_))))
 simp only [own,if_true]
 show wpAny _ _ (if (Value.ref d==Value.none)=true then _ else _) _ _ _
 rw [if_neg qc]
 refine QU (QV (QU (wpAny_dictEntries n_ oi ?_)))
 rw [if_neg (by rw [hn];simp)]
 refine QU (QV (QU (wpAny_dictEpoch n_ oi ?_)))
 rw [if_neg (by simp)]
 refine QV ?_
 simp only [show ¬((i:Int) < 0) by omega,if_false,Int.toNat_natCast,Array.getElem?_eq_none Jj]
 refine QU ?_
 first
  | refine QU (wpAny_typeNameOfWhole_itemiter ty (QV ?_))
  | refine QU (wpAny_typeNameOf_itemiter ty (QV ?_))
 show wpAny _ _ (setField (.ref it) 2 .none >>=_) _ _ s
 refine QU (wpAny_setField a0 rfl (by simp) ?_)
 show wpAny _ _ (newExc (.type "StopIteration") [] >>=_) _ _ _
 refine QU ?_
 simp only [newExc,newTuple]
 refine QU (wpAny_newObj_type (QU (m:=firstArgMember _ _) (wpAny_of_eq (a:=Value.none) (by first | rfl | (simp only [firstArgMember];rfl)) (wpAny_newObj_type ?_ (by size_fits)))) (by size_fits))
 simp only [raiseNew]
 refine QU (wpAny_handled ?_)
 rw [show A.in1.handled=none from hh]
 refine QU (QV (wpAny_throw ?_))
 refine QU (wpAny_isInstance (T:="StopIteration") (b:=true) ⟨_,Qd _ rfl,rfl⟩ isSubtype_stop ?_)
 exact QV (hQ _ (((Heap.SameBut.update ..).extBut.push _).push _))
end
def E7 (a:Addr) (o:Obj) (kvs:List (List Key×V)):It:=⟨fun i H=>H a=some (.ae o (.dT kvs))/\i < kvs.length,fun i H x H'=>∃ b kv,kvs[i]? =some kv/\be H b (kv.1.map kV)/\EN (.ref b) kv.2 H x H',fun i H=>H a=some (.ae o (.dT kvs))/\kvs.length=i⟩
theorem xT {kvs:List (List Key×V)} (r:KT H kvs xs):∀ {i:Nat} {p:List Key×V},kvs[i]? =some p->∃ q,xs[i]? =some q/\be H q.2.1 (p.1.map kV)/\RelV p.2 q.2.2:=by
 intro i
 induction r generalizing i with
 | nil=>intro p h;simp at h
 | cons a t ih=>
  intro p h
  cases i with
  | zero=>simp at h;subst h;exact ⟨_,by simp,a.2.1,a.2.2⟩
  | succ i=>simp at h;simpa using ih h
theorem qJ {K:Q1} {k:Nat} {pos:Pos} {kvs:List (List Key×V)} (VB:a≠it) (nu:∃ es,o.data=.dict es ep):
  Turn P w K (.Tuple BA k pos) (E7 a o kvs) [it] it (fun i h=>∃ ok ov,IsItemIter h it a i kvs.length ep ok ov) where
 mem:=by simp
 obj:=fun i h st b hb=>by
  have e:b=it:=by simpa using hb
  subst e
  obtain ⟨ok,ov,he⟩:=st
  exact ⟨_,he,fun v z=>by
   have z':Data.fields _=Data.cell v:=z
   cases z'⟩
 keep:=fun i h h' st k=>let ⟨ok,ov,he⟩:=st;⟨ok,ov,k it (by simp) _ he⟩
 item:=by
  intro X hP hw hK hc i pins s σ H E I hf st hg
  subst hP hw hK
  obtain ⟨ok,ov,he⟩:=st
  obtain ⟨hq,hi⟩:=hg
  obtain ⟨e,z,hd,xs,rel,ob,es,lh,h1,h2,h3,h4,h5⟩:=(show bg X.prog X.w H s.heap a (.ae o (.dT kvs)) from I.hok a _ hq)
  obtain ⟨es',e_⟩:=nu
  rw [e] at h1;cases h1
  rw [e_] at h3;injection h3 with ii ik
  subst ii ik
  obtain ⟨q,ly,nq,Cf⟩:=xT rel (Qa hi)
  have hl:=Paired.length rel
  have hsz:es'.size=kvs.length:=by rw [<- Array.length_toList,h4,Ql];exact hl.symm
  have hx:es'[i]? =some (entryOfKey (tupleKind (cg X.prog X.w)) q):=by rw [<- Array.getElem?_toList,h4,Qq,ly];rfl
  refine uM (n:=kvs.length) he e e_ hsz hx fun h' ho hT IZ=>?_
  have rk:RelV (.ref q.2.1) (entryOfKey (tupleKind (cg X.prog X.w)) q).key:=rfl
  have rv:RelV kvs[i].2 (entryOfKey (tupleKind (cg X.prog X.w)) q).val:=Cf
  have I1:Inv X pins σ (upd H s.heap.objs.size (.tup [.ref q.2.1,kvs[i].2])) {s with heap:=h'}:=I.IK (t':=s.toks) hf (fun b o hb e=>IZ b o (fun z=>hb (by simp [z])) e) (Qz _) (o9 rk rv hT)
  refine ⟨_,rfl,wpAny_letOwnedTupleGo_items (s:={s with heap:=h'}) ho fun Dg I0 sb=>?_⟩
  have au:it≠s.heap.objs.size:=Nat.ne_of_lt (QA he)
  obtain ⟨f0,f1,f2,f3,f4,f5⟩:=hf it (by simp)
  have EX:upd H s.heap.objs.size (.tup [.ref q.2.1,kvs[i].2]) it=none:=by rw [aB au];exact f0
  refine ⟨.ref s.heap.objs.size,_,I1.turned (t':=s.toks) (fun b o hb q=>(sb.2 b hb).trans q) EX f1 f3 f4 f5,rfl,⟨q.2.1,kvs[i],Qa hi,nq,_,rfl,I.hok.fresh (Qz _),rfl⟩,⟨_,_,I0⟩,fun b hb=>?_⟩
  have e:b=it:=by simpa using hb
  subst e
  exact EX
 done:=by
  intro X hP hw hK hc i pins s σ H E I hf st hg
  subst hP hw hK
  obtain ⟨ok,ov,he⟩:=st
  obtain ⟨hq,hi⟩:=hg
  obtain ⟨e,z,hd,xs,rel,ob,es,lh,h1,h2,h3,h4,h5⟩:=(show bg X.prog X.w H s.heap a (.ae o (.dT kvs)) from I.hok a _ hq)
  obtain ⟨es',e_⟩:=nu
  rw [e] at h1;cases h1
  rw [e_] at h3;injection h3 with ii ik
  subst ii ik
  have hl:=Paired.length rel
  have hsz:es'.size=kvs.length:=by rw [<- Array.length_toList,h4,Ql];exact hl.symm
  obtain ⟨f0,f1,f2,f3,f4,f5⟩:=hf it (by simp)
  exact wK (n:=kvs.length) (I.ok.hd hc) he e e_ hsz (by omega) fun h' eb=>⟨rfl,I.turned (t':=s.toks) (fun b o hb e=>eb b o hb e) f0 f1 f3 f4 f5⟩
 self:=fun _ _ _ _ _ st h=>let ⟨_,_,he⟩:=st;PySem.W.kcp_self he h
section
variable {k:Nat} {vf:Pos} {o:Expr}
theorem kI {v d:Addr} {od:Obj} {es:Array DictEntry} (hv:s.heap.IsItemsView v d) (n_:s.heap.get? d=some od) (oi:od.data=.dict es ep)
  (hQ:Q (.ref s.heap.objs.size) {s with heap:=s.heap.push {cls:=.type "dict_itemiterator",data:=.fields #[.none,.bool false,.ref d,.int 0 0,.int es.size 0,.int ep 0,.none,.none]}}):wpAny (model P w) A (pyIter (.ref v)) Q E s:=by
 obtain ⟨ov,Jk,VU,Jl⟩:=id hv
 have own:Builtin.Dict_items.ownsTuple "dict_itemiterator"=true:=by decide
 refine wpAny_pyIter_slot hv.typeIs F.slot_dict_items_iter (wpAny_call_entry F.slot_dict_items_iter hv.typeIs F.entry_dict_items_iter ?_ (F.args_dict_items_iter_1 _))
 unfold Builtin.«dict_items.__iter__»
 refine QU (QV (QU ?_))
 unfold Builtin.Dict_items.dictOf
 refine QU (wpAny_field Jk Jl (x:=.ref d) rfl (QV (QU ?_)))
 unfold Builtin.Dict_items.newIterator
 refine QU (wpAny_dictEntries n_ oi (QU (wpAny_dictEpoch n_ oi ?_)))
 simp only [own,if_true]
 refine wpAny_newObj_type (QV ⟨_,rfl,"dict_itemiterator",_,⟨_,Qd _ rfl,rfl⟩,F.slot_dict_itemiterator_next.lookup,?_⟩) (by simp only [sizeOk,Builtin.Dict_items.ownedTupleFields,List.size_toArray,Qk,List.length_cons,List.length_nil,QM];omega)
 simpa [rawInt,Builtin.Dict_items.ownedTupleFields] using hQ
theorem lD (d:Addr) (hd:(d==sysModules)=false):
  MeetsIn P w (Builtin.«dict.items» ⟨[.ref d],[]⟩) (fun _ R s=>s.TypeIs (.ref d) "dict"/\R (.ok (.ret (.ref s.heap.objs.size))) {s with heap:=s.heap.push {cls:=.type "dict_items",data:=.fields #[.ref d]}}):=
 .of_wp fun A R s ⟨hm,h⟩=>by
  unfold Builtin.«dict.items» Builtin.Dict.noArgs
  refine QU (QU (wpAny_notOrdered_dict hm ?_))
  show wpAny _ _ (pure d) _ _ s
  refine QV ?_
  show wpAny _ _ (Builtin.Dict.showsAll d >>=_) _ _ s
  unfold Builtin.Dict.showsAll
  rw [if_neg (fun hz=>Bool.false_ne_true (hd.symm.trans hz))]
  exact QU (QV (QU (wpAny_newObj_type (QV ⟨_,rfl,h⟩))))
def VV (te:TE):TI:=fun σ H R=>te σ H fun x H1=>∃ a kvs o,x=.ref a/\H1 a=some (.ae o (.dT kvs))/\R (E7 a o kvs) H1
theorem wA (ho:SE X o to) (jt:attributeBase o "items" X.env (eval o X.env)=eval o X.env:=by rfl) (ju:(apos.endLine==cpos.line)=true:=by rfl):
  SI X (.Tuple BA k vf) (.Call (.Attribute o "items" apos) [] [] cpos) (VV to):=by
 constructor
 intro pins s σ H R I h
 refine wpAny_Call_method0_late jt ju (ao (ho.h pins s σ H _ I h) ?_)
 rintro v s1 ⟨x,H1,I1,r1,a,kvs,o,ex,hH,q⟩
 subst ex
 cases r1
 obtain ⟨e,z,ur,xs,rel,ob,es,ep,h1,h2,hd,h4,h5⟩:=(show bg X.prog X.w _ s1.heap a (.ae o (.dT kvs)) from I1.hok a _ hH)
 rw [e] at h1;cases h1
 have hl:=Paired.length rel
 have hsz:es.size=kvs.length:=by rw [<- Array.length_toList,h4,Ql];exact hl.symm
 have hT:s1.TypeIs (.ref a) "dict":=⟨o,e,h2.1⟩
 refine ⟨"dict","dict.items",PySem.F.plainAttrs_dict,PySem.F.slot_dict_items,PySem.F.type_dict_items,hT,fun b hb=>by cases hb;exact ⟨o,e,h2.2.1⟩,Calls.callWith_builtin rfl (PySem.evalArgs_none ?_)⟩
 refine call_meetsIn PySem.F.slot_dict_items hT PySem.F.entry_dict_items (PySem.F.args_dict_items_1 _) (lD a ur) ⟨hT,?_⟩
 have I3:Inv X pins σ H1 {s1 with heap:=s1.heap.push {cls:=.type "dict_items",data:=.fields #[.ref a]}}:=I1.kept (t':=s1.toks) fun b o e=>Qc _ e
 refine kI (es:=es) (ep:=ep) ⟨_,Qd _ rfl,rfl,rfl⟩ (Qc _ e) hd ?_
 have gr:a≠(s1.heap.push {cls:=.type "dict_items",data:=.fields #[.ref a]}).objs.size:=by
  rw [Heap.size_push];exact Nat.ne_of_lt (Nat.lt_succ_of_lt (QA e))
 refine ⟨_,[(s1.heap.push {cls:=.type "dict_items",data:=.fields #[.ref a]}).objs.size],_,_,_,rfl,I3.kept (t':=s1.toks) fun b o e=>Qc _ e,qJ (kvs:=kvs) (a:=a) (o:=o) gr ⟨es,hd⟩,⟨.none,.none,by rw [<- hsz];exact Qd _ rfl⟩,fun b hb=>?_,q⟩
 have e:b=(s1.heap.push {cls:=.type "dict_items",data:=.fields #[.ref a]}).objs.size:=by simpa using hb
 subst e
 exact I3.ve (Qz _) (I3.hok.fresh (Qz _))
end
def E8 (a:Addr) (o:Obj) (kvs:List (Key×V)):It:=⟨fun i H=>H a=some (.ae o (.dK kvs))/\i < kvs.length,fun i H x H'=>H'=H/\x=valAt kvs i,fun i H=>H a=some (.ae o (.dK kvs))/\kvs.length=i⟩
theorem yP (kvs:List (Key×V)):y_ (E8 a o kvs) (fun H=>H a=some (.ae o (.dK kvs))) kvs.length (valAt kvs):=fun H ok=>⟨fun i hi=>⟨⟨ok,hi⟩,fun x H' h=>h⟩,ok,rfl⟩
theorem vH {K:Q1} {kvs:List (Key×V)} (nu:∃ es,o.data=.dict es ep):Turn P w K tg (E8 a o kvs) [it] it (fun i h=>h.IsValIter it a i kvs.length ep) where
 mem:=by simp
 obj:=fun i h st b hb=>by
  have e:b=it:=by simpa using hb
  subst e
  obtain ⟨o,e,c,d⟩:=st
  exact ⟨o,e,fun v z=>by rw [d] at z;cases z⟩
 keep:=fun i h h' st k=>let ⟨o,e,r⟩:=st;⟨o,k it (by simp) o e,r⟩
 item:=by
  intro X hP hw hK hc i pins s σ H E I hf st hg
  subst hP hw hK
  obtain ⟨hq,hi⟩:=hg
  obtain ⟨e,z,hd,vs,rel,ob,es,lh,h1,h2,h3,h4⟩:=(show bg X.prog X.w H s.heap a (.ae o (.dK kvs)) from I.hok a _ hq)
  obtain ⟨es',e_⟩:=nu
  rw [e] at h1;cases h1
  rw [e_] at h3;injection h3 with ii ik
  subst ii ik
  obtain ⟨q,ly,nq,Cf⟩:=kQ rel (Qa hi)
  have hl:=rel.len
  obtain ⟨f0,f1,f2,f3,f4,f5⟩:=hf it (by simp)
  obtain ⟨qk,qv⟩:=q
  refine wpAny_pyNext_values_item (knd:=cg X.prog X.w) (kvs:=vs) (ep:=ep) (by rw [<- hl];exact st) ⟨o,es',e,h2,e_,h4⟩ ly fun h' st' sb=>?_
  have I1:Inv X pins σ H {s with heap:=h'}:=I.turned (t':=s.toks) (fun b o hb e=>(sb.2 b hb).trans e) f0 f1 f3 f4 f5
  have fu:h'.IsValIter it a (i+1) kvs.length ep:=by rw [hl];exact st'
  obtain ⟨o3,e3,c3,d3⟩:=id fu
  refine ⟨qv,rfl,jS (s:={s with heap:=h'}) e3 c3 d3 (by decide) ⟨valAt kvs i,H,I1,?_,⟨rfl,rfl⟩,fu,fun b hb=>(hf b hb).1⟩⟩
  unfold valAt
  rw [Qa hi]
  exact Cf
 done:=by
  intro X hP hw hK hc i pins s σ H E I hf st hg
  subst hP hw hK
  obtain ⟨hq,hi⟩:=hg
  obtain ⟨e,z,hd,vs,rel,ob,es,lh,h1,h2,h3,h4⟩:=(show bg X.prog X.w H s.heap a (.ae o (.dK kvs)) from I.hok a _ hq)
  obtain ⟨es',e_⟩:=nu
  rw [e] at h1;cases h1
  rw [e_] at h3;injection h3 with ii ik
  subst ii ik
  have hl:=rel.len
  obtain ⟨f0,f1,f2,f3,f4,f5⟩:=hf it (by simp)
  exact wpAny_pyNext_values_end (knd:=cg X.prog X.w) (kvs:=vs) (ep:=ep) (I.ok.hd hc) (by rw [<- hl];exact st) ⟨o,es',e,h2,e_,h4⟩ (by simp;omega) fun h' eb=>⟨rfl,I.turned (t':=s.toks) (fun b o hb e=>eb b o hb e) f0 f1 f3 f4 f5⟩
 self:=fun _ _ _ _ _ st h=>wpAny_pyIter_valiter st h
section
variable {o:Expr}
def VW (te:TE):TI:=fun σ H R=>te σ H fun x H1=>∃ a kvs,x=.ref a/\((∃ o,H1 a=some (.ae o (.dK kvs))/\R (E8 a o kvs) H1)\/(H1 a=some (.dK kvs)/\∀ o,R (E8 a o kvs) (upd H1 a (.ae o (.dK kvs)))))
theorem VX (ho:SE X o to) (jt:attributeBase o "values" X.env (eval o X.env)=eval o X.env:=by rfl) (ju:(apos.endLine==cpos.line)=true:=by rfl):
  SI X tg (.Call (.Attribute o "values" apos) [] [] cpos) (VW to):=by
 constructor
 intro pins s σ H R I h
 refine wpAny_Call_method0_late jt ju (ao (ho.h pins s σ H _ I h) ?_)
 rintro v s1 ⟨x,H1,I1,r1,a,kvs,ex,hr⟩
 subst ex
 cases r1
 obtain ⟨o,H2,I2,I_,q⟩:∃ (o:Obj) (H2:Hp),Inv X pins σ H2 s1/\H2 a=some (.ae o (.dK kvs))/\R (E8 a o kvs) H2:=by
  rcases hr with ⟨o,e,q⟩ | ⟨e,q⟩
  ·exact ⟨o,H1,I1,e,q⟩
  ·obtain ⟨o,_,_,_,I2,_⟩:=I1.freeze (.inl e)
   exact ⟨o,_,I2,aA,q o⟩
 obtain ⟨e,z,ur,vs,rel,ob,es,ep,h1,h2,hd,h4⟩:=(show bg X.prog X.w _ s1.heap a (.ae o (.dK kvs)) from I2.hok a _ I_)
 rw [e] at h1;cases h1
 have hl:=rel.len
 have hT:s1.TypeIs (.ref a) "dict":=⟨o,e,h2.1⟩
 refine ⟨"dict","dict.values",PySem.F.plainAttrs_dict,PySem.F.slot_dict_values,PySem.F.type_dict_values,hT,fun b hb=>by cases hb;exact ⟨o,e,h2.2.1⟩,Calls.callWith_builtin rfl (PySem.evalArgs_none ?_)⟩
 refine call_meetsIn PySem.F.slot_dict_values hT PySem.F.entry_dict_values (PySem.F.args_dict_values_1 _) (meets_dict_values (cg X.prog X.w) a ur) ⟨⟨vs,o,es,ep,e,h2,hd,h4⟩,?_⟩
 have I3:Inv X pins σ H2 {s1 with heap:=s1.heap.push {cls:=.type "dict_values",data:=.fields #[.ref a]}}:=I2.kept (t':=s1.toks) fun b o e=>Qc _ e
 refine wpAny_pyIter_values (knd:=cg X.prog X.w) (kvs:=vs) (ep:=ep) ⟨_,Qd _ rfl,rfl,rfl⟩ ⟨o,es,Qc _ e,h2,hd,h4⟩ ?_
 refine ⟨_,[(s1.heap.push {cls:=.type "dict_values",data:=.fields #[.ref a]}).objs.size],_,_,_,rfl,I3.kept (t':=s1.toks) fun b o e=>Qc _ e,vH (kvs:=kvs) (a:=a) (o:=o) ⟨es,hd⟩,by rw [hl];exact ⟨_,Qd _ rfl,rfl,rfl⟩,fun b hb=>?_,q⟩
 have e:b=(s1.heap.push {cls:=.type "dict_values",data:=.fields #[.ref a]}).objs.size:=by simpa using hb
 subst e
 exact I3.ve (Qz _) (I3.hok.fresh (Qz _))
end
theorem tH {K:Q1} {ad:Addr} {kvs:List (List Key×V)} {a b:Nat} {tb:TS} (Pv:Nat->St->Hp->Prop) (h0:Pv 0 σ H) (hok:∀ i τ H,i<=kvs.length->Pv i τ H->H ad=some (.ae o (.dT kvs)))
  (hs:∀ i σ H T c,(h:i < kvs.length)->Pv i σ H->H T=none->be H c (kvs[i].1.map kV)->tb {D with nx:=Pv (i+1),ct:=Pv (i+1),bk:=D.nx} ((σ.set a (some (.ref c))).set b (some kvs[i].2)) (upd H T (.tup [.ref c,kvs[i].2]))) (hd:∀ σ H,Pv kvs.length σ H->D.nx σ H):
  ∃ W:Nat->Nat->St->Hp->Prop,(∃ m,W 0 m σ H)/\∀ i m σ H,W i m σ H->
   ((E7 ad o kvs).stop i H/\D.nx σ H)\/((E7 ad o kvs).go i H/\∃ N:St->Hp->Prop,(∀ σ' H',N σ' H'->∃ m',m' < m/\W (i+1) m' σ' H')/\∀ x H',(E7 ad o kvs).lj i H x H'->g2 K a b x σ H' fun σ2 H2=>tb {D with nx:=N,ct:=N,bk:=D.nx} σ2 H2):=by
 refine ⟨fun i m σ H=>m=kvs.length - i/\i<=kvs.length/\Pv i σ H,⟨kvs.length,by simp,Nat.zero_le _,h0⟩,?_⟩
 rintro i m σ H ⟨rfl,hi,p⟩
 have hk:=hok i σ H hi p
 by_cases au:i < kvs.length
 ·refine .inr ⟨⟨hk,au⟩,Pv (i+1),fun σ' H' p'=>⟨kvs.length - (i+1),by omega,rfl,au,p'⟩,fun x H' y=>?_⟩
  obtain ⟨c,kv,GQ,rd,T,rfl,hT,rfl⟩:=y
  have e:kv=kvs[i]:=by rw [Qa au] at GQ;exact (QE GQ).symm
  subst e
  exact fJ aA (hs i σ _ T c au p hT rd)
 ·have e:i=kvs.length:=by omega
  subst e
  exact .inl ⟨⟨hk,rfl⟩,hd σ H p⟩
theorem nE {rows:List ak} {e:Str} (h:endOf rows e=e):kq rows (aq rows e)=tq rows e:=by
 unfold kq tq bq
 rw [h,Qn];rfl
theorem Paired.at {β:Type} {R:α->β->Prop} {xs:List α} {ys:List β} (h:Paired R xs ys):∀ i (h1:i < xs.length) (h2:i < ys.length),R xs[i] ys[i]:=by
 induction h with
 | nil=>intro i h1;exact absurd h1 (by simp)
 | cons a _ ih=>
  intro i h1 h2
  cases i with
  | zero=>exact a
  | succ i=>exact ih i (by simpa using h1) (by simpa using h2)
theorem dj.same {H H':Hp} {a:Addr} {y:V} {r:Option V} (g:dj H a y r) (s:aa H H'):dj H' a y r:=by
 rcases g with ⟨kvs,k,h1,h2,h3⟩ | ⟨kvs,k,b,h1,h2,h3,h4⟩
 ·exact .inl ⟨kvs,k,h1.same s,h2,h3⟩
 ·exact .inr ⟨kvs,k,b,h1.same s,h2,h3.same s,h4⟩
section
variable {t1 i1 t2 i2 elt:Expr} {pos:Pos} {Vg:TI} {g2:TG}
end
section
variable {d:Addr} {od:Obj} {es:Array DictEntry} {Q:Option Value->Shared->Prop}
theorem nH {en:DictEntry} (a0:s.heap.IsValIter it d i n ep) (n_:s.heap.get? d=some od) (oi:od.data=.dict es ep) (hn:es.size=n) (hx:es[i]? =some en)
  (hQ:∀ h',h'.IsValIter it d (i+1) n ep->Heap.SameBut it s.heap h'->Q (some en.val) {s with heap:=h'}):wpAny (model P w) A (pyNext (.ref it)) Q E s:=by
 obtain ⟨o,ho,hc,hd⟩:=id a0
 have own:Builtin.Dict_items.ownsTuple "dict_valueiterator"=false:=by decide
 have qc:¬(Value.ref d==Value.none)=true:=fun hz=>Bool.false_ne_true hz
 unfold pyNext
 refine QU (wpAny_attempt (wpAny_callSpecial?_slot (name:=Str.ofString "__next__") a0.typeIs F.slot_dict_valueiterator_next (wpAny_call_entry F.slot_dict_valueiterator_next a0.typeIs F.entry_dict_valueiterator_next ?_ (F.args_dict_valueiterator_next_1 _))))
 refine QU (QV (QU (QU ?_)))
 first
  | refine QU (wpAny_typeNameOfWhole_valiter a0.typeIs (QV (QU (wpAny_fieldsOf ho hd ?_))))
  | refine QU (wpAny_typeNameOf_valiter a0.typeIs (QV (QU (wpAny_fieldsOf ho hd ?_))))
 simp only [own,Bool.false_eq_true,if_false]
 show wpAny _ _ (if (Value.ref d==Value.none)=true then _ else _) _ _ s
 rw [if_neg qc]
 refine QU (QV (QU (wpAny_dictEntries n_ oi ?_)))
 rw [if_neg (by rw [hn];simp)]
 refine QU (QV (QU (wpAny_dictEpoch n_ oi ?_)))
 rw [if_neg (by simp)]
 refine QV ?_
 simp only [show ¬((i:Int) < 0) by omega,if_false,Int.toNat_natCast,hx]
 refine QU ?_
 first
  | refine QU (wpAny_typeNameOfWhole_valiter a0.typeIs (QV (QU (wpAny_isOneOf_valiter a0.typeIs ?_))))
  | refine QU (wpAny_typeNameOf_valiter a0.typeIs (QV (QU (wpAny_isOneOf_valiter a0.typeIs ?_))))
 show wpAny _ _ (setField (.ref it) 1 (rawInt ((i:Int)+1)) >>=_) _ _ s
 refine QU (wpAny_setField ho hd (by simp) ?_)
 have b1:(s.heap.update it (Obj.mapFields (·.setIfInBounds 1 (rawInt ((i:Int)+1))))).IsValIter it d (i+1) n ep:=⟨_,Heap.get?_update_self _ ho (Obj.isFreed_of_fields (Obj.data_mapFields hd _)),(Obj.cls_mapFields ..).trans hc,by rw [Obj.data_mapFields hd];simp [rawInt]⟩
 have c1:Heap.SameBut it s.heap (s.heap.update it (Obj.mapFields (·.setIfInBounds 1 (rawInt ((i:Int)+1))))):=Heap.SameBut.update ..
 generalize s.heap.update it (Obj.mapFields (·.setIfInBounds 1 (rawInt ((i:Int)+1))))=k1 at b1 c1
 refine QU (wpAny_holding (QU (wpAny_isOneOf_valiter (s:={s with heap:=k1}) b1.typeIs (QU (wpAny_isOneOf_valiter (s:={s with heap:=k1}) b1.typeIs ?_)))))
 show wpAny _ _ (pure en.val) _ _ _
 exact QV (QV ⟨_,rfl,QV (hQ _ b1 c1)⟩)
theorem qH (hh:A.handled=none) (a0:s.heap.IsValIter it d i n ep) (n_:s.heap.get? d=some od) (oi:od.data=.dict es ep) (hn:es.size=n) (hx:n<=i)
  (hQ:∀ h',Heap.ExtBut it s.heap h'->Q none {s with heap:=h'}):wpAny (model P w) A (pyNext (.ref it)) Q E s:=by
 obtain ⟨o,ho,hc,hd⟩:=id a0
 have own:Builtin.Dict_items.ownsTuple "dict_valueiterator"=false:=by decide
 have qc:¬(Value.ref d==Value.none)=true:=fun hz=>Bool.false_ne_true hz
 have Jj:es.size<=i:=by omega
 unfold pyNext
 refine QU (wpAny_attempt (wpAny_callSpecial?_slot (name:=Str.ofString "__next__") a0.typeIs F.slot_dict_valueiterator_next (wpAny_call_entry F.slot_dict_valueiterator_next a0.typeIs F.entry_dict_valueiterator_next ?_ (F.args_dict_valueiterator_next_1 _))))
 refine QU (QV (QU (QU ?_)))
 first
  | refine QU (wpAny_typeNameOfWhole_valiter a0.typeIs (QV (QU (wpAny_fieldsOf ho hd ?_))))
  | refine QU (wpAny_typeNameOf_valiter a0.typeIs (QV (QU (wpAny_fieldsOf ho hd ?_))))
 simp only [own,Bool.false_eq_true,if_false]
 show wpAny _ _ (if (Value.ref d==Value.none)=true then _ else _) _ _ s
 rw [if_neg qc]
 refine QU (QV (QU (wpAny_dictEntries n_ oi ?_)))
 rw [if_neg (by rw [hn];simp)]
 refine QU (QV (QU (wpAny_dictEpoch n_ oi ?_)))
 rw [if_neg (by simp)]
 refine QV ?_
 simp only [show ¬((i:Int) < 0) by omega,if_false,Int.toNat_natCast,Array.getElem?_eq_none Jj]
 refine QU ?_
 first
  | refine QU (wpAny_typeNameOfWhole_valiter a0.typeIs (QV ?_))
  | refine QU (wpAny_typeNameOf_valiter a0.typeIs (QV ?_))
 show wpAny _ _ (setField (.ref it) 0 .none >>=_) _ _ s
 refine QU (wpAny_setField ho hd (by simp) ?_)
 show wpAny _ _ (newExc (.type "StopIteration") [] >>=_) _ _ _
 refine QU ?_
 simp only [newExc,newTuple]
 refine QU (wpAny_newObj_type (QU (m:=firstArgMember _ _) (wpAny_of_eq (a:=Value.none) (by first | rfl | (simp only [firstArgMember];rfl)) (wpAny_newObj_type ?_ (by size_fits)))) (by size_fits))
 simp only [raiseNew]
 refine QU (wpAny_handled ?_)
 rw [show A.in1.handled=none from hh]
 refine QU (QV (wpAny_throw ?_))
 refine QU (wpAny_isInstance (T:="StopIteration") (b:=true) ⟨_,Qd _ rfl,rfl⟩ isSubtype_stop ?_)
 exact QV (hQ _ (((Heap.SameBut.update ..).extBut.push _).push _))
end
def Dw (kvs:List (List Key×V)) (i:Nat):V:=((kvs[i]?).map fun kv=>kv.2).getD .ai
def Jm (a:Addr) (o:Obj) (kvs:List (List Key×V)):It:=⟨fun i H=>H a=some (.ae o (.dT kvs))/\i < kvs.length,fun i H x H'=>H'=H/\x=Dw kvs i,fun i H=>H a=some (.ae o (.dT kvs))/\kvs.length=i⟩
theorem vN (kvs:List (List Key×V)):y_ (Jm a o kvs) (fun H=>H a=some (.ae o (.dT kvs))) kvs.length (Dw kvs):=fun H ok=>⟨fun i hi=>⟨⟨ok,hi⟩,fun x H' h=>h⟩,ok,rfl⟩
theorem rA {K:Q1} {kvs:List (List Key×V)} (nu:∃ es,o.data=.dict es ep):Turn P w K tg (Jm a o kvs) [it] it (fun i h=>h.IsValIter it a i kvs.length ep) where
 mem:=by simp
 obj:=fun i h st b hb=>by
  have e:b=it:=by simpa using hb
  subst e
  obtain ⟨o,e,c,d⟩:=st
  exact ⟨o,e,fun v z=>by rw [d] at z;cases z⟩
 keep:=fun i h h' st k=>let ⟨o,e,r⟩:=st;⟨o,k it (by simp) o e,r⟩
 item:=by
  intro X hP hw hK hc i pins s σ H E I hf st hg
  subst hP hw hK
  obtain ⟨hq,hi⟩:=hg
  obtain ⟨e,z,hd,xs,rel,ob,es,lh,h1,h2,h3,h4,h5⟩:=(show bg X.prog X.w H s.heap a (.ae o (.dT kvs)) from I.hok a _ hq)
  obtain ⟨es',e_⟩:=nu
  rw [e] at h1;cases h1
  rw [e_] at h3;injection h3 with ii ik
  subst ii ik
  obtain ⟨q,ly,nq,Cf⟩:=xT rel (Qa hi)
  have hl:=Paired.length rel
  have hsz:es'.size=kvs.length:=by rw [<- Array.length_toList,h4,Ql];exact hl.symm
  have hx:es'[i]? =some (entryOfKey (tupleKind (cg X.prog X.w)) q):=by rw [<- Array.getElem?_toList,h4,Qq,ly];rfl
  obtain ⟨f0,f1,f2,f3,f4,f5⟩:=hf it (by simp)
  refine nH (n:=kvs.length) st e e_ hsz hx fun h' st' sb=>?_
  have I1:Inv X pins σ H {s with heap:=h'}:=I.turned (t':=s.toks) (fun b o hb e=>(sb.2 b hb).trans e) f0 f1 f3 f4 f5
  obtain ⟨o3,e3,c3,d3⟩:=id st'
  refine ⟨_,rfl,jS (s:={s with heap:=h'}) e3 c3 d3 (by decide) ⟨Dw kvs i,H,I1,?_,⟨rfl,rfl⟩,st',fun b hb=>(hf b hb).1⟩⟩
  unfold Dw
  rw [Qa hi]
  exact Cf
 done:=by
  intro X hP hw hK hc i pins s σ H E I hf st hg
  subst hP hw hK
  obtain ⟨hq,hi⟩:=hg
  obtain ⟨e,z,hd,xs,rel,ob,es,lh,h1,h2,h3,h4,h5⟩:=(show bg X.prog X.w H s.heap a (.ae o (.dT kvs)) from I.hok a _ hq)
  obtain ⟨es',e_⟩:=nu
  rw [e] at h1;cases h1
  rw [e_] at h3;injection h3 with ii ik
  subst ii ik
  have hl:=Paired.length rel
  have hsz:es'.size=kvs.length:=by rw [<- Array.length_toList,h4,Ql];exact hl.symm
  obtain ⟨f0,f1,f2,f3,f4,f5⟩:=hf it (by simp)
  exact qH (n:=kvs.length) (I.ok.hd hc) st e e_ hsz (by omega) fun h' eb=>⟨rfl,I.turned (t':=s.toks) (fun b o hb e=>eb b o hb e) f0 f1 f3 f4 f5⟩
 self:=fun _ _ _ _ _ st h=>wpAny_pyIter_valiter st h
section
variable {o:Expr}
theorem gH {v d:Addr} {od:Obj} {es:Array DictEntry} (hv:s.heap.IsValuesView v d) (n_:s.heap.get? d=some od) (oi:od.data=.dict es ep)
  (hQ:Q (.ref s.heap.objs.size) {s with heap:=s.heap.push {cls:=.type "dict_valueiterator",data:=.fields #[.ref d,.int 0 0,.int es.size 0,.int ep 0]}}):wpAny (model P w) A (pyIter (.ref v)) Q E s:=by
 obtain ⟨ov,Jk,VU,Jl⟩:=id hv
 have own:Builtin.Dict_items.ownsTuple "dict_valueiterator"=false:=by decide
 refine wpAny_pyIter_slot hv.typeIs F.slot_dict_values_iter (wpAny_call_entry F.slot_dict_values_iter hv.typeIs F.entry_dict_values_iter ?_ (F.args_dict_values_iter_1 _))
 unfold Builtin.«dict_values.__iter__»
 refine QU (QV (QU ?_))
 unfold Builtin.Dict_items.dictOf
 refine QU (wpAny_field Jk Jl (x:=.ref d) rfl (QV (QU ?_)))
 unfold Builtin.Dict_items.newIterator
 refine QU (wpAny_dictEntries n_ oi (QU (wpAny_dictEpoch n_ oi ?_)))
 simp only [own,Bool.false_eq_true,if_false]
 refine wpAny_newObj_type (QV ⟨_,rfl,"dict_valueiterator",_,⟨_,Qd _ rfl,rfl⟩,F.slot_dict_valueiterator_next.lookup,?_⟩)
 simpa [rawInt] using hQ
theorem fB (d:Addr) (hd:(d==sysModules)=false):
  MeetsIn P w (Builtin.«dict.values» ⟨[.ref d],[]⟩) (fun _ R s=>s.TypeIs (.ref d) "dict"/\R (.ok (.ret (.ref s.heap.objs.size))) {s with heap:=s.heap.push {cls:=.type "dict_values",data:=.fields #[.ref d]}}):=
 .of_wp fun A R s ⟨hm,h⟩=>by
  refine QU ?_
  unfold Builtin.Dict.noArgs
  refine QU (wpAny_notOrdered_dict hm ?_)
  show wpAny _ _ (pure d) _ _ s
  refine QV ?_
  show wpAny _ _ (Builtin.Dict.showsAll d >>=_) _ _ s
  unfold Builtin.Dict.showsAll
  rw [if_neg (fun hz=>Bool.false_ne_true (hd.symm.trans hz))]
  exact QU (QV (QU (wpAny_newObj_type (QV ⟨_,rfl,h⟩))))
def VY (te:TE):TI:=fun σ H R=>te σ H fun x H1=>∃ a kvs o,x=.ref a/\H1 a=some (.ae o (.dT kvs))/\R (Jm a o kvs) H1
theorem wL (ho:SE X o to) (jt:attributeBase o "values" X.env (eval o X.env)=eval o X.env:=by rfl) (ju:(apos.endLine==cpos.line)=true:=by rfl):
  SI X tg (.Call (.Attribute o "values" apos) [] [] cpos) (VY to):=by
 constructor
 intro pins s σ H R I h
 refine wpAny_Call_method0_late jt ju (ao (ho.h pins s σ H _ I h) ?_)
 rintro v s1 ⟨x,H1,I1,r1,a,kvs,o,ex,hH,q⟩
 subst ex
 cases r1
 obtain ⟨e,z,ur,xs,rel,ob,es,ep,h1,h2,hd,h4,h5⟩:=(show bg X.prog X.w _ s1.heap a (.ae o (.dT kvs)) from I1.hok a _ hH)
 rw [e] at h1;cases h1
 have hl:=Paired.length rel
 have hsz:es.size=kvs.length:=by rw [<- Array.length_toList,h4,Ql];exact hl.symm
 have hT:s1.TypeIs (.ref a) "dict":=⟨o,e,h2.1⟩
 refine ⟨"dict","dict.values",PySem.F.plainAttrs_dict,PySem.F.slot_dict_values,PySem.F.type_dict_values,hT,fun b hb=>by cases hb;exact ⟨o,e,h2.2.1⟩,Calls.callWith_builtin rfl (PySem.evalArgs_none ?_)⟩
 refine call_meetsIn PySem.F.slot_dict_values hT PySem.F.entry_dict_values (PySem.F.args_dict_values_1 _) (fB a ur) ⟨hT,?_⟩
 have I3:Inv X pins σ H1 {s1 with heap:=s1.heap.push {cls:=.type "dict_values",data:=.fields #[.ref a]}}:=I1.kept (t':=s1.toks) fun b o e=>Qc _ e
 refine gH (es:=es) (ep:=ep) ⟨_,Qd _ rfl,rfl,rfl⟩ (Qc _ e) hd ?_
 refine ⟨_,[(s1.heap.push {cls:=.type "dict_values",data:=.fields #[.ref a]}).objs.size],_,_,_,rfl,I3.kept (t':=s1.toks) fun b o e=>Qc _ e,rA (kvs:=kvs) (a:=a) (o:=o) ⟨es,hd⟩,by rw [<- hsz];exact ⟨_,Qd _ rfl,rfl,rfl⟩,fun b hb=>?_,q⟩
 have e:b=(s1.heap.push {cls:=.type "dict_values",data:=.fields #[.ref a]}).objs.size:=by simpa using hb
 subst e
 exact I3.ve (Qz _) (I3.hok.fresh (Qz _))
end
section
variable {a:Expr} {ta:TA} {p p2 pos aaM:Pos}
end
abbrev Road:=List (List Str)
def M3 (rows:List ak):Nat->Str->List (Road×Str)
 | 0,e=>[([],e)]
 | n+1,e=>(bq rows e).flatMap fun m=>(M3 rows n m.2).map fun q=>(m.1::q.1,q.2)
def allR (rows:List ak) (n:Nat) (e:Str):List Road:=(M3 rows n e).map (·.1)
section
variable {xs:List V} {rows:List ak}
theorem RT.VZ (rt:RT H a xs rows ns ws) (hw:∀ z∈ws,Wd z) {e:Str} (he:ji rows ns e) {m:List Str×Str} (hm:m∈bq rows e):L2.jh rows e m.1=some m.2/\ji rows ns m.2:=by
 have nd:=rt.Cm hw he.1
 have h1:L2.jh rows e m.1=some m.2:=by
  unfold L2.jh
  have e1:(tq rows e).map (·.1)=((bq rows e).map (·.1)).map fun m=>m.map (Sum.inr:Str->Key):=by simp [tq,Qn,QC]
  rw [e1] at nd
  have E9:((bq rows e).map (·.1)).Nodup:=(List.pairwise_map.mp nd).imp fun h z=>h (congrArg _ z)
  clear e1 nd
  revert hm E9
  generalize bq rows e=L
  intro hm E9
  induction L with
  | nil=>cases hm
  | cons x l ih=>
   rw [List.map_cons,List.nodup_cons] at E9
   rcases Qp.mp hm with rfl | hm
   ·simp [List.find?_cons]
   ·have ne:¬x.1=m.1:=fun z=>E9.1 (by rw [z];exact List.mem_map.mpr ⟨m,hm,rfl⟩)
    rw [List.find?_cons,Qx ne]
    exact ih hm E9.2
 exact ⟨h1,rt.jh hw he h1⟩
end
theorem wG {β:Type} (f:α->List β) (l:List α) (i:Nat) (h:i < l.length):(l.take (i+1)).flatMap f=(l.take i).flatMap f++f l[i]:=by
 rw [Qs,Qa h,Option.toList_some,List.flatMap_append]
 simp only [List.flatMap_cons,List.flatMap_nil,QS]
section
variable {pos:Pos}
theorem yH (K:Q1) {o:Expr} {id:String} {r:V->List V->Hp->VK->Prop} (pa:PlainAttrs T) (slot:Slot T name id) (Ae:typeOf (.builtin id)=pure (.type "method_descriptor")) (hm:BY X id r) (ho:SE X o to) (h:X.K=K:=by rfl)
  (jt:attributeBase o name X.env (eval o X.env)=eval o X.env:=by rfl) (ju:(apos.endLine==cpos.line)=true:=by rfl):SE X (.Call (.Attribute o name apos) [] [] cpos) (L4 K T r to):=by
 subst h;exact ⟨Tf pa slot Ae hm ho.h jt ju⟩
def V0 (K:Q1) (ta:TE):TT:=fun σ H Q=>ta σ H fun x H'=>∃ k,Ig K x H' k/\Q k H'
theorem V1 (K:Q1) {a:Expr} (ha:SE X a ta) (h:X.K=K:=by rfl) (he:∀ whole,isTrue a X.env whole=(do let v <- whole;standAt a.pos;holding [v] (truthy v)):=by intro _;rfl):ST X a (V0 K ta):=by
 subst h;exact ⟨zR ha.h he⟩
theorem i9 {α β:Type} {R:α->β->Prop}:∀ {l:List α} {m:List β},l.length=m.length->(∀ i (h:i < l.length) (h':i < m.length),R l[i] m[i])->Paired R l m
 | [],[],_,_=>.nil
 | a::l,b::m,hl,h=>.cons (h 0 (by simp) (by simp)) (i9 (by simpa using hl) fun i h1 h2=>by
   have:=h (i+1) (by simpa using h1) (by simpa using h2)
   simpa using this)
 | [],_::_,hl,_=>absurd hl (by simp)
 | _::_,[],hl,_=>absurd hl (by simp)
def V2:List V->Hp->VK->Prop:=fun xs H Q=>∃ a kvs,xs=[.ref a]/\Rd H a (.dK kvs)/\∀ l,H l=none->Q (.ref l) (upd H l (.lst (kvs.map fun kv=>kV kv.1)))
theorem vV (hc:X.calm=true):qw X (.type "list") V2:=by
 intro pins s σ H xs us Q I r h
 obtain ⟨a,kvs,rfl,hq,q⟩:=h
 obtain ⟨u,rfl,rx⟩:=vals1 r
 cases rx
 obtain ⟨z,hd,vs,rel,dd⟩:=iT I.hok hq
 obtain ⟨ep,hat⟩:=dd.dictAt
 have hl:=rel.length
 refine PySem.W.kdl_call (PySem.W.kdl_dict (knd:=cg X.prog X.w) (kvs:=vs) (ep:=ep) hd) (I.ok.hd hc) hat (by omega) fun h' tk acc' c' hk hS Jo=>?_
 have rv:az (kvs.map fun kv=>kV kv.1) acc'.toList:=by
  obtain ⟨n1,n2⟩:=Jo
  have Jp:(kvs.map fun kv=>kV kv.1).length=acc'.toList.length:=by
   have:=Array.length_toList (xs:=acc')
   rw [Ql];omega
  refine i9 Jp fun i h1 h2=>?_
  obtain ⟨k,x,hx,hk⟩:=n2 i acc'.toList[i] (by rw [<- Array.getElem?_toList,Qa h2])
  rw [Ql] at h1
  obtain ⟨q,lq,he,_⟩:=kQ rel (i:=i) (p:=kvs[i]) (Qa h1)
  rw [hx] at lq
  cases lq
  rw [Qr,<- he]
  rcases bD hk with ⟨j,t,rfl,e⟩ | ⟨y,t,rfl,e⟩<;>(rw [e];exact ⟨t,rfl⟩)
 refine ⟨.ref s.heap.objs.size,_,I.laid (t':=tk) hk (Qz _) (show bg X.prog X.w _ h' _ (.lst _) from ⟨by rw [Ql];exact z,acc'.toList,c',rv,by simpa using hS⟩),rfl,q _ (I.hok.fresh (Qz _))⟩
end
abbrev GR:=List (Str×Option (Str×List Str))
def V3 (row:Str) (cb:GR) (ms:List (List Str×Str)):GR:=ms.foldl (fun cb m=>if m.2∈cb.map (·.1) then cb else cb++[(m.2,some (row,m.1))]) cb
def Dy (rows:List ak) (f:Str):Nat->GR
 | 0=>[(f,none)]
 | i+1=>match (Dy rows f i)[i]? with
  | none=>Dy rows f i
  | some c=>V3 c.1 (Dy rows f i) (bq rows c.1)
theorem j9:∀ {l m:List Str},l.Nodup->(∀ x∈l,x∈m)->l.length<=m.length
 | [],m,_,_=>Nat.zero_le _
 | a::l,m,nd,h=>by
  have ha:=h a List.mem_cons_self
  have h1:=j9 (l:=l) (m:=m.erase a) (List.nodup_cons.mp nd).2 fun x hx=>(List.mem_erase_of_ne (show x≠a from fun z=>(List.nodup_cons.mp nd).1 (by rw [<- z];exact hx))).mpr (h x (Qh _ hx))
  rw [List.length_erase_of_mem ha] at h1
  have hp:=List.length_pos_of_mem ha
  rw [List.length_cons]
  omega
section
variable {iter kx vx:Expr} {pos:Pos} {tk tw:TE}
theorem V4 {y:Str} {py spos:Pos} (S:o_ X.env.scope X.N sc own idx N') (hc:X.calm=true) (hi:SI X tg iter wi)
  (hg:∀ cl C s3 H0 fp pn,SG (bz X N' sc cl C s3 H0 fp pn) tg g) (ht:∀ cl C s3 H0 fp pn,SC (bz X N' sc cl C s3 H0 fp pn) ifs tc) (he:∀ cl C s3 H0 fp pn,SE (bz X N' sc cl C s3 H0 fp pn) kx tk) (hv:∀ cl C s3 H0 fp pn,SE (bz X N' sc cl C s3 H0 fp pn) vx tw)
  (hN:X.N.Nodup) (EJ:X.N[i]? =some y) (hy:X.env.scope.names.lookup y=some .local)
  (EK:swapsWith (.DictComp kx vx [⟨tg,iter,ifs,0⟩] sc pos) (some (.Name y py)) spos.line X.env=pure true:=by rfl)
  (hs:∀ x,foldedSetIterable iter X.env x=pure x:=by intro _;rfl):SS X (.Assign [.Name y py] (.DictComp kx vx [⟨tg,iter,ifs,0⟩] sc pos) spos) (yr (IF own idx wi g tc tk tw) (jc i)):=by
 constructor
 intro pins s σ H D I h
 obtain ⟨cl,pe,c1,c2⟩:=S.closure I.ok
 rw [exec_Assign_Name_used _ _ _ _ EK]
 refine QU (wpAny_standAt (QU ?_))
 show wpAny _ X.A (do let _ <- comprehension (.DictComp kx vx [⟨tg,iter,ifs,0⟩] sc pos) sc X.env _ newDict false (eval iter X.env) (some (assign (.Name y py) X.env))) _ _ s
 refine QU (wpAny_mono (wpAny_comprehension_free (use:=some (assign (.Name y py) X.env)) (Q:=fun _ s'=>SP X pins D .next s') rfl hs pe S.kind S.names
  (ao (hi.h pins s σ H _ I h) fun v s1 h1=>ao h1 fun ow s2 h2=>?_)) (fun _ s' hq=>QV (QV hq)) fun _ _ e=>e)
 refine k8 (Q:=fun x H1=>jc i x σ H1 D.nx) (pins:=pins) (σ:=σ) (RR:=fun acc C=>compPost (model X.prog X.w) X.A X.xe (some (assign (.Name y py) X.env)) (fun _ s'=>SP X pins D .next s') acc C) S c1 c2 hc (fun q r s t u v=>(hg q r s t u v).h) (fun q r s t u v=>(ht q r s t u v).h) (fun q r s t u v=>(he q r s t u v).h) (fun q r s t u v=>(hv q r s t u v).h) h2 ?_
 intro D' C H' s' I' q ⟨a1,a2,a3,a4,a5,m,a6⟩
 show wpAny _ X.A (assign (.Name y py) X.env (.ref D')) _ _ _
 refine wpAny_assign_Name (jA (v:=.ref D') I' hN EJ (.inl hy) rfl (fun s'' Iv ⟨a,sb,ha⟩=>?_) (.inr hy))
 have Iw:C≠a:=by
  rcases ha with z | z
  ·rw [z];exact a2
  ·exact Ne.symm (a4 _ _ z)
 refine ⟨m,a6.sameBut sb Iw,fun h' vg=>⟨_,H',Iv.turned (t':=s''.toks) (fun b o hb e=>(vg.2 b hb).trans e) a1 a2 (.inr a3) a4 a5,q⟩⟩
end
structure SL (H:Hp) (us:List V) (ss:List (List Str×Str)):Prop where
 len:us.length=ss.length
 at_:∀ i (h:i < us.length) (h':i < ss.length),∃ c b,us[i]=.ref c/\H c=some (.tup [.ref b,.str ss[i].2])/\be H b (ss[i].1.map V.str)
theorem SL.nil:SL H [] []:=⟨rfl,fun i h=>absurd h (by simp)⟩
theorem SL.keep {us:List V} {ss:List (List Str×Str)} (h:SL H us ss) (s:Tk H H') (s2:∀ b ys,be H b ys->be H' b ys):SL H' us ss:=⟨h.len,fun i a b=>by
 obtain ⟨c,d,h1,h2,h3⟩:=h.at_ i a b
 exact ⟨c,d,h1,s _ _ h2,s2 _ _ h3⟩⟩
theorem SL.snoc {us:List V} {ss:List (List Str×Str)} (h:SL H us ss) {c:Addr} (e1:H c=some (.tup [.ref b,.str q.2])) (e2:be H b (q.1.map V.str)):SL H (us++[.ref c]) (ss++[q]):=by
 have hl:=h.len
 refine ⟨by simp [hl],fun i h1 h2=>?_⟩
 by_cases au:i < us.length
 ·rw [Qe au,Qe (by omega)]
  exact h.at_ i au (by omega)
 ·have e':i=us.length:=by simp at h1;omega
  subst e'
  rw [Qf (Qz _),Qf (by omega)]
  simp only [Nat.sub_self,hl,List.getElem_cons_zero]
  exact ⟨c,b,rfl,e1,e2⟩
structure g_ (H0 H:Hp) (kvs:List (Key×V)) (R:List Str) (f:Str->List (List Str×Str)):Prop where
 len:kvs.length=R.length
 at_:∀ i (h:i < kvs.length) (h':i < R.length),kvs[i].1=.inr R[i]/\∃ l us,kvs[i].2=.ref l/\H0 l=none/\H l=some (.lst us)/\SL H us (f R[i])
 inj:∀ i j (hi:i < kvs.length) (hj:j < kvs.length),kvs[i].2=kvs[j].2->i=j
theorem g_.keys {kvs:List (Key×V)} {R:List Str} (h:g_ H0 H kvs R f):kvs.map (·.1)=R.map (Sum.inr:Str->Key):=by
 have hl:=h.len
 refine List.ext_getElem (by simp [hl]) fun i h1 h2=>?_
 rw [Ql] at h1 h2
 rw [Qr,Qr]
 exact (h.at_ i h1 h2).1
theorem g_.same {H0 H H':Hp} {kvs:List (Key×V)} {R:List Str} {f:Str->List (List Str×Str)} (h:g_ H0 H kvs R f) (s:aa H H'):g_ H0 H' kvs R f:=⟨h.len,fun i a b=>by
 obtain ⟨h1,l,us,h2,h3,h4,h5⟩:=h.at_ i a b
 exact ⟨h1,l,us,h2,h3,s _ _ h4,h5.keep s.ts fun _ _ r=>r.same s⟩,h.inj⟩
theorem g_.off {kvs:List (Key×V)} {R:List Str} (h:g_ H0 H kvs R f) {D:Addr} {o u:HO} (hD:H D=some o) (n1:∀ xs,o≠.tup xs) (n2:∀ q xs,o≠.ae q (.tup xs)) (n3:∀ xs,o≠.lst xs):g_ H0 (upd H D u) kvs R f:=⟨h.len,fun i a b=>by
 obtain ⟨h1,l,us,h2,h3,h4,h5⟩:=h.at_ i a b
 refine ⟨h1,l,us,h2,h3,?_,h5.keep ((Tk.refl).set hD n1) fun b' ys r=>r.put hD n1 n2⟩
 rw [aB fun z=>?_]
 ·exact h4
 ·rw [z,hD] at h4
  exact n3 us (QE h4),h.inj⟩
theorem g_.put {kvs:List (Key×V)} {R:List Str} (h:g_ H0 H kvs R f) {e:Str} (gp:H0 l=none) (hl:H l=some (.lst [])) (gr:∀ i (hi:i < kvs.length),kvs[i].2≠.ref l) (hf:f e=[]):g_ H0 H (kvs++[(.inr e,.ref l)]) (R++[e]) f:=by
 have c_:=h.len
 refine ⟨by simp [c_],fun i h1 h2=>?_,fun i j hi hj he=>?_⟩
 ·by_cases au:i < kvs.length
  ·rw [Qe au,Qe (by omega)]
   exact h.at_ i au (by omega)
  ·have e':i=kvs.length:=by simp at h1;omega
   subst e'
   rw [Qf (Qz _),Qf (by omega)]
   simp only [Nat.sub_self,c_,List.getElem_cons_zero]
   exact ⟨trivial,l,[],rfl,gp,hl,by rw [hf];exact SL.nil⟩
 ·simp only [Qk,List.length_cons,List.length_nil] at hi hj
  by_cases au:i < kvs.length<;>by_cases vo:j < kvs.length
  ·rw [Qe au,Qe vo] at he
   exact h.inj i j au vo he
  ·have ej:j=kvs.length:=by omega
   subst ej
   rw [Qe au,Qf (Qz _)] at he
   simp only [Nat.sub_self,List.getElem_cons_zero] at he
   exact absurd he (gr i au)
  ·have ei:i=kvs.length:=by omega
   subst ei
   rw [Qe vo,Qf (Qz _)] at he
   simp only [Nat.sub_self,List.getElem_cons_zero] at he
   exact absurd he.symm (gr j vo)
  ·omega
theorem g_.push {kvs:List (Key×V)} {R:List Str} {f':Str->List (List Str×Str)} (h:g_ H0 H kvs R f) (nd:R.Nodup) {k:Nat} (hk:k < kvs.length) (Gm:k < R.length) {c:Addr} {us:List V} (hv:kvs[k].2=.ref l) (hl:H l=some (.lst us)) (hc:H c=some (.tup [.ref b,.str q.2])) (hb:be H b (q.1.map V.str))
  (f1:f' R[k]=f R[k]++[q]) (f2:∀ e,e≠R[k]->f' e=f e):g_ H0 (upd H l (.lst (us++[.ref c]))) kvs R f':=by
 have tk:Tk H (upd H l (.lst (us++[.ref c]))):=(Tk.refl).set hl fun _ z=>nomatch z
 have uu:∀ b' ys,be H b' ys->be (upd H l (.lst (us++[.ref c]))) b' ys:=fun b' ys h=>h.put hl (fun _ z=>nomatch z) (fun _ _ z=>nomatch z)
 refine ⟨h.len,fun i h1 h2=>?_,h.inj⟩
 obtain ⟨g1,l',ku,g2,g3,g4,g5⟩:=h.at_ i h1 h2
 by_cases t_:i=k
 ·subst t_
  rw [hv] at g2
  cases g2
  rw [hl] at g4
  cases g4
  exact ⟨g1,l,us++[.ref c],hv,g3,aA,by rw [f1];exact (g5.keep tk uu).snoc (tk _ _ hc) (uu _ _ hb)⟩
 ·have nl:l'≠l:=fun z=>t_ (h.inj i k h1 hk (by rw [g2,hv,z]))
  refine ⟨g1,l',ku,g2,g3,by rw [aB nl];exact g4,?_⟩
  rw [f2 _ fun z=>t_ ((List.getElem_inj nd).mp z)]
  exact g5.keep tk uu
def xy (rows:List ak) (r e:Str) (ms:List (List Str×Str)):List (List Str×Str):=(ms.filter fun m=>decide (m.2=e)).map fun m=>(m.1,r)
def ir (rows:List ak) (R:List Str) (e:Str):List (List Str×Str):=R.flatMap fun r=>xy rows r e (bq rows r)
theorem pZ (rows:List ak) (r e:Str) (ms:List (List Str×Str)):(xy rows r e ms).length<=ms.length:=by
 unfold xy
 rw [Ql]
 exact List.length_filter_le _ _
theorem lG (rows:List ak) (e:Str) (B:Nat):∀ R:List Str,(∀ r∈R,(bq rows r).length<=B)->(ir rows R e).length<=R.length*B
 | [],_=>by simp [ir]
 | r::R,h=>by
  have h1:=lG rows e B R fun x hx=>h x (Qh _ hx)
  have h2:=h r List.mem_cons_self
  have h3:=pZ rows r e (bq rows r)
  unfold ir at h1 ⊢
  rw [List.flatMap_cons,Qk,List.length_cons,Nat.succ_mul]
  omega
def V5 (rows:List ak) (e:Str) (k:Nat):Prop:=allR rows k e≠[]/\allR rows (k+1) e=[]
def pb (hs:List (Str×Nat)) (wt:List Str) (y:Str):Bool:=decide (y∈hs.map (·.1))&& !decide (y∈wt)
structure HJ (rows:List ak) (R:List Str) (x:Str) (p:Str->Bool) (cnt:Str->Int) (S:List (List Str×Str)) (un:Str->Int) (hs:List (Str×Nat)) (wt:List Str):Prop where
 nd:(hs.map (·.1)).Nodup
 sub:∀ y∈hs.map (·.1),y∈R
 wn:wt.Nodup
 ws:∀ y∈wt,y∈hs.map (·.1)
 pp:∀ y,pb hs wt y=(p y||decide (y=x))
 V6:∀ r∈R,un r=cnt r - (S.countP (fun q=>decide (q.2=r)):Int)
 z:∀ r∈R,r∈hs.map (·.1)↔un r=0
 snd:∀ q∈hs,V5 rows q.1 q.2
theorem HJ.skip {rows:List ak} {R:List Str} {p:Str->Bool} {cnt un:Str->Int} {S:List (List Str×Str)} {hs:List (Str×Nat)} {wt:List Str} (h:HJ rows R x p cnt S un hs wt) (h1:1<=un q.2) (h2:un q.2 - 1≠0):HJ rows R x p cnt (S++[q]) (fun y=>if y=q.2 then un y - 1 else un y) hs wt:=by
 refine ⟨h.nd,h.sub,h.wn,h.ws,h.pp,fun r hr=>?_,fun r hr=>?_,h.snd⟩
 ·have:=h.V6 r hr
  rw [List.countP_append]
  by_cases e:r=q.2
  ·subst e;simp;omega
  ·have e':q.2≠r:=fun z=>e z.symm
   simp [e,e'];omega
 ·have:=h.z r hr
  by_cases e:r=q.2
  ·subst e
   simp only [if_true]
   constructor
   ·intro z;have:=this.mp z;omega
   ·intro z;exact absurd z h2
  ·simp only [e,if_false];exact this
def hv (hs:List (Str×Nat)) (y:Str):Nat:=((hs.find? fun q=>decide (q.1=y)).map (·.2)).getD 0
section
variable {o:Expr} {p ipos:Pos}
end
section
variable {o f:Expr} {td ty tx:TE}
def V7 (td ty tx:TE):TE:=fun σ H Q=>td σ H fun x H1=>∃ a,x=.ref a/\Il H1 a/\ty σ H1 fun y H2=>tx σ H2 fun z H3=>∃ kvs k,H3 a=some (.dK kvs)/\y=kV k/\kvs.length < sizeLine/\
 (∀ v,av kvs k=some v->Q v H3)/\(av kvs k=none->Q z (upd H3 a (.dK (kvs++[(k,z)]))))
theorem nJ (ho:SE X o td) (he:SE X e ty) (hf:SE X f tx) (m:M2 X o "setdefault" apos e f cpos):SE X (.Call (.Attribute o "setdefault" apos) [e,f] [] cpos) (V7 td ty tx):=by
 constructor
 intro pins s σ H Q I h
 refine wpAny_Call_method m.base m.few m.line PySem.F.plainAttrs_dict PySem.F.slot_dict_setdefault PySem.F.type_dict_setdefault (ao (ho.h pins s σ H _ I h) ?_)
 rintro u s1 ⟨x,H1,I1,rx,a,ex,d,q1⟩
 subst ex
 obtain rfl:u=Value.ref a:=rx
 obtain ⟨t1,t2,_⟩:=wJ I1 d
 refine ⟨t1,t2,?_⟩
 rw [m.trees]
 refine Calls.callWith_builtin rfl (Calls.evalArgs_plain (Calls.spliced_cons (ao (he.h pins s1 σ H1 _ I1 q1) fun iv s2 ⟨y,H2,I2,ry,q2⟩=>
  Calls.spliced_cons (ao (hf.h pins s2 σ H2 _ I2 q2) fun fv s3 ⟨z,H3,I3,rz,kvs,k,e3,ey,au,g1,g2⟩=>Calls.spliced_nil ?_))))
 subst ey
 obtain ⟨z',hd,vs,rel,dd⟩:=pB I3.hok e3
 have hz:vs.length<=sizeLine:=by rw [<- rel.length];exact z'
 have Bd:=rel.val k
 refine call_meetsIn PySem.F.slot_dict_setdefault dd.typeIs PySem.F.entry_dict_setdefault (PySem.F.args_dict_setdefault_3 _ _ _) (kt_meets_setdefault (cg X.prog X.w) a (gA ry) hd fv) ⟨vs,dd,hz,fun v hv=>?_,fun hn h' ia hs=>?_⟩
 ·rw [hv] at Bd
  cases hk:av kvs k with
  | none=>rw [hk] at Bd;exact (show False from Bd).elim
  | some v'=>
   rw [hk] at Bd
   exact ⟨v',H3,I3.tok _,Bd,g1 v' hk⟩
 ·rw [hn] at Bd
  have hk:av kvs k=none:=by
   cases hk:av kvs k with
   | none=>rfl
   | some v'=>rw [hk] at Bd;exact (show False from Bd).elim
  have V8:=cF (kvs:=kvs) (k:=k) z hk
  have hl:(putK kvs k z).length<=sizeLine:=by have:=bT kvs k z;omega
  have he:∃ q,h'.get? a=some q:=let ⟨q,_,_,hq,_⟩:=ia;⟨q,hq⟩
  have I4:=dR (t':=s3.toks+1) I3 (by rw [e3];exact True.intro) hs he (lF (H':=upd H3 a (.dK (putK kvs k z))) hl hd (rel.put k rz) ia)
  rw [V8] at I4
  exact ⟨z,_,I4,rz,g2 hk⟩
end
abbrev LR:=List (Str×Road)
def V9 (acc:LR) (r:Str):Road:=((acc.find? fun q=>decide (q.1=r)).map (·.2)).getD []
def M4 (acc:LR):Option (Str×List Str)->Road
 | none=>[]
 | some q=>V9 acc q.1++[q.2]
def Jq (cb:GR):LR:=cb.foldl (fun acc c=>acc++[(c.1,M4 acc c.2)]) []
def x_ (A:Around) (s:Shared) (y x:Value) (b:Bool):Prop:=
 ∀ (prog:Program) (w:World) (E:Value->Shared->Prop) (Q:Value->Shared->Prop),Q (.bool b) s->wpAny (model prog w) A (richCompare .Lt y x) Q E s
theorem qZ (l b:Addr) (items items2:Array Value) (n n2:Nat) (dd AR:Option Addr) (sl AS:Array (Option Value)) (e:Nat->Bool) (j:Nat) (c:Bool):
  Meets (Builtin.«tuple.__lt__» ⟨[.ref l,.ref b],[]⟩)
   (fun A R s=>s.heap.get? l=some {cls:=.type "tuple",dict:=dd,data:=.seq items n,slots:=sl}/\s.heap.get? b=some {cls:=.type "tuple",dict:=AR,data:=.seq items2 n2,slots:=AS}/\
    (∃ (h1:j < items.size) (h2:j < items2.size),(∀ i (g1:i < items.size) (g2:i < items2.size),i<=j->SeqAt.EqAt A.in1 s items[i] items2[i] (e i))/\(∀ i,i < j->e i=true)/\e j=false/\x_ A.in1 s items[j] items2[j] c)/\
    R (.ok (.ret (.bool c))) s):=
 .of_wp fun prog w A R s h=>by
  obtain ⟨hp,g,d,tk,os⟩:=s;obtain ⟨hl,hb,⟨GC,M5,he,au,Jr,hc⟩,h⟩:=h
  have f2:=AutoSeq1.sub_tuple_tuple
  have hZ:(items.toList.zip items2.toList).length=min items.size items2.size:=by simp
  wp_walk using wpAny_loadPart' hl,wpAny_loadPart' hb,wpAny_forIn_list _ (fun rest b s'=>b.1=none/\s'=⟨hp,g,d,tk,os⟩/\∃ i,rest=(items.toList.zip items2.toList).drop i/\i<=j) _
  case turn=>
   rintro ⟨y,x⟩ rest b s' ⟨V_,rfl,i,hz,hR⟩
   have M6:i < (items.toList.zip items2.toList).length:=by
    rcases Nat.lt_or_ge i (items.toList.zip items2.toList).length with h' | h'
    ·exact h'
    ·rw [List.drop_of_length_le h'] at hz;cases hz
   have hm:i < min items.size items2.size:=hZ▸M6
   have h1:i < items.size:=Nat.lt_of_lt_of_le hm (Nat.min_le_left _ _)
   have h2:i < items2.size:=Nat.lt_of_lt_of_le hm (Nat.min_le_right _ _)
   rw [List.drop_eq_getElem_cons M6] at hz
   injection hz with M7 Wa
   have hy:y=items[i]:=by have:=congrArg Prod.fst M7;simpa using this
   have hx:x=items2[i]:=by have:=congrArg Prod.snd M7;simpa using this
   subst hy hx
   refine QU (he i h1 h2 hR prog w _ _ ?_)
   by_cases zb:i=j
   ·subst zb
    rw [Jr]
    rw [if_pos (by rfl)]
    refine QU (wpAny_rule (QU (hc prog w _ _ ?_)))
    wp_walk
    exact ⟨_,rfl,h⟩
   ·rw [au i (by omega)]
    wp_walk
    exact ⟨rfl,rfl,i+1,Wa,by omega⟩
  case fin=>
   rintro ⟨b1,b2⟩ s' ⟨V_,rfl,i,hz,hR⟩
   exfalso
   rcases Nat.lt_or_ge i (items.toList.zip items2.toList).length with h' | h'
   ·rw [List.drop_eq_getElem_cons h'] at hz;cases hz
   ·rw [hZ] at h';omega
  case h=>
   exact ⟨rfl,rfl,0,rfl,by omega⟩
theorem x_.tuples {items items2:Array Value} {e:Nat->Bool} {c:Bool} (hl:s.heap.IsTuple l items) (hb:s.heap.IsTuple b items2) (hu:A.units < cLine) (h1:j < items.size) (h2:j < items2.size)
  (he:∀ i (g1:i < items.size) (g2:i < items2.size),i<=j->SeqAt.EqAt A.in1 s items[i] items2[i] (e i)) (au:∀ i,i < j->e i=true) (Jr:e j=false) (hc:x_ A.in1 s items[j] items2[j] c):x_ A s (.ref l) (.ref b) c:=fun prog w E Q h=>by
 obtain ⟨⟨cls,dd,data,sl⟩,ho,pe,n,hd⟩:=id hl
 obtain ⟨⟨L0,AR,data2,AS⟩,yw,lu,n2,hd2⟩:=id hb
 simp only at pe hd lu hd2
 subst pe hd lu hd2
 exact richCompare_meets_room (op:=.Lt) ⟨_,ho,rfl⟩ ⟨_,yw,rfl⟩ F.slot_tuple_lt F.entry_tuple_lt (F.args_tuple_lt_2 _ _) (qZ l b items items2 n n2 dd AR sl AS e j c)
  ⟨ho,yw,⟨h1,h2,he,au,Jr,hc⟩,show Value.bool c≠Value.notImplemented/\Q (.bool c) s from ⟨(fun x=>nomatch x),h⟩⟩ hu
def uv (xs ys:List Str):Prop:=∃ j,∃ (h1:j < xs.length) (h2:j < ys.length),(∀ i (g1:i < xs.length) (g2:i < ys.length),i < j->xs[i]=ys[i])/\xs[j]≠ys[j]/\decide (ys[j].cps.toList < xs[j].cps.toList)=false
def Dz (r q:Road):Prop:=∃ j,∃ (h1:j < r.length) (h2:j < q.length),(∀ i (g1:i < r.length) (g2:i < q.length),i < j->r[i]=q[i])/\r[j]≠q[j]/\uv r[j] q[j]
theorem x_.str {A:Around} {s:Shared} (i j:Str) (t t':Tok):x_ A s (.str i t) (.str j t') (decide (i.cps.toList < j.cps.toList)):=fun prog w E Q h=>lt_str h
theorem wZ (I:Inv X pins σ H s) {xs ys:List Str} (h1:be H a (xs.map V.str)) (h2:be H b (ys.map V.str)) (au:uv xs ys) (hu:A.units+2 < cLine):x_ A s (.ref b) (.ref a) false:=by
 obtain ⟨j,j1,j2,Ag,gr,hl⟩:=au
 obtain ⟨i1,r1,p1,_⟩:=I.tuple (.inl h1)
 obtain ⟨i2,r2,p2,_⟩:=I.tuple (.inl h2)
 have l1:=r1.length
 have l2:=r2.length
 rw [Ql] at l1 l2
 have Cn:∀ i (g:i < i1.toArray.size) (k:i < xs.length),∃ t,i1.toArray[i]=.str xs[i] t:=fun i g k=>by
  obtain ⟨w1,e1,q1⟩:=r1.get (i:=i) (x:=.str xs[i]) (by simp [k])
  obtain ⟨t,rfl⟩:=q1
  exact ⟨t,by rw [Qa (by simpa using g)] at e1;simpa using e1⟩
 have Co:∀ i (g:i < i2.toArray.size) (k:i < ys.length),∃ t,i2.toArray[i]=.str ys[i] t:=fun i g k=>by
  obtain ⟨w1,e1,q1⟩:=r2.get (i:=i) (x:=.str ys[i]) (by simp [k])
  obtain ⟨t,rfl⟩:=q1
  exact ⟨t,by rw [Qa (by simpa using g)] at e1;simpa using e1⟩
 refine x_.tuples (e:=fun i=>ys.getD i ""==xs.getD i "") (j:=j) p2 p1 (by omega) (by simp;omega) (by simp;omega) (fun i g1 g2 hi=>?_) (fun i hi=>?_) ?_ ?_
 ·have k1:i < xs.length:=by simp at g2;omega
  have k2:i < ys.length:=by simp at g1;omega
  obtain ⟨t1,e1⟩:=Cn i g2 k1
  obtain ⟨t2,e2⟩:=Co i g1 k2
  rw [e1,e2]
  have:=SeqAt.EqAt.str_str (A:=A.in1) (s:=s) ys[i] t2 xs[i] t1
  simpa [Qb,Qa k1,Qa k2] using this
 ·have k1:i < xs.length:=by omega
  have k2:i < ys.length:=by omega
  simp [Qb,Qa k1,Qa k2,Ag i k1 k2 hi]
 ·simp [Qb,Qa j1,Qa j2,Ne.symm gr]
 ·obtain ⟨t1,e1⟩:=Cn j (by simp;omega) j1
  obtain ⟨t2,e2⟩:=Co j (by simp;omega) j2
  rw [e1,e2,<- hl]
  exact x_.str _ _ _ _
theorem zS (I:Inv X pins σ H s) {xs ys:List V} {r q:Road} (h1:H a=some (.tup xs)) (h2:H b=some (.tup ys)) (v1:SV H xs r) (v2:SV H ys q) (au:Dz r q) (hu:A.units+4 < cLine):x_ A s (.ref b) (.ref a) false:=by
 obtain ⟨j,j1,j2,Ag,gr,hl⟩:=au
 obtain ⟨i1,r1,p1,_⟩:=I.tuple (aj.of h1)
 obtain ⟨i2,r2,p2,_⟩:=I.tuple (aj.of h2)
 have l1:=r1.length
 have l2:=r2.length
 have k1:=v1.len
 have k2:=v2.len
 have Cn:∀ i (g:i < i1.toArray.size) (k:i < r.length),∃ c,i1.toArray[i]=.ref c/\be H c (r[i].map V.str):=fun i g k=>by
  obtain ⟨c,e1,m1⟩:=v1.at_ i (by omega) k
  obtain ⟨w1,f1,q1⟩:=r1.get (Qa (show i < xs.length by omega))
  rw [e1] at q1
  cases q1
  exact ⟨c,by rw [Qa (by simpa using g)] at f1;simpa using f1,m1⟩
 have Co:∀ i (g:i < i2.toArray.size) (k:i < q.length),∃ c,i2.toArray[i]=.ref c/\be H c (q[i].map V.str):=fun i g k=>by
  obtain ⟨c,e1,m1⟩:=v2.at_ i (by omega) k
  obtain ⟨w1,f1,q1⟩:=r2.get (Qa (show i < ys.length by omega))
  rw [e1] at q1
  cases q1
  exact ⟨c,by rw [Qa (by simpa using g)] at f1;simpa using f1,m1⟩
 refine x_.tuples (e:=fun i=>decide (q.getD i []=r.getD i [])) (j:=j) p2 p1 (by omega) (by simp;omega) (by simp;omega) (fun i g1 g2 hi=>?_) (fun i hi=>?_) ?_ ?_
 ·have m1:i < r.length:=by simp at g2;omega
  have m2:i < q.length:=by simp at g1;omega
  obtain ⟨c1,e1,t1⟩:=Cn i g2 m1
  obtain ⟨c2,e2,t2⟩:=Co i g1 m2
  rw [e1,e2]
  have:=tU I t2 t1 (A:=A.in1) (by rw [Around.in1_units];omega)
  simpa [Qb,Qa m1,Qa m2] using this
 ·have m1:i < r.length:=by omega
  have m2:i < q.length:=by omega
  simp [Qb,Qa m1,Qa m2,Ag i m1 m2 hi]
 ·simp [Qb,Qa j1,Qa j2,Ne.symm gr]
 ·obtain ⟨c1,e1,t1⟩:=Cn j (by simp;omega) j1
  obtain ⟨c2,e2,t2⟩:=Co j (by simp;omega) j2
  rw [e1,e2]
  exact wZ I t1 t2 hl (A:=A.in1) (by rw [Around.in1_units];omega)
theorem yE (I:Inv X pins σ H s) {xs ys:List V} {r q:Road} (h1:H a=some (.tup xs)) (h2:H b=some (.tup ys)) (v1:SV H xs r) (v2:SV H ys q) (au:Dz r q) (hu:A.units+4 < cLine):SeqAt.EqAt A s (.ref b) (.ref a) false:=by
 obtain ⟨j,j1,j2,Ag,gr,hl⟩:=au
 obtain ⟨i1,r1,p1,_⟩:=I.tuple (aj.of h1)
 obtain ⟨i2,r2,p2,_⟩:=I.tuple (aj.of h2)
 have l1:=r1.length
 have l2:=r2.length
 have k1:=v1.len
 have k2:=v2.len
 have jk:b≠a:=fun z=>by
  subst z
  rw [h1] at h2
  cases h2
  obtain ⟨c,e1,m1⟩:=v1.at_ j (by omega) j1
  obtain ⟨c',e2,m2⟩:=v2.at_ j (by omega) j2
  rw [e1] at e2
  cases e2
  exact gr (m7 (m1.inj m2))
 have Cn:∀ i (g:i < i1.toArray.size) (k:i < r.length),∃ c,i1.toArray[i]=.ref c/\be H c (r[i].map V.str):=fun i g k=>by
  obtain ⟨c,e1,m1⟩:=v1.at_ i (by omega) k
  obtain ⟨w1,f1,q1⟩:=r1.get (Qa (show i < xs.length by omega))
  rw [e1] at q1
  cases q1
  exact ⟨c,by rw [Qa (by simpa using g)] at f1;simpa using f1,m1⟩
 have Co:∀ i (g:i < i2.toArray.size) (k:i < q.length),∃ c,i2.toArray[i]=.ref c/\be H c (q[i].map V.str):=fun i g k=>by
  obtain ⟨c,e1,m1⟩:=v2.at_ i (by omega) k
  obtain ⟨w1,f1,q1⟩:=r2.get (Qa (show i < ys.length by omega))
  rw [e1] at q1
  cases q1
  exact ⟨c,by rw [Qa (by simpa using g)] at f1;simpa using f1,m1⟩
 have:=SeqAt.RcAt.tuples (A:=A) (e:=fun i=>decide (q.getD i []=r.getD i [])) p2 p1 (by omega) fun i g1 g2=>by
  have m1:i < r.length:=by simp at g2;omega
  have m2:i < q.length:=by simp at g1;omega
  obtain ⟨c1,e1,t1⟩:=Cn i g2 m1
  obtain ⟨c2,e2,t2⟩:=Co i g1 m2
  rw [e1,e2]
  have:=tU I t2 t1 (A:=A.in1) (by rw [Around.in1_units];omega)
  simpa [Qb,Qa m1,Qa m2] using this
 have e:((List.range (min i2.toArray.size i1.toArray.size)).all (fun i=>decide (q.getD i []=r.getD i []))&&i2.toArray.size==i1.toArray.size)=false:=by
  have ha:(List.range (min i2.toArray.size i1.toArray.size)).all (fun i=>decide (q.getD i []=r.getD i []))=false:=by
   rw [List.all_eq_false]
   refine ⟨j,List.mem_range.mpr (by simp;omega),?_⟩
   simp [Qb,Qa j1,Qa j2,Ne.symm gr]
  rw [ha];rfl
 rw [e] at this
 exact SeqAt.EqAt.of_refs jk this
end L2
namespace L2
open PySem PySem.Spec PyProof.Rows PySem.W
theorem xZ {cmp:Nat->Nat->(Bool->Shared->Prop)->Shared->Prop} {N:Nat} {s:Shared} {G:Nat->Shared->Prop} (hc:∀ k,1<=k->k < N->∀ C:Bool->Shared->Prop,C false s->cmp k (k - 1) C s) (hG:G N s):
  ∀ f m,1<=m->m+f=N->(kas_asc (List.toArray (List.range N)) f m).kasWp cmp G s
 | 0,m,h1,h=>by
  have:m=N:=by omega
  subst this
  exact hG
 | f+1,m,h1,h=>by
  have e1:(List.toArray (List.range N)).getD m 0=m:=by simp [Array.getD,show m < N by omega]
  have e2:(List.toArray (List.range N)).getD (m - 1) 0=m - 1:=by simp [Array.getD,show m - 1 < N by omega]
  show (KasT.ask ((List.toArray (List.range N)).getD m 0) ((List.toArray (List.range N)).getD (m - 1) 0) fun c=>if c=true then .ret m else kas_asc (List.toArray (List.range N)) f (m+1)).kasWp cmp G s
  rw [e1,e2]
  exact hc m h1 (by omega) _ (xZ hc hG f (m+1) (by omega) (by omega))
theorem nF {R:Value->Value->Prop}:∀ its:List Value,(∀ v∈its,∃ f,R v f)->∃ fs,Paired R its fs
 | [],_=>⟨[],.nil⟩
 | v::its,h=>by
  obtain ⟨f,hf⟩:=h v List.mem_cons_self
  obtain ⟨fs,Wb⟩:=nF its fun v' hv=>h v' (Qh _ hv)
  exact ⟨f::fs,.cons hf Wb⟩
theorem sL {vs fs:List Value} (p:Paired (fun v f=>∃ a o xs n,v=Value.ref a/\h.get? a=some o/\o.cls=Value.type "tuple"/\o.data=.seq xs n/\xs[0]? =some f) vs fs):KatTups h vs fs:=by
 induction p with
 | nil=>trivial
 | cons a _ ih=>exact ⟨a,ih⟩
theorem rV {β:Type} {R R':α->β->Prop} (h:∀ a b,R a b->R' a b) {l:List α} {m:List β} (p:Paired R l m):Paired R' l m:=by
 induction p with
 | nil=>exact .nil
 | cons a _ ih=>exact .cons (h _ _ a) ih
theorem oS {β:Type} {R:α->β->Prop} {P:β->Prop} (h:∀ a b,R a b->P b) {l:List α} {m:List β} (p:Paired R l m):∀ b∈m,P b:=by
 induction p with
 | nil=>intro b hb;cases hb
 | cons a _ ih=>
  intro b hb
  rcases Qp.mp hb with rfl | hb
  ·exact h _ _ a
  ·exact ih b hb
end L2
namespace L2
open PySem PySem.Spec PyProof.Rows
def dd (seen:List Str):List (Road×Str)->LR
 | []=>[]
 | q::P=>if q.2∈seen then dd seen P else (q.2,q.1)::dd (seen++[q.2]) P
structure QI (rows:List ak) (f:Str) (i:Nat) (found:LR) (P:List (Road×Str)):Prop where
 fd:found=(Jq (Dy rows f i)).take i
 pd:dd (found.map (·.1)) P=(Jq (Dy rows f i)).drop i
theorem QI.start (rows:List ak) (f:Str):QI rows f 0 [] [([],f)]:=⟨by simp,by simp [dd,Dy,Jq,M4]⟩
theorem qL {a b:Str} (h:q_ a b=true):a≠b/\decide (b.cps.toList < a.cps.toList)=false:=by
 unfold q_ at h
 have h1:=Qt h
 refine ⟨fun z=>?_,Qx fun h2=>?_⟩
 ·subst z;exact List.lt_irrefl _ h1
 ·exact List.lt_irrefl _ (List.lt_trans h1 h2)
theorem uv.ne {xs ys:List Str} (h:uv xs ys):xs≠ys:=fun z=>by
 subst z
 obtain ⟨j,h1,h2,_,h3,_⟩:=h
 exact h3 rfl
theorem wU (w:Str) {a b:Str} (h:q_ a b=true):uv [w,a] [w,b]:=by
 obtain ⟨h1,h2⟩:=qL h
 refine ⟨1,by simp,by simp,fun i g1 g2 hi=>?_,h1,h2⟩
 have:i=0:=by omega
 subst this;rfl
theorem Wc:uv ["from"] ["to"]:=⟨0,by simp,by simp,fun i g1 g2 hi=>absurd hi (by omega),by decide,by decide⟩
theorem zB:∀ {h:Hd},h.ok ns->h.bc.Pairwise fun m m'=>uv m.1 m'.1
 | .one _,_=>.nil
 | .as _,_=>.nil
 | .way x y,_=>by
  show List.Pairwise _ [((["from"]:List Str),x),(["to"],y)]
  exact .cons (fun m hm=>by rw [List.mem_singleton.mp hm];exact Wc) (.cons (fun m hm=>nomatch hm) .nil)
 | .prs s ps,ok=>by
  show List.Pairwise _ (ps.map fun p=>(([if s="box" then "part" else "case",p.1]:List Str),p.2))
  rw [List.pairwise_map]
  have:=jL ok.2.2.1
  rw [List.pairwise_map] at this
  exact this.imp fun h=>wU _ h
end L2
namespace L2
open PySem PySem.Spec PyProof.Rows PySem.W
section
variable {o:Expr} {p ipos:Pos}
end
end L2
namespace L2
open PySem PySem.Spec PyProof.Rows
section
variable {d:Addr} {od:Obj} {es:Array DictEntry} {Q:Option Value->Shared->Prop}
end
section
variable {a b:Expr} {tb:TE} {pos:Pos}
end
inductive Th where
 | pick (w:Str) (t:Th)
 | box (ps:List (Str×Th))
section
variable {rows:List ak} {e:Str}
end
theorem We {β:Type} {ps:List (α×β)} (nd:(ps.map (·.1)).Nodup) {z:α} {t t':β} (h:(z,t)∈ps) (h':(z,t')∈ps):t=t':=by
 obtain ⟨i,hi,e⟩:=Qi h
 obtain ⟨j,hj,e'⟩:=Qi h'
 have zb:i=j:=by
  refine (List.getElem_inj (h₀:=by simpa using hi) (h₁:=by simpa using hj) nd).mp ?_
  simp [e,e']
 subst zb
 rw [e] at e'
 exact (Prod.mk.inj e').2
structure PD (R:V->Th->Prop) (ws:List Str) (kvs:List (Key×V)):Prop where
 all:∀ q∈kvs,∃ z t,q.1=.inr z/\z∈ws/\R q.2 t
 nd:(kvs.map (·.1)).Nodup
section
variable {R R':V->Th->Prop} {kvs kvs':List (Key×V)}
theorem PD.len (h:PD R ws kvs):kvs.length<=ws.length:=by
 have hc:∀ q:Key×V,∃ z:Str,q∈kvs->q.1=.inr z/\z∈ws:=fun q=>by
  by_cases hq:q∈kvs
  ·obtain ⟨z,t,h1,h2,_⟩:=h.all q hq;exact ⟨z,fun _=>⟨h1,h2⟩⟩
  ·exact ⟨"",fun z=>absurd z hq⟩
 obtain ⟨f,hf⟩:=Classical.axiomOfChoice hc
 have:=j9 (l:=kvs.map f) (m:=ws) ?_ ?_
 ·simpa using this
 ·refine List.pairwise_map.mpr ((List.pairwise_map.mp h.nd).imp_of_mem fun {a b} ha hb jk e=>jk ?_)
  rw [(hf a ha).1,(hf b hb).1,e]
 ·intro z hz
  obtain ⟨q,hq,rfl⟩:=List.mem_map.mp hz
  exact (hf q hq).2
end
theorem fM [DecidableEq κ] {kvs:List (κ×V)} {k:κ}:(av kvs k).isSome=true↔k∈kvs.map (·.1):=by
 rw [<- dE,List.any_eq_true]
 constructor
 ·rintro ⟨p,hp,h⟩;exact List.mem_map.mpr ⟨p,hp,Qt h⟩
 ·intro h
  obtain ⟨p,hp,rfl⟩:=List.mem_map.mp h
  exact ⟨p,hp,Qw rfl⟩
theorem aj.Cp {K:Q1} {xs:List V} (h:be H a xs):aj K H a xs:=.inl h
theorem Wf {s:Str} {A B:Prop} (ht:s≠z->A) (hf:s=z->B):if (true^^decide (V.str s=V.str z))=true then A else B:=by
 by_cases h:s=z
 ·rw [Qw (congrArg V.str h)];exact hf h
 ·rw [Qx fun e=>h (V.str.inj e)];exact ht h
theorem Wg {s z:Int} {A B:Prop} (ht:s=z->A) (hf:s≠z->B):if (false^^decide (V.int s=V.int z))=true then A else B:=by
 by_cases h:s=z
 ·rw [Qw (congrArg V.int h)];exact ht h
 ·rw [Qx fun e=>h (V.int.inj e)];exact hf h
def i_ (rows:List ak) (ns:List Str):Prop:=∃ H a xs ws,RT H a xs rows ns ws/\∀ z∈ws,Wd z
section
variable {rows:List ak}
theorem RT.ua {xs:List V} (rt:RT H a xs rows ns ws) (hw:∀ z∈ws,Wd z):i_ rows ns:=⟨H,a,xs,ws,rt,hw⟩
theorem i_.stay (g:i_ rows ns) {x:Str} (hx:x∈ns):ji rows ns (endOf rows x):=let ⟨_,_,_,_,rt,hw⟩:=g;rt.stay hw hx
theorem i_.Ao (g:i_ rows ns) {e:Str} (h:ji rows ns e):(e,aq rows e)∈bf rows/\(aq rows e).ok ns:=let ⟨_,_,_,_,rt,hw⟩:=g;rt.Ao hw h
theorem i_.jh (g:i_ rows ns) {e e':Str} {s:List Str} (h:ji rows ns e) (m:L2.jh rows e s=some e'):ji rows ns e':=let ⟨_,_,_,_,rt,hw⟩:=g;rt.jh hw h m
theorem i_.few (g:i_ rows ns):ns.length<=14:=let ⟨_,_,_,_,rt,hw⟩:=g;rt.few
theorem i_.Bc (g:i_ rows ns):((bf rows).map (·.1)).Nodup:=let ⟨_,_,_,_,rt,hw⟩:=g;rt.Bc
theorem i_.jn (g:i_ rows ns):(rows.map (·.1)).Nodup:=let ⟨_,_,_,_,rt,hw⟩:=g;rt.jn
theorem i_.nm (g:i_ rows ns) (x:Str):x∈rows.map (·.1)↔x∈ns:=let ⟨_,_,_,_,rt,hw⟩:=g;rt.nm.mem_iff
theorem i_.ai (g:i_ rows ns) (x:Str):x∈(bf rows).map (·.1)↔ji rows ns x:=by
 constructor
 ·intro h
  obtain ⟨r,hr,rfl⟩:=List.mem_map.mp h
  obtain ⟨h1,h2⟩:=List.mem_filter.mp hr
  refine ⟨(g.nm _).mp (List.mem_map.mpr ⟨r,h1,rfl⟩),dB _ ?_⟩
  show (aq rows r.1).nx=none
  rw [fL g.jn h1]
  simpa using h2
 ·intro h
  exact List.mem_map.mpr ⟨_,(g.Ao h).1,rfl⟩
end
def stH (h:Hd):List (List Str):=h.bc.map (·.1)
def Cq (H:Hp) (b:Addr) (h:Hd):Prop:=∃ c us,H b=some (.tup [.str h.dc,.ref c])/\H c=some (.tup us)/\SV H us (stH h)
theorem Cq.same {H H':Hp} {b:Addr} {h:Hd} (m:Cq H b h) (s:aa H H'):Cq H' b h:=let ⟨c,us,e1,e2,e3⟩:=m;⟨c,us,s _ _ e1,s _ _ e2,e3.same s⟩
structure GS (K:Q1) (mg:Str->Option Value) (H:Hp) (n:Addr) (rows:List ak) (ns:List Str):Prop where
 at_:∃ dx fs d1 d3 d4,H n=some (.ins (adr mg "Net") dx fs)/\fs.lookup ("rows":Str)=some (V.ref d1)/\fs.lookup ("marks":Str)=some (V.ref d3)/\fs.lookup ("moves":Str)=some (V.ref d4)/\
  (∀ x,x∈ns->dj H d1 (.str x) (some (.str (endOf rows x))))/\
  (∀ e,ji rows ns e->∃ b,dj H d3 (.str e) (some (.ref b))/\Cq H b (aq rows e))/\(∀ e,¬ji rows ns e->dj H d3 (.str e) none)/\
  (∀ e,ji rows ns e->∃ m o,dj H d4 (.str e) (some (.ref m))/\H m=some (.ae o (.dT (tq rows e))))
theorem GS.same {K:Q1} {mg:Str->Option Value} {H H':Hp} {n:Addr} {rows:List ak} {ns:List Str} (h:GS K mg H n rows ns) (s:aa H H'):GS K mg H' n rows ns:=by
 obtain ⟨dx,fs,d1,d3,d4,h0,h1,h2,h3,h4,h5,h6,h7⟩:=h.at_
 exact ⟨dx,fs,d1,d3,d4,s _ _ h0,h1,h2,h3,fun x hx=>(h4 x hx).same s,fun e he=>let ⟨b,q1,q2⟩:=h5 e he;⟨b,q1.same s,q2.same s⟩,fun e he=>(h6 e he).same s,fun e he=>let ⟨m,o,q1,q2⟩:=h7 e he;⟨m,o,q1.same s,s _ _ q2⟩⟩
theorem Ck.M8 {K:Q1} {n:Addr} {rows:List ak} (h:Ck H (adr mg "Net") n rows) (g:i_ rows ns):GS K mg H n rows ns:=by
 obtain ⟨dx,fs,en,⟨⟨d1,o1,a1,a2⟩,_,⟨d3,o3,k3,c1,c2,c3⟩,⟨d4,o4,k4,e1,e2,e3⟩⟩⟩:=h
 refine ⟨dx,fs,d1,d3,d4,en,a1,c1,e1,fun x hx=>?_,fun e he=>?_,fun e he=>?_,fun e he=>?_⟩
 ·rw [<- mN g.jn ((g.nm x).mpr hx)]
  exact dj.rd (k:=Sum.inr x) (.inr ⟨o1,a2⟩)
 ·obtain ⟨v,h1,b,c,us,rfl,h2,h3,h4⟩:=c3.get g.Bc (g.Ao he).1
  exact ⟨b,by rw [<- h1];exact dj.rd (k:=Sum.inr e) (.inr ⟨o3,c2⟩),c,us,h2,h3,h4⟩
 ·have hn:av k3 (.inr e)=none:=by
   cases hv:av k3 (.inr e) with
   | none=>rfl
   | some u=>
    have:=gW hv
    rw [c3.keys] at this
    obtain ⟨r,hr,e'⟩:=List.mem_map.mp this
    exact absurd ((g.ai e).mp (List.mem_map.mpr ⟨r,hr,Sum.inr.inj e'⟩)) he
  rw [<- hn]
  exact dj.rd (k:=Sum.inr e) (.inr ⟨o3,c2⟩)
 ·obtain ⟨v,h1,m,o,rfl,h2⟩:=e3.get g.Bc (g.Ao he).1
  refine ⟨m,o,by rw [<- h1];exact dj.rd (k:=Sum.inr e) (.inr ⟨o4,e2⟩),?_⟩
  rw [nE he.2] at h2
  exact h2
theorem nB {rows:List ak} {e:Str} {s:List Str} (he:endOf rows e=e) (hs:s∈stH (aq rows e)):∃ e',jh rows e s=some e':=by
 unfold jh bq
 rw [he]
 obtain ⟨m,hm,rfl⟩:=List.mem_map.mp hs
 cases hf:List.find? (fun m':List Str×Str=>decide (m'.1=m.1)) ((aq rows e).bc.map fun m=>(m.1,endOf rows m.2)) with
 | some q=>exact ⟨q.2,rfl⟩
 | none=>
  have:=List.find?_eq_none.mp hf (m.1,endOf rows m.2) (List.mem_map.mpr ⟨m,hm,rfl⟩)
  simp at this
theorem pO {rows:List ak} {e:Str} (he:endOf rows e=e):(bq rows e).map (·.1)=stH (aq rows e):=by unfold bq stH;rw [he];simp [Qn,QC]
theorem u9 {rows:List ak} {e:Str} (nd:((bq rows e).map (·.1)).Nodup) {m:List Str×Str} (hm:m∈bq rows e):jh rows e m.1=some m.2:=by
 unfold jh
 cases hf:(bq rows e).find? (fun m'=>decide (m'.1=m.1)) with
 | none=>
  have:=List.find?_eq_none.mp hf m hm
  simp at this
 | some q=>
  have h1:=List.mem_of_find?_eq_some hf
  have h2:q.1=m.1:=by simpa using List.find?_some hf
  have h3:(m.1,q.2)∈bq rows e:=by rw [<- h2];exact h1
  exact congrArg some (We nd h3 (show (m.1,m.2)∈bq rows e from hm))
theorem i_.Cm {rows:List ak} (g:i_ rows ns) {e:Str} (he:ji rows ns e):((bq rows e).map (·.1)).Nodup:=by
 rw [pO he.2];exact qV (g.Ao he).2
theorem iF {α:Type} [DecidableEq α]:∀ {l m:List α},l.Nodup->(∀ x∈l,x∈m)->l.length<=m.length
 | [],m,_,_=>Nat.zero_le _
 | a::l,m,nd,h=>by
  have ha:=h a List.mem_cons_self
  have h1:=iF (l:=l) (m:=m.erase a) (List.nodup_cons.mp nd).2 fun x hx=>(List.mem_erase_of_ne (show x≠a from fun z=>(List.nodup_cons.mp nd).1 (by rw [<- z];exact hx))).mpr (h x (Qh _ hx))
  rw [List.length_erase_of_mem ha] at h1
  have hp:=List.length_pos_of_mem ha
  rw [List.length_cons]
  omega
inductive Tv where
 | s (z:Str)
 | i (n:Int)
 | t (l:List Tv)
def TD (H:Hp):Nat->V->Tv->Prop
 | _,.str z,.s z'=>z=z'
 | _,.int k,.i j=>k=j
 | n+1,.ref a,.t ds=>∃ xs,be H a xs/\xs.length=ds.length/\∀ j (h:j < xs.length) (h':j < ds.length),TD H n xs[j] ds[j]
 | _,_,_=>False
structure rh (H:Hp) (n:Nat) (xs:List V) (ds:List Tv):Prop where
 len:xs.length=ds.length
 at_:∀ j (h:j < xs.length) (h':j < ds.length),TD H n xs[j] ds[j]
theorem TD.str {n:Nat} {z:Str}:TD H n (.str z) (.s z):=by cases n<;>rfl
theorem TD.int {n:Nat} {z:Int}:TD H n (.int z) (.i z):=by cases n<;>rfl
theorem TD.tup {n:Nat} {a:Addr} {xs:List V} {ds:List Tv} (h:be H a xs) (t:rh H n xs ds):TD H (n+1) (.ref a) (.t ds):=⟨xs,h,t.len,t.at_⟩
theorem rh.nil:rh H n [] []:=⟨rfl,fun i h=>absurd h (by simp)⟩
theorem rh.cons {n:Nat} {x:V} {d:Tv} {xs:List V} {ds:List Tv} (h:TD H n x d) (t:rh H n xs ds):rh H n (x::xs) (d::ds):=⟨by simp [t.len],fun i h1 h2=>by
 cases i with
 | zero=>exact h
 | succ i=>exact t.at_ i (by simpa using h1) (by simpa using h2)⟩
theorem TD.ze {d:Tv} (h:TD H n (.ref a) d):∃ m ds xs,n=m+1/\d=.t ds/\be H a xs/\rh H m xs ds:=by
 cases n with
 | zero=>cases d<;>exact h.elim
 | succ n=>
  cases d with
  | t ds=>obtain ⟨xs,h1,h2,h3⟩:=h;exact ⟨n,ds,xs,rfl,rfl,h1,h2,h3⟩
  | _=>exact h.elim
theorem TD.yc {d:Tv} (h:TD H n (.str z) d):d=.s z:=by
 cases n<;>(cases d with
  | s z'=>exact congrArg Tv.s (show z=z' from h).symm
  | _=>exact h.elim)
theorem TD.yd {z:Int} {d:Tv} (h:TD H n (.int z) d):d=.i z:=by
 cases n<;>(cases d with
  | i z'=>exact congrArg Tv.i (show z=z' from h).symm
  | _=>exact h.elim)
theorem TD.v {n:Nat} {v:V} {d:Tv} (h:TD H n v d):(∃ z,v=.str z)\/(∃ z,v=.int z)\/∃ a,v=.ref a:=by
 cases n<;>(cases v<;>first | exact .inl ⟨_,rfl⟩ | exact .inr (.inl ⟨_,rfl⟩) | exact .inr (.inr ⟨_,rfl⟩) | (cases d<;>exact h.elim))
theorem TD.det:∀ {n m:Nat} {v:V} {d e:Tv},TD H n v d->TD H m v e->d=e
 | 0,m,v,d,e,h,h'=>by
  rcases h.v with ⟨z,rfl⟩ | ⟨z,rfl⟩ | ⟨a,rfl⟩
  ·rw [h.yc,h'.yc]
  ·rw [h.yd,h'.yd]
  ·obtain ⟨_,_,_,z,_⟩:=h.ze;cases z
 | n+1,m,v,d,e,h,h'=>by
  rcases h.v with ⟨z,rfl⟩ | ⟨z,rfl⟩ | ⟨a,rfl⟩
  ·rw [h.yc,h'.yc]
  ·rw [h.yd,h'.yd]
  ·obtain ⟨m1,ds,xs,e1,rfl,r1,t1⟩:=h.ze
   obtain ⟨m2,es,ys,e2,rfl,r2,t2⟩:=h'.ze
   cases e1
   have:=r1.inj r2
   subst this
   have l1:=t1.len
   have l2:=t2.len
   congr 1
   refine List.ext_getElem (by omega) fun i h1 h2=>?_
   exact TD.det (t1.at_ i (by omega) h1) (t2.at_ i (by omega) h2)
theorem iS {ds es:List Tv} {e:Nat->Bool} (hl:ds.length=es.length) (h:∀ j (h1:j < ds.length) (h2:j < es.length),e j=true↔ds[j]=es[j]):(List.range ds.length).all e=true↔ds=es:=by
 rw [List.all_eq_true]
 constructor
 ·intro ha
  exact List.ext_getElem hl fun i h1 h2=>(h i h1 h2).mp (ha i (List.mem_range.mpr h1))
 ·rintro rfl j hj
  have:=List.mem_range.mp hj
  exact (h j this this).mpr rfl
theorem TD.Wh (I:Inv X pins σ H s):∀ {n:Nat} {m:Nat} {x y:V} {d e:Tv},TD H n x d->TD H m y e->∃ bo:Bool,(bo=true↔d=e)/\∀ (A:Around) (u v:Value),A.units+n < cLine->RelV x u->RelV y v->SeqAt.EqAt A s u v bo:=by
 intro n
 induction n with
 | zero=>
  intro m x y d e h h'
  rcases h.v with ⟨z,rfl⟩ | ⟨z,rfl⟩ | ⟨a,rfl⟩
  ·obtain rfl:=h.yc
   rcases h'.v with ⟨z',rfl⟩ | ⟨z',rfl⟩ | ⟨b,rfl⟩
   ·obtain rfl:=h'.yc
    exact ⟨z==z',by simp,fun A u v hu ru rv=>by obtain ⟨t,rfl⟩:=ru;obtain ⟨t',rfl⟩:=rv;exact SeqAt.EqAt.str_str z t z' t'⟩
   ·obtain rfl:=h'.yd
    exact ⟨false,by simp,fun A u v hu ru rv=>by obtain ⟨t,rfl⟩:=ru;obtain ⟨t',rfl⟩:=rv;exact SeqAt.EqAt.str_int z t z' t'⟩
   ·obtain ⟨_,ds,xs,rfl,rfl,r1,_⟩:=h'.ze
    refine ⟨false,by simp,fun A u v hu ru rv=>?_⟩
    obtain ⟨t,rfl⟩:=ru
    cases rv
    obtain ⟨i1,_,p1,_⟩:=I.tuple (aj.Cp r1)
    exact SeqAt.EqAt.str_tuple z t p1 (by omega)
  ·obtain rfl:=h.yd
   rcases h'.v with ⟨z',rfl⟩ | ⟨z',rfl⟩ | ⟨b,rfl⟩
   ·obtain rfl:=h'.yc
    exact ⟨false,by simp,fun A u v hu ru rv=>by obtain ⟨t,rfl⟩:=ru;obtain ⟨t',rfl⟩:=rv;exact SeqAt.EqAt.int_str z t z' t'⟩
   ·obtain rfl:=h'.yd
    exact ⟨z==z',by simp,fun A u v hu ru rv=>by obtain ⟨t,rfl⟩:=ru;obtain ⟨t',rfl⟩:=rv;exact SeqAt.EqAt.int_int z t z' t'⟩
   ·obtain ⟨_,ds,xs,rfl,rfl,r1,_⟩:=h'.ze
    refine ⟨false,by simp,fun A u v hu ru rv=>?_⟩
    obtain ⟨t,rfl⟩:=ru
    cases rv
    obtain ⟨i1,_,p1,_⟩:=I.tuple (aj.Cp r1)
    exact SeqAt.EqAt.int_tuple z t p1 (by omega)
  ·obtain ⟨_,_,_,z,_⟩:=h.ze;cases z
 | succ n ih=>
  intro m x y d e h h'
  rcases h.v with ⟨z,rfl⟩ | ⟨z,rfl⟩ | ⟨a,rfl⟩
  ·obtain ⟨bo,h1,h2⟩:=ih (m:=m) (TD.str (n:=n) (z:=z)) h'
   rw [h.yc]
   exact ⟨bo,h1,fun A u v hu=>h2 A u v (by omega)⟩
  ·obtain ⟨bo,h1,h2⟩:=ih (m:=m) (TD.int (n:=n) (z:=z)) h'
   rw [h.yd]
   exact ⟨bo,h1,fun A u v hu=>h2 A u v (by omega)⟩
  ·obtain ⟨n',ds,xs,e1,rfl,r1,t1⟩:=h.ze
   cases e1
   rcases h'.v with ⟨z',rfl⟩ | ⟨z',rfl⟩ | ⟨b,rfl⟩
   ·obtain rfl:=h'.yc
    refine ⟨false,by simp,fun A u v hu ru rv=>?_⟩
    obtain ⟨t,rfl⟩:=rv
    cases ru
    obtain ⟨i1,_,p1,_⟩:=I.tuple (aj.Cp r1)
    exact SeqAt.EqAt.tuple_str z' t p1 (by omega)
   ·obtain rfl:=h'.yd
    refine ⟨false,by simp,fun A u v hu ru rv=>?_⟩
    obtain ⟨t,rfl⟩:=rv
    cases ru
    obtain ⟨i1,_,p1,_⟩:=I.tuple (aj.Cp r1)
    exact SeqAt.EqAt.tuple_int z' t p1 (by omega)
   ·obtain ⟨m',es,ys,rfl,rfl,r2,t2⟩:=h'.ze
    by_cases jk:a=b
    ·subst jk
     refine ⟨true,⟨fun _=>TD.det h h',fun _=>rfl⟩,fun A u v hu ru rv=>?_⟩
     cases ru
     cases rv
     exact SeqAt.EqAt.same _
    ·obtain ⟨i1,v1,p1,_⟩:=I.tuple (aj.Cp r1)
     obtain ⟨i2,v2,p2,_⟩:=I.tuple (aj.Cp r2)
     have l1:=v1.length
     have l2:=v2.length
     have k1:=t1.len
     have k2:=t2.len
     have hc:∀ j:Nat,∃ bo:Bool,∀ (h1:j < ds.length) (h2:j < es.length),(bo=true↔ds[j]=es[j])/\∀ (A:Around) (u v:Value),A.units+n < cLine->RelV (xs[j]'(by omega)) u->RelV (ys[j]'(by omega)) v->SeqAt.EqAt A s u v bo:=fun j=>by
      by_cases hj:j < ds.length/\j < es.length
      ·obtain ⟨bo,q1,q2⟩:=ih (t1.at_ j (by omega) hj.1) (t2.at_ j (by omega) hj.2)
       exact ⟨bo,fun _ _=>⟨q1,q2⟩⟩
      ·exact ⟨false,fun h1 h2=>absurd ⟨h1,h2⟩ hj⟩
     obtain ⟨ev,ye⟩:=Classical.axiomOfChoice hc
     refine ⟨(List.range (min i1.toArray.size i2.toArray.size)).all ev&&i1.toArray.size==i2.toArray.size,?_,fun A u v hu ru rv=>?_⟩
     ·have s1:i1.toArray.size=ds.length:=by simp;omega
      have s2:i2.toArray.size=es.length:=by simp;omega
      rw [s1,s2,Bool.and_eq_true]
      constructor
      ·rintro ⟨q1,q2⟩
       have hl:ds.length=es.length:=by simpa using q2
       rw [<- hl,Nat.min_self] at q1
       exact congrArg Tv.t ((iS hl fun j h1 h2=>(ye j h1 h2).1).mp q1)
      ·intro q
       have hq:ds=es:=by injection q
       have hl:ds.length=es.length:=by rw [hq]
       refine ⟨?_,by simp [hl]⟩
       rw [<- hl,Nat.min_self]
       exact (iS hl fun j h1 h2=>(ye j h1 h2).1).mpr hq
     ·cases ru
      cases rv
      refine SeqAt.EqAt.of_refs jk (SeqAt.RcAt.tuples (A:=A) (e:=ev) p1 p2 (by omega) fun j g1 g2=>?_)
      have j1:j < ds.length:=by simp at g1;omega
      have j2:j < es.length:=by simp at g2;omega
      obtain ⟨w1,f1,q1⟩:=v1.get (Qa (show j < xs.length by omega))
      obtain ⟨w2,f2,q2⟩:=v2.get (Qa (show j < ys.length by omega))
      have n1:i1.toArray[j]=w1:=by rw [Qa (by simpa using g1)] at f1;simpa using f1
      have n2:i2.toArray[j]=w2:=by rw [Qa (by simpa using g2)] at f2;simpa using f2
      rw [n1,n2]
      exact (ye j j1 j2).2 A.in1 w1 w2 (by rw [Around.in1_units];omega) q1 q2
theorem rh.Wi (I:Inv X pins σ H s) {m:Nat} {xs ys:List V} {ds es:List Tv} (t1:rh H n xs ds) (t2:rh H m ys es):∃ ev:Nat->Bool,(∀ j (h1:j < ds.length) (h2:j < es.length),ev j=true↔ds[j]=es[j])/\∀ (i1 i2:List Value),az xs i1->az ys i2->∀ (A:Around),A.units+n+1 < cLine->∀ (j:Nat) (h1:j < i1.toArray.size) (h2:j < i2.toArray.size),SeqAt.EqAt A.in1 s i1.toArray[j] i2.toArray[j] (ev j):=by
 have k1:=t1.len
 have k2:=t2.len
 have hc:∀ j:Nat,∃ bo:Bool,∀ (h1:j < ds.length) (h2:j < es.length),(bo=true↔ds[j]=es[j])/\∀ (A:Around) (u v:Value),A.units+n < cLine->RelV (xs[j]'(by omega)) u->RelV (ys[j]'(by omega)) v->SeqAt.EqAt A s u v bo:=fun j=>by
  by_cases hj:j < ds.length/\j < es.length
  ·obtain ⟨bo,q1,q2⟩:=TD.Wh I (t1.at_ j (by omega) hj.1) (t2.at_ j (by omega) hj.2)
   exact ⟨bo,fun _ _=>⟨q1,q2⟩⟩
  ·exact ⟨false,fun h1 h2=>absurd ⟨h1,h2⟩ hj⟩
 obtain ⟨ev,ye⟩:=Classical.axiomOfChoice hc
 refine ⟨ev,fun j h1 h2=>(ye j h1 h2).1,fun i1 i2 v1 v2 A hu j g1 g2=>?_⟩
 have l1:=v1.length
 have l2:=v2.length
 have j1:j < ds.length:=by simp at g1;omega
 have j2:j < es.length:=by simp at g2;omega
 obtain ⟨w1,f1,q1⟩:=v1.get (Qa (show j < xs.length by omega))
 obtain ⟨w2,f2,q2⟩:=v2.get (Qa (show j < ys.length by omega))
 have n1:i1.toArray[j]=w1:=by rw [Qa (by simpa using g1)] at f1;simpa using f1
 have n2:i2.toArray[j]=w2:=by rw [Qa (by simpa using g2)] at f2;simpa using f2
 rw [n1,n2]
 exact (ye j j1 j2).2 A.in1 w1 w2 (by rw [Around.in1_units];omega) q1 q2
theorem Wj {ds es:List Tv} {s1 s2:Nat} {ev:Nat->Bool} (h1:s1=ds.length) (h2:s2=es.length) (ye:∀ j (h1:j < ds.length) (h2:j < es.length),ev j=true↔ds[j]=es[j]):((List.range (min s1 s2)).all ev&&s1==s2)=true↔Tv.t ds=.t es:=by
 subst h1 h2
 rw [Bool.and_eq_true]
 constructor
 ·rintro ⟨q1,q2⟩
  have hl:ds.length=es.length:=by simpa using q2
  rw [<- hl,Nat.min_self] at q1
  exact congrArg Tv.t ((iS hl ye).mp q1)
 ·intro q
  have hq:ds=es:=by injection q
  have hl:ds.length=es.length:=by rw [hq]
  refine ⟨?_,by simp [hl]⟩
  rw [<- hl,Nat.min_self]
  exact (iS hl ye).mpr hq
def Wk (K:Q1) (ng:Bool):R2:=fun x y H Q=>∃ n m a b xs ys ds es,n<=60/\x=.ref a/\y=.ref b/\af K H a xs/\af K H b ys/\rh H n xs ds/\rh H m ys es/\∀ bo:Bool,(bo=true↔ds=es)->Q (.bl (ng^^bo)) H
theorem Wl (K:Q1) (hu:X.A.units+100 < cLine) (hK:X.K=K:=by rfl):ck X (compareOp .NotEq) (Wk K true):=by
 subst hK
 intro pins s σ H x y v u Q I rx ry h
 obtain ⟨n,m,a,b,xs,ys,ds,es,hn,rfl,rfl,h1,h2,t1,t2,q⟩:=h
 cases rx
 cases ry
 obtain ⟨i1,v1,p1,_⟩:=I.list h1
 obtain ⟨i2,v2,p2,_⟩:=I.list h2
 have l1:=v1.length
 have l2:=v2.length
 have k1:=t1.len
 have k2:=t2.len
 obtain ⟨ev,e1,e2⟩:=rh.Wi I t1 t2
 have Gp:i1.toArray.size=ds.length:=by simp;omega
 have jq:i2.toArray.size=es.length:=by simp;omega
 by_cases hl:ds.length=es.length
 ·refine SeqAt.RcNeAt.lists (A:=X.A) (e:=ev) p1.isList p2.isList (by omega) (by omega) (e2 i1 i2 v1 v2 X.A (by omega)) _ _ _ _ ?_
  rw [Gp]
  exact ⟨.bl _,H,I,rfl,by have:=q _ (iS hl e1);rw [Bool.true_xor] at this;exact this⟩
 ·refine SeqAt.RcNeAt.lists_lengths (A:=X.A) p1.isList p2.isList (by rw [Gp,jq];simpa using hl) (by omega) _ _ _ _ ?_
  exact ⟨.bl _,H,I,rfl,by have:=q false ⟨(fun z=>nomatch z),fun z=>absurd (congrArg List.length z) hl⟩;rw [Bool.true_xor] at this;exact this⟩
section
variable {pos:Pos}
theorem tO:SE X (.Dict [] [] pos) Mb:=⟨yX⟩
end
abbrev Tg:=Str×Str
def ic (t:Tg):List Key:=[.inr t.1,.inr t.2]
theorem Wm {t u:Tg} (h:ic t=ic u):t=u:=by
 obtain ⟨a,b⟩:=t
 obtain ⟨a',b'⟩:=u
 simp only [ic,List.cons.injEq,Sum.inr.injEq,and_true] at h
 obtain ⟨rfl,rfl⟩:=h
 rfl
theorem Wn {t:Tg} {ts:List Tg}:ic t∈ts.map ic↔t∈ts:=by
 constructor
 ·intro h
  obtain ⟨u,hu,e⟩:=List.mem_map.mp h
  rw [<- Wm e];exact hu
 ·intro h;exact List.mem_map.mpr ⟨t,h,rfl⟩
abbrev AF:=Tg->Option Tg
inductive jy (f:AF):Tg->Tg->Prop where
 | top {x:Tg} (h:f x=none):jy f x x
 | up {x u r:Tg} (h:f x=some u) (t:jy f u r):jy f x r
theorem jy.Wo {f:AF} {x r r':Tg} (h:jy f x r) (h':jy f x r'):r=r':=by
 induction h with
 | top h=>
  cases h' with
  | top _=>rfl
  | up h1 _=>rw [h] at h1;cases h1
 | up h1 _ ih=>
  cases h' with
  | top h=>rw [h] at h1;cases h1
  | up h2 t=>rw [h1] at h2;cases h2;exact ih t
def GU (f:AF) (n:Nat):Prop:=∃ ρ:Tg->Nat,(∀ x y,f x=some y->ρ x < ρ y)/\∀ x,ρ x<=n
theorem Wp {f:AF} (a:GU f n) (x:Tg):∃ r,jy f x r:=by
 obtain ⟨ρ,p1,p2⟩:=a
 have:∀ m x,n - ρ x<=m->∃ r,jy f x r:=by
  intro m
  induction m with
  | zero=>
   intro x hx
   cases h:f x with
   | none=>exact ⟨x,.top h⟩
   | some u=>have h1:=p1 _ _ h;have h2:=p2 u;omega
  | succ m ih=>
   intro x hx
   cases h:f x with
   | none=>exact ⟨x,.top h⟩
   | some u=>
    have h1:=p1 _ _ h
    have h2:=p2 u
    obtain ⟨r,hr⟩:=ih u (by omega)
    exact ⟨r,.up h hr⟩
 exact this _ x (Qz _)
theorem bU:∀ {l m:List α},l.Nodup->(∀ x∈l,x∈m)->l.length<=m.length:=by
 classical
 intro l m h1 h2
 exact @iF α (Classical.typeDecidableEq α) l m h1 h2
theorem yL {K : Q1} {M D : Addr} {us : List V} {ms : List (List Str × Str)} {H0 : Hp} {Q : Hp -> Prop} (eM : H0 M = some (.lst us)) (mv : MV H0 us ms) (hD : H0 D = none) (few : ms.length <= 1000)
    (hd : ∀ ku H', aa H0 H' -> H' D = some (.lst ku) -> SV H' ku (ms.map (·.1)) -> Q H') : ∃ W : Nat -> Nat -> St -> Hp -> Prop, (∃ m, W 0 m [none] (upd H0 D (.lst []))) /\ ∀ i m τ H, W i m τ H ->
      ((CZ K M).stop i H /\ Q H) \/ ((CZ K M).go i H /\ ∃ N : St -> Hp -> Prop, (∀ τ' H', N τ' H' -> ∃ m', m' < m /\ W (i + 1) m' τ' H') /\ ∀ x H', (CZ K M).lj i H x H' -> jc 0 x τ H' fun τ2 H2 => Dc τ2 H2 fun b H3 =>
        if b = true then mq (A1 K) (tV 0) (tC (V.int 0)) τ2 H3 fun y H4 => ∃ xs, H4 D = some (.lst xs) /\ xs.length < sizeLine /\ N τ2 (upd H4 D (.lst (xs ++ [y]))) else N τ2 H3) := by
  have hsz : sizeLine = 16777216 := QM
  have hl := mv.len
  refine gZ (bN us) (fun i τ H' => ∃ (v0 : Option V) (ku : List V), τ = [v0] /\ H' D = some (.lst ku) /\ SV H' ku ((ms.take i).map (·.1)) /\ aa H0 H') ⟨none, [], rfl, aA, SV.nil, aa.upd hD _⟩ (by rintro i τ H' _ ⟨_, _, _, _, _, s⟩; exact af.of (s _ _ eM)) ?_ ?_
  · rintro i τ H1 hi ⟨v0, ku, rfl, q1, q2, q3⟩
    have DB : i < ms.length := by omega
    obtain ⟨c, b, e1, e2, e3⟩ := mv.at_ i hi DB
    have eg : us.getD i .ai = .ref c := by rw [Qb, Qa hi, e1]; rfl
    rw [eg]
    have GV : ms.take (i + 1) = ms.take i ++ [ms[i]] := by rw [Qs, Qa DB]; rfl
    have M9 : ku.length <= 1000 := by have := q2.len; rw [this, Ql, List.length_take]; omega
    refine ⟨_, _, .inr (aj.of (q3 _ _ e2)), aK _ _, ku, q1, by omega, _, ku ++ [.ref b], rfl, aA, ?_, q3.put hD⟩
    rw [GV, Qm]
    exact (q2.snoc (.inl (q3 _ _ e3))).keep fun b ys r => r.put q1 (fun _ z => nomatch z) (fun _ _ z => nomatch z)
  · rintro τ H1 ⟨v0, ku, rfl, q1, q2, q3⟩
    rw [hl, Qo] at q2
    exact hd ku H1 q3 q1 q2
abbrev Pr:=Str×Str
def zf (r1 r2:List ak) (p:Pr) (s:List Str):Pr:=((jh r1 p.1 s).getD "",(jh r2 p.2 s).getD "")
def jz (r1 r2:List ak) (p:Pr):Prop:=(aq r1 p.1).dc=(aq r2 p.2).dc/\stH (aq r1 p.1)=stH (aq r2 p.2)
structure Cr (r1 r2:List ak) (n1 n2:List Str) (p:Pr):Prop where
 a:ji r1 n1 p.1
 b:ji r2 n2 p.2
def lf (a:Str):Tg:=("left",a)
def rg (a:Str):Tg:=("right",a)
theorem Cr.behind {n1 n2:List Str} (g1:i_ r1 n1) (g2:i_ r2 n2) {p:Pr} (h:Cr r1 r2 n1 n2 p) (m:jz r1 r2 p) {s:List Str} (h1:s∈stH (aq r1 p.1)):Cr r1 r2 n1 n2 (zf r1 r2 p s):=by
 obtain ⟨e1,m1⟩:=nB h.a.2 h1
 obtain ⟨e2,m2⟩:=nB h.b.2 (by rw [<- m.2];exact h1)
 refine ⟨?_,?_⟩
 ·show ji r1 n1 ((jh r1 p.1 s).getD "")
  rw [m1];exact g1.jh h.a m1
 ·show ji r2 n2 ((jh r2 p.2 s).getD "")
  rw [m2];exact g2.jh h.b m2
section
variable {us:List V} {ps:List (List Str×Pr)}
end
def DC (r1 r2:List ak) (p:Pr):List (List Str×Pr):=(stH (aq r1 p.1)).map fun s=>(s,zf r1 r2 p s)
def Cs (s:List Str):Tv:=.t (s.map Tv.s)
def dz (h:Hd):Tv:=.t [.s h.dc,.t ((stH h).map Cs)]
theorem qB {H:Hp} {n:Nat}:∀ s:List Str,rh H n (s.map V.str) (s.map Tv.s)
 | []=>.nil
 | z::s=>.cons TD.str (qB s)
theorem SV.Js {us:List V} (h:SV H us ss):rh H 1 us (ss.map Cs):=by
 have hl:=h.len
 refine ⟨by simpa using hl,fun i h1 h2=>?_⟩
 obtain ⟨b,e1,e2⟩:=h.at_ i h1 (by omega)
 rw [e1,Qr]
 exact TD.tup e2 (qB _)
theorem Cq.td {h:Hd} (m:Cq H b h):TD H 3 (.ref b) (dz h):=by
 obtain ⟨c,us,e1,e2,e3⟩:=m
 refine TD.tup (.inl e1) (.cons TD.str (.cons (TD.tup (.inl e2) e3.Js) .nil))
theorem xH {xs ys:List Str} (h:xs.map Tv.s=ys.map Tv.s):xs=ys:=by
 induction xs generalizing ys with
 | nil=>cases ys with
  | nil=>rfl
  | cons y ys=>simp at h
 | cons x xs ih=>cases ys with
  | nil=>simp at h
  | cons y ys=>
   simp only [List.map_cons,List.cons.injEq,Tv.s.injEq] at h
   rw [h.1,ih h.2]
theorem mZ {xs ys:List (List Str)} (h:xs.map Cs=ys.map Cs):xs=ys:=by
 induction xs generalizing ys with
 | nil=>cases ys with
  | nil=>rfl
  | cons y ys=>simp at h
 | cons x xs ih=>cases ys with
  | nil=>simp at h
  | cons y ys=>
   simp only [List.map_cons,List.cons.injEq,Cs,Tv.t.injEq] at h
   rw [xH h.1,ih h.2]
theorem M_ {h h':Hd}:(dz h=dz h')↔h.dc=h'.dc/\stH h=stH h':=by
 unfold dz
 constructor
 ·intro e
  have e':[Tv.s h.dc,Tv.t ((stH h).map Cs)]=[Tv.s h'.dc,Tv.t ((stH h').map Cs)]:=by injection e
  simp only [List.cons.injEq,Tv.s.injEq,Tv.t.injEq,and_true] at e'
  exact ⟨e'.1,mZ e'.2⟩
 ·rintro ⟨e1,e2⟩
  rw [e1,e2]
inductive Cg (E:Tg->Tg->Prop):Tg->Tg->Prop where
 | refl (x:Tg):Cg E x x
 | base {x y:Tg} (h:E x y):Cg E x y
 | symm {x y:Tg} (h:Cg E x y):Cg E y x
 | trans {x y z:Tg} (h:Cg E x y) (h':Cg E y z):Cg E x z
theorem Cg.mono {E E':Tg->Tg->Prop} (k:∀ x y,E x y->E' x y) {x y:Tg} (h:Cg E x y):Cg E' x y:=by
 induction h with
 | refl x=>exact .refl x
 | base h=>exact .base (k _ _ h)
 | symm _ ih=>exact .symm ih
 | trans _ _ i1 i2=>exact .trans i1 i2
abbrev DE:=List (Pr×Option (Nat×List Str))
def DF (un:List Nat) (st:DE) (i:Nat) (x y:Tg):Prop:=∃ k c,k∈un/\k < i/\st[k]? =some c/\x=lf c.1.1/\y=rg c.1.2
def Wq (r1:List ak) (st:DE) (o o':Option (Nat×List Str)):Prop:=match o,o' with
 | none,_=>True
 | some (j,s),some (j',s')=>j < j'\/(j=j'/\∃ c,st[j]? =some c/\∃ a b:Nat,a < b/\(stH (aq r1 c.1.1))[a]? =some s/\(stH (aq r1 c.1.1))[b]? =some s')
 | some _,none=>False
structure E_ (r1 r2:List ak) (n1 n2:List Str) (i:Nat) (st:DE) (un:List Nat) (f:AF) (n:Nat):Prop where
 ok:∀ c∈st,Cr r1 r2 n1 n2 c.1
 tr:∀ (k:Nat) (c:Pr×Option (Nat×List Str)) (j:Nat) (s:List Str),st[k]? =some c->c.2=some (j,s)->j < k/\j < i/\j∈un/\∃ c',st[j]? =some c'/\s∈stH (aq r1 c'.1.1)/\zf r1 r2 c'.1 s=c.1
 od:∀ (k k':Nat) (c c':Pr×Option (Nat×List Str)),k < k'->st[k]? =some c->st[k']? =some c'->Wq r1 st c.2 c'.2
 me:∀ j c,j < i->st[j]? =some c->jz r1 r2 c.1/\(j∈un->∀ s∈stH (aq r1 c.1.1),∃ (k:Nat) (c':Pr×Option (Nat×List Str)),st[k]? =some c'/\c'.2=some (j,s))/\(j ∉ un->Cg (DF un st j) (lf c.1.1) (rg c.1.2))
 cn:∀ x y r,jy f x r->jy f y r->Cg (DF un st i) x y
 ul:∀ k∈un,k < i
 few:st.length<=1+10*n
 Na:GU f n
 zn:∀ (k:Nat) (c:Pr×Option (Nat×List Str)),st[k]? =some c->c.2=none->k=0
theorem DF.mono {un Nb:List Nat} {st st':DE} {i':Nat} (h1:∀ k∈un,k∈Nb) (h2:∀ (k:Nat) (c:Pr×Option (Nat×List Str)),st[k]? =some c->st'[k]? =some c) (h3:i<=i') {x y:Tg} (h:DF un st i x y):DF Nb st' i' x y:=by
 obtain ⟨k,c,q1,q2,q3,q4⟩:=h
 exact ⟨k,c,h1 _ q1,by omega,h2 _ _ q3,q4⟩
theorem lA {f f':AF} (a:GU f n) (h:∀ z r,jy f z r->jy f' z r) {x r:Tg} (hr:jy f' x r):jy f x r:=by
 obtain ⟨r0,h0⟩:=Wp a x
 rw [hr.Wo (h _ _ h0)];exact h0
theorem E_.skip {n1 n2:List Str} {st:DE} {un:List Nat} {f f':AF} (h:E_ r1 r2 n1 n2 i st un f n) {c:Pr×Option (Nat×List Str)} (hc:st[i]? =some c) (me:jz r1 r2 c.1) (ac:GU f' n) (kp:∀ z r,jy f z r->jy f' z r) {r:Tg} (h1:jy f' (lf c.1.1) r) (h2:jy f' (rg c.1.2) r):E_ r1 r2 n1 n2 (i+1) st un f' n:=by
 have cn:∀ x y r,jy f' x r->jy f' y r->Cg (DF un st i) x y:=fun x y r q1 q2=>h.cn x y r (lA h.Na kp q1) (lA h.Na kp q2)
 refine ⟨h.ok,fun k c' j s hk e=>?_,h.od,fun j c' hj wo=>?_,fun x y r q1 q2=>?_,fun k hk=>by have:=h.ul k hk;omega,h.few,ac,h.zn⟩
 ·obtain ⟨a1,a2,a3⟩:=h.tr k c' j s hk e
  exact ⟨a1,by omega,a3⟩
 ·by_cases Wr:j=i
  ·subst Wr
   rw [hc] at wo;cases wo
   exact ⟨me,fun z=>by have:=h.ul _ z;omega,fun _=>cn _ _ _ h1 h2⟩
  ·exact h.me j c' (by omega) wo
 ·exact (cn x y r q1 q2).mono fun x y q=>q.mono (fun _ h=>h) (fun _ _ h=>h) (by omega)
theorem E_.start {n1 n2:List Str} {p:Pr} (po:Cr r1 r2 n1 n2 p):E_ r1 r2 n1 n2 0 [(p,none)] [] (fun _=>none) 0:=by
 have one:∀ (k:Nat) (c:Pr×Option (Nat×List Str)),([(p,none)]:DE)[k]? =some c->k=0/\c=(p,none):=fun k c hk=>by
  cases k with
  | zero=>exact ⟨rfl,by simpa using hk.symm⟩
  | succ k=>simp at hk
 refine ⟨fun c hc=>by rw [List.mem_singleton.mp hc];exact po,fun k c j s hk e=>?_,fun k k' c c' Ct h1 h2=>?_,fun j c hj=>absurd hj (by omega),fun x y r h1 h2=>?_,fun k hk=>absurd hk (by simp),by simp,⟨fun _=>0,fun x y h=>(nomatch h),fun _=>Qz _⟩,fun k c hk _=>(one k c hk).1⟩
 ·rw [(one k c hk).2] at e;cases e
 ·have a:=(one k c h1).1;have b:=(one k' c' h2).1;omega
 ·cases h1 with
  | top _=>cases h2 with
   | top _=>exact .refl _
   | up h _=>cases h
  | up h _=>cases h
def Aq (r1 r2:List ak) (x:Tg):Hd:=if x.1="left" then aq r1 x.2 else aq r2 x.2
def Nc (r1 r2:List ak) (x:Tg) (s:List Str):Tg:=(x.1,(if x.1="left" then jh r1 x.2 s else jh r2 x.2 s).getD "")
def zg:List Nat->List Nat->Prop
 | a::as,b::bs=>a < b\/(a=b/\zg as bs)
 | _,_=>False
def ux (w v:List Nat):Prop:=w.length < v.length\/(w.length=v.length/\zg w v)
theorem pJ:∀ w:List Nat,¬zg w w
 | []=>id
 | a::as=>fun h=>h.elim (fun h=>Nat.lt_irrefl _ h) fun h=>pJ as h.2
theorem lX:∀ {w v u:List Nat},zg w v->zg v u->zg w u
 | a::as,b::bs,c::cs,h,h'=>by
  rcases h with h | ⟨rfl,h⟩
  ·rcases h' with h' | ⟨rfl,_⟩
   ·exact .inl (by omega)
   ·exact .inl h
  ·rcases h' with h' | ⟨rfl,h'⟩
   ·exact .inl h'
   ·exact .inr ⟨rfl,lX h h'⟩
 | [],_,_,h,_=>h.elim
 | _::_,[],_,h,_=>h.elim
 | _::_,_::_,[],_,h'=>h'.elim
theorem nC:∀ {w v:List Nat} (a b:Nat),w.length=v.length->zg w v->zg (w++[a]) (v++[b])
 | a::as,b::bs,x,y,hl,h=>by
  rcases h with h | ⟨rfl,h⟩
  ·exact .inl h
  ·exact .inr ⟨rfl,nC x y (by simpa using hl) h⟩
 | [],_,_,_,_,h=>h.elim
 | _::_,[],_,_,_,h=>h.elim
theorem mM:∀ (w:List Nat) {a b:Nat},a < b->zg (w++[a]) (w++[b])
 | [],_,_,h=>.inl h
 | x::w,_,_,h=>.inr ⟨rfl,mM w h⟩
theorem eO (w:List Nat):¬ux w w:=fun h=>h.elim (fun h=>Nat.lt_irrefl _ h) fun h=>pJ w h.2
theorem bJ {w v u:List Nat} (h:ux w v) (h':ux v u):ux w u:=by
 rcases h with h | ⟨h,hl⟩
 ·rcases h' with h' | ⟨h',_⟩
  ·exact .inl (by omega)
  ·exact .inl (by omega)
 ·rcases h' with h' | ⟨h',zd⟩
  ·exact .inl (by omega)
  ·exact .inr ⟨by omega,lX hl zd⟩
def Cu (w v:List Nat):Prop:=w=v\/ux w v
theorem w9 {w v u:List Nat} (h:Cu w v) (h':Cu v u):Cu w u:=by
 rcases h with rfl | h
 ·exact h'
 ·rcases h' with rfl | h'
  ·exact .inr h
  ·exact .inr (bJ h h')
theorem lB {w v:List Nat} (a b:Nat) (h:ux w v):ux (w++[a]) (v++[b]):=by
 rcases h with h | ⟨h,hl⟩
 ·exact .inl (by simp;omega)
 ·exact .inr ⟨by simp [h],nC a b h hl⟩
theorem yI {w v:List Nat} (a:Nat) (h:Cu w v):Cu (w++[a]) (v++[a]):=by
 rcases h with rfl | h
 ·exact .inl rfl
 ·exact .inr (lB a a h)
theorem lO (w:List Nat) (a:Nat):ux w (w++[a]):=.inl (by simp)
section
variable {N Lb:Type} (nx:N->List (Lb×N))
def fh:N->List Nat->Option N
 | n,[]=>some n
 | n,k::ks=>match (nx n)[k]? with
  | some q=>fh q.2 ks
  | none=>none
def gk:N->List Nat->List Lb
 | _,[]=>[]
 | n,k::ks=>match (nx n)[k]? with
  | some q=>q.1::gk q.2 ks
  | none=>[]
theorem iI:∀ (n:N) (w v:List Nat),fh nx n (w++v)=(fh nx n w).bind fun m=>fh nx m v
 | n,[],v=>rfl
 | n,k::ks,v=>by
  show (match (nx n)[k]? with | some q=>fh nx q.2 (ks++v) | none=>none)=(match (nx n)[k]? with | some q=>fh nx q.2 ks | none=>none).bind _
  cases (nx n)[k]? with
  | none=>rfl
  | some q=>exact iI q.2 ks v
theorem zD {n m:N} {w:List Nat} (h:fh nx n w=some m) (k:Nat):fh nx n (w++[k])=((nx m)[k]?).map (·.2):=by
 rw [iI,h]
 show (match (nx m)[k]? with | some q=>some q.2 | none=>none)=_
 cases (nx m)[k]?<;>rfl
theorem qQ:∀ {n m:N} {w:List Nat},fh nx n w=some m->∀ {k:Nat} {q:Lb×N},(nx m)[k]? =some q->gk nx n (w++[k])=gk nx n w++[q.1]
 | n,m,[],h,k,q,hk=>by
  cases h
  show (match (nx n)[k]? with | some q=>q.1::gk nx q.2 [] | none=>[])=_
  rw [hk];rfl
 | n,m,k'::ks,h,k,q,hk=>by
  have h':(match (nx n)[k']? with | some q=>fh nx q.2 ks | none=>none)=some m:=h
  show (match (nx n)[k']? with | some q=>q.1::gk nx q.2 (ks++[k]) | none=>[])=(match (nx n)[k']? with | some q=>q.1::gk nx q.2 ks | none=>[])++[q.1]
  cases e:(nx n)[k']? with
  | none=>rw [e] at h';cases h'
  | some q'=>
   rw [e] at h'
   show q'.1::gk nx q'.2 (ks++[k])=(q'.1::gk nx q'.2 ks)++[q.1]
   rw [qQ h' hk];rfl
structure BW (n0:N) (i:Nat) (st:List (N×List Nat)):Prop where
 z:st[0]? =some (n0,[])
 go:∀ c∈st,fh nx n0 c.2=some c.1
 up:∀ (k k':Nat) (c c':N×List Nat),k < k'->st[k]? =some c->st[k']? =some c'->ux c.2 c'.2
 cl:∀ (k:Nat) (c:N×List Nat),k < i->st[k]? =some c->∀ (p:Nat) (q:Lb×N),(nx c.1)[p]? =some q->∃ c'∈st,c'.1=q.2/\Cu c'.2 (c.2++[p])
variable {nx}
theorem BW.least {n0:N} {st:List (N×List Nat)} (b:BW nx n0 i st) {fc:N->Prop} (nb:∀ (k:Nat) (c:N×List Nat),k < i->st[k]? =some c->¬fc c.1) {w:List Nat} {m:N} (hw:fh nx n0 w=some m) (hm:fc m):(∀ c,st[i]? =some c->¬ux w c.2)/\(st.length=i->False):=by
 -- aaO way Nd aaP ahead of C1 one at place i aaQ to a place Nd is aaR to,by a way not later
 have key:∀ (v:List Nat) (m:N),fh nx n0 v=some m->((∃ c,st[i]? =some c/\ux v c.2)\/st.length=i)->∃ c∈st,c.1=m/\Cu c.2 v:=by
  intro v
  induction hv:v.length generalizing v with
  | zero=>
   intro m hg _
   obtain rfl:=QT hv
   cases hg
   exact ⟨_,QD b.z,rfl,.inl rfl⟩
  | succ n ih=>
   intro m hg hb
   obtain ⟨u,a,rfl⟩:∃ u a,v=u++[a]:=⟨v.dropLast,v.getLast (by intro e;rw [e] at hv;cases hv),(List.dropLast_concat_getLast _).symm⟩
   have hu:u.length=n:=by simpa using hv
   rw [iI] at hg
   cases Jt:fh nx n0 u with
   | none=>rw [Jt] at hg;cases hg
   | some m'=>
    rw [Jt] at hg
    have GW:(match (nx m')[a]? with | some q=>fh nx q.2 [] | none=>none)=some m:=hg
    cases eq:(nx m')[a]? with
    | none=>rw [eq] at GW;cases GW
    | some q=>
     rw [eq] at GW
     have Ws:q.2=m:=by cases GW;rfl
     obtain ⟨c,hc,e1,e2⟩:=ih u hu m' Jt (hb.imp (by rintro ⟨c,h1,h2⟩;exact ⟨c,h1,bJ (lO u a) h2⟩) id)
     obtain ⟨k,hk,ek⟩:=Qi hc
     have hk?:st[k]? =some c:=by rw [Qa hk,ek]
     have Ar:k < i:=by
      rcases hb with ⟨c',h1,h2⟩ | h1
      ·rcases Nat.lt_trichotomy k i with h | h | h
       ·exact h
       ·subst h
        rw [hk?] at h1;cases h1
        have:=bJ (lO u a) h2
        rcases e2 with e2 | e2
        ·rw [e2] at this;exact absurd this (eO _)
        ·exact absurd (bJ e2 this) (eO _)
       ·have h3:=b.up i k c' c h h1 hk?
        have:=bJ (lO u a) h2
        rcases e2 with e2 | e2
        ·rw [e2] at h3;exact absurd (bJ this h3) (eO _)
        ·exact absurd (bJ e2 (bJ this h3)) (eO _)
      ·omega
     obtain ⟨c',h1,h2,h3⟩:=b.cl k c Ar hk? a q (by rw [e1];exact eq)
     exact ⟨c',h1,h2.trans Ws,w9 h3 (yI a e2)⟩
 constructor
 ·intro c hc au
  obtain ⟨c',h1,h2,h3⟩:=key w m hw (.inl ⟨c,hc,au⟩)
  obtain ⟨k,hk,ek⟩:=Qi h1
  have hk?:st[k]? =some c':=by rw [Qa hk,ek]
  have Ar:k < i:=by
   rcases Nat.lt_trichotomy k i with h | h | h
   ·exact h
   ·subst h
    rw [hk?] at hc;cases hc
    rcases h3 with e2 | e2
    ·rw [e2] at au;exact absurd au (eO _)
    ·exact absurd (bJ e2 au) (eO _)
   ·have h4:=b.up i k c c' h hc hk?
    rcases h3 with e2 | e2
    ·rw [e2] at h4;exact absurd (bJ au h4) (eO _)
    ·exact absurd (bJ e2 (bJ au h4)) (eO _)
  exact nb k c' Ar hk? (by rw [h2];exact hm)
 ·intro hl
  obtain ⟨c',h1,h2,h3⟩:=key w m hw (.inr hl)
  obtain ⟨k,hk,ek⟩:=Qi h1
  exact nb k c' (by omega) (by rw [Qa hk,ek]) (by rw [h2];exact hm)
def Nf (nx:N->List (Lb×N)) (fc:N->Prop) (n0:N) (w:List Nat):Prop:=(∃ m,fh nx n0 w=some m/\fc m)/\∀ v m,fh nx n0 v=some m->fc m->¬ux v w
end
section
variable {N:Type} [DecidableEq N] (nx:N->List (List Str×N))
variable {nx}
end
section
variable {N Lb:Type} {nx:N->List (Lb×N)}
def iu (nx:N->List (Lb×N)) (c:N×List Nat):List (N×List Nat):=(List.range (nx c.1).length).filterMap fun p=>((nx c.1)[p]?).map fun q=>(q.2,c.2++[p])
theorem tZ {α β:Type} (f:α->Option β) (g:α->β):∀ l:List α,(∀ x∈l,f x=some (g x))->l.filterMap f=l.map g
 | [],_=>rfl
 | a::l,h=>by
  rw [List.filterMap_cons,h a List.mem_cons_self,List.map_cons,tZ f g l fun x hx=>h x (Qh _ hx)]
theorem dU (c:N×List Nat) (p:Nat):(iu nx c)[p]? =((nx c.1)[p]?).map fun q=>(q.2,c.2++[p]):=by
 unfold iu
 by_cases hn:(nx c.1).length=0
 ·have:nx c.1=[]:=QT hn
  rw [this];rfl
 ·have dflt:Lb×N:=(nx c.1)[0]'(by omega)
  rw [tZ _ (fun p=>(((nx c.1).getD p dflt).2,c.2++[p])) _ fun x hx=>by
   have hx':=List.mem_range.mp hx
   rw [Qa hx',Qb,Qa hx'];rfl]
  rw [Qq]
  by_cases hp:p < (nx c.1).length
  ·rw [Qa (by simpa using hp),Qa hp,List.getElem_range]
   show some (((nx c.1).getD p dflt).2,c.2++[p])=some _
   rw [Qb,Qa hp];rfl
  ·rw [List.getElem?_eq_none (by simpa using hp),List.getElem?_eq_none (by omega)];rfl
theorem uV (c:N×List Nat):(iu nx c).length=(nx c.1).length:=by
 have h1:∀ p,p < (iu nx c).length↔p < (nx c.1).length:=fun p=>by
  have:=dU (nx:=nx) c p
  constructor
  ·intro h
   rw [Qa h] at this
   cases hq:(nx c.1)[p]? with
   | none=>rw [hq] at this;cases this
   | some q=>exact (List.getElem?_eq_some_iff.mp hq).1
  ·intro h
   rw [Qa h] at this
   exact (List.getElem?_eq_some_iff.mp this).1
 have a:=(h1 (nx c.1).length).mp
 have b:=(h1 (iu nx c).length).mpr
 by_cases x:(nx c.1).length < (iu nx c).length
 ·exact absurd (a x) (Nat.lt_irrefl _)
 ·by_cases y:(iu nx c).length < (nx c.1).length
  ·exact absurd (b y) (Nat.lt_irrefl _)
  ·omega
structure LS (nx:N->List (Lb×N)) (n0:N) (i:Nat) (st:List (N×List Nat)) (ms:List N):Prop where
 bw:BW nx n0 i st
 pr:∀ d∈st,d.2=[]\/∃ (k':Nat) (d':N×List Nat) (p:Nat),k' < i/\st[k']? =some d'/\d.2=d'.2++[p]
 ex:∀ t∈ms,∃ (k:Nat) (c:N×List Nat),k < i/\st[k]? =some c/\c.1=t/\∀ (p:Nat) (q:Lb×N),(nx t)[p]? =some q->(q.2,c.2++[p])∈st
theorem LS.start (n0:N):LS nx n0 0 [(n0,[])] []:=by
 have one:∀ (k:Nat) (c:N×List Nat),([(n0,[])]:List (N×List Nat))[k]? =some c->k=0/\c=(n0,[]):=fun k c hk=>by
  cases k with
  | zero=>exact ⟨rfl,by simpa using hk.symm⟩
  | succ k=>simp at hk
 refine ⟨⟨rfl,fun c hc=>by rw [List.mem_singleton.mp hc];rfl,fun k k' c c' Ct h1 h2=>?_,fun k c hk=>absurd hk (by omega)⟩,fun d hd=>by rw [List.mem_singleton.mp hd];exact .inl rfl,fun t ht=>nomatch ht⟩
 have a:=(one k c h1).1;have b:=(one k' c' h2).1;omega
theorem LS.old {n0:N} {st:List (N×List Nat)} {ms:List N} (h:LS nx n0 i st ms) {c:N×List Nat} (hc:st[i]? =some c) (hm:c.1∈ms):LS nx n0 (i+1) st ms:=by
 obtain ⟨k0,c0,a1,a2,a3,a4⟩:=h.ex c.1 hm
 refine ⟨⟨h.bw.z,h.bw.go,h.bw.up,fun k d hk hd p q hq=>?_⟩,fun d hd=>?_,fun t ht=>?_⟩
 ·by_cases Ar:k=i
  ·subst Ar
   rw [hc] at hd;cases hd
   exact ⟨_,a4 p q hq,rfl,.inr (lB p p (h.bw.up k0 k c0 c a1 a2 hc))⟩
  ·exact h.bw.cl k d (by omega) hd p q hq
 ·exact (h.pr d hd).imp id fun ⟨k',d',p,q1,q2,q3⟩=>⟨k',d',p,by omega,q2,q3⟩
 ·obtain ⟨k,c',b1,b2⟩:=h.ex t ht
  exact ⟨k,c',by omega,b2⟩
theorem LS.expand {n0:N} {st:List (N×List Nat)} {ms:List N} (h:LS nx n0 i st ms) {c:N×List Nat} (hc:st[i]? =some c):LS nx n0 (i+1) (st++iu nx c) (ms++[c.1]):=by
 have hi:=(List.getElem?_eq_some_iff.mp hc).1
 have up:∀ (k:Nat) (d:N×List Nat),st[k]? =some d->(st++iu nx c)[k]? =some d:=fun k d q=>by
  have:=(List.getElem?_eq_some_iff.mp q).1
  rw [Qg this];exact q
 have dn:∀ (k:Nat) (d:N×List Nat),(st++iu nx c)[k]? =some d->st[k]? =some d\/(st.length<=k/\∃ q,(nx c.1)[k - st.length]? =some q/\d=(q.2,c.2++[k - st.length])):=fun k d q=>by
  by_cases hk:k < st.length
  ·rw [Qg hk] at q;exact .inl q
  ·rw [List.getElem?_append_right (by omega),dU] at q
   obtain ⟨q',h1,h2⟩:=Option.map_eq_some_iff.mp q
   exact .inr ⟨by omega,q',h1,h2.symm⟩
 have sub:∀ d∈st,d∈st++iu nx c:=fun d hd=>List.mem_append.mpr (.inl hd)
 have kid:∀ (p:Nat) (q:Lb×N),(nx c.1)[p]? =some q->(q.2,c.2++[p])∈st++iu nx c:=fun p q hq=>by
  refine List.mem_append.mpr (.inr (QD (i:=p) ?_))
  rw [dU,hq];rfl
 have old:∀ d∈st,∀ a,ux d.2 (c.2++[a]):=fun d hd a=>by
  rcases h.pr d hd with h' | ⟨k',d',p,h1,h2,h3⟩
  ·rw [h'];exact .inl (by simp)
  ·rw [h3];exact lB p a (h.bw.up k' i d' c h1 h2 hc)
 have EL:=h.bw.go c (QD hc)
 refine ⟨⟨up _ _ h.bw.z,fun d hd=>?_,fun k k' a b Ct ha hb=>?_,fun k d hk hd p q hq=>?_⟩,fun d hd=>?_,fun t ht=>?_⟩
 ·obtain ⟨k,hk,ek⟩:=Qi hd
  rcases dn k d (by rw [Qa hk,ek]) with q | ⟨_,q,h1,h2⟩
  ·exact h.bw.go d (QD q)
  ·rw [h2]
   show fh nx n0 (c.2++[k - st.length])=some q.2
   rw [zD nx EL,h1];rfl
 ·rcases dn k a ha with q | ⟨q0,q,h1,h2⟩
  ·rcases dn k' b hb with q' | ⟨DG,q',AZ,uo⟩
   ·exact h.bw.up k k' a b Ct q q'
   ·rw [uo];exact old a (QD q) _
  ·rcases dn k' b hb with q' | ⟨DG,q',AZ,uo⟩
   ·have:=(List.getElem?_eq_some_iff.mp q').1;omega
   ·rw [h2,uo];exact .inr ⟨by simp,mM _ (by omega)⟩
 ·by_cases Ar:k=i
  ·subst Ar
   rw [up _ _ hc] at hd;cases hd
   exact ⟨_,kid p q hq,rfl,.inl rfl⟩
  ·rcases dn k d hd with q' | ⟨q0,_⟩
   ·obtain ⟨d2,a1,a2,a3⟩:=h.bw.cl k d (by omega) q' p q hq
    exact ⟨d2,sub _ a1,a2,a3⟩
   ·omega
 ·rcases List.mem_append.mp hd with hd | hd
  ·exact (h.pr d hd).imp id fun ⟨k',d',p,q1,q2,q3⟩=>⟨k',d',p,by omega,up _ _ q2,q3⟩
  ·obtain ⟨p,hp,ep⟩:=Qi hd
   have:=dU (nx:=nx) c p
   rw [Qa hp,ep] at this
   obtain ⟨q',h1,h2⟩:=Option.map_eq_some_iff.mp this.symm
   exact .inr ⟨i,c,p,by omega,up _ _ hc,by rw [<- h2]⟩
 ·rcases List.mem_append.mp ht with ht | ht
  ·obtain ⟨k,c',b1,b2,b3,b4⟩:=h.ex t ht
   exact ⟨k,c',by omega,up _ _ b2,b3,fun p q hq=>sub _ (b4 p q hq)⟩
  ·rw [List.mem_singleton.mp ht]
   exact ⟨i,c,by omega,up _ _ hc,rfl,kid⟩
end
theorem Wt {h:Hd} (ok:h.ok ns):(stH h).Pairwise uv:=by
 unfold stH
 exact List.pairwise_map.mpr (zB ok)
theorem tR {N:Type} {nx:N->List (List Str×N)} (hr:∀ n,(nx n).Pairwise fun a b=>uv a.1 b.1):∀ {w v:List Nat} {n m m':N},fh nx n w=some m->fh nx n v=some m'->zg w v->Dz (gk nx n w) (gk nx n v)
 | a::as,b::bs,n,m,m',h,h',hl=>by
  rw [fh.eq_2] at h h'
  cases ea:(nx n)[a]? with
  | none=>rw [ea] at h;simp at h
  | some q=>
   cases eb:(nx n)[b]? with
   | none=>rw [eb] at h';simp at h'
   | some q'=>
    rw [ea] at h
    rw [eb] at h'
    dsimp only at h h'
    have e1:gk nx n (a::as)=q.1::gk nx q.2 as:=by
     rw [gk.eq_2,ea]
    have e2:gk nx n (b::bs)=q'.1::gk nx q'.2 bs:=by
     rw [gk.eq_2,eb]
    rw [e1,e2]
    rcases hl with hl | ⟨rfl,hl⟩
    ·obtain ⟨ha,Wu⟩:=List.getElem?_eq_some_iff.mp ea
     obtain ⟨hb,Wv⟩:=List.getElem?_eq_some_iff.mp eb
     have hs:=List.pairwise_iff_getElem.mp (hr n) a b ha hb hl
     rw [Wu,Wv] at hs
     exact ⟨0,by simp,by simp,fun i _ _ hi=>absurd hi (by omega),hs.ne,hs⟩
    ·rw [ea] at eb;cases eb
     obtain ⟨j,j1,j2,q1,q2,q3⟩:=tR hr h h' hl
     refine ⟨j+1,by simp;omega,by simp;omega,fun i g1 g2 hi=>?_,by simpa using q2,by simpa using q3⟩
     cases i with
     | zero=>rfl
     | succ i=>simpa using q1 i (by simpa using g1) (by simpa using g2) (by omega)
 | [],_,_,_,_,_,_,h=>h.elim
 | _::_,[],_,_,_,_,_,h=>h.elim
open Classical in
noncomputable def gm (r1 r2:List ak) (p:Pr):List (List Str×Pr):=if jz r1 r2 p then DC r1 r2 p else []
def DH (r1 r2:List ak) (p:Pr):Prop:=¬jz r1 r2 p
section
variable {m1 m2:List Str} {p p0 m:Pr}
theorem jD (h:jz r1 r2 p):gm r1 r2 p=DC r1 r2 p:=if_pos h
theorem oR (r1 r2:List ak) (p:Pr) (a:Nat):(DC r1 r2 p)[a]? =((stH (aq r1 p.1))[a]?).map fun s=>(s,zf r1 r2 p s):=by unfold DC;rw [Qq]
def Be (r1 r2:List ak):Nat->Tg->Tg->Prop
 | 0,x,y=>(Aq r1 r2 x).dc=(Aq r1 r2 y).dc/\stH (Aq r1 r2 x)=stH (Aq r1 r2 y)
 | n+1,x,y=>((Aq r1 r2 x).dc=(Aq r1 r2 y).dc/\stH (Aq r1 r2 x)=stH (Aq r1 r2 y))/\∀ s∈stH (Aq r1 r2 x),Be r1 r2 n (Nc r1 r2 x s) (Nc r1 r2 y s)
theorem Be.symm:∀ {n:Nat} {x y:Tg},Be r1 r2 n x y->Be r1 r2 n y x
 | 0,_,_,h=>⟨h.1.symm,h.2.symm⟩
 | n+1,_,_,h=>⟨⟨h.1.1.symm,h.1.2.symm⟩,fun s hs=>(h.2 s (by rw [h.1.2];exact hs)).symm⟩
theorem Be.trans:∀ {n:Nat} {x y z:Tg},Be r1 r2 n x y->Be r1 r2 n y z->Be r1 r2 n x z
 | 0,_,_,_,h,h'=>⟨h.1.trans h'.1,h.2.trans h'.2⟩
 | n+1,_,_,_,h,h'=>⟨⟨h.1.1.trans h'.1.1,h.1.2.trans h'.1.2⟩,fun s hs=>(h.2 s hs).trans (h'.2 s (by rw [<- h.1.2];exact hs))⟩
theorem pW {N Lb:Type} (nx:N->List (Lb×N)) (n:N) (k:Nat) (ks:List Nat):fh nx n (k::ks)=match (nx n)[k]? with | some q=>fh nx q.2 ks | none=>none:=rfl
end
structure BG {N:Type} (nx:N->List (List Str×N)) (fc Ok:N->Prop) (f:N) (i:Nat) (st:List (N×List Nat)) (ms:List N) (D E:List (N×List Nat)) (len:Nat):Prop where
 ls:LS nx f i st ms
 nb:∀ (k:Nat) (c:N×List Nat),k < i->st[k]? =some c->¬fc c.1
 ok:∀ d∈st,Ok d.1
 nd:ms.Nodup
 mo:∀ t∈ms,Ok t
 il:i<=st.length
 qu:st.drop i=D++E
 dl:∀ d∈D,d.2.length=len
 nl:∀ d∈E,d.2.length=len+1
section
variable {N:Type} {nx:N->List (List Str×N)} {fc Ok:N->Prop} {f:N} {st:List (N×List Nat)} {ms:List N} {D E:List (N×List Nat)} {len:Nat} {d:N×List Nat}
theorem BG.start (hf:Ok f):BG nx fc Ok f 0 [(f,[])] [] [(f,[])] [] 0:=by
 refine ⟨LS.start f,?_,?_,List.Pairwise.nil,?_,Nat.zero_le _,rfl,?_,?_⟩
 ·intro k c hk;omega
 ·intro d hd;rw [List.mem_singleton.mp hd];exact hf
 ·intro t ht;cases ht
 ·intro d hd;rw [List.mem_singleton.mp hd];rfl
 ·intro d hd;cases hd
theorem BG.head (h:BG nx fc Ok f i st ms (d::D) E len):st[i]? =some d:=by
 have:=congrArg (fun l=>l[0]?) h.qu
 simpa using this
theorem BG.Cv (h:BG nx fc Ok f i st ms (d::D) E len):Ok d.1:=h.ok d (QD h.head)
theorem BG.Ju (h:BG nx fc Ok f i st ms (d::D) E len):fh nx f d.2=some d.1:=h.ls.bw.go d (QD h.head)
theorem BG.next (h:BG nx fc Ok f i st ms (d::D) E len):st.drop (i+1)=D++E/\i+1<=st.length:=by
 refine ⟨?_,(List.getElem?_eq_some_iff.mp h.head).1⟩
 rw [<- List.drop_drop,h.qu];rfl
theorem BG.Bf (h:BG nx fc Ok f i st ms (d::D) E len) (hb:¬fc d.1):∀ (k:Nat) (c:N×List Nat),k < i+1->st[k]? =some c->¬fc c.1:=fun k c hk hc=>by
 by_cases Ar:k=i
 ·subst Ar;rw [h.head] at hc;cases hc;exact hb
 ·exact h.nb k c (by omega) hc
theorem BG.bad (h:BG nx fc Ok f i st ms (d::D) E len) (hb:fc d.1):Nf nx fc f d.2:=
 ⟨⟨d.1,h.Ju,hb⟩,fun v m hv hm=>(h.ls.bw.least (fc:=fc) h.nb hv hm).1 d h.head⟩
theorem BG.fin (h:BG nx fc Ok f i st ms [] [] len):∀ w m,fh nx f w=some m->¬fc m:=fun w m hw hm=>by
 refine (h.ls.bw.least (fc:=fc) h.nb hw hm).2 ?_
 have h1:=h.il
 have h2:=congrArg List.length h.qu
 rw [List.length_drop] at h2
 simp at h2
 omega
theorem BG.old (h:BG nx fc Ok f i st ms (d::D) E len) (hb:¬fc d.1) (hn:d.1∈ms):BG nx fc Ok f (i+1) st ms D E len:=
 ⟨h.ls.old h.head hn,h.Bf hb,h.ok,h.nd,h.mo,h.next.2,h.next.1,fun d hd=>h.dl d (Qh _ hd),h.nl⟩
theorem Ng {c k:N×List Nat} (hk:k∈iu nx c):∃ p q,(nx c.1)[p]? =some q/\k=(q.2,c.2++[p]):=by
 obtain ⟨p,hp,ep⟩:=Qi hk
 have:=dU (nx:=nx) c p
 rw [Qa hp,ep] at this
 obtain ⟨q,h1,h2⟩:=Option.map_eq_some_iff.mp this.symm
 exact ⟨p,q,h1,h2.symm⟩
theorem BG.expand (h:BG nx fc Ok f i st ms (d::D) E len) (ko:∀ q∈nx d.1,Ok q.2) (hb:¬fc d.1) (hn:d.1 ∉ ms):BG nx fc Ok f (i+1) (st++iu nx d) (ms++[d.1]) D (E++iu nx d) len:=by
 obtain ⟨n1,n2⟩:=h.next
 have hd:=h.Cv
 refine ⟨h.ls.expand h.head,fun k c hk hc=>?_,fun c hc=>?_,?_,fun t ht=>?_,by rw [Qk];omega,?_,fun d hd=>h.dl d (Qh _ hd),fun c hc=>?_⟩
 ·rw [Qg (by omega)] at hc
  exact h.Bf hb k c hk hc
 ·rcases List.mem_append.mp hc with hc | hc
  ·exact h.ok c hc
  ·obtain ⟨p,q,h1,rfl⟩:=Ng hc
   exact ko q (QD h1)
 ·rw [List.nodup_append]
  exact ⟨h.nd,by simp,fun a ha b hb=>by rw [List.mem_singleton.mp hb];exact fun z=>hn (by rw [<- z];exact ha)⟩
 ·rcases List.mem_append.mp ht with ht | ht
  ·exact h.mo t ht
  ·rw [List.mem_singleton.mp ht];exact hd
 ·rw [List.drop_append_of_le_length n2,n1,QR]
 ·rcases List.mem_append.mp hc with hc | hc
  ·exact h.nl c hc
  ·obtain ⟨p,q,h1,rfl⟩:=Ng hc
   show (d.2++[p]).length=len+1
   rw [Qk,h.dl d List.mem_cons_self];rfl
theorem BG.turn (h:BG nx fc Ok f i st ms [] E len):BG nx fc Ok f i st ms E [] (len+1):=
 ⟨h.ls,h.nb,h.ok,h.nd,h.mo,h.il,by rw [h.qu];simp,h.nl,fun d hd=>nomatch hd⟩
theorem BG.rise (h:BG nx fc Ok f i st ms [] E len) (hr:∀ t,(nx t).Pairwise fun a b=>uv a.1 b.1) (j:Nat) (hj:j+1 < E.length):Dz (gk nx f E[j].2) (gk nx f E[j+1].2):=by
 have hq:=h.qu
 rw [List.nil_append] at hq
 have at_:∀ k (hk:k < E.length),st[i+k]? =some E[k]:=fun k hk=>by
  rw [<- List.getElem?_drop,hq,Qa hk]
 have a:=at_ j (by omega)
 have b:=at_ (j+1) hj
 have lt:=h.ls.bw.up _ _ _ _ (by omega) a b
 have l1:=h.nl _ (Qj (show j < E.length by omega))
 have l2:=h.nl _ (Qj hj)
 refine tR hr (h.ls.bw.go _ (QD a)) (h.ls.bw.go _ (QD b)) ?_
 rcases lt with lt | lt
 ·omega
 ·exact lt.2
theorem rN {c:N×List Nat} (hg:fh nx f c.2=some c.1) {p:Nat} {q:List Str×N} (hp:(nx c.1)[p]? =some q) (h:p < (iu nx c).length):(iu nx c)[p]=(q.2,c.2++[p])/\gk nx f (c.2++[p])=gk nx f c.2++[q.1]:=by
 refine ⟨?_,qQ _ hg hp⟩
 have:=dU (nx:=nx) c p
 rw [hp,Qa h] at this
 exact QE this
theorem tQ {N Lb:Type} {nx:N->List (Lb×N)}:∀ {w:List Nat} {n m:N},fh nx n w=some m->(gk nx n w).length=w.length
 | [],n,m,h=>by cases h;rfl
 | a::as,n,m,h=>by
  rw [fh.eq_2] at h
  cases ea:(nx n)[a]? with
  | none=>rw [ea] at h;simp at h
  | some q=>
   rw [ea] at h
   rw [gk.eq_2,ea]
   show (gk nx q.2 as).length+1=as.length+1
   rw [tQ h]
end
theorem RT.Ww {xs:List V} {rows:List ak} (rt:RT H a xs rows ns ws) (x:Str):(stH (aq rows x)).Pairwise uv:=by
 unfold aq
 cases hf:rows.find? fun r=>decide (r.1=x) with
 | none=>exact List.Pairwise.nil
 | some r=>
  have hm:=List.mem_of_find?_eq_some hf
  exact Wt (rt.ok r hm).2
theorem yU (hr:∀ x,(stH (aq r1 x)).Pairwise uv) (p:Pr):(gm r1 r2 p).Pairwise fun a b=>uv a.1 b.1:=by
 by_cases h:jz r1 r2 p
 ·rw [jD h]
  unfold DC
  rw [List.pairwise_map]
  exact hr _
 ·unfold gm
  rw [if_neg h];exact List.Pairwise.nil
abbrev BP (r1 r2:List ak) (m1 m2:List Str):=BG (gm r1 r2) (DH r1 r2) (Cr r1 r2 m1 m2)
theorem lQ {m1 m2:List Str} {f:Pr} {len:Nat} {st D E:List (Pr×List Nat)} {ms:List Pr} (h:BP r1 r2 m1 m2 f i st ms D E len) (g1:i_ r1 m1) (g2:i_ r2 m2):ms.length<=200:=by
 have f1:=g1.few
 have f2:=g2.few
 have:=iF (m:=m1.flatMap fun a=>m2.map fun b=>((a,b):Pr)) h.nd fun x hx=>by
  have o:=h.mo x hx
  exact List.mem_flatMap.mpr ⟨x.1,o.a.1,List.mem_map.mpr ⟨x.2,o.b.1,rfl⟩⟩
 rw [List.length_flatMap] at this
 simp only [Ql,List.map_const',List.sum_replicate_nat] at this
 have h1:m1.length*m2.length<=14*14:=Nat.mul_le_mul f1 f2
 omega
structure jv (r1 r2:List ak) (f:Pr) (H:Hp) (us:List V) (D:List (Pr×List Nat)):Prop where
 len:us.length=D.length
 at_:∀ i (h:i < us.length) (h':i < D.length),∃ c b ys,us[i]=.ref c/\H c=some (.tup [.ref b,.str D[i].1.1,.str D[i].1.2])/\H b=some (.tup ys)/\SV H ys (gk (gm r1 r2) f D[i].2)
section
variable {f:Pr} {us:List V} {D:List (Pr×List Nat)}
theorem jv.keep (h:jv r1 r2 f H us D) (s:Tk H H') (s2:∀ b ys,be H b ys->be H' b ys):jv r1 r2 f H' us D:=⟨h.len,fun i a b=>let ⟨c,d,ys,h1,h2,h3,h4⟩:=h.at_ i a b;⟨c,d,ys,h1,s _ _ h2,s _ _ h3,h4.keep s2⟩⟩
theorem jv.same (h:jv r1 r2 f H us D) (s:aa H H'):jv r1 r2 f H' us D:=h.keep s.ts fun b ys r=>r.same s
theorem jv.nil:jv r1 r2 f H [] []:=⟨rfl,fun i h=>absurd h (by simp)⟩
theorem jv.snoc (h:jv r1 r2 f H us D) {c:Addr} {ys:List V} {p:Pr×List Nat} (h2:H c=some (.tup [.ref b,.str p.1.1,.str p.1.2])) (h3:H b=some (.tup ys)) (h4:SV H ys (gk (gm r1 r2) f p.2)):jv r1 r2 f H (us++[.ref c]) (D++[p]):=by
 have hl:=h.len
 refine ⟨by simp [hl],fun i g1 g2=>?_⟩
 by_cases au:i < us.length
 ·rw [Qe au,Qe (by omega)]
  exact h.at_ i au (by omega)
 ·have e':i=us.length:=by simp at g1;omega
  subst e'
  rw [Qf (Qz _),Qf (by omega)]
  simp only [Nat.sub_self,hl,List.getElem_cons_zero]
  exact ⟨c,b,ys,rfl,h2,h3,h4⟩
end
def yf (H:Hp) (F:Addr) (ms:List Pr):Prop:=∃ kvs:List (List Key×V),H F=some (.dT kvs)/\kvs.map (·.1)=ms.map ic
theorem yf.same {F:Addr} {ms:List Pr} (h:yf H F ms) (s:aa H H'):yf H' F ms:=let ⟨kvs,e,k⟩:=h;⟨kvs,s _ _ e,k⟩
end L2
namespace L2
open PySem PySem.Spec PySem.W PyProof.Rows
def As (K:Frag) (mg:Str->Option Value) (x m q:Str) (st:Stmt) (ps:List Str):Prop:=∃ (f:Addr) (fd:FuncData),En K (adr mg x) m f/\Ah K m q st f fd/\Binds K fd ps []
def uy (P:Program) (w:World) (K:Frag) (mg:Str->Option Value) (base:Heap) (k:Nat) (C:Addr) (m:Str) (ps:List Str) (sp:Sp):Prop:=
 ∃ (f:Addr) (fd:FuncData),En K C m f/\mz P w K mg base xj k f fd ps sp/\Binds K fd ps []
section
variable {o:Expr} {t:TA} {m:Str} {pos p:Pos} {k:Nat}
theorem jI (F:uy X.prog X.w X.K X.mg X.base k C m ps sp) (c:qx X.K C) (hr:di k X.A) (he:SE X o ta) (ha:SA X (e::es) t)
  (wx:starEach (e::es) X.env=(false,eval e X.env)::starEach es X.env:=by rfl) (gf:(backTo pos (starEach es X.env)).any (·.1)=false:=by rfl)
  (ht:eval (.Call (.Attribute o m apos) (e::es) [] pos) X.env=(do
   let ov <- eval o X.env
   standAt apos.atName
   let (f,first) <- holding [ov] (getMethod ov m pl)
   callWith pos f first (backTo pos (starEach (e::es) X.env)) (backToKw pos (keywordEach [] X.env))):=by rfl):SE X (.Call (.Attribute o m apos) (e::es) [] pos) (Es C m sp [] E0 ta t):=by
 obtain ⟨f,fd,M,G,b⟩:=F
 exact ⟨SD he.h c M G hr b .nil Ex ha.h wx gf ht⟩
theorem Wx (F:uy X.prog X.w X.K X.mg X.base k C m ps sp) (c:qx X.K C) (hr:di k X.A) (he:SE X o ta)
  (ht:eval (.Call (.Attribute o m apos) [] [] pos) X.env=(do
   let ov <- eval o X.env
   standAt apos.atName
   let (f,first) <- holding [ov] (getMethod ov m pl)
   callWith pos f first (backTo pos (starEach [] X.env)) (backToKw pos (keywordEach [] X.env))):=by rfl):SE X (.Call (.Attribute o m apos) [] [] pos) (Es C m sp [] E0 ta mw):=by
 obtain ⟨f,fd,M,G,b⟩:=F
 exact ⟨xK he.h c M G hr b .nil Ex ht⟩
theorem Wy (F:Ce X.prog X.w X.K X.mg X.base k x C ps sp) (hr:di (k+1) X.A) (hg:Gl X x:=by rfl) (jr:(x==("__debug__":Str))=false:=by decide):
  SE X (.Call (.Name x p) [] [] pos) (Ge C sp [] E0 mw):=by
 obtain ⟨m,f,fd,M,G,b⟩:=F
 exact ⟨zO M G hr hg m b .nil Ex jr⟩
theorem Nh {o i:Expr} {td ty:TE} {vf:Pos} (ho:SE X o td) (hi:SE X i ty):SS X (.Delete [.Subscript o i vf] pos) (L_ td ty):=⟨TJ ho.h hi.h⟩
end
theorem As.gg {K:Frag} {m q:Str} {st:Stmt} {k:Nat} (F:As K mg x m q st ps) (S:ee N ps (a_ st)) (len:∀ vs H Q E,sp vs H Q E->vs.length=ps.length)
  (xf:∀ (f:Addr) (ay:Value) (A:Around) (outer:List Env) (s:Shared) (H:Hp) (vs:List V) (Q:VK) (E:XK),di k (A.deeper (envOfC q (a_ st) s.heap.objs.size f ay))->sp vs H Q E->
   ∃ t,SB (yu xj P w K mg base N q (a_ st) f ay A outer s H E).AL (jj st) t/\t {nx:=fun _ H'=>Q .ai H',rt:=Q} (start N vs) H):uy P w K mg base (k+1) (adr mg x) m ps sp:=by
 obtain ⟨f,fd,M,Fu,b⟩:=F
 exact ⟨f,fd,M,Fu.ok S len fun ay A outer s H vs Q E hr h=>let ⟨t,h1,h2⟩:=xf f ay A outer s H vs Q E hr h;⟨t,h1.h,h2⟩,b⟩
structure Au where
 x:Str
 m:Str
 q:Str
 st:Stmt
def Jv (K:Frag) (c:Au):Option (Option A6×Bool):=match nsIn K mainGlobals c.x with
 | some (some (.ref C))=>some (fnAt K c.q (findIn K (.ref C) c.m),match findIn K (.ref C) c.m with | some (some v)=>isFn K v&&keepIn K v | _=>false)
 | _=>none
def DI (K:Frag):List Au->List (Option (Option A6×Bool))
 | []=>[]
 | c::l=>Jv K c::DI K l
def DJ:List Au->List (Option (Option A6×Bool))
 | []=>[]
 | c::l=>some (some (A7 c.m c.q c.st),true)::DJ l
section
variable {K:Frag}
theorem tP:∀ {l:List Au},DI K l=DJ l->∀ (i:Nat) {c:Au},l[i]? =some c->Jv K c=some (some (A7 c.m c.q c.st),true)
 | y::l,e,0,c,h=>by cases h;exact (List.cons.inj e).1
 | y::l,e,i+1,c,h=>tP (List.cons.inj e).2 i (by simpa using h)
theorem yZ (X:K.In h) (G:h.Ns mainGlobals mg) {l:List Au} (e:DI K l=DJ l) (i:Nat) {m q:Str} {st:Stmt} (hi:l[i]? =some ⟨x,m,q,st⟩)
  (hb:∀ (kV doc pm:Value) (an:Option Addr) (ay ct:Value) (us:List Value),us.length=ps.length->bindArgs (fnOf m q (ni st) (jj st) (a_ st) .none kV doc pm an ay ct) ⟨us,[]⟩=pure (ps.zip us)):As K mg x m q st ps:=by
 have hc:=tP e i hi
 unfold Jv at hc
 split at hc
 ·rename_i C hn
  have hm:=mg_of X G hn
  have ea:adr mg x=C:=by unfold adr;rw [hm]
  have hc:=QE hc
  simp only [Prod.mk.injEq] at hc
  obtain ⟨c1,c2⟩:=hc
  obtain ⟨f,fd,e1,F⟩:=nW c1
  rw [e1] at c2
  simp only [Bool.and_eq_true_iff] at c2
  exact ⟨f,fd,by rw [ea];exact ⟨e1,c2.1,c2.2⟩,F,F.binds hb⟩
 ·cases hc
theorem Wz (X:K.In h) (G:h.Ns mainGlobals mg) {l:List Au} (e:DI K l=DJ l) (i:Nat) {m q p0:Str} {st:Stmt} (hi:l[i]? =some ⟨x,m,q,st⟩:=by rfl)
  (hb:∀ (kV doc pm:Value) (an:Option Addr) (ay ct a0:Value),bindArgs (fnOf m q (ni st) (jj st) (a_ st) .none kV doc pm an ay ct) ⟨[a0],[]⟩=pure [(p0,a0)]:=by intros;rfl):As K mg x m q st [p0]:=
 yZ X G e i hi fun a b c d f g us hl=>by
  obtain ⟨a0,Dp,rfl,gp⟩:=su (n:=0) hl
  obtain rfl:=QT gp
  exact hb ..
theorem Jw (X:K.In h) (G:h.Ns mainGlobals mg) {l:List Au} (e:DI K l=DJ l) (i:Nat) {m q p0 p1:Str} {st:Stmt} (hi:l[i]? =some ⟨x,m,q,st⟩:=by rfl)
  (hb:∀ (kV doc pm:Value) (an:Option Addr) (ay ct a0 a1:Value),bindArgs (fnOf m q (ni st) (jj st) (a_ st) .none kV doc pm an ay ct) ⟨[a0,a1],[]⟩=pure [(p0,a0),(p1,a1)]:=by intros;rfl):As K mg x m q st [p0,p1]:=
 yZ X G e i hi fun a b c d f g us hl=>by
  obtain ⟨a0,Dp,rfl,gp⟩:=su (n:=1) hl
  obtain ⟨a1,E2,rfl,fj⟩:=su (n:=0) gp
  obtain rfl:=QT fj
  exact hb ..
theorem WA (X:K.In h) (G:h.Ns mainGlobals mg) {l:List An} (e:Ds K l=Du l) (i:Nat) {q p0:Str} {st:Stmt} {fs:List Str} (hi:l[i]? =some ⟨x,q,st,fs⟩:=by rfl)
  (hb:∀ (kV doc pm:Value) (an:Option Addr) (ay ct a0:Value),bindArgs (fnOf "__init__" q (ni st) (jj st) (a_ st) .none kV doc pm an ay ct) ⟨[a0],[]⟩=pure [(p0,a0)]:=by intros;rfl):Cd K mg x q st [p0] fs (adr mg x):=
 zM X G e i hi fun a b c d f g us hl=>by
  obtain ⟨a0,Dp,rfl,gp⟩:=su (n:=0) hl
  obtain rfl:=QT gp
  exact hb ..
end
end L2
namespace L2
open PySem PySem.Spec PyProof.Rows
section
variable {K:Type} [DecidableEq K] {knd:HeapKind prog w K}
theorem eI {d:Addr} {xs:List (K×Addr×Value)} {k:K} {dflt:Value} (hu:knd.room A) (BR:knd.is s.heap k a) (hm:s.heap.DictOfH knd d xs)
  (h1:∀ p,atKey xs k=some p->Q p.2 {s with toks:=s.toks+knd.draws k})
  (h2:atKey xs k=none->∀ h',h'.DictOfH knd d (xs++[(k,a,dflt)])->Heap.SameBut d s.heap h'->Q dflt {s with heap:=h',toks:=s.toks+knd.draws k})
  (hsz:xs.length<=sizeLine):wpAny (model prog w) A (dictSetDefault d (.ref a) dflt) Q E s:=by
 obtain ⟨o,es,ep,ho,hc,hd,he,Ni,hn⟩:=hm
 unfold dictSetDefault
 try with_reducible refine wpAny_holding ?_
 refine QU (knd.pyHash hu BR (QU (wpAny_dictFind_heap (s:={s with toks:=s.toks+knd.draws k}) hu BR ho hd he Ni hn ?_ ?_)))
 ·intro xg
  have Jx:k ∉ xs.map (·.1):=not_mem_keys_of_get xg
  refine QU (wpAny_rule (QU (wpAny_updateDictKeys (hz:=by have e:=size_of_entries he;omega) (s:={s with toks:=s.toks+knd.draws k}) ho hd (QV (h2 (atKey_none_of_get xg) _ ⟨_,_,ep+1,Heap.get?_update_self _ ho (Obj.isFreed_of_dict (Obj.data_mapDictKeys hd _)),
   hc.mapDictKeys _,Obj.data_mapDictKeys hd _,?_,?_,?_⟩ (Heap.SameBut.update ..))))))
  ·simp [he,entryOfKey]
  ·intro x hx
   rcases List.mem_append.mp hx with hx | hx
   ·exact knd.keeps (Ni x hx) ho hd (Heap.SameBut.update ..)
   ·simp only [List.mem_singleton] at hx
    subst hx
    exact knd.keeps BR ho hd (Heap.SameBut.update ..)
  ·rw [Qm,List.nodup_append]
   refine ⟨hn,by simp,?_⟩
   intro x hx y hy
   simp only [List.map_cons,List.map_nil,List.mem_singleton] at hy
   subst hy
   exact fun e=>Jx (e▸hx)
 ·intro j p hj
  refine QU (wpAny_dictEntries (s:={s with toks:=s.toks+knd.draws k}) ho hd ?_)
  rw [entry_at he j,hj]
  exact QU (wpAny_rule (QV (h1 p (atKey_of_get hn hj))))
theorem eK (knd:HeapKind prog w K) (d a:Addr) (hd:(d==sysModules)=false) (dflt:Value):
  MeetsIn prog w (Builtin.«dict.setdefault» ⟨[.ref d,.ref a,dflt],[]⟩) (fun A R s=>knd.room A.in1/\∃ k xs,knd.is s.heap k a/\s.heap.DictOfH knd d xs/\xs.length<=sizeLine/\
   (∀ p,atKey xs k=some p->R (.ok (.ret p.2)) {s with toks:=s.toks+knd.draws k})/\
   (atKey xs k=none->∀ h',h'.DictOfH knd d (xs++[(k,a,dflt)])->Heap.SameBut d s.heap h'->R (.ok (.ret dflt)) {s with heap:=h',toks:=s.toks+knd.draws k})):=
 .of_wp fun A R s ⟨hu,k,xs,BR,hm,hz,h1,h2⟩=>by
  unfold Builtin.«dict.setdefault»
  refine QU ?_
  unfold Builtin.Dict.keyAndDefault
  refine QU (wpAny_notOrdered_dict hm.typeIs ?_)
  show wpAny _ _ (pure (d,Value.ref a,some dflt)) _ _ s
  refine QV ?_
  show wpAny _ _ (if (d==sysModules)=true then _ else (dictSetDefault d (.ref a) dflt >>=_)) _ _ s
  rw [if_neg (by rw [hd];exact Bool.false_ne_true)]
  exact QU (eI hu BR hm (fun p hp=>QV ⟨p.2,rfl,h1 p hp⟩) (fun hn h' WB Jy=>QV ⟨dflt,rfl,h2 hn h' WB Jy⟩) hz)
end
section
variable {o f:Expr} {td ty tx:TE}
def WC (td ty tx:TE):TE:=fun σ H Q=>td σ H fun x H1=>∃ a,x=.ref a/\Il H1 a/\ty σ H1 fun y H2=>tx σ H2 fun z H3=>∃ kvs k b,H3 a=some (.dT kvs)/\y=.ref b/\be H3 b (k.map kV)/\kvs.length < sizeLine/\
 (∀ v,av kvs k=some v->Q v H3)/\(av kvs k=none->Q z (upd H3 a (.dT (kvs++[(k,z)]))))
theorem Nj:∀ {kvs:List (List Key×V)} {xs:List (List Key×Addr×Value)},KT H kvs xs->∀ k,(av kvs k=none/\atKey xs k=none)\/∃ v p,av kvs k=some v/\atKey xs k=some p/\RelV v p.2:=by
 intro kvs xs r
 induction r with
 | nil=>intro k;exact .inl ⟨rfl,rfl⟩
 | @cons q x qs xs hq t ih=>
  intro k
  obtain ⟨h1,h2,h3⟩:=hq
  by_cases hk:q.1=k
  ·refine .inr ⟨q.2,x.2,?_,?_,h3⟩
   ·unfold av;simp [hk]
   ·unfold atKey;rw [List.find?_cons_of_pos (by simp [<- h1,hk])];rfl
  ·rcases ih k with ⟨a,b⟩ | ⟨v,p,a,b,c⟩
   ·refine .inl ⟨?_,?_⟩
    ·unfold av at a ⊢;rw [List.find?_cons_of_neg (by simpa using hk)];exact a
    ·unfold atKey at b ⊢;rw [List.find?_cons_of_neg (by simpa [<- h1] using hk)];exact b
   ·refine .inr ⟨v,p,?_,?_,c⟩
    ·unfold av at a ⊢;rw [List.find?_cons_of_neg (by simpa using hk)];exact a
    ·unfold atKey at b ⊢;rw [List.find?_cons_of_neg (by simpa [<- h1] using hk)];exact b
theorem uL (hu:X.A.units+1 < cLine) (ho:SE X o td) (he:SE X e ty) (hf:SE X f tx) (m:M2 X o "setdefault" apos e f cpos):SE X (.Call (.Attribute o "setdefault" apos) [e,f] [] cpos) (WC td ty tx):=by
 constructor
 intro pins s σ H Q I h
 refine wpAny_Call_method m.base m.few m.line PySem.F.plainAttrs_dict PySem.F.slot_dict_setdefault PySem.F.type_dict_setdefault (ao (ho.h pins s σ H _ I h) ?_)
 rintro u s1 ⟨x,H1,I1,rx,a,ex,d,q1⟩
 subst ex
 obtain rfl:u=Value.ref a:=rx
 obtain ⟨t1,t2,_⟩:=wJ I1 d
 refine ⟨t1,t2,?_⟩
 rw [m.trees]
 refine Calls.callWith_builtin rfl (Calls.evalArgs_plain (Calls.spliced_cons (ao (he.h pins s1 σ H1 _ I1 q1) fun iv s2 ⟨y,H2,I2,ry,q2⟩=>
  Calls.spliced_cons (ao (hf.h pins s2 σ H2 _ I2 q2) fun fv s3 ⟨z,H3,I3,rz,kvs,k,b,e3,ey,eb,au,g1,g2⟩=>Calls.spliced_nil ?_))))
 subst ey
 obtain rfl:iv=Value.ref b:=ry
 obtain ⟨z',hd,xs,rel,dd⟩:=yA I3.hok e3
 have hz:xs.length<=sizeLine:=by rw [<- Paired.length rel];exact z'
 refine call_meetsIn PySem.F.slot_dict_setdefault dd.typeIs PySem.F.entry_dict_setdefault (PySem.F.args_dict_setdefault_3 _ _ _) (eK (tupleKind (cg X.prog X.w)) a b hd fv) ⟨?_,k,xs,iH I3.hok eb,dd,hz,fun p hp=>?_,fun hn h' ia hs=>?_⟩
 ·exact tupleKind_room_in1 hu
 ·rcases Nj rel k with ⟨_,q⟩ | ⟨v,p',q1,q2,q3⟩
  ·rw [hp] at q;cases q
  ·rw [hp] at q2;cases q2
   exact ⟨v,H3,I3.tok _,q3,g1 v q1⟩
 ·have hk:av kvs k=none:=by
   rcases Nj rel k with ⟨q,_⟩ | ⟨v,p',q1,q2,q3⟩
   ·exact q
   ·rw [hn] at q2;cases q2
  obtain ⟨q,es,ep,hq,h2,h3,h4,_,h5⟩:=ia
  have hl:(kvs++[(k,z)]).length<=sizeLine:=by simp;omega
  have WD:KT (upd H3 a (.dT (kvs++[(k,z)]))) (kvs++[(k,z)]) (xs++[(k,b,fv)]):=by
   have r1:=rel.put k eb rz
   rw [L2.cF _ hk,storedH_new hn] at r1
   refine r1.keeps fun c ys ec=>ec.upd fun u hu z=>?_
   subst z
   rcases ec with ec | ⟨_,ec⟩<;>(rw [e3] at ec;cases ec)
  have new:bg X.prog X.w (upd H3 a (.dT (kvs++[(k,z)]))) h' a (.dT (kvs++[(k,z)])):=⟨hl,hd,_,WD,q,es,ep,hq,h2,h3,h4,h5⟩
  exact ⟨z,_,dR I3 (by rw [e3];exact True.intro) hs ⟨q,hq⟩ new,rz,g2 hk⟩
theorem WE {pos:Pos}:SS X (.Return none pos) LL:=⟨RI⟩
end
noncomputable instance aaS:DecidableEq Tv:=Classical.typeDecidableEq Tv
def HT (h:Heap):Nat->Value->Tv->Prop
 | _,v,.s z=>∃ t,v=.str z t
 | _,v,.i z=>∃ t,v=.int z t
 | n+1,v,.t ds=>∃ a items,v=.ref a/\h.IsTuple a items/\items.size=ds.length/\∀ j (h1:j < items.size) (h2:j < ds.length),HT h n items[j] ds[j]
 | 0,_,.t _=>False
def yg (w:World):Nat->Tv->Int
 | _,.s z=>zy w (.inr z)
 | _,.i z=>zy w (.inl z)
 | n+1,.t ds=>reduceHash (Builtin.Tuple.tupleHashOf (ds.map (yg w n)))
 | 0,.t _=>0
def Bg:Nat->Tv->Nat
 | _,.s _=>1
 | _,.i _=>1
 | n+1,.t ds=>(ds.map (Bg n)).sum+1
 | 0,.t _=>0
theorem HT.inj : ∀ {n : Nat} {v : Value} {x y : Tv}, HT h n v x -> HT h n v y -> x = y
  | n, v, .s z, y, hx, hy => by
    have hx : ∃ t, v = .str z t := by cases n <;> exact hx
    obtain ⟨t, rfl⟩ := hx
    cases y with
    | s z' => have hy : ∃ t', Value.str z t = .str z' t' := by cases n <;> exact hy
              obtain ⟨t', e⟩ := hy; cases e; rfl
    | i z' => have hy : ∃ t', Value.str z t = .int z' t' := by cases n <;> exact hy
              obtain ⟨t', e⟩ := hy; cases e
    | t ds => cases n with
      | zero => exact hy.elim
      | succ n => obtain ⟨a, _, e, _⟩ := hy; cases e
  | n, v, .i z, y, hx, hy => by
    have hx : ∃ t, v = .int z t := by cases n <;> exact hx
    obtain ⟨t, rfl⟩ := hx
    cases y with
    | s z' => have hy : ∃ t', Value.int z t = .str z' t' := by cases n <;> exact hy
              obtain ⟨t', e⟩ := hy; cases e
    | i z' => have hy : ∃ t', Value.int z t = .int z' t' := by cases n <;> exact hy
              obtain ⟨t', e⟩ := hy; cases e; rfl
    | t ds => cases n with
      | zero => exact hy.elim
      | succ n => obtain ⟨a, _, e, _⟩ := hy; cases e
  | 0, v, .t ds, y, hx, hy => hx.elim
  | n + 1, v, .t ds, y, hx, hy => by
    obtain ⟨a, items, rfl, it, sz, at_⟩ := hx
    cases y with
    | s z' => obtain ⟨t', e⟩ := (show ∃ t', Value.ref a = .str z' t' from hy); cases e
    | i z' => obtain ⟨t', e⟩ := (show ∃ t', Value.ref a = .int z' t' from hy); cases e
    | t es =>
      obtain ⟨a', items', e, Jz, Nk, at'⟩ := hy
      cases e
      obtain ⟨o, h1, h2, k, h3⟩ := it
      obtain ⟨o', g1, g2, k', g3⟩ := Jz
      rw [h1] at g1; cases g1
      rw [h3] at g3; cases g3
      congr 1
      exact List.ext_getElem (by omega) fun j j1 j2 => HT.inj (at_ j (by omega) j1) (at' j (by omega) j2)
theorem HT.keeps:∀ {n:Nat} {v:Value} {d:Tv},HT h n v d->∀ {x:Addr} {o:Obj} {es:Array DictEntry} {ep:Nat},h.get? x=some o->o.data=.dict es ep->Heap.SameBut x h h'->HT h' n v d
 | n,v,.s z,hx,_,_,_,_,_,_,_=>by cases n<;>exact hx
 | n,v,.i z,hx,_,_,_,_,_,_,_=>by cases n<;>exact hx
 | 0,v,.t ds,hx,_,_,_,_,_,_,_=>hx.elim
 | n+1,v,.t ds,hx,x,o,es,ep,ho,hd,hs=>by
  obtain ⟨a,items,rfl,⟨q,h1,h2,k,h3⟩,sz,at_⟩:=hx
  have ne:a≠x:=fun e=>by rw [e,ho] at h1;cases h1;rw [hd] at h3;cases h3
  exact ⟨a,items,rfl,⟨q,(hs.2 a ne).trans h1,h2,k,h3⟩,sz,fun j j1 j2=>(at_ j j1 j2).keeps ho hd hs⟩
theorem HT.hash (prog:Program):∀ {n:Nat} {v:Value} {d:Tv} {A:Around} {E:Value->Shared->Prop} {s:Shared} {Q:Int->Shared->Prop},A.units+n < cLine->HT s.heap n v d->Q (yg w n d) {s with toks:=s.toks+Bg n d}->wpAny (model prog w) A (pyHash v) Q E s
 | n,v,.s z,A,E,s,Q,hu,hx,h=>by
  have hx:∃ t,v=.str z t:=by cases n<;>exact hx
  obtain ⟨t,rfl⟩:=hx
  have h:Q (zy w (.inr z)) {s with toks:=s.toks+1}:=by cases n<;>exact h
  exact (cg prog w).pyHash (eQ prog w z t) h
 | n,v,.i z,A,E,s,Q,hu,hx,h=>by
  have hx:∃ t,v=.int z t:=by cases n<;>exact hx
  obtain ⟨t,rfl⟩:=hx
  have h:Q (zy w (.inl z)) {s with toks:=s.toks+1}:=by cases n<;>exact h
  exact (cg prog w).pyHash (k:=.inl z) (by show AK (.inl z) (.int z t)=true;simp [AK,Value.isInt]) h
 | 0,v,.t ds,_,_,_,_,_,hx,_=>hx.elim
 | n+1,v,.t ds,A,E,s,Q,hu,hx,h=>by
  obtain ⟨a,items,rfl,⟨o,h1,h2,k,h3⟩,sz,at_⟩:=hx
  have hT:s.TypeIs (.ref a) "tuple":=⟨o,h1,h2⟩
  unfold pyHash
  first | unfold pyHashByItsType | skip
  first | refine QU (wpAny_cRoomFor_or (.inr (by omega)) ?_) | skip
  refine QU (wpAny_specialOf hT F.slot_tuple_hash.lookup ?_)
  show wpAny _ _ (if (some (Value.builtin "tuple.__hash__")==some Value.none)=true then _ else _) Q E s
  rw [if_neg (by rw [beq_builtin_none];exact Bool.false_ne_true)]
  refine QU (wpAny_specialOf hT F.slot_tuple_hash.lookup ?_)
  show wpAny _ _ (callSpecialIfBoundUnlessNone? (.ref a) "__hash__" _ >>=_) Q E s
  refine QU (wpAny_callSpecialIfBoundUnlessNone?_slot hT F.slot_tuple_hash (wpAny_call_entry F.slot_tuple_hash hT F.entry_tuple_hash ?_ (F.args_tuple_hash_1 _)))
  show wpAny _ _ (Builtin.Tuple.tupleItemsOf (.ref a) >>=_) _ _ s
  refine QU (wpAny_tupleItemsOf h1 h3 ?_)
  refine QU ?_
  rw [<- Array.forIn_toList]
  refine wpAny_forIn_list _
   (fun rest (b:Array Int) s'=>∃ i,i<=ds.length/\rest=items.toList.drop i/\b.toList=(ds.take i).map (yg w n)/\s'={s with toks:=s.toks+((ds.take i).map (Bg n)).sum})
   _ ?_ ?_ _ _ ⟨0,Nat.zero_le _,rfl,rfl,by simp⟩
  ·rintro x rest b s' ⟨i,hi,hr,hb,rfl⟩
   have au:i < items.toList.length:=by
    by_cases z:i < items.toList.length
    ·exact z
    ·rw [List.drop_eq_nil_of_le (by omega)] at hr;cases hr
   rw [List.drop_eq_getElem_cons au] at hr
   obtain ⟨rfl,rfl⟩:=List.cons.inj hr
   have hsz:i < items.size:=by simpa using au
   have JA:i < ds.length:=by omega
   have ht:=at_ i hsz JA
   have tk:ds.take (i+1)=ds.take i++[ds[i]]:=by rw [Qs,Qa JA];rfl
   refine QU (HT.hash prog (n:=n) (d:=ds[i]) (by rw [Around.in1_units];omega) (by simpa using ht) ?_)
   have fin:∃ j,j<=ds.length/\items.toList.drop (i+1)=items.toList.drop j/\(b.push (yg w n ds[i])).toList=(ds.take j).map (yg w n)/\({s with toks:=s.toks+((ds.take i).map (Bg n)).sum+Bg n ds[i]}:Shared)={s with toks:=s.toks+((ds.take j).map (Bg n)).sum}:=⟨i+1,JA,rfl,by rw [tk,Qm,Array.toList_push,hb];rfl,by rw [tk,Qm,List.sum_append,<- Nat.add_assoc];rfl⟩
   first
    | exact QV fin
    | exact QU (QV (QV fin))
  ·rintro b s' ⟨i,hi,hr,hb,rfl⟩
   have JB:i=ds.length:=by
    have:=congrArg List.length hr
    simp at this
    omega
   subst JB
   rw [Qo] at hb ⊢
   show wpAny _ _ (retInt (Builtin.Tuple.tupleHashOf b.toList)) _ _ _
   rw [hb]
   refine wpAny_ret_mkInt ?_
   show wpAny _ _ (if (decide (-(2:Int)^63<=Builtin.Tuple.tupleHashOf (ds.map (yg w n)))&&decide (Builtin.Tuple.tupleHashOf (ds.map (yg w n)) < 2^63))=true then _ else _) Q E _
   have h:Q (reduceHash (Builtin.Tuple.tupleHashOf (ds.map (yg w n)))) {s with toks:=s.toks+((ds.map (Bg n)).sum+1)}:=h
   unfold reduceHash at h
   by_cases hr:(decide (-(2:Int)^63<=Builtin.Tuple.tupleHashOf (ds.map (yg w n)))&&decide (Builtin.Tuple.tupleHashOf (ds.map (yg w n)) < 2^63))=true
   ·rw [if_pos hr]
    rw [if_pos hr] at h
    exact QV (by simpa [Nat.add_assoc] using h)
   ·rw [if_neg hr]
    rw [if_neg hr] at h
    exact QU (wpAny_rule (QV (by simpa [Nat.add_assoc] using h)))
theorem HT.eq:∀ {n:Nat} {u v:Value} {x y:Tv} {A:Around} {s:Shared},A.units+n < cLine->HT s.heap n u x->HT s.heap n v y->SeqAt.EqAt A s u v (decide (x=y))
 | n,u,v,.s z,y,A,s,hu,hx,hy=>by
  have hx:∃ t,u=.str z t:=by cases n<;>exact hx
  obtain ⟨t,rfl⟩:=hx
  cases y with
  | s z'=>
   have hy:∃ t',v=.str z' t':=by cases n<;>exact hy
   obtain ⟨t',rfl⟩:=hy
   have e:decide ((Tv.s z)=.s z')=(z==z'):=by by_cases q:z=z'<;>simp [q]
   rw [e];exact SeqAt.EqAt.str_str z t z' t'
  | i z'=>
   have hy:∃ t',v=.int z' t':=by cases n<;>exact hy
   obtain ⟨t',rfl⟩:=hy
   have e:decide ((Tv.s z)=.i z')=false:=by simp
   rw [e];exact SeqAt.EqAt.str_int z t z' t'
  | t es=>cases n with
   | zero=>exact hy.elim
   | succ n=>
    obtain ⟨a,items,rfl,it,_⟩:=hy
    have e:decide ((Tv.s z)=.t es)=false:=by simp
    rw [e];exact SeqAt.EqAt.str_tuple z t it (by omega)
 | n,u,v,.i z,y,A,s,hu,hx,hy=>by
  have hx:∃ t,u=.int z t:=by cases n<;>exact hx
  obtain ⟨t,rfl⟩:=hx
  cases y with
  | s z'=>
   have hy:∃ t',v=.str z' t':=by cases n<;>exact hy
   obtain ⟨t',rfl⟩:=hy
   have e:decide ((Tv.i z)=.s z')=false:=by simp
   rw [e];exact SeqAt.EqAt.int_str z t z' t'
  | i z'=>
   have hy:∃ t',v=.int z' t':=by cases n<;>exact hy
   obtain ⟨t',rfl⟩:=hy
   have e:decide ((Tv.i z)=.i z')=(z==z'):=by by_cases q:z=z'<;>simp [q]
   rw [e];exact SeqAt.EqAt.int_int z t z' t'
  | t es=>cases n with
   | zero=>exact hy.elim
   | succ n=>
    obtain ⟨a,items,rfl,it,_⟩:=hy
    have e:decide ((Tv.i z)=.t es)=false:=by simp
    rw [e];exact SeqAt.EqAt.int_tuple z t it (by omega)
 | 0,_,_,.t ds,_,_,_,_,hx,_=>hx.elim
 | n+1,u,v,.t ds,y,A,s,hu,hx,hy=>by
  obtain ⟨a,items,rfl,it,sz,at_⟩:=hx
  cases y with
  | s z'=>
   obtain ⟨t',rfl⟩:=(show ∃ t',v=.str z' t' from hy)
   have e:decide ((Tv.t ds)=.s z')=false:=by simp
   rw [e];exact SeqAt.EqAt.tuple_str z' t' it (by omega)
  | i z'=>
   obtain ⟨t',rfl⟩:=(show ∃ t',v=.int z' t' from hy)
   have e:decide ((Tv.t ds)=.i z')=false:=by simp
   rw [e];exact SeqAt.EqAt.tuple_int z' t' it (by omega)
  | t es=>
   have Nl:=hy
   obtain ⟨b,items',rfl,Jz,Nk,at'⟩:=hy
   by_cases jk:a=b
   ·subst jk
    have e:Tv.t ds=.t es:=HT.inj (h:=s.heap) (n:=n+1) ⟨a,items,rfl,it,sz,at_⟩ Nl
    rw [Qw e]
    exact SeqAt.EqAt.same _
   ·have ye:∀ j (h1:j < items.size) (h2:j < items'.size),SeqAt.EqAt A.in1 s items[j] items'[j] (decide (ds[j]? =es[j]?)):=fun j h1 h2=>by
     have:=HT.eq (A:=A.in1) (by rw [Around.in1_units];omega) (at_ j h1 (by omega)) (at' j h2 (by omega))
     have e:decide (ds[j]? =es[j]?)=decide (ds[j]'(by omega)=es[j]'(by omega)):=by
      rw [Qa (show j < ds.length by omega),Qa (show j < es.length by omega)]
      simp
     rw [e];exact this
    have r:=SeqAt.EqAt.of_refs jk (SeqAt.RcAt.tuples (A:=A) (e:=fun j=>decide (ds[j]? =es[j]?)) it Jz (by omega) ye)
    have e:((List.range (min items.size items'.size)).all (fun j=>decide (ds[j]? =es[j]?))&&items.size==items'.size)=decide (Tv.t ds=.t es):=by
     rw [sz,Nk]
     have key:=Wj (ds:=ds) (es:=es) (ev:=fun j=>decide (ds[j]? =es[j]?)) rfl rfl fun j h1 h2=>by
      rw [Qa h1,Qa h2];simp
     by_cases q:Tv.t ds=.t es
     ·rw [Qw q];exact key.mpr q
     ·rw [Qx q]
      cases hb:((List.range (min ds.length es.length)).all (fun j=>decide (ds[j]? =es[j]?))&&ds.length==es.length) with
      | false=>rfl
      | true=>exact absurd (key.mp hb) q
    rw [<- e];exact r
theorem HT.quiet:∀ {n m:Nat} {v:Value} {d:Tv} {A:Around} {E:Value->Shared->Prop} {s:Shared} {Q:Bool->Shared->Prop},n<=m->HT s.heap n v d->Q true s->wpAny (model prog w) A (eqIsQuiet m v) Q E s
 | n,m,v,.s z,A,E,s,Q,hm,hx,h=>by
  have hx:∃ t,v=.str z t:=by cases n<;>exact hx
  obtain ⟨t,rfl⟩:=hx
  rw [eqIsQuiet_byValue _ rfl];exact QV h
 | n,m,v,.i z,A,E,s,Q,hm,hx,h=>by
  have hx:∃ t,v=.int z t:=by cases n<;>exact hx
  obtain ⟨t,rfl⟩:=hx
  rw [eqIsQuiet_byValue _ rfl];exact QV h
 | 0,_,_,.t ds,_,_,_,_,_,hx,_=>hx.elim
 | n+1,m,v,.t ds,A,E,s,Q,hm,hx,h=>by
  obtain ⟨a,items,rfl,⟨o,h1,h2,k,h3⟩,sz,at_⟩:=hx
  have hT:s.TypeIs (.ref a) "tuple":=⟨o,h1,h2⟩
  obtain ⟨m,rfl⟩:∃ m',m=m'+1:=⟨m - 1,by omega⟩
  unfold eqIsQuiet
  refine QU (wpAny_specialOf hT F.slot_tuple_eq.lookup ?_)
  show wpAny _ _ (isInstance (.ref a) (.type "tuple") >>=_) _ _ s
  refine QU (wpAny_isInstance hT isSubtype_tuple_tuple ?_)
  simp only [Bool.not_true,Bool.false_eq_true,if_false]
  refine QU (wpAny_seqItems h1 h3 ?_)
  refine QU ?_
  show wpAny _ _ (forIn items _ _) _ _ s
  rw [<- Array.forIn_toList]
  refine wpAny_forIn_list _ (fun rest r s'=>r.1=none/\s'=s/\∀ u∈rest,∃ d,HT s.heap n u d) _ ?_ ?_ _ _ ⟨rfl,rfl,fun u hu=>?_⟩
  ·rintro u rest r s' ⟨hr,rfl,C8⟩
   obtain ⟨d,hd⟩:=C8 u List.mem_cons_self
   refine QU (HT.quiet (n:=n) (by omega) hd ?_)
   simp only [Bool.not_true,Bool.false_eq_true,if_false]
   exact QV ⟨rfl,rfl,fun u WG=>C8 u (Qh _ WG)⟩
  ·rintro ⟨r1,r2⟩ s' ⟨hr,rfl,_⟩
   simp only at hr
   subst hr
   exact QV h
  ·obtain ⟨j,hj,rfl⟩:=Qi hu
   have s_:j < items.size:=by simpa using hj
   exact ⟨_,by simpa using at_ j s_ (by omega)⟩
noncomputable def Fb (prog:Program) (w:World):HeapKind prog w Tv where
 is:=fun h d a=>HT h 3 (.ref a) d
 hash:=yg w 3
 draws:=Bg 3
 room:=fun A=>A.units+3 < cLine
 inj:=fun hx hy=>hx.inj hy
 keeps:=fun x ho hd hs=>x.keeps ho hd hs
 pyHash:=fun hu hk h=>HT.hash _ hu hk h
 eqBool:=fun hu hx hy h=>HT.eq hu hx hy _ _ _ _ h
 quiet:=fun hk h=>HT.quiet (by decide) hk h
abbrev rj:=List (Tv×Addr×Addr)
def j_ (xs:rj):List (Tv×Addr×Value):=xs.map fun x=>(x.1,x.2.1,.ref x.2.2)
def Fc (P:Program) (w:World) (a:Addr) (xs:rj) (h:Heap):Prop:=xs.length<=sizeLine/\(a==sysModules)=false/\∃ o es ep,h.get? a=some o/\o.ExactDict/\o.data=.dict es ep/\es.toList=(j_ xs).map (entryOfKey (Fb P w))/\(xs.map (·.1)).Nodup
theorem Fc.keep {xs:rj} {h1 h2:Heap} (h:Fc P w a xs h1) (k:∀ o,h1.get? a=some o->h2.get? a=some o):Fc P w a xs h2:=
 let ⟨z,y,o,es,ep,q,r⟩:=h;⟨z,y,o,es,ep,k _ q,r⟩
abbrev gb (P:Program) (w:World) (a:Addr) (xs:rj):HO:=.ext (Fc P w a xs)
structure DK (P:Program) (w:World) (H:Hp) (a:Addr) (xs:rj):Prop where
 at_:H a=some (gb P w a xs)
 ks:∀ p∈xs,TD H 3 (.ref p.2.1) p.1
section
variable {xs:rj}
theorem xC (e:Fc P w a xs h):bg P w H h a (gb P w a xs):=⟨e,(let ⟨_,_,o,_,_,ho,_⟩:=e;⟨o,ho⟩),fun h1 h2 x k=>x.keep k⟩
theorem TD.ht (I:Inv X pins σ H s):∀ {n:Nat} {x:V} {d:Tv} {v:Value},TD H n x d->RelV x v->HT s.heap n v d:=by
 intro n
 induction n with
 | zero=>
  intro x d v h r
  rcases h.v with ⟨z,rfl⟩ | ⟨z,rfl⟩ | ⟨a,rfl⟩
  ·obtain rfl:=h.yc;exact r
  ·obtain rfl:=h.yd;exact r
  ·obtain ⟨_,_,_,z,_⟩:=h.ze;cases z
 | succ n ih=>
  intro x d v h r
  rcases h.v with ⟨z,rfl⟩ | ⟨z,rfl⟩ | ⟨a,rfl⟩
  ·obtain rfl:=h.yc;exact r
  ·obtain rfl:=h.yd;exact r
  ·obtain ⟨n',ds,xs,e1,rfl,r1,t1⟩:=h.ze
   cases e1
   obtain ⟨its,v1,p1,_⟩:=I.tuple (aj.Cp r1)
   obtain rfl:v=Value.ref a:=r
   have l1:=v1.length
   have l2:=t1.len
   refine ⟨a,its.toArray,rfl,p1,by simp;omega,fun j h1 h2=>?_⟩
   obtain ⟨w1,f1,q1⟩:=v1.get (Qa (show j < xs.length by omega))
   have n1:its.toArray[j]=w1:=by rw [Qa (by simpa using h1)] at f1;simpa using f1
   rw [n1]
   exact ih (t1.at_ j (by omega) h2) q1
theorem DK.real (h:DK X.prog X.w H a xs) (I:Inv X pins σ H s):xs.length<=sizeLine/\(a==sysModules)=false/\s.heap.DictOfH (Fb X.prog X.w) a (j_ xs):=by
 obtain ⟨z,y,o,es,ep,h1,h2,h3,h4,h5⟩:=(show bg X.prog X.w H s.heap a (gb X.prog X.w a xs) from I.hok a _ h.at_).1
 refine ⟨z,y,o,es,ep,h1,h2,h3,h4,fun x hx=>?_,by simpa [j_,Qn,QC] using h5⟩
 obtain ⟨p,hp,rfl⟩:=List.mem_map.mp hx
 exact TD.ht I (h.ks p hp) (v:=.ref p.2.1) rfl
def WH (P:Program) (w:World):TE:=fun _ H Q=>∀ D,H D=none->Q (.ref D) (upd H D (gb P w D []))
theorem WI {pos:Pos} (P:Program) (w:World) (hP:X.prog=P:=by rfl) (hw:X.w=w:=by rfl):SE X (.Dict [] [] pos) (WH P w):=by
 subst hP hw
 constructor
 intro pins s σ H Q I h
 refine wpAny_Dict_empty ⟨.ref s.heap.objs.size,_,I.laid (a:=s.heap.objs.size) (o:=gb X.prog X.w s.heap.objs.size []) (t':=s.toks) (fun _ _ q=>Qc _ q) (Qz _) ?_,rfl,h _ (I.hok.fresh (Qz _))⟩
 have de:=pQ (P:=X.prog) (w:=X.w) (H:=H) s.heap I.big
 obtain ⟨_,hy,_,_,o,es,ep,h1,h2,h3,h4,h5⟩:=de
 obtain ⟨_,hd2⟩:=Heap.DictOfH.new (knd:=Fb X.prog X.w) s.heap
 obtain ⟨JC,WJ,g1,g2,g3,g4,g5,g6⟩:=hd2
 exact xC ⟨Nat.zero_le _,hy,_,JC,WJ,g1,g2,g3,g4,by simp⟩
variable {o f:Expr} {td ty tx:TE}
def WK (P:Program) (w:World) (td ty tx:TE):TE:=fun σ H Q=>td σ H fun x H1=>∃ a,x=.ref a/\(∃ xs,DK P w H1 a xs)/\ty σ H1 fun y H2=>tx σ H2 fun z H3=>∃ xs d b l,DK P w H3 a xs/\y=.ref b/\z=.ref l/\TD H3 3 (.ref b) d/\xs.length < sizeLine/\
 (∀ p∈xs,p.1=d->Q (.ref p.2.2) H3)/\(d ∉ xs.map (·.1)->Q (.ref l) (upd H3 a (gb P w a (xs++[(d,b,l)]))))
theorem Nm {xs:rj} {d:Tv}:(d ∉ xs.map (·.1)/\atKey (j_ xs) d=none)\/∃ p∈xs,p.1=d/\atKey (j_ xs) d=some (p.2.1,.ref p.2.2):=by
 induction xs with
 | nil=>exact .inl ⟨by simp,rfl⟩
 | cons x xs ih=>
  by_cases hx:x.1=d
  ·refine .inr ⟨x,List.mem_cons_self,hx,?_⟩
   unfold atKey j_
   rw [List.map_cons,List.find?_cons_of_pos (by simpa using hx)];rfl
  ·have e:atKey (j_ (x::xs)) d=atKey (j_ xs) d:=by
    unfold atKey j_
    rw [List.map_cons,List.find?_cons_of_neg (by simpa using hx)]
   rw [e]
   rcases ih with ⟨h1,h2⟩ | ⟨p,h1,h2,h3⟩
   ·exact .inl ⟨by simp only [List.map_cons,Qp,not_or];exact ⟨fun z=>hx z.symm,h1⟩,h2⟩
   ·exact .inr ⟨p,Qh _ h1,h2,h3⟩
theorem vT (P:Program) (w:World) (hu:X.A.units+10 < cLine) (ho:SE X o td) (he:SE X e ty) (hf:SE X f tx) (m:M2 X o "setdefault" apos e f cpos) (hP:X.prog=P:=by rfl) (hw:X.w=w:=by rfl):SE X (.Call (.Attribute o "setdefault" apos) [e,f] [] cpos) (WK P w td ty tx):=by
 subst hP hw
 constructor
 intro pins s σ H Q I h
 refine wpAny_Call_method m.base m.few m.line PySem.F.plainAttrs_dict PySem.F.slot_dict_setdefault PySem.F.type_dict_setdefault (ao (ho.h pins s σ H _ I h) ?_)
 rintro u s1 ⟨x,H1,I1,rx,a,ex,⟨Ak,d0⟩,q1⟩
 subst ex
 obtain rfl:u=Value.ref a:=rx
 obtain ⟨_,_,Nn⟩:=d0.real I1
 refine ⟨Nn.typeIs,(fun b hb=>by cases hb;obtain ⟨o,es,ep,h1,h2,_⟩:=Nn;exact ⟨o,h1,h2.2.1⟩),?_⟩
 rw [m.trees]
 refine Calls.callWith_builtin rfl (Calls.evalArgs_plain (Calls.spliced_cons (ao (he.h pins s1 σ H1 _ I1 q1) fun iv s2 ⟨y,H2,I2,ry,q2⟩=>
  Calls.spliced_cons (ao (hf.h pins s2 σ H2 _ I2 q2) fun fv s3 ⟨z,H3,I3,rz,xs,d,b,l,dm,ey,ez,WL,au,g1,g2⟩=>Calls.spliced_nil ?_))))
 subst ey ez
 obtain rfl:iv=Value.ref b:=ry
 obtain rfl:fv=Value.ref l:=rz
 obtain ⟨z',hd,dd⟩:=dm.real I3
 have hz:(j_ xs).length<=sizeLine:=by simpa [j_] using z'
 refine call_meetsIn PySem.F.slot_dict_setdefault dd.typeIs PySem.F.entry_dict_setdefault (PySem.F.args_dict_setdefault_3 _ _ _) (eK (Fb X.prog X.w) a b hd (.ref l)) ⟨?_,d,j_ xs,TD.ht I3 WL rfl,dd,hz,fun p hp=>?_,fun hn h' ia hs=>?_⟩
 ·show (Around.in1 _).units+3 < cLine
  simp only [Around.in1_units];omega
 ·rcases Nm (xs:=xs) (d:=d) with ⟨_,q⟩ | ⟨p',q1,q2,q3⟩
  ·rw [hp] at q;cases q
  ·rw [hp] at q3;cases q3
   exact ⟨.ref p'.2.2,H3,I3.tok _,rfl,g1 p' q1 q2⟩
 ·have hk:d ∉ xs.map (·.1):=by
   rcases Nm (xs:=xs) (d:=d) with ⟨q,_⟩ | ⟨p',q1,q2,q3⟩
   ·exact q
   ·rw [hn] at q3;cases q3
  obtain ⟨q,es,ep,hq,h2,h3,h4,_,h5⟩:=ia
  have e1:j_ (xs++[(d,b,l)])=j_ xs++[(d,b,.ref l)]:=by simp [j_]
  have new:bg X.prog X.w (upd H3 a (gb X.prog X.w a (xs++[(d,b,l)]))) h' a (gb X.prog X.w a (xs++[(d,b,l)])):=xC ⟨by simp;omega,hd,q,es,ep,hq,h2,h3,by rw [e1];exact h4,by
   rw [<- e1] at h5
   simpa [j_,Qn,QC] using h5⟩
  exact ⟨.ref l,_,dR I3 (by rw [dm.at_];exact True.intro) hs ⟨q,hq⟩ new,rfl,g2 hk⟩
def WM (P:Program) (w:World) (te:TE):TE:=fun σ H Q=>te σ H fun x H1=>∃ a xs,x=.ref a/\H1 a=some (gb P w a xs)/\∀ o,Q x (upd H1 a (.ae o (gb P w a xs)))
theorem WO (P:Program) (w:World) (he:SE X e te) (hP:X.prog=P:=by rfl) (hw:X.w=w:=by rfl):SE X e (WM P w te):=by
 subst hP hw
 constructor
 intro pins s σ H Q I h
 refine ao (he.h pins s σ H _ I h) ?_
 rintro v s1 ⟨x,H1,I1,r1,a,xs,ex,hx,q⟩
 have ok:=(show bg X.prog X.w H1 s1.heap a (gb X.prog X.w a xs) from I1.hok a _ hx)
 obtain ⟨o,ho⟩:=ok.2.1
 exact ⟨x,_,I1.write (x:=a) (e:=a) (h':=s1.heap) (t':=s1.toks) (o:=.ae o (gb X.prog X.w a xs)) (by rw [hx];exact True.intro) (.inl rfl) (fun b u _ q=>q) ⟨o,ho⟩ ⟨ho,xC ok.1⟩,r1,q o⟩
end
def DL (xs:rj) (i:Nat):V:=((xs[i]?).map fun x=>V.ref x.2.2).getD .ai
def JD (P:Program) (w:World) (a:Addr) (o:Obj) (xs:rj):It:=⟨fun i H=>H a=some (.ae o (gb P w a xs))/\i < xs.length,fun i H x H'=>H'=H/\x=DL xs i,fun i H=>H a=some (.ae o (gb P w a xs))/\xs.length=i⟩
theorem vA (xs:rj):y_ (JD P w a o xs) (fun H=>H a=some (.ae o (gb P w a xs))) xs.length (DL xs):=fun H ok=>⟨fun i hi=>⟨⟨ok,hi⟩,fun x H' h=>h⟩,ok,rfl⟩
theorem rB {K:Q1} {xs:rj} (nu:∃ es,o.data=.dict es ep):Turn P w K tg (JD P w a o xs) [it] it (fun i h=>h.IsValIter it a i xs.length ep) where
 mem:=by simp
 obj:=fun i h st b hb=>by
  have e:b=it:=by simpa using hb
  subst e
  obtain ⟨o,e,c,d⟩:=st
  exact ⟨o,e,fun v z=>by rw [d] at z;cases z⟩
 keep:=fun i h h' st k=>let ⟨o,e,r⟩:=st;⟨o,k it (by simp) o e,r⟩
 item:=by
  intro X hP hw hK hc i pins s σ H E I hf st hg
  subst hP hw hK
  obtain ⟨hq,hi⟩:=hg
  obtain ⟨e,⟨z,hd,ob,es,lh,h1,h2,h3,h4,h5⟩,_⟩:=(show bg X.prog X.w H s.heap a (.ae o (gb X.prog X.w a xs)) from I.hok a _ hq)
  obtain ⟨es',e_⟩:=nu
  rw [e] at h1;cases h1
  rw [e_] at h3;injection h3 with ii ik
  subst ii ik
  have hsz:es'.size=xs.length:=by rw [<- Array.length_toList,h4,Ql];simp [j_]
  have hx:es'[i]? =some (entryOfKey (Fb X.prog X.w) (xs[i].1,xs[i].2.1,.ref xs[i].2.2)):=by
   rw [<- Array.getElem?_toList,h4,Qq]
   unfold j_
   rw [Qq,Qa hi];rfl
  obtain ⟨f0,f1,f2,f3,f4,f5⟩:=hf it (by simp)
  refine nH (n:=xs.length) st e e_ hsz hx fun h' st' sb=>?_
  have I1:Inv X pins σ H {s with heap:=h'}:=I.turned (t':=s.toks) (fun b o hb e=>(sb.2 b hb).trans e) f0 f1 f3 f4 f5
  obtain ⟨o3,e3,c3,d3⟩:=id st'
  refine ⟨_,rfl,jS (s:={s with heap:=h'}) e3 c3 d3 (by decide) ⟨DL xs i,H,I1,?_,⟨rfl,rfl⟩,st',fun b hb=>(hf b hb).1⟩⟩
  unfold DL
  rw [Qa hi]
  rfl
 done:=by
  intro X hP hw hK hc i pins s σ H E I hf st hg
  subst hP hw hK
  obtain ⟨hq,hi⟩:=hg
  obtain ⟨e,⟨z,hd,ob,es,lh,h1,h2,h3,h4,h5⟩,_⟩:=(show bg X.prog X.w H s.heap a (.ae o (gb X.prog X.w a xs)) from I.hok a _ hq)
  obtain ⟨es',e_⟩:=nu
  rw [e] at h1;cases h1
  rw [e_] at h3;injection h3 with ii ik
  subst ii ik
  have hsz:es'.size=xs.length:=by rw [<- Array.length_toList,h4,Ql];simp [j_]
  obtain ⟨f0,f1,f2,f3,f4,f5⟩:=hf it (by simp)
  exact qH (n:=xs.length) (I.ok.hd hc) st e e_ hsz (by omega) fun h' eb=>⟨rfl,I.turned (t':=s.toks) (fun b o hb e=>eb b o hb e) f0 f1 f3 f4 f5⟩
 self:=fun _ _ _ _ _ st h=>wpAny_pyIter_valiter st h
section
variable {o:Expr}
def WQ (P:Program) (w:World) (te:TE):TI:=fun σ H R=>te σ H fun x H1=>∃ a xs o,x=.ref a/\H1 a=some (.ae o (gb P w a xs))/\R (JD P w a o xs) H1
theorem yD (P:Program) (w:World) (ho:SE X o to) (hP:X.prog=P:=by rfl) (hw:X.w=w:=by rfl) (jt:attributeBase o "values" X.env (eval o X.env)=eval o X.env:=by rfl) (ju:(apos.endLine==cpos.line)=true:=by rfl):
  SI X tg (.Call (.Attribute o "values" apos) [] [] cpos) (WQ P w to):=by
 subst hP hw
 constructor
 intro pins s σ H R I h
 refine wpAny_Call_method0_late jt ju (ao (ho.h pins s σ H _ I h) ?_)
 rintro v s1 ⟨x,H1,I1,r1,a,xs,o,ex,hH,q⟩
 subst ex
 cases r1
 obtain ⟨e,⟨z,ur,ob,es,ep,h1,h2,hd,h4,h5⟩,_⟩:=(show bg X.prog X.w _ s1.heap a (.ae o (gb X.prog X.w a xs)) from I1.hok a _ hH)
 rw [e] at h1;cases h1
 have hsz:es.size=xs.length:=by rw [<- Array.length_toList,h4,Ql];simp [j_]
 have hT:s1.TypeIs (.ref a) "dict":=⟨o,e,h2.1⟩
 refine ⟨"dict","dict.values",PySem.F.plainAttrs_dict,PySem.F.slot_dict_values,PySem.F.type_dict_values,hT,fun b hb=>by cases hb;exact ⟨o,e,h2.2.1⟩,Calls.callWith_builtin rfl (PySem.evalArgs_none ?_)⟩
 refine call_meetsIn PySem.F.slot_dict_values hT PySem.F.entry_dict_values (PySem.F.args_dict_values_1 _) (fB a ur) ⟨hT,?_⟩
 have I3:Inv X pins σ H1 {s1 with heap:=s1.heap.push {cls:=.type "dict_values",data:=.fields #[.ref a]}}:=I1.kept (t':=s1.toks) fun b o e=>Qc _ e
 refine gH (es:=es) (ep:=ep) ⟨_,Qd _ rfl,rfl,rfl⟩ (Qc _ e) hd ?_
 refine ⟨_,[(s1.heap.push {cls:=.type "dict_values",data:=.fields #[.ref a]}).objs.size],_,_,_,rfl,I3.kept (t':=s1.toks) fun b o e=>Qc _ e,rB (xs:=xs) (a:=a) (o:=o) ⟨es,hd⟩,by rw [<- hsz];exact ⟨_,Qd _ rfl,rfl,rfl⟩,fun b hb=>?_,q⟩
 have e:b=(s1.heap.push {cls:=.type "dict_values",data:=.fields #[.ref a]}).objs.size:=by simpa using hb
 subst e
 exact I3.ve (Qz _) (I3.hok.fresh (Qz _))
end
def l_ (r1 r2:List ak):Nat->Pr->Prop
 | 0,p=>jz r1 r2 p
 | n+1,p=>jz r1 r2 p/\∀ s∈stH (aq r1 p.1),l_ r1 r2 n (zf r1 r2 p s)
def gw (r1 r2:List ak) (p:Pr):Prop:=∀ v m,fh (gm r1 r2) p v=some m->¬DH r1 r2 m
section
variable {r3:List ak} {p p0 m:Pr} {a b c:Str}
theorem l_.top:∀ {n:Nat} {p:Pr},l_ r1 r2 n p->jz r1 r2 p
 | 0,_,h=>h
 | _+1,_,h=>h.1
theorem jz.symm (h:jz r1 r2 (a,b)):jz r2 r1 (b,a):=⟨h.1.symm,h.2.symm⟩
theorem l_.refl:∀ (n:Nat) (a:Str),l_ r1 r1 n (a,a)
 | 0,_=>⟨rfl,rfl⟩
 | n+1,a=>⟨⟨rfl,rfl⟩,fun s _=>l_.refl n _⟩
theorem l_.symm:∀ {n:Nat} {a b:Str},l_ r1 r2 n (a,b)->l_ r2 r1 n (b,a)
 | 0,_,_,h=>jz.symm h
 | n+1,a,b,h=>⟨h.1.symm,fun s hs=>(h.2 s (by rw [h.1.2];exact hs)).symm⟩
theorem l_.trans:∀ {n:Nat} {a b c:Str},l_ r1 r2 n (a,b)->l_ r2 r3 n (b,c)->l_ r1 r3 n (a,c)
 | 0,_,_,_,h,h'=>⟨h.1.trans h'.1,h.2.trans h'.2⟩
 | n+1,a,b,c,h,h'=>⟨⟨h.1.1.trans h'.1.1,h.1.2.trans h'.1.2⟩,fun s hs=>(h.2 s hs).trans (h'.2 s (by
   have:=h.1.2
   rw [<- show stH (aq r1 a)=stH (aq r2 b) from this];exact hs))⟩
theorem jZ:∀ {n:Nat} {p:Pr},(∀ r m,r.length<=n->fh (gm r1 r2) p r=some m->jz r1 r2 m)->l_ r1 r2 n p
 | 0,p,h=>h [] p (Qz _) rfl
 | n+1,p,h=>by
  have me:=h [] p (Nat.zero_le _) rfl
  refine ⟨me,fun s hs=>?_⟩
  obtain ⟨a,ha,ea⟩:=Qi hs
  refine jZ fun r m hr hg=>h (a::r) m (by simp;omega) ?_
  rw [pW,jD me,oR,Qa ha,ea]
  exact hg
theorem kD:∀ {n:Nat} {p:Pr},l_ r1 r2 n p->∀ {r:List Nat} {m:Pr},r.length<=n->fh (gm r1 r2) p r=some m->jz r1 r2 m
 | n,p,h,[],m,_,hg=>by cases hg;exact h.top
 | n+1,p,h,a::r,m,hl,hg=>by
  have me:=h.top
  rw [pW,jD me,oR] at hg
  cases hs:(stH (aq r1 p.1))[a]? with
  | none=>rw [hs] at hg;cases hg
  | some s=>
   rw [hs] at hg
   exact kD (h.2 s (QD hs)) (by simpa using hl) hg
 | 0,p,h,a::r,m,hl,hg=>absurd hl (by simp)
theorem fC:gw r1 r2 p↔∀ n,l_ r1 r2 n p:=
 ⟨fun h n=>jZ fun r m _ hg=>Classical.byContradiction (h r m hg),fun h v m hg hb=>hb (kD (h v.length) (Qz _) hg)⟩
theorem gw.symm (h:gw r1 r2 (a,b)):gw r2 r1 (b,a):=fC.mpr fun n=>(fC.mp h n).symm
theorem gw.trans (h:gw r1 r2 (a,b)) (h':gw r2 r3 (b,c)):gw r1 r3 (a,c):=fC.mpr fun n=>(fC.mp h n).trans (fC.mp h' n)
theorem gw.refl:gw r1 r1 (a,a):=fC.mpr fun n=>l_.refl n a
theorem gw.me (h:gw r1 r2 p):jz r1 r2 p:=fC.mp h 0
theorem gw.kid (h:gw r1 r2 p) {s:List Str} (hs:s∈stH (aq r1 p.1)):gw r1 r2 (zf r1 r2 p s):=fC.mpr fun n=>(fC.mp h (n+1)).2 s hs
end
def DM (y y':Str):Prop:=y'=y++"q"\/y'=y++"r"
def DN:Hd->Hd->Prop
 | .one s,.one s'=>s'=s
 | .as y,.as y'=>DM y y'
 | .way x y,.way x' y'=>DM x x'/\DM y y'
 | .prs s ps,.prs s' qs=>s'=s/\qs.length=ps.length/\∀ j (h1:j < qs.length) (h2:j < ps.length),qs[j].1=ps[j].1/\DM ps[j].2 qs[j].2
 | _,_=>False
theorem DN.nx:∀ {h h':Hd},DN h h'->(h.nx=none/\h'.nx=none)\/∃ y y',h.nx=some y/\h'.nx=some y'/\DM y y'
 | .one _,.one _,_=>.inl ⟨rfl,rfl⟩
 | .as y,.as y',t=>.inr ⟨y,y',rfl,rfl,t⟩
 | .way _ _,.way _ _,_=>.inl ⟨rfl,rfl⟩
 | .prs _ _,.prs _ _,_=>.inl ⟨rfl,rfl⟩
theorem DN.dc:∀ {h h':Hd},DN h h'->h.dc=h'.dc
 | .one _,.one _,t=>by cases t;rfl
 | .as _,.as _,_=>rfl
 | .way _ _,.way _ _,_=>rfl
 | .prs _ _,.prs _ _,t=>by obtain ⟨rfl,_⟩:=t;rfl
theorem DN.bc {h h':Hd} (t:DN h h'):h'.bc.length=h.bc.length/\∀ j (h1:j < h'.bc.length) (h2:j < h.bc.length),h'.bc[j].1=h.bc[j].1/\DM h.bc[j].2 h'.bc[j].2:=by
 cases h with
 | one s=>cases h' with
  | one s'=>exact ⟨rfl,fun j h1=>absurd h1 (by simp [Hd.bc])⟩
  | as _=>exact t.elim
  | way _ _=>exact t.elim
  | prs _ _=>exact t.elim
 | as y=>cases h' with
  | as y'=>exact ⟨rfl,fun j h1=>absurd h1 (by simp [Hd.bc])⟩
  | one _=>exact t.elim
  | way _ _=>exact t.elim
  | prs _ _=>exact t.elim
 | way x y=>cases h' with
  | way x' y'=>
   refine ⟨rfl,fun j h1 h2=>?_⟩
   have hj:j < 2:=h1
   match j,hj with
   | 0,_=>exact ⟨rfl,t.1⟩
   | 1,_=>exact ⟨rfl,t.2⟩
  | one _=>exact t.elim
  | as _=>exact t.elim
  | prs _ _=>exact t.elim
 | prs s ps=>cases h' with
  | prs s' qs=>
   obtain ⟨rfl,hl,ht⟩:=t
   refine ⟨by simp [Hd.bc,hl],fun j h1 h2=>?_⟩
   have:=ht j (by simpa [Hd.bc] using h1) (by simpa [Hd.bc] using h2)
   simp only [Hd.bc,Qr]
   exact ⟨by rw [this.1],this.2⟩
  | one _=>exact t.elim
  | as _=>exact t.elim
  | way _ _=>exact t.elim
section
variable {rows Cc:List ak}
variable {ns2:List Str}
end
def dl (rows:List ak) (a:Str) (s:List Str):Str:=(jh rows a s).getD ""
theorem WR (r1 r2:List ak) (a b:Str) (s:List Str):zf r1 r2 (a,b) s=(dl r1 a s,dl r2 b s):=rfl
structure Av (rows:List ak) (R:List Str) (num:Str->Nat) (wt:List Nat):Prop where
 co:∀ a∈R,∀ b∈R,gw rows rows (a,b)->num a=num b
 me:∀ a∈R,∀ b∈R,num a=num b->jz rows rows (a,b)
 st:∀ a∈R,∀ b∈R,num a=num b->∀ s∈stH (aq rows a),num (dl rows a s)=num (dl rows b s)\/num (dl rows a s)∈wt\/num (dl rows b s)∈wt
structure uc (rows:List ak) (R:List Str) (num:Str->Nat) (wt:List Nat) (W:List Str) (dn:List (List Str)):Prop where
 co:∀ a∈R,∀ b∈R,gw rows rows (a,b)->num a=num b
 me:∀ a∈R,∀ b∈R,num a=num b->jz rows rows (a,b)
 st:∀ a∈R,∀ b∈R,num a=num b->∀ s∈stH (aq rows a),num (dl rows a s)=num (dl rows b s)\/num (dl rows a s)∈wt\/num (dl rows b s)∈wt\/(s ∉ dn/\¬(dl rows a s∈W↔dl rows b s∈W))
 un:∀ a∈R,∀ b∈R,num a=num b->(a∈W↔b∈W)
 sd:∀ s∈dn,∀ a∈R,∀ b∈R,num a=num b->s∈stH (aq rows a)->(dl rows a s∈W↔dl rows b s∈W)
section
variable {rows:List ak} {R W:List Str} {wt cu:List Nat} {dn:List (List Str)}
def DO (rows:List ak) (R:List Str):Prop:=∀ a∈R,∀ s∈stH (aq rows a),dl rows a s∈R
theorem Av.done (h:Av rows R num []) (rc:DO rows R) {a b:Str} (ha:a∈R) (hb:b∈R):num a=num b↔gw rows rows (a,b):=by
 refine ⟨fun e=>?_,h.co a ha b hb⟩
 have key:∀ n a b,a∈R->b∈R->num a=num b->l_ rows rows n (a,b):=by
  intro n
  induction n with
  | zero=>exact fun a b ha hb e=>h.me a ha b hb e
  | succ n ih=>
   intro a b ha hb e
   have mk:=h.me a ha b hb e
   refine ⟨mk,fun s hs=>?_⟩
   have hs:s∈stH (aq rows a):=hs
   have jq:s∈stH (aq rows b):=by rw [<- show stH (aq rows a)=stH (aq rows b) from mk.2];exact hs
   rw [WR]
   refine ih _ _ (rc a ha s hs) (rc b hb s jq) ?_
   rcases h.st a ha b hb e s hs with z | z | z
   ·exact z
   ·cases z
   ·cases z
 exact fC.mpr fun n=>key n a b ha hb e
theorem Av.take {at_:Nat} (h:Av rows R num wt) (hw:∀ k∈wt,k∈cu\/k=at_) (hW:∀ x∈R,(x∈W↔num x=at_)) (rc:DO rows R):uc rows R num cu W []:=by
 refine ⟨h.co,h.me,fun a ha b hb e s hs=>?_,fun a ha b hb e=>by rw [hW a ha,hW b hb,e],fun s hs=>nomatch hs⟩
 have jq:s∈stH (aq rows b):=by rw [<- show stH (aq rows a)=stH (aq rows b) from (h.me a ha b hb e).2];exact hs
 have xa:=rc a ha s hs
 have xb:=rc b hb s jq
 by_cases hx:num (dl rows a s)=num (dl rows b s)
 ·exact .inl hx
 rcases h.st a ha b hb e s hs with z | z | z
 ·exact .inl z
 ·rcases hw _ z with z | z
  ·exact .inr (.inl z)
  ·refine .inr (.inr (.inr ⟨by simp,fun q=>hx ?_⟩))
   rw [hW _ xa,hW _ xb] at q
   rw [z,q.mp z]
 ·rcases hw _ z with z | z
  ·exact .inr (.inr (.inl z))
  ·refine .inr (.inr (.inr ⟨by simp,fun q=>hx ?_⟩))
   rw [hW _ xa,hW _ xb] at q
   rw [z,q.mpr z]
open Classical in
noncomputable def rq (num:Str->Nat) (l:List Str) (new:Nat) (x:Str):Nat:=if x∈l then new else num x
theorem uc.split (h:uc rows R num wt W dn) {l:List Str} {k new:Nat} (hl:∀ x∈l,x∈R/\num x=k) (cl:∀ a∈l,∀ b∈R,gw rows rows (a,b)->b∈l) (fr:∀ x∈R,num x≠new) (rc:DO rows R) (w1:∀ j∈wt,j∈cu) (w2:k∈wt->new∈cu) (w3:new∈cu\/k∈cu):uc rows R (rq num l new) cu W dn:=by
 have ig:∀ {x},x∈l->rq num l new x=new:=fun {x} hx=>if_pos hx
 have out:∀ {x},x ∉ l->rq num l new x=num x:=fun {x} hx=>if_neg hx
 have back:∀ a∈R,∀ b∈R,rq num l new a=rq num l new b->num a=num b/\(a∈l↔b∈l):=fun a ha b hb e=>by
  by_cases h1:a∈l
  ·rw [ig h1] at e
   by_cases h2:b∈l
   ·exact ⟨(hl a h1).2.trans (hl b h2).2.symm,⟨fun _=>h2,fun _=>h1⟩⟩
   ·rw [out h2] at e;exact absurd e.symm (fr b hb)
  ·rw [out h1] at e
   by_cases h2:b∈l
   ·rw [ig h2] at e;exact absurd e (fr a ha)
   ·rw [out h2] at e;exact ⟨e,⟨fun z=>absurd z h1,fun z=>absurd z h2⟩⟩
 -- a number Nd aaU aaV on aaW
 have wk:∀ x∈R,num x∈wt->rq num l new x∈cu:=fun x hx hw=>by
  by_cases h1:x∈l
  ·rw [ig h1];exact w2 (by rw [<- (hl x h1).2];exact hw)
  ·rw [out h1];exact w1 _ hw
 refine ⟨fun a ha b hb nb=>?_,fun a ha b hb e=>h.me a ha b hb (back a ha b hb e).1,fun a ha b hb e s hs=>?_,fun a ha b hb e=>h.un a ha b hb (back a ha b hb e).1,fun s hs a ha b hb e=>h.sd s hs a ha b hb (back a ha b hb e).1⟩
 ·by_cases h1:a∈l
  ·rw [ig h1,ig (cl a h1 b hb nb)]
  ·have h2:b ∉ l:=fun z=>h1 (cl b z a ha nb.symm)
   rw [out h1,out h2];exact h.co a ha b hb nb
 ·obtain ⟨e0,_⟩:=back a ha b hb e
  have jq:s∈stH (aq rows b):=by rw [<- show stH (aq rows a)=stH (aq rows b) from (h.me a ha b hb e0).2];exact hs
  have xa:=rc a ha s hs
  have xb:=rc b hb s jq
  rcases h.st a ha b hb e0 s hs with z | z | z | z
  ·by_cases h1:dl rows a s∈l
   ·by_cases h2:dl rows b s∈l
    ·exact .inl (by rw [ig h1,ig h2])
    ·rw [ig h1,out h2]
     have:num (dl rows b s)=k:=by rw [<- z];exact (hl _ h1).2
     rcases w3 with w | w
     ·exact .inr (.inl w)
     ·exact .inr (.inr (.inl (by rw [this];exact w)))
   ·by_cases h2:dl rows b s∈l
    ·rw [out h1,ig h2]
     have:num (dl rows a s)=k:=by rw [z];exact (hl _ h2).2
     rcases w3 with w | w
     ·exact .inr (.inr (.inl w))
     ·exact .inr (.inl (by rw [this];exact w))
    ·exact .inl (by rw [out h1,out h2];exact z)
  ·exact .inr (.inl (wk _ xa z))
  ·exact .inr (.inr (.inl (wk _ xb z)))
  ·exact .inr (.inr (.inr z))
theorem uc.next (h:uc rows R num wt W dn) {s:List Str} (hs:∀ a∈R,∀ b∈R,num a=num b->s∈stH (aq rows a)->(dl rows a s∈W↔dl rows b s∈W)):uc rows R num wt W (dn++[s]):=by
 refine ⟨h.co,h.me,fun a ha b hb e t ht=>?_,h.un,fun t ht a ha b hb e JE=>?_⟩
 ·by_cases xu:t=s
  ·subst xu
   rcases h.st a ha b hb e t ht with z | z | z | z
   ·exact .inl z
   ·exact .inr (.inl z)
   ·exact .inr (.inr (.inl z))
   ·exact absurd (hs a ha b hb e ht) z.2
  ·rcases h.st a ha b hb e t ht with z | z | z | z
   ·exact .inl z
   ·exact .inr (.inl z)
   ·exact .inr (.inr (.inl z))
   ·refine .inr (.inr (.inr ⟨fun q=>?_,z.2⟩))
    rcases List.mem_append.mp q with q | q
    ·exact z.1 q
    ·exact xu (List.mem_singleton.mp q)
 ·rcases List.mem_append.mp ht with q | q
  ·exact h.sd t q a ha b hb e JE
  ·rw [List.mem_singleton.mp q] at JE ⊢;exact hs a ha b hb e JE
theorem uc.fin (h:uc rows R num wt W dn) (all:∀ a∈R,∀ s∈stH (aq rows a),dl rows a s∈W->s∈dn):Av rows R num wt:=by
 refine ⟨h.co,h.me,fun a ha b hb e s hs=>?_⟩
 have jq:s∈stH (aq rows b):=by rw [<- show stH (aq rows a)=stH (aq rows b) from (h.me a ha b hb e).2];exact hs
 rcases h.st a ha b hb e s hs with z | z | z | ⟨z1,z2⟩
 ·exact .inl z
 ·exact .inr (.inl z)
 ·exact .inr (.inr z)
 ·exact absurd ⟨fun q=>absurd (all a ha s hs q) z1,fun q=>absurd (all b hb s jq q) z1⟩ z2
end
theorem Inv.WS {kvs:List (Key×V)} (I:Inv X pins σ H s) (h:H a=some (.ae o (.dK kvs))) (h0:∀ o u,X.H₀ a≠some (.ae o u)):Inv X pins σ (upd H a (.dK kvs)) s:=by
 have na:∀ b,H b=none->b≠a:=fun b n z=>by rw [z,h] at n;cases n
 have nn:∀ b u,H b=some u->(∀ v,u≠.ae o v)->b≠a:=fun b u q n z=>by rw [z,h] at q;cases q;exact n _ rfl
 refine ⟨I.ok,I.os,I.bare,⟨I.base.keep,I.base.slot,fun b ob q n hx=>?_,I.base.there,fun b xs q=>?_,fun b ob u q=>?_,fun b ps q=>?_⟩,I.loc,I.cell,?_,fun x c e=>?_,fun p hp=>?_,?_,I.len⟩
 ·have:=I.base.free b ob q n hx
  rw [aB (na b this)];exact this
 ·have:=I.base.tups b xs q
  rw [aB (nn b _ this fun v z=>nomatch z)];exact this
 ·have:=I.base.ue b ob u q
  by_cases hb:b=a
  ·subst hb;exact absurd q (h0 _ _)
  ·rw [aB hb];exact this
 ·obtain ⟨more,this⟩:=I.base.vc b ps q
  exact ⟨more,by rw [aB (nn b _ this fun v z=>nomatch z)];exact this⟩
 ·rw [aB (na _ I.free)];exact I.free
 ·have:=I.wg x c e
  rw [aB (na _ this)];exact this
 ·obtain ⟨p1,p2,p3⟩:=I.pin p hp
  exact ⟨p1,by rw [aB (na _ p2)];exact p2,p3⟩
 ·intro b u q
  by_cases hb:b=a
  ·subst hb
   rw [aA] at q;cases q
   exact (I.hok b _ h).2
  ·rw [aB hb] at q
   exact (I.hok b u q).stay (fun c v _ r=>r) (fun c r=>by rw [aB (nn c _ r fun v z=>nomatch z)];exact r) fun c xs r=>r.upd fun _ _ z=>by
    subst z
    rcases r with r | ⟨_,r⟩<;>(rw [h] at r;cases r)
def WT (H0:Hp) (te:TE):TE:=fun σ H Q=>∃ a o kvs,H a=some (.ae o (.dK kvs))/\(∀ o u,H0 a≠some (.ae o u))/\te σ (upd H a (.dK kvs)) Q
theorem WU (H0:Hp) (he:SE X e te) (hH:X.H₀=H0:=by rfl):SE X e (WT H0 te):=by
 subst hH
 constructor
 intro pins s σ H Q I ⟨a,o,kvs,h1,h2,q⟩
 exact he.h pins s σ _ _ (I.WS h1 h2) q
structure WV (C:Addr) (H:Hp) (p lm dn lw dw:Addr):Prop where
 ex:∃ (dx:Addr) (fs:List (Str×V)),H p=some (.ins C dx fs)/\fs.lookup ("members":Str)=some (.ref lm)/\fs.lookup ("number":Str)=some (.ref dn)/\fs.lookup ("waiting":Str)=some (.ref lw)/\fs.lookup ("waits":Str)=some (.ref dw)/\∀ m∈(["begin","put_off","take_waiting","part"]:List Str),fs.lookup m=none
def cy (k:Nat):V:=.int (k:Int)
structure iw (C:Addr) (H0 H:Hp) (p lm dn lw dw:Addr) (ms:List Addr) (mem:List (List Str)) (kn:List (Key×V)) (wt:List Nat) (kw:List (Key×V)):Prop where
 f:WV C H p lm dn lw dw
 m:H lm=some (.lst (ms.map V.ref))
 ml:ms.length=mem.length
 d:∀ i (h:i < ms.length) (h':i < mem.length),∃ kvs,H ms[i]=some (.dK kvs)/\kvs.map (·.1)=mem[i].map Sum.inr
 n:H dn=some (.dK kn)
 w:H lw=some (.lst (wt.map cy))
 ws:H dw=some (.dK kw)
 Aw:∀ k:Nat,(av kw (.inl (k:Int))).isSome=true↔k∈wt
 wn:wt.Nodup
 kl:kw.length<=wt.length
 nd:([p,lm,dn,lw,dw]++ms).Nodup
 fr:∀ a∈[p,lm,dn,lw,dw]++ms,H0 a=none
 sm:aa H0 H
section
variable {lm dn lw dw:Addr} {ms:List Addr} {kn:List (Key×V)} {wt:List Nat} {kw:List (Key×V)}
theorem iw.keep (h:iw C H0 H p lm dn lw dw ms mem kn wt kw) (k:∀ b∈[p,lm,dn,lw,dw]++ms,∀ o,H b=some o->H' b=some o) (s:aa H0 H'):iw C H0 H' p lm dn lw dw ms mem kn wt kw:=by
 obtain ⟨dx,fs,f1,f2⟩:=h.f.ex
 exact ⟨⟨dx,fs,k p (by simp) _ f1,f2⟩,k lm (by simp) _ h.m,h.ml,fun i a b=>let ⟨kvs,e1,e2⟩:=h.d i a b;⟨kvs,k _ (by simp) _ e1,e2⟩,k dn (by simp) _ h.n,k lw (by simp) _ h.w,k dw (by simp) _ h.ws,h.Aw,h.wn,h.kl,h.nd,h.fr,s⟩
theorem iw.same (h:iw C H0 H p lm dn lw dw ms mem kn wt kw) (s:aa H H'):iw C H0 H' p lm dn lw dw ms mem kn wt kw:=h.keep (fun b _ o e=>s b o e) (h.sm.trans s)
end
def ky (rows:List Str) (l:List Str):List Str:=l.filter fun x=>decide (x ∉ rows)
theorem vX {kvs:List (Key×V)} {l:List Str} (h:kvs.map (·.1)=l.map Sum.inr):(qz kvs (.inr x)).map (·.1)=(l.filter fun y=>decide (y≠x)).map Sum.inr:=by
 unfold qz
 induction kvs generalizing l with
 | nil=>cases l with
  | nil=>rfl
  | cons _ _=>simp at h
 | cons q kvs ih=>cases l with
  | nil=>simp at h
  | cons y l=>
   simp only [List.map_cons,List.cons.injEq] at h
   by_cases hy:y=x
   ·rw [List.filter_cons_of_neg (by simp [h.1,hy]),List.filter_cons_of_neg (by simp [hy])];exact ih h.2
   ·rw [List.filter_cons_of_pos (by simp [h.1,hy]),List.filter_cons_of_pos (by simp [hy]),List.map_cons,List.map_cons,ih h.2,h.1]
theorem rX (rows l:List Str) (x:Str):(ky rows l).filter (fun y=>decide (y≠x))=ky (rows++[x]) l:=by
 unfold ky
 rw [List.filter_filter]
 congr 1
 funext y
 by_cases h1:y=x<;>by_cases h2:y∈rows<;>simp [h1,h2]
structure Cw (R:List Str) (num:Str->Nat) (mem:List (List Str)):Prop where
 nd:∀ (i:Nat) (l:List Str),mem[i]? =some l->l.Nodup/\l≠[]
 mm:∀ (i:Nat) (l:List Str),mem[i]? =some l->∀ x,x∈l↔(x∈R/\num x=i)
 lt:∀ x∈R,num x < mem.length
section
variable {R:List Str}
theorem Cw.few (h:Cw R num mem):mem.length<=R.length:=by
 have hd:∀ i,i < mem.length->∃ x,x∈R/\num x=i:=fun i hi=>by
  have e:=Qa hi
  obtain ⟨_,ne⟩:=h.nd i _ e
  obtain ⟨x,hx⟩:=List.exists_mem_of_ne_nil _ ne
  exact ⟨x,(h.mm i _ e x).mp hx⟩
 have hc:∀ i:Fin mem.length,∃ x,x∈R/\num x=i.val:=fun i=>hd i.val i.isLt
 obtain ⟨f,hf⟩:=Classical.axiomOfChoice hc
 have:=bU (l:=(List.finRange mem.length).map f) (m:=R) ?_ ?_
 ·simpa using this
 ·refine List.pairwise_map.mpr ((List.pairwise_iff_getElem.mpr fun i j hi hj zb=>?_))
  intro e
  have h1:=(hf ((List.finRange mem.length)[i])).2
  have h2:=(hf ((List.finRange mem.length)[j])).2
  rw [e,h2] at h1
  simp at h1
  omega
 ·intro x hx
  obtain ⟨i,_,rfl⟩:=List.mem_map.mp hx
  exact (hf i).1
theorem mS {rows l:List Str}:x∈ky rows l↔x∈l/\x ∉ rows:=by unfold ky;rw [List.mem_filter];simp
theorem Cw.split (h:Cw R num mem) {l1 l:List Str} {k:Nat} (hk:mem[k]? =some l) (hl:∀ x∈l1,x∈l) (Fd:l1.Nodup) (ne1:l1≠[]) (gr:l1.length≠l.length):Cw R (rq num l1 mem.length) (mem.set k (ky l1 l)++[l1]):=by
 obtain ⟨GX,ekl⟩:=List.getElem?_eq_some_iff.mp hk
 have ig:∀ {x},x∈l1->rq num l1 mem.length x=mem.length:=fun {x} hx=>if_pos hx
 have out:∀ {x},x ∉ l1->rq num l1 mem.length x=num x:=fun {x} hx=>if_neg hx
 have Np:∀ x∈l1,x∈R/\num x=k:=fun x hx=>(h.mm k l hk x).mp (hl x hx)
 have get:∀ i m,(mem.set k (ky l1 l)++[l1])[i]? =some m->(i=mem.length/\m=l1)\/(i=k/\m=ky l1 l)\/(i≠k/\i < mem.length/\mem[i]? =some m):=fun i m e=>by
  by_cases hi:i < mem.length
  ·rw [Qg (by simpa using hi)] at e
   by_cases t_:i=k
   ·subst t_
    rw [List.getElem?_set_self (by simpa using hi)] at e
    exact .inr (.inl ⟨rfl,(QE e).symm⟩)
   ·rw [List.getElem?_set_ne (Ne.symm t_)] at e
    exact .inr (.inr ⟨t_,hi,e⟩)
  ·rw [List.getElem?_append_right (by simpa using hi),List.length_set] at e
   have:i - mem.length=0:=by
    by_cases z:i - mem.length=0
    ·exact z
    ·rw [List.getElem?_eq_none (by simp;omega)] at e;cases e
   rw [this] at e
   exact .inl ⟨by omega,by simpa using e.symm⟩
 refine ⟨fun i m e=>?_,fun i m e x=>?_,fun x hx=>?_⟩
 ·rcases get i m e with ⟨_,rfl⟩ | ⟨_,rfl⟩ | ⟨_,_,e⟩
  ·exact ⟨Fd,ne1⟩
  ·refine ⟨(h.nd k l hk).1.sublist List.filter_sublist,fun z=>gr ?_⟩
   have h1:=bU Fd hl
   have h2:=bU (h.nd k l hk).1 (m:=l1) fun x hx=>Classical.byContradiction fun q=>by
    have:x∈ky l1 l:=mS.mpr ⟨hx,q⟩
    rw [z] at this;cases this
   omega
  ·exact h.nd i m e
 ·rcases get i m e with ⟨rfl,rfl⟩ | ⟨rfl,rfl⟩ | ⟨t_,hi,e⟩
  ·constructor
   ·exact fun hx=>⟨(Np x hx).1,ig hx⟩
   ·rintro ⟨hx,hn⟩
    refine Classical.byContradiction fun q=>?_
    rw [out q] at hn
    have:=h.lt x hx
    omega
  ·rw [mS,h.mm i l hk x]
   constructor
   ·rintro ⟨⟨h1,h2⟩,h3⟩
    exact ⟨h1,by rw [out h3];exact h2⟩
   ·rintro ⟨h1,h2⟩
    by_cases q:x∈l1
    ·rw [ig q] at h2;omega
    ·rw [out q] at h2;exact ⟨⟨h1,h2⟩,q⟩
  ·rw [h.mm i m e x]
   constructor
   ·rintro ⟨h1,h2⟩
    have:x ∉ l1:=fun q=>t_ (by rw [<- h2];exact (Np x q).2)
    exact ⟨h1,by rw [out this];exact h2⟩
   ·rintro ⟨h1,h2⟩
    by_cases q:x∈l1
    ·rw [ig q] at h2;omega
    ·rw [out q] at h2;exact ⟨h1,h2⟩
 ·rw [Qk,List.length_set,List.length_singleton]
  by_cases q:x∈l1
  ·rw [ig q];omega
  ·rw [out q];have:=h.lt x hx;omega
end
section
variable [DecidableEq κ]
def jo (L:List (κ×List Str)) (k:κ) (x:Str):List (κ×List Str):=if k∈L.map (·.1) then L.map fun q=>if q.1=k then (q.1,q.2++[x]) else q else L++[(k,[x])]
def d_ (ps:List (κ×Str)):List (κ×List Str):=ps.foldl (fun L q=>jo L q.1 q.2) []
theorem gK (ps:List (κ×Str)) (q:κ×Str):d_ (ps++[q])=jo (d_ ps) q.1 q.2:=by unfold d_;rw [List.foldl_append];rfl
theorem mW (L:List (κ×List Str)) (k:κ) (x:Str):(jo L k x).map (·.1)=if k∈L.map (·.1) then L.map (·.1) else L.map (·.1)++[k]:=by
 unfold jo
 split
 ·rw [Qn]
  refine List.map_congr_left fun q _=>?_
  show (if q.1=k then (q.1,q.2++[x]) else q).1=q.1
  split<;>rfl
 ·rw [Qm];rfl
structure qd (ps:List (κ×Str)) (L:List (κ×List Str)):Prop where
 nd:(L.map (·.1)).Nodup
 ev:∀ q∈L,q.2=(ps.filter fun p=>decide (p.1=q.1)).map (·.2)
 ks:∀ k,k∈L.map (·.1)↔k∈ps.map (·.1)
theorem qd.snoc {ps:List (κ×Str)} {L:List (κ×List Str)} (h:qd ps L) (k:κ) (x:Str):qd (ps++[(k,x)]) (jo L k x):=by
 have kk:∀ k',k'∈(jo L k x).map (·.1)↔k'∈L.map (·.1)\/k'=k:=fun k'=>by
  rw [mW]
  split
  ·exact ⟨.inl,fun z=>z.elim id fun z=>by rw [z];assumption⟩
  ·rw [List.mem_append,List.mem_singleton]
 refine ⟨?_,fun q hq=>?_,fun k'=>?_⟩
 ·rw [mW]
  split
  ·exact h.nd
  ·rename_i hk
   exact List.nodup_append.mpr ⟨h.nd,by simp,fun a ha b hb e=>hk (by rw [List.mem_singleton] at hb;rw [<- hb,<- e];exact ha)⟩
 ·rw [List.filter_append,Qm]
  unfold jo at hq
  split at hq
  ·obtain ⟨q0,h1,rfl⟩:=List.mem_map.mp hq
   have:=h.ev q0 h1
   by_cases e:q0.1=k
   ·rw [if_pos e]
    dsimp only
    rw [<- this];simp [e]
   ·rw [if_neg e,<- this];simp [Ne.symm e]
  ·rename_i hk
   rcases List.mem_append.mp hq with h1 | h1
   ·have:q.1≠k:=fun z=>hk (by rw [<- z];exact List.mem_map_of_mem h1)
    rw [<- h.ev q h1];simp [Ne.symm this]
   ·rw [List.mem_singleton.mp h1]
    have:ps.filter (fun p=>decide (p.1=k))=[]:=List.filter_eq_nil_iff.mpr fun p hp=>by
     intro z
     exact hk ((h.ks k).mpr (List.mem_map.mpr ⟨p,hp,Qt z⟩))
    dsimp only
    rw [this];simp
 ·rw [kk,h.ks,Qm,List.mem_append];simp
theorem vp (ps:List (κ×Str)):qd ps (d_ ps):=by
 have:∀ (qs ps:List (κ×Str)) (L:List (κ×List Str)),qd ps L->qd (ps++qs) (qs.foldl (fun L q=>jo L q.1 q.2) L):=by
  intro qs
  induction qs with
  | nil=>intro ps L h;simpa using h
  | cons q qs ih=>intro ps L h;have:=ih _ _ (h.snoc q.1 q.2);rwa [QR] at this
 exact this ps [] [] ⟨List.nodup_nil,(fun _ h=>nomatch h),fun _=>by simp⟩
theorem qd.ne {ps:List (κ×Str)} {L:List (κ×List Str)} (h:qd ps L) {q:κ×List Str} (hq:q∈L):q.2≠[]:=by
 rw [h.ev q hq]
 obtain ⟨p,hp,e⟩:=List.mem_map.mp ((h.ks q.1).mp (List.mem_map_of_mem hq))
 intro z
 have:p.2∈(ps.filter fun p=>decide (p.1=q.1)).map (·.2):=List.mem_map_of_mem (List.mem_filter.mpr ⟨hp,by simpa using e⟩)
 rw [z] at this;cases this
theorem qd.len {ps:List (κ×Str)} {L:List (κ×List Str)} (h:qd ps L):L.length<=ps.length:=by
 have:=bU h.nd fun k hk=>(h.ks k).mp hk
 simpa using this
theorem qd.lens {ps:List (κ×Str)} {L:List (κ×List Str)} (h:qd ps L) {q:κ×List Str} (hq:q∈L):q.2.length<=ps.length:=by
 rw [h.ev q hq,Ql];exact List.length_filter_le _ _
structure eu {κ':Type} (f:κ->κ') (H0 H:Hp) (kvs:List (κ'×V)) (L:List (κ×List Str)):Prop where
 len:kvs.length=L.length
 at_:∀ i (h:i < kvs.length) (h':i < L.length),kvs[i].1=f L[i].1/\∃ l,kvs[i].2=.ref l/\H0 l=none/\H l=some (.lst (L[i].2.map V.str))
 inj:∀ i j (hi:i < kvs.length) (hj:j < kvs.length),kvs[i].2=kvs[j].2->i=j
variable {κ':Type} [DecidableEq κ'] {f:κ->κ'} {kvs:List (κ'×V)} {L:List (κ×List Str)}
theorem eu.nil:eu f H0 H ([]:List (κ'×V)) ([]:List (κ×List Str)):=⟨rfl,fun i h=>absurd h (by simp),fun i j h=>absurd h (by simp)⟩
theorem eu.keys (h:eu f H0 H kvs L):kvs.map (·.1)=L.map fun q=>f q.1:=by
 have hl:=h.len
 refine List.ext_getElem (by simp [hl]) fun i h1 h2=>?_
 rw [Ql] at h1 h2
 rw [Qr,Qr]
 exact (h.at_ i h1 h2).1
theorem eu.keep (h:eu f H0 H kvs L) (s:∀ l xs,H0 l=none->H l=some (.lst xs)->H' l=some (.lst xs)):eu f H0 H' kvs L:=⟨h.len,fun i a b=>by
 obtain ⟨h1,l,h2,h3,h4⟩:=h.at_ i a b
 exact ⟨h1,l,h2,h3,s _ _ h3 h4⟩,h.inj⟩
theorem eu.old (h:eu f H0 H kvs L) (fi:∀ a b,f a=f b->a=b) (nd:(L.map (·.1)).Nodup) {k:κ} {v:V} (hv:av kvs (f k)=some v) (x:Str):∃ l xs,v=.ref l/\H0 l=none/\H l=some (.lst xs)/\(∃ q∈L,xs=q.2.map V.str)/\eu f H0 (upd H l (.lst (xs++[.str x]))) kvs (jo L k x):=by
 have hl:=h.len
 have kn:(kvs.map (·.1)).Nodup:=by
  rw [h.keys]
  have:(L.map fun q=>f q.1)=(L.map (·.1)).map f:=by rw [Qn];rfl
  rw [this]
  exact List.pairwise_map.mpr (nd.imp fun n e=>n (fi _ _ e))
 obtain ⟨p,hp,e⟩:=List.mem_map.mp (gW hv)
 obtain ⟨i,hi,ei⟩:=Qi hp
 have yh:i < L.length:=by omega
 obtain ⟨g1,l,g2,g3,g4⟩:=h.at_ i hi yh
 have ek:L[i].1=k:=fi _ _ (by rw [<- g1,ei,e])
 have ev:v=.ref l:=by
  have:=gR kn (k:=f k) (v:=p.2) (by rw [<- e];exact hp)
  rw [hv] at this
  rw [<- g2,ei];exact QE this
 refine ⟨l,_,ev,g3,g4,⟨_,Qj yh,rfl⟩,?_⟩
 have hk:k∈L.map (·.1):=by rw [<- ek];exact List.mem_map_of_mem (Qj yh)
 have ea:jo L k x=L.map fun q=>if q.1=k then (q.1,q.2++[x]) else q:=by unfold jo;rw [if_pos hk]
 rw [ea]
 refine ⟨by simp [hl],fun j a b=>?_,h.inj⟩
 rw [Ql] at b
 rw [Qr]
 obtain ⟨q1,l',q2,q3,q4⟩:=h.at_ j a b
 by_cases hj:j=i
 ·subst hj
  rw [if_pos ek]
  rw [g2] at q2;cases q2
  exact ⟨g1,l,g2,g3,by rw [aA];simp⟩
 ·have:L[j].1≠k:=fun z=>hj (by
   have h1:(L.map (·.1))[j]'(by simpa using b)=(L.map (·.1))[i]'(by simpa using yh):=by rw [Qr,Qr,z,ek]
   exact (List.getElem_inj nd).mp h1)
  rw [if_neg this]
  refine ⟨q1,l',q2,q3,?_⟩
  rw [aB fun z=>hj (h.inj j i a hi (by rw [q2,g2,z]))];exact q4
theorem eu.new (h:eu f H0 H kvs L) {k:κ} (hv:av kvs (f k)=none) (x:Str) {z:Addr} (WX:H0 z=none) (WY:H z=none) (hz:H' z=some (.lst [.str x])) (s:∀ l xs,H0 l=none->H l=some (.lst xs)->H' l=some (.lst xs)):eu f H0 H' (kvs++[(f k,.ref z)]) (jo L k x):=by
 have hl:=h.len
 have hk:k ∉ L.map (·.1):=fun hk=>by
  have:f k∈kvs.map (·.1):=by
   rw [h.keys]
   obtain ⟨q,h1,h2⟩:=List.mem_map.mp hk
   exact List.mem_map.mpr ⟨q,h1,by rw [h2]⟩
  have:=fM.mpr this
  rw [hv] at this;cases this
 have ea:jo L k x=L++[(k,[x])]:=by unfold jo;rw [if_neg hk]
 rw [ea]
 have ne:∀ i (hi:i < kvs.length),kvs[i].2≠.ref z:=fun i hi e=>by
  obtain ⟨_,l,g2,_,g4⟩:=h.at_ i hi (by omega)
  rw [e] at g2;cases g2;rw [WY] at g4;cases g4
 refine ⟨by simp [hl],fun i h1 h2=>?_,fun i j hi hj he=>?_⟩
 ·by_cases au:i < kvs.length
  ·rw [Qe au,Qe (by omega)]
   exact (h.keep s).at_ i au (by omega)
  ·have e':i=kvs.length:=by simp at h1;omega
   subst e'
   rw [Qf (Qz _),Qf (by omega)]
   simp only [Nat.sub_self,hl,List.getElem_cons_zero]
   exact ⟨trivial,z,rfl,WX,hz⟩
 ·simp only [Qk,List.length_cons,List.length_nil] at hi hj
  by_cases au:i < kvs.length<;>by_cases vo:j < kvs.length
  ·rw [Qe au,Qe vo] at he
   exact h.inj i j au vo he
  ·have ej:j=kvs.length:=by omega
   subst ej
   rw [Qe au,Qf (Qz _)] at he
   simp only [Nat.sub_self,List.getElem_cons_zero] at he
   exact absurd he (ne i au)
  ·have ei:i=kvs.length:=by omega
   subst ei
   rw [Qe vo,Qf (Qz _)] at he
   simp only [Nat.sub_self,List.getElem_cons_zero] at he
   exact absurd he.symm (ne j vo)
  ·omega
end
structure r_ (R rs:List Str) (num cf:Str->Nat) (ks:List Nat):Prop where
 un:∀ x∈R,num x ∉ ks->cf x=num x
 eq:∀ a∈R,∀ b∈R,cf a=cf b->num a=num b/\(num a∈ks->(a∈rs↔b∈rs))
section
variable {R rs many:List Str} {cf:Str->Nat} {ks:List Nat} {k new:Nat}
theorem r_.nil:r_ R rs num num []:=⟨fun _ _ _=>rfl,fun _ _ _ _ e=>⟨e,fun h=>nomatch h⟩⟩
theorem r_.at_ (h:r_ R rs num cf ks) (hk:k ∉ ks) {y:Str} (hy:y∈R) (ey:num y=k) (hx:x∈R):cf x=k↔num x=k:=by
 have e1:cf y=k:=by rw [h.un y hy (by rw [ey];exact hk),ey]
 constructor
 ·intro e
  rw [<- ey];exact (h.eq x hx y hy (by rw [e,e1])).1
 ·intro e
  rw [h.un x hx (by rw [e];exact hk),e]
theorem r_.keep (h:r_ R rs num cf ks) (hk:k ∉ ks) (all:∀ x∈R,num x=k->x∈rs):r_ R rs num cf (ks++[k]):=by
 refine ⟨fun x hx n=>h.un x hx fun z=>n (List.mem_append.mpr (.inl z)),fun a ha b hb e=>?_⟩
 obtain ⟨h1,h2⟩:=h.eq a ha b hb e
 refine ⟨h1,fun z=>?_⟩
 rcases List.mem_append.mp z with z | z
 ·exact h2 z
 ·rw [List.mem_singleton] at z
  exact ⟨fun _=>all b hb (by rw [<- h1,z]),fun _=>all a ha z⟩
theorem r_.split (h:r_ R rs num cf ks) (hk:k ∉ ks) (hm:∀ x,x∈many↔x∈rs/\num x=k) (fr:∀ x∈R,cf x≠new):r_ R rs num (rq cf many new) (ks++[k]):=by
 have ig:∀ {x},x∈many->rq cf many new x=new:=fun {x} hx=>if_pos hx
 have out:∀ {x},x ∉ many->rq cf many new x=cf x:=fun {x} hx=>if_neg hx
 refine ⟨fun x hx n=>?_,fun a ha b hb e=>?_⟩
 ·have nk:num x≠k:=fun z=>n (by rw [z];simp)
  rw [out fun z=>nk ((hm x).mp z).2]
  exact h.un x hx fun z=>n (List.mem_append.mpr (.inl z))
 ·by_cases h1:a∈many
  ·rw [ig h1] at e
   by_cases h2:b∈many
   ·exact ⟨((hm a).mp h1).2.trans ((hm b).mp h2).2.symm,fun _=>⟨fun _=>((hm b).mp h2).1,fun _=>((hm a).mp h1).1⟩⟩
   ·rw [out h2] at e;exact absurd e.symm (fr b hb)
  ·rw [out h1] at e
   by_cases h2:b∈many
   ·rw [ig h2] at e;exact absurd e (fr a ha)
   ·rw [out h2] at e
    obtain ⟨g1,g2⟩:=h.eq a ha b hb e
    refine ⟨g1,fun z=>?_⟩
    rcases List.mem_append.mp z with z | z
    ·exact g2 z
    ·rw [List.mem_singleton] at z
     exact ⟨fun q=>absurd ((hm a).mpr ⟨q,z⟩) h1,fun q=>absurd ((hm b).mpr ⟨q,by rw [<- g1,z]⟩) h2⟩
theorem r_.fin (h:r_ R rs num cf ks) (all:∀ x∈rs,num x∈ks) {a b:Str} (ha:a∈R) (hb:b∈R) (e:cf a=cf b):a∈rs↔b∈rs:=by
 obtain ⟨h1,h2⟩:=h.eq a ha b hb e
 constructor
 ·exact fun z=>(h2 (all a z)).mp z
 ·exact fun z=>(h2 (by rw [h1];exact all b z)).mpr z
end
structure k_ (lm dn lw dw:Addr) (zh ms:List Addr) (H H':Hp):Prop where
 kp:∀ b o,b ∉ [lm,dn,lw,dw]++zh->H b=some o->H' b=some o
 nw:∀ b∈ms,b∈zh\/H b=none
 th:∀ b,H' b=none->H b=none
section
variable {lm dn lw dw:Addr} {zh ms Nq cj:List Addr} {H1 H2:Hp}
theorem k_.same (s:aa H H'):k_ lm dn lw dw ms ms H H':=⟨fun b o _ e=>s b o e,fun b h=>.inl h,fun b e=>s.free e⟩
theorem k_.trans (h:k_ lm dn lw dw zh Nq H H1) (h':k_ lm dn lw dw Nq cj H1 H2):k_ lm dn lw dw zh cj H H2:=by
 refine ⟨fun b o n e=>h'.kp b o (fun z=>?_) (h.kp b o n e),fun b hb=>?_,fun b e=>h.th b (h'.th b e)⟩
 ·rcases List.mem_append.mp z with z | z
  ·exact n (List.mem_append.mpr (.inl z))
  ·rcases h.nw b z with q | q
   ·exact n (List.mem_append.mpr (.inr q))
   ·rw [q] at e;cases e
 ·rcases h'.nw b hb with q | q
  ·exact h.nw b q
  ·exact .inr (h.th b q)
structure se (C:Addr) (H0 H:Hp) (p lm dn lw dw:Addr) (R:List Str) (num:Str->Nat) (wt:List Nat) (ms:List Addr) (mem:List (List Str)) (kn kw:List (Key×V)):Prop where
 s:iw C H0 H p lm dn lw dw ms mem kn wt kw
 n:Cw R num mem
 v:∀ x∈R,av kn (.inr x)=some (cy (num x))
 kl:kn.length<=900
 wl:∀ i∈wt,i < mem.length
variable {R:List Str} {wt:List Nat} {kn kw:List (Key×V)}
theorem se.same (h:se C H0 H p lm dn lw dw R num wt ms mem kn kw) (s:aa H H'):se C H0 H' p lm dn lw dw R num wt ms mem kn kw:=⟨h.s.same s,h.n,h.v,h.kl,h.wl⟩
theorem se.wb (h:se C H0 H p lm dn lw dw R num wt ms mem kn kw):wt.length<=mem.length:=by
 have:=bU h.s.wn (m:=List.range mem.length) fun i hi=>List.mem_range.mpr (h.wl i hi)
 simpa using this
theorem iw.off (h:iw C H0 H p lm dn lw dw ms mem kn wt kw) {o:HO} (hb:H b=some o) (h1:∀ kvs,o≠.dK kvs) (n1:b≠lm) (n2:b≠lw):b ∉ [lm,dn,lw,dw]++ms:=by
 intro z
 rcases List.mem_append.mp z with z | z
 ·simp only [Qp,QB,or_false] at z
  rcases z with z | z | z | z
  ·exact n1 z
  ·rw [z,h.n] at hb;exact h1 _ (QE hb).symm
  ·exact n2 z
  ·rw [z,h.ws] at hb;exact h1 _ (QE hb).symm
 ·obtain ⟨i,hi,rfl⟩:=Qi z
  obtain ⟨kvs,g1,_⟩:=h.d i hi (by rw [<- h.ml];exact hi)
  rw [g1] at hb;exact h1 _ (QE hb).symm
theorem k_.of (pt:iw C H0 H' p lm dn lw dw ms mem kn wt kw) {d:Addr} (JF:ms=zh++[d]) (hd:H d=none) (kp:∀ b o,b ∉ [lm,dn,lw,dw]++zh->H b=some o->H' b=some o):k_ lm dn lw dw zh ms H H':=by
 subst JF
 refine ⟨kp,fun b hb=>?_,fun b e=>?_⟩
 ·rcases List.mem_append.mp hb with z | z
  ·exact .inl z
  ·rw [List.mem_singleton.mp z];exact .inr hd
 ·cases eb:H b with
  | none=>rfl
  | some o=>
   exfalso
   by_cases n:b∈[lm,dn,lw,dw]++zh
   ·rcases List.mem_append.mp n with z | z
    ·simp only [Qp,QB,or_false] at z
     rcases z with z | z | z | z
     ·rw [z,pt.m] at e;cases e
     ·rw [z,pt.n] at e;cases e
     ·rw [z,pt.w] at e;cases e
     ·rw [z,pt.ws] at e;cases e
    ·obtain ⟨i,hi,rfl⟩:=Qi z
     have ip:i < (zh++[d]).length:=by simp;omega
     obtain ⟨kvs,g1,_⟩:=pt.d i ip (by rw [<- pt.ml];exact ip)
     rw [Qe hi] at g1
     rw [e] at g1;cases g1
   ·rw [kp b o n eb] at e;cases e
end
section
variable {lm dn lw dw d:Addr} {ms:List Addr} {rows:List ak} {R W rs many l:List Str} {Nr:Str->Nat} {wt cu ks:List Nat} {kn cz kw ja:List (Key×V)} {k:Nat} {WZ:List (List Str)} {s:List Str}
theorem se.split (z:se C H0 H p lm dn lw dw R num wt ms mem kn kw) (hj:mem[j]? =some l) (gj:∀ x∈many,x∈l) (nd:many.Nodup) (ne:many≠[]) (gr:many.length≠l.length) (pt:iw C H0 H' p lm dn lw dw (ms++[d]) (mem.set j (ky many l)++[many]) cz cu ja)
  (hv:∀ x,av cz (.inr x)=if x∈many then some (cy mem.length) else av kn (.inr x)) (GX:cz.length=kn.length) (w5:∀ i∈cu,i∈wt\/i=mem.length\/i=j):se C H0 H' p lm dn lw dw R (rq num many mem.length) cu (ms++[d]) (mem.set j (ky many l)++[many]) cz ja:=by
 refine ⟨pt,z.n.split hj gj nd ne gr,fun x hx=>?_,by rw [GX];exact z.kl,fun i hi=>?_⟩
 ·rw [hv x]
  by_cases h:x∈many
  ·rw [if_pos h,show rq num many mem.length x=mem.length from if_pos h]
  ·rw [if_neg h,show rq num many mem.length x=num x from if_neg h];exact z.v x hx
 ·rw [Qk,List.length_set,List.length_singleton]
  obtain ⟨Nt,_⟩:=List.getElem?_eq_some_iff.mp hj
  rcases w5 i hi with q | q | q
  ·have:=z.wl i q;omega
  ·omega
  ·omega
theorem uc.cl (h:uc rows R num wt W WZ) (tc:r_ R rs Nr num ks) (hm:∀ x,x∈many↔x∈rs/\Nr x=k) (JG:∀ x,x∈rs↔x∈R/\s∈stH (aq rows x)/\dl rows x s∈W) (rc:DO rows R):∀ a∈many,∀ b∈R,gw rows rows (a,b)->b∈many:=by
 intro a ha b hb nb
 obtain ⟨h1,h2⟩:=(hm a).mp ha
 obtain ⟨aR,JH,aW⟩:=(JG a).mp h1
 have e:=h.co a aR b hb nb
 have bs:s∈stH (aq rows b):=by rw [<- show stH (aq rows a)=stH (aq rows b) from (h.me a aR b hb e).2];exact JH
 refine (hm b).mpr ⟨(JG b).mpr ⟨hb,bs,?_⟩,by rw [<- (tc.eq a aR b hb e).1];exact h2⟩
 have kd:gw rows rows (dl rows a s,dl rows b s):=nb.kid (s:=s) JH
 have xa:=rc a aR s JH
 have xb:=rc b hb s bs
 exact (h.un _ xa _ xb (h.co _ xa _ xb kd)).mp aW
structure Cy (rows:List ak) (R:List Str):Prop where
 nd:R.Nodup
 few:R.length<=14
 on:∀ a∈R,∀ s e,(s,e)∈bq rows a↔s∈stH (aq rows a)/\dl rows a s=e
 W0:∀ a∈R,((bq rows a).map (·.1)).Nodup
 fo:∀ a∈R,(bq rows a).length<=100
 rc:DO rows R
def jp (rows:List ak) (R W:List Str):List (List Str×Str):=W.flatMap (ir rows R)
theorem iN:q∈ir rows R x↔q.2∈R/\(q.1,x)∈bq rows q.2:=by
 unfold ir xy
 rw [List.mem_flatMap]
 constructor
 ·rintro ⟨r,h1,h2⟩
  obtain ⟨m,h3,rfl⟩:=List.mem_map.mp h2
  obtain ⟨h4,h5⟩:=List.mem_filter.mp h3
  have:=Qt h5
  subst this
  exact ⟨h1,h4⟩
 ·rintro ⟨h1,h2⟩
  exact ⟨q.2,h1,List.mem_map.mpr ⟨(q.1,x),List.mem_filter.mpr ⟨h2,by simp⟩,rfl⟩⟩
theorem j7 (h:Cy rows R):q∈jp rows R W↔q.2∈R/\q.1∈stH (aq rows q.2)/\dl rows q.2 q.1∈W:=by
 unfold jp
 rw [List.mem_flatMap]
 constructor
 ·rintro ⟨x,hx,hq⟩
  obtain ⟨h1,h2⟩:=iN.mp hq
  obtain ⟨h3,h4⟩:=(h.on _ h1 _ _).mp h2
  exact ⟨h1,h3,by rw [h4];exact hx⟩
 ·rintro ⟨h1,h2,h3⟩
  exact ⟨_,h3,iN.mpr ⟨h1,(h.on _ h1 _ _).mpr ⟨h2,rfl⟩⟩⟩
theorem xU (h:Cy rows R) (hW:W.Nodup):(jp rows R W).Nodup:=by
 unfold jp
 refine List.pairwise_flatMap.mpr ⟨fun x _=>?_,hW.imp fun {x y} n p hp q hq e=>?_⟩
 ·unfold ir
  refine List.pairwise_flatMap.mpr ⟨fun r hr=>?_,h.nd.imp fun {a b} n p hp q hq e=>?_⟩
  ·unfold xy
   refine List.pairwise_map.mpr (List.Pairwise.filter _ ((List.pairwise_map.mp (h.W0 r hr)).imp fun {a b} n e=>n ?_))
   exact (Prod.mk.inj e).1
  ·unfold xy at hp hq
   obtain ⟨_,_,rfl⟩:=List.mem_map.mp hp
   obtain ⟨_,_,rfl⟩:=List.mem_map.mp hq
   exact n (Prod.mk.inj e).2
 ·subst e
  obtain ⟨h1,h2⟩:=iN.mp hp
  obtain ⟨_,h3⟩:=iN.mp hq
  exact n (((h.on _ h1 _ _).mp h2).2.symm.trans ((h.on _ h1 _ _).mp h3).2)
theorem mL (h:Cy rows R):∀ W:List Str,(jp rows R W).length<=W.length*1400
 | []=>by simp [jp]
 | x::W=>by
  have h1:=mL h W
  have h2:=lG rows x 100 R h.fo
  have h3:R.length*100<=14*100:=Nat.mul_le_mul_right _ h.few
  unfold jp at h1 ⊢
  rw [List.flatMap_cons,Qk,List.length_cons,Nat.succ_mul]
  omega
theorem Cy.led (h:Cy rows R) (hW:W.Nodup) {q:List Str×List Str} (hq:q∈d_ (jp rows R W)):q.2.Nodup/\q.2.length<=R.length/\∀ x,x∈q.2↔x∈R/\q.1∈stH (aq rows x)/\dl rows x q.1∈W:=by
 have ev:=(vp (jp rows R W)).ev q hq
 have mm:∀ x,x∈q.2↔x∈R/\q.1∈stH (aq rows x)/\dl rows x q.1∈W:=fun x=>by
  rw [ev,List.mem_map]
  constructor
  ·rintro ⟨p,hp,rfl⟩
   obtain ⟨h1,h2⟩:=List.mem_filter.mp hp
   have:=Qt h2
   rw [<- this]
   exact (j7 h).mp h1
  ·exact fun z=>⟨(q.1,x),List.mem_filter.mpr ⟨(j7 h).mpr z,by simp⟩,rfl⟩
 have nd:q.2.Nodup:=by
  rw [ev]
  refine List.pairwise_map.mpr ?_
  refine List.Pairwise.imp_of_mem (fun {a b} ha hb n e=>n ?_) ((xU h hW).filter _)
  have e1:=Qt (List.mem_filter.mp ha).2
  have e2:=Qt (List.mem_filter.mp hb).2
  exact Prod.ext (e1.trans e2.symm) e
 exact ⟨nd,bU nd fun x hx=>((mm x).mp hx).1,mm⟩
theorem W1 (nd:rs.Nodup) (g:Str->Nat) {q:Nat×List Str} (hq:q∈d_ (rs.map fun a=>(g a,a))):q.2.Nodup/\q.2.length<=rs.length/\∀ x,x∈q.2↔x∈rs/\g x=q.1:=by
 have ev:=(vp (rs.map fun a=>(g a,a))).ev q hq
 have e2:q.2=rs.filter fun a=>decide (g a=q.1):=by
  rw [ev,List.filter_map,Qn]
  exact (List.map_id' _)
 refine ⟨by rw [e2];exact nd.filter _,by rw [e2];exact List.length_filter_le _ _,fun x=>?_⟩
 rw [e2,List.mem_filter];simp
end
section
variable {Hs:Hp} {xs:List V} {rows:List ak} {R:List Str}
theorem RT.W2 (rt:RT H a xs rows ns ws) (hw:∀ z∈ws,Wd z) (nd:R.Nodup) (en:∀ e∈R,ji rows ns e) (DP:∀ e∈R,∀ m∈bq rows e,m.2∈R):Cy rows R:=by
 have g:=rt.ua hw
 have on:∀ a∈R,∀ s e,(s,e)∈bq rows a↔s∈stH (aq rows a)/\dl rows a s=e:=fun a ha s e=>by
  have he:=en a ha
  constructor
  ·intro h
   refine ⟨by rw [<- pO he.2];exact List.mem_map.mpr ⟨_,h,rfl⟩,?_⟩
   unfold dl
   rw [u9 (g.Cm he) h];rfl
  ·rintro ⟨h1,rfl⟩
   rw [<- pO he.2] at h1
   obtain ⟨m,hm,rfl⟩:=List.mem_map.mp h1
   unfold dl
   rw [u9 (g.Cm he) hm];exact hm
 refine ⟨nd,Nat.le_trans (bU nd fun x hx=>(en x hx).1) rt.few,on,fun a ha=>g.Cm (en a ha),fun a ha=>Nat.le_trans (rt.E6 hw (en a ha).1) (by decide),fun a ha s hs=>?_⟩
 exact DP a ha (s,dl rows a s) ((on a ha _ _).mpr ⟨hs,rfl⟩)
theorem g_.Nu {kvs:List (Key×V)} {lm lw:Addr} {ul uw:List V} (h:g_ Hs H kvs R f) (h1:H lm=some (.lst ul)) (h2:H lw=some (.lst uw)) (n1:Hs lm≠none) (n2:Hs lw≠none) (k:∀ b o,H b=some o->(∀ kv,o≠.dK kv)->b≠lm->b≠lw->H' b=some o):g_ Hs H' kvs R f:=by
 refine ⟨h.len,fun i a b=>?_,h.inj⟩
 obtain ⟨g1,l,us,g2,g3,g4,g5⟩:=h.at_ i a b
 have tp:∀ c ys,H c=some (.tup ys)->H' c=some (.tup ys):=fun c ys e=>k c _ e (fun _ z=>nomatch z) (fun z=>by rw [z,h1] at e;cases e) (fun z=>by rw [z,h2] at e;cases e)
 refine ⟨g1,l,us,g2,g3,k l _ g4 (fun _ z=>nomatch z) (fun z=>n1 (by rw [<- z];exact g3)) (fun z=>n2 (by rw [<- z];exact g3)),g5.keep tp fun c ys e=>?_⟩
 rcases e with e | ⟨u,e⟩
 ·exact .inl (tp _ _ e)
 ·exact .inr ⟨u,k c _ e (fun _ z=>nomatch z) (fun z=>by rw [z,h1] at e;cases e) (fun z=>by rw [z,h2] at e;cases e)⟩
noncomputable def zj (rows:List ak) (L:List (Tv×List Str)) (x:Str):Nat:=(L.map (·.1)).idxOf (dz (aq rows x))
variable {L:List (Tv×List Str)}
theorem W3 (nd:R.Nodup) {q:Tv×List Str} (hq:q∈d_ (R.map fun a=>(dz (aq rows a),a))):q.2.Nodup/\q.2.length<=R.length/\∀ x,x∈q.2↔x∈R/\dz (aq rows x)=q.1:=by
 have ev:=(vp (R.map fun a=>(dz (aq rows a),a))).ev q hq
 have e2:q.2=R.filter fun a=>decide (dz (aq rows a)=q.1):=by
  rw [ev,List.filter_map,Qn]
  exact (List.map_id' _)
 refine ⟨by rw [e2];exact nd.filter _,by rw [e2];exact List.length_filter_le _ _,fun x=>?_⟩
 rw [e2,List.mem_filter];simp
theorem kW (gi:qd (R.map fun a=>(dz (aq rows a),a)) L) (hi:i < L.length) (e:dz (aq rows x)=L[i].1):zj rows L x=i:=by
 unfold zj
 rw [e]
 have:=gi.nd.idxOf_getElem i (by simpa using hi)
 rw [Qr] at this
 exact this
theorem gU (gi:qd (R.map fun a=>(dz (aq rows a),a)) L) (hx:x∈R):∃ (h:zj rows L x < L.length),dz (aq rows x)=(L[zj rows L x]).1:=by
 have:dz (aq rows x)∈L.map (·.1):=(gi.ks _).mpr (List.mem_map.mpr ⟨_,List.mem_map.mpr ⟨x,hx,rfl⟩,rfl⟩)
 obtain ⟨q,hq,e⟩:=List.mem_map.mp this
 obtain ⟨i,hi,rfl⟩:=Qi hq
 have ei:=kW gi hi e.symm
 have h:zj rows L x < L.length:=by rw [ei];exact hi
 refine ⟨h,?_⟩
 simp only [ei];exact e.symm
theorem uY (nd:R.Nodup) (gi:qd (R.map fun a=>(dz (aq rows a),a)) L) (hq:∀ q∈L,q.2.Nodup/\q.2.length<=R.length/\∀ x,x∈q.2↔x∈R/\dz (aq rows x)=q.1):Cw R (zj rows L) (L.map (·.2)):=by
 have get:∀ i l,(L.map (·.2))[i]? =some l->∃ h:i < L.length,L[i].2=l:=fun i l e=>by
  rw [Qq] at e
  cases h:L[i]? with
  | none=>rw [h] at e;cases e
  | some q=>
   obtain ⟨hi,eq⟩:=List.getElem?_eq_some_iff.mp h
   rw [h] at e
   exact ⟨hi,by rw [eq];exact QE e⟩
 refine ⟨fun i l e=>?_,fun i l e x=>?_,fun x hx=>?_⟩
 ·obtain ⟨hi,rfl⟩:=get i l e
  exact ⟨(hq _ (Qj hi)).1,gi.ne (Qj hi)⟩
 ·obtain ⟨hi,rfl⟩:=get i l e
  rw [(hq _ (Qj hi)).2.2 x]
  constructor
  ·exact fun ⟨h1,h2⟩=>⟨h1,kW gi hi h2⟩
  ·rintro ⟨h1,rfl⟩
   exact ⟨h1,(gU gi h1).2⟩
 ·rw [Ql];exact (gU gi hx).1
theorem wE (gi:qd (R.map fun a=>(dz (aq rows a),a)) L) (rc:DO rows R):Av rows R (zj rows L) (List.range L.length):=by
 refine ⟨fun a ha b hb nb=>?_,fun a ha b hb e=>?_,fun a ha b hb e s hs=>.inr (.inl (List.mem_range.mpr (gU gi (rc a ha s hs)).1))⟩
 ·have:dz (aq rows a)=dz (aq rows b):=M_.mpr nb.me
  unfold zj;rw [this]
 ·obtain ⟨h1,e1⟩:=gU gi ha
  obtain ⟨h2,e2⟩:=gU gi hb
  refine M_.mp ?_
  rw [e1,e2]
  simp only [e]
end
section
variable {o:Expr} {p ipos:Pos}
def W4 (te:TE):TE:=fun σ H Q=>te σ H fun x H1=>∃ a kvs,x=.ref a/\Rd H1 a (.dK kvs)/\∀ l,H1 l=none->Q (.ref l) (upd H1 l (.lst (kvs.map (·.2))))
theorem vB (hc:X.calm=true) (hg:Gl X "list") (hm:X.mg "list"=none) (ho:SE X o to) (jt:attributeBase o "values" X.env (eval o X.env)=eval o X.env:=by rfl) (ju:(apos.endLine==ipos.line)=true:=by rfl)
  (Nv:starEach [Expr.Call (.Attribute o "values" apos) [] [] ipos] X.env=[(false,eval (.Call (.Attribute o "values" apos) [] [] ipos) X.env)]:=by rfl):
  SE X (.Call (.Name "list" p) [.Call (.Attribute o "values" apos) [] [] ipos] [] cpos) (W4 to):=by
 constructor
 intro pins s σ H Q I h
 refine Call_ (jG I hg hm boot_list (PyProof.Rows.callWith_type1 ?_ Nv rfl))
 rw [Nv]
 refine Calls.spliced_cons (wpAny_Call_method0_late jt ju (ao (ho.h pins s σ H _ I h) ?_))
 rintro v s1 ⟨x,H1,I1,r1,a,kvs,ex,hr,q⟩
 subst ex
 cases r1
 obtain ⟨z,ur,vs,rel,dd⟩:=iT I1.hok hr
 obtain ⟨ob,es,ep,e,h2,IM,h4⟩:=id dd
 have c_:=rel.length
 have hT:s1.TypeIs (.ref a) "dict":=⟨ob,e,h2.1⟩
 refine ⟨"dict","dict.values",PySem.F.plainAttrs_dict,PySem.F.slot_dict_values,PySem.F.type_dict_values,hT,fun b hb=>by cases hb;exact ⟨ob,e,h2.2.1⟩,Calls.callWith_builtin rfl (PySem.evalArgs_none ?_)⟩
 refine call_meetsIn PySem.F.slot_dict_values hT PySem.F.entry_dict_values (PySem.F.args_dict_values_1 _) (fB a ur) ⟨hT,?_⟩
 refine Calls.spliced_nil ?_
 have I3:Inv X pins σ H1 {s1 with heap:=s1.heap.push {cls:=.type "dict_values",data:=.fields #[.ref a]}}:=I1.kept (t':=s1.toks) fun b o e=>Qc _ e
 obtain ⟨lh,hat⟩:=dd.dictAt
 refine PySem.W.kdl_call (PySem.W.kdl_values (knd:=cg X.prog X.w) (kvs:=vs) (ep:=lh) (r:=s1.heap.objs.size) (d:=a)) (I.ok.hd hc) ⟨⟨_,Qd _ rfl,rfl,rfl⟩,hat.push _⟩ (by omega) fun h' tk acc' c' hk hS Jo=>?_
 have rv:az (kvs.map (·.2)) acc'.toList:=by
  obtain ⟨n1,n2⟩:=Jo
  have Jp:(kvs.map (·.2)).length=acc'.toList.length:=by
   have:=Array.length_toList (xs:=acc')
   rw [Ql];omega
  refine i9 Jp fun i h1 h2=>?_
  obtain ⟨k,hx⟩:=n2 i acc'.toList[i] (by rw [<- Array.getElem?_toList,Qa h2])
  rw [Ql] at h1
  obtain ⟨q,lq,_,he⟩:=kQ rel (i:=i) (p:=kvs[i]) (Qa h1)
  rw [hx] at lq
  cases lq
  rw [Qr]
  exact he
 exact ⟨.ref _,_,I3.laid (t':=tk) hk (Qz _) (show bg X.prog X.w _ h' _ (.lst _) from ⟨by rw [Ql];exact z,acc'.toList,c',rv,by simpa using hS⟩),rfl,q _ (I3.hok.fresh (Qz _))⟩
end
structure GY (H:Hp) (us:List V) (zs:List (List Str)):Prop where
 len:us.length=zs.length
 at_:∀ i (h:i < us.length) (h':i < zs.length),∃ l,us[i]=.ref l/\H l=some (.lst (zs[i].map V.str))
theorem W5 (I:Inv X pins σ H s) {xs:List Str} (h1:H a=some (.lst (xs.map V.str))) (h2:H b=some (.lst (xs.map V.str))) (hu:A.units+2 < cLine):SeqAt.EqAt A s (.ref a) (.ref b) true:=by
 by_cases jk:a=b
 ·subst jk
  exact SeqAt.EqAt.same _
 ·obtain ⟨i1,r1,p1,_⟩:=I.list (af.of h1)
  obtain ⟨i2,r2,p2,_⟩:=I.list (af.of h2)
  have l1:=r1.length
  have l2:=r2.length
  rw [Ql] at l1 l2
  have:=SeqAt.RcAt.lists (A:=A) (e:=fun j=>true) p1.isList p2.isList (by simp;omega) (by omega) fun j g1 g2=>by
   have k1:j < xs.length:=by simp at g1;omega
   obtain ⟨w1,e1,q1⟩:=r1.get (i:=j) (x:=.str xs[j]) (by simp [k1])
   obtain ⟨w2,e2,q2⟩:=r2.get (i:=j) (x:=.str xs[j]) (by simp [k1])
   have m1:i1.toArray[j]=w1:=by rw [Qa (by simpa using g1)] at e1;simpa using e1
   have m2:i2.toArray[j]=w2:=by rw [Qa (by simpa using g2)] at e2;simpa using e2
   rw [m1,m2]
   obtain ⟨t,rfl⟩:=q1
   obtain ⟨t',rfl⟩:=q2
   have:=SeqAt.EqAt.str_str (A:=A.in1) (s:=s) xs[j] t xs[j] t'
   rwa [beq_self_eq_true] at this
  rw [show ((List.range i1.toArray.size).all fun _=>true)=true by simp] at this
  exact SeqAt.EqAt.of_refs jk this
def W6:R2:=fun x y H Q=>∃ a b us vs zs,x=.ref a/\y=.ref b/\H a=some (.lst us)/\H b=some (.lst vs)/\GY H us zs/\GY H vs zs/\Q (.bl false) H
theorem W7 (hu:X.A.units+20 < cLine):ck X (compareOp .NotEq) W6:=by
 intro pins s σ H x y v u Q I rx ry h
 obtain ⟨a,b,us,vs,ss,rfl,rfl,ha,hb,s1,s2,q⟩:=h
 cases rx
 cases ry
 obtain ⟨i1,r1,p1,_⟩:=I.list (af.of ha)
 obtain ⟨i2,r2,p2,_⟩:=I.list (af.of hb)
 have l1:=r1.length
 have l2:=r2.length
 have h1:=s1.len
 have h2:=s2.len
 have:=SeqAt.RcNeAt.lists (A:=X.A) (e:=fun _=>true) p1.isList p2.isList (by simp;omega) (by omega) (fun j g1 g2=>by
   have k1:j < us.length:=by simp at g1;omega
   have k2:j < vs.length:=by simp at g2;omega
   obtain ⟨c,e1,m1⟩:=s1.at_ j k1 (by omega)
   obtain ⟨c',e2,m2⟩:=s2.at_ j k2 (by omega)
   obtain ⟨w1,f1,q1⟩:=r1.get (Qa k1)
   obtain ⟨w2,f2,q2⟩:=r2.get (Qa k2)
   have n1:i1.toArray[j]=w1:=by rw [Qa (by simpa using g1)] at f1;simpa using f1
   have n2:i2.toArray[j]=w2:=by rw [Qa (by simpa using g2)] at f2;simpa using f2
   rw [n1,n2]
   rw [e1] at q1
   rw [e2] at q2
   cases q1
   cases q2
   exact W5 I m1 m2 (A:=X.A.in1) (by rw [Around.in1_units];omega))
 refine this _ _ _ _ ?_
 refine ⟨.bl false,H,I,?_,q⟩
 simp [RelV]
noncomputable instance aaY:DecidableEq (Str->Prop):=Classical.typeDecidableEq _
def kc (rows:List ak) (x:Str):Str->Prop:=fun y=>gw rows rows (endOf rows x,endOf rows y)
theorem oK {rows:List ak} {y:Str}:kc rows x=kc rows y↔gw rows rows (endOf rows x,endOf rows y):=by
 constructor
 ·intro h
  have:kc rows x y:=by rw [h];exact gw.refl
  exact this
 ·intro h
  funext z
  exact propext ⟨fun k=>h.symm.trans k,fun k=>h.trans k⟩
section
variable {κ':Type} [DecidableEq κ] [DecidableEq κ']
theorem W8 (f:Str->κ) (g:Str->κ') (names:List Str) (h:∀ x∈names,∀ y∈names,f x=f y↔g x=g y):(d_ (names.map fun x=>(f x,x))).map (·.2)=(d_ (names.map fun x=>(g x,x))).map (·.2):=by
 have key:∀ (qs:List Str),(∀ x∈qs,x∈names)->∀ (reps:List (Str×List Str)),(∀ r∈reps,r.1∈names)->∃ Bh:List (Str×List Str),(qs.map fun x=>(f x,x)).foldl (fun L q=>jo L q.1 q.2) (reps.map fun r=>(f r.1,r.2))=Bh.map (fun r=>(f r.1,r.2))/\(qs.map fun x=>(g x,x)).foldl (fun L q=>jo L q.1 q.2) (reps.map fun r=>(g r.1,r.2))=Bh.map fun r=>(g r.1,r.2):=by
  intro qs
  induction qs with
  | nil=>intro _ reps _;exact ⟨reps,rfl,rfl⟩
  | cons x qs ih=>
   intro hq reps hr
   have hx:=hq x List.mem_cons_self
   have st:∃ Bh:List (Str×List Str),(∀ r∈Bh,r.1∈names)/\jo (reps.map fun r=>(f r.1,r.2)) (f x) x=Bh.map (fun r=>(f r.1,r.2))/\jo (reps.map fun r=>(g r.1,r.2)) (g x) x=Bh.map fun r=>(g r.1,r.2):=by
    have mf:f x∈(reps.map fun r=>(f r.1,r.2)).map (·.1)↔∃ r∈reps,f r.1=f x:=by simp [List.mem_map]
    have mg:g x∈(reps.map fun r=>(g r.1,r.2)).map (·.1)↔∃ r∈reps,f r.1=f x:=by
     simp only [Qn,List.mem_map,Function.comp]
     constructor
     ·rintro ⟨r,h1,h2⟩;exact ⟨r,h1,(h _ (hr r h1) _ hx).mpr h2⟩
     ·rintro ⟨r,h1,h2⟩;exact ⟨r,h1,(h _ (hr r h1) _ hx).mp h2⟩
    by_cases c:∃ r∈reps,f r.1=f x
    ·refine ⟨reps.map fun r=>if f r.1=f x then (r.1,r.2++[x]) else r,fun r fb=>?_,?_,?_⟩
     ·obtain ⟨r0,h1,rfl⟩:=List.mem_map.mp fb
      have:=hr r0 h1
      split<;>exact this
     ·unfold jo
      rw [if_pos (mf.mpr c),Qn,Qn]
      refine List.map_congr_left fun r fb=>?_
      show (if f r.1=f x then (f r.1,r.2++[x]) else (f r.1,r.2))=_
      show _=(f (if f r.1=f x then (r.1,r.2++[x]) else r).1,(if f r.1=f x then (r.1,r.2++[x]) else r).2)
      by_cases e:f r.1=f x
      ·simp only [if_pos e]
      ·simp only [if_neg e]
     ·unfold jo
      rw [if_pos (mg.mpr c),Qn,Qn]
      refine List.map_congr_left fun r fb=>?_
      show (if g r.1=g x then (g r.1,r.2++[x]) else (g r.1,r.2))=(g (if f r.1=f x then (r.1,r.2++[x]) else r).1,(if f r.1=f x then (r.1,r.2++[x]) else r).2)
      by_cases e:f r.1=f x
      ·simp only [if_pos e,if_pos ((h _ (hr r fb) _ hx).mp e)]
      ·simp only [if_neg e,if_neg fun z=>e ((h _ (hr r fb) _ hx).mpr z)]
    ·refine ⟨reps++[(x,[x])],fun r fb=>?_,?_,?_⟩
     ·rcases List.mem_append.mp fb with h1 | h1
      ·exact hr r h1
      ·rw [List.mem_singleton.mp h1];exact hx
     ·unfold jo
      rw [if_neg fun z=>c (mf.mp z),Qm];rfl
     ·unfold jo
      rw [if_neg fun z=>c (mg.mp z),Qm];rfl
   obtain ⟨Bh,h1,h2,h3⟩:=st
   simp only [List.map_cons,List.foldl_cons]
   rw [h2,h3]
   exact ih (fun y hy=>hq y (Qh _ hy)) Bh h1
 obtain ⟨reps,h1,h2⟩:=key names (fun _ h=>h) [] (fun _ h=>nomatch h)
 have e1:d_ (names.map fun x=>(f x,x))=reps.map fun r=>(f r.1,r.2):=h1
 have e2:d_ (names.map fun x=>(g x,x))=reps.map fun r=>(g r.1,r.2):=h2
 rw [e1,e2,Qn,Qn]
 rfl
theorem eu.lls {f:κ->κ'} {kvs:List (κ'×V)} {L:List (κ×List Str)} (h:eu f H0 H kvs L):GY H (kvs.map (·.2)) (L.map (·.2)):=⟨by simp [h.len],fun i h1 h2=>by
 rw [Ql] at h1 h2
 obtain ⟨_,l,g1,_,g2⟩:=h.at_ i h1 h2
 exact ⟨l,by rw [Qr];exact g1,by rw [Qr];exact g2⟩⟩
theorem uE {kvs:List (κ×V)} {k:κ} (h:av kvs k=none):kvs.filter (fun q=>decide (q.1=k))=[]:=List.filter_eq_nil_iff.mpr fun q hq e=>by
 have:=fM.mpr (List.mem_map.mpr ⟨q,hq,Qt e⟩)
 rw [h] at this;cases this
theorem uU {kvs:List (κ×V)} {k:κ} {v:V} (h:av kvs k=some v):∃ r,(kvs.filter (fun q=>decide (q.1=k))).map (·.2)=v::r:=by
 unfold av at h
 induction kvs with
 | nil=>cases h
 | cons q kvs ih=>
  by_cases e:q.1=k
  ·rw [List.find?_cons_of_pos (by simpa using e)] at h
   rw [List.filter_cons_of_pos (by simpa using e)]
   exact ⟨_,by rw [List.map_cons];congr 1;exact QE h⟩
  ·rw [List.find?_cons_of_neg (by simpa using e)] at h
   rw [List.filter_cons_of_neg (by simpa using e)]
   exact ih h
end
end L2
namespace L2
open PySem PySem.Spec PyProof.Rows PySem.W
theorem nI:∀ (JI n r:Nat),r<=1->minRun' JI n r<=n+r
 | 0,n,r,h=>by
  have:minRun' 0 n r=n+r:=rfl
  omega
 | JI+1,n,r,h=>by
  rw [minRun'_succ]
  split
  ·exact Qz _
  ·rename_i hn
   have:=nI JI (n / 2) (max r (n % 2)) (by omega)
   omega
theorem W9 {κ:SortKind} {it:Array Keyed} {Q:Unit->SortSt->Shared->Prop} (h2:2<=n) (hc:∀ k,1<=k->k < n->∀ C:Bool->Shared->Prop,C false s->kas_cmp prog w A κ it k (k - 1) C s)
  (hQ:∀ st':SortSt,arrOf st'=Array.map (kas_item it) (List.range n).toArray->failedOf st'=none->Q () st' s):kasC (model prog w) A E sortRuns' Q (kas_st κ it (List.range n).toArray) s:=by
 obtain ⟨r,rfl⟩:∃ r,n=r+2:=⟨n - 2,by omega⟩
 have hsz:(arrOf (kas_st κ it (List.range (r+2)).toArray)).size=r+2:=by
  show (Array.map (kas_item it) (List.range (r+2)).toArray).size=r+2
  simp
 have W_:minRun' (r+2) (r+2) 0<=r+2:=by have:=nI (r+2) (r+2) 0 (by omega);omega
 rw [sortRuns'_eq]
 unfold kasC
 rw [StateT.run_bind]
 refine QU (wpAny_of_eq (a:=(kas_st κ it (List.range (r+2)).toArray,kas_st κ it (List.range (r+2)).toArray)) rfl ?_)
 dsimp only
 rw [hsz]
 generalize minRun' (r+2) (r+2) 0=mr at W_
 rw [StateT.run_bind]
 refine QU ?_
 rw [Std.Legacy.Range.forIn_eq_forIn_range']
 have Nx:List.range' ({stop:=r+2,step_pos:=Nat.zero_lt_one}:Std.Legacy.Range).start ({stop:=r+2,step_pos:=Nat.zero_lt_one}:Std.Legacy.Range).size ({stop:=r+2,step_pos:=Nat.zero_lt_one}:Std.Legacy.Range).step=0::1::List.range' 2 r:=by
  simp [Std.Legacy.Range.size,List.range'_succ]
 rw [Nx,List.forIn_cons]
 dsimp only
 rw [if_neg (by omega:¬(0≥r+2)),bind_assoc,StateT.run_bind]
 have JG:(List.range (r+2)).toArray.size=r+2:=by simp
 have W':wpAny (model prog w) A ((countRun' 0 (r+2)).run (kas_st κ it (List.range (r+2)).toArray)) (fun a s'=>a=(some (r+2),kas_st κ it (List.range (r+2)).toArray)/\s'=s) E s:=by
  refine kas_count_ (p:=(List.range (r+2)).toArray) (nrem:=r+2) (G:=fun m s'=>m=(r+2,(List.range (r+2)).toArray)/\s'=s) (Q:=fun o st' s'=>(o,st')=(some (r+2),kas_st κ it (List.range (r+2)).toArray)/\s'=s) (by omega) (by omega) ?_ ?_
  ·rintro m p' s' _ _ _ ⟨h,rfl⟩
   cases h
   exact ⟨rfl,rfl⟩
  ·unfold kas_count
   rw [KasT.kasWp_bind]
   refine xZ hc ?_ (r+2 - 1) 1 (Qz _) (by omega)
   rw [if_pos (by simp)]
   exact ⟨rfl,rfl⟩
 refine QU (wpAny_mono W' (fun a s' h=>?_) (fun _ _ e=>e))
 obtain ⟨rfl,rfl⟩:=h
 dsimp only
 rw [if_neg (by omega:¬(r+2 < mr)),bind_assoc,StateT.run_bind]
 refine QU (wpAny_of_eq (a:=(kas_st κ it (List.range (r+2)).toArray,kas_st κ it (List.range (r+2)).toArray)) rfl ?_)
 dsimp only
 have Xa:(pendingOf (kas_st κ it (List.range (r+2)).toArray)).back?=none:=rfl
 simp only [Xa]
 rw [bind_assoc,StateT.run_bind]
 refine QU (wpAny_of_eq (a:=((),setPending (kas_st κ it (List.range (r+2)).toArray) #[(0,r+2,0)])) rfl ?_)
 rw [pure_bind]
 dsimp only
 rw [List.forIn_cons]
 dsimp only
 rw [if_pos (by omega:0+(r+2)≥r+2),pure_bind]
 dsimp only
 rw [StateT.run_pure]
 refine QV ?_
 dsimp only
 rw [StateT.run_bind]
 refine QU ?_
 rw [Std.Legacy.Range.forIn_eq_forIn_range',Nx,List.forIn_cons,bind_assoc,StateT.run_bind]
 refine QU (wpAny_of_eq (a:=(setPending (kas_st κ it (List.range (r+2)).toArray) #[(0,r+2,0)],setPending (kas_st κ it (List.range (r+2)).toArray) #[(0,r+2,0)])) rfl ?_)
 dsimp only
 rw [if_pos (show (pendingOf (setPending (kas_st κ it (List.range (r+2)).toArray) #[(0,r+2,0)])).size<=1 from Qz 1),pure_bind]
 dsimp only
 rw [StateT.run_pure]
 refine QV ?_
 dsimp only
 rw [StateT.run_pure]
 exact QV (hQ _ rfl rfl)
theorem mI {vs:List Value} {κ:SortKind} {P:PySem.Fin->Shared->Prop} (ho:s.heap.get? a=some (seqObj "list" vs.toArray n)) (JJ:vs.length<=100000)
  (Ct:2<=vs.length->∀ h':Heap,(∀ b o,b≠a->s.heap.get? b=some o->h'.get? b=some o)->∀ Q:SortKind->Shared->Prop,Q κ {s with heap:=h'}->wpAny (model prog w) A (keyKind' vs.toArray) Q (fun _ _=>False) {s with heap:=h'})
  (JK:∀ h':Heap,(∀ b o,b≠a->s.heap.get? b=some o->h'.get? b=some o)->∀ k,1<=k->k < vs.length->∀ C:Bool->Shared->Prop,C false {s with heap:=h'}->wpAny (model prog w) A (keyLt' κ (vs.getD k Value.none) (vs.getD (k - 1) Value.none)) C (fun _ _=>False) {s with heap:=h'})
  (h:P (.done (.ret .none)) {s with heap:=sortedHeap s.heap a vs vs.toArray}):
  wpAny (model prog w) A (Builtin.«list.sort» ⟨[.ref a],[]⟩) P E s:=by
 rw [list_sort_plain]
 have ha:a < s.heap.objs.size:=QA ho
 refine QU (listItems_at ho rfl ?_)
 refine QU (listUpdate_at ho rfl ?_)
 obtain ⟨e1,Ny⟩:∃ e1,(s.heap.update a (Obj.mapSeq fun _=>#[])).get? a=some (seqObj "list" #[] e1):=⟨_,get?_update_seq ho (fun _=>#[])⟩
 refine QU (seqEpoch_at Ny rfl ?_)
 refine QU (wpAny_newTuple ?_)
 refine QU (wpAny_newList ?_)
 refine wpAny_holding ?_
 have GZ:(((s.heap.update a (Obj.mapSeq fun _=>#[])).push (seqObj "tuple" vs.toArray 0)).push (seqObj "list" #[] 0)).get? a=some (seqObj "list" #[] e1):=by
  rw [Heap.get?_push_ne _ _ _ (by rw [size_push',Heap.size_update];exact Nat.ne_of_lt (Nat.lt_succ_of_lt ha)),Heap.get?_push_ne _ _ _ (by rw [Heap.size_update];exact Nat.ne_of_lt ha)]
  exact Ny
 have keep:∀ b o,b≠a->s.heap.get? b=some o->(((s.heap.update a (Obj.mapSeq fun _=>#[])).push (seqObj "tuple" vs.toArray 0)).push (seqObj "list" #[] 0)).get? b=some o:=fun b o hb e=>
  Qc _ (Qc _ ((Heap.get?_update_other _ _ (Ne.symm hb)).trans e))
 show wpAny (model prog w) A _ P E {s with heap:=((s.heap.update a (Obj.mapSeq fun _=>#[])).push (seqObj "tuple" vs.toArray 0)).push (seqObj "list" #[] 0)}
 dsimp only
 have hsz:vs.toArray.size=vs.length:=by simp
 by_cases h2:vs.toArray.size < 2
 ·rw [if_pos h2,if_pos h2]
  refine QU (QV ?_)
  rw [StateT.run_pure]
  refine QU (QV ?_)
  dsimp only
  refine QU (seqEpoch_at GZ rfl ?_)
  refine QU (listUpdate_at GZ rfl ?_ (hsz2:=by rw [Array.size_map];show (pairsOf vs).size<=_;rw [pairsOf_size,QM];omega))
  simp only [bne_self_eq_false,Bool.false_eq_true,if_false]
  refine QV ?_
  have ez:(vs.toArray.zip vs.toArray).map (·.2)=vs.toArray:=by
   apply Array.toList_inj.mp
   simp [Array.toList_zip,List.map_snd_zip]
  show P (.done (.ret .none)) {s with heap:=sortedHeap s.heap a vs ((vs.toArray.zip vs.toArray).map (·.2))}
  rw [ez]
  exact h
 ·rw [if_neg h2,if_neg h2]
  have uo:2<=vs.length:=by omega
  refine QU (wpAny_mono (Ct uo _ keep (fun κ' s'=>κ'=κ/\s'={s with heap:=((s.heap.update a (Obj.mapSeq fun _=>#[])).push (seqObj "tuple" vs.toArray 0)).push (seqObj "list" #[] 0)}) ⟨rfl,rfl⟩) (fun κ' s0 hk=>?_) fun _ _ x=>x.elim)
  obtain ⟨rfl,rfl⟩:=hk
  have Xb:wpAny (model prog w) A (sortRuns'.run (SortSt.mk' κ' (vs.toArray.zip vs.toArray) #[] 7 none)) (fun r s'=>arrOf r.2=(List.toArray (List.range vs.length)).map (kas_item (vs.toArray.zip vs.toArray))/\failedOf r.2=none/\s'={s with heap:=((s.heap.update a (Obj.mapSeq fun _=>#[])).push (seqObj "tuple" vs.toArray 0)).push (seqObj "list" #[] 0)}) E {s with heap:=((s.heap.update a (Obj.mapSeq fun _=>#[])).push (seqObj "tuple" vs.toArray 0)).push (seqObj "list" #[] 0)}:=by
   have wx:SortSt.mk' κ' (vs.toArray.zip vs.toArray) #[] 7 none=kas_st κ' (vs.toArray.zip vs.toArray) (List.range vs.length).toArray:=by
    unfold kas_st
    have:=kas_range (vs.toArray.zip vs.toArray)
    rw [show (vs.toArray.zip vs.toArray).size=vs.length by simp] at this
    rw [this]
   rw [wx]
   refine W9 (Q:=fun _ st' s'=>arrOf st'=(List.toArray (List.range vs.length)).map (kas_item (vs.toArray.zip vs.toArray))/\failedOf st'=none/\s'={s with heap:=((s.heap.update a (Obj.mapSeq fun _=>#[])).push (seqObj "tuple" vs.toArray 0)).push (seqObj "list" #[] 0)}) uo (fun k k1 k2 C hC=>?_) fun st' h1 h2=>⟨h1,h2,rfl⟩
   rw [<- kat_ask_eq (ks:=vs) (vs:=vs) rfl]
   exact JK _ keep k k1 k2 C hC
  refine QU (wpAny_mono Xb ?_ fun _ _ e=>e)
  rintro ⟨⟨⟩,st'⟩ s' ⟨Xc,hf,rfl⟩
  dsimp only
  have Nz:(arrOf st').map (·.2)=vs.toArray:=by
   rw [kat_snds rfl Xc]
   congr 1
   refine List.ext_getElem (by simp) fun i h1 h2=>?_
   simp [Qb,Qa h2]
  refine QU (seqEpoch_at GZ rfl ?_)
  refine QU (listUpdate_at GZ rfl ?_ (hsz2:=by rw [Nz,hsz,QM];omega))
  rw [hf,Nz]
  simp only [bne_self_eq_false,Bool.false_eq_true,if_false]
  exact QV h
theorem sC {vs:List Value} {κ:SortKind} (hl:s.heap.IsList l vs.toArray) (JJ:vs.length<=100000)
  (Ct:2<=vs.length->∀ h':Heap,(∀ b o,s.heap.get? b=some o->h'.get? b=some o)->∀ Q:SortKind->Shared->Prop,Q κ {s with heap:=h'}->wpAny (model prog w) A.in1.in1 (keyKind' vs.toArray) Q (fun _ _=>False) {s with heap:=h'})
  (JK:∀ h':Heap,(∀ b o,s.heap.get? b=some o->h'.get? b=some o)->∀ k,1<=k->k < vs.length->∀ C:Bool->Shared->Prop,C false {s with heap:=h'}->wpAny (model prog w) A.in1.in1 (keyLt' κ (vs.getD k Value.none) (vs.getD (k - 1) Value.none)) C (fun _ _=>False) {s with heap:=h'})
  (h:Q (.ref (s.heap.objs.size+1)) {s with heap:=sortedAll s.heap vs vs.toArray}):
  wpAny (model prog w) A (call (.builtin "sorted") [.ref l]) Q E s:=by
 refine Calls.call_function_entry kind_sorted plain_sorted entry_sorted (args_sorted1 _) ?_
 unfold Builtin.«sorted»
 refine QU (m:=checkCount "sorted" 1 1 _) (QV ?_)
 refine QU (collect_list hl ?_)
 refine QU (wpAny_newList ?_)
 have hsz:((s.heap.push (seqObj "list" #[] 0)).update s.heap.objs.size (Obj.mapSeq (· ++vs.toArray))).objs.size=s.heap.objs.size+1:=by
  rw [Heap.size_update,size_push']
 have F4:(((s.heap.push (seqObj "list" #[] 0)).update s.heap.objs.size (Obj.mapSeq (· ++vs.toArray))).push (seqObj "list" vs.toArray 0)).get? (s.heap.objs.size+1)=some (seqObj "list" vs.toArray 0):=by
  rw [<- hsz];exact Qd _ rfl
 have keep:∀ b o,s.heap.get? b=some o->b≠s.heap.objs.size+1/\(((s.heap.push (seqObj "list" #[] 0)).update s.heap.objs.size (Obj.mapSeq (· ++vs.toArray))).push (seqObj "list" vs.toArray 0)).get? b=some o:=fun b o q=>by
  have au:b < s.heap.objs.size:=QA q
  refine ⟨Nat.ne_of_lt (Nat.lt_succ_of_lt au),?_⟩
  rw [Heap.get?_push_ne _ _ _ (by rw [hsz];exact Nat.ne_of_lt (Nat.lt_succ_of_lt au)),Heap.get?_update_ne _ _ _ _ (Nat.ne_of_lt au),Heap.get?_push_ne _ _ _ (Nat.ne_of_lt au)]
  exact q
 show wpAny _ _ _ _ _ {s with heap:=((s.heap.push (seqObj "list" #[] 0)).update s.heap.objs.size (Obj.mapSeq (· ++vs.toArray))).push (seqObj "list" vs.toArray 0)}
 rw [hsz]
 refine QU (wpAny_holding (wpAny_call_entry slot_list_sort ⟨_,F4,rfl⟩ entry_list_sort (mI (κ:=κ) F4 JJ (fun h2 h' hk Q hq=>?_) (fun h' hk k k1 k2 C hC=>?_) ⟨_,rfl,?_⟩) (args_list_sort _)))
 ·exact Ct h2 h' (fun b o e=>hk b o (keep b o e).1 (keep b o e).2) Q hq
 ·exact JK h' (fun b o e=>hk b o (keep b o e).1 (keep b o e).2) k k1 k2 C hC
 ·exact QV ⟨_,rfl,h⟩
abbrev Xd:=List (List Str)
structure FG (H:Hp) (us:List V) (F:List Xd):Prop where
 len:us.length=F.length
 at_:∀ i (h:i < us.length) (h':i < F.length),∃ c b ys rest,us[i]=.ref c/\H c=some (.tup (.ref b::rest))/\H b=some (.tup ys)/\SV H ys F[i]
def Xe:List V->Hp->VK->Prop:=fun xs H Q=>∃ l us F,xs=[.ref l]/\H l=some (.lst us)/\us.length<=100000/\FG H us F/\(∀ i (h:i+1 < F.length),Dz F[i] F[i+1])/\∀ L,H L=none->Q (.ref L) (upd H L (.lst us))
theorem oH (hu:X.A.units+20 < cLine):qw X (.builtin "sorted") Xe:=by
 intro pins s σ H xs ku Q I r h
 obtain ⟨l,us,F,rfl,hl,JJ,fl,B9,q⟩:=h
 obtain ⟨u,rfl,ru⟩:=r.one
 cases ru
 obtain ⟨its,rv,pl,hz⟩:=I.list (af.of hl)
 have c_:=rv.length
 have aaZ:=fl.len
 have pair:∀ i (h1:i < its.length) (h2:i < F.length),∃ c b ys o n rr,its[i]=.ref c/\s.heap.get? c=some o/\o.cls=.type "tuple"/\o.data=.seq (Value.ref b::rr).toArray n/\H b=some (.tup ys)/\SV H ys F[i]:=fun i h1 h2=>by
  obtain ⟨c,b,ys,rest,e1,e2,e3,e4⟩:=fl.at_ i (by omega) h2
  obtain ⟨w1,f1,q1⟩:=rv.get (Qa (show i < us.length by omega))
  rw [e1] at q1
  cases q1
  rw [Qa h1] at f1
  obtain ⟨i2,r2,p2,_⟩:=I.tuple (aj.of e2)
  cases r2 with
  | cons ra rb=>
   cases ra
   obtain ⟨o,g1,g2,n,g3⟩:=p2
   exact ⟨c,b,ys,o,n,_,QE f1,g1,g2,g3,e3,e4⟩
 refine sC (κ:=tuples' false) pl.isList (by omega) (fun h2 h' hk Q' hq=>?_) (fun h' hk k k1 k2 C hC=>?_) ?_
 ·have I':Inv X pins σ H {s with heap:=h'}:=I.kept (t':=s.toks) hk
  obtain ⟨fs,JL⟩:=nF (R:=fun v f=>(∃ a o xs n,v=Value.ref a/\h'.get? a=some o/\o.cls=Value.type "tuple"/\o.data=.seq xs n/\xs[0]? =some f)/\∃ b ys,f=Value.ref b/\H b=some (.tup ys)) its fun v hv=>by
   obtain ⟨i,hi,rfl⟩:=Qi hv
   obtain ⟨c,b,ys,o,n,rr,g0,g1,g2,g3,g4,g5⟩:=pair i hi (by omega)
   exact ⟨.ref b,⟨c,o,_,n,g0,hk _ _ g1,g2,g3,by simp⟩,b,ys,rfl,g4⟩
  have hfl:=Paired.length JL
  refine kat_kind (s:={s with heap:=h'}) (T:=.type "tuple") (sL (rV (fun _ _ h=>h.1) JL)) (by omega) (fun v hv=>?_) (by decide) hq
  obtain ⟨b,ys,rfl,hb⟩:=oS (P:=fun f=>∃ b ys,f=Value.ref b/\H b=some (.tup ys)) (fun _ _ h=>h.2) JL v hv
  obtain ⟨i2,r2,⟨o,g1,g2,_⟩,_⟩:=I'.tuple (aj.of hb)
  exact fun A' Q'' E' s' k' q'=>wpAny_typeOf ⟨o,k' _ _ g1,g2⟩ q'
 ·have I':Inv X pins σ H {s with heap:=h'}:=I.kept (t':=s.toks) hk
  obtain ⟨c,b,ys,o,n,rr,g0,g1,g2,g3,g4,g5⟩:=pair k (by omega) (by omega)
  obtain ⟨c',b',IQ,o',n',Xf,Xg,vq,Bj,Xh,DQ,NB⟩:=pair (k - 1) (by omega) (by omega)
  have ek:its.getD k Value.none=.ref c:=by rw [Qb,Qa k2,g0];rfl
  have Xi:its.getD (k - 1) Value.none=.ref c':=by rw [Qb,Qa (by omega),Xg];rfl
  rw [ek,Xi]
  have hr:Dz (F[k - 1]'(by omega)) (F[k]'(by omega)):=by
   have:=B9 (k - 1) (by omega)
   have e:k - 1+1=k:=by omega
   simp only [e] at this
   exact this
  refine kat_lt (s:={s with heap:=h'}) (hk _ _ g1) g3 (hk _ _ vq) Xh ?_
  have NC:X.A.in1.in1.units+4 < cLine:=by rw [Around.in1_units,Around.in1_units];omega
  show KatLex _ _ _ _ _ _ ((Value.ref b,Value.ref b')::rr.zip Xf) 0 _
  refine kat_cons (yE I' DQ g4 NB g5 hr NC _ _ _ _ (kat_no (kat_one _ _ ?_)))
  exact zS I' DQ g4 NB g5 hr NC _ _ _ _ hC
 ·obtain ⟨e,he⟩:=sortedAll_at s.heap its its.toArray
  have hf:H (s.heap.objs.size+1)=none:=I.hok.fresh (Nat.le_succ _)
  refine ⟨.ref (s.heap.objs.size+1),_,I.laid (t':=s.toks) (a:=s.heap.objs.size+1) (o:=.lst us) (fun b o eo=>sortedAll_old eo) (Nat.le_succ _) ?_,rfl,q _ hf⟩
  exact ⟨by omega,its,e,rv,he⟩
end L2
namespace L2
open PySem PySem.Spec PyProof.Rows
theorem cZ (C_:Scope) (oN:List Str) (h:sc.kind=.function/\(∀ y∈sc.names,y.2≠.cell)/\(∀ y∈sc.names,y.2=.local->sc.names.lookup y.1=some .local)/\(∀ y∈sc.names,y.2=.free->(C_.names.lookup y.1=some .cell\/C_.names.lookup y.1=some .free))/\(∀ j∈idx,sc.names.lookup (oN.getD j "")=some .free/\j < oN.length)/\N'=own++idx.map (fun j=>oN.getD j "")):o_ C_ oN sc own idx N':=⟨h.1,h.2.1,h.2.2.1,h.2.2.2.1,h.2.2.2.2.1,h.2.2.2.2.2⟩
theorem bP {P:List Str} (h:sc.kind=.function/\sc.isCoroutine=false/\sc.isGenerator=false/\N.Nodup/\N.take P.length=P/\(∀ x∈P,sc.names.lookup x=some .local\/sc.names.lookup x=some .cell)/\∀ y∈sc.names,y.2≠.free):ee N P sc:=⟨h.1,h.2.1,h.2.2.1,h.2.2.2.1,h.2.2.2.2.1,h.2.2.2.2.2.1,h.2.2.2.2.2.2⟩
section
variable {st:Expr} {ts:TE} {p2 pos:Pos}
end
section
variable {t1 t2:Bool} {z TI TO c1 c2 l1 l2:Addr} {k1 k2:Nat} {xs ys:Array Value} {x y a b:Value}
end
section
variable {k:Nat} {vf p pos:Pos} {a b:Expr} {ta:TA}
end
end L2
namespace L2
open PySem PySem.Spec PyProof.Rows HT
end L2
namespace L2
open PySem PySem.Spec PyProof.Rows
open AutoSeq1 (wpAny_loadPart')
def Dt.Xj (z:Str):Dt->Bool
 | .tup [.str y]=>y==z
 | _=>false
def JM (h:Dt):Dt:=if h.Xj "hole" then .tup [.str "all"] else h
def G0:Dt->Dt | .tup [a,h]=>.tup [a,JM h] | d=>d
theorem DD.JN {x y:V} {dx dy:Dt} (e:H b=some (.tup [x,y])) (h1:DD H x dx) (h2:DD H y dy):DD H (.ref b) (.tup [dx,dy]):=.tup e rfl (by simp) fun i a b=>by
 match i,a with
 | 0,_=>exact h1
 | 1,_=>exact h2
theorem DD.JO {x:V} {dx:Dt} (e:H b=some (.tup [x])) (h1:DD H x dx):DD H (.ref b) (.tup [dx]):=.tup e rfl (by simp) fun i a b=>by
 match i,a with
 | 0,_=>exact h1
def ND (H3 H4:Hp) (ws:List V) (ds:List Dt):Prop:=∀ j (h:j < ws.length) (h':j < ds.length),∃ c x1 hv dx dy,ws[j]=.ref c/\H4 c=some (.tup [x1,hv])/\ds[j]=.tup [dx,dy]/\DD H3 x1 dx/\(DD H3 hv (JM dy)\/∃ b,hv=.ref b/\H4 b=some (.tup [.str "all"])/\JM dy=.tup [.str "all"])
theorem ND.dd {H3 H4:Hp} {ws:List V} {ds:List Dt} (f:ND H3 H4 ws ds) (s:aa H3 H4) (j:Nat) (h:j < ws.length) (h':j < ds.length):DD H4 ws[j] (G0 ds[j]):=by
 obtain ⟨c,x1,hv,dx,dy,q1,q2,q3,q4,q5⟩:=f j h h'
 rw [q1,q3]
 refine DD.JN q2 (q4.same s) ?_
 rcases q5 with q5 | ⟨b,rfl,q6,q7⟩
 ·exact q5.same s
 ·rw [q7];exact DD.JO q6 (.str (by decide))
def NE (H H':Hp) (v:V) (d:Dt):Prop:=DD H v (G0 d)\/∃ c x1 b dx,v=.ref c/\H' c=some (.tup [x1,.ref b])/\H' b=some (.tup [.str "all"])/\DD H x1 dx/\G0 d=.tup [dx,.tup [.str "all"]]
theorem NE.dd {v:V} (h:NE H H' v d) (s:aa H H'):DD H' v (G0 d):=by
 rcases h with h | ⟨c,x1,b,dx,rfl,h2,h3,h4,h5⟩
 ·exact h.same s
 ·rw [h5];exact DD.JN h2 (h4.same s) (DD.JO h3 (.str (by decide)))
def Hd.Fe:Hd->Bool | .one s=>s=="hole" | _=>false
def Hd.Xk:Hd->Bool | .way _ _=>true | _=>false
def Hd.G1 (h:Hd):Hd:=if h.Fe then .one "all" else h
def NF (r:ak):ak:=(r.1,r.2.G1)
structure TH (H:Hp) (a:Addr) (xs:List V) (rows:List ak) (ns ws:List Str):Prop where
 at_:H a=some (.tup xs)
 rv:RV H xs rows
 nm:(rows.map (·.1)).Perm ns
 nd:ns.Nodup
 ok:MH ns (rows.map NF)
 wd:∀ n∈ns,Wd n
 ah:∀ r∈rows,Cb ns r.1 r.2.nx
 ww:∀ r∈rows,∀ z∈r.2.Ca,z∈ws
 pos:1<=ns.length
 few:ns.length<=10
 nw:∀ r∈rows,r.2.Xk=false
 hl:rows.countP (fun r=>r.2.Fe)<=6
section
variable {xs:List V} {rows:List ak}
theorem TH.rl (h:TH H a xs rows ns ws):rows.length=ns.length:=by have:=h.nm.length_eq;simpa using this
theorem HV.ia {v:V} {h:Hd} (q:HV H v h) (ok:h.G1.ok ns):DD H v h.dt:=by
 cases e:h.Fe with
 | false=>
  have:h.G1=h:=by unfold Hd.G1;rw [e];rfl
  rw [this] at ok
  exact (q.tx ok).dd
 | true=>
  cases q with
  | @one b s e1=>
   have:s="hole":=eq_of_beq e
   subst this
   exact DD.JO e1 (.str (by decide))
  | _=>cases e
theorem TH.dd (h:TH H a xs rows ns ws):DD H (.ref a) (.tup (rows.map Vh)):=by
 have Dl:=h.rl
 have few:=h.few
 have hl:=h.rv.len
 refine .tup h.at_ (by simp [hl]) (by omega) fun i h1 h2=>?_
 have h3:i < rows.length:=by simpa using h2
 obtain ⟨b,v,q1,q2,q3⟩:=h.rv.at_ i h1 h3
 obtain ⟨m1,m2⟩:=h.ok (NF rows[i]) (List.mem_map.mpr ⟨_,Qj h3,rfl⟩)
 have Xl:isName rows[i].1=true:=m1
 rw [q1]
 simp only [Qr]
 exact DD.JN q2 (.str (by have:=fS Xl;omega)) (q3.ia m2)
end
end L2
namespace L2
open PySem PySem.Spec PyProof.Rows
open AutoSeq1 (wpAny_loadPart')
section
variable {es:Array DictEntry} {items2:Array Value}
end
mutual
def Dt.oc:Dt->Nat
 | .str _=>0
 | .p_=>1
 | .tup ds=>NG ds
def NG:List Dt->Nat
 | []=>0
 | d::r=>d.oc+NG r
end
mutual
def Dt.dep:Dt->Nat
 | .str _=>0
 | .p_=>0
 | .tup ds=>NH ds+1
def NH:List Dt->Nat
 | []=>0
 | d::r=>max d.dep (NH r)
end
end L2
namespace L2
open PySem PySem.Spec PyProof.Rows
mutual
def Dt.cn:Dt->Nat
 | .str _=>1
 | .p_=>1
 | .tup ds=>NI ds+1
def NI:List Dt->Nat
 | []=>0
 | d::r=>d.cn+NI r
end
structure DX (P:Addr->Prop) (H:Hp) (m:Bool) (v:V) (d:Dt) (k c:Nat):Prop where
 ex:∃ p,DA P H m v p d/\p.depth<=k/\p.shown.length+2<=220*c/\p.showable=true/\d.cn<=c/\d.dep<=k
section
variable {P:Addr->Prop} {m:Bool} {v:V} {k k' c c':Nat}
theorem DX.dd (h:DX P H m v d k c):DD H v d:=let ⟨p,h1,_⟩:=h.ex;h1.dd
end
structure PX (H:Hp) (v:V) (d:Dt) (k c:Nat):Prop where
 ex:∃ p,TX H v d/\Al H v p/\p.depth<=k/\p.shown.length+2<=220*c/\p.showable=true/\d.cn<=c/\d.dep<=k/\d.oc=0
section
variable {v:V} {k k' c c':Nat}
theorem PX.dd (h:PX H v d k c):DD H v d:=let ⟨_,h1,_⟩:=h.ex;h1.dd
inductive Ff (H:Hp) (k:Nat):List V->List Dt->Nat->Prop
 | nil:Ff H k [] [] 0
 | cons {v:V} {d:Dt} {c:Nat} {vs:List V} {ds:List Dt} {cs:Nat}:PX H v d k c->Ff H k vs ds cs->Ff H k (v::vs) (d::ds) (c+cs)
theorem Ff.len {vs:List V} {ds:List Dt} {cs:Nat} (h:Ff H k vs ds cs):vs.length=ds.length:=by
 induction h with
 | nil=>rfl
 | cons _ _ ih=>simp [ih]
end
theorem qN {k:Nat} (hr:di k A):A.units+100 < cLine:=by have:=hr.un;omega
end L2
set_option maxHeartbeats 400000
--aa2 14
--SEE
namespace T1
open PySem L2
def top (i:Nat):Stmt:=PySem.Challenge.pw_coilkind_k22_classes.main.body.getD i (.Pass ⟨0,0,0,0⟩)
abbrev fV:Stmt:=top 2
abbrev jE:Stmt:=top 3
abbrev fT:Stmt:=top 4
abbrev fQ:Stmt:=top 10
abbrev fW:Stmt:=top 11
abbrev jR:Stmt:=top 14
abbrev dH:Stmt:=top 15
abbrev dQ:Stmt:=top 16
abbrev jH:Stmt:=top 17
abbrev i7:Stmt:=top 19
abbrev hX:Stmt:=top 20
abbrev fU:Stmt:=top 21
abbrev eJ:Stmt:=top 22
abbrev fP:Stmt:=top 23
abbrev fA:Stmt:=top 24
abbrev cA:Stmt:=top 26
abbrev hV:Stmt:=top 27
abbrev e8:Stmt:=top 30
abbrev dJ:Stmt:=top 31
abbrev fI:Stmt:=top 32
abbrev cP:Stmt:=top 33
abbrev jY:Stmt:=top 34
abbrev d7:Stmt:=inClass (top 9) 0
abbrev eE:Stmt:=inClass (top 13) 0
abbrev cR:Stmt:=inClass (top 13) 1
abbrev d5:Stmt:=inClass (top 13) 2
abbrev bV:Stmt:=inClass (top 13) 3
abbrev eB:Stmt:=inClass (top 13) 4
structure Txt (K:Q1) (mg:Str->Option Value) (w:World):Prop where
 vt:mg "len"=none
 nX:mg "isinstance"=none
 oG:mg "range"=none
 lU:mg "list"=none
 gQ:mg "tuple"=none
 wM:mg "dict"=none
 xG:mg "sorted"=none
 NJ:mg "zip"=none
 yS:∃ a,mg "WORDED"=some (.ref a)/\∀ H,aj K H a [.str "box",.str "pick"]
 rL:∃ u,mg "FROM"=some u/\RelV (.ref (adr mg "FROM")) u
 JP:∃ u,mg "TO"=some u/\RelV (.ref (adr mg "TO")) u
 iK:∃ a,mg "STEP_WORDS"=some (.ref a)/\KD w K a [(.inr "box",.str "part"),(.inr "pick",.str "case")]
 sS:fz K mg "heads_of" fV ["T"]
 wC:fz K mg "rows_of" jE ["T"]
 tE:fz K mg "names_in" fT ["head"]
 rE:fz K mg "steps_in" fQ ["head"]
 qY:fz K mg "moves_in" fW ["head","rows"]
 vY:fz K mg "classes" jR ["T"]
 kF:fz K mg "class_numbers" dH ["net","rows"]
 oJ:fz K mg "sources_of" dQ ["net","rows"]
 uK:fz K mg "part_by" jH ["parting","sources","at"]
 tJ:fz K mg "_law_fill" i7 ["_law_cell","_law_at"]
 sQ:fz K mg "_law_next" hX ["_law_pen","_law_many"]
 oP:fz K mg "_law_turned" fU ["_law_pen","_law_some"]
 qA:fz K mg "_law_words" eJ ["_law_pen"]
 sP:fz K mg "_law_head" fP ["_law_pen","_law_names","_law_ahead"]
 mF:fz K mg "_law_telling" fA ["_law_pen","_law_most"]
 kH:fz K mg "_law_twin_head" cA ["_law_pen","_law_here"]
 sX:fz K mg "_law_twin" hV ["_law_pen","_law_told"]
 lS:fz K mg "_law_row_here" e8 ["_law_told","_law_name"]
 kL:fz K mg "_law_head_here" dJ ["_law_told","_law_name"]
 xJ:fz K mg "_law_on" fI ["_law_told","_law_name"]
 mD:fz K mg "_law_parting" cP ["_law_told","_law_name","_law_other","_law_twin_name"]
 NK:fz K mg "law" jY ["script"]
 Ax:Cd K mg "Net" "Net.__init__" d7 ["self","T"] ["rows","heads","marks","moves"] (adr mg "Net")
 bA:Cd K mg "Parting" "Parting.__init__" eE ["self"] ["members","number","waiting","waits"] (adr mg "Parting")
 Xm:As K mg "Parting" "begin" "Parting.begin" cR ["self","rows"]
 Xn:As K mg "Parting" "put_off" "Parting.put_off" d5 ["self","at"]
 Xo:As K mg "Parting" "take_waiting" "Parting.take_waiting" bV ["self"]
 Xp:As K mg "Parting" "part" "Parting.part" eB ["self","rows"]
theorem oY:ee ["self","T"] ["self","T"] (a_ d7):=bP (by decide+kernel)
theorem kG:ee ["self"] ["self"] (a_ eE):=bP (by decide+kernel)
theorem d8:ee ["self","rows","at","row"] ["self","rows"] (a_ cR):=bP (by decide+kernel)
theorem hU:ee ["self","at"] ["self","at"] (a_ d5):=bP (by decide+kernel)
theorem cS:ee ["self","at"] ["self"] (a_ bV):=bP (by decide+kernel)
theorem bY:ee ["self","rows","at","staying","row","new"] ["self","rows"] (a_ eB):=bP (by decide+kernel)
theorem qC:ee ["T"] ["T"] (a_ fV):=bP (by decide+kernel)
theorem d9:ee ["T","heads","rows","name","row"] ["T"] (a_ jE):=bP (by decide+kernel)
theorem pK:ee ["head"] ["head"] (a_ fT):=bP (by decide+kernel)
theorem qR:ee ["head"] ["head"] (a_ fQ):=bP (by decide+kernel)
theorem pV:ee ["head","rows"] ["head","rows"] (a_ fW):=bP (by decide+kernel)
theorem dA:ee ["T","net","number","told","name","head"] ["T"] (a_ jR):=bP (by decide+kernel)
theorem bG:ee ["net","rows","parting","by_marks","row","many","sources"] ["net","rows"] (a_ dH):=bP (by decide+kernel)
theorem cO:ee ["net","rows","sources","row","step","end"] ["net","rows"] (a_ dQ):=bP (by decide+kernel)
theorem bW:ee ["parting","sources","at","leading","end","step","row","rows","touched","many"] ["parting","sources","at"] (a_ jH):=bP (by decide+kernel)
theorem gC:ee ["_law_cell","_law_at","_law_x"] ["_law_cell","_law_at"] (a_ i7):=bP (by decide+kernel)
theorem cT:ee ["_law_pen","_law_many","_law_at","_law_cell","_law_found"] ["_law_pen","_law_many"] (a_ hX):=bP (by decide+kernel)
theorem eZ:ee ["_law_pen","_law_some","_law_left","_law_found"] ["_law_pen","_law_some"] (a_ fU):=bP (by decide+kernel)
theorem o6:ee ["_law_pen"] ["_law_pen"] (a_ eJ):=bP (by decide+kernel)
theorem gI:ee ["_law_pen","_law_names","_law_ahead","_law_way","_law_one"] ["_law_pen","_law_names","_law_ahead"] (a_ fP):=bP (by decide+kernel)
theorem cG:ee ["_law_pen","_law_most","_law_size","_law_names","_law_rows","_law_k"] ["_law_pen","_law_most"] (a_ fA):=bP (by decide+kernel)
theorem j0:ee ["_law_pen","_law_here"] ["_law_pen","_law_here"] (a_ cA):=bP (by decide+kernel)
theorem eP:ee ["_law_pen","_law_told","_law_rows","_law_name","_law_here"] ["_law_pen","_law_told"] (a_ hV):=bP (by decide+kernel)
theorem dI:ee ["_law_told","_law_name","_law_rows"] ["_law_told","_law_name"] (a_ e8):=bP (by decide+kernel)
theorem jM:ee ["_law_told","_law_name"] ["_law_told","_law_name"] (a_ dJ):=bP (by decide+kernel)
theorem dX:ee ["_law_told","_law_name","_law_here","_law_found"] ["_law_told","_law_name"] (a_ fI):=bP (by decide+kernel)
theorem aP:ee ["_law_told","_law_name","_law_other","_law_twin_name","_law_layer","_law_met","_law_later","_law_road","_law_a","_law_b","_law_ones","_law_others","_law_one","_law_two_here"] ["_law_told","_law_name","_law_other","_law_twin_name"] (a_ cP):=bP (by decide+kernel)
theorem e9:ee ["script","_law_pen","_law_k","_law_told","_law_due","_law_name","_law_here","_law_mine","_law_turn","_law_found"] ["script"] (a_ jY):=bP (by decide+kernel)
def Xq (K:Q1) (mg:Str->Option Value) (w:World):Prop:=∃ ts:List (Addr×Obj×List V),(∀ t∈ts,EV K t)/\(ts.map (·.1)).Nodup/\Txt (without K (ts.map (·.1))) mg w/\∀ H:Hp,(∀ t∈ts,H t.1=some (.ae t.2.1 (.tup t.2.2)))->Kn mg H "FROM" [.str "from"]/\Kn mg H "TO" [.str "to"]
section
variable {K:Q1}
def NL:Sp:=fun vs H Q _=>∃ c t:Int,vs=[.int c,.int t]/\(0<=t/\t < 1000000000)/\∀ r:Int,Q (.int r) H
theorem qD (T:Txt K mg w):bj P w K mg base 1 "_law_fill" ["_law_cell","_law_at"] NL:=by
 refine T.tJ.gg gC (fun vs H Q E h=>?_) (fun f ay A outer s H vs Q E hr h=>?_)
 ·obtain ⟨c,t,rfl,_⟩:=h
  rfl
 ·obtain ⟨c,t,rfl,⟨G2,Xr⟩,k⟩:=h
  refine ⟨_,(aE (eG (aU Um (zv 0) (cM Ul aH aH) (h_ _)) (aG (bE (zv 0))) cH)
   (aE (aQ (i:=2) gC.nd rfl (Or.inl rfl) (cM eX (cM cL (cM cL (cM dO (cM eX (zv 0) aH) aH) (cM dO (zv 1) aH)) aH) aH))
   (aE (aQ (i:=2) gC.nd rfl (Or.inl rfl) (cM eX (cM cL (cM cL (cM dO (zv 2) (zv 2)) (cM dO aH (zv 2))) (zv 1)) aH))
   (aG (bE (cM cL (cM dO (zv 2) aH) (cM eX (cM cL (cM dO (zv 2) (zv 2)) (cM dO aH (zv 1))) aH))))))),?_⟩
  refine ⟨⟨by decide,by decide,by decide⟩,_,rfl,Gk (fun hk=>k _) (fun hk=>?_)⟩
  refine ⟨by decide,.inl ⟨?_,?_⟩,.inl ⟨by omega,by omega⟩,by decide,?_⟩
  ·have:=Int.emod_nonneg c (show (2147483647:Int)≠0 by decide);omega
  ·have:=Int.emod_lt_of_pos c (show (0:Int) < 2147483647 by decide);omega
  generalize hx:(c % 2147483647*48271+t*69621+11) % 2147483629=x
  have NN:0<=x:=by rw [<- hx];exact Int.emod_nonneg _ (by decide)
  have hx1:x < 2147483629:=by rw [<- hx];exact Int.emod_lt_of_pos _ (by decide)
  refine ⟨.inl ⟨by omega,by omega⟩,.inl ⟨by decide,by decide⟩,by decide,?_⟩
  generalize hy:(x*x+48271*x+t) % 2147483587=y
  have Nl:0<=y:=by rw [<- hy];exact Int.emod_nonneg _ (by decide)
  have hy1:y < 2147483587:=by rw [<- hy];exact Int.emod_lt_of_pos _ (by decide)
  exact ⟨.inl ⟨by omega,by omega⟩,.inl ⟨by omega,by omega⟩,.inl ⟨by decide,by decide⟩,by decide,k _⟩
def Xs (K:Q1):Sp:=fun vs H Q _=>∃ (p a:Addr) (ns:List Int) (m t x:Int),vs=[.ref p,.int m]/\H p=some (.lst [.ref a,.int t,.int x])/\(∀ o,af K (upd H p o) a (ns.map V.int))/\af K H a (ns.map V.int)/\(0<=t/\t < 1000000)/\(0 < m/\m < 1073741824)/\
 ∀ r t' x':Int,0<=r->r < m->0<=t'->t'<=t+1->Q (.int r) (upd H p (.lst [.ref a,.int t',.int x']))
theorem Fg (x y z:α):nc [x,y,z] 0=some x:=rfl
theorem Xu (x y z:α):nc [x,y,z] 1=some y:=rfl
theorem JQ (x y z:α):nc [x,y,z] 2=some z:=rfl
theorem qP (T:Txt K mg w):bj P w K mg base 2 "_law_next" ["_law_pen","_law_many"] (Xs K):=by
 have rU:bj P w K mg base 1 "_law_fill" ["_law_cell","_law_at"] NL:=qD T
 refine T.sQ.gg cT (fun vs H Q E h=>?_) (fun f ay A outer s H vs Q E hr h=>?_)
 ·refine hdn fun Gz9 zG9=>?_;obtain ⟨p,a,ns,m,t,x,rfl,_⟩:=h;refine zG9 ?_
  rfl
 ·refine hdn fun Gz9 zG9=>?_;obtain ⟨p,a,ns,m,t,x,rfl,hp,hS',hS,⟨G2,Xr⟩,⟨DR,Fi⟩,k⟩:=h;refine zG9 ?_
  refine ⟨_,(aE (eG (aU o5 (bB (bC K) (zv 0) aH (fun _ _=>rfl)) (zv 1) (h_ _)) (aE (aQ (i:=2) cT.nd rfl (Or.inl rfl) (bB (bC K) (zv 0) aH (fun _ _=>rfl)))
   (aE (aQ (i:=3) cT.nd rfl (Or.inl rfl) aH)
   (aE (eG (aU o5 (zv 2) (cE (bL K) (by rfl) T.vt PySem.boot_len (aN (bB (bC K) (zv 0) aH (fun _ _=>rfl)) aC)) (h_ _)) (aG (aQ (i:=3) cT.nd rfl (Or.inl rfl) (bB (bC K) (bB (bC K) (zv 0) aH (fun _ _=>rfl)) (zv 2) (fun _ _=>rfl)))) (aG (eG (aU xL (cE (bL K) (by rfl) T.vt PySem.boot_len (aN (bB (bC K) (zv 0) aH (fun _ _=>rfl)) aC)) aH (h_ _)) (aG (aQ (i:=3) cT.nd rfl (Or.inl rfl) (cM cL (cM eX (bB (bC K) (bB (bC K) (zv 0) aH (fun _ _=>rfl)) (cM eX (cM dO (zv 2) aH) (cE (bL K) (by rfl) T.vt PySem.boot_len (aN (bB (bC K) (zv 0) aH (fun _ _=>rfl)) aC))) (fun _ _=>rfl)) aH) (cM dO (zv 2) aH)))) cH)))
   (aE (zQ (cM cL (zv 2) aH) (zU (zv 0) aH lZ))
   (aG (zQ (bQ rU (hr.mono (by decide)) (aD (zv 3) (aD (zv 2) aC))) (zU (zv 0) aH lZ))))))) cH)
   (aE (aQ (i:=4) cT.nd rfl (Or.inl rfl) (cM eX (bB (bC K) (zv 0) aH (fun _ _=>rfl)) (zv 1)))
   (aE (zQ (cM Uj (bB (bC K) (zv 0) aH (fun _ _=>rfl)) (zv 1)) (zU (zv 0) aH lZ))
   (aG (bE (zv 4)))))),?_⟩
  refine aO (fun σ' H1=>∃ (v2 v3:Option V) (t' x':Int),σ'=[some (.ref p),some (.int m),v2,v3,none]/\H1 p=some (.lst [.ref a,.int t',.int x'])/\(H1=H\/∃ o,H1=upd H p o)/\0<=t'/\t'<=t+1) ?_ ?_
  ·intro nx bx
   refine ⟨_,.int x,.inl (af.of hp),JQ _ _ _,_,rfl,Gk (fun hk=>?_) (fun hk=>?_)⟩
   ·refine aJ ⟨_,.int t,.inl (af.of hp),Xu _ _ _,?_⟩
    refine uN ?_
    refine aO (fun σ' H1=>H1=H/\∃ c:Int,σ'=[some (.ref p),some (.int m),some (.int t),some (.int c),none]) ?_ ?_
    ·intro Fj Cz
     refine ⟨_,.ref a,.inl (af.of hp),Fg _ _ _,.inl ⟨_,.inl hS,_,rfl,Gk (fun hl=>?_) (fun hl=>?_)⟩⟩
     ·obtain ⟨c,nj,lu⟩:=l5 (ns.map V.int) t G2 (by have:=Qt hl;omega)
      have zd:t.toNat < ns.length:=by
       have:=Qt hl
       rw [Ql] at this;omega
      have hc:c=.int (ns[t.toNat]):=by
       rw [Qq,Qa zd] at nj
       exact (QE nj).symm
      subst hc
      exact ⟨_,.ref a,.inl (af.of hp),Fg _ _ _,_,_,.inl hS,lu,Cz _ _ ⟨rfl,_,rfl⟩⟩
     ·refine ⟨_,.ref a,.inl (af.of hp),Fg _ _ _,.inl ⟨_,.inl hS,_,rfl,Gk (fun Af=>?_) (fun Af=>?_)⟩⟩
      ·have Xv:=Qt Af
       have hlp:0 < (ns.map V.int).length:=by omega
       have e0:=Int.emod_nonneg (t*7) (show ((ns.map V.int).length:Int)≠0 by omega)
       have e1:=Int.emod_lt_of_pos (t*7) (show (0:Int) < (ns.map V.int).length by omega)
       obtain ⟨c,nj,lu⟩:=l5 (ns.map V.int) (t*7 % ((ns.map V.int).length:Int)) e0 e1
       have zd:(t*7 % ((ns.map V.int).length:Int)).toNat < ns.length:=by
        have e2:(ns.map V.int).length=ns.length:=Ql _
        omega
       have hc:c=.int (ns[(t*7 % ((ns.map V.int).length:Int)).toNat]):=by
        rw [Qq,Qa zd] at nj
        exact (QE nj).symm
       subst hc
       refine ⟨_,.ref a,.inl (af.of hp),Fg _ _ _,.inl ⟨by omega,by omega⟩,_,.ref a,.inl (af.of hp),Fg _ _ _,.inl ⟨_,.inl hS,Xv,_,_,.inl hS,lu,by decide,.inl ⟨by omega,by omega⟩,Cz _ _ ⟨rfl,_,rfl⟩⟩⟩
      ·exact Cz _ _ ⟨rfl,0,rfl⟩
    ·rintro σ' H1 ⟨rfl,c,rfl⟩
     refine ⟨p,_,1,1,rfl,rfl,hp,rfl,?_⟩
     refine ⟨c,t,rfl,⟨G2,by omega⟩,fun r=>?_⟩
     refine ⟨p,_,2,2,rfl,rfl,aA,rfl,?_⟩
     rw [gX]
     exact bx _ _ ⟨_,_,t+1,r,rfl,aA,.inr ⟨_,rfl⟩,by omega,by omega⟩
   ·exact bx _ _ ⟨none,none,t,x,rfl,hp,.inl rfl,G2,by omega⟩
  ·rintro σ' H1 z0;refine hdn fun Gz9 zG9=>?_;obtain ⟨v2,v3,t',x',rfl,h1,h2,h3,h4⟩:=z0;refine zG9 ?_
   refine ⟨_,.int x',.inl (af.of h1),JQ _ _ _,DR,?_⟩
   refine ⟨_,.int x',.inl (af.of h1),JQ _ _ _,⟨DR,Fi⟩,p,_,2,2,rfl,rfl,h1,rfl,?_⟩
   have e:∀ o,upd H1 p o=upd H p o:=fun o=>by
    rcases h2 with rfl | ⟨o',rfl⟩
    ·rfl
    ·exact gX
   rw [e]
   exact k _ t' _ (Int.emod_nonneg _ (by omega)) (Int.emod_lt_of_pos _ DR) h3 h4
structure b_ (K:Q1) (H0 H:Hp) (p:Addr) (t:Nat):Prop where
 ex:∃ (a:Addr) (ns:List Int) (u x:Int),H p=some (.lst [.ref a,.int u,.int x])/\(∀ H',Sm p p H0 H'->af K H' a (ns.map V.int))/\0<=u/\u<=(t:Int)
 sm:Sm p p H0 H
section
variable {D:Addr} {t u:Nat} {o:HO}
theorem b_.mono (h:b_ K H0 H p t) (l:t<=u):b_ K H0 H p u:=by
 refine hdn fun Gz9 zG9=>?_;obtain ⟨a,ns,y,x,h1,h2,h3,h4⟩:=h.ex;refine zG9 ?_
 exact ⟨⟨a,ns,y,x,h1,h2,h3,by omega⟩,h.sm⟩
theorem b_.same (h:b_ K H0 H p t) (s:aa H H'):b_ K H0 H' p t:=by
 obtain ⟨a,ns,y,x,h1,h2⟩:=h.ex
 exact ⟨⟨a,ns,y,x,s _ _ h1,h2⟩,h.sm.trans s.sm⟩
theorem b_.ne (h:b_ K H0 H p t) (hD:H D=none):D≠p:=fun e=>by
 obtain ⟨_,_,_,_,z,_⟩:=h.ex
 rw [<- e,hD] at z;cases z
theorem b_.free (h:b_ K H0 H p t) (hD:H D=none):H0 D=none:=h.sm.free hD (h.ne hD) (h.ne hD)
theorem b_.put (h:b_ K H0 H p t) (h1:D≠p) (h2:H0 D=none):b_ K H0 (upd H D o) p t:=by
 obtain ⟨a,ns,y,x,e1,e2⟩:=h.ex
 exact ⟨⟨a,ns,y,x,by rw [aB h1.symm];exact e1,e2⟩,h.sm.upd h2⟩
theorem b_.ts (h:b_ K H0 H p t) (s:Sm p p H H'):Tk H H':=fun b xs e=>by
 obtain ⟨_,_,_,_,z,_⟩:=h.ex
 have n:b≠p:=fun q=>by rw [q,z] at e;cases e
 exact s _ _ e n n
end
def Bk (K:Q1):Sp:=fun vs H Q _=>∃ (H0:Hp) (p:Addr) (m:Int) (t:Nat),vs=[.ref p,.int m]/\b_ K H0 H p t/\(0 < m/\m < 1073741824)/\t < 900000/\
 ∀ (r:Int) (H':Hp),0<=r->r < m->b_ K H0 H' p (t+1)->Sm p p H H'->Q (.int r) H'
theorem Xw (h:j < n):Ac n (j:Int)=some j:=by
 unfold Ac
 rw [if_pos (by omega),if_pos (by omega)];simp
theorem m9 {α:Type}:∀ {ls:List α} {i:Nat} (h:i < ls.length),(ls[i]::ls.eraseIdx i).Perm ls
 | x::r,0,_=>List.Perm.refl _
 | x::r,i+1,h=>by
  have ih:=m9 (ls:=r) (i:=i) (by simpa using h)
  exact (List.Perm.swap _ _ _).trans (ih.cons x)
theorem cK (T:Txt K mg w):bj P w K mg base 2 "_law_next" ["_law_pen","_law_many"] (Bk K):=(qP T).imp fun vs H Q E h=>by
 refine hdn fun Gz9 zG9=>?_;obtain ⟨H0,p,m,t,rfl,hn,hm,ht,k⟩:=h;refine zG9 ?_
 refine hdn fun Gz9 zG9=>?_;obtain ⟨a,ns,u,x,h1,h2,h3,h4⟩:=hn.ex;refine zG9 ?_
 have sU:∀ o,Sm p p H (upd H p o):=fun o b u hb n _=>by rw [aB n];exact hb
 refine ⟨p,a,ns,m,u,x,rfl,h1,fun o=>h2 _ (hn.sm.trans (sU o)),h2 _ hn.sm,⟨h3,by omega⟩,hm,fun r t' x' r0 r1 t0 t1=>?_⟩
 exact k r _ r0 r1 ⟨⟨a,ns,t',x',aA,h2,t0,by push_cast;omega⟩,hn.sm.trans (sU _)⟩ (sU _)
def JR (K:Q1):Sp:=fun vs H Q _=>∃ (H0:Hp) (p a:Addr) (xs:List V) (t:Nat),vs=[.ref p,.ref a]/\b_ K H0 H p t/\t+100 < 900000/\(af K H a xs\/aj K H a xs)/\xs.length<=100/\
 ∀ (L:Addr) (ys:List V) (H':Hp),H L=none->H' L=some (.lst ys)->ys.Perm xs->b_ K H0 H' p (t+100)->Sm p p H H'->Q (.ref L) H'
theorem gY (T:Txt K mg w):bj P w K mg base 3 "_law_turned" ["_law_pen","_law_some"] (JR K):=by
 have aT:bj P w K mg base 2 "_law_next" ["_law_pen","_law_many"] (Bk K):=cK T
 refine T.oP.gg eZ (fun vs H Q E h=>?_) (fun f ay A outer s H vs Q E hr h=>?_)
 ·obtain ⟨H0,p,a,xs,t,rfl,_⟩:=h
  rfl
 ·refine hdn fun Gz9 zG9=>?_;obtain ⟨H0,p,a,xs,t,rfl,hn,ht,ha,hx,k⟩:=h;refine zG9 ?_
  have hu:=aV hr
  have ff:=Qy (aV hr)
  have hsz:sizeLine=16777216:=QM
  refine ⟨_,(aE (aQ (i:=2) eZ.nd rfl (Or.inl rfl) (cJ (mU K) (by rfl) T.lU PyProof.Rows.boot_list (aD (zv 1) aC)))
   (aE (aQ (i:=3) eZ.nd rfl (Or.inl rfl) (bS aC))
   (aE (iJ PassesOwn.never (aU (oA ff) (zv 2) (bS aC) (h_ _)) (aG (bO (iB K QJ QK QL aZ (zv 3) (aX (iB K QJ PySem.F.slot_list_pop PySem.F.type_list_pop yY (zv 2) (aX (bQ aT (hr.mono (by decide)) (aD (zv 0) (aX (cE (bL K) (by rfl) T.vt PySem.boot_len (aD (zv 2) aC)) aC))) aC)) aC)))))
   (aG (bE (zv 3)))))),?_⟩
  refine aJ ⟨a,xs,rfl,ha,fun l0 gp=>?_⟩
  refine aJ ⟨(show 0<=sizeLine by decide),fun l1 fj=>?_⟩
  have s1:=aa.upd gp (.lst xs)
  have s2:=aa.upd fj (.lst [])
  have e0:l0≠p:=hn.ne gp
  have e1:l1≠p:=(hn.same s1).ne fj
  have NO:l0≠l1:=aL aA fj
  have f0:=hn.free gp
  have f1:=(hn.same s1).free fj
  have g0:upd (upd H l0 (.lst xs)) l1 (.lst []) l0=some (.lst xs):=s2 _ _ aA
  have g1:upd (upd H l0 (.lst xs)) l1 (.lst []) l1=some (.lst []):=aA
  have hn2:=(hn.same s1).same s2
  have zl:Sm p p H (upd (upd H l0 (.lst xs)) l1 (.lst [])):=(s1.trans s2).sm
  dsimp only
  generalize upd (upd H l0 (.lst xs)) l1 (.lst [])=H2 at g0 g1 hn2 zl
  have Xx:H l0=none:=gp
  have NP:H l1=none:=s1.free fj
  refine aO (fun σ' H'=>∃ ys,σ'=[some (.ref p),some (.ref a),some (.ref l0),some (.ref l1)]/\H' l1=some (.lst ys)/\ys.Perm xs/\b_ K H0 H' p (t+100)/\Sm p p H H') ?_ ?_
  ·intro nx bx
   refine ⟨fun m σ' H'=>∃ (ls ys:List V),σ'=[some (.ref p),some (.ref a),some (.ref l0),some (.ref l1)]/\H' l0=some (.lst ls)/\H' l1=some (.lst ys)/\ls.length=m/\(ys++ls).Perm xs/\b_ K H0 H' p (t+ys.length)/\Sm p p H H',⟨xs.length,xs,[],rfl,g0,g1,rfl,by simp,hn2,zl⟩,?_⟩
   rintro m σ' H3 z0;refine hdn fun Gz9 zG9=>?_;obtain ⟨ls,ys,rfl,q0,q1,q2,q3,q4,q5⟩:=z0;refine zG9 ?_
   have hyl:ys.length+ls.length=xs.length:=by have:=q3.length_eq;rw [Qk] at this;exact this
   refine ⟨(show 0<=sizeLine by decide),fun b hb=>⟨aL q0 hb,ls,(aa.upd hb _) _ _ q0,aA,_,rfl,f_ (fun c=>?_) (fun c=>?_)⟩⟩
   ·have s3:=aa.upd hb (.lst [])
    have NQ:=q4.same s3
    have DG:=s3 _ _ q0
    have JS:=s3 _ _ q1
    have NR:=q5.trans s3.sm
    generalize upd H3 b (.lst [])=H4 at NQ DG JS NR
    have aa9:0 < ls.length:=by
     cases ls with
     | nil=>exact absurd c (by decide)
     | cons x r=>simp
    refine ⟨fun σ' Ay=>∃ m',m' < m/\∃ (ls ys:List V),σ'=[some (.ref p),some (.ref a),some (.ref l0),some (.ref l1)]/\Ay l0=some (.lst ls)/\Ay l1=some (.lst ys)/\ls.length=m'/\(ys++ls).Perm xs/\b_ K H0 Ay p (t+ys.length)/\Sm p p H Ay,fun σ' Ay h=>h,?_⟩
    refine ⟨.inl ⟨rfl,ys,af.of JS⟩,.inl ⟨rfl,ls,af.of DG⟩,.inl ⟨ls,.inl (af.of DG),H0,p,_,_,rfl,NQ,⟨by omega,by omega⟩,by omega,fun r H5 r0 r1 ud jb=>?_⟩⟩
    obtain ⟨i,rfl⟩:∃ i:Nat,r=(i:Int):=⟨r.toNat,by omega⟩
    have hi:i < ls.length:=by omega
    have p0:=jb _ _ DG e0 e0
    have p1:=jb _ _ JS e1 e1
    refine ⟨l0,ls,(i:Int),i,ls[i],rfl,rfl,p0,by omega,by omega,(oV (Xw hi)).1,Qa hi,l1,ys,ls[i],rfl,rfl,by rw [aB NO.symm];exact p1,by omega,ls.length - 1,by omega,ls.eraseIdx i,ys++[ls[i]],rfl,by rw [aB NO];exact aA,aA,?_,?_,?_,(NR.trans jb).upd Xx |>.upd NP⟩
    ·rw [List.length_eraseIdx,if_pos hi]
    ·rw [QR]
     exact ((m9 hi).append_left ys).trans q3
    ·rw [Qk]
     exact (ud.put e0 f0).put e1 f1
   ·have Xy:ls=[]:=by
     cases ls with
     | nil=>rfl
     | cons x r=>exact absurd c (by simp)
    subst Xy
    rw [QS] at q3
    have s3:=aa.upd hb (.lst [])
    exact bx _ _ ⟨ys,rfl,s3 _ _ q1,q3,(q4.same s3).mono (by have:=q3.length_eq;omega),q5.trans s3.sm⟩
  ·rintro σ' H' ⟨ys,rfl,q1,q2,q3,q4⟩
   exact k l1 ys H' NP q1 q2 q3 q4
def CA:List Str:=["a","ab","b","ba"]
def Fk:List Str:=["case","from","part","to"]
def WW:List Str:=CA++Fk
theorem NS:∀ z∈WW,isName z=true/\Wd z:=fun z hz=>by
 simp only [WW,CA,Fk,List.cons_append,List.nil_append,Qp,QB,or_false] at hz
 rcases hz with rfl | rfl | rfl | rfl | rfl | rfl | rfl | rfl<;>exact ⟨by decide+kernel,fK (by decide) (by decide)⟩
structure WN (os:List Str):Prop where
 B9:rising os=true
 len:os.length<=4
 ww:∀ z∈os,z∈WW
theorem Xz:CA.Pairwise fun a b=>q_ a b=true:=by decide+kernel
theorem XA:Fk.Pairwise fun a b=>q_ a b=true:=by decide+kernel
theorem WN.of {b os:List Str} (hb:b=CA\/b=Fk) (s:os.Sublist b):WN os:=by
 rcases hb with rfl | rfl
 ·exact ⟨fO (Xz.sublist s),s.length_le,fun z hz=>List.mem_append.mpr (.inl (s.subset hz))⟩
 ·exact ⟨fO (XA.sublist s),s.length_le,fun z hz=>List.mem_append.mpr (.inr (s.subset hz))⟩
def NT (K:Q1):Sp:=fun vs H Q _=>∃ (H0:Hp) (p:Addr) (t:Nat),vs=[.ref p]/\b_ K H0 H p t/\t+5 < 900000/\
 ∀ (L:Addr) (os:List Str) (H':Hp),H L=none->H' L=some (.lst (os.map V.str))->WN os->b_ K H0 H' p (t+5)->Sm p p H H'->Q (.ref L) H'
theorem oI (T:Txt K mg w):bj P w K mg base 3 "_law_words" ["_law_pen"] (NT K):=by
 have aT:bj P w K mg base 2 "_law_next" ["_law_pen","_law_many"] (Bk K):=cK T
 refine T.qA.gg o6 (fun vs H Q E h=>?_) (fun f ay A outer s H vs Q E hr h=>?_)
 ·obtain ⟨H0,p,t,rfl,_⟩:=h
  rfl
 ·obtain ⟨H0,p,t,rfl,hn,ht,k⟩:=h
  have hu:=aV hr
  have ff:=Qy (aV hr)
  have hsz:sizeLine=16777216:=QM
  refine ⟨_,(aG (bE (nU (own:=["_law_word"]) (idx:=[0]) (N':=["_law_word","_law_pen"]) (cZ (a_ eJ) (["_law_pen"]:List Str) (by decide+kernel)) rfl (jT K (bS (aF aY (aF aY (aF aY (aF aY aC)))))) (fun _ _ _ _ _ _=>(aI (i:=0) (show List.Nodup (["_law_word","_law_pen"]:List Str) by decide+kernel) rfl (Or.inl rfl))) (fun _ _ _ _ _ _=>(wV (aU (dY ff) (bQ aT (hr.mono (by decide)) (aD (zv 1) (aF aH aC))) aH (h_ _)))) (fun _ _ _ _ _ _=>(zv 0))))),?_⟩
  refine ⟨(show 4<=sizeLine by decide),fun S fj=>?_⟩
  have s1:=aa.upd fj (.lst [V.str "a",V.str "ab",V.str "b",V.str "ba"])
  have NU:upd H S (.lst [V.str "a",V.str "ab",V.str "b",V.str "ba"]) S=some (.lst (CA.map V.str)):=aA
  have qe:=(hn.same s1).mono (u:=t+1) (by omega)
  have eS:S≠p:=hn.ne fj
  generalize upd H S (.lst [V.str "a",V.str "ab",V.str "b",V.str "ba"])=H4 at s1 NU qe ⊢
  obtain ⟨bs,hb,gS⟩:∃ bs:List Str,(bs=CA\/bs=Fk)/\H4 S=some (.lst (bs.map V.str)):=⟨CA,.inl rfl,NU⟩
  have hbl:bs.length=4:=by rcases hb with rfl | rfl<;>rfl
  have G3:Sm p p H H4:=s1.sm
  refine Or.inl ⟨⟨_,af.of gS⟩,fun D hD=>?_⟩
  have qf:D≠p:=qe.ne hD
  have G4:D≠S:=fun e=>by rw [e,gS] at hD;cases hD
  have fD:H0 D=none:=qe.free hD
  have yi:H D=none:=G3.free hD qf qf
  refine gZ (bN (bs.map V.str)) (fun i τ H2=>∃ (v:Option V) (os:List Str),τ=[v,some (.ref p)]/\H2 D=some (.lst (os.map V.str))/\os.Sublist (bs.take i)/\H2 S=some (.lst (bs.map V.str))/\b_ K H0 H2 p (t+1+i)/\Sm p p H H2)
   ⟨none,[],rfl,aA,List.Sublist.refl _,by rw [aB G4.symm];exact gS,qe.same (aa.upd hD _),G3.upd yi⟩ (by rintro i τ H2 _ ⟨_,_,_,_,_,q,_⟩;exact af.of q) ?_ ?_
  ·rintro i τ H5 hi z0;refine hdn fun Gz9 zG9=>?_;obtain ⟨v,os,rfl,q1,q2,q4,q5,q6⟩:=z0;refine zG9 ?_
   rw [Ql] at hi
   rw [g9 bs i hi]
   have DS:bs.take (i+1)=bs.take i++[bs.getD i ""]:=by
    rw [Qs,Qb,Qa hi];rfl
   generalize bs.getD i ""=z at DS
   have Fe:os.length<=i:=by have:=q2.length_le;simp at this;omega
   refine ⟨H0,p,2,t+1+i,rfl,q5,⟨by decide,by decide⟩,by omega,fun r H6 r0 r1 NV oj=>?_⟩
   refine ⟨rfl,_,rfl,?_⟩
   have g4:=oj _ _ q4 eS eS
   have g1:=oj _ _ q1 qf qf
   refine f_ (fun _=>?_) (fun _=>?_)
   ·exact ⟨_,g1,by rw [Ql];exact TQ (by omega),_,os++[z],rfl,by rw [aA,Qm];rfl,by rw [DS];exact q2.append (List.Sublist.refl _),by rw [aB G4.symm];exact g4,NV.put qf fD,(q6.trans oj).upd yi⟩
   ·exact ⟨_,os,rfl,g1,by rw [DS];exact q2.trans (List.sublist_append_left _ _),g4,NV,q6.trans oj⟩
  ·rintro τ H5 z0;refine hdn fun Gz9 zG9=>?_;obtain ⟨v,os,rfl,q1,q2,q4,q5,q6⟩:=z0;refine zG9 ?_
   rw [Ql] at q2 q5
   rw [Qo] at q2
   exact k D os H5 yi q1 (WN.of hb q2) (q5.mono (by omega)) q6
structure qg (H:Hp) (l:Addr) (ss:List Str):Prop where
 e:H l=some (.lst (ss.map V.str))
 ne:ss≠[]
 few:ss.length<=60
 wd:∀ z∈ss,Wd z
theorem yV {t:Nat} {ss:List Str} (h:qg H l ss) (hp:b_ K H0 H p t):l≠p:=fun q=>by
 obtain ⟨_,_,_,_,z,_⟩:=hp.ex
 have e:=h.e
 have ne:=h.ne
 rw [q,z] at e
 cases ss with
 | nil=>exact ne rfl
 | cons a r=>cases e
theorem qg.nx {t:Nat} {ss:List Str} (h:qg H l ss) (hp:b_ K H0 H p t) (s:Sm p p H H'):qg H' l ss:=⟨s _ _ h.e (yV h hp) (yV h hp),h.ne,h.few,h.wd⟩
theorem qg.same {ss:List Str} (h:qg H l ss) (s:aa H H'):qg H' l ss:=⟨s _ _ h.e,h.ne,h.few,h.wd⟩
theorem qg.at {H:Hp} {l:Addr} {ss:List Str} (h:qg H l ss) (r:Int) (h0:0<=r) (h1:r < ss.length):∃ z,nc (ss.map V.str) r=some (.str z)/\ss[r.toNat]? =some z/\Wd z:=by
 obtain ⟨c,nj,lu⟩:=l5 (ss.map V.str) r h0 (by rw [Ql];exact h1)
 rw [Qq] at nj
 cases e:ss[r.toNat]? with
 | none=>rw [e] at nj;cases nj
 | some z=>
  rw [e] at nj
  cases nj
  exact ⟨z,lu,rfl,h.wd z (QD e)⟩
theorem qg.pos {ss:List Str} (h:qg H l ss):0 < ss.length:=List.length_pos_iff.mpr h.ne
def XC (ns:List Str) (k:Nat) (o:Option Str):Prop:=∀ y,o=some y->∃ i,i < k/\ns[i]? =some y
def NW (K:Q1):Sp:=fun vs H Q _=>∃ (H0:Hp) (p nm:Addr) (k t:Nat) (ns:List Str),vs=[.ref p,.ref nm,.int (k:Int)]/\b_ K H0 H p t/\t+20 < 900000/\qg H nm ns/\(∀ z∈ns,isName z=true)/\k<=ns.length/\
 ∀ (v:V) (H':Hp),rf H' ns WW v (XC ns k)->b_ K H0 H' p (t+20)->Sm p p H H'->Q v H'
theorem pX (T:Txt K mg w):bj P w K mg base 4 "_law_head" ["_law_pen","_law_names","_law_ahead"] (NW K):=by
 have aT:bj P w K mg base 2 "_law_next" ["_law_pen","_law_many"] (Bk K):=cK T
 have qT:bj P w K mg base 3 "_law_words" ["_law_pen"] (NT K):=oI T
 refine T.sP.gg gI (fun vs H Q E h=>?_) (fun f ay A outer s H vs Q E hr h=>?_)
 ·refine hdn fun Gz9 zG9=>?_;obtain ⟨H0,p,nm,k,t,ns,rfl,_⟩:=h;refine zG9 ?_
  rfl
 ·refine hdn fun Gz9 zG9=>?_;obtain ⟨H0,p,nm,ka,t,ns,rfl,hn,ht,tn,G5,hk,k⟩:=h;refine zG9 ?_
  have hu:=aV hr
  have ff:=Qy (aV hr)
  have hsz:sizeLine=16777216:=QM
  have aa':=tn.pos
  have aba:=tn.few
  refine ⟨_,(aE (aQ (i:=3) gI.nd rfl (Or.inl rfl) (bQ aT (hr.mono (by decide)) (aD (zv 0) (aF aH aC))))
   (aE (eG (aU o5 (zv 3) aH (h_ _)) (aG (bE (bB (bC K) (bS (bH (bI (aF aY aC)) (bH (bI (aF aY aC)) aC))) (zv 3) (fun _ _=>rfl)))) cH)
   (aE (eG (UK (aU (dY ff) (zv 3) aH (h_ _)) (UJ (aU xL (zv 2) aH (h_ _)))).pt (aG (bE (bI (aF aY (aN (bB (bC K) (zv 1) (bQ aT (hr.mono (by decide)) (aD (zv 0) (aD (zv 2) aC))) (fun _ _=>rfl)) aC))))) cH)
   (aE (eG (aU o5 (zv 3) aH (h_ _)) (aE (aQ (i:=4) gI.nd rfl (Or.inl rfl) (bB (bC K) (zv 1) (bQ aT (hr.mono (by decide)) (aD (zv 0) (aX (cE (bL K) (by rfl) T.vt PySem.boot_len (aD (zv 1) aC)) aC))) (fun _ _=>rfl)))
   (aG (bE (bI (aF aY (aD (zv 4) (aN (bB (bC K) (zv 1) (bQ aT (hr.mono (by decide)) (aD (zv 0) (aX (cE (bL K) (by rfl) T.vt PySem.boot_len (aD (zv 1) aC)) aC))) (fun _ _=>rfl)) aC))))))) cH)
   (aG (bE (bI (aN (bB (bC K) (bS (aF aY (aF aY aC))) (cM eX (zv 3) aH) (fun _ _=>rfl)) (aX (cJ (dW K) (by rfl) T.gQ QH (gJ (nU (own:=["_law_word"]) (idx:=[0,1]) (N':=["_law_word","_law_pen","_law_names"]) (cZ (a_ fP) (["_law_pen","_law_names","_law_ahead","_law_way","_law_one"]:List Str) (by decide+kernel)) rfl (jT K (bQ qT (hr.mono (by decide)) (aD (zv 0) aC))) (fun _ _ _ _ _ _=>(aI (i:=0) (show List.Nodup (["_law_word","_law_pen","_law_names"]:List Str) by decide+kernel) rfl (Or.inl rfl))) (fun _ _ _ _ _ _=>dL) (fun _ _ _ _ _ _=>(bI (aD (zv 0) (aN (bB (bC K) (zv 2) (bQ aT (hr.mono (by decide)) (aD (zv 1) (aX (cE (bL K) (by rfl) T.vt PySem.boot_len (aD (zv 2) aC)) aC))) (fun _ _=>rfl)) aC))))) aC)) aC))))))))),?_⟩
  refine aJ ⟨H0,p,10,t,rfl,hn,⟨by decide,by decide⟩,by omega,fun wy H1 w0 w1 hn1 yj=>?_⟩
  have G6:=tn.nx hn yj
  refine aO (fun σ' H'=>σ'=[some (.ref p),some (.ref nm),some (.int (ka:Int)),some (.int wy),none]/\H1=H') ?_ ?_
  ·intro nx bx
   refine ⟨_,rfl,f_ (fun c1=>?_) (fun c1=>bx _ _ ⟨rfl,rfl⟩)⟩
   have Ji:wy < 2:=Qt c1
   refine ⟨(show 1<=sizeLine by decide),fun q1 ly=>⟨(show 1<=sizeLine by decide),fun q2 nq=>⟨(show 2<=sizeLine by decide),fun O hO=>?_⟩⟩⟩
   have s1:=aa.upd ly (.tup [.str "all"])
   have s2:=aa.upd nq (.tup [.str "none"])
   have s3:=aa.upd hO (.lst [.ref q1,.ref q2])
   have sA:=(s1.trans s2).trans s3
   have g1:=s3 _ _ (s2 _ _ (aA:upd H1 q1 (.tup [.str "all"]) q1=some (.tup [.str "all"])))
   have g2:=s3 _ _ (aA:upd (upd H1 q1 (.tup [.str "all"])) q2 (.tup [.str "none"]) q2=some (.tup [.str "none"]))
   rcases (show wy=0\/wy=1 by omega) with rfl | rfl
   ·exact ⟨_,.ref q1,.inl (af.of aA),rfl,k _ _ (Vl g1 (fun _ h=>nomatch h)) ((hn1.same sA).mono (by omega)) (yj.trans sA.sm)⟩
   ·exact ⟨_,.ref q2,.inl (af.of aA),rfl,k _ _ (xW g2 (fun _ h=>nomatch h)) ((hn1.same sA).mono (by omega)) (yj.trans sA.sm)⟩
  rintro σ' H' ⟨rfl,rfl⟩
  refine aO (fun σ' H'=>σ'=[some (.ref p),some (.ref nm),some (.int (ka:Int)),some (.int wy),none]/\H1=H') ?_ ?_
  ·intro nx bx
   refine ⟨rfl,_,rfl,f_ (fun h2=>⟨_,rfl,f_ (fun h3=>?_) (fun _=>bx _ _ ⟨rfl,rfl⟩)⟩) (fun h2=>f_ (fun c=>absurd c (by decide)) fun _=>bx _ _ ⟨rfl,rfl⟩)⟩
   have h3':(0:Int) < (ka:Int):=Qt h3
   refine ⟨H0,p,(ka:Int),_,rfl,hn1,⟨by omega,by omega⟩,by omega,fun r H2 r0 r1 hn2 zl=>?_⟩
   have CB:=G6.nx hn1 zl
   obtain ⟨y,JT,DT,XD⟩:=CB.at r r0 (by omega)
   refine ⟨_,_,.inl (af.of CB.e),JT,(show 2<=sizeLine by decide),fun c hc=>?_⟩
   refine k _ _ (Vk aA (G5 _ (QD DT)) (QD DT) (fun y' e=>?_)) ((hn2.same (aa.upd hc _)).mono (by omega)) ((yj.trans zl).trans (aa.upd hc _).sm)
   cases e
   exact ⟨r.toNat,by omega,DT⟩
  rintro σ' H' ⟨rfl,rfl⟩
  refine aO (fun σ' H'=>σ'=[some (.ref p),some (.ref nm),some (.int (ka:Int)),some (.int wy),none]/\H1=H') ?_ ?_
  ·intro nx bx
   refine ⟨_,rfl,f_ (fun c1=>?_) (fun c1=>bx _ _ ⟨rfl,rfl⟩)⟩
   refine aJ (.inl ⟨_,.inl (af.of G6.e),H0,p,_,_,rfl,hn1,⟨by rw [Ql];omega,by rw [Ql];omega⟩,by omega,fun r H2 r0 r1 hn2 zl=>?_⟩)
   rw [Ql] at r1
   have CB:=G6.nx hn1 zl
   obtain ⟨x,XE,NX,hxw⟩:=CB.at r r0 r1
   refine ⟨_,_,.inl (af.of CB.e),XE,.inl ⟨_,.inl (af.of CB.e),H0,p,_,_,rfl,hn2,⟨by rw [Ql];omega,by rw [Ql];omega⟩,by omega,fun r2 H3 b0 b1 qh oj=>?_⟩⟩
   rw [Ql] at b1
   have Fl:=CB.nx hn2 oj
   obtain ⟨y,JT,DT,XD⟩:=Fl.at r2 b0 b1
   refine ⟨_,_,.inl (af.of Fl.e),JT,(show 3<=sizeLine by decide),fun b hb=>?_⟩
   exact k _ _ (Vm aA (G5 _ (QD NX)) (G5 _ (QD DT)) (QD NX) (QD DT) (fun _ h=>nomatch h)) ((qh.same (aa.upd hb _)).mono (by omega)) (((yj.trans zl).trans oj).trans (aa.upd hb _).sm)
  rintro σ' H' ⟨rfl,rfl⟩
  refine ⟨(show 2<=sizeLine by decide),fun O hO=>?_⟩
  have sO:=aa.upd hO (.lst [.str "box",.str "pick"])
  have gO:upd H1 O (.lst [.str "box",.str "pick"]) O=some (.lst [.str "box",.str "pick"]):=aA
  have G7:=hn1.same sO
  have NY:=G6.same sO
  have NZ:=yj.trans sO.sm
  dsimp only
  generalize upd H1 O (.lst [.str "box",.str "pick"])=H2 at sO gO G7 NY NZ
  obtain ⟨so,hat,XF⟩:∃ so:Str,nc [V.str "box",V.str "pick"] (wy % 2)=some (.str so)/\(so="box"\/so="pick"):=by
   rcases (show wy % 2=0\/wy % 2=1 by omega) with e | e
   ·rw [e];exact ⟨"box",rfl,.inl rfl⟩
   ·rw [e];exact ⟨"pick",rfl,.inr rfl⟩
  refine ⟨(show (0:Int) < 2 by decide),_,_,.inl (af.of gO),hat,H0,p,_,rfl,G7,by omega,fun D os H3 yi q1 wn q5 oj=>?_⟩
  have q6:Sm p p H H3:=NZ.trans oj
  have Fl:=NY.nx G7 oj
  have Fe:=wn.len
  have qf:D≠p:=G7.ne yi
  refine Or.inl ⟨⟨_,af.of q1⟩,fun D2 yk=>?_⟩
  have Fo:D2≠p:=q5.ne yk
  have N1:D2≠D:=fun e=>by rw [e,q1] at yk;cases yk
  have N4:H D2=none:=q6.free yk Fo Fo
  have f2:H0 D2=none:=q5.free yk
  have XG:D2≠nm:=fun e=>by rw [e,Fl.e] at yk;cases yk
  refine gZ (bN (os.map V.str)) (fun i τ H3=>∃ (v:Option V) (xs:List V) (rs:List (Str×V)),τ=[v,some (.ref p),some (.ref nm)]/\H3 D2=some (.lst xs)/\iy H3 xs (bh rs)/\rs.map (·.1)=os.take i/\(∀ r∈rs,∃ y,r.2=.str y/\y∈ns/\Wd y)/\H3 D=some (.lst (os.map V.str))/\b_ K H0 H3 p (t+1+5+i)/\Sm p p H H3/\qg H3 nm ns)
   ⟨none,[],[],rfl,aA,jC,rfl,(fun _ h=>nomatch h),by rw [aB N1.symm];exact q1,(q5.same (aa.upd yk _)).mono (by omega),q6.upd N4,Fl.same (aa.upd yk _)⟩ (by rintro i τ H2 _ ⟨_,_,_,_,_,_,_,_,q,_⟩;exact af.of q) ?_ ?_
  ·rintro i τ H4 hi z0;refine hdn fun Gz9 zG9=>?_;obtain ⟨v,xs,rs,rfl,r1,r2,Bl,r3,r4,r5,r6,CC⟩:=z0;refine zG9 ?_
   rw [Ql] at hi
   rw [g9 os i hi]
   have DS:os.take (i+1)=os.take i++[os.getD i ""]:=by
    rw [Qs,Qb,Qa hi];rfl
   generalize os.getD i ""=z at DS
   have Dl:rs.length=i:=by have:=congrArg List.length Bl;simp at this;omega
   have A5:xs.length=i:=by have:=r2.1;simp at this;omega
   refine .inl ⟨_,.inl (af.of CC.e),H0,p,_,t+1+5+i,rfl,r5,⟨by rw [Ql];omega,by rw [Ql];omega⟩,by omega,fun r H5 a0 a1 XH Bm=>?_⟩
   rw [Ql] at a1
   have vy:=CC.nx r5 Bm
   obtain ⟨n,Bo,DU,JU⟩:=vy.at r a0 a1
   refine ⟨_,_,.inl (af.of vy.e),Bo,(show 2<=sizeLine by decide),fun b hb=>?_⟩
   have g1:=Bm _ _ r1 Fo Fo
   have g4:=Bm _ _ r4 qf qf
   have JV:D2≠b:=aL g1 hb
   have XI:D≠b:=aL g4 hb
   have Fp:Tk H4 H5:=r5.ts Bm
   have vz:Tk H4 (upd (upd H5 b (.tup [.str z,.str n])) D2 (.lst (xs++[.ref b]))):=(Fp.trans (aa.upd hb _).ts).set (by rw [aB JV];exact g1) (by intro _ z;cases z)
   have XJ:upd (upd H5 b (.tup [.str z,.str n])) D2 (.lst (xs++[.ref b])) b=some (.tup [.str z,.str n]):=by rw [aB JV.symm];exact aA
   have XM:qg (upd (upd H5 b (.tup [.str z,.str n])) D2 (.lst (xs++[.ref b]))) nm ns:=⟨by rw [aB XG.symm];exact (aa.upd hb _) _ _ vy.e,vy.ne,vy.few,vy.wd⟩
   refine ⟨xs,by rw [aB JV];exact g1,by omega,_,xs++[.ref b],rs++[(z,.str n)],rfl,aA,iA (r2.ts vz) XJ,by rw [Qm,Bl,DS];rfl,fun r' fb=>?_,by rw [aB N1.symm,aB XI];exact g4,((XH.same (aa.upd hb _)).put Fo f2),((r6.trans Bm).trans (aa.upd hb _).sm).upd N4,XM⟩
   rcases List.mem_append.mp fb with hx | hx
   ·exact r3 r' hx
   ·rw [List.mem_singleton.mp hx]
    exact ⟨n,rfl,QD DU,JU⟩
  ·rintro τ H4 z0;refine hdn fun Gz9 zG9=>?_;obtain ⟨v,xs,rs,rfl,r1,r2,Bl,r3,r4,r5,r6,CC⟩:=z0;refine zG9 ?_
   rw [Ql] at Bl r5
   rw [Qo] at Bl
   have Dl:rs.length=os.length:=by rw [<- Bl,Ql]
   have A5:xs.length=os.length:=by have:=r2.1;simp at this;omega
   refine ⟨D2,xs,rfl,.inl ⟨af.of r1,fun c hc=>⟨(show 2<=sizeLine by decide),fun b hb=>?_⟩⟩⟩
   have s5:=aa.upd hc (.tup xs)
   have s6:=aa.upd hb (.tup [.str so,.ref c])
   have gc:=s6 _ _ (aA:upd H4 c (.tup xs) c=some (.tup xs))
   have jf:∀ r'∈rs,r'.1∈os:=fun r' fb=>by rw [<- Bl];exact List.mem_map.mpr ⟨r',fb,rfl⟩
   have tk:=s5.ts.trans s6.ts
   have XN:=Vf (r2.ts tk) (fun r' fb=>(NS _ (wn.ww _ (jf r' fb))).1) (fun r' fb=>by obtain ⟨y,e1,e2,_⟩:=r3 r' fb;exact ⟨y,e1,e2,G5 y e2⟩) (by rw [Bl];exact wn.B9)
   exact k _ _ (qX XF aA gc (by omega) XN (fun q hq=>by obtain ⟨q',lq,rfl⟩:=List.mem_map.mp hq;exact wn.ww _ (jf q' lq)) (fun _ h=>nomatch h)) ((r5.same (s5.trans s6)).mono (by omega)) (r6.trans (s5.trans s6).sm)
def N8:List Str:=["x","xa","xb","y","ya","z","ka","kb"]
theorem pU:∀ z∈N8,isName z=true/\Wd z:=fun z hz=>by
 simp only [N8,Qp,QB,or_false] at hz
 rcases hz with rfl | rfl | rfl | rfl | rfl | rfl | rfl | rfl<;>exact ⟨by decide+kernel,fK (by decide) (by decide)⟩
theorem XO:N8.Nodup:=by decide+kernel
theorem uP {ys:List V} {l:List Str} (h:ys.Perm (l.map V.str)):∃ zs:List Str,zs.Perm l/\ys=zs.map V.str:=by
 refine ⟨ys.map B_,?_,?_⟩
 ·have:=h.map B_
  rw [Qn] at this
  have e:(B_∘V.str)=(id:Str->Str):=rfl
  rw [e,List.map_id] at this
  exact this
 ·rw [Qn]
  have:∀ y∈ys,(V.str∘B_) y=y:=fun y hy=>by
   obtain ⟨z,_,rfl⟩:=List.mem_map.mp (h.mem_iff.mp hy)
   rfl
  rw [List.map_congr_left this,List.map_id']
theorem pH {β:Type} {R:α->β->Prop} {xs ys:List α} (p:ys.Perm xs):∀ {rs:List β},Paired R xs rs->∃ rs',rs'.Perm rs/\Paired R ys rs':=by
 induction p with
 | nil=>intro rs h;cases h;exact ⟨[],.refl _,.nil⟩
 | cons x p ih=>
  intro rs h
  cases h with
  | cons a b=>
   obtain ⟨rs',q1,q2⟩:=ih b
   exact ⟨_::rs',q1.cons _,.cons a q2⟩
 | swap x y l=>
  intro rs h
  cases h with
  | cons a h=>
   cases h with
   | cons b h=>exact ⟨_::_::_,.swap _ _ _,.cons b (.cons a h)⟩
 | trans p1 p2 XQ XR=>
  intro rs h
  obtain ⟨r1,a1,b1⟩:=XR h
  obtain ⟨r2,a2,b2⟩:=XQ b1
  exact ⟨r2,a2.trans a1,b2⟩
theorem iL {α β γ:Type} {R:α->β->Prop} {g:γ->β}:∀ {xs:List α} {rs:List γ},Paired R xs (rs.map g)->Paired (fun x r=>R x (g r)) xs rs
 | [],[],.nil=>.nil
 | _::_,_::_,.cons a b=>.cons a (iL b)
theorem lW {α β γ:Type} {R:α->β->Prop} {g:γ->β}:∀ {xs:List α} {rs:List γ},Paired (fun x r=>R x (g r)) xs rs->Paired R xs (rs.map g)
 | [],[],.nil=>.nil
 | _::_,_::_,.cons a b=>.cons a (lW b)
theorem lL {xs ys:List V} {rs:List (Str×V)} (h:iy H xs (bh rs)) (p:ys.Perm xs):∃ rs',rs'.Perm rs/\iy H ys (bh rs'):=by
 obtain ⟨rs',q1,q2⟩:=pH p (iL (fN.mp h))
 exact ⟨rs',q1,fN.mpr (lW q2)⟩
def N5 (K:Q1):Sp:=fun vs H Q _=>∃ (H0:Hp) (p:Addr) (most:Int) (t:Nat),vs=[.ref p,.int most]/\b_ K H0 H p t/\t+600 < 900000/\(1<=most/\most<=8)/\
 ∀ (a:Addr) (xs:List V) (rows:List ak) (ns:List Str) (H':Hp),RT H' a xs rows ns WW->(ns.length:Int)<=most->(∀ n∈ns,n∈N8)->b_ K H0 H' p (t+600)->Sm p p H H'->Q (.ref a) H'
theorem m5 (T:Txt K mg w):bj P w K mg base 5 "_law_telling" ["_law_pen","_law_most"] (N5 K):=by
 have aT:bj P w K mg base 2 "_law_next" ["_law_pen","_law_many"] (Bk K):=cK T
 have dN:bj P w K mg base 3 "_law_turned" ["_law_pen","_law_some"] (JR K):=gY T
 have rK:bj P w K mg base 4 "_law_head" ["_law_pen","_law_names","_law_ahead"] (NW K):=pX T
 refine T.mF.gg cG (fun vs H Q E h=>?_) (fun f ay A outer s H vs Q E hr h=>?_)
 ·obtain ⟨H0,p,most,t,rfl,_⟩:=h
  rfl
 ·refine hdn fun Gz9 zG9=>?_;obtain ⟨H0,p,most,t,rfl,hn,ht,⟨Fi,JW⟩,k⟩:=h;refine zG9 ?_
  have hu:=aV hr
  have ff:=Qy (aV hr)
  have hsz:sizeLine=16777216:=QM
  refine ⟨_,(aE (aQ (i:=2) cG.nd rfl (Or.inl rfl) (cM cL aH (bQ aT (hr.mono (by decide)) (aD (zv 0) (aD (zv 1) aC)))))
   (aE (aQ (i:=3) cG.nd rfl (Or.inl rfl) (iU (xP K) (bQ dN (hr.mono (by decide)) (aD (zv 0) (tK (bS (aF aY (aF aY (aF aY (aF aY (aF aY (aF aY (aF aY (aF aY aC))))))))) aC))) iV (iR (zv 2))))
   (aE (aQ (i:=4) cG.nd rfl (Or.inl rfl) (bS aC))
   (aE (cU PassesOwn.never rfl (lI (by rfl) T.oG (aD (zv 2) aC)) (aI (i:=5) cG.nd rfl (Or.inl rfl)) (aG (bO (iB K QJ QK QL aZ (zv 4) (bH (bI (aN (bB (bC K) (zv 3) (zv 5) (fun _ _=>rfl)) (aX (bQ rK (hr.mono (by decide)) (aD (zv 0) (aD (zv 3) (aD (zv 5) aC)))) aC))) aC)))))
   (aG (bE (cJ (dW K) (by rfl) T.gQ QH (aX (bQ dN (hr.mono (by decide)) (aD (zv 0) (aD (zv 4) aC))) aC)))))))),?_⟩
  refine aJ ⟨H0,p,most,t,rfl,hn,⟨by omega,by omega⟩,by omega,fun r H1 r0 r1 hn1 yj=>?_⟩
  obtain ⟨i0,rfl⟩:∃ i:Nat,r=(i:Int):=⟨r.toNat,by omega⟩
  refine aJ ⟨(show 8<=sizeLine by decide),fun l1 fj=>?_⟩
  have s1:=aa.upd fj (.lst (N8.map V.str))
  have g1:upd H1 l1 (.lst (N8.map V.str)) l1=some (.lst (N8.map V.str)):=aA
  have hn2:=hn1.same s1
  have zl:=yj.trans s1.sm
  refine ⟨H0,p,l1,N8.map V.str,_,rfl,hn2,by omega,.inl (af.of g1),(by decide),fun L ys H2 hL gL pm qh oj=>?_⟩
  obtain ⟨zs,JX,rfl⟩:=uP pm
  have G3:=zl.trans oj
  have JY:zs.length=8:=JX.length_eq
  refine ⟨1+(i0:Int),rfl,Or.inr (Or.inl ⟨L,zs.map V.str,rfl,af.of gL,fun N hN=>?_⟩)⟩
  have XS:oz (zs.map V.str) none (some (1+(i0:Int)))=(zs.take (1+i0)).map V.str:=by
   rw [show (1+(i0:Int))=((1+i0:Nat):Int) by omega,zI,List.map_take]
  rw [XS]
  have sN:=aa.upd hN (.lst ((zs.take (1+i0)).map V.str))
  have gN:upd H2 N (.lst ((zs.take (1+i0)).map V.str)) N=some (.lst ((zs.take (1+i0)).map V.str)):=aA
  have qe:=qh.same sN
  have JZ:=G3.trans sN.sm
  generalize upd H2 N (.lst ((zs.take (1+i0)).map V.str))=H3 at sN gN qe JZ
  have J3:(zs.take (1+i0)).length=1+i0:=by rw [List.length_take];omega
  have Fq:∀ n∈zs.take (1+i0),n∈N8:=fun n hn=>JX.mem_iff.mp (List.mem_of_mem_take hn)
  have N6:(zs.take (1+i0)).Nodup:=(JX.nodup_iff.mpr XO).sublist (List.take_sublist _ _)
  generalize zs.take (1+i0)=ns at gN J3 Fq N6
  have tn:qg H3 N ns:=⟨gN,by intro e;rw [e] at J3;simp at J3;omega,by omega,fun n hn=>(pU n (Fq n hn)).2⟩
  refine aJ ⟨(show 0<=sizeLine by decide),fun R hR=>?_⟩
  have Az:R≠p:=qe.ne hR
  have XT:R≠N:=fun e=>by rw [e,gN] at hR;cases hR
  have Ft:H R=none:=JZ.free hR Az Az
  have fR:H0 R=none:=qe.free hR
  have sR:=aa.upd hR (.lst [])
  refine aO (fun σ' H'=>∃ (v5:Option V) (xs:List V) (rs:List (Str×V)),σ'=[some (.ref p),some (.int most),some (.int (1+(i0:Int))),some (.ref N),some (.ref R),v5]/\H' R=some (.lst xs)/\iy H' xs (bh rs)/\rs.map (·.1)=ns/\lz H' ns WW rs/\b_ K H0 H' p (t+101+20*8)/\Sm p p H H') ?_ ?_
  ·intro nx bx
   refine ⟨1+(i0:Int),rfl,by omega,by omega,cB (jQ 0 (1+(i0:Int)).toNat) (fun i σ' H'=>∃ (v5:Option V) (xs:List V) (rs:List (Str×V)),σ'=[some (.ref p),some (.int most),some (.int (1+(i0:Int))),some (.ref N),some (.ref R),v5]/\H' R=some (.lst xs)/\iy H' xs (bh rs)/\rs.map (·.1)=ns.take i/\lz H' ns WW rs/\qg H' N ns/\b_ K H0 H' p (t+101+20*i)/\Sm p p H H')
    ⟨none,[],[],rfl,aA,jC,rfl,⟨(fun _ h=>nomatch h),(fun _ h=>nomatch h)⟩,tn.same sR,(qe.same sR).mono (by omega),JZ.trans sR.sm⟩ (fun _ _ _ _ _=>True.intro) ?_ ?_⟩
   ·rintro i σ' H4 hi z0;refine hdn fun Gz9 zG9=>?_;obtain ⟨v5,xs,rs,rfl,q1,q2,q3,q4,CC,q6,q7⟩:=z0;refine zG9 ?_
    have ip:i < ns.length:=by omega
    have e0:(0+(i:Int))=(i:Int):=by omega
    rw [e0]
    have DU:ns[i]? =some ns[i]:=Qa ip
    have N7:ns[i]∈ns:=Qj ip
    generalize ns[i]=nm at DU N7
    have A5:xs.length=i:=by
     have h1:=q2.1
     have h2:=congrArg List.length q3
     simp at h1 h2
     omega
    refine ⟨.inl ⟨rfl,_,af.of q1⟩,_,.str nm,.inl (af.of CC.e),gT (by rw [Qq,DU];rfl),H0,p,N,i,_,ns,rfl,q6,by omega,CC,(fun z hz=>(pU z (Fq z hz)).1),by omega,fun hv H5 hg ud jb=>⟨(show 2<=sizeLine by decide),fun c hc=>?_⟩⟩
    have g4:H5 R=some (.lst xs):=jb _ _ q1 Az Az
    have vy:=CC.nx q6 jb
    have J7:R≠c:=aL g4 hc
    refine ⟨R,xs,.ref c,rfl,rfl,by rw [aB J7];exact g4,by omega,?_⟩
    have DW:Tk H5 (upd (upd H5 c (.tup [.str nm,hv])) R (.lst (xs++[.ref c]))):=((aa.upd hc _).ts).set (by rw [aB J7];exact g4) (by intro _ z;cases z)
    have XU:upd (upd H5 c (.tup [.str nm,hv])) R (.lst (xs++[.ref c])) c=some (.tup [.str nm,hv]):=by rw [aB J7.symm];exact aA
    have N9:=(q6.ts jb).trans DW
    refine ⟨_,xs++[.ref c],rs++[(nm,hv)],rfl,aA,iA (q2.ts N9) XU,?_,?_,⟨by rw [aB XT.symm,aB (aL vy.e hc)];exact vy.e,vy.ne,vy.few,vy.wd⟩,((ud.same (aa.upd hc _)).put Az fR).mono (by omega),((q7.trans jb).trans (aa.upd hc _).sm).upd Ft⟩
    ·rw [Qm,q3,Qs,DU];rfl
    ·have:=((q4.tk N9).add (n:=nm) (v:=hv) N7 ((hg.tk DW).imp fun o h y e=>by obtain ⟨i',h1,h2⟩:=h y e;exact ⟨i',i,h1,h2,DU⟩))
     exact this.perm fun r hr=>by
      rcases List.mem_append.mp hr with hr | hr
      ·exact Qh _ hr
      ·rw [List.mem_singleton.mp hr];exact List.mem_cons_self
   ·rintro σ' H' z0;refine hdn fun Gz9 zG9=>?_;obtain ⟨v5,xs,rs,rfl,q1,q2,q3,q4,q5,q6,q7⟩:=z0;refine zG9 ?_
    have en:(1+(i0:Int)).toNat=ns.length:=by omega
    rw [en,Qo] at q3
    exact bx _ _ ⟨v5,xs,rs,rfl,q1,q2,q3,q4,q6.mono (by omega),q7⟩
  ·rintro σ' H4 z0;refine hdn fun Gz9 zG9=>?_;obtain ⟨v5,xs,rs,rfl,q1,q2,q3,q4,q6,q7⟩:=z0;refine zG9 ?_
   have Dl:rs.length=ns.length:=by rw [<- q3,Ql]
   have A5:xs.length=rs.length:=by have:=q2.1;simpa using this
   refine ⟨H0,p,R,xs,_,rfl,q6,by omega,.inl (af.of q1),by omega,fun L2 ys H5 XW J8 J9 ud jb=>⟨L2,ys,rfl,.inl ⟨af.of J8,fun a ha=>?_⟩⟩⟩
   have s6:=aa.upd ha (.tup ys)
   have vz:=(q6.ts jb).trans s6.ts
   obtain ⟨rs',pr,pa⟩:=lL (q2.ts vz) J9
   obtain ⟨rows,rt⟩:=RT.of aA pa (by rw [<- q3];exact pr.map _) N6 (fun n hn=>pU n (Fq n hn)) (by omega) (by omega) ((q4.tk vz).perm fun r hr=>pr.mem_iff.mp hr)
   exact k a _ rows ns _ rt (by omega) Fq ((ud.same s6).mono (by omega)) ((q7.trans jb).trans s6.sm)
theorem J_ {rs:List (Str×V)} (i:Nat) (h:i < (bh rs).length) (h':i < rs.length):(bh rs)[i]=(Sum.inr rs[i].1,rs[i].2):=by simp [bh]
def N_ (H:Hp) (a:Addr) (xs:List V) (rs:List (Str×V)):Prop:=H a=some (.tup xs)/\iy H xs (bh rs)/\rs.length<=1000
def Oa:Sp:=fun vs H Q _=>∃ (a:Addr) (xs:List V) (rs:List (Str×V)),vs=[.ref a]/\N_ H a xs rs/\∀ d,H d=none->Q (.ref d) (upd H d (.dK (dictOf (bh rs))))
theorem oW (T:Txt K mg w):bj P w K mg base 1 "heads_of" ["T"] Oa:=by
 refine T.sS.gg qC (fun vs H Q E h=>?_) (fun f ay A outer s H vs Q E hr h=>?_)
 ·obtain ⟨a,xs,rs,rfl,_⟩:=h
  rfl
 ·refine hdn fun Gz9 zG9=>?_;obtain ⟨a,xs,rs,rfl,⟨hx,hp,c_⟩,k⟩:=h;refine zG9 ?_
  refine ⟨_,(aG (bE (zH (own:=["name","head"]) (idx:=[]) (N':=["name","head"]) (cZ (a_ fV) (["T"]:List Str) (by decide+kernel)) rfl (jT K (zv 0)) (fun _ _ _ _ _ _=>(d6 K (n:=2) rfl (aM (aI (i:=0) (show List.Nodup (["name","head"]:List Str) by decide+kernel) rfl (Or.inl rfl)) (aM (aI (i:=1) (show List.Nodup (["name","head"]:List Str) by decide+kernel) rfl (Or.inl rfl)) cC)))) (fun _ _ _ _ _ _=>dL) (fun _ _ _ _ _ _=>(zv 0)) (fun _ _ _ _ _ _=>(zv 1))))),?_⟩
  refine Or.inr ⟨⟨xs,aj.of hx⟩,fun D hD=>?_⟩
  have J:=dD (K:=K) (a:=a) xs
  have hsz:sizeLine=16777216:=QM
  have A5:xs.length=rs.length:=by have:=hp.1;simpa using this
  have sD:∀ o,aa H (upd H D o):=fun o=>aa.upd hD o
  refine ⟨fun i m τ H'=>m=xs.length - i/\i<=xs.length/\(∃ v1 v2,τ=[v1,v2])/\H'=upd H D (.dK (dictOf ((bh rs).take i))),⟨_,rfl,Nat.zero_le _,⟨none,none,rfl⟩,rfl⟩,?_⟩
  rintro i m τ H' ⟨rfl,hi,⟨v1,v2,rfl⟩,rfl⟩
  obtain ⟨k1,k2⟩:=J _ (show aj K (upd H D _) a xs from aj.of (sD _ _ _ hx))
  by_cases au:i < xs.length
  ·have mh:i < rs.length:=by omega
   have t_:i < (bh rs).length:=by simpa using mh
   refine .inr ⟨(k1 i au).1,fun τ' H'=>(∃ v1 v2,τ'=[v1,v2])/\H'=upd H D (.dK (dictOf ((bh rs).take (i+1)))),fun τ' H' ⟨h1,h2⟩=>⟨xs.length - (i+1),by omega,rfl,au,h1,h2⟩,fun x H' y=>?_⟩
   obtain ⟨e,e2⟩:=(k1 i au).2 x H' y
   subst e e2
   obtain ⟨b,IP,ER⟩:=hp.2 i t_
   rw [J_ i t_ mh] at ER
   have eb:xs.getD i .ai=.ref b:=by rw [Qb,IP];rfl
   show AN K 2 _ (xs.getD i .ai) _ _ _
   rw [eb]
   refine ⟨b,_,rfl,aj.of (sD _ _ _ ER),rfl,_,_,rfl,_,_,rfl,rfl,?_⟩
   refine ⟨dictOf ((bh rs).take i),.inr rs[i].1,rfl,aA,?_,⟨_,_,rfl⟩,?_⟩
   ·have:=iC ((bh rs).take i)
    rw [List.length_take] at this
    omega
   ·rw [gX,jU (bh rs) i t_,J_ i t_ mh]
  ·have e:i=xs.length:=by omega
   subst e
   refine .inl ⟨k2,?_⟩
   rw [List.take_of_length_le (by simp;omega)]
   exact k D hD
theorem XX {xs:List V} {rs:List (Str×V)} {nx:Str->Option Str} {ρ:Str->Nat} (g:ph H a xs rs nx ρ):N_ H a xs rs:=⟨g.at_,g.ps,by have:=g.len;omega⟩
def G8:Sp:=fun vs H Q _=>∃ (a:Addr) (xs:List V) (rs:List (Str×V)) (nx:Str->Option Str) (ρ:Str->Nat) (x:Str),vs=[.ref a,.str x]/\ph H a xs rs nx ρ/\x∈rs.map (·.1)/\∀ H',aa H H'->Q (.str (fq nx rs.length x)) H'
def J':Sp:=fun vs H Q _=>∃ (a:Addr) (xs:List V) (rs:List (Str×V)) (nx:Str->Option Str) (ρ:Str->Nat) (x:Str),vs=[.ref a,.str x]/\ph H a xs rs nx ρ/\x∈rs.map (·.1)/\
 ∀ v H',aa H H'->av (dictOf (bh rs)) (.inr (fq nx rs.length x))=some v->Q v H'
theorem dF (T:Txt K mg w):bj P w K mg base 1 "_law_row_here" ["_law_told","_law_name"] G8:=by
 refine T.lS.gg dI (fun vs H Q E h=>?_) (fun f ay A outer s H vs Q E hr h=>?_)
 ·refine hdn fun Gz9 zG9=>?_;obtain ⟨a,xs,rs,nx,ρ,x,rfl,_⟩:=h;refine zG9 ?_
  rfl
 ·refine hdn fun Gz9 zG9=>?_;obtain ⟨a,xs,rs,nx,ρ,x,rfl,g,hx,k⟩:=h;refine zG9 ?_
  have hu:=aV hr
  have ff:=Qy hu
  refine ⟨_,(aE (aQ (i:=2) dI.nd rfl (Or.inl rfl) (cJ (iQ rfl) (by rfl) T.wM PyProof.Rows.boot_dict (aD (zv 0) aC)))
   (aE (iJ PassesOwn.never (aU (dY ff) (bB (bC K) (cW hu (zv 2) (zv 1) (fun _ _=>rfl)) aH (fun _ _=>rfl)) aY (h_ _)) (aG (aQ (i:=1) dI.nd rfl (Or.inl rfl) (bB (bC K) (cW hu (zv 2) (zv 1) (fun _ _=>rfl)) aH (fun _ _=>rfl)))))
   (aG (bE (zv 1))))),?_⟩
  have hsz:sizeLine=16777216:=QM
  have Ob:=g.len
  refine aJ ⟨a,xs,bh rs,rfl,g.at_,g.ps,(by simp;omega),fun d hd=>?_⟩
  have s1:aa H (upd H d (.dK (dictOf (bh rs)))):=aa.upd hd _
  have g1:=g.ts s1.ts
  refine ⟨fun m σ H'=>H'=upd H d (.dK (dictOf (bh rs)))/\∃ y,σ=[some (.ref a),some (.str y),some (.ref d)]/\y∈rs.map (·.1)/\fq nx rs.length y=fq nx rs.length x/\m=ρ y,⟨_,rfl,x,rfl,hx,rfl,rfl⟩,?_⟩
  rintro m σ H' ⟨rfl,y,rfl,hy,he,rfl⟩
  obtain ⟨v,hv,sr⟩:=g1.get hy
  have CD:dj (upd H d (.dK (dictOf (bh rs)))) d (.str y) (some v):=by
   rw [<- sr];exact dj.k (k:=Sum.inr y) aA
  obtain ⟨b,rfl,hb⟩:=g1.as _ hv
  rcases hb with ⟨z,ys,h1,h2,h3⟩ | ⟨z,h1,h3⟩
  ·refine ⟨d,_,rfl,CD,_,.str z,.inr (aj.of h1),aK _ _,rfl,_,rfl,?_⟩
   rw [QF,Qx (fun e=>h2 (V.str.inj e))]
   refine Ai ?_
   have e2:fq nx rs.length y=y:=dB _ h3
   have:=k _ s1
   rw [<- he,e2] at this
   exact this
  ·refine ⟨d,_,rfl,CD,_,.str "as",.inr (aj.of h1),aK _ _,rfl,_,rfl,?_⟩
   refine B0 ?_
   obtain ⟨i1,i2⟩:=g1.ig _ hv z h3
   refine ⟨fun σ' Ay=>∃ m',m' < ρ y/\Ay=upd H d (.dK (dictOf (bh rs)))/\∃ y,σ'=[some (.ref a),some (.str y),some (.ref d)]/\y∈rs.map (·.1)/\fq nx rs.length y=fq nx rs.length x/\m'=ρ y,fun _ _ h=>h,?_⟩
   refine ⟨d,_,rfl,CD,_,.str z,.inr (aj.of h1),rfl,_,i2,rfl,z,rfl,i1,?_,rfl⟩
   rw [<- he]
   exact g1.Mz hy h3
theorem fE (T:Txt K mg w):bj P w K mg base 2 "_law_head_here" ["_law_told","_law_name"] J':=by
 have bR:bj P w K mg base 1 "_law_row_here" ["_law_told","_law_name"] G8:=dF T
 refine T.kL.gg jM (fun vs H Q E h=>?_) (fun f ay A outer s H vs Q E hr h=>?_)
 ·refine hdn fun Gz9 zG9=>?_;obtain ⟨a,xs,rs,nx,ρ,x,rfl,_⟩:=h;refine zG9 ?_
  rfl
 ·refine hdn fun Gz9 zG9=>?_;obtain ⟨a,xs,rs,nx,ρ,x,rfl,g,hx,k⟩:=h;refine zG9 ?_
  have hu:=aV hr
  have hsz:sizeLine=16777216:=QM
  have Ob:=g.len
  refine ⟨_,(aG (bE (cW hu (cJ (iQ rfl) (by rfl) T.wM PyProof.Rows.boot_dict (aD (zv 0) aC)) (bQ bR (hr.mono (by decide)) (aD (zv 0) (aD (zv 1) aC))) (fun _ _=>rfl)))),?_⟩
  refine ⟨a,xs,bh rs,rfl,g.at_,g.ps,(by simp;omega),fun d hd=>?_⟩
  have s1:aa H (upd H d (.dK (dictOf (bh rs)))):=aa.upd hd _
  refine ⟨a,xs,rs,nx,ρ,x,rfl,g.ts s1.ts,hx,fun H' s2=>?_⟩
  obtain ⟨v,hv,sr⟩:=g.get (g.A4 hx).1
  refine ⟨d,v,rfl,?_,k v _ (s1.trans s2) sr⟩
  rw [<- sr];exact dj.k (k:=Sum.inr (fq nx rs.length x)) (s2 _ _ aA)
def Oc:Sp:=fun vs H Q _=>∃ (a:Addr) (xs:List V) (rows:List ak) (ns ws:List Str) (x:Str),vs=[.ref a,.str x]/\RT H a xs rows ns ws/\(∀ z∈ws,Wd z)/\x∈ns/\
 ∀ (L:Addr) (us:List V) (H':Hp),H L=none->aa H H'->H' L=some (.lst us)->MV H' us (bq rows x)->Q (.ref L) H'
theorem vS (T:Txt K mg w):bj P w K mg base 3 "_law_on" ["_law_told","_law_name"] Oc:=by
 have bR:bj P w K mg base 1 "_law_row_here" ["_law_told","_law_name"] G8:=dF T
 have cQ:bj P w K mg base 2 "_law_head_here" ["_law_told","_law_name"] J':=fE T
 refine T.xJ.gg dX (fun vs H Q E h=>?_) (fun f ay A outer s H vs Q E hr h=>?_)
 ·refine hdn fun Gz9 zG9=>?_;obtain ⟨a,xs,rows,ns,ws,x,rfl,_⟩:=h;refine zG9 ?_
  rfl
 ·refine hdn fun Gz9 zG9=>?_;obtain ⟨a,xs,rows,ns,ws,x,rfl,rt,hw,hx,k⟩:=h;refine zG9 ?_
  have hu:=aV hr
  have ff:=Qy (aV hr)
  have hsz:sizeLine=16777216:=QM
  obtain ⟨rs,g,nm,rl,sr⟩:=rt.good hw
  have hm:∀ z,z∈ns↔z∈rs.map (·.1):=fun z=>by rw [nm];exact rt.nm.mem_iff.symm
  obtain ⟨e1,e2,e3⟩:=rt.A4 hw hx
  have few:=rt.few
  refine ⟨_,(aE (aQ (i:=2) dX.nd rfl (Or.inl rfl) (bQ cQ (hr.mono (by decide)) (aD (zv 0) (aD (zv 1) aC))))
   (aE (eG (aU (dY ff) (bB (bC K) (zv 2) aH (fun _ _=>rfl)) aY (h_ _)) (aG (aQ (i:=3) dX.nd rfl (Or.inl rfl) (bS (bH (bI (bH (bI (aF aY aC)) (aN (bB (bC K) (zv 2) aH (fun _ _=>rfl)) aC))) (bH (bI (bH (bI (aF aY aC)) (aN (bB (bC K) (zv 2) aH (fun _ _=>rfl)) aC))) aC))))) (aG (eG (aU (dY ff) (bB (bC K) (zv 2) aH (fun _ _=>rfl)) aY (h_ _)) (aG (IE (i:=3) (own:=["_law_word","_law_other"]) (idx:=[]) (N':=["_law_word","_law_other"]) (cZ (a_ fI) (["_law_told","_law_name","_law_here","_law_found"]:List Str) (by decide+kernel)) rfl (jT K (bB (bC K) (zv 2) aH (fun _ _=>rfl))) (fun _ _ _ _ _ _=>(d6 K (n:=2) rfl (aM (aI (i:=0) (show List.Nodup (["_law_word","_law_other"]:List Str) by decide+kernel) rfl (Or.inl rfl)) (aM (aI (i:=1) (show List.Nodup (["_law_word","_law_other"]:List Str) by decide+kernel) rfl (Or.inl rfl)) cC)))) (fun _ _ _ _ _ _=>dL) (fun _ _ _ _ _ _=>(bI (bH (bI (aF aY (aD (zv 0) aC))) (aD (zv 1) aC)))) dX.nd rfl rfl)) (aG (eG (aU (dY ff) (bB (bC K) (zv 2) aH (fun _ _=>rfl)) aY (h_ _)) (aG (IE (i:=3) (own:=["_law_word","_law_other"]) (idx:=[]) (N':=["_law_word","_law_other"]) (cZ (a_ fI) (["_law_told","_law_name","_law_here","_law_found"]:List Str) (by decide+kernel)) rfl (jT K (bB (bC K) (zv 2) aH (fun _ _=>rfl))) (fun _ _ _ _ _ _=>(d6 K (n:=2) rfl (aM (aI (i:=0) (show List.Nodup (["_law_word","_law_other"]:List Str) by decide+kernel) rfl (Or.inl rfl)) (aM (aI (i:=1) (show List.Nodup (["_law_word","_law_other"]:List Str) by decide+kernel) rfl (Or.inl rfl)) cC)))) (fun _ _ _ _ _ _=>dL) (fun _ _ _ _ _ _=>(bI (bH (bI (aF aY (aD (zv 0) aC))) (aD (zv 1) aC)))) dX.nd rfl rfl)) (aG (aQ (i:=3) dX.nd rfl (Or.inl rfl) (bS aC))))))))
   (aG (bE (nU (own:=["_law_step","_law_other"]) (idx:=[0]) (N':=["_law_step","_law_other","_law_told"]) (cZ (a_ fI) (["_law_told","_law_name","_law_here","_law_found"]:List Str) (by decide+kernel)) rfl (jT K (zv 3)) (fun _ _ _ _ _ _=>(d6 K (n:=2) rfl (aM (aI (i:=0) (show List.Nodup (["_law_step","_law_other","_law_told"]:List Str) by decide+kernel) rfl (Or.inl rfl)) (aM (aI (i:=1) (show List.Nodup (["_law_step","_law_other","_law_told"]:List Str) by decide+kernel) rfl (Or.inl rfl)) cC)))) (fun _ _ _ _ _ _=>dL) (fun _ _ _ _ _ _=>(bI (aD (zv 0) (aX (bQ bR (hr.mono (by decide)) (aD (zv 2) (aD (zv 1) aC))) aC))))))))),?_⟩
  refine aJ ⟨a,xs,rs,_,_,x,rfl,g,(hm x).mp hx,fun v H1 s1 hv=>?_⟩
  have Od:HV H v (aq rows (endOf rows x)):=sr _ v e1 (by rw [rl] at hv;exact hv)
  have hq:=Od.tk s1.ts
  have eo:bq rows x=(aq rows (endOf rows x)).bc.map fun m=>(m.1,endOf rows m.2):=rfl
  generalize aq rows (endOf rows x)=h at e2 e3 hq eo
  clear Od sr hv
  have ig:=rM e3
  refine aO (fun σ' H'=>∃ (F:Addr) (us:List V),σ'=[some (.ref a),some (.str x),some v,some (.ref F)]/\H' F=some (.lst us)/\MV H' us h.bc/\aa H H'/\h.bc.length<=10) ?_ ?_
  ·intro nx bx
   cases hq with
   | @one b s e=>
    have nd:∀ z:Str,z∈(["way","box","pick"]:List Str)->(s==z)=false:=fun z hz=>by
     simp only [Qp,QB,or_false] at hz
     rcases e3 with rfl | rfl<;>rcases hz with rfl | rfl | rfl<;>decide+kernel
    refine ⟨_,.str s,.inr (aj.of e),aK _ _,rfl,_,rfl,f_ (fun c=>?_) (fun _=>⟨_,.str s,.inr (aj.of e),aK _ _,rfl,_,rfl,f_ (fun c=>?_) (fun _=>⟨_,.str s,.inr (aj.of e),aK _ _,rfl,_,rfl,f_ (fun c=>?_) (fun _=>⟨(show 0<=sizeLine by decide),fun F hF=>bx _ _ ⟨F,[],rfl,aA,MV.nil,s1.trans (aa.upd hF _),by show 0<=10;decide⟩⟩)⟩)⟩)⟩
    ·rw [QF,cV,nd "way" (by simp)] at c;cases c
    ·rw [QF,cV,nd "box" (by simp)] at c;cases c
    ·rw [QF,cV,nd "pick" (by simp)] at c;cases c
   | @as b y e=>cases e2
   | @way b y z e=>
    refine ⟨_,.str "way",.inr (aj.of e),aK _ _,rfl,_,rfl,f_ (fun _=>?_) (fun c=>absurd c (by simp))⟩
    refine ⟨(show 1<=sizeLine by decide),fun c1 h1=>?_⟩
    have t1:=aa.upd h1 (.tup [.str "from"])
    refine ⟨_,.str y,.inr (aj.of (t1 _ _ e)),rfl,(show 2<=sizeLine by decide),fun c2 h2=>?_⟩
    have t2:=aa.upd h2 (.tup [.ref c1,.str y])
    refine ⟨(show 1<=sizeLine by decide),fun c3 h3=>?_⟩
    have t3:=aa.upd h3 (.tup [.str "to"])
    refine ⟨_,.str z,.inr (aj.of (t3 _ _ (t2 _ _ (t1 _ _ e)))),rfl,(show 2<=sizeLine by decide),fun c4 h4=>?_⟩
    have t4:=aa.upd h4 (.tup [.ref c3,.str z])
    refine ⟨(show 2<=sizeLine by decide),fun F hF=>?_⟩
    have t5:=aa.upd hF (.lst [.ref c2,.ref c4])
    have g1:=t5 _ _ (t4 _ _ (t3 _ _ (t2 _ _ (aA:upd H1 c1 (.tup [.str "from"]) c1=some (.tup [.str "from"])))))
    have g2:=t5 _ _ (t4 _ _ (t3 _ _ (aA:upd (upd H1 c1 (.tup [.str "from"])) c2 (.tup [.ref c1,.str y]) c2=_)))
    have g3:=t5 _ _ (t4 _ _ (aA:upd (upd (upd H1 c1 (.tup [.str "from"])) c2 (.tup [.ref c1,.str y])) c3 (.tup [.str "to"]) c3=_))
    have g4:=t5 _ _ (aA:upd (upd (upd (upd H1 c1 (.tup [.str "from"])) c2 (.tup [.ref c1,.str y])) c3 (.tup [.str "to"])) c4 (.tup [.ref c3,.str z]) c4=_)
    exact bx _ _ ⟨F,[.ref c2,.ref c4],rfl,aA,(MV.nil.snoc (m:=(["from"],y)) g2 g1).snoc (m:=(["to"],z)) g4 g3,s1.trans (t1.trans (t2.trans (t3.trans (t4.trans t5)))),by show 2<=10;decide⟩
   | @prs b c s ys ps e ec hp=>
    have gf:=hp.len
    have loop:∀ (wd:Str) (D:Ends),D.nx=nx->(wd=if s="box" then ("part":Str) else ("case":Str))->yr (B3 ["_law_word","_law_other"] [] (iD K (mq (A1 K) (tV 2) (tC (V.int 1)))) (AN K 2 (wu (jc 0) (wu (jc 1) CW))) Dc (C3 (gu (C3 (gu (tC (V.str wd)) (gu (tV 0) mw))) (gu (tV 1) mw)))) (jc 3) D [some (.ref a),some (.str x),some (.ref b),none] H1:=by
     intro wd D XY XZ
     refine ⟨_,.ref c,.inr (aj.of e),rfl,Or.inr ⟨⟨ys,aj.of ec⟩,fun L hL=>?_⟩⟩
     refine gZ (dD ys) (fun i τ H'=>∃ (v0 v1:Option V) (zs:List V),τ=[v0,v1]/\H' L=some (.lst zs)/\MV H' zs ((ps.take i).map fun p=>([wd,p.1],p.2))/\aa H1 H') ⟨none,none,[],rfl,aA,MV.nil,aa.upd hL _⟩ (by rintro i τ H' _ ⟨_,_,_,_,_,_,s⟩;exact aj.of (s _ _ ec)) ?_ ?_
     ·rintro i τ H3 hi ⟨v0,v1,zs,rfl,q1,q2,q3⟩
      have yl:i < ps.length:=by omega
      have abd:=e3.2.2.2
      obtain ⟨d,r1,r2⟩:=hp.at_ i hi yl
      have eg:ys.getD i .ai=.ref d:=by rw [Qb,Qa hi,r1];rfl
      rw [eg]
      refine fJ (q3 _ _ r2) ?_
      have JY:zs.length=i:=by have:=q2.len;simp at this;omega
      refine ⟨(show 2<=sizeLine by decide),fun c1 h1=>⟨(show 2<=sizeLine by decide),fun c2 h2=>?_⟩⟩
      have t1:=aa.upd h1 (.tup [.str wd,.str ps[i].1])
      have t2:=aa.upd h2 (.tup [.ref c1,.str ps[i].2])
      have g1:=t2 _ _ (aA:upd H3 c1 (.tup [.str wd,.str ps[i].1]) c1=some (.tup [.str wd,.str ps[i].1]))
      have g2:upd (upd H3 c1 (.tup [.str wd,.str ps[i].1])) c2 (.tup [.ref c1,.str ps[i].2]) c2=some (.tup [.ref c1,.str ps[i].2]):=aA
      dsimp only
      have sA:=t1.trans t2
      generalize upd (upd H3 c1 (.tup [.str wd,.str ps[i].1])) c2 (.tup [.ref c1,.str ps[i].2])=H5 at sA g1 g2
      have gD:=sA _ _ q1
      have tk:Tk H5 (upd H5 L (.lst (zs++[.ref c2]))):=(Tk.refl).set gD (by intro _ z;cases z)
      refine ⟨zs,gD,by omega,_,_,zs++[.ref c2],rfl,aA,?_,(q3.trans sA).put hL⟩
      have et:(ps.take (i+1)).map (fun p=>(([wd,p.1],p.2):List Str×Str))=(ps.take i).map (fun p=>(([wd,p.1],p.2):List Str×Str))++[([wd,ps[i].1],ps[i].2)]:=by
       rw [Qs,Qa yl,Qm];rfl
      rw [et]
      exact (q2.tk (sA.ts.trans tk)).snoc (m:=([wd,ps[i].1],ps[i].2)) (tk _ _ g2) (tk _ _ g1)
     ·rintro τ H3 ⟨v0,v1,zs,rfl,q1,q2,q3⟩
      rw [gf,Qo] at q2
      show D.nx _ H3
      rw [XY]
      refine bx _ _ ⟨L,zs,rfl,q1,?_,s1.trans q3,by show (ps.map _).length<=10;rw [Ql];exact e3.2.2.2⟩
      rw [XZ] at q2
      exact q2
    rcases e3.1 with rfl | rfl
    ·refine ⟨_,.str "box",.inr (aj.of e),aK _ _,rfl,_,rfl,f_ (fun c=>?_) (fun _=>⟨_,.str "box",.inr (aj.of e),aK _ _,rfl,_,rfl,f_ (fun _=>loop "part" _ rfl rfl) (fun c=>absurd c (by simp))⟩)⟩
     rw [QF,cV] at c;exact absurd c (by decide+kernel)
    ·refine ⟨_,.str "pick",.inr (aj.of e),aK _ _,rfl,_,rfl,f_ (fun c=>?_) (fun _=>⟨_,.str "pick",.inr (aj.of e),aK _ _,rfl,_,rfl,f_ (fun c=>?_) (fun _=>⟨_,.str "pick",.inr (aj.of e),aK _ _,rfl,_,rfl,f_ (fun _=>loop "case" _ rfl (by decide+kernel)) (fun c=>absurd c (by simp))⟩)⟩)⟩
     ·rw [QF,cV] at c;exact absurd c (by decide+kernel)
     ·rw [QF,cV] at c;exact absurd c (by decide+kernel)
  rintro σ' H2 ⟨F,us,rfl,gF,mv,s2,ml⟩
  have qi:=rt.tk s2.ts
  have g2:=g.ts s2.ts
  have ul:=mv.len
  refine Or.inl ⟨⟨us,af.of gF⟩,fun D hD=>?_⟩
  refine gZ (bN us) (fun i τ H'=>∃ (v0 v1:Option V) (zs:List V),τ=[v0,v1,some (.ref a)]/\H' D=some (.lst zs)/\MV H' zs ((h.bc.take i).map fun m=>(m.1,endOf rows m.2))/\aa H2 H') ⟨none,none,[],rfl,aA,MV.nil,aa.upd hD _⟩ (by rintro i τ H' _ ⟨_,_,_,_,_,_,s⟩;exact af.of (s _ _ gF)) ?_ ?_
  ·rintro i τ H3 hi ⟨v0,v1,zs,rfl,q1,q2,q3⟩
   have DB:i < h.bc.length:=by omega
   obtain ⟨c,b,r1,r2,r3⟩:=mv.at_ i hi DB
   have eg:us.getD i .ai=.ref c:=by rw [Qb,Qa hi,r1];rfl
   rw [eg]
   have Ka:h.bc[i]∈h.bc:=Qj DB
   refine fJ (q3 _ _ r2) ?_
   have JY:zs.length=i:=by have:=q2.len;simp at this;omega
   refine ⟨a,xs,rs,_,_,h.bc[i].2,rfl,g2.ts q3.ts,(hm _).mp (ig _ Ka),fun H4 s4=>⟨(show 2<=sizeLine by decide),fun d hd=>?_⟩⟩
   have s5:=aa.upd hd (.tup [.ref b,.str (fq (iz rows) rs.length h.bc[i].2)])
   have gd:upd H4 d (.tup [.ref b,.str (fq (iz rows) rs.length h.bc[i].2)]) d=some (.tup [.ref b,.str (fq (iz rows) rs.length h.bc[i].2)]):=aA
   dsimp only
   generalize upd H4 d (.tup [.ref b,.str (fq (iz rows) rs.length h.bc[i].2)])=H5 at s5 gd
   rw [rl] at gd
   have sA:=s4.trans s5
   have gD:=sA _ _ q1
   have tk:Tk H5 (upd H5 D (.lst (zs++[.ref d]))):=(Tk.refl).set gD (by intro _ z;cases z)
   refine ⟨zs,gD,by omega,_,_,zs++[.ref d],rfl,aA,?_,(q3.trans sA).put hD⟩
   have et:(h.bc.take (i+1)).map (fun m=>(m.1,endOf rows m.2))=(h.bc.take i).map (fun m=>(m.1,endOf rows m.2))++[(h.bc[i].1,endOf rows h.bc[i].2)]:=by
    rw [Qs,Qa DB,Qm];rfl
   rw [et]
   exact (q2.tk (sA.ts.trans tk)).snoc (tk _ _ gd) (tk _ _ (sA _ _ (q3 _ _ r3)))
  ·rintro τ H3 ⟨v0,v1,zs,rfl,q1,q2,q3⟩
   rw [ul,Qo,<- eo] at q2
   exact k D zs H3 (s2.free hD) (s2.trans q3) q1 q2
theorem X0 {Q:VK} {v:V} (e:σ[i]? =some (some v)) (h:Q v H):tV i σ H Q:=by
 unfold tV
 rw [e]
 exact h
theorem cF {kvs:List (Key×V)} {k:Key} {v:V} (h:∀ kv∈kvs,kv.1≠k):putK kvs k v=kvs++[(k,v)]:=by
 unfold putK
 rw [if_neg]
 intro e
 rw [List.any_eq_true] at e
 obtain ⟨kv,hk,e⟩:=e
 exact h kv hk (Qt e)
def Oe:Sp:=fun vs H Q _=>∃ (a:Addr) (xs:List V) (rows:List ak) (ns ws:List Str),vs=[.ref a]/\RT H a xs rows ns ws/\(∀ z∈ws,Wd z)/\
 ∀ (d:Addr) (H':Hp),H d=none->aa H H'->H' d=some (.dK (iq rows))->Q (.ref d) H'
theorem rH (T:Txt K mg w):bj P w K mg base 2 "rows_of" ["T"] Oe:=by
 have sV:bj P w K mg base 1 "heads_of" ["T"] Oa:=oW T
 refine T.wC.gg d9 (fun vs H Q E h=>?_) (fun f ay A outer s H vs Q E hr h=>?_)
 ·obtain ⟨a,xs,rows,ns,ws,rfl,_⟩:=h
  rfl
 ·refine hdn fun Gz9 zG9=>?_;obtain ⟨a,xs,rows,ns,ws,rfl,rt,hw,k⟩:=h;refine zG9 ?_
  have hu:=aV hr
  have ff:=Qy (aV hr)
  have hsz:sizeLine=16777216:=QM
  obtain ⟨rs,g,nm,rl,sr⟩:=rt.good hw
  refine ⟨_,(aE (aQ (i:=1) d9.nd rfl (Or.inl rfl) (bQ sV (hr.mono (by decide)) (aD (zv 0) aC)))
   (aE (aQ (i:=2) d9.nd rfl (Or.inl rfl) m8)
   (aE (cU PassesOwn.never rfl (uC (zv 1)) (aI (i:=3) d9.nd rfl (Or.inl rfl)) (aE (aQ (i:=4) d9.nd rfl (Or.inl rfl) (zv 3))
   (aE (iJ PassesOwn.never (aU (dY ff) (bB (bC K) (cW hu (zv 1) (zv 4) (fun _ _=>rfl)) aH (fun _ _=>rfl)) aY (h_ _)) (aG (aQ (i:=4) d9.nd rfl (Or.inl rfl) (bB (bC K) (cW hu (zv 1) (zv 4) (fun _ _=>rfl)) aH (fun _ _=>rfl)))))
   (aG (nP hu (zv 2) (zv 3) (zv 4) rfl)))))
   (aG (bE (zv 2)))))),?_⟩
  refine aJ ⟨a,xs,rs,rfl,XX g,fun d hd=>?_⟩
  have knd:((bh rs).map (·.1)).Nodup:=by
   have e:(bh rs).map (·.1)=(rs.map (·.1)).map (Sum.inr:Str->Key):=by simp [bh,Qn,QC]
   rw [e]
   exact List.pairwise_map.mpr (g.nd.imp fun h e=>h (Sum.inr.inj e))
  have Ob:=g.len
  have ed:=iP _ knd
  dsimp only
  have s1:aa H (upd H d (.dK (dictOf (bh rs)))):=aa.upd hd _
  refine aJ fun R hR=>?_
  have Kc:R≠d:=fun e=>by rw [e,aA] at hR;cases hR
  have Ft:H R=none:=s1.free hR
  refine aO (fun σ' H'=>∃ v3 v4:Option V,σ'=[some (.ref a),some (.ref d),some (.ref R),v3,v4]/\H' R=some (.dK (iq rows))/\aa H H') ?_ ?_
  ·intro nx bx
   refine ⟨d,dictOf (bh rs),rfl,.inl (by rw [aB Kc.symm];exact aA),fun o=>?_⟩
   refine cB (pP (dictOf (bh rs))) (fun i σ' H'=>∃ v3 v4:Option V,σ'=[some (.ref a),some (.ref d),some (.ref R),v3,v4]/\H' d=some (.ae o (.dK (dictOf (bh rs))))/\H' R=some (.dK ((iq rows).take i))/\aa H H')
    ⟨none,none,rfl,aA,by rw [aB Kc,aA];rfl,(((s1.put Ft)).put hd)⟩ (by rintro i σ' H' _ ⟨_,_,_,h,_⟩;exact h) ?_ ?_
   ·rintro i σ' H3 hi ⟨v3,v4,rfl,q1,q2,q3⟩
    have mh:i < rs.length:=by have:=iC (bh rs);simp at this;omega
    have Kd:i < rows.length:=by omega
    have ek:pq (dictOf (bh rs)) i=.str rs[i].1:=by
     unfold pq
     rw [ed,Qa (by simpa using mh),J_ i (by simpa using mh) mh];rfl
    have en:rs[i].1=rows[i].1:=by
     have:(rs.map (·.1))[i]'(by simpa using mh)=(rows.map (·.1))[i]'(by simpa using Kd):=by simp only [nm]
     simpa using this
    rw [ek]
    have hx:rs[i].1∈rs.map (·.1):=List.mem_map.mpr ⟨_,Qj mh,rfl⟩
    generalize rs[i].1=x at en hx
    have g3:=g.ts q3.ts
    refine aJ (X0 (v:=.str x) rfl ?_)
    refine aO (fun σ' H'=>H'=H3/\σ'=[some (.ref a),some (.ref d),some (.ref R),some (.str x),some (.str (fq (iz rows) rs.length x))]) ?_ ?_
    ·intro Fj Cz
     refine ⟨fun m σ H'=>H'=H3/\∃ y,σ=[some (.ref a),some (.ref d),some (.ref R),some (.str x),some (.str y)]/\y∈rs.map (·.1)/\fq (iz rows) rs.length y=fq (iz rows) rs.length x/\m=ns.idxOf y,⟨_,rfl,x,rfl,hx,rfl,rfl⟩,?_⟩
     rintro m σ H' ⟨rfl,y,rfl,hy,he,rfl⟩
     obtain ⟨v,hv,sr⟩:=g3.get hy
     have CD:dj H' d (.str y) (some v):=by
      rw [<- sr];exact dj.rd (k:=Sum.inr y) (.inr ⟨o,q1⟩)
     obtain ⟨b,rfl,hb⟩:=g3.as _ hv
     rcases hb with ⟨z,ys,h1,h2,h3⟩ | ⟨z,h1,h3⟩
     ·refine ⟨d,_,rfl,CD,_,.str z,.inr (aj.of h1),aK _ _,rfl,_,rfl,?_⟩
      rw [QF,Qx (fun e=>h2 (V.str.inj e))]
      refine Ai ?_
      have e2:fq (iz rows) rs.length y=y:=dB _ h3
      refine Cz _ _ ⟨rfl,?_⟩
      rw [<- he,e2]
     ·refine ⟨d,_,rfl,CD,_,.str "as",.inr (aj.of h1),aK _ _,rfl,_,rfl,?_⟩
      refine B0 ?_
      obtain ⟨i1,i2⟩:=g3.ig _ hv z h3
      refine ⟨fun σ' Ay=>∃ m',m' < ns.idxOf y/\Ay=H'/\∃ y,σ'=[some (.ref a),some (.ref d),some (.ref R),some (.str x),some (.str y)]/\y∈rs.map (·.1)/\fq (iz rows) rs.length y=fq (iz rows) rs.length x/\m'=ns.idxOf y,fun _ _ h=>h,?_⟩
      refine ⟨d,_,rfl,CD,_,.str z,.inr (aj.of h1),rfl,_,i2,rfl,z,rfl,i1,?_,rfl⟩
      rw [<- he]
      exact g3.Mz hy h3
    ·rintro σ' H' ⟨rfl,rfl⟩
     have c_:((iq rows).take i).length<=14:=by have:=rt.few;have:=rt.rl;simp [iq];omega
     have X3:putK ((iq rows).take i) (.inr x) (.str (fq (iz rows) rs.length x))=(iq rows).take (i+1):=by
      rw [cF,Qs,Qa (by simpa [iq] using Kd)]
      ·simp [iq,en,endOf,rl]
      ·intro kv GQ e
       obtain ⟨j,hj,rfl⟩:=Qi GQ
       have s_:j < i:=by simp at hj;omega
       rw [List.getElem_take] at e
       simp only [iq,Qr] at e
       have e':rows[j].1=rows[i].1:=by rw [<- en];exact Sum.inr.inj e
       have nd:=rt.jn
       have:=List.pairwise_iff_getElem.mp nd j i (by simp;omega) (by simpa using Kd) s_
       simp at this
       exact this e'
     refine ⟨R,_,rfl,yz.k (k:=Sum.inr x) q2 (by omega),?_⟩
     rw [X3]
     exact ⟨_,_,rfl,by rw [aB Kc.symm];exact q1,aA,q3.put Ft⟩
   ·rintro σ' H' ⟨v3,v4,rfl,q1,q2,q3⟩
    have e:(dictOf (bh rs)).length=(iq rows).length:=by rw [ed];simp [iq,rl]
    rw [e,Qo] at q2
    exact bx _ _ ⟨v3,v4,rfl,q2,q3⟩
  ·rintro σ' H' ⟨v3,v4,rfl,q2,q3⟩
   exact k R H' Ft q3 q2
def Of:Sp:=fun vs H Q _=>∃ (x:V) (h:Hd) (ns:List Str),vs=[x]/\HV H x h/\h.ok ns/\∀ L H',H L=none->H' L=some (.lst ((xx h).map V.str))->aa H H'->Q (.ref L) H'
theorem nR (T:Txt K mg w):bj P w K mg base 1 "names_in" ["head"] Of:=by
 refine T.tE.gg pK (fun vs H Q E h=>?_) (fun f ay A outer s H vs Q E hr h=>?_)
 ·obtain ⟨x,h,ns,rfl,_⟩:=h
  rfl
 ·obtain ⟨x,h,ns,rfl,hv,hok,k⟩:=h
  have hsz:sizeLine=16777216:=QM
  refine ⟨_,(aE (eG (aU (rZ K) (bB (bC K) (zv 0) aH (fun _ _=>rfl)) (UE K T.yS) rfl) (aG (bE (nU (own:=["word","x"]) (idx:=[]) (N':=["word","x"]) (cZ (a_ fT) (["head"]:List Str) (by decide+kernel)) rfl (jT K (bB (bC K) (zv 0) aH (fun _ _=>rfl))) (fun _ _ _ _ _ _=>(d6 K (n:=2) rfl (aM (aI (i:=0) (show List.Nodup (["word","x"]:List Str) by decide+kernel) rfl (Or.inl rfl)) (aM (aI (i:=1) (show List.Nodup (["word","x"]:List Str) by decide+kernel) rfl (Or.inl rfl)) cC)))) (fun _ _ _ _ _ _=>dL) (fun _ _ _ _ _ _=>(zv 1))))) cH)
   (aG (bE (cJ (mU K) (by rfl) T.lU PyProof.Rows.boot_list (aN (iU (xP K) (zv 0) (iR aH) iV) aC))))),?_⟩
  have fin:∀ (b:Addr) (z:Str) (ys:List Str),H b=some (.tup (.str z::ys.map V.str))->xx h=ys->∀ D:Ends,D.rt=Q->CU (BU (IJ K) (gu (C6 (fun x lo hi H Q=>A2 x lo hi H Q\/AV K x lo hi H Q\/AU K x lo hi H Q) (tV 0) (C5 (tC (V.int 1))) C4) mw)) D [some (.ref b)] H:=by
   intro b z ys e en D hD
   refine ⟨1,rfl,Or.inr (Or.inr ⟨b,_,rfl,aj.of e,?_,fun p1 Og=>⟨p1,_,rfl,.inr (aj.of aA),fun L hL=>?_⟩⟩)⟩
   ·intro ⟨h1,_⟩
    have:HT.bu (V.str z::ys.map V.str).length 0 (some ((1:Nat):Int))=0:=h1
    rw [HT.oM] at this
    simp at this
   ·have s1:=(aa.upd Og (.tup (oz (V.str z::ys.map V.str) (some 1) none))).trans (aa.upd hL (.lst (oz (V.str z::ys.map V.str) (some 1) none)))
    rw [hD]
    refine k L _ ((aa.upd Og _).free hL) ?_ s1
    rw [aA]
    have ec:oz (V.str z::ys.map V.str) (some 1) none=ys.map V.str:=by
     have:=pI (V.str z::ys.map V.str) 1
     exact this
    rw [ec,en]
  have Ke:∀ (b:Addr) (z:Str) (ys:List Str),H b=some (.tup (.str z::ys.map V.str))->(z=="box")=false->(z=="pick")=false->xx h=ys->BJ (F7 (Gc (mq (Gq K false) (mq (A1 K) (tV 0) (tC (V.int 0))) (Gu K [V.str "box",V.str "pick"]))) (CU (B3 ["word","x"] [] (iD K (mq (A1 K) (tV 0) (tC (V.int 1)))) (AN K 2 (wu (jc 0) (wu (jc 1) CW))) Dc (tV 1))) Ib) (CU (BU (IJ K) (gu (C6 (fun x lo hi H Q=>A2 x lo hi H Q\/AV K x lo hi H Q\/AU K x lo hi H Q) (tV 0) (C5 (tC (V.int 1))) C4) mw))) {nx:=fun x H'=>Q V.ai H',rt:=Q} [some (.ref b)] H:=fun b z ys e n1 n2 en=>by
   refine ⟨_,.str z,.inr (aj.of e),aK _ _,?_⟩
   intro aW hW
   refine ⟨_,.inr hW,rfl,rfl,_,rfl,?_⟩
   have ew:(false^^AX (.str z) [V.str "box",V.str "pick"])=false:=by
    rw [QF,show ([V.str "box",V.str "pick"]:List V)=(["box","pick"]:List Str).map V.str from rfl,lN]
    refine Qx fun hm=>?_
    simp only [Qp,QB,or_false] at hm
    rcases hm with rfl | rfl
    ·simp at n1
    ·simp at n2
   rw [ew]
   exact Ai (fin b z ys e en _ rfl)
  cases hv with
  | @one b s e=>exact Ke b s [] e (by rcases hok with rfl | rfl<;>decide+kernel) (by rcases hok with rfl | rfl<;>decide+kernel) rfl
  | @as b y e=>exact Ke b "as" [y] e (by decide+kernel) (by decide+kernel) rfl
  | @way b y z e=>exact Ke b "way" [y,z] e (by decide+kernel) (by decide+kernel) rfl
  | @prs b c s ys ps e ec hp=>
   refine ⟨_,.str s,.inr (aj.of e),aK _ _,?_⟩
   intro aW hW
   refine ⟨_,.inr hW,rfl,rfl,_,rfl,?_⟩
   have ew:(false^^AX (.str s) [V.str "box",V.str "pick"])=true:=by
    rw [QF,show ([V.str "box",V.str "pick"]:List V)=(["box","pick"]:List Str).map V.str from rfl,lN]
    refine Qw ?_
    rcases hok.1 with rfl | rfl<;>simp
   rw [ew]
   refine B0 ?_
   have gf:=hp.len
   have GD:=hok.2.2.2
   refine ⟨_,.ref c,.inr (aj.of e),rfl,Or.inr ⟨⟨ys,aj.of ec⟩,fun D hD=>?_⟩⟩
   refine gZ (dD ys) (fun i τ H3=>H3 D=some (.lst (((ps.take i).map (·.2)).map V.str))/\aa H H3/\∃ v1 v2,τ=[v1,v2]) ⟨aA,aa.upd hD _,none,none,rfl⟩ (fun i τ H3 _ h=>aj.of (h.2.1 _ _ ec)) ?_ ?_
   ·rintro i τ H3 hi ⟨q1,q2,v1,v2,rfl⟩
    have yl:i < ps.length:=by omega
    obtain ⟨d,e1,e2⟩:=hp.at_ i hi yl
    have eg:ys.getD i .ai=.ref d:=by rw [Qb,Qa hi,e1];rfl
    rw [eg]
    refine fJ (q2 _ _ e2) ?_
    refine ⟨_,q1,by simp;omega,?_,(q2.put hD),_,_,rfl⟩
    rw [aA,Qs,Qa yl,Qm,Qm]
    rfl
   ·rintro τ H3 ⟨q1,q2,v1,v2,rfl⟩
    rw [gf,Qo] at q1
    exact k D H3 hD q1 q2
def v_ (s:Str):Str:=if s="box" then "part" else "case"
def Kf (mg:Str->Option Value):Sp:=fun vs H Q _=>∃ (x:V) (h:Hd) (ns:List Str),vs=[x]/\HV H x h/\h.ok ns/\Kn mg H "FROM" [.str "from"]/\Kn mg H "TO" [.str "to"]/\
 ∀ (L:Addr) (us:List V) (H':Hp),H L=none->H' L=some (.lst us)->SV H' us (h.bc.map (·.1))->aa H H'->Q (.ref L) H'
theorem jX (T:Txt K mg w):bj P w K mg base 1 "steps_in" ["head"] (Kf mg):=by
 refine T.rE.gg qR (fun vs H Q E h=>?_) (fun f ay A outer s H vs Q E hr h=>?_)
 ·obtain ⟨x,h,ns,rfl,_⟩:=h
  rfl
 ·refine hdn fun Gz9 zG9=>?_;obtain ⟨x,h,ns,rfl,hv,hok,kf,kt,k⟩:=h;refine zG9 ?_
  have ff:=Qy (aV hr)
  have hsz:sizeLine=16777216:=QM
  refine ⟨_,(aE (eG (aU (dY ff) (bB (bC K) (zv 0) aH (fun _ _=>rfl)) aY (h_ _)) (aG (bE (bS (aD (Ml T.rL) (aD (Ml T.JP) aC))))) cH)
   (aE (eG (U7 T.iK (bB (bC K) (zv 0) aH (fun _ _=>rfl))) (aG (bE (nU (own:=["word","x"]) (idx:=[0]) (N':=["word","x","head"]) (cZ (a_ fQ) (["head"]:List Str) (by decide+kernel)) rfl (jT K (bB (bC K) (zv 0) aH (fun _ _=>rfl))) (fun _ _ _ _ _ _=>(d6 K (n:=2) rfl (aM (aI (i:=0) (show List.Nodup (["word","x","head"]:List Str) by decide+kernel) rfl (Or.inl rfl)) (aM (aI (i:=1) (show List.Nodup (["word","x","head"]:List Str) by decide+kernel) rfl (Or.inl rfl)) cC)))) (fun _ _ _ _ _ _=>dL) (fun _ _ _ _ _ _=>(bI (aN (U9 T.iK (bB (bC K) (zv 2) aH (fun _ _=>rfl)) (fun _ _=>rfl)) (aD (zv 0) aC))))))) cH)
   (aG (bE (bS aC))))),?_⟩
  cases hv with
  | @one b s e=>
   refine ⟨_,.str s,.inr (aj.of e),aK _ _,rfl,_,rfl,f_ (fun c=>?_) (fun _=>⟨_,.str s,.inr (aj.of e),aK _ _,Sum.inr s,rfl,_,rfl,f_ (fun c=>?_) (fun _=>⟨(show 0<=sizeLine by decide),fun L hL=>k L [] _ hL aA SV.nil (aa.upd hL _)⟩)⟩)⟩
   ·rw [QF,cV] at c
    rcases hok with rfl | rfl<;>exact absurd c (by decide+kernel)
   ·rcases hok with rfl | rfl<;>exact absurd c (by decide+kernel)
  | @as b y e=>
   refine ⟨_,.str "as",.inr (aj.of e),aK _ _,rfl,_,rfl,f_ (fun c=>?_) (fun _=>⟨_,.str "as",.inr (aj.of e),aK _ _,Sum.inr "as",rfl,_,rfl,f_ (fun c=>?_) (fun _=>⟨(show 0<=sizeLine by decide),fun L hL=>k L [] _ hL aA SV.nil (aa.upd hL _)⟩)⟩)⟩
   ·rw [QF,cV] at c
    exact absurd c (by decide+kernel)
   ·exact absurd c (by decide+kernel)
  | @way b y z e=>
   refine ⟨_,.str "way",.inr (aj.of e),aK _ _,rfl,_,rfl,f_ (fun _=>?_) (fun c=>absurd c (by simp))⟩
   refine ⟨(show 2<=sizeLine by decide),fun L hL=>k L _ _ hL aA ?_ (aa.upd hL _)⟩
   exact (SV.nil.snoc (m:=["from"]) (kf.same (aa.upd hL _)).rd).snoc (m:=["to"]) (kt.same (aa.upd hL _)).rd
  | @prs b c s ys ps e ec hp=>
   have gf:=hp.len
   have GD:=hok.2.2.2
   obtain ⟨n1,n2,n3⟩:(s=="way")=false/\(av [((Sum.inr "box":Key),V.str "part"),(Sum.inr "pick",V.str "case")] (Sum.inr s)).isSome=true/\av [((Sum.inr "box":Key),V.str "part"),(Sum.inr "pick",V.str "case")] (Sum.inr s)=some (.str (v_ s)):=by
    rcases hok.1 with rfl | rfl<;>exact ⟨by decide+kernel,by decide+kernel,by decide+kernel⟩
   refine ⟨_,.str s,.inr (aj.of e),aK _ _,rfl,_,rfl,f_ (fun c=>?_) (fun _=>⟨_,.str s,.inr (aj.of e),aK _ _,Sum.inr s,rfl,_,rfl,f_ (fun _=>?_) (fun c=>?_)⟩)⟩
   ·rw [QF,cV,n1] at c;cases c
   ·refine ⟨_,.ref c,.inr (aj.of e),rfl,Or.inr ⟨⟨ys,aj.of ec⟩,fun D hD=>?_⟩⟩
    refine gZ (dD ys) (fun i τ H3=>∃ (v0 v1:Option V) (zs:List V),τ=[v0,v1,some (.ref b)]/\H3 D=some (.lst zs)/\SV H3 zs ((ps.take i).map fun p=>[v_ s,p.1])/\aa H H3) ⟨none,none,[],rfl,aA,SV.nil,aa.upd hD _⟩ (by rintro i τ H3 _ ⟨_,_,_,_,_,_,s⟩;exact aj.of (s _ _ ec)) ?_ ?_
    ·rintro i τ H3 hi ⟨v0,v1,zs,rfl,q1,q2,q3⟩
     have yl:i < ps.length:=by omega
     obtain ⟨d,r1,r2⟩:=hp.at_ i hi yl
     have eg:ys.getD i .ai=.ref d:=by rw [Qb,Qa hi,r1];rfl
     rw [eg]
     refine fJ (q3 _ _ r2) ?_
     have JY:zs.length=i:=by have:=q2.len;simp at this;omega
     refine ⟨_,.str s,.inr (aj.of (q3 _ _ e)),aK _ _,Sum.inr s,_,rfl,n3,(show 2<=sizeLine by decide),fun c1 h1=>?_⟩
     have t1:=aa.upd h1 (.tup [.str (v_ s),.str ps[i].1])
     have g1:upd H3 c1 (.tup [.str (v_ s),.str ps[i].1]) c1=some (.tup [.str (v_ s),.str ps[i].1]):=aA
     dsimp only
     generalize upd H3 c1 (.tup [.str (v_ s),.str ps[i].1])=H5 at t1 g1
     have gD:=t1 _ _ q1
     have kp:∀ b ys,be H5 b ys->be (upd H5 D (.lst (zs++[.ref c1]))) b ys:=fun b ys r=>r.upd fun u hu z=>by
      subst z
      rcases r with r | ⟨_,r⟩<;>(rw [gD] at r;cases r)
     refine ⟨zs,gD,by omega,_,_,zs++[.ref c1],rfl,aA,?_,(q3.trans t1).put hD⟩
     have et:(ps.take (i+1)).map (fun p=>([v_ s,p.1]:List Str))=(ps.take i).map (fun p=>([v_ s,p.1]:List Str))++[[v_ s,ps[i].1]]:=by
      rw [Qs,Qa yl,Qm];rfl
     rw [et]
     exact ((q2.keep fun b ys r=>r.same t1).keep kp).snoc (m:=[v_ s,ps[i].1]) (kp _ _ (.inl g1))
    ·rintro τ H3 ⟨v0,v1,zs,rfl,q1,q2,q3⟩
     rw [gf,Qo] at q2
     refine k D zs H3 hD q1 ?_ q3
     have em:(Hd.prs s ps).bc.map (·.1)=ps.map fun p=>([v_ s,p.1]:List Str):=by
      simp [Hd.bc,v_,Qn,QC]
     rw [em]
     exact q2
   ·rw [n2] at c;cases c
def Oh (mg:Str->Option Value):Sp:=fun vs H Q _=>∃ (x:V) (h:Hd) (ns:List Str) (rows:List ak) (d:Addr),vs=[x,.ref d]/\HV H x h/\h.ok ns/\Kn mg H "FROM" [.str "from"]/\Kn mg H "TO" [.str "to"]/\Rd H d (.dK (iq rows))/\(∀ z∈ns,z∈rows.map (·.1))/\(rows.map (·.1)).Nodup/\
 ∀ (m:Addr) (H':Hp),H m=none->H' m=some (.dT (kq rows h))->aa H H'->Q (.ref m) H'
theorem pD (T:Txt K mg w):bj P w K mg base 2 "moves_in" ["head","rows"] (Oh mg):=by
 have i8:bj P w K mg base 1 "steps_in" ["head"] (Kf mg):=jX T
 have rY:bj P w K mg base 1 "names_in" ["head"] Of:=nR T
 refine T.qY.gg pV (fun vs H Q E h=>?_) (fun f ay A outer s H vs Q E hr h=>?_)
 ·obtain ⟨x,h,ns,rows,d,rfl,_⟩:=h
  rfl
 ·refine hdn fun Gz9 zG9=>?_;obtain ⟨x,h,ns,rows,d,rfl,hv,hok,kf,kt,hd,gj,nd,k⟩:=h;refine zG9 ?_
  have hu:=aV hr
  have ff:=Qy (aV hr)
  have hsz:sizeLine=16777216:=QM
  have few:=oU hok
  refine ⟨_,(aG (bE (Vx (own:=["step","x"]) (idx:=[1]) (N':=["step","x","rows"]) (cZ (a_ fW) (["head","rows"]:List Str) (by decide+kernel)) rfl ff (tY K (by rfl) T.NJ (aX (bQ i8 (hr.mono (by decide)) (aD (zv 0) aC)) (aX (bQ rY (hr.mono (by decide)) (aD (zv 0) aC)) aC))) (fun _ _ _ _ _ _=>(d6 K (n:=2) rfl (aM (aI (i:=0) (show List.Nodup (["step","x","rows"]:List Str) by decide+kernel) rfl (Or.inl rfl)) (aM (aI (i:=1) (show List.Nodup (["step","x","rows"]:List Str) by decide+kernel) rfl (Or.inl rfl)) cC)))) (fun _ _ _ _ _ _=>dL) (fun _ _ _ _ _ _=>(zv 0)) (fun _ _ _ _ _ _=>(cW hu (zv 2) (zv 1) (fun _ _=>rfl)))))),?_⟩
  refine ⟨x,h,ns,rfl,hv,hok,kf,kt,fun L us H1 hL eL sv s1=>⟨x,h,ns,rfl,hv.tk s1.ts,hok,fun M H2 hM eM s2=>?_⟩⟩
  have X4:=sv.len
  rw [Ql] at X4
  refine ⟨L,M,us,(xx h).map V.str,rfl,af.of (s2 _ _ eL),af.of eM,fun D hD=>?_⟩
  have yi:H D=none:=(s1.trans s2).free hD
  have mn:min us.length ((xx h).map V.str).length=h.bc.length:=by have:=VQ (h:=h);simp;omega
  have X5:=nO (rows:=rows) (qV hok)
  have ml:(kq rows h).length=h.bc.length:=by simp [kq]
  refine yC (uA us ((xx h).map V.str)) (fun i τ H3=>∃ v0 v1:Option V,τ=[v0,v1,some (.ref d)]/\H3 D=some (.dT ((kq rows h).take i))/\aa H2 H3) ⟨none,none,rfl,aA,aa.upd hD _⟩ (by rintro i τ H3 _ ⟨_,_,_,_,s⟩;exact ⟨af.of (s _ _ (s2 _ _ eL)),af.of (s _ _ eM)⟩) ?_ ?_
  ·rintro i τ H3 T hi ⟨v0,v1,rfl,q1,q2⟩ hT
   rw [mn] at hi
   have Oi:i < us.length:=by omega
   obtain ⟨b,e1,e2⟩:=sv.at_ i Oi (by simpa using hi)
   have g1:us.getD i .ai=.ref b:=by rw [Qb,Qa Oi,e1];rfl
   have Bj:((xx h).map V.str).getD i .ai=.str h.bc[i].2:=by rw [Qb,Qq,VP i hi];rfl
   rw [g1,Bj]
   have t1:=aa.upd hT (.tup [.ref b,.str h.bc[i].2])
   generalize upd H3 T (.tup [.ref b,.str h.bc[i].2])=H5 at t1
   have hz:h.bc[i].2∈ns:=rM hok _ (Qj hi)
   have X6:Rd H5 d (.dK (iq rows)):=hd.same (((s1.trans s2).trans q2).trans t1)
   refine ⟨d,.str (endOf rows h.bc[i].2),rfl,by rw [<- mN nd (gj _ hz)];exact dj.rd (k:=Sum.inr h.bc[i].2) X6,?_⟩
   have er:be H5 b (h.bc[i].1.map V.str):=by
    have:=(e2.same ((s2.trans q2).trans t1))
    simpa using this
   have JB:i < (kq rows h).length:=by omega
   have em:(kq rows h)[i]=(h.bc[i].1.map Sum.inr,.str (endOf rows h.bc[i].2)):=by simp [kq]
   refine ⟨(kq rows h).take i,(kq rows h)[i].1,b,rfl,by rw [em,Jh];exact er,t1 _ _ q1,by simp;omega,_,_,rfl,?_,?_⟩
   ·have:=VO X5 JB
    rw [em] at this ⊢
    rw [this]
    exact aA
   ·exact (q2.trans t1).put hD
  ·rintro τ H3 ⟨v0,v1,rfl,q1,q2⟩
   rw [mn,<- ml,Qo] at q1
   exact k D H3 yi q1 ((s1.trans s2).trans q2)
def Oj (mg:Str->Option Value):Sp:=fun vs H Q _=>∃ (x dx a:Addr) (xs:List V) (rows:List ak) (ns ws:List Str),vs=[.ref x,.ref a]/\H x=some (.ins (adr mg "Net") dx [])/\RT H a xs rows ns ws/\(∀ z∈ws,Wd z)/\Kn mg H "FROM" [.str "from"]/\Kn mg H "TO" [.str "to"]/\
 ∀ H',Ck H' (adr mg "Net") x rows->Sx x H H'->Q .ai H'
theorem X7 {f g:Str} {u v:V} (n:Nat):(br f u (br g v [])).length < 1000:=by
 have h1:=bF f u (br g v [])
 have h2:=bF g v []
 simp at h2
 omega
theorem n5 {K:Q1} {tv:TE} {f:Str} (h:tv σ H fun y H1=>ta σ H1 fun x H2=>∃ a C dx fs,x=.ref a/\H2 a=some (.ins C dx fs)/\qx K C/\yt K C f/\fs.length < 1000/\D.nx σ (upd H2 a (.ins C dx (br f y fs)))):Gd K ta tv f D σ H:=h
set_option maxHeartbeats 1000000 in
theorem X8 (T:Txt K mg w):Ce P w K mg base 4 "Net" (adr mg "Net") ["self","T"] (Oj mg):=by
 have vD:bj P w K mg base 2 "rows_of" ["T"] Oe:=rH T
 have i8:bj P w K mg base 1 "steps_in" ["head"] (Kf mg):=jX T
 have rG:bj P w K mg base 2 "moves_in" ["head","rows"] (Oh mg):=pD T
 have cl:=T.Ax.2.1
 have na:=T.Ax.2.2.1
 refine T.Ax.gg oY (fun vs H Q E h=>?_) (fun f ay A outer s H vs Q E hr h=>?_)
 ·refine hdn fun Gz9 zG9=>?_;obtain ⟨x,dx,a,xs,rows,ns,ws,rfl,_⟩:=h;refine zG9 ?_
  rfl
 ·refine hdn fun Gz9 zG9=>?_;obtain ⟨x,dx,a,xs,rows,ns,ws,rfl,hx,rt,hw,kf,kt,k⟩:=h;refine zG9 ?_
  have hu:=aV hr
  have ff:=Qy (aV hr)
  have hsz:sizeLine=16777216:=QM
  have jn:=rt.jn
  have Dl:=rt.rl
  have few:=rt.few
  have abe:(bf rows).length<=14:=by have:=List.length_filter_le (fun r:ak=>r.2.nx.isNone) rows;unfold bf;omega
  have Bc:((bf rows).map (·.1)).Nodup:=(jn.sublist (List.filter_sublist.map _))
  refine ⟨_,(aE (jV K (zv 0) (lK (bQ vD (hr.mono (by decide)) (aD (zv 1) aC))))
   (aE (jV K (zv 0) (lK (zH (own:=["name","head"]) (idx:=[]) (N':=["name","head"]) (cZ (a_ d7) (["self","T"]:List Str) (by decide+kernel)) rfl (jT K (zv 1)) (fun _ _ _ _ _ _=>(d6 K (n:=2) rfl (aM (aI (i:=0) (show List.Nodup (["name","head"]:List Str) by decide+kernel) rfl (Or.inl rfl)) (aM (aI (i:=1) (show List.Nodup (["name","head"]:List Str) by decide+kernel) rfl (Or.inl rfl)) cC)))) (fun _ _ _ _ _ _=>(wV (aU (oA ff) (bB (bC K) (zv 1) aH (fun _ _=>rfl)) aY (h_ _)))) (fun _ _ _ _ _ _=>(zv 0)) (fun _ _ _ _ _ _=>(zv 1)))))
   (aE (jV K (zv 0) (lK (zH (own:=["row","head"]) (idx:=[]) (N':=["row","head"]) (cZ (a_ d7) (["self","T"]:List Str) (by decide+kernel)) rfl (qM (cN K (zv 0))) (fun _ _ _ _ _ _=>(d6 K (n:=2) rfl (aM (aI (i:=0) (show List.Nodup (["row","head"]:List Str) by decide+kernel) rfl (Or.inl rfl)) (aM (aI (i:=1) (show List.Nodup (["row","head"]:List Str) by decide+kernel) rfl (Or.inl rfl)) cC)))) (fun _ _ _ _ _ _=>dL) (fun _ _ _ _ _ _=>(zv 0)) (fun _ _ _ _ _ _=>(bI (aN (bB (bC K) (zv 1) aH (fun _ _=>rfl)) (aX (cJ (dW K) (by rfl) T.gQ QH (aX (bQ i8 (hr.mono (by decide)) (aD (zv 1) aC)) aC)) aC)))))))
   (aG (jV K (zv 0) (lK (zH (own:=["row","head"]) (idx:=[0]) (N':=["row","head","self"]) (cZ (a_ d7) (["self","T"]:List Str) (by decide+kernel)) rfl (qM (cN K (zv 0))) (fun _ _ _ _ _ _=>(d6 K (n:=2) rfl (aM (aI (i:=0) (show List.Nodup (["row","head","self"]:List Str) by decide+kernel) rfl (Or.inl rfl)) (aM (aI (i:=1) (show List.Nodup (["row","head","self"]:List Str) by decide+kernel) rfl (Or.inl rfl)) cC)))) (fun _ _ _ _ _ _=>dL) (fun _ _ _ _ _ _=>(zv 0)) (fun _ _ _ _ _ _=>(lK (bQ rG (hr.mono (by decide)) (aD (zv 1) (fY (cN K (zv 2)) aC)))))))))))),?_⟩
  generalize hC:adr mg "Net"=C at*
  refine fH ⟨a,xs,rows,ns,ws,rfl,rt,hw,fun d1 H1 G9 s1 e1=>⟨d1,rfl,.inl ⟨_,.inl e1,fun o1=>?_⟩⟩⟩
  have zm:d1≠x:=fun z=>by rw [z,hx] at G9;cases G9
  refine ⟨x,C,dx,[],rfl,by rw [aB zm.symm];exact s1 _ _ hx,cl,na "rows" (by simp),by simp,?_⟩
  have Kg:Sx x H (upd (upd H1 d1 (.ae o1 (.dK (iq rows)))) x (.ins C dx (br "rows" (.ref d1) []))):=((s1.put G9).sx).trans Sx.upd
  have g1:upd (upd H1 d1 (.ae o1 (.dK (iq rows)))) x (.ins C dx (br "rows" (.ref d1) [])) d1=some (.ae o1 (.dK (iq rows))):=by rw [aB zm];exact aA
  have gx:upd (upd H1 d1 (.ae o1 (.dK (iq rows)))) x (.ins C dx (br "rows" (.ref d1) [])) x=some (.ins C dx (br "rows" (.ref d1) [])):=aA
  generalize upd (upd H1 d1 (.ae o1 (.dK (iq rows)))) x (.ins C dx (br "rows" (.ref d1) []))=H2 at Kg g1 gx ⊢
  have nt:∀ ys,H x≠some (.tup ys):=fun ys z=>by rw [hx] at z;cases z
  have nf:∀ q u,H x≠some (.ae q u):=fun q u z=>by rw [hx] at z;cases z
  have qi:=rt.tk (Kg.tk nt)
  clear e1 s1 G9 H1
  -- heads
  refine fH (Or.inr ⟨⟨xs,aj.of qi.at_⟩,fun D hD=>?_⟩)
  have Fv:D≠x:=fun z=>by rw [z,gx] at hD;cases hD
  refine wQ (dD xs) (fun i τ H3=>∃ (v0 v1:Option V) (kvs:List (Key×V)),τ=[v0,v1]/\H3 D=some (.dK kvs)/\DV RH H3 kvs (bf (rows.take i))/\aa H2 H3) ⟨none,none,[],rfl,aA,DV.nil,aa.upd hD _⟩ (by rintro i τ H3 _ ⟨_,_,_,_,_,_,s⟩;exact aj.of (s _ _ qi.at_)) ?_ ?_
  ·rintro i τ H3 hi ⟨v0,v1,kvs,rfl,q1,q2,q3⟩
   have mh:i < rows.length:=by have:=qi.rv.len;omega
   obtain ⟨b,v,r1,r2,r3⟩:=qi.rv.at_ i hi mh
   have eg:xs.getD i .ai=.ref b:=by rw [Qb,Qa hi,r1];rfl
   rw [eg]
   refine fJ (q3 _ _ r2) ?_
   have r3':=r3.same q3
   obtain ⟨c,ys,rfl,hc⟩:=r3'.dc
   have hok:=(qi.ok rows[i] (Qj mh)).2
   have et:rows.take (i+1)=rows.take i++[rows[i]]:=by rw [Qs,Qa mh];rfl
   have kl:kvs.length < sizeLine:=by
    have h1:=q2.len
    have h2:=List.length_filter_le (fun r:ak=>r.2.nx.isNone) (rows.take i)
    unfold bf at h1
    simp at h2
    omega
   refine ⟨_,.str rows[i].2.dc,.inr (aj.of hc),aK _ _,rfl,_,rfl,f_ (fun c1=>?_) (fun c1=>?_)⟩
   ·have hn:rows[i].2.nx.isNone=true:=by
     cases e:rows[i].2.nx.isNone with
     | true=>rfl
     | false=>
      have:=(wH hok).symm▸e
      rw [this] at c1
      simp at c1
    have en:bf (rows.take (i+1))=bf (rows.take i)++[rows[i]]:=by
     rw [et];unfold bf;rw [List.filter_append,List.filter_cons,if_pos hn];rfl
    have Jx:rows[i].1 ∉ (bf (rows.take i)).map (·.1):=fun hm=>by
     obtain ⟨r,hr,e⟩:=List.mem_map.mp hm
     have fb:=(List.mem_filter.mp hr).1
     obtain ⟨j,hj,rfl⟩:=Qi fb
     have s_:j < i:=by simp at hj;omega
     rw [List.getElem_take] at e
     have:=List.pairwise_iff_getElem.mp jn j i (by simp;omega) (by simpa using mh) s_
     simp only [Qr] at this
     exact this e
    refine ⟨kvs,.inr rows[i].1,rfl,q1,kl,_,_,kvs++[(.inr rows[i].1,.ref c)],rfl,?_,?_,q3.put hD⟩
    ·rw [q2.put Jx];exact aA
    ·rw [en]
     exact (q2.snoc (show RH H3 (.ref c) rows[i] from r3')).keep fun v r h=>HV.tk ((Tk.refl).set q1 fun xs z=>nomatch z) h
   ·have hn:rows[i].2.nx.isNone=false:=by
     have e:rows[i].2.dc="as":=by
      have:decide (V.str rows[i].2.dc=V.str "as")=true:=by simpa using c1
      exact V.str.inj (Qt this)
     exact (wH hok)▸e
    have en:bf (rows.take (i+1))=bf (rows.take i):=by
     rw [et];unfold bf;rw [List.filter_append,List.filter_cons,if_neg (by rw [hn];decide)];simp
    exact ⟨_,_,kvs,rfl,q1,by rw [en];exact q2,q3⟩
  ·rintro τ H3 ⟨v0,v1,k2,rfl,q1,q2,q3⟩
   rw [qi.rv.len,Qo] at q2
   refine ⟨D,rfl,.inl ⟨k2,.inl q1,fun o2=>?_⟩⟩
   refine ⟨x,C,dx,_,rfl,by rw [aB Fv.symm];exact q3 _ _ gx,cl,na "heads" (by simp),by simp [br],?_⟩
   have Fd:d1≠D:=fun z=>by rw [z,hD] at g1;cases g1
   have Kh:Sx x H2 (upd (upd H3 D (.ae o2 (.dK k2))) x (.ins C dx (br "heads" (.ref D) (br "rows" (.ref d1) [])))):=((q3.put hD:aa _ _) |> aa.sx).trans Sx.upd
   have g2:upd (upd H3 D (.ae o2 (.dK k2))) x (.ins C dx (br "heads" (.ref D) (br "rows" (.ref d1) []))) D=some (.ae o2 (.dK k2)):=by rw [aB Fv];exact aA
   have Bp:upd (upd H3 D (.ae o2 (.dK k2))) x (.ins C dx (br "heads" (.ref D) (br "rows" (.ref d1) []))) x=some (.ins C dx (br "heads" (.ref D) (br "rows" (.ref d1) []))):=aA
   have DY:DV RH (upd (upd H3 D (.ae o2 (.dK k2))) x (.ins C dx (br "heads" (.ref D) (br "rows" (.ref d1) [])))) k2 (bf rows):=q2.keep fun v r h=>HV.tk (((Tk.refl).set q1 fun xs z=>nomatch z).set (by rw [aB Fv.symm];exact q3 _ _ gx) fun xs z=>by cases z) h
   generalize upd (upd H3 D (.ae o2 (.dK k2))) x (.ins C dx (br "heads" (.ref D) (br "rows" (.ref d1) [])))=H4 at Kh g2 Bp DY ⊢
   have vq:H4 d1=some (.ae o1 (.dK (iq rows))):=Kh _ _ zm g1
   have Kl:=Kg.trans Kh
   have G_:Kn mg H4 "FROM" [.str "from"]:=let ⟨o,e⟩:=kf;⟨o,Kl.ae nf e⟩
   have Hf:Kn mg H4 "TO" [.str "to"]:=let ⟨o,e⟩:=kt;⟨o,Kl.ae nf e⟩
   have Ol:=DY.len
   have Om:∀ i (h:i < (bf rows).length),((bf rows)[i]).2.ok ns:=fun i h=>(rt.ok _ (List.mem_filter.mp (Qj h)).1).2
   have Oo:∀ i (h:i < (bf rows).length),pq k2 i=.str (bf rows)[i].1:=fun i h=>by
    unfold pq
    rw [Qa (by omega)]
    show kV k2[i].1=_
    rw [(DY.at_ i (by omega) h).1];rfl
   have X9:∀ i (h:i < (bf rows).length),HV H4 (valAt k2 i) (bf rows)[i].2:=fun i h=>by
    unfold valAt
    rw [Qa (by omega)]
    exact (DY.at_ i (by omega) h).2
   have Hg:∀ i (h:i < (bf rows).length),(bf rows)[i].1 ∉ ((bf rows).take i).map (·.1):=fun i h hm=>by
    obtain ⟨r,hr,e⟩:=List.mem_map.mp hm
    obtain ⟨j,hj,rfl⟩:=Qi hr
    have s_:j < i:=by simp at hj;omega
    rw [List.getElem_take] at e
    have:=List.pairwise_iff_getElem.mp Bc j i (by simp;omega) (by simpa using h) s_
    simp only [Qr] at this
    exact this e
   have Oq:∀ i (h:i < (bf rows).length),(bf rows).take (i+1)=(bf rows).take i++[(bf rows)[i]]:=fun i h=>by rw [Qs,Qa h];rfl
   clear q1 q2 q3 hD qi
   -- marks
   refine fH ⟨x,C,dx,_,.ref D,rfl,Bp,cl,na "heads" (by simp),by rw [bM,if_pos rfl],D,k2,rfl,.inl ⟨o2,g2,fun D3 CF=>?_⟩⟩
   have Fw:D3≠x:=fun z=>by rw [z,Bp] at CF;cases CF
   refine tM (mV k2) (fun i τ H5=>∃ (v0 v1:Option V) (kvs:List (Key×V)),τ=[v0,v1]/\H5 D3=some (.dK kvs)/\DV RM H5 kvs ((bf rows).take i)/\aa H4 H5) ⟨none,none,[],rfl,aA,DV.nil,aa.upd CF _⟩ (by rintro i τ H5 _ ⟨_,_,_,_,_,_,s⟩;exact s _ _ g2) ?_ ?_
   ·rintro i τ H5 T5 hi ⟨v0,v1,kvs,rfl,q1,q2,q3⟩ hT
    have gj:i < (bf rows).length:=by omega
    rw [Oo i gj]
    have hv:=X9 i gj
    generalize valAt k2 i=v at hv
    have t1:=aa.upd hT (.tup [.str (bf rows)[i].1,v])
    generalize upd H5 T5 (.tup [.str (bf rows)[i].1,v])=H6 at t1
    have Ot:=hv.same (q3.trans t1)
    obtain ⟨c,ys,rfl,hc⟩:=Ot.dc
    refine ⟨_,.str (bf rows)[i].2.dc,.inr (aj.of hc),aK _ _,.ref c,(bf rows)[i].2,ns,rfl,Ot,Om i gj,G_.same (q3.trans t1),Hf.same (q3.trans t1),fun L us H7 hL eL sv s7=>?_⟩
    refine ⟨L,us,rfl,.inl ⟨af.of eL,fun l hl=>⟨(show 2<=sizeLine by decide),fun t ht=>?_⟩⟩⟩
    have s8:=(s7.trans (aa.upd hl (.tup us))).trans (aa.upd ht (.tup [.str (bf rows)[i].2.dc,.ref l]))
    have el:upd (upd H7 l (.tup us)) t (.tup [.str (bf rows)[i].2.dc,.ref l]) l=some (.tup us):=aa.upd ht _ _ _ aA
    have et:upd (upd H7 l (.tup us)) t (.tup [.str (bf rows)[i].2.dc,.ref l]) t=some (.tup [.str (bf rows)[i].2.dc,.ref l]):=aA
    have Ou:SV (upd (upd H7 l (.tup us)) t (.tup [.str (bf rows)[i].2.dc,.ref l])) us ((bf rows)[i].2.bc.map (·.1)):=sv.keep fun b ys r=>r.same ((aa.upd hl _).trans (aa.upd ht _))
    dsimp only
    generalize upd (upd H7 l (.tup us)) t (.tup [.str (bf rows)[i].2.dc,.ref l])=H8 at s8 el et Ou
    have g3:=(t1.trans s8) _ _ q1
    have kl:kvs.length < sizeLine:=by have h1:=q2.len;simp at h1;omega
    have kp:Tk H8 (upd H8 D3 (.dK (kvs++[(.inr (bf rows)[i].1,.ref t)]))):=(Tk.refl).set g3 fun xs z=>nomatch z
    refine ⟨kvs,.inr (bf rows)[i].1,rfl,g3,kl,_,_,kvs++[(.inr (bf rows)[i].1,.ref t)],rfl,?_,?_,((q3.trans t1).trans s8).put CF⟩
    ·rw [q2.put (Hg i gj)];exact aA
    ·rw [Oq i gj,q2.put (Hg i gj)]
     have kr:∀ b ys,be H8 b ys->be (upd H8 D3 (.dK (kvs++[(.inr (bf rows)[i].1,.ref t)]))) b ys:=fun b ys r=>r.put g3 (fun _ z=>nomatch z) fun _ _ z=>nomatch z
     refine ((q2.keep fun v r ⟨b,c,us,e1,e2,e3,e4⟩=>⟨b,c,us,e1,(t1.trans s8) _ _ e2,(t1.trans s8) _ _ e3,e4.keep fun b ys r=>r.same (t1.trans s8)⟩:DV RM H8 kvs _).snoc (show RM H8 (.ref t) (bf rows)[i] from ⟨t,l,us,rfl,et,el,Ou⟩)).keep fun v r ⟨b,c,us,e1,e2,e3,e4⟩=>⟨b,c,us,e1,kp _ _ e2,kp _ _ e3,e4.keep kr⟩
   ·rintro τ H5 ⟨v0,v1,k3,rfl,q1,q2,q3⟩
    rw [Ol,Qo] at q2
    refine ⟨D3,rfl,.inl ⟨k3,.inl q1,fun o3=>?_⟩⟩
    refine ⟨x,C,dx,_,rfl,by rw [aB Fw.symm];exact q3 _ _ Bp,cl,na "marks" (by simp),X7 2,?_⟩
    have nd3:d1≠D3:=fun z=>by rw [z,CF] at vq;cases vq
    have nD2:D≠D3:=fun z=>by rw [z,CF] at g2;cases g2
    generalize Ov:br "marks" (.ref D3) (br "heads" (.ref D) (br "rows" (.ref d1) []))=ie
    have lk:∀ y:Str,ie.lookup y=if y="marks" then some (.ref D3) else if y="heads" then some (.ref D) else if y="rows" then some (.ref d1) else none:=fun y=>by rw [<- Ov,bM,bM,bM];rfl
    have fl:ie.length<=3:=by rw [<- Ov];have h1:=bF "marks" (.ref D3) (br "heads" (.ref D) (br "rows" (.ref d1) []));have h2:=bF "heads" (.ref D) (br "rows" (.ref d1) []);have h3:=bF "rows" (.ref d1) [];simp at h3;omega
    have CG:Sx x H4 (upd (upd H5 D3 (.ae o3 (.dK k3))) x (.ins C dx ie)):=((q3.put CF:aa _ _) |> aa.sx).trans Sx.upd
    have g3:upd (upd H5 D3 (.ae o3 (.dK k3))) x (.ins C dx ie) D3=some (.ae o3 (.dK k3)):=by rw [aB Fw];exact aA
    have Bq:upd (upd H5 D3 (.ae o3 (.dK k3))) x (.ins C dx ie) x=some (.ins C dx ie):=aA
    have Hh:Tk H5 (upd (upd H5 D3 (.ae o3 (.dK k3))) x (.ins C dx ie)):=((Tk.refl).set q1 fun xs z=>nomatch z).set (by rw [aB Fw.symm];exact q3 _ _ Bp) fun xs z=>by cases z
    have Ox:∀ b ys,be H5 b ys->be (upd (upd H5 D3 (.ae o3 (.dK k3))) x (.ins C dx ie)) b ys:=fun b ys r=>(r.put q1 (fun _ z=>nomatch z) fun _ _ z=>nomatch z).put (by rw [aB Fw.symm];exact q3 _ _ Bp) (fun _ z=>by cases z) fun _ _ z=>by cases z
    have Oz:DV RM (upd (upd H5 D3 (.ae o3 (.dK k3))) x (.ins C dx ie)) k3 (bf rows):=q2.keep fun v r ⟨b,c,us,e1,e2,e3,e4⟩=>⟨b,c,us,e1,Hh _ _ e2,Hh _ _ e3,e4.keep Ox⟩
    have Km:DV RH (upd (upd H5 D3 (.ae o3 (.dK k3))) x (.ins C dx ie)) k2 (bf rows):=DY.keep fun v r h=>HV.tk ((q3.ts).trans Hh) h
    generalize upd (upd H5 D3 (.ae o3 (.dK k3))) x (.ins C dx ie)=H6 at CG g3 Bq Oz Km ⊢
    have Hi:H6 d1=some (.ae o1 (.dK (iq rows))):=CG _ _ zm vq
    have Fx:H6 D=some (.ae o2 (.dK k2)):=CG _ _ Fv g2
    have Ko:Kn mg H6 "FROM" [.str "from"]:=let ⟨o,e⟩:=G_;⟨o,CG.ae (fun q u z=>by rw [Bp] at z;cases z) e⟩
    have Kp:Kn mg H6 "TO" [.str "to"]:=let ⟨o,e⟩:=Hf;⟨o,CG.ae (fun q u z=>by rw [Bp] at z;cases z) e⟩
    have X_:∀ i (h:i < (bf rows).length),HV H6 (valAt k2 i) (bf rows)[i].2:=fun i h=>by
     unfold valAt
     rw [Qa (by omega)]
     exact (Km.at_ i (by omega) h).2
    have Yb:=Kl.trans CG
    have Yc:∀ z∈ns,z∈rows.map (·.1):=fun z hz=>rt.nm.mem_iff.mpr hz
    clear q1 q2 q3 Hh Ox DY CG
    -- moves
    refine n5 ⟨x,C,dx,ie,.ref D,rfl,Bq,cl,na "heads" (by simp),by rw [lk,if_neg (by decide+kernel),if_pos rfl],D,k2,rfl,.inl ⟨o2,Fx,fun D4 Br=>?_⟩⟩
    have Hj:D4≠x:=fun z=>by rw [z,Bq] at Br;cases Br
    refine tM (mV k2) (fun i τ H7=>∃ (v0 v1:Option V) (kvs:List (Key×V)),τ=[v0,v1,some (.ref x)]/\H7 D4=some (.dK kvs)/\DV (RO rows) H7 kvs ((bf rows).take i)/\aa H6 H7) ⟨none,none,[],rfl,aA,DV.nil,aa.upd Br _⟩ (by rintro i τ H5 _ ⟨_,_,_,_,_,_,s⟩;exact s _ _ Fx) ?_ ?_
    ·rintro i τ H7 T7 hi ⟨v0,v1,kvs,rfl,q1,q2,q3⟩ hT
     have gj:i < (bf rows).length:=by omega
     rw [Oo i gj]
     have hv:=X_ i gj
     generalize valAt k2 i=v at hv
     have t1:=aa.upd hT (.tup [.str (bf rows)[i].1,v])
     generalize upd H7 T7 (.tup [.str (bf rows)[i].1,v])=H8 at t1
     have q4:=q3.trans t1
     refine ⟨x,C,dx,ie,.ref d1,rfl,q4 _ _ Bq,cl,na "rows" (by simp),by rw [lk,if_neg (by decide+kernel),if_neg (by decide+kernel),if_pos rfl],?_⟩
     refine ⟨v,(bf rows)[i].2,ns,rows,d1,rfl,hv.same q4,Om i gj,Ko.same q4,Kp.same q4,.inr ⟨o1,q4 _ _ Hi⟩,Yc,jn,fun m H9 hm em s9=>⟨m,rfl,.inr ⟨_,.inl em,fun o=>?_⟩⟩⟩
     have nmD:D4≠m:=fun z=>by
      have:=t1 _ _ q1
      rw [z,hm] at this;cases this
     have zo:aa H8 (upd H9 m (.ae o (.dT (kq rows (bf rows)[i].2)))):=s9.put hm
     have OA:upd H9 m (.ae o (.dT (kq rows (bf rows)[i].2))) m=some (.ae o (.dT (kq rows (bf rows)[i].2))):=aA
     generalize upd H9 m (.ae o (.dT (kq rows (bf rows)[i].2)))=CH at zo OA
     have OB:=(t1.trans zo) _ _ q1
     have kl:kvs.length < sizeLine:=by have h1:=q2.len;simp at h1;omega
     refine ⟨kvs,.inr (bf rows)[i].1,rfl,OB,kl,_,_,kvs++[(.inr (bf rows)[i].1,.ref m)],rfl,?_,?_,(q4.trans zo).put Br⟩
     ·rw [q2.put (Hg i gj)];exact aA
     ·rw [Oq i gj,q2.put (Hg i gj)]
      refine ((q2.keep fun v r ⟨m',o',e1,e2⟩=>⟨m',o',e1,(t1.trans zo) _ _ e2⟩:DV (RO rows) CH kvs _).snoc (show RO rows CH (.ref m) (bf rows)[i] from ⟨m,o,rfl,OA⟩)).keep fun v r ⟨m',o',e1,e2⟩=>⟨m',o',e1,?_⟩
      rw [aB (fun z=>by rw [z,OB] at e2;cases e2)]
      exact e2
    ·rintro τ H7 ⟨v0,v1,k4,rfl,q1,q2,q3⟩
     rw [Ol,Qo] at q2
     refine ⟨D4,rfl,.inl ⟨k4,.inl q1,fun o4=>?_⟩⟩
     refine ⟨x,C,dx,ie,rfl,by rw [aB Hj.symm];exact q3 _ _ Bq,cl,na "moves" (by simp),by omega,?_⟩
     have abi:d1≠D4:=fun z=>by rw [z,Br] at Hi;cases Hi
     have abj:D≠D4:=fun z=>by rw [z,Br] at Fx;cases Fx
     have abk:D3≠D4:=fun z=>by rw [z,Br] at g3;cases g3
     have s7:Sx x H6 (upd (upd H7 D4 (.ae o4 (.dK k4))) x (.ins C dx (br "moves" (.ref D4) ie))):=((q3.put Br:aa _ _) |> aa.sx).trans Sx.upd
     have Kq:Tk H7 (upd (upd H7 D4 (.ae o4 (.dK k4))) x (.ins C dx (br "moves" (.ref D4) ie))):=((Tk.refl).set q1 fun xs z=>nomatch z).set (by rw [aB Hj.symm];exact q3 _ _ Bq) fun xs z=>by cases z
     have Yd:∀ b ys,be H7 b ys->be (upd (upd H7 D4 (.ae o4 (.dK k4))) x (.ins C dx (br "moves" (.ref D4) ie))) b ys:=fun b ys r=>(r.put q1 (fun _ z=>nomatch z) fun _ _ z=>nomatch z).put (by rw [aB Hj.symm];exact q3 _ _ Bq) (fun _ z=>by cases z) fun _ _ z=>by cases z
     have Ye:∀ b q u,H7 b=some (.ae q u)->upd (upd H7 D4 (.ae o4 (.dK k4))) x (.ins C dx (br "moves" (.ref D4) ie)) b=some (.ae q u):=fun b q u e=>by
      rw [aB (fun z=>by rw [z,q3 _ _ Bq] at e;cases e),aB (fun z=>by rw [z,q1] at e;cases e)]
      exact e
     have l4:∀ y:Str,(br "moves" (.ref D4) ie).lookup y=if y="moves" then some (.ref D4) else ie.lookup y:=fun y=>bM _ _ _ _
     refine k _ ⟨dx,br "moves" (.ref D4) ie,aA,⟨⟨d1,o1,?_,s7 _ _ zm Hi⟩,⟨D,o2,k2,?_,s7 _ _ Fv Fx,Km.keep fun v r h=>HV.tk (q3.ts.trans Kq) h⟩,⟨D3,o3,k3,?_,s7 _ _ Fw g3,Oz.keep fun v r ⟨b,c,us,e1,e2,e3,e4⟩=>⟨b,c,us,e1,Kq _ _ (q3 _ _ e2),Kq _ _ (q3 _ _ e3),e4.keep fun b ys r=>Yd _ _ (r.same q3)⟩⟩,⟨D4,o4,k4,?_,?_,q2.keep fun v r ⟨m,o,e1,e2⟩=>⟨m,o,e1,Ye _ _ _ e2⟩⟩⟩⟩ (Yb.trans s7)
     ·rw [l4,if_neg (by decide+kernel),lk,if_neg (by decide+kernel),if_neg (by decide+kernel),if_pos rfl]
     ·rw [l4,if_neg (by decide+kernel),lk,if_neg (by decide+kernel),if_pos rfl]
     ·rw [l4,if_neg (by decide+kernel),lk,if_pos rfl]
     ·rw [l4,if_pos rfl]
     ·rw [aB Hj];exact aA
def dbl (ns:List Str):List Str:=ns.flatMap fun n=>[n++"q",n++"r"]
theorem dP:z∈dbl ns↔∃ n∈ns,z=n++"q"\/z=n++"r":=by
 unfold dbl
 rw [List.mem_flatMap]
 constructor
 ·rintro ⟨n,hn,h⟩
  simp only [Qp,QB,or_false] at h
  exact ⟨n,hn,h⟩
 ·rintro ⟨n,hn,h⟩
  exact ⟨n,hn,by simpa using h⟩
theorem xB:∀ z∈dbl N8,isName z=true/\Wd z:=by
 have h1:(dbl N8).all (fun z=>isName z&&decide (z.length<=20)&&z.cps.toList.all (fun c=>decide (c < 128)))=true:=by decide+kernel
 intro z hz
 have h2:=List.all_eq_true.mp h1 z hz
 simp only [Bool.and_eq_true,decide_eq_true_eq] at h2
 exact ⟨h2.1.1,h2.1.2,fun c hc=>Qt (List.all_eq_true.mp h2.2 c hc)⟩
theorem nM (ns:List Str):(dbl ns).length=2*ns.length:=by
 unfold dbl
 induction ns with
 | nil=>rfl
 | cons n ns ih=>rw [List.flatMap_cons,Qk,ih];simp;omega
theorem wW (ns:List Str) (i:Nat) (h:i < ns.length):(dbl ns)[2*i]? =some (ns[i]++"q")/\(dbl ns)[2*i+1]? =some (ns[i]++"r"):=by
 unfold dbl
 induction ns generalizing i with
 | nil=>simp at h
 | cons n ns ih=>
  rw [List.flatMap_cons]
  cases i with
  | zero=>exact ⟨rfl,rfl⟩
  | succ i=>
   have:=ih i (by simpa using h)
   rw [show 2*(i+1)=2*i+2 by omega,show 2*i+2+1=2*i+1+2 by omega]
   simpa using this
theorem Yg (h:ns.Nodup) (h8:∀ n∈ns,n∈N8):(dbl ns).Nodup:=by
 have inj:∀ a∈N8,∀ b∈N8,∀ c∈(["q","r"]:List Str),∀ d∈(["q","r"]:List Str),a++c=b++d->a=b/\c=d:=by decide+kernel
 unfold dbl
 induction ns with
 | nil=>exact List.nodup_nil
 | cons n ns ih=>
  rw [List.nodup_cons] at h
  rw [List.flatMap_cons,List.nodup_append]
  refine ⟨?_,ih h.2 fun m hm=>h8 m (Qh _ hm),fun a ha b hb e=>?_⟩
  ·have:=inj n (h8 n List.mem_cons_self) n (h8 n List.mem_cons_self) "q" (by simp) "r" (by simp)
   simp only [List.nodup_cons,List.mem_singleton,List.not_mem_nil,not_false_eq_true,List.nodup_nil,and_true]
   exact fun z=>absurd (this z).2 (by decide+kernel)
  ·obtain ⟨m,hm,hb⟩:=List.mem_flatMap.mp hb
   subst e
   simp only [Qp,QB,or_false] at ha hb
   have key:∀ c∈(["q","r"]:List Str),∀ d∈(["q","r"]:List Str),n++c=m++d->False:=fun c hc d hd e=>by
    have:=(inj n (h8 n List.mem_cons_self) m (h8 m (Qh _ hm)) c hc d hd e).1
    rw [this] at h
    exact h.1 hm
   rcases ha with rfl | rfl<;>rcases hb with hb | hb
   ·exact key "q" (by simp) "q" (by simp) hb
   ·exact key "q" (by simp) "r" (by simp) hb
   ·exact key "r" (by simp) "q" (by simp) hb
   ·exact key "r" (by simp) "r" (by simp) hb
def Kr (K:Q1):Sp:=fun vs H Q _=>∃ (H0:Hp) (p:Addr) (v:V) (h:Hd) (t:Nat) (ns:List Str),vs=[.ref p,v]/\b_ K H0 H p t/\t+20 < 900000/\HV H v h/\h.ok ns/\(∀ n∈ns,n∈N8)/\(∀ z∈h.Ca,z∈WW)/\
 ∀ (v':V) (h':Hd) (H':Hp),HV H' v' h'->h'.ok (dbl ns)->(∀ y',h'.nx=some y'->∃ y,h.nx=some y/\(y'=y++"q"\/y'=y++"r"))->(∀ z∈h'.Ca,z∈WW)->b_ K H0 H' p (t+20)->Sm p p H H'->Q v' H'
theorem OC (i:Nat) (h:i < 2):∃ c,nc (("qr":Str).cps.toList) (i:Int)=some c/\((⟨#[c]⟩:Str)="q"\/(⟨#[c]⟩:Str)="r"):=by
 match i,h with
 | 0,_=>exact ⟨113,rfl,.inl rfl⟩
 | 1,_=>exact ⟨114,rfl,.inr rfl⟩
set_option maxHeartbeats 2000000 in
theorem jJ (T:Txt K mg w):bj P w K mg base 3 "_law_twin_head" ["_law_pen","_law_here"] (Kr K):=by
 have aT:bj P w K mg base 2 "_law_next" ["_law_pen","_law_many"] (Bk K):=cK T
 refine T.kH.gg j0 (fun vs H Q E h=>?_) (fun f ay A outer s H vs Q E hr h=>?_)
 ·refine hdn fun Gz9 zG9=>?_;obtain ⟨H0,p,v,h,t,ns,rfl,_⟩:=h;refine zG9 ?_
  rfl
 ·refine hdn fun Gz9 zG9=>?_;obtain ⟨H0,p,v,h,t,ns,rfl,hn,ht,hv,hok,h8,Hl,k⟩:=h;refine zG9 ?_
  have hu:=aV hr
  have ff:=Qy (aV hr)
  have hsz:sizeLine=16777216:=QM
  have Ho:∀ z∈ns,z.length<=8:=fun z hz=>fS (pU z (h8 z hz)).1
  have Cv:∀ z∈dbl ns,isName z=true:=fun z hz=>by
   obtain ⟨n,hn,h⟩:=dP.mp hz
   exact (xB z (dP.mpr ⟨n,h8 n hn,h⟩)).1
  refine ⟨_,(aE (eG (aU (rZ K) (bB (bC K) (zv 1) aH (fun _ _=>rfl)) (bI (aF aY (aF aY aC))) rfl) (aG (bE (zv 1))) cH)
   (aE (eG (aU (rZ K) (bB (bC K) (zv 1) aH (fun _ _=>rfl)) (bI (aF aY (aF aY aC))) rfl) (aG (bE (cM (u7 K) (iU (xP K) (zv 1) iV (iR aH)) (cJ (dW K) (by rfl) T.gQ QH (gJ (nU (own:=["_law_name"]) (idx:=[0]) (N':=["_law_name","_law_pen"]) (cZ (a_ cA) (["_law_pen","_law_here"]:List Str) (by decide+kernel)) rfl (jT K (iU (xP K) (zv 1) (iR aH) iV)) (fun _ _ _ _ _ _=>(aI (i:=0) (show List.Nodup (["_law_name","_law_pen"]:List Str) by decide+kernel) rfl (Or.inl rfl))) (fun _ _ _ _ _ _=>dL) (fun _ _ _ _ _ _=>(cM cL (zv 0) (bB (bC K) aY (bQ aT (hr.mono (by decide)) (aD (zv 1) (aF aH aC))) (fun _ _=>rfl))))) aC))))) cH)
   (aG (bE (bI (aN (bB (bC K) (zv 1) aH (fun _ _=>rfl)) (aX (cJ (dW K) (by rfl) T.gQ QH (gJ (nU (own:=["_law_word","_law_name"]) (idx:=[0]) (N':=["_law_word","_law_name","_law_pen"]) (cZ (a_ cA) (["_law_pen","_law_here"]:List Str) (by decide+kernel)) rfl (jT K (bB (bC K) (zv 1) aH (fun _ _=>rfl))) (fun _ _ _ _ _ _=>(d6 K (n:=2) rfl (aM (aI (i:=0) (show List.Nodup (["_law_word","_law_name","_law_pen"]:List Str) by decide+kernel) rfl (Or.inl rfl)) (aM (aI (i:=1) (show List.Nodup (["_law_word","_law_name","_law_pen"]:List Str) by decide+kernel) rfl (Or.inl rfl)) cC)))) (fun _ _ _ _ _ _=>dL) (fun _ _ _ _ _ _=>(bI (aD (zv 0) (iX (cM cL (zv 1) (bB (bC K) aY (bQ aT (hr.mono (by decide)) (aD (zv 2) (aF aH aC))) (fun _ _=>rfl))) aC))))) aC)) aC))))))),?_⟩
  /- C1 first two tests -/
  have tests:∀ (b:Addr) (z:Str) (ys:List V) (A B:TS) (D:Ends) (l1 l2:Str),H b=some (.tup (.str z::ys))->((z∈([l1,l2]:List Str))->∀ H1,aa H H1->A D [some (.ref p),some (.ref b)] H1)->((z ∉ ([l1,l2]:List Str))->∀ H1,aa H H1->B D [some (.ref p),some (.ref b)] H1)->
    ∀ H1,aa H H1->F7 (Gc (mq (Gq K false) (mq (A1 K) (tV 1) (tC (V.int 0))) (C3 (gu (tC (V.str l1)) (gu (tC (V.str l2)) mw))))) A B D [some (.ref p),some (.ref b)] H1:=by
   intro b z ys A B D l1 l2 e hA hB H1 s1
   refine ⟨_,.str z,.inr (aj.of (s1 _ _ e)),aK _ _,(show 2<=sizeLine by decide),fun T1 Fy=>⟨[.str l1,.str l2],.inr (aj.of aA),rfl,rfl,_,rfl,?_⟩⟩
   show if (false^^AX (.str z) (([l1,l2]:List Str).map V.str))=true then _ else _
   rw [lN,QF]
   by_cases hz:z∈([l1,l2]:List Str)
   ·rw [Qw hz];exact B0 (hA hz _ (s1.trans (aa.upd Fy _)))
   ·rw [Qx hz];exact Ai (hB hz _ (s1.trans (aa.upd Fy _)))
  have plain:∀ (b:Addr) (z0:Str) (ys:List Str),H b=some (.tup (.str z0::ys.map V.str))->(ys.length=1\/ys.length=2)->(∀ y∈ys,y.length<=8)->(∀ (pp:Addr) (zs:List Str) (H':Hp),H' pp=some (.tup (.str z0::zs.map V.str))->zs.length=ys.length->(∀ i (h1:i < zs.length) (h2:i < ys.length),zs[i]=ys[i]++"q"\/zs[i]=ys[i]++"r")->b_ K H0 H' p (t+20)->Sm p p H H'->Q (.ref pp) H')->
    ∀ H1,aa H H1->CU (mq (GP K) (C6 (fun x lo hi H Q=>A2 x lo hi H Q\/(AV K x lo hi H Q\/AU K x lo hi H Q)) (tV 1) C4 (C5 (tC (V.int 1)))) (BU (Mr K) (gu (B3 ["_law_name"] [0] (iD K (C6 (fun x lo hi H Q=>A2 x lo hi H Q\/(AV K x lo hi H Q\/AU K x lo hi H Q)) (tV 1) (C5 (tC (V.int 1))) C4)) (jc 0) Dc (mq Iz (tV 0) (mq (A1 K) (tC (V.str "qr")) (Er (Bk K) [] E0 (gu (tV 1) (gu (tC (V.int 2)) mw)))))) mw))) {nx:=fun _ H'=>Q .ai H',rt:=Q} [some (.ref p),some (.ref b)] H1:=by
   intro b z0 ys e hl Yh kk H1 s1
   have e1:=s1 _ _ e
   have el:(V.str z0::ys.map V.str).length=ys.length+1:=by simp
   refine ⟨1,rfl,Or.inr (Or.inr ⟨b,_,rfl,aj.of e1,?_,fun N hN=>?_⟩)⟩
   ·rw [el];rcases hl with h | h<;>(rw [h];decide)
   have ec:oz (V.str z0::ys.map V.str) none (some 1)=[.str z0]:=(zI _ 1).trans rfl
   rw [ec]
   have s2:=s1.trans (aa.upd hN (.tup [.str z0]))
   have f2:upd H1 N (.tup [.str z0]) N=some (.tup [.str z0]):=aA
   dsimp only
   generalize upd H1 N (.tup [.str z0])=H2 at s2 f2 ⊢
   refine ⟨1,rfl,Or.inr (Or.inr ⟨b,_,rfl,aj.of (s2 _ _ e),?_,fun M hM=>?_⟩)⟩
   ·rw [el];rcases hl with h | h<;>(rw [h];decide)
   have Yi:oz (V.str z0::ys.map V.str) (some 1) none=ys.map V.str:=(pI _ 1).trans rfl
   rw [Yi]
   have s3:=s2.trans (aa.upd hM (.tup (ys.map V.str)))
   have f3:upd H2 M (.tup (ys.map V.str)) M=some (.tup (ys.map V.str)):=aA
   have OD:=(aa.upd hM (.tup (ys.map V.str))) _ _ f2
   generalize upd H2 M (.tup (ys.map V.str))=H3 at s3 f3 OD ⊢
   refine Or.inr ⟨⟨_,aj.of f3⟩,fun D hD=>?_⟩
   have qh:=hn.same s3
   have qf:D≠p:=qh.ne hD
   have fD:=qh.free hD
   have yi:H D=none:=s3.free hD
   refine gZ (dD (ys.map V.str)) (fun i τ H'=>∃ (v0:Option V) (zs:List Str),τ=[v0,some (.ref p)]/\H' D=some (.lst (zs.map V.str))/\zs.length=i/\(∀ j (h1:j < zs.length) (h2:j < ys.length),zs[j]=ys[j]++"q"\/zs[j]=ys[j]++"r")/\b_ K H0 H' p (t+i)/\Sm p p H H'/\Tk H3 H')
    ⟨none,[],rfl,aA,rfl,fun j h=>absurd h (by simp),qh.same (aa.upd hD _),(s3.trans (aa.upd hD _)).sm,(aa.upd hD _).ts⟩ (by rintro i τ H' _ ⟨_,_,_,_,_,_,_,_,tk⟩;exact aj.of (tk _ _ f3)) ?_ ?_
   ·rintro i τ H4 hi z0;refine hdn fun Gz9 zG9=>?_;obtain ⟨v0,zs,rfl,q1,q2,q3,q4,q5,q6⟩:=z0;refine zG9 ?_
    rw [Ql] at hi
    rw [g9 ys i hi]
    have ey:ys.getD i ""=ys[i]:=by rw [Qb,Qa hi];rfl
    rw [ey]
    have hy:=Yh _ (Qj hi)
    refine ⟨H0,p,2,t+i,rfl,q4,⟨by decide,by decide⟩,by omega,fun r H5 r0 r1 ud jb=>?_⟩
    obtain ⟨j,rfl⟩:∃ j:Nat,r=(j:Int):=⟨r.toNat,by omega⟩
    obtain ⟨c,nj,lu⟩:=OC j (by omega)
    refine ⟨(show 2<=sizeLine by decide),c,nj,⟨by show ys[i].length+1<=sizeLine;omega,?_⟩⟩
    have g1:=jb _ _ q1 qf qf
    have Yj:Tk H4 (upd H5 D (.lst (zs.map V.str++[.str (ys[i]++⟨#[c]⟩)]))):=(q4.ts jb).trans (Tk.refl.set g1 (fun _ z=>nomatch z))
    refine ⟨_,g1,by simp;omega,_,zs++[ys[i]++⟨#[c]⟩],rfl,by rw [aA,Qm];rfl,by simp [q2],fun j' h1 h2=>?_,ud.put qf fD,(q5.trans jb).upd yi,q6.trans Yj⟩
    by_cases hj:j' < zs.length
    ·rw [Qe hj];exact q3 j' hj h2
    ·have ej:j'=zs.length:=by simp at h1;omega
     subst ej
     rw [Qf (Qz _)]
     simp only [Nat.sub_self,List.getElem_cons_zero]
     subst q2
     rcases lu with h | h
     ·rw [h];exact .inl rfl
     ·rw [h];exact .inr rfl
   ·rintro τ H4 z0;refine hdn fun Gz9 zG9=>?_;obtain ⟨v0,zs,rfl,q1,q2,q3,q4,q5,q6⟩:=z0;refine zG9 ?_
    rw [Ql] at q2 q4
    refine ⟨D,_,rfl,.inl ⟨af.of q1,fun N2 Ks=>?_⟩⟩
    have s5:=aa.upd Ks (.tup (zs.map V.str))
    have f5:upd H4 N2 (.tup (zs.map V.str)) N2=some (.tup (zs.map V.str)):=aA
    dsimp only
    generalize upd H4 N2 (.tup (zs.map V.str))=H5 at s5 f5 ⊢
    refine MY (s5 _ _ (q6 _ _ OD)) f5 (by simp;omega) fun pp H6 s6 e6=>?_
    exact kk pp zs H6 e6 q2 q3 (((q4.same s5).same s6).mono (by omega)) ((q5.trans s5.sm).trans s6.sm)
  cases hv with
  | @one b z e=>
   refine tests b z [] _ _ _ "all" "none" e (fun hz H1 s1=>?_) (fun hz H1 s1=>?_) H (aa.refl _)
   ·exact k (.ref b) (.one z) H1 (.one (s1 _ _ e)) hok (fun y h=>nomatch h) (fun _ h=>nomatch h) ((hn.same s1).mono (by omega)) s1.sm
   ·exact absurd (by rcases hok with rfl | rfl<;>simp) hz
  | @as b y e=>
   refine tests b "as" [.str y] _ _ _ "all" "none" e (fun hz H1 s1=>absurd hz (by decide+kernel)) (fun hz H1 s1=>?_) H (aa.refl _)
   refine tests b "as" [.str y] _ _ _ "way" "as" e (fun hz H1 s1=>?_) (fun hz H1 s1=>absurd (by simp) hz) H1 s1
   refine plain b "as" [y] e (.inl rfl) (fun z hz=>by rw [List.mem_singleton.mp hz];exact Ho _ hok.2) (fun pp zs H' e' hl hz Ek Ku=>?_) H1 s1
   match zs,hl with
   | [y'],_=>
    have h0:=hz 0 (by simp) (by simp)
    have hm:y'∈dbl ns:=dP.mpr ⟨y,hok.2,h0⟩
    exact k (.ref pp) (.as y') H' (.as e') ⟨Cv _ hm,hm⟩ (fun y2 h2=>by cases h2;exact ⟨y,rfl,h0⟩) (fun _ h=>nomatch h) Ek Ku
  | @way b x y e=>
   refine tests b "way" [.str x,.str y] _ _ _ "all" "none" e (fun hz H1 s1=>absurd hz (by decide+kernel)) (fun hz H1 s1=>?_) H (aa.refl _)
   refine tests b "way" [.str x,.str y] _ _ _ "way" "as" e (fun hz H1 s1=>?_) (fun hz H1 s1=>absurd (by simp) hz) H1 s1
   refine plain b "way" [x,y] e (.inr rfl) (fun z hz=>?_) (fun pp zs H' e' hl hz Ek Ku=>?_) H1 s1
   ·simp only [Qp,QB,or_false] at hz
    rcases hz with rfl | rfl
    ·exact Ho _ hok.2.2.1
    ·exact Ho _ hok.2.2.2
   match zs,hl with
   | [x',y'],_=>
    have h0:=hz 0 (by simp) (by simp)
    have h1:=hz 1 (by simp) (by simp)
    have DR:x'∈dbl ns:=dP.mpr ⟨x,hok.2.2.1,h0⟩
    have Fi:y'∈dbl ns:=dP.mpr ⟨y,hok.2.2.2,h1⟩
    exact k (.ref pp) (.way x' y') H' (.way e') ⟨Cv _ DR,Cv _ Fi,DR,Fi⟩ (fun y2 h2=>nomatch h2) (fun _ h=>nomatch h) Ek Ku
  | @prs b c s0 ys ps e ec hp=>
   have OE:s0 ∉ (["all","none"]:List Str)/\s0 ∉ (["way","as"]:List Str):=by rcases hok.1 with rfl | rfl<;>decide+kernel
   refine tests b s0 [.ref c] _ _ _ "all" "none" e (fun hz H1 s1=>absurd hz OE.1) (fun hz H1 s1=>?_) H (aa.refl _)
   refine tests b s0 [.ref c] _ _ _ "way" "as" e (fun hz H1 s1=>absurd hz OE.2) (fun hz H1 s1=>?_) H1 s1
   have gf:=hp.len
   obtain ⟨hs,DZ,Yk,GD⟩:=hok
   refine ⟨_,.str s0,.inr (aj.of (s1 _ _ e)),aK _ _,_,.ref c,.inr (aj.of (s1 _ _ e)),rfl,Or.inr ⟨⟨ys,aj.of (s1 _ _ ec)⟩,fun D hD=>?_⟩⟩
   have qh:=hn.same s1
   have qf:D≠p:=qh.ne hD
   have fD:=qh.free hD
   have yi:H D=none:=s1.free hD
   refine gZ (dD ys) (fun i τ H'=>∃ (v0 v1:Option V) (us:List V) (qs:List (Str×Str)),τ=[v0,v1,some (.ref p)]/\H' D=some (.lst us)/\EU H' us qs/\qs.length=i/\(∀ j (h1:j < qs.length) (h2:j < ps.length),qs[j].1=ps[j].1/\(qs[j].2=ps[j].2++"q"\/qs[j].2=ps[j].2++"r"))/\b_ K H0 H' p (t+i)/\Sm p p H H'/\Tk H1 H')
    ⟨none,none,[],[],rfl,aA,⟨rfl,fun i h=>absurd h (by simp)⟩,rfl,fun j h=>absurd h (by simp),qh.same (aa.upd hD _),(s1.trans (aa.upd hD _)).sm,(aa.upd hD _).ts⟩ (by rintro i τ H' _ ⟨_,_,_,_,_,_,_,_,_,_,_,tk⟩;exact aj.of (tk _ _ (s1 _ _ ec))) ?_ ?_
   ·rintro i τ H4 hi z0;refine hdn fun Gz9 zG9=>?_;obtain ⟨v0,v1,us,qs,rfl,q1,q2,q3,q4,q5,q6,q7⟩:=z0;refine zG9 ?_
    have yl:i < ps.length:=by omega
    obtain ⟨d0,r1,r2⟩:=hp.at_ i hi yl
    have eg:ys.getD i .ai=.ref d0:=by rw [Qb,Qa hi,r1];rfl
    rw [eg]
    have hy:=Ho _ (DZ _ (Qj yl)).2.2
    refine fJ (q7 _ _ (s1 _ _ r2)) ?_
    refine ⟨H0,p,2,t+i,rfl,q5,⟨by decide,by decide⟩,by omega,fun r H5 r0 Mv ud jb=>?_⟩
    obtain ⟨j,rfl⟩:∃ j:Nat,r=(j:Int):=⟨r.toNat,by omega⟩
    obtain ⟨c',nj,lu⟩:=OC j (by omega)
    refine ⟨(show 2<=sizeLine by decide),c',nj,⟨by show ps[i].2.length+1<=sizeLine;omega,(show 2<=sizeLine by decide),fun T8 Fz=>?_⟩⟩
    have g1:=jb _ _ q1 qf qf
    have s8:=aa.upd Fz (.tup [.str ps[i].1,.str (ps[i].2++⟨#[c']⟩)])
    have f8:upd H5 T8 (.tup [.str ps[i].1,.str (ps[i].2++⟨#[c']⟩)]) T8=some (.tup [.str ps[i].1,.str (ps[i].2++⟨#[c']⟩)]):=aA
    have g8:=s8 _ _ g1
    have OF:=ud.same s8
    have OG:=(q6.trans jb).trans s8.sm (p:=p) (w:=p)
    have DW:Tk H4 (upd H5 T8 (.tup [.str ps[i].1,.str (ps[i].2++⟨#[c']⟩)])):=(q5.ts jb).trans s8.ts
    dsimp only
    generalize upd H5 T8 (.tup [.str ps[i].1,.str (ps[i].2++⟨#[c']⟩)])=H6 at s8 f8 g8 OF OG DW ⊢
    have Kv:Tk H6 (upd H6 D (.lst (us++[.ref T8]))):=Tk.refl.set g8 (fun _ z=>nomatch z)
    have ul:=q2.len
    refine ⟨us,g8,by omega,_,_,us++[.ref T8],qs++[(ps[i].1,ps[i].2++⟨#[c']⟩)],rfl,aA,?_,by simp [q3],fun j' h1 h2=>?_,OF.put qf fD,OG.upd yi,(q7.trans DW).trans Kv⟩
    ·have Yl:=q2.tk (DW.trans Kv)
     refine ⟨by simp [ul],fun i' h1 h2=>?_⟩
     by_cases ip:i' < us.length
     ·rw [Qe ip,Qe (by omega)]
      exact Yl.at_ i' ip (by omega)
     ·have ei:i'=us.length:=by simp at h1;omega
      subst ei
      rw [Qf (Qz _),Qf (by omega)]
      simp only [Nat.sub_self,ul,List.getElem_cons_zero]
      exact ⟨T8,rfl,Kv _ _ f8⟩
    ·by_cases hj:j' < qs.length
     ·rw [Qe hj];exact q4 j' hj h2
     ·have ej:j'=qs.length:=by simp at h1;omega
      subst ej
      rw [Qf (Qz _)]
      simp only [Nat.sub_self,List.getElem_cons_zero]
      subst q3
      rcases lu with h | h
      ·rw [h];exact ⟨rfl,.inl rfl⟩
      ·rw [h];exact ⟨rfl,.inr rfl⟩
   ·rintro τ H4 z0;refine hdn fun Gz9 zG9=>?_;obtain ⟨v0,v1,us,qs,rfl,q1,q2,q3,q4,q5,q6,q7⟩:=z0;refine zG9 ?_
    rw [gf] at q3 q5
    refine ⟨D,_,rfl,.inl ⟨af.of q1,fun N2 Ks=>⟨(show 2<=sizeLine by decide),fun N3 Ym=>?_⟩⟩⟩
    have s5:=aa.upd Ks (.tup us)
    have f5:upd H4 N2 (.tup us) N2=some (.tup us):=aA
    have s6:=aa.upd Ym (.tup [.str s0,.ref N2])
    have Kw:=s5.trans s6
    have OH:qs.map (·.1)=ps.map (·.1):=by
     refine List.ext_getElem (by simp;omega) fun i h1 h2=>?_
     simp only [Qr]
     exact (q4 i (by simpa using h1) (by simpa using h2)).1
    refine k (.ref N3) (.prs s0 qs) _ (.prs aA (s6 _ _ f5) (q2.tk Kw.ts)) ⟨hs,fun q hq=>?_,by rw [OH];exact Yk,by omega⟩ (fun y h=>nomatch h) (fun z hz=>?_) ((q5.same Kw).mono (by omega)) (q6.trans Kw.sm)
    ·obtain ⟨i,hi,rfl⟩:=Qi hq
     obtain ⟨g1,g2⟩:=q4 i hi (by omega)
     have OI:=DZ _ (Qj (show i < ps.length by omega))
     have hm:qs[i].2∈dbl ns:=dP.mpr ⟨_,OI.2.2,g2⟩
     exact ⟨by rw [g1];exact OI.1,Cv _ hm,hm⟩
    ·have:z∈ps.map (·.1):=by rw [<- OH];exact hz
     exact Hl z this
def OJ (K:Q1):Sp:=fun vs H Q _=>∃ (H0:Hp) (p a:Addr) (t:Nat) (xs:List V) (rows:List ak) (ns:List Str),vs=[.ref p,.ref a]/\b_ K H0 H p t/\t+600 < 900000/\RT H a xs rows ns WW/\(∀ n∈ns,n∈N8)/\ns.length<=7/\
 ∀ (b:Addr) (ys:List V) (Cc:List ak) (H':Hp),RT H' b ys Cc (dbl ns) WW->b_ K H0 H' p (t+600)->Sm p p H H'->Q (.ref b) H'
theorem yN {l m:List Str} (h:l.Perm m):(dbl l).Perm (dbl m):=h.flatMap_right _
theorem yQ (l:List Str) (n:Str):dbl (l++[n])=dbl l++[n++"q",n++"r"]:=by simp [dbl]
theorem rJ {rs:List (Str×V)} (h:lz H ns ws rs) {n:Str} {v:V} (h1:n∈ns) (h2:rf H ns ws v (Cb ns n)):lz H ns ws (rs++[(n,v)]):=
 (h.add h1 h2).perm fun r hr=>by
  rcases List.mem_append.mp hr with hr | hr
  ·exact Qh _ hr
  ·rw [List.mem_singleton.mp hr];exact List.mem_cons_self
set_option maxHeartbeats 2000000 in
theorem pM (T:Txt K mg w):bj P w K mg base 4 "_law_twin" ["_law_pen","_law_told"] (OJ K):=by
 have g7:bj P w K mg base 3 "_law_twin_head" ["_law_pen","_law_here"] (Kr K):=jJ T
 have dN:bj P w K mg base 3 "_law_turned" ["_law_pen","_law_some"] (JR K):=gY T
 refine T.sX.gg eP (fun vs H Q E h=>?_) (fun f ay A outer s H vs Q E hr h=>?_)
 ·refine hdn fun Gz9 zG9=>?_;obtain ⟨H0,p,a,t,xs,rows,ns,rfl,_⟩:=h;refine zG9 ?_
  rfl
 ·refine hdn fun Gz9 zG9=>?_;obtain ⟨H0,p,a,t,xs,rows,ns,rfl,hn,ht,rt,h8,h5,k⟩:=h;refine zG9 ?_
  have hu:=aV hr
  have ff:=Qy (aV hr)
  have hsz:sizeLine=16777216:=QM
  have Dl:=rt.rl
  have A5:=rt.rv.len
  have Yn:∀ z∈dbl ns,isName z=true/\Wd z:=fun z hz=>by
   obtain ⟨n,hn,h⟩:=dP.mp hz
   exact xB z (dP.mpr ⟨n,h8 n hn,h⟩)
  refine ⟨_,(aE (aQ (i:=2) eP.nd rfl (Or.inl rfl) (bS aC))
   (aE (cU PassesOwn.never rfl (jT K (zv 1)) (d6 K (n:=2) rfl (aM (aI (i:=3) eP.nd rfl (Or.inl rfl)) (aM (aI (i:=4) eP.nd rfl (Or.inl rfl)) cC))) (aE (bO (iB K QJ QK QL aZ (zv 2) (bH (bI (iX (cM cL (zv 3) aY) (aX (bQ g7 (hr.mono (by decide)) (aD (zv 0) (aD (zv 4) aC))) aC))) aC)))
   (aG (bO (iB K QJ QK QL aZ (zv 2) (bH (bI (iX (cM cL (zv 3) aY) (aX (bQ g7 (hr.mono (by decide)) (aD (zv 0) (aD (zv 4) aC))) aC))) aC))))))
   (aG (bE (cJ (dW K) (by rfl) T.gQ QH (aX (bQ dN (hr.mono (by decide)) (aD (zv 0) (aD (zv 2) aC))) aC)))))),?_⟩
  refine aJ ⟨(show 0<=sizeLine by decide),fun R hR=>?_⟩
  have Az:R≠p:=hn.ne hR
  have fR:=hn.free hR
  refine aO (fun σ' H'=>∃ (v3 v4:Option V) (us:List V) (rs:List (Str×V)),σ'=[some (.ref p),some (.ref a),some (.ref R),v3,v4]/\H' R=some (.lst us)/\iy H' us (bh rs)/\rs.map (·.1)=dbl (rows.map (·.1))/\lz H' (dbl ns) WW rs/\b_ K H0 H' p (t+300)/\Sm p p H H') ?_ ?_
  ·intro nx bx
   refine .inr ⟨⟨xs,aj.of (aa.upd hR _ _ _ rt.at_)⟩,?_⟩
   refine cB (dD xs) (fun i σ' H'=>∃ (v3 v4:Option V) (us:List V) (rs:List (Str×V)),σ'=[some (.ref p),some (.ref a),some (.ref R),v3,v4]/\H' R=some (.lst us)/\iy H' us (bh rs)/\rs.map (·.1)=dbl ((rows.map (·.1)).take i)/\lz H' (dbl ns) WW rs/\b_ K H0 H' p (t+40*i)/\Sm p p H H')
    ⟨none,none,[],[],rfl,aA,jC,rfl,⟨(fun _ h=>nomatch h),(fun _ h=>nomatch h)⟩,hn.same (aa.upd hR _),(aa.upd hR _).sm⟩ (by rintro i σ' H' _ ⟨_,_,_,_,_,_,_,_,_,_,s⟩;exact aj.of (hn.ts s _ _ rt.at_)) ?_ ?_
   ·rintro i σ' H1 hi z0;refine hdn fun Gz9 zG9=>?_;obtain ⟨v3,v4,us,rs,rfl,q1,q2,q3,q4,q5,q6⟩:=z0;refine zG9 ?_
    have mh:i < rows.length:=by omega
    obtain ⟨rb,hv,r1,r2,r3⟩:=rt.rv.at_ i hi mh
    have eg:xs.getD i .ai=.ref rb:=by rw [Qb,Qa hi,r1];rfl
    rw [eg]
    have jf:rows[i]∈rows:=Qj mh
    have Kx:rows[i].1∈ns:=rt.nm.mem_iff.mp (List.mem_map.mpr ⟨_,jf,rfl⟩)
    have hok:=(rt.ok _ jf).2
    have Hl:=rt.ww _ jf
    have OL:=rt.ah _ jf
    have Hq:(rows.map (·.1)).take (i+1)=(rows.map (·.1)).take i++[rows[i].1]:=by
     rw [Qs,Qq,Qa mh];rfl
    have Yo:rs.length=2*i:=by
     have h1:=congrArg List.length q3
     rw [nM,Ql,List.length_take,Ql] at h1
     omega
    generalize rows[i]=row at r2 r3 Kx hok Hl OL Hq
    obtain ⟨nm,hd⟩:=row
    have nl:nm.length<=8:=fS (pU _ (h8 _ Kx)).1
    have Yp:=hn.ts q6
    refine fJ (Yp _ _ r2) ?_
    have M9:us.length=rs.length:=by have:=q2.1;simpa using this
    /- RS holds of a new head -/
    have Yq:∀ (c:Str) (h':Hd),(c="q"\/c="r")->(∀ y',h'.nx=some y'->∃ y,hd.nx=some y/\(y'=y++"q"\/y'=y++"r"))->Cb (dbl ns) (nm++c) h'.nx:=fun c h' hc bx y' e'=>by
     obtain ⟨y,e1,e2⟩:=bx y' e'
     obtain ⟨i1,j1,zb,g1,g2⟩:=OL y e1
     have Yr:i1 < ns.length:=(List.getElem?_eq_some_iff.mp g1).1
     have GC:j1 < ns.length:=(List.getElem?_eq_some_iff.mp g2).1
     have ei:ns[i1]=y:=(List.getElem?_eq_some_iff.mp g1).2
     have ej:ns[j1]=nm:=(List.getElem?_eq_some_iff.mp g2).2
     obtain ⟨a1,a2⟩:=wW ns i1 Yr
     obtain ⟨b1,b2⟩:=wW ns j1 GC
     rw [ei] at a1 a2
     rw [ej] at b1 b2
     rcases e2 with rfl | rfl<;>rcases hc with rfl | rfl
     ·exact ⟨2*i1,2*j1,by omega,a1,b1⟩
     ·exact ⟨2*i1,2*j1+1,by omega,a1,b2⟩
     ·exact ⟨2*i1+1,2*j1,by omega,a2,b1⟩
     ·exact ⟨2*i1+1,2*j1+1,by omega,a2,b2⟩
    have step:∀ (c:Str) (hc:c="q"\/c="r") (D:Ends) (H2:Hp) (us:List V) (rs:List (Str×V)) (tt:Nat),H2 R=some (.lst us)->iy H2 us (bh rs)->lz H2 (dbl ns) WW rs->b_ K H0 H2 p tt->Sm p p H H2->us.length<=30->tt+20 < 900000->
      (∀ (ku:List V) (v':V) (H3:Hp),H3 R=some (.lst ku)->iy H3 ku (bh (rs++[(nm++c,v')]))->lz H3 (dbl ns) WW (rs++[(nm++c,v')])->ku.length=us.length+1->b_ K H0 H3 p (tt+20)->Sm p p H H3->D.nx [some (.ref p),some (.ref a),some (.ref R),some (.str nm),some hv] H3)->
      F6 (Gh K "list" L5 (tV 2) (gu (C3 (gu (mq Iz (tV 3) (tC (V.str c))) (gu (Er (Kr K) [] E0 (gu (tV 0) (gu (tV 4) mw))) mw))) mw)) D [some (.ref p),some (.ref a),some (.ref R),some (.str nm),some hv] H2:=by
     intro c hc D H2 us rs tt z1 z2 z3 z4 z5 z6 z7 kk
     have pe:c.length=1:=by rcases hc with rfl | rfl<;>rfl
     refine ⟨.inl ⟨rfl,_,af.of z1⟩,⟨by omega,?_⟩⟩
     refine ⟨H0,p,hv,hd,tt,ns,rfl,z4,z7,r3.tk (hn.ts z5),hok,h8,Hl,fun v' h' H3 Em IY Cz Ys qh oj=>⟨(show 2<=sizeLine by decide),fun cc F5=>?_⟩⟩
     have g3:=oj _ _ z1 Az Az
     have s4:=aa.upd F5 (.tup [.str (nm++c),v'])
     have f4:upd H3 cc (.tup [.str (nm++c),v']) cc=some (.tup [.str (nm++c),v']):=aA
     have g4:=s4 _ _ g3
     have qe:=qh.same s4
     have Bm:=(z5.trans oj).trans s4.sm (p:=p) (w:=p)
     have Fp:Tk H2 (upd H3 cc (.tup [.str (nm++c),v'])):=(z4.ts oj).trans s4.ts
     have OM:=Em.tk s4.ts
     dsimp only
     generalize upd H3 cc (.tup [.str (nm++c),v'])=H4 at s4 f4 g4 qe Bm Fp OM ⊢
     have vz:Tk H4 (upd H4 R (.lst (us++[.ref cc]))):=Tk.refl.set g4 (fun _ z=>nomatch z)
     refine ⟨R,us,.ref cc,rfl,rfl,g4,by omega,kk (us++[.ref cc]) v' _ aA (iA (z2.ts (Fp.trans vz)) (vz _ _ f4)) (rJ (z3.tk (Fp.trans vz)) (dP.mpr ⟨nm,Kx,by rcases hc with rfl | rfl<;>simp⟩) ⟨h',OM.tk vz,IY,Yq c h' hc Cz,Ys⟩) (by simp) (qe.put Az fR) (Bm.upd hR)⟩
    refine step "q" (.inl rfl) _ H1 us rs _ q1 q2 q4 q5 q6 (by omega) (by omega) (fun E2 v1 H2 a1 a2 a3 a4 a5 a6=>?_)
    refine step "r" (.inr rfl) _ H2 E2 _ _ a1 a2 a3 a5 a6 (by omega) (by omega) (fun kj v2 H3 b1 b2 b3 b4 b5 b6=>?_)
    refine ⟨_,_,kj,rs++[(nm++"q",v1)]++[(nm++"r",v2)],rfl,b1,b2,?_,b3,b5.mono (by omega),b6⟩
    rw [Hq,yQ,Qm,Qm,q3]
    simp
   ·rintro σ' H1 z0;refine hdn fun Gz9 zG9=>?_;obtain ⟨v3,v4,us,rs,rfl,q1,q2,q3,q4,q5,q6⟩:=z0;refine zG9 ?_
    have e:(rows.map (·.1)).take xs.length=rows.map (·.1):=by rw [A5,<- Ql (f:=fun r:ak=>r.1),Qo]
    rw [e] at q3
    exact bx _ _ ⟨v3,v4,us,rs,rfl,q1,q2,q3,q4,q5.mono (by omega),q6⟩
  ·rintro σ' H1 z0;refine hdn fun Gz9 zG9=>?_;obtain ⟨v3,v4,us,rs,rfl,q1,q2,q3,q4,q5,q6⟩:=z0;refine zG9 ?_
   have ME:=nM ns
   have Yo:rs.length=2*ns.length:=by
    have h1:=congrArg List.length q3
    rw [nM,Ql,Ql] at h1
    omega
   have M9:us.length=rs.length:=by have:=q2.1;simpa using this
   have pos:=rt.pos
   refine ⟨H0,p,R,us,_,rfl,q5,by omega,.inl (af.of q1),by omega,fun L2 ys H5 XW J8 J9 ud jb=>⟨L2,ys,rfl,.inl ⟨af.of J8,fun b hb=>?_⟩⟩⟩
   have s6:=aa.upd hb (.tup ys)
   have vz:=(q5.ts jb).trans s6.ts
   obtain ⟨rs',pr,pa⟩:=lL (q2.ts vz) J9
   obtain ⟨Cc,qi⟩:=RT.of aA pa ((pr.map _).trans (by rw [q3];exact yN rt.nm)) (Yg rt.nd h8) Yn (by omega) (by omega) ((q4.tk vz).perm fun r hr=>pr.mem_iff.mp hr)
   exact k b _ Cc _ qi ((ud.same s6).mono (by omega)) ((q6.trans jb).trans s6.sm)
theorem Yt {K:Q1} {k:Nat} {T:Addr} {v1 v2 v3:V} {Q:St->Hp->Prop} (h:aj K H T [v1,v2,v3]) (q:Q (((σ.set i (some v1)).set j (some v2)).set k (some v3)) H):AN K 3 (wu (jc i) (wu (jc j) (wu (jc k) CW))) (.ref T) σ H Q:=
 ⟨T,_,rfl,h,rfl,_,_,rfl,_,_,rfl,_,_,rfl,rfl,q⟩
def ON:Sp:=fun vs H Q _=>∃ (a b:Addr) (xs ys:List V) (r1 r2:List ak) (m1 m2 ws FA:List Str) (x y:Str),vs=[.ref a,.str x,.ref b,.str y]/\RT H a xs r1 m1 ws/\RT H b ys r2 m2 FA/\(∀ z∈ws,Wd z)/\(∀ z∈FA,Wd z)/\x∈m1/\y∈m2/\
 (∀ H',aa H H'->(∀ w m,fh (gm r1 r2) (endOf r1 x,endOf r2 y) w=some m->¬DH r1 r2 m)->Q .ai H')/\
 ∀ (R:Addr) (us:List V) (w:List Nat) (H':Hp),aa H H'->H' R=some (.tup us)->SV H' us (gk (gm r1 r2) (endOf r1 x,endOf r2 y) w)->Nf (gm r1 r2) (DH r1 r2) (endOf r1 x,endOf r2 y) w->Q (.ref R) H'
set_option maxHeartbeats 4000000 in
theorem kY (T:Txt K mg w):bj P w K mg base 5 "_law_parting" ["_law_told","_law_name","_law_other","_law_twin_name"] ON:=by
 have bR:bj P w K mg base 1 "_law_row_here" ["_law_told","_law_name"] G8:=dF T
 have cQ:bj P w K mg base 2 "_law_head_here" ["_law_told","_law_name"] J':=fE T
 have qO:bj P w K mg base 3 "_law_on" ["_law_told","_law_name"] Oc:=vS T
 refine T.mD.gg aP (fun vs H Q E h=>?_) (fun f ay A outer s H vs Q E hr h=>?_)
 ·refine hdn fun Gz9 zG9=>?_;obtain ⟨a,b,xs,ys,r1,r2,m1,m2,ws,FA,x,y,rfl,_⟩:=h;refine zG9 ?_
  rfl
 ·refine hdn fun Gz9 zG9=>?_;obtain ⟨a,b,xs,ys,r1,r2,m1,m2,ws,FA,x,y,rfl,rt,qi,hw,Hr,hx,hy,kN,kB⟩:=h;refine zG9 ?_
  have hu:=aV hr
  have ff:=Qy (aV hr)
  have D0:=kR hr
  have OO:=qN hr
  have hsz:sizeLine=16777216:=QM
  have AA:=rt.ua hw
  have ua:=qi.ua Hr
  have B9:=yU (r2:=r2) rt.Ww
  obtain ⟨rs,g,nm,rl,sr⟩:=rt.good hw
  have hm:∀ z,z∈rs.map (·.1)↔z∈m1:=fun z=>by rw [nm];exact rt.nm.mem_iff
  obtain ⟨CI,g2,Yu,OP,Yv⟩:=qi.good Hr
  have JW:∀ z,z∈CI.map (·.1)↔z∈m2:=fun z=>by rw [Yu];exact qi.nm.mem_iff
  refine ⟨_,(aE (aQ (i:=4) aP.nd rfl (Or.inl rfl) (bS (bH (bI (bH (bI aC) (aX (bQ bR (hr.mono (by decide)) (aD (zv 0) (aD (zv 1) aC))) (aX (bQ bR (hr.mono (by decide)) (aD (zv 2) (aD (zv 3) aC))) aC)))) aC)))
   (aE (aQ (i:=5) aP.nd rfl (Or.inl rfl) tO)
   (aE (iJ PassesOwn.never (aU (oA ff) (zv 4) (bS aC) (h_ _)) (aE (aQ (i:=6) aP.nd rfl (Or.inl rfl) (bS aC))
   (aE (cU PassesOwn.never rfl (jT K (zv 4)) (d6 K (n:=3) rfl (aM (aI (i:=7) aP.nd rfl (Or.inl rfl)) (aM (aI (i:=8) aP.nd rfl (Or.inl rfl)) (aM (aI (i:=9) aP.nd rfl (Or.inl rfl)) cC)))) (aE (aQ (i:=10) aP.nd rfl (Or.inl rfl) (bQ qO (hr.mono (by decide)) (aD (zv 0) (aD (zv 8) aC))))
   (aE (aQ (i:=11) aP.nd rfl (Or.inl rfl) (bQ qO (hr.mono (by decide)) (aD (zv 2) (aD (zv 9) aC))))
   (aE (eG (aU (oA ff) (bB (bC K) (bQ cQ (hr.mono (by decide)) (aD (zv 0) (aD (zv 8) aC))) aH (fun _ _=>rfl)) (bB (bC K) (bQ cQ (hr.mono (by decide)) (aD (zv 2) (aD (zv 9) aC))) aH (fun _ _=>rfl)) (h_ _)) (aG (bE (zv 7))) cH)
   (aE (eG (aU (Wl K OO) (nU (own:=["_law_one"]) (idx:=[]) (N':=["_law_one"]) (cZ (a_ cP) (["_law_told","_law_name","_law_other","_law_twin_name","_law_layer","_law_met","_law_later","_law_road","_law_a","_law_b","_law_ones","_law_others","_law_one","_law_two_here"]:List Str) (by decide+kernel)) rfl (jT K (zv 10)) (fun _ _ _ _ _ _=>(aI (i:=0) (show List.Nodup (["_law_one"]:List Str) by decide+kernel) rfl (Or.inl rfl))) (fun _ _ _ _ _ _=>dL) (fun _ _ _ _ _ _=>(bB (bC K) (zv 0) aH (fun _ _=>rfl)))) (nU (own:=["_law_one"]) (idx:=[]) (N':=["_law_one"]) (cZ (a_ cP) (["_law_told","_law_name","_law_other","_law_twin_name","_law_layer","_law_met","_law_later","_law_road","_law_a","_law_b","_law_ones","_law_others","_law_one","_law_two_here"]:List Str) (by decide+kernel)) rfl (jT K (zv 11)) (fun _ _ _ _ _ _=>(aI (i:=0) (show List.Nodup (["_law_one"]:List Str) by decide+kernel) rfl (Or.inl rfl))) (fun _ _ _ _ _ _=>dL) (fun _ _ _ _ _ _=>(bB (bC K) (zv 0) aH (fun _ _=>rfl)))) (h_ _)) (aG (bE (zv 7))) cH)
   (aG (eG (aU (uX hu) (bI (aD (zv 8) (aD (zv 9) aC))) (zv 5) rfl) (aE (nP hu (zv 5) (bI (aD (zv 8) (aD (zv 9) aC))) zE rfl)
   (aG (cU PassesOwn.never rfl (tY K (by rfl) T.NJ (aD (zv 10) (aD (zv 11) aC))) (d6 K (n:=2) rfl (aM (aI (i:=12) aP.nd rfl (Or.inl rfl)) (aM (aI (i:=13) aP.nd rfl (Or.inl rfl)) cC))) (aG (bO (iB K QJ QK QL aZ (zv 6) (bH (bI (iX (cM (u7 K) (zv 7) (iU (xP K) (zv 12) iV (iR aH))) (aN (bB (bC K) (zv 12) aH (fun _ _=>rfl)) (aN (bB (bC K) (zv 13) aH (fun _ _=>rfl)) aC)))) aC))))))) cH)))))))
   (aG (aQ (i:=4) aP.nd rfl (Or.inl rfl) (cE (oH D0) (by rfl) T.xG PyProof.Rows.boot_sorted (aD (zv 6) aC)))))))
   (aG (bE Mm))))),?_⟩
  have OQ:Cr r1 r2 m1 m2 (endOf r1 x,endOf r2 y):=⟨AA.stay hx,ua.stay hy⟩
  generalize Yw:((endOf r1 x,endOf r2 y):Pr)=fst at kN kB OQ
  refine aJ ⟨(show 0<=sizeLine by decide),fun T0 OR=>?_⟩
  have u0:=aa.upd OR (.tup [])
  have x0:upd H T0 (.tup []) T0=some (.tup []):=aA
  dsimp only
  generalize upd H T0 (.tup [])=J0 at u0 x0 ⊢
  refine ⟨a,xs,rs,_,_,x,rfl,g.ts u0.ts,(hm x).mpr hx,fun J1 u1=>?_⟩
  refine ⟨b,ys,CI,_,_,y,rfl,g2.ts (u0.trans u1).ts,(JW y).mpr hy,fun J2 u2=>⟨(show 3<=sizeLine by decide),fun T1 Fy=>⟨(show 1<=sizeLine by decide),fun La Ky=>?_⟩⟩⟩
  have u4:=aa.upd Fy (.tup [.ref T0,.str (fq (iz r1) rs.length x),.str (fq (iz r2) CI.length y)])
  have x4:upd J2 T1 (.tup [.ref T0,.str (fq (iz r1) rs.length x),.str (fq (iz r2) CI.length y)]) T1=some (.tup [.ref T0,.str fst.1,.str fst.2]):=by rw [<- Yw,rl,OP];exact aA
  generalize upd J2 T1 (.tup [.ref T0,.str (fq (iz r1) rs.length x),.str (fq (iz r2) CI.length y)])=J4 at u4 x4 Ky ⊢
  have u5:=aa.upd Ky (.lst [.ref T1])
  have x5:upd J4 La (.lst [.ref T1]) La=some (.lst [.ref T1]):=aA
  generalize upd J4 La (.lst [.ref T1])=J5 at u5 x5 ⊢
  have AB:aa H J5:=(((u0.trans u1).trans u2).trans u4).trans u5
  have OS:jv r1 r2 fst J5 [.ref T1] [(fst,[])]:=jv.nil.snoc (p:=(fst,[])) (u5 _ _ x4) ((((u1.trans u2).trans u4).trans u5) _ _ x0) SV.nil
  refine aJ fun F hF=>?_
  have u6:=aa.upd hF (.dT [])
  have x6:yf (upd J5 F (.dT [])) F []:=⟨[],aA,rfl⟩
  have Yx:H F=none:=AB.free hF
  dsimp only
  generalize upd J5 F (.dT [])=J6 at u6 x6 ⊢
  have Yy:=AB.trans u6
  have Yz:BP r1 r2 m1 m2 fst 0 [(fst,[])] [] [(fst,[])] [] 0:=BG.start OQ
  have YA:=OS.same u6
  have YB:=u6 _ _ x5
  clear u0 u1 u2 u4 u5 u6 x0 x4 x5 AB OS OR Fy Ky hF
  refine aO (fun σ' H'=>aa H H'/\∀ w m,fh (gm r1 r2) fst w=some m->¬DH r1 r2 m) ?_ ?_
  ·intro nx bx
   refine ⟨fun mm σ' H'=>∃ (v6 v7 v8 v9 v10 v11 jw jx:Option V) (Lr:Addr) (us:List V) (D st:List (Pr×List Nat)) (ms:List Pr) (i len:Nat),σ'=[some (.ref a),some (.str x),some (.ref b),some (.str y),some (.ref Lr),some (.ref F),v6,v7,v8,v9,v10,v11,jw,jx]/\yf H' F ms/\H' Lr=some (.lst us)/\jv r1 r2 fst H' us D/\BP r1 r2 m1 m2 fst i st ms D [] len/\len+mm<=900/\aa H H'/\(mm=2*(200 - ms.length)+if D=[] then 0 else 1),
    ⟨_,none,none,none,none,none,none,none,none,La,[.ref T1],[(fst,[])],_,[],0,0,rfl,x6,YB,YA,Yz,by simp,Yy,rfl⟩,?_⟩
   rintro mm σ' H5 ⟨v6,v7,v8,v9,v10,v11,jw,jx,Lr,us,D,st,ms,i,len,rfl,q1,q3,q4,q5,q9,FD,rfl⟩
   have D5:=q4.len
   refine ⟨(show 0<=sizeLine by decide),fun l0 gp=>?_⟩
   have w1:=aa.upd gp (.lst [])
   have w2:upd H5 l0 (.lst []) l0=some (.lst []):=aA
   have Kz:Lr≠l0:=fun z=>by rw [<- z,q3] at gp;cases gp
   generalize upd H5 l0 (.lst [])=H6 at w1 w2 ⊢
   refine ⟨Kz,us,w1 _ _ q3,w2,_,rfl,f_ (fun c=>?_) (fun c=>?_)⟩
   ·have hP:D≠[]:=fun z=>by
     rw [z] at D5
     rw [QT D5] at c
     simp at c
    rw [if_neg hP] at q9 ⊢
    have q1:=q1.same w1
    have q3:=w1 _ _ q3
    have q4:=q4.same w1
    have FD:=FD.trans w1
    have abl:=lQ q5 AA ua
    refine ⟨fun σ' H'=>∃ (v6 v7 v8 v9 v10 v11 jw jx:Option V) (Lr:Addr) (us:List V) (D2 fu:List (Pr×List Nat)) (cj:List Pr) (i2:Nat),σ'=[some (.ref a),some (.str x),some (.ref b),some (.str y),some (.ref Lr),some (.ref F),v6,v7,v8,v9,v10,v11,jw,jx]/\yf H' F cj/\H' Lr=some (.lst us)/\jv r1 r2 fst H' us D2/\BP r1 r2 m1 m2 fst i2 fu cj D2 [] (len+1)/\D2.length<=10*(cj.length - ms.length)/\ms.length<=cj.length/\aa H H',?_,?_⟩
    ·rintro σ' H' z0;refine hdn fun Gz9 zG9=>?_;obtain ⟨v6,v7,v8,v9,v10,v11,jw,jx,Lr,us,D2,fu,cj,i2,rfl,z1,z2,z3,z4,z5,z6,z7⟩:=z0;refine zG9 ?_
     have OT:=lQ z4 AA ua
     have Ka:(2*(200 - cj.length)+if D2=[] then 0 else 1) < 2*(200 - ms.length)+1:=by
      by_cases h0:cj.length=ms.length
      ·have:D2=[]:=QT (by omega)
       rw [if_pos this];omega
      ·split<;>omega
     exact ⟨_,Ka,v6,v7,v8,v9,v10,v11,jw,jx,Lr,us,D2,fu,cj,i2,len+1,rfl,z1,z2,z3,z4,by omega,z7,rfl⟩
    refine aJ ⟨(show 0<=sizeLine by decide),fun Lt D6=>?_⟩
    have w3:=aa.upd D6 (.lst [])
    have w4:upd H6 Lt (.lst []) Lt=some (.lst []):=aA
    have YC:H Lt=none:=FD.free D6
    obtain ⟨kvs,e1,e2⟩:=q1
    have OU:Lt≠F:=fun z=>by rw [z,e1] at D6;cases D6
    have YD:Lt≠Lr:=fun z=>by rw [z,q3] at D6;cases D6
    have YE:F≠Lr:=fun z=>by rw [z,q3] at e1;cases e1
    have q1:yf H6 F ms:=⟨kvs,e1,e2⟩
    dsimp only
    generalize upd H6 Lt (.lst [])=H7 at w3 w4 ⊢
    refine aO (fun σ' H'=>∃ (v7 v8 v9 v10 v11 jw jx:Option V) (kj:List V) (N fu:List (Pr×List Nat)) (cj:List Pr) (i2:Nat),σ'=[some (.ref a),some (.str x),some (.ref b),some (.str y),some (.ref Lr),some (.ref F),some (.ref Lt),v7,v8,v9,v10,v11,jw,jx]/\yf H' F cj/\H' Lt=some (.lst kj)/\jv r1 r2 fst H' kj N/\BP r1 r2 m1 m2 fst i2 fu cj [] N len/\N.length<=10*(cj.length - ms.length)/\ms.length<=cj.length/\aa H H') ?_ ?_
    ·intro zm zp
     refine .inl ⟨⟨us,af.of (w3 _ _ q3)⟩,?_⟩
     refine cB (bN us) (fun j σ' H'=>∃ (v7 v8 v9 v10 v11 jw jx:Option V) (kj:List V) (N fu:List (Pr×List Nat)) (cj:List Pr) (i2:Nat),σ'=[some (.ref a),some (.str x),some (.ref b),some (.str y),some (.ref Lr),some (.ref F),some (.ref Lt),v7,v8,v9,v10,v11,jw,jx]/\yf H' F cj/\H' Lt=some (.lst kj)/\jv r1 r2 fst H' kj N/\BP r1 r2 m1 m2 fst i2 fu cj (D.drop j) N len/\N.length<=10*(cj.length - ms.length)/\ms.length<=cj.length/\H' Lr=some (.lst us)/\jv r1 r2 fst H' us D/\aa H H')
      ⟨v7,v8,v9,v10,v11,jw,jx,[],[],st,ms,i,rfl,q1.same w3,w4,jv.nil,by simpa using q5,by simp,Qz _,w3 _ _ q3,q4.same w3,FD.trans w3⟩ (by rintro j σ' H' _ ⟨_,_,_,_,_,_,_,_,_,_,_,_,_,_,_,_,_,_,_,h,_⟩;exact af.of h) ?_ ?_
     ·rintro j σ' H8 hj z0;refine hdn fun Gz9 zG9=>?_;obtain ⟨v7,v8,v9,v10,v11,jw,jx,kj,N,fu,cj,i2,rfl,z1,z2,z3,z4,z5,z6,z7,z8,z9⟩:=z0;refine zG9 ?_
      have OV:j < D.length:=by omega
      obtain ⟨c,bb,yy,c1,c2,c3,c4⟩:=z8.at_ j hj OV
      have eg:us.getD j .ai=.ref c:=by rw [Qb,Qa hj,c1];rfl
      rw [eg]
      rw [List.drop_eq_getElem_cons OV] at z4
      generalize D[j]=d at c2 c4 z4
      have to:=z4.Cv
      have YF:fq (iz r1) rs.length d.1.1=d.1.1:=by rw [rl];exact to.a.2
      have YG:fq (iz r2) CI.length d.1.2=d.1.2:=by rw [OP];exact to.b.2
      have KA:=pO to.a.2
      have KC:=pO to.b.2
      have Fd:=AA.Cm to.a
      have YH:=ua.Cm to.b
      have fw1:=rt.E6 hw to.a.1
      have fw2:=qi.E6 Hr to.b.1
      refine Yt (aj.of c2) ?_
      dsimp only
      refine aJ ⟨a,xs,r1,m1,ws,d.1.1,rfl,rt.tk z9.ts,hw,to.a.1,fun M1 u1 H9 KG t3 OW KH=>?_⟩
      have y9:=z9.trans t3
      dsimp only
      refine aJ ⟨b,ys,r2,m2,FA,d.1.2,rfl,qi.tk y9.ts,Hr,to.b.1,fun M2 u2 CH KI t4 OX KJ=>?_⟩
      have FE:=y9.trans t4
      have KL:=t3.trans t4
      have OY:=t4 _ _ OW
      have OZ:=KH.tk t4.ts
      have YI:M1≠Lt:=fun z=>by rw [z,z2] at KG;cases KG
      have YJ:M2≠Lt:=fun z=>by rw [z,t3 _ _ z2] at KI;cases KI
      dsimp only
      refine aO (fun σ' H'=>(aq r1 d.1.1).dc=(aq r2 d.1.2).dc/\aa CH H'/\σ'=[some (.ref a),some (.str x),some (.ref b),some (.str y),some (.ref Lr),some (.ref F),some (.ref Lt),some (.ref bb),some (.str d.1.1),some (.str d.1.2),some (.ref M1),some (.ref M2),jw,jx]) ?_ ?_
      ·intro KN CJ
       refine ⟨a,xs,rs,_,_,d.1.1,rfl,g.ts FE.ts,(hm _).mpr to.a.1,fun va Ha sa O0=>?_⟩
       rw [YF] at O0
       obtain ⟨ba,ya,rfl,ea⟩:=((sr _ va to.a.1 O0).same (FE.trans sa)).dc
       refine ⟨_,_,.inr (aj.of ea),aK _ _,?_⟩
       refine ⟨b,ys,CI,_,_,d.1.2,rfl,g2.ts (FE.trans sa).ts,(JW _).mpr to.b.1,fun vb Hb sb O1=>?_⟩
       rw [YG] at O1
       obtain ⟨bb',yb,rfl,eb⟩:=((Yv _ vb to.b.1 O1).same ((FE.trans sa).trans sb)).dc
       have O2:=sa.trans sb
       refine ⟨_,_,.inr (aj.of eb),aK _ _,rfl,_,rfl,Wf (fun cs=>?_) (fun cs=>?_)⟩
       ·have tt:=KL.trans O2
        exact kB bb yy d.2 Hb (z9.trans tt) (tt _ _ c3) (c4.same tt) (z4.bad fun me=>cs me.1)
       ·exact CJ _ _ ⟨cs,O2,rfl⟩
      rintro σ' O3 ⟨YK,t5,rfl⟩
      have KO:=KL.trans t5
      have Ht:=t5 _ _ OY
      have Hu:=t5 _ _ OX
      have KP:=OZ.tk t5.ts
      have KQ:=KJ.tk t5.ts
      refine aO (fun σ' H'=>stH (aq r1 d.1.1)=stH (aq r2 d.1.2)/\aa O3 H'/\σ'=[some (.ref a),some (.str x),some (.ref b),some (.str y),some (.ref Lr),some (.ref F),some (.ref Lt),some (.ref bb),some (.str d.1.1),some (.str d.1.2),some (.ref M1),some (.ref M2),jw,jx]) ?_ ?_
      ·intro KN CJ
       refine .inl ⟨⟨u1,af.of Ht⟩,fun D1 YL=>yL Ht KP YL (by omega) fun w1 FF t6 Hv YM=>?_⟩
       refine .inl ⟨⟨u2,af.of (t6 _ _ Hu)⟩,fun D2 yk=>yL (t6 _ _ Hu) (KQ.tk t6.ts) yk (by omega) fun w2 D7 t7 FH YN=>?_⟩
       refine ⟨1,1,D1,D2,w1,w2,_,_,by decide,rfl,rfl,af.of (t7 _ _ Hv),af.of FH,(YM.same t7).Js,YN.Js,fun bo O4=>⟨_,rfl,?_⟩⟩
       rw [KA,KC] at O4
       have O5:bo=true↔stH (aq r1 d.1.1)=stH (aq r2 d.1.2):=by rw [O4];exact ⟨mZ,fun e=>by rw [e]⟩
       refine f_ (fun c=>?_) (fun c=>?_)
       ·have tt:=KO.trans (t6.trans t7)
        exact kB bb yy d.2 D7 (z9.trans tt) (tt _ _ c3) (c4.same tt) (z4.bad fun me=>by rw [O5.mpr me.2] at c;cases c)
       ·exact CJ _ _ ⟨O5.mp (by cases bo<;>first | rfl | cases c),t6.trans t7,rfl⟩
      rintro σ' FF ⟨Hw,t6,rfl⟩
      have AD:=KO.trans t6
      have me:jz r1 r2 d.1:=⟨YK,Hw⟩
      have O6:¬DH r1 r2 d.1:=fun z=>z me
      have y1:=z1.same AD
      have y2:=AD _ _ z2
      have y3:=z3.same AD
      have y7:=AD _ _ z7
      have y8:=z8.same AD
      have y9:=z9.trans AD
      have d3:=AD _ _ c3
      have d4:=c4.same AD
      have f1:=t6 _ _ Ht
      have f2:=t6 _ _ Hu
      have vq:=KP.tk t6.ts
      have Bj:=KQ.tk t6.ts
      have l1:=KH.len
      have l2:=KJ.len
      clear c2 c3 c4 z1 z2 z3 z7 z8 z9 t3 t4 t5 t6 KL KO AD FE OW OX OY Ht Hu KH KJ OZ KP KQ KG KI
      obtain ⟨oq,k1,k2⟩:=y1
      have z_:(av oq (ic d.1)).isSome=true↔d.1∈cj:=by
       rw [fM,k2];exact Wn
      have kl:oq.length=cj.length:=by have:=congrArg List.length k2;simpa using this
      have OT:=lQ z4 AA ua
      refine ⟨(show 2<=sizeLine by decide),fun qa O7=>?_⟩
      have sq:=aa.upd O7 (.tup [.str d.1.1,.str d.1.2])
      have eq:upd FF qa (.tup [.str d.1.1,.str d.1.2]) qa=some (.tup ((ic d.1).map kV)):=aA
      generalize upd FF qa (.tup [.str d.1.1,.str d.1.2])=D7 at sq eq ⊢
      refine ⟨F,av oq (ic d.1),rfl,dj.t (sq _ _ k1) eq,_,rfl,f_ (fun cc=>?_) (fun cc=>?_)⟩
      ·have xg:d.1 ∉ cj:=fun z=>by
        rw [z_.mpr z] at cc;cases cc
       have KR:av oq (ic d.1)=none:=by
        cases hv:av oq (ic d.1) with
        | none=>rfl
        | some v=>exact absurd (z_.mp (by rw [hv];rfl)) xg
       have zx:BP r1 r2 m1 m2 fst (i2+1) (fu++iu (gm r1 r2) d) (cj++[d.1]) (D.drop (j+1)) (N++iu (gm r1 r2) d) len:=z4.expand (fun q hq=>by
        rw [jD me] at hq
        obtain ⟨s,hs,rfl⟩:=List.mem_map.mp hq
        exact to.behind AA ua me hs) O6 xg
       have YO:=lQ zx AA ua
       rw [Qk] at YO
       have O8:(bq r1 d.1.1).length=(stH (aq r1 d.1.1)).length:=by rw [<- KA,Ql]
       have abp:(bq r2 d.1.2).length=(stH (aq r1 d.1.1)).length:=by rw [Hw,<- KC,Ql]
       have YQ:(gm r1 r2 d.1).length=(bq r1 d.1.1).length:=by rw [jD me,O8];simp [DC]
       have abq:(gm r1 r2 d.1).length<=10:=by
        have:=oU (AA.Ao to.a).2
        rw [YQ,O8];simpa [stH] using this
       refine aO (fun σ' H'=>∃ qb,σ'=[some (.ref a),some (.str x),some (.ref b),some (.str y),some (.ref Lr),some (.ref F),some (.ref Lt),some (.ref bb),some (.str d.1.1),some (.str d.1.2),some (.ref M1),some (.ref M2),jw,jx]/\D7 qb=none/\H'=upd (upd D7 qb (.tup ((ic d.1).map kV))) F (.dT (oq++[(ic d.1,.bl true)]))) (fun KN CJ=>⟨(show 2<=sizeLine by decide),fun qb FI=>⟨F,_,rfl,yz.t (aa.upd FI _ _ _ (sq _ _ k1)) (show upd D7 qb (.tup [.str d.1.1,.str d.1.2]) qb=some (.tup ((ic d.1).map kV)) from aA) (by omega),CJ _ _ ⟨qb,rfl,FI,by rw [L2.cF _ KR];rfl⟩⟩⟩) ?_
       rintro σ' H14 ⟨qb,rfl,FI,rfl⟩
       have zq:=sq.trans (aa.upd FI (.tup ((ic d.1).map kV)))
       generalize upd D7 qb (.tup ((ic d.1).map kV))=AE at zq ⊢
       have KS:=zq _ _ k1
       have tk:Tk FF (upd AE F (.dT (oq++[(ic d.1,.bl true)]))):=zq.ts.trans ((Tk.refl).set KS fun _ z=>nomatch z)
       have uu:∀ b' ys,be FF b' ys->be (upd AE F (.dT (oq++[(ic d.1,.bl true)]))) b' ys:=fun b' ys h=>(h.same zq).put KS (fun _ z=>nomatch z) (fun _ _ z=>nomatch z)
       have p1:yf (upd AE F (.dT (oq++[(ic d.1,.bl true)]))) F (cj++[d.1]):=⟨_,aA,by rw [Qm,Qm,k2];rfl⟩
       have p2:upd AE F (.dT (oq++[(ic d.1,.bl true)])) Lt=some (.lst kj):=by rw [aB OU];exact zq _ _ y2
       have p3:=y3.keep tk uu
       have p7:upd AE F (.dT (oq++[(ic d.1,.bl true)])) Lr=some (.lst us):=by rw [aB YE.symm];exact zq _ _ y7
       have p8:=y8.keep tk uu
       have p9:aa H (upd AE F (.dT (oq++[(ic d.1,.bl true)]))):=(y9.trans zq).put Yx
       have g3:=tk _ _ d3
       have g4:=d4.keep uu
       have YR:M1≠F:=fun z=>by rw [z,k1] at f1;cases f1
       have YS:M2≠F:=fun z=>by rw [z,k1] at f2;cases f2
       have Bs:upd AE F (.dT (oq++[(ic d.1,.bl true)])) M1=some (.lst u1):=by rw [aB YR];exact zq _ _ f1
       have KU:upd AE F (.dT (oq++[(ic d.1,.bl true)])) M2=some (.lst u2):=by rw [aB YS];exact zq _ _ f2
       have O9:=vq.tk tk
       have O_:=Bj.tk tk
       generalize upd AE F (.dT (oq++[(ic d.1,.bl true)]))=H16 at p1 p2 p3 p7 p8 p9 Bs KU O9 O_ g3 g4 ⊢
       clear tk uu y2 y3 y7 y8 y9 d3 d4 k1 KS sq zq f1 f2 vq Bj eq O7 FI
       have kwl:=uV (nx:=gm r1 r2) d
       have abv:=g4.len
       have TM:(gk (gm r1 r2) fst d.2).length<=900:=by
        have h1:=z4.dl d List.mem_cons_self
        have h2:=tQ z4.Ju
        omega
       refine ⟨M1,M2,u1,u2,rfl,af.of Bs,af.of KU,?_⟩
       refine zF (uA u1 u2) (fun t σ' H'=>∃ (jw jx:Option V) (zc:List V),σ'=[some (.ref a),some (.str x),some (.ref b),some (.str y),some (.ref Lr),some (.ref F),some (.ref Lt),some (.ref bb),some (.str d.1.1),some (.str d.1.2),some (.ref M1),some (.ref M2),jw,jx]/\H' Lt=some (.lst zc)/\jv r1 r2 fst H' zc (N++(iu (gm r1 r2) d).take t)/\yf H' F (cj++[d.1])/\H' Lr=some (.lst us)/\jv r1 r2 fst H' us D/\H' bb=some (.tup yy)/\SV H' yy (gk (gm r1 r2) fst d.2)/\aa H H'/\H' M1=some (.lst u1)/\H' M2=some (.lst u2)/\MV H' u1 (bq r1 d.1.1)/\MV H' u2 (bq r2 d.1.2))
        ⟨jw,jx,kj,rfl,p2,by simpa using p3,p1,p7,p8,g3,g4,p9,Bs,KU,O9,O_⟩ (by rintro t σ' H' _ ⟨_,_,_,_,_,_,_,_,_,_,_,_,h,h',_⟩;exact ⟨af.of h,af.of h'⟩) ?_ ?_
       ·rintro t σ' Pa TT ht ⟨YT,YU,zc,rfl,x1,x2,x3,x5,x6,x7,x8,x9,YV,YW,Pb,Pc⟩ KW
        have j1:t < u1.length:=by omega
        have j2:t < u2.length:=by omega
        have Pd:t < (bq r1 d.1.1).length:=by omega
        have Pe:t < (bq r2 d.1.2).length:=by omega
        have hto:t < (gm r1 r2 d.1).length:=by omega
        have Eo:t < (iu (gm r1 r2) d).length:=by omega
        obtain ⟨c1,b1,n1,n2,n3⟩:=Pb.at_ t j1 Pd
        obtain ⟨c2,b2,o1,o2,o3⟩:=Pc.at_ t j2 Pe
        have YX:u1.getD t .ai=.ref c1:=by rw [Qb,Qa j1,n1];rfl
        have KZ:u2.getD t .ai=.ref c2:=by rw [Qb,Qa j2,o1];rfl
        rw [YX,KZ]
        have js:t < (stH (aq r1 d.1.1)).length:=by omega
        have js2:t < (stH (aq r2 d.1.2)).length:=by rw [<- Hw];exact js
        have Pf:(stH (aq r1 d.1.1))[t]=(bq r1 d.1.1)[t].1:=by simp only [<- KA,Qr]
        have JC:(stH (aq r2 d.1.2))[t]=(bq r2 d.1.2)[t].1:=by simp only [<- KC,Qr]
        have FH:(bq r1 d.1.1)[t].1=(bq r2 d.1.2)[t].1:=by rw [<- Pf,<- JC];simp only [Hw]
        have Pg:=u9 Fd (Qj Pd)
        have Ph:=u9 YH (Qj Pe)
        have YY:(gm r1 r2 d.1)[t]? =some ((bq r1 d.1.1)[t].1,zf r1 r2 d.1 (bq r1 d.1.1)[t].1):=by
         rw [jD me,oR,Qa js,Pf];rfl
        have YZ:=x2.len
        rw [Qk,List.length_take] at YZ
        obtain ⟨K0,Pj⟩:=rN z4.Ju YY Eo
        rw [show (iu (gm r1 r2) d).take (t+1)=(iu (gm r1 r2) d).take t++[(iu (gm r1 r2) d)[t]] by rw [Qs,Qa Eo];rfl,<- QR]
        generalize (bq r1 d.1.1)[t]=mm at n2 n3 FH Pg K0 Pj
        generalize (bq r2 d.1.2)[t]=D8 at o2 o3 FH Ph
        have Y0:zf r1 r2 d.1 mm.1=(mm.2,D8.2):=by
         unfold zf
         rw [Pg,FH,Ph];rfl
        rw [Y0] at K0
        have Hx:=aa.upd KW (.tup [.ref c1,.ref c2])
        dsimp only
        generalize upd Pa TT (.tup [.ref c1,.ref c2])=Bt at Hx ⊢
        refine ⟨.inl ⟨rfl,_,af.of (Hx _ _ x1)⟩,?_⟩
        have Y3:∀ Q:VK,(∀ p,Bt p=none->Q (.ref p) (upd Bt p (.tup [.ref b1])))->(A2 (.ref c1) none (some 1) Bt Q\/AV K (.ref c1) none (some 1) Bt Q\/AU K (.ref c1) none (some 1) Bt Q):=fun Q q=>.inr (.inr ⟨c1,_,rfl,aj.of (Hx _ _ n2),(by rintro ⟨_,z⟩;exact absurd z (show ¬HT.bu 2 2 (some 1)=2 by decide)),q⟩)
        refine ⟨1,rfl,Y3 _ fun T8 Fz=>?_⟩
        have Pk:=aa.upd Fz (.tup [.ref b1])
        have Pn:upd Bt T8 (.tup [.ref b1]) T8=some (.tup [.ref b1]):=aA
        show GP K (.ref bb) (.ref T8) (upd Bt T8 (.tup [.ref b1])) _
        generalize upd Bt T8 (.tup [.ref b1])=H19 at Pk Pn
        have Po:=Hx.trans Pk
        have ysl:=x8.len
        refine MY (Po _ _ x7) Pn (by simp;omega) fun fr Pp Y4 Y5=>?_
        have sA:=Po.trans Y4
        refine ⟨_,_,.inr (aj.of (sA _ _ n2)),rfl,_,_,.inr (aj.of (sA _ _ o2)),rfl,(show 3<=sizeLine by decide),fun T9 Y6=>?_⟩
        have K1:=aa.upd Y6 (.tup [.ref fr,.str mm.2,.str D8.2])
        have Pq:upd Pp T9 (.tup [.ref fr,.str mm.2,.str D8.2]) T9=some (.tup [.ref fr,.str mm.2,.str D8.2]):=aA
        generalize upd Pp T9 (.tup [.ref fr,.str mm.2,.str D8.2])=Hy at K1 Pq
        have sB:=sA.trans K1
        have K2:=sB _ _ x1
        have tk:Tk Hy (upd Hy Lt (.lst (zc++[.ref T9]))):=(Tk.refl).set K2 fun _ z=>nomatch z
        have uu:∀ b' ys,be Hy b' ys->be (upd Hy Lt (.lst (zc++[.ref T9]))) b' ys:=fun b' ys h=>h.put K2 (fun _ z=>nomatch z) (fun _ _ z=>nomatch z)
        obtain ⟨Y7,f1,f2⟩:=x3
        refine ⟨Lt,zc,.ref T9,rfl,rfl,K2,by omega,_,_,zc++[.ref T9],rfl,aA,?_,⟨Y7,by rw [aB OU.symm];exact sB _ _ f1,f2⟩,by rw [aB YD.symm];exact sB _ _ x5,(x6.same sB).keep tk uu,tk _ _ (sB _ _ x7),(x8.same sB).keep uu,(x9.trans sB).put YC,by rw [aB YI];exact sB _ _ YV,by rw [aB YJ];exact sB _ _ YW,(Pb.tk sB.ts).tk tk,(Pc.tk sB.ts).tk tk⟩
        rw [K0]
        refine ((x2.same sB).keep tk uu).snoc (p:=((mm.2,D8.2),d.2++[t])) (tk _ _ Pq) (tk _ _ (K1 _ _ Y5)) ?_
        show SV _ _ (gk (gm r1 r2) fst (d.2++[t]))
        rw [Pj]
        exact SV.keep ((x8.same sB).append (SV.one (.inl (sB _ _ n3)))) uu
       ·rintro σ' Pa z0;refine hdn fun Gz9 zG9=>?_;obtain ⟨YT,YU,zc,rfl,x1,x2,x3,x5,x6,x7,x8,x9,_⟩:=z0;refine zG9 ?_
        rw [show min u1.length u2.length=(iu (gm r1 r2) d).length by omega,Qo] at x2
        refine ⟨_,_,_,_,_,_,_,zc,_,_,_,_,rfl,x3,x1,x2,zx,?_,?_,x5,x6,x9⟩
        ·rw [Qk,Qk,List.length_singleton];omega
        ·rw [Qk];omega
      ·have gj:d.1∈cj:=z_.mp (by cases hz:(av oq (ic d.1)).isSome with | true=>rfl | false=>rw [hz] at cc;cases cc)
       exact ⟨_,_,_,_,_,_,_,kj,N,fu,cj,_,rfl,⟨oq,sq _ _ k1,k2⟩,sq _ _ y2,y3.same sq,z4.old O6 gj,z5,z6,sq _ _ y7,y8.same sq,y9.trans sq⟩
     ·rintro σ' H8 z0;refine hdn fun Gz9 zG9=>?_;obtain ⟨v7,v8,v9,v10,v11,jw,jx,kj,N,fu,cj,i2,rfl,z1,z2,z3,z4,z5,z6,z7,z8,z9⟩:=z0;refine zG9 ?_
      rw [D5,List.drop_length] at z4
      exact zp _ _ ⟨v7,v8,v9,v10,v11,jw,jx,kj,N,fu,cj,i2,rfl,z1,z2,z3,z4,z5,z6,z9⟩
    ·rintro σ' H8 z0;refine hdn fun Gz9 zG9=>?_;obtain ⟨v7,v8,v9,v10,v11,jw,jx,kj,N,fu,cj,i2,rfl,z1,z2,z3,z4,z5,z6,z7⟩:=z0;refine zG9 ?_
     have nl:=z3.len
     have OT:=lQ z4 AA ua
     refine ⟨Lt,kj,N.map fun d=>gk (gm r1 r2) fst d.2,rfl,z2,by omega,⟨by simp [nl],fun j h1 h2=>?_⟩,fun j hj=>?_,fun L hL=>?_⟩
     ·obtain ⟨c,bb,yy,c1,c2,c3,c4⟩:=z3.at_ j h1 (by omega)
      exact ⟨c,bb,yy,_,c1,c2,c3,by rw [Qr];exact c4⟩
     ·rw [Qr,Qr]
      exact z4.rise B9 j (by simpa using hj)
     ·have w5:=aa.upd hL (.lst kj)
      exact ⟨_,_,_,_,_,_,_,_,L,kj,N,fu,cj,i2,rfl,z1.same w5,aA,z3.same w5,z4.turn,z5,z6,z7.trans w5⟩
   ·have hP:D=[]:=by
     cases us with
     | nil=>exact QT (by simpa using D5.symm)
     | cons u us=>simp at c
    subst hP
    exact bx _ _ ⟨FD.trans w1,q5.fin⟩
  ·rintro σ' H5 ⟨q1,q2⟩
   exact kN H5 q1 q2
theorem bK (l:List α) (i:Nat) (h:i < l.length):l.take (i+1)=l.take i++[l[i]]:=by rw [Qs,Qa h];rfl
def Pu (mg:Str->Option Value):Sp:=fun vs H Q _=>∃ (n r a:Addr) (xs:List V) (rows:List ak) (ns ws R:List Str),vs=[.ref n,.ref r]/\Ck H (adr mg "Net") n rows/\RT H a xs rows ns ws/\(∀ z∈ws,Wd z)/\H r=some (.lst (R.map V.str))/\R.Nodup/\(∀ e∈R,ji rows ns e)/\(∀ e∈R,∀ m∈bq rows e,m.2∈R)/\
 ∀ (D:Addr) (kvs:List (Key×V)) (H':Hp),H D=none->aa H H'->H' D=some (.dK kvs)->g_ H H' kvs R (ir rows R)->Q (.ref D) H'
set_option maxHeartbeats 2000000 in
theorem mB (T:Txt K mg w):bj P w K mg base 2 "sources_of" ["net","rows"] (Pu mg):=by
 have cl:=T.Ax.2.1
 have na:=T.Ax.2.2.1
 refine T.oJ.gg cO (fun vs H Q E h=>?_) (fun f ay A outer s H vs Q E hr h=>?_)
 ·refine hdn fun Gz9 zG9=>?_;obtain ⟨n,r,a,xs,rows,ns,ws,R,rfl,_⟩:=h;refine zG9 ?_
  rfl
 ·refine hdn fun Gz9 zG9=>?_;obtain ⟨n,r,a,xs,rows,ns,ws,R,rfl,CK,rt,hw,hR,AG,CL,DP,k⟩:=h;refine zG9 ?_
  have hu:=aV hr
  have ff:=Qy (aV hr)
  have hsz:sizeLine=16777216:=QM
  have few:=rt.few
  have Pw:R.length<=ns.length:=j9 AG fun x hx=>(CL x hx).1
  refine hdn fun Gz9 zG9=>?_;obtain ⟨dx,fs,en,⟨_,_,_,⟨d4,o4,k4,e1,e2,e3⟩⟩⟩:=CK;refine zG9 ?_
  generalize adr mg "Net"=C at*
  have look:∀ e,ji rows ns e->∃ m o,dj H d4 (.str e) (some (.ref m))/\H m=some (.ae o (.dT (tq rows e))):=fun e he=>by
   obtain ⟨v,h1,m,o,rfl,h2⟩:=e3.get rt.Bc (rt.Ao hw he).1
   refine ⟨m,o,by rw [<- h1];exact dj.rd (k:=Sum.inr e) (.inr ⟨o4,e2⟩),?_⟩
   rw [nE he.2] at h2
   exact h2
  refine ⟨_,(aE (V4 (i:=2) (own:=["row"]) (idx:=[]) (N':=["row"]) (cZ (a_ dQ) (["net","rows","sources","row","step","end"]:List Str) (by decide+kernel)) rfl (jT K (zv 1)) (fun _ _ _ _ _ _=>(aI (i:=0) (show List.Nodup (["row"]:List Str) by decide+kernel) rfl (Or.inl rfl))) (fun _ _ _ _ _ _=>dL) (fun _ _ _ _ _ _=>(zv 0)) (fun _ _ _ _ _ _=>(bS aC)) cO.nd rfl rfl)
   (aE (cU PassesOwn.never rfl (jT K (zv 1)) (aI (i:=3) cO.nd rfl (Or.inl rfl)) (aG (cU PassesOwn.never rfl (wA (cW hu (cN K (zv 0)) (zv 3) (fun _ _=>rfl))) (d6 K (n:=2) rfl (aM (aI (i:=4) cO.nd rfl (Or.inl rfl)) (aM (aI (i:=5) cO.nd rfl (Or.inl rfl)) cC))) (aG (bO (iB K QJ QK QL aZ (cW hu (zv 2) (zv 5) (fun _ _=>rfl)) (bH (bI (aD (zv 4) (aD (zv 3) aC))) aC)))))))
   (aG (bE (zv 2))))),?_⟩
  refine aJ (.inl ⟨⟨_,af.of hR⟩,fun D hD=>?_⟩)
  have rD:r≠D:=fun z=>by rw [<- z,hR] at hD;cases hD
  have kn:∀ {H':Hp} {kvs:List (Key×V)} {g:Str->List (List Str×Str)} {S:List Str},g_ H H' kvs S g->S.Nodup->(kvs.map (·.1)).Nodup:=fun h nd=>by
   rw [h.keys]
   exact List.pairwise_map.mpr (nd.imp fun h e=>h (Sum.inr.inj e))
  refine wQ (bN (R.map V.str)) (fun i τ H2=>∃ (v0:Option V) (kvs:List (Key×V)),τ=[v0]/\H2 D=some (.dK kvs)/\g_ H H2 kvs (R.take i) (fun _=>[])/\aa H H2) ⟨none,[],rfl,aA,⟨rfl,fun i h=>absurd h (by simp),fun i j h=>absurd h (by simp)⟩,aa.upd hD _⟩ (by rintro i τ H2 _ ⟨_,_,_,_,_,s⟩;exact af.of (s _ _ hR)) ?_ ?_
  ·rintro i τ H2 hi ⟨v0,kvs,rfl,q1,q2,q3⟩
   have D9:i < R.length:=by simpa using hi
   have eg:(R.map V.str).getD i .ai=.str R[i]:=by rw [Qb,Qq,Qa D9];rfl
   rw [eg]
   have ql:=q2.len
   rw [List.length_take] at ql
   refine ⟨(show 0<=sizeLine by decide),fun l hl=>⟨kvs,.inr R[i],rfl,aa.upd hl _ _ _ q1,by omega,_,kvs++[(.inr R[i],.ref l)],rfl,?_,?_,(q3.trans (aa.upd hl _)).put hD⟩⟩
   ·rw [L2.cF]
    ·exact aA
    ·have xg:R[i] ∉ R.take i:=fun hx=>by
      obtain ⟨j,hj,e⟩:=Qi hx
      rw [List.length_take] at hj
      rw [List.getElem_take] at e
      have:=(List.getElem_inj AG).mp e
      omega
     cases ez:av kvs (.inr R[i]) with
     | none=>rfl
     | some v=>
      have:=gW ez
      rw [q2.keys] at this
      obtain ⟨x,hx,e⟩:=List.mem_map.mp this
      rw [Sum.inr.inj e] at hx
      exact absurd hx xg
   ·rw [bK R i D9]
    have s2:=aa.upd hl (.lst [])
    have gp:H l=none:=q3.free hl
    have d2:=s2 _ _ q1
    have l2:upd H2 l (.lst []) l=some (.lst []):=aA
    refine ((q2.same s2).put gp l2 (fun j hj z=>?_) rfl).off d2 (fun _ z=>nomatch z) (fun _ _ z=>nomatch z) (fun _ z=>nomatch z)
    obtain ⟨_,l',ku,g2,_,g4,_⟩:=q2.at_ j hj (by rw [List.length_take];omega)
    rw [g2] at z
    rw [V.ref.inj z,hl] at g4
    cases g4
  ·rintro τ H2 ⟨v0,kvs,rfl,q1,q2,q3⟩
   rw [Ql,Qo] at q2
   have kl:=q2.len
   have CM:=kn q2 AG
   refine aO (fun σ' H'=>∃ (v3 v4 v5:Option V),σ'=[some (.ref n),some (.ref r),some (.ref D),v3,v4,v5]/\H' D=some (.dK kvs)/\g_ H H' kvs R (ir rows R)/\aa H H') ?_ ?_
   ·intro nx bx
    refine .inl ⟨⟨_,af.of (q3 _ _ hR)⟩,?_⟩
    refine cB (bN (R.map V.str)) (fun i σ' H'=>∃ (v3 v4 v5:Option V),σ'=[some (.ref n),some (.ref r),some (.ref D),v3,v4,v5]/\H' D=some (.dK kvs)/\g_ H H' kvs R (ir rows (R.take i))/\aa H H')
     ⟨none,none,none,rfl,q1,q2,q3⟩ (by rintro i σ' H' _ ⟨_,_,_,_,_,_,s⟩;exact af.of (s _ _ hR)) ?_ ?_
    ·rintro i σ' H3 hi ⟨v3,v4,v5,rfl,p1,p2,p3⟩
     have D9:i < R.length:=by simpa using hi
     have eg:(R.map V.str).getD i .ai=.str R[i]:=by rw [Qb,Qq,Qa D9];rfl
     rw [eg]
     have jf:=Qj D9
     have Px:ir rows (R.take (i+1))=fun e=>ir rows (R.take i) e++xy rows R[i] e (bq rows R[i]):=by
      funext e
      unfold ir
      rw [wG _ _ i D9]
     rw [Px]
     generalize R[i]=row at jf Px
     have Py:=CL _ jf
     obtain ⟨m,om,l1,l2⟩:=look _ Py
     have oe:(tq rows row).length=(bq rows row).length:=by simp [tq]
     refine ⟨n,C,dx,fs,.ref d4,rfl,p3 _ _ en,cl,na "moves" (by simp),e1,d4,.ref m,rfl,l1.same p3,m,tq rows row,om,rfl,p3 _ _ l2,?_⟩
     refine tH (fun j σ' H'=>∃ (v4 v5:Option V),σ'=[some (.ref n),some (.ref r),some (.ref D),some (.str row),v4,v5]/\H' D=some (.dK kvs)/\g_ H H' kvs R (fun e=>ir rows (R.take i) e++xy rows row e ((bq rows row).take j))/\aa H H')
      ⟨v4,v5,rfl,p1,by simpa [xy] using p2,p3⟩ (by rintro j σ' H' _ ⟨_,_,_,_,_,s⟩;exact s _ _ l2) ?_ ?_
     ·rintro j σ' H4 TT cc hj ⟨w4,w5,rfl,g1,g2,g3⟩ KW rd
      have Pz:j < (bq rows row).length:=by omega
      have eo:(tq rows row)[j]=((bq rows row)[j].1.map Sum.inr,.str (bq rows row)[j].2):=by simp [tq]
      rw [eo] at rd ⊢
      rw [Jh] at rd
      have GV:=bK _ j Pz
      have gj:=DP _ jf _ (Qj Pz)
      rw [GV]
      have abA:=rt.E6 hw Py.1
      generalize (bq rows row)[j]=mm at rd gj GV ⊢
      have zo:=aa.upd KW (.tup [.ref cc,.str mm.2])
      dsimp only
      generalize upd H4 TT (.tup [.ref cc,.str mm.2])=H5 at zo
      obtain ⟨q,hq,eq⟩:=Qi gj
      have Bj:=g2.same zo
      obtain ⟨k1,l,us,k2,k3,FJ,k5⟩:=Bj.at_ q (by omega) hq
      have gv:av kvs (.inr mm.2)=some (.ref l):=by
       rw [<- k2]
       refine gR CM ?_
       have:kvs[q]'(by omega)=(.inr mm.2,(kvs[q]'(by omega)).2):=by rw [<- eq,<- k1]
       rw [<- this]
       exact Qj _
      have vq:=zo _ _ g1
      have Y8:l≠D:=fun z=>by rw [z,vq] at FJ;cases FJ
      have D5:us.length < sizeLine:=by
       have h1:=k5.len
       have h2:=lG rows (R[q]'hq) 100 (R.take i) fun r hr=>by have:=rt.E6 hw (CL r (List.mem_of_mem_take hr)).1;omega
       have h3:=pZ rows row (R[q]'hq) ((bq rows row).take j)
       rw [Qk] at h1
       rw [List.length_take] at h2 h3
       have h4:min i R.length*100<=14*100:=Nat.mul_le_mul_right _ (by omega)
       omega
      have dg:=dj.k (k:=Sum.inr mm.2) vq
      rw [gv] at dg
      refine ⟨D,.ref l,rfl,dg,.inl ⟨rfl,_,af.of FJ⟩,(show 2<=sizeLine by decide),fun T8 Fz=>?_⟩
      have CN:=aa.upd Fz (.tup [.ref cc,.str row])
      have Hv:upd H5 T8 (.tup [.ref cc,.str row]) T8=some (.tup [.ref cc,.str row]):=aA
      dsimp only
      generalize upd H5 T8 (.tup [.ref cc,.str row])=H6 at CN Hv
      refine ⟨l,us,.ref T8,rfl,rfl,CN _ _ FJ,D5,_,_,rfl,by rw [aB Y8.symm];exact CN _ _ vq,?_,((g3.trans zo).trans CN).put k3⟩
      refine (Bj.same CN).push (q:=(mm.1,row)) AG (by omega) hq k2 (CN _ _ FJ) Hv (rd.same (zo.trans CN)) ?_ ?_
      ·rw [eq]
       simp [xy]
      ·intro e he
       rw [eq] at he
       simp [xy,Ne.symm he]
     ·rintro σ' H4 ⟨w4,w5,rfl,g1,g2,g3⟩
      rw [oe,Qo] at g2
      exact ⟨_,_,_,rfl,g1,g2,g3⟩
    ·rintro σ' H3 ⟨v3,v4,v5,rfl,p1,p2,p3⟩
     rw [Ql,Qo] at p2
     exact bx _ _ ⟨v3,v4,v5,rfl,p1,p2,p3⟩
   ·rintro σ' H3 ⟨v3,v4,v5,rfl,p1,p2,p3⟩
    exact k D kvs H3 hD p3 p1 p2
def PB (mg:Str->Option Value):Sp:=fun vs H Q _=>∃ (x dx:Addr),vs=[.ref x]/\H x=some (.ins (adr mg "Parting") dx [])/\
 ∀ (H0 H':Hp) (lm dn lw dw:Addr),(∀ b,b≠x->H0 b=H b)->H0 x=none->Sx x H H'->iw (adr mg "Parting") H0 H' x lm dn lw dw [] [] [] [] []->Q .ai H'
set_option maxHeartbeats 1000000 in
theorem rC (T:Txt K mg w):Ce P w K mg base 1 "Parting" (adr mg "Parting") ["self"] (PB mg):=by
 have cl:=T.bA.2.1
 have na:=T.bA.2.2.1
 refine T.bA.gg kG (fun vs H Q E h=>?_) (fun f ay A outer s H vs Q E hr h=>?_)
 ·obtain ⟨x,dx,rfl,_⟩:=h
  rfl
 ·obtain ⟨x,dx,rfl,hx,k⟩:=h
  have hu:=aV hr
  refine ⟨_,(aE (jV K (zv 0) (bS aC))
   (aE (jV K (zv 0) m8)
   (aE (jV K (zv 0) (bS aC))
   (aG (jV K (zv 0) m8))))),?_⟩
  generalize hC:adr mg "Parting"=C at*
  have nf:∀ {f g:Str} {v:V} {fs:List (Str×V)},g≠f->(br f v fs).lookup g=fs.lookup g:=fun {f g v fs} n=>by rw [bM,if_neg n]
  have ne:∀ {f:Str} {v:V} {fs:List (Str×V)},(br f v fs).lookup f=some v:=fun {f v fs}=>by rw [bM,if_pos rfl]
  refine fH ⟨(show 0<=sizeLine by decide),fun lm CO=>?_⟩
  have n1:lm≠x:=fun z=>by rw [z,hx] at CO;cases CO
  refine ⟨x,C,dx,[],rfl,by rw [aB n1.symm];exact hx,cl,na "members" (by simp),by simp,?_⟩
  generalize Dh:br "members" (.ref lm) []=f1
  have a1:upd (upd H lm (.lst [])) x (.ins C dx f1) lm=some (.lst []):=by rw [aB n1];exact aA
  have x1:upd (upd H lm (.lst [])) x (.ins C dx f1) x=some (.ins C dx f1):=aA
  have s1:Sx x H (upd (upd H lm (.lst [])) x (.ins C dx f1)):=((aa.upd CO _).sx).trans Sx.upd
  have l1:f1.length<=1:=by rw [<- Dh];exact bF _ _ []
  generalize upd (upd H lm (.lst [])) x (.ins C dx f1)=H1 at a1 x1 s1 ⊢
  refine fH fun dn qc=>?_
  have n2:dn≠x:=fun z=>by rw [z,x1] at qc;cases qc
  have m2:lm≠dn:=fun z=>by rw [<- z,a1] at qc;cases qc
  refine ⟨x,C,dx,f1,rfl,by rw [aB n2.symm];exact x1,cl,na "number" (by simp),by omega,?_⟩
  generalize Hz:br "number" (.ref dn) f1=f2
  have a2:upd (upd H1 dn (.dK [])) x (.ins C dx f2) lm=some (.lst []):=by rw [aB n1,aB m2];exact a1
  have b2:upd (upd H1 dn (.dK [])) x (.ins C dx f2) dn=some (.dK []):=by rw [aB n2];exact aA
  have x2:upd (upd H1 dn (.dK [])) x (.ins C dx f2) x=some (.ins C dx f2):=aA
  have s2:Sx x H1 (upd (upd H1 dn (.dK [])) x (.ins C dx f2)):=((aa.upd qc _).sx).trans Sx.upd
  have l2:f2.length<=2:=by rw [<- Hz];have:=bF "number" (.ref dn) f1;omega
  generalize upd (upd H1 dn (.dK [])) x (.ins C dx f2)=H2 at a2 b2 x2 s2 ⊢
  refine fH ⟨(show 0<=sizeLine by decide),fun lw ym=>?_⟩
  have n3:lw≠x:=fun z=>by rw [z,x2] at ym;cases ym
  have m3:lm≠lw:=fun z=>by rw [<- z,a2] at ym;cases ym
  have o3:dn≠lw:=fun z=>by rw [<- z,b2] at ym;cases ym
  refine ⟨x,C,dx,f2,rfl,by rw [aB n3.symm];exact x2,cl,na "waiting" (by simp),by omega,?_⟩
  generalize FL:br "waiting" (.ref lw) f2=f3
  have a3:upd (upd H2 lw (.lst [])) x (.ins C dx f3) lm=some (.lst []):=by rw [aB n1,aB m3];exact a2
  have b3:upd (upd H2 lw (.lst [])) x (.ins C dx f3) dn=some (.dK []):=by rw [aB n2,aB o3];exact b2
  have c3:upd (upd H2 lw (.lst [])) x (.ins C dx f3) lw=some (.lst []):=by rw [aB n3];exact aA
  have x3:upd (upd H2 lw (.lst [])) x (.ins C dx f3) x=some (.ins C dx f3):=aA
  have s3:Sx x H2 (upd (upd H2 lw (.lst [])) x (.ins C dx f3)):=((aa.upd ym _).sx).trans Sx.upd
  have l3:f3.length<=3:=by rw [<- FL];have:=bF "waiting" (.ref lw) f2;omega
  generalize upd (upd H2 lw (.lst [])) x (.ins C dx f3)=H3 at a3 b3 c3 x3 s3 ⊢
  refine n5 fun dw zu=>?_
  have n4:dw≠x:=fun z=>by rw [z,x3] at zu;cases zu
  have m4:lm≠dw:=fun z=>by rw [<- z,a3] at zu;cases zu
  have o4:dn≠dw:=fun z=>by rw [<- z,b3] at zu;cases zu
  have q4:lw≠dw:=fun z=>by rw [<- z,c3] at zu;cases zu
  refine ⟨x,C,dx,f3,rfl,by rw [aB n4.symm];exact x3,cl,na "waits" (by simp),by omega,?_⟩
  generalize FN:br "waits" (.ref dw) f3=f4
  have s4:Sx x H3 (upd (upd H3 dw (.dK [])) x (.ins C dx f4)):=((aa.upd zu _).sx).trans Sx.upd
  have sA:=((s1.trans s2).trans s3).trans s4
  have fx:∀ {b:Addr} {J:Hp},Sx x H J->b≠x->J b=none->H b=none:=fun {b J} sx nb hb=>by
   cases e:H b with
   | none=>rfl
   | some o=>rw [sx b o nb e] at hb;cases hb
  have hd:H dn=none:=fx s1 n2 qc
  have Y9:H lw=none:=fx (s1.trans s2) n3 ym
  have Jy:H dw=none:=fx ((s1.trans s2).trans s3) n4 zu
  refine k (fun b=>if b=x then none else H b) _ lm dn lw dw (fun b hb=>if_neg hb) (if_pos rfl) sA ⟨⟨dx,f4,aA,?_,?_,?_,?_,?_⟩,by rw [aB n1,aB m4];exact a3,rfl,fun i h=>absurd h (by simp),by rw [aB n2,aB o4];exact b3,by rw [aB n3,aB q4];exact c3,by rw [aB n4];exact aA,fun k=>by simp [av],List.nodup_nil,by simp,?_,fun b hb=>?_,fun b o e=>?_⟩
  ·rw [<- FN,nf (by decide+kernel),<- FL,nf (by decide+kernel),<- Hz,nf (by decide+kernel),<- Dh,ne]
  ·rw [<- FN,nf (by decide+kernel),<- FL,nf (by decide+kernel),<- Hz,ne]
  ·rw [<- FN,nf (by decide+kernel),<- FL,ne]
  ·rw [<- FN,ne]
  ·intro m hm
   have:m≠"waits"/\m≠"waiting"/\m≠"number"/\m≠"members":=by
    have h4:∀ m∈(["begin","put_off","take_waiting","part"]:List Str),m≠"waits"/\m≠"waiting"/\m≠"number"/\m≠"members":=by decide+kernel
    exact h4 m hm
   rw [<- FN,nf this.1,<- FL,nf this.2.1,<- Hz,nf this.2.2.1,<- Dh,nf this.2.2.2];rfl
  ·simp only [QS,List.nodup_cons,Qp,QB,or_false,not_or,List.nodup_nil,and_true,not_false_eq_true]
   exact ⟨⟨n1.symm,n2.symm,n3.symm,n4.symm⟩,⟨m2,m3,m4⟩,⟨o3,o4⟩,q4⟩
  ·simp only [QS,Qp,QB,or_false] at hb
   rcases hb with rfl | rfl | rfl | rfl | rfl
   ·exact if_pos rfl
   ·rw [if_neg n1];exact CO
   ·rw [if_neg n2];exact hd
   ·rw [if_neg n3];exact Y9
   ·rw [if_neg n4];exact Jy
  ·by_cases hb:b=x
   ·rw [if_pos hb] at e;cases e
   ·rw [if_neg hb] at e;exact sA b o hb e
def HA (mg:Str->Option Value):Sp:=fun vs H Q _=>∃ (H0:Hp) (p lm dn lw dw:Addr) (ms:List Addr) (mem:List (List Str)) (kn:List (Key×V)) (wt:List Nat) (kw:List (Key×V)) (j:Nat),vs=[.ref p,cy j]/\iw (adr mg "Parting") H0 H p lm dn lw dw ms mem kn wt kw/\j ∉ wt/\wt.length<=1000/\
 ∀ (ja:List (Key×V)) (H':Hp),iw (adr mg "Parting") H0 H' p lm dn lw dw ms mem kn (wt++[j]) ja->(∀ b o,b≠lw->b≠dw->H b=some o->H' b=some o)->Q .ai H'
set_option maxHeartbeats 1000000 in
theorem dZ (T:Txt K mg w):uy P w K mg base 1 (adr mg "Parting") "put_off" ["self","at"] (HA mg):=by
 have cl:=T.bA.2.1
 have na:=T.bA.2.2.1
 refine T.Xn.gg hU (fun vs H Q E h=>?_) (fun f ay A outer s H vs Q E hr h=>?_)
 ·refine hdn fun Gz9 zG9=>?_;obtain ⟨H0,p,lm,dn,lw,dw,ms,mem,kn,wt,kw,j,rfl,_⟩:=h;refine zG9 ?_
  rfl
 ·refine hdn fun Gz9 zG9=>?_;obtain ⟨H0,p,lm,dn,lw,dw,ms,mem,kn,wt,kw,j,rfl,pt,hj,hl,k⟩:=h;refine zG9 ?_
  have hu:=aV hr
  have hsz:sizeLine=16777216:=QM
  refine hdn fun Gz9 zG9=>?_;obtain ⟨dx,fs,f1,f2,f3,f4,f5,f6⟩:=pt.f.ex;refine zG9 ?_
  refine ⟨_,(aE (bO (iB K QJ QK QL aZ (cN K (zv 0)) (aD (zv 1) aC)))
   (aG (nP hu (cN K (zv 0)) (zv 1) zE rfl))),?_⟩
  have nd:=pt.nd
  simp only [List.cons_append,List.nil_append,List.nodup_cons,Qp,not_or] at nd
  refine hdn fun Gz9 zG9=>?_;obtain ⟨⟨p1,p2,p3,p4,p5⟩,⟨q1,q2,q3,q4⟩,⟨r1,r2,r3⟩,⟨t1,t2⟩,u1,u2⟩:=nd;refine zG9 ?_
  have kl:=pt.kl
  have KR:av kw (.inl (j:Int))=none:=by
   cases hv:av kw (.inl (j:Int)) with
   | none=>rfl
   | some v=>exact absurd ((pt.Aw j).mp (by rw [hv];rfl)) hj
  refine aO (fun σ' H'=>σ'=[some (.ref p),some (cy j)]/\H'=upd H lw (.lst (wt.map cy++[cy j]))) (fun nx bx=>⟨p,_,dx,fs,_,rfl,f1,cl,na "waiting" (by simp),f4,.inl ⟨rfl,_,af.of pt.w⟩,lw,_,cy j,rfl,rfl,pt.w,by simp;omega,bx _ _ ⟨rfl,rfl⟩⟩) ?_
  rintro σ' H1 ⟨rfl,rfl⟩
  have fin:iw (adr mg "Parting") H0 (upd (upd H lw (.lst (wt.map cy++[cy j]))) dw (.dK (putK kw (.inl (j:Int)) (.bl true)))) p lm dn lw dw ms mem kn (wt++[j]) (putK kw (.inl (j:Int)) (.bl true)):=by
   have Bu:∀ i (h:i < ms.length),ms[i]≠lw/\ms[i]≠dw:=fun i h=>⟨fun z=>t2 (by rw [<- z];exact Qj h),fun z=>u1 (by rw [<- z];exact Qj h)⟩
   refine ⟨⟨dx,fs,by rw [aB p4,aB p3];exact f1,f2,f3,f4,f5,f6⟩,by rw [aB q3,aB q2];exact pt.m,pt.ml,fun i a b=>?_,by rw [aB r2,aB r1];exact pt.n,by rw [aB t1,Qm];exact aA,aA,fun k=>?_,?_,?_,pt.nd,pt.fr,(pt.sm.put (pt.fr lw (by simp))).put (pt.fr dw (by simp))⟩
   ·obtain ⟨kvs,e1,e2⟩:=pt.d i a b
    exact ⟨kvs,by rw [aB (Bu i a).2,aB (Bu i a).1];exact e1,e2⟩
   ·rw [lE,List.mem_append,List.mem_singleton,<- pt.Aw k]
    by_cases hk:k=j
    ·subst hk;simp
    ·rw [if_neg (by intro z;injection z with z;omega)]
     constructor
     ·exact fun h=>.inl h
     ·exact fun h=>h.elim id fun z=>absurd z hk
   ·rw [List.nodup_append]
    exact ⟨pt.wn,by simp,fun a ha b hb=>by rw [List.mem_singleton.mp hb];exact fun z=>hj (by rw [<- z];exact ha)⟩
   ·rw [L2.cF _ KR];simp;omega
  exact ⟨p,_,dx,fs,_,rfl,by rw [aB p3];exact f1,cl,na "waits" (by simp),f5,dw,_,rfl,yz.k (k:=.inl (j:Int)) (by rw [aB (Ne.symm t1)];exact pt.ws) (by omega),k _ _ fin fun b o FO CP e=>by rw [aB CP,aB FO];exact e⟩
def PF (mg:Str->Option Value):Sp:=fun vs H Q _=>∃ (H0:Hp) (p lm dn lw dw:Addr) (ms:List Addr) (mem:List (List Str)) (kn:List (Key×V)) (wt:List Nat) (kw:List (Key×V)) (j:Nat),vs=[.ref p]/\iw (adr mg "Parting") H0 H p lm dn lw dw ms mem kn (wt++[j]) kw/\
 ∀ (ja:List (Key×V)) (H':Hp),iw (adr mg "Parting") H0 H' p lm dn lw dw ms mem kn wt ja->(∀ b o,b≠lw->b≠dw->H b=some o->H' b=some o)->Q (cy j) H'
theorem uR [DecidableEq κ] {kvs:List (κ×V)} {k k':κ}:av (qz kvs k) k'=if k'=k then none else av kvs k':=by
 unfold av qz
 induction kvs with
 | nil=>simp
 | cons q kvs ih=>
  by_cases h1:q.1=k
  ·rw [List.filter_cons_of_neg (by simp [h1]),ih]
   by_cases h2:k'=k
   ·rw [if_pos h2,if_pos h2]
   ·rw [if_neg h2,if_neg h2,List.find?_cons_of_neg (by simp;rw [h1];exact fun z=>h2 z.symm)]
  ·rw [List.filter_cons_of_pos (by simp [h1])]
   by_cases h3:q.1=k'
   ·rw [List.find?_cons_of_pos (by simp [h3]),List.find?_cons_of_pos (by simp [h3]),if_neg (by rw [<- h3];exact h1)]
   ·rw [List.find?_cons_of_neg (by simp [h3]),List.find?_cons_of_neg (by simp [h3]),ih]
theorem xM [DecidableEq κ] {kvs:List (κ×V)} {k:κ} (h:(av kvs k).isSome=true):(qz kvs k).length < kvs.length:=by
 unfold qz
 rw [List.length_filter_lt_length_iff_exists]
 rw [fM] at h
 obtain ⟨q,hq,e⟩:=List.mem_map.mp h
 exact ⟨q,hq,by simp [e]⟩
set_option maxHeartbeats 1000000 in
theorem fG (T:Txt K mg w):uy P w K mg base 1 (adr mg "Parting") "take_waiting" ["self"] (PF mg):=by
 have cl:=T.bA.2.1
 have na:=T.bA.2.2.1
 refine T.Xo.gg cS (fun vs H Q E h=>?_) (fun f ay A outer s H vs Q E hr h=>?_)
 ·refine hdn fun Gz9 zG9=>?_;obtain ⟨H0,p,lm,dn,lw,dw,ms,mem,kn,wt,kw,j,rfl,_⟩:=h;refine zG9 ?_
  rfl
 ·refine hdn fun Gz9 zG9=>?_;obtain ⟨H0,p,lm,dn,lw,dw,ms,mem,kn,wt,kw,j,rfl,pt,k⟩:=h;refine zG9 ?_
  have hu:=aV hr
  have hsz:sizeLine=16777216:=QM
  refine hdn fun Gz9 zG9=>?_;obtain ⟨dx,fs,f1,f2,f3,f4,f5,f6⟩:=pt.f.ex;refine zG9 ?_
  refine ⟨_,(aE (aQ (i:=1) cS.nd rfl (Or.inl rfl) (yH K QJ PySem.F.slot_list_pop PySem.F.type_list_pop zN (cN K (zv 0))))
   (aE (Nh (cN K (zv 0)) (zv 1))
   (aG (bE (zv 1))))),?_⟩
  have nd:=pt.nd
  simp only [List.cons_append,List.nil_append,List.nodup_cons,Qp,not_or] at nd
  refine hdn fun Gz9 zG9=>?_;obtain ⟨⟨p1,p2,p3,p4,p5⟩,⟨q1,q2,q3,q4⟩,⟨r1,r2,r3⟩,⟨t1,t2⟩,u1,u2⟩:=nd;refine zG9 ?_
  have pw:=pt.w
  rw [Qm,List.map_singleton] at pw
  have Y_:j ∉ wt:=by
   have:=pt.wn
   rw [List.nodup_append] at this
   exact fun z=>this.2.2 j z j (by simp) rfl
  refine aJ ⟨p,_,dx,fs,_,rfl,f1,cl,na "waiting" (by simp),f4,.inl ⟨rfl,_,af.of pt.w⟩,lw,_,cy j,rfl,rfl,pw,by simp,?_⟩
  rw [List.dropLast_concat]
  dsimp only
  have fin:iw (adr mg "Parting") H0 (upd (upd H lw (.lst (wt.map cy))) dw (.dK (qz kw (.inl (j:Int))))) p lm dn lw dw ms mem kn wt (qz kw (.inl (j:Int))):=by
   have Bu:∀ i (h:i < ms.length),ms[i]≠lw/\ms[i]≠dw:=fun i h=>⟨fun z=>t2 (by rw [<- z];exact Qj h),fun z=>u1 (by rw [<- z];exact Qj h)⟩
   refine ⟨⟨dx,fs,by rw [aB p4,aB p3];exact f1,f2,f3,f4,f5,f6⟩,by rw [aB q3,aB q2];exact pt.m,pt.ml,fun i a b=>?_,by rw [aB r2,aB r1];exact pt.n,by rw [aB t1];exact aA,aA,fun k=>?_,?_,?_,pt.nd,pt.fr,(pt.sm.put (pt.fr lw (by simp))).put (pt.fr dw (by simp))⟩
   ·obtain ⟨kvs,e1,e2⟩:=pt.d i a b
    exact ⟨kvs,by rw [aB (Bu i a).2,aB (Bu i a).1];exact e1,e2⟩
   ·rw [uR]
    have:=pt.Aw k
    rw [List.mem_append,List.mem_singleton] at this
    by_cases hk:k=j
    ·subst hk
     rw [if_pos rfl]
     exact ⟨(fun z=>nomatch z),(fun z=>absurd z Y_)⟩
    ·rw [if_neg (by intro z;injection z with z;omega),this]
     exact ⟨fun z=>z.elim id fun z=>absurd z hk,.inl⟩
   ·have:=pt.wn
    rw [List.nodup_append] at this
    exact this.1
   ·have h1:=pt.kl
    have h2:=xM (kvs:=kw) (k:=.inl (j:Int)) ((pt.Aw j).mpr (by simp))
    rw [Qk,List.length_singleton] at h1
    omega
  refine aO (fun σ' H'=>σ'=[some (.ref p),some (cy j)]/\H'=upd (upd H lw (.lst (wt.map cy))) dw (.dK (qz kw (.inl (j:Int))))) (fun nx bx=>⟨p,_,dx,fs,_,rfl,by rw [aB p3];exact f1,cl,na "waits" (by simp),f5,dw,kw,.inl (j:Int),rfl,by rw [aB (Ne.symm t1)];exact pt.ws,rfl,(pt.Aw j).mpr (by simp),bx _ _ ⟨rfl,rfl⟩⟩) ?_
  rintro σ' H1 ⟨rfl,rfl⟩
  exact k _ _ fin fun b o FO CP e=>by rw [aB CP,aB FO];exact e
def K3 (mg:Str->Option Value):Sp:=fun vs H Q _=>∃ (H0:Hp) (p lm dn lw dw r:Addr) (ms:List Addr) (mem:List (List Str)) (kn:List (Key×V)) (wt:List Nat) (kw:List (Key×V)) (rows:List Str),vs=[.ref p,.ref r]/\iw (adr mg "Parting") H0 H p lm dn lw dw ms mem kn wt kw/\H r=some (.lst (rows.map V.str))/\r≠lm/\rows.Nodup/\rows.length<=100/\mem.length<=1000/\kn.length<=1000/\
 ∀ (d:Addr) (cz:List (Key×V)) (H':Hp),H d=none->iw (adr mg "Parting") H0 H' p lm dn lw dw (ms++[d]) (mem++[rows]) cz wt kw->(∀ x,av cz (.inr x)=if x∈rows then some (cy mem.length) else av kn (.inr x))->cz.length<=kn.length+rows.length->((∀ x∈rows,(av kn (.inr x)).isSome=true)->cz.length=kn.length)->(∀ b o,b≠lm->b≠dn->H b=some o->H' b=some o)->Q (cy mem.length) H'
theorem zK [DecidableEq κ] {kvs:List (κ×V)} {k:κ} {v:V} (h:(av kvs k).isSome=true):(putK kvs k v).length=kvs.length:=by
 have ha:(kvs.any fun kv=>decide (kv.1=k))=true:=by rw [dE];exact h
 unfold putK
 rw [if_pos ha,Ql]
set_option maxHeartbeats 1000000 in
theorem fF (T:Txt K mg w):uy P w K mg base 1 (adr mg "Parting") "begin" ["self","rows"] (K3 mg):=by
 have cl:=T.bA.2.1
 have na:=T.bA.2.2.1
 refine T.Xm.gg d8 (fun vs H Q E h=>?_) (fun f ay A outer s H vs Q E hr h=>?_)
 ·refine hdn fun Gz9 zG9=>?_;obtain ⟨H0,p,lm,dn,lw,dw,r,ms,mem,kn,wt,kw,rows,rfl,_⟩:=h;refine zG9 ?_
  rfl
 ·refine hdn fun Gz9 zG9=>?_;obtain ⟨H0,p,lm,dn,lw,dw,r,ms,mem,kn,wt,kw,rows,rfl,pt,sf,nr,jn,fr,fm,fk,k⟩:=h;refine zG9 ?_
  have hu:=aV hr
  have hsz:sizeLine=16777216:=QM
  refine hdn fun Gz9 zG9=>?_;obtain ⟨dx,fs,f1,f2,f3,f4,f5,f6⟩:=pt.f.ex;refine zG9 ?_
  have ml:=pt.ml
  refine ⟨_,(aE (aQ (i:=2) d8.nd rfl (Or.inl rfl) (cE (bL K) (by rfl) T.vt PySem.boot_len (fY (cN K (zv 0)) aC)))
   (aE (bO (iB K QJ QK QL aZ (cN K (zv 0)) (qS (zH (own:=["row"]) (idx:=[]) (N':=["row"]) (cZ (a_ cR) (["self","rows","at","row"]:List Str) (by decide+kernel)) rfl (jT K (zv 1)) (fun _ _ _ _ _ _=>(aI (i:=0) (show List.Nodup (["row"]:List Str) by decide+kernel) rfl (Or.inl rfl))) (fun _ _ _ _ _ _=>dL) (fun _ _ _ _ _ _=>(zv 0)) (fun _ _ _ _ _ _=>zE)) aC)))
   (aE (cU PassesOwn.never rfl (jT K (zv 1)) (aI (i:=3) d8.nd rfl (Or.inl rfl)) (aG (nP hu (cN K (zv 0)) (zv 3) (zv 2) rfl)))
   (aG (bE (zv 2)))))),?_⟩
  have nd:=pt.nd
  simp only [List.cons_append,List.nil_append,List.nodup_cons,Qp,not_or] at nd
  refine hdn fun Gz9 zG9=>?_;obtain ⟨⟨p1,p2,p3,p4,p5⟩,⟨q1,q2,q3,q4⟩,⟨r1,r2,r3⟩,⟨t1,t2⟩,u1,u2⟩:=nd;refine zG9 ?_
  have Za:r≠dn:=fun z=>by rw [z,pt.n] at sf;cases sf
  refine aJ ⟨p,_,dx,fs,_,rfl,f1,cl,na "members" (by simp),f2,.inl ⟨_,.inl (af.of pt.m),?_⟩⟩
  rw [Ql,ml]
  dsimp only
  refine aO (fun σ' H'=>∃ (d:Addr) (H1:Hp) (kvs:List (Key×V)),σ'=[some (.ref p),some (.ref r),some (cy mem.length),none]/\H d=none/\aa H H1/\H1 d=some (.dK kvs)/\kvs.map (·.1)=rows.map Sum.inr/\H'=upd H1 lm (.lst (ms.map V.ref++[.ref d]))) ?_ ?_
  ·intro nx bx
   refine ⟨p,_,dx,fs,_,rfl,f1,cl,na "members" (by simp),f2,.inl ⟨rfl,_,af.of pt.m⟩,.inl ⟨⟨_,af.of sf⟩,fun D hD=>?_⟩⟩
   refine wQ (bN (rows.map V.str)) (fun i τ H'=>∃ (v0:Option V) (kvs:List (Key×V)),τ=[v0]/\H' D=some (.dK kvs)/\kvs.map (·.1)=(rows.take i).map Sum.inr/\aa H H') ⟨none,[],rfl,aA,rfl,aa.upd hD _⟩ (by rintro i τ H' _ ⟨_,_,_,_,_,s⟩;exact af.of (s _ _ sf)) ?_ ?_
   ·rintro i τ H1 hi ⟨v0,kvs,rfl,g1,g2,g3⟩
    rw [Ql] at hi
    have eg:(rows.map V.str).getD i .ai=.str rows[i]:=by rw [Qb,Qq,Qa hi];rfl
    rw [eg]
    have kl:kvs.length=min i rows.length:=by have:=congrArg List.length g2;simpa using this
    have xg:av kvs (.inr rows[i])=none:=by
     cases hv:av kvs (.inr rows[i]) with
     | none=>rfl
     | some v=>
      have:(Sum.inr rows[i]:Key)∈kvs.map (·.1):=by rw [<- fM,hv];rfl
      rw [g2] at this
      obtain ⟨x,hx,e⟩:=List.mem_map.mp this
      have e:x=rows[i]:=Sum.inr.inj e
      subst e
      obtain ⟨j,hj,ej⟩:=Qi hx
      rw [List.getElem_take] at ej
      have M5:j < i:=by simp at hj;omega
      exact absurd ((List.getElem_inj jn).mp ej) (by omega)
    refine ⟨kvs,.inr rows[i],rfl,g1,by omega,_,_,rfl,aA,?_,g3.put hD⟩
    rw [L2.cF _ xg,Qm,g2,Qs,Qa hi,Qm];rfl
   ·rintro τ H1 ⟨v0,kvs,rfl,g1,g2,g3⟩
    rw [Ql,Qo] at g2
    exact ⟨lm,_,.ref D,rfl,rfl,g3 _ _ pt.m,by simp;omega,bx _ _ ⟨D,H1,kvs,rfl,hD,g3,g1,g2,rfl⟩⟩
  rintro σ' H2 ⟨d,H1,kvs,rfl,hd,s1,e1,e2,rfl⟩
  have PJ:d≠lm:=fun z=>by rw [z,pt.m] at hd;cases hd
  have PK:d≠dn:=fun z=>by rw [z,pt.n] at hd;cases hd
  have dp:d≠p:=fun z=>by rw [z,f1] at hd;cases hd
  have Zb:d≠lw:=fun z=>by rw [z,pt.w] at hd;cases hd
  have Zc:d≠dw:=fun z=>by rw [z,pt.ws] at hd;cases hd
  have Zd:d ∉ ms:=fun z=>by
   obtain ⟨i,hi,ei⟩:=Qi z
   obtain ⟨kv,h1,_⟩:=pt.d i hi (by omega)
   rw [ei,hd] at h1;cases h1
  have drr:d≠r:=fun z=>by rw [z,sf] at hd;cases hd
  have b1:∀ b o,b≠lm->H b=some o->upd H1 lm (.lst (ms.map V.ref++[.ref d])) b=some o:=fun b o nb e=>by rw [aB nb];exact s1 _ _ e
  have m1:upd H1 lm (.lst (ms.map V.ref++[.ref d])) lm=some (.lst ((ms++[d]).map V.ref)):=by rw [Qm];exact aA
  have d1:upd H1 lm (.lst (ms.map V.ref++[.ref d])) d=some (.dK kvs):=by rw [aB PJ];exact e1
  have yj:aa H0 (upd H1 lm (.lst (ms.map V.ref++[.ref d]))):=(pt.sm.trans s1).put (pt.fr lm (by simp))
  generalize upd H1 lm (.lst (ms.map V.ref++[.ref d]))=H2 at b1 m1 d1 yj
  refine aO (fun σ' H'=>∃ (v3:Option V) (cz:List (Key×V)),σ'=[some (.ref p),some (.ref r),some (cy mem.length),v3]/\H'=upd H2 dn (.dK cz)/\(∀ x,av cz (.inr x)=if x∈rows then some (cy mem.length) else av kn (.inr x))/\cz.length<=kn.length+rows.length/\((∀ x∈rows,(av kn (.inr x)).isSome=true)->cz.length=kn.length)) ?_ ?_
  ·intro nx bx
   refine .inl ⟨⟨_,af.of (b1 _ _ nr sf)⟩,?_⟩
   refine cB (bN (rows.map V.str)) (fun i σ' H'=>∃ (v3:Option V) (cz:List (Key×V)),σ'=[some (.ref p),some (.ref r),some (cy mem.length),v3]/\H'=upd H2 dn (.dK cz)/\(∀ x,av cz (.inr x)=if x∈rows.take i then some (cy mem.length) else av kn (.inr x))/\cz.length<=kn.length+i/\((∀ x∈rows,(av kn (.inr x)).isSome=true)->cz.length=kn.length))
    ⟨none,kn,rfl,by rw [iY (b1 _ _ (Ne.symm q1) pt.n)],fun x=>by simp,by omega,fun _=>rfl⟩ (by rintro i σ' H' _ ⟨_,_,_,h,_⟩;(rw [h];exact af.of (by rw [aB Za];exact b1 _ _ nr sf))) ?_ ?_
   ·rintro i σ' H3 hi ⟨v3,cz,rfl,rfl,g1,g2,g3⟩
    rw [Ql] at hi
    have eg:(rows.map V.str).getD i .ai=.str rows[i]:=by rw [Qb,Qq,Qa hi];rfl
    rw [eg]
    refine ⟨p,_,dx,fs,_,rfl,by rw [aB p2];exact b1 _ _ p1 f1,cl,na "number" (by simp),f3,dn,_,rfl,yz.k (k:=.inr rows[i]) aA (by omega),_,putK cz (.inr rows[i]) (cy mem.length),rfl,by rw [gX],fun x=>?_,?_,fun hh=>?_⟩
    ·have tk:rows.take (i+1)=rows.take i++[rows[i]]:=by rw [Qs,Qa hi];rfl
     rw [lE,g1,tk]
     by_cases hx:x=rows[i]
     ·subst hx
      rw [if_pos rfl,if_pos (List.mem_append.mpr (.inr List.mem_cons_self))]
     ·rw [if_neg (fun z=>hx (Sum.inr.inj z))]
      by_cases hm:x∈rows.take i
      ·rw [if_pos hm,if_pos (List.mem_append.mpr (.inl hm))]
      ·rw [if_neg hm,if_neg fun z=>(List.mem_append.mp z).elim hm fun z=>hx (List.mem_singleton.mp z)]
    ·have:=bT cz (.inr rows[i]) (cy mem.length);omega
    ·rw [zK ?_,g3 hh]
     rw [g1]
     split
     ·rfl
     ·exact hh _ (Qj hi)
   ·rintro σ' H3 ⟨v3,cz,rfl,rfl,g1,g2,g3⟩
    rw [Ql] at g1 g2
    rw [Qo] at g1
    exact bx _ _ ⟨v3,cz,rfl,rfl,g1,g2,g3⟩
  rintro σ' H3 ⟨v3,cz,rfl,rfl,g1,g2,g3⟩
  have Bu:∀ i (h:i < ms.length),ms[i]≠lm/\ms[i]≠dn:=fun i h=>⟨fun z=>q4 (by rw [<- z];exact Qj h),fun z=>r3 (by rw [<- z];exact Qj h)⟩
  refine k d cz _ hd ⟨⟨dx,fs,by rw [aB p2];exact b1 _ _ p1 f1,f2,f3,f4,f5,f6⟩,by rw [aB q1];exact m1,by simp [ml],fun i a b=>?_,aA,by rw [aB (Ne.symm r1)];exact b1 _ _ (Ne.symm q2) pt.w,by rw [aB (Ne.symm r2)];exact b1 _ _ (Ne.symm q3) pt.ws,pt.Aw,pt.wn,pt.kl,?_,fun b hb=>?_,yj.put (pt.fr dn (by simp))⟩ g1 g2 g3 fun b o FO CP e=>by rw [aB CP];exact b1 _ _ FO e
  ·by_cases hi:i < ms.length
   ·rw [Qe hi,Qe (by omega)]
    obtain ⟨kv,h1,h2⟩:=pt.d i hi (by omega)
    exact ⟨kv,by rw [aB (Bu i hi).2];exact b1 _ _ (Bu i hi).1 h1,h2⟩
   ·have ip:i=ms.length:=by simp at a;omega
    subst ip
    rw [Qf (Qz _),Qf (by omega)]
    simp only [Nat.sub_self,ml,List.getElem_cons_zero]
    exact ⟨kvs,by rw [aB PK];exact d1,e2⟩
  ·rw [<- QR,List.nodup_append]
   refine ⟨pt.nd,by simp,fun a ha b hb=>?_⟩
   rw [List.mem_singleton.mp hb]
   rintro rfl
   simp only [List.cons_append,List.nil_append,Qp] at ha
   rcases ha with z | z | z | z | z | z
   ·exact dp z
   ·exact PJ z
   ·exact PK z
   ·exact Zb z
   ·exact Zc z
   ·exact Zd z
  ·rw [<- QR] at hb
   rcases List.mem_append.mp hb with hb | hb
   ·exact pt.fr b hb
   ·rw [List.mem_singleton.mp hb]
    exact pt.sm.free hd
def PL (mg:Str->Option Value):Sp:=fun vs H Q _=>∃ (H0:Hp) (p lm dn lw dw r:Addr) (ms:List Addr) (mem:List (List Str)) (kn:List (Key×V)) (wt:List Nat) (kw:List (Key×V)) (x0:Str) (rs:List Str) (j:Nat) (l:List Str),vs=[.ref p,.ref r]/\iw (adr mg "Parting") H0 H p lm dn lw dw ms mem kn wt kw/\H r=some (.lst ((x0::rs).map V.str))/\r≠lm/\r≠lw/\(x0::rs).Nodup/\(x0::rs).length<=100/\mem.length<=900/\kn.length<=900/\wt.length<=900/\
 av kn (.inr x0)=some (cy j)/\mem[j]? =some l/\l.Nodup/\(∀ x∈x0::rs,x∈l)/\(∀ x∈x0::rs,(av kn (.inr x)).isSome=true)/\(∀ i∈wt,i < mem.length)/\
 ((x0::rs).length=l.length->Q .ai H)/\
 ∀ (d:Addr) (cz:List (Key×V)) (cu:List Nat) (ja:List (Key×V)) (H':Hp),(x0::rs).length≠l.length->H d=none->iw (adr mg "Parting") H0 H' p lm dn lw dw (ms++[d]) (mem.set j (ky (x0::rs) l)++[x0::rs]) cz cu ja->(∀ x,av cz (.inr x)=if x∈x0::rs then some (cy mem.length) else av kn (.inr x))->cz.length=kn.length->
  (∀ i∈wt,i∈cu)->(j∈wt->mem.length∈cu)->(mem.length∈cu\/j∈cu)->cu.length=wt.length+1->(∀ i∈cu,i∈wt\/i=mem.length\/i=j)->(∀ b o,b ∉ [lm,dn,lw,dw]++ms->H b=some o->H' b=some o)->Q .ai H'
set_option maxHeartbeats 2000000 in
theorem kK (T:Txt K mg w):uy P w K mg base 2 (adr mg "Parting") "part" ["self","rows"] (PL mg):=by
 have dG:uy P w K mg base 1 (adr mg "Parting") "begin" ["self","rows"] (K3 mg):=fF T
 have cD:uy P w K mg base 1 (adr mg "Parting") "put_off" ["self","at"] (HA mg):=dZ T
 have cl:=T.bA.2.1
 have yn:=cl
 have na:=T.bA.2.2.1
 refine T.Xp.gg bY (fun vs H Q E h=>?_) (fun f ay A outer s H vs Q E hr h=>?_)
 ·refine hdn fun Gz9 zG9=>?_;obtain ⟨H0,p,lm,dn,lw,dw,r,ms,mem,kn,wt,kw,x0,rs,j,l,rfl,_⟩:=h;refine zG9 ?_
  rfl
 ·refine hdn fun Gz9 zG9=>?_;obtain ⟨H0,p,lm,dn,lw,dw,r,ms,mem,kn,wt,kw,x0,rs,j,l,rfl,pt,sf,PM,nrw,jn,fr,fm,fk,fw,NN,hj,ndl,gj,K4,K5,kA,kB⟩:=h;refine zG9 ?_
  have hu:=aV hr
  have ff:=Qy (aV hr)
  have hsz:sizeLine=16777216:=QM
  refine hdn fun Gz9 zG9=>?_;obtain ⟨dx,fs,f1,f2,f3,f4,f5,f6⟩:=pt.f.ex;refine zG9 ?_
  have ml:=pt.ml
  obtain ⟨Nt,Ze⟩:=List.getElem?_eq_some_iff.mp hj
  refine ⟨_,(aE (aQ (i:=2) bY.nd rfl (Or.inl rfl) (cW hu (cN K (zv 0)) (bB (bC K) (zv 1) aH (fun _ _=>rfl)) (fun _ _=>rfl)))
   (aE (aQ (i:=3) bY.nd rfl (Or.inl rfl) (bB (bC K) (cN K (zv 0)) (zv 2) (fun _ _=>rfl)))
   (aE (eG (aU (dY ff) (cE (bL K) (by rfl) T.vt PySem.boot_len (aD (zv 1) aC)) (cE (bL K) (by rfl) T.vt PySem.boot_len (aD (zv 3) aC)) (h_ _)) (aG WE) cH)
   (aE (cU PassesOwn.never rfl (jT K (zv 1)) (aI (i:=4) bY.nd rfl (Or.inl rfl)) (aG (Nh (zv 3) (zv 4))))
   (aE (aQ (i:=5) bY.nd rfl (Or.inl rfl) (jI dG yn (hr.mono (by decide)) (zv 0) (aD (zv 1) aC)))
   (aG (eG (Mp (aU (Va hu) (zv 2) (cN K (zv 0)) rfl) (Mn (aU Uo (cE (bL K) (by rfl) T.vt PySem.boot_len (aD (zv 1) aC)) (cE (bL K) (by rfl) T.vt PySem.boot_len (aD (zv 3) aC)) (h_ _)))).pt (aG (bO (jI cD yn (hr.mono (by decide)) (zv 0) (aD (zv 5) aC)))) (aG (bO (jI cD yn (hr.mono (by decide)) (zv 0) (aD (zv 2) aC))))))))))),?_⟩
  have nd:=pt.nd
  simp only [List.cons_append,List.nil_append,List.nodup_cons,Qp,not_or] at nd
  refine hdn fun Gz9 zG9=>?_;obtain ⟨⟨p1,p2,p3,p4,p5⟩,⟨q1,q2,q3,q4⟩,⟨r1,r2,r3⟩,⟨t1,t2⟩,u1,u2⟩:=nd;refine zG9 ?_
  obtain ⟨kvs,g1,g2⟩:=pt.d j (by omega) Nt
  rw [Ze] at g2
  generalize hS:ms[j]'(by omega)=S at g1
  have AH:S∈ms:=by rw [<- hS];exact Qj _
  have nS:p≠S/\lm≠S/\dn≠S/\lw≠S/\dw≠S/\r≠S:=⟨fun z=>p5 (by rw [z];exact AH),fun z=>q4 (by rw [z];exact AH),fun z=>r3 (by rw [z];exact AH),fun z=>t2 (by rw [z];exact AH),fun z=>u1 (by rw [z];exact AH),fun z=>by rw [z,g1] at sf;cases sf⟩
  have PN:kvs.length=l.length:=by have:=congrArg List.length g2;simpa using this
  refine aJ ⟨p,_,dx,fs,_,rfl,f1,cl,na "number" (by simp),f3,_,_,.inl (af.of sf),aK _ _,dn,_,rfl,by have:=dj.k (k:=.inr x0) pt.n;rw [NN] at this;exact this,?_⟩
  dsimp only
  have hat:(ms.map V.ref)[j]? =some (.ref S):=by rw [Qq,Qa (by omega),hS];rfl
  refine aJ ⟨p,_,dx,fs,_,rfl,f1,cl,na "members" (by simp),f2,_,_,.inl (af.of pt.m),gT hat,?_⟩
  dsimp only
  refine aO (fun σ' H'=>(x0::rs).length≠l.length/\σ'=[some (.ref p),some (.ref r),some (cy j),some (.ref S),none,none]/\H'=H) ?_ ?_
  ·intro nx bx
   refine .inl ⟨_,.inl (af.of sf),.inr ⟨kvs,.inl g1,rfl,_,rfl,?_⟩⟩
   refine Wg (fun c=>?_) (fun c=>bx _ _ ⟨fun z=>c ?_,rfl,rfl⟩)
   ·have c:((((x0::rs).map V.str).length:Nat):Int)=(kvs.length:Nat):=c
    rw [Ql,PN] at c
    exact kA (by exact_mod_cast c)
   ·show ((((x0::rs).map V.str).length:Nat):Int)=(kvs.length:Nat)
    rw [Ql,PN,z]
  rintro σ' H1 ⟨gr,rfl,rfl⟩
  refine aO (fun σ' H'=>∃ (v4:Option V) (kvs':List (Key×V)),σ'=[some (.ref p),some (.ref r),some (cy j),some (.ref S),v4,none]/\H'=upd H1 S (.dK kvs')/\kvs'.map (·.1)=(ky (x0::rs) l).map Sum.inr) ?_ ?_
  ·intro nx bx
   refine .inl ⟨⟨_,af.of sf⟩,?_⟩
   refine cB (bN ((x0::rs).map V.str)) (fun i σ' H'=>∃ (v4:Option V) (kvs':List (Key×V)),σ'=[some (.ref p),some (.ref r),some (cy j),some (.ref S),v4,none]/\H'=upd H1 S (.dK kvs')/\kvs'.map (·.1)=(ky ((x0::rs).take i) l).map Sum.inr)
    ⟨none,kvs,rfl,by rw [iY g1],by rw [g2];congr 1;unfold ky;exact (List.filter_eq_self.mpr fun x _=>by simp).symm⟩ (by rintro i σ' H' _ ⟨_,_,_,h,_⟩;(rw [h];exact af.of (by rw [aB nS.2.2.2.2.2];exact sf))) ?_ ?_
   ·rintro i σ' H2 hi ⟨v4,kvs',rfl,rfl,e1⟩
    rw [Ql] at hi
    have eg:((x0::rs).map V.str).getD i .ai=.str (x0::rs)[i]:=by rw [Qb,Qq,Qa hi];rfl
    rw [eg]
    have hm:=gj _ (Qj hi)
    have Zf:(x0::rs)[i] ∉ (x0::rs).take i:=fun z=>by
     obtain ⟨q,hq,eq⟩:=Qi z
     rw [List.getElem_take] at eq
     have nq:q < i:=by simp at hq;omega
     exact absurd ((List.getElem_inj jn).mp eq) (by omega)
    have tk:(x0::rs).take (i+1)=(x0::rs).take i++[(x0::rs)[i]]:=by rw [Qs,Qa hi];rfl
    have hs:(av kvs' (.inr (x0::rs)[i])).isSome=true:=by
     rw [fM,e1]
     exact List.mem_map.mpr ⟨_,List.mem_filter.mpr ⟨hm,by simpa using Zf⟩,rfl⟩
    generalize (x0::rs)[i]=x at tk hs
    refine ⟨S,kvs',.inr x,rfl,aA,rfl,hs,_,qz kvs' (.inr x),rfl,by rw [gX],?_⟩
    rw [vX e1,tk,rX]
   ·rintro σ' H2 ⟨v4,kvs',rfl,rfl,e1⟩
    rw [Ql,Qo] at e1
    exact bx _ _ ⟨v4,kvs',rfl,rfl,e1⟩
  rintro σ' H2 ⟨v4,kvs',rfl,rfl,e1⟩
  have kl':kvs'.length=(ky (x0::rs) l).length:=by have:=congrArg List.length e1;simpa using this
  have HB:iw (adr mg "Parting") H0 (upd H1 S (.dK kvs')) p lm dn lw dw ms (mem.set j (ky (x0::rs) l)) kn wt kw:=by
   refine ⟨⟨dx,fs,by rw [aB nS.1];exact f1,f2,f3,f4,f5,f6⟩,by rw [aB nS.2.1];exact pt.m,by simp [ml],fun i a b=>?_,by rw [aB nS.2.2.1];exact pt.n,by rw [aB nS.2.2.2.1];exact pt.w,by rw [aB nS.2.2.2.2.1];exact pt.ws,pt.Aw,pt.wn,pt.kl,pt.nd,pt.fr,pt.sm.put (pt.fr S (by simp [AH]))⟩
   rw [List.length_set] at b
   by_cases hi:i=j
   ·subst hi
    rw [hS,List.getElem_set_self]
    exact ⟨kvs',aA,e1⟩
   ·rw [List.getElem_set_ne (Ne.symm hi)]
    obtain ⟨kv,h1,h2⟩:=pt.d i a b
    have:ms[i]≠S:=fun z=>by
     rw [<- hS] at z
     exact hi ((List.getElem_inj u2).mp z)
    exact ⟨kv,by rw [aB this];exact h1,h2⟩
  have FP:upd H1 S (.dK kvs') r=some (.lst ((x0::rs).map V.str)):=by rw [aB nS.2.2.2.2.2];exact sf
  have Ir:∀ b o,b≠S->H1 b=some o->upd H1 S (.dK kvs') b=some o:=fun b o nb e=>by rw [aB nb];exact e
  have K6:upd H1 S (.dK kvs') S=some (.dK kvs'):=aA
  have dS:∀ d,upd H1 S (.dK kvs') d=none->H1 d=none:=fun d hd=>by
   by_cases K7:d=S
   ·rw [K7,aA] at hd;cases hd
   ·rw [aB K7] at hd;exact hd
  generalize upd H1 S (.dK kvs')=H2 at HB FP Ir K6 dS
  have Zg:(mem.set j (ky (x0::rs) l)).length=mem.length:=by simp
  refine hdn fun Gz9 zG9=>?_;obtain ⟨Zh,Zi,h1,h2,h3,h4,h5,h6⟩:=HB.f.ex;refine zG9 ?_
  refine aJ ⟨p,Zh,Zi,rfl,h1,h6 "begin" (by simp),H0,p,lm,dn,lw,dw,r,ms,_,kn,wt,kw,x0::rs,rfl,HB,FP,PM,jn,fr,by omega,by omega,fun d cz H3 hd HC k1 k2 k3 k4=>?_⟩
  rw [Zg] at k1 ⊢
  have k3:=k3 K4
  have K7:d≠S:=fun z=>by rw [z,K6] at hd;cases hd
  refine hdn fun Gz9 zG9=>?_;obtain ⟨HD,ie,i1,i2,i3,i4,i5,i6⟩:=HC.f.ex;refine zG9 ?_
  have Zj:H3 r=some (.lst ((x0::rs).map V.str)):=k4 _ _ PM (fun z=>by rw [z,HB.n] at FP;cases FP) FP
  have Zk:H3 S=some (.dK kvs'):=k4 _ _ nS.2.1.symm nS.2.2.1.symm K6
  have fin:∀ (cu:List Nat) (ja:List (Key×V)) (H4:Hp),iw (adr mg "Parting") H0 H4 p lm dn lw dw (ms++[d]) (mem.set j (ky (x0::rs) l)++[x0::rs]) cz cu ja->(∀ b o,b≠lw->b≠dw->H3 b=some o->H4 b=some o)->(∀ i∈wt,i∈cu)->(j∈wt->mem.length∈cu)->(mem.length∈cu\/j∈cu)->cu.length=wt.length+1->(∀ i∈cu,i∈wt\/i=mem.length\/i=j)->Q .ai H4:=fun cu ja H4 K8 Aj w1 w2 w3 w4 w5=>by
   refine kB d cz cu ja H4 gr (dS d hd) K8 k1 k3 w1 w2 w3 w4 w5 fun b o nb e=>?_
   simp only [List.cons_append,List.nil_append,Qp,not_or] at nb
   obtain ⟨b1,b2,b3,b4,b5⟩:=nb
   exact Aj b o b3 b4 (k4 b o b1 b2 (Ir b o (fun z=>b5 (by rw [z];exact AH)) e))
  have JU:mem.length ∉ wt:=fun z=>absurd (K5 _ z) (by omega)
  have put:∀ (i:Nat),(i=mem.length\/(i=j/\j ∉ wt))->(j∈wt->i=mem.length)->∀ {D:Ends},D.nx=(fun _ H'=>Q .ai H')->∀ {te:TE},(∀ Qv,(Qv:VK) (cy i) H3->te [some (.ref p),some (.ref r),some (cy j),some (.ref S),v4,some (cy mem.length)] H3 Qv)->F6 (Es (adr mg "Parting") "put_off" (HA mg) [] E0 (tV 0) (gu te mw)) D [some (.ref p),some (.ref r),some (cy j),some (.ref S),v4,some (cy mem.length)] H3:=by
   intro i hi zb D hD te Zl
   refine ⟨p,HD,ie,rfl,i1,i6 "put_off" (by simp),Zl _ ⟨H0,p,lm,dn,lw,dw,ms++[d],_,cz,wt,kw,i,rfl,HC,?_,by omega,fun ja H4 K8 Aj=>?_⟩⟩
   ·rcases hi with rfl | ⟨rfl,h⟩
    ·exact JU
    ·exact h
   ·rw [hD]
    refine fin _ ja H4 K8 Aj (fun i hi=>List.mem_append.mpr (.inl hi)) (fun h=>List.mem_append.mpr (.inr (by simp [zb h]))) ?_ (by simp) (fun i' ip=>?_)
    ·rcases hi with rfl | ⟨rfl,h⟩
     ·exact .inl (by simp)
     ·exact .inr (by simp)
    ·rcases List.mem_append.mp ip with z | z
     ·exact .inl z
     ·rw [List.mem_singleton.mp z]
      rcases hi with rfl | ⟨rfl,h⟩
      ·exact .inr (.inl rfl)
      ·exact .inr (.inr rfl)
  refine ⟨p,_,HD,ie,_,rfl,i1,cl,na "waits" (by simp),i5,dw,_,rfl,dj.k (k:=.inl (j:Int)) HC.ws,_,rfl,?_⟩
  refine f_ (fun c=>?_) (fun c=>?_)
  ·exact put mem.length (.inl rfl) (fun _=>rfl) rfl (fun Qv h=>h)
  ·have PP:j ∉ wt:=fun z=>by
    rw [(HC.Aw j).mpr z] at c;cases c
   refine .inl ⟨_,.inl (af.of Zj),.inr ⟨kvs',.inl Zk,_,rfl,?_⟩⟩
   refine f_ (fun c2=>?_) (fun c2=>?_)
   ·exact put mem.length (.inl rfl) (fun _=>rfl) rfl (fun Qv h=>h)
   ·exact put j (.inr ⟨rfl,PP⟩) (fun z=>absurd z PP) rfl (fun Qv h=>h)
def PU (mg:Str->Option Value):Sp:=fun vs H Q _=>∃ (H0 Hs:Hp) (p lm dn lw dw D:Addr) (ms:List Addr) (mem:List (List Str)) (kn:List (Key×V)) (wt:List Nat) (kw kvs:List (Key×V)) (at_:Nat) (W:List Str) (rows:List ak) (R:List Str) (num:Str->Nat),vs=[.ref p,.ref D,cy at_]/\se (adr mg "Parting") H0 H p lm dn lw dw R num wt ms mem kn kw/\mem[at_]? =some W/\H D=some (.dK kvs)/\D ∉ ms/\g_ Hs H kvs R (ir rows R)/\Cy rows R/\uc rows R num wt W []/\
 ∀ (cf:Str->Nat) (cu:List Nat) (uz:List Addr) (mem':List (List Str)) (cz ja:List (Key×V)) (H':Hp),se (adr mg "Parting") H0 H' p lm dn lw dw R cf cu uz mem' cz ja->Av rows R cf cu->k_ lm dn lw dw ms uz H H'->cu.length+mem.length=wt.length+mem'.length->mem.length<=mem'.length->Q .ai H'
set_option maxHeartbeats 2000000 in
theorem rO (T:Txt K mg w):bj P w K mg base 3 "part_by" ["parting","sources","at"] (PU mg):=by
 have lY:uy P w K mg base 2 (adr mg "Parting") "part" ["self","rows"] (PL mg):=kK T
 have cl:=T.bA.2.1
 have yn:=cl
 have na:=T.bA.2.2.1
 refine T.uK.gg bW (fun vs H Q E h=>?_) (fun f ay A outer s H vs Q E hr h=>?_)
 ·refine hdn fun Gz9 zG9=>?_;obtain ⟨H0,Hs,p,lm,dn,lw,dw,D,ms,mem,kn,wt,kw,kvs,at_,W,rows,R,num,rfl,_⟩:=h;refine zG9 ?_
  rfl
 ·refine hdn fun Gz9 zG9=>?_;obtain ⟨H0,Hs,p,lm,dn,lw,dw,D,ms,mem,kn,wt,kw,kvs,at_,W,rows,R,num,rfl,z0,hat,hD,nD,src,lo,pp,k⟩:=h;refine zG9 ?_
  have hu:=aV hr
  have ff:=Qy (aV hr)
  have hsz:sizeLine=16777216:=QM
  have Pw:=lo.few
  refine hdn fun Gz9 zG9=>?_;obtain ⟨dx,fs,f1,f2,f3,f4,f5,f6⟩:=z0.s.f.ex;refine zG9 ?_
  have ml:=z0.s.ml
  obtain ⟨Zm,Zn⟩:=List.getElem?_eq_some_iff.mp hat
  obtain ⟨wN,wne⟩:=z0.n.nd _ _ hat
  have wR:∀ x∈W,x∈R:=fun x hx=>((z0.n.mm _ _ hat x).mp hx).1
  have abG:W.length<=R.length:=bU wN wR
  refine ⟨_,(aE (aQ (i:=3) bW.nd rfl (Or.inl rfl) tO)
   (aE (cU PassesOwn.never rfl (uC (bB (bC K) (cN K (zv 0)) (zv 2) (fun _ _=>rfl))) (aI (i:=4) bW.nd rfl (Or.inl rfl)) (aG (cU PassesOwn.never rfl (jT K (cW hu (zv 1) (zv 4) (fun _ _=>rfl))) (d6 K (n:=2) rfl (aM (aI (i:=5) bW.nd rfl (Or.inl rfl)) (aM (aI (i:=6) bW.nd rfl (Or.inl rfl)) cC))) (aG (bO (iB K QJ QK QL aZ (uL hu (zv 3) (zv 5) (bS aC) ⟨rfl,rfl,rfl,rfl⟩) (aD (zv 6) aC)))))))
   (aG (cU PassesOwn.never rfl (wL (lK (WU H (zv 3)))) (aI (i:=7) bW.nd rfl (Or.inl rfl)) (aE (aQ (i:=8) bW.nd rfl (Or.inl rfl) m8)
   (aE (cU PassesOwn.never rfl (jT K (zv 7)) (aI (i:=6) bW.nd rfl (Or.inl rfl)) (aG (bO (iB K QJ QK QL aZ (nJ (zv 8) (cW hu (cN K (zv 0)) (zv 6) (fun _ _=>rfl)) (bS aC) ⟨rfl,rfl,rfl,rfl⟩) (aD (zv 6) aC)))))
   (aG (cU PassesOwn.never rfl (VX (lK (zv 8))) (aI (i:=9) bW.nd rfl (Or.inl rfl)) (aG (bO (jI lY yn (hr.mono (by decide)) (zv 0) (aD (zv 9) aC)))))))))))),?_⟩
  obtain ⟨kS,g1,g2⟩:=z0.s.d at_ (by omega) Zm
  rw [Zn] at g2
  generalize hS:ms[at_]'(by omega)=S at g1
  have AH:S∈ms:=by rw [<- hS];exact Qj _
  have G4:D≠S:=fun z=>nD (by rw [z];exact AH)
  have Zo:kS.length=W.length:=by have:=congrArg List.length g2;simpa using this
  have JF:(ms.map V.ref)[at_]? =some (.ref S):=by rw [Qq,Qa (by omega),hS];rfl
  refine aJ fun F hF=>?_
  have K9:F≠S:=fun z=>by rw [z,g1] at hF;cases hF
  have sF:=aa.upd hF (.dT [])
  have gF:upd H F (.dT []) F=some (.dT []):=aA
  have gN:∀ b,b≠F->H b=none->upd H F (.dT []) b=none:=fun b n e=>by rw [aB n];exact e
  dsimp only
  generalize upd H F (.dT [])=Ha at sF gF gN
  let fk:List Str->List Key:=fun s=>s.map Sum.inr
  have Zp:∀ a b,fk a=fk b->a=b:=fun a b e=>(List.map_inj_right (fun x y h=>Sum.inr.inj h)).mp e
  refine aO (fun σ' H'=>∃ (v4 v5 v6:Option V) (o:Obj) (kf:List (List Key×V)),σ'=[some (.ref p),some (.ref D),some (cy at_),some (.ref F),v4,v5,v6,none,none,none]/\H' S=some (.ae o (.dK kS))/\H' F=some (.dT kf)/\eu fk H H' kf (d_ (jp rows R W))/\∀ b u,b≠S->H b=some u->H' b=some u) ?_ ?_
  ·intro nx bx
   refine ⟨p,_,dx,fs,_,rfl,sF _ _ f1,cl,na "members" (by simp),f2,_,_,.inl (af.of (sF _ _ z0.s.m)),gT JF,S,kS,rfl,.inl (sF _ _ g1),fun o=>?_⟩
   have PV:g_ Hs (upd Ha S (.ae o (.dK kS))) kvs R (ir rows R):=(src.same sF).off (sF _ _ g1) (fun _ z=>nomatch z) (fun _ _ z=>nomatch z) (fun _ z=>nomatch z)
   have b1:upd Ha S (.ae o (.dK kS)) S=some (.ae o (.dK kS)):=aA
   have b2:upd Ha S (.ae o (.dK kS)) F=some (.dT []):=by rw [aB K9];exact gF
   have b3:upd Ha S (.ae o (.dK kS)) D=some (.dK kvs):=by rw [aB G4];exact sF _ _ hD
   have b4:∀ b u,b≠S->H b=some u->upd Ha S (.ae o (.dK kS)) b=some u:=fun b u n e=>by rw [aB n];exact sF _ _ e
   have b5:∀ b,upd Ha S (.ae o (.dK kS)) b=none->H b=none:=fun b e=>by
    by_cases n:b=S
    ·rw [n,b1] at e;cases e
    ·rw [aB n] at e;exact sF.free e
   have b6:∀ b,b≠F->H b=none->upd Ha S (.ae o (.dK kS)) b=none:=fun b n e=>by
    rw [aB fun z=>by rw [z,g1] at e;cases e];exact gN b n e
   generalize upd Ha S (.ae o (.dK kS))=Hb at PV b1 b2 b3 b4 b5 b6
   have nl:∀ {l:Addr} {xs:List V} {H':Hp} {kf:List (List Key×V)},H' F=some (.dT kf)->H' S=some (.ae o (.dK kS))->H' l=some (.lst xs)->l≠F/\l≠S:=fun h1 h2 h3=>⟨(fun z=>by rw [z,h1] at h3;cases h3),(fun z=>by rw [z,h2] at h3;cases h3)⟩
   have abH:W.length<=14:=by omega
   refine cB (pP kS) (fun i σ' H'=>∃ (v4 v5 v6:Option V) (kf:List (List Key×V)),σ'=[some (.ref p),some (.ref D),some (cy at_),some (.ref F),v4,v5,v6,none,none,none]/\H' S=some (.ae o (.dK kS))/\H' F=some (.dT kf)/\eu fk H H' kf (d_ (jp rows R (W.take i)))/\∀ b u,b≠F->Hb b=some u->H' b=some u)
    ⟨none,none,none,[],rfl,b1,b2,eu.nil,fun b u _ e=>e⟩ (by rintro i σ' H' _ ⟨_,_,_,_,_,h,_⟩;exact h) ?_ ?_
   ·rintro i σ' H' hi z0;refine hdn fun Gz9 zG9=>?_;obtain ⟨v4,v5,v6,kf,rfl,c1,c2,c3,c4⟩:=z0;refine zG9 ?_
    have K_:i < W.length:=by omega
    have ek:pq kS i=.str W[i]:=by
     unfold pq
     rw [Qa hi]
     have:(kS.map (·.1))[i]'(by simpa using hi)=(W.map Sum.inr)[i]'(by simpa using K_):=by simp only [g2]
     rw [Qr,Qr] at this
     show kV kS[i].1=_
     rw [this];rfl
    rw [ek]
    have eW:=bK W i K_
    have PY:=wR _ (Qj K_)
    have c_:=mL lo (W.take (i+1))
    have au:(W.take (i+1)).length<=14:=by rw [List.length_take];omega
    rw [eW] at c_ ⊢
    generalize W[i]=x at eW PY c_
    have Zq:∀ U:List Str,jp rows R (U++[x])=jp rows R U++ir rows R x:=fun U=>by unfold jp;rw [List.flatMap_append];simp
    rw [Zq] at c_ ⊢
    have c_:(jp rows R (W.take i)++ir rows R x).length<=14*1400:=Nat.le_trans c_ (Nat.mul_le_mul_right _ (by rw [<- eW];exact au))
    obtain ⟨q,hq,eq⟩:=Qi PY
    have sl:=src.len
    obtain ⟨k1,l,us,k2,_,k4,k5⟩:=PV.at_ q (by omega) hq
    rw [eq] at k5
    have Zr:(kvs.map (·.1)).Nodup:=by
     rw [src.keys]
     exact List.pairwise_map.mpr (lo.nd.imp fun h e=>h (Sum.inr.inj e))
    have gv:av kvs (.inr x)=some (.ref l):=by
     rw [<- k2]
     refine gR Zr ?_
     have:kvs[q]'(by omega)=(.inr x,(kvs[q]'(by omega)).2):=by rw [<- eq,<- k1]
     rw [<- this]
     exact Qj _
    have Zs:D≠F:=fun z=>by rw [z,b2] at b3;cases b3
    have dg:=dj.k (k:=Sum.inr x) (c4 _ _ Zs b3)
    rw [gv] at dg
    have D_:l≠F:=fun z=>by rw [z,b2] at k4;cases k4
    refine ⟨D,.ref l,rfl,dg,.inl ⟨⟨_,af.of (c4 _ _ D_ k4)⟩,?_⟩⟩
    have ul:=k5.len
    refine cB (bN us) (fun j σ' H'=>∃ (v5 v6:Option V) (kf:List (List Key×V)),σ'=[some (.ref p),some (.ref D),some (cy at_),some (.ref F),some (.str x),v5,v6,none,none,none]/\H' S=some (.ae o (.dK kS))/\H' F=some (.dT kf)/\eu fk H H' kf (d_ (jp rows R (W.take i)++(ir rows R x).take j))/\∀ b u,b≠F->Hb b=some u->H' b=some u)
     ⟨v5,v6,kf,rfl,c1,c2,by simpa using c3,c4⟩ (by rintro j σ' H' _ ⟨_,_,_,_,_,_,_,h⟩;exact af.of (h _ _ D_ k4)) ?_ ?_
    ·rintro j σ' H5 hj z0;refine hdn fun Gz9 zG9=>?_;obtain ⟨w5,w6,kf,rfl,d1,d2,d3,d4⟩:=z0;refine zG9 ?_
     have PZ:j < (ir rows R x).length:=by omega
     obtain ⟨c,b,e1,e2,e3⟩:=k5.at_ j hj PZ
     have eg:us.getD j .ai=.ref c:=by rw [Qb,Qa hj,e1];rfl
     rw [eg]
     have es:=bK _ j PZ
     have vo:(jp rows R (W.take i)++(ir rows R x).take j).length<=14*1400:=by rw [Qk,List.length_take] at*;omega
     rw [es,<- QR,gK]
     generalize DZ:jp rows R (W.take i)++(ir rows R x).take j=ps at d3 vo
     generalize (ir rows R x)[j]=sa at e2 e3
     have Zt:c≠F:=fun z=>by rw [z,b2] at e2;cases e2
     have gi:=vp ps
     have Zu:=d4 _ _ Zt e2
     have Zv:be H5 b (sa.1.map V.str):=by
      rcases e3 with e | ⟨u,e⟩
      ·exact .inl (d4 _ _ (fun z=>by rw [z,b2] at e;cases e) e)
      ·exact .inr ⟨u,d4 _ _ (fun z=>by rw [z,b2] at e;cases e) e⟩
     have f0:∀ l,H5 l=none->H l=none:=fun l e=>by
      cases el:H l with
      | none=>rfl
      | some u=>
       have n1:l≠S:=fun z=>by rw [z,d1] at e;cases e
       have n2:l≠F:=fun z=>by rw [z,d2] at e;cases e
       rw [d4 l u n2 (b4 l u n1 el)] at e;cases e
     have P0:kf.length<=14*1400:=by rw [d3.len];exact Nat.le_trans gi.len vo
     refine ⟨c,[.ref b,.str sa.2],rfl,aj.of Zu,rfl,_,_,rfl,_,_,rfl,rfl,F,rfl,.inr ⟨kf,.inl d2⟩,(show 0<=sizeLine by decide),fun l hl=>?_⟩
     have s6:=aa.upd hl (.lst [])
     have l6:upd H5 l (.lst []) l=some (.lst []):=aA
     have n6:∀ b,b≠l->H5 b=none->upd H5 l (.lst []) b=none:=fun b n e=>by rw [aB n];exact e
     dsimp only
     generalize upd H5 l (.lst [])=H6 at s6 l6 n6
     have D_:l≠F:=fun z=>by rw [z,d2] at hl;cases hl
     have Zw:l≠S:=fun z=>by rw [z,d1] at hl;cases hl
     refine ⟨kf,fk sa.1,b,s6 _ _ d2,rfl,by rw [Jh];exact Zv.same s6,by omega,fun v hv=>?_,fun hv=>?_⟩
     ·obtain ⟨l',xs,rfl,h1,h2,⟨q,hq,rfl⟩,h3⟩:=(d3.keep fun l xs _ e=>s6 _ _ e).old Zp gi.nd hv sa.2
      obtain ⟨m1,m2⟩:=nl (s6 _ _ d2) (s6 _ _ d1) h2
      have:=gi.lens hq
      refine ⟨.inl ⟨rfl,_,af.of h2⟩,l',_,_,rfl,rfl,h2,by rw [Ql];omega,_,_,kf,rfl,by rw [aB m2.symm];exact s6 _ _ d1,by rw [aB m1.symm];exact s6 _ _ d2,h3,fun b' u n e=>?_⟩
      rw [aB fun z=>by rw [z,b6 l' m1 h1] at e;cases e]
      exact s6 _ _ (d4 b' u n e)
     ·have l7:upd H6 F (.dT (kf++[(fk sa.1,.ref l)])) l=some (.lst []):=by rw [aB D_];exact l6
      refine ⟨.inl ⟨rfl,_,af.of l7⟩,l,_,_,rfl,rfl,l7,by simp;omega,_,_,kf++[(fk sa.1,.ref l)],rfl,?_,?_,?_,fun b' u n e=>?_⟩
      ·rw [aB Zw.symm,aB K9.symm];exact s6 _ _ d1
      ·rw [aB D_.symm,aA]
      ·refine d3.new hv sa.2 (f0 l hl) hl aA fun l' xs _ e=>?_
       rw [aB (fun z=>by rw [z,hl] at e;cases e),aB (nl d2 d1 e).1]
       exact s6 _ _ e
      ·rw [aB (fun z=>by rw [z,b6 l D_ (f0 l hl)] at e;cases e),aB n]
       exact s6 _ _ (d4 b' u n e)
    ·rintro σ' H5 z0;refine hdn fun Gz9 zG9=>?_;obtain ⟨w5,w6,kf,rfl,d1,d2,d3,d4⟩:=z0;refine zG9 ?_
     rw [ul,Qo] at d3
     exact ⟨_,_,_,kf,rfl,d1,d2,d3,d4⟩
   ·rintro σ' H' z0;refine hdn fun Gz9 zG9=>?_;obtain ⟨v4,v5,v6,kf,rfl,c1,c2,c3,c4⟩:=z0;refine zG9 ?_
    rw [Zo,Qo] at c3
    exact bx _ _ ⟨v4,v5,v6,o,kf,rfl,c1,c2,c3,fun b u n e=>c4 b u (fun z=>by rw [z,hF] at e;cases e) (b4 b u n e)⟩
  rintro σ' H1 z0;refine hdn fun Gz9 zG9=>?_;obtain ⟨v4,v5,v6,o,kf,rfl,a1,a2,a3,a4⟩:=z0;refine zG9 ?_
  have sT:aa H (upd H1 S (.dK kS)):=fun b u e=>by
   by_cases n:b=S
   ·subst n;rw [aA,<- g1];exact e
   ·rw [aB n];exact a4 b u n e
  have t2:upd H1 S (.dK kS) F=some (.dT kf):=by rw [aB K9];exact a2
  have t3:eu fk H (upd H1 S (.dK kS)) kf (d_ (jp rows R W)):=a3.keep fun l xs _ e=>by
   rw [aB fun z=>by rw [z,a1] at e;cases e];exact e
  refine ⟨S,o,kS,a1,(fun o u=>by rw [g1];exact fun z=>nomatch z),F,rfl,.inr ⟨kf,.inl t2,fun oF=>⟨F,kf,oF,rfl,aA,?_⟩⟩⟩
  have sU:aa H (upd (upd H1 S (.dK kS)) F (.ae oF (.dT kf))):=sT.put hF
  have uF:upd (upd H1 S (.dK kS)) F (.ae oF (.dT kf)) F=some (.ae oF (.dT kf)):=aA
  have uG:eu fk H (upd (upd H1 S (.dK kS)) F (.ae oF (.dT kf))) kf (d_ (jp rows R W)):=t3.keep fun l xs _ e=>by
   rw [aB fun z=>by rw [z,t2] at e;cases e];exact e
  generalize upd (upd H1 S (.dK kS)) F (.ae oF (.dT kf))=H2 at sU uF uG
  have gi:=vp (jp rows R W)
  generalize hL:d_ (jp rows R W)=L at uG gi
  have led:∀ q∈L,q.2.Nodup/\q.2.length<=R.length/\∀ x,x∈q.2↔x∈R/\q.1∈stH (aq rows x)/\dl rows x q.1∈W:=fun q hq=>lo.led wN (by rw [hL];exact hq)
  have P0:=uG.len
  have z2:=z0.same sU
  have HE:∀ {l:Addr},H l=none->l≠lm/\l≠lw:=fun e=>⟨(fun z=>by rw [z,z0.s.m] at e;cases e),(fun z=>by rw [z,z0.s.w] at e;cases e)⟩
  have Zx:F ∉ [lm,dn,lw,dw]++ms:=z2.s.off uF (fun _ z=>nomatch z) (HE hF).1 (HE hF).2
  refine cB (vN kf) (fun i σ' H'=>∃ (v6 v7 v8 v9:Option V) (cf:Str->Nat) (cu:List Nat) (uz:List Addr) (mem':List (List Str)) (cz ja:List (Key×V)),σ'=[some (.ref p),some (.ref D),some (cy at_),some (.ref F),v4,v5,v6,v7,v8,v9]/\se (adr mg "Parting") H0 H' p lm dn lw dw R cf cu uz mem' cz ja/\uc rows R cf cu W ((L.take i).map (·.1))/\k_ lm dn lw dw ms uz H2 H'/\cu.length+mem.length=wt.length+mem'.length/\mem.length<=mem'.length)
   ⟨v6,none,none,none,num,wt,ms,mem,kn,kw,rfl,z2,pp,k_.same (aa.refl _),rfl,Qz _⟩ (by rintro i σ' H' _ ⟨_,_,_,_,_,_,_,_,_,_,_,_,_,fr,_⟩;exact fr.kp _ _ Zx uF) ?_ ?_
  ·rintro i σ' H3 hi z0;refine hdn fun Gz9 zG9=>?_;obtain ⟨v6,v7,v8,v9,cf,cu,uz,mem',cz,ja,rfl,z3,p3,mj,cn,mo⟩:=z0;refine zG9 ?_
   have yh:i < L.length:=by omega
   obtain ⟨_,lr,e1,e2,e3⟩:=uG.at_ i hi yh
   have ev:Dw kf i=.ref lr:=by unfold Dw;rw [Qa hi,Option.map_some,e1];rfl
   rw [ev]
   have e4:=mj.kp _ _ (z2.s.off e3 (fun _ z=>nomatch z) (HE e2).1 (HE e2).2) e3
   have Hq:=bK L i yh
   obtain ⟨rn,rl,rm⟩:=led _ (Qj yh)
   rw [Hq,Qm,List.map_singleton]
   generalize L[i]=q at e4 rn rl rm
   obtain ⟨s,rs⟩:=q
   dsimp only at e4 rn rl rm
   refine hdn fun Gz9 zG9=>?_;obtain ⟨HD,ie,i1,i2,i3,i4,i5,i6⟩:=z3.s.f.ex;refine zG9 ?_
   have P1:∀ x∈rs,x∈R:=fun x hx=>((rm x).mp hx).1
   let fn:Nat->Key:=fun n=>Sum.inl (n:Int)
   have Lc:∀ a b,fn a=fn b->a=b:=fun a b e=>Int.ofNat.inj (Sum.inl.inj e)
   refine aJ fun B hB=>?_
   have sB:=aa.upd hB (.dK [])
   have gB:upd H3 B (.dK []) B=some (.dK []):=aA
   dsimp only
   generalize upd H3 B (.dK [])=H4 at sB gB
   refine aO (fun σ' H'=>∃ (v6:Option V) (kb:List (Key×V)),σ'=[some (.ref p),some (.ref D),some (cy at_),some (.ref F),v4,v5,v6,some (.ref lr),some (.ref B),v9]/\H' B=some (.dK kb)/\eu fn H3 H' kb (d_ (rs.map fun a=>(cf a,a)))/\aa H3 H') ?_ ?_
   ·intro nx bx
    refine .inl ⟨⟨_,af.of (sB _ _ e4)⟩,?_⟩
    refine cB (bN (rs.map V.str)) (fun j σ' H'=>∃ (v6:Option V) (kb:List (Key×V)),σ'=[some (.ref p),some (.ref D),some (cy at_),some (.ref F),v4,v5,v6,some (.ref lr),some (.ref B),v9]/\H' B=some (.dK kb)/\eu fn H3 H' kb (d_ ((rs.take j).map fun a=>(cf a,a)))/\aa H3 H')
     ⟨v6,[],rfl,gB,eu.nil,sB⟩ (by rintro j σ' H' _ ⟨_,_,_,_,_,s⟩;exact af.of (s _ _ e4)) ?_ ?_
    ·rintro j σ' H5 hj ⟨w6,kb,rfl,d1,d2,d3⟩
     rw [Ql] at hj
     have eg:(rs.map V.str).getD j .ai=.str rs[j]:=by rw [Qb,Qq,Qa hj];rfl
     rw [eg,bK rs j hj,Qm,List.map_singleton,gK]
     have CQ:=P1 _ (Qj hj)
     generalize rs[j]=x at CQ
     have AI:=vp ((rs.take j).map fun a=>(cf a,a))
     have fj:((rs.take j).map fun a=>(cf a,a)).length<=14:=by rw [Ql,List.length_take];omega
     generalize (rs.take j).map (fun a=>(cf a,a))=ps at d2 AI fj
     have HF:kb.length<=14:=by rw [d2.len];exact Nat.le_trans AI.len fj
     have dg:=dj.k (k:=.inr x) z3.s.n
     rw [z3.v x CQ] at dg
     refine ⟨B,rfl,.inl ⟨kb,.inl d1⟩,p,_,HD,ie,_,rfl,d3 _ _ i1,cl,na "number" (by simp),i3,dn,_,rfl,dg.same d3,(show 0<=sizeLine by decide),fun l hl=>?_⟩
     have s6:=aa.upd hl (.lst [])
     have l6:upd H5 l (.lst []) l=some (.lst []):=aA
     dsimp only
     generalize upd H5 l (.lst [])=H6 at s6 l6
     have FQ:l≠B:=fun z=>by rw [z,d1] at hl;cases hl
     refine ⟨kb,fn (cf x),s6 _ _ d1,rfl,by omega,fun v hv=>?_,fun hv=>?_⟩
     ·obtain ⟨l',xs,rfl,h1,h2,⟨q,hq,rfl⟩,h3⟩:=(d2.keep fun l xs _ e=>s6 _ _ e).old Lc AI.nd hv x
      have m1:l'≠B:=fun z=>by rw [z,s6 _ _ d1] at h2;cases h2
      have:=AI.lens hq
      exact ⟨.inl ⟨rfl,_,af.of h2⟩,l',_,_,rfl,rfl,h2,by rw [Ql];omega,_,kb,rfl,by rw [aB m1.symm];exact s6 _ _ d1,h3,(d3.trans s6).put h1⟩
     ·have l7:upd H6 B (.dK (kb++[(fn (cf x),.ref l)])) l=some (.lst []):=by rw [aB FQ];exact l6
      refine ⟨.inl ⟨rfl,_,af.of l7⟩,l,_,_,rfl,rfl,l7,by simp;omega,_,kb++[(fn (cf x),.ref l)],rfl,?_,?_,((d3.trans s6).put hB).put (d3.free hl)⟩
      ·rw [aB FQ.symm,aA]
      ·refine d2.new hv x (d3.free hl) hl aA fun l' xs _ e=>?_
       rw [aB (fun z=>by rw [z,hl] at e;cases e),aB (fun z=>by rw [z,d1] at e;cases e)]
       exact s6 _ _ e
    ·rintro σ' H5 ⟨w6,kb,rfl,d1,d2,d3⟩
     rw [Ql,Qo] at d2
     exact bx _ _ ⟨w6,kb,rfl,d1,d2,d3⟩
   rintro σ' H5 ⟨w6,kb,rfl,d1,d2,d3⟩
   refine ⟨B,rfl,.inl ⟨kb,.inl d1,fun oB=>⟨B,kb,rfl,.inl ⟨oB,aA,?_⟩⟩⟩⟩
   have s5:aa H3 (upd H5 B (.ae oB (.dK kb))):=d3.put hB
   have u1:upd H5 B (.ae oB (.dK kb)) B=some (.ae oB (.dK kb)):=aA
   have u2:eu fn H3 (upd H5 B (.ae oB (.dK kb))) kb (d_ (rs.map fun a=>(cf a,a))):=d2.keep fun l xs _ e=>by
    rw [aB fun z=>by rw [z,d1] at e;cases e];exact e
   generalize upd H5 B (.ae oB (.dK kb))=H6 at s5 u1 u2
   have AI:=vp (rs.map fun a=>(cf a,a))
   have gn:∀ q∈d_ (rs.map fun a=>(cf a,a)),q.2.Nodup/\q.2.length<=rs.length/\∀ x,x∈q.2↔x∈rs/\cf x=q.1:=fun q hq=>W1 rn cf hq
   generalize d_ (rs.map fun a=>(cf a,a))=G at u2 AI gn
   have HF:=u2.len
   have z6:=z3.same s5
   have Ea:∀ {l:Addr},H3 l=none->l≠lm/\l≠lw:=fun e=>⟨(fun z=>by rw [z,z3.s.m] at e;cases e),(fun z=>by rw [z,z3.s.w] at e;cases e)⟩
   have Zy:B ∉ [lm,dn,lw,dw]++uz:=z6.s.off u1 (fun _ z=>nomatch z) (Ea hB).1 (Ea hB).2
   refine cB (yP kb) (fun j σ' H'=>∃ (v9:Option V) (AJ:Str->Nat) (Bv:List Nat) (cj:List Addr) (wc:List (List Str)) (Eb Bw:List (Key×V)),σ'=[some (.ref p),some (.ref D),some (cy at_),some (.ref F),v4,v5,w6,some (.ref lr),some (.ref B),v9]/\se (adr mg "Parting") H0 H' p lm dn lw dw R AJ Bv cj wc Eb Bw/\uc rows R AJ Bv W ((L.take i).map (·.1))/\r_ R rs cf AJ ((G.take j).map (·.1))/\k_ lm dn lw dw uz cj H6 H'/\Bv.length+mem.length=wt.length+wc.length/\mem.length<=wc.length)
    ⟨v9,cf,cu,uz,mem',cz,ja,rfl,z6,p3,r_.nil,k_.same (aa.refl _),cn,mo⟩ (by rintro j σ' H' _ ⟨_,_,_,_,_,_,_,_,_,_,_,fr,_⟩;exact fr.kp _ _ Zy u1) ?_ ?_
   ·rintro j σ' H7 hj z0;refine hdn fun Gz9 zG9=>?_;obtain ⟨y9,AJ,Bv,cj,wc,Eb,Bw,rfl,z7,p7,tc,Ec,Ld,Le⟩:=z0;refine zG9 ?_
    have FS:j < G.length:=by omega
    obtain ⟨_,la,r1,r2,r3⟩:=u2.at_ j hj FS
    have ev:valAt kb j=.ref la:=by unfold valAt;rw [Qa hj,Option.map_some,r1];rfl
    rw [ev]
    have r4:=Ec.kp _ _ (z6.s.off r3 (fun _ z=>nomatch z) (Ea r2).1 (Ea r2).2) r3
    have Zz:=bK G j FS
    obtain ⟨mn,P4,mm⟩:=gn _ (Qj FS)
    have HG:=AI.ne (Qj FS)
    have CM:G[j].1 ∉ (G.take j).map (·.1):=fun hm=>by
     obtain ⟨q,hq,e⟩:=List.mem_map.mp hm
     obtain ⟨j',s_,rfl⟩:=Qi hq
     have M5:j' < j:=by simp at s_;omega
     rw [List.getElem_take] at e
     have:(G.map (·.1))[j']'(by simp;omega)=(G.map (·.1))[j]'(by simpa using FS):=by rw [Qr,Qr];exact e
     exact absurd ((List.getElem_inj AI.nd).mp this) (by omega)
    rw [Zz,Qm,List.map_singleton]
    generalize G[j]=q at r4 mn P4 mm HG CM
    obtain ⟨kk,many⟩:=q
    dsimp only at r4 mn P4 mm HG CM ⊢
    have Ed:∀ x∈many,x∈R/\cf x=kk:=fun x hx=>⟨P1 x ((mm x).mp hx).1,((mm x).mp hx).2⟩
    obtain ⟨x0,rest,rfl⟩:=List.exists_cons_of_ne_nil HG
    obtain ⟨Lf,ZA⟩:=Ed x0 (by simp)
    have at2:∀ x∈R,(AJ x=kk↔cf x=kk):=fun x hx=>tc.at_ CM Lf ZA hx
    have HH:∀ x∈x0::rest,AJ x=kk:=fun x hx=>(at2 x (Ed x hx).1).mpr (Ed x hx).2
    have GX:kk < wc.length:=by rw [<- HH x0 (by simp)];exact z7.n.lt x0 Lf
    have FT:wc[kk]? =some wc[kk]:=Qa GX
    generalize wc[kk]=l2 at FT
    obtain ⟨ZC,_⟩:=z7.n.nd _ _ FT
    have P5:=z7.n.mm _ _ FT
    have gj:∀ x∈x0::rest,x∈l2:=fun x hx=>(P5 x).mpr ⟨(Ed x hx).1,HH x hx⟩
    refine hdn fun Gz9 zG9=>?_;obtain ⟨FU,FW,j1,j2,j3,j4,j5,j6⟩:=z7.s.f.ex;refine zG9 ?_
    have abI:=z7.n.few
    have wb7:=z7.wb
    have abK:k_ lm dn lw dw ms cj H2 H7:=mj.trans ((k_.same s5).trans Ec)
    refine ⟨p,FU,FW,rfl,j1,j6 "part" (by simp),H0,p,lm,dn,lw,dw,la,cj,wc,Eb,Bv,Bw,x0,rest,kk,l2,rfl,z7.s,r4,(Ea r2).1,(Ea r2).2,mn,by omega,by omega,z7.kl,by omega,by rw [z7.v x0 Lf,HH x0 (by simp)],FT,ZC,gj,fun x hx=>by rw [z7.v x (Ed x hx).1];rfl,z7.wl,fun abL=>?_,fun d ZD ZE ZF H8 gr hd P6 ZG ZH w1 w2 w3 w4 w5 kp=>?_⟩
    ·refine ⟨_,AJ,Bv,cj,wc,Eb,Bw,rfl,z7,p7,tc.keep CM fun x hx e=>?_,Ec,Ld,Le⟩
     have ZI:x∈l2:=(P5 x).mpr ⟨hx,(at2 x hx).mpr e⟩
     refine ((mm x).mp (Classical.byContradiction fun n=>?_)).1
     have:(x::x0::rest).length<=l2.length:=bU (List.nodup_cons.mpr ⟨n,mn⟩) fun y hy=>by
      rcases Qp.mp hy with h | h
      ·rw [h];exact ZI
      ·exact gj y h
     rw [List.length_cons] at this
     omega
    ·have z8:=z7.split FT gj mn HG gr P6 ZG ZH w5
     have ZJ:k_ lm dn lw dw cj (cj++[d]) H7 H8:=k_.of P6 rfl hd kp
     refine ⟨_,_,ZE,_,_,ZD,ZF,rfl,z8,?_,tc.split CM mm fun x hx=>Nat.ne_of_lt (z7.n.lt x hx),Ec.trans ZJ,by simp only [Qk,List.length_set,List.length_singleton];omega,by simp only [Qk,List.length_set,List.length_singleton];omega⟩
     exact p7.split (k:=kk) (fun x hx=>⟨(Ed x hx).1,HH x hx⟩) (p7.cl tc mm rm lo.rc) (fun x hx=>Nat.ne_of_lt (z7.n.lt x hx)) lo.rc w1 w2 w3
   ·rintro σ' H7 z0;refine hdn fun Gz9 zG9=>?_;obtain ⟨y9,AJ,Bv,cj,wc,Eb,Bw,rfl,z7,p7,tc,Ec,Ld,Le⟩:=z0;refine zG9 ?_
    rw [HF,Qo] at tc
    refine ⟨_,_,_,_,AJ,Bv,cj,wc,Eb,Bw,rfl,z7,p7.next fun a ha b hb e hs=>?_,mj.trans ((k_.same s5).trans Ec),Ld,Le⟩
    have jq:s∈stH (aq rows b):=by rw [<- show stH (aq rows a)=stH (aq rows b) from (p7.me a ha b hb e).2];exact hs
    have:=tc.fin (fun x hx=>(AI.ks _).mpr (List.mem_map.mpr ⟨(cf x,x),List.mem_map.mpr ⟨x,hx,rfl⟩,rfl⟩)) ha hb e
    rw [rm,rm] at this
    exact ⟨fun h=>(this.mp ⟨ha,hs,h⟩).2.2,fun h=>(this.mpr ⟨hb,jq,h⟩).2.2⟩
  ·rintro σ' H3 z0;refine hdn fun Gz9 zG9=>?_;obtain ⟨v6,v7,v8,v9,cf,cu,uz,mem',cz,ja,rfl,z3,p3,mj,cn,mo⟩:=z0;refine zG9 ?_
   rw [P0,Qo] at p3
   refine k cf cu uz mem' cz ja H3 z3 (p3.fin fun a ha s hs hd=>?_) ((k_.same sU).trans mj) cn mo
   exact (gi.ks s).mpr (List.mem_map.mpr ⟨(s,a),(j7 lo).mpr ⟨ha,hs,hd⟩,rfl⟩)
def P7 (mg:Str->Option Value):Sp:=fun vs H Q _=>∃ (n r a:Addr) (xs:List V) (rows:List ak) (ns ws R:List Str),vs=[.ref n,.ref r]/\Ck H (adr mg "Net") n rows/\RT H a xs rows ns ws/\(∀ z∈ws,Wd z)/\H r=some (.lst (R.map V.str))/\R.Nodup/\(∀ e∈R,ji rows ns e)/\(∀ e∈R,∀ m∈bq rows e,m.2∈R)/\
 ∀ (D:Addr) (kn:List (Key×V)) (num:Str->Nat) (H':Hp),aa H H'->H' D=some (.dK kn)->(∀ x∈R,av kn (.inr x)=some (cy (num x)))->(∀ a∈R,∀ b∈R,num a=num b↔gw rows rows (a,b))->Q (.ref D) H'
set_option maxHeartbeats 2000000 in
theorem jF (T:Txt K mg w):bj P w K mg base 4 "class_numbers" ["net","rows"] (P7 mg):=by
 have uQ:Ce P w K mg base 1 "Parting" (adr mg "Parting") ["self"] (PB mg):=rC T
 have dG:uy P w K mg base 1 (adr mg "Parting") "begin" ["self","rows"] (K3 mg):=fF T
 have cD:uy P w K mg base 1 (adr mg "Parting") "put_off" ["self","at"] (HA mg):=dZ T
 have fX:uy P w K mg base 1 (adr mg "Parting") "take_waiting" ["self"] (PF mg):=fG T
 have uH:bj P w K mg base 3 "part_by" ["parting","sources","at"] (PU mg):=rO T
 have nZ:bj P w K mg base 2 "sources_of" ["net","rows"] (Pu mg):=mB T
 have yn:=T.bA.2.1
 have P8:=T.bA.2.2.1
 have cl:=T.Ax.2.1
 have na:=T.Ax.2.2.1
 refine T.kF.gg bG (fun vs H Q E h=>?_) (fun f ay A outer s H vs Q E hr h=>?_)
 ·refine hdn fun Gz9 zG9=>?_;obtain ⟨n,r,a,xs,rows,ns,ws,R,rfl,_⟩:=h;refine zG9 ?_
  rfl
 ·refine hdn fun Gz9 zG9=>?_;obtain ⟨n,r,a,xs,rows,ns,ws,R,rfl,CK,rt,hw,hR,AG,CL,DP,k⟩:=h;refine zG9 ?_
  have hu:=aV hr
  have ff:=Qy (aV hr)
  have D0:=kR hr
  have ZK:=Nat.lt_of_le_of_lt (Nat.add_le_add_left (by decide:10<=20) _) D0
  have hsz:sizeLine=16777216:=QM
  have lo:=rt.W2 hw AG CL DP
  have Pw:=lo.few
  refine hdn fun Gz9 zG9=>?_;obtain ⟨nx,Lg,d1,d3,d4,y0,y1,y2,y3,y4,y5,y6,y7⟩:=(CK.M8 (K:=K) (rt.ua hw)).at_;refine zG9 ?_
  refine ⟨_,(aE (aQ (i:=2) bG.nd rfl (Or.inl rfl) (Wy uQ (hr.mono (by decide))))
   (aE (aQ (i:=3) bG.nd rfl (Or.inl rfl) (WI P w))
   (aE (cU PassesOwn.never rfl (jT K (zv 1)) (aI (i:=4) bG.nd rfl (Or.inl rfl)) (aG (bO (iB K QJ QK QL aZ (vT P w ZK (zv 3) (cW hu (cN K (zv 0)) (zv 4) (fun _ _=>rfl)) (bS aC) ⟨rfl,rfl,rfl,rfl⟩) (aD (zv 4) aC)))))
   (aE (cU PassesOwn.never rfl (yD P w (WO P w (zv 3))) (aI (i:=5) bG.nd rfl (Or.inl rfl)) (aG (bO (jI cD yn (hr.mono (by decide)) (zv 2) (aX (jI dG yn (hr.mono (by decide)) (zv 2) (aD (zv 5) aC)) aC)))))
   (aE (aQ (i:=6) bG.nd rfl (Or.inl rfl) (bQ nZ (hr.mono (by decide)) (aD (zv 0) (aD (zv 1) aC))))
   (aE (iJ PassesOwn.never (V1 K (cN K (zv 2))) (aG (bO (bQ uH (hr.mono (by decide)) (aD (zv 2) (aD (zv 6) (aX (Wx fX yn (hr.mono (by decide)) (zv 2)) aC)))))))
   (aG (bE (cN K (zv 2)))))))))),?_⟩
  refine aJ fun p dx hp ZL ne=>?_
  refine ⟨p,dx,rfl,aA,fun H0 H2 lm dn lw dw q1 q2 sx pt=>⟨rfl,?_⟩⟩
  have Lh:aa H H0:=fun b o e=>by
   have nb:b≠p:=fun z=>by rw [z,hp] at e;cases e
   have CP:b≠dx:=fun z=>by rw [z,ZL] at e;cases e
   rw [q1 b nb,aB nb,aB CP];exact e
  clear q1 q2 sx
  dsimp only
  refine aJ fun M hM=>?_
  have sM:=aa.upd hM (gb P w M [])
  have gM:upd H2 M (gb P w M []) M=some (gb P w M []):=aA
  dsimp only
  generalize upd H2 M (gb P w M [])=H3 at sM gM
  have Li:aa H H2:=Lh.trans pt.sm
  let fk:rj->List (Tv×V):=fun xs=>xs.map fun x=>(x.1,V.ref x.2.2)
  have ZM:∀ xs:rj,(fk xs).map (·.1)=xs.map (·.1):=fun xs=>by simp [fk,Qn,QC]
  refine aO (fun σ' H'=>∃ (v4:Option V) (xm:rj),σ'=[some (.ref n),some (.ref r),some (.ref p),some (.ref M),v4,none,none]/\H' M=some (gb P w M xm)/\eu (fun d:Tv=>d) H2 H' (fk xm) (d_ (R.map fun a=>(dz (aq rows a),a)))/\aa H2 H') ?_ ?_
  ·intro Fj bx
   refine .inl ⟨⟨_,af.of (sM _ _ (Li _ _ hR))⟩,?_⟩
   refine cB (bN (R.map V.str)) (fun j σ' H'=>∃ (v4:Option V) (xm:rj),σ'=[some (.ref n),some (.ref r),some (.ref p),some (.ref M),v4,none,none]/\H' M=some (gb P w M xm)/\(∀ p∈xm,∃ h,p.1=dz h/\Cq H p.2.1 h)/\eu (fun d:Tv=>d) H2 H' (fk xm) (d_ ((R.take j).map fun a=>(dz (aq rows a),a)))/\aa H2 H')
    ⟨none,[],rfl,gM,(fun _ h=>nomatch h),eu.nil,sM⟩ (by rintro j σ' H' _ ⟨_,_,_,_,_,_,s⟩;exact af.of (s _ _ (Li _ _ hR))) ?_ ?_
   ·rintro j σ' H5 hj ⟨w4,xm,rfl,e1,e2,e3,e4⟩
    rw [Ql] at hj
    have eg:(R.map V.str).getD j .ai=.str R[j]:=by rw [Qb,Qq,Qa hj];rfl
    rw [eg,bK R j hj,Qm,List.map_singleton,gK]
    have CQ:=Qj hj
    generalize R[j]=x at CQ
    have gi:=vp ((R.take j).map fun a=>(dz (aq rows a),a))
    have fj:((R.take j).map fun a=>(dz (aq rows a),a)).length<=14:=by rw [Ql,List.length_take];omega
    generalize (R.take j).map (fun a=>(dz (aq rows a),a))=ps at e3 gi fj
    have Lj:xm.length<=14:=by have h1:=e3.len;rw [Ql] at h1;rw [h1];exact Nat.le_trans gi.len fj
    obtain ⟨b,z1,z2⟩:=y5 x (CL x CQ)
    have AB:=Li.trans e4
    have ZN:DK P w H5 M xm:=⟨e1,fun q hq=>by
     obtain ⟨h,z3,z4⟩:=e2 q hq
     rw [z3];exact (z4.same AB).td⟩
    refine ⟨M,rfl,⟨xm,ZN⟩,n,_,nx,Lg,_,rfl,AB _ _ y0,cl,na "marks" (by simp),y2,d3,_,rfl,z1.same AB,(show 0<=sizeLine by decide),fun l hl=>?_⟩
    have s6:=aa.upd hl (.lst [])
    have l6:upd H5 l (.lst []) l=some (.lst []):=aA
    dsimp only
    generalize upd H5 l (.lst [])=H6 at s6 l6
    have P9:l≠M:=fun z=>by rw [z,e1] at hl;cases hl
    have ZO:DK P w H6 M xm:=⟨s6 _ _ e1,fun q hq=>by
     obtain ⟨h,z3,z4⟩:=e2 q hq
     rw [z3];exact (z4.same (AB.trans s6)).td⟩
    have ZP:((fk xm).map (·.1)).Nodup:=by
     rw [e3.keys];exact gi.nd
    refine ⟨xm,dz (aq rows x),b,l,ZO,rfl,rfl,(z2.same (AB.trans s6)).td,by omega,fun q hq eq=>?_,fun hv=>?_⟩
    ·have hv:av (fk xm) (dz (aq rows x))=some (.ref q.2.2):=gR ZP (by rw [<- eq];exact List.mem_map.mpr ⟨q,hq,rfl⟩)
     refine hdn fun Gz9 zG9=>?_;obtain ⟨l',us,ev,h1,h2,⟨q',lq,rfl⟩,h3⟩:=(e3.keep fun l xs _ e=>s6 _ _ e).old (f:=fun d:Tv=>d) (fun _ _ z=>z) gi.nd hv x;refine zG9 ?_
     have m1:l'≠M:=fun z=>by rw [z,s6 _ _ e1] at h2;cases h2
     have:=gi.lens lq
     rw [ev]
     exact ⟨.inl ⟨rfl,_,af.of h2⟩,l',_,_,rfl,rfl,h2,by rw [Ql];omega,_,xm,rfl,by rw [aB m1.symm];exact s6 _ _ e1,e2,h3,(e4.trans s6).put h1⟩
    ·have Em:av (fk xm) (dz (aq rows x))=none:=by
      cases hz:av (fk xm) (dz (aq rows x)) with
      | none=>rfl
      | some u=>exact absurd (by rw [<- ZM];exact gW hz) hv
     have l7:upd H6 M (gb P w M (xm++[(dz (aq rows x),b,l)])) l=some (.lst []):=by rw [aB P9];exact l6
     refine ⟨.inl ⟨rfl,_,af.of l7⟩,l,_,_,rfl,rfl,l7,by simp;omega,_,xm++[(dz (aq rows x),b,l)],rfl,?_,fun q hq=>?_,?_,((e4.trans s6).put hM).put (e4.free hl)⟩
     ·rw [aB P9.symm,aA]
     ·rcases List.mem_append.mp hq with hq | hq
      ·exact e2 q hq
      ·rw [List.mem_singleton.mp hq];exact ⟨_,rfl,z2⟩
     ·have ef:fk (xm++[(dz (aq rows x),b,l)])=fk xm++[(dz (aq rows x),.ref l)]:=by simp [fk]
      rw [ef]
      refine e3.new Em x (e4.free hl) hl aA fun l' xs _ e=>?_
      rw [aB (fun z=>by rw [z,hl] at e;cases e),aB (fun z=>by rw [z,e1] at e;cases e)]
      exact s6 _ _ e
   ·rintro σ' H5 ⟨w4,xm,rfl,e1,e2,e3,e4⟩
    rw [Ql,Qo] at e3
    exact bx _ _ ⟨w4,xm,rfl,e1,e3,e4⟩
  rintro σ' H5 ⟨w4,xm,rfl,e1,e3,e4⟩
  have gi:=vp (R.map fun a=>(dz (aq rows a),a))
  have gq:∀ q∈d_ (R.map fun a=>(dz (aq rows a),a)),q.2.Nodup/\q.2.length<=R.length/\∀ x,x∈q.2↔x∈R/\dz (aq rows x)=q.1:=fun q hq=>W3 AG hq
  generalize d_ (R.map fun a=>(dz (aq rows a),a))=L at e3 gi gq
  have Ll:L.length<=14:=by have:=gi.len;rw [Ql] at this;omega
  have Lj:xm.length=L.length:=by have:=e3.len;rwa [Ql] at this
  refine aO (fun σ' H'=>∃ (v5:Option V) (ms:List Addr) (kn kw:List (Key×V)),σ'=[some (.ref n),some (.ref r),some (.ref p),some (.ref M),w4,v5,none]/\se (adr mg "Parting") H0 H' p lm dn lw dw R (zj rows L) (List.range L.length) ms (L.map (·.2)) kn kw) ?_ ?_
  ·intro Fj bx
   refine ⟨M,xm,rfl,e1,fun o=>⟨M,xm,o,rfl,aA,?_⟩⟩
   have s5:aa H2 (upd H5 M (.ae o (gb P w M xm))):=e4.put hM
   have u1:upd H5 M (.ae o (gb P w M xm)) M=some (.ae o (gb P w M xm)):=aA
   have u2:eu (fun d:Tv=>d) H2 (upd H5 M (.ae o (gb P w M xm))) (fk xm) L:=e3.keep fun l xs _ e=>by
    rw [aB fun z=>by rw [z,e1] at e;cases e];exact e
   generalize upd H5 M (.ae o (gb P w M xm))=H6 at s5 u1 u2
   have out:∀ {b:Addr},H2 b=none->b ∉ [lm,dn,lw,dw]:=fun {b} e z=>by
    simp only [Qp,QB,or_false] at z
    rcases z with z | z | z | z
    ·rw [z,pt.m] at e;cases e
    ·rw [z,pt.n] at e;cases e
    ·rw [z,pt.w] at e;cases e
    ·rw [z,pt.ws] at e;cases e
   refine cB (vA xm) (fun j σ' H'=>∃ (v5:Option V) (ms:List Addr) (kn kw:List (Key×V)),σ'=[some (.ref n),some (.ref r),some (.ref p),some (.ref M),w4,v5,none]/\iw (adr mg "Parting") H0 H' p lm dn lw dw ms ((L.take j).map (·.2)) kn (List.range j) kw/\kn.length<=14*j/\(∀ i (hi:i < L.length),i < j->∀ x∈L[i].2,av kn (.inr x)=some (cy i))/\∀ b o,b ∉ [lm,dn,lw,dw]->H6 b=some o->H' b=some o)
    ⟨none,[],[],[],rfl,pt.same s5,by simp,(fun i hi h=>absurd h (by omega)),fun b o _ e=>e⟩ (by rintro j σ' H' _ ⟨_,_,_,_,_,_,_,_,fr⟩;exact fr _ _ (out hM) u1) ?_ ?_
   ·rintro j σ' H7 hj z0;refine hdn fun Gz9 zG9=>?_;obtain ⟨v5,ms,kn,kw,rfl,p7,c7,n7,f7⟩:=z0;refine zG9 ?_
    have HK:j < L.length:=by omega
    have ZQ:j < (fk xm).length:=by simp [fk];omega
    obtain ⟨_,la,r1,r2,r3⟩:=u2.at_ j ZQ HK
    have ev:DL xm j=.ref la:=by
     unfold DL
     rw [Qa hj]
     rw [<- r1];simp [fk]
    rw [ev]
    have Lk:=out r2
    have r4:=f7 _ _ Lk r3
    obtain ⟨mn,ml,mm⟩:=gq _ (Qj HK)
    refine hdn fun Gz9 zG9=>?_;obtain ⟨FU,FW,j1,j2,j3,j4,j5,j6⟩:=p7.f.ex;refine zG9 ?_
    simp only [Qp,QB,or_false,not_or] at Lk
    have ZR:((L.take j).map (·.2)).length=j:=by rw [Ql,List.length_take];omega
    refine ⟨p,FU,FW,rfl,j1,j6 "put_off" (by simp),p,FU,FW,rfl,j1,j6 "begin" (by simp),H0,p,lm,dn,lw,dw,la,ms,_,kn,List.range j,kw,L[j].2,rfl,p7,r4,Lk.1,mn,by omega,by omega,by omega,fun d P_ H8 hd p8 v8 l8 _ f8=>?_⟩
    rw [ZR] at v8 ⊢
    refine ⟨H0,p,lm,dn,lw,dw,_,_,P_,List.range j,kw,j,rfl,p8,by simp,by simp;omega,fun ZS H9 p9 f9=>⟨some (.ref la),ms++[d],P_,ZS,rfl,?_,by omega,fun i hi zb x hx=>?_,fun b o nb e=>?_⟩⟩
    ·rw [bK L j HK,Qm,List.map_singleton,List.range_succ];exact p9
    ·rw [v8 x]
     by_cases Qu:i=j
     ·subst Qu;rw [if_pos hx]
     ·rw [if_neg fun hz=>?_]
      ·exact n7 i hi (by omega) x hx
      ·have k1:=((gq _ (Qj hi)).2.2 x).mp hx
       have k2:=(mm x).mp hz
       exact Qu ((kW gi hi k1.2).symm.trans (kW gi HK k2.2))
    ·have Bf:=nb
     simp only [Qp,QB,or_false,not_or] at Bf
     exact f9 b o Bf.2.2.1 Bf.2.2.2 (f8 b o Bf.1 Bf.2.1 (f7 b o nb e))
   ·rintro σ' H7 z0;refine hdn fun Gz9 zG9=>?_;obtain ⟨v5,ms,kn,kw,rfl,p7,c7,n7,f7⟩:=z0;refine zG9 ?_
    rw [Lj,Qo] at p7
    rw [Lj] at c7 n7
    refine bx _ _ ⟨v5,ms,kn,kw,rfl,p7,uY AG gi gq,fun x hx=>?_,by omega,fun i hi=>by rw [Ql];exact List.mem_range.mp hi⟩
    obtain ⟨h1,h2⟩:=gU gi hx
    exact n7 _ h1 h1 x (((gq _ (Qj h1)).2.2 x).mpr ⟨hx,h2⟩)
  rintro σ' H7 ⟨v5,ms,kn,kw,rfl,z7⟩
  have Lm:=wE gi lo.rc
  have QG:(List.range L.length).length=(L.map (·.2)).length:=by simp
  generalize zj rows L=num at z7 Lm
  generalize List.range L.length=wt at z7 Lm QG
  generalize L.map (·.2)=mem at z7 QG
  have HL:aa H H7:=Lh.trans z7.s.sm
  obtain ⟨HM,HN,en,nf⟩:=CK
  have ZT:Ck H7 (adr mg "Net") n rows:=⟨HM,HN,HL _ _ en,nf.same HL⟩
  refine aJ ⟨n,r,a,xs,rows,ns,ws,R,rfl,ZT,rt.tk HL.ts,hw,HL _ _ hR,AG,CL,DP,fun D ks H8 hD s8 gD src=>?_⟩
  dsimp only
  have ZU:D ∉ [p,lm,dn,lw,dw]++ms:=fun z=>by
   obtain ⟨FU,FW,j1,_⟩:=z7.s.f.ex
   rcases List.mem_append.mp z with z | z
   ·simp only [Qp,QB,or_false] at z
    rcases z with z | z | z | z | z
    ·rw [z,j1] at hD;cases hD
    ·rw [z,z7.s.m] at hD;cases hD
    ·rw [z,z7.s.n] at hD;cases hD
    ·rw [z,z7.s.w] at hD;cases hD
    ·rw [z,z7.s.ws] at hD;cases hD
   ·obtain ⟨i,hi,rfl⟩:=Qi z
    obtain ⟨kv,g1,_⟩:=z7.s.d i hi (by rw [<- z7.s.ml];exact hi)
    rw [g1] at hD;cases hD
  have CO:H7 lm≠none:=by rw [z7.s.m];exact fun z=>nomatch z
  have ym:H7 lw≠none:=by rw [z7.s.w];exact fun z=>nomatch z
  refine aO (fun σ' H'=>∃ (num:Str->Nat) (ms:List Addr) (mem:List (List Str)) (kn kw:List (Key×V)),σ'=[some (.ref n),some (.ref r),some (.ref p),some (.ref M),w4,v5,some (.ref D)]/\se (adr mg "Parting") H0 H' p lm dn lw dw R num [] ms mem kn kw/\Av rows R num []) ?_ ?_
  ·intro Fj bx
   refine ⟨fun mm σ' H'=>∃ (num:Str->Nat) (wt:List Nat) (ms:List Addr) (mem:List (List Str)) (kn kw:List (Key×V)),σ'=[some (.ref n),some (.ref r),some (.ref p),some (.ref M),w4,v5,some (.ref D)]/\se (adr mg "Parting") H0 H' p lm dn lw dw R num wt ms mem kn kw/\Av rows R num wt/\H' D=some (.dK ks)/\D ∉ [p,lm,dn,lw,dw]++ms/\g_ H7 H' ks R (ir rows R)/\mm=2*(R.length - mem.length)+wt.length,
    ⟨_,num,wt,ms,mem,kn,kw,rfl,z7.same s8,Lm,gD,ZU,src,rfl⟩,?_⟩
   rintro mm σ' H9 ⟨num,wt,ms,mem,kn,kw,rfl,z9,HP,ZV,Bx,ZW,rfl⟩
   refine hdn fun Gz9 zG9=>?_;obtain ⟨HQ,HR,j1,j2,j3,j4,j5,j6⟩:=z9.s.f.ex;refine zG9 ?_
   refine ⟨p,_,HQ,HR,_,rfl,j1,yn,P8 "waiting" (by simp),j4,_,.inl ⟨_,af.of z9.s.w,rfl⟩,?_⟩
   refine f_ (fun c=>?_) (fun c=>?_)
   ·have gr:wt≠[]:=fun z=>by rw [z] at c;cases c
    obtain ⟨HS,j,rfl⟩:∃ HS j,wt=HS++[j]:=⟨_,_,(List.dropLast_concat_getLast gr).symm⟩
    have ZX:j < mem.length:=z9.wl j (by simp)
    have Ln:mem[j]? =some mem[j]:=Qa ZX
    generalize mem[j]=W at Ln
    simp only [List.mem_append,Qp,QB,or_false,not_or] at Bx
    refine ⟨_,fun σ' H' h=>h,?_⟩
    refine ⟨p,HQ,HR,rfl,j1,j6 "take_waiting" (by simp),H0,p,lm,dn,lw,dw,ms,mem,kn,HS,kw,j,rfl,z9.s,fun ja CH Bs QN=>?_⟩
    have QO:g_ H7 CH ks R (ir rows R):=ZW.Nu z9.s.m z9.s.w CO ym fun b o e nk n1 n2=>QN b o n2 (fun z=>by rw [z,z9.s.ws] at e;exact nk _ (QE e).symm) e
    have Lo:=QN D _ Bx.1.2.2.2.1 Bx.1.2.2.2.2 ZV
    refine ⟨H0,H7,p,lm,dn,lw,dw,D,ms,mem,kn,HS,ja,ks,j,W,rows,R,num,rfl,⟨Bs,z9.n,z9.v,z9.kl,fun i hi=>z9.wl i (List.mem_append.mpr (.inl hi))⟩,Ln,Lo,Bx.2,QO,lo,HP.take (at_:=j) (fun i hi=>?_) (fun x hx=>?_) lo.rc,fun cf cu uz mem' cz Bw O3 QW ZY Lp cn mo=>?_⟩
    ·rcases List.mem_append.mp hi with h | h
     ·exact .inl h
     ·exact .inr (List.mem_singleton.mp h)
    ·rw [z9.n.mm _ _ Ln x]
     exact ⟨fun h=>h.2,fun h=>⟨hx,h⟩⟩
    ·have ZZ:D ∉ [lm,dn,lw,dw]++ms:=by
      simp only [List.mem_append,Qp,QB,or_false,not_or]
      exact ⟨Bx.1.2,Bx.2⟩
     have few:=QW.n.few
     refine ⟨_,?_,cf,cu,uz,mem',cz,Bw,rfl,QW,ZY,Lp.kp D _ ZZ Lo,fun z=>?_,QO.Nu Bs.m Bs.w CO ym fun b o e nk n1 n2=>Lp.kp b o (Bs.off e nk n1 n2) e,rfl⟩
     ·rw [Qk,List.length_singleton];omega
     ·rcases List.mem_append.mp z with z | z
      ·simp only [Qp,QB,or_false] at z
       exact absurd z (by simp only [not_or];exact Bx.1)
      ·rcases Lp.nw D z with q | q
       ·exact Bx.2 q
       ·rw [Lo] at q;cases q
   ·have K5:wt=[]:=by
     cases wt with
     | nil=>rfl
     | cons _ _=>simp at c
    subst K5
    exact bx _ _ ⟨num,ms,mem,kn,kw,rfl,z9,HP⟩
  ·rintro σ' H9 z0;refine hdn fun Gz9 zG9=>?_;obtain ⟨num,ms,mem,kn,kw,rfl,z9,HP⟩:=z0;refine zG9 ?_
   refine hdn fun Gz9 zG9=>?_;obtain ⟨HQ,HR,j1,j2,j3,j4,j5,j6⟩:=z9.s.f.ex;refine zG9 ?_
   exact ⟨p,_,HQ,HR,_,rfl,j1,yn,P8 "number" (by simp),j3,k dn kn num H9 (Lh.trans z9.s.sm) z9.s.n z9.v fun a ha b hb=>HP.done lo.rc ha hb⟩
def QX (mg:Str->Option Value):Sp:=fun vs H Q _=>∃ (a:Addr) (xs:List V) (rows:List ak) (ns ws:List Str),vs=[.ref a]/\RT H a xs rows ns ws/\(∀ z∈ws,Wd z)/\Kn mg H "FROM" [.str "from"]/\Kn mg H "TO" [.str "to"]/\
 ∀ (l:Addr) (kb:List (Key×V)) (num:Str->Nat) (H':Hp),aa H H'->H l=none->H' l=some (.lst (kb.map (·.2)))->eu (fun n:Nat=>(Sum.inl (n:Int):Key)) H H' kb (d_ ((rows.map (·.1)).map fun x=>(num (endOf rows x),x)))->(∀ x∈ns,∀ y∈ns,num (endOf rows x)=num (endOf rows y)↔gw rows rows (endOf rows x,endOf rows y))->Q (.ref l) H'
set_option maxHeartbeats 2000000 in
theorem rT (T:Txt K mg w):bj P w K mg base 6 "classes" ["T"] (QX mg):=by
 have Z0:Ce P w K mg base 4 "Net" (adr mg "Net") ["self","T"] (Oj mg):=X8 T
 have kO:bj P w K mg base 4 "class_numbers" ["net","rows"] (P7 mg):=jF T
 have cl:=T.Ax.2.1
 have na:=T.Ax.2.2.1
 refine T.vY.gg dA (fun vs H Q E h=>?_) (fun f ay A outer s H vs Q E hr h=>?_)
 ·obtain ⟨a,xs,rows,ns,ws,rfl,_⟩:=h
  rfl
 ·refine hdn fun Gz9 zG9=>?_;obtain ⟨a,xs,rows,ns,ws,rfl,rt,hw,kf,kt,k⟩:=h;refine zG9 ?_
  have hu:=aV hr
  have ff:=Qy (aV hr)
  have D0:=kR hr
  have hsz:sizeLine=16777216:=QM
  have few:=rt.few
  have rl:=rt.rl
  have xl:=rt.rv.len
  have g:=rt.ua hw
  refine ⟨_,(aE (aQ (i:=1) dA.nd rfl (Or.inl rfl) (Vy Z0 (hr.mono (by decide)) (aD (zv 0) aC)))
   (aE (aQ (i:=2) dA.nd rfl (Or.inl rfl) (bQ kO (hr.mono (by decide)) (aD (zv 1) (aX (cJ (vV rfl) (by rfl) T.lU PyProof.Rows.boot_list (fY (cN K (zv 1)) aC)) aC))))
   (aE (aQ (i:=3) dA.nd rfl (Or.inl rfl) m8)
   (aE (cU PassesOwn.never rfl (jT K (zv 0)) (d6 K (n:=2) rfl (aM (aI (i:=4) dA.nd rfl (Or.inl rfl)) (aM (aI (i:=5) dA.nd rfl (Or.inl rfl)) cC))) (aG (bO (iB K QJ QK QL aZ (nJ (zv 3) (cW hu (zv 2) (cW hu (cN K (zv 1)) (zv 4) (fun _ _=>rfl)) (fun _ _=>rfl)) (bS aC) ⟨rfl,rfl,rfl,rfl⟩) (aD (zv 4) aC)))))
   (aG (bE (vB rfl (by rfl) T.lU (zv 3)))))))),?_⟩
  refine aJ fun n dn hn qc ne=>?_
  have s0:aa H (upd (upd H dn (.own n)) n (.ins (adr mg "Net") dn [])):=(aa.upd qc _).trans (aa.upd (by rw [aB ne.symm];exact hn) _)
  refine ⟨n,dn,a,xs,rows,ns,ws,rfl,aA,rt.tk s0.ts,hw,kf.same s0,kt.same s0,fun H2 CK sx=>⟨rfl,?_⟩⟩
  have s2:aa H H2:=fun b o e=>sx b o (fun z=>by rw [z,hn] at e;cases e) (s0 b o e)
  clear sx s0
  have nv:=CK.M8 (K:=K) g
  obtain ⟨HM,HN,en,nf⟩:=id CK
  obtain ⟨dh,oh,kh,Z1,Z2,Z3⟩:=nf.hds
  dsimp only
  have kk:(kh.map fun kv=>kV kv.1)=((bf rows).map (·.1)).map V.str:=by
   have:(kh.map fun kv=>kV kv.1)=(kh.map (·.1)).map kV:=by rw [Qn];rfl
   rw [this,Z3.keys,Qn,Qn]
   rfl
  refine aJ ⟨n,_,HM,HN,_,rfl,en,cl,na "heads" (by simp),Z1,dh,kh,rfl,.inr ⟨oh,Z2⟩,fun l hl=>?_⟩
  have s3:=aa.upd hl (.lst (kh.map fun kv=>kV kv.1))
  have l3:upd H2 l (.lst (kh.map fun kv=>kV kv.1)) l=some (.lst (((bf rows).map (·.1)).map V.str)):=by rw [<- kk];exact aA
  generalize upd H2 l (.lst (kh.map fun kv=>kV kv.1))=H3 at s3 l3
  have Z4:Ck H3 (adr mg "Net") n rows:=⟨HM,HN,s3 _ _ en,nf.same s3⟩
  refine ⟨n,l,a,xs,rows,ns,ws,(bf rows).map (·.1),rfl,Z4,rt.tk (s2.trans s3).ts,hw,l3,rt.Bc,fun e he=>(g.ai e).mp he,fun e he m hm=>(g.ai _).mpr (rt.VZ hw ((g.ai e).mp he) hm).2,fun D kn num H4 s4 hD K4 Lq=>?_⟩
  have Ef:=(s2.trans s3).trans s4
  have Z5:=nv.same (s3.trans s4)
  refine hdn fun Gz9 zG9=>?_;obtain ⟨nx,Lg,d1,d3,d4,y0,y1,y2,y3,y4,_⟩:=Z5.at_;refine zG9 ?_
  dsimp only
  refine aJ fun B hB=>?_
  have sB:=aa.upd hB (.dK [])
  have gB:upd H4 B (.dK []) B=some (.dK []):=aA
  dsimp only
  generalize upd H4 B (.dK [])=H5 at sB gB
  let fn:Nat->Key:=fun n=>Sum.inl (n:Int)
  have Lc:∀ a b,fn a=fn b->a=b:=fun a b e=>Int.ofNat.inj (Sum.inl.inj e)
  refine aO (fun σ' H'=>∃ (v4 v5:Option V) (kb:List (Key×V)),σ'=[some (.ref a),some (.ref n),some (.ref D),some (.ref B),v4,v5]/\H' B=some (.dK kb)/\eu fn H4 H' kb (d_ ((rows.map (·.1)).map fun x=>(num (endOf rows x),x)))/\aa H4 H') ?_ ?_
  ·intro Fj bx
   refine .inr ⟨⟨xs,aj.of (sB _ _ (Ef _ _ rt.at_))⟩,?_⟩
   refine cB (dD xs) (fun j σ' H'=>∃ (v4 v5:Option V) (kb:List (Key×V)),σ'=[some (.ref a),some (.ref n),some (.ref D),some (.ref B),v4,v5]/\H' B=some (.dK kb)/\eu fn H4 H' kb (d_ (((rows.take j).map (·.1)).map fun x=>(num (endOf rows x),x)))/\aa H4 H')
    ⟨none,none,[],rfl,gB,eu.nil,sB⟩ (by rintro j σ' H' _ ⟨_,_,_,_,_,_,s⟩;exact aj.of (s _ _ (Ef _ _ rt.at_))) ?_ ?_
   ·rintro j σ' H6 hj ⟨w4,w5,kb,rfl,zw,d2,u_⟩
    have CS:j < rows.length:=by omega
    obtain ⟨rb,hv,w1,w2,w3⟩:=rt.rv.at_ j hj CS
    have eg:xs.getD j .ai=.ref rb:=by rw [Qb,Qa hj,w1];rfl
    rw [eg,bK rows j CS,Qm,Qm,List.map_singleton,List.map_singleton,gK]
    have Bo:rows[j].1∈ns:=rt.nm.mem_iff.mp (List.mem_map.mpr ⟨_,Qj CS,rfl⟩)
    have FY:=u_ _ _ (Ef _ _ w2)
    generalize rows[j].1=x at FY Bo
    have gi:=vp (((rows.take j).map (·.1)).map fun x=>(num (endOf rows x),x))
    have fj:(((rows.take j).map (·.1)).map fun x=>(num (endOf rows x),x)).length<=14:=by rw [Ql,Ql,List.length_take];omega
    generalize ((rows.take j).map (·.1)).map (fun x=>(num (endOf rows x),x))=ps at d2 gi fj
    have HF:kb.length<=14:=by rw [d2.len];exact Nat.le_trans gi.len fj
    have CQ:=(g.ai _).mpr (g.stay Bo)
    have dg:=dj.k (k:=.inr (endOf rows x)) hD
    rw [K4 _ CQ] at dg
    refine fJ FY ?_
    refine ⟨B,rfl,.inl ⟨kb,.inl zw⟩,n,_,nx,Lg,_,rfl,u_ _ _ y0,cl,na "rows" (by simp),y1,d1,_,rfl,(y4 x Bo).same u_,D,_,rfl,dg.same u_,(show 0<=sizeLine by decide),fun l hl=>?_⟩
    have s6:=aa.upd hl (.lst [])
    have l6:upd H6 l (.lst []) l=some (.lst []):=aA
    dsimp only
    generalize upd H6 l (.lst [])=H7 at s6 l6
    have FQ:l≠B:=fun z=>by rw [z,zw] at hl;cases hl
    refine ⟨kb,fn (num (endOf rows x)),s6 _ _ zw,rfl,by omega,fun v hv=>?_,fun hv=>?_⟩
    ·obtain ⟨l',us,rfl,h1,h2,⟨q,hq,rfl⟩,h3⟩:=(d2.keep fun l xs _ e=>s6 _ _ e).old Lc gi.nd hv x
     have m1:l'≠B:=fun z=>by rw [z,s6 _ _ zw] at h2;cases h2
     have:=gi.lens hq
     exact ⟨.inl ⟨rfl,_,af.of h2⟩,l',_,_,rfl,rfl,h2,by rw [Ql];omega,_,_,kb,rfl,by rw [aB m1.symm];exact s6 _ _ zw,h3,(u_.trans s6).put h1⟩
    ·have l7:upd H7 B (.dK (kb++[(fn (num (endOf rows x)),.ref l)])) l=some (.lst []):=by rw [aB FQ];exact l6
     refine ⟨.inl ⟨rfl,_,af.of l7⟩,l,_,_,rfl,rfl,l7,by simp;omega,_,_,kb++[(fn (num (endOf rows x)),.ref l)],rfl,?_,?_,((u_.trans s6).put hB).put (u_.free hl)⟩
     ·rw [aB FQ.symm,aA]
     ·refine d2.new hv x (u_.free hl) hl aA fun l' xs _ e=>?_
      rw [aB (fun z=>by rw [z,hl] at e;cases e),aB (fun z=>by rw [z,zw] at e;cases e)]
      exact s6 _ _ e
   ·rintro σ' H6 ⟨w4,w5,kb,rfl,zw,d2,u_⟩
    rw [xl,Qo] at d2
    exact bx _ _ ⟨w4,w5,kb,rfl,zw,d2,u_⟩
  rintro σ' H6 ⟨w4,w5,kb,rfl,zw,d2,u_⟩
  refine ⟨B,kb,rfl,.inl zw,fun l' zd=>?_⟩
  have s7:=aa.upd zd (.lst (kb.map (·.2)))
  have Z6:=u_.trans s7
  refine k l' kb num _ (Ef.trans Z6) ((Ef.trans u_).free zd) aA ?_ fun x hx y hy=>Lq _ ((g.ai _).mpr (g.stay hx)) _ ((g.ai _).mpr (g.stay hy))
  have d4:=d2.keep (H':=upd H6 l' (.lst (kb.map (·.2)))) fun l xs _ e=>s7 _ _ e
  exact ⟨d4.len,fun i h1 h2=>let ⟨q1,l,q2,q3,q4⟩:=d4.at_ i h1 h2;⟨q1,l,q2,Ef.free q3,q4⟩,d4.inj⟩
def Ls (K:Q1) (mg:Str->Option Value):Sp:=fun vs H Q _=>∃ (a:Addr) (ns:List Int),vs=[.ref a]/\af K H a (ns.map V.int)/\ns.length<=63/\(Kn mg H "FROM" [.str "from"]/\Kn mg H "TO" [.str "to"])/\∀ H',Q (.bl true) H'
theorem yF {ns:List Int} (hs:af K H a (ns.map V.int)) (hp:H p=none):b_ K H (upd H p (.lst [.ref a,.int 0,.int 0])) p 0:=by
 refine ⟨⟨a,ns,0,0,aA,fun H' sm=>?_,by omega,by omega⟩,(aa.upd hp _).sm⟩
 rcases hs with h | h
 ·refine .inl ?_
  have n:a≠p:=fun z=>by rcases h with h | ⟨o,h⟩<;>(rw [z,hp] at h;cases h)
  exact h.imp (fun e=>sm _ _ e n n) fun ⟨o,e⟩=>⟨o,sm _ _ e n n⟩
 ·exact .inr h
theorem Kn.QY {t:Nat} {ys:List V} (h:Kn mg H0 x ys) (hp:H0 p=none) (hn:b_ K H0 H p t):Kn mg H x ys:=by
 obtain ⟨o,e⟩:=h
 have n:adr mg x≠p:=fun z=>by rw [z,hp] at e;cases e
 exact ⟨o,hn.sm _ _ e n n⟩
set_option maxHeartbeats 4000000 in
theorem Z7 (T:Txt K mg w):bj P w K mg base 14 "law" ["script"] (Ls K mg):=by
 have hE:bj P w K mg base 5 "_law_telling" ["_law_pen","_law_most"] (N5 K):=m5 T
 have aT:bj P w K mg base 2 "_law_next" ["_law_pen","_law_many"] (Bk K):=cK T
 have sI:bj P w K mg base 4 "_law_twin" ["_law_pen","_law_told"] (OJ K):=pM T
 have vK:bj P w K mg base 6 "classes" ["T"] (QX mg):=rT T
 have mH:bj P w K mg base 5 "_law_parting" ["_law_told","_law_name","_law_other","_law_twin_name"] ON:=kY T
 refine T.NK.gg e9 (fun vs H Q E h=>?_) (fun f ay A outer s H vs Q E hr h=>?_)
 ·obtain ⟨a,ns,rfl,_⟩:=h
  rfl
 ·refine hdn fun Gz9 zG9=>?_;obtain ⟨sc,cells,rfl,Z8,abM,⟨kf,kt⟩,k⟩:=h;refine zG9 ?_
  have hu:=aV hr
  have ff:=Qy (aV hr)
  have D0:=kR hr
  have OO:=qN hr
  have hsz:sizeLine=16777216:=QM
  have hw:∀ z∈WW,Wd z:=fun z hz=>(NS z hz).2
  refine ⟨_,(aE (aQ (i:=1) e9.nd rfl (Or.inl rfl) (bS (aD (zv 0) (aF aH (aF aH aC)))))
   (aE (cU PassesOwn.never rfl (lI (by rfl) T.oG (aF aH aC)) (aI (i:=2) e9.nd rfl (Or.inl rfl)) (aE (aQ (i:=3) e9.nd rfl (Or.inr rfl) (bQ hE (hr.mono (by decide)) (aD (zv 1) (aF aH aC))))
   (aE (eG (aU (dY ff) (bQ aT (hr.mono (by decide)) (aD (zv 1) (aF aH aC))) aH (h_ _)) (aG (aQ (i:=3) e9.nd rfl (Or.inr rfl) (bQ sI (hr.mono (by decide)) (aD (zv 1) (aX (bQ hE (hr.mono (by decide)) (aD (zv 1) (aF aH aC))) aC))))) cH)
   (aE (aQ (i:=4) e9.nd rfl (Or.inl rfl) (bS aC))
   (aE (cU PassesOwn.never rfl (jT K (zv 3)) (d6 K (n:=2) rfl (aM (aI (i:=5) e9.nd rfl (Or.inr rfl)) (aM (aI (i:=6) e9.nd rfl (Or.inl rfl)) cC))) (aE (IE (i:=7) (own:=["_law_one"]) (idx:=[3,5]) (N':=["_law_one","_law_told","_law_name"]) (cZ (a_ jY) (["script","_law_pen","_law_k","_law_told","_law_due","_law_name","_law_here","_law_mine","_law_turn","_law_found"]:List Str) (by decide+kernel)) rfl (jT K (zv 4)) (fun _ _ _ _ _ _=>(aI (i:=0) (show List.Nodup (["_law_one","_law_told","_law_name"]:List Str) by decide+kernel) rfl (Or.inl rfl))) (fun _ _ _ _ _ _=>(wV (aU UO (bQ mH (hr.mono (by decide)) (aD (zv 1) (aD (zv 2) (aD (zv 1) (aN (bB (bC K) (zv 0) aH (fun _ _=>rfl)) aC))))) Mm (h_ _)))) (fun _ _ _ _ _ _=>(zv 0)) e9.nd rfl rfl)
   (aG (eG (aU (dY ff) (zv 7) (bS aC) (h_ _)) (aG (bO (iB K QJ QK QL aZ (zv 4) (tK (bS (aD (zv 5) aC)) aC)))) (aG (bO (iB K QJ QK QL aZ (bB (bC K) (zv 7) aH (fun _ _=>rfl)) (aD (zv 5) aC))))))))
   (aG (cU PassesOwn.never rfl (lI (by rfl) T.oG (aF aH aC)) (aI (i:=8) e9.nd rfl (Or.inl rfl)) (aE (aQ (i:=9) e9.nd rfl (Or.inl rfl) (bQ vK (hr.mono (by decide)) (aD (zv 3) aC)))
   (aE (eG (Mp (UI (UH (cE vG (by rfl) T.nX PyProof.Rows.boot_isinstance (aD (zv 9) (aD (UG (v:=.ty "list") (by rfl) T.lU PyProof.Rows.boot_list rfl) aC))))) (Mn (aU (W7 D0) (zv 9) (zv 4) (h_ _)))).pt (aG (bE zE)) cH)
   (aE (bO (yH K QJ PySem.F.slot_list_clear PySem.F.type_list_clear wO (bB (bC K) (zv 9) aH (fun _ _=>rfl))))
   (aG (bO (yH K QJ PySem.F.slot_list_pop PySem.F.type_list_pop zN (zv 9))))))))))))))
   (aG (bE zE)))),?_⟩
  refine aJ ⟨(show 3<=sizeLine by decide),fun p hp=>?_⟩
  have QZ:=yF Z8 hp
  dsimp only
  generalize upd H p (.lst [.ref sc,.int 0,.int 0])=H1 at QZ
  refine aO (fun σ' H'=>True) ?_ (fun σ' H' _=>k H')
  intro nx bx
  refine ⟨3,rfl,by decide,by decide,?_⟩
  refine cB (jQ 0 3) (fun i σ' H'=>∃ v2 v3 v4 v5 v6 v7 v8 v9,σ'=[some (.ref sc),some (.ref p),v2,v3,v4,v5,v6,v7,v8,v9]/\b_ K H H' p (i*1900))
   ⟨none,none,none,none,none,none,none,none,rfl,QZ⟩ (fun _ _ _ _ _=>trivial) ?_ (fun σ' H' _=>bx _ _ trivial)
  rintro i σ' H2 hi z0;refine hdn fun Gz9 zG9=>?_;obtain ⟨v2,v3,v4,v5,v6,v7,v8,v9,rfl,hn2⟩:=z0;refine zG9 ?_
  have hi4:i < 3:=hi
  refine aJ ⟨H,p,7,i*1900,rfl,hn2,by omega,⟨by decide,by decide⟩,fun a0 Ak rows0 Z9 H3 Z_ gp h80 qh oj=>?_⟩
  dsimp only
  refine aO (fun σ' H'=>∃ (a:Addr) (xs:List V) (rows:List ak) (ns:List Str),σ'=[some (.ref sc),some (.ref p),some (.int (0+(i:Int))),some (.ref a),v4,v5,v6,v7,v8,v9]/\RT H' a xs rows ns WW/\b_ K H H' p (i*1900+1900)) ?_ ?_
  ·intro zm zp
   refine ⟨H,p,2,_,rfl,qh,⟨by decide,by decide⟩,by omega,fun r H5 r0 r1 ud jb=>⟨rfl,_,rfl,f_ (fun c=>?_) (fun c=>?_)⟩⟩
   ·refine ⟨H,p,4,_,rfl,ud,by omega,⟨by decide,by decide⟩,fun a1 Z' aaa ns1 H6 Lu fj h81 Lv sm6=>?_⟩
    refine ⟨H,p,a1,_,Z',aaa,ns1,rfl,Lv,by omega,Lu,h81,by omega,fun b ys Cc H7 rb7 hn7 sm7=>?_⟩
    exact zp _ _ ⟨b,ys,Cc,_,rfl,rb7,hn7.mono (by omega)⟩
   ·exact zp _ _ ⟨a0,Ak,rows0,Z9,rfl,Z_.tk (qh.ts jb),ud.mono (by omega)⟩
  rintro σ' H4 ⟨a,xs,rows,ns,rfl,rt,qe⟩
  have G_:=Kn.QY kf hp qe
  have Hf:=Kn.QY kt hp qe
  have few:=rt.few
  have pos:=rt.pos
  have rl:=rt.rl
  have xl:=rt.rv.len
  have HU:∀ x,x∈rows.map (·.1)↔x∈ns:=fun x=>rt.nm.mem_iff
  refine aJ ⟨(show 0<=sizeLine by decide),fun E1 Q0=>?_⟩
  have sE:=aa.upd Q0 (.lst [])
  have gE:upd H4 E1 (.lst []) E1=some (.lst []):=aA
  have gN:∀ b,b≠E1->H4 b=none->upd H4 E1 (.lst []) b=none:=fun b n e=>by rw [aB n];exact e
  dsimp only
  generalize upd H4 E1 (.lst [])=H5 at sE gE gN
  refine aO (fun σ' H'=>∃ (v5 v6 v7:Option V) (kvs:List ((Str->Prop)×V)),σ'=[some (.ref sc),some (.ref p),some (.int (0+(i:Int))),some (.ref a),some (.ref E1),v5,v6,v7,v8,v9]/\H' E1=some (.lst (kvs.map (·.2)))/\eu (fun d:Str->Prop=>d) H5 H' kvs (d_ ((rows.map (·.1)).map fun x=>(kc rows x,x)))/\aa H4 H') ?_ ?_
  ·intro zm zp
   refine .inr ⟨⟨xs,aj.of (sE _ _ rt.at_)⟩,?_⟩
   refine cB (dD xs) (fun j σ' H'=>∃ (v5 v6 v7:Option V) (kvs:List ((Str->Prop)×V)),σ'=[some (.ref sc),some (.ref p),some (.int (0+(i:Int))),some (.ref a),some (.ref E1),v5,v6,v7,v8,v9]/\H' E1=some (.lst (kvs.map (·.2)))/\eu (fun d:Str->Prop=>d) H5 H' kvs (d_ (((rows.take j).map (·.1)).map fun x=>(kc rows x,x)))/\aa H4 H')
    ⟨v5,v6,v7,[],rfl,gE,eu.nil,sE⟩ (by rintro j σ' H' _ ⟨_,_,_,_,_,_,_,s⟩;exact aj.of (s _ _ rt.at_)) ?_ ?_
   ·rintro j σ' H6 hj z0;refine hdn fun Gz9 zG9=>?_;obtain ⟨w5,w6,w7,kvs,rfl,d1,d2,d3⟩:=z0;refine zG9 ?_
    have CS:j < rows.length:=by omega
    obtain ⟨rb,hv,w1,w2,w3⟩:=rt.rv.at_ j hj CS
    have eg:xs.getD j .ai=.ref rb:=by rw [Qb,Qa hj,w1];rfl
    rw [eg,bK rows j CS,Qm,Qm,List.map_singleton,List.map_singleton,gK]
    have Bo:rows[j].1∈ns:=(HU _).mp (List.mem_map.mpr ⟨_,Qj CS,rfl⟩)
    have FY:=d3 _ _ w2
    generalize rows[j].1=x at FY Bo
    have gi:=vp (((rows.take j).map (·.1)).map fun x=>(kc rows x,x))
    have DZ:∀ q∈(((rows.take j).map (·.1)).map fun x=>(kc rows x,x)),q.2∈ns/\q.1=kc rows q.2:=fun q hq=>by
     obtain ⟨y,hy,rfl⟩:=List.mem_map.mp hq
     obtain ⟨r,hr,rfl⟩:=List.mem_map.mp hy
     exact ⟨(HU _).mp (List.mem_map.mpr ⟨r,List.mem_of_mem_take hr,rfl⟩),rfl⟩
    have fj:(((rows.take j).map (·.1)).map fun x=>(kc rows x,x)).length<=14:=by rw [Ql,Ql,List.length_take];omega
    generalize ((rows.take j).map (·.1)).map (fun x=>(kc rows x,x))=ps at d2 gi fj DZ
    have HF:kvs.length<=14:=by rw [d2.len];exact Nat.le_trans gi.len fj
    have kl:=d2.len
    refine fJ FY ?_
    refine aO (fun σ' H'=>∃ (M:Addr),σ'=[some (.ref sc),some (.ref p),some (.int (0+(i:Int))),some (.ref a),some (.ref E1),some (.str x),some hv,some (.ref M),v8,v9]/\H' M=some (.lst ((kvs.filter fun q=>decide (q.1=kc rows x)).map (·.2)))/\H6 M=none/\aa H6 H') ?_ ?_
    ·intro KN CJ
     refine .inl ⟨⟨_,af.of d1⟩,fun M hM=>?_⟩
     have nME:M≠E1:=fun z=>by rw [z,d1] at hM;cases hM
     refine gZ (bN (kvs.map (·.2))) (fun i' τ H'=>∃ (v0:Option V),τ=[v0,some (.ref a),some (.str x)]/\H' M=some (.lst (((kvs.take i').filter fun q=>decide (q.1=kc rows x)).map (·.2)))/\aa H6 H')
      ⟨none,rfl,aA,aa.upd hM _⟩ (by rintro i' τ H' _ ⟨_,_,_,s⟩;exact af.of (s _ _ d1)) ?_ ?_
     ·rintro i' τ H7 ip ⟨v0,rfl,b1,b2⟩
      rw [Ql] at ip
      have yh:i' < (d_ ps).length:=by omega
      obtain ⟨g1,l,g2,g3,g4⟩:=d2.at_ i' ip yh
      have KZ:(kvs.map (·.2)).getD i' .ai=.ref l:=by rw [Qb,Qq,Qa ip,Option.map_some,g2];rfl
      rw [KZ,bK kvs i' ip,List.filter_append,Qm]
      have jf:=Qj yh
      have ev:=gi.ev _ jf
      have nn:=gi.ne jf
      have all:∀ z∈(d_ ps)[i'].2,z∈ns/\kc rows z=(d_ ps)[i'].1:=fun z hz=>by
       rw [ev] at hz
       obtain ⟨q,hq,rfl⟩:=List.mem_map.mp hz
       obtain ⟨h1,h2⟩:=List.mem_filter.mp hq
       obtain ⟨h3,h4⟩:=DZ q h1
       exact ⟨h3,by rw [<- h4];exact Qt h2⟩
      have DQ:=b2 _ _ g4
      have tl:(((kvs.take i').filter fun q=>decide (q.1=kc rows x)).map (·.2)).length<=14:=by
       rw [Ql]
       refine Nat.le_trans (List.length_filter_le _ _) ?_
       rw [List.length_take];omega
      generalize (d_ ps)[i']=q at g1 DQ nn all
      obtain ⟨key,zs⟩:=q
      dsimp only at g1 DQ nn all
      obtain ⟨z,rest,rfl⟩:=List.exists_cons_of_ne_nil nn
      obtain ⟨zn,zk⟩:=all z (by simp)
      have Q2:=rt.tk ((d3.trans b2)).ts
      refine ⟨_,_,.inl (af.of DQ),aK _ _,a,a,xs,xs,rows,rows,ns,ns,WW,WW,x,z,rfl,Q2,Q2,hw,hw,Bo,zn,fun H8 s8 h0=>?_,fun R us w H8 s8 e1 sv lw=>?_⟩
      ·have nb:gw rows rows (endOf rows x,endOf rows z):=h0
       have ek:kvs[i'].1=kc rows x:=by rw [g1,<- zk];exact (oK.mpr nb).symm
       refine ⟨_,rfl,B0 ⟨_,s8 _ _ b1,by omega,_,rfl,?_,(b2.trans s8).put hM⟩⟩
       rw [aA,List.filter_cons_of_pos (by simpa using ek)]
       rw [<- g2];rfl
      ·have nb:¬gw rows rows (endOf rows x,endOf rows z):=fun nb=>by
        obtain ⟨⟨m,h1,h2⟩,_⟩:=lw
        exact nb _ _ h1 h2
       have ek:kvs[i'].1≠kc rows x:=fun e=>nb (oK.mp (by rw [zk,<- g1];exact e.symm))
       refine ⟨_,rfl,Ai ⟨_,rfl,?_,b2.trans s8⟩⟩
       rw [List.filter_cons_of_neg (by simpa using ek)]
       simpa using s8 _ _ b1
     ·rintro τ H7 ⟨v0,rfl,b1,b2⟩
      rw [Ql,Qo] at b1
      exact CJ _ _ ⟨M,rfl,b1,hM,b2⟩
    rintro σ' H7 ⟨M,rfl,m1,m2,s7⟩
    refine ⟨(show 0<=sizeLine by decide),fun Z hZ=>?_⟩
    have s8:=aa.upd hZ (.lst [])
    have z8:upd H7 Z (.lst []) Z=some (.lst []):=aA
    dsimp only
    generalize upd H7 Z (.lst [])=H8 at s8 z8
    have nMZ:M≠Z:=fun z=>by rw [<- z,m1] at hZ;cases hZ
    have FZ:=s7.trans s8
    refine ⟨nMZ,_,s8 _ _ m1,z8,_,rfl,?_⟩
    have Q3:∀ {l:Addr},H5 l=none->l≠E1:=fun e z=>by rw [z,gE] at e;cases e
    have Q4:=d2.keep (H':=H8) fun l xs _ e=>FZ _ _ e
    have F0:=FZ _ _ d1
    cases hv:av kvs (kc rows x) with
    | none=>
     rw [uE hv]
     refine B0 ?_
     refine ⟨.inl ⟨rfl,_,af.of F0⟩,(show 1<=sizeLine by decide),fun l hl=>?_⟩
     have s9:=aa.upd hl (.lst [.str x])
     have l9:upd H8 l (.lst [.str x]) l=some (.lst [.str x]):=aA
     dsimp only
     generalize upd H8 l (.lst [.str x])=H9 at s9 l9
     have nl:l≠E1:=fun z=>by rw [z,F0] at hl;cases hl
     have h5l:∀ {b:Addr} {J:Hp},aa H4 J->J E1≠none->J b=none->H5 b=none:=fun {b J} sj je e=>gN b (fun z=>je (by rw [<- z];exact e)) (sj.free e)
     refine ⟨E1,_,_,rfl,rfl,s9 _ _ F0,by rw [Ql];omega,_,_,_,kvs++[(kc rows x,.ref l)],rfl,by rw [aA];simp,?_,((d3.trans FZ).trans s9).put Q0⟩
     refine Q4.new hv x (h5l (d3.trans FZ) (by rw [F0];exact fun z=>nomatch z) hl) hl (by rw [aB nl];exact l9) fun l' us h0 e=>?_
     rw [aB (Q3 h0)];exact s9 _ _ e
    | some v=>
     obtain ⟨r,er⟩:=uU hv
     rw [er]
     refine Ai ?_
     obtain ⟨l',us,rfl,h1,h2,⟨q,hq,rfl⟩,h3⟩:=Q4.old (f:=fun d:Str->Prop=>d) (fun _ _ z=>z) gi.nd hv x
     have:=gi.lens hq
     rw [er] at m1
     exact ⟨_,_,.inl (af.of (s8 _ _ m1)),aK _ _,.inl ⟨rfl,_,af.of h2⟩,l',_,_,rfl,rfl,h2,by rw [Ql];omega,_,_,_,kvs,rfl,by rw [aB (Q3 h1).symm];exact F0,h3,(d3.trans FZ).put (sE.free h1)⟩
   ·rintro σ' H6 z0;refine hdn fun Gz9 zG9=>?_;obtain ⟨w5,w6,w7,kvs,rfl,d1,d2,d3⟩:=z0;refine zG9 ?_
    rw [xl,Qo] at d2
    exact zp _ _ ⟨w5,w6,w7,kvs,rfl,d1,d2,d3⟩
  rintro σ' H6 z0;refine hdn fun Gz9 zG9=>?_;obtain ⟨w5,w6,w7,kvs,rfl,d1,d2,d3⟩:=z0;refine zG9 ?_
  refine ⟨2,rfl,by decide,by decide,?_⟩
  have Ko:=G_.same d3
  have Kp:=Hf.same d3
  have Lu:=rt.tk d3.ts
  have Lv:=qe.same d3
  refine cB (jQ 0 2) (fun j σ' H'=>∃ v8 v9,σ'=[some (.ref sc),some (.ref p),some (.int (0+(i:Int))),some (.ref a),some (.ref E1),w5,w6,w7,v8,v9]/\aa H6 H')
   ⟨v8,v9,rfl,aa.refl _⟩ (fun _ _ _ _ _=>trivial) ?_ ?_
  ·rintro j σ' H7 hj ⟨v8,v9,rfl,s7⟩
   refine aJ ⟨a,xs,rows,ns,WW,rfl,Lu.tk s7.ts,hw,Ko.same s7,Kp.same s7,fun l kb num H8 s8 hl e1 gh Lq=>?_⟩
   have gl:=gh.lls
   have ker:=W8 (fun x=>num (endOf rows x)) (kc rows) (rows.map (·.1)) fun x hx y hy=>by
    rw [Lq x ((HU x).mp hx) y ((HU y).mp hy),oK]
   rw [ker] at gl
   have dl8:GY H8 (kvs.map (·.2)) ((d_ ((rows.map (·.1)).map fun x=>(kc rows x,x))).map (·.2)):=(d2.keep fun l xs _ e=>(s7.trans s8) _ _ e).lls
   have g0:0 < kb.length:=by
    rw [gh.len]
    have h0:0 < rows.length:=by omega
    have:num (endOf rows rows[0].1)∈(d_ ((rows.map (·.1)).map fun x=>(num (endOf rows x),x))).map (·.1):=((vp _).ks _).mpr (List.mem_map.mpr ⟨(num (endOf rows rows[0].1),rows[0].1),List.mem_map.mpr ⟨rows[0].1,List.mem_map.mpr ⟨rows[0],Qj h0,rfl⟩,rfl⟩,rfl⟩)
    obtain ⟨q,hq,_⟩:=List.mem_map.mp this
    exact List.length_pos_of_mem hq
   obtain ⟨_,l0,f1,f2,f3⟩:=gh.at_ 0 g0 (by rw [<- gh.len];exact g0)
   dsimp only
   refine aO (fun σ' H'=>σ'=[some (.ref sc),some (.ref p),some (.int (0+(i:Int))),some (.ref a),some (.ref E1),w5,w6,w7,some (.int (0+(j:Int))),some (.ref l)]/\H'=H8) ?_ ?_
   ·intro zm zp
    refine ⟨by decide,"list",by show Gr H8 (.ref l)=_;simp [Gr,e1],_,rfl,?_⟩
    refine Ai ⟨l,E1,_,_,_,rfl,rfl,e1,s8 _ _ (s7 _ _ d1),gl,dl8,_,rfl,Ai ?_⟩
    exact zp _ _ ⟨rfl,rfl⟩
   rintro σ' H9 ⟨rfl,rfl⟩
   have Q5:(kb.map (·.2))[0]? =some (.ref l0):=by rw [Qq,Qa g0,Option.map_some,f1]
   have Kz:l≠l0:=fun z=>by
    rw [z,f3] at e1
    have e2:=HO.lst.inj (QE e1)
    have:V.ref l0∈kb.map (·.2):=QD Q5
    rw [<- e2] at this
    obtain ⟨y,_,q⟩:=List.mem_map.mp this
    cases q
   refine aO (fun σ' H'=>σ'=[some (.ref sc),some (.ref p),some (.int (0+(i:Int))),some (.ref a),some (.ref E1),w5,w6,w7,some (.int (0+(j:Int))),some (.ref l)]/\H'=upd H9 l0 (.lst [])) ?_ ?_
   ·intro zm zp
    exact ⟨_,_,.inl (af.of e1),gT Q5,.inl ⟨rfl,_,af.of f3⟩,l0,_,rfl,rfl,f3,zp _ _ ⟨rfl,rfl⟩⟩
   rintro σ' CH ⟨rfl,rfl⟩
   have e3:upd H9 l0 (.lst []) l=some (.lst (kb.map (·.2))):=by rw [aB Kz];exact e1
   have hk:(kb.map (·.2)).length - 1 < (kb.map (·.2)).length:=by rw [Ql];omega
   exact ⟨.inl ⟨rfl,_,af.of e3⟩,l,_,_,rfl,rfl,e3,Qa hk,_,_,rfl,((s7.trans s8).put (s7.free f2)).put (s7.free hl)⟩
  ·rintro σ' H7 ⟨v8,v9,rfl,s7⟩
   exact ⟨_,_,_,_,_,_,_,_,rfl,(Lv.same s7).mono (by omega)⟩
end
abbrev pw:=PySem.Challenge.pw_coilkind_k22_classes
abbrev we:=PySem.Challenge.rw_coilkind_k22_classes
def view:Program:={pw with main:={pw.main with body:=([1,2,3,4,6,7,8,9,10,11,13,14,15,16,17,19,20,21,22,23,24,25,26,27,28,29,30,31,32,33,34]:List Nat).filterMap fun i=>pw.main.body[i]?}}
def fns:List (Str×Stmt):=[⟨"heads_of",fV⟩,⟨"rows_of",jE⟩,⟨"names_in",fT⟩,⟨"steps_in",fQ⟩,⟨"moves_in",fW⟩,⟨"classes",jR⟩,⟨"class_numbers",dH⟩,⟨"sources_of",dQ⟩,⟨"part_by",jH⟩,⟨"_law_fill",i7⟩,⟨"_law_next",hX⟩,⟨"_law_turned",fU⟩,⟨"_law_words",eJ⟩,⟨"_law_head",fP⟩,⟨"_law_telling",fA⟩,⟨"_law_twin_head",cA⟩,⟨"_law_twin",hV⟩,⟨"_law_row_here",e8⟩,⟨"_law_head_here",dJ⟩,⟨"_law_on",fI⟩,⟨"_law_parting",cP⟩,⟨"law",jY⟩]
def vals:List (Str×V):=[]
def tups:List (Str×List V):=[⟨"WORDED",[.str "box",.str "pick"]⟩]
def Q6:List (Str×List sy):=[⟨"STEP_WORDS",[⟨"box",.inl (.str "part")⟩,⟨"pick",.inl (.str "case")⟩]⟩]
def aaj:List Str:=["len","isinstance","range","list","tuple","dict","sorted","zip"]
def lg:List (Str×List V):=[⟨"FROM",[.str "from"]⟩,⟨"TO",[.str "to"]⟩]
def Q7:List An:=[⟨"Net","Net.__init__",d7,["rows","heads","marks","moves"]⟩,⟨"Parting","Parting.__init__",eE,["members","number","waiting","waits"]⟩]
def Q8:List Au:=[⟨"Parting","begin","Parting.begin",cR⟩,⟨"Parting","put_off","Parting.put_off",d5⟩,⟨"Parting","take_waiting","Parting.take_waiting",bV⟩,⟨"Parting","part","Parting.part",eB⟩]
def look (K:Q1):=(A8 (without K (vn K lg)) fns,MQ (without K (vn K lg)) vals,A_ (without K (vn K lg)) tups,Jc (without K (vn K lg)) Q6,Dn (without K (vn K lg)) aaj,A_ K lg,decide (vn K lg).Nodup,Ds (without K (vn K lg)) Q7,DI (without K (vn K lg)) Q8)
def want (w:World):=(A9 fns,MR vals,Ba tups,Jd w Q6,true,Ba lg,true,Du Q7,DJ Q8)
theorem aak (w:World):(PySem.W.openEnds treeTable pw (w.withFollow "special-get-raises" false) 2972).map (fun s=>(PySem.W.openSeen view ["STEP_WORDS"] (PySem.importedModules pw.main.body) (fun s=>PySem.W.xlAt view [] s&&PySem.W.recOk [] s) true s,(xw look want).obs s))=some (PySem.W.openGood view ["STEP_WORDS"],(xw look want).val (w.withFollow "special-get-raises" false)):=by kernel_rfl
theorem aal (w:World):(PySem.W.openEnds treeTable pw (w.withFollow "special-get-raises" true) 2972).map (fun s=>(PySem.W.openSeen view ["STEP_WORDS"] (PySem.importedModules pw.main.body) (fun s=>PySem.W.xlAt view [] s&&PySem.W.recOk [] s) true s,(xw look want).obs s))=some (PySem.W.openGood view ["STEP_WORDS"],(xw look want).val (w.withFollow "special-get-raises" true)):=by kernel_rfl
theorem a0P {K:Q1} (X:K.In h) (G:h.Ns mainGlobals mg) (e:look K=want w):Xq K mg w:=by
 obtain ⟨eF,e⟩:=Prod.mk.inj e
 obtain ⟨eV,e⟩:=Prod.mk.inj e
 obtain ⟨eT,e⟩:=Prod.mk.inj e
 obtain ⟨eD,e⟩:=Prod.mk.inj e
 obtain ⟨eN,e⟩:=Prod.mk.inj e
 obtain ⟨eR,e⟩:=Prod.mk.inj e
 obtain ⟨eU,e⟩:=Prod.mk.inj e
 obtain ⟨eC,eM⟩:=Prod.mk.inj e
 obtain ⟨ts,r1,r2,r3⟩:=xA X G eR rfl
 have X':=rS (as:=vn K lg) X
 have rL:=u3 X G eR 0 (x:="FROM") rfl
 have JP:=u3 X G eR 1 (x:="TO") rfl
 obtain ⟨aan,abS,aao,aap,o8⟩:=VI X' G (pN eD 0 (x:="STEP_WORDS") rfl) rfl (by decide+kernel)
 obtain ⟨abT,rfl,aaq⟩:=MT aap
 obtain ⟨abU,rfl,aar⟩:=MT aaq
 obtain rfl:=VH aar
 refine ⟨ts,r2,by rw [r1];exact Qt eU,?_,fun H hH=>⟨wX (r3 0 "FROM" _ rfl) hH,wX (r3 1 "TO" _ rfl) hH⟩⟩
 rw [r1]
 exact ⟨nn X' G eN 0,
  nn X' G eN 1,
  nn X' G eN 2,
  nn X' G eN 3,
  nn X' G eN 4,
  nn X' G eN 5,
  nn X' G eN 6,
  nn X' G eN 7,
  tu X' G eT 0,
  rL,
  JP,
  ⟨aan,aao,o8⟩,
  Cj X' G eF 0,
  Cj X' G eF 1,
  Cj X' G eF 2,
  Cj X' G eF 3,
  vm X' G eF 4,
  Cj X' G eF 5,
  vm X' G eF 6,
  vm X' G eF 7,
  MS X' G eF 8,
  vm X' G eF 9,
  vm X' G eF 10,
  vm X' G eF 11,
  Cj X' G eF 12,
  MS X' G eF 13,
  vm X' G eF 14,
  vm X' G eF 15,
  vm X' G eF 16,
  vm X' G eF 17,
  vm X' G eF 18,
  vm X' G eF 19,
  VF X' G eF 20,
  Cj X' G eF 21,
  VL X' G eC 0,
  WA X' G eC 1,
  Jw X' G eM 0,
  Jw X' G eM 1,
  Wz X' G eM 2,
  Jw X' G eM 3⟩
def By:DefRec:=⟨"law",ni jY,jj jY,a_ jY,(match jY with | .FunctionDef _ _ _ _ _ _ _ _ _ p=>p | _=>⟨0,0,0,0⟩)⟩
theorem walk:PySem.W.WalkO view ["STEP_WORDS"] XP (xw look want).says we.row.toRowW By [] (fun f vs=>PySem.call f vs):=
 xN (l:=we) (n:=63) (k:=14) (x:="script") rfl (by decide) rfl ⟨rfl,by decide,by decide,rfl⟩ fun w mg fa h K X e G C9=>by
  obtain ⟨ts,xu,nd,T,hk⟩:=a0P X G e
  obtain ⟨f,fd,Fu,m,b⟩:=T.NK
  rw [show By.name="law" from rfl,m] at C9
  cases C9
  refine ⟨ts,fd,Ls (without K (ts.map (·.1))) mg,xu,nd,fun s u=>?_,fun base kb nb=>?_,fun H a ns hl ht hS=>⟨a,ns,rfl,hS,hl,hk H ht,fun _=>rfl⟩⟩
  ·refine hdn fun Gz9 zG9=>?_;obtain ⟨oc,od,kV,doc,pm,an,ay,ct,qy,rfl,lk,qm⟩:=Fu.ex;refine zG9 ?_
   exact .of_eq rfl
  ·refine hdn fun Gz9 zG9=>?_;obtain ⟨f',fd',G',m',k',b',oc',od',abX,Q9⟩:=(Z7 T:bj we.prog w (without K (ts.map (·.1))) mg base 14 "law" ["script"] (Ls (without K (ts.map (·.1))) mg));refine zG9 ?_
   rw [m] at m'
   cases m'
   have e:fd=fd':=by
    refine hdn fun Gz9 zG9=>?_;obtain ⟨oc,od,kV,doc,pm,an,ay,ct,qy,e1,lk,qm⟩:=Fu.ex;refine zG9 ?_
    rw [lk] at Q9
    have:=QE Q9
    injection this with _ _ h3 _
    injection h3
   rw [e];exact G'
theorem hdef:PySem.W.defOf view we.row.name=some (By,[]):=by kernel_rfl
theorem hprog:we.row.prog.theDef we.row.name=some (By.params,By.body,By.scope):=by kernel_rfl
theorem hkw:PySem.W.kwWritten? By.params.kwonlyargs By.params.kw_defaults=some []:=by kernel_rfl
theorem hok:(PySem.W.chainsOk view&&PySem.W.opensWell we.row.prog&&(PySem.W.frees we.row.toRowW&&we.row.within.isEmpty))=true:=by kernel_rfl
theorem hbare:we.row.prog.bare:=⟨rfl,rfl,rfl,rfl,rfl,by decide+kernel⟩
theorem aat:we.row.toRowW.promised:=by w_witness2
theorem said:we.wellSaid=true:=by
 refine zY (p:=pw) rfl ?_ ?_ ?_ ?_ ?_ ?_ ?_ ?_ ?_ ?_ ?_ ?_ ?_ ?_ ?_ ?_ ?_ ?_ ?_ ?_ ?_ ?_ ?_ ?_ ?_ ?_ ?_ ?_<;>kernel_rfl
end T1
open PySem PySem.W PyProof.Rows L2
set_option maxRecDepth 100000 in
set_option maxHeartbeats 0 in
theorem PySem.Challenge.cw_coilkind_k22_classes_holds : PySem.Challenge.rw_coilkind_k22_classes.Holds := by
 refine PySem.W.holds_law T1.said fun said=>?_
 exact PySem.W.holds_open (q:=T1.view) (loose:=["STEP_WORDS"]) (Xt:=fun s=>xlAt T1.view [] s&&recOk [] s) (XP:=XL T1.view []) (Yf:=(xw T1.look T1.want).obs) (Ya:=(xw T1.look T1.want).val) (YP:=(xw T1.look T1.want).says) (N:=2972)
  (yR "special-get-raises" T1.aak T1.aal) (xw T1.look T1.want).of (xw T1.look T1.want).keeps (fun s e=>xl_of s (Bool.and_eq_true_iff.mp e).1) XL.keeps T1.hdef T1.hprog T1.hkw (fun s e=>recFacts_of (Bool.and_eq_true_iff.mp e).2) rfl (by assumption) T1.hok T1.hbare T1.aat T1.walk
