import PyProof.Rows.All
import Wide.All
import OpenK.AllK
import Wide.FinOn
import Lean
import PyProof.EqAt
import PyProof.EqKinds
import PyProof.TupleCall
import PyProof.DictCompW
import PyProof.AutoListH
import PyProof.EnumMake
import PyProof.ZipIter
import PyProof.AttrMissSeq
import KE.KDictOf
import PyProof.ReprLen
import PyProof.StrLawsRepr
import KE.KUnpackStar
import PyProof.DictWalks
import PyProof.Rows.DictUnroll
import PyProof.Rows.Range3
import PyProof.Rows.ChunkEnd
import PyProof.Rows.ChunkLeaf
import PyProof.StrCalls2
import PyProof.StrLawsTight
import PyProof.StrLawsChain
import PyProof.Rows.StrSplitJoin
import PyProof.Conv_int_bool
import PyProof.Rows.TupMore
import KE.KItemsList
import PyProof.NeKinds
import PyProof.StrLawsIn
import PyProof.Rows.StrCut
import PyProof.StrCalls
import PyProof.CallFns
import PyProof.FString5
import PyProof.NsCount
import PyProof.DictItems
import KE.KPairComp
import PyProof.ExcClass3
import PyProof.ExcInit
import OpenK.KMake
import OpenK.KCls
import PyProof.InstStoreFacts
import PyProof.StationsW
import PyProof.RulesAs
import PyProof.NsDelKeeps
import PyProof.ExcAttrAll.ValueError
import PyProof.DictValues
import PyProof.SumWalk
import PyProof.ConsumeWalk
import PyProof.SumAny
import KE.KRevIter
import PyProof.FactsAll.range_2
import PyProof.WalksMore
import PyProof.MinMaxWalk
import PyProof.SeqI3
import KE.KDictList
import KE.KDictLaws
import PyProof.Rows.FStr
import KE.KStrOpen
import PySem.Challenge.RW_coilkind_k07_rows_that_are_no_telling
set_option Elab.async false
set_option linter.all false
set_option maxRecDepth 100000
section
open PySem PySem.Spec PyProof.Rows
abbrev Qa := @List.getElem?_eq_getElem
abbrev Qb := @List.getD_eq_getElem?_getD
abbrev Qc := @Heap.get?_push_of_some
abbrev Qd := @Heap.get?_push_size
abbrev Qe := @List.getElem_append_left
abbrev Qf := @List.getElem_append_right
abbrev Qg := @List.getElem?_append_left
abbrev Qh := @List.mem_cons_of_mem
abbrev Qi := @List.getElem_of_mem
abbrev Qj := @List.getElem_mem
abbrev Qk := @List.length_append
abbrev Ql := @List.length_map
abbrev Qm := @List.map_append
abbrev Qn := @List.map_map
abbrev Qo := @List.take_length
abbrev Qp := @List.mem_cons
abbrev Qq := @List.getElem?_map
abbrev Qr := @List.getElem_map
abbrev Qs := @List.take_add_one
abbrev Qt := @of_decide_eq_true
abbrev Qu := @of_decide_eq_false
abbrev Qv := @decide_eq_true
abbrev Qw := @decide_eq_false
abbrev Qx := @Nat.lt_of_succ_lt
abbrev Qy := @Nat.le_refl
abbrev Qz := @Heap.lt_size
abbrev QA := @List.mem_nil_iff
abbrev QC := @List.mem_of_getElem?
abbrev QD := @Option.some.inj
abbrev QE := @Bool.false_xor
abbrev QF := @List.all_eq_true
abbrev QG := @PyProof.Rows.boot_tuple
abbrev QH := @PySem.F.plainAttrs_list
abbrev QI := @PySem.F.slot_list_append
abbrev QJ := @PySem.F.type_list_append
abbrev QK := @sizeLine_eq
abbrev QL := @Str.ofString
abbrev QR := @List.eq_nil_of_length_eq_zero
abbrev QS := @wpAny_bind
abbrev QT := @wpAny_pure
abbrev QW := @PyProof.Rows.boot_all
abbrev QZ := PySem.W.Frag
end
variable {us:List PySem.Value} {u v:PySem.Value} {a b p f C:PySem.Addr} {h h' base:PySem.Heap} {P prog:PySem.Program} {w:PySem.World} {α:Type} {e tg:PySem.Expr} {pins:List (PySem.Addr×PySem.Obj)} {s:PySem.Shared} {t' i j n c:Nat} {ch fp:List PySem.Addr} {N ps loose own N' ss ns ws:List PySem.Str} {x name qual y z:PySem.Str} {M:PySem.Model} {A:PySem.Around} {E Q:PySem.Value->PySem.Shared->Prop} {op:PySem.CmpOp} {rest es ifs zd:List PySem.Expr} {mA mg:PySem.Str->Option PySem.Value} {env:PySem.Env} {kw:List (PySem.Str×PySem.Value)} {fd:PySem.FuncData} {outer:List PySem.Env} {apos cpos:PySem.Pos} {sc scope:PySem.Scope} {T:String} {XP:(PySem.Str->Option PySem.Value)->PySem.Heap->Prop} {idx:List Nat} {cl:List (PySem.Str×PySem.Addr)} {R:PySem.Result->PySem.Shared->Prop} {dct:Option PySem.Addr}
theorem hdn {p:Prop} (h:∀ G:Prop,(p->G)->G):p:=h p id
namespace L2
open PySem PySem.Spec PyProof.Rows
abbrev Key:=Sum Int Str
end L2
variable {xs:List (List L2.Key×PySem.Addr×PySem.Value)} {vs:List (L2.Key×PySem.Value)}
namespace L2
open PySem PySem.Spec PyProof.Rows
def ze:Key->Value->Bool
 | .inl k,v=>Value.isInt k v
 | .inr x,v=>Value.isStrOf x v
def AF (w:World):Key->Int
 | .inl k=>hashInt k
 | .inr x=>hashStr w x
theorem bD:∀ {k:Key} {v:Value},ze k v=true->(∃ i t,k=Sum.inl i/\v=Value.int i t)\/(∃ x t,k=Sum.inr x/\v=Value.str x t)
 | .inl i,v,h=>by
  obtain ⟨t,e⟩:=Value.isInt_shape (k:=i) (v:=v) h
  exact .inl ⟨i,t,rfl,e⟩
 | .inr x,v,h=>by
  obtain ⟨t,e⟩:=Value.isStrOf_shape (x:=x) (v:=v) h
  exact .inr ⟨x,t,rfl,e⟩
theorem tO (i:Int) (t:Tok):ze (.inl i) (.int i t)=true:=by simp [ze,Value.isInt]
theorem sZ (x:Str) (t:Tok):ze (.inr x) (.str x t)=true:=by simp [ze,Value.isStrOf]
theorem Jd (a b:Int):decide ((Sum.inl a:Key)=Sum.inl b)=(a==b):=by
 by_cases e:a=b
 ·subst e;simp
 ·have h:¬(Sum.inl a:Key)=Sum.inl b:=fun q=>e (Sum.inl.inj q)
  rw [Qw h]
  exact (beq_eq_false_iff_ne.mpr e).symm
theorem yQ (a b:Str):decide ((Sum.inr a:Key)=Sum.inr b)=decide (a=b):=by
 by_cases e:a=b
 ·subst e;simp
 ·have h:¬(Sum.inr a:Key)=Sum.inr b:=fun q=>e (Sum.inr.inj q)
  rw [Qw h,Qw e]
theorem Je (a:Int) (b:Str):decide ((Sum.inl a:Key)=Sum.inr b)=false:=Qw (fun q=>nomatch q)
theorem yB (a:Str) (b:Int):decide ((Sum.inr a:Key)=Sum.inl b)=false:=Qw (fun q=>nomatch q)
def dh (prog:Program) (w:World):PySem.KeyKind prog w Key where
 is:=ze
 hash:=AF w
 inj:=fun v a b ha hb=>by
  rcases bD ha with ⟨i,t,rfl,rfl⟩ | ⟨x,t,rfl,rfl⟩
  ·rcases bD hb with ⟨j,u,rfl,e⟩ | ⟨y,u,rfl,e⟩
   ·injection e with e1 _;rw [e1]
   ·exact nomatch e
  ·rcases bD hb with ⟨j,u,rfl,e⟩ | ⟨y,u,rfl,e⟩
   ·exact nomatch e
   ·injection e with e1 _;rw [e1]
 byValue:=fun k v h=>by
  rcases bD h with ⟨i,t,rfl,rfl⟩ | ⟨x,t,rfl,rfl⟩<;>rfl
 pyHash:=fun hv h=>by
  rcases bD hv with ⟨i,t,rfl,rfl⟩ | ⟨x,t,rfl,rfl⟩
  ·exact wpAny_pyHash_int h
  ·exact wpAny_pyHash_str h
 eqBool:=fun hu hv h=>by
  rcases bD hu with ⟨i,t,rfl,rfl⟩ | ⟨x,t,rfl,rfl⟩
  ·rcases bD hv with ⟨j,u,rfl,rfl⟩ | ⟨y,u,rfl,rfl⟩
   ·rw [Jd] at h;exact wpAny_eqBool_int h
   ·rw [Je] at h;exact SeqAt.EqAt.int_str i t y u _ _ _ _ h
  ·rcases bD hv with ⟨j,u,rfl,rfl⟩ | ⟨y,u,rfl,rfl⟩
   ·rw [yB] at h;exact SeqAt.EqAt.str_int x t j u _ _ _ _ h
   ·rw [yQ] at h;exact wpAny_eqBool_str h
 «strs»:=fun k x t v h=>by
  rcases bD h with ⟨i,u,rfl,e⟩ | ⟨y,u,rfl,e⟩
  ·exact nomatch e
  ·injection e with e1 _
   subst e1
   cases v<;>rfl
theorem oV (prog:Program) (w:World) (i:Int) (t:Tok):(dh prog w).is (.inl i) (.int i t)=true:=tO i t
theorem fH (prog:Program) (w:World) (x:Str) (t:Tok):(dh prog w).is (.inr x) (.str x t)=true:=sZ x t
inductive V where
 | af | bl (b:Bool) | int (i:Int) | str (x:Str) | jq (b:Array UInt8) | wo (b:UInt64) | ref (a:Addr) | ty (n:String)
 deriving DecidableEq
def RelV:V->Value->Prop
 | .af,u=>u=Value.none
 | .bl b,u=>u=Value.bool b
 | .int i,u=>∃ t,u=Value.int i t
 | .str x,u=>∃ t,u=Value.str x t
 | .jq b,u=>∃ t,u=Value.bytes b t
 | .wo b,u=>∃ t,u=Value.float b t
 | .ref a,u=>u=Value.ref a
 | .ty n,u=>u=Value.type n
abbrev aq:List V->List Value->Prop:=Paired RelV
theorem aq.length {xs:List V} {us:List Value} (r:aq xs us):xs.length=us.length:=Paired.length r
theorem aq.get:∀ {xs:List V} {us:List Value} {i:Nat} {x:V},aq xs us->xs[i]? =some x->∃ u,us[i]? =some u/\RelV x u
 | _,_,_,_,.nil,e=>by simp at e
 | _,_,0,_,.cons r _,e=>by simp at e;subst e;exact ⟨_,rfl,r⟩
 | _,_,i+1,x,.cons _ t,e=>by
  obtain ⟨u,h1,h2⟩:=aq.get (i:=i) (x:=x) t (by simpa using e)
  exact ⟨u,by simpa using h1,h2⟩
theorem aq.set {x:V} {u:Value} (r:RelV x u):∀ {xs:List V} {us:List Value} (i:Nat),aq xs us->aq (xs.set i x) (us.set i u)
 | _,_,_,.nil=>.nil
 | _,_,0,.cons _ t=>.cons r t
 | _,_,i+1,.cons q t=>.cons q (aq.set r i t)
theorem aq.append:∀ {xs ys:List V} {us ws:List Value},aq xs us->aq ys ws->aq (xs++ys) (us++ws)
 | _,_,_,_,.nil,s=>s
 | _,_,_,_,.cons r t,s=>.cons r (aq.append t s)
theorem aq.take:∀ {xs:List V} {us:List Value} (n:Nat),aq xs us->aq (xs.take n) (us.take n)
 | _,_,0,_=>.nil
 | _,_,_+1,.nil=>.nil
 | _,_,n+1,.cons r t=>.cons r (aq.take n t)
theorem aq.drop:∀ {xs:List V} {us:List Value} (n:Nat),aq xs us->aq (xs.drop n) (us.drop n)
 | _,_,0,r=>r
 | _,_,_+1,.nil=>.nil
 | _,_,n+1,.cons _ t=>aq.drop n t
def iq:Option V->Option Value->Prop
 | some v,some u=>RelV v u
 | none,none=>True
 | _,_=>False
def KV {κ:Type}:List (κ×V)->List (κ×Value)->Prop:=Paired fun (p:κ×V) (q:κ×Value)=>p.1=q.1/\RelV p.2 q.2
def kV:Key->V
 | .inl i=>.int i
 | .inr x=>.str x
inductive HO where
  | lst (xs:List V)
  | tup (xs:List V)
  | dK (kvs:List (Key×V)) | dT (kvs:List (List Key×V))
  | set (S:Int->Bool) (n:Nat)
  | ins (C dx:Addr) (fs:List (Str×V))
  | own (x:Addr)
  | xd (fs:List (Str×V))
  | met (f x:Addr)
  | BP (lo hi:Int)
  | bq (o:Obj) (u:HO)
  | uq (ps:Array Value)
  | ext (φ:Heap->Prop)
abbrev Hp:=Addr->Option HO
end L2
variable {H H':L2.Hp} {o:L2.HO}
namespace L2
open PySem PySem.Spec PyProof.Rows
def upd (H:Hp) (a:Addr) (o:HO):Hp:=fun b=>if b=a then some o else H b
theorem aA:upd H a o a=some o:=by unfold upd;rw [if_pos rfl]
theorem aF (h:b≠a):upd H a o b=H b:=by unfold upd;rw [if_neg h]
theorem jA {u:HO}:upd (upd H a o) a u=upd H a u:=by
 funext b;unfold upd;split<;>rfl
theorem oZ {u:HO} (h:H a=some o) (h':H b=some u) (d:o≠u):a≠b:=by
 intro e;subst e;rw [h] at h';exact d (QD h')
theorem aJ (h:H a=some o) (h':H b=none):a≠b:=by
 intro e;subst e;rw [h] at h';cases h'
def zf (h:Heap) (a:Addr):Prop:=∀ o,h.get? a=some o->o.dict=none
theorem zf.new {ob:Obj} (h0:ob.isFreed=false) (hd:ob.dict=none):zf (h.push ob) h.objs.size:=fun o q=>by rw [Qd _ h0] at q;cases q;exact hd
def kg (H:Hp) (b:Addr) (ys:List V):Prop:=H b=some (.tup ys)\/∃ o,H b=some (.bq o (.tup ys))
theorem kg.upd {H:Hp} {b a:Addr} {ys:List V} {o:HO} (r:kg H b ys) (ne:∀ u,H b=some u->b≠a):kg (L2.upd H a o) b ys:=by
 rcases r with r | ⟨ob,r⟩
 ·exact .inl (by rw [aF (ne _ r)];exact r)
 ·exact .inr ⟨ob,by rw [aF (ne _ r)];exact r⟩
section
variable (P:Program) (w:World)
def a_ (H:Hp) (h:Heap) (a:Addr):HO->Prop
 | .lst xs=>xs.length<=sizeLine/\∃ (its:List Value) (n:Nat),aq xs its/\h.get? a=some {cls:=.type "list",data:=.seq its.toArray n}
 | .tup xs=>(xs.length<=sizeLine/\zf h a)/\∃ its:List Value,aq xs its/\IsTup h a its.toArray
 | .dK kvs=>kvs.length<=sizeLine/\(a==sysModules)=false/\∃ vs,KV kvs vs/\h.DictOf (dh P w) a vs
 | .dT kvs=>kvs.length<=sizeLine/\(a==sysModules)=false/\∃ xs:List (List Key×Addr×Value),
   Paired (fun (p:List Key×V) (q:List Key×Addr×Value)=>p.1=q.1/\kg H q.2.1 (p.1.map kV)/\RelV p.2 q.2.2) kvs xs/\
   ∃ o es ep,h.get? a=some o/\o.ExactDict/\o.data=.dict es ep/\es.toList=xs.map (entryOfKey (tupleKind (dh P w)))/\(xs.map (·.1)).Nodup
 | .set S n=>h.SetOf (intKind P w) a S n
 | .ins C dx fs=>H dx=some (.own a)/\fs.length<=1000/\dx≠a/\h.get? a=some (PySem.W.instObj C dx)/\
   ∃ mA,h.Ns1 dx mA/\(∀ f,iq (fs.lookup f) (mA f))/\PySem.Within mA (fs.map (·.1))
 | .own _=>∃ o,h.get? a=some o
 | .xd fs=>∃ mA,h.Ns1 a mA/\∀ f,iq (fs.lookup f) (mA f)
 | .BP lo hi=>∃ t u v,h.get? a=some {cls:=.type "range",data:=.fields #[.int lo t,.int hi u,.int 1 v]}
 | .bq o u=>h.get? a=some o/\a_ H h a u
 | .uq ps=>h.get? a=some {cls:=.none,data:=.fields ps}
 | .met f x=>h.get? a=some (PySem.W.methodObj (.ref f) (.ref x))
 | .ext φ=>φ h/\(∃ o,h.get? a=some o)/\∀ h1 h2:Heap,φ h1->(∀ o,h1.get? a=some o->h2.get? a=some o)->φ h2
def bh (H:Hp) (h:Heap):Prop:=∀ a o,H a=some o->a_ P w H h a o
end
theorem a_.lt (x:a_ P w H h a o):a < h.objs.size:=by
 cases o with
 | lst xs=>obtain ⟨_,_,_,_,e⟩:=x;exact Qz e
 | tup xs=>obtain ⟨_,_,_,p⟩:=x;exact p.lt
 | dK kvs=>obtain ⟨_,_,_,_,o,_,_,e,_⟩:=x;exact Qz e
 | dT kvs=>obtain ⟨_,_,_,_,o,_,_,e,_⟩:=x;exact Qz e
 | set S n=>obtain ⟨o,_,_,_,e,_⟩:=x;exact Qz e
 | ins C dx fs=>obtain ⟨_,_,_,e,_⟩:=x;exact Qz e
 | own y=>obtain ⟨_,e⟩:=x;exact Qz e
 | xd fs=>obtain ⟨_,⟨_,_,_,e,_⟩,_⟩:=x;exact Qz e
 | BP lo hi=>obtain ⟨_,_,_,e⟩:=x;exact Qz e
 | bq ob u=>obtain ⟨e,_⟩:=x;exact Qz e
 | uq ps=>exact Qz (show h.get? a=some _ from x)
 | met f y=>exact Qz (show h.get? a=some _ from x)
 | ext φ=>obtain ⟨_,⟨_,e⟩,_⟩:=x;exact Qz e
theorem Paired.Dg {α β:Type} {F G:α->β->Prop}:∀ {l₁:List α} {l₂:List β},Paired F l₁ l₂->(∀ a b,F a b->G a b)->Paired G l₁ l₂
 | _,_,.nil,_=>.nil
 | _,_,.cons r t,f=>.cons (f _ _ r) (Paired.Dg t f)
theorem a_.stay (x:a_ P w H h a o) (k:∀ b u,(b=a\/H b=some (.own a))->h.get? b=some u->h'.get? b=some u)
  (ho:∀ b,H b=some (.own a)->H' b=some (.own a)) (ht:∀ b xs,kg H b xs->kg H' b xs):a_ P w H' h' a o:=by
 induction o with
 | lst xs=>obtain ⟨z,its,n,r,e⟩:=x;exact ⟨z,its,n,r,k _ _ (.inl rfl) e⟩
 | tup xs=>obtain ⟨⟨z,nd⟩,its,r,ob,e,c⟩:=x;exact ⟨⟨z,fun o q=>by rw [k _ _ (.inl rfl) e] at q;cases q;exact nd _ e⟩,its,r,ob,k _ _ (.inl rfl) e,c⟩
 | dK kvs=>obtain ⟨z,y,vs,r,ob,es,ep,e,c⟩:=x;exact ⟨z,y,vs,r,ob,es,ep,k _ _ (.inl rfl) e,c⟩
 | dT kvs=>
  obtain ⟨z,y,xs,r,ob,es,ep,e,c⟩:=x
  exact ⟨z,y,xs,Paired.Dg r fun p q z=>⟨z.1,ht _ _ z.2.1,z.2.2⟩,ob,es,ep,k _ _ (.inl rfl) e,c⟩
 | set S n=>obtain ⟨ob,es,ep,t,e,c⟩:=x;exact ⟨ob,es,ep,t,k _ _ (.inl rfl) e,c⟩
 | ins C dx fs=>
  obtain ⟨d,z,ne,e,mA,⟨od,es,ep,e2,c⟩,r⟩:=x
  exact ⟨ho _ d,z,ne,k _ _ (.inl rfl) e,mA,⟨od,es,ep,k _ _ (.inr d) e2,c⟩,r⟩
 | own y=>obtain ⟨ob,e⟩:=x;exact ⟨ob,k _ _ (.inl rfl) e⟩
 | xd fs=>obtain ⟨mA,⟨od,es,ep,e,c⟩,r⟩:=x;exact ⟨mA,⟨od,es,ep,k _ _ (.inl rfl) e,c⟩,r⟩
 | BP lo hi=>obtain ⟨t,u,v,e⟩:=x;exact ⟨t,u,v,k _ _ (.inl rfl) e⟩
 | bq ob u ih=>obtain ⟨e,q⟩:=x;exact ⟨k _ _ (.inl rfl) e,ih q⟩
 | uq ps=>
  have e:h.get? a=some {cls:=.none,data:=.fields ps}:=x
  show h'.get? a=some {cls:=.none,data:=.fields ps}
  exact k a _ (.inl rfl) e
 | met f y=>
  have e:h.get? a=some (PySem.W.methodObj (.ref f) (.ref y)):=x
  show h'.get? a=some (PySem.W.methodObj (.ref f) (.ref y))
  exact k a _ (.inl rfl) e
 | ext φ=>obtain ⟨p,⟨o,e⟩,st⟩:=x;exact ⟨st _ _ p fun o q=>k _ _ (.inl rfl) q,⟨o,k _ _ (.inl rfl) e⟩,st⟩
theorem bh.lt (x:bh P w H h) (e:H a=some o):a < h.objs.size:=(x a o e).lt
theorem bh.fresh (x:bh P w H h) (e:h.objs.size<=a):H a=none:=by
 cases q:H a with
 | none=>rfl
 | some u=>exact absurd (Nat.lt_of_lt_of_le (x.lt q) e) (Nat.lt_irrefl _)
theorem bh.kept (x:bh P w H h) (k:∀ b u,h.get? b=some u->h'.get? b=some u):bh P w H h':=fun a o e=>
 (x a o e).stay (fun b u _ q=>k b u q) (fun _ q=>q) fun _ _ q=>q
theorem bh.laid (x:bh P w H h) (k:∀ b u,h.get? b=some u->h'.get? b=some u) (hp:h.objs.size<=a) (new:a_ P w (upd H a o) h' a o):bh P w (upd H a o) h':=fun b u e=>by
 have hn:=x.fresh hp
 by_cases hb:b=a
 ·subst hb;rw [aA] at e;cases e;exact new
 ·rw [aF hb] at e
  exact (x b u e).stay (fun c v _ q=>k c v q) (fun c q=>by rw [aF (aJ q hn)];exact q) fun c xs q=>q.upd fun u hu=>aJ hu hn
def Rd (H:Hp) (a:Addr) (u:HO):Prop:=H a=some u\/∃ o,H a=some (.bq o u)
theorem Rd.ok {u:HO} (r:Rd H a u) (x:bh P w H h):a_ P w H h a u:=by
 rcases r with r | ⟨o,r⟩
 ·exact x a u r
 ·obtain ⟨_,q⟩:=x a _ r
  exact q
def zh:Option HO->Prop
 | some (.lst _)=>True
 | some (.dK _)=>True
 | some (.dT _)=>True
 | some (.set _ _)=>True
 | some (.ins _ _ _)=>True
 | some (.ext _)=>True
 | _=>False
section
variable {x e:Addr} {o':HO}
theorem bh.write (ok:bh P w H h) (mu:zh (H x)) (he:e=x\/H e=some (.own x)) (k:∀ b u,b≠e->h.get? b=some u->h'.get? b=some u) (rq:∃ u,h'.get? e=some u)
  (new:a_ P w (upd H x o') h' x o'):bh P w (upd H x o') h':=fun b u q=>by
 have Ff:∀ c y,H c=some (.own y)->c≠x:=fun c y r z=>by subst z;rw [r] at mu;exact mu
 have OE:∀ c xs,H c=some (.tup xs)->c≠x:=fun c xs r z=>by subst z;rw [r] at mu;exact mu
 by_cases hb:b=x
 ·subst hb;rw [aA] at q;cases q;exact new
 ·rw [aF hb] at q
  by_cases wq:b=e
  ·have q':H b=some (.own x):=by
    rcases he with z | z
    ·exact absurd (wq.trans z) hb
    ·rw [wq];exact z
   rw [q] at q';cases q'
   obtain ⟨v,hv⟩:=rq
   exact ⟨v,by rw [wq];exact hv⟩
  ·refine (ok b u q).stay (fun c v hc r=>k c v ?_ r) (fun c r=>by rw [aF (Ff c b r)];exact r) fun c xs r=>r.upd fun _ _ z=>by
    subst z
    rcases r with r | ⟨_,r⟩<;>(rw [r] at mu;exact mu)
   rcases hc with rfl | hc
   ·exact wq
   ·rintro rfl
    rcases he with z | z
    ·exact Ff c b hc z
    ·rw [hc] at z;cases z;exact hb rfl
end
structure Un (fs ex:List Addr) (H H':Hp) (h h':Heap):Prop where
 keep:∀ b o,h.get? b=some o->H b=none->b ∉ fs->b ∉ ex->h'.get? b=some o
 slot:∀ b o,h.get? b=some o->H b=none->b∈fs->b ∉ ex->∃ sl,h'.get? b=some {o with slots:=sl}
 free:∀ b o,h.get? b=some o->H b=none->b ∉ ex->H' b=none
 there:∀ b o,h.get? b=some o->b ∉ ex->∃ o',h'.get? b=some o'
 tups:∀ b xs,H b=some (.tup xs)->H' b=some (.tup xs)
 ir:∀ b o u,H b=some (.bq o u)->H' b=some (.bq o u)
 jg:∀ b ps,H b=some (.uq ps)->∃ more,H' b=some (.uq (ps++more))
section
variable {fs Jf ex OF:List Addr} {H1 H2:Hp} {h1 h2:Heap} {x e:Addr}
theorem Un.any (u:Un fs ex H H1 h h1) {ob:Obj} (q:h.get? b=some ob) (n:H b=none) (hx:b ∉ ex):∃ sl,h1.get? b=some {ob with slots:=sl}:=by
 by_cases hb:b∈fs
 ·exact u.slot b ob q n hb hx
 ·exact ⟨ob.slots,u.keep b ob q n hb hx⟩
theorem Un.trans (a:Un fs ex H H1 h h1) (b:Un fs ex H1 H2 h1 h2):Un fs ex H H2 h h2 where
 keep:=fun c ob q n hc hx=>b.keep c ob (a.keep c ob q n hc hx) (a.free c ob q n hx) hc hx
 slot:=fun c ob q n hc hx=>by
  obtain ⟨sl,e1⟩:=a.slot c ob q n hc hx
  obtain ⟨AG,e2⟩:=b.slot c _ e1 (a.free c ob q n hx) hc hx
  exact ⟨AG,e2⟩
 free:=fun c ob q n hx=>by
  obtain ⟨o',e1⟩:=a.there c ob q hx
  exact b.free c o' e1 (a.free c ob q n hx) hx
 there:=fun c ob q hx=>by
  obtain ⟨o',e1⟩:=a.there c ob q hx
  exact b.there c o' e1 hx
 tups:=fun c xs q=>b.tups c xs (a.tups c xs q)
 ir:=fun c ob xs q=>b.ir c ob xs (a.ir c ob xs q)
 jg:=fun c ps q=>by
  obtain ⟨m1,e1⟩:=a.jg c ps q
  obtain ⟨m2,e2⟩:=b.jg c _ e1
  exact ⟨m1++m2,by rw [e2,Array.append_assoc]⟩
theorem Un.kept (k:∀ b u,h.get? b=some u->h'.get? b=some u):Un fs ex H H h h':=
 ⟨fun b ob q _ _ _=>k b ob q,fun b ob q _ _ _=>⟨ob.slots,k b ob q⟩,fun _ _ _ n _=>n,fun b ob q _=>⟨ob,k b ob q⟩,fun _ _ q=>q,fun _ _ _ q=>q,fun _ ps q=>⟨#[],by rw [q];simp⟩⟩
theorem Un.refl:Un fs ex H H h h:=Un.kept fun _ _ q=>q
theorem Un.laid (k:∀ b u,h.get? b=some u->h'.get? b=some u) (hp:h.objs.size<=a) (hn:H a=none):Un fs ex H (upd H a o) h h' where
 keep:=fun b u q _ _ _=>k b u q
 slot:=fun b u q _ _ _=>⟨u.slots,k b u q⟩
 free:=fun b u q n _=>by rw [aF (Nat.ne_of_lt (Nat.lt_of_lt_of_le (Qz q) hp))];exact n
 there:=fun b u q _=>⟨u,k b u q⟩
 tups:=fun b xs q=>by rw [aF (aJ q hn)];exact q
 ir:=fun b u xs q=>by rw [aF (aJ q hn)];exact q
 jg:=fun b ps q=>⟨#[],by rw [aF (aJ q hn),q];simp⟩
theorem Un.write (mu:zh (H x)) (he:e=x\/H e=some (.own x)) (k:∀ b u,b≠e->h.get? b=some u->h'.get? b=some u) (rq:∃ u,h'.get? e=some u):Un fs ex H (upd H x o) h h':=by
 have hx:∀ b,H b=none->b≠x:=fun b n z=>by subst z;rw [n] at mu;exact mu
 have hb:∀ b,H b=none->b≠e:=fun b n z=>by
  subst z
  rcases he with r | r
  ·exact hx b n r
  ·rw [n] at r;cases r
 have hm:∀ b u,H b=some u->¬zh (some u)->b≠x:=fun b u q nm z=>by subst z;rw [q] at mu;exact nm mu
 refine ⟨fun b u q n _ _=>k b u (hb b n) q,fun b u q n _ _=>⟨u.slots,k b u (hb b n) q⟩,fun b u q n _=>by rw [aF (hx b n)];exact n,fun b u q _=>?_,
  fun b xs q=>by rw [aF (hm b _ q fun z=>z)];exact q,fun b u xs q=>by rw [aF (hm b _ q fun z=>z)];exact q,fun b ps q=>⟨#[],by rw [aF (hm b _ q fun z=>z),q];simp⟩⟩
 by_cases wq:b=e
 ·subst wq;exact rq
 ·exact ⟨u,k b u wq q⟩
end
def zj (h:Heap) (H:Hp):List Addr:=(List.range h.objs.size).filter fun a=>(H a).isSome
def r_ (h:Heap) (H:Hp):Heap:=PySem.W.hideAll h (zj h H)
theorem tN (h:Heap) (H:Hp):(r_ h H).objs.size=h.objs.size:=PySem.W.hideAll_size _ _
theorem vI {o:Obj} (e:h.get? b=some o) (n:H b=none):(r_ h H).get? b=some o:=
 PySem.W.hideAll_get _ e fun hm=>by
  have q:(H b).isSome=true:=(List.mem_filter.mp hm).2
  rw [n] at q;simp at q
theorem xS {o:Obj} (e:(r_ h H).get? b=some o):h.get? b=some o/\H b=none:=by
 have e':h.get? b=some o:=PySem.W.of_hideAll (zj h H) e
 refine ⟨e',?_⟩
 cases q:H b with
 | none=>rfl
 | some x=>
  have hm:b∈zj h H:=List.mem_filter.mpr ⟨List.mem_range.mpr (Qz e'),by simp [q]⟩
  have z:(r_ h H).get? b=none:=PySem.W.hideAll_none (zj h H) hm
  rw [z] at e;cases e
structure Mod (K:QZ) (mg:Str->Option Value) (base:Heap):Prop where
 zk:K.In base
 glob:base.Ns mainGlobals mg
 blt:∃ mb,base.Ns builtinsNs mb/\∀ x:Str,x≠"__name__"->mb x=bootBuiltins x
 nolimit:base.NoLimit
structure Cx where
 prog:Program
 w:World
 K:QZ
 mg:Str->Option Value
 base:Heap
 A:Around
 N:List Str
 s₀:Shared
 H₀:Hp
 env:Env
 outer:List Env
 stack:List Env
 ex:List Addr
 fn:Str->Bool
 calm:Bool
 pn:List (Addr×Obj)
 xe:Value->Shared->Prop
end L2
variable {X:L2.Cx}
namespace L2
open PySem PySem.Spec PyProof.Rows
def dm (l:List Env):List Addr:=l.filterMap (·.frame)
abbrev Cx.fs (X:Cx):List Addr:=dm X.outer
def AH (sc:Scope) (x:Str):Prop:=sc.names.lookup x=some .local\/sc.names.lookup x=some .cell\/sc.names.lookup x=some .free
def Loc (sc:Scope) (x:Str):Prop:=sc.names.lookup x=some .local\/sc.names.lookup x=some .cell
def Look (env:Env) (h:Heap) (m:Str->Option Value) (x:Str) (u:Value):Prop:=
 (env.kindOf x=some .local/\m x=some u)\/((env.kindOf x=some .cell\/env.kindOf x=some .free)/\∃ c,env.cells.lookup x=some c/\h.IsCell c (some u))
structure Cx.Ok (X:Cx):Prop where
 mod:Mod X.K X.mg X.base
 kind:X.env.scope.kind=.function
 glob:X.env.globals=mainGlobals
 blt:X.env.builtins=builtinsNs
 above:X.s₀.heap.objs.size<=X.env.locals
 inj:∀ x y c,X.env.cells.lookup x=some c->X.env.cells.lookup y=some c->x=y
 has:∀ x,(X.env.kindOf x=some .cell\/X.env.kindOf x=some .free)->∃ c,X.env.cells.lookup x=some c
 wu:∀ x c,X.fn x=true->X.env.cells.lookup x=some c->X.s₀.heap.objs.size<=c
 hd:X.calm=true->X.A.handled=none
 frames:X.A.frames=some X.stack
 zm:X.stack=X.outer\/(X.stack=X.env::X.outer/\X.env.frame=some X.env.locals)
 BQ:∀ b∈X.ex,b≠X.env.locals/\∀ x c,X.env.cells.lookup x=some c->c≠b
 bs:∀ b o,X.base.get? b=some o->X.s₀.heap.get? b=some o/\X.H₀ b=none
 nc:X.base.objs.size<=X.s₀.heap.objs.size
 wx:∀ b o,X.base.get? b=some o->b ∉ X.ex
 zo:∀ b∈X.ex,b ∉ X.fs
 jr:X.s₀.heap.FunFrames X.base X.outer
 sj:∀ b∈X.fs,X.H₀ b=none
structure Inv (X:Cx) (pins:List (Addr×Obj)) (σ:List (Option V)) (H:Hp) (s:Shared):Prop where
 ok:X.Ok
 os:s.os=X.s₀.os
 bare:AllBare s.gens
 base:Un X.fs X.ex X.H₀ H X.s₀.heap s.heap
 loc:∃ m,s.heap.Ns X.env.locals m/\∀ (i:Nat) (x:Str) (v:V),X.N[i]? =some x->σ[i]? =some (some v)->AH X.env.scope x->∃ u,RelV v u/\Look X.env s.heap m x u
 cell:∀ x c,X.env.cells.lookup x=some c->∃ v,s.heap.IsCell c v
 free:H X.env.locals=none
 jh:∀ x c,X.env.cells.lookup x=some c->H c=none
 pin:∀ p∈X.pn++pins,s.heap.get? p.1=some p.2/\H p.1=none/\p.1≠X.env.locals/\p.1 ∉ X.fs/\∀ v,p.2.data≠.cell v
 hok:bh X.prog X.w H s.heap
 len:σ.length=X.N.length
section
variable {σ:List (Option V)}
theorem Cx.Ok.Jg (ok:X.Ok) {o:Obj} (e:X.base.get? b=some o):b ∉ X.fs:=fun hb=>by
 have:=(ok.jr.mem hb).1
 rw [e] at this;cases this
theorem Inv.bs (I:Inv X pins σ H s):∀ b o,X.base.get? b=some o->s.heap.get? b=some o/\H b=none:=fun b o e=>
 ⟨I.base.keep b o (I.ok.bs b o e).1 (I.ok.bs b o e).2 (I.ok.Jg e) (I.ok.wx b o e),I.base.free b o (I.ok.bs b o e).1 (I.ok.bs b o e).2 (I.ok.wx b o e)⟩
theorem Inv.bk (I:Inv X pins σ H s):∀ b o,X.base.get? b=some o->s.heap.get? b=some o:=fun b o e=>(I.bs b o e).1
theorem Inv.mod (I:Inv X pins σ H s):Mod X.K X.mg X.base:=I.ok.mod
theorem Inv.bz (I:Inv X pins σ H s):X.K.In s.heap:=I.ok.mod.zk.keeps I.bk
theorem Inv.lt (I:Inv X pins σ H s):X.env.locals < s.heap.objs.size:=let ⟨_,hn,_⟩:=I.loc;hn.lt
theorem Inv.sz (I:Inv X pins σ H s):X.s₀.heap.objs.size<=s.heap.objs.size:=Nat.le_trans I.ok.above (Nat.le_of_lt I.lt)
theorem Inv.Jh (I:Inv X pins σ H s) (h:s.heap.objs.size<=a):a ∉ X.fs:=fun hb=>by
 obtain ⟨_,o,ho,_⟩:=I.ok.jr.mem hb
 exact absurd (Nat.lt_of_lt_of_le (Qz ho) (Nat.le_trans I.sz h)) (Nat.lt_irrefl _)
theorem Inv.sr (I:Inv X pins σ H s):∀ x c,X.env.cells.lookup x=some c->c≠X.env.locals:=fun x c e z=>by
 obtain ⟨v,o,ho,hd⟩:=I.cell x c e
 obtain ⟨m,⟨o',es,ep,ji,AI,_⟩,_⟩:=I.loc
 rw [z,ji] at ho;cases ho;rw [AI] at hd;cases hd
theorem Inv.jr (I:Inv X pins σ H s):s.heap.FunFrames X.base X.outer:=by
 have all:∀ (l:List Env),(∀ b∈dm l,b∈X.fs)->X.s₀.heap.FunFrames X.base l->s.heap.FunFrames X.base l:=by
  intro l
  induction l with
  | nil=>intro _ _;trivial
  | cons env r ih=>
   intro hs hl
   obtain ⟨hk,⟨L,o,hf,hn,ho,hd⟩,hr⟩:=hl
   have hL:L∈X.fs:=hs L (by unfold dm;rw [List.filterMap_cons,hf];exact List.mem_cons_self)
   obtain ⟨sl,e⟩:=I.base.slot L o ho (I.ok.sj L hL) hL fun z=>I.ok.zo L z hL
   exact ⟨hk,⟨L,_,hf,hn,e,hd⟩,ih (fun b hb=>hs b (by unfold dm;rw [List.filterMap_cons,hf];exact Qh _ hb)) hr⟩
 exact all X.outer (fun _ hb=>hb) I.ok.jr
theorem Inv.stack (I:Inv X pins σ H s):s.heap.FunFrames X.base X.stack:=by
 rcases I.ok.zm with e | ⟨e,hf⟩
 ·rw [e];exact I.jr
 ·rw [e]
  obtain ⟨m,hn,_⟩:=I.loc
  refine .cons (by rw [I.ok.kind];decide) hf hn ?_ I.jr
  exact Heap.get?_none_of_le (Nat.le_trans I.ok.nc I.ok.above)
theorem Inv.AJ (I:Inv X pins σ H s):∀ b∈dm X.stack,b∈X.env.locals::X.fs:=fun b hb=>by
 rcases I.ok.zm with e | ⟨e,hf⟩
 ·rw [e] at hb;exact Qh _ hb
 ·rw [e] at hb
  unfold dm at hb
  rw [List.filterMap_cons,hf] at hb
  exact hb
theorem Inv.BR (I:Inv X pins σ H s):∀ b∈dm X.stack,H b=none:=fun b hb=>by
 rcases Qp.mp (I.AJ b hb) with e | hb
 ·rw [e];exact I.free
 ·obtain ⟨_,o,ho,_⟩:=I.ok.jr.mem hb
  exact I.base.free b o ho (I.ok.sj b hb) fun z=>I.ok.zo b z hb
theorem Inv.step {g':Array GenState} {d':Drawn} (I:Inv X pins σ H s)
  (qb:∀ b∈ch,(b∈X.ex\/X.s₀.heap.objs.size<=b)/\b≠X.env.locals/\(∀ x c,X.env.cells.lookup x=some c->c≠b)/\∀ p∈X.pn++pins,p.1≠b)
  (keep:∀ b o,b≠X.env.locals->b ∉ X.fs->b ∉ ch->s.heap.get? b=some o->H b=none->h'.get? b=some o)
  (slot:∀ b o,b≠X.env.locals->b∈X.fs->b ∉ ch->s.heap.get? b=some o->H b=none->∃ sl,h'.get? b=some {o with slots:=sl}) (free:∀ b o,b ∉ ch->s.heap.get? b=some o->H b=none->H' b=none)
  (there:∀ b o,b ∉ ch->s.heap.get? b=some o->∃ o',h'.get? b=some o')
  (tups:∀ b xs,H b=some (.tup xs)->H' b=some (.tup xs)) (ir:∀ b o u,H b=some (.bq o u)->H' b=some (.bq o u)) (jg:∀ b ps,H b=some (.uq ps)->∃ more,H' b=some (.uq (ps++more)))
  (ns:∀ m,s.heap.Ns X.env.locals m->h'.Ns X.env.locals m) (hok:bh X.prog X.w H' h') (hg:AllBare g'):
  Inv X pins σ H' {s with heap:=h',gens:=g',drawn:=d',toks:=t'}:=by
 have wy:∀ b o,X.s₀.heap.get? b=some o->b≠X.env.locals:=fun b o e=>Nat.ne_of_lt (Nat.lt_of_lt_of_le (Qz e) I.ok.above)
 have BS:∀ b o,X.s₀.heap.get? b=some o->b ∉ X.ex->b ∉ ch:=fun b o e hx hb=>by
  rcases (qb b hb).1 with z | z
  ·exact hx z
  ·exact absurd (Nat.lt_of_lt_of_le (Qz e) z) (Nat.lt_irrefl _)
 have cellK:∀ x c,X.env.cells.lookup x=some c->∀ v,s.heap.IsCell c v->h'.IsCell c v:=fun x c e v ⟨o,ho,hd⟩=>by
  have ng:c ∉ ch:=fun z=>(qb c z).2.2.1 x c e rfl
  by_cases hc:c∈X.fs
  ·obtain ⟨sl,q⟩:=slot c o (I.sr x c e) hc ng ho (I.jh x c e)
   exact ⟨_,q,hd⟩
  ·exact ⟨o,keep c o (I.sr x c e) hc ng ho (I.jh x c e),hd⟩
 refine ⟨I.ok,I.os,hg,⟨fun b o e n hb hx=>?_,fun b o e n hb hx=>?_,fun b o e n hx=>?_,fun b o e hx=>?_,fun b xs e=>tups b xs (I.base.tups b xs e),fun b o xs e=>ir b o xs (I.base.ir b o xs e),fun b ps e=>?_⟩,?_,fun x c e=>?_,?_,fun x c e=>?_,fun p hp=>?_,hok,I.len⟩
 ·exact keep b o (wy b o e) hb (BS b o e hx) (I.base.keep b o e n hb hx) (I.base.free b o e n hx)
 ·obtain ⟨sl,e1⟩:=I.base.slot b o e n hb hx
  obtain ⟨AG,e2⟩:=slot b _ (wy b o e) hb (BS b o e hx) e1 (I.base.free b o e n hx)
  exact ⟨AG,e2⟩
 ·obtain ⟨o',e1⟩:=I.base.there b o e hx
  exact free b o' (BS b o e hx) e1 (I.base.free b o e n hx)
 ·obtain ⟨o',e1⟩:=I.base.there b o e hx
  exact there b o' (BS b o e hx) e1
 ·obtain ⟨m1,e1⟩:=I.base.jg b ps e
  obtain ⟨m2,e2⟩:=jg b _ e1
  exact ⟨m1++m2,by rw [e2,Array.append_assoc]⟩
 ·obtain ⟨m,hn,hl⟩:=I.loc
  refine ⟨m,ns m hn,fun i x v e1 e2 e3=>?_⟩
  obtain ⟨u,r,l⟩:=hl i x v e1 e2 e3
  refine ⟨u,r,?_⟩
  rcases l with l | ⟨k,c,e,z⟩
  ·exact .inl l
  ·exact .inr ⟨k,c,e,cellK x c e _ z⟩
 ·obtain ⟨v,z⟩:=I.cell x c e
  exact ⟨v,cellK x c e v z⟩
 ·obtain ⟨m,⟨o,_,_,ho,_⟩,_⟩:=I.loc
  exact free _ o (fun z=>(qb _ z).2.1 rfl) ho I.free
 ·obtain ⟨v,o,ho,hd⟩:=I.cell x c e
  exact free c o (fun z=>(qb c z).2.2.1 x c e rfl) ho (I.jh x c e)
 ·obtain ⟨e,n,ne,nf,d⟩:=I.pin p hp
  have ng:p.1 ∉ ch:=fun z=>(qb p.1 z).2.2.2 p hp rfl
  exact ⟨keep p.1 p.2 ne nf ng e n,free p.1 p.2 ng e n,ne,nf,d⟩
theorem Inv.un (I:Inv X pins σ H s) (u:Un X.fs [] H H' s.heap h') (hok:bh X.prog X.w H' h'):Inv X pins σ H' {s with heap:=h',toks:=t'}:=by
 obtain ⟨m,⟨o,es,ep,ho,r⟩,_⟩:=id I.loc
 obtain ⟨sl,hL⟩:=u.any ho I.free (by simp)
 exact I.step (g':=s.gens) (d':=s.drawn) (ch:=[]) (fun _ z=>nomatch z) (fun b o _ hb _ e n=>u.keep b o e n hb (by simp)) (fun b o _ hb _ e n=>u.slot b o e n hb (by simp)) (fun b o _ e n=>u.free b o e n (by simp)) (fun b o _ e=>u.there b o e (by simp)) u.tups u.ir u.jg (fun m' hm=>by
  obtain ⟨o',ur,zp,ji,r'⟩:=hm
  rw [ho] at ji;cases ji
  exact ⟨_,ur,zp,hL,r'⟩) hok I.bare
theorem Inv.call {g':Array GenState} {d':Drawn} (I:Inv X pins σ H s) (u:Un (dm X.stack) ch H H' s.heap h') (hok:bh X.prog X.w H' h') (hg:AllBare g')
  (qb:∀ b∈ch,(b∈X.ex\/X.s₀.heap.objs.size<=b)/\b≠X.env.locals/\(∀ x c,X.env.cells.lookup x=some c->c≠b)/\∀ p∈X.pn++pins,p.1≠b):
  Inv X pins σ H' {s with heap:=h',gens:=g',drawn:=d',toks:=t'}:=by
 obtain ⟨m,⟨o,es,ep,ho,r⟩,_⟩:=id I.loc
 obtain ⟨sl,hL⟩:=u.any ho I.free fun z=>(qb _ z).2.1 rfl
 exact I.step (ch:=ch) qb (fun b o hL hb hc e n=>u.keep b o e n (fun z=>(Qp.mp (I.AJ b z)).elim hL hb) hc) (fun b o _ _ hc e n=>u.any e n hc) (fun b o hc e n=>u.free b o e n hc) (fun b o hc e=>u.there b o e hc) u.tups u.ir u.jg (fun m' hm=>by
  obtain ⟨o',ur,zp,ji,r'⟩:=hm
  rw [ho] at ji;cases ji
  exact ⟨_,ur,zp,hL,r'⟩) hok hg
theorem Inv.turned {it:Addr} (I:Inv X pins σ H s) (k:∀ b o,b≠it->s.heap.get? b=some o->h'.get? b=some o) (hn:H it=none) (hL:it≠X.env.locals)
  (h1:it∈X.ex\/X.s₀.heap.objs.size<=it) (h2:∀ x c,X.env.cells.lookup x=some c->c≠it) (h3:∀ p∈X.pn++pins,p.1≠it):Inv X pins σ H {s with heap:=h',toks:=t'}:=by
 have Fg:∀ b u,H b=some u->b≠it:=fun b u e z=>by rw [z,hn] at e;cases e
 refine I.step (g':=s.gens) (d':=s.drawn) (ch:=[it]) (fun b hb=>?_) (fun b o _ _ hc e _=>k b o (fun z=>hc (by simp [z])) e) (fun b o _ _ hc e _=>⟨o.slots,k b o (fun z=>hc (by simp [z])) e⟩) (fun _ _ _ _ n=>n)
  (fun b o hc e=>⟨o,k b o (fun z=>hc (by simp [z])) e⟩) (fun _ _ e=>e) (fun _ _ _ e=>e) (fun b ps e=>⟨#[],by rw [e];simp⟩) (fun m hm=>?_) (fun b u e=>?_) I.bare
 ·have e:b=it:=by simpa using hb
  subst e
  exact ⟨h1,hL,h2,h3⟩
 ·obtain ⟨o,es,ep,ho,r⟩:=hm
  exact ⟨o,es,ep,k _ o (Ne.symm hL) ho,r⟩
 ·refine (I.hok b u e).stay (fun c v hc q=>k c v ?_ q) (fun _ q=>q) fun _ _ q=>q
  rcases hc with z | z
  ·rw [z];exact Fg b u e
  ·exact Fg c _ z
theorem Inv.tok (I:Inv X pins σ H s) (t:Nat):Inv X pins σ H {s with toks:=t}:=I.un (h':=s.heap) (t':=t) Un.refl I.hok
theorem Inv.kept {t':Nat} (I:Inv X pins σ H s) (k:∀ b u,s.heap.get? b=some u->h'.get? b=some u):Inv X pins σ H {s with heap:=h',toks:=t'}:=I.un (Un.kept k) (I.hok.kept k)
theorem Inv.laid {a:Addr} {o:HO} {t':Nat} (I:Inv X pins σ H s) (k:∀ b u,s.heap.get? b=some u->h'.get? b=some u) (hp:s.heap.objs.size<=a) (new:a_ X.prog X.w (upd H a o) h' a o):
  Inv X pins σ (upd H a o) {s with heap:=h',toks:=t'}:=I.un (Un.laid k hp (I.hok.fresh hp)) (I.hok.laid k hp new)
theorem Inv.write {x e:Addr} {o:HO} {t':Nat} (I:Inv X pins σ H s) (mu:zh (H x)) (he:e=x\/H e=some (.own x)) (k:∀ b u,b≠e->s.heap.get? b=some u->h'.get? b=some u) (rq:∃ u,h'.get? e=some u)
  (new:a_ X.prog X.w (upd H x o) h' x o):Inv X pins σ (upd H x o) {s with heap:=h',toks:=t'}:=I.un (Un.write mu he k rq) (I.hok.write mu he k rq new)
theorem Inv.Fi {Fj:List (Addr×Obj)} (I:Inv X pins σ H s) (h:∀ p∈Fj,s.heap.get? p.1=some p.2/\H p.1=none/\p.1≠X.env.locals/\p.1 ∉ X.fs/\∀ v,p.2.data≠.cell v):Inv X Fj σ H s:=
 ⟨I.ok,I.os,I.bare,I.base,I.loc,I.cell,I.free,I.jh,fun p hp=>(List.mem_append.mp hp).elim (fun z=>I.pin p (List.mem_append_left _ z)) (h p),I.hok,I.len⟩
theorem jX (hN:N.Nodup) (a:N[i]? =some x) (b:N[j]? =some x):i=j:=by
 obtain ⟨h1,e1⟩:=List.getElem?_eq_some_iff.mp a
 obtain ⟨h2,e2⟩:=List.getElem?_eq_some_iff.mp b
 exact (List.getElem_inj hN).mp (e1.trans e2.symm)
theorem fZ {v:V} {Q:Unit->Shared->Prop} (I:Inv X pins σ H s) (hN:X.N.Nodup) (hi:X.N[i]? =some x) (hx:Loc X.env.scope x) (r:RelV v u)
  (h:∀ s',Inv X pins (σ.set i (some v)) H s'->(∃ a,Heap.SameBut a s.heap s'.heap/\(a=X.env.locals\/X.env.cells.lookup x=some a))->Q () s') (hf:X.fn x=true\/X.env.scope.names.lookup x=some .local:=by first | exact .inl rfl | exact .inr rfl | assumption):wpAny M A (storeName X.env x u) Q E s:=by
 obtain ⟨m,hn,hl⟩:=id I.loc
 have Ji:(X.env.scope.kind==.class||(X.env.scope.kind==.module&&X.env.locals !=X.env.globals))=false:=by rw [I.ok.kind];rfl
 have Fk:i < σ.length:=by rw [I.len];exact (List.getElem?_eq_some_iff.mp hi).1
 have sr:=I.sr
 have tracked:∀ {a:Addr} {h':Heap},(∃ o,s.heap.get? a=some o/\H a=none)->Heap.SameBut a s.heap h'->bh X.prog X.w H h':=fun {a h'} ha hs b ob e=>by
  obtain ⟨_,_,Fl⟩:=ha
  refine (I.hok b ob e).stay (fun c w' hc q=>(hs.2 c ?_).trans q) (fun _ q=>q) fun _ _ q=>q
  rintro rfl
  rcases hc with rfl | hc
  ·rw [Fl] at e;cases e
  ·rw [Fl] at hc;cases hc
 rcases hx with hk | hk
 ·refine wpAny_storeName_local hk hn (fun h' hn' hs=>?_) Ji
  obtain ⟨oL,_,_,Jj,_⟩:=id hn
  refine h _ ⟨I.ok,I.os,I.bare,⟨fun b o e n hb hx=>?_,fun b o e n hb hx=>?_,I.base.free,fun b o e hx=>?_,I.base.tups,I.base.ir,I.base.jg⟩,⟨_,hn',fun j y v' e1 e2 e3=>?_⟩,fun y c e=>?_,I.free,I.jh,fun p hp=>?_,tracked ⟨oL,Jj,I.free⟩ hs,by simpa using I.len⟩ ⟨_,hs,.inl rfl⟩
  ·exact (hs.2 b (Nat.ne_of_lt (Nat.lt_of_lt_of_le (Qz e) I.ok.above))).trans (I.base.keep b o e n hb hx)
  ·obtain ⟨sl,e1⟩:=I.base.slot b o e n hb hx
   exact ⟨sl,(hs.2 b (Nat.ne_of_lt (Nat.lt_of_lt_of_le (Qz e) I.ok.above))).trans e1⟩
  ·obtain ⟨o',e1⟩:=I.base.there b o e hx
   exact ⟨o',(hs.2 b (Nat.ne_of_lt (Nat.lt_of_lt_of_le (Qz e) I.ok.above))).trans e1⟩
  ·by_cases hj:j=i
   ·subst hj
    rw [hi] at e1;cases e1
    rw [List.getElem?_set_self Fk] at e2
    cases e2
    exact ⟨u,r,.inl ⟨hk,by simp⟩⟩
   ·rw [List.getElem?_set_ne (Ne.symm hj)] at e2
    obtain ⟨u',r',q⟩:=hl j y v' e1 e2 e3
    refine ⟨u',r',?_⟩
    rcases q with ⟨k,e⟩ | ⟨k,c,e,z⟩
    ·refine .inl ⟨k,?_⟩
     have:y≠x:=fun e=>hj (jX hN e1 (e▸hi))
     simp [this,e]
    ·exact .inr ⟨k,c,e,z.sameBut hs (sr y c e)⟩
  ·obtain ⟨w',z⟩:=I.cell y c e
   exact ⟨w',z.sameBut hs (sr y c e)⟩
  ·obtain ⟨e,n,ne,nf,d⟩:=I.pin p hp
   exact ⟨(hs.2 p.1 ne).trans e,n,ne,nf,d⟩
 ·have Dh:X.fn x=true:=by
   rcases hf with z | z
   ·exact z
   ·rw [z] at hk;cases hk
  obtain ⟨c,hc⟩:=I.ok.has x (.inl hk)
  obtain ⟨w',z⟩:=I.cell x c hc
  refine wpAny_storeName_cell I.ok.kind hk hc z (fun h' w_ hs=>?_)
  obtain ⟨oc,Fo,Jk⟩:=id z
  refine h {s with heap:=h'} ⟨I.ok,I.os,I.bare,⟨fun b o e n hb hx=>?_,fun b o e n hb hx=>?_,I.base.free,fun b o e hx=>?_,I.base.tups,I.base.ir,I.base.jg⟩,⟨m,hn.sameBut hs (Ne.symm (sr x c hc)),fun j y v' e1 e2 e3=>?_⟩,fun y c' e=>?_,I.free,I.jh,fun p hp=>?_,tracked ⟨oc,Fo,I.jh x c hc⟩ hs,by simpa using I.len⟩ ⟨c,hs,.inr hc⟩
  ·exact (hs.2 b (Nat.ne_of_lt (Nat.lt_of_lt_of_le (Qz e) (I.ok.wu x c Dh hc)))).trans (I.base.keep b o e n hb hx)
  ·obtain ⟨sl,e1⟩:=I.base.slot b o e n hb hx
   exact ⟨sl,(hs.2 b (Nat.ne_of_lt (Nat.lt_of_lt_of_le (Qz e) (I.ok.wu x c Dh hc)))).trans e1⟩
  ·obtain ⟨o',e1⟩:=I.base.there b o e hx
   exact ⟨o',(hs.2 b (Nat.ne_of_lt (Nat.lt_of_lt_of_le (Qz e) (I.ok.wu x c Dh hc)))).trans e1⟩
  ·by_cases hj:j=i
   ·subst hj
    rw [hi] at e1;cases e1
    rw [List.getElem?_set_self Fk] at e2
    cases e2
    exact ⟨u,r,.inr ⟨.inl hk,c,hc,w_⟩⟩
   ·rw [List.getElem?_set_ne (Ne.symm hj)] at e2
    obtain ⟨u',r',q⟩:=hl j y v' e1 e2 e3
    refine ⟨u',r',?_⟩
    rcases q with q | ⟨k,c',e,z'⟩
    ·exact .inl q
    ·refine .inr ⟨k,c',e,z'.sameBut hs ?_⟩
     rintro rfl
     exact hj (jX hN e1 (I.ok.inj _ _ _ e hc▸hi))
  ·by_cases Fp:c'=c
   ·subst Fp;exact ⟨_,w_⟩
   ·obtain ⟨w2,z2⟩:=I.cell y c' e
    exact ⟨w2,z2.sameBut hs Fp⟩
  ·obtain ⟨e,n,ne,nf,d⟩:=I.pin p hp
   refine ⟨(hs.2 p.1 ?_).trans e,n,ne,nf,d⟩
   intro q
   rw [q,Fo] at e
   have q':oc=p.2:=QD e
   exact d w' (by rw [<- q'];exact Jk)
theorem nM {v:V} {Q:Unit->Shared->Prop} (I:Inv X pins σ H s) (hN:X.N.Nodup) (hi:X.N[i]? =some x) (hx:Loc X.env.scope x) (r:RelV v u)
  (h:∀ s',Inv X pins (σ.set i (some v)) H s'->Q () s') (hf:X.fn x=true\/X.env.scope.names.lookup x=some .local:=by first | exact .inl rfl | exact .inr rfl | assumption):wpAny M A (storeName X.env x u) Q E s:=
 fZ I hN hi hx r (fun s' I' _=>h s' I') hf
theorem Inv.Fq {s':Shared} (I:Inv X pins σ H s) (ho:s'.os=s.os) (u:Un (dm X.stack) ch H H' s.heap s'.heap) (hok:bh X.prog X.w H' s'.heap) (hg:AllBare s'.gens)
  (qb:∀ b∈ch,(b∈X.ex\/X.s₀.heap.objs.size<=b)/\b≠X.env.locals/\(∀ x c,X.env.cells.lookup x=some c->c≠b)/\∀ p∈X.pn++pins,p.1≠b):Inv X pins σ H' s':=by
 obtain ⟨h',g',d',t',o'⟩:=s'
 have e:o'=s.os:=ho
 subst e
 exact I.call (g':=g') (t':=t') (d':=d') u hok hg qb
end
abbrev XK:=Value->Option Addr->Hp->Prop
abbrev St:=List (Option V)
end L2
variable {σ:L2.St}
namespace L2
open PySem PySem.Spec PyProof.Rows
abbrev VK:=V->Hp->Prop
abbrev TE:=St->Hp->VK->Prop
end L2
variable {te to:L2.TE} {jt:List (L2.TE×L2.TE)}
namespace L2
open PySem PySem.Spec PyProof.Rows
abbrev TT:=St->Hp->(Bool->Hp->Prop)->Prop
abbrev TA:=St->Hp->(List V->Hp->Prop)->Prop
end L2
variable {tA:L2.TT} {ta t:L2.TA}
namespace L2
open PySem PySem.Spec PyProof.Rows
structure Ends where
 nx:St->Hp->Prop
 rt:VK
 bk:St->Hp->Prop:=fun _ _=>False
 ct:St->Hp->Prop:=fun _ _=>False
abbrev TS:=Ends->St->Hp->Prop
def EP (X:Cx) (pins:List (Addr×Obj)) (σ:St) (Q:VK) (u:Value) (s':Shared):Prop:=∃ v H',Inv X pins σ H' s'/\RelV v u/\Q v H'
def TP (X:Cx) (pins:List (Addr×Obj)) (σ:St) (Q:Bool->Hp->Prop) (b:Bool) (s':Shared):Prop:=∃ H',Inv X pins σ H' s'/\Q b H'
def AP (X:Cx) (pins:List (Addr×Obj)) (σ:St) (Q:List V->Hp->Prop) (us:List Value) (s':Shared):Prop:=∃ vs H',Inv X pins σ H' s'/\aq vs us/\Q vs H'
def SP (X:Cx) (pins:List (Addr×Obj)) (D:Ends) (f:Flow) (s':Shared):Prop:=
 match f with
 | .next=>∃ σ' H',Inv X pins σ' H' s'/\D.nx σ' H'
 | .brk=>∃ σ' H',Inv X pins σ' H' s'/\D.bk σ' H'
 | .cont=>∃ σ' H',Inv X pins σ' H' s'/\D.ct σ' H'
 | .ret u=>∃ v σ' H',Inv X pins σ' H' s'/\RelV v u/\D.rt v H'
def PE (X:Cx) (e:Expr) (t:TE):Prop:=
 ∀ (pins:List (Addr×Obj)) (s:Shared) (σ:St) (H:Hp) (Q:VK),Inv X pins σ H s->t σ H Q->wpAny (model X.prog X.w) X.A (eval e X.env) (EP X pins σ Q) X.xe s
def PT (X:Cx) (e:Expr) (t:TT):Prop:=
 ∀ (pins:List (Addr×Obj)) (s:Shared) (σ:St) (H:Hp) (Q:Bool->Hp->Prop),Inv X pins σ H s->t σ H Q->wpAny (model X.prog X.w) X.A (isTrue e X.env (eval e X.env)) (TP X pins σ Q) X.xe s
def PW (X:Cx) (e:Expr) (t:TT):Prop:=
 ∀ (whole:Sem Value) (pins:List (Addr×Obj)) (s:Shared) (σ:St) (H:Hp) (Q:Bool->Hp->Prop),Inv X pins σ H s->t σ H Q->wpAny (model X.prog X.w) X.A (isTrue e X.env whole) (TP X pins σ Q) X.xe s
theorem PW.pt {t:TT} (h:PW X e t):PT X e t:=h _
def PA (X:Cx) (es:List Expr) (t:TA):Prop:=
 ∀ (pos:Pos) (pins:List (Addr×Obj)) (s:Shared) (σ:St) (H:Hp) (Q:List V->Hp->Prop),Inv X pins σ H s->t σ H Q->wpAny (model X.prog X.w) X.A (spliced (backTo pos (starEach es X.env))) (AP X pins σ Q) X.xe s
def PS (X:Cx) (st:Stmt) (t:TS):Prop:=
 ∀ (pins:List (Addr×Obj)) (s:Shared) (σ:St) (H:Hp) (D:Ends),Inv X pins σ H s->t D σ H->wpAny (model X.prog X.w) X.A (exec st X.env) (SP X pins D) X.xe s
def iu (X:Cx) (st:List Stmt) (t:TS):Prop:=
 ∀ (pins:List (Addr×Obj)) (s:Shared) (σ:St) (H:Hp) (D:Ends),Inv X pins σ H s->t D σ H->wpAny (model X.prog X.w) X.A (execs st X.env) (SP X pins D) X.xe s
theorem ai {t:Sem α} {Q Q':α->Shared->Prop} (h:wpAny M A t Q E s) (hQ:∀ a s,Q a s->Q' a s):wpAny M A t Q' E s:=wpAny_mono h hQ fun _ _ x=>x
section
def Jl (i:Nat):TE:=fun σ H Q=>∃ v,σ[i]? =some (some v)/\Q v H
def tC (v:V):TE:=fun _ H Q=>Q v H
theorem yK {pos:Pos} (hN:X.N[i]? =some x) (hv:AH X.env.scope x) (hd:(x==("__debug__":Str))=false:=by decide) (gz:(x==("__classdict__":Str))=false:=by decide):PE X (.Name x pos) (Jl i):=by
 intro pins s σ H Q I h
 obtain ⟨v,e,h⟩:=h
 obtain ⟨m,hn,hl⟩:=I.loc
 obtain ⟨u,r,l⟩:=hl i x v hN e hv
 have fin:EP X pins σ Q u s:=⟨v,H,I,r,h⟩
 rcases l with ⟨hk,hm⟩ | ⟨hk,c,hc,Ft⟩
 ·exact wpAny_Name (wpAny_loadName_local I.ok.kind hk hn hm fin) hd
 ·rcases hk with hk | hk
  ·exact wpAny_Name (wpAny_loadName_cell I.ok.kind hk hc Ft fin) hd
  ·exact wpAny_Name (wpAny_loadName_free I.ok.kind hk hc Ft fin gz) hd
theorem zF {i j pos}:PE X (.Constant (.int i) j pos) (tC (.int i)):=fun _ _ _ H _ I h=>wpAny_Constant_int ⟨.int i,H,I.tok _,⟨_,rfl⟩,h⟩
theorem Jm {b j pos}:PE X (.Constant (.bool b) j pos) (tC (.bl b)):=fun _ _ _ H _ I h=>Constant_bool ⟨.bl b,H,I,rfl,h⟩
theorem yO {j pos}:PE X (.Constant .none j pos) (tC .af):=fun _ _ _ H _ I h=>Constant_none ⟨.af,H,I,rfl,h⟩
theorem yL {x j pos}:PE X (.Constant (.str x) j pos) (tC (.str x)):=fun _ _ _ H _ I h=>Calls.Constant_str ⟨.str x,H,I.tok _,⟨_,rfl⟩,h⟩
def Gl (X:Cx) (x:Str):Prop:=X.env.kindOf x=some .globalImplicit
theorem dW {pos:Pos} (I:Inv X pins σ H s) (hg:Gl X x) (hm:X.mg x=some u) (h:Q u s)
  (hd:(x==("__debug__":Str))=false:=by decide):wpAny (model X.prog X.w) X.A (eval (.Name x pos) X.env) Q E s:=
 Calls.Name_function_global I.ok.kind hg (Calls.loadGlobal_global (by rw [I.ok.glob];exact I.mod.glob.keeps I.bk) hm h) hd
theorem gS {pos:Pos} (I:Inv X pins σ H s) (hg:Gl X x) (hm:X.mg x=none) (hv:bootBuiltins x=some u) (h:Q u s)
  (hn:x≠"__name__":=by decide) (hd:(x==("__debug__":Str))=false:=by decide):wpAny (model X.prog X.w) X.A (eval (.Name x pos) X.env) Q E s:=by
 obtain ⟨mb,h1,h2⟩:=I.mod.blt
 exact Calls.Name_function_global I.ok.kind hg (Calls.loadGlobal_builtin (by rw [I.ok.glob];exact I.mod.glob.keeps I.bk) hm (by rw [I.ok.blt];exact h1.keeps I.bk) ((h2 x hn).trans hv) h) hd
theorem jC {v:V} {pos:Pos} (hg:Gl X x) (hm:X.mg x=some u) (r:RelV v u) (hd:(x==("__debug__":Str))=false:=by decide):PE X (.Name x pos) (tC v):=
 fun _ _ _ H _ I h=>dW I hg hm ⟨v,H,I,r,h⟩ hd
theorem wO {v:V} {pos:Pos} (hg:Gl X x) (hm:X.mg x=none) (hv:bootBuiltins x=some u) (r:RelV v u) (hn:x≠"__name__":=by decide) (hd:(x==("__debug__":Str))=false:=by decide):PE X (.Name x pos) (tC v):=
 fun _ _ _ H _ I h=>gS I hg hm hv ⟨v,H,I,r,h⟩ hn hd
variable {a b:Expr} {ta tb:TE} {pos:Pos}
def PC (X:Cx) (op:CmpOp) (a b:Expr) (t:TE):Prop:=
 ∀ (pins:List (Addr×Obj)) (s:Shared) (σ:St) (H:Hp) (Q:VK),Inv X pins σ H s->t σ H Q->
  wpAny (model X.prog X.w) X.A (eval a X.env) (fun v s₁=>wpAny (model X.prog X.w) X.A (eval b X.env) (fun u s₂=>wpAny (model X.prog X.w) X.A (compareOp op v u) (EP X pins σ Q) X.xe s₂) X.xe s₁) X.xe s
def tB (t:TE):TT:=fun σ H Q=>t σ H fun x H1=>∃ c,x=.bl c/\Q c H1
theorem xX {t:TE} (h:PC X op a b t) (h1:behindInMarks op b=false:=by first | exact OG _ (by decide) (by decide) | rfl):PT X (.Compare a [op] [b] pos) (tB t):=by
 intro pins s σ H Q I hw
 refine wpAny_isTrue_Compare1 (ai (h pins s σ H _ I hw) fun v s1 h1=>ai h1 fun u s2 h2=>ai h2 fun c s3 ⟨x,H1,I1,r1,q1⟩=>?_) h1
 obtain ⟨d,rfl,q⟩:=q1
 cases r1
 exact wpAny_truthy_bool ⟨H1,I1,q⟩
theorem y8 {t:TE} (h:PE X e t) (he:∀ whole,isTrue e X.env whole=(do let v <- whole;standAt e.pos;holding [v] (truthy v)):=by intro _;rfl):PT X e (tB t):=by
 intro pins s σ H Q I hw
 refine isTrue_plain (ai (h pins s σ H _ I hw) fun v s1 ⟨x,H1,I1,r1,q1⟩=>?_) (he _)
 obtain ⟨d,rfl,q⟩:=q1
 cases r1
 exact wpAny_truthy_bool ⟨H1,I1,q⟩
variable {qc:TT}
def Fv (t u:TT):TT:=fun σ H Q=>t σ H fun c H1=>if c=true then u σ H1 Q else Q false H1
def Fw (t u:TT):TT:=fun σ H Q=>t σ H fun c H1=>if c=true then Q true H1 else u σ H1 Q
def Fx (t:TT):TT:=fun σ H Q=>t σ H fun c H1=>Q (!c) H1
theorem xA (ha:PT X a tA):PW X (.BoolOp .And [a] pos) tA:=by
 intro wh pins s σ H Q I h
 refine isTrue_and (ai (ha pins s σ H Q I h) fun c s1 e=>?_)
 cases c with
 | true=>exact isTrue_and_nil e
 | false=>exact e
theorem Jo (ha:PT X a tA):PW X (.BoolOp .Or [a] pos) tA:=by
 intro wh pins s σ H Q I h
 refine isTrue_or (ai (ha pins s σ H Q I h) fun c s1 e=>?_)
 cases c with
 | false=>exact isTrue_or_nil e
 | true=>exact e
theorem zP (ha:PT X a tA) (hb:PW X (.BoolOp .And (b::rest) pos) qc):PW X (.BoolOp .And (a::b::rest) pos) (Fv tA qc):=by
 intro wh pins s σ H Q I h
 refine isTrue_and (ai (ha pins s σ H _ I h) ?_)
 rintro c s1 ⟨H1,I1,q1⟩
 cases c with
 | true=>exact hb wh pins s1 σ H1 Q I1 q1
 | false=>exact ⟨H1,I1,q1⟩
theorem Jp (ha:PT X a tA) (hb:PW X (.BoolOp .Or (b::rest) pos) qc):PW X (.BoolOp .Or (a::b::rest) pos) (Fw tA qc):=by
 intro wh pins s σ H Q I h
 refine isTrue_or (ai (ha pins s σ H _ I h) ?_)
 rintro c s1 ⟨H1,I1,q1⟩
 cases c with
 | true=>exact ⟨H1,I1,q1⟩
 | false=>exact hb wh pins s1 σ H1 Q I1 q1
theorem yP (ha:PT X a tA):PT X (.UnaryOp .Not a pos) (Fx tA):=by
 intro pins s σ H Q I h
 exact isTrue_not (ha pins s σ H (fun c H1=>Q (!c) H1) I h)
def Fy (ta tb:TE):TE:=fun σ H Q=>ta σ H fun x H1=>∃ c,x=.bl c/\if c=true then tb σ H1 Q else Q (.bl false) H1
def Fz (ta tb:TE):TE:=fun σ H Q=>ta σ H fun x H1=>∃ c,x=.bl c/\if c=true then Q (.bl true) H1 else tb σ H1 Q
theorem yN {op} {t:TE} (h:PE X a t):PE X (.BoolOp op [a] pos) t:=fun pins s σ H Q I hw=>BoolOp_one (h pins s σ H Q I hw)
theorem z5 (ha:PE X a ta) (hb:PE X (.BoolOp .And (b::rest) pos) tb):PE X (.BoolOp .And (a::b::rest) pos) (Fy ta tb):=by
 intro pins s σ H Q I h
 refine BoolOp_and (ai (ha pins s σ H _ I h) ?_)
 rintro v s1 ⟨x,H1,I1,r1,q1⟩
 obtain ⟨c,rfl,q1⟩:=q1
 cases r1
 refine wpAny_truthy_bool ?_
 cases c with
 | true=>exact hb pins s1 σ H1 Q I1 q1
 | false=>exact ⟨.bl false,H1,I1,rfl,q1⟩
theorem Jq (ha:PE X a ta) (hb:PE X (.BoolOp .Or (b::rest) pos) tb):PE X (.BoolOp .Or (a::b::rest) pos) (Fz ta tb):=by
 intro pins s σ H Q I h
 refine BoolOp_or (ai (ha pins s σ H _ I h) ?_)
 rintro v s1 ⟨x,H1,I1,r1,q1⟩
 obtain ⟨c,rfl,q1⟩:=q1
 cases r1
 refine wpAny_truthy_bool ?_
 cases c with
 | false=>exact hb pins s1 σ H1 Q I1 q1
 | true=>exact ⟨.bl true,H1,I1,rfl,q1⟩
def FA (t:TT) (ta tb:TE):TE:=fun σ H Q=>t σ H fun c H1=>if c=true then ta σ H1 Q else tb σ H1 Q
theorem uN {c:Expr} (hc:PT X c tA) (ha:PE X a ta) (hb:PE X b tb):PE X (.IfExp c a b pos) (FA tA ta tb):=by
 intro pins s σ H Q I h
 refine wpAny_IfExp (ai (hc pins s σ H _ I h) ?_)
 rintro d s1 ⟨H1,I1,q1⟩
 cases d with
 | true=>exact ha pins s1 σ H1 Q I1 q1
 | false=>exact hb pins s1 σ H1 Q I1 q1
end
def ae (K:QZ) (H:Hp) (a:Addr) (xs:List V):Prop:=
 Rd H a (.lst xs)\/
  ∃ (o:Obj) (its:Array Value) (n:Nat),K.lookup a=some o/\o.cls=.type "list"/\o.dict=none/\o.data=.seq its n/\its.size<=sizeLine/\aq xs its.toList
def aj (K:QZ) (H:Hp) (a:Addr) (xs:List V):Prop:=
 Rd H a (.tup xs)\/
  ∃ (o:Obj) (its:Array Value) (n:Nat),K.lookup a=some o/\o.cls=.type "tuple"/\o.data=.seq its n/\its.size<=sizeLine/\aq xs its.toList
def su:Value->Option V
 | .none=>some .af
 | .bool b=>some (.bl b)
 | .int i _=>some (.int i)
 | .str x _=>some (.str x)
 | .bytes b _=>some (.jq b)
 | .float b _=>some (.wo b)
 | .ref a=>some (.ref a)
 | .type n=>some (.ty n)
 | _=>none
theorem RelV.abs {x:V} (r:RelV x u):su u=some x:=by
 cases x with
 | af=>cases r;rfl
 | bl _=>cases r;rfl
 | int _=>obtain ⟨t,rfl⟩:=r;rfl
 | str _=>obtain ⟨t,rfl⟩:=r;rfl
 | jq _=>obtain ⟨t,rfl⟩:=r;rfl
 | wo _=>obtain ⟨t,rfl⟩:=r;rfl
 | ref _=>cases r;rfl
 | ty _=>cases r;rfl
theorem RelV.inj {x y:V} (r:RelV x u) (q:RelV y u):x=y:=QD (r.abs.symm.trans q.abs)
theorem aq.inj:∀ {xs ys:List V} {us:List Value},aq xs us->aq ys us->xs=ys
 | _,_,_,.nil,.nil=>rfl
 | _,_,_,.cons r t,.cons r' t'=>by rw [r.inj r',aq.inj t t']
section
variable {xs ys:List V}
theorem ae.of {K:QZ} (h:H a=some (.lst xs)):ae K H a xs:=.inl (.inl h)
theorem aj.of {K:QZ} (h:H a=some (.tup xs)):aj K H a xs:=.inl (.inl h)
theorem Inv.list (I:Inv X pins σ H s) (h:ae X.K H a xs):∃ its:List Value,aq xs its/\PlainL s.heap a its.toArray/\xs.length<=sizeLine:=by
 rcases h with h | ⟨o,its,n,hk,hc,hd,hs,hz,r⟩
 ·obtain ⟨z,its,n,r,e⟩:=h.ok I.hok
  exact ⟨its,r,⟨_,n,e,rfl,rfl,rfl⟩,z⟩
 ·refine ⟨its.toList,r,⟨o,n,I.bz a o hk,hc,hd,by simpa using hs⟩,?_⟩
  have e:=r.length
  simp only [Array.length_toList] at e
  omega
theorem Inv.tuple (I:Inv X pins σ H s) (h:aj X.K H a xs):∃ its:List Value,aq xs its/\IsTup s.heap a its.toArray/\xs.length<=sizeLine:=by
 rcases h with h | ⟨o,its,n,hk,hc,hs,hz,r⟩
 ·obtain ⟨⟨z,_⟩,its,r,p⟩:=h.ok I.hok
  exact ⟨its,r,p,z⟩
 ·refine ⟨its.toList,r,⟨o,I.bz a o hk,hc,n,by simpa using hs⟩,?_⟩
  have e:=r.length
  simp only [Array.length_toList] at e
  omega
theorem Inv.BU (I:Inv X pins σ H s) (h:ae X.K H a xs) (h':ae X.K H a ys):xs=ys:=by
 obtain ⟨its,r,⟨o,n,e,_,_,d⟩,_⟩:=I.list h
 obtain ⟨its',r',⟨o',n',e',_,_,d'⟩,_⟩:=I.list h'
 rw [e] at e';cases e'
 rw [d] at d'
 injection d' with d1 _
 have:its=its':=by simpa using congrArg Array.toList d1
 subst this
 exact r.inj r'
theorem Inv.Jr (I:Inv X pins σ H s) (h:aj X.K H a xs) (h':aj X.K H a ys):xs=ys:=by
 obtain ⟨its,r,⟨o,e,_,n,d⟩,_⟩:=I.tuple h
 obtain ⟨its',r',⟨o',e',_,n',d'⟩,_⟩:=I.tuple h'
 rw [e] at e';cases e'
 rw [d] at d'
 injection d' with d1 _
 have:its=its':=by simpa using congrArg Array.toList d1
 subst this
 exact r.inj r'
end
abbrev Cx.qd (X:Cx) (E:Value->Shared->Prop):Cx:={X with xe:=E}
abbrev Cx.nj (X:Cx):Cx:=X.qd fun _ _=>False
theorem Cx.Ok.qd {X:Cx} (ok:X.Ok) (E:Value->Shared->Prop):(X.qd E).Ok:=
 ⟨ok.mod,ok.kind,ok.glob,ok.blt,ok.above,ok.inj,ok.has,ok.wu,ok.hd,ok.frames,ok.zm,ok.BQ,ok.bs,ok.nc,ok.wx,ok.zo,ok.jr,ok.sj⟩
theorem Cx.Ok.uu (ok:(X.qd E).Ok):X.Ok:=
 ⟨ok.mod,ok.kind,ok.glob,ok.blt,ok.above,ok.inj,ok.has,ok.wu,ok.hd,ok.frames,ok.zm,ok.BQ,ok.bs,ok.nc,ok.wx,ok.zo,ok.jr,ok.sj⟩
theorem Inv.qd (I:Inv X pins σ H s) (E:Value->Shared->Prop):Inv (X.qd E) pins σ H s:=⟨I.ok.qd E,I.os,I.bare,I.base,I.loc,I.cell,I.free,I.jh,I.pin,I.hok,I.len⟩
theorem Inv.uu (I:Inv (X.qd E) pins σ H s):Inv X pins σ H s:=⟨I.ok.uu,I.os,I.bare,I.base,I.loc,I.cell,I.free,I.jh,I.pin,I.hok,I.len⟩
theorem SP.uu {D:Ends} {f:Flow} {s':Shared} (h:SP (X.qd E) pins D f s'):SP X pins D f s':=by
 cases f with
 | next=>obtain ⟨σ',H',I,q⟩:=h;exact ⟨σ',H',I.uu,q⟩
 | brk=>obtain ⟨σ',H',I,q⟩:=h;exact ⟨σ',H',I.uu,q⟩
 | cont=>obtain ⟨σ',H',I,q⟩:=h;exact ⟨σ',H',I.uu,q⟩
 | ret u=>obtain ⟨v,σ',H',I,r,q⟩:=h;exact ⟨v,σ',H',I.uu,r,q⟩
theorem iu.nj {st:List Stmt} {t:TS} (h:iu X.nj st t):iu X st t:=fun pins s σ H D I hw=>
 wpAny_mono (h pins s σ H D (I.qd _) hw) (fun _ _ q=>q.uu) fun _ _ z=>False.elim z
section
variable {st:Stmt} {rest:List Stmt} {t u:TS} {pos:Pos}
def zq:TS:=fun D σ H=>D.nx σ H
def qf (t u:TS):TS:=fun D σ H=>t {D with nx:=u D} σ H
theorem wK:iu X [] zq:=fun _ _ σ H _ I h=>wpAny_execs_nil ⟨σ,H,I,h⟩
theorem uL (h1:PS X st t) (h2:iu X rest u):iu X (st::rest) (qf t u):=by
 intro pins s σ H D I h
 refine wpAny_execs_cons (ai (h1 pins s σ H {D with nx:=u D} I h) fun f s1 q=>?_)
 cases f with
 | next=>
  obtain ⟨σ',H',I',q⟩:=q
  exact h2 pins s1 σ' H' D I' q
 | ret v=>exact q
 | brk=>exact q
 | cont=>exact q
theorem w9 (h1:PS X st t):iu X [st] t:=by
 intro pins s σ H D I h
 refine wpAny_execs_cons (ai (h1 pins s σ H D I h) fun f s1 q=>?_)
 cases f with
 | next=>exact wpAny_execs_nil q
 | ret v=>exact q
 | brk=>exact q
 | cont=>exact q
theorem Inv.quiet (I:Inv X pins σ H s):interactive X.env=false:=by simp [interactive,I.ok.kind]
def FD (te:TE):TS:=fun D σ H=>te σ H fun _ H1=>D.nx σ H1
theorem xO (he:PE X e te) (hs:swapsWith e none pos.line X.env=pure false:=by rfl):PS X (.Expr e pos) (FD te):=by
 intro pins s σ H D I h
 exact wpAny_Expr_any (ai (he pins s σ H _ I h) fun v s1 ⟨x,H1,I1,r1,q1⟩=>⟨σ,H1,I1,q1⟩) I.quiet hs
def BV (te:TE):TS:=fun D σ H=>te σ H D.rt
theorem y6 (he:PE X e te):PS X (.Return (some e) pos) (BV te):=by
 intro pins s σ H D I h
 exact wpAny_Return_some (ai (he pins s σ H _ I h) fun v s1 ⟨x,H1,I1,r1,q1⟩=>⟨x,σ,H1,I1,r1,q1⟩)
def BW (c:TT) (t u:TS):TS:=fun D σ H=>c σ H fun b H1=>if b=true then t D σ H1 else u D σ H1
theorem Js {c:Expr} {a b:List Stmt} {tc:TT} (hc:PT X c tc) (ha:iu X a t) (hb:iu X b u):PS X (.If c a b pos) (BW tc t u):=by
 intro pins s σ H D I h
 refine wpAny_If (ai (hc pins s σ H _ I h) ?_)
 rintro d s1 ⟨H1,I1,q1⟩
 cases d with
 | true=>exact ha pins s1 σ H1 D I1 q1
 | false=>exact hb pins s1 σ H1 D I1 q1
end
abbrev TG:=V->St->Hp->(St->Hp->Prop)->Prop
abbrev nk:=List V->St->Hp->(St->Hp->Prop)->Prop
def PG (X:Cx) (target:Expr) (t:TG):Prop:=
 ∀ (pins:List (Addr×Obj)) (s:Shared) (σ:St) (H:Hp) (v:V) (u:Value) (Q:St->Hp->Prop),Inv X pins σ H s->RelV v u->t v σ H Q->
  wpAny (model X.prog X.w) X.A (assign target X.env u) (fun _ s'=>∃ σ' H',Inv X pins σ' H' s'/\Q σ' H') X.xe s
def zu (X:Cx) (ts:List Expr) (t:nk):Prop:=
 ∀ (pins:List (Addr×Obj)) (s:Shared) (σ:St) (H:Hp) (vs:List V) (us:List Value) (Q:St->Hp->Prop),Inv X pins σ H s->aq vs us->t vs σ H Q->
  wpAny (model X.prog X.w) X.A (assignInOrder ((assignEach ts X.env).map (·.2)) us) (fun _ s'=>∃ σ' H',Inv X pins σ' H' s'/\Q σ' H') X.xe s
abbrev BX:=V->V->V->Hp->(Hp->Prop)->Prop
def Di (X:Cx) (t:BX):Prop:=
 ∀ (pins:List (Addr×Obj)) (s:Shared) (σ:St) (H:Hp) (o i v:V) (ov iv u:Value) (Q:Hp->Prop),Inv X pins σ H s->RelV o ov->RelV i iv->RelV v u->t o i v H Q->
  wpAny (model X.prog X.w) X.A (setItem ov iv u) (fun _ s'=>∃ H',Inv X pins σ H' s'/\Q H') X.xe s
section
variable {pos:Pos}
def jj (i:Nat):TG:=fun v σ H Q=>Q (σ.set i (some v)) H
theorem xQ (hN:X.N.Nodup) (hi:X.N[i]? =some x) (hx:Loc X.env.scope x) (hf:X.fn x=true\/X.env.scope.names.lookup x=some .local:=by first | exact .inl rfl | exact .inr rfl | assumption):PG X (.Name x pos) (jj i):=by
 intro pins s σ H v u Q I r h
 exact wpAny_assign_Name (nM I hN hi hx r (fun s' I'=>⟨_,H,I',h⟩) hf)
def Dj:nk:=fun vs σ H Q=>vs=[]/\Q σ H
def BY (t:TG) (u:nk):nk:=fun vs σ H Q=>∃ v r,vs=v::r/\t v σ H fun σ' H'=>u r σ' H' Q
theorem xI:zu X [] Dj:=by
 intro pins s σ H vs us Q I r h
 obtain ⟨e,h⟩:=h
 subst e
 cases r
 exact assignInOrder_nil ⟨σ,H,I,h⟩
theorem uU {t:TG} {u:nk} (h1:PG X e t) (h2:zu X es u)
  (hs:(assignEach (e::es) X.env).map (·.2)=assign e X.env::(assignEach es X.env).map (·.2):=by rfl):zu X (e::es) (BY t u):=by
 intro pins s σ H vs us Q I r h
 obtain ⟨v,vr,e1,h⟩:=h
 subst e1
 cases r with
 | cons r rr=>
  rw [hs]
  refine assignInOrder_cons (ai (h1 pins s σ H _ _ _ I r h) ?_)
  rintro _ s1 ⟨σ1,H1,I1,q1⟩
  exact h2 pins s1 σ1 H1 _ _ Q I1 rr q1
def AK (K:QZ) (n:Nat) (t:nk):TG:=fun v σ H Q=>∃ a xs,v=.ref a/\aj K H a xs/\xs.length=n/\t xs σ H Q
theorem yX {k:Nat} {t:nk} (hc:X.calm=true) (h:zu X es t)
  (hn:(assignEach es X.env).length=n:=by rfl) (gq:(assignEach es X.env).findIdx? (·.1)=none:=by rfl):PG X (.Tuple es k pos) (AK X.K n t):=by
 intro pins s σ H v u Q I r hw
 obtain ⟨a,xs,e1,hq,hl,hw⟩:=hw
 subst e1
 cases r
 obtain ⟨its,rv,ht,hz⟩:=I.tuple hq
 refine assign_Tuple_tuple (I.ok.hd hc) ht (by simp [hn,<- hl,rv.length]) gq fun h' hx=>?_
 have I1:Inv X pins σ H {s with heap:=h'}:=I.kept (t':=s.toks) fun b o e=>hx b o (Nat.ne_of_lt (Qz e)) e
 exact h pins _ σ H xs _ Q I1 (by simpa using rv) hw
def FE (to ti:TE) (t:BX):TG:=fun v σ H Q=>to σ H fun o H1=>ti σ H1 fun i H2=>t o i v H2 fun H3=>Q σ H3
theorem z9 {o i:Expr} {ti:TE} {t:BX} (ho:PE X o to) (hi:PE X i ti) (hs:Di X t)
  (ha:∀ v,assign (.Subscript o i pos) X.env v=(do
   let ov <- holding [v] (eval o X.env)
   let iv <- holding [v,ov] (eval i X.env)
   standAt pos
   holding [v,ov,iv] (setItem ov iv v)
   release [v,ov,iv] []):=by intro _;rfl):PG X (.Subscript o i pos) (FE to ti t):=by
 intro pins s σ H v u Q I r h
 rw [ha]
 refine QS (wpAny_holding (ai (ho pins s σ H _ I h) ?_))
 rintro ov s1 ⟨x,H1,I1,r1,q1⟩
 refine QS (wpAny_holding (ai (hi pins s1 σ H1 _ I1 q1) ?_))
 rintro iv s2 ⟨y,H2,I2,r2,q2⟩
 refine QS (wpAny_standAt (QS (wpAny_holding (ai (hs pins s2 σ H2 x y v ov iv u _ I2 r1 r2 r q2) ?_))))
 rintro _ s3 ⟨H3,I3,q3⟩
 exact wpAny_release ⟨σ,H3,I3,q3⟩
def uv (te:TE) (g:TG):TS:=fun D σ H=>te σ H fun x H1=>g x σ H1 D.nx
theorem zW {g:TG} (he:PE X e te) (hg:PG X tg g) (hs:swapsWithSole [tg] e pos.line X.env=pure false:=by rfl) (hw:swappedStores [tg] e X.env=pure none:=by rfl)
  (h1:(assignEach [tg] X.env).map (·.2)=[assign tg X.env]:=by rfl):PS X (.Assign [tg] e pos) (uv te g):=by
 intro pins s σ H D I h
 refine wpAny_Assign_stores (ai (he pins s σ H _ I h) fun v s1 ⟨x,H1,I1,r1,q1⟩=>?_) hs hw
 rw [h1]
 exact ai (hg pins s1 σ H1 x v _ I1 r1 q1) fun _ s2 q=>q
theorem yE {pos':Pos} (hN:X.N.Nodup) (hi:X.N[i]? =some x) (hx:Loc X.env.scope x) (he:PE X e te) (hs:swapsWith e (some (.Name x pos')) pos.line X.env=pure false:=by rfl) (hf:X.fn x=true\/X.env.scope.names.lookup x=some .local:=by first | exact .inl rfl | exact .inr rfl | assumption):
  PS X (.Assign [.Name x pos'] e pos) (uv te (jj i)):=by
 intro pins s σ H D I h
 refine wpAny_Assign_Name (ai (he pins s σ H _ I h) fun v s1 ⟨y,H1,I1,r1,q1⟩=>?_) hs
 exact nM I1 hN hi hx r1 (fun s2 I2=>⟨_,H1,I2,q1⟩) hf
end
structure It where
 go:Nat->Hp->Prop
 g_:Nat->Hp->V->Hp->Prop
 stop:Nat->Hp->Prop
def kh (X:Cx) (pins:List (Addr×Obj)) (H:Hp) (b:Addr):Prop:=
 H b=none/\b≠X.env.locals/\b ∉ X.fs/\(b∈X.ex\/X.s₀.heap.objs.size<=b)/\(∀ x c,X.env.cells.lookup x=some c->c≠b)/\∀ p∈X.pn++pins,p.1≠b
theorem Inv.sy (I:Inv X pins σ H s) (hb:s.heap.objs.size<=b) (hn:H' b=none):kh X pins H' b:=by
 refine ⟨hn,Nat.ne_of_gt (Nat.lt_of_lt_of_le I.lt hb),I.Jh hb,.inr (Nat.le_trans I.sz hb),fun x c e z=>?_,fun p hp z=>?_⟩
 ·obtain ⟨v,q⟩:=I.cell x c e
  exact absurd (Nat.lt_of_lt_of_le q.lt (by rw [z];exact hb)) (Nat.lt_irrefl _)
 ·exact absurd (Nat.lt_of_lt_of_le (Qz (I.pin p hp).1) (by rw [z];exact hb)) (Nat.lt_irrefl _)
structure Turn (P:Program) (w:World) (K:QZ) (tg:Expr) (J:It) (fp:List Addr) (it:Addr) (tn:Nat->Heap->Prop):Prop where
 mem:it∈fp
 obj:∀ i h,tn i h->∀ b∈fp,∃ o,h.get? b=some o/\∀ v,o.data≠.cell v
 keep:∀ i h h',tn i h->(∀ b∈fp,∀ o,h.get? b=some o->h'.get? b=some o)->tn i h'
 item:∀ (X:Cx),X.prog=P->X.w=w->X.K=K->X.calm=true->∀ (i:Nat) (pins:List (Addr×Obj)) (s:Shared) (σ:St) (H:Hp) (E:Value->Shared->Prop),Inv X pins σ H s->(∀ b∈fp,kh X pins H b)->tn i s.heap->J.go i H->
  wpAny (model P w) X.A (pyNext (.ref it)) (fun r s1=>∃ u,r=some u/\
   wpAny (model P w) X.A (letOwnedTupleGo tg (.ref it) u) (fun _ s2=>∃ x H',Inv X pins σ H' s2/\RelV x u/\J.g_ i H x H'/\tn (i+1) s2.heap/\∀ b∈fp,H' b=none) E s1) E s
 done:∀ (X:Cx),X.prog=P->X.w=w->X.K=K->X.calm=true->∀ (i:Nat) (pins:List (Addr×Obj)) (s:Shared) (σ:St) (H:Hp) (E:Value->Shared->Prop),Inv X pins σ H s->(∀ b∈fp,kh X pins H b)->tn i s.heap->J.stop i H->
  wpAny (model P w) X.A (pyNext (.ref it)) (fun r s1=>r=none/\Inv X pins σ H s1) E s
 self:∀ (A:Around) (i:Nat) (s:Shared) (Q:Value->Shared->Prop) (E:Value->Shared->Prop),tn i s.heap->Q (.ref it) s->wpAny (model P w) A (pyIter (.ref it)) Q E s
abbrev TI:=St->Hp->(It->Hp->Prop)->Prop
def zw (X:Cx) (pins:List (Addr×Obj)) (σ:St) (tg:Expr) (R:It->Hp->Prop) (ju:Value) (s2:Shared):Prop:=
 ∃ (it:Addr) (fp:List Addr) (tn:Nat->Heap->Prop) (J:It) (H':Hp),ju=.ref it/\Inv X pins σ H' s2/\Turn X.prog X.w X.K tg J fp it tn/\tn 0 s2.heap/\(∀ b∈fp,kh X pins H' b)/\R J H'
def PI (X:Cx) (tg iter:Expr) (wi:TI):Prop:=
 ∀ (pins:List (Addr×Obj)) (s:Shared) (σ:St) (H:Hp) (R:It->Hp->Prop),Inv X pins σ H s->wi σ H R->
  wpAny (model X.prog X.w) X.A (eval iter X.env) (fun v s1=>wpAny (model X.prog X.w) X.A (pyIter v) (zw X pins σ tg R) X.xe s1) X.xe s
theorem lC {M : Model} {A : Around} {E : Value -> Shared -> Prop} {s : Shared} {tg : Expr} {it : Addr} {u : Value} {o : Obj} {n : String} {vs : Array Value} {Q : Unit -> Shared -> Prop} (ho : s.heap.get? it = some o) (hc : o.cls = .type n) (hd : o.data = .fields vs)
    (hn : ["enumerate", "zip", "dict_itemiterator", "dict_reverseitemiterator", "odict_iterator", "itertools.zip_longest", "itertools.pairwise"].contains n = false) (hQ : Q () s) : wpAny M A (letOwnedTupleGo tg (.ref it) u) Q E s := by
  unfold letOwnedTupleGo
  cases tg <;> first
    | exact QT hQ
    | (cases u <;> first
        | exact QT hQ
        | (refine QS (wpAny_load ho ?_)
           rw [hc, hd]
           show wpAny M A (if (["enumerate", "zip", "dict_itemiterator", "dict_reverseitemiterator", "odict_iterator", "itertools.zip_longest", "itertools.pairwise"].contains n && vs[0]? == some (rawInt _)) = true then _ else _) Q E s
           rw [if_neg (by intro h; rw [hn, Bool.false_and] at h; cases h)]
           exact QT hQ))
def zx (K:QZ) (a:Addr):It:=
 ⟨fun i H=>∃ xs x,ae K H a xs/\xs[i]? =some x,fun i H x H'=>H'=H/\∀ xs,ae K H a xs->xs[i]? =some x,fun i H=>∃ xs,ae K H a xs/\xs.length<=i⟩
def zy (K:QZ) (a:Addr):It:=
 ⟨fun i H=>∃ xs x,aj K H a xs/\xs[i]? =some x,fun i H x H'=>H'=H/\∀ xs,aj K H a xs->xs[i]? =some x,fun i H=>∃ xs,aj K H a xs/\xs.length<=i⟩
def BZ (lo:Int) (n:Nat):It:=⟨fun i _=>i < n,fun i H x H'=>H'=H/\x=.int (lo+i),fun i _=>n<=i⟩
theorem sV {K:QZ} (a it:Addr):Turn P w K tg (zx K a) [it] it (fun i h=>h.IsListIter it a i) where
 mem:=by simp
 obj:=fun i h st b hb=>by
  have e:b=it:=by simpa using hb
  subst e
  obtain ⟨o,e,c,d⟩:=st
  exact ⟨o,e,fun v z=>by rw [d] at z;cases z⟩
 keep:=fun i h h' st k=>st.at fun o e=>k it (by simp) o e
 item:=by
  intro X hP hw hK hc i pins s σ H E I hf st hg
  subst hP hw hK
  obtain ⟨xs,x,hq,hx⟩:=hg
  obtain ⟨its,rv,p,hz⟩:=I.list hq
  obtain ⟨u,hu,ru⟩:=rv.get hx
  obtain ⟨f0,f1,f2,f3,f4,f5⟩:=hf it (by simp)
  refine wpAny_pyNext_list_item st p.isList (x:=u) (by simpa using hu) fun h' iw sb=>?_
  have I1:Inv X pins σ H {s with heap:=h'}:=I.turned (t':=s.toks) (fun b o hb e=>(sb.2 b hb).trans e) f0 f1 f3 f4 f5
  obtain ⟨o,e,c,d⟩:=id iw
  exact ⟨u,rfl,lC (s:={s with heap:=h'}) e c d (by decide) ⟨x,H,I1,ru,⟨rfl,fun ys hy=>by rw [I.BU hy hq];exact hx⟩,iw,fun b hb=>(hf b hb).1⟩⟩
 done:=by
  intro X hP hw hK hc i pins s σ H E I hf st hg
  subst hP hw hK
  obtain ⟨xs,hq,hx⟩:=hg
  obtain ⟨its,rv,p,hz⟩:=I.list hq
  obtain ⟨f0,f1,f2,f3,f4,f5⟩:=hf it (by simp)
  have hl:=rv.length
  exact wpAny_pyNext_list_end (I.ok.hd hc) st p.isList (by simp;omega) fun h' eb=>⟨rfl,I.turned (t':=s.toks) (fun b o hb e=>eb b o hb e) f0 f1 f3 f4 f5⟩
 self:=fun _ _ _ _ _ st h=>wpAny_pyIter_listiter st h
theorem pG {K:QZ} (a it:Addr):Turn P w K tg (zy K a) [it] it (fun i h=>h.IsTupleIter it a i) where
 mem:=by simp
 obj:=fun i h st b hb=>by
  have e:b=it:=by simpa using hb
  subst e
  obtain ⟨o,e,c,d⟩:=st
  exact ⟨o,e,fun v z=>by rw [d] at z;cases z⟩
 keep:=fun i h h' st k=>st.at fun o e=>k it (by simp) o e
 item:=by
  intro X hP hw hK hc i pins s σ H E I hf st hg
  subst hP hw hK
  obtain ⟨xs,x,hq,hx⟩:=hg
  obtain ⟨its,rv,p,hz⟩:=I.tuple hq
  obtain ⟨u,hu,ru⟩:=rv.get hx
  obtain ⟨f0,f1,f2,f3,f4,f5⟩:=hf it (by simp)
  refine wpAny_pyNext_tuple_item st (show s.heap.IsTuple a its.toArray from p) (x:=u) (by simpa using hu) fun h' iw sb=>?_
  have I1:Inv X pins σ H {s with heap:=h'}:=I.turned (t':=s.toks) (fun b o hb e=>(sb.2 b hb).trans e) f0 f1 f3 f4 f5
  obtain ⟨o,e,c,d⟩:=id iw
  exact ⟨u,rfl,lC (s:={s with heap:=h'}) e c d (by decide) ⟨x,H,I1,ru,⟨rfl,fun ys hy=>by rw [I.Jr hy hq];exact hx⟩,iw,fun b hb=>(hf b hb).1⟩⟩
 done:=by
  intro X hP hw hK hc i pins s σ H E I hf st hg
  subst hP hw hK
  obtain ⟨xs,hq,hx⟩:=hg
  obtain ⟨its,rv,p,hz⟩:=I.tuple hq
  obtain ⟨f0,f1,f2,f3,f4,f5⟩:=hf it (by simp)
  have hl:=rv.length
  exact wpAny_pyNext_tuple_end (I.ok.hd hc) st (show s.heap.IsTuple a its.toArray from p) (by simp;omega) fun h' eb=>⟨rfl,I.turned (t':=s.toks) (fun b o hb e=>eb b o hb e) f0 f1 f3 f4 f5⟩
 self:=fun _ _ _ _ _ st h=>wpAny_pyIter_tupleiter st h
theorem qH {K:QZ} (it:Addr) (lo:Int) (n:Nat):Turn P w K tg (BZ lo n) [it] it (fun i h=>IsRangeIter h it (lo+(i:Nat)*1) ((n:Int) - (i:Nat)) 1) where
 mem:=by simp
 obj:=fun i h st b hb=>by
  have e:b=it:=by simpa using hb
  subst e
  exact ⟨_,st,fun v z=>by
   have z':Data.fields _=Data.cell v:=z
   cases z'⟩
 keep:=fun i h h' st k=>k it (by simp) _ st
 item:=by
  intro X hP hw hK hc i pins s σ H E I hf st hg
  subst hP hw hK
  obtain ⟨f0,f1,f2,f3,f4,f5⟩:=hf it (by simp)
  have W:=Walks.range (prog:=X.prog) (w:=X.w) (I.ok.hd hc) it lo 1 n
  refine W.item i s _ _ hg st fun v h' tk hv iw kk=>?_
  obtain ⟨t,rfl⟩:=hv
  have I1:Inv X pins σ H {s with heap:=h',toks:=tk}:=I.turned (fun b o hb e=>kk b o (by simpa using hb) e) f0 f1 f3 f4 f5
  refine ⟨_,rfl,lC (s:={s with heap:=h',toks:=tk}) (n:="range_iterator") iw rfl rfl (by decide) ⟨.int (lo+i),H,I1,⟨t,?_⟩,⟨rfl,rfl⟩,iw,fun b hb=>(hf b hb).1⟩⟩
  rw [Int.mul_one]
 done:=by
  intro X hP hw hK hc i pins s σ H E I hf st hg
  subst hP hw hK
  obtain ⟨f0,f1,f2,f3,f4,f5⟩:=hf it (by simp)
  exact wpAny_pyNext_range_end (I.ok.hd hc) st (by have:n<=i:=hg;omega) fun h' eb=>⟨rfl,I.turned (t':=s.toks) (fun b o hb e=>eb b o hb e) f0 f1 f3 f4 f5⟩
 self:=fun _ _ _ _ _ st h=>wpAny_pyIter_rangeiter st h
theorem uY {R:It->Hp->Prop} {lo hi:Int} {t u v:Tok} {tk:Nat} (I:Inv X pins σ H s) (h1: -(2^62)<=lo) (h2:lo < 2^62) (h3: -(2^62)<=hi) (h4:hi < 2^62)
  (q:R (BZ lo (hi - lo).toNat) H):wpAny (model X.prog X.w) X.A (pyIter (.ref s.heap.objs.size)) (zw X pins σ tg R) E {s with heap:=s.heap.push {cls:=.type "range",data:=.fields #[.int lo t,.int hi u,.int 1 v]},toks:=tk}:=by
 refine wpAny_pyIter_range (IsRange.new ..) (small_one h1 h2 h3 h4) ?_
 have I1:Inv X pins σ H {s with heap:=s.heap.push {cls:=.type "range",data:=.fields #[.int lo t,.int hi u,.int 1 v]},toks:=tk}:=I.kept fun b o e=>Qc _ e
 refine ⟨(s.heap.push {cls:=.type "range",data:=.fields #[.int lo t,.int hi u,.int 1 v]}).objs.size,[(s.heap.push {cls:=.type "range",data:=.fields #[.int lo t,.int hi u,.int 1 v]}).objs.size],_,_,H,rfl,
  I1.kept (t':=tk) fun b o e=>Qc _ e,qH _ lo (hi - lo).toNat,?_,fun b hb=>?_,q⟩
 ·have e1:lo+((0:Nat):Int)*1=lo:=by simp
  have e2:(((hi - lo).toNat:Nat):Int) - ((0:Nat):Int)=Builtin.Range.rangeSize lo hi 1:=by rw [rangeSize_one];split<;>omega
  show IsRangeIter _ _ (lo+((0:Nat):Int)*1) ((((hi - lo).toNat:Nat):Int) - ((0:Nat):Int)) 1
  rw [e1,e2]
  exact Qd _ rfl
 ·have e:b=(s.heap.push {cls:=.type "range",data:=.fields #[.int lo t,.int hi u,.int 1 v]}).objs.size:=by simpa using hb
  subst e
  exact I1.sy (Qy _) (I1.hok.fresh (Qy _))
def FF (ta:TA):TI:=fun σ H R=>ta σ H fun vs H1=>∃ j:Int,vs=[.int j]/\ -(2^62)<=j/\j < 2^62/\R (BZ 0 j.toNat) H1
theorem tI {a:Expr} {p pos:Pos} (hg:Gl X "range") (hm:X.mg "range"=none) (ha:PA X [a] ta) (hs:starEach [a] X.env=[(false,eval a X.env)]:=by rfl):PI X tg (.Call (.Name "range" p) [a] [] pos) (FF ta):=by
 intro pins s σ H R I h
 refine Call_ (gS I hg hm boot_range (PyProof.Rows.callWith_type1 (ai (ha pos pins s σ H _ I h) fun us s1 ⟨vs,H1,I1,r1,q1⟩=>?_) hs rfl))
 obtain ⟨j,e,q1,q2,q⟩:=q1
 subst e
 cases r1 with
 | cons r rr=>
  cases rr
  obtain ⟨t,rfl⟩:=r
  exact call_range_1 (uY I1 (by omega) (by omega) q1 q2 (by simpa using q))
def FG (wi:TI) (g:TG) (tb:TS):TS:=fun D σ H=>wi σ H fun J H1=>∃ W:Nat->Nat->St->Hp->Prop,(∃ m,W 0 m σ H1)/\∀ i m σ H,W i m σ H->
 (J.stop i H/\D.nx σ H)\/(J.go i H/\∃ N:St->Hp->Prop,(∀ σ' H',N σ' H'->∃ m',m' < m/\W (i+1) m' σ' H')/\∀ x H',J.g_ i H x H'->g x σ H' fun σ2 H2=>tb {D with nx:=N,ct:=N,bk:=D.nx} σ2 H2)
def AL (fp:List Addr) (h:Heap):List (Addr×Obj):=fp.filterMap fun b=>(h.get? b).map fun o=>(b,o)
theorem eQ {o:Obj} (hb:b∈fp) (e:h.get? b=some o):(b,o)∈AL fp h:=List.mem_filterMap.mpr ⟨b,hb,by rw [e];rfl⟩
theorem rR {p:Addr×Obj} (hp:p∈AL fp h):p.1∈fp/\h.get? p.1=some p.2:=by
 obtain ⟨b,hb,e⟩:=List.mem_filterMap.mp hp
 cases q:h.get? b with
 | none=>rw [q] at e;cases e
 | some o=>
  rw [q] at e
  have e':(b,o)=p:=QD e
  subst e'
  exact ⟨hb,q⟩
theorem Inv.pinned (I:Inv X pins σ H s) (hf:∀ b∈fp,kh X pins H b) (ho:∀ b∈fp,∃ o,s.heap.get? b=some o/\∀ v,o.data≠.cell v):Inv X (pins++AL fp s.heap) σ H s:=
 I.Fi fun p hp=>(List.mem_append.mp hp).elim (fun z=>I.pin p (List.mem_append_right _ z)) fun z=>by
  obtain ⟨hb,e⟩:=rR z
  obtain ⟨f0,f1,f2,_⟩:=hf p.1 hb
  obtain ⟨o,e',d⟩:=ho p.1 hb
  rw [e] at e';cases e'
  exact ⟨e,f0,f1,f2,d⟩
theorem Inv.B0 {pl:List (Addr×Obj)} (I:Inv X (pins++pl) σ H s):Inv X pins σ H s:=I.Fi fun p hp=>I.pin p (List.mem_append_right _ (List.mem_append_left _ hp))
theorem zR {iter:Expr} {body:List Stmt} {wi:TI} {g:TG} {tb:TS} {pos:Pos} (hp:PassesOwn (model X.prog X.w) X.A X.env X.xe) (hc:X.calm=true) (hi:PI X tg iter wi) (hg:PG X tg g) (hb:iu X body tb)
  (hs:∀ x,foldedSetIterable iter X.env x=pure x:=by intro _;rfl):PS X (.For tg iter body [] pos) (FG wi g tb):=by
 intro pins s σ H D I h
 refine wpAny_For (ai (hi pins s σ H _ I h) fun v s1 h1=>ai h1 fun ju s2 h2=>?_) hs
 obtain ⟨it,fp,tn,J,H2,e,I2,T,xf,f2,W,⟨m0,w0⟩,turn⟩:=h2
 subst e
 -- OH stays true of FH OI objects through FH loop
 have xg:∀ {H':Hp},(∀ b∈fp,H' b=none)->∀ b∈fp,kh X pins H' b:=fun hn b hb=>⟨hn b hb,(f2 b hb).2⟩
 refine codeAny_forLoop_any (fun n s'=>∃ i σ' H',Inv X pins σ' H' s'/\tn i s'.heap/\(∀ b∈fp,H' b=none)/\W i n σ' H') ?_ m0 ⟨0,σ,H2,I2,xf,fun b hb=>(f2 b hb).1,w0⟩
 rintro n s3 ⟨i,σ3,H3,I3,AM,AN,w3⟩
 rcases turn i n σ3 H3 w3 with ⟨stop,qn⟩ | ⟨go,N,hN,step⟩
 ·refine wpAny_passesOwn hp (ai (T.done X rfl rfl rfl hc i pins s3 σ3 H3 X.xe I3 (xg AN) AM stop) ?_)
  rintro r s4 ⟨hr,I4⟩
  subst hr
  exact wpAny_execs_nil ⟨σ3,H3,I4,qn⟩
 ·refine wpAny_passesOwn hp (ai (T.item X rfl rfl rfl hc i pins s3 σ3 H3 X.xe I3 (xg AN) AM go) ?_)
  rintro r s4 ⟨u,hr,h4⟩
  subst hr
  refine wpAny_passesOwn hp (ai h4 ?_)
  rintro _ s5 ⟨x,H5,I5,r5,y5,xh,Dk⟩
  have Dl:=I5.pinned (xg Dk) (T.obj _ _ xh)
  refine wpAny_passesOwn hp (ai (hg _ s5 σ3 H5 x u _ Dl r5 (step x H5 y5)) ?_)
  rintro _ s6 ⟨σ6,H6,I6,q6⟩
  refine wpAny_passesOwn hp (ai (hb _ s6 σ6 H6 _ I6 q6) fun f s7 q7=>?_)
  have again:∀ {σ7:St} {H7:Hp},Inv X (pins++AL fp s5.heap) σ7 H7 s7->N σ7 H7->∃ m,m < n/\∃ i σ' H',Inv X pins σ' H' s7/\tn i s7.heap/\(∀ b∈fp,H' b=none)/\W i m σ' H':=fun {σ7 H7} I7 n7=>by
   obtain ⟨m',hm,w7⟩:=hN σ7 H7 n7
   refine ⟨m',hm,i+1,σ7,H7,I7.B0,T.keep _ _ _ xh fun b hb o e=>(I7.pin (b,o) (List.mem_append_right _ (List.mem_append_right _ (eQ hb e)))).1,fun b hb=>?_,w7⟩
   obtain ⟨o,e,d⟩:=T.obj _ _ xh b hb
   exact (I7.pin (b,o) (List.mem_append_right _ (List.mem_append_right _ (eQ hb e)))).2.1
  cases f with
  | next=>obtain ⟨σ7,H7,I7,n7⟩:=q7;exact again I7 n7
  | cont=>obtain ⟨σ7,H7,I7,n7⟩:=q7;exact again I7 n7
  | brk=>obtain ⟨σ7,H7,I7,q7⟩:=q7;exact ⟨σ7,H7,I7.B0,q7⟩
  | ret v=>obtain ⟨x7,σ7,H7,I7,r7,q7⟩:=q7;exact ⟨x7,σ7,H7,I7.B0,r7,q7⟩
abbrev R2:=V->V->Hp->VK->Prop
def bf (X:Cx) (f:Value->Value->Sem Value) (r:R2):Prop:=
 ∀ (pins:List (Addr×Obj)) (s:Shared) (σ:St) (H:Hp) (x y:V) (v u:Value) (Q:VK),Inv X pins σ H s->RelV x v->RelV y u->r x y H Q->
  wpAny (model X.prog X.w) X.A (f v u) (EP X pins σ Q) X.xe s
def iy (X:Cx) (f:Value) (r:List V->Hp->VK->Prop):Prop:=
 ∀ (pins:List (Addr×Obj)) (s:Shared) (σ:St) (H:Hp) (xs:List V) (us:List Value) (Q:VK),Inv X pins σ H s->aq xs us->r xs H Q->
  wpAny (model X.prog X.w) X.A (call f us) (EP X pins σ Q) X.xe s
def qh (r:R2) (ta tb:TE):TE:=fun σ H Q=>ta σ H fun x H1=>tb σ H1 fun y H2=>r x y H2 Q
def rI (C:Int->Int->Prop) (g:Int->Int->V):R2:=fun x y H Q=>∃ i j,x=.int i/\y=.int j/\C i j/\Q (g i j) H
def uw (g:Int->Int->V):R2:=fun x y H Q=>∃ i j,x=.int i/\y=.int j/\Q (g i j) H
section
variable {a b c:Expr} {ta tb tc:TE} {pos:Pos}
theorem Dm (ha:PE X a ta) (hb:PE X b tb) {R:V->V->Hp->Prop} (I:Inv X pins σ H s)
  (h:ta σ H fun x H1=>tb σ H1 fun y H2=>R x y H2) {Q:Value->Shared->Prop} {f:Value->Value->Sem Value}
  (hf:∀ v u s2 x y H2,Inv X pins σ H2 s2->RelV x v->RelV y u->R x y H2->wpAny (model X.prog X.w) X.A (f v u) Q X.xe s2):
  wpAny (model X.prog X.w) X.A (eval a X.env) (fun v s₁=>wpAny (model X.prog X.w) X.A (eval b X.env) (fun u s₂=>wpAny (model X.prog X.w) X.A (f v u) Q X.xe s₂) X.xe s₁) X.xe s:=by
 refine ai (ha pins s σ H _ I h) ?_
 rintro v s1 ⟨x,H1,I1,r1,q1⟩
 refine ai (hb pins s1 σ H1 _ I1 q1) ?_
 rintro u s2 ⟨y,H2,I2,r2,q2⟩
 exact hf v u s2 x y H2 I2 r1 r2 q2
theorem Jt {op:Operator} {r:R2} (ho:bf X (binaryOp op) r) (ha:PE X a ta) (hb:PE X b tb):PE X (.BinOp a op b pos) (qh r ta tb):=by
 intro pins s σ H Q I h
 exact wpAny_BinOp (Dm ha hb I h fun v u s2 x y H2 I2 rx ry q=>ho pins s2 σ H2 x y v u Q I2 rx ry q)
theorem B3 {f:Value->Value->Sem Value} {C:Int->Int->Prop} {g:Int->Int->Int}
  (rule:∀ (i j:Int) (t u:Tok) (s:Shared) (Q:Value->Shared->Prop) (E:Value->Shared->Prop),C i j->Q (.int (g i j) s.toks) {s with toks:=s.toks+1}->wpAny (model X.prog X.w) X.A (f (.int i t) (.int j u)) Q E s):
  bf X f (rI C fun i j=>.int (g i j)):=by
 intro pins s σ H x y v u Q I rx ry h
 obtain ⟨i,j,rfl,rfl,hc,q⟩:=h
 obtain ⟨t,rfl⟩:=rx
 obtain ⟨t',rfl⟩:=ry
 exact rule i j t t' s _ _ hc ⟨.int (g i j),H,I.tok _,⟨_,rfl⟩,q⟩
theorem FI {f:Value->Value->Sem Value} {g:Int->Int->Int}
  (rule:∀ (i j:Int) (t u:Tok) (s:Shared) (Q:Value->Shared->Prop) (E:Value->Shared->Prop),Q (.int (g i j) s.toks) {s with toks:=s.toks+1}->wpAny (model X.prog X.w) X.A (f (.int i t) (.int j u)) Q E s):
  bf X f (uw fun i j=>.int (g i j)):=by
 intro pins s σ H x y v u Q I rx ry h
 obtain ⟨i,j,rfl,rfl,q⟩:=h
 obtain ⟨t,rfl⟩:=rx
 obtain ⟨t',rfl⟩:=ry
 exact rule i j t t' s _ _ ⟨.int (g i j),H,I.tok _,⟨_,rfl⟩,q⟩
theorem B4 {f:Value->Value->Sem Value} {g:Int->Int->Bool}
  (rule:∀ (i j:Int) (t u:Tok) (s:Shared) (Q:Value->Shared->Prop) (E:Value->Shared->Prop),Q (.bool (g i j)) s->wpAny (model X.prog X.w) X.A (f (.int i t) (.int j u)) Q E s):
  bf X f (uw fun i j=>.bl (g i j)):=by
 intro pins s σ H x y v u Q I rx ry h
 obtain ⟨i,j,rfl,rfl,q⟩:=h
 obtain ⟨t,rfl⟩:=rx
 obtain ⟨t',rfl⟩:=ry
 exact rule i j t t' s _ _ ⟨.bl (g i j),H,I,rfl,q⟩
def Ju (i j:Int):Prop:=0 < j/\j < 1073741824
def FJ (i j:Int):Prop:=0<=j/\j<=1000000/\i.natAbs < 2^64
def B5 (i j:Int):Prop:=(-(2^64) < i/\i < 2^64)\/(-(2^64) < j/\j < 2^64)
theorem B5.ok {i j:Int} (h:B5 i j):IntMulOk i j:=by
 rcases h with ⟨h1,h2⟩ | ⟨h1,h2⟩
 ·exact .of_left (intBits_le_64 h1 h2)
 ·exact .of_right (intBits_le_64 h1 h2)
theorem Jv:bf X (binaryOp .Add) (uw fun i j=>.int (i+j)):=FI fun _ _ _ _ _ _ _ q=>add_int q
theorem y3:bf X (binaryOp .Sub) (uw fun i j=>.int (i - j)):=FI fun _ _ _ _ _ _ _ q=>sub_int q
theorem yI:bf X (binaryOp .Mult) (rI B5 fun i j=>.int (i*j)):=B3 fun _ _ _ _ _ _ _ hc q=>mul_int q hc.ok
theorem x9:bf X (binaryOp .FloorDiv) (rI Ju fun i j=>.int (i / j)):=B3 fun i j _ _ _ _ _ hc q=>by
 have h1:(0:Int) < j:=hc.1
 have h2:j < 1073741824:=hc.2
 exact floordiv_int (by omega) (by rw [Int.fdiv_eq_ediv_of_nonneg i (by omega)];exact q) (.inl (PyProof.noPylong_small (by omega)))
theorem zA:bf X (binaryOp .Mod) (rI (fun _ j=>0 < j) fun i j=>.int (i % j)):=B3 fun i j _ _ _ _ _ hc q=>by
 have h1:(0:Int) < j:=hc
 exact mod_int' (by omega) (by rw [Int.fmod_eq_emod_of_nonneg i (by omega)];exact q)
theorem Jw:bf X (binaryOp .Pow) (rI FJ fun i j=>.int (i^j.toNat)):=B3 fun _ _ _ _ _ _ _ hc q=>pow_int_small hc.1 hc.2.1 hc.2.2 q
end
def AO:V->V->Bool
 | .af,.af=>true | .af,.int _=>true | .int _,.af=>true | .af,.bl _=>true | .bl _,.af=>true | .af,.str _=>true | .str _,.af=>true
 | .int _,.int _=>true | .bl _,.bl _=>true | .str _,.str _=>true | .jq _,.jq _=>true
 | .int _,.str _=>true | .str _,.int _=>true | .bl _,.str _=>true | .str _,.bl _=>true
 | _,_=>false
def Jx:R2:=fun x y H Q=>AO x y=true/\Q (.bl (decide (x=y))) H
def Jy:R2:=fun x y H Q=>AO x y=true/\Q (.bl (!decide (x=y))) H
theorem qV {i j:Int}:decide (V.int i=V.int j)=(i==j):=by
 rw [Bool.eq_iff_iff]
 simp
theorem uB {i j:Bool}:decide (V.bl i=V.bl j)=(i==j):=by
 rw [Bool.eq_iff_iff]
 simp
theorem rG {i j:Str}:decide (V.str i=V.str j)=(i==j):=by
 rw [Bool.eq_iff_iff]
 simp
theorem qW {i j:Array UInt8}:decide (V.jq i=V.jq j)=(i.toList==j.toList):=by
 rw [Bool.eq_iff_iff]
 cases i
 cases j
 simp
section
variable {a b c:Expr} {ta tb tc:TE} {pos:Pos}
theorem aQ {Q:VK} {k k':Bool} (I:Inv X pins σ H s) (q:Q (.bl k) H) (e:k=k'):EP X pins σ Q (.bool k') s:=by
 subst e
 exact ⟨.bl k,H,I,rfl,q⟩
theorem Jz:bf X (compareOp .Eq) Jx:=by
 intro pins s σ H x y v u Q I rx ry h
 obtain ⟨hs,q⟩:=h
 cases x with
 | af=>
  cases rx
  cases y with
  | af=>cases ry;exact PySem.EqNone.eq_none_none (aQ I q (by simp))
  | bl j=>cases ry;exact PySem.EqNone.eq_none_bool (aQ I q (by simp))
  | int j=>obtain ⟨t',rfl⟩:=ry;exact PySem.EqNone.eq_none_int (aQ I q (by simp))
  | str j=>obtain ⟨t',rfl⟩:=ry;exact PySem.EqNone.eq_none_str (aQ I q (by simp))
  | _=>exact absurd (show false=true from hs) Bool.false_ne_true
 | bl i=>
  cases rx
  cases y with
  | af=>cases ry;exact PySem.EqNone.eq_bool_none (aQ I q (by simp))
  | bl j=>cases ry;exact eq_bool (aQ I q uB)
  | str j=>obtain ⟨t',rfl⟩:=ry;exact PySem.EqMixed.eq_bool_str (aQ I q (by simp))
  | _=>exact absurd (show false=true from hs) Bool.false_ne_true
 | int i=>
  obtain ⟨t,rfl⟩:=rx
  cases y with
  | af=>cases ry;exact PySem.EqNone.eq_int_none (aQ I q (by simp))
  | int j=>obtain ⟨t',rfl⟩:=ry;exact eq_int (aQ I q qV)
  | str j=>obtain ⟨t',rfl⟩:=ry;exact PySem.EqMixed.eq_int_str (aQ I q (by simp))
  | _=>exact absurd (show false=true from hs) Bool.false_ne_true
 | str i=>
  obtain ⟨t,rfl⟩:=rx
  cases y with
  | af=>cases ry;exact PySem.EqNone.eq_str_none (aQ I q (by simp))
  | bl j=>cases ry;exact PySem.EqMixed.eq_str_bool (aQ I q (by simp))
  | int j=>obtain ⟨t',rfl⟩:=ry;exact PySem.EqMixed.eq_str_int (aQ I q (by simp))
  | str j=>obtain ⟨t',rfl⟩:=ry;exact eq_str (aQ I q rG)
  | _=>exact absurd (show false=true from hs) Bool.false_ne_true
 | jq i=>
  obtain ⟨t,rfl⟩:=rx
  cases y with
  | jq j=>obtain ⟨t',rfl⟩:=ry;exact PySem.W.eq_bytes (aQ I q qW)
  | _=>exact absurd (show false=true from hs) Bool.false_ne_true
 | _=>cases y<;>exact absurd (show false=true from hs) Bool.false_ne_true
theorem JA:bf X (compareOp .NotEq) Jy:=by
 intro pins s σ H x y v u Q I rx ry h
 obtain ⟨hs,q⟩:=h
 cases x with
 | af=>
  cases rx
  cases y with
  | af=>cases ry;exact PySem.EqNone.ne_none_none (aQ I q (by simp))
  | bl j=>cases ry;exact PySem.EqNone.ne_none_bool (aQ I q (by simp))
  | int j=>obtain ⟨t',rfl⟩:=ry;exact PySem.EqNone.ne_none_int (aQ I q (by simp))
  | str j=>obtain ⟨t',rfl⟩:=ry;exact PySem.EqNone.ne_none_str (aQ I q (by simp))
  | _=>exact absurd (show false=true from hs) Bool.false_ne_true
 | bl i=>
  cases rx
  cases y with
  | af=>cases ry;exact PySem.EqNone.ne_bool_none (aQ I q (by simp))
  | bl j=>cases ry;exact ne_bool (aQ I q (congrArg not uB))
  | str j=>obtain ⟨t',rfl⟩:=ry;exact PySem.EqMixed.ne_bool_str (aQ I q (by simp))
  | _=>exact absurd (show false=true from hs) Bool.false_ne_true
 | int i=>
  obtain ⟨t,rfl⟩:=rx
  cases y with
  | af=>cases ry;exact PySem.EqNone.ne_int_none (aQ I q (by simp))
  | int j=>obtain ⟨t',rfl⟩:=ry;exact ne_int (aQ I q (congrArg not qV))
  | str j=>obtain ⟨t',rfl⟩:=ry;exact PySem.EqMixed.ne_int_str (aQ I q (by simp))
  | _=>exact absurd (show false=true from hs) Bool.false_ne_true
 | str i=>
  obtain ⟨t,rfl⟩:=rx
  cases y with
  | af=>cases ry;exact PySem.EqNone.ne_str_none (aQ I q (by simp))
  | bl j=>cases ry;exact PySem.EqMixed.ne_str_bool (aQ I q (by simp))
  | int j=>obtain ⟨t',rfl⟩:=ry;exact PySem.EqMixed.ne_str_int (aQ I q (by simp))
  | str j=>obtain ⟨t',rfl⟩:=ry;exact ne_str (aQ I q (congrArg not rG))
  | _=>exact absurd (show false=true from hs) Bool.false_ne_true
 | jq i=>
  obtain ⟨t,rfl⟩:=rx
  cases y with
  | jq j=>obtain ⟨t',rfl⟩:=ry;exact PySem.W.ne_bytes (aQ I q (congrArg not qW))
  | _=>exact absurd (show false=true from hs) Bool.false_ne_true
 | _=>cases y<;>exact absurd (show false=true from hs) Bool.false_ne_true
theorem JB:bf X (compareOp .Lt) (uw fun i j=>.bl (decide (i < j))):=B4 fun _ _ _ _ _ _ _ q=>lt_int q
theorem JC:bf X (compareOp .LtE) (uw fun i j=>.bl (decide (i<=j))):=B4 fun _ _ _ _ _ _ _ q=>le_int q
theorem JD:bf X (compareOp .Gt) (uw fun i j=>.bl (decide (j < i))):=B4 fun _ _ _ _ _ _ _ q=>gt_int q
theorem JE:bf X (compareOp .GtE) (uw fun i j=>.bl (decide (j<=i))):=B4 fun _ _ _ _ _ _ _ q=>ge_int q
theorem rV:bf X (compareOp .Lt) (fun x y H Q=>∃ i j,x=.str i/\y=.str j/\Q (.bl (decide (i.cps.toList < j.cps.toList))) H):=by
 intro pins s σ H x y v u Q I rx ry h
 obtain ⟨i,j,rfl,rfl,q⟩:=h
 obtain ⟨t,rfl⟩:=rx
 obtain ⟨t',rfl⟩:=ry
 exact lt_str (aQ I q rfl)
theorem tD:bf X (compareOp .In) (fun x y H Q=>∃ i j,x=.str i/\y=.str j/\Q (.bl (!(Builtin.Str.occurrences j i 0 j.length 1).isEmpty)) H):=by
 intro pins s σ H x y v u Q I rx ry h
 obtain ⟨i,j,rfl,rfl,q⟩:=h
 obtain ⟨t,rfl⟩:=rx
 obtain ⟨t',rfl⟩:=ry
 exact in_str (aQ I q rfl)
theorem lL:bf X (compareOp .NotIn) (fun x y H Q=>∃ i j,x=.str i/\y=.str j/\Q (.bl (!(!(Builtin.Str.occurrences j i 0 j.length 1).isEmpty))) H):=by
 intro pins s σ H x y v u Q I rx ry h
 obtain ⟨i,j,rfl,rfl,q⟩:=h
 obtain ⟨t,rfl⟩:=rx
 obtain ⟨t',rfl⟩:=ry
 exact notIn_str (aQ I q rfl)
theorem cz (b:Expr) (h:op≠.In:=by decide) (h2:op≠.NotIn:=by decide):behindInMarks op b=false:=by
 have e1:(op==CmpOp.In)=false:=by cases op<;>first | rfl | exact absurd rfl h
 have e2:(op==CmpOp.NotIn)=false:=by cases op<;>first | rfl | exact absurd rfl h2
 cases b<;>simp [behindInMarks,e1,e2]
theorem vX {r:R2} (ho:bf X (compareOp op) r) (ha:PE X a ta) (hb:PE X b tb) (hm:behindInMarks op b=false):PE X (.Compare a [op] [b] pos) (qh r ta tb):=by
 intro pins s σ H Q I h
 exact wpAny_Compare1 (Dm ha hb I h fun v u s2 x y H2 I2 rx ry q=>ho pins s2 σ H2 x y v u Q I2 rx ry q) hm
def zz (t:TE):TT:=fun σ H Q=>t σ H fun x H'=>∃ k,x=.bl k/\Q k H'
theorem wL {r:R2} (ho:bf X (compareOp op) r) (ha:PE X a ta) (hb:PE X b tb) (hm:behindInMarks op b=false):PT X (.Compare a [op] [b] pos) (zz (qh r ta tb)):=by
 intro pins s σ H Q I h
 refine wpAny_isTrue_Compare1 (ai (ha pins s σ H _ I h) fun v s1 ⟨x,H1,I1,r1,q1⟩=>ai (hb pins s1 σ H1 _ I1 q1) fun u s2 ⟨y,H2,I2,r2,q2⟩=>
  ai (ho pins s2 σ H2 x y v u _ I2 r1 r2 q2) fun c s3 ⟨z,H3,I3,r3,k,e,q3⟩=>?_) hm
 subst e
 cases r3
 exact wpAny_truthy_bool ⟨H3,I3,q3⟩
def FL (r r':R2) (ta tb tc:TE):TE:=fun σ H Q=>ta σ H fun x H1=>tb σ H1 fun y H2=>r x y H2 fun z H3=>∃ k,z=.bl k/\
 (if k=true then tc σ H3 fun w' H4=>r' y w' H4 Q else Q (.bl false) H3)
theorem uT {xj:CmpOp} {r r':R2} (ho:bf X (compareOp op) r) (ji:bf X (compareOp xj) r') (ha:PE X a ta) (hb:PE X b tb) (hc:PE X c tc)
  (hm:lastMarks [op,xj] [b,c]=false:=by with_unfolding_all rfl):PT X (.Compare a [op,xj] [b,c] pos) (zz (FL r r' ta tb tc)):=by
 intro pins s σ H Q I h
 refine isTrue_chain (ai (ha pins s σ H _ I h) fun v s1 ⟨x,H1,I1,r1,q1⟩=>test_link (ai (hb pins s1 σ H1 _ I1 q1) fun u s2 ⟨y,H2,I2,r2,q2⟩=>
  ai (ho pins s2 σ H2 x y v u _ I2 r1 r2 q2) fun d s3 ⟨z,H3,I3,r3,k,e,q3⟩=>?_)) hm
 subst e
 cases r3
 refine wpAny_truthy_bool ?_
 cases k with
 | false=>
  obtain ⟨k',e',q'⟩:=q3
  cases e'
  exact ite_ff ⟨H3,I3,q'⟩
 | true=>
  refine ite_tt (test_last (ai (hc pins s3 σ H3 _ I3 q3) fun w' s4 ⟨z',H4,I4,r4,q4⟩=>ai (ji pins s4 σ H4 y z' u w' _ I4 r2 r4 q4) fun d' s5 ⟨z2,H5,I5,r5,k2,e2,q5⟩=>?_))
  subst e2
  cases r5
  exact wpAny_truthy_bool ⟨H5,I5,q5⟩
theorem AQ:(sizeLine:Nat) < 2^63:=by rw [QK];decide
theorem qI:bf X (binaryOp .Add) (fun x y H Q=>∃ i j,x=.str i/\y=.str j/\i.length+j.length<=sizeLine/\Q (.str (i++j)) H):=by
 intro pins s σ H x y v u Q I rx ry h
 obtain ⟨i,j,rfl,rfl,hz,q⟩:=h
 obtain ⟨t,rfl⟩:=rx
 obtain ⟨t',rfl⟩:=ry
 exact add_str (fun t' tk=>⟨.str (i++j),H,I.tok _,⟨_,rfl⟩,q⟩) hz
theorem vals1 {x:V} (r:aq [x] us):∃ u,us=[u]/\RelV x u:=by
 cases r with
 | cons r1 r2=>cases r2;exact ⟨_,rfl,r1⟩
def JF (K:QZ) (x:V) (H:Hp) (n:Nat):Prop:=
 match x with
 | .str y=>y.length<=sizeLine/\n=y.length
 | .jq y=>y.size<=sizeLine/\n=y.size
 | .ref p=>(∃ xs,ae K H p xs/\n=xs.length)\/∃ xs,aj K H p xs/\n=xs.length
 | _=>False
theorem jH:iy X (.builtin "len") (fun xs H Q=>∃ x n,xs=[x]/\JF X.K x H n/\Q (.int n) H):=by
 intro pins s σ H xs us Q I r h
 obtain ⟨x,n,rfl,e,q⟩:=h
 obtain ⟨u,rfl,rx⟩:=vals1 r
 have hl:=AQ
 have hs:sizeLine=16777216:=QK
 cases x with
 | str y=>
  obtain ⟨t,rfl⟩:=rx
  obtain ⟨hy,e'⟩:y.length<=sizeLine/\n=y.length:=e
  subst e'
  exact len_str (by omega) ⟨.int _,H,I.tok _,⟨_,rfl⟩,q⟩
 | jq y=>
  obtain ⟨t,rfl⟩:=rx
  obtain ⟨hy,e'⟩:y.size<=sizeLine/\n=y.size:=e
  subst e'
  exact PySem.W.len_bytes (by omega) ⟨.int _,H,I.tok _,⟨_,rfl⟩,q⟩
 | ref p=>
  cases rx
  have e':(∃ xs,ae X.K H p xs/\n=xs.length)\/∃ xs,aj X.K H p xs/\n=xs.length:=e
  rcases e' with ⟨xs,hx,e'⟩ | ⟨xs,hx,e'⟩
  ·subst e'
   obtain ⟨its,r',pl,hz⟩:=I.list hx
   have dw:=r'.length
   exact Calls.call_len_list pl.isList (by simp only [List.size_toArray];omega) ⟨.int xs.length,H,I.tok _,⟨_,by simp only [List.size_toArray];rw [dw]⟩,q⟩
  ·subst e'
   obtain ⟨its,r',pl,hz⟩:=I.tuple hx
   have dw:=r'.length
   exact len_tuple pl (by simp only [List.size_toArray];omega) ⟨.int xs.length,H,I.tok _,⟨_,by simp only [List.size_toArray];rw [dw]⟩,q⟩
 | _=>exact (show False from e).elim
end
structure Dn (h:Heap) (x dx C:Addr) (mA:Str->Option Value):Prop where
 obj:h.get? x=some (PySem.W.instObj C dx)
 ns:h.Ns1 dx mA
 ne:dx≠x
theorem l5 {dx:Addr} (n:h.Ns1 dx mA):∃ od,h.get? dx=some od/\∀ name,PySem.W.lookIn name od=some (mA name):=by
 obtain ⟨o,es,ep,ho,hd,hk,_,hm⟩:=n
 refine ⟨o,ho,fun name=>?_⟩
 have e:=hm name
 unfold nsFind findBy at e
 rw [<- Array.find?_toList] at e
 unfold PySem.W.lookIn
 rw [hd]
 dsimp only
 split
 ·rename_i y q
  rw [q] at e
  exact congrArg some e
 ·rename_i q
  rw [q] at e
  have a:es.toList.any (·.refKey)=false:=by
   rw [List.any_eq_false]
   intro y hy
   obtain ⟨z,t,Dp⟩:=hk y (Array.mem_toList_iff.mp hy)
   simp [DictEntry.refKey,Dp]
  have a':¬es.toList.any (·.refKey)=true:=by rw [a];exact Bool.false_ne_true
  rw [if_neg a']
  exact congrArg some e
theorem Dn.look {x dx:Addr} (I:Dn h x dx C mA):∃ od,PySem.W.InstAt h x (PySem.W.instObj C dx) C (some od)/\∀ name,PySem.W.lookIn name od=some (mA name):=
 let ⟨od,ho,hl⟩:=l5 I.ns
 ⟨od,⟨I.obj,rfl,rfl,ho⟩,hl⟩
section
variable {K:QZ} {x dx:Addr}
end
theorem iq.some_of {v:V} {o:Option Value} (r:iq (some v) o):∃ u,o=some u/\RelV v u:=by
 cases o with
 | none=>exact (show False from r).elim
 | some u=>exact ⟨u,rfl,r⟩
theorem rW {v:V} (r:RelV v u):PySem.W.handedIn u=true:=by
 cases v with
 | af=>cases (show u=Value.none from r);rfl
 | bl b=>cases (show u=Value.bool b from r);rfl
 | int i=>obtain ⟨t,e⟩:=(show ∃ t,u=Value.int i t from r);cases e;rfl
 | str x=>obtain ⟨t,e⟩:=(show ∃ t,u=Value.str x t from r);cases e;rfl
 | jq b=>obtain ⟨t,e⟩:=(show ∃ t,u=Value.bytes b t from r);cases e;rfl
 | wo b=>obtain ⟨t,e⟩:=(show ∃ t,u=Value.float b t from r);cases e;rfl
 | ref a=>cases (show u=Value.ref a from r);rfl
 | ty n=>cases (show u=Value.type n from r);rfl
section
variable {dx:Addr} {fs Jf:List (Str×V)}
theorem x5 (hok:bh P w H h) (e:H a=some (.ins C dx fs)):∃ mA,Dn h a dx C mA/\(∀ f,iq (fs.lookup f) (mA f))/\PySem.Within mA (fs.map (·.1))/\fs.length<=1000/\H dx=some (.own a):=by
 obtain ⟨d,z,ne,ob,mA,n,r,q⟩:=(show a_ P w H h a (.ins C dx fs) from hok a _ e)
 exact ⟨mA,⟨ob,n,ne⟩,r,q,z,d⟩
end
structure Dq (K:QZ) (C:Addr):Prop where
 pg:PySem.W.plainGet K C Str.empty=true
 hd:PySem.W.hasDictIn K C=true
 po:PySem.W.plainOver K C=true
 sa:PySem.W.findIn K (.ref C) "__setattr__"=some (some (.builtin "object.__setattr__"))
theorem Dq.get {K:QZ} (c:Dq K C) (f:Str):PySem.W.plainGet K C f=true:=c.pg
def FN (K:QZ) (C:Addr) (f:Str):Prop:=PySem.W.findIn K (.ref C) f=some none
section
variable {dx:Addr} {fs:List (Str×V)} {f:Str} {v:V}
theorem wR {f:Str} {pos:Pos} (hb:attributeBase e f env (eval e env)=eval e env)
  (h:wpAny (model prog w) A (eval e env) (fun o s₁=>wpAny (model prog w) A (getAttr o f true) Q E s₁) E s):wpAny (model prog w) A (eval (.Attribute e f pos) env) Q E s:=
 Attribute_any_ h (by rw [arm_eval_Attribute,hb])
end
section
variable {o value:Expr} {f:Str} {pos pos' ux:Pos} {ta tv:TE}
end
section
variable {c:Value} {b:Bool}
inductive ki (K:QZ) (H:Hp):V->Value->Prop where
 | af:ki K H .af (.type "NoneType")
 | bl (x:Bool):ki K H (.bl x) (.type "bool")
 | int (i:Int):ki K H (.int i) (.type "int")
 | str (x:Str):ki K H (.str x) (.type "str")
 | wo (x:UInt64):ki K H (.wo x) (.type "float")
 | lst {a:Addr} {xs:List V} (e:H a=some (.lst xs)):ki K H (.ref a) (.type "list")
 | bq {a:Addr} {o:Obj} {xs:List V} (e:H a=some (.bq o (.lst xs))):ki K H (.ref a) (.type "list")
 | tup {a:Addr} {xs:List V} (e:H a=some (.tup xs)):ki K H (.ref a) (.type "tuple")
 | dK {a:Addr} {kvs:List (Key×V)} (e:H a=some (.dK kvs)):ki K H (.ref a) (.type "dict")
 | dT {a:Addr} {kvs:List (List Key×V)} (e:H a=some (.dT kvs)):ki K H (.ref a) (.type "dict")
 | ins {a C dx:Addr} {fs:List (Str×V)} (e:H a=some (.ins C dx fs)) (cl:Dq K C) (ha:PySem.W.findIn K (.ref C) "__class__"=some (some (.builtin "object.__class__")))
   (hn:PySem.W.specialIn K (.builtin "object.__class__") "__get__"=some (some (.builtin "getset_descriptor.__get__"))) (FO:PySem.W.takesIn K (.builtin "object.__class__")=some true)
   (hm:PySem.W.mroIn K C (.type "object")=some true):ki K H (.ref a) (.ref C)
theorem tP {x:V} {t:Value} (I:Inv X pins σ H s) (rx:RelV x u) (ty:ki X.K H x t) (e:PySem.W.kitOne X.K t c=some b) (h:∀ tk,Q (.bool b) {s with toks:=tk}):
  wpAny (model X.prog X.w) A (call (.builtin "isinstance") [u,c]) Q E s:=by
 cases ty with
 | af=>cases (show u=Value.none from rx);exact PySem.W.kia_one PySem.W.kitx_none I.bz True.intro e (fun z=>nomatch z) h
 | bl y=>cases (show u=Value.bool y from rx);exact PySem.W.kia_one PySem.W.kitx_bool I.bz True.intro e (fun z=>nomatch z) h
 | int i=>obtain ⟨t,q⟩:=(show ∃ t,u=Value.int i t from rx);cases q;exact PySem.W.kia_one PySem.W.kitx_int I.bz True.intro e (fun z=>nomatch z) h
 | str y=>obtain ⟨t,q⟩:=(show ∃ t,u=Value.str y t from rx);cases q;exact PySem.W.kia_one PySem.W.kitx_str I.bz True.intro e (fun z=>nomatch z) h
 | wo y=>obtain ⟨t,q⟩:=(show ∃ t,u=Value.float y t from rx);cases q;exact PySem.W.kia_one PySem.W.kitx_float I.bz True.intro e (fun z=>nomatch z) h
 | @lst a xs ea=>
  cases (show u=Value.ref a from rx)
  obtain ⟨_,_,n,_,h1⟩:=(show a_ X.prog X.w H s.heap a (.lst xs) from I.hok a _ ea)
  exact PySem.W.kia_one PySem.W.kitx_list I.bz ⟨_,h1,rfl⟩ e (fun z=>nomatch z) h
 | @bq a ob xs ea=>
  cases (show u=Value.ref a from rx)
  obtain ⟨_,_,_,n,_,h1⟩:=(show a_ X.prog X.w H s.heap a (.bq ob (.lst xs)) from I.hok a _ ea)
  exact PySem.W.kia_one PySem.W.kitx_list I.bz ⟨_,h1,rfl⟩ e (fun z=>nomatch z) h
 | @tup a xs ea=>
  cases (show u=Value.ref a from rx)
  obtain ⟨_,_,_,p⟩:=(show a_ X.prog X.w H s.heap a (.tup xs) from I.hok a _ ea)
  obtain ⟨o,h1,h2,_⟩:=p
  exact PySem.W.kia_one PySem.W.kitx_tuple I.bz ⟨o,h1,h2⟩ e (fun z=>nomatch z) h
 | @dK a kvs ea=>
  cases (show u=Value.ref a from rx)
  obtain ⟨_,_,vs,_,p⟩:=(show a_ X.prog X.w H s.heap a (.dK kvs) from I.hok a _ ea)
  obtain ⟨o,es,ep,h1,h2,_⟩:=p
  exact PySem.W.kia_one PySem.W.kitx_dict I.bz ⟨o,h1,h2.1⟩ e (fun z=>nomatch z) h
 | @dT a kvs ea=>
  cases (show u=Value.ref a from rx)
  obtain ⟨_,_,xs,_,o,es,ep,h1,h2,_⟩:=(show a_ X.prog X.w H s.heap a (.dT kvs) from I.hok a _ ea)
  exact PySem.W.kia_one PySem.W.kitx_dict I.bz ⟨o,h1,h2.1⟩ e (fun z=>nomatch z) h
 | @ins a C dx fs ea cl ha hn FO hm=>
  cases (show u=Value.ref a from rx)
  obtain ⟨mA,O,_⟩:=x5 I.hok ea
  obtain ⟨od,J,_⟩:=O.look
  exact PySem.W.kia_one (PySem.W.kitx_own (cl.get _) cl.hd ha hn FO hm) I.bz J e (fun z=>nomatch z) h
end
structure ck (k:Nat) (A:Around):Prop where
 hd:A.handled=none
 dp:A.depth+3*k+5 < recursionLimit
 un:A.units+16*k+200 < cLine
 gd:A.guards=some []
theorem ck.mono {k:Nat} (r:ck k A) (h:j<=k):ck j A:=⟨r.hd,by have:=r.dp;omega,by have:=r.un;omega,r.gd⟩
theorem ck.deeper {k:Nat} {A:Around} (r:ck (k+1) A) (env:Env):ck k (A.deeper env):=
 ⟨r.hd,by have:=r.dp;show A.depth+1+3*k+5 < _;omega,by have:=r.un;show A.units+3+16*k+200 < _;omega,r.gd⟩
theorem pF:(A.under (.builtin "type.__call__" ⟨.ref C::us,kw⟩)).depth=A.depth+1:=by
 first | rfl | simp [Around.under,Code.weight,Code.isCreation,Code.isGuard,Code.isCaller,Code.frames,Code.isFrame,guardIds]
theorem pW:(A.under (.builtin "type.__call__" ⟨.ref C::us,kw⟩)).units=A.units+1:=by
 first | rfl | simp [Around.under,Code.cUnits,Code.frames,Code.isFrame]
theorem oC (h:A.guards=some []):(A.under (.builtin "type.__call__" ⟨.ref C::us,kw⟩)).guards=some []:=by
 first | exact h | (simp [Around.under,pushGuards,Code.guards,Code.isGuard,guardIds,h])
theorem ck.make {k:Nat} (r:ck (k+1) A) (C:Addr) (us:List Value) (kw:List (Str×Value)):ck k (A.under (.builtin "type.__call__" ⟨.ref C::us,kw⟩)):=
 ⟨r.hd,by have:=r.dp;rw [pF];omega,by have:=r.un;rw [pW];omega,oC r.gd⟩
theorem ck.depth {k:Nat} {A:Around} (r:ck k A):A.depth < recursionLimit:=by have:=r.dp;omega
theorem ck.units {k:Nat} {A:Around} (r:ck k A):A.units+64 < cLine:=by have:=r.un;omega
def AR:TA:=fun _ H Q=>Q [] H
def iz (ta:TE) (tr:TA):TA:=fun σ H Q=>ta σ H fun x H1=>tr σ H1 fun xs H2=>Q (x::xs) H2
section
variable {pos:Pos}
theorem zD:PA X [] AR:=fun _ _ _ _ H Q I h=>Calls.spliced_nil ⟨[],H,I,.nil,h⟩
theorem cX (ha:PE X e te) (hr:PA X es t) (hs:starEach (e::es) X.env=(false,eval e X.env)::starEach es X.env:=by rfl):PA X (e::es) (iz te t):=by
 intro pos pins s σ H Q I h
 rw [hs]
 show wpAny _ _ (spliced ((false,eval e X.env)::backTo pos (starEach es X.env))) _ _ s
 refine Calls.spliced_cons (ai (ha pins s σ H _ I h) ?_)
 rintro u s1 ⟨x,H1,I1,r1,q1⟩
 exact ai (hr pos pins s1 σ H1 _ I1 q1) fun us s2 ⟨xs,H2,I2,r2,q2⟩=>⟨x::xs,H2,I2,.cons r1 r2,q2⟩
def B6 (t:TA):TE:=fun σ H Q=>t σ H fun xs H1=>xs.length<=sizeLine/\∀ p,H1 p=none->Q (.ref p) (upd H1 p (.tup xs))
def FP (t:TA):TE:=fun σ H Q=>t σ H fun xs H1=>xs.length<=sizeLine/\∀ p,H1 p=none->Q (.ref p) (upd H1 p (.lst xs))
theorem zN {x1} (h:PA X es t):PE X (.Tuple es x1 pos) (B6 t):=by
 intro pins s σ H Q I hq
 refine wpAny_Tuple_spliced (ai (h pos pins s σ H _ I hq) fun us s1 ⟨xs,H1,I1,r,z,q⟩=>⟨by rw [<- r.length];exact z,?_⟩)
 have hf:H1 s1.heap.objs.size=none:=I1.hok.fresh (Qy _)
 refine ⟨.ref s1.heap.objs.size,upd H1 s1.heap.objs.size (.tup xs),I1.laid (t':=s1.toks) (fun b u e=>Qc _ e) (Qy _) ?_,rfl,q _ hf⟩
 exact ⟨⟨z,zf.new rfl rfl⟩,us,r,⟨_,Qd _ rfl,rfl,_,rfl⟩⟩
theorem yD (h:PA X es t):PE X (.List es pos) (FP t):=by
 intro pins s σ H Q I hq
 refine wpAny_List_spliced (ai (h pos pins s σ H _ I hq) fun us s1 ⟨xs,H1,I1,r,z,q⟩=>⟨by rw [<- r.length];exact z,?_⟩)
 have hf:H1 s1.heap.objs.size=none:=I1.hok.fresh (Qy _)
 refine ⟨.ref s1.heap.objs.size,upd H1 s1.heap.objs.size (.lst xs),I1.laid (t':=s1.toks) (fun b u e=>Qc _ e) (Qy _) ?_,rfl,q _ hf⟩
 exact ⟨z,us,0,r,Qd _ rfl⟩
end
abbrev Sp:=List V->Hp->VK->XK->Prop
abbrev lq:=List Env->Hp->Shared->XK->Value->Shared->Prop
structure xm (P:Program) (w:World) (K:QZ) (mg:Str->Option Value) (base:Heap) (A:Around) (outer:List Env) (s:Shared) (H:Hp):Prop where
 frames:A.frames=some outer
 mod:Mod K mg base
 bs:∀ b o,base.get? b=some o->s.heap.get? b=some o/\H b=none
 nc:base.objs.size<=s.heap.objs.size
 jr:s.heap.FunFrames base outer
 sj:∀ b∈dm outer,H b=none
 hok:bh P w H s.heap
 bare:AllBare s.gens
def CE (outer:List Env) (P:Program) (w:World) (H:Hp) (s:Shared) (Q:VK) (u:Value) (s':Shared):Prop:=
 ∃ v H',s'.os=s.os/\AllBare s'.gens/\Un (dm outer) [] H H' s.heap s'.heap/\bh P w H' s'.heap/\RelV v u/\Q v H'
def CR (CX:lq) (outer:List Env) (P:Program) (w:World) (H:Hp) (s:Shared) (Q:VK) (E:XK) (r:Result) (s':Shared):Prop:=
 match r with
 | .ok (.ret u)=>CE outer P w H s Q u s'
 | .ok _=>False
 | .error e=>CX outer H s E e s'
structure kj (P:Program) (w:World) (K:QZ) (mg:Str->Option Value) (base:Heap) (CX:lq) (k:Nat) (f:Addr) (fd:FuncData) (ps:List Str) (sp:Sp):Prop where
 len:∀ vs H Q E,sp vs H Q E->vs.length=ps.length
 run:∀ (A:Around) (outer:List Env) (s:Shared) (H:Hp) (args:Args) (us:List Value) (vs:List V) (Q:VK) (E:XK),ck k A->xm P w K mg base A outer s H->BindsTo s fd args (ps.zip us)->aq vs us->sp vs H Q E->
  codeAny (model P w) A (.call (.ref f) args) (CR CX outer P w H s Q E) s
theorem kj.imp {K:QZ} {CX:lq} {k:Nat} {sp AS:Sp} (F:kj P w K mg base CX k f fd ps sp)
  (h:∀ vs H Q E,AS vs H Q E->sp vs H Q E):kj P w K mg base CX k f fd ps AS:=
 ⟨fun vs H Q E q=>F.len vs H Q E (h _ _ _ _ q),fun A outer s H args us vs Q E hr he hb hv hs=>F.run A outer s H args us vs Q E hr he hb hv (h _ _ _ _ hs)⟩
theorem xm.make {K:QZ} (e:xm P w K mg base A outer s H) (C:Addr) (us:List Value) (kw:List (Str×Value)):
  xm P w K mg base (A.under (.builtin "type.__call__" ⟨.ref C::us,kw⟩)) outer s H:=⟨by first | exact e.frames | (simpa [Around.under,Code.envs,Code.isFrame,pushEnvs] using e.frames),e.mod,e.bs,e.nc,e.jr,e.sj,e.hok,e.bare⟩
section
variable {s':Shared}
theorem Inv.Dr (I:Inv X pins σ H s):xm X.prog X.w X.K X.mg X.base X.A X.stack s H:=
 ⟨I.ok.frames,I.ok.mod,I.bs,Nat.le_trans I.ok.nc I.sz,I.stack,I.BR,I.hok,I.bare⟩
theorem Inv.after {Q:VK} (I:Inv X pins σ H s) (h:CE X.stack X.prog X.w H s Q u s'):EP X pins σ Q u s':=by
 obtain ⟨v,H',os,bare,un,hok,r,q⟩:=h
 obtain ⟨hh,g,d,t,JG⟩:=s'
 obtain rfl:JG=s.os:=os
 exact ⟨v,H',I.call (h':=hh) (g':=g) (d':=d) (t':=t) (ch:=[]) un hok bare (fun b z=>absurd z (by simp)),r,q⟩
end
def B7 (sp:Sp) (uy:List V) (E:XK) (t:TA):TE:=fun σ H Q=>t σ H fun vs H1=>sp (vs++uy) H1 Q E
def Binds (K:QZ) (fd:FuncData) (ps:List Str) (ds:List Value):Prop:=
 ∀ (s:Shared) (us:List Value),K.In s.heap->(us++ds).length=ps.length->BindsTo s fd ⟨us,[]⟩ (ps.zip (us++ds))
theorem Binds.all {K:QZ} (h:∀ us:List Value,us.length=ps.length->bindArgs fd ⟨us,[]⟩=pure (ps.zip us)):Binds K fd ps []:=fun s us _ hl=>by
 rw [List.append_nil] at hl ⊢
 exact .of_eq (h us hl)
def Ds (CX:lq) (X:Cx) (E:XK):Prop:=∀ (pins:List (Addr×Obj)) (σ:St) (H:Hp) (s:Shared) (e:Value) (s':Shared),Inv X pins σ H s->CX X.stack H s E e s'->X.xe e s'
section
variable {CX:lq} {k:Nat} {sp:Sp} {uy:List V} {ds:List Value} {E:XK} {m:Str} {p pos:Pos} {o:Expr} {ta:TE}
theorem zM {Q:VK} {vs:List V} (F:kj X.prog X.w X.K X.mg X.base CX k f fd ps sp) (hr:ck k X.A) (hb:Binds X.K fd ps ds) (hd:aq uy ds) (hx:Ds CX X E)
  (I:Inv X pins σ H s) (r:aq vs us) (h:sp (vs++uy) H Q E):wpAny (model X.prog X.w) X.A (call (.ref f) us) (EP X pins σ Q) X.xe s:=by
 have r2:aq (vs++uy) (us++ds):=r.append hd
 have hl:(us++ds).length=ps.length:=by rw [<- r2.length];exact F.len _ _ _ _ h
 refine wpAny_call (codeAny_mono (F.run X.A X.stack s H ⟨us,[]⟩ (us++ds) (vs++uy) Q E hr I.Dr (hb s us I.bz hl) r2 h) fun r s' hq=>?_)
 cases r with
 | error e=>exact hx pins σ H s e s' I hq
 | ok fl=>
  cases fl with
  | ret u=>exact I.after hq
  | next=>exact False.elim hq
  | brk=>exact False.elim hq
  | cont=>exact False.elim hq
theorem vZ (F:kj X.prog X.w X.K X.mg X.base CX k f fd ps sp) (hr:ck k X.A) (hg:Gl X x) (hm:X.mg x=some (.ref f)) (hk:PySem.W.keepIn X.K (.ref f)=true) (hb:Binds X.K fd ps ds) (hd:aq uy ds) (hx:Ds CX X E)
  (ha:PA X (e::es) t) (c_:(x==("__debug__":Str))=false:=by decide) (he:starEach (e::es) X.env=(false,eval e X.env)::starEach es X.env:=by rfl) (hpl:(backTo pos (starEach es X.env)).any (·.1)=false:=by rfl):
  PE X (.Call (.Name x p) (e::es) [] pos) (B7 sp uy E t):=by
 intro pins s σ H Q I h
 refine wpAny_Call_Name_kw (dW I hg hm ?_ c_)
 refine PySem.W.callWith_K (h₀:=X.base) I.ok.mod.zk hk (ai (ha pos pins s σ H _ I h) fun us s1 ⟨vs,H1,I1,r,q⟩=>⟨I1.bz,?_⟩) he hpl
 exact zM F hr hb hd hx I1 r q
end
section
variable {CX:lq} {k:Nat} {ks:List Str} {sp:Sp} {E:XK} {m:Str} {p pos OJ:Pos} {o:Expr} {OL:List Keyword} {ta:TE} {tk:TA} {nm:Option Str}
variable {g:List Value->List Value->List Value} {gV:List V->List V->List V}
end
structure cu (N P:List Str) (sc:Scope):Prop where
 kind:sc.kind=.function
 co:sc.isCoroutine=false
 gen:sc.isGenerator=false
 nd:N.Nodup
 pre:N.take P.length=P
 FQ:∀ x∈P,sc.names.lookup x=some .local\/sc.names.lookup x=some .cell
 JH:∀ y∈sc.names,y.2≠.free
theorem lE {kindOf:Str->Option NameKind} {x:Str}:∀ {binds:List (Str×Value)} {m:Str->Option Value},(∀ v,(x,v) ∉ binds)->bindL kindOf binds m x=m x
 | [],_,_=>rfl
 | (n,v)::r,m,h=>by
  unfold bindL
  rw [lE fun w hw=>h w (Qh _ hw)]
  split
  ·have:x≠n:=by rintro rfl;exact h v List.mem_cons_self
   simp [this]
  ·rfl
theorem l0 {kindOf:Str->Option NameKind} {x:Str}:∀ {binds:List (Str×Value)} {m:Str->Option Value},(∀ v,(x,v) ∉ binds)->bindC kindOf binds m x=m x
 | [],_,_=>rfl
 | (n,v)::r,m,h=>by
  unfold bindC
  rw [l0 fun w hw=>h w (Qh _ hw)]
  split
  ·rfl
  ·have:x≠n:=by rintro rfl;exact h v List.mem_cons_self
   simp [this]
theorem kP {kindOf:Str->Option NameKind} {x:Str} {v:Value}:∀ {P:List Str} {vs:List Value} {i:Nat} {m:Str->Option Value},P.Nodup->P[i]? =some x->vs[i]? =some v->kindOf x=some .local->
  bindL kindOf (P.zip vs) m x=some v
 | [],_,_,_,_,h,_,_=>by simp at h
 | _::_,[],_,_,_,_,h,_=>by simp at h
 | p::P,w::vs,0,m,nd,h1,h2,hk=>by
  simp at h1 h2;subst h1;subst h2
  show bindL kindOf ((p,w)::P.zip vs) m p=_
  unfold bindL
  rw [lE fun v hv=>(List.nodup_cons.mp nd).1 (List.of_mem_zip hv).1,if_pos hk]
  simp
 | p::P,w::vs,i+1,m,nd,h1,h2,hk=>by
  show bindL kindOf ((p,w)::P.zip vs) m x=_
  unfold bindL
  exact kP (i:=i) (List.nodup_cons.mp nd).2 (by simpa using h1) (by simpa using h2) hk
theorem kW {kindOf:Str->Option NameKind} {x:Str} {v:Value}:∀ {P:List Str} {vs:List Value} {i:Nat} {m:Str->Option Value},P.Nodup->P[i]? =some x->vs[i]? =some v->kindOf x≠some .local->
  bindC kindOf (P.zip vs) m x=some v
 | [],_,_,_,_,h,_,_=>by simp at h
 | _::_,[],_,_,_,_,h,_=>by simp at h
 | p::P,w::vs,0,m,nd,h1,h2,hk=>by
  simp at h1 h2;subst h1;subst h2
  show bindC kindOf ((p,w)::P.zip vs) m p=_
  unfold bindC
  rw [l0 fun v hv=>(List.nodup_cons.mp nd).1 (List.of_mem_zip hv).1,if_neg hk]
  simp
 | p::P,w::vs,i+1,m,nd,h1,h2,hk=>by
  show bindC kindOf ((p,w)::P.zip vs) m x=_
  unfold bindC
  exact kW (i:=i) (List.nodup_cons.mp nd).2 (by simpa using h1) (by simpa using h2) hk
def start (N:List Str) (vs:List V):St:=vs.map some++List.replicate (N.length - vs.length) none
def fg (CX:lq) (P:Program) (w:World) (K:QZ) (mg:Str->Option Value) (base:Heap) (N:List Str) (qual:Str) (scope:Scope) (f:Addr) (cd:Value) (A:Around) (outer:List Env) (s:Shared) (H:Hp) (E:XK):Cx where
 prog:=P
 w:=w
 K:=K
 mg:=mg
 base:=base
 A:=A.deeper (envOfC qual scope s.heap.objs.size f cd)
 N:=N
 s₀:=s
 H₀:=H
 env:=envOfC qual scope s.heap.objs.size f cd
 outer:=outer
 stack:=envOfC qual scope s.heap.objs.size f cd::outer
 ex:=[]
 calm:=true
 fn:=fun _=>true
 pn:=[]
 xe:=fun e s'=>wpAny (model P w) (A.deeper (envOfC qual scope s.heap.objs.size f cd)) (leaving (envOfC qual scope s.heap.objs.size f cd) e) (fun _ s''=>CX outer H s E e s'') (fun e' s''=>CX outer H s E e' s'') s'
theorem o9 (h:sc.names.lookup x=some .cell):∃ c,(cellsFrom n sc.names []).lookup x=some c:=by
 have q:=PySem.W.cellsFrom_some sc.names n [] (.inl h)
 exact Option.isSome_iff_exists.mp q
theorem tU {CX:lq} {K:QZ} {cd:Value} {s1:Shared} {E:XK} {vs:List V}
  (S:cu N ps scope) (hd:A.handled=none) (e0:xm P w K mg base A outer s H) (hl:vs.length=ps.length) (r:aq vs us)
  (x:InCallC s s.heap.objs.size (bindL (envOfC qual scope s.heap.objs.size f cd).kindOf (ps.zip us) fun _=>none) (cellsFrom (s.heap.objs.size+1) scope.names []) (bindC (envOfC qual scope s.heap.objs.size f cd).kindOf (ps.zip us) fun _=>none) s1):
  Inv (fg CX P w K mg base N qual scope f cd A outer s H E) [] (start N vs) H s1:=by
 have hpl:ps.length<=N.length:=by have:=congrArg List.length S.pre;rw [List.length_take] at this;omega
 obtain ⟨h1,tk,rfl,hk⟩:=x.done
 have AU:∀ b:Addr,b ∉ (fg CX P w K mg base N qual scope f cd A outer s H E).ex:=fun b z=>absurd (show b∈([]:List Addr) from z) (by simp)
 refine ⟨⟨e0.mod,S.kind,rfl,rfl,Qy _,fun y z c h1 h2=>?_,fun y hy=>?_,fun y c _ h=>?_,fun _=>hd,Around.frames_deeper e0.frames,.inr ⟨rfl,rfl⟩,fun b z=>absurd z (AU b),e0.bs,e0.nc,fun b _ _=>AU b,fun b z=>absurd z (AU b),e0.jr,e0.sj⟩,
  rfl,e0.bare,Un.kept hk,⟨_,x.toInCall.ns,fun i y v h1 h2 h3=>?_⟩,fun y c h=>⟨_,x.cell y c h⟩,e0.hok.fresh (Qy _),fun y c h=>?_,fun p hp=>absurd (show p∈([]:List (Addr×Obj)) from hp) (by simp),e0.hok.kept hk,?_⟩
 ·exact name_of_addr x.apart (PySem.mem_of_lookup h1) (PySem.mem_of_lookup h2)
 ·have hy:scope.names.lookup y=some .cell\/scope.names.lookup y=some .free:=hy
  rcases hy with hy | hy
  ·exact o9 hy
  ·exact absurd rfl (S.JH _ (PySem.mem_of_lookup hy))
 ·exact Nat.le_of_lt (x.above y c (PySem.mem_of_lookup h))
 ·have hi:i < vs.length:=by
   unfold start at h2
   by_cases hi:i < vs.length
   ·exact hi
   ·rw [List.getElem?_append_right (by simpa using hi)] at h2
    rw [List.getElem?_replicate] at h2
    split at h2<;>cases h2
  have ha:vs[i]? =some v:=by
   unfold start at h2
   rw [Qg (by simpa using hi),Qq] at h2
   cases e:vs[i]? with
   | none=>rw [e] at h2;cases h2
   | some a=>rw [e] at h2;cases h2;rfl
  obtain ⟨u,hu,rv⟩:=r.get ha
  have hp:ps[i]? =some y:=by
   rw [<- S.pre,List.getElem?_take_of_lt (by omega)];exact h1
  have FS:ps.Nodup:=by rw [<- S.pre];exact S.nd.sublist (List.take_sublist _ _)
  refine ⟨u,rv,?_⟩
  rcases S.FQ y (QC hp) with k | k
  ·exact .inl ⟨k,kP FS hp hu k⟩
  ·obtain ⟨c,e⟩:=o9 (n:=s.heap.objs.size+1) k
   refine .inr ⟨.inl k,c,e,?_⟩
   have q:=x.cell y c e
   rw [kW FS hp hu (by show scope.names.lookup y≠_;rw [k];decide)] at q
   exact q
 ·exact e0.hok.fresh (Nat.le_of_lt (x.above y c (PySem.mem_of_lookup h)))
 ·unfold start
  show _=N.length
  rw [Qk,Ql,List.length_replicate]
  omega
theorem xT {CX:lq} {K:QZ} {k:Nat} {params:Arguments} {body:List Stmt} {dV kV doc pm ak ct oc:Value} {an od:Option Addr}
  {gg:Array (Option Value)} {N ps:List Str} {sp:Sp} (lk:K.lookup f=some ⟨oc,od,.func (PySem.W.fnOf name qual params body scope dV kV doc pm an ak ct),gg⟩) (gz:PySem.W.codeIn K ak qual=true) (S:cu N ps scope)
  (len:∀ vs H Q E,sp vs H Q E->vs.length=ps.length)
  (nq:∀ (A:Around) (outer:List Env) (s:Shared) (H:Hp) (vs:List V) (Q:VK) (E:XK),ck k (A.deeper (envOfC qual scope s.heap.objs.size f ak))->sp vs H Q E->
   ∃ t,iu (fg CX P w K mg base N qual scope f ak A outer s H E) body t/\t {nx:=fun _ H'=>Q .af H',rt:=Q} (start N vs) H):
  kj P w K mg base CX (k+1) f (PySem.W.fnOf name qual params body scope dV kV doc pm an ak ct) ps sp:=by
 refine ⟨len,fun A outer s H args us vs Q E hr e0 hb r qi=>?_⟩
 have hl:=len _ _ _ _ qi
 have KX:K.In s.heap:=e0.mod.zk.keeps fun b o e=>(e0.bs b o e).1
 have lim:s.heap.NoLimit:=e0.mod.nolimit.keeps fun b o e=>(e0.bs b o e).1
 have JI:∀ y∈ps.zip us,scope.names.lookup y.1=some .local\/(scope.names.lookup y.1=some .cell/\((cellsFrom (s.heap.objs.size+1) scope.names []).lookup y.1).isSome=true):=fun ⟨n,v⟩ hy=>by
  rcases S.FQ n (List.of_mem_zip hy).1 with q | q
  ·exact .inl q
  ·exact .inr ⟨q,PySem.W.cellsFrom_some _ _ _ (.inl q)⟩
 refine codeAny_call_function hr.depth (KX _ _ lk) rfl S.co S.gen rfl (PySem.W.codeRec_of KX gz) (hb _ _ _ _ ?_)
 refine wpAny_newFunctionEnv_cells S.kind JI fun env he s1 x=>?_
 subst he
 refine ⟨lim.keeps x.toInCall.keep,codeAny_func ?_⟩
 obtain ⟨t,ht,hq⟩:=nq A outer s H vs Q E (hr.deeper _) qi
 have I:Inv (fg CX P w K mg base N qual scope f ak A outer s H E) [] (start N vs) H s1:=tU S hr.hd e0 hl r x
 refine wpAny_mono (ht [] s1 (start N vs) H _ I hq) (fun fl s' hs=>?_) fun e s' hs=>hs
 have fin:∀ {σ':St} {H':Hp} {v:V} {u:Value},Inv (fg CX P w K mg base N qual scope f ak A outer s H E) [] σ' H' s'->RelV v u->Q v H'->CE outer P w H s Q u s':=
  fun {σ' H' v u} J rv q=>⟨v,H',J.os,J.bare,J.base,J.hok,rv,q⟩
 cases fl with
 | ret u=>
  obtain ⟨v,σ',H',J,rv,q⟩:=hs
  exact fin J rv q
 | next=>
  obtain ⟨σ',H',J,q⟩:=hs
  exact fin (v:=V.af) (u:=Value.none) J rfl q
 | brk=>
  obtain ⟨_,_,_,q⟩:=hs
  exact False.elim q
 | cont=>
  obtain ⟨_,_,_,q⟩:=hs
  exact False.elim q
section
variable {p pos:Pos} {id:String} {r:List V->Hp->VK->Prop}
def B8 (r:List V->Hp->VK->Prop) (t:TA):TE:=fun σ H Q=>t σ H fun vs H1=>r vs H1 Q
theorem vK (hc:iy X (.builtin id) r) (hg:Gl X x) (hm:X.mg x=none) (hv:bootBuiltins x=some (.builtin id)) (ha:PA X (e::es) t) (hn:x≠"__name__":=by decide) (c_:(x==("__debug__":Str))=false:=by decide)
  (he:starEach (e::es) X.env=(false,eval e X.env)::starEach es X.env:=by rfl) (hpl:(backTo pos (starEach es X.env)).any (·.1)=false:=by rfl):PE X (.Call (.Name x p) (e::es) [] pos) (B8 r t):=by
 intro pins s σ H Q I h
 refine wpAny_Call_Name_kw (gS I hg hm hv ?_ hn c_)
 exact PyProof.Rows.callWith_builtin1 (ai (ha pos pins s σ H _ I h) fun us s1 ⟨vs,H1,I1,r1,q1⟩=>hc pins s1 σ H1 vs us Q I1 r1 q1) he hpl
theorem sH (hc:iy X (.type T) r) (hg:Gl X x) (hm:X.mg x=none) (hv:bootBuiltins x=some (.type T)) (ha:PA X (e::es) t) (hn:x≠"__name__":=by decide) (c_:(x==("__debug__":Str))=false:=by decide)
  (he:starEach (e::es) X.env=(false,eval e X.env)::starEach es X.env:=by rfl) (hpl:(backTo pos (starEach es X.env)).any (·.1)=false:=by rfl):PE X (.Call (.Name x p) (e::es) [] pos) (B8 r t):=by
 intro pins s σ H Q I h
 refine wpAny_Call_Name_kw (gS I hg hm hv ?_ hn c_)
 exact PyProof.Rows.callWith_type1 (ai (ha pos pins s σ H _ I h) fun us s1 ⟨vs,H1,I1,r1,q1⟩=>hc pins s1 σ H1 vs us Q I1 r1 q1) he hpl
end
end L2
namespace HT
open PySem PyProof.Rows
section
open PySem.SeqAt
open PySem.AutoSeq1 (wpAny_loadPart')
open PySem.MeetsSeq PySem.MeetsSeq2 PySem.MeetsSeq3
end
def ay (n d:Nat):Option Int->Nat
 | none=>d
 | some v=>if v < 0 then (v+(n:Int)).toNat else min v.toNat n
theorem nP (n d:Nat):ay n d none=d:=rfl
theorem gA (n d k:Nat):ay n d (some (k:Int))=min k n:=by
 show (if (k:Int) < 0 then ((k:Int)+(n:Int)).toNat else min (k:Int).toNat n)=min k n
 rw [if_neg (by omega),Int.toNat_natCast]
theorem zG (n d:Nat) (hd:d<=n) (o:Option Int):ay n d o<=n:=by
 cases o with
 | none=>exact hd
 | some v=>
  show (if v < 0 then (v+(n:Int)).toNat else min v.toNat n)<=n
  by_cases hv:v < 0
  ·rw [if_pos hv];omega
  ·rw [if_neg hv];exact Nat.min_le_right _ _
theorem rN (v:Int) (n d:Nat):(if v < 0 then max (v+(n:Int)) 0 else min v (n:Int))=((ay n d (some v):Nat):Int):=by
 show (if v < 0 then max (v+(n:Int)) 0 else min v (n:Int))=(((if v < 0 then (v+(n:Int)).toNat else min v.toNat n):Nat):Int)
 by_cases hv:v < 0
 ·simp only [if_pos hv];omega
 ·simp only [if_neg hv];omega
theorem pL (lo hi:Option Int) (n:Nat):Builtin.Slice.sliceAdjust lo hi 1 (n:Int)=(((ay n 0 lo:Nat):Int),((ay n n hi:Nat):Int)):=by
 have h1:¬((1:Int) < 0):=by omega
 unfold Builtin.Slice.sliceAdjust
 simp only [h1,if_false]
 refine Prod.ext ?_ ?_
 ·cases lo with
  | none=>rfl
  | some v=>exact rN v n 0
 ·cases hi with
  | none=>rfl
  | some v=>exact rN v n n
theorem qJ (i j:Nat):Builtin.Slice.slicePlaces (i:Int) (j:Int) 1=j - i:=by
 unfold Builtin.Slice.slicePlaces
 have h1:(1:Int) > 0:=by omega
 simp only [h1,if_true,Int.ediv_one]
 split<;>omega
theorem jP {o:Option Int} {Q:Option Int->Shared->Prop} (p:IsPart v o) (h:Q o s):wpAny (model prog w) A (Builtin.Slice.slicePartIndex v) Q E s:=by
 cases p with
 | none=>exact slicePart_none h
 | int i t=>exact slicePart_int h
theorem iH {sl:Addr} {vl vu:Value} {lo hi:Option Int} {Q:Int×Int×Nat->Shared->Prop} (hs:s.heap.IsSliceOf sl vl vu .none) (pl:IsPart vl lo) (pu:IsPart vu hi)
  (h:Q (((ay n 0 lo:Nat):Int),1,ay n n hi - ay n 0 lo) s):wpAny (model prog w) A (Builtin.Slice.sliceApplied (.ref sl) (pure (n:Int))) Q E s:=by
 obtain ⟨os,xn,FT,bw⟩:=id hs
 unfold Builtin.Slice.sliceApplied Builtin.Slice.sliceFields
 refine QS (QS (wpAny_field xn bw (x:=vl) rfl (QS (wpAny_field xn bw (x:=vu) rfl (QS (wpAny_field xn bw (x:=.none) rfl (QT ?_)))))))
 refine QS (slicePart_none ?_)
 show wpAny _ _ (if ((1:Int)==0)=true then _ else _) _ _ s
 rw [if_neg (by decide)]
 refine QS (jP pl (QS (jP pu (QS (QT ?_)))))
 show wpAny _ _ (match Builtin.Slice.sliceAdjust lo hi 1 (n:Int) with | (lo,hi)=>pure (lo,(1:Int),Builtin.Slice.slicePlaces lo hi 1)) _ _ s
 rw [pL lo hi n]
 show wpAny _ _ (pure (((ay n 0 lo:Nat):Int),(1:Int),Builtin.Slice.slicePlaces ((ay n 0 lo:Nat):Int) ((ay n n hi:Nat):Int) 1)) _ _ s
 rw [qJ]
 exact QT h
theorem uP (xs:Array Value) (i k:Nat):((List.range k).filterMap fun (m:Nat)=>xs[((i:Int)+(m:Int)*1).toNat]?).toArray=((xs.toList.drop i).take k).toArray:=by
 have e:(fun (m:Nat)=>xs[((i:Int)+(m:Int)*1).toNat]?)=fun m=>xs[i+m]?:=by
  funext m
  have:((i:Int)+(m:Int)*1).toNat=i+m:=by omega
  rw [this]
 rw [e]
 have:=pick_run xs i k
 rw [List.filterMap_map] at this
 have e2:((fun x=>xs[x]?)∘fun x=>i+x)=fun m=>xs[i+m]?:=rfl
 rw [e2] at this
 rw [this]
theorem iA {t sl:Addr} {items:Array Value} {vl vu:Value} {lo hi:Option Int} (ht:IsTup s.heap t items) (hs:s.heap.IsSliceOf sl vl vu .none) (pl:IsPart vl lo) (pu:IsPart vu hi)
  (hw:¬(ay items.size 0 lo=0/\ay items.size items.size hi=items.size))
  (h:Q (.ref s.heap.objs.size) {s with heap:=s.heap.push {cls:=.type "tuple",data:=.seq ((items.toList.drop (ay items.size 0 lo)).take (ay items.size items.size hi - ay items.size 0 lo)).toArray}})
  (hsz:items.size<=sizeLine):wpAny (model prog w) A (getItem (.ref t) (.ref sl)) Q E s:=by
 have B9:sizeOk (.seq ((items.toList.drop (ay items.size 0 lo)).take (ay items.size items.size hi - ay items.size 0 lo)).toArray):=by
  show ((items.toList.drop (ay items.size 0 lo)).take (ay items.size items.size hi - ay items.size 0 lo)).toArray.size<=sizeLine
  rw [List.size_toArray,List.length_take,List.length_drop,Array.length_toList]
  omega
 have hj:ay items.size items.size hi<=items.size:=zG _ _ (Qy _) hi
 obtain ⟨os,xn,FT,bw⟩:=id hs
 have JJ:s.TypeIs (.ref sl) "slice":=⟨os,xn,FT⟩
 unfold getItem
 try with_reducible refine wpAny_holding ?_
 first | refine QS (QT ?_) | skip
 refine QS (wpAny_sequenceKey ht.typeIs (by decide) ?_)
 refine QS (wpAny_callSpecial?_slot (name:=QL "__getitem__") ht.typeIs PyProof.Rows.slot_tuple_getitem
  (wpAny_call_entry PyProof.Rows.slot_tuple_getitem ht.typeIs entry_tuple_getitem ?_ (args_tuple_getitem _ _)))
 show wpAny _ _ (Builtin.Tuple.tupleItemsOf (.ref t) >>=_) _ _ s
 refine QS (tupleItemsOf_ ht ?_)
 refine QS (wpAny_typeOf JJ ?_)
 rw [if_pos (by decide)]
 refine QS (iH hs pl pu ?_)
 have JK:¬((((ay items.size 0 lo:Nat):Int)==0&&(1:Int)==1&&(ay items.size items.size hi - ay items.size 0 lo)==items.size)=true):=by
  intro q
  rw [Bool.and_eq_true,Bool.and_eq_true] at q
  have q1:((ay items.size 0 lo:Nat):Int)=0:=eq_of_beq q.1.1
  have q2:ay items.size items.size hi - ay items.size 0 lo=items.size:=eq_of_beq q.2
  exact hw ⟨by omega,by omega⟩
 show wpAny _ _ (if (((ay items.size 0 lo:Nat):Int)==0&&(1:Int)==1&&(ay items.size items.size hi - ay items.size 0 lo)==items.size)=true then _ else _) _ _ s
 rw [if_neg JK,uP]
 first
  | exact QS (m:=Builtin.Tuple.tupleExact _) (wpAny_newObj_type (QT ⟨_,rfl,QT h⟩) B9)
  | exact QS (m:=Builtin.Tuple.tupleExact _) (wpAny_newObj_type (QS (QT (QT ⟨_,rfl,QT h⟩))) B9)
  | exact QS (QS (m:=Builtin.Tuple.tupleExact _) (wpAny_newObj_type (QT (QT ⟨_,rfl,QT h⟩)) B9))
  | exact QS (QS (m:=Builtin.Tuple.tupleExact _) (wpAny_newObj_type (QT ⟨_,rfl,QT h⟩) B9))
end HT
namespace L2
open PySem PySem.Spec PyProof.Rows
abbrev TO:=St->Hp->(Option Int->Hp->Prop)->Prop
def PO (X:Cx) (e:Option Expr) (t:TO):Prop:=
 ∀ (pins:List (Addr×Obj)) (s:Shared) (σ:St) (H:Hp) (Q:Option Int->Hp->Prop),Inv X pins σ H s->t σ H Q->
  wpAny (model X.prog X.w) X.A (evalPart e X.env) (fun u s'=>∃ o H',Inv X pins σ H' s'/\IsPart u o/\Q o H') X.xe s
def FU:TO:=fun _ H Q=>Q none H
def FW (t:TE):TO:=fun σ H Q=>t σ H fun x H1=>∃ i,x=.int i/\Q (some i) H1
section
variable {lo hi:Option Expr} {tl th:TO} {pos p2:Pos}
theorem xD:PO X none FU:=by
 intro pins s σ H Q I h
 rw [evalPart_none]
 exact QT ⟨none,H,I,.none,h⟩
theorem wH (h:PE X e te):PO X (some e) (FW te):=by
 intro pins s σ H Q I hw
 rw [evalPart_some]
 refine ai (h pins s σ H _ I hw) ?_
 rintro u s1 ⟨x,H1,I1,r1,q1⟩
 obtain ⟨i,rfl,q⟩:=q1
 obtain ⟨t,rfl⟩:=r1
 exact ⟨some i,H1,I1,.int i t,q⟩
def nu (X:Cx) (r:V->Option Int->Option Int->Hp->VK->Prop):Prop:=
 ∀ (pins:List (Addr×Obj)) (s:Shared) (σ:St) (H:Hp) (x:V) (v vl vu:Value) (lo hi:Option Int) (sl:Addr) (Q:VK),Inv X pins σ H s->RelV x v->s.heap.IsSliceOf sl vl vu .none->IsPart vl lo->IsPart vu hi->r x lo hi H Q->
  ∃ T id,typeLookup (.type T) "__getitem__"=pure (some (.builtin id))/\s.TypeIs v T/\wpAny (model X.prog X.w) X.A (getItem v (.ref sl)) (EP X pins σ Q) X.xe s
theorem nu.or {r r':V->Option Int->Option Int->Hp->VK->Prop} (h:nu X r) (h':nu X r'):nu X (fun x lo hi H Q=>r x lo hi H Q\/r' x lo hi H Q):=by
 intro pins s σ H x v vl vu lo hi sl Q I rx hs pl pu q
 rcases q with q | q
 ·exact h pins s σ H x v vl vu lo hi sl Q I rx hs pl pu q
 ·exact h' pins s σ H x v vl vu lo hi sl Q I rx hs pl pu q
def FY (r:V->Option Int->Option Int->Hp->VK->Prop) (te:TE) (tl th:TO):TE:=fun σ H Q=>te σ H fun x H1=>tl σ H1 fun l H2=>th σ H2 fun u H3=>r x l u H3 Q
theorem uH {r:V->Option Int->Option Int->Hp->VK->Prop} (hr:nu X r) (he:PE X e te) (hl:PO X lo tl) (hu:PO X hi th):PE X (.Subscript e (.Slice lo hi none p2) pos) (FY r te tl th):=by
 intro pins s σ H Q I h
 refine Subscript_ (ai (he pins s σ H _ I h) ?_)
 rintro v s1 ⟨x,H1,I1,r1,q1⟩
 refine wpAny_Slice (ai (hl pins s1 σ H1 _ I1 q1) fun vl s2 ⟨l,H2,I2,pl,q2⟩=>ai (hu pins s2 σ H2 _ I2 q2) fun vu s3 ⟨u,H3,I3,pu,q3⟩=>?_)
 rw [evalPart_none]
 refine QT ?_
 have I4:Inv X pins σ H3 {s3 with heap:=s3.heap.push {cls:=.type "slice",data:=.fields #[vl,vu,.none]}}:=I3.kept (t':=s3.toks) fun b ob q=>Qc _ q
 obtain ⟨T,id,hT,ht,hg⟩:=hr pins {s3 with heap:=s3.heap.push {cls:=.type "slice",data:=.fields #[vl,vu,.none]}} σ H3 x v vl vu l u s3.heap.objs.size Q I4 r1 (Heap.IsSliceOf.new ..) pl pu q3
 show wpAny (model X.prog X.w) X.A (subscriptTail e (.Slice lo hi none p2) v (.ref s3.heap.objs.size)) (EP X pins σ Q) X.xe {s3 with heap:=s3.heap.push {cls:=.type "slice",data:=.fields #[vl,vu,.none]}}
 exact tail_any (ops:=[.ref s3.heap.objs.size,v]) ht hT hg (by with_unfolding_all rfl)
def dz (xs:List V) (lo hi:Option Int):List V:=(xs.drop (HT.ay xs.length 0 lo)).take (HT.ay xs.length xs.length hi - HT.ay xs.length 0 lo)
theorem dR (xs:List V) (lo hi:Option Int):(dz xs lo hi).length<=xs.length:=by
 unfold dz
 rw [List.length_take,List.length_drop]
 omega
def Du (K:QZ):V->Option Int->Option Int->Hp->VK->Prop:=fun x lo hi H Q=>∃ a xs,x=.ref a/\aj K H a xs/\
 ¬(HT.ay xs.length 0 lo=0/\HT.ay xs.length xs.length hi=xs.length)/\∀ p,H p=none->Q (.ref p) (upd H p (.tup (dz xs lo hi)))
theorem yS:nu X (Du X.K):=by
 intro pins s σ H x v vl vu lo hi sl Q I rx hs pl pu h
 obtain ⟨a,xs,rfl,hx,hw,q⟩:=h
 cases rx
 obtain ⟨its,r,ht,hz⟩:=I.tuple hx
 have dw:its.toArray.size=xs.length:=by rw [List.size_toArray];exact r.length.symm
 refine ⟨"tuple",_,PyProof.Rows.slot_tuple_getitem.lookup,ht.typeIs,?_⟩
 refine HT.iA ht hs pl pu (by rw [dw];exact hw) ?_ (by rw [dw];exact hz)
 rw [dw]
 refine ⟨.ref s.heap.objs.size,_,I.laid (t':=s.toks) (o:=.tup (dz xs lo hi)) (fun b ob q=>Qc _ q) (Qy _) ?_,rfl,q _ (I.hok.fresh (Qy _))⟩
 exact ⟨⟨Nat.le_trans (dR xs lo hi) hz,zf.new rfl rfl⟩,_,(r.drop (HT.ay xs.length 0 lo)).take (HT.ay xs.length xs.length hi - HT.ay xs.length 0 lo),IsTup.new _ _⟩
end
def ko (n:Nat) (i:Int):Option Nat:=if 0<=i then (if i < n then some i.toNat else none) else if -(n:Int)<=i then some (i+n).toNat else none
def gb {α:Type} (xs:List α) (i:Int):Option α:=(ko xs.length i).bind fun j=>xs[j]?
theorem m6 {i:Int} (h:ko n i=some j):seqIndex? i n=some j/\j < n/\ -(n:Int)<=i/\i < n:=by
 unfold ko at h
 by_cases h0:0<=i
 ·rw [if_pos h0] at h
  by_cases h1:i < n
  ·rw [if_pos h1] at h
   have e:i.toNat=j:=QD h
   exact ⟨by rw [seqIndex_of h0 h1,e],by omega,by omega,h1⟩
  ·rw [if_neg h1] at h;cases h
 ·rw [if_neg h0] at h
  by_cases h1: -(n:Int)<=i
  ·rw [if_pos h1] at h
   have e:(i+n).toNat=j:=QD h
   exact ⟨by rw [seqIndex_neg (by omega) h1,e],by omega,h1,by omega⟩
  ·rw [if_neg h1] at h;cases h
theorem lH {xs:List α} {i:Int} {v:α} (h:gb xs i=some v):∃ j,seqIndex? i xs.length=some j/\xs[j]? =some v/\j < xs.length/\ -(xs.length:Int)<=i/\i < xs.length:=by
 unfold gb at h
 cases e:ko xs.length i with
 | none=>rw [e] at h;cases h
 | some j=>
  rw [e] at h
  obtain ⟨h1,h2,h3,h4⟩:=m6 e
  exact ⟨j,h1,h,h2,h3,h4⟩
theorem fX {xs:List α} {v:α} (h:xs[j]? =some v):gb xs (j:Int)=some v:=by
 have hj:j < xs.length:=(List.getElem?_eq_some_iff.mp h).1
 have e:ko xs.length (j:Int)=some j:=by
  unfold ko
  rw [if_pos (by omega),if_pos (by omega)];simp
 unfold gb;rw [e];exact h
theorem vH (xs:List α) (v:α):gb (xs++[v]) (-1)=some v:=by
 have hl:(xs++[v]).length=xs.length+1:=by simp
 have e:ko (xs++[v]).length (-1)=some xs.length:=by
  unfold ko
  rw [hl,if_neg (by decide),if_pos (by omega)]
  congr 1
  omega
 unfold gb
 rw [e]
 show (xs++[v])[xs.length]? =some v
 simp
def FZ (b:Expr):Prop:=∀ o i,subscripted b false o i=operate [o,i] (getItem o i)
def xo (X:Cx) (r:R2):Prop:=
 ∀ (value slice:Expr) (pins:List (Addr×Obj)) (s:Shared) (σ:St) (H:Hp) (x y:V) (v u:Value) (Q:VK),Inv X pins σ H s->RelV x v->RelV y u->r x y H Q->
  subscripted slice false v u=operate [v,u] (getItem v u)->wpAny (model X.prog X.w) X.A (subscriptTail value slice v u) (EP X pins σ Q) X.xe s
def F0 (X:Cx) (id:String) (r:V->List V->Hp->VK->Prop):Prop:=
 ∀ (pins:List (Addr×Obj)) (s:Shared) (σ:St) (H:Hp) (x:V) (xs:List V) (v:Value) (us:List Value) (Q:VK),Inv X pins σ H s->RelV x v->aq xs us->r x xs H Q->
  wpAny (model X.prog X.w) X.A (call (.builtin id) (v::us)) (EP X pins σ Q) X.xe s
section
variable {a b:Expr} {ta tb:TE} {pos:Pos}
theorem JL {r:R2} (hr:xo X r) (ha:PE X a ta) (hb:PE X b tb) (hs:FZ b):PE X (.Subscript a b pos) (qh r ta tb):=by
 intro pins s σ H Q I h
 exact Subscript_ (Dm ha hb I h fun v u s2 x y H2 I2 rx ry q=>hr a b pins s2 σ H2 x y v u Q I2 rx ry q (hs _ _))
def JM (K:QZ):R2:=fun x y H Q=>∃ p xs i v,x=.ref p/\y=.int i/\ae K H p xs/\gb xs i=some v/\Q v H
def JN (K:QZ):R2:=fun x y H Q=>∃ p xs i v,x=.ref p/\y=.int i/\aj K H p xs/\gb xs i=some v/\Q v H
def JO:R2:=fun x y H Q=>∃ z i c,x=.str z/\y=.int i/\z.length<=sizeLine/\gb z.cps.toList i=some c/\Q (.str ⟨#[c]⟩) H
theorem wE:xo X (JM X.K):=by
 intro value slice pins s σ H x y v u Q I rx ry h hs
 obtain ⟨p,xs,i,z,rfl,rfl,hq,he,q⟩:=h
 cases rx
 obtain ⟨t,rfl⟩:=ry
 obtain ⟨its,r,pl,hz⟩:=I.list hq
 obtain ⟨j,h1,h2,h3,h4,h5⟩:=lH he
 obtain ⟨w,ew,kq⟩:=r.get h2
 have hl:=r.length
 have hn:=AQ
 have fin:EP X pins σ Q w s:=⟨z,H,I,kq,q⟩
 by_cases h0:0<=i
 ·have hj:i.toNat=j:=by
   rw [seqIndex_of h0 h5] at h1
   exact QD h1
  exact item_listR pl.isList h0 (by omega) (by rw [hj];simpa using ew) fin hs
 ·have hj:(i+(its.toArray.size:Int)).toNat=j:=by
   rw [seqIndex_neg (by omega) h4] at h1
   rw [List.size_toArray,<- hl]
   exact QD h1
  exact subscriptTail_builtinR (x:=w) pl.isList.typeIs slot_list_getitem.lookup
   (wpAny_getItem_list_neg (Q:=fun r s'=>r=w/\EP X pins σ Q r s') pl.isList (by omega) (by rw [List.size_toArray]<;>omega) (by omega) (by rw [hj];simpa using ew) ⟨rfl,fin⟩) hs
theorem JP:xo X (JN X.K):=by
 intro value slice pins s σ H x y v u Q I rx ry h hs
 obtain ⟨p,xs,i,z,rfl,rfl,hq,he,q⟩:=h
 cases rx
 obtain ⟨t,rfl⟩:=ry
 obtain ⟨its,r,pl,hz⟩:=I.tuple hq
 obtain ⟨j,h1,h2,h3,h4,h5⟩:=lH he
 obtain ⟨w,ew,kq⟩:=r.get h2
 have hl:=r.length
 have hn:=AQ
 have fin:EP X pins σ Q w s:=⟨z,H,I,kq,q⟩
 exact subscriptTail_builtinR (x:=w) pl.typeIs slot_tuple_getitem.lookup
  (getItem_tuple (j:=j) (Q:=fun r s'=>r=w/\EP X pins σ Q r s') pl (by omega) (by omega) (by rw [List.size_toArray,<- hl];exact h1) (by simpa using ew) ⟨rfl,fin⟩) hs
theorem zZ:xo X JO:=by
 intro value slice pins s σ H x y v u Q I rx ry h hs
 obtain ⟨z,i,c,rfl,rfl,hz,he,q⟩:=h
 obtain ⟨t,rfl⟩:=rx
 obtain ⟨t',rfl⟩:=ry
 obtain ⟨j,h1,h2,h3,h4,h5⟩:=lH he
 have hl:z.cps.toList.length=z.length:=by simp [Str.length]
 rw [hl] at h1 h4 h5
 have hn:=AQ
 exact tail_any (typeIs_str s z t) slot_str_getitem.lookup (getItem_str (c:=c) (by
  have e1:decide (i < -(2^63:Int))=false:=Qw (by omega)
  have e2:decide (i≥2^63)=false:=Qw (by omega)
  rw [e1,e2,Bool.or_false]) (by rw [h1];simpa using h2) ⟨.str ⟨#[c]⟩,H,I.tok _,⟨_,rfl⟩,q⟩) hs
theorem qL (its:List Value) (n j:Nat) (u:Value):Obj.mapSeq (·.setIfInBounds j u) {cls:=.type "list",data:=.seq its.toArray n}={cls:=.type "list",data:=.seq (its.set j u).toArray n}:=by
 simp [Obj.mapSeq]
theorem Inv.lst {pins:List (Addr×Obj)} {σ:St} {H:Hp} {s:Shared} {p:Addr} {xs:List V} (I:Inv X pins σ H s) (h:H p=some (.lst xs)):
  ∃ (its:List Value) (n:Nat),aq xs its/\s.heap.get? p=some {cls:=.type "list",data:=.seq its.toArray n}/\xs.length<=sizeLine:=by
 obtain ⟨z,its,n,r,e⟩:=I.hok p _ h
 exact ⟨its,n,r,e,z⟩
theorem Inv.JQ {xs ys:List V} {its its':List Value} {n':Nat} {f:Obj->Obj} (I:Inv X pins σ H s) (h:H p=some (.lst xs))
  (ho:s.heap.get? p=some {cls:=.type "list",data:=.seq its.toArray n}) (hf:f {cls:=.type "list",data:=.seq its.toArray n}={cls:=.type "list",data:=.seq its'.toArray n'}) (r:aq ys its') (hz:ys.length<=sizeLine) (t:Nat):
  Inv X pins σ (upd H p (.lst ys)) {s with heap:=s.heap.update p f,toks:=t}:=by
 have e:(s.heap.update p f).get? p=some {cls:=.type "list",data:=.seq its'.toArray n'}:=by
  rw [Heap.get?_update_self f ho (by rw [hf]<;>rfl),hf]
 refine I.write (x:=p) (e:=p) (by rw [h];trivial) (.inl rfl) (fun b u hb q=>(Heap.get?_update_other _ _ (Ne.symm hb)).trans q) ⟨_,e⟩ ?_
 exact ⟨hz,its',n',r,e⟩
def JR:V->V->V->Hp->(Hp->Prop)->Prop:=fun o i v H Q=>∃ p xs k j,o=.ref p/\i=.int k/\H p=some (.lst xs)/\ko xs.length k=some j/\Q (upd H p (.lst (xs.set j v)))
theorem kC:Di X JR:=by
 intro pins s σ H o i v ov iv u Q I ro ri rv h
 obtain ⟨p,xs,k,j,rfl,rfl,hp,hj,q⟩:=h
 cases ro
 obtain ⟨t,rfl⟩:=ri
 obtain ⟨its,n,r,ho,hz⟩:=I.lst hp
 obtain ⟨h1,h2,h3,h4⟩:=m6 hj
 have hl:=r.length
 have hn:=AQ
 have I':Inv X pins σ (upd H p (.lst (xs.set j v))) {s with heap:=s.heap.update p (Obj.mapSeq (·.setIfInBounds j u))}:=
  I.JQ hp ho (qL its n j u) (r.set rv j) (by rw [List.length_set];exact hz) s.toks
 by_cases h0:0<=k
 ·have hk:k.toNat=j:=by
   rw [seqIndex_of h0 h4] at h1
   exact QD h1
  exact PySem.W.ki_setAt ho h0 (by omega) (by rw [List.size_toArray,<- hl];exact h4) (by rw [hk];exact ⟨_,I',q⟩)
 ·have hk:(k+(its.toArray.size:Int)).toNat=j:=by
   rw [seqIndex_neg (by omega) h3] at h1
   rw [List.size_toArray,<- hl]
   exact QD h1
  exact PySem.W.ki_setBack ho (by omega) (by rw [List.size_toArray,<- hl];exact h3) (by omega) (by rw [hk];exact ⟨_,I',q⟩)
theorem lQ (lo hi:Option Int) (n:Nat):(sliceBounds lo hi none n).1=((HT.ay n 0 lo:Nat):Int)/\(sliceBounds lo hi none n).2.1=((HT.ay n n hi:Nat):Int)/\(sliceBounds lo hi none n).2.2=1:=by
 refine ⟨?_,?_,rfl⟩
 ·cases lo with
  | none=>simp [sliceBounds,HT.ay]
  | some i=>
   simp only [sliceBounds,HT.ay,Option.getD_none,show (1:Int) > 0 by decide,if_true]
   by_cases h:i < 0
   ·simp only [h,if_true]<;>omega
   ·simp only [h,if_false]<;>omega
 ·cases hi with
  | none=>simp [sliceBounds,HT.ay]
  | some i=>
   simp only [sliceBounds,HT.ay,Option.getD_none,show (1:Int) > 0 by decide,if_true]
   by_cases h:i < 0
   ·simp only [h,if_true]<;>omega
   ·simp only [h,if_false]<;>omega
theorem kG (its:List Value) (lo hi:Option Int):slicePick its.toArray lo hi none=((its.drop (HT.ay its.length 0 lo)).take (HT.ay its.length its.length hi - HT.ay its.length 0 lo)).toArray:=by
 obtain ⟨h1,h2,h3⟩:=lQ lo hi its.toArray.size
 unfold slicePick
 rw [h1,h2,h3]
 simp only [sliceRange_one,pick_run,List.size_toArray]<;>rfl
def Dv (K:QZ):V->Option Int->Option Int->Hp->VK->Prop:=fun x lo hi H Q=>∃ a xs,x=.ref a/\ae K H a xs/\∀ p,H p=none->Q (.ref p) (upd H p (.lst (dz xs lo hi)))
theorem wD:nu X (Dv X.K):=by
 intro pins s σ H x v vl vu lo hi sl Q I rx hs pl pu h
 obtain ⟨a,xs,rfl,hx,q⟩:=h
 cases rx
 obtain ⟨its,r,ht,hz⟩:=I.list hx
 have dw:=r.length
 refine ⟨"list",_,slot_list_getitem.lookup,ht.isList.typeIs,?_⟩
 refine wpAny_getItem_list_slice ht.isList hs pl pu .none (by simp) ?_ (by rw [List.size_toArray]<;>omega)
 rw [kG,<- dw]
 refine ⟨.ref s.heap.objs.size,_,I.laid (t':=s.toks) (o:=.lst (dz xs lo hi)) (fun b ob q=>Qc _ q) (Qy _) ?_,rfl,q _ (I.hok.fresh (Qy _))⟩
 exact ⟨Nat.le_trans (dR xs lo hi) hz,_,0,(r.drop (HT.ay xs.length 0 lo)).take (HT.ay xs.length xs.length hi - HT.ay xs.length 0 lo),Qd _ rfl⟩
def qj:V->Bool
 | .af=>true
 | .bl _=>true
 | .int _=>true
 | .str _=>true
 | _=>false
def nv:V->V->Bool
 | .af,.af=>true
 | .bl a,.bl b=>a==b
 | .bl a,.int b=>(if a then 1 else 0)==b
 | .int a,.bl b=>a==(if b then 1 else 0)
 | .int a,.int b=>a==b
 | .str a,.str b=>a==b
 | _,_=>false
theorem JS {y x:V} (ry:RelV y u) (rx:RelV x v) (fy:qj y=true) (fx:qj x=true):SeqAt.EqAt A s u v (nv y x):=by
 cases y with
 | af=>
  cases ry
  cases x with
  | af=>cases rx;exact SeqAt.EqAt.same _
  | bl b=>cases rx;exact SeqAt.EqAt.none_bool b
  | int b=>obtain ⟨t,rfl⟩:=rx;exact SeqAt.EqAt.none_int b t
  | str b=>obtain ⟨t,rfl⟩:=rx;exact SeqAt.EqAt.none_str b t
  | _=>exact absurd (show false=true from fx) Bool.false_ne_true
 | bl a=>
  cases ry
  cases x with
  | af=>cases rx;exact SeqAt.EqAt.bool_none a
  | bl b=>cases rx;exact SeqAt.EqAt.bool_bool a b
  | int b=>obtain ⟨t,rfl⟩:=rx;exact SeqAt.EqAt.bool_int a b t
  | str b=>obtain ⟨t,rfl⟩:=rx;exact SeqAt.EqAt.bool_str a b t
  | _=>exact absurd (show false=true from fx) Bool.false_ne_true
 | int a=>
  obtain ⟨t',rfl⟩:=ry
  cases x with
  | af=>cases rx;exact SeqAt.EqAt.int_none a t'
  | bl b=>cases rx;exact SeqAt.EqAt.int_bool a t' b
  | int b=>obtain ⟨t,rfl⟩:=rx;exact SeqAt.EqAt.int_int a t' b t
  | str b=>obtain ⟨t,rfl⟩:=rx;exact SeqAt.EqAt.int_str a t' b t
  | _=>exact absurd (show false=true from fx) Bool.false_ne_true
 | str a=>
  obtain ⟨t',rfl⟩:=ry
  cases x with
  | af=>cases rx;exact SeqAt.EqAt.str_none a t'
  | bl b=>cases rx;exact SeqAt.EqAt.str_bool a t' b
  | int b=>obtain ⟨t,rfl⟩:=rx;exact SeqAt.EqAt.str_int a t' b t
  | str b=>obtain ⟨t,rfl⟩:=rx;exact SeqAt.EqAt.str_str a t' b t
  | _=>exact absurd (show false=true from fx) Bool.false_ne_true
 | _=>exact absurd (show false=true from fy) Bool.false_ne_true
def jk (x:V) (u:Value):Bool:=match u with
 | .none=>nv .af x
 | .bool b=>nv (.bl b) x
 | .int i _=>nv (.int i) x
 | .str z _=>nv (.str z) x
 | _=>false
theorem u5 {x y:V} (r:RelV y u) (f:qj y=true):jk x u=nv y x:=by
 cases y with
 | af=>cases r;rfl
 | bl b=>cases r;rfl
 | int i=>obtain ⟨t,rfl⟩:=r;rfl
 | str z=>obtain ⟨t,rfl⟩:=r;rfl
 | _=>exact absurd (show false=true from f) Bool.false_ne_true
theorem hV {x:V}:∀ {xs:List V} {us:List Value},aq xs us->xs.all qj=true->us.any (jk x)=xs.any fun y=>nv y x
 | _,_,.nil,_=>rfl
 | y::xs,u::us,.cons r t,f=>by
  rw [List.all_cons,Bool.and_eq_true] at f
  rw [List.any_cons,List.any_cons,u5 r f.1,hV t f.2]
theorem fJ {A:Around} {s:Shared} {x:V} {v:Value} (rx:RelV x v) (fx:qj x=true):∀ {xs:List V} {us:List Value},aq xs us->xs.all qj=true->∀ u∈us,SeqAt.EqAt A s u v (jk x u)
 | _,_,.nil,_=>fun u hu=>by cases hu
 | y::xs,u::us,.cons r t,f=>fun u' hu=>by
  rw [List.all_cons,Bool.and_eq_true] at f
  rcases Qp.mp hu with rfl | hu
  ·rw [u5 r f.1];exact JS r rx f.1 fx
  ·exact fJ rx fx t f.2 u' hu
def uz (x:V) (xs:List V):Bool:=xs.any fun y=>nv y x
def F1 (K:QZ) (neg:Bool):R2:=fun x y H Q=>∃ p xs,y=.ref p/\(ae K H p xs\/aj K H p xs)/\qj x=true/\xs.all qj=true/\Q (.bl (if neg then !uz x xs else uz x xs)) H
theorem rU:bf X (compareOp .In) (F1 X.K false):=by
 intro pins s σ H x y v u Q I rx ry h
 obtain ⟨p,xs,rfl,hq,fx,fs,q⟩:=h
 cases ry
 rcases hq with hq | hq
 ·obtain ⟨its,r,pl,hz⟩:=I.list hq
  refine SeqAt.in_listAt (jk x) pl.isList (fun w hw=>fJ rx fx r fs w (by simpa using hw)) ⟨.bl _,H,I,rfl,?_⟩
  rw [show its.toArray.any (jk x)=its.any (jk x) by simp,hV r fs]
  exact q
 ·obtain ⟨its,r,pl,hz⟩:=I.tuple hq
  refine SeqAt.in_tupleAt (jk x) pl (fun w hw=>fJ rx fx r fs w (by simpa using hw)) ⟨.bl _,H,I,rfl,?_⟩
  rw [show its.toArray.any (jk x)=its.any (jk x) by simp,hV r fs]
  exact q
theorem m5:bf X (compareOp .NotIn) (F1 X.K true):=by
 intro pins s σ H x y v u Q I rx ry h
 obtain ⟨p,xs,rfl,hq,fx,fs,q⟩:=h
 cases ry
 rcases hq with hq | hq
 ·obtain ⟨its,r,pl,hz⟩:=I.list hq
  refine SeqAt.notIn_listAt (jk x) pl.isList (fun w hw=>fJ rx fx r fs w (by simpa using hw)) ⟨.bl _,H,I,rfl,?_⟩
  rw [show its.toArray.any (jk x)=its.any (jk x) by simp,hV r fs]
  exact q
 ·obtain ⟨its,r,pl,hz⟩:=I.tuple hq
  refine SeqAt.notIn_tupleAt (jk x) pl (fun w hw=>fJ rx fx r fs w (by simpa using hw)) ⟨.bl _,H,I,rfl,?_⟩
  rw [show its.toArray.any (jk x)=its.any (jk x) by simp,hV r fs]
  exact q
theorem m7:iy X (.type "list") (fun xs H Q=>∃ p ys,xs=[.ref p]/\(ae X.K H p ys\/aj X.K H p ys)/\∀ l,H l=none->Q (.ref l) (upd H l (.lst ys))):=by
 intro pins s σ H xs us Q I r h
 obtain ⟨p,ys,rfl,hq,q⟩:=h
 obtain ⟨u,rfl,rx⟩:=vals1 r
 cases rx
 have fin:∀ (its:List Value),aq ys its->ys.length<=sizeLine->∀ (h':Heap) (c':Nat),(∀ b o',s.heap.get? b=some o'->h'.get? b=some o')->
   h'.get? s.heap.objs.size=some {cls:=.type "list",dict:=none,data:=.seq its.toArray c',slots:=#[]}->EP X pins σ Q (.ref s.heap.objs.size) {s with heap:=h'}:=fun its r' hz h' c' kp e=>
  ⟨.ref s.heap.objs.size,_,I.laid (t':=s.toks) kp (Qy _) (show a_ X.prog X.w _ h' _ (.lst ys) from ⟨hz,its,c',r',e⟩),rfl,q _ (I.hok.fresh (Qy _))⟩
 rcases hq with hq | hq
 ·obtain ⟨its,r',pl,hz⟩:=I.list hq
  have dw:=r'.length
  obtain ⟨o,ho,hc,n,hd⟩:=pl.isList
  exact call_list_seq p (.inl rfl) ho hc hd (fun h' c' kp e=>fin its r' hz h' c' kp e) (by simp only [List.size_toArray]<;>omega)
 ·obtain ⟨its,r',pl,hz⟩:=I.tuple hq
  have dw:=r'.length
  obtain ⟨o,ho,hc,n,hd⟩:=pl
  exact call_list_seq p (.inr rfl) ho hc hd (fun h' c' kp e=>fin its r' hz h' c' kp e) (by simp only [List.size_toArray]<;>omega)
theorem kL:iy X (.type "tuple") (fun xs H Q=>∃ p ys,xs=[.ref p]/\((ae X.K H p ys/\∀ l,H l=none->Q (.ref l) (upd H l (.tup ys)))\/(aj X.K H p ys/\Q (.ref p) H))):=by
 intro pins s σ H xs us Q I r h
 obtain ⟨p,ys,rfl,h⟩:=h
 obtain ⟨u,rfl,rx⟩:=vals1 r
 cases rx
 rcases h with ⟨hq,q⟩ | ⟨hq,q⟩
 ·obtain ⟨its,r',pl,hz⟩:=I.list hq
  have dw:=r'.length
  refine call_tuple_list pl.isList (fun h' kp=>?_) (by simp only [List.size_toArray]<;>omega)
  have I1:Inv X pins σ H {s with heap:=h'}:=I.kept (t':=s.toks) kp
  have I2:Inv X pins σ (upd H h'.objs.size (.tup ys)) {s with heap:=h'.push {cls:=.type "tuple",data:=.seq its.toArray}}:=
   I1.laid (t':=s.toks) (fun b o e=>Qc _ e) (Qy _) (show a_ X.prog X.w _ _ _ (.tup ys) from ⟨⟨hz,zf.new rfl rfl⟩,its,r',IsTup.new _ _⟩)
  exact ⟨.ref h'.objs.size,_,I2,rfl,q _ (I1.hok.fresh (Qy _))⟩
 ·obtain ⟨its,r',pl,hz⟩:=I.tuple hq
  exact call_tuple_same pl ⟨.ref p,H,I,rfl,q⟩
def F2 (K:QZ) (T:String) (x:V) (H:Hp):Prop:=match x with
 | .str _=>T="str"
 | .int _=>T="int"
 | .ref p=>(T="list"/\∃ xs,ae K H p xs)\/(T="tuple"/\∃ o,K.lookup p=some o/\o.cls=.type "tuple"/\o.dict=none)\/
   (T="dict"/\((∃ kvs,H p=some (.dK kvs))\/∃ kvs,H p=some (.dT kvs)))\/(T="set"/\∃ S n,H p=some (.set S n))
 | _=>False
theorem z8 {x:V} (I:Inv X pins σ H s) (r:RelV x v) (ty:F2 X.K T x H):
  s.TypeIs v T/\∀ a,v=.ref a->∃ ob,s.heap.get? a=some ob/\ob.dict=none:=by
 cases x with
 | str z=>
  obtain ⟨t,rfl⟩:=r
  cases (show T="str" from ty)
  exact ⟨typeIs_str s z t,fun _ e=>nomatch e⟩
 | int i=>
  obtain ⟨t,rfl⟩:=r
  cases (show T="int" from ty)
  exact ⟨typeIs_int s i t,fun _ e=>nomatch e⟩
 | ref p=>
  cases r
  rcases ty with ⟨rfl,xs,hq⟩ | ⟨rfl,o,hk,hc,hd⟩ | ⟨rfl,hk⟩ | ⟨rfl,S,n,hk⟩
  ·obtain ⟨its,_,pl,_⟩:=I.list hq
   refine ⟨pl.isList.typeIs,fun a e=>?_⟩
   cases e
   obtain ⟨o,n,e,c,hd,_⟩:=pl
   exact ⟨o,e,hd⟩
  ·refine ⟨⟨o,I.bz p o hk,hc⟩,fun a e=>?_⟩
   cases e
   exact ⟨o,I.bz _ o hk,hd⟩
  ·have z:∃ o,s.heap.get? p=some o/\o.ExactDict:=by
    rcases hk with ⟨kvs,hk⟩ | ⟨kvs,hk⟩
    ·obtain ⟨_,_,_,_,o,_,_,e,ex,_⟩:=I.hok p _ hk
     exact ⟨o,e,ex⟩
    ·obtain ⟨_,_,_,_,o,_,_,e,ex,_⟩:=I.hok p _ hk
     exact ⟨o,e,ex⟩
   obtain ⟨o,e,ex⟩:=z
   refine ⟨⟨o,e,ex.1⟩,fun a e2=>?_⟩
   cases e2
   exact ⟨o,e,ex.2.1⟩
  ·obtain ⟨o,_,_,_,e,ex,_⟩:=I.hok p _ hk
   refine ⟨⟨o,e,ex.1⟩,fun a e2=>?_⟩
   cases e2
   exact ⟨o,e,ex.2.1⟩
 | _=>exact False.elim ty
def Dw (K:QZ) (T:String) (r:V->List V->Hp->VK->Prop) (to:TE) (t:TA):TE:=fun σ H Q=>to σ H fun x H1=>F2 K T x H1/\t σ H1 fun xs H2=>r x xs H2 Q
variable {o:Expr} {id:String} {r:V->List V->Hp->VK->Prop}
theorem JT (pa:PlainAttrs T) (slot:Slot T name id) (AV:typeOf (.builtin id)=pure (.type "method_descriptor")) (hm:F0 X id r) (ho:PE X o to) (ha:PA X (e::es) t)
  (AW:attributeBase o name X.env (eval o X.env)=eval o X.env:=by rfl)
  (AX:((backTo cpos (starEach (e::es) X.env)).all (fun x=> !x.1)&&(backToKw cpos (keywordEach [] X.env)).all (fun x=>x.1.isSome)
   &&decide ((e::es).length+([]:List Keyword).length+(if ([]:List Keyword).isEmpty then 0 else 1) < 30))=true:=by rfl)
  (AZ:(apos.endLine==cpos.line)=true:=by rfl) (hs:starEach (e::es) X.env=(false,eval e X.env)::starEach es X.env:=by rfl) (A0:(backTo cpos (starEach es X.env)).any (·.1)=false:=by rfl):
  PE X (.Call (.Attribute o name apos) (e::es) [] cpos) (Dw X.K T r to t):=by
 intro pins s σ H Q I h
 refine wpAny_Call_method_late AW AX AZ rfl (ai (ho pins s σ H _ I h) ?_)
 rintro v s1 ⟨x,H1,I1,r1,ty,q1⟩
 obtain ⟨h1,h2⟩:=z8 I1 r1 ty
 refine ⟨T,id,pa,slot,AV,h1,h2,?_⟩
 have hA:=ha cpos pins s1 σ H1 _ I1 q1
 rw [hs] at hA ⊢
 refine Calls.callWith_builtin (by show (false||(backTo cpos (starEach es X.env)).any (·.1))=false;rw [A0]<;>rfl) (Calls.evalArgs_plain ?_)
 exact ai hA fun us s2 ⟨vs,H2,I2,r2,q2⟩=>hm pins s2 σ H2 x vs v us Q I2 r1 r2 q2
/- xs.append(e),list.index on a OM tuple .. are F0 facts of 06m -/
end
def u_ (X:Cx) (id:String) (r:V->List V->Hp->VK->Prop):Prop:=
 ∀ (pins:List (Addr×Obj)) (s:Shared) (σ:St) (H:Hp) (x:V) (xs:List V) (v:Value) (us:List Value) (Q:VK),Inv X pins σ H s->RelV x v->aq xs us->r x xs H Q->
  wpAny (model X.prog X.w) X.A (call (.builtin id) (v::us)) (EP X pins σ Q) X.xe s
theorem aq.one {x:V} {us:List Value} (h:aq [x] us):∃ u,us=[u]/\RelV x u:=by
 cases h with
 | cons r t=>
  cases t
  exact ⟨_,rfl,r⟩
theorem aq.two {x y:V} (h:aq [x,y] us):∃ u v,us=[u,v]/\RelV x u/\RelV y v:=by
 cases h with
 | cons r t=>
  cases t with
  | cons q t=>
   cases t
   exact ⟨_,_,rfl,r,q⟩
theorem aq.eraseIdx:∀ {xs:List V} {us:List Value} (i:Nat),aq xs us->aq (xs.eraseIdx i) (us.eraseIdx i)
 | _,_,_,.nil=>.nil
 | _,_,0,.cons _ t=>t
 | _,_,i+1,.cons r t=>.cons r (aq.eraseIdx i t)
theorem kS {α:Type}:∀ (l:List α) (i:Nat),(l.eraseIdx i).length<=l.length
 | [],_=>Qy _
 | _::_,0=>Nat.le_succ _
 | _::r,i+1=>Nat.succ_le_succ (kS r i)
section
variable {l:Addr} {xs ys zs:List V}
theorem Inv.Dy {its its':List Value} {f:Array Value->Array Value} (I:Inv X pins σ H s) (hH:H l=some (.lst xs))
  (e:s.heap.get? l=some {cls:=.type "list",data:=.seq its.toArray n}) (hf:f its.toArray=its'.toArray) (hv:aq ys its') (hz:ys.length<=sizeLine):
  Inv X pins σ (upd H l (.lst ys)) {s with heap:=s.heap.update l (Obj.mapSeq f),toks:=t'}:=by
 have q:=PySem.IsL.update e f
 rw [hf] at q
 refine I.write (x:=l) (e:=l) (by rw [hH];exact trivial) (.inl rfl) (fun b' u hb hu=>(Heap.get?_update_other s.heap (Obj.mapSeq f) (Ne.symm hb)).trans hu) ⟨_,q⟩ ?_
 exact ⟨hz,its',_,hv,q⟩
theorem Inv.JU {its:List Value} (I:Inv X pins σ H s) (hv:aq ys its) (hz:ys.length<=sizeLine):
  Inv X pins σ (upd H s.heap.objs.size (.lst ys)) {s with heap:=s.heap.push {cls:=.type "list",data:=.seq its.toArray},toks:=t'}:=
 I.laid (fun _ _ q=>Qc _ q) (Qy _) ⟨hz,its,0,hv,Qd _ rfl⟩
theorem Inv.fresh (I:Inv X pins σ H s):H s.heap.objs.size=none:=I.hok.fresh (Qy _)
theorem Inv.A1 (I:Inv X pins σ H s) (hH:H l=some (.lst xs)):xs.length<=sizeLine/\∃ (its:List Value) (n:Nat),aq xs its/\xs.length=its.length/\s.heap.get? l=some {cls:=.type "list",data:=.seq its.toArray n}:=by
 obtain ⟨z,its,n,r,e⟩:=I.hok l _ hH
 exact ⟨z,its,n,r,r.length,e⟩
end
def JV:V->List V->Hp->VK->Prop:=fun x vs H Q=>∃ l xs y,x=.ref l/\vs=[y]/\H l=some (.lst xs)/\xs.length < sizeLine/\Q .af (upd H l (.lst (xs++[y])))
theorem cO:u_ X "list.append" JV:=by
 intro pins s σ H x vs v us Q I rx rv h
 obtain ⟨l,xs,y,rfl,rfl,hH,hz,q⟩:=h
 cases rx
 obtain ⟨u,rfl,ru⟩:=rv.one
 obtain ⟨z,its,n,r,hl,e⟩:=I.A1 hH
 refine call_meets F.slot_list_append ⟨_,e,rfl⟩ F.entry_list_append (F.args_list_append_2 _ _) (PySem.list_append l its.toArray n u (by rw [List.size_toArray];omega)) ⟨e,?_⟩
 refine ⟨.af,_,I.Dy (its':=its++[u]) hH e (by simp) (r.append (.cons ru .nil)) ?_,rfl,q⟩
 rw [Qk,List.length_singleton]
 omega
def JW:V->List V->Hp->VK->Prop:=fun x vs H Q=>∃ l xs i k y,x=.ref l/\vs=[.int i]/\H l=some (.lst xs)/\ -(2^63)<=i/\i < 2^63/\seqIndex? i xs.length=some k/\xs[k]? =some y/\Q y (upd H l (.lst (xs.eraseIdx k)))
theorem vB:u_ X "list.pop" JW:=by
 intro pins s σ H x vs v us Q I rx rv h
 obtain ⟨l,xs,i,k,y,rfl,rfl,hH,h1,h2,hk,hy,q⟩:=h
 cases rx
 obtain ⟨u,rfl,ru⟩:=rv.one
 obtain ⟨t,rfl⟩:=ru
 obtain ⟨z,its,n,r,hl,e⟩:=I.A1 hH
 obtain ⟨w,hw,kq⟩:=r.get hy
 refine call_meets F.slot_list_pop ⟨_,e,rfl⟩ F.entry_list_pop (F.args_list_pop_2 _ _)
  (MeetsSeq.list_pop_at l its.toArray n i t k w (fitsIndex_both h1 h2) (by rw [List.size_toArray,<- hl];exact hk) (by rw [<- Array.getElem?_toList];exact hw) (by rw [List.size_toArray];omega)) ⟨e,?_⟩
 refine ⟨y,_,I.Dy (its':=its.eraseIdx k) hH e ?_ (r.eraseIdx k) ?_,kq,q⟩
 ·show its.toArray.eraseIdxIfInBounds k=(its.eraseIdx k).toArray
  rw [List.eraseIdxIfInBounds_toArray]
 ·have:=kS xs k
  omega
def JX:R2:=fun x y H Q=>∃ l b xs zs,x=.ref l/\y=.ref b/\H l=some (.lst xs)/\H b=some (.lst zs)/\xs.length+zs.length<=sizeLine/\∀ p,H p=none->Q (.ref p) (upd H p (.lst (xs++zs)))
theorem zT:bf X (binaryOp .Add) JX:=by
 intro pins s σ H x y v u Q I rx ry h
 obtain ⟨l,b,xs,zs,rfl,rfl,hH,hB,hz,q⟩:=h
 cases rx
 cases ry
 obtain ⟨z,its,n,r,hl,e⟩:=I.A1 hH
 obtain ⟨z2,its2,n2,r2,gr,e2⟩:=I.A1 hB
 refine PySem.P.add_list e e2 ?_ (by rw [List.size_toArray,List.size_toArray];omega)
 have ea:its.toArray++its2.toArray=(its++its2).toArray:=by simp
 rw [ea]
 exact ⟨.ref _,_,I.JU (t':=s.toks) (r.append r2) (by rw [Qk];omega),rfl,q _ I.fresh⟩
section
variable {κ:Type} [DecidableEq κ]
def be (kvs:List (κ×V)) (k:κ):Option V:=(kvs.find? fun kv=>decide (kv.1=k)).map (·.2)
def putK (kvs:List (κ×V)) (k:κ) (v:V):List (κ×V):=
 if (kvs.any fun kv=>decide (kv.1=k))=true then kvs.map (fun kv=>if kv.1=k then (kv.1,v) else kv) else kvs++[(k,v)]
theorem bN {p:κ×V} {r:List (κ×V)} {k:κ} (e:p.1=k):be (p::r) k=some p.2:=by simp [be,List.find?_cons,e]
theorem bO {p:κ×V} {r:List (κ×V)} {k:κ} (e:¬p.1=k):be (p::r) k=be r k:=by simp [be,List.find?_cons,e]
theorem eA (k:κ):∀ kvs:List (κ×V),(kvs.any fun kv=>decide (kv.1=k))=(be kvs k).isSome
 | []=>rfl
 | p::r=>by
  rw [List.any_cons]
  by_cases e:p.1=k
  ·simp only [bN e,Qv e,Bool.true_or,Option.isSome_some]
  ·rw [bO e,Qw e,Bool.false_or];exact eA k r
theorem o6 (k j:κ) (y:V):∀ kvs:List (κ×V),be (kvs.map fun kv=>if kv.1=k then (kv.1,y) else kv) j=(be kvs j).map fun x=>if j=k then y else x
 | []=>rfl
 | p::r=>by
  have ih:=o6 k j y r
  rw [List.map_cons]
  by_cases h:p.1=k
  ·rw [if_pos h]
   by_cases e:p.1=j
   ·rw [bN (p:=(p.1,y)) e,bN e,Option.map_some,if_pos (e.symm.trans h)]
   ·rw [bO (p:=(p.1,y)) e,bO e,ih]
  ·rw [if_neg h]
   by_cases e:p.1=j
   ·rw [bN (p:=p) e,bN e,Option.map_some,if_neg (fun z=>h (e.trans z))]
   ·rw [bO (p:=p) e,bO e,ih]
theorem dZ (k j:κ) (y:V):∀ kvs:List (κ×V),be kvs k=none->be (kvs++[(k,y)]) j=if j=k then some y else be kvs j
 | [],_=>by
  by_cases e:k=j
  ·rw [if_pos e.symm];exact bN (p:=(k,y)) e
  ·rw [if_neg (fun z=>e z.symm)];exact bO (p:=(k,y)) e
 | p::r,hn=>by
  rw [List.cons_append]
  have hk:¬p.1=k:=fun z=>by rw [bN z] at hn;cases hn
  rw [bO hk] at hn
  have ih:=dZ k j y r hn
  by_cases e:p.1=j
  ·rw [bN e,bN e,if_neg (fun z=>hk (e.trans z))]
  ·rw [bO e,bO e,ih]
theorem uI (kvs:List (κ×V)) (k j:κ) (y:V):be (putK kvs k y) j=if j=k then some y else be kvs j:=by
 unfold putK
 by_cases a:(kvs.any fun kv=>decide (kv.1=k))=true
 ·rw [if_pos a,o6]
  rw [eA] at a
  by_cases e:j=k
  ·obtain ⟨x,hx⟩:=Option.isSome_iff_exists.mp a
   rw [if_pos e,e,hx,Option.map_some,if_pos rfl]
  ·rw [if_neg e]
   cases be kvs j with
   | none=>rfl
   | some x=>rw [Option.map_some,if_neg e]
 ·rw [if_neg a]
  refine dZ k j y kvs ?_
  rw [eA] at a
  cases q:be kvs k with
  | none=>rfl
  | some x=>rw [q] at a;exact (a rfl).elim
theorem cU (kvs:List (κ×V)) (k:κ) (v:V):(putK kvs k v).length<=kvs.length+1:=by
 unfold putK
 split
 ·rw [Ql];omega
 ·rw [Qk,List.length_cons,List.length_nil];omega
theorem oY {kvs:List (κ×V)} {k:κ} (v:V) (h:be kvs k=none):putK kvs k v=kvs++[(k,v)]:=by
 unfold putK
 rw [eA,h]
 exact if_neg (by decide)
theorem iq.B_ {o:Option V} {u:Option Value} (r:iq o u):o.isSome=u.isSome:=by
 cases o with
 | none=>cases u with
  | none=>rfl
  | some _=>exact (show False from r).elim
 | some _=>cases u with
  | none=>exact (show False from r).elim
  | some _=>rfl
theorem iq.getD {o:Option V} {u:Option Value} {d:V} {d':Value} (r:iq o u) (rd:RelV d d'):RelV (o.getD d) (u.getD d'):=by
 cases o with
 | none=>cases u with
  | none=>exact rd
  | some _=>exact (show False from r).elim
 | some _=>cases u with
  | none=>exact (show False from r).elim
  | some _=>exact r
theorem KV.val {kvs:List (κ×V)} {vs:List (κ×Value)} (r:KV kvs vs) (k:κ):iq (be kvs k) (valueAt vs k):=by
 unfold KV at r
 induction r with
 | nil=>exact True.intro
 | @cons p q ps qs h t ih=>
  obtain ⟨h1,h2⟩:=h
  by_cases e:p.1=k
  ·have e':q.1=k:=h1.symm.trans e
   have b:valueAt (q::qs) k=some q.2:=by simp [valueAt,List.find?_cons,e']
   rw [bN e,b];exact h2
  ·have e':¬q.1=k:=fun z=>e (h1.trans z)
   have b:valueAt (q::qs) k=valueAt qs k:=by simp [valueAt,List.find?_cons,e']
   rw [bO e,b];exact ih
theorem KV.any {kvs:List (κ×V)} {vs:List (κ×Value)} (r:KV kvs vs) (k:κ):(kvs.any fun kv=>decide (kv.1=k))=vs.any fun kv=>decide (kv.1=k):=by
 unfold KV at r
 induction r with
 | nil=>rfl
 | cons h t ih=>rw [List.any_cons,List.any_cons,ih,h.1]
theorem KV.repl {kvs:List (κ×V)} {vs:List (κ×Value)} (r:KV kvs vs) (k:κ) {y:V} (ry:RelV y u):
  KV (kvs.map fun kv=>if kv.1=k then (kv.1,y) else kv) (vs.map fun kv=>if kv.1=k then (kv.1,u) else kv):=by
 unfold KV at r ⊢
 induction r with
 | nil=>exact .nil
 | @cons p q ps qs h t ih=>
  rw [List.map_cons,List.map_cons]
  refine .cons ?_ ih
  obtain ⟨h1,h2⟩:=h
  by_cases e:p.1=k
  ·rw [if_pos e,if_pos (h1.symm.trans e)];exact ⟨h1,ry⟩
  ·rw [if_neg e,if_neg (fun z=>e (h1.trans z))];exact ⟨h1,h2⟩
theorem KV.put {kvs:List (κ×V)} {vs:List (κ×Value)} (r:KV kvs vs) (k:κ) {y:V} (ry:RelV y u):KV (putK kvs k y) (stored vs k u):=by
 unfold putK stored
 rw [r.any k]
 by_cases e:(vs.any fun kv=>decide (kv.1=k))=true
 ·rw [if_pos e,if_pos e];exact r.repl k ry
 ·rw [if_neg e,if_neg e];exact Paired.snoc r ⟨rfl,ry⟩
theorem KV.length {kvs:List (κ×V)} {vs:List (κ×Value)} (r:KV kvs vs):kvs.length=vs.length:=Paired.length r
end
theorem j4 {k:Key} (r:RelV (kV k) u):(dh P w).is k u=true:=by
 cases k with
 | inl i=>obtain ⟨t,e⟩:=(show ∃ t,u=Value.int i t from r);subst e;exact oV P w i t
 | inr x=>obtain ⟨t,e⟩:=(show ∃ t,u=Value.str x t from r);subst e;exact fH P w x t
theorem l3 {P:Program} {w:World}:∀ {ks:List Key} {us:List Value},aq (ks.map kV) us->ItemsAre (dh P w) ks us
 | [],_,r=>by rw [List.map_nil] at r;cases r;exact .nil
 | k::ks,_,r=>by
  rw [List.map_cons] at r
  cases r with
  | cons h t=>exact .cons (j4 h) (l3 t)
abbrev KT (H:Hp):List (List Key×V)->List (List Key×Addr×Value)->Prop:=Paired fun p q=>p.1=q.1/\kg H q.2.1 (p.1.map kV)/\RelV p.2 q.2.2
theorem KT.val {kvs:List (List Key×V)} (r:KT H kvs xs) (k:List Key):iq (be kvs k) ((atKey xs k).map (·.2)):=by
 induction r with
 | nil=>exact True.intro
 | @cons p q ps qs h t ih=>
  obtain ⟨h1,_,h2⟩:=h
  by_cases e:p.1=k
  ·have e':q.1=k:=h1.symm.trans e
   have b:atKey (q::qs) k=some q.2:=by simp [atKey,List.find?_cons,e']
   rw [bN e,b];exact h2
  ·have e':¬q.1=k:=fun z=>e (h1.trans z)
   have b:atKey (q::qs) k=atKey qs k:=by simp [atKey,List.find?_cons,e']
   rw [bO e,b];exact ih
theorem KT.repl {kvs:List (List Key×V)} (r:KT H kvs xs) (k:List Key) {y:V} (ry:RelV y u):
  KT H (kvs.map fun kv=>if kv.1=k then (kv.1,y) else kv) (xs.map (putAt k u)):=by
 induction r with
 | nil=>exact .nil
 | @cons p q ps qs h t ih=>
  rw [List.map_cons,List.map_cons]
  refine .cons ?_ ih
  obtain ⟨h1,h2,h3⟩:=h
  unfold putAt
  by_cases e:p.1=k
  ·rw [if_pos e,if_pos (h1.symm.trans e)];exact ⟨h1,h2,ry⟩
  ·rw [if_neg e,if_neg (fun z=>e (h1.trans z))];exact ⟨h1,h2,h3⟩
theorem KT.put {kvs:List (List Key×V)} (r:KT H kvs xs) (k:List Key) {y:V} (hb:kg H b (k.map kV)) (ry:RelV y u):
  KT H (putK kvs k y) (storedH xs k b u):=by
 have e:(kvs.any fun kv=>decide (kv.1=k))=(atKey xs k).isSome:=by
  rw [eA,(r.val k).B_,Option.isSome_map]
 unfold putK storedH
 rw [e]
 by_cases q:(atKey xs k).isSome=true
 ·rw [if_pos q,if_pos q];exact r.repl k ry
 ·rw [if_neg q,if_neg q];exact Paired.snoc r ⟨rfl,hb,ry⟩
theorem KT.keeps {kvs:List (List Key×V)} (r:KT H kvs xs) (ht:∀ b ys,kg H b ys->kg H' b ys):KT H' kvs xs:=
 Paired.Dg r fun _ _ z=>⟨z.1,ht _ _ z.2.1,z.2.2⟩
theorem xW {u:HO} (ok:bh P w H h) (e:Rd H a u):a_ P w H h a u:=e.ok ok
theorem nH {kvs:List (Key×V)} (ok:bh P w H h) (e:Rd H a (.dK kvs)):kvs.length<=sizeLine/\(a==sysModules)=false/\∃ vs,KV kvs vs/\h.DictOf (dh P w) a vs:=
 show a_ P w H h a (.dK kvs) from xW ok e
theorem nI {kvs:List (Key×V)} (ok:bh P w H h) (e:H a=some (.dK kvs)):kvs.length<=sizeLine/\(a==sysModules)=false/\∃ vs,KV kvs vs/\h.DictOf (dh P w) a vs:=nH ok (.inl e)
theorem lI {ks:List Key} (ok:bh P w H h) (e:kg H a (ks.map kV)):(tupleKind (dh P w)).is h ks a:=by
 have qq:a_ P w H h a (.tup (ks.map kV)):=by
  rcases e with e | ⟨_,e⟩
  ·exact ok a _ e
  ·exact (ok a _ e).2
 obtain ⟨_,its,r,o,h1,h2,n,h3⟩:=qq
 exact ⟨o,its.toArray,n,h1,h2,h3,by simpa using l3 r⟩
theorem rJ {kvs:List (List Key×V)} (ok:bh P w H h) (e:Rd H a (.dT kvs)):kvs.length<=sizeLine/\(a==sysModules)=false/\
  ∃ xs,KT H kvs xs/\h.DictOfH (tupleKind (dh P w)) a xs:=by
 obtain ⟨z,y,xs,r,o,es,ep,h1,h2,h3,h4,h5⟩:=(show a_ P w H h a (.dT kvs) from xW ok e)
 refine ⟨z,y,xs,r,o,es,ep,h1,h2,h3,h4,fun x hx=>?_,h5⟩
 have all:∀ {l:List (List Key×V)} {m:List (List Key×Addr×Value)},KT H l m->∀ x∈m,(tupleKind (dh P w)).is h x.1 x.2.1:=by
  intro l m q
  induction q with
  | nil=>intro x hx;exact nomatch hx
  | @cons p q ps qs hq t ih=>
   intro x hx
   rcases Qp.mp hx with e | hx
   ·subst e
    exact lI ok (by rw [<- hq.1];exact hq.2.1)
   ·exact ih x hx
 exact all r x hx
theorem JY {kvs:List (List Key×V)} (ok:bh P w H h) (e:H a=some (.dT kvs)):kvs.length<=sizeLine/\(a==sysModules)=false/\
  ∃ xs,KT H kvs xs/\h.DictOfH (tupleKind (dh P w)) a xs:=rJ ok (.inl e)
def gu (H:Hp) (a:Addr) (y:V) (r:Option V):Prop:=
 (∃ kvs k,Rd H a (.dK kvs)/\y=kV k/\r=be kvs k)\/∃ kvs k b,Rd H a (.dT kvs)/\y=.ref b/\kg H b (k.map kV)/\r=be kvs k
def A2 (H:Hp) (a:Addr) (y v:V) (H':Hp):Prop:=
 (∃ kvs k,H a=some (.dK kvs)/\y=kV k/\kvs.length < sizeLine/\H'=upd H a (.dK (putK kvs k v)))\/
 ∃ kvs k b,H a=some (.dT kvs)/\y=.ref b/\kg H b (k.map kV)/\kvs.length < sizeLine/\H'=upd H a (.dT (putK kvs k v))
theorem gu.k {H:Hp} {a:Addr} {kvs:List (Key×V)} {k:Key} (e:H a=some (.dK kvs)):gu H a (kV k) (be kvs k):=.inl ⟨kvs,k,.inl e,rfl,rfl⟩
theorem A2.k {H:Hp} {a:Addr} {kvs:List (Key×V)} {k:Key} {v:V} (e:H a=some (.dK kvs)) (hl:kvs.length < sizeLine):A2 H a (kV k) v (upd H a (.dK (putK kvs k v))):=.inl ⟨kvs,k,e,rfl,hl,rfl⟩
section
variable {y v:V} {r:Value} {o:Option V}
theorem Inv.big (I:Inv X pins σ H s):sysModules < s.heap.objs.size:=by
 have h:mainGlobals < s.heap.objs.size:=(I.mod.glob.keeps I.bk).lt
 exact Nat.lt_trans (by decide) h
theorem tS (hu:A.units+1 < cLine) (I:Inv X pins σ H s) (g:gu H a y (some v)) (ry:RelV y u) (h:∀ w' s',Inv X pins σ H s'->RelV v w'->Q w' s'):
  wpAny (model X.prog X.w) A (getItem (.ref a) u) Q E s:=by
 rcases g with ⟨kvs,k,e,ey,l⟩ | ⟨kvs,k,b,e,ey,eb,l⟩
 ·subst ey
  obtain ⟨z,hd,vs,rel,dd⟩:=nH I.hok e
  obtain ⟨w',hw,kq⟩:=iq.some_of (v:=v) (o:=valueAt vs k) (by rw [l];exact rel.val k)
  exact wpAny_getItem_of (j4 ry) dd.mapOf hw (h w' _ (I.tok _) kq)
 ·subst ey
  cases (show u=Value.ref b from ry)
  obtain ⟨z,hd,xs,rel,dd⟩:=rJ I.hok e
  obtain ⟨w',hw,kq⟩:=iq.some_of (v:=v) (o:=(atKey xs k).map (·.2)) (by rw [l];exact rel.val k)
  obtain ⟨p,hp,gh⟩:=Option.map_eq_some_iff.mp hw
  refine wpAny_getItem_heap (tupleKind_room_in1 hu) (lI I.hok eb) dd hp ?_
  rw [gh]
  exact h w' _ (I.tok _) kq
theorem JZ (hu:A.units+1 < cLine) (I:Inv X pins σ H s) (g:gu H a y o) (ry:RelV y u) (h:∀ s',Inv X pins σ H s'->Q (.bool o.isSome) s'):
  wpAny (model X.prog X.w) A (compareOp .In u (.ref a)) Q E s:=by
 rcases g with ⟨kvs,k,e,ey,l⟩ | ⟨kvs,k,b,e,ey,eb,l⟩
 ·subst ey
  obtain ⟨z,hd,vs,rel,dd⟩:=nH I.hok e
  refine wpAny_in_of (j4 ry) hd dd.mapOf ?_
  rw [<- (rel.val k).B_,<- l]
  exact h _ (I.tok _)
 ·subst ey
  cases (show u=Value.ref b from ry)
  obtain ⟨z,hd,xs,rel,dd⟩:=rJ I.hok e
  refine wpAny_in_heap (tupleKind_room_in1 hu) (lI I.hok eb) hd dd ?_
  have q:=(rel.val k).B_
  rw [Option.isSome_map] at q
  rw [<- q,<- l]
  exact h _ (I.tok _)
theorem jD {ob:HO} (I:Inv X pins σ H s) (mu:zh (H a)) (hs:Heap.SameBut a s.heap h') (he:∃ q,h'.get? a=some q) (new:a_ X.prog X.w (upd H a ob) h' a ob):
  Inv X pins σ (upd H a ob) {s with heap:=h',toks:=t'}:=
 I.write (x:=a) (e:=a) mu (.inl rfl) (fun b q hb z=>(hs.2 b hb).trans z) he new
theorem pP {kvs:List (Key×V)} (z:kvs.length<=sizeLine) (hd:(a==sysModules)=false) (rel:KV kvs vs) (dd:h'.DictOf (dh P w) a vs):
  a_ P w H' h' a (.dK kvs):=⟨z,hd,vs,rel,dd⟩
theorem tQ {Q:Unit->Shared->Prop} (hu:A.units+1 < cLine) (I:Inv X pins σ H s) (g:A2 H a y v H') (ry:RelV y u) (rv:RelV v r) (h:∀ s',Inv X pins σ H' s'->Q () s'):
  wpAny (model X.prog X.w) A (setItem (.ref a) u r) Q E s:=by
 rcases g with ⟨kvs,k,e,ey,l,eH⟩ | ⟨kvs,k,b,e,ey,eb,l,eH⟩
 ·subst ey eH
  obtain ⟨z,hd,vs,rel,dd⟩:=nI I.hok e
  have hz:vs.length<=sizeLine:=by rw [<- rel.length];exact z
  have hl:(putK kvs k v).length<=sizeLine:=by have:=cU kvs k v;omega
  refine wpAny_setItem_pairs (hsz:=hz) (j4 ry) dd fun h' ql hs=>h _ ?_
  have he:∃ q,h'.get? a=some q:=let ⟨q,_,_,hq,_⟩:=ql;⟨q,hq⟩
  exact jD I (by rw [e];exact True.intro) hs he (pP hl hd (rel.put k rv) ql)
 ·subst ey eH
  cases (show u=Value.ref b from ry)
  obtain ⟨z,hd,xs,rel,dd⟩:=JY I.hok e
  have hz:xs.length<=sizeLine:=by rw [<- Paired.length rel];exact z
  have hl:(putK kvs k v).length<=sizeLine:=by have:=cU kvs k v;omega
  refine wpAny_setItem_heap (hsz:=hz) (tupleKind_room_in1 hu) (lI I.hok eb) dd fun h' ql hs=>h _ ?_
  obtain ⟨q,es,ep,hq,h2,h3,h4,_,h5⟩:=ql
  refine jD I (by rw [e];exact True.intro) hs ⟨q,hq⟩ ⟨hl,hd,_,(rel.put k eb rv).keeps fun c ys ec=>?_,q,es,ep,hq,h2,h3,h4,h5⟩
  refine ec.upd fun u hu z=>?_
  subst z
  rcases ec with ec | ⟨_,ec⟩<;>(rw [e] at ec;cases ec)
end
section
variable {kvs:List (Key×V)} {k:Key}
theorem J0 (I:Inv X pins σ H s) (e:Rd H a (.dK kvs)) (h:∀ t s',Inv X pins σ H s'->Q (.int kvs.length t) s'):wpAny (model X.prog X.w) A (call (.builtin "len") [.ref a]) Q E s:=by
 obtain ⟨z,hd,vs,rel,dd⟩:=nH I.hok e
 refine call_len_dict hd dd (by rw [<- rel.length];rw [QK] at z;omega) ?_
 rw [<- rel.length]
 exact h _ _ (I.tok _)
end
def Ca (i:Expr):Prop:=∀ ov iv,subscripted i false ov iv=operate [ov,iv] (getItem ov iv)
theorem qS {value slice:Expr} {pos:Pos} {id:String}
  (hl:typeLookup (.type T) "__getitem__"=pure (some (.builtin id))) (hs:Ca slice)
  (h:wpAny (model prog w) A (eval value env) (fun o s₁=>wpAny (model prog w) A (eval slice env) (fun i s₂=>s₂.TypeIs o T/\wpAny (model prog w) A (getItem o i) Q E s₂) E s₁) E s):
  wpAny (model prog w) A (eval (.Subscript value slice pos) env) Q E s:=by
 refine Subscript_ (wpAny_mono h (fun o s₁ h₁=>wpAny_mono h₁ (fun i s₂ h₂=>?_) fun _ _ x=>x) fun _ _ x=>x)
 obtain ⟨hT,h₂⟩:=h₂
 unfold subscriptTail
 refine QS ?_
 rw [getitemInPython_of_ne hT.not_modules]
 refine QS (wpAny_specialOf hT hl ?_)
 have fin:wpAny (model prog w) A (subscripted slice false o i) (fun r s₃=>wpAny (model prog w) A (letTemporaryGo value o r >>=fun _=>pure r) Q E s₃) E s₂:=by
  rw [hs o i]
  exact wpAny_operating (wpAny_mono h₂ (fun r s₃ h₃=>QS (wpAny_letTemporaryGo (QT h₃))) fun _ _ x=>x)
 first
  | exact QT (QS fin)
  | exact QS (QT (QS fin))
  | exact QS fin
theorem mR {y:V} {o:Option V} (I:Inv X pins σ H s) (g:gu H a y o):s.TypeIs (.ref a) "dict":=by
 rcases g with ⟨kvs,k,e,_,_⟩ | ⟨kvs,k,b,e,_,_,_⟩
 ·obtain ⟨_,_,vs,_,dd⟩:=nH I.hok e
  exact dd.typeIs
 ·obtain ⟨_,_,xs,_,dd⟩:=rJ I.hok e
  exact dd.typeIs
def F3 (td ty:TE):TE:=fun σ H Q=>td σ H fun x H1=>ty σ H1 fun y H2=>∃ a v,x=.ref a/\gu H2 a y (some v)/\Q v H2
def F4 (td ty tv:TE):TS:=fun D σ H=>tv σ H fun v H1=>td σ H1 fun x H2=>ty σ H2 fun y H3=>∃ a H4,x=.ref a/\A2 H3 a y v H4/\D.nx σ H4
section
variable {o i value:Expr} {pos pos' ux:Pos} {td ty tv:TE}
theorem x4 (hu:X.A.units+1 < cLine) (ho:PE X o td) (hi:PE X i ty) (hs:Ca i):PE X (.Subscript o i pos) (F3 td ty):=by
 intro pins s σ H Q I h
 refine qS PySem.F.slot_dict_getitem.lookup hs (ai (ho pins s σ H _ I h) fun u s1 ⟨x,H1,I1,rx,q1⟩=>ai (hi pins s1 σ H1 _ I1 q1) fun iv s2 ⟨y,H2,I2,ry,a,v,ex,g,q2⟩=>?_)
 subst ex
 obtain rfl:u=Value.ref a:=rx
 exact ⟨mR I2 g,tS hu I2 g ry fun w' s3 I3 kq=>⟨v,H2,I3,kq,q2⟩⟩
theorem xP (hu:X.A.units+1 < cLine) (ho:PE X o td) (hi:PE X i ty) (hv:PE X value tv) (hs:swapsWith value (some (.Subscript o i pos')) pos.line X.env=pure false):
  PS X (.Assign [.Subscript o i pos'] value pos) (F4 td ty tv):=by
 intro pins s σ H D I h
 refine wpAny_Assign_Subscript (ai (hv pins s σ H _ I h) fun r s1 ⟨v,H1,I1,rv,q1⟩=>ai (ho pins s1 σ H1 _ I1 q1) fun u s2 ⟨x,H2,I2,rx,q2⟩=>ai (hi pins s2 σ H2 _ I2 q2) fun iv s3 ⟨y,H3,I3,ry,a,H4,ex,g,q3⟩=>?_) hs
 subst ex
 obtain rfl:u=Value.ref a:=rx
 exact tQ hu I3 g ry rv fun s4 I4=>⟨σ,H4,I4,q3⟩
end
theorem vD (h:Heap) (hb:sysModules < h.objs.size):a_ P w H (h.push {cls:=.type "dict",data:=.dict #[]}) h.objs.size (.dK []):=
 ⟨Nat.zero_le _,beq_eq_false_iff_ne.mpr (Ne.symm (Nat.ne_of_lt hb)),[],.nil,Heap.DictOf.new h⟩
section
variable {pos:Pos}
end
def Dz:List (TE×TE)->St->Hp->(List (V×V)->Hp->Prop)->Prop
 | [],_,H,Q=>Q [] H
 | (tk,tv)::r,σ,H,Q=>tk σ H fun x H1=>tv σ H1 fun y H2=>Dz r σ H2 fun ps H3=>Q ((x,y)::ps) H3
abbrev VV:List (V×V)->List (Value×Value)->Prop:=Paired fun p q=>RelV p.1 q.1/\RelV p.2 q.2
def A3 (X:Cx) (pos:Pos) (keys:List (Option Expr)) (values:List Expr) (jt:List (TE×TE)):Prop:=
 ∀ (pins:List (Addr×Obj)) (s:Shared) (σ:St) (H:Hp) (Q:List (V×V)->Hp->Prop),Inv X pins σ H s->Dz jt σ H Q->
  wpAny (model X.prog X.w) X.A (evalPairs (pairTrees keys values X.env pos)) (fun vs s'=>∃ ps H',Inv X pins σ H' s'/\VV ps vs/\Q ps H') X.xe s
theorem wZ {pos:Pos}:A3 X pos [] [] []:=fun pins s σ H Q I h=>pairTrees_nil_walk ⟨[],H,I,.nil,h⟩
theorem u8 {pos:Pos} {k v:Expr} {ks:List (Option Expr)} {vs:List Expr} {tk tv:TE} (hk:PE X k tk) (hv:PE X v tv) (hr:A3 X pos ks vs jt):
  A3 X pos (some k::ks) (v::vs) ((tk,tv)::jt):=fun pins s σ H Q I h=>
 pairTrees_cons_walk (ai (hk pins s σ H _ I h) fun u s1 ⟨x,H1,I1,rx,q1⟩=>ai (hv pins s1 σ H1 _ I1 q1) fun w2 s2 ⟨y,H2,I2,ry,q2⟩=>
  ai (hr pins s2 σ H2 _ I2 q2) fun ws s3 ⟨ps,H3,I3,rel,q3⟩=>⟨(x,y)::ps,H3,I3,.cons ⟨rx,ry⟩ rel,q3⟩)
def A4 (kvs more:List (Key×V)):List (Key×V):=more.foldl (fun acc kv=>putK acc kv.1 kv.2) kvs
theorem KV.merge:∀ {more:List (Key×V)} {rs:List (Key×Value)} {kvs:List (Key×V)} {vs:List (Key×Value)},KV more rs->KV kvs vs->KV (A4 kvs more) (merged vs rs):=by
 intro more rs kvs vs r
 unfold KV at r
 induction r generalizing kvs vs with
 | nil=>intro q;exact q
 | @cons p q ps qs h t ih=>
  intro r0
  have e:KV (putK kvs p.1 p.2) (stored vs q.1 q.2):=by
   have:=r0.put p.1 h.2
   rw [<- h.1];exact this
  exact ih e
theorem gK:∀ (more kvs:List (Key×V)),(A4 kvs more).length<=kvs.length+more.length
 | [],kvs=>by show kvs.length<=kvs.length+0;omega
 | p::r,kvs=>by
  have h1:=gK r (putK kvs p.1 p.2)
  have h2:=cU kvs p.1 p.2
  show (A4 (putK kvs p.1 p.2) r).length<=_
  rw [List.length_cons];omega
theorem jR {P:Program} {w:World}:∀ {kvs:List (Key×V)} {ws:List (Value×Value)},VV (kvs.map fun kv=>(kV kv.1,kv.2)) ws->∃ rs,Carries (dh P w) ws rs/\KV kvs rs
 | [],_,r=>by rw [List.map_nil] at r;cases r;exact ⟨[],True.intro,.nil⟩
 | p::kvs,_,r=>by
  rw [List.map_cons] at r
  cases r with
  | @cons a b as bs h t=>
   obtain ⟨rs,c,q⟩:=jR (P:=P) (w:=w) t
   obtain ⟨b1,b2⟩:=b
   exact ⟨(p.1,b2)::rs,⟨j4 h.1,rfl,c⟩,.cons ⟨rfl,h.2⟩ q⟩
def F5 (jt:List (TE×TE)):TE:=fun σ H Q=>∀ p,H p=none->Dz jt σ (upd H p (.dK [])) fun ps H2=>H2 p=some (.dK [])/\∃ kvs:List (Key×V),ps=kvs.map (fun kv=>(kV kv.1,kv.2))/\kvs.length<=15/\Q (.ref p) (upd H2 p (.dK (A4 [] kvs)))
theorem x6 {pos:Pos} {keys:List (Option Expr)} {values:List Expr} (h:A3 X pos keys values jt) (xq:keys.all (·.isSome)=true) (hl:keys.length=values.length) (h0:keys≠[])
  (DC:keys.length<=15):PE X (.Dict keys values pos) (F5 jt):=by
 intro pins s σ H Q I q
 have hn:=I.hok.fresh (Qy s.heap.objs.size)
 have I1:=I.laid (a:=s.heap.objs.size) (o:=.dK []) (h':=s.heap.push {cls:=.type "dict",data:=.dict #[]}) (t':=s.toks) (fun _ _ q=>Qc _ q) (Qy _) (vD s.heap I.big)
 refine wpAny_Dict_walk (knd:=dh X.prog X.w) xq hl h0 DC (ai (h pins _ σ _ _ I1 (q _ hn)) ?_)
 rintro ws s2 ⟨ps,H2,I2,rel,e,kvs,ep,lk,q2⟩
 subst ep
 obtain ⟨rs,c,rk⟩:=jR (P:=X.prog) (w:=X.w) rel
 obtain ⟨z,hd,ON,r0,dd⟩:=nI I2.hok e
 cases r0
 refine ⟨rs,c,dd,fun h' ql hs=>⟨.ref s.heap.objs.size,_,?_,rfl,q2⟩⟩
 have hz:(A4 [] kvs).length<=sizeLine:=by
  have h1:=gK kvs []
  rw [List.length_nil] at h1
  rw [QK];omega
 have he:∃ q,h'.get? s.heap.objs.size=some q:=let ⟨q,_,_,hq,_⟩:=ql;⟨q,hq⟩
 exact jD I2 (by rw [e];exact True.intro) hs he (pP hz hd (rk.merge .nil) ql)
section
variable {y d:V} {r:Value} {o:Option V}
end
section
variable {o f:Expr} {td ty tx:TE}
end
section
variable {kvs:List (Key×V)}
end
section
variable {y:V}
end
end L2
namespace F6
open PySem PySem.W PySem.Calls PyProof.Rows
theorem j6 {P:Params}:∀ (ns:List Int) (vs:List Value),WellAll P h vs (ns.map WData.int)->IntsAre vs ns:=by
 intro ns
 induction ns with
 | nil=>
  intro vs w
  rw [List.map_nil] at w
  cases w
  exact .nil
 | cons n ns ih=>
  intro vs w
  rw [List.map_cons] at w
  cases w with
  | cons a b=>
   cases a
   exact .cons _ _ (ih _ b)
theorem tM {l:OpenLaw} (hn:l.most=some n) {P:Params} {args:List WData} {vals:List Value}
  (Cb:l.row.toRowW.claim.pre args=true) (z_:WellAll P h vals args):
  ∃ a vs ns,vals=[Value.ref a]/\args=[WData.list (ns.map WData.int)]/\h.get? a=some {cls:=.type "list",data:=.seq vs.toArray}/\IntsAre vs ns/\ns.length<=n:=by
 have J1:WShape.hasAll [] args [.list .int]=true:=(pre_splitW Cb).1
 have hc:l.pre.holds [] {args:=args}=true:=(pre_splitW Cb).2
 obtain ⟨d,r,rfl,h1,h2⟩:=hasAllW_cons J1
 obtain rfl:=hasAllW_nil h2
 obtain ⟨xs,rfl,h3⟩:=hasW_list h1
 obtain ⟨ns,rfl⟩:=items_int h3
 have dw:ns.length<=n:=by
  unfold OpenLaw.pre at hc
  have h4:(WTm.not (.lt (.lit (.int (n:Int))) (.len (.arg 0)))).holds [] {args:=[.list (ns.map .int)]}=true:=by
   have h4:=(holds_andW hc).1
   rw [hn] at h4
   exact h4
  have h5:=condW_of h4 (w_not (w_lt w_lit (w_len_list (w_arg rfl))))
  rw [Ql] at h5
  refine Nat.le_of_not_lt fun q=>?_
  have q':(n:Int) < ((ns.length:Nat):Int):=by omega
  first
   | (rw [Qv q'] at h5;exact absurd h5 (by decide))
   | (simp at h5;omega)
 cases z_ with
 | cons w1 w2=>
  cases w2
  cases w1 with
  | list ho xq=>exact ⟨_,_,ns,rfl,rfl,ho,j6 ns _ xq,dw⟩
theorem sE (l:OpenLaw) (args:List WData):l.row.toRowW.claim.post args (.bool true) args=true:=
 postW_of (r:=l.row.toRowW) (X:=(true==true))
  (show WShape.has [] (.bool true) .bool=true by first | rfl | decide | simp [WShape.has,WShape.arms,WShape.armsAll])
  (show (WTm.eq .res (.lit (.bool true))).value [] {args:=args,res:=some (.bool true),after:=args}=some (.bool (true==true)) from w_eq_bool (w_res rfl) w_lit) rfl
theorem nY {l:OpenLaw} {q:Program} {YP:World->Heap->Prop} {d:DefRec}
  (hn:l.most=some n) (A5:d.params.defaults=[])
  (call:∀ (w:World) (s₀ s₁:Shared) (mg mb:Str->Option Value) (fa:Addr) (o:Obj) (pm cd doc:Value) (a:Addr) (vs:List Value) (ns:List Int),
   Ground q loose [] XP w s₀ mg mb s₁.heap->YP w s₁.heap->
   s₁.heap.get? fa=some o->o.data=.func (docDef d.name d.params d.body d.scope pm cd doc)->s₁.heap.CodeRec cd d.name->mg d.name=some (.ref fa)->
   s₁.heap.get? a=some {cls:=.type "list",data:=.seq vs.toArray}->IntsAre vs ns->ns.length<=n->s₁.gens=#[]->
   codeAny (model l.prog w) callerA (.call (.ref fa) ⟨[.ref a],[]⟩) (fun r s'=>r=.ok (.ret (.bool true))/\OldK s₁.heap s'.heap/\s'.os=s₁.os/\AllBare s'.gens) s₁):
  WalkO q loose XP YP l.row.toRowW d [] (fun f vs=>PySem.call f vs):=by
 intro w s₀ s₁ mg mb G Y fa o pm cd doc dV kV ho hd gz hD xu hg args vals as Cb OO hrd z_ vc
 obtain rfl:dV=.none:=Dflts.none hD A5
 obtain rfl:kV=.none:=Dflts.noKw hD
 obtain ⟨a,vs,ns,rfl,rfl,DE,DF,dw⟩:=tM hn Cb z_
 refine enter_call (codeAny_mono (call w s₀ s₁ mg mb fa o pm cd doc a vs ns G Y ho (fd_plain hd) gz xu DE DF dw hg) fun r s' hq=>?_)
 obtain ⟨rfl,h2,h3,h4⟩:=hq
 exact ⟨.inl ⟨.bool true,.bool true,[],rfl,fun _=>rfl,.bool true,sE l _,fun _=>⟨List.Pairwise.nil,fun _ hm=>(nomatch hm)⟩⟩,h2,h3,h4⟩
section
variable {K:Frag}
end
end F6
namespace L2
open PySem PySem.Spec PyProof.Rows
theorem lD:∀ {vs:List Value} {ns:List Int},IntsAre vs ns->aq (ns.map V.int) vs
 | _,_,.nil=>.nil
 | _,_,.cons n t h=>.cons ⟨t,rfl⟩ (lD h)
def inClass (s:Stmt) (j:Nat):Stmt:=match s with
 | .ClassDef _ _ _ body _ _ _ _ _ _ _=>body.getD j (.Pass ⟨0,0,0,0⟩)
 | _=>.Pass ⟨0,0,0,0⟩
def jv (s:Stmt):Arguments:=match s with
 | .FunctionDef _ a _ _ _ _ _ _ _ _=>a
 | _=>{posonlyargs:=[],args:=[],vararg:=none,kwonlyargs:=[],kw_defaults:=[],kwarg:=none,defaults:=[]}
def gv (s:Stmt):List Stmt:=match s with
 | .FunctionDef _ _ b _ _ _ _ _ _ _=>b
 | _=>[]
def au (s:Stmt):Scope:=match s with
 | .FunctionDef _ _ _ _ _ _ sc _ _ _=>sc
 | _=>{kind:=.function,names:=[],isGenerator:=false,isCoroutine:=false}
abbrev qm:lq:=fun _ _ _ _ _ _=>False
abbrev E0:XK:=fun _ _ _=>False
theorem J2:Ds qm X E0:=fun _ _ _ _ _ _ _ h=>h.elim
structure vd (K:QZ) (x qual:Str) (st:Stmt) (f:Addr) (fd:FuncData):Prop where
 ex:∃ (oc:Value) (od:Option Addr) (kV doc pm:Value) (an:Option Addr) (ak ct:Value) (gg:Array (Option Value)),
  fd=PySem.W.fnOf x qual (jv st) (gv st) (au st) .none kV doc pm an ak ct/\K.lookup f=some ⟨oc,od,.func fd,gg⟩/\PySem.W.codeIn K ak qual=true
 kp:PySem.W.keepIn K (.ref f)=true
section
variable {K:QZ}
theorem vd.ok {st:Stmt} {k:Nat} {sp:Sp} (F:vd K x qual st f fd) (S:cu N ps (au st)) (len:∀ vs H Q E,sp vs H Q E->vs.length=ps.length)
  (nq:∀ (ak:Value) (A:Around) (outer:List Env) (s:Shared) (H:Hp) (vs:List V) (Q:VK) (E:XK),ck k (A.deeper (envOfC qual (au st) s.heap.objs.size f ak))->sp vs H Q E->
   ∃ t,iu (fg qm P w K mg base N qual (au st) f ak A outer s H E).nj (gv st) t/\t {nx:=fun _ H'=>Q .af H',rt:=Q} (start N vs) H):kj P w K mg base qm (k+1) f fd ps sp:=by
 obtain ⟨oc,od,kV,doc,pm,an,ak,ct,gg,rfl,lk,gz⟩:=F.ex
 refine xT lk gz S len fun A outer s H vs Q E hr qi=>?_
 obtain ⟨t,h,q⟩:=nq ak A outer s H vs Q E hr qi
 exact ⟨t,h.nj,q⟩
theorem vd.binds {st:Stmt} (F:vd K x qual st f fd)
  (h:∀ (kV doc pm:Value) (an:Option Addr) (ak ct:Value) (us:List Value),us.length=ps.length->bindArgs (PySem.W.fnOf x qual (jv st) (gv st) (au st) .none kV doc pm an ak ct) ⟨us,[]⟩=pure (ps.zip us)):Binds K fd ps []:=by
 obtain ⟨oc,od,kV,doc,pm,an,ak,ct,gg,rfl,lk,gz⟩:=F.ex
 exact .all (h kV doc pm an ak ct)
theorem xZ {st:Stmt} {oc:Value} {od an:Option Addr} {gg:Array (Option Value)} {kV doc pm ak ct:Value} (l:K.lookup f=some ⟨oc,od,.func (PySem.W.fnOf x qual (jv st) (gv st) (au st) .none kV doc pm an ak ct),gg⟩)
  (c:PySem.W.codeIn K ak qual=true) (k:PySem.W.keepIn K (.ref f)=true):vd K x qual st f (PySem.W.fnOf x qual (jv st) (gv st) (au st) .none kV doc pm an ak ct):=⟨⟨oc,od,kV,doc,pm,an,ak,ct,gg,rfl,l,c⟩,k⟩
end
theorem cD {k:Nat} (hr:ck k A):A.units+1 < cLine:=Nat.lt_of_le_of_lt (Nat.add_le_add_left (by decide:1<=64) _) hr.units
theorem A6 (h:n<=1000):n < sizeLine:=Nat.lt_of_le_of_lt h (by decide)
theorem h_ {A B:Prop} (h:B):if false=true then A else B:=by
 rw [if_neg Bool.false_ne_true]
 exact h
theorem cy {A B:Prop} (h:A):if true=true then A else B:=by
 rw [if_pos rfl]
 exact h
theorem xw {c A B:Prop} [Decidable c] (h1:c->A) (h2:¬c->B):if c then A else B:=by
 by_cases h:c
 ·rw [if_pos h]
  exact h1 h
 ·rw [if_neg h]
  exact h2 h
def aa (H H':Hp):Prop:=∀ b o,H b=some o->H' b=some o
theorem aa.refl (H:Hp):aa H H:=fun _ _ h=>h
theorem aa.trans {H1 H2:Hp} (a:aa H H1) (b:aa H1 H2):aa H H2:=fun c o h=>b c o (a c o h)
theorem aa.free (e:aa H H') {l:Addr} (h:H' l=Option.none):H l=Option.none:=by
 cases q:H l with
 | none=>rfl
 | some o=>
  rw [e l o q] at h
  cases h
theorem aa.seq {K:QZ} {xs:List V} (e:aa H H') (h:ae K H a xs):ae K H' a xs:=by
 rcases h with (h | ⟨o,h⟩) | h
 ·exact .inl (.inl (e _ _ h))
 ·exact .inl (.inr ⟨o,e _ _ h⟩)
 ·exact .inr h
section
variable {κ:Type} [DecidableEq κ]
end
theorem gZ {env:Env}:∀ (names:List (Str×NameKind)) (acc:List (Str×Addr)),
  (∀ y∈names,y.2=.free->∃ c,env.cells.lookup y.1=some c)->(∀ x c,acc.lookup x=some c->env.cells.lookup x=some c)->
  ∃ cl,(forIn names acc fun (x:Str×NameKind) cs=>(if (x.2==NameKind.free)=true then (do let c <- cellOf env x.1;pure (ForInStep.yield ((x.1,c)::cs))) else pure (ForInStep.yield cs):Sem (ForInStep (List (Str×Addr)))))=pure cl/\
   (∀ x c,cl.lookup x=some c->env.cells.lookup x=some c)/\(∀ y∈names,y.2=.free->∃ c,cl.lookup y.1=some c)/\(∀ x c,acc.lookup x=some c->∃ c,cl.lookup x=some c)
 | [],acc,_,ha=>⟨acc,rfl,ha,(fun _ h=>nomatch h),fun x c h=>⟨c,h⟩⟩
 | (n,k)::r,acc,h,ha=>by
  rw [List.forIn_cons]
  by_cases hk:k=.free
  ·obtain ⟨c,hc⟩:=h (n,k) List.mem_cons_self hk
   have w_:cellOf env n=pure c:=by unfold cellOf;rw [show env.cells.lookup n=some c from hc]
   have J3:∀ x d,((n,c)::acc).lookup x=some d->env.cells.lookup x=some d:=fun x d hx=>by
    rw [List.lookup_cons] at hx
    cases e:x==n with
    | true=>rw [e] at hx;cases hx;rw [eq_of_beq e];exact hc
    | false=>rw [e] at hx;exact ha x d hx
   obtain ⟨cl,e,h1,h2,h3⟩:=gZ r ((n,c)::acc) (fun y hy=>h y (Qh _ hy)) J3
   refine ⟨cl,?_,h1,fun y hy hf=>?_,fun x d hx=>?_⟩
   ·have Aa:(k==NameKind.free)=true:=by rw [hk];rfl
    simp only [Aa,if_true,w_,pure_bind]
    exact e
   ·rcases Qp.mp hy with z | hy
    ·rw [z];exact h3 n c (by simp [List.lookup_cons])
    ·exact h2 y hy hf
   ·cases e2:x==n with
    | true=>exact h3 x c (by simp [List.lookup_cons,e2])
    | false=>exact h3 x d (by simp [List.lookup_cons,e2,hx])
  ·have Aa:(k==NameKind.free)=false:=by simpa using hk
   obtain ⟨cl,e,h1,h2,h3⟩:=gZ r acc (fun y hy=>h y (Qh _ hy)) ha
   refine ⟨cl,?_,h1,fun y hy hf=>?_,h3⟩
   ·simp only [Aa,Bool.false_eq_true,if_false,pure_bind]
    exact e
   ·rcases Qp.mp hy with z | hy
    ·rw [z] at hf;exact absurd hf hk
    ·exact h2 y hy hf
theorem pT (h:∀ y∈sc.names,y.2=.free->∃ c,env.cells.lookup y.1=some c):
  ∃ cl,closureFor sc env=pure cl/\(∀ x c,cl.lookup x=some c->env.cells.lookup x=some c)/\(∀ y∈sc.names,y.2=.free->∃ c,cl.lookup y.1=some c):=by
 obtain ⟨cl,e,h1,h2,_⟩:=gZ (env:=env) sc.names [] h (fun _ _ h=>nomatch h)
 refine ⟨cl,?_,h1,h2⟩
 unfold closureFor
 have e':(forIn sc.names ([]:List (Str×Addr)) fun (x:Str×NameKind) cs=>(if (x.2==NameKind.free)=true then (do let c <- cellOf env x.1;pure (ForInStep.yield ((x.1,c)::cs))) else pure (ForInStep.yield cs):Sem (ForInStep (List (Str×Addr))))) >>=(fun cs=>(pure cs:Sem _))=pure cl:=by rw [e];rfl
 exact e'
theorem cV {env:Env}:∀ {names:List (Str×NameKind)} {x:Str},names.lookup x=some .free->
  (names.map fun (n,k)=>if (k==NameKind.free&&env.scope.kind==.function&&env.kindOf n==some .cell) then (n,NameKind.cell) else (n,k)).lookup x=some .cell\/
  (names.map fun (n,k)=>if (k==NameKind.free&&env.scope.kind==.function&&env.kindOf n==some .cell) then (n,NameKind.cell) else (n,k)).lookup x=some .free
 | [],_,h=>by simp at h
 | (n,k)::r,x,h=>by
  have ih:=@cV env r x
  show List.lookup x ((if (k==NameKind.free&&env.scope.kind==.function&&env.kindOf n==some .cell)=true then (n,NameKind.cell) else (n,k))::_)=_\/List.lookup x ((if (k==NameKind.free&&env.scope.kind==.function&&env.kindOf n==some .cell)=true then (n,NameKind.cell) else (n,k))::_)=_
  cases hx:x==n with
  | true=>
   simp only [List.lookup_cons,hx] at h
   cases h
   by_cases hc:(NameKind.free==NameKind.free&&env.scope.kind==.function&&env.kindOf n==some .cell)=true
   ·rw [if_pos hc];simp [List.lookup_cons,hx]
   ·rw [if_neg hc];simp [List.lookup_cons,hx]
  | false=>
   simp only [List.lookup_cons,hx] at h
   by_cases hc:(k==NameKind.free&&env.scope.kind==.function&&env.kindOf n==some .cell)=true
   ·rw [if_pos hc];simp only [List.lookup_cons,hx];exact ih h
   ·rw [if_neg hc];simp only [List.lookup_cons,hx];exact ih h
theorem iR {names:List (Str×NameKind)} {k:NameKind}
  (h:(names.map fun (n,k)=>if (k==NameKind.free&&env.scope.kind==.function&&env.kindOf n==some .cell) then (n,NameKind.cell) else (n,k)).lookup x=some k) (hk:k=.cell\/k=.free) (hc:∀ y∈names,y.2≠.cell):(x,NameKind.free)∈names:=by
 have hm:=PySem.mem_of_lookup h
 obtain ⟨⟨n,k'⟩,h1,h2⟩:=List.mem_map.mp hm
 dsimp only at h2
 split at h2
 ·next hh=>
  cases h2
  have:k'=.free:=by
   simp only [Bool.and_eq_true,beq_iff_eq] at hh
   exact hh.1.1
  rw [<- this];exact h1
 ·cases h2
  rcases hk with z | z
  ·exact absurd z (hc _ h1)
  ·rw [<- z];exact h1
abbrev cg (X:Cx) (N':List Str) (sc:Scope) (cl:List (Str×Addr)) (C:Addr) (s3:Shared) (H0:Hp) (fp:List Addr) (pn:List (Addr×Obj)):Cx where
 prog:=X.prog
 w:=X.w
 K:=X.K
 mg:=X.mg
 base:=X.base
 A:=X.A
 N:=N'
 s₀:=s3
 H₀:=H0
 env:=compEnvC sc cl C X.env
 outer:=X.stack
 stack:=X.stack
 ex:=fp
 fn:=fun _=>false
 calm:=X.calm
 pn:=pn
 xe:=fun _ _=>False
structure kr (Ab:Scope) (oN:List Str) (sc:Scope) (own:List Str) (idx:List Nat) (N':List Str):Prop where
 kind:sc.kind=.function
 cell:∀ y∈sc.names,y.2≠.cell
 names:∀ y∈sc.names,y.2=.local->sc.names.lookup y.1=some .local
 free:∀ y∈sc.names,y.2=.free->(Ab.names.lookup y.1=some .cell\/Ab.names.lookup y.1=some .free)
 seen:∀ j∈idx,sc.names.lookup (oN.getD j "")=some .free/\j < oN.length
 nn:N'=own++idx.map (fun j=>oN.getD j "")
def qo (own:List Str) (idx:List Nat) (σ:St):St:=List.replicate own.length none++idx.map fun j=>(σ[j]?).join
section
variable {H2:Hp} {s2:Shared}
theorem vP {h4:Heap} {ob:Obj} {ho:HO} {t4:Nat} (S:kr X.env.scope X.N sc own idx N') (I:Inv X pins σ H2 s2) (hf:∀ b∈fp,kh X pins H2 b) (A7:∀ b∈fp,∃ o,s2.heap.get? b=some o)
  (c1:∀ x c,cl.lookup x=some c->X.env.cells.lookup x=some c) (c2:∀ y∈sc.names,y.2=.free->∃ c,cl.lookup y.1=some c) (hob:ob.isFreed=false)
  (hD:∀ (H:Hp) (h:Heap),h.get? s2.heap.objs.size=some ob->a_ X.prog X.w H h s2.heap.objs.size ho)
  (ns:h4.Ns (s2.heap.push ob).objs.size (fun x=>([]:List (Str×Value)).reverse.lookup x)) (sb:∀ b o,(s2.heap.push ob).get? b=some o->h4.get? b=some o):
  Inv (cg X N' sc cl (s2.heap.push ob).objs.size {s2 with heap:=s2.heap.push ob} (upd H2 s2.heap.objs.size ho) fp (X.pn++pins)) [] (qo own idx σ) (upd H2 s2.heap.objs.size ho) {s2 with heap:=h4,toks:=t4}:=by
 have hsz:(s2.heap.push ob).objs.size=s2.heap.objs.size+1:=Heap.size_push _ _
 have OP:H2 s2.heap.objs.size=none:=I.hok.fresh (Qy _)
 have up:∀ b o,s2.heap.get? b=some o->(s2.heap.push ob).get? b=some o:=fun b o e=>Qc _ e
 have Cc:∀ b o,s2.heap.get? b=some o->h4.get? b=some o:=fun b o e=>sb b o (up b o e)
 have J5:∀ b o,s2.heap.get? b=some o->b≠s2.heap.objs.size:=fun b o e=>Nat.ne_of_lt (Qz e)
 have nh:∀ b o,s2.heap.get? b=some o->H2 b=none->upd H2 s2.heap.objs.size ho b=none:=fun b o e n=>by rw [aF (J5 b o e)];exact n
 have J6:∀ b∈dm X.stack,∃ o,s2.heap.get? b=some o:=fun b hb=>by
  obtain ⟨_,o,ho,_⟩:=I.stack.mem hb
  exact ⟨o,ho⟩
 have J7:∀ x c,cl.lookup x=some c->∃ o,s2.heap.get? c=some o:=fun x c e=>by
  obtain ⟨v,o,ho,_⟩:=I.cell x c (c1 x c e)
  exact ⟨o,ho⟩
 have eD:(s2.heap.push ob).get? s2.heap.objs.size=some ob:=Qd s2.heap hob
 have J8:bh X.prog X.w (upd H2 s2.heap.objs.size ho) h4:=I.hok.laid Cc (Qy _) (hD _ _ (sb _ _ eD))
 refine ⟨⟨I.ok.mod,S.kind,I.ok.glob,I.ok.blt,Qy _,fun x y c h1 h2=>I.ok.inj x y c (c1 x c h1) (c1 y c h2),fun x hx=>?_,(fun x c hx _=>nomatch hx),I.ok.hd,I.ok.frames,.inl rfl,fun b hb=>⟨?_,fun x c e=>?_⟩,fun b o e=>⟨?_,?_⟩,?_,fun b o e hb=>?_,fun b hb=>?_,?_,fun b hb=>?_⟩,
  rfl,I.bare,Un.kept sb,⟨_,ns,fun i x v h1 h2 h3=>?_⟩,fun x c e=>?_,?_,fun x c e=>?_,fun p hp=>?_,J8,?_⟩
 ·rcases hx with hx | hx
  ·exact c2 (x,.free) (iR hx (.inl rfl) S.cell) rfl
  ·exact c2 (x,.free) (iR hx (.inr rfl) S.cell) rfl
 ·obtain ⟨o,e⟩:=A7 b hb
  have:=Qz e
  show b≠(s2.heap.push ob).objs.size
  rw [hsz];exact Nat.ne_of_lt (Nat.lt_succ_of_lt this)
 ·exact (hf b hb).2.2.2.2.1 x c (c1 x c e)
 ·exact up b o (I.bk b o e)
 ·exact nh b o (I.bk b o e) (I.bs b o e).2
 ·show X.base.objs.size<=(s2.heap.push ob).objs.size
  have:=Nat.le_trans I.ok.nc I.sz
  rw [hsz];omega
 ·obtain ⟨f0,f1,f2,f3,f4,f5⟩:=hf b hb
  rcases f3 with z | z
  ·exact I.ok.wx b o e z
  ·exact absurd (Qz e) (Nat.not_lt.mpr (Nat.le_trans I.ok.nc z))
 ·obtain ⟨f0,f1,f2,f3,f4,f5⟩:=hf b hb
  intro z
  rcases Qp.mp (I.AJ b z) with z | z
  ·exact f1 z
  ·exact f2 z
 ·exact Heap.FunFrames.of_keeps (fun b o e _=>⟨o,up b o e,rfl⟩) I.stack
 ·obtain ⟨o,e⟩:=J6 b hb
  exact nh b o e (I.BR b hb)
 ·unfold qo at h2
  by_cases hi:i < own.length
  ·rw [Qg (by simpa using hi),List.getElem?_replicate,if_pos hi] at h2
   cases h2
  ·rw [List.getElem?_append_right (by simpa using hi),List.length_replicate,Qq] at h2
   have qp:N'[i]? =some x:=h1
   rw [S.nn,List.getElem?_append_right (by simpa using hi),Qq] at qp
   cases ej:idx[i - own.length]? with
   | none=>rw [ej] at qp;cases qp
   | some j=>
    rw [ej] at qp h2
    obtain ⟨J9,n_⟩:=S.seen j (QC ej)
    have hx:X.N[j]? =some x:=by
     have:X.N.getD j ""=x:=QD qp
     rw [<- this,Qb,Qa n_];rfl
    have hv:σ[j]? =some (some v):=by
     have qt:(σ[j]?).join=some v:=QD h2
     cases q:σ[j]? with
     | none=>rw [q] at qt;cases qt
     | some w=>rw [q] at qt;exact congrArg some qt
    have F7:sc.names.lookup x=some .free:=by
     have:X.N.getD j ""=x:=QD qp
     rw [<- this];exact J9
    have xx:(x,NameKind.free)∈sc.names:=PySem.mem_of_lookup F7
    obtain ⟨m,hn,hl⟩:=I.loc
    have J_:AH X.env.scope x:=by
     rcases S.free _ xx rfl with z | z
     ·exact .inr (.inl z)
     ·exact .inr (.inr z)
    obtain ⟨u,r,lk⟩:=hl j x v hx hv J_
    refine ⟨u,r,?_⟩
    rcases lk with ⟨k,_⟩ | ⟨k,c,e,z⟩
    ·rcases S.free _ xx rfl with q | q
     ·have q':X.env.kindOf x=some .cell:=q
      rw [q'] at k;cases k
     ·have q':X.env.kindOf x=some .free:=q
      rw [q'] at k;cases k
    ·obtain ⟨c',w_⟩:=c2 (x,.free) xx rfl
     have e':=c1 x c' w_
     rw [e] at e'
     cases e'
     refine .inr ⟨?_,c,w_,?_⟩
     ·rcases cV (env:=X.env) F7 with q | q
      ·exact .inl q
      ·exact .inr q
     ·obtain ⟨o,ji,hd⟩:=z
      exact ⟨o,Cc c o ji,hd⟩
 ·obtain ⟨v,o,ji,hd⟩:=I.cell x c (c1 x c e)
  exact ⟨v,o,Cc c o ji,hd⟩
 ·show upd H2 s2.heap.objs.size ho (s2.heap.push ob).objs.size=none
  rw [aF (by rw [hsz];exact Nat.ne_of_gt (Nat.lt_succ_self _))]
  exact I.hok.fresh (by rw [hsz];omega)
 ·obtain ⟨o,e1⟩:=J7 x c e
  exact nh c o e1 (I.jh x c (c1 x c e))
 ·have J':p∈X.pn++pins:=by simpa using hp
  obtain ⟨e,n,ne,nf,d⟩:=I.pin p J'
  refine ⟨Cc _ _ e,nh _ _ e n,?_,fun z=>?_,d⟩
  ·have:=Qz e
   show p.1≠(s2.heap.push ob).objs.size
   rw [hsz];exact Nat.ne_of_lt (Nat.lt_succ_of_lt this)
  ·rcases Qp.mp (I.AJ p.1 z) with z | z
   ·exact ne z
   ·exact nf z
 ·show (qo own idx σ).length=N'.length
  rw [S.nn];unfold qo
  simp
theorem rZ {ob:Obj} {ho:HO} {τ:St} {s':Shared} (I:Inv X pins σ H2 s2) (hf:∀ b∈fp,kh X pins H2 b) (hob:ob.isFreed=false)
  (J:Inv (cg X N' sc cl (s2.heap.push ob).objs.size {s2 with heap:=s2.heap.push ob} (upd H2 s2.heap.objs.size ho) fp (X.pn++pins)) [] τ H' s'):
  Inv X pins σ H' s'/\H' (s2.heap.push ob).objs.size=none/\(s2.heap.push ob).objs.size≠X.env.locals/\X.s₀.heap.objs.size<=(s2.heap.push ob).objs.size/\
   (∀ x c,X.env.cells.lookup x=some c->c≠(s2.heap.push ob).objs.size)/\(∀ p∈X.pn++pins,p.1≠(s2.heap.push ob).objs.size)/\∃ m,s'.heap.Ns (s2.heap.push ob).objs.size m:=by
 have hsz:(s2.heap.push ob).objs.size=s2.heap.objs.size+1:=Heap.size_push _ _
 have u1:Un (dm X.stack) fp H2 (upd H2 s2.heap.objs.size ho) s2.heap (s2.heap.push ob):=Un.laid (fun b o e=>Qc _ e) (Qy _) (I.hok.fresh (Qy _))
 have u2:Un (dm X.stack) fp (upd H2 s2.heap.objs.size ho) H' (s2.heap.push ob) s'.heap:=J.base
 have xn:s'.os=s2.os:=J.os
 refine ⟨I.Fq xn (u1.trans u2) J.hok J.bare fun b hb=>?_,J.free,?_,?_,fun x c e z=>?_,fun p hp z=>?_,let ⟨m,hn,_⟩:=J.loc;⟨m,hn⟩⟩
 ·obtain ⟨f0,f1,f2,f3,f4,f5⟩:=hf b hb
  exact ⟨f3,f1,f4,f5⟩
 ·rw [hsz];exact Nat.ne_of_gt (Nat.lt_succ_of_lt I.lt)
 ·have:=I.sz;rw [hsz];omega
 ·obtain ⟨v,q⟩:=I.cell x c e
  have:=q.lt
  rw [z,hsz] at this;exact absurd this (Nat.not_lt.mpr (Nat.le_succ _))
 ·have:=Qz (I.pin p hp).1
  rw [z,hsz] at this;exact absurd this (Nat.not_lt.mpr (Nat.le_succ _))
end
abbrev fh:Value->Shared->Prop:=fun _ _=>False
theorem Ka {elt target iter:Expr} {pos:Pos} {it acc:Value} (I:Nat->Shared->Prop)
  (turn:∀ n s,I n s->wpAny (model prog w) A (pyNext it) (fun r s₁=>match r with
   | none=>R (.ok .next) s₁
   | some v=>wpAny (model prog w) A (letOwnedTupleGo target it v) (fun _ xy=>wpAny (model prog w) A (assign target env v) (fun _ s₂=>
     wpAny (model prog w) A (forIn ifs true fun c r=>if r=true then do let ok <- isTrue c env (eval c env);pure (ForInStep.yield ok) else pure (ForInStep.yield r)) (fun ok s₃=>
      if ok=true then wpAny (model prog w) A (eval elt env) (fun x s₄=>
       wpAny (model prog w) A (call (.builtin "list.append") [acc,x]) (fun _ s₅=>∃ m,m < n/\I m s₅) fh s₄) fh s₃
      else ∃ m,m < n/\I m s₃) fh s₂) fh xy) fh s₁) fh s)
  (n:Nat) (h:I n s):
  codeAny (model prog w) A (.compLoop (.ListComp elt [⟨target,iter,ifs,0⟩] scope pos) 0 it acc env) R s:=by
 refine codeAny_loop rfl I (fun n s hI=>?_) n h
 show wpAny _ A ((compTurn (.ListComp elt [⟨target,iter,ifs,0⟩] scope pos) 0 it acc env).onRaise (fun x=>do noteFrame x env;theTreesLotGoes x)) _ _ s
 refine wpAny_noted ?_
 rw [compTurn_list]
 refine QS (wpAny_standAt (QS (wpAny_mono (turn n s hI) (fun r s₁ h₁=>?_) fun _ _ h'=>h'.elim)))
 cases r with
 | none=>exact QT h₁
 | some v=>
  refine QS (wpAny_mono h₁ (fun _ xy DG=>?_) fun _ _ h'=>h'.elim)
  refine QS (wpAny_mono DG (fun _ s₂ h₂=>QS (wpAny_mono h₂ (fun ok s₃ h₃=>?_) fun _ _ h'=>h'.elim)) fun _ _ h'=>h'.elim)
  cases ok with
  | false=>exact QT ⟨rfl,h₃⟩
  | true=>
   exact QS (QS (wpAny_mono h₃ (fun x s₄ h₄=>QS (wpAny_mono h₄ (fun _ s₅ h₅=>QT (QT ⟨rfl,h₅⟩)) fun _ _ h'=>h'.elim)) fun _ _ h'=>h'.elim))
abbrev TC:=St->Hp->(Bool->Hp->Prop)->Prop
def qu (X:Cx) (ifs:List Expr) (t:TC):Prop:=
 ∀ (pins:List (Addr×Obj)) (s:Shared) (σ:St) (H:Hp) (Q:Bool->Hp->Prop),Inv X pins σ H s->t σ H Q->
  wpAny (model X.prog X.w) X.A (forIn ifs true fun c r=>if r=true then do let ok <- isTrue c X.env (eval c X.env);pure (ForInStep.yield ok) else pure (ForInStep.yield r)) (TP X pins σ Q) X.xe s
def Cd:TC:=fun _ H Q=>Q true H
theorem xE:qu X [] Cd:=fun pins s σ H Q I h=>QT ⟨H,I,h⟩
theorem wV {c:Expr} {t:TT} (h:PT X c t):qu X [c] t:=fun pins s σ H Q I hq=>wpAny_tests_one (h pins s σ H Q I hq)
def Ce (own:List Str) (idx:List Nat) (wi:TI) (g:TG) (tc:TC) (te:TE):TE:=fun σ H Q=>wi σ H fun J H1=>∀ D,H1 D=none->∃ W:Nat->Nat->St->Hp->Prop,(∃ m,W 0 m (qo own idx σ) (upd H1 D (.lst [])))/\∀ i m τ H,W i m τ H->
 (J.stop i H/\Q (.ref D) H)\/(J.go i H/\∃ N:St->Hp->Prop,(∀ τ' H',N τ' H'->∃ m',m' < m/\W (i+1) m' τ' H')/\∀ x H',J.g_ i H x H'->g x τ H' fun τ2 H2=>tc τ2 H2 fun b H3=>
  if b=true then te τ2 H3 fun y H4=>∃ xs,H4 D=some (.lst xs)/\xs.length < sizeLine/\N τ2 (upd H4 D (.lst (xs++[y]))) else N τ2 H3)
section
variable {iter elt:Expr} {pos:Pos} {wi:TI} {g:TG} {tc:TC}
abbrev Kc:Obj:={cls:=.type "list",dict:=none,data:=.seq ([]:List Value).toArray}
def Kd (X:Cx) (cmp tg:Expr) (ifs:List Expr) (sel:Env->Addr->Shared->(Shared->Prop)->Prop):Prop:=
 ∀ (it:Value) (D:Addr) (env:Env) (R:Result->Shared->Prop) (s:Shared) (I:Nat->Shared->Prop),
  (∀ n s,I n s->wpAny (model X.prog X.w) X.A (pyNext it) (fun r s₁=>match r with
   | none=>R (.ok .next) s₁
   | some v=>wpAny (model X.prog X.w) X.A (letOwnedTupleGo tg it v) (fun _ xy=>wpAny (model X.prog X.w) X.A (assign tg env v) (fun _ s₂=>
     wpAny (model X.prog X.w) X.A (forIn ifs true fun c r=>if r=true then do let ok <- isTrue c env (eval c env);pure (ForInStep.yield ok) else pure (ForInStep.yield r)) (fun ok s₃=>
      if ok=true then sel env D s₃ (fun s₅=>∃ m,m < n/\I m s₅) else ∃ m,m < n/\I m s₃) fh s₂) fh xy) fh s₁) fh s)->
  ∀ n,I n s->codeAny (model X.prog X.w) X.A (.compLoop cmp 0 it (.ref D) env) R s
theorem nA (S:kr X.env.scope X.N sc own idx N') (c1:∀ x c,cl.lookup x=some c->X.env.cells.lookup x=some c) (c2:∀ y∈sc.names,y.2=.free->∃ c,cl.lookup y.1=some c) (hc:X.calm=true)
  {cmp:Expr} {ob:Obj} {o0:HO} {mk:Sem Value} {sel:Env->Addr->Shared->(Shared->Prop)->Prop} (el:Addr->St->Hp->(Hp->Prop)->Prop) (hob:ob.isFreed=false) (L:Kd X cmp tg ifs sel)
  (mono:∀ {env D s} {K K':Shared->Prop},sel env D s K->(∀ s',K s'->K' s')->sel env D s K')
  (gq:∀ it acc env R s,codeAny (model X.prog X.w) X.A (.compLoop cmp 0 it acc env) R s->wpAny (model X.prog X.w) X.A (pyIter it) (fun Ke s'=>codeAny (model X.prog X.w) X.A (.compLoop cmp 0 Ke acc env) R s') (notedBy (model X.prog X.w) X.A env fun x s'=>R (.error x) s') s->
   codeAny (model X.prog X.w) X.A (.compStart cmp 0 it acc env) R s)
  (hg:∀ cl C s3 H0 fp pn,PG (cg X N' sc cl C s3 H0 fp pn) tg g) (ht:∀ cl C s3 H0 fp pn,qu (cg X N' sc cl C s3 H0 fp pn) ifs tc)
  (he:∀ cl C s3 H0 fp pn pins s τ H D N,Inv (cg X N' sc cl C s3 H0 fp pn) pins τ H s->el D τ H N->sel (cg X N' sc cl C s3 H0 fp pn).env D s fun s'=>∃ H',Inv (cg X N' sc cl C s3 H0 fp pn) pins τ H' s'/\N H')
  {pins:List (Addr×Obj)} {σ:St} {Q:VK} {ju:Value} {s2:Shared} {RR:Value->Addr->Result->Shared->Prop} {E:Value->Shared->Prop}
  (DH:∀ Q E,Q (.ref s2.heap.objs.size) {s2 with heap:=s2.heap.push ob}->wpAny (model X.prog X.w) X.A mk Q E s2)
  (Kf:∀ H',Inv X pins σ H' s2->∀ (H:Hp) (h:Heap),h.get? s2.heap.objs.size=some ob->a_ X.prog X.w H h s2.heap.objs.size o0)
  (hI:zw X pins σ tg (fun J H1=>∀ D,H1 D=none->∃ W:Nat->Nat->St->Hp->Prop,(∃ m,W 0 m (qo own idx σ) (upd H1 D o0))/\∀ i m τ H,W i m τ H->
   (J.stop i H/\Q (.ref D) H)\/(J.go i H/\∃ N:St->Hp->Prop,(∀ τ' H',N τ' H'->∃ m',m' < m/\W (i+1) m' τ' H')/\∀ x H',J.g_ i H x H'->g x τ H' fun τ2 H2=>tc τ2 H2 fun b H3=>if b=true then el D τ2 H3 (N τ2) else N τ2 H3)) ju s2)
  (A8:∀ D C H' s',Inv X pins σ H' s'->Q (.ref D) H'->(H' C=none/\C≠X.env.locals/\X.s₀.heap.objs.size<=C/\(∀ x c,X.env.cells.lookup x=some c->c≠C)/\(∀ p∈X.pn++pins,p.1≠C)/\∃ m,s'.heap.Ns C m)->RR (.ref D) C (.ok .next) s'):
  wpAny (model X.prog X.w) X.A mk (fun acc s₃=>wpAny (model X.prog X.w) X.A (newFunctionEnv sc X.env.globals cl [] X.env.qual none .none (some X.env)) (fun cenv s₄=>
   codeAny (model X.prog X.w) X.A (.compStart cmp 0 ju acc {cenv with scope:=relabel sc X.env}) (RR acc cenv.locals) s₄) E s₃) E s2:=by
 obtain ⟨it,fp,tn,J,H2,rfl,I,T,xf,f2,body⟩:=hI
 refine DH _ _ (wpAny_newFunctionEnv S.cell (by intro y hy;simp at hy) (fun h4 ns sb=>?_) S.kind)
 dsimp only at ns sb ⊢
 have fr:H2 s2.heap.objs.size=none:=I.hok.fresh (Qy _)
 obtain ⟨W,⟨m0,w0⟩,turn⟩:=body _ fr
 have A7:∀ b∈fp,∃ o,s2.heap.get? b=some o:=fun b hb=>let ⟨o,e,_⟩:=T.obj _ _ xf b hb;⟨o,e⟩
 have Cf:∀ b o,(s2.heap.push ob).get? b=some o->h4.get? b=some o:=fun b o e=>(sb.2 b (Nat.ne_of_lt (Qz e))).trans (Qc _ e)
 have Kg:=Kf _ I
 have I4:Inv (cg X N' sc cl (s2.heap.push ob).objs.size {s2 with heap:=s2.heap.push ob} (upd H2 s2.heap.objs.size o0) fp (X.pn++pins)) [] (qo own idx σ) (upd H2 s2.heap.objs.size o0) {s2 with heap:=h4,toks:=s2.toks+([]:List (Str×Value)).length}:=
  vP S I f2 A7 c1 c2 hob Kg ns Cf
 -- FH OQ own context
 generalize hY:cg X N' sc cl (s2.heap.push ob).objs.size {s2 with heap:=s2.heap.push ob} (upd H2 s2.heap.objs.size o0) fp (X.pn++pins)=Y at I4
 have Kh:PG Y tg g:=by rw [<- hY];exact hg _ _ _ _ _ _
 have Kl:qu Y ifs tc:=by rw [<- hY];exact ht _ _ _ _ _ _
 have Km:∀ pins s τ H D N,Inv Y pins τ H s->el D τ H N->sel Y.env D s fun s'=>∃ H',Inv Y pins τ H' s'/\N H':=by rw [<- hY];exact he _ _ _ _ _ _
 have pY:Y.prog=X.prog:=by rw [<- hY]
 have wY:Y.w=X.w:=by rw [<- hY]
 have KY:Y.K=X.K:=by rw [<- hY]
 have AY:Y.A=X.A:=by rw [<- hY]
 have cY:Y.calm=true:=by rw [<- hY];exact hc
 have xY:Y.xe=fun _ _=>False:=by rw [<- hY]
 have eY:Y.env=compEnvC sc cl (s2.heap.push ob).objs.size X.env:=by rw [<- hY]
 have Kn:Y.ex=fp:=by rw [<- hY]
 have Ko:Y.fs=dm X.stack:=by rw [<- hY]
 have Kp:Y.pn=X.pn++pins:=by rw [<- hY]
 have xg:∀ {H':Hp},(∀ b∈fp,H' b=none)->∀ b∈fp,kh Y [] H' b:=fun hn b hb=>by
  obtain ⟨f0,f1,f3,f4,f5,f6⟩:=f2 b hb
  refine ⟨hn b hb,?_,?_,.inl (by rw [Kn];exact hb),fun x c e=>?_,fun p hp=>?_⟩
  ·obtain ⟨o,e⟩:=A7 b hb
   have:=Qz e
   rw [eY]
   show b≠(s2.heap.push ob).objs.size
   rw [Heap.size_push];exact Nat.ne_of_lt (Nat.lt_succ_of_lt this)
  ·rw [Ko]
   intro z
   rcases Qp.mp (I.AJ b z) with z | z
   ·exact f1 z
   ·exact f3 z
  ·rw [eY] at e
   exact f5 x c (c1 x c e)
  ·rw [Kp,List.append_nil] at hp
   exact f6 p hp
 have F8:tn 0 h4:=T.keep _ _ _ xf fun b hb o e=>Cf b o (Qc _ e)
 have Kq:∀ b∈fp,upd H2 s2.heap.objs.size o0 b=none:=fun b hb=>by
  obtain ⟨o,e⟩:=A7 b hb
  rw [aF (Nat.ne_of_lt (Qz e))]
  exact (f2 b hb).1
 have loop:codeAny (model X.prog X.w) X.A (.compLoop cmp 0 (.ref it) (.ref s2.heap.objs.size) (compEnvC sc cl (s2.heap.push ob).objs.size X.env))
   (RR (.ref s2.heap.objs.size) (s2.heap.push ob).objs.size) {s2 with heap:=h4,toks:=s2.toks+([]:List (Str×Value)).length}:=by
  refine L _ _ _ _ _ (fun n s'=>∃ i τ H',Inv Y [] τ H' s'/\tn i s'.heap/\(∀ b∈fp,H' b=none)/\W i n τ H') ?_ m0 ⟨0,_,_,I4,F8,Kq,w0⟩
  rintro n s3 ⟨i,τ3,H3,I3,AM,AN,w3⟩
  rcases turn i n τ3 H3 w3 with ⟨stop,qn⟩ | ⟨go,N,hN,step⟩
  ·have h:=T.done Y pY wY KY cY i [] s3 τ3 H3 fh I3 (xg AN) AM stop
   rw [AY] at h
   refine ai h ?_
   rintro r s4 ⟨hr,Kr⟩
   subst hr
   have J4:=Kr
   rw [<- hY] at J4
   obtain ⟨b1,b2⟩:=rZ I f2 hob J4
   exact A8 _ _ _ _ b1 qn b2
  ·have h:=T.item Y pY wY KY cY i [] s3 τ3 H3 fh I3 (xg AN) AM go
   rw [AY] at h
   refine ai h ?_
   rintro r s4 ⟨u,hr,DI⟩
   subst hr
   refine ai DI ?_
   rintro _ s5 ⟨x,H5,I5,r5,y5,xh,Dk⟩
   have Dl:=I5.pinned (xg Dk) (T.obj _ _ xh)
   have g5:=Kh _ s5 τ3 H5 x u _ Dl r5 (step x H5 y5)
   rw [pY,wY,AY,xY,eY] at g5
   refine ai g5 ?_
   rintro _ s6 ⟨τ6,H6,I6,q6⟩
   have t6:=Kl _ s6 τ6 H6 _ I6 q6
   rw [pY,wY,AY,xY,eY] at t6
   refine ai t6 ?_
   rintro ok s7 ⟨H7,I7,q7⟩
   have again:∀ {τ8:St} {H8:Hp} {s8:Shared},Inv Y ([]++AL fp s5.heap) τ8 H8 s8->N τ8 H8->∃ m,m < n/\∃ i τ' H',Inv Y [] τ' H' s8/\tn i s8.heap/\(∀ b∈fp,H' b=none)/\W i m τ' H':=fun {τ8 H8 s8} I8 n8=>by
    obtain ⟨m',hm,w8⟩:=hN τ8 H8 n8
    refine ⟨m',hm,i+1,τ8,H8,I8.B0,T.keep _ _ _ xh fun b hb o e=>(I8.pin (b,o) (List.mem_append_right _ (List.mem_append_right _ (eQ hb e)))).1,fun b hb=>?_,w8⟩
    obtain ⟨o,e,d⟩:=T.obj _ _ xh b hb
    exact (I8.pin (b,o) (List.mem_append_right _ (List.mem_append_right _ (eQ hb e)))).2.1
   cases ok with
   | false=>
    rw [if_neg (by decide)] at q7 ⊢
    exact again I7 q7
   | true=>
    rw [if_pos rfl] at q7 ⊢
    have e7:=Km _ s7 τ6 H7 s2.heap.objs.size _ I7 q7
    rw [eY] at e7
    exact mono e7 fun s8 ⟨H8,I8,n8⟩=>again I8 n8
 exact gq _ _ _ _ _ loop (T.self _ 0 _ _ _ F8 loop)
theorem k4 (S:kr X.env.scope X.N sc own idx N') (c1:∀ x c,cl.lookup x=some c->X.env.cells.lookup x=some c) (c2:∀ y∈sc.names,y.2=.free->∃ c,cl.lookup y.1=some c) (hc:X.calm=true)
  (hg:∀ cl C s3 H0 fp pn,PG (cg X N' sc cl C s3 H0 fp pn) tg g) (ht:∀ cl C s3 H0 fp pn,qu (cg X N' sc cl C s3 H0 fp pn) ifs tc) (he:∀ cl C s3 H0 fp pn,PE (cg X N' sc cl C s3 H0 fp pn) elt te)
  {pins:List (Addr×Obj)} {σ:St} {Q:VK} {ju:Value} {s2:Shared} {RR:Value->Addr->Result->Shared->Prop} {E:Value->Shared->Prop}
  (hI:zw X pins σ tg (fun J H1=>∀ D,H1 D=none->∃ W:Nat->Nat->St->Hp->Prop,(∃ m,W 0 m (qo own idx σ) (upd H1 D (.lst [])))/\∀ i m τ H,W i m τ H->
   (J.stop i H/\Q (.ref D) H)\/(J.go i H/\∃ N:St->Hp->Prop,(∀ τ' H',N τ' H'->∃ m',m' < m/\W (i+1) m' τ' H')/\∀ x H',J.g_ i H x H'->g x τ H' fun τ2 H2=>tc τ2 H2 fun b H3=>
    if b=true then te τ2 H3 fun y H4=>∃ xs,H4 D=some (.lst xs)/\xs.length < sizeLine/\N τ2 (upd H4 D (.lst (xs++[y]))) else N τ2 H3)) ju s2)
  (A8:∀ D C H' s',Inv X pins σ H' s'->Q (.ref D) H'->(H' C=none/\C≠X.env.locals/\X.s₀.heap.objs.size<=C/\(∀ x c,X.env.cells.lookup x=some c->c≠C)/\(∀ p∈X.pn++pins,p.1≠C)/\∃ m,s'.heap.Ns C m)->RR (.ref D) C (.ok .next) s'):
  wpAny (model X.prog X.w) X.A (newList []) (fun acc s₃=>wpAny (model X.prog X.w) X.A (newFunctionEnv sc X.env.globals cl [] X.env.qual none .none (some X.env)) (fun cenv s₄=>
   codeAny (model X.prog X.w) X.A (.compStart (.ListComp elt [⟨tg,iter,ifs,0⟩] sc pos) 0 ju acc {cenv with scope:=relabel sc X.env}) (RR acc cenv.locals) s₄) E s₃) E s2:=by
 refine nA (ob:=Kc) (sel:=fun env D s K=>wpAny (model X.prog X.w) X.A (eval elt env) (fun x s₄=>wpAny (model X.prog X.w) X.A (call (.builtin "list.append") [.ref D,x]) (fun _ s₅=>K s₅) fh s₄) fh s) (o0:=.lst []) (el:=fun D τ H K=>te τ H fun y H4=>∃ xs,H4 D=some (.lst xs)/\xs.length < sizeLine/\K (upd H4 D (.lst (xs++[y])))) S c1 c2 hc (hob:=rfl)
  (fun it D env R s I turn n h=>Ka I turn n h) (fun h k=>ai h fun _ _ h=>ai h fun _ _ h=>k _ h) (fun _ _ _ _ _=>codeAny_compStart_list) hg ht (fun cl C s3 H0 fp pn pins s τ H D N I q=>?_) (fun Q E h=>wpAny_newObj_type h) (fun H' I H h e=>⟨Nat.zero_le _,[],_,.nil,e⟩) hI A8
 refine ai (he cl C s3 H0 fp pn _ s τ H _ I q) ?_
 rintro yv s8 ⟨y,H8,I8,r8,xs,Ks,hz,n8⟩
 exact ai (cO (X:=cg X N' sc cl C s3 H0 fp pn) _ s8 τ H8 (.ref D) [y] (.ref D) [yv] (fun v H'=>N H') I8 rfl (.cons r8 .nil) ⟨_,xs,y,rfl,rfl,Ks,hz,n8⟩) fun _ s9 ⟨_,H9,I9,_,n9⟩=>⟨H9,I9,n9⟩
theorem kr.closure (S:kr X.env.scope X.N sc own idx N') (ok:X.Ok):∃ cl,closureFor sc X.env=pure cl/\(∀ x c,cl.lookup x=some c->X.env.cells.lookup x=some c)/\(∀ y∈sc.names,y.2=.free->∃ c,cl.lookup y.1=some c):=
 pT fun y hy hf=>ok.has _ (S.free y hy hf)
theorem Ku (S:kr X.env.scope X.N sc own idx N') (hc:X.calm=true) (hi:PI X tg iter wi)
  (hg:∀ cl C s3 H0 fp pn,PG (cg X N' sc cl C s3 H0 fp pn) tg g) (ht:∀ cl C s3 H0 fp pn,qu (cg X N' sc cl C s3 H0 fp pn) ifs tc) (he:∀ cl C s3 H0 fp pn,PE (cg X N' sc cl C s3 H0 fp pn) elt te)
  (hs:∀ x,foldedSetIterable iter X.env x=pure x:=by intro _;rfl):PE X (.ListComp elt [⟨tg,iter,ifs,0⟩] sc pos) (Ce own idx wi g tc te):=by
 intro pins s σ H Q I h
 obtain ⟨cl,A9,c1,c2⟩:=S.closure I.ok
 rw [eval_ListComp]
 refine wpAny_comprehension_free (use:=none) rfl hs A9 S.kind S.names (ai (hi pins s σ H _ I h) fun v s1 h1=>ai h1 fun ju s2 h2=>?_)
 refine k4 (Q:=Q) (pins:=pins) (σ:=σ) (RR:=fun acc C=>compPost (model X.prog X.w) X.A X.xe none (EP X pins σ Q) acc C) S c1 c2 hc hg ht he h2 ?_
 intro D C H' s' I' q ⟨a1,a2,a3,a4,a5,m,a6⟩
 exact ⟨m,a6,fun h' sb=>⟨.ref D,H',I'.turned (t':=s'.toks) (fun b o hb e=>(sb.2 b hb).trans e) a1 (Ne.symm (Ne.symm a2)) (.inr a3) a4 a5,rfl,q⟩⟩
theorem Kv {py spos:Pos} (S:kr X.env.scope X.N sc own idx N') (hc:X.calm=true) (hi:PI X tg iter wi)
  (hg:∀ cl C s3 H0 fp pn,PG (cg X N' sc cl C s3 H0 fp pn) tg g) (ht:∀ cl C s3 H0 fp pn,qu (cg X N' sc cl C s3 H0 fp pn) ifs tc) (he:∀ cl C s3 H0 fp pn,PE (cg X N' sc cl C s3 H0 fp pn) elt te)
  (hN:X.N.Nodup) (DJ:X.N[i]? =some y) (hy:X.env.scope.names.lookup y=some .local)
  (ve:swapsWith (.ListComp elt [⟨tg,iter,ifs,0⟩] sc pos) (some (.Name y py)) spos.line X.env=pure true:=by rfl)
  (hs:∀ x,foldedSetIterable iter X.env x=pure x:=by intro _;rfl):PS X (.Assign [.Name y py] (.ListComp elt [⟨tg,iter,ifs,0⟩] sc pos) spos) (uv (Ce own idx wi g tc te) (jj i)):=by
 intro pins s σ H D I h
 obtain ⟨cl,A9,c1,c2⟩:=S.closure I.ok
 rw [exec_Assign_Name_used _ _ _ _ ve]
 refine QS (wpAny_standAt (QS ?_))
 show wpAny _ X.A (do let _ <- comprehension (.ListComp elt [⟨tg,iter,ifs,0⟩] sc pos) sc X.env _ (newList []) false (eval iter X.env) (some (assign (.Name y py) X.env))) _ _ s
 refine QS (wpAny_mono (wpAny_comprehension_free (use:=some (assign (.Name y py) X.env)) (Q:=fun _ s'=>SP X pins D .next s') rfl hs A9 S.kind S.names
  (ai (hi pins s σ H _ I h) fun v s1 h1=>ai h1 fun ju s2 h2=>?_)) (fun _ s' hq=>QT (QT hq)) fun _ _ e=>e)
 refine k4 (Q:=fun x H1=>jj i x σ H1 D.nx) (pins:=pins) (σ:=σ) (RR:=fun acc C=>compPost (model X.prog X.w) X.A X.xe (some (assign (.Name y py) X.env)) (fun _ s'=>SP X pins D .next s') acc C) S c1 c2 hc hg ht he h2 ?_
 intro D' C H' s' I' q ⟨a1,a2,a3,a4,a5,m,a6⟩
 show wpAny _ X.A (assign (.Name y py) X.env (.ref D')) _ _ _
 refine wpAny_assign_Name (fZ (v:=.ref D') I' hN DJ (.inl hy) rfl (fun s'' Kw ⟨a,sb,ha⟩=>?_) (.inr hy))
 have Kx:C≠a:=by
  rcases ha with z | z
  ·rw [z];exact a2
  ·exact Ne.symm (a4 _ _ z)
 refine ⟨m,a6.sameBut sb Kx,fun h' Cf=>⟨_,H',Kw.turned (t':=s''.toks) (fun b o hb e=>(Cf.2 b hb).trans e) a1 a2 (.inr a3) a4 a5,q⟩⟩
end
def tV (i:Nat):TE:=fun σ H Q=>match σ[i]? with | some (some v)=>Q v H | _=>False
theorem Ky (i:Nat) {pos:Pos} (hN:X.N[i]? =some x:=by rfl) (hv:AH X.env.scope x:=by first | exact Or.inl rfl | exact Or.inr (Or.inl rfl) | exact Or.inr (Or.inr rfl)) (hd:(x==("__debug__":Str))=false:=by decide) (gz:(x==("__classdict__":Str))=false:=by decide):PE X (.Name x pos) (tV i):=by
 intro pins s σ H Q I h
 refine yK hN hv hd gz pins s σ H Q I ?_
 unfold tV at h
 split at h
 ·next v e=>exact ⟨v,e,h⟩
 ·exact h.elim
def Kz:R2:=fun x y H Q=>match x,y with
 | .int i,.int j=>Q (.int (i+j)) H
 | .str i,.str j=>i.length+j.length<=sizeLine/\Q (.str (i++j)) H
 | .ref l,.ref b=>(∃ xs zs,H l=some (.lst xs)/\H b=some (.lst zs)/\xs.length+zs.length<=sizeLine/\∀ p,H p=none->Q (.ref p) (upd H p (.lst (xs++zs))))
 | _,_=>False
theorem aY:bf X (binaryOp .Add) Kz:=by
 intro pins s σ H x y v u Q I rx ry h
 cases x<;>cases y<;>first
  | exact (show False from h).elim
  | exact Jv pins s σ H _ _ v u Q I rx ry ⟨_,_,rfl,rfl,h⟩
  | exact qI pins s σ H _ _ v u Q I rx ry ⟨_,_,rfl,rfl,h.1,h.2⟩
  | (obtain ⟨xs,zs,h1,h2,h3,h4⟩:=h;exact zT pins s σ H _ _ v u Q I rx ry ⟨_,_,xs,zs,rfl,rfl,h1,h2,h3,h4⟩)
def KA:R2:=fun x y H Q=>match x,y with | .int i,.int j=>Q (.int (i - j)) H | _,_=>False
theorem qZ:bf X (binaryOp .Sub) KA:=by
 intro pins s σ H x y v u Q I rx ry h
 cases x<;>cases y<;>first
  | exact (show False from h).elim
  | exact y3 pins s σ H _ _ v u Q I rx ry ⟨_,_,rfl,rfl,h⟩
def KC:R2:=fun x y H Q=>match x,y with | .int i,.int j=>B5 i j/\Q (.int (i*j)) H | _,_=>False
theorem eL:bf X (binaryOp .Mult) KC:=by
 intro pins s σ H x y v u Q I rx ry h
 cases x<;>cases y<;>first
  | exact (show False from h).elim
  | exact yI pins s σ H _ _ v u Q I rx ry ⟨_,_,rfl,rfl,h.1,h.2⟩
def KG:R2:=fun x y H Q=>match x,y with | .int i,.int j=>0 < j/\Q (.int (i % j)) H | _,_=>False
theorem d4:bf X (binaryOp .Mod) KG:=by
 intro pins s σ H x y v u Q I rx ry h
 cases x<;>cases y<;>first
  | exact (show False from h).elim
  | exact zA pins s σ H _ _ v u Q I rx ry ⟨_,_,rfl,rfl,h.1,h.2⟩
def KH:R2:=fun x y H Q=>match x,y with | .int i,.int j=>(0 < j/\j < 1073741824)/\Q (.int (i / j)) H | _,_=>False
theorem mK:bf X (binaryOp .FloorDiv) KH:=by
 intro pins s σ H x y v u Q I rx ry h
 cases x<;>cases y<;>first
  | exact (show False from h).elim
  | exact x9 pins s σ H _ _ v u Q I rx ry ⟨_,_,rfl,rfl,h.1,h.2⟩
def KI:R2:=fun x y H Q=>match x,y with | .int i,.int j=>FJ i j/\Q (.int (i^j.toNat)) H | _,_=>False
theorem xL:bf X (binaryOp .Pow) KI:=by
 intro pins s σ H x y v u Q I rx ry h
 cases x<;>cases y<;>first
  | exact (show False from h).elim
  | exact Jw pins s σ H _ _ v u Q I rx ry ⟨_,_,rfl,rfl,h.1,h.2⟩
def DK (p:Int->Int->Bool):R2:=fun x y H Q=>match x,y with | .int i,.int j=>Q (.bl (p i j)) H | _,_=>False
theorem tY:bf X (compareOp .Gt) (DK fun i j=>decide (j < i)):=by
 intro pins s σ H x y v u Q I rx ry h
 cases x<;>cases y<;>first
  | exact (show False from h).elim
  | exact JD pins s σ H _ _ v u Q I rx ry ⟨_,_,rfl,rfl,h⟩
theorem zQ:bf X (compareOp .GtE) (DK fun i j=>decide (j<=i)):=by
 intro pins s σ H x y v u Q I rx ry h
 cases x<;>cases y<;>first
  | exact (show False from h).elim
  | exact JE pins s σ H _ _ v u Q I rx ry ⟨_,_,rfl,rfl,h⟩
theorem lW:bf X (compareOp .LtE) (DK fun i j=>decide (i<=j)):=by
 intro pins s σ H x y v u Q I rx ry h
 cases x<;>cases y<;>first
  | exact (show False from h).elim
  | exact JC pins s σ H _ _ v u Q I rx ry ⟨_,_,rfl,rfl,h⟩
def KJ:R2:=fun x y H Q=>match x,y with
 | .int i,.int j=>Q (.bl (decide (i < j))) H
 | .str i,.str j=>Q (.bl (decide (i.cps.toList < j.cps.toList))) H
 | _,_=>False
theorem lZ:bf X (compareOp .Lt) KJ:=by
 intro pins s σ H x y v u Q I rx ry h
 cases x<;>cases y<;>first
  | exact (show False from h).elim
  | exact JB pins s σ H _ _ v u Q I rx ry ⟨_,_,rfl,rfl,h⟩
  | exact rV pins s σ H _ _ v u Q I rx ry ⟨_,_,rfl,rfl,h⟩
def Cg (n:Bool):R2:=fun x y H Q=>match x,y with
 | .ref a,.ref b=>a≠b/\∃ xs,H a=some (.lst xs)/\H b=some (.lst [])/\Q (.bl (n^^xs.isEmpty)) H
 | x,y=>AO x y=true/\Q (.bl (n^^decide (x=y))) H
theorem vJ {xs:List V} (hu:A.units < cLine) (I:Inv X pins σ H s) (ha:H a=some (.lst xs)) (hb:H b=some (.lst [])) (oh:a≠b)
  (q:∀ tk,Q (.bool xs.isEmpty) {s with toks:=tk}) (q0:Q (.bool xs.isEmpty) s):wpAny (model X.prog X.w) A (compareOp .Eq (.ref a) (.ref b)) Q E s:=by
 obtain ⟨_,its,n,r1,e1⟩:=(show a_ X.prog X.w H s.heap a (.lst xs) from I.hok a _ ha)
 obtain ⟨_,its2,n2,r2,e2⟩:=(show a_ X.prog X.w H s.heap b (.lst []) from I.hok b _ hb)
 cases r2
 have l1:s.heap.IsList a its.toArray:=⟨_,e1,rfl,_,rfl⟩
 have l2:s.heap.IsList b (#[]:Array Value):=⟨_,e2,rfl,_,rfl⟩
 cases r1 with
 | nil=>
  exact SeqAt.eq_listAt (e:=fun _=>true) l1 l2 rfl hu (fun i hi=>absurd hi (by simp)) (by simpa using q0)
 | cons z t=>
  exact SeqAt.eq_list_lengthsAt l1 l2 (by simp) hu (by simpa using q0)
theorem bR (hu:X.A.units < cLine):bf X (compareOp .Eq) (Cg false):=by
 intro pins s σ H x y v u Q I rx ry h
 have hs:(∀ a b,x=.ref a->y=.ref b->False)->AO x y=true/\Q (.bl (false^^decide (x=y))) H:=fun hn=>by
  cases x<;>cases y<;>first
   | exact (hn _ _ rfl rfl).elim
   | exact h
 by_cases hr:∃ a b,x=.ref a/\y=.ref b
 ·obtain ⟨a,b,rfl,rfl⟩:=hr
  obtain ⟨oh,xs,h1,h2,q⟩:=h
  cases rx;cases ry
  exact vJ hu I h1 h2 oh (fun tk=>⟨.bl xs.isEmpty,H,I.tok tk,rfl,by simpa using q⟩) ⟨.bl xs.isEmpty,H,I,rfl,by simpa using q⟩
 ·obtain ⟨h1,h2⟩:=hs fun a b e1 e2=>hr ⟨a,b,e1,e2⟩
  exact Jz pins s σ H x y v u Q I rx ry ⟨h1,by simpa using h2⟩
theorem uV {xs:List V} (hu:A.units < cLine) (I:Inv X pins σ H s) (ha:H a=some (.lst xs)) (hb:H b=some (.lst []))
  (q0:Q (.bool (!xs.isEmpty)) s):wpAny (model X.prog X.w) A (compareOp .NotEq (.ref a) (.ref b)) Q E s:=by
 obtain ⟨_,its,n,r1,e1⟩:=(show a_ X.prog X.w H s.heap a (.lst xs) from I.hok a _ ha)
 obtain ⟨_,its2,n2,r2,e2⟩:=(show a_ X.prog X.w H s.heap b (.lst []) from I.hok b _ hb)
 cases r2
 have l1:s.heap.IsList a its.toArray:=⟨_,e1,rfl,_,rfl⟩
 have l2:s.heap.IsList b (#[]:Array Value):=⟨_,e2,rfl,_,rfl⟩
 cases r1 with
 | nil=>
  exact SeqAt.RcNeAt.lists (e:=fun _=>true) l1 l2 rfl hu (fun i hi=>absurd hi (by simp)) _ _ _ _ (by simpa using q0)
 | cons z t=>
  exact SeqAt.RcNeAt.lists_lengths l1 l2 (by simp) hu _ _ _ _ (by simpa using q0)
theorem gY (hu:X.A.units < cLine):bf X (compareOp .NotEq) (Cg true):=by
 intro pins s σ H x y v u Q I rx ry h
 have hs:(∀ a b,x=.ref a->y=.ref b->False)->AO x y=true/\Q (.bl (true^^decide (x=y))) H:=fun hn=>by
  cases x<;>cases y<;>first
   | exact (hn _ _ rfl rfl).elim
   | exact h
 by_cases hr:∃ a b,x=.ref a/\y=.ref b
 ·obtain ⟨a,b,rfl,rfl⟩:=hr
  obtain ⟨oh,xs,h1,h2,q⟩:=h
  cases rx;cases ry
  exact uV hu I h1 h2 ⟨.bl (!xs.isEmpty),H,I,rfl,by simpa using q⟩
 ·obtain ⟨h1,h2⟩:=hs fun a b e1 e2=>hr ⟨a,b,e1,e2⟩
  exact JA pins s σ H x y v u Q I rx ry ⟨h1,by simpa using h2⟩
def F9 (K:QZ):R2:=fun x y H Q=>match x,y with
 | .ref p,.int i=>∃ xs v,(ae K H p xs\/aj K H p xs)/\gb xs i=some v/\Q v H
 | .str z,.int i=>z.length<=sizeLine/\∃ c,gb z.cps.toList i=some c/\Q (.str ⟨#[c]⟩) H
 | _,_=>False
theorem KL : xo X (F9 X.K) := by
  intro e1 e2 pins s σ H x y v u Q I rx ry h hs
  cases x <;> cases y <;> first
    | exact (show False from h).elim
    | (obtain ⟨xs, w, h1 | h1, h2, h3⟩ := h
       · exact wE e1 e2 pins s σ H _ _ v u Q I rx ry ⟨_, xs, _, w, rfl, rfl, h1, h2, h3⟩ hs
       · exact JP e1 e2 pins s σ H _ _ v u Q I rx ry ⟨_, xs, _, w, rfl, rfl, h1, h2, h3⟩ hs)
    | (obtain ⟨h1, c, h2, h3⟩ := h; exact zZ e1 e2 pins s σ H _ _ v u Q I rx ry ⟨_, _, c, rfl, rfl, h1, h2, h3⟩ hs)
def Ci (K:QZ) (n:Bool):R2:=fun x y H Q=>match y with
 | .str j=>∃ i,x=.str i/\Q (.bl (n^^(!(Builtin.Str.occurrences j i 0 j.length 1).isEmpty))) H
 | .ref p=>∃ xs,(ae K H p xs\/aj K H p xs)/\qj x=true/\xs.all qj=true/\Q (.bl (n^^uz x xs)) H
 | _=>False
theorem yJ:bf X (compareOp .In) (Ci X.K false):=by
 intro pins s σ H x y v u Q I rx ry h
 cases y<;>first
  | exact (show False from h).elim
  | (obtain ⟨i,rfl,h2⟩:=h;exact tD pins s σ H _ _ v u Q I rx ry ⟨i,_,rfl,rfl,by simpa using h2⟩)
  | (obtain ⟨xs,h1,h2,h3,h4⟩:=h;exact rU pins s σ H _ _ v u Q I rx ry ⟨_,xs,rfl,h1,h2,h3,by simpa using h4⟩)
theorem sF:bf X (compareOp .NotIn) (Ci X.K true):=by
 intro pins s σ H x y v u Q I rx ry h
 cases y<;>first
  | exact (show False from h).elim
  | (obtain ⟨i,rfl,h2⟩:=h;exact lL pins s σ H _ _ v u Q I rx ry ⟨i,_,rfl,rfl,by simpa using h2⟩)
  | (obtain ⟨xs,h1,h2,h3,h4⟩:=h;exact m5 pins s σ H _ _ v u Q I rx ry ⟨_,xs,rfl,h1,h2,h3,by simpa using h4⟩)
def DL (K:QZ):List V->Hp->VK->Prop:=fun xs H Q=>match xs with
 | [.str y]=>y.length<=sizeLine/\Q (.int y.length) H
 | [.ref p]=>(∃ ys,(ae K H p ys\/aj K H p ys)/\Q (.int ys.length) H)\/(∃ kvs,Rd H p (.dK kvs)/\Q (.int kvs.length) H)
 | _=>False
theorem tR:iy X (.builtin "len") (DL X.K):=by
 intro pins s σ H xs us Q I r h
 unfold DL at h
 split at h
 ·exact jH pins s σ H _ us Q I r ⟨_,_,rfl,⟨h.1,rfl⟩,h.2⟩
 ·rcases h with ⟨ys,h1 | h1,q⟩ | ⟨kvs,h1,q⟩
  ·exact jH pins s σ H _ us Q I r ⟨_,_,rfl,.inl ⟨ys,h1,rfl⟩,q⟩
  ·exact jH pins s σ H _ us Q I r ⟨_,_,rfl,.inr ⟨ys,h1,rfl⟩,q⟩
  ·obtain ⟨u,rfl,ru⟩:=vals1 r
   cases ru
   exact J0 I h1 fun t s' I'=>⟨.int kvs.length,H,I',⟨t,rfl⟩,q⟩
 ·exact h.elim
def lu (H:Hp):V->Option String
 | .af=>some "NoneType"
 | .bl _=>some "bool"
 | .int _=>some "int"
 | .str _=>some "str"
 | .ref a=>match H a with
  | some (.lst _)=>some "list"
  | some (.tup _)=>some "tuple"
  | some (.dK _)=>some "dict"
  | _=>none
 | _=>none
def qw (t T:String):Bool:=t==T||(t=="bool"&&T=="int")
theorem wJ:∀ (K:QZ) (t T:String),t∈["NoneType","bool","int","str","list","tuple","dict"]->T∈["bool","int","str","list","tuple","dict"]->PySem.W.kitOne K (.type t) (.type T)=some (qw t T):=by
 intro K t T h1 h2
 simp only [Qp,QA,or_false] at h1 h2
 rcases h1 with rfl | rfl | rfl | rfl | rfl | rfl | rfl<;>rcases h2 with rfl | rfl | rfl | rfl | rfl | rfl<;>rfl
def F_:List V->Hp->VK->Prop:=fun xs H Q=>match xs with
 | [x,.ty T]=>T∈["bool","int","str","list","tuple","dict"]/\∃ t,lu H x=some t/\Q (.bl (qw t T)) H
 | _=>False
theorem cH:iy X (.builtin "isinstance") F_:=by
 intro pins s σ H xs us Q I r h
 unfold F_ at h
 split at h
 ·next x T=>
  obtain ⟨hT,t,ht,q⟩:=h
  obtain ⟨u,c,rfl,ru,rc⟩:=r.two
  cases rc
  have fin:∀ tk,EP X pins σ Q (.bool (qw t T)) {s with toks:=tk}:=fun tk=>⟨.bl (qw t T),H,I.tok tk,rfl,q⟩
  have tm:t∈["NoneType","bool","int","str","list","tuple","dict"]/\ki X.K H x (.type t):=by
   cases x with
   | af=>cases ht;exact ⟨by simp,.af⟩
   | bl b=>cases ht;exact ⟨by simp,.bl b⟩
   | int b=>cases ht;exact ⟨by simp,.int b⟩
   | str b=>cases ht;exact ⟨by simp,.str b⟩
   | ref a=>
    unfold lu at ht
    dsimp only at ht
    split at ht
    ·next e=>cases ht;exact ⟨by simp,.lst e⟩
    ·next e=>cases ht;exact ⟨by simp,.tup e⟩
    ·next e=>cases ht;exact ⟨by simp,.dK e⟩
    ·cases ht
   | _=>cases ht
  exact tP I ru tm.2 (wJ _ t T tm.1 hT) fin
 ·exact h.elim
def DM (K:QZ):List V->Hp->VK->Prop:=fun xs H Q=>match xs with
 | [.ref p]=>∃ bs:List Bool,ae K H p (bs.map V.bl)/\Q (.bl (bs.all id)) H
 | _=>False
theorem oF:∀ {bs:List Bool} {us:List Value},aq (bs.map V.bl) us->us=bs.map Value.bool
 | [],_,.nil=>rfl
 | b::bs,_,.cons r t=>by
  cases (show _=Value.bool b from r)
  rw [oF t];rfl
theorem tH (hc:X.calm=true):iy X (.builtin "all") (DM X.K):=by
 intro pins s σ H xs us Q I r h
 unfold DM at h
 split at h
 ·next p=>
  obtain ⟨bs,hq,q⟩:=h
  obtain ⟨u,rfl,ru⟩:=r.one
  cases ru
  obtain ⟨its,rv,pl,hz⟩:=I.list hq
  have e:=oF rv
  subst e
  have bc:p < s.heap.objs.size:=by obtain ⟨_,e,_⟩:=pl.isList;exact Qz e
  refine call_all_walk (wpAny_pyIter_list pl.isList ?_)
  refine ⟨s.heap.objs.size,[s.heap.objs.size,p],[s.heap.objs.size],(bs.map Value.bool).toArray.size,_,_,fun i=>(bs[i]?).getD true,rfl,Walks.list (A:=X.A.in1) (I.ok.hd hc) _ p (Nat.ne_of_lt bc) _,
   ⟨⟨_,Qd _ rfl,rfl,rfl⟩,pl.isList.push _⟩,fun i v s' Q' E' hP hQ=>?_,fun h' tk hk=>?_⟩
  ·have A_:(bs.map Value.bool)[i]? =some v:=by simpa using hP
   rw [Qq] at A_
   cases eb:bs[i]? with
   | none=>rw [eb] at A_;cases A_
   | some b=>
    rw [eb] at A_
    cases A_
    simp only [eb,Option.getD_some] at hQ
    exact wpAny_truthy_bool hQ
  ·have e:((List.range (bs.map Value.bool).toArray.size).all fun i=>(bs[i]?).getD true)=bs.all id:=by
    rw [List.size_toArray,Ql]
    rw [Bool.eq_iff_iff,QF,QF]
    constructor
    ·intro h b hb
     obtain ⟨i,hi,rfl⟩:=Qi hb
     have:=h i (List.mem_range.mpr hi)
     simpa [Qa hi] using this
    ·intro h i hi
     have jw:=List.mem_range.mp hi
     have:=h _ (Qj jw)
     simpa [Qa jw] using this
   rw [e]
   refine ⟨.bl (bs.all id),H,I.kept (t':=tk) fun b o e=>hk b o (fun hm=>?_) (Qc _ e),rfl,q⟩
   rw [List.mem_singleton.mp hm] at e
   exact Nat.lt_irrefl _ (Qz e)
 ·exact h.elim
theorem lG:∀ {xs:List Str} {us:List Value},aq (xs.map V.str) us->StrsAre us xs
 | [],_,.nil=>.nil
 | x::xs,_,.cons r t=>by
  obtain ⟨k,rfl⟩:=(show ∃ t,_=Value.str x t from r)
  exact .cons x k (lG t)
def rJoin (K:QZ):V->List V->Hp->VK->Prop:=fun x vs H Q=>match x,vs with
 | .str sep,[.ref p]=>∃ ys:List Str,ae K H p (ys.map V.str)/\(ys.map (·.length)).sum+ys.length*sep.length<=16777216/\Q (.str (Txt.join sep ys)) H
 | _,_=>False
theorem vY:u_ X "str.join" (rJoin X.K):=by
 intro pins s σ H x vs v us Q I rx rv h
 unfold rJoin at h
 split at h
 ·next sep p=>
  obtain ⟨ys,hq,hz,q⟩:=h
  obtain ⟨t,rfl⟩:=(show ∃ t,v=Value.str sep t from rx)
  obtain ⟨u,rfl,ru⟩:=rv.one
  cases ru
  obtain ⟨its,KN,pl,_⟩:=I.list hq
  exact join_list pl.isList (by simpa using lG KN) hz fun t' k=>⟨.str (Txt.join sep ys),H,I.tok k,⟨t',rfl⟩,q⟩
 ·exact h.elim
def DN:V->Option Int->Option Int->Hp->VK->Prop:=fun x lo hi H Q=>∃ z,x=.str z/\z.length<=sizeLine/\Q (.str (Txt.slice z lo hi)) H
theorem KO:nu X DN:=by
 intro pins s σ H x v vl vu lo hi sl Q I rx hs pl pu h
 obtain ⟨z,rfl,hz,q⟩:=h
 obtain ⟨t,rfl⟩:=(show ∃ t,v=Value.str z t from rx)
 refine ⟨"str",_,F.slot_str_getitem.lookup,typeIs_str _ _ _,?_⟩
 have Ga:∀ {w:Value} {o:Option Int},IsPart w o->∃ l:Option (Int×Tok),w=partValue l/\l.map (·.1)=o:=fun {w o} p=>by
  cases p with
  | none=>exact ⟨none,rfl,rfl⟩
  | int k t=>exact ⟨some (k,t),rfl,rfl⟩
 obtain ⟨l,e1,e2⟩:=Ga pl
 obtain ⟨u,e3,e4⟩:=Ga pu
 subst e1 e3
 obtain ⟨o,ho,hc,hd⟩:=hs
 refine wpAny_getItem_str_slice (l:=l) (u:=u) (st:=none) ⟨o,ho,hc,hd⟩ rfl ?_
 refine post_val_or_str ⟨Nat.le_trans (Txt.slice_le z _ _) hz,fun t' k=>?_⟩
 show EP X pins σ Q (.str (Txt.slice z (l.map (·.1)) (u.map (·.1))) t') _
 rw [e2,e4]
 exact ⟨.str (Txt.slice z lo hi),H,I.tok k,⟨t',rfl⟩,q⟩
def Cj (z:Str):It:=⟨fun i _=>i < z.cps.size,fun i H x H'=>H'=H/\∃ c,z.cps[i]? =some c/\x=.str ⟨#[c]⟩,fun i _=>z.cps.size=i⟩
theorem qM {K:QZ} {it:Addr} {St:Nat->Heap->Prop} (W:∀ A':Around,A'.handled=none->Walks P w A' it [it] [it] z.cps.size (SignAt z) St)
  (DO:∀ (A:Around) (i:Nat) (s:Shared) (Q:Value->Shared->Prop) (E:Value->Shared->Prop),St i s.heap->Q (.ref it) s->wpAny (model P w) A (pyIter (.ref it)) Q E s)
  (hg:∀ i h,St i h->∃ o n vs,h.get? it=some o/\o.cls=.type n/\o.data=.fields vs/\["enumerate","zip","dict_itemiterator","dict_reverseitemiterator","odict_iterator","itertools.zip_longest","itertools.pairwise"].contains n=false):Turn P w K tg (Cj z) [it] it St where
 mem:=by simp
 obj:=fun i h st b hb=>by
  have e:b=it:=by simpa using hb
  subst e
  obtain ⟨o,n,vs,e,c,d,_⟩:=hg i h st
  exact ⟨o,e,fun v z=>by rw [d] at z;cases z⟩
 keep:=fun i h h' st k=>(W {} rfl).frame _ _ _ st k
 item:=by
  intro X hP hw hK hc i pins s σ H E I hf st DP
  subst hP hw hK
  obtain ⟨f0,f1,f2,f3,f4,f5⟩:=hf it (by simp)
  refine (W X.A (I.ok.hd hc)).item i s _ _ DP st fun v h' tk hv iw kk=>?_
  obtain ⟨c,t,jx,rfl⟩:=hv
  have I1:Inv X pins σ H {s with heap:=h',toks:=tk}:=I.turned (fun b o hb e=>kk b o (by simpa using hb) e) f0 f1 f3 f4 f5
  obtain ⟨o,n,vs,e,c',d,nn⟩:=hg _ _ iw
  exact ⟨_,rfl,lC (s:={s with heap:=h',toks:=tk}) e c' d nn ⟨.str ⟨#[c]⟩,H,I1,⟨t,rfl⟩,⟨rfl,c,jx,rfl⟩,iw,fun b hb=>(hf b hb).1⟩⟩
 done:=by
  intro X hP hw hK hc i pins s σ H E I hf st DP
  subst hP hw hK
  obtain ⟨f0,f1,f2,f3,f4,f5⟩:=hf it (by simp)
  have e:z.cps.size=i:=DP
  subst e
  exact (W X.A (I.ok.hd hc)).done s _ _ st fun h' tk kk=>⟨rfl,I.turned (fun b o hb e=>kk b o (by simpa using hb) e) f0 f1 f3 f4 f5⟩
 self:=DO
def av (P:Program) (w:World) (K:QZ) (mg:Str->Option Value) (base:Heap) (k:Nat) (x:Str) (ps:List Str) (sp:Sp):Prop:=
 ∃ (f:Addr) (fd:FuncData),kj P w K mg base qm k f fd ps sp/\mg x=some (.ref f)/\PySem.W.keepIn K (.ref f)=true/\Binds K fd ps []/\∃ (oc:Value) (od:Option Addr) (gg:Array (Option Value)),K.lookup f=some ⟨oc,od,.func fd,gg⟩
section
variable {k:Nat} {sp:Sp} {p pos:Pos}
theorem KP (F:av X.prog X.w X.K X.mg X.base k x ps sp) (hr:ck k X.A) (ha:PA X (e::es) t) (hg:Gl X x:=by rfl) (c_:(x==("__debug__":Str))=false:=by decide)
  (he:starEach (e::es) X.env=(false,eval e X.env)::starEach es X.env:=by rfl) (hpl:(backTo pos (starEach es X.env)).any (·.1)=false:=by rfl):
  PE X (.Call (.Name x p) (e::es) [] pos) (B7 sp [] E0 t):=by
 obtain ⟨f,fd,G,KQ,kp,b,_⟩:=F
 exact vZ G hr hg KQ kp b .nil J2 ha c_ he hpl
end
def iD (K:QZ) (tl:TE):TI:=fun σ H R=>tl σ H fun x H1=>match x with
 | .ref a=>((∃ xs,ae K H1 a xs)/\R (zx K a) H1)\/((∃ xs,aj K H1 a xs)/\R (zy K a) H1)
 | .str z=>R (Cj z) H1
 | _=>False
theorem KR {l:Expr} {tl:TE} (hl:PE X l tl):PI X tg l (iD X.K tl):=by
 intro pins s σ H R I h
 refine ai (hl pins s σ H _ I h) ?_
 rintro v s1 ⟨x,H1,I1,r1,q1⟩
 cases x with
 | ref a=>
  cases r1
  rcases q1 with ⟨⟨xs,hq⟩,q⟩ | ⟨⟨xs,hq⟩,q⟩
  ·obtain ⟨its,rv,p,hz⟩:=I1.list hq
   refine wpAny_pyIter_list p.isList ?_
   refine ⟨s1.heap.objs.size,[s1.heap.objs.size],_,_,H1,rfl,I1.kept (t':=s1.toks) fun b o e=>Qc _ e,sV a _,⟨_,Qd _ rfl,rfl,rfl⟩,fun b hb=>?_,q⟩
   have e:b=s1.heap.objs.size:=by simpa using hb
   subst e
   exact I1.sy (Qy _) (I1.hok.fresh (Qy _))
  ·obtain ⟨its,rv,p,hz⟩:=I1.tuple hq
   refine wpAny_pyIter_tuple (show s1.heap.IsTuple a its.toArray from p) ?_
   refine ⟨s1.heap.objs.size,[s1.heap.objs.size],_,_,H1,rfl,I1.kept (t':=s1.toks) fun b o e=>Qc _ e,pG a _,⟨_,Qd _ rfl,rfl,rfl⟩,fun b hb=>?_,q⟩
   have e:b=s1.heap.objs.size:=by simpa using hb
   subst e
   exact I1.sy (Qy _) (I1.hok.fresh (Qy _))
 | str z=>
  obtain ⟨t,rfl⟩:=(show ∃ t,v=Value.str z t from r1)
  have q:R (Cj z) H1:=q1
  have fin:∀ (o:Obj) (n:String) (W:∀ A':Around,A'.handled=none->Walks X.prog X.w A' s1.heap.objs.size [s1.heap.objs.size] [s1.heap.objs.size] z.cps.size (SignAt z) (fun i h=>h.IsStrIter s1.heap.objs.size n z t i)),
    (∀ (A:Around) (i:Nat) (s:Shared) (Q:Value->Shared->Prop) (E:Value->Shared->Prop),s.heap.IsStrIter s1.heap.objs.size n z t i->Q (.ref s1.heap.objs.size) s->wpAny (model X.prog X.w) A (pyIter (.ref s1.heap.objs.size)) Q E s)->
    ["enumerate","zip","dict_itemiterator","dict_reverseitemiterator","odict_iterator","itertools.zip_longest","itertools.pairwise"].contains n=false->
    (s1.heap.push o).IsStrIter s1.heap.objs.size n z t 0->zw X pins σ tg R (.ref s1.heap.objs.size) {s1 with heap:=s1.heap.push o}:=by
   intro o n W DO hn st
   refine ⟨s1.heap.objs.size,[s1.heap.objs.size],_,_,H1,rfl,I1.kept (t':=s1.toks) fun b o e=>Qc _ e,qM W DO (fun i h st=>?_),st,fun b hb=>?_,q⟩
   ·obtain ⟨o,e,c,d⟩:=st
    exact ⟨o,n,_,e,c,d,hn⟩
   ·have e:b=s1.heap.objs.size:=by simpa using hb
    subst e
    exact I1.sy (Qy _) (I1.hok.fresh (Qy _))
  cases ha:z.cps.all (· < 128)
  ·exact wpAny_pyIter_wide ha (fin _ _ (fun A' hA=>Walks.strWide hA _ z t) (fun A i s Q E st h=>wpAny_pyIter_striter_wide st h) (by decide) ⟨_,Qd _ rfl,rfl,rfl⟩)
  ·exact wpAny_pyIter_ascii ha (fin _ _ (fun A' hA=>Walks.strAscii hA _ z t) (fun A i s Q E st h=>wpAny_pyIter_striter_ascii st h) (by decide) ⟨_,Qd _ rfl,rfl,rfl⟩)
 | _=>exact (show False from q1).elim
def qx (J:It) (ok:Hp->Prop) (n:Nat) (item:Nat->V):Prop:=
 ∀ H,ok H->(∀ i,i < n->J.go i H/\∀ x H',J.g_ i H x H'->H'=H/\x=item i)/\J.stop n H
theorem cM {K:QZ} (xs:List V):qx (zx K a) (fun H=>ae K H a xs) xs.length (fun i=>xs.getD i .af):=fun H ok=>
 ⟨fun i hi=>⟨⟨xs,xs[i],ok,by simp [hi]⟩,fun x H' ⟨e,y⟩=>⟨e,by
  have:=y xs ok
  show x=xs.getD i V.af
  rw [Qb,this];rfl⟩⟩,⟨xs,ok,Qy _⟩⟩
theorem cZ {K:QZ} (xs:List V):qx (zy K a) (fun H=>aj K H a xs) xs.length (fun i=>xs.getD i .af):=fun H ok=>
 ⟨fun i hi=>⟨⟨xs,xs[i],ok,by simp [hi]⟩,fun x H' ⟨e,y⟩=>⟨e,by
  have:=y xs ok
  show x=xs.getD i V.af
  rw [Qb,this];rfl⟩⟩,⟨xs,ok,Qy _⟩⟩
theorem fY (lo:Int) (n:Nat):qx (BZ lo n) (fun _=>True) n (fun i=>.int (lo+i)):=fun H _=>
 ⟨fun i hi=>⟨hi,fun x H' ⟨e,y⟩=>⟨e,y⟩⟩,Qy _⟩
theorem xB (z:Str):qx (Cj z) (fun _=>True) z.cps.size (fun i=>.str ⟨#[z.cps.getD i 0]⟩):=fun H _=>
 ⟨fun i hi=>⟨hi,fun x H' ⟨e,c,h1,h2⟩=>⟨e,by show x=V.str ⟨#[z.cps.getD i 0]⟩;rw [h2,Array.getD_eq_getD_getElem?,h1];rfl⟩⟩,rfl⟩
theorem hZ {J:It} {ok:Hp->Prop} {item:Nat->V} {g:TG} {tc:TC} {τ0:St} {H0:Hp} {D:Addr} {Q:Hp->Prop} (hJ:qx J ok n item) (Pv:Nat->St->Hp->Prop) (h0:Pv 0 τ0 H0)
  (hok:∀ i τ H,i<=n->Pv i τ H->ok H)
  (hs:∀ i τ H,i < n->Pv i τ H->g (item i) τ H fun τ2 H2=>tc τ2 H2 fun b H3=>if b=true then te τ2 H3 fun y H4=>∃ xs,H4 D=some (.lst xs)/\xs.length < sizeLine/\Pv (i+1) τ2 (upd H4 D (.lst (xs++[y]))) else Pv (i+1) τ2 H3)
  (hd:∀ τ H,Pv n τ H->Q H):∃ W:Nat->Nat->St->Hp->Prop,(∃ m,W 0 m τ0 H0)/\∀ i m τ H,W i m τ H->
   (J.stop i H/\Q H)\/(J.go i H/\∃ N:St->Hp->Prop,(∀ τ' H',N τ' H'->∃ m',m' < m/\W (i+1) m' τ' H')/\∀ x H',J.g_ i H x H'->g x τ H' fun τ2 H2=>tc τ2 H2 fun b H3=>
    if b=true then te τ2 H3 fun y H4=>∃ xs,H4 D=some (.lst xs)/\xs.length < sizeLine/\N τ2 (upd H4 D (.lst (xs++[y]))) else N τ2 H3):=by
 refine ⟨fun i m τ H=>m=n - i/\i<=n/\Pv i τ H,⟨n,by simp,Nat.zero_le _,h0⟩,?_⟩
 rintro i m τ H ⟨rfl,hi,p⟩
 obtain ⟨k1,k2⟩:=hJ H (hok i τ H hi p)
 by_cases bc:i < n
 ·refine .inr ⟨(k1 i bc).1,Pv (i+1),fun σ' H' p'=>⟨n - (i+1),by omega,rfl,bc,p'⟩,fun x H' y=>?_⟩
  obtain ⟨e,e2⟩:=(k1 i bc).2 x H' y
  subst e e2
  exact hs i τ _ bc p
 ·have e:i=n:=by omega
  subst e
  exact .inl ⟨k2,hd τ H p⟩
theorem eZ {J:It} {ok:Hp->Prop} {item:Nat->V} {g:TG} {tb:TS} {D:Ends} (hJ:qx J ok n item) (Pv:Nat->St->Hp->Prop) (h0:Pv 0 σ H) (hok:∀ i τ H,i<=n->Pv i τ H->ok H)
  (hs:∀ i σ H,i < n->Pv i σ H->g (item i) σ H fun σ2 H2=>tb {D with nx:=Pv (i+1),ct:=Pv (i+1),bk:=D.nx} σ2 H2) (hd:∀ σ H,Pv n σ H->D.nx σ H):
  ∃ W:Nat->Nat->St->Hp->Prop,(∃ m,W 0 m σ H)/\∀ i m σ H,W i m σ H->
   (J.stop i H/\D.nx σ H)\/(J.go i H/\∃ N:St->Hp->Prop,(∀ σ' H',N σ' H'->∃ m',m' < m/\W (i+1) m' σ' H')/\∀ x H',J.g_ i H x H'->g x σ H' fun σ2 H2=>tb {D with nx:=N,ct:=N,bk:=D.nx} σ2 H2):=by
 refine ⟨fun i m σ H=>m=n - i/\i<=n/\Pv i σ H,⟨n,by simp,Nat.zero_le _,h0⟩,?_⟩
 rintro i m σ H ⟨rfl,hi,p⟩
 obtain ⟨k1,k2⟩:=hJ H (hok i σ H hi p)
 by_cases bc:i < n
 ·refine .inr ⟨(k1 i bc).1,Pv (i+1),fun σ' H' p'=>⟨n - (i+1),by omega,rfl,bc,p'⟩,fun x H' y=>?_⟩
  obtain ⟨e,e2⟩:=(k1 i bc).2 x H' y
  subst e e2
  exact hs i σ _ bc p
 ·have e:i=n:=by omega
  subst e
  exact .inl ⟨k2,hd σ H p⟩
def cj (K:QZ) (mg:Str->Option Value) (x:Str) (st:Stmt) (ps:List Str):Prop:=∃ (f:Addr) (fd:FuncData),vd K x x st f fd/\mg x=some (.ref f)/\Binds K fd ps []
theorem cj.ok {P:Program} {w:World} {K:QZ} {mg:Str->Option Value} {base:Heap} {x:Str} {st:Stmt} {N ps:List Str} {k:Nat} {sp:Sp} (F:cj K mg x st ps) (S:cu N ps (au st)) (len:∀ vs H Q E,sp vs H Q E->vs.length=ps.length)
  (nq:∀ (f:Addr) (ak:Value) (A:Around) (outer:List Env) (s:Shared) (H:Hp) (vs:List V) (Q:VK) (E:XK),ck k (A.deeper (envOfC x (au st) s.heap.objs.size f ak))->sp vs H Q E->
   ∃ t,iu (fg qm P w K mg base N x (au st) f ak A outer s H E).nj (gv st) t/\t {nx:=fun _ H'=>Q .af H',rt:=Q} (start N vs) H):av P w K mg base (k+1) x ps sp:=by
 obtain ⟨f,fd,Fu,m,b⟩:=F
 exact ⟨f,fd,Fu.ok S len (nq f),m,Fu.kp,b,let ⟨oc,od,_,_,_,_,_,_,gg,_,lk,_⟩:=Fu.ex;⟨oc,od,gg,lk⟩⟩
section
variable {pos:Pos}
theorem KS {v:V} (h:∃ u,X.mg x=some u/\RelV v u) (hg:Gl X x:=by rfl) (hd:(x==("__debug__":Str))=false:=by decide):PE X (.Name x pos) (tC v):=by
 obtain ⟨u,h1,h2⟩:=h
 exact jC hg h1 h2 hd
def DQ (K:QZ) (xs:List V):TE:=fun _ H Q=>∀ a,aj K H a xs->Q (.ref a) H
theorem yT {xs:List V} (h:∃ a,X.mg x=some (.ref a)/\∀ H,aj X.K H a xs) (hg:Gl X x:=by rfl) (hd:(x==("__debug__":Str))=false:=by decide):PE X (.Name x pos) (DQ X.K xs):=by
 obtain ⟨a,h1,h2⟩:=h
 intro pins s σ H Q I q
 exact jC (v:=.ref a) hg h1 rfl hd pins s σ H Q I (q a (h2 H))
theorem KU:nu X (fun x lo hi H Q=>DN x lo hi H Q\/(Dv X.K x lo hi H Q\/Du X.K x lo hi H Q)):=KO.or (wD.or yS)
end
section
variable (K:QZ)
theorem cA (h:X.K=K:=by rfl):xo X (F9 K):=by rw [<- h];exact KL
theorem iK (h:X.K=K:=by rfl):bf X (compareOp .In) (Ci K false):=by rw [<- h];exact yJ
theorem tF (h:X.K=K:=by rfl):bf X (compareOp .NotIn) (Ci K true):=by rw [<- h];exact sF
theorem aN (h:X.K=K:=by rfl):iy X (.builtin "len") (DL K):=by rw [<- h];exact tR
theorem c9 (hc:X.calm=true) (h:X.K=K:=by rfl):iy X (.builtin "all") (DM K):=by rw [<- h];exact tH hc
theorem iB (h:X.K=K:=by rfl):u_ X "str.join" (rJoin K):=by rw [<- h];exact vY
theorem lU (h:X.K=K:=by rfl):nu X (fun x lo hi H Q=>DN x lo hi H Q\/(Dv K x lo hi H Q\/Du K x lo hi H Q)):=by rw [<- h];exact KU
theorem KW {l:Expr} {tl:TE} (hl:PE X l tl) (h:X.K=K:=by rfl):PI X tg l (iD K tl):=by rw [<- h];exact KR hl
theorem zB {pos:Pos} {xs:List V} (hx:∃ a,X.mg x=some (.ref a)/\∀ H,aj K H a xs) (h:X.K=K:=by rfl) (hg:Gl X x:=by rfl) (hd:(x==("__debug__":Str))=false:=by decide):PE X (.Name x pos) (DQ K xs):=by
 subst h;exact yT hx hg hd
theorem xH {k:Nat} {t:nk} {pos:Pos} (hc:X.calm=true) (hh:zu X es t) (h:X.K=K:=by rfl)
  (hn:(assignEach es X.env).length=n:=by rfl) (gq:(assignEach es X.env).findIdx? (·.1)=none:=by rfl):PG X (.Tuple es k pos) (AK K n t):=by
 subst h;exact yX hc hh hn gq
theorem y4 {id:String} {r:V->List V->Hp->VK->Prop} {o:Expr} (pa:PlainAttrs T) (slot:Slot T name id) (AV:typeOf (.builtin id)=pure (.type "method_descriptor")) (hm:u_ X id r) (ho:PE X o to) (ha:PA X (e::es) t) (h:X.K=K:=by rfl)
  (AW:attributeBase o name X.env (eval o X.env)=eval o X.env:=by rfl)
  (AX:((backTo cpos (starEach (e::es) X.env)).all (fun x=> !x.1)&&(backToKw cpos (keywordEach [] X.env)).all (fun x=>x.1.isSome)
   &&decide ((e::es).length+([]:List Keyword).length+(if ([]:List Keyword).isEmpty then 0 else 1) < 30))=true:=by rfl)
  (AZ:(apos.endLine==cpos.line)=true:=by rfl) (hs:starEach (e::es) X.env=(false,eval e X.env)::starEach es X.env:=by rfl) (A0:(backTo cpos (starEach es X.env)).any (·.1)=false:=by rfl):
  PE X (.Call (.Attribute o name apos) (e::es) [] cpos) (Dw K T r to t):=by
 subst h;exact JT pa slot AV hm ho ha AW AX AZ hs A0
end
structure SE (X:Cx) (e:Expr) (t:TE):Prop where
 h:PE X e t
structure ST (X:Cx) (e:Expr) (t:TT):Prop where
 h:PT X e t
structure SW (X:Cx) (e:Expr) (t:TT):Prop where
 h:PW X e t
structure SA (X:Cx) (es:List Expr) (t:TA):Prop where
 h:PA X es t
structure SS (X:Cx) (s:Stmt) (t:TS):Prop where
 h:PS X s t
structure SB (X:Cx) (s:List Stmt) (t:TS):Prop where
 h:iu X s t
structure SG (X:Cx) (e:Expr) (t:TG):Prop where
 h:PG X e t
structure Ck (X:Cx) (e:List Expr) (t:nk):Prop where
 h:zu X e t
structure SI (X:Cx) (tg e:Expr) (t:TI):Prop where
 h:PI X tg e t
structure SC (X:Cx) (e:List Expr) (t:TC):Prop where
 h:qu X e t
structure SO (X:Cx) (e:Option Expr) (t:TO):Prop where
 h:PO X e t
structure Cm (X:Cx) (pos:Pos) (keys:List (Option Expr)) (values:List Expr) (jt:List (TE×TE)):Prop where
 h:A3 X pos keys values jt
section
variable {c:Const} {ia:Pos} {n:Str} {Ac:List Expr} {f0 a0 b0 c0:Expr} {Gb:List Keyword} {o0:Operator} {OR:List (Option Expr)} {Gc:List Comprehension} {Gd:Scope} {u0:UnaryOp} {OS:BoolOp} {OT:List CmpOp}
theorem aB:SA X [] AR:=⟨zD⟩
theorem aD (ha:SE X (.Constant c j ia) te) (hr:SA X es t):SA X (.Constant c j ia::es) (iz te t):=⟨cX ha.h hr.h⟩
theorem aC (ha:SE X (.Name n ia) te) (hr:SA X es t):SA X (.Name n ia::es) (iz te t):=⟨cX ha.h hr.h⟩
theorem wG (ha:SE X (.List Ac ia) te) (hr:SA X es t):SA X (.List Ac ia::es) (iz te t):=⟨cX ha.h hr.h⟩
theorem bV (ha:SE X (.Tuple Ac j ia) te) (hr:SA X es t):SA X (.Tuple Ac j ia::es) (iz te t):=⟨cX ha.h hr.h⟩
theorem aZ (ha:SE X (.Call f0 Ac Gb ia) te) (hr:SA X es t):SA X (.Call f0 Ac Gb ia::es) (iz te t):=⟨cX ha.h hr.h⟩
theorem dD (ha:SE X (.BinOp a0 o0 b0 ia) te) (hr:SA X es t):SA X (.BinOp a0 o0 b0 ia::es) (iz te t):=⟨cX ha.h hr.h⟩
theorem aL (ha:SE X (.Subscript a0 b0 ia) te) (hr:SA X es t):SA X (.Subscript a0 b0 ia::es) (iz te t):=⟨cX ha.h hr.h⟩
theorem aU (ha:SE X (.ListComp a0 Gc Gd ia) te) (hr:SA X es t):SA X (.ListComp a0 Gc Gd ia::es) (iz te t):=⟨cX ha.h hr.h⟩
end
section
variable {a b c o i value lo hi iter elt:Expr} {ta tb tc td ty tv:TE} {pos p p2 pos' ia:Pos}
theorem zv (i:Nat) {pos:Pos} (hN:X.N[i]? =some x:=by rfl) (hv:AH X.env.scope x:=by first | exact Or.inl rfl | exact Or.inr (Or.inl rfl) | exact Or.inr (Or.inr rfl)) (hd:(x==("__debug__":Str))=false:=by decide) (gz:(x==("__classdict__":Str))=false:=by decide):SE X (.Name x pos) (tV i):=⟨Ky i hN hv hd gz⟩
theorem DR {v:V} (h:∃ u,X.mg x=some u/\RelV v u) (hg:Gl X x:=by rfl) (hd:(x==("__debug__":Str))=false:=by decide):SE X (.Name x pos) (tC v):=⟨KS h hg hd⟩
theorem rA (K:QZ) {xs:List V} (hx:∃ a,X.mg x=some (.ref a)/\∀ H,aj K H a xs) (h:X.K=K:=by rfl) (hg:Gl X x:=by rfl) (hd:(x==("__debug__":Str))=false:=by decide):SE X (.Name x pos) (DQ K xs):=⟨zB K hx h hg hd⟩
theorem fQ {v:V} (hg:Gl X x) (hm:X.mg x=none) (hv:bootBuiltins x=some u) (r:RelV v u) (hn:x≠"__name__":=by decide) (hd:(x==("__debug__":Str))=false:=by decide):SE X (.Name x pos) (tC v):=⟨wO hg hm hv r hn hd⟩
theorem xV {j}:SE X (.Constant .none j pos) (tC .af):=⟨yO⟩
theorem iG {b:Bool} {j}:SE X (.Constant (.bool b) j pos) (tC (.bl b)):=⟨Jm⟩
theorem aG {i:Int} {j}:SE X (.Constant (.int i) j pos) (tC (.int i)):=⟨zF⟩
theorem aK {j}:SE X (.Constant (.str x) j pos) (tC (.str x)):=⟨yL⟩
theorem bH {op:Operator} {r:R2} (ho:bf X (binaryOp op) r) (ha:SE X a ta) (hb:SE X b tb):SE X (.BinOp a op b pos) (qh r ta tb):=⟨Jt ho ha.h hb.h⟩
theorem iU {op} (h:SE X a ta):SE X (.BoolOp op [a] pos) ta:=⟨yN h.h⟩
theorem gE (ha:SE X a ta) (hb:SE X (.BoolOp .And (b::rest) pos) tb):SE X (.BoolOp .And (a::b::rest) pos) (Fy ta tb):=⟨z5 ha.h hb.h⟩
theorem KZ (ha:SE X a ta) (hb:SE X (.BoolOp .Or (b::rest) pos) tb):SE X (.BoolOp .Or (a::b::rest) pos) (Fz ta tb):=⟨Jq ha.h hb.h⟩
theorem dG {r:R2} (ho:bf X (compareOp op) r) (ha:SE X a ta) (hb:SE X b tb) (hm:behindInMarks op b=false):SE X (.Compare a [op] [b] pos) (qh r ta tb):=⟨vX ho ha.h hb.h hm⟩
theorem aX {r:R2} (ho:bf X (compareOp op) r) (ha:SE X a ta) (hb:SE X b tb) (hm:behindInMarks op b=false):ST X (.Compare a [op] [b] pos) (zz (qh r ta tb)):=⟨wL ho ha.h hb.h hm⟩
theorem rK {xj:CmpOp} {r r':R2} (ho:bf X (compareOp op) r) (ji:bf X (compareOp xj) r') (ha:SE X a ta) (hb:SE X b tb) (hc:SE X c tc) (hm:lastMarks [op,xj] [b,c]=false:=by with_unfolding_all rfl):ST X (.Compare a [op,xj] [b,c] pos) (zz (FL r r' ta tb tc)):=⟨uT ho ji ha.h hb.h hc.h hm⟩
theorem f9 (h:SE X e te) (he:∀ whole,isTrue e X.env whole=(do let v <- whole;standAt e.pos;holding [v] (truthy v)):=by intro _;rfl):ST X e (tB te):=⟨y8 h.h he⟩
theorem f8 (ha:ST X a tA):ST X (.UnaryOp .Not a pos) (Fx tA):=⟨yP ha.h⟩
theorem yU (ha:ST X a tA):SW X (.BoolOp .And [a] pos) tA:=⟨xA ha.h⟩
theorem iT (ha:ST X a tA):SW X (.BoolOp .Or [a] pos) tA:=⟨Jo ha.h⟩
theorem K0 {qc:TT} (ha:ST X a tA) (hb:SW X (.BoolOp .And (b::rest) pos) qc):SW X (.BoolOp .And (a::b::rest) pos) (Fv tA qc):=⟨zP ha.h hb.h⟩
theorem nB {qc:TT} (ha:ST X a tA) (hb:SW X (.BoolOp .Or (b::rest) pos) qc):SW X (.BoolOp .Or (a::b::rest) pos) (Fw tA qc):=⟨Jp ha.h hb.h⟩
theorem SW.pt {tA:TT} (h:SW X e tA):ST X e tA:=⟨h.h.pt⟩
theorem e8 (h:SA X es t):SE X (.List es pos) (FP t):=⟨yD h.h⟩
theorem bQ {x1} (h:SA X es t):SE X (.Tuple es x1 pos) (B6 t):=⟨zN h.h⟩
theorem K1:Cm X pos [] [] []:=⟨wZ⟩
theorem lV {ks:List (Option Expr)} {vs:List Expr} {tk tw:TE} (hk:SE X a tk) (hv:SE X b tw) (hr:Cm X pos ks vs jt):Cm X pos (some a::ks) (b::vs) ((tk,tw)::jt):=⟨u8 hk.h hv.h hr.h⟩
theorem yG {keys:List (Option Expr)} {values:List Expr} (h:Cm X pos keys values jt) (xq:keys.all (·.isSome)=true) (hl:keys.length=values.length) (h0:keys≠[]) (DC:keys.length<=15):SE X (.Dict keys values pos) (F5 jt):=⟨x6 h.h xq hl h0 DC⟩
theorem qO (hc:ST X c tA) (ha:SE X a ta) (hb:SE X b tb):SE X (.IfExp c a b pos) (FA tA ta tb):=⟨uN hc.h ha.h hb.h⟩
theorem dX:SO X none FU:=⟨xD⟩
theorem cS (h:SE X e te):SO X (some e) (FW te):=⟨wH h.h⟩
theorem d5 {r:V->Option Int->Option Int->Hp->VK->Prop} {l u:Option Expr} {tl th:TO} (hr:nu X r) (he:SE X e te) (hl:SO X l tl) (hu:SO X u th):SE X (.Subscript e (.Slice l u none p2) pos) (FY r te tl th):=⟨uH hr he.h hl.h hu.h⟩
theorem cG (hu:X.A.units+1 < cLine) (ho:SE X o td) (hi:SE X i ty) (hs:Ca i):SE X (.Subscript o i pos) (F3 td ty):=⟨x4 hu ho.h hi.h hs⟩
theorem cC {r:R2} (hr:xo X r) (ha:SE X a ta) (hb:SE X b tb) (hs:FZ b):SE X (.Subscript a b pos) (qh r ta tb):=⟨JL hr ha.h hb.h hs⟩
theorem bI {k:Nat} {sp:Sp} (F:av X.prog X.w X.K X.mg X.base k x ps sp) (hr:ck k X.A) (ha:SA X (e::es) t) (hg:Gl X x:=by rfl) (c_:(x==("__debug__":Str))=false:=by decide)
  (he:starEach (e::es) X.env=(false,eval e X.env)::starEach es X.env:=by rfl) (hpl:(backTo pos (starEach es X.env)).any (·.1)=false:=by rfl):
  SE X (.Call (.Name x p) (e::es) [] pos) (B7 sp [] E0 t):=⟨KP F hr ha.h hg c_ he hpl⟩
theorem aI {id:String} {r:List V->Hp->VK->Prop} (hc:iy X (.builtin id) r) (hg:Gl X x) (hm:X.mg x=none) (hv:bootBuiltins x=some (.builtin id)) (ha:SA X (e::es) t) (hn:x≠"__name__":=by decide) (c_:(x==("__debug__":Str))=false:=by decide)
  (he:starEach (e::es) X.env=(false,eval e X.env)::starEach es X.env:=by rfl) (hpl:(backTo pos (starEach es X.env)).any (·.1)=false:=by rfl):SE X (.Call (.Name x p) (e::es) [] pos) (B8 r t):=⟨vK hc hg hm hv ha.h hn c_ he hpl⟩
theorem i3 (K:QZ) {id:String} {r:V->List V->Hp->VK->Prop} (pa:PlainAttrs T) (slot:Slot T name id) (AV:typeOf (.builtin id)=pure (.type "method_descriptor")) (hm:u_ X id r) (ho:SE X o to) (ha:SA X (e::es) t) (h:X.K=K:=by rfl)
  (AW:attributeBase o name X.env (eval o X.env)=eval o X.env:=by rfl)
  (AX:((backTo cpos (starEach (e::es) X.env)).all (fun x=> !x.1)&&(backToKw cpos (keywordEach [] X.env)).all (fun x=>x.1.isSome)
   &&decide ((e::es).length+([]:List Keyword).length+(if ([]:List Keyword).isEmpty then 0 else 1) < 30))=true:=by rfl)
  (AZ:(apos.endLine==cpos.line)=true:=by rfl) (hs:starEach (e::es) X.env=(false,eval e X.env)::starEach es X.env:=by rfl) (A0:(backTo cpos (starEach es X.env)).any (·.1)=false:=by rfl):
  SE X (.Call (.Attribute o name apos) (e::es) [] cpos) (Dw K T r to t):=⟨y4 K pa slot AV hm ho.h ha.h h AW AX AZ hs A0⟩
theorem aV:SB X [] zq:=⟨wK⟩
theorem aH {st:Stmt} {u:TS} (h1:SS X st u):SB X [st] u:=⟨w9 h1.h⟩
theorem aE {st:Stmt} {rest:List Stmt} {u v:TS} (h1:SS X st u) (h2:SB X rest v):SB X (st::rest) (qf u v):=⟨uL h1.h h2.h⟩
theorem aS (he:SE X e te):SS X (.Return (some e) pos) (BV te):=⟨y6 he.h⟩
theorem eP (he:SE X e te) (hs:swapsWith e none pos.line X.env=pure false:=by rfl):SS X (.Expr e pos) (FD te):=⟨xO he.h hs⟩
theorem cF {a b:List Stmt} {u v:TS} (hc:ST X c tA) (ha:SB X a u) (hb:SB X b v):SS X (.If c a b pos) (BW tA u v):=⟨Js hc.h ha.h hb.h⟩
theorem i0 {body:List Stmt} {wi:TI} {g:TG} {u:TS} (hp:PassesOwn (model X.prog X.w) X.A X.env X.xe) (hc:X.calm=true) (hi:SI X tg iter wi) (hg:SG X tg g) (hb:SB X body u) (hs:∀ x,foldedSetIterable iter X.env x=pure x:=by intro _;rfl):SS X (.For tg iter body [] pos) (FG wi g u):=⟨zR hp hc hi.h hg.h hb.h hs⟩
theorem aR {i:Nat} (hN:X.N.Nodup) (hi:X.N[i]? =some x) (hx:Loc X.env.scope x) (he:SE X e te) (hs:swapsWith e (some (.Name x pos')) pos.line X.env=pure false:=by rfl) (hf:X.fn x=true\/X.env.scope.names.lookup x=some .local:=by first | exact .inl rfl | exact .inr rfl | assumption):
  SS X (.Assign [.Name x pos'] e pos) (uv te (jj i)):=⟨yE hN hi hx he.h hs hf⟩
theorem zE (hu:X.A.units+1 < cLine) (ho:SE X o td) (hi:SE X i ty) (hv:SE X value tv) (hs:swapsWith value (some (.Subscript o i pos')) pos.line X.env=pure false):SS X (.Assign [.Subscript o i pos'] value pos) (F4 td ty tv):=⟨xP hu ho.h hi.h hv.h hs⟩
theorem nE {g:TG} (he:SE X e te) (hg:SG X tg g) (hs:swapsWithSole [tg] e pos.line X.env=pure false:=by rfl) (hw:swappedStores [tg] e X.env=pure none:=by rfl)
  (h1:(assignEach [tg] X.env).map (·.2)=[assign tg X.env]:=by rfl):SS X (.Assign [tg] e pos) (uv te g):=⟨zW he.h hg.h hs hw h1⟩
theorem aP {i:Nat} (hN:X.N.Nodup) (hi:X.N[i]? =some x) (hx:Loc X.env.scope x) (hf:X.fn x=true\/X.env.scope.names.lookup x=some .local:=by first | exact .inl rfl | exact .inr rfl | assumption):SG X (.Name x pos) (jj i):=⟨xQ hN hi hx hf⟩
theorem f7:Ck X [] Dj:=⟨xI⟩
theorem bG {g:TG} {u:nk} (h1:SG X e g) (h2:Ck X es u) (hs:(assignEach (e::es) X.env).map (·.2)=assign e X.env::(assignEach es X.env).map (·.2):=by rfl):Ck X (e::es) (BY g u):=⟨uU h1.h h2.h hs⟩
theorem i4 (K:QZ) {k:Nat} {u:nk} (hc:X.calm=true) (hh:Ck X es u) (h:X.K=K:=by rfl)
  (hn:(assignEach es X.env).length=n:=by rfl) (gq:(assignEach es X.env).findIdx? (·.1)=none:=by rfl):SG X (.Tuple es k pos) (AK K n u):=⟨xH K hc hh.h h hn gq⟩
theorem u4 {u:BX} (ho:SE X o td) (hi:SE X i ty) (hs:Di X u)
  (ha:∀ v,assign (.Subscript o i pos) X.env v=(do
   let ov <- holding [v] (eval o X.env)
   let iv <- holding [v,ov] (eval i X.env)
   standAt pos
   holding [v,ov,iv] (setItem ov iv v)
   release [v,ov,iv] []):=by intro _;rfl):SG X (.Subscript o i pos) (FE td ty u):=⟨z9 ho.h hi.h hs ha⟩
theorem iC (hg:Gl X "range") (hm:X.mg "range"=none) (ha:SA X [a] t) (hs:starEach [a] X.env=[(false,eval a X.env)]:=by rfl):SI X tg (.Call (.Name "range" p) [a] [] pos) (FF t):=⟨tI hg hm ha.h hs⟩
theorem nU (K:QZ) (hl:SE X e te) (h:X.K=K:=by rfl):SI X tg e (iD K te):=⟨KW K hl.h h⟩
theorem cT:SC X [] Cd:=⟨xE⟩
theorem xU (h:ST X c tA):SC X [c] tA:=⟨wV h.h⟩
theorem fO {wi:TI} {g:TG} {tt:TC} (S:kr X.env.scope X.N sc own idx N') (hc:X.calm=true) (hi:SI X tg iter wi)
  (hg:∀ cl C s3 H0 fp pn,SG (cg X N' sc cl C s3 H0 fp pn) tg g) (ht:∀ cl C s3 H0 fp pn,SC (cg X N' sc cl C s3 H0 fp pn) ifs tt) (he:∀ cl C s3 H0 fp pn,SE (cg X N' sc cl C s3 H0 fp pn) elt te)
  (hs:∀ x,foldedSetIterable iter X.env x=pure x:=by intro _;rfl):SE X (.ListComp elt [⟨tg,iter,ifs,0⟩] sc pos) (Ce own idx wi g tt te):=
 ⟨Ku S hc hi.h (fun q r s t u v=>(hg q r s t u v).h) (fun q r s t u v=>(ht q r s t u v).h) (fun q r s t u v=>(he q r s t u v).h) hs⟩
theorem K2 {wi:TI} {g:TG} {tt:TC} {i:Nat} {py spos:Pos} (S:kr X.env.scope X.N sc own idx N') (hc:X.calm=true) (hi:SI X tg iter wi)
  (hg:∀ cl C s3 H0 fp pn,SG (cg X N' sc cl C s3 H0 fp pn) tg g) (ht:∀ cl C s3 H0 fp pn,SC (cg X N' sc cl C s3 H0 fp pn) ifs tt) (he:∀ cl C s3 H0 fp pn,SE (cg X N' sc cl C s3 H0 fp pn) elt te)
  (hN:X.N.Nodup) (DJ:X.N[i]? =some y) (hy:X.env.scope.names.lookup y=some .local)
  (ve:swapsWith (.ListComp elt [⟨tg,iter,ifs,0⟩] sc pos) (some (.Name y py)) spos.line X.env=pure true:=by rfl)
  (hs:∀ x,foldedSetIterable iter X.env x=pure x:=by intro _;rfl):SS X (.Assign [.Name y py] (.ListComp elt [⟨tg,iter,ifs,0⟩] sc pos) spos) (uv (Ce own idx wi g tt te) (jj i)):=
 ⟨Kv S hc hi.h (fun q r s t u v=>(hg q r s t u v).h) (fun q r s t u v=>(ht q r s t u v).h) (fun q r s t u v=>(he q r s t u v).h) hN DJ hy ve hs⟩
end
theorem cj.e_ {K:QZ} {st:Stmt} {k:Nat} {sp:Sp} (F:cj K mg x st ps) (S:cu N ps (au st)) (len:∀ vs H Q E,sp vs H Q E->vs.length=ps.length)
  (nq:∀ (f:Addr) (ak:Value) (A:Around) (outer:List Env) (s:Shared) (H:Hp) (vs:List V) (Q:VK) (E:XK),ck k (A.deeper (envOfC x (au st) s.heap.objs.size f ak))->sp vs H Q E->
   ∃ t,SB (fg qm P w K mg base N x (au st) f ak A outer s H E).nj (gv st) t/\t {nx:=fun _ H'=>Q .af H',rt:=Q} (start N vs) H):av P w K mg base (k+1) x ps sp:=
 F.ok S len fun f ak A outer s H vs Q E hr h=>let ⟨t,h1,h2⟩:=nq f ak A outer s H vs Q E hr h;⟨t,h1.h,h2⟩
theorem K3 {kx vx target iter:Expr} {pos:Pos} {it:Value} {D:Addr} (I:Nat->Shared->Prop)
  (turn:∀ n s,I n s->wpAny (model prog w) A (pyNext it) (fun r s₁=>match r with
   | none=>R (.ok .next) s₁
   | some v=>wpAny (model prog w) A (letOwnedTupleGo target it v) (fun _ xy=>wpAny (model prog w) A (assign target env v) (fun _ s₂=>
     wpAny (model prog w) A (forIn ifs true fun c r=>if r=true then do let ok <- isTrue c env (eval c env);pure (ForInStep.yield ok) else pure (ForInStep.yield r)) (fun ok s₃=>
      if ok=true then wpAny (model prog w) A (eval kx env) (fun kv s₄=>wpAny (model prog w) A (eval vx env) (fun vv s₅=>
       wpAny (model prog w) A (dictSet D kv vv) (fun _ s₆=>∃ m,m < n/\I m s₆) fh s₅) fh s₄) fh s₃
      else ∃ m,m < n/\I m s₃) fh s₂) fh xy) fh s₁) fh s)
  (n:Nat) (h:I n s):
  codeAny (model prog w) A (.compLoop (.DictComp kx vx [⟨target,iter,ifs,0⟩] scope pos) 0 it (.ref D) env) R s:=by
 refine codeAny_loop rfl I (fun n s hI=>?_) n h
 show wpAny _ A ((compTurn (.DictComp kx vx [⟨target,iter,ifs,0⟩] scope pos) 0 it (.ref D) env).onRaise (fun x=>do noteFrame x env;theTreesLotGoes x)) _ _ s
 refine wpAny_noted ?_
 rw [compTurn_dict]
 refine QS (wpAny_standAt (QS (wpAny_mono (turn n s hI) (fun r s₁ h₁=>?_) fun _ _ h'=>h'.elim)))
 cases r with
 | none=>exact QT h₁
 | some v=>
  refine QS (wpAny_mono h₁ (fun _ xy DG=>?_) fun _ _ h'=>h'.elim)
  refine QS (wpAny_mono DG (fun _ s₂ h₂=>QS (wpAny_mono h₂ (fun ok s₃ h₃=>?_) fun _ _ h'=>h'.elim)) fun _ _ h'=>h'.elim)
  cases ok with
  | false=>exact QT ⟨rfl,h₃⟩
  | true=>
   exact QS (QS (wpAny_mono h₃ (fun kv s₄ h₄=>QS (wpAny_holding (wpAny_mono h₄ (fun vv s₅ h₅=>QS (wpAny_standAt (wpAny_holding (wpAny_mono h₅ (fun _ s₆ h₆=>QT ⟨rfl,h₆⟩) fun _ _ h'=>h'.elim)))) fun _ _ h'=>h'.elim))) fun _ _ h'=>h'.elim))
section
variable {iter kx vx:Expr} {pos:Pos} {wi:TI} {g:TG} {tc:TC} {tk tw:TE}
abbrev K4:Obj:={cls:=.type "dict",data:=.dict #[]}
def Ge (own:List Str) (idx:List Nat) (wi:TI) (g:TG) (tc:TC) (tk tw:TE):TE:=fun σ H Q=>wi σ H fun J H1=>∀ D,H1 D=none->∃ W:Nat->Nat->St->Hp->Prop,(∃ m,W 0 m (qo own idx σ) (upd H1 D (.dK [])))/\∀ i m τ H,W i m τ H->
 (J.stop i H/\Q (.ref D) H)\/(J.go i H/\∃ N:St->Hp->Prop,(∀ τ' H',N τ' H'->∃ m',m' < m/\W (i+1) m' τ' H')/\∀ x H',J.g_ i H x H'->g x τ H' fun τ2 H2=>tc τ2 H2 fun b H3=>
  if b=true then tk τ2 H3 fun x H4=>tw τ2 H4 fun y H5=>∃ kvs key,x=kV key/\H5 D=some (.dK kvs)/\kvs.length < sizeLine/\N τ2 (upd H5 D (.dK (putK kvs key y))) else N τ2 H3)
theorem mQ (S:kr X.env.scope X.N sc own idx N') (c1:∀ x c,cl.lookup x=some c->X.env.cells.lookup x=some c) (c2:∀ y∈sc.names,y.2=.free->∃ c,cl.lookup y.1=some c) (hc:X.calm=true)
  (hg:∀ cl C s3 H0 fp pn,PG (cg X N' sc cl C s3 H0 fp pn) tg g) (ht:∀ cl C s3 H0 fp pn,qu (cg X N' sc cl C s3 H0 fp pn) ifs tc) (he:∀ cl C s3 H0 fp pn,PE (cg X N' sc cl C s3 H0 fp pn) kx tk) (hv:∀ cl C s3 H0 fp pn,PE (cg X N' sc cl C s3 H0 fp pn) vx tw)
  {pins:List (Addr×Obj)} {σ:St} {Q:VK} {ju:Value} {s2:Shared} {RR:Value->Addr->Result->Shared->Prop} {E:Value->Shared->Prop}
  (hI:zw X pins σ tg (fun J H1=>∀ D,H1 D=none->∃ W:Nat->Nat->St->Hp->Prop,(∃ m,W 0 m (qo own idx σ) (upd H1 D (.dK [])))/\∀ i m τ H,W i m τ H->
   (J.stop i H/\Q (.ref D) H)\/(J.go i H/\∃ N:St->Hp->Prop,(∀ τ' H',N τ' H'->∃ m',m' < m/\W (i+1) m' τ' H')/\∀ x H',J.g_ i H x H'->g x τ H' fun τ2 H2=>tc τ2 H2 fun b H3=>
    if b=true then tk τ2 H3 fun x H4=>tw τ2 H4 fun y H5=>∃ kvs key,x=kV key/\H5 D=some (.dK kvs)/\kvs.length < sizeLine/\N τ2 (upd H5 D (.dK (putK kvs key y))) else N τ2 H3)) ju s2)
  (A8:∀ D C H' s',Inv X pins σ H' s'->Q (.ref D) H'->(H' C=none/\C≠X.env.locals/\X.s₀.heap.objs.size<=C/\(∀ x c,X.env.cells.lookup x=some c->c≠C)/\(∀ p∈X.pn++pins,p.1≠C)/\∃ m,s'.heap.Ns C m)->RR (.ref D) C (.ok .next) s'):
  wpAny (model X.prog X.w) X.A newDict (fun acc s₃=>wpAny (model X.prog X.w) X.A (newFunctionEnv sc X.env.globals cl [] X.env.qual none .none (some X.env)) (fun cenv s₄=>
   codeAny (model X.prog X.w) X.A (.compStart (.DictComp kx vx [⟨tg,iter,ifs,0⟩] sc pos) 0 ju acc {cenv with scope:=relabel sc X.env}) (RR acc cenv.locals) s₄) E s₃) E s2:=by
 refine nA (ob:=K4) (sel:=fun env D s K=>wpAny (model X.prog X.w) X.A (eval kx env) (fun kv s₄=>wpAny (model X.prog X.w) X.A (eval vx env) (fun vv s₅=>wpAny (model X.prog X.w) X.A (dictSet D kv vv) (fun _ s₆=>K s₆) fh s₅) fh s₄) fh s) (o0:=.dK []) (el:=fun D τ H K=>tk τ H fun x H4=>tw τ H4 fun y H5=>∃ kvs key,x=kV key/\H5 D=some (.dK kvs)/\kvs.length < sizeLine/\K (upd H5 D (.dK (putK kvs key y)))) S c1 c2 hc (hob:=rfl)
  (fun it D env R s I turn n h=>K3 I turn n h) (fun h k=>ai h fun _ _ h=>ai h fun _ _ h=>ai h fun _ _ h=>k _ h) (fun _ _ _ _ _=>codeAny_compStart_dict) hg ht (fun cl C s3 H0 fp pn pins s τ H D N I q=>?_) (fun Q E h=>wpAny_newObj_type h)
  (fun H' I H h e=>⟨Nat.zero_le _,beq_eq_false_iff_ne.mpr (Ne.symm (Nat.ne_of_lt I.big)),[],.nil,(Heap.DictOf.new s2.heap).at fun o eo=>by rw [Qd _ rfl] at eo;cases eo;exact e⟩) hI A8
 refine ai (he cl C s3 H0 fp pn _ s τ H _ I q) fun kv s8 ⟨x8,H8,I8,r8,q8⟩=>ai (hv cl C s3 H0 fp pn _ s8 τ H8 _ I8 q8) fun yv s9 ⟨y9,H9,I9,r9,kvs,key,ek,Gf,hz,n9⟩=>?_
 subst ek
 obtain ⟨z,hd,vs,rel,dd⟩:=nI I9.hok Gf
 have DS:vs.length<=sizeLine:=by rw [<- rel.length];exact z
 have dw:(putK kvs key y9).length<=sizeLine:=by have:=cU kvs key y9;omega
 refine wpAny_dictSet_pairs (hsz:=DS) (j4 r8) dd fun h' ql hs=>?_
 have K5:∃ q,h'.get? D=some q:=let ⟨q,_,_,hq,_⟩:=ql;⟨q,hq⟩
 exact ⟨_,jD (t':=s9.toks+1) (ob:=.dK (putK kvs key y9)) I9 (by rw [Gf];exact True.intro) hs K5 (pP dw hd (rel.put key r9) ql),n9⟩
theorem K6 (S:kr X.env.scope X.N sc own idx N') (hc:X.calm=true) (hi:PI X tg iter wi)
  (hg:∀ cl C s3 H0 fp pn,PG (cg X N' sc cl C s3 H0 fp pn) tg g) (ht:∀ cl C s3 H0 fp pn,qu (cg X N' sc cl C s3 H0 fp pn) ifs tc) (he:∀ cl C s3 H0 fp pn,PE (cg X N' sc cl C s3 H0 fp pn) kx tk) (hv:∀ cl C s3 H0 fp pn,PE (cg X N' sc cl C s3 H0 fp pn) vx tw)
  (hs:∀ x,foldedSetIterable iter X.env x=pure x:=by intro _;rfl):PE X (.DictComp kx vx [⟨tg,iter,ifs,0⟩] sc pos) (Ge own idx wi g tc tk tw):=by
 intro pins s σ H Q I h
 obtain ⟨cl,A9,c1,c2⟩:=S.closure I.ok
 show wpAny _ X.A (comprehension (.DictComp kx vx [⟨tg,iter,ifs,0⟩] sc pos) sc X.env _ newDict false (eval iter X.env)) _ _ s
 refine wpAny_comprehension_free (use:=none) rfl hs A9 S.kind S.names (ai (hi pins s σ H _ I h) fun v s1 h1=>ai h1 fun ju s2 h2=>?_)
 refine mQ (Q:=Q) (pins:=pins) (σ:=σ) (RR:=fun acc C=>compPost (model X.prog X.w) X.A X.xe none (EP X pins σ Q) acc C) S c1 c2 hc hg ht he hv h2 ?_
 intro D C H' s' I' q ⟨a1,a2,a3,a4,a5,m,a6⟩
 exact ⟨m,a6,fun h' sb=>⟨.ref D,H',I'.turned (t':=s'.toks) (fun b o hb e=>(sb.2 b hb).trans e) a1 (Ne.symm (Ne.symm a2)) (.inr a3) a4 a5,rfl,q⟩⟩
theorem K7 (S:kr X.env.scope X.N sc own idx N') (hc:X.calm=true) (hi:SI X tg iter wi)
  (hg:∀ cl C s3 H0 fp pn,SG (cg X N' sc cl C s3 H0 fp pn) tg g) (ht:∀ cl C s3 H0 fp pn,SC (cg X N' sc cl C s3 H0 fp pn) ifs tc) (he:∀ cl C s3 H0 fp pn,SE (cg X N' sc cl C s3 H0 fp pn) kx tk) (hv:∀ cl C s3 H0 fp pn,SE (cg X N' sc cl C s3 H0 fp pn) vx tw)
  (hs:∀ x,foldedSetIterable iter X.env x=pure x:=by intro _;rfl):SE X (.DictComp kx vx [⟨tg,iter,ifs,0⟩] sc pos) (Ge own idx wi g tc tk tw):=
 ⟨K6 S hc hi.h (fun q r s t u v=>(hg q r s t u v).h) (fun q r s t u v=>(ht q r s t u v).h) (fun q r s t u v=>(he q r s t u v).h) (fun q r s t u v=>(hv q r s t u v).h) hs⟩
end
theorem aa.upd {H:Hp} {a:Addr} (h:H a=none) (o:HO):aa H (upd H a o):=fun b u q=>by rw [aF (aJ q h)];exact q
theorem rH {J:It} {ok:Hp->Prop} {item:Nat->V} {tc:TC} {τ0:St} {H1:Hp} {D:Addr} {Q:Hp->Prop} (hJ:qx J ok n item) (p:Nat->Bool) (f:Nat->V) (hn:n < sizeLine)
  (hok:∀ ys,ok (upd H1 D (.lst ys)))
  (ht:∀ i,i < n->∀ ys k,k (p i) (upd H1 D (.lst ys))->tc (τ0.set 0 (some (item i))) (upd H1 D (.lst ys)) k)
  (he:∀ i,i < n->p i=true->∀ ys k,k (f i) (upd H1 D (.lst ys))->te (τ0.set 0 (some (item i))) (upd H1 D (.lst ys)) k)
  (hQ:Q (upd H1 D (.lst (((List.range n).filter p).map f)))):∃ W:Nat->Nat->St->Hp->Prop,(∃ m,W 0 m τ0 (upd H1 D (.lst [])))/\∀ i m τ H,W i m τ H->
   (J.stop i H/\Q H)\/(J.go i H/\∃ N:St->Hp->Prop,(∀ τ' H',N τ' H'->∃ m',m' < m/\W (i+1) m' τ' H')/\∀ x H',J.g_ i H x H'->jj 0 x τ H' fun τ2 H2=>tc τ2 H2 fun b H3=>
    if b=true then te τ2 H3 fun y H4=>∃ xs,H4 D=some (.lst xs)/\xs.length < sizeLine/\N τ2 (upd H4 D (.lst (xs++[y]))) else N τ2 H3):=by
 refine hZ hJ (fun i τ H=>H=upd H1 D (.lst (((List.range i).filter p).map f))/\∃ v,τ=τ0.set 0 v\/τ=τ0) ⟨rfl,none,.inr rfl⟩ (fun i τ H hi h=>by rw [h.1];exact hok _) ?_ ?_
 ·rintro i τ H hi ⟨rfl,v,hv⟩
  show tc (τ.set 0 (some (item i))) _ _
  have e:τ.set 0 (some (item i))=τ0.set 0 (some (item i)):=by
   rcases hv with rfl | rfl
   ·rw [List.set_set]
   ·rfl
  rw [e]
  refine ht i hi _ _ ?_
  have hr:List.range (i+1)=List.range i++[i]:=List.range_succ
  cases hp:p i with
  | true=>
   rw [if_pos rfl]
   refine he i hi hp _ _ ⟨_,aA,?_,?_,some (item i),.inl rfl⟩
   ·rw [Ql]
    have:=List.length_filter_le p (List.range i)
    rw [List.length_range] at this
    omega
   ·rw [jA,hr,List.filter_append,Qm]
    simp [hp]
  | false=>
   rw [if_neg (by decide)]
   refine ⟨?_,some (item i),.inl rfl⟩
   rw [hr,List.filter_append,Qm]
   simp [hp]
 ·rintro τ H ⟨rfl,_⟩
  exact hQ
theorem Ba {c:Bool} {A B:Prop} (h1:c=true->B) (h2:c=false->A):if (!c)=true then A else B:=by
 cases c with
 | true=>exact h_ (h1 rfl)
 | false=>exact cy (h2 rfl)
theorem di {c:Bool} {A B:Prop} (h1:c=true->A) (h2:c=false->B):if c=true then A else B:=by
 cases c with
 | true=>exact cy (h1 rfl)
 | false=>exact h_ (h2 rfl)
theorem bL {t u:TS} {D:Ends} (mid:St->Hp->Prop) (h1:∀ nx:St->Hp->Prop,(∀ σ' H',mid σ' H'->nx σ' H')->t {D with nx:=nx} σ H) (h2:∀ σ' H',mid σ' H'->u D σ' H'):qf t u D σ H:=h1 (u D) h2
theorem bB (x:α) (xs:List α):gb (x::xs) 0=some x:=fX (j:=0) rfl
theorem mM (n:Nat):ko (n+1) 0=some 0:=by
 unfold ko
 rw [if_pos (by decide),if_pos (by omega)];rfl
theorem i7 (xs:List α) (i:Int) (h0:0<=i) (h1:i < xs.length):∃ c,xs[i.toNat]? =some c/\gb xs i=some c:=by
 have hl:i.toNat < xs.length:=by omega
 refine ⟨xs[i.toNat],by simp [hl],?_⟩
 have:=fX (xs:=xs) (j:=i.toNat) (v:=xs[i.toNat]) (by simp [hl])
 rw [<- this]
 congr 1
 omega
theorem hU (ys:List Str) (sep:Str) (h0:sep.length=0) (h:∀ y∈ys,y.length=1):(Txt.join sep ys).length=ys.length:=by
 show (Builtin.Str.glued sep ys).length=_
 rw [size_glued,h0,Nat.mul_zero,Nat.add_zero]
 exact sumLen_of_ones ys h
theorem bM (ns:List Str) (i:Nat) (h:i < ns.length):(ns.map V.str).getD i .af=.str (ns.getD i ""):=by
 simp [Qb,h]
theorem fS (ns:List Int) (i:Nat) (h:i < ns.length):(ns.map V.int).getD i .af=.int (ns.getD i 0):=by
 simp [Qb,h]
abbrev s_ (w:Addr) (m t:Int):List (Key×V):=[(.inr "mixed",.int m),(.inr "turn",.int t),(.inr "wide",.ref w)]
structure br (H:Hp) (p w:Addr) (t:Nat):Prop where
 ex:∃ (m c:Int) (ws:List Int),H p=some (.dK (s_ w m c))/\H w=some (.lst (ws.map V.int))/\(0<=m/\m < 2147483629)/\0<=c/\c<=(t:Int)
theorem br.mono {w:Addr} {t u:Nat} (h:br H p w t) (l:t<=u):br H p w u:=by
 obtain ⟨m,c,ws,h1,h2,h3,h4,h5⟩:=h.ex
 exact ⟨m,c,ws,h1,h2,h3,h4,by omega⟩
theorem br.ne {w:Addr} {t:Nat} (h:br H p w t):p≠w:=by
 obtain ⟨m,c,ws,h1,h2,_⟩:=h.ex
 exact oZ h1 h2 (by intro z;cases z)
def Sm (p w:Addr) (H H':Hp):Prop:=∀ b o,H b=some o->b≠p->b≠w->H' b=some o
theorem Sm.refl {w:Addr}:Sm p w H H:=fun _ _ h _ _=>h
theorem Sm.trans {w:Addr} {H1 H2:Hp} (a:Sm p w H H1) (b:Sm p w H1 H2):Sm p w H H2:=fun c o h h1 h2=>b c o (a c o h h1 h2) h1 h2
theorem aa.sm {w:Addr} {H1:Hp} (a:aa H H1):Sm p w H H1:=fun c o h _ _=>a c o h
theorem br.same {w:Addr} {t:Nat} (h:br H p w t) (s:aa H H'):br H' p w t:=by
 obtain ⟨m,c,ws,h1,h2,r⟩:=h.ex
 exact ⟨m,c,ws,s _ _ h1,s _ _ h2,r⟩
theorem Sm.free {w:Addr} (s:Sm p w H H') {l:Addr} (h:H' l=none) (hp:l≠p) (hw:l≠w):H l=none:=by
 cases q:H l with
 | none=>rfl
 | some o=>rw [s l o q hp hw] at h;cases h
theorem br.upd {H:Hp} {p w D:Addr} {t:Nat} {o:HO} (h:br H p w t) (h1:D≠p) (h2:D≠w):br (upd H D o) p w t:=by
 obtain ⟨m,c,ws,e1,e2,r⟩:=h.ex
 exact ⟨m,c,ws,by rw [aF h1.symm];exact e1,by rw [aF h2.symm];exact e2,r⟩
theorem Sm.upd {p w D:Addr} {H H':Hp} {o:HO} (s:Sm p w H H') (h:H D=none):Sm p w H (upd H' D o):=fun b u hb h1 h2=>by rw [aF (aJ hb h)];exact s b u hb h1 h2
theorem br.ne1 {w D:Addr} {t:Nat} (h:br H p w t) (hD:H D=none):D≠p:=fun e=>by obtain ⟨_,_,_,z,_⟩:=h.ex;rw [<- e,hD] at z;cases z
theorem br.ne2 {w D:Addr} {t:Nat} (h:br H p w t) (hD:H D=none):D≠w:=fun e=>by obtain ⟨_,_,_,_,z,_⟩:=h.ex;rw [<- e,hD] at z;cases z
abbrev Ad:Nat:=1000000000000
def x_:Sp:=fun vs H Q _=>∃ (p w:Addr) (m:Int) (t:Nat),vs=[.ref p,.int m]/\br H p w t/\(0 < m/\m < 1073741824)/\t < Ad/\
 ∀ (r:Int) (H':Hp),0<=r->r < m->br H' p w (t+1)->Sm p w H H'->Q (.int r) H'
def Gg (K:QZ):Sp:=fun vs H Q _=>∃ (a:Addr) (ns:List Int),vs=[.ref a]/\ae K H a (ns.map V.int)/\ns.length<=63/\
 ∀ (p w:Addr) (H':Hp),H p=none->H w=none->br H' p w 0->aa H H'->Q (.ref p) H'
def DT (K:QZ):Sp:=fun vs H Q _=>∃ (a:Addr) (ns:List Int),vs=[.ref a]/\ae K H a (ns.map V.int)/\ns.length<=63/\∀ H',Q (.bl true) H'
def ya (p w:Addr) (H:Hp):V->Prop
 | .af=>True
 | .bl _=>True
 | .int _=>True
 | .str z=>z.length<=100000
 | .ref a=>a≠p/\a≠w/\((∃ xs,H a=some (.lst xs))\/(∃ xs,H a=some (.tup xs))\/∃ kvs,H a=some (.dK kvs))
 | _=>False
theorem ya.sm {w:Addr} {x:V} (h:ya p w H x) (s:Sm p w H H'):ya p w H' x:=by
 cases x with
 | ref a=>
  obtain ⟨h1,h2,h3⟩:=h
  refine ⟨h1,h2,?_⟩
  rcases h3 with ⟨xs,e⟩ | ⟨xs,e⟩ | ⟨xs,e⟩
  ·exact .inl ⟨xs,s _ _ e h1 h2⟩
  ·exact .inr (.inl ⟨xs,s _ _ e h1 h2⟩)
  ·exact .inr (.inr ⟨xs,s _ _ e h1 h2⟩)
 | _=>exact h
structure Ae (p w:Addr) (t:Nat) (H:Hp) (xs:List V):Prop where
 K8:br H p w t
 all:∀ x∈xs,ya p w H x
section
variable {w:Addr} {t u:Nat} {xs ys:List V}
theorem Ae.sm (g:Ae p w t H xs) (hp:br H' p w u) (s:Sm p w H H'):Ae p w u H' xs:=⟨hp,fun x hx=>(g.all x hx).sm s⟩
theorem Ae.upd {q:Addr} {o:HO} (g:Ae p w t H xs) (h:H q=none):Ae p w t (upd H q o) xs:=g.sm (g.K8.same (aa.upd h o)) (aa.upd h o).sm
end
section
variable {p pos:Pos}
theorem bT {r:List V->Hp->VK->Prop} (hc:iy X (.type T) r) (hg:Gl X x) (hm:X.mg x=none) (hv:bootBuiltins x=some (.type T)) (ha:SA X (e::es) t) (hn:x≠"__name__":=by decide) (c_:(x==("__debug__":Str))=false:=by decide)
  (he:starEach (e::es) X.env=(false,eval e X.env)::starEach es X.env:=by rfl) (hpl:(backTo pos (starEach es X.env)).any (·.1)=false:=by rfl):SE X (.Call (.Name x p) (e::es) [] pos) (B8 r t):=⟨sH hc hg hm hv ha.h hn c_ he hpl⟩
def K9 (K:QZ):List V->Hp->VK->Prop:=fun xs H Q=>∃ p ys,xs=[.ref p]/\((ae K H p ys/\∀ l,H l=none->Q (.ref l) (upd H l (.tup ys)))\/(aj K H p ys/\Q (.ref p) H))
def K_ (K:QZ):List V->Hp->VK->Prop:=fun xs H Q=>∃ p ys,xs=[.ref p]/\(ae K H p ys\/aj K H p ys)/\∀ l,H l=none->Q (.ref l) (upd H l (.lst ys))
theorem bX (K:QZ) (h:X.K=K:=by rfl):iy X (.type "tuple") (K9 K):=by subst h;exact kL
theorem l9 (K:QZ) (h:X.K=K:=by rfl):iy X (.type "list") (K_ K):=by subst h;exact m7
def La:V->List V->Hp->VK->Prop:=fun x vs H Q=>∃ l xs i y,x=.ref l/\vs=[.int i,y]/\H l=some (.lst xs)/\0<=i/\i < 2^62/\xs.length < sizeLine/\
 Q .af (upd H l (.lst (xs.take (min i.toNat xs.length)++y::xs.drop (min i.toNat xs.length))))
theorem rT:u_ X "list.insert" La:=by
 intro pins s σ H x vs v us Q I rx rv h
 obtain ⟨l,xs,i,y,rfl,rfl,hH,h1,h2,hz,q⟩:=h
 cases rx
 obtain ⟨u1,u2,rfl,r1,r2⟩:=rv.two
 obtain ⟨tk,rfl⟩:=(show ∃ t,u1=Value.int i t from r1)
 obtain ⟨z,its,n,r,hl,e⟩:=I.A1 hH
 refine call_meets F.slot_list_insert ⟨_,e,rfl⟩ F.entry_list_insert (F.args_list_insert_3 _ _ _)
  (AutoListH.list_insert_list_int_val_1 l its.toArray n i tk u2 (by rw [fitsIndex_both (by omega) (by omega)];decide) (by rw [List.size_toArray];omega)) ⟨e,?_⟩
 refine ⟨.af,_,I.Dy (its':=its.take (min i.toNat its.length)++u2::its.drop (min i.toNat its.length)) hH e ?_ ?_ ?_,rfl,q⟩
 ·have hi:¬i < 0:=by omega
  simp only [hi,if_false]
  apply Array.toList_inj.mp
  simp [Array.toList_extract,List.drop_take,List.extract_eq_drop_take]
  exact List.take_of_length_le (by rw [List.length_drop];exact Qy _)
 ·rw [hl]
  exact (r.take _).append (.cons r2 (r.drop _))
 ·simp only [Qk,List.length_cons,List.length_take,List.length_drop]
  omega
theorem kZ:∀ {xs:List Str} {us:List Value},StrsAre us xs->aq (xs.map V.str) us
 | _,_,.nil=>.nil
 | _,_,.cons x k r=>.cons ⟨k,rfl⟩ (kZ r)
def Lb (K:QZ):List V->Hp->VK->Prop:=fun xs H Q=>∃ p ss,xs=[.ref p]/\ae K H p (ss.map V.str)/\ss.length < 64/\
 ∀ l (ss':List Str),H l=none->ss'.Perm ss->sortedS ss'=true->Q (.ref l) (upd H l (.lst (ss'.map V.str)))
theorem lK (K:QZ) (hK:X.K=K:=by rfl):iy X (.builtin "sorted") (Lb K):=by
 subst hK
 intro pins s σ H xs us Q I r h
 obtain ⟨p,ss,rfl,hq,Lc,q⟩:=h
 obtain ⟨u,rfl,ru⟩:=r.one
 cases ru
 obtain ⟨its,rv,pl,hz⟩:=I.list hq
 have hS:=lG rv
 have dw:its.length=ss.length:=by have:=rv.length;rw [Ql] at this;exact this.symm
 refine sorted_strs pl.isList hS (by rw [dw];exact Lc) fun out ss' a1 a2 a3=>?_
 obtain ⟨e,he⟩:=sortedAll_at s.heap its out
 have hf:H (s.heap.objs.size+1)=none:=I.hok.fresh (Nat.le_succ _)
 refine ⟨.ref (s.heap.objs.size+1),_,I.laid (t':=s.toks) (a:=s.heap.objs.size+1) (o:=.lst (ss'.map V.str)) (fun b o eo=>sortedAll_old eo) (Nat.le_succ _) ?_,rfl,q _ ss' hf a2 a3⟩
 refine ⟨?_,out.toList,e,kZ a1,?_⟩
 ·rw [Ql,a2.length_eq]
  have:sizeLine=16777216:=QK
  omega
 ·rw [he]
end
mutual
inductive ly (H:Hp):V->PyData->Prop
 | af:ly H .af .none
 | bl (b:Bool):ly H (.bl b) (.bool b)
 | int (i:Int):ly H (.int i) (.int i)
 | str (z:Str):ly H (.str z) (.str z)
 | tup {a:Addr} {xs:List V} {ds:List PyData}:H a=some (.tup xs)->lz H xs ds->ly H (.ref a) (.tuple ds)
 | lst {a:Addr} {xs:List V} {ds:List PyData}:H a=some (.lst xs)->lz H xs ds->ly H (.ref a) (.list ds)
inductive lz (H:Hp):List V->List PyData->Prop
 | nil:lz H [] []
 | cons {x:V} {d:PyData} {xs:List V} {ds:List PyData}:ly H x d->lz H xs ds->lz H (x::xs) (d::ds)
end
mutual
theorem ly.same {H H':Hp} (s:aa H H'):∀ {x:V} {d:PyData},ly H x d->ly H' x d
 | _,_,.af=>.af
 | _,_,.bl b=>.bl b
 | _,_,.int i=>.int i
 | _,_,.str z=>.str z
 | _,_,.tup e r=>.tup (s _ _ e) (lz.same s r)
 | _,_,.lst e r=>.lst (s _ _ e) (lz.same s r)
theorem lz.same {H H':Hp} (s:aa H H'):∀ {xs:List V} {ds:List PyData},lz H xs ds->lz H' xs ds
 | _,_,.nil=>.nil
 | _,_,.cons a r=>.cons (ly.same s a) (lz.same s r)
end
mutual
theorem vC {P:Program} {w:World} {H:Hp} {h:Heap} (ok:bh P w H h):∀ {x:V} {d:PyData} {u:Value},ly H x d->RelV x u->∃ as,Reads h u d as
 | _,_,_,.af,r=>by cases (show _=Value.none from r);exact ⟨[],.none⟩
 | _,_,_,.bl b,r=>by cases (show _=Value.bool b from r);exact ⟨[],.bool b⟩
 | _,_,_,.int i,r=>by obtain ⟨t,rfl⟩:=(show ∃ t,_=Value.int i t from r);exact ⟨[],.int i t⟩
 | _,_,_,.str z,r=>by obtain ⟨t,rfl⟩:=(show ∃ t,_=Value.str z t from r);exact ⟨[],.str z t⟩
 | _,_,_,.tup (a:=a) (xs:=xs) e l,r=>by
  cases (show _=Value.ref a from r)
  obtain ⟨_,its,rv,o,ho,hc,n,hd⟩:=(show a_ P w H h a (.tup xs) from ok a _ e)
  obtain ⟨as,ra⟩:=fN ok l rv
  exact ⟨as,.tuple ho hc hd (by simpa using ra)⟩
 | _,_,_,.lst (a:=a) (xs:=xs) e l,r=>by
  cases (show _=Value.ref a from r)
  obtain ⟨_,its,n,rv,ho⟩:=(show a_ P w H h a (.lst xs) from ok a _ e)
  obtain ⟨as,ra⟩:=fN ok l rv
  exact ⟨a::as,.list ho rfl rfl (by simpa using ra)⟩
theorem fN {P:Program} {w:World} {H:Hp} {h:Heap} (ok:bh P w H h):∀ {xs:List V} {ds:List PyData} {us:List Value},lz H xs ds->aq xs us->∃ as,ReadsAll h us ds as
 | _,_,_,.nil,.nil=>⟨[],.nil⟩
 | _,_,_,.cons a l,.cons r rs=>by
  obtain ⟨as,ra⟩:=vC ok a r
  obtain ⟨bs,rb⟩:=fN ok l rs
  exact ⟨as++bs,.cons ra rb⟩
end
theorem Ld {w:Addr} {x:V} (h:ya p w H x):∃ t,lu H x=some t/\(qw t "str"=true↔∃ z,x=.str z):=by
 cases x with
 | af=>exact ⟨_,rfl,(fun h=>absurd h (by decide)),fun ⟨z,e⟩=>nomatch e⟩
 | bl b=>exact ⟨_,rfl,(fun h=>absurd h (by decide)),fun ⟨z,e⟩=>nomatch e⟩
 | int b=>exact ⟨_,rfl,(fun h=>absurd h (by decide)),fun ⟨z,e⟩=>nomatch e⟩
 | str z=>exact ⟨_,rfl,fun _=>⟨z,rfl⟩,fun _=>by decide⟩
 | ref a=>
  obtain ⟨h1,h2,h3⟩:=h
  rcases h3 with ⟨xs,e⟩ | ⟨xs,e⟩ | ⟨xs,e⟩
  ·exact ⟨"list",by simp [lu,e],(fun h=>absurd h (by decide)),fun ⟨z,e⟩=>nomatch e⟩
  ·exact ⟨"tuple",by simp [lu,e],(fun h=>absurd h (by decide)),fun ⟨z,e⟩=>nomatch e⟩
  ·exact ⟨"dict",by simp [lu,e],(fun h=>absurd h (by decide)),fun ⟨z,e⟩=>nomatch e⟩
 | _=>exact (show False from h).elim
abbrev fq:Str:="abcdefghijklmnopqrstuvwxyz"
abbrev oj:List Str:=["all","none","way","box","pick"]
def tq (c:Nat):Bool:= !(Builtin.Str.occurrences fq ⟨#[c]⟩ 0 fq.length 1).isEmpty
def isName (z:Str):Bool:=decide (1<=z.length)&&decide (z.length<=8)&& !(oj.any fun y=>y==z)&&z.cps.toList.all tq
def Bb:V->Bool
 | .str z=>isName z
 | _=>false
def Gh:Sp:=fun vs H Q _=>∃ (p w:Addr) (x:V),vs=[x]/\ya p w H x/\∀ H',aa H H'->Q (.bl (Bb x)) H'
theorem Le {x:V} (h:¬∃ z,x=.str z):Bb x=false:=by
 cases x with
 | str z=>exact (h ⟨z,rfl⟩).elim
 | _=>rfl
theorem kH (z:Str) (f:Nat->Bool):((List.range z.cps.size).map fun i=>f (z.cps.getD i 0)).all id=z.cps.toList.all f:=by
 rw [List.all_map]
 rw [Bool.eq_iff_iff,QF,QF]
 constructor
 ·intro h c hc
  obtain ⟨i,hi,rfl⟩:=Qi hc
  have jw:i < z.cps.size:=by simpa using hi
  have:=h i (List.mem_range.mpr jw)
  simpa [Array.getD,jw] using this
 ·intro h i hi
  have jw:i < z.cps.size:=List.mem_range.mp hi
  have:=h (z.cps[i]) (by simp)
  simpa [Array.getD,jw] using this
theorem bC {i j:Int}:(decide (V.int i=V.int j))=decide (i=j):=by
 by_cases h:i=j
 ·subst h;simp
 ·rw [Qw h,Qw (fun e=>h (V.int.inj e))]
theorem cE {i j:Str}:(decide (V.str i=V.str j))=(i==j):=by
 by_cases h:i=j
 ·subst h;simp
 ·rw [Qw (fun e=>h (V.str.inj e))]
  exact (beq_eq_false_iff_ne.mpr h).symm
theorem aa.put {H0:Hp} (s:aa H0 H') (h:H0 p=none):aa H0 (L2.upd H' p o):=fun b u q=>by rw [aF (aJ q h)];exact s b u q
theorem aO {u:TS} {D:Ends} (h:te σ H fun x H1=>u D (σ.set i (some x)) H1):qf (uv te (jj i)) u D σ H:=h
theorem kT {v:V} {u:TS} {D:Ends} (h:u D (σ.set i (some v)) H):qf (uv (tC v) (jj i)) u D σ H:=h
theorem d8 {t u:TS} {D:Ends} {rt:VK} {bk ct:St->Hp->Prop} (h:qf t u D σ H):zq {nx:=qf t u D,rt:=rt,bk:=bk,ct:=ct} σ H:=h
theorem Inv.Gi {T:Addr} (I:Inv X pins σ H s) (hf:∀ b∈ch,kh X pins H b) (k:∀ b o,b ∉ ch->s.heap.get? b=some o->h'.get? b=some o)
  (hT:s.heap.objs.size<=T) (new:a_ X.prog X.w (upd H T o) h' T o):Inv X pins σ (upd H T o) {s with heap:=h',toks:=t'}:=by
 have i_:H T=none:=I.hok.fresh hT
 have nT:∀ b ob,s.heap.get? b=some ob->b≠T:=fun b ob e=>Nat.ne_of_lt (Nat.lt_of_lt_of_le (Qz e) hT)
 have ng:∀ b u,H b=some u->b ∉ ch:=fun b u e hb=>by rw [(hf b hb).1] at e;cases e
 refine I.step (g':=s.gens) (d':=s.drawn) (ch:=ch) (fun b hb=>?_) (fun b o _ _ hc e _=>k b o hc e) (fun b o _ _ hc e _=>⟨o.slots,k b o hc e⟩) (fun b o hc e n=>by rw [aF (nT b o e)];exact n)
  (fun b o hc e=>⟨o,k b o hc e⟩) (fun b xs e=>by rw [aF (aJ e i_)];exact e) (fun b o u e=>by rw [aF (aJ e i_)];exact e) (fun b ps e=>⟨#[],by rw [aF (aJ e i_),e];simp⟩) (fun m hm=>?_) (fun b u e=>?_) I.bare
 ·obtain ⟨f0,f1,f2,f3,f4,f5⟩:=hf b hb
  exact ⟨f3,f1,f4,f5⟩
 ·obtain ⟨o,es,ep,ho,r⟩:=hm
  exact ⟨o,es,ep,k _ o (fun z=>(hf _ z).2.1 rfl) ho,r⟩
 ·by_cases hb:b=T
  ·subst hb
   rw [aA] at e;cases e
   exact new
  ·rw [aF hb] at e
   refine (I.hok b u e).stay (fun c v hc q=>k c v ?_ q) (fun c q=>by rw [aF (aJ q i_)];exact q) fun c xs q=>q.upd fun u' hu=>aJ hu i_
   rcases hc with z | z
   ·rw [z];exact ng b u e
   ·exact ng c _ z
theorem Inv.Gj (I:Inv X pins σ H s) (hf:∀ b∈ch,kh X pins H b) (k:∀ b o,b ∉ ch->s.heap.get? b=some o->h'.get? b=some o):Inv X pins σ H {s with heap:=h',toks:=t'}:=by
 have ng:∀ b u,H b=some u->b ∉ ch:=fun b u e hb=>by rw [(hf b hb).1] at e;cases e
 refine I.step (g':=s.gens) (d':=s.drawn) (ch:=ch) (fun b hb=>?_) (fun b o _ _ hc e _=>k b o hc e) (fun b o _ _ hc e _=>⟨o.slots,k b o hc e⟩) (fun b o hc e n=>n)
  (fun b o hc e=>⟨o,k b o hc e⟩) (fun b xs e=>e) (fun b o u e=>e) (fun b ps e=>⟨#[],by rw [e];simp⟩) (fun m hm=>?_) (fun b u e=>?_) I.bare
 ·obtain ⟨f0,f1,f2,f3,f4,f5⟩:=hf b hb
  exact ⟨f3,f1,f4,f5⟩
 ·obtain ⟨o,es,ep,ho,r⟩:=hm
  exact ⟨o,es,ep,k _ o (fun z=>(hf _ z).2.1 rfl) ho,r⟩
 ·refine (I.hok b u e).stay (fun c v hc q=>k c v ?_ q) (fun c q=>q) fun c xs q=>q
  rcases hc with z | z
  ·rw [z];exact ng b u e
  ·exact ng c _ z
abbrev Bc (v1 v2:V):Hp->V->Hp->Prop:=fun H x H'=>∃ T,x=.ref T/\H T=none/\H'=upd H T (.tup [v1,v2])
def DU (K:QZ) (a:Addr):It:=
 ⟨fun i H=>∃ xs x,ae K H a xs/\xs[i]? =some x,fun i H x H'=>∃ v,(∀ xs,ae K H a xs->xs[i]? =some v)/\Bc (.int i) v H x H',fun i H=>∃ xs,ae K H a xs/\xs.length<=i⟩
theorem qR {T:Addr} {v1 v2:V} {u1 u2:Value} (r1:RelV v1 u1) (r2:RelV v2 u2) (e:h.get? T=some {cls:=.type "tuple",data:=.seq #[u1,u2]}):a_ P w H h T (.tup [v1,v2]):=
 ⟨⟨show 2<=sizeLine by decide,fun o q=>by rw [e] at q;cases q;rfl⟩,[u1,u2],.cons r1 (.cons r2 .nil),_,e,rfl,_,rfl⟩
theorem sC {K:QZ} {k:Nat} {pos:Pos} (a e it:Addr) (hei:e≠it):Turn P w K (.Tuple zd k pos) (DU K a) [e,it] e (fun i h=>(∃ old,IsEnum h e it i old)/\h.IsListIter it a i) where
 mem:=by simp
 obj:=fun i h st b hb=>by
  obtain ⟨⟨old,he⟩,o,ho,c,d⟩:=st
  simp only [Qp,QA,or_false] at hb
  rcases hb with rfl | rfl
  ·exact ⟨_,he,fun v z=>by
    have z':Data.fields _=Data.cell v:=z
    cases z'⟩
  ·exact ⟨o,ho,fun v z=>by rw [d] at z;cases z⟩
 keep:=fun i h h' st k=>by
  obtain ⟨⟨old,he⟩,hi⟩:=st
  exact ⟨⟨old,k e (by simp) _ he⟩,hi.at fun o x=>k it (by simp) o x⟩
 item:=by
  intro X hP hw hK hc i pins s σ H E I hf st hg
  subst hP hw hK
  obtain ⟨⟨old,he⟩,hit⟩:=st
  obtain ⟨xs,x,hq,hx⟩:=hg
  obtain ⟨its,rv,p,hz⟩:=I.list hq
  obtain ⟨u,hu,ru⟩:=rv.get hx
  refine wpAny_pyNext_enum_item he hit p.isList (x:=u) (by simpa using hu) hei fun h' ho Lf hT hsz hk=>?_
  have I1:Inv X pins σ (upd H s.heap.objs.size (.tup [.int i,x])) {s with heap:=h',toks:=s.toks+1}:=I.Gi hf (fun b o hb e=>hk b o (fun z=>hb (by simp [z])) (fun z=>hb (by simp [z])) e) (Qy _) (qR ⟨_,rfl⟩ ru hT)
  refine ⟨_,rfl,wpAny_letOwnedTupleGo_enum (s:={s with heap:=h',toks:=s.toks+1}) ho fun yb Lg sb=>?_⟩
  have bc:∀ b∈[e,it],b≠s.heap.objs.size:=fun b hb z=>by
   simp only [Qp,QA,or_false] at hb
   rcases hb with rfl | rfl
   ·exact Nat.ne_of_lt (Qz he) z
   ·obtain ⟨_,q,_⟩:=hit;exact Nat.ne_of_lt (Qz q) z
  have Bd:∀ b∈[e,it],kh X pins (upd H s.heap.objs.size (.tup [.int i,x])) b:=fun b hb=>by
   obtain ⟨f0,f⟩:=hf b hb
   exact ⟨by rw [aF (bc b hb)];exact f0,f⟩
  obtain ⟨f0,f1,f2,f3,f4,f5⟩:=Bd e (by simp)
  refine ⟨.ref s.heap.objs.size,_,I1.turned (t':=s.toks+1) (fun b o hb q=>(sb.2 b hb).trans q) f0 f1 f3 f4 f5,rfl,⟨x,fun ys hy=>by rw [I.BU hy hq];exact hx,_,rfl,I.hok.fresh (Qy _),rfl⟩,⟨⟨u,by simpa using Lg⟩,Lf.at fun o q=>(sb.2 it hei.symm).trans q⟩,fun b hb=>(Bd b hb).1⟩
 done:=by
  intro X hP hw hK hc i pins s σ H E I hf st hg
  subst hP hw hK
  obtain ⟨⟨old,he⟩,hit⟩:=st
  obtain ⟨xs,hq,hx⟩:=hg
  obtain ⟨its,rv,p,hz⟩:=I.list hq
  have hl:=rv.length
  exact wpAny_pyNext_enum_end (I.ok.hd hc) he hit p.isList (by simp;omega) fun h' eb=>⟨rfl,I.Gj (t':=s.toks) hf fun b o hb q=>eb b o (fun z=>hb (by simp [z])) q⟩
 self:=fun _ _ _ _ _ st h=>let ⟨⟨_,he⟩,_⟩:=st;wpAny_pyIter_enum he h
theorem nC {l m:Nat} (h1:l < n) (h2:m < n):ZipApart (n+4) (n+2) (n+3) n (n+1) l m:=by
 constructor<;>(show (_:Nat)≠_)<;>omega
def DV (K : QZ) (a b : Addr) : It :=
  ⟨fun i H => ∃ xs ys x y, ae K H a xs /\ ae K H b ys /\ xs[i]? = some x /\ ys[i]? = some y, fun i H x H' => ∃ v1 v2, (∀ xs, ae K H a xs -> xs[i]? = some v1) /\ (∀ ys, ae K H b ys -> ys[i]? = some v2) /\ Bc v1 v2 H x H',
   fun i H => ∃ xs ys, ae K H a xs /\ ae K H b ys /\ (xs.length <= i \/ ys.length <= i)⟩
abbrev Lh (z TI TO i1 i2 a b:Addr) (i:Nat) (h:Heap):Prop:=IsZip h z TI TO .none/\IsPair h TI (.ref i1) (.ref i2)/\(∃ u v,IsPair h TO u v)/\h.IsListIter i1 a i/\h.IsListIter i2 b i
theorem vG {K:QZ} {k:Nat} {pos:Pos} (z TI TO i1 i2 a b:Addr) (D:ZipApart z TI TO i1 i2 a b):Turn P w K (.Tuple zd k pos) (DV K a b) [z,TI,TO,i1,i2] z (Lh z TI TO i1 i2 a b) where
 mem:=by simp
 obj:=fun i h st c hc=>by
  obtain ⟨hz,om,⟨u,v,qy⟩,⟨o1,e1,c1,d1⟩,o2,e2,c2,d2⟩:=st
  simp only [Qp,QA,or_false] at hc
  rcases hc with rfl | rfl | rfl | rfl | rfl
  ·exact ⟨_,hz,fun v z=>by have z':Data.fields _=Data.cell v:=z;cases z'⟩
  ·exact ⟨_,om,fun v z=>by have z':Data.seq _ _=Data.cell v:=z;cases z'⟩
  ·exact ⟨_,qy,fun v z=>by have z':Data.seq _ _=Data.cell v:=z;cases z'⟩
  ·exact ⟨_,e1,fun v z=>by rw [d1] at z;cases z⟩
  ·exact ⟨_,e2,fun v z=>by rw [d2] at z;cases z⟩
 keep:=fun i h h' st k=>by
  obtain ⟨hz,om,⟨u,v,qy⟩,h1,h2⟩:=st
  exact ⟨k z (by simp) _ hz,k TI (by simp) _ om,⟨u,v,k TO (by simp) _ qy⟩,h1.at fun o x=>k i1 (by simp) o x,h2.at fun o x=>k i2 (by simp) o x⟩
 item:=by
  intro X hP hw hK hc i pins s σ H E I hf st hg
  subst hP hw hK
  obtain ⟨hz,om,⟨u0,v0,qy⟩,h1,h2⟩:=st
  obtain ⟨xs,ys,x,y,vf,vg,hx,hy⟩:=hg
  obtain ⟨its,rv,p,DS⟩:=I.list vf
  obtain ⟨its2,Af,p2,Be⟩:=I.list vg
  obtain ⟨u,hu,ru⟩:=rv.get hx
  obtain ⟨u2,Li,Lj⟩:=Af.get hy
  refine wpAny_pyNext_zip_item D hz om qy h1 h2 p.isList p2.isList (x:=u) (y:=u2) (by simpa using hu) (by simpa using Li) fun h' a1 a2 a3 a4 a5 a6 hk=>?_
  have I1:Inv X pins σ (upd H s.heap.objs.size (.tup [x,y])) {s with heap:=h',toks:=s.toks}:=I.Gi (t':=s.toks) hf (fun b o hb e=>hk b o (fun z=>hb (by simp [z])) (fun z=>hb (by simp [z])) (fun z=>hb (by simp [z])) (fun z=>hb (by simp [z])) e) (Qy _) (qR ru Lj a5)
  refine ⟨_,rfl,wpAny_letOwnedTupleGo_zip (s:={s with heap:=h'}) a1 fun yb Lk sb=>?_⟩
  have bc:∀ b∈[z,TI,TO,i1,i2],b≠s.heap.objs.size:=fun c hc z'=>by
   simp only [Qp,QA,or_false] at hc
   obtain ⟨o1,e1,_⟩:=h1
   obtain ⟨o2,e2,_⟩:=h2
   rcases hc with rfl | rfl | rfl | rfl | rfl
   ·exact Nat.ne_of_lt (Qz hz) z'
   ·exact Nat.ne_of_lt (Qz om) z'
   ·exact Nat.ne_of_lt (Qz qy) z'
   ·exact Nat.ne_of_lt (Qz e1) z'
   ·exact Nat.ne_of_lt (Qz e2) z'
  have Bd:∀ b∈[z,TI,TO,i1,i2],kh X pins (upd H s.heap.objs.size (.tup [x,y])) b:=fun b hb=>by
   obtain ⟨f0,f⟩:=hf b hb
   exact ⟨by rw [aF (bc b hb)];exact f0,f⟩
  obtain ⟨f0,f1,f2,f3,f4,f5⟩:=Bd z (by simp)
  refine ⟨.ref s.heap.objs.size,_,I1.turned (t':=s.toks) (fun b o hb q=>(sb.2 b hb).trans q) f0 f1 f3 f4 f5,rfl,⟨x,y,fun ys hy=>by rw [I.BU hy vf];exact hx,fun ys Ll=>by rw [I.BU Ll vg];exact hy,_,rfl,I.hok.fresh (Qy _),rfl⟩,?_,fun b hb=>(Bd b hb).1⟩
  refine ⟨Lk,(sb.2 _ D.TIz).trans (hk _ _ D.TIz D.TITO D.TIi1 D.TIi2 om),⟨_,_,(sb.2 _ D.TOz).trans a2⟩,a3.at fun o q=>(sb.2 _ D.i1z).trans q,a4.at fun o q=>(sb.2 _ D.i2z).trans q⟩
 done:=by
  intro X hP hw hK hc i pins s σ H E I hf st hg
  subst hP hw hK
  obtain ⟨hz,om,⟨u0,v0,qy⟩,h1,h2⟩:=st
  obtain ⟨xs,ys,vf,vg,hx⟩:=hg
  obtain ⟨its,rv,p,DS⟩:=I.list vf
  obtain ⟨its2,Af,p2,Be⟩:=I.list vg
  have hl:=rv.length
  have gr:=Af.length
  refine wpAny_pyNext_zip_end (I.ok.hd hc) D hz om qy h1 h2 p.isList p2.isList ?_ fun h' hk=>⟨rfl,I.Gj (t':=s.toks) hf fun b o hb q=>hk b o (fun z=>hb (by simp [z])) (fun z=>hb (by simp [z])) (fun z=>hb (by simp [z])) (fun z=>hb (by simp [z])) q⟩
  rcases hx with hx | hx
  ·exact .inl (by simp;omega)
  ·exact .inr (by simp;omega)
 self:=fun _ _ _ _ _ st h=>wpAny_pyIter_zip st.1 h
section
variable {k:Nat} {ux p pos:Pos} {a b:Expr}
def Gk (K:QZ) (ta:TA):TI:=fun σ H R=>ta σ H fun vs H1=>∃ l xs,vs=[.ref l]/\ae K H1 l xs/\R (DU K l) H1
theorem wS (hg:Gl X "enumerate") (hm:X.mg "enumerate"=none) (ha:PA X [a] ta) (hs:starEach [a] X.env=[(false,eval a X.env)]:=by rfl):PI X (.Tuple zd k ux) (.Call (.Name "enumerate" p) [a] [] pos) (Gk X.K ta):=by
 intro pins s σ H R I h
 refine Call_ (gS I hg hm boot_enumerate (PyProof.Rows.callWith_type1 (ai (ha pos pins s σ H _ I h) fun us s1 ⟨vs,H1,I1,r1,q1⟩=>?_) hs rfl))
 obtain ⟨l,xs,e,hq,q⟩:=q1
 subst e
 cases r1 with
 | cons r rr=>
  cases rr
  cases r
  obtain ⟨its,rv,pl,hz⟩:=I1.list hq
  refine call_enumerate_list pl.isList fun h' he hit hsz hk=>wpAny_pyIter_enum he ?_
  have I2:Inv X pins σ H1 {s1 with heap:=h'}:=I1.kept (t':=s1.toks) hk
  refine ⟨s1.heap.objs.size+1,[s1.heap.objs.size+1,s1.heap.objs.size],_,_,H1,rfl,I2,sC l _ _ (Nat.succ_ne_self _),⟨⟨_,he⟩,hit⟩,fun b hb=>?_,q⟩
  simp only [Qp,QA,or_false] at hb
  rcases hb with rfl | rfl
  ·exact I1.sy (Nat.le_succ _) (I1.hok.fresh (Nat.le_succ _))
  ·exact I1.sy (Qy _) (I1.hok.fresh (Qy _))
def Gm (K:QZ) (ta:TA):TI:=fun σ H R=>ta σ H fun vs H1=>∃ l m xs ys,vs=[.ref l,.ref m]/\ae K H1 l xs/\ae K H1 m ys/\R (DV K l m) H1
theorem zV (hg:Gl X "zip") (hm:X.mg "zip"=none) (ha:PA X [a,b] ta) (hs:starEach [a,b] X.env=[(false,eval a X.env),(false,eval b X.env)]:=by rfl) (n_:starEach [b] X.env=[(false,eval b X.env)]:=by rfl):
  PI X (.Tuple zd k ux) (.Call (.Name "zip" p) [a,b] [] pos) (Gm X.K ta):=by
 intro pins s σ H R I h
 refine Call_ (gS I hg hm boot_zip (PyProof.Rows.callWith_type1 (ai (ha pos pins s σ H _ I h) fun us s1 ⟨vs,H1,I1,r1,q1⟩=>?_) (by rw [hs,n_]) (by rw [n_];rfl)))
 obtain ⟨l,m,xs,ys,e,vf,vg,q⟩:=q1
 subst e
 obtain ⟨u1,u2,rfl,Lm,Cn⟩:=r1.two
 cases Lm
 cases Cn
 obtain ⟨its,rv,pl,hz⟩:=I1.list vf
 obtain ⟨its2,Af,Gn,Be⟩:=I1.list vg
 have l1:l < s1.heap.objs.size:=by obtain ⟨_,e,_⟩:=pl.isList;exact Qz e
 have l2:m < s1.heap.objs.size:=by obtain ⟨_,e,_⟩:=Gn.isList;exact Qz e
 refine call_zip_2 pl.isList Gn.isList fun h' hz om qy h1 h2 hsz hk=>wpAny_pyIter_zip hz ?_
 have I2:Inv X pins σ H1 {s1 with heap:=h'}:=I1.kept (t':=s1.toks) hk
 have ne:∀ {x y:Nat},x < y->x≠y:=fun h=>Nat.ne_of_lt h
 have ne':∀ {x y:Nat},y < x->x≠y:=fun h=>Nat.ne_of_gt h
 refine ⟨s1.heap.objs.size+4,[s1.heap.objs.size+4,s1.heap.objs.size+2,s1.heap.objs.size+3,s1.heap.objs.size,s1.heap.objs.size+1],_,_,H1,rfl,I2,vG _ _ _ _ _ l m ?_,⟨hz,om,⟨_,_,qy⟩,h1,h2⟩,fun b hb=>?_,q⟩
 ·exact nC l1 l2
 ·simp only [Qp,QA,or_false] at hb
  rcases hb with rfl | rfl | rfl | rfl | rfl<;>exact I1.sy (by simp) (I1.hok.fresh (by simp))
theorem jT (K:QZ) (hg:Gl X "enumerate") (hm:X.mg "enumerate"=none) (ha:SA X [a] ta) (h:X.K=K:=by rfl) (hs:starEach [a] X.env=[(false,eval a X.env)]:=by rfl):SI X (.Tuple zd k ux) (.Call (.Name "enumerate" p) [a] [] pos) (Gk K ta):=by subst h;exact ⟨wS hg hm ha.h hs⟩
theorem xM (K:QZ) (hg:Gl X "zip") (hm:X.mg "zip"=none) (ha:SA X [a,b] ta) (h:X.K=K:=by rfl) (hs:starEach [a,b] X.env=[(false,eval a X.env),(false,eval b X.env)]:=by rfl) (n_:starEach [b] X.env=[(false,eval b X.env)]:=by rfl):
  SI X (.Tuple zd k ux) (.Call (.Name "zip" p) [a,b] [] pos) (Gm K ta):=by subst h;exact ⟨zV hg hm ha.h hs n_⟩
end
def Co (J:It) (ok:Hp->Prop) (n:Nat) (f1 f2:Nat->V):Prop:=
 ∀ H,ok H->(∀ i,i < n->J.go i H/\∀ x H',J.g_ i H x H'->Bc (f1 i) (f2 i) H x H')/\J.stop n H
theorem jW {K:QZ} (xs:List V):Co (DU K a) (fun H=>ae K H a xs) xs.length (fun i=>.int i) (fun i=>xs.getD i .af):=fun H ok=>
 ⟨fun i hi=>⟨⟨xs,xs[i],ok,by simp [hi]⟩,fun x H' ⟨v,hv,y⟩=>by
  have:=hv xs ok
  have e:xs.getD i V.af=v:=by rw [Qb,this];rfl
  show Bc (.int i) (xs.getD i .af) H x H'
  rw [e];exact y⟩,⟨xs,ok,Qy _⟩⟩
theorem vW {K:QZ} (xs ys:List V):Co (DV K a b) (fun H=>ae K H a xs/\ae K H b ys) (min xs.length ys.length) (fun i=>xs.getD i .af) (fun i=>ys.getD i .af):=fun H ok=>
 ⟨fun i hi=>⟨⟨xs,ys,xs[i]'(by omega),ys[i]'(by omega),ok.1,ok.2,by simp,by simp⟩,fun x H' ⟨v1,v2,Lo,Lp,y⟩=>by
  have e1:xs.getD i V.af=v1:=by rw [Qb,Lo xs ok.1];rfl
  have e2:ys.getD i V.af=v2:=by rw [Qb,Lp ys ok.2];rfl
  show Bc (xs.getD i .af) (ys.getD i .af) H x H'
  rw [e1,e2];exact y⟩,⟨xs,ys,ok.1,ok.2,by omega⟩⟩
abbrev g2 (K:QZ) (a b:Nat):TG:=AK K 2 (BY (jj a) (BY (jj b) Dj))
theorem lB {K:QZ} {a b:Nat} {T:Addr} {v1 v2:V} {Q:St->Hp->Prop} (h:H T=some (.tup [v1,v2])) (q:Q ((σ.set a (some v1)).set b (some v2)) H):g2 K a b (.ref T) σ H Q:=
 ⟨T,_,rfl,aj.of h,rfl,_,_,rfl,_,_,rfl,rfl,q⟩
theorem nX {K:QZ} {J:It} {ok:Hp->Prop} {f1 f2:Nat->V} {a b:Nat} {tb:TS} {D:Ends} (hJ:Co J ok n f1 f2) (Pv:Nat->St->Hp->Prop) (h0:Pv 0 σ H) (hok:∀ i τ H,i<=n->Pv i τ H->ok H)
  (hs:∀ i σ H T,i < n->Pv i σ H->H T=none->tb {D with nx:=Pv (i+1),ct:=Pv (i+1),bk:=D.nx} ((σ.set a (some (f1 i))).set b (some (f2 i))) (upd H T (.tup [f1 i,f2 i]))) (hd:∀ σ H,Pv n σ H->D.nx σ H):
  ∃ W:Nat->Nat->St->Hp->Prop,(∃ m,W 0 m σ H)/\∀ i m σ H,W i m σ H->
   (J.stop i H/\D.nx σ H)\/(J.go i H/\∃ N:St->Hp->Prop,(∀ σ' H',N σ' H'->∃ m',m' < m/\W (i+1) m' σ' H')/\∀ x H',J.g_ i H x H'->g2 K a b x σ H' fun σ2 H2=>tb {D with nx:=N,ct:=N,bk:=D.nx} σ2 H2):=by
 refine ⟨fun i m σ H=>m=n - i/\i<=n/\Pv i σ H,⟨n,by simp,Nat.zero_le _,h0⟩,?_⟩
 rintro i m σ H ⟨rfl,hi,p⟩
 obtain ⟨k1,k2⟩:=hJ H (hok i σ H hi p)
 by_cases bc:i < n
 ·refine .inr ⟨(k1 i bc).1,Pv (i+1),fun σ' H' p'=>⟨n - (i+1),by omega,rfl,bc,p'⟩,fun x H' y=>?_⟩
  obtain ⟨T,rfl,hT,rfl⟩:=(k1 i bc).2 x H' y
  exact lB aA (hs i σ _ T bc p hT)
 ·have e:i=n:=by omega
  subst e
  exact .inl ⟨k2,hd σ H p⟩
theorem qT {K:QZ} {J:It} {ok:Hp->Prop} {f1 f2:Nat->V} {a b:Nat} {tc:TC} {τ0:St} {H0:Hp} {D:Addr} {Q:Hp->Prop} (hJ:Co J ok n f1 f2) (Pv:Nat->St->Hp->Prop) (h0:Pv 0 τ0 H0)
  (hok:∀ i τ H,i<=n->Pv i τ H->ok H)
  (hs:∀ i τ H T,i < n->Pv i τ H->H T=none->tc ((τ.set a (some (f1 i))).set b (some (f2 i))) (upd H T (.tup [f1 i,f2 i])) fun c H3=>if c=true then te ((τ.set a (some (f1 i))).set b (some (f2 i))) H3 fun y H4=>∃ xs,H4 D=some (.lst xs)/\xs.length < sizeLine/\Pv (i+1) ((τ.set a (some (f1 i))).set b (some (f2 i))) (upd H4 D (.lst (xs++[y]))) else Pv (i+1) ((τ.set a (some (f1 i))).set b (some (f2 i))) H3)
  (hd:∀ τ H,Pv n τ H->Q H):∃ W:Nat->Nat->St->Hp->Prop,(∃ m,W 0 m τ0 H0)/\∀ i m τ H,W i m τ H->
   (J.stop i H/\Q H)\/(J.go i H/\∃ N:St->Hp->Prop,(∀ τ' H',N τ' H'->∃ m',m' < m/\W (i+1) m' τ' H')/\∀ x H',J.g_ i H x H'->g2 K a b x τ H' fun τ2 H2=>tc τ2 H2 fun b H3=>
    if b=true then te τ2 H3 fun y H4=>∃ xs,H4 D=some (.lst xs)/\xs.length < sizeLine/\N τ2 (upd H4 D (.lst (xs++[y]))) else N τ2 H3):=by
 refine ⟨fun i m τ H=>m=n - i/\i<=n/\Pv i τ H,⟨n,by simp,Nat.zero_le _,h0⟩,?_⟩
 rintro i m τ H ⟨rfl,hi,p⟩
 obtain ⟨k1,k2⟩:=hJ H (hok i τ H hi p)
 by_cases bc:i < n
 ·refine .inr ⟨(k1 i bc).1,Pv (i+1),fun σ' H' p'=>⟨n - (i+1),by omega,rfl,bc,p'⟩,fun x H' y=>?_⟩
  obtain ⟨T,rfl,hT,rfl⟩:=(k1 i bc).2 x H' y
  exact lB aA (hs i τ _ T bc p hT)
 ·have e:i=n:=by omega
  subst e
  exact .inl ⟨k2,hd τ H p⟩
end L2
namespace PySem
end PySem
namespace PySem.F
end PySem.F
namespace L2
open PySem PySem.Spec PyProof.Rows
def gi (H:Hp) (ys:List V) (rs:List (Key×V)):Prop:=ys.length=rs.length/\∀ i (h:i < rs.length),∃ b,ys[i]? =some (.ref b)/\H b=some (.tup [kV rs[i].1,rs[i].2])
def dictOf (rs:List (Key×V)):List (Key×V):=rs.foldl (fun kvs r=>putK kvs r.1 r.2) []
theorem iW (rs:List (Key×V)):∀ kvs:List (Key×V),(rs.foldl (fun kvs r=>putK kvs r.1 r.2) kvs).length<=kvs.length+rs.length:=by
 induction rs with
 | nil=>intro kvs;exact Qy _
 | cons r rs ih=>
  intro kvs
  have h1:=ih (putK kvs r.1 r.2)
  have h2:=cU kvs r.1 r.2
  rw [List.foldl_cons,List.length_cons]
  omega
theorem pU (rs:List (Key×V)):(dictOf rs).length<=rs.length:=by have:=iW rs [];simpa [dictOf] using this
theorem n0 (rs:List (Key×V)) (i:Nat) (h:i < rs.length):dictOf (rs.take (i+1))=putK (dictOf (rs.take i)) rs[i].1 rs[i].2:=by
 unfold dictOf
 rw [Qs,Qa h,Option.toList_some,List.foldl_append];rfl
theorem gi.same {ys:List V} {rs:List (Key×V)} (p:gi H ys rs) (s:aa H H'):gi H' ys rs:=⟨p.1,fun i h=>let ⟨b,e1,e2⟩:=p.2 i h;⟨b,e1,s _ _ e2⟩⟩
def Tk (H H':Hp):Prop:=∀ b xs,H b=some (.tup xs)->H' b=some (.tup xs)
theorem Tk.refl:Tk H H:=fun _ _ h=>h
theorem Tk.trans {H1 H2:Hp} (a:Tk H H1) (b:Tk H1 H2):Tk H H2:=fun c xs h=>b c xs (a c xs h)
theorem aa.ts (s:aa H H'):Tk H H':=fun b xs h=>s b _ h
theorem br.ts {w:Addr} {t:Nat} (h:br H p w t) (s:Sm p w H H'):Tk H H':=fun b xs e=>by
 obtain ⟨m,c,ws,h1,h2,_⟩:=h.ex
 exact s b _ e (oZ e h1 (by intro z;cases z)) (oZ e h2 (by intro z;cases z))
theorem Tk.upd {H H':Hp} {a:Addr} {o:HO} (s:Tk H H') (h:H' a=none):Tk H (L2.upd H' a o):=fun b xs e=>by rw [aF (aJ (s b xs e) h)];exact s b xs e
theorem Tk.set {o':HO} (s:Tk H H') (h:H' a=some o) (hn:∀ xs,o≠.tup xs):Tk H (L2.upd H' a o'):=fun b xs e=>by
 rw [aF (fun z=>by rw [z] at e;have:=s a xs e;rw [h] at this;cases this;exact hn _ rfl)];exact s b xs e
inductive fb (H:Hp):V->PyData->Prop
 | str (z:Str):fb H (.str z) (.str z)
 | tup {a:Addr} {xs:List V} {ds:List PyData}:H a=some (.tup xs)->xs.length=ds.length->(∀ i (h:i < xs.length) (h':i < ds.length),fb H xs[i] ds[i])->fb H (.ref a) (.tuple ds)
theorem fb.ts (s:Tk H H') {v:V} {d:PyData} (h:fb H v d):fb H' v d:=by
 induction h with
 | str z=>exact .str z
 | tup e hl _ ih=>exact .tup (s _ _ e) hl ih
theorem fb.inj {v:V} {d:PyData} (h:fb H v d):∀ {d':PyData},fb H v d'->d=d':=by
 induction h with
 | str z=>intro d' h';cases h';rfl
 | tup e hl _ ih=>
  intro d' h'
  cases h' with
  | tup e' d_ h2=>
   rw [e] at e'
   cases e'
   congr 1
   refine List.ext_getElem (by omega) fun i h1 h3=>?_
   exact ih i (by omega) h1 (h2 i (by omega) h3)
theorem fF:∀ {ds:List PyData},(∀ d∈ds,d.showable=true)->PyData.showableAll ds=true
 | [],_=>by simp [PyData.showableAll]
 | d::ds,h=>by simp [PyData.showableAll,h d List.mem_cons_self,fF fun x hx=>h x (Qh _ hx)]
theorem gG:∀ {ds:List PyData},(∀ d∈ds,d.hasDict=false)->PyData.hasDictAll ds=false
 | [],_=>by simp [PyData.hasDictAll]
 | d::ds,h=>by simp [PyData.hasDictAll,h d List.mem_cons_self,gG fun x hx=>h x (Qh _ hx)]
theorem iZ {k:Nat}:∀ {ds:List PyData},(∀ d∈ds,d.depth<=k)->PyData.depthAll ds<=k
 | [],_=>by simp [PyData.depthAll]
 | d::ds,h=>by
  have h1:=h d List.mem_cons_self
  have h2:=iZ (ds:=ds) fun x hx=>h x (Qh _ hx)
  simp [PyData.depthAll];omega
theorem vF {n:Nat}:∀ {ts:List Str},(∀ t∈ts,t.length<=n)->(ts.map (·.length)).sum<=ts.length*n
 | [],_=>by simp
 | t::ts,h=>by
  have h1:=h t List.mem_cons_self
  have h2:=vF (ts:=ts) fun x hx=>h x (Qh _ hx)
  rw [List.map_cons,List.sum_cons,List.length_cons,Nat.add_mul];omega
def TB (H:Hp) (v:V) (k n:Nat):Prop:=∃ d,fb H v d/\d.depth<=k/\d.shown.length<=n/\d.showable=true/\d.hasDict=false
def Wd (z:Str):Prop:=z.length<=20/\∀ c∈z.cps.toList,c < 128
theorem TB.mono {v:V} {k k' n':Nat} (h:TB H v k n) (hk:k<=k') (hn:n<=n'):TB H v k' n':=by
 obtain ⟨d,h1,h2,h3,h4,h5⟩:=h
 exact ⟨d,h1,by omega,by omega,h4,h5⟩
theorem TB.ts {H H':Hp} (s:Tk H H') {v:V} {k n:Nat} (h:TB H v k n):TB H' v k n:=by
 obtain ⟨d,h1,h2⟩:=h
 exact ⟨d,h1.ts s,h2⟩
theorem TB.str {H:Hp} {z:Str} (h:Wd z):TB H (.str z) 0 202:=by
 refine ⟨.str z,.str z,by simp [PyData.depth],?_,by simp [PyData.showable],by simp [PyData.hasDict]⟩
 show (PyData.str z).shown.length<=202
 simp only [PyData.shown]
 have:=StrLaws.reprText_len z (fun c hc=>Nat.lt_of_lt_of_le (h.2 c hc) (by decide))
 have:=h.1
 omega
theorem TB.tup {H:Hp} {a:Addr} {xs:List V} {k n:Nat} (e:H a=some (.tup xs)) (h:∀ x∈xs,TB H x k n):TB H (.ref a) (k+1) (xs.length*(n+2)+3):=by
 have hc:∀ i:Fin xs.length,∃ d,fb H xs[i.val] d/\d.depth<=k/\d.shown.length<=n/\d.showable=true/\d.hasDict=false:=fun i=>h _ (Qj i.isLt)
 obtain ⟨f,hf⟩:=Classical.axiomOfChoice hc
 have hm:∀ d∈List.ofFn f,d.depth<=k/\d.shown.length<=n/\d.showable=true/\d.hasDict=false:=fun d hd=>by
  obtain ⟨i,rfl⟩:=List.mem_ofFn.mp hd
  exact (hf i).2
 refine ⟨.tuple (List.ofFn f),.tup e (by simp) fun i h1 h2=>?_,?_,?_,?_,?_⟩
 ·have:=(hf ⟨i,h1⟩).1
  simpa using this
 ·simp only [PyData.depth]
  have:=iZ (fun d hd=>(hm d hd).1)
  omega
 ·simp only [PyData.shown]
  have h1:=tupleText_len_le (PyData.shownAll (List.ofFn f))
  have e2:PyData.shownAll (List.ofFn f)=(List.ofFn f).map PyData.shown:=shownAll_eq_map _
  have h2:((PyData.shownAll (List.ofFn f)).map (·.length)).sum<=(PyData.shownAll (List.ofFn f)).length*n:=vF fun t ht=>by
   rw [e2] at ht
   obtain ⟨d,hd,rfl⟩:=List.mem_map.mp ht
   exact (hm d hd).2.1
  have h3:(PyData.shownAll (List.ofFn f)).length=xs.length:=by rw [e2];simp
  rw [h3] at h1 h2
  rw [Nat.mul_add];omega
 ·simp only [PyData.showable]
  exact fF fun d hd=>(hm d hd).2.2.1
 ·simp only [PyData.hasDict]
  exact gG fun d hd=>(hm d hd).2.2.2
theorem nN (rs:List (Key×V)):(rs.map (·.1)).Nodup->∀ i (h:i < rs.length),be (dictOf rs) rs[i].1=some rs[i].2:=by
 have gen:∀ (rs:List (Key×V)) (kvs:List (Key×V)),(rs.map (·.1)).Nodup->∀ k,be (rs.foldl (fun kvs r=>putK kvs r.1 r.2) kvs) k=((rs.find? fun r=>decide (r.1=k)).map (·.2)).or (be kvs k):=by
  intro rs
  induction rs with
  | nil=>intro kvs _ k;simp
  | cons r rs ih=>
   intro kvs hn k
   rw [List.map_cons,List.nodup_cons] at hn
   rw [List.foldl_cons,ih _ hn.2,uI]
   by_cases e:r.1=k
   ·have:rs.find? (fun r=>decide (r.1=k))=none:=by
     rw [List.find?_eq_none]
     intro x hx z
     have z':=Qt z
     exact hn.1 (List.mem_map.mpr ⟨x,hx,by rw [z',e]⟩)
    rw [this,List.find?_cons,if_pos e.symm]
    simp [e]
   ·rw [if_neg (fun z=>e z.symm),List.find?_cons]
    simp [e]
 intro hn i h
 unfold dictOf
 rw [gen rs [] hn]
 have:rs.find? (fun r=>decide (r.1=rs[i].1))=some rs[i]:=by
  rw [List.find?_eq_some_iff_getElem]
  refine ⟨by simp,i,h,rfl,fun j hj=>?_⟩
  have ku:(rs.map (·.1))[j]'(by simp;omega)≠(rs.map (·.1))[i]'(by simpa using h):=fun z=>by
   exact (List.pairwise_iff_getElem.mp hn j i (by simp;omega) (by simpa using h) hj) z
  simpa using ku
 rw [this];rfl
abbrev ao (rs:List (Str×V)):List (Key×V):=rs.map fun r=>(Sum.inr r.1,r.2)
def DW (H:Hp) (v:V) (o:Option Str):Prop:=∃ b,v=.ref b/\((∃ s ys,H b=some (.tup (.str s::ys))/\s≠"as"/\o=none)\/∃ x,H b=some (.tup [.str "as",.str x])/\o=some x)
theorem gi.ts {ys:List V} {rs:List (Key×V)} (p:gi H ys rs) (s:Tk H H'):gi H' ys rs:=⟨p.1,fun i h=>let ⟨b,e1,e2⟩:=p.2 i h;⟨b,e1,s _ _ e2⟩⟩
section
variable {xs:List V} {rs:List (Str×V)} {nx:Str->Option Str} {ρ:Str->Nat}
theorem jU (h:(rs.map (·.1)).Nodup):((ao rs).map (·.1)).Nodup:=by
 have e:(ao rs).map (·.1)=(rs.map (·.1)).map (Sum.inr:Str->Key):=by simp [ao,Qn,Function.comp_def]
 rw [e]
 exact List.Pairwise.map _ (fun a b oh z=>oh (Sum.inr.inj z)) h
end
theorem gJ (sep:Str) (c:Nat):∀ (rest:List Str) (acc:Array Nat),c∈(rest.foldl (fun acc p=>acc++sep.cps++p.cps) acc).toList->c∈acc.toList\/c∈sep.cps.toList\/∃ p∈rest,c∈p.cps.toList
 | [],acc,h=>.inl h
 | p::rest,acc,h=>by
  rcases gJ sep c rest _ h with h | h | ⟨q,h1,h2⟩
  ·simp only [Array.toList_append,List.mem_append] at h
   rcases h with (h | h) | h
   ·exact .inl h
   ·exact .inr (.inl h)
   ·exact .inr (.inr ⟨p,List.mem_cons_self,h⟩)
  ·exact .inr (.inl h)
  ·exact .inr (.inr ⟨q,Qh _ h1,h2⟩)
theorem mY {sep:Str} {ys:List Str} (h:c∈(Txt.join sep ys).cps.toList):c∈sep.cps.toList\/∃ y∈ys,c∈y.cps.toList:=by
 have h':c∈(Builtin.Str.glued sep ys).cps.toList:=h
 cases ys with
 | nil=>
  rw [StrLaws.glued_eq_join] at h'
  simp [Str.join] at h'
  exact absurd h' (by intro z;exact nomatch z)
 | cons y ys=>
  have e:Builtin.Str.glued sep (y::ys)=⟨ys.foldl (fun acc p=>acc++sep.cps++p.cps) y.cps⟩:=by rw [StrLaws.glued_eq_join,StrLaws.glued_cons]
  rw [e] at h'
  rcases gJ sep c ys y.cps h' with h | h | ⟨p,h1,h2⟩
  ·exact .inr ⟨y,List.mem_cons_self,h⟩
  ·exact .inl h
  ·exact .inr ⟨p,Qh _ h1,h2⟩
theorem eB (xs:List V) (k:Nat):dz xs (some (k:Int)) none=xs.drop k:=by
 unfold dz
 rw [HT.gA,HT.nP]
 by_cases h:k<=xs.length
 ·rw [Nat.min_eq_left h]
  exact List.take_of_length_le (by simp)
 ·rw [Nat.min_eq_right (by omega)]
  simp [List.drop_eq_nil_of_le (show xs.length<=k by omega)]
theorem uJ (xs:List V) (k:Nat):dz xs none (some (k:Int))=xs.take k:=by
 unfold dz
 rw [HT.gA,HT.nP]
 simp
theorem sQ {l:List α} (h:l.Nodup) {x:α} (hi:l[i]? =some x) (hj:l[j]? =some x):i=j:=by
 obtain ⟨a,e1⟩:=List.getElem?_eq_some_iff.mp hi
 obtain ⟨b,e2⟩:=List.getElem?_eq_some_iff.mp hj
 rcases Nat.lt_trichotomy i j with z | z | z
 ·exact ((List.pairwise_iff_getElem.mp h i j a b z) (e1.trans e2.symm)).elim
 ·exact z
 ·exact ((List.pairwise_iff_getElem.mp h j i b a z) (e2.trans e1.symm)).elim
theorem kU [BEq α] [LawfulBEq α] {l:List α} (h:l.Nodup) {x:α} (hi:l[i]? =some x):l.idxOf x=i:=by
 have hm:x∈l:=QC hi
 have h1:l.idxOf x < l.length:=List.idxOf_lt_length_of_mem hm
 have h2:l[l.idxOf x]? =some x:=by rw [Qa h1,List.getElem_idxOf]
 exact sQ h h2 hi
open Classical in
theorem dA (h1:z.length<=20) (h2:∀ c∈z.cps.toList,c < 128):Wd z:=⟨h1,h2⟩
theorem br.wy {w l:Addr} {t:Nat} (h:br H p w t) (e:H l=some (.lst (ss.map V.str))) (h0:ss≠[]):l≠p/\l≠w:=by
 obtain ⟨m,c,ws,h1,h2,_⟩:=h.ex
 refine ⟨oZ e h1 (by intro z;cases z),oZ e h2 fun z=>?_⟩
 cases ss with
 | nil=>exact h0 rfl
 | cons s ss=>
  injection z with z
  cases ws with
  | nil=>cases z
  | cons x ws=>injection z with z;cases z
section
variable {β:Type} {R:α->β->Prop}
theorem gO:∀ {xs xs':List α} {ys Gp:List β},Paired R xs ys->Paired R xs' Gp->Paired R (xs++xs') (ys++Gp)
 | _,_,_,_,.nil,h=>h
 | _,_,_,_,.cons a r,h=>.cons a (gO r h)
theorem oJ:∀ {xs:List α} {ys:List β} (k:Nat),Paired R xs ys->Paired R (xs.take k) (ys.take k)
 | _,_,0,_=>by simp only [List.take_zero];exact .nil
 | _,_,k+1,.nil=>.nil
 | _,_,k+1,.cons a r=>.cons a (oJ k r)
theorem oO:∀ {xs:List α} {ys:List β} (k:Nat),Paired R xs ys->Paired R (xs.drop k) (ys.drop k)
 | _,_,0,h=>by simp only [List.drop_zero];exact h
 | _,_,k+1,.nil=>.nil
 | _,_,k+1,.cons a r=>oO k r
theorem uK:∀ {xs:List α} {ys:List β},xs.length=ys.length->(∀ i (h:i < xs.length) (h':i < ys.length),R xs[i] ys[i])->Paired R xs ys
 | [],[],_,_=>.nil
 | x::xs,y::ys,hl,h=>.cons (h 0 (by simp) (by simp)) (uK (by simpa using hl) fun i a b=>h (i+1) (by simpa using a) (by simpa using b))
theorem rB:∀ {xs:List α} {ys:List β},Paired R xs ys->xs.length=ys.length/\∀ i (h:i < xs.length) (h':i < ys.length),R xs[i] ys[i]
 | _,_,.nil=>⟨rfl,fun i h=>absurd h (by simp)⟩
 | _,_,.cons a r=>by
  obtain ⟨h1,h2⟩:=rB r
  refine ⟨by simp [h1],fun i h h'=>?_⟩
  cases i with
  | zero=>exact a
  | succ i=>exact h2 i (by simpa using h) (by simpa using h')
end
def PR (H:Hp) (x:V) (r:Key×V):Prop:=∃ b,x=.ref b/\H b=some (.tup [kV r.1,r.2])
theorem cN {xs:List V} {rs:List (Key×V)}:gi H xs rs↔Paired (PR H) xs rs:=by
 constructor
 ·rintro ⟨hl,h⟩
  refine uK hl fun i h1 h2=>?_
  obtain ⟨b,e1,e2⟩:=h i h2
  rw [Qa h1] at e1
  exact ⟨b,QD e1,e2⟩
 ·intro h
  obtain ⟨hl,h'⟩:=rB h
  refine ⟨hl,fun i h2=>?_⟩
  obtain ⟨b,e1,e2⟩:=h' i (by omega) h2
  exact ⟨b,by rw [Qa (by omega),e1],e2⟩
section
variable {xs:List V} {rs:List (Str×V)}
theorem i5 (a b:List (Str×V)):ao (a++b)=ao a++ao b:=by simp [ao]
theorem pS (k:Nat):ao (rs.take k)=(ao rs).take k:=by simp [ao,List.map_take]
theorem qD (k:Nat):ao (rs.drop k)=(ao rs).drop k:=by simp [ao,List.map_drop]
theorem iL:gi H [] (ao []):=cN.mpr .nil
theorem sS (h:gi H xs (ao rs)) (k:Nat):gi H (xs.drop k++xs.take k) (ao (rs.drop k++rs.take k)):=by
 rw [i5,pS,qD]
 have:=cN.mp h
 exact cN.mpr (gO (oO k this) (oJ k this))
theorem jI (h:gi H xs (ao rs)) {n:Str} {v:V} (e:H b=some (.tup [.str n,v])):gi H (xs++[.ref b]) (ao (rs++[(n,v)])):=by
 rw [i5]
 exact cN.mpr (gO (cN.mp h) (.cons ⟨b,rfl,e⟩ .nil))
end
theorem vL (l:List α) (k:Nat):(l.drop k++l.take k).Perm l:=by
 have h:(l.take k++l.drop k).Perm l:=by rw [List.take_append_drop]
 exact List.perm_append_comm.trans h
theorem tJ {x:V} {xs:List V} {Q:List Value->Shared->Prop} (hc:X.calm=true) (I:Inv X pins σ H s) (hq:aj X.K H a (x::xs))
  (h:∀ u D s',RelV x u->H D=none->Inv X pins σ (upd H D (.lst xs)) s'->Q [u,.ref D] s'):wpAny (model X.prog X.w) X.A (unpackItems (.ref a) 2 (some 1)) Q E s:=by
 obtain ⟨its,rv,hl,hz⟩:=I.tuple hq
 cases rv with
 | cons ru rr=>
  rename_i u us
  have hh:X.A.handled=none:=I.ok.hd hc
  have bc:a≠s.heap.objs.size:=by obtain ⟨o,ho,_⟩:=hl;exact Nat.ne_of_lt (Qz ho)
  have Gq:a < s.heap.objs.size:=by obtain ⟨o,ho,_⟩:=hl;exact Qz ho
  have dw:=rr.length
  have oq:us.length+1<=sizeLine:=by simp at hz;omega
  unfold unpackItems
  refine QS ?_
  unfold notIterableAtAll
  refine QS (wpAny_specialOf hl.typeIs slot_tuple_iter.lookup ?_)
  refine QT ?_
  simp only [Bool.false_eq_true,if_false]
  refine QS (wpAny_holding (iter_tuple hl ?_))
  refine QS (wpAny_holding (draw_tuple bc 1 0 _ _ ⟨_,Qd _ rfl,rfl,rfl⟩ (hl.push _) (by simp) fun h₁ yc hs₁=>?_))
  have Bf:IsTup h₁ a (u::us).toArray:=(hl.push _).extBut hs₁.extBut bc
  rw [Nat.zero_add] at yc
  have DX:=yc
  obtain ⟨oi,DY,_⟩:=DX
  have DZ:=Bf
  obtain ⟨ol,Cp,_⟩:=DZ
  show wpAny _ _ (if ([u]:List Value).length < 1 then _ else _) _ _ _
  rw [if_neg (by simp)]
  refine QS (wpAny_holding (PySem.W.kun_collect (s:={s with heap:=h₁}) (T:="tuple_iterator") (.inr (.inr (.inr rfl))) (Walks.tuple (A:=X.A.in1) (by simp [hh]) s.heap.objs.size a bc (u::us).toArray) (fun j u st=>st.1.typeIs) (k:=1) (by simp) ⟨yc,Bf⟩ (Qz DY) (Qz Cp) (fun h₂ tk hk=>?_) (by simp;omega)))
  show wpAny _ _ (if us.length < 2 - 1 - 1 then _ else _) _ _ _
  rw [if_neg (by simp)]
  show wpAny _ _ (newList (us.take us.length) >>=fun d=>pure ([u]++[d]++us.drop us.length)) _ _ _
  rw [Qo,List.drop_length]
  have I2:Inv X pins σ H {s with heap:=h₂,toks:=tk}:=I.kept (t':=tk) fun b o e=>hk b o (Nat.ne_of_lt (Qz e)) (hs₁.extBut b o (Nat.ne_of_lt (Qz e)) (Qc _ e))
  refine QS (wpAny_newObj_type (QT ?_) (by first | (show us.toArray.size<=_;simp;omega) | trace_state))
  refine h u h₂.objs.size _ ru (I2.hok.fresh (Qy _)) (I2.laid (t':=tk) (o:=.lst xs) (fun b o e=>Qc _ e) (Qy _) ?_)
  exact ⟨by simp at hz;omega,us,0,rr,Qd _ rfl⟩
section
variable {e1 e2:Expr} {p pos:Pos} {k:Nat} {g1 g2:TG}
def Lq (K:QZ) (g1 g2:TG):TG:=fun v σ H Q=>∃ a x xs,v=.ref a/\aj K H a (x::xs)/\∀ D,H D=none->g1 x σ (upd H D (.lst xs)) fun σ1 H1=>g2 (.ref D) σ1 H1 Q
theorem vA (K:QZ) (hc:X.calm=true) (h1:SG X e1 g1) (h2:SG X e2 g2) (hK:X.K=K:=by rfl) (he:assignEach [e1,.Starred e2 p] X.env=[(false,assign e1 X.env),(true,assign e2 X.env)]:=by rfl):SG X (.Tuple [e1,.Starred e2 p] k pos) (Lq K g1 g2):=by
 subst hK
 constructor
 intro pins s σ H v u Q I r h
 obtain ⟨a,x,xs,rfl,hq,h⟩:=h
 cases r
 rw [assign_Tuple]
 refine QS (wpAny_standAt ?_)
 unfold unpack
 rw [he]
 refine QS (wpAny_holding (tJ hc I hq fun u D s' ru hD I'=>?_))
 show wpAny _ _ (assignInOrder [assign e1 X.env,assign e2 X.env] [u,.ref D]) _ _ _
 refine assignInOrder_cons (ai (h1.h pins s' σ _ _ _ _ I' ru (h D hD)) ?_)
 rintro _ s1 ⟨σ1,H1,I1,q1⟩
 refine assignInOrder_cons (ai (h2.h pins s1 σ1 H1 (.ref D) (.ref D) _ I1 rfl q1) ?_)
 rintro _ s2 ⟨σ2,H2,I2,q2⟩
 exact assignInOrder_nil ⟨σ2,H2,I2,q2⟩
end
def KD (w:World) (K:QZ) (a:Addr) (kvs:List (Key×V)):Prop:=∀ P:Program,∃ (o:Obj) (es:Array DictEntry) (ep:Nat) (vs:List (Key×Value)),K.lookup a=some o/\(a==sysModules)=false/\o.ExactDict/\o.data=.dict es ep/\KeysOf (dh P w) es/\Pairs (dh P w) es.toList vs/\(vs.map (·.1)).Nodup/\KV kvs vs
section
variable {kvs:List (Key×V)}
theorem KD.of (h:KD X.w X.K a kvs) (I:Inv X pins σ H s):(a==sysModules)=false/\∃ vs,KV kvs vs/\s.heap.DictOf (dh X.prog X.w) a vs:=by
 obtain ⟨o,es,ep,vs,h1,h2,h3,h4,h5,h6,h7,h8⟩:=h X.prog
 exact ⟨h2,vs,h8,o,es,ep,I.bz a o h1,h3,h4,h5,h6,h7⟩
variable {pos p:Pos}
def Gr (kvs:List (Key×V)) (te:TE):TE:=fun σ H Q=>te σ H fun y H1=>∃ k,y=kV k/\Q (.bl (be kvs k).isSome) H1
theorem yM {K:QZ} (hx:∃ a,X.mg x=some (.ref a)/\KD w K a kvs) (he:PE X e te) (hw:X.w=w) (hK:X.K=K) (hg:Gl X x) (hd:(x==("__debug__":Str))=false):PC X .In e (.Name x p) (Gr kvs te):=by
 subst hw hK
 obtain ⟨a,hm,kd⟩:=hx
 intro pins s σ H Q I h
 refine ai (he pins s σ H _ I h) ?_
 rintro iv s1 ⟨y,H1,I1,ry,k,ey,q1⟩
 subst ey
 refine ai (jC (v:=.ref a) hg hm rfl hd pins s1 σ H1 (fun v H'=>v=.ref a/\H'=H1) I1 ⟨rfl,rfl⟩) fun u s2 ⟨z,H2,I2,rz,ez,eH⟩=>?_
 subst ez eH
 cases rz
 obtain ⟨h1,vs,rel,dd⟩:=kd.of I2
 refine wpAny_in_of (j4 ry) h1 dd.mapOf ?_
 rw [<- (rel.val k).B_]
 exact ⟨.bl _,_,I2.tok _,rfl,q1⟩
theorem Lr {K:QZ} (hx:∃ a,X.mg x=some (.ref a)/\KD w K a kvs) (he:SE X e te) (hw:X.w=w:=by rfl) (hK:X.K=K:=by rfl) (hg:Gl X x:=by rfl) (hd:(x==("__debug__":Str))=false:=by decide):ST X (.Compare e [.In] [.Name x p] pos) (tB (Gr kvs te)):=⟨xX (yM hx he.h hw hK hg hd) rfl⟩
def Ls (kvs:List (Key×V)) (te:TE):TE:=fun σ H Q=>te σ H fun y H1=>∃ k v,y=kV k/\be kvs k=some v/\Q v H1
theorem zC {K:QZ} (hx:∃ a,X.mg x=some (.ref a)/\KD w K a kvs) (he:SE X e te) (hs:Ca e) (hw:X.w=w:=by rfl) (hK:X.K=K:=by rfl) (hg:Gl X x:=by rfl) (hd:(x==("__debug__":Str))=false:=by decide):SE X (.Subscript (.Name x p) e pos) (Ls kvs te):=by
 subst hw hK
 obtain ⟨a,hm,kd⟩:=hx
 constructor
 intro pins s σ H Q I h
 refine qS PySem.F.slot_dict_getitem.lookup hs (ai (jC (v:=.ref a) hg hm rfl hd pins s σ H (fun v H'=>v=.ref a/\H'=H) I ⟨rfl,rfl⟩) fun u s2 ⟨z,H2,I2,rz,ez,eH⟩=>?_)
 subst ez eH
 cases rz
 refine ai (he.h pins s2 σ _ _ I2 h) ?_
 rintro iv s3 ⟨y,H3,I3,ry,k,v,ey,ev,q⟩
 subst ey
 obtain ⟨h1,vs,rel,dd⟩:=kd.of I3
 obtain ⟨w',hw,kq⟩:=iq.some_of (v:=v) (o:=valueAt vs k) (by rw [<- ev];exact rel.val k)
 exact ⟨dd.typeIs,wpAny_getItem_of (j4 ry) dd.mapOf hw ⟨v,_,I3.tok _,kq,q⟩⟩
end
def Ag (kvs:List (Key×V)) (i:Nat):V:=((kvs[i]?).map fun kv=>kV kv.1).getD .af
def D0 (a:Addr) (o:Obj) (kvs:List (Key×V)):It:=⟨fun i H=>H a=some (.bq o (.dK kvs))/\i < kvs.length,fun i H x H'=>H'=H/\x=Ag kvs i,fun i H=>H a=some (.bq o (.dK kvs))/\kvs.length=i⟩
theorem mX {o:Obj} (kvs:List (Key×V)):qx (D0 a o kvs) (fun H=>H a=some (.bq o (.dK kvs))) kvs.length (Ag kvs):=fun H ok=>⟨fun i hi=>⟨⟨ok,hi⟩,fun x H' h=>h⟩,ok,rfl⟩
theorem z7 {kvs:List (Key×V)} (r:KV kvs vs):∀ {i:Nat} {p:Key×V},kvs[i]? =some p->∃ q,vs[i]? =some q/\q.1=p.1:=by
 intro i
 induction r generalizing i with
 | nil=>intro p h;simp at h
 | cons a t ih=>
  intro p h
  cases i with
  | zero=>simp at h;subst h;exact ⟨_,by simp,a.1.symm⟩
  | succ i=>simp at h;simpa using ih h
theorem mZ {k:Key} (h:(dh P w).is k u=true):RelV (kV k) u:=by
 rcases bD h with ⟨i,t,rfl,rfl⟩ | ⟨x,t,rfl,rfl⟩
 ·exact ⟨t,rfl⟩
 ·exact ⟨t,rfl⟩
theorem KV.len {kvs:List (Key×V)} (r:KV kvs vs):kvs.length=vs.length:=Paired.length r
theorem sN {K:QZ} {it:Addr} {o:Obj} {kvs:List (Key×V)} {ep:Nat} (Gs:∃ es,o.data=.dict es ep):Turn P w K tg (D0 a o kvs) [it] it (fun i h=>h.IsKeyIter it a i kvs.length ep) where
 mem:=by simp
 obj:=fun i h st b hb=>by
  have e:b=it:=by simpa using hb
  subst e
  obtain ⟨o,e,c,d⟩:=st
  exact ⟨o,e,fun v z=>by rw [d] at z;cases z⟩
 keep:=fun i h h' st k=>st.at fun o e=>k it (by simp) o e
 item:=by
  intro X hP hw hK hc i pins s σ H E I hf st hg
  subst hP hw hK
  obtain ⟨hq,hi⟩:=hg
  obtain ⟨e,z,hd,vs,rel,ob,es,zp,h1,h2,h3,h4⟩:=(show a_ X.prog X.w H s.heap a (.bq o (.dK kvs)) from I.hok a _ hq)
  obtain ⟨ur,ic⟩:=Gs
  rw [e] at h1;cases h1
  rw [ic] at h3;injection h3 with Bg Bh
  subst Bg Bh
  obtain ⟨q,vf,vg⟩:=z7 rel (Qa hi)
  have hl:=rel.len
  obtain ⟨f0,f1,f2,f3,f4,f5⟩:=hf it (by simp)
  obtain ⟨qk,qv⟩:=q
  refine wpAny_pyNext_dict_item (knd:=dh X.prog X.w) (kvs:=vs) (ep:=ep) (by rw [<- hl];exact st) ⟨o,ur,e,h2,ic,h4⟩ vf fun key h' hk iw sb=>?_
  have I1:Inv X pins σ H {s with heap:=h'}:=I.turned (t':=s.toks) (fun b o hb e=>(sb.2 b hb).trans e) f0 f1 f3 f4 f5
  have xf:h'.IsKeyIter it a (i+1) kvs.length ep:=by rw [hl];exact iw
  obtain ⟨o3,e3,c3,d3⟩:=id xf
  refine ⟨key,rfl,lC (s:={s with heap:=h'}) e3 c3 d3 (by decide) ⟨Ag kvs i,H,I1,?_,⟨rfl,rfl⟩,xf,fun b hb=>(hf b hb).1⟩⟩
  unfold Ag
  rw [Qa hi]
  show RelV (kV kvs[i].1) key
  have Lu:qk=kvs[i].1:=vg
  rw [<- Lu]
  exact mZ hk
 done:=by
  intro X hP hw hK hc i pins s σ H E I hf st hg
  subst hP hw hK
  obtain ⟨hq,hi⟩:=hg
  obtain ⟨e,z,hd,vs,rel,ob,es,zp,h1,h2,h3,h4⟩:=(show a_ X.prog X.w H s.heap a (.bq o (.dK kvs)) from I.hok a _ hq)
  obtain ⟨ur,ic⟩:=Gs
  rw [e] at h1;cases h1
  rw [ic] at h3;injection h3 with Bg Bh
  subst Bg Bh
  have hl:=rel.len
  obtain ⟨f0,f1,f2,f3,f4,f5⟩:=hf it (by simp)
  exact wpAny_pyNext_dict_end (knd:=dh X.prog X.w) (kvs:=vs) (ep:=ep) (I.ok.hd hc) (by rw [<- hl];exact st) ⟨o,ur,e,h2,ic,h4⟩ (by simp;omega) fun h' eb=>⟨rfl,I.turned (t':=s.toks) (fun b o hb e=>eb b o hb e) f0 f1 f3 f4 f5⟩
 self:=fun _ _ _ _ _ st h=>wpAny_pyIter_keyiter st h
theorem jJ (h:H a=some o):upd H a o=H:=by
 funext b
 unfold upd
 by_cases e:b=a
 ·rw [if_pos e,e,h]
 ·rw [if_neg e]
theorem Inv.freeze {kvs:List (Key×V)} (I:Inv X pins σ H s) (h:Rd H a (.dK kvs)):∃ o es ep,o.data=.dict es ep/\Inv X pins σ (upd H a (.bq o (.dK kvs))) s/\s.heap.get? a=some o:=by
 rcases h with h | ⟨o,h⟩
 ·have ok:=(show a_ X.prog X.w H s.heap a (.dK kvs) from I.hok a _ h)
  obtain ⟨z,hd,vs,rel,o,es,ep,h1,h2,h3,h4⟩:=ok
  have I2:=I.write (x:=a) (e:=a) (h':=s.heap) (t':=s.toks) (o:=.bq o (.dK kvs)) (by rw [h];exact True.intro) (.inl rfl) (fun b u _ q=>q) ⟨o,h1⟩ ⟨h1,z,hd,vs,rel,o,es,ep,h1,h2,h3,h4⟩
  exact ⟨o,es,ep,h3,I2,h1⟩
 ·obtain ⟨e,z,hd,vs,rel,ob,es,ep,h1,h2,h3,h4⟩:=(show a_ X.prog X.w H s.heap a (.bq o (.dK kvs)) from I.hok a _ h)
  rw [e] at h1;cases h1
  exact ⟨o,es,ep,h3,by rw [jJ h];exact I,e⟩
def Lv (te:TE):TI:=fun σ H R=>te σ H fun x H1=>∃ a kvs,x=.ref a/\Rd H1 a (.dK kvs)/\∀ o,R (D0 a o kvs) (upd H1 a (.bq o (.dK kvs)))
theorem qX (he:SE X e te):SI X tg e (Lv te):=by
 constructor
 intro pins s σ H R I h
 refine ai (he.h pins s σ H _ I h) ?_
 rintro v s1 ⟨x,H1,I1,r1,a,kvs,ex,hr,q⟩
 subst ex
 cases r1
 obtain ⟨o,es,ep,hd,I2,ho⟩:=I1.freeze hr
 obtain ⟨e,z,Lw,vs,rel,ob,ur,zp,h1,h2,h3,h4⟩:=(show a_ X.prog X.w _ s1.heap a (.bq o (.dK kvs)) from I2.hok a _ aA)
 rw [e] at h1;cases h1
 rw [hd] at h3;injection h3 with Bg Bh
 subst Bg Bh
 refine wpAny_pyIter_dict (knd:=dh X.prog X.w) (kvs:=vs) (ep:=ep) Lw ⟨o,es,e,h2,hd,h4⟩ ?_
 have hl:=rel.len
 refine ⟨s1.heap.objs.size,[s1.heap.objs.size],_,_,_,rfl,I2.kept (t':=s1.toks) fun b o e=>Qc _ e,sN (kvs:=kvs) (a:=a) (o:=o) ⟨es,hd⟩,by rw [hl];exact ⟨_,Qd _ rfl,rfl,rfl⟩,fun b hb=>?_,q o⟩
 have e:b=s1.heap.objs.size:=by simpa using hb
 subst e
 exact I2.sy (Qy _) (I2.hok.fresh (Qy _))
def Lx (n:Bool):R2:=fun y x H Q=>∃ a o,x=.ref a/\gu H a y o/\Q (.bl (n^^o.isSome)) H
theorem yR (hu:X.A.units+1 < cLine):bf X (compareOp .In) (Lx false):=by
 intro pins s σ H x y v u Q I rx ry h
 obtain ⟨a,o,rfl,g,q⟩:=h
 cases ry
 exact JZ hu I g rx fun s' I'=>⟨.bl o.isSome,H,I',rfl,by simpa using q⟩
theorem gu.rd {kvs:List (Key×V)} {k:Key} (e:Rd H a (.dK kvs)):gu H a (kV k) (be kvs k):=.inl ⟨kvs,k,e,rfl,rfl⟩
def D4 (c:Int) (n:Nat):It:=⟨fun i _=>i < n,fun i H x H'=>H'=H/\x=.int (0+i*c),fun i _=>n<=i⟩
theorem oE {K:QZ} (it:Addr) (c:Int) (n:Nat):Turn P w K tg (D4 c n) [it] it (fun i h=>IsRangeIter h it (0+(i:Nat)*c) ((n:Int) - (i:Nat)) c) where
 mem:=by simp
 obj:=fun i h st b hb=>by
  have e:b=it:=by simpa using hb
  subst e
  exact ⟨_,st,fun v z=>by
   have z':Data.fields _=Data.cell v:=z
   cases z'⟩
 keep:=fun i h h' st k=>k it (by simp) _ st
 item:=by
  intro X hP hw hK hc i pins s σ H E I hf st hg
  subst hP hw hK
  obtain ⟨f0,f1,f2,f3,f4,f5⟩:=hf it (by simp)
  have W:=Walks.range (prog:=X.prog) (w:=X.w) (I.ok.hd hc) it 0 c n
  refine W.item i s _ _ hg st fun v h' tk hv iw kk=>?_
  obtain ⟨t,rfl⟩:=hv
  have I1:Inv X pins σ H {s with heap:=h',toks:=tk}:=I.turned (fun b o hb e=>kk b o (by simpa using hb) e) f0 f1 f3 f4 f5
  exact ⟨_,rfl,lC (s:={s with heap:=h',toks:=tk}) (n:="range_iterator") iw rfl rfl (by decide) ⟨.int (0+i*c),H,I1,⟨t,rfl⟩,⟨rfl,rfl⟩,iw,fun b hb=>(hf b hb).1⟩⟩
 done:=by
  intro X hP hw hK hc i pins s σ H E I hf st hg
  subst hP hw hK
  obtain ⟨f0,f1,f2,f3,f4,f5⟩:=hf it (by simp)
  exact wpAny_pyNext_range_end (I.ok.hd hc) st (by have:n<=i:=hg;omega) fun h' eb=>⟨rfl,I.turned (t':=s.toks) (fun b o hb e=>eb b o hb e) f0 f1 f3 f4 f5⟩
 self:=fun _ _ _ _ _ st h=>wpAny_pyIter_rangeiter st h
theorem p7 (c:Int) (n:Nat):qx (D4 c n) (fun _=>True) n (fun i=>.int (0+i*c)):=fun H _=>⟨fun i hi=>⟨hi,fun x H' ⟨e,y⟩=>⟨e,y⟩⟩,Qy _⟩
section
variable {a b c:Expr} {p pos:Pos}
def Ly (ta:TA):TI:=fun σ H R=>ta σ H fun vs H1=>∃ m c:Int,vs=[.int 0,.int m,.int c]/\(0<=m/\m<=1000000/\1<=c/\c<=1000)/\R (D4 c ((m+c - 1) / c).toNat) H1
theorem u7 (hg:Gl X "range") (hm:X.mg "range"=none) (ha:SA X [a,b,c] ta) (hs:starEach [a,b,c] X.env=[(false,eval a X.env),(false,eval b X.env),(false,eval c X.env)]:=by rfl) (n_:starEach [b,c] X.env=[(false,eval b X.env),(false,eval c X.env)]:=by rfl):SI X tg (.Call (.Name "range" p) [a,b,c] [] pos) (Ly ta):=by
 constructor
 intro pins s σ H R I h
 refine Call_ (gS I hg hm boot_range (PyProof.Rows.callWith_type1 (ai (ha.h pos pins s σ H _ I h) fun us s1 ⟨vs,H1,I1,r1,q1⟩=>?_) (by rw [hs,n_]) (by rw [n_];rfl)))
 obtain ⟨m,c',e,⟨h1,h2,h3,h4⟩,q⟩:=q1
 subst e
 cases r1 with
 | cons r rr=>
  cases rr with
  | cons r' rr=>
   cases rr with
   | cons Lz rr=>
    cases rr
    obtain ⟨t,rfl⟩:=r
    obtain ⟨t',rfl⟩:=r'
    obtain ⟨LA,rfl⟩:=Lz
    refine call_range_3 (by omega) ?_ (.inl (PyProof.noPylong_small (by omega)))
    refine wpAny_pyIter_range (IsRange.new ..) ?_ ?_
    ·unfold Builtin.Range.small
     rw [rangeSize_pos h3 h1]
     have e1:0<=(m+c' - 1) / c':=Int.ediv_nonneg (by omega) (by omega)
     have e2:(m+c' - 1) / c'<=m+c' - 1:=Int.ediv_le_self _ (by omega)
     simp only [Builtin.Range.rangeFitsLong,Bool.and_eq_true,Bool.or_eq_true,decide_eq_true_eq,beq_iff_eq,show c' > 0 by omega,if_true]
     first | omega | (split<;>omega)
    ·have I2:Inv X pins σ H1 {s1 with heap:=s1.heap.push {cls:=.type "range",data:=.fields #[.int 0 t,.int m t',.int c' LA]},toks:=s1.toks}:=I1.kept (t':=s1.toks) fun b o e=>Qc _ e
     have en:Builtin.Range.rangeSize 0 m c'=((((m+c' - 1) / c').toNat:Nat):Int):=by
      rw [rangeSize_pos h3 h1]
      have:0<=(m+c' - 1) / c':=Int.ediv_nonneg (by omega) (by omega)
      omega
     refine ⟨_,[_],_,_,H1,rfl,I2.kept (t':=s1.toks) fun b o e=>Qc _ e,oE _ c' _,?_,fun b hb=>?_,q⟩
     ·show IsRangeIter _ _ (0+((0:Nat):Int)*c') _ c'
      rw [en]
      simp only [Int.natCast_zero,Int.zero_mul,Int.add_zero,Int.sub_zero]
      exact Qd _ rfl
     ·have e:=List.mem_singleton.mp hb
      subst e
      exact I2.sy (Qy _) (I2.hok.fresh (Qy _))
end
inductive Dt where
 | str (z:Str)
 | tup (ds:List Dt)
 | bx
inductive DD (H:Hp):V->Dt->Prop
 | str {z:Str} (h:z.length<=100000):DD H (.str z) (.str z)
 | tup {a:Addr} {xs:List V} {ds:List Dt}:H a=some (.tup xs)->xs.length=ds.length->xs.length<=1000->(∀ i (h:i < xs.length) (h':i < ds.length),DD H xs[i] ds[i])->DD H (.ref a) (.tup ds)
 | af:DD H .af .bx
 | bl (b:Bool):DD H (.bl b) .bx
 | int (i:Int):DD H (.int i) .bx
 | lst {a:Addr} {xs:List V}:H a=some (.lst xs)->DD H (.ref a) .bx
 | dct {a:Addr} {kvs:List (Key×V)}:H a=some (.dK kvs)->DD H (.ref a) .bx
theorem DD.same (s:aa H H') {v:V} {d:Dt} (h:DD H v d):DD H' v d:=by
 induction h with
 | str h=>exact .str h
 | tup e hl hn _ ih=>exact .tup (s _ _ e) hl hn ih
 | af=>exact .af
 | bl b=>exact .bl b
 | int i=>exact .int i
 | lst e=>exact .lst (s _ _ e)
 | dct e=>exact .dct (s _ _ e)
def Dt.isTup:Dt->Bool | .tup _=>true | _=>false
def Dt.isStr:Dt->Bool | .str _=>true | _=>false
theorem DD.ty {v:V} {d:Dt} (h:DD H v d):∃ t,lu H v=some t/\qw t "tuple"=d.isTup/\qw t "str"=d.isStr:=by
 cases h with
 | str h=>exact ⟨"str",rfl,by rfl,by rfl⟩
 | tup e=>exact ⟨"tuple",by simp [lu,e],by simp [qw,Dt.isTup],by simp [qw,Dt.isStr]⟩
 | af=>exact ⟨"NoneType",rfl,by decide,by decide⟩
 | bl b=>exact ⟨"bool",rfl,by decide,by decide⟩
 | int i=>exact ⟨"int",rfl,by decide,by decide⟩
 | lst e=>exact ⟨"list",by simp [lu,e],by decide,by decide⟩
 | dct e=>exact ⟨"dict",by simp [lu,e],by decide,by decide⟩
theorem DD.good {v:V} {d:Dt} (h:DD H v d):∃ p w,ya p w H v:=by
 cases h with
 | str h=>exact ⟨0,0,h⟩
 | @tup a _ _ e=>exact ⟨Nat.succ a,Nat.succ a,Nat.ne_of_lt (Nat.lt_succ_self a),Nat.ne_of_lt (Nat.lt_succ_self a),.inr (.inl ⟨_,e⟩)⟩
 | af=>exact ⟨0,0,True.intro⟩
 | bl b=>exact ⟨0,0,True.intro⟩
 | int i=>exact ⟨0,0,True.intro⟩
 | @lst a _ e=>exact ⟨Nat.succ a,Nat.succ a,Nat.ne_of_lt (Nat.lt_succ_self a),Nat.ne_of_lt (Nat.lt_succ_self a),.inl ⟨_,e⟩⟩
 | @dct a _ e=>exact ⟨Nat.succ a,Nat.succ a,Nat.ne_of_lt (Nat.lt_succ_self a),Nat.ne_of_lt (Nat.lt_succ_self a),.inr (.inr ⟨_,e⟩)⟩
def dc:Dt->Bool | .str z=>isName z | _=>false
def pairD:Dt->Bool | .tup [a,b]=>dc a&&dc b | _=>false
def Bj:Dt->Str | .tup (.str z::_)=>z | _=>""
def yd:Dt->Str | .tup (_::.str z::_)=>z | _=>""
def l_ (a b:Str):Bool:=decide (a.cps.toList < b.cps.toList)
def rising:List Str->Bool
 | a::b::r=>l_ a b&&rising (b::r)
 | _=>true
def t_:Dt->Bool | .tup ps=>ps.all pairD&&rising (ps.map Bj) | _=>false
def gw (s:Str):Bool:=s=="box"||s=="pick"
def vh (s:Str):Option Nat:=if s=="all" then some 0 else if s=="none" then some 0 else if s=="way" then some 2 else if s=="as" then some 1 else none
def headD:Dt->Bool
 | .tup (.str s::rest)=>if gw s then (match rest with | [p]=>t_ p | _=>false) else match vh s with | some n=>decide (rest.length=n)&&rest.all dc | none=>false
 | _=>false
def gj:Dt->Bool | .tup [a,h]=>dc a&&headD h | _=>false
def spT (f:Dt->Bool):Sp:=fun vs H Q _=>∃ (x:V) (d:Dt),vs=[x]/\DD H x d/\∀ H',aa H H'->Q (.bl (f d)) H'
theorem av.imp {P:Program} {w:World} {K:QZ} {mg:Str->Option Value} {base:Heap} {k:Nat} {x:Str} {ps:List Str} {sp AS:Sp} (F:av P w K mg base k x ps sp) (h:∀ vs H Q E,AS vs H Q E->sp vs H Q E):av P w K mg base k x ps AS:=by
 obtain ⟨f,fd,G,r⟩:=F
 exact ⟨f,fd,G.imp h,r⟩
theorem wA {v:V} {d:Dt} (h:DD H v d):Bb v=dc d:=by cases h<;>rfl
theorem u9 {vs:List V} {Q:VK} {E:XK} (h:spT dc vs H Q E):Gh vs H Q E:=by
 obtain ⟨x,d,rfl,hd,q⟩:=h
 obtain ⟨p,w,g⟩:=hd.good
 refine ⟨p,w,x,rfl,g,fun H' s=>?_⟩
 rw [wA hd];exact q H' s
theorem qQ {Q:Bool->Hp->Prop} (h:Q true H):Cd σ H Q:=h
theorem dO {J:It} {ok:Hp->Prop} {item:Nat->V} {τ0:St} {H1:Hp} {D:Addr} {Q:Hp->Prop} (hJ:qx J ok n item) (f:Nat->Bool) (hn:n < sizeLine) (hD:H1 D=none) (hok:∀ H2,aa H1 H2->ok H2)
  (he:∀ i H2 (k:VK),i < n->aa H1 H2->(∀ H3,aa H2 H3->k (.bl (f i)) H3)->te (τ0.set 0 (some (item i))) H2 k)
  (hQ:∀ H2,aa H1 H2->H2 D=some (.lst (((List.range n).map f).map V.bl))->Q H2):∃ W:Nat->Nat->St->Hp->Prop,(∃ m,W 0 m τ0 (upd H1 D (.lst [])))/\∀ i m τ H,W i m τ H->
   (J.stop i H/\Q H)\/(J.go i H/\∃ N:St->Hp->Prop,(∀ τ' H',N τ' H'->∃ m',m' < m/\W (i+1) m' τ' H')/\∀ x H',J.g_ i H x H'->jj 0 x τ H' fun τ2 H2=>Cd τ2 H2 fun b H3=>
    if b=true then te τ2 H3 fun y H4=>∃ xs,H4 D=some (.lst xs)/\xs.length < sizeLine/\N τ2 (upd H4 D (.lst (xs++[y]))) else N τ2 H3):=by
 refine hZ hJ (fun i τ H=>H D=some (.lst (((List.range i).map f).map V.bl))/\aa H1 H/\∃ v,τ=τ0.set 0 v\/τ=τ0) ⟨aA,aa.upd hD _,none,.inr rfl⟩ (fun i τ H hi h=>hok H h.2.1) ?_ ?_
 ·rintro i τ H hi ⟨h1,h2,v,hv⟩
  have e:τ.set 0 (some (item i))=τ0.set 0 (some (item i)):=by
   rcases hv with rfl | rfl
   ·rw [List.set_set]
   ·rfl
  have hg:∀ (Q':St->Hp->Prop),Q' (τ0.set 0 (some (item i))) H->jj 0 (item i) τ H Q':=fun Q' h=>by unfold jj;rw [e];exact h
  refine hg _ ?_
  refine qQ ?_
  rw [if_pos rfl]
  refine he i H _ hi h2 fun H3 s3=>?_
  refine ⟨_,s3 _ _ h1,by rw [Ql,Ql,List.length_range];omega,?_,(h2.trans s3).put hD,_,.inl rfl⟩
  rw [aA,List.range_succ,Qm,Qm];rfl
 ·rintro τ H ⟨h1,h2,_⟩
  exact hQ H h2 h1
theorem bU (ds:List α) (d:α) (g:α->Bool):((List.range ds.length).map fun i=>g (ds.getD i d)).all id=ds.all g:=by
 rw [List.all_map,Bool.eq_iff_iff,QF,QF]
 constructor
 ·intro h x hx
  obtain ⟨i,hi,rfl⟩:=Qi hx
  have:=h i (List.mem_range.mpr hi)
  simpa [Qb,hi] using this
 ·intro h i hi
  have jw:=List.mem_range.mp hi
  have:=h _ (Qj jw)
  simpa [Qb,jw] using this
theorem eI (rs:List (Key×V)):(rs.map (·.1)).Nodup->dictOf rs=rs:=by
 have gen:∀ (rs kvs:List (Key×V)),(rs.map (·.1)).Nodup->(∀ r∈rs,be kvs r.1=none)->rs.foldl (fun kvs r=>putK kvs r.1 r.2) kvs=kvs++rs:=by
  intro rs
  induction rs with
  | nil=>intro kvs _ _;simp
  | cons r rs ih=>
   intro kvs hn hk
   rw [List.map_cons,List.nodup_cons] at hn
   rw [List.foldl_cons,oY _ (hk r List.mem_cons_self),ih _ hn.2 fun x hx=>?_]
   ·simp
   ·rw [dZ _ _ _ _ (hk r List.mem_cons_self),if_neg (fun e=>hn.1 (List.mem_map.mpr ⟨x,hx,e⟩))]
    exact hk x (Qh _ hx)
 intro hn
 have:=gen rs [] hn (fun _ _=>rfl)
 simpa [dictOf] using this
theorem iO (rs:List (Key×V)) (h:(dictOf rs).length=rs.length):(rs.map (·.1)).Nodup:=by
 have gen:∀ (rs kvs:List (Key×V)),(rs.foldl (fun kvs r=>putK kvs r.1 r.2) kvs).length=kvs.length+rs.length->(rs.map (·.1)).Nodup/\∀ r∈rs,be kvs r.1=none:=by
  intro rs
  induction rs with
  | nil=>intro kvs _;exact ⟨by simp,fun _ h=>nomatch h⟩
  | cons r rs ih=>
   intro kvs hl
   rw [List.foldl_cons,List.length_cons] at hl
   have h1:=iW rs (putK kvs r.1 r.2)
   cases hv:be kvs r.1 with
   | some v=>
    exfalso
    have:(putK kvs r.1 r.2).length=kvs.length:=by
     unfold putK
     rw [eA,hv];simp
    omega
   | none=>
    rw [oY _ hv] at hl h1
    obtain ⟨i1,i2⟩:=ih _ (by rw [hl];simp;omega)
    refine ⟨?_,fun x hx=>?_⟩
    ·rw [List.map_cons,List.nodup_cons]
     refine ⟨fun hm=>?_,i1⟩
     obtain ⟨x,hx,e⟩:=List.mem_map.mp hm
     have:=i2 x hx
     rw [dZ _ _ _ _ hv,if_pos e] at this
     cases this
    ·rcases Qp.mp hx with rfl | hx
     ·exact hv
     ·have:=i2 x hx
      rw [dZ _ _ _ _ hv] at this
      by_cases e:x.1=r.1
      ·rw [if_pos e] at this;cases this
      ·rw [if_neg e] at this;exact this
 exact (gen rs [] (by simpa [dictOf] using h)).1
def Bk:Dt->Str | .str z=>z | _=>""
theorem i6:∀ ws:List Str,((List.range (min ws.length (ws.length - 1))).map fun i=>l_ (ws.getD i "") (ws.getD (i+1) "")).all id=rising ws
 | []=>rfl
 | [a]=>rfl
 | a::b::r=>by
  have ih:=i6 (b::r)
  have e1:min (a::b::r).length ((a::b::r).length - 1)=min (b::r).length ((b::r).length - 1)+1:=by simp
  rw [e1,List.range_succ_eq_map,List.map_cons,List.all_cons,Qn]
  have e2:((List.range (min (b::r).length ((b::r).length - 1))).map ((fun i=>l_ ((a::b::r).getD i "") ((a::b::r).getD (i+1) ""))∘Nat.succ)).all id=rising (b::r):=by
   rw [<- ih]
   rfl
  rw [e2]
  rfl
theorem d7 {v:V} {d:Dt} (h:DD H v d) (hn:dc d=true):∃ z,v=.str z/\d=.str z/\isName z=true:=by
 cases h with
 | str _=>exact ⟨_,rfl,rfl,hn⟩
 | tup _ _ _ _=>exact Bool.noConfusion hn
 | af=>exact Bool.noConfusion hn
 | bl _=>exact Bool.noConfusion hn
 | int _=>exact Bool.noConfusion hn
 | lst _=>exact Bool.noConfusion hn
 | dct _=>exact Bool.noConfusion hn
theorem uE {v:V} {d:Dt} (h:DD H v d) (hp:pairD d=true):∃ b z n,v=.ref b/\H b=some (.tup [.str z,.str n])/\d=.tup [.str z,.str n]:=by
 cases h with
 | @tup b ys es e' d_ hn' fu=>
  match es,d_,hp,fu with
  | [d1,d2],d_,hp,fu=>
   match ys,d_,e',fu with
   | [y1,y2],d_,e',fu=>
    simp only [pairD,Bool.and_eq_true] at hp
    obtain ⟨z1,q1,q2,_⟩:=d7 (fu 0 (by simp) (by simp)) hp.1
    obtain ⟨z2,q3,q4,_⟩:=d7 (fu 1 (by simp) (by simp)) hp.2
    simp only [List.getElem_cons_zero,List.getElem_cons_succ] at q1 q3
    subst q1 q2 q3 q4
    exact ⟨b,z1,z2,rfl,e',rfl⟩
 | str _=>exact Bool.noConfusion hp
 | af=>exact Bool.noConfusion hp
 | bl _=>exact Bool.noConfusion hp
 | int _=>exact Bool.noConfusion hp
 | lst _=>exact Bool.noConfusion hp
 | dct _=>exact Bool.noConfusion hp
theorem iY (z:Str):be ([(.inr "all",.int 0),(.inr "none",.int 0),(.inr "way",.int 2),(.inr "as",.int 1)]:List (Key×V)) (.inr z)=(vh z).map fun n:Nat=>V.int n:=by
 have hk:∀ a b:Str,((Sum.inr a:Key)=Sum.inr b)↔(b==a)=true:=fun a b=>⟨fun e=>by rw [Sum.inr.inj e];exact beq_self_eq_true _,fun h=>by rw [eq_of_beq h]⟩
 have step:∀ (a:Str) (v:V) (r:List (Key×V)),be ((Sum.inr a,v)::r) (.inr z)=if (z==a)=true then some v else be r (.inr z):=fun a v r=>by
  by_cases h:(z==a)=true
  ·rw [if_pos h];exact bN ((hk a z).mpr h)
  ·rw [if_neg h];exact bO (fun e=>h ((hk a z).mp e))
 rw [step,step,step,step]
 unfold vh
 split<;>(try split)<;>(try split)<;>(try split)<;>rfl
theorem Gu (a b:Str):(a==b)=(b==a):=by
 by_cases h:a=b
 ·subst h;rfl
 ·rw [beq_eq_false_iff_ne.mpr h,beq_eq_false_iff_ne.mpr (Ne.symm h)]
theorem iF (z:Str):uz (.str z) [.str "box",.str "pick"]=gw z:=by
 show (([V.str "box",V.str "pick"]:List V).any fun y=>nv y (.str z))=_
 unfold gw
 simp only [List.any_cons,List.any_nil,Bool.or_false,nv]
 rw [Gu (QL "box") z,Gu (QL "pick") z]
def strOf:Dt->Str | .str z=>z | _=>""
def dg:Dt->List Str
 | .tup (.str s::rest)=>if gw s then (match rest with | [.tup ps]=>ps.map yd | _=>[]) else rest.map strOf
 | _=>[]
def LB:Dt->Dt | .tup (_::h::_)=>h | _=>.bx
def ou:Dt->Option Str | .tup [.str s,.str x]=>if s=="as" then some x else none | _=>none
def bg (ds:List Dt):List (Str×Dt):=ds.map fun d=>(Bj d,LB d)
def ja (rs:List (Str×Dt)) (n:Str):Option Str:=(rs.find? fun r=>decide (r.1=n)).bind fun r=>ou r.2
def jb (nx:Str->Option Str):Nat->Str->Bool
 | 0,_=>false
 | n+1,x=>match nx x with | none=>true | some y=>jb nx n y
def cf:Dt->Bool
 | .tup ds=>decide (1<=ds.length)&&decide (ds.length<=200)&&ds.all gj&&decide (((bg ds).map (·.1)).Nodup)&&((bg ds).all fun r=>(dg r.2).all fun n=>decide (n∈(bg ds).map (·.1)))&&(((bg ds).map (·.1)).all fun n=>jb (ja (bg ds)) ds.length n)
 | _=>false
theorem Rd.same {u:HO} (r:Rd H a u) (s:aa H H'):Rd H' a u:=by
 rcases r with r | ⟨o,r⟩
 ·exact .inl (s _ _ r)
 ·exact .inr ⟨o,s _ _ r⟩
theorem dN (z:Str) (ds:List Dt):headD (.tup (.str z::ds))=if gw z then (match ds with | [p]=>t_ p | _=>false) else match vh z with | some n=>decide (ds.length=n)&&ds.all dc | none=>false:=rfl
theorem jV {v:V} {d:Dt} (h:DD H v d) (hh:headD d=true):∃ a z xs ds,v=.ref a/\d=.tup (.str z::ds)/\H a=some (.tup (.str z::xs))/\xs.length=ds.length/\xs.length < 1000/\(∀ i (h:i < xs.length) (h':i < ds.length),DD H xs[i] ds[i])/\
  ((gw z=true/\∃ p,ds=[p]/\t_ p=true)\/(gw z=false/\∃ n,vh z=some n/\ds.length=n/\ds.all dc=true)):=by
 cases h with
 | @tup a xs ds e hl hn bw=>
  match ds,hl,hh,bw with
  | .str z::ds,hl,hh,bw=>
   match xs,hl,e,hn,bw with
   | x0::xs,hl,e,hn,bw=>
    have h0:=bw 0 (by simp) (by simp)
    simp only [List.getElem_cons_zero] at h0
    cases h0
    refine ⟨a,z,xs,ds,rfl,rfl,e,by simpa using hl,by simp at hn;omega,fun i h h'=>bw (i+1) (by simpa using h) (by simpa using h'),?_⟩
    rw [dN] at hh
    cases hw:gw z with
    | true=>
     rw [hw] at hh
     simp only [if_true] at hh
     match ds,hh with
     | [p],hh=>exact .inl ⟨rfl,p,rfl,hh⟩
    | false=>
     rw [hw] at hh
     simp only [Bool.false_eq_true,if_false] at hh
     cases hb:vh z with
     | none=>rw [hb] at hh;exact Bool.noConfusion hh
     | some n=>
      rw [hb] at hh
      simp only [Bool.and_eq_true,decide_eq_true_eq] at hh
      exact .inr ⟨rfl,n,rfl,hh.1,hh.2⟩
  | .tup _::_,_,hh,_=>exact Bool.noConfusion hh
  | .bx::_,_,hh,_=>exact Bool.noConfusion hh
  | [],_,hh,_=>exact Bool.noConfusion hh
 | str _=>exact Bool.noConfusion hh
 | af=>exact Bool.noConfusion hh
 | bl _=>exact Bool.noConfusion hh
 | int _=>exact Bool.noConfusion hh
 | lst _=>exact Bool.noConfusion hh
 | dct _=>exact Bool.noConfusion hh
theorem lF:gw "as"=false:=by decide
theorem yV {v:V} {d:Dt} (h:DD H v d) (hh:headD d=true):DW H v (ou d):=by
 obtain ⟨a,z,xs,ds,rfl,rfl,e,hl,hn,bw,hc⟩:=jV h hh
 refine ⟨a,rfl,?_⟩
 by_cases hz:z="as"
 ·subst hz
  rcases hc with ⟨hw,_⟩ | ⟨_,n,hb,D5,ye⟩
  ·rw [lF] at hw;cases hw
  ·have hn1:n=1:=by
    have:vh "as"=some 1:=by decide
    rw [this] at hb;cases hb;rfl
   subst hn1
   match ds,D5,hl,ye,bw with
   | [d1],_,hl,ye,bw=>
    match xs,hl,e,bw with
    | [x1],_,e,bw=>
     simp only [List.all_cons,List.all_nil,Bool.and_true] at ye
     obtain ⟨y,q1,q2,_⟩:=d7 (bw 0 (by simp) (by simp)) ye
     simp only [List.getElem_cons_zero] at q1
     subst q1 q2
     exact .inr ⟨y,e,by simp [ou]⟩
 ·refine .inl ⟨z,xs,e,hz,?_⟩
  have oq:(z==QL "as")=false:=by simpa using hz
  unfold ou
  split
  ·next s x D6=>
   injection D6 with D6
   injection D6 with h1 _
   injection h1 with h1
   rw [<- h1,if_neg (by rw [oq];exact Bool.false_ne_true)]
  ·rfl
theorem zU {d:Dt} (h:ou d=some y):d=.tup [.str "as",.str y]:=by
 unfold ou at h
 split at h
 ·split at h
  ·rename_i hs
   cases h
   rw [eq_of_beq hs]
  ·cases h
 ·cases h
theorem z6 {d:Dt} (h:ou d=some y):y∈dg d:=by
 rw [zU h]
 have e:dg (.tup [.str "as",.str y])=[y]:=rfl
 rw [e]
 exact List.mem_singleton.mpr rfl
theorem dH {t:TS} {D:Ends} {rt:VK} {bk ct:St->Hp->Prop} (h:t D σ H):zq {nx:=t D,rt:=rt,bk:=bk,ct:=ct} σ H:=h
structure jy (H:Hp) (xs:List V) (ds:List Dt) (rs:List (Str×V)) (hs:List Dt):Prop where
 l1:rs.length=ds.length
 l2:hs.length=ds.length
 ps:gi H xs (ao rs)
 dd:∀ i (h:i < ds.length) (h1:i < rs.length) (h2:i < hs.length),ds[i]=.tup [.str rs[i].1,hs[i]]/\DD H rs[i].2 hs[i]/\headD hs[i]=true/\isName rs[i].1=true
theorem xN {v:V} {d:Dt} (h:DD H v d) (hp:gj d=true):∃ b z x hd,v=.ref b/\H b=some (.tup [.str z,x])/\d=.tup [.str z,hd]/\DD H x hd/\headD hd=true/\isName z=true:=by
 cases h with
 | @tup b ys es e' d_ hn' fu=>
  match es,d_,hp,fu with
  | [d1,d2],d_,hp,fu=>
   match ys,d_,e',fu with
   | [y1,y2],d_,e',fu=>
    simp only [gj,Bool.and_eq_true] at hp
    obtain ⟨z1,q1,q2,q0⟩:=d7 (fu 0 (by simp) (by simp)) hp.1
    have q3:=fu 1 (by simp) (by simp)
    simp only [List.getElem_cons_zero,List.getElem_cons_succ] at q1 q2 q3
    subst q1 q2
    exact ⟨b,z1,y2,d2,rfl,e',rfl,q3,hp.2,q0⟩
 | str _=>exact Bool.noConfusion hp
 | af=>exact Bool.noConfusion hp
 | bl _=>exact Bool.noConfusion hp
 | int _=>exact Bool.noConfusion hp
 | lst _=>exact Bool.noConfusion hp
 | dct _=>exact Bool.noConfusion hp
theorem rO {H:Hp}:∀ {xs:List V} {ds:List Dt},xs.length=ds.length->(∀ i (h:i < xs.length) (h':i < ds.length),DD H xs[i] ds[i])->ds.all gj=true->∃ rs hs,jy H xs ds rs hs
 | [],[],_,_,_=>⟨[],[],rfl,rfl,iL,fun i h=>absurd h (by simp)⟩
 | x::xs,d::ds,hl,h,ha=>by
  rw [List.all_cons,Bool.and_eq_true] at ha
  obtain ⟨rs,hs,R⟩:=rO (xs:=xs) (ds:=ds) (by simpa using hl) (fun i a b=>h (i+1) (by simpa using a) (by simpa using b)) ha.2
  obtain ⟨b,z,v,hd,e1,e2,e3,e4,e5,e6⟩:=xN (h 0 (by simp) (by simp)) ha.1
  simp only [List.getElem_cons_zero] at e1 e3
  refine ⟨(z,v)::rs,hd::hs,by simp [R.l1],by simp [R.l2],?_,fun i a b c=>?_⟩
  ·rw [e1]
   exact cN.mpr (.cons ⟨b,rfl,e2⟩ (cN.mp R.ps))
  ·cases i with
   | zero=>exact ⟨e3,e4,e5,e6⟩
   | succ i=>exact R.dd i (by simpa using a) (by simpa using b) (by simpa using c)
section
variable {xs:List V} {ds:List Dt} {rs:List (Str×V)} {hs:List Dt}
theorem jy.same {H':Hp} (R:jy H xs ds rs hs) (s:aa H H'):jy H' xs ds rs hs:=⟨R.l1,R.l2,R.ps.same s,fun i a b c=>let ⟨h1,h2,h3⟩:=R.dd i a b c;⟨h1,h2.same s,h3⟩⟩
theorem jy.rows (R:jy H xs ds rs hs) (h:i < ds.length) (h1:i < rs.length) (h2:i < hs.length):(bg ds)[i]? =some (rs[i].1,hs[i]):=by
 unfold bg
 rw [Qq,Qa h,(R.dd i h h1 h2).1];rfl
theorem jy.names (R:jy H xs ds rs hs):(bg ds).map (·.1)=rs.map (·.1):=by
 refine List.ext_getElem? fun i=>?_
 rw [Qq,Qq]
 by_cases h:i < ds.length
 ·rw [R.rows h (by have:=R.l1;omega) (by have:=R.l2;omega),Qa (by have:=R.l1;omega)];rfl
 ·rw [List.getElem?_eq_none (by unfold bg;simp;omega),List.getElem?_eq_none (by have:=R.l1;omega)];rfl
theorem fA (n:Str) (h:n ∉ rs.map (·.1)):be (ao rs) (.inr n)=none:=by
 unfold be
 rw [List.find?_eq_none.mpr]
 ·rfl
 ·intro p hp e
  obtain ⟨r,hr,rfl⟩:=List.mem_map.mp hp
  exact h (List.mem_map.mpr ⟨r,hr,Sum.inr.inj (Qt e)⟩)
theorem cR (nd:(rs.map (·.1)).Nodup) (h:i < rs.length):be (ao rs) (.inr rs[i].1)=some rs[i].2:=by
 have:=nN (ao rs) (jU nd) i (by simpa using h)
 rw [eI _ (jU nd)] at this
 simpa using this
theorem fD (nd:(rs.map (·.1)).Nodup) (n:Str):(be (ao rs) (.inr n)).isSome=decide (n∈rs.map (·.1)):=by
 by_cases h:n∈rs.map (·.1)
 ·obtain ⟨r,hr,rfl⟩:=List.mem_map.mp h
  obtain ⟨i,hi,rfl⟩:=Qi hr
  rw [cR nd hi,Qv h];rfl
 ·rw [fA n h,Qw h];rfl
theorem jy.nx (R:jy H xs ds rs hs) (nd:(rs.map (·.1)).Nodup) (h1:i < rs.length) (h2:i < hs.length):ja (bg ds) rs[i].1=ou hs[i]:=by
 have h:i < ds.length:=by have:=R.l1;omega
 unfold ja
 have:(bg ds).find? (fun r=>decide (r.1=rs[i].1))=some (rs[i].1,hs[i]):=by
  rw [List.find?_eq_some_iff_getElem]
  have hl:(bg ds).length=ds.length:=by unfold bg;simp
  refine ⟨by simp,i,by omega,?_,fun j hj=>?_⟩
  ·have:=R.rows h h1 h2
   rw [Qa (by omega)] at this
   exact QD this
  ·have LC:j < rs.length:=by omega
   have:=R.rows (i:=j) (by omega) LC (by omega)
   rw [Qa (by omega)] at this
   rw [QD this]
   have ku:(rs.map (·.1))[j]'(by simp;omega)≠(rs.map (·.1))[i]'(by simpa using h1):=fun z=>(List.pairwise_iff_getElem.mp nd j i (by simp;omega) (by simpa using h1) hj) z
   simpa using ku
 rw [this];rfl
theorem jy.has (R:jy H xs ds rs hs) (nd:(rs.map (·.1)).Nodup) (n:Str) (v:V) (hv:be (ao rs) (.inr n)=some v):DW H v (ja (bg ds) n):=by
 by_cases h:n∈rs.map (·.1)
 ·obtain ⟨r,hr,rfl⟩:=List.mem_map.mp h
  obtain ⟨i,hi,rfl⟩:=Qi hr
  rw [cR nd hi] at hv
  cases hv
  have h2:i < hs.length:=by have:=R.l1;have:=R.l2;omega
  rw [R.nx nd hi h2]
  obtain ⟨_,q1,q2,_⟩:=R.dd i (by have:=R.l1;omega) hi h2
  exact yV q1 q2
 ·rw [fA n h] at hv;cases hv
theorem jy.LD (R:jy H xs ds rs hs) (nd:(rs.map (·.1)).Nodup) (xq:(bg ds).all (fun r=>(dg r.2).all fun n=>decide (n∈(bg ds).map (·.1)))=true) (n y:Str) (hn:(be (ao rs) (.inr n)).isSome=true) (h:ja (bg ds) n=some y):(be (ao rs) (.inr y)).isSome=true:=by
 rw [fD nd] at hn ⊢
 have hn':=Qt hn
 obtain ⟨r,hr,rfl⟩:=List.mem_map.mp hn'
 obtain ⟨i,hi,rfl⟩:=Qi hr
 have h2:i < hs.length:=by have:=R.l1;have:=R.l2;omega
 rw [R.nx nd hi h2] at h
 have hm:=QC (R.rows (by have:=R.l1;omega) hi h2)
 have:=QF.mp xq _ hm
 have:=QF.mp this y (z6 h)
 rw [<- R.names]
 exact this
theorem p8 {d:Dt} {v:V} (h:DD H v d) (hh:headD d=true):(dg d).length<=1000:=by
 obtain ⟨a,z,xs,ds,rfl,rfl,e,hl,hn,bw,hc⟩:=jV h hh
 rcases hc with ⟨hw,p,rfl,hp⟩ | ⟨hw,n,hb,D5,ye⟩
 ·match xs,hl,bw with
  | [x1],_,bw=>
   have h1:=bw 0 (by simp) (by simp)
   simp only [List.getElem_cons_zero] at h1
   cases h1 with
   | @tup b ys es e' d_ hn' fu=>
    have:dg (.tup [.str z,.tup es])=if gw z then es.map yd else _:=rfl
    rw [this,if_pos hw,Ql]
    omega
   | _=>exact Bool.noConfusion hp
 ·have:dg (.tup (.str z::ds))=if gw z then _ else ds.map strOf:=rfl
  rw [this,if_neg (by rw [hw];exact Bool.false_ne_true),Ql]
  omega
theorem gI (l:List α) (n:Nat) (hn:l.length=n) (f:Nat->Bool) (g:α->Bool) (h:∀ i (hi:i < l.length),f i=g l[i]):((List.range n).map f).all id=l.all g:=by
 subst hn
 rw [List.all_map,Bool.eq_iff_iff,QF,QF]
 constructor
 ·intro q x hx
  obtain ⟨i,hi,rfl⟩:=Qi hx
  rw [<- h i hi]
  exact q i (List.mem_range.mpr hi)
 ·intro q i hi
  have jw:=List.mem_range.mp hi
  show f i=true
  rw [h i jw]
  exact q _ (Qj jw)
end
inductive TX (H:Hp):V->Dt->Prop
 | str {z:Str} (h:z.length<=100000):TX H (.str z) (.str z)
 | tup {a:Addr} {xs:List V} {ds:List Dt}:H a=some (.tup xs)->xs.length=ds.length->xs.length<=1000->(∀ i (h:i < xs.length) (h':i < ds.length),TX H xs[i] ds[i])->TX H (.ref a) (.tup ds)
theorem TX.tk (s:Tk H H') {v:V} {d:Dt} (h:TX H v d):TX H' v d:=by
 induction h with
 | str h=>exact .str h
 | tup e hl hn _ ih=>exact .tup (s _ _ e) hl hn ih
theorem TX.dd {v:V} {d:Dt} (h:TX H v d):DD H v d:=by
 induction h with
 | str h=>exact .str h
 | tup e hl hn _ ih=>exact .tup e hl hn ih
theorem wW {x:V} {d:Dt} (e:H a=some (.tup [x])) (h:TX H x d):TX H (.ref a) (.tup [d]):=.tup e rfl (by simp) fun i h1 h2=>by
 match i,h1 with
 | 0,_=>exact h
theorem g9 {x y:V} {d d':Dt} (e:H a=some (.tup [x,y])) (h:TX H x d) (h':TX H y d'):TX H (.ref a) (.tup [d,d']):=.tup e rfl (by simp) fun i h1 h2=>by
 match i,h1 with
 | 0,_=>exact h
 | 1,_=>exact h'
theorem w6 {x y z:V} {d d' Bl:Dt} (e:H a=some (.tup [x,y,z])) (h:TX H x d) (h':TX H y d') (yb:TX H z Bl):TX H (.ref a) (.tup [d,d',Bl]):=.tup e rfl (by simp) fun i h1 h2=>by
 match i,h1 with
 | 0,_=>exact h
 | 1,_=>exact h'
 | 2,_=>exact yb
theorem gQ (h:isName z=true):z.length<=8:=by
 unfold isName at h
 simp only [Bool.and_eq_true,decide_eq_true_eq] at h
 exact h.1.1.2
theorem fU (h:isName z=true):TX H (.str z) (.str z):=.str (by have:=gQ h;omega)
theorem lO (h:z.length<=100):TX H (.str z) (.str z):=.str (by omega)
section
variable {P:Option Str->Prop}
structure Ah (H:Hp) (ns:List Str) (xs:List V) (ps:List (Str×Str)):Prop where
 len:xs.length=ps.length
 at_:∀ i (h:i < xs.length) (h':i < ps.length),∃ c,xs[i]=.ref c/\H c=some (.tup [.str ps[i].1,.str ps[i].2])
 nm:∀ p∈ps,isName p.1=true/\isName p.2=true/\p.2∈ns
 Cq:rising (ps.map (·.1))=true
end
theorem pQ {nx:Str->Option Str} {ρ:Str->Nat} {S:Str->Prop} (hS:∀ x y,S x->nx x=some y->S y/\ρ y < ρ x):∀ n x,S x->ρ x < n->jb nx n x=true:=by
 intro n
 induction n with
 | zero=>intro x _ h;omega
 | succ n ih=>
  intro x hx h
  rw [jb]
  cases e:nx x with
  | none=>rfl
  | some y=>
   obtain ⟨h1,h2⟩:=hS x y hx e
   exact ih y h1 (by omega)
theorem mU {nx:Str->Option Str} {S:Str->Prop} (hS:∀ x,S x->∃ y,nx x=some y/\S y):∀ n x,S x->jb nx n x=false:=by
 intro n
 induction n with
 | zero=>intro x _;rfl
 | succ n ih=>
  intro x hx
  obtain ⟨y,e,hy⟩:=hS x hx
  rw [jb,e]
  exact ih y hy
theorem rY {ds:List Dt} {ρ:Str->Nat} (l1:1<=ds.length) (l2:ds.length<=200) (h1:ds.all gj=true) (nd:((bg ds).map (·.1)).Nodup) (h2:((bg ds).all fun r=>(dg r.2).all fun n=>decide (n∈(bg ds).map (·.1)))=true)
  (h3:∀ n∈(bg ds).map (·.1),ρ n < ds.length/\∀ y,ja (bg ds) n=some y->y∈(bg ds).map (·.1)/\ρ y < ρ n):cf (.tup ds)=true:=by
 simp only [cf]
 rw [h1,h2,Qv l1,Qv l2,Qv nd]
 simp only [Bool.true_and]
 rw [QF]
 intro n hn
 exact pQ (S:=fun n=>n∈(bg ds).map (·.1)) (fun x y hx e=>(h3 x hx).2 y e) _ n hn (h3 n hn).1
theorem t9 {ds:List Dt} (l:200 < ds.length):cf (.tup ds)=false:=by
 simp only [cf]
 rw [Qw (show ¬ds.length<=200 by omega)]
 simp
theorem toList_inj {a b:Str} (h:a.cps.toList=b.cps.toList):a=b:=by
 cases a;cases b
 simp at h
 rw [h]
theorem oR {a b c:Str} (h1:l_ a b=true) (h2:l_ b c=true):l_ a c=true:=by
 unfold l_ at*
 exact Qv (List.lt_trans (Qt h1) (Qt h2))
theorem iE:∀ {ws:List Str},ws.Pairwise (fun a b=>l_ a b=true)->rising ws=true
 | [],_=>rfl
 | [_],_=>rfl
 | a::b::r,h=>by
  rw [List.pairwise_cons] at h
  rw [rising,h.1 b List.mem_cons_self,iE h.2];rfl
theorem h9:∀ {ss:List Str},sortedS ss=true->ss.Nodup->ss.Pairwise (fun a b=>l_ a b=true)
 | [],_,_=>List.Pairwise.nil
 | [a],_,_=>List.pairwise_singleton _ _
 | a::b::r,h,nd=>by
  have h':sortedS (b::r)=true/\ltCps b.cps.toList a.cps.toList=false:=by
   have:(!ltCps b.cps.toList a.cps.toList&&risingS b r)=true:=h
   rw [Bool.and_eq_true,Bool.not_eq_true'] at this
   exact ⟨this.2,this.1⟩
  rw [List.nodup_cons] at nd
  have ih:=h9 h'.1 nd.2
  have oh:l_ a b=true:=by
   have h2:=h'.2
   rw [PyProof.Rows.ltCps_eq] at h2
   have h3:=Qu h2
   refine Qv (Classical.byContradiction fun h4=>?_)
   have:a=b:=toList_inj (List.le_antisymm (List.not_lt.mp h3) (List.not_lt.mp h4))
   exact nd.1 (by rw [this];exact List.mem_cons_self)
  rw [List.pairwise_cons] at ih
  refine List.pairwise_cons.mpr ⟨fun c hc=>?_,List.pairwise_cons.mpr ih⟩
  rcases Qp.mp hc with rfl | hc
  ·exact oh
  ·exact oR oh (ih.1 c hc)
def D7:V->Str
 | .str z=>z
 | _=>""
theorem zY {xs:List V} {rs:List (Str×V)} (q2:gi H xs (ao rs)) (hn:∀ r∈rs,isName r.1=true) (q4:∀ r∈rs,∃ y,r.2=.str y/\y∈ns/\isName y=true) (hr:rising (rs.map (·.1))=true):Ah H ns xs (rs.map fun q=>(q.1,D7 q.2)):=by
 have hl:xs.length=rs.length:=by have:=q2.1;simpa using this
 refine ⟨by simp;omega,fun i h1 h2=>?_,fun q hq=>?_,?_⟩
 ·have h3:i < rs.length:=by omega
  obtain ⟨c',e1,e2⟩:=q2.2 i (by simpa using h3)
  rw [Qa h1] at e1
  refine ⟨c',QD e1,?_⟩
  obtain ⟨y,ey,_⟩:=q4 _ (Qj h3)
  simp only [Qr]
  rw [ey]
  have:H c'=some (.tup [.str rs[i].1,rs[i].2]):=by simpa [ao,kV] using e2
  rw [ey] at this
  exact this
 ·obtain ⟨q',Ai,rfl⟩:=List.mem_map.mp hq
  obtain ⟨y,ey,my,ny⟩:=q4 q' Ai
  refine ⟨hn q' Ai,?_,?_⟩
  ·show isName (D7 q'.2)=true
   rw [ey];exact ny
  ·show D7 q'.2∈ns
   rw [ey];exact my
 ·rw [Qn];exact hr
theorem Ah.tk {xs:List V} {ps:List (Str×Str)} (h:Ah H ns xs ps) (s:Tk H H'):Ah H' ns xs ps:=⟨h.len,fun i a b=>let ⟨c,h1,h2⟩:=h.at_ i a b;⟨c,h1,s _ _ h2⟩,h.nm,h.Cq⟩
theorem sG {xs:List V} {rs:List (Str×V)} (q2:gi H xs (ao rs)) {x:V} (hx:x∈xs):∃ b r,r∈rs/\x=.ref b/\H b=some (.tup [.str r.1,r.2]):=by
 obtain ⟨i,hi,rfl⟩:=Qi hx
 have hl:xs.length=rs.length:=by have:=q2.1;simpa using this
 have h3:i < rs.length:=by omega
 obtain ⟨c',e1,e2⟩:=q2.2 i (by simpa using h3)
 rw [Qa hi] at e1
 exact ⟨c',rs[i],Qj h3,QD e1,by simpa [ao,kV] using e2⟩
theorem kY:∀ (tk:Nat) (xs:List Str),aq (xs.map V.str) (strsFrom tk xs)
 | _,[]=>.nil
 | tk,x::r=>.cons ⟨tk,rfl⟩ (kY (tk+1) r)
def Gv:V->List V->Hp->VK->Prop:=fun x vs H Q=>match x,vs with
 | .str z,[.str y]=>y.length=1/\z.length<=1000000/\∀ D,H D=none->Q (.ref D) (upd H D (.lst ((Txt.split z y).map V.str)))
 | _,_=>False
theorem nQ:u_ X "str.split" Gv:=by
 intro pins s σ H x vs v us Q I rx rv h
 unfold Gv at h
 split at h
 ·next z y=>
  obtain ⟨hy,hz,q⟩:=h
  obtain ⟨t,rfl⟩:=(show ∃ t,v=Value.str z t from rx)
  obtain ⟨u,rfl,ru⟩:=rv.one
  obtain ⟨t',rfl⟩:=(show ∃ t,u=Value.str y t from ru)
  have hsz:sizeLine=16777216:=QK
  have Gw:(y.length==0)=false:=by rw [hy];rfl
  have hw:=split_weight z y (by omega)
  have hf:H s.heap.objs.size=none:=I.hok.fresh (Qy _)
  have fin:∀ (us:List Value) (tk:Nat),aq ((Txt.split z y).map V.str) us->EP X pins σ Q (.ref s.heap.objs.size) {s with heap:=s.heap.push {cls:=.type "list",data:=.seq us.toArray},toks:=tk}:=fun us tk rv=>by
   refine ⟨.ref s.heap.objs.size,_,I.laid (t':=tk) (o:=.lst ((Txt.split z y).map V.str)) (fun b o e=>Qc _ e) (Qy _) ⟨by rw [Ql];omega,us,0,rv,Qd _ rfl⟩,rfl,q _ hf⟩
  cases h1:(decide (z.length < y.length)||decide (Builtin.Str.strKind z < Builtin.Str.strKind y))
  ·cases h2:(Builtin.Str.occurrences z y 0 z.length (z.length+1)).isEmpty
   ·have es:Txt.split z y=Builtin.Str.partsBetween z (Builtin.Str.occurrences z y 0 z.length (z.length+1)) y.length:=(if_neg (ne_true_of_eq_false h1)).trans (if_neg (ne_true_of_eq_false h2))
    refine call_meets F.slot_str_split (typeIs_str _ _ _) F.entry_str_split (F.args_str_split_2 _ _) (meets_str_split_sep z y t t' h1 Gw h2 (by omega) (by rw [<- es];omega)) ?_
    rw [<- es]
    exact fin _ _ (kY _ _)
   ·have es:Txt.split z y=[z]:=(if_neg (ne_true_of_eq_false h1)).trans (if_pos h2)
    exact call_meets F.slot_str_split (typeIs_str _ _ _) F.entry_str_split (F.args_str_split_2 _ _) (meets_str_split_not_found z y t t' h1 Gw h2) (fin [.str z t] s.toks (by rw [es];exact .cons ⟨t,rfl⟩ .nil))
  ·have es:Txt.split z y=[z]:=if_pos h1
   exact call_meets F.slot_str_split (typeIs_str _ _ _) F.entry_str_split (F.args_str_split_2 _ _) (meets_str_split_cannot_occur z y t t' h1) (fin [.str z t] s.toks (by rw [es];exact .cons ⟨t,rfl⟩ .nil))
 ·exact h.elim
theorem dB (a b:Str):(a++b).cps.toList=a.cps.toList++b.cps.toList:=by
 show (a.cps++b.cps).toList=_
 simp
theorem uO {c:Nat}:∀ {a b x y:List Nat},c ∉ a->c ∉ b->a++c::x=b++c::y->a=b/\x=y
 | [],[],_,_,_,_,h=>⟨rfl,by simpa using h⟩
 | [],d::b,_,_,_,h2,h=>by
  injection h with h3 h4
  exact (h2 (by rw [h3];exact List.mem_cons_self)).elim
 | d::a,[],_,_,h1,_,h=>by
  injection h with h3 h4
  exact (h1 (by rw [<- h3];exact List.mem_cons_self)).elim
 | d::a,e::b,_,_,h1,h2,h=>by
  injection h with h3 h4
  obtain ⟨h5,h6⟩:=uO (fun z=>h1 (Qh _ z)) (fun z=>h2 (Qh _ z)) h4
  exact ⟨by rw [h3,h5],h6⟩
theorem dC (sep a b:Str) (r:List Str):Str.join sep (a::b::r)=a++sep++Str.join sep (b::r):=rfl
theorem hX (sep a:Str):Str.join sep [a]=a:=rfl
theorem nZ {c:Nat}:∀ {ps ls:List Str},ps≠[]->ls≠[]->(∀ p∈ps,c ∉ p.cps.toList)->(∀ p∈ls,c ∉ p.cps.toList)->Str.join ⟨#[c]⟩ ps=Str.join ⟨#[c]⟩ ls->ps=ls
 | [],_,h,_,_,_,_=>(h rfl).elim
 | _,[],_,h,_,_,_=>(h rfl).elim
 | [a],[b],_,_,_,_,h=>by rw [hX,hX] at h;rw [h]
 | [a],b::b'::r,_,_,h1,_,h=>by
  rw [hX,dC] at h
  have:=h1 a List.mem_cons_self
  rw [h,dB,dB] at this
  exact (this (List.mem_append_left _ (List.mem_append_right _ (by simp)))).elim
 | a::a'::r,[b],_,_,_,h2,h=>by
  rw [hX,dC] at h
  have:=h2 b List.mem_cons_self
  rw [<- h,dB,dB] at this
  exact (this (List.mem_append_left _ (List.mem_append_right _ (by simp)))).elim
 | a::a'::r,b::b'::r',_,_,h1,h2,h=>by
  rw [dC,dC] at h
  have e:=congrArg (fun z:Str=>z.cps.toList) h
  simp only [dB,List.append_assoc] at e
  obtain ⟨e1,e2⟩:=uO (x:=(Str.join ⟨#[c]⟩ (a'::r)).cps.toList) (y:=(Str.join ⟨#[c]⟩ (b'::r')).cps.toList) (h1 a List.mem_cons_self) (h2 b List.mem_cons_self) (by simpa using e)
  have:=nZ (ps:=a'::r) (ls:=b'::r') (by simp) (by simp) (fun p hp=>h1 p (Qh _ hp)) (fun p hp=>h2 p (Qh _ hp)) (toList_inj e2)
  rw [toList_inj e1,this]
theorem vN (z:Str) (c:Nat):Txt.split z ⟨#[c]⟩≠[]:=by
 intro e
 have h:=StrLaws.join_split z ⟨#[c]⟩
 rw [e] at h
 have hz:z.length=0:=by rw [<- h];rfl
 have:Txt.split z ⟨#[c]⟩=[z]:=if_pos (by rw [hz];rfl)
 rw [this] at e
 cases e
theorem jL {ls:List Str} (h0:ls≠[]) (h:∀ p∈ls,c ∉ p.cps.toList):Txt.split (Txt.join ⟨#[c]⟩ ls) ⟨#[c]⟩=ls:=by
 refine nZ (vN _ c) h0 (StrLaws.split_free _ c) h ?_
 rw [StrLaws.join_split]
 exact StrLaws.glued_eq_join _ _
theorem sJ {x:V} {xs:List V} {Q:List Value->Shared->Prop} (hc:X.calm=true) (I:Inv X pins σ H s) (hq:ae X.K H a (x::xs))
  (h:∀ u D s',RelV x u->H D=none->Inv X pins σ (upd H D (.lst xs)) s'->Q [u,.ref D] s'):wpAny (model X.prog X.w) X.A (unpackItems (.ref a) 2 (some 1)) Q E s:=by
 obtain ⟨its,rv,pl,hz⟩:=I.list hq
 have hl:=pl.isList
 cases rv with
 | cons ru rr=>
  rename_i u us
  have hh:X.A.handled=none:=I.ok.hd hc
  have bc:a≠s.heap.objs.size:=by obtain ⟨o,ho,_⟩:=hl;exact Nat.ne_of_lt (Qz ho)
  have dw:=rr.length
  have oq:us.length+1<=sizeLine:=by simp at hz;omega
  unfold unpackItems
  refine QS ?_
  unfold notIterableAtAll
  refine QS (wpAny_specialOf hl.typeIs slot_list_iter.lookup ?_)
  refine QT ?_
  simp only [Bool.false_eq_true,if_false]
  refine QS (wpAny_holding (wpAny_pyIter_list hl ?_))
  refine QS (wpAny_holding (PySem.W.kun_draw bc 1 0 _ _ ⟨_,Qd _ rfl,rfl,rfl⟩ (hl.push _) (by simp) fun h₁ yc hs₁=>?_))
  have Bf:h₁.IsList a (u::us).toArray:=(hl.push _).extBut hs₁.extBut bc
  rw [Nat.zero_add] at yc
  have DX:=yc
  obtain ⟨oi,DY,_⟩:=DX
  have DZ:=Bf
  obtain ⟨ol,Cp,_⟩:=DZ
  show wpAny _ _ (if ([u]:List Value).length < 1 then _ else _) _ _ _
  rw [if_neg (by simp)]
  refine QS (wpAny_holding (PySem.W.kun_collect (s:={s with heap:=h₁}) (T:="list_iterator") (.inr (.inr (.inl rfl))) (Walks.list (A:=X.A.in1) (by simp [hh]) s.heap.objs.size a bc (u::us).toArray) (fun j u st=>st.1.typeIs) (k:=1) (by simp) ⟨yc,Bf⟩ (Qz DY) (Qz Cp) (fun h₂ tk hk=>?_) (by simp;omega)))
  show wpAny _ _ (if us.length < 2 - 1 - 1 then _ else _) _ _ _
  rw [if_neg (by simp)]
  show wpAny _ _ (newList (us.take us.length) >>=fun d=>pure ([u]++[d]++us.drop us.length)) _ _ _
  rw [Qo,List.drop_length]
  have I2:Inv X pins σ H {s with heap:=h₂,toks:=tk}:=I.kept (t':=tk) fun b o e=>hk b o (Nat.ne_of_lt (Qz e)) (hs₁.extBut b o (Nat.ne_of_lt (Qz e)) (Qc _ e))
  refine QS (wpAny_newObj_type (QT ?_) (by show us.toArray.size<=_;simp;omega))
  refine h u h₂.objs.size _ ru (I2.hok.fresh (Qy _)) (I2.laid (t':=tk) (o:=.lst xs) (fun b o e=>Qc _ e) (Qy _) ?_)
  exact ⟨by simp at hz;omega,us,0,rr,Qd _ rfl⟩
section
variable {e1 e2:Expr} {p pos:Pos} {k:Nat} {g1 g2:TG}
def LF (K:QZ) (g1 g2:TG):TG:=fun v σ H Q=>∃ a x xs,v=.ref a/\ae K H a (x::xs)/\∀ D,H D=none->g1 x σ (upd H D (.lst xs)) fun σ1 H1=>g2 (.ref D) σ1 H1 Q
theorem rX (K:QZ) (hc:X.calm=true) (h1:SG X e1 g1) (h2:SG X e2 g2) (hK:X.K=K:=by rfl) (he:assignEach [e1,.Starred e2 p] X.env=[(false,assign e1 X.env),(true,assign e2 X.env)]:=by rfl):SG X (.Tuple [e1,.Starred e2 p] k pos) (LF K g1 g2):=by
 subst hK
 constructor
 intro pins s σ H v u Q I r h
 obtain ⟨a,x,xs,rfl,hq,h⟩:=h
 cases r
 rw [assign_Tuple]
 refine QS (wpAny_standAt ?_)
 unfold unpack
 rw [he]
 refine QS (wpAny_holding (sJ hc I hq fun u D s' ru hD I'=>?_))
 show wpAny _ _ (assignInOrder [assign e1 X.env,assign e2 X.env] [u,.ref D]) _ _ _
 refine assignInOrder_cons (ai (h1.h pins s' σ _ _ _ _ I' ru (h D hD)) ?_)
 rintro _ s1 ⟨σ1,H1,I1,q1⟩
 refine assignInOrder_cons (ai (h2.h pins s1 σ1 H1 (.ref D) (.ref D) _ I1 rfl q1) ?_)
 rintro _ s2 ⟨σ2,H2,I2,q2⟩
 exact assignInOrder_nil ⟨σ2,H2,I2,q2⟩
end
section
variable {t1 i1 t2 i2 elt:Expr} {pos:Pos} {wi LG:TI} {g g2:TG}
end
section
variable {st:Expr} {ts:TE} {p2 pos:Pos}
end
inductive Hd where
 | one (s:Str)
 | as (y:Str)
 | way (x y:Str)
 | prs (s:Str) (ps:List (Str×Str))
def Hd.nx:Hd->Option Str
 | .as y=>some y
 | _=>none
def Hd.words:Hd->List Str
 | .one s=>[s]
 | .as y=>[y]
 | .way x y=>["way",x,y]
 | .prs s ps=>s::ps.flatMap fun p=>[p.1,p.2]
def Hd.ok (ns:List Str):Hd->Prop
 | .one s=>s="all"\/s="none"
 | .as y=>isName y=true/\y∈ns
 | .way x y=>isName x=true/\isName y=true/\x∈ns/\y∈ns
 | .prs s ps=>(s="box"\/s="pick")/\(∀ p∈ps,isName p.1=true/\isName p.2=true/\p.2∈ns)/\rising (ps.map (·.1))=true/\ps.length<=10
structure Bm (H:Hp) (xs:List V) (ps:List (Str×Str)):Prop where
 len:xs.length=ps.length
 at_:∀ i (h:i < xs.length) (h':i < ps.length),∃ c,xs[i]=.ref c/\H c=some (.tup [.str ps[i].1,.str ps[i].2])
theorem Bm.tk {xs:List V} {ps:List (Str×Str)} (h:Bm H xs ps) (s:Tk H H'):Bm H' xs ps:=⟨h.len,fun i a b=>let ⟨c,h1,h2⟩:=h.at_ i a b;⟨c,h1,s _ _ h2⟩⟩
inductive HV (H:Hp):V->Hd->Prop
 | one {b:Addr} {s:Str}:H b=some (.tup [.str s])->HV H (.ref b) (.one s)
 | as {b:Addr} {y:Str}:H b=some (.tup [.str "as",.str y])->HV H (.ref b) (.as y)
 | way {b:Addr} {x y:Str}:H b=some (.tup [.str "way",.str x,.str y])->HV H (.ref b) (.way x y)
 | prs {b c:Addr} {s:Str} {xs:List V} {ps:List (Str×Str)}:H b=some (.tup [.str s,.ref c])->H c=some (.tup xs)->Bm H xs ps->HV H (.ref b) (.prs s ps)
theorem HV.tk {H H':Hp} (s:Tk H H') {v:V} {h:Hd} (q:HV H v h):HV H' v h:=by
 cases q with
 | one e=>exact .one (s _ _ e)
 | as e=>exact .as (s _ _ e)
 | way e=>exact .way (s _ _ e)
 | prs e e' p=>exact .prs (s _ _ e) (s _ _ e') (p.tk s)
section
variable {v:V} {P:Option Str->Prop}
end
def Hd.dt:Hd->Dt
 | .one s=>.tup [.str s]
 | .as y=>.tup [.str "as",.str y]
 | .way x y=>.tup [.str "way",.str x,.str y]
 | .prs s ps=>.tup [.str s,.tup (ps.map fun p=>.tup [.str p.1,.str p.2])]
def Hd.py:Hd->PyData
 | .one s=>.tuple [.str s]
 | .as y=>.tuple [.str "as",.str y]
 | .way x y=>.tuple [.str "way",.str x,.str y]
 | .prs s ps=>.tuple [.str s,.tuple (ps.map fun p=>.tuple [.str p.1,.str p.2])]
theorem HV.tx {v:V} {h:Hd} (q:HV H v h) (ok:h.ok ns):TX H v h.dt:=by
 cases q with
 | one e=>exact wW e (lO (by rcases ok with rfl | rfl<;>decide))
 | as e=>exact g9 e (lO (by decide)) (fU ok.1)
 | way e=>exact w6 e (lO (by decide)) (fU ok.1) (fU ok.2.1)
 | @prs b c s xs ps e e' p=>
  have Cr:=ok.2.2.2
  have hl:=p.len
  refine g9 e (lO (by rcases ok.1 with rfl | rfl<;>decide)) (.tup e' (by simp [p.len]) (by omega) fun i h1 h2=>?_)
  have h3:i < ps.length:=by simpa using h2
  obtain ⟨c',q1,q2⟩:=p.at_ i h1 h3
  obtain ⟨m1,m2,_⟩:=ok.2.1 _ (Qj h3)
  rw [q1]
  simp only [Qr]
  exact g9 q2 (fU m1) (fU m2)
theorem wX {x:V} {d:PyData} (e:H a=some (.tup [x])) (h:fb H x d):fb H (.ref a) (.tuple [d]):=.tup e rfl fun i h1 h2=>by
 match i,h1 with
 | 0,_=>exact h
theorem jB {x y:V} {d d':PyData} (e:H a=some (.tup [x,y])) (h:fb H x d) (h':fb H y d'):fb H (.ref a) (.tuple [d,d']):=.tup e rfl fun i h1 h2=>by
 match i,h1 with
 | 0,_=>exact h
 | 1,_=>exact h'
theorem xR {x y z:V} {d d' Bl:PyData} (e:H a=some (.tup [x,y,z])) (h:fb H x d) (h':fb H y d') (yb:fb H z Bl):fb H (.ref a) (.tuple [d,d',Bl]):=.tup e rfl fun i h1 h2=>by
 match i,h1 with
 | 0,_=>exact h
 | 1,_=>exact h'
 | 2,_=>exact yb
theorem HV.D8 {v:V} {h:Hd} (q:HV H v h):fb H v h.py:=by
 cases q with
 | one e=>exact wX e (.str _)
 | as e=>exact jB e (.str _) (.str _)
 | way e=>exact xR e (.str _) (.str _) (.str _)
 | @prs b c s xs ps e e' p=>
  refine jB e (.str _) (.tup e' (by simp [p.len]) fun i h1 h2=>?_)
  have h3:i < ps.length:=by simpa using h2
  obtain ⟨c',q1,q2⟩:=p.at_ i h1 h3
  rw [q1]
  simp only [Qr]
  exact jB q2 (.str _) (.str _)
abbrev az:=Str×Hd
structure RV (H:Hp) (xs:List V) (rows:List az):Prop where
 len:xs.length=rows.length
 at_:∀ i (h:i < xs.length) (h':i < rows.length),∃ b v,xs[i]=.ref b/\H b=some (.tup [.str rows[i].1,v])/\HV H v rows[i].2
theorem RV.tk {H H':Hp} {xs:List V} {rows:List az} (h:RV H xs rows) (s:Tk H H'):RV H' xs rows:=⟨h.len,fun i a b=>let ⟨c,v,h1,h2,h3⟩:=h.at_ i a b;⟨c,v,h1,s _ _ h2,h3.tk s⟩⟩
def dj (r:az):Dt:=.tup [.str r.1,r.2.dt]
def Bo (r:az):PyData:=.tuple [.str r.1,r.2.py]
def ow (ns:List Str) (rows:List az):Prop:=∀ r∈rows,isName r.1=true/\r.2.ok ns
theorem RV.tx {H:Hp} {a:Addr} {xs:List V} {rows:List az} {ns:List Str} (h:RV H xs rows) (e:H a=some (.tup xs)) (hn:rows.length<=1000) (ok:ow ns rows):TX H (.ref a) (.tup (rows.map dj)):=by
 refine .tup e (by simp [h.len]) (by rw [h.len];exact hn) fun i h1 h2=>?_
 have h3:i < rows.length:=by simpa using h2
 obtain ⟨b,v,q1,q2,q3⟩:=h.at_ i h1 h3
 obtain ⟨m1,m2⟩:=ok _ (Qj h3)
 rw [q1]
 simp only [Qr]
 exact g9 q2 (fU m1) (q3.tx m2)
theorem RV.D8 {H:Hp} {a:Addr} {xs:List V} {rows:List az} (h:RV H xs rows) (e:H a=some (.tup xs)):fb H (.ref a) (.tuple (rows.map Bo)):=by
 refine .tup e (by simp [h.len]) fun i h1 h2=>?_
 have h3:i < rows.length:=by simpa using h2
 obtain ⟨b,v,q1,q2,q3⟩:=h.at_ i h1 h3
 rw [q1]
 simp only [Qr]
 exact jB q2 (.str _) q3.D8
def eu (r:az):Str:=Txt.join " " (r.1::"="::r.2.words)
theorem tG (h:isName z=true):32 ∉ z.cps.toList/\10 ∉ z.cps.toList:=by
 unfold isName at h
 simp only [Bool.and_eq_true] at h
 have ha:=QF.mp h.2
 have e1:tq 32=false:=by decide+kernel
 have e2:tq 10=false:=by decide+kernel
 exact ⟨(fun z=>by have:=ha 32 z;rw [e1] at this;cases this),(fun z=>by have:=ha 10 z;rw [e2] at this;cases this)⟩
theorem dL {r:az} (h1:isName r.1=true) (h2:r.2.ok ns):∀ w∈r.1::"="::r.2.words,(32 ∉ w.cps.toList/\10 ∉ w.cps.toList)/\w.length<=8:=by
 have nm:∀ z:Str,isName z=true->(32 ∉ z.cps.toList/\10 ∉ z.cps.toList)/\z.length<=8:=fun z hz=>⟨tG hz,gQ hz⟩
 intro w hw
 rcases Qp.mp hw with rfl | hw
 ·exact nm _ h1
 rcases Qp.mp hw with rfl | hw
 ·decide+kernel
 obtain ⟨n,hd⟩:=r
 cases hd with
 | one s=>
  rw [List.mem_singleton.mp hw]
  rcases h2 with rfl | rfl<;>decide+kernel
 | as y=>rw [List.mem_singleton.mp hw];exact nm _ h2.1
 | way x y=>
  simp only [Hd.words,Qp,QA,or_false] at hw
  rcases hw with rfl | rfl | rfl
  ·decide+kernel
  ·exact nm _ h2.1
  ·exact nm _ h2.2.1
 | prs s ps=>
  rcases Qp.mp hw with rfl | hw
  ·rcases h2.1 with rfl | rfl<;>decide+kernel
  ·obtain ⟨p,hp,hw⟩:=List.mem_flatMap.mp hw
   obtain ⟨m1,m2,_⟩:=h2.2.1 p hp
   simp only [Qp,QA,or_false] at hw
   rcases hw with rfl | rfl
   ·exact nm _ m1
   ·exact nm _ m2
theorem iQ {h:Hd} (ok:h.ok ns):h.words.length<=21:=by
 cases h with
 | one s=>show 1<=21;omega
 | as y=>show 1<=21;omega
 | way x y=>show 3<=21;omega
 | prs s ps=>
  have Cr:=ok.2.2.2
  have:(ps.flatMap fun p=>[p.1,p.2]).length=2*ps.length:=by
   clear ok Cr
   induction ps with
   | nil=>rfl
   | cons p ps ih=>rw [List.flatMap_cons,Qk,ih];simp;omega
  show (ps.flatMap fun p=>[p.1,p.2]).length+1<=21
  omega
theorem kF {r:az} (h1:isName r.1=true) (h2:r.2.ok ns):Txt.split (eu r) " "=r.1::"="::r.2.words:=
 jL (c:=32) (by simp) fun w hw=>(dL h1 h2 w hw).1.1
theorem rS {r:az} (h1:isName r.1=true) (h2:r.2.ok ns):10 ∉ (eu r).cps.toList:=fun hc=>by
 rcases mY hc with hc | ⟨y,hy,hc⟩
 ·exact absurd hc (by decide+kernel)
 ·exact (dL h1 h2 y hy).1.2 hc
theorem m8 {ys:List Str} {m:Nat} (h:∀ y∈ys,y.length<=m):(ys.map (·.length)).sum<=ys.length*m:=by
 induction ys with
 | nil=>simp
 | cons y ys ih=>
  have h1:=h y List.mem_cons_self
  have h2:=ih fun z hz=>h z (Qh _ hz)
  simp only [List.map_cons,List.sum_cons,List.length_cons,Nat.add_mul,Nat.one_mul]
  omega
theorem nV {sep:Str} {ys:List Str} {m:Nat} (h:∀ y∈ys,y.length<=m):(Txt.join sep ys).length<=ys.length*(m+sep.length):=by
 have e:Txt.join sep ys=Str.join sep ys:=StrLaws.glued_eq_join _ _
 rw [e]
 clear e
 induction ys with
 | nil=>show 0<=_;omega
 | cons a r ih=>
  have h1:=h a List.mem_cons_self
  cases r with
  | nil=>
   show a.length<=_
   simp only [List.length_cons,List.length_nil,Nat.zero_add,Nat.one_mul]
   omega
  | cons b r=>
   have h2:=ih fun z hz=>h z (Qh _ hz)
   rw [dC,Str.length_append,Str.length_append]
   simp only [List.length_cons,Nat.add_mul,Nat.one_mul] at h2 ⊢
   omega
theorem nF {r:az} (h1:isName r.1=true) (h2:r.2.ok ns):(eu r).length<=207:=by
 have:=nV (sep:=" ") (m:=8) fun w hw=>(dL h1 h2 w hw).2
 have h3:=iQ h2
 have h4:(r.1::"="::r.2.words).length<=23:=by simp only [List.length_cons];omega
 have h5:(" ":Str).length=1:=rfl
 unfold eu
 rw [h5] at this
 have:=Nat.mul_le_mul_right (8+1) h4
 omega
theorem RV.mem {xs:List V} {rows:List az} (h:RV H xs rows) (hi:i < rows.length):∃ b v,xs.getD i .af=.ref b/\H b=some (.tup [.str rows[i].1,v])/\HV H v rows[i].2:=by
 have hl:=h.len
 obtain ⟨b,v,q1,q2,q3⟩:=h.at_ i (by omega) hi
 exact ⟨b,v,by rw [Qb,Qa (by omega),q1];rfl,q2,q3⟩
theorem rQ (xs:List V) (a b:Nat) (ha:a<=xs.length) (hb:b<=xs.length):dz xs (some (a:Int)) (some (b:Int))=(xs.drop a).take (b - a):=by
 unfold dz
 rw [HT.gA,HT.gA,Nat.min_eq_left ha,Nat.min_eq_left hb]
theorem vU (ps:List (Str×Str)):(ps.flatMap fun p=>[p.1,p.2]).length=2*ps.length:=by
 induction ps with
 | nil=>rfl
 | cons p ps ih=>rw [List.flatMap_cons,Qk,ih];simp;omega
theorem tW {K : QZ} {a : Addr} {xs : List V} {g : TG} {tb : TS} {D : Ends} {σ : St} {H : Hp} (h : H a = some (.lst xs) \/ H a = some (.tup xs)) (Pv : Nat -> St -> Hp -> Prop) (h0 : Pv 0 σ H) (hok : ∀ i τ H', i <= xs.length -> Pv i τ H' -> ∀ o, H a = some o -> H' a = some o)
    (hs : ∀ i σ H, i < xs.length -> Pv i σ H -> g (xs.getD i .af) σ H fun σ2 H2 => tb { D with nx := Pv (i + 1), ct := Pv (i + 1), bk := D.nx } σ2 H2) (hd : ∀ σ H, Pv xs.length σ H -> D.nx σ H) :
    ((∃ xs, ae K H a xs) /\ ∃ W : Nat -> Nat -> St -> Hp -> Prop, (∃ m, W 0 m σ H) /\ ∀ i m σ H, W i m σ H ->
      ((zx K a).stop i H /\ D.nx σ H) \/ ((zx K a).go i H /\ ∃ N : St -> Hp -> Prop, (∀ σ' H', N σ' H' -> ∃ m', m' < m /\ W (i + 1) m' σ' H') /\ ∀ x H', (zx K a).g_ i H x H' -> g x σ H' fun σ2 H2 => tb { D with nx := N, ct := N, bk := D.nx } σ2 H2)) \/
    ((∃ xs, aj K H a xs) /\ ∃ W : Nat -> Nat -> St -> Hp -> Prop, (∃ m, W 0 m σ H) /\ ∀ i m σ H, W i m σ H ->
      ((zy K a).stop i H /\ D.nx σ H) \/ ((zy K a).go i H /\ ∃ N : St -> Hp -> Prop, (∀ σ' H', N σ' H' -> ∃ m', m' < m /\ W (i + 1) m' σ' H') /\ ∀ x H', (zy K a).g_ i H x H' -> g x σ H' fun σ2 H2 => tb { D with nx := N, ct := N, bk := D.nx } σ2 H2)) := by
  rcases h with h | h
  · exact .inl ⟨⟨_, ae.of h⟩, eZ (cM xs) Pv h0 (fun i τ H' hi p => ae.of (hok i τ H' hi p _ h)) hs hd⟩
  · exact .inr ⟨⟨_, aj.of h⟩, eZ (cZ xs) Pv h0 (fun i τ H' hi p => aj.of (hok i τ H' hi p _ h)) hs hd⟩
def Hd.pre:Hd->List Str
 | .one s=>[s]
 | .as _=>[]
 | .way _ _=>["way"]
 | .prs s _=>[s]
theorem HV.shape {v:V} {h:Hd} (q:HV H v h):(∃ (c:Addr) (x0:V) (ys:List Str),v=.ref c/\H c=some (.tup (x0::ys.map V.str))/\h.words=h.pre++ys/\ys.length<=2)\/(∃ (c c':Addr) (z:Str) (xs:List V) (ps:List (Str×Str)),v=.ref c/\h=.prs z ps/\H c=some (.tup [.str z,.ref c'])/\H c'=some (.tup xs)/\Bm H xs ps):=by
 cases q with
 | @one c z e=>exact .inl ⟨c,.str z,[],rfl,e,rfl,by simp⟩
 | @as c y e=>exact .inl ⟨c,.str "as",[y],rfl,e,rfl,by simp⟩
 | @way c x y e=>exact .inl ⟨c,.str "way",[x,y],rfl,e,rfl,by simp⟩
 | @prs c c' z xs ps e e' p=>exact .inr ⟨c,c',z,xs,ps,rfl,rfl,e,e',p⟩
theorem yW (c:Nat) (h:97<=c/\c < 123):fq.cps.toList[c - 97]? =some c:=by
 have:∀ d:Fin 26,fq.cps.toList[d.val]? =some (97+d.val):=by decide+kernel
 have:=this ⟨c - 97,by omega⟩
 rw [this];congr 1;simp;omega
theorem uW (c:Nat) (h:97<=c/\c < 123):Builtin.Str.occurrences fq ⟨#[c]⟩ 0 fq.length 1=[c - 97]:=by
 have:∀ d:Fin 26,Builtin.Str.occurrences fq ⟨#[97+d.val]⟩ 0 fq.length 1=[d.val]:=by decide+kernel
 have:=this ⟨c - 97,by omega⟩
 simp only at this
 rw [show 97+(c - 97)=c by omega] at this
 exact this
section
variable {a b c:Expr} {p pos:Pos}
end
def Hd.Aj:Hd->List Str
 | .prs _ ps=>ps.map (·.1)
 | _=>[]
structure jl (H:Hp) (ns ws:List Str) (v:V) (P:Option Str->Prop):Prop where
 ex:∃ h,HV H v h/\h.ok ns/\P h.nx/\∀ z∈h.Aj,z∈ws
section
variable {v:V} {P:Option Str->Prop}
theorem jl.tk {H':Hp} (h:jl H ns ws v P) (s:Tk H H'):jl H' ns ws v P:=let ⟨d,h1,h2⟩:=h.ex;⟨d,h1.tk s,h2⟩
theorem jl.imp {P':Option Str->Prop} (h:jl H ns ws v P) (f:∀ o,P o->P' o):jl H ns ws v P':=let ⟨d,h1,h2,h3,h4⟩:=h.ex;⟨d,h1,h2,f _ h3,h4⟩
theorem zK (e:H b=some (.tup [.str "as",.str y])) (hy:isName y=true) (hm:y∈ns) (hP:P (some y)):jl H ns ws (.ref b) P:=⟨.as y,.as e,⟨hy,hm⟩,hP,(fun _ h=>nomatch h)⟩
theorem vE (e:H b=some (.tup [.str "none"])) (hP:P none):jl H ns ws (.ref b) P:=⟨.one "none",.one e,.inr rfl,hP,(fun _ h=>nomatch h)⟩
theorem qU (e:H b=some (.tup [.str "all"])) (hP:P none):jl H ns ws (.ref b) P:=⟨.one "all",.one e,.inl rfl,hP,(fun _ h=>nomatch h)⟩
theorem wQ (e:H b=some (.tup [.str "way",.str x,.str y])) (hx:isName x=true) (hy:isName y=true) (mx:x∈ns) (my:y∈ns) (hP:P none):jl H ns ws (.ref b) P:=⟨.way x y,.way e,⟨hx,hy,mx,my⟩,hP,(fun _ h=>nomatch h)⟩
theorem pH {s:Str} {c:Addr} {xs:List V} {ps:List (Str×Str)} (hs:s="box"\/s="pick") (e:H b=some (.tup [.str s,.ref c])) (ec:H c=some (.tup xs)) (hn:xs.length<=10) (h:Ah H ns xs ps) (hw:∀ q∈ps,q.1∈ws) (hP:P none):jl H ns ws (.ref b) P:=
 ⟨.prs s ps,.prs e ec ⟨h.len,h.at_⟩,⟨hs,h.nm,h.Cq,by rw [<- h.len];exact hn⟩,hP,fun z hz=>by obtain ⟨q,hq,rfl⟩:=List.mem_map.mp hz;exact hw q hq⟩
end
def yf (ns:List Str) (n:Str) (o:Option Str):Prop:=∀ y,o=some y->∃ (i j:Nat),i < j/\ns[i]? =some y/\ns[j]? =some n
structure mh (H:Hp) (ns ws:List Str) (rs:List (Str×V)):Prop where
 sub:∀ r∈rs,r.1∈ns
 hd:∀ r∈rs,jl H ns ws r.2 (yf ns r.1)
theorem mh.tk {H H':Hp} {ns ws:List Str} {rs:List (Str×V)} (h:mh H ns ws rs) (s:Tk H H'):mh H' ns ws rs:=⟨h.sub,fun r hr=>(h.hd r hr).tk s⟩
theorem mh.perm {rs Gx:List (Str×V)} (h:mh H ns ws rs) (p:∀ r∈Gx,r∈rs):mh H ns ws Gx:=⟨fun r hr=>h.sub r (p r hr),fun r hr=>h.hd r (p r hr)⟩
theorem mh.add {rs:List (Str×V)} (h:mh H ns ws rs) {n:Str} {v:V} (h1:n∈ns) (h2:jl H ns ws v (yf ns n)):mh H ns ws ((n,v)::rs):=by
 refine ⟨fun r hr=>?_,fun r hr=>?_⟩<;>rcases Qp.mp hr with rfl | hr
 ·exact h1
 ·exact h.sub r hr
 ·exact h2
 ·exact h.hd r hr
structure RT (H:Hp) (a:Addr) (xs:List V) (rows:List az) (ns ws:List Str):Prop where
 at_:H a=some (.tup xs)
 rv:RV H xs rows
 nm:(rows.map (·.1)).Perm ns
 nd:ns.Nodup
 ok:ow ns rows
 wd:∀ n∈ns,Wd n
 ah:∀ r∈rows,yf ns r.1 r.2.nx
 ww:∀ r∈rows,∀ z∈r.2.Aj,z∈ws
 pos:1<=ns.length
 few:ns.length<=14
section
variable {xs:List V} {rows:List az}
theorem RT.tk (h:RT H a xs rows ns ws) (s:Tk H H'):RT H' a xs rows ns ws:=⟨s _ _ h.at_,h.rv.tk s,h.nm,h.nd,h.ok,h.wd,h.ah,h.ww,h.pos,h.few⟩
theorem RT.rl (h:RT H a xs rows ns ws):rows.length=ns.length:=by have:=h.nm.length_eq;simpa using this
theorem RT.of {rs:List (Str×V)} (e:H a=some (.tup xs)) (ps:gi H xs (ao rs)) (nm:(rs.map (·.1)).Perm ns) (nd:ns.Nodup) (Gy:∀ n∈ns,isName n=true/\Wd n) (pos:1<=ns.length) (few:ns.length<=14) (g:mh H ns ws rs):∃ rows,RT H a xs rows ns ws:=by
 have hc:∀ i:Fin rs.length,∃ hd:Hd,HV H rs[i.val].2 hd/\hd.ok ns/\yf ns rs[i.val].1 hd.nx/\∀ z∈hd.Aj,z∈ws:=fun i=>(g.hd _ (Qj i.isLt)).ex
 obtain ⟨f,hf⟩:=Classical.axiomOfChoice hc
 have jm:xs.length=rs.length:=by have:=ps.1;simpa using this
 have en:(List.ofFn fun i:Fin rs.length=>((rs[i.val].1,f i):az)).map (·.1)=rs.map (·.1):=by
  apply List.ext_getElem
  ·simp
  ·intro i h1 h2;simp
 have mem:∀ r∈(List.ofFn fun i:Fin rs.length=>((rs[i.val].1,f i):az)),∃ i:Fin rs.length,r=(rs[i.val].1,f i):=fun r hr=>by
  obtain ⟨i,hi,rfl⟩:=Qi hr
  exact ⟨⟨i,by simpa using hi⟩,by simp⟩
 refine ⟨List.ofFn fun i=>(rs[i.val].1,f i),e,⟨by simp [jm],fun i h1 h2=>?_⟩,by rw [en];exact nm,nd,fun r hr=>?_,fun n hn=>(Gy n hn).2,fun r hr=>?_,fun r hr=>?_,pos,few⟩
 ·have h3:i < rs.length:=by omega
  obtain ⟨b,e1,e2⟩:=ps.2 i (by simpa using h3)
  rw [Qa h1] at e1
  refine ⟨b,rs[i].2,QD e1,?_,?_⟩
  ·simpa [ao,kV] using e2
  ·simpa using (hf ⟨i,h3⟩).1
 ·obtain ⟨i,rfl⟩:=mem r hr
  exact ⟨(Gy _ (g.sub _ (Qj i.isLt))).1,(hf i).2.1⟩
 ·obtain ⟨i,rfl⟩:=mem r hr
  exact (hf i).2.2.1
 ·obtain ⟨i,rfl⟩:=mem r hr
  exact (hf i).2.2.2
end
section
variable {xs ys:List V} {rows D9:List az} {OU:List Str} {f g:Str->Str}
end
theorem sX (c:Nat):tq c=decide (c∈fq.cps.toList):=StrLaws.found_one fq c
inductive DA (P:Addr->Prop) (H:Hp):Bool->V->PyData->Dt->Prop
 | str {m:Bool} {z:Str} (h:z.length<=100000):DA P H m (.str z) (.str z) (.str z)
 | af {m:Bool}:DA P H m .af .none .bx
 | bl {m:Bool} (b:Bool):DA P H m (.bl b) (.bool b) .bx
 | int {m:Bool} (i:Int):DA P H m (.int i) (.int i) .bx
 | tup {m:Bool} {a:Addr} {xs:List V} {ps:List PyData} {ds:List Dt}:P a->H a=some (.tup xs)->xs.length=ps.length->xs.length=ds.length->xs.length<=1000->(∀ i (h:i < xs.length) (h':i < ps.length) (yb:i < ds.length),DA P H m xs[i] ps[i] ds[i])->DA P H m (.ref a) (.tuple ps) (.tup ds)
 | lst {a:Addr} {xs:List V} {ps:List PyData} {ds:List Dt}:P a->H a=some (.lst xs)->xs.length=ps.length->xs.length=ds.length->(∀ i (h:i < xs.length) (h':i < ps.length) (yb:i < ds.length),DA P H true xs[i] ps[i] ds[i])->DA P H true (.ref a) (.list ps) .bx
 | LH {a:Addr}:P a->H a=some (.dK [])->DA P H false (.ref a) (.dict []) .bx
 | LI {a:Addr} {z:Str} {x:V} {p:PyData} {d:Dt}:P a->H a=some (.dK [(.inr z,x)])->DA P H false x p d->DA P H false (.ref a) (.dict [(.str z,p)]) .bx
theorem iM {h:Heap} {m:Bool}:∀ {xs:List V} {us:List Value} {ps:List PyData},aq xs us->xs.length=ps.length->(∀ i (a:i < xs.length) (b:i < ps.length) (u:Value),RelV xs[i] u->∃ as,Reads h u ps[i] as/\(m=true->ps[i].hasDict=false)/\(m=false->sysModules ∉ as))->∃ as,ReadsAll h us ps as/\(m=true->PyData.hasDictAll ps=false)/\(m=false->sysModules ∉ as)
 | [],_,[],.nil,_,_=>⟨[],.nil,(fun _=>by simp [PyData.hasDictAll]),(fun _=>by simp)⟩
 | x::xs,_,p::ps,.cons r rs,hl,q=>by
  obtain ⟨as,ra,a1,a2⟩:=q 0 (by simp) (by simp) _ r
  obtain ⟨bs,rb,b1,b2⟩:=iM rs (by simpa using hl) fun i a b u ru=>q (i+1) (by simpa using a) (by simpa using b) u ru
  refine ⟨as++bs,.cons ra rb,fun hm=>?_,fun hm=>?_⟩
  ·have h1:p.hasDict=false:=a1 hm
   simp [PyData.hasDictAll,h1,b1 hm]
  ·rw [List.mem_append]
   exact fun z=>z.elim (a2 hm) (b2 hm)
theorem DA.reads {PP:Addr->Prop} (ok:bh P w H h) {m:Bool} {v:V} {p:PyData} {d:Dt} (q:DA PP H m v p d):∀ u,RelV v u->∃ as,Reads h u p as/\(m=true->p.hasDict=false)/\(m=false->sysModules ∉ as):=by
 induction q with
 | @str m z _=>intro u r;obtain ⟨t,rfl⟩:=(show ∃ t,u=Value.str z t from r);exact ⟨[],.str z t,(fun _=>by simp [PyData.hasDict]),(fun _=>by simp)⟩
 | af=>intro u r;cases (show u=Value.none from r);exact ⟨[],.none,(fun _=>by simp [PyData.hasDict]),(fun _=>by simp)⟩
 | bl b=>intro u r;cases (show u=Value.bool b from r);exact ⟨[],.bool b,(fun _=>by simp [PyData.hasDict]),(fun _=>by simp)⟩
 | int i=>intro u r;obtain ⟨t,rfl⟩:=(show ∃ t,u=Value.int i t from r);exact ⟨[],.int i t,(fun _=>by simp [PyData.hasDict]),(fun _=>by simp)⟩
 | @tup m a xs ps ds _ e h1 h2 h3 _ ih=>
  intro u r
  cases (show u=Value.ref a from r)
  obtain ⟨_,its,rv,o,ho,hc,n,hd⟩:=(show a_ P w H h a (.tup xs) from ok a _ e)
  obtain ⟨as,ra,a1,a2⟩:=iM (m:=m) rv h1 fun i x y u ru=>ih i x y (by omega) u ru
  exact ⟨as,.tuple ho hc hd (by simpa using ra),(fun hm=>by simp [PyData.hasDict,a1 hm]),a2⟩
 | @lst a xs ps ds _ e h1 h2 _ ih=>
  intro u r
  cases (show u=Value.ref a from r)
  obtain ⟨_,its,n,rv,ho⟩:=(show a_ P w H h a (.lst xs) from ok a _ e)
  obtain ⟨as,ra,a1,a2⟩:=iM (m:=true) rv h1 fun i x y u ru=>ih i x y (by omega) u ru
  exact ⟨a::as,.list ho rfl rfl (by simpa using ra),(fun hm=>by simp [PyData.hasDict,a1 hm]),(fun hm=>by cases hm)⟩
 | @LH a _ e=>
  intro u r
  cases (show u=Value.ref a from r)
  obtain ⟨_,hd,vs,rel,o,es,ep,ho,hx,D_,hk,hp⟩:=nI ok e
  cases rel
  obtain ⟨q1,_⟩:=hp
  have e0:es.toList=[]:=by cases hq:es.toList with
   | nil=>rfl
   | cons x l=>rw [hq] at q1;cases q1
  have r0:Reads h (.ref a) (.dict ([]:List (PyData×PyData))) (a::[]++[]):=.dict ho hx.1 D_ (by rw [e0];exact .nil) (by rw [e0];exact .nil)
  exact ⟨_,r0,(fun hm=>by cases hm),fun _=>by simpa using (Ne.symm (by simpa using hd):sysModules≠a)⟩
 | @LI a z x p d _ e _ ih=>
  intro u r
  cases (show u=Value.ref a from r)
  obtain ⟨_,hd,vs,rel,o,es,ep,ho,hx,D_,hk,hp⟩:=nI ok e
  obtain ⟨q1,_⟩:=hp
  cases rel with
  | @cons _ kv _ _ r1 r2=>
   cases r2
   obtain ⟨k1,rv⟩:=r1
   generalize hes:es.toList=l at q1
   cases q1 with
   | @cons en kv l l' qk qv rest=>
    cases rest
    obtain ⟨as,ra,_,a2⟩:=ih _ rv
    have Dp:(dh P w).is (.inr z) en.key=true:=by
     have:kv.1=.inr z:=k1.symm
     rw [<- this];exact qk
    obtain ⟨t,et⟩:=(show ∃ t,en.key=Value.str z t from mZ (k:=.inr z) Dp)
    have r0:Reads h (.ref a) (.dict [(.str z,p)]) (a::([]++[])++(as++[])):=.dict ho hx.1 D_ (by rw [hes];show ReadsAll h [en.key] [.str z] _;rw [et];exact .cons (.str z t) .nil) (by rw [hes];show ReadsAll h [en.val] [p] _;rw [qv];exact .cons ra .nil)
    refine ⟨_,r0,(fun hm=>by cases hm),fun _ hm=>?_⟩
    simp only [List.append_nil,Qp,List.cons_append,List.nil_append] at hm
    rcases hm with hm | hm
    ·exact (by simpa using hd:a≠sysModules) hm.symm
    ·exact a2 rfl hm
structure DB (P:Addr->Prop) (H:Hp) (m:Bool) (v:V) (k n:Nat):Prop where
 ex:∃ p d,DA P H m v p d/\p.depth<=k/\p.shown.length<=n/\p.showable=true
section
variable {P P':Addr->Prop} {m:Bool} {v:V} {k k' n':Nat} {xs:List V}
theorem DB.int {i:Int} (h1:(toString i:Str).length<=202) (h2:i.natAbs.log2 < 1920):DB P H m (.int i) 0 202:=⟨.int i,.bx,.int i,by simp [PyData.depth],by simpa only [PyData.shown] using h1,by simp [PyData.showable,h2]⟩
end
def LJ:List V->Hp->VK->Prop:=fun xs H Q=>∃ (PP:Addr->Prop) (m:Bool) (v:V) (p:PyData) (d:Dt),xs=[v]/\DA PP H m v p d/\p.showable=true/\p.shown.length<=sizeLine/\p.depth<=60/\Q (.str p.shown) H
theorem cP (hg:X.A.guards=some []) (hu:X.A.units+64 < cLine):iy X (.builtin "repr") LJ:=by
 intro pins s σ H xs us Q I r h
 obtain ⟨PP,m,v,p,d,rfl,hd,h1,h3,h4,q⟩:=h
 obtain ⟨u,rfl,ru⟩:=r.one
 obtain ⟨as,ra,a1,a2⟩:=hd.reads I.hok u ru
 have Ea:p.hasDict=true->sysModules ∉ as:=fun hx=>by
  cases m with
  | true=>rw [a1 rfl] at hx;cases hx
  | false=>exact a2 rfl
 have fin:∀ (h':Heap) (u:Tok) (tk:Nat),(∀ b o,s.heap.get? b=some o->h'.get? b=some o)->EP X pins σ Q (.str p.shown u) {s with heap:=h',toks:=tk}:=fun h' u tk hk=>⟨.str p.shown,H,I.kept (t':=tk) hk,⟨u,rfl⟩,q⟩
 cases ra with
 | none=>exact PySem.P.repr_of_none (by simpa only [PyData.shown] using fin s.heap _ _ fun _ _ e=>e)
 | bool b=>exact PySem.P.repr_of_bool (by simpa only [PyData.shown] using fin s.heap _ _ fun _ _ e=>e)
 | int i t=>exact PySem.P.repr_of_int (by simpa [PyData.showable] using h1) (by simpa only [PyData.shown] using fin s.heap _ _ fun _ _ e=>e)
 | str x t=>exact PySem.P.repr_of_str (by simpa only [PyData.shown] using fin s.heap _ _ fun _ _ e=>e) (by simpa only [PyData.shown] using h3)
 | list e1 e2 e3 e4=>exact repr_of_reads' (.list e1 e2 e3 e4) h1 Ea hg (by omega) (fun _ _ e=>e) fin h3
 | tuple e1 e2 e3 e4=>exact repr_of_reads' (.tuple e1 e2 e3 e4) h1 Ea hg (by omega) (fun _ _ e=>e) fin h3
 | dict e1 e2 e3 e4 e5=>exact repr_of_reads' (.dict e1 e2 e3 e4 e5) h1 Ea hg (by omega) (fun _ _ e=>e) fin h3
section
variable {P:Addr->Prop} {m:Bool} {H0:Hp} {k:Nat}
end
theorem DA.of {P:Addr->Prop} {m:Bool} {v:V} {d:Dt} (hP:∀ a xs,H a=some (.tup xs)->P a) (h:TX H v d):∀ {p:PyData},fb H v p->DA P H m v p d:=by
 induction h with
 | str h=>intro p q;cases q;exact .str h
 | tup e hl hn _ ih=>
  intro p q
  cases q with
  | tup e' d_ q'=>
   rw [e] at e'
   cases e'
   exact .tup (hP _ _ e) e d_ hl hn fun i a b c=>ih i a c (q' i a b)
section
variable {pos:Pos}
end
structure Gz (K:QZ) (t:Addr×Obj×List V):Prop where
 lk:K.lookup t.1=some t.2.1
 ok:∃ (its:List Value) (n:Nat),t.2.1.cls=.type "tuple"/\t.2.1.dict=none/\t.2.1.data=.seq its.toArray n/\aq t.2.2 its/\t.2.2.length<=sizeLine
def without (K:QZ) (as:List Addr):QZ:=K.filter fun p=> !as.contains p.1
theorem cK {as:List Addr} {b:Addr}:∀ {K:QZ},(without K as).lookup b=if as.contains b=true then none else K.lookup b
 | []=>by unfold without;simp
 | (c,o)::K=>by
  have ih:=cK (as:=as) (b:=b) (K:=K)
  unfold without at ih ⊢
  rw [List.filter_cons]
  by_cases hc:as.contains c=true
  ·have h0:¬(!as.contains (c,o).1)=true:=by show ¬(!as.contains c)=true;rw [hc];decide
   rw [if_neg h0,ih]
   by_cases hb:as.contains b=true
   ·rw [if_pos hb,if_pos hb]
   ·have n:(b==c)=false:=by
     cases e:b==c with
     | false=>rfl
     | true=>rw [eq_of_beq e] at hb;exact absurd hc hb
    rw [if_neg hb,if_neg hb,List.lookup_cons,n]
  ·have h0:(!as.contains (c,o).1)=true:=by
    show (!as.contains c)=true
    cases q:as.contains c with
    | true=>exact absurd q hc
    | false=>rfl
   rw [if_pos h0,List.lookup_cons,List.lookup_cons,ih]
   cases e:b==c with
   | true=>
    have:¬as.contains b=true:=by rw [eq_of_beq e];exact hc
    show some o=if as.contains b=true then none else some o
    rw [if_neg this]
   | false=>rfl
def GA (H:Hp):Prop:=∀ b,H b=none\/∃ o u,H b=some (.bq o u)
def fj (ts:List (Addr×Obj×List V)) (G:Hp):Hp:=fun b=>match ts.find? fun t=>decide (t.1=b) with
 | some t=>some (.bq t.2.1 (.tup t.2.2))
 | none=>G b
theorem uC {ts:List (Addr×Obj×List V)} {G:Hp} {t:Addr×Obj×List V} (h:t∈ts) (nd:(ts.map (·.1)).Nodup):fj ts G t.1=some (.bq t.2.1 (.tup t.2.2)):=by
 induction ts with
 | nil=>cases h
 | cons a ts ih=>
  unfold fj
  rw [List.find?_cons]
  rw [List.map_cons,List.nodup_cons] at nd
  by_cases e:a.1=t.1
  ·rw [Qv e]
   rcases Qp.mp h with rfl | h
   ·rfl
   ·exact absurd (List.mem_map.mpr ⟨t,h,e.symm⟩) nd.1
  ·rw [Qw e]
   rcases Qp.mp h with rfl | h
   ·exact absurd rfl e
   ·exact ih h nd.2
theorem dJ {ts:List (Addr×Obj×List V)} {G:Hp}:(∃ t∈ts,t.1=b/\fj ts G b=some (.bq t.2.1 (.tup t.2.2)))\/((∀ t∈ts,t.1≠b)/\fj ts G b=G b):=by
 unfold fj
 cases q:ts.find? fun t=>decide (t.1=b) with
 | some t=>
  have h1:=List.mem_of_find?_eq_some q
  have h2:=List.find?_some q
  exact .inl ⟨t,h1,Qt h2,rfl⟩
 | none=>
  refine .inr ⟨fun t ht e=>?_,rfl⟩
  have:=List.find?_eq_none.mp q t ht
  simp [e] at this
theorem sU {K:QZ} {mb:Str->Option Value} {CX:lq} {k:Nat} {fa:Addr} {sp:Sp} {s₁:Shared} {vs:List Value} {ns:List Int} {ts:List (Addr×Obj×List V)}
  (hts:∀ t∈ts,Gz K t) (nd:(ts.map (·.1)).Nodup)
  (KX:K.In s₁.heap) (Cs:s₁.heap.Ns mainGlobals mg) (hb:s₁.heap.Ns builtinsNs mb) (Eb:∀ x:Str,x≠"__name__"->mb x=bootBuiltins x) (LK:s₁.heap.NoLimit) (hg:s₁.gens=#[])
  (ha:s₁.heap.get? a=some {cls:=.type "list",data:=.seq vs.toArray}) (hi:IntsAre vs ns) (hl:ns.length<=sizeLine) (hr:ck k callerA)
  (F:∀ base:Heap,(without K (ts.map (·.1))).In base->base.Ns mainGlobals mg->kj P w (without K (ts.map (·.1))) mg base CX k fa fd [x] sp) (LL:∀ (s:Shared) (u:Value),BindsTo s fd ⟨[u],[]⟩ [(x,u)])
  (qi:∀ H:Hp,GA H->(∀ t∈ts,H t.1=some (.bq t.2.1 (.tup t.2.2)))->ae (without K (ts.map (·.1))) H a (ns.map V.int)->sp [.ref a] H (fun v _=>v=.bl true) fun _ _ _=>False)
  (LM:∀ H e s',CX [] H s₁ (fun _ _ _=>False) e s'->False):
  codeAny (model P w) callerA (.call (.ref fa) ⟨[.ref a],[]⟩) (fun r s'=>r=.ok (.ret (.bool true))/\OldK s₁.heap s'.heap/\s'.os=s₁.os/\AllBare s'.gens) s₁:=by
 have rv:=lD hi
 have LN:=hi.length
 have Ec:∀ t∈ts,s₁.heap.get? t.1=some t.2.1:=fun t ht=>KX _ _ (hts t ht).lk
 have GB:∀ t∈ts,t.1≠a:=fun t ht e=>by
  obtain ⟨its,n,h1,_⟩:=(hts t ht).ok
  have:=Ec t ht
  rw [e,ha] at this
  rw [<- QD this] at h1
  injection h1 with h2
  exact absurd h2 (by decide)
 have core:∀ G:Hp,(∀ b,G b≠none->b=a)->(G a≠none->K.lookup a=none)->(∀ b,G b=none\/∃ o u,G b=some (.bq o u))->ae (without K (ts.map (·.1))) (fj ts G) a (ns.map V.int)->(∀ u,G a=some u->∀ H,a_ P w H s₁.heap a u)->
   codeAny (model P w) callerA (.call (.ref fa) ⟨[.ref a],[]⟩) (fun r s'=>r=.ok (.ret (.bool true))/\OldK s₁.heap s'.heap/\s'.os=s₁.os/\AllBare s'.gens) s₁:=by
  intro G hG hK hF hS hO
  have zj:∀ b,fj ts G b≠none->b=a\/∃ t∈ts,t.1=b:=fun b q=>by
   rcases dJ (ts:=ts) (G:=G) (b:=b) with ⟨t,ht,e,_⟩ | ⟨_,e⟩
   ·exact .inr ⟨t,ht,e⟩
   ·rw [e] at q;exact .inl (hG b q)
  have bq:GA (fj ts G):=fun b=>by
   rcases dJ (ts:=ts) (G:=G) (b:=b) with ⟨t,ht,e,q⟩ | ⟨_,q⟩
   ·exact .inr ⟨_,_,q⟩
   ·rw [q];exact hF b
  have hok:bh P w (fj ts G) s₁.heap:=fun b u q=>by
   rcases dJ (ts:=ts) (G:=G) (b:=b) with ⟨t,ht,e,q'⟩ | ⟨_,q'⟩
   ·rw [q'] at q
    cases q
    obtain ⟨its,n,h1,h2,h3,h4,h5⟩:=(hts t ht).ok
    have o1:=Ec t ht
    rw [e] at o1
    exact ⟨o1,⟨h5,fun o z=>by rw [o1] at z;cases z;exact h2⟩,its,h4,t.2.1,o1,h1,n,h3⟩
   ·rw [q'] at q
    have e:=hG b (by rw [q];simp)
    subst e
    exact hO u q _
  have GC:∀ {b:Addr} {o:Obj},s₁.heap.get? b=some o->fj ts G b=none->(r_ s₁.heap (fj ts G)).get? b=some o:=fun e n=>vI e n
  have AU:∀ {b:Addr} {o:Obj} {es:Array DictEntry} {ep:Nat},s₁.heap.get? b=some o->o.data=.dict es ep->fj ts G b=none:=fun {b o es ep} e d=>by
   cases q:fj ts G b with
   | none=>rfl
   | some u=>
    rcases zj b (by rw [q];simp) with z | ⟨t,ht,z⟩
    ·subst z
     rw [ha] at e;cases e
     cases d
    ·have o1:=Ec t ht
     rw [z,e] at o1
     cases o1
     obtain ⟨its,n,h1,h2,h3,_⟩:=(hts t ht).ok
     rw [d] at h3;cases h3
  have Ct:∀ {b:Addr} {m:Str->Option Value},s₁.heap.Ns b m->(r_ s₁.heap (fj ts G)).Ns b m:=fun {b m} ⟨o,es,ep,e,d,r⟩=>⟨o,es,ep,GC e (AU e d),d,r⟩
  have GD:(without K (ts.map (·.1))).In (r_ s₁.heap (fj ts G)):=fun b o e=>by
   rw [cK] at e
   by_cases hc:(ts.map (·.1)).contains b=true
   ·rw [if_pos hc] at e;cases e
   ·rw [if_neg hc] at e
    refine GC (KX b o e) ?_
    cases q:fj ts G b with
    | none=>rfl
    | some u=>
     rcases dJ (ts:=ts) (G:=G) (b:=b) with ⟨t,ht,z,_⟩ | ⟨_,q'⟩
     ·exact absurd (by rw [List.contains_iff_mem];exact List.mem_map.mpr ⟨t,ht,z⟩) hc
     ·rw [q'] at q
      have z:=hG b (by rw [q];simp)
      subst z
      rw [hK (by rw [q];simp)] at e;cases e
  have hM:Mod (without K (ts.map (·.1))) mg (r_ s₁.heap (fj ts G)):=⟨GD,Ct Cs,⟨mb,Ct hb,Eb⟩,let ⟨mc,h1,h2⟩:=LK;⟨mc,Ct h1,h2⟩⟩
  have e0:xm P w (without K (ts.map (·.1))) mg (r_ s₁.heap (fj ts G)) callerA [] s₁ (fj ts G):=⟨rfl,hM,fun b o e=>xS e,Nat.le_of_eq (tN _ _),trivial,fun b hb=>absurd (show b∈([]:List Addr) from hb) (by simp),hok,.of_eq hg⟩
  refine codeAny_mono ((F _ GD (Ct Cs)).run callerA [] s₁ (fj ts G) ⟨[.ref a],[]⟩ [.ref a] [.ref a] _ _ hr e0 (LL s₁ (.ref a)) (.cons rfl .nil) (qi (fj ts G) bq (fun t ht=>uC ht nd) hS)) fun r s' h=>?_
  cases r with
  | error e=>exact (LM _ e s' h).elim
  | ok fl=>
   cases fl with
   | next=>exact False.elim h
   | brk=>exact False.elim h
   | cont=>exact False.elim h
   | ret u=>
    obtain ⟨v,H',os,bare,un,Cu,r',q⟩:=h
    have q':v=.bl true:=q
    subst q'
    obtain rfl:u=Value.bool true:=r'
    refine ⟨rfl,OldK.of_keep fun b o e=>?_,os,bare⟩
    cases q:fj ts G b with
    | none=>exact un.keep b o e q (by intro z;exact absurd (show b∈([]:List Addr) from z) (by simp)) (by simp)
    | some u=>
     rcases bq b with z | ⟨ob,u',z⟩
     ·rw [q] at z;cases z
     ·have z2:=un.ir b ob _ z
      obtain ⟨e1,_⟩:=hok b _ z
      obtain ⟨e2,_⟩:=Cu b _ z2
      rw [e] at e1;cases e1
      exact e2
 have LO:¬(ts.map (·.1)).contains a=true:=fun h=>by
  rw [List.contains_iff_mem] at h
  obtain ⟨t,ht,e⟩:=List.mem_map.mp h
  exact GB t ht e
 have Ed:∀ G:Hp,fj ts G a=G a:=fun G=>by
  rcases dJ (ts:=ts) (G:=G) (b:=a) with ⟨t,ht,e,_⟩ | ⟨_,q⟩
  ·exact absurd e (GB t ht)
  ·exact q
 cases hk:K.lookup a with
 | some o=>
  have e:=KX a o hk
  rw [ha] at e
  cases e
  exact core (fun _=>none) (fun b z=>absurd rfl z) (fun z=>absurd rfl z) (fun _=>.inl rfl) (.inr ⟨_,vs.toArray,_,by rw [cK,if_neg LO];exact hk,rfl,rfl,rfl,by rw [List.size_toArray,LN];exact hl,by simpa using rv⟩) fun u z=>by cases z
 | none=>
  refine core (fun b=>if b=a then some (.bq {cls:=.type "list",data:=.seq vs.toArray} (.lst (ns.map V.int))) else none) (fun b z=>?_) (fun _=>hk) (fun b=>?_) (.inl (.inr ⟨{cls:=.type "list",data:=.seq vs.toArray},by rw [Ed];exact if_pos rfl⟩)) fun u z H=>?_
  ·by_cases hb:b=a
   ·exact hb
   ·exact absurd (if_neg hb) z
  ·by_cases hb:b=a
   ·exact .inr ⟨_,_,if_pos hb⟩
   ·exact .inl (if_neg hb)
  ·have z':=(if_pos rfl).symm.trans z
   cases z'
   exact ⟨ha,by rw [Ql];exact hl,vs,_,rv,ha⟩
def adr (mg:Str->Option Value) (x:Str):Addr:=match mg x with
 | some (.ref a)=>a
 | _=>0
section
variable {iter kx vx:Expr} {pos:Pos} {wi:TI} {g:TG} {tc:TC} {tk tw:TE}
end
section
variable {o value:Expr} {ta tv:TE} {f:Str} {pos pos' p:Pos} {k:Nat} {sp:Sp}
end
section
variable {k:Nat} {ux:Pos} {o:Expr}
end
end L2
namespace PySem
end PySem
namespace L2
open PySem PySem.Spec PyProof.Rows
section
variable {o:Expr}
end
theorem pC {K:QZ} {as:List Addr} (x:K.In h):(without K as).In h:=fun a o e=>by
 rw [cK] at e
 by_cases hc:as.contains a=true
 ·rw [if_pos hc] at e;cases e
 ·rw [if_neg hc] at e;exact x a o e
end L2
set_option autoImplicit false
namespace L2
open PySem PySem.Spec PySem.W PyProof.Rows
def Ef:Data->Bool
 | .freed=>false
 | _=>true
def yg:Nat->List Obj->Frag
 | _,[]=>[]
 | n,o::os=>if Ef o.data then (n,o)::yg (n+1) os else yg (n+1) os
def Eg (h:Heap):Frag:=yg 0 h.objs.toList
theorem fB:∀ {os:List Obj} {n a:Nat} {o:Obj},(yg n os).lookup a=some o->n<=a/\os[a - n]? =some o/\Ef o.data=true
 | [],n,a,o,h=>by simp [yg] at h
 | x::os,n,a,o,h=>by
  unfold yg at h
  have next:(yg (n+1) os).lookup a=some o->n<=a/\(x::os)[a - n]? =some o/\Ef o.data=true:=fun h=>by
   obtain ⟨h1,h2,h3⟩:=fB h
   refine ⟨by omega,?_,h3⟩
   obtain ⟨k,hk⟩:∃ k,a - n=k+1:=⟨a - n - 1,by omega⟩
   rw [hk,List.getElem?_cons_succ,<- h2]
   congr 1;omega
  split at h
  ·rename_i hf
   rw [List.lookup_cons] at h
   split at h
   ·rename_i e
    obtain rfl:a=n:=by simpa using e
    cases h
    exact ⟨Qy _,by simp,hf⟩
   ·exact next h
  ·exact next h
theorem pA (h:Heap):(Eg h).In h:=fun a o e=>by
 obtain ⟨_,h2,h3⟩:=fB e
 have qt:h.objs[a]? =some o:=by rw [<- Array.getElem?_toList];simpa using h2
 unfold Heap.get?
 rw [qt]
 obtain ⟨c,d,dt,sl⟩:=o
 cases dt<;>first | rfl | cases h3
def mi {α:Type} (look:Frag->α) (want:World->α):Hook where
 α:=α
 obs s:=look (Eg s.heap)
 val:=want
 says w h:=∃ K:Frag,K.In h/\look K=want w
 of:=fun w s e=>⟨Eg s.heap,pA _,e⟩
 keeps:=fun w h h' ⟨K,x,e⟩ k=>⟨K,fun a o l=>k a o (x a o l),e⟩
theorem vT {p q:Program} {Xt:Shared->Bool} {Yf:Shared->α} {Ya:World->α} {N:Nat} {g0:Bool} (row:String)
  (hF:∀ w:World,(openEnds treeTable p (w.withFollow row false) N).map (fun s=>(openSeen q loose (importedModules p.main.body) Xt g0 s,Yf s))=some (openGood q loose,Ya (w.withFollow row false)))
  (hT:∀ w:World,(openEnds treeTable p (w.withFollow row true) N).map (fun s=>(openSeen q loose (importedModules p.main.body) Xt g0 s,Yf s))=some (openGood q loose,Ya (w.withFollow row true))):LeftO p q loose Xt Yf Ya N g0:=fun w=>by
 have e:=World.withFollow_self w row
 cases hb:w.params.followText row<;>rw [hb] at e
 ·have:=hF w;rw [e] at this;exact this
 ·have:=hT w;rw [e] at this;exact this
abbrev yh:=Str×Str×Arguments×FuncBody×Scope×Addr×List (Str×Addr)×Value×Addr×Bool
def fnAt (K:Frag) (q:Str):Option (Option Value)->Option yh
 | some (some (.ref f))=>(match K.lookup f with
  | some ⟨_,_,.func fd,_⟩=>some (fd.name,fd.qualname,fd.params,fd.body,fd.scope,fd.globals,fd.closure,fd.defaults,fd.builtins,codeIn K fd.code q)
  | _=>none)
 | _=>none
def yi (x q:Str) (st:Stmt):yh:=(x,q,jv st,.stmts (gv st),au st,mainGlobals,[],.none,builtinsNs,true)
def vj (K:Frag):List (Str×Stmt)->List (Option yh)
 | []=>[]
 | x::l=>fnAt K x.1 (nsIn K mainGlobals x.1)::vj K l
def vm:List (Str×Stmt)->List (Option yh)
 | []=>[]
 | x::l=>some (yi x.1 x.1 x.2)::vm l
def Cv (K:Frag) (x:Str):Option V:=match nsIn K mainGlobals x with
 | some (some v)=>su v
 | _=>none
def Cw (K:Frag):List (Str×V)->List (Option V)
 | []=>[]
 | x::l=>Cv K x.1::Cw K l
def Cy:List (Str×V)->List (Option V)
 | []=>[]
 | x::l=>some x.2::Cy l
abbrev Ak:=Value×Option Addr×List (Option V)
def Cz:List Value->List (Option V)
 | []=>[]
 | v::l=>su v::Cz l
def CA:List V->List (Option V)
 | []=>[]
 | v::l=>some v::CA l
def Bp (K:Frag):Value->Option Ak
 | .ref a=>(match K.lookup a with
  | some ⟨c,d,.seq it _,_⟩=>some (c,d,Cz it.toList)
  | _=>none)
 | _=>none
def vn (xs:List V):Ak:=(.type "tuple",none,CA xs)
def CB (K:Frag) (x:Str):Option Ak:=match nsIn K mainGlobals x with
 | some (some v)=>Bp K v
 | _=>none
def CD (K:Frag):List (Str×List V)->List (Option Ak)
 | []=>[]
 | x::l=>CB K x.1::CD K l
def CF:List (Str×List V)->List (Option Ak)
 | []=>[]
 | x::l=>some (vn x.2)::CF l
def Al (K:Frag):List Str->Bool
 | []=>true
 | x::l=>(match nsIn K mainGlobals x with | some none=>true | _=>false)&&Al K l
section
variable {K:Frag}
theorem fE {x:V} (e:su v=some x):RelV x v:=by
 cases v<;>first | (cases e;first | rfl | exact ⟨_,rfl⟩) | cases e
theorem kR:∀ {us:List Value} {xs:List V},Cz us=CA xs->aq xs us
 | [],[],_=>.nil
 | [],_::_,e=>by cases e
 | _::_,[],e=>by cases e
 | u::us,x::xs,e=>by
  have e':=List.cons.inj (show su u::Cz us=some x::CA xs from e)
  exact .cons (fE e'.1) (kR e'.2)
theorem qY {q:Str} {st:Stmt} {v:Option (Option Value)} (e:fnAt K q v=some (yi x q st)):∃ f fd,v=some (some (.ref f))/\vd K x q st f fd:=by
 unfold fnAt at e
 split at e
 ·rename_i f
  split at e
  ·rename_i oc od fd gg hl
   have e:=QD e
   unfold yi at e
   obtain ⟨n,qn,ps,b,sc,gl,cl,df,kd,doc,pm,an,cd,ct,bt⟩:=fd
   simp only [Prod.mk.injEq] at e
   obtain ⟨rfl,rfl,rfl,rfl,rfl,rfl,rfl,rfl,rfl,hc⟩:=e
   refine ⟨f,_,rfl,xZ hl hc ?_⟩
   unfold keepIn
   simp only [hl]
  ·cases e
 ·cases e
theorem rF:∀ {l:List (Str×Stmt)},vj K l=vm l->∀ (i:Nat) {x:Str} {st:Stmt},l[i]? =some (x,st)->fnAt K x (nsIn K mainGlobals x)=some (yi x x st)
 | y::l,e,0,x,st,h=>by cases h;exact (List.cons.inj e).1
 | y::l,e,i+1,x,st,h=>rF (List.cons.inj e).2 i (by simpa using h)
theorem lR (X:K.In h) (G:h.Ns mainGlobals mg) {l:List (Str×Stmt)} (e:vj K l=vm l) (i:Nat) {st:Stmt} (hi:l[i]? =some (x,st))
  (hb:∀ (kV doc pm:Value) (an:Option Addr) (ak ct:Value) (us:List Value),us.length=ps.length->bindArgs (fnOf x x (jv st) (gv st) (au st) .none kV doc pm an ak ct) ⟨us,[]⟩=pure (ps.zip us)):cj K mg x st ps:=by
 obtain ⟨f,fd,e1,F⟩:=qY (rF e i hi)
 exact ⟨f,fd,F,mg_of X G e1,F.binds hb⟩
variable {st:Stmt} {l:List (Str×Stmt)} {p0 p1 p2 p3 p4 p5 p6:Str}
theorem mj (h:us.length=n+1):∃ a t,us=a::t/\t.length=n:=by
 cases us with
 | nil=>cases h
 | cons a t=>exact ⟨a,t,rfl,by simpa using h⟩
theorem jc (X:K.In h) (G:h.Ns mainGlobals mg) (e:vj K l=vm l) (i:Nat) (hi:l[i]? =some (x,st):=by rfl)
  (hb:∀ (kV doc pm:Value) (an:Option Addr) (ak ct a0:Value),bindArgs (fnOf x x (jv st) (gv st) (au st) .none kV doc pm an ak ct) ⟨[a0],[]⟩=pure [(p0,a0)]:=by intros;rfl):cj K mg x st [p0]:=
 lR X G e i hi fun a b c d f g us hl=>by
  obtain ⟨a0,ua,rfl,oz⟩:=mj (n:=0) hl
  obtain rfl:=QR oz
  exact hb ..
theorem CG (X:K.In h) (G:h.Ns mainGlobals mg) (e:vj K l=vm l) (i:Nat) (hi:l[i]? =some (x,st):=by rfl)
  (hb:∀ (kV doc pm:Value) (an:Option Addr) (ak ct a0 a1:Value),bindArgs (fnOf x x (jv st) (gv st) (au st) .none kV doc pm an ak ct) ⟨[a0,a1],[]⟩=pure [(p0,a0),(p1,a1)]:=by intros;rfl):cj K mg x st [p0,p1]:=
 lR X G e i hi fun a b c d f g us hl=>by
  obtain ⟨a0,ua,rfl,oz⟩:=mj (n:=1) hl
  obtain ⟨a1,Eh,rfl,uc⟩:=mj (n:=0) oz
  obtain rfl:=QR uc
  exact hb ..
theorem GF (X:K.In h) (G:h.Ns mainGlobals mg) (e:vj K l=vm l) (i:Nat) (hi:l[i]? =some (x,st):=by rfl)
  (hb:∀ (kV doc pm:Value) (an:Option Addr) (ak ct a0 a1 a2:Value),bindArgs (fnOf x x (jv st) (gv st) (au st) .none kV doc pm an ak ct) ⟨[a0,a1,a2],[]⟩=pure [(p0,a0),(p1,a1),(p2,a2)]:=by intros;rfl):cj K mg x st [p0,p1,p2]:=
 lR X G e i hi fun a b c d f g us hl=>by
  obtain ⟨a0,ua,rfl,oz⟩:=mj (n:=2) hl
  obtain ⟨a1,Eh,rfl,uc⟩:=mj (n:=1) oz
  obtain ⟨a2,LP,rfl,gr⟩:=mj (n:=0) uc
  obtain rfl:=QR gr
  exact hb ..
theorem GG (X:K.In h) (G:h.Ns mainGlobals mg) (e:vj K l=vm l) (i:Nat) (hi:l[i]? =some (x,st):=by rfl)
  (hb:∀ (kV doc pm:Value) (an:Option Addr) (ak ct a0 a1 a2 a3:Value),bindArgs (fnOf x x (jv st) (gv st) (au st) .none kV doc pm an ak ct) ⟨[a0,a1,a2,a3],[]⟩=pure [(p0,a0),(p1,a1),(p2,a2),(p3,a3)]:=by intros;rfl):cj K mg x st [p0,p1,p2,p3]:=
 lR X G e i hi fun a b c d f g us hl=>by
  obtain ⟨a0,ua,rfl,oz⟩:=mj (n:=3) hl
  obtain ⟨a1,Eh,rfl,uc⟩:=mj (n:=2) oz
  obtain ⟨a2,LP,rfl,gr⟩:=mj (n:=1) uc
  obtain ⟨a3,OV,rfl,LQ⟩:=mj (n:=0) gr
  obtain rfl:=QR LQ
  exact hb ..
theorem yH (X:K.In h) (G:h.Ns mainGlobals mg) {v:V} (e:Cv K x=some v):∃ u,mg x=some u/\RelV v u:=by
 unfold Cv at e
 split at e
 ·rename_i u hn;exact ⟨u,mg_of X G hn,fE e⟩
 ·cases e
theorem nG:∀ {l:List (Str×V)},Cw K l=Cy l->∀ (i:Nat) {x:Str} {v:V},l[i]? =some (x,v)->Cv K x=some v
 | y::l,e,0,x,st,h=>by cases h;exact (List.cons.inj e).1
 | y::l,e,i+1,x,st,h=>nG (List.cons.inj e).2 i (by simpa using h)
theorem vl (X:K.In h) (G:h.Ns mainGlobals mg) {l:List (Str×V)} (e:Cw K l=Cy l) (i:Nat) {v:V} (hi:l[i]? =some (x,v):=by rfl):∃ u,mg x=some u/\RelV v u:=yH X G (nG e i hi)
theorem nR {xs:List V} (e:Bp K v=some (vn xs)):∃ (a:Addr) (it:Array Value) (n:Nat) (sq:Array (Option Value)),v=.ref a/\K.lookup a=some ⟨.type "tuple",none,.seq it n,sq⟩/\aq xs it.toList:=by
 unfold Bp at e
 split at e
 ·rename_i a
  split at e
  ·rename_i c d it n sl hl
   have e:=QD e
   unfold vn at e
   simp only [Prod.mk.injEq] at e
   obtain ⟨rfl,rfl,e3⟩:=e
   exact ⟨a,it,n,sl,rfl,hl,kR e3⟩
  ·cases e
 ·cases e
theorem qK {xs:List V} (e:CB K x=some (vn xs)):∃ (a:Addr) (it:Array Value) (n:Nat) (sq:Array (Option Value)),nsIn K mainGlobals x=some (some (.ref a))/\K.lookup a=some ⟨.type "tuple",none,.seq it n,sq⟩/\aq xs it.toList:=by
 unfold CB at e
 split at e
 ·rename_i u hn
  obtain ⟨a,it,n,sq,rfl,h1,h2⟩:=nR e
  exact ⟨a,it,n,sq,hn,h1,h2⟩
 ·cases e
theorem mT:∀ {l:List (Str×List V)},CD K l=CF l->∀ (i:Nat) {x:Str} {v:List V},l[i]? =some (x,v)->CB K x=some (vn v)
 | y::l,e,0,x,st,h=>by cases h;exact (List.cons.inj e).1
 | y::l,e,i+1,x,st,h=>mT (List.cons.inj e).2 i (by simpa using h)
theorem uZ {it:Array Value} {d:Option Addr} {sq:Array (Option Value)} {xs:List V} (hl:K.lookup a=some ⟨.type "tuple",d,.seq it n,sq⟩) (hv:aq xs it.toList) (hz:xs.length<=sizeLine) (H:Hp):aj K H a xs:=
 .inr ⟨_,it,n,hl,rfl,rfl,by have:=hv.length;simp at this;omega,hv⟩
theorem tu (X:K.In h) (G:h.Ns mainGlobals mg) {l:List (Str×List V)} (e:CD K l=CF l) (i:Nat) {v:List V} (hi:l[i]? =some (x,v):=by rfl) (hz:v.length<=sizeLine:=by decide):∃ a,mg x=some (.ref a)/\∀ H,aj K H a v:=by
 obtain ⟨a,it,n,sq,h1,h2,h3⟩:=qK (mT e i hi)
 exact ⟨a,mg_of X G h1,uZ h2 h3 hz⟩
theorem oU:∀ {l:List Str},Al K l=true->∀ (i:Nat) {x:Str},l[i]? =some x->nsIn K mainGlobals x=some none
 | y::l,e,0,x,h=>by
  cases h
  unfold Al at e
  rw [Bool.and_eq_true_iff] at e
  have e:=e.1
  split at e
  ·assumption
  ·cases e
 | y::l,e,i+1,x,h=>by
  unfold Al at e
  rw [Bool.and_eq_true_iff] at e
  exact oU e.2 i (by simpa using h)
theorem nn (X:K.In h) (G:h.Ns mainGlobals mg) {l:List Str} (e:Al K l=true) (i:Nat) (hi:l[i]? =some x:=by rfl):mg x=none:=mg_none_of X G (oU e i hi)
end
inductive Am where
 | v (x:Option V)
 | t (x:Option Ak)
abbrev CH:=Value×Option Addr×Nat×Bool×List (Int×Option V×Am)
def Bq (K:Frag) (v:Value):Am:=match v with
 | .ref _=>.t (Bp K v)
 | _=>.v (su v)
def Br (K:Frag):List DictEntry->List (Int×Option V×Am)
 | []=>[]
 | e::l=>(e.hash,su e.key,Bq K e.val)::Br K l
def CI (K:Frag) (x:Str):Option CH:=match nsIn K mainGlobals x with
 | some (some (.ref a))=>(match K.lookup a with
  | some ⟨c,d,.dict es _,sl⟩=>some (c,d,sl.size,a==sysModules,Br K es.toList)
  | _=>none)
 | _=>none
abbrev jz:=Str×(V ⊕ List V)
def An (w:World):List jz->List (Int×Option V×Am)
 | []=>[]
 | (k,.inl v)::l=>(AF w (.inr k),some (.str k),.v (some v))::An w l
 | (k,.inr v)::l=>(AF w (.inr k),some (.str k),.t (some (vn v)))::An w l
def CJ (w:World) (l:List jz):CH:=(.type "dict",none,0,false,An w l)
def Ei (K:Frag):List (Str×List jz)->List (Option CH)
 | []=>[]
 | x::l=>CI K x.1::Ei K l
def Ej (w:World):List (Str×List jz)->List (Option CH)
 | []=>[]
 | x::l=>some (CJ w x.2)::Ej w l
def vo (K:Frag):List jz->List V->Prop
 | [],[]=>True
 | (_,.inl v)::l,u::us=>u=v/\vo K l us
 | (_,.inr xs)::l,u::us=>(∃ a,u=.ref a/\∀ H,aj K H a xs)/\vo K l us
 | _,_=>False
def Ek:List jz->List V->List (Key×V)
 | e::l,u::us=>(.inr e.1,u)::Ek l us
 | _,_=>[]
def Bs:List jz->Bool
 | []=>true
 | (_,.inl _)::l=>Bs l
 | (_,.inr xs)::l=>decide (xs.length<=1000)&&Bs l
section
variable {K:Frag}
theorem iJ:∀ {l:List jz},Bs l=true->∀ e∈l,∀ xs,e.2=.inr xs->xs.length<=sizeLine
 | (_,.inl _)::l,h,e,he,xs,hx=>by
  rcases Qp.mp he with rfl | he
  ·cases hx
  ·exact iJ (l:=l) h e he xs hx
 | (_,.inr ys)::l,h,e,he,xs,hx=>by
  unfold Bs at h
  rw [Bool.and_eq_true_iff,decide_eq_true_iff] at h
  rcases Qp.mp he with rfl | he
  ·cases hx;exact Nat.le_trans h.1 (by decide)
  ·exact iJ (l:=l) h.2 e he xs hx
theorem xK {k:Str} {v:V} {l:List jz} {us:List V} (e:vo K ((k,.inl v)::l) us):∃ vs,us=v::vs/\vo K l vs:=by
 cases us with
 | nil=>exact False.elim e
 | cons u vs=>obtain ⟨rfl,r⟩:=(show u=v/\vo K l vs from e);exact ⟨vs,rfl,r⟩
theorem LR {us:List V} (e:vo K [] us):us=[]:=by
 cases us with
 | nil=>rfl
 | cons u vs=>exact False.elim e
theorem mB:∀ {l:List jz} {es:List DictEntry},Br K es=An w l->(∀ e∈l,∀ xs,e.2=.inr xs->xs.length<=sizeLine)->∃ (us:List V) (vs:List (Key×Value)),vo K l us/\(∀ P,Pairs (dh P w) es vs)/\(∀ P,∀ e∈es,∃ k,(dh P w).is k e.key=true/\e.hash=(dh P w).hash k)/\KV (Ek l us) vs/\vs.map (·.1)=l.map (fun e=>.inr e.1)
 | [],[],_,_=>⟨[],[],trivial,fun _=>.nil,(fun _ _ h=>nomatch h),.nil,rfl⟩
 | [],_::_,e,_=>by cases e
 | (_,.inl _)::_,[],e,_=>by cases e
 | (_,.inr _)::_,[],e,_=>by cases e
 | (k,.inl v)::l,d::es,e,hz=>by
  have e':=List.cons.inj (show (d.hash,su d.key,Bq K d.val)::Br K es=(AF w (.inr k),some (.str k),.v (some v))::An w l from e)
  obtain ⟨us,vs,h1,h2,h3,h4,h5⟩:=mB e'.2 fun x hx=>hz x (Qh _ hx)
  have e1:=e'.1
  simp only [Prod.mk.injEq] at e1
  obtain ⟨q1,q2,q3⟩:=e1
  obtain ⟨t,q2⟩:=fE q2
  have q4:RelV v d.val:=by
   unfold Bq at q3
   split at q3
   ·cases q3
   ·exact fE (Am.v.inj q3)
  have hk:∀ P,(dh P w).is (.inr k) d.key=true:=fun P=>by rw [q2];exact fH P w k t
  refine ⟨v::us,(.inr k,d.val)::vs,⟨rfl,h1⟩,fun P=>.cons (kv:=((Sum.inr k,d.val):Key×Value)) (hk P) rfl (h2 P),fun P y hy=>?_,.cons ⟨rfl,q4⟩ h4,by simp [h5]⟩
  rcases Qp.mp hy with rfl | hy
  ·exact ⟨.inr k,hk P,q1⟩
  ·exact h3 P y hy
 | (k,.inr xs)::l,d::es,e,hz=>by
  have e':=List.cons.inj (show (d.hash,su d.key,Bq K d.val)::Br K es=(AF w (.inr k),some (.str k),.t (some (vn xs)))::An w l from e)
  obtain ⟨us,vs,h1,h2,h3,h4,h5⟩:=mB e'.2 fun x hx=>hz x (Qh _ hx)
  have e1:=e'.1
  simp only [Prod.mk.injEq] at e1
  obtain ⟨q1,q2,q3⟩:=e1
  obtain ⟨t,q2⟩:=fE q2
  have q4:Bp K d.val=some (vn xs):=by
   unfold Bq at q3
   split at q3
   ·exact Am.t.inj q3
   ·cases q3
  obtain ⟨a,it,n,sq,q5,q6,q7⟩:=nR q4
  have hk:∀ P,(dh P w).is (.inr k) d.key=true:=fun P=>by rw [q2];exact fH P w k t
  refine ⟨.ref a::us,(.inr k,d.val)::vs,⟨⟨a,rfl,uZ q6 q7 (hz _ (List.mem_cons_self ..) xs rfl)⟩,h1⟩,fun P=>.cons (kv:=((Sum.inr k,d.val):Key×Value)) (hk P) rfl (h2 P),fun P y hy=>?_,.cons ⟨rfl,by rw [q5];rfl⟩ h4,by simp [h5]⟩
  rcases Qp.mp hy with rfl | hy
  ·exact ⟨.inr k,hk P,q1⟩
  ·exact h3 P y hy
theorem LS {l:List jz} (X:K.In h) (G:h.Ns mainGlobals mg) (e:CI K x=some (CJ w l)) (oq:Bs l=true) (nd:(l.map (·.1)).Nodup):∃ (a:Addr) (us:List V),mg x=some (.ref a)/\vo K l us/\KD w K a (Ek l us):=by
 have hz:=iJ oq
 unfold CI at e
 split at e
 ·rename_i a hn
  split at e
  ·rename_i c d es ep sl hl
   have e:=QD e
   unfold CJ at e
   simp only [Prod.mk.injEq] at e
   obtain ⟨rfl,rfl,e3,e4,e5⟩:=e
   obtain ⟨us,vs,h1,h2,h3,h4,h5⟩:=mB e5 hz
   refine ⟨a,us,mg_of X G hn,h1,fun P=>⟨_,es,ep,vs,hl,e4,⟨rfl,rfl,Array.eq_empty_of_size_eq_zero e3⟩,rfl,fun y hy=>h3 P y (by simpa using hy),h2 P,?_,h4⟩⟩
   rw [h5]
   have:l.map (fun e=>(Sum.inr e.1:Key))=(l.map (·.1)).map Sum.inr:=by simp
   rw [this]
   exact List.Pairwise.map _ (fun a b q c=>q (Sum.inr.inj c)) nd
  ·cases e
 ·cases e
theorem nS:∀ {l:List (Str×List jz)},Ei K l=Ej w l->∀ (i:Nat) {x:Str} {v:List jz},l[i]? =some (x,v)->CI K x=some (CJ w v)
 | y::l,e,0,x,st,h=>by cases h;exact (List.cons.inj e).1
 | y::l,e,i+1,x,st,h=>nS (List.cons.inj e).2 i (by simpa using h)
end
abbrev GH:List Str:=["type","isinstance","issubclass","getattr","hasattr"]
theorem wN {l:OpenLaw} {p:Program} (hp:l.prog=p)
 (a0:sreFenced p.main=true) (a1:((moduleNames p.main.body).isEmpty||lookedIntoSs (moduleNames p.main.body) p.main.body)=true)
 (a2:namesResolve p=true) (a3:p.boundNames.all (fun n=> !worldNames.contains n)=true)
 (a4:noRoadLSs {strict:= !(importedModules p.main.body).all cThrough.contains,foot:=none,bare:=(["vars","dir","locals"]:List Str).filter (readsOut p p.main.body)} p.main.body=true)
 (a5:(namesMeet p p.main.body fun _ n=>attrL n)=true)
 (a6:l.row.toRowW.solid=true) (LU:l.row.pre.litsOk=true)
 (a7:p.boundNames.contains l.name=true) (a8:(!startupNames.contains l.name)=true)
 (a9:decide (l.foot<=(behindTheImports p).length)=true)
 (b0:l.footing.all footLine=true) (b1:noClassBlock p l.footing=true)
 (b2:l.most.all (fun n=>decide (63<=n))=true) (b3:l.bound.all (fun n=>decide (2^63<=n))=true)
 (b4:noRoadLSs {strict:=true,foot:=some l.bound',writes:=l.writes,may:=l.may} l.footing=true)
 (b5:defStands l.about l.above=true) (b6:l.namesIt=true) (b7:GH.all (fun n=>l.about !=[n])=true)
 (b8:l.bound'.all (fun n=> !builtinNamed n||l.about==[n]|| !l.reads n)=true)
 (b9:(!l.writes||(p.main.body.flatMap importedNames).all fun n=> !l.reads n)=true)
 (c0:(p.main.body.flatMap importedNames).all (fun n=> !l.reads n||(drawsOf n p.main.body).all fun mn=>mn.2 !=("attrgetter":Str)&&mn.2 !=("methodcaller":Str))=true)
 (c1:namesMeet p l.footing (fun sc n=>(!GH.contains n||sc.names.lookup n==some .globalImplicit)&&(l.may !=some n||sc.kind==.module||sc.names.lookup n==some .globalImplicit))=true)
 (c2:l.own.contains l.name=true) (c3:(l.own.eraseDups.length==l.own.length)=true) (c4:l.own.all (fun n=> !builtinNamed n)=true)
 (c5:namesMeet p l.above (fun _ n=> !l.own.contains n)=true) (c6:(namesMeet p l.footing fun sc n=>sc.kind==.module||sc.names.lookup n !=some .globalExplicit)=true):l.wellSaid=true:=by
 subst hp
 have q:l.row.wellSaid=true:=by
  unfold OpenRow.wellSaid OpenRow.partSaid looksOpen
  exact look_both (look_both (look_both (look_both (look_both (look_both (look_both (look_both (look_both (look_both (look_both (look_both (look_both (look_both (look_both (look_both (look_both (look_both (look_both (look_both a0 a1) a2) a3) a4) a5) rfl) rfl) rfl) rfl) rfl) rfl) a6) LU) rfl) rfl) rfl) rfl) rfl) a7) a8
 unfold OpenLaw.wellSaid
 rw [q,a9,b0,b1,b2,b3,b4,b5,b6,b7,b8,b9,c0,c1,c2,c3,c4,c5,c6];rfl
theorem uA {l:OpenLaw} {k:Nat} {q:Program} {d:DefRec} {look:Frag->α} {want:World->α}
  (hn:l.most=some n) (hn2:n<=sizeLine) (A5:d.params.defaults=[]) (hr:ck k callerA)
  (F:∀ (w:World) (mg:Str->Option Value) (fa:Addr) (h:Heap) (K:Frag),K.In h->look K=want w->h.Ns mainGlobals mg->mg d.name=some (.ref fa)->
   ∃ (ts:List (Addr×Obj×List V)) (fd:FuncData) (sp:Sp),(∀ t∈ts,Gz K t)/\(ts.map (·.1)).Nodup/\(∀ (s:Shared) (u:Value),BindsTo s fd ⟨[u],[]⟩ [(x,u)])/\
    (∀ base:Heap,(without K (ts.map (·.1))).In base->base.Ns mainGlobals mg->kj l.prog w (without K (ts.map (·.1))) mg base qm k fa fd [x] sp)/\
    (∀ (H:Hp) (a:Addr) (ns:List Int),ns.length<=n->(∀ t∈ts,H t.1=some (.bq t.2.1 (.tup t.2.2)))->ae (without K (ts.map (·.1))) H a (ns.map V.int)->sp [.ref a] H (fun v _=>v=.bl true) fun _ _ _=>False)):
  WalkO q loose XP (mi look want).says l.row.toRowW d [] (fun f vs=>PySem.call f vs):=by
 refine F6.nY hn A5 fun w s₀ s₁ mg mb fa o pm cd doc a vs ns G Y ho hd gz xu DE DF dw hg=>?_
 obtain ⟨K,KX,hl⟩:=Y
 obtain ⟨ts,fd,sp,hts,nd,hb,hF,qi⟩:=F w mg fa _ K KX hl G.T.g xu
 exact sU hts nd KX G.T.g G.T.b G.T.builtins G.T.nolimit hg DE DF (Nat.le_trans dw hn2) hr hF hb (fun H _ ht hS=>qi H a ns dw ht hS) fun _ _ _ z=>z
theorem qN {l:OpenLaw} {k:Nat} {q:Program} {d:DefRec} {look:Frag->α} {want:World->α} {st:Stmt}
  (hn:l.most=some 63) (A5:d.params.defaults=[]) (hr:ck k callerA) (LV:d.name="law")
  (hb:∀ (kV doc pm:Value) (an:Option Addr) (ak ct a0:Value),bindArgs (fnOf "law" "law" (jv st) (gv st) (au st) .none kV doc pm an ak ct) ⟨[a0],[]⟩=pure [(("script":Str),a0)])
  (F:∀ (w:World) (mg:Str->Option Value) (h:Heap) (K:Frag),K.In h->look K=want w->h.Ns mainGlobals mg->cj (without K []) mg "law" st ["script"]/\∀ base:Heap,av l.prog w (without K []) mg base k "law" ["script"] (DT (without K []))):
  WalkO q loose XP (mi look want).says l.row.toRowW d [] (fun f vs=>PySem.call f vs):=
 uA (n:=63) (k:=k) (x:="script") hn (by decide) A5 hr fun w mg fa h K KX hl G xu=>by
  obtain ⟨⟨f,fd,Fu,m,b⟩,hF⟩:=F w mg h K KX hl G
  rw [LV] at xu
  rw [m] at xu
  cases xu
  refine ⟨[],fd,DT (without K []),(fun t ht=>nomatch ht),.nil,fun s u=>?_,fun base kb nb=>?_,fun H a ns hl _ hS=>⟨a,ns,rfl,hS,hl,fun _=>rfl⟩⟩
  ·obtain ⟨oc,od,kV,doc,pm,an,ak,ct,gg,rfl,lk,gz⟩:=Fu.ex
   exact .of_eq (hb ..)
  ·obtain ⟨f',LW,G',m',k',b',OW,OX,OY,GI⟩:=hF base
   rw [m] at m'
   cases m'
   have e:fd=LW:=by
    obtain ⟨oc,od,kV,doc,pm,an,ak,ct,gg,e1,lk,gz⟩:=Fu.ex
    rw [lk] at GI
    have:=QD GI
    injection this with _ _ h3 _
    injection h3
   rw [e];exact G'
section
variable {K:Frag}
end
end L2
namespace L2
open PySem PySem.Spec PyProof.Rows
section
variable {g:Array GenState} {d:Drawn} {t:Nat} {os:OsState}
variable {nm q:Str} {N:Addr} {bs bm bmB:List Value} {hdct:Bool} {sn:List Str} {sub:List Value} {ab:Bool} {col:Option Bool} {dd:Option Addr} {k0 k1 k2 k3 k5:Option Value} {B Bn newId CK Bt GJ:String} {GK:List Value}
theorem wP (Fn:ExcBaseFacts Bn newId GJ GK) (CL:bmB.contains (.type Bn)=true) (F:ExcBaseFacts B CK Bt bmB) (T:OwnTail h bmB bm) {mN:Str->Option Value} {rest:List Value} {fI:Addr} {oI:Obj} {Q:Fin->Shared->Prop}
  (hC:h.get? C=some (excClassObj nm q C N bs bm hdct sn sub ab col dd k0 k1 k2 k3 k5 newId)) (hn:h.Ns N mN) (hi:mN "__init__"=some (.ref fI)) (El:h.get? fI=some oI) (Em:oI.cls=.type "function") (hl:rest.length<=sizeLine)
  (hq:∀ h' e,Heap.MadeExcOf h h' e (.ref C) rest->wpAny (model P w) A (call (.ref fI) (.ref e::rest)) (fun r s'=>r=.none/\Q (.done (.ret (.ref e))) s') E ⟨h',g,d,t,os⟩):
  wpAny (model P w) A (Builtin.«type.__call__» ⟨.ref C::rest,[]⟩) Q E ⟨h,g,d,t,os⟩:=by
 repeat (first | with_reducible refine wpAny_loadPart_at hC ?_ | with_reducible refine wpAny_madeBy_exc hC ?_ | wp_step)
 refine codeAny_call_builtin_code (Code.quiet_builtin _ Fn.quiet) (wpAny_check_new_subU Fn CL T hC (codeAny_exc_new_subU Fn CL F T hC ?_ hl))
 let h2:=(h.push {cls:=.type "tuple",data:=.seq rest.toArray}).push {cls:=.ref C,data:=.fields #[.ref h.objs.size,.none,.none,.none,.bool false,.none]}
 have up:∀ b o,h.get? b=some o->h2.get? b=some o:=fun b o e=>Qc _ (Qc _ e)
 have GL:=up _ _ hC
 have hn2:h2.Ns N mN:=let ⟨o,es,ep,e,r⟩:=hn;⟨o,es,ep,up _ _ e,r⟩
 have ge:h2.get? (h.objs.size+1)=some {cls:=.ref C,data:=.fields #[.ref h.objs.size,.none,.none,.none,.bool false,.none]}:=by
  show (Heap.push _ _).get? _=_
  have:=Qd (h.push {cls:=.type "tuple",data:=.seq rest.toArray}) (o:={cls:=.ref C,data:=.fields #[.ref h.objs.size,.none,.none,.none,.bool false,.none]}) rfl
  rw [Heap.size_push] at this;exact this
 have LX:(Value.ref C::bm).contains (.ref C)=true:=by simp
 show wpAny _ _ _ _ _ ⟨h2,g,d,t,os⟩
 unfold isInstance
 repeat (first | with_reducible refine wpAny_loadPart_at ge ?_ | (with_reducible refine wpAny_isSubtype_exc GL ?_;rw [LX]) | wp_step)
 show wpAny _ _ (typeLookup (.ref C) _) _ _ _
 refine wpAny_typeLookup_tail GL hn2 (T.keeps up) F.mroIs F.init.lookup ?_
 rw [hi]
 refine wpAny_holding (QS ?_)
 unfold bindSpecial
 refine QS (wpAny_typeOf (T:="function") ⟨_,up _ _ El,Em⟩ ?_)
 rw [if_pos (by decide)]
 refine QT (QS (wpAny_mono (hq h2 (h.objs.size+1) ⟨up,Heap.get?_none_of_le (Nat.le_succ _),h.objs.size,ge,Heap.get?_none_of_le (Qy _),Qc _ (Qd _ rfl)⟩) (fun r s' hr=>?_) fun _ _ x=>x))
 obtain ⟨rfl,hQ⟩:=hr
 wp_walk
 exact hQ
theorem wT (Fn:ExcBaseFacts Bn newId GJ GK) (CL:bmB.contains (.type Bn)=true) (F:ExcBaseFacts B CK Bt bmB) (T:OwnTail h bmB bm) {mN:Str->Option Value} {rest:List Value} {fI:Addr} {oI:Obj}
  (hC:h.get? C=some (excClassObj nm q C N bs bm hdct sn sub ab col dd k0 k1 k2 k3 k5 newId)) (hn:h.Ns N mN) (hi:mN "__init__"=some (.ref fI)) (El:h.get? fI=some oI) (Em:oI.cls=.type "function") (hl:rest.length<=sizeLine)
  (hq:∀ h' e,Heap.MadeExcOf h h' e (.ref C) rest->wpAny (model P w) (A.under (.builtin "type.__call__" ⟨.ref C::rest,[]⟩)) (call (.ref fI) (.ref e::rest)) (fun r s'=>r=.none/\Q (.ref e) s') E ⟨h',g,d,t,os⟩):
  wpAny (model P w) A (call (.ref C) rest) Q E ⟨h,g,d,t,os⟩:=by
 have f1:=tc_lookup
 have f2:=tc_bind (.ref C)
 have hT:(⟨h,g,d,t,os⟩:Shared).TypeIs (.ref C) "type":=⟨_,hC,rfl⟩
 refine wpAny_call (codeAny_of_tree ?_)
 show wpAny _ _ (callAny (.ref C) _) _ _ _
 repeat (any_goals (first | assumption | with_reducible refine wpAny_loadPart_at hC ?_ | wp_step))
 exact ⟨rfl,codeAny_call_builtin_at (Code.quiet_builtin _ (by decide+kernel)) entry_typeCall (wpAny_check_type_call_sub hC (wP Fn CL F T hC hn hi El Em hl hq))⟩
end
section
variable {nm q:Str} {N:Addr} {bs bm:List Value} {hdct:Bool} {sn:List Str} {sub:List Value} {ab:Bool} {col:Option Bool} {dd:Option Addr} {k0 k1 k2 k3 k5:Option Value} {newId:String}
theorem oM {x:Sem Value} {Q:Flow->Shared->Prop} (hb:bm.contains (.type "BaseException")=true) (hh:A.handled=none)
  (h:wpAny M A x (fun v s1=>∃ e t dct,v=.ref e/\s1.heap.get? C=some (excClassObj nm q C N bs bm hdct sn sub ab col dd k0 k1 k2 k3 k5 newId)/\s1.heap.get? e=some {cls:=.ref C,dict:=dct,data:=.fields #[.ref t,.none,.none,.none,.bool false,.none]}/\E (.ref e) s1) E s):
  wpAny M A (raiseStmt env (some x) none) Q E s:=by
 have hB:(Value.ref C::bm).contains (.type "BaseException")=true:=by rw [List.contains_cons,hb,Bool.or_true]
 unfold raiseStmt
 refine QS (wpAny_mono h (fun v s1 ⟨e,t,dct,ev,hC,he,hE⟩=>?_) fun _ _ x=>x)
 subst ev
 obtain ⟨hp,g,d,tk,os⟩:=s1
 repeat (first | with_reducible refine wpAny_loadPart_at he ?_ | with_reducible refine wpAny_loadPart_at hC ?_ | (with_reducible refine wpAny_isSubtype_exc hC ?_;rw [hB]) | wp_step)
 exact wpAny_raiseNew_none hh hE
end
def mq (h:Heap) (e C:Addr) (dct:Option Addr):Prop:=∃ t,h.get? e=some {cls:=.ref C,dict:=dct,data:=.fields #[.ref t,.none,.none,.none,.bool false,.none]}
section
variable {g:Array GenState} {d:Drawn} {t:Nat} {os:OsState}
variable {nm q:Str} {N e:Addr} {bs bm bmB:List Value} {hdct:Bool} {sn:List Str} {sub:List Value} {ab:Bool} {col:Option Bool} {dd:Option Addr} {k0 k1 k2 k3 k5:Option Value} {B newId CK Bt:String}
theorem wM (F:ExcBaseFacts B CK Bt bmB) (T:OwnTail h bmB bm) (hC:h.get? C=some (excClassObj nm q C N bs bm hdct sn sub ab col dd k0 k1 k2 k3 k5 newId)) (he:mq h e C dct) {args:List Value} (hl:args.length<=sizeLine)
  (hq:∀ h',(∀ b o,b≠e->h.get? b=some o->h'.get? b=some o)->mq h' e C dct->Q .none ⟨h',g,d,t,os⟩):
  wpAny (model P w) A (call (.builtin Bt) (.ref e::args)) Q E ⟨h,g,d,t,os⟩:=by
 obtain ⟨t0,he⟩:=he
 refine wpAny_call (codeAny_call_builtin F.init.plain F.initEntry (wpAny_check_init_subU F T hC he rfl ?_))
 wp_walk
 have h1:=Qc {cls:=.type "tuple",data:=.seq args.toArray} he
 refine hq _ (fun b o n q=>?_) ⟨h.objs.size,?_⟩
 ·rw [Heap.get?_update_other _ _ n.symm];exact Qc _ q
 ·exact Heap.get?_update_self _ h1 rfl
end
end L2
namespace L2
open PySem PySem.Spec PyProof.Rows PySem.W Builtin.ObjectAttr
abbrev CM:List Value:=[.type "ValueError",.type "Exception",.type "BaseException",.type "object"]
def o_ (own:List Addr):List Value:=own.map Value.ref++CM
theorem fR (self:Value):∀ own:List Addr,refuseLoop self "__setattr__" (o_ own)=pure ()
 | []=>PySem.F.store_ValueError.passes self
 | c::r=>by
  show refuseLoop self "__setattr__" (.ref c::o_ r)=_
  rw [refuseLoop_ref];exact fR self r
theorem dP (h:v∈CM) (own:List Addr):(o_ own).contains v=true:=by
 rw [List.contains_iff_mem];exact List.mem_append.mpr (.inr h)
section
variable {K:QZ} {e:Addr} {cd:ClassData} {own:List Addr}
theorem yA {Q:Unit->Shared->Prop} (X:K.In s.heap) (he:mq s.heap e C none) (hc:clsIn K C=some cd) (hm:cd.mro=o_ own) (hd:cd.hasDict=true) (hs:findIn K (.ref C) "__setattr__"=some (some (.builtin "object.__setattr__"))) (ha:findIn K (.ref C) name=some none)
  (hq:∀ h' dx tk,s.heap.get? dx=none->(∀ b o,b≠e->s.heap.get? b=some o->h'.get? b=some o)->mq h' e C (some dx)->h'.Ns1 dx (fun y=>if y=name then some v else none)->Q () {s with heap:=h',toks:=tk}):
  wpAny (model P w) A (setAttr (.ref e) name v) Q E s:=by
 obtain ⟨t,he⟩:=he
 have I:InstAt s.heap e _ C none:=⟨he,rfl,rfl,trivial⟩
 have SF:=PySem.F.store_object
 refine set_plain X I hs ?_
 have X1:K.In ({s with toks:=s.toks+1}:Shared).heap:=X
 have I1:InstAt ({s with toks:=s.toks+1}:Shared).heap e _ C none:=I
 have ne:cd.mro.isEmpty=false:=by rw [hm];cases own<;>rfl
 have sub:Looks (model P w) s.heap (isInstance (.ref e) (.type "object")) true:=I.type.andThen (looks_mroIn X (by unfold mroIn;rw [hc,Option.bind_some,if_neg (by rw [ne];decide),hm,dP (by decide)]))
 refine codeAny_call_builtin SF.slot.plain SF.entry (@check_slot (model P w) _ _ _ "object.__setattr__" "object" "__setattr__" (.ref e) [.str name s.toks,v] [] _ SF.kind SF.split sub (SF.args (.ref e) (.str name s.toks) v) ?_)
 have LY:Looks (model P w) ({s with toks:=s.toks+1}:Shared).heap (mroOf (.ref C)) cd.mro:=(looks_clsIn X hc).andThen .now
 rw [osa_eq,refuse_eq]
 refine QS (QS (I1.type.here (QS (LY.here ?_))))
 rw [hm,fR]
 refine QT (QS (I1.type.here (QS ((looks_findIn X1 ha).here (QS (Looks.here (.now:Looks (model P w) ({s with toks:=s.toks+1}:Shared).heap (storeTaker? none) none) ?_))))))
 dsimp only
 obtain ⟨hp,gn,dr,tk,os⟩:=s
 dsimp only at he X hq
 have hes:e≠hp.objs.size:=Nat.ne_of_lt (Qz he)
 let ox:Obj:={cls:=.ref C,data:=.fields #[.ref t,.none,.none,.none,.bool false,.none]}
 have CN:(hp.push {cls:=.type "dict",data:=.dict #[]}).get? e=some ox:=Qc _ he
 let h2:Heap:=(hp.push {cls:=.type "dict",data:=.dict #[]}).update e fun o=>{o with dict:=some hp.objs.size}
 have LZ:h2.get? e=some {ox with dict:=some hp.objs.size}:=Heap.get?_update_self _ CN rfl
 have hd2:h2.get? hp.objs.size=some {cls:=.type "dict",data:=.dict #[]}:=(Heap.get?_update_ne _ _ _ _ hes.symm).trans (Qd _ rfl)
 have n2:h2.Ns hp.objs.size (fun _=>none):=⟨_,#[],_,hd2,rfl,fun e he=>absurd he (by simp),fun _=>rfl⟩
 unfold storeInOwnDict ownDictForStores instanceDict
 refine QS (QT (QS (QS (wpAny_loadPart (s:=⟨hp,gn,dr,tk+1,os⟩) he (QS ((looks_clsIn (M:=model P w) X hc).here (s:=⟨hp,gn,dr,tk+1,os⟩) ?_))))))
 rw [hd,if_neg (by decide)]
 dsimp only
 rw [if_neg (by simp [typeHasDict])]
 refine QS (wpAny_alloc' (QS (wpAny_update' CN (QT ?_))))
 show wpAny _ _ (storeInDict hp.objs.size (.str name tk) name v) _ _ ⟨h2,gn,dr,tk+1,os⟩
 unfold storeInDict newKeyGuard
 refine QS (QT (QS (wpAny_nsSet1 (Heap.Ns1.of_empty n2) fun h' hn' GN=>?_)))
 obtain ⟨oD,OZ,O0,L4,L5,L6⟩:=hn'.count (Within.cons name v Within.nil)
 refine QS (wpAny_lookBehind L4 (by rw [L5];exact pastItsLine_dict (Nat.le_trans L6 (by rw [List.length_cons,List.length_nil,QK];omega))) (QT ?_))
 refine hq h' hp.objs.size _ (Heap.get?_none_of_le (Qy _)) (fun b o n q=>?_) ⟨t,(GN.2 e hes).trans LZ⟩ hn'
 exact (GN.2 b (Nat.ne_of_lt (Qz q))).trans ((Heap.get?_update_ne _ _ _ _ n).trans (Qc _ q))
end
end L2
namespace L2
open PySem PySem.Spec PyProof.Rows
def qz (h:Heap) (e C:Addr) (dct:Option Addr):Prop:=∃ vs:Array Value,h.get? e=some {cls:=.ref C,dict:=dct,data:=.fields vs}/\1 < vs.size/\
 (vs[1]? =some .none\/∃ T oT ts,vs[1]? =some (.ref T)/\T≠e/\h.get? T=some oT/\oT.data=.fields ts/\ts[3]? =some .none)
theorem mq.L7 {e:Addr} (x:mq h e C dct):qz h e C dct:=let ⟨_,q⟩:=x;⟨_,q,Nat.succ_lt_succ (Nat.succ_pos _),.inl rfl⟩
section
variable {L e:Addr} {Q:Unit->Shared->Prop}
structure En (fr:List Addr) (e:Addr) (h h':Heap):Prop where
 keep:∀ b o,b ∉ fr->b≠e->h.get? b=some o->h'.get? b=some o
 slot:∀ b o,b≠e->h.get? b=some o->∃ sl,h'.get? b=some {o with slots:=sl}
 Eo:∀ b o,h.get? b=some o->∃ o',h'.get? b=some o'
theorem l8 (i_:A.frames=some (env::outer)) (hl:s.heap.FunFrames base (env::outer)) (hf:env.frame=some L) (he:qz s.heap e C dct) (Ao:e ∉ (env::outer).filterMap (·.frame))
  (h:∀ h' tb,s.heap.get? tb=none->En ((env::outer).filterMap (·.frame)) e s.heap h'->qz h' e C dct->Q () {s with heap:=h'}):
  wpAny M A (noteFrame (.ref e) env) (fun _ s1=>wpAny M A (setFlight (.ref e) none) Q E s1) E s:=by
 obtain ⟨vs,g1,g2,g3⟩:=he
 have core:∀ (s1:Shared) (hd:Value) (b:Bool),s1.heap.FunFrames base (env::outer)->s1.heap.get? e=some {cls:=.ref C,dict:=dct,data:=.fields vs}->
   (∀ h' tb,s1.heap.get? tb=none->En ((env::outer).filterMap (·.frame)) e s1.heap h'->qz h' e C dct->Q () {s1 with heap:=h'})->
   wpAny M A (do let a <- frameOf env;let pl <- entryPlaceOf L b;let t <- EntryCells.newEntry hd a .none (rawInt L) .none pl;setField (.ref e) 1 t) (fun _ s2=>wpAny M A (setFlight (.ref e) none) Q E s2) E s1:=by
  intro s1 hd b uc CN k
  refine QS (wpAny_frameOf_fun i_ uc hf fun h1 so=>?_)
  refine QS (wpAny_entryPlaceOf fun pl hpl=>?_)
  unfold EntryCells.newEntry newFields
  refine QS (wpAny_newObj_type ?_ (hpl.sizeOk5 _ _ _ _ _))
  have e1:h1.get? e=some {cls:=.ref C,dict:=dct,data:=.fields vs}:=(so.2.1 e Ao).trans CN
  generalize GO:({cls:=.type "traceback",data:=.fields ([hd,Value.ref L,Value.none,rawInt L,Value.none]++if pl.isEmpty=true then List.replicate 6 Value.none else pl).toArray}:Obj)=ob
  have hob:ob.isFreed=false:=by rw [<- GO];rfl
  have e2:(h1.push ob).get? e=some {cls:=.ref C,dict:=dct,data:=.fields vs}:=Qc _ e1
  refine wpAny_setField e2 rfl g2 ?_
  have nT:h1.objs.size≠e:=Nat.ne_of_gt (Qz e1)
  have e3:((h1.push ob).update e (Obj.mapFields (·.setIfInBounds 1 (.ref h1.objs.size)))).get? e=some {cls:=.ref C,dict:=dct,data:=.fields (vs.setIfInBounds 1 (.ref h1.objs.size))}:=Heap.get?_update_self _ e2 rfl
  have t3:((h1.push ob).update e (Obj.mapFields (·.setIfInBounds 1 (.ref h1.objs.size)))).get? h1.objs.size=some ob:=(Heap.get?_update_other _ _ nT.symm).trans (Qd _ hob)
  generalize L8:(h1.push ob).update e (Obj.mapFields (·.setIfInBounds 1 (.ref h1.objs.size)))=h2 at e3 t3
  unfold setFlight
  refine QS (wpAny_field (s:={s1 with heap:=h2}) e3 rfl (x:=.ref h1.objs.size) (by simp [g2]) ?_)
  rw [if_pos (show (Value.ref h1.objs.size !=Value.none)=true from by simp)]
  obtain ⟨ts,ht,hts⟩:∃ ts:Array Value,ob.data=.fields ts/\3 < ts.size:=⟨_,by rw [<- GO],by simp only [List.size_toArray,Qk,List.length_cons,List.length_nil];omega⟩
  refine wpAny_setField (s:={s1 with heap:=h2}) t3 ht hts ?_
  have kp:∀ b o,b≠e->h1.get? b=some o->(h2.update h1.objs.size (Obj.mapFields (·.setIfInBounds 3 ((none:Option Addr).elim Value.none fun f=>rawInt f)))).get? b=some o:=fun b o n q=>by
   rw [Heap.get?_update_other _ _ (Nat.ne_of_gt (Qz q)),<- L8,Heap.get?_update_other _ _ n.symm]
   exact Qc _ q
  have e4:(h2.update h1.objs.size (Obj.mapFields (·.setIfInBounds 3 ((none:Option Addr).elim Value.none fun f=>rawInt f)))).get? e=some {cls:=.ref C,dict:=dct,data:=.fields (vs.setIfInBounds 1 (.ref h1.objs.size))}:=(Heap.get?_update_other _ _ nT).trans e3
  have t4:=Heap.get?_update_self (Obj.mapFields (·.setIfInBounds 3 ((none:Option Addr).elim Value.none fun f=>rawInt f))) t3 (Obj.isFreed_of_fields (Obj.data_mapFields ht _))
  refine k _ h1.objs.size (Heap.get?_none_of_le (by rw [so.1];exact Qy _)) ⟨fun b o n1 n2 q=>kp b o n2 ((so.2.1 b n1).trans q),fun b o n q=>?_,fun b o q=>?_⟩ ⟨_,e4,by simpa using g2,.inr ⟨h1.objs.size,_,_,by simp [g2],nT,t4,Obj.data_mapFields ht _,by simp [hts]⟩⟩
  ·obtain ⟨sl,q'⟩:=so.2.2 b o q
   exact ⟨sl,kp b _ n q'⟩
  ·by_cases n:b=e
   ·subst n;exact ⟨_,e4⟩
   ·obtain ⟨sl,q'⟩:=so.2.2 b o q
    exact ⟨_,kp b _ n q'⟩
 unfold noteFrame
 simp only [hf]
 rcases g3 with v1 | ⟨T,oT,ts,v1,ne,hT,ht,h3⟩
 ·refine QS (wpAny_field g1 rfl v1 ?_)
  rw [if_neg (by decide)]
  exact core s _ _ hl g1 h
 ·refine QS (wpAny_field g1 rfl v1 ?_)
  rw [if_pos (show (Value.ref T !=Value.none)=true from by simp)]
  refine QS (wpAny_field hT ht h3 ?_)
  rw [if_neg (show ¬((Value.none==rawInt L)=true) from by simp [rawInt])]
  refine QS (wpAny_setField hT ht (Array.getElem?_eq_some_iff.mp h3).1 ?_)
  have same:Obj.mapFields (·.setIfInBounds 3 Value.none) oT=oT:=by
   obtain ⟨oc,od,Ep,gg⟩:=oT
   have ht:Ep=.fields ts:=ht
   subst ht
   have:ts.setIfInBounds 3 Value.none=ts:=by
    obtain ⟨h4,h5⟩:=Array.getElem?_eq_some_iff.mp h3
    rw [<- h5,Array.setIfInBounds_def,dif_pos h4]
    exact Array.set_getElem_self h4
   show Obj.mk oc od (.fields (ts.setIfInBounds 3 Value.none)) gg=_
   rw [this]
  have tT:=Heap.get?_update_self (Obj.mapFields (·.setIfInBounds 3 Value.none)) hT (Obj.isFreed_of_fields (Obj.data_mapFields ht _))
  rw [same] at tT
  have ot:∀ b,(s.heap.update T (Obj.mapFields (·.setIfInBounds 3 Value.none))).get? b=s.heap.get? b:=fun b=>by
   by_cases z:b=T
   ·rw [z,tT,hT]
   ·exact Heap.get?_update_other _ _ (Ne.symm z)
  refine core {s with heap:=s.heap.update T (Obj.mapFields (·.setIfInBounds 3 Value.none))} _ _ (hl.of_keeps fun b o hb O1=>⟨o,(ot b).trans hb,rfl⟩) ((ot e).trans g1) fun h' tb q n f=>h h' tb ((ot tb).symm.trans q) ⟨fun b o x y hb=>n.keep b o x y ((ot b).trans hb),fun b o x hb=>n.slot b o x ((ot b).trans hb),fun b o hb=>n.Eo b o ((ot b).trans hb)⟩ f
end
def ie (C:Addr) (dct:Option Addr) (e:Addr):HO:=.ext fun h=>mq h e C dct
def ig (C:Addr) (dct:Option Addr) (e:Addr):HO:=.ext fun h=>∃ vs:Array Value,h.get? e=some {cls:=.ref C,dict:=dct,data:=.fields vs}
theorem qB {e:Addr} (x:mq h e C dct):a_ P w H h e (ie C dct e):=⟨x,let ⟨_,q⟩:=x;⟨_,q⟩,fun h1 h2 ⟨t,q⟩ k=>⟨t,k _ q⟩⟩
theorem yF {e:Addr} (x:qz h e C dct):a_ P w H h e (ig C dct e):=let ⟨_,q,_⟩:=x;⟨⟨_,q⟩,⟨_,q⟩,fun h1 h2 ⟨t,q⟩ k=>⟨t,k _ q⟩⟩
def ii (P:Program) (w:World):lq:=fun outer H s E ev s'=>∃ (e C:Addr) (dct:Option Addr) (H':Hp),ev=.ref e/\s'.os=s.os/\AllBare s'.gens/\Un (dm outer) [] H H' s.heap s'.heap/\bh P w H' s'.heap/\H' e=some (ig C dct e)/\qz s'.heap e C dct/\E (.ref e) dct H'
section
variable {e:Addr}
theorem bh.noted {fr:List Addr} {u:HO} (x:bh P w H h) (n:En fr e h h') (hf:∀ b∈fr,H b=none) (he:H e=some u) (nt:∀ xs,H e≠some (.tup xs)) (nz:∀ o v,H e≠some (.bq o v)) (no:∀ y,H e≠some (.own y)) (f:qz h' e C dct):bh P w (upd H e (ig C dct e)) h':=by
 intro b o q
 by_cases z:b=e
 ·subst z;rw [aA] at q;cases q;exact yF f
 ·rw [aF z] at q
  refine (x b o q).stay (fun c v hc g=>?_) (fun c g=>?_) fun c xs g=>g.upd fun u hu z=>?_
  ·have hn:∃ k,H c=some k:=by
    rcases hc with rfl | hc
    ·exact ⟨_,q⟩
    ·exact ⟨_,hc⟩
   obtain ⟨k,hk⟩:=hn
   refine n.keep c v (fun w=>by rw [hf c w] at hk;cases hk) (fun w=>?_) g
   rcases hc with rfl | hc
   ·exact z w
   ·rw [w] at hc;exact no _ hc
  ·rw [aF fun w=>no _ (by rw [<- w];exact g)];exact g
  ·subst z
   rcases g with g | ⟨o',g⟩
   ·exact nt _ g
   ·exact nz _ _ g
theorem oK {K:QZ} {cd:Value} {s0:Shared} {H0:Hp} {E:XK}
  (I:Inv (fg (ii P w) P w K mg base N qual scope f cd A outer s0 H0 E) pins σ H s) (he:H e=some (ie C dct e)) (q:E (.ref e) dct (upd H e (ig C dct e))):
  (fg (ii P w) P w K mg base N qual scope f cd A outer s0 H0 E).xe (.ref e) s:=by
 have hx:mq s.heap e C dct:=(show a_ P w H s.heap e (ie C dct e) from I.hok e _ he).1
 have fr:∀ b∈dm (envOfC qual scope s0.heap.objs.size f cd::outer),H b=none:=I.BR
 have Ao:e ∉ dm (envOfC qual scope s0.heap.objs.size f cd::outer):=fun z=>by rw [fr e z] at he;cases he
 show wpAny _ _ (leaving _ _) _ _ s
 unfold leaving
 refine QS (l8 (base:=base) (outer:=outer) (L:=s0.heap.objs.size) I.ok.frames I.stack rfl hx.L7 Ao fun h' tb _ n fl=>?_)
 refine ⟨e,C,dct,upd H e (ig C dct e),rfl,I.os,I.bare,?_,bh.noted I.hok n fr he (fun xs z=>by rw [he] at z;cases z) (fun o v z=>by rw [he] at z;cases z) (fun y z=>by rw [he] at z;cases z) fl,aA,fl,q⟩
 have B:Un (dm outer) [] H0 H s0.heap s.heap:=I.base
 have nL:∀ b o,s0.heap.get? b=some o->b ∉ dm outer->b ∉ dm (envOfC qual scope s0.heap.objs.size f cd::outer):=fun b o q hb z=>by
  have z':b∈s0.heap.objs.size::dm outer:=z
  rcases Qp.mp z' with z' | z'
  ·exact absurd (Qz q) (by rw [z'];exact Nat.lt_irrefl _)
  ·exact hb z'
 have ne:∀ {b},H b=none->b≠e:=fun hb z=>by rw [z,he] at hb;cases hb
 refine ⟨fun b o q hn hb hx=>n.keep b o (nL b o q hb) (ne (B.free b o q hn hx)) (B.keep b o q hn hb hx),fun b o q hn hb hx=>?_,fun b o q hn hx=>by rw [aF (ne (B.free b o q hn hx))];exact B.free b o q hn hx,fun b o q hx=>?_,fun b xs q=>?_,fun b o u q=>?_,fun b ps q=>?_⟩
 ·obtain ⟨sl,q'⟩:=B.slot b o q hn hb hx
  obtain ⟨AG,L_⟩:=n.slot b _ (ne (B.free b o q hn hx)) q'
  exact ⟨AG,L_⟩
 ·obtain ⟨o',q'⟩:=B.there b o q hx
  exact n.Eo b o' q'
 ·have:=B.tups b xs q
  rw [aF fun z=>by rw [z,he] at this;cases this];exact this
 ·have:=B.ir b o u q
  rw [aF fun z=>by rw [z,he] at this;cases this];exact this
 ·obtain ⟨mo,this⟩:=B.jg b ps q
  exact ⟨mo,by rw [aF fun z=>by rw [z,he] at this;cases this];exact this⟩
theorem jd {Q:Unit->Shared->Prop} {E':Value->Shared->Prop} {E:XK} {s':Shared} {ev:Value} (I:Inv X pins σ H s) (gq:X.stack=X.env::X.outer) (i_:X.env.frame=some X.env.locals) (c:ii X.prog X.w X.stack H s E ev s')
  (k:∀ (e C:Addr) (dct:Option Addr) (H':Hp) (s2:Shared),ev=.ref e->Inv X pins σ H' s2->H' e=some (ig C dct e)->E (.ref e) dct H'->qz s2.heap e C dct->Q () s2):
  wpAny (model X.prog X.w) X.A (noteFrame ev X.env) (fun _ s1=>wpAny (model X.prog X.w) X.A (setFlight ev none) Q E' s1) E' s':=by
 obtain ⟨e,C,dct,H',rfl,os,bare,un,hok,he,fl,q⟩:=c
 have I1:=I.Fq os un hok bare (fun b z=>absurd z (by simp))
 have fr:∀ b∈dm X.stack,H' b=none:=I1.BR
 have Ao:e ∉ dm X.stack:=fun z=>by rw [fr e z] at he;cases he
 have fk:=I1.ok.frames
 have sk:=I1.stack
 rw [gq] at fr Ao fk sk
 refine l8 fk sk i_ fl Ao fun h' tb _ n GP=>?_
 have Cu:=bh.noted hok n fr he (fun xs z=>by rw [he] at z;cases z) (fun o v z=>by rw [he] at z;cases z) (fun y z=>by rw [he] at z;cases z) GP
 rw [jJ he] at Cu
 have ne:∀ {b},H' b=none->b≠e:=fun hb z=>by rw [z,he] at hb;cases hb
 have Ma:dm (X.env::X.outer)=X.env.locals::X.fs:=by unfold dm;rw [List.filterMap_cons,i_];rfl
 have I2:Inv X pins σ H' {s' with heap:=h',gens:=s'.gens,drawn:=s'.drawn,toks:=s'.toks}:=by
  refine I1.step (ch:=[]) (fun _ z=>nomatch z) (fun b o h1 h2 _ g hn=>n.keep b o (fun z=>?_) (ne hn) g) (fun b o _ _ _ g hn=>n.slot b o (ne hn) g) (fun b o _ g hn=>hn) (fun b o _ g=>n.Eo b o g) (fun _ _ g=>g) (fun _ _ _ g=>g) (fun b ps g=>⟨#[],by rw [g];simp⟩) (fun m hm=>?_) Cu I1.bare
  ·rw [show (X.env::X.outer).filterMap (·.frame)=X.env.locals::X.fs from Ma] at z
   rcases Qp.mp z with z | z
   ·exact h1 z
   ·exact h2 z
  ·obtain ⟨o,es,ep,ho,hd,r⟩:=hm
   obtain ⟨sl,q'⟩:=n.slot _ o (ne I1.free) ho
   exact ⟨_,es,ep,q',hd,r⟩
 exact k e C dct H' _ rfl I2 he q GP
end
end L2
namespace L2
open PySem PySem.Spec PyProof.Rows PySem.W
abbrev Cx.jd (X:Cx) (e:Addr):Cx:={X with A:=X.A.mark (some (.ref e)),calm:=false,xe:=fun _ _=>False}
section
variable {e CC:Addr}
theorem Inv.jd (I:Inv X pins σ H s) (e:Addr):Inv (X.jd e) pins σ H s:=
 ⟨⟨I.ok.mod,I.ok.kind,I.ok.glob,I.ok.blt,I.ok.above,I.ok.inj,I.ok.has,I.ok.wu,(fun z=>nomatch z),I.ok.frames,I.ok.zm,I.ok.BQ,I.ok.bs,I.ok.nc,I.ok.wx,I.ok.zo,I.ok.jr,I.ok.sj⟩,I.os,I.bare,I.base,I.loc,I.cell,I.free,I.jh,I.pin,I.hok,I.len⟩
theorem Inv.uncaught (I:Inv (X.jd e) pins σ H s) (ok:X.Ok):Inv X pins σ H s:=⟨ok,I.os,I.bare,I.base,I.loc,I.cell,I.free,I.jh,I.pin,I.hok,I.len⟩
structure Bu (K:Frag) (CC:Addr):Prop where
 ty:typeIn K (.ref CC)=some (.type "type")
 tu:subIn K (.type "type") (.type "tuple")=some false
 cl:∃ cd,clsIn K CC=some cd
 ex:subIn K (.ref CC) (.type "BaseException")=some true
theorem m4 (x:bh P w H s.heap) (he:H e=some (ig C dct e)):∃ vs:Array Value,s.heap.get? e=some {cls:=.ref C,dict:=dct,data:=.fields vs}:=(show a_ P w H s.heap e (ig C dct e) from x e _ he).1
theorem qC {o:Obj} (q:h.get? e=some o):Looks M h (typeOf (.ref e)) o.cls:=(Looks.ld q).andThen .now
theorem oA {K:Frag} {b:Bool} {Q:Bool->Shared->Prop} {o:Obj} (X:K.In s.heap) (N:Bu K CC) (hs:subIn K (.ref C) (.ref CC)=some b) (ho:s.heap.get? e=some o) (hc:o.cls=.ref C) (q:Q b s):
  wpAny M A (excMatches (.ref e) (.ref CC)) Q E s:=by
 have t1:Looks M s.heap (isInstance (.ref CC) (.type "tuple")) false:=(looks_typeIn X N.ty).andThen (looks_subIn X N.tu)
 have t2:Looks M s.heap (isType (.ref CC)) true:=by
  obtain ⟨cd,hc⟩:=N.cl
  unfold clsIn at hc
  split at hc
  ·rename_i ho;cases hc;exact (Looks.ld (part:=some headPart) (X _ _ ho)).andThen .now
  ·cases hc
 have t3:Looks M s.heap (isExcClass (.ref CC)) true:=t2.andThen (by rw [if_pos rfl];exact looks_subIn X N.ex)
 have t4:Looks M s.heap (typeOf (.ref e)) (.ref C):=by rw [<- hc];exact qC ho
 unfold excMatches
 refine QS (t1.here ?_)
 dsimp only
 rw [if_neg (by decide)]
 refine QS (QT ?_)
 simp only [List.forIn_cons,List.forIn_nil]
 refine QS (QS (QS (t3.here ?_)))
 refine QT (QT (QS (t4.here ?_)))
 refine QS (QS (QS ((looks_subIn X hs).here ?_)))
 cases b with
 | true=>exact QT (QT (QT q))
 | false=>exact QT (QT (QT q))
def PH (X:Cx) (hs:List ExceptHandler) (th:Addr->Addr->Option Addr->TS):Prop:=
 ∀ (pins:List (Addr×Obj)) (s:Shared) (σ:St) (H:Hp) (D:Ends) (e C:Addr) (dct:Option Addr),Inv X pins σ H s->H e=some (ig C dct e)->qz s.heap e C dct->th e C dct D σ H->wpAny (model X.prog X.w) X.A (handleBy (.ref e) X.env hs) (SP X pins D) X.xe s
def GQ:Addr->Addr->Option Addr->TS:=fun _ _ _ _ _ _=>False
def GR (K:Frag) (CC:Addr) (j:Nat) (ts:TS) (th:Addr->Addr->Option Addr->TS):Addr->Addr->Option Addr->TS:=fun e C dct D σ H=>∃ b,subIn K (.ref C) (.ref CC)=some b/\
 if b=true then ts {nx:=fun σ' H'=>D.nx (σ'.set j none) H',rt:=D.rt,bk:=fun σ' H'=>D.bk (σ'.set j none) H',ct:=fun σ' H'=>D.ct (σ'.set j none) H'} (σ.set j (some (.ref e))) H else th e C dct D σ H
theorem zX:PH X [] GQ:=fun _ _ _ _ _ _ _ _ _ _ _ h=>h.elim
theorem fC {Q:Unit->Shared->Prop} (f:qz s.heap e C dct) (h:∀ h',(∀ b,h'.get? b=s.heap.get? b)->Q () {s with heap:=h'}):wpAny M A (setFlight (.ref e) none) Q E s:=by
 obtain ⟨vs,g1,g2,g3⟩:=f
 unfold setFlight
 rcases g3 with v1 | ⟨T,oT,ts,v1,ne,hT,ht,h3⟩
 ·refine QS (wpAny_field g1 rfl v1 ?_)
  rw [if_neg (by decide)]
  exact QT (h s.heap fun _=>rfl)
 ·refine QS (wpAny_field g1 rfl v1 ?_)
  rw [if_pos (show (Value.ref T !=Value.none)=true from by simp)]
  refine wpAny_setField hT ht (Array.getElem?_eq_some_iff.mp h3).1 (h _ fun b=>?_)
  have same:Obj.mapFields (·.setIfInBounds 3 Value.none) oT=oT:=by
   obtain ⟨oc,od,Ep,gg⟩:=oT
   have ht:Ep=.fields ts:=ht
   subst ht
   have:ts.setIfInBounds 3 Value.none=ts:=by
    obtain ⟨h4,h5⟩:=Array.getElem?_eq_some_iff.mp h3
    rw [<- h5,Array.setIfInBounds_def,dif_pos h4]
    exact Array.set_getElem_self h4
   show Obj.mk oc od (.fields (ts.setIfInBounds 3 Value.none)) gg=_
   rw [this]
  by_cases z:b=T
  ·subst z
   have tT:=Heap.get?_update_self (Obj.mapFields (·.setIfInBounds 3 Value.none)) hT (Obj.isFreed_of_fields (Obj.data_mapFields ht _))
   rw [same] at tT
   exact tT.trans hT.symm
  ·exact Heap.get?_update_other _ _ (Ne.symm z)
theorem Mb {c:Str} {cp pos:Pos} {b0:Stmt} {q_:List Stmt} {rest:List ExceptHandler} {ts:TS} {th:Addr->Addr->Option Addr->TS} (hg:Gl X c) (hm:X.mg c=some (.ref CC)) (N:Bu X.K CC) (hN:X.N.Nodup) (hj:X.N[j]? =some y) (hy:X.env.scope.names.lookup y=some .local)
  (hs:∀ e,iu (X.jd e) (b0::q_) ts) (hr:PH X rest th) (hd:(c==("__debug__":Str))=false:=by decide):PH X (.ExceptHandler (some (.Name c cp)) (some y) (b0::q_) pos::rest) (GR X.K CC j ts th):=by
 intro pins s σ H D e C dct I he fl h
 obtain ⟨b,hb,h⟩:=h
 have Ic:=I.jd e
 refine wpAny_handleBy_cons (codeAny_handlers_test (dW (X:=X.jd e) Ic hg hm ?_ hd)) (by intro q;cases q)
 obtain ⟨vs,ho⟩:=m4 I.hok he
 refine oA I.bz N hb ho rfl ?_
 cases b with
 | false=>exact hr pins s σ H D e C dct I he fl h
 | true=>
  refine codeAny_handlers_suite_as (fC fl fun h' same=>?_)
  have I2:Inv X pins σ H {s with heap:=h'}:=I.kept (t':=s.toks) fun b o q=>(same b).trans q
  refine fZ (v:=.ref e) I2 hN hj (.inl hy) rfl (fun s3 I3 _=>?_) (.inr hy)
  rw [if_pos rfl] at h
  refine wpAny_mono (hs e pins s3 _ H _ (I3.jd e) h) (fun f s4 q4=>?_) fun _ _ z=>z.elim
  have gone:∀ {σ':St} {H':Hp} {R:Unit->Shared->Prop},Inv (X.jd e) pins σ' H' s4->(∀ s5,Inv X pins (σ'.set j none) H' s5->R () s5)->wpAny (model X.prog X.w) X.A (do bindName X.env y .none;unbindBehindTheSuite X.env y pos) R X.xe s4:=by
   intro σ' H' R J k
   have J:=J.uncaught I.ok
   obtain ⟨m,hn,hl⟩:=id J.loc
   refine wpAny_nameGoes_keeps (by show X.env.scope.names.lookup y=some .local;exact hy) hn (by rw [I.ok.kind];rfl) fun h5 v n5 sb=>k _ ?_
   have kp:∀ b o,b≠X.env.locals->s4.heap.get? b=some o->h5.get? b=some o:=fun b o n q=>(sb.2 b n).trans q
   have nL:∀ {b o},X.s₀.heap.get? b=some o->b≠X.env.locals:=fun q=>Nat.ne_of_lt (Nat.lt_of_lt_of_le (Qz q) I.ok.above)
   have nT:∀ {b u},H' b=some u->b≠X.env.locals:=fun q z=>by rw [z,J.free] at q;cases q
   refine ⟨J.ok,J.os,J.bare,⟨fun b o e n hb hx=>kp b o (nL e) (J.base.keep b o e n hb hx),fun b o e n hb hx=>?_,J.base.free,fun b o e hx=>?_,J.base.tups,J.base.ir,J.base.jg⟩,⟨_,n5,fun i x v' e1 e2 e3=>?_⟩,fun x c q=>?_,J.free,J.jh,fun p hp=>?_,fun b u q=>?_,by rw [List.length_set];exact J.len⟩
   ·obtain ⟨sl,q⟩:=J.base.slot b o e n hb hx
    exact ⟨sl,kp b _ (nL e) q⟩
   ·obtain ⟨o',q⟩:=J.base.there b o e hx
    exact ⟨o',kp b _ (nL e) q⟩
   ·by_cases yj:i=j
    ·subst yj
     have bc:i < σ'.length:=by rw [J.len];exact (List.getElem?_eq_some_iff.mp hj).1
     rw [List.getElem?_set_self bc] at e2;cases e2
    ·rw [List.getElem?_set_ne (Ne.symm yj)] at e2
     obtain ⟨u,r,q⟩:=hl i x v' e1 e2 e3
     refine ⟨u,r,?_⟩
     rcases q with ⟨k1,q⟩ | ⟨k1,c,q,z⟩
     ·have:x≠y:=fun z=>yj (jX hN e1 (z▸hj))
      exact .inl ⟨k1,by simp [this,q]⟩
     ·exact .inr ⟨k1,c,q,z.sameBut sb (J.sr x c q)⟩
   ·obtain ⟨w',z⟩:=J.cell x c q
    exact ⟨w',z.sameBut sb (J.sr x c q)⟩
   ·obtain ⟨q,n,ne,nf,d⟩:=J.pin p hp
    exact ⟨kp _ _ ne q,n,ne,nf,d⟩
   ·refine (J.hok b u q).stay (fun c w' hc g=>kp c w' ?_ g) (fun _ g=>g) fun _ _ g=>g
    rcases hc with rfl | hc
    ·exact nT q
    ·exact nT hc
  cases f with
  | next=>
   obtain ⟨σ',H',J,q⟩:=q4
   exact gone J fun s5 I5=>⟨_,_,I5,q⟩
  | brk=>
   obtain ⟨σ',H',J,q⟩:=q4
   exact gone J fun s5 I5=>⟨_,_,I5,q⟩
  | cont=>
   obtain ⟨σ',H',J,q⟩:=q4
   exact gone J fun s5 I5=>⟨_,_,I5,q⟩
  | ret u=>
   obtain ⟨v,σ',H',J,rv,q⟩:=q4
   exact gone J fun s5 I5=>⟨v,_,_,I5,rv,q⟩
end
theorem rC {C' e:Addr} {d d':Option Addr} (h:ig C d e=ig C' d' e):C=C'/\d=d':=by
 have h1:=HO.ext.inj h
 let hp:Heap:={objs:=Array.replicate (e+1) {cls:=.ref C,dict:=d,data:=.fields #[]}}
 have g:hp.get? e=some {cls:=.ref C,dict:=d,data:=.fields #[]}:=by
  rw [Heap.get?_some_iff]
  exact ⟨by simp [hp],rfl⟩
 have h2:∃ vs:Array Value,hp.get? e=some {cls:=.ref C',dict:=d',data:=.fields vs}:=(congrFun h1 hp)▸⟨_,g⟩
 obtain ⟨vs,q⟩:=h2
 rw [g] at q
 injection q with q
 injection q with a b
 injection a with a
 exact ⟨a,b⟩
def Bv (P:Program) (w:World) (K:Frag) (mg:Str->Option Value) (base:Heap) (k:Nat) (x:Str) (ps:List Str) (sp:Sp):Prop:=
 ∃ (f:Addr) (fd:FuncData),kj P w K mg base (ii P w) k f fd ps sp/\mg x=some (.ref f)/\keepIn K (.ref f)=true/\Binds K fd ps []
section
variable {k:Nat} {sp:Sp} {p epos pos yp:Pos} {h0:ExceptHandler} {hs:List ExceptHandler} {th:Addr->Addr->Option Addr->TS}
abbrev Er (th:Addr->Addr->Option Addr->TS) (D:Ends) (σ:St):XK:=fun ev dct H2=>∀ e C,ev=.ref e->H2 e=some (ig C dct e)->th e C dct D σ H2
theorem uS {D:Ends} {Q:VK} {R:Value->Shared->Prop} (F:Bv X.prog X.w X.K X.mg X.base k x ps sp) (hr:ck k X.A) (hg:Gl X x) (ha:PA X.nj (e::es) ta) (hh:PH X (h0::hs) th) (gq:X.stack=X.env::X.outer) (i_:X.env.frame=some X.env.locals)
  (I:Inv X pins σ H s) (h:ta σ H fun vs H1=>sp vs H1 Q (Er th D σ)) (k1:∀ v u H2 s2,Inv X pins σ H2 s2->RelV v u->Q v H2->R u s2)
  (c_:(x==("__debug__":Str))=false) (he:starEach (e::es) X.env=(false,eval e X.env)::starEach es X.env) (hpl:(backTo cpos (starEach es X.env)).any (·.1)=false):
  wpAny (model X.prog X.w) X.A (eval (.Call (.Name x p) (e::es) [] cpos) X.env) R (fun ev s1=>wpAny (model X.prog X.w) X.A (noteFrame ev X.env) (fun _ s₂=>wpAny (model X.prog X.w) X.A (setFlight ev none) (fun _ s₃=>wpAny (model X.prog X.w) X.A (handleBy ev X.env (h0::hs)) (SP X pins D) X.xe s₃) X.xe s₂) X.xe s1) s:=by
 obtain ⟨f,fd,F,hm,hk,hb⟩:=F
 refine wpAny_Call_Name_kw (dW I hg hm ?_ c_)
 have In:Inv X.nj pins σ H s:=⟨⟨I.ok.mod,I.ok.kind,I.ok.glob,I.ok.blt,I.ok.above,I.ok.inj,I.ok.has,I.ok.wu,I.ok.hd,I.ok.frames,I.ok.zm,I.ok.BQ,I.ok.bs,I.ok.nc,I.ok.wx,I.ok.zo,I.ok.jr,I.ok.sj⟩,I.os,I.bare,I.base,I.loc,I.cell,I.free,I.jh,I.pin,I.hok,I.len⟩
 refine callWith_K (h₀:=X.base) I.ok.mod.zk hk (wpAny_mono (ha cpos pins s σ H _ In h) (fun us s1 q=>?_) fun _ _ z=>z.elim) he hpl
 obtain ⟨vs,H1,I1,r,q⟩:=q
 have I1:Inv X pins σ H1 s1:=⟨I.ok,I1.os,I1.bare,I1.base,I1.loc,I1.cell,I1.free,I1.jh,I1.pin,I1.hok,I1.len⟩
 refine ⟨I1.bz,?_⟩
 have hl:us.length=ps.length:=by rw [<- r.length];exact F.len _ _ _ _ q
 refine wpAny_call (codeAny_mono (F.run X.A X.stack s1 H1 ⟨us,[]⟩ us vs Q (Er th D σ) hr I1.Dr (by have:=hb s1 us I1.bz (by simpa using hl);simpa using this) r q) fun r s' hq=>?_)
 cases r with
 | error ev=>exact jd I1 gq i_ hq fun e C dct H' s2 ee I2 ic q' fl=>by subst ee;exact hh pins s2 σ H' D e C dct I2 ic fl (q' e C rfl ic)
 | ok fl=>
  cases fl with
  | ret u=>
   obtain ⟨v,H2,I2,rv,q2⟩:=I1.after hq
   exact k1 v u H2 s' I2 rv q2
  | next=>exact hq.elim
  | brk=>exact hq.elim
  | cont=>exact hq.elim
def GS (i:Nat) (sp:Sp) (ta:TA) (th:Addr->Addr->Option Addr->TS):TS:=fun D σ H=>ta σ H fun vs H1=>sp vs H1 (fun v H2=>D.nx (σ.set i (some v)) H2) (Er th D σ)
theorem wB (F:Bv X.prog X.w X.K X.mg X.base k x ps sp) (hr:ck k X.A) (hg:Gl X x) (ha:PA X.nj (e::es) ta) (hh:PH X (h0::hs) th) (gq:X.stack=X.env::X.outer) (i_:X.env.frame=some X.env.locals)
  (hN:X.N.Nodup) (hi:X.N[i]? =some y) (hy:X.env.scope.names.lookup y=some .local)
  (c_:(x==("__debug__":Str))=false:=by decide) (he:starEach (e::es) X.env=(false,eval e X.env)::starEach es X.env:=by rfl) (hpl:(backTo cpos (starEach es X.env)).any (·.1)=false:=by rfl)
  (ve:swapsWith (.Call (.Name x p) (e::es) [] cpos) (some (.Name y yp)) epos.line X.env=pure false:=by rfl):PS X (.Try [.Assign [.Name y yp] (.Call (.Name x p) (e::es) [] cpos) epos] (h0::hs) [] [] pos) (GS i sp ta th):=by
 intro pins s σ H D I h
 refine wpAny_Try_except (wpAny_execs_cons (wpAny_Assign_Name (uS (Q:=fun v H2=>D.nx (σ.set i (some v)) H2) F hr hg ha hh gq i_ I h (fun v u H2 s2 I2 rv q=>?_) c_ he hpl) ve))
 exact fZ I2 hN hi (.inl hy) rv (fun s3 I3 _=>wpAny_execs_nil (wpAny_execs_nil ⟨_,H2,I3,q⟩)) (.inr hy)
end
end L2
namespace L2
open PySem PySem.Spec PySem.W PyProof.Rows
def CO (K:Frag) (C:Addr):List Str->Bool
 | []=>true
 | f::l=>(match findIn K (.ref C) f with | some none=>true | _=>false)&&CO K C l
section
variable {K:Frag}
theorem iS:∀ {C:Addr} {l:List Str},CO K C l=true->∀ f∈l,FN K C f
 | C,f::l,e,g,hg=>by
  unfold CO at e
  rw [Bool.and_eq_true_iff] at e
  rcases Qp.mp hg with rfl | hg
  ·have e1:=e.1
   split at e1
   ·assumption
   ·cases e1
  ·exact iS e.2 g hg
end
section
variable {H1:Hp} {fs ex:List Addr}
theorem a_.there (x:a_ P w H h a o):∃ ob,h.get? a=some ob:=by
 cases o with
 | lst xs=>obtain ⟨_,_,_,_,e⟩:=x;exact ⟨_,e⟩
 | tup xs=>obtain ⟨_,_,_,o,e,_⟩:=x;exact ⟨_,e⟩
 | dK kvs=>obtain ⟨_,_,_,_,o,_,_,e,_⟩:=x;exact ⟨_,e⟩
 | dT kvs=>obtain ⟨_,_,_,_,o,_,_,e,_⟩:=x;exact ⟨_,e⟩
 | set S n=>obtain ⟨o,_,_,_,e,_⟩:=x;exact ⟨_,e⟩
 | ins C dx fs=>obtain ⟨_,_,_,e,_⟩:=x;exact ⟨_,e⟩
 | own y=>exact x
 | xd fs=>obtain ⟨_,⟨_,_,_,e,_⟩,_⟩:=x;exact ⟨_,e⟩
 | BP lo hi=>obtain ⟨_,_,_,e⟩:=x;exact ⟨_,e⟩
 | bq ob u=>obtain ⟨e,_⟩:=x;exact ⟨_,e⟩
 | uq ps=>exact ⟨_,x⟩
 | met f y=>exact ⟨_,x⟩
 | ext φ=>exact x.2.1
theorem bh.free (x:bh P w H h) (e:h.get? a=none):H a=none:=by
 cases q:H a with
 | none=>rfl
 | some u=>obtain ⟨ob,z⟩:=(x a u q).there;rw [e] at z;cases z
theorem bh.more (x:bh P w H h) (k:∀ b u,h.get? b=some u->h'.get? b=some u) (hn:H a=none) (new:a_ P w (upd H a o) h' a o):bh P w (upd H a o) h':=fun b u e=>by
 by_cases hb:b=a
 ·subst hb;rw [aA] at e;cases e;exact new
 ·rw [aF hb] at e
  exact (x b u e).stay (fun c v _ q=>k c v q) (fun c q=>by rw [aF (aJ q hn)];exact q) fun c xs q=>q.upd fun u hu=>aJ hu hn
theorem Un.more (u:Un fs ex H H1 h h') (e:h.get? a=none) (hn:H1 a=none):Un fs ex H (upd H1 a o) h h' where
 keep:=u.keep
 slot:=u.slot
 free:=fun b ob q n hx=>by rw [aF fun z=>by rw [z,e] at q;cases q];exact u.free b ob q n hx
 there:=u.there
 tups:=fun b xs q=>by have:=u.tups b xs q;rw [aF (aJ this hn)];exact this
 ir:=fun b ob xs q=>by have:=u.ir b ob xs q;rw [aF (aJ this hn)];exact this
 jg:=fun b ps q=>by obtain ⟨m,this⟩:=u.jg b ps q;exact ⟨m,by rw [aF (aJ this hn)];exact this⟩
end
def Bw (K:Frag) (N:Addr):Option (Option Value):=match K.lookup N with
 | some ⟨_,_,.dict es _,_⟩=>if es.all (fun e=>match e.key with | .str _ _=>true | _=>false) then some (nsFind es "__init__") else none
 | _=>none
def Bx (K:Frag):List Addr->Bool
 | []=>true
 | A::l=>(match K.lookup A with | some ⟨_,_,.cls cd,_⟩=>Bw K cd.ns==some none | _=>false)&&Bx K l
def ky (K:Frag) (C:Addr) (own:List Addr) (j_:Option Value):Bool:=match K.lookup C with
 | some ⟨c,_,.cls cd,sl⟩=>c==.type "type"&&(cd.mro==.ref C::o_ own&&(!cd.hasDel&&(cd.hasDict&&(sl.size==6&&(sl[4]?==some (some (.builtin "ValueError.__new__"))&&(Bw K cd.ns==some j_&&(Bx K own&&keepIn K (.ref C))))))))
 | _=>false
section
variable {K:Frag} {N:Addr} {own:List Addr} {j_:Option Value}
theorem kA (X:K.In h) (e:Bw K N=some j_):h.Ns N (h.nsMap N)/\h.nsMap N "__init__"=j_:=by
 unfold Bw at e
 split at e
 ·rename_i c d es ep sl lk
  split at e
  ·rename_i hs
   have g:=X _ _ lk
   refine ⟨.of_isNs ?_,?_⟩
   ·unfold Heap.isNs;rw [g];exact hs
   ·unfold Heap.nsMap;rw [g];exact QD e
  ·cases e
 ·cases e
theorem jE (X:K.In h):∀ {own:List Addr},Bx K own=true->OwnTail h CM (o_ own)
 | [],_=>.base
 | A::l,e=>by
  unfold Bx at e
  rw [Bool.and_eq_true_iff] at e
  obtain ⟨e1,e2⟩:=e
  split at e1
  ·rename_i c d cd sl lk
   obtain ⟨n1,n2⟩:=kA X (beq_iff_eq.mp e1)
   exact .own (X _ _ lk) n1 n2 (jE X e2)
  ·cases e1
theorem i8 (e:ky K C own j_=true):∃ nm q N bs sn sub ab col dd k0 k1 k2 k3 k5,K.lookup C=some (excClassObj nm q C N bs (o_ own) true sn sub ab col dd k0 k1 k2 k3 k5 "ValueError.__new__")/\Bw K N=some j_/\Bx K own=true/\keepIn K (.ref C)=true:=by
 unfold ky at e
 split at e
 ·rename_i c d cd sl lk
  obtain ⟨nm,bs,mro,N,q,hdct,sn,sub,ab,col,O2⟩:=cd
  simp only [Bool.and_eq_true,beq_iff_eq,Bool.not_eq_true'] at e
  obtain ⟨rfl,rfl,rfl,rfl,hsz,DH,hn,hu,hk⟩:=e
  obtain ⟨l⟩:=sl
  obtain ⟨k0,k1,k2,k3,k5,rfl⟩:=six_places (l:=l) (by simpa using hsz) (by simpa using DH)
  exact ⟨nm,q,N,bs,sn,sub,ab,col,d,k0,k1,k2,k3,k5,lk,hn,hu,hk⟩
 ·cases e
theorem mF (e:ky K C own j_=true):∃ cd,clsIn K C=some cd/\cd.mro=o_ (C::own)/\cd.hasDict=true:=by
 obtain ⟨nm,q,N,bs,sn,sub,ab,col,dd,k0,k1,k2,k3,k5,lk,_⟩:=i8 e
 exact ⟨_,by unfold clsIn;rw [lk],rfl,rfl⟩
theorem vV (e:ky K C own j_=true) (h:v∈CM):subIn K (.ref C) v=some true:=by
 obtain ⟨cd,h1,h2,_⟩:=mF e
 show mroIn K C v=_
 unfold mroIn
 rw [h1,Option.bind_some,h2,if_neg (by simp [o_]),dP h]
theorem Mc (e:ky K C own j_=true):Bu K C:=by
 obtain ⟨cd,h1,_⟩:=mF e
 obtain ⟨nm,q,N,bs,sn,sub,ab,col,dd,k0,k1,k2,k3,k5,lk,_⟩:=i8 e
 exact ⟨by show (K.lookup C).map _=_;rw [lk];rfl,by show (fastBuiltinMro "type").map _=_;decide+kernel,⟨cd,h1⟩,vV e (by decide)⟩
end
section
variable {K:Frag} {e:Addr} {ox:Obj} {od:Option Obj} {expr:Bool}
theorem y0 (X:K.In s.heap) (I:InstAt s.heap e ox C od) (Ed:findIn K (.ref C) "__getattribute__"=some (some (.builtin "BaseException.__getattribute__"))) (hk:findIn K (.ref C) "__getattr__"=some none)
  (sub:subIn K (.ref C) (.type "BaseException")=some true) (hf:findObj K C od name=some (.value v)) (hh:handedIn v=true) (h:Q v {s with toks:=s.toks+1}):wpAny (model P w) A (getAttr (.ref e) name expr) Q E s:=by
 have ht:Looks (model P w) s.heap (typeOf (.ref e)) (.ref C):=I.type
 refine QS (wpAny_mkText (wpAny_holding (QS (ht _ _ _ _ (fun _ _ e=>e) (QS (looks_findIn X Ed _ _ _ _ (fun _ _ e=>e) ?_))))))
 dsimp only
 rw [show (onTheHeap (.ref C)&&Value.builtin "BaseException.__getattribute__"==Value.builtin "object.__getattribute__")=false from by rw [show (Value.builtin "BaseException.__getattribute__"==Value.builtin "object.__getattribute__")=false from by decide+kernel,Bool.and_false],if_neg (by decide)]
 have hb:Looks (model P w) s.heap (hookBefore (.ref C)) none:=by
  unfold hookBefore;rw [if_pos (by rfl)];exact looks_findIn X hk
 refine QS (hb _ _ _ _ (fun _ _ e=>e) (QS (wpAny_attempt (wpAny_holding ?_))))
 unfold callGetattribute
 rw [show (expr&&onTheHeap (Value.builtin "BaseException.__getattribute__"))=false from Bool.and_false _,if_neg (by decide)]
 unfold boundAndCalled
 rw [PySem.F.attr_ValueError.ga.bind]
 refine QS (QT ?_)
 show wpAny _ _ (call (.builtin "BaseException.__getattribute__") [.ref e,.str name s.toks]) _ _ _
 refine wpAny_call ?_
 refine codeAny_call_builtin PySem.F.attr_ValueError.ga.plain PySem.F.entry_bexc_ga ?_
 refine @check_slot (model P w) _ _ {s with toks:=s.toks+1} "BaseException.__getattribute__" "BaseException" "__getattribute__" (.ref e) [.str name s.toks] [] _ (by decide+kernel) (by decide+kernel) (ht.andThen (looks_subIn X sub)) (PySem.F.args_bexc_ga (.ref e) (.str name s.toks)) ?_
 have L1:=looks_find (M:=model P w) X I hf
 unfold Builtin.«object.__getattribute__»
 refine QS (QT (QS (QT (QS (ht _ _ _ _ (fun _ _ e=>e) (QS (L1 _ _ _ _ (fun _ _ e=>e) ?_)))))))
 refine QT ?_
 show wpAny _ _ (handedOut v) _ _ _
 rw [handedOut_of hh];exact QT h
end
def GU (C:Addr) (ta:TA) (E:XK):TS:=fun _ σ H=>ta σ H fun vs H1=>vs.length<=1000/\∀ e,H1 e=none->E (.ref e) none (upd H1 e (ig C none e))
def GV (C:Addr) (sp:Sp) (ta:TA) (E:XK):TS:=fun _ σ H=>ta σ H fun vs H1=>vs.length<=1000/\∀ e,H1 e=none->sp (.ref e::vs) (upd H1 e (ie C none e)) (fun v H2=>v=.af/\∃ dct,H2 e=some (ie C dct e)/\E (.ref e) dct (upd H2 e (ig C dct e))) E0
section
variable {K:Frag} {cd:Value} {s0:Shared} {H0:Hp} {E:XK} {own:List Addr} {np pos:Pos} {e1:Expr}
theorem Inv.GW {e:Addr} (I:Inv X pins σ H s) (m:Heap.MadeExcOf s.heap h' e (.ref C) us):H e=none/\Inv X pins σ (upd H e (ie C none e)) {s with heap:=h'}:=by
 have hn:=I.hok.free m.new
 obtain ⟨t,ht,_,_⟩:=m.there
 exact ⟨hn,I.un (t':=s.toks) (Un.more (Un.kept m.keeps) m.new hn) (I.hok.more m.keeps hn (qB ⟨t,ht⟩))⟩
theorem sM (hx:ky K C own none=true) (hm:mg x=some (.ref C)) (hg:Gl (fg (ii P w) P w K mg base N qual scope f cd A outer s0 H0 E) x) (ha:PA (fg (ii P w) P w K mg base N qual scope f cd A outer s0 H0 E) (e1::es) ta)
  (c_:(x==("__debug__":Str))=false:=by decide) (he:starEach (e1::es) (envOfC qual scope s0.heap.objs.size f cd)=(false,eval e1 (envOfC qual scope s0.heap.objs.size f cd))::starEach es (envOfC qual scope s0.heap.objs.size f cd):=by rfl)
  (hpl:(backTo cpos (starEach es (envOfC qual scope s0.heap.objs.size f cd))).any (·.1)=false:=by rfl):PS (fg (ii P w) P w K mg base N qual scope f cd A outer s0 H0 E) (.Raise (some (.Call (.Name x np) (e1::es) [] cpos)) none pos) (GU C ta E):=by
 intro pins s σ H D I h
 obtain ⟨nm,q,N',bs,sn,sub,ab,col,dd,k0,k1,k2,k3,k5,lk,hn,hu,hk⟩:=i8 hx
 rw [arm_exec_Raise]
 refine QS (wpAny_standAt (oM (C:=C) (nm:=nm) (q:=q) (N:=N') (bs:=bs) (bm:=o_ own) (hdct:=true) (sn:=sn) (sub:=sub) (ab:=ab) (col:=col) (dd:=dd) (k0:=k0) (k1:=k1) (k2:=k2) (k3:=k3) (k5:=k5) (newId:="ValueError.__new__") (dP (by decide) _) (I.ok.hd rfl) (QS (ai (t:=eval (.Call (.Name x np) (e1::es) [] cpos) _) ?_ fun v s3 h3=>QS (wpAny_standAt (QT h3))))))
 refine wpAny_Call_Name_kw (dW I hg hm ?_ c_)
 refine callWith_K (h₀:=base) I.ok.mod.zk hk (ai (ha cpos pins s σ H _ I h) fun us s1 ⟨vs,H1,I1,r,hl,qe⟩=>⟨I1.bz,?_⟩) he hpl
 obtain ⟨n1,n2⟩:=kA I1.bz hn
 have T:=jE I1.bz hu
 have hC:=I1.bz _ _ lk
 have F:=PySem.F.excBase_ValueError
 obtain ⟨hp,g,d,tk,os⟩:=s1
 refine wpAny_call_exc_subU F F.hasB F T hC n1 n2 (fun h' e m=>?_) (by show us.length<=_;rw [<- r.length,QK];omega)
 obtain ⟨ku,I2⟩:=I1.GW m
 obtain ⟨t,ht,_,_⟩:=m.there
 exact ⟨e,t,none,rfl,I2.bz _ _ lk,ht,oK I2 aA (by rw [jA];exact qe e ku)⟩
theorem tK {k:Nat} {fI:Addr} {sp:Sp} (hx:ky K C own (some (.ref fI))=true) (hf:isFn K (.ref fI)=true) (F:kj P w K mg base qm k fI fd ps sp) (hb:Binds K fd ps []) (hr:ck (k+1) (A.deeper (envOfC qual scope s0.heap.objs.size f cd))) (hm:mg x=some (.ref C)) (hg:Gl (fg (ii P w) P w K mg base N qual scope f cd A outer s0 H0 E) x) (ha:PA (fg (ii P w) P w K mg base N qual scope f cd A outer s0 H0 E) (e1::es) ta)
  (c_:(x==("__debug__":Str))=false:=by decide) (he:starEach (e1::es) (envOfC qual scope s0.heap.objs.size f cd)=(false,eval e1 (envOfC qual scope s0.heap.objs.size f cd))::starEach es (envOfC qual scope s0.heap.objs.size f cd):=by rfl)
  (hpl:(backTo cpos (starEach es (envOfC qual scope s0.heap.objs.size f cd))).any (·.1)=false:=by rfl):PS (fg (ii P w) P w K mg base N qual scope f cd A outer s0 H0 E) (.Raise (some (.Call (.Name x np) (e1::es) [] cpos)) none pos) (GV C sp ta E):=by
 intro pins s σ H D I h
 obtain ⟨nm,q,N',bs,sn,sub,ab,col,dd,k0,k1,k2,k3,k5,lk,hn,hu,hk⟩:=i8 hx
 rw [arm_exec_Raise]
 refine QS (wpAny_standAt (oM (C:=C) (nm:=nm) (q:=q) (N:=N') (bs:=bs) (bm:=o_ own) (hdct:=true) (sn:=sn) (sub:=sub) (ab:=ab) (col:=col) (dd:=dd) (k0:=k0) (k1:=k1) (k2:=k2) (k3:=k3) (k5:=k5) (newId:="ValueError.__new__") (dP (by decide) _) (I.ok.hd rfl) (QS (ai (t:=eval (.Call (.Name x np) (e1::es) [] cpos) _) ?_ fun v s3 h3=>QS (wpAny_standAt (QT h3))))))
 refine wpAny_Call_Name_kw (dW I hg hm ?_ c_)
 refine callWith_K (h₀:=base) I.ok.mod.zk hk (ai (ha cpos pins s σ H _ I h) fun us s1 ⟨vs,H1,I1,r,hl,qe⟩=>⟨I1.bz,?_⟩) he hpl
 obtain ⟨n1,n2⟩:=kA I1.bz hn
 have T:=jE I1.bz hu
 have hC:=I1.bz _ _ lk
 have FV:=PySem.F.excBase_ValueError
 obtain ⟨oI,Me,Mf⟩:∃ o,K.lookup fI=some o/\o.cls=.type "function":=by
  have e:=beq_iff_eq.mp hf
  exact Option.map_eq_some_iff.mp (show (K.lookup fI).map (·.cls)=some (.type "function") from e)
 obtain ⟨hp,g,d,tk,os⟩:=s1
 refine wT FV FV.hasB FV T hC n1 n2 (I1.bz _ _ Me) Mf (by show us.length<=_;rw [<- r.length,QK];omega) fun h' e m=>?_
 obtain ⟨ku,I2⟩:=I1.GW m
 have q:=qe e ku
 have r2:aq (V.ref e::vs) (Value.ref e::us):=.cons rfl r
 have gr:(Value.ref e::us).length=ps.length:=by rw [<- r2.length];exact F.len _ _ _ _ q
 refine wpAny_call (codeAny_mono (F.run _ _ _ _ ⟨Value.ref e::us,[]⟩ (Value.ref e::us) _ _ E0 (hr.make C us []) (I2.Dr.make C us []) (by have:=hb _ (Value.ref e::us) I2.bz (by simpa using gr);simpa using this) r2 q) fun r s' hq=>?_)
 cases r with
 | error e=>exact hq.elim
 | ok fl=>
  cases fl with
  | ret u=>
   obtain ⟨v,H',I3,rv,ev,dct,ic,q3⟩:=I2.after hq
   subst ev
   obtain ⟨t,ht⟩:mq s'.heap e C dct:=(show a_ P w H' s'.heap e (ie C dct e) from I3.hok e _ ic).1
   exact ⟨rv,e,t,dct,rfl,I3.bz _ _ lk,ht,oK I3 ic q3⟩
  | next=>exact hq.elim
  | brk=>exact hq.elim
  | cont=>exact hq.elim
end
structure ud (K:Frag) (C:Addr):Prop where
 ga:findIn K (.ref C) "__getattribute__"=some (some (.builtin "BaseException.__getattribute__"))
 gk:findIn K (.ref C) "__getattr__"=some none
 sa:findIn K (.ref C) "__setattr__"=some (some (.builtin "object.__setattr__"))
 xc:∃ own j_,ky K C own j_=true
structure GX (K:Frag) (B:Addr):Prop where
 sp:specialIn K (.ref B) "__getattribute__"=some (some (.builtin "type.__getattribute__"))
 rd:readsIn K B (.type "type")=true
 fc:∃ v,findCls K (.ref B) (.type "type") "__init__"=some (.val v)/\v=.builtin "ValueError.__init__"
def GY (K:Frag) (ta:TA):TE:=fun σ H Q=>ta σ H fun vs H1=>∃ e C dct rest,vs=.ref e::rest/\rest.length<=1000/\ud K C/\H1 e=some (ie C dct e)/\Q .af H1
def GZ (K:Frag) (ta tv:TE) (f:Str):TS:=fun D σ H=>tv σ H fun y H1=>ta σ H1 fun x H2=>∃ e C,x=.ref e/\H2 e=some (ie C none e)/\ud K C/\findIn K (.ref C) f=some none/\∀ dx,H2 dx=none->D.nx σ (upd (upd H2 e (ie C (some dx) e)) dx (.xd [(f,y)]))
def G0 (K:Frag) (ta:TE) (f:Str):TE:=fun σ H Q=>ta σ H fun x H1=>∃ e C dx fs v,x=.ref e/\H1 e=some (ig C (some dx) e)/\H1 dx=some (.xd fs)/\ud K C/\findIn K (.ref C) f=some none/\fs.lookup f=some v/\Q v H1
section
variable {B:Addr} {b:Str} {bp pos pos':Pos} {o value:Expr} {ta tv:TE} {f:Str}
theorem wI {pl:Sem Bool} (N:GX X.K B) (hm:X.mg b=some (.ref B)) (hg:Gl X b) (ha:PA X (e::es) t) (c_:(b==("__debug__":Str))=false:=by decide)
  (gq:starEach (e::es) X.env=(false,eval e X.env)::starEach es X.env:=by rfl) (hpl:(backTo pos (starEach es X.env)).any (·.1)=false:=by rfl)
  (ht:eval (.Call (.Attribute (.Name b bp) "__init__" apos) (e::es) [] pos) X.env=(do
   let ov <- eval (.Name b bp) X.env
   standAt apos.atName
   let (f,first) <- holding [ov] (getMethod ov "__init__" pl)
   callWith pos f first (backTo pos (starEach (e::es) X.env)) (backToKw pos (keywordEach [] X.env))):=by rfl):PE X (.Call (.Attribute (.Name b bp) "__init__" apos) (e::es) [] pos) (GY X.K t):=by
 intro pins s σ H Q I h
 refine methodCall_KW (pl:=pl) (dW I hg hm ?_ c_) ht
 obtain ⟨v,fc,rfl⟩:=N.fc
 refine method_cls I.bz N.sp (cls_value I.bz N.rd fc (by decide+kernel) ?_)
 have hA:=ha pos pins _ σ H _ (I.tok (s.toks+1)) h
 rw [gq] at hA ⊢
 refine Calls.callWith_builtin (by show (false||(backTo pos (starEach es X.env)).any (·.1))=false;rw [hpl]<;>rfl) (Calls.evalArgs_plain ?_)
 refine ai hA ?_
 rintro us s2 ⟨vs,H2,I2,r2,e,C,dct,rest,ev,hl,xa,he,q⟩
 subst ev
 obtain ⟨u0,ua,rfl,r0,r1⟩:∃ u0 ua,us=u0::ua/\RelV (.ref e) u0/\aq rest ua:=by cases r2 with | cons a b=>exact ⟨_,_,rfl,a,b⟩
 obtain rfl:u0=Value.ref e:=r0
 obtain ⟨own,j_,hx⟩:=xa.xc
 obtain ⟨nm,q',N',bs,sn,sub,ab,col,dd,k0,k1,k2,k3,k5,lk,hn,hu,hk⟩:=i8 hx
 have T:=jE I2.bz hu
 have hC:=I2.bz _ _ lk
 have hE:mq s2.heap e C dct:=(show a_ X.prog X.w H2 s2.heap e (ie C dct e) from I2.hok e _ he).1
 obtain ⟨hp,g,d,tk,os⟩:=s2
 refine wM PySem.F.excBase_ValueError T hC hE (by show ua.length<=_;rw [<- r1.length,QK];omega) fun h' k1 x1=>⟨.af,H2,?_,rfl,q⟩
 have:=I2.write (x:=e) (e:=e) (o:=ie C dct e) (t':=tk) (by rw [he];exact True.intro) (.inl rfl) k1 (let ⟨_,z⟩:=x1;⟨_,z⟩) (qB x1)
 rw [jJ he] at this
 exact this
theorem xG (ha:PE X o ta) (hv:PE X value tv) (hs:swapsWith value (some (.Attribute o f pos')) pos.line X.env=pure false):PS X (.Assign [.Attribute o f pos'] value pos) (GZ X.K ta tv f):=by
 intro pins s σ H D I h
 refine plainObj_wpAny_Assign_Attribute (ai (hv pins s σ H _ I h) fun u s1 ⟨y,H1,I1,ry,q⟩=>ai (ha pins s1 σ H1 _ I1 q) fun ov s2 ⟨x,H2,I2,rx,e,C,ex,he,xa,na,q2⟩=>?_) hs
 subst ex
 obtain rfl:ov=Value.ref e:=rx
 obtain ⟨own,j_,hx⟩:=xa.xc
 obtain ⟨cd,c1,c2,c3⟩:=mF hx
 have hE:mq s2.heap e C none:=(show a_ X.prog X.w H2 s2.heap e (ie C none e) from I2.hok e _ he).1
 refine yA I2.bz hE c1 c2 c3 xa.sa na fun h' dx tk hd kp x1 nd=>?_
 have CP:=I2.hok.free hd
 have Mg:dx≠e:=fun z=>by rw [z,he] at CP;cases CP
 have mu:zh (H2 e):=by rw [he];exact True.intro
 have rq:∃ u,h'.get? e=some u:=let ⟨_,z⟩:=x1;⟨_,z⟩
 have hn1:upd H2 e (ie C (some dx) e) dx=none:=by rw [aF Mg];exact CP
 refine ⟨σ,upd (upd H2 e (ie C (some dx) e)) dx (.xd [(f,y)]),I2.un (Un.more (Un.write mu (.inl rfl) kp rq) hd hn1) (bh.more (I2.hok.write mu (.inl rfl) kp rq (qB x1)) (fun _ _ z=>z) hn1 ?_),q2 dx CP⟩
 refine ⟨_,nd,fun g=>?_⟩
 rw [List.lookup_cons]
 by_cases z:g=f
 ·subst z;simp [iq,ry]
 ·rw [if_neg z,show (g==f)=false from beq_false_of_ne z];exact True.intro
theorem wU (he:PE X e ta) (hb:attributeBase e f X.env (eval e X.env)=eval e X.env):PE X (.Attribute e f pos) (G0 X.K ta f):=by
 intro pins s σ H Q I h
 refine wR hb (ai (he pins s σ H _ I h) ?_)
 rintro u s1 ⟨x,H1,I1,rx,a,C,dx,fs,v,ex,ea,ed,xa,n,l,q⟩
 subst ex
 obtain rfl:u=Value.ref a:=rx
 obtain ⟨vs,ho⟩:=m4 I1.hok ea
 obtain ⟨mA,Cs,hr⟩:a_ X.prog X.w H1 s1.heap dx (.xd fs):=I1.hok dx _ ed
 obtain ⟨od,Mh,hl⟩:=l5 Cs
 obtain ⟨u,hu,ru⟩:=iq.some_of (v:=v) (o:=mA f) (by rw [<- l];exact hr f)
 obtain ⟨own,j_,hx⟩:=xa.xc
 obtain ⟨cd,c1,c2,c3⟩:=mF hx
 refine y0 (od:=some od) I1.bz ⟨ho,rfl,rfl,Mh⟩ xa.ga xa.gk (vV hx (by decide)) (findObj_own (by unfold hasDictIn;rw [c1];exact c3) n rfl (by rw [hl,hu])) (rW ru) ⟨v,H1,I1.tok _,ru,q⟩
end
end L2
namespace L2
open PySem PySem.Spec PyProof.Rows
def Sx (x:Addr) (H H':Hp):Prop:=∀ b o,b≠x->H b=some o->H' b=some o
theorem Sx.upd {x:Addr} {H:Hp} {o:HO}:Sx x H (upd H x o):=fun c u n h=>by rw [aF n];exact h
section
variable {xs:List V} {rows:List az}
end
section
variable {it d:Addr} {ep:Nat} {od:Obj} {es:Array DictEntry} {ok ov:Value} {Q:Option Value->Shared->Prop}
end
section
variable {k:Nat} {ux:Pos} {o:Expr}
end
section
variable {o:Expr}
end
theorem Paired.at {β:Type} {R:α->β->Prop} {xs:List α} {ys:List β} (h:Paired R xs ys):∀ i (h1:i < xs.length) (h2:i < ys.length),R xs[i] ys[i]:=by
 induction h with
 | nil=>intro i h1;exact absurd h1 (by simp)
 | cons a _ ih=>
  intro i h1 h2
  cases i with
  | zero=>exact a
  | succ i=>exact ih i (by simpa using h1) (by simpa using h2)
section
variable {t1 i1 t2 i2 elt:Expr} {tc:TC} {pos:Pos} {wi LG:TI} {g g2:TG}
end
section
variable {it d:Addr} {ep:Nat} {od:Obj} {es:Array DictEntry} {Q:Option Value->Shared->Prop}
end
section
variable {o:Expr}
end
section
variable {a:Expr} {p p2 pos O3:Pos}
end
section
variable {xs:List V} {rows:List az}
end
section
variable {pos:Pos}
end
section
variable {iter kx vx:Expr} {tc:TC} {pos:Pos} {wi:TI} {g:TG} {tk tw:TE}
end
def hv (hs:List (Str×Nat)) (y:Str):Nat:=((hs.find? fun q=>decide (q.1=y)).map (·.2)).getD 0
section
variable {o:Expr} {p O4:Pos}
end
section
variable {o f:Expr} {td ty tx:TE}
end
end L2
namespace L2
open PySem PySem.Spec PySem.W PyProof.Rows
section
variable {o:Expr} {ta:TE} {m:Str} {pos p:Pos} {k:Nat} {sp:Sp}
end
section
variable {K:Frag}
end
section
variable {c1 c2:Str} {j1 j2:Nat} {p1 p2 p3 pos:Pos}
def Mi (c1 c2:Str) (te:TE):TE:=fun σ H Q=>c1.length+c2.length<=1000/\te σ H fun x H1=>∃ i:Int,x=.int i/\i.natAbs < 2^64/\Q (.str (c1++QL (toString i)++c2)) H1
theorem z3 (he:SE X e te):SE X (.JoinedStr [.Constant (.str c1) j1 p1,.FormattedValue e (-1) none p2,.Constant (.str c2) j2 p3] pos) (Mi c1 c2 te):=by
 constructor
 intro pins s σ H Q I ⟨hl,h⟩
 have hsz:sizeLine=16777216:=QK
 refine JoinedStr_many (joinParts_cons (Calls.Constant_str ?_))
 have z0:(Str.empty++c1)=c1:=by show Str.mk _=_;simp [Str.empty]
 have I0:=I.tok (s.toks+1)
 refine ⟨?_,joinParts_cons (FormattedValue_plain (ai (he.h pins _ σ H _ I0 h) fun u s1 ⟨x,H1,I1,rx,i,ex,hi,q⟩=>?_))⟩
 ·rw [z0];omega
 subst ex
 obtain ⟨t,rfl⟩:∃ t,u=Value.int i t:=rx
 have Mj:i.natAbs.log2 < 64:=by
  by_cases z:i.natAbs=0
  ·rw [z];decide
  ·exact (Nat.log2_lt z).mpr hi
 have bc:=Nat.le_trans (Nat.le_of_eq (PySem.ofString_length (toString i))) (int_text_length_le (k:=64) (by decide) Mj)
 refine formatField_int_small (by omega) ⟨by rw [z0,strLen_append];omega,?_⟩
 rw [z0]
 refine joinParts_cons (Calls.Constant_str ⟨by rw [strLen_append,strLen_append];omega,joinParts_nil ⟨.str (c1++QL (toString i)++c2),H1,I1.tok _,⟨_,rfl⟩,q⟩ (by rw [strLen_append,strLen_append];omega)⟩)
theorem lP {xs:List Expr} (ha:SE X (.JoinedStr xs pos) te) (hr:SA X es t):SA X (.JoinedStr xs pos::es) (iz te t):=⟨cX ha.h hr.h⟩
end
section
variable {CC:Addr}
def G1 (K:Frag) (CC:Addr) (ts:TS) (th:Addr->Addr->Option Addr->TS):Addr->Addr->Option Addr->TS:=fun e C dct D σ H=>∃ b,subIn K (.ref C) (.ref CC)=some b/\if b=true then ts D σ H else th e C dct D σ H
theorem Mk {c:Str} {cp pos:Pos} {b0:Stmt} {q_:List Stmt} {rest:List ExceptHandler} {ts:TS} {th:Addr->Addr->Option Addr->TS} (hg:Gl X c) (hm:X.mg c=some (.ref CC)) (N:Bu X.K CC)
  (hs:∀ e,iu (X.jd e) (b0::q_) ts) (hr:PH X rest th) (hd:(c==("__debug__":Str))=false:=by decide):PH X (.ExceptHandler (some (.Name c cp)) none (b0::q_) pos::rest) (G1 X.K CC ts th):=by
 intro pins s σ H D e C dct I he fl h
 obtain ⟨b,hb,h⟩:=h
 have Ic:=I.jd e
 refine wpAny_handleBy_cons (codeAny_handlers_test (dW (X:=X.jd e) Ic hg hm ?_ hd)) (by intro q;cases q)
 obtain ⟨vs,ho⟩:=m4 I.hok he
 refine oA I.bz N hb ho rfl ?_
 cases b with
 | false=>exact hr pins s σ H D e C dct I he fl h
 | true=>
  refine codeAny_handlers_suite (fC fl fun h' same=>?_)
  have I2:Inv X pins σ H {s with heap:=h'}:=I.kept (t':=s.toks) fun b o q=>(same b).trans q
  rw [if_pos rfl] at h
  refine wpAny_mono (hs e pins _ _ H _ (I2.jd e) h) (fun f s4 q4=>?_) fun _ _ z=>z.elim
  cases f with
  | next=>obtain ⟨σ',H',J,q⟩:=q4;exact ⟨σ',H',J.uncaught I.ok,q⟩
  | brk=>obtain ⟨σ',H',J,q⟩:=q4;exact ⟨σ',H',J.uncaught I.ok,q⟩
  | cont=>obtain ⟨σ',H',J,q⟩:=q4;exact ⟨σ',H',J.uncaught I.ok,q⟩
  | ret u=>obtain ⟨v,σ',H',J,rv,q⟩:=q4;exact ⟨v,σ',H',J.uncaught I.ok,rv,q⟩
end
structure By (K:Frag) (mg:Str->Option Value) (x:Str):Prop where
 m:mg x=some (.ref (adr mg x))
 at_:ud K (adr mg x)
 xc:∃ own,ky K (adr mg x) own none=true
 ni:GX K (adr mg x)
structure BA (K:Frag) (mg:Str->Option Value) (x q:Str) (st:Stmt) (ps fs:List Str):Prop where
 m:mg x=some (.ref (adr mg x))
 at_:ud K (adr mg x)
 na:∀ f∈fs,FN K (adr mg x) f
 ex:∃ own f fd,ky K (adr mg x) own (some (.ref f))=true/\isFn K (.ref f)=true/\vd K "__init__" q st f fd/\Binds K fd ps []
theorem ud.nm {K:Frag} (x:ud K C):Bu K C:=let ⟨_,_,h⟩:=x.xc;Mc h
def Es (P:Program) (w:World) (K:Frag) (mg:Str->Option Value) (base:Heap) (k:Nat) (x:Str) (ps:List Str) (sp:Sp):Prop:=
 mg x=some (.ref (adr mg x))/\∃ own f fd,ky K (adr mg x) own (some (.ref f))=true/\isFn K (.ref f)=true/\kj P w K mg base qm k f fd ps sp/\Binds K fd ps []
section
variable {K:Frag} {q:Str} {st:Stmt} {fs:List Str} {k:Nat} {sp:Sp}
theorem BA.e_ (F:BA K mg x q st ps fs) (S:cu N ps (au st)) (len:∀ vs H Q E,sp vs H Q E->vs.length=ps.length)
  (nq:∀ (f:Addr) (ak:Value) (A:Around) (outer:List Env) (s:Shared) (H:Hp) (vs:List V) (Q:VK) (E:XK),ck k (A.deeper (envOfC q (au st) s.heap.objs.size f ak))->sp vs H Q E->
   ∃ t,SB (fg qm P w K mg base N q (au st) f ak A outer s H E).nj (gv st) t/\t {nx:=fun _ H'=>Q .af H',rt:=Q} (start N vs) H):Es P w K mg base (k+1) x ps sp:=by
 obtain ⟨own,f,fd,h1,h2,Fu,b⟩:=F.ex
 exact ⟨F.m,own,f,fd,h1,h2,Fu.ok S len fun ak A outer s H vs Q E hr h=>let ⟨t,h1,h2⟩:=nq f ak A outer s H vs Q E hr h;⟨t,h1.h,h2⟩,b⟩
theorem cj.Ml (F:cj K mg x st ps) (S:cu N ps (au st)) (len:∀ vs H Q E,sp vs H Q E->vs.length=ps.length)
  (nq:∀ (f:Addr) (ak:Value) (A:Around) (outer:List Env) (s:Shared) (H:Hp) (vs:List V) (Q:VK) (E:XK),ck k (A.deeper (envOfC x (au st) s.heap.objs.size f ak))->sp vs H Q E->
   ∃ t,SB (fg (ii P w) P w K mg base N x (au st) f ak A outer s H E) (gv st) t/\t {nx:=fun _ H'=>Q .af H',rt:=Q} (start N vs) H):Bv P w K mg base (k+1) x ps sp:=by
 obtain ⟨f,fd,Fu,m,b⟩:=F
 obtain ⟨oc,od,kV,doc,pm,an,ak,ct,gg,rfl,lk,gz⟩:=Fu.ex
 refine ⟨f,_,xT lk gz S len fun A outer s H vs Q E hr qi=>?_,m,Fu.kp,b⟩
 obtain ⟨t,h,q⟩:=nq f ak A outer s H vs Q E hr qi
 exact ⟨t,h.h,q⟩
end
section
variable {K:Frag} {cd:Value} {s0:Shared} {H0:Hp} {E:XK} {np pos:Pos} {e1:Expr}
theorem uQ (c:By K mg x) (ha:SA (fg (ii P w) P w K mg base N qual scope f cd A outer s0 H0 E) (e1::es) ta) (hg:Gl (fg (ii P w) P w K mg base N qual scope f cd A outer s0 H0 E) x:=by rfl)
  (c_:(x==("__debug__":Str))=false:=by decide) (he:starEach (e1::es) (envOfC qual scope s0.heap.objs.size f cd)=(false,eval e1 (envOfC qual scope s0.heap.objs.size f cd))::starEach es (envOfC qual scope s0.heap.objs.size f cd):=by rfl)
  (hpl:(backTo cpos (starEach es (envOfC qual scope s0.heap.objs.size f cd))).any (·.1)=false:=by rfl):SS (fg (ii P w) P w K mg base N qual scope f cd A outer s0 H0 E) (.Raise (some (.Call (.Name x np) (e1::es) [] cpos)) none pos) (GU (adr mg x) ta E):=by
 obtain ⟨own,hx⟩:=c.xc
 exact ⟨sM hx c.m hg ha.h c_ he hpl⟩
theorem u6 {k:Nat} {sp:Sp} (F:Es P w K mg base k x ps sp) (hr:ck (k+1) (A.deeper (envOfC qual scope s0.heap.objs.size f cd))) (ha:SA (fg (ii P w) P w K mg base N qual scope f cd A outer s0 H0 E) (e1::es) ta) (hg:Gl (fg (ii P w) P w K mg base N qual scope f cd A outer s0 H0 E) x:=by rfl)
  (c_:(x==("__debug__":Str))=false:=by decide) (he:starEach (e1::es) (envOfC qual scope s0.heap.objs.size f cd)=(false,eval e1 (envOfC qual scope s0.heap.objs.size f cd))::starEach es (envOfC qual scope s0.heap.objs.size f cd):=by rfl)
  (hpl:(backTo cpos (starEach es (envOfC qual scope s0.heap.objs.size f cd))).any (·.1)=false:=by rfl):SS (fg (ii P w) P w K mg base N qual scope f cd A outer s0 H0 E) (.Raise (some (.Call (.Name x np) (e1::es) [] cpos)) none pos) (GV (adr mg x) sp ta E):=by
 obtain ⟨m,own,fI,fd,h1,h2,G,b⟩:=F
 exact ⟨tK h1 h2 G b hr m hg ha.h c_ he hpl⟩
end
structure SH (X:Cx) (hs:List ExceptHandler) (th:Addr->Addr->Option Addr->TS):Prop where
 h:PH X hs th
section
variable {c b f:Str} {cp pos bp p epos yp pos':Pos} {b0:Stmt} {q_:List Stmt} {rest:List ExceptHandler} {k:Nat} {ts:TS} {th:Addr->Addr->Option Addr->TS} {o value:Expr} {ta tv:TE} {sp:Sp} {h0:ExceptHandler}
theorem y7:SH X [] GQ:=⟨zX⟩
theorem Mm (hm:X.mg c=some (.ref (adr X.mg c))) (N:ud X.K (adr X.mg c)) (hs:∀ e,SB (X.jd e) (b0::q_) ts) (hr:SH X rest th) (hg:Gl X c:=by rfl) (hd:(c==("__debug__":Str))=false:=by decide):SH X (.ExceptHandler (some (.Name c cp)) none (b0::q_) pos::rest) (G1 X.K (adr X.mg c) ts th):=⟨Mk hg hm N.nm (fun e=>(hs e).h) hr.h hd⟩
theorem Mn (hm:X.mg c=some (.ref (adr X.mg c))) (N:ud X.K (adr X.mg c)) (hN:X.N.Nodup) (hj:X.N[j]? =some y) (hy:X.env.scope.names.lookup y=some .local) (hs:∀ e,SB (X.jd e) (b0::q_) ts) (hr:SH X rest th) (hg:Gl X c:=by rfl) (hd:(c==("__debug__":Str))=false:=by decide):SH X (.ExceptHandler (some (.Name c cp)) (some y) (b0::q_) pos::rest) (GR X.K (adr X.mg c) j ts th):=⟨Mb hg hm N.nm hN hj hy (fun e=>(hs e).h) hr.h hd⟩
theorem zH (F:Bv X.prog X.w X.K X.mg X.base k x ps sp) (hr:ck k X.A) (ha:SA X.nj (e::es) t) (hh:SH X (h0::rest) th) (hN:X.N.Nodup) (hi:X.N[i]? =some y) (hy:X.env.scope.names.lookup y=some .local) (gq:X.stack=X.env::X.outer:=by rfl) (i_:X.env.frame=some X.env.locals:=by rfl) (hg:Gl X x:=by rfl)
  (c_:(x==("__debug__":Str))=false:=by decide) (he:starEach (e::es) X.env=(false,eval e X.env)::starEach es X.env:=by rfl) (hpl:(backTo cpos (starEach es X.env)).any (·.1)=false:=by rfl)
  (ve:swapsWith (.Call (.Name x p) (e::es) [] cpos) (some (.Name y yp)) epos.line X.env=pure false:=by rfl):SS X (.Try [.Assign [.Name y yp] (.Call (.Name x p) (e::es) [] cpos) epos] (h0::rest) [] [] pos) (GS i sp t th):=⟨wB F hr hg ha.h hh.h gq i_ hN hi hy c_ he hpl ve⟩
theorem zI {pl:Sem Bool} (K:Frag) (c:By K X.mg b) (ha:SA X (e::es) t) (hK:X.K=K:=by rfl) (hg:Gl X b:=by rfl) (c_:(b==("__debug__":Str))=false:=by decide)
  (gq:starEach (e::es) X.env=(false,eval e X.env)::starEach es X.env:=by rfl) (hpl:(backTo pos (starEach es X.env)).any (·.1)=false:=by rfl)
  (ht:eval (.Call (.Attribute (.Name b bp) "__init__" apos) (e::es) [] pos) X.env=(do
   let ov <- eval (.Name b bp) X.env
   standAt apos.atName
   let (f,first) <- holding [ov] (getMethod ov "__init__" pl)
   callWith pos f first (backTo pos (starEach (e::es) X.env)) (backToKw pos (keywordEach [] X.env))):=by rfl):SE X (.Call (.Attribute (.Name b bp) "__init__" apos) (e::es) [] pos) (GY K t):=by
 subst hK
 exact ⟨wI c.ni c.m hg ha.h c_ gq hpl ht⟩
theorem z4 (K:Frag) (ha:SE X o ta) (hv:SE X value tv) (hK:X.K=K:=by rfl) (hs:swapsWith value (some (.Attribute o f pos')) pos.line X.env=pure false:=by rfl):SS X (.Assign [.Attribute o f pos'] value pos) (GZ K ta tv f):=by subst hK;exact ⟨xG ha.h hv.h hs⟩
theorem zS (K:Frag) (he:SE X e te) (hK:X.K=K:=by rfl) (hb:attributeBase e f X.env (eval e X.env)=eval e X.env:=by rfl):SE X (.Attribute e f pos) (G0 K te f):=by subst hK;exact ⟨wU he.h hb⟩
end
structure ue where
 x:Str
 q:Str
 st:Option Stmt
 fs:List Str
def G2 (K:Frag) (C:Addr):List Addr:=match clsIn K C with
 | some cd=>cd.mro.tail.filterMap fun v=>match v with | .ref a=>some a | _=>none
 | none=>[]
def CQ (K:Frag) (C:Addr) (st:Option Stmt):Option Value:=match st with
 | none=>none
 | some _=>(findIn K (.ref C) "__init__").getD none
def G3 (K:Frag) (c:ue) (C:Addr):Bool×Option yh:=(ky K C (G2 K C) (CQ K C c.st)&&(findIn K (.ref C) "__getattribute__"==some (some (.builtin "BaseException.__getattribute__"))&&(findIn K (.ref C) "__getattr__"==some none&&(findIn K (.ref C) "__setattr__"==some (some (.builtin "object.__setattr__"))&&(CO K C c.fs&&
  (match c.st with
  | none=>specialIn K (.ref C) "__getattribute__"==some (some (.builtin "type.__getattribute__"))&&(readsIn K C (.type "type")&&(match findCls K (.ref C) (.type "type") "__init__" with | some (.val v)=>v==.builtin "ValueError.__init__" | _=>false))
  | some _=>(match findIn K (.ref C) "__init__" with | some (some v)=>isFn K v | _=>false)))))),match c.st with | none=>none | some _=>fnAt K c.q (findIn K (.ref C) "__init__"))
def Aq (K:Frag):List ue->List (Option (Bool×Option yh))
 | []=>[]
 | c::l=>(match nsIn K mainGlobals c.x with | some (some (.ref C))=>some (G3 K c C) | _=>none)::Aq K l
def Ar:List ue->List (Option (Bool×Option yh))
 | []=>[]
 | c::l=>some (true,c.st.map fun st=>yi "__init__" c.q st)::Ar l
def CS (K:Frag):List (Str×Str×Bool)->List (Option Bool)
 | []=>[]
 | c::l=>(match nsIn K mainGlobals c.1,nsIn K mainGlobals c.2.1 with | some (some (.ref C)),some (some (.ref B))=>subIn K (.ref C) (.ref B) | _,_=>none)::CS K l
def CT:List (Str×Str×Bool)->List (Option Bool)
 | []=>[]
 | c::l=>some c.2.2::CT l
section
variable {K:Frag}
theorem mG:∀ {l:List ue},Aq K l=Ar l->∀ (i:Nat) {c:ue},l[i]? =some c->∃ C,nsIn K mainGlobals c.x=some (some (.ref C))/\G3 K c C=(true,c.st.map fun st=>yi "__init__" c.q st)
 | y::l,e,0,c,h=>by
  cases h
  have e1:=(List.cons.inj e).1
  split at e1
  ·rename_i C hC;exact ⟨C,hC,QD e1⟩
  ·cases e1
 | y::l,e,i+1,c,h=>mG (List.cons.inj e).2 i (by simpa using h)
theorem mO:∀ {l:List (Str×Str×Bool)},CS K l=CT l->∀ (i:Nat) {c:Str×Str×Bool},l[i]? =some c->∃ C B,nsIn K mainGlobals c.1=some (some (.ref C))/\nsIn K mainGlobals c.2.1=some (some (.ref B))/\subIn K (.ref C) (.ref B)=some c.2.2
 | y::l,e,0,c,h=>by
  cases h
  have e1:=(List.cons.inj e).1
  split at e1
  ·rename_i C B hC hB;exact ⟨C,B,hC,hB,e1⟩
  ·cases e1
 | y::l,e,i+1,c,h=>mO (List.cons.inj e).2 i (by simpa using h)
theorem lM (X:K.In h) (G:h.Ns mainGlobals mg) {l:List (Str×Str×Bool)} (e:CS K l=CT l) (i:Nat) {a b:Str} {v:Bool} (hi:l[i]? =some (a,b,v):=by rfl):subIn K (.ref (adr mg a)) (.ref (adr mg b))=some v:=by
 obtain ⟨C,B,h1,h2,h3⟩:=mO e i hi
 have m1:=mg_of X G h1
 have m2:=mg_of X G h2
 unfold adr;rw [m1,m2];exact h3
theorem vM (X:K.In h) (G:h.Ns mainGlobals mg) {l:List ue} (e:Aq K l=Ar l) (i:Nat) {q:Str} {fs:List Str} (hi:l[i]? =some ⟨x,q,none,fs⟩:=by rfl):By K mg x:=by
 obtain ⟨C,hn,hc⟩:=mG e i hi
 have hm:=mg_of X G hn
 have ea:adr mg x=C:=by unfold adr;rw [hm]
 have hc:=(Prod.mk.inj hc).1
 simp only [Bool.and_eq_true,beq_iff_eq] at hc
 obtain ⟨c1,c2,c3,c4,c5,c6,c7,c8⟩:=hc
 refine ⟨by rw [ea];exact hm,?_,?_,?_⟩<;>rw [ea]
 ·exact ⟨c2,c3,c4,_,_,c1⟩
 ·exact ⟨_,c1⟩
 ·refine ⟨c6,c7,?_⟩
  split at c8
  ·rename_i v hv;exact ⟨v,hv,beq_iff_eq.mp c8⟩
  ·cases c8
theorem yZ (X:K.In h) (G:h.Ns mainGlobals mg) {l:List ue} (e:Aq K l=Ar l) (i:Nat) {q:Str} {st:Stmt} {fs:List Str} (hi:l[i]? =some ⟨x,q,some st,fs⟩)
  (hb:∀ (kV doc pm:Value) (an:Option Addr) (ak ct:Value) (us:List Value),us.length=ps.length->bindArgs (fnOf "__init__" q (jv st) (gv st) (au st) .none kV doc pm an ak ct) ⟨us,[]⟩=pure (ps.zip us)):BA K mg x q st ps fs:=by
 obtain ⟨C,hn,hc⟩:=mG e i hi
 have hm:=mg_of X G hn
 have ea:adr mg x=C:=by unfold adr;rw [hm]
 obtain ⟨hc,hf⟩:=Prod.mk.inj hc
 simp only [Bool.and_eq_true,beq_iff_eq] at hc
 obtain ⟨c1,c2,c3,c4,c5,c6⟩:=hc
 obtain ⟨f,fd,e1,F⟩:=qY (show fnAt K q (findIn K (.ref C) "__init__")=some (yi "__init__" q st) from hf)
 rw [e1] at c6
 have ei:CQ K C (some st)=some (.ref f):=by unfold CQ;rw [e1];rfl
 have c1:ky K C (G2 K C) (CQ K C (some st))=true:=c1
 rw [ei] at c1
 refine ⟨by rw [ea];exact hm,?_,?_,?_⟩<;>rw [ea]
 ·exact ⟨c2,c3,c4,_,_,c1⟩
 ·exact iS c5
 ·exact ⟨_,f,fd,c1,c6,F,F.binds hb⟩
theorem Mp (X:K.In h) (G:h.Ns mainGlobals mg) {l:List ue} (e:Aq K l=Ar l) (i:Nat) {q p0 p1:Str} {st:Stmt} {fs:List Str} (hi:l[i]? =some ⟨x,q,some st,fs⟩:=by rfl)
  (hb:∀ (kV doc pm:Value) (an:Option Addr) (ak ct a0 a1:Value),bindArgs (fnOf "__init__" q (jv st) (gv st) (au st) .none kV doc pm an ak ct) ⟨[a0,a1],[]⟩=pure [(p0,a0),(p1,a1)]:=by intros;rfl):BA K mg x q st [p0,p1] fs:=
 yZ X G e i hi fun a b c d f g us hl=>by
  obtain ⟨a0,ua,rfl,oz⟩:=mj (n:=1) hl
  obtain ⟨a1,Eh,rfl,uc⟩:=mj (n:=0) oz
  obtain rfl:=QR uc
  exact hb ..
end
end L2
namespace L2
open PySem PySem.Spec PyProof.Rows
end L2
namespace L2
open PySem PySem.Spec PyProof.Rows HT
end L2
namespace L2
open PySem PySem.Spec PyProof.Rows
open AutoSeq1 (wpAny_loadPart')
theorem Hd.pure {h:Hd} (ok:h.ok ns):headD h.dt=true/\(∀ n∈dg h.dt,n∈ns)/\ou h.dt=h.nx:=by
 cases h with
 | one s=>rcases ok with rfl | rfl<;>exact ⟨by decide,(fun n hn=>by revert hn;exact fun h=>nomatch h),rfl⟩
 | as y=>
  refine ⟨?_,fun n hn=>?_,rfl⟩
  ·show headD (.tup [.str "as",.str y])=true
   rw [dN]
   show (decide (1=1)&&([Dt.str y].all dc))=true
   simp [dc,ok.1]
  ·have hn':n∈dg (.tup [.str "as",.str y]):=hn
   have:n=y:=by simpa [dg,lF,strOf] using hn'
   rw [this];exact ok.2
 | way x y=>
  refine ⟨?_,fun n hn=>?_,rfl⟩
  ·show headD (.tup [.str "way",.str x,.str y])=true
   rw [dN]
   show (decide (2=2)&&([Dt.str x,Dt.str y].all dc))=true
   simp [dc,ok.1,ok.2.1]
  ·have e1:dg (.tup [.str "way",.str x,.str y])=[x,y]:=rfl
   have hn':n∈dg (.tup [.str "way",.str x,.str y]):=hn
   rw [e1] at hn'
   simp only [Qp,QA,or_false] at hn'
   rcases hn' with rfl | rfl
   ·exact ok.2.2.1
   ·exact ok.2.2.2
 | prs s ps=>
  obtain ⟨hs,nm,Cq,_⟩:=ok
  have hw:gw s=true:=by rcases hs with rfl | rfl<;>decide
  have ef:(ps.map fun p:Str×Str=>Dt.tup [.str p.1,.str p.2]).map Bj=ps.map (·.1):=by rw [Qn];rfl
  have es:(ps.map fun p:Str×Str=>Dt.tup [.str p.1,.str p.2]).map yd=ps.map (·.2):=by rw [Qn];rfl
  refine ⟨?_,fun n hn=>?_,rfl⟩
  ·show headD (.tup [.str s,.tup (ps.map fun p=>.tup [.str p.1,.str p.2])])=true
   rw [dN,if_pos hw]
   show t_ (.tup (ps.map fun p=>.tup [.str p.1,.str p.2]))=true
   simp only [t_,Bool.and_eq_true]
   refine ⟨?_,by rw [ef];exact Cq⟩
   rw [List.all_map,QF]
   intro p hp
   obtain ⟨m1,m2,_⟩:=nm p hp
   show pairD (.tup [.str p.1,.str p.2])=true
   simp [pairD,dc,m1,m2]
  ·have e1:dg (.tup [.str s,.tup (ps.map fun p=>.tup [.str p.1,.str p.2])])=if gw s then (ps.map fun p:Str×Str=>Dt.tup [.str p.1,.str p.2]).map yd else _:=rfl
   have hn':n∈dg (.tup [.str s,.tup (ps.map fun p=>.tup [.str p.1,.str p.2])]):=hn
   rw [e1,if_pos hw,es] at hn'
   obtain ⟨p,hp,rfl⟩:=List.mem_map.mp hn'
   exact (nm p hp).2.2
theorem nD {rows:List az} (nm:(rows.map (·.1)).Perm ns) (nd:ns.Nodup) (ok:ow ns rows) (ah:∀ r∈rows,yf ns r.1 r.2.nx) (pos:1<=rows.length) (few:rows.length<=200):cf (.tup (rows.map dj))=true:=by
 have er:bg (rows.map dj)=rows.map fun r=>(r.1,r.2.dt):=by unfold bg;rw [Qn];rfl
 have en:(bg (rows.map dj)).map (·.1)=rows.map (·.1):=by rw [er,Qn];rfl
 have CU:(rows.map (·.1)).Nodup:=nm.nodup_iff.mpr nd
 have nl:ns.length=rows.length:=by have:=nm.length_eq;simpa using this.symm
 refine rY (ρ:=fun n=>ns.idxOf n) (by simpa using pos) (by simpa using few) ?_ (by rw [en];exact CU) ?_ fun n hn=>?_
 ·rw [List.all_map,QF]
  intro r hr
  show gj (.tup [.str r.1,r.2.dt])=true
  obtain ⟨h1,h2⟩:=ok r hr
  have h3:dc (.str r.1)=true:=h1
  simp only [gj,Bool.and_eq_true]
  exact ⟨h3,(Hd.pure h2).1⟩
 ·rw [er,List.all_map,QF]
  intro r hr
  show ((dg r.2.dt).all _)=true
  rw [QF]
  intro n hn
  rw [decide_eq_true_eq,<- er,en]
  exact nm.mem_iff.mpr ((Hd.pure (ok r hr).2).2.1 n hn)
 ·rw [en] at hn
  refine ⟨?_,fun y e=>?_⟩
  ·have:=List.idxOf_lt_length_of_mem (nm.mem_iff.mp hn)
   show ns.idxOf n < _
   simp;omega
  ·have hx:∃ r∈rows,r.1=n/\ou r.2.dt=some y:=by
    unfold ja at e
    rw [er] at e
    cases hf:(rows.map fun r:az=>(r.1,r.2.dt)).find? (fun r=>decide (r.1=n)) with
    | none=>rw [hf] at e;cases e
    | some q=>
     rw [hf] at e
     have h1:=List.mem_of_find?_eq_some hf
     have h2:=List.find?_some hf
     obtain ⟨r,hr,rfl⟩:=List.mem_map.mp h1
     exact ⟨r,hr,by simpa using h2,e⟩
   obtain ⟨r,hr,rfl,ea⟩:=hx
   rw [(Hd.pure (ok r hr).2).2.2] at ea
   obtain ⟨i,j,yj,h1,h2⟩:=ah r hr y ea
   refine ⟨by rw [en,nm.mem_iff];exact QC h1,?_⟩
   show ns.idxOf y < ns.idxOf r.1
   rw [kU nd h1,kU nd h2]
   exact yj
section
variable {xs:List V} {rows:List az}
end
end L2
namespace L2
open PySem PySem.Spec PyProof.Rows
theorem cJ (Ab:Scope) (oN:List Str) (h:sc.kind=.function/\(∀ y∈sc.names,y.2≠.cell)/\(∀ y∈sc.names,y.2=.local->sc.names.lookup y.1=some .local)/\(∀ y∈sc.names,y.2=.free->(Ab.names.lookup y.1=some .cell\/Ab.names.lookup y.1=some .free))/\(∀ j∈idx,sc.names.lookup (oN.getD j "")=some .free/\j < oN.length)/\N'=own++idx.map (fun j=>oN.getD j "")):kr Ab oN sc own idx N':=⟨h.1,h.2.1,h.2.2.1,h.2.2.2.1,h.2.2.2.2.1,h.2.2.2.2.2⟩
theorem bP {P:List Str} (h:sc.kind=.function/\sc.isCoroutine=false/\sc.isGenerator=false/\N.Nodup/\N.take P.length=P/\(∀ x∈P,sc.names.lookup x=some .local\/sc.names.lookup x=some .cell)/\∀ y∈sc.names,y.2≠.free):cu N P sc:=⟨h.1,h.2.1,h.2.2.1,h.2.2.2.1,h.2.2.2.2.1,h.2.2.2.2.2.1,h.2.2.2.2.2.2⟩
end L2
set_option maxHeartbeats 400000
--O5 10
--O6
--O7
namespace T1
open PySem L2
def top (i:Nat):Stmt:=PySem.Challenge.pw_coilkind_k07_rows_that_are_no_telling.main.body.getD i (.Pass ⟨0,0,0,0⟩)
abbrev fV:Stmt:=top 8
abbrev cL:Stmt:=top 9
abbrev bW:Stmt:=top 14
abbrev eJ:Stmt:=top 15
abbrev jZ:Stmt:=top 16
abbrev fW:Stmt:=top 17
abbrev d9:Stmt:=top 18
abbrev iP:Stmt:=top 19
abbrev eW:Stmt:=top 20
abbrev eC:Stmt:=top 21
abbrev fP:Stmt:=top 22
abbrev dM:Stmt:=top 24
abbrev gU:Stmt:=top 25
abbrev dU:Stmt:=top 26
abbrev eE:Stmt:=top 28
abbrev fM:Stmt:=top 29
abbrev cW:Stmt:=top 30
abbrev cI:Stmt:=top 31
abbrev fK:Stmt:=top 32
abbrev dI:Stmt:=top 33
abbrev eO:Stmt:=top 34
abbrev cB:Stmt:=top 35
abbrev fT:Stmt:=top 36
abbrev j3:Stmt:=top 37
abbrev dY:Stmt:=inClass (top 2) 0
structure Txt (K:QZ) (mg:Str->Option Value) (w:World):Prop where
 fi:mg "len"=none
 bK:mg "isinstance"=none
 uf:mg "all"=none
 i9:mg "range"=none
 Et:mg "str"=none
 vQ:mg "list"=none
 bS:mg "tuple"=none
 tX:mg "sorted"=none
 iI:mg "repr"=none
 fL:mg "enumerate"=none
 Mq:mg "zip"=none
 sO:∃ u,mg "LETTERS"=some u/\RelV (.str "abcdefghijklmnopqrstuvwxyz") u
 sA:∃ u,mg "LONGEST"=some u/\RelV (.int 8) u
 q9:∃ a,mg "NO_NAMES"=some (.ref a)/\∀ H,aj K H a [.str "all",.str "none",.str "way",.str "box",.str "pick"]
 oW:∃ u,mg "MOST_ROWS"=some u/\RelV (.int 200) u
 fG:∃ a,mg "NAMES_BEHIND"=some (.ref a)/\KD w K a [(.inr "all",.int 0),(.inr "none",.int 0),(.inr "way",.int 2),(.inr "as",.int 1)]
 jG:∃ a,mg "WORDED"=some (.ref a)/\∀ H,aj K H a [.str "box",.str "pick"]
 sI:cj K mg "is_name" fV ["thing"]
 m3:cj K mg "are_rising" cL ["words"]
 m9:cj K mg "is_telling" bW ["thing"]
 pB:cj K mg "heads_of" eJ ["T"]
 uG:cj K mg "is_row" jZ ["thing"]
 t7:cj K mg "is_head" fW ["thing"]
 qE:cj K mg "is_pairs" d9 ["thing"]
 t8:cj K mg "is_pair" iP ["thing"]
 pE:cj K mg "names_in" eW ["head"]
 qF:cj K mg "has_rows" eC ["heads","head"]
 mP:cj K mg "leads_out" fP ["heads","name"]
 k6:cj K mg "read_telling" dM ["text"]
 pV:cj K mg "read_row" gU ["line"]
 nO:cj K mg "read_head" dU ["words"]
 pR:cj K mg "_law_tpen" eE ["script"]
 oP:cj K mg "_law_tdraw" fM ["pen","many"]
 mI:cj K mg "_law_tnames" cW ["pen","many"]
 lT:cj K mg "_law_tpairs" cI ["pen","words","names"]
 oB:cj K mg "_law_thead" fK ["pen","sort","words","names"]
 k7:cj K mg "_law_ttelling" dI ["pen","most","words","sorts"]
 mE:cj K mg "_law_tlines" eO ["told"]
 kN:cj K mg "_law_tspoilt" cB ["pen","rows","way"]
 nW:cj K mg "_law_tread" fT ["text"]
 G4:cj K mg "law" j3 ["script"]
 Mr:By K mg "CoilError"
 vp:BA K mg "NoText" "NoText.__init__" dY ["self","number"] ["number"]
 Eu:By K mg "NoTelling"
 Ms:PySem.W.subIn K (.ref (adr mg "NoText")) (.ref (adr mg "NoText"))=some true
 O8:PySem.W.subIn K (.ref (adr mg "NoText")) (.ref (adr mg "NoTelling"))=some false
 Mt:PySem.W.subIn K (.ref (adr mg "NoTelling")) (.ref (adr mg "NoText"))=some false
 Mu:PySem.W.subIn K (.ref (adr mg "NoTelling")) (.ref (adr mg "NoTelling"))=some true
theorem jN:cu ["self","number"] ["self","number"] (au dY):=bP (by decide+kernel)
theorem p9:cu ["thing"] ["thing"] (au fV):=bP (by decide+kernel)
theorem kI:cu ["words"] ["words"] (au cL):=bP (by decide+kernel)
theorem gH:cu ["thing","heads"] ["thing"] (au bW):=bP (by decide+kernel)
theorem oH:cu ["T"] ["T"] (au eJ):=bP (by decide+kernel)
theorem tE:cu ["thing"] ["thing"] (au jZ):=bP (by decide+kernel)
theorem gP:cu ["thing","sort","rest"] ["thing"] (au fW):=bP (by decide+kernel)
theorem o7:cu ["thing"] ["thing"] (au d9):=bP (by decide+kernel)
theorem pZ:cu ["thing"] ["thing"] (au iP):=bP (by decide+kernel)
theorem oQ:cu ["head"] ["head"] (au eW):=bP (by decide+kernel)
theorem mW:cu ["heads","head"] ["heads","head"] (au eC):=bP (by decide+kernel)
theorem eM:cu ["heads","name","turn"] ["heads","name"] (au fP):=bP (by decide+kernel)
theorem bJ:cu ["text","rows","number","line","row","T"] ["text"] (au dM):=bP (by decide+kernel)
theorem iX:cu ["line","words"] ["line"] (au gU):=bP (by decide+kernel)
theorem eK:cu ["words","sort","rest"] ["words"] (au dU):=bP (by decide+kernel)
theorem dQ:cu ["script","mixed","cell"] ["script"] (au eE):=bP (by decide+kernel)
theorem d6:cu ["pen","many","found","one","two"] ["pen","many"] (au fM):=bP (by decide+kernel)
theorem bE:cu ["pen","many","letters","ahead","first","found","k","name"] ["pen","many"] (au cW):=bP (by decide+kernel)
theorem gN:cu ["pen","words","names","some"] ["pen","words","names"] (au cI):=bP (by decide+kernel)
theorem lX:cu ["pen","sort","words","names"] ["pen","sort","words","names"] (au fK):=bP (by decide+kernel)
theorem aT:cu ["pen","most","words","sorts","names","rows","k","name","sort","head","turn"] ["pen","most","words","sorts"] (au dI):=bP (by decide+kernel)
theorem bA:cu ["told","lines","name","head","words","one","word","other"] ["told"] (au eO):=bP (by decide+kernel)
theorem bF:cu ["pen","rows","way","at","name","letters","many"] ["pen","rows","way"] (au cB):=bP (by decide+kernel)
theorem bZ:cu ["text","told","e"] ["text"] (au fT):=bP (by decide+kernel)
theorem dE:cu ["script","pen","words","way","rows","lines","good","due","at","bad"] ["script"] (au j3):=bP (by decide+kernel)
section
variable {K:QZ}
theorem bY (T:Txt K mg w):av P w K mg base 1 "_law_tdraw" ["pen","many"] x_:=by
 refine T.oP.e_ d6 (fun vs H Q E h=>?_) (fun f ak A outer s H vs Q E hr h=>?_)
 ·obtain ⟨p,w',m,t,rfl,_⟩:=h
  rfl
 ·refine hdn fun Gz9 zG9=>?_;obtain ⟨p,w',m,t,rfl,hp,⟨vq,As⟩,ht,k⟩:=h;refine zG9 ?_
  have hu:=cD hr
  have Ew:=hp.ne
  have O9:t < 1000000000000:=ht
  refine ⟨_,(aE (cF (K0 (aX tY (aI (aN K) (by rfl) T.fi PySem.boot_len (aL (cG hu (zv 0) aK (fun _ _=>rfl)) aB)) aG (cz _)) (yU (aX lZ (cC (cA K) (cG hu (zv 0) aK (fun _ _=>rfl)) aG (fun _ _=>rfl)) (zv 1) (cz _)))).pt (aH (eP (i3 K QH PySem.F.slot_list_pop PySem.F.type_list_pop vB (cG hu (zv 0) aK (fun _ _=>rfl)) (aD aG aB)))) aV)
   (aE (cF (aX tY (aI (aN K) (by rfl) T.fi PySem.boot_len (aL (cG hu (zv 0) aK (fun _ _=>rfl)) aB)) aG (cz _)) (aE (aR (i:=2) d6.nd rfl (Or.inl rfl) (bH d4 (cC (cA K) (cG hu (zv 0) aK (fun _ _=>rfl)) aG (fun _ _=>rfl)) (zv 1)))
   (aE (nE (bH mK (cC (cA K) (cG hu (zv 0) aK (fun _ _=>rfl)) aG (fun _ _=>rfl)) (zv 1)) (u4 (cG hu (zv 0) aK (fun _ _=>rfl)) aG kC))
   (aH (aS (zv 2))))) aV)
   (aE (zE hu (zv 0) aK (bH aY (cG hu (zv 0) aK (fun _ _=>rfl)) aG) rfl)
   (aE (aR (i:=3) d6.nd rfl (Or.inl rfl) (bH d4 (bH aY (cG hu (zv 0) aK (fun _ _=>rfl)) (bH eL (bH eL aG (cG hu (zv 0) aK (fun _ _=>rfl))) (cG hu (zv 0) aK (fun _ _=>rfl)))) aG))
   (aE (aR (i:=4) d6.nd rfl (Or.inl rfl) (bH d4 (bH aY (bH aY (bH eL (zv 3) (zv 3)) (bH eL aG (cG hu (zv 0) aK (fun _ _=>rfl)))) aG) aG))
   (aH (aS (bH d4 (bH mK (bH d4 (bH aY (bH eL (zv 4) (zv 4)) (zv 3)) aG) aG) (zv 1))))))))),?_⟩
  refine hdn fun Gz9 zG9=>?_;obtain ⟨mx,c,ws,h1,h2,⟨G5,mr⟩,Mv,jx⟩:=hp.ex;refine zG9 ?_
  have gW:∀ {H1:Hp} {c1:Int},H1 p=some (.dK (s_ w' mx c1))->gu H1 p (.str "wide") (some (.ref w')):=fun h=>gu.k (k:=Sum.inr "wide") h
  have gT:∀ {H1:Hp} {c1:Int},H1 p=some (.dK (s_ w' mx c1))->gu H1 p (.str "turn") (some (.int c1)):=fun h=>gu.k (k:=Sum.inr "turn") h
  have gM:∀ {H1:Hp} {c1:Int},H1 p=some (.dK (s_ w' mx c1))->gu H1 p (.str "mixed") (some (.int mx)):=fun h=>gu.k (k:=Sum.inr "mixed") h
  refine bL (fun σ' H1=>σ'=[some (.ref p),some (.int m),none,none,none]/\∃ Au:List Int,H1 p=some (.dK (s_ w' mx c))/\H1 w'=some (.lst (Au.map V.int))/\Sm p w' H H1) ?_ ?_
  ·intro nx gf
   refine ⟨p,.ref w',rfl,gW h1,.inl ⟨_,.inl (ae.of h2),_,rfl,?_⟩⟩
   refine xw (fun hl=>?_) (fun hl=>?_)
   ·cases ws with
    | nil=>simp at hl
    | cons x0 ws=>
     refine ⟨p,.ref w',rfl,gW h1,_,.int x0,.inl (ae.of h2),bB _ _,_,rfl,?_⟩
     refine xw (fun gr=>?_) (fun gr=>?_)
     ·refine ⟨p,.ref w',rfl,gW h1,?_,w',_,0,0,.int x0,rfl,rfl,h2,by decide,by decide,(by rw [Ql];exact (m6 (mM _)).1),rfl,?_⟩
      ·exact .inl ⟨rfl,_,ae.of h2⟩
      ·exact gf _ _ ⟨rfl,ws,by rw [aF Ew];exact h1,aA,fun b o hb h3 h4=>by rw [aF h4];exact hb⟩
     ·exact gf _ _ ⟨rfl,x0::ws,h1,h2,Sm.refl⟩
   ·exact gf _ _ ⟨rfl,ws,h1,h2,Sm.refl⟩
  ·rintro σ' H1 ⟨rfl,Au,g1,g2,sm⟩
   refine bL (fun σ' H2=>σ'=[some (.ref p),some (.int m),none,none,none]/\H2=H1) ?_ ?_
   ·intro nx gf
    refine ⟨p,.ref w',rfl,gW g1,.inl ⟨_,.inl (ae.of g2),_,rfl,?_⟩⟩
    refine xw (fun hl=>?_) (fun hl=>?_)
    ·cases Au with
     | nil=>simp at hl
     | cons x0 Au=>
      refine ⟨p,.ref w',rfl,gW g1,_,.int x0,.inl (ae.of g2),bB _ _,vq,?_⟩
      refine ⟨p,.ref w',rfl,gW g1,_,.int x0,.inl (ae.of g2),bB _ _,⟨vq,As⟩,?_⟩
      refine ⟨p,.ref w',rfl,gW g1,w',_,0,0,rfl,rfl,g2,mM _,?_⟩
      refine k _ _ (Int.emod_nonneg _ (by omega)) (Int.emod_lt_of_pos _ vq) ⟨mx,c,x0 / m::Au,?_,aA,⟨G5,mr⟩,Mv,by omega⟩ (sm.trans fun b o hb h3 h4=>by rw [aF h4];exact hb)
      rw [aF Ew];exact g1
    ·exact gf _ _ ⟨rfl,rfl⟩
   ·rintro σ' H2 ⟨rfl,rfl⟩
    have g3:upd H2 p (.dK (s_ w' mx (c+1))) p=some (.dK (s_ w' mx (c+1))):=aA
    have b1:(0:Int)<=c+1/\c+1<=1000000000000:=by omega
    refine ⟨p,.int c,rfl,gT g1,p,_,rfl,A2.k (k:=Sum.inr "turn") g1 (show 3 < sizeLine by decide),?_⟩
    show qf _ _ _ _ (upd H2 p (.dK (s_ w' mx (c+1))))
    refine ⟨p,_,rfl,gM g3,p,_,rfl,gT g3,.inl ⟨by omega,by omega⟩,p,_,rfl,gT g3,.inl ⟨?_,?_⟩,by decide,?_⟩
    ·show -(2^64) < 7919*(c+1);omega
    ·show 7919*(c+1) < 2^64;omega
    generalize ho:(mx+7919*(c+1)*(c+1)) % 2147483629=one
    have O_:0<=one:=by rw [<- ho];exact Int.emod_nonneg _ (by decide)
    have Pa:one < 2147483629:=by rw [<- ho];exact Int.emod_lt_of_pos _ (by decide)
    refine ⟨.inl ⟨by omega,by omega⟩,p,_,rfl,gT g3,.inl ⟨by decide,by decide⟩,by decide,?_⟩
    generalize yk:(one*one+40692*(c+1)+3) % 998244353=two
    have G6:0<=two:=by rw [<- yk];exact Int.emod_nonneg _ (by decide)
    have Pb:two < 998244353:=by rw [<- yk];exact Int.emod_lt_of_pos _ (by decide)
    refine ⟨.inl ⟨by omega,by omega⟩,by decide,⟨by decide,by decide⟩,vq,?_⟩
    refine k _ _ (Int.emod_nonneg _ (by omega)) (Int.emod_lt_of_pos _ vq) ⟨mx,c+1,Au,g3,?_,⟨G5,mr⟩,by omega,by omega⟩ (sm.trans fun b o hb h3 h4=>by rw [aF h3];exact hb)
    rw [aF Ew.symm];exact g2
theorem o5 (T:Txt K mg w):av P w K mg base 1 "_law_tpen" ["script"] (Gg K):=by
 refine T.pR.e_ dQ (fun vs H Q E h=>?_) (fun f ak A outer s H vs Q E hr h=>?_)
 ·obtain ⟨a,ns,rfl,_⟩:=h
  rfl
 ·obtain ⟨a,ns,rfl,hS,hl,k⟩:=h
  refine ⟨_,(aE (aR (i:=1) dQ.nd rfl (Or.inl rfl) aG)
   (aE (i0 PassesOwn.never rfl (nU K (zv 0)) (aP (i:=2) dQ.nd rfl (Or.inl rfl)) (aH (aR (i:=1) dQ.nd rfl (Or.inl rfl) (bH d4 (bH aY (bH aY (bH eL (zv 1) aG) (bH d4 (zv 2) aG)) aG) aG))))
   (aH (aS (yG (lV aK (zv 1) (lV aK aG (lV aK (fO (own:=["cell"]) (idx:=[]) (N':=["cell"]) (cJ (au eE) (["script","mixed","cell"]:List Str) (by decide+kernel)) rfl (nU K (zv 0)) (fun _ _ _ _ _ _=>(aP (i:=0) (show List.Nodup (["cell"]:List Str) by decide+kernel) rfl (Or.inl rfl))) (fun _ _ _ _ _ _=>(xU (aX zQ (zv 0) (bH xL aG aG) (cz _)))) (fun _ _ _ _ _ _=>(zv 0))) K1))) rfl rfl (by simp) (by decide)))))),?_⟩
  refine .inl ⟨⟨_,hS⟩,eZ (cM (ns.map V.int)) (fun i σ H'=>H'=H/\∃ (m:Int) (v:Option V),σ=[some (.ref a),some (.int m),v]/\0<=m/\m < 2147483629) ⟨rfl,7,none,rfl,by decide,by decide⟩ (fun i τ H' _ h=>by rw [h.1];exact hS) ?_ ?_⟩
  ·rintro i σ H' hi ⟨rfl,m,v,rfl,vq,As⟩
   rw [Ql] at hi
   rw [fS ns i hi]
   exact ⟨.inl ⟨by omega,by omega⟩,by decide,by decide,rfl,_,_,rfl,Int.emod_nonneg _ (by decide),Int.emod_lt_of_pos _ (by decide)⟩
  ·rintro σ H' ⟨rfl,m,v,rfl,vq,As⟩
   intro p hp
   have G7:∀ o,ae K (upd H' p o) a (ns.map V.int):=fun o=>(aa.upd hp o).seq hS
   refine .inl ⟨⟨_,G7 _⟩,fun D hD=>?_⟩
   have Ex:D≠p:=fun e=>by rw [e,aA] at hD;cases hD
   have vt:H' D=none:=by rw [aF Ex] at hD;exact hD
   have sD:∀ o,aa (upd H' p (.dK [])) (upd (upd H' p (.dK [])) D o):=fun o=>aa.upd hD o
   refine rH (cM (ns.map V.int)) (fun i=>decide ((10:Int)^15<=ns.getD i 0)) (fun i=>.int (ns.getD i 0)) (by rw [Ql];exact A6 (by omega)) (fun ys=>(sD _).seq (G7 _)) (fun i hi ys k' hk=>?_) (fun i hi _ ys k' hk=>?_) ?_
   ·rw [Ql] at hi
    rw [fS ns i hi]
    exact ⟨⟨by decide,by decide,by decide⟩,_,rfl,hk⟩
   ·rw [Ql] at hi
    rw [fS ns i hi]
    exact hk
   ·refine ⟨by rw [aF Ex.symm,aA],s_ D m 0,rfl,(show 3<=15 by decide),?_⟩
    refine k p D _ hp vt ⟨m,0,((List.range (ns.map V.int).length).filter fun i=>decide ((10:Int)^15<=ns.getD i 0)).map (fun i=>ns.getD i 0),aA,?_,⟨vq,As⟩,by decide,by decide⟩ ?_
    ·rw [aF Ex,aA,Qn];rfl
    ·intro b o hb
     rw [aF (aJ hb hp),aF (aJ hb vt),aF (aJ hb hp)]
     exact hb
theorem pN (T:Txt K mg w):av P w K mg base 1 "is_name" ["thing"] Gh:=by
 refine T.sI.e_ p9 (fun vs H Q E h=>?_) (fun f ak A outer s H vs Q E hr h=>?_)
 ·obtain ⟨p,w',x,rfl,_⟩:=h
  rfl
 ·obtain ⟨p,w',x,rfl,hg,k⟩:=h
  refine ⟨_,(aE (cF (nB (f8 (f9 (aI cH (by rfl) T.bK PyProof.Rows.boot_isinstance (aC (zv 0) (aC (fQ (v:=.ty "str") (by rfl) T.Et PyProof.Rows.boot_str rfl) aB))))) (iT (f8 (rK lW lW aG (aI (aN K) (by rfl) T.fi PySem.boot_len (aC (zv 0) aB)) (DR T.sA))))).pt (aH (aS iG)) aV)
   (aH (aS (gE (dG (tF K) (zv 0) (rA K T.q9) rfl) (iU (aI (c9 K rfl) (by rfl) T.uf QW (aU (fO (own:=["sign"]) (idx:=[]) (N':=["sign"]) (cJ (au fV) (["thing"]:List Str) (by decide+kernel)) rfl (nU K (zv 0)) (fun _ _ _ _ _ _=>(aP (i:=0) (show List.Nodup (["sign"]:List Str) by decide+kernel) rfl (Or.inl rfl))) (fun _ _ _ _ _ _=>cT) (fun _ _ _ _ _ _=>(dG (iK K) (zv 0) (DR T.sO) rfl))) aB))))))),?_⟩
  obtain ⟨t,ht,hts⟩:=Ld hg
  refine ⟨by decide,t,ht,_,rfl,?_⟩
  cases hs:qw t "str" with
  | false=>
   refine cy ?_
   have:=k H (aa.refl H)
   rw [Le (fun hz=>by rw [hts.mpr hz] at hs;cases hs)] at this
   exact this
  | true=>
   obtain ⟨z,rfl⟩:=hts.mp hs
   have hz:z.length<=100000:=hg
   have oq:z.length<=sizeLine:=by have:sizeLine=16777216:=QK;omega
   refine h_ ?_
   have fin:∀ b,isName z=b->Q (.bl b) H:=fun b e=>by have:=k H (aa.refl H);rw [<- e];exact this
   refine ⟨oq,_,rfl,?_⟩
   refine xw (fun h1=>?_) (fun h1=>?_)
   ·refine ⟨_,rfl,?_⟩
    have qp:1<=z.length:=by have:=Qt h1;omega
    refine Ba (fun h2=>?_) (fun h2=>?_)
    rotate_left
    ·refine fin false ?_
     have qt:¬z.length<=8:=by have:=Qu h2;omega
     simp [isName,qt]
    ·have qt:z.length<=8:=by have:=Qt h2;omega
     intro a ha
     refine ⟨_,.inr ha,rfl,rfl,_,rfl,?_⟩
     have rf:uz (.str z) (oj.map V.str)=oj.any fun y=>y==z:=by
      show (oj.map V.str).any (fun y=>nv y (.str z))=_
      rw [List.any_map];rfl
     refine xw (fun h3=>?_) (fun h3=>?_)
     ·intro D hD
      refine rH (xB z) (fun _=>true) (fun i=>.bl (tq (z.cps.getD i 0))) (A6 (by have:z.cps.size=z.length:=rfl;omega)) (fun _=>True.intro) (fun i hi ys k' hk=>hk) (fun i hi _ ys k' hk=>⟨_,rfl,by rw [QE];exact hk⟩) ?_
      refine ⟨(List.range z.cps.size).map fun i=>tq (z.cps.getD i 0),?_,?_⟩
      ·rw [Qn]
       have:((List.range z.cps.size).filter fun _=>true)=List.range z.cps.size:=by simp
       rw [this]
       exact ae.of aA
      ·rw [kH]
       have e:Bb (.str z)=z.cps.toList.all tq:=by
        have BB:(oj.any fun y=>y==z)=false:=by rw [<- rf];simpa using h3
        simp [Bb,isName,qp,qt,BB]
       rw [<- e]
       exact k _ (aa.upd hD _)
     ·refine fin false ?_
      have BB:(oj.any fun y=>y==z)=true:=by rw [<- rf];simpa using h3
      simp [isName,BB]
   ·refine ⟨_,rfl,cy (fin false ?_)⟩
    have qp:¬1<=z.length:=by have:¬(1:Int)<=z.length:=fun q=>h1 (Qv q);omega
    simp [isName,qp]
theorem dS (T:Txt K mg w):av P w K mg base 1 "is_name" ["thing"] (spT dc):=(pN T).imp fun _ _ _ _ h=>u9 h
def pe:Dt->Bool | .tup [_,b]=>dc b | _=>false
def vy:Dt->Dt | .tup (d::_)=>d | _=>.bx
theorem jO (ds:List Dt):t_ (.tup ds)=(ds.all pe&&((ds.map vy).all dc&&rising ((ds.map vy).map Bk))):=by
 have e1:ds.all pairD=(ds.all pe&&(ds.map vy).all dc):=by
  rw [List.all_map]
  induction ds with
  | nil=>rfl
  | cons d ds ih=>
   have e:pairD d=(pe d&&(dc∘vy) d):=by
    match d with
    | .str _=>rfl
    | .bx=>rfl
    | .tup []=>rfl
    | .tup [_]=>rfl
    | .tup [a,b]=>exact Bool.and_comm _ _
    | .tup (a::b::c::r)=>rfl
   rw [List.all_cons,List.all_cons,List.all_cons,ih,e]
   cases pe d<;>cases (dc∘vy) d<;>cases ds.all pe<;>rfl
 have e2:(ds.map vy).map Bk=ds.map Bj:=by
  rw [Qn]
  refine List.map_congr_left fun d _=>?_
  match d with
  | .str _=>rfl
  | .bx=>rfl
  | .tup []=>rfl
  | .tup (.str z::_)=>rfl
  | .tup (.tup _::_)=>rfl
  | .tup (.bx::_)=>rfl
 show (ds.all pairD&&rising (ds.map Bj))=_
 rw [e1,e2,Bool.and_assoc]
theorem sK {v:V} {d:Dt} (h:DD H v d) (hp:pe d=true):∃ b x y d1 d2,v=.ref b/\H b=some (.tup [x,y])/\d=.tup [d1,d2]/\DD H x d1:=by
 cases h with
 | @tup b ys es e' d_ hn' fu=>
  match es,d_,hp,fu with
  | [d1,d2],d_,hp,fu=>
   match ys,d_,e',fu with
   | [y1,y2],d_,e',fu=>exact ⟨b,y1,y2,d1,d2,rfl,e',rfl,fu 0 (by simp) (by simp)⟩
 | str _=>exact Bool.noConfusion hp
 | af=>exact Bool.noConfusion hp
 | bl _=>exact Bool.noConfusion hp
 | int _=>exact Bool.noConfusion hp
 | lst _=>exact Bool.noConfusion hp
 | dct _=>exact Bool.noConfusion hp
def G8:Sp:=fun vs H Q _=>∃ (L:Addr) (xs:List V) (ds:List Dt),vs=[.ref L]/\H L=some (.lst xs)/\xs.length=ds.length/\xs.length<=1000/\(∀ i (h:i < xs.length) (h':i < ds.length),DD H xs[i] ds[i])/\∀ H',aa H H'->Q (.bl (ds.all dc&&rising (ds.map Bk))) H'
theorem kJ (T:Txt K mg w):av P w K mg base 2 "are_rising" ["words"] G8:=by
 have cQ:av P w K mg base 1 "is_name" ["thing"] (spT dc):=dS T
 refine T.m3.e_ kI (fun vs H Q E h=>?_) (fun f ak A outer s H vs Q E hr h=>?_)
 ·obtain ⟨L,xs,ds,rfl,_⟩:=h
  rfl
 ·refine hdn fun Gz9 zG9=>?_;obtain ⟨L,xs,ds,rfl,gL,hl,hn,bw,k⟩:=h;refine zG9 ?_
  have b_:=Qx (cD hr)
  have hsz:sizeLine=16777216:=QK
  refine ⟨_,(aH (aS (gE (aI (c9 K rfl) (by rfl) T.uf QW (aU (fO (own:=["word"]) (idx:=[]) (N':=["word"]) (cJ (au cL) (["words"]:List Str) (by decide+kernel)) rfl (nU K (zv 0)) (fun _ _ _ _ _ _=>(aP (i:=0) (show List.Nodup (["word"]:List Str) by decide+kernel) rfl (Or.inl rfl))) (fun _ _ _ _ _ _=>cT) (fun _ _ _ _ _ _=>(bI cQ (hr.mono (by decide)) (aC (zv 0) aB)))) aB)) (iU (aI (c9 K rfl) (by rfl) T.uf QW (aU (fO (own:=["ahead","behind"]) (idx:=[]) (N':=["ahead","behind"]) (cJ (au cL) (["words"]:List Str) (by decide+kernel)) rfl (xM K (by rfl) T.Mq (aC (zv 0) (aL (d5 (lU K) (zv 0) (cS aG) dX) aB))) (fun _ _ _ _ _ _=>(i4 K (n:=2) rfl (bG (aP (i:=0) (show List.Nodup (["ahead","behind"]:List Str) by decide+kernel) rfl (Or.inl rfl)) (bG (aP (i:=1) (show List.Nodup (["ahead","behind"]:List Str) by decide+kernel) rfl (Or.inl rfl)) f7)))) (fun _ _ _ _ _ _=>cT) (fun _ _ _ _ _ _=>(dG lZ (zv 0) (zv 1) (cz _)))) aB)))))),?_⟩
  refine Or.inl ⟨⟨xs,ae.of gL⟩,fun D hD=>?_⟩
  refine dO (cM xs) (fun i=>dc (ds.getD i .bx)) (by omega) hD (fun H2 s2=>ae.of (s2 _ _ gL)) (fun i H2 k' hi s2 hk=>?_) (fun H2 s2 gr=>?_)
  ·refine ⟨_,ds.getD i .bx,rfl,?_,hk⟩
   have h3:=bw i hi (by omega)
   have e1:xs.getD i .af=xs[i]:=by simp [Qb,hi]
   have e2:ds.getD i .bx=ds[i]'(by omega):=by rw [Qb,Qa (by omega)];rfl
   show DD H2 (xs.getD i .af) _
   rw [e1,e2]
   exact h3.same s2
  ·refine ⟨_,ae.of gr,_,rfl,?_⟩
   rw [hl,bU ds .bx dc]
   refine di (fun h3=>?_) (fun h3=>?_)
   rotate_left
   ·have:=k H2 s2
    simp only [h3,Bool.false_and] at this
    exact this
   ·obtain ⟨ws,Mw,rfl⟩:∃ ws:List Str,ds.map Bk=ws/\xs=ws.map V.str:=by
     refine ⟨_,rfl,?_⟩
     apply List.ext_getElem
     ·simp [hl]
     ·intro i h1 h2
      have h4:=QF.mp h3 _ (Qj (show i < ds.length by omega))
      obtain ⟨z,q1,q2,_⟩:=d7 (bw i h1 (by omega)) h4
      rw [q1];simp [q2,Bk]
    have q1:=s2 _ _ gL
    refine ⟨1,rfl,Or.inr (Or.inl ⟨L,_,rfl,ae.of q1,fun p1 bu=>?_⟩)⟩
    have G9:L≠p1:=aJ q1 bu
    refine ⟨L,p1,_,_,rfl,ae.of (by rw [aF G9];exact q1),ae.of aA,fun D3 Av=>?_⟩
    have ec:dz (ws.map V.str) (some 1) none=(ws.drop 1).map V.str:=by
     have:=eB (ws.map V.str) 1
     rw [List.map_drop];exact this
    rw [ec] at Av ⊢
    refine qT (vW (ws.map V.str) ((ws.drop 1).map V.str)) (fun i τ H4=>H4 D3=some (.lst (((List.range i).map fun i=>l_ (ws.getD i "") (ws.getD (i+1) "")).map V.bl))/\aa (upd H2 p1 (.lst ((ws.drop 1).map V.str))) H4/\∃ v1 v2,τ=[v1,v2]) ⟨aA,aa.upd Av _,none,none,rfl⟩
     (fun i τ H4 _ h=>⟨ae.of (h.2.1 _ _ (by rw [aF G9];exact q1)),ae.of (h.2.1 _ _ aA)⟩) ?_ ?_
    ·rintro i τ H4 T0 hi ⟨r1,r2,u1,u2,rfl⟩ vz
     simp only [Ql,List.length_drop] at hi
     have e6:(ws.map V.str).getD i .af=.str (ws.getD i ""):=bM ws i (by omega)
     have e7:((ws.drop 1).map V.str).getD i .af=.str (ws.getD (i+1) ""):=by
      rw [bM (ws.drop 1) i (by rw [List.length_drop];omega)]
      congr 1
      rw [Qb,Qb,List.getElem?_drop,Nat.add_comm]
     rw [e6,e7]
     refine qQ ?_
     rw [if_pos rfl]
     simp only [Ql] at hn
     refine ⟨_,(aa.upd vz _) _ _ r1,by simp;omega,?_,((r2.trans (aa.upd vz _)).put Av),_,_,rfl⟩
     rw [aA,List.range_succ,Qm,Qm];rfl
    ·rintro τ H4 ⟨r1,r2,u1,u2,rfl⟩
     refine ⟨_,ae.of r1,?_⟩
     have Mx:aa H H4:=(s2.trans (aa.upd bu _)).trans r2
     have:=k H4 Mx
     simp only [h3,Bool.true_and] at this
     have er:((List.range (min (ws.map V.str).length ((ws.drop 1).map V.str).length)).map fun i=>l_ (ws.getD i "") (ws.getD (i+1) "")).all id=rising ws:=by
      simp only [Ql,List.length_drop]
      exact i6 ws
     rw [er,<- Mw]
     exact this
theorem pM (T:Txt K mg w):av P w K mg base 2 "is_pair" ["thing"] (spT pe):=by
 have cQ:av P w K mg base 1 "is_name" ["thing"] (spT dc):=dS T
 refine T.t8.e_ pZ (fun vs H Q E h=>?_) (fun f ak A outer s H vs Q E hr h=>?_)
 ·obtain ⟨x,d,rfl,_⟩:=h
  rfl
 ·obtain ⟨x,d,rfl,hd,k⟩:=h
  have b_:=Qx (cD hr)
  refine ⟨_,(aH (aS (gE (aI cH (by rfl) T.bK PyProof.Rows.boot_isinstance (aC (zv 0) (aC (fQ (v:=.ty "tuple") (by rfl) T.bS QG rfl) aB))) (gE (dG (bR b_) (aI (aN K) (by rfl) T.fi PySem.boot_len (aC (zv 0) aB)) aG (cz _)) (iU (bI cQ (hr.mono (by decide)) (aL (cC (cA K) (zv 0) aG (fun _ _=>rfl)) aB))))))),?_⟩
  obtain ⟨t,ht,h1,h2⟩:=hd.ty
  refine ⟨by decide,t,ht,_,rfl,?_⟩
  rw [h1]
  have k0:=k H (aa.refl H)
  cases hd with
  | @tup a xs ds e hl hn bw=>
   refine cy ?_
   refine Or.inl ⟨xs,.inr (aj.of e),rfl,_,rfl,di (fun h3=>?_) (fun h3=>?_)⟩
   ·rw [QE,bC] at h3
    have ym:xs.length=2:=by have:=Qt h3;omega
    obtain ⟨x1,x2,rfl⟩:∃ x1 x2,xs=[x1,x2]:=by
     match xs,ym with
     | [x1,x2],_=>exact ⟨x1,x2,rfl⟩
    obtain ⟨d1,d2,rfl⟩:∃ d1 d2,ds=[d1,d2]:=by
     match ds,hl with
     | [d1,d2],_=>exact ⟨d1,d2,rfl⟩
    refine ⟨_,x2,.inr (aj.of e),rfl,x2,d2,rfl,bw 1 (by simp) (by simp),fun H2 s2=>?_⟩
    exact k H2 s2
   ·rw [QE,bC] at h3
    have ym:xs.length≠2:=by have:=Qu h3;omega
    have e1:pe (.tup ds)=false:=by
     match ds,hl with
     | [],_=>rfl
     | [_],_=>rfl
     | [_,_],hl=>exact absurd hl ym
     | _::_::_::_,_=>rfl
    rw [e1] at k0
    exact k0
  | _=>exact h_ k0
theorem oS (T:Txt K mg w):av P w K mg base 3 "is_pairs" ["thing"] (spT t_):=by
 have sY:av P w K mg base 2 "is_pair" ["thing"] (spT pe):=pM T
 have mH:av P w K mg base 2 "are_rising" ["words"] G8:=kJ T
 refine T.qE.e_ o7 (fun vs H Q E h=>?_) (fun f ak A outer s H vs Q E hr h=>?_)
 ·obtain ⟨x,d,rfl,_⟩:=h
  rfl
 ·obtain ⟨x,d,rfl,hd,k⟩:=h
  have b_:=Qx (cD hr)
  have hsz:sizeLine=16777216:=QK
  refine ⟨_,(aE (cF (nB (f8 (f9 (aI cH (by rfl) T.bK PyProof.Rows.boot_isinstance (aC (zv 0) (aC (fQ (v:=.ty "tuple") (by rfl) T.bS QG rfl) aB))))) (iT (f8 (f9 (aI (c9 K rfl) (by rfl) T.uf QW (aU (fO (own:=["pair"]) (idx:=[]) (N':=["pair"]) (cJ (au d9) (["thing"]:List Str) (by decide+kernel)) rfl (nU K (zv 0)) (fun _ _ _ _ _ _=>(aP (i:=0) (show List.Nodup (["pair"]:List Str) by decide+kernel) rfl (Or.inl rfl))) (fun _ _ _ _ _ _=>cT) (fun _ _ _ _ _ _=>(bI sY (hr.mono (by decide)) (aC (zv 0) aB)))) aB)))))).pt (aH (aS iG)) aV)
   (aH (aS (bI mH (hr.mono (by decide)) (aU (fO (own:=["word","x"]) (idx:=[]) (N':=["word","x"]) (cJ (au d9) (["thing"]:List Str) (by decide+kernel)) rfl (nU K (zv 0)) (fun _ _ _ _ _ _=>(i4 K (n:=2) rfl (bG (aP (i:=0) (show List.Nodup (["word","x"]:List Str) by decide+kernel) rfl (Or.inl rfl)) (bG (aP (i:=1) (show List.Nodup (["word","x"]:List Str) by decide+kernel) rfl (Or.inl rfl)) f7)))) (fun _ _ _ _ _ _=>cT) (fun _ _ _ _ _ _=>(zv 0))) aB))))),?_⟩
  obtain ⟨t,ht,h1,h2⟩:=hd.ty
  refine ⟨by decide,t,ht,_,rfl,?_⟩
  rw [h1]
  have k0:=k H (aa.refl H)
  cases hd with
  | @tup a xs ds e hl hn bw=>
   refine h_ ?_
   refine Or.inr ⟨⟨xs,aj.of e⟩,fun D hD=>?_⟩
   refine dO (cZ xs) (fun i=>pe (ds.getD i .bx)) (by omega) hD (fun H2 s2=>aj.of (s2 _ _ e)) (fun i H2 k' hi s2 hk=>?_) (fun H2 s2 gr=>?_)
   ·refine ⟨_,ds.getD i .bx,rfl,?_,hk⟩
    have h3:=bw i hi (by omega)
    have e1:xs.getD i .af=xs[i]:=by simp [Qb,hi]
    have e2:ds.getD i .bx=ds[i]'(by omega):=by rw [Qb,Qa (by omega)];rfl
    show DD H2 (xs.getD i .af) _
    rw [e1,e2]
    exact h3.same s2
   ·refine ⟨_,ae.of gr,_,rfl,?_⟩
    rw [hl,bU ds .bx pe]
    refine Ba (fun h3=>?_) (fun h3=>?_)
    rotate_left
    ·have:=k H2 s2
     rw [jO,h3,Bool.false_and] at this
     exact this
    ·have My:∀ i (h:i < xs.length),∃ b x y d1 d2,xs[i]=.ref b/\H b=some (.tup [x,y])/\ds[i]? =some (.tup [d1,d2])/\DD H x d1:=fun i hi=>by
      have h4:=QF.mp h3 _ (Qj (show i < ds.length by omega))
      have h5:=bw i hi (by omega)
      refine hdn fun Gz9 zG9=>?_;obtain ⟨b,x,y,d1,d2,e1,e2,e3,e4⟩:=sK h5 h4;refine zG9 ?_
      exact ⟨b,x,y,d1,d2,e1,e2,by rw [Qa (by omega),e3],e4⟩
     have e2:=s2 _ _ e
     refine Or.inr ⟨⟨xs,aj.of e2⟩,fun D2 ik=>?_⟩
     refine hZ (cZ xs) (fun i τ H3=>(∃ us:List V,H3 D2=some (.lst us)/\us.length=i/\∀ j (h:j < us.length) (h':j < ds.length),DD H us[j] (vy ds[j]))/\aa H2 H3/\∃ v1 v2,τ=[v1,v2]) ⟨⟨[],aA,rfl,fun j h=>nomatch h⟩,aa.upd ik _,none,none,rfl⟩ (fun i τ H3 _ h=>aj.of (h.2.1 _ _ e2)) ?_ ?_
     ·rintro i τ H3 hi z0;refine hdn fun Gz9 zG9=>?_;obtain ⟨⟨us,q1,G_,Ey⟩,q2,v1,v2,rfl⟩:=z0;refine zG9 ?_
      refine hdn fun Gz9 zG9=>?_;obtain ⟨b,x,y,d1,d2,e3,e4,e5,e6⟩:=My i hi;refine zG9 ?_
      have e1:xs.getD i .af=.ref b:=by rw [Qb,Qa hi,e3];rfl
      rw [e1]
      refine lB (q2 _ _ (s2 _ _ e4)) ?_
      refine ⟨_,q1,by omega,⟨us++[x],aA,by simp;omega,fun j hj yn=>?_⟩,(q2.put ik),_,_,rfl⟩
      by_cases Ho:j < us.length
      ·rw [Qe Ho];exact Ey j Ho yn
      ·have ej:j=i:=by simp at hj;omega
       subst ej
       have e7:ds[j]=.tup [d1,d2]:=by rw [Qa yn] at e5;exact QD e5
       rw [Qf (by omega),e7]
       simp only [G_,Nat.sub_self,List.getElem_cons_zero]
       exact e6
     ·rintro τ H3 z0;refine hdn fun Gz9 zG9=>?_;obtain ⟨⟨us,q1,G_,Ey⟩,q2,v1,v2,rfl⟩:=z0;refine zG9 ?_
      refine ⟨D2,us,ds.map vy,rfl,q1,by simp;omega,by omega,fun j hj yn=>?_,fun H4 s4=>?_⟩
      ·rw [Qr]
       exact (Ey j hj (by simpa using yn)).same (s2.trans q2)
      ·have:=k H4 ((s2.trans q2).trans s4)
       rw [jO,h3,Bool.true_and] at this
       exact this
  | _=>exact cy k0
theorem pD (T:Txt K mg w):av P w K mg base 4 "is_head" ["thing"] (spT headD):=by
 have cQ:av P w K mg base 1 "is_name" ["thing"] (spT dc):=dS T
 have qG:av P w K mg base 3 "is_pairs" ["thing"] (spT t_):=oS T
 refine T.t7.e_ gP (fun vs H Q E h=>?_) (fun f ak A outer s H vs Q E hr h=>?_)
 ·obtain ⟨x,d,rfl,_⟩:=h
  rfl
 ·obtain ⟨x,d,rfl,hd,k⟩:=h
  have b_:=Qx (cD hr)
  have hsz:sizeLine=16777216:=QK
  refine ⟨_,(aE (cF (nB (f8 (f9 (aI cH (by rfl) T.bK PyProof.Rows.boot_isinstance (aC (zv 0) (aC (fQ (v:=.ty "tuple") (by rfl) T.bS QG rfl) aB))))) (iT (aX (bR b_) (aI (aN K) (by rfl) T.fi PySem.boot_len (aC (zv 0) aB)) aG (cz _)))).pt (aH (aS iG)) aV)
   (aE (nE (zv 0) (vA K rfl (aP (i:=1) gP.nd rfl (Or.inl rfl)) (aP (i:=2) gP.nd rfl (Or.inl rfl))))
   (aE (cF (f8 (f9 (aI cH (by rfl) T.bK PyProof.Rows.boot_isinstance (aC (zv 1) (aC (fQ (v:=.ty "str") (by rfl) T.Et PyProof.Rows.boot_str rfl) aB))))) (aH (aS iG)) aV)
   (aE (cF (aX (iK K) (zv 1) (rA K T.jG) rfl) (aH (aS (gE (dG (bR b_) (aI (aN K) (by rfl) T.fi PySem.boot_len (aC (zv 2) aB)) aG (cz _)) (iU (bI qG (hr.mono (by decide)) (aL (cC (cA K) (zv 2) aG (fun _ _=>rfl)) aB)))))) aV)
   (aE (cF (Lr T.fG (zv 1)) (aH (aS (gE (dG (bR b_) (aI (aN K) (by rfl) T.fi PySem.boot_len (aC (zv 2) aB)) (zC T.fG (zv 1) (fun _ _=>rfl)) (cz _)) (iU (aI (c9 K rfl) (by rfl) T.uf QW (aU (fO (own:=["x"]) (idx:=[]) (N':=["x"]) (cJ (au fW) (["thing","sort","rest"]:List Str) (by decide+kernel)) rfl (nU K (zv 2)) (fun _ _ _ _ _ _=>(aP (i:=0) (show List.Nodup (["x"]:List Str) by decide+kernel) rfl (Or.inl rfl))) (fun _ _ _ _ _ _=>cT) (fun _ _ _ _ _ _=>(bI cQ (hr.mono (by decide)) (aC (zv 0) aB)))) aB)))))) aV)
   (aH (aS iG))))))),?_⟩
  obtain ⟨t,ht,h1,h2⟩:=hd.ty
  refine ⟨by decide,t,ht,_,rfl,?_⟩
  rw [h1]
  have k0:=k H (aa.refl H)
  cases hd with
  | @tup a xs ds e hl hn bw=>
   refine h_ ?_
   refine Or.inl ⟨xs,.inr (aj.of e),rfl,_,rfl,di (fun h3=>?_) (fun h3=>?_)⟩
   ·rw [QE,bC] at h3
    have hx:ds=[]:=by have:=Qt h3;exact List.length_eq_zero_iff.mp (by omega)
    subst hx
    exact k0
   ·rw [QE,bC] at h3
    have hx:xs.length≠0:=by have:=Qu h3;omega
    obtain ⟨x0,xr,rfl⟩:∃ x0 xr,xs=x0::xr:=by
     match xs,hx with
     | x0::xr,_=>exact ⟨x0,xr,rfl⟩
    obtain ⟨d0,dr,rfl⟩:∃ d0 dr,ds=d0::dr:=by
     match ds,hl with
     | d0::dr,_=>exact ⟨d0,dr,rfl⟩
    have d_:xr.length=dr.length:=by simpa using hl
    have hn':xr.length < 1000:=by simp at hn;omega
    have hd0:DD H x0 d0:=bw 0 (by simp) (by simp)
    have Hq:∀ i (h:i < xr.length) (h':i < dr.length),DD H xr[i] dr[i]:=fun i h h'=>bw (i+1) (by simpa using h) (by simpa using h')
    refine d8 ?_
    refine ⟨a,x0,xr,rfl,aj.of e,fun R hR=>?_⟩
    have s1:=aa.upd hR (.lst xr)
    have Aw:upd H R (.lst xr) R=some (.lst xr):=aA
    generalize upd H R (.lst xr)=H1 at s1 Aw
    have k1:=k H1 s1
    obtain ⟨t0,G6,_,Mz⟩:=(hd0.same s1).ty
    refine ⟨by decide,t0,G6,_,rfl,?_⟩
    rw [Mz]
    cases hd0 with
    | @str z hz=>
     refine h_ ?_
     refine d8 ?_
     intro aW hW
     refine ⟨_,.inr hW,rfl,rfl,_,rfl,?_⟩
     rw [QE,iF]
     refine di (fun h4=>?_) (fun h4=>?_)
     ·refine Or.inl ⟨xr,.inl (ae.of Aw),rfl,_,rfl,di (fun h5=>?_) (fun h5=>?_)⟩
      ·rw [QE,bC] at h5
       have mr:xr.length=1:=by have:=Qt h5;omega
       obtain ⟨x1,rfl⟩:∃ x1,xr=[x1]:=by
        match xr,mr with
        | [x1],_=>exact ⟨x1,rfl⟩
       obtain ⟨d1,rfl⟩:∃ d1,dr=[d1]:=by
        match dr,d_ with
        | [d1],_=>exact ⟨d1,rfl⟩
       refine ⟨_,x1,.inl (ae.of Aw),rfl,x1,d1,rfl,(Hq 0 (by simp) (by simp)).same s1,fun H2 s2=>?_⟩
       have:=k H2 (s1.trans s2)
       rw [dN,if_pos h4] at this
       exact this
      ·rw [QE,bC] at h5
       have mr:dr.length≠1:=by have:=Qu h5;omega
       rw [dN,if_pos h4] at k1
       match dr,mr,k1 with
       | [],_,k1=>exact k1
       | [_],mr,_=>exact absurd rfl mr
       | _::_::_,_,k1=>exact k1
     ·refine d8 ?_
      refine ⟨.inr z,rfl,_,rfl,?_⟩
      rw [iY]
      rw [dN,if_neg (by rw [h4];exact Bool.false_ne_true)] at k1 k
      cases hb:vh z with
      | none=>
       rw [hb] at k1
       exact h_ k1
      | some n=>
       rw [hb] at k1 k
       refine cy ?_
       refine Or.inl ⟨xr,.inl (ae.of Aw),.inr z,.int n,rfl,by rw [iY,hb];rfl,rfl,_,rfl,di (fun h5=>?_) (fun h5=>?_)⟩
       ·rw [QE,bC] at h5
        have mr:dr.length=n:=by have:=Qt h5;omega
        refine Or.inl ⟨⟨xr,ae.of Aw⟩,fun D hD=>?_⟩
        refine dO (cM xr) (fun i=>dc (dr.getD i .bx)) (by omega) hD (fun H2 s2=>ae.of (s2 _ _ Aw)) (fun i H2 k' hi s2 hk=>?_) (fun H2 s2 gr=>?_)
        ·refine ⟨_,dr.getD i .bx,rfl,?_,hk⟩
         have h6:=Hq i hi (by omega)
         have e1:xr.getD i .af=xr[i]:=by simp [Qb,hi]
         have e2:dr.getD i .bx=dr[i]'(by omega):=by rw [Qb,Qa (by omega)];rfl
         show DD H2 (xr.getD i .af) _
         rw [e1,e2]
         exact (h6.same s1).same s2
        ·refine ⟨_,ae.of gr,?_⟩
         rw [d_,bU dr .bx dc]
         have:=k H2 (s1.trans s2)
         simp only [mr,decide_true,Bool.true_and] at this
         exact this
       ·rw [QE,bC] at h5
        have mr:¬dr.length=n:=by have:=Qu h5;omega
        simp only [mr,decide_false,Bool.false_and] at k1
        exact k1
    | tup _ _ _ _=>exact cy k1
    | af=>exact cy k1
    | bl _=>exact cy k1
    | int _=>exact cy k1
    | lst _=>exact cy k1
    | dct _=>exact cy k1
  | str _=>exact cy k0
  | af=>exact cy k0
  | bl _=>exact cy k0
  | int _=>exact cy k0
  | lst _=>exact cy k0
  | dct _=>exact cy k0
theorem lA (T:Txt K mg w):av P w K mg base 5 "is_row" ["thing"] (spT gj):=by
 have cQ:av P w K mg base 1 "is_name" ["thing"] (spT dc):=dS T
 have sP:av P w K mg base 4 "is_head" ["thing"] (spT headD):=pD T
 refine T.uG.e_ tE (fun vs H Q E h=>?_) (fun f ak A outer s H vs Q E hr h=>?_)
 ·obtain ⟨x,d,rfl,_⟩:=h
  rfl
 ·obtain ⟨x,d,rfl,hd,k⟩:=h
  have b_:=Qx (cD hr)
  refine ⟨_,(aH (aS (gE (aI cH (by rfl) T.bK PyProof.Rows.boot_isinstance (aC (zv 0) (aC (fQ (v:=.ty "tuple") (by rfl) T.bS QG rfl) aB))) (gE (dG (bR b_) (aI (aN K) (by rfl) T.fi PySem.boot_len (aC (zv 0) aB)) aG (cz _)) (gE (bI cQ (hr.mono (by decide)) (aL (cC (cA K) (zv 0) aG (fun _ _=>rfl)) aB)) (iU (bI sP (hr.mono (by decide)) (aL (cC (cA K) (zv 0) aG (fun _ _=>rfl)) aB)))))))),?_⟩
  obtain ⟨t,ht,h1,h2⟩:=hd.ty
  refine ⟨by decide,t,ht,_,rfl,?_⟩
  rw [h1]
  have k0:=k H (aa.refl H)
  cases hd with
  | @tup a xs ds e hl hn bw=>
   refine cy ?_
   refine Or.inl ⟨xs,.inr (aj.of e),rfl,_,rfl,di (fun h3=>?_) (fun h3=>?_)⟩
   ·rw [QE,bC] at h3
    have ym:xs.length=2:=by have:=Qt h3;omega
    obtain ⟨x1,x2,rfl⟩:∃ x1 x2,xs=[x1,x2]:=by
     match xs,ym with
     | [x1,x2],_=>exact ⟨x1,x2,rfl⟩
    obtain ⟨d1,d2,rfl⟩:∃ d1 d2,ds=[d1,d2]:=by
     match ds,hl with
     | [d1,d2],_=>exact ⟨d1,d2,rfl⟩
    refine ⟨_,x1,.inr (aj.of e),rfl,x1,d1,rfl,bw 0 (by simp) (by simp),fun H1 s1=>⟨_,rfl,di (fun h4=>?_) (fun h4=>?_)⟩⟩
    ·refine ⟨_,x2,.inr (aj.of (s1 _ _ e)),rfl,x2,d2,rfl,(bw 1 (by simp) (by simp)).same s1,fun H2 s2=>?_⟩
     have:=k H2 (s1.trans s2)
     simp only [gj,h4,Bool.true_and] at this
     exact this
    ·have:=k H1 s1
     simp only [gj,h4,Bool.false_and] at this
     exact this
   ·rw [QE,bC] at h3
    have ym:xs.length≠2:=by have:=Qu h3;omega
    have e1:gj (.tup ds)=false:=by
     match ds,hl with
     | [],_=>rfl
     | [_],_=>rfl
     | [_,_],hl=>exact absurd hl ym
     | _::_::_::_,_=>rfl
    rw [e1] at k0
    exact k0
  | _=>exact h_ k0
def Hr:Sp:=fun vs H Q _=>∃ (x:V) (d:Dt),vs=[x]/\DD H x d/\headD d=true/\∀ L H',H L=none->H' L=some (.lst ((dg d).map V.str))->aa H H'->Q (.ref L) H'
theorem oG (T:Txt K mg w):av P w K mg base 1 "names_in" ["head"] Hr:=by
 refine T.pE.e_ oQ (fun vs H Q E h=>?_) (fun f ak A outer s H vs Q E hr h=>?_)
 ·obtain ⟨x,d,rfl,_⟩:=h
  rfl
 ·obtain ⟨x,d,rfl,hd,hh,k⟩:=h
  have hsz:sizeLine=16777216:=QK
  refine ⟨_,(aE (cF (aX (iK K) (cC (cA K) (zv 0) aG (fun _ _=>rfl)) (rA K T.jG) rfl) (aH (aS (fO (own:=["word","x"]) (idx:=[]) (N':=["word","x"]) (cJ (au eW) (["head"]:List Str) (by decide+kernel)) rfl (nU K (cC (cA K) (zv 0) aG (fun _ _=>rfl))) (fun _ _ _ _ _ _=>(i4 K (n:=2) rfl (bG (aP (i:=0) (show List.Nodup (["word","x"]:List Str) by decide+kernel) rfl (Or.inl rfl)) (bG (aP (i:=1) (show List.Nodup (["word","x"]:List Str) by decide+kernel) rfl (Or.inl rfl)) f7)))) (fun _ _ _ _ _ _=>cT) (fun _ _ _ _ _ _=>(zv 1))))) aV)
   (aH (aS (bT (l9 K) (by rfl) T.vQ PyProof.Rows.boot_list (aL (d5 (lU K) (zv 0) (cS aG) dX) aB))))),?_⟩
  obtain ⟨a,z,xs,ds,rfl,rfl,e,hl,hn,bw,hc⟩:=jV hd hh
  refine ⟨_,.str z,.inr (aj.of e),bB _ _,?_⟩
  intro aW hW
  refine ⟨_,.inr hW,rfl,rfl,_,rfl,?_⟩
  rw [QE,iF]
  rcases hc with ⟨hw,p,rfl,hp⟩ | ⟨hw,n,hb,D5,ye⟩
  ·rw [hw]
   refine cy ?_
   match xs,hl,e,bw with
   | [x1],_,e,bw=>
    have h1:=bw 0 (by simp) (by simp)
    simp only [List.getElem_cons_zero] at h1
    refine ⟨_,x1,.inr (aj.of e),rfl,?_⟩
    cases h1 with
    | @tup b ys es e' d_ hn' fu=>
     simp only [t_,Bool.and_eq_true] at hp
     refine Or.inr ⟨⟨ys,aj.of e'⟩,fun D hD=>?_⟩
     refine hZ (cZ ys) (fun i τ H3=>H3 D=some (.lst (((es.take i).map yd).map V.str))/\aa H H3/\∃ v1 v2,τ=[v1,v2]) ⟨aA,aa.upd hD _,none,none,rfl⟩ (fun i τ H3 _ h=>aj.of (h.2.1 _ _ e')) ?_ ?_
     ·rintro i τ H3 hi ⟨q1,q2,v1,v2,rfl⟩
      have h4:=QF.mp hp.1 _ (Qj (show i < es.length by omega))
      obtain ⟨c,z',n',e1,e2,e3⟩:=uE (fu i hi (by omega)) h4
      have eg:ys.getD i .af=.ref c:=by rw [Qb,Qa hi,e1];rfl
      rw [eg]
      refine lB (q2 _ _ e2) ?_
      refine ⟨_,q1,by simp;omega,?_,(q2.put hD),_,_,rfl⟩
      rw [aA,Qs,Qa (by omega),e3]
      simp [yd]
     ·rintro τ H3 ⟨q1,q2,v1,v2,rfl⟩
      rw [d_,Qo] at q1
      refine k D H3 hD ?_ q2
      rw [q1]
      show _=some (HO.lst ((if gw z then es.map yd else _).map V.str))
      rw [if_pos hw]
    | _=>exact Bool.noConfusion hp
  ·rw [hw]
   refine h_ ?_
   refine ⟨1,rfl,Or.inr (Or.inr ⟨a,_,rfl,aj.of e,?_,fun p1 bu=>⟨p1,_,rfl,.inr (aj.of aA),fun L hL=>?_⟩⟩)⟩
   ·intro ⟨h1,_⟩
    have:HT.ay (V.str z::xs).length 0 (some ((1:Nat):Int))=0:=h1
    rw [HT.gA] at this
    simp at this
   ·have s1:=(aa.upd bu (.tup (dz (V.str z::xs) (some 1) none))).trans (aa.upd hL (.lst (dz (V.str z::xs) (some 1) none)))
    refine k L _ ((aa.upd bu _).free hL) ?_ s1
    rw [aA]
    have ec:dz (V.str z::xs) (some 1) none=xs:=by
     have:=eB (V.str z::xs) 1
     exact this
    rw [ec]
    show _=some (HO.lst ((if gw z then _ else ds.map strOf).map V.str))
    rw [if_neg (by rw [hw];exact Bool.false_ne_true)]
    congr 2
    refine List.ext_getElem (by simp [hl]) fun i h1 h2=>?_
    have hi:i < ds.length:=by omega
    obtain ⟨y,q1,q2,_⟩:=d7 (bw i h1 hi) (QF.mp ye _ (Qj hi))
    rw [q1]
    simp [q2,strOf]
def Hs:Sp:=fun vs H Q _=>∃ (h:Addr) (x:V) (d:Dt) (kvs:List (Key×V)),vs=[.ref h,x]/\Rd H h (.dK kvs)/\DD H x d/\headD d=true/\(dg d).length<=1000/\∀ H',aa H H'->Q (.bl ((dg d).all fun n=>(be kvs (.inr n)).isSome)) H'
theorem mV (T:Txt K mg w):av P w K mg base 2 "has_rows" ["heads","head"] Hs:=by
 have pK:av P w K mg base 1 "names_in" ["head"] Hr:=oG T
 refine T.qF.e_ mW (fun vs H Q E h=>?_) (fun f ak A outer s H vs Q E hr h=>?_)
 ·obtain ⟨h,x,d,kvs,rfl,_⟩:=h
  rfl
 ·refine hdn fun Gz9 zG9=>?_;obtain ⟨hh,x,d,kvs,rfl,hrd,hd,Ez,MA,k⟩:=h;refine zG9 ?_
  have hu:=cD hr
  have hsz:sizeLine=16777216:=QK
  refine ⟨_,(aH (aS (aI (c9 K rfl) (by rfl) T.uf QW (aU (fO (own:=["x"]) (idx:=[0]) (N':=["x","heads"]) (cJ (au eC) (["heads","head"]:List Str) (by decide+kernel)) rfl (nU K (bI pK (hr.mono (by decide)) (aC (zv 1) aB))) (fun _ _ _ _ _ _=>(aP (i:=0) (show List.Nodup (["x","heads"]:List Str) by decide+kernel) rfl (Or.inl rfl))) (fun _ _ _ _ _ _=>cT) (fun _ _ _ _ _ _=>(dG (yR hu) (zv 0) (zv 1) rfl))) aB)))),?_⟩
  refine ⟨x,d,rfl,hd,Ez,fun L H1 ph hL s1=>Or.inl ⟨⟨_,ae.of hL⟩,fun D hD=>?_⟩⟩
  refine dO (cM ((dg d).map V.str)) (fun i=>(be kvs (.inr ((dg d).getD i ""))).isSome) (by rw [Ql];omega) hD (fun H2 s2=>ae.of (s2 _ _ hL)) (fun i H2 k' hi s2 hk=>?_) (fun H2 s2 gr=>?_)
  ·rw [Ql] at hi
   rw [bM (dg d) i hi]
   refine ⟨hh,_,rfl,gu.rd (k:=Sum.inr ((dg d).getD i "")) ((hrd.same s1).same s2),?_⟩
   rw [QE]
   exact hk H2 (aa.refl _)
  ·refine ⟨_,ae.of gr,?_⟩
   rw [Ql,bU (dg d) "" (fun n=>(be kvs (.inr n)).isSome)]
   exact k H2 (s1.trans s2)
def Ht:Sp:=fun vs H Q _=>∃ (h:Addr) (x:Str) (kvs:List (Key×V)) (nx:Str->Option Str),vs=[.ref h,.str x]/\Rd H h (.dK kvs)/\kvs.length<=1000/\(∀ n v,be kvs (.inr n)=some v->DW H v (nx n))/\(∀ n y,(be kvs (.inr n)).isSome=true->nx n=some y->(be kvs (.inr y)).isSome=true)/\(be kvs (.inr x)).isSome=true/\
 Q (.bl (jb nx kvs.length x)) H
theorem lY (T:Txt K mg w):av P w K mg base 1 "leads_out" ["heads","name"] Ht:=by
 refine T.mP.e_ eM (fun vs H Q E h=>?_) (fun f ak A outer s H vs Q E hr h=>?_)
 ·obtain ⟨h,x,kvs,nx,rfl,_⟩:=h
  rfl
 ·refine hdn fun Gz9 zG9=>?_;obtain ⟨h,x,kvs,nx,rfl,hrd,MA,has,rf,hx,k⟩:=h;refine zG9 ?_
  have hu:=cD hr
  have b_:=Qx (cD hr)
  refine ⟨_,(aE (i0 PassesOwn.never rfl (iC (by rfl) T.i9 (aZ (aI (aN K) (by rfl) T.fi PySem.boot_len (aC (zv 0) aB)) aB)) (aP (i:=2) eM.nd rfl (Or.inl rfl)) (aE (cF (aX (gY b_) (cC (cA K) (cG hu (zv 0) (zv 1) (fun _ _=>rfl)) aG (fun _ _=>rfl)) aK (cz _)) (aH (aS iG)) aV)
   (aH (aR (i:=1) eM.nd rfl (Or.inl rfl) (cC (cA K) (cG hu (zv 0) (zv 1) (fun _ _=>rfl)) aG (fun _ _=>rfl))))))
   (aH (aS iG))),?_⟩
  refine bL (fun σ' H'=>H'=H/\jb nx kvs.length x=false) ?_ (by rintro σ' H' ⟨e1,e2⟩;(subst e1;rw [e2] at k;exact k))
  intro rg gf
  refine .inr ⟨kvs,hrd,kvs.length,rfl,by omega,by omega,eZ (fY 0 (kvs.length:Int).toNat) (fun i σ' H'=>H'=H/\∃ y v2,σ'=[some (.ref h),some (.str y),v2]/\(be kvs (.inr y)).isSome=true/\jb nx (kvs.length - i) y=jb nx kvs.length x) ⟨rfl,x,none,rfl,hx,rfl⟩ (fun _ _ _ _ _=>True.intro) ?_ ?_⟩
  ·rintro i σ' H' hi ⟨rfl,y,v2,rfl,hy,vc⟩
   have jw:i < kvs.length:=by omega
   obtain ⟨v,hv⟩:=Option.isSome_iff_exists.mp hy
   have EA:gu H' h (.str y) (some v):=by rw [<- hv];exact gu.rd (k:=Sum.inr y) hrd
   obtain ⟨b,rfl,hb⟩:=has y v hv
   rw [show kvs.length - i=(kvs.length - (i+1))+1 by omega,jb] at vc
   rcases hb with ⟨z,ys,h1,h2,h3⟩ | ⟨z,h1,h3⟩
   ·refine ⟨h,_,rfl,EA,_,.str z,.inr (aj.of h1),bB _ _,rfl,_,rfl,?_⟩
    rw [Qw (fun e=>h2 (V.str.inj e))]
    refine cy ?_
    rw [h3] at vc
    rw [<- vc] at k
    exact k
   ·refine ⟨h,_,rfl,EA,_,.str "as",.inr (aj.of h1),bB _ _,rfl,_,rfl,?_⟩
    refine h_ ?_
    rw [h3] at vc
    exact ⟨h,_,rfl,EA,_,.str z,.inr (aj.of h1),rfl,rfl,z,_,rfl,rf y z hy h3,vc⟩
  ·rintro σ' H' ⟨rfl,y,v2,rfl,hy,vc⟩
   refine gf _ _ ⟨rfl,?_⟩
   rw [<- vc,Int.toNat_natCast,Nat.sub_self];rfl
theorem Hu {rs:List (Str×V)} (i:Nat) (h:i < (ao rs).length) (h':i < rs.length):(ao rs)[i]=(Sum.inr rs[i].1,rs[i].2):=by simp [ao]
def MB (H:Hp) (a:Addr) (xs:List V) (rs:List (Str×V)):Prop:=H a=some (.tup xs)/\gi H xs (ao rs)/\rs.length<=1000
def Hv:Sp:=fun vs H Q _=>∃ (a:Addr) (xs:List V) (rs:List (Str×V)),vs=[.ref a]/\MB H a xs rs/\∀ d,H d=none->Q (.ref d) (upd H d (.dK (dictOf (ao rs))))
theorem nK (T:Txt K mg w):av P w K mg base 1 "heads_of" ["T"] Hv:=by
 refine T.pB.e_ oH (fun vs H Q E h=>?_) (fun f ak A outer s H vs Q E hr h=>?_)
 ·obtain ⟨a,xs,rs,rfl,_⟩:=h
  rfl
 ·refine hdn fun Gz9 zG9=>?_;obtain ⟨a,xs,rs,rfl,⟨hx,hp,dw⟩,k⟩:=h;refine zG9 ?_
  refine ⟨_,(aH (aS (K7 (own:=["name","head"]) (idx:=[]) (N':=["name","head"]) (cJ (au eJ) (["T"]:List Str) (by decide+kernel)) rfl (nU K (zv 0)) (fun _ _ _ _ _ _=>(i4 K (n:=2) rfl (bG (aP (i:=0) (show List.Nodup (["name","head"]:List Str) by decide+kernel) rfl (Or.inl rfl)) (bG (aP (i:=1) (show List.Nodup (["name","head"]:List Str) by decide+kernel) rfl (Or.inl rfl)) f7)))) (fun _ _ _ _ _ _=>cT) (fun _ _ _ _ _ _=>(zv 0)) (fun _ _ _ _ _ _=>(zv 1))))),?_⟩
  refine Or.inr ⟨⟨xs,aj.of hx⟩,fun D hD=>?_⟩
  have J:=cZ (K:=K) (a:=a) xs
  have hsz:sizeLine=16777216:=QK
  have jm:xs.length=rs.length:=by have:=hp.1;simpa using this
  have sD:∀ o,aa H (upd H D o):=fun o=>aa.upd hD o
  refine ⟨fun i m τ H'=>m=xs.length - i/\i<=xs.length/\(∃ v1 v2,τ=[v1,v2])/\H'=upd H D (.dK (dictOf ((ao rs).take i))),⟨_,rfl,Nat.zero_le _,⟨none,none,rfl⟩,rfl⟩,?_⟩
  rintro i m τ H' ⟨rfl,hi,⟨v1,v2,rfl⟩,rfl⟩
  obtain ⟨k1,k2⟩:=J _ (show aj K (upd H D _) a xs from aj.of (sD _ _ _ hx))
  by_cases bc:i < xs.length
  ·have rh:i < rs.length:=by omega
   have CV:i < (ao rs).length:=by simpa using rh
   refine .inr ⟨(k1 i bc).1,fun τ' H'=>(∃ v1 v2,τ'=[v1,v2])/\H'=upd H D (.dK (dictOf ((ao rs).take (i+1)))),fun τ' H' ⟨h1,h2⟩=>⟨xs.length - (i+1),by omega,rfl,bc,h1,h2⟩,fun x H' y=>?_⟩
   obtain ⟨e,e2⟩:=(k1 i bc).2 x H' y
   subst e e2
   obtain ⟨b,MC,Hw⟩:=hp.2 i CV
   rw [Hu i CV rh] at Hw
   have eb:xs.getD i .af=.ref b:=by rw [Qb,MC];rfl
   show AK K 2 _ (xs.getD i .af) _ _ _
   rw [eb]
   refine ⟨b,_,rfl,aj.of (sD _ _ _ Hw),rfl,_,_,rfl,_,_,rfl,rfl,?_⟩
   refine ⟨dictOf ((ao rs).take i),.inr rs[i].1,rfl,aA,?_,⟨_,_,rfl⟩,?_⟩
   ·have:=pU ((ao rs).take i)
    rw [List.length_take] at this
    omega
   ·rw [jA,n0 (ao rs) i CV,Hu i CV rh]
  ·have e:i=xs.length:=by omega
   subst e
   refine .inl ⟨k2,?_⟩
   rw [List.take_of_length_le (by simp;omega)]
   exact k D hD
theorem gC (T:Txt K mg w):av P w K mg base 6 "is_telling" ["thing"] (spT cf):=by
 have jQ:av P w K mg base 5 "is_row" ["thing"] (spT gj):=lA T
 have pJ:av P w K mg base 1 "heads_of" ["T"] Hv:=nK T
 have pX:av P w K mg base 2 "has_rows" ["heads","head"] Hs:=mV T
 have o8:av P w K mg base 1 "leads_out" ["heads","name"] Ht:=lY T
 refine T.m9.e_ gH (fun vs H Q E h=>?_) (fun f ak A outer s H vs Q E hr h=>?_)
 ·obtain ⟨x,d,rfl,_⟩:=h
  rfl
 ·obtain ⟨x,d,rfl,hd,k⟩:=h
  have hu:=cD hr
  have b_:=Qx (cD hr)
  have hsz:sizeLine=16777216:=QK
  refine ⟨_,(aE (cF (nB (f8 (f9 (aI cH (by rfl) T.bK PyProof.Rows.boot_isinstance (aC (zv 0) (aC (fQ (v:=.ty "tuple") (by rfl) T.bS QG rfl) aB))))) (iT (f8 (rK lW lW aG (aI (aN K) (by rfl) T.fi PySem.boot_len (aC (zv 0) aB)) (DR T.oW))))).pt (aH (aS iG)) aV)
   (aE (cF (f8 (f9 (aI (c9 K rfl) (by rfl) T.uf QW (aU (fO (own:=["row"]) (idx:=[]) (N':=["row"]) (cJ (au bW) (["thing","heads"]:List Str) (by decide+kernel)) rfl (nU K (zv 0)) (fun _ _ _ _ _ _=>(aP (i:=0) (show List.Nodup (["row"]:List Str) by decide+kernel) rfl (Or.inl rfl))) (fun _ _ _ _ _ _=>cT) (fun _ _ _ _ _ _=>(bI jQ (hr.mono (by decide)) (aC (zv 0) aB)))) aB)))) (aH (aS iG)) aV)
   (aE (aR (i:=1) gH.nd rfl (Or.inr rfl) (bI pJ (hr.mono (by decide)) (aC (zv 0) aB)))
   (aE (cF (nB (aX (gY b_) (aI (aN K) (by rfl) T.fi PySem.boot_len (aC (zv 1) aB)) (aI (aN K) (by rfl) T.fi PySem.boot_len (aC (zv 0) aB)) (cz _)) (iT (f8 (f9 (aI (c9 K rfl) (by rfl) T.uf QW (aU (fO (own:=["name"]) (idx:=[1]) (N':=["name","heads"]) (cJ (au bW) (["thing","heads"]:List Str) (by decide+kernel)) rfl (qX (zv 1)) (fun _ _ _ _ _ _=>(aP (i:=0) (show List.Nodup (["name","heads"]:List Str) by decide+kernel) rfl (Or.inl rfl))) (fun _ _ _ _ _ _=>cT) (fun _ _ _ _ _ _=>(bI pX (hr.mono (by decide)) (aC (zv 1) (aL (cG hu (zv 1) (zv 0) (fun _ _=>rfl)) aB))))) aB)))))).pt (aH (aS iG)) aV)
   (aH (aS (aI (c9 K rfl) (by rfl) T.uf QW (aU (fO (own:=["name"]) (idx:=[1]) (N':=["name","heads"]) (cJ (au bW) (["thing","heads"]:List Str) (by decide+kernel)) rfl (qX (zv 1)) (fun _ _ _ _ _ _=>(aP (i:=0) (show List.Nodup (["name","heads"]:List Str) by decide+kernel) rfl (Or.inl rfl))) (fun _ _ _ _ _ _=>cT) (fun _ _ _ _ _ _=>(bI o8 (hr.mono (by decide)) (aC (zv 1) (aC (zv 0) aB))))) aB)))))))),?_⟩
  obtain ⟨t,ht,h1,h2⟩:=hd.ty
  refine ⟨by decide,t,ht,_,rfl,?_⟩
  rw [h1]
  have k0:=k H (aa.refl H)
  cases hd with
  | @tup a xs ds e hl hn bw=>
   refine h_ ?_
   refine Or.inl ⟨xs,.inr (aj.of e),_,rfl,xw (fun h3=>?_) (fun h3=>?_)⟩
   rotate_left
   ·refine ⟨_,rfl,cy ?_⟩
    have:¬(1:Int)<=xs.length:=fun q=>h3 (Qv q)
    have e1:cf (.tup ds)=false:=by simp [cf,show ¬1<=ds.length by omega]
    rw [e1] at k0
    exact k0
   have BB:1<=ds.length:=by have:=Qt h3;omega
   refine ⟨_,rfl,Ba (fun h4=>?_) (fun h4=>?_)⟩
   rotate_left
   ·have:¬ds.length<=200:=by have:=Qu h4;omega
    have e1:cf (.tup ds)=false:=by simp [cf,this]
    rw [e1] at k0
    exact k0
   have DI:ds.length<=200:=by have:=Qt h4;omega
   refine d8 ?_
   refine Or.inr ⟨⟨xs,aj.of e⟩,fun D hD=>?_⟩
   refine dO (cZ xs) (fun i=>gj (ds.getD i .bx)) (by omega) hD (fun H2 s2=>aj.of (s2 _ _ e)) (fun i H2 k' hi s2 hk=>?_) (fun H2 s2 gr=>?_)
   ·refine ⟨_,ds.getD i .bx,rfl,?_,hk⟩
    have h5:=bw i hi (by omega)
    have e1:xs.getD i .af=xs[i]:=by simp [Qb,hi]
    have e2:ds.getD i .bx=ds[i]'(by omega):=by rw [Qb,Qa (by omega)];rfl
    show DD H2 (xs.getD i .af) _
    rw [e1,e2]
    exact h5.same s2
   refine ⟨_,ae.of gr,_,rfl,?_⟩
   rw [hl,bU ds .bx gj]
   refine Ba (fun h5=>?_) (fun h5=>?_)
   rotate_left
   ·have:=k H2 s2
    have e1:cf (.tup ds)=false:=by simp [cf,h5]
    rw [e1] at this
    exact this
   obtain ⟨rs,hs,R⟩:=rO hl bw h5
   have BC:rs.length=ds.length:=R.l1
   have Pc:hs.length=ds.length:=R.l2
   have R2:=R.same s2
   refine d8 ?_
   refine aO ⟨a,xs,rs,rfl,⟨s2 _ _ e,R2.ps,by omega⟩,fun h hh=>?_⟩
   have EB:H h=none:=s2.free hh
   refine .inr ⟨_,.inl aA,.inl ⟨xs,.inr (aj.of ((aa.upd hh _) _ _ (s2 _ _ e))),rfl,_,rfl,?_⟩⟩
   refine di (fun h6=>?_) (fun h6=>?_)
   ·have yo:¬(rs.map (·.1)).Nodup:=fun nd=>by
     rw [eI _ (jU nd),bC] at h6
     simp [BC,hl] at h6
    have e1:cf (.tup ds)=false:=by
     simp only [cf]
     rw [R.names,Qw yo]
     simp
    refine cy ?_
    have:=k _ (s2.trans (aa.upd hh (.dK (dictOf (ao rs)))))
    rw [e1] at this
    exact this
   ·rw [bC] at h6
    have EC:(dictOf (ao rs)).length=(ao rs).length:=by
     have h7:decide (((dictOf (ao rs)).length:Int)=(xs.length:Int))=true:=by
      revert h6
      cases decide (((dictOf (ao rs)).length:Int)=(xs.length:Int))<;>simp
     have:=Qt h7
     simp;omega
    have ED:=iO _ EC
    have nd:(rs.map (·.1)).Nodup:=by
     have e2:(ao rs).map (·.1)=(rs.map (·.1)).map (Sum.inr:Str->Key):=by simp [ao,Qn,Function.comp_def]
     rw [e2] at ED
     exact List.Pairwise.imp (fun {a b} oh z=>oh (by rw [z])) (List.pairwise_map.mp ED)
    rw [eI _ ED]
    have sh:aa H (upd H2 h (.dK (ao rs))):=s2.put EB
    have key:∀ i (hi:i < rs.length),Ag (ao rs) i=.str rs[i].1:=fun i hi=>by
     unfold Ag
     rw [show (ao rs)[i]? =some (Sum.inr rs[i].1,rs[i].2) by simp [ao,hi]];rfl
    have MD:(ao rs).length=ds.length:=by simp;omega
    refine ⟨h,ao rs,rfl,.inl aA,fun o D2 ik=>?_⟩
    rw [jA] at ik ⊢
    have sf:aa H (upd H2 h (.bq o (.dK (ao rs)))):=s2.put EB
    have CW:upd H2 h (.bq o (.dK (ao rs))) h=some (.bq o (.dK (ao rs))):=aA
    generalize upd H2 h (.bq o (.dK (ao rs)))=H3 at ik sf CW
    have R3:=R.same sf
    refine dO (mX (ao rs)) (fun i=>(dg (hs.getD i .bx)).all fun n=>(be (ao rs) (.inr n)).isSome) (by omega) ik (fun H4 s4=>s4 _ _ CW) (fun i H4 k' hi s4 hk=>?_) (fun H4 s4 ME=>?_)
    ·have yq:i < rs.length:=by simpa using hi
     rw [key i yq]
     have BD:i < hs.length:=by omega
     obtain ⟨_,q1,q2,_⟩:=R3.dd i (by omega) yq BD
     have CY:Rd H4 h (.dK (ao rs)):=.inr ⟨o,s4 _ _ CW⟩
     refine ⟨h,rs[i].2,rfl,?_,h,rs[i].2,hs[i],ao rs,rfl,CY,q1.same s4,q2,p8 q1 q2,?_⟩
     ·rw [<- cR nd yq];exact gu.rd (k:=Sum.inr rs[i].1) CY
     ·have e2:hs.getD i .bx=hs[i]:=by rw [Qb,Qa BD];rfl
      rw [e2] at hk
      exact hk
    ·refine ⟨_,ae.of ME,_,rfl,?_⟩
     have MF:((List.range (ao rs).length).map fun i=>(dg (hs.getD i .bx)).all fun n=>(be (ao rs) (.inr n)).isSome).all id=(bg ds).all (fun r=>(dg r.2).all fun n=>decide (n∈(bg ds).map (·.1))):=by
      refine gI _ _ (by unfold bg;simp;omega) _ _ fun i hi=>?_
      have Hx:i < ds.length:=by unfold bg at hi;simpa using hi
      have BD:i < hs.length:=by omega
      have e3:=R.rows Hx (by omega) BD
      rw [Qa hi] at e3
      rw [QD e3]
      have e2:hs.getD i .bx=hs[i]:=by rw [Qb,Qa BD];rfl
      rw [e2]
      have e4:(fun n=>(be (ao rs) (.inr n)).isSome)=fun n=>decide (n∈(bg ds).map (·.1)):=by
       funext n
       rw [fD nd,R.names]
      rw [e4]
     rw [MF]
     refine Ba (fun h7=>?_) (fun h7=>?_)
     rotate_left
     ·have e1:cf (.tup ds)=false:=by simp only [cf,h7];simp
      have:=k H4 (sf.trans s4)
      rw [e1] at this
      exact this
     refine dH ?_
     have CY:Rd H4 h (.dK (ao rs)):=.inr ⟨o,s4 _ _ CW⟩
     refine ⟨h,ao rs,rfl,CY,fun o2 D3 Av=>?_⟩
     have sg:aa H (upd H4 h (.bq o2 (.dK (ao rs)))):=(sf.trans s4).put EB
     have EE:upd H4 h (.bq o2 (.dK (ao rs))) h=some (.bq o2 (.dK (ao rs))):=aA
     generalize upd H4 h (.bq o2 (.dK (ao rs)))=H5 at Av sg EE
     have R5:=R.same sg
     refine dO (mX (ao rs)) (fun i=>jb (ja (bg ds)) (ao rs).length ((rs.map (·.1)).getD i ("":Str))) (by omega) Av (fun H6 s6=>s6 _ _ EE) (fun i H6 k' hi s6 hk=>?_) (fun H6 s6 MG=>?_)
     ·have yq:i < rs.length:=by simpa using hi
      rw [key i yq]
      have R6:=R5.same s6
      refine ⟨h,rs[i].1,ao rs,ja (bg ds),rfl,.inr ⟨o2,s6 _ _ EE⟩,by omega,R6.has nd,R6.LD nd h7,?_,?_⟩
      ·rw [cR nd yq];rfl
      ·have e2:(rs.map (·.1)).getD i ("":Str)=rs[i].1:=by rw [Qb,Qq,Qa yq];rfl
       have:=hk H6 (aa.refl _)
       rw [e2] at this
       exact this
     ·refine ⟨_,ae.of MG,?_⟩
      have MH:((List.range (ao rs).length).map fun i=>jb (ja (bg ds)) (ao rs).length ((rs.map (·.1)).getD i ("":Str))).all id=((bg ds).map (·.1)).all (fun n=>jb (ja (bg ds)) ds.length n):=by
       rw [R.names,MD]
       refine gI _ _ (by simp;omega) _ _ fun i hi=>?_
       rw [Qb,Qa hi];rfl
      rw [MH]
      have:=k H6 (sg.trans s6)
      have e1:cf (.tup ds)=((bg ds).map (·.1)).all (fun n=>jb (ja (bg ds)) ds.length n):=by
       have MI:((bg ds).map (·.1)).Nodup:=by rw [R.names];exact nd
       simp only [cf]
       rw [h5,h7,Qv BB,Qv DI,Qv MI]
       simp only [Bool.true_and]
      rw [e1] at this
      exact this
  | _=>exact cy k0
def EF (z:Str):Prop:=∀ c∈z.cps.toList,97<=c/\c < 123
theorem uR:∀ c∈fq.cps.toList,97<=c/\c < 123:=by decide
theorem EG (n:Nat):gb fq.cps.toList ((n:Int) % 26)=some (97+n % 26):=by
 have h:=yW (97+n % 26) (by omega)
 rw [show 97+n % 26 - 97=n % 26 by omega] at h
 have:=fX h
 rw [show ((n:Int) % 26)=((n % 26:Nat):Int) by omega]
 exact this
theorem rL (h:97<=c/\c < 123):tq c=true:=by
 unfold tq
 rw [uW c h];rfl
structure BE (ah:Str) (c:Nat) (z:Str):Prop where
 nm:isName z=true
 pl:z.cps.toList[ah.cps.toList.length]? =some c
 wd:Wd z
 l6:z.length≠6
theorem dF (a b:Str):(a++b).cps.toList=a.cps.toList++b.cps.toList:=by
 show (a.cps++b.cps).toList=_
 simp
theorem uF {ah:Str} (h1:ah.length<=7) (h5:ah.length≠5) (h2:EF ah) (hc:97<=c/\c < 123) (hn:(oj.any fun y=>y==(ah++⟨#[c]⟩:Str))=false):BE ah c (ah++⟨#[c]⟩):=by
 have hl:(ah++⟨#[c]⟩:Str).cps.toList=ah.cps.toList++[c]:=dF _ _
 have el:(ah++⟨#[c]⟩:Str).length=ah.length+1:=by rw [Str.length_append];rfl
 refine ⟨?_,by rw [hl];simp,⟨by omega,fun d hd=>?_⟩,by omega⟩
 rotate_left
 ·rw [hl] at hd
  rcases List.mem_append.mp hd with hd | hd
  ·have:=h2 d hd;omega
  ·rw [List.mem_singleton.mp hd];omega
 unfold isName
 simp only [Bool.and_eq_true,decide_eq_true_eq]
 refine ⟨⟨⟨by omega,by omega⟩,by rw [hn];rfl⟩,?_⟩
 rw [hl,List.all_append,Bool.and_eq_true]
 refine ⟨QF.mpr fun d hd=>rL (h2 d hd),?_⟩
 rw [List.all_cons,rL hc];rfl
theorem MJ {ah:Str} (hn:(oj.any fun y=>y==(ah++⟨#[c]⟩:Str))=true):BE ah c (ah++⟨#[c]⟩++("q":Str)):=by
 have hl:(ah++⟨#[c]⟩:Str).cps.toList=ah.cps.toList++[c]:=dF _ _
 have Hy:(ah++⟨#[c]⟩++("q":Str)).cps.toList[ah.cps.toList.length]? =some c:=by
  rw [dF,hl,List.append_assoc];simp
 rw [List.any_eq_true] at hn
 obtain ⟨y,hy,e⟩:=hn
 rw [<- (eq_of_beq e:y=_)] at Hy ⊢
 simp only [oj,Qp,QA,or_false] at hy
 rcases hy with rfl | rfl | rfl | rfl | rfl<;>exact ⟨by decide+kernel,Hy,dA (by decide) (by decide),by decide⟩
theorem rE (z:Str):uz (V.str z) [V.str "all",V.str "none",V.str "way",V.str "box",V.str "pick"]=oj.any fun y=>y==z:=by
 unfold uz
 rfl
def EH:Sp:=fun vs H Q _=>∃ (p w:Addr) (m:Int) (t:Nat),vs=[.ref p,.int m]/\br H p w t/\(1<=m/\m<=26)/\t+20 < Ad/\
 ∀ (L:Addr) (ns:List Str) (H':Hp),H L=none->H' L=some (.lst (ns.map V.str))->(ns.length:Int)=m->ns.Nodup->(∀ n∈ns,isName n=true/\Wd n/\n.length≠6)->br H' p w (t+20)->Sm p w H H'->Q (.ref L) H'
theorem gF (T:Txt K mg w):av P w K mg base 2 "_law_tnames" ["pen","many"] EH:=by
 have aM:av P w K mg base 1 "_law_tdraw" ["pen","many"] x_:=bY T
 refine T.mI.e_ bE (fun vs H Q E h=>?_) (fun f ak A outer s H vs Q E hr h=>?_)
 ·obtain ⟨p,w',m,t,rfl,_⟩:=h
  rfl
 ·refine hdn fun Gz9 zG9=>?_;obtain ⟨p,w',m,t,rfl,hp,⟨As,MK⟩,ht,k⟩:=h;refine zG9 ?_
  have yk:t+20 < 1000000000000:=ht
  have hsz:sizeLine=16777216:=QK
  refine ⟨_,(aE (aR (i:=2) bE.nd rfl (Or.inr rfl) aK)
   (aE (aR (i:=3) bE.nd rfl (Or.inl rfl) (i3 K PySem.F.plainAttrs_str PySem.F.slot_str_join PySem.F.type_str_join (iB K) aK (aU (fO (own:=["k"]) (idx:=[0,2]) (N':=["k","pen","letters"]) (cJ (au cW) (["pen","many","letters","ahead","first","found","k","name"]:List Str) (by decide+kernel)) rfl (iC (by rfl) T.i9 (aL (cC (cA K) (e8 (aD aG (aD aG (aD aG (aD aG (aD aG (aD aG aB))))))) (bI aM (hr.mono (by decide)) (aC (zv 0) (aD aG aB))) (fun _ _=>rfl)) aB)) (fun _ _ _ _ _ _=>(aP (i:=0) (show List.Nodup (["k","pen","letters"]:List Str) by decide+kernel) rfl (Or.inl rfl))) (fun _ _ _ _ _ _=>cT) (fun _ _ _ _ _ _=>(cC (cA K) (zv 2) (bI aM (hr.mono (by decide)) (aC (zv 1) (aD aG aB))) (fun _ _=>rfl)))) aB)))
   (aE (aR (i:=4) bE.nd rfl (Or.inl rfl) (bI aM (hr.mono (by decide)) (aC (zv 0) (aD aG aB))))
   (aE (aR (i:=5) bE.nd rfl (Or.inl rfl) (e8 aB))
   (aE (i0 PassesOwn.never rfl (iC (by rfl) T.i9 (aC (zv 1) aB)) (aP (i:=6) bE.nd rfl (Or.inl rfl)) (aE (aR (i:=7) bE.nd rfl (Or.inl rfl) (bH aY (zv 3) (cC (cA K) (zv 2) (bH d4 (bH aY (zv 4) (bH eL aG (zv 6))) aG) (fun _ _=>rfl))))
   (aE (cF (aX (iK K) (zv 7) (bQ (aD aK (aD aK (aD aK (aD aK (aD aK aB)))))) rfl) (aH (aR (i:=7) bE.nd rfl (Or.inl rfl) (bH aY (zv 7) aK))) aV)
   (aH (eP (i3 K QH QI QJ cO (zv 5) (aC (zv 7) aB)))))))
   (aH (aS (zv 5)))))))),?_⟩
  refine kT ?_
  refine aO ⟨rfl,(show 6<=sizeLine by decide),fun L0 ph=>⟨p,w',6,t,rfl,hp.same (aa.upd ph _),⟨by decide,by decide⟩,by show t < 1000000000000;omega,fun r H1 r0 r1 bu k_=>?_⟩⟩
  have ML:=hp.ne1 ph
  have MM:=hp.ne2 ph
  have oz:=k_ _ _ aA ML MM
  obtain ⟨c,jx,BF⟩:=i7 ([.int 0,.int 0,.int 1,.int 2,.int 3,.int 7]:List V) r r0 (by show r < 6;omega)
  have MN:∃ j:Int,c=.int j/\0<=j/\j<=7/\j≠5:=by
   have hm:=QC jx
   simp only [Qp,QA,or_false] at hm
   rcases hm with rfl | rfl | rfl | rfl | rfl | rfl<;>exact ⟨_,rfl,by decide,by decide,by decide⟩
  obtain ⟨j,rfl,j0,j7,j5⟩:=MN
  have Hz:Sm p w' H H1:=(aa.upd ph _).sm.trans k_
  refine ⟨_,_,.inl (ae.of oz),BF,j,rfl,by omega,by omega,fun D hD=>?_⟩
  have yr:D≠p:=bu.ne1 hD
  have yt:D≠w':=bu.ne2 hD
  have vt:H D=none:=Hz.free hD yr yt
  refine hZ (fY 0 j.toNat) (fun i τ H2=>∃ (v:Option V) (ys:List Str),τ=[v,some (.ref p),some (.str fq)]/\H2 D=some (.lst (ys.map V.str))/\ys.length=i/\(∀ y∈ys,y.length=1/\EF y)/\br H2 p w' (t+1+i)/\Sm p w' H H2)
   ⟨none,[],rfl,aA,rfl,(fun _ h=>nomatch h),bu.same (aa.upd hD _),Hz.upd vt⟩ (fun _ _ _ _ _=>True.intro) ?_ ?_
  ·rintro i τ H2 hi z0;refine hdn fun Gz9 zG9=>?_;obtain ⟨v,ys,rfl,h1,h2,h3,h4,h5⟩:=z0;refine zG9 ?_
   refine ⟨p,w',26,t+1+i,rfl,h4,⟨by decide,by decide⟩,by show t+1+i < 1000000000000;omega,fun r2 H3 a0 a1 rj ug=>?_⟩
   obtain ⟨c,jx,hc⟩:=i7 fq.cps.toList r2 a0 (by have:fq.cps.toList.length=26:=rfl;omega)
   refine ⟨by decide,c,hc,ys.map V.str,ug _ _ h1 yr yt,by rw [Ql];exact A6 (by omega),?_⟩
   refine ⟨_,ys++[⟨#[c]⟩],rfl,?_,by simp [h2],fun y hy=>?_,rj.upd yr yt,(h5.trans ug).upd vt⟩
   ·rw [aA,Qm];rfl
   ·rcases List.mem_append.mp hy with hy | hy
    ·exact h3 y hy
    ·rw [List.mem_singleton.mp hy]
     refine ⟨rfl,fun d hd=>?_⟩
     have AI:d=c:=by simpa using hd
     rw [AI]
     exact uR c (QC jx)
  ·rintro τ H2 z0;refine hdn fun Gz9 zG9=>?_;obtain ⟨v,ys,rfl,h1,h2,h3,h4,h5⟩:=z0;refine zG9 ?_
   refine ⟨ys,ae.of h1,?_,?_⟩
   ·rw [PyProof.Rows.sumLen_of_ones ys (fun y hy=>(h3 y hy).1),h2]
    show j.toNat+j.toNat*0<=16777216
    omega
   have HA:(Txt.join (QL "") ys).length<=7:=by rw [hU ys _ rfl (fun y hy=>(h3 y hy).1)];omega
   have HB:(Txt.join (QL "") ys).length≠5:=by rw [hU ys _ rfl (fun y hy=>(h3 y hy).1)];omega
   have HC:EF (Txt.join (QL "") ys):=fun c hc=>by
    rcases mY hc with hc | ⟨y,hy,hc⟩
    ·exact nomatch hc
    ·exact (h3 y hy).2 c hc
   generalize Txt.join (QL "") ys=ah at HA HB HC
   refine aO ⟨p,w',26,_,rfl,h4,⟨by decide,by decide⟩,by show t+1+j.toNat < 1000000000000;omega,fun f0 H3 Pd Pe rj ug=>?_⟩
   refine aO ⟨(show 0<=sizeLine by decide),fun L hL=>?_⟩
   have lg:L≠p:=rj.ne1 hL
   have lh:L≠w':=rj.ne2 hL
   have jn:Sm p w' H H3:=h5.trans ug
   have EI:H L=none:=jn.free hL lg lh
   refine bL (fun σ' H'=>∃ (v6 v7:Option V) (ns:List Str),σ'=[some (.ref p),some (.int m),some (.str fq),some (.str ah),some (.int f0),some (.ref L),v6,v7]/\H' L=some (.lst (ns.map V.str))/\ns.length=m.toNat/\(∀ i (h:i < ns.length),BE ah (97+(f0.toNat+7*i) % 26) ns[i])/\br H' p w' (t+1+j.toNat+1)/\Sm p w' H H') ?_ ?_
   ·intro nx gf
    refine ⟨m,rfl,by omega,by omega,eZ (fY 0 m.toNat) (fun i σ' H'=>∃ (v6 v7:Option V) (ns:List Str),σ'=[some (.ref p),some (.int m),some (.str fq),some (.str ah),some (.int f0),some (.ref L),v6,v7]/\H' L=some (.lst (ns.map V.str))/\ns.length=i/\(∀ i (h:i < ns.length),BE ah (97+(f0.toNat+7*i) % 26) ns[i])/\br H' p w' (t+1+j.toNat+1)/\Sm p w' H H')
     ⟨none,none,[],rfl,aA,rfl,(fun i h=>absurd h (by simp)),rj.same (aa.upd hL _),jn.upd EI⟩ (fun _ _ _ _ _=>True.intro) ?_ ?_⟩
    ·rintro i σ' H' hi z0;refine hdn fun Gz9 zG9=>?_;obtain ⟨v6,v7,ns,rfl,q1,q2,q3,q4,q5⟩:=z0;refine zG9 ?_
     have Pf:i < 26:=by omega
     have ea:gb fq.cps.toList ((f0+7*(0+(i:Int))) % 26)=some (97+(f0.toNat+7*i) % 26):=by
      have:=EG (f0.toNat+7*i)
      rw [show ((f0.toNat+7*i:Nat):Int)=f0+7*(0+(i:Int)) by omega] at this
      exact this
     refine aO ⟨.inl ⟨by decide,by decide⟩,(by decide),(by decide),_,ea,(show ah.length+1<=sizeLine by omega),?_⟩
     refine bL (fun σ2 H2=>∃ z,σ2=[some (.ref p),some (.int m),some (.str fq),some (.str ah),some (.int f0),some (.ref L),some (.int (0+(i:Int))),some (.str z)]/\BE ah (97+(f0.toNat+7*i) % 26) z/\aa H' H2) ?_ ?_
     ·intro rg fz
      refine ⟨(show 5<=sizeLine by decide),fun tt CZ=>⟨_,.inr (aj.of aA),rfl,rfl,_,rfl,xw (fun hh=>?_) (fun hh=>?_)⟩⟩
      ·refine ⟨(show (ah++⟨#[97+(f0.toNat+7*i) % 26]⟩:Str).length+1<=sizeLine by rw [Str.length_append];show ah.length+1+1<=_;omega),?_⟩
       refine fz _ _ ⟨_,rfl,MJ ?_,aa.upd CZ _⟩
       rw [QE,rE] at hh
       exact hh
      ·refine fz _ _ ⟨_,rfl,uF HA HB HC (by omega) ?_,aa.upd CZ _⟩
       rw [QE,rE] at hh
       exact Bool.eq_false_iff.mpr hh
     ·rintro σ2 H2 ⟨z,rfl,hz,s2⟩
      refine ⟨.inl ⟨rfl,_,ae.of (s2 _ _ q1)⟩,L,_,.str z,rfl,rfl,s2 _ _ q1,by rw [Ql];exact A6 (by omega),?_⟩
      refine ⟨_,_,ns++[z],rfl,by rw [aA,Qm];rfl,by simp [q2],fun i' h'=>?_,(q4.same s2).upd lg lh,(q5.trans s2.sm).upd EI⟩
      by_cases bc:i' < ns.length
      ·rw [Qe bc];exact q3 i' bc
      ·have e:i'=ns.length:=by simp at h';omega
       subst e
       rw [Qf (Qy _)]
       simp only [Nat.sub_self,List.getElem_cons_zero]
       rw [q2];exact hz
    ·rintro σ' H' ⟨v6,v7,ns,rfl,q⟩
     exact gf _ _ ⟨v6,v7,ns,rfl,q⟩
   ·rintro σ' H' z0;refine hdn fun Gz9 zG9=>?_;obtain ⟨v6,v7,ns,rfl,q1,q2,q3,q4,q5⟩:=z0;refine zG9 ?_
    refine k L ns H' EI q1 (by omega) ?_ ?_ (q4.mono (by omega)) q5
    ·refine List.pairwise_iff_getElem.mpr fun a b ha hb oh z=>?_
     have h1:=(q3 a ha).pl
     have h2:=(q3 b hb).pl
     rw [z,h2] at h1
     have h3:=QD h1
     omega
    ·intro n hn
     obtain ⟨i,hi,rfl⟩:=Qi hn
     exact ⟨(q3 i hi).nm,(q3 i hi).wd,(q3 i hi).l6⟩
structure f_ (H:Hp) (l:Addr) (ss:List Str):Prop where
 e:H l=some (.lst (ss.map V.str))
 ne:ss≠[]
 few:ss.length<=60
 wd:∀ z∈ss,Wd z
theorem f_.sm {w l:Addr} {t:Nat} (h:f_ H l ss) (hp:br H p w t) (s:Sm p w H H'):f_ H' l ss:=⟨s _ _ h.e (hp.wy h.e h.ne).1 (hp.wy h.e h.ne).2,h.ne,h.few,h.wd⟩
theorem f_.same {l:Addr} (h:f_ H l ss) (s:aa H H'):f_ H' l ss:=⟨s _ _ h.e,h.ne,h.few,h.wd⟩
theorem f_.at {H:Hp} {l:Addr} {ss:List Str} (h:f_ H l ss) (r:Int) (h0:0<=r) (h1:r < ss.length):∃ z,gb (ss.map V.str) r=some (.str z)/\ss[r.toNat]? =some z/\Wd z:=by
 obtain ⟨c,jx,BF⟩:=i7 (ss.map V.str) r h0 (by rw [Ql];exact h1)
 rw [Qq] at jx
 cases e:ss[r.toNat]? with
 | none=>rw [e] at jx;cases jx
 | some z=>
  rw [e] at jx
  cases jx
  exact ⟨z,BF,rfl,h.wd z (QC e)⟩
theorem f_.pos {l:Addr} (h:f_ H l ss):0 < ss.length:=List.length_pos_iff.mpr h.ne
theorem MO (e:H b=some (.tup [.str x,.str y])) (hx:Wd x) (hy:Wd y):TB H (.ref b) 1 411:=
 (TB.tup (k:=0) (n:=202) e fun v hv=>by
  simp only [Qp,QA,or_false] at hv
  rcases hv with rfl | rfl
  ·exact TB.str hx
  ·exact TB.str hy).mono (by omega) (by simp)
def EJ:Sp:=fun vs H Q _=>∃ (p w wd nm:Addr) (t:Nat) (ws ns:List Str),vs=[.ref p,.ref wd,.ref nm]/\br H p w t/\t+30 < Ad/\f_ H wd ws/\ws.length<=10/\(ws.Nodup/\∀ z∈ws,isName z=true)/\f_ H nm ns/\(∀ z∈ns,isName z=true)/\
 ∀ (b:Addr) (xs:List V) (ps:List (Str×Str)) (H':Hp),H' b=some (.tup xs)->Ah H' ns xs ps->(∀ q∈ps,q.1∈ws)->xs.length<=10->TB H' (.ref b) 2 4133->br H' p w (t+30)->Sm p w H H'->Q (.ref b) H'
theorem kK (T:Txt K mg w):av P w K mg base 2 "_law_tpairs" ["pen","words","names"] EJ:=by
 have aM:av P w K mg base 1 "_law_tdraw" ["pen","many"] x_:=bY T
 refine T.lT.e_ gN (fun vs H Q E h=>?_) (fun f ak A outer s H vs Q E hr h=>?_)
 ·refine hdn fun Gz9 zG9=>?_;obtain ⟨p,w',wd,nm,t,ws,ns,rfl,_⟩:=h;refine zG9 ?_
  rfl
 ·refine hdn fun Gz9 zG9=>?_;obtain ⟨p,w',wd,nm,t,ws,ns,rfl,hp,ht,hw,C0,⟨v_,wc⟩,hn,yo,k⟩:=h;refine zG9 ?_
  have yk:t+30 < 1000000000000:=ht
  have hsz:sizeLine=16777216:=QK
  have b_:=Qx (cD hr)
  refine ⟨_,(aE (K2 (i:=3) (own:=["word"]) (idx:=[0]) (N':=["word","pen"]) (cJ (au cI) (["pen","words","names","some"]:List Str) (by decide+kernel)) rfl (nU K (aI (lK K) (by rfl) T.tX PyProof.Rows.boot_sorted (aC (zv 1) aB))) (fun _ _ _ _ _ _=>(aP (i:=0) (show List.Nodup (["word","pen"]:List Str) by decide+kernel) rfl (Or.inl rfl))) (fun _ _ _ _ _ _=>(xU (aX (bR b_) (bI aM (hr.mono (by decide)) (aC (zv 1) (aD aG aB))) aG (cz _)))) (fun _ _ _ _ _ _=>(zv 0)) gN.nd rfl rfl)
   (aH (aS (bT (bX K) (by rfl) T.bS QG (aU (fO (own:=["word"]) (idx:=[0,2]) (N':=["word","pen","names"]) (cJ (au cI) (["pen","words","names","some"]:List Str) (by decide+kernel)) rfl (nU K (zv 3)) (fun _ _ _ _ _ _=>(aP (i:=0) (show List.Nodup (["word","pen","names"]:List Str) by decide+kernel) rfl (Or.inl rfl))) (fun _ _ _ _ _ _=>cT) (fun _ _ _ _ _ _=>(bQ (aC (zv 0) (aL (cC (cA K) (zv 2) (bI aM (hr.mono (by decide)) (aC (zv 1) (aZ (aI (aN K) (by rfl) T.fi PySem.boot_len (aC (zv 2) aB)) aB))) (fun _ _=>rfl)) aB))))) aB))))),?_⟩
  refine aO ⟨wd,ws,rfl,ae.of hw.e,by omega,fun l ss hl BG MP=>?_⟩
  have Pg:ss.length=ws.length:=BG.length_eq
  have Aj:∀ z∈ss,Wd z:=fun z hz=>hw.wd z (BG.mem_iff.mp hz)
  have MQ:∀ z∈ss,isName z=true:=fun z hz=>wc z (BG.mem_iff.mp hz)
  have MR:=h9 MP (BG.nodup_iff.mpr v_)
  refine Or.inl ⟨⟨_,ae.of aA⟩,fun D hD=>?_⟩
  have s1:aa H (upd H l (.lst (ss.map V.str))):=aa.upd hl _
  have bu:=hp.same s1
  have yr:D≠p:=bu.ne1 hD
  have yt:D≠w':=bu.ne2 hD
  have HD:D≠l:=fun e=>by rw [e,aA] at hD;cases hD
  have MS:l≠p:=hp.ne1 hl
  have MT:l≠w':=hp.ne2 hl
  have vt:H D=none:=s1.free hD
  refine hZ (cM (ss.map V.str)) (fun i τ H2=>∃ (v:Option V) (os:List Str),τ=[v,some (.ref p)]/\H2 D=some (.lst (os.map V.str))/\os.Sublist (ss.take i)/\H2 l=some (.lst (ss.map V.str))/\br H2 p w' (t+i)/\Sm p w' H H2)
   ⟨none,[],rfl,aA,List.Sublist.refl _,by rw [aF HD.symm];exact aA,bu.same (aa.upd hD _),s1.sm.upd vt⟩ (by rintro i τ H2 _ ⟨_,_,_,_,_,q,_⟩;exact ae.of q) ?_ ?_
  ·rintro i τ H2 hi z0;refine hdn fun Gz9 zG9=>?_;obtain ⟨v,os,rfl,q1,q2,q4,q5,q6⟩:=z0;refine zG9 ?_
   rw [Ql] at hi
   rw [bM ss i hi]
   have uh:ss.take (i+1)=ss.take i++[ss.getD i ""]:=by
    rw [Qs,Qb,Qa hi];rfl
   generalize ss.getD i ""=z at uh
   have Cp:os.length<=i:=by have:=q2.length_le;simp at this;omega
   refine ⟨p,w',2,t+i,rfl,q5,⟨by decide,by decide⟩,by show t+i < 1000000000000;omega,fun r H3 r0 r1 rj ug=>?_⟩
   refine ⟨rfl,_,rfl,?_⟩
   have g4:=ug _ _ q4 MS MT
   have g1:=ug _ _ q1 yr yt
   refine di (fun _=>?_) (fun _=>?_)
   ·refine ⟨_,g1,by rw [Ql];exact A6 (by omega),_,os++[z],rfl,by rw [aA,Qm];rfl,by rw [uh];exact q2.append (List.Sublist.refl _),by rw [aF HD.symm];exact g4,rj.upd yr yt,(q6.trans ug).upd vt⟩
   ·exact ⟨_,os,rfl,g1,by rw [uh];exact q2.trans (List.sublist_append_left _ _),g4,rj,q6.trans ug⟩
  ·rintro τ H2 z0;refine hdn fun Gz9 zG9=>?_;obtain ⟨v,os,rfl,q1,we,q4,q5,q6⟩:=z0;refine zG9 ?_
   rw [Ql] at we q5
   rw [Qo] at we
   have q2:os.length<=ss.length:=we.length_le
   have q3:∀ z∈os,Wd z:=fun z hz=>Aj z (we.subset hz)
   have MU:∀ z∈os,isName z=true:=fun z hz=>MQ z (we.subset hz)
   have MV:rising os=true:=iE (MR.sublist we)
   refine Or.inl ⟨⟨_,ae.of q1⟩,fun D2 ik=>?_⟩
   have EK:D2≠p:=q5.ne1 ik
   have EL:D2≠w':=q5.ne2 ik
   have HE:D2≠D:=fun e=>by rw [e,q1] at ik;cases ik
   have C1:H D2=none:=q6.free ik EK EL
   refine hZ (cM (os.map V.str)) (fun i τ H3=>∃ (v:Option V) (xs:List V) (rs:List (Str×V)),τ=[v,some (.ref p),some (.ref nm)]/\H3 D2=some (.lst xs)/\gi H3 xs (ao rs)/\rs.map (·.1)=os.take i/\(∀ r∈rs,∃ y,r.2=.str y/\y∈ns/\Wd y)/\H3 D=some (.lst (os.map V.str))/\br H3 p w' (t+ws.length+i)/\Sm p w' H H3)
    ⟨none,[],[],rfl,aA,iL,rfl,(fun _ h=>nomatch h),by rw [aF HE.symm];exact q1,(q5.same (aa.upd ik _)).mono (by omega),q6.upd C1⟩ (by rintro i τ H2 _ ⟨_,_,_,_,_,_,_,_,q,_⟩;exact ae.of q) ?_ ?_
   ·rintro i τ H3 hi z0;refine hdn fun Gz9 zG9=>?_;obtain ⟨v,xs,rs,rfl,r1,r2,wg,r3,r4,r5,r6⟩:=z0;refine zG9 ?_
    rw [Ql] at hi
    rw [bM os i hi]
    have uh:os.take (i+1)=os.take i++[os.getD i ""]:=by
     rw [Qs,Qb,Qa hi];rfl
    generalize os.getD i ""=z at uh
    have BC:rs.length=i:=by have:=congrArg List.length wg;simp at this;omega
    have jm:xs.length=i:=by have:=r2.1;simp at this;omega
    have C2:=hn.sm hp r6
    have MW:=C2.pos
    have MX:=C2.few
    refine .inl ⟨_,.inl (ae.of C2.e),p,w',_,t+ws.length+i,rfl,r5,⟨by rw [Ql];omega,by rw [Ql];omega⟩,by show t+ws.length+i < 1000000000000;omega,fun r H4 a0 a1 mw jn=>?_⟩
    rw [Ql] at a1
    have HF:=C2.sm r5 jn
    obtain ⟨n,MY,Ax,MZ⟩:=HF.at r a0 a1
    refine ⟨_,_,.inl (ae.of HF.e),MY,(show 2<=sizeLine by decide),fun b hb=>?_⟩
    have g1:=jn _ _ r1 EK EL
    have g4:=jn _ _ r4 yr yt
    have EM:D2≠b:=aJ g1 hb
    have M0:D≠b:=aJ g4 hb
    have M1:Tk H3 H4:=r5.ts jn
    have C3:Tk H3 (upd (upd H4 b (.tup [.str z,.str n])) D2 (.lst (xs++[.ref b]))):=(M1.trans (aa.upd hb _).ts).set (by rw [aF EM];exact g1) (by intro _ z;cases z)
    have M2:upd (upd H4 b (.tup [.str z,.str n])) D2 (.lst (xs++[.ref b])) b=some (.tup [.str z,.str n]):=by rw [aF EM.symm];exact aA
    refine ⟨xs,by rw [aF EM];exact g1,by omega,_,xs++[.ref b],rs++[(z,.str n)],rfl,aA,jI (r2.ts C3) M2,by rw [Qm,wg,uh];rfl,fun r' mz=>?_,by rw [aF HE.symm,aF M0];exact g4,((mw.same (aa.upd hb _)).upd EK EL),((r6.trans jn).trans (aa.upd hb _).sm).upd C1⟩
    rcases List.mem_append.mp mz with hx | hx
    ·exact r3 r' hx
    ·rw [List.mem_singleton.mp hx]
     exact ⟨n,rfl,QC Ax,MZ⟩
   ·rintro τ H3 z0;refine hdn fun Gz9 zG9=>?_;obtain ⟨v,xs,rs,rfl,r1,r2,wg,r3,r4,r5,r6⟩:=z0;refine zG9 ?_
    rw [Ql] at wg r5
    rw [Qo] at wg
    have BC:rs.length=os.length:=by rw [<- wg,Ql]
    have jm:xs.length=os.length:=by have:=r2.1;simp at this;omega
    refine ⟨D2,xs,rfl,.inl ⟨ae.of r1,fun b hb=>?_⟩⟩
    have tk:Tk H3 (upd H3 b (.tup xs)):=(aa.upd hb _).ts
    have xx:∀ r'∈rs,r'.1∈os:=fun r' mz=>by rw [<- wg];exact List.mem_map.mpr ⟨r',mz,rfl⟩
    refine k b xs _ _ aA (zY (r2.ts tk) (fun r' mz=>MU _ (xx r' mz)) (fun r' mz=>by obtain ⟨y,e1,e2,_⟩:=r3 r' mz;exact ⟨y,e1,e2,yo y e2⟩) (by rw [wg];exact MV)) (fun q hq=>by obtain ⟨q',Ai,rfl⟩:=List.mem_map.mp hq;exact BG.mem_iff.mp (we.subset (xx q' Ai))) (by omega) ((TB.tup (k:=1) (n:=411) aA fun x hx=>?_).mono (by omega) (by rw [jm];omega)) ((r5.same (aa.upd hb _)).mono (by omega)) (r6.trans (aa.upd hb _).sm)
    obtain ⟨c,r',mz,rfl,e⟩:=sG r2 hx
    obtain ⟨y,e1,e2,e3⟩:=r3 r' mz
    rw [e1] at e
    exact MO (tk _ _ e) (q3 _ (xx r' mz)) e3
def HG:Sp:=fun vs H Q _=>∃ (p w wd nm:Addr) (sort:Str) (t:Nat) (ws ns:List Str),vs=[.ref p,.str sort,.ref wd,.ref nm]/\br H p w t/\t+40 < Ad/\f_ H wd ws/\ws.length<=10/\(ws.Nodup/\∀ z∈ws,isName z=true)/\f_ H nm ns/\(∀ z∈ns,isName z=true)/\(sort∈(["all","none","way","box","pick","as"]:List Str))/\
 ∀ (b:Addr) (ys:List V) (H':Hp),H' b=some (.tup (.str sort::ys))->(sort≠"as"->jl H' ns ws (.ref b) (fun o=>o=none))->TB H' (.ref b) 3 8273->br H' p w (t+40)->Sm p w H H'->Q (.ref b) H'
theorem mD (T:Txt K mg w):av P w K mg base 3 "_law_thead" ["pen","sort","words","names"] HG:=by
 have aM:av P w K mg base 1 "_law_tdraw" ["pen","many"] x_:=bY T
 have mJ:av P w K mg base 2 "_law_tpairs" ["pen","words","names"] EJ:=kK T
 refine T.oB.e_ lX (fun vs H Q E h=>?_) (fun f ak A outer s H vs Q E hr h=>?_)
 ·refine hdn fun Gz9 zG9=>?_;obtain ⟨p,w',wd,nm,sort,t,ws,ns,rfl,_⟩:=h;refine zG9 ?_
  rfl
 ·refine hdn fun Gz9 zG9=>?_;obtain ⟨p,w',wd,nm,sort,t,ws,ns,rfl,hp,ht,hw,C0,wc,hn,yo,C4,k⟩:=h;refine zG9 ?_
  have hso:Wd sort:=by
   simp only [Qp,QA,or_false] at C4
   rcases C4 with rfl | rfl | rfl | rfl | rfl | rfl<;>exact dA (by decide) (by decide)
  have yk:t+40 < 1000000000000:=ht
  have hsz:sizeLine=16777216:=QK
  have b_:=Qx (cD hr)
  have MW:=hn.pos
  have MX:=hn.few
  refine ⟨_,(aE (cF (aX (bR b_) (zv 1) aK (cz _)) (aH (aS (bQ (aD aK (aL (cC (cA K) (zv 3) (bI aM (hr.mono (by decide)) (aC (zv 0) (aZ (aI (aN K) (by rfl) T.fi PySem.boot_len (aC (zv 3) aB)) aB))) (fun _ _=>rfl)) (aL (cC (cA K) (zv 3) (bI aM (hr.mono (by decide)) (aC (zv 0) (aZ (aI (aN K) (by rfl) T.fi PySem.boot_len (aC (zv 3) aB)) aB))) (fun _ _=>rfl)) aB)))))) aV)
   (aE (cF (nB (aX (bR b_) (zv 1) aK (cz _)) (iT (aX (bR b_) (zv 1) aK (cz _)))).pt (aH (aS (bQ (aC (zv 1) (aZ (bI mJ (hr.mono (by decide)) (aC (zv 0) (aC (zv 2) (aC (zv 3) aB)))) aB))))) aV)
   (aH (aS (bQ (aC (zv 1) aB)))))),?_⟩
  refine ⟨rfl,_,rfl,di (fun h1=>?_) (fun h1=>?_)⟩
  ·rw [QE,cE] at h1
   have e1:sort="way":=eq_of_beq h1
   refine .inl ⟨_,.inl (ae.of hn.e),p,w',_,t,rfl,hp,⟨by rw [Ql];omega,by rw [Ql];omega⟩,by show t < 1000000000000;omega,fun r H1 a0 a1 bu k_=>?_⟩
   rw [Ql] at a1
   have hn1:=hn.sm hp k_
   obtain ⟨x,M3,HH,M4⟩:=hn1.at r a0 a1
   refine ⟨_,_,.inl (ae.of hn1.e),M3,.inl ⟨_,.inl (ae.of hn1.e),p,w',_,t+1,rfl,bu,⟨by rw [Ql];omega,by rw [Ql];omega⟩,by show t+1 < 1000000000000;omega,fun r2 H2 b0 b1 gh gx=>?_⟩⟩
   rw [Ql] at b1
   have hn2:=hn1.sm bu gx
   obtain ⟨y,EN,Ay,HJ⟩:=hn2.at r2 b0 b1
   refine ⟨_,_,.inl (ae.of hn2.e),EN,(show 3<=sizeLine by decide),fun b hb=>?_⟩
   rw [e1] at k
   refine k b [.str x,.str y] _ aA (fun _=>wQ aA (yo _ (QC HH)) (yo _ (QC Ay)) (QC HH) (QC Ay) rfl) ((TB.tup (k:=0) (n:=202) aA fun v hv=>?_).mono (by omega) (by simp)) ((gh.same (aa.upd hb _)).mono (by omega)) ((k_.trans gx).trans (aa.upd hb _).sm)
   simp only [Qp,QA,or_false] at hv
   rcases hv with rfl | rfl | rfl
   ·rw [<- e1];exact TB.str hso
   ·exact TB.str M4
   ·exact TB.str HJ
  ·rw [QE,cE] at h1
   have fin:sort∈(["all","none","as"]:List Str)->BV (B6 (iz (tV 1) AR)) {nx:=fun x H'=>Q V.af H',rt:=Q} [some (.ref p),some (.str sort),some (.ref wd),some (.ref nm)] H:=by
    intro HK
    refine ⟨(show 1<=sizeLine by decide),fun b hb=>?_⟩
    refine k b [] _ aA (fun ku=>by
     simp only [Qp,QA,or_false] at HK
     rcases HK with rfl | rfl | rfl
     ·exact qU aA rfl
     ·exact vE aA rfl
     ·exact (ku rfl).elim) ((TB.tup (k:=0) (n:=202) aA fun v hv=>?_).mono (by omega) (by simp)) ((hp.same (aa.upd hb _)).mono (by omega)) ((aa.upd hb _).sm)
    rw [List.mem_singleton.mp hv];exact TB.str hso
   have prs:(sort="box"\/sort="pick")->BV (B6 (iz (tV 1) (iz (B7 EJ [] E0 (iz (tV 0) (iz (tV 2) (iz (tV 3) AR)))) AR))) {nx:=fun x H'=>Q V.af H',rt:=Q} [some (.ref p),some (.str sort),some (.ref wd),some (.ref nm)] H:=by
    intro n_
    refine ⟨p,w',wd,nm,t,ws,ns,rfl,hp,by show t+30 < 1000000000000;omega,hw,C0,wc,hn,yo,fun c xs ps H1 hc M5 M6 jm htb bu k_=>?_⟩
    refine ⟨(show 2<=sizeLine by decide),fun b hb=>?_⟩
    have s5:=aa.upd hb (.tup [.str sort,.ref c])
    refine k b [.ref c] _ aA (fun _=>pH n_ aA (s5 _ _ hc) (by omega) (M5.tk s5.ts) M6 rfl) ((TB.tup (k:=2) (n:=4133) aA fun v hv=>?_).mono (by omega) (by simp)) ((bu.same (aa.upd hb _)).mono (by omega)) (k_.trans (aa.upd hb _).sm)
    simp only [Qp,QA,or_false] at hv
    rcases hv with rfl | rfl
    ·exact (TB.str hso).mono (by omega) (by omega)
    ·exact htb.ts (aa.upd hb _).ts
   refine ⟨rfl,_,rfl,di (fun h2=>?_) (fun h2=>?_)⟩
   ·rw [QE,cE] at h2
    exact cy (prs (.inl (eq_of_beq h2)))
   ·rw [QE,cE] at h2
    refine ⟨rfl,_,rfl,di (fun h3=>?_) (fun h3=>?_)⟩
    ·rw [QE,cE] at h3
     exact prs (.inr (eq_of_beq h3))
    ·rw [QE,cE] at h3
     refine fin ?_
     simp only [Qp,QA,or_false] at C4 ⊢
     rcases C4 with rfl | rfl | rfl | rfl | rfl | rfl
     ·exact .inl rfl
     ·exact .inr (.inl rfl)
     ·exact absurd h1 (by decide)
     ·exact absurd h2 (by decide)
     ·exact absurd h3 (by decide)
     ·exact .inr (.inr rfl)
def HL:Sp:=fun vs H Q _=>∃ (p w wd so:Addr) (most:Int) (t:Nat) (ws ss:List Str),vs=[.ref p,.int most,.ref wd,.ref so]/\br H p w t/\t+1000 < Ad/\(1<=most/\most<=10)/\f_ H wd ws/\ws.length<=10/\(ws.Nodup/\∀ z∈ws,isName z=true)/\f_ H so ss/\(∀ z∈ss,z∈(["all","none","way","box","pick","as"]:List Str))/\
 ∀ (a:Addr) (xs:List V) (rows:List az) (ns:List Str) (H':Hp),RT H' a xs rows ns ws->(∀ n∈ns,n.length≠6)->(ns.length:Int)<=most->br H' p w (t+1000)->Sm p w H H'->Q (.ref a) H'
theorem j8 (T:Txt K mg w):av P w K mg base 4 "_law_ttelling" ["pen","most","words","sorts"] HL:=by
 have aM:av P w K mg base 1 "_law_tdraw" ["pen","many"] x_:=bY T
 have eU:av P w K mg base 2 "_law_tnames" ["pen","many"] EH:=gF T
 have o4:av P w K mg base 3 "_law_thead" ["pen","sort","words","names"] HG:=mD T
 refine T.k7.e_ aT (fun vs H Q E h=>?_) (fun f ak A outer s H vs Q E hr h=>?_)
 ·refine hdn fun Gz9 zG9=>?_;obtain ⟨p,w',wd,so,most,t,ws,ss,rfl,_⟩:=h;refine zG9 ?_
  rfl
 ·refine hdn fun Gz9 zG9=>?_;obtain ⟨p,w',wd,so,most,t,ws,ss,rfl,hp,ht,⟨As,MK⟩,hw,C0,wc,hso,M7,k⟩:=h;refine zG9 ?_
  have yk:t+1000 < 1000000000000:=ht
  have hsz:sizeLine=16777216:=QK
  have b_:=Qx (cD hr)
  refine ⟨_,(aE (aR (i:=4) aT.nd rfl (Or.inl rfl) (bI eU (hr.mono (by decide)) (aC (zv 0) (dD (bH aY aG (bI aM (hr.mono (by decide)) (aC (zv 0) (aC (zv 1) aB)))) aB))))
   (aE (aR (i:=5) aT.nd rfl (Or.inl rfl) (e8 aB))
   (aE (i0 PassesOwn.never rfl (jT K (by rfl) T.fL (aC (zv 4) aB)) (i4 K (n:=2) rfl (bG (aP (i:=6) aT.nd rfl (Or.inl rfl)) (bG (aP (i:=7) aT.nd rfl (Or.inl rfl)) f7))) (aE (aR (i:=8) aT.nd rfl (Or.inl rfl) (cC (cA K) (zv 3) (bI aM (hr.mono (by decide)) (aC (zv 0) (aZ (aI (aN K) (by rfl) T.fi PySem.boot_len (aC (zv 3) aB)) aB))) (fun _ _=>rfl)))
   (aE (aR (i:=9) aT.nd rfl (Or.inl rfl) (bI o4 (hr.mono (by decide)) (aC (zv 0) (aC (zv 8) (aC (zv 2) (aC (zv 4) aB))))))
   (aE (cF (aX (bR b_) (zv 8) aK (cz _)) (aH (aR (i:=9) aT.nd rfl (Or.inl rfl) (qO (aX (bR b_) (zv 6) aG (cz _)) (bQ (aD aK aB)) (bQ (aD aK (aL (cC (cA K) (zv 4) (bI aM (hr.mono (by decide)) (aC (zv 0) (aC (zv 6) aB))) (fun _ _=>rfl)) aB)))))) aV)
   (aH (eP (i3 K QH QI QJ cO (zv 5) (bV (bQ (aC (zv 7) (aC (zv 9) aB))) aB))))))))
   (aE (aR (i:=10) aT.nd rfl (Or.inl rfl) (bI aM (hr.mono (by decide)) (aC (zv 0) (aZ (aI (aN K) (by rfl) T.fi PySem.boot_len (aC (zv 5) aB)) aB))))
   (aH (aS (bT (bX K) (by rfl) T.bS QG (dD (bH aY (d5 (lU K) (zv 5) (cS (zv 10)) dX) (d5 (lU K) (zv 5) dX (cS (zv 10)))) aB)))))))),?_⟩
  refine aO ⟨p,w',most,t,rfl,hp,⟨by omega,by omega⟩,by show t < 1000000000000;omega,fun r0 H1 ra rb bu k_=>⟨p,w',1+r0,t+1,rfl,bu,⟨by omega,by omega⟩,by show t+1+20 < 1000000000000;omega,fun L ns H2 ph hL Ph EO v_ gh gx=>?_⟩⟩
  have HM:ns.length<=10/\1<=ns.length:=by omega
  have tL:f_ H2 L ns:=⟨hL,by intro e;rw [e] at HM;simp at HM,by omega,fun n hn=>(v_ n hn).2.1⟩
  have HN:Sm p w' H H2:=k_.trans gx
  refine aO ⟨(show 0<=sizeLine by decide),fun R hR=>?_⟩
  have Az:R≠p:=gh.ne1 hR
  have AA:R≠w':=gh.ne2 hR
  have HP:H R=none:=HN.free hR Az AA
  have HQ:R≠L:=fun e=>by rw [e,hL] at hR;cases hR
  refine bL (fun σ' H'=>∃ (v6 v7 v8 v9:Option V) (xs:List V) (rs:List (Str×V)),σ'=[some (.ref p),some (.int most),some (.ref wd),some (.ref so),some (.ref L),some (.ref R),v6,v7,v8,v9,none]/\H' R=some (.lst xs)/\gi H' xs (ao rs)/\rs.map (·.1)=ns/\mh H' ns ws rs/\br H' p w' (t+21+60*10)/\Sm p w' H H') ?_ ?_
  ·intro nx gf
   refine ⟨L,_,rfl,ae.of (by rw [aF HQ.symm];exact hL),nX (jW (ns.map V.str)) (fun i σ' H'=>∃ (v6 v7 v8 v9:Option V) (xs:List V) (rs:List (Str×V)),σ'=[some (.ref p),some (.int most),some (.ref wd),some (.ref so),some (.ref L),some (.ref R),v6,v7,v8,v9,none]/\H' R=some (.lst xs)/\gi H' xs (ao rs)/\rs.map (·.1)=ns.take i/\mh H' ns ws rs/\f_ H' L ns/\br H' p w' (t+21+60*i)/\Sm p w' H H')
    ⟨none,none,none,none,[],[],rfl,aA,iL,rfl,⟨(fun _ h=>nomatch h),(fun _ h=>nomatch h)⟩,tL.same (aa.upd hR _),gh.same (aa.upd hR _),HN.upd HP⟩ (by rintro i τ H' _ ⟨_,_,_,_,_,_,_,_,_,_,_,tl,_⟩;exact ae.of tl.e) ?_ ?_⟩
   ·rintro i σ' H3 T0 hi ⟨v6,v7,v8,v9,xs,rs,rfl,q1,q2,q3,q4,q5,q6,q7⟩ vz
    rw [Ql] at hi
    rw [bM ns i hi]
    have Ax:ns[i]? =some (ns.getD i ""):=by rw [Qb,Qa hi];rfl
    generalize ns.getD i ""=nm at Ax
    generalize M8:upd H3 T0 (.tup [.int (i:Int),.str nm])=H4
    have s4:aa H3 H4:=by rw [<- M8];exact aa.upd vz _
    have mw:=q6.same s4
    have jn:Sm p w' H H4:=q7.trans s4.sm
    have EQ:=hso.sm hp jn
    have Pj:=EQ.pos
    have Pk:=EQ.few
    have Pn:i < 10:=by omega
    refine aO (.inl ⟨_,.inl (ae.of EQ.e),p,w',_,t+21+60*i,rfl,mw,⟨by rw [Ql];omega,by rw [Ql];omega⟩,by show t+21+60*i < 1000000000000;omega,fun r H5 a0 a1 BH C5=>?_⟩)
    rw [Ql] at a1
    have ER:Sm p w' H H5:=jn.trans C5
    have HR:=hso.sm hp ER
    obtain ⟨sort,M9,M_,ve⟩:=HR.at r a0 a1
    refine ⟨_,_,.inl (ae.of HR.e),M9,?_⟩
    have HS:=(q5.same s4).sm mw C5
    refine aO ⟨p,w',wd,L,sort,t+21+60*i+1,ws,ns,rfl,BH,by show t+21+60*i+1+40 < 1000000000000;omega,hw.sm hp ER,C0,wc,HS,fun z hz=>(v_ z hz).1,M7 _ (QC M_),fun b ys H6 hb Ez htb um yu=>?_⟩
    have ES:Sm p w' H H6:=ER.trans yu
    have Na:Tk H3 H6:=(s4.ts.trans (mw.ts C5)).trans (BH.ts yu)
    have ET:=HS.sm BH yu
    have EU:H6 R=some (.lst xs):=yu _ _ (C5 _ _ (s4 _ _ q1) Az AA) Az AA
    refine bL (fun σ' H7=>∃ (hv:V) (HU:Option V),σ'=[some (.ref p),some (.int most),some (.ref wd),some (.ref so),some (.ref L),some (.ref R),some (.int (i:Int)),some (.str nm),HU,some hv,none]/\jl H7 ns ws hv (yf ns nm)/\Tk H6 H7/\H7 R=some (.lst xs)/\f_ H7 L ns/\br H7 p w' (t+21+60*i+50)/\Sm p w' H H7) ?_ ?_
    ·intro rg fz
     refine ⟨rfl,_,rfl,di (fun h1=>?_) (fun h1=>?_)⟩
     ·refine ⟨rfl,_,rfl,di (fun h2=>?_) (fun h2=>?_)⟩
      ·refine ⟨(show 1<=sizeLine by decide),fun c hc=>?_⟩
       refine fz _ _ ⟨.ref c,_,rfl,qU aA (fun _ h=>nomatch h),(aa.upd hc _).ts,(aa.upd hc _) _ _ EU,ET.same (aa.upd hc _),(um.same (aa.upd hc _)).mono (by omega),ES.trans (aa.upd hc _).sm⟩
      ·rw [QE,bC] at h2
       have Hx:0 < i:=by have:=Qu h2;omega
       refine ⟨p,w',(i:Int),_,rfl,um,⟨by omega,by omega⟩,by show t+21+60*i+1+40 < 1000000000000;omega,fun r2 H7 b0 b1 C6 C7=>?_⟩
       have EV:=ET.sm um C7
       obtain ⟨y,EN,Ay,HJ⟩:=EV.at r2 b0 (by omega)
       refine ⟨_,_,.inl (ae.of EV.e),EN,(show 2<=sizeLine by decide),fun c hc=>?_⟩
       refine fz _ _ ⟨.ref c,_,rfl,zK aA (v_ _ (QC Ay)).1 (QC Ay) (fun y' e=>?_),(um.ts C7).trans (aa.upd hc _).ts,(aa.upd hc _) _ _ (C7 _ _ EU Az AA),EV.same (aa.upd hc _),(C6.same (aa.upd hc _)).mono (by omega),(ES.trans C7).trans (aa.upd hc _).sm⟩
       ·cases e
        exact ⟨r2.toNat,i,by omega,Ay,Ax⟩
     ·rw [QE,cE] at h1
      have ku:sort≠"as":=fun e=>by rw [e] at h1;simp at h1
      exact fz _ _ ⟨.ref b,_,rfl,(Ez ku).imp (fun o e y e'=>by rw [e] at e';cases e'),Tk.refl,EU,ET,um.mono (by omega),ES⟩
    ·rintro σ' H7 z0;refine hdn fun Gz9 zG9=>?_;obtain ⟨hv,HU,rfl,g1,g3,g4,g5,g6,g7⟩:=z0;refine zG9 ?_
     refine ⟨.inl ⟨rfl,_,ae.of g4⟩,(show 2<=sizeLine by decide),fun c hc=>?_⟩
     have EW:R≠c:=aJ g4 hc
     have jm:xs.length=i:=by
      have h1:=q2.1
      have h2:=congrArg List.length q3
      simp at h1 h2
      omega
     refine ⟨R,xs,.ref c,rfl,rfl,by rw [aF EW];exact g4,by omega,?_⟩
     have HW:Tk H7 (upd (upd H7 c (.tup [.str nm,hv])) R (.lst (xs++[.ref c]))):=((aa.upd hc _).ts).set (by rw [aF EW];exact g4) (by intro _ z;cases z)
     have Nb:upd (upd H7 c (.tup [.str nm,hv])) R (.lst (xs++[.ref c])) c=some (.tup [.str nm,hv]):=by rw [aF EW.symm];exact aA
     have HX:Tk H3 (upd (upd H7 c (.tup [.str nm,hv])) R (.lst (xs++[.ref c]))):=(Na.trans g3).trans HW
     have Nc:L≠R:=HQ.symm
     refine ⟨_,_,_,_,xs++[.ref c],rs++[(nm,hv)],rfl,aA,jI (q2.ts HX) Nb,?_,?_,⟨by rw [aF Nc,aF (aJ g5.e hc)];exact g5.e,g5.ne,g5.few,g5.wd⟩,((g6.same (aa.upd hc _)).upd Az AA).mono (by omega),(g7.trans (aa.upd hc _).sm).upd HP⟩
     ·rw [Qm,q3,Qs,Ax];rfl
     ·have:=((q4.tk HX).add (n:=nm) (v:=hv) (QC Ax) (g1.tk HW))
      exact this.perm fun r hr=>by
       rcases List.mem_append.mp hr with hr | hr
       ·exact Qh _ hr
       ·rw [List.mem_singleton.mp hr];exact List.mem_cons_self
   ·rintro σ' H' z0;refine hdn fun Gz9 zG9=>?_;obtain ⟨v6,v7,v8,v9,xs,rs,rfl,q1,q2,q3,q4,q5,q6,q7⟩:=z0;refine zG9 ?_
    rw [Ql,Qo] at q3
    rw [Ql] at q6
    exact gf _ _ ⟨v6,v7,v8,v9,xs,rs,rfl,q1,q2,q3,q4,q6.mono (by omega),q7⟩
  ·rintro σ' H3 z0;refine hdn fun Gz9 zG9=>?_;obtain ⟨v6,v7,v8,v9,xs,rs,rfl,q1,q2,q3,q4,q6,q7⟩:=z0;refine zG9 ?_
   have BC:rs.length=ns.length:=by rw [<- q3,Ql]
   have jm:xs.length=rs.length:=by have:=q2.1;simpa using this
   refine aO (.inl ⟨_,.inl (ae.of q1),p,w',_,_,rfl,q6,⟨by omega,by omega⟩,by show t+21+60*10 < 1000000000000;omega,fun r H4 a0 a1 mw jn=>?_⟩)
   have g1:H4 R=some (.lst xs):=jn _ _ q1 Az AA
   have er:r=((r.toNat:Nat):Int):=by omega
   refine ⟨r,rfl,Or.inr (Or.inl ⟨R,xs,rfl,ae.of g1,fun p1 HY=>?_⟩)⟩
   have Nd:R≠p1:=aJ g1 HY
   refine ⟨r,rfl,Or.inr (Or.inl ⟨R,xs,rfl,ae.of (by rw [aF Nd];exact g1),fun p2 C8=>?_⟩)⟩
   have Nf:p1≠p2:=fun e=>by rw [<- e,aA] at C8;cases C8
   refine ⟨_,_,by rw [aF Nf];exact aA,aA,?_,fun p3 HZ=>⟨p3,_,rfl,.inl ⟨ae.of aA,fun a ha=>?_⟩⟩⟩
   ·have h1:=dR xs (some r) none
    have h2:=dR xs none (some r)
    omega
   ·have e1:dz xs (some r) none=xs.drop r.toNat:=by rw [er];exact eB xs r.toNat
    have e2:dz xs none (some r)=xs.take r.toNat:=by rw [er];exact uJ xs r.toNat
    rw [e1,e2] at ha ⊢
    have s5:=(((aa.upd HY (.lst (xs.drop r.toNat))).trans (aa.upd (by rw [e1] at C8;exact C8) (.lst (xs.take r.toNat)))).trans (aa.upd (by rw [e1,e2] at HZ;exact HZ) (.lst (xs.drop r.toNat++xs.take r.toNat)))).trans (aa.upd ha (.tup (xs.drop r.toNat++xs.take r.toNat)))
    have C3:=(q6.ts jn).trans s5.ts
    have pm:=vL rs r.toNat
    have Ng:((rs.drop r.toNat++rs.take r.toNat).map (·.1)).Perm (rs.map (·.1)):=pm.map _
    have Nh:=(q4.tk C3).perm (fun r' mz=>pm.mem_iff.mp mz)
    obtain ⟨rows,rt⟩:=RT.of aA (sS (q2.ts C3) r.toNat) (by rw [<- q3];exact Ng) EO (fun n hn=>⟨(v_ n hn).1,(v_ n hn).2.1⟩) (by omega) (by omega) Nh
    exact k a _ rows ns _ rt (fun n hn=>(v_ n hn).2.2) (by omega) ((mw.same s5).mono (by omega)) ((q7.trans jn).trans s5.sm)
def H_:Sp:=fun vs H Q _=>∃ (a:Addr) (xs:List V) (rows:List az) (ns:List Str),vs=[.ref a]/\(H a=some (.lst xs)\/H a=some (.tup xs))/\RV H xs rows/\ow ns rows/\rows.length<=300/\∀ (L:Addr) (H':Hp),H L=none->aa H H'->H' L=some (.lst ((rows.map eu).map V.str))->Q (.ref L) H'
theorem kM (T:Txt K mg w):av P w K mg base 1 "_law_tlines" ["told"] H_:=by
 refine T.mE.e_ bA (fun vs H Q E h=>?_) (fun f ak A outer s H vs Q E hr h=>?_)
 ·obtain ⟨a,xs,rows,ns,rfl,_⟩:=h
  rfl
 ·refine hdn fun Gz9 zG9=>?_;obtain ⟨a,xs,rows,ns,rfl,ha,rv,ok,hl,k⟩:=h;refine zG9 ?_
  have hsz:sizeLine=16777216:=QK
  have b_:=Qx (cD hr)
  have jm:=rv.len
  refine ⟨_,(aE (aR (i:=1) bA.nd rfl (Or.inl rfl) (e8 aB))
   (aE (i0 PassesOwn.never rfl (nU K (zv 0)) (i4 K (n:=2) rfl (bG (aP (i:=2) bA.nd rfl (Or.inl rfl)) (bG (aP (i:=3) bA.nd rfl (Or.inl rfl)) f7))) (aE (aR (i:=4) bA.nd rfl (Or.inl rfl) (e8 (aC (zv 2) (aD aK aB))))
   (aE (cF (aX (gY b_) (cC (cA K) (zv 3) aG (fun _ _=>rfl)) aK (cz _)) (aH (eP (i3 K QH QI QJ cO (zv 4) (aL (cC (cA K) (zv 3) aG (fun _ _=>rfl)) aB)))) aV)
   (aE (i0 PassesOwn.never rfl (nU K (d5 (lU K) (zv 3) (cS aG) dX)) (aP (i:=5) bA.nd rfl (Or.inl rfl)) (aH (cF (f9 (aI cH (by rfl) T.bK PyProof.Rows.boot_isinstance (aC (zv 5) (aC (fQ (v:=.ty "str") (by rfl) T.Et PyProof.Rows.boot_str rfl) aB)))) (aH (eP (i3 K QH QI QJ cO (zv 4) (aC (zv 5) aB)))) (aH (i0 PassesOwn.never rfl (nU K (zv 5)) (i4 K (n:=2) rfl (bG (aP (i:=6) bA.nd rfl (Or.inl rfl)) (bG (aP (i:=7) bA.nd rfl (Or.inl rfl)) f7))) (aH (aR (i:=4) bA.nd rfl (Or.inl rfl) (bH aY (zv 4) (e8 (aC (zv 6) (aC (zv 7) aB)))))))))))
   (aH (eP (i3 K QH QI QJ cO (zv 1) (aZ (i3 K PySem.F.plainAttrs_str PySem.F.slot_str_join PySem.F.type_str_join (iB K) aK (aC (zv 4) aB)) aB))))))))
   (aH (aS (zv 1))))),?_⟩
  refine aO ⟨(show 0<=sizeLine by decide),fun L hL=>?_⟩
  have sL:=aa.upd hL (.lst [])
  have gL:upd H L (.lst []) L=some (.lst []):=aA
  generalize upd H L (.lst [])=H1 at sL gL
  have Ia:H1 a=some (.lst xs)\/H1 a=some (.tup xs):=ha.imp (sL _ _) (sL _ _)
  refine bL (fun σ' H'=>∃ (v2 v3 v4 v5 v6 v7:Option V),σ'=[some (.ref a),some (.ref L),v2,v3,v4,v5,v6,v7]/\H' L=some (.lst ((rows.map eu).map V.str))/\aa H H') ?_ ?_
  ·intro nx gf
   refine tW (K:=K) Ia (fun i σ' H'=>∃ (v2 v3 v4 v5 v6 v7:Option V),σ'=[some (.ref a),some (.ref L),v2,v3,v4,v5,v6,v7]/\H' L=some (.lst (((rows.take i).map eu).map V.str))/\aa H H'/\(H' a=some (.lst xs)\/H' a=some (.tup xs))) ⟨none,none,none,none,none,none,rfl,gL,sL,Ia⟩ ?_ ?_ ?_
   ·rintro i τ H' hi ⟨_,_,_,_,_,_,_,_,s,_⟩ o ho
    rcases ha with h | h
    ·rw [sL _ _ h] at ho;rw [<- ho];exact s _ _ h
    ·rw [sL _ _ h] at ho;rw [<- ho];exact s _ _ h
   ·rintro i σ' H2 hi z0;refine hdn fun Gz9 zG9=>?_;obtain ⟨v2,v3,v4,v5,v6,v7,rfl,q1,q2,q3⟩:=z0;refine zG9 ?_
    have rh:i < rows.length:=by omega
    obtain ⟨b,v,r1,r2,r3⟩:=rv.mem rh
    rw [r1]
    have hm:=ok _ (Qj rh)
    have Cn:=q2 _ _ r2
    have r3':=r3.tk q2.ts
    have et:((rows.take (i+1)).map eu).map V.str=((rows.take i).map eu).map V.str++[.str (eu rows[i])]:=by
     rw [Qs,Qa rh,Qm,Qm];rfl
    rw [et]
    have Ni:(((rows.take i).map eu).map V.str).length<=300:=by simp only [Ql,List.length_take];omega
    generalize ((rows.take i).map eu).map V.str=ls at q1 Ni
    clear et r2 r3 r1
    generalize rows[i]=r at hm Cn r3'
    obtain ⟨n,h⟩:=r
    obtain ⟨hn,hok⟩:=hm
    have wl:h.words.length<=21:=iQ hok
    refine lB Cn ?_
    refine aO ⟨(show 2<=sizeLine by decide),fun W hW=>?_⟩
    have sW:=aa.upd hW (.lst [.str n,.str "="])
    have gW:upd H2 W (.lst [.str n,.str "="]) W=some (.lst [.str n,.str "="]):=aA
    dsimp only
    generalize upd H2 W (.lst [.str n,.str "="])=H3 at sW gW
    have Po:∃ c,v=.ref c:=by cases r3'<;>exact ⟨_,rfl⟩
    refine bL (fun σ' H'=>σ'=[some (.ref a),some (.ref L),some (.str n),some v,some (.ref W),v5,v6,v7]/\H' W=some (.lst ((n::"="::h.pre).map V.str))/\aa H2 H') ?_ ?_
    ·intro rg fz
     have app:∀ (z:Str),h.pre=[z]->rg [some (.ref a),some (.ref L),some (.str n),some v,some (.ref W),v5,v6,v7] (upd H3 W (.lst ([.str n,.str "="]++[.str z]))):=fun z hz=>fz _ _ ⟨rfl,by rw [aA,hz];rfl,sW.put hW⟩
     cases r3' with
     | @one c z e=>
      have hz:(true^^decide (V.str z=V.str "as"))=true:=by
       rw [cE]
       rcases hok with rfl | rfl<;>decide+kernel
      refine ⟨_,.str z,.inr (aj.of (sW _ _ e)),bB _ _,rfl,_,rfl,?_⟩
      rw [hz]
      refine cy ⟨.inl ⟨rfl,_,ae.of gW⟩,_,.str z,.inr (aj.of (sW _ _ e)),bB _ _,W,_,.str z,rfl,rfl,gW,(show 2 < sizeLine by decide),app z rfl⟩
     | @as c y e=>
      refine ⟨_,.str "as",.inr (aj.of (sW _ _ e)),bB _ _,rfl,_,rfl,?_⟩
      have hz:(true^^decide (V.str "as"=V.str "as"))=false:=by simp
      rw [hz]
      exact h_ (fz _ _ ⟨rfl,gW,sW⟩)
     | @way c x y e=>
      have hz:(true^^decide (V.str "way"=V.str "as"))=true:=by rw [cE];decide+kernel
      refine ⟨_,.str "way",.inr (aj.of (sW _ _ e)),bB _ _,rfl,_,rfl,?_⟩
      rw [hz]
      refine cy ⟨.inl ⟨rfl,_,ae.of gW⟩,_,.str "way",.inr (aj.of (sW _ _ e)),bB _ _,W,_,.str "way",rfl,rfl,gW,(show 2 < sizeLine by decide),app "way" rfl⟩
     | @prs c c' z xs' ps e e' p=>
      have hz:(true^^decide (V.str z=V.str "as"))=true:=by
       rw [cE]
       rcases hok.1 with rfl | rfl<;>decide+kernel
      refine ⟨_,.str z,.inr (aj.of (sW _ _ e)),bB _ _,rfl,_,rfl,?_⟩
      rw [hz]
      refine cy ⟨.inl ⟨rfl,_,ae.of gW⟩,_,.str z,.inr (aj.of (sW _ _ e)),bB _ _,W,_,.str z,rfl,rfl,gW,(show 2 < sizeLine by decide),app z rfl⟩
    ·rintro σ' H4 ⟨rfl,g4,s4⟩
     refine bL (fun σ' H'=>∃ (W':Addr) (v5 v6 v7:Option V),σ'=[some (.ref a),some (.ref L),some (.str n),some v,some (.ref W'),v5,v6,v7]/\H' W'=some (.lst ((n::"="::h.words).map V.str))/\aa H2 H') ?_ ?_
     ·intro rg fz
      have Ib:∀ (x:V) (ys:List V),¬(HT.ay (x::ys).length 0 (some 1)=0/\HT.ay (x::ys).length (x::ys).length none=(x::ys).length):=fun x ys ⟨h1,_⟩=>by
       have:HT.ay (x::ys).length 0 (some ((1:Nat):Int))=0:=h1
       rw [HT.gA] at this
       simp at this
      have Ie:∀ (x:V) (ys:List V),dz (x::ys) (some 1) none=ys:=fun x ys=>eB (x::ys) 1
      rcases r3'.shape with ⟨c,x0,ys,rfl,e,hw,Pp⟩ | ⟨c,c',z,xs',ps,rfl,rfl,e,e',p⟩
      ·refine ⟨1,rfl,Or.inr (Or.inr ⟨c,_,rfl,aj.of (s4 _ _ e),Ib _ _,fun p1 bu=>?_⟩)⟩
       rw [Ie]
       have sp:=aa.upd bu (.tup (ys.map V.str))
       have gp:upd H4 p1 (.tup (ys.map V.str)) p1=some (.tup (ys.map V.str)):=aA
       have BI:=s4.trans sp
       have BJ:=sp _ _ g4
       dsimp only
       generalize upd H4 p1 (.tup (ys.map V.str))=H5 at sp gp BI BJ
       have BK:p1≠W:=fun e=>by rw [e,g4] at bu;cases bu
       refine Or.inr ⟨⟨_,aj.of gp⟩,eZ (D:={nx:=rg,rt:=Q}) (cZ (ys.map V.str)) (fun j σ' H'=>∃ (v5:Option V),σ'=[some (.ref a),some (.ref L),some (.str n),some (.ref c),some (.ref W),v5,v6,v7]/\H' W=some (.lst ((n::"="::(h.pre++ys.take j)).map V.str))/\aa H2 H'/\H' p1=some (.tup (ys.map V.str))) ⟨_,rfl,by rw [List.take_zero,List.append_nil];exact BJ,BI,gp⟩ (by rintro j τ H' _ ⟨_,_,_,_,h⟩;exact aj.of h) ?_ ?_⟩
       ·rintro j σ' H6 hj ⟨C9,rfl,t1,t2,t3⟩
        rw [Ql] at hj
        rw [bM ys j hj]
        have uh:ys.take (j+1)=ys.take j++[ys.getD j ""]:=by
         rw [Qs,Qb,Qa hj];rfl
        generalize ys.getD j ""=y at uh
        refine ⟨by decide,_,rfl,_,rfl,?_⟩
        have hpl:h.pre.length<=1:=by cases h<;>simp [Hd.pre]
        refine cy ⟨.inl ⟨rfl,_,ae.of t1⟩,W,_,.str y,rfl,rfl,t1,by simp only [Ql,List.length_cons,Qk,List.length_take];omega,?_⟩
        refine ⟨_,rfl,?_,t2.put hW,by rw [aF BK];exact t3⟩
        rw [aA,uh,<- List.append_assoc]
        simp only [List.map_cons,Qm,List.cons_append,List.map_nil]
       ·rintro σ' H6 ⟨C9,rfl,t1,t2,t3⟩
        rw [Ql,Qo,<- hw] at t1
        exact fz _ _ ⟨W,_,_,_,rfl,t1,t2⟩
      ·have hpl:=p.len
       have Cr:=hok.2.2.2
       refine ⟨1,rfl,Or.inr (Or.inr ⟨c,_,rfl,aj.of (s4 _ _ e),Ib _ _,fun p1 bu=>?_⟩)⟩
       rw [Ie]
       have sp:=aa.upd bu (.tup [.ref c'])
       have gp:upd H4 p1 (.tup [.ref c']) p1=some (.tup [.ref c']):=aA
       have BI:=s4.trans sp
       have BJ:=sp _ _ g4
       dsimp only
       generalize upd H4 p1 (.tup [.ref c'])=H5 at sp gp BI BJ
       refine Or.inr ⟨⟨_,aj.of gp⟩,eZ (D:={nx:=rg,rt:=Q}) (cZ [.ref c']) (fun j σ' H'=>∃ (W':Addr) (v5 v6 v7:Option V),σ'=[some (.ref a),some (.ref L),some (.str n),some (.ref c),some (.ref W'),v5,v6,v7]/\H' W'=some (.lst ((n::"="::(z::(if j=0 then [] else ps.flatMap fun p=>[p.1,p.2]))).map V.str))/\aa H2 H'/\H' p1=some (.tup [.ref c'])) ⟨_,_,_,_,rfl,BJ,BI,gp⟩ (by rintro j τ H' _ ⟨_,_,_,_,_,_,_,h⟩;exact aj.of h) ?_ ?_⟩
       ·rintro j σ' H6 hj z0;refine hdn fun Gz9 zG9=>?_;obtain ⟨W',C9,Ig,Ih,rfl,t1,t2,t3⟩:=z0;refine zG9 ?_
        have Nj:j=0:=by simp at hj;exact hj
        subst Nj
        have Ii:=t2 _ _ e'
        refine ⟨by decide,"tuple",by show lu H6 (.ref c')=_;simp [lu,Ii],_,rfl,?_⟩
        refine h_ (Or.inr ⟨⟨_,aj.of Ii⟩,eZ (cZ xs') (fun m σ' H'=>∃ (W':Addr) (v6 v7:Option V),σ'=[some (.ref a),some (.ref L),some (.str n),some (.ref c),some (.ref W'),some (.ref c'),v6,v7]/\H' W'=some (.lst ((n::"="::(z::((ps.take m).flatMap fun p=>[p.1,p.2]))).map V.str))/\aa H2 H'/\H' p1=some (.tup [.ref c'])) ⟨W',_,_,rfl,t1,t2,t3⟩ (by rintro m τ H' _ ⟨_,_,_,_,_,s,_⟩;exact aj.of (s _ _ e')) ?_ ?_⟩)
        ·rintro m σ' H7 Ij ⟨W2,Nk,Nl,rfl,u1,u2,u3⟩
         have Ik:m < ps.length:=by omega
         obtain ⟨cc,w1,w2⟩:=p.at_ m Ij Ik
         have ex:xs'.getD m .af=.ref cc:=by rw [Qb,Qa Ij,w1];rfl
         rw [ex]
         refine lB (u2 _ _ w2) ?_
         refine ⟨(show 2<=sizeLine by decide),fun L3 rm=>?_⟩
         have s3:=aa.upd rm (.lst [.str ps[m].1,.str ps[m].2])
         have g3:upd H7 L3 (.lst [.str ps[m].1,.str ps[m].2]) L3=some (.lst [.str ps[m].1,.str ps[m].2]):=aA
         dsimp only
         generalize upd H7 L3 (.lst [.str ps[m].1,.str ps[m].2])=H8 at s3 g3
         have fl:=vU (ps.take m)
         have Pq:(ps.take m).length<=10:=by rw [List.length_take];omega
         refine ⟨_,_,s3 _ _ u1,g3,by simp only [Ql,List.length_cons,List.length_nil];omega,fun W3 Il=>?_⟩
         refine ⟨W3,_,_,rfl,?_,(u2.trans s3).trans (aa.upd Il _),(s3.trans (aa.upd Il _)) _ _ u3⟩
         rw [aA,Qs,Qa Ik,List.flatMap_append]
         simp
        ·rintro σ' H7 ⟨W2,Nk,Nl,rfl,u1,u2,u3⟩
         rw [hpl,Qo] at u1
         exact ⟨W2,_,_,_,rfl,u1,u2,u3⟩
       ·rintro σ' H6 z0;refine hdn fun Gz9 zG9=>?_;obtain ⟨W',C9,Ig,Ih,rfl,t1,t2,t3⟩:=z0;refine zG9 ?_
        exact fz _ _ ⟨W',_,_,_,rfl,t1,t2⟩
     ·rintro σ' H5 ⟨W',C9,Ig,Ih,rfl,g5,s5⟩
      have Im:=s5 _ _ q1
      refine ⟨.inl ⟨rfl,_,ae.of Im⟩,rfl,n::"="::h.words,ae.of g5,?_,L,ls,.str (eu (n,h)),rfl,rfl,Im,by omega,?_⟩
      ·have h1:=m8 (m:=8) fun w hw=>(dL (r:=(n,h)) hn hok w hw).2
       have h2:(n::"="::h.words).length<=23:=by simp only [List.length_cons];omega
       have h3:(" ":Str).length=1:=rfl
       show _+_*(" ":Str).length<=_
       rw [h3]
       have:=Nat.mul_le_mul_right 8 h2
       have e9:((n,h):az).1::"="::((n,h):az).2.words=n::"="::h.words:=rfl
       rw [e9] at h1
       omega
      ·refine ⟨_,_,_,_,_,_,rfl,aA,(q2.trans s5).put hL,?_⟩
       rcases ha with h | h
       ·exact .inl (((q2.trans s5).put hL) _ _ h)
       ·exact .inr (((q2.trans s5).put hL) _ _ h)
   ·rintro σ' H2 z0;refine hdn fun Gz9 zG9=>?_;obtain ⟨v2,v3,v4,v5,v6,v7,rfl,q1,q2,q3⟩:=z0;refine zG9 ?_
    rw [jm,Qo] at q1
    exact gf _ _ ⟨_,_,_,_,_,_,rfl,q1,q2⟩
  ·rintro σ' H2 z0;refine hdn fun Gz9 zG9=>?_;obtain ⟨v2,v3,v4,v5,v6,v7,rfl,q1,q2⟩:=z0;refine zG9 ?_
   exact k L _ hL q2 q1
def Nm:Sp:=fun vs H Q _=>∃ (e:Addr) (i:Nat),vs=[.ref e,.int i]/\i < 1000000000/\H e=some (ie (adr mg "NoText") none e)/\∀ dx,H dx=none->Q .af (upd (upd H e (ie (adr mg "NoText") (some dx) e)) dx (.xd [("number",.int i)]))
theorem jM (T:Txt K mg w):Es P w K mg base 1 "NoText" ["self","number"] (Nm (mg:=mg)):=by
 refine T.vp.e_ jN (fun vs H Q E h=>?_) (fun f ak A outer s H vs Q E hr h=>?_)
 ·obtain ⟨e,i,rfl,_⟩:=h
  rfl
 ·obtain ⟨e,i,rfl,hi,he,k⟩:=h
  refine ⟨_,(aE (eP (zI K T.Mr (aC (zv 0) (lP (z3 (zv 1)) aB))))
   (aH (z4 K (zv 0) (zv 1)))),?_⟩
  have hp:1000000000 < 2^64:=by decide
  refine ⟨by decide,(i:Int),rfl,by omega,e,_,none,_,rfl,by simp,T.vp.at_,he,?_⟩
  exact ⟨e,_,rfl,he,T.vp.at_,T.vp.na _ (by simp),fun dx hd=>k dx hd⟩
def fm:List Str->List (List Str)
 | []=>[]
 | [a]=>[[a]]
 | a::b::r=>[a,b]::fm r
theorem jY:∀ r:List Str,(fm r).length=(r.length+1) / 2
 | []=>rfl
 | [a]=>by simp [fm]
 | a::b::r=>by
  rw [fm,List.length_cons,jY r,List.length_cons,List.length_cons];omega
theorem eR:∀ (r:List Str) (i:Nat) (h:i < (fm r).length),(fm r)[i]=(r.drop (2*i)).take 2
 | [a],0,_=>rfl
 | a::b::r,0,_=>rfl
 | a::b::r,i+1,h=>by
  have:=eR r i (by simpa [fm] using h)
  rw [show 2*(i+1)=2*i+1+1 by omega]
  simpa [fm] using this
 | [a],i+1,h=>absurd h (by simp [fm])
 | [],i,h=>absurd h (by simp [fm])
theorem uX (xs:List V) (a b:Nat) (ha:a<=xs.length) (hb:a<=b):dz xs (some (a:Int)) (some (b:Int))=(xs.drop a).take (b - a):=by
 by_cases h:b<=xs.length
 ·exact rQ xs a b ha h
 ·have e:dz xs (some (a:Int)) (some (b:Int))=dz xs (some (a:Int)) (some (xs.length:Int)):=by
   unfold dz HT.ay
   simp only []
   congr 2
   have:HT.ay xs.length xs.length (some (b:Int))=HT.ay xs.length xs.length (some (xs.length:Int)):=by
    simp only [HT.ay];rw [if_neg (by omega),if_neg (by omega)];omega
   exact this
  rw [e,rQ xs a xs.length ha (Qy _),List.take_of_length_le (by simp),List.take_of_length_le (by simp;omega)]
def lj:List Str->Dt
 | []=>.bx
 | s::r=>if gw s=true then .tup [.str s,.tup ((fm r).map fun c=>.tup (c.map Dt.str))] else if ((("all":Str)==s||(("none":Str)==s||(("way":Str)==s||false))))=true then .tup ((s::r).map Dt.str) else .tup ((QL "as"::s::r).map Dt.str)
theorem lS (e:H a=some (.tup (ws.map V.str))) (hl:ws.length<=1000) (hz:∀ z∈ws,z.length<=100000):TX H (.ref a) (.tup (ws.map Dt.str)):=by
 refine .tup e (by simp) (by simpa using hl) fun i h1 h2=>?_
 simp only [Qr]
 exact .str (hz _ (Qj _))
def Io:Sp:=fun vs H Q _=>∃ (L:Addr) (ws:List Str),vs=[.ref L]/\H L=some (.lst (ws.map V.str))/\ws≠[]/\ws.length<=990/\(∀ z∈ws,z.length<=100000)/\∀ (v:V) (H':Hp),aa H H'->TX H' v (lj ws)->Q v H'
theorem mC (T:Txt K mg w):av P w K mg base 1 "read_head" ["words"] Io:=by
 refine T.nO.e_ eK (fun vs H Q E h=>?_) (fun f ak A outer s H vs Q E hr h=>?_)
 ·obtain ⟨v,h,rfl,_⟩:=h
  rfl
 ·refine hdn fun Gz9 zG9=>?_;obtain ⟨L,ws,rfl,hL,ku,hl,hz,k⟩:=h;refine zG9 ?_
  have hsz:sizeLine=16777216:=QK
  have b_:=Qx (cD hr)
  refine ⟨_,(aE (nE (zv 0) (rX K rfl (aP (i:=1) eK.nd rfl (Or.inl rfl)) (aP (i:=2) eK.nd rfl (Or.inr rfl))))
   (aE (cF (aX (iK K) (zv 1) (rA K T.jG) rfl) (aH (aS (bQ (aC (zv 1) (aZ (bT (bX K) (by rfl) T.bS QG (aU (fO (own:=["at"]) (idx:=[2]) (N':=["at","rest"]) (cJ (au dU) (["words","sort","rest"]:List Str) (by decide+kernel)) rfl (u7 (by rfl) T.i9 (aD aG (aZ (aI (aN K) (by rfl) T.fi PySem.boot_len (aC (zv 2) aB)) (aD aG aB)))) (fun _ _ _ _ _ _=>(aP (i:=0) (show List.Nodup (["at","rest"]:List Str) by decide+kernel) rfl (Or.inl rfl))) (fun _ _ _ _ _ _=>cT) (fun _ _ _ _ _ _=>(bT (bX K) (by rfl) T.bS QG (aL (d5 (lU K) (zv 1) (cS (zv 0)) (cS (bH aY (zv 0) aG))) aB)))) aB)) aB))))) aV)
   (aE (cF (aX (iK K) (zv 1) (bQ (aD aK (aD aK (aD aK aB)))) rfl) (aH (aS (bT (bX K) (by rfl) T.bS QG (aC (zv 0) aB)))) aV)
   (aH (aS (bT (bX K) (by rfl) T.bS QG (dD (bH aY (e8 (aD aK aB)) (zv 0)) aB))))))),?_⟩
  have Nn:∀ z:Str,uz (V.str z) [V.str "all",V.str "none",V.str "way"]=(("all":Str)==z||(("none":Str)==z||(("way":Str)==z||false))):=fun z=>rfl
  obtain ⟨x,r,rfl⟩:=List.exists_cons_of_ne_nil ku
  refine ⟨L,.str x,r.map V.str,rfl,ae.of hL,fun D hD=>?_⟩
  have s0:=aa.upd hD (.lst (r.map V.str))
  have gD:upd H D (.lst (r.map V.str)) D=some (.lst (r.map V.str)):=aA
  dsimp only
  generalize upd H D (.lst (r.map V.str))=H1 at s0 gD
  have BC:r.length<=989:=by simpa using hl
  have Np:∀ z∈r,z.length<=100000:=fun z h=>hz z (Qh _ h)
  intro aW hW
  refine ⟨_,.inr hW,rfl,rfl,_,rfl,?_⟩
  rw [QE,iF]
  refine di (fun h1=>?_) (fun h1=>?_)
  ·refine Or.inl ⟨_,.inl (ae.of gD),_,2,rfl,⟨by omega,by rw [Ql];omega,by decide,by decide⟩,fun D2 ik=>?_⟩
   have C1:H D2=none:=s0.free ik
   have Ip:D≠D2:=aJ gD ik
   have cl:=jY r
   have Nq:(((((r.map V.str).length:Nat):Int)+2 - 1) / 2).toNat=(fm r).length:=by rw [Ql,cl];omega
   rw [Nq]
   refine hZ (p7 2 (fm r).length) (fun i τ H'=>∃ (v0:Option V) (xs:List V),τ=[v0,some (.ref D)]/\H' D2=some (.lst xs)/\xs.length=i/\(∀ j (h:j < xs.length) (h':j < (fm r).length),TX H' xs[j] (.tup ((fm r)[j].map Dt.str)))/\aa H H'/\H' D=some (.lst (r.map V.str))) ⟨none,[],rfl,aA,rfl,fun j h=>absurd h (by simp),s0.trans (aa.upd ik _),by rw [aF Ip];exact gD⟩ (fun _ _ _ _ _=>True.intro) ?_ ?_
   ·rintro i τ H2 hi z0;refine hdn fun Gz9 zG9=>?_;obtain ⟨v0,xs,rfl,q1,jm,q2,q3,q4⟩:=z0;refine zG9 ?_
    refine ⟨0+(i:Int)*2,rfl,0+(i:Int)*2+2,rfl,Or.inr (Or.inl ⟨D,_,rfl,ae.of q4,fun p1 bu=>?_⟩)⟩
    have ec:=uX (r.map V.str) (2*i) (2*i+2) (by rw [Ql];omega) (by omega)
    rw [show ((2*i:Nat):Int)=0+(i:Int)*2 by omega,show ((2*i+2:Nat):Int)=0+(i:Int)*2+2 by omega,show 2*i+2 - 2*i=2 by omega,<- List.map_drop,<- List.map_take,<- eR r i hi] at ec
    rw [ec]
    refine ⟨p1,_,rfl,.inl ⟨ae.of aA,fun c hc=>?_⟩⟩
    have s3:=(aa.upd bu (.lst ((fm r)[i].map V.str))).trans (aa.upd hc (.tup ((fm r)[i].map V.str)))
    have gc:upd (upd H2 p1 (.lst ((fm r)[i].map V.str))) c (.tup ((fm r)[i].map V.str)) c=some (.tup ((fm r)[i].map V.str)):=aA
    dsimp only
    generalize upd (upd H2 p1 (.lst ((fm r)[i].map V.str))) c (.tup ((fm r)[i].map V.str))=H3 at s3 gc
    have g1:=s3 _ _ q1
    have Iq:Tk H3 (upd H3 D2 (.lst (xs++[.ref c]))):=(Tk.refl).set g1 (by intro _ z;cases z)
    refine ⟨xs,g1,by omega,_,xs++[.ref c],rfl,aA,by simp [jm],fun j a b=>?_,(q3.trans s3).put C1,by rw [aF Ip];exact s3 _ _ q4⟩
    by_cases bc:j < xs.length
    ·rw [Qe bc]
     exact (q2 j bc b).tk (s3.ts.trans Iq)
    ·have e:j=xs.length:=by simp at a;omega
     subst e
     rw [Qf (Qy _)]
     simp only [Nat.sub_self,List.getElem_cons_zero]
     subst jm
     refine lS (Iq _ _ gc) (by rw [eR r _ hi];simp;omega) fun z hz=>?_
     rw [eR r _ hi] at hz
     exact Np z (List.mem_of_mem_drop (List.mem_of_mem_take hz))
   ·rintro τ H2 z0;refine hdn fun Gz9 zG9=>?_;obtain ⟨v0,xs,rfl,q1,jm,q2,q3,q4⟩:=z0;refine zG9 ?_
    refine ⟨D2,xs,rfl,.inl ⟨ae.of q1,fun c hc=>⟨(show 2<=sizeLine by decide),fun b hb=>?_⟩⟩⟩
    have s3:=(aa.upd hc (.tup xs)).trans (aa.upd hb (.tup [.str x,.ref c]))
    refine k _ _ (q3.trans s3) ?_
    rw [lj,if_pos h1]
    refine g9 aA (.str (hz x (by simp))) (.tup ((aa.upd hb _) _ _ aA) (by simp [jm]) (by omega) fun i a b'=>?_)
    simp only [Qr]
    exact (q2 i a (by omega)).tk s3.ts
  ·have h1:¬gw x=true:=by rw [h1];decide
   refine d8 ?_
   refine ⟨(show 3<=sizeLine by decide),fun tt CZ=>⟨_,.inr (aj.of aA),rfl,rfl,_,rfl,?_⟩⟩
   rw [QE,Nn]
   have s1:=s0.trans (aa.upd CZ (.tup [.str "all",.str "none",.str "way"]))
   have jo:=s1 _ _ hL
   refine di (fun h2=>?_) (fun h2=>?_)
   ·refine ⟨L,_,rfl,.inl ⟨ae.of jo,fun a ha=>?_⟩⟩
    refine k _ _ (s1.trans (aa.upd ha _)) ?_
    rw [lj,if_neg h1,if_pos h2]
    exact lS aA (by omega) hz
   ·refine dH ?_
    refine ⟨(show 1<=sizeLine by decide),fun L0 ph=>?_⟩
    have s2:=s1.trans (aa.upd ph (.lst [.str "as"]))
    refine ⟨_,_,aA,s2 _ _ hL,(show 1+((x::r).map V.str).length<=sizeLine by rw [Ql];omega),fun L2 yw=>⟨L2,_,rfl,.inl ⟨ae.of aA,fun a ha=>?_⟩⟩⟩
    refine k _ _ ((s2.trans (aa.upd yw _)).trans (aa.upd ha _)) ?_
    rw [lj,if_neg h1,if_neg (by rw [h2];decide)]
    refine lS (ws:=QL "as"::x::r) aA (by simp;omega) fun z oq=>?_
    rcases Qp.mp oq with rfl | oq
    ·decide
    ·exact hz z oq
def yx (l:Str):Option Dt:=if (Txt.split l (QL " ")).length < 3 then none else if (Txt.split l (QL " ")).getD 1 ""="=" then some (.tup [.str ((Txt.split l (QL " ")).getD 0 ""),lj ((Txt.split l (QL " ")).drop 2)]) else none
def RX (H:Hp) (v:V):Option Dt->Prop
 | none=>v=.af
 | some d=>TX H v d
structure yy (l:Str):Prop where
 len:l.length<=1000000
 few:(Txt.split l (QL " ")).length<=990
 Aj:∀ z∈Txt.split l (QL " "),z.length<=100000
def Ir:Sp:=fun vs H Q _=>∃ l:Str,vs=[.str l]/\yy l/\∀ (v:V) (H':Hp),aa H H'->RX H' v (yx l)->Q v H'
theorem nJ (T:Txt K mg w):av P w K mg base 2 "read_row" ["line"] Ir:=by
 have mS:av P w K mg base 1 "read_head" ["words"] Io:=mC T
 refine T.pV.e_ iX (fun vs H Q E h=>?_) (fun f ak A outer s H vs Q E hr h=>?_)
 ·obtain ⟨r,rfl,_⟩:=h
  rfl
 ·obtain ⟨l,rfl,⟨ll,fw,wz⟩,k⟩:=h
  have hsz:sizeLine=16777216:=QK
  have b_:=Qx (cD hr)
  refine ⟨_,(aE (aR (i:=1) iX.nd rfl (Or.inl rfl) (i3 K PySem.F.plainAttrs_str PySem.F.slot_str_split PySem.F.type_str_split nQ (zv 0) (aD aK aB)))
   (aE (cF (nB (aX lZ (aI (aN K) (by rfl) T.fi PySem.boot_len (aC (zv 1) aB)) aG (cz _)) (iT (aX (gY b_) (cC (cA K) (zv 1) aG (fun _ _=>rfl)) aK (cz _)))).pt (aH (aS xV)) aV)
   (aH (aS (bQ (aL (cC (cA K) (zv 1) aG (fun _ _=>rfl)) (aZ (bI mS (hr.mono (by decide)) (aL (d5 (lU K) (zv 1) (cS aG) dX) aB)) aB))))))),?_⟩
  refine aO ⟨rfl,rfl,ll,fun D hD=>?_⟩
  have er:yx l=if (Txt.split l (QL " ")).length < 3 then none else if (Txt.split l (QL " ")).getD 1 ""="=" then some (.tup [.str ((Txt.split l (QL " ")).getD 0 ""),lj ((Txt.split l (QL " ")).drop 2)]) else none:=rfl
  generalize Txt.split l (QL " ")=ws at fw wz er ⊢
  have s0:=aa.upd hD (.lst (ws.map V.str))
  have gD:upd H D (.lst (ws.map V.str)) D=some (.lst (ws.map V.str)):=aA
  generalize upd H D (.lst (ws.map V.str))=H1 at s0 gD
  refine Or.inl ⟨_,.inl (ae.of gD),_,rfl,?_⟩
  refine di (fun hc=>?_) (fun hc=>?_)
  ·have:=Qt hc
   rw [Ql] at this
   rw [if_pos (by omega)] at er
   exact k _ _ s0 (by rw [er];rfl)
  ·have:=Qu hc
   rw [Ql] at this
   obtain ⟨w0,t0,rfl⟩:∃ a t,ws=a::t:=List.exists_cons_of_ne_nil fun e=>by rw [e] at this;simp at this
   obtain ⟨w1,t1,rfl⟩:∃ a t,t0=a::t:=List.exists_cons_of_ne_nil fun e=>by rw [e] at this;simp at this
   obtain ⟨w2,t2,rfl⟩:∃ a t,t1=a::t:=List.exists_cons_of_ne_nil fun e=>by rw [e] at this;simp at this
   rw [if_neg (by simp)] at er
   have er:yx l=if w1="=" then some (.tup [.str w0,lj (w2::t2)]) else none:=er
   refine ⟨_,.str w1,.inl (ae.of gD),fX (j:=1) rfl,rfl,_,rfl,?_⟩
   by_cases e:w1="="
   ·have e1:(true^^decide (V.str w1=V.str "="))=false:=by rw [e];simp
    rw [e1]
    rw [if_pos e] at er
    refine h_ (dH ?_)
    refine ⟨_,.str w0,.inl (ae.of gD),bB _ _,2,rfl,Or.inr (Or.inl ⟨D,_,rfl,ae.of gD,fun p1 bu=>?_⟩)⟩
    have ec:dz ((w0::w1::w2::t2).map V.str) (some 2) none=(w2::t2).map V.str:=eB _ 2
    rw [ec]
    refine ⟨p1,w2::t2,rfl,aA,by simp,by simp at fw ⊢;omega,fun z hz=>wz z (by simp at hz ⊢;exact .inr (.inr hz)),fun v H2 s2 hv=>⟨(show 2<=sizeLine by decide),fun b hb=>?_⟩⟩
    refine k (.ref b) _ (((s0.trans (aa.upd bu _)).trans s2).trans (aa.upd hb _)) ?_
    rw [er]
    exact g9 aA (.str (wz w0 (by simp))) (hv.tk (aa.upd hb _).ts)
   ·have e1:(true^^decide (V.str w1=V.str "="))=true:=by simp [e]
    rw [e1]
    rw [if_neg e] at er
    refine cy ?_
    exact k _ _ s0 (by rw [er];rfl)
def gm (l:Str):Dt:=(yx l).getD .bx
def ip (l:Str):Bool:=gj (gm l)
theorem RX.dd {H:Hp} {v:V} {o:Option Dt} (h:RX H v o):DD H v (o.getD .bx):=by
 cases o with
 | none=>obtain rfl:v=.af:=h;exact .af
 | some d=>exact TX.dd h
theorem RX.tx {v:V} {l:Str} (h:RX H v (yx l)) (g:ip l=true):TX H v (gm l):=by
 unfold ip gm at*
 cases e:yx l with
 | none=>rw [e] at g;exact Bool.noConfusion g
 | some d=>rw [e] at h;exact h
def Nr:Sp:=fun vs H Q E=>∃ (text:Str) (ls:List Str),vs=[.str text]/\Txt.split text (QL "\n")=ls/\text.length<=1000000/\ls.length<=990/\(∀ l∈ls,yy l)/\
 (∀ i (h:i < ls.length),ip ls[i]=false->(∀ j (h:j < ls.length),j < i->ip ls[j]=true)->∀ e dx H',aa H H'->H' e=some (ig (adr mg "NoText") (some dx) e)->H' dx=some (.xd [("number",.int i)])->E (.ref e) (some dx) H')/\
 ((∀ l∈ls,ip l=true)->cf (.tup (ls.map gm))=false->∀ e H',aa H H'->H' e=some (ig (adr mg "NoTelling") none e)->E (.ref e) none H')/\
 ((∀ l∈ls,ip l=true)->cf (.tup (ls.map gm))=true->∀ v H',aa H H'->TX H' v (.tup (ls.map gm))->Q v H')
theorem j9 (T:Txt K mg w):Bv P w K mg base 7 "read_telling" ["text"] (Nr (mg:=mg)):=by
 have pI:av P w K mg base 2 "read_row" ["line"] Ir:=nJ T
 have jQ:av P w K mg base 5 "is_row" ["thing"] (spT gj):=lA T
 have eG:av P w K mg base 6 "is_telling" ["thing"] (spT cf):=gC T
 have vO:=jM (P:=P) (w:=w) (base:=base) T
 refine T.k6.Ml bJ (fun vs H Q E h=>?_) (fun f ak A outer s H vs Q E hr h=>?_)
 ·obtain ⟨tx,ls,rfl,_⟩:=h
  rfl
 ·refine hdn fun Gz9 zG9=>?_;obtain ⟨text,ls,rfl,EX,EY,hl,EZ,k1,k2,k3⟩:=h;refine zG9 ?_
  have hsz:sizeLine=16777216:=QK
  have b_:=Qx (cD hr)
  refine ⟨_,(aE (aR (i:=1) bJ.nd rfl (Or.inl rfl) (e8 aB))
   (aE (i0 PassesOwn.leaving rfl (jT K (by rfl) T.fL (aZ (i3 K PySem.F.plainAttrs_str PySem.F.slot_str_split PySem.F.type_str_split nQ (zv 0) (aD aK aB)) aB)) (i4 K (n:=2) rfl (bG (aP (i:=2) bJ.nd rfl (Or.inl rfl)) (bG (aP (i:=3) bJ.nd rfl (Or.inl rfl)) f7))) (aE (aR (i:=4) bJ.nd rfl (Or.inl rfl) (bI pI (hr.mono (by decide)) (aC (zv 3) aB)))
   (aE (cF (f8 (f9 (bI jQ (hr.mono (by decide)) (aC (zv 4) aB)))) (aH (u6 vO (hr.mono (by decide)) (aC (zv 2) aB))) aV)
   (aH (eP (i3 K QH QI QJ cO (zv 1) (aC (zv 4) aB)))))))
   (aE (aR (i:=5) bJ.nd rfl (Or.inl rfl) (bT (bX K) (by rfl) T.bS QG (aC (zv 1) aB)))
   (aE (cF (f8 (f9 (bI eG (hr.mono (by decide)) (aC (zv 5) aB)))) (aH (uQ T.Eu (aD aK aB))) aV)
   (aH (aS (zv 5))))))),?_⟩
  refine aO ⟨(show 0<=sizeLine by decide),fun R hR=>?_⟩
  have sR:=aa.upd hR (.lst [])
  have gR:upd H R (.lst []) R=some (.lst []):=aA
  generalize upd H R (.lst [])=H1 at sR gR
  refine bL (fun σ' H'=>∃ (v2 v3 v4 v5:Option V) (xs:List V),σ'=[some (.str text),some (.ref R),v2,v3,v4,v5]/\H' R=some (.lst xs)/\xs.length=ls.length/\(∀ l∈ls,ip l=true)/\(∀ j (h:j < xs.length) (h':j < ls.length),TX H' xs[j] (gm ls[j]))/\aa H H') ?_ ?_
  ·intro nx gf
   refine ⟨rfl,rfl,EY,fun D hD=>?_⟩
   rw [EX]
   have sD:=sR.trans (aa.upd hD (.lst (ls.map V.str)))
   have gD:upd H1 D (.lst (ls.map V.str)) D=some (.lst (ls.map V.str)):=aA
   have Iu:=(aa.upd hD (.lst (ls.map V.str))) _ _ gR
   generalize upd H1 D (.lst (ls.map V.str))=H2 at sD gD Iu
   have Nt:D≠R:=fun e=>by rw [e,gR] at hD;cases hD
   refine ⟨D,_,rfl,ae.of gD,nX (jW (ls.map V.str)) (fun i σ' H'=>∃ (v2 v3 v4:Option V) (xs:List V),σ'=[some (.str text),some (.ref R),v2,v3,v4,none]/\H' R=some (.lst xs)/\xs.length=i/\(∀ j (h:j < ls.length),j < i->ip ls[j]=true)/\(∀ j (h:j < xs.length) (h':j < ls.length),TX H' xs[j] (gm ls[j]))/\aa H H'/\H' D=some (.lst (ls.map V.str))) ⟨none,none,none,[],rfl,Iu,rfl,fun _ _ h=>absurd h (Nat.not_lt_zero _),fun j h=>absurd h (by simp),sD,gD⟩ (by rintro i τ H' _ ⟨_,_,_,_,_,_,_,_,_,_,h⟩;exact ae.of h) ?_ ?_⟩
   ·rintro i σ' H3 T0 hi ⟨v2,v3,v4,xs,rfl,q1,q0,qg,q2,q3,q4⟩ vz
    rw [Ql] at hi
    rw [bM _ i hi]
    have el:ls.getD i ""=ls[i]:=by rw [Qb,Qa hi];rfl
    rw [el]
    have hm:=Qj hi
    have sT:=aa.upd vz (.tup [.int (i:Int),.str ls[i]])
    refine aO ⟨ls[i],rfl,EZ _ hm,fun v H4 s4 hv=>?_⟩
    refine ⟨v,gm ls[i],rfl,hv.dd,fun H5 s5=>⟨_,rfl,?_⟩⟩
    have BL:=(sT.trans s4).trans s5
    cases hg:ip ls[i] with
    | true=>
     have E1:gj (gm ls[i])=true:=hg
     rw [E1]
     have g1:=BL _ _ q1
     have tx:=hv.tx hg
     refine h_ (dH ⟨.inl ⟨rfl,_,ae.of g1⟩,R,xs,v,rfl,rfl,g1,by omega,?_⟩)
     have Iv:Tk H5 (upd H5 R (.lst (xs++[v]))):=(Tk.refl).set g1 (by intro _ z;cases z)
     refine ⟨_,_,_,xs++[v],rfl,aA,by simp [q0],fun j hj Iw=>?_,fun j a b=>?_,(q3.trans BL).put hR,by rw [aF Nt];exact BL _ _ q4⟩
     ·by_cases z:j=i
      ·subst z;exact hg
      ·exact qg j hj (by omega)
     ·by_cases bc:j < xs.length
      ·rw [Qe bc]
       exact (q2 j bc b).tk (BL.ts.trans Iv)
      ·have e:j=xs.length:=by simp at a;omega
       subst e
       rw [Qf (Qy _)]
       simp only [Nat.sub_self,List.getElem_cons_zero]
       subst q0
       exact tx.tk (s5.ts.trans Iv)
    | false=>
     have E1:gj (gm ls[i])=false:=hg
     rw [E1]
     refine cy ?_
     refine ⟨by simp,fun e he=>⟨e,i,rfl,by omega,aA,fun dx hd=>?_⟩⟩
     have ne:dx≠e:=fun z=>by rw [z,aA] at hd;cases hd
     rw [aF ne] at hd
     refine ⟨rfl,some dx,by rw [aF ne.symm,aA],?_⟩
     refine k1 i hi hg (fun j hj Iw=>qg j hj Iw) e dx _ ((q3.trans BL).trans fun a o ha=>?_) aA (by rw [aF ne,aA])
     have n1:a≠e:=fun z=>by rw [z,he] at ha;cases ha
     have n2:a≠dx:=fun z=>by rw [z,hd] at ha;cases ha
     rw [aF n1,aF n2,aF n1,aF n1]
     exact ha
   ·rintro σ' H3 z0;refine hdn fun Gz9 zG9=>?_;obtain ⟨v2,v3,v4,xs,rfl,q1,q0,qg,q2,q3,q4⟩:=z0;refine zG9 ?_
    rw [Ql] at q0 qg
    refine gf _ _ ⟨_,_,_,_,xs,rfl,q1,q0,fun l d_=>?_,q2,q3⟩
    obtain ⟨j,hj,rfl⟩:=Qi d_
    exact qg j hj hj
  ·rintro σ' H2 z0;refine hdn fun Gz9 zG9=>?_;obtain ⟨v2,v3,v4,v5,xs,rfl,q1,q0,qg,q2,q3⟩:=z0;refine zG9 ?_
   refine aO ⟨R,xs,rfl,.inl ⟨ae.of q1,fun a ha=>?_⟩⟩
   have sa:=aa.upd ha (.tup xs)
   have ga:upd H2 a (.tup xs) a=some (.tup xs):=aA
   generalize upd H2 a (.tup xs)=H3 at sa ga
   have tx:TX H3 (.ref a) (.tup (ls.map gm)):=.tup ga (by simp [q0]) (by omega) fun j h1 h2=>by
    simp only [Qr]
    exact (q2 j h1 (by omega)).tk sa.ts
   refine ⟨.ref a,.tup (ls.map gm),rfl,tx.dd,fun H4 s4=>⟨_,rfl,?_⟩⟩
   cases ht:cf (.tup (ls.map gm)) with
   | true=>exact h_ (dH (k3 qg ht _ _ ((q3.trans sa).trans s4) (tx.tk s4.ts)))
   | false=>
    refine cy ?_
    refine ⟨by simp,fun e he=>k2 qg ht e _ (((q3.trans sa).trans s4).trans (aa.upd he _)) aA⟩
def Iz:Sp:=fun vs H Q _=>∃ (text:Str) (ls:List Str),vs=[.str text]/\Txt.split text (QL "\n")=ls/\text.length<=1000000/\ls.length<=990/\(∀ l∈ls,yy l)/\
 (∀ i (h:i < ls.length),ip ls[i]=false->(∀ j (h:j < ls.length),j < i->ip ls[j]=true)->∀ H',aa H H'->Q (.int i) H')/\
 ((∀ l∈ls,ip l=true)->cf (.tup (ls.map gm))=false->∀ H',aa H H'->Q (.str "none") H')/\
 ((∀ l∈ls,ip l=true)->cf (.tup (ls.map gm))=true->∀ v H',aa H H'->TX H' v (.tup (ls.map gm))->Q v H')
theorem lN (T:Txt K mg w):av P w K mg base 8 "_law_tread" ["text"] Iz:=by
 have kE:=j9 (P:=P) (w:=w) (base:=base) T
 refine T.nW.e_ bZ (fun vs H Q E h=>?_) (fun f ak A outer s H vs Q E hr h=>?_)
 ·obtain ⟨tx,ls,rfl,_⟩:=h
  rfl
 ·refine hdn fun Gz9 zG9=>?_;obtain ⟨text,ls,rfl,EX,EY,hl,EZ,k1,k2,k3⟩:=h;refine zG9 ?_
  refine ⟨_,(aE (aR (i:=1) bZ.nd rfl (Or.inl rfl) xV)
   (aE (zH (i:=1) kE (hr.mono (by decide)) (aC (zv 0) aB) (Mn (j:=2) T.vp.m T.vp.at_ bZ.nd rfl rfl (fun _=>(aH (aR (i:=1) bZ.nd rfl (Or.inl rfl) (zS K (zv 2))))) (Mm T.Eu.m T.Eu.at_ (fun _=>(aH (aR (i:=1) bZ.nd rfl (Or.inl rfl) aK))) y7)) bZ.nd rfl rfl)
   (aH (aS (zv 1))))),?_⟩
  refine aO ?_
  refine bL (fun σ' H'=>∃ (v:V),σ'=[some (.str text),some v,none]/\Q v H') ?_ ?_
  ·intro nx gf
   refine ⟨text,ls,rfl,EX,EY,hl,EZ,fun i hi hg hb e dx H' s' he Nu e' C' ee ic=>?_,fun hg ht e H' s' he e' C' ee ic=>?_,fun hg ht v H' s' tx=>gf _ _ ⟨v,rfl,k3 hg ht v H' s' tx⟩⟩
   ·cases ee
    rw [he] at ic
    obtain ⟨rfl,_⟩:=rC (QD ic)
    refine ⟨true,T.Ms,?_⟩
    rw [if_pos rfl]
    refine ⟨e,_,dx,_,.int i,rfl,he,Nu,T.vp.at_,T.vp.na _ (by simp),rfl,?_⟩
    exact gf _ _ ⟨_,rfl,k1 i hi hg hb H' s'⟩
   ·cases ee
    rw [he] at ic
    obtain ⟨rfl,_⟩:=rC (QD ic)
    refine ⟨false,T.Mt,?_⟩
    rw [if_neg (by decide)]
    refine ⟨true,T.Mu,?_⟩
    rw [if_pos rfl]
    exact gf _ _ ⟨_,rfl,k2 hg ht H' s'⟩
  ·rintro σ' H' ⟨v,rfl,q⟩
   exact q
theorem jS (rows:List az):bg (rows.map dj)=rows.map fun r=>(r.1,r.2.dt):=by unfold bg;rw [Qn];rfl
theorem iN (rows:List az):(bg (rows.map dj)).map (·.1)=rows.map (·.1):=by rw [jS,Qn];rfl
theorem wC {rows:List az} (h:¬(rows.map (·.1)).Nodup):cf (.tup (rows.map dj))=false:=by
 simp only [cf]
 rw [iN,Qw h]
 simp
theorem xJ {rows:List az} {r:az} (hr:r∈rows) {n:Str} (hn:n∈dg r.2.dt) (ho:n ∉ rows.map (·.1)):cf (.tup (rows.map dj))=false:=by
 simp only [cf]
 have e:((bg (rows.map dj)).all fun r=>(dg r.2).all fun n=>decide (n∈(bg (rows.map dj)).map (·.1)))=false:=by
  rw [List.all_eq_false]
  refine ⟨(r.1,r.2.dt),by rw [jS];exact List.mem_map.mpr ⟨r,hr,rfl⟩,?_⟩
  rw [Bool.not_eq_true,List.all_eq_false]
  exact ⟨n,hn,by rw [iN,Qw ho];decide⟩
 rw [e]
 simp
theorem l7 {rows:List az} (S:Str->Prop) {n:Str} (hn:n∈rows.map (·.1)) (hS:S n) (h:∀ x,S x->∃ y,ja (bg (rows.map dj)) x=some y/\S y):cf (.tup (rows.map dj))=false:=by
 simp only [cf]
 have:(((bg (rows.map dj)).map (·.1)).all fun n=>jb (ja (bg (rows.map dj))) (rows.map dj).length n)=false:=by
  rw [List.all_eq_false]
  refine ⟨n,by rw [iN];exact hn,?_⟩
  rw [mU (S:=S) h _ _ hS]
  exact Bool.false_ne_true
 rw [this,Bool.and_false]
theorem vR:∀ {rows:List az},(rows.map (·.1)).Nodup->∀ {r:az},r∈rows->ja (bg (rows.map dj)) r.1=ou r.2.dt
 | q::rows,nd,r,hr=>by
  rw [List.map_cons,List.nodup_cons] at nd
  have ih:=vR nd.2 (r:=r)
  unfold ja at ih ⊢
  rw [jS] at ih ⊢
  rw [List.map_cons,List.find?_cons]
  by_cases e:q.1=r.1
  ·rw [Qv e]
   rcases Qp.mp hr with rfl | hr
   ·rfl
   ·exact absurd (List.mem_map.mpr ⟨r,hr,e.symm⟩) nd.1
  ·rw [Qw e]
   rcases Qp.mp hr with rfl | hr
   ·exact absurd rfl e
   ·exact ih hr
def zn (k:Nat):Str:=⟨#[122,122,122,122,97+k / 26,97+k % 26]⟩
theorem xF:∀ k:Fin 210,isName (zn k.val)=true:=by decide+kernel
theorem yY (h:zn i=zn j):i=j:=by
 have h1:(zn i).cps.toList=(zn j).cps.toList:=by rw [h]
 have h2:[122,122,122,122,97+i / 26,97+i % 26]=[122,122,122,122,97+j / 26,97+j % 26]:=h1
 simp only [List.cons.injEq,true_and,and_true] at h2
 omega
theorem oX {rn:List Str} {h:Hd} (hs:∀ n∈ns,n∈rn) (ok:h.ok ns):h.ok rn:=by
 cases h with
 | one s=>exact ok
 | as y=>exact ⟨ok.1,hs _ ok.2⟩
 | way x y=>exact ⟨ok.1,ok.2.1,hs _ ok.2.2.1,hs _ ok.2.2.2⟩
 | prs s ps=>exact ⟨ok.1,fun p hp=>⟨(ok.2.1 p hp).1,(ok.2.1 p hp).2.1,hs _ (ok.2.1 p hp).2.2⟩,ok.2.2.1,ok.2.2.2⟩
structure gy (rows:List az) (ns:List Str):Prop where
 nm:(rows.map (·.1)).Perm ns
 nd:ns.Nodup
 ok:ow ns rows
 ah:∀ r∈rows,yf ns r.1 r.2.nx
 pos:1<=rows.length
 few:rows.length<=14
 l6:∀ n∈ns,n.length≠6
section
variable {rows:List az}
theorem gy.CU (h:gy rows ns):(rows.map (·.1)).Nodup:=h.nm.nodup_iff.mpr h.nd
theorem gy.mem (h:gy rows ns) {r:az} (hr:r∈rows):r.1∈ns:=h.nm.mem_iff.mp (List.mem_map.mpr ⟨r,hr,rfl⟩)
theorem gy.Nv (h:gy rows ns):cf (.tup (rows.map dj))=true:=nD h.nm h.nd h.ok h.ah h.pos (by have:=h.few;omega)
def pq:Str:="nobody"
theorem gy.Nx (h:gy rows ns):pq ∉ ns:=fun z=>h.l6 _ z rfl
theorem gy.w0 (h:gy rows ns) {r:az} (hr:r∈rows):cf (.tup ((rows.take i++(r.1,Hd.one "all")::rows.drop i).map dj))=false:=by
 refine wC fun nd=>?_
 rw [Qm,List.map_cons] at nd
 have p:(List.map (·.1) (rows.take i)++r.1::List.map (·.1) (rows.drop i)).Perm (r.1::rows.map (·.1)):=by
  refine List.perm_middle.trans (List.Perm.cons _ ?_)
  rw [<- Qm,List.take_append_drop]
 rw [p.nodup_iff,List.nodup_cons] at nd
 exact nd.1 (List.mem_map.mpr ⟨r,hr,rfl⟩)
theorem kX (hi:i < rows.length) (hd:Hd):(rows.set i (rows[i].1,hd)).map (·.1)=rows.map (·.1):=by
 rw [List.map_set]
 have e:(rows[i].1,hd).1=(rows.map (·.1))[i]'(by simpa using hi):=by simp
 rw [e,List.set_getElem_self]
theorem gy.w1 (h:gy rows ns) (hi:i < rows.length) {hd:Hd} (hh:pq∈dg hd.dt):cf (.tup ((rows.set i (rows[i].1,hd)).map dj))=false:=by
 refine xJ (r:=(rows[i].1,hd)) (QC (by rw [List.getElem?_set_self hi])) hh ?_
 rw [kX hi,h.nm.mem_iff]
 exact h.Nx
theorem gy.w2 (h:gy rows ns) (hi:i < rows.length):cf (.tup ((rows.set i (rows[i].1,Hd.as rows[i].1)).map dj))=false:=by
 have en:=kX hi (Hd.as rows[i].1)
 have hm:(rows[i].1,Hd.as rows[i].1)∈rows.set i (rows[i].1,Hd.as rows[i].1):=QC (by rw [List.getElem?_set_self hi])
 refine l7 (fun x=>x=rows[i].1) (n:=rows[i].1) (by rw [en];exact List.mem_map.mpr ⟨_,Qj hi,rfl⟩) rfl fun x hx=>?_
 subst hx
 exact ⟨_,vR (by rw [en];exact h.CU) hm,rfl⟩
theorem gy.w3 (h:gy rows ns) {rows':List az} (en:rows'.map (·.1)=rows.map (·.1)) (ha:∀ r∈rows',∃ q∈rows,r.2=.as q.1):cf (.tup (rows'.map dj))=false:=by
 have hl:rows'.length=rows.length:=by have:=congrArg List.length en;simpa using this
 have hp:=h.pos
 have h0:0 < rows'.length:=by omega
 refine l7 (fun x=>x∈rows'.map (·.1)) (n:=rows'[0].1) (List.mem_map.mpr ⟨_,Qj h0,rfl⟩) (List.mem_map.mpr ⟨_,Qj h0,rfl⟩) fun x hx=>?_
 obtain ⟨r,hr,rfl⟩:=List.mem_map.mp hx
 obtain ⟨q,hq,e⟩:=ha r hr
 refine ⟨q.1,?_,by rw [en];exact List.mem_map.mpr ⟨q,hq,rfl⟩⟩
 rw [vR (by rw [en];exact h.CU) hr,e]
 rfl
def jp (n:Str) (m:Nat):List az:=(List.range m).map fun k=>(zn k,Hd.as n)
theorem gy.w4 (h:gy rows ns) {r:az} (hr:r∈rows) {m:Nat} (hm:rows.length+m<=201):ow (ns++(List.range m).map zn) (rows++jp r.1 m)/\cf (.tup ((rows++jp r.1 m).map dj))=decide (rows.length+m < 201):=by
 have hp:=h.pos
 have rf:=h.mem hr
 have yz:=(h.ok r hr).1
 have ok:ow (ns++(List.range m).map zn) (rows++jp r.1 m):=fun q hq=>by
  rcases List.mem_append.mp hq with hq | hq
  ·exact ⟨(h.ok q hq).1,oX (fun n hn=>List.mem_append_left _ hn) (h.ok q hq).2⟩
  ·obtain ⟨k,hk,rfl⟩:=List.mem_map.mp hq
   have Aa:=List.mem_range.mp hk
   exact ⟨xF ⟨k,by omega⟩,yz,List.mem_append_left _ rf⟩
 refine ⟨ok,?_⟩
 have el:(rows++jp r.1 m).length=rows.length+m:=by simp [jp]
 by_cases bc:rows.length+m < 201
 ·rw [Qv bc]
  refine nD (ns:=ns++(List.range m).map zn) ?_ ?_ ok (fun q hq y e=>?_) (by omega) (by omega)
  ·rw [Qm]
   refine h.nm.append ?_
   unfold jp
   rw [Qn]
   exact .refl _
  ·rw [List.nodup_append]
   refine ⟨h.nd,?_,fun a ha b hb z=>?_⟩
   ·exact List.Pairwise.map _ (fun a b ne z=>ne (yY z)) List.nodup_range
   ·obtain ⟨k,_,rfl⟩:=List.mem_map.mp hb
    exact h.l6 a ha (by rw [z];rfl)
  ·have nl:ns.length=rows.length:=by have:=h.nm.length_eq;simpa using this.symm
   rcases List.mem_append.mp hq with hq | hq
   ·obtain ⟨i,j,yj,h1,h2⟩:=h.ah q hq y e
    have l1:=(List.getElem?_eq_some_iff.mp h1).1
    have l2:=(List.getElem?_eq_some_iff.mp h2).1
    exact ⟨i,j,yj,by rw [Qg l1];exact h1,by rw [Qg l2];exact h2⟩
   ·obtain ⟨k,hk,rfl⟩:=List.mem_map.mp hq
    have Aa:=List.mem_range.mp hk
    obtain rfl:r.1=y:=QD e
    obtain ⟨i,hi,ei⟩:=Qi rf
    refine ⟨i,ns.length+k,by omega,by rw [Qg hi,Qa hi,ei],?_⟩
    rw [List.getElem?_append_right (by omega),show ns.length+k - ns.length=k by omega,Qq,List.getElem?_range Aa]
    rfl
 ·rw [Qw bc]
  exact t9 (by rw [Ql];omega)
end
section
variable {xs ys:List V} {rows D9:List az}
theorem k8 (h:RV H xs rows) (h2:RV H ys D9):RV H (xs++ys) (rows++D9):=by
 have l1:=h.len
 have l2:=h2.len
 refine ⟨by simp [l1,l2],fun i a b=>?_⟩
 by_cases z:i < xs.length
 ·rw [Qe z,Qe (show i < rows.length by omega)]
  exact h.at_ i z (by omega)
 ·rw [Qf (by omega),Qf (show rows.length<=i by omega)]
  simp only [<- l1]
  exact h2.at_ (i - xs.length) (by simp at a;omega) (by simp at b;omega)
theorem pO {v:V} {r:az} (e:H b=some (.tup [.str r.1,v])) (hv:HV H v r.2):RV H [.ref b] [r]:=⟨rfl,fun i a c=>by
 have:i=0:=by simpa using a
 subst this
 exact ⟨b,v,rfl,e,hv⟩⟩
theorem x3 (h:RV H xs rows) (n:Nat):RV H (xs.take n) (rows.take n):=⟨by simp [h.len],fun i a b=>by
 rw [List.getElem_take,List.getElem_take]
 exact h.at_ i (by simp at a;omega) (by simp at b;omega)⟩
theorem wF (h:RV H xs rows) (n:Nat):RV H (xs.drop n) (rows.drop n):=⟨by simp [h.len],fun i a b=>by
 rw [List.getElem_drop,List.getElem_drop]
 exact h.at_ (n+i) (by simp at a;omega) (by simp at b;omega)⟩
theorem uM (h:RV H xs rows) (i:Nat) {v:V} {r:az} (e:H b=some (.tup [.str r.1,v])) (hv:HV H v r.2):RV H (xs.set i (.ref b)) (rows.set i r):=⟨by simp [h.len],fun j a c=>by
 rw [List.getElem_set,List.getElem_set]
 by_cases z:i=j
 ·rw [if_pos z]
  refine ⟨b,v,rfl,?_,?_⟩<;>rw [if_pos z]<;>assumption
 ·rw [if_neg z,if_neg z]
  exact h.at_ j (by simpa using a) (by simpa using c)⟩
end
theorem rM (h:j < n):ko n (j:Int)=some j:=by
 unfold ko;rw [if_pos (by omega),if_pos (by omega)];simp
theorem kQ {rows:List az} {rn:List Str} (ok:ow ns rows) (hs:∀ n∈ns,n∈rn) (i:Nat) {r:az} (h1:isName r.1=true) (h2:r.2.ok rn):ow rn (rows.set i r):=fun q hq=>by
 rcases List.mem_or_eq_of_mem_set hq with hq | rfl
 ·exact ⟨(ok q hq).1,oX hs (ok q hq).2⟩
 ·exact ⟨h1,h2⟩
def C_ (rows:List az) (j:Nat):Str:=(rows[j]?.map (·.1)).getD ""
def je (n j:Nat):Nat:=if j=0 then n - 1 else j - 1
def p_ (rows:List az) (n:Nat):List az:=(List.range n).map fun j=>(C_ rows j,Hd.as (C_ rows (je rows.length j)))
theorem mL {rows:List az} (h:j < rows.length):C_ rows j=rows[j].1:=by unfold C_;rw [Qa h];rfl
theorem gX (h:j < n):je n j < n:=by unfold je;split<;>omega
theorem qP (rows:List az):(p_ rows rows.length).map (·.1)=rows.map (·.1):=by
 apply List.ext_getElem
 ·simp [p_]
 ·intro j h1 h2
  have h3:j < rows.length:=by simpa using h2
  simp only [p_,Qr,List.getElem_range]
  exact mL h3
theorem yC {xs:List V} (h:j < xs.length):gb xs ((j:Int) - 1)=xs[je xs.length j]?:=by
 by_cases z:j=0
 ·subst z
  have e:xs=xs.dropLast++[xs.getLast (by intro q;rw [q] at h;simp at h)]:=(List.dropLast_concat_getLast _).symm
  have:je xs.length 0=xs.length - 1:=rfl
  rw [this,<- List.getLast?_eq_getElem?]
  rw [show (((0:Nat):Int) - 1)= -1 by decide]
  conv=>lhs;rw [e]
  rw [vH,List.getLast?_eq_some_getLast]
 ·have:je xs.length j=j - 1:=by unfold je;rw [if_neg z]
  rw [this,show ((j:Int) - 1)=((j - 1:Nat):Int) by omega,Qa (by omega)]
  exact fX (Qa (by omega))
theorem Ny (k:Nat):(QL "zzzz"++(⟨#[97+k / 26]⟩:Str)++(⟨#[97+k % 26]⟩:Str))=zn k:=rfl
theorem ff {a0 a1 a3 a4 a5 a6:Option V} {c way:Int} {u v:TS} {D:Ends} (ne:way≠c) (h:v D [a0,a1,some (.int way),a3,a4,a5,a6] H):qf (BW (zz (qh (Cg false) (tV 2) (tC (V.int c)))) u zq) v D [a0,a1,some (.int way),a3,a4,a5,a6] H:=by
 refine ⟨rfl,_,rfl,di (fun hc=>?_) fun _=>h⟩
 rw [QE] at hc
 exact absurd (V.int.inj (Qt hc)) ne
theorem BN {a0 a1 a3 a4 a5 a6:Option V} {c:Int} {u v:TS} {D:Ends} (h:u {D with nx:=v D} [a0,a1,some (.int c),a3,a4,a5,a6] H):qf (BW (zz (qh (Cg false) (tV 2) (tC (V.int c)))) u zq) v D [a0,a1,some (.int c),a3,a4,a5,a6] H:=by
 refine ⟨rfl,_,rfl,di (fun _=>h) fun hc=>?_⟩
 rw [QE,Qv rfl] at hc
 cases hc
def IA:Sp:=fun vs H Q _=>∃ (p w L:Addr) (way t:Nat) (xs:List V) (rows:List az) (ns:List Str),vs=[.ref p,.ref L,.int way]/\br H p w t/\t+3 < Ad/\H L=some (.lst xs)/\L≠p/\L≠w/\RV H xs rows/\gy rows ns/\way<=5/\
 ∀ (L':Addr) (xs':List V) (rows':List az) (rn:List Str) (H':Hp),H' L'=some (.lst xs')->RV H' xs' rows'->ow rn rows'->1<=rows'.length->rows'.length<=201->cf (.tup (rows'.map dj))=(decide (way=5)||(decide (way=4)&&decide (rows'.length < 201)))->br H' p w (t+3)->(∀ a o,H a=some o->a≠p->a≠w->a≠L->H' a=some o)->Q (.ref L') H'
theorem kB (T:Txt K mg w):av P w K mg base 2 "_law_tspoilt" ["pen","rows","way"] IA:=by
 have aM:av P w K mg base 1 "_law_tdraw" ["pen","many"] x_:=bY T
 refine T.kN.e_ bF (fun vs H Q E h=>?_) (fun f ak A outer s H vs Q E hr h=>?_)
 ·refine hdn fun Gz9 zG9=>?_;obtain ⟨p,w',L,way,t,xs,rows,ns,rfl,_⟩:=h;refine zG9 ?_
  rfl
 ·refine hdn fun Gz9 zG9=>?_;obtain ⟨p,w',L,way,t,xs,rows,ns,rfl,hp,ht,hL,lg,lh,rv,S,Pr,k⟩:=h;refine zG9 ?_
  have yk:t+3 < 1000000000000:=ht
  have hsz:sizeLine=16777216:=QK
  have b_:=Qx (cD hr)
  have few:=S.few
  have pos:=S.pos
  have xl:=rv.len
  refine ⟨_,(aE (aR (i:=3) bF.nd rfl (Or.inl rfl) (bI aM (hr.mono (by decide)) (aC (zv 0) (aZ (aI (aN K) (by rfl) T.fi PySem.boot_len (aC (zv 1) aB)) aB))))
   (aE (aR (i:=4) bF.nd rfl (Or.inr rfl) (cC (cA K) (cC (cA K) (zv 1) (zv 3) (fun _ _=>rfl)) aG (fun _ _=>rfl)))
   (aE (cF (aX (bR b_) (zv 2) aG (cz _)) (aH (eP (i3 K QH PySem.F.slot_list_insert PySem.F.type_list_insert rT (zv 1) (aZ (bI aM (hr.mono (by decide)) (aC (zv 0) (dD (bH aY (aI (aN K) (by rfl) T.fi PySem.boot_len (aC (zv 1) aB)) aG) aB))) (bV (bQ (aC (zv 4) (bV (bQ (aD aK aB)) aB))) aB))))) aV)
   (aE (cF (aX (bR b_) (zv 2) aG (cz _)) (aH (nE (bQ (aC (zv 4) (aL (cC (cA K) (e8 (bV (bQ (aD aK (aD aK aB))) (bV (bQ (aD aK (aC (zv 4) (aD aK aB)))) (bV (bQ (aD aK (bV (bQ (bV (bQ (aD aK (aD aK aB))) aB)) aB))) aB)))) (bI aM (hr.mono (by decide)) (aC (zv 0) (aD aG aB))) (fun _ _=>rfl)) aB))) (u4 (zv 1) (zv 3) kC))) aV)
   (aE (cF (aX (bR b_) (zv 2) aG (cz _)) (aH (nE (bQ (aC (zv 4) (bV (bQ (aD aK (aC (zv 4) aB))) aB))) (u4 (zv 1) (zv 3) kC))) aV)
   (aE (cF (aX (bR b_) (zv 2) aG (cz _)) (aH (aR (i:=1) bF.nd rfl (Or.inr rfl) (fO (own:=["k","row"]) (idx:=[1]) (N':=["k","row","rows"]) (cJ (au cB) (["pen","rows","way","at","name","letters","many"]:List Str) (by decide+kernel)) rfl (jT K (by rfl) T.fL (aC (zv 1) aB)) (fun _ _ _ _ _ _=>(i4 K (n:=2) rfl (bG (aP (i:=0) (show List.Nodup (["k","row","rows"]:List Str) by decide+kernel) rfl (Or.inl rfl)) (bG (aP (i:=1) (show List.Nodup (["k","row","rows"]:List Str) by decide+kernel) rfl (Or.inl rfl)) f7)))) (fun _ _ _ _ _ _=>cT) (fun _ _ _ _ _ _=>(bQ (aL (cC (cA K) (zv 1) aG (fun _ _=>rfl)) (bV (bQ (aD aK (aL (cC (cA K) (cC (cA K) (zv 2) (bH qZ (zv 0) aG) (fun _ _=>rfl)) aG (fun _ _=>rfl)) aB))) aB))))))) aV)
   (aE (cF (aX (bR b_) (zv 2) aG (cz _)) (aE (aR (i:=5) bF.nd rfl (Or.inr rfl) aK)
   (aE (aR (i:=6) bF.nd rfl (Or.inl rfl) (bH qZ (bH aY aG (bI aM (hr.mono (by decide)) (aC (zv 0) (aD aG aB)))) (aI (aN K) (by rfl) T.fi PySem.boot_len (aC (zv 1) aB))))
   (aH (aR (i:=1) bF.nd rfl (Or.inr rfl) (bH aY (zv 1) (fO (own:=["k"]) (idx:=[4,5]) (N':=["k","name","letters"]) (cJ (au cB) (["pen","rows","way","at","name","letters","many"]:List Str) (by decide+kernel)) rfl (iC (by rfl) T.i9 (aC (zv 6) aB)) (fun _ _ _ _ _ _=>(aP (i:=0) (show List.Nodup (["k","name","letters"]:List Str) by decide+kernel) rfl (Or.inl rfl))) (fun _ _ _ _ _ _=>cT) (fun _ _ _ _ _ _=>(bQ (dD (bH aY (bH aY aK (cC (cA K) (zv 2) (bH mK (zv 0) aG) (fun _ _=>rfl))) (cC (cA K) (zv 2) (bH d4 (zv 0) aG) (fun _ _=>rfl))) (bV (bQ (aD aK (aC (zv 1) aB))) aB)))))))))) aV)
   (aH (aS (zv 1)))))))))),?_⟩
  refine aO (.inl ⟨_,.inl (ae.of hL),p,w',_,t,rfl,hp,⟨by omega,by omega⟩,by show t < 1000000000000;omega,fun r H1 a0 a1 bu k_=>?_⟩)
  have jo:=k_ _ _ hL lg lh
  have wj:=rv.tk (hp.ts k_)
  obtain ⟨i,rfl⟩:=Int.eq_ofNat_of_zero_le a0
  have hi:i < rows.length:=by omega
  have Dc:=Qj hi
  have rf:=S.mem Dc
  have yz:=(S.ok _ Dc).1
  obtain ⟨b,hv,r1,r2,r3⟩:=wj.at_ i (by omega) hi
  refine aO ⟨_,.ref b,.inl (ae.of jo),fX (by rw [Qa (by omega),r1]),_,_,.inr (aj.of r2),bB _ _,?_⟩
  have E2:isName pq=true:=by decide+kernel
  have keep:∀ {H':Hp},(∀ a o,H1 a=some o->a≠p->a≠w'->a≠L->H' a=some o)->∀ a o,H a=some o->a≠p->a≠w'->a≠L->H' a=some o:=fun h a o ha n1 n2 n3=>h a o (k_ _ _ ha n1 n2) n1 n2 n3
  rcases (show way=0\/way=1\/way=2\/way=3\/way=4\/way=5 by omega) with rfl | rfl | rfl | rfl | rfl | rfl
  ·refine BN ?_
   refine ⟨.inl ⟨rfl,_,ae.of jo⟩,.inl ⟨_,.inl (ae.of jo),p,w',_,t+1,rfl,bu,⟨by omega,by omega⟩,by show t+1 < 1000000000000;omega,fun j H2 b0 b1 gh gx=>⟨(show 1<=sizeLine by decide),fun c hc=>⟨(show 2<=sizeLine by decide),fun d hd=>?_⟩⟩⟩⟩
   have yw:=gx _ _ jo lg lh
   have sc:=(aa.upd hc (.tup [.str "all"])).trans (aa.upd hd (.tup [.str rows[i].1,.ref c]))
   have g1:upd (upd H2 c (.tup [.str "all"])) d (.tup [.str rows[i].1,.ref c]) d=some (.tup [.str rows[i].1,.ref c]):=aA
   have g2:upd (upd H2 c (.tup [.str "all"])) d (.tup [.str rows[i].1,.ref c]) c=some (.tup [.str "all"]):=(aa.upd hd _) _ _ aA
   dsimp only
   generalize upd (upd H2 c (.tup [.str "all"])) d (.tup [.str rows[i].1,.ref c])=H3 at sc g1 g2
   have rm:=sc _ _ yw
   refine ⟨L,xs,j,.ref d,rfl,rfl,rm,b0,by omega,by omega,?_⟩
   refine ff (by decide) (ff (by decide) (ff (by decide) (ff (by decide) ?_)))
   generalize min j.toNat xs.length=n
   have tk:∀ ys,Tk H3 (upd H3 L (.lst ys)):=fun ys=>(Tk.refl).set rm (by intro _ z;cases z)
   have IB:=wj.tk (((bu.ts gx).trans sc.ts).trans (tk (xs.take n++.ref d::xs.drop n)))
   refine k L _ (rows.take n++(rows[i].1,Hd.one "all")::rows.drop n) ns _ aA (k8 (x3 IB n) (k8 (xs:=[.ref d]) (rows:=[(rows[i].1,Hd.one "all")]) (pO (tk _ _ _ g1) (.one (tk _ _ _ g2))) (wF IB n))) (fun q hq=>?_) ?_ ?_ (S.w0 Dc) (((gh.same sc).upd lg lh).mono (by omega)) (keep fun a o ha n1 n2 n3=>by rw [aF n3];exact sc _ _ (gx _ _ ha n1 n2))
   ·rcases List.mem_append.mp hq with hq | hq
    ·exact S.ok q (List.mem_of_mem_take hq)
    ·rcases Qp.mp hq with rfl | hq
     ·exact ⟨yz,.inl rfl⟩
     ·exact S.ok q (List.mem_of_mem_drop hq)
   ·simp;omega
   ·simp;omega
  ·refine ff (by decide) (BN ?_)
   refine ⟨(show 2<=sizeLine by decide),fun c1 h1=>⟨(show 3<=sizeLine by decide),fun c2 h2=>⟨(show 2<=sizeLine by decide),fun c3 h3=>⟨(show 1<=sizeLine by decide),fun c4 h4=>⟨(show 2<=sizeLine by decide),fun c5 h5=>⟨(show 3<=sizeLine by decide),fun c6 h6=>?_⟩⟩⟩⟩⟩⟩
   have s5:=((((aa.upd h1 (.tup [.str "as",.str "nobody"])).trans (aa.upd h2 (.tup [.str "way",.str rows[i].1,.str "nobody"]))).trans (aa.upd h3 (.tup [.str "a",.str "nobody"]))).trans (aa.upd h4 (.tup [.ref c3]))).trans (aa.upd h5 (.tup [.str "pick",.ref c4]))
   have s6:=s5.trans (aa.upd h6 (.lst [.ref c1,.ref c2,.ref c5]))
   have n6:c6≠p/\c6≠w':=⟨(bu.same s5).ne1 h6,(bu.same s5).ne2 h6⟩
   have q1:=((((((aa.upd h2 (.tup [.str "way",.str rows[i].1,.str "nobody"]))).trans (aa.upd h3 (.tup [.str "a",.str "nobody"]))).trans (aa.upd h4 (.tup [.ref c3]))).trans (aa.upd h5 (.tup [.str "pick",.ref c4]))).trans (aa.upd h6 (.lst [.ref c1,.ref c2,.ref c5]))) _ _ (aA (H:=H1) (a:=c1) (o:=.tup [.str "as",.str "nobody"]))
   have q2:=(((((aa.upd h3 (.tup [.str "a",.str "nobody"]))).trans (aa.upd h4 (.tup [.ref c3]))).trans (aa.upd h5 (.tup [.str "pick",.ref c4]))).trans (aa.upd h6 (.lst [.ref c1,.ref c2,.ref c5]))) _ _ (aA (H:=upd H1 c1 (.tup [.str "as",.str "nobody"])) (a:=c2) (o:=.tup [.str "way",.str rows[i].1,.str "nobody"]))
   have q3:=((((aa.upd h4 (.tup [.ref c3]))).trans (aa.upd h5 (.tup [.str "pick",.ref c4]))).trans (aa.upd h6 (.lst [.ref c1,.ref c2,.ref c5]))) _ _ (aA (H:=upd (upd H1 c1 (.tup [.str "as",.str "nobody"])) c2 (.tup [.str "way",.str rows[i].1,.str "nobody"])) (a:=c3) (o:=.tup [.str "a",.str "nobody"]))
   have q4:=(((aa.upd h5 (.tup [.str "pick",.ref c4]))).trans (aa.upd h6 (.lst [.ref c1,.ref c2,.ref c5]))) _ _ (aA (H:=upd (upd (upd H1 c1 (.tup [.str "as",.str "nobody"])) c2 (.tup [.str "way",.str rows[i].1,.str "nobody"])) c3 (.tup [.str "a",.str "nobody"])) (a:=c4) (o:=.tup [.ref c3]))
   have q5:=(aa.upd h6 (.lst [.ref c1,.ref c2,.ref c5])) _ _ (aA (H:=upd (upd (upd (upd H1 c1 (.tup [.str "as",.str "nobody"])) c2 (.tup [.str "way",.str rows[i].1,.str "nobody"])) c3 (.tup [.str "a",.str "nobody"])) c4 (.tup [.ref c3])) (a:=c5) (o:=.tup [.str "pick",.ref c4]))
   have q6:upd (upd (upd (upd (upd (upd H1 c1 (.tup [.str "as",.str "nobody"])) c2 (.tup [.str "way",.str rows[i].1,.str "nobody"])) c3 (.tup [.str "a",.str "nobody"])) c4 (.tup [.ref c3])) c5 (.tup [.str "pick",.ref c4])) c6 (.lst [.ref c1,.ref c2,.ref c5]) c6=some (.lst [.ref c1,.ref c2,.ref c5]):=aA
   dsimp only
   generalize upd (upd (upd (upd (upd (upd H1 c1 (.tup [.str "as",.str "nobody"])) c2 (.tup [.str "way",.str rows[i].1,.str "nobody"])) c3 (.tup [.str "a",.str "nobody"])) c4 (.tup [.ref c3])) c5 (.tup [.str "pick",.ref c4])) c6 (.lst [.ref c1,.ref c2,.ref c5])=Ha at s6 q1 q2 q3 q4 q5 q6
   refine ⟨p,w',3,t+1,rfl,bu.same s6,⟨by decide,by decide⟩,by show t+1 < 1000000000000;omega,fun j H2 b0 b1 gh gx=>?_⟩
   have Nz:=bu.same s6
   have ts:=Nz.ts gx
   have NB:=gx _ _ q6 n6.1 n6.2
   have yw:=gx _ _ (s6 _ _ jo) lg lh
   obtain ⟨hd,b,hb,hv,hok,NC⟩:∃ (hd:Hd) (b:Addr),gb ([.ref c1,.ref c2,.ref c5]:List V) j=some (.ref b)/\HV H2 (.ref b) hd/\hd.ok (pq::ns)/\pq∈dg hd.dt:=by
    rcases (show j=0\/j=1\/j=2 by omega) with rfl | rfl | rfl
    ·exact ⟨.as pq,c1,rfl,.as (ts _ _ q1),⟨E2,by simp⟩,by decide⟩
    ·refine ⟨.way rows[i].1 pq,c2,rfl,.way (ts _ _ q2),⟨yz,E2,Qh _ rf,by simp⟩,?_⟩
     show pq∈[rows[i].1,pq]
     simp
    ·refine ⟨.prs "pick" [("a",pq)],c5,rfl,.prs (ts _ _ q5) (ts _ _ q4) ⟨rfl,fun z a _=>?_⟩,⟨.inr rfl,fun q hq=>?_,rfl,by simp⟩,by decide⟩
     ·have:z=0:=by simpa using a
      subst this
      exact ⟨c3,rfl,ts _ _ q3⟩
     ·rw [List.mem_singleton.mp hq]
      exact ⟨by decide+kernel,E2,by simp⟩
   refine ⟨_,.ref b,.inl (ae.of NB),hb,(show 2<=sizeLine by decide),fun d AI=>?_⟩
   have sc:=aa.upd AI (.tup [.str rows[i].1,.ref b])
   have g1:upd H2 d (.tup [.str rows[i].1,.ref b]) d=some (.tup [.str rows[i].1,.ref b]):=aA
   generalize upd H2 d (.tup [.str rows[i].1,.ref b])=H3 at sc g1
   have rm:=sc _ _ yw
   refine ⟨L,xs,i,i,rfl,rfl,rm,rM (by omega),?_⟩
   refine ff (by decide) (ff (by decide) (ff (by decide) ?_))
   have tk:∀ ys,Tk H3 (upd H3 L (.lst ys)):=fun ys=>(Tk.refl).set rm (by intro _ z;cases z)
   refine k L _ (rows.set i (rows[i].1,hd)) (pq::ns) _ aA (uM (wj.tk (((s6.ts.trans ts).trans sc.ts).trans (tk _))) i (tk _ _ _ g1) (hv.tk (sc.ts.trans (tk _)))) (kQ S.ok (fun _ h=>Qh _ h) i yz hok) (by simp;omega) (by simp;omega) (S.w1 hi NC) (((gh.same sc).upd lg lh).mono (by omega)) (keep fun a o ha n1 n2 n3=>by rw [aF n3];exact sc _ _ (gx _ _ (s6 _ _ ha) n1 n2))
  ·refine ff (by decide) (ff (by decide) (BN ?_))
   refine ⟨(show 2<=sizeLine by decide),fun c hc=>⟨(show 2<=sizeLine by decide),fun d hd=>?_⟩⟩
   have sc:=(aa.upd hc (.tup [.str "as",.str rows[i].1])).trans (aa.upd hd (.tup [.str rows[i].1,.ref c]))
   have g1:upd (upd H1 c (.tup [.str "as",.str rows[i].1])) d (.tup [.str rows[i].1,.ref c]) d=some (.tup [.str rows[i].1,.ref c]):=aA
   have g2:upd (upd H1 c (.tup [.str "as",.str rows[i].1])) d (.tup [.str rows[i].1,.ref c]) c=some (.tup [.str "as",.str rows[i].1]):=(aa.upd hd _) _ _ aA
   dsimp only
   generalize upd (upd H1 c (.tup [.str "as",.str rows[i].1])) d (.tup [.str rows[i].1,.ref c])=H3 at sc g1 g2
   have rm:=sc _ _ jo
   refine ⟨L,xs,i,i,rfl,rfl,rm,rM (by omega),?_⟩
   refine ff (by decide) (ff (by decide) ?_)
   have tk:∀ ys,Tk H3 (upd H3 L (.lst ys)):=fun ys=>(Tk.refl).set rm (by intro _ z;cases z)
   refine k L _ (rows.set i (rows[i].1,Hd.as rows[i].1)) ns _ aA (uM (wj.tk (sc.ts.trans (tk _))) i (tk _ _ _ g1) (.as (tk _ _ _ g2))) (kQ S.ok (fun _ h=>h) i yz ⟨yz,rf⟩) (by simp;omega) (by simp;omega) (S.w2 hi) (((bu.same sc).upd lg lh).mono (by omega)) (keep fun a o ha n1 n2 n3=>by rw [aF n3];exact sc _ _ ha)
  ·refine ff (by decide) (ff (by decide) (ff (by decide) (BN ?_)))
   refine ⟨L,xs,rfl,ae.of jo,fun D hD=>?_⟩
   have Pu:D≠L:=fun z=>by rw [z,jo] at hD;cases hD
   have sD:=aa.upd hD (.lst [])
   refine qT (jW xs) (fun j τ H'=>∃ (v0 v1:Option V) (ys:List V),τ=[v0,v1,some (.ref L)]/\H' D=some (.lst ys)/\RV H' ys (p_ rows j)/\aa H1 H') ⟨none,none,[],rfl,aA,⟨rfl,fun j h=>absurd h (by simp)⟩,sD⟩ (by rintro j τ H' _ ⟨_,_,_,_,_,_,s⟩;exact ae.of (s _ _ jo)) ?_ ?_
   ·rintro j τ H2 T0 hj ⟨v0,v1,ys,rfl,g1,g2,g3⟩ vz
    have y_:j < rows.length:=by omega
    have Pw:=gX y_
    have sT:=aa.upd vz (.tup [.int (j:Int),xs.getD j .af])
    obtain ⟨bj,Px,e1,e2,_⟩:=wj.at_ j hj y_
    obtain ⟨bp,Py,e3,e4,_⟩:=wj.at_ (je rows.length j) (by rw [xl];exact gX y_) (gX y_)
    have ej:xs.getD j .af=.ref bj:=by rw [Qb,Qa hj,<- e1];rfl
    rw [ej] at sT ⊢
    have uo:=g3.trans sT
    have gD:=sT _ _ g1
    generalize upd H2 T0 (.tup [.int (j:Int),.ref bj])=H3 at sT uo gD
    have ep:=yC (xs:=xs) hj
    rw [show je xs.length j=je rows.length j by rw [xl],Qa (by rw [xl];exact gX y_),e3] at ep
    refine ⟨_,_,.inr (aj.of (uo _ _ e2)),bB _ _,_,_,.inl (ae.of (uo _ _ jo)),ep,_,_,.inr (aj.of (uo _ _ e4)),bB _ _,(show 2<=sizeLine by decide),fun c hc=>⟨(show 2<=sizeLine by decide),fun d hd=>?_⟩⟩
    have sc:=(aa.upd hc (.tup [.str "as",.str rows[je rows.length j].1])).trans (aa.upd hd (.tup [.str rows[j].1,.ref c]))
    have q1:upd (upd H3 c (.tup [.str "as",.str rows[je rows.length j].1])) d (.tup [.str rows[j].1,.ref c]) d=some (.tup [.str rows[j].1,.ref c]):=aA
    have q2:upd (upd H3 c (.tup [.str "as",.str rows[je rows.length j].1])) d (.tup [.str rows[j].1,.ref c]) c=some (.tup [.str "as",.str rows[je rows.length j].1]):=(aa.upd hd _) _ _ aA
    dsimp only
    generalize upd (upd H3 c (.tup [.str "as",.str rows[je rows.length j].1])) d (.tup [.str rows[j].1,.ref c])=H4 at sc q1 q2
    have BO:=sc _ _ gD
    have tk:Tk H4 (upd H4 D (.lst (ys++[.ref d]))):=(Tk.refl).set BO (by intro _ z;cases z)
    have yl:=g2.len
    have Pz:ys.length=j:=by rw [yl];simp [p_]
    refine ⟨ys,BO,by omega,_,_,ys++[.ref d],rfl,aA,?_,(uo.trans sc).put hD⟩
    have er:p_ rows (j+1)=p_ rows j++[(rows[j].1,Hd.as rows[je rows.length j].1)]:=by
     unfold p_
     rw [List.range_succ,Qm,List.map_singleton,mL y_,mL (gX y_)]
    rw [er]
    exact k8 (g2.tk (((sT.trans sc).ts).trans tk)) (pO (tk _ _ q1) (.as (tk _ _ q2)))
   ·rintro τ H2 ⟨v0,v1,ys,rfl,g1,g2,g3⟩
    rw [xl] at g2
    refine ff (by decide) ?_
    have hk:∀ r∈p_ rows rows.length,∃ q∈rows,r.2=.as q.1:=fun r hr=>by
     obtain ⟨j,hj,rfl⟩:=List.mem_map.mp hr
     have yn:=List.mem_range.mp hj
     exact ⟨_,Qj (gX yn),by show Hd.as _=_;rw [mL (gX yn)]⟩
    have d_:(p_ rows rows.length).length=rows.length:=by simp [p_]
    refine k D ys _ ns _ g1 g2 (fun r hr=>?_) (by omega) (by omega) (S.w3 (qP rows) hk) ((bu.same g3).mono (by omega)) (keep fun a o ha _ _ _=>g3 _ _ ha)
    obtain ⟨q,hq,e⟩:=hk r hr
    have hm:r.1∈rows.map (·.1):=by rw [<- qP];exact List.mem_map.mpr ⟨r,hr,rfl⟩
    obtain ⟨q',Ai,e'⟩:=List.mem_map.mp hm
    refine ⟨by rw [<- e'];exact (S.ok q' Ai).1,by rw [e];exact ⟨(S.ok q hq).1,S.mem hq⟩⟩
  ·refine ff (by decide) (ff (by decide) (ff (by decide) (ff (by decide) (BN ?_))))
   refine kT ?_
   refine aO ⟨p,w',3,t+1,rfl,bu,⟨by decide,by decide⟩,by show t+1 < 1000000000000;omega,fun j H2 b0 b1 gh gx=>.inl ⟨_,.inl (ae.of (gx _ _ jo lg lh)),?_⟩⟩
   have yw:=gx _ _ jo lg lh
   have Af:=wj.tk (bu.ts gx)
   obtain ⟨m,hm⟩:∃ m:Nat,(199+j - ((xs.length:Nat):Int))=(m:Int):=⟨(199+j - ((xs.length:Nat):Int)).toNat,by omega⟩
   have ND:rows.length+m<=201:=by omega
   refine ⟨_,rfl,by omega,by omega,fun D hD=>?_⟩
   have sD:=aa.upd hD (.lst [])
   rw [show (199+j - ((xs.length:Nat):Int)).toNat=m by omega]
   refine hZ (fY 0 m) (fun n τ H'=>∃ (v0:Option V) (ys:List V),τ=[v0,some (.str rows[i].1),some (.str fq)]/\H' D=some (.lst ys)/\RV H' ys (jp rows[i].1 n)/\aa H2 H') ⟨none,[],rfl,aA,⟨rfl,fun j h=>absurd h (by simp)⟩,sD⟩ (fun _ _ _ _ _=>True.intro) ?_ ?_
   ·rintro n τ H3 hn ⟨v0,ys,rfl,g1,g2,g3⟩
    have e1:gb fq.cps.toList ((0+(n:Int)) / 26)=some (97+n / 26):=by
     have:=EG (n / 26)
     rw [show ((n / 26:Nat):Int) % 26=(0+(n:Int)) / 26 by omega,show n / 26 % 26=n / 26 by omega] at this
     exact this
    have e2:gb fq.cps.toList ((0+(n:Int)) % 26)=some (97+n % 26):=by
     have:=EG n
     rw [show ((n:Int)) % 26=(0+(n:Int)) % 26 by omega] at this
     exact this
    refine ⟨⟨by decide,by decide⟩,by decide,_,e1,(show 4+1<=sizeLine by decide),by decide,by decide,_,e2,(show 5+1<=sizeLine by decide),(show 2<=sizeLine by decide),fun c hc=>⟨(show 2<=sizeLine by decide),fun d hd=>?_⟩⟩
    rw [Ny]
    have sc:=(aa.upd hc (.tup [.str "as",.str rows[i].1])).trans (aa.upd hd (.tup [.str (zn n),.ref c]))
    have q1:upd (upd H3 c (.tup [.str "as",.str rows[i].1])) d (.tup [.str (zn n),.ref c]) d=some (.tup [.str (zn n),.ref c]):=aA
    have q2:upd (upd H3 c (.tup [.str "as",.str rows[i].1])) d (.tup [.str (zn n),.ref c]) c=some (.tup [.str "as",.str rows[i].1]):=(aa.upd hd _) _ _ aA
    dsimp only
    generalize upd (upd H3 c (.tup [.str "as",.str rows[i].1])) d (.tup [.str (zn n),.ref c])=H4 at sc q1 q2
    have BO:=sc _ _ g1
    have tk:Tk H4 (upd H4 D (.lst (ys++[.ref d]))):=(Tk.refl).set BO (by intro _ z;cases z)
    have yl:ys.length=n:=by rw [g2.len];simp [jp]
    refine ⟨ys,BO,by omega,_,ys++[.ref d],rfl,aA,?_,(g3.trans sc).put hD⟩
    have er:jp rows[i].1 (n+1)=jp rows[i].1 n++[(zn n,Hd.as rows[i].1)]:=by
     unfold jp
     rw [List.range_succ,Qm,List.map_singleton]
    rw [er]
    exact k8 (g2.tk (sc.ts.trans tk)) (pO (r:=(zn n,Hd.as rows[i].1)) (tk _ _ q1) (.as (tk _ _ q2)))
   ·rintro τ H3 ⟨v0,ys,rfl,g1,g2,g3⟩
    have yl:ys.length=m:=by rw [g2.len];simp [jp]
    refine ⟨xs,ys,g3 _ _ yw,g1,by omega,fun L2 NE=>?_⟩
    have s4:=aa.upd NE (.lst (xs++ys))
    obtain ⟨NF,NG⟩:=S.w4 Dc ND
    have l4:(rows++jp rows[i].1 m).length=rows.length+m:=by simp [jp]
    refine k L2 _ (rows++jp rows[i].1 m) _ _ aA ((k8 (Af.tk g3.ts) g2).tk s4.ts) NF (by omega) (by omega) (by rw [NG,l4];simp) (((gh.same g3).same s4).mono (by omega)) (keep fun a o ha n1 n2 _=>s4 _ _ (g3 _ _ (gx _ _ ha n1 n2)))
  ·refine ff (by decide) (ff (by decide) (ff (by decide) (ff (by decide) (ff (by decide) ?_))))
   exact k L xs rows ns H1 jo wj S.ok pos (by omega) S.Nv (bu.mono (by omega)) (keep fun a o ha _ _ _=>ha)
theorem k9:∀ ps:List (Str×Str),fm (ps.flatMap fun p=>[p.1,p.2])=ps.map fun p=>[p.1,p.2]
 | []=>rfl
 | p::ps=>by
  have:=k9 ps
  rw [List.flatMap_cons,List.map_cons,<- this]
  rfl
theorem tZ {h:Hd} (ok:h.ok ns):lj h.words=h.dt:=by
 have NH:∀ z:Str,isName z=true->gw z=false/\(("all":Str)==z||(("none":Str)==z||(("way":Str)==z||false)))=false:=fun z hz=>by
  unfold isName at hz
  simp only [Bool.and_eq_true,Bool.not_eq_true',oj,List.any_cons,List.any_nil,Bool.or_eq_false_iff] at hz
  refine hdn fun Gz9 zG9=>?_;obtain ⟨⟨⟨_,_⟩,a1,a2,a3,a4,a5,_⟩,_⟩:=hz;refine zG9 ?_
  refine ⟨?_,by rw [a1,a2,a3];rfl⟩
  unfold gw
  have b4:(z==("box":Str))=false:=by rw [beq_eq_false_iff_ne] at a4 ⊢;exact fun e=>a4 e.symm
  have b5:(z==("pick":Str))=false:=by rw [beq_eq_false_iff_ne] at a5 ⊢;exact fun e=>a5 e.symm
  rw [b4,b5];rfl
 cases h with
 | one s=>rcases ok with rfl | rfl<;>rfl
 | as y=>
  obtain ⟨h1,h2⟩:=NH y ok.1
  show lj [y]=_
  rw [lj,if_neg (by rw [h1];decide),if_neg (by rw [h2];decide)]
  rfl
 | way x y=>rfl
 | prs s ps=>
  show lj (s::ps.flatMap fun p=>[p.1,p.2])=_
  rw [lj,if_pos (by rcases ok.1 with rfl | rfl<;>decide),k9,Qn]
  rfl
section
variable {r:az} (h1:isName r.1=true) (h2:r.2.ok ns)
include h1 h2
theorem vS:gm (eu r)=dj r:=by
 have es:Txt.split (eu r) (QL " ")=r.1::"="::r.2.words:=kF h1 h2
 have h0:1<=r.2.words.length:=by cases r.2<;>simp [Hd.words]
 unfold gm yx
 rw [es,if_neg (by simp;omega),if_pos (by rfl)]
 show Dt.tup [.str r.1,lj r.2.words]=_
 rw [tZ h2]
 rfl
theorem w5:ip (eu r)=true:=by
 unfold ip
 rw [vS h1 h2]
 show gj (.tup [.str r.1,r.2.dt])=true
 have h3:dc (.str r.1)=true:=h1
 simp only [gj,Bool.and_eq_true]
 exact ⟨h3,(Hd.pure h2).1⟩
theorem NI:yy (eu r):=by
 have es:Txt.split (eu r) (QL " ")=r.1::"="::r.2.words:=kF h1 h2
 have wl:=iQ h2
 refine ⟨by have:=nF h1 h2;omega,by rw [es];simp;omega,fun z hz=>?_⟩
 rw [es] at hz
 have:=(dL h1 h2 z hz).2
 omega
end
def wk:List Str:=["","x","x =","x = pick a","= all","x all","x = box b a a b","none = all"]
theorem rD:∀ z∈wk,ip z=false/\10 ∉ z.cps.toList/\z.length<=20/\(Txt.split z (QL " ")).length<=20/\∀ y∈Txt.split z (QL " "),y.length<=20:=by decide+kernel
theorem zO (h:z∈wk):yy z:=by
 obtain ⟨_,_,a,b,c⟩:=rD z h
 exact ⟨by omega,by omega,fun y hy=>by have:=c y hy;omega⟩
theorem rP {ls:List Str} (h0:ls≠[]) (hl:ls.length<=300) (h:∀ p∈ls,10 ∉ p.cps.toList/\p.length<=207):Txt.split (Txt.join (QL "\n") ls) (QL "\n")=ls/\(Txt.join (QL "\n") ls).length<=1000000:=by
 refine ⟨jL (c:=10) h0 fun p hp=>(h p hp).1,?_⟩
 have:=nV (sep:=QL "\n") (m:=207) fun p hp=>(h p hp).2
 have h5:(QL "\n":Str).length=1:=rfl
 rw [h5] at this
 have:=Nat.mul_le_mul_right (207+1) hl
 omega
def jf:Dt->PyData
 | .str z=>.str z
 | .tup ds=>.tuple (AB ds)
 | .bx=>.none
where AB:List Dt->List PyData
 | []=>[]
 | d::ds=>jf d::AB ds
theorem jF:∀ ds:List Dt,jf.AB ds=ds.map jf
 | []=>rfl
 | d::ds=>by rw [jf.AB,jF ds,List.map_cons]
theorem zJ {v:V} {d:Dt} (h:TX H v d):fb H v (jf d):=by
 induction h with
 | str h=>exact .str _
 | tup e hl hn _ ih=>
  rw [jf,jF]
  refine .tup e (by simpa using hl) fun i h1 h2=>?_
  simp only [Qr]
  exact ih i h1 (by simpa using h2)
theorem NJ (h:Hd):jf h.dt=h.py:=by
 cases h with
 | prs s ps=>
  show jf (.tup [.str s,.tup (ps.map fun p=>.tup [.str p.1,.str p.2])])=_
  simp only [jf,jf.AB,jF,Qn,Hd.py]
  rfl
 | one s=>rfl
 | as y=>rfl
 | way x y=>rfl
theorem NK (r:az):jf (dj r)=Bo r:=by
 show jf (.tup [.str r.1,r.2.dt])=_
 simp only [jf,jf.AB,NJ]
 rfl
theorem g8 (h:isName z=true):Wd z:=by
 refine ⟨by have:=gQ h;omega,fun c hc=>?_⟩
 unfold isName at h
 simp only [Bool.and_eq_true] at h
 have ha:=QF.mp h.2 c hc
 rw [sX] at ha
 have:=uR c (Qt ha)
 omega
theorem NL {xs:List V} {rows:List az} (rv:RV H xs rows) (ok:ow ns rows):∀ x∈xs,TB H x 4 16553:=fun x hx=>by
 obtain ⟨i,hi,rfl⟩:=Qi hx
 have rh:i < rows.length:=by rw [<- rv.len];exact hi
 obtain ⟨b,v,q1,q2,q3⟩:=rv.at_ i hi rh
 obtain ⟨o1,o2⟩:=ok _ (Qj rh)
 rw [q1]
 have tv:TB H v 3 8273:=by
  have lit:∀ {z:Str},Wd z->∀ {k n:Nat},202<=n->TB H (.str z) k n:=fun h k n hn=>(TB.str h).mono (by omega) hn
  generalize rows[i].2=hd at q3 o2
  cases q3 with
  | one e=>
   refine (TB.tup (k:=0) (n:=202) e fun y hy=>?_).mono (by omega) (by simp)
   rw [List.mem_singleton.mp hy]
   exact TB.str (by rcases o2 with rfl | rfl<;>exact dA (by decide) (by decide))
  | as e=>
   refine (TB.tup (k:=0) (n:=202) e fun y hy=>?_).mono (by omega) (by simp)
   simp only [Qp,QA,or_false] at hy
   rcases hy with rfl | rfl
   ·exact TB.str (dA (by decide) (by decide))
   ·exact TB.str (g8 o2.1)
  | way e=>
   refine (TB.tup (k:=0) (n:=202) e fun y hy=>?_).mono (by omega) (by simp)
   simp only [Qp,QA,or_false] at hy
   rcases hy with rfl | rfl | rfl
   ·exact TB.str (dA (by decide) (by decide))
   ·exact TB.str (g8 o2.1)
   ·exact TB.str (g8 o2.2.1)
  | @prs b c s ys ps e e' pv=>
   have Cr:=o2.2.2.2
   refine (TB.tup (k:=2) (n:=4133) e fun y hy=>?_).mono (by omega) (by simp)
   simp only [Qp,QA,or_false] at hy
   rcases hy with rfl | rfl
   ·exact lit (by rcases o2.1 with rfl | rfl<;>exact dA (by decide) (by decide)) (by omega)
   ·refine (TB.tup (k:=1) (n:=411) e' fun y hy=>?_).mono (by omega) (by rw [pv.len];omega)
    obtain ⟨j,hj,rfl⟩:=Qi hy
    obtain ⟨c',w1,w2⟩:=pv.at_ j hj (by rw [<- pv.len];exact hj)
    obtain ⟨m1,m2,_⟩:=o2.2.1 _ (Qj (by rw [<- pv.len];exact hj))
    rw [w1]
    refine (TB.tup (k:=0) (n:=202) w2 fun y hy=>?_).mono (by omega) (by simp)
    simp only [Qp,QA,or_false] at hy
    rcases hy with rfl | rfl
    ·exact TB.str (g8 m1)
    ·exact TB.str (g8 m2)
 refine (TB.tup (k:=3) (n:=8273) q2 fun y hy=>?_).mono (by omega) (by simp)
 simp only [Qp,QA,or_false] at hy
 rcases hy with rfl | rfl
 ·exact (TB.str (g8 o1)).mono (by omega) (by omega)
 ·exact tv
theorem uD {j : Nat} (h : j < 1000) : (QL (toString ((j : Nat) : Int))).length <= 202 /\ ((j : Nat) : Int).natAbs.log2 < 1920 := by
  have hl : ((j : Nat) : Int).natAbs.log2 < 64 := by
    by_cases z : ((j : Nat) : Int).natAbs = 0
    · rw [z]; decide
    · exact (Nat.log2_lt z).mpr (by have : 1000 < 2 ^ 64 := by decide
                                    omega)
  refine ⟨?_, by omega⟩
  rw [PySem.ofString_length]
  have := int_text_length_le (k := 64) (by decide) hl
  omega
theorem zL (T:Txt K mg w):av P w K mg base 10 "law" ["script"] (DT K):=by
 have qA:av P w K mg base 1 "_law_tpen" ["script"] (Gg K):=o5 T
 have aM:av P w K mg base 1 "_law_tdraw" ["pen","many"] x_:=bY T
 have eU:av P w K mg base 2 "_law_tnames" ["pen","many"] EH:=gF T
 have jK:av P w K mg base 4 "_law_ttelling" ["pen","most","words","sorts"] HL:=j8 T
 have kO:av P w K mg base 2 "_law_tspoilt" ["pen","rows","way"] IA:=kB T
 have lJ:av P w K mg base 1 "_law_tlines" ["told"] H_:=kM T
 have eG:av P w K mg base 6 "is_telling" ["thing"] (spT cf):=gC T
 have iV:av P w K mg base 8 "_law_tread" ["text"] Iz:=lN T
 refine T.G4.e_ dE (fun vs H Q E h=>?_) (fun f ak A outer s H vs Q E hr h=>?_)
 ·obtain ⟨a,ns,rfl,_⟩:=h
  rfl
 ·obtain ⟨a,ns,rfl,hS,hl,k⟩:=h
  have hu:=cD hr
  have b_:=Qx (cD hr)
  have hsz:sizeLine=16777216:=QK
  refine ⟨_,(aE (aR (i:=1) dE.nd rfl (Or.inl rfl) (bI qA (hr.mono (by decide)) (aC (zv 0) aB)))
   (aE (aR (i:=2) dE.nd rfl (Or.inl rfl) (bI eU (hr.mono (by decide)) (aC (zv 1) (aD aG aB))))
   (aE (i0 PassesOwn.never rfl (nU K (e8 (aD aG (aD aG (aD aG (aD aG (aD aG (aD aG aB)))))))) (aP (i:=3) dE.nd rfl (Or.inl rfl)) (aE (aR (i:=4) dE.nd rfl (Or.inl rfl) (bT (l9 K) (by rfl) T.vQ PyProof.Rows.boot_list (aZ (bI jK (hr.mono (by decide)) (aC (zv 1) (aD aG (aC (zv 2) (wG (e8 (aD aK (aD aK (aD aK (aD aK (aD aK (aD aK aB))))))) aB))))) aB)))
   (aE (aR (i:=4) dE.nd rfl (Or.inl rfl) (bI kO (hr.mono (by decide)) (aC (zv 1) (aC (zv 4) (aC (zv 3) aB)))))
   (aE (aR (i:=5) dE.nd rfl (Or.inl rfl) (bI lJ (hr.mono (by decide)) (aC (zv 4) aB)))
   (aE (aR (i:=6) dE.nd rfl (Or.inl rfl) (KZ (dG (bR b_) (zv 3) aG (cz _)) (iU (gE (dG (bR b_) (zv 3) aG (cz _)) (iU (dG lZ (aI (aN K) (by rfl) T.fi PySem.boot_len (aC (zv 4) aB)) aG (cz _)))))))
   (aE (aR (i:=7) dE.nd rfl (Or.inl rfl) (qO (f9 (zv 6)) (bT (bX K) (by rfl) T.bS QG (aC (zv 4) aB)) aK))
   (aE (cF (nB (aX (gY b_) (aI (cP hr.gd hr.units) (by rfl) T.iI PyProof.Rows.boot_repr (aZ (bI eG (hr.mono (by decide)) (aZ (bT (bX K) (by rfl) T.bS QG (aC (zv 4) aB)) aB)) aB)) (aI (cP hr.gd hr.units) (by rfl) T.iI PyProof.Rows.boot_repr (aC (zv 6) aB)) (cz _)) (iT (aX (gY b_) (aI (cP hr.gd hr.units) (by rfl) T.iI PyProof.Rows.boot_repr (aZ (bI iV (hr.mono (by decide)) (aZ (i3 K PySem.F.plainAttrs_str PySem.F.slot_str_join PySem.F.type_str_join (iB K) aK (aC (zv 5) aB)) aB)) aB)) (aI (cP hr.gd hr.units) (by rfl) T.iI PyProof.Rows.boot_repr (aC (zv 7) aB)) (cz _)))).pt (aH (aS iG)) aV)
   (aE (aR (i:=8) dE.nd rfl (Or.inl rfl) (bI aM (hr.mono (by decide)) (aC (zv 1) (dD (bH aY (aI (aN K) (by rfl) T.fi PySem.boot_len (aC (zv 5) aB)) aG) aB))))
   (aE (aR (i:=9) dE.nd rfl (Or.inl rfl) (cC (cA K) (e8 (aD aK (aD aK (aD aK (aD aK (aD aK (aD aK (aD aK (aD aK aB))))))))) (bI aM (hr.mono (by decide)) (aC (zv 1) (aD aG aB))) (fun _ _=>rfl)))
   (aH (cF (aX (gY b_) (aI (cP hr.gd hr.units) (by rfl) T.iI PyProof.Rows.boot_repr (aZ (bI iV (hr.mono (by decide)) (aZ (i3 K PySem.F.plainAttrs_str PySem.F.slot_str_join PySem.F.type_str_join (iB K) aK (dD (bH aY (bH aY (d5 (lU K) (zv 5) dX (cS (zv 8))) (e8 (aC (zv 9) aB))) (d5 (lU K) (zv 5) (cS (zv 8)) dX)) aB)) aB)) aB)) (aI (cP hr.gd hr.units) (by rfl) T.iI PyProof.Rows.boot_repr (aC (zv 8) aB)) (cz _)) (aH (aS iG)) aV)))))))))))
   (aH (aS iG))))),?_⟩
  refine aO ⟨a,ns,rfl,hS,hl,fun p w' H1 hp hw E3 same=>?_⟩
  refine aO ⟨p,w',3,_,rfl,E3,⟨by decide,by decide⟩,by decide,fun wd ws H2 ph hL z_ EO wc gh gx=>?_⟩
  have tw:f_ H2 wd ws:=⟨hL,by intro e;rw [e] at z_;simp at z_,by omega,fun z hz=>(wc z hz).2.1⟩
  have PB:wd≠p:=E3.ne1 ph
  have PD:wd≠w':=E3.ne2 ph
  refine bL (fun σ' H'=>∃ (v3 v4 v5 v6 v7 v8 v9:Option V),σ'=[some (.ref a),some (.ref p),some (.ref wd),v3,v4,v5,v6,v7,v8,v9]) ?_ (by rintro σ' H' ⟨v3,v4,v5,v6,v7,v8,v9,e⟩;exact k H')
  intro nx gf
  refine ⟨(show 6<=sizeLine by decide),fun W hW=>?_⟩
  have sW:=aa.upd hW (.lst [.int 0,.int 1,.int 2,.int 3,.int 4,.int 5])
  have gW:upd H2 W (.lst [.int 0,.int 1,.int 2,.int 3,.int 4,.int 5]) W=some (.lst [.int 0,.int 1,.int 2,.int 3,.int 4,.int 5]):=aA
  have BK:W≠p:=gh.ne1 hW
  have E4:W≠w':=gh.ne2 hW
  have IC:=gh.same sW
  have ID:=tw.same sW
  dsimp only
  generalize upd H2 W (.lst [.int 0,.int 1,.int 2,.int 3,.int 4,.int 5])=H3 at sW gW IC ID
  refine Or.inl ⟨⟨_,ae.of gW⟩,eZ (D:={nx:=nx,rt:=Q}) (cM [.int 0,.int 1,.int 2,.int 3,.int 4,.int 5]) (fun i σ' H'=>∃ (v3 v4 v5 v6 v7 v8 v9:Option V),σ'=[some (.ref a),some (.ref p),some (.ref wd),v3,v4,v5,v6,v7,v8,v9]/\br H' p w' (20+2000*i)/\f_ H' wd ws/\H' W=some (.lst [.int 0,.int 1,.int 2,.int 3,.int 4,.int 5])) ⟨none,none,none,none,none,none,none,rfl,IC,ID,gW⟩ (by rintro i τ H' _ ⟨_,_,_,_,_,_,_,_,_,_,g⟩;exact ae.of g) ?_ (by rintro σ' H' ⟨v3,v4,v5,v6,v7,v8,v9,e,_⟩;exact gf _ _ ⟨v3,v4,v5,v6,v7,v8,v9,e⟩)⟩
  rintro i σ' H4 hi z0;refine hdn fun Gz9 zG9=>?_;obtain ⟨v3,v4,v5,v6,v7,v8,v9,rfl,mw,za,NN⟩:=z0;refine zG9 ?_
  have PF:i < 6:=hi
  have ei:([.int 0,.int 1,.int 2,.int 3,.int 4,.int 5]:List V).getD i .af=.int (i:Int):=by
   rcases (show i=0\/i=1\/i=2\/i=3\/i=4\/i=5 by omega) with rfl | rfl | rfl | rfl | rfl | rfl<;>rfl
  rw [ei]
  refine aO ⟨(show 6<=sizeLine by decide),fun so hso=>?_⟩
  have s5:=aa.upd hso (.lst ((["all","none","way","box","pick","as"]:List Str).map V.str))
  have NO:f_ (upd H4 so (.lst ((["all","none","way","box","pick","as"]:List Str).map V.str))) so ["all","none","way","box","pick","as"]:=⟨aA,by decide,by decide,fun z hz=>by
   simp only [Qp,QA,or_false] at hz
   rcases hz with rfl | rfl | rfl | rfl | rfl | rfl<;>exact dA (by decide) (by decide)⟩
  have tm:(20+2000*i+1000:Nat)+1000 < 1000000000000:=by omega
  refine ⟨p,w',wd,so,6,20+2000*i,ws,_,rfl,mw.same s5,by show 20+2000*i+1000 < 1000000000000;omega,⟨by decide,by decide⟩,za.same s5,by omega,⟨EO,fun z hz=>(wc z hz).1⟩,NO,fun z hz=>hz,fun a1 xs rows NP H6 rt l6 PJ um yu=>?_⟩
  refine ⟨a1,xs,rfl,.inr (aj.of rt.at_),fun L zb=>?_⟩
  have s7:=aa.upd zb (.lst xs)
  have gL:upd H6 L (.lst xs) L=some (.lst xs):=aA
  have lg:=um.ne1 zb
  have lh:=um.ne2 zb
  have AD:=mw.wy za.e za.ne
  have IE:=yu _ _ (s5 _ _ za.e) AD.1 AD.2
  have IF:=yu _ _ (s5 _ _ NN) BK E4
  have NQ:wd≠L:=fun z=>by rw [<- z,IE] at zb;cases zb
  have NR:W≠L:=fun z=>by rw [<- z,IF] at zb;cases zb
  have C6:=um.same s7
  have IG:=rt.tk s7.ts
  have II:=s7 _ _ IE
  have IJ:=s7 _ _ IF
  dsimp only
  generalize upd H6 L (.lst xs)=H7 at s7 gL C6 IG II IJ
  have rl:=rt.rl
  have PK:=rt.pos
  have PL:=rt.few
  refine aO ⟨p,w',L,i,20+2000*i+1000,xs,rows,NP,rfl,C6,by show 20+2000*i+1000+3 < 1000000000000;omega,gL,lg,lh,IG.rv,⟨rt.nm,rt.nd,rt.ok,rt.ah,by omega,by omega,l6⟩,by omega,fun L' xs' rows' rn H8 IK E5 kc IL NS Dd NT IM=>?_⟩
  have NU:=IM _ _ II AD.1 AD.2 NQ
  have NV:=IM _ _ IJ BK E4 NR
  refine aO ⟨L',xs',rows',rn,rfl,.inl IK,E5,kc,by omega,fun Ln H9 PM s9 E6=>?_⟩
  have NW:=E5.len
  have E7:=s9 _ _ IK
  have IP:=E5.tk s9.ts
  have NX:=NT.same s9
  have NY:=s9 _ _ NU
  have NZ:=s9 _ _ NV
  generalize hG:(decide (i=5)||(decide (i=4)&&decide (rows'.length < 201)))=G at Dd
  refine bL (fun σ' H'=>σ'=[some (.ref a),some (.ref p),some (.ref wd),some (.int (i:Int)),some (.ref L'),some (.ref Ln),some (.bl G),v7,v8,v9]/\H9=H') ?_ ?_
  ·intro rg fz
   refine ⟨rfl,_,rfl,di (fun h5=>?_) (fun h5=>⟨rfl,_,rfl,di (fun h4=>.inl ⟨_,.inl (ae.of E7),?_⟩) (fun h4=>?_)⟩)⟩
   ·rw [QE,bC] at h5
    have:i=5:=by have:=Qt h5;omega
    refine fz _ _ ⟨?_,rfl⟩
    rw [<- hG,this];rfl
   ·rw [QE,bC] at h5 h4
    have e4:i=4:=by have:=Qt h4;omega
    refine fz _ _ ⟨?_,rfl⟩
    rw [<- hG,e4,NW]
    have:decide (((rows'.length:Nat):Int) < 201)=decide (rows'.length < 201):=decide_eq_decide.mpr (by omega)
    rw [this];rfl
   ·rw [QE,bC] at h5 h4
    have n5:i≠5:=by have:=Qu h5;omega
    have n4:i≠4:=by have:=Qu h4;omega
    refine fz _ _ ⟨?_,rfl⟩
    rw [<- hG,Qw n5,Qw n4];rfl
  rintro σ' H' ⟨rfl,rfl⟩
  refine bL (fun σ' H'=>∃ du:V,σ'=[some (.ref a),some (.ref p),some (.ref wd),some (.int (i:Int)),some (.ref L'),some (.ref Ln),some (.bl G),some du,v8,v9]/\aa H9 H'/\(G=true->∃ a2,du=.ref a2/\H' a2=some (.tup xs'))/\(G=false->du=.str "none")) ?_ ?_
  ·intro rg fz
   refine ⟨G,rfl,di (fun h=>⟨L',xs',rfl,.inl ⟨ae.of E7,fun a2 h2=>?_⟩⟩) (fun h=>?_)⟩
   ·exact fz _ _ ⟨_,rfl,aa.upd h2 _,fun _=>⟨a2,rfl,aA⟩,fun z=>by rw [h] at z;cases z⟩
   ·exact fz _ _ ⟨_,rfl,aa.refl _,fun z=>(by rw [h] at z;cases z),fun _=>rfl⟩
  rintro σ' Hb ⟨du,rfl,sb,N1,N2⟩
  have es:(rows'.map eu).map gm=rows'.map dj:=by
   rw [Qn]
   exact List.map_congr_left fun r hr=>vS (kc r hr).1 (kc r hr).2
  have N3:jf (.tup (rows'.map dj))=.tuple (rows'.map Bo):=by
   rw [jf,jF,Qn]
   exact congrArg _ (List.map_congr_left fun r _=>NK r)
  have wm:∀ l∈rows'.map eu,ip l=true/\yy l/\10 ∉ l.cps.toList/\l.length<=207:=fun l hl=>by
   obtain ⟨r,hr,rfl⟩:=List.mem_map.mp hl
   exact ⟨w5 (kc r hr).1 (kc r hr).2,NI (kc r hr).1 (kc r hr).2,rS (kc r hr).1 (kc r hr).2,nF (kc r hr).1 (kc r hr).2⟩
  have E8:rows'.map eu≠[]:=fun z=>by have:=congrArg List.length z;simp at this;rw [this] at IL;simp at IL
  refine bL (fun σ' H'=>σ'=[some (.ref a),some (.ref p),some (.ref wd),some (.int (i:Int)),some (.ref L'),some (.ref Ln),some (.bl G),some du,v8,v9]/\aa H9 H') ?_ ?_
  ·intro rg fz
   refine ⟨L',xs',rfl,.inl ⟨ae.of (sb _ _ E7),fun a3 h3=>?_⟩⟩
   have sc:=aa.upd h3 (.tup xs')
   have g3:upd Hb a3 (.tup xs') a3=some (.tup xs'):=aA
   dsimp only
   generalize upd Hb a3 (.tup xs')=Hc at sc g3
   have N4:=(IP.tk (sb.ts.trans sc.ts)).tx g3 (by omega) kc
   refine ⟨.ref a3,_,rfl,N4.dd,fun PN sd=>?_⟩
   rw [Dd]
   have AE:∀ b:Bool,(PyData.bool b).showable=true/\(PyData.bool b).shown.length<=sizeLine/\(PyData.bool b).depth<=60:=fun b=>by
    cases b<;>exact ⟨by simp [PyData.showable],by rw [hsz];simp only [PyData.shown];decide,by simp [PyData.depth]⟩
   refine ⟨fun _=>True,true,_,_,_,rfl,.bl G,(AE G).1,(AE G).2.1,(AE G).2.2,⟨fun _=>True,true,_,_,_,rfl,.bl G,(AE G).1,(AE G).2.1,(AE G).2.2,rfl,_,rfl,?_⟩⟩
   refine di (fun h=>?_) (fun _=>?_)
   ·rw [Qv rfl] at h;cases h
   have sD:=(sb.trans sc).trans sd
   have N5:(rows'.map eu).length<=201:=by rw [Ql];exact NS
   obtain ⟨N6,N7⟩:=rP E8 (by omega) (fun l hl=>(wm l hl).2.2)
   refine ⟨rfl,rows'.map eu,ae.of (sD _ _ E6),?_,?_⟩
   ·have h1:=m8 (ys:=rows'.map eu) (m:=207) fun l hl=>(wm l hl).2.2.2
    have h2:(QL "\n").length=1:=rfl
    have h3:=Nat.mul_le_mul_right 207 N5
    rw [h2];omega
   have N8:∀ {z:Str},z.length<=20->(∀ c∈z.cps.toList,c < 128)->(PyData.str z).showable=true/\(PyData.str z).shown.length<=sizeLine/\(PyData.str z).depth<=60:=fun {z} hz hc=>by
    refine ⟨by simp [PyData.showable],?_,by simp [PyData.depth]⟩
    simp only [PyData.shown]
    have:=StrLaws.reprText_len z (fun c h=>Nat.lt_of_lt_of_le (hc c h) (by decide))
    omega
   refine ⟨_,_,rfl,N6,N7,by omega,fun l hl=>(wm l hl).2.1,fun j hj hb _=>?_,fun _ ht Hf sf=>?_,fun _ ht v Hf sf tx=>?_⟩
   ·rw [(wm _ (Qj hj)).1] at hb;cases hb
   ·rw [es,Dd] at ht
    obtain rfl:=N2 ht
    obtain ⟨r1,r2,r3⟩:=N8 (z:="none") (by decide) (by decide)
    refine ⟨fun _=>True,true,_,_,_,rfl,.str (by decide),r1,r2,r3,⟨fun _=>True,true,_,_,_,rfl,.str (by decide),r1,r2,r3,rfl,_,rfl,?_⟩⟩
    refine di (fun h=>?_) (fun _=>fz _ _ ⟨rfl,sD.trans sf⟩)
    rw [Qv rfl] at h;cases h
   ·rw [es] at tx ht
    rw [Dd] at ht
    obtain ⟨a2,rfl,N9⟩:=N1 ht
    have IQ:=(sc.trans sd).trans sf
    have E9:=IP.tk ((sb.trans IQ).ts)
    have E_:=IQ _ _ N9
    have N_:=E9.tx E_ (by omega) kc
    have dn:=E9.D8 E_
    have Oa:fb Hf v (.tuple (rows'.map Bo)):=by rw [<- N3];exact zJ tx
    obtain ⟨d,t1,t2,t3,t4,t5⟩:=TB.tup E_ (NL E9 kc)
    obtain rfl:=t1.inj dn
    have IR:(PyData.tuple (rows'.map Bo)).shown.length<=sizeLine:=by
     have:=Nat.mul_le_mul_right (16553+2) (show xs'.length<=201 by omega)
     omega
    refine ⟨fun _=>True,true,_,_,_,rfl,DA.of (fun _ _ _=>True.intro) tx Oa,t4,IR,by omega,⟨fun _=>True,true,_,_,_,rfl,DA.of (fun _ _ _=>True.intro) N_ dn,t4,IR,by omega,rfl,_,rfl,?_⟩⟩
    refine di (fun h=>?_) (fun _=>fz _ _ ⟨rfl,sD.trans sf⟩)
    rw [Qv rfl] at h;cases h
  ·rintro σ' He ⟨rfl,se⟩
   have IS:=NX.same se
   have De:=se _ _ E6
   refine aO (.inl ⟨_,.inl (ae.of De),p,w',_,20+2000*i+1003,rfl,IS,⟨by rw [Ql];omega,by rw [Ql,Ql];omega⟩,by show 20+2000*i+1003 < 1000000000000;omega,fun r Hf r0 r1 hpf IT=>?_⟩)
   have Df:=IS.wy De (by simpa using E8)
   have IU:=IT _ _ De Df.1 Df.2
   obtain ⟨n,rfl⟩:=Int.eq_ofNat_of_zero_le r0
   have hn:n<=rows'.length:=by rw [Ql,Ql] at r1;omega
   refine aO ⟨(show 8<=sizeLine by decide),fun B hB=>?_⟩
   have sB:=aa.upd hB (.lst (wk.map V.str))
   have gB:upd Hf B (.lst (wk.map V.str)) B=some (.lst (wk.map V.str)):=aA
   have Ob:=hpf.same sB
   have Oc:=hpf.ne1 hB
   have Od:=hpf.ne2 hB
   refine ⟨p,w',8,20+2000*i+1004,rfl,Ob,⟨by decide,by decide⟩,by show 20+2000*i+1004 < 1000000000000;omega,fun q Hg q0 q1 Oe Fb=>?_⟩
   have Of:=Fb _ _ gB Oc Od
   have Fc:=Fb _ _ (sB _ _ IU) Df.1 Df.2
   obtain ⟨z,Og,Be⟩:∃ z,gb (wk.map V.str) q=some (.str z)/\z∈wk:=by
    obtain ⟨c,jx,BF⟩:=i7 (wk.map V.str) q q0 (by rw [Ql];exact q1)
    obtain ⟨z,hz,rfl⟩:=List.mem_map.mp (QC jx)
    exact ⟨z,BF,hz⟩
   obtain ⟨zg,Oh,zl,_,_⟩:=rD z Be
   refine ⟨_,_,.inl (ae.of Of),Og,?_⟩
   have Gq:(rows'.map eu).length=rows'.length:=Ql _
   generalize rows'.map eu=ls at wm E8 Fc IU De E6 Gq
   have c1:dz (ls.map V.str) none (some (n:Int))=(ls.take n).map V.str:=by rw [uJ,List.map_take]
   have c2:dz (ls.map V.str) (some (n:Int)) none=(ls.drop n).map V.str:=by rw [eB,List.map_drop]
   refine ⟨rfl,(n:Int),rfl,Or.inr (Or.inl ⟨Ln,_,rfl,ae.of Fc,fun p1 bu=>?_⟩)⟩
   rw [c1]
   refine ⟨(show 1<=sizeLine by decide),fun p2 gh=>?_⟩
   have IV:=(aa.upd bu (.lst ((ls.take n).map V.str))).trans (aa.upd gh (.lst [.str z]))
   have g1:upd (upd Hg p1 (.lst ((ls.take n).map V.str))) p2 (.lst [.str z]) p1=some (.lst ((ls.take n).map V.str)):=(aa.upd gh _) _ _ aA
   have g2:upd (upd Hg p1 (.lst ((ls.take n).map V.str))) p2 (.lst [.str z]) p2=some (.lst [.str z]):=aA
   dsimp only
   generalize upd (upd Hg p1 (.lst ((ls.take n).map V.str))) p2 (.lst [.str z])=Hh at IV g1 g2
   refine ⟨_,_,g1,g2,by simp;omega,fun p3 rj=>?_⟩
   have IW:=aa.upd rj (.lst ((ls.take n).map V.str++[.str z]))
   have g3:upd Hh p3 (.lst ((ls.take n).map V.str++[.str z])) p3=some (.lst ((ls.take n).map V.str++[.str z])):=aA
   dsimp only
   generalize upd Hh p3 (.lst ((ls.take n).map V.str++[.str z]))=Hi at IW g3
   have IX:=IV.trans IW
   refine ⟨(n:Int),rfl,Or.inr (Or.inl ⟨Ln,_,rfl,ae.of (IX _ _ Fc),fun p4 mw=>?_⟩)⟩
   rw [c2]
   have Fd:=aa.upd mw (.lst ((ls.drop n).map V.str))
   have g4:upd Hi p4 (.lst ((ls.drop n).map V.str)) p4=some (.lst ((ls.drop n).map V.str)):=aA
   dsimp only
   generalize upd Hi p4 (.lst ((ls.drop n).map V.str))=Hj at Fd g4
   refine ⟨_,_,Fd _ _ g3,g4,by simp;omega,fun p5 BH=>?_⟩
   have uo:=aa.upd BH (.lst (((ls.take n).map V.str++[.str z])++(ls.drop n).map V.str))
   have g5:upd Hj p5 (.lst (((ls.take n).map V.str++[.str z])++(ls.drop n).map V.str)) p5=some (.lst (((ls.take n).map V.str++[.str z])++(ls.drop n).map V.str)):=aA
   rw [show ((ls.take n).map V.str++[.str z])++(ls.drop n).map V.str=(ls.take n++z::ls.drop n).map V.str by simp] at uo g5 ⊢
   dsimp only
   generalize upd Hj p5 (.lst ((ls.take n++z::ls.drop n).map V.str))=Hk at uo g5
   have Oi:=((IX.trans Fd).trans uo)
   have Fe:∀ l∈ls.take n++z::ls.drop n,yy l/\10 ∉ l.cps.toList/\l.length<=207:=fun l hl=>by
    rcases List.mem_append.mp hl with hl | hl
    ·exact (wm l (List.mem_of_mem_take hl)).2
    ·rcases Qp.mp hl with rfl | hl
     ·exact ⟨zO Be,Oh,by omega⟩
     ·exact (wm l (List.mem_of_mem_drop hl)).2
   have EC:(ls.take n++z::ls.drop n).length<=202:=by simp;omega
   obtain ⟨Oj,Ol⟩:=rP (ls:=ls.take n++z::ls.drop n) (by simp) (by omega) (fun l hl=>(Fe l hl).2)
   refine ⟨_,ae.of g5,?_,?_⟩
   ·have h1:=m8 (ys:=ls.take n++z::ls.drop n) (m:=207) fun l hl=>(Fe l hl).2.2
    have h2:(QL "\n").length=1:=rfl
    have h3:=Nat.mul_le_mul_right 207 EC
    rw [h2];omega
   have IY:z∈ls.take n++z::ls.drop n:=by simp
   have Om:(ls.take n).length=n:=by rw [List.length_take];omega
   refine ⟨_,_,rfl,Oj,Ol,by omega,fun l hl=>(Fe l hl).1,fun j hj hb Eb Hl sl=>?_,fun hg _ Hl sl=>?_,fun hg _ v Hl sl _=>?_⟩
   ·have ez:(ls.take n++z::ls.drop n)[n]'(by simp;omega)=z:=by
     rw [Qf (by omega)]
     simp [Om]
    have Oo:j=n:=by
     rcases Nat.lt_trichotomy j n with h | h | h
     ·rw [Qe (by omega),List.getElem_take,(wm _ (Qj _)).1] at hb
      cases hb
     ·exact h
     ·have:=Eb n (by simp;omega) h
      rw [ez,zg] at this
      cases this
    subst Oo
    obtain ⟨pd,d0,IZ,PU,we,I_⟩:=(DB.int (P:=fun _=>True) (H:=Hl) (m:=true) (i:=(j:Int)) (uD (by omega)).1 (uD (by omega)).2).ex
    refine ⟨fun _=>True,true,_,_,_,rfl,IZ,I_,by omega,by omega,⟨fun _=>True,true,_,_,_,rfl,IZ,I_,by omega,by omega,rfl,_,rfl,?_⟩⟩
    refine di (fun h=>?_) (fun _=>?_)
    ·rw [Qv rfl] at h;cases h
    ·have Ja:=Oi.trans sl
     have step:∀ {b:Addr} {o:HO},H9 b=some o->b≠p->b≠w'->Hl b=some o:=fun hb n1 n2=>Ja _ _ (Fb _ _ (sB _ _ (IT _ _ (se _ _ hb) n1 n2)) n1 n2)
     exact ⟨_,_,_,_,_,_,_,rfl,(Oe.same Ja).mono (by omega),⟨step NY AD.1 AD.2,za.ne,za.few,za.wd⟩,step NZ BK E4⟩
   ·have:=hg z IY;rw [zg] at this;cases this
   ·have:=hg z IY;rw [zg] at this;cases this
end
abbrev pw:=PySem.Challenge.pw_coilkind_k07_rows_that_are_no_telling
abbrev qa:=PySem.Challenge.rw_coilkind_k07_rows_that_are_no_telling
def view:Program:={pw with main:={pw.main with body:=([1,2,3,5,6,7,8,9,11,12,13,14,15,16,17,18,19,20,21,22,24,25,26,28,29,30,31,32,33,34,35,36,37]:List Nat).filterMap fun i=>pw.main.body[i]?}}
def fns:List (Str×Stmt):=[⟨"is_name",fV⟩,⟨"are_rising",cL⟩,⟨"is_telling",bW⟩,⟨"heads_of",eJ⟩,⟨"is_row",jZ⟩,⟨"is_head",fW⟩,⟨"is_pairs",d9⟩,⟨"is_pair",iP⟩,⟨"names_in",eW⟩,⟨"has_rows",eC⟩,⟨"leads_out",fP⟩,⟨"read_telling",dM⟩,⟨"read_row",gU⟩,⟨"read_head",dU⟩,⟨"_law_tpen",eE⟩,⟨"_law_tdraw",fM⟩,⟨"_law_tnames",cW⟩,⟨"_law_tpairs",cI⟩,⟨"_law_thead",fK⟩,⟨"_law_ttelling",dI⟩,⟨"_law_tlines",eO⟩,⟨"_law_tspoilt",cB⟩,⟨"_law_tread",fT⟩,⟨"law",j3⟩]
def vals:List (Str×V):=[⟨"LETTERS",.str "abcdefghijklmnopqrstuvwxyz"⟩,⟨"LONGEST",.int 8⟩,⟨"MOST_ROWS",.int 200⟩]
def tups:List (Str×List V):=[⟨"NO_NAMES",[.str "all",.str "none",.str "way",.str "box",.str "pick"]⟩,⟨"WORDED",[.str "box",.str "pick"]⟩]
def Jb:List (Str×List jz):=[⟨"NAMES_BEHIND",[⟨"all",.inl (.int 0)⟩,⟨"none",.inl (.int 0)⟩,⟨"way",.inl (.int 2)⟩,⟨"as",.inl (.int 1)⟩]⟩]
def Oq:List Str:=["len","isinstance","all","range","str","list","tuple","sorted","repr","enumerate","zip"]
def Jc:List ue:=[⟨"CoilError","CoilError.__init__",none,[]⟩,⟨"NoText","NoText.__init__",some dY,["number"]⟩,⟨"NoTelling","NoTelling.__init__",none,[]⟩]
def subs:List (Str×Str×Bool):=[("NoText","NoText",true),("NoText","NoTelling",false),("NoTelling","NoText",false),("NoTelling","NoTelling",true)]
def look (K:QZ):=(vj (without K []) fns,Cw (without K []) vals,CD (without K []) tups,Ei (without K []) Jb,Al (without K []) Oq,Aq (without K []) Jc,CS (without K []) subs)
def want (w:World):=(vm fns,Cy vals,CF tups,Ej w Jb,true,Ar Jc,CT subs)
theorem Ot (w:World):(PySem.W.openEnds treeTable pw (w.withFollow "special-get-raises" false) 3152).map (fun s=>(PySem.W.openSeen view ["NAMES_BEHIND"] (PySem.importedModules pw.main.body) (fun s=>PySem.W.xlAt view [] s&&PySem.W.recOk [] s) true s,(mi look want).obs s))=some (PySem.W.openGood view ["NAMES_BEHIND"],(mi look want).val (w.withFollow "special-get-raises" false)):=by kernel_rfl
theorem Ou (w:World):(PySem.W.openEnds treeTable pw (w.withFollow "special-get-raises" true) 3152).map (fun s=>(PySem.W.openSeen view ["NAMES_BEHIND"] (PySem.importedModules pw.main.body) (fun s=>PySem.W.xlAt view [] s&&PySem.W.recOk [] s) true s,(mi look want).obs s))=some (PySem.W.openGood view ["NAMES_BEHIND"],(mi look want).val (w.withFollow "special-get-raises" true)):=by kernel_rfl
theorem xC {K:QZ} (X:K.In h) (G:h.Ns mainGlobals mg) (e:look K=want w):Txt (without K []) mg w:=by
 have X':=pC (as:=[]) X
 obtain ⟨eF,e⟩:=Prod.mk.inj e
 obtain ⟨eV,e⟩:=Prod.mk.inj e
 obtain ⟨eT,e⟩:=Prod.mk.inj e
 obtain ⟨eD,e⟩:=Prod.mk.inj e
 obtain ⟨eN,e⟩:=Prod.mk.inj e
 obtain ⟨eX,e⟩:=Prod.mk.inj e
 have eS:=e
 obtain ⟨Ov,PV,Ow,Ox,kD⟩:=LS X' G (nS eD 0 (x:="NAMES_BEHIND") rfl) rfl (by decide+kernel)
 obtain ⟨PX,rfl,Oz⟩:=xK Ox
 obtain ⟨PY,rfl,OA⟩:=xK Oz
 obtain ⟨PZ,rfl,OB⟩:=xK OA
 obtain ⟨P0,rfl,OC⟩:=xK OB
 obtain rfl:=LR OC
 exact ⟨nn X' G eN 0,
  nn X' G eN 1,
  nn X' G eN 2,
  nn X' G eN 3,
  nn X' G eN 4,
  nn X' G eN 5,
  nn X' G eN 6,
  nn X' G eN 7,
  nn X' G eN 8,
  nn X' G eN 9,
  nn X' G eN 10,
  vl X' G eV 0,
  vl X' G eV 1,
  tu X' G eT 0,
  vl X' G eV 2,
  ⟨Ov,Ow,kD⟩,
  tu X' G eT 1,
  jc X' G eF 0,
  jc X' G eF 1,
  jc X' G eF 2,
  jc X' G eF 3,
  jc X' G eF 4,
  jc X' G eF 5,
  jc X' G eF 6,
  jc X' G eF 7,
  jc X' G eF 8,
  CG X' G eF 9,
  CG X' G eF 10,
  jc X' G eF 11,
  jc X' G eF 12,
  jc X' G eF 13,
  jc X' G eF 14,
  CG X' G eF 15,
  CG X' G eF 16,
  GF X' G eF 17,
  GG X' G eF 18,
  GG X' G eF 19,
  jc X' G eF 20,
  GF X' G eF 21,
  jc X' G eF 22,
  jc X' G eF 23,
  vM X' G eX 0,
  Mp X' G eX 1,
  vM X' G eX 2,
  lM X' G eS 0,
  lM X' G eS 1,
  lM X' G eS 2,
  lM X' G eS 3⟩
def zc:DefRec:=⟨"law",jv j3,gv j3,au j3,(match j3 with | .FunctionDef _ _ _ _ _ _ _ _ _ p=>p | _=>⟨0,0,0,0⟩)⟩
theorem walk:PySem.W.WalkO view ["NAMES_BEHIND"] XP (mi look want).says qa.row.toRowW zc [] (fun f vs=>PySem.call f vs):=
 qN (l:=qa) (st:=j3) (k:=10) rfl rfl ⟨rfl,by decide,by decide,rfl⟩ rfl (by intros;rfl) fun w mg h K X e G=>have T:=xC X G e;⟨T.G4,fun base=>zL T⟩
theorem hdef:PySem.W.defOf view qa.row.name=some (zc,[]):=by kernel_rfl
theorem hprog:qa.row.prog.theDef qa.row.name=some (zc.params,zc.body,zc.scope):=by kernel_rfl
theorem hkw:PySem.W.kwWritten? zc.params.kwonlyargs zc.params.kw_defaults=some []:=by kernel_rfl
theorem hok:(PySem.W.chainsOk view&&PySem.W.opensWell qa.row.prog&&(PySem.W.frees qa.row.toRowW&&qa.row.within.isEmpty))=true:=by kernel_rfl
theorem hbare:qa.row.prog.bare:=⟨rfl,rfl,rfl,rfl,rfl,by decide+kernel⟩
theorem OD:qa.row.toRowW.promised:=by w_witness2
theorem said:qa.wellSaid=true:=by
 refine wN (p:=pw) rfl ?_ ?_ ?_ ?_ ?_ ?_ ?_ ?_ ?_ ?_ ?_ ?_ ?_ ?_ ?_ ?_ ?_ ?_ ?_ ?_ ?_ ?_ ?_ ?_ ?_ ?_ ?_ ?_<;>kernel_rfl
end T1
open PySem PySem.W PyProof.Rows L2
set_option maxRecDepth 100000 in
set_option maxHeartbeats 0 in
theorem PySem.Challenge.cw_coilkind_k07_rows_that_are_no_telling_holds : PySem.Challenge.rw_coilkind_k07_rows_that_are_no_telling.Holds := by
 refine PySem.W.holds_law T1.said fun said=>?_
 exact PySem.W.holds_open (q:=T1.view) (loose:=["NAMES_BEHIND"]) (Xt:=fun s=>xlAt T1.view [] s&&recOk [] s) (XP:=XL T1.view []) (Yf:=(mi T1.look T1.want).obs) (Ya:=(mi T1.look T1.want).val) (YP:=(mi T1.look T1.want).says) (N:=3152)
  (vT "special-get-raises" T1.Ot T1.Ou) (mi T1.look T1.want).of (mi T1.look T1.want).keeps (fun s e=>xl_of s (Bool.and_eq_true_iff.mp e).1) XL.keeps T1.hdef T1.hprog T1.hkw (fun s e=>recFacts_of (Bool.and_eq_true_iff.mp e).2) rfl (by assumption) T1.hok T1.hbare T1.OD T1.walk
