import PyProof.Rows.All
import Wide.All
import OpenK.AllK
import Wide.FinOn
import Lean
import PyProof.EqAt
import PyProof.EqKinds
import PyProof.TupleCall
import PyProof.DictCompW
import PyProof.AutoListH
import PyProof.EnumMake
import PyProof.ZipIter
import PyProof.AttrMissSeq
import KE.KDictOf
import PyProof.ReprLen
import PyProof.StrLawsRepr
import KE.KUnpackStar
import PyProof.DictWalks
import PyProof.Rows.DictUnroll
import PyProof.Rows.Range3
import PyProof.Rows.ChunkEnd
import PyProof.Rows.ChunkLeaf
import PyProof.StrCalls2
import PyProof.StrLawsTight
import PyProof.StrLawsChain
import PyProof.Rows.StrSplitJoin
import PyProof.Conv_int_bool
import PyProof.Rows.TupMore
import PyProof.Rows.SetFrom
import PyProof.SetRoads
import KE.KRevIter
import PyProof.CollectIter
import PyProof.TupleOfGen
import KE.KItemsList
import PyProof.NeKinds
import PyProof.StrLawsIn
import PyProof.Rows.StrCut
import PyProof.StrCalls
import PyProof.CallFns
import PyProof.FString5
import PyProof.NsCount
import PyProof.DictItems
import KE.KPairComp
import PyProof.DictValues
import PyProof.SumWalk
import PyProof.ConsumeWalk
import PyProof.SumAny
import PyProof.FactsAll.range_2
import PyProof.WalksMore
import PyProof.MinMaxWalk
import PyProof.SeqI3
import KE.KDictList
import KE.KDictLaws
import KE.KSortTup
import KE.KDictSum
import KE.KStrOpen
import PyProof.ExcClass3
import PyProof.ExcInit
import OpenK.KMake
import OpenK.KCls
import PyProof.InstStoreFacts
import PyProof.StationsW
import PyProof.RulesAs
import PyProof.NsDelKeeps
import PyProof.ExcAttrAll.ValueError
import PyProof.Rows.FStr
import PyProof.SetKind
import PyProof.TupleKey
import PyProof.IsRules
import KE.KMinKey
import KE.KIsAll
import PySem.Challenge.RW_coilkind_k89_long_runs
set_option Elab.async false
set_option linter.all false
set_option maxRecDepth 100000
section
open PySem PySem.Spec PyProof.Rows
abbrev Qa := @List.getElem?_eq_getElem
abbrev Qb := @List.getD_eq_getElem?_getD
abbrev Qc := @Heap.get?_push_of_some
abbrev Qd := @Heap.get?_push_size
abbrev Qe := @List.getElem_append_left
abbrev Qf := @List.getElem_append_right
abbrev Qh := @List.mem_cons_of_mem
abbrev Qi := @List.getElem_of_mem
abbrev Qj := @List.getElem_mem
abbrev Qk := @List.length_append
abbrev Ql := @List.length_map
abbrev Qm := @List.map_append
abbrev Qp := @List.mem_cons
abbrev Qq := @List.getElem?_map
abbrev Qr := @List.getElem_map
abbrev Qs := @List.take_add_one
abbrev Qt := @of_decide_eq_true
abbrev Qu := @of_decide_eq_false
abbrev Qw := @decide_eq_false
abbrev Qx := @Nat.lt_of_succ_lt
abbrev Qy := @Nat.le_refl
abbrev Qz := @Heap.lt_size
abbrev QA := @List.mem_nil_iff
abbrev QC := @List.mem_of_getElem?
abbrev QD := @Option.some.inj
abbrev QE := @Bool.false_xor
abbrev QH := @PySem.F.plainAttrs_list
abbrev QL := @sizeLine_eq
abbrev QQ := @List.append_nil
abbrev QR := @List.eq_nil_of_length_eq_zero
abbrev QS := @wpAny_bind
abbrev QT := @wpAny_pure
abbrev QZ := PySem.W.Frag
end
variable {us:List PySem.Value} {u:PySem.Value} {a b C l:PySem.Addr} {h h' base:PySem.Heap} {P prog:PySem.Program} {w:PySem.World} {α:Type} {e tg:PySem.Expr} {pins:List (PySem.Addr×PySem.Obj)} {s s':PySem.Shared} {t' i j n d:Nat} {ch fp:List PySem.Addr} {N ps loose own N' ns ws:List PySem.Str} {x name qual z:PySem.Str} {M:PySem.Model} {A:PySem.Around} {E Q:PySem.Value->PySem.Shared->Prop} {pos pos' p apos cpos:PySem.Pos} {es ifs v_:List PySem.Expr} {body:List PySem.Stmt} {mA mg:PySem.Str->Option PySem.Value} {env:PySem.Env} {kw:List (PySem.Str×PySem.Value)} {fd:PySem.FuncData} {outer:List PySem.Env} {sc scope:PySem.Scope} {T:String} {XP:(PySem.Str->Option PySem.Value)->PySem.Heap->Prop} {idx:List Nat} {cl:List (PySem.Str×PySem.Addr)} {R:PySem.Result->PySem.Shared->Prop} {G:Array PySem.GenState->Array PySem.GenState->Prop} {dct:Option PySem.Addr} {tp:Bool} {vs:Array PySem.Value}
theorem hdn {p:Prop} (h:∀ G:Prop,(p->G)->G):p:=h p id
namespace L2
open PySem PySem.Spec PyProof.Rows
abbrev be:=Sum Int Str
def Ah:be->Value->Bool
 | .inl k,v=>Value.isInt k v
 | .inr x,v=>Value.isStrOf x v
def A9 (w:World):be->Int
 | .inl k=>hashInt k
 | .inr x=>hashStr w x
theorem bQ:∀ {k:be} {v:Value},Ah k v=true->(∃ i t,k=Sum.inl i/\v=Value.int i t)\/(∃ x t,k=Sum.inr x/\v=Value.str x t)
 | .inl i,v,h=>by
  obtain ⟨t,e⟩:=Value.isInt_shape (k:=i) (v:=v) h
  exact .inl ⟨i,t,rfl,e⟩
 | .inr x,v,h=>by
  obtain ⟨t,e⟩:=Value.isStrOf_shape (x:=x) (v:=v) h
  exact .inr ⟨x,t,rfl,e⟩
theorem qZ (i:Int) (t:Tok):Ah (.inl i) (.int i t)=true:=by simp [Ah,Value.isInt]
theorem rP (x:Str) (t:Tok):Ah (.inr x) (.str x t)=true:=by simp [Ah,Value.isStrOf]
theorem xS (a b:Int):decide ((Sum.inl a:be)=Sum.inl b)=(a==b):=by
 by_cases e:a=b
 ·subst e;simp
 ·have h:¬(Sum.inl a:be)=Sum.inl b:=fun q=>e (Sum.inl.inj q)
  rw [Qw h]
  exact (beq_eq_false_iff_ne.mpr e).symm
theorem yA (a b:Str):decide ((Sum.inr a:be)=Sum.inr b)=decide (a=b):=by
 by_cases e:a=b
 ·subst e;simp
 ·have h:¬(Sum.inr a:be)=Sum.inr b:=fun q=>e (Sum.inr.inj q)
  rw [Qw h,Qw e]
theorem zJ (a:Int) (b:Str):decide ((Sum.inl a:be)=Sum.inr b)=false:=Qw (fun q=>nomatch q)
theorem xW (a:Str) (b:Int):decide ((Sum.inr a:be)=Sum.inl b)=false:=Qw (fun q=>nomatch q)
def f_ (prog:Program) (w:World):PySem.KeyKind prog w be where
 is:=Ah
 hash:=A9 w
 inj:=fun v a b ha hb=>by
  rcases bQ ha with ⟨i,t,rfl,rfl⟩ | ⟨x,t,rfl,rfl⟩
  ·rcases bQ hb with ⟨j,u,rfl,e⟩ | ⟨y,u,rfl,e⟩
   ·injection e with e1 _;rw [e1]
   ·exact nomatch e
  ·rcases bQ hb with ⟨j,u,rfl,e⟩ | ⟨y,u,rfl,e⟩
   ·exact nomatch e
   ·injection e with e1 _;rw [e1]
 byValue:=fun k v h=>by
  rcases bQ h with ⟨i,t,rfl,rfl⟩ | ⟨x,t,rfl,rfl⟩<;>rfl
 pyHash:=fun hv h=>by
  rcases bQ hv with ⟨i,t,rfl,rfl⟩ | ⟨x,t,rfl,rfl⟩
  ·exact wpAny_pyHash_int h
  ·exact wpAny_pyHash_str h
 eqBool:=fun hu hv h=>by
  rcases bQ hu with ⟨i,t,rfl,rfl⟩ | ⟨x,t,rfl,rfl⟩
  ·rcases bQ hv with ⟨j,u,rfl,rfl⟩ | ⟨y,u,rfl,rfl⟩
   ·rw [xS] at h;exact wpAny_eqBool_int h
   ·rw [zJ] at h;exact SeqAt.EqAt.int_str i t y u _ _ _ _ h
  ·rcases bQ hv with ⟨j,u,rfl,rfl⟩ | ⟨y,u,rfl,rfl⟩
   ·rw [xW] at h;exact SeqAt.EqAt.str_int x t j u _ _ _ _ h
   ·rw [yA] at h;exact wpAny_eqBool_str h
 «strs»:=fun k x t v h=>by
  rcases bQ h with ⟨i,u,rfl,e⟩ | ⟨y,u,rfl,e⟩
  ·exact nomatch e
  ·injection e with e1 _
   subst e1
   cases v<;>rfl
theorem o7 (prog:Program) (w:World) (i:Int) (t:Tok):(f_ prog w).is (.inl i) (.int i t)=true:=qZ i t
theorem fC (prog:Program) (w:World) (x:Str) (t:Tok):(f_ prog w).is (.inr x) (.str x t)=true:=rP x t
inductive V where
 | af | bl (b:Bool) | int (i:Int) | str (x:Str) | jq (b:Array UInt8) | yg (b:UInt64) | ref (a:Addr) | ty (n:String)
 deriving DecidableEq
def RelV:V->Value->Prop
 | .af,u=>u=Value.none
 | .bl b,u=>u=Value.bool b
 | .int i,u=>∃ t,u=Value.int i t
 | .str x,u=>∃ t,u=Value.str x t
 | .jq b,u=>∃ t,u=Value.bytes b t
 | .yg b,u=>∃ t,u=Value.float b t
 | .ref a,u=>u=Value.ref a
 | .ty n,u=>u=Value.type n
abbrev a_:List V->List Value->Prop:=Paired RelV
theorem a_.length {xs:List V} {us:List Value} (r:a_ xs us):xs.length=us.length:=Paired.length r
theorem a_.get:∀ {xs:List V} {us:List Value} {i:Nat} {x:V},a_ xs us->xs[i]? =some x->∃ u,us[i]? =some u/\RelV x u
 | _,_,_,_,.nil,e=>by simp at e
 | _,_,0,_,.cons r _,e=>by simp at e;subst e;exact ⟨_,rfl,r⟩
 | _,_,i+1,x,.cons _ t,e=>by
  obtain ⟨u,h1,h2⟩:=a_.get (i:=i) (x:=x) t (by simpa using e)
  exact ⟨u,by simpa using h1,h2⟩
theorem a_.set {x:V} {u:Value} (r:RelV x u):∀ {xs:List V} {us:List Value} (i:Nat),a_ xs us->a_ (xs.set i x) (us.set i u)
 | _,_,_,.nil=>.nil
 | _,_,0,.cons _ t=>.cons r t
 | _,_,i+1,.cons q t=>.cons q (a_.set r i t)
theorem a_.append:∀ {xs ys:List V} {us ws:List Value},a_ xs us->a_ ys ws->a_ (xs++ys) (us++ws)
 | _,_,_,_,.nil,s=>s
 | _,_,_,_,.cons r t,s=>.cons r (a_.append t s)
theorem a_.take:∀ {xs:List V} {us:List Value} (n:Nat),a_ xs us->a_ (xs.take n) (us.take n)
 | _,_,0,_=>.nil
 | _,_,_+1,.nil=>.nil
 | _,_,n+1,.cons r t=>.cons r (a_.take n t)
theorem a_.drop:∀ {xs:List V} {us:List Value} (n:Nat),a_ xs us->a_ (xs.drop n) (us.drop n)
 | _,_,0,r=>r
 | _,_,_+1,.nil=>.nil
 | _,_,n+1,.cons _ t=>a_.drop n t
def jr:Option V->Option Value->Prop
 | some v,some u=>RelV v u
 | none,none=>True
 | _,_=>False
def KV {κ:Type}:List (κ×V)->List (κ×Value)->Prop:=Paired fun (p:κ×V) (q:κ×Value)=>p.1=q.1/\RelV p.2 q.2
def kV:be->V
 | .inl i=>.int i
 | .inr x=>.str x
inductive HO where
  | lst (xs:List V)
  | tup (xs:List V)
  | dK (kvs:List (be×V)) | dT (kvs:List (List be×V))
  | set (S:Int->Bool) (n:Nat)
  | ins (C dx:Addr) (fs:List (Str×V))
  | own (x:Addr)
  | xd (fs:List (Str×V))
  | met (f x:Addr)
  | B8 (lo hi:Int)
  | fj (o:Obj) (u:HO)
  | wc (ps:Array Value)
  | ext (φ:Heap->Prop)
abbrev Hp:=Addr->Option HO
end L2
variable {H H' H0:L2.Hp} {o:L2.HO}
namespace L2
open PySem PySem.Spec PyProof.Rows
def upd (H:Hp) (a:Addr) (o:HO):Hp:=fun b=>if b=a then some o else H b
theorem aA:upd H a o a=some o:=by unfold upd;rw [if_pos rfl]
theorem aM (h:b≠a):upd H a o b=H b:=by unfold upd;rw [if_neg h]
theorem qK {u:HO}:upd (upd H a o) a u=upd H a u:=by
 funext b;unfold upd;split<;>rfl
theorem JK {u:HO} (h:H a=some o) (h':H b=some u) (d:o≠u):a≠b:=by
 intro e;subst e;rw [h] at h';exact d (QD h')
theorem aY (h:H a=some o) (h':H b=none):a≠b:=by
 intro e;subst e;rw [h] at h';cases h'
def we (h:Heap) (a:Addr):Prop:=∀ o,h.get? a=some o->o.dict=none
theorem we.new {ob:Obj} (h0:ob.isFreed=false) (hd:ob.dict=none):we (h.push ob) h.objs.size:=fun o q=>by rw [Qd _ h0] at q;cases q;exact hd
def gv (H:Hp) (b:Addr) (ys:List V):Prop:=H b=some (.tup ys)\/∃ o,H b=some (.fj o (.tup ys))
theorem gv.upd {H:Hp} {b a:Addr} {ys:List V} {o:HO} (r:gv H b ys) (ne:∀ u,H b=some u->b≠a):gv (L2.upd H a o) b ys:=by
 rcases r with r | ⟨ob,r⟩
 ·exact .inl (by rw [aM (ne _ r)];exact r)
 ·exact .inr ⟨ob,by rw [aM (ne _ r)];exact r⟩
section
variable (P:Program) (w:World)
def bz (H:Hp) (h:Heap) (a:Addr):HO->Prop
 | .lst xs=>xs.length<=sizeLine/\∃ (its:List Value) (n:Nat),a_ xs its/\h.get? a=some {cls:=.type "list",data:=.seq its.toArray n}
 | .tup xs=>(xs.length<=sizeLine/\we h a)/\∃ its:List Value,a_ xs its/\IsTup h a its.toArray
 | .dK kvs=>kvs.length<=sizeLine/\(a==sysModules)=false/\∃ vs,KV kvs vs/\h.DictOf (f_ P w) a vs
 | .dT kvs=>kvs.length<=sizeLine/\(a==sysModules)=false/\∃ xs:List (List be×Addr×Value),
   Paired (fun (p:List be×V) (q:List be×Addr×Value)=>p.1=q.1/\gv H q.2.1 (p.1.map kV)/\RelV p.2 q.2.2) kvs xs/\
   ∃ o es ep,h.get? a=some o/\o.ExactDict/\o.data=.dict es ep/\es.toList=xs.map (entryOfKey (tupleKind (f_ P w)))/\(xs.map (·.1)).Nodup
 | .set S n=>h.SetOf (intKind P w) a S n
 | .ins C dx fs=>H dx=some (.own a)/\fs.length<=1000/\dx≠a/\h.get? a=some (PySem.W.instObj C dx)/\
   ∃ mA,h.Ns1 dx mA/\(∀ f,jr (fs.lookup f) (mA f))/\PySem.Within mA (fs.map (·.1))
 | .own _=>∃ o,h.get? a=some o
 | .xd fs=>∃ mA,h.Ns1 a mA/\∀ f,jr (fs.lookup f) (mA f)
 | .B8 lo hi=>∃ t u v,h.get? a=some {cls:=.type "range",data:=.fields #[.int lo t,.int hi u,.int 1 v]}
 | .fj o u=>h.get? a=some o/\bz H h a u
 | .wc ps=>h.get? a=some {cls:=.none,data:=.fields ps}
 | .met f x=>h.get? a=some (PySem.W.methodObj (.ref f) (.ref x))
 | .ext φ=>φ h/\(∃ o,h.get? a=some o)/\∀ h1 h2:Heap,φ h1->(∀ o,h1.get? a=some o->h2.get? a=some o)->φ h2
def cf (H:Hp) (h:Heap):Prop:=∀ a o,H a=some o->bz P w H h a o
end
theorem bz.lt (x:bz P w H h a o):a < h.objs.size:=by
 cases o with
 | lst xs=>obtain ⟨_,_,_,_,e⟩:=x;exact Qz e
 | tup xs=>obtain ⟨_,_,_,p⟩:=x;exact p.lt
 | dK kvs=>obtain ⟨_,_,_,_,o,_,_,e,_⟩:=x;exact Qz e
 | dT kvs=>obtain ⟨_,_,_,_,o,_,_,e,_⟩:=x;exact Qz e
 | set S n=>obtain ⟨o,_,_,_,e,_⟩:=x;exact Qz e
 | ins C dx fs=>obtain ⟨_,_,_,e,_⟩:=x;exact Qz e
 | own y=>obtain ⟨_,e⟩:=x;exact Qz e
 | xd fs=>obtain ⟨_,⟨_,_,_,e,_⟩,_⟩:=x;exact Qz e
 | B8 lo hi=>obtain ⟨_,_,_,e⟩:=x;exact Qz e
 | fj ob u=>obtain ⟨e,_⟩:=x;exact Qz e
 | wc ps=>exact Qz (show h.get? a=some _ from x)
 | met f y=>exact Qz (show h.get? a=some _ from x)
 | ext φ=>obtain ⟨_,⟨_,e⟩,_⟩:=x;exact Qz e
theorem Paired.FL {α β:Type} {F G:α->β->Prop}:∀ {l₁:List α} {l₂:List β},Paired F l₁ l₂->(∀ a b,F a b->G a b)->Paired G l₁ l₂
 | _,_,.nil,_=>.nil
 | _,_,.cons r t,f=>.cons (f _ _ r) (Paired.FL t f)
theorem bz.stay (x:bz P w H h a o) (k:∀ b u,(b=a\/H b=some (.own a))->h.get? b=some u->h'.get? b=some u)
  (ho:∀ b,H b=some (.own a)->H' b=some (.own a)) (ht:∀ b xs,gv H b xs->gv H' b xs):bz P w H' h' a o:=by
 induction o with
 | lst xs=>obtain ⟨z,its,n,r,e⟩:=x;exact ⟨z,its,n,r,k _ _ (.inl rfl) e⟩
 | tup xs=>obtain ⟨⟨z,nd⟩,its,r,ob,e,c⟩:=x;exact ⟨⟨z,fun o q=>by rw [k _ _ (.inl rfl) e] at q;cases q;exact nd _ e⟩,its,r,ob,k _ _ (.inl rfl) e,c⟩
 | dK kvs=>obtain ⟨z,y,vs,r,ob,es,ep,e,c⟩:=x;exact ⟨z,y,vs,r,ob,es,ep,k _ _ (.inl rfl) e,c⟩
 | dT kvs=>
  obtain ⟨z,y,xs,r,ob,es,ep,e,c⟩:=x
  exact ⟨z,y,xs,Paired.FL r fun p q z=>⟨z.1,ht _ _ z.2.1,z.2.2⟩,ob,es,ep,k _ _ (.inl rfl) e,c⟩
 | set S n=>obtain ⟨ob,es,ep,t,e,c⟩:=x;exact ⟨ob,es,ep,t,k _ _ (.inl rfl) e,c⟩
 | ins C dx fs=>
  obtain ⟨d,z,ne,e,mA,⟨od,es,ep,e2,c⟩,r⟩:=x
  exact ⟨ho _ d,z,ne,k _ _ (.inl rfl) e,mA,⟨od,es,ep,k _ _ (.inr d) e2,c⟩,r⟩
 | own y=>obtain ⟨ob,e⟩:=x;exact ⟨ob,k _ _ (.inl rfl) e⟩
 | xd fs=>obtain ⟨mA,⟨od,es,ep,e,c⟩,r⟩:=x;exact ⟨mA,⟨od,es,ep,k _ _ (.inl rfl) e,c⟩,r⟩
 | B8 lo hi=>obtain ⟨t,u,v,e⟩:=x;exact ⟨t,u,v,k _ _ (.inl rfl) e⟩
 | fj ob u ih=>obtain ⟨e,q⟩:=x;exact ⟨k _ _ (.inl rfl) e,ih q⟩
 | wc ps=>
  have e:h.get? a=some {cls:=.none,data:=.fields ps}:=x
  show h'.get? a=some {cls:=.none,data:=.fields ps}
  exact k a _ (.inl rfl) e
 | met f y=>
  have e:h.get? a=some (PySem.W.methodObj (.ref f) (.ref y)):=x
  show h'.get? a=some (PySem.W.methodObj (.ref f) (.ref y))
  exact k a _ (.inl rfl) e
 | ext φ=>obtain ⟨p,⟨o,e⟩,st⟩:=x;exact ⟨st _ _ p fun o q=>k _ _ (.inl rfl) q,⟨o,k _ _ (.inl rfl) e⟩,st⟩
theorem cf.lt (x:cf P w H h) (e:H a=some o):a < h.objs.size:=(x a o e).lt
theorem cf.fresh (x:cf P w H h) (e:h.objs.size<=a):H a=none:=by
 cases q:H a with
 | none=>rfl
 | some u=>exact absurd (Nat.lt_of_lt_of_le (x.lt q) e) (Nat.lt_irrefl _)
theorem cf.kept (x:cf P w H h) (k:∀ b u,h.get? b=some u->h'.get? b=some u):cf P w H h':=fun a o e=>
 (x a o e).stay (fun b u _ q=>k b u q) (fun _ q=>q) fun _ _ q=>q
theorem cf.laid (x:cf P w H h) (k:∀ b u,h.get? b=some u->h'.get? b=some u) (hp:h.objs.size<=a) (new:bz P w (upd H a o) h' a o):cf P w (upd H a o) h':=fun b u e=>by
 have hn:=x.fresh hp
 by_cases hb:b=a
 ·subst hb;rw [aA] at e;cases e;exact new
 ·rw [aM hb] at e
  exact (x b u e).stay (fun c v _ q=>k c v q) (fun c q=>by rw [aM (aY q hn)];exact q) fun c xs q=>q.upd fun u hu=>aY hu hn
def Rd (H:Hp) (a:Addr) (u:HO):Prop:=H a=some u\/∃ o,H a=some (.fj o u)
theorem Rd.ok {u:HO} (r:Rd H a u) (x:cf P w H h):bz P w H h a u:=by
 rcases r with r | ⟨o,r⟩
 ·exact x a u r
 ·obtain ⟨_,q⟩:=x a _ r
  exact q
def Ai:Option HO->Prop
 | some (.lst _)=>True
 | some (.dK _)=>True
 | some (.dT _)=>True
 | some (.set _ _)=>True
 | some (.ins _ _ _)=>True
 | some (.ext _)=>True
 | _=>False
section
variable {x e:Addr} {o':HO}
theorem cf.write (ok:cf P w H h) (mu:Ai (H x)) (he:e=x\/H e=some (.own x)) (k:∀ b u,b≠e->h.get? b=some u->h'.get? b=some u) (uq:∃ u,h'.get? e=some u)
  (new:bz P w (upd H x o') h' x o'):cf P w (upd H x o') h':=fun b u q=>by
 have FN:∀ c y,H c=some (.own y)->c≠x:=fun c y r z=>by subst z;rw [r] at mu;exact mu
 have O1:∀ c xs,H c=some (.tup xs)->c≠x:=fun c xs r z=>by subst z;rw [r] at mu;exact mu
 by_cases hb:b=x
 ·subst hb;rw [aA] at q;cases q;exact new
 ·rw [aM hb] at q
  by_cases yh:b=e
  ·have q':H b=some (.own x):=by
    rcases he with z | z
    ·exact absurd (yh.trans z) hb
    ·rw [yh];exact z
   rw [q] at q';cases q'
   obtain ⟨v,hv⟩:=uq
   exact ⟨v,by rw [yh];exact hv⟩
  ·refine (ok b u q).stay (fun c v hc r=>k c v ?_ r) (fun c r=>by rw [aM (FN c b r)];exact r) fun c xs r=>r.upd fun _ _ z=>by
    subst z
    rcases r with r | ⟨_,r⟩<;>(rw [r] at mu;exact mu)
   rcases hc with rfl | hc
   ·exact yh
   ·rintro rfl
    rcases he with z | z
    ·exact FN c b hc z
    ·rw [hc] at z;cases z;exact hb rfl
end
structure Un (fs ex:List Addr) (H H':Hp) (h h':Heap):Prop where
 keep:∀ b o,h.get? b=some o->H b=none->b ∉ fs->b ∉ ex->h'.get? b=some o
 slot:∀ b o,h.get? b=some o->H b=none->b∈fs->b ∉ ex->∃ sl,h'.get? b=some {o with slots:=sl}
 free:∀ b o,h.get? b=some o->H b=none->b ∉ ex->H' b=none
 there:∀ b o,h.get? b=some o->b ∉ ex->∃ o',h'.get? b=some o'
 tups:∀ b xs,H b=some (.tup xs)->H' b=some (.tup xs)
 jc:∀ b o u,H b=some (.fj o u)->H' b=some (.fj o u)
 jt:∀ b ps,H b=some (.wc ps)->∃ more,H' b=some (.wc (ps++more))
section
variable {fs JL ex O6:List Addr} {H1 H2:Hp} {h1 h2:Heap} {x e:Addr}
theorem Un.any (u:Un fs ex H H1 h h1) {ob:Obj} (q:h.get? b=some ob) (n:H b=none) (hx:b ∉ ex):∃ sl,h1.get? b=some {ob with slots:=sl}:=by
 by_cases hb:b∈fs
 ·exact u.slot b ob q n hb hx
 ·exact ⟨ob.slots,u.keep b ob q n hb hx⟩
theorem Un.trans (a:Un fs ex H H1 h h1) (b:Un fs ex H1 H2 h1 h2):Un fs ex H H2 h h2 where
 keep:=fun c ob q n hc hx=>b.keep c ob (a.keep c ob q n hc hx) (a.free c ob q n hx) hc hx
 slot:=fun c ob q n hc hx=>by
  obtain ⟨sl,e1⟩:=a.slot c ob q n hc hx
  obtain ⟨yj,e2⟩:=b.slot c _ e1 (a.free c ob q n hx) hc hx
  exact ⟨yj,e2⟩
 free:=fun c ob q n hx=>by
  obtain ⟨o',e1⟩:=a.there c ob q hx
  exact b.free c o' e1 (a.free c ob q n hx) hx
 there:=fun c ob q hx=>by
  obtain ⟨o',e1⟩:=a.there c ob q hx
  exact b.there c o' e1 hx
 tups:=fun c xs q=>b.tups c xs (a.tups c xs q)
 jc:=fun c ob xs q=>b.jc c ob xs (a.jc c ob xs q)
 jt:=fun c ps q=>by
  obtain ⟨m1,e1⟩:=a.jt c ps q
  obtain ⟨m2,e2⟩:=b.jt c _ e1
  exact ⟨m1++m2,by rw [e2,Array.append_assoc]⟩
theorem Un.kept (k:∀ b u,h.get? b=some u->h'.get? b=some u):Un fs ex H H h h':=
 ⟨fun b ob q _ _ _=>k b ob q,fun b ob q _ _ _=>⟨ob.slots,k b ob q⟩,fun _ _ _ n _=>n,fun b ob q _=>⟨ob,k b ob q⟩,fun _ _ q=>q,fun _ _ _ q=>q,fun _ ps q=>⟨#[],by rw [q];simp⟩⟩
theorem Un.refl:Un fs ex H H h h:=Un.kept fun _ _ q=>q
theorem Un.laid (k:∀ b u,h.get? b=some u->h'.get? b=some u) (hp:h.objs.size<=a) (hn:H a=none):Un fs ex H (upd H a o) h h' where
 keep:=fun b u q _ _ _=>k b u q
 slot:=fun b u q _ _ _=>⟨u.slots,k b u q⟩
 free:=fun b u q n _=>by rw [aM (Nat.ne_of_lt (Nat.lt_of_lt_of_le (Qz q) hp))];exact n
 there:=fun b u q _=>⟨u,k b u q⟩
 tups:=fun b xs q=>by rw [aM (aY q hn)];exact q
 jc:=fun b u xs q=>by rw [aM (aY q hn)];exact q
 jt:=fun b ps q=>⟨#[],by rw [aM (aY q hn),q];simp⟩
theorem Un.write (mu:Ai (H x)) (he:e=x\/H e=some (.own x)) (k:∀ b u,b≠e->h.get? b=some u->h'.get? b=some u) (uq:∃ u,h'.get? e=some u):Un fs ex H (upd H x o) h h':=by
 have hx:∀ b,H b=none->b≠x:=fun b n z=>by subst z;rw [n] at mu;exact mu
 have hb:∀ b,H b=none->b≠e:=fun b n z=>by
  subst z
  rcases he with r | r
  ·exact hx b n r
  ·rw [n] at r;cases r
 have hm:∀ b u,H b=some u->¬Ai (some u)->b≠x:=fun b u q nm z=>by subst z;rw [q] at mu;exact nm mu
 refine ⟨fun b u q n _ _=>k b u (hb b n) q,fun b u q n _ _=>⟨u.slots,k b u (hb b n) q⟩,fun b u q n _=>by rw [aM (hx b n)];exact n,fun b u q _=>?_,
  fun b xs q=>by rw [aM (hm b _ q fun z=>z)];exact q,fun b u xs q=>by rw [aM (hm b _ q fun z=>z)];exact q,fun b ps q=>⟨#[],by rw [aM (hm b _ q fun z=>z),q];simp⟩⟩
 by_cases yh:b=e
 ·subst yh;exact uq
 ·exact ⟨u,k b u yh q⟩
end
def Aj (h:Heap) (H:Hp):List Addr:=(List.range h.objs.size).filter fun a=>(H a).isSome
def ur (h:Heap) (H:Hp):Heap:=PySem.W.hideAll h (Aj h H)
theorem sH (h:Heap) (H:Hp):(ur h H).objs.size=h.objs.size:=PySem.W.hideAll_size _ _
theorem uJ {o:Obj} (e:h.get? b=some o) (n:H b=none):(ur h H).get? b=some o:=
 PySem.W.hideAll_get _ e fun hm=>by
  have q:(H b).isSome=true:=(List.mem_filter.mp hm).2
  rw [n] at q;simp at q
theorem wG {o:Obj} (e:(ur h H).get? b=some o):h.get? b=some o/\H b=none:=by
 have e':h.get? b=some o:=PySem.W.of_hideAll (Aj h H) e
 refine ⟨e',?_⟩
 cases q:H b with
 | none=>rfl
 | some x=>
  have hm:b∈Aj h H:=List.mem_filter.mpr ⟨List.mem_range.mpr (Qz e'),by simp [q]⟩
  have z:(ur h H).get? b=none:=PySem.W.hideAll_none (Aj h H) hm
  rw [z] at e;cases e
structure Mod (K:QZ) (mg:Str->Option Value) (base:Heap):Prop where
 Ak:K.In base
 glob:base.Ns mainGlobals mg
 blt:∃ mb,base.Ns builtinsNs mb/\∀ x:Str,x≠"__name__"->mb x=bootBuiltins x
 nolimit:base.NoLimit
structure Cx where
 prog:Program
 w:World
 K:QZ
 mg:Str->Option Value
 base:Heap
 A:Around
 N:List Str
 s₀:Shared
 H₀:Hp
 env:Env
 outer:List Env
 stack:List Env
 ex:List Addr
 fn:Str->Bool
 calm:Bool
 pn:List (Addr×Obj)
 xe:Value->Shared->Prop
end L2
variable {X:L2.Cx}
namespace L2
open PySem PySem.Spec PyProof.Rows
def eu (l:List Env):List Addr:=l.filterMap (·.frame)
abbrev Cx.fs (X:Cx):List Addr:=eu X.outer
def Al (sc:Scope) (x:Str):Prop:=sc.names.lookup x=some .local\/sc.names.lookup x=some .cell\/sc.names.lookup x=some .free
def Loc (sc:Scope) (x:Str):Prop:=sc.names.lookup x=some .local\/sc.names.lookup x=some .cell
def Look (env:Env) (h:Heap) (m:Str->Option Value) (x:Str) (u:Value):Prop:=
 (env.kindOf x=some .local/\m x=some u)\/((env.kindOf x=some .cell\/env.kindOf x=some .free)/\∃ c,env.cells.lookup x=some c/\h.IsCell c (some u))
structure Cx.Ok (X:Cx):Prop where
 mod:Mod X.K X.mg X.base
 kind:X.env.scope.kind=.function
 glob:X.env.globals=mainGlobals
 blt:X.env.builtins=builtinsNs
 above:X.s₀.heap.objs.size<=X.env.locals
 inj:∀ x y c,X.env.cells.lookup x=some c->X.env.cells.lookup y=some c->x=y
 has:∀ x,(X.env.kindOf x=some .cell\/X.env.kindOf x=some .free)->∃ c,X.env.cells.lookup x=some c
 yk:∀ x c,X.fn x=true->X.env.cells.lookup x=some c->X.s₀.heap.objs.size<=c
 hd:X.calm=true->X.A.handled=none
 frames:X.A.frames=some X.stack
 Am:X.stack=X.outer\/(X.stack=X.env::X.outer/\X.env.frame=some X.env.locals)
 B9:∀ b∈X.ex,b≠X.env.locals/\∀ x c,X.env.cells.lookup x=some c->c≠b
 bs:∀ b o,X.base.get? b=some o->X.s₀.heap.get? b=some o/\X.H₀ b=none
 qm:X.base.objs.size<=X.s₀.heap.objs.size
 yl:∀ b o,X.base.get? b=some o->b ∉ X.ex
 An:∀ b∈X.ex,b ∉ X.fs
 lh:X.s₀.heap.FunFrames X.base X.outer
 uu:∀ b∈X.fs,X.H₀ b=none
structure Inv (X:Cx) (pins:List (Addr×Obj)) (σ:List (Option V)) (H:Hp) (s:Shared):Prop where
 ok:X.Ok
 os:s.os=X.s₀.os
 bare:AllBare s.gens
 base:Un X.fs X.ex X.H₀ H X.s₀.heap s.heap
 loc:∃ m,s.heap.Ns X.env.locals m/\∀ (i:Nat) (x:Str) (v:V),X.N[i]? =some x->σ[i]? =some (some v)->Al X.env.scope x->∃ u,RelV v u/\Look X.env s.heap m x u
 cell:∀ x c,X.env.cells.lookup x=some c->∃ v,s.heap.IsCell c v
 free:H X.env.locals=none
 j_:∀ x c,X.env.cells.lookup x=some c->H c=none
 pin:∀ p∈X.pn++pins,s.heap.get? p.1=some p.2/\H p.1=none/\p.1≠X.env.locals/\p.1 ∉ X.fs/\∀ v,p.2.data≠.cell v
 hok:cf X.prog X.w H s.heap
 len:σ.length=X.N.length
section
variable {σ:List (Option V)}
theorem Cx.Ok.JM (ok:X.Ok) {o:Obj} (e:X.base.get? b=some o):b ∉ X.fs:=fun hb=>by
 have:=(ok.lh.mem hb).1
 rw [e] at this;cases this
theorem Inv.bs (I:Inv X pins σ H s):∀ b o,X.base.get? b=some o->s.heap.get? b=some o/\H b=none:=fun b o e=>
 ⟨I.base.keep b o (I.ok.bs b o e).1 (I.ok.bs b o e).2 (I.ok.JM e) (I.ok.yl b o e),I.base.free b o (I.ok.bs b o e).1 (I.ok.bs b o e).2 (I.ok.yl b o e)⟩
theorem Inv.bk (I:Inv X pins σ H s):∀ b o,X.base.get? b=some o->s.heap.get? b=some o:=fun b o e=>(I.bs b o e).1
theorem Inv.mod (I:Inv X pins σ H s):Mod X.K X.mg X.base:=I.ok.mod
theorem Inv.cz (I:Inv X pins σ H s):X.K.In s.heap:=I.ok.mod.Ak.keeps I.bk
theorem Inv.lt (I:Inv X pins σ H s):X.env.locals < s.heap.objs.size:=let ⟨_,hn,_⟩:=I.loc;hn.lt
theorem Inv.sz (I:Inv X pins σ H s):X.s₀.heap.objs.size<=s.heap.objs.size:=Nat.le_trans I.ok.above (Nat.le_of_lt I.lt)
theorem Inv.JN (I:Inv X pins σ H s) (h:s.heap.objs.size<=a):a ∉ X.fs:=fun hb=>by
 obtain ⟨_,o,ho,_⟩:=I.ok.lh.mem hb
 exact absurd (Nat.lt_of_lt_of_le (Qz ho) (Nat.le_trans I.sz h)) (Nat.lt_irrefl _)
theorem Inv.uv (I:Inv X pins σ H s):∀ x c,X.env.cells.lookup x=some c->c≠X.env.locals:=fun x c e z=>by
 obtain ⟨v,o,ho,hd⟩:=I.cell x c e
 obtain ⟨m,⟨o',es,ep,qo,JO,_⟩,_⟩:=I.loc
 rw [z,qo] at ho;cases ho;rw [JO] at hd;cases hd
theorem Inv.lh (I:Inv X pins σ H s):s.heap.FunFrames X.base X.outer:=by
 have all:∀ (l:List Env),(∀ b∈eu l,b∈X.fs)->X.s₀.heap.FunFrames X.base l->s.heap.FunFrames X.base l:=by
  intro l
  induction l with
  | nil=>intro _ _;trivial
  | cons env r ih=>
   intro hs hl
   obtain ⟨hk,⟨L,o,hf,hn,ho,hd⟩,hr⟩:=hl
   have hL:L∈X.fs:=hs L (by unfold eu;rw [List.filterMap_cons,hf];exact List.mem_cons_self)
   obtain ⟨sl,e⟩:=I.base.slot L o ho (I.ok.uu L hL) hL fun z=>I.ok.An L z hL
   exact ⟨hk,⟨L,_,hf,hn,e,hd⟩,ih (fun b hb=>hs b (by unfold eu;rw [List.filterMap_cons,hf];exact Qh _ hb)) hr⟩
 exact all X.outer (fun _ hb=>hb) I.ok.lh
theorem Inv.stack (I:Inv X pins σ H s):s.heap.FunFrames X.base X.stack:=by
 rcases I.ok.Am with e | ⟨e,hf⟩
 ·rw [e];exact I.lh
 ·rw [e]
  obtain ⟨m,hn,_⟩:=I.loc
  refine .cons (by rw [I.ok.kind];decide) hf hn ?_ I.lh
  exact Heap.get?_none_of_le (Nat.le_trans I.ok.qm I.ok.above)
theorem Inv.A_ (I:Inv X pins σ H s):∀ b∈eu X.stack,b∈X.env.locals::X.fs:=fun b hb=>by
 rcases I.ok.Am with e | ⟨e,hf⟩
 ·rw [e] at hb;exact Qh _ hb
 ·rw [e] at hb
  unfold eu at hb
  rw [List.filterMap_cons,hf] at hb
  exact hb
theorem Inv.Ba (I:Inv X pins σ H s):∀ b∈eu X.stack,H b=none:=fun b hb=>by
 rcases Qp.mp (I.A_ b hb) with e | hb
 ·rw [e];exact I.free
 ·obtain ⟨_,o,ho,_⟩:=I.ok.lh.mem hb
  exact I.base.free b o ho (I.ok.uu b hb) fun z=>I.ok.An b z hb
theorem Inv.step {g':Array GenState} {d':Drawn} (I:Inv X pins σ H s)
  (rn:∀ b∈ch,(b∈X.ex\/X.s₀.heap.objs.size<=b)/\b≠X.env.locals/\(∀ x c,X.env.cells.lookup x=some c->c≠b)/\∀ p∈X.pn++pins,p.1≠b)
  (keep:∀ b o,b≠X.env.locals->b ∉ X.fs->b ∉ ch->s.heap.get? b=some o->H b=none->h'.get? b=some o)
  (slot:∀ b o,b≠X.env.locals->b∈X.fs->b ∉ ch->s.heap.get? b=some o->H b=none->∃ sl,h'.get? b=some {o with slots:=sl}) (free:∀ b o,b ∉ ch->s.heap.get? b=some o->H b=none->H' b=none)
  (there:∀ b o,b ∉ ch->s.heap.get? b=some o->∃ o',h'.get? b=some o')
  (tups:∀ b xs,H b=some (.tup xs)->H' b=some (.tup xs)) (jc:∀ b o u,H b=some (.fj o u)->H' b=some (.fj o u)) (jt:∀ b ps,H b=some (.wc ps)->∃ more,H' b=some (.wc (ps++more)))
  (ns:∀ m,s.heap.Ns X.env.locals m->h'.Ns X.env.locals m) (hok:cf X.prog X.w H' h') (hg:AllBare g'):
  Inv X pins σ H' {s with heap:=h',gens:=g',drawn:=d',toks:=t'}:=by
 have FO:∀ b o,X.s₀.heap.get? b=some o->b≠X.env.locals:=fun b o e=>Nat.ne_of_lt (Nat.lt_of_lt_of_le (Qz e) I.ok.above)
 have B_:∀ b o,X.s₀.heap.get? b=some o->b ∉ X.ex->b ∉ ch:=fun b o e hx hb=>by
  rcases (rn b hb).1 with z | z
  ·exact hx z
  ·exact absurd (Nat.lt_of_lt_of_le (Qz e) z) (Nat.lt_irrefl _)
 have cellK:∀ x c,X.env.cells.lookup x=some c->∀ v,s.heap.IsCell c v->h'.IsCell c v:=fun x c e v ⟨o,ho,hd⟩=>by
  have qp:c ∉ ch:=fun z=>(rn c z).2.2.1 x c e rfl
  by_cases hc:c∈X.fs
  ·obtain ⟨sl,q⟩:=slot c o (I.uv x c e) hc qp ho (I.j_ x c e)
   exact ⟨_,q,hd⟩
  ·exact ⟨o,keep c o (I.uv x c e) hc qp ho (I.j_ x c e),hd⟩
 refine ⟨I.ok,I.os,hg,⟨fun b o e n hb hx=>?_,fun b o e n hb hx=>?_,fun b o e n hx=>?_,fun b o e hx=>?_,fun b xs e=>tups b xs (I.base.tups b xs e),fun b o xs e=>jc b o xs (I.base.jc b o xs e),fun b ps e=>?_⟩,?_,fun x c e=>?_,?_,fun x c e=>?_,fun p hp=>?_,hok,I.len⟩
 ·exact keep b o (FO b o e) hb (B_ b o e hx) (I.base.keep b o e n hb hx) (I.base.free b o e n hx)
 ·obtain ⟨sl,e1⟩:=I.base.slot b o e n hb hx
  obtain ⟨yj,e2⟩:=slot b _ (FO b o e) hb (B_ b o e hx) e1 (I.base.free b o e n hx)
  exact ⟨yj,e2⟩
 ·obtain ⟨o',e1⟩:=I.base.there b o e hx
  exact free b o' (B_ b o e hx) e1 (I.base.free b o e n hx)
 ·obtain ⟨o',e1⟩:=I.base.there b o e hx
  exact there b o' (B_ b o e hx) e1
 ·obtain ⟨m1,e1⟩:=I.base.jt b ps e
  obtain ⟨m2,e2⟩:=jt b _ e1
  exact ⟨m1++m2,by rw [e2,Array.append_assoc]⟩
 ·obtain ⟨m,hn,hl⟩:=I.loc
  refine ⟨m,ns m hn,fun i x v e1 e2 e3=>?_⟩
  obtain ⟨u,r,l⟩:=hl i x v e1 e2 e3
  refine ⟨u,r,?_⟩
  rcases l with l | ⟨k,c,e,z⟩
  ·exact .inl l
  ·exact .inr ⟨k,c,e,cellK x c e _ z⟩
 ·obtain ⟨v,z⟩:=I.cell x c e
  exact ⟨v,cellK x c e v z⟩
 ·obtain ⟨m,⟨o,_,_,ho,_⟩,_⟩:=I.loc
  exact free _ o (fun z=>(rn _ z).2.1 rfl) ho I.free
 ·obtain ⟨v,o,ho,hd⟩:=I.cell x c e
  exact free c o (fun z=>(rn c z).2.2.1 x c e rfl) ho (I.j_ x c e)
 ·obtain ⟨e,n,ne,nf,d⟩:=I.pin p hp
  have qp:p.1 ∉ ch:=fun z=>(rn p.1 z).2.2.2 p hp rfl
  exact ⟨keep p.1 p.2 ne nf qp e n,free p.1 p.2 qp e n,ne,nf,d⟩
theorem Inv.un (I:Inv X pins σ H s) (u:Un X.fs [] H H' s.heap h') (hok:cf X.prog X.w H' h'):Inv X pins σ H' {s with heap:=h',toks:=t'}:=by
 obtain ⟨m,⟨o,es,ep,ho,r⟩,_⟩:=id I.loc
 obtain ⟨sl,hL⟩:=u.any ho I.free (by simp)
 exact I.step (g':=s.gens) (d':=s.drawn) (ch:=[]) (fun _ z=>nomatch z) (fun b o _ hb _ e n=>u.keep b o e n hb (by simp)) (fun b o _ hb _ e n=>u.slot b o e n hb (by simp)) (fun b o _ e n=>u.free b o e n (by simp)) (fun b o _ e=>u.there b o e (by simp)) u.tups u.jc u.jt (fun m' hm=>by
  obtain ⟨o',Dr,Ds,qo,r'⟩:=hm
  rw [ho] at qo;cases qo
  exact ⟨_,Dr,Ds,hL,r'⟩) hok I.bare
theorem Inv.call {g':Array GenState} {t':Nat} {d':Drawn} {ch:List Addr} (I:Inv X pins σ H s) (u:Un (eu X.stack) ch H H' s.heap h') (hok:cf X.prog X.w H' h') (hg:AllBare g')
  (rn:∀ b∈ch,(b∈X.ex\/X.s₀.heap.objs.size<=b)/\b≠X.env.locals/\(∀ x c,X.env.cells.lookup x=some c->c≠b)/\∀ p∈X.pn++pins,p.1≠b):
  Inv X pins σ H' {s with heap:=h',gens:=g',drawn:=d',toks:=t'}:=by
 obtain ⟨m,⟨o,es,ep,ho,r⟩,_⟩:=id I.loc
 obtain ⟨sl,hL⟩:=u.any ho I.free fun z=>(rn _ z).2.1 rfl
 exact I.step (ch:=ch) rn (fun b o hL hb hc e n=>u.keep b o e n (fun z=>(Qp.mp (I.A_ b z)).elim hL hb) hc) (fun b o _ _ hc e n=>u.any e n hc) (fun b o hc e n=>u.free b o e n hc) (fun b o hc e=>u.there b o e hc) u.tups u.jc u.jt (fun m' hm=>by
  obtain ⟨o',Dr,Ds,qo,r'⟩:=hm
  rw [ho] at qo;cases qo
  exact ⟨_,Dr,Ds,hL,r'⟩) hok hg
theorem Inv.turned {it:Addr} (I:Inv X pins σ H s) (k:∀ b o,b≠it->s.heap.get? b=some o->h'.get? b=some o) (hn:H it=none) (hL:it≠X.env.locals)
  (h1:it∈X.ex\/X.s₀.heap.objs.size<=it) (h2:∀ x c,X.env.cells.lookup x=some c->c≠it) (h3:∀ p∈X.pn++pins,p.1≠it):Inv X pins σ H {s with heap:=h',toks:=t'}:=by
 have FP:∀ b u,H b=some u->b≠it:=fun b u e z=>by rw [z,hn] at e;cases e
 refine I.step (g':=s.gens) (d':=s.drawn) (ch:=[it]) (fun b hb=>?_) (fun b o _ _ hc e _=>k b o (fun z=>hc (by simp [z])) e) (fun b o _ _ hc e _=>⟨o.slots,k b o (fun z=>hc (by simp [z])) e⟩) (fun _ _ _ _ n=>n)
  (fun b o hc e=>⟨o,k b o (fun z=>hc (by simp [z])) e⟩) (fun _ _ e=>e) (fun _ _ _ e=>e) (fun b ps e=>⟨#[],by rw [e];simp⟩) (fun m hm=>?_) (fun b u e=>?_) I.bare
 ·have e:b=it:=by simpa using hb
  subst e
  exact ⟨h1,hL,h2,h3⟩
 ·obtain ⟨o,es,ep,ho,r⟩:=hm
  exact ⟨o,es,ep,k _ o (Ne.symm hL) ho,r⟩
 ·refine (I.hok b u e).stay (fun c v hc q=>k c v ?_ q) (fun _ q=>q) fun _ _ q=>q
  rcases hc with z | z
  ·rw [z];exact FP b u e
  ·exact FP c _ z
theorem Inv.tok (I:Inv X pins σ H s) (t:Nat):Inv X pins σ H {s with toks:=t}:=I.un (h':=s.heap) (t':=t) Un.refl I.hok
theorem Inv.kept {t':Nat} (I:Inv X pins σ H s) (k:∀ b u,s.heap.get? b=some u->h'.get? b=some u):Inv X pins σ H {s with heap:=h',toks:=t'}:=I.un (Un.kept k) (I.hok.kept k)
theorem Inv.laid {a:Addr} {o:HO} {t':Nat} (I:Inv X pins σ H s) (k:∀ b u,s.heap.get? b=some u->h'.get? b=some u) (hp:s.heap.objs.size<=a) (new:bz X.prog X.w (upd H a o) h' a o):
  Inv X pins σ (upd H a o) {s with heap:=h',toks:=t'}:=I.un (Un.laid k hp (I.hok.fresh hp)) (I.hok.laid k hp new)
theorem Inv.write {x e:Addr} {o:HO} {t':Nat} (I:Inv X pins σ H s) (mu:Ai (H x)) (he:e=x\/H e=some (.own x)) (k:∀ b u,b≠e->s.heap.get? b=some u->h'.get? b=some u) (uq:∃ u,h'.get? e=some u)
  (new:bz X.prog X.w (upd H x o) h' x o):Inv X pins σ (upd H x o) {s with heap:=h',toks:=t'}:=I.un (Un.write mu he k uq) (I.hok.write mu he k uq new)
theorem Inv.FQ {FS:List (Addr×Obj)} (I:Inv X pins σ H s) (h:∀ p∈FS,s.heap.get? p.1=some p.2/\H p.1=none/\p.1≠X.env.locals/\p.1 ∉ X.fs/\∀ v,p.2.data≠.cell v):Inv X FS σ H s:=
 ⟨I.ok,I.os,I.bare,I.base,I.loc,I.cell,I.free,I.j_,fun p hp=>(List.mem_append.mp hp).elim (fun z=>I.pin p (List.mem_append_left _ z)) (h p),I.hok,I.len⟩
theorem kD (hN:N.Nodup) (a:N[i]? =some x) (b:N[j]? =some x):i=j:=by
 obtain ⟨h1,e1⟩:=List.getElem?_eq_some_iff.mp a
 obtain ⟨h2,e2⟩:=List.getElem?_eq_some_iff.mp b
 exact (List.getElem_inj hN).mp (e1.trans e2.symm)
theorem dR {v:V} {Q:Unit->Shared->Prop} (I:Inv X pins σ H s) (hN:X.N.Nodup) (hi:X.N[i]? =some x) (hx:Loc X.env.scope x) (r:RelV v u)
  (h:∀ s',Inv X pins (σ.set i (some v)) H s'->(∃ a,Heap.SameBut a s.heap s'.heap/\(a=X.env.locals\/X.env.cells.lookup x=some a))->Q () s') (hf:X.fn x=true\/X.env.scope.names.lookup x=some .local:=by first | exact .inl rfl | exact .inr rfl | assumption):wpAny M A (storeName X.env x u) Q E s:=by
 obtain ⟨m,hn,hl⟩:=id I.loc
 have JP:(X.env.scope.kind==.class||(X.env.scope.kind==.module&&X.env.locals !=X.env.globals))=false:=by rw [I.ok.kind];rfl
 have FT:i < σ.length:=by rw [I.len];exact (List.getElem?_eq_some_iff.mp hi).1
 have uv:=I.uv
 have tracked:∀ {a:Addr} {h':Heap},(∃ o,s.heap.get? a=some o/\H a=none)->Heap.SameBut a s.heap h'->cf X.prog X.w H h':=fun {a h'} ha hs b ob e=>by
  obtain ⟨_,_,FU⟩:=ha
  refine (I.hok b ob e).stay (fun c w' hc q=>(hs.2 c ?_).trans q) (fun _ q=>q) fun _ _ q=>q
  rintro rfl
  rcases hc with rfl | hc
  ·rw [FU] at e;cases e
  ·rw [FU] at hc;cases hc
 rcases hx with hk | hk
 ·refine wpAny_storeName_local hk hn (fun h' hn' hs=>?_) JP
  obtain ⟨oL,_,_,JQ,_⟩:=id hn
  refine h _ ⟨I.ok,I.os,I.bare,⟨fun b o e n hb hx=>?_,fun b o e n hb hx=>?_,I.base.free,fun b o e hx=>?_,I.base.tups,I.base.jc,I.base.jt⟩,⟨_,hn',fun j y v' e1 e2 e3=>?_⟩,fun y c e=>?_,I.free,I.j_,fun p hp=>?_,tracked ⟨oL,JQ,I.free⟩ hs,by simpa using I.len⟩ ⟨_,hs,.inl rfl⟩
  ·exact (hs.2 b (Nat.ne_of_lt (Nat.lt_of_lt_of_le (Qz e) I.ok.above))).trans (I.base.keep b o e n hb hx)
  ·obtain ⟨sl,e1⟩:=I.base.slot b o e n hb hx
   exact ⟨sl,(hs.2 b (Nat.ne_of_lt (Nat.lt_of_lt_of_le (Qz e) I.ok.above))).trans e1⟩
  ·obtain ⟨o',e1⟩:=I.base.there b o e hx
   exact ⟨o',(hs.2 b (Nat.ne_of_lt (Nat.lt_of_lt_of_le (Qz e) I.ok.above))).trans e1⟩
  ·by_cases hj:j=i
   ·subst hj
    rw [hi] at e1;cases e1
    rw [List.getElem?_set_self FT] at e2
    cases e2
    exact ⟨u,r,.inl ⟨hk,by simp⟩⟩
   ·rw [List.getElem?_set_ne (Ne.symm hj)] at e2
    obtain ⟨u',r',q⟩:=hl j y v' e1 e2 e3
    refine ⟨u',r',?_⟩
    rcases q with ⟨k,e⟩ | ⟨k,c,e,z⟩
    ·refine .inl ⟨k,?_⟩
     have:y≠x:=fun e=>hj (kD hN e1 (e▸hi))
     simp [this,e]
    ·exact .inr ⟨k,c,e,z.sameBut hs (uv y c e)⟩
  ·obtain ⟨w',z⟩:=I.cell y c e
   exact ⟨w',z.sameBut hs (uv y c e)⟩
  ·obtain ⟨e,n,ne,nf,d⟩:=I.pin p hp
   exact ⟨(hs.2 p.1 ne).trans e,n,ne,nf,d⟩
 ·have Bb:X.fn x=true:=by
   rcases hf with z | z
   ·exact z
   ·rw [z] at hk;cases hk
  obtain ⟨c,hc⟩:=I.ok.has x (.inl hk)
  obtain ⟨w',z⟩:=I.cell x c hc
  refine wpAny_storeName_cell I.ok.kind hk hc z (fun h' oz hs=>?_)
  obtain ⟨oc,FW,JR⟩:=id z
  refine h {s with heap:=h'} ⟨I.ok,I.os,I.bare,⟨fun b o e n hb hx=>?_,fun b o e n hb hx=>?_,I.base.free,fun b o e hx=>?_,I.base.tups,I.base.jc,I.base.jt⟩,⟨m,hn.sameBut hs (Ne.symm (uv x c hc)),fun j y v' e1 e2 e3=>?_⟩,fun y c' e=>?_,I.free,I.j_,fun p hp=>?_,tracked ⟨oc,FW,I.j_ x c hc⟩ hs,by simpa using I.len⟩ ⟨c,hs,.inr hc⟩
  ·exact (hs.2 b (Nat.ne_of_lt (Nat.lt_of_lt_of_le (Qz e) (I.ok.yk x c Bb hc)))).trans (I.base.keep b o e n hb hx)
  ·obtain ⟨sl,e1⟩:=I.base.slot b o e n hb hx
   exact ⟨sl,(hs.2 b (Nat.ne_of_lt (Nat.lt_of_lt_of_le (Qz e) (I.ok.yk x c Bb hc)))).trans e1⟩
  ·obtain ⟨o',e1⟩:=I.base.there b o e hx
   exact ⟨o',(hs.2 b (Nat.ne_of_lt (Nat.lt_of_lt_of_le (Qz e) (I.ok.yk x c Bb hc)))).trans e1⟩
  ·by_cases hj:j=i
   ·subst hj
    rw [hi] at e1;cases e1
    rw [List.getElem?_set_self FT] at e2
    cases e2
    exact ⟨u,r,.inr ⟨.inl hk,c,hc,oz⟩⟩
   ·rw [List.getElem?_set_ne (Ne.symm hj)] at e2
    obtain ⟨u',r',q⟩:=hl j y v' e1 e2 e3
    refine ⟨u',r',?_⟩
    rcases q with q | ⟨k,c',e,z'⟩
    ·exact .inl q
    ·refine .inr ⟨k,c',e,z'.sameBut hs ?_⟩
     rintro rfl
     exact hj (kD hN e1 (I.ok.inj _ _ _ e hc▸hi))
  ·by_cases Du:c'=c
   ·subst Du;exact ⟨_,oz⟩
   ·obtain ⟨w2,z2⟩:=I.cell y c' e
    exact ⟨w2,z2.sameBut hs Du⟩
  ·obtain ⟨e,n,ne,nf,d⟩:=I.pin p hp
   refine ⟨(hs.2 p.1 ?_).trans e,n,ne,nf,d⟩
   intro q
   rw [q,FW] at e
   have q':oc=p.2:=QD e
   exact d w' (by rw [<- q'];exact JR)
theorem kG {v:V} {Q:Unit->Shared->Prop} (I:Inv X pins σ H s) (hN:X.N.Nodup) (hi:X.N[i]? =some x) (hx:Loc X.env.scope x) (r:RelV v u)
  (h:∀ s',Inv X pins (σ.set i (some v)) H s'->Q () s') (hf:X.fn x=true\/X.env.scope.names.lookup x=some .local:=by first | exact .inl rfl | exact .inr rfl | assumption):wpAny M A (storeName X.env x u) Q E s:=
 dR I hN hi hx r (fun s' I' _=>h s' I') hf
theorem Inv.Dv (I:Inv X pins σ H s) (ho:s'.os=s.os) (u:Un (eu X.stack) ch H H' s.heap s'.heap) (hok:cf X.prog X.w H' s'.heap) (hg:AllBare s'.gens)
  (rn:∀ b∈ch,(b∈X.ex\/X.s₀.heap.objs.size<=b)/\b≠X.env.locals/\(∀ x c,X.env.cells.lookup x=some c->c≠b)/\∀ p∈X.pn++pins,p.1≠b):Inv X pins σ H' s':=by
 obtain ⟨h',g',d',t',o'⟩:=s'
 have e:o'=s.os:=ho
 subst e
 exact I.call (g':=g') (t':=t') (d':=d') u hok hg rn
end
abbrev XK:=Value->Option Addr->Hp->Prop
abbrev St:=List (Option V)
end L2
variable {σ:L2.St}
namespace L2
open PySem PySem.Spec PyProof.Rows
abbrev VK:=V->Hp->Prop
abbrev TE:=St->Hp->VK->Prop
end L2
variable {te to:L2.TE}
namespace L2
open PySem PySem.Spec PyProof.Rows
abbrev TT:=St->Hp->(Bool->Hp->Prop)->Prop
abbrev TA:=St->Hp->(List V->Hp->Prop)->Prop
end L2
variable {ta t:L2.TA} {tA:L2.TT}
namespace L2
open PySem PySem.Spec PyProof.Rows
structure Ends where
 nx:St->Hp->Prop
 rt:VK
 bk:St->Hp->Prop:=fun _ _=>False
 ct:St->Hp->Prop:=fun _ _=>False
abbrev TS:=Ends->St->Hp->Prop
def EP (X:Cx) (pins:List (Addr×Obj)) (σ:St) (Q:VK) (u:Value) (s':Shared):Prop:=∃ v H',Inv X pins σ H' s'/\RelV v u/\Q v H'
def TP (X:Cx) (pins:List (Addr×Obj)) (σ:St) (Q:Bool->Hp->Prop) (b:Bool) (s':Shared):Prop:=∃ H',Inv X pins σ H' s'/\Q b H'
def AP (X:Cx) (pins:List (Addr×Obj)) (σ:St) (Q:List V->Hp->Prop) (us:List Value) (s':Shared):Prop:=∃ vs H',Inv X pins σ H' s'/\a_ vs us/\Q vs H'
def SP (X:Cx) (pins:List (Addr×Obj)) (D:Ends) (f:Flow) (s':Shared):Prop:=
 match f with
 | .next=>∃ σ' H',Inv X pins σ' H' s'/\D.nx σ' H'
 | .brk=>∃ σ' H',Inv X pins σ' H' s'/\D.bk σ' H'
 | .cont=>∃ σ' H',Inv X pins σ' H' s'/\D.ct σ' H'
 | .ret u=>∃ v σ' H',Inv X pins σ' H' s'/\RelV v u/\D.rt v H'
def PE (X:Cx) (e:Expr) (t:TE):Prop:=
 ∀ (pins:List (Addr×Obj)) (s:Shared) (σ:St) (H:Hp) (Q:VK),Inv X pins σ H s->t σ H Q->wpAny (model X.prog X.w) X.A (eval e X.env) (EP X pins σ Q) X.xe s
def PT (X:Cx) (e:Expr) (t:TT):Prop:=
 ∀ (pins:List (Addr×Obj)) (s:Shared) (σ:St) (H:Hp) (Q:Bool->Hp->Prop),Inv X pins σ H s->t σ H Q->wpAny (model X.prog X.w) X.A (isTrue e X.env (eval e X.env)) (TP X pins σ Q) X.xe s
def PW (X:Cx) (e:Expr) (t:TT):Prop:=
 ∀ (whole:Sem Value) (pins:List (Addr×Obj)) (s:Shared) (σ:St) (H:Hp) (Q:Bool->Hp->Prop),Inv X pins σ H s->t σ H Q->wpAny (model X.prog X.w) X.A (isTrue e X.env whole) (TP X pins σ Q) X.xe s
theorem PW.pt {t:TT} (h:PW X e t):PT X e t:=h _
def PA (X:Cx) (es:List Expr) (t:TA):Prop:=
 ∀ (pos:Pos) (pins:List (Addr×Obj)) (s:Shared) (σ:St) (H:Hp) (Q:List V->Hp->Prop),Inv X pins σ H s->t σ H Q->wpAny (model X.prog X.w) X.A (spliced (backTo pos (starEach es X.env))) (AP X pins σ Q) X.xe s
def PS (X:Cx) (st:Stmt) (t:TS):Prop:=
 ∀ (pins:List (Addr×Obj)) (s:Shared) (σ:St) (H:Hp) (D:Ends),Inv X pins σ H s->t D σ H->wpAny (model X.prog X.w) X.A (exec st X.env) (SP X pins D) X.xe s
def ju (X:Cx) (st:List Stmt) (t:TS):Prop:=
 ∀ (pins:List (Addr×Obj)) (s:Shared) (σ:St) (H:Hp) (D:Ends),Inv X pins σ H s->t D σ H->wpAny (model X.prog X.w) X.A (execs st X.env) (SP X pins D) X.xe s
theorem av {t:Sem α} {Q Q':α->Shared->Prop} (h:wpAny M A t Q E s) (hQ:∀ a s,Q a s->Q' a s):wpAny M A t Q' E s:=wpAny_mono h hQ fun _ _ x=>x
section
def JS (i:Nat):TE:=fun σ H Q=>∃ v,σ[i]? =some (some v)/\Q v H
def tC (v:V):TE:=fun _ H Q=>Q v H
theorem JT (hN:X.N[i]? =some x) (hv:Al X.env.scope x) (hd:(x==("__debug__":Str))=false:=by decide) (jd:(x==("__classdict__":Str))=false:=by decide):PE X (.Name x pos) (JS i):=by
 intro pins s σ H Q I h
 obtain ⟨v,e,h⟩:=h
 obtain ⟨m,hn,hl⟩:=I.loc
 obtain ⟨u,r,l⟩:=hl i x v hN e hv
 have fin:EP X pins σ Q u s:=⟨v,H,I,r,h⟩
 rcases l with ⟨hk,hm⟩ | ⟨hk,c,hc,Ca⟩
 ·exact wpAny_Name (wpAny_loadName_local I.ok.kind hk hn hm fin) hd
 ·rcases hk with hk | hk
  ·exact wpAny_Name (wpAny_loadName_cell I.ok.kind hk hc Ca fin) hd
  ·exact wpAny_Name (wpAny_loadName_free I.ok.kind hk hc Ca fin jd) hd
theorem yJ {i j pos}:PE X (.Constant (.int i) j pos) (tC (.int i)):=fun _ _ _ H _ I h=>wpAny_Constant_int ⟨.int i,H,I.tok _,⟨_,rfl⟩,h⟩
theorem JU {b j pos}:PE X (.Constant (.bool b) j pos) (tC (.bl b)):=fun _ _ _ H _ I h=>Constant_bool ⟨.bl b,H,I,rfl,h⟩
theorem yP {j pos}:PE X (.Constant .none j pos) (tC .af):=fun _ _ _ H _ I h=>Constant_none ⟨.af,H,I,rfl,h⟩
theorem zT {x j pos}:PE X (.Constant (.str x) j pos) (tC (.str x)):=fun _ _ _ H _ I h=>Calls.Constant_str ⟨.str x,H,I.tok _,⟨_,rfl⟩,h⟩
def Gl (X:Cx) (x:Str):Prop:=X.env.kindOf x=some .globalImplicit
theorem eA (I:Inv X pins σ H s) (hg:Gl X x) (hm:X.mg x=some u) (h:Q u s)
  (hd:(x==("__debug__":Str))=false:=by decide):wpAny (model X.prog X.w) X.A (eval (.Name x pos) X.env) Q E s:=
 Calls.Name_function_global I.ok.kind hg (Calls.loadGlobal_global (by rw [I.ok.glob];exact I.mod.glob.keeps I.bk) hm h) hd
theorem eZ (I:Inv X pins σ H s) (hg:Gl X x) (hm:X.mg x=none) (hv:bootBuiltins x=some u) (h:Q u s)
  (hn:x≠"__name__":=by decide) (hd:(x==("__debug__":Str))=false:=by decide):wpAny (model X.prog X.w) X.A (eval (.Name x pos) X.env) Q E s:=by
 obtain ⟨mb,h1,h2⟩:=I.mod.blt
 exact Calls.Name_function_global I.ok.kind hg (Calls.loadGlobal_builtin (by rw [I.ok.glob];exact I.mod.glob.keeps I.bk) hm (by rw [I.ok.blt];exact h1.keeps I.bk) ((h2 x hn).trans hv) h) hd
theorem qE {v:V} (hg:Gl X x) (hm:X.mg x=some u) (r:RelV v u) (hd:(x==("__debug__":Str))=false:=by decide):PE X (.Name x pos) (tC v):=
 fun _ _ _ H _ I h=>eA I hg hm ⟨v,H,I,r,h⟩ hd
theorem wB {v:V} (hg:Gl X x) (hm:X.mg x=none) (hv:bootBuiltins x=some u) (r:RelV v u) (hn:x≠"__name__":=by decide) (hd:(x==("__debug__":Str))=false:=by decide):PE X (.Name x pos) (tC v):=
 fun _ _ _ H _ I h=>eZ I hg hm hv ⟨v,H,I,r,h⟩ hn hd
variable {a b:Expr} {ta tb:TE}
def tB (t:TE):TT:=fun σ H Q=>t σ H fun x H1=>∃ c,x=.bl c/\Q c H1
theorem yV {t:TE} (h:PE X e t) (he:∀ whole,isTrue e X.env whole=(do let v <- whole;standAt e.pos;holding [v] (truthy v)):=by intro _;rfl):PT X e (tB t):=by
 intro pins s σ H Q I hw
 refine isTrue_plain (av (h pins s σ H _ I hw) fun v s1 ⟨x,H1,I1,r1,q1⟩=>?_) (he _)
 obtain ⟨d,rfl,q⟩:=q1
 cases r1
 exact wpAny_truthy_bool ⟨H1,I1,q⟩
variable {rq:TT} {rest:List Expr}
def FY (t u:TT):TT:=fun σ H Q=>t σ H fun c H1=>if c=true then u σ H1 Q else Q false H1
def FZ (t u:TT):TT:=fun σ H Q=>t σ H fun c H1=>if c=true then Q true H1 else u σ H1 Q
def F0 (t:TT):TT:=fun σ H Q=>t σ H fun c H1=>Q (!c) H1
theorem w6 (ha:PT X a tA):PW X (.BoolOp .And [a] pos) tA:=by
 intro wh pins s σ H Q I h
 refine isTrue_and (av (ha pins s σ H Q I h) fun c s1 e=>?_)
 cases c with
 | true=>exact isTrue_and_nil e
 | false=>exact e
theorem xZ (ha:PT X a tA):PW X (.BoolOp .Or [a] pos) tA:=by
 intro wh pins s σ H Q I h
 refine isTrue_or (av (ha pins s σ H Q I h) fun c s1 e=>?_)
 cases c with
 | false=>exact isTrue_or_nil e
 | true=>exact e
theorem y2 (ha:PT X a tA) (hb:PW X (.BoolOp .And (b::rest) pos) rq):PW X (.BoolOp .And (a::b::rest) pos) (FY tA rq):=by
 intro wh pins s σ H Q I h
 refine isTrue_and (av (ha pins s σ H _ I h) ?_)
 rintro c s1 ⟨H1,I1,q1⟩
 cases c with
 | true=>exact hb wh pins s1 σ H1 Q I1 q1
 | false=>exact ⟨H1,I1,q1⟩
theorem JV (ha:PT X a tA) (hb:PW X (.BoolOp .Or (b::rest) pos) rq):PW X (.BoolOp .Or (a::b::rest) pos) (FZ tA rq):=by
 intro wh pins s σ H Q I h
 refine isTrue_or (av (ha pins s σ H _ I h) ?_)
 rintro c s1 ⟨H1,I1,q1⟩
 cases c with
 | true=>exact ⟨H1,I1,q1⟩
 | false=>exact hb wh pins s1 σ H1 Q I1 q1
theorem JW (ha:PT X a tA):PT X (.UnaryOp .Not a pos) (F0 tA):=by
 intro pins s σ H Q I h
 exact isTrue_not (ha pins s σ H (fun c H1=>Q (!c) H1) I h)
def F1 (t:TT) (ta tb:TE):TE:=fun σ H Q=>t σ H fun c H1=>if c=true then ta σ H1 Q else tb σ H1 Q
theorem u9 {c:Expr} (hc:PT X c tA) (ha:PE X a ta) (hb:PE X b tb):PE X (.IfExp c a b pos) (F1 tA ta tb):=by
 intro pins s σ H Q I h
 refine wpAny_IfExp (av (hc pins s σ H _ I h) ?_)
 rintro d s1 ⟨H1,I1,q1⟩
 cases d with
 | true=>exact ha pins s1 σ H1 Q I1 q1
 | false=>exact hb pins s1 σ H1 Q I1 q1
end
def ao (K:QZ) (H:Hp) (a:Addr) (xs:List V):Prop:=
 Rd H a (.lst xs)\/
  ∃ (o:Obj) (its:Array Value) (n:Nat),K.lookup a=some o/\o.cls=.type "list"/\o.dict=none/\o.data=.seq its n/\its.size<=sizeLine/\a_ xs its.toList
def ae (K:QZ) (H:Hp) (a:Addr) (xs:List V):Prop:=
 Rd H a (.tup xs)\/
  ∃ (o:Obj) (its:Array Value) (n:Nat),K.lookup a=some o/\o.cls=.type "tuple"/\o.data=.seq its n/\its.size<=sizeLine/\a_ xs its.toList
def uw:Value->Option V
 | .none=>some .af
 | .bool b=>some (.bl b)
 | .int i _=>some (.int i)
 | .str x _=>some (.str x)
 | .bytes b _=>some (.jq b)
 | .float b _=>some (.yg b)
 | .ref a=>some (.ref a)
 | .type n=>some (.ty n)
 | _=>none
theorem RelV.abs {x:V} (r:RelV x u):uw u=some x:=by
 cases x with
 | af=>cases r;rfl
 | bl _=>cases r;rfl
 | int _=>obtain ⟨t,rfl⟩:=r;rfl
 | str _=>obtain ⟨t,rfl⟩:=r;rfl
 | jq _=>obtain ⟨t,rfl⟩:=r;rfl
 | yg _=>obtain ⟨t,rfl⟩:=r;rfl
 | ref _=>cases r;rfl
 | ty _=>cases r;rfl
theorem RelV.inj {x y:V} (r:RelV x u) (q:RelV y u):x=y:=QD (r.abs.symm.trans q.abs)
theorem a_.inj:∀ {xs ys:List V} {us:List Value},a_ xs us->a_ ys us->xs=ys
 | _,_,_,.nil,.nil=>rfl
 | _,_,_,.cons r t,.cons r' t'=>by rw [r.inj r',a_.inj t t']
section
variable {xs ys:List V}
theorem ao.of {K:QZ} (h:H a=some (.lst xs)):ao K H a xs:=.inl (.inl h)
theorem ae.of {K:QZ} (h:H a=some (.tup xs)):ae K H a xs:=.inl (.inl h)
theorem Inv.list (I:Inv X pins σ H s) (h:ao X.K H a xs):∃ its:List Value,a_ xs its/\PlainL s.heap a its.toArray/\xs.length<=sizeLine:=by
 rcases h with h | ⟨o,its,n,hk,hc,hd,hs,hz,r⟩
 ·obtain ⟨z,its,n,r,e⟩:=h.ok I.hok
  exact ⟨its,r,⟨_,n,e,rfl,rfl,rfl⟩,z⟩
 ·refine ⟨its.toList,r,⟨o,n,I.cz a o hk,hc,hd,by simpa using hs⟩,?_⟩
  have e:=r.length
  simp only [Array.length_toList] at e
  omega
theorem Inv.tuple (I:Inv X pins σ H s) (h:ae X.K H a xs):∃ its:List Value,a_ xs its/\IsTup s.heap a its.toArray/\xs.length<=sizeLine:=by
 rcases h with h | ⟨o,its,n,hk,hc,hs,hz,r⟩
 ·obtain ⟨⟨z,_⟩,its,r,p⟩:=h.ok I.hok
  exact ⟨its,r,p,z⟩
 ·refine ⟨its.toList,r,⟨o,I.cz a o hk,hc,n,by simpa using hs⟩,?_⟩
  have e:=r.length
  simp only [Array.length_toList] at e
  omega
theorem Inv.Bc (I:Inv X pins σ H s) (h:ao X.K H a xs) (h':ao X.K H a ys):xs=ys:=by
 obtain ⟨its,r,⟨o,n,e,_,_,d⟩,_⟩:=I.list h
 obtain ⟨its',r',⟨o',n',e',_,_,d'⟩,_⟩:=I.list h'
 rw [e] at e';cases e'
 rw [d] at d'
 injection d' with d1 _
 have:its=its':=by simpa using congrArg Array.toList d1
 subst this
 exact r.inj r'
theorem Inv.F2 (I:Inv X pins σ H s) (h:ae X.K H a xs) (h':ae X.K H a ys):xs=ys:=by
 obtain ⟨its,r,⟨o,e,_,n,d⟩,_⟩:=I.tuple h
 obtain ⟨its',r',⟨o',e',_,n',d'⟩,_⟩:=I.tuple h'
 rw [e] at e';cases e'
 rw [d] at d'
 injection d' with d1 _
 have:its=its':=by simpa using congrArg Array.toList d1
 subst this
 exact r.inj r'
end
abbrev Cx.r_ (X:Cx) (E:Value->Shared->Prop):Cx:={X with xe:=E}
abbrev Cx.qt (X:Cx):Cx:=X.r_ fun _ _=>False
theorem Cx.Ok.r_ {X:Cx} (ok:X.Ok) (E:Value->Shared->Prop):(X.r_ E).Ok:=
 ⟨ok.mod,ok.kind,ok.glob,ok.blt,ok.above,ok.inj,ok.has,ok.yk,ok.hd,ok.frames,ok.Am,ok.B9,ok.bs,ok.qm,ok.yl,ok.An,ok.lh,ok.uu⟩
theorem Cx.Ok.wg (ok:(X.r_ E).Ok):X.Ok:=
 ⟨ok.mod,ok.kind,ok.glob,ok.blt,ok.above,ok.inj,ok.has,ok.yk,ok.hd,ok.frames,ok.Am,ok.B9,ok.bs,ok.qm,ok.yl,ok.An,ok.lh,ok.uu⟩
theorem Inv.r_ (I:Inv X pins σ H s) (E:Value->Shared->Prop):Inv (X.r_ E) pins σ H s:=⟨I.ok.r_ E,I.os,I.bare,I.base,I.loc,I.cell,I.free,I.j_,I.pin,I.hok,I.len⟩
theorem Inv.wg (I:Inv (X.r_ E) pins σ H s):Inv X pins σ H s:=⟨I.ok.wg,I.os,I.bare,I.base,I.loc,I.cell,I.free,I.j_,I.pin,I.hok,I.len⟩
theorem SP.wg {D:Ends} {f:Flow} {s':Shared} (h:SP (X.r_ E) pins D f s'):SP X pins D f s':=by
 cases f with
 | next=>obtain ⟨σ',H',I,q⟩:=h;exact ⟨σ',H',I.wg,q⟩
 | brk=>obtain ⟨σ',H',I,q⟩:=h;exact ⟨σ',H',I.wg,q⟩
 | cont=>obtain ⟨σ',H',I,q⟩:=h;exact ⟨σ',H',I.wg,q⟩
 | ret u=>obtain ⟨v,σ',H',I,r,q⟩:=h;exact ⟨v,σ',H',I.wg,r,q⟩
theorem ju.qt {st:List Stmt} {t:TS} (h:ju X.qt st t):ju X st t:=fun pins s σ H D I hw=>
 wpAny_mono (h pins s σ H D (I.r_ _) hw) (fun _ _ q=>q.wg) fun _ _ z=>False.elim z
section
variable {st:Stmt} {rest:List Stmt} {t u:TS}
def Cb:TS:=fun D σ H=>D.nx σ H
def wj (t u:TS):TS:=fun D σ H=>t {D with nx:=u D} σ H
theorem vD:ju X [] Cb:=fun _ _ σ H _ I h=>wpAny_execs_nil ⟨σ,H,I,h⟩
theorem tP (h1:PS X st t) (h2:ju X rest u):ju X (st::rest) (wj t u):=by
 intro pins s σ H D I h
 refine wpAny_execs_cons (av (h1 pins s σ H {D with nx:=u D} I h) fun f s1 q=>?_)
 cases f with
 | next=>
  obtain ⟨σ',H',I',q⟩:=q
  exact h2 pins s1 σ' H' D I' q
 | ret v=>exact q
 | brk=>exact q
 | cont=>exact q
theorem x9 (h1:PS X st t):ju X [st] t:=by
 intro pins s σ H D I h
 refine wpAny_execs_cons (av (h1 pins s σ H D I h) fun f s1 q=>?_)
 cases f with
 | next=>exact wpAny_execs_nil q
 | ret v=>exact q
 | brk=>exact q
 | cont=>exact q
theorem Inv.quiet (I:Inv X pins σ H s):interactive X.env=false:=by simp [interactive,I.ok.kind]
def F4 (te:TE):TS:=fun D σ H=>te σ H fun _ H1=>D.nx σ H1
theorem xA (he:PE X e te) (hs:swapsWith e none pos.line X.env=pure false:=by rfl):PS X (.Expr e pos) (F4 te):=by
 intro pins s σ H D I h
 exact wpAny_Expr_any (av (he pins s σ H _ I h) fun v s1 ⟨x,H1,I1,r1,q1⟩=>⟨σ,H1,I1,q1⟩) I.quiet hs
def F6 (te:TE):TS:=fun D σ H=>te σ H D.rt
theorem zK (he:PE X e te):PS X (.Return (some e) pos) (F6 te):=by
 intro pins s σ H D I h
 exact wpAny_Return_some (av (he pins s σ H _ I h) fun v s1 ⟨x,H1,I1,r1,q1⟩=>⟨x,σ,H1,I1,r1,q1⟩)
def F7 (c:TT) (t u:TS):TS:=fun D σ H=>c σ H fun b H1=>if b=true then t D σ H1 else u D σ H1
theorem JX {c:Expr} {a b:List Stmt} {tc:TT} (hc:PT X c tc) (ha:ju X a t) (hb:ju X b u):PS X (.If c a b pos) (F7 tc t u):=by
 intro pins s σ H D I h
 refine wpAny_If (av (hc pins s σ H _ I h) ?_)
 rintro d s1 ⟨H1,I1,q1⟩
 cases d with
 | true=>exact ha pins s1 σ H1 D I1 q1
 | false=>exact hb pins s1 σ H1 D I1 q1
end
abbrev TG:=V->St->Hp->(St->Hp->Prop)->Prop
abbrev qu:=List V->St->Hp->(St->Hp->Prop)->Prop
def PG (X:Cx) (target:Expr) (t:TG):Prop:=
 ∀ (pins:List (Addr×Obj)) (s:Shared) (σ:St) (H:Hp) (v:V) (u:Value) (Q:St->Hp->Prop),Inv X pins σ H s->RelV v u->t v σ H Q->
  wpAny (model X.prog X.w) X.A (assign target X.env u) (fun _ s'=>∃ σ' H',Inv X pins σ' H' s'/\Q σ' H') X.xe s
def Ao (X:Cx) (ts:List Expr) (t:qu):Prop:=
 ∀ (pins:List (Addr×Obj)) (s:Shared) (σ:St) (H:Hp) (vs:List V) (us:List Value) (Q:St->Hp->Prop),Inv X pins σ H s->a_ vs us->t vs σ H Q->
  wpAny (model X.prog X.w) X.A (assignInOrder ((assignEach ts X.env).map (·.2)) us) (fun _ s'=>∃ σ' H',Inv X pins σ' H' s'/\Q σ' H') X.xe s
abbrev Cc:=V->V->V->Hp->(Hp->Prop)->Prop
def Dw (X:Cx) (t:Cc):Prop:=
 ∀ (pins:List (Addr×Obj)) (s:Shared) (σ:St) (H:Hp) (o i v:V) (ov iv u:Value) (Q:Hp->Prop),Inv X pins σ H s->RelV o ov->RelV i iv->RelV v u->t o i v H Q->
  wpAny (model X.prog X.w) X.A (setItem ov iv u) (fun _ s'=>∃ H',Inv X pins σ H' s'/\Q H') X.xe s
abbrev Bd:=V->V->Hp->VK->Prop
def Cd (X:Cx) (op:Operator) (t:Bd):Prop:=
 ∀ (pins:List (Addr×Obj)) (s:Shared) (σ:St) (H:Hp) (x y:V) (v u:Value) (Q:VK),Inv X pins σ H s->RelV x v->RelV y u->t x y H Q->
  wpAny (model X.prog X.w) X.A (inplaceOp op v u) (EP X pins σ Q) X.xe s
def ia (i:Nat):TG:=fun v σ H Q=>Q (σ.set i (some v)) H
theorem wH (hN:X.N.Nodup) (hi:X.N[i]? =some x) (hx:Loc X.env.scope x) (hf:X.fn x=true\/X.env.scope.names.lookup x=some .local:=by first | exact .inl rfl | exact .inr rfl | assumption):PG X (.Name x pos) (ia i):=by
 intro pins s σ H v u Q I r h
 exact wpAny_assign_Name (kG I hN hi hx r (fun s' I'=>⟨_,H,I',h⟩) hf)
def Ce:qu:=fun vs σ H Q=>vs=[]/\Q σ H
def ym (t:TG) (u:qu):qu:=fun vs σ H Q=>∃ v r,vs=v::r/\t v σ H fun σ' H'=>u r σ' H' Q
theorem xD:Ao X [] Ce:=by
 intro pins s σ H vs us Q I r h
 obtain ⟨e,h⟩:=h
 subst e
 cases r
 exact assignInOrder_nil ⟨σ,H,I,h⟩
theorem uH {t:TG} {u:qu} (h1:PG X e t) (h2:Ao X es u)
  (hs:(assignEach (e::es) X.env).map (·.2)=assign e X.env::(assignEach es X.env).map (·.2):=by rfl):Ao X (e::es) (ym t u):=by
 intro pins s σ H vs us Q I r h
 obtain ⟨v,vr,e1,h⟩:=h
 subst e1
 cases r with
 | cons r rr=>
  rw [hs]
  refine assignInOrder_cons (av (h1 pins s σ H _ _ _ I r h) ?_)
  rintro _ s1 ⟨σ1,H1,I1,q1⟩
  exact h2 pins s1 σ1 H1 _ _ Q I1 rr q1
def Be (K:QZ) (n:Nat) (t:qu):TG:=fun v σ H Q=>∃ a xs,v=.ref a/\ae K H a xs/\xs.length=n/\t xs σ H Q
theorem yS {k:Nat} {t:qu} (hc:X.calm=true) (h:Ao X es t)
  (hn:(assignEach es X.env).length=n:=by rfl) (hst:(assignEach es X.env).findIdx? (·.1)=none:=by rfl):PG X (.Tuple es k pos) (Be X.K n t):=by
 intro pins s σ H v u Q I r hw
 obtain ⟨a,xs,e1,hq,hl,hw⟩:=hw
 subst e1
 cases r
 obtain ⟨its,rv,ht,hz⟩:=I.tuple hq
 refine assign_Tuple_tuple (I.ok.hd hc) ht (by simp [hn,<- hl,rv.length]) hst fun h' hx=>?_
 have I1:Inv X pins σ H {s with heap:=h'}:=I.kept (t':=s.toks) fun b o e=>hx b o (Nat.ne_of_lt (Qz e)) e
 exact h pins _ σ H xs _ Q I1 (by simpa using rv) hw
def F8 (to ti:TE) (t:Cc):TG:=fun v σ H Q=>to σ H fun o H1=>ti σ H1 fun i H2=>t o i v H2 fun H3=>Q σ H3
theorem zI {o i:Expr} {ti:TE} {t:Cc} (ho:PE X o to) (hi:PE X i ti) (hs:Dw X t)
  (ha:∀ v,assign (.Subscript o i pos) X.env v=(do
   let ov <- holding [v] (eval o X.env)
   let iv <- holding [v,ov] (eval i X.env)
   standAt pos
   holding [v,ov,iv] (setItem ov iv v)
   release [v,ov,iv] []):=by intro _;rfl):PG X (.Subscript o i pos) (F8 to ti t):=by
 intro pins s σ H v u Q I r h
 rw [ha]
 refine QS (wpAny_holding (av (ho pins s σ H _ I h) ?_))
 rintro ov s1 ⟨x,H1,I1,r1,q1⟩
 refine QS (wpAny_holding (av (hi pins s1 σ H1 _ I1 q1) ?_))
 rintro iv s2 ⟨y,H2,I2,r2,q2⟩
 refine QS (wpAny_standAt (QS (wpAny_holding (av (hs pins s2 σ H2 x y v ov iv u _ I2 r1 r2 r q2) ?_))))
 rintro _ s3 ⟨H3,I3,q3⟩
 exact wpAny_release ⟨σ,H3,I3,q3⟩
def o_ (te:TE) (g:TG):TS:=fun D σ H=>te σ H fun x H1=>g x σ H1 D.nx
theorem yY {g:TG} (he:PE X e te) (hg:PG X tg g) (hs:swapsWithSole [tg] e pos.line X.env=pure false:=by rfl) (hw:swappedStores [tg] e X.env=pure none:=by rfl)
  (h1:(assignEach [tg] X.env).map (·.2)=[assign tg X.env]:=by rfl):PS X (.Assign [tg] e pos) (o_ te g):=by
 intro pins s σ H D I h
 refine wpAny_Assign_stores (av (he pins s σ H _ I h) fun v s1 ⟨x,H1,I1,r1,q1⟩=>?_) hs hw
 rw [h1]
 exact av (hg pins s1 σ H1 x v _ I1 r1 q1) fun _ s2 q=>q
theorem zP (hN:X.N.Nodup) (hi:X.N[i]? =some x) (hx:Loc X.env.scope x) (he:PE X e te) (hs:swapsWith e (some (.Name x pos')) pos.line X.env=pure false:=by rfl) (hf:X.fn x=true\/X.env.scope.names.lookup x=some .local:=by first | exact .inl rfl | exact .inr rfl | assumption):
  PS X (.Assign [.Name x pos'] e pos) (o_ te (ia i)):=by
 intro pins s σ H D I h
 refine wpAny_Assign_Name (av (he pins s σ H _ I h) fun v s1 ⟨y,H1,I1,r1,q1⟩=>?_) hs
 exact kG I1 hN hi hx r1 (fun s2 I2=>⟨_,H1,I2,q1⟩) hf
def F9 (i:Nat) (te:TE) (ti:Bd):TS:=fun D σ H=>∃ x,σ[i]? =some (some x)/\te σ H fun y H1=>ti x y H1 fun z H2=>D.nx (σ.set i (some z)) H2
theorem zE {op:Operator} {ti:Bd} (hN:X.N.Nodup) (hi:X.N[i]? =some x) (hx:Loc X.env.scope x) (he:PE X e te) (ho:Cd X op ti) (hf:X.fn x=true\/X.env.scope.names.lookup x=some .local:=by first | exact .inl rfl | exact .inr rfl | assumption):
  PS X (.AugAssign (.Name x pos') op e pos) (F9 i te ti):=by
 intro pins s σ H D I h
 obtain ⟨v,e1,h⟩:=h
 obtain ⟨m,hn,hl⟩:=I.loc
 have JY:Al X.env.scope x:=by rcases hx with k | k;exact .inl k;exact .inr (.inl k)
 obtain ⟨u,r,l⟩:=hl i x v hi e1 JY
 refine wpAny_AugAssign_Name ?_
 have go:wpAny (model X.prog X.w) X.A (eval e X.env) (fun w s₂=>wpAny (model X.prog X.w) X.A (inplaceOp op u w) (fun r s₃=>wpAny (model X.prog X.w) X.A (storeName X.env x r) (fun _=>SP X pins D .next) X.xe s₃) X.xe s₂) X.xe s:=by
  refine av (he pins s σ H _ I h) ?_
  rintro w s1 ⟨y,H1,I1,r1,q1⟩
  refine av (ho pins s1 σ H1 v y u w _ I1 r r1 q1) ?_
  rintro z s2 ⟨zv,H2,I2,r2,q2⟩
  exact kG I2 hN hi hx r2 (fun s3 I3=>⟨_,H2,I3,q2⟩) hf
 rcases l with ⟨hk,hm⟩ | ⟨hk,c,hc,Ca⟩
 ·exact wpAny_loadName_local I.ok.kind hk hn hm go
 ·rcases hk with hk | hk
  ·exact wpAny_loadName_cell I.ok.kind hk hc Ca go
  ·rcases hx with k | k
   ·have:X.env.scope.names.lookup x=some .free:=hk
    rw [k] at this;cases this
   ·have:X.env.scope.names.lookup x=some .free:=hk
    rw [k] at this;cases this
def JZ (f:Int->Int->Int):Bd:=fun x y H Q=>∃ i j,x=.int i/\y=.int j/\Q (.int (f i j)) H
theorem mC:Cd X .Add (JZ fun i j=>i+j):=by
 intro pins s σ H x y v u Q I r1 r2 h
 obtain ⟨i,j,e1,e2,q⟩:=h
 subst e1;subst e2
 obtain ⟨t,rfl⟩:=r1
 obtain ⟨t',rfl⟩:=r2
 exact iadd_int ⟨.int _,H,I.tok _,⟨_,rfl⟩,q⟩
def F_ (c:TT) (tb:TS):TS:=fun D σ H=>∃ W:Nat->St->Hp->Prop,(∃ m,W m σ H)/\∀ m σ H,W m σ H->
 c σ H fun b H1=>if b=true then ∃ N:St->Hp->Prop,(∀ σ' H',N σ' H'->∃ m',m' < m/\W m' σ' H')/\tb {D with nx:=N,ct:=N,bk:=D.nx} σ H1 else D.nx σ H1
theorem u6 {c:Expr} {tc:TT} {tb:TS} (hp:PassesOwn (model X.prog X.w) X.A X.env X.xe) (hc:PT X c tc) (hb:ju X body tb):PS X (.While c body [] pos) (F_ tc tb):=by
 intro pins s σ H D I h
 obtain ⟨W,⟨m0,w0⟩,turn⟩:=h
 refine wpAny_While (codeAny_whileLoop (fun n s'=>∃ σ' H',Inv X pins σ' H' s'/\W n σ' H') ?_ m0 ⟨σ,H,I,w0⟩)
 rintro n s1 ⟨σ1,H1,I1,w1⟩
 refine wpAny_passesOwn hp (av (hc pins s1 σ1 H1 _ I1 (turn n σ1 H1 w1)) ?_)
 rintro b s2 ⟨H2,I2,q2⟩
 cases b with
 | true=>
  obtain ⟨N,hN,q2⟩:=q2
  rw [if_pos rfl]
  refine wpAny_passesOwn hp (av (hb pins s2 σ1 H2 _ I2 q2) fun f s3 q3=>?_)
  cases f with
  | next=>
   obtain ⟨σ3,H3,I3,n3⟩:=q3
   obtain ⟨m',hm,w3⟩:=hN σ3 H3 n3
   exact ⟨m',hm,σ3,H3,I3,w3⟩
  | cont=>
   obtain ⟨σ3,H3,I3,n3⟩:=q3
   obtain ⟨m',hm,w3⟩:=hN σ3 H3 n3
   exact ⟨m',hm,σ3,H3,I3,w3⟩
  | brk=>exact q3
  | ret v=>exact q3
 | false=>
  rw [if_neg Bool.false_ne_true]
  exact wpAny_execs_nil ⟨σ1,H2,I2,q2⟩
structure It where
 go:Nat->Hp->Prop
 lj:Nat->Hp->V->Hp->Prop
 stop:Nat->Hp->Prop
def lq (X:Cx) (pins:List (Addr×Obj)) (H:Hp) (b:Addr):Prop:=
 H b=none/\b≠X.env.locals/\b ∉ X.fs/\(b∈X.ex\/X.s₀.heap.objs.size<=b)/\(∀ x c,X.env.cells.lookup x=some c->c≠b)/\∀ p∈X.pn++pins,p.1≠b
theorem Inv.wk (I:Inv X pins σ H s) (hb:s.heap.objs.size<=b) (hn:H' b=none):lq X pins H' b:=by
 refine ⟨hn,Nat.ne_of_gt (Nat.lt_of_lt_of_le I.lt hb),I.JN hb,.inr (Nat.le_trans I.sz hb),fun x c e z=>?_,fun p hp z=>?_⟩
 ·obtain ⟨v,q⟩:=I.cell x c e
  exact absurd (Nat.lt_of_lt_of_le q.lt (by rw [z];exact hb)) (Nat.lt_irrefl _)
 ·exact absurd (Nat.lt_of_lt_of_le (Qz (I.pin p hp).1) (by rw [z];exact hb)) (Nat.lt_irrefl _)
structure Turn (P:Program) (w:World) (K:QZ) (tg:Expr) (J:It) (fp:List Addr) (it:Addr) (tn:Nat->Heap->Prop):Prop where
 mem:it∈fp
 obj:∀ i h,tn i h->∀ b∈fp,∃ o,h.get? b=some o/\∀ v,o.data≠.cell v
 keep:∀ i h h',tn i h->(∀ b∈fp,∀ o,h.get? b=some o->h'.get? b=some o)->tn i h'
 item:∀ (X:Cx),X.prog=P->X.w=w->X.K=K->X.calm=true->∀ (i:Nat) (pins:List (Addr×Obj)) (s:Shared) (σ:St) (H:Hp) (E:Value->Shared->Prop),Inv X pins σ H s->(∀ b∈fp,lq X pins H b)->tn i s.heap->J.go i H->
  wpAny (model P w) X.A (pyNext (.ref it)) (fun r s1=>∃ u,r=some u/\
   wpAny (model P w) X.A (letOwnedTupleGo tg (.ref it) u) (fun _ s2=>∃ x H',Inv X pins σ H' s2/\RelV x u/\J.lj i H x H'/\tn (i+1) s2.heap/\∀ b∈fp,H' b=none) E s1) E s
 done:∀ (X:Cx),X.prog=P->X.w=w->X.K=K->X.calm=true->∀ (i:Nat) (pins:List (Addr×Obj)) (s:Shared) (σ:St) (H:Hp) (E:Value->Shared->Prop),Inv X pins σ H s->(∀ b∈fp,lq X pins H b)->tn i s.heap->J.stop i H->
  wpAny (model P w) X.A (pyNext (.ref it)) (fun r s1=>r=none/\Inv X pins σ H s1) E s
 self:∀ (A:Around) (i:Nat) (s:Shared) (Q:Value->Shared->Prop) (E:Value->Shared->Prop),tn i s.heap->Q (.ref it) s->wpAny (model P w) A (pyIter (.ref it)) Q E s
abbrev TI:=St->Hp->(It->Hp->Prop)->Prop
def Aq (X:Cx) (pins:List (Addr×Obj)) (σ:St) (tg:Expr) (R:It->Hp->Prop) (lu:Value) (s2:Shared):Prop:=
 ∃ (it:Addr) (fp:List Addr) (tn:Nat->Heap->Prop) (J:It) (H':Hp),lu=.ref it/\Inv X pins σ H' s2/\Turn X.prog X.w X.K tg J fp it tn/\tn 0 s2.heap/\(∀ b∈fp,lq X pins H' b)/\R J H'
def PI (X:Cx) (tg iter:Expr) (wi:TI):Prop:=
 ∀ (pins:List (Addr×Obj)) (s:Shared) (σ:St) (H:Hp) (R:It->Hp->Prop),Inv X pins σ H s->wi σ H R->
  wpAny (model X.prog X.w) X.A (eval iter X.env) (fun v s1=>wpAny (model X.prog X.w) X.A (pyIter v) (Aq X pins σ tg R) X.xe s1) X.xe s
theorem qF {M : Model} {A : Around} {E : Value -> Shared -> Prop} {s : Shared} {tg : Expr} {it : Addr} {u : Value} {o : Obj} {n : String} {vs : Array Value} {Q : Unit -> Shared -> Prop} (ho : s.heap.get? it = some o) (hc : o.cls = .type n) (hd : o.data = .fields vs)
    (hn : ["enumerate", "zip", "dict_itemiterator", "dict_reverseitemiterator", "odict_iterator", "itertools.zip_longest", "itertools.pairwise"].contains n = false) (hQ : Q () s) : wpAny M A (letOwnedTupleGo tg (.ref it) u) Q E s := by
  unfold letOwnedTupleGo
  cases tg <;> first
    | exact QT hQ
    | (cases u <;> first
        | exact QT hQ
        | (refine QS (wpAny_load ho ?_)
           rw [hc, hd]
           show wpAny M A (if (["enumerate", "zip", "dict_itemiterator", "dict_reverseitemiterator", "odict_iterator", "itertools.zip_longest", "itertools.pairwise"].contains n && vs[0]? == some (rawInt _)) = true then _ else _) Q E s
           rw [if_neg (by intro h; rw [hn, Bool.false_and] at h; cases h)]
           exact QT hQ))
def Dy (K:QZ) (a:Addr):It:=
 ⟨fun i H=>∃ xs x,ao K H a xs/\xs[i]? =some x,fun i H x H'=>H'=H/\∀ xs,ao K H a xs->xs[i]? =some x,fun i H=>∃ xs,ao K H a xs/\xs.length<=i⟩
def Dz (K:QZ) (a:Addr):It:=
 ⟨fun i H=>∃ xs x,ae K H a xs/\xs[i]? =some x,fun i H x H'=>H'=H/\∀ xs,ae K H a xs->xs[i]? =some x,fun i H=>∃ xs,ae K H a xs/\xs.length<=i⟩
def Cf (lo:Int) (n:Nat):It:=⟨fun i _=>i < n,fun i H x H'=>H'=H/\x=.int (lo+i),fun i _=>n<=i⟩
theorem rO {K:QZ} (a it:Addr):Turn P w K tg (Dy K a) [it] it (fun i h=>h.IsListIter it a i) where
 mem:=by simp
 obj:=fun i h st b hb=>by
  have e:b=it:=by simpa using hb
  subst e
  obtain ⟨o,e,c,d⟩:=st
  exact ⟨o,e,fun v z=>by rw [d] at z;cases z⟩
 keep:=fun i h h' st k=>st.at fun o e=>k it (by simp) o e
 item:=by
  intro X hP hw hK hc i pins s σ H E I hf st hg
  subst hP hw hK
  obtain ⟨xs,x,hq,hx⟩:=hg
  obtain ⟨its,rv,p,hz⟩:=I.list hq
  obtain ⟨u,hu,ru⟩:=rv.get hx
  obtain ⟨f0,f1,f2,f3,f4,f5⟩:=hf it (by simp)
  refine wpAny_pyNext_list_item st p.isList (x:=u) (by simpa using hu) fun h' st' sb=>?_
  have I1:Inv X pins σ H {s with heap:=h'}:=I.turned (t':=s.toks) (fun b o hb e=>(sb.2 b hb).trans e) f0 f1 f3 f4 f5
  obtain ⟨o,e,c,d⟩:=id st'
  exact ⟨u,rfl,qF (s:={s with heap:=h'}) e c d (by decide) ⟨x,H,I1,ru,⟨rfl,fun ys hy=>by rw [I.Bc hy hq];exact hx⟩,st',fun b hb=>(hf b hb).1⟩⟩
 done:=by
  intro X hP hw hK hc i pins s σ H E I hf st hg
  subst hP hw hK
  obtain ⟨xs,hq,hx⟩:=hg
  obtain ⟨its,rv,p,hz⟩:=I.list hq
  obtain ⟨f0,f1,f2,f3,f4,f5⟩:=hf it (by simp)
  have hl:=rv.length
  exact wpAny_pyNext_list_end (I.ok.hd hc) st p.isList (by simp;omega) fun h' eb=>⟨rfl,I.turned (t':=s.toks) (fun b o hb e=>eb b o hb e) f0 f1 f3 f4 f5⟩
 self:=fun _ _ _ _ _ st h=>wpAny_pyIter_listiter st h
theorem pB {K:QZ} (a it:Addr):Turn P w K tg (Dz K a) [it] it (fun i h=>h.IsTupleIter it a i) where
 mem:=by simp
 obj:=fun i h st b hb=>by
  have e:b=it:=by simpa using hb
  subst e
  obtain ⟨o,e,c,d⟩:=st
  exact ⟨o,e,fun v z=>by rw [d] at z;cases z⟩
 keep:=fun i h h' st k=>st.at fun o e=>k it (by simp) o e
 item:=by
  intro X hP hw hK hc i pins s σ H E I hf st hg
  subst hP hw hK
  obtain ⟨xs,x,hq,hx⟩:=hg
  obtain ⟨its,rv,p,hz⟩:=I.tuple hq
  obtain ⟨u,hu,ru⟩:=rv.get hx
  obtain ⟨f0,f1,f2,f3,f4,f5⟩:=hf it (by simp)
  refine wpAny_pyNext_tuple_item st (show s.heap.IsTuple a its.toArray from p) (x:=u) (by simpa using hu) fun h' st' sb=>?_
  have I1:Inv X pins σ H {s with heap:=h'}:=I.turned (t':=s.toks) (fun b o hb e=>(sb.2 b hb).trans e) f0 f1 f3 f4 f5
  obtain ⟨o,e,c,d⟩:=id st'
  exact ⟨u,rfl,qF (s:={s with heap:=h'}) e c d (by decide) ⟨x,H,I1,ru,⟨rfl,fun ys hy=>by rw [I.F2 hy hq];exact hx⟩,st',fun b hb=>(hf b hb).1⟩⟩
 done:=by
  intro X hP hw hK hc i pins s σ H E I hf st hg
  subst hP hw hK
  obtain ⟨xs,hq,hx⟩:=hg
  obtain ⟨its,rv,p,hz⟩:=I.tuple hq
  obtain ⟨f0,f1,f2,f3,f4,f5⟩:=hf it (by simp)
  have hl:=rv.length
  exact wpAny_pyNext_tuple_end (I.ok.hd hc) st (show s.heap.IsTuple a its.toArray from p) (by simp;omega) fun h' eb=>⟨rfl,I.turned (t':=s.toks) (fun b o hb e=>eb b o hb e) f0 f1 f3 f4 f5⟩
 self:=fun _ _ _ _ _ st h=>wpAny_pyIter_tupleiter st h
theorem pV {K:QZ} (it:Addr) (lo:Int) (n:Nat):Turn P w K tg (Cf lo n) [it] it (fun i h=>IsRangeIter h it (lo+(i:Nat)*1) ((n:Int) - (i:Nat)) 1) where
 mem:=by simp
 obj:=fun i h st b hb=>by
  have e:b=it:=by simpa using hb
  subst e
  exact ⟨_,st,fun v z=>by
   have z':Data.fields _=Data.cell v:=z
   cases z'⟩
 keep:=fun i h h' st k=>k it (by simp) _ st
 item:=by
  intro X hP hw hK hc i pins s σ H E I hf st hg
  subst hP hw hK
  obtain ⟨f0,f1,f2,f3,f4,f5⟩:=hf it (by simp)
  have W:=Walks.range (prog:=X.prog) (w:=X.w) (I.ok.hd hc) it lo 1 n
  refine W.item i s _ _ hg st fun v h' tk hv st' kk=>?_
  obtain ⟨t,rfl⟩:=hv
  have I1:Inv X pins σ H {s with heap:=h',toks:=tk}:=I.turned (fun b o hb e=>kk b o (by simpa using hb) e) f0 f1 f3 f4 f5
  refine ⟨_,rfl,qF (s:={s with heap:=h',toks:=tk}) (n:="range_iterator") st' rfl rfl (by decide) ⟨.int (lo+i),H,I1,⟨t,?_⟩,⟨rfl,rfl⟩,st',fun b hb=>(hf b hb).1⟩⟩
  rw [Int.mul_one]
 done:=by
  intro X hP hw hK hc i pins s σ H E I hf st hg
  subst hP hw hK
  obtain ⟨f0,f1,f2,f3,f4,f5⟩:=hf it (by simp)
  exact wpAny_pyNext_range_end (I.ok.hd hc) st (by have:n<=i:=hg;omega) fun h' eb=>⟨rfl,I.turned (t':=s.toks) (fun b o hb e=>eb b o hb e) f0 f1 f3 f4 f5⟩
 self:=fun _ _ _ _ _ st h=>wpAny_pyIter_rangeiter st h
theorem sW {R:It->Hp->Prop} {lo hi:Int} {t u v:Tok} {tk:Nat} (I:Inv X pins σ H s) (h1: -(2^62)<=lo) (h2:lo < 2^62) (h3: -(2^62)<=hi) (h4:hi < 2^62)
  (q:R (Cf lo (hi - lo).toNat) H):wpAny (model X.prog X.w) X.A (pyIter (.ref s.heap.objs.size)) (Aq X pins σ tg R) E {s with heap:=s.heap.push {cls:=.type "range",data:=.fields #[.int lo t,.int hi u,.int 1 v]},toks:=tk}:=by
 refine wpAny_pyIter_range (IsRange.new ..) (small_one h1 h2 h3 h4) ?_
 have I1:Inv X pins σ H {s with heap:=s.heap.push {cls:=.type "range",data:=.fields #[.int lo t,.int hi u,.int 1 v]},toks:=tk}:=I.kept fun b o e=>Qc _ e
 refine ⟨(s.heap.push {cls:=.type "range",data:=.fields #[.int lo t,.int hi u,.int 1 v]}).objs.size,[(s.heap.push {cls:=.type "range",data:=.fields #[.int lo t,.int hi u,.int 1 v]}).objs.size],_,_,H,rfl,
  I1.kept (t':=tk) fun b o e=>Qc _ e,pV _ lo (hi - lo).toNat,?_,fun b hb=>?_,q⟩
 ·have e1:lo+((0:Nat):Int)*1=lo:=by simp
  have e2:(((hi - lo).toNat:Nat):Int) - ((0:Nat):Int)=Builtin.Range.rangeSize lo hi 1:=by rw [rangeSize_one];split<;>omega
  show IsRangeIter _ _ (lo+((0:Nat):Int)*1) ((((hi - lo).toNat:Nat):Int) - ((0:Nat):Int)) 1
  rw [e1,e2]
  exact Qd _ rfl
 ·have e:b=(s.heap.push {cls:=.type "range",data:=.fields #[.int lo t,.int hi u,.int 1 v]}).objs.size:=by simpa using hb
  subst e
  exact I1.wk (Qy _) (I1.hok.fresh (Qy _))
def Ga (ta:TA):TI:=fun σ H R=>ta σ H fun vs H1=>∃ j:Int,vs=[.int j]/\ -(2^62)<=j/\j < 2^62/\R (Cf 0 j.toNat) H1
theorem qR {a:Expr} (hg:Gl X "range") (hm:X.mg "range"=none) (ha:PA X [a] ta) (hs:starEach [a] X.env=[(false,eval a X.env)]:=by rfl):PI X tg (.Call (.Name "range" p) [a] [] pos) (Ga ta):=by
 intro pins s σ H R I h
 refine Call_ (eZ I hg hm boot_range (PyProof.Rows.callWith_type1 (av (ha pos pins s σ H _ I h) fun us s1 ⟨vs,H1,I1,r1,q1⟩=>?_) hs rfl))
 obtain ⟨j,e,q1,q2,q⟩:=q1
 subst e
 cases r1 with
 | cons r rr=>
  cases rr
  obtain ⟨t,rfl⟩:=r
  exact call_range_1 (sW I1 (by omega) (by omega) q1 q2 (by simpa using q))
def Gb (wi:TI) (g:TG) (tb:TS):TS:=fun D σ H=>wi σ H fun J H1=>∃ W:Nat->Nat->St->Hp->Prop,(∃ m,W 0 m σ H1)/\∀ i m σ H,W i m σ H->
 (J.stop i H/\D.nx σ H)\/(J.go i H/\∃ N:St->Hp->Prop,(∀ σ' H',N σ' H'->∃ m',m' < m/\W (i+1) m' σ' H')/\∀ x H',J.lj i H x H'->g x σ H' fun σ2 H2=>tb {D with nx:=N,ct:=N,bk:=D.nx} σ2 H2)
def Bf (fp:List Addr) (h:Heap):List (Addr×Obj):=fp.filterMap fun b=>(h.get? b).map fun o=>(b,o)
theorem eE {o:Obj} (hb:b∈fp) (e:h.get? b=some o):(b,o)∈Bf fp h:=List.mem_filterMap.mpr ⟨b,hb,by rw [e];rfl⟩
theorem rM {p:Addr×Obj} (hp:p∈Bf fp h):p.1∈fp/\h.get? p.1=some p.2:=by
 obtain ⟨b,hb,e⟩:=List.mem_filterMap.mp hp
 cases q:h.get? b with
 | none=>rw [q] at e;cases e
 | some o=>
  rw [q] at e
  have e':(b,o)=p:=QD e
  subst e'
  exact ⟨hb,q⟩
theorem Inv.pinned (I:Inv X pins σ H s) (hf:∀ b∈fp,lq X pins H b) (ho:∀ b∈fp,∃ o,s.heap.get? b=some o/\∀ v,o.data≠.cell v):Inv X (pins++Bf fp s.heap) σ H s:=
 I.FQ fun p hp=>(List.mem_append.mp hp).elim (fun z=>I.pin p (List.mem_append_right _ z)) fun z=>by
  obtain ⟨hb,e⟩:=rM z
  obtain ⟨f0,f1,f2,_⟩:=hf p.1 hb
  obtain ⟨o,e',d⟩:=ho p.1 hb
  rw [e] at e';cases e'
  exact ⟨e,f0,f1,f2,d⟩
theorem Inv.Cg {pl:List (Addr×Obj)} (I:Inv X (pins++pl) σ H s):Inv X pins σ H s:=I.FQ fun p hp=>I.pin p (List.mem_append_right _ (List.mem_append_left _ hp))
theorem yL {iter:Expr} {wi:TI} {g:TG} {tb:TS} (hp:PassesOwn (model X.prog X.w) X.A X.env X.xe) (hc:X.calm=true) (hi:PI X tg iter wi) (hg:PG X tg g) (hb:ju X body tb)
  (hs:∀ x,foldedSetIterable iter X.env x=pure x:=by intro _;rfl):PS X (.For tg iter body [] pos) (Gb wi g tb):=by
 intro pins s σ H D I h
 refine wpAny_For (av (hi pins s σ H _ I h) fun v s1 h1=>av h1 fun lu s2 h2=>?_) hs
 obtain ⟨it,fp,tn,J,H2,e,I2,T,Ci,f2,W,⟨m0,w0⟩,turn⟩:=h2
 subst e
 -- Ar stays true of Gc O7 objects through Gc loop
 have yn:∀ {H':Hp},(∀ b∈fp,H' b=none)->∀ b∈fp,lq X pins H' b:=fun hn b hb=>⟨hn b hb,(f2 b hb).2⟩
 refine codeAny_forLoop_any (fun n s'=>∃ i σ' H',Inv X pins σ' H' s'/\tn i s'.heap/\(∀ b∈fp,H' b=none)/\W i n σ' H') ?_ m0 ⟨0,σ,H2,I2,Ci,fun b hb=>(f2 b hb).1,w0⟩
 rintro n s3 ⟨i,σ3,H3,I3,Bg,Bh,w3⟩
 rcases turn i n σ3 H3 w3 with ⟨stop,qn⟩ | ⟨go,N,hN,step⟩
 ·refine wpAny_passesOwn hp (av (T.done X rfl rfl rfl hc i pins s3 σ3 H3 X.xe I3 (yn Bh) Bg stop) ?_)
  rintro r s4 ⟨hr,I4⟩
  subst hr
  exact wpAny_execs_nil ⟨σ3,H3,I4,qn⟩
 ·refine wpAny_passesOwn hp (av (T.item X rfl rfl rfl hc i pins s3 σ3 H3 X.xe I3 (yn Bh) Bg go) ?_)
  rintro r s4 ⟨u,hr,h4⟩
  subst hr
  refine wpAny_passesOwn hp (av h4 ?_)
  rintro _ s5 ⟨x,H5,I5,r5,y5,yo,DB⟩
  have DC:=I5.pinned (yn DB) (T.obj _ _ yo)
  refine wpAny_passesOwn hp (av (hg _ s5 σ3 H5 x u _ DC r5 (step x H5 y5)) ?_)
  rintro _ s6 ⟨σ6,H6,I6,q6⟩
  refine wpAny_passesOwn hp (av (hb _ s6 σ6 H6 _ I6 q6) fun f s7 q7=>?_)
  have again:∀ {σ7:St} {H7:Hp},Inv X (pins++Bf fp s5.heap) σ7 H7 s7->N σ7 H7->∃ m,m < n/\∃ i σ' H',Inv X pins σ' H' s7/\tn i s7.heap/\(∀ b∈fp,H' b=none)/\W i m σ' H':=fun {σ7 H7} I7 n7=>by
   obtain ⟨m',hm,w7⟩:=hN σ7 H7 n7
   refine ⟨m',hm,i+1,σ7,H7,I7.Cg,T.keep _ _ _ yo fun b hb o e=>(I7.pin (b,o) (List.mem_append_right _ (List.mem_append_right _ (eE hb e)))).1,fun b hb=>?_,w7⟩
   obtain ⟨o,e,d⟩:=T.obj _ _ yo b hb
   exact (I7.pin (b,o) (List.mem_append_right _ (List.mem_append_right _ (eE hb e)))).2.1
  cases f with
  | next=>obtain ⟨σ7,H7,I7,n7⟩:=q7;exact again I7 n7
  | cont=>obtain ⟨σ7,H7,I7,n7⟩:=q7;exact again I7 n7
  | brk=>obtain ⟨σ7,H7,I7,q7⟩:=q7;exact ⟨σ7,H7,I7.Cg,q7⟩
  | ret v=>obtain ⟨x7,σ7,H7,I7,r7,q7⟩:=q7;exact ⟨x7,σ7,H7,I7.Cg,r7,q7⟩
abbrev R2:=V->V->Hp->VK->Prop
def bw (X:Cx) (f:Value->Value->Sem Value) (r:R2):Prop:=
 ∀ (pins:List (Addr×Obj)) (s:Shared) (σ:St) (H:Hp) (x y:V) (v u:Value) (Q:VK),Inv X pins σ H s->RelV x v->RelV y u->r x y H Q->
  wpAny (model X.prog X.w) X.A (f v u) (EP X pins σ Q) X.xe s
def Cj (X:Cx) (f:Value->Sem Value) (r:V->Hp->VK->Prop):Prop:=
 ∀ (pins:List (Addr×Obj)) (s:Shared) (σ:St) (H:Hp) (x:V) (v:Value) (Q:VK),Inv X pins σ H s->RelV x v->r x H Q->
  wpAny (model X.prog X.w) X.A (f v) (EP X pins σ Q) X.xe s
def je (X:Cx) (f:Value) (r:List V->Hp->VK->Prop):Prop:=
 ∀ (pins:List (Addr×Obj)) (s:Shared) (σ:St) (H:Hp) (xs:List V) (us:List Value) (Q:VK),Inv X pins σ H s->a_ xs us->r xs H Q->
  wpAny (model X.prog X.w) X.A (call f us) (EP X pins σ Q) X.xe s
def J0 (X:Cx) (r:V->Hp->(Bool->Hp->Prop)->Prop):Prop:=
 ∀ (pins:List (Addr×Obj)) (s:Shared) (σ:St) (H:Hp) (x:V) (v:Value) (Q:Bool->Hp->Prop),Inv X pins σ H s->RelV x v->r x H Q->
  wpAny (model X.prog X.w) X.A (truthy v) (TP X pins σ Q) X.xe s
def wl (r:R2) (ta tb:TE):TE:=fun σ H Q=>ta σ H fun x H1=>tb σ H1 fun y H2=>r x y H2 Q
def Gd (r:V->Hp->VK->Prop) (ta:TE):TE:=fun σ H Q=>ta σ H fun x H1=>r x H1 Q
def rI (C:Int->Int->Prop) (g:Int->Int->V):R2:=fun x y H Q=>∃ i j,x=.int i/\y=.int j/\C i j/\Q (g i j) H
def yq (g:Int->Int->V):R2:=fun x y H Q=>∃ i j,x=.int i/\y=.int j/\Q (g i j) H
def rU (g:Int->V):V->Hp->VK->Prop:=fun x H Q=>∃ i,x=.int i/\Q (g i) H
section
variable {a b c:Expr} {ta tb tc:TE}
theorem DE (ha:PE X a ta) (hb:PE X b tb) {R:V->V->Hp->Prop} (I:Inv X pins σ H s)
  (h:ta σ H fun x H1=>tb σ H1 fun y H2=>R x y H2) {Q:Value->Shared->Prop} {f:Value->Value->Sem Value}
  (hf:∀ v u s2 x y H2,Inv X pins σ H2 s2->RelV x v->RelV y u->R x y H2->wpAny (model X.prog X.w) X.A (f v u) Q X.xe s2):
  wpAny (model X.prog X.w) X.A (eval a X.env) (fun v s₁=>wpAny (model X.prog X.w) X.A (eval b X.env) (fun u s₂=>wpAny (model X.prog X.w) X.A (f v u) Q X.xe s₂) X.xe s₁) X.xe s:=by
 refine av (ha pins s σ H _ I h) ?_
 rintro v s1 ⟨x,H1,I1,r1,q1⟩
 refine av (hb pins s1 σ H1 _ I1 q1) ?_
 rintro u s2 ⟨y,H2,I2,r2,q2⟩
 exact hf v u s2 x y H2 I2 r1 r2 q2
theorem J1 {op:Operator} {r:R2} (ho:bw X (binaryOp op) r) (ha:PE X a ta) (hb:PE X b tb):PE X (.BinOp a op b pos) (wl r ta tb):=by
 intro pins s σ H Q I h
 exact wpAny_BinOp (DE ha hb I h fun v u s2 x y H2 I2 rx ry q=>ho pins s2 σ H2 x y v u Q I2 rx ry q)
theorem J2 {op:UnaryOp} {r:V->Hp->VK->Prop} (ho:Cj X (unaryOp op) r) (ha:PE X a ta):PE X (.UnaryOp op a pos) (Gd r ta):=by
 intro pins s σ H Q I h
 exact UnaryOp_ (av (ha pins s σ H _ I h) fun v s1 ⟨x,H1,I1,r1,q1⟩=>ho pins s1 σ H1 x v Q I1 r1 q1)
theorem Ck {f:Value->Value->Sem Value} {C:Int->Int->Prop} {g:Int->Int->Int}
  (rule:∀ (i j:Int) (t u:Tok) (s:Shared) (Q:Value->Shared->Prop) (E:Value->Shared->Prop),C i j->Q (.int (g i j) s.toks) {s with toks:=s.toks+1}->wpAny (model X.prog X.w) X.A (f (.int i t) (.int j u)) Q E s):
  bw X f (rI C fun i j=>.int (g i j)):=by
 intro pins s σ H x y v u Q I rx ry h
 obtain ⟨i,j,rfl,rfl,hc,q⟩:=h
 obtain ⟨t,rfl⟩:=rx
 obtain ⟨t',rfl⟩:=ry
 exact rule i j t t' s _ _ hc ⟨.int (g i j),H,I.tok _,⟨_,rfl⟩,q⟩
theorem Ge {f:Value->Value->Sem Value} {g:Int->Int->Int}
  (rule:∀ (i j:Int) (t u:Tok) (s:Shared) (Q:Value->Shared->Prop) (E:Value->Shared->Prop),Q (.int (g i j) s.toks) {s with toks:=s.toks+1}->wpAny (model X.prog X.w) X.A (f (.int i t) (.int j u)) Q E s):
  bw X f (yq fun i j=>.int (g i j)):=by
 intro pins s σ H x y v u Q I rx ry h
 obtain ⟨i,j,rfl,rfl,q⟩:=h
 obtain ⟨t,rfl⟩:=rx
 obtain ⟨t',rfl⟩:=ry
 exact rule i j t t' s _ _ ⟨.int (g i j),H,I.tok _,⟨_,rfl⟩,q⟩
theorem DF {f:Value->Value->Sem Value} {g:Int->Int->Bool}
  (rule:∀ (i j:Int) (t u:Tok) (s:Shared) (Q:Value->Shared->Prop) (E:Value->Shared->Prop),Q (.bool (g i j)) s->wpAny (model X.prog X.w) X.A (f (.int i t) (.int j u)) Q E s):
  bw X f (yq fun i j=>.bl (g i j)):=by
 intro pins s σ H x y v u Q I rx ry h
 obtain ⟨i,j,rfl,rfl,q⟩:=h
 obtain ⟨t,rfl⟩:=rx
 obtain ⟨t',rfl⟩:=ry
 exact rule i j t t' s _ _ ⟨.bl (g i j),H,I,rfl,q⟩
def J3 (i j:Int):Prop:=0 < j/\j < 1073741824
def Gf (i j:Int):Prop:=0<=j/\j<=1000000/\i.natAbs < 2^64
def Cm (i j:Int):Prop:=(-(2^64) < i/\i < 2^64)\/(-(2^64) < j/\j < 2^64)
theorem Cm.ok {i j:Int} (h:Cm i j):IntMulOk i j:=by
 rcases h with ⟨h1,h2⟩ | ⟨h1,h2⟩
 ·exact .of_left (intBits_le_64 h1 h2)
 ·exact .of_right (intBits_le_64 h1 h2)
theorem yH:bw X (binaryOp .Add) (yq fun i j=>.int (i+j)):=Ge fun _ _ _ _ _ _ _ q=>add_int q
theorem yG:bw X (binaryOp .Sub) (yq fun i j=>.int (i - j)):=Ge fun _ _ _ _ _ _ _ q=>sub_int q
theorem yN:bw X (binaryOp .Mult) (rI Cm fun i j=>.int (i*j)):=Ck fun _ _ _ _ _ _ _ hc q=>mul_int q hc.ok
theorem wT:bw X (binaryOp .FloorDiv) (rI J3 fun i j=>.int (i / j)):=Ck fun i j _ _ _ _ _ hc q=>by
 have h1:(0:Int) < j:=hc.1
 have h2:j < 1073741824:=hc.2
 exact floordiv_int (by omega) (by rw [Int.fdiv_eq_ediv_of_nonneg i (by omega)];exact q) (.inl (PyProof.noPylong_small (by omega)))
theorem yF:bw X (binaryOp .Mod) (rI (fun _ j=>0 < j) fun i j=>.int (i % j)):=Ck fun i j _ _ _ _ _ hc q=>by
 have h1:(0:Int) < j:=hc
 exact mod_int' (by omega) (by rw [Int.fmod_eq_emod_of_nonneg i (by omega)];exact q)
theorem zY:bw X (binaryOp .Pow) (rI Gf fun i j=>.int (i^j.toNat)):=Ck fun _ _ _ _ _ _ _ hc q=>pow_int_small hc.1 hc.2.1 hc.2.2 q
theorem J5 {f:Value->Sem Value} {g:Int->Int}
  (rule:∀ (i:Int) (t:Tok) (s:Shared) (Q:Value->Shared->Prop) (E:Value->Shared->Prop),Q (.int (g i) s.toks) {s with toks:=s.toks+1}->wpAny (model X.prog X.w) X.A (f (.int i t)) Q E s):
  Cj X f (rU fun i=>.int (g i)):=by
 intro pins s σ H x v Q I rx h
 obtain ⟨i,rfl,q⟩:=h
 obtain ⟨t,rfl⟩:=rx
 exact rule i t s _ _ ⟨.int (g i),H,I.tok _,⟨_,rfl⟩,q⟩
theorem mK:Cj X (unaryOp .USub) (rU fun i=>.int (-i)):=J5 fun _ _ _ _ _ q=>neg_int q
end
def As:V->V->Bool
 | .af,.af=>true | .af,.int _=>true | .int _,.af=>true | .af,.bl _=>true | .bl _,.af=>true | .af,.str _=>true | .str _,.af=>true
 | .int _,.int _=>true | .bl _,.bl _=>true | .str _,.str _=>true | .jq _,.jq _=>true
 | .int _,.str _=>true | .str _,.int _=>true | .bl _,.str _=>true | .str _,.bl _=>true
 | _,_=>false
def J6:R2:=fun x y H Q=>As x y=true/\Q (.bl (decide (x=y))) H
def J7:R2:=fun x y H Q=>As x y=true/\Q (.bl (!decide (x=y))) H
theorem qG {i j:Int}:decide (V.int i=V.int j)=(i==j):=by
 rw [Bool.eq_iff_iff]
 simp
theorem uD {i j:Bool}:decide (V.bl i=V.bl j)=(i==j):=by
 rw [Bool.eq_iff_iff]
 simp
theorem qQ {i j:Str}:decide (V.str i=V.str j)=(i==j):=by
 rw [Bool.eq_iff_iff]
 simp
theorem pZ {i j:Array UInt8}:decide (V.jq i=V.jq j)=(i.toList==j.toList):=by
 rw [Bool.eq_iff_iff]
 cases i
 cases j
 simp
section
variable {a b c:Expr} {ta tb tc:TE}
theorem bB {Q:VK} {k k':Bool} (I:Inv X pins σ H s) (q:Q (.bl k) H) (e:k=k'):EP X pins σ Q (.bool k') s:=by
 subst e
 exact ⟨.bl k,H,I,rfl,q⟩
theorem J8:bw X (compareOp .Eq) J6:=by
 intro pins s σ H x y v u Q I rx ry h
 obtain ⟨hs,q⟩:=h
 cases x with
 | af=>
  cases rx
  cases y with
  | af=>cases ry;exact PySem.EqNone.eq_none_none (bB I q (by simp))
  | bl j=>cases ry;exact PySem.EqNone.eq_none_bool (bB I q (by simp))
  | int j=>obtain ⟨t',rfl⟩:=ry;exact PySem.EqNone.eq_none_int (bB I q (by simp))
  | str j=>obtain ⟨t',rfl⟩:=ry;exact PySem.EqNone.eq_none_str (bB I q (by simp))
  | _=>exact absurd (show false=true from hs) Bool.false_ne_true
 | bl i=>
  cases rx
  cases y with
  | af=>cases ry;exact PySem.EqNone.eq_bool_none (bB I q (by simp))
  | bl j=>cases ry;exact eq_bool (bB I q uD)
  | str j=>obtain ⟨t',rfl⟩:=ry;exact PySem.EqMixed.eq_bool_str (bB I q (by simp))
  | _=>exact absurd (show false=true from hs) Bool.false_ne_true
 | int i=>
  obtain ⟨t,rfl⟩:=rx
  cases y with
  | af=>cases ry;exact PySem.EqNone.eq_int_none (bB I q (by simp))
  | int j=>obtain ⟨t',rfl⟩:=ry;exact eq_int (bB I q qG)
  | str j=>obtain ⟨t',rfl⟩:=ry;exact PySem.EqMixed.eq_int_str (bB I q (by simp))
  | _=>exact absurd (show false=true from hs) Bool.false_ne_true
 | str i=>
  obtain ⟨t,rfl⟩:=rx
  cases y with
  | af=>cases ry;exact PySem.EqNone.eq_str_none (bB I q (by simp))
  | bl j=>cases ry;exact PySem.EqMixed.eq_str_bool (bB I q (by simp))
  | int j=>obtain ⟨t',rfl⟩:=ry;exact PySem.EqMixed.eq_str_int (bB I q (by simp))
  | str j=>obtain ⟨t',rfl⟩:=ry;exact eq_str (bB I q qQ)
  | _=>exact absurd (show false=true from hs) Bool.false_ne_true
 | jq i=>
  obtain ⟨t,rfl⟩:=rx
  cases y with
  | jq j=>obtain ⟨t',rfl⟩:=ry;exact PySem.W.eq_bytes (bB I q pZ)
  | _=>exact absurd (show false=true from hs) Bool.false_ne_true
 | _=>cases y<;>exact absurd (show false=true from hs) Bool.false_ne_true
theorem J9:bw X (compareOp .NotEq) J7:=by
 intro pins s σ H x y v u Q I rx ry h
 obtain ⟨hs,q⟩:=h
 cases x with
 | af=>
  cases rx
  cases y with
  | af=>cases ry;exact PySem.EqNone.ne_none_none (bB I q (by simp))
  | bl j=>cases ry;exact PySem.EqNone.ne_none_bool (bB I q (by simp))
  | int j=>obtain ⟨t',rfl⟩:=ry;exact PySem.EqNone.ne_none_int (bB I q (by simp))
  | str j=>obtain ⟨t',rfl⟩:=ry;exact PySem.EqNone.ne_none_str (bB I q (by simp))
  | _=>exact absurd (show false=true from hs) Bool.false_ne_true
 | bl i=>
  cases rx
  cases y with
  | af=>cases ry;exact PySem.EqNone.ne_bool_none (bB I q (by simp))
  | bl j=>cases ry;exact ne_bool (bB I q (congrArg not uD))
  | str j=>obtain ⟨t',rfl⟩:=ry;exact PySem.EqMixed.ne_bool_str (bB I q (by simp))
  | _=>exact absurd (show false=true from hs) Bool.false_ne_true
 | int i=>
  obtain ⟨t,rfl⟩:=rx
  cases y with
  | af=>cases ry;exact PySem.EqNone.ne_int_none (bB I q (by simp))
  | int j=>obtain ⟨t',rfl⟩:=ry;exact ne_int (bB I q (congrArg not qG))
  | str j=>obtain ⟨t',rfl⟩:=ry;exact PySem.EqMixed.ne_int_str (bB I q (by simp))
  | _=>exact absurd (show false=true from hs) Bool.false_ne_true
 | str i=>
  obtain ⟨t,rfl⟩:=rx
  cases y with
  | af=>cases ry;exact PySem.EqNone.ne_str_none (bB I q (by simp))
  | bl j=>cases ry;exact PySem.EqMixed.ne_str_bool (bB I q (by simp))
  | int j=>obtain ⟨t',rfl⟩:=ry;exact PySem.EqMixed.ne_str_int (bB I q (by simp))
  | str j=>obtain ⟨t',rfl⟩:=ry;exact ne_str (bB I q (congrArg not qQ))
  | _=>exact absurd (show false=true from hs) Bool.false_ne_true
 | jq i=>
  obtain ⟨t,rfl⟩:=rx
  cases y with
  | jq j=>obtain ⟨t',rfl⟩:=ry;exact PySem.W.ne_bytes (bB I q (congrArg not pZ))
  | _=>exact absurd (show false=true from hs) Bool.false_ne_true
 | _=>cases y<;>exact absurd (show false=true from hs) Bool.false_ne_true
theorem J_:bw X (compareOp .Lt) (yq fun i j=>.bl (decide (i < j))):=DF fun _ _ _ _ _ _ _ q=>lt_int q
theorem J':bw X (compareOp .Gt) (yq fun i j=>.bl (decide (j < i))):=DF fun _ _ _ _ _ _ _ q=>gt_int q
theorem Ka:bw X (compareOp .GtE) (yq fun i j=>.bl (decide (j<=i))):=DF fun _ _ _ _ _ _ _ q=>ge_int q
theorem sE:bw X (compareOp .Lt) (fun x y H Q=>∃ i j,x=.str i/\y=.str j/\Q (.bl (decide (i.cps.toList < j.cps.toList))) H):=by
 intro pins s σ H x y v u Q I rx ry h
 obtain ⟨i,j,rfl,rfl,q⟩:=h
 obtain ⟨t,rfl⟩:=rx
 obtain ⟨t',rfl⟩:=ry
 exact lt_str (bB I q rfl)
theorem rT:bw X (compareOp .In) (fun x y H Q=>∃ i j,x=.str i/\y=.str j/\Q (.bl (!(Builtin.Str.occurrences j i 0 j.length 1).isEmpty)) H):=by
 intro pins s σ H x y v u Q I rx ry h
 obtain ⟨i,j,rfl,rfl,q⟩:=h
 obtain ⟨t,rfl⟩:=rx
 obtain ⟨t',rfl⟩:=ry
 exact in_str (bB I q rfl)
theorem zD:bw X (compareOp .Is) (fun x y H Q=>y=.af/\Q (.bl (decide (x=.af))) H):=by
 intro pins s σ H x y v u Q I rx ry h
 obtain ⟨rfl,q⟩:=h
 cases ry
 refine is_none_gen (bB I q ?_)
 cases x<;>first
  | (cases rx;rfl)
  | (obtain ⟨t,rfl⟩:=rx;rfl)
theorem vV:bw X (compareOp .IsNot) (fun x y H Q=>y=.af/\Q (.bl (!decide (x=.af))) H):=by
 intro pins s σ H x y v u Q I rx ry h
 obtain ⟨rfl,q⟩:=h
 cases ry
 refine isnot_none_gen (bB I q ?_)
 cases x<;>first
  | (cases rx;rfl)
  | (obtain ⟨t,rfl⟩:=rx;rfl)
theorem mL:bw X (compareOp .NotIn) (fun x y H Q=>∃ i j,x=.str i/\y=.str j/\Q (.bl (!(!(Builtin.Str.occurrences j i 0 j.length 1).isEmpty))) H):=by
 intro pins s σ H x y v u Q I rx ry h
 obtain ⟨i,j,rfl,rfl,q⟩:=h
 obtain ⟨t,rfl⟩:=rx
 obtain ⟨t',rfl⟩:=ry
 exact notIn_str (bB I q rfl)
theorem bq (b:Expr) {op:CmpOp} (h:op≠.In:=by decide) (h2:op≠.NotIn:=by decide):behindInMarks op b=false:=by
 have e1:(op==CmpOp.In)=false:=by cases op<;>first | rfl | exact absurd rfl h
 have e2:(op==CmpOp.NotIn)=false:=by cases op<;>first | rfl | exact absurd rfl h2
 cases b<;>simp [behindInMarks,e1,e2]
theorem vS {op:CmpOp} {r:R2} (ho:bw X (compareOp op) r) (ha:PE X a ta) (hb:PE X b tb) (hm:behindInMarks op b=false):PE X (.Compare a [op] [b] pos) (wl r ta tb):=by
 intro pins s σ H Q I h
 exact wpAny_Compare1 (DE ha hb I h fun v u s2 x y H2 I2 rx ry q=>ho pins s2 σ H2 x y v u Q I2 rx ry q) hm
def Gg (t:TE):TT:=fun σ H Q=>t σ H fun x H'=>∃ k,x=.bl k/\Q k H'
theorem wO {op:CmpOp} {r:R2} (ho:bw X (compareOp op) r) (ha:PE X a ta) (hb:PE X b tb) (hm:behindInMarks op b=false):PT X (.Compare a [op] [b] pos) (Gg (wl r ta tb)):=by
 intro pins s σ H Q I h
 refine wpAny_isTrue_Compare1 (av (ha pins s σ H _ I h) fun v s1 ⟨x,H1,I1,r1,q1⟩=>av (hb pins s1 σ H1 _ I1 q1) fun u s2 ⟨y,H2,I2,r2,q2⟩=>
  av (ho pins s2 σ H2 x y v u _ I2 r1 r2 q2) fun c s3 ⟨z,H3,I3,r3,k,e,q3⟩=>?_) hm
 subst e
 cases r3
 exact wpAny_truthy_bool ⟨H3,I3,q3⟩
def DG (K:QZ) (x:V) (H:Hp) (k:Bool):Prop:=
 match x with
 | .af=>k=false
 | .bl b=>k=b
 | .int i=>k=(i !=0)
 | .str y=>y.length<=sizeLine/\k=((y.length:Int) !=0)
 | .jq y=>y.size<=sizeLine/\k=((y.size:Int) !=0)
 | .ref p=>(∃ xs,ao K H p xs/\k= !xs.isEmpty)\/(∃ xs,ae K H p xs/\k= !xs.isEmpty)\/∃ kvs,H p=some (.dK kvs)/\k= !kvs.isEmpty
 | _=>False
theorem pR {κ:Type} {kvs:List (κ×V)} {vs:List (κ×Value)} (r:KV kvs vs):(!vs.isEmpty)= !kvs.isEmpty:=by
 cases r<;>rfl
theorem jY {xs:List V} {its:List Value} (r:a_ xs its):(!its.toArray.isEmpty)= !xs.isEmpty:=by
 cases r<;>simp
theorem Au:(sizeLine:Nat) < 2^63:=by rw [QL];decide
theorem zO:J0 X (fun x H Q=>∃ k,DG X.K x H k/\Q k H):=by
 intro pins s σ H x v Q I rx h
 obtain ⟨k,e,q⟩:=h
 have hl:=Au
 have hs:sizeLine=16777216:=QL
 cases x with
 | af=>
  cases rx
  have e':k=false:=e
  subst e'
  exact truthy_none ⟨H,I,q⟩
 | bl b=>
  cases rx
  have e':k=b:=e
  subst e'
  exact wpAny_truthy_bool ⟨H,I,q⟩
 | int i=>
  obtain ⟨t,rfl⟩:=rx
  have e':k=(i !=0):=e
  subst e'
  exact PySem.P.truthy_int ⟨H,I,q⟩
 | str y=>
  obtain ⟨t,rfl⟩:=rx
  obtain ⟨hy,e'⟩:y.length<=sizeLine/\k=((y.length:Int) !=0):=e
  subst e'
  exact PySem.P.truthy_str (by omega) ⟨H,I.tok _,q⟩
 | jq y=>
  obtain ⟨t,rfl⟩:=rx
  obtain ⟨hy,e'⟩:y.size<=sizeLine/\k=((y.size:Int) !=0):=e
  subst e'
  exact PySem.W.truthy_bytes (by omega) ⟨H,I.tok _,q⟩
 | ref p=>
  cases rx
  have e':(∃ xs,ao X.K H p xs/\k= !xs.isEmpty)\/(∃ xs,ae X.K H p xs/\k= !xs.isEmpty)\/∃ kvs,H p=some (.dK kvs)/\k= !kvs.isEmpty:=e
  rcases e' with ⟨xs,hx,e'⟩ | ⟨xs,hx,e'⟩ | ⟨kvs,hx,e'⟩
  ·subst e'
   obtain ⟨its,r,pl,hz⟩:=I.list hx
   have fb:=r.length
   exact wpAny_truthy_list pl.isList (by simp only [List.size_toArray];omega) ⟨H,I.tok _,by rw [jY r];exact q⟩
  ·subst e'
   obtain ⟨its,r,pl,hz⟩:=I.tuple hx
   have fb:=r.length
   exact truthy_tuple pl (by simp only [List.size_toArray];omega) ⟨H,I.tok _,by rw [jY r];exact q⟩
  ·subst e'
   obtain ⟨hz,hS,vs,r,m⟩:kvs.length<=sizeLine/\(p==sysModules)=false/\∃ vs,KV kvs vs/\s.heap.DictOf (f_ X.prog X.w) p vs:=I.hok p _ hx
   have fb:kvs.length=vs.length:=Paired.length r
   exact wpAny_truthy_dict hS m (by omega) ⟨H,I.tok _,by rw [pR r];exact q⟩
 | _=>exact (show False from e).elim
theorem sO (ha:PE X a ta) (he:∀ whole,isTrue a X.env whole=(do let v <- whole;standAt a.pos;holding [v] (truthy v))):
  PT X a (fun σ H Q=>ta σ H fun x H'=>∃ k,DG X.K x H' k/\Q k H'):=by
 intro pins s σ H Q I h
 exact isTrue_plain (av (ha pins s σ H _ I h) fun v s1 ⟨x,H1,I1,r1,q1⟩=>zO pins s1 σ H1 x v Q I1 r1 q1) (he _)
theorem oZ:bw X (binaryOp .Add) (fun x y H Q=>∃ i j,x=.str i/\y=.str j/\i.length+j.length<=sizeLine/\Q (.str (i++j)) H):=by
 intro pins s σ H x y v u Q I rx ry h
 obtain ⟨i,j,rfl,rfl,hz,q⟩:=h
 obtain ⟨t,rfl⟩:=rx
 obtain ⟨t',rfl⟩:=ry
 exact add_str (fun t' tk=>⟨.str (i++j),H,I.tok _,⟨_,rfl⟩,q⟩) hz
theorem vals1 {x:V} (r:a_ [x] us):∃ u,us=[u]/\RelV x u:=by
 cases r with
 | cons r1 r2=>cases r2;exact ⟨_,rfl,r1⟩
theorem vals2 {x y:V} (r:a_ [x,y] us):∃ u w',us=[u,w']/\RelV x u/\RelV y w':=by
 cases r with
 | cons r1 r2=>
  cases r2 with
  | cons r3 r4=>cases r4;exact ⟨_,_,rfl,r1,r3⟩
theorem rD (hc:X.calm=true):je X (.builtin "max") (fun xs H Q=>∃ i j,xs=[.int i,.int j]/\Q (.int (if j > i then j else i)) H):=by
 intro pins s σ H xs us Q I r h
 obtain ⟨i,j,rfl,q⟩:=h
 obtain ⟨u,w',rfl,⟨t,rfl⟩,⟨t',rfl⟩⟩:=vals2 r
 refine max_two_ints (I.ok.hd hc) fun h' tk k=>⟨_,H,I.kept k,?_,q⟩
 by_cases hj:j > i
 ·rw [if_pos hj,if_pos hj];exact ⟨_,rfl⟩
 ·rw [if_neg hj,if_neg hj];exact ⟨_,rfl⟩
def Kc (K:QZ) (x:V) (H:Hp) (n:Nat):Prop:=
 match x with
 | .str y=>y.length<=sizeLine/\n=y.length
 | .jq y=>y.size<=sizeLine/\n=y.size
 | .ref p=>(∃ xs,ao K H p xs/\n=xs.length)\/∃ xs,ae K H p xs/\n=xs.length
 | _=>False
theorem kL:je X (.builtin "len") (fun xs H Q=>∃ x n,xs=[x]/\Kc X.K x H n/\Q (.int n) H):=by
 intro pins s σ H xs us Q I r h
 obtain ⟨x,n,rfl,e,q⟩:=h
 obtain ⟨u,rfl,rx⟩:=vals1 r
 have hl:=Au
 have hs:sizeLine=16777216:=QL
 cases x with
 | str y=>
  obtain ⟨t,rfl⟩:=rx
  obtain ⟨hy,e'⟩:y.length<=sizeLine/\n=y.length:=e
  subst e'
  exact len_str (by omega) ⟨.int _,H,I.tok _,⟨_,rfl⟩,q⟩
 | jq y=>
  obtain ⟨t,rfl⟩:=rx
  obtain ⟨hy,e'⟩:y.size<=sizeLine/\n=y.size:=e
  subst e'
  exact PySem.W.len_bytes (by omega) ⟨.int _,H,I.tok _,⟨_,rfl⟩,q⟩
 | ref p=>
  cases rx
  have e':(∃ xs,ao X.K H p xs/\n=xs.length)\/∃ xs,ae X.K H p xs/\n=xs.length:=e
  rcases e' with ⟨xs,hx,e'⟩ | ⟨xs,hx,e'⟩
  ·subst e'
   obtain ⟨its,r',pl,hz⟩:=I.list hx
   have fb:=r'.length
   exact Calls.call_len_list pl.isList (by simp only [List.size_toArray];omega) ⟨.int xs.length,H,I.tok _,⟨_,by simp only [List.size_toArray];rw [fb]⟩,q⟩
  ·subst e'
   obtain ⟨its,r',pl,hz⟩:=I.tuple hx
   have fb:=r'.length
   exact len_tuple pl (by simp only [List.size_toArray];omega) ⟨.int xs.length,H,I.tok _,⟨_,by simp only [List.size_toArray];rw [fb]⟩,q⟩
 | _=>exact (show False from e).elim
end
structure DH (h:Heap) (x dx C:Addr) (mA:Str->Option Value):Prop where
 obj:h.get? x=some (PySem.W.instObj C dx)
 ns:h.Ns1 dx mA
 ne:dx≠x
theorem iH {dx:Addr} (n:h.Ns1 dx mA):∃ od,h.get? dx=some od/\∀ name,PySem.W.lookIn name od=some (mA name):=by
 obtain ⟨o,es,ep,ho,hd,hk,_,hm⟩:=n
 refine ⟨o,ho,fun name=>?_⟩
 have e:=hm name
 unfold nsFind findBy at e
 rw [<- Array.find?_toList] at e
 unfold PySem.W.lookIn
 rw [hd]
 dsimp only
 split
 ·rename_i y q
  rw [q] at e
  exact congrArg some e
 ·rename_i q
  rw [q] at e
  have a:es.toList.any (·.refKey)=false:=by
   rw [List.any_eq_false]
   intro y hy
   obtain ⟨z,t,Ke⟩:=hk y (Array.mem_toList_iff.mp hy)
   simp [DictEntry.refKey,Ke]
  have a':¬es.toList.any (·.refKey)=true:=by rw [a];exact Bool.false_ne_true
  rw [if_neg a']
  exact congrArg some e
theorem DH.look {x dx:Addr} (I:DH h x dx C mA):∃ od,PySem.W.InstAt h x (PySem.W.instObj C dx) C (some od)/\∀ name,PySem.W.lookIn name od=some (mA name):=
 let ⟨od,ho,hl⟩:=iH I.ns
 ⟨od,⟨I.obj,rfl,rfl,ho⟩,hl⟩
section
variable {K:QZ} {x dx f:Addr} {v:Value}
end
theorem jr.some_of {v:V} {o:Option Value} (r:jr (some v) o):∃ u,o=some u/\RelV v u:=by
 cases o with
 | none=>exact (show False from r).elim
 | some u=>exact ⟨u,rfl,r⟩
theorem sG {v:V} (r:RelV v u):PySem.W.handedIn u=true:=by
 cases v with
 | af=>cases (show u=Value.none from r);rfl
 | bl b=>cases (show u=Value.bool b from r);rfl
 | int i=>obtain ⟨t,e⟩:=(show ∃ t,u=Value.int i t from r);cases e;rfl
 | str x=>obtain ⟨t,e⟩:=(show ∃ t,u=Value.str x t from r);cases e;rfl
 | jq b=>obtain ⟨t,e⟩:=(show ∃ t,u=Value.bytes b t from r);cases e;rfl
 | yg b=>obtain ⟨t,e⟩:=(show ∃ t,u=Value.float b t from r);cases e;rfl
 | ref a=>cases (show u=Value.ref a from r);rfl
 | ty n=>cases (show u=Value.type n from r);rfl
section
variable {dx:Addr} {fs JL:List (Str×V)}
theorem wR (hok:cf P w H h) (e:H a=some (.ins C dx fs)):∃ mA,DH h a dx C mA/\(∀ f,jr (fs.lookup f) (mA f))/\PySem.Within mA (fs.map (·.1))/\fs.length<=1000/\H dx=some (.own a):=by
 obtain ⟨d,z,ne,ob,mA,n,r,q⟩:=(show bz P w H h a (.ins C dx fs) from hok a _ e)
 exact ⟨mA,⟨ob,n,ne⟩,r,q,z,d⟩
end
structure DI (K:QZ) (C:Addr):Prop where
 pg:PySem.W.plainGet K C Str.empty=true
 hd:PySem.W.hasDictIn K C=true
 po:PySem.W.plainOver K C=true
 sa:PySem.W.findIn K (.ref C) "__setattr__"=some (some (.builtin "object.__setattr__"))
theorem DI.get {K:QZ} {C:Addr} (c:DI K C) (f:Str):PySem.W.plainGet K C f=true:=c.pg
def Gh (K:QZ) (C:Addr) (f:Str):Prop:=PySem.W.findIn K (.ref C) f=some none
section
variable {dx:Addr} {fs:List (Str×V)} {f:Str} {v:V}
theorem x4 {f:Str} (hb:attributeBase e f env (eval e env)=eval e env)
  (h:wpAny (model prog w) A (eval e env) (fun o s₁=>wpAny (model prog w) A (getAttr o f true) Q E s₁) E s):wpAny (model prog w) A (eval (.Attribute e f pos) env) Q E s:=
 Attribute_any_ h (by rw [arm_eval_Attribute,hb])
end
section
variable {o value:Expr} {f:Str} {sd:Pos} {ta tv:TE}
end
section
variable {c:Value} {b:Bool}
inductive mr (K:QZ) (H:Hp):V->Value->Prop where
 | af:mr K H .af (.type "NoneType")
 | bl (x:Bool):mr K H (.bl x) (.type "bool")
 | int (i:Int):mr K H (.int i) (.type "int")
 | str (x:Str):mr K H (.str x) (.type "str")
 | yg (x:UInt64):mr K H (.yg x) (.type "float")
 | lst {a:Addr} {xs:List V} (e:H a=some (.lst xs)):mr K H (.ref a) (.type "list")
 | fj {a:Addr} {o:Obj} {xs:List V} (e:H a=some (.fj o (.lst xs))):mr K H (.ref a) (.type "list")
 | tup {a:Addr} {xs:List V} (e:H a=some (.tup xs)):mr K H (.ref a) (.type "tuple")
 | dK {a:Addr} {kvs:List (be×V)} (e:H a=some (.dK kvs)):mr K H (.ref a) (.type "dict")
 | dT {a:Addr} {kvs:List (List be×V)} (e:H a=some (.dT kvs)):mr K H (.ref a) (.type "dict")
 | ins {a C dx:Addr} {fs:List (Str×V)} (e:H a=some (.ins C dx fs)) (cl:DI K C) (ha:PySem.W.findIn K (.ref C) "__class__"=some (some (.builtin "object.__class__")))
   (hn:PySem.W.specialIn K (.builtin "object.__class__") "__get__"=some (some (.builtin "getset_descriptor.__get__"))) (Gi:PySem.W.takesIn K (.builtin "object.__class__")=some true)
   (hm:PySem.W.mroIn K C (.type "object")=some true):mr K H (.ref a) (.ref C)
theorem rS {x:V} {t:Value} (I:Inv X pins σ H s) (rx:RelV x u) (ty:mr X.K H x t) (e:PySem.W.kitOne X.K t c=some b) (h:∀ tk,Q (.bool b) {s with toks:=tk}):
  wpAny (model X.prog X.w) A (call (.builtin "isinstance") [u,c]) Q E s:=by
 cases ty with
 | af=>cases (show u=Value.none from rx);exact PySem.W.kia_one PySem.W.kitx_none I.cz True.intro e (fun z=>nomatch z) h
 | bl y=>cases (show u=Value.bool y from rx);exact PySem.W.kia_one PySem.W.kitx_bool I.cz True.intro e (fun z=>nomatch z) h
 | int i=>obtain ⟨t,q⟩:=(show ∃ t,u=Value.int i t from rx);cases q;exact PySem.W.kia_one PySem.W.kitx_int I.cz True.intro e (fun z=>nomatch z) h
 | str y=>obtain ⟨t,q⟩:=(show ∃ t,u=Value.str y t from rx);cases q;exact PySem.W.kia_one PySem.W.kitx_str I.cz True.intro e (fun z=>nomatch z) h
 | yg y=>obtain ⟨t,q⟩:=(show ∃ t,u=Value.float y t from rx);cases q;exact PySem.W.kia_one PySem.W.kitx_float I.cz True.intro e (fun z=>nomatch z) h
 | @lst a xs ea=>
  cases (show u=Value.ref a from rx)
  obtain ⟨_,_,n,_,h1⟩:=(show bz X.prog X.w H s.heap a (.lst xs) from I.hok a _ ea)
  exact PySem.W.kia_one PySem.W.kitx_list I.cz ⟨_,h1,rfl⟩ e (fun z=>nomatch z) h
 | @fj a ob xs ea=>
  cases (show u=Value.ref a from rx)
  obtain ⟨_,_,_,n,_,h1⟩:=(show bz X.prog X.w H s.heap a (.fj ob (.lst xs)) from I.hok a _ ea)
  exact PySem.W.kia_one PySem.W.kitx_list I.cz ⟨_,h1,rfl⟩ e (fun z=>nomatch z) h
 | @tup a xs ea=>
  cases (show u=Value.ref a from rx)
  obtain ⟨_,_,_,p⟩:=(show bz X.prog X.w H s.heap a (.tup xs) from I.hok a _ ea)
  obtain ⟨o,h1,h2,_⟩:=p
  exact PySem.W.kia_one PySem.W.kitx_tuple I.cz ⟨o,h1,h2⟩ e (fun z=>nomatch z) h
 | @dK a kvs ea=>
  cases (show u=Value.ref a from rx)
  obtain ⟨_,_,vs,_,p⟩:=(show bz X.prog X.w H s.heap a (.dK kvs) from I.hok a _ ea)
  obtain ⟨o,es,ep,h1,h2,_⟩:=p
  exact PySem.W.kia_one PySem.W.kitx_dict I.cz ⟨o,h1,h2.1⟩ e (fun z=>nomatch z) h
 | @dT a kvs ea=>
  cases (show u=Value.ref a from rx)
  obtain ⟨_,_,xs,_,o,es,ep,h1,h2,_⟩:=(show bz X.prog X.w H s.heap a (.dT kvs) from I.hok a _ ea)
  exact PySem.W.kia_one PySem.W.kitx_dict I.cz ⟨o,h1,h2.1⟩ e (fun z=>nomatch z) h
 | @ins a C dx fs ea cl ha hn Gi hm=>
  cases (show u=Value.ref a from rx)
  obtain ⟨mA,O,_⟩:=wR I.hok ea
  obtain ⟨od,J,_⟩:=O.look
  exact PySem.W.kia_one (PySem.W.kitx_own (cl.get _) cl.hd ha hn Gi hm) I.cz J e (fun z=>nomatch z) h
end
structure dg (k:Nat) (A:Around):Prop where
 hd:A.handled=none
 dp:A.depth+3*k+5 < recursionLimit
 un:A.units+16*k+200 < cLine
 gd:A.guards=some []
theorem dg.mono {k:Nat} (r:dg k A) (h:j<=k):dg j A:=⟨r.hd,by have:=r.dp;omega,by have:=r.un;omega,r.gd⟩
theorem dg.deeper {k:Nat} {A:Around} (r:dg (k+1) A) (env:Env):dg k (A.deeper env):=
 ⟨r.hd,by have:=r.dp;show A.depth+1+3*k+5 < _;omega,by have:=r.un;show A.units+3+16*k+200 < _;omega,r.gd⟩
theorem pK:(A.under (.builtin "type.__call__" ⟨.ref C::us,kw⟩)).depth=A.depth+1:=by
 first | rfl | simp [Around.under,Code.weight,Code.isCreation,Code.isGuard,Code.isCaller,Code.frames,Code.isFrame,guardIds]
theorem pN:(A.under (.builtin "type.__call__" ⟨.ref C::us,kw⟩)).units=A.units+1:=by
 first | rfl | simp [Around.under,Code.cUnits,Code.frames,Code.isFrame]
theorem nN (h:A.guards=some []):(A.under (.builtin "type.__call__" ⟨.ref C::us,kw⟩)).guards=some []:=by
 first | exact h | (simp [Around.under,pushGuards,Code.guards,Code.isGuard,guardIds,h])
theorem dg.make {k:Nat} (r:dg (k+1) A) (C:Addr) (us:List Value) (kw:List (Str×Value)):dg k (A.under (.builtin "type.__call__" ⟨.ref C::us,kw⟩)):=
 ⟨r.hd,by have:=r.dp;rw [pK];omega,by have:=r.un;rw [pN];omega,nN r.gd⟩
theorem dg.depth {k:Nat} {A:Around} (r:dg k A):A.depth < recursionLimit:=by have:=r.dp;omega
theorem dg.units {k:Nat} {A:Around} (r:dg k A):A.units+64 < cLine:=by have:=r.un;omega
def gw:TA:=fun _ H Q=>Q [] H
def bu (ta:TE) (tr:TA):TA:=fun σ H Q=>ta σ H fun x H1=>tr σ H1 fun xs H2=>Q (x::xs) H2
theorem zM:PA X [] gw:=fun _ _ _ _ H Q I h=>Calls.spliced_nil ⟨[],H,I,.nil,h⟩
theorem d4 (ha:PE X e te) (hr:PA X es t) (hs:starEach (e::es) X.env=(false,eval e X.env)::starEach es X.env:=by rfl):PA X (e::es) (bu te t):=by
 intro pos pins s σ H Q I h
 rw [hs]
 show wpAny _ _ (spliced ((false,eval e X.env)::backTo pos (starEach es X.env))) _ _ s
 refine Calls.spliced_cons (av (ha pins s σ H _ I h) ?_)
 rintro u s1 ⟨x,H1,I1,r1,q1⟩
 exact av (hr pos pins s1 σ H1 _ I1 q1) fun us s2 ⟨xs,H2,I2,r2,q2⟩=>⟨x::xs,H2,I2,.cons r1 r2,q2⟩
def ie (t:TA):TE:=fun σ H Q=>t σ H fun xs H1=>xs.length<=sizeLine/\∀ p,H1 p=none->Q (.ref p) (upd H1 p (.tup xs))
def Gj (t:TA):TE:=fun σ H Q=>t σ H fun xs H1=>xs.length<=sizeLine/\∀ p,H1 p=none->Q (.ref p) (upd H1 p (.lst xs))
theorem y6 {x1} (h:PA X es t):PE X (.Tuple es x1 pos) (ie t):=by
 intro pins s σ H Q I hq
 refine wpAny_Tuple_spliced (av (h pos pins s σ H _ I hq) fun us s1 ⟨xs,H1,I1,r,z,q⟩=>⟨by rw [<- r.length];exact z,?_⟩)
 have hf:H1 s1.heap.objs.size=none:=I1.hok.fresh (Qy _)
 refine ⟨.ref s1.heap.objs.size,upd H1 s1.heap.objs.size (.tup xs),I1.laid (t':=s1.toks) (fun b u e=>Qc _ e) (Qy _) ?_,rfl,q _ hf⟩
 exact ⟨⟨z,we.new rfl rfl⟩,us,r,⟨_,Qd _ rfl,rfl,_,rfl⟩⟩
theorem zL (h:PA X es t):PE X (.List es pos) (Gj t):=by
 intro pins s σ H Q I hq
 refine wpAny_List_spliced (av (h pos pins s σ H _ I hq) fun us s1 ⟨xs,H1,I1,r,z,q⟩=>⟨by rw [<- r.length];exact z,?_⟩)
 have hf:H1 s1.heap.objs.size=none:=I1.hok.fresh (Qy _)
 refine ⟨.ref s1.heap.objs.size,upd H1 s1.heap.objs.size (.lst xs),I1.laid (t':=s1.toks) (fun b u e=>Qc _ e) (Qy _) ?_,rfl,q _ hf⟩
 exact ⟨z,us,0,r,Qd _ rfl⟩
abbrev Sp:=List V->Hp->VK->XK->Prop
abbrev pe:=List Env->Hp->Shared->XK->Value->Shared->Prop
structure yr (P:Program) (w:World) (K:QZ) (mg:Str->Option Value) (base:Heap) (A:Around) (outer:List Env) (s:Shared) (H:Hp):Prop where
 frames:A.frames=some outer
 mod:Mod K mg base
 bs:∀ b o,base.get? b=some o->s.heap.get? b=some o/\H b=none
 qm:base.objs.size<=s.heap.objs.size
 lh:s.heap.FunFrames base outer
 uu:∀ b∈eu outer,H b=none
 hok:cf P w H s.heap
 bare:AllBare s.gens
def CE (outer:List Env) (P:Program) (w:World) (H:Hp) (s:Shared) (Q:VK) (u:Value) (s':Shared):Prop:=
 ∃ v H',s'.os=s.os/\AllBare s'.gens/\Un (eu outer) [] H H' s.heap s'.heap/\cf P w H' s'.heap/\RelV v u/\Q v H'
def CR (CX:pe) (outer:List Env) (P:Program) (w:World) (H:Hp) (s:Shared) (Q:VK) (E:XK) (r:Result) (s':Shared):Prop:=
 match r with
 | .ok (.ret u)=>CE outer P w H s Q u s'
 | .ok _=>False
 | .error e=>CX outer H s E e s'
structure mw (P:Program) (w:World) (K:QZ) (mg:Str->Option Value) (base:Heap) (CX:pe) (k:Nat) (f:Addr) (fd:FuncData) (ps:List Str) (sp:Sp):Prop where
 len:∀ vs H Q E,sp vs H Q E->vs.length=ps.length
 run:∀ (A:Around) (outer:List Env) (s:Shared) (H:Hp) (args:Args) (us:List Value) (vs:List V) (Q:VK) (E:XK),dg k A->yr P w K mg base A outer s H->BindsTo s fd args (ps.zip us)->a_ vs us->sp vs H Q E->
  codeAny (model P w) A (.call (.ref f) args) (CR CX outer P w H s Q E) s
theorem mw.imp {K:QZ} {CX:pe} {k:Nat} {f:Addr} {sp Bj:Sp} (F:mw P w K mg base CX k f fd ps sp)
  (h:∀ vs H Q E,Bj vs H Q E->sp vs H Q E):mw P w K mg base CX k f fd ps Bj:=
 ⟨fun vs H Q E q=>F.len vs H Q E (h _ _ _ _ q),fun A outer s H args us vs Q E hr he hb hv hs=>F.run A outer s H args us vs Q E hr he hb hv (h _ _ _ _ hs)⟩
theorem yr.make {K:QZ} (e:yr P w K mg base A outer s H) (C:Addr) (us:List Value) (kw:List (Str×Value)):
  yr P w K mg base (A.under (.builtin "type.__call__" ⟨.ref C::us,kw⟩)) outer s H:=⟨by first | exact e.frames | (simpa [Around.under,Code.envs,Code.isFrame,pushEnvs] using e.frames),e.mod,e.bs,e.qm,e.lh,e.uu,e.hok,e.bare⟩
theorem Inv.Cn (I:Inv X pins σ H s):yr X.prog X.w X.K X.mg X.base X.A X.stack s H:=
 ⟨I.ok.frames,I.ok.mod,I.bs,Nat.le_trans I.ok.qm I.sz,I.stack,I.Ba,I.hok,I.bare⟩
theorem Inv.after {Q:VK} (I:Inv X pins σ H s) (h:CE X.stack X.prog X.w H s Q u s'):EP X pins σ Q u s':=by
 obtain ⟨v,H',os,bare,un,hok,r,q⟩:=h
 obtain ⟨hh,g,d,t,Gk⟩:=s'
 obtain rfl:Gk=s.os:=os
 exact ⟨v,H',I.call (h':=hh) (g':=g) (d':=d) (t':=t) (ch:=[]) un hok bare (fun b z=>absurd z (by simp)),r,q⟩
def Co (sp:Sp) (wm:List V) (E:XK) (t:TA):TE:=fun σ H Q=>t σ H fun vs H1=>sp (vs++wm) H1 Q E
def Binds (K:QZ) (fd:FuncData) (ps:List Str) (ds:List Value):Prop:=
 ∀ (s:Shared) (us:List Value),K.In s.heap->(us++ds).length=ps.length->BindsTo s fd ⟨us,[]⟩ (ps.zip (us++ds))
theorem Binds.all {K:QZ} (h:∀ us:List Value,us.length=ps.length->bindArgs fd ⟨us,[]⟩=pure (ps.zip us)):Binds K fd ps []:=fun s us _ hl=>by
 rw [QQ] at hl ⊢
 exact .of_eq (h us hl)
def DJ (CX:pe) (X:Cx) (E:XK):Prop:=∀ (pins:List (Addr×Obj)) (σ:St) (H:Hp) (s:Shared) (e:Value) (s':Shared),Inv X pins σ H s->CX X.stack H s E e s'->X.xe e s'
section
variable {CX:pe} {k:Nat} {f:Addr} {sp:Sp} {wm:List V} {ds:List Value} {E:XK} {m:Str} {o:Expr} {ta:TE}
theorem xR {Q:VK} {vs:List V} (F:mw X.prog X.w X.K X.mg X.base CX k f fd ps sp) (hr:dg k X.A) (hb:Binds X.K fd ps ds) (hd:a_ wm ds) (hx:DJ CX X E)
  (I:Inv X pins σ H s) (r:a_ vs us) (h:sp (vs++wm) H Q E):wpAny (model X.prog X.w) X.A (call (.ref f) us) (EP X pins σ Q) X.xe s:=by
 have r2:a_ (vs++wm) (us++ds):=r.append hd
 have hl:(us++ds).length=ps.length:=by rw [<- r2.length];exact F.len _ _ _ _ h
 refine wpAny_call (codeAny_mono (F.run X.A X.stack s H ⟨us,[]⟩ (us++ds) (vs++wm) Q E hr I.Cn (hb s us I.cz hl) r2 h) fun r s' hq=>?_)
 cases r with
 | error e=>exact hx pins σ H s e s' I hq
 | ok fl=>
  cases fl with
  | ret u=>exact I.after hq
  | next=>exact False.elim hq
  | brk=>exact False.elim hq
  | cont=>exact False.elim hq
theorem vN (F:mw X.prog X.w X.K X.mg X.base CX k f fd ps sp) (hr:dg k X.A) (hg:Gl X x) (hm:X.mg x=some (.ref f)) (hk:PySem.W.keepIn X.K (.ref f)=true) (hb:Binds X.K fd ps ds) (hd:a_ wm ds) (hx:DJ CX X E)
  (ha:PA X (e::es) t) (fg:(x==("__debug__":Str))=false:=by decide) (he:starEach (e::es) X.env=(false,eval e X.env)::starEach es X.env:=by rfl) (hpl:(backTo pos (starEach es X.env)).any (·.1)=false:=by rfl):
  PE X (.Call (.Name x p) (e::es) [] pos) (Co sp wm E t):=by
 intro pins s σ H Q I h
 refine wpAny_Call_Name_kw (eA I hg hm ?_ fg)
 refine PySem.W.callWith_K (h₀:=X.base) I.ok.mod.Ak hk (av (ha pos pins s σ H _ I h) fun us s1 ⟨vs,H1,I1,r,q⟩=>⟨I1.cz,?_⟩) he hpl
 exact xR F hr hb hd hx I1 r q
end
section
variable {CX:pe} {k:Nat} {f:Addr} {ks:List Str} {sp:Sp} {E:XK} {m:Str} {O8:Pos} {o:Expr} {O9:List Keyword} {ta:TE} {tk:TA} {nm:Option Str}
variable {g:List Value->List Value->List Value} {gV:List V->List V->List V}
end
structure dc (N P:List Str) (sc:Scope):Prop where
 kind:sc.kind=.function
 co:sc.isCoroutine=false
 gen:sc.isGenerator=false
 nd:N.Nodup
 pre:N.take P.length=P
 Gm:∀ x∈P,sc.names.lookup x=some .local\/sc.names.lookup x=some .cell
 Kf:∀ y∈sc.names,y.2≠.free
theorem lL {kindOf:Str->Option NameKind} {x:Str}:∀ {binds:List (Str×Value)} {m:Str->Option Value},(∀ v,(x,v) ∉ binds)->bindL kindOf binds m x=m x
 | [],_,_=>rfl
 | (n,v)::r,m,h=>by
  unfold bindL
  rw [lL fun w hw=>h w (Qh _ hw)]
  split
  ·have:x≠n:=by rintro rfl;exact h v List.mem_cons_self
   simp [this]
  ·rfl
theorem lE {kindOf:Str->Option NameKind} {x:Str}:∀ {binds:List (Str×Value)} {m:Str->Option Value},(∀ v,(x,v) ∉ binds)->bindC kindOf binds m x=m x
 | [],_,_=>rfl
 | (n,v)::r,m,h=>by
  unfold bindC
  rw [lE fun w hw=>h w (Qh _ hw)]
  split
  ·rfl
  ·have:x≠n:=by rintro rfl;exact h v List.mem_cons_self
   simp [this]
theorem l5 {kindOf:Str->Option NameKind} {x:Str} {v:Value}:∀ {P:List Str} {vs:List Value} {i:Nat} {m:Str->Option Value},P.Nodup->P[i]? =some x->vs[i]? =some v->kindOf x=some .local->
  bindL kindOf (P.zip vs) m x=some v
 | [],_,_,_,_,h,_,_=>by simp at h
 | _::_,[],_,_,_,_,h,_=>by simp at h
 | p::P,w::vs,0,m,nd,h1,h2,hk=>by
  simp at h1 h2;subst h1;subst h2
  show bindL kindOf ((p,w)::P.zip vs) m p=_
  unfold bindL
  rw [lL fun v hv=>(List.nodup_cons.mp nd).1 (List.of_mem_zip hv).1,if_pos hk]
  simp
 | p::P,w::vs,i+1,m,nd,h1,h2,hk=>by
  show bindL kindOf ((p,w)::P.zip vs) m x=_
  unfold bindL
  exact l5 (i:=i) (List.nodup_cons.mp nd).2 (by simpa using h1) (by simpa using h2) hk
theorem lG {kindOf:Str->Option NameKind} {x:Str} {v:Value}:∀ {P:List Str} {vs:List Value} {i:Nat} {m:Str->Option Value},P.Nodup->P[i]? =some x->vs[i]? =some v->kindOf x≠some .local->
  bindC kindOf (P.zip vs) m x=some v
 | [],_,_,_,_,h,_,_=>by simp at h
 | _::_,[],_,_,_,_,h,_=>by simp at h
 | p::P,w::vs,0,m,nd,h1,h2,hk=>by
  simp at h1 h2;subst h1;subst h2
  show bindC kindOf ((p,w)::P.zip vs) m p=_
  unfold bindC
  rw [lE fun v hv=>(List.nodup_cons.mp nd).1 (List.of_mem_zip hv).1,if_neg hk]
  simp
 | p::P,w::vs,i+1,m,nd,h1,h2,hk=>by
  show bindC kindOf ((p,w)::P.zip vs) m x=_
  unfold bindC
  exact lG (i:=i) (List.nodup_cons.mp nd).2 (by simpa using h1) (by simpa using h2) hk
def start (N:List Str) (vs:List V):St:=vs.map some++List.replicate (N.length - vs.length) none
def gb (CX:pe) (P:Program) (w:World) (K:QZ) (mg:Str->Option Value) (base:Heap) (N:List Str) (qual:Str) (scope:Scope) (f:Addr) (cd:Value) (A:Around) (outer:List Env) (s:Shared) (H:Hp) (E:XK):Cx where
 prog:=P
 w:=w
 K:=K
 mg:=mg
 base:=base
 A:=A.deeper (envOfC qual scope s.heap.objs.size f cd)
 N:=N
 s₀:=s
 H₀:=H
 env:=envOfC qual scope s.heap.objs.size f cd
 outer:=outer
 stack:=envOfC qual scope s.heap.objs.size f cd::outer
 ex:=[]
 calm:=true
 fn:=fun _=>true
 pn:=[]
 xe:=fun e s'=>wpAny (model P w) (A.deeper (envOfC qual scope s.heap.objs.size f cd)) (leaving (envOfC qual scope s.heap.objs.size f cd) e) (fun _ s''=>CX outer H s E e s'') (fun e' s''=>CX outer H s E e' s'') s'
theorem nD (h:sc.names.lookup x=some .cell):∃ c,(cellsFrom n sc.names []).lookup x=some c:=by
 have q:=PySem.W.cellsFrom_some sc.names n [] (.inl h)
 exact Option.isSome_iff_exists.mp q
theorem rK {CX:pe} {K:QZ} {f:Addr} {cd:Value} {s1:Shared} {E:XK} {vs:List V}
  (S:dc N ps scope) (hd:A.handled=none) (e0:yr P w K mg base A outer s H) (hl:vs.length=ps.length) (r:a_ vs us)
  (x:InCallC s s.heap.objs.size (bindL (envOfC qual scope s.heap.objs.size f cd).kindOf (ps.zip us) fun _=>none) (cellsFrom (s.heap.objs.size+1) scope.names []) (bindC (envOfC qual scope s.heap.objs.size f cd).kindOf (ps.zip us) fun _=>none) s1):
  Inv (gb CX P w K mg base N qual scope f cd A outer s H E) [] (start N vs) H s1:=by
 have hpl:ps.length<=N.length:=by have:=congrArg List.length S.pre;rw [List.length_take] at this;omega
 obtain ⟨h1,tk,rfl,hk⟩:=x.done
 have Bk:∀ b:Addr,b ∉ (gb CX P w K mg base N qual scope f cd A outer s H E).ex:=fun b z=>absurd (show b∈([]:List Addr) from z) (by simp)
 refine ⟨⟨e0.mod,S.kind,rfl,rfl,Qy _,fun y z c h1 h2=>?_,fun y hy=>?_,fun y c _ h=>?_,fun _=>hd,Around.frames_deeper e0.frames,.inr ⟨rfl,rfl⟩,fun b z=>absurd z (Bk b),e0.bs,e0.qm,fun b _ _=>Bk b,fun b z=>absurd z (Bk b),e0.lh,e0.uu⟩,
  rfl,e0.bare,Un.kept hk,⟨_,x.toInCall.ns,fun i y v h1 h2 h3=>?_⟩,fun y c h=>⟨_,x.cell y c h⟩,e0.hok.fresh (Qy _),fun y c h=>?_,fun p hp=>absurd (show p∈([]:List (Addr×Obj)) from hp) (by simp),e0.hok.kept hk,?_⟩
 ·exact name_of_addr x.apart (PySem.mem_of_lookup h1) (PySem.mem_of_lookup h2)
 ·have hy:scope.names.lookup y=some .cell\/scope.names.lookup y=some .free:=hy
  rcases hy with hy | hy
  ·exact nD hy
  ·exact absurd rfl (S.Kf _ (PySem.mem_of_lookup hy))
 ·exact Nat.le_of_lt (x.above y c (PySem.mem_of_lookup h))
 ·have hi:i < vs.length:=by
   unfold start at h2
   by_cases hi:i < vs.length
   ·exact hi
   ·rw [List.getElem?_append_right (by simpa using hi)] at h2
    rw [List.getElem?_replicate] at h2
    split at h2<;>cases h2
  have ha:vs[i]? =some v:=by
   unfold start at h2
   rw [List.getElem?_append_left (by simpa using hi),Qq] at h2
   cases e:vs[i]? with
   | none=>rw [e] at h2;cases h2
   | some a=>rw [e] at h2;cases h2;rfl
  obtain ⟨u,hu,rv⟩:=r.get ha
  have hp:ps[i]? =some y:=by
   rw [<- S.pre,List.getElem?_take_of_lt (by omega)];exact h1
  have Gn:ps.Nodup:=by rw [<- S.pre];exact S.nd.sublist (List.take_sublist _ _)
  refine ⟨u,rv,?_⟩
  rcases S.Gm y (QC hp) with k | k
  ·exact .inl ⟨k,l5 Gn hp hu k⟩
  ·obtain ⟨c,e⟩:=nD (n:=s.heap.objs.size+1) k
   refine .inr ⟨.inl k,c,e,?_⟩
   have q:=x.cell y c e
   rw [lG Gn hp hu (by show scope.names.lookup y≠_;rw [k];decide)] at q
   exact q
 ·exact e0.hok.fresh (Nat.le_of_lt (x.above y c (PySem.mem_of_lookup h)))
 ·unfold start
  show _=N.length
  rw [Qk,Ql,List.length_replicate]
  omega
theorem xM {CX:pe} {K:QZ} {k:Nat} {f:Addr} {params:Arguments} {dV kV doc pm ay ct oc:Value} {an od:Option Addr}
  {gz:Array (Option Value)} {N ps:List Str} {sp:Sp} (lk:K.lookup f=some ⟨oc,od,.func (PySem.W.fnOf name qual params body scope dV kV doc pm an ay ct),gz⟩) (jd:PySem.W.codeIn K ay qual=true) (S:dc N ps scope)
  (len:∀ vs H Q E,sp vs H Q E->vs.length=ps.length)
  (qv:∀ (A:Around) (outer:List Env) (s:Shared) (H:Hp) (vs:List V) (Q:VK) (E:XK),dg k (A.deeper (envOfC qual scope s.heap.objs.size f ay))->sp vs H Q E->
   ∃ t,ju (gb CX P w K mg base N qual scope f ay A outer s H E) body t/\t {nx:=fun _ H'=>Q .af H',rt:=Q} (start N vs) H):
  mw P w K mg base CX (k+1) f (PySem.W.fnOf name qual params body scope dV kV doc pm an ay ct) ps sp:=by
 refine ⟨len,fun A outer s H args us vs Q E hr e0 hb r se=>?_⟩
 have hl:=len _ _ _ _ se
 have KX:K.In s.heap:=e0.mod.Ak.keeps fun b o e=>(e0.bs b o e).1
 have lim:s.heap.NoLimit:=e0.mod.nolimit.keeps fun b o e=>(e0.bs b o e).1
 have Kg:∀ y∈ps.zip us,scope.names.lookup y.1=some .local\/(scope.names.lookup y.1=some .cell/\((cellsFrom (s.heap.objs.size+1) scope.names []).lookup y.1).isSome=true):=fun ⟨n,v⟩ hy=>by
  rcases S.Gm n (List.of_mem_zip hy).1 with q | q
  ·exact .inl q
  ·exact .inr ⟨q,PySem.W.cellsFrom_some _ _ _ (.inl q)⟩
 refine codeAny_call_function hr.depth (KX _ _ lk) rfl S.co S.gen rfl (PySem.W.codeRec_of KX jd) (hb _ _ _ _ ?_)
 refine wpAny_newFunctionEnv_cells S.kind Kg fun env he s1 x=>?_
 subst he
 refine ⟨lim.keeps x.toInCall.keep,codeAny_func ?_⟩
 obtain ⟨t,ht,hq⟩:=qv A outer s H vs Q E (hr.deeper _) se
 have I:Inv (gb CX P w K mg base N qual scope f ay A outer s H E) [] (start N vs) H s1:=rK S hr.hd e0 hl r x
 refine wpAny_mono (ht [] s1 (start N vs) H _ I hq) (fun fl s' hs=>?_) fun e s' hs=>hs
 have fin:∀ {σ':St} {H':Hp} {v:V} {u:Value},Inv (gb CX P w K mg base N qual scope f ay A outer s H E) [] σ' H' s'->RelV v u->Q v H'->CE outer P w H s Q u s':=
  fun {σ' H' v u} J rv q=>⟨v,H',J.os,J.bare,J.base,J.hok,rv,q⟩
 cases fl with
 | ret u=>
  obtain ⟨v,σ',H',J,rv,q⟩:=hs
  exact fin J rv q
 | next=>
  obtain ⟨σ',H',J,q⟩:=hs
  exact fin (v:=V.af) (u:=Value.none) J rfl q
 | brk=>
  obtain ⟨_,_,_,q⟩:=hs
  exact False.elim q
 | cont=>
  obtain ⟨_,_,_,q⟩:=hs
  exact False.elim q
section
variable {id:String} {r:List V->Hp->VK->Prop}
def Bl (r:List V->Hp->VK->Prop) (t:TA):TE:=fun σ H Q=>t σ H fun vs H1=>r vs H1 Q
theorem tY (hc:je X (.builtin id) r) (hg:Gl X x) (hm:X.mg x=none) (hv:bootBuiltins x=some (.builtin id)) (ha:PA X (e::es) t) (hn:x≠"__name__":=by decide) (fg:(x==("__debug__":Str))=false:=by decide)
  (he:starEach (e::es) X.env=(false,eval e X.env)::starEach es X.env:=by rfl) (hpl:(backTo pos (starEach es X.env)).any (·.1)=false:=by rfl):PE X (.Call (.Name x p) (e::es) [] pos) (Bl r t):=by
 intro pins s σ H Q I h
 refine wpAny_Call_Name_kw (eZ I hg hm hv ?_ hn fg)
 exact PyProof.Rows.callWith_builtin1 (av (ha pos pins s σ H _ I h) fun us s1 ⟨vs,H1,I1,r1,q1⟩=>hc pins s1 σ H1 vs us Q I1 r1 q1) he hpl
theorem sJ (hc:je X (.type T) r) (hg:Gl X x) (hm:X.mg x=none) (hv:bootBuiltins x=some (.type T)) (ha:PA X (e::es) t) (hn:x≠"__name__":=by decide) (fg:(x==("__debug__":Str))=false:=by decide)
  (he:starEach (e::es) X.env=(false,eval e X.env)::starEach es X.env:=by rfl) (hpl:(backTo pos (starEach es X.env)).any (·.1)=false:=by rfl):PE X (.Call (.Name x p) (e::es) [] pos) (Bl r t):=by
 intro pins s σ H Q I h
 refine wpAny_Call_Name_kw (eZ I hg hm hv ?_ hn fg)
 exact PyProof.Rows.callWith_type1 (av (ha pos pins s σ H _ I h) fun us s1 ⟨vs,H1,I1,r1,q1⟩=>hc pins s1 σ H1 vs us Q I1 r1 q1) he hpl
end
end L2
namespace HT
open PySem PyProof.Rows
section
open PySem.SeqAt
open PySem.AutoSeq1 (wpAny_loadPart')
open PySem.MeetsSeq PySem.MeetsSeq2 PySem.MeetsSeq3
end
theorem wN {t:Addr} {vs ws:List Value} (ht:IsTup s.heap t vs.toArray) (hb:IsTup s.heap b ws.toArray) (hv:vs≠[])
  (h1:ws=[]->Q (.ref t) s) (h2:ws≠[]->Q (.ref s.heap.objs.size) {s with heap:=s.heap.push {cls:=.type "tuple",data:=.seq (vs++ws).toArray}})
  (hsz:vs.length+ws.length<=sizeLine):wpAny (model prog w) A (binaryOp .Add (.ref t) (.ref b)) Q E s:=by
 obtain ⟨⟨cls,dd,data,sl⟩,ho,hc,n,hd⟩:=id ht
 obtain ⟨⟨Gp,wo,data2,wq⟩,ph,kc,n2,hd2⟩:=id hb
 simp only at hc hd kc hd2
 subst hc hd kc hd2
 have e:vs.toArray++ws.toArray=(vs++ws).toArray:=by simp
 by_cases hw:ws=[]
 ·exact concat_meets ⟨_,ho,rfl⟩ ⟨_,ph,rfl⟩ noFill_tuple_add seq_tuple_add PySem.F.slot_tuple_add PySem.F.entry_tuple_add (PySem.F.args_tuple_add_2 _ _)
   (tuple_addW1 t b vs.toArray ws.toArray n n2 dd wo sl wq (by simpa using hv) (by simp [hw])) ⟨ho,ph,h1 hw⟩
 ·refine concat_meets ⟨_,ho,rfl⟩ ⟨_,ph,rfl⟩ noFill_tuple_add seq_tuple_add PySem.F.slot_tuple_add PySem.F.entry_tuple_add (PySem.F.args_tuple_add_2 _ _)
   (tuple_addW2 t b vs.toArray ws.toArray n n2 dd wo sl wq (by simpa using hv) (by simpa using hw) (by rw [List.size_toArray,List.size_toArray];exact hsz)) ⟨ho,ph,?_⟩
  rw [e]
  exact h2 hw
def bg (n d:Nat):Option Int->Nat
 | none=>d
 | some v=>if v < 0 then (v+(n:Int)).toNat else min v.toNat n
theorem uE (n d:Nat):bg n d none=d:=rfl
theorem i0 (n d k:Nat):bg n d (some (k:Int))=min k n:=by
 show (if (k:Int) < 0 then ((k:Int)+(n:Int)).toNat else min (k:Int).toNat n)=min k n
 rw [if_neg (by omega),Int.toNat_natCast]
theorem yE (n d:Nat) (hd:d<=n) (o:Option Int):bg n d o<=n:=by
 cases o with
 | none=>exact hd
 | some v=>
  show (if v < 0 then (v+(n:Int)).toNat else min v.toNat n)<=n
  by_cases hv:v < 0
  ·rw [if_pos hv];omega
  ·rw [if_neg hv];exact Nat.min_le_right _ _
theorem qJ (v:Int) (n d:Nat):(if v < 0 then max (v+(n:Int)) 0 else min v (n:Int))=((bg n d (some v):Nat):Int):=by
 show (if v < 0 then max (v+(n:Int)) 0 else min v (n:Int))=(((if v < 0 then (v+(n:Int)).toNat else min v.toNat n):Nat):Int)
 by_cases hv:v < 0
 ·simp only [if_pos hv];omega
 ·simp only [if_neg hv];omega
theorem pP (lo hi:Option Int) (n:Nat):Builtin.Slice.sliceAdjust lo hi 1 (n:Int)=(((bg n 0 lo:Nat):Int),((bg n n hi:Nat):Int)):=by
 have h1:¬((1:Int) < 0):=by omega
 unfold Builtin.Slice.sliceAdjust
 simp only [h1,if_false]
 refine Prod.ext ?_ ?_
 ·cases lo with
  | none=>rfl
  | some v=>exact qJ v n 0
 ·cases hi with
  | none=>rfl
  | some v=>exact qJ v n n
theorem pU (i j:Nat):Builtin.Slice.slicePlaces (i:Int) (j:Int) 1=j - i:=by
 unfold Builtin.Slice.slicePlaces
 have h1:(1:Int) > 0:=by omega
 simp only [h1,if_true,Int.ediv_one]
 split<;>omega
theorem jS {v:Value} {o:Option Int} {Q:Option Int->Shared->Prop} (p:IsPart v o) (h:Q o s):wpAny (model prog w) A (Builtin.Slice.slicePartIndex v) Q E s:=by
 cases p with
 | none=>exact slicePart_none h
 | int i t=>exact slicePart_int h
theorem i5 {sl:Addr} {vl vu:Value} {lo hi:Option Int} {Q:Int×Int×Nat->Shared->Prop} (hs:s.heap.IsSliceOf sl vl vu .none) (pl:IsPart vl lo) (pu:IsPart vu hi)
  (h:Q (((bg n 0 lo:Nat):Int),1,bg n n hi - bg n 0 lo) s):wpAny (model prog w) A (Builtin.Slice.sliceApplied (.ref sl) (pure (n:Int))) Q E s:=by
 obtain ⟨os,yt,Gq,jf⟩:=id hs
 unfold Builtin.Slice.sliceApplied Builtin.Slice.sliceFields
 refine QS (QS (wpAny_field yt jf (x:=vl) rfl (QS (wpAny_field yt jf (x:=vu) rfl (QS (wpAny_field yt jf (x:=.none) rfl (QT ?_)))))))
 refine QS (slicePart_none ?_)
 show wpAny _ _ (if ((1:Int)==0)=true then _ else _) _ _ s
 rw [if_neg (by decide)]
 refine QS (jS pl (QS (jS pu (QS (QT ?_)))))
 show wpAny _ _ (match Builtin.Slice.sliceAdjust lo hi 1 (n:Int) with | (lo,hi)=>pure (lo,(1:Int),Builtin.Slice.slicePlaces lo hi 1)) _ _ s
 rw [pP lo hi n]
 show wpAny _ _ (pure (((bg n 0 lo:Nat):Int),(1:Int),Builtin.Slice.slicePlaces ((bg n 0 lo:Nat):Int) ((bg n n hi:Nat):Int) 1)) _ _ s
 rw [pU]
 exact QT h
theorem tW (xs:Array Value) (i k:Nat):((List.range k).filterMap fun (m:Nat)=>xs[((i:Int)+(m:Int)*1).toNat]?).toArray=((xs.toList.drop i).take k).toArray:=by
 have e:(fun (m:Nat)=>xs[((i:Int)+(m:Int)*1).toNat]?)=fun m=>xs[i+m]?:=by
  funext m
  have:((i:Int)+(m:Int)*1).toNat=i+m:=by omega
  rw [this]
 rw [e]
 have:=pick_run xs i k
 rw [List.filterMap_map] at this
 have e2:((fun x=>xs[x]?)∘fun x=>i+x)=fun m=>xs[i+m]?:=rfl
 rw [e2] at this
 rw [this]
theorem hU {t sl:Addr} {items:Array Value} {vl vu:Value} {lo hi:Option Int} (ht:IsTup s.heap t items) (hs:s.heap.IsSliceOf sl vl vu .none) (pl:IsPart vl lo) (pu:IsPart vu hi)
  (hw:¬(bg items.size 0 lo=0/\bg items.size items.size hi=items.size))
  (h:Q (.ref s.heap.objs.size) {s with heap:=s.heap.push {cls:=.type "tuple",data:=.seq ((items.toList.drop (bg items.size 0 lo)).take (bg items.size items.size hi - bg items.size 0 lo)).toArray}})
  (hsz:items.size<=sizeLine):wpAny (model prog w) A (getItem (.ref t) (.ref sl)) Q E s:=by
 have Cp:sizeOk (.seq ((items.toList.drop (bg items.size 0 lo)).take (bg items.size items.size hi - bg items.size 0 lo)).toArray):=by
  show ((items.toList.drop (bg items.size 0 lo)).take (bg items.size items.size hi - bg items.size 0 lo)).toArray.size<=sizeLine
  rw [List.size_toArray,List.length_take,List.length_drop,Array.length_toList]
  omega
 have hj:bg items.size items.size hi<=items.size:=yE _ _ (Qy _) hi
 obtain ⟨os,yt,Gq,jf⟩:=id hs
 have Kh:s.TypeIs (.ref sl) "slice":=⟨os,yt,Gq⟩
 unfold getItem
 try with_reducible refine wpAny_holding ?_
 first | refine QS (QT ?_) | skip
 refine QS (wpAny_sequenceKey ht.typeIs (by decide) ?_)
 refine QS (wpAny_callSpecial?_slot (name:=Str.ofString "__getitem__") ht.typeIs PyProof.Rows.slot_tuple_getitem
  (wpAny_call_entry PyProof.Rows.slot_tuple_getitem ht.typeIs entry_tuple_getitem ?_ (args_tuple_getitem _ _)))
 show wpAny _ _ (Builtin.Tuple.tupleItemsOf (.ref t) >>=_) _ _ s
 refine QS (tupleItemsOf_ ht ?_)
 refine QS (wpAny_typeOf Kh ?_)
 rw [if_pos (by decide)]
 refine QS (i5 hs pl pu ?_)
 have Kl:¬((((bg items.size 0 lo:Nat):Int)==0&&(1:Int)==1&&(bg items.size items.size hi - bg items.size 0 lo)==items.size)=true):=by
  intro q
  rw [Bool.and_eq_true,Bool.and_eq_true] at q
  have q1:((bg items.size 0 lo:Nat):Int)=0:=eq_of_beq q.1.1
  have q2:bg items.size items.size hi - bg items.size 0 lo=items.size:=eq_of_beq q.2
  exact hw ⟨by omega,by omega⟩
 show wpAny _ _ (if (((bg items.size 0 lo:Nat):Int)==0&&(1:Int)==1&&(bg items.size items.size hi - bg items.size 0 lo)==items.size)=true then _ else _) _ _ s
 rw [if_neg Kl,tW]
 first
  | exact QS (m:=Builtin.Tuple.tupleExact _) (wpAny_newObj_type (QT ⟨_,rfl,QT h⟩) Cp)
  | exact QS (m:=Builtin.Tuple.tupleExact _) (wpAny_newObj_type (QS (QT (QT ⟨_,rfl,QT h⟩))) Cp)
  | exact QS (QS (m:=Builtin.Tuple.tupleExact _) (wpAny_newObj_type (QT (QT ⟨_,rfl,QT h⟩)) Cp))
  | exact QS (QS (m:=Builtin.Tuple.tupleExact _) (wpAny_newObj_type (QT ⟨_,rfl,QT h⟩) Cp))
end HT
namespace L2
open PySem PySem.Spec PyProof.Rows
abbrev TO:=St->Hp->(Option Int->Hp->Prop)->Prop
def PO (X:Cx) (e:Option Expr) (t:TO):Prop:=
 ∀ (pins:List (Addr×Obj)) (s:Shared) (σ:St) (H:Hp) (Q:Option Int->Hp->Prop),Inv X pins σ H s->t σ H Q->
  wpAny (model X.prog X.w) X.A (evalPart e X.env) (fun u s'=>∃ o H',Inv X pins σ H' s'/\IsPart u o/\Q o H') X.xe s
def Gr:TO:=fun _ H Q=>Q none H
def Gs (t:TE):TO:=fun σ H Q=>t σ H fun x H1=>∃ i,x=.int i/\Q (some i) H1
section
variable {lo hi:Option Expr} {tl th:TO} {p2:Pos}
theorem wP:PO X none Gr:=by
 intro pins s σ H Q I h
 rw [evalPart_none]
 exact QT ⟨none,H,I,.none,h⟩
theorem wV (h:PE X e te):PO X (some e) (Gs te):=by
 intro pins s σ H Q I hw
 rw [evalPart_some]
 refine av (h pins s σ H _ I hw) ?_
 rintro u s1 ⟨x,H1,I1,r1,q1⟩
 obtain ⟨i,rfl,q⟩:=q1
 obtain ⟨t,rfl⟩:=r1
 exact ⟨some i,H1,I1,.int i t,q⟩
def qw (X:Cx) (r:V->Option Int->Option Int->Hp->VK->Prop):Prop:=
 ∀ (pins:List (Addr×Obj)) (s:Shared) (σ:St) (H:Hp) (x:V) (v vl vu:Value) (lo hi:Option Int) (sl:Addr) (Q:VK),Inv X pins σ H s->RelV x v->s.heap.IsSliceOf sl vl vu .none->IsPart vl lo->IsPart vu hi->r x lo hi H Q->
  ∃ T id,typeLookup (.type T) "__getitem__"=pure (some (.builtin id))/\s.TypeIs v T/\wpAny (model X.prog X.w) X.A (getItem v (.ref sl)) (EP X pins σ Q) X.xe s
theorem qw.or {r r':V->Option Int->Option Int->Hp->VK->Prop} (h:qw X r) (h':qw X r'):qw X (fun x lo hi H Q=>r x lo hi H Q\/r' x lo hi H Q):=by
 intro pins s σ H x v vl vu lo hi sl Q I rx hs pl pu q
 rcases q with q | q
 ·exact h pins s σ H x v vl vu lo hi sl Q I rx hs pl pu q
 ·exact h' pins s σ H x v vl vu lo hi sl Q I rx hs pl pu q
def Gu (r:V->Option Int->Option Int->Hp->VK->Prop) (te:TE) (tl th:TO):TE:=fun σ H Q=>te σ H fun x H1=>tl σ H1 fun l H2=>th σ H2 fun u H3=>r x l u H3 Q
theorem uC {r:V->Option Int->Option Int->Hp->VK->Prop} (hr:qw X r) (he:PE X e te) (hl:PO X lo tl) (hu:PO X hi th):PE X (.Subscript e (.Slice lo hi none p2) pos) (Gu r te tl th):=by
 intro pins s σ H Q I h
 refine Subscript_ (av (he pins s σ H _ I h) ?_)
 rintro v s1 ⟨x,H1,I1,r1,q1⟩
 refine wpAny_Slice (av (hl pins s1 σ H1 _ I1 q1) fun vl s2 ⟨l,H2,I2,pl,q2⟩=>av (hu pins s2 σ H2 _ I2 q2) fun vu s3 ⟨u,H3,I3,pu,q3⟩=>?_)
 rw [evalPart_none]
 refine QT ?_
 have I4:Inv X pins σ H3 {s3 with heap:=s3.heap.push {cls:=.type "slice",data:=.fields #[vl,vu,.none]}}:=I3.kept (t':=s3.toks) fun b ob q=>Qc _ q
 obtain ⟨T,id,hT,ht,hg⟩:=hr pins {s3 with heap:=s3.heap.push {cls:=.type "slice",data:=.fields #[vl,vu,.none]}} σ H3 x v vl vu l u s3.heap.objs.size Q I4 r1 (Heap.IsSliceOf.new ..) pl pu q3
 show wpAny (model X.prog X.w) X.A (subscriptTail e (.Slice lo hi none p2) v (.ref s3.heap.objs.size)) (EP X pins σ Q) X.xe {s3 with heap:=s3.heap.push {cls:=.type "slice",data:=.fields #[vl,vu,.none]}}
 exact tail_any (ops:=[.ref s3.heap.objs.size,v]) ht hT hg (by with_unfolding_all rfl)
def e_ (xs:List V) (lo hi:Option Int):List V:=(xs.drop (HT.bg xs.length 0 lo)).take (HT.bg xs.length xs.length hi - HT.bg xs.length 0 lo)
theorem iO (xs:List V) (lo hi:Option Int):(e_ xs lo hi).length<=xs.length:=by
 unfold e_
 rw [List.length_take,List.length_drop]
 omega
def DK (K:QZ):V->Option Int->Option Int->Hp->VK->Prop:=fun x lo hi H Q=>∃ a xs,x=.ref a/\ae K H a xs/\
 ¬(HT.bg xs.length 0 lo=0/\HT.bg xs.length xs.length hi=xs.length)/\∀ p,H p=none->Q (.ref p) (upd H p (.tup (e_ xs lo hi)))
theorem zN:qw X (DK X.K):=by
 intro pins s σ H x v vl vu lo hi sl Q I rx hs pl pu h
 obtain ⟨a,xs,rfl,hx,hw,q⟩:=h
 cases rx
 obtain ⟨its,r,ht,hz⟩:=I.tuple hx
 have fb:its.toArray.size=xs.length:=by rw [List.size_toArray];exact r.length.symm
 refine ⟨"tuple",_,PyProof.Rows.slot_tuple_getitem.lookup,ht.typeIs,?_⟩
 refine HT.hU ht hs pl pu (by rw [fb];exact hw) ?_ (by rw [fb];exact hz)
 rw [fb]
 refine ⟨.ref s.heap.objs.size,_,I.laid (t':=s.toks) (o:=.tup (e_ xs lo hi)) (fun b ob q=>Qc _ q) (Qy _) ?_,rfl,q _ (I.hok.fresh (Qy _))⟩
 exact ⟨⟨Nat.le_trans (iO xs lo hi) hz,we.new rfl rfl⟩,_,(r.drop (HT.bg xs.length 0 lo)).take (HT.bg xs.length xs.length hi - HT.bg xs.length 0 lo),IsTup.new _ _⟩
def DL (K:QZ):R2:=fun x y H Q=>∃ a b xs ys,x=.ref a/\y=.ref b/\ae K H a xs/\ae K H b ys/\xs≠[]/\xs.length+ys.length<=sizeLine/\
 (ys=[]->Q (.ref a) H)/\(ys≠[]->∀ p,H p=none->Q (.ref p) (upd H p (.tup (xs++ys))))
theorem a_.wu {xs:List V} (r:a_ xs us):us=[]↔xs=[]:=by
 cases r with
 | nil=>simp
 | cons _ _=>simp
theorem qP:bw X (binaryOp .Add) (DL X.K):=by
 intro pins s σ H x y v u Q I rx ry h
 obtain ⟨a,b,xs,ys,rfl,rfl,ha,hb,hx,hz,q1,q2⟩:=h
 cases rx
 cases ry
 obtain ⟨its,r1,p1,_⟩:=I.tuple ha
 obtain ⟨its2,r2,p2,_⟩:=I.tuple hb
 refine HT.wN p1 p2 (fun z=>hx (r1.wu.mp z)) (fun z=>⟨.ref a,H,I,rfl,q1 (r2.wu.mp z)⟩) (fun z=>?_) (by rw [<- r1.length,<- r2.length];exact hz)
 refine ⟨.ref s.heap.objs.size,_,I.laid (t':=s.toks) (o:=.tup (xs++ys)) (fun b ob q=>Qc _ q) (Qy _) ?_,rfl,q2 (fun w=>z (r2.wu.mpr w)) _ (I.hok.fresh (Qy _))⟩
 exact ⟨⟨by rw [Qk];exact hz,we.new rfl rfl⟩,_,r1.append r2,IsTup.new _ _⟩
end
def qx (n:Nat) (i:Int):Option Nat:=if 0<=i then (if i < n then some i.toNat else none) else if -(n:Int)<=i then some (i+n).toNat else none
def ir {α:Type} (xs:List α) (i:Int):Option α:=(qx xs.length i).bind fun j=>xs[j]?
theorem qC {i:Int} (h:qx n i=some j):seqIndex? i n=some j/\j < n/\ -(n:Int)<=i/\i < n:=by
 unfold qx at h
 by_cases h0:0<=i
 ·rw [if_pos h0] at h
  by_cases h1:i < n
  ·rw [if_pos h1] at h
   have e:i.toNat=j:=QD h
   exact ⟨by rw [seqIndex_of h0 h1,e],by omega,by omega,h1⟩
  ·rw [if_neg h1] at h;cases h
 ·rw [if_neg h0] at h
  by_cases h1: -(n:Int)<=i
  ·rw [if_pos h1] at h
   have e:(i+n).toNat=j:=QD h
   exact ⟨by rw [seqIndex_neg (by omega) h1,e],by omega,h1,by omega⟩
  ·rw [if_neg h1] at h;cases h
theorem lZ {xs:List α} {i:Int} {v:α} (h:ir xs i=some v):∃ j,seqIndex? i xs.length=some j/\xs[j]? =some v/\j < xs.length/\ -(xs.length:Int)<=i/\i < xs.length:=by
 unfold ir at h
 cases e:qx xs.length i with
 | none=>rw [e] at h;cases h
 | some j=>
  rw [e] at h
  obtain ⟨h1,h2,h3,h4⟩:=qC e
  exact ⟨j,h1,h,h2,h3,h4⟩
theorem cB {xs:List α} {v:α} (h:xs[j]? =some v):ir xs (j:Int)=some v:=by
 have hj:j < xs.length:=(List.getElem?_eq_some_iff.mp h).1
 have e:qx xs.length (j:Int)=some j:=by
  unfold qx
  rw [if_pos (by omega),if_pos (by omega)];simp
 unfold ir;rw [e];exact h
def Gv (b:Expr):Prop:=∀ o i,subscripted b false o i=operate [o,i] (getItem o i)
def yu (X:Cx) (r:R2):Prop:=
 ∀ (value slice:Expr) (pins:List (Addr×Obj)) (s:Shared) (σ:St) (H:Hp) (x y:V) (v u:Value) (Q:VK),Inv X pins σ H s->RelV x v->RelV y u->r x y H Q->
  subscripted slice false v u=operate [v,u] (getItem v u)->wpAny (model X.prog X.w) X.A (subscriptTail value slice v u) (EP X pins σ Q) X.xe s
def DM (X:Cx) (id:String) (r:V->List V->Hp->VK->Prop):Prop:=
 ∀ (pins:List (Addr×Obj)) (s:Shared) (σ:St) (H:Hp) (x:V) (xs:List V) (v:Value) (us:List Value) (Q:VK),Inv X pins σ H s->RelV x v->a_ xs us->r x xs H Q->
  wpAny (model X.prog X.w) X.A (call (.builtin id) (v::us)) (EP X pins σ Q) X.xe s
section
variable {a b:Expr} {ta tb:TE}
theorem Km {r:R2} (hr:yu X r) (ha:PE X a ta) (hb:PE X b tb) (hs:Gv b):PE X (.Subscript a b pos) (wl r ta tb):=by
 intro pins s σ H Q I h
 exact Subscript_ (DE ha hb I h fun v u s2 x y H2 I2 rx ry q=>hr a b pins s2 σ H2 x y v u Q I2 rx ry q (hs _ _))
def Kn (K:QZ):R2:=fun x y H Q=>∃ p xs i v,x=.ref p/\y=.int i/\ao K H p xs/\ir xs i=some v/\Q v H
def Ko (K:QZ):R2:=fun x y H Q=>∃ p xs i v,x=.ref p/\y=.int i/\ae K H p xs/\ir xs i=some v/\Q v H
def Kp:R2:=fun x y H Q=>∃ z i c,x=.str z/\y=.int i/\z.length<=sizeLine/\ir z.cps.toList i=some c/\Q (.str ⟨#[c]⟩) H
theorem vM:yu X (Kn X.K):=by
 intro value slice pins s σ H x y v u Q I rx ry h hs
 obtain ⟨p,xs,i,z,rfl,rfl,hq,he,q⟩:=h
 cases rx
 obtain ⟨t,rfl⟩:=ry
 obtain ⟨its,r,pl,hz⟩:=I.list hq
 obtain ⟨j,h1,h2,h3,h4,h5⟩:=lZ he
 obtain ⟨w,ew,my⟩:=r.get h2
 have hl:=r.length
 have hn:=Au
 have fin:EP X pins σ Q w s:=⟨z,H,I,my,q⟩
 by_cases h0:0<=i
 ·have hj:i.toNat=j:=by
   rw [seqIndex_of h0 h5] at h1
   exact QD h1
  exact item_listR pl.isList h0 (by omega) (by rw [hj];simpa using ew) fin hs
 ·have hj:(i+(its.toArray.size:Int)).toNat=j:=by
   rw [seqIndex_neg (by omega) h4] at h1
   rw [List.size_toArray,<- hl]
   exact QD h1
  exact subscriptTail_builtinR (x:=w) pl.isList.typeIs slot_list_getitem.lookup
   (wpAny_getItem_list_neg (Q:=fun r s'=>r=w/\EP X pins σ Q r s') pl.isList (by omega) (by rw [List.size_toArray]<;>omega) (by omega) (by rw [hj];simpa using ew) ⟨rfl,fin⟩) hs
theorem yK:yu X (Ko X.K):=by
 intro value slice pins s σ H x y v u Q I rx ry h hs
 obtain ⟨p,xs,i,z,rfl,rfl,hq,he,q⟩:=h
 cases rx
 obtain ⟨t,rfl⟩:=ry
 obtain ⟨its,r,pl,hz⟩:=I.tuple hq
 obtain ⟨j,h1,h2,h3,h4,h5⟩:=lZ he
 obtain ⟨w,ew,my⟩:=r.get h2
 have hl:=r.length
 have hn:=Au
 have fin:EP X pins σ Q w s:=⟨z,H,I,my,q⟩
 exact subscriptTail_builtinR (x:=w) pl.typeIs slot_tuple_getitem.lookup
  (getItem_tuple (j:=j) (Q:=fun r s'=>r=w/\EP X pins σ Q r s') pl (by omega) (by omega) (by rw [List.size_toArray,<- hl];exact h1) (by simpa using ew) ⟨rfl,fin⟩) hs
theorem yO:yu X Kp:=by
 intro value slice pins s σ H x y v u Q I rx ry h hs
 obtain ⟨z,i,c,rfl,rfl,hz,he,q⟩:=h
 obtain ⟨t,rfl⟩:=rx
 obtain ⟨t',rfl⟩:=ry
 obtain ⟨j,h1,h2,h3,h4,h5⟩:=lZ he
 have hl:z.cps.toList.length=z.length:=by simp [Str.length]
 rw [hl] at h1 h4 h5
 have hn:=Au
 exact tail_any (typeIs_str s z t) slot_str_getitem.lookup (getItem_str (c:=c) (by
  have e1:decide (i < -(2^63:Int))=false:=Qw (by omega)
  have e2:decide (i≥2^63)=false:=Qw (by omega)
  rw [e1,e2,Bool.or_false]) (by rw [h1];simpa using h2) ⟨.str ⟨#[c]⟩,H,I.tok _,⟨_,rfl⟩,q⟩) hs
theorem pL (its:List Value) (n j:Nat) (u:Value):Obj.mapSeq (·.setIfInBounds j u) {cls:=.type "list",data:=.seq its.toArray n}={cls:=.type "list",data:=.seq (its.set j u).toArray n}:=by
 simp [Obj.mapSeq]
theorem Inv.lst {pins:List (Addr×Obj)} {σ:St} {H:Hp} {s:Shared} {p:Addr} {xs:List V} (I:Inv X pins σ H s) (h:H p=some (.lst xs)):
  ∃ (its:List Value) (n:Nat),a_ xs its/\s.heap.get? p=some {cls:=.type "list",data:=.seq its.toArray n}/\xs.length<=sizeLine:=by
 obtain ⟨z,its,n,r,e⟩:=I.hok p _ h
 exact ⟨its,n,r,e,z⟩
theorem Inv.Kq {p:Addr} {xs ys:List V} {its its':List Value} {n':Nat} {f:Obj->Obj} (I:Inv X pins σ H s) (h:H p=some (.lst xs))
  (ho:s.heap.get? p=some {cls:=.type "list",data:=.seq its.toArray n}) (hf:f {cls:=.type "list",data:=.seq its.toArray n}={cls:=.type "list",data:=.seq its'.toArray n'}) (r:a_ ys its') (hz:ys.length<=sizeLine) (t:Nat):
  Inv X pins σ (upd H p (.lst ys)) {s with heap:=s.heap.update p f,toks:=t}:=by
 have e:(s.heap.update p f).get? p=some {cls:=.type "list",data:=.seq its'.toArray n'}:=by
  rw [Heap.get?_update_self f ho (by rw [hf]<;>rfl),hf]
 refine I.write (x:=p) (e:=p) (by rw [h];trivial) (.inl rfl) (fun b u hb q=>(Heap.get?_update_other _ _ (Ne.symm hb)).trans q) ⟨_,e⟩ ?_
 exact ⟨hz,its',n',r,e⟩
def Kr:V->V->V->Hp->(Hp->Prop)->Prop:=fun o i v H Q=>∃ p xs k j,o=.ref p/\i=.int k/\H p=some (.lst xs)/\qx xs.length k=some j/\Q (upd H p (.lst (xs.set j v)))
theorem dN:Dw X Kr:=by
 intro pins s σ H o i v ov iv u Q I ro ri rv h
 obtain ⟨p,xs,k,j,rfl,rfl,hp,hj,q⟩:=h
 cases ro
 obtain ⟨t,rfl⟩:=ri
 obtain ⟨its,n,r,ho,hz⟩:=I.lst hp
 obtain ⟨h1,h2,h3,h4⟩:=qC hj
 have hl:=r.length
 have hn:=Au
 have I':Inv X pins σ (upd H p (.lst (xs.set j v))) {s with heap:=s.heap.update p (Obj.mapSeq (·.setIfInBounds j u))}:=
  I.Kq hp ho (pL its n j u) (r.set rv j) (by rw [List.length_set];exact hz) s.toks
 by_cases h0:0<=k
 ·have hk:k.toNat=j:=by
   rw [seqIndex_of h0 h4] at h1
   exact QD h1
  exact PySem.W.ki_setAt ho h0 (by omega) (by rw [List.size_toArray,<- hl];exact h4) (by rw [hk];exact ⟨_,I',q⟩)
 ·have hk:(k+(its.toArray.size:Int)).toNat=j:=by
   rw [seqIndex_neg (by omega) h3] at h1
   rw [List.size_toArray,<- hl]
   exact QD h1
  exact PySem.W.ki_setBack ho (by omega) (by rw [List.size_toArray,<- hl];exact h3) (by omega) (by rw [hk];exact ⟨_,I',q⟩)
theorem lO (lo hi:Option Int) (n:Nat):(sliceBounds lo hi none n).1=((HT.bg n 0 lo:Nat):Int)/\(sliceBounds lo hi none n).2.1=((HT.bg n n hi:Nat):Int)/\(sliceBounds lo hi none n).2.2=1:=by
 refine ⟨?_,?_,rfl⟩
 ·cases lo with
  | none=>simp [sliceBounds,HT.bg]
  | some i=>
   simp only [sliceBounds,HT.bg,Option.getD_none,show (1:Int) > 0 by decide,if_true]
   by_cases h:i < 0
   ·simp only [h,if_true]<;>omega
   ·simp only [h,if_false]<;>omega
 ·cases hi with
  | none=>simp [sliceBounds,HT.bg]
  | some i=>
   simp only [sliceBounds,HT.bg,Option.getD_none,show (1:Int) > 0 by decide,if_true]
   by_cases h:i < 0
   ·simp only [h,if_true]<;>omega
   ·simp only [h,if_false]<;>omega
theorem kX (its:List Value) (lo hi:Option Int):slicePick its.toArray lo hi none=((its.drop (HT.bg its.length 0 lo)).take (HT.bg its.length its.length hi - HT.bg its.length 0 lo)).toArray:=by
 obtain ⟨h1,h2,h3⟩:=lO lo hi its.toArray.size
 unfold slicePick
 rw [h1,h2,h3]
 simp only [sliceRange_one,pick_run,List.size_toArray]<;>rfl
def DN (K:QZ):V->Option Int->Option Int->Hp->VK->Prop:=fun x lo hi H Q=>∃ a xs,x=.ref a/\ao K H a xs/\∀ p,H p=none->Q (.ref p) (upd H p (.lst (e_ xs lo hi)))
theorem vO:qw X (DN X.K):=by
 intro pins s σ H x v vl vu lo hi sl Q I rx hs pl pu h
 obtain ⟨a,xs,rfl,hx,q⟩:=h
 cases rx
 obtain ⟨its,r,ht,hz⟩:=I.list hx
 have fb:=r.length
 refine ⟨"list",_,slot_list_getitem.lookup,ht.isList.typeIs,?_⟩
 refine wpAny_getItem_list_slice ht.isList hs pl pu .none (by simp) ?_ (by rw [List.size_toArray]<;>omega)
 rw [kX,<- fb]
 refine ⟨.ref s.heap.objs.size,_,I.laid (t':=s.toks) (o:=.lst (e_ xs lo hi)) (fun b ob q=>Qc _ q) (Qy _) ?_,rfl,q _ (I.hok.fresh (Qy _))⟩
 exact ⟨Nat.le_trans (iO xs lo hi) hz,_,0,(r.drop (HT.bg xs.length 0 lo)).take (HT.bg xs.length xs.length hi - HT.bg xs.length 0 lo),Qd _ rfl⟩
def sf:V->Bool
 | .af=>true
 | .bl _=>true
 | .int _=>true
 | .str _=>true
 | _=>false
def wx:V->V->Bool
 | .af,.af=>true
 | .bl a,.bl b=>a==b
 | .bl a,.int b=>(if a then 1 else 0)==b
 | .int a,.bl b=>a==(if b then 1 else 0)
 | .int a,.int b=>a==b
 | .str a,.str b=>a==b
 | _,_=>false
theorem z3 {y x:V} {v:Value} (ry:RelV y u) (rx:RelV x v) (fy:sf y=true) (fx:sf x=true):SeqAt.EqAt A s u v (wx y x):=by
 cases y with
 | af=>
  cases ry
  cases x with
  | af=>cases rx;exact SeqAt.EqAt.same _
  | bl b=>cases rx;exact SeqAt.EqAt.none_bool b
  | int b=>obtain ⟨t,rfl⟩:=rx;exact SeqAt.EqAt.none_int b t
  | str b=>obtain ⟨t,rfl⟩:=rx;exact SeqAt.EqAt.none_str b t
  | _=>exact absurd (show false=true from fx) Bool.false_ne_true
 | bl a=>
  cases ry
  cases x with
  | af=>cases rx;exact SeqAt.EqAt.bool_none a
  | bl b=>cases rx;exact SeqAt.EqAt.bool_bool a b
  | int b=>obtain ⟨t,rfl⟩:=rx;exact SeqAt.EqAt.bool_int a b t
  | str b=>obtain ⟨t,rfl⟩:=rx;exact SeqAt.EqAt.bool_str a b t
  | _=>exact absurd (show false=true from fx) Bool.false_ne_true
 | int a=>
  obtain ⟨t',rfl⟩:=ry
  cases x with
  | af=>cases rx;exact SeqAt.EqAt.int_none a t'
  | bl b=>cases rx;exact SeqAt.EqAt.int_bool a t' b
  | int b=>obtain ⟨t,rfl⟩:=rx;exact SeqAt.EqAt.int_int a t' b t
  | str b=>obtain ⟨t,rfl⟩:=rx;exact SeqAt.EqAt.int_str a t' b t
  | _=>exact absurd (show false=true from fx) Bool.false_ne_true
 | str a=>
  obtain ⟨t',rfl⟩:=ry
  cases x with
  | af=>cases rx;exact SeqAt.EqAt.str_none a t'
  | bl b=>cases rx;exact SeqAt.EqAt.str_bool a t' b
  | int b=>obtain ⟨t,rfl⟩:=rx;exact SeqAt.EqAt.str_int a t' b t
  | str b=>obtain ⟨t,rfl⟩:=rx;exact SeqAt.EqAt.str_str a t' b t
  | _=>exact absurd (show false=true from fx) Bool.false_ne_true
 | _=>exact absurd (show false=true from fy) Bool.false_ne_true
def kg (x:V) (u:Value):Bool:=match u with
 | .none=>wx .af x
 | .bool b=>wx (.bl b) x
 | .int i _=>wx (.int i) x
 | .str z _=>wx (.str z) x
 | _=>false
theorem tQ {x y:V} (r:RelV y u) (f:sf y=true):kg x u=wx y x:=by
 cases y with
 | af=>cases r;rfl
 | bl b=>cases r;rfl
 | int i=>obtain ⟨t,rfl⟩:=r;rfl
 | str z=>obtain ⟨t,rfl⟩:=r;rfl
 | _=>exact absurd (show false=true from f) Bool.false_ne_true
theorem gY {x:V}:∀ {xs:List V} {us:List Value},a_ xs us->xs.all sf=true->us.any (kg x)=xs.any fun y=>wx y x
 | _,_,.nil,_=>rfl
 | y::xs,u::us,.cons r t,f=>by
  rw [List.all_cons,Bool.and_eq_true] at f
  rw [List.any_cons,List.any_cons,tQ r f.1,gY t f.2]
theorem f7 {A:Around} {s:Shared} {x:V} {v:Value} (rx:RelV x v) (fx:sf x=true):∀ {xs:List V} {us:List Value},a_ xs us->xs.all sf=true->∀ u∈us,SeqAt.EqAt A s u v (kg x u)
 | _,_,.nil,_=>fun u hu=>by cases hu
 | y::xs,u::us,.cons r t,f=>fun u' hu=>by
  rw [List.all_cons,Bool.and_eq_true] at f
  rcases Qp.mp hu with rfl | hu
  ·rw [tQ r f.1];exact z3 r rx f.1 fx
  ·exact f7 rx fx t f.2 u' hu
def yw (x:V) (xs:List V):Bool:=xs.any fun y=>wx y x
def Gw (K:QZ) (neg:Bool):R2:=fun x y H Q=>∃ p xs,y=.ref p/\(ao K H p xs\/ae K H p xs)/\sf x=true/\xs.all sf=true/\Q (.bl (if neg then !yw x xs else yw x xs)) H
theorem rR:bw X (compareOp .In) (Gw X.K false):=by
 intro pins s σ H x y v u Q I rx ry h
 obtain ⟨p,xs,rfl,hq,fx,fs,q⟩:=h
 cases ry
 rcases hq with hq | hq
 ·obtain ⟨its,r,pl,hz⟩:=I.list hq
  refine SeqAt.in_listAt (kg x) pl.isList (fun w hw=>f7 rx fx r fs w (by simpa using hw)) ⟨.bl _,H,I,rfl,?_⟩
  rw [show its.toArray.any (kg x)=its.any (kg x) by simp,gY r fs]
  exact q
 ·obtain ⟨its,r,pl,hz⟩:=I.tuple hq
  refine SeqAt.in_tupleAt (kg x) pl (fun w hw=>f7 rx fx r fs w (by simpa using hw)) ⟨.bl _,H,I,rfl,?_⟩
  rw [show its.toArray.any (kg x)=its.any (kg x) by simp,gY r fs]
  exact q
theorem mD:bw X (compareOp .NotIn) (Gw X.K true):=by
 intro pins s σ H x y v u Q I rx ry h
 obtain ⟨p,xs,rfl,hq,fx,fs,q⟩:=h
 cases ry
 rcases hq with hq | hq
 ·obtain ⟨its,r,pl,hz⟩:=I.list hq
  refine SeqAt.notIn_listAt (kg x) pl.isList (fun w hw=>f7 rx fx r fs w (by simpa using hw)) ⟨.bl _,H,I,rfl,?_⟩
  rw [show its.toArray.any (kg x)=its.any (kg x) by simp,gY r fs]
  exact q
 ·obtain ⟨its,r,pl,hz⟩:=I.tuple hq
  refine SeqAt.notIn_tupleAt (kg x) pl (fun w hw=>f7 rx fx r fs w (by simpa using hw)) ⟨.bl _,H,I,rfl,?_⟩
  rw [show its.toArray.any (kg x)=its.any (kg x) by simp,gY r fs]
  exact q
theorem lQ:je X (.type "list") (fun xs H Q=>∃ p ys,xs=[.ref p]/\(ao X.K H p ys\/ae X.K H p ys)/\∀ l,H l=none->Q (.ref l) (upd H l (.lst ys))):=by
 intro pins s σ H xs us Q I r h
 obtain ⟨p,ys,rfl,hq,q⟩:=h
 obtain ⟨u,rfl,rx⟩:=vals1 r
 cases rx
 have fin:∀ (its:List Value),a_ ys its->ys.length<=sizeLine->∀ (h':Heap) (c':Nat),(∀ b o',s.heap.get? b=some o'->h'.get? b=some o')->
   h'.get? s.heap.objs.size=some {cls:=.type "list",dict:=none,data:=.seq its.toArray c',slots:=#[]}->EP X pins σ Q (.ref s.heap.objs.size) {s with heap:=h'}:=fun its r' hz h' c' kp e=>
  ⟨.ref s.heap.objs.size,_,I.laid (t':=s.toks) kp (Qy _) (show bz X.prog X.w _ h' _ (.lst ys) from ⟨hz,its,c',r',e⟩),rfl,q _ (I.hok.fresh (Qy _))⟩
 rcases hq with hq | hq
 ·obtain ⟨its,r',pl,hz⟩:=I.list hq
  have fb:=r'.length
  obtain ⟨o,ho,hc,n,hd⟩:=pl.isList
  exact call_list_seq p (.inl rfl) ho hc hd (fun h' c' kp e=>fin its r' hz h' c' kp e) (by simp only [List.size_toArray]<;>omega)
 ·obtain ⟨its,r',pl,hz⟩:=I.tuple hq
  have fb:=r'.length
  obtain ⟨o,ho,hc,n,hd⟩:=pl
  exact call_list_seq p (.inr rfl) ho hc hd (fun h' c' kp e=>fin its r' hz h' c' kp e) (by simp only [List.size_toArray]<;>omega)
theorem kR:je X (.type "tuple") (fun xs H Q=>∃ p ys,xs=[.ref p]/\((ao X.K H p ys/\∀ l,H l=none->Q (.ref l) (upd H l (.tup ys)))\/(ae X.K H p ys/\Q (.ref p) H))):=by
 intro pins s σ H xs us Q I r h
 obtain ⟨p,ys,rfl,h⟩:=h
 obtain ⟨u,rfl,rx⟩:=vals1 r
 cases rx
 rcases h with ⟨hq,q⟩ | ⟨hq,q⟩
 ·obtain ⟨its,r',pl,hz⟩:=I.list hq
  have fb:=r'.length
  refine call_tuple_list pl.isList (fun h' kp=>?_) (by simp only [List.size_toArray]<;>omega)
  have I1:Inv X pins σ H {s with heap:=h'}:=I.kept (t':=s.toks) kp
  have I2:Inv X pins σ (upd H h'.objs.size (.tup ys)) {s with heap:=h'.push {cls:=.type "tuple",data:=.seq its.toArray}}:=
   I1.laid (t':=s.toks) (fun b o e=>Qc _ e) (Qy _) (show bz X.prog X.w _ _ _ (.tup ys) from ⟨⟨hz,we.new rfl rfl⟩,its,r',IsTup.new _ _⟩)
  exact ⟨.ref h'.objs.size,_,I2,rfl,q _ (I1.hok.fresh (Qy _))⟩
 ·obtain ⟨its,r',pl,hz⟩:=I.tuple hq
  exact call_tuple_same pl ⟨.ref p,H,I,rfl,q⟩
def DO (K:QZ) (T:String) (x:V) (H:Hp):Prop:=match x with
 | .str _=>T="str"
 | .int _=>T="int"
 | .ref p=>(T="list"/\∃ xs,ao K H p xs)\/(T="tuple"/\∃ o,K.lookup p=some o/\o.cls=.type "tuple"/\o.dict=none)\/
   (T="dict"/\((∃ kvs,H p=some (.dK kvs))\/∃ kvs,H p=some (.dT kvs)))\/(T="set"/\∃ S n,H p=some (.set S n))
 | _=>False
theorem tM {x:V} {v:Value} (I:Inv X pins σ H s) (r:RelV x v) (ty:DO X.K T x H):
  s.TypeIs v T/\∀ a,v=.ref a->∃ ob,s.heap.get? a=some ob/\ob.dict=none:=by
 cases x with
 | str z=>
  obtain ⟨t,rfl⟩:=r
  cases (show T="str" from ty)
  exact ⟨typeIs_str s z t,fun _ e=>nomatch e⟩
 | int i=>
  obtain ⟨t,rfl⟩:=r
  cases (show T="int" from ty)
  exact ⟨typeIs_int s i t,fun _ e=>nomatch e⟩
 | ref p=>
  cases r
  rcases ty with ⟨rfl,xs,hq⟩ | ⟨rfl,o,hk,hc,hd⟩ | ⟨rfl,hk⟩ | ⟨rfl,S,n,hk⟩
  ·obtain ⟨its,_,pl,_⟩:=I.list hq
   refine ⟨pl.isList.typeIs,fun a e=>?_⟩
   cases e
   obtain ⟨o,n,e,c,hd,_⟩:=pl
   exact ⟨o,e,hd⟩
  ·refine ⟨⟨o,I.cz p o hk,hc⟩,fun a e=>?_⟩
   cases e
   exact ⟨o,I.cz _ o hk,hd⟩
  ·have z:∃ o,s.heap.get? p=some o/\o.ExactDict:=by
    rcases hk with ⟨kvs,hk⟩ | ⟨kvs,hk⟩
    ·obtain ⟨_,_,_,_,o,_,_,e,ex,_⟩:=I.hok p _ hk
     exact ⟨o,e,ex⟩
    ·obtain ⟨_,_,_,_,o,_,_,e,ex,_⟩:=I.hok p _ hk
     exact ⟨o,e,ex⟩
   obtain ⟨o,e,ex⟩:=z
   refine ⟨⟨o,e,ex.1⟩,fun a e2=>?_⟩
   cases e2
   exact ⟨o,e,ex.2.1⟩
  ·obtain ⟨o,_,_,_,e,ex,_⟩:=I.hok p _ hk
   refine ⟨⟨o,e,ex.1⟩,fun a e2=>?_⟩
   cases e2
   exact ⟨o,e,ex.2.1⟩
 | _=>exact False.elim ty
def Gx (K:QZ) (T:String) (r:V->List V->Hp->VK->Prop) (to:TE):TE:=fun σ H Q=>to σ H fun x H1=>DO K T x H1/\r x [] H1 Q
def DP (K:QZ) (T:String) (r:V->List V->Hp->VK->Prop) (to:TE) (t:TA):TE:=fun σ H Q=>to σ H fun x H1=>DO K T x H1/\t σ H1 fun xs H2=>r x xs H2 Q
variable {o:Expr} {id:String} {r:V->List V->Hp->VK->Prop}
theorem zW (pa:PlainAttrs T) (slot:Slot T name id) (ux:typeOf (.builtin id)=pure (.type "method_descriptor")) (hm:DM X id r) (ho:PE X o to)
  (uy:attributeBase o name X.env (eval o X.env)=eval o X.env:=by rfl) (uz:(apos.endLine==cpos.line)=true:=by rfl):PE X (.Call (.Attribute o name apos) [] [] cpos) (Gx X.K T r to):=by
 intro pins s σ H Q I h
 refine wpAny_Call_method0_late uy uz (av (ho pins s σ H _ I h) ?_)
 rintro v s1 ⟨x,H1,I1,r1,ty,q1⟩
 obtain ⟨h1,h2⟩:=tM I1 r1 ty
 exact ⟨T,id,pa,slot,ux,h1,h2,Calls.callWith_builtin rfl (PySem.evalArgs_none (hm pins s1 σ H1 x [] v [] Q I1 r1 .nil q1))⟩
theorem Ks (pa:PlainAttrs T) (slot:Slot T name id) (ux:typeOf (.builtin id)=pure (.type "method_descriptor")) (hm:DM X id r) (ho:PE X o to) (ha:PA X (e::es) t)
  (uy:attributeBase o name X.env (eval o X.env)=eval o X.env:=by rfl)
  (iu:((backTo cpos (starEach (e::es) X.env)).all (fun x=> !x.1)&&(backToKw cpos (keywordEach [] X.env)).all (fun x=>x.1.isSome)
   &&decide ((e::es).length+([]:List Keyword).length+(if ([]:List Keyword).isEmpty then 0 else 1) < 30))=true:=by rfl)
  (uz:(apos.endLine==cpos.line)=true:=by rfl) (hs:starEach (e::es) X.env=(false,eval e X.env)::starEach es X.env:=by rfl) (Bm:(backTo cpos (starEach es X.env)).any (·.1)=false:=by rfl):
  PE X (.Call (.Attribute o name apos) (e::es) [] cpos) (DP X.K T r to t):=by
 intro pins s σ H Q I h
 refine wpAny_Call_method_late uy iu uz rfl (av (ho pins s σ H _ I h) ?_)
 rintro v s1 ⟨x,H1,I1,r1,ty,q1⟩
 obtain ⟨h1,h2⟩:=tM I1 r1 ty
 refine ⟨T,id,pa,slot,ux,h1,h2,?_⟩
 have hA:=ha cpos pins s1 σ H1 _ I1 q1
 rw [hs] at hA ⊢
 refine Calls.callWith_builtin (by show (false||(backTo cpos (starEach es X.env)).any (·.1))=false;rw [Bm]<;>rfl) (Calls.evalArgs_plain ?_)
 exact av hA fun us s2 ⟨vs,H2,I2,r2,q2⟩=>hm pins s2 σ H2 x vs v us Q I2 r1 r2 q2
/- xs.append(e),list.index on a O_ tuple .. are DM facts of 06m -/
end
def Av (X:Cx) (id:String) (r:V->List V->Hp->VK->Prop):Prop:=
 ∀ (pins:List (Addr×Obj)) (s:Shared) (σ:St) (H:Hp) (x:V) (xs:List V) (v:Value) (us:List Value) (Q:VK),Inv X pins σ H s->RelV x v->a_ xs us->r x xs H Q->
  wpAny (model X.prog X.w) X.A (call (.builtin id) (v::us)) (EP X pins σ Q) X.xe s
theorem a_.one {x:V} {us:List Value} (h:a_ [x] us):∃ u,us=[u]/\RelV x u:=by
 cases h with
 | cons r t=>
  cases t
  exact ⟨_,rfl,r⟩
theorem a_.two {x y:V} (h:a_ [x,y] us):∃ u v,us=[u,v]/\RelV x u/\RelV y v:=by
 cases h with
 | cons r t=>
  cases t with
  | cons q t=>
   cases t
   exact ⟨_,_,rfl,r,q⟩
theorem a_.zero:∀ {us:List Value},a_ [] us->us=[]
 | _,.nil=>rfl
theorem a_.dropLast {xs:List V} {us:List Value} (h:a_ xs us):a_ xs.dropLast us.dropLast:=by
 induction h with
 | nil=>exact .nil
 | cons r t ih=>
  cases t with
  | nil=>exact .nil
  | cons q t'=>exact .cons r ih
theorem a_.rep {xs:List V} {us:List Value} (h:a_ xs us):∀ k:Nat,a_ (List.replicate k xs).flatten (List.replicate k us).flatten
 | 0=>.nil
 | k+1=>by
  rw [List.replicate_succ,List.replicate_succ,List.flatten_cons,List.flatten_cons]
  exact a_.append h (a_.rep h k)
theorem pE (l:List α):l.eraseIdx (l.length - 1)=l.dropLast:=by
 induction l with
 | nil=>rfl
 | cons a r ih=>
  cases r with
  | nil=>rfl
  | cons b r=>
   have e:(a::b::r).length - 1=((b::r).length - 1)+1:=by
    have h1:(a::b::r).length=r.length+2:=rfl
    have h2:(b::r).length=r.length+1:=rfl
    omega
   rw [e,List.eraseIdx_cons_succ,ih]
   all_goals rfl
theorem lK (its:List Value):∀ (k:Nat) (acc:List Value),
  List.foldl (fun x1 x2=>x1++x2) acc.toArray (List.replicate k its.toArray)=(acc++(List.replicate k its).flatten).toArray
 | 0,acc=>by simp
 | k+1,acc=>by
  have e:acc.toArray++its.toArray=(acc++its).toArray:=by simp
  have e2:(acc++its)++(List.replicate k its).flatten=acc++(List.replicate (k+1) its).flatten:=by
   rw [List.replicate_succ,List.flatten_cons,List.append_assoc]
  rw [<- e2,<- lK its k (acc++its),<- e,List.replicate_succ,List.foldl_cons]
section
variable {xs ys zs:List V}
theorem Inv.DQ {its its':List Value} {f:Array Value->Array Value} (I:Inv X pins σ H s) (hH:H l=some (.lst xs))
  (e:s.heap.get? l=some {cls:=.type "list",data:=.seq its.toArray n}) (hf:f its.toArray=its'.toArray) (hv:a_ ys its') (hz:ys.length<=sizeLine):
  Inv X pins σ (upd H l (.lst ys)) {s with heap:=s.heap.update l (Obj.mapSeq f),toks:=t'}:=by
 have q:=PySem.IsL.update e f
 rw [hf] at q
 refine I.write (x:=l) (e:=l) (by rw [hH];exact trivial) (.inl rfl) (fun b' u hb hu=>(Heap.get?_update_other s.heap (Obj.mapSeq f) (Ne.symm hb)).trans hu) ⟨_,q⟩ ?_
 exact ⟨hz,its',_,hv,q⟩
theorem Inv.Gy {its:List Value} (I:Inv X pins σ H s) (hv:a_ ys its) (hz:ys.length<=sizeLine):
  Inv X pins σ (upd H s.heap.objs.size (.lst ys)) {s with heap:=s.heap.push {cls:=.type "list",data:=.seq its.toArray},toks:=t'}:=
 I.laid (fun _ _ q=>Qc _ q) (Qy _) ⟨hz,its,0,hv,Qd _ rfl⟩
theorem Inv.fresh (I:Inv X pins σ H s):H s.heap.objs.size=none:=I.hok.fresh (Qy _)
theorem Inv.yx (I:Inv X pins σ H s) (hH:H l=some (.lst xs)):xs.length<=sizeLine/\∃ (its:List Value) (n:Nat),a_ xs its/\xs.length=its.length/\s.heap.get? l=some {cls:=.type "list",data:=.seq its.toArray n}:=by
 obtain ⟨z,its,n,r,e⟩:=I.hok l _ hH
 exact ⟨z,its,n,r,r.length,e⟩
theorem Gz (h:n<=sizeLine):Builtin.List.listTooLong n=false:=by
 unfold Builtin.List.listTooLong
 exact Qw (by omega)
end
def Ku:V->List V->Hp->VK->Prop:=fun x vs H Q=>∃ l xs y,x=.ref l/\vs=[y]/\H l=some (.lst xs)/\xs.length < sizeLine/\Q .af (upd H l (.lst (xs++[y])))
theorem dO:Av X "list.append" Ku:=by
 intro pins s σ H x vs v us Q I rx rv h
 obtain ⟨l,xs,y,rfl,rfl,hH,hz,q⟩:=h
 cases rx
 obtain ⟨u,rfl,ru⟩:=rv.one
 obtain ⟨z,its,n,r,hl,e⟩:=I.yx hH
 refine call_meets F.slot_list_append ⟨_,e,rfl⟩ F.entry_list_append (F.args_list_append_2 _ _) (PySem.list_append l its.toArray n u (by rw [List.size_toArray];omega)) ⟨e,?_⟩
 refine ⟨.af,_,I.DQ (its':=its++[u]) hH e (by simp) (r.append (.cons ru .nil)) ?_,rfl,q⟩
 rw [Qk,List.length_singleton]
 omega
def Kv:V->List V->Hp->VK->Prop:=fun x vs H Q=>∃ l b xs zs,x=.ref l/\vs=[.ref b]/\H l=some (.lst xs)/\H b=some (.lst zs)/\xs.length+zs.length<=sizeLine/\Q .af (upd H l (.lst (xs++zs)))
theorem i7:Av X "list.extend" Kv:=by
 intro pins s σ H x vs v us Q I rx rv h
 obtain ⟨l,b,xs,zs,rfl,rfl,hH,hB,hz,q⟩:=h
 cases rx
 obtain ⟨u,rfl,ru⟩:=rv.one
 cases ru
 obtain ⟨z,its,n,r,hl,e⟩:=I.yx hH
 obtain ⟨z2,its2,n2,r2,g_,e2⟩:=I.yx hB
 have hsz:its.toArray.size+its2.toArray.size<=sizeLine:=by rw [List.size_toArray,List.size_toArray];omega
 have DR:¬(!its.toArray.isEmpty&&Builtin.List.listTooLong (its.toArray.size+its2.toArray.size))=true:=by
  rw [Gz hsz,Bool.and_false]
  exact Bool.false_ne_true
 refine call_meets F.slot_list_extend ⟨_,e,rfl⟩ F.entry_list_extend (F.args_list_extend_2 _ _)
  (AutoSeq1.list_extend_list_list_0 l its.toArray n b its2.toArray n2 DR (by rw [List.size_toArray];omega) (by omega)) ⟨e,e2,?_⟩
 refine ⟨.af,_,I.DQ (its':=its++its2) hH e (by simp) (r.append r2) ?_,rfl,q⟩
 rw [Qk]
 omega
def Kw:V->List V->Hp->VK->Prop:=fun x vs H Q=>∃ l xs y,x=.ref l/\vs=[]/\H l=some (.lst xs)/\xs[xs.length - 1]? =some y/\Q y (upd H l (.lst xs.dropLast))
theorem u7:Av X "list.pop" Kw:=by
 intro pins s σ H x vs v us Q I rx rv h
 obtain ⟨l,xs,y,rfl,rfl,hH,hy,q⟩:=h
 cases rx
 have yy:=rv.zero
 subst yy
 obtain ⟨z,its,n,r,hl,e⟩:=I.yx hH
 obtain ⟨u,hu,ru⟩:=r.get hy
 have Bo:its.toArray[its.toArray.size - 1]? =some u:=by
  show its.toArray[its.length - 1]? =some u
  rw [<- Array.getElem?_toList,<- hl]
  exact hu
 refine call_meets F.slot_list_pop ⟨_,e,rfl⟩ F.entry_list_pop (F.args_list_pop_1 _) (MeetsSeq.list_pop_last l its.toArray n u Bo (by rw [List.size_toArray];omega)) ⟨e,?_⟩
 refine ⟨y,_,I.DQ (its':=its.dropLast) hH e ?_ r.dropLast ?_,ru,q⟩
 ·show its.toArray.eraseIdxIfInBounds (its.toArray.size - 1)=its.dropLast.toArray
  rw [List.size_toArray,List.eraseIdxIfInBounds_toArray,pE]
 ·rw [List.length_dropLast]
  omega
def Kx:R2:=fun x y H Q=>∃ l b xs zs,x=.ref l/\y=.ref b/\H l=some (.lst xs)/\H b=some (.lst zs)/\xs.length+zs.length<=sizeLine/\∀ p,H p=none->Q (.ref p) (upd H p (.lst (xs++zs)))
theorem zS:bw X (binaryOp .Add) Kx:=by
 intro pins s σ H x y v u Q I rx ry h
 obtain ⟨l,b,xs,zs,rfl,rfl,hH,hB,hz,q⟩:=h
 cases rx
 cases ry
 obtain ⟨z,its,n,r,hl,e⟩:=I.yx hH
 obtain ⟨z2,its2,n2,r2,g_,e2⟩:=I.yx hB
 refine PySem.P.add_list e e2 ?_ (by rw [List.size_toArray,List.size_toArray];omega)
 have ea:its.toArray++its2.toArray=(its++its2).toArray:=by simp
 rw [ea]
 exact ⟨.ref _,_,I.Gy (t':=s.toks) (r.append r2) (by rw [Qk];omega),rfl,q _ I.fresh⟩
def Ky:R2:=fun x y H Q=>∃ l k xs,x=.ref l/\y=.int k/\H l=some (.lst xs)/\ -(2^63)<=k/\k < 2^63/\xs.length*k.toNat<=sizeLine/\
 ∀ p,H p=none->Q (.ref p) (upd H p (.lst (List.replicate k.toNat xs).flatten))
theorem wI (xs:List α) (k:Nat):(List.replicate k xs).flatten.length=k*xs.length:=by
 induction k with
 | zero=>simp
 | succ k ih=>rw [List.replicate_succ,List.flatten_cons,Qk,ih,Nat.succ_mul,Nat.add_comm]
theorem yM:bw X (binaryOp .Mult) Ky:=by
 intro pins s σ H x y v u Q I rx ry h
 obtain ⟨l,k,xs,rfl,rfl,hH,h1,h2,hz,q⟩:=h
 cases rx
 obtain ⟨t,rfl⟩:=ry
 obtain ⟨z,its,n,r,hl,e⟩:=I.yx hH
 have fb:its.toArray.size*k.toNat<=sizeLine:=by rw [List.size_toArray,<- hl];exact hz
 have Kz:¬its.toArray.size*k.toNat > (2^63 - 1) / 8:=by
  have:(sizeLine:Nat)<=(2^63 - 1) / 8:=by decide
  omega
 have KA:¬(!Builtin.List.listFitsIndex k)=true:=by
  rw [fitsIndex_both h1 h2]
  exact Bool.false_ne_true
 have DR:¬Builtin.List.listTooLong (its.toArray.size*k.toNat)=true:=by
  rw [Gz fb]
  exact Bool.false_ne_true
 have KC:List.foldl (fun x1 x2=>x1++x2) #[] (List.replicate (if its.toArray.isEmpty=true then 0 else k.toNat) its.toArray)=(List.replicate k.toNat its).flatten.toArray:=by
  have f0:∀ m:Nat,List.foldl (fun x1 x2=>x1++x2) #[] (List.replicate m its.toArray)=(List.replicate m its).flatten.toArray:=fun m=>by
   have:=lK its m []
   rw [List.nil_append] at this
   exact this
  rw [f0]
  cases its with
  | nil=>simp
  | cons a r'=>rw [if_neg (by simp)]
 refine wpAny_binaryOp_repeat_ref (T:="list") (U:="int") (by decide) ⟨_,e,rfl⟩ (fun s'=>typeIs_int s' k t) noFill_list_mul F.fills_int_mul F.slot_int_rmul repeat_list F.slot_int_index.lookup
  (call_meets F.slot_int_rmul (typeIs_int s k t) F.entry_int_rmul (F.args_int_rmul_2 _ _) (int___rmul___int_list k t l its.toArray n)
   ⟨e,rfl,⟨_,e,rfl⟩,call_meets F.slot_list_mul ⟨_,e,rfl⟩ F.entry_list_mul (F.args_list_mul_2 _ _) (AutoListH.list___mul___list_int_3 l its.toArray n k t KA Kz DR) ⟨e,?_⟩⟩)
 rw [KC]
 exact ⟨.ref _,_,I.Gy (t':=s.toks) (r.rep k.toNat) (by rw [wI,Nat.mul_comm];exact hz),rfl,q _ I.fresh⟩
section
variable {κ:Type} [DecidableEq κ]
def dm (kvs:List (κ×V)) (k:κ):Option V:=(kvs.find? fun kv=>decide (kv.1=k)).map (·.2)
def putK (kvs:List (κ×V)) (k:κ) (v:V):List (κ×V):=
 if (kvs.any fun kv=>decide (kv.1=k))=true then kvs.map (fun kv=>if kv.1=k then (kv.1,v) else kv) else kvs++[(k,v)]
theorem bU {p:κ×V} {r:List (κ×V)} {k:κ} (e:p.1=k):dm (p::r) k=some p.2:=by simp [dm,List.find?_cons,e]
theorem bT {p:κ×V} {r:List (κ×V)} {k:κ} (e:¬p.1=k):dm (p::r) k=dm r k:=by simp [dm,List.find?_cons,e]
theorem gZ (k:κ):∀ kvs:List (κ×V),(kvs.any fun kv=>decide (kv.1=k))=(dm kvs k).isSome
 | []=>rfl
 | p::r=>by
  rw [List.any_cons]
  by_cases e:p.1=k
  ·simp only [bU e,decide_eq_true e,Bool.true_or,Option.isSome_some]
  ·rw [bT e,Qw e,Bool.false_or];exact gZ k r
theorem nW (k j:κ) (y:V):∀ kvs:List (κ×V),dm (kvs.map fun kv=>if kv.1=k then (kv.1,y) else kv) j=(dm kvs j).map fun x=>if j=k then y else x
 | []=>rfl
 | p::r=>by
  have ih:=nW k j y r
  rw [List.map_cons]
  by_cases h:p.1=k
  ·rw [if_pos h]
   by_cases e:p.1=j
   ·rw [bU (p:=(p.1,y)) e,bU e,Option.map_some,if_pos (e.symm.trans h)]
   ·rw [bT (p:=(p.1,y)) e,bT e,ih]
  ·rw [if_neg h]
   by_cases e:p.1=j
   ·rw [bU (p:=p) e,bU e,Option.map_some,if_neg (fun z=>h (e.trans z))]
   ·rw [bT (p:=p) e,bT e,ih]
theorem i4 (k j:κ) (y:V):∀ kvs:List (κ×V),dm kvs k=none->dm (kvs++[(k,y)]) j=if j=k then some y else dm kvs j
 | [],_=>by
  by_cases e:k=j
  ·rw [if_pos e.symm];exact bU (p:=(k,y)) e
  ·rw [if_neg (fun z=>e z.symm)];exact bT (p:=(k,y)) e
 | p::r,hn=>by
  rw [List.cons_append]
  have hk:¬p.1=k:=fun z=>by rw [bU z] at hn;cases hn
  rw [bT hk] at hn
  have ih:=i4 k j y r hn
  by_cases e:p.1=j
  ·rw [bU e,bU e,if_neg (fun z=>hk (e.trans z))]
  ·rw [bT e,bT e,ih]
theorem v6 (kvs:List (κ×V)) (k j:κ) (y:V):dm (putK kvs k y) j=if j=k then some y else dm kvs j:=by
 unfold putK
 by_cases a:(kvs.any fun kv=>decide (kv.1=k))=true
 ·rw [if_pos a,nW]
  rw [gZ] at a
  by_cases e:j=k
  ·obtain ⟨x,hx⟩:=Option.isSome_iff_exists.mp a
   rw [if_pos e,e,hx,Option.map_some,if_pos rfl]
  ·rw [if_neg e]
   cases dm kvs j with
   | none=>rfl
   | some x=>rw [Option.map_some,if_neg e]
 ·rw [if_neg a]
  refine i4 k j y kvs ?_
  rw [gZ] at a
  cases q:dm kvs k with
  | none=>rfl
  | some x=>rw [q] at a;exact (a rfl).elim
theorem nP (kvs:List (κ×V)) (k:κ) (v:V):(putK kvs k v).length<=kvs.length+1:=by
 unfold putK
 split
 ·rw [Ql];omega
 ·rw [Qk,List.length_cons,List.length_nil];omega
theorem nM {kvs:List (κ×V)} {k:κ} (v:V) (h:dm kvs k=none):putK kvs k v=kvs++[(k,v)]:=by
 unfold putK
 rw [gZ,h]
 exact if_neg (by decide)
theorem jr.GA {o:Option V} {u:Option Value} (r:jr o u):o.isSome=u.isSome:=by
 cases o with
 | none=>cases u with
  | none=>rfl
  | some _=>exact (show False from r).elim
 | some _=>cases u with
  | none=>exact (show False from r).elim
  | some _=>rfl
theorem jr.getD {o:Option V} {u:Option Value} {d:V} {d':Value} (r:jr o u) (rd:RelV d d'):RelV (o.getD d) (u.getD d'):=by
 cases o with
 | none=>cases u with
  | none=>exact rd
  | some _=>exact (show False from r).elim
 | some _=>cases u with
  | none=>exact (show False from r).elim
  | some _=>exact r
theorem KV.val {kvs:List (κ×V)} {vs:List (κ×Value)} (r:KV kvs vs) (k:κ):jr (dm kvs k) (valueAt vs k):=by
 unfold KV at r
 induction r with
 | nil=>exact True.intro
 | @cons p q ps qs h t ih=>
  obtain ⟨h1,h2⟩:=h
  by_cases e:p.1=k
  ·have e':q.1=k:=h1.symm.trans e
   have b:valueAt (q::qs) k=some q.2:=by simp [valueAt,List.find?_cons,e']
   rw [bU e,b];exact h2
  ·have e':¬q.1=k:=fun z=>e (h1.trans z)
   have b:valueAt (q::qs) k=valueAt qs k:=by simp [valueAt,List.find?_cons,e']
   rw [bT e,b];exact ih
theorem KV.any {kvs:List (κ×V)} {vs:List (κ×Value)} (r:KV kvs vs) (k:κ):(kvs.any fun kv=>decide (kv.1=k))=vs.any fun kv=>decide (kv.1=k):=by
 unfold KV at r
 induction r with
 | nil=>rfl
 | cons h t ih=>rw [List.any_cons,List.any_cons,ih,h.1]
theorem KV.repl {kvs:List (κ×V)} {vs:List (κ×Value)} (r:KV kvs vs) (k:κ) {y:V} (ry:RelV y u):
  KV (kvs.map fun kv=>if kv.1=k then (kv.1,y) else kv) (vs.map fun kv=>if kv.1=k then (kv.1,u) else kv):=by
 unfold KV at r ⊢
 induction r with
 | nil=>exact .nil
 | @cons p q ps qs h t ih=>
  rw [List.map_cons,List.map_cons]
  refine .cons ?_ ih
  obtain ⟨h1,h2⟩:=h
  by_cases e:p.1=k
  ·rw [if_pos e,if_pos (h1.symm.trans e)];exact ⟨h1,ry⟩
  ·rw [if_neg e,if_neg (fun z=>e (h1.trans z))];exact ⟨h1,h2⟩
theorem KV.put {kvs:List (κ×V)} {vs:List (κ×Value)} (r:KV kvs vs) (k:κ) {y:V} (ry:RelV y u):KV (putK kvs k y) (stored vs k u):=by
 unfold putK stored
 rw [r.any k]
 by_cases e:(vs.any fun kv=>decide (kv.1=k))=true
 ·rw [if_pos e,if_pos e];exact r.repl k ry
 ·rw [if_neg e,if_neg e];exact Paired.snoc r ⟨rfl,ry⟩
theorem KV.length {kvs:List (κ×V)} {vs:List (κ×Value)} (r:KV kvs vs):kvs.length=vs.length:=Paired.length r
end
theorem lA {k:be} (r:RelV (kV k) u):(f_ P w).is k u=true:=by
 cases k with
 | inl i=>obtain ⟨t,e⟩:=(show ∃ t,u=Value.int i t from r);subst e;exact o7 P w i t
 | inr x=>obtain ⟨t,e⟩:=(show ∃ t,u=Value.str x t from r);subst e;exact fC P w x t
theorem l8 {P:Program} {w:World}:∀ {ks:List be} {us:List Value},a_ (ks.map kV) us->ItemsAre (f_ P w) ks us
 | [],_,r=>by rw [List.map_nil] at r;cases r;exact .nil
 | k::ks,_,r=>by
  rw [List.map_cons] at r
  cases r with
  | cons h t=>exact .cons (lA h) (l8 t)
abbrev KT (H:Hp):List (List be×V)->List (List be×Addr×Value)->Prop:=Paired fun p q=>p.1=q.1/\gv H q.2.1 (p.1.map kV)/\RelV p.2 q.2.2
theorem KT.val {kvs:List (List be×V)} {xs:List (List be×Addr×Value)} (r:KT H kvs xs) (k:List be):jr (dm kvs k) ((atKey xs k).map (·.2)):=by
 induction r with
 | nil=>exact True.intro
 | @cons p q ps qs h t ih=>
  obtain ⟨h1,_,h2⟩:=h
  by_cases e:p.1=k
  ·have e':q.1=k:=h1.symm.trans e
   have b:atKey (q::qs) k=some q.2:=by simp [atKey,List.find?_cons,e']
   rw [bU e,b];exact h2
  ·have e':¬q.1=k:=fun z=>e (h1.trans z)
   have b:atKey (q::qs) k=atKey qs k:=by simp [atKey,List.find?_cons,e']
   rw [bT e,b];exact ih
theorem xH {u:HO} (ok:cf P w H h) (e:Rd H a u):bz P w H h a u:=e.ok ok
theorem k7 {kvs:List (be×V)} (ok:cf P w H h) (e:Rd H a (.dK kvs)):kvs.length<=sizeLine/\(a==sysModules)=false/\∃ vs,KV kvs vs/\h.DictOf (f_ P w) a vs:=
 show bz P w H h a (.dK kvs) from xH ok e
theorem KG {kvs:List (be×V)} (ok:cf P w H h) (e:H a=some (.dK kvs)):kvs.length<=sizeLine/\(a==sysModules)=false/\∃ vs,KV kvs vs/\h.DictOf (f_ P w) a vs:=k7 ok (.inl e)
theorem m8 {ks:List be} (ok:cf P w H h) (e:gv H a (ks.map kV)):(tupleKind (f_ P w)).is h ks a:=by
 have qq:bz P w H h a (.tup (ks.map kV)):=by
  rcases e with e | ⟨_,e⟩
  ·exact ok a _ e
  ·exact (ok a _ e).2
 obtain ⟨_,its,r,o,h1,h2,n,h3⟩:=qq
 exact ⟨o,its.toArray,n,h1,h2,h3,by simpa using l8 r⟩
theorem oU {kvs:List (List be×V)} (ok:cf P w H h) (e:Rd H a (.dT kvs)):kvs.length<=sizeLine/\(a==sysModules)=false/\
  ∃ xs,KT H kvs xs/\h.DictOfH (tupleKind (f_ P w)) a xs:=by
 obtain ⟨z,y,xs,r,o,es,ep,h1,h2,h3,h4,h5⟩:=(show bz P w H h a (.dT kvs) from xH ok e)
 refine ⟨z,y,xs,r,o,es,ep,h1,h2,h3,h4,fun x hx=>?_,h5⟩
 have all:∀ {l:List (List be×V)} {m:List (List be×Addr×Value)},KT H l m->∀ x∈m,(tupleKind (f_ P w)).is h x.1 x.2.1:=by
  intro l m q
  induction q with
  | nil=>intro x hx;exact nomatch hx
  | @cons p q ps qs hq t ih=>
   intro x hx
   rcases Qp.mp hx with e | hx
   ·subst e
    exact m8 ok (by rw [<- hq.1];exact hq.2.1)
   ·exact ih x hx
 exact all r x hx
def pq (H:Hp) (a:Addr) (y:V) (r:Option V):Prop:=
 (∃ kvs k,Rd H a (.dK kvs)/\y=kV k/\r=dm kvs k)\/∃ kvs k b,Rd H a (.dT kvs)/\y=.ref b/\gv H b (k.map kV)/\r=dm kvs k
def GB (H:Hp) (a:Addr) (y v:V) (H':Hp):Prop:=
 (∃ kvs k,H a=some (.dK kvs)/\y=kV k/\kvs.length < sizeLine/\H'=upd H a (.dK (putK kvs k v)))\/
 ∃ kvs k b,H a=some (.dT kvs)/\y=.ref b/\gv H b (k.map kV)/\kvs.length < sizeLine/\H'=upd H a (.dT (putK kvs k v))
theorem pq.k {H:Hp} {a:Addr} {kvs:List (be×V)} {k:be} (e:H a=some (.dK kvs)):pq H a (kV k) (dm kvs k):=.inl ⟨kvs,k,.inl e,rfl,rfl⟩
theorem GB.k {H:Hp} {a:Addr} {kvs:List (be×V)} {k:be} {v:V} (e:H a=some (.dK kvs)) (hl:kvs.length < sizeLine):GB H a (kV k) v (upd H a (.dK (putK kvs k v))):=.inl ⟨kvs,k,e,rfl,hl,rfl⟩
section
variable {y v:V} {r:Value} {o:Option V}
theorem Inv.big (I:Inv X pins σ H s):sysModules < s.heap.objs.size:=by
 have h:mainGlobals < s.heap.objs.size:=(I.mod.glob.keeps I.bk).lt
 exact Nat.lt_trans (by decide) h
theorem qV (hu:A.units+1 < cLine) (I:Inv X pins σ H s) (g:pq H a y (some v)) (ry:RelV y u) (h:∀ w' s',Inv X pins σ H s'->RelV v w'->Q w' s'):
  wpAny (model X.prog X.w) A (getItem (.ref a) u) Q E s:=by
 rcases g with ⟨kvs,k,e,ey,l⟩ | ⟨kvs,k,b,e,ey,eb,l⟩
 ·subst ey
  obtain ⟨z,hd,vs,rel,dd⟩:=k7 I.hok e
  obtain ⟨w',hw,my⟩:=jr.some_of (v:=v) (o:=valueAt vs k) (by rw [l];exact rel.val k)
  exact wpAny_getItem_of (lA ry) dd.mapOf hw (h w' _ (I.tok _) my)
 ·subst ey
  cases (show u=Value.ref b from ry)
  obtain ⟨z,hd,xs,rel,dd⟩:=oU I.hok e
  obtain ⟨w',hw,my⟩:=jr.some_of (v:=v) (o:=(atKey xs k).map (·.2)) (by rw [l];exact rel.val k)
  obtain ⟨p,hp,jg⟩:=Option.map_eq_some_iff.mp hw
  refine wpAny_getItem_heap (tupleKind_room_in1 hu) (m8 I.hok eb) dd hp ?_
  rw [jg]
  exact h w' _ (I.tok _) my
theorem KH (hu:A.units+1 < cLine) (I:Inv X pins σ H s) (g:pq H a y o) (ry:RelV y u) (h:∀ s',Inv X pins σ H s'->Q (.bool o.isSome) s'):
  wpAny (model X.prog X.w) A (compareOp .In u (.ref a)) Q E s:=by
 rcases g with ⟨kvs,k,e,ey,l⟩ | ⟨kvs,k,b,e,ey,eb,l⟩
 ·subst ey
  obtain ⟨z,hd,vs,rel,dd⟩:=k7 I.hok e
  refine wpAny_in_of (lA ry) hd dd.mapOf ?_
  rw [<- (rel.val k).GA,<- l]
  exact h _ (I.tok _)
 ·subst ey
  cases (show u=Value.ref b from ry)
  obtain ⟨z,hd,xs,rel,dd⟩:=oU I.hok e
  refine wpAny_in_heap (tupleKind_room_in1 hu) (m8 I.hok eb) hd dd ?_
  have q:=(rel.val k).GA
  rw [Option.isSome_map] at q
  rw [<- q,<- l]
  exact h _ (I.tok _)
theorem vE {ob:HO} (I:Inv X pins σ H s) (mu:Ai (H a)) (hs:Heap.SameBut a s.heap h') (he:∃ q,h'.get? a=some q) (new:bz X.prog X.w (upd H a ob) h' a ob):
  Inv X pins σ (upd H a ob) {s with heap:=h',toks:=t'}:=
 I.write (x:=a) (e:=a) mu (.inl rfl) (fun b q hb z=>(hs.2 b hb).trans z) he new
theorem zG {kvs:List (be×V)} {vs:List (be×Value)} (z:kvs.length<=sizeLine) (hd:(a==sysModules)=false) (rel:KV kvs vs) (dd:h'.DictOf (f_ P w) a vs):
  bz P w H' h' a (.dK kvs):=⟨z,hd,vs,rel,dd⟩
end
section
variable {kvs:List (be×V)} {k:be}
theorem KI (I:Inv X pins σ H s) (e:Rd H a (.dK kvs)) (h:∀ t s',Inv X pins σ H s'->Q (.int kvs.length t) s'):wpAny (model X.prog X.w) A (call (.builtin "len") [.ref a]) Q E s:=by
 obtain ⟨z,hd,vs,rel,dd⟩:=k7 I.hok e
 refine call_len_dict hd dd (by rw [<- rel.length];rw [QL] at z;omega) ?_
 rw [<- rel.length]
 exact h _ _ (I.tok _)
end
def Cq (i:Expr):Prop:=∀ ov iv,subscripted i false ov iv=operate [ov,iv] (getItem ov iv)
theorem qN {value slice:Expr} {id:String}
  (hl:typeLookup (.type T) "__getitem__"=pure (some (.builtin id))) (hs:Cq slice)
  (h:wpAny (model prog w) A (eval value env) (fun o s₁=>wpAny (model prog w) A (eval slice env) (fun i s₂=>s₂.TypeIs o T/\wpAny (model prog w) A (getItem o i) Q E s₂) E s₁) E s):
  wpAny (model prog w) A (eval (.Subscript value slice pos) env) Q E s:=by
 refine Subscript_ (wpAny_mono h (fun o s₁ h₁=>wpAny_mono h₁ (fun i s₂ h₂=>?_) fun _ _ x=>x) fun _ _ x=>x)
 obtain ⟨hT,h₂⟩:=h₂
 unfold subscriptTail
 refine QS ?_
 rw [getitemInPython_of_ne hT.not_modules]
 refine QS (wpAny_specialOf hT hl ?_)
 have fin:wpAny (model prog w) A (subscripted slice false o i) (fun r s₃=>wpAny (model prog w) A (letTemporaryGo value o r >>=fun _=>pure r) Q E s₃) E s₂:=by
  rw [hs o i]
  exact wpAny_operating (wpAny_mono h₂ (fun r s₃ h₃=>QS (wpAny_letTemporaryGo (QT h₃))) fun _ _ x=>x)
 first
  | exact QT (QS fin)
  | exact QS (QT (QS fin))
  | exact QS fin
theorem nK {y:V} {o:Option V} (I:Inv X pins σ H s) (g:pq H a y o):s.TypeIs (.ref a) "dict":=by
 rcases g with ⟨kvs,k,e,_,_⟩ | ⟨kvs,k,b,e,_,_,_⟩
 ·obtain ⟨_,_,vs,_,dd⟩:=k7 I.hok e
  exact dd.typeIs
 ·obtain ⟨_,_,xs,_,dd⟩:=oU I.hok e
  exact dd.typeIs
def GC (td ty:TE):TE:=fun σ H Q=>td σ H fun x H1=>ty σ H1 fun y H2=>∃ a v,x=.ref a/\pq H2 a y (some v)/\Q v H2
section
variable {o i value:Expr} {sd:Pos} {td ty tv:TE}
theorem wQ (hu:X.A.units+1 < cLine) (ho:PE X o td) (hi:PE X i ty) (hs:Cq i):PE X (.Subscript o i pos) (GC td ty):=by
 intro pins s σ H Q I h
 refine qN PySem.F.slot_dict_getitem.lookup hs (av (ho pins s σ H _ I h) fun u s1 ⟨x,H1,I1,rx,q1⟩=>av (hi pins s1 σ H1 _ I1 q1) fun iv s2 ⟨y,H2,I2,ry,a,v,ex,g,q2⟩=>?_)
 subst ex
 obtain rfl:u=Value.ref a:=rx
 exact ⟨nK I2 g,qV hu I2 g ry fun w' s3 I3 my=>⟨v,H2,I3,my,q2⟩⟩
end
structure M1 (X:Cx) (o:Expr) (m:Str) (apos:Pos) (e:Expr) (cpos:Pos):Prop where
 base:attributeBase o m X.env (eval o X.env)=eval o X.env
 few:((backTo cpos (starEach [e] X.env)).all (fun x=> !x.1)&&(backToKw cpos (keywordEach [] X.env)).all (fun x=>x.1.isSome)
  &&decide (([e]:List Expr).length+([]:List Keyword).length+(if ([]:List Keyword).isEmpty then 0 else 1) < 30))=true
 line:(apos.endLine==cpos.line)=true
 trees:backTo cpos (starEach [e] X.env)=[(false,eval e X.env)]
def GD (H:Hp) (a:Addr):Prop:=(∃ kvs,Rd H a (.dK kvs))\/∃ kvs,Rd H a (.dT kvs)
theorem yW (I:Inv X pins σ H s) (d:GD H a):
  s.TypeIs (.ref a) "dict"/\(∀ b,Value.ref a=.ref b->∃ ob,s.heap.get? b=some ob/\ob.dict=none)/\(a==sysModules)=false:=by
 rcases d with ⟨kvs,e⟩ | ⟨kvs,e⟩
 ·obtain ⟨_,hd,vs,_,dd⟩:=k7 I.hok e
  refine ⟨dd.typeIs,fun b q=>?_,hd⟩
  cases q
  obtain ⟨ob,_,_,h1,h2,_⟩:=dd
  exact ⟨ob,h1,h2.2.1⟩
 ·obtain ⟨_,hd,xs,_,dd⟩:=oU I.hok e
  refine ⟨dd.typeIs,fun b q=>?_,hd⟩
  cases q
  obtain ⟨ob,_,_,h1,h2,_⟩:=dd
  exact ⟨ob,h1,h2.2.1⟩
section
variable {y d:V} {r:Value} {o:Option V}
theorem xU (hu:A.units+1 < cLine) (I:Inv X pins σ H s) (g:pq H a y o) (ry:RelV y u) (h:∀ w' s',Inv X pins σ H s'->RelV (o.getD .af) w'->Q w' s'):
  wpAny (model X.prog X.w) A (call (.builtin "dict.get") [.ref a,u]) Q E s:=by
 rcases g with ⟨kvs,k,e,ey,l⟩ | ⟨kvs,k,b,e,ey,eb,l⟩
 ·subst ey
  obtain ⟨z,hd,vs,rel,dd⟩:=k7 I.hok e
  refine call_meetsIn PySem.F.slot_dict_get dd.typeIs PySem.F.entry_dict_get (PySem.F.args_dict_get_2 _ _) (meets_dict_get (f_ X.prog X.w) a (lA ry) hd) ⟨_,dd.mapOf,h _ _ (I.tok _) ?_⟩
  rw [l]
  exact (rel.val k).getD rfl
 ·subst ey
  cases (show u=Value.ref b from ry)
  obtain ⟨z,hd,xs,rel,dd⟩:=oU I.hok e
  refine call_meetsIn PySem.F.slot_dict_get dd.typeIs PySem.F.entry_dict_get (PySem.F.args_dict_get_2 _ _) (meetsH_dict_get (tupleKind (f_ X.prog X.w)) a b hd) ⟨tupleKind_room_in1 hu,k,xs,m8 I.hok eb,dd,h _ _ (I.tok _) ?_⟩
  rw [l]
  exact (rel.val k).getD rfl
end
def GF (td ty:TE):TE:=fun σ H Q=>td σ H fun x H1=>∃ a,x=.ref a/\GD H1 a/\ty σ H1 fun y H2=>∃ o,pq H2 a y o/\Q (o.getD .af) H2
section
variable {o f:Expr} {td ty tx:TE}
theorem sM (hu:X.A.units+1 < cLine) (ho:PE X o td) (he:PE X e ty) (m:M1 X o "get" apos e cpos):PE X (.Call (.Attribute o "get" apos) [e] [] cpos) (GF td ty):=by
 intro pins s σ H Q I h
 refine wpAny_Call_method m.base m.few m.line PySem.F.plainAttrs_dict PySem.F.slot_dict_get PySem.F.type_dict_get (av (ho pins s σ H _ I h) ?_)
 rintro u s1 ⟨x,H1,I1,rx,a,ex,d,q1⟩
 subst ex
 obtain rfl:u=Value.ref a:=rx
 obtain ⟨t1,t2,_⟩:=yW I1 d
 refine ⟨t1,t2,?_⟩
 rw [m.trees]
 refine Calls.callWith_builtin rfl (Calls.evalArgs_plain (Calls.spliced_cons (av (he pins s1 σ H1 _ I1 q1) fun iv s2 ⟨y,H2,I2,ry,ov,g,q2⟩=>Calls.spliced_nil ?_)))
 exact xU hu I2 g ry fun w' s3 I3 my=>⟨_,H2,I3,my,q2⟩
end
section
variable {kvs:List (be×V)}
end
section
variable {y:V}
end
end L2
namespace GG
open PySem PySem.W PySem.Calls PyProof.Rows
theorem iY {P:Params}:∀ (ns:List Int) (vs:List Value),WellAll P h vs (ns.map WData.int)->IntsAre vs ns:=by
 intro ns
 induction ns with
 | nil=>
  intro vs w
  rw [List.map_nil] at w
  cases w
  exact .nil
 | cons n ns ih=>
  intro vs w
  rw [List.map_cons] at w
  cases w with
  | cons a b=>
   cases a
   exact .cons _ _ (ih _ b)
theorem r6 {l:OpenLaw} (hn:l.most=some n) {P:Params} {args:List WData} {vals:List Value}
  (Cr:l.row.toRowW.claim.pre args=true) (DS:WellAll P h vals args):
  ∃ a vs ns,vals=[Value.ref a]/\args=[WData.list (ns.map WData.int)]/\h.get? a=some {cls:=.type "list",data:=.seq vs.toArray}/\IntsAre vs ns/\ns.length<=n:=by
 have Cs:WShape.hasAll [] args [.list .int]=true:=(pre_splitW Cr).1
 have hc:l.pre.holds [] {args:=args}=true:=(pre_splitW Cr).2
 obtain ⟨d,r,rfl,h1,h2⟩:=hasAllW_cons Cs
 obtain rfl:=hasAllW_nil h2
 obtain ⟨xs,rfl,h3⟩:=hasW_list h1
 obtain ⟨ns,rfl⟩:=items_int h3
 have fb:ns.length<=n:=by
  unfold OpenLaw.pre at hc
  have h4:(WTm.not (.lt (.lit (.int (n:Int))) (.len (.arg 0)))).holds [] {args:=[.list (ns.map .int)]}=true:=by
   have h4:=(holds_andW hc).1
   rw [hn] at h4
   exact h4
  have h5:=condW_of h4 (w_not (w_lt w_lit (w_len_list (w_arg rfl))))
  rw [Ql] at h5
  refine Nat.le_of_not_lt fun q=>?_
  have q':(n:Int) < ((ns.length:Nat):Int):=by omega
  first
   | (rw [decide_eq_true q'] at h5;exact absurd h5 (by decide))
   | (simp at h5;omega)
 cases DS with
 | cons w1 w2=>
  cases w2
  cases w1 with
  | list ho KJ=>exact ⟨_,_,ns,rfl,rfl,ho,iY ns _ KJ,fb⟩
theorem qU (l:OpenLaw) (args:List WData):l.row.toRowW.claim.post args (.bool true) args=true:=
 postW_of (r:=l.row.toRowW) (X:=(true==true))
  (show WShape.has [] (.bool true) .bool=true by first | rfl | decide | simp [WShape.has,WShape.arms,WShape.armsAll])
  (show (WTm.eq .res (.lit (.bool true))).value [] {args:=args,res:=some (.bool true),after:=args}=some (.bool (true==true)) from w_eq_bool (w_res rfl) w_lit) rfl
theorem nG {l:OpenLaw} {q:Program} {YP:World->Heap->Prop} {d:DefRec}
  (hn:l.most=some n) (Bp:d.params.defaults=[])
  (call:∀ (w:World) (s₀ s₁:Shared) (mg mb:Str->Option Value) (fa:Addr) (o:Obj) (pm cd doc:Value) (a:Addr) (vs:List Value) (ns:List Int),
   Ground q loose [] XP w s₀ mg mb s₁.heap->YP w s₁.heap->
   s₁.heap.get? fa=some o->o.data=.func (docDef d.name d.params d.body d.scope pm cd doc)->s₁.heap.CodeRec cd d.name->mg d.name=some (.ref fa)->
   s₁.heap.get? a=some {cls:=.type "list",data:=.seq vs.toArray}->IntsAre vs ns->ns.length<=n->s₁.gens=#[]->
   codeAny (model l.prog w) callerA (.call (.ref fa) ⟨[.ref a],[]⟩) (fun r s'=>r=.ok (.ret (.bool true))/\OldK s₁.heap s'.heap/\s'.os=s₁.os/\AllBare s'.gens) s₁):
  WalkO q loose XP YP l.row.toRowW d [] (fun f vs=>PySem.call f vs):=by
 intro w s₀ s₁ mg mb G Y fa o pm cd doc dV kV ho hd jd hD yz hg args vals as Cr Pa Pb DS Pc
 obtain rfl:dV=.none:=Dflts.none hD Bp
 obtain rfl:kV=.none:=Dflts.noKw hD
 obtain ⟨a,vs,ns,rfl,rfl,DT,DU,fb⟩:=r6 hn Cr DS
 refine enter_call (codeAny_mono (call w s₀ s₁ mg mb fa o pm cd doc a vs ns G Y ho (fd_plain hd) jd yz DT DU fb hg) fun r s' hq=>?_)
 obtain ⟨rfl,h2,h3,h4⟩:=hq
 exact ⟨.inl ⟨.bool true,.bool true,[],rfl,fun _=>rfl,.bool true,qU l _,fun _=>⟨List.Pairwise.nil,fun _ hm=>(nomatch hm)⟩⟩,h2,h3,h4⟩
section
variable {K:Frag}
end
end GG
namespace L2
open PySem PySem.Spec PyProof.Rows
theorem lI:∀ {vs:List Value} {ns:List Int},IntsAre vs ns->a_ (ns.map V.int) vs
 | _,_,.nil=>.nil
 | _,_,.cons n t h=>.cons ⟨t,rfl⟩ (lI h)
def inClass (s:Stmt) (j:Nat):Stmt:=match s with
 | .ClassDef _ _ _ body _ _ _ _ _ _ _=>body.getD j (.Pass ⟨0,0,0,0⟩)
 | _=>.Pass ⟨0,0,0,0⟩
def mz (s:Stmt):Arguments:=match s with
 | .FunctionDef _ a _ _ _ _ _ _ _ _=>a
 | _=>{posonlyargs:=[],args:=[],vararg:=none,kwonlyargs:=[],kw_defaults:=[],kwarg:=none,defaults:=[]}
def iw (s:Stmt):List Stmt:=match s with
 | .FunctionDef _ _ b _ _ _ _ _ _ _=>b
 | _=>[]
def bh (s:Stmt):Scope:=match s with
 | .FunctionDef _ _ _ _ _ _ sc _ _ _=>sc
 | _=>{kind:=.function,names:=[],isGenerator:=false,isCoroutine:=false}
abbrev sj:pe:=fun _ _ _ _ _ _=>False
abbrev E0:XK:=fun _ _ _=>False
theorem KL:DJ sj X E0:=fun _ _ _ _ _ _ _ h=>h.elim
structure wy (K:QZ) (x qual:Str) (st:Stmt) (f:Addr) (fd:FuncData):Prop where
 ex:∃ (oc:Value) (od:Option Addr) (kV doc pm:Value) (an:Option Addr) (ay ct:Value) (gz:Array (Option Value)),
  fd=PySem.W.fnOf x qual (mz st) (iw st) (bh st) .none kV doc pm an ay ct/\K.lookup f=some ⟨oc,od,.func fd,gz⟩/\PySem.W.codeIn K ay qual=true
 kp:PySem.W.keepIn K (.ref f)=true
section
variable {K:QZ}
theorem wy.ok {st:Stmt} {f:Addr} {k:Nat} {sp:Sp} (F:wy K x qual st f fd) (S:dc N ps (bh st)) (len:∀ vs H Q E,sp vs H Q E->vs.length=ps.length)
  (qv:∀ (ay:Value) (A:Around) (outer:List Env) (s:Shared) (H:Hp) (vs:List V) (Q:VK) (E:XK),dg k (A.deeper (envOfC qual (bh st) s.heap.objs.size f ay))->sp vs H Q E->
   ∃ t,ju (gb sj P w K mg base N qual (bh st) f ay A outer s H E).qt (iw st) t/\t {nx:=fun _ H'=>Q .af H',rt:=Q} (start N vs) H):mw P w K mg base sj (k+1) f fd ps sp:=by
 obtain ⟨oc,od,kV,doc,pm,an,ay,ct,gz,rfl,lk,jd⟩:=F.ex
 refine xM lk jd S len fun A outer s H vs Q E hr se=>?_
 obtain ⟨t,h,q⟩:=qv ay A outer s H vs Q E hr se
 exact ⟨t,h.qt,q⟩
theorem wy.binds {st:Stmt} {f:Addr} (F:wy K x qual st f fd)
  (h:∀ (kV doc pm:Value) (an:Option Addr) (ay ct:Value) (us:List Value),us.length=ps.length->bindArgs (PySem.W.fnOf x qual (mz st) (iw st) (bh st) .none kV doc pm an ay ct) ⟨us,[]⟩=pure (ps.zip us)):Binds K fd ps []:=by
 obtain ⟨oc,od,kV,doc,pm,an,ay,ct,gz,rfl,lk,jd⟩:=F.ex
 exact .all (h kV doc pm an ay ct)
theorem zA {st:Stmt} {f:Addr} {oc:Value} {od an:Option Addr} {gz:Array (Option Value)} {kV doc pm ay ct:Value} (l:K.lookup f=some ⟨oc,od,.func (PySem.W.fnOf x qual (mz st) (iw st) (bh st) .none kV doc pm an ay ct),gz⟩)
  (c:PySem.W.codeIn K ay qual=true) (k:PySem.W.keepIn K (.ref f)=true):wy K x qual st f (PySem.W.fnOf x qual (mz st) (iw st) (bh st) .none kV doc pm an ay ct):=⟨⟨oc,od,kV,doc,pm,an,ay,ct,gz,rfl,l,c⟩,k⟩
end
theorem bF {k:Nat} (hr:dg k A):A.units+1 < cLine:=Nat.lt_of_le_of_lt (Nat.add_le_add_left (by decide:1<=64) _) hr.units
theorem dw {A B:Prop} (h:B):if false=true then A else B:=by
 rw [if_neg Bool.false_ne_true]
 exact h
theorem y_ {A B:Prop} (h:A):if true=true then A else B:=by
 rw [if_pos rfl]
 exact h
theorem Ct {c A B:Prop} [Decidable c] (h1:c->A) (h2:¬c->B):if c then A else B:=by
 by_cases h:c
 ·rw [if_pos h]
  exact h1 h
 ·rw [if_neg h]
  exact h2 h
def aa (H H':Hp):Prop:=∀ b o,H b=some o->H' b=some o
theorem aa.refl (H:Hp):aa H H:=fun _ _ h=>h
theorem aa.trans {H1 H2:Hp} (a:aa H H1) (b:aa H1 H2):aa H H2:=fun c o h=>b c o (a c o h)
theorem aa.free (e:aa H H') (h:H' l=Option.none):H l=Option.none:=by
 cases q:H l with
 | none=>rfl
 | some o=>
  rw [e l o q] at h
  cases h
section
variable {κ:Type} [DecidableEq κ]
end
theorem gI {env:Env}:∀ (names:List (Str×NameKind)) (acc:List (Str×Addr)),
  (∀ y∈names,y.2=.free->∃ c,env.cells.lookup y.1=some c)->(∀ x c,acc.lookup x=some c->env.cells.lookup x=some c)->
  ∃ cl,(forIn names acc fun (x:Str×NameKind) cs=>(if (x.2==NameKind.free)=true then (do let c <- cellOf env x.1;pure (ForInStep.yield ((x.1,c)::cs))) else pure (ForInStep.yield cs):Sem (ForInStep (List (Str×Addr)))))=pure cl/\
   (∀ x c,cl.lookup x=some c->env.cells.lookup x=some c)/\(∀ y∈names,y.2=.free->∃ c,cl.lookup y.1=some c)/\(∀ x c,acc.lookup x=some c->∃ c,cl.lookup x=some c)
 | [],acc,_,ha=>⟨acc,rfl,ha,(fun _ h=>nomatch h),fun x c h=>⟨c,h⟩⟩
 | (n,k)::r,acc,h,ha=>by
  rw [List.forIn_cons]
  by_cases hk:k=.free
  ·obtain ⟨c,hc⟩:=h (n,k) List.mem_cons_self hk
   have oz:cellOf env n=pure c:=by unfold cellOf;rw [show env.cells.lookup n=some c from hc]
   have KN:∀ x d,((n,c)::acc).lookup x=some d->env.cells.lookup x=some d:=fun x d hx=>by
    rw [List.lookup_cons] at hx
    cases e:x==n with
    | true=>rw [e] at hx;cases hx;rw [eq_of_beq e];exact hc
    | false=>rw [e] at hx;exact ha x d hx
   obtain ⟨cl,e,h1,h2,h3⟩:=gI r ((n,c)::acc) (fun y hy=>h y (Qh _ hy)) KN
   refine ⟨cl,?_,h1,fun y hy hf=>?_,fun x d hx=>?_⟩
   ·have kh:(k==NameKind.free)=true:=by rw [hk];rfl
    simp only [kh,if_true,oz,pure_bind]
    exact e
   ·rcases Qp.mp hy with z | hy
    ·rw [z];exact h3 n c (by simp [List.lookup_cons])
    ·exact h2 y hy hf
   ·cases e2:x==n with
    | true=>exact h3 x c (by simp [List.lookup_cons,e2])
    | false=>exact h3 x d (by simp [List.lookup_cons,e2,hx])
  ·have kh:(k==NameKind.free)=false:=by simpa using hk
   obtain ⟨cl,e,h1,h2,h3⟩:=gI r acc (fun y hy=>h y (Qh _ hy)) ha
   refine ⟨cl,?_,h1,fun y hy hf=>?_,h3⟩
   ·simp only [kh,Bool.false_eq_true,if_false,pure_bind]
    exact e
   ·rcases Qp.mp hy with z | hy
    ·rw [z] at hf;exact absurd hf hk
    ·exact h2 y hy hf
theorem p7 (h:∀ y∈sc.names,y.2=.free->∃ c,env.cells.lookup y.1=some c):
  ∃ cl,closureFor sc env=pure cl/\(∀ x c,cl.lookup x=some c->env.cells.lookup x=some c)/\(∀ y∈sc.names,y.2=.free->∃ c,cl.lookup y.1=some c):=by
 obtain ⟨cl,e,h1,h2,_⟩:=gI (env:=env) sc.names [] h (fun _ _ h=>nomatch h)
 refine ⟨cl,?_,h1,h2⟩
 unfold closureFor
 have e':(forIn sc.names ([]:List (Str×Addr)) fun (x:Str×NameKind) cs=>(if (x.2==NameKind.free)=true then (do let c <- cellOf env x.1;pure (ForInStep.yield ((x.1,c)::cs))) else pure (ForInStep.yield cs):Sem (ForInStep (List (Str×Addr))))) >>=(fun cs=>(pure cs:Sem _))=pure cl:=by rw [e];rfl
 exact e'
theorem d0 {env:Env}:∀ {names:List (Str×NameKind)} {x:Str},names.lookup x=some .free->
  (names.map fun (n,k)=>if (k==NameKind.free&&env.scope.kind==.function&&env.kindOf n==some .cell) then (n,NameKind.cell) else (n,k)).lookup x=some .cell\/
  (names.map fun (n,k)=>if (k==NameKind.free&&env.scope.kind==.function&&env.kindOf n==some .cell) then (n,NameKind.cell) else (n,k)).lookup x=some .free
 | [],_,h=>by simp at h
 | (n,k)::r,x,h=>by
  have ih:=@d0 env r x
  show List.lookup x ((if (k==NameKind.free&&env.scope.kind==.function&&env.kindOf n==some .cell)=true then (n,NameKind.cell) else (n,k))::_)=_\/List.lookup x ((if (k==NameKind.free&&env.scope.kind==.function&&env.kindOf n==some .cell)=true then (n,NameKind.cell) else (n,k))::_)=_
  cases hx:x==n with
  | true=>
   simp only [List.lookup_cons,hx] at h
   cases h
   by_cases hc:(NameKind.free==NameKind.free&&env.scope.kind==.function&&env.kindOf n==some .cell)=true
   ·rw [if_pos hc];simp [List.lookup_cons,hx]
   ·rw [if_neg hc];simp [List.lookup_cons,hx]
  | false=>
   simp only [List.lookup_cons,hx] at h
   by_cases hc:(k==NameKind.free&&env.scope.kind==.function&&env.kindOf n==some .cell)=true
   ·rw [if_pos hc];simp only [List.lookup_cons,hx];exact ih h
   ·rw [if_neg hc];simp only [List.lookup_cons,hx];exact ih h
theorem iP {names:List (Str×NameKind)} {k:NameKind}
  (h:(names.map fun (n,k)=>if (k==NameKind.free&&env.scope.kind==.function&&env.kindOf n==some .cell) then (n,NameKind.cell) else (n,k)).lookup x=some k) (hk:k=.cell\/k=.free) (hc:∀ y∈names,y.2≠.cell):(x,NameKind.free)∈names:=by
 have hm:=PySem.mem_of_lookup h
 obtain ⟨⟨n,k'⟩,h1,h2⟩:=List.mem_map.mp hm
 dsimp only at h2
 split at h2
 ·next hh=>
  cases h2
  have:k'=.free:=by
   simp only [Bool.and_eq_true,beq_iff_eq] at hh
   exact hh.1.1
  rw [<- this];exact h1
 ·cases h2
  rcases hk with z | z
  ·exact absurd z (hc _ h1)
  ·rw [<- z];exact h1
abbrev dz (X:Cx) (N':List Str) (sc:Scope) (cl:List (Str×Addr)) (C:Addr) (s3:Shared) (H0:Hp) (fp:List Addr) (pn:List (Addr×Obj)):Cx where
 prog:=X.prog
 w:=X.w
 K:=X.K
 mg:=X.mg
 base:=X.base
 A:=X.A
 N:=N'
 s₀:=s3
 H₀:=H0
 env:=compEnvC sc cl C X.env
 outer:=X.stack
 stack:=X.stack
 ex:=fp
 fn:=fun _=>false
 calm:=X.calm
 pn:=pn
 xe:=fun _ _=>False
structure p_ (Aw:Scope) (oN:List Str) (sc:Scope) (own:List Str) (idx:List Nat) (N':List Str):Prop where
 kind:sc.kind=.function
 cell:∀ y∈sc.names,y.2≠.cell
 names:∀ y∈sc.names,y.2=.local->sc.names.lookup y.1=some .local
 free:∀ y∈sc.names,y.2=.free->(Aw.names.lookup y.1=some .cell\/Aw.names.lookup y.1=some .free)
 seen:∀ j∈idx,sc.names.lookup (oN.getD j "")=some .free/\j < oN.length
 nn:N'=own++idx.map (fun j=>oN.getD j "")
def sr (own:List Str) (idx:List Nat) (σ:St):St:=List.replicate own.length none++idx.map fun j=>(σ[j]?).join
section
variable {H2:Hp} {s2:Shared}
theorem sK {h4:Heap} {ob:Obj} {ho:HO} {t4:Nat} (S:p_ X.env.scope X.N sc own idx N') (I:Inv X pins σ H2 s2) (hf:∀ b∈fp,lq X pins H2 b) (Bq:∀ b∈fp,∃ o,s2.heap.get? b=some o)
  (c1:∀ x c,cl.lookup x=some c->X.env.cells.lookup x=some c) (c2:∀ y∈sc.names,y.2=.free->∃ c,cl.lookup y.1=some c) (hob:ob.isFreed=false)
  (hD:∀ (H:Hp) (h:Heap),h.get? s2.heap.objs.size=some ob->bz X.prog X.w H h s2.heap.objs.size ho)
  (ns:h4.Ns (s2.heap.push ob).objs.size (fun x=>([]:List (Str×Value)).reverse.lookup x)) (sb:∀ b o,(s2.heap.push ob).get? b=some o->h4.get? b=some o):
  Inv (dz X N' sc cl (s2.heap.push ob).objs.size {s2 with heap:=s2.heap.push ob} (upd H2 s2.heap.objs.size ho) fp (X.pn++pins)) [] (sr own idx σ) (upd H2 s2.heap.objs.size ho) {s2 with heap:=h4,toks:=t4}:=by
 have hsz:(s2.heap.push ob).objs.size=s2.heap.objs.size+1:=Heap.size_push _ _
 have Pd:H2 s2.heap.objs.size=none:=I.hok.fresh (Qy _)
 have up:∀ b o,s2.heap.get? b=some o->(s2.heap.push ob).get? b=some o:=fun b o e=>Qc _ e
 have Cu:∀ b o,s2.heap.get? b=some o->h4.get? b=some o:=fun b o e=>sb b o (up b o e)
 have KO:∀ b o,s2.heap.get? b=some o->b≠s2.heap.objs.size:=fun b o e=>Nat.ne_of_lt (Qz e)
 have nh:∀ b o,s2.heap.get? b=some o->H2 b=none->upd H2 s2.heap.objs.size ho b=none:=fun b o e n=>by rw [aM (KO b o e)];exact n
 have KP:∀ b∈eu X.stack,∃ o,s2.heap.get? b=some o:=fun b hb=>by
  obtain ⟨_,o,ho,_⟩:=I.stack.mem hb
  exact ⟨o,ho⟩
 have KQ:∀ x c,cl.lookup x=some c->∃ o,s2.heap.get? c=some o:=fun x c e=>by
  obtain ⟨v,o,ho,_⟩:=I.cell x c (c1 x c e)
  exact ⟨o,ho⟩
 have eD:(s2.heap.push ob).get? s2.heap.objs.size=some ob:=Qd s2.heap hob
 have KR:cf X.prog X.w (upd H2 s2.heap.objs.size ho) h4:=I.hok.laid Cu (Qy _) (hD _ _ (sb _ _ eD))
 refine ⟨⟨I.ok.mod,S.kind,I.ok.glob,I.ok.blt,Qy _,fun x y c h1 h2=>I.ok.inj x y c (c1 x c h1) (c1 y c h2),fun x hx=>?_,(fun x c hx _=>nomatch hx),I.ok.hd,I.ok.frames,.inl rfl,fun b hb=>⟨?_,fun x c e=>?_⟩,fun b o e=>⟨?_,?_⟩,?_,fun b o e hb=>?_,fun b hb=>?_,?_,fun b hb=>?_⟩,
  rfl,I.bare,Un.kept sb,⟨_,ns,fun i x v h1 h2 h3=>?_⟩,fun x c e=>?_,?_,fun x c e=>?_,fun p hp=>?_,KR,?_⟩
 ·rcases hx with hx | hx
  ·exact c2 (x,.free) (iP hx (.inl rfl) S.cell) rfl
  ·exact c2 (x,.free) (iP hx (.inr rfl) S.cell) rfl
 ·obtain ⟨o,e⟩:=Bq b hb
  have:=Qz e
  show b≠(s2.heap.push ob).objs.size
  rw [hsz];exact Nat.ne_of_lt (Nat.lt_succ_of_lt this)
 ·exact (hf b hb).2.2.2.2.1 x c (c1 x c e)
 ·exact up b o (I.bk b o e)
 ·exact nh b o (I.bk b o e) (I.bs b o e).2
 ·show X.base.objs.size<=(s2.heap.push ob).objs.size
  have:=Nat.le_trans I.ok.qm I.sz
  rw [hsz];omega
 ·obtain ⟨f0,f1,f2,f3,f4,f5⟩:=hf b hb
  rcases f3 with z | z
  ·exact I.ok.yl b o e z
  ·exact absurd (Qz e) (Nat.not_lt.mpr (Nat.le_trans I.ok.qm z))
 ·obtain ⟨f0,f1,f2,f3,f4,f5⟩:=hf b hb
  intro z
  rcases Qp.mp (I.A_ b z) with z | z
  ·exact f1 z
  ·exact f2 z
 ·exact Heap.FunFrames.of_keeps (fun b o e _=>⟨o,up b o e,rfl⟩) I.stack
 ·obtain ⟨o,e⟩:=KP b hb
  exact nh b o e (I.Ba b hb)
 ·unfold sr at h2
  by_cases hi:i < own.length
  ·rw [List.getElem?_append_left (by simpa using hi),List.getElem?_replicate,if_pos hi] at h2
   cases h2
  ·rw [List.getElem?_append_right (by simpa using hi),List.length_replicate,Qq] at h2
   have wz:N'[i]? =some x:=h1
   rw [S.nn,List.getElem?_append_right (by simpa using hi),Qq] at wz
   cases ej:idx[i - own.length]? with
   | none=>rw [ej] at wz;cases wz
   | some j=>
    rw [ej] at wz h2
    obtain ⟨KS,u_⟩:=S.seen j (QC ej)
    have hx:X.N[j]? =some x:=by
     have:X.N.getD j ""=x:=QD wz
     rw [<- this,Qb,Qa u_];rfl
    have hv:σ[j]? =some (some v):=by
     have za:(σ[j]?).join=some v:=QD h2
     cases q:σ[j]? with
     | none=>rw [q] at za;cases za
     | some w=>rw [q] at za;exact congrArg some za
    have GH:sc.names.lookup x=some .free:=by
     have:X.N.getD j ""=x:=QD wz
     rw [<- this];exact KS
    have DV:(x,NameKind.free)∈sc.names:=PySem.mem_of_lookup GH
    obtain ⟨m,hn,hl⟩:=I.loc
    have KU:Al X.env.scope x:=by
     rcases S.free _ DV rfl with z | z
     ·exact .inr (.inl z)
     ·exact .inr (.inr z)
    obtain ⟨u,r,lk⟩:=hl j x v hx hv KU
    refine ⟨u,r,?_⟩
    rcases lk with ⟨k,_⟩ | ⟨k,c,e,z⟩
    ·rcases S.free _ DV rfl with q | q
     ·have q':X.env.kindOf x=some .cell:=q
      rw [q'] at k;cases k
     ·have q':X.env.kindOf x=some .free:=q
      rw [q'] at k;cases k
    ·obtain ⟨c',oz⟩:=c2 (x,.free) DV rfl
     have e':=c1 x c' oz
     rw [e] at e'
     cases e'
     refine .inr ⟨?_,c,oz,?_⟩
     ·rcases d0 (env:=X.env) GH with q | q
      ·exact .inl q
      ·exact .inr q
     ·obtain ⟨o,qo,hd⟩:=z
      exact ⟨o,Cu c o qo,hd⟩
 ·obtain ⟨v,o,qo,hd⟩:=I.cell x c (c1 x c e)
  exact ⟨v,o,Cu c o qo,hd⟩
 ·show upd H2 s2.heap.objs.size ho (s2.heap.push ob).objs.size=none
  rw [aM (by rw [hsz];exact Nat.ne_of_gt (Nat.lt_succ_self _))]
  exact I.hok.fresh (by rw [hsz];omega)
 ·obtain ⟨o,e1⟩:=KQ x c e
  exact nh c o e1 (I.j_ x c (c1 x c e))
 ·have GI:p∈X.pn++pins:=by simpa using hp
  obtain ⟨e,n,ne,nf,d⟩:=I.pin p GI
  refine ⟨Cu _ _ e,nh _ _ e n,?_,fun z=>?_,d⟩
  ·have:=Qz e
   show p.1≠(s2.heap.push ob).objs.size
   rw [hsz];exact Nat.ne_of_lt (Nat.lt_succ_of_lt this)
  ·rcases Qp.mp (I.A_ p.1 z) with z | z
   ·exact ne z
   ·exact nf z
 ·show (sr own idx σ).length=N'.length
  rw [S.nn];unfold sr
  simp
theorem rH {ob:Obj} {ho:HO} {τ:St} (I:Inv X pins σ H2 s2) (hf:∀ b∈fp,lq X pins H2 b) (hob:ob.isFreed=false)
  (J:Inv (dz X N' sc cl (s2.heap.push ob).objs.size {s2 with heap:=s2.heap.push ob} (upd H2 s2.heap.objs.size ho) fp (X.pn++pins)) [] τ H' s'):
  Inv X pins σ H' s'/\H' (s2.heap.push ob).objs.size=none/\(s2.heap.push ob).objs.size≠X.env.locals/\X.s₀.heap.objs.size<=(s2.heap.push ob).objs.size/\
   (∀ x c,X.env.cells.lookup x=some c->c≠(s2.heap.push ob).objs.size)/\(∀ p∈X.pn++pins,p.1≠(s2.heap.push ob).objs.size)/\∃ m,s'.heap.Ns (s2.heap.push ob).objs.size m:=by
 have hsz:(s2.heap.push ob).objs.size=s2.heap.objs.size+1:=Heap.size_push _ _
 have u1:Un (eu X.stack) fp H2 (upd H2 s2.heap.objs.size ho) s2.heap (s2.heap.push ob):=Un.laid (fun b o e=>Qc _ e) (Qy _) (I.hok.fresh (Qy _))
 have u2:Un (eu X.stack) fp (upd H2 s2.heap.objs.size ho) H' (s2.heap.push ob) s'.heap:=J.base
 have yt:s'.os=s2.os:=J.os
 refine ⟨I.Dv yt (u1.trans u2) J.hok J.bare fun b hb=>?_,J.free,?_,?_,fun x c e z=>?_,fun p hp z=>?_,let ⟨m,hn,_⟩:=J.loc;⟨m,hn⟩⟩
 ·obtain ⟨f0,f1,f2,f3,f4,f5⟩:=hf b hb
  exact ⟨f3,f1,f4,f5⟩
 ·rw [hsz];exact Nat.ne_of_gt (Nat.lt_succ_of_lt I.lt)
 ·have:=I.sz;rw [hsz];omega
 ·obtain ⟨v,q⟩:=I.cell x c e
  have:=q.lt
  rw [z,hsz] at this;exact absurd this (Nat.not_lt.mpr (Nat.le_succ _))
 ·have:=Qz (I.pin p hp).1
  rw [z,hsz] at this;exact absurd this (Nat.not_lt.mpr (Nat.le_succ _))
end
abbrev fz:Value->Shared->Prop:=fun _ _=>False
theorem KW {elt target iter:Expr} {it acc:Value} (I:Nat->Shared->Prop)
  (turn:∀ n s,I n s->wpAny (model prog w) A (pyNext it) (fun r s₁=>match r with
   | none=>R (.ok .next) s₁
   | some v=>wpAny (model prog w) A (letOwnedTupleGo target it v) (fun _ zb=>wpAny (model prog w) A (assign target env v) (fun _ s₂=>
     wpAny (model prog w) A (forIn ifs true fun c r=>if r=true then do let ok <- isTrue c env (eval c env);pure (ForInStep.yield ok) else pure (ForInStep.yield r)) (fun ok s₃=>
      if ok=true then wpAny (model prog w) A (eval elt env) (fun x s₄=>
       wpAny (model prog w) A (call (.builtin "list.append") [acc,x]) (fun _ s₅=>∃ m,m < n/\I m s₅) fz s₄) fz s₃
      else ∃ m,m < n/\I m s₃) fz s₂) fz zb) fz s₁) fz s)
  (n:Nat) (h:I n s):
  codeAny (model prog w) A (.compLoop (.ListComp elt [⟨target,iter,ifs,0⟩] scope pos) 0 it acc env) R s:=by
 refine codeAny_loop rfl I (fun n s hI=>?_) n h
 show wpAny _ A ((compTurn (.ListComp elt [⟨target,iter,ifs,0⟩] scope pos) 0 it acc env).onRaise (fun x=>do noteFrame x env;theTreesLotGoes x)) _ _ s
 refine wpAny_noted ?_
 rw [compTurn_list]
 refine QS (wpAny_standAt (QS (wpAny_mono (turn n s hI) (fun r s₁ h₁=>?_) fun _ _ h'=>h'.elim)))
 cases r with
 | none=>exact QT h₁
 | some v=>
  refine QS (wpAny_mono h₁ (fun _ zb DW=>?_) fun _ _ h'=>h'.elim)
  refine QS (wpAny_mono DW (fun _ s₂ h₂=>QS (wpAny_mono h₂ (fun ok s₃ h₃=>?_) fun _ _ h'=>h'.elim)) fun _ _ h'=>h'.elim)
  cases ok with
  | false=>exact QT ⟨rfl,h₃⟩
  | true=>
   exact QS (QS (wpAny_mono h₃ (fun x s₄ h₄=>QS (wpAny_mono h₄ (fun _ s₅ h₅=>QT (QT ⟨rfl,h₅⟩)) fun _ _ h'=>h'.elim)) fun _ _ h'=>h'.elim))
abbrev TC:=St->Hp->(Bool->Hp->Prop)->Prop
def w_ (X:Cx) (ifs:List Expr) (t:TC):Prop:=
 ∀ (pins:List (Addr×Obj)) (s:Shared) (σ:St) (H:Hp) (Q:Bool->Hp->Prop),Inv X pins σ H s->t σ H Q->
  wpAny (model X.prog X.w) X.A (forIn ifs true fun c r=>if r=true then do let ok <- isTrue c X.env (eval c X.env);pure (ForInStep.yield ok) else pure (ForInStep.yield r)) (TP X pins σ Q) X.xe s
def GJ:TC:=fun _ H Q=>Q true H
theorem vH:w_ X [] GJ:=fun pins s σ H Q I h=>QT ⟨H,I,h⟩
def Cv (own:List Str) (idx:List Nat) (wi:TI) (g:TG) (tc:TC) (te:TE):TE:=fun σ H Q=>wi σ H fun J H1=>∀ D,H1 D=none->∃ W:Nat->Nat->St->Hp->Prop,(∃ m,W 0 m (sr own idx σ) (upd H1 D (.lst [])))/\∀ i m τ H,W i m τ H->
 (J.stop i H/\Q (.ref D) H)\/(J.go i H/\∃ N:St->Hp->Prop,(∀ τ' H',N τ' H'->∃ m',m' < m/\W (i+1) m' τ' H')/\∀ x H',J.lj i H x H'->g x τ H' fun τ2 H2=>tc τ2 H2 fun b H3=>
  if b=true then te τ2 H3 fun y H4=>∃ xs,H4 D=some (.lst xs)/\xs.length < sizeLine/\N τ2 (upd H4 D (.lst (xs++[y]))) else N τ2 H3)
section
variable {iter elt:Expr} {wi:TI} {g:TG} {tc:TC}
abbrev KZ:Obj:={cls:=.type "list",dict:=none,data:=.seq ([]:List Value).toArray}
def K0 (X:Cx) (cmp tg:Expr) (ifs:List Expr) (sel:Env->Addr->Shared->(Shared->Prop)->Prop):Prop:=
 ∀ (it:Value) (D:Addr) (env:Env) (R:Result->Shared->Prop) (s:Shared) (I:Nat->Shared->Prop),
  (∀ n s,I n s->wpAny (model X.prog X.w) X.A (pyNext it) (fun r s₁=>match r with
   | none=>R (.ok .next) s₁
   | some v=>wpAny (model X.prog X.w) X.A (letOwnedTupleGo tg it v) (fun _ zb=>wpAny (model X.prog X.w) X.A (assign tg env v) (fun _ s₂=>
     wpAny (model X.prog X.w) X.A (forIn ifs true fun c r=>if r=true then do let ok <- isTrue c env (eval c env);pure (ForInStep.yield ok) else pure (ForInStep.yield r)) (fun ok s₃=>
      if ok=true then sel env D s₃ (fun s₅=>∃ m,m < n/\I m s₅) else ∃ m,m < n/\I m s₃) fz s₂) fz zb) fz s₁) fz s)->
  ∀ n,I n s->codeAny (model X.prog X.w) X.A (.compLoop cmp 0 it (.ref D) env) R s
theorem nY (S:p_ X.env.scope X.N sc own idx N') (c1:∀ x c,cl.lookup x=some c->X.env.cells.lookup x=some c) (c2:∀ y∈sc.names,y.2=.free->∃ c,cl.lookup y.1=some c) (hc:X.calm=true)
  {cmp:Expr} {ob:Obj} {o0:HO} {mk:Sem Value} {sel:Env->Addr->Shared->(Shared->Prop)->Prop} (el:Addr->St->Hp->(Hp->Prop)->Prop) (hob:ob.isFreed=false) (L:K0 X cmp tg ifs sel)
  (mono:∀ {env D s} {K K':Shared->Prop},sel env D s K->(∀ s',K s'->K' s')->sel env D s K')
  (hst:∀ it acc env R s,codeAny (model X.prog X.w) X.A (.compLoop cmp 0 it acc env) R s->wpAny (model X.prog X.w) X.A (pyIter it) (fun K1 s'=>codeAny (model X.prog X.w) X.A (.compLoop cmp 0 K1 acc env) R s') (notedBy (model X.prog X.w) X.A env fun x s'=>R (.error x) s') s->
   codeAny (model X.prog X.w) X.A (.compStart cmp 0 it acc env) R s)
  (hg:∀ cl C s3 H0 fp pn,PG (dz X N' sc cl C s3 H0 fp pn) tg g) (ht:∀ cl C s3 H0 fp pn,w_ (dz X N' sc cl C s3 H0 fp pn) ifs tc)
  (he:∀ cl C s3 H0 fp pn pins s τ H D N,Inv (dz X N' sc cl C s3 H0 fp pn) pins τ H s->el D τ H N->sel (dz X N' sc cl C s3 H0 fp pn).env D s fun s'=>∃ H',Inv (dz X N' sc cl C s3 H0 fp pn) pins τ H' s'/\N H')
  {pins:List (Addr×Obj)} {σ:St} {Q:VK} {lu:Value} {s2:Shared} {RR:Value->Addr->Result->Shared->Prop} {E:Value->Shared->Prop}
  (DX:∀ Q E,Q (.ref s2.heap.objs.size) {s2 with heap:=s2.heap.push ob}->wpAny (model X.prog X.w) X.A mk Q E s2)
  (K2:∀ H',Inv X pins σ H' s2->∀ (H:Hp) (h:Heap),h.get? s2.heap.objs.size=some ob->bz X.prog X.w H h s2.heap.objs.size o0)
  (hI:Aq X pins σ tg (fun J H1=>∀ D,H1 D=none->∃ W:Nat->Nat->St->Hp->Prop,(∃ m,W 0 m (sr own idx σ) (upd H1 D o0))/\∀ i m τ H,W i m τ H->
   (J.stop i H/\Q (.ref D) H)\/(J.go i H/\∃ N:St->Hp->Prop,(∀ τ' H',N τ' H'->∃ m',m' < m/\W (i+1) m' τ' H')/\∀ x H',J.lj i H x H'->g x τ H' fun τ2 H2=>tc τ2 H2 fun b H3=>if b=true then el D τ2 H3 (N τ2) else N τ2 H3)) lu s2)
  (Br:∀ D C H' s',Inv X pins σ H' s'->Q (.ref D) H'->(H' C=none/\C≠X.env.locals/\X.s₀.heap.objs.size<=C/\(∀ x c,X.env.cells.lookup x=some c->c≠C)/\(∀ p∈X.pn++pins,p.1≠C)/\∃ m,s'.heap.Ns C m)->RR (.ref D) C (.ok .next) s'):
  wpAny (model X.prog X.w) X.A mk (fun acc s₃=>wpAny (model X.prog X.w) X.A (newFunctionEnv sc X.env.globals cl [] X.env.qual none .none (some X.env)) (fun cenv s₄=>
   codeAny (model X.prog X.w) X.A (.compStart cmp 0 lu acc {cenv with scope:=relabel sc X.env}) (RR acc cenv.locals) s₄) E s₃) E s2:=by
 obtain ⟨it,fp,tn,J,H2,rfl,I,T,Ci,f2,body⟩:=hI
 refine DX _ _ (wpAny_newFunctionEnv S.cell (by intro y hy;simp at hy) (fun h4 ns sb=>?_) S.kind)
 dsimp only at ns sb ⊢
 have fr:H2 s2.heap.objs.size=none:=I.hok.fresh (Qy _)
 obtain ⟨W,⟨m0,w0⟩,turn⟩:=body _ fr
 have Bq:∀ b∈fp,∃ o,s2.heap.get? b=some o:=fun b hb=>let ⟨o,e,_⟩:=T.obj _ _ Ci b hb;⟨o,e⟩
 have Ax:∀ b o,(s2.heap.push ob).get? b=some o->h4.get? b=some o:=fun b o e=>(sb.2 b (Nat.ne_of_lt (Qz e))).trans (Qc _ e)
 have K3:=K2 _ I
 have I4:Inv (dz X N' sc cl (s2.heap.push ob).objs.size {s2 with heap:=s2.heap.push ob} (upd H2 s2.heap.objs.size o0) fp (X.pn++pins)) [] (sr own idx σ) (upd H2 s2.heap.objs.size o0) {s2 with heap:=h4,toks:=s2.toks+([]:List (Str×Value)).length}:=
  sK S I f2 Bq c1 c2 hob K3 ns Ax
 -- Gc Pe own context
 generalize hY:dz X N' sc cl (s2.heap.push ob).objs.size {s2 with heap:=s2.heap.push ob} (upd H2 s2.heap.objs.size o0) fp (X.pn++pins)=Y at I4
 have K4:PG Y tg g:=by rw [<- hY];exact hg _ _ _ _ _ _
 have K5:w_ Y ifs tc:=by rw [<- hY];exact ht _ _ _ _ _ _
 have K6:∀ pins s τ H D N,Inv Y pins τ H s->el D τ H N->sel Y.env D s fun s'=>∃ H',Inv Y pins τ H' s'/\N H':=by rw [<- hY];exact he _ _ _ _ _ _
 have pY:Y.prog=X.prog:=by rw [<- hY]
 have wY:Y.w=X.w:=by rw [<- hY]
 have KY:Y.K=X.K:=by rw [<- hY]
 have AY:Y.A=X.A:=by rw [<- hY]
 have cY:Y.calm=true:=by rw [<- hY];exact hc
 have xY:Y.xe=fun _ _=>False:=by rw [<- hY]
 have eY:Y.env=compEnvC sc cl (s2.heap.push ob).objs.size X.env:=by rw [<- hY]
 have K7:Y.ex=fp:=by rw [<- hY]
 have K8:Y.fs=eu X.stack:=by rw [<- hY]
 have K9:Y.pn=X.pn++pins:=by rw [<- hY]
 have yn:∀ {H':Hp},(∀ b∈fp,H' b=none)->∀ b∈fp,lq Y [] H' b:=fun hn b hb=>by
  obtain ⟨f0,f1,f3,f4,f5,f6⟩:=f2 b hb
  refine ⟨hn b hb,?_,?_,.inl (by rw [K7];exact hb),fun x c e=>?_,fun p hp=>?_⟩
  ·obtain ⟨o,e⟩:=Bq b hb
   have:=Qz e
   rw [eY]
   show b≠(s2.heap.push ob).objs.size
   rw [Heap.size_push];exact Nat.ne_of_lt (Nat.lt_succ_of_lt this)
  ·rw [K8]
   intro z
   rcases Qp.mp (I.A_ b z) with z | z
   ·exact f1 z
   ·exact f3 z
  ·rw [eY] at e
   exact f5 x c (c1 x c e)
  ·rw [K9,QQ] at hp
   exact f6 p hp
 have GK:tn 0 h4:=T.keep _ _ _ Ci fun b hb o e=>Ax b o (Qc _ e)
 have K_:∀ b∈fp,upd H2 s2.heap.objs.size o0 b=none:=fun b hb=>by
  obtain ⟨o,e⟩:=Bq b hb
  rw [aM (Nat.ne_of_lt (Qz e))]
  exact (f2 b hb).1
 have loop:codeAny (model X.prog X.w) X.A (.compLoop cmp 0 (.ref it) (.ref s2.heap.objs.size) (compEnvC sc cl (s2.heap.push ob).objs.size X.env))
   (RR (.ref s2.heap.objs.size) (s2.heap.push ob).objs.size) {s2 with heap:=h4,toks:=s2.toks+([]:List (Str×Value)).length}:=by
  refine L _ _ _ _ _ (fun n s'=>∃ i τ H',Inv Y [] τ H' s'/\tn i s'.heap/\(∀ b∈fp,H' b=none)/\W i n τ H') ?_ m0 ⟨0,_,_,I4,GK,K_,w0⟩
  rintro n s3 ⟨i,τ3,H3,I3,Bg,Bh,w3⟩
  rcases turn i n τ3 H3 w3 with ⟨stop,qn⟩ | ⟨go,N,hN,step⟩
  ·have h:=T.done Y pY wY KY cY i [] s3 τ3 H3 fz I3 (yn Bh) Bg stop
   rw [AY] at h
   refine av h ?_
   rintro r s4 ⟨hr,La⟩
   subst hr
   have J4:=La
   rw [<- hY] at J4
   obtain ⟨b1,b2⟩:=rH I f2 hob J4
   exact Br _ _ _ _ b1 qn b2
  ·have h:=T.item Y pY wY KY cY i [] s3 τ3 H3 fz I3 (yn Bh) Bg go
   rw [AY] at h
   refine av h ?_
   rintro r s4 ⟨u,hr,Lb⟩
   subst hr
   refine av Lb ?_
   rintro _ s5 ⟨x,H5,I5,r5,y5,yo,DB⟩
   have DC:=I5.pinned (yn DB) (T.obj _ _ yo)
   have g5:=K4 _ s5 τ3 H5 x u _ DC r5 (step x H5 y5)
   rw [pY,wY,AY,xY,eY] at g5
   refine av g5 ?_
   rintro _ s6 ⟨τ6,H6,I6,q6⟩
   have t6:=K5 _ s6 τ6 H6 _ I6 q6
   rw [pY,wY,AY,xY,eY] at t6
   refine av t6 ?_
   rintro ok s7 ⟨H7,I7,q7⟩
   have again:∀ {τ8:St} {H8:Hp} {s8:Shared},Inv Y ([]++Bf fp s5.heap) τ8 H8 s8->N τ8 H8->∃ m,m < n/\∃ i τ' H',Inv Y [] τ' H' s8/\tn i s8.heap/\(∀ b∈fp,H' b=none)/\W i m τ' H':=fun {τ8 H8 s8} I8 n8=>by
    obtain ⟨m',hm,w8⟩:=hN τ8 H8 n8
    refine ⟨m',hm,i+1,τ8,H8,I8.Cg,T.keep _ _ _ yo fun b hb o e=>(I8.pin (b,o) (List.mem_append_right _ (List.mem_append_right _ (eE hb e)))).1,fun b hb=>?_,w8⟩
    obtain ⟨o,e,d⟩:=T.obj _ _ yo b hb
    exact (I8.pin (b,o) (List.mem_append_right _ (List.mem_append_right _ (eE hb e)))).2.1
   cases ok with
   | false=>
    rw [if_neg (by decide)] at q7 ⊢
    exact again I7 q7
   | true=>
    rw [if_pos rfl] at q7 ⊢
    have e7:=K6 _ s7 τ6 H7 s2.heap.objs.size _ I7 q7
    rw [eY] at e7
    exact mono e7 fun s8 ⟨H8,I8,n8⟩=>again I8 n8
 exact hst _ _ _ _ _ loop (T.self _ 0 _ _ _ GK loop)
theorem jM (S:p_ X.env.scope X.N sc own idx N') (c1:∀ x c,cl.lookup x=some c->X.env.cells.lookup x=some c) (c2:∀ y∈sc.names,y.2=.free->∃ c,cl.lookup y.1=some c) (hc:X.calm=true)
  (hg:∀ cl C s3 H0 fp pn,PG (dz X N' sc cl C s3 H0 fp pn) tg g) (ht:∀ cl C s3 H0 fp pn,w_ (dz X N' sc cl C s3 H0 fp pn) ifs tc) (he:∀ cl C s3 H0 fp pn,PE (dz X N' sc cl C s3 H0 fp pn) elt te)
  {pins:List (Addr×Obj)} {σ:St} {Q:VK} {lu:Value} {s2:Shared} {RR:Value->Addr->Result->Shared->Prop} {E:Value->Shared->Prop}
  (hI:Aq X pins σ tg (fun J H1=>∀ D,H1 D=none->∃ W:Nat->Nat->St->Hp->Prop,(∃ m,W 0 m (sr own idx σ) (upd H1 D (.lst [])))/\∀ i m τ H,W i m τ H->
   (J.stop i H/\Q (.ref D) H)\/(J.go i H/\∃ N:St->Hp->Prop,(∀ τ' H',N τ' H'->∃ m',m' < m/\W (i+1) m' τ' H')/\∀ x H',J.lj i H x H'->g x τ H' fun τ2 H2=>tc τ2 H2 fun b H3=>
    if b=true then te τ2 H3 fun y H4=>∃ xs,H4 D=some (.lst xs)/\xs.length < sizeLine/\N τ2 (upd H4 D (.lst (xs++[y]))) else N τ2 H3)) lu s2)
  (Br:∀ D C H' s',Inv X pins σ H' s'->Q (.ref D) H'->(H' C=none/\C≠X.env.locals/\X.s₀.heap.objs.size<=C/\(∀ x c,X.env.cells.lookup x=some c->c≠C)/\(∀ p∈X.pn++pins,p.1≠C)/\∃ m,s'.heap.Ns C m)->RR (.ref D) C (.ok .next) s'):
  wpAny (model X.prog X.w) X.A (newList []) (fun acc s₃=>wpAny (model X.prog X.w) X.A (newFunctionEnv sc X.env.globals cl [] X.env.qual none .none (some X.env)) (fun cenv s₄=>
   codeAny (model X.prog X.w) X.A (.compStart (.ListComp elt [⟨tg,iter,ifs,0⟩] sc pos) 0 lu acc {cenv with scope:=relabel sc X.env}) (RR acc cenv.locals) s₄) E s₃) E s2:=by
 refine nY (ob:=KZ) (sel:=fun env D s K=>wpAny (model X.prog X.w) X.A (eval elt env) (fun x s₄=>wpAny (model X.prog X.w) X.A (call (.builtin "list.append") [.ref D,x]) (fun _ s₅=>K s₅) fz s₄) fz s) (o0:=.lst []) (el:=fun D τ H K=>te τ H fun y H4=>∃ xs,H4 D=some (.lst xs)/\xs.length < sizeLine/\K (upd H4 D (.lst (xs++[y])))) S c1 c2 hc (hob:=rfl)
  (fun it D env R s I turn n h=>KW I turn n h) (fun h k=>av h fun _ _ h=>av h fun _ _ h=>k _ h) (fun _ _ _ _ _=>codeAny_compStart_list) hg ht (fun cl C s3 H0 fp pn pins s τ H D N I q=>?_) (fun Q E h=>wpAny_newObj_type h) (fun H' I H h e=>⟨Nat.zero_le _,[],_,.nil,e⟩) hI Br
 refine av (he cl C s3 H0 fp pn _ s τ H _ I q) ?_
 rintro yv s8 ⟨y,H8,I8,r8,xs,Lc,hz,n8⟩
 exact av (dO (X:=dz X N' sc cl C s3 H0 fp pn) _ s8 τ H8 (.ref D) [y] (.ref D) [yv] (fun v H'=>N H') I8 rfl (.cons r8 .nil) ⟨_,xs,y,rfl,rfl,Lc,hz,n8⟩) fun _ s9 ⟨_,H9,I9,_,n9⟩=>⟨H9,I9,n9⟩
theorem p_.closure (S:p_ X.env.scope X.N sc own idx N') (ok:X.Ok):∃ cl,closureFor sc X.env=pure cl/\(∀ x c,cl.lookup x=some c->X.env.cells.lookup x=some c)/\(∀ y∈sc.names,y.2=.free->∃ c,cl.lookup y.1=some c):=
 p7 fun y hy hf=>ok.has _ (S.free y hy hf)
theorem Ld (S:p_ X.env.scope X.N sc own idx N') (hc:X.calm=true) (hi:PI X tg iter wi)
  (hg:∀ cl C s3 H0 fp pn,PG (dz X N' sc cl C s3 H0 fp pn) tg g) (ht:∀ cl C s3 H0 fp pn,w_ (dz X N' sc cl C s3 H0 fp pn) ifs tc) (he:∀ cl C s3 H0 fp pn,PE (dz X N' sc cl C s3 H0 fp pn) elt te)
  (hs:∀ x,foldedSetIterable iter X.env x=pure x:=by intro _;rfl):PE X (.ListComp elt [⟨tg,iter,ifs,0⟩] sc pos) (Cv own idx wi g tc te):=by
 intro pins s σ H Q I h
 obtain ⟨cl,iy,c1,c2⟩:=S.closure I.ok
 rw [eval_ListComp]
 refine wpAny_comprehension_free (use:=none) rfl hs iy S.kind S.names (av (hi pins s σ H _ I h) fun v s1 h1=>av h1 fun lu s2 h2=>?_)
 refine jM (Q:=Q) (pins:=pins) (σ:=σ) (RR:=fun acc C=>compPost (model X.prog X.w) X.A X.xe none (EP X pins σ Q) acc C) S c1 c2 hc hg ht he h2 ?_
 intro D C H' s' I' q ⟨a1,a2,a3,a4,a5,m,a6⟩
 exact ⟨m,a6,fun h' sb=>⟨.ref D,H',I'.turned (t':=s'.toks) (fun b o hb e=>(sb.2 b hb).trans e) a1 (Ne.symm (Ne.symm a2)) (.inr a3) a4 a5,rfl,q⟩⟩
theorem Le {y:Str} {py spos:Pos} (S:p_ X.env.scope X.N sc own idx N') (hc:X.calm=true) (hi:PI X tg iter wi)
  (hg:∀ cl C s3 H0 fp pn,PG (dz X N' sc cl C s3 H0 fp pn) tg g) (ht:∀ cl C s3 H0 fp pn,w_ (dz X N' sc cl C s3 H0 fp pn) ifs tc) (he:∀ cl C s3 H0 fp pn,PE (dz X N' sc cl C s3 H0 fp pn) elt te)
  (hN:X.N.Nodup) (Bs:X.N[i]? =some y) (hy:X.env.scope.names.lookup y=some .local)
  (vc:swapsWith (.ListComp elt [⟨tg,iter,ifs,0⟩] sc pos) (some (.Name y py)) spos.line X.env=pure true:=by rfl)
  (hs:∀ x,foldedSetIterable iter X.env x=pure x:=by intro _;rfl):PS X (.Assign [.Name y py] (.ListComp elt [⟨tg,iter,ifs,0⟩] sc pos) spos) (o_ (Cv own idx wi g tc te) (ia i)):=by
 intro pins s σ H D I h
 obtain ⟨cl,iy,c1,c2⟩:=S.closure I.ok
 rw [exec_Assign_Name_used _ _ _ _ vc]
 refine QS (wpAny_standAt (QS ?_))
 show wpAny _ X.A (do let _ <- comprehension (.ListComp elt [⟨tg,iter,ifs,0⟩] sc pos) sc X.env _ (newList []) false (eval iter X.env) (some (assign (.Name y py) X.env))) _ _ s
 refine QS (wpAny_mono (wpAny_comprehension_free (use:=some (assign (.Name y py) X.env)) (Q:=fun _ s'=>SP X pins D .next s') rfl hs iy S.kind S.names
  (av (hi pins s σ H _ I h) fun v s1 h1=>av h1 fun lu s2 h2=>?_)) (fun _ s' hq=>QT (QT hq)) fun _ _ e=>e)
 refine jM (Q:=fun x H1=>ia i x σ H1 D.nx) (pins:=pins) (σ:=σ) (RR:=fun acc C=>compPost (model X.prog X.w) X.A X.xe (some (assign (.Name y py) X.env)) (fun _ s'=>SP X pins D .next s') acc C) S c1 c2 hc hg ht he h2 ?_
 intro D' C H' s' I' q ⟨a1,a2,a3,a4,a5,m,a6⟩
 show wpAny _ X.A (assign (.Name y py) X.env (.ref D')) _ _ _
 refine wpAny_assign_Name (dR (v:=.ref D') I' hN Bs (.inl hy) rfl (fun s'' DY ⟨a,sb,ha⟩=>?_) (.inr hy))
 have DZ:C≠a:=by
  rcases ha with z | z
  ·rw [z];exact a2
  ·exact Ne.symm (a4 _ _ z)
 refine ⟨m,a6.sameBut sb DZ,fun h' Ax=>⟨_,H',DY.turned (t':=s''.toks) (fun b o hb e=>(Ax.2 b hb).trans e) a1 a2 (.inr a3) a4 a5,q⟩⟩
end
def tV (i:Nat):TE:=fun σ H Q=>match σ[i]? with | some (some v)=>Q v H | _=>False
theorem Lf (i:Nat) (hN:X.N[i]? =some x:=by rfl) (hv:Al X.env.scope x:=by first | exact Or.inl rfl | exact Or.inr (Or.inl rfl) | exact Or.inr (Or.inr rfl)) (hd:(x==("__debug__":Str))=false:=by decide) (jd:(x==("__classdict__":Str))=false:=by decide):PE X (.Name x pos) (tV i):=by
 intro pins s σ H Q I h
 refine JT hN hv hd jd pins s σ H Q I ?_
 unfold tV at h
 split at h
 ·next v e=>exact ⟨v,e,h⟩
 ·exact h.elim
def GL:R2:=fun x y H Q=>match x,y with
 | .int i,.int j=>Q (.int (i+j)) H
 | .str i,.str j=>i.length+j.length<=sizeLine/\Q (.str (i++j)) H
 | .ref l,.ref b=>(∃ xs zs,H l=some (.lst xs)/\H b=some (.lst zs)/\xs.length+zs.length<=sizeLine/\∀ p,H p=none->Q (.ref p) (upd H p (.lst (xs++zs))))
 | _,_=>False
theorem bJ:bw X (binaryOp .Add) GL:=by
 intro pins s σ H x y v u Q I rx ry h
 cases x<;>cases y<;>first
  | exact (show False from h).elim
  | exact yH pins s σ H _ _ v u Q I rx ry ⟨_,_,rfl,rfl,h⟩
  | exact oZ pins s σ H _ _ v u Q I rx ry ⟨_,_,rfl,rfl,h.1,h.2⟩
  | (obtain ⟨xs,zs,h1,h2,h3,h4⟩:=h;exact zS pins s σ H _ _ v u Q I rx ry ⟨_,_,xs,zs,rfl,rfl,h1,h2,h3,h4⟩)
def Lg:R2:=fun x y H Q=>match x,y with | .int i,.int j=>Q (.int (i - j)) H | _,_=>False
theorem mI:bw X (binaryOp .Sub) Lg:=by
 intro pins s σ H x y v u Q I rx ry h
 cases x<;>cases y<;>first
  | exact (show False from h).elim
  | exact yG pins s σ H _ _ v u Q I rx ry ⟨_,_,rfl,rfl,h⟩
def Lh:R2:=fun x y H Q=>match x,y with | .int i,.int j=>Cm i j/\Q (.int (i*j)) H | _,_=>False
theorem d3:bw X (binaryOp .Mult) Lh:=by
 intro pins s σ H x y v u Q I rx ry h
 cases x<;>cases y<;>first
  | exact (show False from h).elim
  | exact yN pins s σ H _ _ v u Q I rx ry ⟨_,_,rfl,rfl,h.1,h.2⟩
def Li:R2:=fun x y H Q=>match x,y with | .int i,.int j=>0 < j/\Q (.int (i % j)) H | _,_=>False
theorem eB:bw X (binaryOp .Mod) Li:=by
 intro pins s σ H x y v u Q I rx ry h
 cases x<;>cases y<;>first
  | exact (show False from h).elim
  | exact yF pins s σ H _ _ v u Q I rx ry ⟨_,_,rfl,rfl,h.1,h.2⟩
def Lj:R2:=fun x y H Q=>match x,y with | .int i,.int j=>(0 < j/\j < 1073741824)/\Q (.int (i / j)) H | _,_=>False
theorem vI:bw X (binaryOp .FloorDiv) Lj:=by
 intro pins s σ H x y v u Q I rx ry h
 cases x<;>cases y<;>first
  | exact (show False from h).elim
  | exact wT pins s σ H _ _ v u Q I rx ry ⟨_,_,rfl,rfl,h.1,h.2⟩
def Lk:R2:=fun x y H Q=>match x,y with | .int i,.int j=>Gf i j/\Q (.int (i^j.toNat)) H | _,_=>False
theorem wD:bw X (binaryOp .Pow) Lk:=by
 intro pins s σ H x y v u Q I rx ry h
 cases x<;>cases y<;>first
  | exact (show False from h).elim
  | exact zY pins s σ H _ _ v u Q I rx ry ⟨_,_,rfl,rfl,h.1,h.2⟩
def GN (p:Int->Int->Bool):R2:=fun x y H Q=>match x,y with | .int i,.int j=>Q (.bl (p i j)) H | _,_=>False
theorem i3:bw X (compareOp .Gt) (GN fun i j=>decide (j < i)):=by
 intro pins s σ H x y v u Q I rx ry h
 cases x<;>cases y<;>first
  | exact (show False from h).elim
  | exact J' pins s σ H _ _ v u Q I rx ry ⟨_,_,rfl,rfl,h⟩
theorem Ll:bw X (compareOp .GtE) (GN fun i j=>decide (j<=i)):=by
 intro pins s σ H x y v u Q I rx ry h
 cases x<;>cases y<;>first
  | exact (show False from h).elim
  | exact Ka pins s σ H _ _ v u Q I rx ry ⟨_,_,rfl,rfl,h⟩
def Lm:R2:=fun x y H Q=>match x,y with
 | .int i,.int j=>Q (.bl (decide (i < j))) H
 | .str i,.str j=>Q (.bl (decide (i.cps.toList < j.cps.toList))) H
 | _,_=>False
theorem mM:bw X (compareOp .Lt) Lm:=by
 intro pins s σ H x y v u Q I rx ry h
 cases x<;>cases y<;>first
  | exact (show False from h).elim
  | exact J_ pins s σ H _ _ v u Q I rx ry ⟨_,_,rfl,rfl,h⟩
  | exact sE pins s σ H _ _ v u Q I rx ry ⟨_,_,rfl,rfl,h⟩
def GO (n:Bool):R2:=fun x y H Q=>match x,y with
 | .ref a,.ref b=>a≠b/\∃ xs,H a=some (.lst xs)/\H b=some (.lst [])/\Q (.bl (n^^xs.isEmpty)) H
 | x,y=>As x y=true/\Q (.bl (n^^decide (x=y))) H
theorem sV {xs:List V} (hu:A.units < cLine) (I:Inv X pins σ H s) (ha:H a=some (.lst xs)) (hb:H b=some (.lst [])) (qy:a≠b)
  (q:∀ tk,Q (.bool xs.isEmpty) {s with toks:=tk}) (q0:Q (.bool xs.isEmpty) s):wpAny (model X.prog X.w) A (compareOp .Eq (.ref a) (.ref b)) Q E s:=by
 obtain ⟨_,its,n,r1,e1⟩:=(show bz X.prog X.w H s.heap a (.lst xs) from I.hok a _ ha)
 obtain ⟨_,its2,n2,r2,e2⟩:=(show bz X.prog X.w H s.heap b (.lst []) from I.hok b _ hb)
 cases r2
 have l1:s.heap.IsList a its.toArray:=⟨_,e1,rfl,_,rfl⟩
 have l2:s.heap.IsList b (#[]:Array Value):=⟨_,e2,rfl,_,rfl⟩
 cases r1 with
 | nil=>
  exact SeqAt.eq_listAt (e:=fun _=>true) l1 l2 rfl hu (fun i hi=>absurd hi (by simp)) (by simpa using q0)
 | cons z t=>
  exact SeqAt.eq_list_lengthsAt l1 l2 (by simp) hu (by simpa using q0)
theorem bA (hu:X.A.units < cLine):bw X (compareOp .Eq) (GO false):=by
 intro pins s σ H x y v u Q I rx ry h
 have hs:(∀ a b,x=.ref a->y=.ref b->False)->As x y=true/\Q (.bl (false^^decide (x=y))) H:=fun hn=>by
  cases x<;>cases y<;>first
   | exact (hn _ _ rfl rfl).elim
   | exact h
 by_cases hr:∃ a b,x=.ref a/\y=.ref b
 ·obtain ⟨a,b,rfl,rfl⟩:=hr
  obtain ⟨qy,xs,h1,h2,q⟩:=h
  cases rx;cases ry
  exact sV hu I h1 h2 qy (fun tk=>⟨.bl xs.isEmpty,H,I.tok tk,rfl,by simpa using q⟩) ⟨.bl xs.isEmpty,H,I,rfl,by simpa using q⟩
 ·obtain ⟨h1,h2⟩:=hs fun a b e1 e2=>hr ⟨a,b,e1,e2⟩
  exact J8 pins s σ H x y v u Q I rx ry ⟨h1,by simpa using h2⟩
theorem uY {xs:List V} (hu:A.units < cLine) (I:Inv X pins σ H s) (ha:H a=some (.lst xs)) (hb:H b=some (.lst []))
  (q0:Q (.bool (!xs.isEmpty)) s):wpAny (model X.prog X.w) A (compareOp .NotEq (.ref a) (.ref b)) Q E s:=by
 obtain ⟨_,its,n,r1,e1⟩:=(show bz X.prog X.w H s.heap a (.lst xs) from I.hok a _ ha)
 obtain ⟨_,its2,n2,r2,e2⟩:=(show bz X.prog X.w H s.heap b (.lst []) from I.hok b _ hb)
 cases r2
 have l1:s.heap.IsList a its.toArray:=⟨_,e1,rfl,_,rfl⟩
 have l2:s.heap.IsList b (#[]:Array Value):=⟨_,e2,rfl,_,rfl⟩
 cases r1 with
 | nil=>
  exact SeqAt.RcNeAt.lists (e:=fun _=>true) l1 l2 rfl hu (fun i hi=>absurd hi (by simp)) _ _ _ _ (by simpa using q0)
 | cons z t=>
  exact SeqAt.RcNeAt.lists_lengths l1 l2 (by simp) hu _ _ _ _ (by simpa using q0)
theorem p8 (hu:X.A.units < cLine):bw X (compareOp .NotEq) (GO true):=by
 intro pins s σ H x y v u Q I rx ry h
 have hs:(∀ a b,x=.ref a->y=.ref b->False)->As x y=true/\Q (.bl (true^^decide (x=y))) H:=fun hn=>by
  cases x<;>cases y<;>first
   | exact (hn _ _ rfl rfl).elim
   | exact h
 by_cases hr:∃ a b,x=.ref a/\y=.ref b
 ·obtain ⟨a,b,rfl,rfl⟩:=hr
  obtain ⟨qy,xs,h1,h2,q⟩:=h
  cases rx;cases ry
  exact uY hu I h1 h2 ⟨.bl (!xs.isEmpty),H,I,rfl,by simpa using q⟩
 ·obtain ⟨h1,h2⟩:=hs fun a b e1 e2=>hr ⟨a,b,e1,e2⟩
  exact J9 pins s σ H x y v u Q I rx ry ⟨h1,by simpa using h2⟩
def GP (K:QZ):R2:=fun x y H Q=>match x,y with
 | .ref p,.int i=>∃ xs v,(ao K H p xs\/ae K H p xs)/\ir xs i=some v/\Q v H
 | .str z,.int i=>z.length<=sizeLine/\∃ c,ir z.cps.toList i=some c/\Q (.str ⟨#[c]⟩) H
 | _,_=>False
theorem Ln : yu X (GP X.K) := by
  intro e1 e2 pins s σ H x y v u Q I rx ry h hs
  cases x <;> cases y <;> first
    | exact (show False from h).elim
    | (obtain ⟨xs, w, h1 | h1, h2, h3⟩ := h
       · exact vM e1 e2 pins s σ H _ _ v u Q I rx ry ⟨_, xs, _, w, rfl, rfl, h1, h2, h3⟩ hs
       · exact yK e1 e2 pins s σ H _ _ v u Q I rx ry ⟨_, xs, _, w, rfl, rfl, h1, h2, h3⟩ hs)
    | (obtain ⟨h1, c, h2, h3⟩ := h; exact yO e1 e2 pins s σ H _ _ v u Q I rx ry ⟨_, _, c, rfl, rfl, h1, h2, h3⟩ hs)
def Cw (K:QZ) (n:Bool):R2:=fun x y H Q=>match y with
 | .str j=>∃ i,x=.str i/\Q (.bl (n^^(!(Builtin.Str.occurrences j i 0 j.length 1).isEmpty))) H
 | .ref p=>∃ xs,(ao K H p xs\/ae K H p xs)/\sf x=true/\xs.all sf=true/\Q (.bl (n^^yw x xs)) H
 | _=>False
theorem yD:bw X (compareOp .In) (Cw X.K false):=by
 intro pins s σ H x y v u Q I rx ry h
 cases y<;>first
  | exact (show False from h).elim
  | (obtain ⟨i,rfl,h2⟩:=h;exact rT pins s σ H _ _ v u Q I rx ry ⟨i,_,rfl,rfl,by simpa using h2⟩)
  | (obtain ⟨xs,h1,h2,h3,h4⟩:=h;exact rR pins s σ H _ _ v u Q I rx ry ⟨_,xs,rfl,h1,h2,h3,by simpa using h4⟩)
theorem qW:bw X (compareOp .NotIn) (Cw X.K true):=by
 intro pins s σ H x y v u Q I rx ry h
 cases y<;>first
  | exact (show False from h).elim
  | (obtain ⟨i,rfl,h2⟩:=h;exact mL pins s σ H _ _ v u Q I rx ry ⟨i,_,rfl,rfl,by simpa using h2⟩)
  | (obtain ⟨xs,h1,h2,h3,h4⟩:=h;exact mD pins s σ H _ _ v u Q I rx ry ⟨_,xs,rfl,h1,h2,h3,by simpa using h4⟩)
def D0 (K:QZ):List V->Hp->VK->Prop:=fun xs H Q=>match xs with
 | [.str y]=>y.length<=sizeLine/\Q (.int y.length) H
 | [.ref p]=>(∃ ys,(ao K H p ys\/ae K H p ys)/\Q (.int ys.length) H)\/(∃ kvs,Rd H p (.dK kvs)/\Q (.int kvs.length) H)
 | _=>False
theorem rX:je X (.builtin "len") (D0 X.K):=by
 intro pins s σ H xs us Q I r h
 unfold D0 at h
 split at h
 ·exact kL pins s σ H _ us Q I r ⟨_,_,rfl,⟨h.1,rfl⟩,h.2⟩
 ·rcases h with ⟨ys,h1 | h1,q⟩ | ⟨kvs,h1,q⟩
  ·exact kL pins s σ H _ us Q I r ⟨_,_,rfl,.inl ⟨ys,h1,rfl⟩,q⟩
  ·exact kL pins s σ H _ us Q I r ⟨_,_,rfl,.inr ⟨ys,h1,rfl⟩,q⟩
  ·obtain ⟨u,rfl,ru⟩:=vals1 r
   cases ru
   exact KI I h1 fun t s' I'=>⟨.int kvs.length,H,I',⟨t,rfl⟩,q⟩
 ·exact h.elim
def GQ (H:Hp):V->Option String
 | .af=>some "NoneType"
 | .bl _=>some "bool"
 | .int _=>some "int"
 | .str _=>some "str"
 | .ref a=>match H a with
  | some (.lst _)=>some "list"
  | some (.tup _)=>some "tuple"
  | some (.dK _)=>some "dict"
  | _=>none
 | _=>none
def Cy (t T:String):Bool:=t==T||(t=="bool"&&T=="int")
theorem wS:∀ (K:QZ) (t T:String),t∈["NoneType","bool","int","str","list","tuple","dict"]->T∈["bool","int","str","list","tuple","dict"]->PySem.W.kitOne K (.type t) (.type T)=some (Cy t T):=by
 intro K t T h1 h2
 simp only [Qp,QA,or_false] at h1 h2
 rcases h1 with rfl | rfl | rfl | rfl | rfl | rfl | rfl<;>rcases h2 with rfl | rfl | rfl | rfl | rfl | rfl<;>rfl
def GR:List V->Hp->VK->Prop:=fun xs H Q=>match xs with
 | [x,.ty T]=>T∈["bool","int","str","list","tuple","dict"]/\∃ t,GQ H x=some t/\Q (.bl (Cy t T)) H
 | _=>False
theorem rQ:je X (.builtin "isinstance") GR:=by
 intro pins s σ H xs us Q I r h
 unfold GR at h
 split at h
 ·next x T=>
  obtain ⟨hT,t,ht,q⟩:=h
  obtain ⟨u,c,rfl,ru,rc⟩:=r.two
  cases rc
  have fin:∀ tk,EP X pins σ Q (.bool (Cy t T)) {s with toks:=tk}:=fun tk=>⟨.bl (Cy t T),H,I.tok tk,rfl,q⟩
  have tm:t∈["NoneType","bool","int","str","list","tuple","dict"]/\mr X.K H x (.type t):=by
   cases x with
   | af=>cases ht;exact ⟨by simp,.af⟩
   | bl b=>cases ht;exact ⟨by simp,.bl b⟩
   | int b=>cases ht;exact ⟨by simp,.int b⟩
   | str b=>cases ht;exact ⟨by simp,.str b⟩
   | ref a=>
    unfold GQ at ht
    dsimp only at ht
    split at ht
    ·next e=>cases ht;exact ⟨by simp,.lst e⟩
    ·next e=>cases ht;exact ⟨by simp,.tup e⟩
    ·next e=>cases ht;exact ⟨by simp,.dK e⟩
    ·cases ht
   | _=>cases ht
  exact rS I ru tm.2 (wS _ t T tm.1 hT) fin
 ·exact h.elim
def D3 (K:QZ):List V->Hp->VK->Prop:=fun xs H Q=>match xs with
 | [.ref p]=>∃ bs:List Bool,ao K H p (bs.map V.bl)/\Q (.bl (bs.all id)) H
 | _=>False
theorem nI:∀ {bs:List Bool} {us:List Value},a_ (bs.map V.bl) us->us=bs.map Value.bool
 | [],_,.nil=>rfl
 | b::bs,_,.cons r t=>by
  cases (show _=Value.bool b from r)
  rw [nI t];rfl
theorem rZ (hc:X.calm=true):je X (.builtin "all") (D3 X.K):=by
 intro pins s σ H xs us Q I r h
 unfold D3 at h
 split at h
 ·next p=>
  obtain ⟨bs,hq,q⟩:=h
  obtain ⟨u,rfl,ru⟩:=r.one
  cases ru
  obtain ⟨its,rv,pl,hz⟩:=I.list hq
  have e:=nI rv
  subst e
  have b_:p < s.heap.objs.size:=by obtain ⟨_,e,_⟩:=pl.isList;exact Qz e
  refine call_all_walk (wpAny_pyIter_list pl.isList ?_)
  refine ⟨s.heap.objs.size,[s.heap.objs.size,p],[s.heap.objs.size],(bs.map Value.bool).toArray.size,_,_,fun i=>(bs[i]?).getD true,rfl,Walks.list (A:=X.A.in1) (I.ok.hd hc) _ p (Nat.ne_of_lt b_) _,
   ⟨⟨_,Qd _ rfl,rfl,rfl⟩,pl.isList.push _⟩,fun i v s' Q' E' hP hQ=>?_,fun h' tk hk=>?_⟩
  ·have jh:(bs.map Value.bool)[i]? =some v:=by simpa using hP
   rw [Qq] at jh
   cases eb:bs[i]? with
   | none=>rw [eb] at jh;cases jh
   | some b=>
    rw [eb] at jh
    cases jh
    simp only [eb,Option.getD_some] at hQ
    exact wpAny_truthy_bool hQ
  ·have e:((List.range (bs.map Value.bool).toArray.size).all fun i=>(bs[i]?).getD true)=bs.all id:=by
    rw [List.size_toArray,Ql]
    rw [Bool.eq_iff_iff,List.all_eq_true,List.all_eq_true]
    constructor
    ·intro h b hb
     obtain ⟨i,hi,rfl⟩:=Qi hb
     have:=h i (List.mem_range.mpr hi)
     simpa [Qa hi] using this
    ·intro h i hi
     have gx:=List.mem_range.mp hi
     have:=h _ (Qj gx)
     simpa [Qa gx] using this
   rw [e]
   refine ⟨.bl (bs.all id),H,I.kept (t':=tk) fun b o e=>hk b o (fun hm=>?_) (Qc _ e),rfl,q⟩
   rw [List.mem_singleton.mp hm] at e
   exact Nat.lt_irrefl _ (Qz e)
 ·exact h.elim
def D4:V->Option Int->Option Int->Hp->VK->Prop:=fun x lo hi H Q=>∃ z,x=.str z/\z.length<=sizeLine/\Q (.str (Txt.slice z lo hi)) H
theorem yQ:qw X D4:=by
 intro pins s σ H x v vl vu lo hi sl Q I rx hs pl pu h
 obtain ⟨z,rfl,hz,q⟩:=h
 obtain ⟨t,rfl⟩:=(show ∃ t,v=Value.str z t from rx)
 refine ⟨"str",_,F.slot_str_getitem.lookup,typeIs_str _ _ _,?_⟩
 have GU:∀ {w:Value} {o:Option Int},IsPart w o->∃ l:Option (Int×Tok),w=partValue l/\l.map (·.1)=o:=fun {w o} p=>by
  cases p with
  | none=>exact ⟨none,rfl,rfl⟩
  | int k t=>exact ⟨some (k,t),rfl,rfl⟩
 obtain ⟨l,e1,e2⟩:=GU pl
 obtain ⟨u,e3,e4⟩:=GU pu
 subst e1 e3
 obtain ⟨o,ho,hc,hd⟩:=hs
 refine wpAny_getItem_str_slice (l:=l) (u:=u) (st:=none) ⟨o,ho,hc,hd⟩ rfl ?_
 refine post_val_or_str ⟨Nat.le_trans (Txt.slice_le z _ _) hz,fun t' k=>?_⟩
 show EP X pins σ Q (.str (Txt.slice z (l.map (·.1)) (u.map (·.1))) t') _
 rw [e2,e4]
 exact ⟨.str (Txt.slice z lo hi),H,I.tok k,⟨t',rfl⟩,q⟩
def D5 (z:Str):It:=⟨fun i _=>i < z.cps.size,fun i H x H'=>H'=H/\∃ c,z.cps[i]? =some c/\x=.str ⟨#[c]⟩,fun i _=>z.cps.size=i⟩
theorem pS {K:QZ} {it:Addr} {St:Nat->Heap->Prop} (W:∀ A':Around,A'.handled=none->Walks P w A' it [it] [it] z.cps.size (SignAt z) St)
  (D6:∀ (A:Around) (i:Nat) (s:Shared) (Q:Value->Shared->Prop) (E:Value->Shared->Prop),St i s.heap->Q (.ref it) s->wpAny (model P w) A (pyIter (.ref it)) Q E s)
  (hg:∀ i h,St i h->∃ o n vs,h.get? it=some o/\o.cls=.type n/\o.data=.fields vs/\["enumerate","zip","dict_itemiterator","dict_reverseitemiterator","odict_iterator","itertools.zip_longest","itertools.pairwise"].contains n=false):Turn P w K tg (D5 z) [it] it St where
 mem:=by simp
 obj:=fun i h st b hb=>by
  have e:b=it:=by simpa using hb
  subst e
  obtain ⟨o,n,vs,e,c,d,_⟩:=hg i h st
  exact ⟨o,e,fun v z=>by rw [d] at z;cases z⟩
 keep:=fun i h h' st k=>(W {} rfl).frame _ _ _ st k
 item:=by
  intro X hP hw hK hc i pins s σ H E I hf st D7
  subst hP hw hK
  obtain ⟨f0,f1,f2,f3,f4,f5⟩:=hf it (by simp)
  refine (W X.A (I.ok.hd hc)).item i s _ _ D7 st fun v h' tk hv st' kk=>?_
  obtain ⟨c,t,zc,rfl⟩:=hv
  have I1:Inv X pins σ H {s with heap:=h',toks:=tk}:=I.turned (fun b o hb e=>kk b o (by simpa using hb) e) f0 f1 f3 f4 f5
  obtain ⟨o,n,vs,e,c',d,nn⟩:=hg _ _ st'
  exact ⟨_,rfl,qF (s:={s with heap:=h',toks:=tk}) e c' d nn ⟨.str ⟨#[c]⟩,H,I1,⟨t,rfl⟩,⟨rfl,c,zc,rfl⟩,st',fun b hb=>(hf b hb).1⟩⟩
 done:=by
  intro X hP hw hK hc i pins s σ H E I hf st D7
  subst hP hw hK
  obtain ⟨f0,f1,f2,f3,f4,f5⟩:=hf it (by simp)
  have e:z.cps.size=i:=D7
  subst e
  exact (W X.A (I.ok.hd hc)).done s _ _ st fun h' tk kk=>⟨rfl,I.turned (fun b o hb e=>kk b o (by simpa using hb) e) f0 f1 f3 f4 f5⟩
 self:=D6
def bf (P:Program) (w:World) (K:QZ) (mg:Str->Option Value) (base:Heap) (k:Nat) (x:Str) (ps:List Str) (sp:Sp):Prop:=
 ∃ (f:Addr) (fd:FuncData),mw P w K mg base sj k f fd ps sp/\mg x=some (.ref f)/\PySem.W.keepIn K (.ref f)=true/\Binds K fd ps []/\∃ (oc:Value) (od:Option Addr) (gz:Array (Option Value)),K.lookup f=some ⟨oc,od,.func fd,gz⟩
section
variable {k:Nat} {sp:Sp}
theorem Lo (F:bf X.prog X.w X.K X.mg X.base k x ps sp) (hr:dg k X.A) (ha:PA X (e::es) t) (hg:Gl X x:=by rfl) (fg:(x==("__debug__":Str))=false:=by decide)
  (he:starEach (e::es) X.env=(false,eval e X.env)::starEach es X.env:=by rfl) (hpl:(backTo pos (starEach es X.env)).any (·.1)=false:=by rfl):
  PE X (.Call (.Name x p) (e::es) [] pos) (Co sp [] E0 t):=by
 obtain ⟨f,fd,G,Lp,kp,b,_⟩:=F
 exact vN G hr hg Lp kp b .nil KL ha fg he hpl
end
def iD (K:QZ) (tl:TE):TI:=fun σ H R=>tl σ H fun x H1=>match x with
 | .ref a=>((∃ xs,ao K H1 a xs)/\R (Dy K a) H1)\/((∃ xs,ae K H1 a xs)/\R (Dz K a) H1)
 | .str z=>R (D5 z) H1
 | _=>False
theorem Lq {l:Expr} {tl:TE} (hl:PE X l tl):PI X tg l (iD X.K tl):=by
 intro pins s σ H R I h
 refine av (hl pins s σ H _ I h) ?_
 rintro v s1 ⟨x,H1,I1,r1,q1⟩
 cases x with
 | ref a=>
  cases r1
  rcases q1 with ⟨⟨xs,hq⟩,q⟩ | ⟨⟨xs,hq⟩,q⟩
  ·obtain ⟨its,rv,p,hz⟩:=I1.list hq
   refine wpAny_pyIter_list p.isList ?_
   refine ⟨s1.heap.objs.size,[s1.heap.objs.size],_,_,H1,rfl,I1.kept (t':=s1.toks) fun b o e=>Qc _ e,rO a _,⟨_,Qd _ rfl,rfl,rfl⟩,fun b hb=>?_,q⟩
   have e:b=s1.heap.objs.size:=by simpa using hb
   subst e
   exact I1.wk (Qy _) (I1.hok.fresh (Qy _))
  ·obtain ⟨its,rv,p,hz⟩:=I1.tuple hq
   refine wpAny_pyIter_tuple (show s1.heap.IsTuple a its.toArray from p) ?_
   refine ⟨s1.heap.objs.size,[s1.heap.objs.size],_,_,H1,rfl,I1.kept (t':=s1.toks) fun b o e=>Qc _ e,pB a _,⟨_,Qd _ rfl,rfl,rfl⟩,fun b hb=>?_,q⟩
   have e:b=s1.heap.objs.size:=by simpa using hb
   subst e
   exact I1.wk (Qy _) (I1.hok.fresh (Qy _))
 | str z=>
  obtain ⟨t,rfl⟩:=(show ∃ t,v=Value.str z t from r1)
  have q:R (D5 z) H1:=q1
  have fin:∀ (o:Obj) (n:String) (W:∀ A':Around,A'.handled=none->Walks X.prog X.w A' s1.heap.objs.size [s1.heap.objs.size] [s1.heap.objs.size] z.cps.size (SignAt z) (fun i h=>h.IsStrIter s1.heap.objs.size n z t i)),
    (∀ (A:Around) (i:Nat) (s:Shared) (Q:Value->Shared->Prop) (E:Value->Shared->Prop),s.heap.IsStrIter s1.heap.objs.size n z t i->Q (.ref s1.heap.objs.size) s->wpAny (model X.prog X.w) A (pyIter (.ref s1.heap.objs.size)) Q E s)->
    ["enumerate","zip","dict_itemiterator","dict_reverseitemiterator","odict_iterator","itertools.zip_longest","itertools.pairwise"].contains n=false->
    (s1.heap.push o).IsStrIter s1.heap.objs.size n z t 0->Aq X pins σ tg R (.ref s1.heap.objs.size) {s1 with heap:=s1.heap.push o}:=by
   intro o n W D6 hn st
   refine ⟨s1.heap.objs.size,[s1.heap.objs.size],_,_,H1,rfl,I1.kept (t':=s1.toks) fun b o e=>Qc _ e,pS W D6 (fun i h st=>?_),st,fun b hb=>?_,q⟩
   ·obtain ⟨o,e,c,d⟩:=st
    exact ⟨o,n,_,e,c,d,hn⟩
   ·have e:b=s1.heap.objs.size:=by simpa using hb
    subst e
    exact I1.wk (Qy _) (I1.hok.fresh (Qy _))
  cases ha:z.cps.all (· < 128)
  ·exact wpAny_pyIter_wide ha (fin _ _ (fun A' hA=>Walks.strWide hA _ z t) (fun A i s Q E st h=>wpAny_pyIter_striter_wide st h) (by decide) ⟨_,Qd _ rfl,rfl,rfl⟩)
  ·exact wpAny_pyIter_ascii ha (fin _ _ (fun A' hA=>Walks.strAscii hA _ z t) (fun A i s Q E st h=>wpAny_pyIter_striter_ascii st h) (by decide) ⟨_,Qd _ rfl,rfl,rfl⟩)
 | _=>exact (show False from q1).elim
def Ay (J:It) (ok:Hp->Prop) (n:Nat) (item:Nat->V):Prop:=
 ∀ H,ok H->(∀ i,i < n->J.go i H/\∀ x H',J.lj i H x H'->H'=H/\x=item i)/\J.stop n H
theorem fH {K:QZ} (xs:List V):Ay (Dy K a) (fun H=>ao K H a xs) xs.length (fun i=>xs.getD i .af):=fun H ok=>
 ⟨fun i hi=>⟨⟨xs,xs[i],ok,by simp [hi]⟩,fun x H' ⟨e,y⟩=>⟨e,by
  have:=y xs ok
  show x=xs.getD i V.af
  rw [Qb,this];rfl⟩⟩,⟨xs,ok,Qy _⟩⟩
theorem dF {K:QZ} (xs:List V):Ay (Dz K a) (fun H=>ae K H a xs) xs.length (fun i=>xs.getD i .af):=fun H ok=>
 ⟨fun i hi=>⟨⟨xs,xs[i],ok,by simp [hi]⟩,fun x H' ⟨e,y⟩=>⟨e,by
  have:=y xs ok
  show x=xs.getD i V.af
  rw [Qb,this];rfl⟩⟩,⟨xs,ok,Qy _⟩⟩
theorem fL (lo:Int) (n:Nat):Ay (Cf lo n) (fun _=>True) n (fun i=>.int (lo+i)):=fun H _=>
 ⟨fun i hi=>⟨hi,fun x H' ⟨e,y⟩=>⟨e,y⟩⟩,Qy _⟩
theorem iR {J:It} {ok:Hp->Prop} {item:Nat->V} {g:TG} {tc:TC} {τ0:St} {D:Addr} {Q:Hp->Prop} (hJ:Ay J ok n item) (Pv:Nat->St->Hp->Prop) (h0:Pv 0 τ0 H0)
  (hok:∀ i τ H,i<=n->Pv i τ H->ok H)
  (hs:∀ i τ H,i < n->Pv i τ H->g (item i) τ H fun τ2 H2=>tc τ2 H2 fun b H3=>if b=true then te τ2 H3 fun y H4=>∃ xs,H4 D=some (.lst xs)/\xs.length < sizeLine/\Pv (i+1) τ2 (upd H4 D (.lst (xs++[y]))) else Pv (i+1) τ2 H3)
  (hd:∀ τ H,Pv n τ H->Q H):∃ W:Nat->Nat->St->Hp->Prop,(∃ m,W 0 m τ0 H0)/\∀ i m τ H,W i m τ H->
   (J.stop i H/\Q H)\/(J.go i H/\∃ N:St->Hp->Prop,(∀ τ' H',N τ' H'->∃ m',m' < m/\W (i+1) m' τ' H')/\∀ x H',J.lj i H x H'->g x τ H' fun τ2 H2=>tc τ2 H2 fun b H3=>
    if b=true then te τ2 H3 fun y H4=>∃ xs,H4 D=some (.lst xs)/\xs.length < sizeLine/\N τ2 (upd H4 D (.lst (xs++[y]))) else N τ2 H3):=by
 refine ⟨fun i m τ H=>m=n - i/\i<=n/\Pv i τ H,⟨n,by simp,Nat.zero_le _,h0⟩,?_⟩
 rintro i m τ H ⟨rfl,hi,p⟩
 obtain ⟨k1,k2⟩:=hJ H (hok i τ H hi p)
 by_cases b_:i < n
 ·refine .inr ⟨(k1 i b_).1,Pv (i+1),fun σ' H' p'=>⟨n - (i+1),by omega,rfl,b_,p'⟩,fun x H' y=>?_⟩
  obtain ⟨e,e2⟩:=(k1 i b_).2 x H' y
  subst e e2
  exact hs i τ _ b_ p
 ·have e:i=n:=by omega
  subst e
  exact .inl ⟨k2,hd τ H p⟩
theorem fZ {J:It} {ok:Hp->Prop} {item:Nat->V} {g:TG} {tb:TS} {D:Ends} (hJ:Ay J ok n item) (Pv:Nat->St->Hp->Prop) (h0:Pv 0 σ H) (hok:∀ i τ H,i<=n->Pv i τ H->ok H)
  (hs:∀ i σ H,i < n->Pv i σ H->g (item i) σ H fun σ2 H2=>tb {D with nx:=Pv (i+1),ct:=Pv (i+1),bk:=D.nx} σ2 H2) (hd:∀ σ H,Pv n σ H->D.nx σ H):
  ∃ W:Nat->Nat->St->Hp->Prop,(∃ m,W 0 m σ H)/\∀ i m σ H,W i m σ H->
   (J.stop i H/\D.nx σ H)\/(J.go i H/\∃ N:St->Hp->Prop,(∀ σ' H',N σ' H'->∃ m',m' < m/\W (i+1) m' σ' H')/\∀ x H',J.lj i H x H'->g x σ H' fun σ2 H2=>tb {D with nx:=N,ct:=N,bk:=D.nx} σ2 H2):=by
 refine ⟨fun i m σ H=>m=n - i/\i<=n/\Pv i σ H,⟨n,by simp,Nat.zero_le _,h0⟩,?_⟩
 rintro i m σ H ⟨rfl,hi,p⟩
 obtain ⟨k1,k2⟩:=hJ H (hok i σ H hi p)
 by_cases b_:i < n
 ·refine .inr ⟨(k1 i b_).1,Pv (i+1),fun σ' H' p'=>⟨n - (i+1),by omega,rfl,b_,p'⟩,fun x H' y=>?_⟩
  obtain ⟨e,e2⟩:=(k1 i b_).2 x H' y
  subst e e2
  exact hs i σ _ b_ p
 ·have e:i=n:=by omega
  subst e
  exact .inl ⟨k2,hd σ H p⟩
def c_ (K:QZ) (mg:Str->Option Value) (x:Str) (st:Stmt) (ps:List Str):Prop:=∃ (f:Addr) (fd:FuncData),wy K x x st f fd/\mg x=some (.ref f)/\Binds K fd ps []
theorem c_.ok {P:Program} {w:World} {K:QZ} {mg:Str->Option Value} {base:Heap} {x:Str} {st:Stmt} {N ps:List Str} {k:Nat} {sp:Sp} (F:c_ K mg x st ps) (S:dc N ps (bh st)) (len:∀ vs H Q E,sp vs H Q E->vs.length=ps.length)
  (qv:∀ (f:Addr) (ay:Value) (A:Around) (outer:List Env) (s:Shared) (H:Hp) (vs:List V) (Q:VK) (E:XK),dg k (A.deeper (envOfC x (bh st) s.heap.objs.size f ay))->sp vs H Q E->
   ∃ t,ju (gb sj P w K mg base N x (bh st) f ay A outer s H E).qt (iw st) t/\t {nx:=fun _ H'=>Q .af H',rt:=Q} (start N vs) H):bf P w K mg base (k+1) x ps sp:=by
 obtain ⟨f,fd,Fu,m,b⟩:=F
 exact ⟨f,fd,Fu.ok S len (qv f),m,Fu.kp,b,let ⟨oc,od,_,_,_,_,_,_,gz,_,lk,_⟩:=Fu.ex;⟨oc,od,gz,lk⟩⟩
theorem Lr {v:V} (h:∃ u,X.mg x=some u/\RelV v u) (hg:Gl X x:=by rfl) (hd:(x==("__debug__":Str))=false:=by decide):PE X (.Name x pos) (tC v):=by
 obtain ⟨u,h1,h2⟩:=h
 exact qE hg h1 h2 hd
theorem Ls:qw X (fun x lo hi H Q=>D4 x lo hi H Q\/(DN X.K x lo hi H Q\/DK X.K x lo hi H Q)):=yQ.or (vO.or zN)
section
variable (K:QZ)
theorem aQ (h:X.K=K:=by rfl):yu X (GP K):=by rw [<- h];exact Ln
theorem iE (h:X.K=K:=by rfl):bw X (compareOp .In) (Cw K false):=by rw [<- h];exact yD
theorem rV (h:X.K=K:=by rfl):bw X (compareOp .NotIn) (Cw K true):=by rw [<- h];exact qW
theorem cI (h:X.K=K:=by rfl):je X (.builtin "len") (D0 K):=by rw [<- h];exact rX
theorem sI (hc:X.calm=true) (h:X.K=K:=by rfl):je X (.builtin "all") (D3 K):=by rw [<- h];exact rZ hc
theorem iZ (h:X.K=K:=by rfl):qw X (fun x lo hi H Q=>D4 x lo hi H Q\/(DN K x lo hi H Q\/DK K x lo hi H Q)):=by rw [<- h];exact Ls
theorem Lu {l:Expr} {tl:TE} (hl:PE X l tl) (h:X.K=K:=by rfl):PI X tg l (iD K tl):=by rw [<- h];exact Lq hl
theorem xF {k:Nat} {t:qu} (hc:X.calm=true) (hh:Ao X es t) (h:X.K=K:=by rfl)
  (hn:(assignEach es X.env).length=n:=by rfl) (hst:(assignEach es X.env).findIdx? (·.1)=none:=by rfl):PG X (.Tuple es k pos) (Be K n t):=by
 subst h;exact yS hc hh hn hst
theorem zF {id:String} {r:V->List V->Hp->VK->Prop} {o:Expr} (pa:PlainAttrs T) (slot:Slot T name id) (ux:typeOf (.builtin id)=pure (.type "method_descriptor")) (hm:Av X id r) (ho:PE X o to) (ha:PA X (e::es) t) (h:X.K=K:=by rfl)
  (uy:attributeBase o name X.env (eval o X.env)=eval o X.env:=by rfl)
  (iu:((backTo cpos (starEach (e::es) X.env)).all (fun x=> !x.1)&&(backToKw cpos (keywordEach [] X.env)).all (fun x=>x.1.isSome)
   &&decide ((e::es).length+([]:List Keyword).length+(if ([]:List Keyword).isEmpty then 0 else 1) < 30))=true:=by rfl)
  (uz:(apos.endLine==cpos.line)=true:=by rfl) (hs:starEach (e::es) X.env=(false,eval e X.env)::starEach es X.env:=by rfl) (Bm:(backTo cpos (starEach es X.env)).any (·.1)=false:=by rfl):
  PE X (.Call (.Attribute o name apos) (e::es) [] cpos) (DP K T r to t):=by
 subst h;exact Ks pa slot ux hm ho ha uy iu uz hs Bm
end
structure SE (X:Cx) (e:Expr) (t:TE):Prop where
 h:PE X e t
structure ST (X:Cx) (e:Expr) (t:TT):Prop where
 h:PT X e t
structure SW (X:Cx) (e:Expr) (t:TT):Prop where
 h:PW X e t
structure SA (X:Cx) (es:List Expr) (t:TA):Prop where
 h:PA X es t
structure SS (X:Cx) (s:Stmt) (t:TS):Prop where
 h:PS X s t
structure SB (X:Cx) (s:List Stmt) (t:TS):Prop where
 h:ju X s t
structure SG (X:Cx) (e:Expr) (t:TG):Prop where
 h:PG X e t
structure Cz (X:Cx) (e:List Expr) (t:qu):Prop where
 h:Ao X e t
structure SI (X:Cx) (tg e:Expr) (t:TI):Prop where
 h:PI X tg e t
structure SC (X:Cx) (e:List Expr) (t:TC):Prop where
 h:w_ X e t
structure SO (X:Cx) (e:Option Expr) (t:TO):Prop where
 h:PO X e t
section
variable {c:Const} {ig:Pos} {n:Str} {CA:List Expr} {f0 a0 b0 c0:Expr} {GV:List Keyword} {o0:Operator} {ly:List (Option Expr)} {GW:List Comprehension} {GX:Scope} {u0:UnaryOp} {Pf:BoolOp} {Pg:List CmpOp}
theorem aC:SA X [] gw:=⟨zM⟩
theorem aB (ha:SE X (.Constant c j ig) te) (hr:SA X es t):SA X (.Constant c j ig::es) (bu te t):=⟨d4 ha.h hr.h⟩
theorem aD (ha:SE X (.Name n ig) te) (hr:SA X es t):SA X (.Name n ig::es) (bu te t):=⟨d4 ha.h hr.h⟩
theorem aW (ha:SE X (.Tuple CA j ig) te) (hr:SA X es t):SA X (.Tuple CA j ig::es) (bu te t):=⟨d4 ha.h hr.h⟩
theorem bY (ha:SE X (.Call f0 CA GV ig) te) (hr:SA X es t):SA X (.Call f0 CA GV ig::es) (bu te t):=⟨d4 ha.h hr.h⟩
theorem fJ (ha:SE X (.BinOp a0 o0 b0 ig) te) (hr:SA X es t):SA X (.BinOp a0 o0 b0 ig::es) (bu te t):=⟨d4 ha.h hr.h⟩
theorem aI (ha:SE X (.Subscript a0 b0 ig) te) (hr:SA X es t):SA X (.Subscript a0 b0 ig::es) (bu te t):=⟨d4 ha.h hr.h⟩
theorem cV (ha:SE X (.ListComp a0 GW GX ig) te) (hr:SA X es t):SA X (.ListComp a0 GW GX ig::es) (bu te t):=⟨d4 ha.h hr.h⟩
theorem tI (ha:SE X (.IfExp a0 b0 c0 ig) te) (hr:SA X es t):SA X (.IfExp a0 b0 c0 ig::es) (bu te t):=⟨d4 ha.h hr.h⟩
end
section
variable {a b c o i value lo hi iter elt:Expr} {ta tb tc td ty tv:TE} {p2 ig:Pos}
theorem zv (i:Nat) (hN:X.N[i]? =some x:=by rfl) (hv:Al X.env.scope x:=by first | exact Or.inl rfl | exact Or.inr (Or.inl rfl) | exact Or.inr (Or.inr rfl)) (hd:(x==("__debug__":Str))=false:=by decide) (jd:(x==("__classdict__":Str))=false:=by decide):SE X (.Name x pos) (tV i):=⟨Lf i hN hv hd jd⟩
theorem p9 {v:V} (h:∃ u,X.mg x=some u/\RelV v u) (hg:Gl X x:=by rfl) (hd:(x==("__debug__":Str))=false:=by decide):SE X (.Name x pos) (tC v):=⟨Lr h hg hd⟩
theorem yC {v:V} (hg:Gl X x) (hm:X.mg x=none) (hv:bootBuiltins x=some u) (r:RelV v u) (hn:x≠"__name__":=by decide) (hd:(x==("__debug__":Str))=false:=by decide):SE X (.Name x pos) (tC v):=⟨wB hg hm hv r hn hd⟩
theorem cZ {j}:SE X (.Constant .none j pos) (tC .af):=⟨yP⟩
theorem y7 {b:Bool} {j}:SE X (.Constant (.bool b) j pos) (tC (.bl b)):=⟨JU⟩
theorem aF {i:Int} {j}:SE X (.Constant (.int i) j pos) (tC (.int i)):=⟨yJ⟩
theorem aJ {j}:SE X (.Constant (.str x) j pos) (tC (.str x)):=⟨zT⟩
theorem bK {op:Operator} {r:R2} (ho:bw X (binaryOp op) r) (ha:SE X a ta) (hb:SE X b tb):SE X (.BinOp a op b pos) (wl r ta tb):=⟨J1 ho ha.h hb.h⟩
theorem wA {op:UnaryOp} {r:V->Hp->VK->Prop} (ho:Cj X (unaryOp op) r) (ha:SE X a ta):SE X (.UnaryOp op a pos) (Gd r ta):=⟨J2 ho ha.h⟩
theorem u8 {op:CmpOp} {r:R2} (ho:bw X (compareOp op) r) (ha:SE X a ta) (hb:SE X b tb) (hm:behindInMarks op b=false):SE X (.Compare a [op] [b] pos) (wl r ta tb):=⟨vS ho ha.h hb.h hm⟩
theorem aL {op:CmpOp} {r:R2} (ho:bw X (compareOp op) r) (ha:SE X a ta) (hb:SE X b tb) (hm:behindInMarks op b=false):ST X (.Compare a [op] [b] pos) (Gg (wl r ta tb)):=⟨wO ho ha.h hb.h hm⟩
theorem k8 (h:SE X e te) (he:∀ whole,isTrue e X.env whole=(do let v <- whole;standAt e.pos;holding [v] (truthy v)):=by intro _;rfl):ST X e (tB te):=⟨yV h.h he⟩
theorem tO (ha:ST X a tA):ST X (.UnaryOp .Not a pos) (F0 tA):=⟨JW ha.h⟩
theorem dD (ha:ST X a tA):SW X (.BoolOp .And [a] pos) tA:=⟨w6 ha.h⟩
theorem xO (ha:ST X a tA):SW X (.BoolOp .Or [a] pos) tA:=⟨xZ ha.h⟩
theorem eM {rq:TT} {rest:List Expr} (ha:ST X a tA) (hb:SW X (.BoolOp .And (b::rest) pos) rq):SW X (.BoolOp .And (a::b::rest) pos) (FY tA rq):=⟨y2 ha.h hb.h⟩
theorem yU {rq:TT} {rest:List Expr} (ha:ST X a tA) (hb:SW X (.BoolOp .Or (b::rest) pos) rq):SW X (.BoolOp .Or (a::b::rest) pos) (FZ tA rq):=⟨JV ha.h hb.h⟩
theorem SW.pt {tA:TT} (h:SW X e tA):ST X e tA:=⟨h.h.pt⟩
theorem dB (h:SA X es t):SE X (.List es pos) (Gj t):=⟨zL h.h⟩
theorem aN {x1} (h:SA X es t):SE X (.Tuple es x1 pos) (ie t):=⟨y6 h.h⟩
theorem mO (hc:ST X c tA) (ha:SE X a ta) (hb:SE X b tb):SE X (.IfExp c a b pos) (F1 tA ta tb):=⟨u9 hc.h ha.h hb.h⟩
theorem cD:SO X none Gr:=⟨wP⟩
theorem cE (h:SE X e te):SO X (some e) (Gs te):=⟨wV h.h⟩
theorem cC {r:V->Option Int->Option Int->Hp->VK->Prop} {l u:Option Expr} {tl th:TO} (hr:qw X r) (he:SE X e te) (hl:SO X l tl) (hu:SO X u th):SE X (.Subscript e (.Slice l u none p2) pos) (Gu r te tl th):=⟨uC hr he.h hl.h hu.h⟩
theorem xQ (hu:X.A.units+1 < cLine) (ho:SE X o td) (hi:SE X i ty) (hs:Cq i):SE X (.Subscript o i pos) (GC td ty):=⟨wQ hu ho.h hi.h hs⟩
theorem aO {r:R2} (hr:yu X r) (ha:SE X a ta) (hb:SE X b tb) (hs:Gv b):SE X (.Subscript a b pos) (wl r ta tb):=⟨Km hr ha.h hb.h hs⟩
theorem bH {k:Nat} {sp:Sp} (F:bf X.prog X.w X.K X.mg X.base k x ps sp) (hr:dg k X.A) (ha:SA X (e::es) t) (hg:Gl X x:=by rfl) (fg:(x==("__debug__":Str))=false:=by decide)
  (he:starEach (e::es) X.env=(false,eval e X.env)::starEach es X.env:=by rfl) (hpl:(backTo pos (starEach es X.env)).any (·.1)=false:=by rfl):
  SE X (.Call (.Name x p) (e::es) [] pos) (Co sp [] E0 t):=⟨Lo F hr ha.h hg fg he hpl⟩
theorem bV {id:String} {r:List V->Hp->VK->Prop} (hc:je X (.builtin id) r) (hg:Gl X x) (hm:X.mg x=none) (hv:bootBuiltins x=some (.builtin id)) (ha:SA X (e::es) t) (hn:x≠"__name__":=by decide) (fg:(x==("__debug__":Str))=false:=by decide)
  (he:starEach (e::es) X.env=(false,eval e X.env)::starEach es X.env:=by rfl) (hpl:(backTo pos (starEach es X.env)).any (·.1)=false:=by rfl):SE X (.Call (.Name x p) (e::es) [] pos) (Bl r t):=⟨tY hc hg hm hv ha.h hn fg he hpl⟩
theorem oW (K:QZ) {id:String} {r:V->List V->Hp->VK->Prop} (pa:PlainAttrs T) (slot:Slot T name id) (ux:typeOf (.builtin id)=pure (.type "method_descriptor")) (hm:Av X id r) (ho:SE X o to) (ha:SA X (e::es) t) (h:X.K=K:=by rfl)
  (uy:attributeBase o name X.env (eval o X.env)=eval o X.env:=by rfl)
  (iu:((backTo cpos (starEach (e::es) X.env)).all (fun x=> !x.1)&&(backToKw cpos (keywordEach [] X.env)).all (fun x=>x.1.isSome)
   &&decide ((e::es).length+([]:List Keyword).length+(if ([]:List Keyword).isEmpty then 0 else 1) < 30))=true:=by rfl)
  (uz:(apos.endLine==cpos.line)=true:=by rfl) (hs:starEach (e::es) X.env=(false,eval e X.env)::starEach es X.env:=by rfl) (Bm:(backTo cpos (starEach es X.env)).any (·.1)=false:=by rfl):
  SE X (.Call (.Attribute o name apos) (e::es) [] cpos) (DP K T r to t):=⟨zF K pa slot ux hm ho.h ha.h h uy iu uz hs Bm⟩
theorem aS:SB X [] Cb:=⟨vD⟩
theorem aH {st:Stmt} {u:TS} (h1:SS X st u):SB X [st] u:=⟨x9 h1.h⟩
theorem aE {st:Stmt} {rest:List Stmt} {u v:TS} (h1:SS X st u) (h2:SB X rest v):SB X (st::rest) (wj u v):=⟨tP h1.h h2.h⟩
theorem aT (he:SE X e te):SS X (.Return (some e) pos) (F6 te):=⟨zK he.h⟩
theorem eC (he:SE X e te) (hs:swapsWith e none pos.line X.env=pure false:=by rfl):SS X (.Expr e pos) (F4 te):=⟨xA he.h hs⟩
theorem bI {a b:List Stmt} {u v:TS} (hc:ST X c tA) (ha:SB X a u) (hb:SB X b v):SS X (.If c a b pos) (F7 tA u v):=⟨JX hc.h ha.h hb.h⟩
theorem fY {wi:TI} {g:TG} {u:TS} (hp:PassesOwn (model X.prog X.w) X.A X.env X.xe) (hc:X.calm=true) (hi:SI X tg iter wi) (hg:SG X tg g) (hb:SB X body u) (hs:∀ x,foldedSetIterable iter X.env x=pure x:=by intro _;rfl):SS X (.For tg iter body [] pos) (Gb wi g u):=⟨yL hp hc hi.h hg.h hb.h hs⟩
theorem gP {u:TS} (hp:PassesOwn (model X.prog X.w) X.A X.env X.xe) (hc:ST X c tA) (hb:SB X body u):SS X (.While c body [] pos) (F_ tA u):=⟨u6 hp hc.h hb.h⟩
theorem aV {i:Nat} (hN:X.N.Nodup) (hi:X.N[i]? =some x) (hx:Loc X.env.scope x) (he:SE X e te) (hs:swapsWith e (some (.Name x pos')) pos.line X.env=pure false:=by rfl) (hf:X.fn x=true\/X.env.scope.names.lookup x=some .local:=by first | exact .inl rfl | exact .inr rfl | assumption):
  SS X (.Assign [.Name x pos'] e pos) (o_ te (ia i)):=⟨zP hN hi hx he.h hs hf⟩
theorem fR {g:TG} (he:SE X e te) (hg:SG X tg g) (hs:swapsWithSole [tg] e pos.line X.env=pure false:=by rfl) (hw:swappedStores [tg] e X.env=pure none:=by rfl)
  (h1:(assignEach [tg] X.env).map (·.2)=[assign tg X.env]:=by rfl):SS X (.Assign [tg] e pos) (o_ te g):=⟨yY he.h hg.h hs hw h1⟩
theorem aU {i:Nat} (hN:X.N.Nodup) (hi:X.N[i]? =some x) (hx:Loc X.env.scope x) (hf:X.fn x=true\/X.env.scope.names.lookup x=some .local:=by first | exact .inl rfl | exact .inr rfl | assumption):SG X (.Name x pos) (ia i):=⟨wH hN hi hx hf⟩
theorem cR:Cz X [] Ce:=⟨xD⟩
theorem bC {g:TG} {u:qu} (h1:SG X e g) (h2:Cz X es u) (hs:(assignEach (e::es) X.env).map (·.2)=assign e X.env::(assignEach es X.env).map (·.2):=by rfl):Cz X (e::es) (ym g u):=⟨uH h1.h h2.h hs⟩
theorem dQ (K:QZ) {k:Nat} {u:qu} (hc:X.calm=true) (hh:Cz X es u) (h:X.K=K:=by rfl)
  (hn:(assignEach es X.env).length=n:=by rfl) (hst:(assignEach es X.env).findIdx? (·.1)=none:=by rfl):SG X (.Tuple es k pos) (Be K n u):=⟨xF K hc hh.h h hn hst⟩
theorem lC {u:Cc} (ho:SE X o td) (hi:SE X i ty) (hs:Dw X u)
  (ha:∀ v,assign (.Subscript o i pos) X.env v=(do
   let ov <- holding [v] (eval o X.env)
   let iv <- holding [v,ov] (eval i X.env)
   standAt pos
   holding [v,ov,iv] (setItem ov iv v)
   release [v,ov,iv] []):=by intro _;rfl):SG X (.Subscript o i pos) (F8 td ty u):=⟨zI ho.h hi.h hs ha⟩
theorem h9 (hg:Gl X "range") (hm:X.mg "range"=none) (ha:SA X [a] t) (hs:starEach [a] X.env=[(false,eval a X.env)]:=by rfl):SI X tg (.Call (.Name "range" p) [a] [] pos) (Ga t):=⟨qR hg hm ha.h hs⟩
theorem rN (K:QZ) (hl:SE X e te) (h:X.K=K:=by rfl):SI X tg e (iD K te):=⟨Lu K hl.h h⟩
theorem eI:SC X [] GJ:=⟨vH⟩
theorem lV {wi:TI} {g:TG} {tt:TC} (S:p_ X.env.scope X.N sc own idx N') (hc:X.calm=true) (hi:SI X tg iter wi)
  (hg:∀ cl C s3 H0 fp pn,SG (dz X N' sc cl C s3 H0 fp pn) tg g) (ht:∀ cl C s3 H0 fp pn,SC (dz X N' sc cl C s3 H0 fp pn) ifs tt) (he:∀ cl C s3 H0 fp pn,SE (dz X N' sc cl C s3 H0 fp pn) elt te)
  (hs:∀ x,foldedSetIterable iter X.env x=pure x:=by intro _;rfl):SE X (.ListComp elt [⟨tg,iter,ifs,0⟩] sc pos) (Cv own idx wi g tt te):=
 ⟨Ld S hc hi.h (fun q r s t u v=>(hg q r s t u v).h) (fun q r s t u v=>(ht q r s t u v).h) (fun q r s t u v=>(he q r s t u v).h) hs⟩
theorem Lv {wi:TI} {g:TG} {tt:TC} {i:Nat} {y:Str} {py spos:Pos} (S:p_ X.env.scope X.N sc own idx N') (hc:X.calm=true) (hi:SI X tg iter wi)
  (hg:∀ cl C s3 H0 fp pn,SG (dz X N' sc cl C s3 H0 fp pn) tg g) (ht:∀ cl C s3 H0 fp pn,SC (dz X N' sc cl C s3 H0 fp pn) ifs tt) (he:∀ cl C s3 H0 fp pn,SE (dz X N' sc cl C s3 H0 fp pn) elt te)
  (hN:X.N.Nodup) (Bs:X.N[i]? =some y) (hy:X.env.scope.names.lookup y=some .local)
  (vc:swapsWith (.ListComp elt [⟨tg,iter,ifs,0⟩] sc pos) (some (.Name y py)) spos.line X.env=pure true:=by rfl)
  (hs:∀ x,foldedSetIterable iter X.env x=pure x:=by intro _;rfl):SS X (.Assign [.Name y py] (.ListComp elt [⟨tg,iter,ifs,0⟩] sc pos) spos) (o_ (Cv own idx wi g tt te) (ia i)):=
 ⟨Le S hc hi.h (fun q r s t u v=>(hg q r s t u v).h) (fun q r s t u v=>(ht q r s t u v).h) (fun q r s t u v=>(he q r s t u v).h) hN Bs hy vc hs⟩
end
theorem c_.di {K:QZ} {st:Stmt} {k:Nat} {sp:Sp} (F:c_ K mg x st ps) (S:dc N ps (bh st)) (len:∀ vs H Q E,sp vs H Q E->vs.length=ps.length)
  (qv:∀ (f:Addr) (ay:Value) (A:Around) (outer:List Env) (s:Shared) (H:Hp) (vs:List V) (Q:VK) (E:XK),dg k (A.deeper (envOfC x (bh st) s.heap.objs.size f ay))->sp vs H Q E->
   ∃ t,SB (gb sj P w K mg base N x (bh st) f ay A outer s H E).qt (iw st) t/\t {nx:=fun _ H'=>Q .af H',rt:=Q} (start N vs) H):bf P w K mg base (k+1) x ps sp:=
 F.ok S len fun f ay A outer s H vs Q E hr h=>let ⟨t,h1,h2⟩:=qv f ay A outer s H vs Q E hr h;⟨t,h1.h,h2⟩
theorem Lw {kx vx target iter:Expr} {it:Value} {D:Addr} (I:Nat->Shared->Prop)
  (turn:∀ n s,I n s->wpAny (model prog w) A (pyNext it) (fun r s₁=>match r with
   | none=>R (.ok .next) s₁
   | some v=>wpAny (model prog w) A (letOwnedTupleGo target it v) (fun _ zb=>wpAny (model prog w) A (assign target env v) (fun _ s₂=>
     wpAny (model prog w) A (forIn ifs true fun c r=>if r=true then do let ok <- isTrue c env (eval c env);pure (ForInStep.yield ok) else pure (ForInStep.yield r)) (fun ok s₃=>
      if ok=true then wpAny (model prog w) A (eval kx env) (fun kv s₄=>wpAny (model prog w) A (eval vx env) (fun vv s₅=>
       wpAny (model prog w) A (dictSet D kv vv) (fun _ s₆=>∃ m,m < n/\I m s₆) fz s₅) fz s₄) fz s₃
      else ∃ m,m < n/\I m s₃) fz s₂) fz zb) fz s₁) fz s)
  (n:Nat) (h:I n s):
  codeAny (model prog w) A (.compLoop (.DictComp kx vx [⟨target,iter,ifs,0⟩] scope pos) 0 it (.ref D) env) R s:=by
 refine codeAny_loop rfl I (fun n s hI=>?_) n h
 show wpAny _ A ((compTurn (.DictComp kx vx [⟨target,iter,ifs,0⟩] scope pos) 0 it (.ref D) env).onRaise (fun x=>do noteFrame x env;theTreesLotGoes x)) _ _ s
 refine wpAny_noted ?_
 rw [compTurn_dict]
 refine QS (wpAny_standAt (QS (wpAny_mono (turn n s hI) (fun r s₁ h₁=>?_) fun _ _ h'=>h'.elim)))
 cases r with
 | none=>exact QT h₁
 | some v=>
  refine QS (wpAny_mono h₁ (fun _ zb DW=>?_) fun _ _ h'=>h'.elim)
  refine QS (wpAny_mono DW (fun _ s₂ h₂=>QS (wpAny_mono h₂ (fun ok s₃ h₃=>?_) fun _ _ h'=>h'.elim)) fun _ _ h'=>h'.elim)
  cases ok with
  | false=>exact QT ⟨rfl,h₃⟩
  | true=>
   exact QS (QS (wpAny_mono h₃ (fun kv s₄ h₄=>QS (wpAny_holding (wpAny_mono h₄ (fun vv s₅ h₅=>QS (wpAny_standAt (wpAny_holding (wpAny_mono h₅ (fun _ s₆ h₆=>QT ⟨rfl,h₆⟩) fun _ _ h'=>h'.elim)))) fun _ _ h'=>h'.elim))) fun _ _ h'=>h'.elim))
section
variable {iter kx vx:Expr} {wi:TI} {g:TG} {tc:TC} {tk tw:TE}
abbrev Lx:Obj:={cls:=.type "dict",data:=.dict #[]}
def Ly (own:List Str) (idx:List Nat) (wi:TI) (g:TG) (tc:TC) (tk tw:TE):TE:=fun σ H Q=>wi σ H fun J H1=>∀ D,H1 D=none->∃ W:Nat->Nat->St->Hp->Prop,(∃ m,W 0 m (sr own idx σ) (upd H1 D (.dK [])))/\∀ i m τ H,W i m τ H->
 (J.stop i H/\Q (.ref D) H)\/(J.go i H/\∃ N:St->Hp->Prop,(∀ τ' H',N τ' H'->∃ m',m' < m/\W (i+1) m' τ' H')/\∀ x H',J.lj i H x H'->g x τ H' fun τ2 H2=>tc τ2 H2 fun b H3=>
  if b=true then tk τ2 H3 fun x H4=>tw τ2 H4 fun y H5=>∃ kvs key,x=kV key/\H5 D=some (.dK kvs)/\kvs.length < sizeLine/\N τ2 (upd H5 D (.dK (putK kvs key y))) else N τ2 H3)
theorem nO (S:p_ X.env.scope X.N sc own idx N') (c1:∀ x c,cl.lookup x=some c->X.env.cells.lookup x=some c) (c2:∀ y∈sc.names,y.2=.free->∃ c,cl.lookup y.1=some c) (hc:X.calm=true)
  (hg:∀ cl C s3 H0 fp pn,PG (dz X N' sc cl C s3 H0 fp pn) tg g) (ht:∀ cl C s3 H0 fp pn,w_ (dz X N' sc cl C s3 H0 fp pn) ifs tc) (he:∀ cl C s3 H0 fp pn,PE (dz X N' sc cl C s3 H0 fp pn) kx tk) (hv:∀ cl C s3 H0 fp pn,PE (dz X N' sc cl C s3 H0 fp pn) vx tw)
  {pins:List (Addr×Obj)} {σ:St} {Q:VK} {lu:Value} {s2:Shared} {RR:Value->Addr->Result->Shared->Prop} {E:Value->Shared->Prop}
  (hI:Aq X pins σ tg (fun J H1=>∀ D,H1 D=none->∃ W:Nat->Nat->St->Hp->Prop,(∃ m,W 0 m (sr own idx σ) (upd H1 D (.dK [])))/\∀ i m τ H,W i m τ H->
   (J.stop i H/\Q (.ref D) H)\/(J.go i H/\∃ N:St->Hp->Prop,(∀ τ' H',N τ' H'->∃ m',m' < m/\W (i+1) m' τ' H')/\∀ x H',J.lj i H x H'->g x τ H' fun τ2 H2=>tc τ2 H2 fun b H3=>
    if b=true then tk τ2 H3 fun x H4=>tw τ2 H4 fun y H5=>∃ kvs key,x=kV key/\H5 D=some (.dK kvs)/\kvs.length < sizeLine/\N τ2 (upd H5 D (.dK (putK kvs key y))) else N τ2 H3)) lu s2)
  (Br:∀ D C H' s',Inv X pins σ H' s'->Q (.ref D) H'->(H' C=none/\C≠X.env.locals/\X.s₀.heap.objs.size<=C/\(∀ x c,X.env.cells.lookup x=some c->c≠C)/\(∀ p∈X.pn++pins,p.1≠C)/\∃ m,s'.heap.Ns C m)->RR (.ref D) C (.ok .next) s'):
  wpAny (model X.prog X.w) X.A newDict (fun acc s₃=>wpAny (model X.prog X.w) X.A (newFunctionEnv sc X.env.globals cl [] X.env.qual none .none (some X.env)) (fun cenv s₄=>
   codeAny (model X.prog X.w) X.A (.compStart (.DictComp kx vx [⟨tg,iter,ifs,0⟩] sc pos) 0 lu acc {cenv with scope:=relabel sc X.env}) (RR acc cenv.locals) s₄) E s₃) E s2:=by
 refine nY (ob:=Lx) (sel:=fun env D s K=>wpAny (model X.prog X.w) X.A (eval kx env) (fun kv s₄=>wpAny (model X.prog X.w) X.A (eval vx env) (fun vv s₅=>wpAny (model X.prog X.w) X.A (dictSet D kv vv) (fun _ s₆=>K s₆) fz s₅) fz s₄) fz s) (o0:=.dK []) (el:=fun D τ H K=>tk τ H fun x H4=>tw τ H4 fun y H5=>∃ kvs key,x=kV key/\H5 D=some (.dK kvs)/\kvs.length < sizeLine/\K (upd H5 D (.dK (putK kvs key y)))) S c1 c2 hc (hob:=rfl)
  (fun it D env R s I turn n h=>Lw I turn n h) (fun h k=>av h fun _ _ h=>av h fun _ _ h=>av h fun _ _ h=>k _ h) (fun _ _ _ _ _=>codeAny_compStart_dict) hg ht (fun cl C s3 H0 fp pn pins s τ H D N I q=>?_) (fun Q E h=>wpAny_newObj_type h)
  (fun H' I H h e=>⟨Nat.zero_le _,beq_eq_false_iff_ne.mpr (Ne.symm (Nat.ne_of_lt I.big)),[],.nil,(Heap.DictOf.new s2.heap).at fun o eo=>by rw [Qd _ rfl] at eo;cases eo;exact e⟩) hI Br
 refine av (he cl C s3 H0 fp pn _ s τ H _ I q) fun kv s8 ⟨x8,H8,I8,r8,q8⟩=>av (hv cl C s3 H0 fp pn _ s8 τ H8 _ I8 q8) fun yv s9 ⟨y9,H9,I9,r9,kvs,key,ek,GY,hz,n9⟩=>?_
 subst ek
 obtain ⟨z,hd,vs,rel,dd⟩:=KG I9.hok GY
 have Az:vs.length<=sizeLine:=by rw [<- rel.length];exact z
 have fb:(putK kvs key y9).length<=sizeLine:=by have:=nP kvs key y9;omega
 refine wpAny_dictSet_pairs (hsz:=Az) (lA r8) dd fun h' CB hs=>?_
 have Lz:∃ q,h'.get? D=some q:=let ⟨q,_,_,hq,_⟩:=CB;⟨q,hq⟩
 exact ⟨_,vE (t':=s9.toks+1) (ob:=.dK (putK kvs key y9)) I9 (by rw [GY];exact True.intro) hs Lz (zG fb hd (rel.put key r9) CB),n9⟩
end
theorem aa.upd {H:Hp} {a:Addr} (h:H a=none) (o:HO):aa H (upd H a o):=fun b u q=>by rw [aM (aY q h)];exact q
theorem D8 {c:Bool} {A B:Prop} (h1:c=true->B) (h2:c=false->A):if (!c)=true then A else B:=by
 cases c with
 | true=>exact dw (h1 rfl)
 | false=>exact y_ (h2 rfl)
theorem aj {c:Bool} {A B:Prop} (h1:c=true->A) (h2:c=false->B):if c=true then A else B:=by
 cases c with
 | true=>exact y_ (h1 rfl)
 | false=>exact dw (h2 rfl)
theorem aZ {t u:TS} {D:Ends} (mid:St->Hp->Prop) (h1:∀ nx:St->Hp->Prop,(∀ σ' H',mid σ' H'->nx σ' H')->t {D with nx:=nx} σ H) (h2:∀ σ' H',mid σ' H'->u D σ' H'):wj t u D σ H:=h1 (u D) h2
theorem aR (x:α) (xs:List α):ir (x::xs) 0=some x:=cB (j:=0) rfl
theorem nV (xs:List α) (i:Int) (h0:0<=i) (h1:i < xs.length):∃ c,xs[i.toNat]? =some c/\ir xs i=some c:=by
 have hl:i.toNat < xs.length:=by omega
 refine ⟨xs[i.toNat],by simp [hl],?_⟩
 have:=cB (xs:=xs) (j:=i.toNat) (v:=xs[i.toNat]) (by simp [hl])
 rw [<- this]
 congr 1
 omega
abbrev LA (w:Addr) (m t:Int):List (be×V):=[(.inr "mixed",.int m),(.inr "turn",.int t),(.inr "wide",.ref w)]
structure sy (H:Hp) (p w:Addr) (t:Nat):Prop where
 ex:∃ (m c:Int) (ws:List Int),H p=some (.dK (LA w m c))/\H w=some (.lst (ws.map V.int))/\(0<=m/\m < 2147483629)/\0<=c/\c<=(t:Int)
theorem sy.ne {p w:Addr} {t:Nat} (h:sy H p w t):p≠w:=by
 obtain ⟨m,c,ws,h1,h2,_⟩:=h.ex
 exact JK h1 h2 (by intro z;cases z)
def Sm (p w:Addr) (H H':Hp):Prop:=∀ b o,H b=some o->b≠p->b≠w->H' b=some o
theorem Sm.trans {p w:Addr} {H1 H2:Hp} (a:Sm p w H H1) (b:Sm p w H1 H2):Sm p w H H2:=fun c o h h1 h2=>b c o (a c o h h1 h2) h1 h2
theorem aa.sm {p w:Addr} {H1:Hp} (a:aa H H1):Sm p w H H1:=fun c o h _ _=>a c o h
theorem sy.same {p w:Addr} {t:Nat} (h:sy H p w t) (s:aa H H'):sy H' p w t:=by
 obtain ⟨m,c,ws,h1,h2,r⟩:=h.ex
 exact ⟨m,c,ws,s _ _ h1,s _ _ h2,r⟩
theorem sy.upd {H:Hp} {p w D:Addr} {t:Nat} {o:HO} (h:sy H p w t) (h1:D≠p) (h2:D≠w):sy (upd H D o) p w t:=by
 obtain ⟨m,c,ws,e1,e2,r⟩:=h.ex
 exact ⟨m,c,ws,by rw [aM h1.symm];exact e1,by rw [aM h2.symm];exact e2,r⟩
theorem Sm.upd {p w D:Addr} {H H':Hp} {o:HO} (s:Sm p w H H') (h:H D=none):Sm p w H (upd H' D o):=fun b u hb h1 h2=>by rw [aM (aY hb h)];exact s b u hb h1 h2
def CD (K:QZ):Sp:=fun vs H Q _=>∃ (a:Addr) (ns:List Int),vs=[.ref a]/\ao K H a (ns.map V.int)/\ns.length<=63/\∀ H',Q (.bl true) H'
def CF (p w:Addr) (H:Hp):V->Prop
 | .af=>True
 | .bl _=>True
 | .int _=>True
 | .str z=>z.length<=100000
 | .ref a=>a≠p/\a≠w/\((∃ xs,H a=some (.lst xs))\/(∃ xs,H a=some (.tup xs))\/∃ kvs,H a=some (.dK kvs))
 | _=>False
theorem CF.sm {p w:Addr} {x:V} (h:CF p w H x) (s:Sm p w H H'):CF p w H' x:=by
 cases x with
 | ref a=>
  obtain ⟨h1,h2,h3⟩:=h
  refine ⟨h1,h2,?_⟩
  rcases h3 with ⟨xs,e⟩ | ⟨xs,e⟩ | ⟨xs,e⟩
  ·exact .inl ⟨xs,s _ _ e h1 h2⟩
  ·exact .inr (.inl ⟨xs,s _ _ e h1 h2⟩)
  ·exact .inr (.inr ⟨xs,s _ _ e h1 h2⟩)
 | _=>exact h
structure AA (p w:Addr) (t:Nat) (H:Hp) (xs:List V):Prop where
 LB:sy H p w t
 all:∀ x∈xs,CF p w H x
section
variable {p w:Addr} {t u:Nat} {xs ys:List V}
theorem AA.sm (g:AA p w t H xs) (hp:sy H' p w u) (s:Sm p w H H'):AA p w u H' xs:=⟨hp,fun x hx=>(g.all x hx).sm s⟩
theorem AA.upd {q:Addr} {o:HO} (g:AA p w t H xs) (h:H q=none):AA p w t (upd H q o) xs:=g.sm (g.LB.same (aa.upd h o)) (aa.upd h o).sm
end
theorem dS {r:List V->Hp->VK->Prop} (hc:je X (.type T) r) (hg:Gl X x) (hm:X.mg x=none) (hv:bootBuiltins x=some (.type T)) (ha:SA X (e::es) t) (hn:x≠"__name__":=by decide) (fg:(x==("__debug__":Str))=false:=by decide)
  (he:starEach (e::es) X.env=(false,eval e X.env)::starEach es X.env:=by rfl) (hpl:(backTo pos (starEach es X.env)).any (·.1)=false:=by rfl):SE X (.Call (.Name x p) (e::es) [] pos) (Bl r t):=⟨sJ hc hg hm hv ha.h hn fg he hpl⟩
def GZ (K:QZ):List V->Hp->VK->Prop:=fun xs H Q=>∃ p ys,xs=[.ref p]/\((ao K H p ys/\∀ l,H l=none->Q (.ref l) (upd H l (.tup ys)))\/(ae K H p ys/\Q (.ref p) H))
def LC (K:QZ):List V->Hp->VK->Prop:=fun xs H Q=>∃ p ys,xs=[.ref p]/\(ao K H p ys\/ae K H p ys)/\∀ l,H l=none->Q (.ref l) (upd H l (.lst ys))
theorem fM (K:QZ) (h:X.K=K:=by rfl):je X (.type "tuple") (GZ K):=by subst h;exact kR
theorem l6 (K:QZ) (h:X.K=K:=by rfl):je X (.type "list") (LC K):=by subst h;exact lQ
mutual
inductive qc (H:Hp):V->PyData->Prop
 | af:qc H .af .none
 | bl (b:Bool):qc H (.bl b) (.bool b)
 | int (i:Int):qc H (.int i) (.int i)
 | str (z:Str):qc H (.str z) (.str z)
 | tup {a:Addr} {xs:List V} {ds:List PyData}:H a=some (.tup xs)->qd H xs ds->qc H (.ref a) (.tuple ds)
 | lst {a:Addr} {xs:List V} {ds:List PyData}:H a=some (.lst xs)->qd H xs ds->qc H (.ref a) (.list ds)
inductive qd (H:Hp):List V->List PyData->Prop
 | nil:qd H [] []
 | cons {x:V} {d:PyData} {xs:List V} {ds:List PyData}:qc H x d->qd H xs ds->qd H (x::xs) (d::ds)
end
mutual
theorem qc.same {H H':Hp} (s:aa H H'):∀ {x:V} {d:PyData},qc H x d->qc H' x d
 | _,_,.af=>.af
 | _,_,.bl b=>.bl b
 | _,_,.int i=>.int i
 | _,_,.str z=>.str z
 | _,_,.tup e r=>.tup (s _ _ e) (qd.same s r)
 | _,_,.lst e r=>.lst (s _ _ e) (qd.same s r)
theorem qd.same {H H':Hp} (s:aa H H'):∀ {xs:List V} {ds:List PyData},qd H xs ds->qd H' xs ds
 | _,_,.nil=>.nil
 | _,_,.cons a r=>.cons (qc.same s a) (qd.same s r)
end
mutual
theorem uZ {P:Program} {w:World} {H:Hp} {h:Heap} (ok:cf P w H h):∀ {x:V} {d:PyData} {u:Value},qc H x d->RelV x u->∃ as,Reads h u d as
 | _,_,_,.af,r=>by cases (show _=Value.none from r);exact ⟨[],.none⟩
 | _,_,_,.bl b,r=>by cases (show _=Value.bool b from r);exact ⟨[],.bool b⟩
 | _,_,_,.int i,r=>by obtain ⟨t,rfl⟩:=(show ∃ t,_=Value.int i t from r);exact ⟨[],.int i t⟩
 | _,_,_,.str z,r=>by obtain ⟨t,rfl⟩:=(show ∃ t,_=Value.str z t from r);exact ⟨[],.str z t⟩
 | _,_,_,.tup (a:=a) (xs:=xs) e l,r=>by
  cases (show _=Value.ref a from r)
  obtain ⟨_,its,rv,o,ho,hc,n,hd⟩:=(show bz P w H h a (.tup xs) from ok a _ e)
  obtain ⟨as,ra⟩:=eO ok l rv
  exact ⟨as,.tuple ho hc hd (by simpa using ra)⟩
 | _,_,_,.lst (a:=a) (xs:=xs) e l,r=>by
  cases (show _=Value.ref a from r)
  obtain ⟨_,its,n,rv,ho⟩:=(show bz P w H h a (.lst xs) from ok a _ e)
  obtain ⟨as,ra⟩:=eO ok l rv
  exact ⟨a::as,.list ho rfl rfl (by simpa using ra)⟩
theorem eO {P:Program} {w:World} {H:Hp} {h:Heap} (ok:cf P w H h):∀ {xs:List V} {ds:List PyData} {us:List Value},qd H xs ds->a_ xs us->∃ as,ReadsAll h us ds as
 | _,_,_,.nil,.nil=>⟨[],.nil⟩
 | _,_,_,.cons a l,.cons r rs=>by
  obtain ⟨as,ra⟩:=uZ ok a r
  obtain ⟨bs,rb⟩:=eO ok l rs
  exact ⟨as++bs,.cons ra rb⟩
end
def CG (n:Bool):R2:=fun x y H Q=>match x,y with
 | .bl a,.bl b=>Q (.bl (n^^(a==b))) H
 | x,.af=>Q (.bl (n^^decide (x=.af))) H
 | _,_=>False
theorem jU:bw X (compareOp .Is) (CG false):=by
 intro pins s σ H x y v u Q I rx ry h
 cases y with
 | af=>exact zD pins s σ H _ _ v u Q I rx ry ⟨rfl,by cases x<;>simpa [CG] using h⟩
 | bl b=>
  cases x with
  | bl a=>
   cases rx;cases ry
   exact is_bool (bB I h (by cases a<;>cases b<;>rfl))
  | _=>exact (show False from h).elim
 | _=>cases x<;>exact (show False from h).elim
theorem qO:bw X (compareOp .IsNot) (CG true):=by
 intro pins s σ H x y v u Q I rx ry h
 cases y with
 | af=>exact vV pins s σ H _ _ v u Q I rx ry ⟨rfl,by cases x<;>simpa [CG] using h⟩
 | bl b=>
  cases x with
  | bl a=>
   cases rx;cases ry
   exact isnot_bool (bB I h (by cases a<;>cases b<;>rfl))
  | _=>exact (show False from h).elim
 | _=>cases x<;>exact (show False from h).elim
abbrev G0:Str:="abcdefghijklmnopqrstuvwxyz"
abbrev LD:List Str:=["all","none","way","box","pick"]
def LF (c:Nat):Bool:= !(Builtin.Str.occurrences G0 ⟨#[c]⟩ 0 G0.length 1).isEmpty
def isName (z:Str):Bool:=decide (1<=z.length)&&decide (z.length<=8)&& !(LD.any fun y=>y==z)&&z.cps.toList.all LF
theorem aa.put {p:Addr} (s:aa H0 H') (h:H0 p=none):aa H0 (L2.upd H' p o):=fun b u q=>by rw [aM (aY q h)];exact s b u q
theorem aK {u:TS} {D:Ends} (h:te σ H fun x H1=>u D (σ.set i (some x)) H1):wj (o_ te (ia i)) u D σ H:=h
theorem dP {v:V} {u:TS} {D:Ends} (h:u D (σ.set i (some v)) H):wj (o_ (tC v) (ia i)) u D σ H:=h
theorem aG {t u:TS} {D:Ends} {rt:VK} {bk ct:St->Hp->Prop} (h:wj t u D σ H):Cb {nx:=wj t u D,rt:=rt,bk:=bk,ct:=ct} σ H:=h
theorem Inv.D9 {T:Addr} (I:Inv X pins σ H s) (hf:∀ b∈ch,lq X pins H b) (k:∀ b o,b ∉ ch->s.heap.get? b=some o->h'.get? b=some o)
  (hT:s.heap.objs.size<=T) (new:bz X.prog X.w (upd H T o) h' T o):Inv X pins σ (upd H T o) {s with heap:=h',toks:=t'}:=by
 have jv:H T=none:=I.hok.fresh hT
 have nT:∀ b ob,s.heap.get? b=some ob->b≠T:=fun b ob e=>Nat.ne_of_lt (Nat.lt_of_lt_of_le (Qz e) hT)
 have qp:∀ b u,H b=some u->b ∉ ch:=fun b u e hb=>by rw [(hf b hb).1] at e;cases e
 refine I.step (g':=s.gens) (d':=s.drawn) (ch:=ch) (fun b hb=>?_) (fun b o _ _ hc e _=>k b o hc e) (fun b o _ _ hc e _=>⟨o.slots,k b o hc e⟩) (fun b o hc e n=>by rw [aM (nT b o e)];exact n)
  (fun b o hc e=>⟨o,k b o hc e⟩) (fun b xs e=>by rw [aM (aY e jv)];exact e) (fun b o u e=>by rw [aM (aY e jv)];exact e) (fun b ps e=>⟨#[],by rw [aM (aY e jv),e];simp⟩) (fun m hm=>?_) (fun b u e=>?_) I.bare
 ·obtain ⟨f0,f1,f2,f3,f4,f5⟩:=hf b hb
  exact ⟨f3,f1,f4,f5⟩
 ·obtain ⟨o,es,ep,ho,r⟩:=hm
  exact ⟨o,es,ep,k _ o (fun z=>(hf _ z).2.1 rfl) ho,r⟩
 ·by_cases hb:b=T
  ·subst hb
   rw [aA] at e;cases e
   exact new
  ·rw [aM hb] at e
   refine (I.hok b u e).stay (fun c v hc q=>k c v ?_ q) (fun c q=>by rw [aM (aY q jv)];exact q) fun c xs q=>q.upd fun u' hu=>aY hu jv
   rcases hc with z | z
   ·rw [z];exact qp b u e
   ·exact qp c _ z
theorem Inv.D_ (I:Inv X pins σ H s) (hf:∀ b∈ch,lq X pins H b) (k:∀ b o,b ∉ ch->s.heap.get? b=some o->h'.get? b=some o):Inv X pins σ H {s with heap:=h',toks:=t'}:=by
 have qp:∀ b u,H b=some u->b ∉ ch:=fun b u e hb=>by rw [(hf b hb).1] at e;cases e
 refine I.step (g':=s.gens) (d':=s.drawn) (ch:=ch) (fun b hb=>?_) (fun b o _ _ hc e _=>k b o hc e) (fun b o _ _ hc e _=>⟨o.slots,k b o hc e⟩) (fun b o hc e n=>n)
  (fun b o hc e=>⟨o,k b o hc e⟩) (fun b xs e=>e) (fun b o u e=>e) (fun b ps e=>⟨#[],by rw [e];simp⟩) (fun m hm=>?_) (fun b u e=>?_) I.bare
 ·obtain ⟨f0,f1,f2,f3,f4,f5⟩:=hf b hb
  exact ⟨f3,f1,f4,f5⟩
 ·obtain ⟨o,es,ep,ho,r⟩:=hm
  exact ⟨o,es,ep,k _ o (fun z=>(hf _ z).2.1 rfl) ho,r⟩
 ·refine (I.hok b u e).stay (fun c v hc q=>k c v ?_ q) (fun c q=>q) fun c xs q=>q
  rcases hc with z | z
  ·rw [z];exact qp b u e
  ·exact qp c _ z
abbrev zd (v1 v2:V):Hp->V->Hp->Prop:=fun H x H'=>∃ T,x=.ref T/\H T=none/\H'=upd H T (.tup [v1,v2])
def Ea (K:QZ) (a:Addr):It:=
 ⟨fun i H=>∃ xs x,ao K H a xs/\xs[i]? =some x,fun i H x H'=>∃ v,(∀ xs,ao K H a xs->xs[i]? =some v)/\zd (.int i) v H x H',fun i H=>∃ xs,ao K H a xs/\xs.length<=i⟩
theorem lY {T:Addr} {v1 v2:V} {u1 u2:Value} (r1:RelV v1 u1) (r2:RelV v2 u2) (e:h.get? T=some {cls:=.type "tuple",data:=.seq #[u1,u2]}):bz P w H h T (.tup [v1,v2]):=
 ⟨⟨show 2<=sizeLine by decide,fun o q=>by rw [e] at q;cases q;rfl⟩,[u1,u2],.cons r1 (.cons r2 .nil),_,e,rfl,_,rfl⟩
theorem qT {K:QZ} {k:Nat} (a e it:Addr) (hei:e≠it):Turn P w K (.Tuple v_ k pos) (Ea K a) [e,it] e (fun i h=>(∃ old,IsEnum h e it i old)/\h.IsListIter it a i) where
 mem:=by simp
 obj:=fun i h st b hb=>by
  obtain ⟨⟨old,he⟩,o,ho,c,d⟩:=st
  simp only [Qp,QA,or_false] at hb
  rcases hb with rfl | rfl
  ·exact ⟨_,he,fun v z=>by
    have z':Data.fields _=Data.cell v:=z
    cases z'⟩
  ·exact ⟨o,ho,fun v z=>by rw [d] at z;cases z⟩
 keep:=fun i h h' st k=>by
  obtain ⟨⟨old,he⟩,hi⟩:=st
  exact ⟨⟨old,k e (by simp) _ he⟩,hi.at fun o x=>k it (by simp) o x⟩
 item:=by
  intro X hP hw hK hc i pins s σ H E I hf st hg
  subst hP hw hK
  obtain ⟨⟨old,he⟩,hit⟩:=st
  obtain ⟨xs,x,hq,hx⟩:=hg
  obtain ⟨its,rv,p,hz⟩:=I.list hq
  obtain ⟨u,hu,ru⟩:=rv.get hx
  refine wpAny_pyNext_enum_item he hit p.isList (x:=u) (by simpa using hu) hei fun h' ho LG hT hsz hk=>?_
  have I1:Inv X pins σ (upd H s.heap.objs.size (.tup [.int i,x])) {s with heap:=h',toks:=s.toks+1}:=I.D9 hf (fun b o hb e=>hk b o (fun z=>hb (by simp [z])) (fun z=>hb (by simp [z])) e) (Qy _) (lY ⟨_,rfl⟩ ru hT)
  refine ⟨_,rfl,wpAny_letOwnedTupleGo_enum (s:={s with heap:=h',toks:=s.toks+1}) ho fun ze LH sb=>?_⟩
  have b_:∀ b∈[e,it],b≠s.heap.objs.size:=fun b hb z=>by
   simp only [Qp,QA,or_false] at hb
   rcases hb with rfl | rfl
   ·exact Nat.ne_of_lt (Qz he) z
   ·obtain ⟨_,q,_⟩:=hit;exact Nat.ne_of_lt (Qz q) z
  have xf:∀ b∈[e,it],lq X pins (upd H s.heap.objs.size (.tup [.int i,x])) b:=fun b hb=>by
   obtain ⟨f0,f⟩:=hf b hb
   exact ⟨by rw [aM (b_ b hb)];exact f0,f⟩
  obtain ⟨f0,f1,f2,f3,f4,f5⟩:=xf e (by simp)
  refine ⟨.ref s.heap.objs.size,_,I1.turned (t':=s.toks+1) (fun b o hb q=>(sb.2 b hb).trans q) f0 f1 f3 f4 f5,rfl,⟨x,fun ys hy=>by rw [I.Bc hy hq];exact hx,_,rfl,I.hok.fresh (Qy _),rfl⟩,⟨⟨u,by simpa using LH⟩,LG.at fun o q=>(sb.2 it hei.symm).trans q⟩,fun b hb=>(xf b hb).1⟩
 done:=by
  intro X hP hw hK hc i pins s σ H E I hf st hg
  subst hP hw hK
  obtain ⟨⟨old,he⟩,hit⟩:=st
  obtain ⟨xs,hq,hx⟩:=hg
  obtain ⟨its,rv,p,hz⟩:=I.list hq
  have hl:=rv.length
  exact wpAny_pyNext_enum_end (I.ok.hd hc) he hit p.isList (by simp;omega) fun h' eb=>⟨rfl,I.D_ (t':=s.toks) hf fun b o hb q=>eb b o (fun z=>hb (by simp [z])) q⟩
 self:=fun _ _ _ _ _ st h=>let ⟨⟨_,he⟩,_⟩:=st;wpAny_pyIter_enum he h
theorem iL {l m:Nat} (h1:l < n) (h2:m < n):ZipApart (n+4) (n+2) (n+3) n (n+1) l m:=by
 constructor<;>(show (_:Nat)≠_)<;>omega
def Eb (K : QZ) (a b : Addr) : It :=
  ⟨fun i H => ∃ xs ys x y, ao K H a xs /\ ao K H b ys /\ xs[i]? = some x /\ ys[i]? = some y, fun i H x H' => ∃ v1 v2, (∀ xs, ao K H a xs -> xs[i]? = some v1) /\ (∀ ys, ao K H b ys -> ys[i]? = some v2) /\ zd v1 v2 H x H',
   fun i H => ∃ xs ys, ao K H a xs /\ ao K H b ys /\ (xs.length <= i \/ ys.length <= i)⟩
abbrev LI (z TI TO i1 i2 a b:Addr) (i:Nat) (h:Heap):Prop:=IsZip h z TI TO .none/\IsPair h TI (.ref i1) (.ref i2)/\(∃ u v,IsPair h TO u v)/\h.IsListIter i1 a i/\h.IsListIter i2 b i
theorem u3 {K:QZ} {k:Nat} (z TI TO i1 i2 a b:Addr) (D:ZipApart z TI TO i1 i2 a b):Turn P w K (.Tuple v_ k pos) (Eb K a b) [z,TI,TO,i1,i2] z (LI z TI TO i1 i2 a b) where
 mem:=by simp
 obj:=fun i h st c hc=>by
  obtain ⟨hz,gh,⟨u,v,h_⟩,⟨o1,e1,c1,d1⟩,o2,e2,c2,d2⟩:=st
  simp only [Qp,QA,or_false] at hc
  rcases hc with rfl | rfl | rfl | rfl | rfl
  ·exact ⟨_,hz,fun v z=>by have z':Data.fields _=Data.cell v:=z;cases z'⟩
  ·exact ⟨_,gh,fun v z=>by have z':Data.seq _ _=Data.cell v:=z;cases z'⟩
  ·exact ⟨_,h_,fun v z=>by have z':Data.seq _ _=Data.cell v:=z;cases z'⟩
  ·exact ⟨_,e1,fun v z=>by rw [d1] at z;cases z⟩
  ·exact ⟨_,e2,fun v z=>by rw [d2] at z;cases z⟩
 keep:=fun i h h' st k=>by
  obtain ⟨hz,gh,⟨u,v,h_⟩,h1,h2⟩:=st
  exact ⟨k z (by simp) _ hz,k TI (by simp) _ gh,⟨u,v,k TO (by simp) _ h_⟩,h1.at fun o x=>k i1 (by simp) o x,h2.at fun o x=>k i2 (by simp) o x⟩
 item:=by
  intro X hP hw hK hc i pins s σ H E I hf st hg
  subst hP hw hK
  obtain ⟨hz,gh,⟨u0,v0,h_⟩,h1,h2⟩:=st
  obtain ⟨xs,ys,x,y,nc,ki,hx,hy⟩:=hg
  obtain ⟨its,rv,p,Az⟩:=I.list nc
  obtain ⟨its2,vd,p2,G1⟩:=I.list ki
  obtain ⟨u,hu,ru⟩:=rv.get hx
  obtain ⟨u2,Ec,Ed⟩:=vd.get hy
  refine wpAny_pyNext_zip_item D hz gh h_ h1 h2 p.isList p2.isList (x:=u) (y:=u2) (by simpa using hu) (by simpa using Ec) fun h' a1 a2 a3 a4 a5 a6 hk=>?_
  have I1:Inv X pins σ (upd H s.heap.objs.size (.tup [x,y])) {s with heap:=h',toks:=s.toks}:=I.D9 (t':=s.toks) hf (fun b o hb e=>hk b o (fun z=>hb (by simp [z])) (fun z=>hb (by simp [z])) (fun z=>hb (by simp [z])) (fun z=>hb (by simp [z])) e) (Qy _) (lY ru Ed a5)
  refine ⟨_,rfl,wpAny_letOwnedTupleGo_zip (s:={s with heap:=h'}) a1 fun ze Ef sb=>?_⟩
  have b_:∀ b∈[z,TI,TO,i1,i2],b≠s.heap.objs.size:=fun c hc z'=>by
   simp only [Qp,QA,or_false] at hc
   obtain ⟨o1,e1,_⟩:=h1
   obtain ⟨o2,e2,_⟩:=h2
   rcases hc with rfl | rfl | rfl | rfl | rfl
   ·exact Nat.ne_of_lt (Qz hz) z'
   ·exact Nat.ne_of_lt (Qz gh) z'
   ·exact Nat.ne_of_lt (Qz h_) z'
   ·exact Nat.ne_of_lt (Qz e1) z'
   ·exact Nat.ne_of_lt (Qz e2) z'
  have xf:∀ b∈[z,TI,TO,i1,i2],lq X pins (upd H s.heap.objs.size (.tup [x,y])) b:=fun b hb=>by
   obtain ⟨f0,f⟩:=hf b hb
   exact ⟨by rw [aM (b_ b hb)];exact f0,f⟩
  obtain ⟨f0,f1,f2,f3,f4,f5⟩:=xf z (by simp)
  refine ⟨.ref s.heap.objs.size,_,I1.turned (t':=s.toks) (fun b o hb q=>(sb.2 b hb).trans q) f0 f1 f3 f4 f5,rfl,⟨x,y,fun ys hy=>by rw [I.Bc hy nc];exact hx,fun ys Bo=>by rw [I.Bc Bo ki];exact hy,_,rfl,I.hok.fresh (Qy _),rfl⟩,?_,fun b hb=>(xf b hb).1⟩
  refine ⟨Ef,(sb.2 _ D.TIz).trans (hk _ _ D.TIz D.TITO D.TIi1 D.TIi2 gh),⟨_,_,(sb.2 _ D.TOz).trans a2⟩,a3.at fun o q=>(sb.2 _ D.i1z).trans q,a4.at fun o q=>(sb.2 _ D.i2z).trans q⟩
 done:=by
  intro X hP hw hK hc i pins s σ H E I hf st hg
  subst hP hw hK
  obtain ⟨hz,gh,⟨u0,v0,h_⟩,h1,h2⟩:=st
  obtain ⟨xs,ys,nc,ki,hx⟩:=hg
  obtain ⟨its,rv,p,Az⟩:=I.list nc
  obtain ⟨its2,vd,p2,G1⟩:=I.list ki
  have hl:=rv.length
  have g_:=vd.length
  refine wpAny_pyNext_zip_end (I.ok.hd hc) D hz gh h_ h1 h2 p.isList p2.isList ?_ fun h' hk=>⟨rfl,I.D_ (t':=s.toks) hf fun b o hb q=>hk b o (fun z=>hb (by simp [z])) (fun z=>hb (by simp [z])) (fun z=>hb (by simp [z])) (fun z=>hb (by simp [z])) q⟩
  rcases hx with hx | hx
  ·exact .inl (by simp;omega)
  ·exact .inr (by simp;omega)
 self:=fun _ _ _ _ _ st h=>wpAny_pyIter_zip st.1 h
section
variable {k:Nat} {sd:Pos} {a b:Expr}
def G2 (K:QZ) (ta:TA):TI:=fun σ H R=>ta σ H fun vs H1=>∃ l xs,vs=[.ref l]/\ao K H1 l xs/\R (Ea K l) H1
theorem wC (hg:Gl X "enumerate") (hm:X.mg "enumerate"=none) (ha:PA X [a] ta) (hs:starEach [a] X.env=[(false,eval a X.env)]:=by rfl):PI X (.Tuple v_ k sd) (.Call (.Name "enumerate" p) [a] [] pos) (G2 X.K ta):=by
 intro pins s σ H R I h
 refine Call_ (eZ I hg hm boot_enumerate (PyProof.Rows.callWith_type1 (av (ha pos pins s σ H _ I h) fun us s1 ⟨vs,H1,I1,r1,q1⟩=>?_) hs rfl))
 obtain ⟨l,xs,e,hq,q⟩:=q1
 subst e
 cases r1 with
 | cons r rr=>
  cases rr
  cases r
  obtain ⟨its,rv,pl,hz⟩:=I1.list hq
  refine call_enumerate_list pl.isList fun h' he hit hsz hk=>wpAny_pyIter_enum he ?_
  have I2:Inv X pins σ H1 {s1 with heap:=h'}:=I1.kept (t':=s1.toks) hk
  refine ⟨s1.heap.objs.size+1,[s1.heap.objs.size+1,s1.heap.objs.size],_,_,H1,rfl,I2,qT l _ _ (Nat.succ_ne_self _),⟨⟨_,he⟩,hit⟩,fun b hb=>?_,q⟩
  simp only [Qp,QA,or_false] at hb
  rcases hb with rfl | rfl
  ·exact I1.wk (Nat.le_succ _) (I1.hok.fresh (Nat.le_succ _))
  ·exact I1.wk (Qy _) (I1.hok.fresh (Qy _))
def G3 (K:QZ) (ta:TA):TI:=fun σ H R=>ta σ H fun vs H1=>∃ l m xs ys,vs=[.ref l,.ref m]/\ao K H1 l xs/\ao K H1 m ys/\R (Eb K l m) H1
theorem y3 (hg:Gl X "zip") (hm:X.mg "zip"=none) (ha:PA X [a,b] ta) (hs:starEach [a,b] X.env=[(false,eval a X.env),(false,eval b X.env)]:=by rfl) (u_:starEach [b] X.env=[(false,eval b X.env)]:=by rfl):
  PI X (.Tuple v_ k sd) (.Call (.Name "zip" p) [a,b] [] pos) (G3 X.K ta):=by
 intro pins s σ H R I h
 refine Call_ (eZ I hg hm boot_zip (PyProof.Rows.callWith_type1 (av (ha pos pins s σ H _ I h) fun us s1 ⟨vs,H1,I1,r1,q1⟩=>?_) (by rw [hs,u_]) (by rw [u_];rfl)))
 obtain ⟨l,m,xs,ys,e,nc,ki,q⟩:=q1
 subst e
 obtain ⟨u1,u2,rfl,Eg,Eh⟩:=r1.two
 cases Eg
 cases Eh
 obtain ⟨its,rv,pl,hz⟩:=I1.list nc
 obtain ⟨its2,vd,Bt,G1⟩:=I1.list ki
 have l1:l < s1.heap.objs.size:=by obtain ⟨_,e,_⟩:=pl.isList;exact Qz e
 have l2:m < s1.heap.objs.size:=by obtain ⟨_,e,_⟩:=Bt.isList;exact Qz e
 refine call_zip_2 pl.isList Bt.isList fun h' hz gh h_ h1 h2 hsz hk=>wpAny_pyIter_zip hz ?_
 have I2:Inv X pins σ H1 {s1 with heap:=h'}:=I1.kept (t':=s1.toks) hk
 have ne:∀ {x y:Nat},x < y->x≠y:=fun h=>Nat.ne_of_lt h
 have ne':∀ {x y:Nat},y < x->x≠y:=fun h=>Nat.ne_of_gt h
 refine ⟨s1.heap.objs.size+4,[s1.heap.objs.size+4,s1.heap.objs.size+2,s1.heap.objs.size+3,s1.heap.objs.size,s1.heap.objs.size+1],_,_,H1,rfl,I2,u3 _ _ _ _ _ l m ?_,⟨hz,gh,⟨_,_,h_⟩,h1,h2⟩,fun b hb=>?_,q⟩
 ·exact iL l1 l2
 ·simp only [Qp,QA,or_false] at hb
  rcases hb with rfl | rfl | rfl | rfl | rfl<;>exact I1.wk (by simp) (I1.hok.fresh (by simp))
theorem tD (K:QZ) (hg:Gl X "enumerate") (hm:X.mg "enumerate"=none) (ha:SA X [a] ta) (h:X.K=K:=by rfl) (hs:starEach [a] X.env=[(false,eval a X.env)]:=by rfl):SI X (.Tuple v_ k sd) (.Call (.Name "enumerate" p) [a] [] pos) (G2 K ta):=by subst h;exact ⟨wC hg hm ha.h hs⟩
theorem vZ (K:QZ) (hg:Gl X "zip") (hm:X.mg "zip"=none) (ha:SA X [a,b] ta) (h:X.K=K:=by rfl) (hs:starEach [a,b] X.env=[(false,eval a X.env),(false,eval b X.env)]:=by rfl) (u_:starEach [b] X.env=[(false,eval b X.env)]:=by rfl):
  SI X (.Tuple v_ k sd) (.Call (.Name "zip" p) [a,b] [] pos) (G3 K ta):=by subst h;exact ⟨y3 hg hm ha.h hs u_⟩
end
def Bu (J:It) (ok:Hp->Prop) (n:Nat) (f1 f2:Nat->V):Prop:=
 ∀ H,ok H->(∀ i,i < n->J.go i H/\∀ x H',J.lj i H x H'->zd (f1 i) (f2 i) H x H')/\J.stop n H
theorem uA {K:QZ} (xs:List V):Bu (Ea K a) (fun H=>ao K H a xs) xs.length (fun i=>.int i) (fun i=>xs.getD i .af):=fun H ok=>
 ⟨fun i hi=>⟨⟨xs,xs[i],ok,by simp [hi]⟩,fun x H' ⟨v,hv,y⟩=>by
  have:=hv xs ok
  have e:xs.getD i V.af=v:=by rw [Qb,this];rfl
  show zd (.int i) (xs.getD i .af) H x H'
  rw [e];exact y⟩,⟨xs,ok,Qy _⟩⟩
theorem vK {K:QZ} (xs ys:List V):Bu (Eb K a b) (fun H=>ao K H a xs/\ao K H b ys) (min xs.length ys.length) (fun i=>xs.getD i .af) (fun i=>ys.getD i .af):=fun H ok=>
 ⟨fun i hi=>⟨⟨xs,ys,xs[i]'(by omega),ys[i]'(by omega),ok.1,ok.2,by simp,by simp⟩,fun x H' ⟨v1,v2,Ei,Ej,y⟩=>by
  have e1:xs.getD i V.af=v1:=by rw [Qb,Ei xs ok.1];rfl
  have e2:ys.getD i V.af=v2:=by rw [Qb,Ej ys ok.2];rfl
  show zd (xs.getD i .af) (ys.getD i .af) H x H'
  rw [e1,e2];exact y⟩,⟨xs,ys,ok.1,ok.2,by omega⟩⟩
abbrev g2 (K:QZ) (a b:Nat):TG:=Be K 2 (ym (ia a) (ym (ia b) Ce))
theorem jO {K:QZ} {a b:Nat} {T:Addr} {v1 v2:V} {Q:St->Hp->Prop} (h:H T=some (.tup [v1,v2])) (q:Q ((σ.set a (some v1)).set b (some v2)) H):g2 K a b (.ref T) σ H Q:=
 ⟨T,_,rfl,ae.of h,rfl,_,_,rfl,_,_,rfl,rfl,q⟩
theorem jR {K:QZ} {J:It} {ok:Hp->Prop} {f1 f2:Nat->V} {a b:Nat} {tb:TS} {D:Ends} (hJ:Bu J ok n f1 f2) (Pv:Nat->St->Hp->Prop) (h0:Pv 0 σ H) (hok:∀ i τ H,i<=n->Pv i τ H->ok H)
  (hs:∀ i σ H T,i < n->Pv i σ H->H T=none->tb {D with nx:=Pv (i+1),ct:=Pv (i+1),bk:=D.nx} ((σ.set a (some (f1 i))).set b (some (f2 i))) (upd H T (.tup [f1 i,f2 i]))) (hd:∀ σ H,Pv n σ H->D.nx σ H):
  ∃ W:Nat->Nat->St->Hp->Prop,(∃ m,W 0 m σ H)/\∀ i m σ H,W i m σ H->
   (J.stop i H/\D.nx σ H)\/(J.go i H/\∃ N:St->Hp->Prop,(∀ σ' H',N σ' H'->∃ m',m' < m/\W (i+1) m' σ' H')/\∀ x H',J.lj i H x H'->g2 K a b x σ H' fun σ2 H2=>tb {D with nx:=N,ct:=N,bk:=D.nx} σ2 H2):=by
 refine ⟨fun i m σ H=>m=n - i/\i<=n/\Pv i σ H,⟨n,by simp,Nat.zero_le _,h0⟩,?_⟩
 rintro i m σ H ⟨rfl,hi,p⟩
 obtain ⟨k1,k2⟩:=hJ H (hok i σ H hi p)
 by_cases b_:i < n
 ·refine .inr ⟨(k1 i b_).1,Pv (i+1),fun σ' H' p'=>⟨n - (i+1),by omega,rfl,b_,p'⟩,fun x H' y=>?_⟩
  obtain ⟨T,rfl,hT,rfl⟩:=(k1 i b_).2 x H' y
  exact jO aA (hs i σ _ T b_ p hT)
 ·have e:i=n:=by omega
  subst e
  exact .inl ⟨k2,hd σ H p⟩
theorem pX {K:QZ} {J:It} {ok:Hp->Prop} {f1 f2:Nat->V} {a b:Nat} {tc:TC} {τ0:St} {D:Addr} {Q:Hp->Prop} (hJ:Bu J ok n f1 f2) (Pv:Nat->St->Hp->Prop) (h0:Pv 0 τ0 H0)
  (hok:∀ i τ H,i<=n->Pv i τ H->ok H)
  (hs:∀ i τ H T,i < n->Pv i τ H->H T=none->tc ((τ.set a (some (f1 i))).set b (some (f2 i))) (upd H T (.tup [f1 i,f2 i])) fun c H3=>if c=true then te ((τ.set a (some (f1 i))).set b (some (f2 i))) H3 fun y H4=>∃ xs,H4 D=some (.lst xs)/\xs.length < sizeLine/\Pv (i+1) ((τ.set a (some (f1 i))).set b (some (f2 i))) (upd H4 D (.lst (xs++[y]))) else Pv (i+1) ((τ.set a (some (f1 i))).set b (some (f2 i))) H3)
  (hd:∀ τ H,Pv n τ H->Q H):∃ W:Nat->Nat->St->Hp->Prop,(∃ m,W 0 m τ0 H0)/\∀ i m τ H,W i m τ H->
   (J.stop i H/\Q H)\/(J.go i H/\∃ N:St->Hp->Prop,(∀ τ' H',N τ' H'->∃ m',m' < m/\W (i+1) m' τ' H')/\∀ x H',J.lj i H x H'->g2 K a b x τ H' fun τ2 H2=>tc τ2 H2 fun b H3=>
    if b=true then te τ2 H3 fun y H4=>∃ xs,H4 D=some (.lst xs)/\xs.length < sizeLine/\N τ2 (upd H4 D (.lst (xs++[y]))) else N τ2 H3):=by
 refine ⟨fun i m τ H=>m=n - i/\i<=n/\Pv i τ H,⟨n,by simp,Nat.zero_le _,h0⟩,?_⟩
 rintro i m τ H ⟨rfl,hi,p⟩
 obtain ⟨k1,k2⟩:=hJ H (hok i τ H hi p)
 by_cases b_:i < n
 ·refine .inr ⟨(k1 i b_).1,Pv (i+1),fun σ' H' p'=>⟨n - (i+1),by omega,rfl,b_,p'⟩,fun x H' y=>?_⟩
  obtain ⟨T,rfl,hT,rfl⟩:=(k1 i b_).2 x H' y
  exact jO aA (hs i τ _ T b_ p hT)
 ·have e:i=n:=by omega
  subst e
  exact .inl ⟨k2,hd τ H p⟩
end L2
namespace PySem
end PySem
namespace PySem.F
end PySem.F
namespace L2
open PySem PySem.Spec PyProof.Rows
def LJ (H:Hp) (ys:List V) (rs:List (be×V)):Prop:=ys.length=rs.length/\∀ i (h:i < rs.length),∃ b,ys[i]? =some (.ref b)/\H b=some (.tup [kV rs[i].1,rs[i].2])
def dictOf (rs:List (be×V)):List (be×V):=rs.foldl (fun kvs r=>putK kvs r.1 r.2) []
def Tk (H H':Hp):Prop:=∀ b xs,H b=some (.tup xs)->H' b=some (.tup xs)
theorem Tk.refl:Tk H H:=fun _ _ h=>h
theorem Tk.trans {H1 H2:Hp} (a:Tk H H1) (b:Tk H1 H2):Tk H H2:=fun c xs h=>b c xs (a c xs h)
theorem aa.ts (s:aa H H'):Tk H H':=fun b xs h=>s b _ h
theorem Tk.upd {H H':Hp} {a:Addr} {o:HO} (s:Tk H H') (h:H' a=none):Tk H (L2.upd H' a o):=fun b xs e=>by rw [aM (aY (s b xs e) h)];exact s b xs e
theorem Tk.set {o':HO} (s:Tk H H') (h:H' a=some o) (hn:∀ xs,o≠.tup xs):Tk H (L2.upd H' a o'):=fun b xs e=>by
 rw [aM (fun z=>by rw [z] at e;have:=s a xs e;rw [h] at this;cases this;exact hn _ rfl)];exact s b xs e
def Wd (z:Str):Prop:=z.length<=20/\∀ c∈z.cps.toList,c < 128
theorem oF (rs:List (be×V)):(rs.map (·.1)).Nodup->∀ i (h:i < rs.length),dm (dictOf rs) rs[i].1=some rs[i].2:=by
 have gen:∀ (rs:List (be×V)) (kvs:List (be×V)),(rs.map (·.1)).Nodup->∀ k,dm (rs.foldl (fun kvs r=>putK kvs r.1 r.2) kvs) k=((rs.find? fun r=>decide (r.1=k)).map (·.2)).or (dm kvs k):=by
  intro rs
  induction rs with
  | nil=>intro kvs _ k;simp
  | cons r rs ih=>
   intro kvs hn k
   rw [List.map_cons,List.nodup_cons] at hn
   rw [List.foldl_cons,ih _ hn.2,v6]
   by_cases e:r.1=k
   ·have:rs.find? (fun r=>decide (r.1=k))=none:=by
     rw [List.find?_eq_none]
     intro x hx z
     have z':=Qt z
     exact hn.1 (List.mem_map.mpr ⟨x,hx,by rw [z',e]⟩)
    rw [this,List.find?_cons,if_pos e.symm]
    simp [e]
   ·rw [if_neg (fun z=>e z.symm),List.find?_cons]
    simp [e]
 intro hn i h
 unfold dictOf
 rw [gen rs [] hn]
 have:rs.find? (fun r=>decide (r.1=rs[i].1))=some rs[i]:=by
  rw [List.find?_eq_some_iff_getElem]
  refine ⟨by simp,i,h,rfl,fun j hj=>?_⟩
  have kj:(rs.map (·.1))[j]'(by simp;omega)≠(rs.map (·.1))[i]'(by simpa using h):=fun z=>by
   exact (List.pairwise_iff_getElem.mp hn j i (by simp;omega) (by simpa using h) hj) z
  simpa using kj
 rw [this];rfl
abbrev xg (rs:List (Str×V)):List (be×V):=rs.map fun r=>(Sum.inr r.1,r.2)
def G4 (H:Hp) (v:V) (o:Option Str):Prop:=∃ b,v=.ref b/\((∃ s ys,H b=some (.tup (.str s::ys))/\s≠"as"/\o=none)\/∃ x,H b=some (.tup [.str "as",.str x])/\o=some x)
section
variable {xs:List V} {rs:List (Str×V)} {nx:Str->Option Str} {ρ:Str->Nat}
theorem nE (h:(rs.map (·.1)).Nodup):((xg rs).map (·.1)).Nodup:=by
 have e:(xg rs).map (·.1)=(rs.map (·.1)).map (Sum.inr:Str->be):=by simp [xg,List.map_map,Function.comp_def]
 rw [e]
 exact List.Pairwise.map _ (fun a b qy z=>qy (Sum.inr.inj z)) h
def LK (nx:Str->Option Str) (x:Str):Str:=(nx x).getD x
def G5 (nx:Str->Option Str):Nat->Str->Str
 | 0,x=>x
 | n+1,x=>G5 nx n (LK nx x)
def LL (nx:Str->Option Str) (n:Nat) (x:Str):Str:=G5 nx n x
end
theorem tR (xs:List V) (k:Nat):e_ xs (some (k:Int)) none=xs.drop k:=by
 unfold e_
 rw [HT.i0,HT.uE]
 by_cases h:k<=xs.length
 ·rw [Nat.min_eq_left h]
  exact List.take_of_length_le (by simp)
 ·rw [Nat.min_eq_right (by omega)]
  simp [List.drop_eq_nil_of_le (show xs.length<=k by omega)]
section
variable {β:Type} {R:α->β->Prop}
end
section
variable {xs:List V} {rs:List (Str×V)}
end
section
variable {e1 e2:Expr} {k:Nat} {g1 g2:TG}
end
def KD (w:World) (K:QZ) (a:Addr) (kvs:List (be×V)):Prop:=∀ P:Program,∃ (o:Obj) (es:Array DictEntry) (ep:Nat) (vs:List (be×Value)),K.lookup a=some o/\(a==sysModules)=false/\o.ExactDict/\o.data=.dict es ep/\KeysOf (f_ P w) es/\Pairs (f_ P w) es.toList vs/\(vs.map (·.1)).Nodup/\KV kvs vs
section
variable {kvs:List (be×V)}
theorem KD.of (h:KD X.w X.K a kvs) (I:Inv X pins σ H s):(a==sysModules)=false/\∃ vs,KV kvs vs/\s.heap.DictOf (f_ X.prog X.w) a vs:=by
 obtain ⟨o,es,ep,vs,h1,h2,h3,h4,h5,h6,h7,h8⟩:=h X.prog
 exact ⟨h2,vs,h8,o,es,ep,I.cz a o h1,h3,h4,h5,h6,h7⟩
def LM (kvs:List (be×V)) (te:TE):TE:=fun σ H Q=>te σ H fun y H1=>∃ k v,y=kV k/\dm kvs k=some v/\Q v H1
theorem uX {K:QZ} (hx:∃ a,X.mg x=some (.ref a)/\KD w K a kvs) (he:SE X e te) (hs:Cq e) (hw:X.w=w:=by rfl) (hK:X.K=K:=by rfl) (hg:Gl X x:=by rfl) (hd:(x==("__debug__":Str))=false:=by decide):SE X (.Subscript (.Name x p) e pos) (LM kvs te):=by
 subst hw hK
 obtain ⟨a,hm,kd⟩:=hx
 constructor
 intro pins s σ H Q I h
 refine qN PySem.F.slot_dict_getitem.lookup hs (av (qE (v:=.ref a) hg hm rfl hd pins s σ H (fun v H'=>v=.ref a/\H'=H) I ⟨rfl,rfl⟩) fun u s2 ⟨z,H2,I2,rz,ez,eH⟩=>?_)
 subst ez eH
 cases rz
 refine av (he.h pins s2 σ _ _ I2 h) ?_
 rintro iv s3 ⟨y,H3,I3,ry,k,v,ey,ev,q⟩
 subst ey
 obtain ⟨h1,vs,rel,dd⟩:=kd.of I3
 obtain ⟨w',hw,my⟩:=jr.some_of (v:=v) (o:=valueAt vs k) (by rw [<- ev];exact rel.val k)
 exact ⟨dd.typeIs,wpAny_getItem_of (lA ry) dd.mapOf hw ⟨v,_,I3.tok _,my,q⟩⟩
end
theorem KV.len {kvs:List (be×V)} {vs:List (be×Value)} (r:KV kvs vs):kvs.length=vs.length:=Paired.length r
theorem kC (h:H a=some o):upd H a o=H:=by
 funext b
 unfold upd
 by_cases e:b=a
 ·rw [if_pos e,e,h]
 ·rw [if_neg e]
def LN (n:Bool):R2:=fun y x H Q=>∃ a o,x=.ref a/\pq H a y o/\Q (.bl (n^^o.isSome)) H
theorem y8 (hu:X.A.units+1 < cLine):bw X (compareOp .In) (LN false):=by
 intro pins s σ H x y v u Q I rx ry h
 obtain ⟨a,o,rfl,g,q⟩:=h
 cases ry
 exact KH hu I g rx fun s' I'=>⟨.bl o.isSome,H,I',rfl,by simpa using q⟩
section
variable {a b c:Expr}
end
inductive Dt where
 | str (z:Str)
 | tup (ds:List Dt)
 | nj
inductive DD (H:Hp):V->Dt->Prop
 | str {z:Str} (h:z.length<=100000):DD H (.str z) (.str z)
 | tup {a:Addr} {xs:List V} {ds:List Dt}:H a=some (.tup xs)->xs.length=ds.length->xs.length<=1000->(∀ i (h:i < xs.length) (h':i < ds.length),DD H xs[i] ds[i])->DD H (.ref a) (.tup ds)
 | af:DD H .af .nj
 | bl (b:Bool):DD H (.bl b) .nj
 | int (i:Int):DD H (.int i) .nj
 | lst {a:Addr} {xs:List V}:H a=some (.lst xs)->DD H (.ref a) .nj
 | dct {a:Addr} {kvs:List (be×V)}:H a=some (.dK kvs)->DD H (.ref a) .nj
theorem DD.same (s:aa H H') {v:V} {d:Dt} (h:DD H v d):DD H' v d:=by
 induction h with
 | str h=>exact .str h
 | tup e hl hn _ ih=>exact .tup (s _ _ e) hl hn ih
 | af=>exact .af
 | bl b=>exact .bl b
 | int i=>exact .int i
 | lst e=>exact .lst (s _ _ e)
 | dct e=>exact .dct (s _ _ e)
def AB:Dt->Bool | .str z=>isName z | _=>false
def pairD:Dt->Bool | .tup [a,b]=>AB a&&AB b | _=>false
def G6:Dt->Str | .tup (.str z::_)=>z | _=>""
def LO (a b:Str):Bool:=decide (a.cps.toList < b.cps.toList)
def rising:List Str->Bool
 | a::b::r=>LO a b&&rising (b::r)
 | _=>true
def Ek:Dt->Bool | .tup ps=>ps.all pairD&&rising (ps.map G6) | _=>false
def AD (s:Str):Bool:=s=="box"||s=="pick"
def Bv (s:Str):Option Nat:=if s=="all" then some 0 else if s=="none" then some 0 else if s=="way" then some 2 else if s=="as" then some 1 else none
def headD:Dt->Bool
 | .tup (.str s::rest)=>if AD s then (match rest with | [p]=>Ek p | _=>false) else match Bv s with | some n=>decide (rest.length=n)&&rest.all AB | none=>false
 | _=>false
theorem bf.imp {P:Program} {w:World} {K:QZ} {mg:Str->Option Value} {base:Heap} {k:Nat} {x:Str} {ps:List Str} {sp Bj:Sp} (F:bf P w K mg base k x ps sp) (h:∀ vs H Q E,Bj vs H Q E->sp vs H Q E):bf P w K mg base k x ps Bj:=by
 obtain ⟨f,fd,G,r⟩:=F
 exact ⟨f,fd,G.imp h,r⟩
theorem lT (rs:List (be×V)):(rs.map (·.1)).Nodup->dictOf rs=rs:=by
 have gen:∀ (rs kvs:List (be×V)),(rs.map (·.1)).Nodup->(∀ r∈rs,dm kvs r.1=none)->rs.foldl (fun kvs r=>putK kvs r.1 r.2) kvs=kvs++rs:=by
  intro rs
  induction rs with
  | nil=>intro kvs _ _;simp
  | cons r rs ih=>
   intro kvs hn hk
   rw [List.map_cons,List.nodup_cons] at hn
   rw [List.foldl_cons,nM _ (hk r List.mem_cons_self),ih _ hn.2 fun x hx=>?_]
   ·simp
   ·rw [i4 _ _ _ _ (hk r List.mem_cons_self),if_neg (fun e=>hn.1 (List.mem_map.mpr ⟨x,hx,e⟩))]
    exact hk x (Qh _ hx)
 intro hn
 have:=gen rs [] hn (fun _ _=>rfl)
 simpa [dictOf] using this
theorem rL {v:V} {d:Dt} (h:DD H v d) (hn:AB d=true):∃ z,v=.str z/\d=.str z/\isName z=true:=by
 cases h with
 | str _=>exact ⟨_,rfl,rfl,hn⟩
 | tup _ _ _ _=>exact Bool.noConfusion hn
 | af=>exact Bool.noConfusion hn
 | bl _=>exact Bool.noConfusion hn
 | int _=>exact Bool.noConfusion hn
 | lst _=>exact Bool.noConfusion hn
 | dct _=>exact Bool.noConfusion hn
def LP:Dt->Dt | .tup (_::h::_)=>h | _=>.nj
def Bw:Dt->Option Str | .tup [.str s,.str x]=>if s=="as" then some x else none | _=>none
def zf (ds:List Dt):List (Str×Dt):=ds.map fun d=>(G6 d,LP d)
def El (rs:List (Str×Dt)) (n:Str):Option Str:=(rs.find? fun r=>decide (r.1=n)).bind fun r=>Bw r.2
theorem uS (z:Str) (ds:List Dt):headD (.tup (.str z::ds))=if AD z then (match ds with | [p]=>Ek p | _=>false) else match Bv z with | some n=>decide (ds.length=n)&&ds.all AB | none=>false:=rfl
theorem uT {v:V} {d:Dt} (h:DD H v d) (hh:headD d=true):∃ a z xs ds,v=.ref a/\d=.tup (.str z::ds)/\H a=some (.tup (.str z::xs))/\xs.length=ds.length/\xs.length < 1000/\(∀ i (h:i < xs.length) (h':i < ds.length),DD H xs[i] ds[i])/\
  ((AD z=true/\∃ p,ds=[p]/\Ek p=true)\/(AD z=false/\∃ n,Bv z=some n/\ds.length=n/\ds.all AB=true)):=by
 cases h with
 | @tup a xs ds e hl hn jf=>
  match ds,hl,hh,jf with
  | .str z::ds,hl,hh,jf=>
   match xs,hl,e,hn,jf with
   | x0::xs,hl,e,hn,jf=>
    have h0:=jf 0 (by simp) (by simp)
    simp only [List.getElem_cons_zero] at h0
    cases h0
    refine ⟨a,z,xs,ds,rfl,rfl,e,by simpa using hl,by simp at hn;omega,fun i h h'=>jf (i+1) (by simpa using h) (by simpa using h'),?_⟩
    rw [uS] at hh
    cases hw:AD z with
    | true=>
     rw [hw] at hh
     simp only [if_true] at hh
     match ds,hh with
     | [p],hh=>exact .inl ⟨rfl,p,rfl,hh⟩
    | false=>
     rw [hw] at hh
     simp only [Bool.false_eq_true,if_false] at hh
     cases hb:Bv z with
     | none=>rw [hb] at hh;exact Bool.noConfusion hh
     | some n=>
      rw [hb] at hh
      simp only [Bool.and_eq_true,decide_eq_true_eq] at hh
      exact .inr ⟨rfl,n,rfl,hh.1,hh.2⟩
  | .tup _::_,_,hh,_=>exact Bool.noConfusion hh
  | .nj::_,_,hh,_=>exact Bool.noConfusion hh
  | [],_,hh,_=>exact Bool.noConfusion hh
 | str _=>exact Bool.noConfusion hh
 | af=>exact Bool.noConfusion hh
 | bl _=>exact Bool.noConfusion hh
 | int _=>exact Bool.noConfusion hh
 | lst _=>exact Bool.noConfusion hh
 | dct _=>exact Bool.noConfusion hh
theorem rW:AD "as"=false:=by decide
theorem yR {v:V} {d:Dt} (h:DD H v d) (hh:headD d=true):G4 H v (Bw d):=by
 obtain ⟨a,z,xs,ds,rfl,rfl,e,hl,hn,jf,hc⟩:=uT h hh
 refine ⟨a,rfl,?_⟩
 by_cases hz:z="as"
 ·subst hz
  rcases hc with ⟨hw,_⟩ | ⟨_,n,hb,LQ,CH⟩
  ·rw [rW] at hw;cases hw
  ·have hn1:n=1:=by
    have:Bv "as"=some 1:=by decide
    rw [this] at hb;cases hb;rfl
   subst hn1
   match ds,LQ,hl,CH,jf with
   | [d1],_,hl,CH,jf=>
    match xs,hl,e,jf with
    | [x1],_,e,jf=>
     simp only [List.all_cons,List.all_nil,Bool.and_true] at CH
     obtain ⟨y,q1,q2,_⟩:=rL (jf 0 (by simp) (by simp)) CH
     simp only [List.getElem_cons_zero] at q1
     subst q1 q2
     exact .inr ⟨y,e,by simp [Bw]⟩
 ·refine .inl ⟨z,xs,e,hz,?_⟩
  have Bx:(z==Str.ofString "as")=false:=by simpa using hz
  unfold Bw
  split
  ·next s x Em=>
   injection Em with Em
   injection Em with h1 _
   injection h1 with h1
   rw [<- h1,if_neg (by rw [Bx];exact Bool.false_ne_true)]
  ·rfl
theorem aX {t:TS} {D:Ends} {rt:VK} {bk ct:St->Hp->Prop} (h:t D σ H):Cb {nx:=t D,rt:=rt,bk:=bk,ct:=ct} σ H:=h
structure AE (H:Hp) (xs:List V) (ds:List Dt) (rs:List (Str×V)) (hs:List Dt):Prop where
 l1:rs.length=ds.length
 l2:hs.length=ds.length
 ps:LJ H xs (xg rs)
 dd:∀ i (h:i < ds.length) (h1:i < rs.length) (h2:i < hs.length),ds[i]=.tup [.str rs[i].1,hs[i]]/\DD H rs[i].2 hs[i]/\headD hs[i]=true/\isName rs[i].1=true
section
variable {xs:List V} {ds:List Dt} {rs:List (Str×V)} {hs:List Dt}
theorem AE.rows (R:AE H xs ds rs hs) (h:i < ds.length) (h1:i < rs.length) (h2:i < hs.length):(zf ds)[i]? =some (rs[i].1,hs[i]):=by
 unfold zf
 rw [Qq,Qa h,(R.dd i h h1 h2).1];rfl
theorem j9 (n:Str) (h:n ∉ rs.map (·.1)):dm (xg rs) (.inr n)=none:=by
 unfold dm
 rw [List.find?_eq_none.mpr]
 ·rfl
 ·intro p hp e
  obtain ⟨r,hr,rfl⟩:=List.mem_map.mp hp
  exact h (List.mem_map.mpr ⟨r,hr,Sum.inr.inj (Qt e)⟩)
theorem kQ (nd:(rs.map (·.1)).Nodup) (h:i < rs.length):dm (xg rs) (.inr rs[i].1)=some rs[i].2:=by
 have:=oF (xg rs) (nE nd) i (by simpa using h)
 rw [lT _ (nE nd)] at this
 simpa using this
theorem AE.nx (R:AE H xs ds rs hs) (nd:(rs.map (·.1)).Nodup) (h1:i < rs.length) (h2:i < hs.length):El (zf ds) rs[i].1=Bw hs[i]:=by
 have h:i < ds.length:=by have:=R.l1;omega
 unfold El
 have:(zf ds).find? (fun r=>decide (r.1=rs[i].1))=some (rs[i].1,hs[i]):=by
  rw [List.find?_eq_some_iff_getElem]
  have hl:(zf ds).length=ds.length:=by unfold zf;simp
  refine ⟨by simp,i,by omega,?_,fun j hj=>?_⟩
  ·have:=R.rows h h1 h2
   rw [Qa (by omega)] at this
   exact QD this
  ·have LS:j < rs.length:=by omega
   have:=R.rows (i:=j) (by omega) LS (by omega)
   rw [Qa (by omega)] at this
   rw [QD this]
   have kj:(rs.map (·.1))[j]'(by simp;omega)≠(rs.map (·.1))[i]'(by simpa using h1):=fun z=>(List.pairwise_iff_getElem.mp nd j i (by simp;omega) (by simpa using h1) hj) z
   simpa using kj
 rw [this];rfl
theorem AE.has (R:AE H xs ds rs hs) (nd:(rs.map (·.1)).Nodup) (n:Str) (v:V) (hv:dm (xg rs) (.inr n)=some v):G4 H v (El (zf ds) n):=by
 by_cases h:n∈rs.map (·.1)
 ·obtain ⟨r,hr,rfl⟩:=List.mem_map.mp h
  obtain ⟨i,hi,rfl⟩:=Qi hr
  rw [kQ nd hi] at hv
  cases hv
  have h2:i < hs.length:=by have:=R.l1;have:=R.l2;omega
  rw [R.nx nd hi h2]
  obtain ⟨_,q1,q2,_⟩:=R.dd i (by have:=R.l1;omega) hi h2
  exact yR q1 q2
 ·rw [j9 n h] at hv;cases hv
end
inductive TX (H:Hp):V->Dt->Prop
 | str {z:Str} (h:z.length<=100000):TX H (.str z) (.str z)
 | tup {a:Addr} {xs:List V} {ds:List Dt}:H a=some (.tup xs)->xs.length=ds.length->xs.length<=1000->(∀ i (h:i < xs.length) (h':i < ds.length),TX H xs[i] ds[i])->TX H (.ref a) (.tup ds)
theorem TX.dd {v:V} {d:Dt} (h:TX H v d):DD H v d:=by
 induction h with
 | str h=>exact .str h
 | tup e hl hn _ ih=>exact .tup e hl hn ih
theorem xE {x:V} {d:Dt} (e:H a=some (.tup [x])) (h:TX H x d):TX H (.ref a) (.tup [d]):=.tup e rfl (by simp) fun i h1 h2=>by
 match i,h1 with
 | 0,_=>exact h
theorem mE {x y:V} {d d':Dt} (e:H a=some (.tup [x,y])) (h:TX H x d) (h':TX H y d'):TX H (.ref a) (.tup [d,d']):=.tup e rfl (by simp) fun i h1 h2=>by
 match i,h1 with
 | 0,_=>exact h
 | 1,_=>exact h'
theorem wM {x y z:V} {d d' G7:Dt} (e:H a=some (.tup [x,y,z])) (h:TX H x d) (h':TX H y d') (ze:TX H z G7):TX H (.ref a) (.tup [d,d',G7]):=.tup e rfl (by simp) fun i h1 h2=>by
 match i,h1 with
 | 0,_=>exact h
 | 1,_=>exact h'
 | 2,_=>exact ze
theorem kM (h:isName z=true):z.length<=8:=by
 unfold isName at h
 simp only [Bool.and_eq_true,decide_eq_true_eq] at h
 exact h.1.1.2
theorem gX (h:isName z=true):TX H (.str z) (.str z):=.str (by have:=kM h;omega)
theorem lX (h:z.length<=100):TX H (.str z) (.str z):=.str (by omega)
section
variable {P:Option Str->Prop}
end
section
variable {e1 e2:Expr} {k:Nat} {g1 g2:TG}
end
section
variable {t1 i1 t2 i2 elt:Expr} {wi LU:TI} {g g2:TG}
end
section
variable {st:Expr} {ts:TE} {p2:Pos}
end
inductive Hd where
 | one (s:Str)
 | as (y:Str)
 | way (x y:Str)
 | prs (s:Str) (ps:List (Str×Str))
def Hd.nx:Hd->Option Str
 | .as y=>some y
 | _=>none
def Hd.ok (ns:List Str):Hd->Prop
 | .one s=>s="all"\/s="none"
 | .as y=>isName y=true/\y∈ns
 | .way x y=>isName x=true/\isName y=true/\x∈ns/\y∈ns
 | .prs s ps=>(s="box"\/s="pick")/\(∀ p∈ps,isName p.1=true/\isName p.2=true/\p.2∈ns)/\rising (ps.map (·.1))=true/\ps.length<=10
structure LV (H:Hp) (xs:List V) (ps:List (Str×Str)):Prop where
 len:xs.length=ps.length
 at_:∀ i (h:i < xs.length) (h':i < ps.length),∃ c,xs[i]=.ref c/\H c=some (.tup [.str ps[i].1,.str ps[i].2])
inductive HV (H:Hp):V->Hd->Prop
 | one {b:Addr} {s:Str}:H b=some (.tup [.str s])->HV H (.ref b) (.one s)
 | as {b:Addr} {y:Str}:H b=some (.tup [.str "as",.str y])->HV H (.ref b) (.as y)
 | way {b:Addr} {x y:Str}:H b=some (.tup [.str "way",.str x,.str y])->HV H (.ref b) (.way x y)
 | prs {b c:Addr} {s:Str} {xs:List V} {ps:List (Str×Str)}:H b=some (.tup [.str s,.ref c])->H c=some (.tup xs)->LV H xs ps->HV H (.ref b) (.prs s ps)
section
variable {v:V} {P:Option Str->Prop}
end
def Hd.dt:Hd->Dt
 | .one s=>.tup [.str s]
 | .as y=>.tup [.str "as",.str y]
 | .way x y=>.tup [.str "way",.str x,.str y]
 | .prs s ps=>.tup [.str s,.tup (ps.map fun p=>.tup [.str p.1,.str p.2])]
theorem HV.tx {v:V} {h:Hd} (q:HV H v h) (ok:h.ok ns):TX H v h.dt:=by
 cases q with
 | one e=>exact xE e (lX (by rcases ok with rfl | rfl<;>decide))
 | as e=>exact mE e (lX (by decide)) (gX ok.1)
 | way e=>exact wM e (lX (by decide)) (gX ok.1) (gX ok.2.1)
 | @prs b c s xs ps e e' p=>
  have Ph:=ok.2.2.2
  have hl:=p.len
  refine mE e (lX (by rcases ok.1 with rfl | rfl<;>decide)) (.tup e' (by simp [p.len]) (by omega) fun i h1 h2=>?_)
  have h3:i < ps.length:=by simpa using h2
  obtain ⟨c',q1,q2⟩:=p.at_ i h1 h3
  obtain ⟨m1,m2,_⟩:=ok.2.1 _ (Qj h3)
  rw [q1]
  simp only [Qr]
  exact mE q2 (gX m1) (gX m2)
abbrev ii:=Str×Hd
structure RV (H:Hp) (xs:List V) (rows:List ii):Prop where
 len:xs.length=rows.length
 at_:∀ i (h:i < xs.length) (h':i < rows.length),∃ b v,xs[i]=.ref b/\H b=some (.tup [.str rows[i].1,v])/\HV H v rows[i].2
def LW (r:ii):Dt:=.tup [.str r.1,r.2.dt]
def LX (ns:List Str) (rows:List ii):Prop:=∀ r∈rows,isName r.1=true/\r.2.ok ns
def Hd.pre:Hd->List Str
 | .one s=>[s]
 | .as _=>[]
 | .way _ _=>["way"]
 | .prs s _=>[s]
section
variable {I:Addr} {wr:List Addr} {P:Nat->Value->Prop} {St:Nat->Shared->Prop}
end
theorem dW (K:QZ) (h:X.K=K:=by rfl):bw X (binaryOp .Add) (DL K):=by subst h;exact qP
section
variable {a b c:Expr}
end
def Hd.LY:Hd->List Str
 | .prs _ ps=>ps.map (·.1)
 | _=>[]
section
variable {v:V} {P:Option Str->Prop}
end
def LZ (ns:List Str) (n:Str) (o:Option Str):Prop:=∀ y,o=some y->∃ (i j:Nat),i < j/\ns[i]? =some y/\ns[j]? =some n
section
variable {xs:List V} {rows:List ii}
end
section
variable {xs ys:List V} {rows Pj:List ii} {gy:List Str} {f g:Str->Str}
def G8 (rows:List ii) (x:Str):Hd:=((rows.find? fun r=>decide (r.1=x)).map (·.2)).getD (.one "")
def L0 (rows:List ii) (x:Str):Option Str:=(G8 rows x).nx
end
inductive DA (P:Addr->Prop) (H:Hp):Bool->V->PyData->Dt->Prop
 | str {m:Bool} {z:Str} (h:z.length<=100000):DA P H m (.str z) (.str z) (.str z)
 | af {m:Bool}:DA P H m .af .none .nj
 | bl {m:Bool} (b:Bool):DA P H m (.bl b) (.bool b) .nj
 | int {m:Bool} (i:Int):DA P H m (.int i) (.int i) .nj
 | tup {m:Bool} {a:Addr} {xs:List V} {ps:List PyData} {ds:List Dt}:P a->H a=some (.tup xs)->xs.length=ps.length->xs.length=ds.length->xs.length<=1000->(∀ i (h:i < xs.length) (h':i < ps.length) (ze:i < ds.length),DA P H m xs[i] ps[i] ds[i])->DA P H m (.ref a) (.tuple ps) (.tup ds)
 | lst {a:Addr} {xs:List V} {ps:List PyData} {ds:List Dt}:P a->H a=some (.lst xs)->xs.length=ps.length->xs.length=ds.length->(∀ i (h:i < xs.length) (h':i < ps.length) (ze:i < ds.length),DA P H true xs[i] ps[i] ds[i])->DA P H true (.ref a) (.list ps) .nj
 | L3 {a:Addr}:P a->H a=some (.dK [])->DA P H false (.ref a) (.dict []) .nj
 | L4 {a:Addr} {z:Str} {x:V} {p:PyData} {d:Dt}:P a->H a=some (.dK [(.inr z,x)])->DA P H false x p d->DA P H false (.ref a) (.dict [(.str z,p)]) .nj
theorem DA.dd {P:Addr->Prop} {m:Bool} {v:V} {p:PyData} {d:Dt} (h:DA P H m v p d):DD H v d:=by
 induction h with
 | str h=>exact .str h
 | af=>exact .af
 | bl b=>exact .bl b
 | int i=>exact .int i
 | tup _ e h1 h2 h3 _ ih=>exact .tup e h2 h3 fun i a b=>ih i a (by omega) b
 | lst _ e h1 h2 _ ih=>exact .lst e
 | L3 _ e=>exact .dct e
 | L4 _ e _ ih=>exact .dct e
section
variable {P P':Addr->Prop} {m:Bool} {v:V} {k k' n':Nat} {xs:List V}
end
section
variable {P:Addr->Prop} {m:Bool} {k c:Nat}
end
def Hd.L5:Hd->List (List Str×Str)
 | .way x y=>[(["from"],x),(["to"],y)]
 | .prs s ps=>ps.map fun p=>([if s="box" then "part" else "case",p.1],p.2)
 | _=>[]
def endOf (rows:List ii) (x:Str):Str:=LL (L0 rows) rows.length x
def L6 (rows:List ii) (x:Str):List (List Str×Str):=(G8 rows (endOf rows x)).L5.map fun m=>(m.1,endOf rows m.2)
structure G9 (K:QZ) (t:Addr×Obj×List V):Prop where
 lk:K.lookup t.1=some t.2.1
 ok:∃ (its:List Value) (n:Nat),t.2.1.cls=.type "tuple"/\t.2.1.dict=none/\t.2.1.data=.seq its.toArray n/\a_ t.2.2 its/\t.2.2.length<=sizeLine
def without (K:QZ) (as:List Addr):QZ:=K.filter fun p=> !as.contains p.1
theorem cJ {as:List Addr} {b:Addr}:∀ {K:QZ},(without K as).lookup b=if as.contains b=true then none else K.lookup b
 | []=>by unfold without;simp
 | (c,o)::K=>by
  have ih:=cJ (as:=as) (b:=b) (K:=K)
  unfold without at ih ⊢
  rw [List.filter_cons]
  by_cases hc:as.contains c=true
  ·have h0:¬(!as.contains (c,o).1)=true:=by show ¬(!as.contains c)=true;rw [hc];decide
   rw [if_neg h0,ih]
   by_cases hb:as.contains b=true
   ·rw [if_pos hb,if_pos hb]
   ·have n:(b==c)=false:=by
     cases e:b==c with
     | false=>rfl
     | true=>rw [eq_of_beq e] at hb;exact absurd hc hb
    rw [if_neg hb,if_neg hb,List.lookup_cons,n]
  ·have h0:(!as.contains (c,o).1)=true:=by
    show (!as.contains c)=true
    cases q:as.contains c with
    | true=>exact absurd q hc
    | false=>rfl
   rw [if_pos h0,List.lookup_cons,List.lookup_cons,ih]
   cases e:b==c with
   | true=>
    have:¬as.contains b=true:=by rw [eq_of_beq e];exact hc
    show some o=if as.contains b=true then none else some o
    rw [if_neg this]
   | false=>rfl
def G_ (H:Hp):Prop:=∀ b,H b=none\/∃ o u,H b=some (.fj o u)
def gi (ts:List (Addr×Obj×List V)) (G:Hp):Hp:=fun b=>match ts.find? fun t=>decide (t.1=b) with
 | some t=>some (.fj t.2.1 (.tup t.2.2))
 | none=>G b
theorem uQ {ts:List (Addr×Obj×List V)} {G:Hp} {t:Addr×Obj×List V} (h:t∈ts) (nd:(ts.map (·.1)).Nodup):gi ts G t.1=some (.fj t.2.1 (.tup t.2.2)):=by
 induction ts with
 | nil=>cases h
 | cons a ts ih=>
  unfold gi
  rw [List.find?_cons]
  rw [List.map_cons,List.nodup_cons] at nd
  by_cases e:a.1=t.1
  ·rw [decide_eq_true e]
   rcases Qp.mp h with rfl | h
   ·rfl
   ·exact absurd (List.mem_map.mpr ⟨t,h,e.symm⟩) nd.1
  ·rw [Qw e]
   rcases Qp.mp h with rfl | h
   ·exact absurd rfl e
   ·exact ih h nd.2
theorem d9 {ts:List (Addr×Obj×List V)} {G:Hp}:(∃ t∈ts,t.1=b/\gi ts G b=some (.fj t.2.1 (.tup t.2.2)))\/((∀ t∈ts,t.1≠b)/\gi ts G b=G b):=by
 unfold gi
 cases q:ts.find? fun t=>decide (t.1=b) with
 | some t=>
  have h1:=List.mem_of_find?_eq_some q
  have h2:=List.find?_some q
  exact .inl ⟨t,h1,Qt h2,rfl⟩
 | none=>
  refine .inr ⟨fun t ht e=>?_,rfl⟩
  have:=List.find?_eq_none.mp q t ht
  simp [e] at this
theorem qY {K:QZ} {mb:Str->Option Value} {CX:pe} {k:Nat} {fa:Addr} {sp:Sp} {s₁:Shared} {vs:List Value} {ns:List Int} {ts:List (Addr×Obj×List V)}
  (vf:∀ t∈ts,G9 K t) (nd:(ts.map (·.1)).Nodup)
  (KX:K.In s₁.heap) (nq:s₁.heap.Ns mainGlobals mg) (hb:s₁.heap.Ns builtinsNs mb) (L7:∀ x:Str,x≠"__name__"->mb x=bootBuiltins x) (L8:s₁.heap.NoLimit) (hg:s₁.gens=#[])
  (ha:s₁.heap.get? a=some {cls:=.type "list",data:=.seq vs.toArray}) (hi:IntsAre vs ns) (hl:ns.length<=sizeLine) (hr:dg k callerA)
  (F:∀ base:Heap,(without K (ts.map (·.1))).In base->base.Ns mainGlobals mg->mw P w (without K (ts.map (·.1))) mg base CX k fa fd [x] sp) (L_:∀ (s:Shared) (u:Value),BindsTo s fd ⟨[u],[]⟩ [(x,u)])
  (se:∀ H:Hp,G_ H->(∀ t∈ts,H t.1=some (.fj t.2.1 (.tup t.2.2)))->ao (without K (ts.map (·.1))) H a (ns.map V.int)->sp [.ref a] H (fun v _=>v=.bl true) fun _ _ _=>False)
  (Ma:∀ H e s',CX [] H s₁ (fun _ _ _=>False) e s'->False):
  codeAny (model P w) callerA (.call (.ref fa) ⟨[.ref a],[]⟩) (fun r s'=>r=.ok (.ret (.bool true))/\OldK s₁.heap s'.heap/\s'.os=s₁.os/\AllBare s'.gens) s₁:=by
 have rv:=lI hi
 have Mb:=hi.length
 have En:∀ t∈ts,s₁.heap.get? t.1=some t.2.1:=fun t ht=>KX _ _ (vf t ht).lk
 have Hf:∀ t∈ts,t.1≠a:=fun t ht e=>by
  obtain ⟨its,n,h1,_⟩:=(vf t ht).ok
  have:=En t ht
  rw [e,ha] at this
  rw [<- QD this] at h1
  injection h1 with h2
  exact absurd h2 (by decide)
 have core:∀ G:Hp,(∀ b,G b≠none->b=a)->(G a≠none->K.lookup a=none)->(∀ b,G b=none\/∃ o u,G b=some (.fj o u))->ao (without K (ts.map (·.1))) (gi ts G) a (ns.map V.int)->(∀ u,G a=some u->∀ H,bz P w H s₁.heap a u)->
   codeAny (model P w) callerA (.call (.ref fa) ⟨[.ref a],[]⟩) (fun r s'=>r=.ok (.ret (.bool true))/\OldK s₁.heap s'.heap/\s'.os=s₁.os/\AllBare s'.gens) s₁:=by
  intro G hG hK hF hS hO
  have Aj:∀ b,gi ts G b≠none->b=a\/∃ t∈ts,t.1=b:=fun b q=>by
   rcases d9 (ts:=ts) (G:=G) (b:=b) with ⟨t,ht,e,_⟩ | ⟨_,e⟩
   ·exact .inr ⟨t,ht,e⟩
   ·rw [e] at q;exact .inl (hG b q)
  have fj:G_ (gi ts G):=fun b=>by
   rcases d9 (ts:=ts) (G:=G) (b:=b) with ⟨t,ht,e,q⟩ | ⟨_,q⟩
   ·exact .inr ⟨_,_,q⟩
   ·rw [q];exact hF b
  have hok:cf P w (gi ts G) s₁.heap:=fun b u q=>by
   rcases d9 (ts:=ts) (G:=G) (b:=b) with ⟨t,ht,e,q'⟩ | ⟨_,q'⟩
   ·rw [q'] at q
    cases q
    obtain ⟨its,n,h1,h2,h3,h4,h5⟩:=(vf t ht).ok
    have o1:=En t ht
    rw [e] at o1
    exact ⟨o1,⟨h5,fun o z=>by rw [o1] at z;cases z;exact h2⟩,its,h4,t.2.1,o1,h1,n,h3⟩
   ·rw [q'] at q
    have e:=hG b (by rw [q];simp)
    subst e
    exact hO u q _
  have Hg:∀ {b:Addr} {o:Obj},s₁.heap.get? b=some o->gi ts G b=none->(ur s₁.heap (gi ts G)).get? b=some o:=fun e n=>uJ e n
  have Bk:∀ {b:Addr} {o:Obj} {es:Array DictEntry} {ep:Nat},s₁.heap.get? b=some o->o.data=.dict es ep->gi ts G b=none:=fun {b o es ep} e d=>by
   cases q:gi ts G b with
   | none=>rfl
   | some u=>
    rcases Aj b (by rw [q];simp) with z | ⟨t,ht,z⟩
    ·subst z
     rw [ha] at e;cases e
     cases d
    ·have o1:=En t ht
     rw [z,e] at o1
     cases o1
     obtain ⟨its,n,h1,h2,h3,_⟩:=(vf t ht).ok
     rw [d] at h3;cases h3
  have CI:∀ {b:Addr} {m:Str->Option Value},s₁.heap.Ns b m->(ur s₁.heap (gi ts G)).Ns b m:=fun {b m} ⟨o,es,ep,e,d,r⟩=>⟨o,es,ep,Hg e (Bk e d),d,r⟩
  have Hh:(without K (ts.map (·.1))).In (ur s₁.heap (gi ts G)):=fun b o e=>by
   rw [cJ] at e
   by_cases hc:(ts.map (·.1)).contains b=true
   ·rw [if_pos hc] at e;cases e
   ·rw [if_neg hc] at e
    refine Hg (KX b o e) ?_
    cases q:gi ts G b with
    | none=>rfl
    | some u=>
     rcases d9 (ts:=ts) (G:=G) (b:=b) with ⟨t,ht,z,_⟩ | ⟨_,q'⟩
     ·exact absurd (by rw [List.contains_iff_mem];exact List.mem_map.mpr ⟨t,ht,z⟩) hc
     ·rw [q'] at q
      have z:=hG b (by rw [q];simp)
      subst z
      rw [hK (by rw [q];simp)] at e;cases e
  have hM:Mod (without K (ts.map (·.1))) mg (ur s₁.heap (gi ts G)):=⟨Hh,CI nq,⟨mb,CI hb,L7⟩,let ⟨mc,h1,h2⟩:=L8;⟨mc,CI h1,h2⟩⟩
  have e0:yr P w (without K (ts.map (·.1))) mg (ur s₁.heap (gi ts G)) callerA [] s₁ (gi ts G):=⟨rfl,hM,fun b o e=>wG e,Nat.le_of_eq (sH _ _),trivial,fun b hb=>absurd (show b∈([]:List Addr) from hb) (by simp),hok,.of_eq hg⟩
  refine codeAny_mono ((F _ Hh (CI nq)).run callerA [] s₁ (gi ts G) ⟨[.ref a],[]⟩ [.ref a] [.ref a] _ _ hr e0 (L_ s₁ (.ref a)) (.cons rfl .nil) (se (gi ts G) fj (fun t ht=>uQ ht nd) hS)) fun r s' h=>?_
  cases r with
  | error e=>exact (Ma _ e s' h).elim
  | ok fl=>
   cases fl with
   | next=>exact False.elim h
   | brk=>exact False.elim h
   | cont=>exact False.elim h
   | ret u=>
    obtain ⟨v,H',os,bare,un,zg,r',q⟩:=h
    have q':v=.bl true:=q
    subst q'
    obtain rfl:u=Value.bool true:=r'
    refine ⟨rfl,OldK.of_keep fun b o e=>?_,os,bare⟩
    cases q:gi ts G b with
    | none=>exact un.keep b o e q (by intro z;exact absurd (show b∈([]:List Addr) from z) (by simp)) (by simp)
    | some u=>
     rcases fj b with z | ⟨ob,u',z⟩
     ·rw [q] at z;cases z
     ·have z2:=un.jc b ob _ z
      obtain ⟨e1,_⟩:=hok b _ z
      obtain ⟨e2,_⟩:=zg b _ z2
      rw [e] at e1;cases e1
      exact e2
 have Mc:¬(ts.map (·.1)).contains a=true:=fun h=>by
  rw [List.contains_iff_mem] at h
  obtain ⟨t,ht,e⟩:=List.mem_map.mp h
  exact Hf t ht e
 have Eo:∀ G:Hp,gi ts G a=G a:=fun G=>by
  rcases d9 (ts:=ts) (G:=G) (b:=a) with ⟨t,ht,e,_⟩ | ⟨_,q⟩
  ·exact absurd e (Hf t ht)
  ·exact q
 cases hk:K.lookup a with
 | some o=>
  have e:=KX a o hk
  rw [ha] at e
  cases e
  exact core (fun _=>none) (fun b z=>absurd rfl z) (fun z=>absurd rfl z) (fun _=>.inl rfl) (.inr ⟨_,vs.toArray,_,by rw [cJ,if_neg Mc];exact hk,rfl,rfl,rfl,by rw [List.size_toArray,Mb];exact hl,by simpa using rv⟩) fun u z=>by cases z
 | none=>
  refine core (fun b=>if b=a then some (.fj {cls:=.type "list",data:=.seq vs.toArray} (.lst (ns.map V.int))) else none) (fun b z=>?_) (fun _=>hk) (fun b=>?_) (.inl (.inr ⟨{cls:=.type "list",data:=.seq vs.toArray},by rw [Eo];exact if_pos rfl⟩)) fun u z H=>?_
  ·by_cases hb:b=a
   ·exact hb
   ·exact absurd (if_neg hb) z
  ·by_cases hb:b=a
   ·exact .inr ⟨_,_,if_pos hb⟩
   ·exact .inl (if_neg hb)
  ·have z':=(if_pos rfl).symm.trans z
   cases z'
   exact ⟨ha,by rw [Ql];exact hl,vs,_,rv,ha⟩
def adr (mg:Str->Option Value) (x:Str):Addr:=match mg x with
 | some (.ref a)=>a
 | _=>0
theorem gv.same {ys:List V} (h:gv H b ys) (s:aa H H'):gv H' b ys:=h.imp (fun e=>s _ _ e) fun ⟨o,e⟩=>⟨o,s _ _ e⟩
section
variable {iter kx vx:Expr} {wi:TI} {g:TG} {tc:TC} {tk tw:TE}
end
section
variable {o value:Expr} {ta tv:TE} {f:Str} {k:Nat} {sp:Sp}
end
section
variable {k:Nat} {sd:Pos} {o:Expr}
end
end L2
namespace PySem
end PySem
namespace L2
open PySem PySem.Spec PyProof.Rows
theorem gv.inj {xs ys:List V} (h:gv H a xs) (h':gv H a ys):xs=ys:=by
 rcases h with h | ⟨o,h⟩<;>rcases h' with h' | ⟨o',h'⟩<;>(rw [h] at h';cases h')<;>rfl
section
variable {o:Expr}
end
theorem mU {a0:Expr} {n:Str} {ig:Pos} (ha:SE X (.Attribute a0 n ig) te) (hr:SA X es t):SA X (.Attribute a0 n ig::es) (bu te t):=⟨d4 ha.h hr.h⟩
theorem pI {K:QZ} {as:List Addr} (x:K.In h):(without K as).In h:=fun a o e=>by
 rw [cJ] at e
 by_cases hc:as.contains a=true
 ·rw [if_pos hc] at e;cases e
 ·rw [if_neg hc] at e;exact x a o e
theorem xG {J:It} {ok:Hp->Prop} {item:Nat->V} {g:TG} {tc:TC} {tk tw:TE} {τ0:St} {D:Addr} {Q:Hp->Prop} (hJ:Ay J ok n item) (Pv:Nat->St->Hp->Prop) (h0:Pv 0 τ0 H0)
  (hok:∀ i τ H,i<=n->Pv i τ H->ok H)
  (hs:∀ i τ H,i < n->Pv i τ H->g (item i) τ H fun τ2 H2=>tc τ2 H2 fun b H3=>if b=true then tk τ2 H3 fun x H4=>tw τ2 H4 fun y H5=>∃ kvs key,x=kV key/\H5 D=some (.dK kvs)/\kvs.length < sizeLine/\Pv (i+1) τ2 (upd H5 D (.dK (putK kvs key y))) else Pv (i+1) τ2 H3)
  (hd:∀ τ H,Pv n τ H->Q H):∃ W:Nat->Nat->St->Hp->Prop,(∃ m,W 0 m τ0 H0)/\∀ i m τ H,W i m τ H->
   (J.stop i H/\Q H)\/(J.go i H/\∃ N:St->Hp->Prop,(∀ τ' H',N τ' H'->∃ m',m' < m/\W (i+1) m' τ' H')/\∀ x H',J.lj i H x H'->g x τ H' fun τ2 H2=>tc τ2 H2 fun b H3=>
    if b=true then tk τ2 H3 fun x H4=>tw τ2 H4 fun y H5=>∃ kvs key,x=kV key/\H5 D=some (.dK kvs)/\kvs.length < sizeLine/\N τ2 (upd H5 D (.dK (putK kvs key y))) else N τ2 H3):=by
 refine ⟨fun i m τ H=>m=n - i/\i<=n/\Pv i τ H,⟨n,by simp,Nat.zero_le _,h0⟩,?_⟩
 rintro i m τ H ⟨rfl,hi,p⟩
 obtain ⟨k1,k2⟩:=hJ H (hok i τ H hi p)
 by_cases b_:i < n
 ·refine .inr ⟨(k1 i b_).1,Pv (i+1),fun σ' H' p'=>⟨n - (i+1),by omega,rfl,b_,p'⟩,fun x H' y=>?_⟩
  obtain ⟨e,e2⟩:=(k1 i b_).2 x H' y
  subst e e2
  exact hs i τ _ b_ p
 ·have e:i=n:=by omega
  subst e
  exact .inl ⟨k2,hd τ H p⟩
def Hd.ak:Hd->Str
 | .one s=>s
 | .as _=>"as"
 | .way _ _=>"way"
 | .prs s _=>s
theorem HV.ak {H:Hp} {v:V} {h:Hd} (q:HV H v h):∃ b ys,v=.ref b/\H b=some (.tup (.str h.ak::ys)):=by
 cases q with
 | one e=>exact ⟨_,_,rfl,e⟩
 | as e=>exact ⟨_,_,rfl,e⟩
 | way e=>exact ⟨_,_,rfl,e⟩
 | prs e _ _=>exact ⟨_,_,rfl,e⟩
def Sx (x:Addr) (H H':Hp):Prop:=∀ b o,b≠x->H b=some o->H' b=some o
theorem Sx.upd {x:Addr} {H:Hp} {o:HO}:Sx x H (upd H x o):=fun c u n h=>by rw [aM n];exact h
section
variable {xs:List V} {rows:List ii}
end
def Ep (K:QZ):R2:=fun x y H Q=>∃ a b xs ys,x=.ref a/\y=.ref b/\ae K H a xs/\ae K H b ys/\xs.length+ys.length<=sizeLine/\(xs=[]->Q (.ref b) H)/\
 (xs≠[]->ys=[]->Q (.ref a) H)/\(xs≠[]->ys≠[]->∀ p,H p=none->Q (.ref p) (upd H p (.tup (xs++ys))))
theorem vW (K:QZ) (h:X.K=K:=by rfl):bw X (binaryOp .Add) (Ep K):=by
 subst h
 intro pins s σ H x y v u Q I rx ry h
 obtain ⟨a,b,xs,ys,rfl,rfl,ha,hb,hz,q0,q1,q2⟩:=h
 by_cases hx:xs=[]
 ·cases rx
  cases ry
  obtain ⟨its,r1,p1,_⟩:=I.tuple ha
  obtain ⟨its2,r2,p2,_⟩:=I.tuple hb
  have hi:its=[]:=r1.wu.mpr hx
  obtain ⟨⟨cls,dd,data,sl⟩,ho,hc,n,hd⟩:=id p1
  obtain ⟨⟨Gp,wo,data2,wq⟩,ph,kc,n2,hd2⟩:=id p2
  simp only at hc hd kc hd2
  subst hc hd kc hd2
  exact concat_meets ⟨_,ho,rfl⟩ ⟨_,ph,rfl⟩ noFill_tuple_add seq_tuple_add PySem.F.slot_tuple_add PySem.F.entry_tuple_add (PySem.F.args_tuple_add_2 _ _)
   (tuple_addW0 a b its.toArray its2.toArray n n2 dd wo sl wq (by simp [hi])) ⟨ho,ph,⟨.ref b,H,I,rfl,q0 hx⟩⟩
 ·exact qP pins s σ H _ _ v u Q I rx ry ⟨a,b,xs,ys,rfl,rfl,ha,hb,hx,hz,q1 hx,q2 hx⟩
theorem Hi {K:QZ} {xs ys:List V} {Q:VK} (ha:H a=some (.tup xs)) (hb:H b=some (.tup ys)) (hz:xs.length+ys.length<=sizeLine) (h:∀ p H',aa H H'->H' p=some (.tup (xs++ys))->Q (.ref p) H'):Ep K (.ref a) (.ref b) H Q:=by
 refine ⟨a,b,xs,ys,rfl,rfl,ae.of ha,ae.of hb,hz,fun e=>?_,fun _ e=>?_,fun _ _ p hp=>?_⟩
 ·subst e;exact h b H (aa.refl _) hb
 ·subst e;exact h a H (aa.refl _) (by rw [QQ];exact ha)
 ·exact h p _ (aa.upd hp _) aA
section
variable {it d:Addr} {ep:Nat} {od:Obj} {es:Array DictEntry} {ok ov:Value} {Q:Option Value->Shared->Prop}
end
section
variable {k:Nat} {sd:Pos} {o:Expr}
end
section
variable {o:Expr}
end
def Hj (K:QZ):List V->Hp->VK->Prop:=fun xs H Q=>match xs with
 | [.ref p]=>∃ ns:List Int,ao K H p (ns.map V.int)/\Q (.int ns.sum) H
 | _=>False
theorem iU (ns:List Int):∀ k,k<=ns.length->PySem.preSum (fun i=>ns.getD i 0) k=(ns.take k).sum
 | 0,_=>rfl
 | k+1,h=>by
  have ih:=iU ns k (by omega)
  show PySem.preSum _ k+ns.getD k 0=_
  rw [ih,Qs,Qa h,List.sum_append,Qb,Qa h]
  simp
theorem sD (K:QZ) (hc:X.calm=true) (h:X.K=K:=by rfl):je X (.builtin "sum") (Hj K):=by
 subst h
 intro pins s σ H xs us Q I r h
 unfold Hj at h
 split at h
 ·next p=>
  obtain ⟨ns,hq,q⟩:=h
  obtain ⟨u,rfl,ru⟩:=r.one
  cases ru
  obtain ⟨its,rv,pl,hz⟩:=I.list hq
  have hl:=rv.length
  rw [Ql] at hl
  have b_:p < s.heap.objs.size:=by obtain ⟨_,e,_⟩:=pl.isList;exact Qz e
  refine call_sum_walkAnyS (wpAny_pyIter_list pl.isList ?_)
  refine ⟨s.heap.objs.size,[s.heap.objs.size,p],[s.heap.objs.size],_,its.toArray.size,_,_,fun i=>ns.getD i 0,rfl,(Walks.list (A:=X.A.in1) (I.ok.hd hc) _ p (Nat.ne_of_lt b_) _).toS,
   ⟨⟨_,Qd _ rfl,rfl,rfl⟩,pl.isList.push _⟩,fun b hb=>?_,fun i v hP=>?_,fun s' t' mv=>?_⟩
  ·simp only [Qp,QA,or_false] at hb
   show b < (s.heap.push _).objs.size
   rw [Heap.size_push]
   rcases hb with rfl | rfl
   ·exact Nat.lt_succ_self _
   ·exact Nat.lt_succ_of_lt b_
  ·have jh:its[i]? =some v:=by simpa using hP
   have hi:i < its.length:=(List.getElem?_eq_some_iff.mp jh).1
   obtain ⟨u,h1,h2⟩:=rv.get (i:=i) (x:=.int (ns.getD i 0)) (by rw [Qq,Qa (by omega),Qb,Qa (by omega)];rfl)
   rw [jh] at h1
   cases h1
   exact h2
  ·have e:PySem.preSum (fun i=>ns.getD i 0) its.toArray.size=ns.sum:=by
    rw [List.size_toArray,<- hl,iU ns ns.length (Qy _),List.take_length]
   rw [e]
   obtain ⟨GI,g',d',Me,Gk⟩:=s'
   obtain ⟨m1,m2,m3,m4,m5⟩:=mv
   simp only at m1 m2 m3 m4 m5
   subst m2 m3 m4
   refine ⟨.int ns.sum,H,I.kept (t':=Me) fun b o e=>m1 b o (fun hm=>?_) (Qc _ e),⟨_,rfl⟩,q⟩
   rw [List.mem_singleton.mp hm] at e
   exact Nat.lt_irrefl _ (Qz e)
 ·exact h.elim
theorem Paired.at {β:Type} {R:α->β->Prop} {xs:List α} {ys:List β} (h:Paired R xs ys):∀ i (h1:i < xs.length) (h2:i < ys.length),R xs[i] ys[i]:=by
 induction h with
 | nil=>intro i h1;exact absurd h1 (by simp)
 | cons a _ ih=>
  intro i h1 h2
  cases i with
  | zero=>exact a
  | succ i=>exact ih i (by simpa using h1) (by simpa using h2)
section
variable {t1 i1 t2 i2 elt:Expr} {tc:TC} {wi LU:TI} {g g2:TG}
end
section
variable {it d:Addr} {ep:Nat} {od:Obj} {es:Array DictEntry} {Q:Option Value->Shared->Prop}
end
section
variable {o:Expr}
end
section
variable {a:Expr} {p2 Pk:Pos}
end
abbrev Road:=List (List Str)
section
variable {xs:List V} {rows:List ii}
end
theorem nQ {op:Operator} {ti:Bd} (hN:X.N.Nodup) (hi:X.N[i]? =some x) (hx:Loc X.env.scope x) (he:SE X e te) (ho:Cd X op ti) (hf:X.fn x=true\/X.env.scope.names.lookup x=some .local:=by first | exact .inl rfl | exact .inr rfl | assumption):
  SS X (.AugAssign (.Name x pos') op e pos) (F9 i te ti):=⟨zE hN hi hx he.h ho hf⟩
theorem vL {o:Expr} {td ty:TE} (hu:X.A.units+1 < cLine) (ho:SE X o td) (he:SE X e ty) (m:M1 X o "get" apos e cpos):SE X (.Call (.Attribute o "get" apos) [e] [] cpos) (GF td ty):=⟨sM hu ho.h he.h m⟩
theorem xI (K:QZ) {o:Expr} {id:String} {r:V->List V->Hp->VK->Prop} (pa:PlainAttrs T) (slot:Slot T name id) (ux:typeOf (.builtin id)=pure (.type "method_descriptor")) (hm:Av X id r) (ho:SE X o to) (h:X.K=K:=by rfl)
  (uy:attributeBase o name X.env (eval o X.env)=eval o X.env:=by rfl) (uz:(apos.endLine==cpos.line)=true:=by rfl):SE X (.Call (.Attribute o name apos) [] [] cpos) (Gx K T r to):=by
 subst h;exact ⟨zW pa slot ux hm ho.h uy uz⟩
def Mf (K:QZ) (ta:TE):TT:=fun σ H Q=>ta σ H fun x H'=>∃ k,DG K x H' k/\Q k H'
theorem qI (K:QZ) {a:Expr} {ta:TE} (ha:SE X a ta) (h:X.K=K:=by rfl) (he:∀ whole,isTrue a X.env whole=(do let v <- whole;standAt a.pos;holding [v] (truthy v)):=by intro _;rfl):ST X a (Mf K ta):=by
 subst h;exact ⟨sO ha.h he⟩
abbrev CJ:=List (Str×Option (Str×List Str))
def Mg (row:Str) (cb:CJ) (ms:List (List Str×Str)):CJ:=ms.foldl (fun cb m=>if m.2∈cb.map (·.1) then cb else cb++[(m.2,some (row,m.1))]) cb
def AF (rows:List ii) (f:Str):Nat->CJ
 | 0=>[(f,none)]
 | i+1=>match (AF rows f i)[i]? with
  | none=>AF rows f i
  | some c=>Mg c.1 (AF rows f i) (L6 rows c.1)
theorem kY:∀ {l m:List Str},l.Nodup->(∀ x∈l,x∈m)->l.length<=m.length
 | [],m,_,_=>Nat.zero_le _
 | a::l,m,nd,h=>by
  have ha:=h a List.mem_cons_self
  have h1:=kY (l:=l) (m:=m.erase a) (List.nodup_cons.mp nd).2 fun x hx=>(List.mem_erase_of_ne (show x≠a from fun z=>(List.nodup_cons.mp nd).1 (by rw [<- z];exact hx))).mpr (h x (Qh _ hx))
  rw [List.length_erase_of_mem ha] at h1
  have hp:=List.length_pos_of_mem ha
  rw [List.length_cons]
  omega
section
variable {iter kx vx:Expr} {tc:TC} {wi:TI} {g:TG} {tk tw:TE}
theorem Hl {y:Str} {py spos:Pos} (S:p_ X.env.scope X.N sc own idx N') (hc:X.calm=true) (hi:SI X tg iter wi)
  (hg:∀ cl C s3 H0 fp pn,SG (dz X N' sc cl C s3 H0 fp pn) tg g) (ht:∀ cl C s3 H0 fp pn,SC (dz X N' sc cl C s3 H0 fp pn) ifs tc) (he:∀ cl C s3 H0 fp pn,SE (dz X N' sc cl C s3 H0 fp pn) kx tk) (hv:∀ cl C s3 H0 fp pn,SE (dz X N' sc cl C s3 H0 fp pn) vx tw)
  (hN:X.N.Nodup) (Bs:X.N[i]? =some y) (hy:X.env.scope.names.lookup y=some .local)
  (vc:swapsWith (.DictComp kx vx [⟨tg,iter,ifs,0⟩] sc pos) (some (.Name y py)) spos.line X.env=pure true:=by rfl)
  (hs:∀ x,foldedSetIterable iter X.env x=pure x:=by intro _;rfl):SS X (.Assign [.Name y py] (.DictComp kx vx [⟨tg,iter,ifs,0⟩] sc pos) spos) (o_ (Ly own idx wi g tc tk tw) (ia i)):=by
 constructor
 intro pins s σ H D I h
 obtain ⟨cl,iy,c1,c2⟩:=S.closure I.ok
 rw [exec_Assign_Name_used _ _ _ _ vc]
 refine QS (wpAny_standAt (QS ?_))
 show wpAny _ X.A (do let _ <- comprehension (.DictComp kx vx [⟨tg,iter,ifs,0⟩] sc pos) sc X.env _ newDict false (eval iter X.env) (some (assign (.Name y py) X.env))) _ _ s
 refine QS (wpAny_mono (wpAny_comprehension_free (use:=some (assign (.Name y py) X.env)) (Q:=fun _ s'=>SP X pins D .next s') rfl hs iy S.kind S.names
  (av (hi.h pins s σ H _ I h) fun v s1 h1=>av h1 fun lu s2 h2=>?_)) (fun _ s' hq=>QT (QT hq)) fun _ _ e=>e)
 refine nO (Q:=fun x H1=>ia i x σ H1 D.nx) (pins:=pins) (σ:=σ) (RR:=fun acc C=>compPost (model X.prog X.w) X.A X.xe (some (assign (.Name y py) X.env)) (fun _ s'=>SP X pins D .next s') acc C) S c1 c2 hc (fun q r s t u v=>(hg q r s t u v).h) (fun q r s t u v=>(ht q r s t u v).h) (fun q r s t u v=>(he q r s t u v).h) (fun q r s t u v=>(hv q r s t u v).h) h2 ?_
 intro D' C H' s' I' q ⟨a1,a2,a3,a4,a5,m,a6⟩
 show wpAny _ X.A (assign (.Name y py) X.env (.ref D')) _ _ _
 refine wpAny_assign_Name (dR (v:=.ref D') I' hN Bs (.inl hy) rfl (fun s'' DY ⟨a,sb,ha⟩=>?_) (.inr hy))
 have DZ:C≠a:=by
  rcases ha with z | z
  ·rw [z];exact a2
  ·exact Ne.symm (a4 _ _ z)
 refine ⟨m,a6.sameBut sb DZ,fun h' Ax=>⟨_,H',DY.turned (t':=s''.toks) (fun b o hb e=>(Ax.2 b hb).trans e) a1 a2 (.inr a3) a4 a5,q⟩⟩
end
def hv (hs:List (Str×Nat)) (y:Str):Nat:=((hs.find? fun q=>decide (q.1=y)).map (·.2)).getD 0
section
variable {o:Expr} {Mh:Pos}
end
section
variable {o f:Expr} {td ty tx:TE}
end
abbrev LR:=List (Str×Road)
def Mi (acc:LR) (r:Str):Road:=((acc.find? fun q=>decide (q.1=r)).map (·.2)).getD []
def Ho (acc:LR):Option (Str×List Str)->Road
 | none=>[]
 | some q=>Mi acc q.1++[q.2]
def Er (cb:CJ):LR:=cb.foldl (fun acc c=>acc++[(c.1,Ho acc c.2)]) []
def Hq (xs ys:List Str):Prop:=∃ j,∃ (h1:j < xs.length) (h2:j < ys.length),(∀ i (g1:i < xs.length) (g2:i < ys.length),i < j->xs[i]=ys[i])/\xs[j]≠ys[j]/\decide (ys[j].cps.toList < xs[j].cps.toList)=false
end L2
namespace L2
open PySem PySem.Spec PyProof.Rows PySem.W
section
variable {o:Expr} {Mh:Pos}
end
end L2
namespace L2
open PySem PySem.Spec PyProof.Rows
end L2
namespace L2
open PySem PySem.Spec PyProof.Rows HT
end L2
namespace L2
open PySem PySem.Spec PyProof.Rows
open AutoSeq1 (wpAny_loadPart')
def Dt.Mj (z:Str):Dt->Bool
 | .tup [.str y]=>y==z
 | _=>false
def Es (h:Dt):Dt:=if h.Mj "hole" then .tup [.str "all"] else h
def CK:Dt->Dt | .tup [a,h]=>.tup [a,Es h] | d=>d
theorem DD.Et {x y:V} {dx dy:Dt} (e:H b=some (.tup [x,y])) (h1:DD H x dx) (h2:DD H y dy):DD H (.ref b) (.tup [dx,dy]):=.tup e rfl (by simp) fun i a b=>by
 match i,a with
 | 0,_=>exact h1
 | 1,_=>exact h2
theorem DD.Eu {x:V} {dx:Dt} (e:H b=some (.tup [x])) (h1:DD H x dx):DD H (.ref b) (.tup [dx]):=.tup e rfl (by simp) fun i a b=>by
 match i,a with
 | 0,_=>exact h1
def Hr (H3 H4:Hp) (ws:List V) (ds:List Dt):Prop:=∀ j (h:j < ws.length) (h':j < ds.length),∃ c x1 hv dx dy,ws[j]=.ref c/\H4 c=some (.tup [x1,hv])/\ds[j]=.tup [dx,dy]/\DD H3 x1 dx/\(DD H3 hv (Es dy)\/∃ b,hv=.ref b/\H4 b=some (.tup [.str "all"])/\Es dy=.tup [.str "all"])
theorem Hr.dd {H3 H4:Hp} {ws:List V} {ds:List Dt} (f:Hr H3 H4 ws ds) (s:aa H3 H4) (j:Nat) (h:j < ws.length) (h':j < ds.length):DD H4 ws[j] (CK ds[j]):=by
 obtain ⟨c,x1,hv,dx,dy,q1,q2,q3,q4,q5⟩:=f j h h'
 rw [q1,q3]
 refine DD.Et q2 (q4.same s) ?_
 rcases q5 with q5 | ⟨b,rfl,q6,q7⟩
 ·exact q5.same s
 ·rw [q7];exact DD.Eu q6 (.str (by decide))
def Hs (H H':Hp) (v:V) (d:Dt):Prop:=DD H v (CK d)\/∃ c x1 b dx,v=.ref c/\H' c=some (.tup [x1,.ref b])/\H' b=some (.tup [.str "all"])/\DD H x1 dx/\CK d=.tup [dx,.tup [.str "all"]]
theorem Hs.dd {v:V} {d:Dt} (h:Hs H H' v d) (s:aa H H'):DD H' v (CK d):=by
 rcases h with h | ⟨c,x1,b,dx,rfl,h2,h3,h4,h5⟩
 ·exact h.same s
 ·rw [h5];exact DD.Et h2 (h4.same s) (DD.Eu h3 (.str (by decide)))
def Hd.Ew:Hd->Bool | .one s=>s=="hole" | _=>false
def Hd.Mk:Hd->Bool | .way _ _=>true | _=>false
def Hd.CL (h:Hd):Hd:=if h.Ew then .one "all" else h
def Ht (r:ii):ii:=(r.1,r.2.CL)
structure TH (H:Hp) (a:Addr) (xs:List V) (rows:List ii) (ns ws:List Str):Prop where
 at_:H a=some (.tup xs)
 rv:RV H xs rows
 nm:(rows.map (·.1)).Perm ns
 nd:ns.Nodup
 ok:LX ns (rows.map Ht)
 wd:∀ n∈ns,Wd n
 ah:∀ r∈rows,LZ ns r.1 r.2.nx
 ww:∀ r∈rows,∀ z∈r.2.LY,z∈ws
 pos:1<=ns.length
 few:ns.length<=10
 nw:∀ r∈rows,r.2.Mk=false
 hl:rows.countP (fun r=>r.2.Ew)<=6
section
variable {xs:List V} {rows:List ii}
theorem TH.rl (h:TH H a xs rows ns ws):rows.length=ns.length:=by have:=h.nm.length_eq;simpa using this
theorem HV.CB {v:V} {h:Hd} (q:HV H v h) (ok:h.CL.ok ns):DD H v h.dt:=by
 cases e:h.Ew with
 | false=>
  have:h.CL=h:=by unfold Hd.CL;rw [e];rfl
  rw [this] at ok
  exact (q.tx ok).dd
 | true=>
  cases q with
  | @one b s e1=>
   have:s="hole":=eq_of_beq e
   subst this
   exact DD.Eu e1 (.str (by decide))
  | _=>cases e
theorem TH.dd (h:TH H a xs rows ns ws):DD H (.ref a) (.tup (rows.map LW)):=by
 have Hu:=h.rl
 have few:=h.few
 have hl:=h.rv.len
 refine .tup h.at_ (by simp [hl]) (by omega) fun i h1 h2=>?_
 have h3:i < rows.length:=by simpa using h2
 obtain ⟨b,v,q1,q2,q3⟩:=h.rv.at_ i h1 h3
 obtain ⟨m1,m2⟩:=h.ok (Ht rows[i]) (List.mem_map.mpr ⟨_,Qj h3,rfl⟩)
 have Ml:isName rows[i].1=true:=m1
 rw [q1]
 simp only [Qr]
 exact DD.Et q2 (.str (by have:=kM Ml;omega)) (q3.CB m2)
end
end L2
namespace L2
open PySem PySem.Spec PyProof.Rows
def cy (z:Str):Prop:=z.length<=100000
def zh (n:Nat) (ys:List V):Prop:=ys.length=n/\∀ y∈ys,∃ z:Str,y=.str z/\cy z
theorem zh.one {z:Str} (h:cy z):zh 1 [.str z]:=⟨rfl,fun y hy=>⟨z,List.mem_singleton.mp hy,h⟩⟩
theorem zh.two {z':Str} (h:cy z) (h':cy z'):zh 2 [.str z,.str z']:=⟨rfl,fun y hy=>by
 rcases Qp.mp hy with rfl | hy
 ·exact ⟨z,rfl,h⟩
 ·exact ⟨z',List.mem_singleton.mp hy,h'⟩⟩
structure AG (H:Hp) (n:Nat) (xs ms:List V):Prop where
 len:xs.length=ms.length
 few:xs.length<=1000
 at_:∀ i (h:i < xs.length) (h':i < ms.length),∃ c ys,xs[i]=.ref c/\H c=some (.tup (ys++[ms[i]]))/\zh n ys
inductive ko (H:Hp):V->List V->Prop
 | get {a:Addr} {z:Str}:H a=some (.tup [.str "get",.str z])->cy z->ko H (.ref a) []
 | fn {a:Addr} {v r:Str} {m:V}:H a=some (.tup [.str "fn",.str v,.str r,m])->cy v->cy r->ko H (.ref a) [m]
 | call {a:Addr} {f x:V}:H a=some (.tup [.str "call",f,x])->ko H (.ref a) [f,x]
 | ck {a b:Addr} {xs ms:List V}:H a=some (.tup [.str "box",.ref b])->H b=some (.tup xs)->AG H 1 xs ms->ko H (.ref a) ms
 | part {a:Addr} {m:V} {z:Str}:H a=some (.tup [.str "part",m,.str z])->cy z->ko H (.ref a) [m]
 | pick {a:Addr} {z:Str} {m:V}:H a=some (.tup [.str "pick",.str z,m])->cy z->ko H (.ref a) [m]
 | split {a b:Addr} {m:V} {xs ms:List V}:H a=some (.tup [.str "split",m,.ref b])->H b=some (.tup xs)->AG H 2 xs ms->ko H (.ref a) (m::ms)
 | hold {a:Addr} {m:V} {z:Str}:H a=some (.tup [.str "hold",m,.str z])->cy z->ko H (.ref a) [m]
theorem AG.tk {xs ms:List V} (h:AG H n xs ms) (s:Tk H H'):AG H' n xs ms:=⟨h.len,h.few,fun i a b=>let ⟨c,ys,h1,h2,h3⟩:=h.at_ i a b;⟨c,ys,h1,s _ _ h2,h3⟩⟩
theorem ko.tk {H H':Hp} (s:Tk H H') {v:V} {ks:List V} (h:ko H v ks):ko H' v ks:=by
 cases h with
 | get e h=>exact .get (s _ _ e) h
 | fn e h h2=>exact .fn (s _ _ e) h h2
 | call e=>exact .call (s _ _ e)
 | ck e e' r=>exact .ck (s _ _ e) (s _ _ e') (r.tk s)
 | part e h=>exact .part (s _ _ e) h
 | pick e h=>exact .pick (s _ _ e) h
 | split e e' r=>exact .split (s _ _ e) (s _ _ e') (r.tk s)
 | hold e h=>exact .hold (s _ _ e) h
inductive xh (H:Hp):Nat->Nat->V->Prop
 | mk {n s:Nat} {v:V} {ks:List V} {ss:List Nat}:ko H v ks->ks.length=ss.length->(∀ i (h:i < ks.length) (h':i < ss.length),xh H n ss[i] ks[i])->s=1+ss.sum->xh H (n+1) s v
theorem xh.tk {H H':Hp} (t:Tk H H') {n s:Nat} {v:V} (h:xh H n s v):xh H' n s v:=by
 induction h with
 | mk a b _ e ih=>exact .mk (a.tk t) b ih e
theorem vU {v:V} {ks:List V} (h:ko H v ks):ks.length<=1001:=by
 cases h with
 | ck _ _ r=>have:=r.few;have:=r.len;omega
 | split _ _ r=>have:=r.few;have:=r.len;simp only [List.length_cons];omega
 | _=>simp
end L2
set_option autoImplicit false
namespace L2
open PySem PySem.Spec PyProof.Rows
inductive au where
 | get (z:Str)
 | fn (v r:Str)
 | call
 | ck (ws:List Str)
 | part (z:Str)
 | pick (z:Str)
 | split (cs:List (Str×Str))
 | hold (r:Str)
 deriving DecidableEq
inductive Mr where
 | mk (f:au) (ks:List Mr)
def Mr.f:Mr->au
 | .mk f _=>f
def Mr.ks:Mr->List Mr
 | .mk _ ks=>ks
def au.ak:au->Str
 | .get _=>"get"
 | .fn _ _=>"fn"
 | .call=>"call"
 | .ck _=>"box"
 | .part _=>"part"
 | .pick _=>"pick"
 | .split _=>"split"
 | .hold _=>"hold"
def au.ar:au->Nat
 | .get _=>0
 | .call=>2
 | .ck ws=>ws.length
 | .split cs=>cs.length+1
 | _=>1
def au.bnd:au->Nat->Option Str
 | .fn v _,0=>some v
 | .split cs,k+1=>(cs[k]?).map (·.2)
 | _,_=>none
def au.ok:au->Prop
 | .get z=>cy z
 | .fn v r=>cy v/\cy r
 | .call=>True
 | .ck ws=>ws.Nodup/\(∀ z∈ws,cy z)/\ws.length<=1000
 | .part z=>cy z
 | .pick z=>cy z
 | .split cs=>(cs.map (·.1)).Nodup/\(∀ c∈cs,cy c.1/\cy c.2)/\cs.length<=1000
 | .hold r=>cy r
structure jw (H:Hp) (ls:List (List V)) (xs ms:List V):Prop where
 l1:xs.length=ms.length
 l2:ls.length=ms.length
 at_:∀ i (h:i < xs.length) (h':i < ms.length) (ze:i < ls.length),∃ c,xs[i]=.ref c/\H c=some (.tup (ls[i]++[ms[i]]))
theorem jw.tk {ls:List (List V)} {xs ms:List V} (h:jw H ls xs ms) (s:Tk H H'):jw H' ls xs ms:=⟨h.l1,h.l2,fun i a b c=>let ⟨d,h1,h2⟩:=h.at_ i a b c;⟨d,h1,s _ _ h2⟩⟩
def ip (ws:List Str):List (List V):=ws.map fun z=>[.str z]
def fu (cs:List (Str×Str)):List (List V):=cs.map fun c=>[.str c.1,.str c.2]
inductive dh (H:Hp):V->au->List V->Prop
 | get {a:Addr} {z:Str}:H a=some (.tup [.str "get",.str z])->dh H (.ref a) (.get z) []
 | fn {a:Addr} {v r:Str} {m:V}:H a=some (.tup [.str "fn",.str v,.str r,m])->dh H (.ref a) (.fn v r) [m]
 | call {a:Addr} {f x:V}:H a=some (.tup [.str "call",f,x])->dh H (.ref a) .call [f,x]
 | ck {a b:Addr} {ws:List Str} {xs ms:List V}:H a=some (.tup [.str "box",.ref b])->H b=some (.tup xs)->jw H (ip ws) xs ms->dh H (.ref a) (.ck ws) ms
 | part {a:Addr} {m:V} {z:Str}:H a=some (.tup [.str "part",m,.str z])->dh H (.ref a) (.part z) [m]
 | pick {a:Addr} {z:Str} {m:V}:H a=some (.tup [.str "pick",.str z,m])->dh H (.ref a) (.pick z) [m]
 | split {a b:Addr} {cs:List (Str×Str)} {m:V} {xs ms:List V}:H a=some (.tup [.str "split",m,.ref b])->H b=some (.tup xs)->jw H (fu cs) xs ms->dh H (.ref a) (.split cs) (m::ms)
 | hold {a:Addr} {m:V} {z:Str}:H a=some (.tup [.str "hold",m,.str z])->dh H (.ref a) (.hold z) [m]
section
variable {v:V} {f:au} {ks:List V}
theorem dh.tk (s:Tk H H') (h:dh H v f ks):dh H' v f ks:=by
 cases h with
 | get e=>exact .get (s _ _ e)
 | fn e=>exact .fn (s _ _ e)
 | call e=>exact .call (s _ _ e)
 | ck e e' r=>exact .ck (s _ _ e) (s _ _ e') (r.tk s)
 | part e=>exact .part (s _ _ e)
 | pick e=>exact .pick (s _ _ e)
 | split e e' r=>exact .split (s _ _ e) (s _ _ e') (r.tk s)
 | hold e=>exact .hold (s _ _ e)
theorem dh.len (h:dh H v f ks):ks.length=f.ar:=by
 cases h with
 | ck _ _ r=>have:=r.l2;simp [ip] at this;exact this.symm
 | split _ _ r=>have:=r.l2;simp [fu] at this;show _+1=_+1;rw [this]
 | _=>rfl
theorem dh.qf (h:dh H v f ks) (ok:f.ok):ko H v ks:=by
 cases h with
 | get e=>exact .get e ok
 | fn e=>exact .fn e ok.1 ok.2
 | call e=>exact .call e
 | @ck a b ws xs ms e e' r=>
  obtain ⟨_,o2,o3⟩:=ok
  have l1:=r.l1
  have l2:=r.l2
  have l3:(ip ws).length=ws.length:=by simp [ip]
  refine .ck e e' ⟨r.l1,by omega,fun i h h'=>?_⟩
  obtain ⟨c,h1,h2⟩:=r.at_ i h h' (by omega)
  refine ⟨c,_,h1,h2,?_⟩
  simp only [ip,Qr]
  exact zh.one (o2 _ (Qj _))
 | part e=>exact .part e ok
 | pick e=>exact .pick e ok
 | @split a b cs m xs ms e e' r=>
  obtain ⟨_,o2,o3⟩:=ok
  have l1:=r.l1
  have l2:=r.l2
  have l3:(fu cs).length=cs.length:=by simp [fu]
  refine .split e e' ⟨r.l1,by omega,fun i h h'=>?_⟩
  obtain ⟨c,h1,h2⟩:=r.at_ i h h' (by omega)
  refine ⟨c,_,h1,h2,?_⟩
  simp only [fu,Qr]
  have:=o2 _ (Qj (show i < cs.length by omega))
  exact zh.two this.1 this.2
 | hold e=>exact .hold e ok
theorem dh.ref (h:dh H v f ks):∃ a ys,v=.ref a/\H a=some (.tup (.str f.ak::ys)):=by
 cases h<;>exact ⟨_,_,rfl,by assumption⟩
end
inductive aq (H:Hp):Nat->V->Mr->Prop
 | mk {n:Nat} {v:V} {f:au} {vs:List V} {ks:List Mr}:dh H v f vs->f.ok->vs.length=ks.length->(∀ i (h:i < vs.length) (h':i < ks.length),aq H n vs[i] ks[i])->aq H (n+1) v (.mk f ks)
section
variable {v:V} {m:Mr}
theorem aq.tk (h:aq H n v m) (s:Tk H H'):aq H' n v m:=by
 induction h with
 | mk a o b _ ih=>exact .mk (a.tk s) o b ih
theorem aq.up (h:aq H n v m):∀ {k},n<=k->aq H k v m:=by
 induction h with
 | mk a o b _ ih=>
  intro k hk
  obtain ⟨j,rfl⟩:∃ j,k=j+1:=⟨k - 1,by omega⟩
  exact .mk a o b fun i h h'=>ih i h h' (by omega)
theorem aq.out (h:aq H n v m):∃ k vs,n=k+1/\dh H v m.f vs/\m.f.ok/\vs.length=m.ks.length/\∀ i (h:i < vs.length) (h':i < m.ks.length),aq H k vs[i] m.ks[i]:=by
 cases h with
 | @mk n v f vs ks a o b c=>exact ⟨n,vs,rfl,a,o,b,c⟩
end
mutual
def dj:Mr->Bool
 | .mk f ks=>match f with
  | .fn _ _=>true
  | .ck _=>iz ks
  | .pick _=>iz ks
  | _=>false
def iz:List Mr->Bool
 | []=>true
 | m::l=>dj m&&iz l
end
theorem iB:∀ l:List Mr,iz l=l.all dj
 | []=>by rw [iz];rfl
 | m::l=>by rw [iz,iB l];rfl
mutual
def ik (v:Str) (x:Mr):Mr->Mr
 | .mk f ks=>if f=.get v then x else .mk f (fm v x f 0 ks)
def fm (v:Str) (x:Mr) (f:au) (k:Nat):List Mr->List Mr
 | []=>[]
 | m::l=>(if f.bnd k=some v then m else ik v x m)::fm v x f (k+1) l
end
theorem jX (v:Str) (x:Mr) (f:au):∀ (l:List Mr) (k i:Nat) (h:i < (fm v x f k l).length) (h':i < l.length),(fm v x f k l)[i]=if f.bnd (k+i)=some v then l[i] else ik v x l[i]
 | m::l,k,0,_,_=>by simp [fm]
 | m::l,k,i+1,h,h'=>by
  have h2:i < (fm v x f (k+1) l).length:=by simpa [fm] using h
  have:=jX v x f l (k+1) i h2 (by simpa using h')
  rw [show k+(i+1)=k+1+i by omega]
  simpa [fm] using this
theorem jI (v:Str) (x:Mr) (f:au):∀ (l:List Mr) (k:Nat),(fm v x f k l).length=l.length
 | [],k=>by simp [fm]
 | m::l,k=>by simp [fm,jI v x f l (k+1)]
mutual
def az:Mr->Nat
 | .mk _ ks=>1+bj ks
def bj:List Mr->Nat
 | []=>0
 | m::l=>az m+bj l
end
theorem k9 (m:Mr):1<=az m:=by cases m;rw [az];omega
theorem d6:∀ a b:List Mr,bj (a++b)=bj a+bj b
 | [],b=>by simp [bj]
 | m::l,b=>by rw [List.cons_append,bj,bj,d6 l b];omega
theorem dU:∀ l:List Mr,l.length<=bj l
 | []=>Nat.zero_le _
 | m::l=>by have:=dU l;have:=k9 m;rw [bj,List.length_cons];omega
mutual
def cg:Mr->Nat
 | .mk _ ks=>1+ji ks
def ji:List Mr->Nat
 | []=>0
 | m::l=>max (cg m) (ji l)
end
theorem d7:∀ {l:List Mr} {m:Mr},m∈l->cg m<=ji l
 | a::l,m,h=>by
  rw [ji]
  rcases Qp.mp h with rfl | h
  ·exact Nat.le_max_left _ _
  ·exact Nat.le_trans (d7 h) (Nat.le_max_right _ _)
def gj (f:au) (ks:List Mr):List Mr:=match f with
 | .split _=>ks.take 1
 | _=>ks
def jj (m:Mr):Option Nat:=(gj m.f m.ks).findIdx? fun k=> !dj k
def qg (m:Mr):Option Mr:=match m.f with
 | .hold _=>m.ks[0]?
 | .call=>match m.ks with
  | [.mk (.fn v _) [b],x]=>some (ik v x b)
  | _=>none
 | .part z=>match m.ks with
  | [.mk (.ck ws) ps]=>(ws.idxOf? z).bind fun i=>ps[i]?
  | _=>none
 | .split cs=>match m.ks with
  | .mk (.pick z) [x]::ms=>((cs.map (·.1)).idxOf? z).bind fun i=>(cs[i]?).bind fun c=>(ms[i]?).map fun b=>ik c.2 x b
  | _=>none
 | _=>none
mutual
def cj:Mr->List Nat×Option Mr
 | .mk f ks=>match jj (.mk f ks) with
  | none=>([],qg (.mk f ks))
  | some k=>(k::(AH k ks).1,(AH k ks).2)
def AH:Nat->List Mr->List Nat×Option Mr
 | 0,m::_=>cj m
 | k+1,_::l=>AH k l
 | _,[]=>([],none)
end
theorem oQ:∀ (l:List Mr) (k:Nat) (h:k < l.length),AH k l=cj l[k]
 | m::l,0,_=>by rw [AH];rfl
 | m::l,k+1,h=>by rw [AH,oQ l k (by simpa using h)];rfl
def gm (x:Mr):List Nat->Mr->Mr
 | [],_=>x
 | k::p,.mk f ks=>.mk f (match ks[k]? with | some m=>ks.set k (gm x p m) | none=>ks)
structure jk (H:Hp) (d:Nat) (vs:List V) (ms:List Mr):Prop where
 len:vs.length=ms.length
 at_:∀ i (h:i < vs.length) (h':i < ms.length),aq H d vs[i] ms[i]
theorem jk.tk {H H':Hp} {d:Nat} {vs:List V} {ms:List Mr} (h:jk H d vs ms) (s:Tk H H'):jk H' d vs ms:=⟨h.len,fun i a b=>(h.at_ i a b).tk s⟩
theorem jk.app {vs us:List V} {ms ns:List Mr} (h1:jk H d vs ms) (h2:jk H d us ns):jk H d (vs++us) (ms++ns):=by
 have l1:=h1.len
 refine ⟨by simp [h1.len,h2.len],fun i a b=>?_⟩
 by_cases h:i < vs.length
 ·rw [Qe h,Qe (by omega)]
  exact h1.at_ i h (by omega)
 ·rw [Qf (by omega),Qf (by omega)]
  simp only [<- l1]
  exact h2.at_ _ (by simp at a;omega) (by have:=h2.len;simp at a;omega)
theorem jk.one {H:Hp} {d:Nat} {v:V} {m:Mr} (h:aq H d v m):jk H d [v] [m]:=⟨rfl,fun i a b=>by
 obtain rfl:i=0:=by simp at a;omega
 exact h⟩
theorem jk.last {vs:List V} {ms:List Mr} (h:jk H d vs ms) (kj:vs≠[]):∃ vs' qh v m,vs=vs'++[v]/\ms=qh++[m]/\jk H d vs' qh/\aq H d v m:=by
 have hl:=h.len
 have hp:0 < vs.length:=List.length_pos_iff.mpr kj
 rcases List.eq_nil_or_concat vs with z | ⟨vs',v,rfl⟩
 ·exact absurd z kj
 rcases List.eq_nil_or_concat ms with rfl | ⟨qh,m,rfl⟩
 ·rw [hl] at hp;exact absurd hp (by simp)
 rw [List.concat_eq_append] at hl h ⊢
 rw [List.concat_eq_append] at hl h ⊢
 have hl':vs'.length=qh.length:=by simpa using hl
 refine ⟨vs',qh,v,m,rfl,rfl,⟨hl',fun i a b=>?_⟩,?_⟩
 ·have:=h.at_ i (by simp;omega) (by simp;omega)
  rwa [Qe a,Qe b] at this
 ·have:=h.at_ vs'.length (by simp) (by simp;omega)
  rw [Qf (Qy _),Qf (by omega)] at this
  simpa [hl'] using this
theorem aq.kids {v:V} {m:Mr} (h:aq H d v m):∃ vs,dh H v m.f vs/\m.f.ok/\jk H d vs m.ks:=by
 obtain ⟨k,vs,rfl,h1,h2,h3,h4⟩:=h.out
 exact ⟨vs,h1,h2,h3,fun i a b=>(h4 i a b).up (Nat.le_succ _)⟩
theorem kZ (a b:List Mr):iz (a++b)=(iz a&&iz b):=by simp [iB]
theorem au.Mm (f:au):yw (.str f.ak) [.str "fn",.str "box",.str "pick"]=(match f with | .fn _ _=>true | .ck _=>true | .pick _=>true | _=>false):=by cases f<;>simp only [au.ak]<;>decide+kernel
theorem au.Hv (f:au):decide (V.str f.ak=V.str "fn")=(match f with | .fn _ _=>true | _=>false):=by cases f<;>first | exact decide_eq_true rfl | exact Qw (fun z=>absurd (V.str.inj z) (by simp only [au.ak];decide+kernel))
mutual
theorem mT (v:Str) (x:Mr):∀ m,az (ik v x m)<=az m*az x
 | .mk f ks=>by
  have hx:=k9 x
  rw [ik,az]
  split
  ·exact Nat.le_mul_of_pos_left _ (by omega)
  ·have:=oG v x f 0 ks
   rw [az,Nat.add_mul]
   omega
theorem oG (v:Str) (x:Mr) (f:au):∀ k l,bj (fm v x f k l)<=bj l*az x
 | k,[]=>by rw [fm,bj];omega
 | k,m::l=>by
  have hx:=k9 x
  have h1:=mT v x m
  have h2:=oG v x f (k+1) l
  have h3:az m<=az m*az x:=Nat.le_mul_of_pos_right _ (by omega)
  rw [fm,bj,bj,Nat.add_mul]
  split<;>omega
end
theorem aq.Mn {v:V} {m:Mr} (h:aq H d v m):xh H d (az m) v:=by
 induction h with
 | @mk n v f vs ks a o b c ih=>
  refine .mk (a.qf o) (ss:=ks.map az) (by simpa using b) (fun i h h'=>?_) ?_
  ·have:=ih i h (by simpa using h')
   rw [Qr]
   exact this
  ·rw [az]
   congr 1
   clear a o b c ih
   induction ks with
   | nil=>rfl
   | cons x l ih=>rw [bj,List.map_cons,List.sum_cons,ih]
theorem au.few {f:au} (ok:f.ok):f.ar<=1001:=by
 cases f<;>simp only [au.ar]<;>(try omega)
 ·exact Nat.le_trans ok.2.2 (by decide)
 ·exact Nat.succ_le_succ ok.2.2
theorem aq.dep {v:V} {m:Mr} (h:aq H d v m):cg m<=d:=by
 induction h with
 | @mk n v f vs ks a o b c ih=>
  have:∀ l:List Mr,(∀ m∈l,cg m<=n)->ji l<=n:=fun l=>by
   induction l with
   | nil=>intro _;rw [ji];omega
   | cons x l ih=>intro h;rw [ji];have:=h x (by simp);have:=ih fun m hm=>h m (by simp [hm]);omega
  have:=this ks fun m hm=>by
   obtain ⟨i,hi,rfl⟩:=Qi hm
   exact ih i (by omega) hi
  rw [cg]
  omega
def By:List Nat->Mr->Prop
 | [],_=>True
 | k::p,m=>∃ x,m.ks[k]? =some x/\By p x
theorem By.len:∀ {p:List Nat} {m:Mr},By p m->p.length+1<=cg m
 | [],m,_=>by cases m;rw [cg];simp
 | k::p,.mk f ks,⟨x,h1,h2⟩=>by
  have:=h2.len
  have:cg x<=ji ks:=d7 (QC h1)
  rw [cg,List.length_cons]
  omega
theorem nC {f : au} {ks : List Mr} {k : Nat} (h : k < (gj f ks).length) : ∃ h' : k < ks.length, (gj f ks)[k] = ks[k] := by
  unfold gj at h
  cases f <;> first
    | exact ⟨h, rfl⟩
    | (refine ⟨by simp at h; omega, ?_⟩
       simp only [gj, List.getElem_take])
theorem mJ {m:Mr} {k:Nat} (h:jj m=some k):∃ h':k < m.ks.length,dj m.ks[k]=false:=by
 unfold jj at h
 obtain ⟨h1,h2,_⟩:=List.findIdx?_eq_some_iff_getElem.mp h
 obtain ⟨h3,h4⟩:=nC h1
 rw [h4] at h2
 exact ⟨h3,by simpa using h2⟩
theorem fO {m:Mr} (h:jj m=none):cj m=([],qg m):=by
 obtain ⟨f,ks⟩:=m
 rw [cj]
 simp only [h]
theorem fP {m:Mr} {k:Nat} (h:jj m=some k) (h':k < m.ks.length):cj m=(k::(cj m.ks[k]).1,(cj m.ks[k]).2):=by
 obtain ⟨f,ks⟩:=m
 rw [cj]
 simp only [h]
 rw [oQ ks k h']
 rfl
theorem m6:∀ (n:Nat) (m:Mr),cg m<=n->By (cj m).1 m
 | 0,.mk f ks,h=>by rw [cg] at h;omega
 | n+1,.mk f ks,h=>by
  cases hf:jj (.mk f ks) with
  | none=>rw [fO hf];trivial
  | some k=>
   obtain ⟨hk,_⟩:=mJ hf
   rw [fP hf hk]
   refine ⟨_,Qa hk,m6 n _ ?_⟩
   have:=d7 (Qj hk)
   rw [cg] at h
   simp only [Mr.ks] at this ⊢
   omega
theorem oS (x:Mr):∀ (p:List Nat) (m:Mr),az (gm x p m)<=az m+az x
 | [],m=>by rw [gm];omega
 | k::p,.mk f ks=>by
  rw [gm,az,az]
  cases h:ks[k]? with
  | none=>simp only [];omega
  | some m=>
   have ih:=oS x p m
   have:∀ (l:List Mr) (k:Nat),l[k]? =some m->bj (l.set k (gm x p m))<=bj l+az x:=fun l=>by
    induction l with
    | nil=>intro k h;simp at h
    | cons y l il=>
     intro k h
     cases k with
     | zero=>
      obtain rfl:y=m:=by simpa using h
      rw [List.set_cons_zero,bj,bj];omega
     | succ k=>
      have:=il k (by simpa using h)
      rw [List.set_cons_succ,bj,bj];omega
   have:=this ks k h
   simp only []
   omega
theorem aq.low {v:V} {m:Mr} (h:aq H n v m):∀ {k},cg m<=k->aq H k v m:=by
 induction h with
 | @mk n v f vs ks a o b c ih=>
  intro k hk
  rw [cg] at hk
  obtain ⟨j,rfl⟩:∃ j,k=j+1:=⟨k - 1,by omega⟩
  refine .mk a o b fun i h h'=>ih i h h' ?_
  have:=d7 (Qj h')
  omega
theorem gR {l:List Mr} {m:Mr} (h:m∈l):az m<=bj l:=by
 induction l with
 | nil=>cases h
 | cons a l ih=>
  rw [bj]
  rcases Qp.mp h with rfl | h
  ·omega
  ·have:=ih h;omega
theorem uR {a b:Nat} (h1:a<=n) (h2:b<=n):a*b<=n*n:=Nat.mul_le_mul h1 h2
theorem xL {a:Nat} (h:a<=n):a<=n*n:=by
 rcases Nat.eq_zero_or_pos n with z | z
 ·omega
 ·exact Nat.le_trans h (Nat.le_mul_of_pos_left _ z)
theorem tU {m c:Mr} (h:qg m=some c):az c<=az m*az m:=by
 obtain ⟨f,ks⟩:=m
 have e:az (.mk f ks)=1+bj ks:=by rw [az]
 rw [e]
 cases f with
 | hold r=>
  have h:ks[0]? =some c:=h
  exact xL (by have:=gR (QC h);omega)
 | call=>
  simp only [qg,Mr.f,Mr.ks] at h
  split at h
  ·rename_i v r b x
   cases h
   refine Nat.le_trans (mT _ _ _) (uR ?_ ?_)
   ·simp only [bj,az];omega
   ·simp only [bj,az];omega
  ·cases h
 | part z=>
  simp only [qg,Mr.f,Mr.ks] at h
  split at h
  ·rename_i ws ps
   obtain ⟨i,h1,h2⟩:=Option.bind_eq_some_iff.mp h
   have:=gR (QC h2)
   exact xL (by simp only [bj,az];omega)
  ·cases h
 | split cs=>
  simp only [qg,Mr.f,Mr.ks] at h
  split at h
  ·rename_i z x ms
   obtain ⟨i,h1,h2⟩:=Option.bind_eq_some_iff.mp h
   obtain ⟨d,h3,h4⟩:=Option.bind_eq_some_iff.mp h2
   obtain ⟨b,h5,h6⟩:=Option.map_eq_some_iff.mp h4
   subst h6
   have:=gR (QC h5)
   refine Nat.le_trans (mT _ _ _) (uR ?_ ?_)
   ·simp only [bj,az];omega
   ·simp only [bj,az];omega
  ·cases h
 | _=>cases h
theorem oC {c:Mr}:∀ (n:Nat) (m:Mr),cg m<=n->(cj m).2=some c->az c<=az m*az m
 | 0,.mk f ks,h,_=>by rw [cg] at h;omega
 | n+1,.mk f ks,h,h2=>by
  cases hf:jj (.mk f ks) with
  | none=>rw [fO hf] at h2;exact tU h2
  | some k=>
   obtain ⟨hk,_⟩:=mJ hf
   rw [fP hf hk] at h2
   have h3:=d7 (Qj hk)
   have h4:=gR (Qj hk)
   rw [cg] at h
   simp only [Mr.ks] at h3 h4 h2 hk
   have ih:=oC n _ (by omega) h2
   refine Nat.le_trans ih (uR ?_ ?_)<;>rw [az]<;>omega
inductive Kd where
 | val
 | stuck (p:List Nat)
 | on
def nu (m:Mr):Option Mr:=if dj m=true then none else (cj m).2.map fun c=>gm c (cj m).1 m
def qi (m:Mr):Kd:=if dj m=true then .val else match (cj m).2 with
 | none=>.stuck (cj m).1
 | some _=>.on
def fh:Nat->Nat->Mr->Nat ⊕ (Mr×Nat×Kd)
 | 0,dn,m=>.inr (m,dn,qi m)
 | k+1,dn,m=>match nu m with
  | none=>.inr (m,dn,qi m)
  | some m'=>if 400 < az m' then .inl 400 else if 40 < cg m' then .inl 40 else fh k (dn+1) m'
end L2
namespace L2
open PySem PySem.Spec PyProof.Rows PyProof HT
theorem kT:typeLookup (.type "tuple") (dunderI "add")=pure none:=by rw [typeLookup_type,builtinLookup_eq_fast];kernel_rfl
theorem vG (K:QZ) (h:X.K=K:=by rfl):Cd X .Add (Ep K):=by
 subst h
 intro pins s σ H x y v u Q I rx ry h
 obtain ⟨a,b,xs,ys,rfl,rfl,ha,hb,hz,q0,q1,q2⟩:=h
 cases rx
 cases ry
 obtain ⟨its,r1,p1,_⟩:=I.tuple ha
 obtain ⟨its2,r2,p2,_⟩:=I.tuple hb
 obtain ⟨⟨cls,dd,data,sl⟩,ho,hc,n,hd⟩:=id p1
 obtain ⟨⟨Gp,wo,data2,wq⟩,ph,kc,n2,hd2⟩:=id p2
 simp only at hc hd kc hd2
 subst hc hd kc hd2
 have h1:s.TypeIs (.ref a) "tuple":=⟨_,ho,rfl⟩
 have h2:s.TypeIs (.ref b) "tuple":=⟨_,ph,rfl⟩
 refine wpAny_inplaceOp_concat h1 h2 kT noFill_tuple_add seq_tuple_add ?_
 have i_:=r1.length
 have g_:=r2.length
 by_cases hx:xs=[]
 ·have hi:its=[]:=r1.wu.mpr hx
  exact call_meets PySem.F.slot_tuple_add h1 PySem.F.entry_tuple_add (PySem.F.args_tuple_add_2 _ _) (tuple_addW0 a b its.toArray its2.toArray n n2 dd wo sl wq (by simp [hi])) ⟨ho,ph,⟨.ref b,H,I,rfl,q0 hx⟩⟩
 have hv:its≠[]:=fun z=>hx (r1.wu.mp z)
 by_cases hw:ys=[]
 ·have Ex:its2=[]:=r2.wu.mpr hw
  exact call_meets PySem.F.slot_tuple_add h1 PySem.F.entry_tuple_add (PySem.F.args_tuple_add_2 _ _) (tuple_addW1 a b its.toArray its2.toArray n n2 dd wo sl wq (by simpa using hv) (by simp [Ex])) ⟨ho,ph,⟨.ref a,H,I,rfl,q1 hx hw⟩⟩
 ·have Ex:its2≠[]:=fun z=>hw (r2.wu.mp z)
  refine call_meets PySem.F.slot_tuple_add h1 PySem.F.entry_tuple_add (PySem.F.args_tuple_add_2 _ _) (tuple_addW2 a b its.toArray its2.toArray n n2 dd wo sl wq (by simpa using hv) (by simpa using Ex) (by rw [List.size_toArray,List.size_toArray];omega)) ⟨ho,ph,?_⟩
  rw [show its.toArray++its2.toArray=(its++its2).toArray by simp]
  refine ⟨.ref s.heap.objs.size,_,I.laid (t':=s.toks) (o:=.tup (xs++ys)) (fun b ob q=>Qc _ q) (Qy _) ?_,rfl,q2 hx hw _ (I.hok.fresh (Qy _))⟩
  exact ⟨⟨by rw [Qk];exact hz,we.new rfl rfl⟩,_,r1.append r2,IsTup.new _ _⟩
def Hw (g h:TG):TG:=fun v σ H Q=>g v σ H fun σ' H'=>h v σ' H' Q
theorem yB {t1 t2:Expr} {g1 g2:TG} (he:SE X e te) (Mp:SG X t1 g1) (Mq:SG X t2 g2) (hs:swapsWithSole [t1,t2] e pos.line X.env=pure false:=by rfl) (hw:swappedStores [t1,t2] e X.env=pure none:=by rfl)
  (h1:(assignEach [t1,t2] X.env).map (·.2)=[assign t1 X.env,assign t2 X.env]:=by rfl):SS X (.Assign [t1,t2] e pos) (o_ te (Hw g1 g2)):=by
 constructor
 intro pins s σ H D I h
 refine wpAny_Assign_stores (av (he.h pins s σ H _ I h) fun v s1 ⟨x,H1,I1,r1,q1⟩=>?_) hs hw
 rw [h1]
 refine QS (wpAny_holding (av (Mp.h pins s1 σ H1 x v _ I1 r1 q1) ?_))
 rintro _ s2 ⟨σ2,H2,I2,q2⟩
 exact av (Mq.h pins s2 σ2 H2 x v _ I2 r1 q2) fun _ s2 q=>q
end L2
namespace L2
open PySem PySem.Spec PyProof.Rows
section
variable {g:Array GenState} {d:Drawn} {t:Nat} {os:OsState}
variable {nm q:Str} {N:Addr} {bs bm bmB:List Value} {hdct:Bool} {sn:List Str} {sub:List Value} {ab:Bool} {col:Option Bool} {dd:Option Addr} {k0 k1 k2 k3 k5:Option Value} {B Bn newId CM BA Hx:String} {Hy:List Value}
theorem w9 (Fn:ExcBaseFacts Bn newId Hx Hy) (CN:bmB.contains (.type Bn)=true) (F:ExcBaseFacts B CM BA bmB) (T:OwnTail h bmB bm) {mN:Str->Option Value} {rest:List Value} {fI:Addr} {oI:Obj} {Q:Fin->Shared->Prop}
  (hC:h.get? C=some (excClassObj nm q C N bs bm hdct sn sub ab col dd k0 k1 k2 k3 k5 newId)) (hn:h.Ns N mN) (hi:mN "__init__"=some (.ref fI)) (Ey:h.get? fI=some oI) (Ez:oI.cls=.type "function") (hl:rest.length<=sizeLine)
  (hq:∀ h' e,Heap.MadeExcOf h h' e (.ref C) rest->wpAny (model P w) A (call (.ref fI) (.ref e::rest)) (fun r s'=>r=.none/\Q (.done (.ret (.ref e))) s') E ⟨h',g,d,t,os⟩):
  wpAny (model P w) A (Builtin.«type.__call__» ⟨.ref C::rest,[]⟩) Q E ⟨h,g,d,t,os⟩:=by
 repeat (first | with_reducible refine wpAny_loadPart_at hC ?_ | with_reducible refine wpAny_madeBy_exc hC ?_ | wp_step)
 refine codeAny_call_builtin_code (Code.quiet_builtin _ Fn.quiet) (wpAny_check_new_subU Fn CN T hC (codeAny_exc_new_subU Fn CN F T hC ?_ hl))
 let h2:=(h.push {cls:=.type "tuple",data:=.seq rest.toArray}).push {cls:=.ref C,data:=.fields #[.ref h.objs.size,.none,.none,.none,.bool false,.none]}
 have up:∀ b o,h.get? b=some o->h2.get? b=some o:=fun b o e=>Qc _ (Qc _ e)
 have Hz:=up _ _ hC
 have hn2:h2.Ns N mN:=let ⟨o,es,ep,e,r⟩:=hn;⟨o,es,ep,up _ _ e,r⟩
 have ge:h2.get? (h.objs.size+1)=some {cls:=.ref C,data:=.fields #[.ref h.objs.size,.none,.none,.none,.bool false,.none]}:=by
  show (Heap.push _ _).get? _=_
  have:=Qd (h.push {cls:=.type "tuple",data:=.seq rest.toArray}) (o:={cls:=.ref C,data:=.fields #[.ref h.objs.size,.none,.none,.none,.bool false,.none]}) rfl
  rw [Heap.size_push] at this;exact this
 have Ms:(Value.ref C::bm).contains (.ref C)=true:=by simp
 show wpAny _ _ _ _ _ ⟨h2,g,d,t,os⟩
 unfold isInstance
 repeat (first | with_reducible refine wpAny_loadPart_at ge ?_ | (with_reducible refine wpAny_isSubtype_exc Hz ?_;rw [Ms]) | wp_step)
 show wpAny _ _ (typeLookup (.ref C) _) _ _ _
 refine wpAny_typeLookup_tail Hz hn2 (T.keeps up) F.mroIs F.init.lookup ?_
 rw [hi]
 refine wpAny_holding (QS ?_)
 unfold bindSpecial
 refine QS (wpAny_typeOf (T:="function") ⟨_,up _ _ Ey,Ez⟩ ?_)
 rw [if_pos (by decide)]
 refine QT (QS (wpAny_mono (hq h2 (h.objs.size+1) ⟨up,Heap.get?_none_of_le (Nat.le_succ _),h.objs.size,ge,Heap.get?_none_of_le (Qy _),Qc _ (Qd _ rfl)⟩) (fun r s' hr=>?_) fun _ _ x=>x))
 obtain ⟨rfl,hQ⟩:=hr
 wp_walk
 exact hQ
theorem vY (Fn:ExcBaseFacts Bn newId Hx Hy) (CN:bmB.contains (.type Bn)=true) (F:ExcBaseFacts B CM BA bmB) (T:OwnTail h bmB bm) {mN:Str->Option Value} {rest:List Value} {fI:Addr} {oI:Obj}
  (hC:h.get? C=some (excClassObj nm q C N bs bm hdct sn sub ab col dd k0 k1 k2 k3 k5 newId)) (hn:h.Ns N mN) (hi:mN "__init__"=some (.ref fI)) (Ey:h.get? fI=some oI) (Ez:oI.cls=.type "function") (hl:rest.length<=sizeLine)
  (hq:∀ h' e,Heap.MadeExcOf h h' e (.ref C) rest->wpAny (model P w) (A.under (.builtin "type.__call__" ⟨.ref C::rest,[]⟩)) (call (.ref fI) (.ref e::rest)) (fun r s'=>r=.none/\Q (.ref e) s') E ⟨h',g,d,t,os⟩):
  wpAny (model P w) A (call (.ref C) rest) Q E ⟨h,g,d,t,os⟩:=by
 have f1:=tc_lookup
 have f2:=tc_bind (.ref C)
 have hT:(⟨h,g,d,t,os⟩:Shared).TypeIs (.ref C) "type":=⟨_,hC,rfl⟩
 refine wpAny_call (codeAny_of_tree ?_)
 show wpAny _ _ (callAny (.ref C) _) _ _ _
 repeat (any_goals (first | assumption | with_reducible refine wpAny_loadPart_at hC ?_ | wp_step))
 exact ⟨rfl,codeAny_call_builtin_at (Code.quiet_builtin _ (by decide+kernel)) entry_typeCall (wpAny_check_type_call_sub hC (w9 Fn CN F T hC hn hi Ey Ez hl hq))⟩
end
section
variable {nm q:Str} {N:Addr} {bs bm:List Value} {hdct:Bool} {sn:List Str} {sub:List Value} {ab:Bool} {col:Option Bool} {dd:Option Addr} {k0 k1 k2 k3 k5:Option Value} {newId:String}
theorem sZ {x:Sem Value} {Q:Flow->Shared->Prop} (hb:bm.contains (.type "BaseException")=true) (hh:A.handled=none)
  (h:wpAny M A x (fun v s1=>∃ e t dct,v=.ref e/\s1.heap.get? C=some (excClassObj nm q C N bs bm hdct sn sub ab col dd k0 k1 k2 k3 k5 newId)/\s1.heap.get? e=some {cls:=.ref C,dict:=dct,data:=.fields #[.ref t,.none,.none,.none,.bool false,.none]}/\E (.ref e) s1) E s):
  wpAny M A (raiseStmt env (some x) none) Q E s:=by
 have hB:(Value.ref C::bm).contains (.type "BaseException")=true:=by rw [List.contains_cons,hb,Bool.or_true]
 unfold raiseStmt
 refine QS (wpAny_mono h (fun v s1 ⟨e,t,dct,ev,hC,he,hE⟩=>?_) fun _ _ x=>x)
 subst ev
 obtain ⟨hp,g,d,tk,os⟩:=s1
 repeat (first | with_reducible refine wpAny_loadPart_at he ?_ | with_reducible refine wpAny_loadPart_at hC ?_ | (with_reducible refine wpAny_isSubtype_exc hC ?_;rw [hB]) | wp_step)
 exact wpAny_raiseNew_none hh hE
end
def nv (h:Heap) (e C:Addr) (dct:Option Addr):Prop:=∃ t,h.get? e=some {cls:=.ref C,dict:=dct,data:=.fields #[.ref t,.none,.none,.none,.bool false,.none]}
section
variable {g:Array GenState} {d:Drawn} {t:Nat} {os:OsState}
variable {nm q:Str} {N e:Addr} {bs bm bmB:List Value} {hdct:Bool} {sn:List Str} {sub:List Value} {ab:Bool} {col:Option Bool} {dd:Option Addr} {k0 k1 k2 k3 k5:Option Value} {B newId CM BA:String}
theorem wU (F:ExcBaseFacts B CM BA bmB) (T:OwnTail h bmB bm) (hC:h.get? C=some (excClassObj nm q C N bs bm hdct sn sub ab col dd k0 k1 k2 k3 k5 newId)) (he:nv h e C dct) {args:List Value} (hl:args.length<=sizeLine)
  (hq:∀ h',(∀ b o,b≠e->h.get? b=some o->h'.get? b=some o)->nv h' e C dct->Q .none ⟨h',g,d,t,os⟩):
  wpAny (model P w) A (call (.builtin BA) (.ref e::args)) Q E ⟨h,g,d,t,os⟩:=by
 obtain ⟨t0,he⟩:=he
 refine wpAny_call (codeAny_call_builtin F.init.plain F.initEntry (wpAny_check_init_subU F T hC he rfl ?_))
 wp_walk
 have h1:=Qc {cls:=.type "tuple",data:=.seq args.toArray} he
 refine hq _ (fun b o n q=>?_) ⟨h.objs.size,?_⟩
 ·rw [Heap.get?_update_other _ _ n.symm];exact Qc _ q
 ·exact Heap.get?_update_self _ h1 rfl
end
end L2
namespace L2
open PySem PySem.Spec PyProof.Rows PySem.W Builtin.ObjectAttr
abbrev CO:List Value:=[.type "ValueError",.type "Exception",.type "BaseException",.type "object"]
def qj (own:List Addr):List Value:=own.map Value.ref++CO
theorem fG (self:Value):∀ own:List Addr,refuseLoop self "__setattr__" (qj own)=pure ()
 | []=>PySem.F.store_ValueError.passes self
 | c::r=>by
  show refuseLoop self "__setattr__" (.ref c::qj r)=_
  rw [refuseLoop_ref];exact fG self r
theorem fB {v:Value} (h:v∈CO) (own:List Addr):(qj own).contains v=true:=by
 rw [List.contains_iff_mem];exact List.mem_append.mpr (.inr h)
section
variable {K:QZ} {e:Addr} {cd:ClassData} {own:List Addr} {v:Value}
theorem yX {Q:Unit->Shared->Prop} (X:K.In s.heap) (he:nv s.heap e C none) (hc:clsIn K C=some cd) (hm:cd.mro=qj own) (hd:cd.hasDict=true) (hs:findIn K (.ref C) "__setattr__"=some (some (.builtin "object.__setattr__"))) (ha:findIn K (.ref C) name=some none)
  (hq:∀ h' dx tk,s.heap.get? dx=none->(∀ b o,b≠e->s.heap.get? b=some o->h'.get? b=some o)->nv h' e C (some dx)->h'.Ns1 dx (fun y=>if y=name then some v else none)->Q () {s with heap:=h',toks:=tk}):
  wpAny (model P w) A (setAttr (.ref e) name v) Q E s:=by
 obtain ⟨t,he⟩:=he
 have I:InstAt s.heap e _ C none:=⟨he,rfl,rfl,trivial⟩
 have SF:=PySem.F.store_object
 refine set_plain X I hs ?_
 have X1:K.In ({s with toks:=s.toks+1}:Shared).heap:=X
 have I1:InstAt ({s with toks:=s.toks+1}:Shared).heap e _ C none:=I
 have ne:cd.mro.isEmpty=false:=by rw [hm];cases own<;>rfl
 have sub:Looks (model P w) s.heap (isInstance (.ref e) (.type "object")) true:=I.type.andThen (looks_mroIn X (by unfold mroIn;rw [hc,Option.bind_some,if_neg (by rw [ne];decide),hm,fB (by decide)]))
 refine codeAny_call_builtin SF.slot.plain SF.entry (@check_slot (model P w) _ _ _ "object.__setattr__" "object" "__setattr__" (.ref e) [.str name s.toks,v] [] _ SF.kind SF.split sub (SF.args (.ref e) (.str name s.toks) v) ?_)
 have Mt:Looks (model P w) ({s with toks:=s.toks+1}:Shared).heap (mroOf (.ref C)) cd.mro:=(looks_clsIn X hc).andThen .now
 rw [osa_eq,refuse_eq]
 refine QS (QS (I1.type.here (QS (Mt.here ?_))))
 rw [hm,fG]
 refine QT (QS (I1.type.here (QS ((looks_findIn X1 ha).here (QS (Looks.here (.now:Looks (model P w) ({s with toks:=s.toks+1}:Shared).heap (storeTaker? none) none) ?_))))))
 dsimp only
 obtain ⟨hp,gn,dr,tk,os⟩:=s
 dsimp only at he X hq
 have hes:e≠hp.objs.size:=Nat.ne_of_lt (Qz he)
 let ox:Obj:={cls:=.ref C,data:=.fields #[.ref t,.none,.none,.none,.bool false,.none]}
 have vg:(hp.push {cls:=.type "dict",data:=.dict #[]}).get? e=some ox:=Qc _ he
 let h2:Heap:=(hp.push {cls:=.type "dict",data:=.dict #[]}).update e fun o=>{o with dict:=some hp.objs.size}
 have Mu:h2.get? e=some {ox with dict:=some hp.objs.size}:=Heap.get?_update_self _ vg rfl
 have hd2:h2.get? hp.objs.size=some {cls:=.type "dict",data:=.dict #[]}:=(Heap.get?_update_ne _ _ _ _ hes.symm).trans (Qd _ rfl)
 have n2:h2.Ns hp.objs.size (fun _=>none):=⟨_,#[],_,hd2,rfl,fun e he=>absurd he (by simp),fun _=>rfl⟩
 unfold storeInOwnDict ownDictForStores instanceDict
 refine QS (QT (QS (QS (wpAny_loadPart (s:=⟨hp,gn,dr,tk+1,os⟩) he (QS ((looks_clsIn (M:=model P w) X hc).here (s:=⟨hp,gn,dr,tk+1,os⟩) ?_))))))
 rw [hd,if_neg (by decide)]
 dsimp only
 rw [if_neg (by simp [typeHasDict])]
 refine QS (wpAny_alloc' (QS (wpAny_update' vg (QT ?_))))
 show wpAny _ _ (storeInDict hp.objs.size (.str name tk) name v) _ _ ⟨h2,gn,dr,tk+1,os⟩
 unfold storeInDict newKeyGuard
 refine QS (QT (QS (wpAny_nsSet1 (Heap.Ns1.of_empty n2) fun h' hn' HD=>?_)))
 obtain ⟨oD,Pn,Po,Mv,Mw,Mx⟩:=hn'.count (Within.cons name v Within.nil)
 refine QS (wpAny_lookBehind Mv (by rw [Mw];exact pastItsLine_dict (Nat.le_trans Mx (by rw [List.length_cons,List.length_nil,QL];omega))) (QT ?_))
 refine hq h' hp.objs.size _ (Heap.get?_none_of_le (Qy _)) (fun b o n q=>?_) ⟨t,(HD.2 e hes).trans Mu⟩ hn'
 exact (HD.2 b (Nat.ne_of_lt (Qz q))).trans ((Heap.get?_update_ne _ _ _ _ n).trans (Qc _ q))
end
end L2
namespace L2
open PySem PySem.Spec PyProof.Rows
def s_ (h:Heap) (e C:Addr) (dct:Option Addr):Prop:=∃ vs:Array Value,h.get? e=some {cls:=.ref C,dict:=dct,data:=.fields vs}/\1 < vs.size/\
 (vs[1]? =some .none\/∃ T oT ts,vs[1]? =some (.ref T)/\T≠e/\h.get? T=some oT/\oT.data=.fields ts/\ts[3]? =some .none)
theorem nv.My {e:Addr} (x:nv h e C dct):s_ h e C dct:=let ⟨_,q⟩:=x;⟨_,q,Nat.succ_lt_succ (Nat.succ_pos _),.inl rfl⟩
section
variable {L e:Addr} {Q:Unit->Shared->Prop}
structure EA (fr:List Addr) (e:Addr) (h h':Heap):Prop where
 keep:∀ b o,b ∉ fr->b≠e->h.get? b=some o->h'.get? b=some o
 slot:∀ b o,b≠e->h.get? b=some o->∃ sl,h'.get? b=some {o with slots:=sl}
 CP:∀ b o,h.get? b=some o->∃ o',h'.get? b=some o'
theorem iG (jv:A.frames=some (env::outer)) (hl:s.heap.FunFrames base (env::outer)) (hf:env.frame=some L) (he:s_ s.heap e C dct) (xj:e ∉ (env::outer).filterMap (·.frame))
  (h:∀ h' tb,s.heap.get? tb=none->EA ((env::outer).filterMap (·.frame)) e s.heap h'->s_ h' e C dct->Q () {s with heap:=h'}):
  wpAny M A (noteFrame (.ref e) env) (fun _ s1=>wpAny M A (setFlight (.ref e) none) Q E s1) E s:=by
 obtain ⟨vs,g1,g2,g3⟩:=he
 have core:∀ (s1:Shared) (hd:Value) (b:Bool),s1.heap.FunFrames base (env::outer)->s1.heap.get? e=some {cls:=.ref C,dict:=dct,data:=.fields vs}->
   (∀ h' tb,s1.heap.get? tb=none->EA ((env::outer).filterMap (·.frame)) e s1.heap h'->s_ h' e C dct->Q () {s1 with heap:=h'})->
   wpAny M A (do let a <- frameOf env;let pl <- entryPlaceOf L b;let t <- EntryCells.newEntry hd a .none (rawInt L) .none pl;setField (.ref e) 1 t) (fun _ s2=>wpAny M A (setFlight (.ref e) none) Q E s2) E s1:=by
  intro s1 hd b i_ vg k
  refine QS (wpAny_frameOf_fun jv i_ hf fun h1 so=>?_)
  refine QS (wpAny_entryPlaceOf fun pl hpl=>?_)
  unfold EntryCells.newEntry newFields
  refine QS (wpAny_newObj_type ?_ (hpl.sizeOk5 _ _ _ _ _))
  have e1:h1.get? e=some {cls:=.ref C,dict:=dct,data:=.fields vs}:=(so.2.1 e xj).trans vg
  generalize HE:({cls:=.type "traceback",data:=.fields ([hd,Value.ref L,Value.none,rawInt L,Value.none]++if pl.isEmpty=true then List.replicate 6 Value.none else pl).toArray}:Obj)=ob
  have hob:ob.isFreed=false:=by rw [<- HE];rfl
  have e2:(h1.push ob).get? e=some {cls:=.ref C,dict:=dct,data:=.fields vs}:=Qc _ e1
  refine wpAny_setField e2 rfl g2 ?_
  have nT:h1.objs.size≠e:=Nat.ne_of_gt (Qz e1)
  have e3:((h1.push ob).update e (Obj.mapFields (·.setIfInBounds 1 (.ref h1.objs.size)))).get? e=some {cls:=.ref C,dict:=dct,data:=.fields (vs.setIfInBounds 1 (.ref h1.objs.size))}:=Heap.get?_update_self _ e2 rfl
  have t3:((h1.push ob).update e (Obj.mapFields (·.setIfInBounds 1 (.ref h1.objs.size)))).get? h1.objs.size=some ob:=(Heap.get?_update_other _ _ nT.symm).trans (Qd _ hob)
  generalize Mz:(h1.push ob).update e (Obj.mapFields (·.setIfInBounds 1 (.ref h1.objs.size)))=h2 at e3 t3
  unfold setFlight
  refine QS (wpAny_field (s:={s1 with heap:=h2}) e3 rfl (x:=.ref h1.objs.size) (by simp [g2]) ?_)
  rw [if_pos (show (Value.ref h1.objs.size !=Value.none)=true from by simp)]
  obtain ⟨ts,ht,vf⟩:∃ ts:Array Value,ob.data=.fields ts/\3 < ts.size:=⟨_,by rw [<- HE],by simp only [List.size_toArray,Qk,List.length_cons,List.length_nil];omega⟩
  refine wpAny_setField (s:={s1 with heap:=h2}) t3 ht vf ?_
  have kp:∀ b o,b≠e->h1.get? b=some o->(h2.update h1.objs.size (Obj.mapFields (·.setIfInBounds 3 ((none:Option Addr).elim Value.none fun f=>rawInt f)))).get? b=some o:=fun b o n q=>by
   rw [Heap.get?_update_other _ _ (Nat.ne_of_gt (Qz q)),<- Mz,Heap.get?_update_other _ _ n.symm]
   exact Qc _ q
  have e4:(h2.update h1.objs.size (Obj.mapFields (·.setIfInBounds 3 ((none:Option Addr).elim Value.none fun f=>rawInt f)))).get? e=some {cls:=.ref C,dict:=dct,data:=.fields (vs.setIfInBounds 1 (.ref h1.objs.size))}:=(Heap.get?_update_other _ _ nT).trans e3
  have t4:=Heap.get?_update_self (Obj.mapFields (·.setIfInBounds 3 ((none:Option Addr).elim Value.none fun f=>rawInt f))) t3 (Obj.isFreed_of_fields (Obj.data_mapFields ht _))
  refine k _ h1.objs.size (Heap.get?_none_of_le (by rw [so.1];exact Qy _)) ⟨fun b o n1 n2 q=>kp b o n2 ((so.2.1 b n1).trans q),fun b o n q=>?_,fun b o q=>?_⟩ ⟨_,e4,by simpa using g2,.inr ⟨h1.objs.size,_,_,by simp [g2],nT,t4,Obj.data_mapFields ht _,by simp [vf]⟩⟩
  ·obtain ⟨sl,q'⟩:=so.2.2 b o q
   exact ⟨sl,kp b _ n q'⟩
  ·by_cases n:b=e
   ·subst n;exact ⟨_,e4⟩
   ·obtain ⟨sl,q'⟩:=so.2.2 b o q
    exact ⟨_,kp b _ n q'⟩
 unfold noteFrame
 simp only [hf]
 rcases g3 with v1 | ⟨T,oT,ts,v1,ne,hT,ht,h3⟩
 ·refine QS (wpAny_field g1 rfl v1 ?_)
  rw [if_neg (by decide)]
  exact core s _ _ hl g1 h
 ·refine QS (wpAny_field g1 rfl v1 ?_)
  rw [if_pos (show (Value.ref T !=Value.none)=true from by simp)]
  refine QS (wpAny_field hT ht h3 ?_)
  rw [if_neg (show ¬((Value.none==rawInt L)=true) from by simp [rawInt])]
  refine QS (wpAny_setField hT ht (Array.getElem?_eq_some_iff.mp h3).1 ?_)
  have same:Obj.mapFields (·.setIfInBounds 3 Value.none) oT=oT:=by
   obtain ⟨oc,od,CQ,gz⟩:=oT
   have ht:CQ=.fields ts:=ht
   subst ht
   have:ts.setIfInBounds 3 Value.none=ts:=by
    obtain ⟨h4,h5⟩:=Array.getElem?_eq_some_iff.mp h3
    rw [<- h5,Array.setIfInBounds_def,dif_pos h4]
    exact Array.set_getElem_self h4
   show Obj.mk oc od (.fields (ts.setIfInBounds 3 Value.none)) gz=_
   rw [this]
  have tT:=Heap.get?_update_self (Obj.mapFields (·.setIfInBounds 3 Value.none)) hT (Obj.isFreed_of_fields (Obj.data_mapFields ht _))
  rw [same] at tT
  have ot:∀ b,(s.heap.update T (Obj.mapFields (·.setIfInBounds 3 Value.none))).get? b=s.heap.get? b:=fun b=>by
   by_cases z:b=T
   ·rw [z,tT,hT]
   ·exact Heap.get?_update_other _ _ (Ne.symm z)
  refine core {s with heap:=s.heap.update T (Obj.mapFields (·.setIfInBounds 3 Value.none))} _ _ (hl.of_keeps fun b o hb Pp=>⟨o,(ot b).trans hb,rfl⟩) ((ot e).trans g1) fun h' tb q n f=>h h' tb ((ot tb).symm.trans q) ⟨fun b o x y hb=>n.keep b o x y ((ot b).trans hb),fun b o x hb=>n.slot b o x ((ot b).trans hb),fun b o hb=>n.CP b o ((ot b).trans hb)⟩ f
end
def iq (C:Addr) (dct:Option Addr) (e:Addr):HO:=.ext fun h=>nv h e C dct
def jl (C:Addr) (dct:Option Addr) (e:Addr):HO:=.ext fun h=>∃ vs:Array Value,h.get? e=some {cls:=.ref C,dict:=dct,data:=.fields vs}
theorem oY {e:Addr} (x:nv h e C dct):bz P w H h e (iq C dct e):=⟨x,let ⟨_,q⟩:=x;⟨_,q⟩,fun h1 h2 ⟨t,q⟩ k=>⟨t,k _ q⟩⟩
theorem zZ {e:Addr} (x:s_ h e C dct):bz P w H h e (jl C dct e):=let ⟨_,q,_⟩:=x;⟨⟨_,q⟩,⟨_,q⟩,fun h1 h2 ⟨t,q⟩ k=>⟨t,k _ q⟩⟩
def jm (P:Program) (w:World):pe:=fun outer H s E ev s'=>∃ (e C:Addr) (dct:Option Addr) (H':Hp),ev=.ref e/\s'.os=s.os/\AllBare s'.gens/\Un (eu outer) [] H H' s.heap s'.heap/\cf P w H' s'.heap/\H' e=some (jl C dct e)/\s_ s'.heap e C dct/\E (.ref e) dct H'
section
variable {e:Addr}
theorem cf.noted {fr:List Addr} {u:HO} (x:cf P w H h) (n:EA fr e h h') (hf:∀ b∈fr,H b=none) (he:H e=some u) (nt:∀ xs,H e≠some (.tup xs)) (nz:∀ o v,H e≠some (.fj o v)) (no:∀ y,H e≠some (.own y)) (f:s_ h' e C dct):cf P w (upd H e (jl C dct e)) h':=by
 intro b o q
 by_cases z:b=e
 ·subst z;rw [aA] at q;cases q;exact zZ f
 ·rw [aM z] at q
  refine (x b o q).stay (fun c v hc g=>?_) (fun c g=>?_) fun c xs g=>g.upd fun u hu z=>?_
  ·have hn:∃ k,H c=some k:=by
    rcases hc with rfl | hc
    ·exact ⟨_,q⟩
    ·exact ⟨_,hc⟩
   obtain ⟨k,hk⟩:=hn
   refine n.keep c v (fun w=>by rw [hf c w] at hk;cases hk) (fun w=>?_) g
   rcases hc with rfl | hc
   ·exact z w
   ·rw [w] at hc;exact no _ hc
  ·rw [aM fun w=>no _ (by rw [<- w];exact g)];exact g
  ·subst z
   rcases g with g | ⟨o',g⟩
   ·exact nt _ g
   ·exact nz _ _ g
theorem tS {K:QZ} {f:Addr} {cd:Value} {s0:Shared} {E:XK}
  (I:Inv (gb (jm P w) P w K mg base N qual scope f cd A outer s0 H0 E) pins σ H s) (he:H e=some (iq C dct e)) (q:E (.ref e) dct (upd H e (jl C dct e))):
  (gb (jm P w) P w K mg base N qual scope f cd A outer s0 H0 E).xe (.ref e) s:=by
 have hx:nv s.heap e C dct:=(show bz P w H s.heap e (iq C dct e) from I.hok e _ he).1
 have fr:∀ b∈eu (envOfC qual scope s0.heap.objs.size f cd::outer),H b=none:=I.Ba
 have xj:e ∉ eu (envOfC qual scope s0.heap.objs.size f cd::outer):=fun z=>by rw [fr e z] at he;cases he
 show wpAny _ _ (leaving _ _) _ _ s
 unfold leaving
 refine QS (iG (base:=base) (outer:=outer) (L:=s0.heap.objs.size) I.ok.frames I.stack rfl hx.My xj fun h' tb _ n fl=>?_)
 refine ⟨e,C,dct,upd H e (jl C dct e),rfl,I.os,I.bare,?_,cf.noted I.hok n fr he (fun xs z=>by rw [he] at z;cases z) (fun o v z=>by rw [he] at z;cases z) (fun y z=>by rw [he] at z;cases z) fl,aA,fl,q⟩
 have B:Un (eu outer) [] H0 H s0.heap s.heap:=I.base
 have nL:∀ b o,s0.heap.get? b=some o->b ∉ eu outer->b ∉ eu (envOfC qual scope s0.heap.objs.size f cd::outer):=fun b o q hb z=>by
  have z':b∈s0.heap.objs.size::eu outer:=z
  rcases Qp.mp z' with z' | z'
  ·exact absurd (Qz q) (by rw [z'];exact Nat.lt_irrefl _)
  ·exact hb z'
 have ne:∀ {b},H b=none->b≠e:=fun hb z=>by rw [z,he] at hb;cases hb
 refine ⟨fun b o q hn hb hx=>n.keep b o (nL b o q hb) (ne (B.free b o q hn hx)) (B.keep b o q hn hb hx),fun b o q hn hb hx=>?_,fun b o q hn hx=>by rw [aM (ne (B.free b o q hn hx))];exact B.free b o q hn hx,fun b o q hx=>?_,fun b xs q=>?_,fun b o u q=>?_,fun b ps q=>?_⟩
 ·obtain ⟨sl,q'⟩:=B.slot b o q hn hb hx
  obtain ⟨yj,EB⟩:=n.slot b _ (ne (B.free b o q hn hx)) q'
  exact ⟨yj,EB⟩
 ·obtain ⟨o',q'⟩:=B.there b o q hx
  exact n.CP b o' q'
 ·have:=B.tups b xs q
  rw [aM fun z=>by rw [z,he] at this;cases this];exact this
 ·have:=B.jc b o u q
  rw [aM fun z=>by rw [z,he] at this;cases this];exact this
 ·obtain ⟨mo,this⟩:=B.jt b ps q
  exact ⟨mo,by rw [aM fun z=>by rw [z,he] at this;cases this];exact this⟩
theorem qz {Q:Unit->Shared->Prop} {E':Value->Shared->Prop} {E:XK} {ev:Value} (I:Inv X pins σ H s) (hst:X.stack=X.env::X.outer) (jv:X.env.frame=some X.env.locals) (c:jm X.prog X.w X.stack H s E ev s')
  (k:∀ (e C:Addr) (dct:Option Addr) (H':Hp) (s2:Shared),ev=.ref e->Inv X pins σ H' s2->H' e=some (jl C dct e)->E (.ref e) dct H'->s_ s2.heap e C dct->Q () s2):
  wpAny (model X.prog X.w) X.A (noteFrame ev X.env) (fun _ s1=>wpAny (model X.prog X.w) X.A (setFlight ev none) Q E' s1) E' s':=by
 obtain ⟨e,C,dct,H',rfl,os,bare,un,hok,he,fl,q⟩:=c
 have I1:=I.Dv os un hok bare (fun b z=>absurd z (by simp))
 have fr:∀ b∈eu X.stack,H' b=none:=I1.Ba
 have xj:e ∉ eu X.stack:=fun z=>by rw [fr e z] at he;cases he
 have fk:=I1.ok.frames
 have sk:=I1.stack
 rw [hst] at fr xj fk sk
 refine iG fk sk jv fl xj fun h' tb _ n BB=>?_
 have zg:=cf.noted hok n fr he (fun xs z=>by rw [he] at z;cases z) (fun o v z=>by rw [he] at z;cases z) (fun y z=>by rw [he] at z;cases z) BB
 rw [kC he] at zg
 have ne:∀ {b},H' b=none->b≠e:=fun hb z=>by rw [z,he] at hb;cases hb
 have MA:eu (X.env::X.outer)=X.env.locals::X.fs:=by unfold eu;rw [List.filterMap_cons,jv];rfl
 have I2:Inv X pins σ H' {s' with heap:=h',gens:=s'.gens,drawn:=s'.drawn,toks:=s'.toks}:=by
  refine I1.step (ch:=[]) (fun _ z=>nomatch z) (fun b o h1 h2 _ g hn=>n.keep b o (fun z=>?_) (ne hn) g) (fun b o _ _ _ g hn=>n.slot b o (ne hn) g) (fun b o _ g hn=>hn) (fun b o _ g=>n.CP b o g) (fun _ _ g=>g) (fun _ _ _ g=>g) (fun b ps g=>⟨#[],by rw [g];simp⟩) (fun m hm=>?_) zg I1.bare
  ·rw [show (X.env::X.outer).filterMap (·.frame)=X.env.locals::X.fs from MA] at z
   rcases Qp.mp z with z | z
   ·exact h1 z
   ·exact h2 z
  ·obtain ⟨o,es,ep,ho,hd,r⟩:=hm
   obtain ⟨sl,q'⟩:=n.slot _ o (ne I1.free) ho
   exact ⟨_,es,ep,q',hd,r⟩
 exact k e C dct H' _ rfl I2 he q BB
end
end L2
namespace L2
open PySem PySem.Spec PyProof.Rows PySem.W
abbrev Cx.qz (X:Cx) (e:Addr):Cx:={X with A:=X.A.mark (some (.ref e)),calm:=false,xe:=fun _ _=>False}
section
variable {e CC:Addr}
theorem Inv.qz (I:Inv X pins σ H s) (e:Addr):Inv (X.qz e) pins σ H s:=
 ⟨⟨I.ok.mod,I.ok.kind,I.ok.glob,I.ok.blt,I.ok.above,I.ok.inj,I.ok.has,I.ok.yk,(fun z=>nomatch z),I.ok.frames,I.ok.Am,I.ok.B9,I.ok.bs,I.ok.qm,I.ok.yl,I.ok.An,I.ok.lh,I.ok.uu⟩,I.os,I.bare,I.base,I.loc,I.cell,I.free,I.j_,I.pin,I.hok,I.len⟩
theorem Inv.uncaught (I:Inv (X.qz e) pins σ H s) (ok:X.Ok):Inv X pins σ H s:=⟨ok,I.os,I.bare,I.base,I.loc,I.cell,I.free,I.j_,I.pin,I.hok,I.len⟩
structure CS (K:Frag) (CC:Addr):Prop where
 ty:typeIn K (.ref CC)=some (.type "type")
 tu:subIn K (.type "type") (.type "tuple")=some false
 cl:∃ cd,clsIn K CC=some cd
 ex:subIn K (.ref CC) (.type "BaseException")=some true
theorem x3 (x:cf P w H s.heap) (he:H e=some (jl C dct e)):∃ vs:Array Value,s.heap.get? e=some {cls:=.ref C,dict:=dct,data:=.fields vs}:=(show bz P w H s.heap e (jl C dct e) from x e _ he).1
theorem pF {o:Obj} (q:h.get? e=some o):Looks M h (typeOf (.ref e)) o.cls:=(Looks.ld q).andThen .now
theorem sX {K:Frag} {b:Bool} {Q:Bool->Shared->Prop} {o:Obj} (X:K.In s.heap) (N:CS K CC) (hs:subIn K (.ref C) (.ref CC)=some b) (ho:s.heap.get? e=some o) (hc:o.cls=.ref C) (q:Q b s):
  wpAny M A (excMatches (.ref e) (.ref CC)) Q E s:=by
 have t1:Looks M s.heap (isInstance (.ref CC) (.type "tuple")) false:=(looks_typeIn X N.ty).andThen (looks_subIn X N.tu)
 have t2:Looks M s.heap (isType (.ref CC)) true:=by
  obtain ⟨cd,hc⟩:=N.cl
  unfold clsIn at hc
  split at hc
  ·rename_i ho;cases hc;exact (Looks.ld (part:=some headPart) (X _ _ ho)).andThen .now
  ·cases hc
 have t3:Looks M s.heap (isExcClass (.ref CC)) true:=t2.andThen (by rw [if_pos rfl];exact looks_subIn X N.ex)
 have t4:Looks M s.heap (typeOf (.ref e)) (.ref C):=by rw [<- hc];exact pF ho
 unfold excMatches
 refine QS (t1.here ?_)
 dsimp only
 rw [if_neg (by decide)]
 refine QS (QT ?_)
 simp only [List.forIn_cons,List.forIn_nil]
 refine QS (QS (QS (t3.here ?_)))
 refine QT (QT (QS (t4.here ?_)))
 refine QS (QS (QS ((looks_subIn X hs).here ?_)))
 cases b with
 | true=>exact QT (QT (QT q))
 | false=>exact QT (QT (QT q))
def PH (X:Cx) (hs:List ExceptHandler) (th:Addr->Addr->Option Addr->TS):Prop:=
 ∀ (pins:List (Addr×Obj)) (s:Shared) (σ:St) (H:Hp) (D:Ends) (e C:Addr) (dct:Option Addr),Inv X pins σ H s->H e=some (jl C dct e)->s_ s.heap e C dct->th e C dct D σ H->wpAny (model X.prog X.w) X.A (handleBy (.ref e) X.env hs) (SP X pins D) X.xe s
def HH:Addr->Addr->Option Addr->TS:=fun _ _ _ _ _ _=>False
def HJ (K:Frag) (CC:Addr) (j:Nat) (ts:TS) (th:Addr->Addr->Option Addr->TS):Addr->Addr->Option Addr->TS:=fun e C dct D σ H=>∃ b,subIn K (.ref C) (.ref CC)=some b/\
 if b=true then ts {nx:=fun σ' H'=>D.nx (σ'.set j none) H',rt:=D.rt,bk:=fun σ' H'=>D.bk (σ'.set j none) H',ct:=fun σ' H'=>D.ct (σ'.set j none) H'} (σ.set j (some (.ref e))) H else th e C dct D σ H
theorem MB:PH X [] HH:=fun _ _ _ _ _ _ _ _ _ _ _ h=>h.elim
theorem j7 {Q:Unit->Shared->Prop} (f:s_ s.heap e C dct) (h:∀ h',(∀ b,h'.get? b=s.heap.get? b)->Q () {s with heap:=h'}):wpAny M A (setFlight (.ref e) none) Q E s:=by
 obtain ⟨vs,g1,g2,g3⟩:=f
 unfold setFlight
 rcases g3 with v1 | ⟨T,oT,ts,v1,ne,hT,ht,h3⟩
 ·refine QS (wpAny_field g1 rfl v1 ?_)
  rw [if_neg (by decide)]
  exact QT (h s.heap fun _=>rfl)
 ·refine QS (wpAny_field g1 rfl v1 ?_)
  rw [if_pos (show (Value.ref T !=Value.none)=true from by simp)]
  refine wpAny_setField hT ht (Array.getElem?_eq_some_iff.mp h3).1 (h _ fun b=>?_)
  have same:Obj.mapFields (·.setIfInBounds 3 Value.none) oT=oT:=by
   obtain ⟨oc,od,CQ,gz⟩:=oT
   have ht:CQ=.fields ts:=ht
   subst ht
   have:ts.setIfInBounds 3 Value.none=ts:=by
    obtain ⟨h4,h5⟩:=Array.getElem?_eq_some_iff.mp h3
    rw [<- h5,Array.setIfInBounds_def,dif_pos h4]
    exact Array.set_getElem_self h4
   show Obj.mk oc od (.fields (ts.setIfInBounds 3 Value.none)) gz=_
   rw [this]
  by_cases z:b=T
  ·subst z
   have tT:=Heap.get?_update_self (Obj.mapFields (·.setIfInBounds 3 Value.none)) hT (Obj.isFreed_of_fields (Obj.data_mapFields ht _))
   rw [same] at tT
   exact tT.trans hT.symm
  ·exact Heap.get?_update_other _ _ (Ne.symm z)
theorem MC {c y:Str} {cp:Pos} {b0:Stmt} {BC:List Stmt} {rest:List ExceptHandler} {ts:TS} {th:Addr->Addr->Option Addr->TS} (hg:Gl X c) (hm:X.mg c=some (.ref CC)) (N:CS X.K CC) (hN:X.N.Nodup) (hj:X.N[j]? =some y) (hy:X.env.scope.names.lookup y=some .local)
  (hs:∀ e,ju (X.qz e) (b0::BC) ts) (hr:PH X rest th) (hd:(c==("__debug__":Str))=false:=by decide):PH X (.ExceptHandler (some (.Name c cp)) (some y) (b0::BC) pos::rest) (HJ X.K CC j ts th):=by
 intro pins s σ H D e C dct I he fl h
 obtain ⟨b,hb,h⟩:=h
 have Ic:=I.qz e
 refine wpAny_handleBy_cons (codeAny_handlers_test (eA (X:=X.qz e) Ic hg hm ?_ hd)) (by intro q;cases q)
 obtain ⟨vs,ho⟩:=x3 I.hok he
 refine sX I.cz N hb ho rfl ?_
 cases b with
 | false=>exact hr pins s σ H D e C dct I he fl h
 | true=>
  refine codeAny_handlers_suite_as (j7 fl fun h' same=>?_)
  have I2:Inv X pins σ H {s with heap:=h'}:=I.kept (t':=s.toks) fun b o q=>(same b).trans q
  refine dR (v:=.ref e) I2 hN hj (.inl hy) rfl (fun s3 I3 _=>?_) (.inr hy)
  rw [if_pos rfl] at h
  refine wpAny_mono (hs e pins s3 _ H _ (I3.qz e) h) (fun f s4 q4=>?_) fun _ _ z=>z.elim
  have gone:∀ {σ':St} {H':Hp} {R:Unit->Shared->Prop},Inv (X.qz e) pins σ' H' s4->(∀ s5,Inv X pins (σ'.set j none) H' s5->R () s5)->wpAny (model X.prog X.w) X.A (do bindName X.env y .none;unbindBehindTheSuite X.env y pos) R X.xe s4:=by
   intro σ' H' R J k
   have J:=J.uncaught I.ok
   obtain ⟨m,hn,hl⟩:=id J.loc
   refine wpAny_nameGoes_keeps (by show X.env.scope.names.lookup y=some .local;exact hy) hn (by rw [I.ok.kind];rfl) fun h5 v n5 sb=>k _ ?_
   have kp:∀ b o,b≠X.env.locals->s4.heap.get? b=some o->h5.get? b=some o:=fun b o n q=>(sb.2 b n).trans q
   have nL:∀ {b o},X.s₀.heap.get? b=some o->b≠X.env.locals:=fun q=>Nat.ne_of_lt (Nat.lt_of_lt_of_le (Qz q) I.ok.above)
   have nT:∀ {b u},H' b=some u->b≠X.env.locals:=fun q z=>by rw [z,J.free] at q;cases q
   refine ⟨J.ok,J.os,J.bare,⟨fun b o e n hb hx=>kp b o (nL e) (J.base.keep b o e n hb hx),fun b o e n hb hx=>?_,J.base.free,fun b o e hx=>?_,J.base.tups,J.base.jc,J.base.jt⟩,⟨_,n5,fun i x v' e1 e2 e3=>?_⟩,fun x c q=>?_,J.free,J.j_,fun p hp=>?_,fun b u q=>?_,by rw [List.length_set];exact J.len⟩
   ·obtain ⟨sl,q⟩:=J.base.slot b o e n hb hx
    exact ⟨sl,kp b _ (nL e) q⟩
   ·obtain ⟨o',q⟩:=J.base.there b o e hx
    exact ⟨o',kp b _ (nL e) q⟩
   ·by_cases xn:i=j
    ·subst xn
     have b_:i < σ'.length:=by rw [J.len];exact (List.getElem?_eq_some_iff.mp hj).1
     rw [List.getElem?_set_self b_] at e2;cases e2
    ·rw [List.getElem?_set_ne (Ne.symm xn)] at e2
     obtain ⟨u,r,q⟩:=hl i x v' e1 e2 e3
     refine ⟨u,r,?_⟩
     rcases q with ⟨k1,q⟩ | ⟨k1,c,q,z⟩
     ·have:x≠y:=fun z=>xn (kD hN e1 (z▸hj))
      exact .inl ⟨k1,by simp [this,q]⟩
     ·exact .inr ⟨k1,c,q,z.sameBut sb (J.uv x c q)⟩
   ·obtain ⟨w',z⟩:=J.cell x c q
    exact ⟨w',z.sameBut sb (J.uv x c q)⟩
   ·obtain ⟨q,n,ne,nf,d⟩:=J.pin p hp
    exact ⟨kp _ _ ne q,n,ne,nf,d⟩
   ·refine (J.hok b u q).stay (fun c w' hc g=>kp c w' ?_ g) (fun _ g=>g) fun _ _ g=>g
    rcases hc with rfl | hc
    ·exact nT q
    ·exact nT hc
  cases f with
  | next=>
   obtain ⟨σ',H',J,q⟩:=q4
   exact gone J fun s5 I5=>⟨_,_,I5,q⟩
  | brk=>
   obtain ⟨σ',H',J,q⟩:=q4
   exact gone J fun s5 I5=>⟨_,_,I5,q⟩
  | cont=>
   obtain ⟨σ',H',J,q⟩:=q4
   exact gone J fun s5 I5=>⟨_,_,I5,q⟩
  | ret u=>
   obtain ⟨v,σ',H',J,rv,q⟩:=q4
   exact gone J fun s5 I5=>⟨v,_,_,I5,rv,q⟩
end
theorem wE {C' e:Addr} {d d':Option Addr} (h:jl C d e=jl C' d' e):C=C'/\d=d':=by
 have h1:=HO.ext.inj h
 let hp:Heap:={objs:=Array.replicate (e+1) {cls:=.ref C,dict:=d,data:=.fields #[]}}
 have g:hp.get? e=some {cls:=.ref C,dict:=d,data:=.fields #[]}:=by
  rw [Heap.get?_some_iff]
  exact ⟨by simp [hp],rfl⟩
 have h2:∃ vs:Array Value,hp.get? e=some {cls:=.ref C',dict:=d',data:=.fields vs}:=(congrFun h1 hp)▸⟨_,g⟩
 obtain ⟨vs,q⟩:=h2
 rw [g] at q
 injection q with q
 injection q with a b
 injection a with a
 exact ⟨a,b⟩
def xo (P:Program) (w:World) (K:Frag) (mg:Str->Option Value) (base:Heap) (k:Nat) (x:Str) (ps:List Str) (sp:Sp):Prop:=
 ∃ (f:Addr) (fd:FuncData),mw P w K mg base (jm P w) k f fd ps sp/\mg x=some (.ref f)/\keepIn K (.ref f)=true/\Binds K fd ps []
section
variable {k:Nat} {y:Str} {sp:Sp} {epos yp:Pos} {h0:ExceptHandler} {hs:List ExceptHandler} {th:Addr->Addr->Option Addr->TS}
abbrev EC (th:Addr->Addr->Option Addr->TS) (D:Ends) (σ:St):XK:=fun ev dct H2=>∀ e C,ev=.ref e->H2 e=some (jl C dct e)->th e C dct D σ H2
theorem uK {D:Ends} {Q:VK} {R:Value->Shared->Prop} (F:xo X.prog X.w X.K X.mg X.base k x ps sp) (hr:dg k X.A) (hg:Gl X x) (ha:PA X.qt (e::es) ta) (hh:PH X (h0::hs) th) (hst:X.stack=X.env::X.outer) (jv:X.env.frame=some X.env.locals)
  (I:Inv X pins σ H s) (h:ta σ H fun vs H1=>sp vs H1 Q (EC th D σ)) (k1:∀ v u H2 s2,Inv X pins σ H2 s2->RelV v u->Q v H2->R u s2)
  (fg:(x==("__debug__":Str))=false) (he:starEach (e::es) X.env=(false,eval e X.env)::starEach es X.env) (hpl:(backTo cpos (starEach es X.env)).any (·.1)=false):
  wpAny (model X.prog X.w) X.A (eval (.Call (.Name x p) (e::es) [] cpos) X.env) R (fun ev s1=>wpAny (model X.prog X.w) X.A (noteFrame ev X.env) (fun _ s₂=>wpAny (model X.prog X.w) X.A (setFlight ev none) (fun _ s₃=>wpAny (model X.prog X.w) X.A (handleBy ev X.env (h0::hs)) (SP X pins D) X.xe s₃) X.xe s₂) X.xe s1) s:=by
 obtain ⟨f,fd,F,hm,hk,hb⟩:=F
 refine wpAny_Call_Name_kw (eA I hg hm ?_ fg)
 have In:Inv X.qt pins σ H s:=⟨⟨I.ok.mod,I.ok.kind,I.ok.glob,I.ok.blt,I.ok.above,I.ok.inj,I.ok.has,I.ok.yk,I.ok.hd,I.ok.frames,I.ok.Am,I.ok.B9,I.ok.bs,I.ok.qm,I.ok.yl,I.ok.An,I.ok.lh,I.ok.uu⟩,I.os,I.bare,I.base,I.loc,I.cell,I.free,I.j_,I.pin,I.hok,I.len⟩
 refine callWith_K (h₀:=X.base) I.ok.mod.Ak hk (wpAny_mono (ha cpos pins s σ H _ In h) (fun us s1 q=>?_) fun _ _ z=>z.elim) he hpl
 obtain ⟨vs,H1,I1,r,q⟩:=q
 have I1:Inv X pins σ H1 s1:=⟨I.ok,I1.os,I1.bare,I1.base,I1.loc,I1.cell,I1.free,I1.j_,I1.pin,I1.hok,I1.len⟩
 refine ⟨I1.cz,?_⟩
 have hl:us.length=ps.length:=by rw [<- r.length];exact F.len _ _ _ _ q
 refine wpAny_call (codeAny_mono (F.run X.A X.stack s1 H1 ⟨us,[]⟩ us vs Q (EC th D σ) hr I1.Cn (by have:=hb s1 us I1.cz (by simpa using hl);simpa using this) r q) fun r s' hq=>?_)
 cases r with
 | error ev=>exact qz I1 hst jv hq fun e C dct H' s2 ee I2 xq q' fl=>by subst ee;exact hh pins s2 σ H' D e C dct I2 xq fl (q' e C rfl xq)
 | ok fl=>
  cases fl with
  | ret u=>
   obtain ⟨v,H2,I2,rv,q2⟩:=I1.after hq
   exact k1 v u H2 s' I2 rv q2
  | next=>exact hq.elim
  | brk=>exact hq.elim
  | cont=>exact hq.elim
def HK (i:Nat) (sp:Sp) (ta:TA) (th:Addr->Addr->Option Addr->TS):TS:=fun D σ H=>ta σ H fun vs H1=>sp vs H1 (fun v H2=>D.nx (σ.set i (some v)) H2) (EC th D σ)
theorem vC (F:xo X.prog X.w X.K X.mg X.base k x ps sp) (hr:dg k X.A) (hg:Gl X x) (ha:PA X.qt (e::es) ta) (hh:PH X (h0::hs) th) (hst:X.stack=X.env::X.outer) (jv:X.env.frame=some X.env.locals)
  (hN:X.N.Nodup) (hi:X.N[i]? =some y) (hy:X.env.scope.names.lookup y=some .local)
  (fg:(x==("__debug__":Str))=false:=by decide) (he:starEach (e::es) X.env=(false,eval e X.env)::starEach es X.env:=by rfl) (hpl:(backTo cpos (starEach es X.env)).any (·.1)=false:=by rfl)
  (vc:swapsWith (.Call (.Name x p) (e::es) [] cpos) (some (.Name y yp)) epos.line X.env=pure false:=by rfl):PS X (.Try [.Assign [.Name y yp] (.Call (.Name x p) (e::es) [] cpos) epos] (h0::hs) [] [] pos) (HK i sp ta th):=by
 intro pins s σ H D I h
 refine wpAny_Try_except (wpAny_execs_cons (wpAny_Assign_Name (uK (Q:=fun v H2=>D.nx (σ.set i (some v)) H2) F hr hg ha hh hst jv I h (fun v u H2 s2 I2 rv q=>?_) fg he hpl) vc))
 exact dR I2 hN hi (.inl hy) rv (fun s3 I3 _=>wpAny_execs_nil (wpAny_execs_nil ⟨_,H2,I3,q⟩)) (.inr hy)
end
end L2
namespace L2
open PySem PySem.Spec PySem.W PyProof.Rows
def ED:Data->Bool
 | .freed=>false
 | _=>true
def zj:Nat->List Obj->Frag
 | _,[]=>[]
 | n,o::os=>if ED o.data then (n,o)::zj (n+1) os else zj (n+1) os
def EE (h:Heap):Frag:=zj 0 h.objs.toList
theorem eJ:∀ {os:List Obj} {n a:Nat} {o:Obj},(zj n os).lookup a=some o->n<=a/\os[a - n]? =some o/\ED o.data=true
 | [],n,a,o,h=>by simp [zj] at h
 | x::os,n,a,o,h=>by
  unfold zj at h
  have next:(zj (n+1) os).lookup a=some o->n<=a/\(x::os)[a - n]? =some o/\ED o.data=true:=fun h=>by
   obtain ⟨h1,h2,h3⟩:=eJ h
   refine ⟨by omega,?_,h3⟩
   obtain ⟨k,hk⟩:∃ k,a - n=k+1:=⟨a - n - 1,by omega⟩
   rw [hk,List.getElem?_cons_succ,<- h2]
   congr 1;omega
  split at h
  ·rename_i hf
   rw [List.lookup_cons] at h
   split at h
   ·rename_i e
    obtain rfl:a=n:=by simpa using e
    cases h
    exact ⟨Qy _,by simp,hf⟩
   ·exact next h
  ·exact next h
theorem pQ (h:Heap):(EE h).In h:=fun a o e=>by
 obtain ⟨_,h2,h3⟩:=eJ e
 have za:h.objs[a]? =some o:=by rw [<- Array.getElem?_toList];simpa using h2
 unfold Heap.get?
 rw [za]
 obtain ⟨c,d,dt,sl⟩:=o
 cases dt<;>first | rfl | cases h3
def qk {α:Type} (look:Frag->α) (want:World->α):Hook where
 α:=α
 obs s:=look (EE s.heap)
 val:=want
 says w h:=∃ K:Frag,K.In h/\look K=want w
 of:=fun w s e=>⟨EE s.heap,pQ _,e⟩
 keeps:=fun w h h' ⟨K,x,e⟩ k=>⟨K,fun a o l=>k a o (x a o l),e⟩
theorem uL {p q:Program} {Xt:Shared->Bool} {Yf:Shared->α} {Ya:World->α} {N:Nat} {g0:Bool} (row:String)
  (hF:∀ w:World,(openEnds treeTable p (w.withFollow row false) N).map (fun s=>(openSeen q loose (importedModules p.main.body) Xt g0 s,Yf s))=some (openGood q loose,Ya (w.withFollow row false)))
  (hT:∀ w:World,(openEnds treeTable p (w.withFollow row true) N).map (fun s=>(openSeen q loose (importedModules p.main.body) Xt g0 s,Yf s))=some (openGood q loose,Ya (w.withFollow row true))):LeftO p q loose Xt Yf Ya N g0:=fun w=>by
 have e:=World.withFollow_self w row
 cases hb:w.params.followText row<;>rw [hb] at e
 ·have:=hF w;rw [e] at this;exact this
 ·have:=hT w;rw [e] at this;exact this
abbrev zk:=Str×Str×Arguments×FuncBody×Scope×Addr×List (Str×Addr)×Value×Addr×Bool
def fnAt (K:Frag) (q:Str):Option (Option Value)->Option zk
 | some (some (.ref f))=>(match K.lookup f with
  | some ⟨_,_,.func fd,_⟩=>some (fd.name,fd.qualname,fd.params,fd.body,fd.scope,fd.globals,fd.closure,fd.defaults,fd.builtins,codeIn K fd.code q)
  | _=>none)
 | _=>none
def zm (x q:Str) (st:Stmt):zk:=(x,q,mz st,.stmts (iw st),bh st,mainGlobals,[],.none,builtinsNs,true)
def zo (K:Frag):List (Str×Stmt)->List (Option zk)
 | []=>[]
 | x::l=>fnAt K x.1 (nsIn K mainGlobals x.1)::zo K l
def zp:List (Str×Stmt)->List (Option zk)
 | []=>[]
 | x::l=>some (zm x.1 x.1 x.2)::zp l
def CT (K:Frag) (x:Str):Option V:=match nsIn K mainGlobals x with
 | some (some v)=>uw v
 | _=>none
def CU (K:Frag):List (Str×V)->List (Option V)
 | []=>[]
 | x::l=>CT K x.1::CU K l
def CV:List (Str×V)->List (Option V)
 | []=>[]
 | x::l=>some x.2::CV l
abbrev AI:=Value×Option Addr×List (Option V)
def CW:List Value->List (Option V)
 | []=>[]
 | v::l=>uw v::CW l
def CY:List V->List (Option V)
 | []=>[]
 | v::l=>some v::CY l
def BD (K:Frag):Value->Option AI
 | .ref a=>(match K.lookup a with
  | some ⟨c,d,.seq it _,_⟩=>some (c,d,CW it.toList)
  | _=>none)
 | _=>none
def AJ (xs:List V):AI:=(.type "tuple",none,CY xs)
def MD (K:Frag) (x:Str):Option AI:=match nsIn K mainGlobals x with
 | some (some v)=>BD K v
 | _=>none
def HL (K:Frag):List (Str×List V)->List (Option AI)
 | []=>[]
 | x::l=>MD K x.1::HL K l
def HM:List (Str×List V)->List (Option AI)
 | []=>[]
 | x::l=>some (AJ x.2)::HM l
def AK (K:Frag):List Str->Bool
 | []=>true
 | x::l=>(match nsIn K mainGlobals x with | some none=>true | _=>false)&&AK K l
section
variable {K:Frag}
theorem eW {v:Value} {x:V} (e:uw v=some x):RelV x v:=by
 cases v<;>first | (cases e;first | rfl | exact ⟨_,rfl⟩) | cases e
theorem lH:∀ {us:List Value} {xs:List V},CW us=CY xs->a_ xs us
 | [],[],_=>.nil
 | [],_::_,e=>by cases e
 | _::_,[],e=>by cases e
 | u::us,x::xs,e=>by
  have e':=List.cons.inj (show uw u::CW us=some x::CY xs from e)
  exact .cons (eW e'.1) (lH e'.2)
theorem qL {q:Str} {st:Stmt} {v:Option (Option Value)} (e:fnAt K q v=some (zm x q st)):∃ f fd,v=some (some (.ref f))/\wy K x q st f fd:=by
 unfold fnAt at e
 split at e
 ·rename_i f
  split at e
  ·rename_i oc od fd gz hl
   have e:=QD e
   unfold zm at e
   obtain ⟨n,qn,ps,b,sc,gl,cl,df,kd,doc,pm,an,cd,ct,bt⟩:=fd
   simp only [Prod.mk.injEq] at e
   obtain ⟨rfl,rfl,rfl,rfl,rfl,rfl,rfl,rfl,rfl,hc⟩:=e
   refine ⟨f,_,rfl,zA hl hc ?_⟩
   unfold keepIn
   simp only [hl]
  ·cases e
 ·cases e
theorem qM:∀ {l:List (Str×Stmt)},zo K l=zp l->∀ (i:Nat) {x:Str} {st:Stmt},l[i]? =some (x,st)->fnAt K x (nsIn K mainGlobals x)=some (zm x x st)
 | y::l,e,0,x,st,h=>by cases h;exact (List.cons.inj e).1
 | y::l,e,i+1,x,st,h=>qM (List.cons.inj e).2 i (by simpa using h)
theorem pM (X:K.In h) (G:h.Ns mainGlobals mg) {l:List (Str×Stmt)} (e:zo K l=zp l) (i:Nat) {st:Stmt} (hi:l[i]? =some (x,st))
  (hb:∀ (kV doc pm:Value) (an:Option Addr) (ay ct:Value) (us:List Value),us.length=ps.length->bindArgs (fnOf x x (mz st) (iw st) (bh st) .none kV doc pm an ay ct) ⟨us,[]⟩=pure (ps.zip us)):c_ K mg x st ps:=by
 obtain ⟨f,fd,e1,F⟩:=qL (qM e i hi)
 exact ⟨f,fd,F,mg_of X G e1,F.binds hb⟩
variable {st:Stmt} {l:List (Str×Stmt)} {p0 p1 p2 p3 p4 p5 p6:Str}
theorem xr (h:us.length=n+1):∃ a t,us=a::t/\t.length=n:=by
 cases us with
 | nil=>cases h
 | cons a t=>exact ⟨a,t,rfl,by simpa using h⟩
theorem kq (X:K.In h) (G:h.Ns mainGlobals mg) (e:zo K l=zp l) (i:Nat) (hi:l[i]? =some (x,st):=by rfl)
  (hb:∀ (kV doc pm:Value) (an:Option Addr) (ay ct a0:Value),bindArgs (fnOf x x (mz st) (iw st) (bh st) .none kV doc pm an ay ct) ⟨[a0],[]⟩=pure [(p0,a0)]:=by intros;rfl):c_ K mg x st [p0]:=
 pM X G e i hi fun a b c d f g us hl=>by
  obtain ⟨a0,xu,rfl,zq⟩:=xr (n:=0) hl
  obtain rfl:=QR zq
  exact hb ..
theorem xw (X:K.In h) (G:h.Ns mainGlobals mg) (e:zo K l=zp l) (i:Nat) (hi:l[i]? =some (x,st):=by rfl)
  (hb:∀ (kV doc pm:Value) (an:Option Addr) (ay ct a0 a1:Value),bindArgs (fnOf x x (mz st) (iw st) (bh st) .none kV doc pm an ay ct) ⟨[a0,a1],[]⟩=pure [(p0,a0),(p1,a1)]:=by intros;rfl):c_ K mg x st [p0,p1]:=
 pM X G e i hi fun a b c d f g us hl=>by
  obtain ⟨a0,xu,rfl,zq⟩:=xr (n:=1) hl
  obtain ⟨a1,HN,rfl,i_⟩:=xr (n:=0) zq
  obtain rfl:=QR i_
  exact hb ..
theorem CZ (X:K.In h) (G:h.Ns mainGlobals mg) (e:zo K l=zp l) (i:Nat) (hi:l[i]? =some (x,st):=by rfl)
  (hb:∀ (kV doc pm:Value) (an:Option Addr) (ay ct a0 a1 a2:Value),bindArgs (fnOf x x (mz st) (iw st) (bh st) .none kV doc pm an ay ct) ⟨[a0,a1,a2],[]⟩=pure [(p0,a0),(p1,a1),(p2,a2)]:=by intros;rfl):c_ K mg x st [p0,p1,p2]:=
 pM X G e i hi fun a b c d f g us hl=>by
  obtain ⟨a0,xu,rfl,zq⟩:=xr (n:=2) hl
  obtain ⟨a1,HN,rfl,i_⟩:=xr (n:=1) zq
  obtain ⟨a2,Pq,rfl,g_⟩:=xr (n:=0) i_
  obtain rfl:=QR g_
  exact hb ..
theorem yT (X:K.In h) (G:h.Ns mainGlobals mg) {v:V} (e:CT K x=some v):∃ u,mg x=some u/\RelV v u:=by
 unfold CT at e
 split at e
 ·rename_i u hn;exact ⟨u,mg_of X G hn,eW e⟩
 ·cases e
theorem nZ:∀ {l:List (Str×V)},CU K l=CV l->∀ (i:Nat) {x:Str} {v:V},l[i]? =some (x,v)->CT K x=some v
 | y::l,e,0,x,st,h=>by cases h;exact (List.cons.inj e).1
 | y::l,e,i+1,x,st,h=>nZ (List.cons.inj e).2 i (by simpa using h)
theorem vl (X:K.In h) (G:h.Ns mainGlobals mg) {l:List (Str×V)} (e:CU K l=CV l) (i:Nat) {v:V} (hi:l[i]? =some (x,v):=by rfl):∃ u,mg x=some u/\RelV v u:=yT X G (nZ e i hi)
theorem sN {v:Value} {xs:List V} (e:BD K v=some (AJ xs)):∃ (a:Addr) (it:Array Value) (n:Nat) (sq:Array (Option Value)),v=.ref a/\K.lookup a=some ⟨.type "tuple",none,.seq it n,sq⟩/\a_ xs it.toList:=by
 unfold BD at e
 split at e
 ·rename_i a
  split at e
  ·rename_i c d it n sl hl
   have e:=QD e
   unfold AJ at e
   simp only [Prod.mk.injEq] at e
   obtain ⟨rfl,rfl,e3⟩:=e
   exact ⟨a,it,n,sl,rfl,hl,lH e3⟩
  ·cases e
 ·cases e
theorem zH {it:Array Value} {d:Option Addr} {sq:Array (Option Value)} {xs:List V} (hl:K.lookup a=some ⟨.type "tuple",d,.seq it n,sq⟩) (hv:a_ xs it.toList) (hz:xs.length<=sizeLine) (H:Hp):ae K H a xs:=
 .inr ⟨_,it,n,hl,rfl,rfl,by have:=hv.length;simp at this;omega,hv⟩
theorem oB:∀ {l:List Str},AK K l=true->∀ (i:Nat) {x:Str},l[i]? =some x->nsIn K mainGlobals x=some none
 | y::l,e,0,x,h=>by
  cases h
  unfold AK at e
  rw [Bool.and_eq_true_iff] at e
  have e:=e.1
  split at e
  ·assumption
  ·cases e
 | y::l,e,i+1,x,h=>by
  unfold AK at e
  rw [Bool.and_eq_true_iff] at e
  exact oB e.2 i (by simpa using h)
theorem nn (X:K.In h) (G:h.Ns mainGlobals mg) {l:List Str} (e:AK K l=true) (i:Nat) (hi:l[i]? =some x:=by rfl):mg x=none:=mg_none_of X G (oB e i hi)
end
inductive AL where
 | v (x:Option V)
 | t (x:Option AI)
abbrev C0:=Value×Option Addr×Nat×Bool×List (Int×Option V×AL)
def BE (K:Frag) (v:Value):AL:=match v with
 | .ref _=>.t (BD K v)
 | _=>.v (uw v)
def BF (K:Frag):List DictEntry->List (Int×Option V×AL)
 | []=>[]
 | e::l=>(e.hash,uw e.key,BE K e.val)::BF K l
def C1 (K:Frag) (x:Str):Option C0:=match nsIn K mainGlobals x with
 | some (some (.ref a))=>(match K.lookup a with
  | some ⟨c,d,.dict es _,sl⟩=>some (c,d,sl.size,a==sysModules,BF K es.toList)
  | _=>none)
 | _=>none
abbrev lz:=Str×(V ⊕ List V)
def AM (w:World):List lz->List (Int×Option V×AL)
 | []=>[]
 | (k,.inl v)::l=>(A9 w (.inr k),some (.str k),.v (some v))::AM w l
 | (k,.inr v)::l=>(A9 w (.inr k),some (.str k),.t (some (AJ v)))::AM w l
def C2 (w:World) (l:List lz):C0:=(.type "dict",none,0,false,AM w l)
def EF (K:Frag):List (Str×List lz)->List (Option C0)
 | []=>[]
 | x::l=>C1 K x.1::EF K l
def EG (w:World):List (Str×List lz)->List (Option C0)
 | []=>[]
 | x::l=>some (C2 w x.2)::EG w l
def xx (K:Frag):List lz->List V->Prop
 | [],[]=>True
 | (_,.inl v)::l,u::us=>u=v/\xx K l us
 | (_,.inr xs)::l,u::us=>(∃ a,u=.ref a/\∀ H,ae K H a xs)/\xx K l us
 | _,_=>False
def EH:List lz->List V->List (be×V)
 | e::l,u::us=>(.inr e.1,u)::EH l us
 | _,_=>[]
def BG:List lz->Bool
 | []=>true
 | (_,.inl _)::l=>BG l
 | (_,.inr xs)::l=>decide (xs.length<=1000)&&BG l
section
variable {K:Frag}
theorem i9:∀ {l:List lz},BG l=true->∀ e∈l,∀ xs,e.2=.inr xs->xs.length<=sizeLine
 | (_,.inl _)::l,h,e,he,xs,hx=>by
  rcases Qp.mp he with rfl | he
  ·cases hx
  ·exact i9 (l:=l) h e he xs hx
 | (_,.inr ys)::l,h,e,he,xs,hx=>by
  unfold BG at h
  rw [Bool.and_eq_true_iff,decide_eq_true_iff] at h
  rcases Qp.mp he with rfl | he
  ·cases hx;exact Nat.le_trans h.1 (by decide)
  ·exact i9 (l:=l) h.2 e he xs hx
theorem nR {k:Str} {xs:List V} {l:List lz} {us:List V} (e:xx K ((k,.inr xs)::l) us):∃ a vs,us=.ref a::vs/\(∀ H,ae K H a xs)/\xx K l vs:=by
 cases us with
 | nil=>exact False.elim e
 | cons u vs=>obtain ⟨⟨a,rfl,q⟩,r⟩:=(show (∃ a,u=.ref a/\∀ H,ae K H a xs)/\xx K l vs from e);exact ⟨a,vs,rfl,q,r⟩
theorem ME {us:List V} (e:xx K [] us):us=[]:=by
 cases us with
 | nil=>rfl
 | cons u vs=>exact False.elim e
theorem lS:∀ {l:List lz} {es:List DictEntry},BF K es=AM w l->(∀ e∈l,∀ xs,e.2=.inr xs->xs.length<=sizeLine)->∃ (us:List V) (vs:List (be×Value)),xx K l us/\(∀ P,Pairs (f_ P w) es vs)/\(∀ P,∀ e∈es,∃ k,(f_ P w).is k e.key=true/\e.hash=(f_ P w).hash k)/\KV (EH l us) vs/\vs.map (·.1)=l.map (fun e=>.inr e.1)
 | [],[],_,_=>⟨[],[],trivial,fun _=>.nil,(fun _ _ h=>nomatch h),.nil,rfl⟩
 | [],_::_,e,_=>by cases e
 | (_,.inl _)::_,[],e,_=>by cases e
 | (_,.inr _)::_,[],e,_=>by cases e
 | (k,.inl v)::l,d::es,e,hz=>by
  have e':=List.cons.inj (show (d.hash,uw d.key,BE K d.val)::BF K es=(A9 w (.inr k),some (.str k),.v (some v))::AM w l from e)
  obtain ⟨us,vs,h1,h2,h3,h4,h5⟩:=lS e'.2 fun x hx=>hz x (Qh _ hx)
  have e1:=e'.1
  simp only [Prod.mk.injEq] at e1
  obtain ⟨q1,q2,q3⟩:=e1
  obtain ⟨t,q2⟩:=eW q2
  have q4:RelV v d.val:=by
   unfold BE at q3
   split at q3
   ·cases q3
   ·exact eW (AL.v.inj q3)
  have hk:∀ P,(f_ P w).is (.inr k) d.key=true:=fun P=>by rw [q2];exact fC P w k t
  refine ⟨v::us,(.inr k,d.val)::vs,⟨rfl,h1⟩,fun P=>.cons (kv:=((Sum.inr k,d.val):be×Value)) (hk P) rfl (h2 P),fun P y hy=>?_,.cons ⟨rfl,q4⟩ h4,by simp [h5]⟩
  rcases Qp.mp hy with rfl | hy
  ·exact ⟨.inr k,hk P,q1⟩
  ·exact h3 P y hy
 | (k,.inr xs)::l,d::es,e,hz=>by
  have e':=List.cons.inj (show (d.hash,uw d.key,BE K d.val)::BF K es=(A9 w (.inr k),some (.str k),.t (some (AJ xs)))::AM w l from e)
  obtain ⟨us,vs,h1,h2,h3,h4,h5⟩:=lS e'.2 fun x hx=>hz x (Qh _ hx)
  have e1:=e'.1
  simp only [Prod.mk.injEq] at e1
  obtain ⟨q1,q2,q3⟩:=e1
  obtain ⟨t,q2⟩:=eW q2
  have q4:BD K d.val=some (AJ xs):=by
   unfold BE at q3
   split at q3
   ·exact AL.t.inj q3
   ·cases q3
  obtain ⟨a,it,n,sq,q5,q6,q7⟩:=sN q4
  have hk:∀ P,(f_ P w).is (.inr k) d.key=true:=fun P=>by rw [q2];exact fC P w k t
  refine ⟨.ref a::us,(.inr k,d.val)::vs,⟨⟨a,rfl,zH q6 q7 (hz _ (List.mem_cons_self ..) xs rfl)⟩,h1⟩,fun P=>.cons (kv:=((Sum.inr k,d.val):be×Value)) (hk P) rfl (h2 P),fun P y hy=>?_,.cons ⟨rfl,by rw [q5];rfl⟩ h4,by simp [h5]⟩
  rcases Qp.mp hy with rfl | hy
  ·exact ⟨.inr k,hk P,q1⟩
  ·exact h3 P y hy
theorem zC {l:List lz} (X:K.In h) (G:h.Ns mainGlobals mg) (e:C1 K x=some (C2 w l)) (Bx:BG l=true) (nd:(l.map (·.1)).Nodup):∃ (a:Addr) (us:List V),mg x=some (.ref a)/\xx K l us/\KD w K a (EH l us):=by
 have hz:=i9 Bx
 unfold C1 at e
 split at e
 ·rename_i a hn
  split at e
  ·rename_i c d es ep sl hl
   have e:=QD e
   unfold C2 at e
   simp only [Prod.mk.injEq] at e
   obtain ⟨rfl,rfl,e3,e4,e5⟩:=e
   obtain ⟨us,vs,h1,h2,h3,h4,h5⟩:=lS e5 hz
   refine ⟨a,us,mg_of X G hn,h1,fun P=>⟨_,es,ep,vs,hl,e4,⟨rfl,rfl,Array.eq_empty_of_size_eq_zero e3⟩,rfl,fun y hy=>h3 P y (by simpa using hy),h2 P,?_,h4⟩⟩
   rw [h5]
   have:l.map (fun e=>(Sum.inr e.1:be))=(l.map (·.1)).map Sum.inr:=by simp
   rw [this]
   exact List.Pairwise.map _ (fun a b q c=>q (Sum.inr.inj c)) nd
  ·cases e
 ·cases e
theorem nJ:∀ {l:List (Str×List lz)},EF K l=EG w l->∀ (i:Nat) {x:Str} {v:List lz},l[i]? =some (x,v)->C1 K x=some (C2 w v)
 | y::l,e,0,x,st,h=>by cases h;exact (List.cons.inj e).1
 | y::l,e,i+1,x,st,h=>nJ (List.cons.inj e).2 i (by simpa using h)
end
abbrev HS:List Str:=["type","isinstance","issubclass","getattr","hasattr"]
theorem wX {l:OpenLaw} {p:Program} (hp:l.prog=p)
 (a0:sreFenced p.main=true) (a1:((moduleNames p.main.body).isEmpty||lookedIntoSs (moduleNames p.main.body) p.main.body)=true)
 (a2:namesResolve p=true) (a3:p.boundNames.all (fun n=> !worldNames.contains n)=true)
 (a4:noRoadLSs {strict:= !(importedModules p.main.body).all cThrough.contains,foot:=none,bare:=(["vars","dir","locals"]:List Str).filter (readsOut p p.main.body)} p.main.body=true)
 (a5:(namesMeet p p.main.body fun _ n=>attrL n)=true)
 (a6:l.row.toRowW.solid=true) (MF:l.row.pre.litsOk=true)
 (a7:p.boundNames.contains l.name=true) (a8:(!startupNames.contains l.name)=true)
 (a9:decide (l.foot<=(behindTheImports p).length)=true)
 (b0:l.footing.all footLine=true) (b1:noClassBlock p l.footing=true)
 (b2:l.most.all (fun n=>decide (63<=n))=true) (b3:l.bound.all (fun n=>decide (2^63<=n))=true)
 (b4:noRoadLSs {strict:=true,foot:=some l.bound',writes:=l.writes,may:=l.may} l.footing=true)
 (b5:defStands l.about l.above=true) (b6:l.namesIt=true) (b7:HS.all (fun n=>l.about !=[n])=true)
 (b8:l.bound'.all (fun n=> !builtinNamed n||l.about==[n]|| !l.reads n)=true)
 (b9:(!l.writes||(p.main.body.flatMap importedNames).all fun n=> !l.reads n)=true)
 (c0:(p.main.body.flatMap importedNames).all (fun n=> !l.reads n||(drawsOf n p.main.body).all fun mn=>mn.2 !=("attrgetter":Str)&&mn.2 !=("methodcaller":Str))=true)
 (c1:namesMeet p l.footing (fun sc n=>(!HS.contains n||sc.names.lookup n==some .globalImplicit)&&(l.may !=some n||sc.kind==.module||sc.names.lookup n==some .globalImplicit))=true)
 (c2:l.own.contains l.name=true) (c3:(l.own.eraseDups.length==l.own.length)=true) (c4:l.own.all (fun n=> !builtinNamed n)=true)
 (c5:namesMeet p l.above (fun _ n=> !l.own.contains n)=true) (c6:(namesMeet p l.footing fun sc n=>sc.kind==.module||sc.names.lookup n !=some .globalExplicit)=true):l.wellSaid=true:=by
 subst hp
 have q:l.row.wellSaid=true:=by
  unfold OpenRow.wellSaid OpenRow.partSaid looksOpen
  exact look_both (look_both (look_both (look_both (look_both (look_both (look_both (look_both (look_both (look_both (look_both (look_both (look_both (look_both (look_both (look_both (look_both (look_both (look_both (look_both a0 a1) a2) a3) a4) a5) rfl) rfl) rfl) rfl) rfl) rfl) a6) MF) rfl) rfl) rfl) rfl) rfl) a7) a8
 unfold OpenLaw.wellSaid
 rw [q,a9,b0,b1,b2,b3,b4,b5,b6,b7,b8,b9,c0,c1,c2,c3,c4,c5,c6];rfl
theorem tZ {l:OpenLaw} {k:Nat} {q:Program} {d:DefRec} {look:Frag->α} {want:World->α}
  (hn:l.most=some n) (hn2:n<=sizeLine) (Bp:d.params.defaults=[]) (hr:dg k callerA)
  (F:∀ (w:World) (mg:Str->Option Value) (fa:Addr) (h:Heap) (K:Frag),K.In h->look K=want w->h.Ns mainGlobals mg->mg d.name=some (.ref fa)->
   ∃ (ts:List (Addr×Obj×List V)) (fd:FuncData) (sp:Sp),(∀ t∈ts,G9 K t)/\(ts.map (·.1)).Nodup/\(∀ (s:Shared) (u:Value),BindsTo s fd ⟨[u],[]⟩ [(x,u)])/\
    (∀ base:Heap,(without K (ts.map (·.1))).In base->base.Ns mainGlobals mg->mw l.prog w (without K (ts.map (·.1))) mg base sj k fa fd [x] sp)/\
    (∀ (H:Hp) (a:Addr) (ns:List Int),ns.length<=n->(∀ t∈ts,H t.1=some (.fj t.2.1 (.tup t.2.2)))->ao (without K (ts.map (·.1))) H a (ns.map V.int)->sp [.ref a] H (fun v _=>v=.bl true) fun _ _ _=>False)):
  WalkO q loose XP (qk look want).says l.row.toRowW d [] (fun f vs=>PySem.call f vs):=by
 refine GG.nG hn Bp fun w s₀ s₁ mg mb fa o pm cd doc a vs ns G Y ho hd jd yz DT DU fb hg=>?_
 obtain ⟨K,KX,hl⟩:=Y
 obtain ⟨ts,fd,sp,vf,nd,hb,hF,se⟩:=F w mg fa _ K KX hl G.T.g yz
 exact qY vf nd KX G.T.g G.T.b G.T.builtins G.T.nolimit hg DT DU (Nat.le_trans fb hn2) hr hF hb (fun H _ ht hS=>se H a ns fb ht hS) fun _ _ _ z=>z
theorem pC {l:OpenLaw} {k:Nat} {q:Program} {d:DefRec} {look:Frag->α} {want:World->α} {st:Stmt}
  (hn:l.most=some 63) (Bp:d.params.defaults=[]) (hr:dg k callerA) (MG:d.name="law")
  (hb:∀ (kV doc pm:Value) (an:Option Addr) (ay ct a0:Value),bindArgs (fnOf "law" "law" (mz st) (iw st) (bh st) .none kV doc pm an ay ct) ⟨[a0],[]⟩=pure [(("script":Str),a0)])
  (F:∀ (w:World) (mg:Str->Option Value) (h:Heap) (K:Frag),K.In h->look K=want w->h.Ns mainGlobals mg->c_ (without K []) mg "law" st ["script"]/\∀ base:Heap,bf l.prog w (without K []) mg base k "law" ["script"] (CD (without K []))):
  WalkO q loose XP (qk look want).says l.row.toRowW d [] (fun f vs=>PySem.call f vs):=
 tZ (n:=63) (k:=k) (x:="script") hn (by decide) Bp hr fun w mg fa h K KX hl G yz=>by
  obtain ⟨⟨f,fd,Fu,m,b⟩,hF⟩:=F w mg h K KX hl G
  rw [MG] at yz
  rw [m] at yz
  cases yz
  refine ⟨[],fd,CD (without K []),(fun t ht=>nomatch ht),.nil,fun s u=>?_,fun base kb nb=>?_,fun H a ns hl _ hS=>⟨a,ns,rfl,hS,hl,fun _=>rfl⟩⟩
  ·obtain ⟨oc,od,kV,doc,pm,an,ay,ct,gz,rfl,lk,jd⟩:=Fu.ex
   exact .of_eq (hb ..)
  ·obtain ⟨f',MH,G',m',k',b',Pr,Pu,Pw,HU⟩:=hF base
   rw [m] at m'
   cases m'
   have e:fd=MH:=by
    obtain ⟨oc,od,kV,doc,pm,an,ay,ct,gz,e1,lk,jd⟩:=Fu.ex
    rw [lk] at HU
    have:=QD HU
    injection this with _ _ h3 _
    injection h3
   rw [e];exact G'
section
variable {K:Frag}
end
def C3 (K:Frag) (C:Addr):List Str->Bool
 | []=>true
 | f::l=>(match findIn K (.ref C) f with | some none=>true | _=>false)&&C3 K C l
section
variable {K:Frag}
theorem iN:∀ {C:Addr} {l:List Str},C3 K C l=true->∀ f∈l,Gh K C f
 | C,f::l,e,g,hg=>by
  unfold C3 at e
  rw [Bool.and_eq_true_iff] at e
  rcases Qp.mp hg with rfl | hg
  ·have e1:=e.1
   split at e1
   ·assumption
   ·cases e1
  ·exact iN e.2 g hg
end
section
variable {H1:Hp} {fs ex:List Addr}
theorem bz.there (x:bz P w H h a o):∃ ob,h.get? a=some ob:=by
 cases o with
 | lst xs=>obtain ⟨_,_,_,_,e⟩:=x;exact ⟨_,e⟩
 | tup xs=>obtain ⟨_,_,_,o,e,_⟩:=x;exact ⟨_,e⟩
 | dK kvs=>obtain ⟨_,_,_,_,o,_,_,e,_⟩:=x;exact ⟨_,e⟩
 | dT kvs=>obtain ⟨_,_,_,_,o,_,_,e,_⟩:=x;exact ⟨_,e⟩
 | set S n=>obtain ⟨o,_,_,_,e,_⟩:=x;exact ⟨_,e⟩
 | ins C dx fs=>obtain ⟨_,_,_,e,_⟩:=x;exact ⟨_,e⟩
 | own y=>exact x
 | xd fs=>obtain ⟨_,⟨_,_,_,e,_⟩,_⟩:=x;exact ⟨_,e⟩
 | B8 lo hi=>obtain ⟨_,_,_,e⟩:=x;exact ⟨_,e⟩
 | fj ob u=>obtain ⟨e,_⟩:=x;exact ⟨_,e⟩
 | wc ps=>exact ⟨_,x⟩
 | met f y=>exact ⟨_,x⟩
 | ext φ=>exact x.2.1
theorem cf.free (x:cf P w H h) (e:h.get? a=none):H a=none:=by
 cases q:H a with
 | none=>rfl
 | some u=>obtain ⟨ob,z⟩:=(x a u q).there;rw [e] at z;cases z
theorem cf.more (x:cf P w H h) (k:∀ b u,h.get? b=some u->h'.get? b=some u) (hn:H a=none) (new:bz P w (upd H a o) h' a o):cf P w (upd H a o) h':=fun b u e=>by
 by_cases hb:b=a
 ·subst hb;rw [aA] at e;cases e;exact new
 ·rw [aM hb] at e
  exact (x b u e).stay (fun c v _ q=>k c v q) (fun c q=>by rw [aM (aY q hn)];exact q) fun c xs q=>q.upd fun u hu=>aY hu hn
theorem Un.more (u:Un fs ex H H1 h h') (e:h.get? a=none) (hn:H1 a=none):Un fs ex H (upd H1 a o) h h' where
 keep:=u.keep
 slot:=u.slot
 free:=fun b ob q n hx=>by rw [aM fun z=>by rw [z,e] at q;cases q];exact u.free b ob q n hx
 there:=u.there
 tups:=fun b xs q=>by have:=u.tups b xs q;rw [aM (aY this hn)];exact this
 jc:=fun b ob xs q=>by have:=u.jc b ob xs q;rw [aM (aY this hn)];exact this
 jt:=fun b ps q=>by obtain ⟨m,this⟩:=u.jt b ps q;exact ⟨m,by rw [aM (aY this hn)];exact this⟩
end
def BH (K:Frag) (N:Addr):Option (Option Value):=match K.lookup N with
 | some ⟨_,_,.dict es _,_⟩=>if es.all (fun e=>match e.key with | .str _ _=>true | _=>false) then some (nsFind es "__init__") else none
 | _=>none
def BI (K:Frag):List Addr->Bool
 | []=>true
 | A::l=>(match K.lookup A with | some ⟨_,_,.cls cd,_⟩=>BH K cd.ns==some none | _=>false)&&BI K l
def ql (K:Frag) (C:Addr) (own:List Addr) (ja:Option Value):Bool:=match K.lookup C with
 | some ⟨c,_,.cls cd,sl⟩=>c==.type "type"&&(cd.mro==.ref C::qj own&&(!cd.hasDel&&(cd.hasDict&&(sl.size==6&&(sl[4]?==some (some (.builtin "ValueError.__new__"))&&(BH K cd.ns==some ja&&(BI K own&&keepIn K (.ref C))))))))
 | _=>false
section
variable {K:Frag} {N:Addr} {own:List Addr} {ja:Option Value}
theorem oP (X:K.In h) (e:BH K N=some ja):h.Ns N (h.nsMap N)/\h.nsMap N "__init__"=ja:=by
 unfold BH at e
 split at e
 ·rename_i c d es ep sl lk
  split at e
  ·rename_i hs
   have g:=X _ _ lk
   refine ⟨.of_isNs ?_,?_⟩
   ·unfold Heap.isNs;rw [g];exact hs
   ·unfold Heap.nsMap;rw [g];exact QD e
  ·cases e
 ·cases e
theorem mS (X:K.In h):∀ {own:List Addr},BI K own=true->OwnTail h CO (qj own)
 | [],_=>.base
 | A::l,e=>by
  unfold BI at e
  rw [Bool.and_eq_true_iff] at e
  obtain ⟨e1,e2⟩:=e
  split at e1
  ·rename_i c d cd sl lk
   obtain ⟨n1,n2⟩:=oP X (beq_iff_eq.mp e1)
   exact .own (X _ _ lk) n1 n2 (mS X e2)
  ·cases e1
theorem hZ (e:ql K C own ja=true):∃ nm q N bs sn sub ab col dd k0 k1 k2 k3 k5,K.lookup C=some (excClassObj nm q C N bs (qj own) true sn sub ab col dd k0 k1 k2 k3 k5 "ValueError.__new__")/\BH K N=some ja/\BI K own=true/\keepIn K (.ref C)=true:=by
 unfold ql at e
 split at e
 ·rename_i c d cd sl lk
  obtain ⟨nm,bs,mro,N,q,hdct,sn,sub,ab,col,Px⟩:=cd
  simp only [Bool.and_eq_true,beq_iff_eq,Bool.not_eq_true'] at e
  obtain ⟨rfl,rfl,rfl,rfl,hsz,DX,hn,hu,hk⟩:=e
  obtain ⟨l⟩:=sl
  obtain ⟨k0,k1,k2,k3,k5,rfl⟩:=six_places (l:=l) (by simpa using hsz) (by simpa using DX)
  exact ⟨nm,q,N,bs,sn,sub,ab,col,d,k0,k1,k2,k3,k5,lk,hn,hu,hk⟩
 ·cases e
theorem iC (e:ql K C own ja=true):∃ cd,clsIn K C=some cd/\cd.mro=qj (C::own)/\cd.hasDict=true:=by
 obtain ⟨nm,q,N,bs,sn,sub,ab,col,dd,k0,k1,k2,k3,k5,lk,_⟩:=hZ e
 exact ⟨_,by unfold clsIn;rw [lk],rfl,rfl⟩
theorem jW (e:ql K C own ja=true) {v:Value} (h:v∈CO):subIn K (.ref C) v=some true:=by
 obtain ⟨cd,h1,h2,_⟩:=iC e
 show mroIn K C v=_
 unfold mroIn
 rw [h1,Option.bind_some,h2,if_neg (by simp [qj]),fB h]
theorem MI (e:ql K C own ja=true):CS K C:=by
 obtain ⟨cd,h1,_⟩:=iC e
 obtain ⟨nm,q,N,bs,sn,sub,ab,col,dd,k0,k1,k2,k3,k5,lk,_⟩:=hZ e
 exact ⟨by show (K.lookup C).map _=_;rw [lk];rfl,by show (fastBuiltinMro "type").map _=_;decide+kernel,⟨cd,h1⟩,jW e (by decide)⟩
end
section
variable {K:Frag} {e:Addr} {ox:Obj} {od:Option Obj} {expr:Bool}
theorem zQ {v:Value} (X:K.In s.heap) (I:InstAt s.heap e ox C od) (Eo:findIn K (.ref C) "__getattribute__"=some (some (.builtin "BaseException.__getattribute__"))) (hk:findIn K (.ref C) "__getattr__"=some none)
  (sub:subIn K (.ref C) (.type "BaseException")=some true) (hf:findObj K C od name=some (.value v)) (hh:handedIn v=true) (h:Q v {s with toks:=s.toks+1}):wpAny (model P w) A (getAttr (.ref e) name expr) Q E s:=by
 have ht:Looks (model P w) s.heap (typeOf (.ref e)) (.ref C):=I.type
 refine QS (wpAny_mkText (wpAny_holding (QS (ht _ _ _ _ (fun _ _ e=>e) (QS (looks_findIn X Eo _ _ _ _ (fun _ _ e=>e) ?_))))))
 dsimp only
 rw [show (onTheHeap (.ref C)&&Value.builtin "BaseException.__getattribute__"==Value.builtin "object.__getattribute__")=false from by rw [show (Value.builtin "BaseException.__getattribute__"==Value.builtin "object.__getattribute__")=false from by decide+kernel,Bool.and_false],if_neg (by decide)]
 have hb:Looks (model P w) s.heap (hookBefore (.ref C)) none:=by
  unfold hookBefore;rw [if_pos (by rfl)];exact looks_findIn X hk
 refine QS (hb _ _ _ _ (fun _ _ e=>e) (QS (wpAny_attempt (wpAny_holding ?_))))
 unfold callGetattribute
 rw [show (expr&&onTheHeap (Value.builtin "BaseException.__getattribute__"))=false from Bool.and_false _,if_neg (by decide)]
 unfold boundAndCalled
 rw [PySem.F.attr_ValueError.ga.bind]
 refine QS (QT ?_)
 show wpAny _ _ (call (.builtin "BaseException.__getattribute__") [.ref e,.str name s.toks]) _ _ _
 refine wpAny_call ?_
 refine codeAny_call_builtin PySem.F.attr_ValueError.ga.plain PySem.F.entry_bexc_ga ?_
 refine @check_slot (model P w) _ _ {s with toks:=s.toks+1} "BaseException.__getattribute__" "BaseException" "__getattribute__" (.ref e) [.str name s.toks] [] _ (by decide+kernel) (by decide+kernel) (ht.andThen (looks_subIn X sub)) (PySem.F.args_bexc_ga (.ref e) (.str name s.toks)) ?_
 have L1:=looks_find (M:=model P w) X I hf
 unfold Builtin.«object.__getattribute__»
 refine QS (QT (QS (QT (QS (ht _ _ _ _ (fun _ _ e=>e) (QS (L1 _ _ _ _ (fun _ _ e=>e) ?_)))))))
 refine QT ?_
 show wpAny _ _ (handedOut v) _ _ _
 rw [handedOut_of hh];exact QT h
end
def EI (C:Addr) (sp:Sp) (ta:TA) (E:XK):TS:=fun _ σ H=>ta σ H fun vs H1=>vs.length<=1000/\∀ e,H1 e=none->sp (.ref e::vs) (upd H1 e (iq C none e)) (fun v H2=>v=.af/\∃ dct,H2 e=some (iq C dct e)/\E (.ref e) dct (upd H2 e (jl C dct e))) E0
section
variable {K:Frag} {f:Addr} {cd:Value} {s0:Shared} {E:XK} {own:List Addr} {np:Pos} {e1:Expr}
theorem Inv.MJ {e:Addr} (I:Inv X pins σ H s) (m:Heap.MadeExcOf s.heap h' e (.ref C) us):H e=none/\Inv X pins σ (upd H e (iq C none e)) {s with heap:=h'}:=by
 have hn:=I.hok.free m.new
 obtain ⟨t,ht,_,_⟩:=m.there
 exact ⟨hn,I.un (t':=s.toks) (Un.more (Un.kept m.keeps) m.new hn) (I.hok.more m.keeps hn (oY ⟨t,ht⟩))⟩
theorem qS {k:Nat} {fI:Addr} {sp:Sp} (hx:ql K C own (some (.ref fI))=true) (hf:isFn K (.ref fI)=true) (F:mw P w K mg base sj k fI fd ps sp) (hb:Binds K fd ps []) (hr:dg (k+1) (A.deeper (envOfC qual scope s0.heap.objs.size f cd))) (hm:mg x=some (.ref C)) (hg:Gl (gb (jm P w) P w K mg base N qual scope f cd A outer s0 H0 E) x) (ha:PA (gb (jm P w) P w K mg base N qual scope f cd A outer s0 H0 E) (e1::es) ta)
  (fg:(x==("__debug__":Str))=false:=by decide) (he:starEach (e1::es) (envOfC qual scope s0.heap.objs.size f cd)=(false,eval e1 (envOfC qual scope s0.heap.objs.size f cd))::starEach es (envOfC qual scope s0.heap.objs.size f cd):=by rfl)
  (hpl:(backTo cpos (starEach es (envOfC qual scope s0.heap.objs.size f cd))).any (·.1)=false:=by rfl):PS (gb (jm P w) P w K mg base N qual scope f cd A outer s0 H0 E) (.Raise (some (.Call (.Name x np) (e1::es) [] cpos)) none pos) (EI C sp ta E):=by
 intro pins s σ H D I h
 obtain ⟨nm,q,N',bs,sn,sub,ab,col,dd,k0,k1,k2,k3,k5,lk,hn,hu,hk⟩:=hZ hx
 rw [arm_exec_Raise]
 refine QS (wpAny_standAt (sZ (C:=C) (nm:=nm) (q:=q) (N:=N') (bs:=bs) (bm:=qj own) (hdct:=true) (sn:=sn) (sub:=sub) (ab:=ab) (col:=col) (dd:=dd) (k0:=k0) (k1:=k1) (k2:=k2) (k3:=k3) (k5:=k5) (newId:="ValueError.__new__") (fB (by decide) _) (I.ok.hd rfl) (QS (av (t:=eval (.Call (.Name x np) (e1::es) [] cpos) _) ?_ fun v s3 h3=>QS (wpAny_standAt (QT h3))))))
 refine wpAny_Call_Name_kw (eA I hg hm ?_ fg)
 refine callWith_K (h₀:=base) I.ok.mod.Ak hk (av (ha cpos pins s σ H _ I h) fun us s1 ⟨vs,H1,I1,r,hl,qe⟩=>⟨I1.cz,?_⟩) he hpl
 obtain ⟨n1,n2⟩:=oP I1.cz hn
 have T:=mS I1.cz hu
 have hC:=I1.cz _ _ lk
 have FV:=PySem.F.excBase_ValueError
 obtain ⟨oI,MK,ML⟩:∃ o,K.lookup fI=some o/\o.cls=.type "function":=by
  have e:=beq_iff_eq.mp hf
  exact Option.map_eq_some_iff.mp (show (K.lookup fI).map (·.cls)=some (.type "function") from e)
 obtain ⟨hp,g,d,tk,os⟩:=s1
 refine vY FV FV.hasB FV T hC n1 n2 (I1.cz _ _ MK) ML (by show us.length<=_;rw [<- r.length,QL];omega) fun h' e m=>?_
 obtain ⟨kj,I2⟩:=I1.MJ m
 have q:=qe e kj
 have r2:a_ (V.ref e::vs) (Value.ref e::us):=.cons rfl r
 have g_:(Value.ref e::us).length=ps.length:=by rw [<- r2.length];exact F.len _ _ _ _ q
 refine wpAny_call (codeAny_mono (F.run _ _ _ _ ⟨Value.ref e::us,[]⟩ (Value.ref e::us) _ _ E0 (hr.make C us []) (I2.Cn.make C us []) (by have:=hb _ (Value.ref e::us) I2.cz (by simpa using g_);simpa using this) r2 q) fun r s' hq=>?_)
 cases r with
 | error e=>exact hq.elim
 | ok fl=>
  cases fl with
  | ret u=>
   obtain ⟨v,H',I3,rv,ev,dct,xq,q3⟩:=I2.after hq
   subst ev
   obtain ⟨t,ht⟩:nv s'.heap e C dct:=(show bz P w H' s'.heap e (iq C dct e) from I3.hok e _ xq).1
   exact ⟨rv,e,t,dct,rfl,I3.cz _ _ lk,ht,tS I3 xq q3⟩
  | next=>exact hq.elim
  | brk=>exact hq.elim
  | cont=>exact hq.elim
end
structure l_ (K:Frag) (C:Addr):Prop where
 ga:findIn K (.ref C) "__getattribute__"=some (some (.builtin "BaseException.__getattribute__"))
 gk:findIn K (.ref C) "__getattr__"=some none
 sa:findIn K (.ref C) "__setattr__"=some (some (.builtin "object.__setattr__"))
 ic:findIn K (.ref C) "__class__"=some (some (.builtin "object.__class__"))
 xc:∃ own ja,ql K C own ja=true
structure HW (K:Frag) (B:Addr):Prop where
 sp:specialIn K (.ref B) "__getattribute__"=some (some (.builtin "type.__getattribute__"))
 rd:readsIn K B (.type "type")=true
 fc:∃ v,findCls K (.ref B) (.type "type") "__init__"=some (.val v)/\v=.builtin "ValueError.__init__"
def HX (K:Frag) (ta:TA):TE:=fun σ H Q=>ta σ H fun vs H1=>∃ e C dct rest,vs=.ref e::rest/\rest.length<=1000/\l_ K C/\H1 e=some (iq C dct e)/\Q .af H1
def HY (K:Frag) (ta tv:TE) (f:Str):TS:=fun D σ H=>tv σ H fun y H1=>ta σ H1 fun x H2=>∃ e C,x=.ref e/\H2 e=some (iq C none e)/\l_ K C/\findIn K (.ref C) f=some none/\∀ dx,H2 dx=none->D.nx σ (upd (upd H2 e (iq C (some dx) e)) dx (.xd [(f,y)]))
section
variable {B:Addr} {b:Str} {bp:Pos} {o value:Expr} {ta tv:TE} {f:Str}
theorem wJ {pl:Sem Bool} (N:HW X.K B) (hm:X.mg b=some (.ref B)) (hg:Gl X b) (ha:PA X (e::es) t) (fg:(b==("__debug__":Str))=false:=by decide)
  (hst:starEach (e::es) X.env=(false,eval e X.env)::starEach es X.env:=by rfl) (hpl:(backTo pos (starEach es X.env)).any (·.1)=false:=by rfl)
  (ht:eval (.Call (.Attribute (.Name b bp) "__init__" apos) (e::es) [] pos) X.env=(do
   let ov <- eval (.Name b bp) X.env
   standAt apos.atName
   let (f,first) <- holding [ov] (getMethod ov "__init__" pl)
   callWith pos f first (backTo pos (starEach (e::es) X.env)) (backToKw pos (keywordEach [] X.env))):=by rfl):PE X (.Call (.Attribute (.Name b bp) "__init__" apos) (e::es) [] pos) (HX X.K t):=by
 intro pins s σ H Q I h
 refine methodCall_KW (pl:=pl) (eA I hg hm ?_ fg) ht
 obtain ⟨v,fc,rfl⟩:=N.fc
 refine method_cls I.cz N.sp (cls_value I.cz N.rd fc (by decide+kernel) ?_)
 have hA:=ha pos pins _ σ H _ (I.tok (s.toks+1)) h
 rw [hst] at hA ⊢
 refine Calls.callWith_builtin (by show (false||(backTo pos (starEach es X.env)).any (·.1))=false;rw [hpl]<;>rfl) (Calls.evalArgs_plain ?_)
 refine av hA ?_
 rintro us s2 ⟨vs,H2,I2,r2,e,C,dct,rest,ev,hl,xa,he,q⟩
 subst ev
 obtain ⟨u0,xu,rfl,r0,r1⟩:∃ u0 xu,us=u0::xu/\RelV (.ref e) u0/\a_ rest xu:=by cases r2 with | cons a b=>exact ⟨_,_,rfl,a,b⟩
 obtain rfl:u0=Value.ref e:=r0
 obtain ⟨own,ja,hx⟩:=xa.xc
 obtain ⟨nm,q',N',bs,sn,sub,ab,col,dd,k0,k1,k2,k3,k5,lk,hn,hu,hk⟩:=hZ hx
 have T:=mS I2.cz hu
 have hC:=I2.cz _ _ lk
 have hE:nv s2.heap e C dct:=(show bz X.prog X.w H2 s2.heap e (iq C dct e) from I2.hok e _ he).1
 obtain ⟨hp,g,d,tk,os⟩:=s2
 refine wU PySem.F.excBase_ValueError T hC hE (by show xu.length<=_;rw [<- r1.length,QL];omega) fun h' k1 x1=>⟨.af,H2,?_,rfl,q⟩
 have:=I2.write (x:=e) (e:=e) (o:=iq C dct e) (t':=tk) (by rw [he];exact True.intro) (.inl rfl) k1 (let ⟨_,z⟩:=x1;⟨_,z⟩) (oY x1)
 rw [kC he] at this
 exact this
theorem wK (ha:PE X o ta) (hv:PE X value tv) (hs:swapsWith value (some (.Attribute o f pos')) pos.line X.env=pure false):PS X (.Assign [.Attribute o f pos'] value pos) (HY X.K ta tv f):=by
 intro pins s σ H D I h
 refine plainObj_wpAny_Assign_Attribute (av (hv pins s σ H _ I h) fun u s1 ⟨y,H1,I1,ry,q⟩=>av (ha pins s1 σ H1 _ I1 q) fun ov s2 ⟨x,H2,I2,rx,e,C,ex,he,xa,na,q2⟩=>?_) hs
 subst ex
 obtain rfl:ov=Value.ref e:=rx
 obtain ⟨own,ja,hx⟩:=xa.xc
 obtain ⟨cd,c1,c2,c3⟩:=iC hx
 have hE:nv s2.heap e C none:=(show bz X.prog X.w H2 s2.heap e (iq C none e) from I2.hok e _ he).1
 refine yX I2.cz hE c1 c2 c3 xa.sa na fun h' dx tk hd kp x1 nd=>?_
 have AN:=I2.hok.free hd
 have MM:dx≠e:=fun z=>by rw [z,he] at AN;cases AN
 have mu:Ai (H2 e):=by rw [he];exact True.intro
 have uq:∃ u,h'.get? e=some u:=let ⟨_,z⟩:=x1;⟨_,z⟩
 have hn1:upd H2 e (iq C (some dx) e) dx=none:=by rw [aM MM];exact AN
 refine ⟨σ,upd (upd H2 e (iq C (some dx) e)) dx (.xd [(f,y)]),I2.un (Un.more (Un.write mu (.inl rfl) kp uq) hd hn1) (cf.more (I2.hok.write mu (.inl rfl) kp uq (oY x1)) (fun _ _ z=>z) hn1 ?_),q2 dx AN⟩
 refine ⟨_,nd,fun g=>?_⟩
 rw [List.lookup_cons]
 by_cases z:g=f
 ·subst z;simp [jr,ry]
 ·rw [if_neg z,show (g==f)=false from beq_false_of_ne z];exact True.intro
end
section
variable {o:Expr} {ta:TE} {m:Str} {k:Nat} {sp:Sp}
end
section
variable {K:Frag}
end
section
variable {c1 c2:Str} {j1 j2:Nat} {p1 p2 p3:Pos}
end
section
variable {CC:Addr}
end
structure C4 (K:Frag) (mg:Str->Option Value) (x:Str):Prop where
 m:mg x=some (.ref (adr mg x))
 at_:l_ K (adr mg x)
 xc:∃ own,ql K (adr mg x) own none=true
 ni:HW K (adr mg x)
structure AO (K:Frag) (mg:Str->Option Value) (x q:Str) (st:Stmt) (ps fs:List Str):Prop where
 m:mg x=some (.ref (adr mg x))
 at_:l_ K (adr mg x)
 na:∀ f∈fs,Gh K (adr mg x) f
 ex:∃ own f fd,ql K (adr mg x) own (some (.ref f))=true/\isFn K (.ref f)=true/\wy K "__init__" q st f fd/\Binds K fd ps []
theorem l_.nm {K:Frag} (x:l_ K C):CS K C:=let ⟨_,_,h⟩:=x.xc;MI h
def EJ (P:Program) (w:World) (K:Frag) (mg:Str->Option Value) (base:Heap) (k:Nat) (x:Str) (ps:List Str) (sp:Sp):Prop:=
 mg x=some (.ref (adr mg x))/\∃ own f fd,ql K (adr mg x) own (some (.ref f))=true/\isFn K (.ref f)=true/\mw P w K mg base sj k f fd ps sp/\Binds K fd ps []
section
variable {K:Frag} {q:Str} {st:Stmt} {fs:List Str} {k:Nat} {sp:Sp}
theorem AO.di (F:AO K mg x q st ps fs) (S:dc N ps (bh st)) (len:∀ vs H Q E,sp vs H Q E->vs.length=ps.length)
  (qv:∀ (f:Addr) (ay:Value) (A:Around) (outer:List Env) (s:Shared) (H:Hp) (vs:List V) (Q:VK) (E:XK),dg k (A.deeper (envOfC q (bh st) s.heap.objs.size f ay))->sp vs H Q E->
   ∃ t,SB (gb sj P w K mg base N q (bh st) f ay A outer s H E).qt (iw st) t/\t {nx:=fun _ H'=>Q .af H',rt:=Q} (start N vs) H):EJ P w K mg base (k+1) x ps sp:=by
 obtain ⟨own,f,fd,h1,h2,Fu,b⟩:=F.ex
 exact ⟨F.m,own,f,fd,h1,h2,Fu.ok S len fun ay A outer s H vs Q E hr h=>let ⟨t,h1,h2⟩:=qv f ay A outer s H vs Q E hr h;⟨t,h1.h,h2⟩,b⟩
theorem c_.HZ (F:c_ K mg x st ps) (S:dc N ps (bh st)) (len:∀ vs H Q E,sp vs H Q E->vs.length=ps.length)
  (qv:∀ (f:Addr) (ay:Value) (A:Around) (outer:List Env) (s:Shared) (H:Hp) (vs:List V) (Q:VK) (E:XK),dg k (A.deeper (envOfC x (bh st) s.heap.objs.size f ay))->sp vs H Q E->
   ∃ t,SB (gb (jm P w) P w K mg base N x (bh st) f ay A outer s H E) (iw st) t/\t {nx:=fun _ H'=>Q .af H',rt:=Q} (start N vs) H):xo P w K mg base (k+1) x ps sp:=by
 obtain ⟨f,fd,Fu,m,b⟩:=F
 obtain ⟨oc,od,kV,doc,pm,an,ay,ct,gz,rfl,lk,jd⟩:=Fu.ex
 refine ⟨f,_,xM lk jd S len fun A outer s H vs Q E hr se=>?_,m,Fu.kp,b⟩
 obtain ⟨t,h,q⟩:=qv f ay A outer s H vs Q E hr se
 exact ⟨t,h.h,q⟩
end
section
variable {K:Frag} {f:Addr} {cd:Value} {s0:Shared} {E:XK} {np:Pos} {e1:Expr}
theorem nA {k:Nat} {sp:Sp} (F:EJ P w K mg base k x ps sp) (hr:dg (k+1) (A.deeper (envOfC qual scope s0.heap.objs.size f cd))) (ha:SA (gb (jm P w) P w K mg base N qual scope f cd A outer s0 H0 E) (e1::es) ta) (hg:Gl (gb (jm P w) P w K mg base N qual scope f cd A outer s0 H0 E) x:=by rfl)
  (fg:(x==("__debug__":Str))=false:=by decide) (he:starEach (e1::es) (envOfC qual scope s0.heap.objs.size f cd)=(false,eval e1 (envOfC qual scope s0.heap.objs.size f cd))::starEach es (envOfC qual scope s0.heap.objs.size f cd):=by rfl)
  (hpl:(backTo cpos (starEach es (envOfC qual scope s0.heap.objs.size f cd))).any (·.1)=false:=by rfl):SS (gb (jm P w) P w K mg base N qual scope f cd A outer s0 H0 E) (.Raise (some (.Call (.Name x np) (e1::es) [] cpos)) none pos) (EI (adr mg x) sp ta E):=by
 obtain ⟨m,own,fI,fd,h1,h2,G,b⟩:=F
 exact ⟨qS h1 h2 G b hr m hg ha.h fg he hpl⟩
end
structure SH (X:Cx) (hs:List ExceptHandler) (th:Addr->Addr->Option Addr->TS):Prop where
 h:PH X hs th
section
variable {c y b f:Str} {cp bp epos yp:Pos} {b0:Stmt} {BC:List Stmt} {rest:List ExceptHandler} {k:Nat} {ts:TS} {th:Addr->Addr->Option Addr->TS} {o value:Expr} {ta tv:TE} {sp:Sp} {h0:ExceptHandler}
theorem zU:SH X [] HH:=⟨MB⟩
theorem MN (hm:X.mg c=some (.ref (adr X.mg c))) (N:l_ X.K (adr X.mg c)) (hN:X.N.Nodup) (hj:X.N[j]? =some y) (hy:X.env.scope.names.lookup y=some .local) (hs:∀ e,SB (X.qz e) (b0::BC) ts) (hr:SH X rest th) (hg:Gl X c:=by rfl) (hd:(c==("__debug__":Str))=false:=by decide):SH X (.ExceptHandler (some (.Name c cp)) (some y) (b0::BC) pos::rest) (HJ X.K (adr X.mg c) j ts th):=⟨MC hg hm N.nm hN hj hy (fun e=>(hs e).h) hr.h hd⟩
theorem zV (F:xo X.prog X.w X.K X.mg X.base k x ps sp) (hr:dg k X.A) (ha:SA X.qt (e::es) t) (hh:SH X (h0::rest) th) (hN:X.N.Nodup) (hi:X.N[i]? =some y) (hy:X.env.scope.names.lookup y=some .local) (hst:X.stack=X.env::X.outer:=by rfl) (jv:X.env.frame=some X.env.locals:=by rfl) (hg:Gl X x:=by rfl)
  (fg:(x==("__debug__":Str))=false:=by decide) (he:starEach (e::es) X.env=(false,eval e X.env)::starEach es X.env:=by rfl) (hpl:(backTo cpos (starEach es X.env)).any (·.1)=false:=by rfl)
  (vc:swapsWith (.Call (.Name x p) (e::es) [] cpos) (some (.Name y yp)) epos.line X.env=pure false:=by rfl):SS X (.Try [.Assign [.Name y yp] (.Call (.Name x p) (e::es) [] cpos) epos] (h0::rest) [] [] pos) (HK i sp t th):=⟨vC F hr hg ha.h hh.h hst jv hN hi hy fg he hpl vc⟩
theorem zR {pl:Sem Bool} (K:Frag) (c:C4 K X.mg b) (ha:SA X (e::es) t) (hK:X.K=K:=by rfl) (hg:Gl X b:=by rfl) (fg:(b==("__debug__":Str))=false:=by decide)
  (hst:starEach (e::es) X.env=(false,eval e X.env)::starEach es X.env:=by rfl) (hpl:(backTo pos (starEach es X.env)).any (·.1)=false:=by rfl)
  (ht:eval (.Call (.Attribute (.Name b bp) "__init__" apos) (e::es) [] pos) X.env=(do
   let ov <- eval (.Name b bp) X.env
   standAt apos.atName
   let (f,first) <- holding [ov] (getMethod ov "__init__" pl)
   callWith pos f first (backTo pos (starEach (e::es) X.env)) (backToKw pos (keywordEach [] X.env))):=by rfl):SE X (.Call (.Attribute (.Name b bp) "__init__" apos) (e::es) [] pos) (HX K t):=by
 subst hK
 exact ⟨wJ c.ni c.m hg ha.h fg hst hpl ht⟩
theorem MO (K:Frag) (ha:SE X o ta) (hv:SE X value tv) (hK:X.K=K:=by rfl) (hs:swapsWith value (some (.Attribute o f pos')) pos.line X.env=pure false:=by rfl):SS X (.Assign [.Attribute o f pos'] value pos) (HY K ta tv f):=by subst hK;exact ⟨wK ha.h hv.h hs⟩
end
structure vh where
 x:Str
 q:Str
 st:Option Stmt
 fs:List Str
def H_ (K:Frag) (C:Addr):List Addr:=match clsIn K C with
 | some cd=>cd.mro.tail.filterMap fun v=>match v with | .ref a=>some a | _=>none
 | none=>[]
def C5 (K:Frag) (C:Addr) (st:Option Stmt):Option Value:=match st with
 | none=>none
 | some _=>(findIn K (.ref C) "__init__").getD none
def Ia (K:Frag) (c:vh) (C:Addr):Bool×Option zk:=(ql K C (H_ K C) (C5 K C c.st)&&(findIn K (.ref C) "__getattribute__"==some (some (.builtin "BaseException.__getattribute__"))&&(findIn K (.ref C) "__getattr__"==some none&&(findIn K (.ref C) "__setattr__"==some (some (.builtin "object.__setattr__"))&&(findIn K (.ref C) "__class__"==some (some (.builtin "object.__class__"))&&(C3 K C c.fs&&
  (match c.st with
  | none=>specialIn K (.ref C) "__getattribute__"==some (some (.builtin "type.__getattribute__"))&&(readsIn K C (.type "type")&&(match findCls K (.ref C) (.type "type") "__init__" with | some (.val v)=>v==.builtin "ValueError.__init__" | _=>false))
  | some _=>(match findIn K (.ref C) "__init__" with | some (some v)=>isFn K v | _=>false))))))),match c.st with | none=>none | some _=>fnAt K c.q (findIn K (.ref C) "__init__"))
def AQ (K:Frag):List vh->List (Option (Bool×Option zk))
 | []=>[]
 | c::l=>(match nsIn K mainGlobals c.x with | some (some (.ref C))=>some (Ia K c C) | _=>none)::AQ K l
def AR:List vh->List (Option (Bool×Option zk))
 | []=>[]
 | c::l=>some (true,c.st.map fun st=>zm "__init__" c.q st)::AR l
def C6 (K:Frag):List (Str×Str×Bool)->List (Option Bool)
 | []=>[]
 | c::l=>(match nsIn K mainGlobals c.1,nsIn K mainGlobals c.2.1 with | some (some (.ref C)),some (some (.ref B))=>subIn K (.ref C) (.ref B) | _,_=>none)::C6 K l
def C7:List (Str×Str×Bool)->List (Option Bool)
 | []=>[]
 | c::l=>some c.2.2::C7 l
section
variable {K:Frag}
theorem lN:∀ {l:List vh},AQ K l=AR l->∀ (i:Nat) {c:vh},l[i]? =some c->∃ C,nsIn K mainGlobals c.x=some (some (.ref C))/\Ia K c C=(true,c.st.map fun st=>zm "__init__" c.q st)
 | y::l,e,0,c,h=>by
  cases h
  have e1:=(List.cons.inj e).1
  split at e1
  ·rename_i C hC;exact ⟨C,hC,QD e1⟩
  ·cases e1
 | y::l,e,i+1,c,h=>lN (List.cons.inj e).2 i (by simpa using h)
theorem oR:∀ {l:List (Str×Str×Bool)},C6 K l=C7 l->∀ (i:Nat) {c:Str×Str×Bool},l[i]? =some c->∃ C B,nsIn K mainGlobals c.1=some (some (.ref C))/\nsIn K mainGlobals c.2.1=some (some (.ref B))/\subIn K (.ref C) (.ref B)=some c.2.2
 | y::l,e,0,c,h=>by
  cases h
  have e1:=(List.cons.inj e).1
  split at e1
  ·rename_i C B hC hB;exact ⟨C,B,hC,hB,e1⟩
  ·cases e1
 | y::l,e,i+1,c,h=>oR (List.cons.inj e).2 i (by simpa using h)
theorem cA (X:K.In h) (G:h.Ns mainGlobals mg) {l:List (Str×Str×Bool)} (e:C6 K l=C7 l) (i:Nat) {a b:Str} {v:Bool} (hi:l[i]? =some (a,b,v):=by rfl):subIn K (.ref (adr mg a)) (.ref (adr mg b))=some v:=by
 obtain ⟨C,B,h1,h2,h3⟩:=oR e i hi
 have m1:=mg_of X G h1
 have m2:=mg_of X G h2
 unfold adr;rw [m1,m2];exact h3
theorem tF (X:K.In h) (G:h.Ns mainGlobals mg) {l:List vh} (e:AQ K l=AR l) (i:Nat) {q:Str} {fs:List Str} (hi:l[i]? =some ⟨x,q,none,fs⟩:=by rfl):C4 K mg x:=by
 obtain ⟨C,hn,hc⟩:=lN e i hi
 have hm:=mg_of X G hn
 have ea:adr mg x=C:=by unfold adr;rw [hm]
 have hc:=(Prod.mk.inj hc).1
 simp only [Bool.and_eq_true,beq_iff_eq] at hc
 obtain ⟨c1,c2,c3,c4,c0,c5,c6,c7,c8⟩:=hc
 refine ⟨by rw [ea];exact hm,?_,?_,?_⟩<;>rw [ea]
 ·exact ⟨c2,c3,c4,c0,_,_,c1⟩
 ·exact ⟨_,c1⟩
 ·refine ⟨c6,c7,?_⟩
  split at c8
  ·rename_i v hv;exact ⟨v,hv,beq_iff_eq.mp c8⟩
  ·cases c8
theorem zB (X:K.In h) (G:h.Ns mainGlobals mg) {l:List vh} (e:AQ K l=AR l) (i:Nat) {q:Str} {st:Stmt} {fs:List Str} (hi:l[i]? =some ⟨x,q,some st,fs⟩)
  (hb:∀ (kV doc pm:Value) (an:Option Addr) (ay ct:Value) (us:List Value),us.length=ps.length->bindArgs (fnOf "__init__" q (mz st) (iw st) (bh st) .none kV doc pm an ay ct) ⟨us,[]⟩=pure (ps.zip us)):AO K mg x q st ps fs:=by
 obtain ⟨C,hn,hc⟩:=lN e i hi
 have hm:=mg_of X G hn
 have ea:adr mg x=C:=by unfold adr;rw [hm]
 obtain ⟨hc,hf⟩:=Prod.mk.inj hc
 simp only [Bool.and_eq_true,beq_iff_eq] at hc
 obtain ⟨c1,c2,c3,c4,c0,c5,c6⟩:=hc
 obtain ⟨f,fd,e1,F⟩:=qL (show fnAt K q (findIn K (.ref C) "__init__")=some (zm "__init__" q st) from hf)
 rw [e1] at c6
 have ei:C5 K C (some st)=some (.ref f):=by unfold C5;rw [e1];rfl
 have c1:ql K C (H_ K C) (C5 K C (some st))=true:=c1
 rw [ei] at c1
 refine ⟨by rw [ea];exact hm,?_,?_,?_⟩<;>rw [ea]
 ·exact ⟨c2,c3,c4,c0,_,_,c1⟩
 ·exact iN c5
 ·exact ⟨_,f,fd,c1,c6,F,F.binds hb⟩
theorem Ib (X:K.In h) (G:h.Ns mainGlobals mg) {l:List vh} (e:AQ K l=AR l) (i:Nat) {q p0 p1:Str} {st:Stmt} {fs:List Str} (hi:l[i]? =some ⟨x,q,some st,fs⟩:=by rfl)
  (hb:∀ (kV doc pm:Value) (an:Option Addr) (ay ct a0 a1:Value),bindArgs (fnOf "__init__" q (mz st) (iw st) (bh st) .none kV doc pm an ay ct) ⟨[a0,a1],[]⟩=pure [(p0,a0),(p1,a1)]:=by intros;rfl):AO K mg x q st [p0,p1] fs:=
 zB X G e i hi fun a b c d f g us hl=>by
  obtain ⟨a0,xu,rfl,zq⟩:=xr (n:=1) hl
  obtain ⟨a1,HN,rfl,i_⟩:=xr (n:=0) zq
  obtain rfl:=QR i_
  exact hb ..
end
end L2
namespace L2
open PySem PySem.Spec PyProof.Rows PySem.W
section
variable {K:QZ} {f:Addr} {cd:Value} {s0:Shared} {E:XK}
theorem wL {ev:Value} (I:Inv (gb (jm P w) P w K mg base N qual scope f cd A outer s0 H0 E) pins σ H s)
  (c:jm P w (envOfC qual scope s0.heap.objs.size f cd::outer) H s E ev s'):(gb (jm P w) P w K mg base N qual scope f cd A outer s0 H0 E).xe ev s':=by
 obtain ⟨e,C,dct,H',rfl,os,bare,un,hok,he,fl,q⟩:=c
 have I1:=I.Dv os un hok bare (fun b z=>absurd z (by simp))
 have fr:∀ b∈eu (envOfC qual scope s0.heap.objs.size f cd::outer),H' b=none:=I1.Ba
 have xj:e ∉ eu (envOfC qual scope s0.heap.objs.size f cd::outer):=fun z=>by rw [fr e z] at he;cases he
 show wpAny _ _ (leaving _ _) _ _ s'
 unfold leaving
 refine QS (iG (base:=base) (outer:=outer) (L:=s0.heap.objs.size) I1.ok.frames I1.stack rfl fl xj fun h' tb _ n BB=>?_)
 have zg:=cf.noted hok n fr he (fun xs z=>by rw [he] at z;cases z) (fun o v z=>by rw [he] at z;cases z) (fun y z=>by rw [he] at z;cases z) BB
 rw [kC he] at zg
 refine ⟨e,C,dct,H',rfl,I1.os,I1.bare,?_,zg,he,BB,q⟩
 have B:Un (eu outer) [] H0 H' s0.heap s'.heap:=I1.base
 have nL:∀ b o,s0.heap.get? b=some o->b ∉ eu outer->b ∉ eu (envOfC qual scope s0.heap.objs.size f cd::outer):=fun b o q hb z=>by
  have z':b∈s0.heap.objs.size::eu outer:=z
  rcases Qp.mp z' with z' | z'
  ·exact absurd (Qz q) (by rw [z'];exact Nat.lt_irrefl _)
  ·exact hb z'
 have ne:∀ {b},H' b=none->b≠e:=fun hb z=>by rw [z,he] at hb;cases hb
 refine ⟨fun b o q hn hb hx=>n.keep b o (nL b o q hb) (ne (B.free b o q hn hx)) (B.keep b o q hn hb hx),fun b o q hn hb hx=>?_,fun b o q hn hx=>B.free b o q hn hx,fun b o q hx=>?_,fun b xs q=>B.tups b xs q,fun b o u q=>B.jc b o u q,fun b ps q=>B.jt b ps q⟩
 ·obtain ⟨sl,q'⟩:=B.slot b o q hn hb hx
  obtain ⟨yj,EB⟩:=n.slot b _ (ne (B.free b o q hn hx)) q'
  exact ⟨yj,EB⟩
 ·obtain ⟨o',q'⟩:=B.there b o q hx
  exact n.CP b o' q'
theorem MP {k:Nat} {sp:Sp} (F:xo P w K mg base k x ps sp) (hr:dg k (A.deeper (envOfC qual scope s0.heap.objs.size f cd))) (ha:SA (gb (jm P w) P w K mg base N qual scope f cd A outer s0 H0 E) (e::es) ta)
  (hg:Gl (gb (jm P w) P w K mg base N qual scope f cd A outer s0 H0 E) x:=by rfl) (fg:(x==("__debug__":Str))=false:=by decide)
  (he:starEach (e::es) (envOfC qual scope s0.heap.objs.size f cd)=(false,eval e (envOfC qual scope s0.heap.objs.size f cd))::starEach es (envOfC qual scope s0.heap.objs.size f cd):=by rfl)
  (hpl:(backTo cpos (starEach es (envOfC qual scope s0.heap.objs.size f cd))).any (·.1)=false:=by rfl):
  SE (gb (jm P w) P w K mg base N qual scope f cd A outer s0 H0 E) (.Call (.Name x p) (e::es) [] cpos) (Co sp [] E ta):=by
 constructor
 intro pins s σ H Q I h
 obtain ⟨ff,fd,F,hm,hk,hb⟩:=F
 refine wpAny_Call_Name_kw (eA I hg hm ?_ fg)
 refine callWith_K (h₀:=base) I.ok.mod.Ak hk (av (ha.h cpos pins s σ H _ I h) fun us s1 ⟨vs,H1,I1,r,q⟩=>⟨I1.cz,?_⟩) he hpl
 dsimp only at q
 rw [QQ] at q
 have hl:us.length=ps.length:=by rw [<- r.length];exact F.len _ _ _ _ q
 refine wpAny_call (codeAny_mono (F.run _ _ s1 H1 ⟨us,[]⟩ us vs Q E hr I1.Cn (by have:=hb s1 us I1.cz (by simpa using hl);simpa using this) r q) fun r s' hq=>?_)
 cases r with
 | error ev=>exact wL I1 hq
 | ok fl=>
  cases fl with
  | ret u=>
   obtain ⟨v,H2,I2,rv,q2⟩:=I1.after hq
   exact ⟨v,H2,I2,rv,q2⟩
  | next=>exact hq.elim
  | brk=>exact hq.elim
  | cont=>exact hq.elim
end
end L2
namespace L2
end L2
namespace L2
open PySem PySem.SetTable
def C8 (mask:Nat) (p:Probe):Probe:=if p.more > 0 then {p with j:=p.j+1,more:=p.more - 1} else {p with j:=(leap mask p.i p.perturb).1,more:=runEnd mask (leap mask p.i p.perturb).1 - (leap mask p.i p.perturb).1,i:=(leap mask p.i p.perturb).1,perturb:=(leap mask p.i p.perturb).2}
def MQ (mask:Nat) (q:Nat×Nat):Probe:={j:=q.1,more:=runEnd mask q.1 - q.1,i:=q.1,perturb:=q.2,dummy:=none}
def st (mask:Nat) (h:Int):Nat->Probe
 | 0=>MQ mask (bits h % (mask+1),bits h)
 | n+1=>C8 mask (st mask h n)
section
variable {mask:Nat} {h:Int}
theorem lB (i:Nat):runEnd mask i - i<=9/\(i<=mask->i+(runEnd mask i - i)<=mask):=by
 unfold runEnd
 split<;>omega
theorem xN:∀ n,(st mask h n).j+(st mask h n).more<=mask
 | 0=>(lB _).2 (Nat.le_of_lt_succ (Nat.mod_lt _ (Nat.succ_pos _)))
 | n+1=>by
  have ih:=xN n
  show (C8 mask (st mask h n)).j+(C8 mask (st mask h n)).more<=mask
  unfold C8
  split
  ·simp only;omega
  ·exact (lB _).2 (Nat.le_of_lt_succ (Nat.mod_lt _ (Nat.succ_pos _)))
end
section
variable {xs:Array Nat}
end
section
variable {t:SetTable} {es:Array (Int×Value)} {h:Int}
end
section
variable {xs:Array α} {p:Nat} {x:α}
end
section
variable {t:SetTable} {es:Array (Int×Value)} {h:Int} {x:Value} {n0:Nat}
end
theorem iJ:∀ {l m:List Nat},l.Nodup->(∀ x∈l,x∈m)->l.length<=m.length
 | [],m,_,_=>Nat.zero_le _
 | a::l,m,nd,hs=>by
  obtain ⟨h1,h2⟩:=List.nodup_cons.mp nd
  have hm:=hs a (List.mem_cons_self ..)
  have:l.length<=(m.erase a).length:=iJ h2 fun x hx=>(List.mem_erase_of_ne (show x≠a from fun e=>h1 (by rw [<- e];exact hx))).mpr (hs x (Qh _ hx))
  rw [List.length_erase_of_mem hm] at this
  have:=List.length_pos_of_mem hm
  simp only [List.length_cons];omega
def Ow (owner:Array (Option Nat)) (j:Nat):Prop:=(owner.getD j (some 0)).isNone=false
structure Ie (mask:Nat) (owner:Array (Option Nat)) (hs:List Int):Prop where
 sz:owner.size=mask+1
 lt:∀ j k:Nat,owner[j]? =some (some k)->k < hs.length
 inj:∀ j j' k:Nat,owner[j]? =some (some k)->owner[j']? =some (some k)->j=j'
 reach:∀ k (h:k < hs.length),∃ n,owner[(st mask hs[k] n).j]? =some (some k)/\∀ m,m < n->Ow owner (st mask hs[k] m).j
section
variable {mask:Nat} {owner:Array (Option Nat)} {hs:List Int} {h:Int}
end
def AS (mask:Nat) (owner:Array (Option Nat)):List (Nat×Nat):=(List.range (mask+1)).filterMap fun j=>(owner.getD j none).map (j,·)
section
variable {mask:Nat} {owner:Array (Option Nat)} {hs:List Int}
theorem gT (hz:owner.size=mask+1) {p:Nat×Nat}:p∈AS mask owner↔p.1<=mask/\owner[p.1]? =some (some p.2):=by
 unfold AS
 rw [List.mem_filterMap]
 constructor
 ·rintro ⟨j,hj,e⟩
  have Ig:j < owner.size:=by have:=List.mem_range.mp hj;omega
  have eg:owner.getD j none=owner[j]:=by simp [Array.getD,Ig]
  rw [eg] at e
  cases hx:owner[j] with
  | none=>rw [hx] at e;cases e
  | some k=>
   rw [hx] at e
   cases e
   exact ⟨by show j<=mask;omega,by show owner[j]? =_;rw [Array.getElem?_eq_getElem Ig,hx]⟩
 ·rintro ⟨h1,h2⟩
  obtain ⟨h3,h4⟩:=Array.getElem?_eq_some_iff.mp h2
  refine ⟨p.1,List.mem_range.mpr (by omega),?_⟩
  have eg:owner.getD p.1 none=owner[p.1]:=by simp [Array.getD,h3]
  rw [eg,h4];rfl
theorem tK {f:Nat->Option Nat}:∀ l:List Nat,l.Pairwise (· < ·)->((l.filterMap fun j=>(f j).map (j,·)).map (·.1)).Pairwise (· < ·)/\∀ x∈(l.filterMap fun j=>(f j).map (j,·)).map (·.1),x∈l
 | [],_=>⟨.nil,fun _ h=>nomatch h⟩
 | a::l,h=>by
  obtain ⟨h1,h2⟩:=List.pairwise_cons.mp h
  obtain ⟨i1,i2⟩:=tK (f:=f) l h2
  cases e:f a with
  | none=>
   simp only [List.filterMap_cons,e,Option.map_none]
   exact ⟨i1,fun x hx=>Qh _ (i2 x hx)⟩
  | some k=>
   simp only [List.filterMap_cons,e,Option.map_some,List.map_cons]
   refine ⟨List.pairwise_cons.mpr ⟨fun x hx=>h1 x (i2 x hx),i1⟩,fun x hx=>?_⟩
   rcases Qp.mp hx with rfl | hx
   ·exact List.mem_cons_self ..
   ·exact Qh _ (i2 x hx)
theorem uI:((AS mask owner).map (·.1)).Pairwise (· < ·):=(tK (f:=fun j=>owner.getD j none) _ List.pairwise_lt_range).1
theorem Ie.len (I:Ie mask owner hs):(AS mask owner).length=hs.length:=by
 have nd:((AS mask owner).map (·.2)).Nodup:=by
  have h1:=uI (mask:=mask) (owner:=owner)
  rw [List.pairwise_map] at h1
  refine List.pairwise_map.mpr (h1.imp_of_mem fun {a b} ha hb qy e=>?_)
  have:=I.inj a.1 b.1 a.2 ((gT I.sz).mp ha).2 (by rw [e];exact ((gT I.sz).mp hb).2)
  omega
 have l1:=iJ nd (m:=List.range hs.length) fun x hx=>by
  obtain ⟨p,hp,rfl⟩:=List.mem_map.mp hx
  exact List.mem_range.mpr (I.lt _ _ ((gT I.sz).mp hp).2)
 have l2:=iJ (l:=List.range hs.length) (m:=(AS mask owner).map (·.2)) List.nodup_range fun x hx=>by
  have xy:=List.mem_range.mp hx
  obtain ⟨n,e1,_⟩:=I.reach x xy
  have hj:(st mask hs[x] n).j<=mask:=by have:=xN (mask:=mask) (h:=hs[x]) n;omega
  exact List.mem_map.mpr ⟨((st mask hs[x] n).j,x),(gT I.sz).mpr ⟨hj,e1⟩,rfl⟩
 simp at l1 l2
 omega
end
section
variable {K:Type} [DecidableEq K] {knd:KeyKind prog w K}
end
end L2
namespace L2
open PySem PySem.Spec PyProof.Rows
section
variable {I:Addr} {wr:List Addr} {P:Nat->Value->Prop} {St:Nat->Shared->Prop}
end
section
variable {MR:List (List be×Addr)} {ks:List be}
end
section
variable {MR:List (List be×Addr)}
end
def dd (seen:List Str):List (Road×Str)->LR
 | []=>[]
 | q::P=>if q.2∈seen then dd seen P else (q.2,q.1)::dd (seen++[q.2]) P
structure QI (rows:List ii) (f:Str) (i:Nat) (found:LR) (P:List (Road×Str)):Prop where
 fd:found=(Er (AF rows f i)).take i
 pd:dd (found.map (·.1)) P=(Er (AF rows f i)).drop i
theorem QI.start (rows:List ii) (f:Str):QI rows f 0 [] [([],f)]:=⟨by simp,by simp [dd,AF,Er,Ho]⟩
theorem Hq.ne {xs ys:List Str} (h:Hq xs ys):xs≠ys:=fun z=>by
 subst z
 obtain ⟨j,h1,h2,_,h3,_⟩:=h
 exact h3 rfl
section
variable {it d:Addr} {ep:Nat} {od:Obj} {es:Array DictEntry} {Q:Option Value->Shared->Prop}
end
section
variable {a b:Expr} {ta tb:TE}
end
inductive Th where
 | pick (w:Str) (t:Th)
 | ck (ps:List (Str×Th))
section
variable {rows:List ii} {e:Str}
end
structure PD (R:V->Th->Prop) (ws:List Str) (kvs:List (be×V)):Prop where
 all:∀ q∈kvs,∃ z t,q.1=.inr z/\z∈ws/\R q.2 t
 nd:(kvs.map (·.1)).Nodup
section
variable {R R':V->Th->Prop} {kvs Py:List (be×V)}
theorem PD.len (h:PD R ws kvs):kvs.length<=ws.length:=by
 have hc:∀ q:be×V,∃ z:Str,q∈kvs->q.1=.inr z/\z∈ws:=fun q=>by
  by_cases hq:q∈kvs
  ·obtain ⟨z,t,h1,h2,_⟩:=h.all q hq;exact ⟨z,fun _=>⟨h1,h2⟩⟩
  ·exact ⟨"",fun z=>absurd z hq⟩
 obtain ⟨f,hf⟩:=Classical.axiomOfChoice hc
 have:=kY (l:=kvs.map f) (m:=ws) ?_ ?_
 ·simpa using this
 ·refine List.pairwise_map.mpr ((List.pairwise_map.mp h.nd).imp_of_mem fun {a b} ha hb qy e=>qy ?_)
  rw [(hf a ha).1,(hf b hb).1,e]
 ·intro z hz
  obtain ⟨q,hq,rfl⟩:=List.mem_map.mp hz
  exact (hf q hq).2
end
theorem ae.tq {K:QZ} {xs:List V} (h:gv H a xs):ae K H a xs:=.inl h
section
variable {rows:List ii}
end
inductive Tv where
 | s (z:Str)
 | i (n:Int)
 | t (l:List Tv)
def TD (H:Hp):Nat->V->Tv->Prop
 | _,.str z,.s z'=>z=z'
 | _,.int k,.i j=>k=j
 | n+1,.ref a,.t ds=>∃ xs,gv H a xs/\xs.length=ds.length/\∀ j (h:j < xs.length) (h':j < ds.length),TD H n xs[j] ds[j]
 | _,_,_=>False
structure fi (H:Hp) (n:Nat) (xs:List V) (ds:List Tv):Prop where
 len:xs.length=ds.length
 at_:∀ j (h:j < xs.length) (h':j < ds.length),TD H n xs[j] ds[j]
theorem TD.str {n:Nat} {z:Str}:TD H n (.str z) (.s z):=by cases n<;>rfl
theorem TD.int {n:Nat} {z:Int}:TD H n (.int z) (.i z):=by cases n<;>rfl
theorem TD.tup {n:Nat} {a:Addr} {xs:List V} {ds:List Tv} (h:gv H a xs) (t:fi H n xs ds):TD H (n+1) (.ref a) (.t ds):=⟨xs,h,t.len,t.at_⟩
theorem fi.nil:fi H n [] []:=⟨rfl,fun i h=>absurd h (by simp)⟩
theorem fi.cons {n:Nat} {x:V} {d:Tv} {xs:List V} {ds:List Tv} (h:TD H n x d) (t:fi H n xs ds):fi H n (x::xs) (d::ds):=⟨by simp [t.len],fun i h1 h2=>by
 cases i with
 | zero=>exact h
 | succ i=>exact t.at_ i (by simpa using h1) (by simpa using h2)⟩
theorem TD.keep (k:∀ b ys,gv H b ys->gv H' b ys):∀ {n:Nat} {v:V} {d:Tv},TD H n v d->TD H' n v d
 | 0,.str _,.s _,h=>h
 | 0,.int _,.i _,h=>h
 | _+1,.str _,.s _,h=>h
 | _+1,.int _,.i _,h=>h
 | n+1,.ref a,.t ds,h=>let ⟨xs,h1,h2,h3⟩:=h;⟨xs,k _ _ h1,h2,fun i a b=>TD.keep k (h3 i a b)⟩
theorem TD.same {n:Nat} {v:V} {d:Tv} (h:TD H n v d) (s:aa H H'):TD H' n v d:=TD.keep (fun b ys r=>r.same s) h
theorem TD.ny {d:Tv} (h:TD H n (.ref a) d):∃ m ds xs,n=m+1/\d=.t ds/\gv H a xs/\fi H m xs ds:=by
 cases n with
 | zero=>cases d<;>exact h.elim
 | succ n=>
  cases d with
  | t ds=>obtain ⟨xs,h1,h2,h3⟩:=h;exact ⟨n,ds,xs,rfl,rfl,h1,h2,h3⟩
  | _=>exact h.elim
theorem TD.t_ {d:Tv} (h:TD H n (.str z) d):d=.s z:=by
 cases n<;>(cases d with
  | s z'=>exact congrArg Tv.s (show z=z' from h).symm
  | _=>exact h.elim)
theorem TD.ua {z:Int} {d:Tv} (h:TD H n (.int z) d):d=.i z:=by
 cases n<;>(cases d with
  | i z'=>exact congrArg Tv.i (show z=z' from h).symm
  | _=>exact h.elim)
theorem TD.v {n:Nat} {v:V} {d:Tv} (h:TD H n v d):(∃ z,v=.str z)\/(∃ z,v=.int z)\/∃ a,v=.ref a:=by
 cases n<;>(cases v<;>first | exact .inl ⟨_,rfl⟩ | exact .inr (.inl ⟨_,rfl⟩) | exact .inr (.inr ⟨_,rfl⟩) | (cases d<;>exact h.elim))
theorem TD.det:∀ {n m:Nat} {v:V} {d e:Tv},TD H n v d->TD H m v e->d=e
 | 0,m,v,d,e,h,h'=>by
  rcases h.v with ⟨z,rfl⟩ | ⟨z,rfl⟩ | ⟨a,rfl⟩
  ·rw [h.t_,h'.t_]
  ·rw [h.ua,h'.ua]
  ·obtain ⟨_,_,_,z,_⟩:=h.ny;cases z
 | n+1,m,v,d,e,h,h'=>by
  rcases h.v with ⟨z,rfl⟩ | ⟨z,rfl⟩ | ⟨a,rfl⟩
  ·rw [h.t_,h'.t_]
  ·rw [h.ua,h'.ua]
  ·obtain ⟨m1,ds,xs,e1,rfl,r1,t1⟩:=h.ny
   obtain ⟨m2,es,ys,e2,rfl,r2,t2⟩:=h'.ny
   cases e1
   have:=r1.inj r2
   subst this
   have l1:=t1.len
   have l2:=t2.len
   congr 1
   refine List.ext_getElem (by omega) fun i h1 h2=>?_
   exact TD.det (t1.at_ i (by omega) h1) (t2.at_ i (by omega) h2)
theorem jE {ds es:List Tv} {e:Nat->Bool} (hl:ds.length=es.length) (h:∀ j (h1:j < ds.length) (h2:j < es.length),e j=true↔ds[j]=es[j]):(List.range ds.length).all e=true↔ds=es:=by
 rw [List.all_eq_true]
 constructor
 ·intro ha
  exact List.ext_getElem hl fun i h1 h2=>(h i h1 h2).mp (ha i (List.mem_range.mpr h1))
 ·rintro rfl j hj
  have:=List.mem_range.mp hj
  exact (h j this this).mpr rfl
theorem TD.MS (I:Inv X pins σ H s):∀ {n:Nat} {m:Nat} {x y:V} {d e:Tv},TD H n x d->TD H m y e->∃ bo:Bool,(bo=true↔d=e)/\∀ (A:Around) (u v:Value),A.units+n < cLine->RelV x u->RelV y v->SeqAt.EqAt A s u v bo:=by
 intro n
 induction n with
 | zero=>
  intro m x y d e h h'
  rcases h.v with ⟨z,rfl⟩ | ⟨z,rfl⟩ | ⟨a,rfl⟩
  ·obtain rfl:=h.t_
   rcases h'.v with ⟨z',rfl⟩ | ⟨z',rfl⟩ | ⟨b,rfl⟩
   ·obtain rfl:=h'.t_
    exact ⟨z==z',by simp,fun A u v hu ru rv=>by obtain ⟨t,rfl⟩:=ru;obtain ⟨t',rfl⟩:=rv;exact SeqAt.EqAt.str_str z t z' t'⟩
   ·obtain rfl:=h'.ua
    exact ⟨false,by simp,fun A u v hu ru rv=>by obtain ⟨t,rfl⟩:=ru;obtain ⟨t',rfl⟩:=rv;exact SeqAt.EqAt.str_int z t z' t'⟩
   ·obtain ⟨_,ds,xs,rfl,rfl,r1,_⟩:=h'.ny
    refine ⟨false,by simp,fun A u v hu ru rv=>?_⟩
    obtain ⟨t,rfl⟩:=ru
    cases rv
    obtain ⟨i1,_,p1,_⟩:=I.tuple (ae.tq r1)
    exact SeqAt.EqAt.str_tuple z t p1 (by omega)
  ·obtain rfl:=h.ua
   rcases h'.v with ⟨z',rfl⟩ | ⟨z',rfl⟩ | ⟨b,rfl⟩
   ·obtain rfl:=h'.t_
    exact ⟨false,by simp,fun A u v hu ru rv=>by obtain ⟨t,rfl⟩:=ru;obtain ⟨t',rfl⟩:=rv;exact SeqAt.EqAt.int_str z t z' t'⟩
   ·obtain rfl:=h'.ua
    exact ⟨z==z',by simp,fun A u v hu ru rv=>by obtain ⟨t,rfl⟩:=ru;obtain ⟨t',rfl⟩:=rv;exact SeqAt.EqAt.int_int z t z' t'⟩
   ·obtain ⟨_,ds,xs,rfl,rfl,r1,_⟩:=h'.ny
    refine ⟨false,by simp,fun A u v hu ru rv=>?_⟩
    obtain ⟨t,rfl⟩:=ru
    cases rv
    obtain ⟨i1,_,p1,_⟩:=I.tuple (ae.tq r1)
    exact SeqAt.EqAt.int_tuple z t p1 (by omega)
  ·obtain ⟨_,_,_,z,_⟩:=h.ny;cases z
 | succ n ih=>
  intro m x y d e h h'
  rcases h.v with ⟨z,rfl⟩ | ⟨z,rfl⟩ | ⟨a,rfl⟩
  ·obtain ⟨bo,h1,h2⟩:=ih (m:=m) (TD.str (n:=n) (z:=z)) h'
   rw [h.t_]
   exact ⟨bo,h1,fun A u v hu=>h2 A u v (by omega)⟩
  ·obtain ⟨bo,h1,h2⟩:=ih (m:=m) (TD.int (n:=n) (z:=z)) h'
   rw [h.ua]
   exact ⟨bo,h1,fun A u v hu=>h2 A u v (by omega)⟩
  ·obtain ⟨n',ds,xs,e1,rfl,r1,t1⟩:=h.ny
   cases e1
   rcases h'.v with ⟨z',rfl⟩ | ⟨z',rfl⟩ | ⟨b,rfl⟩
   ·obtain rfl:=h'.t_
    refine ⟨false,by simp,fun A u v hu ru rv=>?_⟩
    obtain ⟨t,rfl⟩:=rv
    cases ru
    obtain ⟨i1,_,p1,_⟩:=I.tuple (ae.tq r1)
    exact SeqAt.EqAt.tuple_str z' t p1 (by omega)
   ·obtain rfl:=h'.ua
    refine ⟨false,by simp,fun A u v hu ru rv=>?_⟩
    obtain ⟨t,rfl⟩:=rv
    cases ru
    obtain ⟨i1,_,p1,_⟩:=I.tuple (ae.tq r1)
    exact SeqAt.EqAt.tuple_int z' t p1 (by omega)
   ·obtain ⟨m',es,ys,rfl,rfl,r2,t2⟩:=h'.ny
    by_cases qy:a=b
    ·subst qy
     refine ⟨true,⟨fun _=>TD.det h h',fun _=>rfl⟩,fun A u v hu ru rv=>?_⟩
     cases ru
     cases rv
     exact SeqAt.EqAt.same _
    ·obtain ⟨i1,v1,p1,_⟩:=I.tuple (ae.tq r1)
     obtain ⟨i2,v2,p2,_⟩:=I.tuple (ae.tq r2)
     have l1:=v1.length
     have l2:=v2.length
     have k1:=t1.len
     have k2:=t2.len
     have hc:∀ j:Nat,∃ bo:Bool,∀ (h1:j < ds.length) (h2:j < es.length),(bo=true↔ds[j]=es[j])/\∀ (A:Around) (u v:Value),A.units+n < cLine->RelV (xs[j]'(by omega)) u->RelV (ys[j]'(by omega)) v->SeqAt.EqAt A s u v bo:=fun j=>by
      by_cases hj:j < ds.length/\j < es.length
      ·obtain ⟨bo,q1,q2⟩:=ih (t1.at_ j (by omega) hj.1) (t2.at_ j (by omega) hj.2)
       exact ⟨bo,fun _ _=>⟨q1,q2⟩⟩
      ·exact ⟨false,fun h1 h2=>absurd ⟨h1,h2⟩ hj⟩
     obtain ⟨ev,vm⟩:=Classical.axiomOfChoice hc
     refine ⟨(List.range (min i1.toArray.size i2.toArray.size)).all ev&&i1.toArray.size==i2.toArray.size,?_,fun A u v hu ru rv=>?_⟩
     ·have s1:i1.toArray.size=ds.length:=by simp;omega
      have s2:i2.toArray.size=es.length:=by simp;omega
      rw [s1,s2,Bool.and_eq_true]
      constructor
      ·rintro ⟨q1,q2⟩
       have hl:ds.length=es.length:=by simpa using q2
       rw [<- hl,Nat.min_self] at q1
       exact congrArg Tv.t ((jE hl fun j h1 h2=>(vm j h1 h2).1).mp q1)
      ·intro q
       have hq:ds=es:=by injection q
       have hl:ds.length=es.length:=by rw [hq]
       refine ⟨?_,by simp [hl]⟩
       rw [<- hl,Nat.min_self]
       exact (jE hl fun j h1 h2=>(vm j h1 h2).1).mpr hq
     ·cases ru
      cases rv
      refine SeqAt.EqAt.of_refs qy (SeqAt.RcAt.tuples (A:=A) (e:=ev) p1 p2 (by omega) fun j g1 g2=>?_)
      have j1:j < ds.length:=by simp at g1;omega
      have j2:j < es.length:=by simp at g2;omega
      obtain ⟨w1,f1,q1⟩:=v1.get (Qa (show j < xs.length by omega))
      obtain ⟨w2,f2,q2⟩:=v2.get (Qa (show j < ys.length by omega))
      have n1:i1.toArray[j]=w1:=by rw [Qa (by simpa using g1)] at f1;simpa using f1
      have n2:i2.toArray[j]=w2:=by rw [Qa (by simpa using g2)] at f2;simpa using f2
      rw [n1,n2]
      exact (vm j j1 j2).2 A.in1 w1 w2 (by rw [Around.in1_units];omega) q1 q2
theorem fi.Ih (I:Inv X pins σ H s) {m:Nat} {xs ys:List V} {ds es:List Tv} (t1:fi H n xs ds) (t2:fi H m ys es):∃ ev:Nat->Bool,(∀ j (h1:j < ds.length) (h2:j < es.length),ev j=true↔ds[j]=es[j])/\∀ (i1 i2:List Value),a_ xs i1->a_ ys i2->∀ (A:Around),A.units+n+1 < cLine->∀ (j:Nat) (h1:j < i1.toArray.size) (h2:j < i2.toArray.size),SeqAt.EqAt A.in1 s i1.toArray[j] i2.toArray[j] (ev j):=by
 have k1:=t1.len
 have k2:=t2.len
 have hc:∀ j:Nat,∃ bo:Bool,∀ (h1:j < ds.length) (h2:j < es.length),(bo=true↔ds[j]=es[j])/\∀ (A:Around) (u v:Value),A.units+n < cLine->RelV (xs[j]'(by omega)) u->RelV (ys[j]'(by omega)) v->SeqAt.EqAt A s u v bo:=fun j=>by
  by_cases hj:j < ds.length/\j < es.length
  ·obtain ⟨bo,q1,q2⟩:=TD.MS I (t1.at_ j (by omega) hj.1) (t2.at_ j (by omega) hj.2)
   exact ⟨bo,fun _ _=>⟨q1,q2⟩⟩
  ·exact ⟨false,fun h1 h2=>absurd ⟨h1,h2⟩ hj⟩
 obtain ⟨ev,vm⟩:=Classical.axiomOfChoice hc
 refine ⟨ev,fun j h1 h2=>(vm j h1 h2).1,fun i1 i2 v1 v2 A hu j g1 g2=>?_⟩
 have l1:=v1.length
 have l2:=v2.length
 have j1:j < ds.length:=by simp at g1;omega
 have j2:j < es.length:=by simp at g2;omega
 obtain ⟨w1,f1,q1⟩:=v1.get (Qa (show j < xs.length by omega))
 obtain ⟨w2,f2,q2⟩:=v2.get (Qa (show j < ys.length by omega))
 have n1:i1.toArray[j]=w1:=by rw [Qa (by simpa using g1)] at f1;simpa using f1
 have n2:i2.toArray[j]=w2:=by rw [Qa (by simpa using g2)] at f2;simpa using f2
 rw [n1,n2]
 exact (vm j j1 j2).2 A.in1 w1 w2 (by rw [Around.in1_units];omega) q1 q2
theorem tE {ds es:List Tv} {s1 s2:Nat} {ev:Nat->Bool} (h1:s1=ds.length) (h2:s2=es.length) (vm:∀ j (h1:j < ds.length) (h2:j < es.length),ev j=true↔ds[j]=es[j]):((List.range (min s1 s2)).all ev&&s1==s2)=true↔Tv.t ds=.t es:=by
 subst h1 h2
 rw [Bool.and_eq_true]
 constructor
 ·rintro ⟨q1,q2⟩
  have hl:ds.length=es.length:=by simpa using q2
  rw [<- hl,Nat.min_self] at q1
  exact congrArg Tv.t ((jE hl vm).mp q1)
 ·intro q
  have hq:ds=es:=by injection q
  have hl:ds.length=es.length:=by rw [hq]
  refine ⟨?_,by simp [hl]⟩
  rw [<- hl,Nat.min_self]
  exact (jE hl vm).mpr hq
def Ii (ng:Bool):R2:=fun x y H Q=>∃ n m d e a b,n<=150/\x=.ref a/\y=.ref b/\TD H n x d/\TD H m y e/\∀ bo:Bool,(bo=true↔d=e)->Q (.bl (ng^^bo)) H
theorem qH (hu:X.A.units+170 < cLine):bw X (compareOp .Eq) (Ii false):=by
 intro pins s σ H x y v u Q I rx ry h
 obtain ⟨n,m,d,e,a,b,hn,rfl,rfl,h1,h2,q⟩:=h
 cases rx
 cases ry
 obtain ⟨n',ds,xs,rfl,rfl,r1,t1⟩:=h1.ny
 obtain ⟨m',es,ys,rfl,rfl,r2,t2⟩:=h2.ny
 obtain ⟨i1,v1,p1,_⟩:=I.tuple (ae.tq r1)
 obtain ⟨i2,v2,p2,_⟩:=I.tuple (ae.tq r2)
 have l1:=v1.length
 have l2:=v2.length
 have k1:=t1.len
 have k2:=t2.len
 obtain ⟨ev,e1,e2⟩:=fi.Ih I t1 t2
 refine SeqAt.RcAt.tuples (A:=X.A) (e:=ev) p1 p2 (by omega) (e2 i1 i2 v1 v2 X.A (by omega)) _ _ _ _ ?_
 refine ⟨.bl _,H,I,rfl,?_⟩
 have:=q _ (tE (s1:=i1.toArray.size) (s2:=i2.toArray.size) (by simp;omega) (by simp;omega) e1)
 rw [QE] at this
 exact this
theorem x6 (hu:X.A.units+170 < cLine):bw X (compareOp .NotEq) (Ii true):=by
 intro pins s σ H x y v u Q I rx ry h
 obtain ⟨n,m,d,e,a,b,hn,rfl,rfl,h1,h2,q⟩:=h
 cases rx
 cases ry
 obtain ⟨n',ds,xs,rfl,rfl,r1,t1⟩:=h1.ny
 obtain ⟨m',es,ys,rfl,rfl,r2,t2⟩:=h2.ny
 obtain ⟨i1,v1,p1,_⟩:=I.tuple (ae.tq r1)
 obtain ⟨i2,v2,p2,_⟩:=I.tuple (ae.tq r2)
 have l1:=v1.length
 have l2:=v2.length
 have k1:=t1.len
 have k2:=t2.len
 obtain ⟨ev,e1,e2⟩:=fi.Ih I t1 t2
 refine SeqAt.RcNeAt.tuples (A:=X.A) (e:=ev) p1 p2 (by omega) (e2 i1 i2 v1 v2 X.A (by omega)) _ _ _ _ ?_
 refine ⟨.bl _,H,I,rfl,?_⟩
 have:=q _ (tE (s1:=i1.toArray.size) (s2:=i2.toArray.size) (by simp;omega) (by simp;omega) e1)
 rw [Bool.true_xor] at this
 exact this
def uc:List (List Tv)->List Tv->List Tv
 | l::ls,m::ms=>.t (l++[m])::uc ls ms
 | _,_=>[]
mutual
def jn:Mr->Tv
 | .mk f ks=>.t (match f with
  | .get z=>[.s "get",.s z]
  | .fn v r=>[.s "fn",.s v,.s r]++jx ks
  | .call=>.s "call"::jx ks
  | .ck ws=>[.s "box",.t (uc (ws.map fun z=>[Tv.s z]) (jx ks))]
  | .part z=>.s "part"::(jx ks++[.s z])
  | .pick z=>[.s "pick",.s z]++jx ks
  | .split cs=>.s "split"::((jx ks).take 1++[.t (uc (cs.map fun c=>[Tv.s c.1,.s c.2]) ((jx ks).drop 1))])
  | .hold r=>.s "hold"::(jx ks++[.s r]))
def jx:List Mr->List Tv
 | []=>[]
 | m::l=>jn m::jx l
end
theorem nH:∀ l:List Mr,jx l=l.map jn
 | []=>by rw [jx];rfl
 | m::l=>by rw [jx,nH l];rfl
theorem mY:∀ (ls:List (List Tv)) (ms:List Tv) (i:Nat) (h:i < (uc ls ms).length) (h1:i < ls.length) (h2:i < ms.length),(uc ls ms)[i]=.t (ls[i]++[ms[i]])
 | l::ls,m::ms,0,_,_,_=>rfl
 | l::ls,m::ms,i+1,h,h1,h2=>by
  have:=mY ls ms i (by simpa [uc] using h) (by simpa using h1) (by simpa using h2)
  simpa [uc] using this
theorem nX:∀ (ls:List (List Tv)) (ms:List Tv),ls.length=ms.length->(uc ls ms).length=ls.length
 | [],[],_=>rfl
 | l::ls,m::ms,h=>by simp [uc,nX ls ms (by simpa using h)]
theorem TD.up {H:Hp}:∀ {n:Nat} {v:V} {d:Tv} {k:Nat},TD H n v d->n<=k->TD H k v d
 | n,v,d,k,h,hk=>by
  rcases h.v with ⟨z,rfl⟩ | ⟨z,rfl⟩ | ⟨a,rfl⟩
  ·obtain rfl:=h.t_;exact TD.str
  ·obtain rfl:=h.ua;exact TD.int
  ·obtain ⟨m,ds,xs,rfl,rfl,h1,h2⟩:=h.ny
   obtain ⟨j,rfl⟩:∃ j,k=j+1:=⟨k - 1,by omega⟩
   exact TD.tup h1 ⟨h2.len,fun i a b=>TD.up (h2.at_ i a b) (by omega)⟩
 termination_by n=>n
theorem fi.app {xs ys:List V} {ds es:List Tv} (h1:fi H n xs ds) (h2:fi H n ys es):fi H n (xs++ys) (ds++es):=by
 have l1:=h1.len
 have l2:=h2.len
 refine ⟨by simp [l1,l2],fun i a b=>?_⟩
 by_cases h:i < xs.length
 ·rw [Qe h,Qe (by omega)]
  exact h1.at_ i h (by omega)
 ·rw [Qf (by omega),Qf (by omega)]
  simp only [<- l1]
  exact h2.at_ _ (by simp at a;omega) (by simp at a;omega)
theorem jw.Ij {ls:List (List V)} {ts:List (List Tv)} {xs ms:List V} {ds:List Tv} (h:jw H ls xs ms) (hm:fi H n ms ds) (hl:ls.length=ts.length) (ht:∀ i (h1:i < ls.length) (h2:i < ts.length),fi H n ls[i] ts[i]):fi H (n+1) xs (uc ts ds):=by
 have l1:=h.l1
 have l2:=h.l2
 have l3:=hm.len
 have l4:=nX ts ds (by omega)
 refine ⟨by omega,fun i a b=>?_⟩
 obtain ⟨c,h1,h2⟩:=h.at_ i a (by omega) (by omega)
 rw [h1,mY ts ds i b (by omega) (by omega)]
 exact TD.tup (.inl h2) ((ht i (by omega) (by omega)).app (.cons (hm.at_ i (by omega) (by omega)) .nil))
theorem aq.td {v:V} {m:Mr} (h:aq H d v m):TD H (3*d) v (jn m):=by
 induction h with
 | @mk n v f vs ks a o b c ih=>
  have hk:fi H (3*n) vs (jx ks):=by
   rw [nH]
   exact ⟨by simpa using b,fun i h1 h2=>by rw [Qr];exact ih i h1 (by simpa using h2)⟩
  have hk2:fi H (3*n+2) vs (jx ks):=⟨hk.len,fun i h1 h2=>TD.up (hk.at_ i h1 h2) (by omega)⟩
  rw [show 3*(n+1)=3*n+2+1 by omega]
  cases a with
  | get e=>
   rw [jn]
   exact TD.tup (.inl e) (.cons .str (.cons .str .nil))
  | @fn a0 v0 r0 m0 e=>
   rw [jn]
   exact TD.tup (.inl e) (fi.app (xs:=[.str "fn",.str v0,.str r0]) (.cons .str (.cons .str (.cons .str .nil))) hk2)
  | call e=>
   rw [jn]
   exact TD.tup (.inl e) (.cons .str hk2)
  | @ck a0 b0 ws xs ms e e' r=>
   rw [jn]
   refine TD.tup (.inl e) (.cons .str (.cons (TD.tup (n:=3*n+1) (.inl e') (r.Ij hk (by simp [ip]) fun i h1 h2=>?_)) .nil))
   simp only [ip,Qr]
   exact .cons .str .nil
  | @part a0 m0 z e=>
   rw [jn]
   exact TD.tup (.inl e) (.cons .str (fi.app (xs:=[m0]) hk2 (.cons .str .nil)))
  | @pick a0 z m0 e=>
   rw [jn]
   exact TD.tup (.inl e) (fi.app (xs:=[.str "pick",.str z]) (.cons .str (.cons .str .nil)) hk2)
  | @split a0 b0 cs m0 xs ms e e' r=>
   obtain ⟨k0,C9,rfl⟩:∃ k0 C9,ks=k0::C9:=by
    cases ks with
    | nil=>simp at b
    | cons k0 C9=>exact ⟨_,_,rfl⟩
   rw [jn]
   rw [jx] at hk hk2 ⊢
   have ht:fi H (3*n) ms (jx C9):=⟨by have:=hk.len;simpa using this,fun i h1 h2=>by
    have:=hk.at_ (i+1) (by simpa using h1) (by simpa using h2)
    simpa using this⟩
   refine TD.tup (.inl e) (.cons .str (.cons (hk2.at_ 0 (by simp) (by simp)) (.cons (TD.tup (n:=3*n+1) (.inl e') (r.Ij ht (by simp [fu]) fun i h1 h2=>?_)) .nil)))
   simp only [fu,Qr]
   exact .cons .str (.cons .str .nil)
  | @hold a0 m0 z e=>
   rw [jn]
   exact TD.tup (.inl e) (.cons .str (fi.app (xs:=[m0]) hk2 (.cons .str .nil)))
theorem wW (m:Mr) (z:Str):jn m=.t [.s "get",.s z]↔m.f=.get z:=by
 obtain ⟨f,ks⟩:=m
 have ns:∀ {a b:Str},a≠b->Tv.s a≠.s b:=fun h q=>h (Tv.s.inj q)
 cases f with
 | get y=>
  rw [jn]
  constructor
  ·intro h
   have h:=Tv.t.inj h
   simp only [List.cons.injEq,Tv.s.injEq,and_true,true_and] at h
   rw [h];rfl
  ·intro h
   have:y=z:=by simpa [Mr.f] using h
   rw [this]
 | _=>
  rw [jn]
  constructor
  ·intro h
   have h:=Tv.t.inj h
   simp only [List.cons_append,List.nil_append,List.cons.injEq] at h
   exact absurd h.1 (ns (by decide+kernel))
  ·intro h;cases h
end L2
namespace PySem
open Sem (wp)
section
variable {I:Addr} {wr:List Addr} {P:Nat->Value->Prop} {St:Nat->Heap->Prop}
theorem tH (W:Walks prog w A.in1 I fp wr n P St) (bt:Nat->Nat->Bool) (BJ:CmpOf prog w A.in1 .Gt P bt) (S:Addr) (x_:S ∉ fp):
  ∀ (k j:Nat) (s:Shared) (vb:Value) (c:Nat),n - (j+1)=k->j+1<=n->St (j+1) s.heap->P (argBest bt j) vb->
  s.heap.get? S=some {cls:=.type "list",dict:=none,data:=.seq #[vb,vb] c,slots:=#[]}->
  (∀ v h' tk,P (argBest bt (n - 1)) v->(∀ b o,b ∉ wr->b≠S->s.heap.get? b=some o->h'.get? b=some o)->R (.ok (.ret v)) {s with heap:=h',toks:=tk})->
  codeAny (model prog w) A (.builtin "max.loop" ⟨[.ref I,.none,.ref S],kw⟩) R s:=by
 have C_:S ∉ wr:=fun h=>x_ (W.sub _ h)
 have nm:(toString "max"++toString ".loop":String)="max.loop":=by decide
 intro k
 induction k with
 | zero=>
  intro j s vb c hk hj hst Dc hS hR
  have Ik:j+1=n:=by omega
  refine codeAny_builtin F.entry_max_loop ?_
  rw [Around.under_plainId F.plain_max_loop _]
  refine QS (wpAny_seqItems hS rfl ?_)
  refine QS (wpAny_tryCatch (W.done s _ _ (Ik▸hst) fun h' tk kh=>?_))
  have vn:=kh S _ C_ hS
  refine QS (wpAny_updateSeq vn rfl (QS (wpAny_letGo (QT ?_))))
  exact hR vb _ tk (by rw [<- Ik];exact Dc) fun b o hb vo e=>(Heap.get?_update_other _ _ (Ne.symm vo)).trans (kh b o hb e)
 | succ k ih=>
  intro j s vb c hk hj hst Dc hS hR
  have b_:j+1 < n:=by omega
  refine codeAny_builtin F.entry_max_loop ?_
  rw [Around.under_plainId F.plain_max_loop _]
  refine QS (wpAny_seqItems hS rfl ?_)
  refine QS (wpAny_tryCatch (W.item (j+1) s _ _ b_ hst fun v h' tk hP AU kh=>?_))
  have vn:=kh S _ C_ hS
  refine QS (QT ?_)
  refine QS (wpAny_tryCatch (wpAny_holding (QS (BJ (j+1) (argBest bt j) v vb _ _ _ hP Dc ?_))))
  refine QS (wpAny_holding (wpAny_truthy_bool ?_))
  refine QS (wpAny_letGo (QT ?_))
  cases hb:bt (j+1) (argBest bt j) with
  | true=>
   simp only [if_true]
   refine QS (wpAny_updateSeq vn rfl (QS (wpAny_letGo ?_)))
   rw [nm]
   refine QT ⟨plainId_quiet F.plain_max_loop _,ih (j+1) _ v _ (by omega) b_ (W.frame _ _ _ AU fun b EK o e=>?_) (by simp only [argBest,hb,if_true];exact hP) (Heap.get?_update_self _ vn rfl) fun v' h2 BK jh hk2=>?_⟩
   ·exact (Heap.get?_update_other _ _ (fun h:S=b=>x_ (by rw [h];exact EK))).trans e
   ·exact hR v' h2 BK jh fun b o ud vo e=>hk2 b o ud vo ((Heap.get?_update_other _ _ (Ne.symm vo)).trans (kh b o ud e))
  | false=>
   simp only [Bool.false_eq_true,if_false]
   refine QS (wpAny_letGo ?_)
   rw [nm]
   refine QT ⟨plainId_quiet F.plain_max_loop _,ih (j+1) _ vb c (by omega) b_ AU (by simp only [argBest,hb,Bool.false_eq_true,if_false];exact Dc) vn fun v' h2 BK jh hk2=>?_⟩
   exact hR v' h2 BK jh fun b o ud vo e=>hk2 b o ud vo (kh b o ud e)
theorem rG {d:Value} (W:Walks prog w A.in1 I fp wr n P St) (bt:Nat->Nat->Bool) (BJ:CmpOf prog w A.in1 .Gt P bt) (S:Addr) (x_:S ∉ fp) {c:Nat} (hst:St 0 s.heap)
  (hS:s.heap.get? S=some {cls:=.type "list",dict:=none,data:=.seq #[] c,slots:=#[]})
  (hR:∀ v h' tk,(0 < n/\P (argBest bt (n - 1)) v\/n=0/\v=d)->(∀ b o,b ∉ wr->b≠S->s.heap.get? b=some o->h'.get? b=some o)->R (.ok (.ret v)) {s with heap:=h',toks:=tk}):
  codeAny (model prog w) A (.builtin "max.loop" ⟨[.ref I,.none,.ref S],[("default",d)]⟩) R s:=by
 have C_:S ∉ wr:=fun h=>x_ (W.sub _ h)
 have nm:(toString "max"++toString ".loop":String)="max.loop":=by decide
 refine codeAny_builtin F.entry_max_loop ?_
 rw [Around.under_plainId F.plain_max_loop _]
 refine QS (wpAny_seqItems hS rfl ?_)
 rcases Nat.eq_zero_or_pos n with h0 | hn
 ·refine QS (wpAny_tryCatch (W.done s _ _ (h0▸hst) fun h' tk kh=>?_))
  refine QS (wpAny_rule ?_)
  exact QT (hR d _ tk (.inr ⟨h0,rfl⟩) fun b o hb _ e=>kh b o hb e)
 ·refine QS (wpAny_tryCatch (W.item 0 s _ _ hn hst fun v h' tk hP AU kh=>?_))
  have vn:=kh S _ C_ hS
  refine QS (QT ?_)
  refine QS (wpAny_updateSeq vn rfl ?_)
  rw [nm]
  refine QT ⟨plainId_quiet F.plain_max_loop _,tH W bt BJ S x_ _ 0 _ v _ rfl hn (W.frame _ _ _ AU fun b EK o e=>?_) hP (Heap.get?_update_self _ vn rfl) fun v' h2 BK jh hk2=>?_⟩
  ·exact (Heap.get?_update_other _ _ (fun h:S=b=>x_ (by rw [h];exact EK))).trans e
  ·exact hR v' h2 BK (.inl ⟨hn,jh⟩) fun b o ud vo e=>hk2 b o ud vo ((Heap.get?_update_other _ _ (Ne.symm vo)).trans (kh b o ud e))
end
theorem t9 (a v:Value):argsOk "max" ⟨[a],[("default",v)]⟩:=by unfold argsOk;kernel_rfl
theorem uM (v:Value):Builtin.Builtins.bindParams "max" ["key","default"] 0 ⟨[],[("default",v)]⟩=pure [none,some v]:=by rfl
theorem tJ {x d:Value}
  (h:wpAny (model prog w) A.in1 (pyIter x) (fun it s2=>∃ I fp wr n P St bt,it=.ref I/\Walks prog w A.in1 I fp wr n P St/\St 0 s2.heap/\(∀ b∈fp,b < s2.heap.objs.size)/\CmpOf prog w A.in1 .Gt P bt/\
   ∀ v h' tk,(0 < n/\P (argBest bt (n - 1)) v\/n=0/\v=d)->(∀ b o,b ∉ wr->s2.heap.get? b=some o->h'.get? b=some o)->Q v {s2 with heap:=h',toks:=tk}) E s):
  wpAny (model prog w) A (call (.builtin "max") [x] [("default",d)]) Q E s:=by
 have nm:(toString "max"++toString ".loop":String)="max.loop":=by decide
 refine PyProof.Rows.kmk_tree F.kind_max F.plain_max F.entry_max (t9 _ _) ?_
 refine QS (wpAny_of_eq (uM d) ?_)
 refine QS (QT ?_)
 refine QS (wpAny_mono h (fun it s2 h2=>?_) fun _ _ e=>e)
 obtain ⟨I,fp,wr,n,P,St,bt,rfl,W,hst,MT,BJ,hQ⟩:=h2
 refine QS (wpAny_newObj_type ?_)
 have x_:s2.heap.objs.size ∉ fp:=fun hm=>Nat.lt_irrefl _ (MT _ hm)
 rw [nm]
 refine QT ⟨plainId_quiet F.plain_max_loop _,rG W bt BJ s2.heap.objs.size x_ (W.frame _ _ _ hst fun b _ o e=>Qc _ e) (Qd _ rfl) fun v h' tk hP hk=>?_⟩
 exact hQ v h' tk hP fun b o ud e=>hk b o ud (Nat.ne_of_lt (Qz e)) (Qc _ e)
end PySem
namespace L2
open PySem PySem.Spec PyProof.Rows
section
variable {dv:Expr} {kp:Pos} {td:TE}
def Il (K:QZ) (te td:TE):TE:=fun σ H Q=>te σ H fun y H1=>td σ H1 fun z H2=>∃ (a:Addr) (ns:List Int) (d:Int),y=.ref a/\z=.int d/\ao K H2 a (ns.map V.int)/\∀ m,(ns=[]/\m=d\/m∈ns/\∀ i∈ns,i<=m)->Q (.int m) H2
theorem xB (hc:X.calm=true) (hg:Gl X "max") (hm:X.mg "max"=none) (he:PE X e te) (hd:PE X dv td) (vg:starEach [e] X.env=(false,eval e X.env)::starEach [] X.env:=by rfl) (hpl:(backTo pos (starEach [e] X.env)).any (·.1)=false:=by rfl):PE X (.Call (.Name "max" p) [e] [⟨some "default",dv,kp⟩] pos) (Il X.K te td):=by
 intro pins s σ H Q I h
 refine wpAny_Call_Name_kw (eZ I hg hm PyProof.Rows.boot_max ?_ (by decide) (by decide))
 refine callWith_kw ?_ (by rw [vg];rfl) hpl
 rw [vg]
 refine Calls.spliced_cons (av (he pins s σ H _ I h) fun u s1 ⟨y,H1,I1,ru,q1⟩=>Calls.spliced_nil ?_)
 refine kws_cons (av (hd pins s1 σ H1 _ I1 q1) ?_)
 rintro u2 s2 ⟨z,H2,I2,rz,a,ns,d,ea,ez,hq,q⟩
 subst ea ez
 cases ru
 obtain ⟨td,rfl⟩:=rz
 refine kws_nil ?_
 show wpAny _ _ (call (.builtin "max") [.ref a] [("default",.int d td)]) _ _ _
 obtain ⟨its,rv,pl,hz⟩:=I2.list hq
 have hl:=rv.length
 rw [Ql] at hl
 have b_:a < s2.heap.objs.size:=by obtain ⟨_,e,_⟩:=pl.isList;exact Qz e
 have get:∀ (i:Nat) (v:Value),its.toArray[i]? =some v->∃ t,v=.int (ns.getD i 0) t:=fun i v hP=>by
  have jh:its[i]? =some v:=by simpa using hP
  have hi:i < its.length:=(List.getElem?_eq_some_iff.mp jh).1
  obtain ⟨u,h1,h2⟩:=rv.get (i:=i) (x:=.int (ns.getD i 0)) (by rw [Qq,Qa (by omega),Qb,Qa (by omega)];rfl)
  rw [jh] at h1
  cases h1
  exact h2
 refine tJ (wpAny_pyIter_list pl.isList ?_)
 refine ⟨s2.heap.objs.size,[s2.heap.objs.size,a],[s2.heap.objs.size],its.toArray.size,_,_,fun i j=>decide (ns.getD i 0 > ns.getD j 0),rfl,Walks.list (A:=X.A.in1) (I2.ok.hd hc) _ a (Nat.ne_of_lt b_) _,
  ⟨⟨_,Qd _ rfl,rfl,rfl⟩,pl.isList.push _⟩,fun b hb=>?_,fun i j vi vj s' Q' E' hi hj hQ=>?_,fun v h' tk hP hk=>?_⟩
 ·simp only [Qp,QA,or_false] at hb
  show b < (s2.heap.push _).objs.size
  rw [Heap.size_push]
  rcases hb with rfl | rfl
  ·exact Nat.lt_succ_self _
  ·exact Nat.lt_succ_of_lt b_
 ·obtain ⟨t,rfl⟩:=get i vi hi
  obtain ⟨t',rfl⟩:=get j vj hj
  exact PySem.P.gt_int hQ
 ·have I3:=I2.kept (t':=tk) (h':=h') fun b o e=>hk b o (fun hm=>by rw [List.mem_singleton.mp hm] at e;exact Nat.lt_irrefl _ (Qz e)) (Qc _ e)
  rcases hP with ⟨hn,hP⟩ | ⟨hn,rfl⟩
  ·obtain ⟨t,rfl⟩:=get _ v hP
   obtain ⟨g1,g2⟩:=argBest_gt (fun i=>ns.getD i 0) (its.toArray.size - 1)
   have hm:argBest (fun i j=>decide (ns.getD i 0 > ns.getD j 0)) (its.toArray.size - 1) < ns.length:=by simp at g1 hn ⊢;omega
   refine ⟨.int _,H2,I3,⟨_,rfl⟩,q _ (.inr ⟨?_,fun x hx=>?_⟩)⟩
   ·rw [Qb,Qa hm];exact Qj hm
   ·obtain ⟨i,hi,rfl⟩:=Qi hx
    have:=g2 i (by simp;omega)
    simp only [Qb,Qa hi,Option.getD_some] at this
    simpa [Qb] using this
  ·have:ns=[]:=by
    have:its.length=0:=by simpa using hn
    exact List.length_eq_zero_iff.mp (by omega)
   exact ⟨.int _,H2,I3,⟨_,rfl⟩,q _ (.inl ⟨this,rfl⟩)⟩
theorem MU (K:QZ) (hc:X.calm=true) (hg:Gl X "max") (hm:X.mg "max"=none) (he:SE X e te) (hd:SE X dv td) (hK:X.K=K:=by rfl) (vg:starEach [e] X.env=(false,eval e X.env)::starEach [] X.env:=by rfl) (hpl:(backTo pos (starEach [e] X.env)).any (·.1)=false:=by rfl):SE X (.Call (.Name "max" p) [e] [⟨some "default",dv,kp⟩] pos) (Il K te td):=by
 subst hK;exact ⟨xB hc hg hm he.h hd.h vg hpl⟩
end
section
def SrcAt (tp:Bool) (l:Addr) (vs:Array Value) (h:Heap):Prop:=if tp then IsTup h l vs else h.IsList l vs
def gr (tp:Bool) (c l:Addr) (k:Nat) (h:Heap):Prop:=if tp then IsTupIter h c l k else h.IsListIter c l k
theorem SrcAt.ext (x:SrcAt tp l vs h) (e:Heap.ExtBut b h h') (n:l≠b):SrcAt tp l vs h':=by
 cases tp
 ·exact Heap.IsList.extBut x e n
 ·exact IsTup.extBut x e n
theorem gr.ext {c:Addr} {k:Nat} (x:gr tp c l k h) (e:Heap.ExtBut b h h') (n:c≠b):gr tp c l k h':=by
 cases tp
 ·exact Heap.IsListIter.extBut x e n
 ·obtain ⟨o,ho,r⟩:=x;exact ⟨o,e _ _ n ho,r⟩
theorem gr.at_ {c:Addr} {k:Nat} (x:gr tp c l k h) (q:∀ o,h.get? c=some o->h'.get? c=some o):gr tp c l k h':=by
 cases tp
 ·obtain ⟨o,ho,r⟩:=x;exact ⟨o,q o ho,r⟩
 ·obtain ⟨o,ho,r⟩:=x;exact ⟨o,q o ho,r⟩
theorem gr.obj {c:Addr} {k:Nat} (x:gr tp c l k h):∃ o,h.get? c=some o/\∀ v,o.data≠.cell v:=by
 cases tp
 ·obtain ⟨o,ho,_,d⟩:=x;exact ⟨o,ho,fun v z=>by rw [d] at z;cases z⟩
 ·obtain ⟨o,ho,_,d⟩:=x;exact ⟨o,ho,fun v z=>by rw [d] at z;cases z⟩
theorem SrcAt.lt (x:SrcAt tp l vs h):l < h.objs.size:=by
 cases tp<;>(obtain ⟨o,ho,_⟩:=x;exact Qz ho)
theorem vJ {c t:Addr} {x:Value} (hc:IsTupIter s.heap c t i) (ht:IsTup s.heap t vs) (hx:vs[i]? =some x)
  (q:∀ g,IsTupIter g c t (i+1)->Heap.SameBut c s.heap g->Q x {s with heap:=g}):wpAny (model P w) A (Builtin.SmallTypes.nextOf (.ref c)) Q E s:=by
 obtain ⟨ob,e1,e2,e3⟩:=id hc
 obtain ⟨ot,f1,_,m,f3⟩:=ht
 unfold Builtin.SmallTypes.nextOf
 refine QS (wpAny_callSpecial?_slot (name:=Str.ofString "__next__") hc.typeIs slot_tupleiter_next (wpAny_call_entry slot_tupleiter_next hc.typeIs entry_tupleiter_next ?_ (args_tupleiter_next _)))
 show wpAny _ _ (field (.ref c) 0 >>=_) _ _ s
 refine QS (wpAny_field e1 e3 (x:=.ref t) rfl ?_)
 show wpAny _ _ (if (Value.ref t==Value.none)=true then _ else _) _ _ s
 rw [if_neg (by exact Bool.false_ne_true)]
 show wpAny _ _ (field (.ref c) 1 >>=_) _ _ s
 refine QS (wpAny_field e1 e3 (x:=.int i 0) rfl ?_)
 show wpAny _ _ (seqItems? (.ref t) >>=_) _ _ s
 refine QS (wpAny_seqItems f1 f3 ?_)
 simp only [Int.toNat_natCast,hx]
 refine QS (wpAny_setField e1 e3 (by simp) (QT ⟨x,rfl,QT (q _ ⟨_,Heap.get?_update_self _ e1 (Obj.isFreed_of_fields (Obj.data_mapFields e3 _)),(Obj.cls_mapFields ..).trans e2,?_⟩ (Heap.SameBut.update ..))⟩))
 rw [Obj.data_mapFields e3];simp [rawInt]
theorem x5 {c t:Addr} (hh:A.handled=none) (hc:IsTupIter s.heap c t i) (ht:IsTup s.heap t vs) (hx:vs[i]? =none)
  (q:∀ g e,Heap.ExtBut c s.heap g->(∃ o,g.get? e=some o/\o.cls=.type "StopIteration")->E (.ref e) {s with heap:=g}):wpAny (model P w) A (Builtin.SmallTypes.nextOf (.ref c)) Q E s:=by
 obtain ⟨ob,e1,e2,e3⟩:=id hc
 obtain ⟨ot,f1,_,m,f3⟩:=ht
 unfold Builtin.SmallTypes.nextOf
 refine QS (wpAny_callSpecial?_slot (name:=Str.ofString "__next__") hc.typeIs slot_tupleiter_next (wpAny_call_entry slot_tupleiter_next hc.typeIs entry_tupleiter_next ?_ (args_tupleiter_next _)))
 show wpAny _ _ (field (.ref c) 0 >>=_) _ _ s
 refine QS (wpAny_field e1 e3 (x:=.ref t) rfl ?_)
 show wpAny _ _ (if (Value.ref t==Value.none)=true then _ else _) _ _ s
 rw [if_neg (by exact Bool.false_ne_true)]
 show wpAny _ _ (field (.ref c) 1 >>=_) _ _ s
 refine QS (wpAny_field e1 e3 (x:=.int i 0) rfl ?_)
 show wpAny _ _ (seqItems? (.ref t) >>=_) _ _ s
 refine QS (wpAny_seqItems f1 f3 ?_)
 simp only [Int.toNat_natCast,hx]
 refine QS (wpAny_rule (QS (wpAny_setField e1 e3 (by simp) ?_)))
 show wpAny _ _ (newExc (.type "StopIteration") [] >>=_) _ _ _
 refine QS ?_
 simp only [newExc,newTuple]
 refine QS (wpAny_newObj_type ?_ (by size_fits))
 refine QS (m:=firstArgMember _ _) (wpAny_of_eq (a:=.none) (by first | rfl | (simp only [firstArgMember];rfl)) ?_)
 refine wpAny_newObj_type ?_ (by size_fits)
 simp only [raiseNew]
 refine QS (wpAny_handled ?_)
 first | rw [show A.in1.handled=none by exact hh] | rw [hh]
 exact QS (QT (wpAny_throw (q _ _ (((Heap.SameBut.update ..).extBut.push _).push _) ⟨_,Qd _ rfl,rfl⟩)))
theorem uG {c:Addr} {x:Value} (hc:gr tp c l i s.heap) (hs:SrcAt tp l vs s.heap) (hx:vs[i]? =some x)
  (q:∀ g,gr tp c l (i+1) g->Heap.SameBut c s.heap g->Q x {s with heap:=g}):wpAny (model P w) A (Builtin.SmallTypes.nextOf (.ref c)) Q E s:=by
 cases tp
 ·exact wpAny_nextOf_list_item hc hs hx q
 ·exact vJ hc hs hx q
theorem uU {c:Addr} (hh:A.handled=none) (hc:gr tp c l i s.heap) (hs:SrcAt tp l vs s.heap) (hx:vs[i]? =none)
  (q:∀ g e,Heap.ExtBut c s.heap g->(∃ o,g.get? e=some o/\o.cls=.type "StopIteration")->E (.ref e) {s with heap:=g}):wpAny (model P w) A (Builtin.SmallTypes.nextOf (.ref c)) Q E s:=by
 cases tp
 ·exact wpAny_nextOf_list_end hh hc hs hx q
 ·exact x5 hh hc hs hx q
variable {t1 t2:Bool} {z TI TO c1 c2 l1 l2:Addr} {k1 k2:Nat} {xs ys:Array Value} {x y a b:Value}
theorem w5 {Q:Option Value->Shared->Prop} (D:ZipApart z TI TO c1 c2 l1 l2) (hz:IsZip s.heap z TI TO .none) (hI:IsPair s.heap TI (.ref c1) (.ref c2)) (hO:IsPair s.heap TO a b)
  (h1:gr t1 c1 l1 k1 s.heap) (h2:gr t2 c2 l2 k2 s.heap) (s1:SrcAt t1 l1 xs s.heap) (s2:SrcAt t2 l2 ys s.heap) (hx:xs[k1]? =some x) (hy:ys[k2]? =some y)
  (q:∀ g,IsZip g z TI TO (rawInt s.heap.objs.size)->IsPair g TO x y->gr t1 c1 l1 (k1+1) g->gr t2 c2 l2 (k2+1) g->IsPair g s.heap.objs.size x y->
   (∀ d o,d≠z->d≠TO->d≠c1->d≠c2->s.heap.get? d=some o->g.get? d=some o)->Q (some (.ref s.heap.objs.size)) {s with heap:=g}):wpAny (model P w) A (pyNext (.ref z)) Q E s:=by
 have ty:s.TypeIs (.ref z) "zip":=⟨_,hz,rfl⟩
 unfold pyNext
 refine QS (wpAny_attempt (wpAny_callSpecial?_slot (name:=Str.ofString "__next__") ty F.slot_zip_next (wpAny_call_entry F.slot_zip_next ty F.entry_zip_next ?_ (F.args_zip_next_1 _))))
 show wpAny _ _ (field (.ref z) 2 >>=_) _ _ _
 refine QS (wpAny_field hz rfl (x:=.bool false) rfl ?_)
 show wpAny _ _ (field (.ref z) 3 >>=_) _ _ _
 refine QS (wpAny_field hz rfl (x:=.ref TI) rfl ?_)
 refine QS (wpAny_seqItems hI rfl ?_)
 show wpAny _ _ (Builtin.SmallTypes.ownedTupleIsFree (.ref z) >>=_) _ _ _
 refine QS ?_
 unfold Builtin.SmallTypes.ownedTupleIsFree
 refine QS (wpAny_field hz rfl (x:=.none) rfl (QT ?_))
 simp only [if_true]
 refine QS (wpAny_rule (QS (wpAny_field hz rfl (x:=.ref TO) rfl ?_)))
 refine QS (wpAny_setField_rec hz (by simp) fun g1 z1 e1=>?_)
 replace z1:IsZip g1 z TI TO .ellipsis:=z1
 refine QS ?_
 simp only [List.zipIdx_cons,List.zipIdx_nil,List.forIn_cons,List.forIn_nil]
 refine QS (QS (wpAny_onRaise ?_))
 show wpAny _ _ (Builtin.SmallTypes.nextOf (.ref c1) >>=_) _ _ _
 refine QS (uG (h1.ext e1.extBut D.i1z) (s1.ext e1.extBut D.l1z) hx fun g2 m2 e2=>QT ?_)
 have O2:IsPair g2 TO a b:=e2.extBut _ _ D.TOi1 (e1.extBut _ _ D.TOz hO)
 refine QS (wpAny_seqItems O2 rfl (QS (wpAny_updateSeq_pair O2 fun g3 O3 e3=>?_)))
 replace O3:IsPair g3 TO x b:=O3
 refine QS (wpAny_letGo (QT ?_))
 refine QS (QS (wpAny_onRaise ?_))
 show wpAny _ _ (Builtin.SmallTypes.nextOf (.ref c2) >>=_) _ _ _
 refine QS (uG (((h2.ext e1.extBut D.i2z).ext e2.extBut D.i12.symm).ext e3.extBut D.TOi2.symm) (((s2.ext e1.extBut D.l2z).ext e2.extBut D.l2i1).ext e3.extBut D.l2TO) hy fun g4 m4 e4=>QT ?_)
 have O4:IsPair g4 TO x b:=e4.extBut _ _ D.TOi2 O3
 refine QS (wpAny_seqItems O4 rfl (QS (wpAny_updateSeq_pair O4 fun g5 O5 e5=>?_)))
 replace O5:IsPair g5 TO x y:=O5
 refine QS (wpAny_letGo (QT (QT ?_)))
 refine QS (wpAny_seqItems O5 rfl (QS (wpAny_newTuple ?_)))
 have sz:g5.objs.size=s.heap.objs.size:=by rw [e5.1,e4.1,e3.1,e2.1,e1.1]
 have z5:IsZip g5 z TI TO .ellipsis:=e5.extBut _ _ D.TOz.symm (e4.extBut _ _ D.i2z.symm (e3.extBut _ _ D.TOz.symm (e2.extBut _ _ D.i1z.symm z1)))
 have k5:∀ d o,d≠z->d≠TO->d≠c1->d≠c2->s.heap.get? d=some o->g5.get? d=some o:=fun d o n1 n2 n3 n4 e=>e5.extBut _ _ n2 (e4.extBut _ _ n4 (e3.extBut _ _ n2 (e2.extBut _ _ n3 (e1.extBut _ _ n1 e))))
 have MV:gr t1 c1 l1 (k1+1) g5:=((m2.ext e3.extBut D.TOi1.symm).ext e4.extBut D.i12).ext e5.extBut D.TOi1.symm
 have MW:gr t2 c2 l2 (k2+1) g5:=m4.ext e5.extBut D.TOi2.symm
 have zl:z < g5.objs.size:=Qz z5
 show wpAny _ _ (Builtin.SmallTypes.ownedTupleHandOut (.ref z) (.ref g5.objs.size) >>=_) _ _ _
 refine QS ?_
 unfold Builtin.SmallTypes.ownedTupleHandOut
 have z6:IsZip (g5.push {cls:=.type "tuple",data:=.seq #[x,y]}) z TI TO .ellipsis:=Qc _ z5
 refine QS (wpAny_setField_rec z6 (by simp) fun g7 z7 e7=>?_)
 replace z7:IsZip g7 z TI TO (rawInt g5.objs.size):=z7
 refine wpAny_setField_rec z7 (by simp) fun g8 z8 e8=>?_
 replace z8:IsZip g8 z TI TO (rawInt g5.objs.size):=z8
 have up:∀ d o,d≠z->g5.get? d=some o->g8.get? d=some o:=fun d o n e=>e8.extBut _ _ n (e7.extBut _ _ n (Qc _ e))
 have T8:IsPair g8 g5.objs.size x y:=e8.extBut _ _ (Nat.ne_of_gt zl) (e7.extBut _ _ (Nat.ne_of_gt zl) (Qd _ rfl))
 rw [sz] at z8 T8
 refine QT ⟨_,rfl,QT ?_⟩
 show Q (some (.ref g5.objs.size)) _
 rw [sz]
 exact q g8 z8 (up _ _ D.TOz O5) (MV.at_ fun o e=>up _ o D.i1z e) (MW.at_ fun o e=>up _ o D.i2z e) T8 fun d o n1 n2 n3 n4 e=>up d o n1 (k5 d o n1 n2 n3 n4 e)
theorem y4 {Q:Option Value->Shared->Prop} (hh:A.handled=none) (D:ZipApart z TI TO c1 c2 l1 l2) (hz:IsZip s.heap z TI TO .none) (hI:IsPair s.heap TI (.ref c1) (.ref c2)) (hO:IsPair s.heap TO a b)
  (h1:gr t1 c1 l1 k1 s.heap) (h2:gr t2 c2 l2 k2 s.heap) (s1:SrcAt t1 l1 xs s.heap) (s2:SrcAt t2 l2 ys s.heap) (MX:xs[k1]? =none\/ys[k2]? =none)
  (q:∀ g,(∀ d o,d≠z->d≠TO->d≠c1->d≠c2->s.heap.get? d=some o->g.get? d=some o)->Q none {s with heap:=g}):wpAny (model P w) A (pyNext (.ref z)) Q E s:=by
 have ty:s.TypeIs (.ref z) "zip":=⟨_,hz,rfl⟩
 unfold pyNext
 refine QS (wpAny_attempt (wpAny_callSpecial?_slot (name:=Str.ofString "__next__") ty F.slot_zip_next (wpAny_call_entry F.slot_zip_next ty F.entry_zip_next ?_ (F.args_zip_next_1 _))))
 have fin:∀ (g:Heap) (e:Addr),(∀ d o,d≠z->d≠TO->d≠c1->d≠c2->s.heap.get? d=some o->g.get? d=some o)->(∃ o,g.get? e=some o/\o.cls=.type "StopIteration")->wpAny (model P w) A (do if <- isInstance (.ref e) (.type "StopIteration") then pure none else throw (.ref e)) Q E {s with heap:=g}:=fun g e k ⟨o,ho,hc⟩=>
  QS (wpAny_isInstance (T:="StopIteration") (b:=true) ⟨o,ho,hc⟩ isSubtype_stop (QT (q g k)))
 show wpAny _ _ (field (.ref z) 2 >>=_) _ _ _
 refine QS (wpAny_field hz rfl (x:=.bool false) rfl ?_)
 show wpAny _ _ (field (.ref z) 3 >>=_) _ _ _
 refine QS (wpAny_field hz rfl (x:=.ref TI) rfl ?_)
 refine QS (wpAny_seqItems hI rfl ?_)
 show wpAny _ _ (Builtin.SmallTypes.ownedTupleIsFree (.ref z) >>=_) _ _ _
 refine QS ?_
 unfold Builtin.SmallTypes.ownedTupleIsFree
 refine QS (wpAny_field hz rfl (x:=.none) rfl (QT ?_))
 simp only [if_true]
 refine QS (wpAny_rule (QS (wpAny_field hz rfl (x:=.ref TO) rfl ?_)))
 refine QS (wpAny_setField_rec hz (by simp) fun g1 z1 e1=>?_)
 replace z1:IsZip g1 z TI TO .ellipsis:=z1
 refine QS ?_
 simp only [List.zipIdx_cons,List.zipIdx_nil,List.forIn_cons,List.forIn_nil]
 refine QS (QS (wpAny_onRaise ?_))
 show wpAny _ _ (Builtin.SmallTypes.nextOf (.ref c1) >>=_) _ _ _
 cases hx:xs[k1]? with
 | none=>
  refine QS (uU hh (h1.ext e1.extBut D.i1z) (s1.ext e1.extBut D.l1z) hx ?_)
  rintro g2 e e2 ⟨oe,f1,f2⟩
  have z2:IsZip g2 z TI TO .ellipsis:=e2 _ _ D.i1z.symm z1
  have ez:e≠z:=fun r=>by subst r;rw [z2] at f1;cases f1;simp at f2
  exact wpAny_setField_rec z2 (by simp) fun g3 _ e3=>fin g3 e (fun d o n1 _ n3 _ r=>e3.extBut _ _ n1 (e2 _ _ n3 (e1.extBut _ _ n1 r))) ⟨oe,e3.extBut _ _ ez f1,f2⟩
 | some x=>
  have hy:ys[k2]? =none:=by rcases MX with h | h;rw [hx] at h;cases h;exact h
  refine QS (uG (h1.ext e1.extBut D.i1z) (s1.ext e1.extBut D.l1z) hx fun g2 m2 e2=>QT ?_)
  have O2:IsPair g2 TO a b:=e2.extBut _ _ D.TOi1 (e1.extBut _ _ D.TOz hO)
  refine QS (wpAny_seqItems O2 rfl (QS (wpAny_updateSeq_pair O2 fun g3 O3 e3=>?_)))
  refine QS (wpAny_letGo (QT ?_))
  refine QS (QS (wpAny_onRaise ?_))
  show wpAny _ _ (Builtin.SmallTypes.nextOf (.ref c2) >>=_) _ _ _
  refine QS (uU hh (((h2.ext e1.extBut D.i2z).ext e2.extBut D.i12.symm).ext e3.extBut D.TOi2.symm) (((s2.ext e1.extBut D.l2z).ext e2.extBut D.l2i1).ext e3.extBut D.l2TO) hy ?_)
  rintro g4 e e4 ⟨oe,f1,f2⟩
  have z4:IsZip g4 z TI TO .ellipsis:=e4 _ _ D.i2z.symm (e3.extBut _ _ D.TOz.symm (e2.extBut _ _ D.i1z.symm z1))
  have ez:e≠z:=fun r=>by subst r;rw [z4] at f1;cases f1;simp at f2
  exact wpAny_setField_rec z4 (by simp) fun g5 _ e5=>fin g5 e (fun d o n1 n2 n3 n4 r=>e5.extBut _ _ n1 (e4 _ _ n4 (e3.extBut _ _ n2 (e2.extBut _ _ n3 (e1.extBut _ _ n1 r))))) ⟨oe,e5.extBut _ _ ez f1,f2⟩
abbrev zu (tp:Bool) (l:Addr):Obj:={cls:=.type (if tp then "tuple_iterator" else "list_iterator"),data:=.fields #[.ref l,.int 0 0]}
theorem xP (h:SrcAt tp l vs s.heap) (q:Q (.ref s.heap.objs.size) {s with heap:=s.heap.push (zu tp l)}):wpAny (model P w) A (pyIter (.ref l)) Q E s:=by
 cases tp
 ·exact wpAny_pyIter_list h q
 ·exact iter_tuple h q
theorem SrcAt.push {tp:Bool} {l:Addr} {vs:Array Value} {h:Heap} (x:SrcAt tp l vs h) (o:Obj):SrcAt tp l vs (h.push o):=by
 cases tp
 ·exact Heap.IsList.push x o
 ·exact IsTup.push x o
end
abbrev EL (t1 t2:Bool) (h:Heap) (l1 l2:Addr):Heap:=(h.push (zu t1 l1)).push (zu t2 l2)
abbrev Im (t1 t2:Bool) (h:Heap) (l1 l2:Addr):Heap:=((EL t1 t2 h l1 l2).push {cls:=.type "tuple",data:=.seq #[.ref h.objs.size,.ref (h.objs.size+1)]}).push {cls:=.type "tuple",data:=.seq #[.none,.none]}
abbrev AV (t1 t2:Bool) (h:Heap) (l1 l2:Addr):Heap:=(Im t1 t2 h l1 l2).push {cls:=.type "zip",data:=.fields #[.none,.bool false,.bool false,.ref (h.objs.size+2),.ref (h.objs.size+3)]}
theorem MY (t1 t2:Bool) (l1 l2:Addr) (xs ys:Array Value):Meets (Builtin.«zip.__new__» ⟨[.type "zip",.ref l1,.ref l2],[]⟩) (fun _ R s=>SrcAt t1 l1 xs s.heap/\SrcAt t2 l2 ys s.heap/\R (.ok (.ret (.ref (s.heap.objs.size+4)))) {s with heap:=AV t1 t2 s.heap l1 l2}):=
 .of_wp fun prog w A R s h=>by
  obtain ⟨hp,g,d,tk,os⟩:=s
  obtain ⟨a1,a2,h⟩:=h
  have su:=sub_zip
  have b1:SrcAt t1 l1 xs (Shared.heap ⟨hp,g,d,tk,os⟩):=a1
  have b2:SrcAt t2 l2 ys (Shared.heap ⟨hp.push (zu t1 l1),g,d,tk,os⟩):=SrcAt.push a2 _
  wp_walk using xP b1,xP b2
  refine ⟨_,rfl,?_⟩
  simp only [Heap.size_push] at h ⊢
  exact h
theorem wF {t1 t2:Bool} {l1 l2:Addr} {xs ys:Array Value} (a1:SrcAt t1 l1 xs s.heap) (a2:SrcAt t2 l2 ys s.heap)
  (q:∀ g,IsZip g (s.heap.objs.size+4) (s.heap.objs.size+2) (s.heap.objs.size+3) .none->IsPair g (s.heap.objs.size+2) (.ref s.heap.objs.size) (.ref (s.heap.objs.size+1))->IsPair g (s.heap.objs.size+3) .none .none->
   gr t1 s.heap.objs.size l1 0 g->gr t2 (s.heap.objs.size+1) l2 0 g->(∀ c o,s.heap.get? c=some o->g.get? c=some o)->Q (.ref (s.heap.objs.size+4)) {s with heap:=g}):wpAny (model P w) A (call (.type "zip") [.ref l1,.ref l2]) Q E s:=by
 refine callType_new F.called_zip (by decide) (F.typeCall_zip_2 _ _) (F.newCall_zip_2 _ _) (fun obj=>F.args_object_init_3 obj _ _) F.entry_zip_new (MY t1 t2 l1 l2 xs ys) ⟨a1,a2,?_⟩
 have n1:(s.heap.push (zu t1 l1)).objs.size=s.heap.objs.size+1:=Heap.size_push ..
 have n2:(EL t1 t2 s.heap l1 l2).objs.size=s.heap.objs.size+2:=by rw [Heap.size_push,n1]
 have n3:((EL t1 t2 s.heap l1 l2).push {cls:=.type "tuple",data:=.seq #[.ref s.heap.objs.size,.ref (s.heap.objs.size+1)]}).objs.size=s.heap.objs.size+3:=by rw [Heap.size_push,n2]
 have n4:(Im t1 t2 s.heap l1 l2).objs.size=s.heap.objs.size+4:=by rw [Heap.size_push,n3]
 have g5:(AV t1 t2 s.heap l1 l2).get? (s.heap.objs.size+4)=some {cls:=.type "zip",data:=.fields #[.none,.bool false,.bool false,.ref (s.heap.objs.size+2),.ref (s.heap.objs.size+3)]}:=by rw [<- n4];exact Qd _ rfl
 have g4:(AV t1 t2 s.heap l1 l2).get? (s.heap.objs.size+3)=some {cls:=.type "tuple",data:=.seq #[.none,.none]}:=Qc _ (by rw [<- n3];exact Qd _ rfl)
 have g3:(AV t1 t2 s.heap l1 l2).get? (s.heap.objs.size+2)=some {cls:=.type "tuple",data:=.seq #[.ref s.heap.objs.size,.ref (s.heap.objs.size+1)]}:=Qc _ (Qc _ (by rw [<- n2];exact Qd _ rfl))
 have g2:(AV t1 t2 s.heap l1 l2).get? (s.heap.objs.size+1)=some (zu t2 l2):=Qc _ (Qc _ (Qc _ (by rw [<- n1];exact Qd _ rfl)))
 have g1:(AV t1 t2 s.heap l1 l2).get? s.heap.objs.size=some (zu t1 l1):=Qc _ (Qc _ (Qc _ (Qc _ (Qd _ rfl))))
 refine ⟨⟨_,g5,rfl⟩,q _ g5 g3 g4 ?_ ?_ fun c o x=>Qc _ (Qc _ (Qc _ (Qc _ (Qc _ x))))⟩
 ·cases t1<;>exact ⟨_,g1,rfl,rfl⟩
 ·cases t2<;>exact ⟨_,g2,rfl,rfl⟩
def n_ (tp:Bool) (K:QZ) (H:Hp) (a:Addr) (xs:List V):Prop:=if tp then ae K H a xs else ao K H a xs
theorem Inv.AW {xs:List V} (I:Inv X pins σ H s) (h:n_ tp X.K H a xs):∃ us:List Value,a_ xs us/\SrcAt tp a us.toArray s.heap:=by
 cases tp
 ·obtain ⟨us,rv,p,_⟩:=I.list h
  exact ⟨us,rv,p.isList⟩
 ·obtain ⟨us,rv,p,_⟩:=I.tuple h
  exact ⟨us,rv,p⟩
theorem Inv.Io {xs ys:List V} (I:Inv X pins σ H s) (h:n_ tp X.K H a xs) (h':n_ tp X.K H a ys):xs=ys:=by
 cases tp
 ·exact I.Bc h h'
 ·exact I.F2 h h'
def EM (t1 t2 : Bool) (K : QZ) (a b : Addr) : It :=
  ⟨fun i H => ∃ xs ys x y, n_ t1 K H a xs /\ n_ t2 K H b ys /\ xs[i]? = some x /\ ys[i]? = some y, fun i H x H' => ∃ v1 v2, (∀ xs, n_ t1 K H a xs -> xs[i]? = some v1) /\ (∀ ys, n_ t2 K H b ys -> ys[i]? = some v2) /\ zd v1 v2 H x H',
   fun i H => ∃ xs ys, n_ t1 K H a xs /\ n_ t2 K H b ys /\ (xs.length <= i \/ ys.length <= i)⟩
abbrev MZ (t1 t2:Bool) (z TI TO c1 c2 a b:Addr) (i:Nat) (h:Heap):Prop:=IsZip h z TI TO .none/\IsPair h TI (.ref c1) (.ref c2)/\(∃ u v,IsPair h TO u v)/\gr t1 c1 a i h/\gr t2 c2 b i h
theorem v9 {K:QZ} {k:Nat} {t1 t2:Bool} (z TI TO c1 c2 a b:Addr) (D:ZipApart z TI TO c1 c2 a b):Turn P w K (.Tuple v_ k pos) (EM t1 t2 K a b) [z,TI,TO,c1,c2] z (MZ t1 t2 z TI TO c1 c2 a b) where
 mem:=by simp
 obj:=fun i h st c hc=>by
  obtain ⟨hz,gh,⟨u,v,h_⟩,h1,h2⟩:=st
  simp only [Qp,QA,or_false] at hc
  rcases hc with rfl | rfl | rfl | rfl | rfl
  ·exact ⟨_,hz,fun v z=>by have z':Data.fields _=Data.cell v:=z;cases z'⟩
  ·exact ⟨_,gh,fun v z=>by have z':Data.seq _ _=Data.cell v:=z;cases z'⟩
  ·exact ⟨_,h_,fun v z=>by have z':Data.seq _ _=Data.cell v:=z;cases z'⟩
  ·exact h1.obj
  ·exact h2.obj
 keep:=fun i h h' st k=>by
  obtain ⟨hz,gh,⟨u,v,h_⟩,h1,h2⟩:=st
  exact ⟨k z (by simp) _ hz,k TI (by simp) _ gh,⟨u,v,k TO (by simp) _ h_⟩,h1.at_ fun o x=>k c1 (by simp) o x,h2.at_ fun o x=>k c2 (by simp) o x⟩
 item:=by
  intro X hP hw hK hc i pins s σ H E I hf st hg
  subst hP hw hK
  obtain ⟨hz,gh,⟨u0,v0,h_⟩,h1,h2⟩:=st
  obtain ⟨xs,ys,x,y,nc,ki,hx,hy⟩:=hg
  obtain ⟨its,rv,p⟩:=I.AW nc
  obtain ⟨its2,vd,p2⟩:=I.AW ki
  obtain ⟨u,hu,ru⟩:=rv.get hx
  obtain ⟨u2,Ec,Ed⟩:=vd.get hy
  refine w5 D hz gh h_ h1 h2 p p2 (x:=u) (y:=u2) (by simpa using hu) (by simpa using Ec) fun h' a1 a2 a3 a4 a5 hk=>?_
  have I1:Inv X pins σ (upd H s.heap.objs.size (.tup [x,y])) {s with heap:=h',toks:=s.toks}:=I.D9 (t':=s.toks) hf (fun b o hb e=>hk b o (fun z=>hb (by simp [z])) (fun z=>hb (by simp [z])) (fun z=>hb (by simp [z])) (fun z=>hb (by simp [z])) e) (Qy _) (lY ru Ed a5)
  refine ⟨_,rfl,wpAny_letOwnedTupleGo_zip (s:={s with heap:=h'}) a1 fun ze Ef sb=>?_⟩
  have b_:∀ b∈[z,TI,TO,c1,c2],b≠s.heap.objs.size:=fun c hc z'=>by
   simp only [Qp,QA,or_false] at hc
   obtain ⟨o1,e1,_⟩:=h1.obj
   obtain ⟨o2,e2,_⟩:=h2.obj
   rcases hc with rfl | rfl | rfl | rfl | rfl
   ·exact Nat.ne_of_lt (Qz hz) z'
   ·exact Nat.ne_of_lt (Qz gh) z'
   ·exact Nat.ne_of_lt (Qz h_) z'
   ·exact Nat.ne_of_lt (Qz e1) z'
   ·exact Nat.ne_of_lt (Qz e2) z'
  have xf:∀ b∈[z,TI,TO,c1,c2],lq X pins (upd H s.heap.objs.size (.tup [x,y])) b:=fun b hb=>by
   obtain ⟨f0,f⟩:=hf b hb
   exact ⟨by rw [aM (b_ b hb)];exact f0,f⟩
  obtain ⟨f0,f1,f2,f3,f4,f5⟩:=xf z (by simp)
  refine ⟨.ref s.heap.objs.size,_,I1.turned (t':=s.toks) (fun b o hb q=>(sb.2 b hb).trans q) f0 f1 f3 f4 f5,rfl,⟨x,y,fun ys hy=>by rw [I.Io hy nc];exact hx,fun ys Bo=>by rw [I.Io Bo ki];exact hy,_,rfl,I.hok.fresh (Qy _),rfl⟩,?_,fun b hb=>(xf b hb).1⟩
  refine ⟨Ef,(sb.2 _ D.TIz).trans (hk _ _ D.TIz D.TITO D.TIi1 D.TIi2 gh),⟨_,_,(sb.2 _ D.TOz).trans a2⟩,a3.at_ fun o q=>(sb.2 _ D.i1z).trans q,a4.at_ fun o q=>(sb.2 _ D.i2z).trans q⟩
 done:=by
  intro X hP hw hK hc i pins s σ H E I hf st hg
  subst hP hw hK
  obtain ⟨hz,gh,⟨u0,v0,h_⟩,h1,h2⟩:=st
  obtain ⟨xs,ys,nc,ki,hx⟩:=hg
  obtain ⟨its,rv,p⟩:=I.AW nc
  obtain ⟨its2,vd,p2⟩:=I.AW ki
  have hl:=rv.length
  have g_:=vd.length
  refine y4 (I.ok.hd hc) D hz gh h_ h1 h2 p p2 ?_ fun h' hk=>⟨rfl,I.D_ (t':=s.toks) hf fun b o hb q=>hk b o (fun z=>hb (by simp [z])) (fun z=>hb (by simp [z])) (fun z=>hb (by simp [z])) (fun z=>hb (by simp [z])) q⟩
  rcases hx with hx | hx
  ·exact .inl (by simp;omega)
  ·exact .inr (by simp;omega)
 self:=fun _ _ _ _ _ st h=>wpAny_pyIter_zip st.1 h
section
variable {k:Nat} {sd:Pos} {a b:Expr}
def M0 (t1 t2:Bool) (K:QZ) (ta:TA):TI:=fun σ H R=>ta σ H fun vs H1=>∃ l m xs ys,vs=[.ref l,.ref m]/\n_ t1 K H1 l xs/\n_ t2 K H1 m ys/\R (EM t1 t2 K l m) H1
theorem uW (t1 t2:Bool) (K:QZ) (hg:Gl X "zip") (hm:X.mg "zip"=none) (ha:SA X [a,b] ta) (hK:X.K=K:=by rfl) (hs:starEach [a,b] X.env=[(false,eval a X.env),(false,eval b X.env)]:=by rfl) (u_:starEach [b] X.env=[(false,eval b X.env)]:=by rfl):
  SI X (.Tuple v_ k sd) (.Call (.Name "zip" p) [a,b] [] pos) (M0 t1 t2 K ta):=by
 subst hK
 constructor
 intro pins s σ H R I h
 refine Call_ (eZ I hg hm boot_zip (PyProof.Rows.callWith_type1 (av (ha.h pos pins s σ H _ I h) fun us s1 ⟨vs,H1,I1,r1,q1⟩=>?_) (by rw [hs,u_]) (by rw [u_];rfl)))
 obtain ⟨l,m,xs,ys,e,nc,ki,q⟩:=q1
 subst e
 obtain ⟨u1,u2,rfl,Eg,Eh⟩:=r1.two
 cases Eg
 cases Eh
 obtain ⟨its,rv,pl⟩:=I1.AW nc
 obtain ⟨its2,vd,Bt⟩:=I1.AW ki
 refine wF pl Bt fun h' hz gh h_ h1 h2 hk=>wpAny_pyIter_zip hz ?_
 have I2:Inv X pins σ H1 {s1 with heap:=h'}:=I1.kept (t':=s1.toks) hk
 refine ⟨s1.heap.objs.size+4,[s1.heap.objs.size+4,s1.heap.objs.size+2,s1.heap.objs.size+3,s1.heap.objs.size,s1.heap.objs.size+1],_,_,H1,rfl,I2,v9 _ _ _ _ _ l m ?_,⟨hz,gh,⟨_,_,h_⟩,h1,h2⟩,fun b hb=>?_,q⟩
 ·exact iL pl.lt Bt.lt
 ·simp only [Qp,QA,or_false] at hb
  rcases hb with rfl | rfl | rfl | rfl | rfl<;>exact I1.wk (by simp) (I1.hok.fresh (by simp))
end
theorem oX {t1 t2:Bool} {K:QZ} (xs ys:List V):Bu (EM t1 t2 K a b) (fun H=>n_ t1 K H a xs/\n_ t2 K H b ys) (min xs.length ys.length) (fun i=>xs.getD i .af) (fun i=>ys.getD i .af):=fun H ok=>
 ⟨fun i hi=>⟨⟨xs,ys,xs[i]'(by omega),ys[i]'(by omega),ok.1,ok.2,by simp,by simp⟩,fun x H' ⟨v1,v2,Ei,Ej,y⟩=>by
  have e1:xs.getD i V.af=v1:=by rw [Qb,Ei xs ok.1];rfl
  have e2:ys.getD i V.af=v2:=by rw [Qb,Ej ys ok.2];rfl
  show zd (xs.getD i .af) (ys.getD i .af) H x H'
  rw [e1,e2];exact y⟩,⟨xs,ys,ok.1,ok.2,by omega⟩⟩
section
variable {st:Expr} {ts:TE} {p2:Pos}
end
theorem eK (Aw:Scope) (oN:List Str) (h:sc.kind=.function/\(∀ y∈sc.names,y.2≠.cell)/\(∀ y∈sc.names,y.2=.local->sc.names.lookup y.1=some .local)/\(∀ y∈sc.names,y.2=.free->(Aw.names.lookup y.1=some .cell\/Aw.names.lookup y.1=some .free))/\(∀ j∈idx,sc.names.lookup (oN.getD j "")=some .free/\j < oN.length)/\N'=own++idx.map (fun j=>oN.getD j "")):p_ Aw oN sc own idx N':=⟨h.1,h.2.1,h.2.2.1,h.2.2.2.1,h.2.2.2.2.1,h.2.2.2.2.2⟩
theorem bR {P:List Str} (h:sc.kind=.function/\sc.isCoroutine=false/\sc.isGenerator=false/\N.Nodup/\N.take P.length=P/\(∀ x∈P,sc.names.lookup x=some .local\/sc.names.lookup x=some .cell)/\∀ y∈sc.names,y.2≠.free):dc N P sc:=⟨h.1,h.2.1,h.2.2.1,h.2.2.2.1,h.2.2.2.2.1,h.2.2.2.2.2.1,h.2.2.2.2.2.2⟩
end L2
namespace L2
open PySem PySem.Spec PySem.W PyProof.Rows
section
variable {K:Frag} {e:Addr} {ox:Obj} {od:Option Obj}
theorem tL {Q:Option Value->Shared->Prop} (X:K.In s.heap) (I:InstAt s.heap e ox C od) (x:l_ K C) (h:Q (some (.ref C)) {s with toks:=s.toks+1}):wpAny (model P w) A (getAttr? (.ref e) "__class__") Q E s:=by
 obtain ⟨own,ja,hx⟩:=x.xc
 obtain ⟨cd,hc,_,_⟩:=iC hx
 have hf:findObj K C od "__class__"=some (.bind (.builtin "getset_descriptor.__get__") (.builtin "object.__class__")):=by
  have hn:specialIn K (.builtin "object.__class__") "__get__"=some (some (.builtin "getset_descriptor.__get__")):=by kernel_rfl
  have ht:takesIn K (.builtin "object.__class__")=some true:=by kernel_rfl
  unfold findObj
  rw [hc,Option.bind_some,x.ic,Option.bind_some]
  simp [hn,ht]
 have ht:Looks (model P w) s.heap (typeOf (.ref e)) (.ref C):=I.type
 unfold getAttr? getAttrBy? getAttrBy
 refine QS (wpAny_mkText (QS (wpAny_attempt (wpAny_holding (QS (ht _ _ _ _ (fun _ _ e=>e) (QS (looks_findIn X x.ga _ _ _ _ (fun _ _ e=>e) ?_))))))))
 dsimp only
 rw [show (onTheHeap (.ref C)&&Value.builtin "BaseException.__getattribute__"==Value.builtin "object.__getattribute__")=false from by rw [show (Value.builtin "BaseException.__getattribute__"==Value.builtin "object.__getattribute__")=false from by decide+kernel,Bool.and_false],if_neg (by decide)]
 have hb:Looks (model P w) s.heap (hookBefore (.ref C)) none:=by
  unfold hookBefore;rw [if_pos (by rfl)];exact looks_findIn X x.gk
 refine QS (hb _ _ _ _ (fun _ _ e=>e) (QS (wpAny_attempt (wpAny_holding ?_))))
 unfold callGetattribute
 rw [show (false&&onTheHeap (Value.builtin "BaseException.__getattribute__"))=false from rfl,if_neg (by decide)]
 unfold boundAndCalled
 rw [PySem.F.attr_ValueError.ga.bind]
 refine QS (QT ?_)
 show wpAny _ _ (call (.builtin "BaseException.__getattribute__") [.ref e,.str "__class__" s.toks]) _ _ _
 refine wpAny_call ?_
 refine codeAny_call_builtin PySem.F.attr_ValueError.ga.plain PySem.F.entry_bexc_ga ?_
 refine @check_slot (model P w) _ _ {s with toks:=s.toks+1} "BaseException.__getattribute__" "BaseException" "__getattribute__" (.ref e) [.str "__class__" s.toks] [] _ (by decide+kernel) (by decide+kernel) (ht.andThen (looks_subIn X (jW hx (by decide)))) (PySem.F.args_bexc_ga (.ref e) (.str "__class__" s.toks)) ?_
 have L1:=looks_find (M:=model P w) X I hf
 unfold Builtin.«object.__getattribute__»
 refine QS (QT (QS (QT (QS (ht _ _ _ _ (fun _ _ e=>e) (QS (L1 _ _ _ _ (fun _ _ e=>e) ?_)))))))
 show wpAny _ _ (holding [.builtin "object.__class__"] (call (.builtin "getset_descriptor.__get__") [.builtin "object.__class__",.ref e,.ref C]) >>=ret) _ _ _
 have hm:mroIn K C (.type "object")=some true:=jW hx (by decide)
 refine QS (wpAny_holding (wpAny_call (class_get (s:={s with toks:=s.toks+1}) X I hm (QT ?_))))
 show wpAny _ _ (handedOut (.ref C)) _ _ _
 rw [handedOut_of rfl]
 exact QT (QT h)
theorem u5 (x:l_ K C):KitX K (.ref e) (.ref C) (fun h=>∃ ox od,InstAt h e ox C od):=by
 obtain ⟨own,ja,hx⟩:=x.xc
 obtain ⟨nm,q,N',bs,sn,sub,ab,col,dd,k0,k1,k2,k3,k5,lk,_⟩:=hZ hx
 exact {
  ty:=fun _ _ _ ⟨_,_,I⟩=>I.type
  it:=fun _ _ X _=>by
   intro A' Q' E' s' k q
   unfold isType loadHead
   exact QS (wpAny_loadPart (k _ _ (X _ _ lk)) (QT q))
  ne:=fun h tp dd its n sl X M2=>by
   refine Bool.eq_false_iff.mpr fun q=>?_
   have e:C=tp:=Value.ref.inj (beq_iff_eq.mp q)
   subst e
   have z:=congrArg Obj.data (QD ((X _ _ lk).symm.trans M2))
   cases z
  ca:=fun X ⟨_,_,I⟩ k=>tL X I x k}
end
def Dd (H:Hp) (e C:Addr) (dct:Option Addr):Prop:=H e=some (iq C dct e)\/H e=some (jl C dct e)
def De (H:Hp) (e C:Addr):Prop:=∃ dct,Dd H e C dct/\∀ dx,dct=some dx->∃ fs,H dx=some (.xd fs)
def EN (K:Frag) (C:Addr):V->Bool->Prop
 | .ref B,b=>l_ K B/\subIn K (.ref C) (.ref B)=some b
 | .ty T,b=>T="ValueError"/\b=true
 | _,_=>False
def EO (K:Frag) (C:Addr):List V->Bool->Prop
 | [],b=>b=false
 | c::r,b=>∃ v,EN K C c v/\if v=true then b=true else EO K C r b
section
variable {K:Frag} {e:Addr}
theorem Dd.cls (x:Dd H e C dct) (ok:cf P w H h):∃ vs:Array Value,h.get? e=some {cls:=.ref C,dict:=dct,data:=.fields vs}:=by
 rcases x with x | x
 ·obtain ⟨t,q⟩:nv h e C dct:=(show bz P w H h e (iq C dct e) from ok e _ x).1
  exact ⟨_,q⟩
 ·exact (show bz P w H h e (jl C dct e) from ok e _ x).1
theorem De.inst (x:De H e C) (ok:cf P w H h):∃ ox od,InstAt h e ox C od:=by
 obtain ⟨dct,x,y⟩:=x
 obtain ⟨vs,q⟩:=x.cls ok
 cases dct with
 | none=>exact ⟨_,none,q,rfl,rfl,trivial⟩
 | some dx=>
  obtain ⟨fs,z⟩:=y dx rfl
  obtain ⟨mA,nq,_⟩:bz P w H h dx (.xd fs):=ok dx _ z
  obtain ⟨od,EQ,_⟩:=iH nq
  exact ⟨_,some od,q,rfl,rfl,EQ⟩
theorem qB {c:V} {b:Bool} (x:l_ K C) (h:EN K C c b) (r:RelV c u):kitOne K (.ref C) u=some b:=by
 cases c with
 | ref B=>
  obtain ⟨xb,hs⟩:=h
  obtain rfl:u=.ref B:=r
  unfold kitOne
  by_cases z:(Value.ref C==Value.ref B)=true
  ·rw [if_pos z]
   have e:C=B:=Value.ref.inj (beq_iff_eq.mp z)
   subst e
   obtain ⟨own,ja,hx⟩:=x.xc
   obtain ⟨cd,h1,h2,_⟩:=iC hx
   have:subIn K (.ref C) (.ref C)=some true:=by
    show mroIn K C _=_
    unfold mroIn
    rw [h1,Option.bind_some,h2,if_neg (by simp [qj])]
    simp [qj]
   rw [<- this,hs]
  ·rw [if_neg z]
   unfold kitCls
   dsimp only
   have N:=xb.nm
   obtain ⟨cd,hc⟩:=N.cl
   rw [if_pos (by rw [hc,N.ty];rfl),hs]
 | ty T=>
  obtain ⟨rfl,rfl⟩:=h
  obtain rfl:u=.type "ValueError":=r
  obtain ⟨own,ja,hx⟩:=x.xc
  unfold kitOne
  rw [if_neg (by simp)]
  have z:kitMeta "ValueError"=true:=by decide+kernel
  show (if kitMeta "ValueError"=true then subIn K (.ref C) (.type "ValueError") else none)=_
  rw [if_pos z]
  exact jW hx (by decide)
 | _=>exact h.elim
theorem lM {b:Bool} (x:l_ K C):∀ {cs:List V} {us:List Value},EO K C cs b->a_ cs us->kitAny K (.ref C) us=some b
 | [],_,h,.nil=>by cases h;rfl
 | c::r,_,⟨v,hv,h⟩,.cons r1 r2=>by
  unfold kitAny
  rw [qB x hv r1]
  cases v with
  | true=>rw [if_pos rfl] at h;rw [h]
  | false=>rw [if_neg (by decide)] at h;exact lM x h r2
end
def M3 (K:Frag):List V->Hp->VK->Prop:=fun xs H Q=>∃ e c C,xs=[.ref e,c]/\De H e C/\l_ K C/\((∃ b,EN K C c b/\Q (.bl b) H)\/∃ a ys b,c=.ref a/\H a=some (.tup ys)/\EO K C ys b/\Q (.bl b) H)
theorem l0 (K:Frag) (hK:X.K=K:=by rfl):je X (.builtin "isinstance") (M3 K):=by
 subst hK
 intro pins s σ H xs us Q I r h
 obtain ⟨e,c,C,rfl,eh,xa,h⟩:=h
 obtain ⟨u,v,rfl,ru,rv⟩:=r.two
 obtain rfl:u=.ref e:=ru
 have Z:=u5 (e:=e) xa
 have J:=eh.inst I.hok
 rcases h with ⟨b,hc,q⟩ | ⟨a,ys,b,rfl,ha,hc,q⟩
 ·exact kia_one Z I.cz J (qB xa hc rv) (fun z=>nomatch z) fun tk=>⟨.bl b,H,I.tok tk,rfl,q⟩
 ·obtain rfl:v=.ref a:=rv
  obtain ⟨_,its,ry,⟨oc,od,CQ,gz⟩,ho,iy,n,hd⟩:=(show bz X.prog X.w H s.heap a (.tup ys) from I.hok a _ ha)
  dsimp only at iy hd
  subst iy;subst hd
  exact kia_tup Z I.cz J ho (lM xa hc ry) (fun z=>nomatch z) fun tk=>⟨.bl b,H,I.tok tk,rfl,q⟩
def M4 (K:Frag) (ta:TE) (f:Str):TE:=fun σ H Q=>ta σ H fun x H1=>∃ e C dx fs v,x=.ref e/\Dd H1 e C (some dx)/\H1 dx=some (.xd fs)/\l_ K C/\findIn K (.ref C) f=some none/\fs.lookup f=some v/\Q v H1
theorem xX {ta:TE} {f:Str} (K:Frag) (he:SE X e ta) (hK:X.K=K:=by rfl) (hb:attributeBase e f X.env (eval e X.env)=eval e X.env:=by rfl):SE X (.Attribute e f pos) (M4 K ta f):=by
 subst hK
 constructor
 intro pins s σ H Q I h
 refine x4 hb (av (he.h pins s σ H _ I h) ?_)
 rintro u s1 ⟨x,H1,I1,rx,a,C,dx,fs,v,ex,ea,ed,xa,n,l,q⟩
 subst ex
 obtain rfl:u=Value.ref a:=rx
 obtain ⟨vs,ho⟩:=ea.cls I1.hok
 obtain ⟨mA,nq,hr⟩:bz X.prog X.w H1 s1.heap dx (.xd fs):=I1.hok dx _ ed
 obtain ⟨od,EQ,hl⟩:=iH nq
 obtain ⟨u,hu,ru⟩:=jr.some_of (v:=v) (o:=mA f) (by rw [<- l];exact hr f)
 obtain ⟨own,ja,hx⟩:=xa.xc
 obtain ⟨cd,c1,c2,c3⟩:=iC hx
 refine zQ (od:=some od) I1.cz ⟨ho,rfl,rfl,EQ⟩ xa.ga xa.gk (jW hx (by decide)) (findObj_own (by unfold hasDictIn;rw [c1];exact c3) n rfl (by rw [hl,hu])) (sG ru) ⟨v,H1,I1.tok _,ru,q⟩
section
variable {lo st:Expr} {tl ts:TE} {p2:Pos}
end
end L2
set_option maxHeartbeats 400000
--Pz 125
--PB
--PC
namespace T1
open PySem L2
def top (i:Nat):Stmt:=PySem.Challenge.pw_coilkind_k89_long_runs.main.body.getD i (.Pass ⟨0,0,0,0⟩)
abbrev dG:Stmt:=top 7
abbrev cU:Stmt:=top 8
abbrev v8:Stmt:=top 12
abbrev gE:Stmt:=top 13
abbrev fF:Stmt:=top 14
abbrev dI:Stmt:=top 15
abbrev bW:Stmt:=top 16
abbrev hX:Stmt:=top 17
abbrev cS:Stmt:=top 18
abbrev gO:Stmt:=top 19
abbrev cM:Stmt:=top 20
abbrev gK:Stmt:=top 22
abbrev gN:Stmt:=top 23
abbrev dX:Stmt:=top 24
abbrev cW:Stmt:=top 25
abbrev dM:Stmt:=top 26
abbrev iI:Stmt:=top 27
abbrev cK:Stmt:=top 28
abbrev fK:Stmt:=top 29
abbrev dH:Stmt:=top 30
abbrev dY:Stmt:=top 31
abbrev iA:Stmt:=top 32
abbrev f9:Stmt:=top 33
abbrev fE:Stmt:=top 34
abbrev dA:Stmt:=top 35
abbrev cX:Stmt:=top 36
abbrev iS:Stmt:=top 37
abbrev fT:Stmt:=inClass (top 2) 0
abbrev dC:Stmt:=inClass (top 3) 0
abbrev pw:=PySem.Challenge.pw_coilkind_k89_long_runs
abbrev rj:=PySem.Challenge.rw_coilkind_k89_long_runs
def view:Program:={pw with main:={pw.main with body:=([1,2,3,4,6,7,8,10,11,12,13,14,15,16,17,18,19,20,22,23,24,25,26,27,28,29,30,31,32,33,34,35,36,37]:List Nat).filterMap fun i=>pw.main.body[i]?}}
def fns:List (Str×Stmt):=[⟨"makers_in",dG⟩,⟨"with_makers",cU⟩,⟨"run",v8⟩,⟨"is_value",gE⟩,⟨"next_step",fF⟩,⟨"first_to_do",dI⟩,⟨"done_at_once",bW⟩,⟨"put_in",hX⟩,⟨"names_bound",cS⟩,⟨"replaced",gO⟩,⟨"refuse_large",cM⟩,⟨"_law_fill",gK⟩,⟨"_law_next",gN⟩,⟨"_law_many",dX⟩,⟨"_law_parts",cW⟩,⟨"_law_rebuilt",dM⟩,⟨"_law_put",iI⟩,⟨"_law_is_value",cK⟩,⟨"_law_comes",fK⟩,⟨"_law_next_of",dH⟩,⟨"_law_deep",dY⟩,⟨"_law_run",iA⟩,⟨"_law_asked",f9⟩,⟨"_law_picks",fE⟩,⟨"_law_counting",dA⟩,⟨"_law_long_runs",cX⟩,⟨"law",iS⟩]
def vals:List (Str×V):=[⟨"MOST_MAKERS",.int 400⟩,⟨"MOST_WITHIN",.int 40⟩]
def tups:List (Str×List V):=[]
def JI:List (Str×List lz):=[⟨"PLACES",[⟨"get",.inr [.str "name"]⟩,⟨"fn",.inr [.str "name",.str "row",.str "maker"]⟩,⟨"call",.inr [.str "maker",.str "maker"]⟩,⟨"box",.inr [.str "parts"]⟩,⟨"part",.inr [.str "maker",.str "name"]⟩,⟨"pick",.inr [.str "name",.str "maker"]⟩,⟨"split",.inr [.str "maker",.str "cases"]⟩,⟨"hold",.inr [.str "maker",.str "row"]⟩]⟩]
def Ot:List Str:=["len","isinstance","all","range","bool","list","tuple","enumerate","zip","max","sum","ValueError"]
def JJ:List vh:=[⟨"CoilError","CoilError.__init__",none,[]⟩,⟨"NoText","NoText.__init__",some fT,["number"]⟩,⟨"TooMany","TooMany.__init__",some dC,["many"]⟩,⟨"NoTelling","NoTelling.__init__",none,[]⟩]
def subs:List (Str×Str×Bool):=[("CoilError","CoilError",true),("CoilError","NoText",false),("CoilError","TooMany",false),("CoilError","NoTelling",false),("NoText","CoilError",true),("NoText","NoText",true),("NoText","TooMany",false),("NoText","NoTelling",false),("TooMany","CoilError",true),("TooMany","NoText",false),("TooMany","TooMany",true),("TooMany","NoTelling",false),("NoTelling","CoilError",true),("NoTelling","NoText",false),("NoTelling","TooMany",false),("NoTelling","NoTelling",true)]
def look (K:QZ):=(zo (without K []) fns,CU (without K []) vals,HL (without K []) tups,EF (without K []) JI,AK (without K []) Ot,AQ (without K []) JJ,C6 (without K []) subs)
def want (w:World):=(zp fns,CV vals,HM tups,EG w JI,true,AR JJ,C7 subs)
theorem Ou (w:World):(PySem.W.openEnds treeTable pw (w.withFollow "special-get-raises" false) 3938).map (fun s=>(PySem.W.openSeen view ["PLACES"] (PySem.importedModules pw.main.body) (fun s=>PySem.W.xlAt view [] s&&PySem.W.recOk [] s) true s,(qk look want).obs s))=some (PySem.W.openGood view ["PLACES"],(qk look want).val (w.withFollow "special-get-raises" false)):=by kernel_rfl
theorem Ov (w:World):(PySem.W.openEnds treeTable pw (w.withFollow "special-get-raises" true) 3938).map (fun s=>(PySem.W.openSeen view ["PLACES"] (PySem.importedModules pw.main.body) (fun s=>PySem.W.xlAt view [] s&&PySem.W.recOk [] s) true s,(qk look want).obs s))=some (PySem.W.openGood view ["PLACES"],(qk look want).val (w.withFollow "special-get-raises" true)):=by kernel_rfl
def Ag:DefRec:=⟨"law",mz iS,iw iS,bh iS,(match iS with | .FunctionDef _ _ _ _ _ _ _ _ _ p=>p | _=>⟨0,0,0,0⟩)⟩
theorem hdef:PySem.W.defOf view rj.row.name=some (Ag,[]):=by kernel_rfl
theorem hprog:rj.row.prog.theDef rj.row.name=some (Ag.params,Ag.body,Ag.scope):=by kernel_rfl
theorem hkw:PySem.W.kwWritten? Ag.params.kwonlyargs Ag.params.kw_defaults=some []:=by kernel_rfl
theorem hok:(PySem.W.chainsOk view&&PySem.W.opensWell rj.row.prog&&(PySem.W.frees rj.row.toRowW&&rj.row.within.isEmpty))=true:=by kernel_rfl
theorem hbare:rj.row.prog.bare:=⟨rfl,rfl,rfl,rfl,rfl,by decide+kernel⟩
theorem O0:rj.row.toRowW.promised:=by w_witness2
theorem said:rj.wellSaid=true:=by
 refine wX (p:=pw) rfl ?_ ?_ ?_ ?_ ?_ ?_ ?_ ?_ ?_ ?_ ?_ ?_ ?_ ?_ ?_ ?_ ?_ ?_ ?_ ?_ ?_ ?_ ?_ ?_ ?_ ?_ ?_ ?_<;>kernel_rfl
structure Txt (K:QZ) (mg:Str->Option Value) (w:World):Prop where
 ya:mg "len"=none
 eG:mg "isinstance"=none
 M5:mg "all"=none
 jF:mg "range"=none
 xV:mg "bool"=none
 sY:mg "list"=none
 jH:mg "tuple"=none
 nS:mg "enumerate"=none
 Df:mg "zip"=none
 Ip:mg "max"=none
 M6:mg "sum"=none
 vT:mg "ValueError"=none
 mW:∃ (a t0 t1 t2 t3 t4 t5 t6 t7:Addr),mg "PLACES"=some (.ref a)/\KD w K a [(.inr "get",.ref t0),(.inr "fn",.ref t1),(.inr "call",.ref t2),(.inr "box",.ref t3),(.inr "part",.ref t4),(.inr "pick",.ref t5),(.inr "split",.ref t6),(.inr "hold",.ref t7)]/\(∀ H,ae K H t0 [.str "name"])/\(∀ H,ae K H t1 [.str "name",.str "row",.str "maker"])/\(∀ H,ae K H t2 [.str "maker",.str "maker"])/\(∀ H,ae K H t3 [.str "parts"])/\(∀ H,ae K H t4 [.str "maker",.str "name"])/\(∀ H,ae K H t5 [.str "name",.str "maker"])/\(∀ H,ae K H t6 [.str "maker",.str "cases"])/\(∀ H,ae K H t7 [.str "maker",.str "row"])
 fS:∃ u,mg "MOST_MAKERS"=some u/\RelV (.int 400) u
 fV:∃ u,mg "MOST_WITHIN"=some u/\RelV (.int 40) u
 oM:c_ K mg "makers_in" dG ["maker"]
 kU:c_ K mg "with_makers" cU ["maker","inner"]
 M7:c_ K mg "run" v8 ["maker","n"]
 pJ:c_ K mg "is_value" gE ["maker"]
 oJ:c_ K mg "next_step" fF ["maker"]
 kO:c_ K mg "first_to_do" dI ["maker"]
 kF:c_ K mg "done_at_once" bW ["maker"]
 mX:c_ K mg "put_in" hX ["maker","v","value"]
 kP:c_ K mg "names_bound" cS ["maker"]
 jL:c_ K mg "replaced" gO ["maker","place","other"]
 kH:c_ K mg "refuse_large" cM ["maker"]
 pT:c_ K mg "_law_fill" gK ["_law_cell","_law_at"]
 pH:c_ K mg "_law_next" gN ["_law_pen","_law_many"]
 jP:c_ K mg "_law_many" dX ["_law_maker"]
 oE:c_ K mg "_law_parts" cW ["_law_maker"]
 kW:c_ K mg "_law_rebuilt" dM ["_law_maker","_law_at","_law_one"]
 l7:c_ K mg "_law_put" iI ["_law_maker","_law_name","_law_value"]
 fD:c_ K mg "_law_is_value" cK ["_law_maker"]
 oH:c_ K mg "_law_comes" fK ["_law_maker"]
 fU:c_ K mg "_law_next_of" dH ["_law_maker"]
 jT:c_ K mg "_law_deep" dY ["_law_maker"]
 rY:c_ K mg "_law_run" iA ["_law_maker","_law_n"]
 oK:c_ K mg "_law_asked" f9 ["_law_maker","_law_n"]
 nB:c_ K mg "_law_picks" fE ["_law_many_here","_law_maker"]
 jQ:c_ K mg "_law_counting" dA ["_law_pen","_law_name"]
 jA:c_ K mg "_law_long_runs" cX ["_law_pen"]
 Iq:c_ K mg "law" iS ["script"]
 ER:C4 K mg "CoilError"
 Ir:AO K mg "NoText" "NoText.__init__" fT ["self","number"] ["number"]
 zw:AO K mg "TooMany" "TooMany.__init__" dC ["self","many"] ["many"]
 Iu:C4 K mg "NoTelling"
 PF:PySem.W.subIn K (.ref (adr mg "CoilError")) (.ref (adr mg "CoilError"))=some true
 PJ:PySem.W.subIn K (.ref (adr mg "CoilError")) (.ref (adr mg "NoText"))=some false
 PK:PySem.W.subIn K (.ref (adr mg "CoilError")) (.ref (adr mg "TooMany"))=some false
 PL:PySem.W.subIn K (.ref (adr mg "CoilError")) (.ref (adr mg "NoTelling"))=some false
 PM:PySem.W.subIn K (.ref (adr mg "NoText")) (.ref (adr mg "CoilError"))=some true
 PN:PySem.W.subIn K (.ref (adr mg "NoText")) (.ref (adr mg "NoText"))=some true
 PP:PySem.W.subIn K (.ref (adr mg "NoText")) (.ref (adr mg "TooMany"))=some false
 PR:PySem.W.subIn K (.ref (adr mg "NoText")) (.ref (adr mg "NoTelling"))=some false
 M8:PySem.W.subIn K (.ref (adr mg "TooMany")) (.ref (adr mg "CoilError"))=some true
 M9:PySem.W.subIn K (.ref (adr mg "TooMany")) (.ref (adr mg "NoText"))=some false
 M_:PySem.W.subIn K (.ref (adr mg "TooMany")) (.ref (adr mg "TooMany"))=some true
 Na:PySem.W.subIn K (.ref (adr mg "TooMany")) (.ref (adr mg "NoTelling"))=some false
 PU:PySem.W.subIn K (.ref (adr mg "NoTelling")) (.ref (adr mg "CoilError"))=some true
 PV:PySem.W.subIn K (.ref (adr mg "NoTelling")) (.ref (adr mg "NoText"))=some false
 PX:PySem.W.subIn K (.ref (adr mg "NoTelling")) (.ref (adr mg "TooMany"))=some false
 PY:PySem.W.subIn K (.ref (adr mg "NoTelling")) (.ref (adr mg "NoTelling"))=some true
theorem j0:dc ["self","many"] ["self","many"] (bh dC):=bR (by decide+kernel)
theorem d5:dc ["maker","found","what","one"] ["maker"] (bh dG):=bR (by decide+kernel)
theorem bM:dc ["maker","inner","made","at","what","one"] ["maker","inner"] (bh cU):=bR (by decide+kernel)
theorem eR:dc ["maker","n","done","place","becomes"] ["maker","n"] (bh v8):=bR (by decide+kernel)
theorem f8:dc ["maker","waiting","one"] ["maker"] (bh gE):=bR (by decide+kernel)
theorem bX:dc ["maker","place","k"] ["maker"] (bh fF):=bR (by decide+kernel)
theorem cN:dc ["maker","inner","k","one"] ["maker"] (bh dI):=bR (by decide+kernel)
theorem bO:dc ["maker","form","parts","cases","v","inner"] ["maker"] (bh bW):=bR (by decide+kernel)
theorem fN:dc ["maker","v","value","bound","inner"] ["maker","v","value"] (bh hX):=bR (by decide+kernel)
theorem kN:dc ["maker"] ["maker"] (bh cS):=bR (by decide+kernel)
theorem eQ:dc ["maker","place","other","inner"] ["maker","place","other"] (bh gO):=bR (by decide+kernel)
theorem bG:dc ["maker","waiting","many","deepest","one","deep"] ["maker"] (bh cM):=bR (by decide+kernel)
theorem fA:dc ["_law_cell","_law_at","_law_x"] ["_law_cell","_law_at"] (bh gK):=bR (by decide+kernel)
theorem cH:dc ["_law_pen","_law_many","_law_at","_law_cell","_law_found"] ["_law_pen","_law_many"] (bh gN):=bR (by decide+kernel)
theorem iV:dc ["_law_maker"] ["_law_maker"] (bh dX):=bR (by decide+kernel)
theorem hV:dc ["_law_maker","_law_word"] ["_law_maker"] (bh cW):=bR (by decide+kernel)
theorem cL:dc ["_law_maker","_law_at","_law_one","_law_word","_law_rows"] ["_law_maker","_law_at","_law_one"] (bh dM):=bR (by decide+kernel)
theorem dE:dc ["_law_maker","_law_name","_law_value","_law_parts_here","_law_k"] ["_law_maker","_law_name","_law_value"] (bh iI):=bR (by decide+kernel)
theorem eL:dc ["_law_maker"] ["_law_maker"] (bh cK):=bR (by decide+kernel)
theorem bZ:dc ["_law_maker","_law_word","_law_one","_law_case","_law_bound"] ["_law_maker"] (bh fK):=bR (by decide+kernel)
theorem bN:dc ["_law_maker","_law_parts_here","_law_k","_law_found"] ["_law_maker"] (bh dH):=bR (by decide+kernel)
theorem iT:dc ["_law_maker"] ["_law_maker"] (bh dY):=bR (by decide+kernel)
theorem cG:dc ["_law_maker","_law_n","_law_done","_law_found"] ["_law_maker","_law_n"] (bh iA):=bR (by decide+kernel)
theorem c9:dc ["_law_maker","_law_n","_law_caught","_law_found","e"] ["_law_maker","_law_n"] (bh f9):=bR (by decide+kernel)
theorem dZ:dc ["_law_many_here","_law_maker","_law_k"] ["_law_many_here","_law_maker"] (bh fE):=bR (by decide+kernel)
theorem bD:dc ["_law_pen","_law_name","_law_more","_law_k","_law_self","_law_call","_law_cases","_law_fn","_law_value"] ["_law_pen","_law_name"] (bh dA):=bR (by decide+kernel)
theorem bL:dc ["_law_pen","_law_fn","_law_same_ever","_law_ending","_law_n"] ["_law_pen"] (bh cX):=bR (by decide+kernel)
theorem uP:dc ["script","_law_pen"] ["script"] (bh iS):=bR (by decide+kernel)
section
variable {K:QZ}
def Iv:Sp:=fun vs H Q _=>∃ c t:Int,vs=[.int c,.int t]/\(0<=t/\t < 1000000000)/\∀ r:Int,Q (.int r) H
theorem oO (T:Txt K mg w):bf P w K mg base 1 "_law_fill" ["_law_cell","_law_at"] Iv:=by
 refine T.pT.di fA (fun vs H Q E h=>?_) (fun f ay A outer s H vs Q E hr h=>?_)
 ·obtain ⟨c,t,rfl,_⟩:=h
  rfl
 ·obtain ⟨c,t,rfl,⟨Dg,Nb⟩,k⟩:=h
  refine ⟨_,(aE (bI (aL Ll (zv 0) (bK wD aF aF) (bq _)) (aH (aT (zv 0))) aS)
   (aE (aV (i:=2) fA.nd rfl (Or.inl rfl) (bK eB (bK bJ (bK bJ (bK d3 (bK eB (zv 0) aF) aF) (bK d3 (zv 1) aF)) aF) aF))
   (aE (aV (i:=2) fA.nd rfl (Or.inl rfl) (bK eB (bK bJ (bK bJ (bK d3 (zv 2) (zv 2)) (bK d3 aF (zv 2))) (zv 1)) aF))
   (aH (aT (bK bJ (bK d3 (zv 2) aF) (bK eB (bK bJ (bK d3 (zv 2) (zv 2)) (bK d3 aF (zv 1))) aF))))))),?_⟩
  refine ⟨⟨by decide,by decide,by decide⟩,_,rfl,Ct (fun hk=>k _) (fun hk=>?_)⟩
  refine ⟨by decide,.inl ⟨?_,?_⟩,.inl ⟨by omega,by omega⟩,by decide,?_⟩
  ·have:=Int.emod_nonneg c (show (2147483647:Int)≠0 by decide);omega
  ·have:=Int.emod_lt_of_pos c (show (0:Int) < 2147483647 by decide);omega
  generalize hx:(c % 2147483647*48271+t*69621+11) % 2147483629=x
  have PZ:0<=x:=by rw [<- hx];exact Int.emod_nonneg _ (by decide)
  have P0:x < 2147483629:=by rw [<- hx];exact Int.emod_lt_of_pos _ (by decide)
  refine ⟨.inl ⟨by omega,by omega⟩,.inl ⟨by decide,by decide⟩,by decide,?_⟩
  generalize hy:(x*x+48271*x+t) % 2147483587=y
  have P1:0<=y:=by rw [<- hy];exact Int.emod_nonneg _ (by decide)
  have P4:y < 2147483587:=by rw [<- hy];exact Int.emod_lt_of_pos _ (by decide)
  exact ⟨.inl ⟨by omega,by omega⟩,.inl ⟨by omega,by omega⟩,.inl ⟨by decide,by decide⟩,by decide,k _⟩
def Nc (K:QZ):Sp:=fun vs H Q _=>∃ (p a:Addr) (ns:List Int) (m t x:Int),vs=[.ref p,.int m]/\H p=some (.lst [.ref a,.int t,.int x])/\(∀ o,ao K (upd H p o) a (ns.map V.int))/\ao K H a (ns.map V.int)/\(0<=t/\t < 1000000)/\(0 < m/\m < 1073741824)/\
 ∀ r t' x':Int,0<=r->r < m->0<=t'->t'<=t+1->Q (.int r) (upd H p (.lst [.ref a,.int t',.int x']))
theorem BL (x y z:α):ir [x,y,z] 0=some x:=rfl
theorem Nd (x y z:α):ir [x,y,z] 1=some y:=rfl
theorem ES (x y z:α):ir [x,y,z] 2=some z:=rfl
theorem oV (T:Txt K mg w):bf P w K mg base 2 "_law_next" ["_law_pen","_law_many"] (Nc K):=by
 have pD:bf P w K mg base 1 "_law_fill" ["_law_cell","_law_at"] Iv:=oO T
 refine T.pH.di cH (fun vs H Q E h=>?_) (fun f ay A outer s H vs Q E hr h=>?_)
 ·refine hdn fun Gz9 zG9=>?_;obtain ⟨p,a,ns,m,t,x,rfl,_⟩:=h;refine zG9 ?_
  rfl
 ·refine hdn fun Gz9 zG9=>?_;obtain ⟨p,a,ns,m,t,x,rfl,hp,vn,hS,⟨Dg,Nb⟩,⟨ET,EU⟩,k⟩:=h;refine zG9 ?_
  refine ⟨_,(aE (bI (aL mM (aO (aQ K) (zv 0) aF (fun _ _=>rfl)) (zv 1) (bq _)) (aE (aV (i:=2) cH.nd rfl (Or.inl rfl) (aO (aQ K) (zv 0) aF (fun _ _=>rfl)))
   (aE (aV (i:=3) cH.nd rfl (Or.inl rfl) aF)
   (aE (bI (aL mM (zv 2) (bV (cI K) (by rfl) T.ya PySem.boot_len (aI (aO (aQ K) (zv 0) aF (fun _ _=>rfl)) aC)) (bq _)) (aH (aV (i:=3) cH.nd rfl (Or.inl rfl) (aO (aQ K) (aO (aQ K) (zv 0) aF (fun _ _=>rfl)) (zv 2) (fun _ _=>rfl)))) (aH (bI (aL i3 (bV (cI K) (by rfl) T.ya PySem.boot_len (aI (aO (aQ K) (zv 0) aF (fun _ _=>rfl)) aC)) aF (bq _)) (aH (aV (i:=3) cH.nd rfl (Or.inl rfl) (bK bJ (bK eB (aO (aQ K) (aO (aQ K) (zv 0) aF (fun _ _=>rfl)) (bK eB (bK d3 (zv 2) aF) (bV (cI K) (by rfl) T.ya PySem.boot_len (aI (aO (aQ K) (zv 0) aF (fun _ _=>rfl)) aC))) (fun _ _=>rfl)) aF) (bK d3 (zv 2) aF)))) aS)))
   (aE (fR (bK bJ (zv 2) aF) (lC (zv 0) aF dN))
   (aH (fR (bH pD (hr.mono (by decide)) (aD (zv 3) (aD (zv 2) aC))) (lC (zv 0) aF dN))))))) aS)
   (aE (aV (i:=4) cH.nd rfl (Or.inl rfl) (bK eB (aO (aQ K) (zv 0) aF (fun _ _=>rfl)) (zv 1)))
   (aE (fR (bK vI (aO (aQ K) (zv 0) aF (fun _ _=>rfl)) (zv 1)) (lC (zv 0) aF dN))
   (aH (aT (zv 4)))))),?_⟩
  refine aZ (fun σ' H1=>∃ (v2 v3:Option V) (t' x':Int),σ'=[some (.ref p),some (.int m),v2,v3,none]/\H1 p=some (.lst [.ref a,.int t',.int x'])/\(H1=H\/∃ o,H1=upd H p o)/\0<=t'/\t'<=t+1) ?_ ?_
  ·intro nx bx
   refine ⟨_,.int x,.inl (ao.of hp),ES _ _ _,_,rfl,Ct (fun hk=>?_) (fun hk=>?_)⟩
   ·refine aK ⟨_,.int t,.inl (ao.of hp),Nd _ _ _,?_⟩
    refine dP ?_
    refine aZ (fun σ' H1=>H1=H/\∃ c:Int,σ'=[some (.ref p),some (.int m),some (.int t),some (.int c),none]) ?_ ?_
    ·intro Iw oh
     refine ⟨_,.ref a,.inl (ao.of hp),BL _ _ _,.inl ⟨_,.inl hS,_,rfl,Ct (fun hl=>?_) (fun hl=>?_)⟩⟩
     ·obtain ⟨c,zc,kc⟩:=nV (ns.map V.int) t Dg (by have:=Qt hl;omega)
      have hl':t.toNat < ns.length:=by
       have:=Qt hl
       rw [Ql] at this;omega
      have hc:c=.int (ns[t.toNat]):=by
       rw [Qq,Qa hl'] at zc
       exact (QD zc).symm
      subst hc
      exact ⟨_,.ref a,.inl (ao.of hp),BL _ _ _,_,_,.inl hS,kc,oh _ _ ⟨rfl,_,rfl⟩⟩
     ·refine ⟨_,.ref a,.inl (ao.of hp),BL _ _ _,.inl ⟨_,.inl hS,_,rfl,Ct (fun g_=>?_) (fun g_=>?_)⟩⟩
      ·have Nf:=Qt g_
       have P5:0 < (ns.map V.int).length:=by omega
       have e0:=Int.emod_nonneg (t*7) (show ((ns.map V.int).length:Int)≠0 by omega)
       have e1:=Int.emod_lt_of_pos (t*7) (show (0:Int) < (ns.map V.int).length by omega)
       obtain ⟨c,zc,kc⟩:=nV (ns.map V.int) (t*7 % ((ns.map V.int).length:Int)) e0 e1
       have hl':(t*7 % ((ns.map V.int).length:Int)).toNat < ns.length:=by
        have e2:(ns.map V.int).length=ns.length:=Ql _
        omega
       have hc:c=.int (ns[(t*7 % ((ns.map V.int).length:Int)).toNat]):=by
        rw [Qq,Qa hl'] at zc
        exact (QD zc).symm
       subst hc
       refine ⟨_,.ref a,.inl (ao.of hp),BL _ _ _,.inl ⟨by omega,by omega⟩,_,.ref a,.inl (ao.of hp),BL _ _ _,.inl ⟨_,.inl hS,Nf,_,_,.inl hS,kc,by decide,.inl ⟨by omega,by omega⟩,oh _ _ ⟨rfl,_,rfl⟩⟩⟩
      ·exact oh _ _ ⟨rfl,0,rfl⟩
    ·rintro σ' H1 ⟨rfl,c,rfl⟩
     refine ⟨p,_,1,1,rfl,rfl,hp,rfl,?_⟩
     refine ⟨c,t,rfl,⟨Dg,by omega⟩,fun r=>?_⟩
     refine ⟨p,_,2,2,rfl,rfl,aA,rfl,?_⟩
     rw [qK]
     exact bx _ _ ⟨_,_,t+1,r,rfl,aA,.inr ⟨_,rfl⟩,by omega,by omega⟩
   ·exact bx _ _ ⟨none,none,t,x,rfl,hp,.inl rfl,Dg,by omega⟩
  ·rintro σ' H1 z0;refine hdn fun Gz9 zG9=>?_;obtain ⟨v2,v3,t',x',rfl,h1,h2,h3,h4⟩:=z0;refine zG9 ?_
   refine ⟨_,.int x',.inl (ao.of h1),ES _ _ _,ET,?_⟩
   refine ⟨_,.int x',.inl (ao.of h1),ES _ _ _,⟨ET,EU⟩,p,_,2,2,rfl,rfl,h1,rfl,?_⟩
   have e:∀ o,upd H1 p o=upd H p o:=fun o=>by
    rcases h2 with rfl | ⟨o',rfl⟩
    ·rfl
    ·exact qK
   rw [e]
   exact k _ t' _ (Int.emod_nonneg _ (by omega)) (Int.emod_lt_of_pos _ ET) h3 h4
structure kr (K:QZ) (H0 H:Hp) (p:Addr) (t:Nat):Prop where
 ex:∃ (a:Addr) (ns:List Int) (u x:Int),H p=some (.lst [.ref a,.int u,.int x])/\(∀ H',Sm p p H0 H'->ao K H' a (ns.map V.int))/\0<=u/\u<=(t:Int)
 sm:Sm p p H0 H
section
variable {p D:Addr} {t u:Nat}
theorem kr.same (h:kr K H0 H p t) (s:aa H H'):kr K H0 H' p t:=by
 obtain ⟨a,ns,y,x,h1,h2⟩:=h.ex
 exact ⟨⟨a,ns,y,x,s _ _ h1,h2⟩,h.sm.trans s.sm⟩
theorem kr.ne (h:kr K H0 H p t) (hD:H D=none):D≠p:=fun e=>by
 obtain ⟨_,_,_,_,z,_⟩:=h.ex
 rw [<- e,hD] at z;cases z
theorem kr.ts (h:kr K H0 H p t) (s:Sm p p H H'):Tk H H':=fun b xs e=>by
 obtain ⟨_,_,_,_,z,_⟩:=h.ex
 have n:b≠p:=fun q=>by rw [q,z] at e;cases e
 exact s _ _ e n n
end
def EV (K:QZ):Sp:=fun vs H Q _=>∃ (H0:Hp) (p:Addr) (m:Int) (t:Nat),vs=[.ref p,.int m]/\kr K H0 H p t/\(0 < m/\m < 1073741824)/\t < 900000/\
 ∀ (r:Int) (H':Hp),0<=r->r < m->kr K H0 H' p (t+1)->Sm p p H H'->Q (.int r) H'
theorem gU (T:Txt K mg w):bf P w K mg base 2 "_law_next" ["_law_pen","_law_many"] (EV K):=(oV T).imp fun vs H Q E h=>by
 refine hdn fun Gz9 zG9=>?_;obtain ⟨H0,p,m,t,rfl,hn,hm,ht,k⟩:=h;refine zG9 ?_
 refine hdn fun Gz9 zG9=>?_;obtain ⟨a,ns,u,x,h1,h2,h3,h4⟩:=hn.ex;refine zG9 ?_
 have sU:∀ o,Sm p p H (upd H p o):=fun o b u hb n _=>by rw [aM n];exact hb
 refine ⟨p,a,ns,m,u,x,rfl,h1,fun o=>h2 _ (hn.sm.trans (sU o)),h2 _ hn.sm,⟨h3,by omega⟩,hm,fun r t' x' r0 r1 t0 t1=>?_⟩
 exact k r _ r0 r1 ⟨⟨a,ns,t',x',aA,h2,t0,by push_cast;omega⟩,hn.sm.trans (sU _)⟩ (sU _)
def mh:Sp:=fun vs H Q _=>∃ (v:V) (ks:List V),vs=[v]/\ko H v ks/\∀ L H',H L=none->H' L=some (.lst ks)->aa H H'->Q (.ref L) H'
theorem cO (T:Txt K mg w):bf P w K mg base 1 "_law_parts" ["_law_maker"] mh:=by
 refine T.oE.di hV (fun vs H Q E h=>?_) (fun f ay A outer s H vs Q E hr h=>?_)
 ·obtain ⟨v,ks,rfl,_⟩:=h
  rfl
 ·obtain ⟨v,ks,rfl,hs,k⟩:=h
  have br:=Qx (bF hr)
  have hsz:sizeLine=16777216:=QL
  refine ⟨_,(aE (aV (i:=1) hV.nd rfl (Or.inl rfl) (aO (aQ K) (zv 0) aF (fun _ _=>rfl)))
   (aE (bI (aL (iE K) (zv 1) (aN (aB aJ (aB aJ aC))) rfl) (aH (aT (dB (aI (aO (aQ K) (zv 0) (wA mK aF) (fun _ _=>rfl)) aC)))) aS)
   (aE (bI (aL (bA br) (zv 1) aJ (bq _)) (aH (aT (dB (aI (aO (aQ K) (zv 0) aF (fun _ _=>rfl)) (aI (aO (aQ K) (zv 0) aF (fun _ _=>rfl)) aC))))) aS)
   (aE (bI (aL (iE K) (zv 1) (aN (aB aJ (aB aJ aC))) rfl) (aH (aT (dB (aI (aO (aQ K) (zv 0) aF (fun _ _=>rfl)) aC)))) aS)
   (aE (bI (aL (bA br) (zv 1) aJ (bq _)) (aH (aT (lV (own:=["_law_one"]) (idx:=[]) (N':=["_law_one"]) (eK (bh cW) (["_law_maker","_law_word"]:List Str) (by decide+kernel)) rfl (rN K (aO (aQ K) (zv 0) aF (fun _ _=>rfl))) (fun _ _ _ _ _ _=>(aU (i:=0) (show List.Nodup (["_law_one"]:List Str) by decide+kernel) rfl (Or.inl rfl))) (fun _ _ _ _ _ _=>eI) (fun _ _ _ _ _ _=>(aO (aQ K) (zv 0) aF (fun _ _=>rfl)))))) aS)
   (aE (bI (aL (bA br) (zv 1) aJ (bq _)) (aH (aT (bK bJ (dB (aI (aO (aQ K) (zv 0) aF (fun _ _=>rfl)) aC)) (lV (own:=["_law_one"]) (idx:=[]) (N':=["_law_one"]) (eK (bh cW) (["_law_maker","_law_word"]:List Str) (by decide+kernel)) rfl (rN K (aO (aQ K) (zv 0) aF (fun _ _=>rfl))) (fun _ _ _ _ _ _=>(aU (i:=0) (show List.Nodup (["_law_one"]:List Str) by decide+kernel) rfl (Or.inl rfl))) (fun _ _ _ _ _ _=>eI) (fun _ _ _ _ _ _=>(aO (aQ K) (zv 0) aF (fun _ _=>rfl))))))) aS)
   (aH (aT (dB aC))))))))),?_⟩
  cases hs with
  | @fn a v r m e _ _=>
   refine aK ⟨_,.str "fn",.inr (ae.of e),aR _ _,?_⟩
   refine ⟨(show 2<=sizeLine by decide),fun b1 d_=>⟨_,.inr (ae.of aA),rfl,rfl,_,rfl,?_⟩⟩
   have s1:aa H _:=(aa.refl H).trans (aa.upd d_ (.tup [.str "fn",.str "pick"]))
   generalize upd H b1 (.tup [.str "fn",.str "pick"])=H1 at s1
   refine aj (fun _=>?_) (fun c=>absurd c (by decide+kernel))
   exact ⟨1,rfl,_,m,.inr (ae.of (s1 _ _ e)),rfl,(show 1<=sizeLine by decide),fun L hL=>k L _ (s1.free hL) aA (s1.trans (aa.upd hL _))⟩
  | @pick a z m e _=>
   refine aK ⟨_,.str "pick",.inr (ae.of e),aR _ _,?_⟩
   refine ⟨(show 2<=sizeLine by decide),fun b1 d_=>⟨_,.inr (ae.of aA),rfl,rfl,_,rfl,?_⟩⟩
   have s1:aa H _:=(aa.refl H).trans (aa.upd d_ (.tup [.str "fn",.str "pick"]))
   generalize upd H b1 (.tup [.str "fn",.str "pick"])=H1 at s1
   refine aj (fun _=>?_) (fun c=>absurd c (by decide+kernel))
   exact ⟨1,rfl,_,m,.inr (ae.of (s1 _ _ e)),rfl,(show 1<=sizeLine by decide),fun L hL=>k L _ (s1.free hL) aA (s1.trans (aa.upd hL _))⟩
  | @call a f x e=>
   refine aK ⟨_,.str "call",.inr (ae.of e),aR _ _,?_⟩
   refine ⟨(show 2<=sizeLine by decide),fun b1 d_=>⟨_,.inr (ae.of aA),rfl,rfl,_,rfl,?_⟩⟩
   have s1:aa H _:=(aa.refl H).trans (aa.upd d_ (.tup [.str "fn",.str "pick"]))
   generalize upd H b1 (.tup [.str "fn",.str "pick"])=H1 at s1
   refine aj (fun c=>absurd c (by decide+kernel)) (fun _=>aG ?_)
   refine ⟨rfl,_,rfl,?_⟩
   refine aj (fun _=>?_) (fun c=>absurd c (by decide+kernel))
   exact ⟨_,f,.inr (ae.of (s1 _ _ e)),rfl,_,x,.inr (ae.of (s1 _ _ e)),rfl,(show 2<=sizeLine by decide),fun L hL=>k L _ (s1.free hL) aA (s1.trans (aa.upd hL _))⟩
  | @part a m z e _=>
   refine aK ⟨_,.str "part",.inr (ae.of e),aR _ _,?_⟩
   refine ⟨(show 2<=sizeLine by decide),fun b1 d_=>⟨_,.inr (ae.of aA),rfl,rfl,_,rfl,?_⟩⟩
   have s1:aa H _:=(aa.refl H).trans (aa.upd d_ (.tup [.str "fn",.str "pick"]))
   generalize upd H b1 (.tup [.str "fn",.str "pick"])=H1 at s1
   refine aj (fun c=>absurd c (by decide+kernel)) (fun _=>aG ?_)
   refine ⟨rfl,_,rfl,?_⟩
   refine aj (fun c=>absurd c (by decide+kernel)) (fun _=>aG ?_)
   refine ⟨(show 2<=sizeLine by decide),fun b2 vp=>⟨_,.inr (ae.of aA),rfl,rfl,_,rfl,?_⟩⟩
   have s2:aa H _:=s1.trans (aa.upd vp (.tup [.str "part",.str "hold"]))
   generalize upd H1 b2 (.tup [.str "part",.str "hold"])=H2 at s2
   refine aj (fun _=>?_) (fun c=>absurd c (by decide+kernel))
   exact ⟨_,m,.inr (ae.of (s2 _ _ e)),rfl,(show 1<=sizeLine by decide),fun L hL=>k L _ (s2.free hL) aA (s2.trans (aa.upd hL _))⟩
  | @hold a m z e _=>
   refine aK ⟨_,.str "hold",.inr (ae.of e),aR _ _,?_⟩
   refine ⟨(show 2<=sizeLine by decide),fun b1 d_=>⟨_,.inr (ae.of aA),rfl,rfl,_,rfl,?_⟩⟩
   have s1:aa H _:=(aa.refl H).trans (aa.upd d_ (.tup [.str "fn",.str "pick"]))
   generalize upd H b1 (.tup [.str "fn",.str "pick"])=H1 at s1
   refine aj (fun c=>absurd c (by decide+kernel)) (fun _=>aG ?_)
   refine ⟨rfl,_,rfl,?_⟩
   refine aj (fun c=>absurd c (by decide+kernel)) (fun _=>aG ?_)
   refine ⟨(show 2<=sizeLine by decide),fun b2 vp=>⟨_,.inr (ae.of aA),rfl,rfl,_,rfl,?_⟩⟩
   have s2:aa H _:=s1.trans (aa.upd vp (.tup [.str "part",.str "hold"]))
   generalize upd H1 b2 (.tup [.str "part",.str "hold"])=H2 at s2
   refine aj (fun _=>?_) (fun c=>absurd c (by decide+kernel))
   exact ⟨_,m,.inr (ae.of (s2 _ _ e)),rfl,(show 1<=sizeLine by decide),fun L hL=>k L _ (s2.free hL) aA (s2.trans (aa.upd hL _))⟩
  | @ck a b xs ms e e2 rm=>
   refine aK ⟨_,.str "box",.inr (ae.of e),aR _ _,?_⟩
   refine ⟨(show 2<=sizeLine by decide),fun b1 d_=>⟨_,.inr (ae.of aA),rfl,rfl,_,rfl,?_⟩⟩
   have s1:aa H _:=(aa.refl H).trans (aa.upd d_ (.tup [.str "fn",.str "pick"]))
   generalize upd H b1 (.tup [.str "fn",.str "pick"])=H1 at s1
   refine aj (fun c=>absurd c (by decide+kernel)) (fun _=>aG ?_)
   refine ⟨rfl,_,rfl,?_⟩
   refine aj (fun c=>absurd c (by decide+kernel)) (fun _=>aG ?_)
   refine ⟨(show 2<=sizeLine by decide),fun b2 vp=>⟨_,.inr (ae.of aA),rfl,rfl,_,rfl,?_⟩⟩
   have s2:aa H _:=s1.trans (aa.upd vp (.tup [.str "part",.str "hold"]))
   generalize upd H1 b2 (.tup [.str "part",.str "hold"])=H2 at s2
   refine aj (fun c=>absurd c (by decide+kernel)) (fun _=>aG ?_)
   refine ⟨rfl,_,rfl,?_⟩
   refine aj (fun _=>?_) (fun c=>absurd c (by decide+kernel))
   refine ⟨_,.ref b,.inr (ae.of (s2 _ _ e)),rfl,Or.inr ⟨⟨xs,ae.of (s2 _ _ e2)⟩,fun D hD=>?_⟩⟩
   have hl:=rm.len
   have iu:=rm.few
   refine iR (dF xs) (fun i τ H3=>H3 D=some (.lst (ks.take i))/\aa H2 H3/\∃ v1,τ=[v1]) ⟨aA,aa.upd hD _,none,rfl⟩ (fun i τ H3 _ h=>ae.of (h.2.1 _ _ (s2 _ _ e2))) ?_ ?_
   ·rintro i τ H3 hi ⟨q1,q2,v1,rfl⟩
    obtain ⟨c,ys,r1,r2,r3,_⟩:=rm.at_ i hi (by omega)
    have eg:xs.getD i .af=.ref c:=by rw [Qb,Qa hi,r1];rfl
    rw [eg]
    refine ⟨_,ks[i]'(by omega),.inr (ae.of (q2 _ _ (s2 _ _ r2))),?_,_,q1,by simp;omega,?_,q2.put hD,_,rfl⟩
    ·exact cB (j:=1) (by rw [<- r3,List.getElem?_append_right (Qy _),Nat.sub_self];rfl)
    ·rw [aA,Qs,Qa (show i < ks.length by omega)];rfl
   ·rintro τ H3 ⟨q1,q2,v1,rfl⟩
    rw [List.take_of_length_le (by omega)] at q1
    exact k D H3 (s2.free hD) q1 (s2.trans q2)
  | @split a b m xs ms e e2 rm=>
   refine aK ⟨_,.str "split",.inr (ae.of e),aR _ _,?_⟩
   refine ⟨(show 2<=sizeLine by decide),fun b1 d_=>⟨_,.inr (ae.of aA),rfl,rfl,_,rfl,?_⟩⟩
   have s1:aa H _:=(aa.refl H).trans (aa.upd d_ (.tup [.str "fn",.str "pick"]))
   generalize upd H b1 (.tup [.str "fn",.str "pick"])=H1 at s1
   refine aj (fun c=>absurd c (by decide+kernel)) (fun _=>aG ?_)
   refine ⟨rfl,_,rfl,?_⟩
   refine aj (fun c=>absurd c (by decide+kernel)) (fun _=>aG ?_)
   refine ⟨(show 2<=sizeLine by decide),fun b2 vp=>⟨_,.inr (ae.of aA),rfl,rfl,_,rfl,?_⟩⟩
   have s2:aa H _:=s1.trans (aa.upd vp (.tup [.str "part",.str "hold"]))
   generalize upd H1 b2 (.tup [.str "part",.str "hold"])=H2 at s2
   refine aj (fun c=>absurd c (by decide+kernel)) (fun _=>aG ?_)
   refine ⟨rfl,_,rfl,?_⟩
   refine aj (fun c=>absurd c (by decide+kernel)) (fun _=>aG ?_)
   refine ⟨rfl,_,rfl,?_⟩
   refine aj (fun _=>?_) (fun c=>absurd c (by decide+kernel))
   refine ⟨_,m,.inr (ae.of (s2 _ _ e)),rfl,(show 1<=sizeLine by decide),fun L1 BN=>?_⟩
   have s9:aa H _:=s2.trans (aa.upd BN (.lst [m]))
   have q_:upd H2 L1 (.lst [m]) L1=some (.lst [m]):=aA
   generalize upd H2 L1 (.lst [m])=H9 at s9 q_
   refine ⟨_,.ref b,.inr (ae.of (s9 _ _ e)),rfl,Or.inr ⟨⟨xs,ae.of (s9 _ _ e2)⟩,fun D hD=>?_⟩⟩
   have hl:=rm.len
   have iu:=rm.few
   refine iR (dF xs) (fun i τ H3=>H3 D=some (.lst (ms.take i))/\aa H9 H3/\∃ v1,τ=[v1]) ⟨aA,aa.upd hD _,none,rfl⟩ (fun i τ H3 _ h=>ae.of (h.2.1 _ _ (s9 _ _ e2))) ?_ ?_
   ·rintro i τ H3 hi ⟨q1,q2,v1,rfl⟩
    obtain ⟨c,ys,r1,r2,r3,_⟩:=rm.at_ i hi (by omega)
    have eg:xs.getD i .af=.ref c:=by rw [Qb,Qa hi,r1];rfl
    rw [eg]
    refine ⟨_,ms[i]'(by omega),.inr (ae.of (q2 _ _ (s9 _ _ r2))),?_,_,q1,by simp;omega,?_,q2.put hD,_,rfl⟩
    ·exact cB (j:=2) (by rw [<- r3,List.getElem?_append_right (Qy _),Nat.sub_self];rfl)
    ·rw [aA,Qs,Qa (show i < ms.length by omega)];rfl
   ·rintro τ H3 ⟨q1,q2,v1,rfl⟩
    rw [List.take_of_length_le (by omega)] at q1
    exact ⟨_,_,q2 _ _ q_,q1,by simp;omega,fun L hL=>k L _ (s9.free (q2.free hL)) aA ((s9.trans q2).trans (aa.upd hL _))⟩
  | @get a z e _=>
   refine aK ⟨_,.str "get",.inr (ae.of e),aR _ _,?_⟩
   refine ⟨(show 2<=sizeLine by decide),fun b1 d_=>⟨_,.inr (ae.of aA),rfl,rfl,_,rfl,?_⟩⟩
   have s1:aa H _:=(aa.refl H).trans (aa.upd d_ (.tup [.str "fn",.str "pick"]))
   generalize upd H b1 (.tup [.str "fn",.str "pick"])=H1 at s1
   refine aj (fun c=>absurd c (by decide+kernel)) (fun _=>aG ?_)
   refine ⟨rfl,_,rfl,?_⟩
   refine aj (fun c=>absurd c (by decide+kernel)) (fun _=>aG ?_)
   refine ⟨(show 2<=sizeLine by decide),fun b2 vp=>⟨_,.inr (ae.of aA),rfl,rfl,_,rfl,?_⟩⟩
   have s2:aa H _:=s1.trans (aa.upd vp (.tup [.str "part",.str "hold"]))
   generalize upd H1 b2 (.tup [.str "part",.str "hold"])=H2 at s2
   refine aj (fun c=>absurd c (by decide+kernel)) (fun _=>aG ?_)
   refine ⟨rfl,_,rfl,?_⟩
   refine aj (fun c=>absurd c (by decide+kernel)) (fun _=>aG ?_)
   refine ⟨rfl,_,rfl,?_⟩
   refine aj (fun c=>absurd c (by decide+kernel)) (fun _=>aX ?_)
   exact ⟨(show 0<=sizeLine by decide),fun L hL=>k L _ (s2.free hL) aA (s2.trans (aa.upd hL _))⟩
def EW (n:Nat):Sp:=fun vs H Q _=>∃ (v:V) (s:Nat),vs=[v]/\xh H n s v/\∀ H',aa H H'->Q (.int (s:Int)) H'
theorem z9 {s:Nat} {v:V} (h:xh H n s v):1<=s:=by
 cases h with
 | mk _ _ _ e=>omega
theorem o9:∀ ss:List Nat,(ss.map fun x:Nat=>(x:Int)).sum=((ss.sum:Nat):Int)
 | []=>rfl
 | s::ss=>by rw [List.map_cons,List.sum_cons,List.sum_cons,o9 ss];push_cast;rfl
theorem nU (T:Txt K mg w):∀ n:Nat,bf P w K mg base (2+n) "_law_many" ["_law_maker"] (EW n):=by
 intro n
 induction n with
 | zero=>
  refine T.jP.di (k:=1) iV (fun vs H Q E h=>?_) (fun f ay A outer s H vs Q E hr h=>?_)
  ·obtain ⟨v,s,rfl,_⟩:=h
   rfl
  ·obtain ⟨v,s,rfl,h,_⟩:=h
   cases h
 | succ n ih=>
  have gF:bf P w K mg base (2+n) "_law_many" ["_law_maker"] (EW n):=ih
  have bP:bf P w K mg base 1 "_law_parts" ["_law_maker"] mh:=cO T
  refine T.jP.di (k:=2+n) iV (fun vs H Q E h=>?_) (fun f ay A outer s H vs Q E hr h=>?_)
  ·obtain ⟨v,s,rfl,_⟩:=h
   rfl
  ·obtain ⟨v,s,rfl,hm,k⟩:=h
   have hu:=bF hr
   have br:=Qx (bF hr)
   have hsz:sizeLine=16777216:=QL
   cases hm with
   | @mk _ _ _ ks ss Cs hl hks he=>
    have P6:∀ i (h:i < ss.length),1<=ss[i]:=fun i h=>z9 (hks i (by omega) h)
    have Iz:=vU Cs
    refine ⟨_,(aH (aT (bK bJ aF (bV (sD K rfl) (by rfl) T.M6 PyProof.Rows.boot_sum (cV (lV (own:=["_law_one"]) (idx:=[]) (N':=["_law_one"]) (eK (bh dX) (["_law_maker"]:List Str) (by decide+kernel)) rfl (rN K (bH bP (hr.mono (by omega)) (aD (zv 0) aC))) (fun _ _ _ _ _ _=>(aU (i:=0) (show List.Nodup (["_law_one"]:List Str) by decide+kernel) rfl (Or.inl rfl))) (fun _ _ _ _ _ _=>eI) (fun _ _ _ _ _ _=>(bH gF (hr.mono (by omega)) (aD (zv 0) aC)))) aC))))),?_⟩
    refine ⟨v,ks,rfl,Cs,fun L H1 hL gL s1=>Or.inl ⟨⟨ks,ao.of gL⟩,fun D hD=>?_⟩⟩
    refine iR (fH ks) (fun i τ H3=>H3 D=some (.lst (((ss.take i).map fun x:Nat=>(x:Int)).map V.int))/\aa H1 H3/\∃ v1,τ=[v1]) ⟨aA,aa.upd hD _,none,rfl⟩ (fun i τ H3 _ h=>ao.of (h.2.1 _ _ gL)) ?_ ?_
    ·rintro i τ H3 hi ⟨q1,q2,v1,rfl⟩
     have gx:i < ss.length:=by omega
     have eg:ks.getD i .af=ks[i]:=by simp [Qb,hi]
     rw [eg]
     refine ⟨ks[i],ss[i],rfl,(hks i hi gx).tk (s1.trans q2).ts,fun H4 s4=>?_⟩
     refine ⟨_,s4 _ _ q1,by simp;omega,?_,(q2.trans s4).put hD,_,rfl⟩
     have et:ss.take (i+1)=ss.take i++[ss[i]]:=by rw [Qs,Qa gx];rfl
     rw [aA,et,Qm,Qm];rfl
    ·rintro τ H3 ⟨q1,q2,v1,rfl⟩
     rw [List.take_of_length_le (by omega)] at q1
     refine ⟨_,ao.of q1,?_⟩
     rw [o9]
     have:=k H3 (s1.trans q2)
     have e9:(s:Int)=1+((ss.sum:Nat):Int):=by omega
     rw [e9] at this
     exact this
def BO (H:Hp) (Ar:Str) (x:V) (ms:List V):Prop:=(Ar="maker"/\ms=[x])\/((Ar="parts"\/Ar="cases")/\∃ b rows n,x=.ref b/\H b=some (.tup rows)/\AG H (n+1) rows ms)\/((Ar="name"\/Ar="row")/\ms=[])
inductive yb (H:Hp):List Str->List V->List (List V)->Prop
 | nil:yb H [] [] []
 | cons {w:Str} {ws:List Str} {x:V} {xs:List V} {c:List V} {cs:List (List V)}:BO H w x c->yb H ws xs cs->yb H (w::ws) (x::xs) (c::cs)
theorem yb.len {xs:List V} {cs:List (List V)} (h:yb H ws xs cs):xs.length=ws.length/\cs.length=ws.length:=by
 induction h with
 | nil=>exact ⟨rfl,rfl⟩
 | cons _ _ ih=>simp [ih.1,ih.2]
theorem yb.at_ {xs:List V} {cs:List (List V)} (h:yb H ws xs cs):∀ i,i < ws.length->∃ w x c,ws[i]? =some w/\xs[i]? =some x/\cs[i]? =some c/\BO H w x c:=by
 induction h with
 | nil=>intro i hi;exact absurd hi (by simp)
 | cons hc _ ih=>
  intro i hi
  cases i with
  | zero=>exact ⟨_,_,_,rfl,rfl,rfl,hc⟩
  | succ j=>exact ih j (by simpa using hi)
structure Ng (K:QZ) (H:Hp) (kvs:List (be×V)) (v:V) (ks:List V) (t:Addr) (w:Str) (cu:List Str) (xs:List V) (cs:List (List V)):Prop where
 vl:dm kvs (.inr w)=some (.ref t)
 at_:∃ a,v=.ref a/\H a=some (.tup (.str w::xs))
 sq:∀ H,ae K H t (cu.map V.str)
 IA:yb H cu xs cs
 fl:cs.flatten=ks
 few:cu.length<=3
abbrev IB (t0 t1 t2 t3 t4 t5 t6 t7:Addr):List (be×V):=[(.inr "get",.ref t0),(.inr "fn",.ref t1),(.inr "call",.ref t2),(.inr "box",.ref t3),(.inr "part",.ref t4),(.inr "pick",.ref t5),(.inr "split",.ref t6),(.inr "hold",.ref t7)]
theorem zx {x:V}:BO H "maker" x [x]:=.inl ⟨rfl,rfl⟩
theorem Dh {x:V}:BO H "name" x []:=.inr (.inr ⟨.inl rfl,rfl⟩)
theorem IC {x:V}:BO H "row" x []:=.inr (.inr ⟨.inr rfl,rfl⟩)
theorem uN (ys:List α) (y:α):ir (ys++[y]) (-1)=some y:=by
 unfold ir qx
 rw [if_neg (by decide),if_pos (by simp;omega)]
 have:(-1+((ys++[y]).length:Int)).toNat=ys.length:=by simp;omega
 show (ys++[y])[(-1+((ys++[y]).length:Int)).toNat]? =some y
 rw [this];simp
theorem bS (T:Txt K mg w):bf P w K mg base 1 "makers_in" ["maker"] mh:=by
 refine T.oM.di d5 (fun vs H Q E h=>?_) (fun f ay A outer s H vs Q E hr h=>?_)
 ·obtain ⟨v,ks,rfl,_⟩:=h
  rfl
 ·obtain ⟨v,ks,rfl,hs,k⟩:=h
  have br:=Qx (bF hr)
  have hsz:sizeLine=16777216:=QL
  refine hdn fun Gz9 zG9=>?_;obtain ⟨aP,t0,t1,t2,t3,t4,t5,t6,t7,EX,EY,q0,q1,q2,q3,q4,q5,q6,q7⟩:=T.mW;refine zG9 ?_
  have EZ:∃ a,mg "PLACES"=some (.ref a)/\KD w K a _:=⟨aP,EX,EY⟩
  refine ⟨_,(aE (aV (i:=1) d5.nd rfl (Or.inl rfl) (dB aC))
   (aE (fY PassesOwn.never rfl (uW true true K (by rfl) T.Df (aI (uX EZ (aO (aQ K) (zv 0) aF (fun _ _=>rfl)) (fun _ _=>rfl)) (aI (cC (iZ K) (zv 0) (cE aF) cD) aC))) (dQ K (n:=2) rfl (bC (aU (i:=2) d5.nd rfl (Or.inl rfl)) (bC (aU (i:=3) d5.nd rfl (Or.inl rfl)) cR))) (aH (bI (aL (bA br) (zv 2) aJ (bq _)) (aH (eC (oW K QH PySem.F.slot_list_append PySem.F.type_list_append dO (zv 1) (aD (zv 3) aC)))) (aH (bI (aL (iE K) (zv 2) (aN (aB aJ (aB aJ aC))) rfl) (aH (eC (oW K QH PySem.F.slot_list_extend PySem.F.type_list_extend i7 (zv 1) (cV (lV (own:=["row"]) (idx:=[]) (N':=["row"]) (eK (bh dG) (["maker","found","what","one"]:List Str) (by decide+kernel)) rfl (rN K (zv 3)) (fun _ _ _ _ _ _=>(aU (i:=0) (show List.Nodup (["row"]:List Str) by decide+kernel) rfl (Or.inl rfl))) (fun _ _ _ _ _ _=>eI) (fun _ _ _ _ _ _=>(aO (aQ K) (zv 0) (wA mK aF) (fun _ _=>rfl)))) aC)))) aS)))))
   (aH (aT (zv 1))))),?_⟩
  have core:∃ t ww cu xs cs,Ng K H (IB t0 t1 t2 t3 t4 t5 t6 t7) v ks t ww cu xs cs:=by
   cases hs with
   | @get a z e _=>exact ⟨t0,"get",["name"],[.str z],[[]],rfl,⟨a,rfl,e⟩,q0,.cons Dh .nil,rfl,by simp⟩
   | @fn a z r m e _ _=>exact ⟨t1,"fn",["name","row","maker"],[.str z,.str r,m],[[],[],[m]],rfl,⟨a,rfl,e⟩,q1,.cons Dh (.cons IC (.cons zx .nil)),rfl,by simp⟩
   | @call a f x e=>exact ⟨t2,"call",["maker","maker"],[f,x],[[f],[x]],rfl,⟨a,rfl,e⟩,q2,.cons zx (.cons zx .nil),rfl,by simp⟩
   | @ck a b xs ms e e2 rm=>exact ⟨t3,"box",["parts"],[.ref b],[ks],rfl,⟨a,rfl,e⟩,q3,.cons (.inr (.inl ⟨.inl rfl,b,xs,0,rfl,e2,rm⟩)) .nil,by simp,by simp⟩
   | @part a m z e _=>exact ⟨t4,"part",["maker","name"],[m,.str z],[[m],[]],rfl,⟨a,rfl,e⟩,q4,.cons zx (.cons Dh .nil),rfl,by simp⟩
   | @pick a z m e _=>exact ⟨t5,"pick",["name","maker"],[.str z,m],[[],[m]],rfl,⟨a,rfl,e⟩,q5,.cons Dh (.cons zx .nil),rfl,by simp⟩
   | @split a b m xs ms e e2 rm=>exact ⟨t6,"split",["maker","cases"],[m,.ref b],[[m],ms],rfl,⟨a,rfl,e⟩,q6,.cons zx (.cons (.inr (.inl ⟨.inr rfl,b,xs,1,rfl,e2,rm⟩)) .nil),by simp,by simp⟩
   | @hold a m z e _=>exact ⟨t7,"hold",["maker","row"],[m,.str z],[[m],[]],rfl,⟨a,rfl,e⟩,q7,.cons zx (.cons IC .nil),rfl,by simp⟩
  obtain ⟨t,ww,cu,xs,cs,mo⟩:=core
  obtain ⟨a,rfl,ea⟩:=mo.at_
  have iu:=mo.few
  obtain ⟨i_,g_⟩:=mo.IA.len
  refine aK ⟨Nat.zero_le _,fun L hL=>?_⟩
  have s0:=aa.upd hL (.lst [])
  have gL:upd H L (.lst []) L=some (.lst []):=aA
  generalize upd H L (.lst [])=H1 at s0 gL
  refine aZ (fun σ' H'=>∃ v2 v3,σ'=[some (.ref a),some (.ref L),v2,v3]/\H' L=some (.lst ks)/\aa H H') ?_ ?_
  ·intro nx bx
   refine ⟨_,_,.inr (ae.of (s0 _ _ ea)),aR _ _,_,_,rfl,mo.vl,?_⟩
   refine ⟨1,rfl,?_⟩
   refine Or.inr ?_
   refine Or.inr ?_
   refine ⟨a,_,rfl,ae.of (s0 _ _ ea),by simp [HT.bg],fun p hp=>?_⟩
   have BP:e_ (V.str ww::xs) (some 1) none=xs:=by simp [e_,HT.bg]
   rw [BP]
   have s1:=aa.upd hp (.tup xs)
   have gp:upd H1 p (.tup xs) p=some (.tup xs):=aA
   have q_:=s1 _ _ gL
   generalize upd H1 p (.tup xs)=H2 at s1 gp q_
   have s2:=s0.trans s1
   refine ⟨t,p,_,_,rfl,mo.sq _,ae.of gp,jR (oX (cu.map V.str) xs) (fun i σ' H'=>∃ v2 v3,σ'=[some (.ref a),some (.ref L),v2,v3]/\H' L=some (.lst (cs.take i).flatten)/\aa H H'/\H' p=some (.tup xs)/\(cs.take i).flatten.length<=1000*i) ⟨_,_,rfl,by simpa using q_,s2,gp,by simp⟩ (by rintro i τ H' _ ⟨_,_,_,_,s',Nh,_⟩;exact ⟨mo.sq _,ae.of Nh⟩) ?_ ?_⟩
   ·rintro i σ' H3 tt hi ⟨v2,v3,rfl,g1,s3,zy,P7⟩ vq
    have gx:i < cu.length:=by simp at hi;omega
    obtain ⟨wh,x,c,e1,e2,e3,hc⟩:=mo.IA.at_ i gx
    have ew:(cu.map V.str).getD i .af=.str wh:=by simp [Qb,e1]
    have ex:xs.getD i .af=x:=by simp [Qb,e2]
    rw [ew,ex]
    have s4:=s3.trans (aa.upd vq (.tup [.str wh,x]))
    have g4:=aa.upd vq (.tup [.str wh,x]) _ _ g1
    have zz:=aa.upd vq (.tup [.str wh,x]) _ _ zy
    generalize upd H3 tt (.tup [.str wh,x])=H4 at s4 g4 zz
    have ue:(cs.take (i+1)).flatten=(cs.take i).flatten++c:=by rw [Qs,e3];simp
    have ID:p≠L:=fun z=>by rw [z,gL] at hp;cases hp
    rcases hc with ⟨rfl,rfl⟩ | ⟨hw,b,rows,n,rfl,hb,rm⟩ | ⟨hw,rfl⟩
    ·refine ⟨rfl,_,rfl,aj (fun _=>?_) (fun c=>absurd c (by decide+kernel))⟩
     refine ⟨.inl ⟨rfl,_,ao.of g4⟩,L,_,_,rfl,rfl,g4,by omega,_,_,rfl,by rw [aA,ue],s4.put hL,by rw [aM ID];exact zz,by rw [ue,Qk,List.length_singleton];omega⟩
    ·have z_:wh≠"maker":=by rcases hw with rfl | rfl<;>decide+kernel
     have hl:=rm.len
     have P8:=rm.few
     refine ⟨rfl,_,rfl,aj (fun c=>absurd c (by simp [z_])) (fun _=>?_)⟩
     refine ⟨(show 2<=sizeLine by decide),fun b1 d_=>⟨_,.inr (ae.of aA),?_,rfl,_,rfl,?_⟩⟩
     ·rcases hw with rfl | rfl<;>rfl
     have s5:=s4.trans (aa.upd d_ (.tup [.str "parts",.str "cases"]))
     have g5:=aa.upd d_ (.tup [.str "parts",.str "cases"]) _ _ g4
     have BQ:=aa.upd d_ (.tup [.str "parts",.str "cases"]) _ _ zz
     generalize upd H4 b1 (.tup [.str "parts",.str "cases"])=H5 at s5 g5 BQ
     refine aj (fun _=>?_) (fun c=>absurd c ?_)
     ·refine ⟨.inl ⟨rfl,_,ao.of g5⟩,Or.inr ⟨⟨rows,ae.of (s5 _ _ hb)⟩,fun D hD=>?_⟩⟩
      have P9:L≠D:=fun z=>by rw [<- z,g5] at hD;cases hD
      refine iR (dF rows) (fun i τ H3=>H3 D=some (.lst (c.take i))/\aa H5 H3/\∃ v1,τ=[v1]) ⟨aA,aa.upd hD _,none,rfl⟩ (fun i τ H3 _ h=>ae.of (h.2.1 _ _ (s5 _ _ hb))) ?_ ?_
      ·rintro j τ H6 hj ⟨r1,r2,v1,rfl⟩
       obtain ⟨cc,ys,w1,w2,w3⟩:=rm.at_ j hj (by omega)
       have eg:rows.getD j .af=.ref cc:=by rw [Qb,Qa hj,w1];rfl
       rw [eg]
       refine ⟨1,rfl,_,c[j]'(by omega),.inr (ae.of (r2 _ _ (s5 _ _ w2))),uN _ _,_,r1,by simp;omega,?_,r2.put hD,_,rfl⟩
       rw [aA,Qs,Qa (show j < c.length by omega)];rfl
      ·rintro τ H6 ⟨r1,r2,v1,rfl⟩
       rw [List.take_of_length_le (by omega)] at r1
       exact ⟨L,D,_,c,rfl,rfl,r2 _ _ g5,r1,by omega,_,_,rfl,by rw [aA,ue],(s5.trans r2).put hL,by rw [aM ID];exact r2 _ _ BQ,by rw [ue,Qk];omega⟩
     ·rcases hw with rfl | rfl<;>decide+kernel
    ·have z_:wh≠"maker":=by rcases hw with rfl | rfl<;>decide+kernel
     refine ⟨rfl,_,rfl,aj (fun c=>absurd c (by simp [z_])) (fun _=>?_)⟩
     refine ⟨(show 2<=sizeLine by decide),fun b1 d_=>⟨_,.inr (ae.of aA),?_,rfl,_,rfl,?_⟩⟩
     ·rcases hw with rfl | rfl<;>rfl
     have s5:=s4.trans (aa.upd d_ (.tup [.str "parts",.str "cases"]))
     have g5:=aa.upd d_ (.tup [.str "parts",.str "cases"]) _ _ g4
     have BQ:=aa.upd d_ (.tup [.str "parts",.str "cases"]) _ _ zz
     generalize upd H4 b1 (.tup [.str "parts",.str "cases"])=H5 at s5 g5 BQ
     refine aj (fun c=>absurd c ?_) (fun _=>?_)
     ·rcases hw with rfl | rfl<;>decide+kernel
     ·exact ⟨_,_,rfl,by rw [g5,ue,QQ],s5,BQ,by rw [ue,QQ];omega⟩
   ·rintro σ' H3 ⟨v2,v3,rfl,g1,s3,zy,_⟩
    rw [List.take_of_length_le (by simp;omega)] at g1
    exact bx _ _ ⟨v2,v3,rfl,by rw [g1,mo.fl],s3⟩
  ·rintro σ' H3 ⟨v2,v3,rfl,g1,s3⟩
   exact k L H3 hL g1 s3
def Di (H:Hp) (w:Str) (x:V) (nk:List V):Prop:=(w="maker"/\∃ y,nk=[y])\/((w="parts"\/w="cases")/\∃ b rows ls ms,x=.ref b/\H b=some (.tup rows)/\jw H ls rows ms/\rows.length=nk.length/\rows.length<=1000/\∀ l∈ls,l.length<=2)\/((w="name"\/w="row")/\nk=[])
def mi (H:Hp) (w:Str) (x:V) (nk:List V) (x':V):Prop:=(w="maker"/\nk=[x'])\/((w="parts"\/w="cases")/\∃ b rows ls ms b' rows',x=.ref b/\H b=some (.tup rows)/\jw H ls rows ms/\x'=.ref b'/\H b'=some (.tup rows')/\jw H ls rows' nk)\/((w="name"\/w="row")/\nk=[]/\x'=x)
theorem mi.tk {H H':Hp} {w:Str} {x x':V} {nk:List V} (h:mi H w x nk x') (s:Tk H H'):mi H' w x nk x':=by
 rcases h with h | ⟨h,b,rows,ls,ms,b',rows',h1,h2,h3,h4,h5,h6⟩ | h
 ·exact .inl h
 ·exact .inr (.inl ⟨h,b,rows,ls,ms,b',rows',h1,s _ _ h2,h3.tk s,h4,s _ _ h5,h6.tk s⟩)
 ·exact .inr (.inr h)
structure Ni (K:QZ) (H:Hp) (kvs:List (be×V)) (v:V) (f:au) (ns:List V) (t:Addr) (w:Str) (cu:List Str) (xs:List V) (nss:List (List V)):Prop where
 vl:dm kvs (.inr w)=some (.ref t)
 at_:∃ a,v=.ref a/\H a=some (.tup (.str w::xs))
 sq:∀ H,ae K H t (cu.map V.str)
 l1:xs.length=cu.length
 l2:nss.length=cu.length
 ct:∀ i (h:i < cu.length) (h1:i < xs.length) (h2:i < nss.length),Di H cu[i] xs[i] nss[i]
 fl:nss.flatten=ns
 few:cu.length<=3
 fin:∀ H' v' a' (xs':List V),v'=.ref a'->H' a'=some (.tup (.str w::xs'))->xs'.length=cu.length->(∀ i (h:i < cu.length) (h1:i < xs.length) (h2:i < nss.length) (h3:i < xs'.length),mi H' cu[i] xs[i] nss[i] xs'[i])->Tk H H'->dh H' v' f ns
def E1:Sp:=fun vs H Q _=>∃ (v:V) (f:au) (ks ns:List V) (L:Addr),vs=[v,.ref L]/\dh H v f ks/\f.ok/\H L=some (.lst ns)/\ns.length=f.ar/\∀ v' H',aa H H'->dh H' v' f ns->Q v' H'
theorem kI {x x':V} {nk:List V} (h:mi H "maker" x nk x'):nk=[x']:=by
 rcases h with h | ⟨h,_⟩ | ⟨h,_⟩
 ·exact h.2
 ·rcases h with h | h<;>exact absurd h (by decide+kernel)
 ·rcases h with h | h<;>exact absurd h (by decide+kernel)
theorem lJ {w:Str} {x x':V} {nk:List V} (hw:w="name"\/w="row") (h:mi H w x nk x'):x'=x:=by
 rcases h with ⟨h,_⟩ | ⟨h,_⟩ | h
 ·rcases hw with rfl | rfl<;>exact absurd h (by decide+kernel)
 ·rcases hw with rfl | rfl<;>rcases h with h | h<;>exact absurd h (by decide+kernel)
 ·exact h.2.2
theorem xK {w:Str} {rows:List V} {ls:List (List V)} {ms nk:List V} {x':V} (hw:w="parts"\/w="cases") (hb:H b=some (.tup rows)) (hr:jw H ls rows ms) (h:mi H w (.ref b) nk x'):∃ b' rows',x'=.ref b'/\H b'=some (.tup rows')/\rows'.length=nk.length/\rows.length=nk.length/\∀ i (h1:i < rows'.length) (h2:i < nk.length) (h3:i < ls.length),∃ c,rows'[i]=.ref c/\H c=some (.tup (ls[i]++[nk[i]])):=by
 rcases h with ⟨h,_⟩ | ⟨_,b0,rows0,Nj,rf,b',rows',h1,h2,h3,h4,h5,h6⟩ | ⟨h,_⟩
 ·rcases hw with rfl | rfl<;>exact absurd h (by decide+kernel)
 ·cases h1
  rw [hb] at h2
  cases h2
  have k1:=hr.l1
  have k2:=hr.l2
  have k3:=h3.l1
  have k4:=h3.l2
  have k5:=h6.l1
  have k6:=h6.l2
  refine ⟨b',rows',h4,h5,h6.l1,by omega,fun i a1 a2 a3=>?_⟩
  obtain ⟨c,c1,c2⟩:=h6.at_ i a1 a2 (by omega)
  obtain ⟨d,d1,d2⟩:=hr.at_ i (by omega) (by omega) a3
  obtain ⟨d',e1,e2⟩:=h3.at_ i (by omega) (by omega) (by omega)
  rw [d1] at e1
  cases e1
  rw [d2] at e2
  have e3:=HO.tup.inj (QD e2)
  have e4:ls[i]=Nj[i]:=(List.append_inj_left' e3 rfl)
  rw [e4]
  exact ⟨c,c1,c2⟩
 ·rcases hw with rfl | rfl<;>rcases h with h | h<;>exact absurd h (by decide+kernel)
theorem Nk (l:List α) (i:Nat) (h:i < l.length):l.take (i+1)=l.take i++[l[i]]:=by rw [Qs,Qa h];rfl
theorem ku {l:List α} (h:l.length=1):∃ a,l=[a]:=by
 match l,h with
 | [a],_=>exact ⟨a,rfl⟩
theorem yc {l:List α} (h:l.length=2):∃ a b,l=[a,b]:=by
 match l,h with
 | [a,b],_=>exact ⟨a,b,rfl⟩
theorem Nl {l:List α} (h:l.length=3):∃ a b c,l=[a,b,c]:=by
 match l,h with
 | [a,b,c],_=>exact ⟨a,b,c,rfl⟩
theorem yI {K:QZ} {v:V} {f:au} {ks ns:List V} {t0 t1 t2 t3 t4 t5 t6 t7:Addr} (sh:dh H v f ks) (ok:f.ok) (hl:ns.length=f.ar) (q0:∀ H,ae K H t0 [.str "name"]) (q1:∀ H,ae K H t1 [.str "name",.str "row",.str "maker"]) (q2:∀ H,ae K H t2 [.str "maker",.str "maker"]) (q3:∀ H,ae K H t3 [.str "parts"]) (q4:∀ H,ae K H t4 [.str "maker",.str "name"]) (q5:∀ H,ae K H t5 [.str "name",.str "maker"]) (q6:∀ H,ae K H t6 [.str "maker",.str "cases"]) (q7:∀ H,ae K H t7 [.str "maker",.str "row"]):
  ∃ t ww cu xs nss,Ni K H (IB t0 t1 t2 t3 t4 t5 t6 t7) v f ns t ww cu xs nss:=by
 have cm:∀ {x y:V},Di H "maker" x [y]:=.inl ⟨rfl,_,rfl⟩
 have cn:∀ {x:V},Di H "name" x []:=.inr (.inr ⟨.inl rfl,rfl⟩)
 have cr:∀ {x:V},Di H "row" x []:=.inr (.inr ⟨.inr rfl,rfl⟩)
 have nm:("name":Str)="name"\/("name":Str)="row":=.inl rfl
 have rw_:("row":Str)="name"\/("row":Str)="row":=.inr rfl
 cases sh with
 | @get a z e=>
  obtain rfl:=QR hl
  refine ⟨t0,"get",["name"],[.str z],[[]],rfl,⟨a,rfl,e⟩,q0,rfl,rfl,fun i h h1 h2=>?_,rfl,by simp,fun H' v' a' xs' ev e' l' o s=>?_⟩
  ·obtain rfl:i=0:=by simp at h;omega
   exact cn
  ·obtain ⟨x0,rfl⟩:=ku l'
   have:=lJ nm (o 0 (by simp) (by simp) (by simp) (by simp))
   subst ev
   simp at this
   rw [this] at e'
   exact .get e'
 | @fn a z r m e=>
  obtain ⟨y,rfl⟩:=ku (show ns.length=1 from hl)
  refine ⟨t1,"fn",["name","row","maker"],[.str z,.str r,m],[[],[],[y]],rfl,⟨a,rfl,e⟩,q1,rfl,rfl,fun i h h1 h2=>?_,rfl,by simp,fun H' v' a' xs' ev e' l' o s=>?_⟩
  ·rcases (show i=0\/i=1\/i=2 by simp at h;omega) with rfl | rfl | rfl
   ·exact cn
   ·exact cr
   ·exact cm
  ·obtain ⟨x0,x1,x2,rfl⟩:=Nl l'
   have h0:=lJ nm (o 0 (by simp) (by simp) (by simp) (by simp))
   have h1:=lJ rw_ (o 1 (by simp) (by simp) (by simp) (by simp))
   have h2:=kI (o 2 (by simp) (by simp) (by simp) (by simp))
   subst ev
   simp at h0 h1 h2
   subst h0 h1 h2
   exact .fn e'
 | @call a f x e=>
  obtain ⟨y0,y1,rfl⟩:=yc (show ns.length=2 from hl)
  refine ⟨t2,"call",["maker","maker"],[f,x],[[y0],[y1]],rfl,⟨a,rfl,e⟩,q2,rfl,rfl,fun i h h1 h2=>?_,rfl,by simp,fun H' v' a' xs' ev e' l' o s=>?_⟩
  ·rcases (show i=0\/i=1 by simp at h;omega) with rfl | rfl<;>exact cm
  ·obtain ⟨x0,x1,rfl⟩:=yc l'
   have h0:=kI (o 0 (by simp) (by simp) (by simp) (by simp))
   have h1:=kI (o 1 (by simp) (by simp) (by simp) (by simp))
   subst ev
   simp at h0 h1
   subst h0 h1
   exact .call e'
 | @ck a b ws xs ms e e2 rm=>
  have l1:=rm.l1
  have l2:=rm.l2
  have l3:(ip ws).length=ws.length:=by simp [ip]
  have hl:ns.length=ws.length:=hl
  refine ⟨t3,"box",["parts"],[.ref b],[ns],rfl,⟨a,rfl,e⟩,q3,rfl,rfl,fun i h h1 h2=>?_,by simp,by simp,fun H' v' a' xs' ev e' l' o s=>?_⟩
  ·obtain rfl:i=0:=by simp at h;omega
   refine .inr (.inl ⟨.inl rfl,b,xs,_,ks,rfl,e2,rm,?_,?_,fun l hl'=>?_⟩)
   ·show xs.length=ns.length;omega
   ·have:=ok.2.2;omega
   ·obtain ⟨z,_,rfl⟩:=List.mem_map.mp hl';simp
  ·obtain ⟨x0,rfl⟩:=ku l'
   obtain ⟨b',rows',h1,h2,h3,h4,h5⟩:=xK (.inl rfl) (s _ _ e2) (rm.tk s) (o 0 (by simp) (by simp) (by simp) (by simp))
   subst ev
   simp at h1 h3 h5
   subst h1
   exact .ck e' h2 ⟨h3,by omega,h5⟩
 | @part a m z e=>
  obtain ⟨y,rfl⟩:=ku (show ns.length=1 from hl)
  refine ⟨t4,"part",["maker","name"],[m,.str z],[[y],[]],rfl,⟨a,rfl,e⟩,q4,rfl,rfl,fun i h h1 h2=>?_,rfl,by simp,fun H' v' a' xs' ev e' l' o s=>?_⟩
  ·rcases (show i=0\/i=1 by simp at h;omega) with rfl | rfl
   ·exact cm
   ·exact cn
  ·obtain ⟨x0,x1,rfl⟩:=yc l'
   have h0:=kI (o 0 (by simp) (by simp) (by simp) (by simp))
   have h1:=lJ nm (o 1 (by simp) (by simp) (by simp) (by simp))
   subst ev
   simp at h0 h1
   subst h0 h1
   exact .part e'
 | @pick a z m e=>
  obtain ⟨y,rfl⟩:=ku (show ns.length=1 from hl)
  refine ⟨t5,"pick",["name","maker"],[.str z,m],[[],[y]],rfl,⟨a,rfl,e⟩,q5,rfl,rfl,fun i h h1 h2=>?_,rfl,by simp,fun H' v' a' xs' ev e' l' o s=>?_⟩
  ·rcases (show i=0\/i=1 by simp at h;omega) with rfl | rfl
   ·exact cn
   ·exact cm
  ·obtain ⟨x0,x1,rfl⟩:=yc l'
   have h0:=lJ nm (o 0 (by simp) (by simp) (by simp) (by simp))
   have h1:=kI (o 1 (by simp) (by simp) (by simp) (by simp))
   subst ev
   simp at h0 h1
   subst h0 h1
   exact .pick e'
 | @split a b cs m xs ms e e2 rm=>
  have l1:=rm.l1
  have l2:=rm.l2
  have l3:(fu cs).length=cs.length:=by simp [fu]
  have hl:ns.length=cs.length+1:=hl
  obtain ⟨y,ns',rfl⟩:∃ y ns',ns=y::ns':=List.exists_cons_of_ne_nil fun z=>by rw [z] at hl;simp at hl
  have hl:ns'.length=cs.length:=by simpa using hl
  refine ⟨t6,"split",["maker","cases"],[m,.ref b],[[y],ns'],rfl,⟨a,rfl,e⟩,q6,rfl,rfl,fun i h h1 h2=>?_,by simp,by simp,fun H' v' a' xs' ev e' l' o s=>?_⟩
  ·rcases (show i=0\/i=1 by simp at h;omega) with rfl | rfl
   ·exact cm
   ·refine .inr (.inl ⟨.inr rfl,b,xs,_,ms,rfl,e2,rm,?_,?_,fun l hl'=>?_⟩)
    ·show xs.length=ns'.length;omega
    ·have:=ok.2.2;omega
    ·obtain ⟨z,_,rfl⟩:=List.mem_map.mp hl';simp
  ·obtain ⟨x0,x1,rfl⟩:=yc l'
   have h0:=kI (o 0 (by simp) (by simp) (by simp) (by simp))
   obtain ⟨b',rows',h1,h2,h3,h4,h5⟩:=xK (.inr rfl) (s _ _ e2) (rm.tk s) (o 1 (by simp) (by simp) (by simp) (by simp))
   subst ev
   simp at h0 h1 h3 h5
   subst h0 h1
   exact .split e' h2 ⟨h3,by omega,h5⟩
 | @hold a m z e=>
  obtain ⟨y,rfl⟩:=ku (show ns.length=1 from hl)
  refine ⟨t7,"hold",["maker","row"],[m,.str z],[[y],[]],rfl,⟨a,rfl,e⟩,q7,rfl,rfl,fun i h h1 h2=>?_,rfl,by simp,fun H' v' a' xs' ev e' l' o s=>?_⟩
  ·rcases (show i=0\/i=1 by simp at h;omega) with rfl | rfl
   ·exact cm
   ·exact cr
  ·obtain ⟨x0,x1,rfl⟩:=yc l'
   have h0:=kI (o 0 (by simp) (by simp) (by simp) (by simp))
   have h1:=lJ rw_ (o 1 (by simp) (by simp) (by simp) (by simp))
   subst ev
   simp at h0 h1
   subst h0 h1
   exact .hold e'
theorem eU (T:Txt K mg w):bf P w K mg base 1 "with_makers" ["maker","inner"] E1:=by
 refine T.kU.di bM (fun vs H Q E h=>?_) (fun f ay A outer s H vs Q E hr h=>?_)
 ·obtain ⟨v,f,ks,ns,L,rfl,_⟩:=h
  rfl
 ·refine hdn fun Gz9 zG9=>?_;obtain ⟨v,f,ks,ns,L,rfl,sh,ok,gL,hl,k⟩:=h;refine zG9 ?_
  have hu:=bF hr
  have br:=Qx (bF hr)
  have hsz:sizeLine=16777216:=QL
  refine hdn fun Gz9 zG9=>?_;obtain ⟨aP,t0,t1,t2,t3,t4,t5,t6,t7,EX,EY,q0,q1,q2,q3,q4,q5,q6,q7⟩:=T.mW;refine zG9 ?_
  have EZ:∃ a,mg "PLACES"=some (.ref a)/\KD w K a _:=⟨aP,EX,EY⟩
  refine ⟨_,(aE (aV (i:=2) bM.nd rfl (Or.inl rfl) (dB (aI (aO (aQ K) (zv 0) aF (fun _ _=>rfl)) aC)))
   (aE (aV (i:=3) bM.nd rfl (Or.inl rfl) aF)
   (aE (fY PassesOwn.never rfl (uW true true K (by rfl) T.Df (aI (uX EZ (aO (aQ K) (zv 0) aF (fun _ _=>rfl)) (fun _ _=>rfl)) (aI (cC (iZ K) (zv 0) (cE aF) cD) aC))) (dQ K (n:=2) rfl (bC (aU (i:=4) bM.nd rfl (Or.inl rfl)) (bC (aU (i:=5) bM.nd rfl (Or.inl rfl)) cR))) (aH (bI (aL (bA br) (zv 4) aJ (bq _)) (aE (eC (oW K QH PySem.F.slot_list_append PySem.F.type_list_append dO (zv 2) (aI (aO (aQ K) (zv 1) (zv 3) (fun _ _=>rfl)) aC)))
   (aH (nQ (i:=3) bM.nd rfl (Or.inl rfl) aF mC))) (aH (bI (aL (iE K) (zv 4) (aN (aB aJ (aB aJ aC))) rfl) (aE (eC (oW K QH PySem.F.slot_list_append PySem.F.type_list_append dO (zv 2) (bY (dS (fM K) (by rfl) T.jH PyProof.Rows.boot_tuple (cV (lV (own:=["row","other"]) (idx:=[]) (N':=["row","other"]) (eK (bh cU) (["maker","inner","made","at","what","one"]:List Str) (by decide+kernel)) rfl (uW true false K (by rfl) T.Df (aD (zv 5) (aI (cC (iZ K) (zv 1) (cE (zv 3)) cD) aC))) (fun _ _ _ _ _ _=>(dQ K (n:=2) rfl (bC (aU (i:=0) (show List.Nodup (["row","other"]:List Str) by decide+kernel) rfl (Or.inl rfl)) (bC (aU (i:=1) (show List.Nodup (["row","other"]:List Str) by decide+kernel) rfl (Or.inl rfl)) cR)))) (fun _ _ _ _ _ _=>eI) (fun _ _ _ _ _ _=>(bK (vW K) (cC (iZ K) (zv 0) cD (cE (wA mK aF))) (aN (aD (zv 1) aC))))) aC)) aC)))
   (aH (nQ (i:=3) bM.nd rfl (Or.inl rfl) (bV (cI K) (by rfl) T.ya PySem.boot_len (aD (zv 5) aC)) mC))) (aH (eC (oW K QH PySem.F.slot_list_append PySem.F.type_list_append dO (zv 2) (aD (zv 5) aC)))))))))
   (aH (aT (dS (fM K) (by rfl) T.jH PyProof.Rows.boot_tuple (aD (zv 2) aC))))))),?_⟩
  obtain ⟨t,ww,cu,xs,nss,mo⟩:=yI sh ok hl q0 q1 q2 q3 q4 q5 q6 q7
  obtain ⟨a,rfl,ea⟩:=mo.at_
  have iu:=mo.few
  have i_:=mo.l1
  have g_:=mo.l2
  refine aK ⟨_,.str ww,.inr (ae.of ea),aR _ _,(show 1<=sizeLine by decide),fun M hM=>?_⟩
  have s0:=aa.upd hM (.lst [.str ww])
  have gM:upd H M (.lst [.str ww]) M=some (.lst [.str ww]):=aA
  dsimp only
  generalize upd H M (.lst [.str ww])=H1 at s0 gM
  refine aK ?_
  refine aZ (fun σ' H'=>∃ (v3 v4 v5:Option V) (xs':List V),σ'=[some (.ref a),some (.ref L),some (.ref M),v3,v4,v5]/\H' M=some (.lst (.str ww::xs'))/\xs'.length=cu.length/\(∀ i (h:i < cu.length) (h1:i < xs.length) (h2:i < nss.length) (h3:i < xs'.length),mi H' cu[i] xs[i] nss[i] xs'[i])/\aa H H') ?_ ?_
  ·intro nx bx
   refine ⟨_,_,.inr (ae.of (s0 _ _ ea)),aR _ _,_,_,rfl,mo.vl,?_⟩
   refine ⟨1,rfl,?_⟩
   refine Or.inr (Or.inr ⟨a,_,rfl,ae.of (s0 _ _ ea),by simp [HT.bg],fun p hp=>?_⟩)
   have BP:e_ (V.str ww::xs) (some 1) none=xs:=by simp [e_,HT.bg]
   rw [BP]
   have s1:=aa.upd hp (.tup xs)
   have gp:upd H1 p (.tup xs) p=some (.tup xs):=aA
   have IE:=s1 _ _ gM
   generalize upd H1 p (.tup xs)=H2 at s1 gp IE
   have s2:=s0.trans s1
   have Nm:p≠M:=fun z=>by rw [z,gM] at hp;cases hp
   refine ⟨t,p,_,_,rfl,mo.sq _,ae.of gp,jR (oX (cu.map V.str) xs) (fun i σ' H'=>∃ (v4 v5:Option V) (xs':List V),σ'=[some (.ref a),some (.ref L),some (.ref M),some (.int ((nss.take i).flatten.length:Nat)),v4,v5]/\H' M=some (.lst (.str ww::xs'))/\xs'.length=i/\(∀ j (h:j < cu.length) (h1:j < xs.length) (h2:j < nss.length) (h3:j < xs'.length),mi H' cu[j] xs[j] nss[j] xs'[j])/\aa H H'/\H' p=some (.tup xs)) ⟨_,_,[],rfl,IE,rfl,fun j _ _ _ h=>absurd h (by simp),s2,gp⟩ (by rintro i τ H' _ ⟨_,_,_,_,_,_,_,_,g⟩;exact ⟨mo.sq _,ae.of g⟩) ?_ ?_⟩
   ·rintro i σ' H3 tt hi ⟨v4,v5,xs',rfl,g1,xy,ho,s3,zy⟩ vq
    have gx:i < cu.length:=by simp at hi;omega
    have ew:(cu.map V.str).getD i .af=.str cu[i]:=by rw [Qb,Qq,Qa gx];rfl
    have ex:xs.getD i .af=xs[i]:=by rw [Qb,Qa (by omega)];rfl
    rw [ew,ex]
    have st:=aa.upd vq (.tup [.str cu[i],xs[i]])
    have g4:=st _ _ g1
    have zz:=st _ _ zy
    have s4:=s3.trans st
    have ho:=fun j h h1 h2 h3=>(ho j h h1 h2 h3).tk st.ts
    generalize upd H3 tt (.tup [.str cu[i],xs[i]])=H4 at st s4 g4 zz ho
    have ct:=mo.ct i gx (by omega) (by omega)
    have ue:(nss.take (i+1)).flatten=(nss.take i).flatten++nss[i]:=by rw [Nk _ i (by omega),List.flatten_append];simp
    have IF:ns=(nss.take i).flatten++(nss[i]++(nss.drop (i+1)).flatten):=by
     rw [<- mo.fl]
     conv=>lhs;rw [<- List.take_append_drop i nss,List.drop_eq_getElem_cons (show i < nss.length by omega)]
     rw [List.flatten_append,List.flatten_cons]
    have IG:=s4 _ _ gL
    have P_:M≠L:=fun z=>by rw [z,gL] at hM;cases hM
    have Qg:ns.length<=1001:=by
     rw [hl]
     cases f<;>simp only [au.ar]<;>(try omega)
     ·exact Nat.le_trans ok.2.2 (by decide)
     ·exact Nat.succ_le_succ ok.2.2
    have push:∀ {x':V} {H5:Hp},aa H4 H5->mi H5 cu[i] xs[i] nss[i] x'->H5 M=some (.lst (.str ww::xs'))->∀ v4 v5:Option V,∃ (Nn Np:Option V) (ys:List V),[some (V.ref a),some (.ref L),some (.ref M),some (.int ((nss.take (i+1)).flatten.length:Nat)),v4,v5]=[some (.ref a),some (.ref L),some (.ref M),some (.int ((nss.take (i+1)).flatten.length:Nat)),Nn,Np]/\upd H5 M (.lst (.str ww::xs'++[x'])) M=some (.lst (.str ww::ys))/\ys.length=i+1/\(∀ j (h:j < cu.length) (h1:j < xs.length) (h2:j < nss.length) (h3:j < ys.length),mi (upd H5 M (.lst (.str ww::xs'++[x']))) cu[j] xs[j] nss[j] ys[j])/\aa H (upd H5 M (.lst (.str ww::xs'++[x'])))/\upd H5 M (.lst (.str ww::xs'++[x'])) p=some (.tup xs):=fun {x' H5} s5 hc g5 v4 v5=>by
     have tk:Tk H5 (upd H5 M (.lst (.str ww::xs'++[x']))):=(Tk.refl).set g5 fun _ z=>nomatch z
     refine ⟨_,_,xs'++[x'],rfl,by rw [aA];rfl,by simp [xy],fun j h h1 h2 h3=>?_,(s4.trans s5).put hM,by rw [aM Nm];exact s5 _ _ zz⟩
     by_cases hj:j < xs'.length
     ·rw [Qe hj]
      exact (ho j h h1 h2 hj).tk (s5.ts.trans tk)
     ·obtain rfl:j=i:=by simp at h3;omega
      rw [Qf (by omega)]
      simp only [xy,Nat.sub_self,List.getElem_cons_zero]
      exact hc.tk tk
    rcases ct with ⟨hw,y,hy⟩ | ⟨hw,b,rows,ls,ms,II,hb,rm,Hu,Qn,Iz⟩ | ⟨hw,IJ⟩
    ·rw [hw]
     refine ⟨rfl,_,rfl,aj (fun _=>?_) (fun c=>absurd c (by decide+kernel))⟩
     refine aZ (fun σ' H'=>∃ v4 v5:Option V,σ'=[some (.ref a),some (.ref L),some (.ref M),some (.int ((nss.take i).flatten.length:Nat)),v4,v5]/\H'=upd H4 M (.lst (.str ww::xs'++[y]))) ?_ ?_
     ·intro Iw oh
      refine ⟨.inl ⟨rfl,_,ao.of g4⟩,_,y,.inl (ao.of IG),?_,M,_,y,rfl,rfl,g4,by simp;omega,oh _ _ ⟨_,_,rfl,rfl⟩⟩
      rw [IF,hy]
      exact cB (by rw [List.getElem?_append_right (Qy _)];simp)
     ·rintro σ' H' ⟨v4,v5,rfl,rfl⟩
      refine ⟨_,rfl,_,_,rfl,rfl,?_⟩
      have e1:(((nss.take i).flatten.length:Nat):Int)+1=((nss.take (i+1)).flatten.length:Nat):=by rw [ue,hy,Qk];simp
      dsimp only
      rw [e1]
      have hc:mi H4 cu[i] xs[i] nss[i] y:=.inl ⟨hw,hy⟩
      exact push (aa.refl _) hc g4 _ _
    ·have z_:cu[i]≠"maker":=by rcases hw with h | h<;>rw [h]<;>decide+kernel
     refine ⟨rfl,_,rfl,aj (fun c=>absurd c (by simp [z_])) (fun _=>?_)⟩
     refine ⟨(show 2<=sizeLine by decide),fun b1 d_=>⟨_,.inr (ae.of aA),rfl,rfl,_,rfl,?_⟩⟩
     have sb:=aa.upd d_ (.tup [.str "parts",.str "cases"])
     generalize upd H4 b1 (.tup [.str "parts",.str "cases"])=H5 at sb
     refine aj (fun _=>?_) (fun c=>absurd c ?_)
     rotate_left
     ·rcases hw with h | h<;>rw [h]<;>decide+kernel
     have s5:=s4.trans sb
     refine aZ (fun σ' H'=>∃ (v4:Option V) (b':Addr) (H6:Hp),σ'=[some (.ref a),some (.ref L),some (.ref M),some (.int ((nss.take i).flatten.length:Nat)),v4,some (.ref b)]/\aa H4 H6/\mi H6 cu[i] xs[i] nss[i] (.ref b')/\H6 M=some (.lst (.str ww::xs'))/\H'=upd H6 M (.lst (.str ww::xs'++[.ref b']))) ?_ ?_
     ·intro Iw oh
      rw [II]
      refine ⟨.inl ⟨rfl,_,ao.of (sb _ _ g4)⟩,((nss.take i).flatten.length:Nat),rfl,Or.inr (Or.inl ⟨L,_,rfl,ao.of (sb _ _ IG),fun S hS=>?_⟩)⟩
      rw [tR]
      have sS:=aa.upd hS (.lst (ns.drop (nss.take i).flatten.length))
      have gS:upd H5 S (.lst (ns.drop (nss.take i).flatten.length)) S=some (.lst (ns.drop (nss.take i).flatten.length)):=aA
      generalize upd H5 S (.lst (ns.drop (nss.take i).flatten.length))=H6 at sS gS
      have Nq:ns.drop (nss.take i).flatten.length=nss[i]++(nss.drop (i+1)).flatten:=by
       conv=>lhs;rw [IF]
       simp
      rw [Nq] at gS
      have s6:=s5.trans sS
      have IK:=s6 _ _ hb
      refine ⟨b,S,rows,_,rfl,ae.of IK,ao.of gS,fun D hD=>?_⟩
      have Qo:=rm.l1
      have Qv:=rm.l2
      have Dj:min rows.length (nss[i]++(nss.drop (i+1)).flatten).length=rows.length:=by rw [Qk];omega
      refine pX (oX rows (nss[i]++(nss.drop (i+1)).flatten)) (fun j τ H'=>∃ (v0 v1:Option V) (zs:List V),τ=[v0,v1]/\H' D=some (.lst zs)/\zs.length=j/\(∀ l (h1:l < zs.length) (h2:l < nss[i].length) (h3:l < ls.length),∃ c,zs[l]=.ref c/\H' c=some (.tup (ls[l]++[nss[i][l]])))/\aa H6 H') ⟨none,none,[],rfl,aA,rfl,fun l h=>absurd h (by simp),aa.upd hD _⟩ (by rintro j τ H' _ ⟨_,_,_,_,_,_,_,s'⟩;exact ⟨ae.of (s' _ _ IK),ao.of (s' _ _ gS)⟩) ?_ ?_
      ·rintro j τ H7 T0 hj ⟨v0,v1,zs,rfl,r1,r2,r3,r4⟩ Nr
       rw [Dj] at hj
       obtain ⟨c,c1,c2⟩:=rm.at_ j hj (by omega) (by omega)
       have er:rows.getD j .af=.ref c:=by rw [Qb,Qa hj,c1];rfl
       have en:(nss[i]++(nss.drop (i+1)).flatten).getD j .af=nss[i][j]'(by omega):=by rw [Qb,List.getElem?_append_left (by omega),Qa (by omega)];rfl
       rw [er,en]
       have sT:=aa.upd Nr (.tup [.ref c,nss[i][j]'(by omega)])
       have s7:=(s6.trans r4).trans sT
       have QB:=Iz _ (Qj (show j < ls.length by omega))
       have cc:e_ (ls[j]'(by omega)++[ms[j]'(by omega)]) none (some (-1))=ls[j]'(by omega):=by
        unfold e_
        simp only [HT.bg]
        rw [if_pos (by decide)]
        simp
        rw [show (-1+(((ls[j]'(by omega)).length:Int)+1)).toNat=(ls[j]'(by omega)).length by omega,List.take_left]
       refine ⟨1,rfl, -1,rfl,Or.inr (Or.inr ⟨c,_,rfl,ae.of (s7 _ _ c2),fun z=>?_,fun p1 ky=>?_⟩)⟩
       ·have:=z.2
        simp only [HT.bg] at this
        rw [if_pos (by decide)] at this
        simp at this
        omega
       rw [cc]
       have s8:=aa.upd ky (.tup (ls[j]'(by omega)))
       have g8:upd (upd H7 T0 (.tup [.ref c,nss[i][j]'(by omega)])) p1 (.tup (ls[j]'(by omega))) p1=some (.tup (ls[j]'(by omega))):=aA
       generalize upd (upd H7 T0 (.tup [.ref c,nss[i][j]'(by omega)])) p1 (.tup (ls[j]'(by omega)))=H8 at s8 g8
       refine ⟨(show 1<=sizeLine by decide),fun p2 jg=>?_⟩
       have s9:=aa.upd jg (.tup [nss[i][j]'(by omega)])
       refine Hi (s9 _ _ g8) aA (by simp;omega) fun c' H9 Nt Nu=>?_
       have E2:=((sT.trans s8).trans s9).trans Nt
       have gD:=E2 _ _ r1
       have tk:Tk H9 (upd H9 D (.lst (zs++[.ref c']))):=(Tk.refl).set gD fun _ z=>nomatch z
       refine ⟨zs,gD,by omega,_,_,zs++[.ref c'],rfl,aA,by simp [r2],fun l h1 h2 h3=>?_,(r4.trans E2).put hD⟩
       by_cases b_:l < zs.length
       ·rw [Qe b_]
        obtain ⟨d,d1,d2⟩:=r3 l b_ h2 h3
        exact ⟨d,d1,tk _ _ (E2.ts _ _ d2)⟩
       ·obtain rfl:l=j:=by simp at h1;omega
        rw [Qf (by omega)]
        refine ⟨c',by simp [r2],tk _ _ Nu⟩
      ·rintro τ H7 z0;refine hdn fun Gz9 zG9=>?_;obtain ⟨v0,v1,zs,rfl,r1,r2,r3,r4⟩:=z0;refine zG9 ?_
       rw [Dj] at r2
       refine ⟨D,zs,rfl,.inl ⟨ao.of r1,fun b' Nv=>?_⟩⟩
       have s8:=aa.upd Nv (.tup zs)
       have Dk:=((sb.trans sS).trans r4).trans s8
       have IL:=Dk _ _ g4
       refine ⟨M,_,.ref b',rfl,rfl,IL,by simp;omega,oh _ _ ⟨_,b',_,rfl,Dk,.inr (.inl ⟨hw,b,rows,ls,ms,b',zs,II,(s4.trans Dk) _ _ hb,rm.tk (s4.trans Dk).ts,rfl,aA,⟨by omega,by omega,fun l h1 h2 h3=>?_⟩⟩),IL,rfl⟩⟩
       obtain ⟨d,d1,d2⟩:=r3 l h1 h2 h3
       exact ⟨d,d1,s8 _ _ d2⟩
     ·rintro σ' H' ⟨v4,b',H6,rfl,IM,hc,g6,rfl⟩
      have tk:Tk H6 (upd H6 M (.lst (.str ww::xs'++[.ref b']))):=(Tk.refl).set g6 fun _ z=>nomatch z
      refine ⟨_,rfl,Or.inl ⟨rows,.inr (ae.of (tk _ _ ((s4.trans IM) _ _ hb))),_,_,rfl,rfl,?_⟩⟩
      have e1:(((nss.take i).flatten.length:Nat):Int)+(rows.length:Nat)=((nss.take (i+1)).flatten.length:Nat):=by rw [ue,Qk,Hu];simp
      dsimp only
      rw [e1]
      exact push IM hc g6 _ _
    ·have z_:cu[i]≠"maker":=by rcases hw with h | h<;>rw [h]<;>decide+kernel
     refine ⟨rfl,_,rfl,aj (fun c=>absurd c (by simp [z_])) (fun _=>?_)⟩
     refine ⟨(show 2<=sizeLine by decide),fun b1 d_=>⟨_,.inr (ae.of aA),rfl,rfl,_,rfl,?_⟩⟩
     have sb:=aa.upd d_ (.tup [.str "parts",.str "cases"])
     generalize upd H4 b1 (.tup [.str "parts",.str "cases"])=H5 at sb
     refine aj (fun c=>absurd c ?_) (fun _=>?_)
     ·rcases hw with h | h<;>rw [h]<;>decide+kernel
     have g5:=sb _ _ g4
     have e1:((nss.take i).flatten.length:Nat)=(nss.take (i+1)).flatten.length:=by rw [ue,IJ];simp
     refine ⟨.inl ⟨rfl,_,ao.of g5⟩,M,_,xs[i],rfl,rfl,g5,by simp;omega,?_⟩
     rw [e1]
     have hc:mi H5 cu[i] xs[i] nss[i] xs[i]:=.inr (.inr ⟨hw,IJ,rfl⟩)
     exact push sb hc g5 _ _
   ·rintro σ' H3 z0;refine hdn fun Gz9 zG9=>?_;obtain ⟨v4,v5,xs',rfl,g1,xy,ho,s3,zy⟩:=z0;refine zG9 ?_
    refine bx _ _ ⟨_,_,_,xs',rfl,g1,?_,ho,s3⟩
    rw [xy,Ql];omega
  ·rintro σ' H3 z0;refine hdn fun Gz9 zG9=>?_;obtain ⟨v3,v4,v5,xs',rfl,g1,xy,ho,s3⟩:=z0;refine zG9 ?_
   refine ⟨M,_,rfl,.inl ⟨ao.of g1,fun c hc=>?_⟩⟩
   have sc:=aa.upd hc (.tup (.str ww::xs'))
   exact k _ _ (s3.trans sc) (mo.fin _ _ c xs' rfl aA xy (fun j h h1 h2 h3=>(ho j h h1 h2 h3).tk sc.ts) (s3.trans sc).ts)
def E3 (d:Nat):Sp:=fun vs H Q _=>∃ (v:V) (m:Mr),vs=[v]/\aq H d v m/\az m<=1000000/\∀ H',aa H H'->Q (.bl (dj m)) H'
theorem iQ (T:Txt K mg w) (d:Nat):bf P w K mg base 2 "is_value" ["maker"] (E3 d):=by
 have bE:bf P w K mg base 1 "makers_in" ["maker"] mh:=bS T
 refine T.pJ.di f8 (fun vs H Q E h=>?_) (fun f ay A outer s H vs Q E hr h=>?_)
 ·obtain ⟨v,m,rfl,_⟩:=h
  rfl
 ·obtain ⟨v,m,rfl,hm,hc,k⟩:=h
  have hu:=bF hr
  have br:=Qx (bF hr)
  have hsz:sizeLine=16777216:=QL
  refine ⟨_,(aE (aV (i:=1) f8.nd rfl (Or.inl rfl) (dB (aD (zv 0) aC)))
   (aE (gP PassesOwn.never (qI K (zv 1)) (aE (aV (i:=2) f8.nd rfl (Or.inl rfl) (xI K QH PySem.F.slot_list_pop PySem.F.type_list_pop u7 (zv 1)))
   (aE (bI (aL (rV K) (aO (aQ K) (zv 2) aF (fun _ _=>rfl)) (aN (aB aJ (aB aJ (aB aJ aC)))) rfl) (aH (aT y7)) aS)
   (aH (bI (aL (p8 br) (aO (aQ K) (zv 2) aF (fun _ _=>rfl)) aJ (bq _)) (aH (eC (oW K QH PySem.F.slot_list_extend PySem.F.type_list_extend i7 (zv 1) (bY (bH bE (hr.mono (by decide)) (aD (zv 2) aC)) aC)))) aS)))))
   (aH (aT y7)))),?_⟩
  refine aK ⟨(show 1<=sizeLine by decide),fun W hW=>?_⟩
  have s1:=aa.upd hW (.lst [v])
  have gW:upd H W (.lst [v]) W=some (.lst [v]):=aA
  dsimp only
  generalize upd H W (.lst [v])=H1 at s1 gW
  have kf:∀ b,dj m=b->∀ H',aa H H'->Q (.bl b) H':=fun b e H' s'=>by have:=k H' s';rw [e] at this;exact this
  refine aZ (fun σ' H'=>aa H H'/\dj m=true) ?_ (by rintro σ' H' ⟨s,e⟩;exact kf true e H' s)
  intro nx bx
  refine ⟨fun n σ' H'=>∃ (ws:List V) (ms:List Mr) (v2:Option V),σ'=[some v,some (.ref W),v2]/\n=bj ms/\H' W=some (.lst ws)/\jk H' d ws ms/\bj ms<=1000000/\dj m=iz ms/\aa H H',⟨_,[v],[m],none,rfl,rfl,gW,jk.one (hm.tk s1.ts),by rw [bj,bj];omega,by simp [iz],s1⟩,?_⟩
  rintro n σ' H3 ⟨ws,ms,v2,rfl,rfl,g3,hl,Nx,hv,s3⟩
  refine ⟨!ws.isEmpty,.inl ⟨ws,ao.of g3,rfl⟩,aj (fun c=>?_) (fun c=>?_)⟩
  rotate_left
  ·have:ws=[]:=by simpa using c
   subst this
   have:ms=[]:=List.length_eq_zero_iff.mp hl.len.symm
   subst this
   exact bx _ _ ⟨s3,by rw [hv,iz]⟩
  obtain ⟨gy,qh,y,m1,rfl,rfl,hl',hy⟩:=hl.last (by intro z;rw [z] at c;cases c)
  refine ⟨fun σ' H'=>∃ n',n' < bj (qh++[m1])/\∃ (ws:List V) (ms:List Mr) (v2:Option V),σ'=[some v,some (.ref W),v2]/\n'=bj ms/\H' W=some (.lst ws)/\jk H' d ws ms/\bj ms<=1000000/\dj m=iz ms/\aa H H',fun σ' H' h=>h,?_⟩
  have AX:Tk H3 (upd H3 W (.lst gy)):=(Tk.refl).set g3 (by intro _ z;cases z)
  refine aK ⟨.inl ⟨rfl,_,ao.of g3⟩,W,_,y,rfl,rfl,g3,by simp,?_⟩
  rw [List.dropLast_concat]
  have g4:upd H3 W (.lst gy) W=some (.lst gy):=aA
  have s4:=s3.put (o:=.lst gy) hW
  have E4:=hl'.tk AX
  have BR:=hy.tk AX
  dsimp only
  generalize upd H3 W (.lst gy)=H4 at g4 s4 E4 BR
  obtain ⟨ks,sh,ok,hks⟩:=BR.kids
  obtain ⟨a,ys,rfl,ea⟩:=sh.ref
  have E5:az m1=1+bj m1.ks:=by cases m1;rw [az];rfl
  have Ny:bj (qh++[m1])=bj qh+(1+bj m1.ks):=by rw [d6,bj,bj,E5];rfl
  rw [Ny] at Nx ⊢
  rw [kZ] at hv
  have ev:iz [m1]=(match m1.f with | .fn _ _=>true | .ck _=>iz m1.ks | .pick _=>iz m1.ks | _=>false):=by obtain ⟨f,ks⟩:=m1;cases f<;>simp [iz,dj,Mr.f,Mr.ks]
  rw [ev] at hv
  refine ⟨_,.str m1.f.ak,.inr (ae.of ea),aR _ _,(show 3<=sizeLine by decide),fun b1 d_=>⟨_,.inr (ae.of aA),rfl,rfl,_,rfl,?_⟩⟩
  have s5:=aa.upd d_ (.tup [.str "fn",.str "box",.str "pick"])
  generalize upd H4 b1 (.tup [.str "fn",.str "box",.str "pick"])=H5 at s5
  have g5:=s5 _ _ g4
  have e1:=au.Mm m1.f
  have e2:=au.Hv m1.f
  refine aj (fun c1=>kf false ?_ _ (s4.trans s5)) (fun c1=>aX ?_)
  ·rw [e1] at c1
   rw [hv]
   cases hf:m1.f<;>rw [hf] at c1<;>first | (cases c1;done) | rw [Bool.and_false]
  rw [e1] at c1
  refine ⟨_,.str m1.f.ak,.inr (ae.of (s5 _ _ ea)),aR _ _,⟨rfl,_,rfl,?_⟩⟩
  refine aj (fun c2=>?_) (fun c2=>?_)
  ·rw [e2] at c2
   refine ⟨.inl ⟨rfl,_,ao.of g5⟩,.ref a,ks,rfl,(sh.qf ok).tk s5.ts,fun L H6 hL gL s6=>?_⟩
   have fb:=hks.len
   have iy:=dU m1.ks
   have QF:=dU qh
   have QG:=hl'.len
   have g6:=s6 _ _ g5
   have Nz:Tk H6 (upd H6 W (.lst (gy++ks))):=(Tk.refl).set g6 (by intro _ z;cases z)
   refine ⟨W,L,_,_,rfl,rfl,g6,gL,by omega,?_⟩
   refine ⟨_,?_,_,qh++m1.ks,_,rfl,rfl,aA,(E4.app hks).tk ((s5.trans s6).ts.trans Nz),by rw [d6];omega,?_,((s4.trans s5).trans s6).put hW⟩
   ·rw [d6];omega
   ·rw [hv,kZ]
    congr 1
    cases hf:m1.f<;>rw [hf] at c1 c2<;>first | (cases c1;done) | (cases c2;done) | rfl
  ·rw [e2] at c2
   refine ⟨_,?_,_,qh,_,rfl,rfl,g5,E4.tk s5.ts,by omega,?_,s4.trans s5⟩
   ·omega
   ·rw [hv]
    cases hf:m1.f<;>rw [hf] at c1 c2<;>first | (cases c1;done) | (cases c2;done) | rw [Bool.and_true]
theorem tN {K:QZ} {k:Nat} {T:Addr} {v1 v2 v3:V} {Q:St->Hp->Prop} (h:ae K H T [v1,v2,v3]) (q:Q (((σ.set i (some v1)).set j (some v2)).set k (some v3)) H):Be K 3 (ym (ia i) (ym (ia j) (ym (ia k) Ce))) (.ref T) σ H Q:=
 ⟨T,_,rfl,h,rfl,_,_,rfl,_,_,rfl,_,_,rfl,rfl,q⟩
def AZ:Option Nat->V
 | none=>.af
 | some k=>.int (k:Int)
def IP (d:Nat):Sp:=fun vs H Q _=>∃ (v:V) (m:Mr),vs=[v]/\aq H d v m/\az m<=1000000/\∀ H',aa H H'->Q (AZ (jj m)) H'
theorem NB {G:Prop} (X C:α->Hp->Prop) (h2:(∀ a H,C a H->X a H)->G) (h1:∀ a H,C a H->X a H):G:=h2 h1
theorem i6:∀ {l:List Mr} {m:Mr},m∈l->az m<=bj l
 | a::l,m,h=>by
  rw [bj]
  rcases Qp.mp h with rfl | h
  ·omega
  ·have:=i6 h;omega
theorem kJ (T:Txt K mg w) (d:Nat):bf P w K mg base 3 "first_to_do" ["maker"] (IP d):=by
 have bE:bf P w K mg base 1 "makers_in" ["maker"] mh:=bS T
 have gH:bf P w K mg base 2 "is_value" ["maker"] (E3 d):=iQ T d
 refine T.kO.di cN (fun vs H Q E h=>?_) (fun f ay A outer s H vs Q E hr h=>?_)
 ·obtain ⟨v,m,rfl,_⟩:=h
  rfl
 ·obtain ⟨v,m,rfl,hm,hc,k⟩:=h
  have hu:=bF hr
  have br:=Qx (bF hr)
  have hsz:sizeLine=16777216:=QL
  refine ⟨_,(aE (aV (i:=1) cN.nd rfl (Or.inl rfl) (bH bE (hr.mono (by decide)) (aD (zv 0) aC)))
   (aE (fY PassesOwn.never rfl (tD K (by rfl) T.nS (tI (mO (aL (bA br) (aO (aQ K) (zv 0) aF (fun _ _=>rfl)) aJ (bq _)) (cC (iZ K) (zv 1) cD (cE aF)) (zv 1)) aC)) (dQ K (n:=2) rfl (bC (aU (i:=2) cN.nd rfl (Or.inl rfl)) (bC (aU (i:=3) cN.nd rfl (Or.inl rfl)) cR))) (aH (bI (tO (k8 (bH gH (hr.mono (by decide)) (aD (zv 3) aC)))) (aH (aT (zv 2))) aS)))
   (aH (aT cZ)))),?_⟩
  obtain ⟨ks,sh,ok,hks⟩:=hm.kids
  obtain ⟨a,ys,rfl,ea⟩:=sh.ref
  refine aK ⟨.ref a,ks,rfl,sh.qf ok,fun L H1 hL gL s1=>?_⟩
  dsimp only
  refine NB (α:=Addr) ?X (fun B H2=>∃ us,H2 B=some (.lst us)/\jk H2 d us (gj m.f m.ks)/\aa H H2) (fun loop=>?h2) ?h1
  case h2=>
   refine ⟨_,.str m.f.ak,.inr (ae.of (s1 _ _ ea)),aR _ _,⟨rfl,_,rfl,?_⟩⟩
   have e1:decide (V.str m.f.ak=V.str "split")=(match m.f with | .split _=>true | _=>false):=by
    cases m.f<;>first | exact decide_eq_true rfl | exact Qw (fun z=>absurd (V.str.inj z) (by simp only [au.ak];decide+kernel))
   refine aj (fun c=>?_) (fun c=>?_)
   ·rw [e1] at c
    refine ⟨1,rfl,Or.inr (Or.inl ⟨L,ks,rfl,ao.of gL,fun S hS=>?_⟩)⟩
    have s2:=aa.upd hS (.lst (e_ ks none (some 1)))
    have g2:upd H1 S (.lst (e_ ks none (some 1))) S=some (.lst (e_ ks none (some 1))):=aA
    generalize upd H1 S (.lst (e_ ks none (some 1)))=H2 at s2 g2
    refine loop S H2 ⟨_,g2,?_,s1.trans s2⟩
    have et:gj m.f m.ks=m.ks.take 1:=by
     unfold gj
     cases hf:m.f<;>rw [hf] at c<;>first | (cases c;done) | rfl
    have ec:e_ ks none (some 1)=ks.take 1:=by
     cases ks with
     | nil=>rfl
     | cons x l=>simp [e_,HT.bg]
    rw [et,ec]
    have hl:=hks.len
    exact ⟨by simp [hl],fun i a b=>by
     rw [List.getElem_take,List.getElem_take]
     exact (hks.at_ i (by simp at a;omega) (by simp at b;omega)).tk (s1.trans s2).ts⟩
   ·rw [e1] at c
    refine loop L H1 ⟨_,gL,?_,s1⟩
    have et:gj m.f m.ks=m.ks:=by
     unfold gj
     cases hf:m.f<;>rw [hf] at c<;>first | (cases c;done) | rfl
    rw [et]
    exact hks.tk s1.ts
  case h1=>
   rintro B H2 ⟨us,gB,yy,s2⟩
   have hl:=yy.len
   have IQ:∀ i (h:i < (gj m.f m.ks).length),az (gj m.f m.ks)[i]<=1000000:=fun i h=>by
    have NC:∀ x∈gj m.f m.ks,x∈m.ks:=fun x hx=>by
     unfold gj at hx
     split at hx
     ·exact List.mem_of_mem_take hx
     ·exact hx
    have h1:=NC _ (Qj h)
    have:=i6 h1
    have:az m=1+bj m.ks:=by cases m;rw [az];rfl
    omega
   unfold jj at k
   generalize gj m.f m.ks=ms at k yy hl IQ
   refine ⟨B,us,rfl,ao.of gB,jR (uA us) (fun i σ' H'=>∃ (v2 v3:Option V),σ'=[some (.ref a),some (.ref L),v2,v3]/\(∀ j (h:j < i) (h':j < ms.length),dj ms[j]=true)/\aa H2 H') ⟨none,none,rfl,fun j h=>absurd h (by omega),aa.refl _⟩ (by rintro i τ H' _ ⟨_,_,_,_,s'⟩;exact ao.of (s' _ _ gB)) ?_ ?_⟩
   ·rintro i σ' H3 tt hi ⟨v2,v3,rfl,hv,s3⟩ vq
    have ex:us.getD i .af=us[i]:=by rw [Qb,Qa hi];rfl
    rw [ex]
    have s4:=aa.upd vq (.tup [.int i,us[i]])
    generalize upd H3 tt (.tup [.int i,us[i]])=H4 at s4
    have E6:=s3.trans s4
    refine ⟨us[i],ms[i]'(by omega),rfl,(yy.at_ i hi (by omega)).tk E6.ts,IQ i (by omega),fun H5 s5=>⟨_,rfl,?_⟩⟩
    refine D8 (fun c=>?_) (fun c=>?_)
    ·refine ⟨_,_,rfl,fun j h h'=>?_,E6.trans s5⟩
     by_cases hj:j < i
     ·exact hv j hj h'
     ·obtain rfl:j=i:=by omega
      exact c
    ·have:=k H5 ((s2.trans E6).trans s5)
     rw [List.findIdx?_eq_some_iff_getElem.mpr ⟨show i < ms.length by omega,by simp [c],fun j hj=>by simp [hv j hj (by omega)]⟩] at this
     exact this
   ·rintro σ' H3 ⟨v2,v3,rfl,hv,s3⟩
    have:=k H3 (s2.trans s3)
    rw [List.findIdx?_eq_none_iff.mpr (fun x hx=>by
     obtain ⟨j,hj,rfl⟩:=Qi hx
     simp [hv j (by omega) hj])] at this
    exact this
def IR:Sp:=fun vs H Q _=>∃ (v:V) (f:au) (ks:List V),vs=[v]/\dh H v f ks/\f.ok/\∀ L H',H' L=some (.lst ((List.range f.ar).map fun i=>match f.bnd i with | none=>.af | some z=>.str z))->aa H H'->Q (.ref L) H'
theorem kB (T:Txt K mg w):bf P w K mg base 2 "names_bound" ["maker"] IR:=by
 have bE:bf P w K mg base 1 "makers_in" ["maker"] mh:=bS T
 refine T.kP.di kN (fun vs H Q E h=>?_) (fun f ay A outer s H vs Q E hr h=>?_)
 ·obtain ⟨v,f,ks,rfl,_⟩:=h
  rfl
 ·obtain ⟨v,f,ks,rfl,sh,ok,k⟩:=h
  have hu:=bF hr
  have br:=Qx (bF hr)
  have hsz:sizeLine=16777216:=QL
  refine ⟨_,(aE (bI (aL (bA br) (aO (aQ K) (zv 0) aF (fun _ _=>rfl)) aJ (bq _)) (aH (aT (dB (aI (aO (aQ K) (zv 0) aF (fun _ _=>rfl)) aC)))) aS)
   (aE (bI (aL (bA br) (aO (aQ K) (zv 0) aF (fun _ _=>rfl)) aJ (bq _)) (aH (aT (bK bJ (dB (aB cZ aC)) (lV (own:=["word","v","inner"]) (idx:=[]) (N':=["word","v","inner"]) (eK (bh cS) (["maker"]:List Str) (by decide+kernel)) rfl (rN K (aO (aQ K) (zv 0) aF (fun _ _=>rfl))) (fun _ _ _ _ _ _=>(dQ K (n:=3) rfl (bC (aU (i:=0) (show List.Nodup (["word","v","inner"]:List Str) by decide+kernel) rfl (Or.inl rfl)) (bC (aU (i:=1) (show List.Nodup (["word","v","inner"]:List Str) by decide+kernel) rfl (Or.inl rfl)) (bC (aU (i:=2) (show List.Nodup (["word","v","inner"]:List Str) by decide+kernel) rfl (Or.inl rfl)) cR))))) (fun _ _ _ _ _ _=>eI) (fun _ _ _ _ _ _=>(zv 1)))))) aS)
   (aH (aT (bK yM (dB (aB cZ aC)) (bV (cI K) (by rfl) T.ya PySem.boot_len (bY (bH bE (hr.mono (by decide)) (aD (zv 0) aC)) aC))))))),?_⟩
  obtain ⟨a,ys,rfl,ea⟩:=sh.ref
  by_cases hb:(∀ i,f.bnd i=none)/\f.ak≠"fn"/\f.ak≠"split"
  ·obtain ⟨b1,b2,b3⟩:=hb
   refine ⟨_,.str f.ak,.inr (ae.of ea),aR _ _,⟨rfl,_,rfl,?_⟩⟩
   refine aj (fun c=>absurd (V.str.inj (Qt ((QE _).symm.trans c))) b2) (fun _=>aG ?_)
   refine ⟨_,.str f.ak,.inr (ae.of ea),aR _ _,⟨rfl,_,rfl,?_⟩⟩
   refine aj (fun c=>absurd (V.str.inj (Qt ((QE _).symm.trans c))) b3) (fun _=>aX ?_)
   refine ⟨(show 1<=sizeLine by decide),fun L1 BN=>?_⟩
   have s9:=aa.upd BN (.lst [.af])
   have q_:upd H L1 (.lst [.af]) L1=some (.lst [.af]):=aA
   generalize upd H L1 (.lst [.af])=H9 at s9 q_
   refine ⟨_,ks,rfl,(sh.qf ok).tk s9.ts,fun L2 H2 QJ E7 s2=>?_⟩
   have hl:=sh.len
   have ND:ks.length<=1001:=by
    rw [hl]
    cases f<;>simp only [au.ar]<;>(try omega)
    ·exact Nat.le_trans ok.2.2 (by decide)
    ·exact Nat.succ_le_succ ok.2.2
   refine Or.inl ⟨_,.inl (ao.of E7),_,_,_,rfl,rfl,s2 _ _ q_,by omega,by omega,by simp;omega,fun p hp=>k p _ ?_ ((s9.trans s2).trans (aa.upd hp _))⟩
   rw [aA]
   congr 2
   refine List.ext_getElem (by simp [hl]) fun i h1 h2=>?_
   simp only [Qr,List.getElem_range,b1]
   have:=Qj h1
   simp only [List.mem_flatten,List.mem_replicate] at this
   obtain ⟨l,⟨_,rfl⟩,h3⟩:=this
   exact List.mem_singleton.mp h3
  cases sh with
  | @fn a v r m e=>
   refine ⟨_,.str "fn",.inr (ae.of e),aR _ _,⟨rfl,_,rfl,?_⟩⟩
   refine aj (fun _=>?_) (fun c=>absurd c (by decide+kernel))
   exact ⟨_,.str v,.inr (ae.of e),rfl,(show 1<=sizeLine by decide),fun L hL=>k L _ aA (aa.upd hL _)⟩
  | @split a b cs m xs ms e e2 rm=>
   refine ⟨_,.str "split",.inr (ae.of e),aR _ _,⟨rfl,_,rfl,?_⟩⟩
   refine aj (fun c=>absurd c (by decide+kernel)) (fun _=>aG ?_)
   refine ⟨_,.str "split",.inr (ae.of e),aR _ _,⟨rfl,_,rfl,?_⟩⟩
   refine aj (fun _=>?_) (fun c=>absurd c (by decide+kernel))
   refine ⟨(show 1<=sizeLine by decide),fun L1 BN=>?_⟩
   have s9:=aa.upd BN (.lst [.af])
   have q_:upd H L1 (.lst [.af]) L1=some (.lst [.af]):=aA
   generalize upd H L1 (.lst [.af])=H9 at s9 q_
   refine ⟨_,.ref b,.inr (ae.of (s9 _ _ e)),rfl,Or.inr ⟨⟨xs,ae.of (s9 _ _ e2)⟩,fun D hD=>?_⟩⟩
   have i_:=rm.l1
   have g_:=rm.l2
   have iy:(fu cs).length=cs.length:=by simp [fu]
   have iu:cs.length<=1000:=ok.2.2
   refine iR (dF xs) (fun i τ H3=>H3 D=some (.lst ((cs.take i).map fun c=>.str c.2))/\aa H9 H3/\∃ v0 v1 v2,τ=[v0,v1,v2]) ⟨aA,aa.upd hD _,none,none,none,rfl⟩ (fun i τ H3 _ h=>ae.of (h.2.1 _ _ (s9 _ _ e2))) ?_ ?_
   ·rintro i τ H3 hi ⟨q1,q2,v0,v1,v2,rfl⟩
    obtain ⟨c,r1,r2⟩:=rm.at_ i hi (by omega) (by omega)
    have eg:xs.getD i .af=.ref c:=by rw [Qb,Qa hi,r1];rfl
    rw [eg]
    simp only [fu,Qr] at r2
    refine tN (ae.of (q2 _ _ (s9 _ _ r2))) ?_
    refine ⟨_,q1,by simp;omega,?_,q2.put hD,_,_,_,rfl⟩
    rw [aA,Qs,Qa (show i < cs.length by omega),Qm];rfl
   ·rintro τ H3 ⟨q1,q2,v0,v1,v2,rfl⟩
    rw [List.take_of_length_le (by omega)] at q1
    refine ⟨_,_,q2 _ _ q_,q1,by simp;omega,fun L hL=>k L _ ?_ ((s9.trans q2).trans (aa.upd hL _))⟩
    rw [aA]
    congr 2
    simp only [au.ar]
    rw [List.range_succ_eq_map,List.map_cons,List.map_map,List.singleton_append]
    congr 1
    refine List.ext_getElem (by simp) fun i h1 h2=>?_
    have hi:i < cs.length:=by simpa using h1
    simp [au.bnd,Qa hi]
  | _=>exact absurd ⟨fun i=>by cases i<;>rfl,by simp only [au.ak];decide+kernel,by simp only [au.ak];decide+kernel⟩ hb
def A0 (d e:Nat):Sp:=fun vs H Q _=>∃ (x y:V) (v:Str) (m xm:Mr),vs=[x,.str v,y]/\aq H d x m/\aq H e y xm/\∀ r H',aa H H'->aq H' (d+e) r (ik v xm m)->Q r H'
theorem rF (T:Txt K mg w) (e:Nat):∀ d:Nat,bf P w K mg base (3+d) "put_in" ["maker","v","value"] (A0 d e):=by
 intro n
 induction n with
 | zero=>
  refine T.mX.di (k:=2) fN (fun vs H Q E h=>?_) (fun f ay A outer s H vs Q E hr h=>?_)
  ·obtain ⟨x,y,v,m,xm,rfl,_⟩:=h
   rfl
  ·refine hdn fun Gz9 zG9=>?_;obtain ⟨x,y,v,m,xm,rfl,h,_⟩:=h;refine zG9 ?_
   cases h
 | succ n ih=>
  have gQ:bf P w K mg base (3+n) "put_in" ["maker","v","value"] (A0 n e):=ih
  have bE:bf P w K mg base 1 "makers_in" ["maker"] mh:=bS T
  have kS:bf P w K mg base 2 "names_bound" ["maker"] IR:=kB T
  have dJ:bf P w K mg base 1 "with_makers" ["maker","inner"] E1:=eU T
  refine T.mX.di (k:=3+n) fN (fun vs H Q E h=>?_) (fun f ay A outer s H vs Q E hr h=>?_)
  ·obtain ⟨x,y,v,m,xm,rfl,_⟩:=h
   rfl
  ·refine hdn fun Gz9 zG9=>?_;obtain ⟨x,y,v,m,xm,rfl,hm,hx,k⟩:=h;refine zG9 ?_
   have hu:=bF hr
   have br:=Qx (bF hr)
   have hsz:sizeLine=16777216:=QL
   refine ⟨_,(aE (bI (aL (bA br) (aO (aQ K) (zv 0) aF (fun _ _=>rfl)) aJ (bq _)) (aH (aT (mO (aL (bA br) (aO (aQ K) (zv 0) aF (fun _ _=>rfl)) (zv 1) (bq _)) (zv 2) (zv 0)))) aS)
   (aE (aV (i:=3) fN.nd rfl (Or.inl rfl) (bH kS (hr.mono (by omega)) (aD (zv 0) aC)))
   (aE (Lv (i:=4) (own:=["one","name"]) (idx:=[1,2]) (N':=["one","name","v","value"]) (eK (bh hX) (["maker","v","value","bound","inner"]:List Str) (by decide+kernel)) rfl (vZ K (by rfl) T.Df (bY (bH bE (hr.mono (by omega)) (aD (zv 0) aC)) (aD (zv 3) aC))) (fun _ _ _ _ _ _=>(dQ K (n:=2) rfl (bC (aU (i:=0) (show List.Nodup (["one","name","v","value"]:List Str) by decide+kernel) rfl (Or.inl rfl)) (bC (aU (i:=1) (show List.Nodup (["one","name","v","value"]:List Str) by decide+kernel) rfl (Or.inl rfl)) cR)))) (fun _ _ _ _ _ _=>eI) (fun _ _ _ _ _ _=>(mO (aL (bA br) (zv 1) (zv 2) (bq _)) (zv 0) (bH gQ (hr.mono (by omega)) (aD (zv 0) (aD (zv 2) (aD (zv 3) aC)))))) fN.nd rfl rfl)
   (aH (aT (bH dJ (hr.mono (by omega)) (aD (zv 0) (aD (zv 4) aC)))))))),?_⟩
   obtain ⟨n',ks,en,sh,ok,ef,hks⟩:=hm.out
   obtain rfl:n'=n:=by omega
   obtain ⟨f,ms⟩:=m
   dsimp only [Mr.f,Mr.ks] at sh ok ef hks
   obtain ⟨a,ys,rfl,ea⟩:=sh.ref
   have hl:=sh.len
   refine ⟨_,.str f.ak,.inr (ae.of ea),aR _ _,⟨rfl,_,rfl,?_⟩⟩
   refine aj (fun c=>?_) (fun c=>aG ?_)
   ·rw [QE] at c
    cases sh with
    | @get a z e=>
     refine ⟨_,.str z,.inr (ae.of e),rfl,⟨rfl,_,rfl,?_⟩⟩
     rw [QE]
     refine aj (fun c=>?_) (fun c=>?_)
     ·obtain rfl:=V.str.inj (Qt c)
      exact k _ _ (aa.refl _) (by rw [ik,if_pos rfl];exact hx.up (by omega))
     ·have kj:=Qu c
      refine k _ _ (aa.refl _) ?_
      rw [ik,if_neg (fun z=>kj (by cases z;rfl))]
      obtain rfl:ms=[]:=List.length_eq_zero_iff.mp ef.symm
      rw [fm]
      exact hm.up (by omega)
    | _=>exact absurd (V.str.inj (Qt c)) (by simp only [au.ak];decide+kernel)
   have E8:f≠.get v:=fun z=>by subst z;simp only [au.ak] at c;exact absurd c (by simp)
   refine aK ⟨.ref a,f,ks,rfl,sh,ok,fun B H1 gB s1=>?_⟩
   refine aK ?_
   refine ⟨.ref a,ks,rfl,(sh.qf ok).tk s1.ts,fun L H2 hL gL s2=>?_⟩
   have E9:=s2 _ _ gB
   generalize IS:((List.range f.ar).map fun i=>match f.bnd i with | none=>V.af | some z=>V.str z)=bs at gB E9
   have QK:bs.length=f.ar:=by rw [<- IS];simp
   refine ⟨L,B,_,_,rfl,ao.of gL,ao.of E9,fun D hD=>?_⟩
   have s12:=s1.trans s2
   have ND:ks.length<=1001:=by
    rw [hl]
    exact au.few ok
   have hpl:=jI v xm f ms 0
   have Dj:min ks.length bs.length=ks.length:=by omega
   refine pX (vK ks bs) (fun i τ H'=>∃ (v0 v1:Option V) (zs:List V),τ=[v0,v1,some (.str v),some y]/\H' D=some (.lst zs)/\zs.length=i/\(∀ j (h1:j < zs.length) (h2:j < (fm v xm f 0 ms).length),aq H' (n'+e) zs[j] (fm v xm f 0 ms)[j])/\aa H2 H') ⟨none,none,[],rfl,aA,rfl,fun l h=>absurd h (by simp),aa.upd hD _⟩ (by rintro j τ H' _ ⟨_,_,_,_,_,_,_,s'⟩;exact ⟨ao.of (s' _ _ gL),ao.of (s' _ _ E9)⟩) ?_ ?_
   ·rintro i τ H3 tt hi ⟨v0,v1,zs,rfl,q1,q2,q3,s3⟩ vq
    have gx:i < ms.length:=by omega
    have ex:ks.getD i .af=ks[i]:=by rw [Qb,Qa (by omega)];rfl
    have eb:bs.getD i .af=(match f.bnd i with | none=>V.af | some z=>V.str z):=by
     rw [<- IS,Qb,Qq,List.getElem?_range (by omega)];rfl
    rw [ex,eb]
    have ep:=jX v xm f ms 0 i (by omega) gx
    rw [Nat.zero_add] at ep
    have ed:(As (match f.bnd i with | none=>V.af | some z=>V.str z) (.str v)=true)/\decide ((match f.bnd i with | none=>V.af | some z=>V.str z)=V.str v)=decide (f.bnd i=some v):=by
     cases f.bnd i with
     | none=>exact ⟨rfl,rfl⟩
     | some z=>exact ⟨rfl,by simp⟩
    have IT:(match f.bnd i with | none=>V.af | some z=>V.str z)=.af\/∃ z,(match f.bnd i with | none=>V.af | some z=>V.str z)=.str z:=by
     cases f.bnd i with
     | none=>exact .inl rfl
     | some z=>exact .inr ⟨z,rfl⟩
    generalize (match f.bnd i with | none=>V.af | some z=>V.str z)=bi at ed IT
    have s4:=aa.upd vq (.tup [ks[i]'(by omega),bi])
    generalize upd H3 tt (.tup [ks[i]'(by omega),bi])=H4 at s4
    have A1:=s4 _ _ q1
    have push:∀ {r:V} {H5:Hp},aa H4 H5->aq H5 (n'+e) r (fm v xm f 0 ms)[i]->∃ xs,H5 D=some (.lst xs)/\xs.length < sizeLine/\∃ (NE NF:Option V) (zs:List V),[some ks[i],some bi,some (V.str v),some y]=[NE,NF,some (.str v),some y]/\upd H5 D (.lst (xs++[r])) D=some (.lst zs)/\zs.length=i+1/\(∀ j (h1:j < zs.length) (h2:j < (fm v xm f 0 ms).length),aq (upd H5 D (.lst (xs++[r]))) (n'+e) zs[j] (fm v xm f 0 ms)[j])/\aa H2 (upd H5 D (.lst (xs++[r]))):=fun {r H5} s5 hr=>by
     have g5:=s5 _ _ A1
     have tk:Tk H5 (upd H5 D (.lst (zs++[r]))):=(Tk.refl).set g5 fun _ z=>nomatch z
     refine ⟨zs,g5,by omega,_,_,zs++[r],rfl,aA,by simp [q2],fun j h1 h2=>?_,((s3.trans s4).trans s5).put hD⟩
     by_cases hj:j < zs.length
     ·rw [Qe hj]
      exact (q3 j hj h2).tk ((s4.trans s5).ts.trans tk)
     ·obtain rfl:j=i:=by simp at h1;omega
      rw [Qf (by omega)]
      simp only [q2,Nat.sub_self,List.getElem_cons_zero]
      exact hr.tk tk
    rcases IT with rfl | ⟨z,rfl⟩<;>refine ⟨ed.1,_,rfl,?_⟩<;>rw [QE,ed.2]
    all_goals
     refine aj (fun c=>?_) (fun c=>?_)
     ·rw [if_pos (Qt c)] at ep
      refine push (aa.refl _) ?_
      rw [ep]
      exact ((hks i (by omega) gx).tk ((s12.trans s3).trans s4).ts).up (by omega)
     ·rw [if_neg (Qu c)] at ep
      refine ⟨ks[i],y,v,ms[i],xm,rfl,(hks i (by omega) gx).tk ((s12.trans s3).trans s4).ts,hx.tk ((s12.trans s3).trans s4).ts,fun r H5 s5 hr=>push s5 ?_⟩
      rw [ep]
      exact hr
   ·rintro τ H3 z0;refine hdn fun Gz9 zG9=>?_;obtain ⟨v0,v1,zs,rfl,q1,q2,q3,s3⟩:=z0;refine zG9 ?_
    rw [Dj] at q2
    have BS:=s12.trans s3
    refine ⟨.ref a,f,ks,zs,D,rfl,sh.tk BS.ts,ok,q1,by omega,fun r H4 s4 NG=>k r H4 (BS.trans s4) ?_⟩
    rw [ik,if_neg E8,show n'+1+e=(n'+e)+1 by omega]
    exact .mk NG ok (by omega) fun j h1 h2=>(q3 j h1 h2).tk s4.ts
def Dl (d:Nat):Sp:=fun vs H Q _=>∃ (v:V) (m:Mr),vs=[v]/\aq H d v m/\∀ r H',aa H H'->(match qg m with | none=>r=.af | some c=>aq H' (2*d) r c)->Q r H'
theorem jG (z:Str):∀ (ws:List Str) (vs:List V),ws.length=vs.length->dm ((ws.map (Sum.inr:Str->be)).zip vs) (.inr z)=(ws.idxOf? z).bind (vs[·]?)
 | [],vs,_=>rfl
 | w::ws,v::vs,h=>by
  have ih:=jG z ws vs (by simpa using h)
  rw [List.idxOf?_cons,List.map_cons,List.zip_cons_cons]
  by_cases e:w=z
  ·subst e
   rw [bU rfl]
   simp
  ·rw [bT (by intro q;exact e (Sum.inr.inj q)),ih]
   have:(w==z)=false:=by simpa using e
   simp only [this,Bool.false_eq_true,if_false]
   cases ws.idxOf? z<;>simp
theorem qD (nd:ws.Nodup) {zs:List V} (hi:i < ws.length) (hz:zs.length=i) (x:V):putK (((ws.take i).map (Sum.inr:Str->be)).zip zs) (.inr ws[i]) x=((ws.take (i+1)).map (Sum.inr:Str->be)).zip (zs++[x]):=by
 have e1:(ws.take i).idxOf? ws[i]=none:=by
  rw [List.idxOf?_eq_none_iff]
  intro h
  obtain ⟨j,hj,e⟩:=Qi h
  rw [List.getElem_take] at e
  have:=(List.getElem_inj nd).mp e
  simp at hj
  omega
 rw [nM]
 ·rw [Qs,Qa hi,Qm,List.zip_append (by simp [hz];omega)]
  rfl
 ·rw [jG _ _ _ (by simp [hz];omega),e1]
  rfl
theorem jB (T:Txt K mg w) (d:Nat):bf P w K mg base (d+4) "done_at_once" ["maker"] (Dl d):=by
 have gQ:bf P w K mg base (3+d) "put_in" ["maker","v","value"] (A0 d d):=rF T d d
 refine T.kF.di (k:=d+3) bO (fun vs H Q E h=>?_) (fun f ay A outer s H vs Q E hr h=>?_)
 ·obtain ⟨v,m,rfl,_⟩:=h
  rfl
 ·obtain ⟨v,m,rfl,hm,k⟩:=h
  have hu:=bF hr
  have br:=Qx (bF hr)
  have hsz:sizeLine=16777216:=QL
  refine ⟨_,(aE (aV (i:=1) bO.nd rfl (Or.inl rfl) (aO (aQ K) (zv 0) aF (fun _ _=>rfl)))
   (aE (bI (aL (bA br) (zv 1) aJ (bq _)) (aH (aT (aO (aQ K) (zv 0) aF (fun _ _=>rfl)))) aS)
   (aE (bI (eM (aL (bA br) (zv 1) aJ (bq _)) (dD (aL (bA br) (aO (aQ K) (aO (aQ K) (zv 0) aF (fun _ _=>rfl)) aF (fun _ _=>rfl)) aJ (bq _)))).pt (aH (aT (bH gQ (hr.mono (by omega)) (aI (aO (aQ K) (aO (aQ K) (zv 0) aF (fun _ _=>rfl)) aF (fun _ _=>rfl)) (aI (aO (aQ K) (aO (aQ K) (zv 0) aF (fun _ _=>rfl)) aF (fun _ _=>rfl)) (aI (aO (aQ K) (zv 0) aF (fun _ _=>rfl)) aC)))))) aS)
   (aE (bI (eM (aL (bA br) (zv 1) aJ (bq _)) (dD (aL (bA br) (aO (aQ K) (aO (aQ K) (zv 0) aF (fun _ _=>rfl)) aF (fun _ _=>rfl)) aJ (bq _)))).pt (aE (Hl (i:=2) (own:=["word","part"]) (idx:=[]) (N':=["word","part"]) (eK (bh bW) (["maker","form","parts","cases","v","inner"]:List Str) (by decide+kernel)) rfl (rN K (aO (aQ K) (aO (aQ K) (zv 0) aF (fun _ _=>rfl)) aF (fun _ _=>rfl))) (fun _ _ _ _ _ _=>(dQ K (n:=2) rfl (bC (aU (i:=0) (show List.Nodup (["word","part"]:List Str) by decide+kernel) rfl (Or.inl rfl)) (bC (aU (i:=1) (show List.Nodup (["word","part"]:List Str) by decide+kernel) rfl (Or.inl rfl)) cR)))) (fun _ _ _ _ _ _=>eI) (fun _ _ _ _ _ _=>(zv 0)) (fun _ _ _ _ _ _=>(zv 1)) bO.nd rfl rfl)
   (aH (aT (vL hu (zv 2) (aO (aQ K) (zv 0) aF (fun _ _=>rfl)) ⟨rfl,rfl,rfl,rfl⟩)))) aS)
   (aE (bI (eM (aL (bA br) (zv 1) aJ (bq _)) (dD (aL (bA br) (aO (aQ K) (aO (aQ K) (zv 0) aF (fun _ _=>rfl)) aF (fun _ _=>rfl)) aJ (bq _)))).pt (aE (Hl (i:=3) (own:=["word","v","inner"]) (idx:=[]) (N':=["word","v","inner"]) (eK (bh bW) (["maker","form","parts","cases","v","inner"]:List Str) (by decide+kernel)) rfl (rN K (aO (aQ K) (zv 0) aF (fun _ _=>rfl))) (fun _ _ _ _ _ _=>(dQ K (n:=3) rfl (bC (aU (i:=0) (show List.Nodup (["word","v","inner"]:List Str) by decide+kernel) rfl (Or.inl rfl)) (bC (aU (i:=1) (show List.Nodup (["word","v","inner"]:List Str) by decide+kernel) rfl (Or.inl rfl)) (bC (aU (i:=2) (show List.Nodup (["word","v","inner"]:List Str) by decide+kernel) rfl (Or.inl rfl)) cR))))) (fun _ _ _ _ _ _=>eI) (fun _ _ _ _ _ _=>(zv 0)) (fun _ _ _ _ _ _=>(aN (aD (zv 1) (aD (zv 2) aC)))) bO.nd rfl rfl)
   (aH (bI (aL (y8 hu) (aO (aQ K) (aO (aQ K) (zv 0) aF (fun _ _=>rfl)) aF (fun _ _=>rfl)) (zv 3) rfl) (aE (fR (xQ hu (zv 3) (aO (aQ K) (aO (aQ K) (zv 0) aF (fun _ _=>rfl)) aF (fun _ _=>rfl)) (fun _ _=>rfl)) (dQ K (n:=2) rfl (bC (aU (i:=4) bO.nd rfl (Or.inl rfl)) (bC (aU (i:=5) bO.nd rfl (Or.inl rfl)) cR))))
   (aH (aT (bH gQ (hr.mono (by omega)) (aD (zv 5) (aD (zv 4) (aI (aO (aQ K) (aO (aQ K) (zv 0) aF (fun _ _=>rfl)) aF (fun _ _=>rfl)) aC))))))) aS))) aS)
   (aH (aT cZ))))))),?_⟩
  obtain ⟨n,ks,en,sh,ok,ef,hks⟩:=hm.out
  obtain ⟨f,ms⟩:=m
  dsimp only [Mr.f,Mr.ks] at sh ok ef hks
  obtain ⟨a,ys,rfl,ea⟩:=sh.ref
  have hl:=sh.len
  refine aK ⟨_,.str f.ak,.inr (ae.of ea),aR _ _,?_⟩
  dsimp only
  by_cases hb:f.ak≠"hold"/\f.ak≠"call"/\f.ak≠"part"/\f.ak≠"split"
  ·obtain ⟨b1,b2,b3,b4⟩:=hb
   have nb:∀ {z:Str},f.ak≠z->¬(false^^decide (V.str f.ak=V.str z))=true:=fun h c=>absurd (V.str.inj (Qt ((QE _).symm.trans c))) h
   refine ⟨rfl,_,rfl,aj (fun c=>absurd c (nb b1)) (fun _=>aG ?_)⟩
   refine ⟨rfl,_,rfl,aj (fun c=>absurd c (nb b2)) (fun _=>dw (aG ?_))⟩
   refine ⟨rfl,_,rfl,aj (fun c=>absurd c (nb b3)) (fun _=>dw (aG ?_))⟩
   refine ⟨rfl,_,rfl,aj (fun c=>absurd c (nb b4)) (fun _=>dw (aX ?_))⟩
   refine k _ _ (aa.refl _) ?_
   cases f<;>first | rfl | exact absurd rfl b1 | exact absurd rfl b2 | exact absurd rfl b3 | exact absurd rfl b4
  cases sh with
  | @hold a m z e=>
   simp only [au.ak]
   refine ⟨rfl,_,rfl,aj (fun _=>?_) (fun c=>absurd c (by decide+kernel))⟩
   obtain ⟨m0,rfl⟩:=ku ef.symm
   exact ⟨_,m,.inr (ae.of e),rfl,k _ _ (aa.refl _) ((hks 0 (by simp) (by simp)).up (by omega))⟩
  | @call a x0 x1 e=>
   simp only [au.ak]
   refine ⟨rfl,_,rfl,aj (fun c=>absurd c (by decide+kernel)) (fun _=>aG ?_)⟩
   refine ⟨rfl,_,rfl,aj (fun _=>?_) (fun c=>absurd c (by decide+kernel))⟩
   obtain ⟨m0,m1,rfl⟩:=yc ef.symm
   have h0:aq H n x0 m0:=hks 0 (by simp) (by simp)
   have h1:aq H n x1 m1:=hks 1 (by simp) (by simp)
   obtain ⟨n0,ly,BU,gu,oi,k_,jo⟩:=h0.out
   obtain ⟨f0,rf⟩:=m0
   dsimp only [Mr.f,Mr.ks] at gu oi k_ jo
   obtain ⟨a0,BV,rfl,rg⟩:=gu.ref
   refine ⟨_,_,.inr (ae.of e),rfl,_,_,.inr (ae.of rg),aR _ _,⟨rfl,_,rfl,?_⟩⟩
   by_cases hf:f0.ak="fn"
   ·rw [hf]
    refine aj (fun _=>?_) (fun c=>absurd c (by decide+kernel))
    cases gu with
    | @fn a0 v0 r0 b0 e0=>
     obtain ⟨mb,rfl⟩:=ku k_.symm
     refine ⟨_,_,.inr (ae.of e),rfl,_,b0,.inr (ae.of e0),rfl,_,_,.inr (ae.of e),rfl,_,.str v0,.inr (ae.of e0),rfl,_,x1,.inr (ae.of e),rfl,?_⟩
     refine ⟨b0,x1,v0,mb,m1,rfl,(jo 0 (by simp) (by simp)).up (by omega),h1.up (by omega),fun r H' s' hr'=>k r H' s' ?_⟩
     show aq H' (2*d) r (ik v0 m1 mb)
     rw [show 2*d=d+d by omega]
     exact hr'
    | _=>exact absurd hf (by simp only [au.ak];decide+kernel)
   ·refine aj (fun c=>absurd (V.str.inj (Qt ((QE _).symm.trans c))) hf) (fun _=>aG ?_)
    refine ⟨rfl,_,rfl,aj (fun c=>absurd c (by decide+kernel)) (fun _=>dw (aG ?_))⟩
    refine ⟨rfl,_,rfl,aj (fun c=>absurd c (by decide+kernel)) (fun _=>dw (aX ?_))⟩
    refine k _ _ (aa.refl _) ?_
    cases f0<;>first | rfl | exact absurd rfl hf
  | @part a x0 z e=>
   simp only [au.ak]
   refine ⟨rfl,_,rfl,aj (fun c=>absurd c (by decide+kernel)) (fun _=>aG ?_)⟩
   refine ⟨rfl,_,rfl,aj (fun c=>absurd c (by decide+kernel)) (fun _=>dw (aG ?_))⟩
   refine ⟨rfl,_,rfl,aj (fun _=>?_) (fun c=>absurd c (by decide+kernel))⟩
   obtain ⟨m0,rfl⟩:=ku ef.symm
   have h0:aq H n x0 m0:=hks 0 (by simp) (by simp)
   obtain ⟨n0,ly,BU,gu,oi,k_,jo⟩:=h0.out
   obtain ⟨f0,rf⟩:=m0
   dsimp only [Mr.f,Mr.ks] at gu oi k_ jo
   obtain ⟨a0,BV,rfl,rg⟩:=gu.ref
   refine ⟨_,_,.inr (ae.of e),rfl,_,_,.inr (ae.of rg),aR _ _,⟨rfl,_,rfl,?_⟩⟩
   by_cases hf:f0.ak="box"
   ·rw [hf]
    refine aj (fun _=>?_) (fun c=>absurd c (by decide+kernel))
    cases gu with
    | @ck a0 b0 ws xs ly e0 e1 rm=>
     obtain ⟨nd,_,iu⟩:=oi
     have i_:=rm.l1
     have g_:=rm.l2
     have iy:(ip ws).length=ws.length:=by simp [ip]
     refine aZ (fun σ' H'=>∃ D v3 v4 v5,σ'=[some (.ref a),some (.str "part"),some (.ref D),v3,v4,v5]/\H' D=some (.dK ((ws.map (Sum.inr:Str->be)).zip ly))/\aa H H') ?_ ?_
     ·intro nx bx
      refine ⟨_,_,.inr (ae.of e),rfl,_,.ref b0,.inr (ae.of e0),rfl,Or.inr ⟨⟨xs,ae.of e1⟩,fun D hD=>?_⟩⟩
      refine xG (dF xs) (fun i τ H3=>H3 D=some (.dK (((ws.take i).map (Sum.inr:Str->be)).zip (ly.take i)))/\aa H H3/\∃ v0 v1,τ=[v0,v1]) ⟨aA,aa.upd hD _,none,none,rfl⟩ (fun i τ H3 _ h=>ae.of (h.2.1 _ _ e1)) ?_ ?_
      ·rintro i τ H3 hi ⟨q1,q2,v0,v1,rfl⟩
       obtain ⟨c,r1,r2⟩:=rm.at_ i hi (by omega) (by omega)
       have eg:xs.getD i .af=.ref c:=by rw [Qb,Qa hi,r1];rfl
       rw [eg]
       simp only [ip,Qr] at r2
       refine jO (q2 _ _ r2) ?_
       refine ⟨_,.inr (ws[i]'(by omega)),rfl,q1,by simp;omega,?_,q2.put hD,_,_,rfl⟩
       rw [aA,qD nd (by omega) (by simp;omega),Qs (l:=ly),Qa (show i < ly.length by omega)];rfl
      ·rintro τ H3 ⟨q1,q2,v0,v1,rfl⟩
       rw [List.take_of_length_le (by omega),List.take_of_length_le (by omega)] at q1
       exact bx _ _ ⟨D,_,_,_,rfl,q1,q2⟩
     ·rintro σ' H' ⟨D,v3,v4,v5,rfl,gD,s'⟩
      refine ⟨D,rfl,(.inl ⟨_,.inl gD⟩),_,.str z,.inr (ae.of (s' _ _ e)),rfl,_,pq.k (k:=.inr z) gD,?_⟩
      refine k _ _ s' ?_
      rw [jG _ _ _ (by omega)]
      show (match (ws.idxOf? z).bind (fun i=>rf[i]?) with | none=>_ | some c=>_)
      cases hz:ws.idxOf? z with
      | none=>rfl
      | some i=>
       have hi:i < ws.length:=by
        rw [List.idxOf?_eq_some_iff] at hz
        exact hz.1
       simp only [Option.bind_some]
       rw [Qa (show i < rf.length by omega),Qa (show i < ly.length by omega)]
       exact ((jo i (by omega) (by omega)).tk s'.ts).up (by omega)
    | _=>exact absurd hf (by simp only [au.ak];decide+kernel)
   ·refine aj (fun c=>absurd (V.str.inj (Qt ((QE _).symm.trans c))) hf) (fun _=>aG ?_)
    refine ⟨rfl,_,rfl,aj (fun c=>absurd c (by decide+kernel)) (fun _=>dw (aX ?_))⟩
    refine k _ _ (aa.refl _) ?_
    cases f0<;>first | rfl | exact absurd rfl hf
  | @split a b cs x0 xs ps e e1 rm=>
   simp only [au.ak]
   refine ⟨rfl,_,rfl,aj (fun c=>absurd c (by decide+kernel)) (fun _=>aG ?_)⟩
   refine ⟨rfl,_,rfl,aj (fun c=>absurd c (by decide+kernel)) (fun _=>dw (aG ?_))⟩
   refine ⟨rfl,_,rfl,aj (fun c=>absurd c (by decide+kernel)) (fun _=>dw (aG ?_))⟩
   refine ⟨rfl,_,rfl,aj (fun _=>?_) (fun c=>absurd c (by decide+kernel))⟩
   obtain ⟨m0,jp,rfl⟩:∃ m0 jp,ms=m0::jp:=by
    cases ms with
    | nil=>simp at ef
    | cons m0 jp=>exact ⟨_,_,rfl⟩
   have h0:aq H n x0 m0:=hks 0 (by simp) (by simp)
   obtain ⟨n0,ly,BU,gu,oi,k_,jo⟩:=h0.out
   obtain ⟨f0,rf⟩:=m0
   dsimp only [Mr.f,Mr.ks] at gu oi k_ jo
   obtain ⟨a0,BV,rfl,rg⟩:=gu.ref
   refine ⟨_,_,.inr (ae.of e),rfl,_,_,.inr (ae.of rg),aR _ _,⟨rfl,_,rfl,?_⟩⟩
   by_cases hf:f0.ak="pick"
   ·rw [hf]
    refine aj (fun _=>?_) (fun c=>absurd c (by decide+kernel))
    cases gu with
    | @pick a0 z x e0=>
     obtain ⟨mx,rfl⟩:=ku k_.symm
     obtain ⟨nd,_,iu⟩:=ok
     have i_:=rm.l1
     have g_:=rm.l2
     have iy:(fu cs).length=cs.length:=by simp [fu]
     have NH:ps.length=jp.length:=by simpa using ef
     refine aZ (fun σ' H'=>∃ D v2 v4 v5 zs,σ'=[some (.ref a),some (.str "split"),v2,some (.ref D),v4,v5]/\H' D=some (.dK (((cs.map (·.1)).map (Sum.inr:Str->be)).zip zs))/\zs.length=cs.length/\(∀ j (h:j < zs.length) (h1:j < cs.length) (h2:j < ps.length),∃ c,zs[j]=.ref c/\H' c=some (.tup [.str cs[j].2,ps[j]]))/\aa H H') ?_ ?_
     ·intro nx bx
      refine ⟨_,.ref b,.inr (ae.of e),rfl,Or.inr ⟨⟨xs,ae.of e1⟩,fun D hD=>?_⟩⟩
      refine xG (dF xs) (fun i τ H3=>∃ zs v0 v1 v2,τ=[v0,v1,v2]/\H3 D=some (.dK ((((cs.map (·.1)).take i).map (Sum.inr:Str->be)).zip zs))/\zs.length=i/\(∀ j (h:j < zs.length) (h1:j < cs.length) (h2:j < ps.length),∃ c,zs[j]=.ref c/\H3 c=some (.tup [.str cs[j].2,ps[j]]))/\aa H H3) ⟨[],none,none,none,rfl,aA,rfl,fun j h=>absurd h (by simp),aa.upd hD _⟩ (by rintro i τ H3 _ ⟨_,_,_,_,_,_,_,_,h⟩;exact ae.of (h _ _ e1)) ?_ ?_
      ·rintro i τ H3 hi z0;refine hdn fun Gz9 zG9=>?_;obtain ⟨zs,v0,v1,v2,rfl,q1,q2,q3,q4⟩:=z0;refine zG9 ?_
       have gx:i < cs.length:=by omega
       obtain ⟨c,r1,r2⟩:=rm.at_ i hi (by omega) (by omega)
       have eg:xs.getD i .af=.ref c:=by rw [Qb,Qa hi,r1];rfl
       rw [eg]
       simp only [fu,Qr] at r2
       refine tN (ae.of (q4 _ _ r2)) ?_
       refine ⟨(show 2<=sizeLine by decide),fun t ht=>?_⟩
       have s4:=aa.upd ht (.tup [.str (cs[i]'(by omega)).2,ps[i]'(by omega)])
       have gt:upd H3 t (.tup [.str (cs[i]'(by omega)).2,ps[i]'(by omega)]) t=some (.tup [.str (cs[i]'(by omega)).2,ps[i]'(by omega)]):=aA
       generalize upd H3 t (.tup [.str (cs[i]'(by omega)).2,ps[i]'(by omega)])=H4 at s4 gt
       have g4:=s4 _ _ q1
       have zl:((((cs.map (·.1)).take i).map (Sum.inr:Str->be)).zip zs).length < sizeLine:=by simp;omega
       generalize NI:(((cs.map (·.1)).take i).map (Sum.inr:Str->be)).zip zs=kvs at g4 q1 zl
       have tk:∀ o,Tk H4 (upd H4 D (.dK o)):=fun o=>(Tk.refl).set g4 fun _ z=>nomatch z
       refine ⟨kvs,.inr (cs[i]'(by omega)).1,rfl,g4,zl,zs++[.ref t],_,_,_,rfl,?_,by simp [q2],fun j h h1 h2=>?_,(q4.trans s4).put hD⟩
       ·rw [aA,<- NI]
        have:=qD (ws:=cs.map (·.1)) nd (i:=i) (by simpa using gx) q2 (.ref t)
        rw [Qr] at this
        rw [this]
       ·by_cases hj:j < zs.length
        ·rw [Qe hj]
         obtain ⟨c,c1,c2⟩:=q3 j hj h1 h2
         exact ⟨c,c1,tk _ _ _ (s4 _ _ c2)⟩
        ·obtain rfl:j=i:=by simp at h;omega
         rw [Qf (by omega)]
         exact ⟨t,by simp [q2],tk _ _ _ gt⟩
      ·rintro τ H3 z0;refine hdn fun Gz9 zG9=>?_;obtain ⟨zs,v0,v1,v2,rfl,q1,q2,q3,q4⟩:=z0;refine zG9 ?_
       rw [List.take_of_length_le (by simp;omega)] at q1
       exact bx _ _ ⟨D,_,_,_,zs,rfl,q1,by omega,q3,q4⟩
     ·rintro σ' H' z0;refine hdn fun Gz9 zG9=>?_;obtain ⟨D,v2,v4,v5,zs,rfl,gD,q2,q3,s'⟩:=z0;refine zG9 ?_
      have E_:=jG z (cs.map (·.1)) zs (by simp [q2])
      have e':=s' _ _ e
      have Fb:=s' _ _ e0
      refine ⟨_,_,.inr (ae.of e'),rfl,_,.str z,.inr (ae.of Fb),rfl,D,_,rfl,pq.k (k:=.inr z) gD,_,rfl,?_⟩
      rw [QE,E_]
      have ec:qg (.mk (.split cs) (.mk (.pick z) [mx]::jp))=((cs.map (·.1)).idxOf? z).bind fun i=>(cs[i]?).bind fun c=>(jp[i]?).map fun b=>ik c.2 mx b:=rfl
      cases hz:(cs.map (·.1)).idxOf? z with
      | none=>
       refine aj (fun c=>nomatch c) (fun _=>aX ?_)
       refine k _ _ s' ?_
       rw [ec,hz]
       rfl
      | some i=>
       have hi:i < cs.length:=by
        rw [List.idxOf?_eq_some_iff] at hz
        simpa using hz.1
       obtain ⟨c,c1,c2⟩:=q3 i (by omega) hi (by omega)
       have hg:(some i).bind (fun x=>zs[x]?)=some (.ref c):=by
        rw [Option.bind_some,Qa (show i < zs.length by omega),c1]
       rw [hz,hg] at E_
       rw [hg]
       refine aj (fun _=>?_) (fun c=>nomatch c)
       refine ⟨_,_,.inr (ae.of e'),rfl,_,.str z,.inr (ae.of Fb),rfl,D,.ref c,rfl,by have:=pq.k (k:=.inr z) gD;rw [E_] at this;exact this,?_⟩
       refine jO c2 ?_
       refine ⟨_,_,.inr (ae.of e'),rfl,_,x,.inr (ae.of Fb),rfl,?_⟩
       have Fc:i < jp.length:=by omega
       have hbi:=hks (i+1) (by simp;omega) (by simp;omega)
       simp only [List.getElem_cons_succ] at hbi
       refine ⟨_,x,_,jp[i],mx,rfl,(hbi.tk s'.ts).up (by omega),((jo 0 (by simp) (by simp)).tk s'.ts).up (by omega),fun r H2 s2 hr'=>k r H2 (s'.trans s2) ?_⟩
       rw [ec,hz]
       simp only [Option.bind_some]
       rw [Qa hi,Qa Fc]
       show aq H2 (2*d) r (ik _ mx _)
       rw [show 2*d=d+d by omega]
       exact hr'
    | _=>exact absurd hf (by simp only [au.ak];decide+kernel)
   ·refine aj (fun c=>absurd (V.str.inj (Qt ((QE _).symm.trans c))) hf) (fun _=>aX ?_)
    refine k _ _ (aa.refl _) ?_
    cases f0<;>first | rfl | exact absurd rfl hf
  | _=>exact absurd ⟨by simp only [au.ak];decide+kernel,by simp only [au.ak];decide+kernel,by simp only [au.ak];decide+kernel,by simp only [au.ak];decide+kernel⟩ hb
def fq (p:List Nat):List V:=p.map fun k:Nat=>.int (k:Int)
def Fd (n D:Nat):Sp:=fun vs H Q _=>∃ (v o:V) (pa:Addr) (p:List Nat) (m x:Mr) (d e:Nat),vs=[v,.ref pa,o]/\H pa=some (.tup (fq p))/\p.length < n/\aq H d v m/\By p m/\aq H e o x/\d<=D/\p.length+e<=D/\∀ r H',aa H H'->aq H' D r (gm x p m)->Q r H'
theorem o5 (T:Txt K mg w):∀ n D:Nat,bf P w K mg base (n+2) "replaced" ["maker","place","other"] (Fd n D):=by
 intro n
 induction n with
 | zero=>
  intro D
  refine T.jL.di (k:=1) eQ (fun vs H Q E h=>?_) (fun f ay A outer s H vs Q E hr h=>?_)
  ·refine hdn fun Gz9 zG9=>?_;obtain ⟨v,o,pa,p,m,x,d,e,rfl,_⟩:=h;refine zG9 ?_
   rfl
  ·refine hdn fun Gz9 zG9=>?_;obtain ⟨v,o,pa,p,m,x,d,e,_,_,h,_⟩:=h;refine zG9 ?_
   exact absurd h (Nat.not_lt_zero _)
 | succ n ih=>
  intro D
  have gG:bf P w K mg base (n+2) "replaced" ["maker","place","other"] (Fd n (D - 1)):=ih (D - 1)
  have bE:bf P w K mg base 1 "makers_in" ["maker"] mh:=bS T
  have dJ:bf P w K mg base 1 "with_makers" ["maker","inner"] E1:=eU T
  refine T.jL.di (k:=n+2) eQ (fun vs H Q E h=>?_) (fun f ay A outer s H vs Q E hr h=>?_)
  ·refine hdn fun Gz9 zG9=>?_;obtain ⟨v,o,pa,p,m,x,d,e,rfl,_⟩:=h;refine zG9 ?_
   rfl
  ·refine hdn fun Gz9 zG9=>?_;obtain ⟨v,o,pa,p,m,x,d,e,rfl,gp,hp,hm,pl,ho,hd,he,k⟩:=h;refine zG9 ?_
   have hu:=bF hr
   have br:=Qx (bF hr)
   have hsz:sizeLine=16777216:=QL
   refine ⟨_,(aE (bI (aL (bA br) (bV (cI K) (by rfl) T.ya PySem.boot_len (aD (zv 1) aC)) aF (bq _)) (aH (aT (zv 2))) aS)
   (aE (aV (i:=3) eQ.nd rfl (Or.inl rfl) (bH bE (hr.mono (by omega)) (aD (zv 0) aC)))
   (aE (fR (bH gG (hr.mono (by omega)) (aI (aO (aQ K) (zv 3) (aO (aQ K) (zv 1) aF (fun _ _=>rfl)) (fun _ _=>rfl)) (aI (cC (iZ K) (zv 1) (cE aF) cD) (aD (zv 2) aC)))) (lC (zv 3) (aO (aQ K) (zv 1) aF (fun _ _=>rfl)) dN))
   (aH (aT (bH dJ (hr.mono (by omega)) (aD (zv 0) (aD (zv 3) aC)))))))),?_⟩
   cases p with
   | nil=>
    refine Or.inl ⟨_,.inr (ae.of gp),⟨rfl,_,rfl,?_⟩⟩
    refine aj (fun _=>?_) (fun c=>absurd c (by simp [fq]))
    refine k _ _ (aa.refl _) ?_
    rw [gm]
    exact ho.up (by simpa using he)
   | cons i p=>
    refine Or.inl ⟨_,.inr (ae.of gp),⟨rfl,_,rfl,?_⟩⟩
    refine aj (fun c=>absurd c (by simp [fq];omega)) (fun _=>aG ?_)
    obtain ⟨d',ks,rfl,sh,ok,ef,hks⟩:=hm.out
    obtain ⟨f,ms⟩:=m
    obtain ⟨y,hy,BW⟩:=pl
    dsimp only [Mr.f,Mr.ks] at sh ok ef hks hy
    obtain ⟨hi,rfl⟩:=List.getElem?_eq_some_iff.mp hy
    have hl:=sh.len
    refine aK ⟨v,ks,rfl,sh.qf ok,fun L H1 hL gL s1=>?_⟩
    have Fe:=s1 _ _ gp
    refine aZ (fun σ' H'=>∃ r,σ'=[some v,some (.ref pa),some o,some (.ref L)]/\H' L=some (.lst (ks.set i r))/\aq H' (D - 1) r (gm x p ms[i])/\aa H H') ?_ ?_
    ·intro nx bx
     have oj:i < ks.length:=by omega
     refine ⟨_,.int (i:Int),.inr (ae.of Fe),aR _ _,_,ks[i],.inl (ao.of gL),cB (Qa oj),1,rfl,Or.inr (Or.inr ⟨pa,_,rfl,ae.of Fe,by simp [HT.bg,fq],fun q hq=>?_⟩)⟩
     have BP:e_ (fq (i::p)) (some 1) none=fq p:=by
      simp only [fq,List.map_cons]
      simp [e_,HT.bg]
      exact List.take_of_length_le (by simp)
     rw [BP]
     have s2:=aa.upd hq (.tup (fq p))
     have gq:upd H1 q (.tup (fq p)) q=some (.tup (fq p)):=aA
     generalize upd H1 q (.tup (fq p))=H2 at s2 gq
     have s12:=s1.trans s2
     simp only [List.length_cons] at hp he
     refine ⟨ks[i],o,q,p,ms[i],x,d',e,rfl,gq,by omega,(hks i oj hi).tk s12.ts,BW,ho.tk s12.ts,by omega,by omega,fun r H3 s3 hr'=>?_⟩
     have vt:=s3 _ _ (s2 _ _ gL)
     have zy:=s3 _ _ (s2 _ _ Fe)
     have tk:Tk H3 (upd H3 L (.lst (ks.set i r))):=(Tk.refl).set vt fun _ z=>nomatch z
     refine ⟨_,.int (i:Int),.inr (ae.of zy),aR _ _,L,ks,_,i,rfl,rfl,vt,?_,?_⟩
     ·unfold qx
      simp [oj]
     ·exact bx _ _ ⟨r,rfl,aA,hr'.tk tk,(s12.trans s3).put hL⟩
    ·rintro σ' H2 ⟨r,rfl,E7,hr',s2⟩
     refine ⟨v,f,ks,ks.set i r,L,rfl,sh.tk s2.ts,ok,E7,by simp [hl],fun v' H3 s3 NJ=>k v' H3 (s2.trans s3) ?_⟩
     rw [gm]
     simp only [hy]
     obtain ⟨D',rfl⟩:∃ D',D=D'+1:=⟨D - 1,by omega⟩
     refine .mk NJ ok (by simp [ef]) fun j h1 h2=>?_
     rw [List.getElem_set,List.getElem_set]
     by_cases hj:i=j
     ·rw [if_pos hj,if_pos hj]
      exact hr'.tk s3.ts
     ·rw [if_neg hj,if_neg hj]
      exact ((hks j (by simpa using h1) (by simpa using h2)).tk (s2.trans s3).ts).up (by omega)
def IU (d:Nat):Sp:=fun vs H Q _=>∃ (v:V) (m:Mr),vs=[v]/\aq H d v m/\az m<=1000000/\∀ R H',aa H H'->(if dj m=true then H' R=some (.tup [.af,.af]) else ∃ pa r,H' R=some (.tup [.ref pa,r])/\H' pa=some (.tup (fq (cj m).1))/\(match (cj m).2 with | none=>r=.af | some c=>aq H' (2*d) r c))->Q (.ref R) H'
theorem lR (T:Txt K mg w) (d:Nat) (QM:d<=1000):bf P w K mg base (d+5) "next_step" ["maker"] (IU d):=by
 have bE:bf P w K mg base 1 "makers_in" ["maker"] mh:=bS T
 have gH:bf P w K mg base 2 "is_value" ["maker"] (E3 d):=iQ T d
 have fX:bf P w K mg base 3 "first_to_do" ["maker"] (IP d):=kJ T d
 have kK:bf P w K mg base (d+4) "done_at_once" ["maker"] (Dl d):=jB T d
 refine T.oJ.di (k:=d+4) bX (fun vs H Q E h=>?_) (fun f ay A outer s H vs Q E hr h=>?_)
 ·obtain ⟨v,m,rfl,_⟩:=h
  rfl
 ·obtain ⟨v,m,rfl,hm,hc,k⟩:=h
  have hu:=bF hr
  have br:=Qx (bF hr)
  have hsz:sizeLine=16777216:=QL
  refine ⟨_,(aE (bI (k8 (bH gH (hr.mono (by omega)) (aD (zv 0) aC))) (aH (aT (aN (aB cZ (aB cZ aC))))) aS)
   (aE (aV (i:=1) bX.nd rfl (Or.inl rfl) (aN aC))
   (aE (aV (i:=2) bX.nd rfl (Or.inl rfl) (bH fX (hr.mono (by omega)) (aD (zv 0) aC)))
   (aE (gP PassesOwn.never (aL qO (zv 2) cZ (bq _)) (aE (nQ (i:=1) bX.nd rfl (Or.inl rfl) (aN (aD (zv 2) aC)) (vG K))
   (aE (aV (i:=0) bX.nd rfl (Or.inl rfl) (aO (aQ K) (bH bE (hr.mono (by omega)) (aD (zv 0) aC)) (zv 2) (fun _ _=>rfl)))
   (aH (aV (i:=2) bX.nd rfl (Or.inl rfl) (bH fX (hr.mono (by omega)) (aD (zv 0) aC)))))))
   (aH (aT (aN (aD (zv 1) (bY (bH kK (hr.mono (by omega)) (aD (zv 0) aC)) aC))))))))),?_⟩
  refine ⟨v,m,rfl,hm,hc,fun H1 s1=>⟨_,rfl,aj (fun c=>?_) (fun c=>aG ?_)⟩⟩
  ·refine ⟨(show 2<=sizeLine by decide),fun R hR=>k R _ (s1.trans (aa.upd hR _)) ?_⟩
   rw [if_pos c]
   exact aA
  simp only [c,Bool.false_eq_true,if_false] at k
  refine aK ⟨(show 0<=sizeLine by decide),fun pa Ff=>?_⟩
  have s2:=aa.upd Ff (.tup [])
  have A2:upd H1 pa (.tup []) pa=some (.tup []):=aA
  dsimp only
  generalize upd H1 pa (.tup [])=H2 at s2 A2
  refine aK ⟨v,m,rfl,hm.tk (s1.trans s2).ts,hc,fun H3 s3=>?_⟩
  have BS:=(s1.trans s2).trans s3
  dsimp only
  refine aZ (fun σ' H'=>∃ (v':V) (m':Mr) (qa:Addr) (q:List Nat) (v2:Option V),σ'=[some v',some (.ref qa),v2]/\H' qa=some (.tup (fq q))/\aq H' d v' m'/\jj m'=none/\cj m=(q,qg m')/\aa H H') ?_ ?_
  ·intro nx bx
   refine ⟨fun n σ' H'=>∃ (v':V) (m':Mr) (qa:Addr) (q:List Nat),σ'=[some v',some (.ref qa),some (AZ (jj m'))]/\H' qa=some (.tup (fq q))/\aq H' d v' m'/\n=cg m'/\q.length+cg m'<=d/\az m'<=1000000/\cj m=(q++(cj m').1,(cj m').2)/\aa H H',⟨_,v,m,pa,[],rfl,s3 _ _ A2,hm.tk BS.ts,rfl,by simpa using hm.dep,hc,rfl,BS⟩,?_⟩
   rintro n σ' H4 ⟨v',m',qa,q,rfl,gq,hm',rfl,hq,oz,hn,s4⟩
   cases hf:jj m' with
   | none=>
    refine ⟨_,rfl,aj (fun c=>absurd c (by decide)) (fun _=>?_)⟩
    refine bx _ _ ⟨v',m',qa,q,_,rfl,gq,hm',hf,?_,s4⟩
    rw [hn,fO hf]
    simp
   | some i=>
    refine ⟨_,rfl,aj (fun _=>?_) (fun c=>absurd c (by simp [AZ]))⟩
    obtain ⟨hi,_⟩:=mJ hf
    refine ⟨fun σ' H'=>∃ n',n' < cg m'/\∃ (v':V) (m':Mr) (qa:Addr) (q:List Nat),σ'=[some v',some (.ref qa),some (AZ (jj m'))]/\H' qa=some (.tup (fq q))/\aq H' d v' m'/\n'=cg m'/\q.length+cg m'<=d/\az m'<=1000000/\cj m=(q++(cj m').1,(cj m').2)/\aa H H',fun σ' H' h=>h,?_⟩
    have QN:=hm.dep
    refine aZ (fun σ' H'=>∃ qb,σ'=[some v',some (.ref qb),some (.int (i:Int))]/\H' qb=some (.tup (fq (q++[i])))/\aa H4 H') ?_ ?_
    ·intro jb rh
     refine ⟨_,rfl,(show 1<=sizeLine by decide),fun t ht=>?_⟩
     have s5:=aa.upd ht (.tup [AZ (some i)])
     refine Hi (s5 _ _ gq) aA (by simp [fq];omega) fun c H6 s6 e6=>?_
     refine rh _ _ ⟨c,rfl,?_,s5.trans s6⟩
     rw [e6]
     simp [fq,AZ]
    ·rintro σ' H5 ⟨qb,rfl,NK,s5⟩
     obtain ⟨ks,sh,ok,hks⟩:=hm'.kids
     have ef:=hks.len
     refine aK ⟨v',ks,rfl,(sh.qf ok).tk s5.ts,fun L H6 hL gL s6=>?_⟩
     have IV:=s5.trans s6
     have oj:i < ks.length:=by omega
     refine ⟨_,ks[i],.inl (ao.of gL),cB (Qa oj),?_⟩
     have A3:=(hks.at_ i oj hi).tk IV.ts
     have kc:az m'.ks[i]<=1000000:=by
      have h1:=i6 (Qj hi)
      have h2:az m'=1+bj m'.ks:=by cases m';rw [az];rfl
      omega
     have hd2:cg m'.ks[i]+1<=cg m':=by
      have h1:=d7 (Qj hi)
      have h2:cg m'=1+ji m'.ks:=by cases m';rw [cg];rfl
      omega
     dsimp only
     refine ⟨ks[i],m'.ks[i],rfl,A3,kc,fun H7 s7=>?_⟩
     refine ⟨_,?_,ks[i],m'.ks[i],qb,q++[i],rfl,s7 _ _ (s6 _ _ NK),A3.tk s7.ts,rfl,?_,kc,?_,(s4.trans IV).trans s7⟩
     ·omega
     ·simp;omega
     ·rw [hn,fP hf hi]
      simp
  ·rintro σ' H4 z0;refine hdn fun Gz9 zG9=>?_;obtain ⟨v',m',qa,q,v2,rfl,gq,hm',hf,hn,s4⟩:=z0;refine zG9 ?_
   refine ⟨v',m',rfl,hm',fun r H5 s5 hr'=>⟨(show 2<=sizeLine by decide),fun R hR=>?_⟩⟩
   have s6:=aa.upd hR (.tup [.ref qa,r])
   refine k R _ ((s4.trans s5).trans s6) ⟨qa,r,aA,?_,?_⟩
   ·rw [hn]
    exact s6 _ _ (s5 _ _ gq)
   ·rw [hn]
    simp only []
    cases IW:qg m' with
    | none=>rw [IW] at hr';exact hr'
    | some c=>rw [IW] at hr';exact hr'.tk s6.ts
def IX:Sp:=fun vs H Q _=>∃ (e:Addr) (i:Nat),vs=[.ref e,.int i]/\i < 1000000000/\H e=some (iq (adr mg "TooMany") none e)/\∀ dx,H dx=none->Q .af (upd (upd H e (iq (adr mg "TooMany") (some dx) e)) dx (.xd [("many",.int i)]))
theorem j3 (T:Txt K mg w):EJ P w K mg base 1 "TooMany" ["self","many"] (IX (mg:=mg)):=by
 refine T.zw.di j0 (fun vs H Q E h=>?_) (fun f ay A outer s H vs Q E hr h=>?_)
 ·obtain ⟨e,i,rfl,_⟩:=h
  rfl
 ·obtain ⟨e,i,rfl,hi,he,k⟩:=h
  refine ⟨_,(aE (eC (zR K T.ER (aD (zv 0) (aB aJ aC))))
   (aH (MO K (zv 0) (zv 1)))),?_⟩
  refine ⟨e,_,none,_,rfl,by simp,T.zw.at_,he,?_⟩
  exact ⟨e,_,rfl,he,T.zw.at_,T.zw.na _ (by simp),fun dx hd=>k dx hd⟩
structure om (H:Hp) (d:Nat) (ws:List V) (st:List (Mr×Nat)):Prop where
 len:ws.length=st.length
 at_:∀ i (h:i < ws.length) (h':i < st.length),∃ c x,ws[i]=.ref c/\H c=some (.tup [x,.int ((st[i].2+1:Nat):Int)])/\aq H d x st[i].1
theorem om.tk {H H':Hp} {d:Nat} {ws:List V} {st:List (Mr×Nat)} (h:om H d ws st) (s:Tk H H'):om H' d ws st:=⟨h.len,fun i a b=>let ⟨c,x,h1,h2,h3⟩:=h.at_ i a b;⟨c,x,h1,s _ _ h2,h3.tk s⟩⟩
theorem om.app {ws us:List V} {st tt:List (Mr×Nat)} (h1:om H d ws st) (h2:om H d us tt):om H d (ws++us) (st++tt):=by
 have l1:=h1.len
 refine ⟨by simp [h1.len,h2.len],fun i a b=>?_⟩
 by_cases h:i < ws.length
 ·rw [Qe h,Qe (by omega)]
  exact h1.at_ i h (by omega)
 ·rw [Qf (by omega),Qf (by omega)]
  simp only [<- l1]
  exact h2.at_ _ (by simp at a;omega) (by have:=h2.len;simp at a;omega)
theorem om.last {ws:List V} {st:List (Mr×Nat)} (h:om H d ws st) (kj:ws≠[]):∃ gy st' c x m k,ws=gy++[.ref c]/\st=st'++[(m,k)]/\om H d gy st'/\H c=some (.tup [x,.int ((k+1:Nat):Int)])/\aq H d x m:=by
 have hl:=h.len
 have hp:0 < ws.length:=List.length_pos_iff.mpr kj
 rcases List.eq_nil_or_concat ws with z | ⟨gy,v,rfl⟩
 ·exact absurd z kj
 rcases List.eq_nil_or_concat st with rfl | ⟨st',m,rfl⟩
 ·rw [hl] at hp;exact absurd hp (by simp)
 rw [List.concat_eq_append] at hl h ⊢
 rw [List.concat_eq_append] at hl h ⊢
 have hl':gy.length=st'.length:=by simpa using hl
 obtain ⟨c,x,e1,e2,e3⟩:∃ c x,v=.ref c/\H c=some (.tup [x,.int ((m.2+1:Nat):Int)])/\aq H d x m.1:=by
  have:=h.at_ gy.length (by simp) (by simp;omega)
  rw [Qf (Qy _),Qf (by omega)] at this
  simpa [hl'] using this
 subst e1
 refine ⟨gy,st',c,x,m.1,m.2,rfl,rfl,⟨hl',fun i a b=>?_⟩,e2,e3⟩
 have:=h.at_ i (by simp;omega) (by simp;omega)
 rwa [Qe a,Qe b] at this
def lg (st:List (Mr×Nat)):Nat:=bj (st.map (·.1))
def mj:List (Mr×Nat)->Nat
 | []=>0
 | (m,k)::l=>max (k+cg m) (mj l)
theorem jK:∀ a b:List (Mr×Nat),mj (a++b)=max (mj a) (mj b)
 | [],b=>by simp [mj]
 | (m,k)::a,b=>by simp [mj,jK a b,Nat.max_assoc]
theorem lF (k:Nat):∀ ks:List Mr,max (k+1) (mj (ks.map fun m=>(m,k+1)))=k+1+ji ks
 | []=>by simp [mj,ji]
 | m::ks=>by
  have:=lF k ks
  simp only [List.map_cons,mj,ji]
  omega
theorem rJ {v:V} {u:TS} {D:Ends} (h:u D ((σ.set i (some v)).set j (some v)) H):wj (o_ (tC v) (Hw (ia i) (ia j))) u D σ H:=h
def vy (mg:Str->Option Value) (H:Hp) (E:XK) (n:Nat):Prop:=∀ e dx H',aa H H'->H' e=some (jl (adr mg "TooMany") (some dx) e)->H' dx=some (.xd [("many",.int n)])->E (.ref e) (some dx) H'
def IY (d:Nat):Sp:=fun vs H Q E=>∃ (v:V) (m:Mr),vs=[v]/\aq H d v m/\az m<=1000000/\(az m<=400->cg m<=40->∀ H',aa H H'->Q .af H')/\(400 < az m->vy mg H E 400)/\(az m<=400->40 < cg m->vy mg H E 40)
theorem n6 {H1:Hp} {E:XK} {D:Ends} (hn:n < 1000000000) (s1:aa H H1) (k:vy mg H E n):EI (adr mg "TooMany") (IX (mg:=mg)) (bu (tC (.int (n:Int))) gw) E D σ H1:=by
 refine ⟨by simp,fun e he=>⟨e,n,rfl,hn,aA,fun dx hd=>?_⟩⟩
 have ne:dx≠e:=fun z=>by rw [z,aA] at hd;cases hd
 rw [aM ne] at hd
 refine ⟨rfl,some dx,by rw [aM ne.symm,aA],?_⟩
 refine k e dx _ (s1.trans fun b o hb=>?_) aA (by rw [aM ne,aA])
 have n1:b≠e:=fun z=>by rw [z,he] at hb;cases hb
 have n2:b≠dx:=fun z=>by rw [z,hd] at hb;cases hb
 rw [aM n1,aM n2,aM n1,aM n1]
 exact hb
theorem iX (T:Txt K mg w) (d:Nat):xo P w K mg base 3 "refuse_large" ["maker"] (IY (mg:=mg) d):=by
 have bE:bf P w K mg base 1 "makers_in" ["maker"] mh:=bS T
 have l9:=j3 (P:=P) (w:=w) (base:=base) T
 refine T.kH.HZ bG (fun vs H Q E h=>?_) (fun f ay A outer s H vs Q E hr h=>?_)
 ·obtain ⟨v,m,rfl,_⟩:=h
  rfl
 ·refine hdn fun Gz9 zG9=>?_;obtain ⟨v,m,rfl,hm,hc,k1,k2,k3⟩:=h;refine zG9 ?_
  have hu:=bF hr
  have br:=Qx (bF hr)
  have hsz:sizeLine=16777216:=QL
  refine ⟨_,(aE (aV (i:=1) bG.nd rfl (Or.inl rfl) (dB (aW (aN (aD (zv 0) (aB aF aC))) aC)))
   (aE (yB aF (aU (i:=2) bG.nd rfl (Or.inl rfl)) (aU (i:=3) bG.nd rfl (Or.inl rfl)))
   (aE (gP PassesOwn.leaving (qI K (zv 1)) (aE (fR (xI K QH PySem.F.slot_list_pop PySem.F.type_list_pop u7 (zv 1)) (dQ K (n:=2) rfl (bC (aU (i:=4) bG.nd rfl (Or.inl rfl)) (bC (aU (i:=5) bG.nd rfl (Or.inr rfl)) cR))))
   (aE (nQ (i:=2) bG.nd rfl (Or.inl rfl) aF mC)
   (aE (bI (aL i3 (zv 2) (p9 T.fS) (bq _)) (aH (nA l9 (hr.mono (by decide)) (aD (p9 T.fS) aC))) aS)
   (aE (aV (i:=3) bG.nd rfl (Or.inl rfl) (bV (rD rfl) (by rfl) T.Ip PyProof.Rows.boot_max (aD (zv 3) (aD (zv 5) aC))))
   (aH (eC (oW K QH PySem.F.slot_list_extend PySem.F.type_list_extend i7 (zv 1) (cV (lV (own:=["inner"]) (idx:=[5]) (N':=["inner","deep"]) (eK (bh cM) (["maker","waiting","many","deepest","one","deep"]:List Str) (by decide+kernel)) rfl (rN K (bH bE (hr.mono (by decide)) (aD (zv 4) aC))) (fun _ _ _ _ _ _=>(aU (i:=0) (show List.Nodup (["inner","deep"]:List Str) by decide+kernel) rfl (Or.inl rfl))) (fun _ _ _ _ _ _=>eI) (fun _ _ _ _ _ _=>(aN (aD (zv 0) (fJ (bK bJ (zv 1) aF) aC))))) aC)))))))))
   (aH (bI (aL i3 (zv 3) (p9 T.fV) (bq _)) (aH (nA l9 (hr.mono (by decide)) (aD (p9 T.fV) aC))) aS))))),?_⟩
  refine aK ⟨(show 2<=sizeLine by decide),fun c0 NL=>⟨(show 1<=sizeLine by decide),fun W hW=>?_⟩⟩
  have s1:=aa.upd NL (.tup [v,.int 1])
  have gc:upd H c0 (.tup [v,.int 1]) c0=some (.tup [v,.int 1]):=aA
  generalize upd H c0 (.tup [v,.int 1])=H1 at s1 gc hW
  have s2:=aa.upd hW (.lst [.ref c0])
  have gW:upd H1 W (.lst [.ref c0]) W=some (.lst [.ref c0]):=aA
  have fW:H W=none:=s1.free hW
  dsimp only
  generalize upd H1 W (.lst [.ref c0])=H2 at s2 gW
  refine rJ ?_
  refine aZ (fun σ' H'=>∃ v4 v5:Option V,σ'=[some v,some (.ref W),some (.int (az m:Int)),some (.int (cg m:Int)),v4,v5]/\az m<=400/\aa H H') ?_ ?_
  rotate_left
  ·rintro σ' H' ⟨v4,v5,rfl,h4,s'⟩
   refine ⟨_,rfl,aj (fun c=>?_) (fun c=>?_)⟩
   ·have:=Qt c
    exact n6 (n:=40) (by omega) s' (k3 h4 (by omega))
   ·have:=Qu c
    exact k1 h4 (by omega) H' s'
  intro nx bx
  refine ⟨fun n σ' H'=>∃ (ws:List V) (st:List (Mr×Nat)) (many oq:Nat) (v4 v5:Option V),σ'=[some v,some (.ref W),some (.int (many:Int)),some (.int (oq:Int)),v4,v5]/\n=lg st/\H' W=some (.lst ws)/\om H' d ws st/\many+lg st=az m/\max oq (mj st)=cg m/\many<=400/\aa H H',⟨_,[.ref c0],[(m,0)],0,0,none,none,rfl,rfl,gW,⟨rfl,fun i a b=>?_⟩,?_,?_,by omega,s1.trans s2⟩,?_⟩
  ·obtain rfl:i=0:=by simp at a;omega
   exact ⟨c0,v,rfl,s2 _ _ gc,hm.tk (s1.trans s2).ts⟩
  ·simp [lg,bj]
  ·simp [mj]
  rintro n σ' H3 ⟨ws,st,many,oq,v4,v5,rfl,rfl,g3,hst,IZ,Fg,h4,s3⟩
  refine ⟨!ws.isEmpty,.inl ⟨ws,ao.of g3,rfl⟩,aj (fun c=>?_) (fun c=>?_)⟩
  rotate_left
  ·have:ws=[]:=by simpa using c
   subst this
   have:st=[]:=List.length_eq_zero_iff.mp hst.len.symm
   subst this
   have e1:many=az m:=by simpa [lg,bj] using IZ
   have e2:oq=cg m:=by simpa [mj] using Fg
   subst e1 e2
   exact bx _ _ ⟨_,_,rfl,h4,s3⟩
  obtain ⟨gy,st',c1,y,m1,k,rfl,rfl,AU,e2,e3⟩:=hst.last (by intro z;rw [z] at c;cases c)
  have E5:az m1=1+bj m1.ks:=by cases m1;rw [az];rfl
  have QO:cg m1=1+ji m1.ks:=by cases m1;rw [cg];rfl
  have NN:lg (st'++[(m1,k)])=lg st'+(1+bj m1.ks):=by
   unfold lg
   rw [Qm,d6,List.map_cons,List.map_nil,bj,bj,E5]
   omega
  rw [NN] at IZ ⊢
  rw [jK] at Fg
  refine ⟨fun σ' H'=>∃ n',n' < lg st'+(1+bj m1.ks)/\∃ (ws:List V) (st:List (Mr×Nat)) (many oq:Nat) (v4 v5:Option V),σ'=[some v,some (.ref W),some (.int (many:Int)),some (.int (oq:Int)),v4,v5]/\n'=lg st/\H' W=some (.lst ws)/\om H' d ws st/\many+lg st=az m/\max oq (mj st)=cg m/\many<=400/\aa H H',fun σ' H' h=>h,?_⟩
  have AX:Tk H3 (upd H3 W (.lst gy)):=(Tk.refl).set g3 (by intro _ z;cases z)
  refine aZ (fun σ' H'=>σ'=[some v,some (.ref W),some (.int (many:Int)),some (.int (oq:Int)),some y,some (.int ((k+1:Nat):Int))]/\H'=upd H3 W (.lst gy)) (fun jb rh=>?_) ?_
  ·refine ⟨.inl ⟨rfl,_,ao.of g3⟩,W,_,.ref c1,rfl,rfl,g3,by simp,?_⟩
   rw [List.dropLast_concat]
   exact jO (AX _ _ e2) (rh _ _ ⟨rfl,rfl⟩)
  rintro σ' _ ⟨rfl,rfl⟩
  have g4:upd H3 W (.lst gy) W=some (.lst gy):=aA
  have s4:=s3.put (o:=.lst gy) fW
  have Fi:=AU.tk AX
  have BR:=e3.tk AX
  generalize upd H3 W (.lst gy)=H4 at g4 s4 Fi BR
  refine aZ (fun σ' H'=>σ'=[some v,some (.ref W),some (.int ((many+1:Nat):Int)),some (.int (oq:Int)),some y,some (.int ((k+1:Nat):Int))]/\H4=H') (fun jb rh=>?_) ?_
  ·exact ⟨_,rfl,_,_,rfl,rfl,rh _ _ ⟨rfl,rfl⟩⟩
  rintro σ' _ ⟨rfl,rfl⟩
  refine ⟨_,rfl,aj (fun c=>?_) (fun c=>aG ?_)⟩
  ·have:=Qt c
   exact n6 (n:=400) (by omega) s4 (k2 (by omega))
  have QU:=Qu c
  refine aK ⟨_,_,rfl,?_⟩
  have NO:(if ((k+1:Nat):Int) > (oq:Int) then ((k+1:Nat):Int) else (oq:Int))=((max oq (k+1):Nat):Int):=by split<;>omega
  rw [NO]
  obtain ⟨ks,sh,ok,hks⟩:=BR.kids
  have ef:=hks.len
  have iy:=dU m1.ks
  dsimp only
  refine ⟨.inl ⟨rfl,_,ao.of g4⟩,y,ks,rfl,sh.qf ok,fun L H6 hL gL s6=>Or.inl ⟨⟨ks,ao.of gL⟩,fun D hD=>?_⟩⟩
  refine iR (fH ks) (fun i τ H7=>(∃ zs,H7 D=some (.lst zs)/\om H7 d zs ((m1.ks.take i).map fun z=>(z,k+1)))/\aa H6 H7/\∃ v1,τ=[v1,some (.int ((k+1:Nat):Int))]) ⟨⟨[],aA,rfl,fun j h=>nomatch h⟩,aa.upd hD _,none,rfl⟩ (fun i τ H7 _ h=>ao.of (h.2.1 _ _ gL)) ?_ ?_
  ·rintro i τ H7 hi ⟨⟨zs,q1,q2⟩,q3,v1,rfl⟩
   have I0:i < m1.ks.length:=by omega
   have eg:ks.getD i .af=ks[i]:=by simp [Qb,hi]
   rw [eg]
   refine ⟨(show 2<=sizeLine by decide),fun t ht=>?_⟩
   have e1:((k+1:Nat):Int)+1=((k+1+1:Nat):Int):=by omega
   rw [e1]
   have BX:=aa.upd ht (.tup [ks[i],.int ((k+1+1:Nat):Int)])
   have gt:upd H7 t (.tup [ks[i],.int ((k+1+1:Nat):Int)]) t=some (.tup [ks[i],.int ((k+1+1:Nat):Int)]):=aA
   generalize upd H7 t (.tup [ks[i],.int ((k+1+1:Nat):Int)])=H8 at BX gt
   have A1:=BX _ _ q1
   have tk:Tk H8 (upd H8 D (.lst (zs++[.ref t]))):=(Tk.refl).set A1 fun _ z=>nomatch z
   have Fj:=q2.len
   simp at Fj
   refine ⟨zs,A1,by omega,⟨zs++[.ref t],aA,?_⟩,(q3.trans BX).put hD,_,rfl⟩
   rw [Qs,Qa I0,Qm]
   refine ((q2.tk BX.ts).tk tk).app ⟨rfl,fun j a b=>?_⟩
   obtain rfl:j=0:=by simp at a;omega
   exact ⟨t,ks[i],rfl,tk _ _ gt,((hks.at_ i hi I0).tk ((s6.trans q3).trans BX).ts).tk tk⟩
  ·rintro τ H7 ⟨⟨zs,q1,q2⟩,q3,v1,rfl⟩
   rw [List.take_of_length_le (by omega)] at q2
   have Fj:=q2.len
   simp at Fj
   have QV:=Fi.len
   have I_:st'.length<=lg st':=by
    have:=dU (st'.map (·.1))
    simpa [lg] using this
   have Fk:=s6.trans q3
   have g7:=Fk _ _ g4
   have tk:Tk H7 (upd H7 W (.lst (gy++zs))):=(Tk.refl).set g7 fun _ z=>nomatch z
   refine ⟨W,D,_,_,rfl,rfl,g7,q1,by omega,?_⟩
   have QW:lg (st'++m1.ks.map fun z=>(z,k+1))=lg st'+bj m1.ks:=by
    unfold lg
    rw [Qm,d6,List.map_map]
    congr 2
    exact List.map_id' _
   have QX:=lF k m1.ks
   refine ⟨_,?_,_,st'++m1.ks.map (fun z=>(z,k+1)),many+1,max oq (k+1),_,_,rfl,rfl,aA,((Fi.tk Fk.ts).app q2).tk tk,by omega,?_,by omega,(s4.trans Fk).put fW⟩
   ·omega
   ·rw [jK]
    simp only [mj] at Fg
    omega
def uf (H:Hp) (pl bc:V) (m:Mr):Prop:=if dj m=true then pl=.af/\bc=.af else ∃ pa,pl=.ref pa/\H pa=some (.tup (fq (cj m).1))/\(match (cj m).2 with | none=>bc=.af | some c=>aq H 80 bc c)
def yd (H:Hp) (kt:Addr):Kd->Prop
 | .val=>H kt=some (.tup [.str "value"])
 | .stuck p=>∃ pa,H kt=some (.tup [.str "stuck",.ref pa])/\H pa=some (.tup (fq p))
 | .on=>H kt=some (.tup [.str "on"])
def A4 (H:Hp) (t:Addr) (m:Mr) (dn:Nat) (kd:Kd):Prop:=∃ mv kt,H t=some (.tup [mv,.int (dn:Int),.ref kt])/\yd H kt kd/\aq H 40 mv m
def NP:Sp:=fun vs H Q E=>∃ (v:V) (n:Nat) (m:Mr),vs=[v,.int (n:Int)]/\n<=100000/\aq H 40 v m/\az m<=400/\(match fh n 0 m with | .inl k=>vy mg H E k | .inr (m',dn,kd)=>∀ t H',aa H H'->A4 H' t m' dn kd->Q (.ref t) H')
theorem tG {R:Addr} {m:Mr} (h:if dj m=true then H R=some (.tup [.af,.af]) else ∃ pa r,H R=some (.tup [.ref pa,r])/\H pa=some (.tup (fq (cj m).1))/\(match (cj m).2 with | none=>r=.af | some c=>aq H (2*40) r c)):∃ pl bc,H R=some (.tup [pl,bc])/\uf H pl bc m:=by
 unfold uf
 by_cases c:dj m=true
 ·rw [if_pos c] at h
  exact ⟨_,_,h,by rw [if_pos c];exact ⟨rfl,rfl⟩⟩
 ·rw [if_neg c] at h
  obtain ⟨pa,r,h1,h2,h3⟩:=h
  exact ⟨_,_,h1,by rw [if_neg c];exact ⟨pa,rfl,h2,h3⟩⟩
theorem vy.mono {H1:Hp} {E:XK} (k:vy mg H E n) (s:aa H H1):vy mg H1 E n:=fun e dx H' s' h1 h2=>k e dx H' (s.trans s') h1 h2
theorem m9 {v:V} {m:Mr} (h:aq H d v m):∃ a,v=.ref a:=by
 obtain ⟨k,vs,_,sh,_⟩:=h.out
 obtain ⟨a,_,e,_⟩:=sh.ref
 exact ⟨a,e⟩
theorem nF {dn:Nat} {m:Mr} (h:nu m=none\/n=0):fh n dn m=.inr (m,dn,qi m):=by
 cases n with
 | zero=>rfl
 | succ n=>
  rcases h with h | h
  ·rw [fh,h]
  ·cases h
theorem xT (T:Txt K mg w):xo P w K mg base 46 "run" ["maker","n"] (NP (mg:=mg)):=by
 have iM:bf P w K mg base 45 "next_step" ["maker"] (IU 40):=lR T 40 (by omega)
 have gG:bf P w K mg base 43 "replaced" ["maker","place","other"] (Fd 41 120):=o5 T 41 120
 have jN:xo P w K mg base 3 "refuse_large" ["maker"] (IY (mg:=mg) 120):=iX T 120
 refine T.M7.HZ eR (fun vs H Q E h=>?_) (fun f ay A outer s H vs Q E hr h=>?_)
 ·obtain ⟨v,n,m,rfl,_⟩:=h
  rfl
 ·refine hdn fun Gz9 zG9=>?_;obtain ⟨v,n,m,rfl,hn,hm,hc,k⟩:=h;refine zG9 ?_
  have hu:=bF hr
  have br:=Qx (bF hr)
  have hsz:sizeLine=16777216:=QL
  refine ⟨_,(aE (aV (i:=2) eR.nd rfl (Or.inl rfl) aF)
   (aE (fR (bH iM (hr.mono (by omega)) (aD (zv 0) aC)) (dQ K (n:=2) rfl (bC (aU (i:=3) eR.nd rfl (Or.inl rfl)) (bC (aU (i:=4) eR.nd rfl (Or.inl rfl)) cR))))
   (aE (gP PassesOwn.leaving (eM (aL mM (zv 2) (zv 1) (bq _)) (dD (aL qO (zv 4) cZ (bq _)))).pt (aE (aV (i:=0) eR.nd rfl (Or.inl rfl) (bH gG (hr.mono (by omega)) (aD (zv 0) (aD (zv 3) (aD (zv 4) aC)))))
   (aE (eC (MP jN (hr.mono (by omega)) (aD (zv 0) aC)))
   (aE (nQ (i:=2) eR.nd rfl (Or.inl rfl) aF mC)
   (aH (fR (bH iM (hr.mono (by omega)) (aD (zv 0) aC)) (dQ K (n:=2) rfl (bC (aU (i:=3) eR.nd rfl (Or.inl rfl)) (bC (aU (i:=4) eR.nd rfl (Or.inl rfl)) cR)))))))))
   (aE (bI (aL jU (zv 3) cZ (bq _)) (aH (aT (aN (aD (zv 0) (aD (zv 2) (aW (aN (aB aJ aC)) aC)))))) aS)
   (aE (bI (aL jU (zv 4) cZ (bq _)) (aH (aT (aN (aD (zv 0) (aD (zv 2) (aW (aN (aB aJ (aD (zv 3) aC))) aC)))))) aS)
   (aH (aT (aN (aD (zv 0) (aD (zv 2) (aW (aN (aB aJ aC)) aC))))))))))),?_⟩
  refine dP ?_
  refine aZ (fun σ' H'=>∃ pl bc,σ'=[some v,some (.int (n:Int)),some (.int 0),some pl,some bc]/\uf H' pl bc m/\aa H H') ?_ ?_
  ·intro nx bx
   refine ⟨v,m,rfl,hm,by omega,fun R H1 s1 h1=>?_⟩
   obtain ⟨pl,bc,e1,e2⟩:=tG h1
   exact jO e1 (bx _ _ ⟨pl,bc,rfl,e2,s1⟩)
  rintro σ' H1 ⟨pl,bc,rfl,NQ,s1⟩
  refine aZ (fun σ' H'=>∃ (v':V) (m':Mr) (dn:Nat) (pl bc:V),σ'=[some v',some (.int (n:Int)),some (.int (dn:Int)),some pl,some bc]/\aq H' 40 v' m'/\uf H' pl bc m'/\aa H H'/\fh n 0 m=.inr (m',dn,qi m')) ?_ ?_
  ·intro nx bx
   refine ⟨fun mm σ' H'=>∃ (v':V) (m':Mr) (dn:Nat) (pl bc:V),σ'=[some v',some (.int (n:Int)),some (.int (dn:Int)),some pl,some bc]/\mm=n - dn/\dn<=n/\aq H' 40 v' m'/\az m'<=400/\uf H' pl bc m'/\aa H H'/\fh n 0 m=fh (n - dn) dn m',⟨_,v,m,0,pl,bc,rfl,rfl,by omega,hm.tk s1.ts,hc,NQ,s1,rfl⟩,?_⟩
   rintro mm σ' H2 ⟨v',m',dn,BW,Fl,rfl,rfl,AN,hm',oz,jb,s2,jy⟩
   have stop:(nu m'=none\/n - dn=0)->nx [some v',some (.int (n:Int)),some (.int (dn:Int)),some BW,some Fl] H2:=fun h=>bx _ _ ⟨v',m',dn,BW,Fl,rfl,hm',jb,s2,by rw [jy,nF h]⟩
   refine ⟨_,rfl,aj (fun c=>?_) (fun c=>dw (stop (.inr ?_)))⟩
   rotate_left
   ·have:=Qu c
    omega
   have b_:dn < n:=by have:=Qt c;omega
   by_cases hv:dj m'=true
   ·unfold uf at jb
    rw [if_pos hv] at jb
    obtain ⟨rfl,rfl⟩:=jb
    refine ⟨_,rfl,aj (fun c=>absurd c (by decide)) (fun _=>stop (.inl ?_))⟩
    unfold nu
    rw [if_pos hv]
   have Fo:=jb
   unfold uf at Fo
   rw [if_neg hv] at Fo
   obtain ⟨pa,rfl,A2,ug⟩:=Fo
   cases hz:(cj m').2 with
   | none=>
    rw [hz] at ug
    subst ug
    refine ⟨_,rfl,aj (fun c=>absurd c (by decide)) (fun _=>stop (.inl ?_))⟩
    unfold nu
    rw [if_neg hv,hz]
    rfl
   | some c1=>
    rw [hz] at ug
    obtain ⟨ab,rfl⟩:=m9 ug
    refine ⟨_,rfl,aj (fun _=>?_) (fun c=>absurd c (by simp))⟩
    have hst:nu m'=some (gm c1 (cj m').1 m'):=by
     unfold nu
     rw [if_neg hv,hz]
     rfl
    have hpl:=m6 _ m' (Qy _)
    have QY:=hpl.len
    have Q0:=hm'.dep
    have Du:=oC _ m' (Qy _) hz
    have NR:=oS c1 (cj m').1 m'
    have Q2:az m'*az m'<=400*400:=Nat.mul_le_mul oz oz
    obtain ⟨j,hj⟩:∃ j,n - dn=j+1:=⟨n - dn - 1,by omega⟩
    have jz:fh n 0 m=if 400 < az (gm c1 (cj m').1 m') then .inl 400 else if 40 < cg (gm c1 (cj m').1 m') then .inl 40 else fh j (dn+1) (gm c1 (cj m').1 m'):=by
     rw [jy,hj,fh,hst]
    generalize BY:gm c1 (cj m').1 m'=m2 at hst NR jz
    refine ⟨fun σ' H'=>∃ BZ,BZ < n - dn/\∃ (v':V) (m':Mr) (dn:Nat) (pl bc:V),σ'=[some v',some (.int (n:Int)),some (.int (dn:Int)),some pl,some bc]/\BZ=n - dn/\dn<=n/\aq H' 40 v' m'/\az m'<=400/\uf H' pl bc m'/\aa H H'/\fh n 0 m=fh (n - dn) dn m',fun σ' H' h=>h,?_⟩
    refine aK ⟨v',.ref ab,pa,(cj m').1,m',c1,40,80,rfl,A2,by omega,hm',hpl,ug,by omega,by omega,fun r H3 s3 vz=>?_⟩
    rw [BY] at vz
    dsimp only
    refine aZ (fun σ' H'=>σ'=[some r,some (.int (n:Int)),some (.int (dn:Int)),some (.ref pa),some (.ref ab)]/\aa H3 H'/\az m2<=400/\cg m2<=40) (fun jb rh=>?_) ?_
    ·refine ⟨r,m2,rfl,vz,by omega,fun h1 h2 H4 s4=>rh _ _ ⟨rfl,s4,h1,h2⟩,fun h1=>?_,fun h1 h2=>?_⟩
     ·rw [if_pos h1] at jz
      rw [jz] at k
      exact vy.mono k (s2.trans s3)
     ·rw [if_neg (by omega),if_pos h2] at jz
      rw [jz] at k
      exact vy.mono k (s2.trans s3)
    rintro σ' H4 ⟨rfl,s4,h1,h2⟩
    rw [if_neg (by omega),if_neg (by omega)] at jz
    refine aZ (fun σ' H'=>σ'=[some r,some (.int (n:Int)),some (.int ((dn+1:Nat):Int)),some (.ref pa),some (.ref ab)]/\H4=H') (fun jb rh=>?_) ?_
    ·exact ⟨_,rfl,_,_,rfl,rfl,rh _ _ ⟨rfl,rfl⟩⟩
    rintro σ' _ ⟨rfl,rfl⟩
    have B0:aq H4 40 r m2:=(vz.tk s4.ts).low h2
    refine ⟨r,m2,rfl,B0,by omega,fun R H5 s5 h5=>?_⟩
    obtain ⟨NS,NT,e1,e2⟩:=tG h5
    refine jO e1 ?_
    exact ⟨_,by omega,r,m2,dn+1,NS,NT,rfl,rfl,by omega,B0.tk s5.ts,h1,e2,((s2.trans s3).trans s4).trans s5,by rw [jz];congr 1;omega⟩
  ·rintro σ' H2 z0;refine hdn fun Gz9 zG9=>?_;obtain ⟨v',m',dn,BW,Fl,rfl,hm',jb,s2,jy⟩:=z0;refine zG9 ?_
   rw [jy] at k
   have fin:∀ (xs:List V) (H3:Hp),aa H2 H3->(∀ kt H4,H4 kt=some (.tup xs)->aa H3 H4->yd H4 kt (qi m'))->∀ kt,H3 kt=none->([v',.int (dn:Int),V.ref kt].length<=sizeLine/\∀ p,upd H3 kt (.tup xs) p=none->Q (.ref p) (upd (upd H3 kt (.tup xs)) p (.tup [v',.int (dn:Int),.ref kt]))):=fun xs H3 s3 hk kt Aa=>by
    refine ⟨(show 3<=sizeLine by decide),fun p hp=>?_⟩
    have s4:=aa.upd Aa (.tup xs)
    have s5:=aa.upd hp (.tup [v',.int (dn:Int),.ref kt])
    refine k p _ (((s2.trans s3).trans s4).trans s5) ⟨v',kt,aA,hk kt _ (s5 _ _ aA) (s4.trans s5),hm'.tk ((s3.trans s4).trans s5).ts⟩
   by_cases hv:dj m'=true
   ·unfold uf at jb
    rw [if_pos hv] at jb
    obtain ⟨rfl,rfl⟩:=jb
    refine ⟨_,rfl,aj (fun _=>?_) (fun c=>absurd c (by decide))⟩
    refine ⟨(show 1<=sizeLine by decide),fun kt Aa=>fin _ H2 (aa.refl _) (fun kt H4 e _=>?_) kt Aa⟩
    unfold qi
    rw [if_pos hv]
    exact e
   unfold uf at jb
   rw [if_neg hv] at jb
   obtain ⟨pa,rfl,A2,ug⟩:=jb
   refine ⟨_,rfl,aj (fun c=>absurd c (by simp)) (fun _=>aG ?_)⟩
   cases hz:(cj m').2 with
   | none=>
    rw [hz] at ug
    subst ug
    refine ⟨_,rfl,aj (fun _=>?_) (fun c=>absurd c (by decide))⟩
    refine ⟨(show 2<=sizeLine by decide),fun kt Aa=>fin _ H2 (aa.refl _) (fun kt H4 e s4=>?_) kt Aa⟩
    unfold qi
    rw [if_neg hv,hz]
    exact ⟨pa,e,s4 _ _ A2⟩
   | some c1=>
    rw [hz] at ug
    obtain ⟨ab,rfl⟩:=m9 ug
    refine ⟨_,rfl,aj (fun c=>absurd c (by simp)) (fun _=>aX ?_)⟩
    refine ⟨(show 1<=sizeLine by decide),fun kt Aa=>fin _ H2 (aa.refl _) (fun kt H4 e _=>?_) kt Aa⟩
    unfold qi
    rw [if_neg hv,hz]
    exact e
theorem o6 {k:Nat} (r:dg k A):A.units+170 < cLine:=by have:=r.un;omega
def Fp:Sp:=fun vs H Q _=>∃ (v x:V) (f:au) (ks:List V) (i:Nat),vs=[v,.int (i:Int),x]/\dh H v f ks/\f.ok/\i < ks.length/\∀ v' H',aa H H'->dh H' v' f (ks.set i x)->Q v' H'
theorem Ab {K:QZ} {xs ys:List V} {Q:VK} (ha:H a=some (.tup xs)) (hb:H b=some (.tup ys)) (hx:xs≠[]) (hz:xs.length+ys.length<=sizeLine) (h:∀ p H',aa H H'->H' p=some (.tup (xs++ys))->Q (.ref p) H'):DL K (.ref a) (.ref b) H Q:=by
 refine ⟨a,b,xs,ys,rfl,rfl,ae.of ha,ae.of hb,hx,hz,fun e=>?_,fun _ p hp=>?_⟩
 ·subst e;exact h a H (aa.refl _) (by rw [QQ];exact ha)
 ·exact h p _ (aa.upd hp _) aA
theorem NU (xs:List V) (i:Nat):e_ xs (some (i:Int)) none=xs.drop i:=by
 unfold e_
 rw [HT.i0]
 simp only [HT.bg]
 by_cases h:i<=xs.length
 ·rw [Nat.min_eq_left h,List.take_of_length_le (by simp)]
 ·rw [Nat.min_eq_right (by omega)]
  simp
  omega
theorem NV (xs:List V) (i:Nat) (h:i<=xs.length):e_ xs none (some (i:Int))=xs.take i:=by
 unfold e_
 rw [HT.i0,Nat.min_eq_left h]
 simp [HT.bg]
theorem jw.set {H:Hp} {ls:List (List V)} {xs ms:List V} (h:jw H ls xs ms) {i:Nat} {c:Addr} {x:V} (hi:i < ls.length) (e:H c=some (.tup (ls[i]++[x]))):jw H ls (xs.set i (.ref c)) (ms.set i x):=by
 refine ⟨by simp [h.l1],by simp [h.l2],fun j h1 h2 h3=>?_⟩
 rw [List.getElem_set,List.getElem_set]
 by_cases hj:i=j
 ·subst hj
  rw [if_pos rfl,if_pos rfl]
  exact ⟨c,rfl,e⟩
 ·rw [if_neg hj,if_neg hj]
  exact h.at_ j (by simpa using h1) (by simpa using h2) h3
theorem xC {p:Addr} {f:au} {ks ys:List V} {x:V} (sh:dh H (.ref a) f ks) (ea:H a=some (.tup (.str f.ak::ys))) (hi:i < ks.length) (n1:f.ak≠"fn") (n2:f.ak≠"pick") (n3:f.ak≠"box") (n4:f.ak="split"->i=0) (s:aa H H') (e:H' p=some (.tup ((.str f.ak::ys).take (i+1)++[x]++(.str f.ak::ys).drop (i+2)))):dh H' (.ref p) f (ks.set i x):=by
 cases sh with
 | get _=>simp at hi
 | fn _=>exact absurd rfl n1
 | pick _=>exact absurd rfl n2
 | ck _ _ _=>exact absurd rfl n3
 | call e0=>
  rw [e0] at ea
  cases ea
  match i,hi with
  | 0,_=>exact .call e
  | 1,_=>exact .call e
 | part e0=>
  rw [e0] at ea
  cases ea
  obtain rfl:i=0:=by simp at hi;omega
  exact .part e
 | hold e0=>
  rw [e0] at ea
  cases ea
  obtain rfl:i=0:=by simp at hi;omega
  exact .hold e
 | split e0 e1 r=>
  rw [e0] at ea
  cases ea
  obtain rfl:=n4 rfl
  exact .split e (s _ _ e1) (r.tk s.ts)
theorem NW {G:Prop} (X:Prop) (h2:X->G) (h1:X):G:=h2 h1
theorem eP (T:Txt K mg w):bf P w K mg base 1 "_law_rebuilt" ["_law_maker","_law_at","_law_one"] Fp:=by
 refine T.kW.di cL (fun vs H Q E h=>?_) (fun f ay A outer s H vs Q E hr h=>?_)
 ·obtain ⟨v,x,f,ks,i,rfl,_⟩:=h
  rfl
 ·refine hdn fun Gz9 zG9=>?_;obtain ⟨v,x,f,ks,i,rfl,sh,ok,hi,k⟩:=h;refine zG9 ?_
  have hu:=bF hr
  have br:=Qx (bF hr)
  have hsz:sizeLine=16777216:=QL
  refine ⟨_,(aE (aV (i:=3) cL.nd rfl (Or.inl rfl) (aO (aQ K) (zv 0) aF (fun _ _=>rfl)))
   (aE (bI (aL (iE K) (zv 3) (aN (aB aJ (aB aJ aC))) rfl) (aH (aT (bK (dW K) (cC (iZ K) (zv 0) cD (cE (wA mK aF))) (aN (aD (zv 2) aC))))) aS)
   (aE (bI (aL (bA br) (zv 3) aJ (bq _)) (aE (aV (i:=4) cL.nd rfl (Or.inl rfl) (dS (l6 K) (by rfl) T.sY PyProof.Rows.boot_list (aI (aO (aQ K) (zv 0) aF (fun _ _=>rfl)) aC)))
   (aE (fR (aN (aI (aO (aQ K) (aO (aQ K) (zv 4) (zv 1) (fun _ _=>rfl)) aF (fun _ _=>rfl)) (aD (zv 2) aC))) (lC (zv 4) (zv 1) dN))
   (aH (aT (aN (aB aJ (bY (dS (fM K) (by rfl) T.jH PyProof.Rows.boot_tuple (aD (zv 4) aC)) aC))))))) aS)
   (aE (bI (eM (aL (bA br) (zv 3) aJ (bq _)) (dD (aL i3 (zv 1) aF (bq _)))).pt (aE (aV (i:=4) cL.nd rfl (Or.inl rfl) (dS (l6 K) (by rfl) T.sY PyProof.Rows.boot_list (aI (aO (aQ K) (zv 0) aF (fun _ _=>rfl)) aC)))
   (aE (fR (bK (dW K) (cC (iZ K) (aO (aQ K) (zv 4) (bK mI (zv 1) aF) (fun _ _=>rfl)) cD (cE aF)) (aN (aD (zv 2) aC))) (lC (zv 4) (bK mI (zv 1) aF) dN))
   (aH (aT (bK (dW K) (cC (iZ K) (zv 0) cD (cE aF)) (aN (bY (dS (fM K) (by rfl) T.jH PyProof.Rows.boot_tuple (aD (zv 4) aC)) aC))))))) aS)
   (aH (aT (bK (dW K) (bK (dW K) (cC (iZ K) (zv 0) cD (cE (bK bJ (zv 1) aF))) (aN (aD (zv 2) aC))) (cC (iZ K) (zv 0) (cE (bK bJ (zv 1) aF)) cD)))))))),?_⟩
  obtain ⟨a,ys,rfl,ea⟩:=sh.ref
  refine aK ⟨_,.str f.ak,.inr (ae.of ea),aR _ _,?_⟩
  dsimp only
  refine ⟨(show 2<=sizeLine by decide),fun b1 d_=>⟨_,.inr (ae.of aA),rfl,rfl,_,rfl,?_⟩⟩
  have s1:=aa.upd d_ (.tup [.str "fn",.str "pick"])
  generalize upd H b1 (.tup [.str "fn",.str "pick"])=H1 at s1
  by_cases hb:f.ak≠"fn"/\f.ak≠"pick"/\f.ak≠"box"/\(f.ak="split"->i=0)
  ·obtain ⟨n1,n2,n3,n4⟩:=hb
   have gen:=fun p H' x=>xC (H':=H') (p:=p) (x:=x) sh ea hi n1 n2 n3 n4
   have NX:ys.length=2/\i<=1:=by
    cases sh with
    | get e0=>simp at hi
    | call e0=>rw [e0] at ea;cases ea;simp at hi ⊢;omega
    | part e0=>rw [e0] at ea;cases ea;simp at hi ⊢;omega
    | hold e0=>rw [e0] at ea;cases ea;simp at hi ⊢;omega
    | split e0 _ _=>rw [e0] at ea;cases ea;have:=n4 rfl;simp;omega
    | fn _=>exact absurd rfl n1
    | pick _=>exact absurd rfl n2
    | ck _ _ _=>exact absurd rfl n3
   have e0:yw (.str f.ak) [.str "fn",.str "pick"]=false:=by
    cases f<;>first | exact absurd rfl n1 | exact absurd rfl n2 | (simp only [au.ak];decide+kernel)
   rw [e0]
   refine aj (fun c=>absurd c (by decide)) (fun _=>aG ?_)
   refine ⟨rfl,_,rfl,aj (fun c=>absurd (V.str.inj (Qt ((QE _).symm.trans c))) n3) (fun _=>aG ?_)⟩
   have Dm:=s1 _ _ ea
   refine NW ?X (fun fin=>?h2) ?h1
   case h2=>
    refine ⟨rfl,_,rfl,aj (fun c=>?_) (fun c=>dw ?_)⟩
    rotate_left
    ·exact fin
    have hs:=V.str.inj (Qt ((QE _).symm.trans c))
    refine ⟨_,rfl,aj (fun c=>absurd c (by rw [n4 hs];decide)) (fun _=>?_)⟩
    exact fin
   case h1=>
    have fb:(V.str f.ak::ys).length=3:=by simp [NX.1]
    refine ⟨((i+1:Nat):Int),by simp,Or.inr (Or.inr ⟨a,_,rfl,ae.of Dm,?_,fun p1 ky=>?_⟩)⟩
    ·rw [HT.i0,fb]
     simp only [HT.bg]
     omega
    rw [NV _ _ (by rw [fb];omega)]
    have s2:=aa.upd ky (.tup ((V.str f.ak::ys).take (i+1)))
    have g2:upd H1 p1 (.tup ((V.str f.ak::ys).take (i+1))) p1=some (.tup ((V.str f.ak::ys).take (i+1))):=aA
    generalize upd H1 p1 (.tup ((V.str f.ak::ys).take (i+1)))=H2 at s2 g2
    refine ⟨(show 1<=sizeLine by decide),fun p2 jg=>?_⟩
    have s3:=aa.upd jg (.tup [x])
    refine Ab (s3 _ _ g2) aA (by simp) (by simp;omega) fun p3 H4 s4 e4=>?_
    have NY:=s4 _ _ (s3 _ _ (s2 _ _ Dm))
    refine ⟨((i+2:Nat):Int),by simp,Or.inr (Or.inr ⟨a,_,rfl,ae.of NY,?_,fun p5 NZ=>?_⟩)⟩
    ·rw [HT.i0,fb]
     simp only [HT.bg]
     omega
    rw [NU]
    have s5:=aa.upd NZ (.tup ((V.str f.ak::ys).drop (i+2)))
    refine Ab (s5 _ _ e4) aA (by simp) (by simp;omega) fun p6 H6 s6 e6=>?_
    have Ja:=((((s1.trans s2).trans s3).trans s4).trans s5).trans s6
    exact k _ _ Ja (gen p6 H6 x Ja e6)
  cases sh with
  | @fn a v0 r0 m0 e=>
   simp only [au.ak]
   refine aj (fun _=>?_) (fun c=>absurd c (by decide+kernel))
   refine ⟨1,rfl, -1,rfl,Or.inr (Or.inr ⟨a,_,rfl,ae.of (s1 _ _ e),by simp [HT.bg],fun p1 ky=>⟨(show 1<=sizeLine by decide),fun p2 jg=>?_⟩⟩)⟩
   have s2:=aa.upd ky (.tup (e_ [.str "fn",.str v0,.str r0,m0] none (some (-1))))
   have s3:=aa.upd jg (.tup [x])
   refine Ab (xs:=[.str "fn",.str v0,.str r0]) (s3 _ _ aA) aA (by simp) (by simp [hsz]) fun p3 H4 s4 e4=>?_
   obtain rfl:i=0:=by simp at hi;omega
   exact k _ _ (((s1.trans s2).trans s3).trans s4) (.fn e4)
  | @pick a z0 m0 e=>
   simp only [au.ak]
   refine aj (fun _=>?_) (fun c=>absurd c (by decide+kernel))
   refine ⟨1,rfl, -1,rfl,Or.inr (Or.inr ⟨a,_,rfl,ae.of (s1 _ _ e),by simp [HT.bg],fun p1 ky=>⟨(show 1<=sizeLine by decide),fun p2 jg=>?_⟩⟩)⟩
   have s2:=aa.upd ky (.tup (e_ [.str "pick",.str z0,m0] none (some (-1))))
   have s3:=aa.upd jg (.tup [x])
   refine Ab (xs:=[.str "pick",.str z0]) (s3 _ _ aA) aA (by simp) (by simp [hsz]) fun p3 H4 s4 e4=>?_
   obtain rfl:i=0:=by simp at hi;omega
   exact k _ _ (((s1.trans s2).trans s3).trans s4) (.pick e4)
  | @ck a b ws xs ms e e1 rm=>
   simp only [au.ak]
   refine aj (fun c=>absurd c (by decide+kernel)) (fun _=>aG ?_)
   refine ⟨rfl,_,rfl,aj (fun _=>?_) (fun c=>absurd c (by decide+kernel))⟩
   have i_:=rm.l1
   have g_:=rm.l2
   have iy:(ip ws).length=ws.length:=by simp [ip]
   refine aK ⟨_,.ref b,.inr (ae.of (s1 _ _ e)),rfl,b,xs,rfl,.inr (ae.of (s1 _ _ e1)),fun L hL=>?_⟩
   have s2:=aa.upd hL (.lst xs)
   have gL:upd H1 L (.lst xs) L=some (.lst xs):=aA
   dsimp only
   generalize upd H1 L (.lst xs)=H2 at s2 gL
   obtain ⟨c,c1,c2⟩:=rm.at_ i (by omega) hi (by omega)
   have s12:=s1.trans s2
   simp only [ip,Qr,List.cons_append,List.nil_append] at c2
   refine aZ (fun σ' H'=>∃ t,σ'=[some (.ref a),some (.int (i:Int)),some x,some (.str "box"),some (.ref L)]/\H' L=some (.lst (xs.set i (.ref t)))/\H' t=some (.tup [.str (ws[i]'(by omega)),x])/\aa H H') ?_ ?_
   ·intro nx bx
    refine ⟨_,.ref c,.inl (ao.of gL),cB (by rw [Qa (by omega),c1]),_,.str (ws[i]'(by omega)),.inr (ae.of (s12 _ _ c2)),rfl,(show 2<=sizeLine by decide),fun t ht=>?_⟩
    have s3:=aa.upd ht (.tup [.str (ws[i]'(by omega)),x])
    have gt:upd H2 t (.tup [.str (ws[i]'(by omega)),x]) t=some (.tup [.str (ws[i]'(by omega)),x]):=aA
    generalize upd H2 t (.tup [.str (ws[i]'(by omega)),x])=H3 at s3 gt
    have vt:=s3 _ _ gL
    have tk:Tk H3 (upd H3 L (.lst (xs.set i (.ref t)))):=(Tk.refl).set vt fun _ z=>nomatch z
    refine ⟨L,xs,_,i,rfl,rfl,vt,by unfold qx;simp;omega,bx _ _ ⟨t,rfl,aA,tk _ _ gt,(s12.trans s3).put (s1.free hL)⟩⟩
   ·rintro σ' H3 ⟨t,rfl,vt,gt,s3⟩
    refine ⟨L,_,rfl,.inl ⟨ao.of vt,fun p hp=>?_⟩⟩
    have s4:=aa.upd hp (.tup (xs.set i (.ref t)))
    have gp:upd H3 p (.tup (xs.set i (.ref t))) p=some (.tup (xs.set i (.ref t))):=aA
    generalize upd H3 p (.tup (xs.set i (.ref t)))=H4 at s4 gp
    refine ⟨(show 2<=sizeLine by decide),fun q hq=>?_⟩
    have s5:=aa.upd hq (.tup [.str "box",.ref p])
    have Jb:=(s3.trans s4).trans s5
    refine k _ _ Jb (.ck aA (s5 _ _ gp) (jw.set (rm.tk Jb.ts) (by omega) ?_))
    simp only [ip,Qr]
    exact s5 _ _ (s4 _ _ gt)
  | @split a b cs m0 xs ms e e1 rm=>
   simp only [au.ak]
   have Fq:i≠0:=fun z=>hb ⟨by simp only [au.ak];decide+kernel,by simp only [au.ak];decide+kernel,by simp only [au.ak];decide+kernel,fun _=>z⟩
   obtain ⟨j,rfl⟩:∃ j,i=j+1:=⟨i - 1,by omega⟩
   simp only [List.length_cons] at hi
   refine aj (fun c=>absurd c (by decide+kernel)) (fun _=>aG ?_)
   refine ⟨rfl,_,rfl,aj (fun c=>absurd c (by decide+kernel)) (fun _=>aG ?_)⟩
   refine ⟨rfl,_,rfl,aj (fun _=>?_) (fun c=>absurd c (by decide+kernel))⟩
   refine ⟨_,rfl,aj (fun _=>?_) (fun c=>absurd (Qu c) (by omega))⟩
   have i_:=rm.l1
   have g_:=rm.l2
   have iy:(fu cs).length=cs.length:=by simp [fu]
   have ej:((j+1:Nat):Int) - 1=(j:Int):=by omega
   refine aK ⟨_,.ref b,.inr (ae.of (s1 _ _ e)),rfl,b,xs,rfl,.inr (ae.of (s1 _ _ e1)),fun L hL=>?_⟩
   have s2:=aa.upd hL (.lst xs)
   have gL:upd H1 L (.lst xs) L=some (.lst xs):=aA
   dsimp only
   generalize upd H1 L (.lst xs)=H2 at s2 gL
   obtain ⟨c,c1,c2⟩:=rm.at_ j (by omega) (by omega) (by omega)
   have s12:=s1.trans s2
   simp only [fu,Qr,List.cons_append,List.nil_append] at c2
   refine aZ (fun σ' H'=>∃ t,σ'=[some (.ref a),some (.int ((j+1:Nat):Int)),some x,some (.str "split"),some (.ref L)]/\H' L=some (.lst (xs.set j (.ref t)))/\H' t=some (.tup [.str (cs[j]'(by omega)).1,.str (cs[j]'(by omega)).2,x])/\aa H H') ?_ ?_
   ·intro nx bx
    refine ⟨_,.ref c,.inl (ao.of gL),by rw [ej];exact cB (by rw [Qa (by omega),c1]),2,rfl,Or.inr (Or.inr ⟨c,_,rfl,ae.of (s12 _ _ c2),by simp [HT.bg],fun p1 ky=>⟨(show 1<=sizeLine by decide),fun p2 jg=>?_⟩⟩)⟩
    have s3:=aa.upd ky (.tup (e_ [.str (cs[j]'(by omega)).1,.str (cs[j]'(by omega)).2,ms[j]'(by omega)] none (some 2)))
    have s4:=aa.upd jg (.tup [x])
    refine Ab (xs:=[.str (cs[j]'(by omega)).1,.str (cs[j]'(by omega)).2]) (s4 _ _ aA) aA (by simp) (by simp [hsz]) fun t H5 s5 gt=>?_
    have Jc:=(s3.trans s4).trans s5
    have Jd:=Jc _ _ gL
    have tk:Tk H5 (upd H5 L (.lst (xs.set j (.ref t)))):=(Tk.refl).set Jd fun _ z=>nomatch z
    refine ⟨L,xs,_,j,rfl,rfl,Jd,by rw [ej];unfold qx;simp;omega,bx _ _ ⟨t,rfl,aA,tk _ _ gt,(s12.trans Jc).put (s1.free hL)⟩⟩
   ·rintro σ' H3 ⟨t,rfl,vt,gt,s3⟩
    refine ⟨2,rfl,Or.inr (Or.inr ⟨a,_,rfl,ae.of (s3 _ _ e),by simp [HT.bg],fun p1 ky=>?_⟩)⟩
    have s4:=aa.upd ky (.tup [.str "split",m0])
    have g1:upd H3 p1 (.tup [.str "split",m0]) p1=some (.tup [.str "split",m0]):=aA
    show Bl (GZ K) _ _ (upd H3 p1 (.tup [.str "split",m0])) _
    generalize upd H3 p1 (.tup [.str "split",m0])=H4 at s4 g1
    refine ⟨L,_,rfl,.inl ⟨ao.of (s4 _ _ vt),fun p hp=>?_⟩⟩
    have s5:=aa.upd hp (.tup (xs.set j (.ref t)))
    have gp:upd H4 p (.tup (xs.set j (.ref t))) p=some (.tup (xs.set j (.ref t))):=aA
    generalize upd H4 p (.tup (xs.set j (.ref t)))=H5 at s5 gp
    refine ⟨(show 1<=sizeLine by decide),fun p2 jg=>?_⟩
    have s6:=aa.upd jg (.tup [.ref p])
    refine Ab (s6 _ _ (s5 _ _ g1)) aA (by simp) (by simp [hsz]) fun q H7 s7 eq=>?_
    have Je:=((s4.trans s5).trans s6).trans s7
    have A5:=s3.trans Je
    refine k _ _ A5 (.split eq (s7 _ _ (s6 _ _ gp)) (jw.set (rm.tk A5.ts) (by omega) ?_))
    simp only [fu,Qr]
    exact Je _ _ gt
  | _=>exact absurd ⟨by simp only [au.ak];decide+kernel,by simp only [au.ak];decide+kernel,by simp only [au.ak];decide+kernel,fun z=>absurd z (by simp only [au.ak];decide+kernel)⟩ hb
theorem Jf {G:Prop} (X C:Prop) (h2:(C->X)->G) (h1:C->X):G:=h2 h1
theorem pW (T:Txt K mg w) (e:Nat):∀ d:Nat,d<=45->bf P w K mg base (2+d) "_law_put" ["_law_maker","_law_name","_law_value"] (A0 d e):=by
 intro n
 induction n with
 | zero=>
  intro _
  refine T.l7.di (k:=1) dE (fun vs H Q E h=>?_) (fun f ay A outer s H vs Q E hr h=>?_)
  ·obtain ⟨x,y,v,m,xm,rfl,_⟩:=h
   rfl
  ·refine hdn fun Gz9 zG9=>?_;obtain ⟨x,y,v,m,xm,rfl,h,_⟩:=h;refine zG9 ?_
   cases h
 | succ n ih=>
  intro Q3
  have fQ:bf P w K mg base (2+n) "_law_put" ["_law_maker","_law_name","_law_value"] (A0 n e):=ih (by omega)
  have bP:bf P w K mg base 1 "_law_parts" ["_law_maker"] mh:=cO T
  have dL:bf P w K mg base 1 "_law_rebuilt" ["_law_maker","_law_at","_law_one"] Fp:=eP T
  refine T.l7.di (k:=2+n) dE (fun vs H Q E h=>?_) (fun f ay A outer s H vs Q E hr h=>?_)
  ·obtain ⟨x,y,v,m,xm,rfl,_⟩:=h
   rfl
  ·refine hdn fun Gz9 zG9=>?_;obtain ⟨x,y,v,m,xm,rfl,hm,hx,k⟩:=h;refine zG9 ?_
   have hu:=bF hr
   have br:=Qx (bF hr)
   have Dn:=o6 hr
   have hsz:sizeLine=16777216:=QL
   refine ⟨_,(aE (bI (aL (qH Dn) (zv 0) (aN (aB aJ (aD (zv 1) aC))) (bq _)) (aH (aT (zv 2))) aS)
   (aE (bI (eM (aL (bA br) (aO (aQ K) (zv 0) aF (fun _ _=>rfl)) aJ (bq _)) (dD (aL (bA br) (aO (aQ K) (zv 0) aF (fun _ _=>rfl)) (zv 1) (bq _)))).pt (aH (aT (zv 0))) aS)
   (aE (aV (i:=3) dE.nd rfl (Or.inl rfl) (bH bP (hr.mono (by omega)) (aD (zv 0) aC)))
   (aE (fY PassesOwn.never rfl (h9 (by rfl) T.jF (bY (bV (cI K) (by rfl) T.ya PySem.boot_len (aD (zv 3) aC)) aC)) (aU (i:=4) dE.nd rfl (Or.inl rfl)) (aH (bI (yU (aL (p8 br) (aO (aQ K) (zv 0) aF (fun _ _=>rfl)) aJ (bq _)) (yU (aL (bA br) (zv 4) aF (bq _)) (xO (aL (p8 br) (aO (aQ K) (aO (aQ K) (aO (aQ K) (zv 0) aF (fun _ _=>rfl)) (bK mI (zv 4) aF) (fun _ _=>rfl)) aF (fun _ _=>rfl)) (zv 1) (bq _))))).pt (aH (aV (i:=0) dE.nd rfl (Or.inl rfl) (bH dL (hr.mono (by omega)) (aD (zv 0) (aD (zv 4) (bY (bH fQ (hr.mono (by omega)) (aI (aO (aQ K) (zv 3) (zv 4) (fun _ _=>rfl)) (aD (zv 1) (aD (zv 2) aC)))) aC)))))) aS)))
   (aH (aT (zv 0))))))),?_⟩
   obtain ⟨n',ks,en,sh,ok,ef,hks⟩:=hm.out
   obtain rfl:n'=n:=by omega
   have htd:=hm.td
   have Jg:=wW m v
   obtain ⟨f,ms⟩:=m
   dsimp only [Mr.f,Mr.ks] at sh ok ef hks Jg
   obtain ⟨a,ys,rfl,ea⟩:=sh.ref
   have hl:=sh.len
   refine ⟨(show 2<=sizeLine by decide),fun g hg=>?_⟩
   have s1:=aa.upd hg (.tup [.str "get",.str v])
   have gg:upd H g (.tup [.str "get",.str v]) g=some (.tup [.str "get",.str v]):=aA
   generalize upd H g (.tup [.str "get",.str v])=H1 at s1 gg
   refine ⟨3*(n'+1),1,_,.t [.s "get",.s v],a,g,by omega,rfl,rfl,htd.same s1,TD.tup (.inl gg) (.cons .str (.cons .str .nil)),fun bo Ac=>⟨_,rfl,?_⟩⟩
   rw [Jg] at Ac
   rw [QE]
   refine aj (fun c=>?_) (fun c=>aG ?_)
   ·have hf:=Ac.mp c
    subst hf
    refine k _ _ s1 ?_
    rw [ik,if_pos rfl]
    exact (hx.tk s1.ts).up (by omega)
   have E8:f≠.get v:=fun z=>by rw [Ac.mpr z] at c;cases c
   have Dm:=s1 _ _ ea
   refine Jf ?X (∀ v0 r0,f=.fn v0 r0->v0≠v) (fun fin=>?h2) ?h1
   case h2=>
    refine ⟨_,.str f.ak,.inr (ae.of Dm),aR _ _,⟨rfl,_,rfl,?_⟩⟩
    by_cases hf:f.ak="fn"
    ·rw [hf]
     refine aj (fun _=>?_) (fun c=>absurd c (by decide+kernel))
     cases sh with
     | @fn a v0 r0 b0 e0=>
      refine ⟨_,.str v0,.inr (ae.of (s1 _ _ e0)),rfl,⟨rfl,_,rfl,?_⟩⟩
      rw [QE]
      refine aj (fun c=>?_) (fun c=>?_)
      ·obtain rfl:=V.str.inj (Qt c)
       refine k _ _ s1 ?_
       obtain ⟨mb,rfl⟩:=ku ef.symm
       have:ik v0 xm (.mk (.fn v0 r0) [mb])=.mk (.fn v0 r0) [mb]:=by
        rw [ik,if_neg (by simp),fm,fm]
        simp [au.bnd]
       rw [this]
       exact (hm.tk s1.ts).up (by omega)
      ·have kj:=Qu c
       exact fin fun v1 r1 e1=>by
        cases e1
        exact fun z=>kj (by rw [z])
     | _=>exact absurd hf (by simp only [au.ak];decide+kernel)
    ·refine aj (fun c=>absurd (V.str.inj (Qt ((QE _).symm.trans c))) hf) (fun _=>dw ?_)
     exact fin fun v1 r1 e1=>by rw [e1] at hf;exact absurd rfl hf
   case h1=>
    intro Bb
    refine aG ?_
    refine aK ⟨.ref a,ks,rfl,(sh.qf ok).tk s1.ts,fun L H2 hL gL s2=>?_⟩
    have s12:=s1.trans s2
    have hpl:=jI v xm f ms 0
    have iu:=au.few ok
    dsimp only
    refine aZ (fun σ' H'=>∃ (vi:V) (v4:Option V) (ns:List V),σ'=[some vi,some (.str v),some y,some (.ref L),v4]/\dh H' vi f ns/\ns.length=ks.length/\(∀ j (h1:j < ns.length) (h2:j < (fm v xm f 0 ms).length),aq H' (n'+e) ns[j] (fm v xm f 0 ms)[j])/\aa H H') ?_ ?_
    rotate_left
    ·rintro σ' H3 z0;refine hdn fun Gz9 zG9=>?_;obtain ⟨vi,v4,ns,rfl,Ad,A6,nq,s3⟩:=z0;refine zG9 ?_
     refine k _ _ s3 ?_
     rw [ik,if_neg E8,show n'+1+e=(n'+e)+1 by omega]
     exact .mk Ad ok (by omega) nq
    intro nx bx
    refine Or.inl ⟨_,.inl (ao.of gL),_,rfl,by omega,by omega,?_⟩
    refine fZ (fL 0 ks.length) (fun i σ' H'=>∃ (vi:V) (v4:Option V) (ns:List V),σ'=[some vi,some (.str v),some y,some (.ref L),v4]/\dh H' vi f ns/\ns.length=ks.length/\(∀ j (h1:j < ns.length) (h2:j < (fm v xm f 0 ms).length),j < i->aq H' (n'+e) ns[j] (fm v xm f 0 ms)[j])/\(∀ j (h1:j < ns.length) (h2:j < ks.length),i<=j->ns[j]=ks[j])/\aa H2 H') ⟨.ref a,none,ks,rfl,sh.tk s12.ts,rfl,fun j _ _ h=>absurd h (by omega),fun j _ _ _=>rfl,aa.refl _⟩ (fun _ _ _ _ _=>trivial) ?_ ?_
    ·rintro i σ' H3 hi z0;refine hdn fun Gz9 zG9=>?_;obtain ⟨vi,v4,ns,rfl,Ad,A6,nq,Ft,s3⟩:=z0;refine zG9 ?_
     have ye:i < ms.length:=by omega
     have ez:(0:Int)+(i:Int)=(i:Int):=by omega
     rw [ez]
     have ep:=jX v xm f ms 0 i (by omega) ye
     rw [Nat.zero_add] at ep
     obtain ⟨ai,yi,rfl,N1⟩:=Ad.ref
     refine Jf ?Y (f.bnd i≠some v) (fun go=>?g2) ?g1
     case g2=>
      refine ⟨_,.str f.ak,.inr (ae.of N1),aR _ _,⟨rfl,_,rfl,?_⟩⟩
      by_cases hs:f.ak≠"split"
      ·refine aj (fun _=>y_ ?_) (fun c=>?_)
       ·exact go (by
         cases f with
         | fn v0 r0=>
          intro z
          cases i with
          | zero=>exact Bb v0 r0 rfl (QD z)
          | succ i=>cases z
         | split cs=>exact absurd rfl hs
         | _=>intro z;cases z)
       ·rw [Bool.true_xor] at c
        have:decide (V.str f.ak=V.str "split")=true:=by simpa using c
        exact absurd (V.str.inj (Qt this)) hs
      ·replace hs:f.ak="split":=Decidable.not_not.mp hs
       rw [hs]
       refine aj (fun c=>absurd c (by decide+kernel)) (fun _=>?_)
       refine ⟨rfl,_,rfl,?_⟩
       by_cases Fq:i=0
       ·refine aj (fun _=>y_ ?_) (fun c=>absurd (Qu ((QE _).symm.trans c)) (by simp [Fq]))
        exact go (by rw [Fq];cases f<;>first | exact absurd hs (by simp only [au.ak];decide+kernel) | (intro z;cases z))
       ·refine aj (fun c=>absurd (Qt ((QE _).symm.trans c)) (by simp;omega)) (fun _=>?_)
        obtain ⟨j,rfl⟩:∃ j,i=j+1:=⟨i - 1,by omega⟩
        have ej:((j+1:Nat):Int) - 1=(j:Int):=by omega
        cases Ad with
        | @split ai b cs m0 xs ps e0 e1 rm=>
         have i_:=rm.l1
         have g_:=rm.l2
         have iy:(fu cs).length=cs.length:=by simp [fu]
         simp only [List.length_cons] at A6
         obtain ⟨c,c1,c2⟩:=rm.at_ j (by omega) (by omega) (by omega)
         simp only [fu,Qr,List.cons_append,List.nil_append] at c2
         refine ⟨_,.ref b,.inr (ae.of e0),rfl,_,.ref c,.inr (ae.of e1),by rw [ej];exact cB (by rw [Qa (by omega),c1]),_,.str (cs[j]'(by omega)).2,.inr (ae.of c2),rfl,⟨rfl,_,rfl,?_⟩⟩
         have Jh:(au.split cs).bnd (j+1)=some (cs[j]'(by omega)).2:=by
          show (cs[j]?).map (·.2)=_
          rw [Qa (by omega)];rfl
         rw [Bool.true_xor]
         refine D8 (fun c=>?_) (fun c=>?_)
         ·have hz:=V.str.inj (Qt c)
          refine ⟨_,_,_,rfl,.split e0 e1 rm,by simp only [List.length_cons];exact A6,fun j' h1 h2 h3=>?_,fun j' h1 h2 h3=>Ft j' h1 h2 (by omega),s3⟩
          by_cases hj:j' < j+1
          ·exact nq j' h1 h2 hj
          ·obtain rfl:j'=j+1:=by omega
           rw [Jh,hz,if_pos rfl] at ep
           rw [ep,Ft (j+1) h1 (by omega) (Qy _)]
           exact ((hks (j+1) (by omega) ye).tk (s12.trans s3).ts).up (by omega)
         ·have hz:=Qu c
          exact go (by rw [Jh];intro q;exact hz (by rw [QD q]))
        | _=>exact absurd hs (by simp only [au.ak];decide+kernel)
     case g1=>
      intro hb
      rw [if_neg hb] at ep
      have oj:i < ks.length:=hi
      refine ⟨_,ks[i],.inl (ao.of (s3 _ _ gL)),cB (Qa oj),?_⟩
      refine ⟨ks[i],y,v,ms[i],xm,rfl,(hks i oj ye).tk (s12.trans s3).ts,hx.tk (s12.trans s3).ts,fun r H4 s4 N2=>?_⟩
      refine ⟨.ref ai,r,f,ns,i,rfl,Ad.tk s4.ts,ok,by omega,fun v' H5 s5 N3=>?_⟩
      refine ⟨v',_,ns.set i r,rfl,N3,by simp [A6],fun j h1 h2 h3=>?_,fun j h1 h2 h3=>?_,(s3.trans s4).trans s5⟩
      ·rw [List.getElem_set]
       by_cases hj:i=j
       ·subst hj
        rw [if_pos rfl,ep]
        exact N2.tk s5.ts
       ·rw [if_neg hj]
        exact (nq j (by simpa using h1) h2 (by omega)).tk (s4.trans s5).ts
      ·rw [List.getElem_set,if_neg (by omega)]
       exact Ft j (by simpa using h1) h2 (by omega)
    ·rintro σ' H3 z0;refine hdn fun Gz9 zG9=>?_;obtain ⟨vi,v4,ns,rfl,Ad,A6,nq,_,s3⟩:=z0;refine zG9 ?_
     exact bx _ _ ⟨vi,v4,ns,rfl,Ad,A6,fun j h1 h2=>nq j h1 h2 (by omega),s12.trans s3⟩
def Fv (d:Nat):Sp:=fun vs H Q _=>∃ (v:V) (m:Mr),vs=[v]/\aq H d v m/\∀ H',aa H H'->Q (.bl (dj m)) H'
theorem pO {f:au} {ms:List Mr} (h:¬((∃ ws,f=.ck ws)\/∃ z,f=.pick z)):dj (.mk f ms)=decide (V.str f.ak=V.str "fn"):=by
 rw [au.Hv]
 cases f with
 | ck ws=>exact absurd (Or.inl ⟨_,rfl⟩) h
 | pick z=>exact absurd (Or.inr ⟨_,rfl⟩) h
 | _=>simp [dj]
theorem iW (T:Txt K mg w):∀ d:Nat,bf P w K mg base (2+d) "_law_is_value" ["_law_maker"] (Fv d):=by
 intro n
 induction n with
 | zero=>
  refine T.fD.di (k:=1) eL (fun vs H Q E h=>?_) (fun f ay A outer s H vs Q E hr h=>?_)
  ·obtain ⟨v,m,rfl,_⟩:=h
   rfl
  ·obtain ⟨v,m,rfl,h,_⟩:=h
   cases h
 | succ n ih=>
  have cP:bf P w K mg base (2+n) "_law_is_value" ["_law_maker"] (Fv n):=ih
  have bP:bf P w K mg base 1 "_law_parts" ["_law_maker"] mh:=cO T
  refine T.fD.di (k:=2+n) eL (fun vs H Q E h=>?_) (fun f ay A outer s H vs Q E hr h=>?_)
  ·obtain ⟨v,m,rfl,_⟩:=h
   rfl
  ·obtain ⟨v,m,rfl,hm,k⟩:=h
   have hu:=bF hr
   have br:=Qx (bF hr)
   have hsz:sizeLine=16777216:=QL
   refine ⟨_,(aE (bI (aL (iE K) (aO (aQ K) (zv 0) aF (fun _ _=>rfl)) (aN (aB aJ (aB aJ aC))) rfl) (aH (aT (bV (sI K rfl) (by rfl) T.M5 PyProof.Rows.boot_all (cV (lV (own:=["_law_one"]) (idx:=[]) (N':=["_law_one"]) (eK (bh cK) (["_law_maker"]:List Str) (by decide+kernel)) rfl (rN K (bH bP (hr.mono (by omega)) (aD (zv 0) aC))) (fun _ _ _ _ _ _=>(aU (i:=0) (show List.Nodup (["_law_one"]:List Str) by decide+kernel) rfl (Or.inl rfl))) (fun _ _ _ _ _ _=>eI) (fun _ _ _ _ _ _=>(bH cP (hr.mono (by omega)) (aD (zv 0) aC)))) aC)))) aS)
   (aH (aT (u8 (bA br) (aO (aQ K) (zv 0) aF (fun _ _=>rfl)) aJ (bq _))))),?_⟩
   obtain ⟨n',ks,en,sh,ok,ef,hks⟩:=hm.out
   obtain rfl:n'=n:=by omega
   obtain ⟨f,ms⟩:=m
   dsimp only [Mr.f,Mr.ks] at sh ok ef hks
   obtain ⟨a,ys,rfl,ea⟩:=sh.ref
   have hl:=sh.len
   have iu:=au.few ok
   refine ⟨_,.str f.ak,.inr (ae.of ea),aR _ _,(show 2<=sizeLine by decide),fun b1 d_=>⟨_,.inr (ae.of aA),rfl,rfl,_,rfl,?_⟩⟩
   have s1:=aa.upd d_ (.tup [.str "box",.str "pick"])
   generalize upd H b1 (.tup [.str "box",.str "pick"])=H1 at s1
   by_cases hb:(∃ ws,f=.ck ws)\/∃ z,f=.pick z
   ·have ev:dj (.mk f ms)=iz ms:=by rcases hb with ⟨ws,rfl⟩ | ⟨z,rfl⟩<;>rw [dj]
    have e2:yw (.str f.ak) [.str "box",.str "pick"]=true:=by rcases hb with ⟨ws,rfl⟩ | ⟨z,rfl⟩<;>simp only [au.ak]<;>decide+kernel
    rw [e2,QE]
    refine y_ ?_
    refine ⟨.ref a,ks,rfl,(sh.qf ok).tk s1.ts,fun L H2 hL gL s2=>Or.inl ⟨⟨ks,ao.of gL⟩,fun D hD=>?_⟩⟩
    refine iR (fH ks) (fun i τ H3=>H3 D=some (.lst ((ms.take i).map fun x=>.bl (dj x)))/\aa H2 H3/\∃ v1,τ=[v1]) ⟨aA,aa.upd hD _,none,rfl⟩ (fun i τ H3 _ h=>ao.of (h.2.1 _ _ gL)) ?_ ?_
    ·rintro i τ H3 hi ⟨q1,q2,v1,rfl⟩
     have gx:i < ms.length:=by omega
     have eg:ks.getD i .af=ks[i]:=by simp [Qb,hi]
     rw [eg]
     refine ⟨ks[i],ms[i],rfl,(hks i hi gx).tk ((s1.trans s2).trans q2).ts,fun H4 s4=>?_⟩
     refine ⟨_,s4 _ _ q1,by simp;omega,?_,(q2.trans s4).put hD,_,rfl⟩
     rw [aA,Qs,Qa gx,Qm];rfl
    ·rintro τ H3 ⟨q1,q2,v1,rfl⟩
     rw [List.take_of_length_le (by omega)] at q1
     have A1:H3 D=some (.lst ((ms.map dj).map V.bl)):=by rw [q1,List.map_map];rfl
     have kk:=k H3 ((s1.trans s2).trans q2)
     rw [ev,iB,show ms.all dj=(ms.map dj).all id by rw [List.all_map];rfl] at kk
     exact ⟨ms.map dj,ao.of A1,kk⟩
   ·have e2:yw (.str f.ak) [.str "box",.str "pick"]=false:=by
     cases f<;>first | exact absurd (.inl ⟨_,rfl⟩) hb | exact absurd (.inr ⟨_,rfl⟩) hb | (simp only [au.ak];decide+kernel)
    rw [e2,QE]
    refine dw (aX ?_)
    refine ⟨_,.str f.ak,.inr (ae.of (s1 _ _ ea)),aR _ _,⟨rfl,?_⟩⟩
    rw [QE]
    have:=k H1 s1
    rw [pO hb] at this
    exact this
def Fw (d:Nat):Sp:=fun vs H Q _=>∃ (v:V) (m:Mr),vs=[v]/\aq H d v m/\∀ H',aa H H'->Q (.int (cg m:Int)) H'
theorem lD:∀ {l:List Mr} {y:Nat},(∀ m∈l,cg m<=y)->ji l<=y
 | [],y,_=>by rw [ji];omega
 | a::l,y,h=>by
  rw [ji]
  have h1:=h a (by simp)
  have h2:=lD (l:=l) (y:=y) fun m hm=>h m (by simp [hm])
  omega
theorem oA (T:Txt K mg w):∀ d:Nat,bf P w K mg base (2+d) "_law_deep" ["_law_maker"] (Fw d):=by
 intro n
 induction n with
 | zero=>
  refine T.jT.di (k:=1) iT (fun vs H Q E h=>?_) (fun f ay A outer s H vs Q E hr h=>?_)
  ·obtain ⟨v,m,rfl,_⟩:=h
   rfl
  ·obtain ⟨v,m,rfl,h,_⟩:=h
   cases h
 | succ n ih=>
  have gJ:bf P w K mg base (2+n) "_law_deep" ["_law_maker"] (Fw n):=ih
  have bP:bf P w K mg base 1 "_law_parts" ["_law_maker"] mh:=cO T
  refine T.jT.di (k:=2+n) iT (fun vs H Q E h=>?_) (fun f ay A outer s H vs Q E hr h=>?_)
  ·obtain ⟨v,m,rfl,_⟩:=h
   rfl
  ·obtain ⟨v,m,rfl,hm,k⟩:=h
   have hu:=bF hr
   have br:=Qx (bF hr)
   have hsz:sizeLine=16777216:=QL
   refine ⟨_,(aH (aT (bK bJ aF (MU K rfl (by rfl) T.Ip (lV (own:=["_law_one"]) (idx:=[]) (N':=["_law_one"]) (eK (bh dY) (["_law_maker"]:List Str) (by decide+kernel)) rfl (rN K (bH bP (hr.mono (by omega)) (aD (zv 0) aC))) (fun _ _ _ _ _ _=>(aU (i:=0) (show List.Nodup (["_law_one"]:List Str) by decide+kernel) rfl (Or.inl rfl))) (fun _ _ _ _ _ _=>eI) (fun _ _ _ _ _ _=>(bH gJ (hr.mono (by omega)) (aD (zv 0) aC)))) aF)))),?_⟩
   obtain ⟨n',ks,en,sh,ok,ef,hks⟩:=hm.out
   obtain rfl:n'=n:=by omega
   obtain ⟨f,ms⟩:=m
   dsimp only [Mr.f,Mr.ks] at sh ok ef hks
   have hl:=sh.len
   have iu:=au.few ok
   refine ⟨v,ks,rfl,sh.qf ok,fun L H1 hL gL s1=>Or.inl ⟨⟨ks,ao.of gL⟩,fun D hD=>?_⟩⟩
   refine iR (fH ks) (fun i τ H3=>H3 D=some (.lst (((ms.take i).map fun x=>(cg x:Int)).map V.int))/\aa H1 H3/\∃ v1,τ=[v1]) ⟨aA,aa.upd hD _,none,rfl⟩ (fun i τ H3 _ h=>ao.of (h.2.1 _ _ gL)) ?_ ?_
   ·rintro i τ H3 hi ⟨q1,q2,v1,rfl⟩
    have gx:i < ms.length:=by omega
    have eg:ks.getD i .af=ks[i]:=by simp [Qb,hi]
    rw [eg]
    refine ⟨ks[i],ms[i],rfl,(hks i hi gx).tk (s1.trans q2).ts,fun H4 s4=>?_⟩
    refine ⟨_,s4 _ _ q1,by simp;omega,?_,(q2.trans s4).put hD,_,rfl⟩
    rw [aA,Qs,Qa gx,Qm,Qm];rfl
   ·rintro τ H3 ⟨q1,q2,v1,rfl⟩
    rw [List.take_of_length_le (by omega)] at q1
    refine ⟨D,ms.map fun x=>(cg x:Int),0,rfl,rfl,ao.of q1,fun m hm'=>?_⟩
    have e9:(1:Int)+m=((cg (.mk f ms):Nat):Int):=by
     rw [cg]
     rcases hm' with ⟨e,rfl⟩ | ⟨EU,BY⟩
     ·have:ms=[]:=by simpa using e
      rw [this];rfl
     ·obtain ⟨y,hy,rfl⟩:=List.mem_map.mp EU
      have h1:ji ms<=cg y:=lD fun z hz=>by
       have:=BY _ (List.mem_map.mpr ⟨z,hz,rfl⟩)
       omega
      have h2:=d7 hy
      omega
    show Q (.int (1+m)) H3
    rw [e9]
    exact k H3 (s1.trans q2)
theorem lW (T:Txt K mg w) (d:Nat) (Fx:d<=45):bf P w K mg base (d+4) "_law_comes" ["_law_maker"] (Dl d):=by
 have fQ:bf P w K mg base (2+d) "_law_put" ["_law_maker","_law_name","_law_value"] (A0 d d):=pW T d d Fx
 refine T.oH.di (k:=d+3) bZ (fun vs H Q E h=>?_) (fun f ay A outer s H vs Q E hr h=>?_)
 ·obtain ⟨v,m,rfl,_⟩:=h
  rfl
 ·obtain ⟨v,m,rfl,hm,k⟩:=h
  have hu:=bF hr
  have br:=Qx (bF hr)
  have hsz:sizeLine=16777216:=QL
  refine ⟨_,(aE (aV (i:=1) bZ.nd rfl (Or.inl rfl) (aO (aQ K) (zv 0) aF (fun _ _=>rfl)))
   (aE (bI (aL (bA br) (zv 1) aJ (bq _)) (aH (aT (aO (aQ K) (zv 0) aF (fun _ _=>rfl)))) aS)
   (aE (bI (eM (aL (bA br) (zv 1) aJ (bq _)) (dD (aL (bA br) (aO (aQ K) (aO (aQ K) (zv 0) aF (fun _ _=>rfl)) aF (fun _ _=>rfl)) aJ (bq _)))).pt (aH (aT (bH fQ (hr.mono (by omega)) (aI (aO (aQ K) (aO (aQ K) (zv 0) aF (fun _ _=>rfl)) aF (fun _ _=>rfl)) (aI (aO (aQ K) (aO (aQ K) (zv 0) aF (fun _ _=>rfl)) aF (fun _ _=>rfl)) (aI (aO (aQ K) (zv 0) aF (fun _ _=>rfl)) aC)))))) aS)
   (aE (bI (eM (aL (bA br) (zv 1) aJ (bq _)) (dD (aL (bA br) (aO (aQ K) (aO (aQ K) (zv 0) aF (fun _ _=>rfl)) aF (fun _ _=>rfl)) aJ (bq _)))).pt (aH (fY PassesOwn.never rfl (rN K (aO (aQ K) (aO (aQ K) (zv 0) aF (fun _ _=>rfl)) aF (fun _ _=>rfl))) (aU (i:=2) bZ.nd rfl (Or.inl rfl)) (aH (bI (aL (bA br) (aO (aQ K) (zv 2) aF (fun _ _=>rfl)) (aO (aQ K) (zv 0) aF (fun _ _=>rfl)) (bq _)) (aH (aT (aO (aQ K) (zv 2) aF (fun _ _=>rfl)))) aS)))) aS)
   (aE (bI (eM (aL (bA br) (zv 1) aJ (bq _)) (dD (aL (bA br) (aO (aQ K) (aO (aQ K) (zv 0) aF (fun _ _=>rfl)) aF (fun _ _=>rfl)) aJ (bq _)))).pt (aH (fY PassesOwn.never rfl (rN K (aO (aQ K) (zv 0) aF (fun _ _=>rfl))) (dQ K (n:=3) rfl (bC (aU (i:=3) bZ.nd rfl (Or.inl rfl)) (bC (aU (i:=4) bZ.nd rfl (Or.inl rfl)) (bC (aU (i:=2) bZ.nd rfl (Or.inl rfl)) cR)))) (aH (bI (aL (bA br) (zv 3) (aO (aQ K) (aO (aQ K) (zv 0) aF (fun _ _=>rfl)) aF (fun _ _=>rfl)) (bq _)) (aH (aT (bH fQ (hr.mono (by omega)) (aD (zv 2) (aD (zv 4) (aI (aO (aQ K) (aO (aQ K) (zv 0) aF (fun _ _=>rfl)) aF (fun _ _=>rfl)) aC)))))) aS)))) aS)
   (aH (aT cZ))))))),?_⟩
  obtain ⟨n,ks,en,sh,ok,ef,hks⟩:=hm.out
  obtain ⟨f,ms⟩:=m
  dsimp only [Mr.f,Mr.ks] at sh ok ef hks
  obtain ⟨a,ys,rfl,ea⟩:=sh.ref
  have hl:=sh.len
  refine aK ⟨_,.str f.ak,.inr (ae.of ea),aR _ _,?_⟩
  dsimp only
  by_cases hb:f.ak≠"hold"/\f.ak≠"call"/\f.ak≠"part"/\f.ak≠"split"
  ·obtain ⟨b1,b2,b3,b4⟩:=hb
   have nb:∀ {z:Str},f.ak≠z->¬(false^^decide (V.str f.ak=V.str z))=true:=fun h c=>absurd (V.str.inj (Qt ((QE _).symm.trans c))) h
   refine ⟨rfl,_,rfl,aj (fun c=>absurd c (nb b1)) (fun _=>aG ?_)⟩
   refine ⟨rfl,_,rfl,aj (fun c=>absurd c (nb b2)) (fun _=>dw (aG ?_))⟩
   refine ⟨rfl,_,rfl,aj (fun c=>absurd c (nb b3)) (fun _=>dw (aG ?_))⟩
   refine ⟨rfl,_,rfl,aj (fun c=>absurd c (nb b4)) (fun _=>dw (aX ?_))⟩
   refine k _ _ (aa.refl _) ?_
   cases f<;>first | rfl | exact absurd rfl b1 | exact absurd rfl b2 | exact absurd rfl b3 | exact absurd rfl b4
  cases sh with
  | @hold a m z e=>
   simp only [au.ak]
   refine ⟨rfl,_,rfl,aj (fun _=>?_) (fun c=>absurd c (by decide+kernel))⟩
   obtain ⟨m0,rfl⟩:=ku ef.symm
   exact ⟨_,m,.inr (ae.of e),rfl,k _ _ (aa.refl _) ((hks 0 (by simp) (by simp)).up (by omega))⟩
  | @call a x0 x1 e=>
   simp only [au.ak]
   refine ⟨rfl,_,rfl,aj (fun c=>absurd c (by decide+kernel)) (fun _=>aG ?_)⟩
   refine ⟨rfl,_,rfl,aj (fun _=>?_) (fun c=>absurd c (by decide+kernel))⟩
   obtain ⟨m0,m1,rfl⟩:=yc ef.symm
   have h0:aq H n x0 m0:=hks 0 (by simp) (by simp)
   have h1:aq H n x1 m1:=hks 1 (by simp) (by simp)
   obtain ⟨n0,ly,BU,gu,oi,k_,jo⟩:=h0.out
   obtain ⟨f0,rf⟩:=m0
   dsimp only [Mr.f,Mr.ks] at gu oi k_ jo
   obtain ⟨a0,BV,rfl,rg⟩:=gu.ref
   refine ⟨_,_,.inr (ae.of e),rfl,_,_,.inr (ae.of rg),aR _ _,⟨rfl,_,rfl,?_⟩⟩
   by_cases hf:f0.ak="fn"
   ·rw [hf]
    refine aj (fun _=>?_) (fun c=>absurd c (by decide+kernel))
    cases gu with
    | @fn a0 v0 r0 b0 e0=>
     obtain ⟨mb,rfl⟩:=ku k_.symm
     refine ⟨_,_,.inr (ae.of e),rfl,_,b0,.inr (ae.of e0),rfl,_,_,.inr (ae.of e),rfl,_,.str v0,.inr (ae.of e0),rfl,_,x1,.inr (ae.of e),rfl,?_⟩
     refine ⟨b0,x1,v0,mb,m1,rfl,(jo 0 (by simp) (by simp)).up (by omega),h1.up (by omega),fun r H' s' hr'=>k r H' s' ?_⟩
     show aq H' (2*d) r (ik v0 m1 mb)
     rw [show 2*d=d+d by omega]
     exact hr'
    | _=>exact absurd hf (by simp only [au.ak];decide+kernel)
   ·refine aj (fun c=>absurd (V.str.inj (Qt ((QE _).symm.trans c))) hf) (fun _=>aG ?_)
    refine ⟨rfl,_,rfl,aj (fun c=>absurd c (by decide+kernel)) (fun _=>dw (aG ?_))⟩
    refine ⟨rfl,_,rfl,aj (fun c=>absurd c (by decide+kernel)) (fun _=>dw (aX ?_))⟩
    refine k _ _ (aa.refl _) ?_
    cases f0<;>first | rfl | exact absurd rfl hf
  | @part a x0 z e=>
   simp only [au.ak]
   refine ⟨rfl,_,rfl,aj (fun c=>absurd c (by decide+kernel)) (fun _=>aG ?_)⟩
   refine ⟨rfl,_,rfl,aj (fun c=>absurd c (by decide+kernel)) (fun _=>dw (aG ?_))⟩
   refine ⟨rfl,_,rfl,aj (fun _=>?_) (fun c=>absurd c (by decide+kernel))⟩
   obtain ⟨m0,rfl⟩:=ku ef.symm
   have h0:aq H n x0 m0:=hks 0 (by simp) (by simp)
   obtain ⟨n0,ly,BU,gu,oi,k_,jo⟩:=h0.out
   obtain ⟨f0,rf⟩:=m0
   dsimp only [Mr.f,Mr.ks] at gu oi k_ jo
   obtain ⟨a0,BV,rfl,rg⟩:=gu.ref
   refine ⟨_,_,.inr (ae.of e),rfl,_,_,.inr (ae.of rg),aR _ _,⟨rfl,_,rfl,?_⟩⟩
   by_cases hf:f0.ak="box"
   ·rw [hf]
    refine aj (fun _=>?_) (fun c=>absurd c (by decide+kernel))
    cases gu with
    | @ck a0 b0 ws xs ly e0 e1 rm=>
     obtain ⟨nd,_,iu⟩:=oi
     have i_:=rm.l1
     have g_:=rm.l2
     have iy:(ip ws).length=ws.length:=by simp [ip]
     refine ⟨_,_,.inr (ae.of e),rfl,_,.ref b0,.inr (ae.of e0),rfl,Or.inr ⟨⟨xs,ae.of e1⟩,?_⟩⟩
     refine fZ (dF xs) (fun i σ' H'=>∃ v2 v3 v4:Option V,σ'=[some (.ref a),some (.str "part"),v2,v3,v4]/\(∀ j (h:j < i) (h':j < ws.length),ws[j]≠z)/\H'=H) ⟨_,_,_,rfl,fun j h=>absurd h (by omega),rfl⟩ (by rintro i τ H' _ ⟨_,_,_,_,_,h⟩;(rw [h];exact ae.of e1)) ?_ ?_
     ·rintro i σ' _ hi ⟨v2,v3,v4,rfl,hj,rfl⟩
      obtain ⟨c,c1,c2⟩:=rm.at_ i hi (by omega) (by omega)
      have eg:xs.getD i .af=.ref c:=by rw [Qb,Qa hi,c1];rfl
      rw [eg]
      simp only [ip,Qr,List.cons_append,List.nil_append] at c2
      refine ⟨_,.str (ws[i]'(by omega)),.inr (ae.of c2),rfl,_,.str z,.inr (ae.of e),rfl,⟨rfl,_,rfl,?_⟩⟩
      rw [QE]
      refine aj (fun q=>?_) (fun q=>?_)
      ·have hz:=V.str.inj (Qt q)
       refine ⟨_,ly[i]'(by omega),.inr (ae.of c2),rfl,k _ _ (aa.refl _) ?_⟩
       show (match (ws.idxOf? z).bind (fun i=>rf[i]?) with | none=>_ | some c=>_)
       rw [List.idxOf?_eq_some_iff.mpr ⟨show i < ws.length by omega,hz,fun j h=>hj j h (by omega)⟩]
       simp only [Option.bind_some]
       rw [Qa (show i < rf.length by omega)]
       exact (jo i (by omega) (by omega)).up (by omega)
      ·refine ⟨_,_,_,rfl,fun j h h'=>?_,rfl⟩
       by_cases B3:j < i
       ·exact hj j B3 h'
       ·obtain rfl:j=i:=by omega
        exact fun z=>Qu q (by rw [z])
     ·rintro σ' _ ⟨v2,v3,v4,rfl,hj,rfl⟩
      refine ⟨rfl,_,rfl,aj (fun c=>absurd c (by decide+kernel)) (fun _=>dw (aX ?_))⟩
      refine k _ _ (aa.refl _) ?_
      show (match (ws.idxOf? z).bind (fun i=>rf[i]?) with | none=>_ | some c=>_)
      rw [List.idxOf?_eq_none_iff.mpr fun h=>?_]
      ·rfl
      ·obtain ⟨j,h1,h2⟩:=Qi h
       exact hj j (by omega) h1 h2
    | _=>exact absurd hf (by simp only [au.ak];decide+kernel)
   ·refine aj (fun c=>absurd (V.str.inj (Qt ((QE _).symm.trans c))) hf) (fun _=>aG ?_)
    refine ⟨rfl,_,rfl,aj (fun c=>absurd c (by decide+kernel)) (fun _=>dw (aX ?_))⟩
    refine k _ _ (aa.refl _) ?_
    cases f0<;>first | rfl | exact absurd rfl hf
  | @split a b cs x0 xs ps e e1 rm=>
   simp only [au.ak]
   refine ⟨rfl,_,rfl,aj (fun c=>absurd c (by decide+kernel)) (fun _=>aG ?_)⟩
   refine ⟨rfl,_,rfl,aj (fun c=>absurd c (by decide+kernel)) (fun _=>dw (aG ?_))⟩
   refine ⟨rfl,_,rfl,aj (fun c=>absurd c (by decide+kernel)) (fun _=>dw (aG ?_))⟩
   refine ⟨rfl,_,rfl,aj (fun _=>?_) (fun c=>absurd c (by decide+kernel))⟩
   obtain ⟨m0,jp,rfl⟩:∃ m0 jp,ms=m0::jp:=by
    cases ms with
    | nil=>simp at ef
    | cons m0 jp=>exact ⟨_,_,rfl⟩
   have h0:aq H n x0 m0:=hks 0 (by simp) (by simp)
   obtain ⟨n0,ly,BU,gu,oi,k_,jo⟩:=h0.out
   obtain ⟨f0,rf⟩:=m0
   dsimp only [Mr.f,Mr.ks] at gu oi k_ jo
   obtain ⟨a0,BV,rfl,rg⟩:=gu.ref
   refine ⟨_,_,.inr (ae.of e),rfl,_,_,.inr (ae.of rg),aR _ _,⟨rfl,_,rfl,?_⟩⟩
   by_cases hf:f0.ak="pick"
   ·rw [hf]
    refine aj (fun _=>?_) (fun c=>absurd c (by decide+kernel))
    cases gu with
    | @pick a0 z x e0=>
     obtain ⟨mx,rfl⟩:=ku k_.symm
     obtain ⟨nd,_,iu⟩:=ok
     have i_:=rm.l1
     have g_:=rm.l2
     have iy:(fu cs).length=cs.length:=by simp [fu]
     have NH:ps.length=jp.length:=by simpa using ef
     have ec:qg (.mk (.split cs) (.mk (.pick z) [mx]::jp))=((cs.map (·.1)).idxOf? z).bind fun i=>(cs[i]?).bind fun c=>(jp[i]?).map fun b=>ik c.2 mx b:=rfl
     refine ⟨_,.ref b,.inr (ae.of e),rfl,Or.inr ⟨⟨xs,ae.of e1⟩,?_⟩⟩
     refine fZ (dF xs) (fun i σ' H'=>∃ v2 v3 v4:Option V,σ'=[some (.ref a),some (.str "split"),v2,v3,v4]/\(∀ j (h:j < i) (h':j < cs.length),cs[j].1≠z)/\H'=H) ⟨_,_,_,rfl,fun j h=>absurd h (by omega),rfl⟩ (by rintro i τ H' _ ⟨_,_,_,_,_,h⟩;(rw [h];exact ae.of e1)) ?_ ?_
     ·rintro i σ' _ hi ⟨v2,v3,v4,rfl,hj,rfl⟩
      have Ji:i < cs.length:=by omega
      obtain ⟨c,c1,c2⟩:=rm.at_ i hi (by omega) (by omega)
      have eg:xs.getD i .af=.ref c:=by rw [Qb,Qa hi,c1];rfl
      rw [eg]
      simp only [fu,Qr,List.cons_append,List.nil_append] at c2
      refine tN (ae.of c2) ?_
      refine ⟨_,_,.inr (ae.of e),rfl,_,.str z,.inr (ae.of e0),rfl,⟨rfl,_,rfl,?_⟩⟩
      rw [QE]
      refine aj (fun q=>?_) (fun q=>?_)
      ·have hz:=V.str.inj (Qt q)
       refine ⟨_,_,.inr (ae.of e),rfl,_,x,.inr (ae.of e0),rfl,?_⟩
       have Fc:i < jp.length:=by omega
       have hbi:=hks (i+1) (by simp;omega) (by simp;omega)
       simp only [List.getElem_cons_succ] at hbi
       refine ⟨_,x,_,jp[i],mx,rfl,hbi.up (by omega),(jo 0 (by simp) (by simp)).up (by omega),fun r H2 s2 hr'=>k r H2 s2 ?_⟩
       rw [ec,List.idxOf?_eq_some_iff.mpr ⟨show i < (cs.map (·.1)).length by simpa using Ji,by simpa using hz,fun j h=>by simpa using hj j h (by omega)⟩]
       simp only [Option.bind_some]
       rw [Qa Ji,Qa Fc]
       show aq H2 (2*d) r (ik _ mx _)
       rw [show 2*d=d+d by omega]
       exact hr'
      ·refine ⟨_,_,_,rfl,fun j h h'=>?_,rfl⟩
       by_cases B3:j < i
       ·exact hj j B3 h'
       ·obtain rfl:j=i:=by omega
        exact fun z=>Qu q (by rw [z])
     ·rintro σ' _ ⟨v2,v3,v4,rfl,hj,rfl⟩
      refine k _ _ (aa.refl _) ?_
      rw [ec,List.idxOf?_eq_none_iff.mpr fun h=>?_]
      ·rfl
      ·obtain ⟨j,h1,h2⟩:=Qi h
       rw [Qr] at h2
       exact hj j (by simp at h1;omega) (by simpa using h1) h2
    | _=>exact absurd hf (by simp only [au.ak];decide+kernel)
   ·refine aj (fun c=>absurd (V.str.inj (Qt ((QE _).symm.trans c))) hf) (fun _=>aX ?_)
    refine k _ _ (aa.refl _) ?_
    cases f0<;>first | rfl | exact absurd rfl hf
  | _=>exact absurd ⟨by simp only [au.ak];decide+kernel,by simp only [au.ak];decide+kernel,by simp only [au.ak];decide+kernel,by simp only [au.ak];decide+kernel⟩ hb
def ou (d:Nat) (H:Hp) (R:Addr) (m:Mr):Prop:=if dj m=true then H R=some (.tup [.str "value"]) else match (cj m).2 with
 | none=>∃ pa,H R=some (.tup [.str "stuck",.ref pa])/\H pa=some (.tup (fq (cj m).1))
 | some c=>∃ r,H R=some (.tup [.str "done",r])/\aq H (3*d) r (gm c (cj m).1 m)
def Fy (d:Nat):Sp:=fun vs H Q _=>∃ (v:V) (m:Mr),vs=[v]/\aq H d v m/\∀ R H',aa H H'->ou d H' R m->Q (.ref R) H'
theorem kE (T:Txt K mg w):∀ d:Nat,d<=45->bf P w K mg base (d+5) "_law_next_of" ["_law_maker"] (Fy d):=by
 intro n
 induction n with
 | zero=>
  intro _
  refine T.fU.di (k:=4) bN (fun vs H Q E h=>?_) (fun f ay A outer s H vs Q E hr h=>?_)
  ·obtain ⟨v,m,rfl,_⟩:=h
   rfl
  ·obtain ⟨v,m,rfl,h,_⟩:=h
   cases h
 | succ n ih=>
  intro Fx
  have cT:bf P w K mg base (n+5) "_law_next_of" ["_law_maker"] (Fy n):=ih (by omega)
  have cP:bf P w K mg base (2+(n+1)) "_law_is_value" ["_law_maker"] (Fv (n+1)):=iW T (n+1)
  have o4:bf P w K mg base (n+1+4) "_law_comes" ["_law_maker"] (Dl (n+1)):=lW T (n+1) Fx
  have bP:bf P w K mg base 1 "_law_parts" ["_law_maker"] mh:=cO T
  have dL:bf P w K mg base 1 "_law_rebuilt" ["_law_maker","_law_at","_law_one"] Fp:=eP T
  refine T.fU.di (k:=n+5) bN (fun vs H Q E h=>?_) (fun f ay A outer s H vs Q E hr h=>?_)
  ·obtain ⟨v,m,rfl,_⟩:=h
   rfl
  ·obtain ⟨v,m,rfl,hm,k⟩:=h
   have hu:=bF hr
   have br:=Qx (bF hr)
   have hsz:sizeLine=16777216:=QL
   refine ⟨_,(aE (bI (k8 (bH cP (hr.mono (by omega)) (aD (zv 0) aC))) (aH (aT (aN (aB aJ aC)))) aS)
   (aE (aV (i:=1) bN.nd rfl (Or.inl rfl) (bH bP (hr.mono (by omega)) (aD (zv 0) aC)))
   (aE (bI (aL (bA br) (aO (aQ K) (zv 0) aF (fun _ _=>rfl)) aJ (bq _)) (aH (aV (i:=1) bN.nd rfl (Or.inl rfl) (cC (iZ K) (zv 1) cD (cE aF)))) aS)
   (aE (fY PassesOwn.never rfl (h9 (by rfl) T.jF (bY (bV (cI K) (by rfl) T.ya PySem.boot_len (aD (zv 1) aC)) aC)) (aU (i:=2) bN.nd rfl (Or.inl rfl)) (aH (bI (tO (k8 (bH cP (hr.mono (by omega)) (aI (aO (aQ K) (zv 1) (zv 2) (fun _ _=>rfl)) aC)))) (aE (aV (i:=3) bN.nd rfl (Or.inl rfl) (bH cT (hr.mono (by omega)) (aI (aO (aQ K) (zv 1) (zv 2) (fun _ _=>rfl)) aC)))
   (aE (bI (aL (bA br) (aO (aQ K) (zv 3) aF (fun _ _=>rfl)) aJ (bq _)) (aH (aT (aN (aB aJ (fJ (bK (dW K) (aN (aD (zv 2) aC)) (aO (aQ K) (zv 3) aF (fun _ _=>rfl))) aC))))) aS)
   (aH (aT (aN (aB aJ (bY (bH dL (hr.mono (by omega)) (aD (zv 0) (aD (zv 2) (aI (aO (aQ K) (zv 3) aF (fun _ _=>rfl)) aC)))) aC))))))) aS)))
   (aE (aV (i:=3) bN.nd rfl (Or.inl rfl) (bH o4 (hr.mono (by omega)) (aD (zv 0) aC)))
   (aE (bI (aL jU (zv 3) cZ (bq _)) (aH (aT (aN (aB aJ (aW (aN aC) aC))))) aS)
   (aH (aT (aN (aB aJ (aD (zv 3) aC))))))))))),?_⟩
   refine ⟨v,m,rfl,hm,fun H1 s1=>⟨_,rfl,aj (fun c=>?_) (fun c=>aG ?_)⟩⟩
   ·refine ⟨(show 1<=sizeLine by decide),fun R hR=>k R _ (s1.trans (aa.upd hR _)) ?_⟩
    unfold ou
    rw [if_pos c]
    exact aA
   have hv:¬dj m=true:=by rw [c];decide
   obtain ⟨n',ks,en,sh,ok,ef,hks⟩:=hm.out
   obtain rfl:n'=n:=by omega
   obtain ⟨a,ys,rfl,ea⟩:=sh.ref
   have hl:=sh.len
   have iu:=au.few ok
   refine aK ⟨.ref a,ks,rfl,(sh.qf ok).tk s1.ts,fun L H2 hL gL s2=>?_⟩
   have s12:=s1.trans s2
   dsimp only
   refine aZ (fun σ' H'=>∃ B us,σ'=[some (.ref a),some (.ref B),none,none]/\H' B=some (.lst us)/\us.length=(gj m.f m.ks).length/\(∀ j (h1:j < us.length) (h2:j < ks.length),us[j]=ks[j])/\aa H H') ?_ ?_
   ·intro nx bx
    refine ⟨_,.str m.f.ak,.inr (ae.of (s12 _ _ ea)),aR _ _,⟨rfl,_,rfl,?_⟩⟩
    have e1:decide (V.str m.f.ak=V.str "split")=(match m.f with | .split _=>true | _=>false):=by
     cases m.f<;>first | exact decide_eq_true rfl | exact Qw (fun z=>absurd (V.str.inj z) (by simp only [au.ak];decide+kernel))
    refine aj (fun c=>?_) (fun c=>?_)
    ·rw [e1] at c
     refine ⟨1,rfl,Or.inr (Or.inl ⟨L,ks,rfl,ao.of gL,fun S hS=>?_⟩)⟩
     have s3:=aa.upd hS (.lst (e_ ks none (some 1)))
     have et:gj m.f m.ks=m.ks.take 1:=by
      unfold gj
      cases hf:m.f<;>rw [hf] at c<;>first | (cases c;done) | rfl
     have ec:e_ ks none (some 1)=ks.take 1:=by
      cases ks with
      | nil=>rfl
      | cons x l=>simp [e_,HT.bg]
     refine bx _ _ ⟨S,_,rfl,aA,?_,fun j h1 h2=>?_,s12.trans s3⟩
     ·rw [et,ec];simp [ef]
     ·simp only [ec,List.getElem_take]
    ·rw [e1] at c
     have et:gj m.f m.ks=m.ks:=by
      unfold gj
      cases hf:m.f<;>rw [hf] at c<;>first | (cases c;done) | rfl
     exact bx _ _ ⟨L,ks,rfl,gL,by rw [et,ef],fun _ _ _=>rfl,s12⟩
   rintro σ' H3 ⟨B,us,rfl,gB,Q4,yy,s3⟩
   have Jj:∀ j (h:j < us.length),∃ h':j < m.ks.length,(gj m.f m.ks)[j]'(by omega)=m.ks[j]:=fun j h=>nC (by omega)
   have Q5:us.length<=1001:=by
    rcases Nat.lt_or_ge us.length 1002 with q | q
    ·omega
    ·obtain ⟨h',_⟩:=Jj 1001 (by omega)
     omega
   refine aZ (fun σ' H'=>∃ v2 v3:Option V,σ'=[some (.ref a),some (.ref B),v2,v3]/\jj m=none/\aa H H') ?_ ?_
   ·intro nx bx
    refine Or.inl ⟨_,.inl (ao.of gB),_,rfl,by omega,by omega,?_⟩
    refine fZ (fL 0 us.length) (fun i σ' H'=>∃ v2 v3:Option V,σ'=[some (.ref a),some (.ref B),v2,v3]/\(∀ j (h:j < i) (h':j < (gj m.f m.ks).length),dj (gj m.f m.ks)[j]=true)/\aa H3 H') ⟨none,none,rfl,fun j h=>absurd h (by omega),aa.refl _⟩ (fun _ _ _ _ _=>trivial) ?_ ?_
    ·rintro i σ' H4 hi ⟨v2,v3,rfl,hj,s4⟩
     have ez:(0:Int)+(i:Int)=(i:Int):=by omega
     rw [ez]
     obtain ⟨ye,Jk⟩:=Jj i hi
     have oj:i < ks.length:=by omega
     have Jl:=s4 _ _ gB
     have Jm:=s3.trans s4
     have A3:=(hks i oj ye).tk Jm.ts
     have Jo:ir us (i:Int)=some ks[i]:=cB (by rw [Qa hi,yy i hi oj])
     refine ⟨_,ks[i],.inl (ao.of Jl),Jo,ks[i],m.ks[i],rfl,A3.up (by omega),fun H5 s5=>⟨_,rfl,D8 (fun c=>?_) (fun c=>?_)⟩⟩
     ·refine ⟨_,_,rfl,fun j h h'=>?_,s4.trans s5⟩
      by_cases B3:j < i
      ·exact hj j B3 h'
      ·obtain rfl:j=i:=by omega
       rw [Jk];exact c
     ·have Fz:jj m=some i:=by
       unfold jj
       exact List.findIdx?_eq_some_iff_getElem.mpr ⟨by omega,by rw [Jk];simp [c],fun j h=>by simp [hj j h (by omega)]⟩
      have oh:=fP Fz ye
      have N4:=s5 _ _ Jl
      refine aK ⟨_,ks[i],.inl (ao.of N4),Jo,ks[i],m.ks[i],rfl,A3.tk s5.ts,fun R H6 s6 h6=>?_⟩
      unfold ou at h6
      rw [if_neg (by rw [c];decide)] at h6
      have Dp:=(Jm.trans s5).trans s6
      dsimp only
      cases hz:(cj m.ks[i]).2 with
      | none=>
       rw [hz] at h6
       obtain ⟨pa,g1,g2⟩:=h6
       refine ⟨_,.str "stuck",.inr (ae.of g1),rfl,⟨rfl,_,rfl,aj (fun _=>?_) (fun c=>absurd c (by decide+kernel))⟩⟩
       refine ⟨(show 1<=sizeLine by decide),fun t ht=>?_⟩
       have s7:=aa.upd ht (.tup [.int (i:Int)])
       have gt:upd H6 t (.tup [.int (i:Int)]) t=some (.tup [.int (i:Int)]):=aA
       generalize upd H6 t (.tup [.int (i:Int)])=H7 at s7 gt
       refine ⟨_,.ref pa,.inr (ae.of (s7 _ _ g1)),rfl,?_⟩
       refine Ab gt (s7 _ _ g2) (by simp) ?_ fun q H8 s8 gq=>⟨(show 2<=sizeLine by decide),fun R2 FA=>?_⟩
       ·have:=(m6 _ m.ks[i] (Qy _)).len
        have:=A3.dep
        simp [fq];omega
       have s9:=aa.upd FA (.tup [.str "stuck",.ref q])
       refine k R2 _ (((Dp.trans s7).trans s8).trans s9) ?_
       unfold ou
       rw [if_neg hv,oh,hz]
       exact ⟨q,aA,s9 _ _ gq⟩
      | some c1=>
       rw [hz] at h6
       obtain ⟨r,g1,g2⟩:=h6
       refine ⟨_,.str "done",.inr (ae.of g1),rfl,⟨rfl,_,rfl,aj (fun c=>absurd c (by decide+kernel)) (fun _=>aX ?_)⟩⟩
       refine ⟨_,r,.inr (ae.of g1),rfl,?_⟩
       refine ⟨.ref a,r,m.f,ks,i,rfl,sh.tk Dp.ts,ok,oj,fun v' H7 s7 Jp=>⟨(show 2<=sizeLine by decide),fun R2 FA=>?_⟩⟩
       have s8:=aa.upd FA (.tup [.str "done",v'])
       refine k R2 _ ((Dp.trans s7).trans s8) ?_
       unfold ou
       rw [if_neg hv,oh,hz]
       refine ⟨v',aA,?_⟩
       obtain ⟨f,ms⟩:=m
       dsimp only [Mr.f,Mr.ks] at ye g2 hks ef ok Jp sh ⊢
       simp only [gm]
       rw [Qa ye]
       rw [show 3*(n'+1)=(3*n'+2)+1 by omega]
       refine .mk (Jp.tk s8.ts) ok (by simp only [List.length_set];exact ef) fun j h1 h2=>?_
       rw [List.getElem_set,List.getElem_set]
       by_cases xn:i=j
       ·rw [if_pos xn,if_pos xn]
        exact (g2.tk (s7.trans s8).ts).up (by omega)
       ·rw [if_neg xn,if_neg xn]
        exact ((hks j (by simpa using h1) (by simpa using h2)).tk ((Dp.trans s7).trans s8).ts).up (by omega)
    ·rintro σ' H4 ⟨v2,v3,rfl,hj,s4⟩
     refine bx _ _ ⟨v2,v3,rfl,?_,s3.trans s4⟩
     unfold jj
     refine List.findIdx?_eq_none_iff.mpr fun x hx=>?_
     obtain ⟨j,N5,rfl⟩:=Qi hx
     simp [hj j (by omega) N5]
   ·rintro σ' H4 ⟨v2,v3,rfl,Fz,s4⟩
    have oh:=fO Fz
    refine aK ⟨.ref a,m,rfl,hm.tk s4.ts,fun r H5 s5 h5=>?_⟩
    dsimp only
    cases hz:qg m with
    | none=>
     rw [hz] at h5
     subst h5
     refine ⟨_,rfl,aj (fun _=>?_) (fun c=>absurd c (by decide))⟩
     refine ⟨(show 0<=sizeLine by decide),fun pa Ff=>⟨(show 2<=sizeLine by decide),fun R hR=>?_⟩⟩
     have s6:=aa.upd Ff (.tup [])
     have s7:=aa.upd hR (.tup [.str "stuck",.ref pa])
     refine k R _ (((s4.trans s5).trans s6).trans s7) ?_
     unfold ou
     rw [if_neg hv,oh,hz]
     exact ⟨pa,aA,s7 _ _ aA⟩
    | some c1=>
     rw [hz] at h5
     obtain ⟨ab,rfl⟩:=m9 h5
     refine ⟨_,rfl,aj (fun c=>absurd c (by simp)) (fun _=>aX ?_)⟩
     refine ⟨(show 2<=sizeLine by decide),fun R hR=>?_⟩
     have s6:=aa.upd hR (.tup [.str "done",.ref ab])
     refine k R _ ((s4.trans s5).trans s6) ?_
     unfold ou
     rw [if_neg hv,oh,hz]
     refine ⟨_,aA,?_⟩
     rw [gm]
     exact (h5.tk s6.ts).up (by omega)
def A7 (H:Hp) (t:Addr):Nat ⊕ (Mr×Nat×Kd)->Prop
 | .inl k=>H t=some (.tup [.str "many",.int (k:Int)])
 | .inr (m,dn,kd)=>A4 H t m dn kd
theorem yd.tk {kt:Addr} {kd:Kd} (h:yd H kt kd) (s:Tk H H'):yd H' kt kd:=by
 cases kd with
 | val=>exact s _ _ h
 | stuck p=>obtain ⟨pa,h1,h2⟩:=h;exact ⟨pa,s _ _ h1,s _ _ h2⟩
 | on=>exact s _ _ h
def Dq:Sp:=fun vs H Q _=>∃ (v:V) (n:Nat) (m:Mr),vs=[v,.int (n:Int)]/\n<=100000/\aq H 40 v m/\az m<=400/\∀ t H',aa H H'->A7 H' t (fh n 0 m)->Q (.ref t) H'
theorem pA (T:Txt K mg w):bf P w K mg base 123 "_law_run" ["_law_maker","_law_n"] Dq:=by
 have cT:bf P w K mg base 45 "_law_next_of" ["_law_maker"] (Fy 40):=kE T 40 (by omega)
 have gF:bf P w K mg base 122 "_law_many" ["_law_maker"] (EW 120):=nU T 120
 have gJ:bf P w K mg base 122 "_law_deep" ["_law_maker"] (Fw 120):=oA T 120
 refine T.rY.di cG (fun vs H Q E h=>?_) (fun f ay A outer s H vs Q E hr h=>?_)
 ·obtain ⟨v,n,m,rfl,_⟩:=h
  rfl
 ·refine hdn fun Gz9 zG9=>?_;obtain ⟨v,n,m,rfl,hn,hm,hc,k⟩:=h;refine zG9 ?_
  have hu:=bF hr
  have br:=Qx (bF hr)
  have hsz:sizeLine=16777216:=QL
  refine ⟨_,(aE (aV (i:=2) cG.nd rfl (Or.inl rfl) aF)
   (aE (aV (i:=3) cG.nd rfl (Or.inl rfl) (bH cT (hr.mono (by omega)) (aD (zv 0) aC)))
   (aE (gP PassesOwn.never (eM (aL mM (zv 2) (zv 1) (bq _)) (dD (aL (bA br) (aO (aQ K) (zv 3) aF (fun _ _=>rfl)) aJ (bq _)))).pt (aE (aV (i:=0) cG.nd rfl (Or.inl rfl) (aO (aQ K) (zv 3) aF (fun _ _=>rfl)))
   (aE (aV (i:=2) cG.nd rfl (Or.inl rfl) (bK bJ (zv 2) aF))
   (aE (bI (aL i3 (bH gF (hr.mono (by omega)) (aD (zv 0) aC)) aF (bq _)) (aH (aT (aN (aB aJ (aB aF aC))))) aS)
   (aE (bI (aL i3 (bH gJ (hr.mono (by omega)) (aD (zv 0) aC)) aF (bq _)) (aH (aT (aN (aB aJ (aB aF aC))))) aS)
   (aH (aV (i:=3) cG.nd rfl (Or.inl rfl) (bH cT (hr.mono (by omega)) (aD (zv 0) aC)))))))))
   (aE (bI (aL (bA br) (aO (aQ K) (zv 3) aF (fun _ _=>rfl)) aJ (bq _)) (aH (aV (i:=3) cG.nd rfl (Or.inl rfl) (aN (aB aJ aC)))) aS)
   (aH (aT (aN (aD (zv 0) (aD (zv 2) (aD (zv 3) aC)))))))))),?_⟩
  refine dP ?_
  refine aK ⟨v,m,rfl,hm,fun F H1 s1 N6=>?_⟩
  dsimp only
  refine aZ (fun σ' H'=>∃ (v':V) (m':Mr) (dn:Nat) (F:Addr),σ'=[some v',some (.int (n:Int)),some (.int (dn:Int)),some (.ref F)]/\aq H' 40 v' m'/\ou 40 H' F m'/\aa H H'/\fh n 0 m=.inr (m',dn,qi m')) ?_ ?_
  ·intro nx bx
   refine ⟨fun mm σ' H'=>∃ (v':V) (m':Mr) (dn:Nat) (F:Addr),σ'=[some v',some (.int (n:Int)),some (.int (dn:Int)),some (.ref F)]/\mm=n - dn/\dn<=n/\aq H' 40 v' m'/\az m'<=400/\ou 40 H' F m'/\aa H H'/\fh n 0 m=fh (n - dn) dn m',⟨_,v,m,0,F,rfl,rfl,by omega,hm.tk s1.ts,hc,N6,s1,rfl⟩,?_⟩
   rintro mm σ' H2 ⟨v',m',dn,F',rfl,rfl,AN,hm',oz,ow,s2,jy⟩
   have stop:(nu m'=none\/n - dn=0)->nx [some v',some (.int (n:Int)),some (.int (dn:Int)),some (.ref F')] H2:=fun h=>bx _ _ ⟨v',m',dn,F',rfl,hm',ow,s2,by rw [jy,nF h]⟩
   refine ⟨_,rfl,aj (fun c=>?_) (fun c=>dw (stop (.inr ?_)))⟩
   rotate_left
   ·have:=Qu c
    omega
   have b_:dn < n:=by have:=Qt c;omega
   by_cases hv:dj m'=true
   ·have uh:=ow
    unfold ou at uh
    rw [if_pos hv] at uh
    refine ⟨_,.str "value",.inr (ae.of uh),rfl,⟨rfl,_,rfl,aj (fun c=>absurd c (by decide+kernel)) (fun _=>stop (.inl ?_))⟩⟩
    unfold nu
    rw [if_pos hv]
   have uh:=ow
   unfold ou at uh
   rw [if_neg hv] at uh
   cases hz:(cj m').2 with
   | none=>
    rw [hz] at uh
    obtain ⟨pa,g1,g2⟩:=uh
    refine ⟨_,.str "stuck",.inr (ae.of g1),rfl,⟨rfl,_,rfl,aj (fun c=>absurd c (by decide+kernel)) (fun _=>stop (.inl ?_))⟩⟩
    unfold nu
    rw [if_neg hv,hz]
    rfl
   | some c1=>
    rw [hz] at uh
    obtain ⟨r,g1,vz⟩:=uh
    refine ⟨_,.str "done",.inr (ae.of g1),rfl,⟨rfl,_,rfl,aj (fun _=>?_) (fun c=>absurd c (by decide+kernel))⟩⟩
    have hst:nu m'=some (gm c1 (cj m').1 m'):=by
     unfold nu
     rw [if_neg hv,hz]
     rfl
    obtain ⟨j,hj⟩:∃ j,n - dn=j+1:=⟨n - dn - 1,by omega⟩
    have jz:fh n 0 m=if 400 < az (gm c1 (cj m').1 m') then .inl 400 else if 40 < cg (gm c1 (cj m').1 m') then .inl 40 else fh j (dn+1) (gm c1 (cj m').1 m'):=by
     rw [jy,hj,fh,hst]
    generalize gm c1 (cj m').1 m'=m2 at hst jz vz
    refine ⟨fun σ' H'=>∃ BZ,BZ < n - dn/\∃ (v':V) (m':Mr) (dn:Nat) (F:Addr),σ'=[some v',some (.int (n:Int)),some (.int (dn:Int)),some (.ref F)]/\BZ=n - dn/\dn<=n/\aq H' 40 v' m'/\az m'<=400/\ou 40 H' F m'/\aa H H'/\fh n 0 m=fh (n - dn) dn m',fun σ' H' h=>h,?_⟩
    refine aK ⟨_,r,.inr (ae.of g1),rfl,?_⟩
    dsimp only
    refine aZ (fun σ' H'=>σ'=[some r,some (.int (n:Int)),some (.int ((dn+1:Nat):Int)),some (.ref F')]/\H2=H') (fun jb rh=>?_) ?_
    ·have e1:((dn:Int)+1)=((dn+1:Nat):Int):=by omega
     refine rh _ _ ⟨?_,rfl⟩
     rw [<- e1]
     rfl
    rintro σ' _ ⟨rfl,rfl⟩
    refine ⟨r,az m2,rfl,vz.Mn,fun H3 s3=>⟨_,rfl,aj (fun c=>?_) (fun c=>aG ?_)⟩⟩
    ·have h4:=Qt c
     rw [if_pos (by omega)] at jz
     refine ⟨(show 2<=sizeLine by decide),fun t ht=>k t _ ((s2.trans s3).trans (aa.upd ht _)) ?_⟩
     rw [jz]
     exact aA
    have h4:=Qu c
    rw [if_neg (by omega)] at jz
    refine ⟨r,m2,rfl,vz.tk s3.ts,fun H4 s4=>⟨_,rfl,aj (fun c=>?_) (fun c=>aX ?_)⟩⟩
    ·have h5:=Qt c
     rw [if_pos (by omega)] at jz
     refine ⟨(show 2<=sizeLine by decide),fun t ht=>k t _ (((s2.trans s3).trans s4).trans (aa.upd ht _)) ?_⟩
     rw [jz]
     exact aA
    have h5:=Qu c
    rw [if_neg (by omega)] at jz
    have B0:aq H4 40 r m2:=(vz.tk (s3.trans s4).ts).low (by omega)
    refine ⟨r,m2,rfl,B0,fun F5 H5 s5 N7=>?_⟩
    exact ⟨_,by omega,r,m2,dn+1,F5,rfl,rfl,by omega,B0.tk s5.ts,by omega,N7,((s2.trans s3).trans s4).trans s5,by rw [jz];congr 1;omega⟩
  ·rintro σ' H2 z0;refine hdn fun Gz9 zG9=>?_;obtain ⟨v',m',dn,F',rfl,hm',ow,s2,jy⟩:=z0;refine zG9 ?_
   rw [jy] at k
   refine aZ (fun σ' H'=>∃ F',σ'=[some v',some (.int (n:Int)),some (.int (dn:Int)),some (.ref F')]/\yd H' F' (qi m')/\aa H2 H') ?_ ?_
   ·intro nx bx
    unfold ou at ow
    unfold qi at bx
    by_cases hv:dj m'=true
    ·rw [if_pos hv] at ow bx
     refine ⟨_,.str "value",.inr (ae.of ow),rfl,⟨rfl,_,rfl,aj (fun c=>absurd c (by decide+kernel)) (fun _=>?_)⟩⟩
     exact bx _ _ ⟨F',rfl,ow,aa.refl _⟩
    rw [if_neg hv] at ow bx
    cases hz:(cj m').2 with
    | none=>
     rw [hz] at ow bx
     obtain ⟨pa,g1,g2⟩:=ow
     refine ⟨_,.str "stuck",.inr (ae.of g1),rfl,⟨rfl,_,rfl,aj (fun c=>absurd c (by decide+kernel)) (fun _=>?_)⟩⟩
     exact bx _ _ ⟨F',rfl,⟨pa,g1,g2⟩,aa.refl _⟩
    | some c1=>
     rw [hz] at ow bx
     obtain ⟨r,g1,vz⟩:=ow
     refine ⟨_,.str "done",.inr (ae.of g1),rfl,⟨rfl,_,rfl,aj (fun _=>?_) (fun c=>absurd c (by decide+kernel))⟩⟩
     refine ⟨(show 1<=sizeLine by decide),fun t ht=>bx _ _ ⟨t,rfl,aA,aa.upd ht _⟩⟩
   ·rintro σ' H3 ⟨F3,rfl,N8,s3⟩
    refine ⟨(show 3<=sizeLine by decide),fun t ht=>?_⟩
    have s4:=aa.upd ht (.tup [v',.int (dn:Int),.ref F3])
    exact k t _ ((s2.trans s3).trans s4) ⟨v',F3,aA,N8.tk s4.ts,hm'.tk (s3.trans s4).ts⟩
theorem lP (T:Txt K mg w):bf P w K mg base 47 "_law_asked" ["_law_maker","_law_n"] Dq:=by
 have N9:=xT (P:=P) (w:=w) (base:=base) T
 refine T.oK.di c9 (fun vs H Q E h=>?_) (fun f ay A outer s H vs Q E hr h=>?_)
 ·obtain ⟨v,n,m,rfl,_⟩:=h
  rfl
 ·refine hdn fun Gz9 zG9=>?_;obtain ⟨v,n,m,rfl,hn,hm,hc,k⟩:=h;refine zG9 ?_
  have hu:=bF hr
  have br:=Qx (bF hr)
  have hsz:sizeLine=16777216:=QL
  refine ⟨_,(aE (aV (i:=2) c9.nd rfl (Or.inl rfl) cZ)
   (aE (aV (i:=3) c9.nd rfl (Or.inl rfl) cZ)
   (aE (zV (i:=3) N9 (hr.mono (by decide)) (aD (zv 0) (aD (zv 1) aC)) (MN (j:=4) T.ER.m T.ER.at_ c9.nd rfl rfl (fun _=>(aH (aV (i:=2) c9.nd rfl (Or.inl rfl) (zv 4)))) zU) c9.nd rfl rfl)
   (aE (bI (eM (aL jU (zv 2) cZ (bq _)) (dD (k8 (bV rQ (by rfl) T.eG PyProof.Rows.boot_isinstance (aI (aO (aQ K) (zv 3) aF (fun _ _=>rfl)) (aD (yC (v:=.ty "bool") (by rfl) T.xV PyProof.Rows.boot_bool rfl) aC)))))).pt (aH (aT (aN (aB aJ aC)))) aS)
   (aE (bI (aL jU (zv 2) cZ (bq _)) (aH (aT (zv 3))) aS)
   (aE (bI (yU (tO (k8 (bV (l0 K) (by rfl) T.eG PyProof.Rows.boot_isinstance (aD (zv 2) (aD (p9 (v:=.ref (adr mg "TooMany")) ⟨_,T.zw.m,rfl⟩) aC))))) (xO (k8 (bV (l0 K) (by rfl) T.eG PyProof.Rows.boot_isinstance (aD (zv 2) (aW (aN (aD (p9 (v:=.ref (adr mg "NoTelling")) ⟨_,T.Iu.m,rfl⟩) (aD (p9 (v:=.ref (adr mg "NoText")) ⟨_,T.Ir.m,rfl⟩) aC))) aC)))))).pt (aH (aT (aN (aB aJ aC)))) aS)
   (aH (aT (aN (aB aJ (mU (xX K (zv 2)) aC))))))))))),?_⟩
  refine dP ?_
  refine dP ?_
  refine aZ (fun σ' H'=>aa H H'/\((∃ (kk:Nat) (e dx:Addr),fh n 0 m=.inl kk/\σ'=[some v,some (.int (n:Int)),some (.ref e),some .af,none]/\H' e=some (jl (adr mg "TooMany") (some dx) e)/\H' dx=some (.xd [("many",.int kk)]))\/∃ (t:Addr) (m':Mr) (dn:Nat) (kd:Kd),fh n 0 m=.inr (m',dn,kd)/\σ'=[some v,some (.int (n:Int)),some .af,some (.ref t),none]/\A4 H' t m' dn kd)) ?_ ?_
  ·intro nx bx
   refine ⟨v,n,m,rfl,hn,hm,hc,?_⟩
   cases jy:fh n 0 m with
   | inl kk=>
    intro e dx H' s' he B4 e' C' ee xq
    cases ee
    rw [he] at xq
    obtain ⟨rfl,_⟩:=wE (QD xq)
    refine ⟨true,T.M8,?_⟩
    rw [if_pos rfl]
    exact bx _ _ ⟨s',.inl ⟨kk,e,dx,jy,rfl,he,B4⟩⟩
   | inr r=>
    obtain ⟨m',dn,kd⟩:=r
    exact fun t H' s' h'=>bx _ _ ⟨s',.inr ⟨t,m',dn,kd,jy,rfl,h'⟩⟩
  ·rintro σ' H' ⟨s',⟨kk,e,dx,jy,rfl,he,B4⟩ | ⟨t,m',dn,kd,jy,rfl,N_⟩⟩
   ·have eh:De H' e (adr mg "TooMany"):=⟨some dx,.inr he,fun d hd=>by cases hd;exact ⟨_,B4⟩⟩
    have xa:=T.zw.at_
    refine ⟨_,rfl,dw (dw (aG ?_))⟩
    refine ⟨_,rfl,dw (aG ?_)⟩
    refine ⟨e,_,_,rfl,eh,xa,.inl ⟨true,⟨xa,T.M_⟩,true,rfl,dw ?_⟩⟩
    refine ⟨(show 2<=sizeLine by decide),fun t ht=>?_⟩
    have st:=aa.upd ht (.tup [.ref (adr mg "NoTelling"),.ref (adr mg "NoText")])
    refine ⟨e,.ref t,_,rfl,⟨some dx,.inr (st _ _ he),fun d hd=>by cases hd;exact ⟨_,st _ _ B4⟩⟩,xa,.inr ⟨t,_,false,rfl,aA,⟨false,⟨T.Iu.at_,T.Na⟩,by rw [if_neg (by decide)];exact ⟨false,⟨T.Ir.at_,T.M9⟩,by rw [if_neg (by decide)];rfl⟩⟩,false,rfl,dw (aX ?_)⟩⟩
    refine ⟨e,_,dx,_,.int kk,rfl,.inr (st _ _ he),st _ _ B4,xa,T.zw.na _ (by simp),rfl,?_⟩
    refine ⟨(show 2<=sizeLine by decide),fun q hq=>k q _ ((s'.trans st).trans (aa.upd hq _)) ?_⟩
    rw [jy]
    exact aA
   ·obtain ⟨mv,kt,g1,g2,g3⟩:=N_
    refine ⟨_,rfl,y_ ?_⟩
    refine ⟨_,.int (dn:Int),.inr (ae.of g1),rfl,by simp,"int",rfl,_,rfl,dw (aG ?_)⟩
    refine ⟨_,rfl,y_ ?_⟩
    refine k t H' s' ?_
    rw [jy]
    exact ⟨mv,kt,g1,g2,g3⟩
def um:Nat->Mr->Mr
 | 0,m=>m
 | j+1,m=>.mk (.pick "a") [um j m]
def yf (z:Str):Nat->Mr->Mr
 | 0,m=>m
 | j+1,m=>.mk (.hold z) [yf z j m]
theorem jJ (m:Mr):∀ j,az (um j m)=j+az m
 | 0=>by rw [um];omega
 | j+1=>by rw [um,az,bj,bj,jJ m j];omega
theorem jZ (z:Str) (m:Mr):∀ j,az (yf z j m)=j+az m
 | 0=>by rw [yf];omega
 | j+1=>by rw [yf,az,bj,bj,jZ z m j];omega
def Jq:Sp:=fun vs H Q _=>∃ (j d:Nat) (v:V) (m:Mr),vs=[.int (j:Int),v]/\j<=1000/\aq H d v m/\∀ r H',aa H H'->aq H' (d+j) r (um j m)->Q r H'
theorem mH (T:Txt K mg w):bf P w K mg base 1 "_law_picks" ["_law_many_here","_law_maker"] Jq:=by
 refine T.nB.di dZ (fun vs H Q E h=>?_) (fun f ay A outer s H vs Q E hr h=>?_)
 ·obtain ⟨j,d,v,m,rfl,_⟩:=h
  rfl
 ·refine hdn fun Gz9 zG9=>?_;obtain ⟨j,d,v,m,rfl,hj,hm,k⟩:=h;refine zG9 ?_
  have hsz:sizeLine=16777216:=QL
  refine ⟨_,(aE (fY PassesOwn.never rfl (h9 (by rfl) T.jF (aD (zv 0) aC)) (aU (i:=2) dZ.nd rfl (Or.inl rfl)) (aH (aV (i:=1) dZ.nd rfl (Or.inl rfl) (aN (aB aJ (aB aJ (aD (zv 1) aC)))))))
   (aH (aT (zv 1)))),?_⟩
  refine aZ (fun σ' H'=>∃ r v2,σ'=[some (.int (j:Int)),some r,v2]/\aq H' (d+j) r (um j m)/\aa H H') ?_ (by rintro σ' H' ⟨r,v2,e,h1,s1⟩;(subst e;exact k r H' s1 h1))
  intro nx bx
  refine ⟨_,rfl,by omega,by omega,?_⟩
  refine fZ (fL 0 j) (fun i σ' H'=>∃ r v2,σ'=[some (.int (j:Int)),some r,v2]/\aq H' (d+i) r (um i m)/\aa H H') ⟨v,none,rfl,hm,aa.refl _⟩ (fun _ _ _ _ _=>trivial) ?_ ?_
  ·rintro i σ' H1 hi ⟨r,v2,rfl,h1,s1⟩
   refine ⟨(show 3<=sizeLine by decide),fun p hp=>?_⟩
   have s2:=aa.upd hp (.tup [.str "pick",.str "a",r])
   refine ⟨_,_,rfl,?_,s1.trans s2⟩
   rw [um]
   refine .mk (n:=d+i) (.pick aA) (by show cy _;unfold cy;decide) rfl fun l wz za=>?_
   obtain rfl:l=0:=by simp at wz;omega
   exact h1.tk s2.ts
  ·rintro σ' H1 ⟨r,v2,rfl,h1,s1⟩
   exact bx _ _ ⟨r,v2,rfl,h1,s1⟩
theorem uF {v:V} {f:au} (h:dh H v f []) (ok:f.ok):aq H 1 v (.mk f []):=.mk (n:=0) h ok rfl fun i h=>absurd h (by simp)
theorem lU {v x:V} {f:au} {m:Mr} (h:dh H v f [x]) (ok:f.ok) (hm:aq H n x m):aq H (n+1) v (.mk f [m]):=.mk h ok rfl fun i h1 h2=>by
 obtain rfl:i=0:=by simp at h1;omega
 exact hm
theorem uB {v x y:V} {f:au} {m m':Mr} (h:dh H v f [x,y]) (ok:f.ok) (hm:aq H n x m) (hm':aq H n y m'):aq H (n+1) v (.mk f [m,m']):=.mk h ok rfl fun i h1 h2=>by
 match i,h1 with
 | 0,_=>exact hm
 | 1,_=>exact hm'
theorem u4 {v x y z:V} {f:au} {m m' m2:Mr} (h:dh H v f [x,y,z]) (ok:f.ok) (hm:aq H n x m) (hm':aq H n y m') (BY:aq H n z m2):aq H (n+1) v (.mk f [m,m',m2]):=.mk h ok rfl fun i h1 h2=>by
 match i,h1 with
 | 0,_=>exact hm
 | 1,_=>exact hm'
 | 2,_=>exact BY
def GM (σ:St) (H:Hp) (te:TE) (d:Nat) (m:Mr):Prop:=∀ (H1:Hp) (Q:VK),aa H H1->(∀ v H',aa H1 H'->aq H' d v m->Q v H')->te σ H1 Q
def GS (σ:St) (te:TE) (z:Str):Prop:=∀ (H:Hp) (Q:VK),Q (.str z) H->te σ H Q
section
variable {Ae:TE} {m m':Mr}
theorem Oa (z:Str):GS σ (tC (.str z)) z:=fun H Q q=>q
theorem Jr (h:σ[i]? =some (some (.str z))):GS σ (tV i) z:=fun H Q q=>by unfold tV;rw [h];exact q
theorem mV {v:V} (h:σ[i]? =some (some v)) (hm:aq H d v m):GM σ H (tV i) d m:=fun H1 Q s k=>by unfold tV;rw [h];exact k v H1 (aa.refl _) (hm.tk s.ts)
theorem i8 (hz:cy z):GM σ H (ie (bu (tC (.str "get")) (bu (tC (.str z)) gw))) 1 (.mk (.get z) []):=fun H1 Q s k=>⟨(show 2<=sizeLine by decide),fun p hp=>k _ _ (aa.upd hp _) (uF (.get aA) hz)⟩
theorem qA (hz:cy z) (h:GM σ H te d m):GM σ H (ie (bu (tC (.str "part")) (bu te (bu (tC (.str z)) gw)))) (d+1) (.mk (.part z) [m]):=fun H1 Q s k=>
 h H1 _ s fun v H2 s2 hm=>⟨(show 3<=sizeLine by decide),fun p hp=>k _ _ (s2.trans (aa.upd hp _)) (lU (.part aA) hz (hm.tk (aa.upd hp _).ts))⟩
theorem vX {tz:TE} (hz:cy z) (h:GM σ H te d m) (ht:GS σ tz z):GM σ H (ie (bu (tC (.str "hold")) (bu te (bu tz gw)))) (d+1) (.mk (.hold z) [m]):=fun H1 Q s k=>
 h H1 _ s fun v H2 s2 hm=>ht H2 _ ⟨(show 3<=sizeLine by decide),fun p hp=>k _ _ (s2.trans (aa.upd hp _)) (lU (.hold aA) hz (hm.tk (aa.upd hp _).ts))⟩
theorem vA (hz:cy z) (h:GM σ H te d m):GM σ H (ie (bu (tC (.str "pick")) (bu (tC (.str z)) (bu te gw)))) (d+1) (.mk (.pick z) [m]):=fun H1 Q s k=>
 h H1 _ s fun v H2 s2 hm=>⟨(show 3<=sizeLine by decide),fun p hp=>k _ _ (s2.trans (aa.upd hp _)) (lU (.pick aA) hz (hm.tk (aa.upd hp _).ts))⟩
theorem jD (h:GM σ H te d m) (h':GM σ H Ae d m'):GM σ H (ie (bu (tC (.str "call")) (bu te (bu Ae gw)))) (d+1) (.mk .call [m,m']):=fun H1 Q s k=>
 h H1 _ s fun v H2 s2 hm=>h' H2 _ (s.trans s2) fun v' H3 s3 hm'=>⟨(show 3<=sizeLine by decide),fun p hp=>k _ _ ((s2.trans s3).trans (aa.upd hp _)) (uB (.call aA) trivial (hm.tk (s3.trans (aa.upd hp _)).ts) (hm'.tk (aa.upd hp _).ts))⟩
theorem xJ {tz:TE} {v:Str} (hv:cy v) (hz:cy z) (ht:GS σ tz z) (h:GM σ H te d m):GM σ H (ie (bu (tC (.str "fn")) (bu (tC (.str v)) (bu tz (bu te gw))))) (d+1) (.mk (.fn v z) [m]):=fun H1 Q s k=>
 ht H1 _ (h H1 _ s fun x H2 s2 hm=>⟨(show 4<=sizeLine by decide),fun p hp=>k _ _ (s2.trans (aa.upd hp _)) (lU (.fn aA) ⟨hv,hz⟩ (hm.tk (aa.upd hp _).ts))⟩)
theorem w4:GM σ H (ie (bu (tC (.str "box")) (bu (ie gw) gw))) 1 (.mk (.ck []) []):=fun H1 Q s k=>
 ⟨(show 0<=sizeLine by decide),fun q hq=>⟨(show 2<=sizeLine by decide),fun p hp=>k _ _ ((aa.upd hq _).trans (aa.upd hp _)) (uF (.ck aA ((aa.upd hp _) _ _ aA) ⟨rfl,rfl,fun i h=>absurd h (by simp)⟩) ⟨by simp,by simp,by simp⟩)⟩⟩
theorem q9 {z':Str} (hz:cy z) (Bx:cy z') (ne:z≠z') (h:GM σ H te d m) (h':GM σ H Ae d m'):GM σ H (ie (bu (tC (.str "box")) (bu (ie (bu (ie (bu (tC (.str z)) (bu te gw))) (bu (ie (bu (tC (.str z')) (bu Ae gw))) gw))) gw))) (d+1) (.mk (.ck [z,z']) [m,m']):=fun H1 Q s k=>
 h H1 _ s fun v H2 s2 hm=>⟨(show 2<=sizeLine by decide),fun p1 ky=>by
  have s3:=aa.upd ky (.tup [.str z,v])
  have g3:upd H2 p1 (.tup [.str z,v]) p1=some (.tup [.str z,v]):=aA
  generalize upd H2 p1 (.tup [.str z,v])=H3 at s3 g3
  refine h' H3 _ ((s.trans s2).trans s3) fun v' H4 s4 hm'=>⟨(show 2<=sizeLine by decide),fun p2 jg=>?_⟩
  have s5:=aa.upd jg (.tup [.str z',v'])
  have g5:upd H4 p2 (.tup [.str z',v']) p2=some (.tup [.str z',v']):=aA
  generalize upd H4 p2 (.tup [.str z',v'])=H5 at s5 g5
  refine ⟨(show 2<=sizeLine by decide),fun p3 FD=>?_⟩
  have s6:=aa.upd FD (.tup [.ref p1,.ref p2])
  have g6:upd H5 p3 (.tup [.ref p1,.ref p2]) p3=some (.tup [.ref p1,.ref p2]):=aA
  generalize upd H5 p3 (.tup [.ref p1,.ref p2])=H6 at s6 g6
  refine ⟨(show 2<=sizeLine by decide),fun p4 FE=>?_⟩
  have s7:=aa.upd FE (.tup [.str "box",.ref p3])
  have A5:=((s4.trans s5).trans s6).trans s7
  refine k _ _ ((s2.trans s3).trans A5) (uB (.ck (ws:=[z,z']) (xs:=[.ref p1,.ref p2]) (ms:=[v,v']) aA (s7 _ _ g6) ⟨rfl,rfl,fun i h1 h2 h3=>?_⟩) ⟨by simp [ne],by simp [hz,Bx],by simp⟩ (hm.tk (s3.trans A5).ts) (hm'.tk ((s5.trans s6).trans s7).ts))
  match i,h1 with
  | 0,_=>exact ⟨p1,rfl,A5 _ _ g3⟩
  | 1,_=>exact ⟨p2,rfl,(s6.trans s7) _ _ g5⟩⟩
end
theorem Af (z:Str) (h:z.length<=100:=by decide):cy z:=by unfold cy;omega
theorem pG {i j:Int} {Q:VK} (h:Q (.int (i+j)) H):GL (.int i) (.int j) H Q:=h
theorem Ob {Q:List V->Hp->Prop} (h:te σ H fun x H1=>Q [x] H1):bu te gw σ H Q:=h
theorem Oc {a v:V} {G:TE} {Q:VK} (e:σ[i]? =some (some v)) (h:G σ H fun x H1=>3<=sizeLine/\∀ q,H1 q=none->Q (.ref q) (upd H1 q (.tup [a,x,v]))):ie (bu (tC a) (bu G (bu (tV i) gw))) σ H Q:=by
 unfold ie bu tC tV gw
 rw [e]
 exact h
theorem zX {v:V} {D:Ends} (h:te (σ.set i (some v)) H fun x H1=>D.nx ((σ.set i (some v)).set j (some x)) H1):ia i v σ H (fun σ2 H2=>o_ te (ia j) D σ2 H2):=h
theorem Od {a b:V} {G:TE} {tr:TA} {Q:List V->Hp->Prop} (h:G σ H fun x H1=>3<=sizeLine/\∀ q,H1 q=none->tr σ (upd H1 q (.tup [a,b,x])) fun xs H2=>Q (.ref q::xs) H2):bu (ie (bu (tC a) (bu (tC b) (bu G gw)))) tr σ H Q:=h
def Js (K:QZ):Sp:=fun vs H Q _=>∃ (H0:Hp) (p:Addr) (t:Nat) (z:Str),vs=[.ref p,.str z]/\kr K H0 H p t/\t+2 < 900000/\cy z/\∀ (v:V) (m:Mr) (H':Hp),aq H' 40 v m->az m<=400->kr K H0 H' p (t+2)->Sm p p H H'->Q v H'
theorem jC (T:Txt K mg w):bf P w K mg base 3 "_law_counting" ["_law_pen","_law_name"] (Js K):=by
 have cF:bf P w K mg base 2 "_law_next" ["_law_pen","_law_many"] (EV K):=gU T
 have mZ:bf P w K mg base 1 "_law_picks" ["_law_many_here","_law_maker"] Jq:=mH T
 refine T.jQ.di bD (fun vs H Q E h=>?_) (fun f ay A outer s H vs Q E hr h=>?_)
 ·obtain ⟨H0,p,t,z,rfl,_⟩:=h
  rfl
 ·refine hdn fun Gz9 zG9=>?_;obtain ⟨H0,p,t,z,rfl,hn,ht,hz,k⟩:=h;refine zG9 ?_
  have hsz:sizeLine=16777216:=QL
  have ha:cy "a":=Af "a"
  have hb:cy "b":=Af "b"
  have Az:cy "z":=Af "z"
  have FF:cy "u":=Af "u"
  have FG:cy "v":=Af "v"
  refine ⟨_,(aE (aV (i:=2) bD.nd rfl (Or.inl rfl) (aN (aB aJ (aB aJ aC))))
   (aE (fY PassesOwn.never rfl (h9 (by rfl) T.jF (bY (bH cF (hr.mono (by decide)) (aD (zv 0) (aB aF aC))) aC)) (aU (i:=3) bD.nd rfl (Or.inl rfl)) (aH (aV (i:=2) bD.nd rfl (Or.inl rfl) (aN (aB aJ (aD (zv 2) (aD (zv 1) aC)))))))
   (aE (aV (i:=4) bD.nd rfl (Or.inl rfl) (aN (aB aJ (aW (aN (aB aJ (aB aJ aC))) (aB aJ aC)))))
   (aE (aV (i:=5) bD.nd rfl (Or.inl rfl) (aN (aB aJ (aD (zv 4) (aW (aN (aB aJ (aW (aN (aW (aN (aB aJ (aD (zv 4) aC))) (aW (aN (aB aJ (aD (zv 2) aC))) aC))) aC))) aC)))))
   (aE (aV (i:=6) bD.nd rfl (Or.inl rfl) (aN (aW (aN (aB aJ (aB aJ (aD (zv 5) aC)))) (aW (aN (aB aJ (aB aJ (aW (aN (aB aJ (aB aJ aC))) aC)))) aC))))
   (aE (aV (i:=7) bD.nd rfl (Or.inl rfl) (aN (aB aJ (aB aJ (aD (zv 1) (aW (aN (aB aJ (aW (aN (aB aJ (aW (aN (aB aJ (aB aJ aC))) (aB aJ aC)))) (aD (zv 6) aC)))) aC))))))
   (aE (aV (i:=8) bD.nd rfl (Or.inl rfl) (bH mZ (hr.mono (by decide)) (fJ (bK bJ aF (bH cF (hr.mono (by decide)) (aD (zv 0) (aB aF aC)))) (aW (aN (aB aJ (aB aJ (aW (aN (aB aJ (aW (aN aC) aC))) aC)))) aC))))
   (aH (aT (aN (aB aJ (aD (zv 7) (aW (aN (aB aJ (aW (aN (aW (aN (aB aJ (aD (zv 7) aC))) (aW (aN (aB aJ (aD (zv 8) aC))) aC))) aC))) aC))))))))))))),?_⟩
  refine aK (i8 (H:=H) FF H _ (aa.refl _) fun v1 H1 s1 m1=>?_)
  have hn1:=hn.same s1
  refine aZ (fun σ' H'=>∃ r v2 j,j<=8/\σ'=[some (.ref p),some (.str z),some r,v2,none,none,none,none,none]/\aq H' 9 r (yf z j (.mk (.get "u") []))/\kr K H0 H' p (t+1)/\Sm p p H H') ?_ ?_
  ·intro nx bx
   refine ⟨H0,p,9,t,rfl,hn1,by decide,by omega,fun r H2 r0 r1 hn2 Jt=>?_⟩
   obtain ⟨j,rfl⟩:∃ j:Nat,r=(j:Int):=⟨r.toNat,by omega⟩
   refine ⟨_,rfl,by omega,by omega,?_⟩
   have m2:=m1.tk (hn1.ts Jt)
   refine fZ (fL 0 j) (fun i σ' H'=>∃ r v2,σ'=[some (.ref p),some (.str z),some r,v2,none,none,none,none,none]/\aq H' (1+i) r (yf z i (.mk (.get "u") []))/\aa H2 H') ⟨v1,none,rfl,m2,aa.refl _⟩ (fun _ _ _ _ _=>trivial) ?_ ?_
   ·rintro i σ' H3 hi ⟨r,v2,rfl,h3,s3⟩
    refine zX (vX (H:=H3) (te:=tV 2) (tz:=tV 1) hz (mV rfl h3) (Jr rfl) H3 _ (aa.refl _) fun v4 H4 s4 m4=>?_)
    exact ⟨v4,_,rfl,m4,s3.trans s4⟩
   ·rintro σ' H3 ⟨r,v2,rfl,h3,s3⟩
    exact bx _ _ ⟨r,v2,j,by omega,rfl,h3.up (by omega),hn2.same s3,s1.sm.trans (Jt.trans s3.sm)⟩
  ·rintro σ' H3 z0;refine hdn fun Gz9 zG9=>?_;obtain ⟨rm,v2,j,hj,rfl,m3,B5,FH⟩:=z0;refine zG9 ?_
   have cm:az (yf z j (.mk (.get "u") []))<=9:=by rw [jZ,az,bj];omega
   generalize yf z j (.mk (.get "u") [])=mo at m3 cm
   refine aK (qA (H:=H3) ha (i8 FG) H3 _ (aa.refl _) fun v4 H4 s4 m4=>?_)
   have Oe:=m3.tk s4.ts
   refine aK (jD (H:=H4) (te:=tV 4) (mV rfl (m4.up (show 2<=10 by omega))) (q9 (te:=tV 4) (Ae:=tV 2) ha hb (by decide+kernel) (mV rfl (m4.up (show 2<=9 by omega))) (mV rfl Oe)) H4 _ (aa.refl _) fun v5 H5 s5 m5=>?_)
   have Q6:=m4.tk s5.ts
   refine ⟨(show 3<=sizeLine by decide),fun p1 ky=>?_⟩
   have s6:=aa.upd ky (.tup [.str "a",.str "u",v5])
   have g6:upd H5 p1 (.tup [.str "a",.str "u",v5]) p1=some (.tup [.str "a",.str "u",v5]):=aA
   generalize upd H5 p1 (.tup [.str "a",.str "u",v5])=H6 at s6 g6
   refine Od (i8 (H:=H6) FF H6 _ (aa.refl _) fun v7 H7 s7 m7=>⟨(show 3<=sizeLine by decide),fun p2 jg=>?_⟩)
   have s8:=aa.upd jg (.tup [.str "z",.str "u",v7])
   have g8:upd H7 p2 (.tup [.str "z",.str "u",v7]) p2=some (.tup [.str "z",.str "u",v7]):=aA
   generalize upd H7 p2 (.tup [.str "z",.str "u",v7])=H8 at s8 g8
   refine ⟨(show 2<=sizeLine by decide),fun p3 FD=>?_⟩
   have s9:=aa.upd FD (.tup [.ref p1,.ref p2])
   have g9:upd H8 p3 (.tup [.ref p1,.ref p2]) p3=some (.tup [.ref p1,.ref p2]):=aA
   generalize upd H8 p3 (.tup [.ref p1,.ref p2])=H9 at s9 g9
   have gf:GM [some (.ref p),some (.str z),some rm,v2,some v4,some v5,some (.ref p3),none,none] H9 _ 14 (.mk (.fn "v" z) [.mk (.split [("a","u"),("z","u")]) [.mk (.part "b") [.mk (.get "v") []],.mk .call [.mk (.part "a") [.mk (.get "v") []],.mk (.ck ["a","b"]) [.mk (.part "a") [.mk (.get "v") []],mo]],.mk (.get "u") []]]):=xJ (d:=13) FG hz (Jr (i:=1) rfl) (te:=ie (bu (tC (.str "split")) (bu (ie (bu (tC (.str "part")) (bu (ie (bu (tC (.str "get")) (bu (tC (.str "v")) gw))) (bu (tC (.str "b")) gw)))) (bu (tV 6) gw)))) fun HA Q sA kA=>Oc rfl (qA (H:=HA) hb (i8 FG) HA _ (aa.refl _) fun vB HB sB mB=>⟨(show 3<=sizeLine by decide),fun p4 FE=>by
    have sC:=aa.upd FE (.tup [.str "split",vB,.ref p3])
    have gC:upd HB p4 (.tup [.str "split",vB,.ref p3]) p4=some (.tup [.str "split",vB,.ref p3]):=aA
    refine kA _ _ (sB.trans sC) ?_
    have B6:=(sA.trans sB).trans sC
    refine u4 (n:=12) (.split (cs:=[("a","u"),("z","u")]) (ms:=[v5,v7]) gC (B6 _ _ g9) ⟨rfl,rfl,fun i h1 h2 h3=>?_⟩) ⟨by decide+kernel,by simp [ha,Az,FF],by decide⟩ ((mB.tk sC.ts).up (by omega)) ((m5.tk ((((s6.trans s7).trans s8).trans s9).trans B6).ts).up (by omega)) ((m7.tk ((s8.trans s9).trans B6).ts).up (by omega))
    match i,h1 with
    | 0,_=>exact ⟨p1,rfl,((((s7.trans s8).trans s9)).trans B6) _ _ g6⟩
    | 1,_=>exact ⟨p2,rfl,(s9.trans B6) _ _ g8⟩⟩)
   refine aK (gf H9 _ (aa.refl _) fun vF HF sF mF=>?_)
   have Ju:=((((s4.trans s5).trans s6).trans s7).trans (s8.trans s9)).trans sF
   have Jv:=B5.same Ju
   refine aK ⟨H0,p,14,t+1,rfl,Jv,by decide,by omega,fun r2 HG r0 r1 Of Jw=>?_⟩
   obtain ⟨j2,rfl⟩:∃ j2:Nat,r2=(j2:Int):=⟨r2.toNat,by omega⟩
   have mG:=mF.tk (Jv.ts Jw)
   refine pG ?_
   refine Ob (vA (H:=HG) Az w4 HG _ (aa.refl _) fun vP HP sP mP=>⟨2+j2,2,vP,_,?_,by omega,mP,fun vQ HQ sQ mQ=>?_⟩)
   ·simp
   have cQ:az (um (2+j2) (.mk (.pick "z") [.mk (.ck []) []]))<=17:=by rw [jJ];simp only [az,bj];omega
   generalize um (2+j2) (.mk (.pick "z") [.mk (.ck []) []])=mq at mQ cQ
   refine jD (H:=HQ) (te:=tV 7) (d:=18) (mV rfl ((mG.tk (sP.trans sQ).ts).up (by omega))) (q9 (te:=tV 7) (Ae:=tV 8) ha hb (by decide+kernel) (mV rfl ((mG.tk (sP.trans sQ).ts).up (show 14<=17 by omega))) (mV rfl (mQ.up (by omega)))) HQ _ (aa.refl _) fun vR HR sR mR=>k _ _ _ (mR.up (by omega)) ?_ (Of.same ((sP.trans sQ).trans sR)) (FH.trans (Ju.sm.trans (Jw.trans ((sP.trans sQ).trans sR).sm)))
   simp only [az,bj]
   omega
def FI:Kd->Tv
 | .val=>.t [.s "value"]
 | .stuck p=>.t [.s "stuck",.t (p.map fun k:Nat=>.i (k:Int))]
 | .on=>.t [.s "on"]
def Og:Nat ⊕ (Mr×Nat×Kd)->Tv
 | .inl k=>.t [.s "many",.i (k:Int)]
 | .inr (m,dn,kd)=>.t [jn m,.i (dn:Int),FI kd]
theorem Oh (p:List Nat):fi H n (fq p) (p.map fun k:Nat=>.i (k:Int)):=⟨by simp [fq],fun i h1 h2=>by simp only [fq,Qr];exact .int⟩
theorem yd.td {kt:Addr} {kd:Kd} (h:yd H kt kd):TD H 120 (.ref kt) (FI kd):=by
 cases kd with
 | val=>exact .tup (.inl h) (.cons .str .nil)
 | stuck p=>obtain ⟨pa,h1,h2⟩:=h;exact .tup (n:=119) (.inl h1) (.cons .str (.cons (.tup (n:=118) (.inl h2) (Oh p)) .nil))
 | on=>exact .tup (.inl h) (.cons .str .nil)
theorem A4.td {H:Hp} {t:Addr} {m:Mr} {dn:Nat} {kd:Kd} (h:A4 H t m dn kd):TD H 121 (.ref t) (.t [jn m,.i (dn:Int),FI kd]):=by
 obtain ⟨mv,kt,h1,h2,h3⟩:=h
 exact .tup (n:=120) (.inl h1) (.cons h3.td (.cons .int (.cons h2.td .nil)))
theorem A7.td {H:Hp} {t:Addr} {r:Nat ⊕ (Mr×Nat×Kd)} (h:A7 H t r):TD H 121 (.ref t) (Og r):=by
 cases r with
 | inl k=>exact .tup (n:=120) (.inl h) (.cons .str (.cons .int .nil))
 | inr r=>obtain ⟨m,dn,kd⟩:=r;exact A4.td h
def Jx:Mr:=.mk (.fn "v" "nn") [.mk .call [.mk (.get "v") [],.mk (.get "v") []]]
def uo:Mr:=.mk .call [Jx,Jx]
theorem rE:nu uo=some uo:=by rfl
theorem uO:qi uo=.on:=by rfl
theorem o8:∀ n dn:Nat,fh n dn uo=.inr (uo,dn+n,.on)
 | 0,dn=>by rw [fh,uO];rfl
 | n+1,dn=>by
  rw [fh,rE]
  have h1:¬400 < az uo:=by decide+kernel
  have h2:¬40 < cg uo:=by decide+kernel
  simp only []
  rw [if_neg h1,if_neg h2,o8 n (dn+1),show dn+1+n=dn+(n+1) by omega]
def Jy (K:QZ):Sp:=fun vs H Q _=>∃ (H0:Hp) (p:Addr) (t:Nat),vs=[.ref p]/\kr K H0 H p t/\t+10 < 900000/\∀ H',Q (.bl true) H'
theorem iF (T:Txt K mg w):bf P w K mg base 124 "_law_long_runs" ["_law_pen"] (Jy K):=by
 have cF:bf P w K mg base 2 "_law_next" ["_law_pen","_law_many"] (EV K):=gU T
 have jV:bf P w K mg base 3 "_law_counting" ["_law_pen","_law_name"] (Js K):=jC T
 have iK:bf P w K mg base 47 "_law_asked" ["_law_maker","_law_n"] Dq:=lP T
 have qX:bf P w K mg base 123 "_law_run" ["_law_maker","_law_n"] Dq:=pA T
 refine T.jA.di bL (fun vs H Q E h=>?_) (fun f ay A outer s H vs Q E hr h=>?_)
 ·obtain ⟨H0,p,t,rfl,_⟩:=h
  rfl
 ·obtain ⟨H0,p,t,rfl,hn,ht,k⟩:=h
  have Dn:=o6 hr
  have hsz:sizeLine=16777216:=QL
  have hv:cy "v":=Af "v"
  have Jz:cy "nn":=Af "nn"
  refine ⟨_,(aE (aV (i:=1) bL.nd rfl (Or.inl rfl) (aN (aB aJ (aB aJ (aB aJ (aW (aN (aB aJ (aW (aN (aB aJ (aB aJ aC))) (aW (aN (aB aJ (aB aJ aC))) aC)))) aC))))))
   (aE (aV (i:=2) bL.nd rfl (Or.inl rfl) (aN (aB aJ (aD (zv 1) (aD (zv 1) aC)))))
   (aE (aV (i:=3) bL.nd rfl (Or.inl rfl) (bH jV (hr.mono (by decide)) (aD (zv 0) (aB aJ aC))))
   (aE (fY PassesOwn.never rfl (rN K (dB (aB aF (bY (bH cF (hr.mono (by decide)) (aD (zv 0) (aB aF aC))) (fJ (bK bJ aF (bH cF (hr.mono (by decide)) (aD (zv 0) (aB aF aC)))) aC))))) (aU (i:=4) bL.nd rfl (Or.inl rfl)) (aH (bI (aL (x6 Dn) (bH iK (hr.mono (by decide)) (aD (zv 2) (aD (zv 4) aC))) (aN (aD (zv 2) (aD (zv 4) (aW (aN (aB aJ aC)) aC)))) (bq _)) (aH (aT y7)) aS)))
   (aE (aV (i:=4) bL.nd rfl (Or.inl rfl) (aO (aQ K) (dB (aB aF (fJ (bK bJ aF (bH cF (hr.mono (by decide)) (aD (zv 0) (aB aF aC)))) aC))) (bH cF (hr.mono (by decide)) (aD (zv 0) (aB aF aC))) (fun _ _=>rfl)))
   (aH (aT (u8 (qH Dn) (bH iK (hr.mono (by decide)) (aD (zv 3) (aD (zv 4) aC))) (bH qX (hr.mono (by decide)) (aD (zv 3) (aD (zv 4) aC))) (bq _))))))))),?_⟩
  refine aK (xJ (H:=H) hv Jz (Oa "nn") (jD (i8 hv) (i8 hv)) H _ (aa.refl _) fun v1 H1 s1 m1=>?_)
  refine aK (jD (H:=H1) (te:=tV 1) (Ae:=tV 1) (mV rfl m1) (mV rfl m1) H1 _ (aa.refl _) fun v2 H2 s2 m2=>?_)
  have hn2:=hn.same (s1.trans s2)
  refine aK ⟨H0,p,t,"nn",rfl,hn2,by omega,Jz,fun ve me H3 m3 c3 B5 FH=>?_⟩
  have Oi:aq H3 4 v2 uo:=m2.tk (hn2.ts FH)
  refine aZ (fun σ' H'=>∃ x,σ'=[some (.ref p),some v1,some v2,some ve,x]/\kr K H0 H' p (t+4)/\aq H' 40 ve me) ?_ ?_
  ·intro nx bx
   refine ⟨H0,p,201,t+2,rfl,B5,by decide,by omega,fun r4 H4 Q7 Q8 FJ JA=>?_⟩
   refine ⟨H0,p,61,t+3,rfl,FJ,by decide,by omega,fun r5 H5 Q9 Q_ Oj JB=>?_⟩
   obtain ⟨j4,rfl⟩:∃ j:Nat,r4=(j:Int):=⟨r4.toNat,by omega⟩
   obtain ⟨j5,rfl⟩:∃ j:Nat,r5=(j:Int):=⟨r5.toNat,by omega⟩
   refine pG ?_
   refine ⟨(show 3<=sizeLine by decide),fun L hL=>Or.inl ⟨⟨_,ao.of aA⟩,?_⟩⟩
   have sL:=aa.upd hL (.lst [.int 200,.int (j4:Int),.int (140+(j5:Int))])
   have gL:upd H5 L (.lst [.int 200,.int (j4:Int),.int (140+(j5:Int))]) L=some (.lst [.int 200,.int (j4:Int),.int (140+(j5:Int))]):=aA
   have A8:=Oj.same sL
   have JC:=((Oi.tk (B5.ts JA)).tk (FJ.ts JB)).tk sL.ts
   have B7:=((m3.tk (B5.ts JA)).tk (FJ.ts JB)).tk sL.ts
   generalize upd H5 L (.lst [.int 200,.int (j4:Int),.int (140+(j5:Int))])=H6 at sL gL A8 JC B7
   refine fZ (fH [.int 200,.int (j4:Int),.int (140+(j5:Int))]) (fun i σ' H'=>∃ x,σ'=[some (.ref p),some v1,some v2,some ve,x]/\aa H6 H') ⟨none,rfl,aa.refl _⟩ (by rintro i τ H' _ ⟨_,_,s⟩;exact ao.of (s _ _ gL)) ?_ ?_
   ·rintro i σ' H7 hi ⟨x,rfl,s7⟩
    have Ra:i < 3:=hi
    obtain ⟨n,Ol,ew⟩:∃ n:Nat,n<=200/\([.int 200,.int (j4:Int),.int (140+(j5:Int))]:List V).getD i .af=.int (n:Int):=by
     rcases (show i=0\/i=1\/i=2 by omega) with rfl | rfl | rfl
     ·exact ⟨200,by decide,rfl⟩
     ·exact ⟨j4,by omega,rfl⟩
     ·exact ⟨140+j5,by omega,by simp⟩
    rw [ew]
    have JD:=JC.tk s7.ts
    refine ⟨v2,n,uo,rfl,by omega,JD.up (by omega),by decide+kernel,fun t8 H8 s8 r8=>?_⟩
    rw [o8,Nat.zero_add] at r8
    have d8:=A7.td r8
    refine ⟨(show 1<=sizeLine by decide),fun q hq=>?_⟩
    have s9:=aa.upd hq (.tup [.str "on"])
    have g9:upd H8 q (.tup [.str "on"]) q=some (.tup [.str "on"]):=aA
    generalize upd H8 q (.tup [.str "on"])=H9 at s9 g9
    refine ⟨(show 3<=sizeLine by decide),fun q2 ki=>?_⟩
    have sA:=aa.upd ki (.tup [v2,.int (n:Int),.ref q])
    have gA:upd H9 q2 (.tup [v2,.int (n:Int),.ref q]) q2=some (.tup [v2,.int (n:Int),.ref q]):=aA
    generalize upd H9 q2 (.tup [v2,.int (n:Int),.ref q])=HA at sA gA
    refine ⟨121,121,_,.t [jn uo,.i (n:Int),.t [.s "on"]],t8,q2,by omega,rfl,rfl,d8.same (s9.trans sA),.tup (n:=120) (.inl gA) (.cons (TD.up (JD.tk ((s8.trans s9).trans sA).ts).td (by omega)) (.cons .int (.cons (.tup (n:=119) (.inl (sA _ _ g9)) (.cons .str .nil)) .nil))),fun bo Ac=>?_⟩
    obtain rfl:bo=true:=Ac.mpr rfl
    exact ⟨_,rfl,dw ⟨_,rfl,s7.trans (s8.trans (s9.trans sA))⟩⟩
   ·rintro σ' H7 ⟨x,rfl,s7⟩
    exact bx _ _ ⟨x,rfl,A8.same s7,B7.tk s7.ts⟩
  ·rintro σ' H7 ⟨x,rfl,JE,Om⟩
   refine aK ⟨H0,p,61,t+4,rfl,JE,by decide,by omega,fun r8 H8 Rb Rc JF Oo=>?_⟩
   obtain ⟨j8,rfl⟩:∃ j:Nat,r8=(j:Int):=⟨r8.toNat,by omega⟩
   refine pG ?_
   refine ⟨(show 2<=sizeLine by decide),fun L hL=>?_⟩
   have sL:=aa.upd hL (.lst [.int 200,.int (140+(j8:Int))])
   have gL:upd H8 L (.lst [.int 200,.int (140+(j8:Int))]) L=some (.lst [.int 200,.int (140+(j8:Int))]):=aA
   have nL:=JF.ne hL
   have A8:=JF.same sL
   have B7:=(Om.tk (JE.ts Oo)).tk sL.ts
   generalize upd H8 L (.lst [.int 200,.int (140+(j8:Int))])=H9 at sL gL A8 B7
   refine ⟨H0,p,2,t+5,rfl,A8,by decide,by omega,fun rA HA Rf Rg Rh JG=>?_⟩
   have JH:=B7.tk (A8.ts JG)
   have gA:=JG _ _ gL nL nL
   obtain ⟨n,Ol,ew⟩:∃ n:Nat,n<=200/\ir ([.int 200,.int (140+(j8:Int))]:List V) rA=some (.int (n:Int)):=by
    rcases (show rA=0\/rA=1 by omega) with rfl | rfl
    ·exact ⟨200,by decide,rfl⟩
    ·exact ⟨140+j8,by omega,by simp;rfl⟩
   refine ⟨_,_,.inl (ao.of gA),ew,?_⟩
   refine ⟨ve,n,me,rfl,by omega,JH,c3,fun tB HB sB rB=>?_⟩
   refine ⟨ve,n,me,rfl,by omega,JH.tk sB.ts,c3,fun tC HC sC rC=>?_⟩
   refine ⟨121,121,_,_,tB,tC,by omega,rfl,rfl,(A7.td rB).same sC,A7.td rC,fun bo Ac=>?_⟩
   obtain rfl:bo=true:=Ac.mpr rfl
   exact k _
def CD (K:QZ):Sp:=fun vs H Q _=>∃ (a:Addr) (ns:List Int),vs=[.ref a]/\ao K H a (ns.map V.int)/\ns.length<=63/\∀ H',Q (.bl true) H'
theorem tX {p:Addr} {ns:List Int} (hs:ao K H a (ns.map V.int)) (hp:H p=none):kr K H (upd H p (.lst [.ref a,.int 0,.int 0])) p 0:=by
 refine ⟨⟨a,ns,0,0,aA,fun H' sm=>?_,by omega,by omega⟩,(aa.upd hp _).sm⟩
 rcases hs with h | h
 ·refine .inl ?_
  have n:a≠p:=fun z=>by rcases h with h | ⟨o,h⟩<;>(rw [z,hp] at h;cases h)
  exact h.imp (fun e=>sm _ _ e n n) fun ⟨o,e⟩=>⟨o,sm _ _ e n n⟩
 ·exact .inr h
theorem yZ (T:Txt K mg w):bf P w K mg base 125 "law" ["script"] (CD K):=by
 have j6:bf P w K mg base 124 "_law_long_runs" ["_law_pen"] (Jy K):=iF T
 refine T.Iq.di (k:=124) uP (fun vs H Q E h=>?_) (fun f ay A outer s H vs Q E hr h=>?_)
 ·obtain ⟨a,ns,rfl,_⟩:=h
  rfl
 ·obtain ⟨sc,cells,rfl,I_,Ri,k⟩:=h
  refine ⟨_,(aE (aV (i:=1) uP.nd rfl (Or.inl rfl) (dB (aD (zv 0) (aB aF (aB aF aC)))))
   (aH (aT (bH j6 (hr.mono (by decide)) (aD (zv 1) aC))))),?_⟩
  refine aK ⟨(show 3<=sizeLine by decide),fun p hp=>?_⟩
  have Oq:=tX I_ hp
  exact ⟨_,p,0,rfl,Oq,by omega,k⟩
end
theorem wZ {K:QZ} (X:K.In h) (G:h.Ns mainGlobals mg) (e:look K=want w):Txt (without K []) mg w:=by
 have X':=pI (as:=[]) X
 obtain ⟨eF,e⟩:=Prod.mk.inj e
 obtain ⟨eV,e⟩:=Prod.mk.inj e
 obtain ⟨eT,e⟩:=Prod.mk.inj e
 obtain ⟨eD,e⟩:=Prod.mk.inj e
 obtain ⟨eN,e⟩:=Prod.mk.inj e
 obtain ⟨eX,e⟩:=Prod.mk.inj e
 have eS:=e
 obtain ⟨Ox,Rj,Oz,OA,uV⟩:=zC X' G (nJ eD 0 (x:="PLACES") rfl) rfl (by decide+kernel)
 obtain ⟨OB,Rk,rfl,OC,OD⟩:=nR OA
 obtain ⟨OE,Rl,rfl,OF,OG⟩:=nR OD
 obtain ⟨OH,Rm,rfl,OI,OJ⟩:=nR OG
 obtain ⟨OL,Rn,rfl,OM,ON⟩:=nR OJ
 obtain ⟨OO,Ro,rfl,OP,OQ⟩:=nR ON
 obtain ⟨OR,Rp,rfl,OS,OT⟩:=nR OQ
 obtain ⟨OU,Rq,rfl,OV,OW⟩:=nR OT
 obtain ⟨OX,Rr,rfl,OY,OZ⟩:=nR OW
 obtain rfl:=ME OZ
 exact ⟨nn X' G eN 0,
  nn X' G eN 1,
  nn X' G eN 2,
  nn X' G eN 3,
  nn X' G eN 4,
  nn X' G eN 5,
  nn X' G eN 6,
  nn X' G eN 7,
  nn X' G eN 8,
  nn X' G eN 9,
  nn X' G eN 10,
  nn X' G eN 11,
  ⟨Ox,OB,OE,OH,OL,OO,OR,OU,OX,Oz,uV,OC,OF,OI,OM,OP,OS,OV,OY⟩,
  vl X' G eV 0,
  vl X' G eV 1,
  kq X' G eF 0,
  xw X' G eF 1,
  xw X' G eF 2,
  kq X' G eF 3,
  kq X' G eF 4,
  kq X' G eF 5,
  kq X' G eF 6,
  CZ X' G eF 7,
  kq X' G eF 8,
  CZ X' G eF 9,
  kq X' G eF 10,
  xw X' G eF 11,
  xw X' G eF 12,
  kq X' G eF 13,
  kq X' G eF 14,
  CZ X' G eF 15,
  CZ X' G eF 16,
  kq X' G eF 17,
  kq X' G eF 18,
  kq X' G eF 19,
  kq X' G eF 20,
  xw X' G eF 21,
  xw X' G eF 22,
  xw X' G eF 23,
  xw X' G eF 24,
  kq X' G eF 25,
  kq X' G eF 26,
  tF X' G eX 0,
  Ib X' G eX 1,
  Ib X' G eX 2,
  tF X' G eX 3,
  cA X' G eS 0,
  cA X' G eS 1,
  cA X' G eS 2,
  cA X' G eS 3,
  cA X' G eS 4,
  cA X' G eS 5,
  cA X' G eS 6,
  cA X' G eS 7,
  cA X' G eS 8,
  cA X' G eS 9,
  cA X' G eS 10,
  cA X' G eS 11,
  cA X' G eS 12,
  cA X' G eS 13,
  cA X' G eS 14,
  cA X' G eS 15⟩
theorem walk:PySem.W.WalkO view ["PLACES"] XP (qk look want).says rj.row.toRowW Ag [] (fun f vs=>PySem.call f vs):=
 pC (l:=rj) (st:=iS) (k:=125) rfl rfl ⟨rfl,by decide,by decide,rfl⟩ rfl (by intros;rfl) fun w mg h K X e G=>have T:=wZ X G e;⟨T.Iq,fun base=>yZ T⟩
end T1
open PySem PySem.W PyProof.Rows L2
set_option maxRecDepth 100000 in
set_option maxHeartbeats 0 in
theorem PySem.Challenge.cw_coilkind_k89_long_runs_holds : PySem.Challenge.rw_coilkind_k89_long_runs.Holds := by
 refine PySem.W.holds_law T1.said fun said=>?_
 exact PySem.W.holds_open (q:=T1.view) (loose:=["PLACES"]) (Xt:=fun s=>xlAt T1.view [] s&&recOk [] s) (XP:=XL T1.view []) (Yf:=(qk T1.look T1.want).obs) (Ya:=(qk T1.look T1.want).val) (YP:=(qk T1.look T1.want).says) (N:=3938)
  (uL "special-get-raises" T1.Ou T1.Ov) (qk T1.look T1.want).of (qk T1.look T1.want).keeps (fun s e=>xl_of s (Bool.and_eq_true_iff.mp e).1) XL.keeps T1.hdef T1.hprog T1.hkw (fun s e=>recFacts_of (Bool.and_eq_true_iff.mp e).2) rfl (by assumption) T1.hok T1.hbare T1.O0 T1.walk
