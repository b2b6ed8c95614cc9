import PyProof.Rows.All
import Wide.All
import OpenK.AllK
import Wide.FinOn
import Lean
import PyProof.EqAt
import PyProof.EqKinds
import PyProof.TupleCall
import PyProof.DictCompW
import PyProof.AutoListH
import PyProof.EnumMake
import PyProof.ZipIter
import PyProof.AttrMissSeq
import KE.KDictOf
import PyProof.ReprLen
import PyProof.StrLawsRepr
import KE.KUnpackStar
import PyProof.DictWalks
import PyProof.Rows.DictUnroll
import PyProof.Rows.Range3
import PyProof.Rows.ChunkEnd
import PyProof.Rows.ChunkLeaf
import PyProof.StrCalls2
import PyProof.StrLawsTight
import PyProof.StrLawsChain
import PyProof.Rows.StrSplitJoin
import PyProof.Conv_int_bool
import PyProof.Rows.TupMore
import PyProof.Rows.SetFrom
import PyProof.SetRoads
import KE.KRevIter
import PyProof.CollectIter
import PyProof.TupleOfGen
import KE.KItemsList
import PyProof.NeKinds
import PyProof.StrLawsIn
import PyProof.Rows.StrCut
import PyProof.StrCalls
import PyProof.CallFns
import PyProof.FString5
import PyProof.NsCount
import PyProof.DictItems
import KE.KPairComp
import PyProof.DictValues
import PyProof.SumWalk
import PyProof.ConsumeWalk
import PyProof.SumAny
import PyProof.FactsAll.range_2
import PyProof.WalksMore
import PyProof.MinMaxWalk
import PyProof.SeqI3
import KE.KDictList
import KE.KDictLaws
import KE.KSortTup
import KE.KDictSum
import KE.KStrOpen
import PyProof.ExcClass3
import PyProof.ExcInit
import OpenK.KMake
import OpenK.KCls
import PyProof.InstStoreFacts
import PyProof.StationsW
import PyProof.RulesAs
import PyProof.NsDelKeeps
import PyProof.ExcAttrAll.ValueError
import PyProof.Rows.FStr
import PyProof.SetKind
import PyProof.TupleKey
import PyProof.IsRules
import KE.KMinKey
import KE.KIsAll
import PySem.Challenge.RW_coilkind_k85_whole_runs_go_on
set_option Elab.async false
set_option linter.all false
set_option maxRecDepth 100000
section
open PySem PySem.Spec PyProof.Rows
abbrev Qa := @List.getElem?_eq_getElem
abbrev Qb := @List.getD_eq_getElem?_getD
abbrev Qc := @Heap.get?_push_of_some
abbrev Qd := @Heap.get?_push_size
abbrev Qe := @List.getElem_append_left
abbrev Qf := @List.getElem_append_right
abbrev Qg := @List.getElem?_append_left
abbrev Qh := @List.mem_cons_of_mem
abbrev Qi := @List.getElem_of_mem
abbrev Qj := @List.getElem_mem
abbrev Qk := @List.length_append
abbrev Ql := @List.length_map
abbrev Qm := @List.map_append
abbrev Qp := @List.mem_cons
abbrev Qq := @List.getElem?_map
abbrev Qr := @List.getElem_map
abbrev Qs := @List.take_add_one
abbrev Qt := @of_decide_eq_true
abbrev Qw := @decide_eq_false
abbrev Qx := @Nat.lt_of_succ_lt
abbrev Qy := @Nat.le_refl
abbrev Qz := @Heap.lt_size
abbrev QA := @List.mem_nil_iff
abbrev QC := @List.mem_of_getElem?
abbrev QD := @Option.some.inj
abbrev QE := @Bool.false_xor
abbrev QG := @PyProof.Rows.boot_tuple
abbrev QH := @PySem.F.plainAttrs_list
abbrev QJ := @PySem.F.slot_list_append
abbrev QK := @PySem.F.type_list_append
abbrev QL := @sizeLine_eq
abbrev QQ := @List.append_nil
abbrev QR := @List.eq_nil_of_length_eq_zero
abbrev QS := @wpAny_bind
abbrev QT := @wpAny_pure
abbrev QX := @PyProof.Rows.boot_dict
abbrev QZ := PySem.W.Frag
end
variable {us:List PySem.Value} {u:PySem.Value} {a b p C l c:PySem.Addr} {h h' base:PySem.Heap} {P prog:PySem.Program} {w:PySem.World} {α:Type} {e tg:PySem.Expr} {pins:List (PySem.Addr×PySem.Obj)} {s s':PySem.Shared} {t' i j n d:Nat} {ch fp:List PySem.Addr} {N ps loose own N' ns ws ss:List PySem.Str} {x y name qual z:PySem.Str} {M:PySem.Model} {A:PySem.Around} {E Q:PySem.Value->PySem.Shared->Prop} {es ifs yh:List PySem.Expr} {pos' apos cpos:PySem.Pos} {body:List PySem.Stmt} {kw:List (PySem.Str×PySem.Value)} {mg:PySem.Str->Option PySem.Value} {fd:PySem.FuncData} {outer:List PySem.Env} {sc scope:PySem.Scope} {T:String} {vs:Array PySem.Value} {env:PySem.Env} {XP:(PySem.Str->Option PySem.Value)->PySem.Heap->Prop} {idx:List Nat} {cl:List (PySem.Str×PySem.Addr)} {R:PySem.Result->PySem.Shared->Prop} {G:Array PySem.GenState->Array PySem.GenState->Prop} {dct:Option PySem.Addr} {tp:Bool}
theorem hdn {p:Prop} (h:∀ G:Prop,(p->G)->G):p:=h p id
namespace L2
open PySem PySem.Spec PyProof.Rows
abbrev Key:=Sum Int Str
def A7:Key->Value->Bool
 | .inl k,v=>Value.isInt k v
 | .inr x,v=>Value.isStrOf x v
def Ci (w:World):Key->Int
 | .inl k=>hashInt k
 | .inr x=>hashStr w x
theorem bP:∀ {k:Key} {v:Value},A7 k v=true->(∃ i t,k=Sum.inl i/\v=Value.int i t)\/(∃ x t,k=Sum.inr x/\v=Value.str x t)
 | .inl i,v,h=>by
  obtain ⟨t,e⟩:=Value.isInt_shape (k:=i) (v:=v) h
  exact .inl ⟨i,t,rfl,e⟩
 | .inr x,v,h=>by
  obtain ⟨t,e⟩:=Value.isStrOf_shape (x:=x) (v:=v) h
  exact .inr ⟨x,t,rfl,e⟩
theorem u9 (i:Int) (t:Tok):A7 (.inl i) (.int i t)=true:=by simp [A7,Value.isInt]
theorem uC (x:Str) (t:Tok):A7 (.inr x) (.str x t)=true:=by simp [A7,Value.isStrOf]
theorem Mp (a b:Int):decide ((Sum.inl a:Key)=Sum.inl b)=(a==b):=by
 by_cases e:a=b
 ·subst e;simp
 ·have h:¬(Sum.inl a:Key)=Sum.inl b:=fun q=>e (Sum.inl.inj q)
  rw [Qw h]
  exact (beq_eq_false_iff_ne.mpr e).symm
theorem Mq (a b:Str):decide ((Sum.inr a:Key)=Sum.inr b)=decide (a=b):=by
 by_cases e:a=b
 ·subst e;simp
 ·have h:¬(Sum.inr a:Key)=Sum.inr b:=fun q=>e (Sum.inr.inj q)
  rw [Qw h,Qw e]
theorem Ms (a:Int) (b:Str):decide ((Sum.inl a:Key)=Sum.inr b)=false:=Qw (fun q=>nomatch q)
theorem Mt (a:Str) (b:Int):decide ((Sum.inr a:Key)=Sum.inl b)=false:=Qw (fun q=>nomatch q)
def fj (prog:Program) (w:World):PySem.KeyKind prog w Key where
 is:=A7
 hash:=Ci w
 inj:=fun v a b ha hb=>by
  rcases bP ha with ⟨i,t,rfl,rfl⟩ | ⟨x,t,rfl,rfl⟩
  ·rcases bP hb with ⟨j,u,rfl,e⟩ | ⟨y,u,rfl,e⟩
   ·injection e with e1 _;rw [e1]
   ·exact nomatch e
  ·rcases bP hb with ⟨j,u,rfl,e⟩ | ⟨y,u,rfl,e⟩
   ·exact nomatch e
   ·injection e with e1 _;rw [e1]
 byValue:=fun k v h=>by
  rcases bP h with ⟨i,t,rfl,rfl⟩ | ⟨x,t,rfl,rfl⟩<;>rfl
 pyHash:=fun hv h=>by
  rcases bP hv with ⟨i,t,rfl,rfl⟩ | ⟨x,t,rfl,rfl⟩
  ·exact wpAny_pyHash_int h
  ·exact wpAny_pyHash_str h
 eqBool:=fun hu hv h=>by
  rcases bP hu with ⟨i,t,rfl,rfl⟩ | ⟨x,t,rfl,rfl⟩
  ·rcases bP hv with ⟨j,u,rfl,rfl⟩ | ⟨y,u,rfl,rfl⟩
   ·rw [Mp] at h;exact wpAny_eqBool_int h
   ·rw [Ms] at h;exact SeqAt.EqAt.int_str i t y u _ _ _ _ h
  ·rcases bP hv with ⟨j,u,rfl,rfl⟩ | ⟨y,u,rfl,rfl⟩
   ·rw [Mt] at h;exact SeqAt.EqAt.str_int x t j u _ _ _ _ h
   ·rw [Mq] at h;exact wpAny_eqBool_str h
 «strs»:=fun k x t v h=>by
  rcases bP h with ⟨i,u,rfl,e⟩ | ⟨y,u,rfl,e⟩
  ·exact nomatch e
  ·injection e with e1 _
   subst e1
   cases v<;>rfl
theorem pF (prog:Program) (w:World) (i:Int) (t:Tok):(fj prog w).is (.inl i) (.int i t)=true:=u9 i t
theorem gH (prog:Program) (w:World) (x:Str) (t:Tok):(fj prog w).is (.inr x) (.str x t)=true:=uC x t
inductive V where
 | af | bl (b:Bool) | int (i:Int) | str (x:Str) | kr (b:Array UInt8) | Fl (b:UInt64) | ref (a:Addr) | ty (n:String)
 deriving DecidableEq
def RelV:V->Value->Prop
 | .af,u=>u=Value.none
 | .bl b,u=>u=Value.bool b
 | .int i,u=>∃ t,u=Value.int i t
 | .str x,u=>∃ t,u=Value.str x t
 | .kr b,u=>∃ t,u=Value.bytes b t
 | .Fl b,u=>∃ t,u=Value.float b t
 | .ref a,u=>u=Value.ref a
 | .ty n,u=>u=Value.type n
abbrev au:List V->List Value->Prop:=Paired RelV
theorem au.length {xs:List V} {us:List Value} (r:au xs us):xs.length=us.length:=Paired.length r
theorem au.get:∀ {xs:List V} {us:List Value} {i:Nat} {x:V},au xs us->xs[i]? =some x->∃ u,us[i]? =some u/\RelV x u
 | _,_,_,_,.nil,e=>by simp at e
 | _,_,0,_,.cons r _,e=>by simp at e;subst e;exact ⟨_,rfl,r⟩
 | _,_,i+1,x,.cons _ t,e=>by
  obtain ⟨u,h1,h2⟩:=au.get (i:=i) (x:=x) t (by simpa using e)
  exact ⟨u,by simpa using h1,h2⟩
theorem au.set {x:V} {u:Value} (r:RelV x u):∀ {xs:List V} {us:List Value} (i:Nat),au xs us->au (xs.set i x) (us.set i u)
 | _,_,_,.nil=>.nil
 | _,_,0,.cons _ t=>.cons r t
 | _,_,i+1,.cons q t=>.cons q (au.set r i t)
theorem au.append:∀ {xs ys:List V} {us ws:List Value},au xs us->au ys ws->au (xs++ys) (us++ws)
 | _,_,_,_,.nil,s=>s
 | _,_,_,_,.cons r t,s=>.cons r (au.append t s)
theorem au.take:∀ {xs:List V} {us:List Value} (n:Nat),au xs us->au (xs.take n) (us.take n)
 | _,_,0,_=>.nil
 | _,_,_+1,.nil=>.nil
 | _,_,n+1,.cons r t=>.cons r (au.take n t)
theorem au.drop:∀ {xs:List V} {us:List Value} (n:Nat),au xs us->au (xs.drop n) (us.drop n)
 | _,_,0,r=>r
 | _,_,_+1,.nil=>.nil
 | _,_,n+1,.cons _ t=>au.drop n t
def mi:Option V->Option Value->Prop
 | some v,some u=>RelV v u
 | none,none=>True
 | _,_=>False
def KV {κ:Type}:List (κ×V)->List (κ×Value)->Prop:=Paired fun (p:κ×V) (q:κ×Value)=>p.1=q.1/\RelV p.2 q.2
def kV:Key->V
 | .inl i=>.int i
 | .inr x=>.str x
inductive HO where
  | lst (xs:List V)
  | tup (xs:List V)
  | dK (kvs:List (Key×V)) | dT (kvs:List (List Key×V))
  | set (S:Int->Bool) (n:Nat)
  | ins (C dx:Addr) (fs:List (Str×V))
  | own (x:Addr)
  | xd (fs:List (Str×V))
  | met (f x:Addr)
  | DH (lo hi:Int)
  | h_ (o:Obj) (u:HO)
  | yi (ps:Array Value)
  | ext (φ:Heap->Prop)
abbrev Hp:=Addr->Option HO
end L2
variable {H H' H0:L2.Hp} {o:L2.HO} {xs:List (List L2.Key×PySem.Addr×PySem.Value)}
namespace L2
open PySem PySem.Spec PyProof.Rows
def upd (H:Hp) (a:Addr) (o:HO):Hp:=fun b=>if b=a then some o else H b
theorem aA:upd H a o a=some o:=by unfold upd;rw [if_pos rfl]
theorem aK (h:b≠a):upd H a o b=H b:=by unfold upd;rw [if_neg h]
theorem nU {u:HO}:upd (upd H a o) a u=upd H a u:=by
 funext b;unfold upd;split<;>rfl
theorem aQ (h:H a=some o) (h':H b=none):a≠b:=by
 intro e;subst e;rw [h] at h';cases h'
def yj (h:Heap) (a:Addr):Prop:=∀ o,h.get? a=some o->o.dict=none
theorem yj.new {ob:Obj} (h0:ob.isFreed=false) (hd:ob.dict=none):yj (h.push ob) h.objs.size:=fun o q=>by rw [Qd _ h0] at q;cases q;exact hd
def fu (H:Hp) (b:Addr) (ys:List V):Prop:=H b=some (.tup ys)\/∃ o,H b=some (.h_ o (.tup ys))
theorem fu.upd {H:Hp} {b a:Addr} {ys:List V} {o:HO} (r:fu H b ys) (ne:∀ u,H b=some u->b≠a):fu (L2.upd H a o) b ys:=by
 rcases r with r | ⟨ob,r⟩
 ·exact .inl (by rw [aK (ne _ r)];exact r)
 ·exact .inr ⟨ob,by rw [aK (ne _ r)];exact r⟩
section
variable (P:Program) (w:World)
def bx (H:Hp) (h:Heap) (a:Addr):HO->Prop
 | .lst xs=>xs.length<=sizeLine/\∃ (its:List Value) (n:Nat),au xs its/\h.get? a=some {cls:=.type "list",data:=.seq its.toArray n}
 | .tup xs=>(xs.length<=sizeLine/\yj h a)/\∃ its:List Value,au xs its/\IsTup h a its.toArray
 | .dK kvs=>kvs.length<=sizeLine/\(a==sysModules)=false/\∃ vs,KV kvs vs/\h.DictOf (fj P w) a vs
 | .dT kvs=>kvs.length<=sizeLine/\(a==sysModules)=false/\∃ xs:List (List Key×Addr×Value),
   Paired (fun (p:List Key×V) (q:List Key×Addr×Value)=>p.1=q.1/\fu H q.2.1 (p.1.map kV)/\RelV p.2 q.2.2) kvs xs/\
   ∃ o es ep,h.get? a=some o/\o.ExactDict/\o.data=.dict es ep/\es.toList=xs.map (entryOfKey (tupleKind (fj P w)))/\(xs.map (·.1)).Nodup
 | .set S n=>h.SetOf (intKind P w) a S n
 | .ins C dx fs=>H dx=some (.own a)/\fs.length<=1000/\dx≠a/\h.get? a=some (PySem.W.instObj C dx)/\
   ∃ mA,h.Ns1 dx mA/\(∀ f,mi (fs.lookup f) (mA f))/\PySem.Within mA (fs.map (·.1))
 | .own _=>∃ o,h.get? a=some o
 | .xd fs=>∃ mA,h.Ns1 a mA/\∀ f,mi (fs.lookup f) (mA f)
 | .DH lo hi=>∃ t u v,h.get? a=some {cls:=.type "range",data:=.fields #[.int lo t,.int hi u,.int 1 v]}
 | .h_ o u=>h.get? a=some o/\bx H h a u
 | .yi ps=>h.get? a=some {cls:=.none,data:=.fields ps}
 | .met f x=>h.get? a=some (PySem.W.methodObj (.ref f) (.ref x))
 | .ext φ=>φ h/\(∃ o,h.get? a=some o)/\∀ h1 h2:Heap,φ h1->(∀ o,h1.get? a=some o->h2.get? a=some o)->φ h2
def bw (H:Hp) (h:Heap):Prop:=∀ a o,H a=some o->bx P w H h a o
end
theorem bx.lt (x:bx P w H h a o):a < h.objs.size:=by
 cases o with
 | lst xs=>obtain ⟨_,_,_,_,e⟩:=x;exact Qz e
 | tup xs=>obtain ⟨_,_,_,p⟩:=x;exact p.lt
 | dK kvs=>obtain ⟨_,_,_,_,o,_,_,e,_⟩:=x;exact Qz e
 | dT kvs=>obtain ⟨_,_,_,_,o,_,_,e,_⟩:=x;exact Qz e
 | set S n=>obtain ⟨o,_,_,_,e,_⟩:=x;exact Qz e
 | ins C dx fs=>obtain ⟨_,_,_,e,_⟩:=x;exact Qz e
 | own y=>obtain ⟨_,e⟩:=x;exact Qz e
 | xd fs=>obtain ⟨_,⟨_,_,_,e,_⟩,_⟩:=x;exact Qz e
 | DH lo hi=>obtain ⟨_,_,_,e⟩:=x;exact Qz e
 | h_ ob u=>obtain ⟨e,_⟩:=x;exact Qz e
 | yi ps=>exact Qz (show h.get? a=some _ from x)
 | met f y=>exact Qz (show h.get? a=some _ from x)
 | ext φ=>obtain ⟨_,⟨_,e⟩,_⟩:=x;exact Qz e
theorem Paired.Fo {α β:Type} {F G:α->β->Prop}:∀ {l₁:List α} {l₂:List β},Paired F l₁ l₂->(∀ a b,F a b->G a b)->Paired G l₁ l₂
 | _,_,.nil,_=>.nil
 | _,_,.cons r t,f=>.cons (f _ _ r) (Paired.Fo t f)
theorem bx.stay (x:bx P w H h a o) (k:∀ b u,(b=a\/H b=some (.own a))->h.get? b=some u->h'.get? b=some u)
  (ho:∀ b,H b=some (.own a)->H' b=some (.own a)) (ht:∀ b xs,fu H b xs->fu H' b xs):bx P w H' h' a o:=by
 induction o with
 | lst xs=>obtain ⟨z,its,n,r,e⟩:=x;exact ⟨z,its,n,r,k _ _ (.inl rfl) e⟩
 | tup xs=>obtain ⟨⟨z,nd⟩,its,r,ob,e,c⟩:=x;exact ⟨⟨z,fun o q=>by rw [k _ _ (.inl rfl) e] at q;cases q;exact nd _ e⟩,its,r,ob,k _ _ (.inl rfl) e,c⟩
 | dK kvs=>obtain ⟨z,y,vs,r,ob,es,ep,e,c⟩:=x;exact ⟨z,y,vs,r,ob,es,ep,k _ _ (.inl rfl) e,c⟩
 | dT kvs=>
  obtain ⟨z,y,xs,r,ob,es,ep,e,c⟩:=x
  exact ⟨z,y,xs,Paired.Fo r fun p q z=>⟨z.1,ht _ _ z.2.1,z.2.2⟩,ob,es,ep,k _ _ (.inl rfl) e,c⟩
 | set S n=>obtain ⟨ob,es,ep,t,e,c⟩:=x;exact ⟨ob,es,ep,t,k _ _ (.inl rfl) e,c⟩
 | ins C dx fs=>
  obtain ⟨d,z,ne,e,mA,⟨od,es,ep,e2,c⟩,r⟩:=x
  exact ⟨ho _ d,z,ne,k _ _ (.inl rfl) e,mA,⟨od,es,ep,k _ _ (.inr d) e2,c⟩,r⟩
 | own y=>obtain ⟨ob,e⟩:=x;exact ⟨ob,k _ _ (.inl rfl) e⟩
 | xd fs=>obtain ⟨mA,⟨od,es,ep,e,c⟩,r⟩:=x;exact ⟨mA,⟨od,es,ep,k _ _ (.inl rfl) e,c⟩,r⟩
 | DH lo hi=>obtain ⟨t,u,v,e⟩:=x;exact ⟨t,u,v,k _ _ (.inl rfl) e⟩
 | h_ ob u ih=>obtain ⟨e,q⟩:=x;exact ⟨k _ _ (.inl rfl) e,ih q⟩
 | yi ps=>
  have e:h.get? a=some {cls:=.none,data:=.fields ps}:=x
  show h'.get? a=some {cls:=.none,data:=.fields ps}
  exact k a _ (.inl rfl) e
 | met f y=>
  have e:h.get? a=some (PySem.W.methodObj (.ref f) (.ref y)):=x
  show h'.get? a=some (PySem.W.methodObj (.ref f) (.ref y))
  exact k a _ (.inl rfl) e
 | ext φ=>obtain ⟨p,⟨o,e⟩,st⟩:=x;exact ⟨st _ _ p fun o q=>k _ _ (.inl rfl) q,⟨o,k _ _ (.inl rfl) e⟩,st⟩
theorem bw.lt (x:bw P w H h) (e:H a=some o):a < h.objs.size:=(x a o e).lt
theorem bw.fresh (x:bw P w H h) (e:h.objs.size<=a):H a=none:=by
 cases q:H a with
 | none=>rfl
 | some u=>exact absurd (Nat.lt_of_lt_of_le (x.lt q) e) (Nat.lt_irrefl _)
theorem bw.kept (x:bw P w H h) (k:∀ b u,h.get? b=some u->h'.get? b=some u):bw P w H h':=fun a o e=>
 (x a o e).stay (fun b u _ q=>k b u q) (fun _ q=>q) fun _ _ q=>q
theorem bw.laid (x:bw P w H h) (k:∀ b u,h.get? b=some u->h'.get? b=some u) (hp:h.objs.size<=a) (new:bx P w (upd H a o) h' a o):bw P w (upd H a o) h':=fun b u e=>by
 have hn:=x.fresh hp
 by_cases hb:b=a
 ·subst hb;rw [aA] at e;cases e;exact new
 ·rw [aK hb] at e
  exact (x b u e).stay (fun c v _ q=>k c v q) (fun c q=>by rw [aK (aQ q hn)];exact q) fun c xs q=>q.upd fun u hu=>aQ hu hn
def Rd (H:Hp) (a:Addr) (u:HO):Prop:=H a=some u\/∃ o,H a=some (.h_ o u)
theorem Rd.ok {u:HO} (r:Rd H a u) (x:bw P w H h):bx P w H h a u:=by
 rcases r with r | ⟨o,r⟩
 ·exact x a u r
 ·obtain ⟨_,q⟩:=x a _ r
  exact q
def A8:Option HO->Prop
 | some (.lst _)=>True
 | some (.dK _)=>True
 | some (.dT _)=>True
 | some (.set _ _)=>True
 | some (.ins _ _ _)=>True
 | some (.ext _)=>True
 | _=>False
section
variable {x e:Addr} {o':HO}
theorem bw.write (ok:bw P w H h) (mu:A8 (H x)) (he:e=x\/H e=some (.own x)) (k:∀ b u,b≠e->h.get? b=some u->h'.get? b=some u) (wx:∃ u,h'.get? e=some u)
  (new:bx P w (upd H x o') h' x o'):bw P w (upd H x o') h':=fun b u q=>by
 have Il:∀ c y,H c=some (.own y)->c≠x:=fun c y r z=>by subst z;rw [r] at mu;exact mu
 have Ve:∀ c xs,H c=some (.tup xs)->c≠x:=fun c xs r z=>by subst z;rw [r] at mu;exact mu
 by_cases hb:b=x
 ·subst hb;rw [aA] at q;cases q;exact new
 ·rw [aK hb] at q
  by_cases zu:b=e
  ·have q':H b=some (.own x):=by
    rcases he with z | z
    ·exact absurd (zu.trans z) hb
    ·rw [zu];exact z
   rw [q] at q';cases q'
   obtain ⟨v,hv⟩:=wx
   exact ⟨v,by rw [zu];exact hv⟩
  ·refine (ok b u q).stay (fun c v hc r=>k c v ?_ r) (fun c r=>by rw [aK (Il c b r)];exact r) fun c xs r=>r.upd fun _ _ z=>by
    subst z
    rcases r with r | ⟨_,r⟩<;>(rw [r] at mu;exact mu)
   rcases hc with rfl | hc
   ·exact zu
   ·rintro rfl
    rcases he with z | z
    ·exact Il c b hc z
    ·rw [hc] at z;cases z;exact hb rfl
end
structure Un (fs ex:List Addr) (H H':Hp) (h h':Heap):Prop where
 keep:∀ b o,h.get? b=some o->H b=none->b ∉ fs->b ∉ ex->h'.get? b=some o
 slot:∀ b o,h.get? b=some o->H b=none->b∈fs->b ∉ ex->∃ sl,h'.get? b=some {o with slots:=sl}
 free:∀ b o,h.get? b=some o->H b=none->b ∉ ex->H' b=none
 there:∀ b o,h.get? b=some o->b ∉ ex->∃ o',h'.get? b=some o'
 tups:∀ b xs,H b=some (.tup xs)->H' b=some (.tup xs)
 jv:∀ b o u,H b=some (.h_ o u)->H' b=some (.h_ o u)
 ku:∀ b ps,H b=some (.yi ps)->∃ more,H' b=some (.yi (ps++more))
section
variable {fs Mu ex Vf:List Addr} {H1 H2:Hp} {h1 h2:Heap} {x e:Addr}
theorem Un.any (u:Un fs ex H H1 h h1) {ob:Obj} (q:h.get? b=some ob) (n:H b=none) (hx:b ∉ ex):∃ sl,h1.get? b=some {ob with slots:=sl}:=by
 by_cases hb:b∈fs
 ·exact u.slot b ob q n hb hx
 ·exact ⟨ob.slots,u.keep b ob q n hb hx⟩
theorem Un.trans (a:Un fs ex H H1 h h1) (b:Un fs ex H1 H2 h1 h2):Un fs ex H H2 h h2 where
 keep:=fun c ob q n hc hx=>b.keep c ob (a.keep c ob q n hc hx) (a.free c ob q n hx) hc hx
 slot:=fun c ob q n hc hx=>by
  obtain ⟨sl,e1⟩:=a.slot c ob q n hc hx
  obtain ⟨zw,e2⟩:=b.slot c _ e1 (a.free c ob q n hx) hc hx
  exact ⟨zw,e2⟩
 free:=fun c ob q n hx=>by
  obtain ⟨o',e1⟩:=a.there c ob q hx
  exact b.free c o' e1 (a.free c ob q n hx) hx
 there:=fun c ob q hx=>by
  obtain ⟨o',e1⟩:=a.there c ob q hx
  exact b.there c o' e1 hx
 tups:=fun c xs q=>b.tups c xs (a.tups c xs q)
 jv:=fun c ob xs q=>b.jv c ob xs (a.jv c ob xs q)
 ku:=fun c ps q=>by
  obtain ⟨m1,e1⟩:=a.ku c ps q
  obtain ⟨m2,e2⟩:=b.ku c _ e1
  exact ⟨m1++m2,by rw [e2,Array.append_assoc]⟩
theorem Un.kept (k:∀ b u,h.get? b=some u->h'.get? b=some u):Un fs ex H H h h':=
 ⟨fun b ob q _ _ _=>k b ob q,fun b ob q _ _ _=>⟨ob.slots,k b ob q⟩,fun _ _ _ n _=>n,fun b ob q _=>⟨ob,k b ob q⟩,fun _ _ q=>q,fun _ _ _ q=>q,fun _ ps q=>⟨#[],by rw [q];simp⟩⟩
theorem Un.refl:Un fs ex H H h h:=Un.kept fun _ _ q=>q
theorem Un.laid (k:∀ b u,h.get? b=some u->h'.get? b=some u) (hp:h.objs.size<=a) (hn:H a=none):Un fs ex H (upd H a o) h h' where
 keep:=fun b u q _ _ _=>k b u q
 slot:=fun b u q _ _ _=>⟨u.slots,k b u q⟩
 free:=fun b u q n _=>by rw [aK (Nat.ne_of_lt (Nat.lt_of_lt_of_le (Qz q) hp))];exact n
 there:=fun b u q _=>⟨u,k b u q⟩
 tups:=fun b xs q=>by rw [aK (aQ q hn)];exact q
 jv:=fun b u xs q=>by rw [aK (aQ q hn)];exact q
 ku:=fun b ps q=>⟨#[],by rw [aK (aQ q hn),q];simp⟩
theorem Un.write (mu:A8 (H x)) (he:e=x\/H e=some (.own x)) (k:∀ b u,b≠e->h.get? b=some u->h'.get? b=some u) (wx:∃ u,h'.get? e=some u):Un fs ex H (upd H x o) h h':=by
 have hx:∀ b,H b=none->b≠x:=fun b n z=>by subst z;rw [n] at mu;exact mu
 have hb:∀ b,H b=none->b≠e:=fun b n z=>by
  subst z
  rcases he with r | r
  ·exact hx b n r
  ·rw [n] at r;cases r
 have hm:∀ b u,H b=some u->¬A8 (some u)->b≠x:=fun b u q nm z=>by subst z;rw [q] at mu;exact nm mu
 refine ⟨fun b u q n _ _=>k b u (hb b n) q,fun b u q n _ _=>⟨u.slots,k b u (hb b n) q⟩,fun b u q n _=>by rw [aK (hx b n)];exact n,fun b u q _=>?_,
  fun b xs q=>by rw [aK (hm b _ q fun z=>z)];exact q,fun b u xs q=>by rw [aK (hm b _ q fun z=>z)];exact q,fun b ps q=>⟨#[],by rw [aK (hm b _ q fun z=>z),q];simp⟩⟩
 by_cases zu:b=e
 ·subst zu;exact wx
 ·exact ⟨u,k b u zu q⟩
end
def A9 (h:Heap) (H:Hp):List Addr:=(List.range h.objs.size).filter fun a=>(H a).isSome
def wz (h:Heap) (H:Hp):Heap:=PySem.W.hideAll h (A9 h H)
theorem u3 (h:Heap) (H:Hp):(wz h H).objs.size=h.objs.size:=PySem.W.hideAll_size _ _
theorem xG {o:Obj} (e:h.get? b=some o) (n:H b=none):(wz h H).get? b=some o:=
 PySem.W.hideAll_get _ e fun hm=>by
  have q:(H b).isSome=true:=(List.mem_filter.mp hm).2
  rw [n] at q;simp at q
theorem zD {o:Obj} (e:(wz h H).get? b=some o):h.get? b=some o/\H b=none:=by
 have e':h.get? b=some o:=PySem.W.of_hideAll (A9 h H) e
 refine ⟨e',?_⟩
 cases q:H b with
 | none=>rfl
 | some x=>
  have hm:b∈A9 h H:=List.mem_filter.mpr ⟨List.mem_range.mpr (Qz e'),by simp [q]⟩
  have z:(wz h H).get? b=none:=PySem.W.hideAll_none (A9 h H) hm
  rw [z] at e;cases e
structure Mod (K:QZ) (mg:Str->Option Value) (base:Heap):Prop where
 A_:K.In base
 glob:base.Ns mainGlobals mg
 blt:∃ mb,base.Ns builtinsNs mb/\∀ x:Str,x≠"__name__"->mb x=bootBuiltins x
 nolimit:base.NoLimit
structure Cx where
 prog:Program
 w:World
 K:QZ
 mg:Str->Option Value
 base:Heap
 A:Around
 N:List Str
 s₀:Shared
 H₀:Hp
 env:Env
 outer:List Env
 stack:List Env
 ex:List Addr
 fn:Str->Bool
 calm:Bool
 pn:List (Addr×Obj)
 xe:Value->Shared->Prop
end L2
variable {X:L2.Cx}
namespace L2
open PySem PySem.Spec PyProof.Rows
def ef (l:List Env):List Addr:=l.filterMap (·.frame)
abbrev Cx.fs (X:Cx):List Addr:=ef X.outer
def Ba (sc:Scope) (x:Str):Prop:=sc.names.lookup x=some .local\/sc.names.lookup x=some .cell\/sc.names.lookup x=some .free
def Loc (sc:Scope) (x:Str):Prop:=sc.names.lookup x=some .local\/sc.names.lookup x=some .cell
def Look (env:Env) (h:Heap) (m:Str->Option Value) (x:Str) (u:Value):Prop:=
 (env.kindOf x=some .local/\m x=some u)\/((env.kindOf x=some .cell\/env.kindOf x=some .free)/\∃ c,env.cells.lookup x=some c/\h.IsCell c (some u))
structure Cx.Ok (X:Cx):Prop where
 mod:Mod X.K X.mg X.base
 kind:X.env.scope.kind=.function
 glob:X.env.globals=mainGlobals
 blt:X.env.builtins=builtinsNs
 above:X.s₀.heap.objs.size<=X.env.locals
 inj:∀ x y c,X.env.cells.lookup x=some c->X.env.cells.lookup y=some c->x=y
 has:∀ x,(X.env.kindOf x=some .cell\/X.env.kindOf x=some .free)->∃ c,X.env.cells.lookup x=some c
 zx:∀ x c,X.fn x=true->X.env.cells.lookup x=some c->X.s₀.heap.objs.size<=c
 hd:X.calm=true->X.A.handled=none
 frames:X.A.frames=some X.stack
 Bb:X.stack=X.outer\/(X.stack=X.env::X.outer/\X.env.frame=some X.env.locals)
 DI:∀ b∈X.ex,b≠X.env.locals/\∀ x c,X.env.cells.lookup x=some c->c≠b
 bs:∀ b o,X.base.get? b=some o->X.s₀.heap.get? b=some o/\X.H₀ b=none
 rq:X.base.objs.size<=X.s₀.heap.objs.size
 zy:∀ b o,X.base.get? b=some o->b ∉ X.ex
 Bc:∀ b∈X.ex,b ∉ X.fs
 mj:X.s₀.heap.FunFrames X.base X.outer
 w_:∀ b∈X.fs,X.H₀ b=none
structure Inv (X:Cx) (pins:List (Addr×Obj)) (σ:List (Option V)) (H:Hp) (s:Shared):Prop where
 ok:X.Ok
 os:s.os=X.s₀.os
 bare:AllBare s.gens
 base:Un X.fs X.ex X.H₀ H X.s₀.heap s.heap
 loc:∃ m,s.heap.Ns X.env.locals m/\∀ (i:Nat) (x:Str) (v:V),X.N[i]? =some x->σ[i]? =some (some v)->Ba X.env.scope x->∃ u,RelV v u/\Look X.env s.heap m x u
 cell:∀ x c,X.env.cells.lookup x=some c->∃ v,s.heap.IsCell c v
 free:H X.env.locals=none
 mq:∀ x c,X.env.cells.lookup x=some c->H c=none
 pin:∀ p∈X.pn++pins,s.heap.get? p.1=some p.2/\H p.1=none/\p.1≠X.env.locals/\p.1 ∉ X.fs/\∀ v,p.2.data≠.cell v
 hok:bw X.prog X.w H s.heap
 len:σ.length=X.N.length
section
variable {σ:List (Option V)}
theorem Cx.Ok.Mv (ok:X.Ok) {o:Obj} (e:X.base.get? b=some o):b ∉ X.fs:=fun hb=>by
 have:=(ok.mj.mem hb).1
 rw [e] at this;cases this
theorem Inv.bs (I:Inv X pins σ H s):∀ b o,X.base.get? b=some o->s.heap.get? b=some o/\H b=none:=fun b o e=>
 ⟨I.base.keep b o (I.ok.bs b o e).1 (I.ok.bs b o e).2 (I.ok.Mv e) (I.ok.zy b o e),I.base.free b o (I.ok.bs b o e).1 (I.ok.bs b o e).2 (I.ok.zy b o e)⟩
theorem Inv.bk (I:Inv X pins σ H s):∀ b o,X.base.get? b=some o->s.heap.get? b=some o:=fun b o e=>(I.bs b o e).1
theorem Inv.mod (I:Inv X pins σ H s):Mod X.K X.mg X.base:=I.ok.mod
theorem Inv.fz (I:Inv X pins σ H s):X.K.In s.heap:=I.ok.mod.A_.keeps I.bk
theorem Inv.lt (I:Inv X pins σ H s):X.env.locals < s.heap.objs.size:=let ⟨_,hn,_⟩:=I.loc;hn.lt
theorem Inv.sz (I:Inv X pins σ H s):X.s₀.heap.objs.size<=s.heap.objs.size:=Nat.le_trans I.ok.above (Nat.le_of_lt I.lt)
theorem Inv.Mw (I:Inv X pins σ H s) (h:s.heap.objs.size<=a):a ∉ X.fs:=fun hb=>by
 obtain ⟨_,o,ho,_⟩:=I.ok.mj.mem hb
 exact absurd (Nat.lt_of_lt_of_le (Qz ho) (Nat.le_trans I.sz h)) (Nat.lt_irrefl _)
theorem Inv.zz (I:Inv X pins σ H s):∀ x c,X.env.cells.lookup x=some c->c≠X.env.locals:=fun x c e z=>by
 obtain ⟨v,o,ho,hd⟩:=I.cell x c e
 obtain ⟨m,⟨o',es,ep,r_,Mx,_⟩,_⟩:=I.loc
 rw [z,r_] at ho;cases ho;rw [Mx] at hd;cases hd
theorem Inv.mj (I:Inv X pins σ H s):s.heap.FunFrames X.base X.outer:=by
 have all:∀ (l:List Env),(∀ b∈ef l,b∈X.fs)->X.s₀.heap.FunFrames X.base l->s.heap.FunFrames X.base l:=by
  intro l
  induction l with
  | nil=>intro _ _;trivial
  | cons env r ih=>
   intro hs hl
   obtain ⟨hk,⟨L,o,hf,hn,ho,hd⟩,hr⟩:=hl
   have hL:L∈X.fs:=hs L (by unfold ef;rw [List.filterMap_cons,hf];exact List.mem_cons_self)
   obtain ⟨sl,e⟩:=I.base.slot L o ho (I.ok.w_ L hL) hL fun z=>I.ok.Bc L z hL
   exact ⟨hk,⟨L,_,hf,hn,e,hd⟩,ih (fun b hb=>hs b (by unfold ef;rw [List.filterMap_cons,hf];exact Qh _ hb)) hr⟩
 exact all X.outer (fun _ hb=>hb) I.ok.mj
theorem Inv.stack (I:Inv X pins σ H s):s.heap.FunFrames X.base X.stack:=by
 rcases I.ok.Bb with e | ⟨e,hf⟩
 ·rw [e];exact I.mj
 ·rw [e]
  obtain ⟨m,hn,_⟩:=I.loc
  refine .cons (by rw [I.ok.kind];decide) hf hn ?_ I.mj
  exact Heap.get?_none_of_le (Nat.le_trans I.ok.rq I.ok.above)
theorem Inv.Cj (I:Inv X pins σ H s):∀ b∈ef X.stack,b∈X.env.locals::X.fs:=fun b hb=>by
 rcases I.ok.Bb with e | ⟨e,hf⟩
 ·rw [e] at hb;exact Qh _ hb
 ·rw [e] at hb
  unfold ef at hb
  rw [List.filterMap_cons,hf] at hb
  exact hb
theorem Inv.Ck (I:Inv X pins σ H s):∀ b∈ef X.stack,H b=none:=fun b hb=>by
 rcases Qp.mp (I.Cj b hb) with e | hb
 ·rw [e];exact I.free
 ·obtain ⟨_,o,ho,_⟩:=I.ok.mj.mem hb
  exact I.base.free b o ho (I.ok.w_ b hb) fun z=>I.ok.Bc b z hb
theorem Inv.step {g':Array GenState} {d':Drawn} (I:Inv X pins σ H s)
  (u_:∀ b∈ch,(b∈X.ex\/X.s₀.heap.objs.size<=b)/\b≠X.env.locals/\(∀ x c,X.env.cells.lookup x=some c->c≠b)/\∀ p∈X.pn++pins,p.1≠b)
  (keep:∀ b o,b≠X.env.locals->b ∉ X.fs->b ∉ ch->s.heap.get? b=some o->H b=none->h'.get? b=some o)
  (slot:∀ b o,b≠X.env.locals->b∈X.fs->b ∉ ch->s.heap.get? b=some o->H b=none->∃ sl,h'.get? b=some {o with slots:=sl}) (free:∀ b o,b ∉ ch->s.heap.get? b=some o->H b=none->H' b=none)
  (there:∀ b o,b ∉ ch->s.heap.get? b=some o->∃ o',h'.get? b=some o')
  (tups:∀ b xs,H b=some (.tup xs)->H' b=some (.tup xs)) (jv:∀ b o u,H b=some (.h_ o u)->H' b=some (.h_ o u)) (ku:∀ b ps,H b=some (.yi ps)->∃ more,H' b=some (.yi (ps++more)))
  (ns:∀ m,s.heap.Ns X.env.locals m->h'.Ns X.env.locals m) (hok:bw X.prog X.w H' h') (hg:AllBare g'):
  Inv X pins σ H' {s with heap:=h',gens:=g',drawn:=d',toks:=t'}:=by
 have Im:∀ b o,X.s₀.heap.get? b=some o->b≠X.env.locals:=fun b o e=>Nat.ne_of_lt (Nat.lt_of_lt_of_le (Qz e) I.ok.above)
 have DJ:∀ b o,X.s₀.heap.get? b=some o->b ∉ X.ex->b ∉ ch:=fun b o e hx hb=>by
  rcases (u_ b hb).1 with z | z
  ·exact hx z
  ·exact absurd (Nat.lt_of_lt_of_le (Qz e) z) (Nat.lt_irrefl _)
 have cellK:∀ x c,X.env.cells.lookup x=some c->∀ v,s.heap.IsCell c v->h'.IsCell c v:=fun x c e v ⟨o,ho,hd⟩=>by
  have se:c ∉ ch:=fun z=>(u_ c z).2.2.1 x c e rfl
  by_cases hc:c∈X.fs
  ·obtain ⟨sl,q⟩:=slot c o (I.zz x c e) hc se ho (I.mq x c e)
   exact ⟨_,q,hd⟩
  ·exact ⟨o,keep c o (I.zz x c e) hc se ho (I.mq x c e),hd⟩
 refine ⟨I.ok,I.os,hg,⟨fun b o e n hb hx=>?_,fun b o e n hb hx=>?_,fun b o e n hx=>?_,fun b o e hx=>?_,fun b xs e=>tups b xs (I.base.tups b xs e),fun b o xs e=>jv b o xs (I.base.jv b o xs e),fun b ps e=>?_⟩,?_,fun x c e=>?_,?_,fun x c e=>?_,fun p hp=>?_,hok,I.len⟩
 ·exact keep b o (Im b o e) hb (DJ b o e hx) (I.base.keep b o e n hb hx) (I.base.free b o e n hx)
 ·obtain ⟨sl,e1⟩:=I.base.slot b o e n hb hx
  obtain ⟨zw,e2⟩:=slot b _ (Im b o e) hb (DJ b o e hx) e1 (I.base.free b o e n hx)
  exact ⟨zw,e2⟩
 ·obtain ⟨o',e1⟩:=I.base.there b o e hx
  exact free b o' (DJ b o e hx) e1 (I.base.free b o e n hx)
 ·obtain ⟨o',e1⟩:=I.base.there b o e hx
  exact there b o' (DJ b o e hx) e1
 ·obtain ⟨m1,e1⟩:=I.base.ku b ps e
  obtain ⟨m2,e2⟩:=ku b _ e1
  exact ⟨m1++m2,by rw [e2,Array.append_assoc]⟩
 ·obtain ⟨m,hn,hl⟩:=I.loc
  refine ⟨m,ns m hn,fun i x v e1 e2 e3=>?_⟩
  obtain ⟨u,r,l⟩:=hl i x v e1 e2 e3
  refine ⟨u,r,?_⟩
  rcases l with l | ⟨k,c,e,z⟩
  ·exact .inl l
  ·exact .inr ⟨k,c,e,cellK x c e _ z⟩
 ·obtain ⟨v,z⟩:=I.cell x c e
  exact ⟨v,cellK x c e v z⟩
 ·obtain ⟨m,⟨o,_,_,ho,_⟩,_⟩:=I.loc
  exact free _ o (fun z=>(u_ _ z).2.1 rfl) ho I.free
 ·obtain ⟨v,o,ho,hd⟩:=I.cell x c e
  exact free c o (fun z=>(u_ c z).2.2.1 x c e rfl) ho (I.mq x c e)
 ·obtain ⟨e,n,ne,nf,d⟩:=I.pin p hp
  have se:p.1 ∉ ch:=fun z=>(u_ p.1 z).2.2.2 p hp rfl
  exact ⟨keep p.1 p.2 ne nf se e n,free p.1 p.2 se e n,ne,nf,d⟩
theorem Inv.un (I:Inv X pins σ H s) (u:Un X.fs [] H H' s.heap h') (hok:bw X.prog X.w H' h'):Inv X pins σ H' {s with heap:=h',toks:=t'}:=by
 obtain ⟨m,⟨o,es,ep,ho,r⟩,_⟩:=id I.loc
 obtain ⟨sl,hL⟩:=u.any ho I.free (by simp)
 exact I.step (g':=s.gens) (d':=s.drawn) (ch:=[]) (fun _ z=>nomatch z) (fun b o _ hb _ e n=>u.keep b o e n hb (by simp)) (fun b o _ hb _ e n=>u.slot b o e n hb (by simp)) (fun b o _ e n=>u.free b o e n (by simp)) (fun b o _ e=>u.there b o e (by simp)) u.tups u.jv u.ku (fun m' hm=>by
  obtain ⟨o',Fp,Fq,r_,r'⟩:=hm
  rw [ho] at r_;cases r_
  exact ⟨_,Fp,Fq,hL,r'⟩) hok I.bare
theorem Inv.call {g':Array GenState} {t':Nat} {d':Drawn} {ch:List Addr} (I:Inv X pins σ H s) (u:Un (ef X.stack) ch H H' s.heap h') (hok:bw X.prog X.w H' h') (hg:AllBare g')
  (u_:∀ b∈ch,(b∈X.ex\/X.s₀.heap.objs.size<=b)/\b≠X.env.locals/\(∀ x c,X.env.cells.lookup x=some c->c≠b)/\∀ p∈X.pn++pins,p.1≠b):
  Inv X pins σ H' {s with heap:=h',gens:=g',drawn:=d',toks:=t'}:=by
 obtain ⟨m,⟨o,es,ep,ho,r⟩,_⟩:=id I.loc
 obtain ⟨sl,hL⟩:=u.any ho I.free fun z=>(u_ _ z).2.1 rfl
 exact I.step (ch:=ch) u_ (fun b o hL hb hc e n=>u.keep b o e n (fun z=>(Qp.mp (I.Cj b z)).elim hL hb) hc) (fun b o _ _ hc e n=>u.any e n hc) (fun b o hc e n=>u.free b o e n hc) (fun b o hc e=>u.there b o e hc) u.tups u.jv u.ku (fun m' hm=>by
  obtain ⟨o',Fp,Fq,r_,r'⟩:=hm
  rw [ho] at r_;cases r_
  exact ⟨_,Fp,Fq,hL,r'⟩) hok hg
theorem Inv.turned {it:Addr} (I:Inv X pins σ H s) (k:∀ b o,b≠it->s.heap.get? b=some o->h'.get? b=some o) (hn:H it=none) (hL:it≠X.env.locals)
  (h1:it∈X.ex\/X.s₀.heap.objs.size<=it) (h2:∀ x c,X.env.cells.lookup x=some c->c≠it) (h3:∀ p∈X.pn++pins,p.1≠it):Inv X pins σ H {s with heap:=h',toks:=t'}:=by
 have Io:∀ b u,H b=some u->b≠it:=fun b u e z=>by rw [z,hn] at e;cases e
 refine I.step (g':=s.gens) (d':=s.drawn) (ch:=[it]) (fun b hb=>?_) (fun b o _ _ hc e _=>k b o (fun z=>hc (by simp [z])) e) (fun b o _ _ hc e _=>⟨o.slots,k b o (fun z=>hc (by simp [z])) e⟩) (fun _ _ _ _ n=>n)
  (fun b o hc e=>⟨o,k b o (fun z=>hc (by simp [z])) e⟩) (fun _ _ e=>e) (fun _ _ _ e=>e) (fun b ps e=>⟨#[],by rw [e];simp⟩) (fun m hm=>?_) (fun b u e=>?_) I.bare
 ·have e:b=it:=by simpa using hb
  subst e
  exact ⟨h1,hL,h2,h3⟩
 ·obtain ⟨o,es,ep,ho,r⟩:=hm
  exact ⟨o,es,ep,k _ o (Ne.symm hL) ho,r⟩
 ·refine (I.hok b u e).stay (fun c v hc q=>k c v ?_ q) (fun _ q=>q) fun _ _ q=>q
  rcases hc with z | z
  ·rw [z];exact Io b u e
  ·exact Io c _ z
theorem Inv.tok (I:Inv X pins σ H s) (t:Nat):Inv X pins σ H {s with toks:=t}:=I.un (h':=s.heap) (t':=t) Un.refl I.hok
theorem Inv.kept {t':Nat} (I:Inv X pins σ H s) (k:∀ b u,s.heap.get? b=some u->h'.get? b=some u):Inv X pins σ H {s with heap:=h',toks:=t'}:=I.un (Un.kept k) (I.hok.kept k)
theorem Inv.laid {a:Addr} {o:HO} {t':Nat} (I:Inv X pins σ H s) (k:∀ b u,s.heap.get? b=some u->h'.get? b=some u) (hp:s.heap.objs.size<=a) (new:bx X.prog X.w (upd H a o) h' a o):
  Inv X pins σ (upd H a o) {s with heap:=h',toks:=t'}:=I.un (Un.laid k hp (I.hok.fresh hp)) (I.hok.laid k hp new)
theorem Inv.write {x e:Addr} {o:HO} {t':Nat} (I:Inv X pins σ H s) (mu:A8 (H x)) (he:e=x\/H e=some (.own x)) (k:∀ b u,b≠e->s.heap.get? b=some u->h'.get? b=some u) (wx:∃ u,h'.get? e=some u)
  (new:bx X.prog X.w (upd H x o) h' x o):Inv X pins σ (upd H x o) {s with heap:=h',toks:=t'}:=I.un (Un.write mu he k wx) (I.hok.write mu he k wx new)
theorem Inv.Ip {Iq:List (Addr×Obj)} (I:Inv X pins σ H s) (h:∀ p∈Iq,s.heap.get? p.1=some p.2/\H p.1=none/\p.1≠X.env.locals/\p.1 ∉ X.fs/\∀ v,p.2.data≠.cell v):Inv X Iq σ H s:=
 ⟨I.ok,I.os,I.bare,I.base,I.loc,I.cell,I.free,I.mq,fun p hp=>(List.mem_append.mp hp).elim (fun z=>I.pin p (List.mem_append_left _ z)) (h p),I.hok,I.len⟩
theorem qQ (hN:N.Nodup) (a:N[i]? =some x) (b:N[j]? =some x):i=j:=by
 obtain ⟨h1,e1⟩:=List.getElem?_eq_some_iff.mp a
 obtain ⟨h2,e2⟩:=List.getElem?_eq_some_iff.mp b
 exact (List.getElem_inj hN).mp (e1.trans e2.symm)
theorem gZ {v:V} {Q:Unit->Shared->Prop} (I:Inv X pins σ H s) (hN:X.N.Nodup) (hi:X.N[i]? =some x) (hx:Loc X.env.scope x) (r:RelV v u)
  (h:∀ s',Inv X pins (σ.set i (some v)) H s'->(∃ a,Heap.SameBut a s.heap s'.heap/\(a=X.env.locals\/X.env.cells.lookup x=some a))->Q () s') (hf:X.fn x=true\/X.env.scope.names.lookup x=some .local:=by first | exact .inl rfl | exact .inr rfl | assumption):wpAny M A (storeName X.env x u) Q E s:=by
 obtain ⟨m,hn,hl⟩:=id I.loc
 have My:(X.env.scope.kind==.class||(X.env.scope.kind==.module&&X.env.locals !=X.env.globals))=false:=by rw [I.ok.kind];rfl
 have Ir:i < σ.length:=by rw [I.len];exact (List.getElem?_eq_some_iff.mp hi).1
 have zz:=I.zz
 have tracked:∀ {a:Addr} {h':Heap},(∃ o,s.heap.get? a=some o/\H a=none)->Heap.SameBut a s.heap h'->bw X.prog X.w H h':=fun {a h'} ha hs b ob e=>by
  obtain ⟨_,_,Iu⟩:=ha
  refine (I.hok b ob e).stay (fun c w' hc q=>(hs.2 c ?_).trans q) (fun _ q=>q) fun _ _ q=>q
  rintro rfl
  rcases hc with rfl | hc
  ·rw [Iu] at e;cases e
  ·rw [Iu] at hc;cases hc
 rcases hx with hk | hk
 ·refine wpAny_storeName_local hk hn (fun h' hn' hs=>?_) My
  obtain ⟨oL,_,_,Cm,_⟩:=id hn
  refine h _ ⟨I.ok,I.os,I.bare,⟨fun b o e n hb hx=>?_,fun b o e n hb hx=>?_,I.base.free,fun b o e hx=>?_,I.base.tups,I.base.jv,I.base.ku⟩,⟨_,hn',fun j y v' e1 e2 e3=>?_⟩,fun y c e=>?_,I.free,I.mq,fun p hp=>?_,tracked ⟨oL,Cm,I.free⟩ hs,by simpa using I.len⟩ ⟨_,hs,.inl rfl⟩
  ·exact (hs.2 b (Nat.ne_of_lt (Nat.lt_of_lt_of_le (Qz e) I.ok.above))).trans (I.base.keep b o e n hb hx)
  ·obtain ⟨sl,e1⟩:=I.base.slot b o e n hb hx
   exact ⟨sl,(hs.2 b (Nat.ne_of_lt (Nat.lt_of_lt_of_le (Qz e) I.ok.above))).trans e1⟩
  ·obtain ⟨o',e1⟩:=I.base.there b o e hx
   exact ⟨o',(hs.2 b (Nat.ne_of_lt (Nat.lt_of_lt_of_le (Qz e) I.ok.above))).trans e1⟩
  ·by_cases hj:j=i
   ·subst hj
    rw [hi] at e1;cases e1
    rw [List.getElem?_set_self Ir] at e2
    cases e2
    exact ⟨u,r,.inl ⟨hk,by simp⟩⟩
   ·rw [List.getElem?_set_ne (Ne.symm hj)] at e2
    obtain ⟨u',r',q⟩:=hl j y v' e1 e2 e3
    refine ⟨u',r',?_⟩
    rcases q with ⟨k,e⟩ | ⟨k,c,e,z⟩
    ·refine .inl ⟨k,?_⟩
     have:y≠x:=fun e=>hj (qQ hN e1 (e▸hi))
     simp [this,e]
    ·exact .inr ⟨k,c,e,z.sameBut hs (zz y c e)⟩
  ·obtain ⟨w',z⟩:=I.cell y c e
   exact ⟨w',z.sameBut hs (zz y c e)⟩
  ·obtain ⟨e,n,ne,nf,d⟩:=I.pin p hp
   exact ⟨(hs.2 p.1 ne).trans e,n,ne,nf,d⟩
 ·have Ft:X.fn x=true:=by
   rcases hf with z | z
   ·exact z
   ·rw [z] at hk;cases hk
  obtain ⟨c,hc⟩:=I.ok.has x (.inl hk)
  obtain ⟨w',z⟩:=I.cell x c hc
  refine wpAny_storeName_cell I.ok.kind hk hc z (fun h' sf hs=>?_)
  obtain ⟨oc,Iv,Mz⟩:=id z
  refine h {s with heap:=h'} ⟨I.ok,I.os,I.bare,⟨fun b o e n hb hx=>?_,fun b o e n hb hx=>?_,I.base.free,fun b o e hx=>?_,I.base.tups,I.base.jv,I.base.ku⟩,⟨m,hn.sameBut hs (Ne.symm (zz x c hc)),fun j y v' e1 e2 e3=>?_⟩,fun y c' e=>?_,I.free,I.mq,fun p hp=>?_,tracked ⟨oc,Iv,I.mq x c hc⟩ hs,by simpa using I.len⟩ ⟨c,hs,.inr hc⟩
  ·exact (hs.2 b (Nat.ne_of_lt (Nat.lt_of_lt_of_le (Qz e) (I.ok.zx x c Ft hc)))).trans (I.base.keep b o e n hb hx)
  ·obtain ⟨sl,e1⟩:=I.base.slot b o e n hb hx
   exact ⟨sl,(hs.2 b (Nat.ne_of_lt (Nat.lt_of_lt_of_le (Qz e) (I.ok.zx x c Ft hc)))).trans e1⟩
  ·obtain ⟨o',e1⟩:=I.base.there b o e hx
   exact ⟨o',(hs.2 b (Nat.ne_of_lt (Nat.lt_of_lt_of_le (Qz e) (I.ok.zx x c Ft hc)))).trans e1⟩
  ·by_cases hj:j=i
   ·subst hj
    rw [hi] at e1;cases e1
    rw [List.getElem?_set_self Ir] at e2
    cases e2
    exact ⟨u,r,.inr ⟨.inl hk,c,hc,sf⟩⟩
   ·rw [List.getElem?_set_ne (Ne.symm hj)] at e2
    obtain ⟨u',r',q⟩:=hl j y v' e1 e2 e3
    refine ⟨u',r',?_⟩
    rcases q with q | ⟨k,c',e,z'⟩
    ·exact .inl q
    ·refine .inr ⟨k,c',e,z'.sameBut hs ?_⟩
     rintro rfl
     exact hj (qQ hN e1 (I.ok.inj _ _ _ e hc▸hi))
  ·by_cases Fv:c'=c
   ·subst Fv;exact ⟨_,sf⟩
   ·obtain ⟨w2,z2⟩:=I.cell y c' e
    exact ⟨w2,z2.sameBut hs Fv⟩
  ·obtain ⟨e,n,ne,nf,d⟩:=I.pin p hp
   refine ⟨(hs.2 p.1 ?_).trans e,n,ne,nf,d⟩
   intro q
   rw [q,Iv] at e
   have q':oc=p.2:=QD e
   exact d w' (by rw [<- q'];exact Mz)
theorem gT {v:V} {Q:Unit->Shared->Prop} (I:Inv X pins σ H s) (hN:X.N.Nodup) (hi:X.N[i]? =some x) (hx:Loc X.env.scope x) (r:RelV v u)
  (h:∀ s',Inv X pins (σ.set i (some v)) H s'->Q () s') (hf:X.fn x=true\/X.env.scope.names.lookup x=some .local:=by first | exact .inl rfl | exact .inr rfl | assumption):wpAny M A (storeName X.env x u) Q E s:=
 gZ I hN hi hx r (fun s' I' _=>h s' I') hf
theorem Inv.Fw (I:Inv X pins σ H s) (ho:s'.os=s.os) (u:Un (ef X.stack) ch H H' s.heap s'.heap) (hok:bw X.prog X.w H' s'.heap) (hg:AllBare s'.gens)
  (u_:∀ b∈ch,(b∈X.ex\/X.s₀.heap.objs.size<=b)/\b≠X.env.locals/\(∀ x c,X.env.cells.lookup x=some c->c≠b)/\∀ p∈X.pn++pins,p.1≠b):Inv X pins σ H' s':=by
 obtain ⟨h',g',d',t',o'⟩:=s'
 have e:o'=s.os:=ho
 subst e
 exact I.call (g':=g') (t':=t') (d':=d') u hok hg u_
end
abbrev XK:=Value->Option Addr->Hp->Prop
abbrev St:=List (Option V)
end L2
variable {σ:L2.St}
namespace L2
open PySem PySem.Spec PyProof.Rows
abbrev VK:=V->Hp->Prop
abbrev TE:=St->Hp->VK->Prop
end L2
variable {te to:L2.TE}
namespace L2
open PySem PySem.Spec PyProof.Rows
abbrev TT:=St->Hp->(Bool->Hp->Prop)->Prop
abbrev TA:=St->Hp->(List V->Hp->Prop)->Prop
end L2
variable {ta t:L2.TA} {tA:L2.TT}
namespace L2
open PySem PySem.Spec PyProof.Rows
structure Ends where
 nx:St->Hp->Prop
 rt:VK
 bk:St->Hp->Prop:=fun _ _=>False
 ct:St->Hp->Prop:=fun _ _=>False
abbrev TS:=Ends->St->Hp->Prop
def EP (X:Cx) (pins:List (Addr×Obj)) (σ:St) (Q:VK) (u:Value) (s':Shared):Prop:=∃ v H',Inv X pins σ H' s'/\RelV v u/\Q v H'
def TP (X:Cx) (pins:List (Addr×Obj)) (σ:St) (Q:Bool->Hp->Prop) (b:Bool) (s':Shared):Prop:=∃ H',Inv X pins σ H' s'/\Q b H'
def AP (X:Cx) (pins:List (Addr×Obj)) (σ:St) (Q:List V->Hp->Prop) (us:List Value) (s':Shared):Prop:=∃ vs H',Inv X pins σ H' s'/\au vs us/\Q vs H'
def SP (X:Cx) (pins:List (Addr×Obj)) (D:Ends) (f:Flow) (s':Shared):Prop:=
 match f with
 | .next=>∃ σ' H',Inv X pins σ' H' s'/\D.nx σ' H'
 | .brk=>∃ σ' H',Inv X pins σ' H' s'/\D.bk σ' H'
 | .cont=>∃ σ' H',Inv X pins σ' H' s'/\D.ct σ' H'
 | .ret u=>∃ v σ' H',Inv X pins σ' H' s'/\RelV v u/\D.rt v H'
def PE (X:Cx) (e:Expr) (t:TE):Prop:=
 ∀ (pins:List (Addr×Obj)) (s:Shared) (σ:St) (H:Hp) (Q:VK),Inv X pins σ H s->t σ H Q->wpAny (model X.prog X.w) X.A (eval e X.env) (EP X pins σ Q) X.xe s
def PT (X:Cx) (e:Expr) (t:TT):Prop:=
 ∀ (pins:List (Addr×Obj)) (s:Shared) (σ:St) (H:Hp) (Q:Bool->Hp->Prop),Inv X pins σ H s->t σ H Q->wpAny (model X.prog X.w) X.A (isTrue e X.env (eval e X.env)) (TP X pins σ Q) X.xe s
def PW (X:Cx) (e:Expr) (t:TT):Prop:=
 ∀ (whole:Sem Value) (pins:List (Addr×Obj)) (s:Shared) (σ:St) (H:Hp) (Q:Bool->Hp->Prop),Inv X pins σ H s->t σ H Q->wpAny (model X.prog X.w) X.A (isTrue e X.env whole) (TP X pins σ Q) X.xe s
theorem PW.pt {t:TT} (h:PW X e t):PT X e t:=h _
def PA (X:Cx) (es:List Expr) (t:TA):Prop:=
 ∀ (pos:Pos) (pins:List (Addr×Obj)) (s:Shared) (σ:St) (H:Hp) (Q:List V->Hp->Prop),Inv X pins σ H s->t σ H Q->wpAny (model X.prog X.w) X.A (spliced (backTo pos (starEach es X.env))) (AP X pins σ Q) X.xe s
def PS (X:Cx) (st:Stmt) (t:TS):Prop:=
 ∀ (pins:List (Addr×Obj)) (s:Shared) (σ:St) (H:Hp) (D:Ends),Inv X pins σ H s->t D σ H->wpAny (model X.prog X.w) X.A (exec st X.env) (SP X pins D) X.xe s
def jw (X:Cx) (st:List Stmt) (t:TS):Prop:=
 ∀ (pins:List (Addr×Obj)) (s:Shared) (σ:St) (H:Hp) (D:Ends),Inv X pins σ H s->t D σ H->wpAny (model X.prog X.w) X.A (execs st X.env) (SP X pins D) X.xe s
theorem aq {t:Sem α} {Q Q':α->Shared->Prop} (h:wpAny M A t Q E s) (hQ:∀ a s,Q a s->Q' a s):wpAny M A t Q' E s:=wpAny_mono h hQ fun _ _ x=>x
section
def MA (i:Nat):TE:=fun σ H Q=>∃ v,σ[i]? =some (some v)/\Q v H
def tC (v:V):TE:=fun _ H Q=>Q v H
theorem MB {pos:Pos} (hN:X.N[i]? =some x) (hv:Ba X.env.scope x) (hd:(x==("__debug__":Str))=false:=by decide) (jj:(x==("__classdict__":Str))=false:=by decide):PE X (.Name x pos) (MA i):=by
 intro pins s σ H Q I h
 obtain ⟨v,e,h⟩:=h
 obtain ⟨m,hn,hl⟩:=I.loc
 obtain ⟨u,r,l⟩:=hl i x v hN e hv
 have fin:EP X pins σ Q u s:=⟨v,H,I,r,h⟩
 rcases l with ⟨hk,hm⟩ | ⟨hk,c,hc,DK⟩
 ·exact wpAny_Name (wpAny_loadName_local I.ok.kind hk hn hm fin) hd
 ·rcases hk with hk | hk
  ·exact wpAny_Name (wpAny_loadName_cell I.ok.kind hk hc DK fin) hd
  ·exact wpAny_Name (wpAny_loadName_free I.ok.kind hk hc DK fin jj) hd
theorem MC {i j pos}:PE X (.Constant (.int i) j pos) (tC (.int i)):=fun _ _ _ H _ I h=>wpAny_Constant_int ⟨.int i,H,I.tok _,⟨_,rfl⟩,h⟩
theorem MD {b j pos}:PE X (.Constant (.bool b) j pos) (tC (.bl b)):=fun _ _ _ H _ I h=>Constant_bool ⟨.bl b,H,I,rfl,h⟩
theorem ME {j pos}:PE X (.Constant .none j pos) (tC .af):=fun _ _ _ H _ I h=>Constant_none ⟨.af,H,I,rfl,h⟩
theorem MF {x j pos}:PE X (.Constant (.str x) j pos) (tC (.str x)):=fun _ _ _ H _ I h=>Calls.Constant_str ⟨.str x,H,I.tok _,⟨_,rfl⟩,h⟩
def Gl (X:Cx) (x:Str):Prop:=X.env.kindOf x=some .globalImplicit
theorem dR {pos:Pos} (I:Inv X pins σ H s) (hg:Gl X x) (hm:X.mg x=some u) (h:Q u s)
  (hd:(x==("__debug__":Str))=false:=by decide):wpAny (model X.prog X.w) X.A (eval (.Name x pos) X.env) Q E s:=
 Calls.Name_function_global I.ok.kind hg (Calls.loadGlobal_global (by rw [I.ok.glob];exact I.mod.glob.keeps I.bk) hm h) hd
theorem jE {pos:Pos} (I:Inv X pins σ H s) (hg:Gl X x) (hm:X.mg x=none) (hv:bootBuiltins x=some u) (h:Q u s)
  (hn:x≠"__name__":=by decide) (hd:(x==("__debug__":Str))=false:=by decide):wpAny (model X.prog X.w) X.A (eval (.Name x pos) X.env) Q E s:=by
 obtain ⟨mb,h1,h2⟩:=I.mod.blt
 exact Calls.Name_function_global I.ok.kind hg (Calls.loadGlobal_builtin (by rw [I.ok.glob];exact I.mod.glob.keeps I.bk) hm (by rw [I.ok.blt];exact h1.keeps I.bk) ((h2 x hn).trans hv) h) hd
theorem tS {v:V} {pos:Pos} (hg:Gl X x) (hm:X.mg x=some u) (r:RelV v u) (hd:(x==("__debug__":Str))=false:=by decide):PE X (.Name x pos) (tC v):=
 fun _ _ _ H _ I h=>dR I hg hm ⟨v,H,I,r,h⟩ hd
variable {a b:Expr} {ta tb:TE} {pos:Pos}
def tB (t:TE):TT:=fun σ H Q=>t σ H fun x H1=>∃ c,x=.bl c/\Q c H1
theorem zZ {t:TE} (h:PE X e t) (he:∀ whole,isTrue e X.env whole=(do let v <- whole;standAt e.pos;holding [v] (truthy v)):=by intro _;rfl):PT X e (tB t):=by
 intro pins s σ H Q I hw
 refine isTrue_plain (aq (h pins s σ H _ I hw) fun v s1 ⟨x,H1,I1,r1,q1⟩=>?_) (he _)
 obtain ⟨d,rfl,q⟩:=q1
 cases r1
 exact wpAny_truthy_bool ⟨H1,I1,q⟩
variable {vc:TT} {rest:List Expr}
def Iw (t u:TT):TT:=fun σ H Q=>t σ H fun c H1=>if c=true then u σ H1 Q else Q false H1
def Iz (t u:TT):TT:=fun σ H Q=>t σ H fun c H1=>if c=true then Q true H1 else u σ H1 Q
def IA (t:TT):TT:=fun σ H Q=>t σ H fun c H1=>Q (!c) H1
theorem yT (ha:PT X a tA):PW X (.BoolOp .And [a] pos) tA:=by
 intro wh pins s σ H Q I h
 refine isTrue_and (aq (ha pins s σ H Q I h) fun c s1 e=>?_)
 cases c with
 | true=>exact isTrue_and_nil e
 | false=>exact e
theorem MG (ha:PT X a tA):PW X (.BoolOp .Or [a] pos) tA:=by
 intro wh pins s σ H Q I h
 refine isTrue_or (aq (ha pins s σ H Q I h) fun c s1 e=>?_)
 cases c with
 | false=>exact isTrue_or_nil e
 | true=>exact e
theorem MH (ha:PT X a tA) (hb:PW X (.BoolOp .And (b::rest) pos) vc):PW X (.BoolOp .And (a::b::rest) pos) (Iw tA vc):=by
 intro wh pins s σ H Q I h
 refine isTrue_and (aq (ha pins s σ H _ I h) ?_)
 rintro c s1 ⟨H1,I1,q1⟩
 cases c with
 | true=>exact hb wh pins s1 σ H1 Q I1 q1
 | false=>exact ⟨H1,I1,q1⟩
theorem MI (ha:PT X a tA) (hb:PW X (.BoolOp .Or (b::rest) pos) vc):PW X (.BoolOp .Or (a::b::rest) pos) (Iz tA vc):=by
 intro wh pins s σ H Q I h
 refine isTrue_or (aq (ha pins s σ H _ I h) ?_)
 rintro c s1 ⟨H1,I1,q1⟩
 cases c with
 | true=>exact ⟨H1,I1,q1⟩
 | false=>exact hb wh pins s1 σ H1 Q I1 q1
theorem MJ (ha:PT X a tA):PT X (.UnaryOp .Not a pos) (IA tA):=by
 intro pins s σ H Q I h
 exact isTrue_not (ha pins s σ H (fun c H1=>Q (!c) H1) I h)
def IB (t:TT) (ta tb:TE):TE:=fun σ H Q=>t σ H fun c H1=>if c=true then ta σ H1 Q else tb σ H1 Q
theorem vK {c:Expr} (hc:PT X c tA) (ha:PE X a ta) (hb:PE X b tb):PE X (.IfExp c a b pos) (IB tA ta tb):=by
 intro pins s σ H Q I h
 refine wpAny_IfExp (aq (hc pins s σ H _ I h) ?_)
 rintro d s1 ⟨H1,I1,q1⟩
 cases d with
 | true=>exact ha pins s1 σ H1 Q I1 q1
 | false=>exact hb pins s1 σ H1 Q I1 q1
end
def ai (K:QZ) (H:Hp) (a:Addr) (xs:List V):Prop:=
 Rd H a (.lst xs)\/
  ∃ (o:Obj) (its:Array Value) (n:Nat),K.lookup a=some o/\o.cls=.type "list"/\o.dict=none/\o.data=.seq its n/\its.size<=sizeLine/\au xs its.toList
def ae (K:QZ) (H:Hp) (a:Addr) (xs:List V):Prop:=
 Rd H a (.tup xs)\/
  ∃ (o:Obj) (its:Array Value) (n:Nat),K.lookup a=some o/\o.cls=.type "tuple"/\o.data=.seq its n/\its.size<=sizeLine/\au xs its.toList
def xf:Value->Option V
 | .none=>some .af
 | .bool b=>some (.bl b)
 | .int i _=>some (.int i)
 | .str x _=>some (.str x)
 | .bytes b _=>some (.kr b)
 | .float b _=>some (.Fl b)
 | .ref a=>some (.ref a)
 | .type n=>some (.ty n)
 | _=>none
theorem RelV.abs {x:V} (r:RelV x u):xf u=some x:=by
 cases x with
 | af=>cases r;rfl
 | bl _=>cases r;rfl
 | int _=>obtain ⟨t,rfl⟩:=r;rfl
 | str _=>obtain ⟨t,rfl⟩:=r;rfl
 | kr _=>obtain ⟨t,rfl⟩:=r;rfl
 | Fl _=>obtain ⟨t,rfl⟩:=r;rfl
 | ref _=>cases r;rfl
 | ty _=>cases r;rfl
theorem RelV.inj {x y:V} (r:RelV x u) (q:RelV y u):x=y:=QD (r.abs.symm.trans q.abs)
theorem au.inj:∀ {xs ys:List V} {us:List Value},au xs us->au ys us->xs=ys
 | _,_,_,.nil,.nil=>rfl
 | _,_,_,.cons r t,.cons r' t'=>by rw [r.inj r',au.inj t t']
section
variable {xs ys:List V}
theorem ai.of {K:QZ} (h:H a=some (.lst xs)):ai K H a xs:=.inl (.inl h)
theorem ae.of {K:QZ} (h:H a=some (.tup xs)):ae K H a xs:=.inl (.inl h)
theorem Inv.list (I:Inv X pins σ H s) (h:ai X.K H a xs):∃ its:List Value,au xs its/\PlainL s.heap a its.toArray/\xs.length<=sizeLine:=by
 rcases h with h | ⟨o,its,n,hk,hc,hd,hs,hz,r⟩
 ·obtain ⟨z,its,n,r,e⟩:=h.ok I.hok
  exact ⟨its,r,⟨_,n,e,rfl,rfl,rfl⟩,z⟩
 ·refine ⟨its.toList,r,⟨o,n,I.fz a o hk,hc,hd,by simpa using hs⟩,?_⟩
  have e:=r.length
  simp only [Array.length_toList] at e
  omega
theorem Inv.tuple (I:Inv X pins σ H s) (h:ae X.K H a xs):∃ its:List Value,au xs its/\IsTup s.heap a its.toArray/\xs.length<=sizeLine:=by
 rcases h with h | ⟨o,its,n,hk,hc,hs,hz,r⟩
 ·obtain ⟨⟨z,_⟩,its,r,p⟩:=h.ok I.hok
  exact ⟨its,r,p,z⟩
 ·refine ⟨its.toList,r,⟨o,I.fz a o hk,hc,n,by simpa using hs⟩,?_⟩
  have e:=r.length
  simp only [Array.length_toList] at e
  omega
theorem Inv.Cn (I:Inv X pins σ H s) (h:ai X.K H a xs) (h':ai X.K H a ys):xs=ys:=by
 obtain ⟨its,r,⟨o,n,e,_,_,d⟩,_⟩:=I.list h
 obtain ⟨its',r',⟨o',n',e',_,_,d'⟩,_⟩:=I.list h'
 rw [e] at e';cases e'
 rw [d] at d'
 injection d' with d1 _
 have:its=its':=by simpa using congrArg Array.toList d1
 subst this
 exact r.inj r'
theorem Inv.Fx (I:Inv X pins σ H s) (h:ae X.K H a xs) (h':ae X.K H a ys):xs=ys:=by
 obtain ⟨its,r,⟨o,e,_,n,d⟩,_⟩:=I.tuple h
 obtain ⟨its',r',⟨o',e',_,n',d'⟩,_⟩:=I.tuple h'
 rw [e] at e';cases e'
 rw [d] at d'
 injection d' with d1 _
 have:its=its':=by simpa using congrArg Array.toList d1
 subst this
 exact r.inj r'
end
abbrev Cx.vd (X:Cx) (E:Value->Shared->Prop):Cx:={X with xe:=E}
abbrev Cx.sj (X:Cx):Cx:=X.vd fun _ _=>False
theorem Cx.Ok.vd {X:Cx} (ok:X.Ok) (E:Value->Shared->Prop):(X.vd E).Ok:=
 ⟨ok.mod,ok.kind,ok.glob,ok.blt,ok.above,ok.inj,ok.has,ok.zx,ok.hd,ok.frames,ok.Bb,ok.DI,ok.bs,ok.rq,ok.zy,ok.Bc,ok.mj,ok.w_⟩
theorem Cx.Ok.yk (ok:(X.vd E).Ok):X.Ok:=
 ⟨ok.mod,ok.kind,ok.glob,ok.blt,ok.above,ok.inj,ok.has,ok.zx,ok.hd,ok.frames,ok.Bb,ok.DI,ok.bs,ok.rq,ok.zy,ok.Bc,ok.mj,ok.w_⟩
theorem Inv.vd (I:Inv X pins σ H s) (E:Value->Shared->Prop):Inv (X.vd E) pins σ H s:=⟨I.ok.vd E,I.os,I.bare,I.base,I.loc,I.cell,I.free,I.mq,I.pin,I.hok,I.len⟩
theorem Inv.yk (I:Inv (X.vd E) pins σ H s):Inv X pins σ H s:=⟨I.ok.yk,I.os,I.bare,I.base,I.loc,I.cell,I.free,I.mq,I.pin,I.hok,I.len⟩
theorem SP.yk {D:Ends} {f:Flow} {s':Shared} (h:SP (X.vd E) pins D f s'):SP X pins D f s':=by
 cases f with
 | next=>obtain ⟨σ',H',I,q⟩:=h;exact ⟨σ',H',I.yk,q⟩
 | brk=>obtain ⟨σ',H',I,q⟩:=h;exact ⟨σ',H',I.yk,q⟩
 | cont=>obtain ⟨σ',H',I,q⟩:=h;exact ⟨σ',H',I.yk,q⟩
 | ret u=>obtain ⟨v,σ',H',I,r,q⟩:=h;exact ⟨v,σ',H',I.yk,r,q⟩
theorem jw.sj {st:List Stmt} {t:TS} (h:jw X.sj st t):jw X st t:=fun pins s σ H D I hw=>
 wpAny_mono (h pins s σ H D (I.vd _) hw) (fun _ _ q=>q.yk) fun _ _ z=>False.elim z
section
variable {st:Stmt} {rest:List Stmt} {t u:TS} {pos:Pos}
def DL:TS:=fun D σ H=>D.nx σ H
def yl (t u:TS):TS:=fun D σ H=>t {D with nx:=u D} σ H
theorem xL:jw X [] DL:=fun _ _ σ H _ I h=>wpAny_execs_nil ⟨σ,H,I,h⟩
theorem wR (h1:PS X st t) (h2:jw X rest u):jw X (st::rest) (yl t u):=by
 intro pins s σ H D I h
 refine wpAny_execs_cons (aq (h1 pins s σ H {D with nx:=u D} I h) fun f s1 q=>?_)
 cases f with
 | next=>
  obtain ⟨σ',H',I',q⟩:=q
  exact h2 pins s1 σ' H' D I' q
 | ret v=>exact q
 | brk=>exact q
 | cont=>exact q
theorem yW (h1:PS X st t):jw X [st] t:=by
 intro pins s σ H D I h
 refine wpAny_execs_cons (aq (h1 pins s σ H D I h) fun f s1 q=>?_)
 cases f with
 | next=>exact wpAny_execs_nil q
 | ret v=>exact q
 | brk=>exact q
 | cont=>exact q
def IC:TS:=fun D σ H=>D.ct σ H
theorem qM:PS X (.Continue pos) IC:=fun _ _ σ H _ I h=>wpAny_Continue ⟨σ,H,I,h⟩
theorem Inv.quiet (I:Inv X pins σ H s):interactive X.env=false:=by simp [interactive,I.ok.kind]
def ID (te:TE):TS:=fun D σ H=>te σ H fun _ H1=>D.nx σ H1
theorem y4 (he:PE X e te) (hs:swapsWith e none pos.line X.env=pure false:=by rfl):PS X (.Expr e pos) (ID te):=by
 intro pins s σ H D I h
 exact wpAny_Expr_any (aq (he pins s σ H _ I h) fun v s1 ⟨x,H1,I1,r1,q1⟩=>⟨σ,H1,I1,q1⟩) I.quiet hs
def IE (te:TE):TS:=fun D σ H=>te σ H D.rt
theorem MK (he:PE X e te):PS X (.Return (some e) pos) (IE te):=by
 intro pins s σ H D I h
 exact wpAny_Return_some (aq (he pins s σ H _ I h) fun v s1 ⟨x,H1,I1,r1,q1⟩=>⟨x,σ,H1,I1,r1,q1⟩)
def Fy (c:TT) (t u:TS):TS:=fun D σ H=>c σ H fun b H1=>if b=true then t D σ H1 else u D σ H1
theorem ML {c:Expr} {a b:List Stmt} {tc:TT} (hc:PT X c tc) (ha:jw X a t) (hb:jw X b u):PS X (.If c a b pos) (Fy tc t u):=by
 intro pins s σ H D I h
 refine wpAny_If (aq (hc pins s σ H _ I h) ?_)
 rintro d s1 ⟨H1,I1,q1⟩
 cases d with
 | true=>exact ha pins s1 σ H1 D I1 q1
 | false=>exact hb pins s1 σ H1 D I1 q1
end
abbrev TG:=V->St->Hp->(St->Hp->Prop)->Prop
abbrev sy:=List V->St->Hp->(St->Hp->Prop)->Prop
def PG (X:Cx) (target:Expr) (t:TG):Prop:=
 ∀ (pins:List (Addr×Obj)) (s:Shared) (σ:St) (H:Hp) (v:V) (u:Value) (Q:St->Hp->Prop),Inv X pins σ H s->RelV v u->t v σ H Q->
  wpAny (model X.prog X.w) X.A (assign target X.env u) (fun _ s'=>∃ σ' H',Inv X pins σ' H' s'/\Q σ' H') X.xe s
def Bd (X:Cx) (ts:List Expr) (t:sy):Prop:=
 ∀ (pins:List (Addr×Obj)) (s:Shared) (σ:St) (H:Hp) (vs:List V) (us:List Value) (Q:St->Hp->Prop),Inv X pins σ H s->au vs us->t vs σ H Q->
  wpAny (model X.prog X.w) X.A (assignInOrder ((assignEach ts X.env).map (·.2)) us) (fun _ s'=>∃ σ' H',Inv X pins σ' H' s'/\Q σ' H') X.xe s
abbrev DM:=V->V->V->Hp->(Hp->Prop)->Prop
def Fz (X:Cx) (t:DM):Prop:=
 ∀ (pins:List (Addr×Obj)) (s:Shared) (σ:St) (H:Hp) (o i v:V) (ov iv u:Value) (Q:Hp->Prop),Inv X pins σ H s->RelV o ov->RelV i iv->RelV v u->t o i v H Q->
  wpAny (model X.prog X.w) X.A (setItem ov iv u) (fun _ s'=>∃ H',Inv X pins σ H' s'/\Q H') X.xe s
abbrev Co:=V->V->Hp->VK->Prop
def DN (X:Cx) (op:Operator) (t:Co):Prop:=
 ∀ (pins:List (Addr×Obj)) (s:Shared) (σ:St) (H:Hp) (x y:V) (v u:Value) (Q:VK),Inv X pins σ H s->RelV x v->RelV y u->t x y H Q->
  wpAny (model X.prog X.w) X.A (inplaceOp op v u) (EP X pins σ Q) X.xe s
section
variable {pos:Pos}
def jd (i:Nat):TG:=fun v σ H Q=>Q (σ.set i (some v)) H
theorem xZ (hN:X.N.Nodup) (hi:X.N[i]? =some x) (hx:Loc X.env.scope x) (hf:X.fn x=true\/X.env.scope.names.lookup x=some .local:=by first | exact .inl rfl | exact .inr rfl | assumption):PG X (.Name x pos) (jd i):=by
 intro pins s σ H v u Q I r h
 exact wpAny_assign_Name (gT I hN hi hx r (fun s' I'=>⟨_,H,I',h⟩) hf)
def DO:sy:=fun vs σ H Q=>vs=[]/\Q σ H
def z_ (t:TG) (u:sy):sy:=fun vs σ H Q=>∃ v r,vs=v::r/\t v σ H fun σ' H'=>u r σ' H' Q
theorem zC:Bd X [] DO:=by
 intro pins s σ H vs us Q I r h
 obtain ⟨e,h⟩:=h
 subst e
 cases r
 exact assignInOrder_nil ⟨σ,H,I,h⟩
theorem vV {t:TG} {u:sy} (h1:PG X e t) (h2:Bd X es u)
  (hs:(assignEach (e::es) X.env).map (·.2)=assign e X.env::(assignEach es X.env).map (·.2):=by rfl):Bd X (e::es) (z_ t u):=by
 intro pins s σ H vs us Q I r h
 obtain ⟨v,vr,e1,h⟩:=h
 subst e1
 cases r with
 | cons r rr=>
  rw [hs]
  refine assignInOrder_cons (aq (h1 pins s σ H _ _ _ I r h) ?_)
  rintro _ s1 ⟨σ1,H1,I1,q1⟩
  exact h2 pins s1 σ1 H1 _ _ Q I1 rr q1
def Cp (K:QZ) (n:Nat) (t:sy):TG:=fun v σ H Q=>∃ a xs,v=.ref a/\ae K H a xs/\xs.length=n/\t xs σ H Q
theorem zU {k:Nat} {t:sy} (hc:X.calm=true) (h:Bd X es t)
  (hn:(assignEach es X.env).length=n:=by rfl) (hst:(assignEach es X.env).findIdx? (·.1)=none:=by rfl):PG X (.Tuple es k pos) (Cp X.K n t):=by
 intro pins s σ H v u Q I r hw
 obtain ⟨a,xs,e1,hq,hl,hw⟩:=hw
 subst e1
 cases r
 obtain ⟨its,rv,ht,hz⟩:=I.tuple hq
 refine assign_Tuple_tuple (I.ok.hd hc) ht (by simp [hn,<- hl,rv.length]) hst fun h' hx=>?_
 have I1:Inv X pins σ H {s with heap:=h'}:=I.kept (t':=s.toks) fun b o e=>hx b o (Nat.ne_of_lt (Qz e)) e
 exact h pins _ σ H xs _ Q I1 (by simpa using rv) hw
def IF (to ti:TE) (t:DM):TG:=fun v σ H Q=>to σ H fun o H1=>ti σ H1 fun i H2=>t o i v H2 fun H3=>Q σ H3
theorem MM {o i:Expr} {ti:TE} {t:DM} (ho:PE X o to) (hi:PE X i ti) (hs:Fz X t)
  (ha:∀ v,assign (.Subscript o i pos) X.env v=(do
   let ov <- holding [v] (eval o X.env)
   let iv <- holding [v,ov] (eval i X.env)
   standAt pos
   holding [v,ov,iv] (setItem ov iv v)
   release [v,ov,iv] []):=by intro _;rfl):PG X (.Subscript o i pos) (IF to ti t):=by
 intro pins s σ H v u Q I r h
 rw [ha]
 refine QS (wpAny_holding (aq (ho pins s σ H _ I h) ?_))
 rintro ov s1 ⟨x,H1,I1,r1,q1⟩
 refine QS (wpAny_holding (aq (hi pins s1 σ H1 _ I1 q1) ?_))
 rintro iv s2 ⟨y,H2,I2,r2,q2⟩
 refine QS (wpAny_standAt (QS (wpAny_holding (aq (hs pins s2 σ H2 x y v ov iv u _ I2 r1 r2 r q2) ?_))))
 rintro _ s3 ⟨H3,I3,q3⟩
 exact wpAny_release ⟨σ,H3,I3,q3⟩
def s_ (te:TE) (g:TG):TS:=fun D σ H=>te σ H fun x H1=>g x σ H1 D.nx
theorem MN {g:TG} (he:PE X e te) (hg:PG X tg g) (hs:swapsWithSole [tg] e pos.line X.env=pure false:=by rfl) (hw:swappedStores [tg] e X.env=pure none:=by rfl)
  (h1:(assignEach [tg] X.env).map (·.2)=[assign tg X.env]:=by rfl):PS X (.Assign [tg] e pos) (s_ te g):=by
 intro pins s σ H D I h
 refine wpAny_Assign_stores (aq (he pins s σ H _ I h) fun v s1 ⟨x,H1,I1,r1,q1⟩=>?_) hs hw
 rw [h1]
 exact aq (hg pins s1 σ H1 x v _ I1 r1 q1) fun _ s2 q=>q
theorem MO (hN:X.N.Nodup) (hi:X.N[i]? =some x) (hx:Loc X.env.scope x) (he:PE X e te) (hs:swapsWith e (some (.Name x pos')) pos.line X.env=pure false:=by rfl) (hf:X.fn x=true\/X.env.scope.names.lookup x=some .local:=by first | exact .inl rfl | exact .inr rfl | assumption):
  PS X (.Assign [.Name x pos'] e pos) (s_ te (jd i)):=by
 intro pins s σ H D I h
 refine wpAny_Assign_Name (aq (he pins s σ H _ I h) fun v s1 ⟨y,H1,I1,r1,q1⟩=>?_) hs
 exact gT I1 hN hi hx r1 (fun s2 I2=>⟨_,H1,I2,q1⟩) hf
def IG (i j:Nat) (ta:TA):TS:=fun D σ H=>ta σ H fun vs H1=>∃ v w,vs=[v,w]/\D.nx ((σ.set i (some v)).set j (some w)) H1
theorem zY {a b:Expr} {px py pt:Pos} {kt k2 Aa} (hc:X.calm=true) (hN:X.N.Nodup) (hi:X.N[i]? =some x) (hj:X.N[j]? =some y) (ym:i≠j)
  (hx:X.env.scope.names.lookup x=some .local) (hy:X.env.scope.names.lookup y=some .local) (ha:PA X [a,b] ta)
  (hw:swappedStores [.Tuple [.Name x px,.Name y py] kt pt] (.Tuple [a,b] k2 Aa) X.env=pure (some [x,y]))
  (hs:swapsWithSole [.Tuple [.Name x px,.Name y py] kt pt] (.Tuple [a,b] k2 Aa) pos.line X.env=pure false:=by rfl):
  PS X (.Assign [.Tuple [.Name x px,.Name y py] kt pt] (.Tuple [a,b] k2 Aa) pos) (IG i j ta):=by
 intro pins s σ H D I h
 rw [exec_Assign_arm]
 refine QS (wpAny_standAt ?_)
 rw [hs]
 refine QS (QT ?_)
 rw [if_neg (by decide)]
 refine QS (Tuple_ (aq (ha _ pins s σ H _ I h) ?_))
 rintro us s1 ⟨vs,H1,I1,r1,q1⟩
 obtain ⟨v,w,e1,q1⟩:=q1
 subst e1
 obtain ⟨u1,u2,rfl,rv,jk⟩:∃ u1 u2,us=[u1,u2]/\RelV v u1/\RelV w u2:=by
  cases r1 with
  | cons p q=>
   cases q with
   | cons p' q'=>
    cases q'
    exact ⟨_,_,rfl,p,p'⟩
 refine wpAny_newObj_type ?_ (by show 2<=sizeLine;decide)
 have I2:Inv X pins σ H1 {s1 with heap:=s1.heap.push {cls:=.type "tuple",data:=.seq [u1,u2].toArray}}:=I1.kept (t':=s1.toks) fun b o e=>Qc _ e
 rw [hw]
 refine QS (QT ?_)
 show wpAny (model X.prog X.w) X.A (do rule "assign.swapped-stores";let items <- unpackItems (.ref s1.heap.objs.size) 2 none;assignInOrder [fun v=>bindName X.env y v,fun v=>bindName X.env x v] items.reverse;pure Flow.next) _ _ _
 refine QS (wpAny_rule (QS (unpackItems_tuple (items:=#[u1,u2]) (I.ok.hd hc) (IsTup.new s1.heap _) fun h' hx'=>?_)))
 have I3:=I2.kept (h':=h') (t':=s1.toks) fun b o e=>hx' b o (Nat.ne_of_lt (Qz e)) e
 show wpAny _ _ (assignInOrder [fun v=>bindName X.env y v,fun v=>bindName X.env x v] [u2,u1] >>=fun _=>pure Flow.next) _ _ _
 refine QS (assignInOrder_cons (wpAny_bindName (gT I3 hN hj (.inl hy) jk (fun s2 I4=>?_) (.inr hy))))
 refine assignInOrder_cons (wpAny_bindName (gT I4 hN hi (.inl hx) rv (fun s3 I5=>assignInOrder_nil (QT ?_)) (.inr hx)))
 rw [List.set_comm _ _ (Ne.symm ym)] at I5
 exact ⟨_,H1,I5,q1⟩
def II (i:Nat) (te:TE) (ti:Co):TS:=fun D σ H=>∃ x,σ[i]? =some (some x)/\te σ H fun y H1=>ti x y H1 fun z H2=>D.nx (σ.set i (some z)) H2
theorem MP {op:Operator} {ti:Co} (hN:X.N.Nodup) (hi:X.N[i]? =some x) (hx:Loc X.env.scope x) (he:PE X e te) (ho:DN X op ti) (hf:X.fn x=true\/X.env.scope.names.lookup x=some .local:=by first | exact .inl rfl | exact .inr rfl | assumption):
  PS X (.AugAssign (.Name x pos') op e pos) (II i te ti):=by
 intro pins s σ H D I h
 obtain ⟨v,e1,h⟩:=h
 obtain ⟨m,hn,hl⟩:=I.loc
 have MQ:Ba X.env.scope x:=by rcases hx with k | k;exact .inl k;exact .inr (.inl k)
 obtain ⟨u,r,l⟩:=hl i x v hi e1 MQ
 refine wpAny_AugAssign_Name ?_
 have go:wpAny (model X.prog X.w) X.A (eval e X.env) (fun w s₂=>wpAny (model X.prog X.w) X.A (inplaceOp op u w) (fun r s₃=>wpAny (model X.prog X.w) X.A (storeName X.env x r) (fun _=>SP X pins D .next) X.xe s₃) X.xe s₂) X.xe s:=by
  refine aq (he pins s σ H _ I h) ?_
  rintro w s1 ⟨y,H1,I1,r1,q1⟩
  refine aq (ho pins s1 σ H1 v y u w _ I1 r r1 q1) ?_
  rintro z s2 ⟨zv,H2,I2,r2,q2⟩
  exact gT I2 hN hi hx r2 (fun s3 I3=>⟨_,H2,I3,q2⟩) hf
 rcases l with ⟨hk,hm⟩ | ⟨hk,c,hc,DK⟩
 ·exact wpAny_loadName_local I.ok.kind hk hn hm go
 ·rcases hk with hk | hk
  ·exact wpAny_loadName_cell I.ok.kind hk hc DK go
  ·rcases hx with k | k
   ·have:X.env.scope.names.lookup x=some .free:=hk
    rw [k] at this;cases this
   ·have:X.env.scope.names.lookup x=some .free:=hk
    rw [k] at this;cases this
def MR (f:Int->Int->Int):Co:=fun x y H Q=>∃ i j,x=.int i/\y=.int j/\Q (.int (f i j)) H
theorem nQ:DN X .Add (MR fun i j=>i+j):=by
 intro pins s σ H x y v u Q I r1 r2 h
 obtain ⟨i,j,e1,e2,q⟩:=h
 subst e1;subst e2
 obtain ⟨t,rfl⟩:=r1
 obtain ⟨t',rfl⟩:=r2
 exact iadd_int ⟨.int _,H,I.tok _,⟨_,rfl⟩,q⟩
def IJ (c:TT) (tb:TS):TS:=fun D σ H=>∃ W:Nat->St->Hp->Prop,(∃ m,W m σ H)/\∀ m σ H,W m σ H->
 c σ H fun b H1=>if b=true then ∃ N:St->Hp->Prop,(∀ σ' H',N σ' H'->∃ m',m' < m/\W m' σ' H')/\tb {D with nx:=N,ct:=N,bk:=D.nx} σ H1 else D.nx σ H1
theorem vU {c:Expr} {tc:TT} {tb:TS} (hp:PassesOwn (model X.prog X.w) X.A X.env X.xe) (hc:PT X c tc) (hb:jw X body tb):PS X (.While c body [] pos) (IJ tc tb):=by
 intro pins s σ H D I h
 obtain ⟨W,⟨m0,w0⟩,turn⟩:=h
 refine wpAny_While (codeAny_whileLoop (fun n s'=>∃ σ' H',Inv X pins σ' H' s'/\W n σ' H') ?_ m0 ⟨σ,H,I,w0⟩)
 rintro n s1 ⟨σ1,H1,I1,w1⟩
 refine wpAny_passesOwn hp (aq (hc pins s1 σ1 H1 _ I1 (turn n σ1 H1 w1)) ?_)
 rintro b s2 ⟨H2,I2,q2⟩
 cases b with
 | true=>
  obtain ⟨N,hN,q2⟩:=q2
  rw [if_pos rfl]
  refine wpAny_passesOwn hp (aq (hb pins s2 σ1 H2 _ I2 q2) fun f s3 q3=>?_)
  cases f with
  | next=>
   obtain ⟨σ3,H3,I3,n3⟩:=q3
   obtain ⟨m',hm,w3⟩:=hN σ3 H3 n3
   exact ⟨m',hm,σ3,H3,I3,w3⟩
  | cont=>
   obtain ⟨σ3,H3,I3,n3⟩:=q3
   obtain ⟨m',hm,w3⟩:=hN σ3 H3 n3
   exact ⟨m',hm,σ3,H3,I3,w3⟩
  | brk=>exact q3
  | ret v=>exact q3
 | false=>
  rw [if_neg Bool.false_ne_true]
  exact wpAny_execs_nil ⟨σ1,H2,I2,q2⟩
end
structure It where
 go:Nat->Hp->Prop
 mr:Nat->Hp->V->Hp->Prop
 stop:Nat->Hp->Prop
def ky (X:Cx) (pins:List (Addr×Obj)) (H:Hp) (b:Addr):Prop:=
 H b=none/\b≠X.env.locals/\b ∉ X.fs/\(b∈X.ex\/X.s₀.heap.objs.size<=b)/\(∀ x c,X.env.cells.lookup x=some c->c≠b)/\∀ p∈X.pn++pins,p.1≠b
theorem Inv.xg (I:Inv X pins σ H s) (hb:s.heap.objs.size<=b) (hn:H' b=none):ky X pins H' b:=by
 refine ⟨hn,Nat.ne_of_gt (Nat.lt_of_lt_of_le I.lt hb),I.Mw hb,.inr (Nat.le_trans I.sz hb),fun x c e z=>?_,fun p hp z=>?_⟩
 ·obtain ⟨v,q⟩:=I.cell x c e
  exact absurd (Nat.lt_of_lt_of_le q.lt (by rw [z];exact hb)) (Nat.lt_irrefl _)
 ·exact absurd (Nat.lt_of_lt_of_le (Qz (I.pin p hp).1) (by rw [z];exact hb)) (Nat.lt_irrefl _)
structure Turn (P:Program) (w:World) (K:QZ) (tg:Expr) (J:It) (fp:List Addr) (it:Addr) (tn:Nat->Heap->Prop):Prop where
 mem:it∈fp
 obj:∀ i h,tn i h->∀ b∈fp,∃ o,h.get? b=some o/\∀ v,o.data≠.cell v
 keep:∀ i h h',tn i h->(∀ b∈fp,∀ o,h.get? b=some o->h'.get? b=some o)->tn i h'
 item:∀ (X:Cx),X.prog=P->X.w=w->X.K=K->X.calm=true->∀ (i:Nat) (pins:List (Addr×Obj)) (s:Shared) (σ:St) (H:Hp) (E:Value->Shared->Prop),Inv X pins σ H s->(∀ b∈fp,ky X pins H b)->tn i s.heap->J.go i H->
  wpAny (model P w) X.A (pyNext (.ref it)) (fun r s1=>∃ u,r=some u/\
   wpAny (model P w) X.A (letOwnedTupleGo tg (.ref it) u) (fun _ s2=>∃ x H',Inv X pins σ H' s2/\RelV x u/\J.mr i H x H'/\tn (i+1) s2.heap/\∀ b∈fp,H' b=none) E s1) E s
 done:∀ (X:Cx),X.prog=P->X.w=w->X.K=K->X.calm=true->∀ (i:Nat) (pins:List (Addr×Obj)) (s:Shared) (σ:St) (H:Hp) (E:Value->Shared->Prop),Inv X pins σ H s->(∀ b∈fp,ky X pins H b)->tn i s.heap->J.stop i H->
  wpAny (model P w) X.A (pyNext (.ref it)) (fun r s1=>r=none/\Inv X pins σ H s1) E s
 self:∀ (A:Around) (i:Nat) (s:Shared) (Q:Value->Shared->Prop) (E:Value->Shared->Prop),tn i s.heap->Q (.ref it) s->wpAny (model P w) A (pyIter (.ref it)) Q E s
abbrev TI:=St->Hp->(It->Hp->Prop)->Prop
def Be (X:Cx) (pins:List (Addr×Obj)) (σ:St) (tg:Expr) (R:It->Hp->Prop) (mw:Value) (s2:Shared):Prop:=
 ∃ (it:Addr) (fp:List Addr) (tn:Nat->Heap->Prop) (J:It) (H':Hp),mw=.ref it/\Inv X pins σ H' s2/\Turn X.prog X.w X.K tg J fp it tn/\tn 0 s2.heap/\(∀ b∈fp,ky X pins H' b)/\R J H'
def PI (X:Cx) (tg iter:Expr) (wi:TI):Prop:=
 ∀ (pins:List (Addr×Obj)) (s:Shared) (σ:St) (H:Hp) (R:It->Hp->Prop),Inv X pins σ H s->wi σ H R->
  wpAny (model X.prog X.w) X.A (eval iter X.env) (fun v s1=>wpAny (model X.prog X.w) X.A (pyIter v) (Be X pins σ tg R) X.xe s1) X.xe s
theorem tN {M : Model} {A : Around} {E : Value -> Shared -> Prop} {s : Shared} {tg : Expr} {it : Addr} {u : Value} {o : Obj} {n : String} {vs : Array Value} {Q : Unit -> Shared -> Prop} (ho : s.heap.get? it = some o) (hc : o.cls = .type n) (hd : o.data = .fields vs)
    (hn : ["enumerate", "zip", "dict_itemiterator", "dict_reverseitemiterator", "odict_iterator", "itertools.zip_longest", "itertools.pairwise"].contains n = false) (hQ : Q () s) : wpAny M A (letOwnedTupleGo tg (.ref it) u) Q E s := by
  unfold letOwnedTupleGo
  cases tg <;> first
    | exact QT hQ
    | (cases u <;> first
        | exact QT hQ
        | (refine QS (wpAny_load ho ?_)
           rw [hc, hd]
           show wpAny M A (if (["enumerate", "zip", "dict_itemiterator", "dict_reverseitemiterator", "odict_iterator", "itertools.zip_longest", "itertools.pairwise"].contains n && vs[0]? == some (rawInt _)) = true then _ else _) Q E s
           rw [if_neg (by intro h; rw [hn, Bool.false_and] at h; cases h)]
           exact QT hQ))
def FA (K:QZ) (a:Addr):It:=
 ⟨fun i H=>∃ xs x,ai K H a xs/\xs[i]? =some x,fun i H x H'=>H'=H/\∀ xs,ai K H a xs->xs[i]? =some x,fun i H=>∃ xs,ai K H a xs/\xs.length<=i⟩
def FD (K:QZ) (a:Addr):It:=
 ⟨fun i H=>∃ xs x,ae K H a xs/\xs[i]? =some x,fun i H x H'=>H'=H/\∀ xs,ae K H a xs->xs[i]? =some x,fun i H=>∃ xs,ae K H a xs/\xs.length<=i⟩
def DP (lo:Int) (n:Nat):It:=⟨fun i _=>i < n,fun i H x H'=>H'=H/\x=.int (lo+i),fun i _=>n<=i⟩
theorem uV {K:QZ} (a it:Addr):Turn P w K tg (FA K a) [it] it (fun i h=>h.IsListIter it a i) where
 mem:=by simp
 obj:=fun i h st b hb=>by
  have e:b=it:=by simpa using hb
  subst e
  obtain ⟨o,e,c,d⟩:=st
  exact ⟨o,e,fun v z=>by rw [d] at z;cases z⟩
 keep:=fun i h h' st k=>st.at fun o e=>k it (by simp) o e
 item:=by
  intro X hP hw hK hc i pins s σ H E I hf st hg
  subst hP hw hK
  obtain ⟨xs,x,hq,hx⟩:=hg
  obtain ⟨its,rv,p,hz⟩:=I.list hq
  obtain ⟨u,hu,ru⟩:=rv.get hx
  obtain ⟨f0,f1,f2,f3,f4,f5⟩:=hf it (by simp)
  refine wpAny_pyNext_list_item st p.isList (x:=u) (by simpa using hu) fun h' st' sb=>?_
  have I1:Inv X pins σ H {s with heap:=h'}:=I.turned (t':=s.toks) (fun b o hb e=>(sb.2 b hb).trans e) f0 f1 f3 f4 f5
  obtain ⟨o,e,c,d⟩:=id st'
  exact ⟨u,rfl,tN (s:={s with heap:=h'}) e c d (by decide) ⟨x,H,I1,ru,⟨rfl,fun ys hy=>by rw [I.Cn hy hq];exact hx⟩,st',fun b hb=>(hf b hb).1⟩⟩
 done:=by
  intro X hP hw hK hc i pins s σ H E I hf st hg
  subst hP hw hK
  obtain ⟨xs,hq,hx⟩:=hg
  obtain ⟨its,rv,p,hz⟩:=I.list hq
  obtain ⟨f0,f1,f2,f3,f4,f5⟩:=hf it (by simp)
  have hl:=rv.length
  exact wpAny_pyNext_list_end (I.ok.hd hc) st p.isList (by simp;omega) fun h' eb=>⟨rfl,I.turned (t':=s.toks) (fun b o hb e=>eb b o hb e) f0 f1 f3 f4 f5⟩
 self:=fun _ _ _ _ _ st h=>wpAny_pyIter_listiter st h
theorem rL {K:QZ} (a it:Addr):Turn P w K tg (FD K a) [it] it (fun i h=>h.IsTupleIter it a i) where
 mem:=by simp
 obj:=fun i h st b hb=>by
  have e:b=it:=by simpa using hb
  subst e
  obtain ⟨o,e,c,d⟩:=st
  exact ⟨o,e,fun v z=>by rw [d] at z;cases z⟩
 keep:=fun i h h' st k=>st.at fun o e=>k it (by simp) o e
 item:=by
  intro X hP hw hK hc i pins s σ H E I hf st hg
  subst hP hw hK
  obtain ⟨xs,x,hq,hx⟩:=hg
  obtain ⟨its,rv,p,hz⟩:=I.tuple hq
  obtain ⟨u,hu,ru⟩:=rv.get hx
  obtain ⟨f0,f1,f2,f3,f4,f5⟩:=hf it (by simp)
  refine wpAny_pyNext_tuple_item st (show s.heap.IsTuple a its.toArray from p) (x:=u) (by simpa using hu) fun h' st' sb=>?_
  have I1:Inv X pins σ H {s with heap:=h'}:=I.turned (t':=s.toks) (fun b o hb e=>(sb.2 b hb).trans e) f0 f1 f3 f4 f5
  obtain ⟨o,e,c,d⟩:=id st'
  exact ⟨u,rfl,tN (s:={s with heap:=h'}) e c d (by decide) ⟨x,H,I1,ru,⟨rfl,fun ys hy=>by rw [I.Fx hy hq];exact hx⟩,st',fun b hb=>(hf b hb).1⟩⟩
 done:=by
  intro X hP hw hK hc i pins s σ H E I hf st hg
  subst hP hw hK
  obtain ⟨xs,hq,hx⟩:=hg
  obtain ⟨its,rv,p,hz⟩:=I.tuple hq
  obtain ⟨f0,f1,f2,f3,f4,f5⟩:=hf it (by simp)
  have hl:=rv.length
  exact wpAny_pyNext_tuple_end (I.ok.hd hc) st (show s.heap.IsTuple a its.toArray from p) (by simp;omega) fun h' eb=>⟨rfl,I.turned (t':=s.toks) (fun b o hb e=>eb b o hb e) f0 f1 f3 f4 f5⟩
 self:=fun _ _ _ _ _ st h=>wpAny_pyIter_tupleiter st h
theorem rO {K:QZ} (it:Addr) (lo:Int) (n:Nat):Turn P w K tg (DP lo n) [it] it (fun i h=>IsRangeIter h it (lo+(i:Nat)*1) ((n:Int) - (i:Nat)) 1) where
 mem:=by simp
 obj:=fun i h st b hb=>by
  have e:b=it:=by simpa using hb
  subst e
  exact ⟨_,st,fun v z=>by
   have z':Data.fields _=Data.cell v:=z
   cases z'⟩
 keep:=fun i h h' st k=>k it (by simp) _ st
 item:=by
  intro X hP hw hK hc i pins s σ H E I hf st hg
  subst hP hw hK
  obtain ⟨f0,f1,f2,f3,f4,f5⟩:=hf it (by simp)
  have W:=Walks.range (prog:=X.prog) (w:=X.w) (I.ok.hd hc) it lo 1 n
  refine W.item i s _ _ hg st fun v h' tk hv st' kk=>?_
  obtain ⟨t,rfl⟩:=hv
  have I1:Inv X pins σ H {s with heap:=h',toks:=tk}:=I.turned (fun b o hb e=>kk b o (by simpa using hb) e) f0 f1 f3 f4 f5
  refine ⟨_,rfl,tN (s:={s with heap:=h',toks:=tk}) (n:="range_iterator") st' rfl rfl (by decide) ⟨.int (lo+i),H,I1,⟨t,?_⟩,⟨rfl,rfl⟩,st',fun b hb=>(hf b hb).1⟩⟩
  rw [Int.mul_one]
 done:=by
  intro X hP hw hK hc i pins s σ H E I hf st hg
  subst hP hw hK
  obtain ⟨f0,f1,f2,f3,f4,f5⟩:=hf it (by simp)
  exact wpAny_pyNext_range_end (I.ok.hd hc) st (by have:n<=i:=hg;omega) fun h' eb=>⟨rfl,I.turned (t':=s.toks) (fun b o hb e=>eb b o hb e) f0 f1 f3 f4 f5⟩
 self:=fun _ _ _ _ _ st h=>wpAny_pyIter_rangeiter st h
theorem wC {R:It->Hp->Prop} {lo hi:Int} {t u v:Tok} {tk:Nat} (I:Inv X pins σ H s) (h1: -(2^62)<=lo) (h2:lo < 2^62) (h3: -(2^62)<=hi) (h4:hi < 2^62)
  (q:R (DP lo (hi - lo).toNat) H):wpAny (model X.prog X.w) X.A (pyIter (.ref s.heap.objs.size)) (Be X pins σ tg R) E {s with heap:=s.heap.push {cls:=.type "range",data:=.fields #[.int lo t,.int hi u,.int 1 v]},toks:=tk}:=by
 refine wpAny_pyIter_range (IsRange.new ..) (small_one h1 h2 h3 h4) ?_
 have I1:Inv X pins σ H {s with heap:=s.heap.push {cls:=.type "range",data:=.fields #[.int lo t,.int hi u,.int 1 v]},toks:=tk}:=I.kept fun b o e=>Qc _ e
 refine ⟨(s.heap.push {cls:=.type "range",data:=.fields #[.int lo t,.int hi u,.int 1 v]}).objs.size,[(s.heap.push {cls:=.type "range",data:=.fields #[.int lo t,.int hi u,.int 1 v]}).objs.size],_,_,H,rfl,
  I1.kept (t':=tk) fun b o e=>Qc _ e,rO _ lo (hi - lo).toNat,?_,fun b hb=>?_,q⟩
 ·have e1:lo+((0:Nat):Int)*1=lo:=by simp
  have e2:(((hi - lo).toNat:Nat):Int) - ((0:Nat):Int)=Builtin.Range.rangeSize lo hi 1:=by rw [rangeSize_one];split<;>omega
  show IsRangeIter _ _ (lo+((0:Nat):Int)*1) ((((hi - lo).toNat:Nat):Int) - ((0:Nat):Int)) 1
  rw [e1,e2]
  exact Qd _ rfl
 ·have e:b=(s.heap.push {cls:=.type "range",data:=.fields #[.int lo t,.int hi u,.int 1 v]}).objs.size:=by simpa using hb
  subst e
  exact I1.xg (Qy _) (I1.hok.fresh (Qy _))
def IK (ta:TA):TI:=fun σ H R=>ta σ H fun vs H1=>∃ j:Int,vs=[.int j]/\ -(2^62)<=j/\j < 2^62/\R (DP 0 j.toNat) H1
theorem uD {a:Expr} {p pos:Pos} (hg:Gl X "range") (hm:X.mg "range"=none) (ha:PA X [a] ta) (hs:starEach [a] X.env=[(false,eval a X.env)]:=by rfl):PI X tg (.Call (.Name "range" p) [a] [] pos) (IK ta):=by
 intro pins s σ H R I h
 refine Call_ (jE I hg hm boot_range (PyProof.Rows.callWith_type1 (aq (ha pos pins s σ H _ I h) fun us s1 ⟨vs,H1,I1,r1,q1⟩=>?_) hs rfl))
 obtain ⟨j,e,q1,q2,q⟩:=q1
 subst e
 cases r1 with
 | cons r rr=>
  cases rr
  obtain ⟨t,rfl⟩:=r
  exact call_range_1 (wC I1 (by omega) (by omega) q1 q2 (by simpa using q))
def IL (wi:TI) (g:TG) (tb:TS):TS:=fun D σ H=>wi σ H fun J H1=>∃ W:Nat->Nat->St->Hp->Prop,(∃ m,W 0 m σ H1)/\∀ i m σ H,W i m σ H->
 (J.stop i H/\D.nx σ H)\/(J.go i H/\∃ N:St->Hp->Prop,(∀ σ' H',N σ' H'->∃ m',m' < m/\W (i+1) m' σ' H')/\∀ x H',J.mr i H x H'->g x σ H' fun σ2 H2=>tb {D with nx:=N,ct:=N,bk:=D.nx} σ2 H2)
def Cq (fp:List Addr) (h:Heap):List (Addr×Obj):=fp.filterMap fun b=>(h.get? b).map fun o=>(b,o)
theorem eU {o:Obj} (hb:b∈fp) (e:h.get? b=some o):(b,o)∈Cq fp h:=List.mem_filterMap.mpr ⟨b,hb,by rw [e];rfl⟩
theorem u5 {p:Addr×Obj} (hp:p∈Cq fp h):p.1∈fp/\h.get? p.1=some p.2:=by
 obtain ⟨b,hb,e⟩:=List.mem_filterMap.mp hp
 cases q:h.get? b with
 | none=>rw [q] at e;cases e
 | some o=>
  rw [q] at e
  have e':(b,o)=p:=QD e
  subst e'
  exact ⟨hb,q⟩
theorem Inv.pinned (I:Inv X pins σ H s) (hf:∀ b∈fp,ky X pins H b) (ho:∀ b∈fp,∃ o,s.heap.get? b=some o/\∀ v,o.data≠.cell v):Inv X (pins++Cq fp s.heap) σ H s:=
 I.Ip fun p hp=>(List.mem_append.mp hp).elim (fun z=>I.pin p (List.mem_append_right _ z)) fun z=>by
  obtain ⟨hb,e⟩:=u5 z
  obtain ⟨f0,f1,f2,_⟩:=hf p.1 hb
  obtain ⟨o,e',d⟩:=ho p.1 hb
  rw [e] at e';cases e'
  exact ⟨e,f0,f1,f2,d⟩
theorem Inv.DQ {pl:List (Addr×Obj)} (I:Inv X (pins++pl) σ H s):Inv X pins σ H s:=I.Ip fun p hp=>I.pin p (List.mem_append_right _ (List.mem_append_left _ hp))
theorem MS {iter:Expr} {wi:TI} {g:TG} {tb:TS} {pos:Pos} (hp:PassesOwn (model X.prog X.w) X.A X.env X.xe) (hc:X.calm=true) (hi:PI X tg iter wi) (hg:PG X tg g) (hb:jw X body tb)
  (hs:∀ x,foldedSetIterable iter X.env x=pure x:=by intro _;rfl):PS X (.For tg iter body [] pos) (IL wi g tb):=by
 intro pins s σ H D I h
 refine wpAny_For (aq (hi pins s σ H _ I h) fun v s1 h1=>aq h1 fun mw s2 h2=>?_) hs
 obtain ⟨it,fp,tn,J,H2,e,I2,T,DR,f2,W,⟨m0,w0⟩,turn⟩:=h2
 subst e
 -- Bf stays true of IM Vg objects through IM loop
 have Ab:∀ {H':Hp},(∀ b∈fp,H' b=none)->∀ b∈fp,ky X pins H' b:=fun hn b hb=>⟨hn b hb,(f2 b hb).2⟩
 refine codeAny_forLoop_any (fun n s'=>∃ i σ' H',Inv X pins σ' H' s'/\tn i s'.heap/\(∀ b∈fp,H' b=none)/\W i n σ' H') ?_ m0 ⟨0,σ,H2,I2,DR,fun b hb=>(f2 b hb).1,w0⟩
 rintro n s3 ⟨i,σ3,H3,I3,Cr,Cs,w3⟩
 rcases turn i n σ3 H3 w3 with ⟨stop,qn⟩ | ⟨go,N,hN,step⟩
 ·refine wpAny_passesOwn hp (aq (T.done X rfl rfl rfl hc i pins s3 σ3 H3 X.xe I3 (Ab Cs) Cr stop) ?_)
  rintro r s4 ⟨hr,I4⟩
  subst hr
  exact wpAny_execs_nil ⟨σ3,H3,I4,qn⟩
 ·refine wpAny_passesOwn hp (aq (T.item X rfl rfl rfl hc i pins s3 σ3 H3 X.xe I3 (Ab Cs) Cr go) ?_)
  rintro r s4 ⟨u,hr,h4⟩
  subst hr
  refine wpAny_passesOwn hp (aq h4 ?_)
  rintro _ s5 ⟨x,H5,I5,r5,y5,Ac,FE⟩
  have FF:=I5.pinned (Ab FE) (T.obj _ _ Ac)
  refine wpAny_passesOwn hp (aq (hg _ s5 σ3 H5 x u _ FF r5 (step x H5 y5)) ?_)
  rintro _ s6 ⟨σ6,H6,I6,q6⟩
  refine wpAny_passesOwn hp (aq (hb _ s6 σ6 H6 _ I6 q6) fun f s7 q7=>?_)
  have again:∀ {σ7:St} {H7:Hp},Inv X (pins++Cq fp s5.heap) σ7 H7 s7->N σ7 H7->∃ m,m < n/\∃ i σ' H',Inv X pins σ' H' s7/\tn i s7.heap/\(∀ b∈fp,H' b=none)/\W i m σ' H':=fun {σ7 H7} I7 n7=>by
   obtain ⟨m',hm,w7⟩:=hN σ7 H7 n7
   refine ⟨m',hm,i+1,σ7,H7,I7.DQ,T.keep _ _ _ Ac fun b hb o e=>(I7.pin (b,o) (List.mem_append_right _ (List.mem_append_right _ (eU hb e)))).1,fun b hb=>?_,w7⟩
   obtain ⟨o,e,d⟩:=T.obj _ _ Ac b hb
   exact (I7.pin (b,o) (List.mem_append_right _ (List.mem_append_right _ (eU hb e)))).2.1
  cases f with
  | next=>obtain ⟨σ7,H7,I7,n7⟩:=q7;exact again I7 n7
  | cont=>obtain ⟨σ7,H7,I7,n7⟩:=q7;exact again I7 n7
  | brk=>obtain ⟨σ7,H7,I7,q7⟩:=q7;exact ⟨σ7,H7,I7.DQ,q7⟩
  | ret v=>obtain ⟨x7,σ7,H7,I7,r7,q7⟩:=q7;exact ⟨x7,σ7,H7,I7.DQ,r7,q7⟩
abbrev R2:=V->V->Hp->VK->Prop
def br (X:Cx) (f:Value->Value->Sem Value) (r:R2):Prop:=
 ∀ (pins:List (Addr×Obj)) (s:Shared) (σ:St) (H:Hp) (x y:V) (v u:Value) (Q:VK),Inv X pins σ H s->RelV x v->RelV y u->r x y H Q->
  wpAny (model X.prog X.w) X.A (f v u) (EP X pins σ Q) X.xe s
def DS (X:Cx) (f:Value->Sem Value) (r:V->Hp->VK->Prop):Prop:=
 ∀ (pins:List (Addr×Obj)) (s:Shared) (σ:St) (H:Hp) (x:V) (v:Value) (Q:VK),Inv X pins σ H s->RelV x v->r x H Q->
  wpAny (model X.prog X.w) X.A (f v) (EP X pins σ Q) X.xe s
def jx (X:Cx) (f:Value) (r:List V->Hp->VK->Prop):Prop:=
 ∀ (pins:List (Addr×Obj)) (s:Shared) (σ:St) (H:Hp) (xs:List V) (us:List Value) (Q:VK),Inv X pins σ H s->au xs us->r xs H Q->
  wpAny (model X.prog X.w) X.A (call f us) (EP X pins σ Q) X.xe s
def MT (X:Cx) (r:V->Hp->(Bool->Hp->Prop)->Prop):Prop:=
 ∀ (pins:List (Addr×Obj)) (s:Shared) (σ:St) (H:Hp) (x:V) (v:Value) (Q:Bool->Hp->Prop),Inv X pins σ H s->RelV x v->r x H Q->
  wpAny (model X.prog X.w) X.A (truthy v) (TP X pins σ Q) X.xe s
def Bg (r:R2) (ta tb:TE):TE:=fun σ H Q=>ta σ H fun x H1=>tb σ H1 fun y H2=>r x y H2 Q
def IP (r:V->Hp->VK->Prop) (ta:TE):TE:=fun σ H Q=>ta σ H fun x H1=>r x H1 Q
def rI (C:Int->Int->Prop) (g:Int->Int->V):R2:=fun x y H Q=>∃ i j,x=.int i/\y=.int j/\C i j/\Q (g i j) H
def yn (g:Int->Int->V):R2:=fun x y H Q=>∃ i j,x=.int i/\y=.int j/\Q (g i j) H
def rU (g:Int->V):V->Hp->VK->Prop:=fun x H Q=>∃ i,x=.int i/\Q (g i) H
section
variable {a b c:Expr} {ta tb tc:TE} {pos:Pos}
theorem IQ (ha:PE X a ta) (hb:PE X b tb) {R:V->V->Hp->Prop} (I:Inv X pins σ H s)
  (h:ta σ H fun x H1=>tb σ H1 fun y H2=>R x y H2) {Q:Value->Shared->Prop} {f:Value->Value->Sem Value}
  (hf:∀ v u s2 x y H2,Inv X pins σ H2 s2->RelV x v->RelV y u->R x y H2->wpAny (model X.prog X.w) X.A (f v u) Q X.xe s2):
  wpAny (model X.prog X.w) X.A (eval a X.env) (fun v s₁=>wpAny (model X.prog X.w) X.A (eval b X.env) (fun u s₂=>wpAny (model X.prog X.w) X.A (f v u) Q X.xe s₂) X.xe s₁) X.xe s:=by
 refine aq (ha pins s σ H _ I h) ?_
 rintro v s1 ⟨x,H1,I1,r1,q1⟩
 refine aq (hb pins s1 σ H1 _ I1 q1) ?_
 rintro u s2 ⟨y,H2,I2,r2,q2⟩
 exact hf v u s2 x y H2 I2 r1 r2 q2
theorem MU {op:Operator} {r:R2} (ho:br X (binaryOp op) r) (ha:PE X a ta) (hb:PE X b tb):PE X (.BinOp a op b pos) (Bg r ta tb):=by
 intro pins s σ H Q I h
 exact wpAny_BinOp (IQ ha hb I h fun v u s2 x y H2 I2 rx ry q=>ho pins s2 σ H2 x y v u Q I2 rx ry q)
theorem MV {op:UnaryOp} {r:V->Hp->VK->Prop} (ho:DS X (unaryOp op) r) (ha:PE X a ta):PE X (.UnaryOp op a pos) (IP r ta):=by
 intro pins s σ H Q I h
 exact UnaryOp_ (aq (ha pins s σ H _ I h) fun v s1 ⟨x,H1,I1,r1,q1⟩=>ho pins s1 σ H1 x v Q I1 r1 q1)
theorem DT {f:Value->Value->Sem Value} {C:Int->Int->Prop} {g:Int->Int->Int}
  (rule:∀ (i j:Int) (t u:Tok) (s:Shared) (Q:Value->Shared->Prop) (E:Value->Shared->Prop),C i j->Q (.int (g i j) s.toks) {s with toks:=s.toks+1}->wpAny (model X.prog X.w) X.A (f (.int i t) (.int j u)) Q E s):
  br X f (rI C fun i j=>.int (g i j)):=by
 intro pins s σ H x y v u Q I rx ry h
 obtain ⟨i,j,rfl,rfl,hc,q⟩:=h
 obtain ⟨t,rfl⟩:=rx
 obtain ⟨t',rfl⟩:=ry
 exact rule i j t t' s _ _ hc ⟨.int (g i j),H,I.tok _,⟨_,rfl⟩,q⟩
theorem IR {f:Value->Value->Sem Value} {g:Int->Int->Int}
  (rule:∀ (i j:Int) (t u:Tok) (s:Shared) (Q:Value->Shared->Prop) (E:Value->Shared->Prop),Q (.int (g i j) s.toks) {s with toks:=s.toks+1}->wpAny (model X.prog X.w) X.A (f (.int i t) (.int j u)) Q E s):
  br X f (yn fun i j=>.int (g i j)):=by
 intro pins s σ H x y v u Q I rx ry h
 obtain ⟨i,j,rfl,rfl,q⟩:=h
 obtain ⟨t,rfl⟩:=rx
 obtain ⟨t',rfl⟩:=ry
 exact rule i j t t' s _ _ ⟨.int (g i j),H,I.tok _,⟨_,rfl⟩,q⟩
theorem DU {f:Value->Value->Sem Value} {g:Int->Int->Bool}
  (rule:∀ (i j:Int) (t u:Tok) (s:Shared) (Q:Value->Shared->Prop) (E:Value->Shared->Prop),Q (.bool (g i j)) s->wpAny (model X.prog X.w) X.A (f (.int i t) (.int j u)) Q E s):
  br X f (yn fun i j=>.bl (g i j)):=by
 intro pins s σ H x y v u Q I rx ry h
 obtain ⟨i,j,rfl,rfl,q⟩:=h
 obtain ⟨t,rfl⟩:=rx
 obtain ⟨t',rfl⟩:=ry
 exact rule i j t t' s _ _ ⟨.bl (g i j),H,I,rfl,q⟩
def MX (i j:Int):Prop:=0 < j/\j < 1073741824
def IS (i j:Int):Prop:=0<=j/\j<=1000000/\i.natAbs < 2^64
def DV (i j:Int):Prop:=(-(2^64) < i/\i < 2^64)\/(-(2^64) < j/\j < 2^64)
theorem DV.ok {i j:Int} (h:DV i j):IntMulOk i j:=by
 rcases h with ⟨h1,h2⟩ | ⟨h1,h2⟩
 ·exact .of_left (intBits_le_64 h1 h2)
 ·exact .of_right (intBits_le_64 h1 h2)
theorem MY:br X (binaryOp .Add) (yn fun i j=>.int (i+j)):=IR fun _ _ _ _ _ _ _ q=>add_int q
theorem MZ:br X (binaryOp .Sub) (yn fun i j=>.int (i - j)):=IR fun _ _ _ _ _ _ _ q=>sub_int q
theorem M0:br X (binaryOp .Mult) (rI DV fun i j=>.int (i*j)):=DT fun _ _ _ _ _ _ _ hc q=>mul_int q hc.ok
theorem yU:br X (binaryOp .FloorDiv) (rI MX fun i j=>.int (i / j)):=DT fun i j _ _ _ _ _ hc q=>by
 have h1:(0:Int) < j:=hc.1
 have h2:j < 1073741824:=hc.2
 exact floordiv_int (by omega) (by rw [Int.fdiv_eq_ediv_of_nonneg i (by omega)];exact q) (.inl (PyProof.noPylong_small (by omega)))
theorem M2:br X (binaryOp .Mod) (rI (fun _ j=>0 < j) fun i j=>.int (i % j)):=DT fun i j _ _ _ _ _ hc q=>by
 have h1:(0:Int) < j:=hc
 exact mod_int' (by omega) (by rw [Int.fmod_eq_emod_of_nonneg i (by omega)];exact q)
theorem zV:br X (binaryOp .Pow) (rI IS fun i j=>.int (i^j.toNat)):=DT fun _ _ _ _ _ _ _ hc q=>pow_int_small hc.1 hc.2.1 hc.2.2 q
theorem M3 {f:Value->Sem Value} {g:Int->Int}
  (rule:∀ (i:Int) (t:Tok) (s:Shared) (Q:Value->Shared->Prop) (E:Value->Shared->Prop),Q (.int (g i) s.toks) {s with toks:=s.toks+1}->wpAny (model X.prog X.w) X.A (f (.int i t)) Q E s):
  DS X f (rU fun i=>.int (g i)):=by
 intro pins s σ H x v Q I rx h
 obtain ⟨i,rfl,q⟩:=h
 obtain ⟨t,rfl⟩:=rx
 exact rule i t s _ _ ⟨.int (g i),H,I.tok _,⟨_,rfl⟩,q⟩
theorem rR:DS X (unaryOp .USub) (rU fun i=>.int (-i)):=M3 fun _ _ _ _ _ q=>neg_int q
end
def Bh:V->V->Bool
 | .af,.af=>true | .af,.int _=>true | .int _,.af=>true | .af,.bl _=>true | .bl _,.af=>true | .af,.str _=>true | .str _,.af=>true
 | .int _,.int _=>true | .bl _,.bl _=>true | .str _,.str _=>true | .kr _,.kr _=>true
 | .int _,.str _=>true | .str _,.int _=>true | .bl _,.str _=>true | .str _,.bl _=>true
 | _,_=>false
def M4:R2:=fun x y H Q=>Bh x y=true/\Q (.bl (decide (x=y))) H
def M5:R2:=fun x y H Q=>Bh x y=true/\Q (.bl (!decide (x=y))) H
theorem tO {i j:Int}:decide (V.int i=V.int j)=(i==j):=by
 rw [Bool.eq_iff_iff]
 simp
theorem x3 {i j:Bool}:decide (V.bl i=V.bl j)=(i==j):=by
 rw [Bool.eq_iff_iff]
 simp
theorem tG {i j:Str}:decide (V.str i=V.str j)=(i==j):=by
 rw [Bool.eq_iff_iff]
 simp
theorem tF {i j:Array UInt8}:decide (V.kr i=V.kr j)=(i.toList==j.toList):=by
 rw [Bool.eq_iff_iff]
 cases i
 cases j
 simp
section
variable {a b c:Expr} {ta tb tc:TE} {pos:Pos}
theorem bE {Q:VK} {k k':Bool} (I:Inv X pins σ H s) (q:Q (.bl k) H) (e:k=k'):EP X pins σ Q (.bool k') s:=by
 subst e
 exact ⟨.bl k,H,I,rfl,q⟩
theorem M6:br X (compareOp .Eq) M4:=by
 intro pins s σ H x y v u Q I rx ry h
 obtain ⟨hs,q⟩:=h
 cases x with
 | af=>
  cases rx
  cases y with
  | af=>cases ry;exact PySem.EqNone.eq_none_none (bE I q (by simp))
  | bl j=>cases ry;exact PySem.EqNone.eq_none_bool (bE I q (by simp))
  | int j=>obtain ⟨t',rfl⟩:=ry;exact PySem.EqNone.eq_none_int (bE I q (by simp))
  | str j=>obtain ⟨t',rfl⟩:=ry;exact PySem.EqNone.eq_none_str (bE I q (by simp))
  | _=>exact absurd (show false=true from hs) Bool.false_ne_true
 | bl i=>
  cases rx
  cases y with
  | af=>cases ry;exact PySem.EqNone.eq_bool_none (bE I q (by simp))
  | bl j=>cases ry;exact eq_bool (bE I q x3)
  | str j=>obtain ⟨t',rfl⟩:=ry;exact PySem.EqMixed.eq_bool_str (bE I q (by simp))
  | _=>exact absurd (show false=true from hs) Bool.false_ne_true
 | int i=>
  obtain ⟨t,rfl⟩:=rx
  cases y with
  | af=>cases ry;exact PySem.EqNone.eq_int_none (bE I q (by simp))
  | int j=>obtain ⟨t',rfl⟩:=ry;exact eq_int (bE I q tO)
  | str j=>obtain ⟨t',rfl⟩:=ry;exact PySem.EqMixed.eq_int_str (bE I q (by simp))
  | _=>exact absurd (show false=true from hs) Bool.false_ne_true
 | str i=>
  obtain ⟨t,rfl⟩:=rx
  cases y with
  | af=>cases ry;exact PySem.EqNone.eq_str_none (bE I q (by simp))
  | bl j=>cases ry;exact PySem.EqMixed.eq_str_bool (bE I q (by simp))
  | int j=>obtain ⟨t',rfl⟩:=ry;exact PySem.EqMixed.eq_str_int (bE I q (by simp))
  | str j=>obtain ⟨t',rfl⟩:=ry;exact eq_str (bE I q tG)
  | _=>exact absurd (show false=true from hs) Bool.false_ne_true
 | kr i=>
  obtain ⟨t,rfl⟩:=rx
  cases y with
  | kr j=>obtain ⟨t',rfl⟩:=ry;exact PySem.W.eq_bytes (bE I q tF)
  | _=>exact absurd (show false=true from hs) Bool.false_ne_true
 | _=>cases y<;>exact absurd (show false=true from hs) Bool.false_ne_true
theorem M7:br X (compareOp .NotEq) M5:=by
 intro pins s σ H x y v u Q I rx ry h
 obtain ⟨hs,q⟩:=h
 cases x with
 | af=>
  cases rx
  cases y with
  | af=>cases ry;exact PySem.EqNone.ne_none_none (bE I q (by simp))
  | bl j=>cases ry;exact PySem.EqNone.ne_none_bool (bE I q (by simp))
  | int j=>obtain ⟨t',rfl⟩:=ry;exact PySem.EqNone.ne_none_int (bE I q (by simp))
  | str j=>obtain ⟨t',rfl⟩:=ry;exact PySem.EqNone.ne_none_str (bE I q (by simp))
  | _=>exact absurd (show false=true from hs) Bool.false_ne_true
 | bl i=>
  cases rx
  cases y with
  | af=>cases ry;exact PySem.EqNone.ne_bool_none (bE I q (by simp))
  | bl j=>cases ry;exact ne_bool (bE I q (congrArg not x3))
  | str j=>obtain ⟨t',rfl⟩:=ry;exact PySem.EqMixed.ne_bool_str (bE I q (by simp))
  | _=>exact absurd (show false=true from hs) Bool.false_ne_true
 | int i=>
  obtain ⟨t,rfl⟩:=rx
  cases y with
  | af=>cases ry;exact PySem.EqNone.ne_int_none (bE I q (by simp))
  | int j=>obtain ⟨t',rfl⟩:=ry;exact ne_int (bE I q (congrArg not tO))
  | str j=>obtain ⟨t',rfl⟩:=ry;exact PySem.EqMixed.ne_int_str (bE I q (by simp))
  | _=>exact absurd (show false=true from hs) Bool.false_ne_true
 | str i=>
  obtain ⟨t,rfl⟩:=rx
  cases y with
  | af=>cases ry;exact PySem.EqNone.ne_str_none (bE I q (by simp))
  | bl j=>cases ry;exact PySem.EqMixed.ne_str_bool (bE I q (by simp))
  | int j=>obtain ⟨t',rfl⟩:=ry;exact PySem.EqMixed.ne_str_int (bE I q (by simp))
  | str j=>obtain ⟨t',rfl⟩:=ry;exact ne_str (bE I q (congrArg not tG))
  | _=>exact absurd (show false=true from hs) Bool.false_ne_true
 | kr i=>
  obtain ⟨t,rfl⟩:=rx
  cases y with
  | kr j=>obtain ⟨t',rfl⟩:=ry;exact PySem.W.ne_bytes (bE I q (congrArg not tF))
  | _=>exact absurd (show false=true from hs) Bool.false_ne_true
 | _=>cases y<;>exact absurd (show false=true from hs) Bool.false_ne_true
theorem M8:br X (compareOp .Lt) (yn fun i j=>.bl (decide (i < j))):=DU fun _ _ _ _ _ _ _ q=>lt_int q
theorem M9:br X (compareOp .LtE) (yn fun i j=>.bl (decide (i<=j))):=DU fun _ _ _ _ _ _ _ q=>le_int q
theorem M_:br X (compareOp .Gt) (yn fun i j=>.bl (decide (j < i))):=DU fun _ _ _ _ _ _ _ q=>gt_int q
theorem Na:br X (compareOp .GtE) (yn fun i j=>.bl (decide (j<=i))):=DU fun _ _ _ _ _ _ _ q=>ge_int q
theorem tZ:br X (compareOp .Lt) (fun x y H Q=>∃ i j,x=.str i/\y=.str j/\Q (.bl (decide (i.cps.toList < j.cps.toList))) H):=by
 intro pins s σ H x y v u Q I rx ry h
 obtain ⟨i,j,rfl,rfl,q⟩:=h
 obtain ⟨t,rfl⟩:=rx
 obtain ⟨t',rfl⟩:=ry
 exact lt_str (bE I q rfl)
theorem tX:br X (compareOp .In) (fun x y H Q=>∃ i j,x=.str i/\y=.str j/\Q (.bl (!(Builtin.Str.occurrences j i 0 j.length 1).isEmpty)) H):=by
 intro pins s σ H x y v u Q I rx ry h
 obtain ⟨i,j,rfl,rfl,q⟩:=h
 obtain ⟨t,rfl⟩:=rx
 obtain ⟨t',rfl⟩:=ry
 exact in_str (bE I q rfl)
theorem zX:br X (compareOp .Is) (fun x y H Q=>y=.af/\Q (.bl (decide (x=.af))) H):=by
 intro pins s σ H x y v u Q I rx ry h
 obtain ⟨rfl,q⟩:=h
 cases ry
 refine is_none_gen (bE I q ?_)
 cases x<;>first
  | (cases rx;rfl)
  | (obtain ⟨t,rfl⟩:=rx;rfl)
theorem yA:br X (compareOp .IsNot) (fun x y H Q=>y=.af/\Q (.bl (!decide (x=.af))) H):=by
 intro pins s σ H x y v u Q I rx ry h
 obtain ⟨rfl,q⟩:=h
 cases ry
 refine isnot_none_gen (bE I q ?_)
 cases x<;>first
  | (cases rx;rfl)
  | (obtain ⟨t,rfl⟩:=rx;rfl)
theorem o5:br X (compareOp .NotIn) (fun x y H Q=>∃ i j,x=.str i/\y=.str j/\Q (.bl (!(!(Builtin.Str.occurrences j i 0 j.length 1).isEmpty))) H):=by
 intro pins s σ H x y v u Q I rx ry h
 obtain ⟨i,j,rfl,rfl,q⟩:=h
 obtain ⟨t,rfl⟩:=rx
 obtain ⟨t',rfl⟩:=ry
 exact notIn_str (bE I q rfl)
theorem bf (b:Expr) {op:CmpOp} (h:op≠.In:=by decide) (h2:op≠.NotIn:=by decide):behindInMarks op b=false:=by
 have e1:(op==CmpOp.In)=false:=by cases op<;>first | rfl | exact absurd rfl h
 have e2:(op==CmpOp.NotIn)=false:=by cases op<;>first | rfl | exact absurd rfl h2
 cases b<;>simp [behindInMarks,e1,e2]
def IT (t:TE):TT:=fun σ H Q=>t σ H fun x H'=>∃ k,x=.bl k/\Q k H'
theorem yF {op:CmpOp} {r:R2} (ho:br X (compareOp op) r) (ha:PE X a ta) (hb:PE X b tb) (hm:behindInMarks op b=false):PT X (.Compare a [op] [b] pos) (IT (Bg r ta tb)):=by
 intro pins s σ H Q I h
 refine wpAny_isTrue_Compare1 (aq (ha pins s σ H _ I h) fun v s1 ⟨x,H1,I1,r1,q1⟩=>aq (hb pins s1 σ H1 _ I1 q1) fun u s2 ⟨y,H2,I2,r2,q2⟩=>
  aq (ho pins s2 σ H2 x y v u _ I2 r1 r2 q2) fun c s3 ⟨z,H3,I3,r3,k,e,q3⟩=>?_) hm
 subst e
 cases r3
 exact wpAny_truthy_bool ⟨H3,I3,q3⟩
def FG (K:QZ) (x:V) (H:Hp) (k:Bool):Prop:=
 match x with
 | .af=>k=false
 | .bl b=>k=b
 | .int i=>k=(i !=0)
 | .str y=>y.length<=sizeLine/\k=((y.length:Int) !=0)
 | .kr y=>y.size<=sizeLine/\k=((y.size:Int) !=0)
 | .ref p=>(∃ xs,ai K H p xs/\k= !xs.isEmpty)\/(∃ xs,ae K H p xs/\k= !xs.isEmpty)\/∃ kvs,H p=some (.dK kvs)/\k= !kvs.isEmpty
 | _=>False
theorem rS {κ:Type} {kvs:List (κ×V)} {vs:List (κ×Value)} (r:KV kvs vs):(!vs.isEmpty)= !kvs.isEmpty:=by
 cases r<;>rfl
theorem l8 {xs:List V} {its:List Value} (r:au xs its):(!its.toArray.isEmpty)= !xs.isEmpty:=by
 cases r<;>simp
theorem Bj:(sizeLine:Nat) < 2^63:=by rw [QL];decide
theorem Nb:MT X (fun x H Q=>∃ k,FG X.K x H k/\Q k H):=by
 intro pins s σ H x v Q I rx h
 obtain ⟨k,e,q⟩:=h
 have hl:=Bj
 have hs:sizeLine=16777216:=QL
 cases x with
 | af=>
  cases rx
  have e':k=false:=e
  subst e'
  exact truthy_none ⟨H,I,q⟩
 | bl b=>
  cases rx
  have e':k=b:=e
  subst e'
  exact wpAny_truthy_bool ⟨H,I,q⟩
 | int i=>
  obtain ⟨t,rfl⟩:=rx
  have e':k=(i !=0):=e
  subst e'
  exact PySem.P.truthy_int ⟨H,I,q⟩
 | str y=>
  obtain ⟨t,rfl⟩:=rx
  obtain ⟨hy,e'⟩:y.length<=sizeLine/\k=((y.length:Int) !=0):=e
  subst e'
  exact PySem.P.truthy_str (by omega) ⟨H,I.tok _,q⟩
 | kr y=>
  obtain ⟨t,rfl⟩:=rx
  obtain ⟨hy,e'⟩:y.size<=sizeLine/\k=((y.size:Int) !=0):=e
  subst e'
  exact PySem.W.truthy_bytes (by omega) ⟨H,I.tok _,q⟩
 | ref p=>
  cases rx
  have e':(∃ xs,ai X.K H p xs/\k= !xs.isEmpty)\/(∃ xs,ae X.K H p xs/\k= !xs.isEmpty)\/∃ kvs,H p=some (.dK kvs)/\k= !kvs.isEmpty:=e
  rcases e' with ⟨xs,hx,e'⟩ | ⟨xs,hx,e'⟩ | ⟨kvs,hx,e'⟩
  ·subst e'
   obtain ⟨its,r,pl,hz⟩:=I.list hx
   have e_:=r.length
   exact wpAny_truthy_list pl.isList (by simp only [List.size_toArray];omega) ⟨H,I.tok _,by rw [l8 r];exact q⟩
  ·subst e'
   obtain ⟨its,r,pl,hz⟩:=I.tuple hx
   have e_:=r.length
   exact truthy_tuple pl (by simp only [List.size_toArray];omega) ⟨H,I.tok _,by rw [l8 r];exact q⟩
  ·subst e'
   obtain ⟨hz,hS,vs,r,m⟩:kvs.length<=sizeLine/\(p==sysModules)=false/\∃ vs,KV kvs vs/\s.heap.DictOf (fj X.prog X.w) p vs:=I.hok p _ hx
   have e_:kvs.length=vs.length:=Paired.length r
   exact wpAny_truthy_dict hS m (by omega) ⟨H,I.tok _,by rw [rS r];exact q⟩
 | _=>exact (show False from e).elim
theorem wV (ha:PE X a ta) (he:∀ whole,isTrue a X.env whole=(do let v <- whole;standAt a.pos;holding [v] (truthy v))):
  PT X a (fun σ H Q=>ta σ H fun x H'=>∃ k,FG X.K x H' k/\Q k H'):=by
 intro pins s σ H Q I h
 exact isTrue_plain (aq (ha pins s σ H _ I h) fun v s1 ⟨x,H1,I1,r1,q1⟩=>Nb pins s1 σ H1 x v Q I1 r1 q1) (he _)
theorem sQ:br X (binaryOp .Add) (fun x y H Q=>∃ i j,x=.str i/\y=.str j/\i.length+j.length<=sizeLine/\Q (.str (i++j)) H):=by
 intro pins s σ H x y v u Q I rx ry h
 obtain ⟨i,j,rfl,rfl,hz,q⟩:=h
 obtain ⟨t,rfl⟩:=rx
 obtain ⟨t',rfl⟩:=ry
 exact add_str (fun t' tk=>⟨.str (i++j),H,I.tok _,⟨_,rfl⟩,q⟩) hz
theorem vals1 {x:V} (r:au [x] us):∃ u,us=[u]/\RelV x u:=by
 cases r with
 | cons r1 r2=>cases r2;exact ⟨_,rfl,r1⟩
theorem vals2 {x y:V} (r:au [x,y] us):∃ u w',us=[u,w']/\RelV x u/\RelV y w':=by
 cases r with
 | cons r1 r2=>
  cases r2 with
  | cons r3 r4=>cases r4;exact ⟨_,_,rfl,r1,r3⟩
theorem u4 (hc:X.calm=true):jx X (.builtin "max") (fun xs H Q=>∃ i j,xs=[.int i,.int j]/\Q (.int (if j > i then j else i)) H):=by
 intro pins s σ H xs us Q I r h
 obtain ⟨i,j,rfl,q⟩:=h
 obtain ⟨u,w',rfl,⟨t,rfl⟩,⟨t',rfl⟩⟩:=vals2 r
 refine max_two_ints (I.ok.hd hc) fun h' tk k=>⟨_,H,I.kept k,?_,q⟩
 by_cases hj:j > i
 ·rw [if_pos hj,if_pos hj];exact ⟨_,rfl⟩
 ·rw [if_neg hj,if_neg hj];exact ⟨_,rfl⟩
def Nc (K:QZ) (x:V) (H:Hp) (n:Nat):Prop:=
 match x with
 | .str y=>y.length<=sizeLine/\n=y.length
 | .kr y=>y.size<=sizeLine/\n=y.size
 | .ref p=>(∃ xs,ai K H p xs/\n=xs.length)\/∃ xs,ae K H p xs/\n=xs.length
 | _=>False
theorem lB:jx X (.builtin "len") (fun xs H Q=>∃ x n,xs=[x]/\Nc X.K x H n/\Q (.int n) H):=by
 intro pins s σ H xs us Q I r h
 obtain ⟨x,n,rfl,e,q⟩:=h
 obtain ⟨u,rfl,rx⟩:=vals1 r
 have hl:=Bj
 have hs:sizeLine=16777216:=QL
 cases x with
 | str y=>
  obtain ⟨t,rfl⟩:=rx
  obtain ⟨hy,e'⟩:y.length<=sizeLine/\n=y.length:=e
  subst e'
  exact len_str (by omega) ⟨.int _,H,I.tok _,⟨_,rfl⟩,q⟩
 | kr y=>
  obtain ⟨t,rfl⟩:=rx
  obtain ⟨hy,e'⟩:y.size<=sizeLine/\n=y.size:=e
  subst e'
  exact PySem.W.len_bytes (by omega) ⟨.int _,H,I.tok _,⟨_,rfl⟩,q⟩
 | ref p=>
  cases rx
  have e':(∃ xs,ai X.K H p xs/\n=xs.length)\/∃ xs,ae X.K H p xs/\n=xs.length:=e
  rcases e' with ⟨xs,hx,e'⟩ | ⟨xs,hx,e'⟩
  ·subst e'
   obtain ⟨its,r',pl,hz⟩:=I.list hx
   have e_:=r'.length
   exact Calls.call_len_list pl.isList (by simp only [List.size_toArray];omega) ⟨.int xs.length,H,I.tok _,⟨_,by simp only [List.size_toArray];rw [e_]⟩,q⟩
  ·subst e'
   obtain ⟨its,r',pl,hz⟩:=I.tuple hx
   have e_:=r'.length
   exact len_tuple pl (by simp only [List.size_toArray];omega) ⟨.int xs.length,H,I.tok _,⟨_,by simp only [List.size_toArray];rw [e_]⟩,q⟩
 | _=>exact (show False from e).elim
end
section
variable {K:QZ} {x dx f:Addr} {mA:Str->Option Value} {v:Value}
end
theorem mi.some_of {v:V} {o:Option Value} (r:mi (some v) o):∃ u,o=some u/\RelV v u:=by
 cases o with
 | none=>exact (show False from r).elim
 | some u=>exact ⟨u,rfl,r⟩
section
variable {dx:Addr} {fs Mu:List (Str×V)}
end
def IU (K:QZ) (C:Addr) (f:Str):Prop:=PySem.W.findIn K (.ref C) f=some none
section
variable {dx:Addr} {fs:List (Str×V)} {f:Str} {v:V}
end
section
variable {o value:Expr} {f:Str} {pos ve:Pos} {ta tv:TE}
end
section
variable {c:Value} {b:Bool}
end
structure cy (k:Nat) (A:Around):Prop where
 hd:A.handled=none
 dp:A.depth+3*k+5 < recursionLimit
 un:A.units+16*k+200 < cLine
 gd:A.guards=some []
theorem cy.mono {k:Nat} (r:cy k A) (h:j<=k):cy j A:=⟨r.hd,by have:=r.dp;omega,by have:=r.un;omega,r.gd⟩
theorem cy.deeper {k:Nat} {A:Around} (r:cy (k+1) A) (env:Env):cy k (A.deeper env):=
 ⟨r.hd,by have:=r.dp;show A.depth+1+3*k+5 < _;omega,by have:=r.un;show A.units+3+16*k+200 < _;omega,r.gd⟩
theorem qX:(A.under (.builtin "type.__call__" ⟨.ref C::us,kw⟩)).depth=A.depth+1:=by
 first | rfl | simp [Around.under,Code.weight,Code.isCreation,Code.isGuard,Code.isCaller,Code.frames,Code.isFrame,guardIds]
theorem rE:(A.under (.builtin "type.__call__" ⟨.ref C::us,kw⟩)).units=A.units+1:=by
 first | rfl | simp [Around.under,Code.cUnits,Code.frames,Code.isFrame]
theorem pQ (h:A.guards=some []):(A.under (.builtin "type.__call__" ⟨.ref C::us,kw⟩)).guards=some []:=by
 first | exact h | (simp [Around.under,pushGuards,Code.guards,Code.isGuard,guardIds,h])
theorem cy.make {k:Nat} (r:cy (k+1) A) (C:Addr) (us:List Value) (kw:List (Str×Value)):cy k (A.under (.builtin "type.__call__" ⟨.ref C::us,kw⟩)):=
 ⟨r.hd,by have:=r.dp;rw [qX];omega,by have:=r.un;rw [rE];omega,pQ r.gd⟩
theorem cy.depth {k:Nat} {A:Around} (r:cy k A):A.depth < recursionLimit:=by have:=r.dp;omega
theorem cy.units {k:Nat} {A:Around} (r:cy k A):A.units+64 < cLine:=by have:=r.un;omega
def Ct:TA:=fun _ H Q=>Q [] H
def p_ (ta:TE) (tr:TA):TA:=fun σ H Q=>ta σ H fun x H1=>tr σ H1 fun xs H2=>Q (x::xs) H2
section
variable {pos:Pos}
theorem Nd:PA X [] Ct:=fun _ _ _ _ H Q I h=>Calls.spliced_nil ⟨[],H,I,.nil,h⟩
theorem d5 (ha:PE X e te) (hr:PA X es t) (hs:starEach (e::es) X.env=(false,eval e X.env)::starEach es X.env:=by rfl):PA X (e::es) (p_ te t):=by
 intro pos pins s σ H Q I h
 rw [hs]
 show wpAny _ _ (spliced ((false,eval e X.env)::backTo pos (starEach es X.env))) _ _ s
 refine Calls.spliced_cons (aq (ha pins s σ H _ I h) ?_)
 rintro u s1 ⟨x,H1,I1,r1,q1⟩
 exact aq (hr pos pins s1 σ H1 _ I1 q1) fun us s2 ⟨xs,H2,I2,r2,q2⟩=>⟨x::xs,H2,I2,.cons r1 r2,q2⟩
def IV (t:TA):TE:=fun σ H Q=>t σ H fun xs H1=>xs.length<=sizeLine/\∀ p,H1 p=none->Q (.ref p) (upd H1 p (.tup xs))
def IW (t:TA):TE:=fun σ H Q=>t σ H fun xs H1=>xs.length<=sizeLine/\∀ p,H1 p=none->Q (.ref p) (upd H1 p (.lst xs))
theorem Nf {x1} (h:PA X es t):PE X (.Tuple es x1 pos) (IV t):=by
 intro pins s σ H Q I hq
 refine wpAny_Tuple_spliced (aq (h pos pins s σ H _ I hq) fun us s1 ⟨xs,H1,I1,r,z,q⟩=>⟨by rw [<- r.length];exact z,?_⟩)
 have hf:H1 s1.heap.objs.size=none:=I1.hok.fresh (Qy _)
 refine ⟨.ref s1.heap.objs.size,upd H1 s1.heap.objs.size (.tup xs),I1.laid (t':=s1.toks) (fun b u e=>Qc _ e) (Qy _) ?_,rfl,q _ hf⟩
 exact ⟨⟨z,yj.new rfl rfl⟩,us,r,⟨_,Qd _ rfl,rfl,_,rfl⟩⟩
theorem Ng (h:PA X es t):PE X (.List es pos) (IW t):=by
 intro pins s σ H Q I hq
 refine wpAny_List_spliced (aq (h pos pins s σ H _ I hq) fun us s1 ⟨xs,H1,I1,r,z,q⟩=>⟨by rw [<- r.length];exact z,?_⟩)
 have hf:H1 s1.heap.objs.size=none:=I1.hok.fresh (Qy _)
 refine ⟨.ref s1.heap.objs.size,upd H1 s1.heap.objs.size (.lst xs),I1.laid (t':=s1.toks) (fun b u e=>Qc _ e) (Qy _) ?_,rfl,q _ hf⟩
 exact ⟨z,us,0,r,Qd _ rfl⟩
end
abbrev Sp:=List V->Hp->VK->XK->Prop
end L2
variable {D:L2.Ends} {g:L2.TG} {wi:L2.TI} {sp:L2.Sp} {th:PySem.Addr->PySem.Addr->Option PySem.Addr->L2.TS}
namespace L2
open PySem PySem.Spec PyProof.Rows
abbrev om:=List Env->Hp->Shared->XK->Value->Shared->Prop
structure Ad (P:Program) (w:World) (K:QZ) (mg:Str->Option Value) (base:Heap) (A:Around) (outer:List Env) (s:Shared) (H:Hp):Prop where
 frames:A.frames=some outer
 mod:Mod K mg base
 bs:∀ b o,base.get? b=some o->s.heap.get? b=some o/\H b=none
 rq:base.objs.size<=s.heap.objs.size
 mj:s.heap.FunFrames base outer
 w_:∀ b∈ef outer,H b=none
 hok:bw P w H s.heap
 bare:AllBare s.gens
def CE (outer:List Env) (P:Program) (w:World) (H:Hp) (s:Shared) (Q:VK) (u:Value) (s':Shared):Prop:=
 ∃ v H',s'.os=s.os/\AllBare s'.gens/\Un (ef outer) [] H H' s.heap s'.heap/\bw P w H' s'.heap/\RelV v u/\Q v H'
def CR (CX:om) (outer:List Env) (P:Program) (w:World) (H:Hp) (s:Shared) (Q:VK) (E:XK) (r:Result) (s':Shared):Prop:=
 match r with
 | .ok (.ret u)=>CE outer P w H s Q u s'
 | .ok _=>False
 | .error e=>CX outer H s E e s'
structure jl (P:Program) (w:World) (K:QZ) (mg:Str->Option Value) (base:Heap) (CX:om) (k:Nat) (f:Addr) (fd:FuncData) (ps:List Str) (sp:Sp):Prop where
 len:∀ vs H Q E,sp vs H Q E->vs.length=ps.length
 run:∀ (A:Around) (outer:List Env) (s:Shared) (H:Hp) (args:Args) (us:List Value) (vs:List V) (Q:VK) (E:XK),cy k A->Ad P w K mg base A outer s H->BindsTo s fd args (ps.zip us)->au vs us->sp vs H Q E->
  codeAny (model P w) A (.call (.ref f) args) (CR CX outer P w H s Q E) s
theorem jl.mono {P:Program} {w:World} {K:QZ} {mg:Str->Option Value} {base:Heap} {CX:om} {j k:Nat} {f:Addr} {fd:FuncData} {ps:List Str} {sp:Sp} (F:jl P w K mg base CX j f fd ps sp) (h:j<=k):
  jl P w K mg base CX k f fd ps sp:=⟨F.len,fun A outer s H args us vs Q E hr=>F.run A outer s H args us vs Q E (hr.mono h)⟩
theorem jl.imp {K:QZ} {CX:om} {k:Nat} {f:Addr} {Cu:Sp} (F:jl P w K mg base CX k f fd ps sp)
  (h:∀ vs H Q E,Cu vs H Q E->sp vs H Q E):jl P w K mg base CX k f fd ps Cu:=
 ⟨fun vs H Q E q=>F.len vs H Q E (h _ _ _ _ q),fun A outer s H args us vs Q E hr he hb hv hs=>F.run A outer s H args us vs Q E hr he hb hv (h _ _ _ _ hs)⟩
theorem Ad.make {K:QZ} (e:Ad P w K mg base A outer s H) (C:Addr) (us:List Value) (kw:List (Str×Value)):
  Ad P w K mg base (A.under (.builtin "type.__call__" ⟨.ref C::us,kw⟩)) outer s H:=⟨by first | exact e.frames | (simpa [Around.under,Code.envs,Code.isFrame,pushEnvs] using e.frames),e.mod,e.bs,e.rq,e.mj,e.w_,e.hok,e.bare⟩
theorem Inv.DW (I:Inv X pins σ H s):Ad X.prog X.w X.K X.mg X.base X.A X.stack s H:=
 ⟨I.ok.frames,I.ok.mod,I.bs,Nat.le_trans I.ok.rq I.sz,I.stack,I.Ck,I.hok,I.bare⟩
theorem Inv.after {Q:VK} (I:Inv X pins σ H s) (h:CE X.stack X.prog X.w H s Q u s'):EP X pins σ Q u s':=by
 obtain ⟨v,H',os,bare,un,hok,r,q⟩:=h
 obtain ⟨hh,g,d,t,IX⟩:=s'
 obtain rfl:IX=s.os:=os
 exact ⟨v,H',I.call (h':=hh) (g':=g) (d':=d) (t':=t) (ch:=[]) un hok bare (fun b z=>absurd z (by simp)),r,q⟩
def Bk (sp:Sp) (vf:List V) (E:XK) (t:TA):TE:=fun σ H Q=>t σ H fun vs H1=>sp (vs++vf) H1 Q E
def Binds (K:QZ) (fd:FuncData) (ps:List Str) (ds:List Value):Prop:=
 ∀ (s:Shared) (us:List Value),K.In s.heap->(us++ds).length=ps.length->BindsTo s fd ⟨us,[]⟩ (ps.zip (us++ds))
theorem Binds.all {K:QZ} (h:∀ us:List Value,us.length=ps.length->bindArgs fd ⟨us,[]⟩=pure (ps.zip us)):Binds K fd ps []:=fun s us _ hl=>by
 rw [QQ] at hl ⊢
 exact .of_eq (h us hl)
def DX (CX:om) (X:Cx) (E:XK):Prop:=∀ (pins:List (Addr×Obj)) (σ:St) (H:Hp) (s:Shared) (e:Value) (s':Shared),Inv X pins σ H s->CX X.stack H s E e s'->X.xe e s'
section
variable {CX:om} {k:Nat} {f:Addr} {vf:List V} {ds:List Value} {E:XK} {m:Str} {p pos:Pos} {o:Expr} {ta:TE}
theorem vB {Q:VK} {vs:List V} (F:jl X.prog X.w X.K X.mg X.base CX k f fd ps sp) (hr:cy k X.A) (hb:Binds X.K fd ps ds) (hd:au vf ds) (hx:DX CX X E)
  (I:Inv X pins σ H s) (r:au vs us) (h:sp (vs++vf) H Q E):wpAny (model X.prog X.w) X.A (call (.ref f) us) (EP X pins σ Q) X.xe s:=by
 have r2:au (vs++vf) (us++ds):=r.append hd
 have hl:(us++ds).length=ps.length:=by rw [<- r2.length];exact F.len _ _ _ _ h
 refine wpAny_call (codeAny_mono (F.run X.A X.stack s H ⟨us,[]⟩ (us++ds) (vs++vf) Q E hr I.DW (hb s us I.fz hl) r2 h) fun r s' hq=>?_)
 cases r with
 | error e=>exact hx pins σ H s e s' I hq
 | ok fl=>
  cases fl with
  | ret u=>exact I.after hq
  | next=>exact False.elim hq
  | brk=>exact False.elim hq
  | cont=>exact False.elim hq
theorem yX (F:jl X.prog X.w X.K X.mg X.base CX k f fd ps sp) (hr:cy k X.A) (hg:Gl X x) (hm:X.mg x=some (.ref f)) (hk:PySem.W.keepIn X.K (.ref f)=true) (hb:Binds X.K fd ps ds) (hd:au vf ds) (hx:DX CX X E)
  (ha:PA X (e::es) t) (dw:(x==("__debug__":Str))=false:=by decide) (he:starEach (e::es) X.env=(false,eval e X.env)::starEach es X.env:=by rfl) (hpl:(backTo pos (starEach es X.env)).any (·.1)=false:=by rfl):
  PE X (.Call (.Name x p) (e::es) [] pos) (Bk sp vf E t):=by
 intro pins s σ H Q I h
 refine wpAny_Call_Name_kw (dR I hg hm ?_ dw)
 refine PySem.W.callWith_K (h₀:=X.base) I.ok.mod.A_ hk (aq (ha pos pins s σ H _ I h) fun us s1 ⟨vs,H1,I1,r,q⟩=>⟨I1.fz,?_⟩) he hpl
 exact vB F hr hb hd hx I1 r q
theorem vO (F:jl X.prog X.w X.K X.mg X.base CX k f fd ps sp) (hr:cy k X.A) (hg:Gl X x) (hm:X.mg x=some (.ref f)) (hk:PySem.W.keepIn X.K (.ref f)=true) (hb:Binds X.K fd ps ds) (hd:au vf ds) (hx:DX CX X E)
  (dw:(x==("__debug__":Str))=false:=by decide):PE X (.Call (.Name x p) [] [] pos) (Bk sp vf E Ct):=by
 intro pins s σ H Q I h
 refine wpAny_Call_Name_kw (dR I hg hm ?_ dw)
 exact PySem.W.callWith_K0 I.fz hk (vB (us:=[]) F hr hb hd hx I .nil h)
end
section
variable {CX:om} {k:Nat} {f:Addr} {ks:List Str} {E:XK} {m:Str} {p pos Vh:Pos} {o:Expr} {Vi:List Keyword} {ta:TE} {tk:TA} {nm:Option Str}
variable {g:List Value->List Value->List Value} {gV:List V->List V->List V}
end
structure cu (N P:List Str) (sc:Scope):Prop where
 kind:sc.kind=.function
 co:sc.isCoroutine=false
 gen:sc.isGenerator=false
 nd:N.Nodup
 pre:N.take P.length=P
 IY:∀ x∈P,sc.names.lookup x=some .local\/sc.names.lookup x=some .cell
 Nh:∀ y∈sc.names,y.2≠.free
theorem nE {kindOf:Str->Option NameKind} {x:Str}:∀ {binds:List (Str×Value)} {m:Str->Option Value},(∀ v,(x,v) ∉ binds)->bindL kindOf binds m x=m x
 | [],_,_=>rfl
 | (n,v)::r,m,h=>by
  unfold bindL
  rw [nE fun w hw=>h w (Qh _ hw)]
  split
  ·have:x≠n:=by rintro rfl;exact h v List.mem_cons_self
   simp [this]
  ·rfl
theorem mW {kindOf:Str->Option NameKind} {x:Str}:∀ {binds:List (Str×Value)} {m:Str->Option Value},(∀ v,(x,v) ∉ binds)->bindC kindOf binds m x=m x
 | [],_,_=>rfl
 | (n,v)::r,m,h=>by
  unfold bindC
  rw [mW fun w hw=>h w (Qh _ hw)]
  split
  ·rfl
  ·have:x≠n:=by rintro rfl;exact h v List.mem_cons_self
   simp [this]
theorem mZ {kindOf:Str->Option NameKind} {x:Str} {v:Value}:∀ {P:List Str} {vs:List Value} {i:Nat} {m:Str->Option Value},P.Nodup->P[i]? =some x->vs[i]? =some v->kindOf x=some .local->
  bindL kindOf (P.zip vs) m x=some v
 | [],_,_,_,_,h,_,_=>by simp at h
 | _::_,[],_,_,_,_,h,_=>by simp at h
 | p::P,w::vs,0,m,nd,h1,h2,hk=>by
  simp at h1 h2;subst h1;subst h2
  show bindL kindOf ((p,w)::P.zip vs) m p=_
  unfold bindL
  rw [nE fun v hv=>(List.nodup_cons.mp nd).1 (List.of_mem_zip hv).1,if_pos hk]
  simp
 | p::P,w::vs,i+1,m,nd,h1,h2,hk=>by
  show bindL kindOf ((p,w)::P.zip vs) m x=_
  unfold bindL
  exact mZ (i:=i) (List.nodup_cons.mp nd).2 (by simpa using h1) (by simpa using h2) hk
theorem nF {kindOf:Str->Option NameKind} {x:Str} {v:Value}:∀ {P:List Str} {vs:List Value} {i:Nat} {m:Str->Option Value},P.Nodup->P[i]? =some x->vs[i]? =some v->kindOf x≠some .local->
  bindC kindOf (P.zip vs) m x=some v
 | [],_,_,_,_,h,_,_=>by simp at h
 | _::_,[],_,_,_,_,h,_=>by simp at h
 | p::P,w::vs,0,m,nd,h1,h2,hk=>by
  simp at h1 h2;subst h1;subst h2
  show bindC kindOf ((p,w)::P.zip vs) m p=_
  unfold bindC
  rw [mW fun v hv=>(List.nodup_cons.mp nd).1 (List.of_mem_zip hv).1,if_neg hk]
  simp
 | p::P,w::vs,i+1,m,nd,h1,h2,hk=>by
  show bindC kindOf ((p,w)::P.zip vs) m x=_
  unfold bindC
  exact nF (i:=i) (List.nodup_cons.mp nd).2 (by simpa using h1) (by simpa using h2) hk
def start (N:List Str) (vs:List V):St:=vs.map some++List.replicate (N.length - vs.length) none
def gu (CX:om) (P:Program) (w:World) (K:QZ) (mg:Str->Option Value) (base:Heap) (N:List Str) (qual:Str) (scope:Scope) (f:Addr) (cd:Value) (A:Around) (outer:List Env) (s:Shared) (H:Hp) (E:XK):Cx where
 prog:=P
 w:=w
 K:=K
 mg:=mg
 base:=base
 A:=A.deeper (envOfC qual scope s.heap.objs.size f cd)
 N:=N
 s₀:=s
 H₀:=H
 env:=envOfC qual scope s.heap.objs.size f cd
 outer:=outer
 stack:=envOfC qual scope s.heap.objs.size f cd::outer
 ex:=[]
 calm:=true
 fn:=fun _=>true
 pn:=[]
 xe:=fun e s'=>wpAny (model P w) (A.deeper (envOfC qual scope s.heap.objs.size f cd)) (leaving (envOfC qual scope s.heap.objs.size f cd) e) (fun _ s''=>CX outer H s E e s'') (fun e' s''=>CX outer H s E e' s'') s'
theorem qF (h:sc.names.lookup x=some .cell):∃ c,(cellsFrom n sc.names []).lookup x=some c:=by
 have q:=PySem.W.cellsFrom_some sc.names n [] (.inl h)
 exact Option.isSome_iff_exists.mp q
theorem uU {CX:om} {K:QZ} {f:Addr} {cd:Value} {s1:Shared} {E:XK} {vs:List V}
  (S:cu N ps scope) (hd:A.handled=none) (e0:Ad P w K mg base A outer s H) (hl:vs.length=ps.length) (r:au vs us)
  (x:InCallC s s.heap.objs.size (bindL (envOfC qual scope s.heap.objs.size f cd).kindOf (ps.zip us) fun _=>none) (cellsFrom (s.heap.objs.size+1) scope.names []) (bindC (envOfC qual scope s.heap.objs.size f cd).kindOf (ps.zip us) fun _=>none) s1):
  Inv (gu CX P w K mg base N qual scope f cd A outer s H E) [] (start N vs) H s1:=by
 have hpl:ps.length<=N.length:=by have:=congrArg List.length S.pre;rw [List.length_take] at this;omega
 obtain ⟨h1,tk,rfl,hk⟩:=x.done
 have Cv:∀ b:Addr,b ∉ (gu CX P w K mg base N qual scope f cd A outer s H E).ex:=fun b z=>absurd (show b∈([]:List Addr) from z) (by simp)
 refine ⟨⟨e0.mod,S.kind,rfl,rfl,Qy _,fun y z c h1 h2=>?_,fun y hy=>?_,fun y c _ h=>?_,fun _=>hd,Around.frames_deeper e0.frames,.inr ⟨rfl,rfl⟩,fun b z=>absurd z (Cv b),e0.bs,e0.rq,fun b _ _=>Cv b,fun b z=>absurd z (Cv b),e0.mj,e0.w_⟩,
  rfl,e0.bare,Un.kept hk,⟨_,x.toInCall.ns,fun i y v h1 h2 h3=>?_⟩,fun y c h=>⟨_,x.cell y c h⟩,e0.hok.fresh (Qy _),fun y c h=>?_,fun p hp=>absurd (show p∈([]:List (Addr×Obj)) from hp) (by simp),e0.hok.kept hk,?_⟩
 ·exact name_of_addr x.apart (PySem.mem_of_lookup h1) (PySem.mem_of_lookup h2)
 ·have hy:scope.names.lookup y=some .cell\/scope.names.lookup y=some .free:=hy
  rcases hy with hy | hy
  ·exact qF hy
  ·exact absurd rfl (S.Nh _ (PySem.mem_of_lookup hy))
 ·exact Nat.le_of_lt (x.above y c (PySem.mem_of_lookup h))
 ·have hi:i < vs.length:=by
   unfold start at h2
   by_cases hi:i < vs.length
   ·exact hi
   ·rw [List.getElem?_append_right (by simpa using hi)] at h2
    rw [List.getElem?_replicate] at h2
    split at h2<;>cases h2
  have ha:vs[i]? =some v:=by
   unfold start at h2
   rw [Qg (by simpa using hi),Qq] at h2
   cases e:vs[i]? with
   | none=>rw [e] at h2;cases h2
   | some a=>rw [e] at h2;cases h2;rfl
  obtain ⟨u,hu,rv⟩:=r.get ha
  have hp:ps[i]? =some y:=by
   rw [<- S.pre,List.getElem?_take_of_lt (by omega)];exact h1
  have IZ:ps.Nodup:=by rw [<- S.pre];exact S.nd.sublist (List.take_sublist _ _)
  refine ⟨u,rv,?_⟩
  rcases S.IY y (QC hp) with k | k
  ·exact .inl ⟨k,mZ IZ hp hu k⟩
  ·obtain ⟨c,e⟩:=qF (n:=s.heap.objs.size+1) k
   refine .inr ⟨.inl k,c,e,?_⟩
   have q:=x.cell y c e
   rw [nF IZ hp hu (by show scope.names.lookup y≠_;rw [k];decide)] at q
   exact q
 ·exact e0.hok.fresh (Nat.le_of_lt (x.above y c (PySem.mem_of_lookup h)))
 ·unfold start
  show _=N.length
  rw [Qk,Ql,List.length_replicate]
  omega
theorem zK {CX:om} {K:QZ} {k:Nat} {f:Addr} {params:Arguments} {dV kV doc pm ao ct oc:Value} {an od:Option Addr}
  {gv:Array (Option Value)} {N ps:List Str} {sp:Sp} (lk:K.lookup f=some ⟨oc,od,.func (PySem.W.fnOf name qual params body scope dV kV doc pm an ao ct),gv⟩) (jj:PySem.W.codeIn K ao qual=true) (S:cu N ps scope)
  (len:∀ vs H Q E,sp vs H Q E->vs.length=ps.length)
  (tq:∀ (A:Around) (outer:List Env) (s:Shared) (H:Hp) (vs:List V) (Q:VK) (E:XK),cy k (A.deeper (envOfC qual scope s.heap.objs.size f ao))->sp vs H Q E->
   ∃ t,jw (gu CX P w K mg base N qual scope f ao A outer s H E) body t/\t {nx:=fun _ H'=>Q .af H',rt:=Q} (start N vs) H):
  jl P w K mg base CX (k+1) f (PySem.W.fnOf name qual params body scope dV kV doc pm an ao ct) ps sp:=by
 refine ⟨len,fun A outer s H args us vs Q E hr e0 hb r vg=>?_⟩
 have hl:=len _ _ _ _ vg
 have KX:K.In s.heap:=e0.mod.A_.keeps fun b o e=>(e0.bs b o e).1
 have lim:s.heap.NoLimit:=e0.mod.nolimit.keeps fun b o e=>(e0.bs b o e).1
 have Ni:∀ y∈ps.zip us,scope.names.lookup y.1=some .local\/(scope.names.lookup y.1=some .cell/\((cellsFrom (s.heap.objs.size+1) scope.names []).lookup y.1).isSome=true):=fun ⟨n,v⟩ hy=>by
  rcases S.IY n (List.of_mem_zip hy).1 with q | q
  ·exact .inl q
  ·exact .inr ⟨q,PySem.W.cellsFrom_some _ _ _ (.inl q)⟩
 refine codeAny_call_function hr.depth (KX _ _ lk) rfl S.co S.gen rfl (PySem.W.codeRec_of KX jj) (hb _ _ _ _ ?_)
 refine wpAny_newFunctionEnv_cells S.kind Ni fun env he s1 x=>?_
 subst he
 refine ⟨lim.keeps x.toInCall.keep,codeAny_func ?_⟩
 obtain ⟨t,ht,hq⟩:=tq A outer s H vs Q E (hr.deeper _) vg
 have I:Inv (gu CX P w K mg base N qual scope f ao A outer s H E) [] (start N vs) H s1:=uU S hr.hd e0 hl r x
 refine wpAny_mono (ht [] s1 (start N vs) H _ I hq) (fun fl s' hs=>?_) fun e s' hs=>hs
 have fin:∀ {σ':St} {H':Hp} {v:V} {u:Value},Inv (gu CX P w K mg base N qual scope f ao A outer s H E) [] σ' H' s'->RelV v u->Q v H'->CE outer P w H s Q u s':=
  fun {σ' H' v u} J rv q=>⟨v,H',J.os,J.bare,J.base,J.hok,rv,q⟩
 cases fl with
 | ret u=>
  obtain ⟨v,σ',H',J,rv,q⟩:=hs
  exact fin J rv q
 | next=>
  obtain ⟨σ',H',J,q⟩:=hs
  exact fin (v:=V.af) (u:=Value.none) J rfl q
 | brk=>
  obtain ⟨_,_,_,q⟩:=hs
  exact False.elim q
 | cont=>
  obtain ⟨_,_,_,q⟩:=hs
  exact False.elim q
section
variable {p pos:Pos} {id:String} {r:List V->Hp->VK->Prop}
def DY (r:List V->Hp->VK->Prop) (t:TA):TE:=fun σ H Q=>t σ H fun vs H1=>r vs H1 Q
theorem x6 (hc:jx X (.builtin id) r) (hg:Gl X x) (hm:X.mg x=none) (hv:bootBuiltins x=some (.builtin id)) (ha:PA X (e::es) t) (hn:x≠"__name__":=by decide) (dw:(x==("__debug__":Str))=false:=by decide)
  (he:starEach (e::es) X.env=(false,eval e X.env)::starEach es X.env:=by rfl) (hpl:(backTo pos (starEach es X.env)).any (·.1)=false:=by rfl):PE X (.Call (.Name x p) (e::es) [] pos) (DY r t):=by
 intro pins s σ H Q I h
 refine wpAny_Call_Name_kw (jE I hg hm hv ?_ hn dw)
 exact PyProof.Rows.callWith_builtin1 (aq (ha pos pins s σ H _ I h) fun us s1 ⟨vs,H1,I1,r1,q1⟩=>hc pins s1 σ H1 vs us Q I1 r1 q1) he hpl
theorem uM (hc:jx X (.type T) r) (hg:Gl X x) (hm:X.mg x=none) (hv:bootBuiltins x=some (.type T)) (ha:PA X (e::es) t) (hn:x≠"__name__":=by decide) (dw:(x==("__debug__":Str))=false:=by decide)
  (he:starEach (e::es) X.env=(false,eval e X.env)::starEach es X.env:=by rfl) (hpl:(backTo pos (starEach es X.env)).any (·.1)=false:=by rfl):PE X (.Call (.Name x p) (e::es) [] pos) (DY r t):=by
 intro pins s σ H Q I h
 refine wpAny_Call_Name_kw (jE I hg hm hv ?_ hn dw)
 exact PyProof.Rows.callWith_type1 (aq (ha pos pins s σ H _ I h) fun us s1 ⟨vs,H1,I1,r1,q1⟩=>hc pins s1 σ H1 vs us Q I1 r1 q1) he hpl
end
end L2
namespace HT
open PySem PyProof.Rows
section
open PySem.SeqAt
open PySem.AutoSeq1 (wpAny_loadPart')
open PySem.MeetsSeq PySem.MeetsSeq2 PySem.MeetsSeq3
end
theorem yS {t:Addr} {vs ws:List Value} (ht:IsTup s.heap t vs.toArray) (hb:IsTup s.heap b ws.toArray) (hv:vs≠[])
  (h1:ws=[]->Q (.ref t) s) (h2:ws≠[]->Q (.ref s.heap.objs.size) {s with heap:=s.heap.push {cls:=.type "tuple",data:=.seq (vs++ws).toArray}})
  (hsz:vs.length+ws.length<=sizeLine):wpAny (model prog w) A (binaryOp .Add (.ref t) (.ref b)) Q E s:=by
 obtain ⟨⟨cls,dd,data,sl⟩,ho,hc,n,hd⟩:=id ht
 obtain ⟨⟨FH,k_,data2,lg⟩,iq,ie,n2,hd2⟩:=id hb
 simp only at hc hd ie hd2
 subst hc hd ie hd2
 have e:vs.toArray++ws.toArray=(vs++ws).toArray:=by simp
 by_cases hw:ws=[]
 ·exact concat_meets ⟨_,ho,rfl⟩ ⟨_,iq,rfl⟩ noFill_tuple_add seq_tuple_add PySem.F.slot_tuple_add PySem.F.entry_tuple_add (PySem.F.args_tuple_add_2 _ _)
   (tuple_addW1 t b vs.toArray ws.toArray n n2 dd k_ sl lg (by simpa using hv) (by simp [hw])) ⟨ho,iq,h1 hw⟩
 ·refine concat_meets ⟨_,ho,rfl⟩ ⟨_,iq,rfl⟩ noFill_tuple_add seq_tuple_add PySem.F.slot_tuple_add PySem.F.entry_tuple_add (PySem.F.args_tuple_add_2 _ _)
   (tuple_addW2 t b vs.toArray ws.toArray n n2 dd k_ sl lg (by simpa using hv) (by simpa using hw) (by rw [List.size_toArray,List.size_toArray];exact hsz)) ⟨ho,iq,?_⟩
  rw [e]
  exact h2 hw
def bj (n d:Nat):Option Int->Nat
 | none=>d
 | some v=>if v < 0 then (v+(n:Int)).toNat else min v.toNat n
theorem pM (n d:Nat):bj n d none=d:=rfl
theorem tH (n d k:Nat):bj n d (some (k:Int))=min k n:=by
 show (if (k:Int) < 0 then ((k:Int)+(n:Int)).toNat else min (k:Int).toNat n)=min k n
 rw [if_neg (by omega),Int.toNat_natCast]
theorem Nj (n d:Nat) (hd:d<=n) (o:Option Int):bj n d o<=n:=by
 cases o with
 | none=>exact hd
 | some v=>
  show (if v < 0 then (v+(n:Int)).toNat else min v.toNat n)<=n
  by_cases hv:v < 0
  ·rw [if_pos hv];omega
  ·rw [if_neg hv];exact Nat.min_le_right _ _
theorem tE (v:Int) (n d:Nat):(if v < 0 then max (v+(n:Int)) 0 else min v (n:Int))=((bj n d (some v):Nat):Int):=by
 show (if v < 0 then max (v+(n:Int)) 0 else min v (n:Int))=(((if v < 0 then (v+(n:Int)).toNat else min v.toNat n):Nat):Int)
 by_cases hv:v < 0
 ·simp only [if_pos hv];omega
 ·simp only [if_neg hv];omega
theorem sW (lo hi:Option Int) (n:Nat):Builtin.Slice.sliceAdjust lo hi 1 (n:Int)=(((bj n 0 lo:Nat):Int),((bj n n hi:Nat):Int)):=by
 have h1:¬((1:Int) < 0):=by omega
 unfold Builtin.Slice.sliceAdjust
 simp only [h1,if_false]
 refine Prod.ext ?_ ?_
 ·cases lo with
  | none=>rfl
  | some v=>exact tE v n 0
 ·cases hi with
  | none=>rfl
  | some v=>exact tE v n n
theorem sM (i j:Nat):Builtin.Slice.slicePlaces (i:Int) (j:Int) 1=j - i:=by
 unfold Builtin.Slice.slicePlaces
 have h1:(1:Int) > 0:=by omega
 simp only [h1,if_true,Int.ediv_one]
 split<;>omega
theorem lE {v:Value} {o:Option Int} {Q:Option Int->Shared->Prop} (p:IsPart v o) (h:Q o s):wpAny (model prog w) A (Builtin.Slice.slicePartIndex v) Q E s:=by
 cases p with
 | none=>exact slicePart_none h
 | int i t=>exact slicePart_int h
theorem jO {sl:Addr} {vl vu:Value} {lo hi:Option Int} {Q:Int×Int×Nat->Shared->Prop} (hs:s.heap.IsSliceOf sl vl vu .none) (pl:IsPart vl lo) (pu:IsPart vu hi)
  (h:Q (((bj n 0 lo:Nat):Int),1,bj n n hi - bj n 0 lo) s):wpAny (model prog w) A (Builtin.Slice.sliceApplied (.ref sl) (pure (n:Int))) Q E s:=by
 obtain ⟨os,Ae,I0,jm⟩:=id hs
 unfold Builtin.Slice.sliceApplied Builtin.Slice.sliceFields
 refine QS (QS (wpAny_field Ae jm (x:=vl) rfl (QS (wpAny_field Ae jm (x:=vu) rfl (QS (wpAny_field Ae jm (x:=.none) rfl (QT ?_)))))))
 refine QS (slicePart_none ?_)
 show wpAny _ _ (if ((1:Int)==0)=true then _ else _) _ _ s
 rw [if_neg (by decide)]
 refine QS (lE pl (QS (lE pu (QS (QT ?_)))))
 show wpAny _ _ (match Builtin.Slice.sliceAdjust lo hi 1 (n:Int) with | (lo,hi)=>pure (lo,(1:Int),Builtin.Slice.slicePlaces lo hi 1)) _ _ s
 rw [sW lo hi n]
 show wpAny _ _ (pure (((bj n 0 lo:Nat):Int),(1:Int),Builtin.Slice.slicePlaces ((bj n 0 lo:Nat):Int) ((bj n n hi:Nat):Int) 1)) _ _ s
 rw [sM]
 exact QT h
theorem wT (xs:Array Value) (i k:Nat):((List.range k).filterMap fun (m:Nat)=>xs[((i:Int)+(m:Int)*1).toNat]?).toArray=((xs.toList.drop i).take k).toArray:=by
 have e:(fun (m:Nat)=>xs[((i:Int)+(m:Int)*1).toNat]?)=fun m=>xs[i+m]?:=by
  funext m
  have:((i:Int)+(m:Int)*1).toNat=i+m:=by omega
  rw [this]
 rw [e]
 have:=pick_run xs i k
 rw [List.filterMap_map] at this
 have e2:((fun x=>xs[x]?)∘fun x=>i+x)=fun m=>xs[i+m]?:=rfl
 rw [e2] at this
 rw [this]
theorem iX {t sl:Addr} {items:Array Value} {vl vu:Value} {lo hi:Option Int} (ht:IsTup s.heap t items) (hs:s.heap.IsSliceOf sl vl vu .none) (pl:IsPart vl lo) (pu:IsPart vu hi)
  (hw:¬(bj items.size 0 lo=0/\bj items.size items.size hi=items.size))
  (h:Q (.ref s.heap.objs.size) {s with heap:=s.heap.push {cls:=.type "tuple",data:=.seq ((items.toList.drop (bj items.size 0 lo)).take (bj items.size items.size hi - bj items.size 0 lo)).toArray}})
  (hsz:items.size<=sizeLine):wpAny (model prog w) A (getItem (.ref t) (.ref sl)) Q E s:=by
 have DZ:sizeOk (.seq ((items.toList.drop (bj items.size 0 lo)).take (bj items.size items.size hi - bj items.size 0 lo)).toArray):=by
  show ((items.toList.drop (bj items.size 0 lo)).take (bj items.size items.size hi - bj items.size 0 lo)).toArray.size<=sizeLine
  rw [List.size_toArray,List.length_take,List.length_drop,Array.length_toList]
  omega
 have hj:bj items.size items.size hi<=items.size:=Nj _ _ (Qy _) hi
 obtain ⟨os,Ae,I0,jm⟩:=id hs
 have Nk:s.TypeIs (.ref sl) "slice":=⟨os,Ae,I0⟩
 unfold getItem
 try with_reducible refine wpAny_holding ?_
 first | refine QS (QT ?_) | skip
 refine QS (wpAny_sequenceKey ht.typeIs (by decide) ?_)
 refine QS (wpAny_callSpecial?_slot (name:=Str.ofString "__getitem__") ht.typeIs PyProof.Rows.slot_tuple_getitem
  (wpAny_call_entry PyProof.Rows.slot_tuple_getitem ht.typeIs entry_tuple_getitem ?_ (args_tuple_getitem _ _)))
 show wpAny _ _ (Builtin.Tuple.tupleItemsOf (.ref t) >>=_) _ _ s
 refine QS (tupleItemsOf_ ht ?_)
 refine QS (wpAny_typeOf Nk ?_)
 rw [if_pos (by decide)]
 refine QS (jO hs pl pu ?_)
 have Nl:¬((((bj items.size 0 lo:Nat):Int)==0&&(1:Int)==1&&(bj items.size items.size hi - bj items.size 0 lo)==items.size)=true):=by
  intro q
  rw [Bool.and_eq_true,Bool.and_eq_true] at q
  have q1:((bj items.size 0 lo:Nat):Int)=0:=eq_of_beq q.1.1
  have q2:bj items.size items.size hi - bj items.size 0 lo=items.size:=eq_of_beq q.2
  exact hw ⟨by omega,by omega⟩
 show wpAny _ _ (if (((bj items.size 0 lo:Nat):Int)==0&&(1:Int)==1&&(bj items.size items.size hi - bj items.size 0 lo)==items.size)=true then _ else _) _ _ s
 rw [if_neg Nl,wT]
 first
  | exact QS (m:=Builtin.Tuple.tupleExact _) (wpAny_newObj_type (QT ⟨_,rfl,QT h⟩) DZ)
  | exact QS (m:=Builtin.Tuple.tupleExact _) (wpAny_newObj_type (QS (QT (QT ⟨_,rfl,QT h⟩))) DZ)
  | exact QS (QS (m:=Builtin.Tuple.tupleExact _) (wpAny_newObj_type (QT (QT ⟨_,rfl,QT h⟩)) DZ))
  | exact QS (QS (m:=Builtin.Tuple.tupleExact _) (wpAny_newObj_type (QT ⟨_,rfl,QT h⟩) DZ))
end HT
namespace L2
open PySem PySem.Spec PyProof.Rows
abbrev TO:=St->Hp->(Option Int->Hp->Prop)->Prop
def PO (X:Cx) (e:Option Expr) (t:TO):Prop:=
 ∀ (pins:List (Addr×Obj)) (s:Shared) (σ:St) (H:Hp) (Q:Option Int->Hp->Prop),Inv X pins σ H s->t σ H Q->
  wpAny (model X.prog X.w) X.A (evalPart e X.env) (fun u s'=>∃ o H',Inv X pins σ H' s'/\IsPart u o/\Q o H') X.xe s
def I_:TO:=fun _ H Q=>Q none H
def Ja (t:TE):TO:=fun σ H Q=>t σ H fun x H1=>∃ i,x=.int i/\Q (some i) H1
section
variable {lo hi:Option Expr} {tl th:TO} {pos p2:Pos}
theorem xI:PO X none I_:=by
 intro pins s σ H Q I h
 rw [evalPart_none]
 exact QT ⟨none,H,I,.none,h⟩
theorem yR (h:PE X e te):PO X (some e) (Ja te):=by
 intro pins s σ H Q I hw
 rw [evalPart_some]
 refine aq (h pins s σ H _ I hw) ?_
 rintro u s1 ⟨x,H1,I1,r1,q1⟩
 obtain ⟨i,rfl,q⟩:=q1
 obtain ⟨t,rfl⟩:=r1
 exact ⟨some i,H1,I1,.int i t,q⟩
def t_ (X:Cx) (r:V->Option Int->Option Int->Hp->VK->Prop):Prop:=
 ∀ (pins:List (Addr×Obj)) (s:Shared) (σ:St) (H:Hp) (x:V) (v vl vu:Value) (lo hi:Option Int) (sl:Addr) (Q:VK),Inv X pins σ H s->RelV x v->s.heap.IsSliceOf sl vl vu .none->IsPart vl lo->IsPart vu hi->r x lo hi H Q->
  ∃ T id,typeLookup (.type T) "__getitem__"=pure (some (.builtin id))/\s.TypeIs v T/\wpAny (model X.prog X.w) X.A (getItem v (.ref sl)) (EP X pins σ Q) X.xe s
theorem t_.or {r r':V->Option Int->Option Int->Hp->VK->Prop} (h:t_ X r) (h':t_ X r'):t_ X (fun x lo hi H Q=>r x lo hi H Q\/r' x lo hi H Q):=by
 intro pins s σ H x v vl vu lo hi sl Q I rx hs pl pu q
 rcases q with q | q
 ·exact h pins s σ H x v vl vu lo hi sl Q I rx hs pl pu q
 ·exact h' pins s σ H x v vl vu lo hi sl Q I rx hs pl pu q
def Jb (r:V->Option Int->Option Int->Hp->VK->Prop) (te:TE) (tl th:TO):TE:=fun σ H Q=>te σ H fun x H1=>tl σ H1 fun l H2=>th σ H2 fun u H3=>r x l u H3 Q
theorem vT {r:V->Option Int->Option Int->Hp->VK->Prop} (hr:t_ X r) (he:PE X e te) (hl:PO X lo tl) (hu:PO X hi th):PE X (.Subscript e (.Slice lo hi none p2) pos) (Jb r te tl th):=by
 intro pins s σ H Q I h
 refine Subscript_ (aq (he pins s σ H _ I h) ?_)
 rintro v s1 ⟨x,H1,I1,r1,q1⟩
 refine wpAny_Slice (aq (hl pins s1 σ H1 _ I1 q1) fun vl s2 ⟨l,H2,I2,pl,q2⟩=>aq (hu pins s2 σ H2 _ I2 q2) fun vu s3 ⟨u,H3,I3,pu,q3⟩=>?_)
 rw [evalPart_none]
 refine QT ?_
 have I4:Inv X pins σ H3 {s3 with heap:=s3.heap.push {cls:=.type "slice",data:=.fields #[vl,vu,.none]}}:=I3.kept (t':=s3.toks) fun b ob q=>Qc _ q
 obtain ⟨T,id,hT,ht,hg⟩:=hr pins {s3 with heap:=s3.heap.push {cls:=.type "slice",data:=.fields #[vl,vu,.none]}} σ H3 x v vl vu l u s3.heap.objs.size Q I4 r1 (Heap.IsSliceOf.new ..) pl pu q3
 show wpAny (model X.prog X.w) X.A (subscriptTail e (.Slice lo hi none p2) v (.ref s3.heap.objs.size)) (EP X pins σ Q) X.xe {s3 with heap:=s3.heap.push {cls:=.type "slice",data:=.fields #[vl,vu,.none]}}
 exact tail_any (ops:=[.ref s3.heap.objs.size,v]) ht hT hg (by with_unfolding_all rfl)
def f_ (xs:List V) (lo hi:Option Int):List V:=(xs.drop (HT.bj xs.length 0 lo)).take (HT.bj xs.length xs.length hi - HT.bj xs.length 0 lo)
theorem k8 (xs:List V) (lo hi:Option Int):(f_ xs lo hi).length<=xs.length:=by
 unfold f_
 rw [List.length_take,List.length_drop]
 omega
def FI (K:QZ):V->Option Int->Option Int->Hp->VK->Prop:=fun x lo hi H Q=>∃ a xs,x=.ref a/\ae K H a xs/\
 ¬(HT.bj xs.length 0 lo=0/\HT.bj xs.length xs.length hi=xs.length)/\∀ p,H p=none->Q (.ref p) (upd H p (.tup (f_ xs lo hi)))
theorem Nm:t_ X (FI X.K):=by
 intro pins s σ H x v vl vu lo hi sl Q I rx hs pl pu h
 obtain ⟨a,xs,rfl,hx,hw,q⟩:=h
 cases rx
 obtain ⟨its,r,ht,hz⟩:=I.tuple hx
 have e_:its.toArray.size=xs.length:=by rw [List.size_toArray];exact r.length.symm
 refine ⟨"tuple",_,PyProof.Rows.slot_tuple_getitem.lookup,ht.typeIs,?_⟩
 refine HT.iX ht hs pl pu (by rw [e_];exact hw) ?_ (by rw [e_];exact hz)
 rw [e_]
 refine ⟨.ref s.heap.objs.size,_,I.laid (t':=s.toks) (o:=.tup (f_ xs lo hi)) (fun b ob q=>Qc _ q) (Qy _) ?_,rfl,q _ (I.hok.fresh (Qy _))⟩
 exact ⟨⟨Nat.le_trans (k8 xs lo hi) hz,yj.new rfl rfl⟩,_,(r.drop (HT.bj xs.length 0 lo)).take (HT.bj xs.length xs.length hi - HT.bj xs.length 0 lo),IsTup.new _ _⟩
def Jc (K:QZ):R2:=fun x y H Q=>∃ a b xs ys,x=.ref a/\y=.ref b/\ae K H a xs/\ae K H b ys/\xs≠[]/\xs.length+ys.length<=sizeLine/\
 (ys=[]->Q (.ref a) H)/\(ys≠[]->∀ p,H p=none->Q (.ref p) (upd H p (.tup (xs++ys))))
theorem au.yo {xs:List V} (r:au xs us):us=[]↔xs=[]:=by
 cases r with
 | nil=>simp
 | cons _ _=>simp
theorem tR:br X (binaryOp .Add) (Jc X.K):=by
 intro pins s σ H x y v u Q I rx ry h
 obtain ⟨a,b,xs,ys,rfl,rfl,ha,hb,hx,hz,q1,q2⟩:=h
 cases rx
 cases ry
 obtain ⟨its,r1,p1,_⟩:=I.tuple ha
 obtain ⟨its2,r2,p2,_⟩:=I.tuple hb
 refine HT.yS p1 p2 (fun z=>hx (r1.yo.mp z)) (fun z=>⟨.ref a,H,I,rfl,q1 (r2.yo.mp z)⟩) (fun z=>?_) (by rw [<- r1.length,<- r2.length];exact hz)
 refine ⟨.ref s.heap.objs.size,_,I.laid (t':=s.toks) (o:=.tup (xs++ys)) (fun b ob q=>Qc _ q) (Qy _) ?_,rfl,q2 (fun w=>z (r2.yo.mpr w)) _ (I.hok.fresh (Qy _))⟩
 exact ⟨⟨by rw [Qk];exact hz,yj.new rfl rfl⟩,_,r1.append r2,IsTup.new _ _⟩
end
def ua (n:Nat) (i:Int):Option Nat:=if 0<=i then (if i < n then some i.toNat else none) else if -(n:Int)<=i then some (i+n).toNat else none
def je {α:Type} (xs:List α) (i:Int):Option α:=(ua xs.length i).bind fun j=>xs[j]?
theorem nO {i:Int} (h:ua n i=some j):seqIndex? i n=some j/\j < n/\ -(n:Int)<=i/\i < n:=by
 unfold ua at h
 by_cases h0:0<=i
 ·rw [if_pos h0] at h
  by_cases h1:i < n
  ·rw [if_pos h1] at h
   have e:i.toNat=j:=QD h
   exact ⟨by rw [seqIndex_of h0 h1,e],by omega,by omega,h1⟩
  ·rw [if_neg h1] at h;cases h
 ·rw [if_neg h0] at h
  by_cases h1: -(n:Int)<=i
  ·rw [if_pos h1] at h
   have e:(i+n).toNat=j:=QD h
   exact ⟨by rw [seqIndex_neg (by omega) h1,e],by omega,h1,by omega⟩
  ·rw [if_neg h1] at h;cases h
theorem oF {xs:List α} {i:Int} {v:α} (h:je xs i=some v):∃ j,seqIndex? i xs.length=some j/\xs[j]? =some v/\j < xs.length/\ -(xs.length:Int)<=i/\i < xs.length:=by
 unfold je at h
 cases e:ua xs.length i with
 | none=>rw [e] at h;cases h
 | some j=>
  rw [e] at h
  obtain ⟨h1,h2,h3,h4⟩:=nO e
  exact ⟨j,h1,h,h2,h3,h4⟩
theorem cF {xs:List α} {v:α} (h:xs[j]? =some v):je xs (j:Int)=some v:=by
 have hj:j < xs.length:=(List.getElem?_eq_some_iff.mp h).1
 have e:ua xs.length (j:Int)=some j:=by
  unfold ua
  rw [if_pos (by omega),if_pos (by omega)];simp
 unfold je;rw [e];exact h
def Jd (b:Expr):Prop:=∀ o i,subscripted b false o i=operate [o,i] (getItem o i)
def Af (X:Cx) (r:R2):Prop:=
 ∀ (value slice:Expr) (pins:List (Addr×Obj)) (s:Shared) (σ:St) (H:Hp) (x y:V) (v u:Value) (Q:VK),Inv X pins σ H s->RelV x v->RelV y u->r x y H Q->
  subscripted slice false v u=operate [v,u] (getItem v u)->wpAny (model X.prog X.w) X.A (subscriptTail value slice v u) (EP X pins σ Q) X.xe s
def FJ (X:Cx) (id:String) (r:V->List V->Hp->VK->Prop):Prop:=
 ∀ (pins:List (Addr×Obj)) (s:Shared) (σ:St) (H:Hp) (x:V) (xs:List V) (v:Value) (us:List Value) (Q:VK),Inv X pins σ H s->RelV x v->au xs us->r x xs H Q->
  wpAny (model X.prog X.w) X.A (call (.builtin id) (v::us)) (EP X pins σ Q) X.xe s
section
variable {a b:Expr} {ta tb:TE} {pos:Pos}
theorem Nn {r:R2} (hr:Af X r) (ha:PE X a ta) (hb:PE X b tb) (hs:Jd b):PE X (.Subscript a b pos) (Bg r ta tb):=by
 intro pins s σ H Q I h
 exact Subscript_ (IQ ha hb I h fun v u s2 x y H2 I2 rx ry q=>hr a b pins s2 σ H2 x y v u Q I2 rx ry q (hs _ _))
def Np (K:QZ):R2:=fun x y H Q=>∃ p xs i v,x=.ref p/\y=.int i/\ai K H p xs/\je xs i=some v/\Q v H
def Nq (K:QZ):R2:=fun x y H Q=>∃ p xs i v,x=.ref p/\y=.int i/\ae K H p xs/\je xs i=some v/\Q v H
def Nr:R2:=fun x y H Q=>∃ z i c,x=.str z/\y=.int i/\z.length<=sizeLine/\je z.cps.toList i=some c/\Q (.str ⟨#[c]⟩) H
theorem xW:Af X (Np X.K):=by
 intro value slice pins s σ H x y v u Q I rx ry h hs
 obtain ⟨p,xs,i,z,rfl,rfl,hq,he,q⟩:=h
 cases rx
 obtain ⟨t,rfl⟩:=ry
 obtain ⟨its,r,pl,hz⟩:=I.list hq
 obtain ⟨j,h1,h2,h3,h4,h5⟩:=oF he
 obtain ⟨w,ew,jk⟩:=r.get h2
 have hl:=r.length
 have hn:=Bj
 have fin:EP X pins σ Q w s:=⟨z,H,I,jk,q⟩
 by_cases h0:0<=i
 ·have hj:i.toNat=j:=by
   rw [seqIndex_of h0 h5] at h1
   exact QD h1
  exact item_listR pl.isList h0 (by omega) (by rw [hj];simpa using ew) fin hs
 ·have hj:(i+(its.toArray.size:Int)).toNat=j:=by
   rw [seqIndex_neg (by omega) h4] at h1
   rw [List.size_toArray,<- hl]
   exact QD h1
  exact subscriptTail_builtinR (x:=w) pl.isList.typeIs slot_list_getitem.lookup
   (wpAny_getItem_list_neg (Q:=fun r s'=>r=w/\EP X pins σ Q r s') pl.isList (by omega) (by rw [List.size_toArray]<;>omega) (by omega) (by rw [hj];simpa using ew) ⟨rfl,fin⟩) hs
theorem Nt:Af X (Nq X.K):=by
 intro value slice pins s σ H x y v u Q I rx ry h hs
 obtain ⟨p,xs,i,z,rfl,rfl,hq,he,q⟩:=h
 cases rx
 obtain ⟨t,rfl⟩:=ry
 obtain ⟨its,r,pl,hz⟩:=I.tuple hq
 obtain ⟨j,h1,h2,h3,h4,h5⟩:=oF he
 obtain ⟨w,ew,jk⟩:=r.get h2
 have hl:=r.length
 have hn:=Bj
 have fin:EP X pins σ Q w s:=⟨z,H,I,jk,q⟩
 exact subscriptTail_builtinR (x:=w) pl.typeIs slot_tuple_getitem.lookup
  (getItem_tuple (j:=j) (Q:=fun r s'=>r=w/\EP X pins σ Q r s') pl (by omega) (by omega) (by rw [List.size_toArray,<- hl];exact h1) (by simpa using ew) ⟨rfl,fin⟩) hs
theorem Nu:Af X Nr:=by
 intro value slice pins s σ H x y v u Q I rx ry h hs
 obtain ⟨z,i,c,rfl,rfl,hz,he,q⟩:=h
 obtain ⟨t,rfl⟩:=rx
 obtain ⟨t',rfl⟩:=ry
 obtain ⟨j,h1,h2,h3,h4,h5⟩:=oF he
 have hl:z.cps.toList.length=z.length:=by simp [Str.length]
 rw [hl] at h1 h4 h5
 have hn:=Bj
 exact tail_any (typeIs_str s z t) slot_str_getitem.lookup (getItem_str (c:=c) (by
  have e1:decide (i < -(2^63:Int))=false:=Qw (by omega)
  have e2:decide (i≥2^63)=false:=Qw (by omega)
  rw [e1,e2,Bool.or_false]) (by rw [h1];simpa using h2) ⟨.str ⟨#[c]⟩,H,I.tok _,⟨_,rfl⟩,q⟩) hs
theorem rX (its:List Value) (n j:Nat) (u:Value):Obj.mapSeq (·.setIfInBounds j u) {cls:=.type "list",data:=.seq its.toArray n}={cls:=.type "list",data:=.seq (its.set j u).toArray n}:=by
 simp [Obj.mapSeq]
theorem Inv.lst {pins:List (Addr×Obj)} {σ:St} {H:Hp} {s:Shared} {p:Addr} {xs:List V} (I:Inv X pins σ H s) (h:H p=some (.lst xs)):
  ∃ (its:List Value) (n:Nat),au xs its/\s.heap.get? p=some {cls:=.type "list",data:=.seq its.toArray n}/\xs.length<=sizeLine:=by
 obtain ⟨z,its,n,r,e⟩:=I.hok p _ h
 exact ⟨its,n,r,e,z⟩
theorem Inv.Nv {xs ys:List V} {its its':List Value} {n':Nat} {f:Obj->Obj} (I:Inv X pins σ H s) (h:H p=some (.lst xs))
  (ho:s.heap.get? p=some {cls:=.type "list",data:=.seq its.toArray n}) (hf:f {cls:=.type "list",data:=.seq its.toArray n}={cls:=.type "list",data:=.seq its'.toArray n'}) (r:au ys its') (hz:ys.length<=sizeLine) (t:Nat):
  Inv X pins σ (upd H p (.lst ys)) {s with heap:=s.heap.update p f,toks:=t}:=by
 have e:(s.heap.update p f).get? p=some {cls:=.type "list",data:=.seq its'.toArray n'}:=by
  rw [Heap.get?_update_self f ho (by rw [hf]<;>rfl),hf]
 refine I.write (x:=p) (e:=p) (by rw [h];trivial) (.inl rfl) (fun b u hb q=>(Heap.get?_update_other _ _ (Ne.symm hb)).trans q) ⟨_,e⟩ ?_
 exact ⟨hz,its',n',r,e⟩
def Nx:V->V->V->Hp->(Hp->Prop)->Prop:=fun o i v H Q=>∃ p xs k j,o=.ref p/\i=.int k/\H p=some (.lst xs)/\ua xs.length k=some j/\Q (upd H p (.lst (xs.set j v)))
theorem fZ:Fz X Nx:=by
 intro pins s σ H o i v ov iv u Q I ro ri rv h
 obtain ⟨p,xs,k,j,rfl,rfl,hp,hj,q⟩:=h
 cases ro
 obtain ⟨t,rfl⟩:=ri
 obtain ⟨its,n,r,ho,hz⟩:=I.lst hp
 obtain ⟨h1,h2,h3,h4⟩:=nO hj
 have hl:=r.length
 have hn:=Bj
 have I':Inv X pins σ (upd H p (.lst (xs.set j v))) {s with heap:=s.heap.update p (Obj.mapSeq (·.setIfInBounds j u))}:=
  I.Nv hp ho (rX its n j u) (r.set rv j) (by rw [List.length_set];exact hz) s.toks
 by_cases h0:0<=k
 ·have hk:k.toNat=j:=by
   rw [seqIndex_of h0 h4] at h1
   exact QD h1
  exact PySem.W.ki_setAt ho h0 (by omega) (by rw [List.size_toArray,<- hl];exact h4) (by rw [hk];exact ⟨_,I',q⟩)
 ·have hk:(k+(its.toArray.size:Int)).toNat=j:=by
   rw [seqIndex_neg (by omega) h3] at h1
   rw [List.size_toArray,<- hl]
   exact QD h1
  exact PySem.W.ki_setBack ho (by omega) (by rw [List.size_toArray,<- hl];exact h3) (by omega) (by rw [hk];exact ⟨_,I',q⟩)
theorem oH (lo hi:Option Int) (n:Nat):(sliceBounds lo hi none n).1=((HT.bj n 0 lo:Nat):Int)/\(sliceBounds lo hi none n).2.1=((HT.bj n n hi:Nat):Int)/\(sliceBounds lo hi none n).2.2=1:=by
 refine ⟨?_,?_,rfl⟩
 ·cases lo with
  | none=>simp [sliceBounds,HT.bj]
  | some i=>
   simp only [sliceBounds,HT.bj,Option.getD_none,show (1:Int) > 0 by decide,if_true]
   by_cases h:i < 0
   ·simp only [h,if_true]<;>omega
   ·simp only [h,if_false]<;>omega
 ·cases hi with
  | none=>simp [sliceBounds,HT.bj]
  | some i=>
   simp only [sliceBounds,HT.bj,Option.getD_none,show (1:Int) > 0 by decide,if_true]
   by_cases h:i < 0
   ·simp only [h,if_true]<;>omega
   ·simp only [h,if_false]<;>omega
theorem mC (its:List Value) (lo hi:Option Int):slicePick its.toArray lo hi none=((its.drop (HT.bj its.length 0 lo)).take (HT.bj its.length its.length hi - HT.bj its.length 0 lo)).toArray:=by
 obtain ⟨h1,h2,h3⟩:=oH lo hi its.toArray.size
 unfold slicePick
 rw [h1,h2,h3]
 simp only [sliceRange_one,pick_run,List.size_toArray]<;>rfl
def FL (K:QZ):V->Option Int->Option Int->Hp->VK->Prop:=fun x lo hi H Q=>∃ a xs,x=.ref a/\ai K H a xs/\∀ p,H p=none->Q (.ref p) (upd H p (.lst (f_ xs lo hi)))
theorem yN:t_ X (FL X.K):=by
 intro pins s σ H x v vl vu lo hi sl Q I rx hs pl pu h
 obtain ⟨a,xs,rfl,hx,q⟩:=h
 cases rx
 obtain ⟨its,r,ht,hz⟩:=I.list hx
 have e_:=r.length
 refine ⟨"list",_,slot_list_getitem.lookup,ht.isList.typeIs,?_⟩
 refine wpAny_getItem_list_slice ht.isList hs pl pu .none (by simp) ?_ (by rw [List.size_toArray]<;>omega)
 rw [mC,<- e_]
 refine ⟨.ref s.heap.objs.size,_,I.laid (t':=s.toks) (o:=.lst (f_ xs lo hi)) (fun b ob q=>Qc _ q) (Qy _) ?_,rfl,q _ (I.hok.fresh (Qy _))⟩
 exact ⟨Nat.le_trans (k8 xs lo hi) hz,_,0,(r.drop (HT.bj xs.length 0 lo)).take (HT.bj xs.length xs.length hi - HT.bj xs.length 0 lo),Qd _ rfl⟩
def vh:V->Bool
 | .af=>true
 | .bl _=>true
 | .int _=>true
 | .str _=>true
 | _=>false
def yq:V->V->Bool
 | .af,.af=>true
 | .bl a,.bl b=>a==b
 | .bl a,.int b=>(if a then 1 else 0)==b
 | .int a,.bl b=>a==(if b then 1 else 0)
 | .int a,.int b=>a==b
 | .str a,.str b=>a==b
 | _,_=>false
theorem Ny {y x:V} {v:Value} (ry:RelV y u) (rx:RelV x v) (fy:vh y=true) (fx:vh x=true):SeqAt.EqAt A s u v (yq y x):=by
 cases y with
 | af=>
  cases ry
  cases x with
  | af=>cases rx;exact SeqAt.EqAt.same _
  | bl b=>cases rx;exact SeqAt.EqAt.none_bool b
  | int b=>obtain ⟨t,rfl⟩:=rx;exact SeqAt.EqAt.none_int b t
  | str b=>obtain ⟨t,rfl⟩:=rx;exact SeqAt.EqAt.none_str b t
  | _=>exact absurd (show false=true from fx) Bool.false_ne_true
 | bl a=>
  cases ry
  cases x with
  | af=>cases rx;exact SeqAt.EqAt.bool_none a
  | bl b=>cases rx;exact SeqAt.EqAt.bool_bool a b
  | int b=>obtain ⟨t,rfl⟩:=rx;exact SeqAt.EqAt.bool_int a b t
  | str b=>obtain ⟨t,rfl⟩:=rx;exact SeqAt.EqAt.bool_str a b t
  | _=>exact absurd (show false=true from fx) Bool.false_ne_true
 | int a=>
  obtain ⟨t',rfl⟩:=ry
  cases x with
  | af=>cases rx;exact SeqAt.EqAt.int_none a t'
  | bl b=>cases rx;exact SeqAt.EqAt.int_bool a t' b
  | int b=>obtain ⟨t,rfl⟩:=rx;exact SeqAt.EqAt.int_int a t' b t
  | str b=>obtain ⟨t,rfl⟩:=rx;exact SeqAt.EqAt.int_str a t' b t
  | _=>exact absurd (show false=true from fx) Bool.false_ne_true
 | str a=>
  obtain ⟨t',rfl⟩:=ry
  cases x with
  | af=>cases rx;exact SeqAt.EqAt.str_none a t'
  | bl b=>cases rx;exact SeqAt.EqAt.str_bool a t' b
  | int b=>obtain ⟨t,rfl⟩:=rx;exact SeqAt.EqAt.str_int a t' b t
  | str b=>obtain ⟨t,rfl⟩:=rx;exact SeqAt.EqAt.str_str a t' b t
  | _=>exact absurd (show false=true from fx) Bool.false_ne_true
 | _=>exact absurd (show false=true from fy) Bool.false_ne_true
def lh (x:V) (u:Value):Bool:=match u with
 | .none=>yq .af x
 | .bool b=>yq (.bl b) x
 | .int i _=>yq (.int i) x
 | .str z _=>yq (.str z) x
 | _=>false
theorem vS {x y:V} (r:RelV y u) (f:vh y=true):lh x u=yq y x:=by
 cases y with
 | af=>cases r;rfl
 | bl b=>cases r;rfl
 | int i=>obtain ⟨t,rfl⟩:=r;rfl
 | str z=>obtain ⟨t,rfl⟩:=r;rfl
 | _=>exact absurd (show false=true from f) Bool.false_ne_true
theorem iR {x:V}:∀ {xs:List V} {us:List Value},au xs us->xs.all vh=true->us.any (lh x)=xs.any fun y=>yq y x
 | _,_,.nil,_=>rfl
 | y::xs,u::us,.cons r t,f=>by
  rw [List.all_cons,Bool.and_eq_true] at f
  rw [List.any_cons,List.any_cons,vS r f.1,iR t f.2]
theorem fL {A:Around} {s:Shared} {x:V} {v:Value} (rx:RelV x v) (fx:vh x=true):∀ {xs:List V} {us:List Value},au xs us->xs.all vh=true->∀ u∈us,SeqAt.EqAt A s u v (lh x u)
 | _,_,.nil,_=>fun u hu=>by cases hu
 | y::xs,u::us,.cons r t,f=>fun u' hu=>by
  rw [List.all_cons,Bool.and_eq_true] at f
  rcases Qp.mp hu with rfl | hu
  ·rw [vS r f.1];exact Ny r rx f.1 fx
  ·exact fL rx fx t f.2 u' hu
def D0 (x:V) (xs:List V):Bool:=xs.any fun y=>yq y x
def Je (K:QZ) (neg:Bool):R2:=fun x y H Q=>∃ p xs,y=.ref p/\(ai K H p xs\/ae K H p xs)/\vh x=true/\xs.all vh=true/\Q (.bl (if neg then !D0 x xs else D0 x xs)) H
theorem uT:br X (compareOp .In) (Je X.K false):=by
 intro pins s σ H x y v u Q I rx ry h
 obtain ⟨p,xs,rfl,hq,fx,fs,q⟩:=h
 cases ry
 rcases hq with hq | hq
 ·obtain ⟨its,r,pl,hz⟩:=I.list hq
  refine SeqAt.in_listAt (lh x) pl.isList (fun w hw=>fL rx fx r fs w (by simpa using hw)) ⟨.bl _,H,I,rfl,?_⟩
  rw [show its.toArray.any (lh x)=its.any (lh x) by simp,iR r fs]
  exact q
 ·obtain ⟨its,r,pl,hz⟩:=I.tuple hq
  refine SeqAt.in_tupleAt (lh x) pl (fun w hw=>fL rx fx r fs w (by simpa using hw)) ⟨.bl _,H,I,rfl,?_⟩
  rw [show its.toArray.any (lh x)=its.any (lh x) by simp,iR r fs]
  exact q
theorem nM:br X (compareOp .NotIn) (Je X.K true):=by
 intro pins s σ H x y v u Q I rx ry h
 obtain ⟨p,xs,rfl,hq,fx,fs,q⟩:=h
 cases ry
 rcases hq with hq | hq
 ·obtain ⟨its,r,pl,hz⟩:=I.list hq
  refine SeqAt.notIn_listAt (lh x) pl.isList (fun w hw=>fL rx fx r fs w (by simpa using hw)) ⟨.bl _,H,I,rfl,?_⟩
  rw [show its.toArray.any (lh x)=its.any (lh x) by simp,iR r fs]
  exact q
 ·obtain ⟨its,r,pl,hz⟩:=I.tuple hq
  refine SeqAt.notIn_tupleAt (lh x) pl (fun w hw=>fL rx fx r fs w (by simpa using hw)) ⟨.bl _,H,I,rfl,?_⟩
  rw [show its.toArray.any (lh x)=its.any (lh x) by simp,iR r fs]
  exact q
theorem oK:jx X (.type "list") (fun xs H Q=>∃ p ys,xs=[.ref p]/\(ai X.K H p ys\/ae X.K H p ys)/\∀ l,H l=none->Q (.ref l) (upd H l (.lst ys))):=by
 intro pins s σ H xs us Q I r h
 obtain ⟨p,ys,rfl,hq,q⟩:=h
 obtain ⟨u,rfl,rx⟩:=vals1 r
 cases rx
 have fin:∀ (its:List Value),au ys its->ys.length<=sizeLine->∀ (h':Heap) (c':Nat),(∀ b o',s.heap.get? b=some o'->h'.get? b=some o')->
   h'.get? s.heap.objs.size=some {cls:=.type "list",dict:=none,data:=.seq its.toArray c',slots:=#[]}->EP X pins σ Q (.ref s.heap.objs.size) {s with heap:=h'}:=fun its r' hz h' c' kp e=>
  ⟨.ref s.heap.objs.size,_,I.laid (t':=s.toks) kp (Qy _) (show bx X.prog X.w _ h' _ (.lst ys) from ⟨hz,its,c',r',e⟩),rfl,q _ (I.hok.fresh (Qy _))⟩
 rcases hq with hq | hq
 ·obtain ⟨its,r',pl,hz⟩:=I.list hq
  have e_:=r'.length
  obtain ⟨o,ho,hc,n,hd⟩:=pl.isList
  exact call_list_seq p (.inl rfl) ho hc hd (fun h' c' kp e=>fin its r' hz h' c' kp e) (by simp only [List.size_toArray]<;>omega)
 ·obtain ⟨its,r',pl,hz⟩:=I.tuple hq
  have e_:=r'.length
  obtain ⟨o,ho,hc,n,hd⟩:=pl
  exact call_list_seq p (.inr rfl) ho hc hd (fun h' c' kp e=>fin its r' hz h' c' kp e) (by simp only [List.size_toArray]<;>omega)
theorem mG:jx X (.type "tuple") (fun xs H Q=>∃ p ys,xs=[.ref p]/\((ai X.K H p ys/\∀ l,H l=none->Q (.ref l) (upd H l (.tup ys)))\/(ae X.K H p ys/\Q (.ref p) H))):=by
 intro pins s σ H xs us Q I r h
 obtain ⟨p,ys,rfl,h⟩:=h
 obtain ⟨u,rfl,rx⟩:=vals1 r
 cases rx
 rcases h with ⟨hq,q⟩ | ⟨hq,q⟩
 ·obtain ⟨its,r',pl,hz⟩:=I.list hq
  have e_:=r'.length
  refine call_tuple_list pl.isList (fun h' kp=>?_) (by simp only [List.size_toArray]<;>omega)
  have I1:Inv X pins σ H {s with heap:=h'}:=I.kept (t':=s.toks) kp
  have I2:Inv X pins σ (upd H h'.objs.size (.tup ys)) {s with heap:=h'.push {cls:=.type "tuple",data:=.seq its.toArray}}:=
   I1.laid (t':=s.toks) (fun b o e=>Qc _ e) (Qy _) (show bx X.prog X.w _ _ _ (.tup ys) from ⟨⟨hz,yj.new rfl rfl⟩,its,r',IsTup.new _ _⟩)
  exact ⟨.ref h'.objs.size,_,I2,rfl,q _ (I1.hok.fresh (Qy _))⟩
 ·obtain ⟨its,r',pl,hz⟩:=I.tuple hq
  exact call_tuple_same pl ⟨.ref p,H,I,rfl,q⟩
def FN (K:QZ) (T:String) (x:V) (H:Hp):Prop:=match x with
 | .str _=>T="str"
 | .int _=>T="int"
 | .ref p=>(T="list"/\∃ xs,ai K H p xs)\/(T="tuple"/\∃ o,K.lookup p=some o/\o.cls=.type "tuple"/\o.dict=none)\/
   (T="dict"/\((∃ kvs,H p=some (.dK kvs))\/∃ kvs,H p=some (.dT kvs)))\/(T="set"/\∃ S n,H p=some (.set S n))
 | _=>False
theorem vC {x:V} {v:Value} (I:Inv X pins σ H s) (r:RelV x v) (ty:FN X.K T x H):
  s.TypeIs v T/\∀ a,v=.ref a->∃ ob,s.heap.get? a=some ob/\ob.dict=none:=by
 cases x with
 | str z=>
  obtain ⟨t,rfl⟩:=r
  cases (show T="str" from ty)
  exact ⟨typeIs_str s z t,fun _ e=>nomatch e⟩
 | int i=>
  obtain ⟨t,rfl⟩:=r
  cases (show T="int" from ty)
  exact ⟨typeIs_int s i t,fun _ e=>nomatch e⟩
 | ref p=>
  cases r
  rcases ty with ⟨rfl,xs,hq⟩ | ⟨rfl,o,hk,hc,hd⟩ | ⟨rfl,hk⟩ | ⟨rfl,S,n,hk⟩
  ·obtain ⟨its,_,pl,_⟩:=I.list hq
   refine ⟨pl.isList.typeIs,fun a e=>?_⟩
   cases e
   obtain ⟨o,n,e,c,hd,_⟩:=pl
   exact ⟨o,e,hd⟩
  ·refine ⟨⟨o,I.fz p o hk,hc⟩,fun a e=>?_⟩
   cases e
   exact ⟨o,I.fz _ o hk,hd⟩
  ·have z:∃ o,s.heap.get? p=some o/\o.ExactDict:=by
    rcases hk with ⟨kvs,hk⟩ | ⟨kvs,hk⟩
    ·obtain ⟨_,_,_,_,o,_,_,e,ex,_⟩:=I.hok p _ hk
     exact ⟨o,e,ex⟩
    ·obtain ⟨_,_,_,_,o,_,_,e,ex,_⟩:=I.hok p _ hk
     exact ⟨o,e,ex⟩
   obtain ⟨o,e,ex⟩:=z
   refine ⟨⟨o,e,ex.1⟩,fun a e2=>?_⟩
   cases e2
   exact ⟨o,e,ex.2.1⟩
  ·obtain ⟨o,_,_,_,e,ex,_⟩:=I.hok p _ hk
   refine ⟨⟨o,e,ex.1⟩,fun a e2=>?_⟩
   cases e2
   exact ⟨o,e,ex.2.1⟩
 | _=>exact False.elim ty
def Jf (K:QZ) (T:String) (r:V->List V->Hp->VK->Prop) (to:TE):TE:=fun σ H Q=>to σ H fun x H1=>FN K T x H1/\r x [] H1 Q
def FO (K:QZ) (T:String) (r:V->List V->Hp->VK->Prop) (to:TE) (t:TA):TE:=fun σ H Q=>to σ H fun x H1=>FN K T x H1/\t σ H1 fun xs H2=>r x xs H2 Q
variable {o:Expr} {id:String} {r:V->List V->Hp->VK->Prop}
theorem Nz (pa:PlainAttrs T) (slot:Slot T name id) (xh:typeOf (.builtin id)=pure (.type "method_descriptor")) (hm:FJ X id r) (ho:PE X o to)
  (xj:attributeBase o name X.env (eval o X.env)=eval o X.env:=by rfl) (xn:(apos.endLine==cpos.line)=true:=by rfl):PE X (.Call (.Attribute o name apos) [] [] cpos) (Jf X.K T r to):=by
 intro pins s σ H Q I h
 refine wpAny_Call_method0_late xj xn (aq (ho pins s σ H _ I h) ?_)
 rintro v s1 ⟨x,H1,I1,r1,ty,q1⟩
 obtain ⟨h1,h2⟩:=vC I1 r1 ty
 exact ⟨T,id,pa,slot,xh,h1,h2,Calls.callWith_builtin rfl (PySem.evalArgs_none (hm pins s1 σ H1 x [] v [] Q I1 r1 .nil q1))⟩
theorem NB (pa:PlainAttrs T) (slot:Slot T name id) (xh:typeOf (.builtin id)=pure (.type "method_descriptor")) (hm:FJ X id r) (ho:PE X o to) (ha:PA X (e::es) t)
  (xj:attributeBase o name X.env (eval o X.env)=eval o X.env:=by rfl)
  (qc:((backTo cpos (starEach (e::es) X.env)).all (fun x=> !x.1)&&(backToKw cpos (keywordEach [] X.env)).all (fun x=>x.1.isSome)
   &&decide ((e::es).length+([]:List Keyword).length+(if ([]:List Keyword).isEmpty then 0 else 1) < 30))=true:=by rfl)
  (xn:(apos.endLine==cpos.line)=true:=by rfl) (hs:starEach (e::es) X.env=(false,eval e X.env)::starEach es X.env:=by rfl) (Cw:(backTo cpos (starEach es X.env)).any (·.1)=false:=by rfl):
  PE X (.Call (.Attribute o name apos) (e::es) [] cpos) (FO X.K T r to t):=by
 intro pins s σ H Q I h
 refine wpAny_Call_method_late xj qc xn rfl (aq (ho pins s σ H _ I h) ?_)
 rintro v s1 ⟨x,H1,I1,r1,ty,q1⟩
 obtain ⟨h1,h2⟩:=vC I1 r1 ty
 refine ⟨T,id,pa,slot,xh,h1,h2,?_⟩
 have hA:=ha cpos pins s1 σ H1 _ I1 q1
 rw [hs] at hA ⊢
 refine Calls.callWith_builtin (by show (false||(backTo cpos (starEach es X.env)).any (·.1))=false;rw [Cw]<;>rfl) (Calls.evalArgs_plain ?_)
 exact aq hA fun us s2 ⟨vs,H2,I2,r2,q2⟩=>hm pins s2 σ H2 x vs v us Q I2 r1 r2 q2
/- xs.append(e),list.index on a Vj tuple .. are FJ facts of 06m -/
end
def Ag (X:Cx) (id:String) (r:V->List V->Hp->VK->Prop):Prop:=
 ∀ (pins:List (Addr×Obj)) (s:Shared) (σ:St) (H:Hp) (x:V) (xs:List V) (v:Value) (us:List Value) (Q:VK),Inv X pins σ H s->RelV x v->au xs us->r x xs H Q->
  wpAny (model X.prog X.w) X.A (call (.builtin id) (v::us)) (EP X pins σ Q) X.xe s
theorem au.one {x:V} {us:List Value} (h:au [x] us):∃ u,us=[u]/\RelV x u:=by
 cases h with
 | cons r t=>
  cases t
  exact ⟨_,rfl,r⟩
theorem au.two {x y:V} (h:au [x,y] us):∃ u v,us=[u,v]/\RelV x u/\RelV y v:=by
 cases h with
 | cons r t=>
  cases t with
  | cons q t=>
   cases t
   exact ⟨_,_,rfl,r,q⟩
theorem au.zero:∀ {us:List Value},au [] us->us=[]
 | _,.nil=>rfl
theorem au.dropLast {xs:List V} {us:List Value} (h:au xs us):au xs.dropLast us.dropLast:=by
 induction h with
 | nil=>exact .nil
 | cons r t ih=>
  cases t with
  | nil=>exact .nil
  | cons q t'=>exact .cons r ih
theorem au.eraseIdx:∀ {xs:List V} {us:List Value} (i:Nat),au xs us->au (xs.eraseIdx i) (us.eraseIdx i)
 | _,_,_,.nil=>.nil
 | _,_,0,.cons _ t=>t
 | _,_,i+1,.cons r t=>.cons r (au.eraseIdx i t)
theorem au.rep {xs:List V} {us:List Value} (h:au xs us):∀ k:Nat,au (List.replicate k xs).flatten (List.replicate k us).flatten
 | 0=>.nil
 | k+1=>by
  rw [List.replicate_succ,List.replicate_succ,List.flatten_cons,List.flatten_cons]
  exact au.append h (au.rep h k)
theorem sJ (l:List α):l.eraseIdx (l.length - 1)=l.dropLast:=by
 induction l with
 | nil=>rfl
 | cons a r ih=>
  cases r with
  | nil=>rfl
  | cons b r=>
   have e:(a::b::r).length - 1=((b::r).length - 1)+1:=by
    have h1:(a::b::r).length=r.length+2:=rfl
    have h2:(b::r).length=r.length+1:=rfl
    omega
   rw [e,List.eraseIdx_cons_succ,ih]
   all_goals rfl
theorem mO {α:Type}:∀ (l:List α) (i:Nat),(l.eraseIdx i).length<=l.length
 | [],_=>Qy _
 | _::_,0=>Nat.le_succ _
 | _::r,i+1=>Nat.succ_le_succ (mO r i)
theorem mQ (its:List Value):∀ (k:Nat) (acc:List Value),
  List.foldl (fun x1 x2=>x1++x2) acc.toArray (List.replicate k its.toArray)=(acc++(List.replicate k its).flatten).toArray
 | 0,acc=>by simp
 | k+1,acc=>by
  have e:acc.toArray++its.toArray=(acc++its).toArray:=by simp
  have e2:(acc++its)++(List.replicate k its).flatten=acc++(List.replicate (k+1) its).flatten:=by
   rw [List.replicate_succ,List.flatten_cons,List.append_assoc]
  rw [<- e2,<- mQ its k (acc++its),<- e,List.replicate_succ,List.foldl_cons]
section
variable {xs ys zs:List V}
theorem Inv.D3 {its its':List Value} {f:Array Value->Array Value} (I:Inv X pins σ H s) (hH:H l=some (.lst xs))
  (e:s.heap.get? l=some {cls:=.type "list",data:=.seq its.toArray n}) (hf:f its.toArray=its'.toArray) (hv:au ys its') (hz:ys.length<=sizeLine):
  Inv X pins σ (upd H l (.lst ys)) {s with heap:=s.heap.update l (Obj.mapSeq f),toks:=t'}:=by
 have q:=PySem.IsL.update e f
 rw [hf] at q
 refine I.write (x:=l) (e:=l) (by rw [hH];exact trivial) (.inl rfl) (fun b' u hb hu=>(Heap.get?_update_other s.heap (Obj.mapSeq f) (Ne.symm hb)).trans hu) ⟨_,q⟩ ?_
 exact ⟨hz,its',_,hv,q⟩
theorem Inv.Jg {its:List Value} (I:Inv X pins σ H s) (hv:au ys its) (hz:ys.length<=sizeLine):
  Inv X pins σ (upd H s.heap.objs.size (.lst ys)) {s with heap:=s.heap.push {cls:=.type "list",data:=.seq its.toArray},toks:=t'}:=
 I.laid (fun _ _ q=>Qc _ q) (Qy _) ⟨hz,its,0,hv,Qd _ rfl⟩
theorem Inv.fresh (I:Inv X pins σ H s):H s.heap.objs.size=none:=I.hok.fresh (Qy _)
theorem Inv.yr (I:Inv X pins σ H s) (hH:H l=some (.lst xs)):xs.length<=sizeLine/\∃ (its:List Value) (n:Nat),au xs its/\xs.length=its.length/\s.heap.get? l=some {cls:=.type "list",data:=.seq its.toArray n}:=by
 obtain ⟨z,its,n,r,e⟩:=I.hok l _ hH
 exact ⟨z,its,n,r,r.length,e⟩
theorem Jh (h:n<=sizeLine):Builtin.List.listTooLong n=false:=by
 unfold Builtin.List.listTooLong
 exact Qw (by omega)
end
def NC:V->List V->Hp->VK->Prop:=fun x vs H Q=>∃ l xs y,x=.ref l/\vs=[y]/\H l=some (.lst xs)/\xs.length < sizeLine/\Q .af (upd H l (.lst (xs++[y])))
theorem cE:Ag X "list.append" NC:=by
 intro pins s σ H x vs v us Q I rx rv h
 obtain ⟨l,xs,y,rfl,rfl,hH,hz,q⟩:=h
 cases rx
 obtain ⟨u,rfl,ru⟩:=rv.one
 obtain ⟨z,its,n,r,hl,e⟩:=I.yr hH
 refine call_meets F.slot_list_append ⟨_,e,rfl⟩ F.entry_list_append (F.args_list_append_2 _ _) (PySem.list_append l its.toArray n u (by rw [List.size_toArray];omega)) ⟨e,?_⟩
 refine ⟨.af,_,I.D3 (its':=its++[u]) hH e (by simp) (r.append (.cons ru .nil)) ?_,rfl,q⟩
 rw [Qk,List.length_singleton]
 omega
def ND:V->List V->Hp->VK->Prop:=fun x vs H Q=>∃ l b xs zs,x=.ref l/\vs=[.ref b]/\H l=some (.lst xs)/\H b=some (.lst zs)/\xs.length+zs.length<=sizeLine/\Q .af (upd H l (.lst (xs++zs)))
theorem jP:Ag X "list.extend" ND:=by
 intro pins s σ H x vs v us Q I rx rv h
 obtain ⟨l,b,xs,zs,rfl,rfl,hH,hB,hz,q⟩:=h
 cases rx
 obtain ⟨u,rfl,ru⟩:=rv.one
 cases ru
 obtain ⟨z,its,n,r,hl,e⟩:=I.yr hH
 obtain ⟨z2,its2,n2,r2,i_,e2⟩:=I.yr hB
 have hsz:its.toArray.size+its2.toArray.size<=sizeLine:=by rw [List.size_toArray,List.size_toArray];omega
 have FP:¬(!its.toArray.isEmpty&&Builtin.List.listTooLong (its.toArray.size+its2.toArray.size))=true:=by
  rw [Jh hsz,Bool.and_false]
  exact Bool.false_ne_true
 refine call_meets F.slot_list_extend ⟨_,e,rfl⟩ F.entry_list_extend (F.args_list_extend_2 _ _)
  (AutoSeq1.list_extend_list_list_0 l its.toArray n b its2.toArray n2 FP (by rw [List.size_toArray];omega) (by omega)) ⟨e,e2,?_⟩
 refine ⟨.af,_,I.D3 (its':=its++its2) hH e (by simp) (r.append r2) ?_,rfl,q⟩
 rw [Qk]
 omega
def NE:V->List V->Hp->VK->Prop:=fun x vs H Q=>∃ l xs y,x=.ref l/\vs=[]/\H l=some (.lst xs)/\xs[xs.length - 1]? =some y/\Q y (upd H l (.lst xs.dropLast))
theorem wN:Ag X "list.pop" NE:=by
 intro pins s σ H x vs v us Q I rx rv h
 obtain ⟨l,xs,y,rfl,rfl,hH,hy,q⟩:=h
 cases rx
 have Cy:=rv.zero
 subst Cy
 obtain ⟨z,its,n,r,hl,e⟩:=I.yr hH
 obtain ⟨u,hu,ru⟩:=r.get hy
 have Cz:its.toArray[its.toArray.size - 1]? =some u:=by
  show its.toArray[its.length - 1]? =some u
  rw [<- Array.getElem?_toList,<- hl]
  exact hu
 refine call_meets F.slot_list_pop ⟨_,e,rfl⟩ F.entry_list_pop (F.args_list_pop_1 _) (MeetsSeq.list_pop_last l its.toArray n u Cz (by rw [List.size_toArray];omega)) ⟨e,?_⟩
 refine ⟨y,_,I.D3 (its':=its.dropLast) hH e ?_ r.dropLast ?_,ru,q⟩
 ·show its.toArray.eraseIdxIfInBounds (its.toArray.size - 1)=its.dropLast.toArray
  rw [List.size_toArray,List.eraseIdxIfInBounds_toArray,sJ]
 ·rw [List.length_dropLast]
  omega
def NF:V->List V->Hp->VK->Prop:=fun x vs H Q=>∃ l xs i k y,x=.ref l/\vs=[.int i]/\H l=some (.lst xs)/\ -(2^63)<=i/\i < 2^63/\seqIndex? i xs.length=some k/\xs[k]? =some y/\Q y (upd H l (.lst (xs.eraseIdx k)))
theorem uZ:Ag X "list.pop" NF:=by
 intro pins s σ H x vs v us Q I rx rv h
 obtain ⟨l,xs,i,k,y,rfl,rfl,hH,h1,h2,hk,hy,q⟩:=h
 cases rx
 obtain ⟨u,rfl,ru⟩:=rv.one
 obtain ⟨t,rfl⟩:=ru
 obtain ⟨z,its,n,r,hl,e⟩:=I.yr hH
 obtain ⟨w,hw,jk⟩:=r.get hy
 refine call_meets F.slot_list_pop ⟨_,e,rfl⟩ F.entry_list_pop (F.args_list_pop_2 _ _)
  (MeetsSeq.list_pop_at l its.toArray n i t k w (fitsIndex_both h1 h2) (by rw [List.size_toArray,<- hl];exact hk) (by rw [<- Array.getElem?_toList];exact hw) (by rw [List.size_toArray];omega)) ⟨e,?_⟩
 refine ⟨y,_,I.D3 (its':=its.eraseIdx k) hH e ?_ (r.eraseIdx k) ?_,jk,q⟩
 ·show its.toArray.eraseIdxIfInBounds k=(its.eraseIdx k).toArray
  rw [List.eraseIdxIfInBounds_toArray]
 ·have:=mO xs k
  omega
def NG:R2:=fun x y H Q=>∃ l b xs zs,x=.ref l/\y=.ref b/\H l=some (.lst xs)/\H b=some (.lst zs)/\xs.length+zs.length<=sizeLine/\∀ p,H p=none->Q (.ref p) (upd H p (.lst (xs++zs)))
theorem zW:br X (binaryOp .Add) NG:=by
 intro pins s σ H x y v u Q I rx ry h
 obtain ⟨l,b,xs,zs,rfl,rfl,hH,hB,hz,q⟩:=h
 cases rx
 cases ry
 obtain ⟨z,its,n,r,hl,e⟩:=I.yr hH
 obtain ⟨z2,its2,n2,r2,i_,e2⟩:=I.yr hB
 refine PySem.P.add_list e e2 ?_ (by rw [List.size_toArray,List.size_toArray];omega)
 have ea:its.toArray++its2.toArray=(its++its2).toArray:=by simp
 rw [ea]
 exact ⟨.ref _,_,I.Jg (t':=s.toks) (r.append r2) (by rw [Qk];omega),rfl,q _ I.fresh⟩
def NH:R2:=fun x y H Q=>∃ l k xs,x=.ref l/\y=.int k/\H l=some (.lst xs)/\ -(2^63)<=k/\k < 2^63/\xs.length*k.toNat<=sizeLine/\
 ∀ p,H p=none->Q (.ref p) (upd H p (.lst (List.replicate k.toNat xs).flatten))
theorem xO (xs:List α) (k:Nat):(List.replicate k xs).flatten.length=k*xs.length:=by
 induction k with
 | zero=>simp
 | succ k ih=>rw [List.replicate_succ,List.flatten_cons,Qk,ih,Nat.succ_mul,Nat.add_comm]
theorem NI:br X (binaryOp .Mult) NH:=by
 intro pins s σ H x y v u Q I rx ry h
 obtain ⟨l,k,xs,rfl,rfl,hH,h1,h2,hz,q⟩:=h
 cases rx
 obtain ⟨t,rfl⟩:=ry
 obtain ⟨z,its,n,r,hl,e⟩:=I.yr hH
 have e_:its.toArray.size*k.toNat<=sizeLine:=by rw [List.size_toArray,<- hl];exact hz
 have NJ:¬its.toArray.size*k.toNat > (2^63 - 1) / 8:=by
  have:(sizeLine:Nat)<=(2^63 - 1) / 8:=by decide
  omega
 have NK:¬(!Builtin.List.listFitsIndex k)=true:=by
  rw [fitsIndex_both h1 h2]
  exact Bool.false_ne_true
 have FP:¬Builtin.List.listTooLong (its.toArray.size*k.toNat)=true:=by
  rw [Jh e_]
  exact Bool.false_ne_true
 have hnew:List.foldl (fun x1 x2=>x1++x2) #[] (List.replicate (if its.toArray.isEmpty=true then 0 else k.toNat) its.toArray)=(List.replicate k.toNat its).flatten.toArray:=by
  have f0:∀ m:Nat,List.foldl (fun x1 x2=>x1++x2) #[] (List.replicate m its.toArray)=(List.replicate m its).flatten.toArray:=fun m=>by
   have:=mQ its m []
   rw [List.nil_append] at this
   exact this
  rw [f0]
  cases its with
  | nil=>simp
  | cons a r'=>rw [if_neg (by simp)]
 refine wpAny_binaryOp_repeat_ref (T:="list") (U:="int") (by decide) ⟨_,e,rfl⟩ (fun s'=>typeIs_int s' k t) noFill_list_mul F.fills_int_mul F.slot_int_rmul repeat_list F.slot_int_index.lookup
  (call_meets F.slot_int_rmul (typeIs_int s k t) F.entry_int_rmul (F.args_int_rmul_2 _ _) (int___rmul___int_list k t l its.toArray n)
   ⟨e,rfl,⟨_,e,rfl⟩,call_meets F.slot_list_mul ⟨_,e,rfl⟩ F.entry_list_mul (F.args_list_mul_2 _ _) (AutoListH.list___mul___list_int_3 l its.toArray n k t NK NJ FP) ⟨e,?_⟩⟩)
 rw [hnew]
 exact ⟨.ref _,_,I.Jg (t':=s.toks) (r.rep k.toNat) (by rw [xO,Nat.mul_comm];exact hz),rfl,q _ I.fresh⟩
section
variable {κ:Type} [DecidableEq κ]
def c_ (kvs:List (κ×V)) (k:κ):Option V:=(kvs.find? fun kv=>decide (kv.1=k)).map (·.2)
def putK (kvs:List (κ×V)) (k:κ) (v:V):List (κ×V):=
 if (kvs.any fun kv=>decide (kv.1=k))=true then kvs.map (fun kv=>if kv.1=k then (kv.1,v) else kv) else kvs++[(k,v)]
theorem bY {p:κ×V} {r:List (κ×V)} {k:κ} (e:p.1=k):c_ (p::r) k=some p.2:=by simp [c_,List.find?_cons,e]
theorem bX {p:κ×V} {r:List (κ×V)} {k:κ} (e:¬p.1=k):c_ (p::r) k=c_ r k:=by simp [c_,List.find?_cons,e]
theorem gP (k:κ):∀ kvs:List (κ×V),(kvs.any fun kv=>decide (kv.1=k))=(c_ kvs k).isSome
 | []=>rfl
 | p::r=>by
  rw [List.any_cons]
  by_cases e:p.1=k
  ·simp only [bY e,decide_eq_true e,Bool.true_or,Option.isSome_some]
  ·rw [bX e,Qw e,Bool.false_or];exact gP k r
theorem qI (k j:κ) (y:V):∀ kvs:List (κ×V),c_ (kvs.map fun kv=>if kv.1=k then (kv.1,y) else kv) j=(c_ kvs j).map fun x=>if j=k then y else x
 | []=>rfl
 | p::r=>by
  have ih:=qI k j y r
  rw [List.map_cons]
  by_cases h:p.1=k
  ·rw [if_pos h]
   by_cases e:p.1=j
   ·rw [bY (p:=(p.1,y)) e,bY e,Option.map_some,if_pos (e.symm.trans h)]
   ·rw [bX (p:=(p.1,y)) e,bX e,ih]
  ·rw [if_neg h]
   by_cases e:p.1=j
   ·rw [bY (p:=p) e,bY e,Option.map_some,if_neg (fun z=>h (e.trans z))]
   ·rw [bX (p:=p) e,bX e,ih]
theorem jJ (k j:κ) (y:V):∀ kvs:List (κ×V),c_ kvs k=none->c_ (kvs++[(k,y)]) j=if j=k then some y else c_ kvs j
 | [],_=>by
  by_cases e:k=j
  ·rw [if_pos e.symm];exact bY (p:=(k,y)) e
  ·rw [if_neg (fun z=>e z.symm)];exact bX (p:=(k,y)) e
 | p::r,hn=>by
  rw [List.cons_append]
  have hk:¬p.1=k:=fun z=>by rw [bY z] at hn;cases hn
  rw [bX hk] at hn
  have ih:=jJ k j y r hn
  by_cases e:p.1=j
  ·rw [bY e,bY e,if_neg (fun z=>hk (e.trans z))]
  ·rw [bX e,bX e,ih]
theorem wX (kvs:List (κ×V)) (k j:κ) (y:V):c_ (putK kvs k y) j=if j=k then some y else c_ kvs j:=by
 unfold putK
 by_cases a:(kvs.any fun kv=>decide (kv.1=k))=true
 ·rw [if_pos a,qI]
  rw [gP] at a
  by_cases e:j=k
  ·obtain ⟨x,hx⟩:=Option.isSome_iff_exists.mp a
   rw [if_pos e,e,hx,Option.map_some,if_pos rfl]
  ·rw [if_neg e]
   cases c_ kvs j with
   | none=>rfl
   | some x=>rw [Option.map_some,if_neg e]
 ·rw [if_neg a]
  refine jJ k j y kvs ?_
  rw [gP] at a
  cases q:c_ kvs k with
  | none=>rfl
  | some x=>rw [q] at a;exact (a rfl).elim
theorem d8 (kvs:List (κ×V)) (k:κ) (v:V):(putK kvs k v).length<=kvs.length+1:=by
 unfold putK
 split
 ·rw [Ql];omega
 ·rw [Qk,List.length_cons,List.length_nil];omega
theorem oV {kvs:List (κ×V)} {k:κ} (v:V) (h:c_ kvs k=none):putK kvs k v=kvs++[(k,v)]:=by
 unfold putK
 rw [gP,h]
 exact if_neg (by decide)
theorem mi.FQ {o:Option V} {u:Option Value} (r:mi o u):o.isSome=u.isSome:=by
 cases o with
 | none=>cases u with
  | none=>rfl
  | some _=>exact (show False from r).elim
 | some _=>cases u with
  | none=>exact (show False from r).elim
  | some _=>rfl
theorem mi.getD {o:Option V} {u:Option Value} {d:V} {d':Value} (r:mi o u) (rd:RelV d d'):RelV (o.getD d) (u.getD d'):=by
 cases o with
 | none=>cases u with
  | none=>exact rd
  | some _=>exact (show False from r).elim
 | some _=>cases u with
  | none=>exact (show False from r).elim
  | some _=>exact r
theorem KV.val {kvs:List (κ×V)} {vs:List (κ×Value)} (r:KV kvs vs) (k:κ):mi (c_ kvs k) (valueAt vs k):=by
 unfold KV at r
 induction r with
 | nil=>exact True.intro
 | @cons p q ps qs h t ih=>
  obtain ⟨h1,h2⟩:=h
  by_cases e:p.1=k
  ·have e':q.1=k:=h1.symm.trans e
   have b:valueAt (q::qs) k=some q.2:=by simp [valueAt,List.find?_cons,e']
   rw [bY e,b];exact h2
  ·have e':¬q.1=k:=fun z=>e (h1.trans z)
   have b:valueAt (q::qs) k=valueAt qs k:=by simp [valueAt,List.find?_cons,e']
   rw [bX e,b];exact ih
theorem KV.any {kvs:List (κ×V)} {vs:List (κ×Value)} (r:KV kvs vs) (k:κ):(kvs.any fun kv=>decide (kv.1=k))=vs.any fun kv=>decide (kv.1=k):=by
 unfold KV at r
 induction r with
 | nil=>rfl
 | cons h t ih=>rw [List.any_cons,List.any_cons,ih,h.1]
theorem KV.repl {kvs:List (κ×V)} {vs:List (κ×Value)} (r:KV kvs vs) (k:κ) {y:V} (ry:RelV y u):
  KV (kvs.map fun kv=>if kv.1=k then (kv.1,y) else kv) (vs.map fun kv=>if kv.1=k then (kv.1,u) else kv):=by
 unfold KV at r ⊢
 induction r with
 | nil=>exact .nil
 | @cons p q ps qs h t ih=>
  rw [List.map_cons,List.map_cons]
  refine .cons ?_ ih
  obtain ⟨h1,h2⟩:=h
  by_cases e:p.1=k
  ·rw [if_pos e,if_pos (h1.symm.trans e)];exact ⟨h1,ry⟩
  ·rw [if_neg e,if_neg (fun z=>e (h1.trans z))];exact ⟨h1,h2⟩
theorem KV.put {kvs:List (κ×V)} {vs:List (κ×Value)} (r:KV kvs vs) (k:κ) {y:V} (ry:RelV y u):KV (putK kvs k y) (stored vs k u):=by
 unfold putK stored
 rw [r.any k]
 by_cases e:(vs.any fun kv=>decide (kv.1=k))=true
 ·rw [if_pos e,if_pos e];exact r.repl k ry
 ·rw [if_neg e,if_neg e];exact Paired.snoc r ⟨rfl,ry⟩
theorem KV.length {kvs:List (κ×V)} {vs:List (κ×Value)} (r:KV kvs vs):kvs.length=vs.length:=Paired.length r
end
theorem jU {k:Key} (r:RelV (kV k) u):(fj P w).is k u=true:=by
 cases k with
 | inl i=>obtain ⟨t,e⟩:=(show ∃ t,u=Value.int i t from r);subst e;exact pF P w i t
 | inr x=>obtain ⟨t,e⟩:=(show ∃ t,u=Value.str x t from r);subst e;exact gH P w x t
theorem mL {P:Program} {w:World}:∀ {ks:List Key} {us:List Value},au (ks.map kV) us->ItemsAre (fj P w) ks us
 | [],_,r=>by rw [List.map_nil] at r;cases r;exact .nil
 | k::ks,_,r=>by
  rw [List.map_cons] at r
  cases r with
  | cons h t=>exact .cons (jU h) (mL t)
abbrev KT (H:Hp):List (List Key×V)->List (List Key×Addr×Value)->Prop:=Paired fun p q=>p.1=q.1/\fu H q.2.1 (p.1.map kV)/\RelV p.2 q.2.2
theorem KT.val {kvs:List (List Key×V)} (r:KT H kvs xs) (k:List Key):mi (c_ kvs k) ((atKey xs k).map (·.2)):=by
 induction r with
 | nil=>exact True.intro
 | @cons p q ps qs h t ih=>
  obtain ⟨h1,_,h2⟩:=h
  by_cases e:p.1=k
  ·have e':q.1=k:=h1.symm.trans e
   have b:atKey (q::qs) k=some q.2:=by simp [atKey,List.find?_cons,e']
   rw [bY e,b];exact h2
  ·have e':¬q.1=k:=fun z=>e (h1.trans z)
   have b:atKey (q::qs) k=atKey qs k:=by simp [atKey,List.find?_cons,e']
   rw [bX e,b];exact ih
theorem KT.repl {kvs:List (List Key×V)} (r:KT H kvs xs) (k:List Key) {y:V} (ry:RelV y u):
  KT H (kvs.map fun kv=>if kv.1=k then (kv.1,y) else kv) (xs.map (putAt k u)):=by
 induction r with
 | nil=>exact .nil
 | @cons p q ps qs h t ih=>
  rw [List.map_cons,List.map_cons]
  refine .cons ?_ ih
  obtain ⟨h1,h2,h3⟩:=h
  unfold putAt
  by_cases e:p.1=k
  ·rw [if_pos e,if_pos (h1.symm.trans e)];exact ⟨h1,h2,ry⟩
  ·rw [if_neg e,if_neg (fun z=>e (h1.trans z))];exact ⟨h1,h2,h3⟩
theorem KT.put {kvs:List (List Key×V)} (r:KT H kvs xs) (k:List Key) {y:V} (hb:fu H b (k.map kV)) (ry:RelV y u):
  KT H (putK kvs k y) (storedH xs k b u):=by
 have e:(kvs.any fun kv=>decide (kv.1=k))=(atKey xs k).isSome:=by
  rw [gP,(r.val k).FQ,Option.isSome_map]
 unfold putK storedH
 rw [e]
 by_cases q:(atKey xs k).isSome=true
 ·rw [if_pos q,if_pos q];exact r.repl k ry
 ·rw [if_neg q,if_neg q];exact Paired.snoc r ⟨rfl,hb,ry⟩
theorem KT.keeps {kvs:List (List Key×V)} (r:KT H kvs xs) (ht:∀ b ys,fu H b ys->fu H' b ys):KT H' kvs xs:=
 Paired.Fo r fun _ _ z=>⟨z.1,ht _ _ z.2.1,z.2.2⟩
theorem zL {u:HO} (ok:bw P w H h) (e:Rd H a u):bx P w H h a u:=e.ok ok
theorem iW {kvs:List (Key×V)} (ok:bw P w H h) (e:Rd H a (.dK kvs)):kvs.length<=sizeLine/\(a==sysModules)=false/\∃ vs,KV kvs vs/\h.DictOf (fj P w) a vs:=
 show bx P w H h a (.dK kvs) from zL ok e
theorem pT {kvs:List (Key×V)} (ok:bw P w H h) (e:H a=some (.dK kvs)):kvs.length<=sizeLine/\(a==sysModules)=false/\∃ vs,KV kvs vs/\h.DictOf (fj P w) a vs:=iW ok (.inl e)
theorem lS {ks:List Key} (ok:bw P w H h) (e:fu H a (ks.map kV)):(tupleKind (fj P w)).is h ks a:=by
 have qq:bx P w H h a (.tup (ks.map kV)):=by
  rcases e with e | ⟨_,e⟩
  ·exact ok a _ e
  ·exact (ok a _ e).2
 obtain ⟨_,its,r,o,h1,h2,n,h3⟩:=qq
 exact ⟨o,its.toArray,n,h1,h2,h3,by simpa using mL r⟩
theorem mT {kvs:List (List Key×V)} (ok:bw P w H h) (e:Rd H a (.dT kvs)):kvs.length<=sizeLine/\(a==sysModules)=false/\
  ∃ xs,KT H kvs xs/\h.DictOfH (tupleKind (fj P w)) a xs:=by
 obtain ⟨z,y,xs,r,o,es,ep,h1,h2,h3,h4,h5⟩:=(show bx P w H h a (.dT kvs) from zL ok e)
 refine ⟨z,y,xs,r,o,es,ep,h1,h2,h3,h4,fun x hx=>?_,h5⟩
 have all:∀ {l:List (List Key×V)} {m:List (List Key×Addr×Value)},KT H l m->∀ x∈m,(tupleKind (fj P w)).is h x.1 x.2.1:=by
  intro l m q
  induction q with
  | nil=>intro x hx;exact nomatch hx
  | @cons p q ps qs hq t ih=>
   intro x hx
   rcases Qp.mp hx with e | hx
   ·subst e
    exact lS ok (by rw [<- hq.1];exact hq.2.1)
   ·exact ih x hx
 exact all r x hx
theorem NL {kvs:List (List Key×V)} (ok:bw P w H h) (e:H a=some (.dT kvs)):kvs.length<=sizeLine/\(a==sysModules)=false/\
  ∃ xs,KT H kvs xs/\h.DictOfH (tupleKind (fj P w)) a xs:=mT ok (.inl e)
def jf (H:Hp) (a:Addr) (y:V) (r:Option V):Prop:=
 (∃ kvs k,Rd H a (.dK kvs)/\y=kV k/\r=c_ kvs k)\/∃ kvs k b,Rd H a (.dT kvs)/\y=.ref b/\fu H b (k.map kV)/\r=c_ kvs k
def D4 (H:Hp) (a:Addr) (y v:V) (H':Hp):Prop:=
 (∃ kvs k,H a=some (.dK kvs)/\y=kV k/\kvs.length < sizeLine/\H'=upd H a (.dK (putK kvs k v)))\/
 ∃ kvs k b,H a=some (.dT kvs)/\y=.ref b/\fu H b (k.map kV)/\kvs.length < sizeLine/\H'=upd H a (.dT (putK kvs k v))
theorem jf.k {H:Hp} {a:Addr} {kvs:List (Key×V)} {k:Key} (e:H a=some (.dK kvs)):jf H a (kV k) (c_ kvs k):=.inl ⟨kvs,k,.inl e,rfl,rfl⟩
theorem D4.k {H:Hp} {a:Addr} {kvs:List (Key×V)} {k:Key} {v:V} (e:H a=some (.dK kvs)) (hl:kvs.length < sizeLine):D4 H a (kV k) v (upd H a (.dK (putK kvs k v))):=.inl ⟨kvs,k,e,rfl,hl,rfl⟩
section
variable {y v:V} {r:Value} {o:Option V}
theorem Inv.big (I:Inv X pins σ H s):sysModules < s.heap.objs.size:=by
 have h:mainGlobals < s.heap.objs.size:=(I.mod.glob.keeps I.bk).lt
 exact Nat.lt_trans (by decide) h
theorem uX (hu:A.units+1 < cLine) (I:Inv X pins σ H s) (g:jf H a y (some v)) (ry:RelV y u) (h:∀ w' s',Inv X pins σ H s'->RelV v w'->Q w' s'):
  wpAny (model X.prog X.w) A (getItem (.ref a) u) Q E s:=by
 rcases g with ⟨kvs,k,e,ey,l⟩ | ⟨kvs,k,b,e,ey,eb,l⟩
 ·subst ey
  obtain ⟨z,hd,vs,rel,dd⟩:=iW I.hok e
  obtain ⟨w',hw,jk⟩:=mi.some_of (v:=v) (o:=valueAt vs k) (by rw [l];exact rel.val k)
  exact wpAny_getItem_of (jU ry) dd.mapOf hw (h w' _ (I.tok _) jk)
 ·subst ey
  cases (show u=Value.ref b from ry)
  obtain ⟨z,hd,xs,rel,dd⟩:=mT I.hok e
  obtain ⟨w',hw,jk⟩:=mi.some_of (v:=v) (o:=(atKey xs k).map (·.2)) (by rw [l];exact rel.val k)
  obtain ⟨p,hp,FS⟩:=Option.map_eq_some_iff.mp hw
  refine wpAny_getItem_heap (tupleKind_room_in1 hu) (lS I.hok eb) dd hp ?_
  rw [FS]
  exact h w' _ (I.tok _) jk
theorem NO (hu:A.units+1 < cLine) (I:Inv X pins σ H s) (g:jf H a y o) (ry:RelV y u) (h:∀ s',Inv X pins σ H s'->Q (.bool o.isSome) s'):
  wpAny (model X.prog X.w) A (compareOp .In u (.ref a)) Q E s:=by
 rcases g with ⟨kvs,k,e,ey,l⟩ | ⟨kvs,k,b,e,ey,eb,l⟩
 ·subst ey
  obtain ⟨z,hd,vs,rel,dd⟩:=iW I.hok e
  refine wpAny_in_of (jU ry) hd dd.mapOf ?_
  rw [<- (rel.val k).FQ,<- l]
  exact h _ (I.tok _)
 ·subst ey
  cases (show u=Value.ref b from ry)
  obtain ⟨z,hd,xs,rel,dd⟩:=mT I.hok e
  refine wpAny_in_heap (tupleKind_room_in1 hu) (lS I.hok eb) hd dd ?_
  have q:=(rel.val k).FQ
  rw [Option.isSome_map] at q
  rw [<- q,<- l]
  exact h _ (I.tok _)
theorem kR {ob:HO} (I:Inv X pins σ H s) (mu:A8 (H a)) (hs:Heap.SameBut a s.heap h') (he:∃ q,h'.get? a=some q) (new:bx X.prog X.w (upd H a ob) h' a ob):
  Inv X pins σ (upd H a ob) {s with heap:=h',toks:=t'}:=
 I.write (x:=a) (e:=a) mu (.inl rfl) (fun b q hb z=>(hs.2 b hb).trans z) he new
theorem rF {kvs:List (Key×V)} {vs:List (Key×Value)} (z:kvs.length<=sizeLine) (hd:(a==sysModules)=false) (rel:KV kvs vs) (dd:h'.DictOf (fj P w) a vs):
  bx P w H' h' a (.dK kvs):=⟨z,hd,vs,rel,dd⟩
theorem uY {Q:Unit->Shared->Prop} (hu:A.units+1 < cLine) (I:Inv X pins σ H s) (g:D4 H a y v H') (ry:RelV y u) (rv:RelV v r) (h:∀ s',Inv X pins σ H' s'->Q () s'):
  wpAny (model X.prog X.w) A (setItem (.ref a) u r) Q E s:=by
 rcases g with ⟨kvs,k,e,ey,l,eH⟩ | ⟨kvs,k,b,e,ey,eb,l,eH⟩
 ·subst ey eH
  obtain ⟨z,hd,vs,rel,dd⟩:=pT I.hok e
  have hz:vs.length<=sizeLine:=by rw [<- rel.length];exact z
  have hl:(putK kvs k v).length<=sizeLine:=by have:=d8 kvs k v;omega
  refine wpAny_setItem_pairs (hsz:=hz) (jU ry) dd fun h' qd hs=>h _ ?_
  have he:∃ q,h'.get? a=some q:=let ⟨q,_,_,hq,_⟩:=qd;⟨q,hq⟩
  exact kR I (by rw [e];exact True.intro) hs he (rF hl hd (rel.put k rv) qd)
 ·subst ey eH
  cases (show u=Value.ref b from ry)
  obtain ⟨z,hd,xs,rel,dd⟩:=NL I.hok e
  have hz:xs.length<=sizeLine:=by rw [<- Paired.length rel];exact z
  have hl:(putK kvs k v).length<=sizeLine:=by have:=d8 kvs k v;omega
  refine wpAny_setItem_heap (hsz:=hz) (tupleKind_room_in1 hu) (lS I.hok eb) dd fun h' qd hs=>h _ ?_
  obtain ⟨q,es,ep,hq,h2,h3,h4,_,h5⟩:=qd
  refine kR I (by rw [e];exact True.intro) hs ⟨q,hq⟩ ⟨hl,hd,_,(rel.put k eb rv).keeps fun c ys ec=>?_,q,es,ep,hq,h2,h3,h4,h5⟩
  refine ec.upd fun u hu z=>?_
  subst z
  rcases ec with ec | ⟨_,ec⟩<;>(rw [e] at ec;cases ec)
end
section
variable {kvs:List (Key×V)} {k:Key}
theorem NP (I:Inv X pins σ H s) (e:Rd H a (.dK kvs)) (h:∀ t s',Inv X pins σ H s'->Q (.int kvs.length t) s'):wpAny (model X.prog X.w) A (call (.builtin "len") [.ref a]) Q E s:=by
 obtain ⟨z,hd,vs,rel,dd⟩:=iW I.hok e
 refine call_len_dict hd dd (by rw [<- rel.length];rw [QL] at z;omega) ?_
 rw [<- rel.length]
 exact h _ _ (I.tok _)
end
def D5 (i:Expr):Prop:=∀ ov iv,subscripted i false ov iv=operate [ov,iv] (getItem ov iv)
theorem tL {value slice:Expr} {pos:Pos} {id:String}
  (hl:typeLookup (.type T) "__getitem__"=pure (some (.builtin id))) (hs:D5 slice)
  (h:wpAny (model prog w) A (eval value env) (fun o s₁=>wpAny (model prog w) A (eval slice env) (fun i s₂=>s₂.TypeIs o T/\wpAny (model prog w) A (getItem o i) Q E s₂) E s₁) E s):
  wpAny (model prog w) A (eval (.Subscript value slice pos) env) Q E s:=by
 refine Subscript_ (wpAny_mono h (fun o s₁ h₁=>wpAny_mono h₁ (fun i s₂ h₂=>?_) fun _ _ x=>x) fun _ _ x=>x)
 obtain ⟨hT,h₂⟩:=h₂
 unfold subscriptTail
 refine QS ?_
 rw [getitemInPython_of_ne hT.not_modules]
 refine QS (wpAny_specialOf hT hl ?_)
 have fin:wpAny (model prog w) A (subscripted slice false o i) (fun r s₃=>wpAny (model prog w) A (letTemporaryGo value o r >>=fun _=>pure r) Q E s₃) E s₂:=by
  rw [hs o i]
  exact wpAny_operating (wpAny_mono h₂ (fun r s₃ h₃=>QS (wpAny_letTemporaryGo (QT h₃))) fun _ _ x=>x)
 first
  | exact QT (QS fin)
  | exact QS (QT (QS fin))
  | exact QS fin
theorem pD {y:V} {o:Option V} (I:Inv X pins σ H s) (g:jf H a y o):s.TypeIs (.ref a) "dict":=by
 rcases g with ⟨kvs,k,e,_,_⟩ | ⟨kvs,k,b,e,_,_,_⟩
 ·obtain ⟨_,_,vs,_,dd⟩:=iW I.hok e
  exact dd.typeIs
 ·obtain ⟨_,_,xs,_,dd⟩:=mT I.hok e
  exact dd.typeIs
def Ji (td ty:TE):TE:=fun σ H Q=>td σ H fun x H1=>ty σ H1 fun y H2=>∃ a v,x=.ref a/\jf H2 a y (some v)/\Q v H2
def Jj (td ty tv:TE):TS:=fun D σ H=>tv σ H fun v H1=>td σ H1 fun x H2=>ty σ H2 fun y H3=>∃ a H4,x=.ref a/\D4 H3 a y v H4/\D.nx σ H4
section
variable {o i value:Expr} {pos ve:Pos} {td ty tv:TE}
theorem y6 (hu:X.A.units+1 < cLine) (ho:PE X o td) (hi:PE X i ty) (hs:D5 i):PE X (.Subscript o i pos) (Ji td ty):=by
 intro pins s σ H Q I h
 refine tL PySem.F.slot_dict_getitem.lookup hs (aq (ho pins s σ H _ I h) fun u s1 ⟨x,H1,I1,rx,q1⟩=>aq (hi pins s1 σ H1 _ I1 q1) fun iv s2 ⟨y,H2,I2,ry,a,v,ex,g,q2⟩=>?_)
 subst ex
 obtain rfl:u=Value.ref a:=rx
 exact ⟨pD I2 g,uX hu I2 g ry fun w' s3 I3 jk=>⟨v,H2,I3,jk,q2⟩⟩
theorem yI (hu:X.A.units+1 < cLine) (ho:PE X o td) (hi:PE X i ty) (hv:PE X value tv) (hs:swapsWith value (some (.Subscript o i pos')) pos.line X.env=pure false):
  PS X (.Assign [.Subscript o i pos'] value pos) (Jj td ty tv):=by
 intro pins s σ H D I h
 refine wpAny_Assign_Subscript (aq (hv pins s σ H _ I h) fun r s1 ⟨v,H1,I1,rv,q1⟩=>aq (ho pins s1 σ H1 _ I1 q1) fun u s2 ⟨x,H2,I2,rx,q2⟩=>aq (hi pins s2 σ H2 _ I2 q2) fun iv s3 ⟨y,H3,I3,ry,a,H4,ex,g,q3⟩=>?_) hs
 subst ex
 obtain rfl:u=Value.ref a:=rx
 exact uY hu I3 g ry rv fun s4 I4=>⟨σ,H4,I4,q3⟩
end
theorem vI (h:Heap) (hb:sysModules < h.objs.size):bx P w H (h.push {cls:=.type "dict",data:=.dict #[]}) h.objs.size (.dK []):=
 ⟨Nat.zero_le _,beq_eq_false_iff_ne.mpr (Ne.symm (Nat.ne_of_lt hb)),[],.nil,Heap.DictOf.new h⟩
def Jk:TE:=fun _ H Q=>∀ p,H p=none->Q (.ref p) (upd H p (.dK []))
section
variable {pos:Pos}
theorem wQ:PE X (.Dict [] [] pos) Jk:=fun pins s σ H Q I h=>
 wpAny_Dict_empty ⟨.ref s.heap.objs.size,_,I.laid (a:=s.heap.objs.size) (o:=.dK []) (t':=s.toks) (fun _ _ q=>Qc _ q) (Qy _) (vI s.heap I.big),rfl,h _ (I.hok.fresh (Qy _))⟩
end
structure M1 (X:Cx) (o:Expr) (m:Str) (apos:Pos) (e:Expr) (cpos:Pos):Prop where
 base:attributeBase o m X.env (eval o X.env)=eval o X.env
 few:((backTo cpos (starEach [e] X.env)).all (fun x=> !x.1)&&(backToKw cpos (keywordEach [] X.env)).all (fun x=>x.1.isSome)
  &&decide (([e]:List Expr).length+([]:List Keyword).length+(if ([]:List Keyword).isEmpty then 0 else 1) < 30))=true
 line:(apos.endLine==cpos.line)=true
 trees:backTo cpos (starEach [e] X.env)=[(false,eval e X.env)]
def Jl (H:Hp) (a:Addr):Prop:=(∃ kvs,Rd H a (.dK kvs))\/∃ kvs,Rd H a (.dT kvs)
theorem NQ (I:Inv X pins σ H s) (d:Jl H a):
  s.TypeIs (.ref a) "dict"/\(∀ b,Value.ref a=.ref b->∃ ob,s.heap.get? b=some ob/\ob.dict=none)/\(a==sysModules)=false:=by
 rcases d with ⟨kvs,e⟩ | ⟨kvs,e⟩
 ·obtain ⟨_,hd,vs,_,dd⟩:=iW I.hok e
  refine ⟨dd.typeIs,fun b q=>?_,hd⟩
  cases q
  obtain ⟨ob,_,_,h1,h2,_⟩:=dd
  exact ⟨ob,h1,h2.2.1⟩
 ·obtain ⟨_,hd,xs,_,dd⟩:=mT I.hok e
  refine ⟨dd.typeIs,fun b q=>?_,hd⟩
  cases q
  obtain ⟨ob,_,_,h1,h2,_⟩:=dd
  exact ⟨ob,h1,h2.2.1⟩
section
variable {y d:V} {r:Value} {o:Option V}
theorem NR (hu:A.units+1 < cLine) (I:Inv X pins σ H s) (g:jf H a y o) (ry:RelV y u) (h:∀ w' s',Inv X pins σ H s'->RelV (o.getD .af) w'->Q w' s'):
  wpAny (model X.prog X.w) A (call (.builtin "dict.get") [.ref a,u]) Q E s:=by
 rcases g with ⟨kvs,k,e,ey,l⟩ | ⟨kvs,k,b,e,ey,eb,l⟩
 ·subst ey
  obtain ⟨z,hd,vs,rel,dd⟩:=iW I.hok e
  refine call_meetsIn PySem.F.slot_dict_get dd.typeIs PySem.F.entry_dict_get (PySem.F.args_dict_get_2 _ _) (meets_dict_get (fj X.prog X.w) a (jU ry) hd) ⟨_,dd.mapOf,h _ _ (I.tok _) ?_⟩
  rw [l]
  exact (rel.val k).getD rfl
 ·subst ey
  cases (show u=Value.ref b from ry)
  obtain ⟨z,hd,xs,rel,dd⟩:=mT I.hok e
  refine call_meetsIn PySem.F.slot_dict_get dd.typeIs PySem.F.entry_dict_get (PySem.F.args_dict_get_2 _ _) (meetsH_dict_get (tupleKind (fj X.prog X.w)) a b hd) ⟨tupleKind_room_in1 hu,k,xs,lS I.hok eb,dd,h _ _ (I.tok _) ?_⟩
  rw [l]
  exact (rel.val k).getD rfl
end
def Jm (td ty:TE):TE:=fun σ H Q=>td σ H fun x H1=>∃ a,x=.ref a/\Jl H1 a/\ty σ H1 fun y H2=>∃ o,jf H2 a y o/\Q (o.getD .af) H2
section
variable {o f:Expr} {td ty tx:TE}
theorem wK (hu:X.A.units+1 < cLine) (ho:PE X o td) (he:PE X e ty) (m:M1 X o "get" apos e cpos):PE X (.Call (.Attribute o "get" apos) [e] [] cpos) (Jm td ty):=by
 intro pins s σ H Q I h
 refine wpAny_Call_method m.base m.few m.line PySem.F.plainAttrs_dict PySem.F.slot_dict_get PySem.F.type_dict_get (aq (ho pins s σ H _ I h) ?_)
 rintro u s1 ⟨x,H1,I1,rx,a,ex,d,q1⟩
 subst ex
 obtain rfl:u=Value.ref a:=rx
 obtain ⟨t1,t2,_⟩:=NQ I1 d
 refine ⟨t1,t2,?_⟩
 rw [m.trees]
 refine Calls.callWith_builtin rfl (Calls.evalArgs_plain (Calls.spliced_cons (aq (he pins s1 σ H1 _ I1 q1) fun iv s2 ⟨y,H2,I2,ry,ov,g,q2⟩=>Calls.spliced_nil ?_)))
 exact NR hu I2 g ry fun w' s3 I3 jk=>⟨_,H2,I3,jk,q2⟩
end
section
variable {kvs:List (Key×V)}
end
section
variable {y:V}
end
end L2
namespace Jo
open PySem PySem.W PySem.Calls PyProof.Rows
theorem kF {P:Params}:∀ (ns:List Int) (vs:List Value),WellAll P h vs (ns.map WData.int)->IntsAre vs ns:=by
 intro ns
 induction ns with
 | nil=>
  intro vs w
  rw [List.map_nil] at w
  cases w
  exact .nil
 | cons n ns ih=>
  intro vs w
  rw [List.map_cons] at w
  cases w with
  | cons a b=>
   cases a
   exact .cons _ _ (ih _ b)
theorem uH {l:OpenLaw} (hn:l.most=some n) {P:Params} {args:List WData} {vals:List Value}
  (D6:l.row.toRowW.claim.pre args=true) (FT:WellAll P h vals args):
  ∃ a vs ns,vals=[Value.ref a]/\args=[WData.list (ns.map WData.int)]/\h.get? a=some {cls:=.type "list",data:=.seq vs.toArray}/\IntsAre vs ns/\ns.length<=n:=by
 have D7:WShape.hasAll [] args [.list .int]=true:=(pre_splitW D6).1
 have hc:l.pre.holds [] {args:=args}=true:=(pre_splitW D6).2
 obtain ⟨d,r,rfl,h1,h2⟩:=hasAllW_cons D7
 obtain rfl:=hasAllW_nil h2
 obtain ⟨xs,rfl,h3⟩:=hasW_list h1
 obtain ⟨ns,rfl⟩:=items_int h3
 have e_:ns.length<=n:=by
  unfold OpenLaw.pre at hc
  have h4:(WTm.not (.lt (.lit (.int (n:Int))) (.len (.arg 0)))).holds [] {args:=[.list (ns.map .int)]}=true:=by
   have h4:=(holds_andW hc).1
   rw [hn] at h4
   exact h4
  have h5:=condW_of h4 (w_not (w_lt w_lit (w_len_list (w_arg rfl))))
  rw [Ql] at h5
  refine Nat.le_of_not_lt fun q=>?_
  have q':(n:Int) < ((ns.length:Nat):Int):=by omega
  first
   | (rw [decide_eq_true q'] at h5;exact absurd h5 (by decide))
   | (simp at h5;omega)
 cases FT with
 | cons w1 w2=>
  cases w2
  cases w1 with
  | list ho NS=>exact ⟨_,_,ns,rfl,rfl,ho,kF ns _ NS,e_⟩
theorem uW (l:OpenLaw) (args:List WData):l.row.toRowW.claim.post args (.bool true) args=true:=
 postW_of (r:=l.row.toRowW) (X:=(true==true))
  (show WShape.has [] (.bool true) .bool=true by first | rfl | decide | simp [WShape.has,WShape.arms,WShape.armsAll])
  (show (WTm.eq .res (.lit (.bool true))).value [] {args:=args,res:=some (.bool true),after:=args}=some (.bool (true==true)) from w_eq_bool (w_res rfl) w_lit) rfl
theorem pH {l:OpenLaw} {q:Program} {YP:World->Heap->Prop} {d:DefRec}
  (hn:l.most=some n) (CA:d.params.defaults=[])
  (call:∀ (w:World) (s₀ s₁:Shared) (mg mb:Str->Option Value) (fa:Addr) (o:Obj) (pm cd doc:Value) (a:Addr) (vs:List Value) (ns:List Int),
   Ground q loose [] XP w s₀ mg mb s₁.heap->YP w s₁.heap->
   s₁.heap.get? fa=some o->o.data=.func (docDef d.name d.params d.body d.scope pm cd doc)->s₁.heap.CodeRec cd d.name->mg d.name=some (.ref fa)->
   s₁.heap.get? a=some {cls:=.type "list",data:=.seq vs.toArray}->IntsAre vs ns->ns.length<=n->s₁.gens=#[]->
   codeAny (model l.prog w) callerA (.call (.ref fa) ⟨[.ref a],[]⟩) (fun r s'=>r=.ok (.ret (.bool true))/\OldK s₁.heap s'.heap/\s'.os=s₁.os/\AllBare s'.gens) s₁):
  WalkO q loose XP YP l.row.toRowW d [] (fun f vs=>PySem.call f vs):=by
 intro w s₀ s₁ mg mb G Y fa o pm cd doc dV kV ho hd jj hD Ah hg args vals as D6 Vk Vl FT Vm
 obtain rfl:dV=.none:=Dflts.none hD CA
 obtain rfl:kV=.none:=Dflts.noKw hD
 obtain ⟨a,vs,ns,rfl,rfl,FU,FW,e_⟩:=uH hn D6 FT
 refine enter_call (codeAny_mono (call w s₀ s₁ mg mb fa o pm cd doc a vs ns G Y ho (fd_plain hd) jj Ah FU FW e_ hg) fun r s' hq=>?_)
 obtain ⟨rfl,h2,h3,h4⟩:=hq
 exact ⟨.inl ⟨.bool true,.bool true,[],rfl,fun _=>rfl,.bool true,uW l _,fun _=>⟨List.Pairwise.nil,fun _ hm=>(nomatch hm)⟩⟩,h2,h3,h4⟩
section
variable {K:Frag}
end
end Jo
namespace L2
open PySem PySem.Spec PyProof.Rows
theorem mP:∀ {vs:List Value} {ns:List Int},IntsAre vs ns->au (ns.map V.int) vs
 | _,_,.nil=>.nil
 | _,_,.cons n t h=>.cons ⟨t,rfl⟩ (mP h)
def inClass (s:Stmt) (j:Nat):Stmt:=match s with
 | .ClassDef _ _ _ body _ _ _ _ _ _ _=>body.getD j (.Pass ⟨0,0,0,0⟩)
 | _=>.Pass ⟨0,0,0,0⟩
def lj (s:Stmt):Arguments:=match s with
 | .FunctionDef _ a _ _ _ _ _ _ _ _=>a
 | _=>{posonlyargs:=[],args:=[],vararg:=none,kwonlyargs:=[],kw_defaults:=[],kwarg:=none,defaults:=[]}
def ir (s:Stmt):List Stmt:=match s with
 | .FunctionDef _ _ b _ _ _ _ _ _ _=>b
 | _=>[]
def az (s:Stmt):Scope:=match s with
 | .FunctionDef _ _ _ _ _ _ sc _ _ _=>sc
 | _=>{kind:=.function,names:=[],isGenerator:=false,isCoroutine:=false}
abbrev vj:om:=fun _ _ _ _ _ _=>False
abbrev E0:XK:=fun _ _ _=>False
theorem Jp:DX vj X E0:=fun _ _ _ _ _ _ _ h=>h.elim
structure yt (K:QZ) (x qual:Str) (st:Stmt) (f:Addr) (fd:FuncData):Prop where
 ex:∃ (oc:Value) (od:Option Addr) (kV doc pm:Value) (an:Option Addr) (ao ct:Value) (gv:Array (Option Value)),
  fd=PySem.W.fnOf x qual (lj st) (ir st) (az st) .none kV doc pm an ao ct/\K.lookup f=some ⟨oc,od,.func fd,gv⟩/\PySem.W.codeIn K ao qual=true
 kp:PySem.W.keepIn K (.ref f)=true
section
variable {K:QZ}
theorem yt.ok {st:Stmt} {f:Addr} {k:Nat} (F:yt K x qual st f fd) (S:cu N ps (az st)) (len:∀ vs H Q E,sp vs H Q E->vs.length=ps.length)
  (tq:∀ (ao:Value) (A:Around) (outer:List Env) (s:Shared) (H:Hp) (vs:List V) (Q:VK) (E:XK),cy k (A.deeper (envOfC qual (az st) s.heap.objs.size f ao))->sp vs H Q E->
   ∃ t,jw (gu vj P w K mg base N qual (az st) f ao A outer s H E).sj (ir st) t/\t {nx:=fun _ H'=>Q .af H',rt:=Q} (start N vs) H):jl P w K mg base vj (k+1) f fd ps sp:=by
 obtain ⟨oc,od,kV,doc,pm,an,ao,ct,gv,rfl,lk,jj⟩:=F.ex
 refine zK lk jj S len fun A outer s H vs Q E hr vg=>?_
 obtain ⟨t,h,q⟩:=tq ao A outer s H vs Q E hr vg
 exact ⟨t,h.sj,q⟩
theorem yt.binds {st:Stmt} {f:Addr} (F:yt K x qual st f fd)
  (h:∀ (kV doc pm:Value) (an:Option Addr) (ao ct:Value) (us:List Value),us.length=ps.length->bindArgs (PySem.W.fnOf x qual (lj st) (ir st) (az st) .none kV doc pm an ao ct) ⟨us,[]⟩=pure (ps.zip us)):Binds K fd ps []:=by
 obtain ⟨oc,od,kV,doc,pm,an,ao,ct,gv,rfl,lk,jj⟩:=F.ex
 exact .all (h kV doc pm an ao ct)
theorem NT {st:Stmt} {f:Addr} {oc:Value} {od an:Option Addr} {gv:Array (Option Value)} {kV doc pm ao ct:Value} (l:K.lookup f=some ⟨oc,od,.func (PySem.W.fnOf x qual (lj st) (ir st) (az st) .none kV doc pm an ao ct),gv⟩)
  (c:PySem.W.codeIn K ao qual=true) (k:PySem.W.keepIn K (.ref f)=true):yt K x qual st f (PySem.W.fnOf x qual (lj st) (ir st) (az st) .none kV doc pm an ao ct):=⟨⟨oc,od,kV,doc,pm,an,ao,ct,gv,rfl,l,c⟩,k⟩
end
theorem bG {k:Nat} (hr:cy k A):A.units+1 < cLine:=Nat.lt_of_le_of_lt (Nat.add_le_add_left (by decide:1<=64) _) hr.units
theorem NU (h:n<=1000):n < sizeLine:=Nat.lt_of_le_of_lt h (by decide)
theorem jy {A B:Prop} (h:B):if false=true then A else B:=by
 rw [if_neg Bool.false_ne_true]
 exact h
theorem FY {A B:Prop} (h:A):if true=true then A else B:=by
 rw [if_pos rfl]
 exact h
theorem D8 {c A B:Prop} [Decidable c] (h1:c->A) (h2:¬c->B):if c then A else B:=by
 by_cases h:c
 ·rw [if_pos h]
  exact h1 h
 ·rw [if_neg h]
  exact h2 h
def aa (H H':Hp):Prop:=∀ b o,H b=some o->H' b=some o
theorem aa.refl (H:Hp):aa H H:=fun _ _ h=>h
theorem aa.trans {H1 H2:Hp} (a:aa H H1) (b:aa H1 H2):aa H H2:=fun c o h=>b c o (a c o h)
theorem aa.free (e:aa H H') (h:H' l=Option.none):H l=Option.none:=by
 cases q:H l with
 | none=>rfl
 | some o=>
  rw [e l o q] at h
  cases h
section
variable {κ:Type} [DecidableEq κ]
end
theorem iH {env:Env}:∀ (names:List (Str×NameKind)) (acc:List (Str×Addr)),
  (∀ y∈names,y.2=.free->∃ c,env.cells.lookup y.1=some c)->(∀ x c,acc.lookup x=some c->env.cells.lookup x=some c)->
  ∃ cl,(forIn names acc fun (x:Str×NameKind) cs=>(if (x.2==NameKind.free)=true then (do let c <- cellOf env x.1;pure (ForInStep.yield ((x.1,c)::cs))) else pure (ForInStep.yield cs):Sem (ForInStep (List (Str×Addr)))))=pure cl/\
   (∀ x c,cl.lookup x=some c->env.cells.lookup x=some c)/\(∀ y∈names,y.2=.free->∃ c,cl.lookup y.1=some c)/\(∀ x c,acc.lookup x=some c->∃ c,cl.lookup x=some c)
 | [],acc,_,ha=>⟨acc,rfl,ha,(fun _ h=>nomatch h),fun x c h=>⟨c,h⟩⟩
 | (n,k)::r,acc,h,ha=>by
  rw [List.forIn_cons]
  by_cases hk:k=.free
  ·obtain ⟨c,hc⟩:=h (n,k) List.mem_cons_self hk
   have sf:cellOf env n=pure c:=by unfold cellOf;rw [show env.cells.lookup n=some c from hc]
   have NV:∀ x d,((n,c)::acc).lookup x=some d->env.cells.lookup x=some d:=fun x d hx=>by
    rw [List.lookup_cons] at hx
    cases e:x==n with
    | true=>rw [e] at hx;cases hx;rw [eq_of_beq e];exact hc
    | false=>rw [e] at hx;exact ha x d hx
   obtain ⟨cl,e,h1,h2,h3⟩:=iH r ((n,c)::acc) (fun y hy=>h y (Qh _ hy)) NV
   refine ⟨cl,?_,h1,fun y hy hf=>?_,fun x d hx=>?_⟩
   ·have FZ:(k==NameKind.free)=true:=by rw [hk];rfl
    simp only [FZ,if_true,sf,pure_bind]
    exact e
   ·rcases Qp.mp hy with z | hy
    ·rw [z];exact h3 n c (by simp [List.lookup_cons])
    ·exact h2 y hy hf
   ·cases e2:x==n with
    | true=>exact h3 x c (by simp [List.lookup_cons,e2])
    | false=>exact h3 x d (by simp [List.lookup_cons,e2,hx])
  ·have FZ:(k==NameKind.free)=false:=by simpa using hk
   obtain ⟨cl,e,h1,h2,h3⟩:=iH r acc (fun y hy=>h y (Qh _ hy)) ha
   refine ⟨cl,?_,h1,fun y hy hf=>?_,h3⟩
   ·simp only [FZ,Bool.false_eq_true,if_false,pure_bind]
    exact e
   ·rcases Qp.mp hy with z | hy
    ·rw [z] at hf;exact absurd hf hk
    ·exact h2 y hy hf
theorem sX (h:∀ y∈sc.names,y.2=.free->∃ c,env.cells.lookup y.1=some c):
  ∃ cl,closureFor sc env=pure cl/\(∀ x c,cl.lookup x=some c->env.cells.lookup x=some c)/\(∀ y∈sc.names,y.2=.free->∃ c,cl.lookup y.1=some c):=by
 obtain ⟨cl,e,h1,h2,_⟩:=iH (env:=env) sc.names [] h (fun _ _ h=>nomatch h)
 refine ⟨cl,?_,h1,h2⟩
 unfold closureFor
 have e':(forIn sc.names ([]:List (Str×Addr)) fun (x:Str×NameKind) cs=>(if (x.2==NameKind.free)=true then (do let c <- cellOf env x.1;pure (ForInStep.yield ((x.1,c)::cs))) else pure (ForInStep.yield cs):Sem (ForInStep (List (Str×Addr))))) >>=(fun cs=>(pure cs:Sem _))=pure cl:=by rw [e];rfl
 exact e'
theorem dF {env:Env}:∀ {names:List (Str×NameKind)} {x:Str},names.lookup x=some .free->
  (names.map fun (n,k)=>if (k==NameKind.free&&env.scope.kind==.function&&env.kindOf n==some .cell) then (n,NameKind.cell) else (n,k)).lookup x=some .cell\/
  (names.map fun (n,k)=>if (k==NameKind.free&&env.scope.kind==.function&&env.kindOf n==some .cell) then (n,NameKind.cell) else (n,k)).lookup x=some .free
 | [],_,h=>by simp at h
 | (n,k)::r,x,h=>by
  have ih:=@dF env r x
  show List.lookup x ((if (k==NameKind.free&&env.scope.kind==.function&&env.kindOf n==some .cell)=true then (n,NameKind.cell) else (n,k))::_)=_\/List.lookup x ((if (k==NameKind.free&&env.scope.kind==.function&&env.kindOf n==some .cell)=true then (n,NameKind.cell) else (n,k))::_)=_
  cases hx:x==n with
  | true=>
   simp only [List.lookup_cons,hx] at h
   cases h
   by_cases hc:(NameKind.free==NameKind.free&&env.scope.kind==.function&&env.kindOf n==some .cell)=true
   ·rw [if_pos hc];simp [List.lookup_cons,hx]
   ·rw [if_neg hc];simp [List.lookup_cons,hx]
  | false=>
   simp only [List.lookup_cons,hx] at h
   by_cases hc:(k==NameKind.free&&env.scope.kind==.function&&env.kindOf n==some .cell)=true
   ·rw [if_pos hc];simp only [List.lookup_cons,hx];exact ih h
   ·rw [if_neg hc];simp only [List.lookup_cons,hx];exact ih h
theorem jT {names:List (Str×NameKind)} {k:NameKind}
  (h:(names.map fun (n,k)=>if (k==NameKind.free&&env.scope.kind==.function&&env.kindOf n==some .cell) then (n,NameKind.cell) else (n,k)).lookup x=some k) (hk:k=.cell\/k=.free) (hc:∀ y∈names,y.2≠.cell):(x,NameKind.free)∈names:=by
 have hm:=PySem.mem_of_lookup h
 obtain ⟨⟨n,k'⟩,h1,h2⟩:=List.mem_map.mp hm
 dsimp only at h2
 split at h2
 ·next hh=>
  cases h2
  have:k'=.free:=by
   simp only [Bool.and_eq_true,beq_iff_eq] at hh
   exact hh.1.1
  rw [<- this];exact h1
 ·cases h2
  rcases hk with z | z
  ·exact absurd z (hc _ h1)
  ·rw [<- z];exact h1
abbrev dz (X:Cx) (N':List Str) (sc:Scope) (cl:List (Str×Addr)) (C:Addr) (s3:Shared) (H0:Hp) (fp:List Addr) (pn:List (Addr×Obj)):Cx where
 prog:=X.prog
 w:=X.w
 K:=X.K
 mg:=X.mg
 base:=X.base
 A:=X.A
 N:=N'
 s₀:=s3
 H₀:=H0
 env:=compEnvC sc cl C X.env
 outer:=X.stack
 stack:=X.stack
 ex:=fp
 fn:=fun _=>false
 calm:=X.calm
 pn:=pn
 xe:=fun _ _=>False
structure qf (Bl:Scope) (oN:List Str) (sc:Scope) (own:List Str) (idx:List Nat) (N':List Str):Prop where
 kind:sc.kind=.function
 cell:∀ y∈sc.names,y.2≠.cell
 names:∀ y∈sc.names,y.2=.local->sc.names.lookup y.1=some .local
 free:∀ y∈sc.names,y.2=.free->(Bl.names.lookup y.1=some .cell\/Bl.names.lookup y.1=some .free)
 seen:∀ j∈idx,sc.names.lookup (oN.getD j "")=some .free/\j < oN.length
 nn:N'=own++idx.map (fun j=>oN.getD j "")
def vm (own:List Str) (idx:List Nat) (σ:St):St:=List.replicate own.length none++idx.map fun j=>(σ[j]?).join
section
variable {H2:Hp} {s2:Shared}
theorem wL {h4:Heap} {ob:Obj} {ho:HO} {t4:Nat} (S:qf X.env.scope X.N sc own idx N') (I:Inv X pins σ H2 s2) (hf:∀ b∈fp,ky X pins H2 b) (CB:∀ b∈fp,∃ o,s2.heap.get? b=some o)
  (c1:∀ x c,cl.lookup x=some c->X.env.cells.lookup x=some c) (c2:∀ y∈sc.names,y.2=.free->∃ c,cl.lookup y.1=some c) (hob:ob.isFreed=false)
  (hD:∀ (H:Hp) (h:Heap),h.get? s2.heap.objs.size=some ob->bx X.prog X.w H h s2.heap.objs.size ho)
  (ns:h4.Ns (s2.heap.push ob).objs.size (fun x=>([]:List (Str×Value)).reverse.lookup x)) (sb:∀ b o,(s2.heap.push ob).get? b=some o->h4.get? b=some o):
  Inv (dz X N' sc cl (s2.heap.push ob).objs.size {s2 with heap:=s2.heap.push ob} (upd H2 s2.heap.objs.size ho) fp (X.pn++pins)) [] (vm own idx σ) (upd H2 s2.heap.objs.size ho) {s2 with heap:=h4,toks:=t4}:=by
 have hsz:(s2.heap.push ob).objs.size=s2.heap.objs.size+1:=Heap.size_push _ _
 have Vn:H2 s2.heap.objs.size=none:=I.hok.fresh (Qy _)
 have up:∀ b o,s2.heap.get? b=some o->(s2.heap.push ob).get? b=some o:=fun b o e=>Qc _ e
 have D9:∀ b o,s2.heap.get? b=some o->h4.get? b=some o:=fun b o e=>sb b o (up b o e)
 have NW:∀ b o,s2.heap.get? b=some o->b≠s2.heap.objs.size:=fun b o e=>Nat.ne_of_lt (Qz e)
 have nh:∀ b o,s2.heap.get? b=some o->H2 b=none->upd H2 s2.heap.objs.size ho b=none:=fun b o e n=>by rw [aK (NW b o e)];exact n
 have NX:∀ b∈ef X.stack,∃ o,s2.heap.get? b=some o:=fun b hb=>by
  obtain ⟨_,o,ho,_⟩:=I.stack.mem hb
  exact ⟨o,ho⟩
 have NY:∀ x c,cl.lookup x=some c->∃ o,s2.heap.get? c=some o:=fun x c e=>by
  obtain ⟨v,o,ho,_⟩:=I.cell x c (c1 x c e)
  exact ⟨o,ho⟩
 have eD:(s2.heap.push ob).get? s2.heap.objs.size=some ob:=Qd s2.heap hob
 have NZ:bw X.prog X.w (upd H2 s2.heap.objs.size ho) h4:=I.hok.laid D9 (Qy _) (hD _ _ (sb _ _ eD))
 refine ⟨⟨I.ok.mod,S.kind,I.ok.glob,I.ok.blt,Qy _,fun x y c h1 h2=>I.ok.inj x y c (c1 x c h1) (c1 y c h2),fun x hx=>?_,(fun x c hx _=>nomatch hx),I.ok.hd,I.ok.frames,.inl rfl,fun b hb=>⟨?_,fun x c e=>?_⟩,fun b o e=>⟨?_,?_⟩,?_,fun b o e hb=>?_,fun b hb=>?_,?_,fun b hb=>?_⟩,
  rfl,I.bare,Un.kept sb,⟨_,ns,fun i x v h1 h2 h3=>?_⟩,fun x c e=>?_,?_,fun x c e=>?_,fun p hp=>?_,NZ,?_⟩
 ·rcases hx with hx | hx
  ·exact c2 (x,.free) (jT hx (.inl rfl) S.cell) rfl
  ·exact c2 (x,.free) (jT hx (.inr rfl) S.cell) rfl
 ·obtain ⟨o,e⟩:=CB b hb
  have:=Qz e
  show b≠(s2.heap.push ob).objs.size
  rw [hsz];exact Nat.ne_of_lt (Nat.lt_succ_of_lt this)
 ·exact (hf b hb).2.2.2.2.1 x c (c1 x c e)
 ·exact up b o (I.bk b o e)
 ·exact nh b o (I.bk b o e) (I.bs b o e).2
 ·show X.base.objs.size<=(s2.heap.push ob).objs.size
  have:=Nat.le_trans I.ok.rq I.sz
  rw [hsz];omega
 ·obtain ⟨f0,f1,f2,f3,f4,f5⟩:=hf b hb
  rcases f3 with z | z
  ·exact I.ok.zy b o e z
  ·exact absurd (Qz e) (Nat.not_lt.mpr (Nat.le_trans I.ok.rq z))
 ·obtain ⟨f0,f1,f2,f3,f4,f5⟩:=hf b hb
  intro z
  rcases Qp.mp (I.Cj b z) with z | z
  ·exact f1 z
  ·exact f2 z
 ·exact Heap.FunFrames.of_keeps (fun b o e _=>⟨o,up b o e,rfl⟩) I.stack
 ·obtain ⟨o,e⟩:=NX b hb
  exact nh b o e (I.Ck b hb)
 ·unfold vm at h2
  by_cases hi:i < own.length
  ·rw [Qg (by simpa using hi),List.getElem?_replicate,if_pos hi] at h2
   cases h2
  ·rw [List.getElem?_append_right (by simpa using hi),List.length_replicate,Qq] at h2
   have Bm:N'[i]? =some x:=h1
   rw [S.nn,List.getElem?_append_right (by simpa using hi),Qq] at Bm
   cases ej:idx[i - own.length]? with
   | none=>rw [ej] at Bm;cases Bm
   | some j=>
    rw [ej] at Bm h2
    obtain ⟨Bo,hs2⟩:=S.seen j (QC ej)
    have hx:X.N[j]? =some x:=by
     have:X.N.getD j ""=x:=QD Bm
     rw [<- this,Qb,Qa hs2];rfl
    have hv:σ[j]? =some (some v):=by
     have Bp:(σ[j]?).join=some v:=QD h2
     cases q:σ[j]? with
     | none=>rw [q] at Bp;cases Bp
     | some w=>rw [q] at Bp;exact congrArg some Bp
    have Jq:sc.names.lookup x=some .free:=by
     have:X.N.getD j ""=x:=QD Bm
     rw [<- this];exact Bo
    have mz:(x,NameKind.free)∈sc.names:=PySem.mem_of_lookup Jq
    obtain ⟨m,hn,hl⟩:=I.loc
    have N1:Ba X.env.scope x:=by
     rcases S.free _ mz rfl with z | z
     ·exact .inr (.inl z)
     ·exact .inr (.inr z)
    obtain ⟨u,r,lk⟩:=hl j x v hx hv N1
    refine ⟨u,r,?_⟩
    rcases lk with ⟨k,_⟩ | ⟨k,c,e,z⟩
    ·rcases S.free _ mz rfl with q | q
     ·have q':X.env.kindOf x=some .cell:=q
      rw [q'] at k;cases k
     ·have q':X.env.kindOf x=some .free:=q
      rw [q'] at k;cases k
    ·obtain ⟨c',sf⟩:=c2 (x,.free) mz rfl
     have e':=c1 x c' sf
     rw [e] at e'
     cases e'
     refine .inr ⟨?_,c,sf,?_⟩
     ·rcases dF (env:=X.env) Jq with q | q
      ·exact .inl q
      ·exact .inr q
     ·obtain ⟨o,r_,hd⟩:=z
      exact ⟨o,D9 c o r_,hd⟩
 ·obtain ⟨v,o,r_,hd⟩:=I.cell x c (c1 x c e)
  exact ⟨v,o,D9 c o r_,hd⟩
 ·show upd H2 s2.heap.objs.size ho (s2.heap.push ob).objs.size=none
  rw [aK (by rw [hsz];exact Nat.ne_of_gt (Nat.lt_succ_self _))]
  exact I.hok.fresh (by rw [hsz];omega)
 ·obtain ⟨o,e1⟩:=NY x c e
  exact nh c o e1 (I.mq x c (c1 x c e))
 ·have Jr:p∈X.pn++pins:=by simpa using hp
  obtain ⟨e,n,ne,nf,d⟩:=I.pin p Jr
  refine ⟨D9 _ _ e,nh _ _ e n,?_,fun z=>?_,d⟩
  ·have:=Qz e
   show p.1≠(s2.heap.push ob).objs.size
   rw [hsz];exact Nat.ne_of_lt (Nat.lt_succ_of_lt this)
  ·rcases Qp.mp (I.Cj p.1 z) with z | z
   ·exact ne z
   ·exact nf z
 ·show (vm own idx σ).length=N'.length
  rw [S.nn];unfold vm
  simp
theorem uF {ob:Obj} {ho:HO} {τ:St} (I:Inv X pins σ H2 s2) (hf:∀ b∈fp,ky X pins H2 b) (hob:ob.isFreed=false)
  (J:Inv (dz X N' sc cl (s2.heap.push ob).objs.size {s2 with heap:=s2.heap.push ob} (upd H2 s2.heap.objs.size ho) fp (X.pn++pins)) [] τ H' s'):
  Inv X pins σ H' s'/\H' (s2.heap.push ob).objs.size=none/\(s2.heap.push ob).objs.size≠X.env.locals/\X.s₀.heap.objs.size<=(s2.heap.push ob).objs.size/\
   (∀ x c,X.env.cells.lookup x=some c->c≠(s2.heap.push ob).objs.size)/\(∀ p∈X.pn++pins,p.1≠(s2.heap.push ob).objs.size)/\∃ m,s'.heap.Ns (s2.heap.push ob).objs.size m:=by
 have hsz:(s2.heap.push ob).objs.size=s2.heap.objs.size+1:=Heap.size_push _ _
 have u1:Un (ef X.stack) fp H2 (upd H2 s2.heap.objs.size ho) s2.heap (s2.heap.push ob):=Un.laid (fun b o e=>Qc _ e) (Qy _) (I.hok.fresh (Qy _))
 have u2:Un (ef X.stack) fp (upd H2 s2.heap.objs.size ho) H' (s2.heap.push ob) s'.heap:=J.base
 have Ae:s'.os=s2.os:=J.os
 refine ⟨I.Fw Ae (u1.trans u2) J.hok J.bare fun b hb=>?_,J.free,?_,?_,fun x c e z=>?_,fun p hp z=>?_,let ⟨m,hn,_⟩:=J.loc;⟨m,hn⟩⟩
 ·obtain ⟨f0,f1,f2,f3,f4,f5⟩:=hf b hb
  exact ⟨f3,f1,f4,f5⟩
 ·rw [hsz];exact Nat.ne_of_gt (Nat.lt_succ_of_lt I.lt)
 ·have:=I.sz;rw [hsz];omega
 ·obtain ⟨v,q⟩:=I.cell x c e
  have:=q.lt
  rw [z,hsz] at this;exact absurd this (Nat.not_lt.mpr (Nat.le_succ _))
 ·have:=Qz (I.pin p hp).1
  rw [z,hsz] at this;exact absurd this (Nat.not_lt.mpr (Nat.le_succ _))
end
abbrev gg:Value->Shared->Prop:=fun _ _=>False
theorem N2 {elt target iter:Expr} {pos:Pos} {it acc:Value} (I:Nat->Shared->Prop)
  (turn:∀ n s,I n s->wpAny (model prog w) A (pyNext it) (fun r s₁=>match r with
   | none=>R (.ok .next) s₁
   | some v=>wpAny (model prog w) A (letOwnedTupleGo target it v) (fun _ Ai=>wpAny (model prog w) A (assign target env v) (fun _ s₂=>
     wpAny (model prog w) A (forIn ifs true fun c r=>if r=true then do let ok <- isTrue c env (eval c env);pure (ForInStep.yield ok) else pure (ForInStep.yield r)) (fun ok s₃=>
      if ok=true then wpAny (model prog w) A (eval elt env) (fun x s₄=>
       wpAny (model prog w) A (call (.builtin "list.append") [acc,x]) (fun _ s₅=>∃ m,m < n/\I m s₅) gg s₄) gg s₃
      else ∃ m,m < n/\I m s₃) gg s₂) gg Ai) gg s₁) gg s)
  (n:Nat) (h:I n s):
  codeAny (model prog w) A (.compLoop (.ListComp elt [⟨target,iter,ifs,0⟩] scope pos) 0 it acc env) R s:=by
 refine codeAny_loop rfl I (fun n s hI=>?_) n h
 show wpAny _ A ((compTurn (.ListComp elt [⟨target,iter,ifs,0⟩] scope pos) 0 it acc env).onRaise (fun x=>do noteFrame x env;theTreesLotGoes x)) _ _ s
 refine wpAny_noted ?_
 rw [compTurn_list]
 refine QS (wpAny_standAt (QS (wpAny_mono (turn n s hI) (fun r s₁ h₁=>?_) fun _ _ h'=>h'.elim)))
 cases r with
 | none=>exact QT h₁
 | some v=>
  refine QS (wpAny_mono h₁ (fun _ Ai F0=>?_) fun _ _ h'=>h'.elim)
  refine QS (wpAny_mono F0 (fun _ s₂ h₂=>QS (wpAny_mono h₂ (fun ok s₃ h₃=>?_) fun _ _ h'=>h'.elim)) fun _ _ h'=>h'.elim)
  cases ok with
  | false=>exact QT ⟨rfl,h₃⟩
  | true=>
   exact QS (QS (wpAny_mono h₃ (fun x s₄ h₄=>QS (wpAny_mono h₄ (fun _ s₅ h₅=>QT (QT ⟨rfl,h₅⟩)) fun _ _ h'=>h'.elim)) fun _ _ h'=>h'.elim))
abbrev TC:=St->Hp->(Bool->Hp->Prop)->Prop
def xo (X:Cx) (ifs:List Expr) (t:TC):Prop:=
 ∀ (pins:List (Addr×Obj)) (s:Shared) (σ:St) (H:Hp) (Q:Bool->Hp->Prop),Inv X pins σ H s->t σ H Q->
  wpAny (model X.prog X.w) X.A (forIn ifs true fun c r=>if r=true then do let ok <- isTrue c X.env (eval c X.env);pure (ForInStep.yield ok) else pure (ForInStep.yield r)) (TP X pins σ Q) X.xe s
def Js:TC:=fun _ H Q=>Q true H
theorem yP:xo X [] Js:=fun pins s σ H Q I h=>QT ⟨H,I,h⟩
theorem xX {c:Expr} {t:TT} (h:PT X c t):xo X [c] t:=fun pins s σ H Q I hq=>wpAny_tests_one (h pins s σ H Q I hq)
def D_ (own:List Str) (idx:List Nat) (wi:TI) (g:TG) (tc:TC) (te:TE):TE:=fun σ H Q=>wi σ H fun J H1=>∀ D,H1 D=none->∃ W:Nat->Nat->St->Hp->Prop,(∃ m,W 0 m (vm own idx σ) (upd H1 D (.lst [])))/\∀ i m τ H,W i m τ H->
 (J.stop i H/\Q (.ref D) H)\/(J.go i H/\∃ N:St->Hp->Prop,(∀ τ' H',N τ' H'->∃ m',m' < m/\W (i+1) m' τ' H')/\∀ x H',J.mr i H x H'->g x τ H' fun τ2 H2=>tc τ2 H2 fun b H3=>
  if b=true then te τ2 H3 fun y H4=>∃ xs,H4 D=some (.lst xs)/\xs.length < sizeLine/\N τ2 (upd H4 D (.lst (xs++[y]))) else N τ2 H3)
section
variable {iter elt:Expr} {pos:Pos} {tc:TC}
abbrev N3:Obj:={cls:=.type "list",dict:=none,data:=.seq ([]:List Value).toArray}
def N4 (X:Cx) (cmp tg:Expr) (ifs:List Expr) (sel:Env->Addr->Shared->(Shared->Prop)->Prop):Prop:=
 ∀ (it:Value) (D:Addr) (env:Env) (R:Result->Shared->Prop) (s:Shared) (I:Nat->Shared->Prop),
  (∀ n s,I n s->wpAny (model X.prog X.w) X.A (pyNext it) (fun r s₁=>match r with
   | none=>R (.ok .next) s₁
   | some v=>wpAny (model X.prog X.w) X.A (letOwnedTupleGo tg it v) (fun _ Ai=>wpAny (model X.prog X.w) X.A (assign tg env v) (fun _ s₂=>
     wpAny (model X.prog X.w) X.A (forIn ifs true fun c r=>if r=true then do let ok <- isTrue c env (eval c env);pure (ForInStep.yield ok) else pure (ForInStep.yield r)) (fun ok s₃=>
      if ok=true then sel env D s₃ (fun s₅=>∃ m,m < n/\I m s₅) else ∃ m,m < n/\I m s₃) gg s₂) gg Ai) gg s₁) gg s)->
  ∀ n,I n s->codeAny (model X.prog X.w) X.A (.compLoop cmp 0 it (.ref D) env) R s
theorem pA (S:qf X.env.scope X.N sc own idx N') (c1:∀ x c,cl.lookup x=some c->X.env.cells.lookup x=some c) (c2:∀ y∈sc.names,y.2=.free->∃ c,cl.lookup y.1=some c) (hc:X.calm=true)
  {cmp:Expr} {ob:Obj} {o0:HO} {mk:Sem Value} {sel:Env->Addr->Shared->(Shared->Prop)->Prop} (el:Addr->St->Hp->(Hp->Prop)->Prop) (hob:ob.isFreed=false) (L:N4 X cmp tg ifs sel)
  (mono:∀ {env D s} {K K':Shared->Prop},sel env D s K->(∀ s',K s'->K' s')->sel env D s K')
  (hst:∀ it acc env R s,codeAny (model X.prog X.w) X.A (.compLoop cmp 0 it acc env) R s->wpAny (model X.prog X.w) X.A (pyIter it) (fun N5 s'=>codeAny (model X.prog X.w) X.A (.compLoop cmp 0 N5 acc env) R s') (notedBy (model X.prog X.w) X.A env fun x s'=>R (.error x) s') s->
   codeAny (model X.prog X.w) X.A (.compStart cmp 0 it acc env) R s)
  (hg:∀ cl C s3 H0 fp pn,PG (dz X N' sc cl C s3 H0 fp pn) tg g) (ht:∀ cl C s3 H0 fp pn,xo (dz X N' sc cl C s3 H0 fp pn) ifs tc)
  (he:∀ cl C s3 H0 fp pn pins s τ H D N,Inv (dz X N' sc cl C s3 H0 fp pn) pins τ H s->el D τ H N->sel (dz X N' sc cl C s3 H0 fp pn).env D s fun s'=>∃ H',Inv (dz X N' sc cl C s3 H0 fp pn) pins τ H' s'/\N H')
  {pins:List (Addr×Obj)} {σ:St} {Q:VK} {mw:Value} {s2:Shared} {RR:Value->Addr->Result->Shared->Prop} {E:Value->Shared->Prop}
  (F1:∀ Q E,Q (.ref s2.heap.objs.size) {s2 with heap:=s2.heap.push ob}->wpAny (model X.prog X.w) X.A mk Q E s2)
  (N6:∀ H',Inv X pins σ H' s2->∀ (H:Hp) (h:Heap),h.get? s2.heap.objs.size=some ob->bx X.prog X.w H h s2.heap.objs.size o0)
  (hI:Be X pins σ tg (fun J H1=>∀ D,H1 D=none->∃ W:Nat->Nat->St->Hp->Prop,(∃ m,W 0 m (vm own idx σ) (upd H1 D o0))/\∀ i m τ H,W i m τ H->
   (J.stop i H/\Q (.ref D) H)\/(J.go i H/\∃ N:St->Hp->Prop,(∀ τ' H',N τ' H'->∃ m',m' < m/\W (i+1) m' τ' H')/\∀ x H',J.mr i H x H'->g x τ H' fun τ2 H2=>tc τ2 H2 fun b H3=>if b=true then el D τ2 H3 (N τ2) else N τ2 H3)) mw s2)
  (CD:∀ D C H' s',Inv X pins σ H' s'->Q (.ref D) H'->(H' C=none/\C≠X.env.locals/\X.s₀.heap.objs.size<=C/\(∀ x c,X.env.cells.lookup x=some c->c≠C)/\(∀ p∈X.pn++pins,p.1≠C)/\∃ m,s'.heap.Ns C m)->RR (.ref D) C (.ok .next) s'):
  wpAny (model X.prog X.w) X.A mk (fun acc s₃=>wpAny (model X.prog X.w) X.A (newFunctionEnv sc X.env.globals cl [] X.env.qual none .none (some X.env)) (fun cenv s₄=>
   codeAny (model X.prog X.w) X.A (.compStart cmp 0 mw acc {cenv with scope:=relabel sc X.env}) (RR acc cenv.locals) s₄) E s₃) E s2:=by
 obtain ⟨it,fp,tn,J,H2,rfl,I,T,DR,f2,body⟩:=hI
 refine F1 _ _ (wpAny_newFunctionEnv S.cell (by intro y hy;simp at hy) (fun h4 ns sb=>?_) S.kind)
 dsimp only at ns sb ⊢
 have fr:H2 s2.heap.objs.size=none:=I.hok.fresh (Qy _)
 obtain ⟨W,⟨m0,w0⟩,turn⟩:=body _ fr
 have CB:∀ b∈fp,∃ o,s2.heap.get? b=some o:=fun b hb=>let ⟨o,e,_⟩:=T.obj _ _ DR b hb;⟨o,e⟩
 have Bq:∀ b o,(s2.heap.push ob).get? b=some o->h4.get? b=some o:=fun b o e=>(sb.2 b (Nat.ne_of_lt (Qz e))).trans (Qc _ e)
 have N7:=N6 _ I
 have I4:Inv (dz X N' sc cl (s2.heap.push ob).objs.size {s2 with heap:=s2.heap.push ob} (upd H2 s2.heap.objs.size o0) fp (X.pn++pins)) [] (vm own idx σ) (upd H2 s2.heap.objs.size o0) {s2 with heap:=h4,toks:=s2.toks+([]:List (Str×Value)).length}:=
  wL S I f2 CB c1 c2 hob N7 ns Bq
 -- IM Vo own context
 generalize hY:dz X N' sc cl (s2.heap.push ob).objs.size {s2 with heap:=s2.heap.push ob} (upd H2 s2.heap.objs.size o0) fp (X.pn++pins)=Y at I4
 have N9:PG Y tg g:=by rw [<- hY];exact hg _ _ _ _ _ _
 have N_:xo Y ifs tc:=by rw [<- hY];exact ht _ _ _ _ _ _
 have Oa:∀ pins s τ H D N,Inv Y pins τ H s->el D τ H N->sel Y.env D s fun s'=>∃ H',Inv Y pins τ H' s'/\N H':=by rw [<- hY];exact he _ _ _ _ _ _
 have pY:Y.prog=X.prog:=by rw [<- hY]
 have wY:Y.w=X.w:=by rw [<- hY]
 have KY:Y.K=X.K:=by rw [<- hY]
 have AY:Y.A=X.A:=by rw [<- hY]
 have cY:Y.calm=true:=by rw [<- hY];exact hc
 have xY:Y.xe=fun _ _=>False:=by rw [<- hY]
 have eY:Y.env=compEnvC sc cl (s2.heap.push ob).objs.size X.env:=by rw [<- hY]
 have Ob:Y.ex=fp:=by rw [<- hY]
 have Oc:Y.fs=ef X.stack:=by rw [<- hY]
 have Od:Y.pn=X.pn++pins:=by rw [<- hY]
 have Ab:∀ {H':Hp},(∀ b∈fp,H' b=none)->∀ b∈fp,ky Y [] H' b:=fun hn b hb=>by
  obtain ⟨f0,f1,f3,f4,f5,f6⟩:=f2 b hb
  refine ⟨hn b hb,?_,?_,.inl (by rw [Ob];exact hb),fun x c e=>?_,fun p hp=>?_⟩
  ·obtain ⟨o,e⟩:=CB b hb
   have:=Qz e
   rw [eY]
   show b≠(s2.heap.push ob).objs.size
   rw [Heap.size_push];exact Nat.ne_of_lt (Nat.lt_succ_of_lt this)
  ·rw [Oc]
   intro z
   rcases Qp.mp (I.Cj b z) with z | z
   ·exact f1 z
   ·exact f3 z
  ·rw [eY] at e
   exact f5 x c (c1 x c e)
  ·rw [Od,QQ] at hp
   exact f6 p hp
 have Jt:tn 0 h4:=T.keep _ _ _ DR fun b hb o e=>Bq b o (Qc _ e)
 have Oe:∀ b∈fp,upd H2 s2.heap.objs.size o0 b=none:=fun b hb=>by
  obtain ⟨o,e⟩:=CB b hb
  rw [aK (Nat.ne_of_lt (Qz e))]
  exact (f2 b hb).1
 have loop:codeAny (model X.prog X.w) X.A (.compLoop cmp 0 (.ref it) (.ref s2.heap.objs.size) (compEnvC sc cl (s2.heap.push ob).objs.size X.env))
   (RR (.ref s2.heap.objs.size) (s2.heap.push ob).objs.size) {s2 with heap:=h4,toks:=s2.toks+([]:List (Str×Value)).length}:=by
  refine L _ _ _ _ _ (fun n s'=>∃ i τ H',Inv Y [] τ H' s'/\tn i s'.heap/\(∀ b∈fp,H' b=none)/\W i n τ H') ?_ m0 ⟨0,_,_,I4,Jt,Oe,w0⟩
  rintro n s3 ⟨i,τ3,H3,I3,Cr,Cs,w3⟩
  rcases turn i n τ3 H3 w3 with ⟨stop,qn⟩ | ⟨go,N,hN,step⟩
  ·have h:=T.done Y pY wY KY cY i [] s3 τ3 H3 gg I3 (Ab Cs) Cr stop
   rw [AY] at h
   refine aq h ?_
   rintro r s4 ⟨hr,Of⟩
   subst hr
   have J4:=Of
   rw [<- hY] at J4
   obtain ⟨b1,b2⟩:=uF I f2 hob J4
   exact CD _ _ _ _ b1 qn b2
  ·have h:=T.item Y pY wY KY cY i [] s3 τ3 H3 gg I3 (Ab Cs) Cr go
   rw [AY] at h
   refine aq h ?_
   rintro r s4 ⟨u,hr,Og⟩
   subst hr
   refine aq Og ?_
   rintro _ s5 ⟨x,H5,I5,r5,y5,Ac,FE⟩
   have FF:=I5.pinned (Ab FE) (T.obj _ _ Ac)
   have g5:=N9 _ s5 τ3 H5 x u _ FF r5 (step x H5 y5)
   rw [pY,wY,AY,xY,eY] at g5
   refine aq g5 ?_
   rintro _ s6 ⟨τ6,H6,I6,q6⟩
   have t6:=N_ _ s6 τ6 H6 _ I6 q6
   rw [pY,wY,AY,xY,eY] at t6
   refine aq t6 ?_
   rintro ok s7 ⟨H7,I7,q7⟩
   have again:∀ {τ8:St} {H8:Hp} {s8:Shared},Inv Y ([]++Cq fp s5.heap) τ8 H8 s8->N τ8 H8->∃ m,m < n/\∃ i τ' H',Inv Y [] τ' H' s8/\tn i s8.heap/\(∀ b∈fp,H' b=none)/\W i m τ' H':=fun {τ8 H8 s8} I8 n8=>by
    obtain ⟨m',hm,w8⟩:=hN τ8 H8 n8
    refine ⟨m',hm,i+1,τ8,H8,I8.DQ,T.keep _ _ _ Ac fun b hb o e=>(I8.pin (b,o) (List.mem_append_right _ (List.mem_append_right _ (eU hb e)))).1,fun b hb=>?_,w8⟩
    obtain ⟨o,e,d⟩:=T.obj _ _ Ac b hb
    exact (I8.pin (b,o) (List.mem_append_right _ (List.mem_append_right _ (eU hb e)))).2.1
   cases ok with
   | false=>
    rw [if_neg (by decide)] at q7 ⊢
    exact again I7 q7
   | true=>
    rw [if_pos rfl] at q7 ⊢
    have e7:=Oa _ s7 τ6 H7 s2.heap.objs.size _ I7 q7
    rw [eY] at e7
    exact mono e7 fun s8 ⟨H8,I8,n8⟩=>again I8 n8
 exact hst _ _ _ _ _ loop (T.self _ 0 _ _ _ Jt loop)
theorem lT (S:qf X.env.scope X.N sc own idx N') (c1:∀ x c,cl.lookup x=some c->X.env.cells.lookup x=some c) (c2:∀ y∈sc.names,y.2=.free->∃ c,cl.lookup y.1=some c) (hc:X.calm=true)
  (hg:∀ cl C s3 H0 fp pn,PG (dz X N' sc cl C s3 H0 fp pn) tg g) (ht:∀ cl C s3 H0 fp pn,xo (dz X N' sc cl C s3 H0 fp pn) ifs tc) (he:∀ cl C s3 H0 fp pn,PE (dz X N' sc cl C s3 H0 fp pn) elt te)
  {pins:List (Addr×Obj)} {σ:St} {Q:VK} {mw:Value} {s2:Shared} {RR:Value->Addr->Result->Shared->Prop} {E:Value->Shared->Prop}
  (hI:Be X pins σ tg (fun J H1=>∀ D,H1 D=none->∃ W:Nat->Nat->St->Hp->Prop,(∃ m,W 0 m (vm own idx σ) (upd H1 D (.lst [])))/\∀ i m τ H,W i m τ H->
   (J.stop i H/\Q (.ref D) H)\/(J.go i H/\∃ N:St->Hp->Prop,(∀ τ' H',N τ' H'->∃ m',m' < m/\W (i+1) m' τ' H')/\∀ x H',J.mr i H x H'->g x τ H' fun τ2 H2=>tc τ2 H2 fun b H3=>
    if b=true then te τ2 H3 fun y H4=>∃ xs,H4 D=some (.lst xs)/\xs.length < sizeLine/\N τ2 (upd H4 D (.lst (xs++[y]))) else N τ2 H3)) mw s2)
  (CD:∀ D C H' s',Inv X pins σ H' s'->Q (.ref D) H'->(H' C=none/\C≠X.env.locals/\X.s₀.heap.objs.size<=C/\(∀ x c,X.env.cells.lookup x=some c->c≠C)/\(∀ p∈X.pn++pins,p.1≠C)/\∃ m,s'.heap.Ns C m)->RR (.ref D) C (.ok .next) s'):
  wpAny (model X.prog X.w) X.A (newList []) (fun acc s₃=>wpAny (model X.prog X.w) X.A (newFunctionEnv sc X.env.globals cl [] X.env.qual none .none (some X.env)) (fun cenv s₄=>
   codeAny (model X.prog X.w) X.A (.compStart (.ListComp elt [⟨tg,iter,ifs,0⟩] sc pos) 0 mw acc {cenv with scope:=relabel sc X.env}) (RR acc cenv.locals) s₄) E s₃) E s2:=by
 refine pA (ob:=N3) (sel:=fun env D s K=>wpAny (model X.prog X.w) X.A (eval elt env) (fun x s₄=>wpAny (model X.prog X.w) X.A (call (.builtin "list.append") [.ref D,x]) (fun _ s₅=>K s₅) gg s₄) gg s) (o0:=.lst []) (el:=fun D τ H K=>te τ H fun y H4=>∃ xs,H4 D=some (.lst xs)/\xs.length < sizeLine/\K (upd H4 D (.lst (xs++[y])))) S c1 c2 hc (hob:=rfl)
  (fun it D env R s I turn n h=>N2 I turn n h) (fun h k=>aq h fun _ _ h=>aq h fun _ _ h=>k _ h) (fun _ _ _ _ _=>codeAny_compStart_list) hg ht (fun cl C s3 H0 fp pn pins s τ H D N I q=>?_) (fun Q E h=>wpAny_newObj_type h) (fun H' I H h e=>⟨Nat.zero_le _,[],_,.nil,e⟩) hI CD
 refine aq (he cl C s3 H0 fp pn _ s τ H _ I q) ?_
 rintro yv s8 ⟨y,H8,I8,r8,xs,Oh,hz,n8⟩
 exact aq (cE (X:=dz X N' sc cl C s3 H0 fp pn) _ s8 τ H8 (.ref D) [y] (.ref D) [yv] (fun v H'=>N H') I8 rfl (.cons r8 .nil) ⟨_,xs,y,rfl,rfl,Oh,hz,n8⟩) fun _ s9 ⟨_,H9,I9,_,n9⟩=>⟨H9,I9,n9⟩
theorem qf.closure (S:qf X.env.scope X.N sc own idx N') (ok:X.Ok):∃ cl,closureFor sc X.env=pure cl/\(∀ x c,cl.lookup x=some c->X.env.cells.lookup x=some c)/\(∀ y∈sc.names,y.2=.free->∃ c,cl.lookup y.1=some c):=
 sX fun y hy hf=>ok.has _ (S.free y hy hf)
theorem Oi (S:qf X.env.scope X.N sc own idx N') (hc:X.calm=true) (hi:PI X tg iter wi)
  (hg:∀ cl C s3 H0 fp pn,PG (dz X N' sc cl C s3 H0 fp pn) tg g) (ht:∀ cl C s3 H0 fp pn,xo (dz X N' sc cl C s3 H0 fp pn) ifs tc) (he:∀ cl C s3 H0 fp pn,PE (dz X N' sc cl C s3 H0 fp pn) elt te)
  (hs:∀ x,foldedSetIterable iter X.env x=pure x:=by intro _;rfl):PE X (.ListComp elt [⟨tg,iter,ifs,0⟩] sc pos) (D_ own idx wi g tc te):=by
 intro pins s σ H Q I h
 obtain ⟨cl,oq,c1,c2⟩:=S.closure I.ok
 rw [eval_ListComp]
 refine wpAny_comprehension_free (use:=none) rfl hs oq S.kind S.names (aq (hi pins s σ H _ I h) fun v s1 h1=>aq h1 fun mw s2 h2=>?_)
 refine lT (Q:=Q) (pins:=pins) (σ:=σ) (RR:=fun acc C=>compPost (model X.prog X.w) X.A X.xe none (EP X pins σ Q) acc C) S c1 c2 hc hg ht he h2 ?_
 intro D C H' s' I' q ⟨a1,a2,a3,a4,a5,m,a6⟩
 exact ⟨m,a6,fun h' sb=>⟨.ref D,H',I'.turned (t':=s'.toks) (fun b o hb e=>(sb.2 b hb).trans e) a1 (Ne.symm (Ne.symm a2)) (.inr a3) a4 a5,rfl,q⟩⟩
theorem Oj {py spos:Pos} (S:qf X.env.scope X.N sc own idx N') (hc:X.calm=true) (hi:PI X tg iter wi)
  (hg:∀ cl C s3 H0 fp pn,PG (dz X N' sc cl C s3 H0 fp pn) tg g) (ht:∀ cl C s3 H0 fp pn,xo (dz X N' sc cl C s3 H0 fp pn) ifs tc) (he:∀ cl C s3 H0 fp pn,PE (dz X N' sc cl C s3 H0 fp pn) elt te)
  (hN:X.N.Nodup) (CF:X.N[i]? =some y) (hy:X.env.scope.names.lookup y=some .local)
  (xq:swapsWith (.ListComp elt [⟨tg,iter,ifs,0⟩] sc pos) (some (.Name y py)) spos.line X.env=pure true:=by rfl)
  (hs:∀ x,foldedSetIterable iter X.env x=pure x:=by intro _;rfl):PS X (.Assign [.Name y py] (.ListComp elt [⟨tg,iter,ifs,0⟩] sc pos) spos) (s_ (D_ own idx wi g tc te) (jd i)):=by
 intro pins s σ H D I h
 obtain ⟨cl,oq,c1,c2⟩:=S.closure I.ok
 rw [exec_Assign_Name_used _ _ _ _ xq]
 refine QS (wpAny_standAt (QS ?_))
 show wpAny _ X.A (do let _ <- comprehension (.ListComp elt [⟨tg,iter,ifs,0⟩] sc pos) sc X.env _ (newList []) false (eval iter X.env) (some (assign (.Name y py) X.env))) _ _ s
 refine QS (wpAny_mono (wpAny_comprehension_free (use:=some (assign (.Name y py) X.env)) (Q:=fun _ s'=>SP X pins D .next s') rfl hs oq S.kind S.names
  (aq (hi pins s σ H _ I h) fun v s1 h1=>aq h1 fun mw s2 h2=>?_)) (fun _ s' hq=>QT (QT hq)) fun _ _ e=>e)
 refine lT (Q:=fun x H1=>jd i x σ H1 D.nx) (pins:=pins) (σ:=σ) (RR:=fun acc C=>compPost (model X.prog X.w) X.A X.xe (some (assign (.Name y py) X.env)) (fun _ s'=>SP X pins D .next s') acc C) S c1 c2 hc hg ht he h2 ?_
 intro D' C H' s' I' q ⟨a1,a2,a3,a4,a5,m,a6⟩
 show wpAny _ X.A (assign (.Name y py) X.env (.ref D')) _ _ _
 refine wpAny_assign_Name (gZ (v:=.ref D') I' hN CF (.inl hy) rfl (fun s'' F2 ⟨a,sb,ha⟩=>?_) (.inr hy))
 have F3:C≠a:=by
  rcases ha with z | z
  ·rw [z];exact a2
  ·exact Ne.symm (a4 _ _ z)
 refine ⟨m,a6.sameBut sb F3,fun h' Bq=>⟨_,H',F2.turned (t':=s''.toks) (fun b o hb e=>(Bq.2 b hb).trans e) a1 a2 (.inr a3) a4 a5,q⟩⟩
end
def tV (i:Nat):TE:=fun σ H Q=>match σ[i]? with | some (some v)=>Q v H | _=>False
theorem Ol (i:Nat) {pos:Pos} (hN:X.N[i]? =some x:=by rfl) (hv:Ba X.env.scope x:=by first | exact Or.inl rfl | exact Or.inr (Or.inl rfl) | exact Or.inr (Or.inr rfl)) (hd:(x==("__debug__":Str))=false:=by decide) (jj:(x==("__classdict__":Str))=false:=by decide):PE X (.Name x pos) (tV i):=by
 intro pins s σ H Q I h
 refine MB hN hv hd jj pins s σ H Q I ?_
 unfold tV at h
 split at h
 ·next v e=>exact ⟨v,e,h⟩
 ·exact h.elim
def Ju:R2:=fun x y H Q=>match x,y with
 | .int i,.int j=>Q (.int (i+j)) H
 | .str i,.str j=>i.length+j.length<=sizeLine/\Q (.str (i++j)) H
 | .ref l,.ref b=>(∃ xs zs,H l=some (.lst xs)/\H b=some (.lst zs)/\xs.length+zs.length<=sizeLine/\∀ p,H p=none->Q (.ref p) (upd H p (.lst (xs++zs))))
 | _,_=>False
theorem bW:br X (binaryOp .Add) Ju:=by
 intro pins s σ H x y v u Q I rx ry h
 cases x<;>cases y<;>first
  | exact (show False from h).elim
  | exact MY pins s σ H _ _ v u Q I rx ry ⟨_,_,rfl,rfl,h⟩
  | exact sQ pins s σ H _ _ v u Q I rx ry ⟨_,_,rfl,rfl,h.1,h.2⟩
  | (obtain ⟨xs,zs,h1,h2,h3,h4⟩:=h;exact zW pins s σ H _ _ v u Q I rx ry ⟨_,_,xs,zs,rfl,rfl,h1,h2,h3,h4⟩)
def Om:R2:=fun x y H Q=>match x,y with | .int i,.int j=>Q (.int (i - j)) H | _,_=>False
theorem dS:br X (binaryOp .Sub) Om:=by
 intro pins s σ H x y v u Q I rx ry h
 cases x<;>cases y<;>first
  | exact (show False from h).elim
  | exact MZ pins s σ H _ _ v u Q I rx ry ⟨_,_,rfl,rfl,h⟩
def Oo:R2:=fun x y H Q=>match x,y with | .int i,.int j=>DV i j/\Q (.int (i*j)) H | _,_=>False
theorem dH:br X (binaryOp .Mult) Oo:=by
 intro pins s σ H x y v u Q I rx ry h
 cases x<;>cases y<;>first
  | exact (show False from h).elim
  | exact M0 pins s σ H _ _ v u Q I rx ry ⟨_,_,rfl,rfl,h.1,h.2⟩
def Oq:R2:=fun x y H Q=>match x,y with | .int i,.int j=>0 < j/\Q (.int (i % j)) H | _,_=>False
theorem dQ:br X (binaryOp .Mod) Oq:=by
 intro pins s σ H x y v u Q I rx ry h
 cases x<;>cases y<;>first
  | exact (show False from h).elim
  | exact M2 pins s σ H _ _ v u Q I rx ry ⟨_,_,rfl,rfl,h.1,h.2⟩
def Ot:R2:=fun x y H Q=>match x,y with | .int i,.int j=>(0 < j/\j < 1073741824)/\Q (.int (i / j)) H | _,_=>False
theorem yL:br X (binaryOp .FloorDiv) Ot:=by
 intro pins s σ H x y v u Q I rx ry h
 cases x<;>cases y<;>first
  | exact (show False from h).elim
  | exact yU pins s σ H _ _ v u Q I rx ry ⟨_,_,rfl,rfl,h.1,h.2⟩
def Ou:R2:=fun x y H Q=>match x,y with | .int i,.int j=>IS i j/\Q (.int (i^j.toNat)) H | _,_=>False
theorem xS:br X (binaryOp .Pow) Ou:=by
 intro pins s σ H x y v u Q I rx ry h
 cases x<;>cases y<;>first
  | exact (show False from h).elim
  | exact zV pins s σ H _ _ v u Q I rx ry ⟨_,_,rfl,rfl,h.1,h.2⟩
def F4 (p:Int->Int->Bool):R2:=fun x y H Q=>match x,y with | .int i,.int j=>Q (.bl (p i j)) H | _,_=>False
theorem jF:br X (compareOp .Gt) (F4 fun i j=>decide (j < i)):=by
 intro pins s σ H x y v u Q I rx ry h
 cases x<;>cases y<;>first
  | exact (show False from h).elim
  | exact M_ pins s σ H _ _ v u Q I rx ry ⟨_,_,rfl,rfl,h⟩
theorem Ov:br X (compareOp .GtE) (F4 fun i j=>decide (j<=i)):=by
 intro pins s σ H x y v u Q I rx ry h
 cases x<;>cases y<;>first
  | exact (show False from h).elim
  | exact Na pins s σ H _ _ v u Q I rx ry ⟨_,_,rfl,rfl,h⟩
theorem Ox:br X (compareOp .LtE) (F4 fun i j=>decide (i<=j)):=by
 intro pins s σ H x y v u Q I rx ry h
 cases x<;>cases y<;>first
  | exact (show False from h).elim
  | exact M9 pins s σ H _ _ v u Q I rx ry ⟨_,_,rfl,rfl,h⟩
def Oz:R2:=fun x y H Q=>match x,y with
 | .int i,.int j=>Q (.bl (decide (i < j))) H
 | .str i,.str j=>Q (.bl (decide (i.cps.toList < j.cps.toList))) H
 | _,_=>False
theorem lW:br X (compareOp .Lt) Oz:=by
 intro pins s σ H x y v u Q I rx ry h
 cases x<;>cases y<;>first
  | exact (show False from h).elim
  | exact M8 pins s σ H _ _ v u Q I rx ry ⟨_,_,rfl,rfl,h⟩
  | exact tZ pins s σ H _ _ v u Q I rx ry ⟨_,_,rfl,rfl,h⟩
def Jv (n:Bool):R2:=fun x y H Q=>match x,y with
 | .ref a,.ref b=>a≠b/\∃ xs,H a=some (.lst xs)/\H b=some (.lst [])/\Q (.bl (n^^xs.isEmpty)) H
 | x,y=>Bh x y=true/\Q (.bl (n^^decide (x=y))) H
theorem vG {xs:List V} (hu:A.units < cLine) (I:Inv X pins σ H s) (ha:H a=some (.lst xs)) (hb:H b=some (.lst [])) (jz:a≠b)
  (q:∀ tk,Q (.bool xs.isEmpty) {s with toks:=tk}) (q0:Q (.bool xs.isEmpty) s):wpAny (model X.prog X.w) A (compareOp .Eq (.ref a) (.ref b)) Q E s:=by
 obtain ⟨_,its,n,r1,e1⟩:=(show bx X.prog X.w H s.heap a (.lst xs) from I.hok a _ ha)
 obtain ⟨_,its2,n2,r2,e2⟩:=(show bx X.prog X.w H s.heap b (.lst []) from I.hok b _ hb)
 cases r2
 have l1:s.heap.IsList a its.toArray:=⟨_,e1,rfl,_,rfl⟩
 have l2:s.heap.IsList b (#[]:Array Value):=⟨_,e2,rfl,_,rfl⟩
 cases r1 with
 | nil=>
  exact SeqAt.eq_listAt (e:=fun _=>true) l1 l2 rfl hu (fun i hi=>absurd hi (by simp)) (by simpa using q0)
 | cons z t=>
  exact SeqAt.eq_list_lengthsAt l1 l2 (by simp) hu (by simpa using q0)
theorem bD (hu:X.A.units < cLine):br X (compareOp .Eq) (Jv false):=by
 intro pins s σ H x y v u Q I rx ry h
 have hs:(∀ a b,x=.ref a->y=.ref b->False)->Bh x y=true/\Q (.bl (false^^decide (x=y))) H:=fun hn=>by
  cases x<;>cases y<;>first
   | exact (hn _ _ rfl rfl).elim
   | exact h
 by_cases hr:∃ a b,x=.ref a/\y=.ref b
 ·obtain ⟨a,b,rfl,rfl⟩:=hr
  obtain ⟨jz,xs,h1,h2,q⟩:=h
  cases rx;cases ry
  exact vG hu I h1 h2 jz (fun tk=>⟨.bl xs.isEmpty,H,I.tok tk,rfl,by simpa using q⟩) ⟨.bl xs.isEmpty,H,I,rfl,by simpa using q⟩
 ·obtain ⟨h1,h2⟩:=hs fun a b e1 e2=>hr ⟨a,b,e1,e2⟩
  exact M6 pins s σ H x y v u Q I rx ry ⟨h1,by simpa using h2⟩
theorem xD {xs:List V} (hu:A.units < cLine) (I:Inv X pins σ H s) (ha:H a=some (.lst xs)) (hb:H b=some (.lst []))
  (q0:Q (.bool (!xs.isEmpty)) s):wpAny (model X.prog X.w) A (compareOp .NotEq (.ref a) (.ref b)) Q E s:=by
 obtain ⟨_,its,n,r1,e1⟩:=(show bx X.prog X.w H s.heap a (.lst xs) from I.hok a _ ha)
 obtain ⟨_,its2,n2,r2,e2⟩:=(show bx X.prog X.w H s.heap b (.lst []) from I.hok b _ hb)
 cases r2
 have l1:s.heap.IsList a its.toArray:=⟨_,e1,rfl,_,rfl⟩
 have l2:s.heap.IsList b (#[]:Array Value):=⟨_,e2,rfl,_,rfl⟩
 cases r1 with
 | nil=>
  exact SeqAt.RcNeAt.lists (e:=fun _=>true) l1 l2 rfl hu (fun i hi=>absurd hi (by simp)) _ _ _ _ (by simpa using q0)
 | cons z t=>
  exact SeqAt.RcNeAt.lists_lengths l1 l2 (by simp) hu _ _ _ _ (by simpa using q0)
theorem nY (hu:X.A.units < cLine):br X (compareOp .NotEq) (Jv true):=by
 intro pins s σ H x y v u Q I rx ry h
 have hs:(∀ a b,x=.ref a->y=.ref b->False)->Bh x y=true/\Q (.bl (true^^decide (x=y))) H:=fun hn=>by
  cases x<;>cases y<;>first
   | exact (hn _ _ rfl rfl).elim
   | exact h
 by_cases hr:∃ a b,x=.ref a/\y=.ref b
 ·obtain ⟨a,b,rfl,rfl⟩:=hr
  obtain ⟨jz,xs,h1,h2,q⟩:=h
  cases rx;cases ry
  exact xD hu I h1 h2 ⟨.bl (!xs.isEmpty),H,I,rfl,by simpa using q⟩
 ·obtain ⟨h1,h2⟩:=hs fun a b e1 e2=>hr ⟨a,b,e1,e2⟩
  exact M7 pins s σ H x y v u Q I rx ry ⟨h1,by simpa using h2⟩
def Jw (K:QZ):R2:=fun x y H Q=>match x,y with
 | .ref p,.int i=>∃ xs v,(ai K H p xs\/ae K H p xs)/\je xs i=some v/\Q v H
 | .str z,.int i=>z.length<=sizeLine/\∃ c,je z.cps.toList i=some c/\Q (.str ⟨#[c]⟩) H
 | _,_=>False
theorem OA : Af X (Jw X.K) := by
  intro e1 e2 pins s σ H x y v u Q I rx ry h hs
  cases x <;> cases y <;> first
    | exact (show False from h).elim
    | (obtain ⟨xs, w, h1 | h1, h2, h3⟩ := h
       · exact xW e1 e2 pins s σ H _ _ v u Q I rx ry ⟨_, xs, _, w, rfl, rfl, h1, h2, h3⟩ hs
       · exact Nt e1 e2 pins s σ H _ _ v u Q I rx ry ⟨_, xs, _, w, rfl, rfl, h1, h2, h3⟩ hs)
    | (obtain ⟨h1, c, h2, h3⟩ := h; exact Nu e1 e2 pins s σ H _ _ v u Q I rx ry ⟨_, _, c, rfl, rfl, h1, h2, h3⟩ hs)
def Ea (K:QZ) (n:Bool):R2:=fun x y H Q=>match y with
 | .str j=>∃ i,x=.str i/\Q (.bl (n^^(!(Builtin.Str.occurrences j i 0 j.length 1).isEmpty))) H
 | .ref p=>∃ xs,(ai K H p xs\/ae K H p xs)/\vh x=true/\xs.all vh=true/\Q (.bl (n^^D0 x xs)) H
 | _=>False
theorem OB:br X (compareOp .In) (Ea X.K false):=by
 intro pins s σ H x y v u Q I rx ry h
 cases y<;>first
  | exact (show False from h).elim
  | (obtain ⟨i,rfl,h2⟩:=h;exact tX pins s σ H _ _ v u Q I rx ry ⟨i,_,rfl,rfl,by simpa using h2⟩)
  | (obtain ⟨xs,h1,h2,h3,h4⟩:=h;exact uT pins s σ H _ _ v u Q I rx ry ⟨_,xs,rfl,h1,h2,h3,by simpa using h4⟩)
theorem uO:br X (compareOp .NotIn) (Ea X.K true):=by
 intro pins s σ H x y v u Q I rx ry h
 cases y<;>first
  | exact (show False from h).elim
  | (obtain ⟨i,rfl,h2⟩:=h;exact o5 pins s σ H _ _ v u Q I rx ry ⟨i,_,rfl,rfl,by simpa using h2⟩)
  | (obtain ⟨xs,h1,h2,h3,h4⟩:=h;exact nM pins s σ H _ _ v u Q I rx ry ⟨_,xs,rfl,h1,h2,h3,by simpa using h4⟩)
def F5 (K:QZ):List V->Hp->VK->Prop:=fun xs H Q=>match xs with
 | [.str y]=>y.length<=sizeLine/\Q (.int y.length) H
 | [.ref p]=>(∃ ys,(ai K H p ys\/ae K H p ys)/\Q (.int ys.length) H)\/(∃ kvs,Rd H p (.dK kvs)/\Q (.int kvs.length) H)
 | _=>False
theorem uQ:jx X (.builtin "len") (F5 X.K):=by
 intro pins s σ H xs us Q I r h
 unfold F5 at h
 split at h
 ·exact lB pins s σ H _ us Q I r ⟨_,_,rfl,⟨h.1,rfl⟩,h.2⟩
 ·rcases h with ⟨ys,h1 | h1,q⟩ | ⟨kvs,h1,q⟩
  ·exact lB pins s σ H _ us Q I r ⟨_,_,rfl,.inl ⟨ys,h1,rfl⟩,q⟩
  ·exact lB pins s σ H _ us Q I r ⟨_,_,rfl,.inr ⟨ys,h1,rfl⟩,q⟩
  ·obtain ⟨u,rfl,ru⟩:=vals1 r
   cases ru
   exact NP I h1 fun t s' I'=>⟨.int kvs.length,H,I',⟨t,rfl⟩,q⟩
 ·exact h.elim
def F6:V->Option Int->Option Int->Hp->VK->Prop:=fun x lo hi H Q=>∃ z,x=.str z/\z.length<=sizeLine/\Q (.str (Txt.slice z lo hi)) H
theorem OC:t_ X F6:=by
 intro pins s σ H x v vl vu lo hi sl Q I rx hs pl pu h
 obtain ⟨z,rfl,hz,q⟩:=h
 obtain ⟨t,rfl⟩:=(show ∃ t,v=Value.str z t from rx)
 refine ⟨"str",_,F.slot_str_getitem.lookup,typeIs_str _ _ _,?_⟩
 have Jx:∀ {w:Value} {o:Option Int},IsPart w o->∃ l:Option (Int×Tok),w=partValue l/\l.map (·.1)=o:=fun {w o} p=>by
  cases p with
  | none=>exact ⟨none,rfl,rfl⟩
  | int k t=>exact ⟨some (k,t),rfl,rfl⟩
 obtain ⟨l,e1,e2⟩:=Jx pl
 obtain ⟨u,e3,e4⟩:=Jx pu
 subst e1 e3
 obtain ⟨o,ho,hc,hd⟩:=hs
 refine wpAny_getItem_str_slice (l:=l) (u:=u) (st:=none) ⟨o,ho,hc,hd⟩ rfl ?_
 refine post_val_or_str ⟨Nat.le_trans (Txt.slice_le z _ _) hz,fun t' k=>?_⟩
 show EP X pins σ Q (.str (Txt.slice z (l.map (·.1)) (u.map (·.1))) t') _
 rw [e2,e4]
 exact ⟨.str (Txt.slice z lo hi),H,I.tok k,⟨t',rfl⟩,q⟩
def F7 (z:Str):It:=⟨fun i _=>i < z.cps.size,fun i H x H'=>H'=H/\∃ c,z.cps[i]? =some c/\x=.str ⟨#[c]⟩,fun i _=>z.cps.size=i⟩
theorem rT {K:QZ} {it:Addr} {St:Nat->Heap->Prop} (W:∀ A':Around,A'.handled=none->Walks P w A' it [it] [it] z.cps.size (SignAt z) St)
  (F8:∀ (A:Around) (i:Nat) (s:Shared) (Q:Value->Shared->Prop) (E:Value->Shared->Prop),St i s.heap->Q (.ref it) s->wpAny (model P w) A (pyIter (.ref it)) Q E s)
  (hg:∀ i h,St i h->∃ o n vs,h.get? it=some o/\o.cls=.type n/\o.data=.fields vs/\["enumerate","zip","dict_itemiterator","dict_reverseitemiterator","odict_iterator","itertools.zip_longest","itertools.pairwise"].contains n=false):Turn P w K tg (F7 z) [it] it St where
 mem:=by simp
 obj:=fun i h st b hb=>by
  have e:b=it:=by simpa using hb
  subst e
  obtain ⟨o,n,vs,e,c,d,_⟩:=hg i h st
  exact ⟨o,e,fun v z=>by rw [d] at z;cases z⟩
 keep:=fun i h h' st k=>(W {} rfl).frame _ _ _ st k
 item:=by
  intro X hP hw hK hc i pins s σ H E I hf st F9
  subst hP hw hK
  obtain ⟨f0,f1,f2,f3,f4,f5⟩:=hf it (by simp)
  refine (W X.A (I.ok.hd hc)).item i s _ _ F9 st fun v h' tk hv st' kk=>?_
  obtain ⟨c,t,jn,rfl⟩:=hv
  have I1:Inv X pins σ H {s with heap:=h',toks:=tk}:=I.turned (fun b o hb e=>kk b o (by simpa using hb) e) f0 f1 f3 f4 f5
  obtain ⟨o,n,vs,e,c',d,nn⟩:=hg _ _ st'
  exact ⟨_,rfl,tN (s:={s with heap:=h',toks:=tk}) e c' d nn ⟨.str ⟨#[c]⟩,H,I1,⟨t,rfl⟩,⟨rfl,c,jn,rfl⟩,st',fun b hb=>(hf b hb).1⟩⟩
 done:=by
  intro X hP hw hK hc i pins s σ H E I hf st F9
  subst hP hw hK
  obtain ⟨f0,f1,f2,f3,f4,f5⟩:=hf it (by simp)
  have e:z.cps.size=i:=F9
  subst e
  exact (W X.A (I.ok.hd hc)).done s _ _ st fun h' tk kk=>⟨rfl,I.turned (fun b o hb e=>kk b o (by simpa using hb) e) f0 f1 f3 f4 f5⟩
 self:=F8
def ak (P:Program) (w:World) (K:QZ) (mg:Str->Option Value) (base:Heap) (k:Nat) (x:Str) (ps:List Str) (sp:Sp):Prop:=
 ∃ (f:Addr) (fd:FuncData),jl P w K mg base vj k f fd ps sp/\mg x=some (.ref f)/\PySem.W.keepIn K (.ref f)=true/\Binds K fd ps []/\∃ (oc:Value) (od:Option Addr) (gv:Array (Option Value)),K.lookup f=some ⟨oc,od,.func fd,gv⟩
section
variable {k:Nat} {p pos:Pos}
theorem OD (F:ak X.prog X.w X.K X.mg X.base k x ps sp) (hr:cy k X.A) (ha:PA X (e::es) t) (hg:Gl X x:=by rfl) (dw:(x==("__debug__":Str))=false:=by decide)
  (he:starEach (e::es) X.env=(false,eval e X.env)::starEach es X.env:=by rfl) (hpl:(backTo pos (starEach es X.env)).any (·.1)=false:=by rfl):
  PE X (.Call (.Name x p) (e::es) [] pos) (Bk sp [] E0 t):=by
 obtain ⟨f,fd,G,F_,kp,b,_⟩:=F
 exact yX G hr hg F_ kp b .nil Jp ha dw he hpl
theorem ak.mono {P:Program} {w:World} {K:QZ} {mg:Str->Option Value} {base:Heap} {j:Nat} (F:ak P w K mg base j x ps sp) (h:j<=k):ak P w K mg base k x ps sp:=by
 obtain ⟨f,fd,G,r⟩:=F
 exact ⟨f,fd,G.mono h,r⟩
end
def iD (K:QZ) (tl:TE):TI:=fun σ H R=>tl σ H fun x H1=>match x with
 | .ref a=>((∃ xs,ai K H1 a xs)/\R (FA K a) H1)\/((∃ xs,ae K H1 a xs)/\R (FD K a) H1)
 | .str z=>R (F7 z) H1
 | _=>False
theorem OE {l:Expr} {tl:TE} (hl:PE X l tl):PI X tg l (iD X.K tl):=by
 intro pins s σ H R I h
 refine aq (hl pins s σ H _ I h) ?_
 rintro v s1 ⟨x,H1,I1,r1,q1⟩
 cases x with
 | ref a=>
  cases r1
  rcases q1 with ⟨⟨xs,hq⟩,q⟩ | ⟨⟨xs,hq⟩,q⟩
  ·obtain ⟨its,rv,p,hz⟩:=I1.list hq
   refine wpAny_pyIter_list p.isList ?_
   refine ⟨s1.heap.objs.size,[s1.heap.objs.size],_,_,H1,rfl,I1.kept (t':=s1.toks) fun b o e=>Qc _ e,uV a _,⟨_,Qd _ rfl,rfl,rfl⟩,fun b hb=>?_,q⟩
   have e:b=s1.heap.objs.size:=by simpa using hb
   subst e
   exact I1.xg (Qy _) (I1.hok.fresh (Qy _))
  ·obtain ⟨its,rv,p,hz⟩:=I1.tuple hq
   refine wpAny_pyIter_tuple (show s1.heap.IsTuple a its.toArray from p) ?_
   refine ⟨s1.heap.objs.size,[s1.heap.objs.size],_,_,H1,rfl,I1.kept (t':=s1.toks) fun b o e=>Qc _ e,rL a _,⟨_,Qd _ rfl,rfl,rfl⟩,fun b hb=>?_,q⟩
   have e:b=s1.heap.objs.size:=by simpa using hb
   subst e
   exact I1.xg (Qy _) (I1.hok.fresh (Qy _))
 | str z=>
  obtain ⟨t,rfl⟩:=(show ∃ t,v=Value.str z t from r1)
  have q:R (F7 z) H1:=q1
  have fin:∀ (o:Obj) (n:String) (W:∀ A':Around,A'.handled=none->Walks X.prog X.w A' s1.heap.objs.size [s1.heap.objs.size] [s1.heap.objs.size] z.cps.size (SignAt z) (fun i h=>h.IsStrIter s1.heap.objs.size n z t i)),
    (∀ (A:Around) (i:Nat) (s:Shared) (Q:Value->Shared->Prop) (E:Value->Shared->Prop),s.heap.IsStrIter s1.heap.objs.size n z t i->Q (.ref s1.heap.objs.size) s->wpAny (model X.prog X.w) A (pyIter (.ref s1.heap.objs.size)) Q E s)->
    ["enumerate","zip","dict_itemiterator","dict_reverseitemiterator","odict_iterator","itertools.zip_longest","itertools.pairwise"].contains n=false->
    (s1.heap.push o).IsStrIter s1.heap.objs.size n z t 0->Be X pins σ tg R (.ref s1.heap.objs.size) {s1 with heap:=s1.heap.push o}:=by
   intro o n W F8 hn st
   refine ⟨s1.heap.objs.size,[s1.heap.objs.size],_,_,H1,rfl,I1.kept (t':=s1.toks) fun b o e=>Qc _ e,rT W F8 (fun i h st=>?_),st,fun b hb=>?_,q⟩
   ·obtain ⟨o,e,c,d⟩:=st
    exact ⟨o,n,_,e,c,d,hn⟩
   ·have e:b=s1.heap.objs.size:=by simpa using hb
    subst e
    exact I1.xg (Qy _) (I1.hok.fresh (Qy _))
  cases ha:z.cps.all (· < 128)
  ·exact wpAny_pyIter_wide ha (fin _ _ (fun A' hA=>Walks.strWide hA _ z t) (fun A i s Q E st h=>wpAny_pyIter_striter_wide st h) (by decide) ⟨_,Qd _ rfl,rfl,rfl⟩)
  ·exact wpAny_pyIter_ascii ha (fin _ _ (fun A' hA=>Walks.strAscii hA _ z t) (fun A i s Q E st h=>wpAny_pyIter_striter_ascii st h) (by decide) ⟨_,Qd _ rfl,rfl,rfl⟩)
 | _=>exact (show False from q1).elim
def Br (J:It) (ok:Hp->Prop) (n:Nat) (item:Nat->V):Prop:=
 ∀ H,ok H->(∀ i,i < n->J.go i H/\∀ x H',J.mr i H x H'->H'=H/\x=item i)/\J.stop n H
theorem dP {K:QZ} (xs:List V):Br (FA K a) (fun H=>ai K H a xs) xs.length (fun i=>xs.getD i .af):=fun H ok=>
 ⟨fun i hi=>⟨⟨xs,xs[i],ok,by simp [hi]⟩,fun x H' ⟨e,y⟩=>⟨e,by
  have:=y xs ok
  show x=xs.getD i V.af
  rw [Qb,this];rfl⟩⟩,⟨xs,ok,Qy _⟩⟩
theorem dI {K:QZ} (xs:List V):Br (FD K a) (fun H=>ae K H a xs) xs.length (fun i=>xs.getD i .af):=fun H ok=>
 ⟨fun i hi=>⟨⟨xs,xs[i],ok,by simp [hi]⟩,fun x H' ⟨e,y⟩=>⟨e,by
  have:=y xs ok
  show x=xs.getD i V.af
  rw [Qb,this];rfl⟩⟩,⟨xs,ok,Qy _⟩⟩
theorem jC (lo:Int) (n:Nat):Br (DP lo n) (fun _=>True) n (fun i=>.int (lo+i)):=fun H _=>
 ⟨fun i hi=>⟨hi,fun x H' ⟨e,y⟩=>⟨e,y⟩⟩,Qy _⟩
theorem fK {J:It} {ok:Hp->Prop} {item:Nat->V} {tc:TC} {τ0:St} {D:Addr} {Q:Hp->Prop} (hJ:Br J ok n item) (Pv:Nat->St->Hp->Prop) (h0:Pv 0 τ0 H0)
  (hok:∀ i τ H,i<=n->Pv i τ H->ok H)
  (hs:∀ i τ H,i < n->Pv i τ H->g (item i) τ H fun τ2 H2=>tc τ2 H2 fun b H3=>if b=true then te τ2 H3 fun y H4=>∃ xs,H4 D=some (.lst xs)/\xs.length < sizeLine/\Pv (i+1) τ2 (upd H4 D (.lst (xs++[y]))) else Pv (i+1) τ2 H3)
  (hd:∀ τ H,Pv n τ H->Q H):∃ W:Nat->Nat->St->Hp->Prop,(∃ m,W 0 m τ0 H0)/\∀ i m τ H,W i m τ H->
   (J.stop i H/\Q H)\/(J.go i H/\∃ N:St->Hp->Prop,(∀ τ' H',N τ' H'->∃ m',m' < m/\W (i+1) m' τ' H')/\∀ x H',J.mr i H x H'->g x τ H' fun τ2 H2=>tc τ2 H2 fun b H3=>
    if b=true then te τ2 H3 fun y H4=>∃ xs,H4 D=some (.lst xs)/\xs.length < sizeLine/\N τ2 (upd H4 D (.lst (xs++[y]))) else N τ2 H3):=by
 refine ⟨fun i m τ H=>m=n - i/\i<=n/\Pv i τ H,⟨n,by simp,Nat.zero_le _,h0⟩,?_⟩
 rintro i m τ H ⟨rfl,hi,p⟩
 obtain ⟨k1,k2⟩:=hJ H (hok i τ H hi p)
 by_cases bz:i < n
 ·refine .inr ⟨(k1 i bz).1,Pv (i+1),fun σ' H' p'=>⟨n - (i+1),by omega,rfl,bz,p'⟩,fun x H' y=>?_⟩
  obtain ⟨e,e2⟩:=(k1 i bz).2 x H' y
  subst e e2
  exact hs i τ _ bz p
 ·have e:i=n:=by omega
  subst e
  exact .inl ⟨k2,hd τ H p⟩
theorem kZ {J:It} {ok:Hp->Prop} {item:Nat->V} {tb:TS} (hJ:Br J ok n item) (Pv:Nat->St->Hp->Prop) (h0:Pv 0 σ H) (hok:∀ i τ H,i<=n->Pv i τ H->ok H)
  (hs:∀ i σ H,i < n->Pv i σ H->g (item i) σ H fun σ2 H2=>tb {D with nx:=Pv (i+1),ct:=Pv (i+1),bk:=D.nx} σ2 H2) (hd:∀ σ H,Pv n σ H->D.nx σ H):
  ∃ W:Nat->Nat->St->Hp->Prop,(∃ m,W 0 m σ H)/\∀ i m σ H,W i m σ H->
   (J.stop i H/\D.nx σ H)\/(J.go i H/\∃ N:St->Hp->Prop,(∀ σ' H',N σ' H'->∃ m',m' < m/\W (i+1) m' σ' H')/\∀ x H',J.mr i H x H'->g x σ H' fun σ2 H2=>tb {D with nx:=N,ct:=N,bk:=D.nx} σ2 H2):=by
 refine ⟨fun i m σ H=>m=n - i/\i<=n/\Pv i σ H,⟨n,by simp,Nat.zero_le _,h0⟩,?_⟩
 rintro i m σ H ⟨rfl,hi,p⟩
 obtain ⟨k1,k2⟩:=hJ H (hok i σ H hi p)
 by_cases bz:i < n
 ·refine .inr ⟨(k1 i bz).1,Pv (i+1),fun σ' H' p'=>⟨n - (i+1),by omega,rfl,bz,p'⟩,fun x H' y=>?_⟩
  obtain ⟨e,e2⟩:=(k1 i bz).2 x H' y
  subst e e2
  exact hs i σ _ bz p
 ·have e:i=n:=by omega
  subst e
  exact .inl ⟨k2,hd σ H p⟩
def b_ (K:QZ) (mg:Str->Option Value) (x:Str) (st:Stmt) (ps:List Str):Prop:=∃ (f:Addr) (fd:FuncData),yt K x x st f fd/\mg x=some (.ref f)/\Binds K fd ps []
theorem b_.ok {P:Program} {w:World} {K:QZ} {mg:Str->Option Value} {base:Heap} {x:Str} {st:Stmt} {N ps:List Str} {k:Nat} {sp:Sp} (F:b_ K mg x st ps) (S:cu N ps (az st)) (len:∀ vs H Q E,sp vs H Q E->vs.length=ps.length)
  (tq:∀ (f:Addr) (ao:Value) (A:Around) (outer:List Env) (s:Shared) (H:Hp) (vs:List V) (Q:VK) (E:XK),cy k (A.deeper (envOfC x (az st) s.heap.objs.size f ao))->sp vs H Q E->
   ∃ t,jw (gu vj P w K mg base N x (az st) f ao A outer s H E).sj (ir st) t/\t {nx:=fun _ H'=>Q .af H',rt:=Q} (start N vs) H):ak P w K mg base (k+1) x ps sp:=by
 obtain ⟨f,fd,Fu,m,b⟩:=F
 exact ⟨f,fd,Fu.ok S len (tq f),m,Fu.kp,b,let ⟨oc,od,_,_,_,_,_,_,gv,_,lk,_⟩:=Fu.ex;⟨oc,od,gv,lk⟩⟩
section
variable {pos:Pos}
theorem OF {v:V} (h:∃ u,X.mg x=some u/\RelV v u) (hg:Gl X x:=by rfl) (hd:(x==("__debug__":Str))=false:=by decide):PE X (.Name x pos) (tC v):=by
 obtain ⟨u,h1,h2⟩:=h
 exact tS hg h1 h2 hd
theorem OG:t_ X (fun x lo hi H Q=>F6 x lo hi H Q\/(FL X.K x lo hi H Q\/FI X.K x lo hi H Q)):=OC.or (yN.or Nm)
end
section
variable (K:QZ)
theorem aV (h:X.K=K:=by rfl):Af X (Jw K):=by rw [<- h];exact OA
theorem nW (h:X.K=K:=by rfl):br X (compareOp .In) (Ea K false):=by rw [<- h];exact OB
theorem uE (h:X.K=K:=by rfl):br X (compareOp .NotIn) (Ea K true):=by rw [<- h];exact uO
theorem bN (h:X.K=K:=by rfl):jx X (.builtin "len") (F5 K):=by rw [<- h];exact uQ
theorem rH (h:X.K=K:=by rfl):t_ X (fun x lo hi H Q=>F6 x lo hi H Q\/(FL K x lo hi H Q\/FI K x lo hi H Q)):=by rw [<- h];exact OG
theorem OH {l:Expr} {tl:TE} (hl:PE X l tl) (h:X.K=K:=by rfl):PI X tg l (iD K tl):=by rw [<- h];exact OE hl
theorem zF {k:Nat} {t:sy} {pos:Pos} (hc:X.calm=true) (hh:Bd X es t) (h:X.K=K:=by rfl)
  (hn:(assignEach es X.env).length=n:=by rfl) (hst:(assignEach es X.env).findIdx? (·.1)=none:=by rfl):PG X (.Tuple es k pos) (Cp K n t):=by
 subst h;exact zU hc hh hn hst
theorem OI {id:String} {r:V->List V->Hp->VK->Prop} {o:Expr} (pa:PlainAttrs T) (slot:Slot T name id) (xh:typeOf (.builtin id)=pure (.type "method_descriptor")) (hm:Ag X id r) (ho:PE X o to) (ha:PA X (e::es) t) (h:X.K=K:=by rfl)
  (xj:attributeBase o name X.env (eval o X.env)=eval o X.env:=by rfl)
  (qc:((backTo cpos (starEach (e::es) X.env)).all (fun x=> !x.1)&&(backToKw cpos (keywordEach [] X.env)).all (fun x=>x.1.isSome)
   &&decide ((e::es).length+([]:List Keyword).length+(if ([]:List Keyword).isEmpty then 0 else 1) < 30))=true:=by rfl)
  (xn:(apos.endLine==cpos.line)=true:=by rfl) (hs:starEach (e::es) X.env=(false,eval e X.env)::starEach es X.env:=by rfl) (Cw:(backTo cpos (starEach es X.env)).any (·.1)=false:=by rfl):
  PE X (.Call (.Attribute o name apos) (e::es) [] cpos) (FO K T r to t):=by
 subst h;exact NB pa slot xh hm ho ha xj qc xn hs Cw
end
structure SE (X:Cx) (e:Expr) (t:TE):Prop where
 h:PE X e t
structure ST (X:Cx) (e:Expr) (t:TT):Prop where
 h:PT X e t
structure SW (X:Cx) (e:Expr) (t:TT):Prop where
 h:PW X e t
structure SA (X:Cx) (es:List Expr) (t:TA):Prop where
 h:PA X es t
structure SS (X:Cx) (s:Stmt) (t:TS):Prop where
 h:PS X s t
structure SB (X:Cx) (s:List Stmt) (t:TS):Prop where
 h:jw X s t
structure SG (X:Cx) (e:Expr) (t:TG):Prop where
 h:PG X e t
structure Eb (X:Cx) (e:List Expr) (t:sy):Prop where
 h:Bd X e t
structure SI (X:Cx) (tg e:Expr) (t:TI):Prop where
 h:PI X tg e t
structure SC (X:Cx) (e:List Expr) (t:TC):Prop where
 h:xo X e t
structure SO (X:Cx) (e:Option Expr) (t:TO):Prop where
 h:PO X e t
section
variable {c:Const} {ik:Pos} {n:Str} {yu:List Expr} {f0 a0 b0 c0:Expr} {Jy:List Keyword} {o0:Operator} {uc:List (Option Expr)} {Jz:List Comprehension} {JA:Scope} {u0:UnaryOp} {Vp:BoolOp} {Vq:List CmpOp}
theorem aD:SA X [] Ct:=⟨Nd⟩
theorem aC (ha:SE X (.Constant c j ik) te) (hr:SA X es t):SA X (.Constant c j ik::es) (p_ te t):=⟨d5 ha.h hr.h⟩
theorem aB (ha:SE X (.Name n ik) te) (hr:SA X es t):SA X (.Name n ik::es) (p_ te t):=⟨d5 ha.h hr.h⟩
theorem y3 (ha:SE X (.List yu ik) te) (hr:SA X es t):SA X (.List yu ik::es) (p_ te t):=⟨d5 ha.h hr.h⟩
theorem aT (ha:SE X (.Tuple yu j ik) te) (hr:SA X es t):SA X (.Tuple yu j ik::es) (p_ te t):=⟨d5 ha.h hr.h⟩
theorem bF (ha:SE X (.Call f0 yu Jy ik) te) (hr:SA X es t):SA X (.Call f0 yu Jy ik::es) (p_ te t):=⟨d5 ha.h hr.h⟩
theorem cD (ha:SE X (.BinOp a0 o0 b0 ik) te) (hr:SA X es t):SA X (.BinOp a0 o0 b0 ik::es) (p_ te t):=⟨d5 ha.h hr.h⟩
theorem aH (ha:SE X (.Subscript a0 b0 ik) te) (hr:SA X es t):SA X (.Subscript a0 b0 ik::es) (p_ te t):=⟨d5 ha.h hr.h⟩
theorem zA (ha:SE X (.Dict uc yu ik) te) (hr:SA X es t):SA X (.Dict uc yu ik::es) (p_ te t):=⟨d5 ha.h hr.h⟩
theorem d9 (ha:SE X (.ListComp a0 Jz JA ik) te) (hr:SA X es t):SA X (.ListComp a0 Jz JA ik::es) (p_ te t):=⟨d5 ha.h hr.h⟩
theorem xH (ha:SE X (.IfExp a0 b0 c0 ik) te) (hr:SA X es t):SA X (.IfExp a0 b0 c0 ik::es) (p_ te t):=⟨d5 ha.h hr.h⟩
end
section
variable {a b c o i value lo hi iter elt:Expr} {ta tb tc td ty tv:TE} {pos p p2 ik:Pos}
theorem zv (i:Nat) {pos:Pos} (hN:X.N[i]? =some x:=by rfl) (hv:Ba X.env.scope x:=by first | exact Or.inl rfl | exact Or.inr (Or.inl rfl) | exact Or.inr (Or.inr rfl)) (hd:(x==("__debug__":Str))=false:=by decide) (jj:(x==("__classdict__":Str))=false:=by decide):SE X (.Name x pos) (tV i):=⟨Ol i hN hv hd jj⟩
theorem yC {v:V} (h:∃ u,X.mg x=some u/\RelV v u) (hg:Gl X x:=by rfl) (hd:(x==("__debug__":Str))=false:=by decide):SE X (.Name x pos) (tC v):=⟨OF h hg hd⟩
theorem eK {j}:SE X (.Constant .none j pos) (tC .af):=⟨ME⟩
theorem u6 {b:Bool} {j}:SE X (.Constant (.bool b) j pos) (tC (.bl b)):=⟨MD⟩
theorem aF {i:Int} {j}:SE X (.Constant (.int i) j pos) (tC (.int i)):=⟨MC⟩
theorem aJ {j}:SE X (.Constant (.str x) j pos) (tC (.str x)):=⟨MF⟩
theorem bS {op:Operator} {r:R2} (ho:br X (binaryOp op) r) (ha:SE X a ta) (hb:SE X b tb):SE X (.BinOp a op b pos) (Bg r ta tb):=⟨MU ho ha.h hb.h⟩
theorem Ga {op:UnaryOp} {r:V->Hp->VK->Prop} (ho:DS X (unaryOp op) r) (ha:SE X a ta):SE X (.UnaryOp op a pos) (IP r ta):=⟨MV ho ha.h⟩
theorem aL {op:CmpOp} {r:R2} (ho:br X (compareOp op) r) (ha:SE X a ta) (hb:SE X b tb) (hm:behindInMarks op b=false):ST X (.Compare a [op] [b] pos) (IT (Bg r ta tb)):=⟨yF ho ha.h hb.h hm⟩
theorem zO (h:SE X e te) (he:∀ whole,isTrue e X.env whole=(do let v <- whole;standAt e.pos;holding [v] (truthy v)):=by intro _;rfl):ST X e (tB te):=⟨zZ h.h he⟩
theorem OJ (ha:ST X a tA):ST X (.UnaryOp .Not a pos) (IA tA):=⟨MJ ha.h⟩
theorem fQ (ha:ST X a tA):SW X (.BoolOp .And [a] pos) tA:=⟨yT ha.h⟩
theorem zJ (ha:ST X a tA):SW X (.BoolOp .Or [a] pos) tA:=⟨MG ha.h⟩
theorem kD {vc:TT} {rest:List Expr} (ha:ST X a tA) (hb:SW X (.BoolOp .And (b::rest) pos) vc):SW X (.BoolOp .And (a::b::rest) pos) (Iw tA vc):=⟨MH ha.h hb.h⟩
theorem Gb {vc:TT} {rest:List Expr} (ha:ST X a tA) (hb:SW X (.BoolOp .Or (b::rest) pos) vc):SW X (.BoolOp .Or (a::b::rest) pos) (Iz tA vc):=⟨MI ha.h hb.h⟩
theorem SW.pt {tA:TT} (h:SW X e tA):ST X e tA:=⟨h.h.pt⟩
theorem cA (h:SA X es t):SE X (.List es pos) (IW t):=⟨Ng h.h⟩
theorem aS {x1} (h:SA X es t):SE X (.Tuple es x1 pos) (IV t):=⟨Nf h.h⟩
theorem OL:SE X (.Dict [] [] pos) Jk:=⟨wQ⟩
theorem oE (hc:ST X c tA) (ha:SE X a ta) (hb:SE X b tb):SE X (.IfExp c a b pos) (IB tA ta tb):=⟨vK hc.h ha.h hb.h⟩
theorem fA:SO X none I_:=⟨xI⟩
theorem f9 (h:SE X e te):SO X (some e) (Ja te):=⟨yR h.h⟩
theorem eP {r:V->Option Int->Option Int->Hp->VK->Prop} {l u:Option Expr} {tl th:TO} (hr:t_ X r) (he:SE X e te) (hl:SO X l tl) (hu:SO X u th):SE X (.Subscript e (.Slice l u none p2) pos) (Jb r te tl th):=⟨vT hr he.h hl.h hu.h⟩
theorem j5 (hu:X.A.units+1 < cLine) (ho:SE X o td) (hi:SE X i ty) (hs:D5 i):SE X (.Subscript o i pos) (Ji td ty):=⟨y6 hu ho.h hi.h hs⟩
theorem aU {r:R2} (hr:Af X r) (ha:SE X a ta) (hb:SE X b tb) (hs:Jd b):SE X (.Subscript a b pos) (Bg r ta tb):=⟨Nn hr ha.h hb.h hs⟩
theorem bB {k:Nat} (F:ak X.prog X.w X.K X.mg X.base k x ps sp) (hr:cy k X.A) (ha:SA X (e::es) t) (hg:Gl X x:=by rfl) (dw:(x==("__debug__":Str))=false:=by decide)
  (he:starEach (e::es) X.env=(false,eval e X.env)::starEach es X.env:=by rfl) (hpl:(backTo pos (starEach es X.env)).any (·.1)=false:=by rfl):
  SE X (.Call (.Name x p) (e::es) [] pos) (Bk sp [] E0 t):=⟨OD F hr ha.h hg dw he hpl⟩
theorem bV {id:String} {r:List V->Hp->VK->Prop} (hc:jx X (.builtin id) r) (hg:Gl X x) (hm:X.mg x=none) (hv:bootBuiltins x=some (.builtin id)) (ha:SA X (e::es) t) (hn:x≠"__name__":=by decide) (dw:(x==("__debug__":Str))=false:=by decide)
  (he:starEach (e::es) X.env=(false,eval e X.env)::starEach es X.env:=by rfl) (hpl:(backTo pos (starEach es X.env)).any (·.1)=false:=by rfl):SE X (.Call (.Name x p) (e::es) [] pos) (DY r t):=⟨x6 hc hg hm hv ha.h hn dw he hpl⟩
theorem jM (K:QZ) {id:String} {r:V->List V->Hp->VK->Prop} (pa:PlainAttrs T) (slot:Slot T name id) (xh:typeOf (.builtin id)=pure (.type "method_descriptor")) (hm:Ag X id r) (ho:SE X o to) (ha:SA X (e::es) t) (h:X.K=K:=by rfl)
  (xj:attributeBase o name X.env (eval o X.env)=eval o X.env:=by rfl)
  (qc:((backTo cpos (starEach (e::es) X.env)).all (fun x=> !x.1)&&(backToKw cpos (keywordEach [] X.env)).all (fun x=>x.1.isSome)
   &&decide ((e::es).length+([]:List Keyword).length+(if ([]:List Keyword).isEmpty then 0 else 1) < 30))=true:=by rfl)
  (xn:(apos.endLine==cpos.line)=true:=by rfl) (hs:starEach (e::es) X.env=(false,eval e X.env)::starEach es X.env:=by rfl) (Cw:(backTo cpos (starEach es X.env)).any (·.1)=false:=by rfl):
  SE X (.Call (.Attribute o name apos) (e::es) [] cpos) (FO K T r to t):=⟨OI K pa slot xh hm ho.h ha.h h xj qc xn hs Cw⟩
theorem aZ:SB X [] DL:=⟨xL⟩
theorem aG {st:Stmt} {u:TS} (h1:SS X st u):SB X [st] u:=⟨yW h1.h⟩
theorem aE {st:Stmt} {rest:List Stmt} {u v:TS} (h1:SS X st u) (h2:SB X rest v):SB X (st::rest) (yl u v):=⟨wR h1.h h2.h⟩
theorem aW (he:SE X e te):SS X (.Return (some e) pos) (IE te):=⟨MK he.h⟩
theorem cV (he:SE X e te) (hs:swapsWith e none pos.line X.env=pure false:=by rfl):SS X (.Expr e pos) (ID te):=⟨y4 he.h hs⟩
theorem bM {a b:List Stmt} {u v:TS} (hc:ST X c tA) (ha:SB X a u) (hb:SB X b v):SS X (.If c a b pos) (Fy tA u v):=⟨ML hc.h ha.h hb.h⟩
theorem jZ {u:TS} (hp:PassesOwn (model X.prog X.w) X.A X.env X.xe) (hc:X.calm=true) (hi:SI X tg iter wi) (hg:SG X tg g) (hb:SB X body u) (hs:∀ x,foldedSetIterable iter X.env x=pure x:=by intro _;rfl):SS X (.For tg iter body [] pos) (IL wi g u):=⟨MS hp hc hi.h hg.h hb.h hs⟩
theorem gX {u:TS} (hp:PassesOwn (model X.prog X.w) X.A X.env X.xe) (hc:ST X c tA) (hb:SB X body u):SS X (.While c body [] pos) (IJ tA u):=⟨vU hp hc.h hb.h⟩
theorem aX {i:Nat} (hN:X.N.Nodup) (hi:X.N[i]? =some x) (hx:Loc X.env.scope x) (he:SE X e te) (hs:swapsWith e (some (.Name x pos')) pos.line X.env=pure false:=by rfl) (hf:X.fn x=true\/X.env.scope.names.lookup x=some .local:=by first | exact .inl rfl | exact .inr rfl | assumption):
  SS X (.Assign [.Name x pos'] e pos) (s_ te (jd i)):=⟨MO hN hi hx he.h hs hf⟩
theorem rM (hu:X.A.units+1 < cLine) (ho:SE X o td) (hi:SE X i ty) (hv:SE X value tv) (hs:swapsWith value (some (.Subscript o i pos')) pos.line X.env=pure false):SS X (.Assign [.Subscript o i pos'] value pos) (Jj td ty tv):=⟨yI hu ho.h hi.h hv.h hs⟩
theorem hZ (he:SE X e te) (hg:SG X tg g) (hs:swapsWithSole [tg] e pos.line X.env=pure false:=by rfl) (hw:swappedStores [tg] e X.env=pure none:=by rfl)
  (h1:(assignEach [tg] X.env).map (·.2)=[assign tg X.env]:=by rfl):SS X (.Assign [tg] e pos) (s_ te g):=⟨MN he.h hg.h hs hw h1⟩
theorem aY {i:Nat} (hN:X.N.Nodup) (hi:X.N[i]? =some x) (hx:Loc X.env.scope x) (hf:X.fn x=true\/X.env.scope.names.lookup x=some .local:=by first | exact .inl rfl | exact .inr rfl | assumption):SG X (.Name x pos) (jd i):=⟨xZ hN hi hx hf⟩
theorem cL:Eb X [] DO:=⟨zC⟩
theorem bA {u:sy} (h1:SG X e g) (h2:Eb X es u) (hs:(assignEach (e::es) X.env).map (·.2)=assign e X.env::(assignEach es X.env).map (·.2):=by rfl):Eb X (e::es) (z_ g u):=⟨vV h1.h h2.h hs⟩
theorem dG (K:QZ) {k:Nat} {u:sy} (hc:X.calm=true) (hh:Eb X es u) (h:X.K=K:=by rfl)
  (hn:(assignEach es X.env).length=n:=by rfl) (hst:(assignEach es X.env).findIdx? (·.1)=none:=by rfl):SG X (.Tuple es k pos) (Cp K n u):=⟨zF K hc hh.h h hn hst⟩
theorem oZ {u:DM} (ho:SE X o td) (hi:SE X i ty) (hs:Fz X u)
  (ha:∀ v,assign (.Subscript o i pos) X.env v=(do
   let ov <- holding [v] (eval o X.env)
   let iv <- holding [v,ov] (eval i X.env)
   standAt pos
   holding [v,ov,iv] (setItem ov iv v)
   release [v,ov,iv] []):=by intro _;rfl):SG X (.Subscript o i pos) (IF td ty u):=⟨MM ho.h hi.h hs ha⟩
theorem l5 (hg:Gl X "range") (hm:X.mg "range"=none) (ha:SA X [a] t) (hs:starEach [a] X.env=[(false,eval a X.env)]:=by rfl):SI X tg (.Call (.Name "range" p) [a] [] pos) (IK t):=⟨uD hg hm ha.h hs⟩
theorem qW (K:QZ) (hl:SE X e te) (h:X.K=K:=by rfl):SI X tg e (iD K te):=⟨OH K hl.h h⟩
theorem eL:SC X [] Js:=⟨yP⟩
theorem xF (h:ST X c tA):SC X [c] tA:=⟨xX h.h⟩
theorem oO {tt:TC} (S:qf X.env.scope X.N sc own idx N') (hc:X.calm=true) (hi:SI X tg iter wi)
  (hg:∀ cl C s3 H0 fp pn,SG (dz X N' sc cl C s3 H0 fp pn) tg g) (ht:∀ cl C s3 H0 fp pn,SC (dz X N' sc cl C s3 H0 fp pn) ifs tt) (he:∀ cl C s3 H0 fp pn,SE (dz X N' sc cl C s3 H0 fp pn) elt te)
  (hs:∀ x,foldedSetIterable iter X.env x=pure x:=by intro _;rfl):SE X (.ListComp elt [⟨tg,iter,ifs,0⟩] sc pos) (D_ own idx wi g tt te):=
 ⟨Oi S hc hi.h (fun q r s t u v=>(hg q r s t u v).h) (fun q r s t u v=>(ht q r s t u v).h) (fun q r s t u v=>(he q r s t u v).h) hs⟩
theorem vF {tt:TC} {i:Nat} {py spos:Pos} (S:qf X.env.scope X.N sc own idx N') (hc:X.calm=true) (hi:SI X tg iter wi)
  (hg:∀ cl C s3 H0 fp pn,SG (dz X N' sc cl C s3 H0 fp pn) tg g) (ht:∀ cl C s3 H0 fp pn,SC (dz X N' sc cl C s3 H0 fp pn) ifs tt) (he:∀ cl C s3 H0 fp pn,SE (dz X N' sc cl C s3 H0 fp pn) elt te)
  (hN:X.N.Nodup) (CF:X.N[i]? =some y) (hy:X.env.scope.names.lookup y=some .local)
  (xq:swapsWith (.ListComp elt [⟨tg,iter,ifs,0⟩] sc pos) (some (.Name y py)) spos.line X.env=pure true:=by rfl)
  (hs:∀ x,foldedSetIterable iter X.env x=pure x:=by intro _;rfl):SS X (.Assign [.Name y py] (.ListComp elt [⟨tg,iter,ifs,0⟩] sc pos) spos) (s_ (D_ own idx wi g tt te) (jd i)):=
 ⟨Oj S hc hi.h (fun q r s t u v=>(hg q r s t u v).h) (fun q r s t u v=>(ht q r s t u v).h) (fun q r s t u v=>(he q r s t u v).h) hN CF hy xq hs⟩
end
theorem b_.dh {K:QZ} {st:Stmt} {k:Nat} (F:b_ K mg x st ps) (S:cu N ps (az st)) (len:∀ vs H Q E,sp vs H Q E->vs.length=ps.length)
  (tq:∀ (f:Addr) (ao:Value) (A:Around) (outer:List Env) (s:Shared) (H:Hp) (vs:List V) (Q:VK) (E:XK),cy k (A.deeper (envOfC x (az st) s.heap.objs.size f ao))->sp vs H Q E->
   ∃ t,SB (gu vj P w K mg base N x (az st) f ao A outer s H E).sj (ir st) t/\t {nx:=fun _ H'=>Q .af H',rt:=Q} (start N vs) H):ak P w K mg base (k+1) x ps sp:=
 F.ok S len fun f ao A outer s H vs Q E hr h=>let ⟨t,h1,h2⟩:=tq f ao A outer s H vs Q E hr h;⟨t,h1.h,h2⟩
theorem OM {kx vx target iter:Expr} {pos:Pos} {it:Value} {D:Addr} (I:Nat->Shared->Prop)
  (turn:∀ n s,I n s->wpAny (model prog w) A (pyNext it) (fun r s₁=>match r with
   | none=>R (.ok .next) s₁
   | some v=>wpAny (model prog w) A (letOwnedTupleGo target it v) (fun _ Ai=>wpAny (model prog w) A (assign target env v) (fun _ s₂=>
     wpAny (model prog w) A (forIn ifs true fun c r=>if r=true then do let ok <- isTrue c env (eval c env);pure (ForInStep.yield ok) else pure (ForInStep.yield r)) (fun ok s₃=>
      if ok=true then wpAny (model prog w) A (eval kx env) (fun kv s₄=>wpAny (model prog w) A (eval vx env) (fun vv s₅=>
       wpAny (model prog w) A (dictSet D kv vv) (fun _ s₆=>∃ m,m < n/\I m s₆) gg s₅) gg s₄) gg s₃
      else ∃ m,m < n/\I m s₃) gg s₂) gg Ai) gg s₁) gg s)
  (n:Nat) (h:I n s):
  codeAny (model prog w) A (.compLoop (.DictComp kx vx [⟨target,iter,ifs,0⟩] scope pos) 0 it (.ref D) env) R s:=by
 refine codeAny_loop rfl I (fun n s hI=>?_) n h
 show wpAny _ A ((compTurn (.DictComp kx vx [⟨target,iter,ifs,0⟩] scope pos) 0 it (.ref D) env).onRaise (fun x=>do noteFrame x env;theTreesLotGoes x)) _ _ s
 refine wpAny_noted ?_
 rw [compTurn_dict]
 refine QS (wpAny_standAt (QS (wpAny_mono (turn n s hI) (fun r s₁ h₁=>?_) fun _ _ h'=>h'.elim)))
 cases r with
 | none=>exact QT h₁
 | some v=>
  refine QS (wpAny_mono h₁ (fun _ Ai F0=>?_) fun _ _ h'=>h'.elim)
  refine QS (wpAny_mono F0 (fun _ s₂ h₂=>QS (wpAny_mono h₂ (fun ok s₃ h₃=>?_) fun _ _ h'=>h'.elim)) fun _ _ h'=>h'.elim)
  cases ok with
  | false=>exact QT ⟨rfl,h₃⟩
  | true=>
   exact QS (QS (wpAny_mono h₃ (fun kv s₄ h₄=>QS (wpAny_holding (wpAny_mono h₄ (fun vv s₅ h₅=>QS (wpAny_standAt (wpAny_holding (wpAny_mono h₅ (fun _ s₆ h₆=>QT ⟨rfl,h₆⟩) fun _ _ h'=>h'.elim)))) fun _ _ h'=>h'.elim))) fun _ _ h'=>h'.elim))
section
variable {iter kx vx:Expr} {pos:Pos} {tc:TC} {tk tw:TE}
abbrev ON:Obj:={cls:=.type "dict",data:=.dict #[]}
def OO (own:List Str) (idx:List Nat) (wi:TI) (g:TG) (tc:TC) (tk tw:TE):TE:=fun σ H Q=>wi σ H fun J H1=>∀ D,H1 D=none->∃ W:Nat->Nat->St->Hp->Prop,(∃ m,W 0 m (vm own idx σ) (upd H1 D (.dK [])))/\∀ i m τ H,W i m τ H->
 (J.stop i H/\Q (.ref D) H)\/(J.go i H/\∃ N:St->Hp->Prop,(∀ τ' H',N τ' H'->∃ m',m' < m/\W (i+1) m' τ' H')/\∀ x H',J.mr i H x H'->g x τ H' fun τ2 H2=>tc τ2 H2 fun b H3=>
  if b=true then tk τ2 H3 fun x H4=>tw τ2 H4 fun y H5=>∃ kvs key,x=kV key/\H5 D=some (.dK kvs)/\kvs.length < sizeLine/\N τ2 (upd H5 D (.dK (putK kvs key y))) else N τ2 H3)
theorem qC (S:qf X.env.scope X.N sc own idx N') (c1:∀ x c,cl.lookup x=some c->X.env.cells.lookup x=some c) (c2:∀ y∈sc.names,y.2=.free->∃ c,cl.lookup y.1=some c) (hc:X.calm=true)
  (hg:∀ cl C s3 H0 fp pn,PG (dz X N' sc cl C s3 H0 fp pn) tg g) (ht:∀ cl C s3 H0 fp pn,xo (dz X N' sc cl C s3 H0 fp pn) ifs tc) (he:∀ cl C s3 H0 fp pn,PE (dz X N' sc cl C s3 H0 fp pn) kx tk) (hv:∀ cl C s3 H0 fp pn,PE (dz X N' sc cl C s3 H0 fp pn) vx tw)
  {pins:List (Addr×Obj)} {σ:St} {Q:VK} {mw:Value} {s2:Shared} {RR:Value->Addr->Result->Shared->Prop} {E:Value->Shared->Prop}
  (hI:Be X pins σ tg (fun J H1=>∀ D,H1 D=none->∃ W:Nat->Nat->St->Hp->Prop,(∃ m,W 0 m (vm own idx σ) (upd H1 D (.dK [])))/\∀ i m τ H,W i m τ H->
   (J.stop i H/\Q (.ref D) H)\/(J.go i H/\∃ N:St->Hp->Prop,(∀ τ' H',N τ' H'->∃ m',m' < m/\W (i+1) m' τ' H')/\∀ x H',J.mr i H x H'->g x τ H' fun τ2 H2=>tc τ2 H2 fun b H3=>
    if b=true then tk τ2 H3 fun x H4=>tw τ2 H4 fun y H5=>∃ kvs key,x=kV key/\H5 D=some (.dK kvs)/\kvs.length < sizeLine/\N τ2 (upd H5 D (.dK (putK kvs key y))) else N τ2 H3)) mw s2)
  (CD:∀ D C H' s',Inv X pins σ H' s'->Q (.ref D) H'->(H' C=none/\C≠X.env.locals/\X.s₀.heap.objs.size<=C/\(∀ x c,X.env.cells.lookup x=some c->c≠C)/\(∀ p∈X.pn++pins,p.1≠C)/\∃ m,s'.heap.Ns C m)->RR (.ref D) C (.ok .next) s'):
  wpAny (model X.prog X.w) X.A newDict (fun acc s₃=>wpAny (model X.prog X.w) X.A (newFunctionEnv sc X.env.globals cl [] X.env.qual none .none (some X.env)) (fun cenv s₄=>
   codeAny (model X.prog X.w) X.A (.compStart (.DictComp kx vx [⟨tg,iter,ifs,0⟩] sc pos) 0 mw acc {cenv with scope:=relabel sc X.env}) (RR acc cenv.locals) s₄) E s₃) E s2:=by
 refine pA (ob:=ON) (sel:=fun env D s K=>wpAny (model X.prog X.w) X.A (eval kx env) (fun kv s₄=>wpAny (model X.prog X.w) X.A (eval vx env) (fun vv s₅=>wpAny (model X.prog X.w) X.A (dictSet D kv vv) (fun _ s₆=>K s₆) gg s₅) gg s₄) gg s) (o0:=.dK []) (el:=fun D τ H K=>tk τ H fun x H4=>tw τ H4 fun y H5=>∃ kvs key,x=kV key/\H5 D=some (.dK kvs)/\kvs.length < sizeLine/\K (upd H5 D (.dK (putK kvs key y)))) S c1 c2 hc (hob:=rfl)
  (fun it D env R s I turn n h=>OM I turn n h) (fun h k=>aq h fun _ _ h=>aq h fun _ _ h=>aq h fun _ _ h=>k _ h) (fun _ _ _ _ _=>codeAny_compStart_dict) hg ht (fun cl C s3 H0 fp pn pins s τ H D N I q=>?_) (fun Q E h=>wpAny_newObj_type h)
  (fun H' I H h e=>⟨Nat.zero_le _,beq_eq_false_iff_ne.mpr (Ne.symm (Nat.ne_of_lt I.big)),[],.nil,(Heap.DictOf.new s2.heap).at fun o eo=>by rw [Qd _ rfl] at eo;cases eo;exact e⟩) hI CD
 refine aq (he cl C s3 H0 fp pn _ s τ H _ I q) fun kv s8 ⟨x8,H8,I8,r8,q8⟩=>aq (hv cl C s3 H0 fp pn _ s8 τ H8 _ I8 q8) fun yv s9 ⟨y9,H9,I9,r9,kvs,key,ek,JB,hz,n9⟩=>?_
 subst ek
 obtain ⟨z,hd,vs,rel,dd⟩:=pT I9.hok JB
 have CG:vs.length<=sizeLine:=by rw [<- rel.length];exact z
 have e_:(putK kvs key y9).length<=sizeLine:=by have:=d8 kvs key y9;omega
 refine wpAny_dictSet_pairs (hsz:=CG) (jU r8) dd fun h' qd hs=>?_
 have Gc:∃ q,h'.get? D=some q:=let ⟨q,_,_,hq,_⟩:=qd;⟨q,hq⟩
 exact ⟨_,kR (t':=s9.toks+1) (ob:=.dK (putK kvs key y9)) I9 (by rw [JB];exact True.intro) hs Gc (rF e_ hd (rel.put key r9) qd),n9⟩
end
theorem aa.upd {H:Hp} {a:Addr} (h:H a=none) (o:HO):aa H (upd H a o):=fun b u q=>by rw [aK (aQ q h)];exact q
theorem OP {c:Bool} {A B:Prop} (h1:c=true->B) (h2:c=false->A):if (!c)=true then A else B:=by
 cases c with
 | true=>exact jy (h1 rfl)
 | false=>exact FY (h2 rfl)
theorem aj {c:Bool} {A B:Prop} (h1:c=true->A) (h2:c=false->B):if c=true then A else B:=by
 cases c with
 | true=>exact FY (h1 rfl)
 | false=>exact jy (h2 rfl)
theorem aM {t u:TS} (mid:St->Hp->Prop) (h1:∀ nx:St->Hp->Prop,(∀ σ' H',mid σ' H'->nx σ' H')->t {D with nx:=nx} σ H) (h2:∀ σ' H',mid σ' H'->u D σ' H'):yl t u D σ H:=h1 (u D) h2
theorem aO (x:α) (xs:List α):je (x::xs) 0=some x:=cF (j:=0) rfl
theorem iL (xs:List α) (i:Int) (h0:0<=i) (h1:i < xs.length):∃ c,xs[i.toNat]? =some c/\je xs i=some c:=by
 have hl:i.toNat < xs.length:=by omega
 refine ⟨xs[i.toNat],by simp [hl],?_⟩
 have:=cF (xs:=xs) (j:=i.toNat) (v:=xs[i.toNat]) (by simp [hl])
 rw [<- this]
 congr 1
 omega
theorem kC (ns:List Str) (i:Nat) (h:i < ns.length):(ns.map V.str).getD i .af=.str (ns.getD i ""):=by
 simp [Qb,h]
abbrev OQ (w:Addr) (m t:Int):List (Key×V):=[(.inr "mixed",.int m),(.inr "turn",.int t),(.inr "wide",.ref w)]
structure yw (H:Hp) (p w:Addr) (t:Nat):Prop where
 ex:∃ (m c:Int) (ws:List Int),H p=some (.dK (OQ w m c))/\H w=some (.lst (ws.map V.int))/\(0<=m/\m < 2147483629)/\0<=c/\c<=(t:Int)
def Sm (p w:Addr) (H H':Hp):Prop:=∀ b o,H b=some o->b≠p->b≠w->H' b=some o
theorem Sm.refl {w:Addr}:Sm p w H H:=fun _ _ h _ _=>h
theorem Sm.trans {w:Addr} {H1 H2:Hp} (a:Sm p w H H1) (b:Sm p w H1 H2):Sm p w H H2:=fun c o h h1 h2=>b c o (a c o h h1 h2) h1 h2
theorem aa.sm {w:Addr} {H1:Hp} (a:aa H H1):Sm p w H H1:=fun c o h _ _=>a c o h
theorem yw.same {w:Addr} {t:Nat} (h:yw H p w t) (s:aa H H'):yw H' p w t:=by
 obtain ⟨m,c,ws,h1,h2,r⟩:=h.ex
 exact ⟨m,c,ws,s _ _ h1,s _ _ h2,r⟩
theorem Sm.free {w:Addr} (s:Sm p w H H') (h:H' l=none) (hp:l≠p) (hw:l≠w):H l=none:=by
 cases q:H l with
 | none=>rfl
 | some o=>rw [s l o q hp hw] at h;cases h
theorem yw.upd {H:Hp} {p w D:Addr} {t:Nat} {o:HO} (h:yw H p w t) (h1:D≠p) (h2:D≠w):yw (upd H D o) p w t:=by
 obtain ⟨m,c,ws,e1,e2,r⟩:=h.ex
 exact ⟨m,c,ws,by rw [aK h1.symm];exact e1,by rw [aK h2.symm];exact e2,r⟩
theorem Sm.upd {p w D:Addr} {H H':Hp} {o:HO} (s:Sm p w H H') (h:H D=none):Sm p w H (upd H' D o):=fun b u hb h1 h2=>by rw [aK (aQ hb h)];exact s b u hb h1 h2
def Ec (K:QZ):Sp:=fun vs H Q _=>∃ (a:Addr) (ns:List Int),vs=[.ref a]/\ai K H a (ns.map V.int)/\ns.length<=63/\∀ H',Q (.bl true) H'
def Ed (p w:Addr) (H:Hp):V->Prop
 | .af=>True
 | .bl _=>True
 | .int _=>True
 | .str z=>z.length<=100000
 | .ref a=>a≠p/\a≠w/\((∃ xs,H a=some (.lst xs))\/(∃ xs,H a=some (.tup xs))\/∃ kvs,H a=some (.dK kvs))
 | _=>False
theorem Ed.sm {w:Addr} {x:V} (h:Ed p w H x) (s:Sm p w H H'):Ed p w H' x:=by
 cases x with
 | ref a=>
  obtain ⟨h1,h2,h3⟩:=h
  refine ⟨h1,h2,?_⟩
  rcases h3 with ⟨xs,e⟩ | ⟨xs,e⟩ | ⟨xs,e⟩
  ·exact .inl ⟨xs,s _ _ e h1 h2⟩
  ·exact .inr (.inl ⟨xs,s _ _ e h1 h2⟩)
  ·exact .inr (.inr ⟨xs,s _ _ e h1 h2⟩)
 | _=>exact h
structure Bs (p w:Addr) (t:Nat) (H:Hp) (xs:List V):Prop where
 OR:yw H p w t
 all:∀ x∈xs,Ed p w H x
section
variable {w:Addr} {t u:Nat} {xs ys:List V}
theorem Bs.sm (g:Bs p w t H xs) (hp:yw H' p w u) (s:Sm p w H H'):Bs p w u H' xs:=⟨hp,fun x hx=>(g.all x hx).sm s⟩
theorem Bs.upd {q:Addr} {o:HO} (g:Bs p w t H xs) (h:H q=none):Bs p w t (upd H q o) xs:=g.sm (g.OR.same (aa.upd h o)) (aa.upd h o).sm
end
section
variable {p pos:Pos}
theorem bU {r:List V->Hp->VK->Prop} (hc:jx X (.type T) r) (hg:Gl X x) (hm:X.mg x=none) (hv:bootBuiltins x=some (.type T)) (ha:SA X (e::es) t) (hn:x≠"__name__":=by decide) (dw:(x==("__debug__":Str))=false:=by decide)
  (he:starEach (e::es) X.env=(false,eval e X.env)::starEach es X.env:=by rfl) (hpl:(backTo pos (starEach es X.env)).any (·.1)=false:=by rfl):SE X (.Call (.Name x p) (e::es) [] pos) (DY r t):=⟨uM hc hg hm hv ha.h hn dw he hpl⟩
def OS (K:QZ):List V->Hp->VK->Prop:=fun xs H Q=>∃ p ys,xs=[.ref p]/\((ai K H p ys/\∀ l,H l=none->Q (.ref l) (upd H l (.tup ys)))\/(ae K H p ys/\Q (.ref p) H))
def OT (K:QZ):List V->Hp->VK->Prop:=fun xs H Q=>∃ p ys,xs=[.ref p]/\(ai K H p ys\/ae K H p ys)/\∀ l,H l=none->Q (.ref l) (upd H l (.lst ys))
theorem cX (K:QZ) (h:X.K=K:=by rfl):jx X (.type "tuple") (OS K):=by subst h;exact mG
theorem tW (K:QZ) (h:X.K=K:=by rfl):jx X (.type "list") (OT K):=by subst h;exact oK
theorem mY:∀ {xs:List Str} {us:List Value},StrsAre us xs->au (xs.map V.str) us
 | _,_,.nil=>.nil
 | _,_,.cons x k r=>.cons ⟨k,rfl⟩ (mY r)
end
mutual
inductive qg (H:Hp):V->PyData->Prop
 | af:qg H .af .none
 | bl (b:Bool):qg H (.bl b) (.bool b)
 | int (i:Int):qg H (.int i) (.int i)
 | str (z:Str):qg H (.str z) (.str z)
 | tup {a:Addr} {xs:List V} {ds:List PyData}:H a=some (.tup xs)->qh H xs ds->qg H (.ref a) (.tuple ds)
 | lst {a:Addr} {xs:List V} {ds:List PyData}:H a=some (.lst xs)->qh H xs ds->qg H (.ref a) (.list ds)
inductive qh (H:Hp):List V->List PyData->Prop
 | nil:qh H [] []
 | cons {x:V} {d:PyData} {xs:List V} {ds:List PyData}:qg H x d->qh H xs ds->qh H (x::xs) (d::ds)
end
mutual
theorem qg.same {H H':Hp} (s:aa H H'):∀ {x:V} {d:PyData},qg H x d->qg H' x d
 | _,_,.af=>.af
 | _,_,.bl b=>.bl b
 | _,_,.int i=>.int i
 | _,_,.str z=>.str z
 | _,_,.tup e r=>.tup (s _ _ e) (qh.same s r)
 | _,_,.lst e r=>.lst (s _ _ e) (qh.same s r)
theorem qh.same {H H':Hp} (s:aa H H'):∀ {xs:List V} {ds:List PyData},qh H xs ds->qh H' xs ds
 | _,_,.nil=>.nil
 | _,_,.cons a r=>.cons (qg.same s a) (qh.same s r)
end
mutual
theorem xC {P:Program} {w:World} {H:Hp} {h:Heap} (ok:bw P w H h):∀ {x:V} {d:PyData} {u:Value},qg H x d->RelV x u->∃ as,Reads h u d as
 | _,_,_,.af,r=>by cases (show _=Value.none from r);exact ⟨[],.none⟩
 | _,_,_,.bl b,r=>by cases (show _=Value.bool b from r);exact ⟨[],.bool b⟩
 | _,_,_,.int i,r=>by obtain ⟨t,rfl⟩:=(show ∃ t,_=Value.int i t from r);exact ⟨[],.int i t⟩
 | _,_,_,.str z,r=>by obtain ⟨t,rfl⟩:=(show ∃ t,_=Value.str z t from r);exact ⟨[],.str z t⟩
 | _,_,_,.tup (a:=a) (xs:=xs) e l,r=>by
  cases (show _=Value.ref a from r)
  obtain ⟨_,its,rv,o,ho,hc,n,hd⟩:=(show bx P w H h a (.tup xs) from ok a _ e)
  obtain ⟨as,ra⟩:=fY ok l rv
  exact ⟨as,.tuple ho hc hd (by simpa using ra)⟩
 | _,_,_,.lst (a:=a) (xs:=xs) e l,r=>by
  cases (show _=Value.ref a from r)
  obtain ⟨_,its,n,rv,ho⟩:=(show bx P w H h a (.lst xs) from ok a _ e)
  obtain ⟨as,ra⟩:=fY ok l rv
  exact ⟨a::as,.list ho rfl rfl (by simpa using ra)⟩
theorem fY {P:Program} {w:World} {H:Hp} {h:Heap} (ok:bw P w H h):∀ {xs:List V} {ds:List PyData} {us:List Value},qh H xs ds->au xs us->∃ as,ReadsAll h us ds as
 | _,_,_,.nil,.nil=>⟨[],.nil⟩
 | _,_,_,.cons a l,.cons r rs=>by
  obtain ⟨as,ra⟩:=xC ok a r
  obtain ⟨bs,rb⟩:=fY ok l rs
  exact ⟨as++bs,.cons ra rb⟩
end
def Ef (n:Bool):R2:=fun x y H Q=>match x,y with
 | .bl a,.bl b=>Q (.bl (n^^(a==b))) H
 | x,.af=>Q (.bl (n^^decide (x=.af))) H
 | _,_=>False
theorem rZ:br X (compareOp .Is) (Ef false):=by
 intro pins s σ H x y v u Q I rx ry h
 cases y with
 | af=>exact zX pins s σ H _ _ v u Q I rx ry ⟨rfl,by cases x<;>simpa [Ef] using h⟩
 | bl b=>
  cases x with
  | bl a=>
   cases rx;cases ry
   exact is_bool (bE I h (by cases a<;>cases b<;>rfl))
  | _=>exact (show False from h).elim
 | _=>cases x<;>exact (show False from h).elim
theorem tM:br X (compareOp .IsNot) (Ef true):=by
 intro pins s σ H x y v u Q I rx ry h
 cases y with
 | af=>exact yA pins s σ H _ _ v u Q I rx ry ⟨rfl,by cases x<;>simpa [Ef] using h⟩
 | bl b=>
  cases x with
  | bl a=>
   cases rx;cases ry
   exact isnot_bool (bE I h (by cases a<;>cases b<;>rfl))
  | _=>exact (show False from h).elim
 | _=>cases x<;>exact (show False from h).elim
abbrev JC:Str:="abcdefghijklmnopqrstuvwxyz"
abbrev OU:List Str:=["all","none","way","box","pick"]
def OV (c:Nat):Bool:= !(Builtin.Str.occurrences JC ⟨#[c]⟩ 0 JC.length 1).isEmpty
def isName (z:Str):Bool:=decide (1<=z.length)&&decide (z.length<=8)&& !(OU.any fun y=>y==z)&&z.cps.toList.all OV
theorem aa.put (s:aa H0 H') (h:H0 p=none):aa H0 (L2.upd H' p o):=fun b u q=>by rw [aK (aQ q h)];exact s b u q
theorem aI {u:TS} (h:te σ H fun x H1=>u D (σ.set i (some x)) H1):yl (s_ te (jd i)) u D σ H:=h
theorem jD {v:V} {u:TS} (h:u D (σ.set i (some v)) H):yl (s_ (tC v) (jd i)) u D σ H:=h
theorem aN {t u:TS} {rt:VK} {bk ct:St->Hp->Prop} (h:yl t u D σ H):DL {nx:=yl t u D,rt:=rt,bk:=bk,ct:=ct} σ H:=h
theorem Inv.Gd {T:Addr} (I:Inv X pins σ H s) (hf:∀ b∈ch,ky X pins H b) (k:∀ b o,b ∉ ch->s.heap.get? b=some o->h'.get? b=some o)
  (hT:s.heap.objs.size<=T) (new:bx X.prog X.w (upd H T o) h' T o):Inv X pins σ (upd H T o) {s with heap:=h',toks:=t'}:=by
 have j_:H T=none:=I.hok.fresh hT
 have nT:∀ b ob,s.heap.get? b=some ob->b≠T:=fun b ob e=>Nat.ne_of_lt (Nat.lt_of_lt_of_le (Qz e) hT)
 have se:∀ b u,H b=some u->b ∉ ch:=fun b u e hb=>by rw [(hf b hb).1] at e;cases e
 refine I.step (g':=s.gens) (d':=s.drawn) (ch:=ch) (fun b hb=>?_) (fun b o _ _ hc e _=>k b o hc e) (fun b o _ _ hc e _=>⟨o.slots,k b o hc e⟩) (fun b o hc e n=>by rw [aK (nT b o e)];exact n)
  (fun b o hc e=>⟨o,k b o hc e⟩) (fun b xs e=>by rw [aK (aQ e j_)];exact e) (fun b o u e=>by rw [aK (aQ e j_)];exact e) (fun b ps e=>⟨#[],by rw [aK (aQ e j_),e];simp⟩) (fun m hm=>?_) (fun b u e=>?_) I.bare
 ·obtain ⟨f0,f1,f2,f3,f4,f5⟩:=hf b hb
  exact ⟨f3,f1,f4,f5⟩
 ·obtain ⟨o,es,ep,ho,r⟩:=hm
  exact ⟨o,es,ep,k _ o (fun z=>(hf _ z).2.1 rfl) ho,r⟩
 ·by_cases hb:b=T
  ·subst hb
   rw [aA] at e;cases e
   exact new
  ·rw [aK hb] at e
   refine (I.hok b u e).stay (fun c v hc q=>k c v ?_ q) (fun c q=>by rw [aK (aQ q j_)];exact q) fun c xs q=>q.upd fun u' hu=>aQ hu j_
   rcases hc with z | z
   ·rw [z];exact se b u e
   ·exact se c _ z
theorem Inv.Ge (I:Inv X pins σ H s) (hf:∀ b∈ch,ky X pins H b) (k:∀ b o,b ∉ ch->s.heap.get? b=some o->h'.get? b=some o):Inv X pins σ H {s with heap:=h',toks:=t'}:=by
 have se:∀ b u,H b=some u->b ∉ ch:=fun b u e hb=>by rw [(hf b hb).1] at e;cases e
 refine I.step (g':=s.gens) (d':=s.drawn) (ch:=ch) (fun b hb=>?_) (fun b o _ _ hc e _=>k b o hc e) (fun b o _ _ hc e _=>⟨o.slots,k b o hc e⟩) (fun b o hc e n=>n)
  (fun b o hc e=>⟨o,k b o hc e⟩) (fun b xs e=>e) (fun b o u e=>e) (fun b ps e=>⟨#[],by rw [e];simp⟩) (fun m hm=>?_) (fun b u e=>?_) I.bare
 ·obtain ⟨f0,f1,f2,f3,f4,f5⟩:=hf b hb
  exact ⟨f3,f1,f4,f5⟩
 ·obtain ⟨o,es,ep,ho,r⟩:=hm
  exact ⟨o,es,ep,k _ o (fun z=>(hf _ z).2.1 rfl) ho,r⟩
 ·refine (I.hok b u e).stay (fun c v hc q=>k c v ?_ q) (fun c q=>q) fun c xs q=>q
  rcases hc with z | z
  ·rw [z];exact se b u e
  ·exact se c _ z
abbrev Aj (v1 v2:V):Hp->V->Hp->Prop:=fun H x H'=>∃ T,x=.ref T/\H T=none/\H'=upd H T (.tup [v1,v2])
def Gf (K:QZ) (a:Addr):It:=
 ⟨fun i H=>∃ xs x,ai K H a xs/\xs[i]? =some x,fun i H x H'=>∃ v,(∀ xs,ai K H a xs->xs[i]? =some v)/\Aj (.int i) v H x H',fun i H=>∃ xs,ai K H a xs/\xs.length<=i⟩
theorem nV {T:Addr} {v1 v2:V} {u1 u2:Value} (r1:RelV v1 u1) (r2:RelV v2 u2) (e:h.get? T=some {cls:=.type "tuple",data:=.seq #[u1,u2]}):bx P w H h T (.tup [v1,v2]):=
 ⟨⟨show 2<=sizeLine by decide,fun o q=>by rw [e] at q;cases q;rfl⟩,[u1,u2],.cons r1 (.cons r2 .nil),_,e,rfl,_,rfl⟩
theorem u8 {K:QZ} {k:Nat} {pos:Pos} (a e it:Addr) (hei:e≠it):Turn P w K (.Tuple yh k pos) (Gf K a) [e,it] e (fun i h=>(∃ old,IsEnum h e it i old)/\h.IsListIter it a i) where
 mem:=by simp
 obj:=fun i h st b hb=>by
  obtain ⟨⟨old,he⟩,o,ho,c,d⟩:=st
  simp only [Qp,QA,or_false] at hb
  rcases hb with rfl | rfl
  ·exact ⟨_,he,fun v z=>by
    have z':Data.fields _=Data.cell v:=z
    cases z'⟩
  ·exact ⟨o,ho,fun v z=>by rw [d] at z;cases z⟩
 keep:=fun i h h' st k=>by
  obtain ⟨⟨old,he⟩,hi⟩:=st
  exact ⟨⟨old,k e (by simp) _ he⟩,hi.at fun o x=>k it (by simp) o x⟩
 item:=by
  intro X hP hw hK hc i pins s σ H E I hf st hg
  subst hP hw hK
  obtain ⟨⟨old,he⟩,hit⟩:=st
  obtain ⟨xs,x,hq,hx⟩:=hg
  obtain ⟨its,rv,p,hz⟩:=I.list hq
  obtain ⟨u,hu,ru⟩:=rv.get hx
  refine wpAny_pyNext_enum_item he hit p.isList (x:=u) (by simpa using hu) hei fun h' ho OW hT hsz hk=>?_
  have I1:Inv X pins σ (upd H s.heap.objs.size (.tup [.int i,x])) {s with heap:=h',toks:=s.toks+1}:=I.Gd hf (fun b o hb e=>hk b o (fun z=>hb (by simp [z])) (fun z=>hb (by simp [z])) e) (Qy _) (nV ⟨_,rfl⟩ ru hT)
  refine ⟨_,rfl,wpAny_letOwnedTupleGo_enum (s:={s with heap:=h',toks:=s.toks+1}) ho fun Ak OX sb=>?_⟩
  have bz:∀ b∈[e,it],b≠s.heap.objs.size:=fun b hb z=>by
   simp only [Qp,QA,or_false] at hb
   rcases hb with rfl | rfl
   ·exact Nat.ne_of_lt (Qz he) z
   ·obtain ⟨_,q,_⟩:=hit;exact Nat.ne_of_lt (Qz q) z
  have yx:∀ b∈[e,it],ky X pins (upd H s.heap.objs.size (.tup [.int i,x])) b:=fun b hb=>by
   obtain ⟨f0,f⟩:=hf b hb
   exact ⟨by rw [aK (bz b hb)];exact f0,f⟩
  obtain ⟨f0,f1,f2,f3,f4,f5⟩:=yx e (by simp)
  refine ⟨.ref s.heap.objs.size,_,I1.turned (t':=s.toks+1) (fun b o hb q=>(sb.2 b hb).trans q) f0 f1 f3 f4 f5,rfl,⟨x,fun ys hy=>by rw [I.Cn hy hq];exact hx,_,rfl,I.hok.fresh (Qy _),rfl⟩,⟨⟨u,by simpa using OX⟩,OW.at fun o q=>(sb.2 it hei.symm).trans q⟩,fun b hb=>(yx b hb).1⟩
 done:=by
  intro X hP hw hK hc i pins s σ H E I hf st hg
  subst hP hw hK
  obtain ⟨⟨old,he⟩,hit⟩:=st
  obtain ⟨xs,hq,hx⟩:=hg
  obtain ⟨its,rv,p,hz⟩:=I.list hq
  have hl:=rv.length
  exact wpAny_pyNext_enum_end (I.ok.hd hc) he hit p.isList (by simp;omega) fun h' eb=>⟨rfl,I.Ge (t':=s.toks) hf fun b o hb q=>eb b o (fun z=>hb (by simp [z])) q⟩
 self:=fun _ _ _ _ _ st h=>let ⟨⟨_,he⟩,_⟩:=st;wpAny_pyIter_enum he h
theorem jS {l m:Nat} (h1:l < n) (h2:m < n):ZipApart (n+4) (n+2) (n+3) n (n+1) l m:=by
 constructor<;>(show (_:Nat)≠_)<;>omega
def Gg (K : QZ) (a b : Addr) : It :=
  ⟨fun i H => ∃ xs ys x y, ai K H a xs /\ ai K H b ys /\ xs[i]? = some x /\ ys[i]? = some y, fun i H x H' => ∃ v1 v2, (∀ xs, ai K H a xs -> xs[i]? = some v1) /\ (∀ ys, ai K H b ys -> ys[i]? = some v2) /\ Aj v1 v2 H x H',
   fun i H => ∃ xs ys, ai K H a xs /\ ai K H b ys /\ (xs.length <= i \/ ys.length <= i)⟩
abbrev OY (z TI TO i1 i2 a b:Addr) (i:Nat) (h:Heap):Prop:=IsZip h z TI TO .none/\IsPair h TI (.ref i1) (.ref i2)/\(∃ u v,IsPair h TO u v)/\h.IsListIter i1 a i/\h.IsListIter i2 b i
theorem wP {K:QZ} {k:Nat} {pos:Pos} (z TI TO i1 i2 a b:Addr) (D:ZipApart z TI TO i1 i2 a b):Turn P w K (.Tuple yh k pos) (Gg K a b) [z,TI,TO,i1,i2] z (OY z TI TO i1 i2 a b) where
 mem:=by simp
 obj:=fun i h st c hc=>by
  obtain ⟨hz,gw,⟨u,v,ip⟩,⟨o1,e1,c1,d1⟩,o2,e2,c2,d2⟩:=st
  simp only [Qp,QA,or_false] at hc
  rcases hc with rfl | rfl | rfl | rfl | rfl
  ·exact ⟨_,hz,fun v z=>by have z':Data.fields _=Data.cell v:=z;cases z'⟩
  ·exact ⟨_,gw,fun v z=>by have z':Data.seq _ _=Data.cell v:=z;cases z'⟩
  ·exact ⟨_,ip,fun v z=>by have z':Data.seq _ _=Data.cell v:=z;cases z'⟩
  ·exact ⟨_,e1,fun v z=>by rw [d1] at z;cases z⟩
  ·exact ⟨_,e2,fun v z=>by rw [d2] at z;cases z⟩
 keep:=fun i h h' st k=>by
  obtain ⟨hz,gw,⟨u,v,ip⟩,h1,h2⟩:=st
  exact ⟨k z (by simp) _ hz,k TI (by simp) _ gw,⟨u,v,k TO (by simp) _ ip⟩,h1.at fun o x=>k i1 (by simp) o x,h2.at fun o x=>k i2 (by simp) o x⟩
 item:=by
  intro X hP hw hK hc i pins s σ H E I hf st hg
  subst hP hw hK
  obtain ⟨hz,gw,⟨u0,v0,ip⟩,h1,h2⟩:=st
  obtain ⟨xs,ys,x,y,lq,hq2,hx,hy⟩:=hg
  obtain ⟨its,rv,p,CG⟩:=I.list lq
  obtain ⟨its2,kc,p2,hz2⟩:=I.list hq2
  obtain ⟨u,hu,ru⟩:=rv.get hx
  obtain ⟨u2,Gh,Gi⟩:=kc.get hy
  refine wpAny_pyNext_zip_item D hz gw ip h1 h2 p.isList p2.isList (x:=u) (y:=u2) (by simpa using hu) (by simpa using Gh) fun h' a1 a2 a3 a4 a5 a6 hk=>?_
  have I1:Inv X pins σ (upd H s.heap.objs.size (.tup [x,y])) {s with heap:=h',toks:=s.toks}:=I.Gd (t':=s.toks) hf (fun b o hb e=>hk b o (fun z=>hb (by simp [z])) (fun z=>hb (by simp [z])) (fun z=>hb (by simp [z])) (fun z=>hb (by simp [z])) e) (Qy _) (nV ru Gi a5)
  refine ⟨_,rfl,wpAny_letOwnedTupleGo_zip (s:={s with heap:=h'}) a1 fun Ak Gj sb=>?_⟩
  have bz:∀ b∈[z,TI,TO,i1,i2],b≠s.heap.objs.size:=fun c hc z'=>by
   simp only [Qp,QA,or_false] at hc
   obtain ⟨o1,e1,_⟩:=h1
   obtain ⟨o2,e2,_⟩:=h2
   rcases hc with rfl | rfl | rfl | rfl | rfl
   ·exact Nat.ne_of_lt (Qz hz) z'
   ·exact Nat.ne_of_lt (Qz gw) z'
   ·exact Nat.ne_of_lt (Qz ip) z'
   ·exact Nat.ne_of_lt (Qz e1) z'
   ·exact Nat.ne_of_lt (Qz e2) z'
  have yx:∀ b∈[z,TI,TO,i1,i2],ky X pins (upd H s.heap.objs.size (.tup [x,y])) b:=fun b hb=>by
   obtain ⟨f0,f⟩:=hf b hb
   exact ⟨by rw [aK (bz b hb)];exact f0,f⟩
  obtain ⟨f0,f1,f2,f3,f4,f5⟩:=yx z (by simp)
  refine ⟨.ref s.heap.objs.size,_,I1.turned (t':=s.toks) (fun b o hb q=>(sb.2 b hb).trans q) f0 f1 f3 f4 f5,rfl,⟨x,y,fun ys hy=>by rw [I.Cn hy lq];exact hx,fun ys Cz=>by rw [I.Cn Cz hq2];exact hy,_,rfl,I.hok.fresh (Qy _),rfl⟩,?_,fun b hb=>(yx b hb).1⟩
  refine ⟨Gj,(sb.2 _ D.TIz).trans (hk _ _ D.TIz D.TITO D.TIi1 D.TIi2 gw),⟨_,_,(sb.2 _ D.TOz).trans a2⟩,a3.at fun o q=>(sb.2 _ D.i1z).trans q,a4.at fun o q=>(sb.2 _ D.i2z).trans q⟩
 done:=by
  intro X hP hw hK hc i pins s σ H E I hf st hg
  subst hP hw hK
  obtain ⟨hz,gw,⟨u0,v0,ip⟩,h1,h2⟩:=st
  obtain ⟨xs,ys,lq,hq2,hx⟩:=hg
  obtain ⟨its,rv,p,CG⟩:=I.list lq
  obtain ⟨its2,kc,p2,hz2⟩:=I.list hq2
  have hl:=rv.length
  have i_:=kc.length
  refine wpAny_pyNext_zip_end (I.ok.hd hc) D hz gw ip h1 h2 p.isList p2.isList ?_ fun h' hk=>⟨rfl,I.Ge (t':=s.toks) hf fun b o hb q=>hk b o (fun z=>hb (by simp [z])) (fun z=>hb (by simp [z])) (fun z=>hb (by simp [z])) (fun z=>hb (by simp [z])) q⟩
  rcases hx with hx | hx
  ·exact .inl (by simp;omega)
  ·exact .inr (by simp;omega)
 self:=fun _ _ _ _ _ st h=>wpAny_pyIter_zip st.1 h
section
variable {k:Nat} {ve p pos:Pos} {a b:Expr}
def JD (K:QZ) (ta:TA):TI:=fun σ H R=>ta σ H fun vs H1=>∃ l xs,vs=[.ref l]/\ai K H1 l xs/\R (Gf K l) H1
theorem y7 (hg:Gl X "enumerate") (hm:X.mg "enumerate"=none) (ha:PA X [a] ta) (hs:starEach [a] X.env=[(false,eval a X.env)]:=by rfl):PI X (.Tuple yh k ve) (.Call (.Name "enumerate" p) [a] [] pos) (JD X.K ta):=by
 intro pins s σ H R I h
 refine Call_ (jE I hg hm boot_enumerate (PyProof.Rows.callWith_type1 (aq (ha pos pins s σ H _ I h) fun us s1 ⟨vs,H1,I1,r1,q1⟩=>?_) hs rfl))
 obtain ⟨l,xs,e,hq,q⟩:=q1
 subst e
 cases r1 with
 | cons r rr=>
  cases rr
  cases r
  obtain ⟨its,rv,pl,hz⟩:=I1.list hq
  refine call_enumerate_list pl.isList fun h' he hit hsz hk=>wpAny_pyIter_enum he ?_
  have I2:Inv X pins σ H1 {s1 with heap:=h'}:=I1.kept (t':=s1.toks) hk
  refine ⟨s1.heap.objs.size+1,[s1.heap.objs.size+1,s1.heap.objs.size],_,_,H1,rfl,I2,u8 l _ _ (Nat.succ_ne_self _),⟨⟨_,he⟩,hit⟩,fun b hb=>?_,q⟩
  simp only [Qp,QA,or_false] at hb
  rcases hb with rfl | rfl
  ·exact I1.xg (Nat.le_succ _) (I1.hok.fresh (Nat.le_succ _))
  ·exact I1.xg (Qy _) (I1.hok.fresh (Qy _))
def JE (K:QZ) (ta:TA):TI:=fun σ H R=>ta σ H fun vs H1=>∃ l m xs ys,vs=[.ref l,.ref m]/\ai K H1 l xs/\ai K H1 m ys/\R (Gg K l m) H1
theorem OZ (hg:Gl X "zip") (hm:X.mg "zip"=none) (ha:PA X [a,b] ta) (hs:starEach [a,b] X.env=[(false,eval a X.env),(false,eval b X.env)]:=by rfl) (hs2:starEach [b] X.env=[(false,eval b X.env)]:=by rfl):
  PI X (.Tuple yh k ve) (.Call (.Name "zip" p) [a,b] [] pos) (JE X.K ta):=by
 intro pins s σ H R I h
 refine Call_ (jE I hg hm boot_zip (PyProof.Rows.callWith_type1 (aq (ha pos pins s σ H _ I h) fun us s1 ⟨vs,H1,I1,r1,q1⟩=>?_) (by rw [hs,hs2]) (by rw [hs2];rfl)))
 obtain ⟨l,m,xs,ys,e,lq,hq2,q⟩:=q1
 subst e
 obtain ⟨u1,u2,rfl,CH,CI⟩:=r1.two
 cases CH
 cases CI
 obtain ⟨its,rv,pl,hz⟩:=I1.list lq
 obtain ⟨its2,kc,CJ,hz2⟩:=I1.list hq2
 have l1:l < s1.heap.objs.size:=by obtain ⟨_,e,_⟩:=pl.isList;exact Qz e
 have l2:m < s1.heap.objs.size:=by obtain ⟨_,e,_⟩:=CJ.isList;exact Qz e
 refine call_zip_2 pl.isList CJ.isList fun h' hz gw ip h1 h2 hsz hk=>wpAny_pyIter_zip hz ?_
 have I2:Inv X pins σ H1 {s1 with heap:=h'}:=I1.kept (t':=s1.toks) hk
 have ne:∀ {x y:Nat},x < y->x≠y:=fun h=>Nat.ne_of_lt h
 have ne':∀ {x y:Nat},y < x->x≠y:=fun h=>Nat.ne_of_gt h
 refine ⟨s1.heap.objs.size+4,[s1.heap.objs.size+4,s1.heap.objs.size+2,s1.heap.objs.size+3,s1.heap.objs.size,s1.heap.objs.size+1],_,_,H1,rfl,I2,wP _ _ _ _ _ l m ?_,⟨hz,gw,⟨_,_,ip⟩,h1,h2⟩,fun b hb=>?_,q⟩
 ·exact jS l1 l2
 ·simp only [Qp,QA,or_false] at hb
  rcases hb with rfl | rfl | rfl | rfl | rfl<;>exact I1.xg (by simp) (I1.hok.fresh (by simp))
theorem vW (K:QZ) (hg:Gl X "enumerate") (hm:X.mg "enumerate"=none) (ha:SA X [a] ta) (h:X.K=K:=by rfl) (hs:starEach [a] X.env=[(false,eval a X.env)]:=by rfl):SI X (.Tuple yh k ve) (.Call (.Name "enumerate" p) [a] [] pos) (JD K ta):=by subst h;exact ⟨y7 hg hm ha.h hs⟩
theorem yG (K:QZ) (hg:Gl X "zip") (hm:X.mg "zip"=none) (ha:SA X [a,b] ta) (h:X.K=K:=by rfl) (hs:starEach [a,b] X.env=[(false,eval a X.env),(false,eval b X.env)]:=by rfl) (hs2:starEach [b] X.env=[(false,eval b X.env)]:=by rfl):
  SI X (.Tuple yh k ve) (.Call (.Name "zip" p) [a,b] [] pos) (JE K ta):=by subst h;exact ⟨OZ hg hm ha.h hs hs2⟩
end
def CK (J:It) (ok:Hp->Prop) (n:Nat) (f1 f2:Nat->V):Prop:=
 ∀ H,ok H->(∀ i,i < n->J.go i H/\∀ x H',J.mr i H x H'->Aj (f1 i) (f2 i) H x H')/\J.stop n H
theorem vR {K:QZ} (xs:List V):CK (Gf K a) (fun H=>ai K H a xs) xs.length (fun i=>.int i) (fun i=>xs.getD i .af):=fun H ok=>
 ⟨fun i hi=>⟨⟨xs,xs[i],ok,by simp [hi]⟩,fun x H' ⟨v,hv,y⟩=>by
  have:=hv xs ok
  have e:xs.getD i V.af=v:=by rw [Qb,this];rfl
  show Aj (.int i) (xs.getD i .af) H x H'
  rw [e];exact y⟩,⟨xs,ok,Qy _⟩⟩
theorem yH {K:QZ} (xs ys:List V):CK (Gg K a b) (fun H=>ai K H a xs/\ai K H b ys) (min xs.length ys.length) (fun i=>xs.getD i .af) (fun i=>ys.getD i .af):=fun H ok=>
 ⟨fun i hi=>⟨⟨xs,ys,xs[i]'(by omega),ys[i]'(by omega),ok.1,ok.2,by simp,by simp⟩,fun x H' ⟨v1,v2,Gk,Gm,y⟩=>by
  have e1:xs.getD i V.af=v1:=by rw [Qb,Gk xs ok.1];rfl
  have e2:ys.getD i V.af=v2:=by rw [Qb,Gm ys ok.2];rfl
  show Aj (xs.getD i .af) (ys.getD i .af) H x H'
  rw [e1,e2];exact y⟩,⟨xs,ys,ok.1,ok.2,by omega⟩⟩
abbrev g2 (K:QZ) (a b:Nat):TG:=Cp K 2 (z_ (jd a) (z_ (jd b) DO))
theorem gU {K:QZ} {a b:Nat} {T:Addr} {v1 v2:V} {Q:St->Hp->Prop} (h:H T=some (.tup [v1,v2])) (q:Q ((σ.set a (some v1)).set b (some v2)) H):g2 K a b (.ref T) σ H Q:=
 ⟨T,_,rfl,ae.of h,rfl,_,_,rfl,_,_,rfl,rfl,q⟩
theorem l6 {K:QZ} {J:It} {ok:Hp->Prop} {f1 f2:Nat->V} {a b:Nat} {tb:TS} (hJ:CK J ok n f1 f2) (Pv:Nat->St->Hp->Prop) (h0:Pv 0 σ H) (hok:∀ i τ H,i<=n->Pv i τ H->ok H)
  (hs:∀ i σ H T,i < n->Pv i σ H->H T=none->tb {D with nx:=Pv (i+1),ct:=Pv (i+1),bk:=D.nx} ((σ.set a (some (f1 i))).set b (some (f2 i))) (upd H T (.tup [f1 i,f2 i]))) (hd:∀ σ H,Pv n σ H->D.nx σ H):
  ∃ W:Nat->Nat->St->Hp->Prop,(∃ m,W 0 m σ H)/\∀ i m σ H,W i m σ H->
   (J.stop i H/\D.nx σ H)\/(J.go i H/\∃ N:St->Hp->Prop,(∀ σ' H',N σ' H'->∃ m',m' < m/\W (i+1) m' σ' H')/\∀ x H',J.mr i H x H'->g2 K a b x σ H' fun σ2 H2=>tb {D with nx:=N,ct:=N,bk:=D.nx} σ2 H2):=by
 refine ⟨fun i m σ H=>m=n - i/\i<=n/\Pv i σ H,⟨n,by simp,Nat.zero_le _,h0⟩,?_⟩
 rintro i m σ H ⟨rfl,hi,p⟩
 obtain ⟨k1,k2⟩:=hJ H (hok i σ H hi p)
 by_cases bz:i < n
 ·refine .inr ⟨(k1 i bz).1,Pv (i+1),fun σ' H' p'=>⟨n - (i+1),by omega,rfl,bz,p'⟩,fun x H' y=>?_⟩
  obtain ⟨T,rfl,hT,rfl⟩:=(k1 i bz).2 x H' y
  exact gU aA (hs i σ _ T bz p hT)
 ·have e:i=n:=by omega
  subst e
  exact .inl ⟨k2,hd σ H p⟩
theorem tU {K:QZ} {J:It} {ok:Hp->Prop} {f1 f2:Nat->V} {a b:Nat} {tc:TC} {τ0:St} {D:Addr} {Q:Hp->Prop} (hJ:CK J ok n f1 f2) (Pv:Nat->St->Hp->Prop) (h0:Pv 0 τ0 H0)
  (hok:∀ i τ H,i<=n->Pv i τ H->ok H)
  (hs:∀ i τ H T,i < n->Pv i τ H->H T=none->tc ((τ.set a (some (f1 i))).set b (some (f2 i))) (upd H T (.tup [f1 i,f2 i])) fun c H3=>if c=true then te ((τ.set a (some (f1 i))).set b (some (f2 i))) H3 fun y H4=>∃ xs,H4 D=some (.lst xs)/\xs.length < sizeLine/\Pv (i+1) ((τ.set a (some (f1 i))).set b (some (f2 i))) (upd H4 D (.lst (xs++[y]))) else Pv (i+1) ((τ.set a (some (f1 i))).set b (some (f2 i))) H3)
  (hd:∀ τ H,Pv n τ H->Q H):∃ W:Nat->Nat->St->Hp->Prop,(∃ m,W 0 m τ0 H0)/\∀ i m τ H,W i m τ H->
   (J.stop i H/\Q H)\/(J.go i H/\∃ N:St->Hp->Prop,(∀ τ' H',N τ' H'->∃ m',m' < m/\W (i+1) m' τ' H')/\∀ x H',J.mr i H x H'->g2 K a b x τ H' fun τ2 H2=>tc τ2 H2 fun b H3=>
    if b=true then te τ2 H3 fun y H4=>∃ xs,H4 D=some (.lst xs)/\xs.length < sizeLine/\N τ2 (upd H4 D (.lst (xs++[y]))) else N τ2 H3):=by
 refine ⟨fun i m τ H=>m=n - i/\i<=n/\Pv i τ H,⟨n,by simp,Nat.zero_le _,h0⟩,?_⟩
 rintro i m τ H ⟨rfl,hi,p⟩
 obtain ⟨k1,k2⟩:=hJ H (hok i τ H hi p)
 by_cases bz:i < n
 ·refine .inr ⟨(k1 i bz).1,Pv (i+1),fun σ' H' p'=>⟨n - (i+1),by omega,rfl,bz,p'⟩,fun x H' y=>?_⟩
  obtain ⟨T,rfl,hT,rfl⟩:=(k1 i bz).2 x H' y
  exact gU aA (hs i τ _ T bz p hT)
 ·have e:i=n:=by omega
  subst e
  exact .inl ⟨k2,hd τ H p⟩
end L2
namespace PySem
theorem lM {o:Obj} {xs:Array Value} {k:Nat} {Q:Option Value->Shared->Prop}
  (hx:s.heap.get? a=some o) (hc:o.cls=.type "tuple") (Al:o.data=.seq xs k) (hd:o.dict=none) (hA:A.handled=none)
  (h:∀ h' tk,(∀ b ob,s.heap.get? b=some ob->h'.get? b=some ob)->Q none {s with heap:=h',toks:=tk}):
  wpAny (model prog w) A (getAttr? (.ref a) "keys") Q E s:=by
 obtain ⟨c,dct,dat,sl⟩:=o
 simp only at hc Al hd
 subst hc Al hd
 obtain ⟨hp,g,d,tk,os⟩:=s
 have hT:∀ Eg,(⟨hp,g,d,Eg,os⟩:Shared).TypeIs (.ref a) "tuple":=fun _=>⟨_,hx,rfl⟩
 have O0:typeLookup (.type "tuple") "keys"=pure none:=am_miss_of_fast (by kernel_rfl)
 have f1:=sub_AttributeError
 have f3:=F.slot_tuple_getattribute.lookup
 have f4:=F.slot_tuple_getattribute.bind (.ref a)
 have f5:=am_tuple_getattr_none
 unfold getAttr? getAttrBy? getAttrBy
 repeat (any_goals (first | assumption | exact hT _ | ((with_reducible show wpAny _ _ (call (Value.builtin "tuple.__getattribute__") _ _) _ _ _);refine call_meets F.slot_tuple_getattribute (hT _) am_entry_tuple_getattribute (F.args_tuple_getattribute_2 _ _) (meets_getattribute_miss_tuple a xs k sl _ _ O0 (by decide) (by decide)) ⟨hx,hA,fun h' Eg e hx'=>?_⟩) | wp_step))
 obtain ⟨t',u',he⟩:=hx'.there
 show wpAny _ _ (getattributeRaised _ _ _ _ _ _ _) _ _ _
 unfold getattributeRaised
 repeat (any_goals (first | assumption | wp_step))
 exact h _ _ hx'.keeps
end PySem
namespace PySem.F
theorem JF:entryFor table "dict.update.loop"=some Builtin.«dict.update.loop»:=entryFor_of_tree (by kernel_rfl)
theorem Eh:plainId "dict.update.loop"=true:=by decide+kernel
end PySem.F
namespace L2
open PySem PySem.Spec PyProof.Rows
def ja (H:Hp) (ys:List V) (rs:List (Key×V)):Prop:=ys.length=rs.length/\∀ i (h:i < rs.length),∃ b,ys[i]? =some (.ref b)/\H b=some (.tup [kV rs[i].1,rs[i].2])
def dictOf (rs:List (Key×V)):List (Key×V):=rs.foldl (fun kvs r=>putK kvs r.1 r.2) []
theorem p9 (rs:List (Key×V)):∀ kvs:List (Key×V),(rs.foldl (fun kvs r=>putK kvs r.1 r.2) kvs).length<=kvs.length+rs.length:=by
 induction rs with
 | nil=>intro kvs;exact Qy _
 | cons r rs ih=>
  intro kvs
  have h1:=ih (putK kvs r.1 r.2)
  have h2:=d8 kvs r.1 r.2
  rw [List.foldl_cons,List.length_cons]
  omega
theorem rW (rs:List (Key×V)):(dictOf rs).length<=rs.length:=by have:=p9 rs [];simpa [dictOf] using this
theorem pL (rs:List (Key×V)) (i:Nat) (h:i < rs.length):dictOf (rs.take (i+1))=putK (dictOf (rs.take i)) rs[i].1 rs[i].2:=by
 unfold dictOf
 rw [Qs,Qa h,Option.toList_some,List.foldl_append];rfl
theorem sH {d it:Addr} {ys:List V} {rs:List (Key×V)} (hA:A.handled=none) (hH:H d=none) (e_:rs.length<=sizeLine) (hp:ja H ys rs) (ha:H a=some (.tup ys)) (hit:it≠d)
  (hR:∀ s,Inv X pins σ (upd H d (.dK (dictOf rs))) s->R (.ok (.ret .none)) s):
  ∀ (k i:Nat) (s:Shared),rs.length - i=k->i<=rs.length->Inv X pins σ (upd H d (.dK (dictOf (rs.take i)))) s->s.heap.IsTupleIter it a i->ky X pins (upd H d (.dK (dictOf (rs.take i)))) it->
   codeAny (model X.prog X.w) A (.builtin "dict.update.loop" ⟨[.ref d,.ref it,rawInt i,.none],[]⟩) R s:=by
 have CL:a≠d:=aQ ha hH
 intro k
 induction k with
 | zero=>
  intro i s hk hi I st f
  have O1:i=rs.length:=by omega
  subst O1
  refine codeAny_builtin F.JF ?_
  rw [Around.under_plainId F.Eh _]
  show wpAny _ A.in1 (pyNext (.ref it) >>=_) _ _ s
  obtain ⟨its,rv,p,hz⟩:=I.tuple (ae.of (by rw [aK CL];exact ha))
  have hl:=rv.length
  have i_:=hp.1
  obtain ⟨f0,f1,f2,f3,f4,f5⟩:=f
  refine QS (wpAny_pyNext_tuple_end (by simp [hA]) st (show s.heap.IsTuple a its.toArray from p) (by simp;omega) fun h' eb=>?_)
  have I1:=I.turned (t':=s.toks) (h':=h') (fun b o hb e=>eb b o hb e) f0 f1 f3 f4 f5
  rw [List.take_length] at I1
  show wpAny _ _ (Builtin.Dict.addKeywords d [] >>=fun _=>ret .none) _ _ _
  exact QS (QT (QT (hR _ I1)))
 | succ k ih=>
  intro i s hk hi I st f
  have bz:i < rs.length:=by omega
  refine codeAny_builtin F.JF ?_
  rw [Around.under_plainId F.Eh _]
  show wpAny _ A.in1 (pyNext (.ref it) >>=_) _ _ s
  obtain ⟨its,rv,p,hz⟩:=I.tuple (ae.of (by rw [aK CL];exact ha))
  obtain ⟨b,dm,qi⟩:=hp.2 i bz
  obtain ⟨u,hu,ru⟩:=rv.get dm
  cases ru
  obtain ⟨f0,f1,f2,f3,f4,f5⟩:=id f
  refine QS (wpAny_pyNext_tuple_item st (show s.heap.IsTuple a its.toArray from p) (x:=.ref b) (by simpa using hu) fun h' st' sb=>?_)
  have I1:Inv X pins σ (upd H d (.dK (dictOf (rs.take i)))) {s with heap:=h'}:=I.turned (t':=s.toks) (fun b o hb e=>(sb.2 b hb).trans e) f0 f1 f3 f4 f5
  have O6:b≠d:=aQ qi hH
  obtain ⟨its2,kc,⟨ob,ho,hc,n,hd2⟩,hz2⟩:=I1.tuple (ae.of (a:=b) (by rw [aK O6];exact qi))
  obtain ⟨u1,u2,rfl,r1,r2⟩:=kc.two
  show wpAny _ A.in1 (holding [Value.ref b] _ >>=_) _ _ _
  refine QS (wpAny_holding (QS (wpAny_tryCatch ?_)))
  unfold Builtin.Dict.pairItems
  refine QS (wpAny_typeOf (T:="tuple") ⟨ob,ho,hc⟩ ?_)
  rw [if_pos (by decide)]
  refine QS (wpAny_seqItems ho hd2 (QT ?_))
  show wpAny _ A.in1 (holding [u1,u2] (dictSet d u1 u2)) _ _ _
  refine wpAny_holding ?_
  obtain ⟨z,hd,vs,rel,dd⟩:=pT I1.hok (aA:upd H d (.dK (dictOf (rs.take i))) d=_)
  have kg:=rW (rs.take i)
  rw [List.length_take] at kg
  have fg:(dictOf (rs.take i)).length < sizeLine:=by omega
  have CG:vs.length<=sizeLine:=by rw [<- rel.length];exact z
  have O7:(putK (dictOf (rs.take i)) rs[i].1 rs[i].2).length<=sizeLine:=by have:=d8 (dictOf (rs.take i)) rs[i].1 rs[i].2;omega
  refine wpAny_dictSet_pairs (hsz:=CG) (jU r1) dd fun h2 qd hs=>?_
  have Gc:∃ q,h2.get? d=some q:=let ⟨q,_,_,hq,_⟩:=qd;⟨q,hq⟩
  have JG:=kR (t':=s.toks+1) (ob:=.dK (putK (dictOf (rs.take i)) rs[i].1 rs[i].2)) I1 (by rw [aA];exact True.intro) hs Gc (rF O7 hd (rel.put _ r2) qd)
  rw [nU,<- pL rs i bz] at JG
  refine QT ⟨plainId_quiet F.Eh _,?_⟩
  exact ih (i+1) _ (by omega) bz JG (st'.at fun o q=>(hs.2 it hit).trans q) ⟨by rw [aK hit] at f0 ⊢;exact f0,f1,f2,f3,f4,f5⟩
def O8:List V->Hp->VK->Prop:=fun xs H Q=>∃ a ys rs,xs=[.ref a]/\H a=some (.tup ys)/\ja H ys rs/\rs.length<=sizeLine/\∀ d,H d=none->Q (.ref d) (upd H d (.dK (dictOf rs)))
theorem eR (hc:X.calm=true):jx X (.type "dict") O8:=by
 intro pins s σ H xs us Q I r h
 obtain ⟨a,ys,rs,rfl,ha,hp,hl,q⟩:=h
 obtain ⟨u,rfl,ru⟩:=r.one
 cases ru
 refine callType_codes (Q₁:=fun obj s₁=>obj=.ref s.heap.objs.size/\s₁={s with heap:=s.heap.push {cls:=.type "dict",data:=.dict #[]}}) F.kt_called_dict (F.kt_typeCall_dict_1 _) F.entry_dict_init (kt_code_dict_new _ ⟨rfl,rfl⟩) ?_
 rintro obj s₁ ⟨rfl,rfl⟩
 have fr:H s.heap.objs.size=none:=I.hok.fresh (Qy _)
 have hnew:(s.heap.push {cls:=.type "dict",data:=.dict #[]}).DictOf (fj X.prog X.w) s.heap.objs.size []:=Heap.DictOf.new s.heap
 have I1:Inv X pins σ (upd H s.heap.objs.size (.dK [])) {s with heap:=s.heap.push {cls:=.type "dict",data:=.dict #[]}}:=I.laid (t':=s.toks) (fun b u e=>Qc _ e) (Qy _)
  ⟨Nat.zero_le _,beq_eq_false_iff_ne.mpr (Ne.symm (Nat.ne_of_lt I.big)),[],.nil,hnew⟩
 have CL:a≠s.heap.objs.size:=aQ ha fr
 obtain ⟨⟨z,nd⟩,its,rv,o,ho,oq,n,hd⟩:=(show bx X.prog X.w _ _ a (.tup ys) from I1.hok a _ (by rw [aK CL];exact ha))
 refine ⟨hnew.typeIs,F.args_dict_init_2 _ _,?_⟩
 unfold Builtin.«dict.__init__»
 refine QS ?_
 unfold Builtin.Dict.selfAndRest
 refine QS (wpAny_notOrdered_dict hnew.typeIs ?_)
 show wpAny _ _ (pure (s.heap.objs.size,[Value.ref a])) _ _ _
 refine QT ?_
 show wpAny _ _ (Builtin.Dict.updateFrom "dict.__init__" s.heap.objs.size (.ref a) [] .none) _ _ _
 unfold Builtin.Dict.updateFrom
 refine QS (wpAny_typeOf (T:="tuple") ⟨o,ho,oq⟩ ?_)
 rw [if_pos (by decide)]
 have hh:X.A.handled=none:=I.ok.hd hc
 refine QS (lM ho oq hd (nd _ ho) (by simp [hh]) fun h' tk hk=>?_)
 rw [if_pos (by rfl)]
 refine QS (wpAny_rule ?_)
 have I2:Inv X pins σ (upd H s.heap.objs.size (.dK [])) {s with heap:=h',toks:=tk}:=I1.kept (t':=tk) hk
 obtain ⟨its2,kc,p2,hz2⟩:=I2.tuple (ae.of (a:=a) (xs:=ys) (by rw [aK CL];exact ha))
 refine QS (wpAny_pyIter_tuple (show Heap.IsTuple h' a its2.toArray from p2) ?_)
 have hsz:s.heap.objs.size < h'.objs.size:=by
  obtain ⟨_,_,_,e,_⟩:=hnew
  exact Qz (hk _ _ e)
 refine QT ⟨plainId_quiet F.Eh _,?_⟩
 refine sH (X:=X) (pins:=pins) (σ:=σ) (by simp [hh]) fr hl hp ha (Nat.ne_of_gt hsz) (fun s' I'=>⟨rfl,.ref s.heap.objs.size,_,I',rfl,q _ fr⟩) rs.length 0 _ rfl (Nat.zero_le _) (I2.kept (t':=tk) fun b o e=>Qc _ e) ⟨_,Qd _ rfl,rfl,rfl⟩ (I2.xg (Qy _) (I2.hok.fresh (Qy _)))
def Tk (H H':Hp):Prop:=∀ b xs,H b=some (.tup xs)->H' b=some (.tup xs)
theorem Tk.refl:Tk H H:=fun _ _ h=>h
theorem Tk.trans {H1 H2:Hp} (a:Tk H H1) (b:Tk H1 H2):Tk H H2:=fun c xs h=>b c xs (a c xs h)
theorem aa.ts (s:aa H H'):Tk H H':=fun b xs h=>s b _ h
theorem Tk.upd {H H':Hp} {a:Addr} {o:HO} (s:Tk H H') (h:H' a=none):Tk H (L2.upd H' a o):=fun b xs e=>by rw [aK (aQ (s b xs e) h)];exact s b xs e
theorem Tk.set {o':HO} (s:Tk H H') (h:H' a=some o) (hn:∀ xs,o≠.tup xs):Tk H (L2.upd H' a o'):=fun b xs e=>by
 rw [aK (fun z=>by rw [z] at e;have:=s a xs e;rw [h] at this;cases this;exact hn _ rfl)];exact s b xs e
inductive ud (H:Hp):V->PyData->Prop
 | str (z:Str):ud H (.str z) (.str z)
 | tup {a:Addr} {xs:List V} {ds:List PyData}:H a=some (.tup xs)->xs.length=ds.length->(∀ i (h:i < xs.length) (h':i < ds.length),ud H xs[i] ds[i])->ud H (.ref a) (.tuple ds)
theorem ud.ts (s:Tk H H') {v:V} {d:PyData} (h:ud H v d):ud H' v d:=by
 induction h with
 | str z=>exact .str z
 | tup e hl _ ih=>exact .tup (s _ _ e) hl ih
theorem ud.inj {v:V} {d:PyData} (h:ud H v d):∀ {d':PyData},ud H v d'->d=d':=by
 induction h with
 | str z=>intro d' h';cases h';rfl
 | tup e hl _ ih=>
  intro d' h'
  cases h' with
  | tup e' hl' h2=>
   rw [e] at e'
   cases e'
   congr 1
   refine List.ext_getElem (by omega) fun i h1 h3=>?_
   exact ih i (by omega) h1 (h2 i (by omega) h3)
theorem gI:∀ {ds:List PyData},(∀ d∈ds,d.showable=true)->PyData.showableAll ds=true
 | [],_=>by simp [PyData.showableAll]
 | d::ds,h=>by simp [PyData.showableAll,h d List.mem_cons_self,gI fun x hx=>h x (Qh _ hx)]
theorem i4:∀ {ds:List PyData},(∀ d∈ds,d.hasDict=false)->PyData.hasDictAll ds=false
 | [],_=>by simp [PyData.hasDictAll]
 | d::ds,h=>by simp [PyData.hasDictAll,h d List.mem_cons_self,i4 fun x hx=>h x (Qh _ hx)]
theorem k7 {k:Nat}:∀ {ds:List PyData},(∀ d∈ds,d.depth<=k)->PyData.depthAll ds<=k
 | [],_=>by simp [PyData.depthAll]
 | d::ds,h=>by
  have h1:=h d List.mem_cons_self
  have h2:=k7 (ds:=ds) fun x hx=>h x (Qh _ hx)
  simp [PyData.depthAll];omega
theorem vQ {n:Nat}:∀ {ts:List Str},(∀ t∈ts,t.length<=n)->(ts.map (·.length)).sum<=ts.length*n
 | [],_=>by simp
 | t::ts,h=>by
  have h1:=h t List.mem_cons_self
  have h2:=vQ (ts:=ts) fun x hx=>h x (Qh _ hx)
  rw [List.map_cons,List.sum_cons,List.length_cons,Nat.add_mul];omega
def TB (H:Hp) (v:V) (k n:Nat):Prop:=∃ d,ud H v d/\d.depth<=k/\d.shown.length<=n/\d.showable=true/\d.hasDict=false
def Wd (z:Str):Prop:=z.length<=20/\∀ c∈z.cps.toList,c < 128
theorem TB.mono {v:V} {k k' n':Nat} (h:TB H v k n) (hk:k<=k') (hn:n<=n'):TB H v k' n':=by
 obtain ⟨d,h1,h2,h3,h4,h5⟩:=h
 exact ⟨d,h1,by omega,by omega,h4,h5⟩
theorem TB.ts {H H':Hp} (s:Tk H H') {v:V} {k n:Nat} (h:TB H v k n):TB H' v k n:=by
 obtain ⟨d,h1,h2⟩:=h
 exact ⟨d,h1.ts s,h2⟩
theorem TB.str {H:Hp} {z:Str} (h:Wd z):TB H (.str z) 0 202:=by
 refine ⟨.str z,.str z,by simp [PyData.depth],?_,by simp [PyData.showable],by simp [PyData.hasDict]⟩
 show (PyData.str z).shown.length<=202
 simp only [PyData.shown]
 have:=StrLaws.reprText_len z (fun c hc=>Nat.lt_of_lt_of_le (h.2 c hc) (by decide))
 have:=h.1
 omega
theorem TB.tup {H:Hp} {a:Addr} {xs:List V} {k n:Nat} (e:H a=some (.tup xs)) (h:∀ x∈xs,TB H x k n):TB H (.ref a) (k+1) (xs.length*(n+2)+3):=by
 have hc:∀ i:Fin xs.length,∃ d,ud H xs[i.val] d/\d.depth<=k/\d.shown.length<=n/\d.showable=true/\d.hasDict=false:=fun i=>h _ (Qj i.isLt)
 obtain ⟨f,hf⟩:=Classical.axiomOfChoice hc
 have hm:∀ d∈List.ofFn f,d.depth<=k/\d.shown.length<=n/\d.showable=true/\d.hasDict=false:=fun d hd=>by
  obtain ⟨i,rfl⟩:=List.mem_ofFn.mp hd
  exact (hf i).2
 refine ⟨.tuple (List.ofFn f),.tup e (by simp) fun i h1 h2=>?_,?_,?_,?_,?_⟩
 ·have:=(hf ⟨i,h1⟩).1
  simpa using this
 ·simp only [PyData.depth]
  have:=k7 (fun d hd=>(hm d hd).1)
  omega
 ·simp only [PyData.shown]
  have h1:=tupleText_len_le (PyData.shownAll (List.ofFn f))
  have e2:PyData.shownAll (List.ofFn f)=(List.ofFn f).map PyData.shown:=shownAll_eq_map _
  have h2:((PyData.shownAll (List.ofFn f)).map (·.length)).sum<=(PyData.shownAll (List.ofFn f)).length*n:=vQ fun t ht=>by
   rw [e2] at ht
   obtain ⟨d,hd,rfl⟩:=List.mem_map.mp ht
   exact (hm d hd).2.1
  have h3:(PyData.shownAll (List.ofFn f)).length=xs.length:=by rw [e2];simp
  rw [h3] at h1 h2
  rw [Nat.mul_add];omega
 ·simp only [PyData.showable]
  exact gI fun d hd=>(hm d hd).2.2.1
 ·simp only [PyData.hasDict]
  exact i4 fun d hd=>(hm d hd).2.2.2
theorem jW (rs:List (Key×V)):(rs.map (·.1)).Nodup->∀ i (h:i < rs.length),c_ (dictOf rs) rs[i].1=some rs[i].2:=by
 have gen:∀ (rs:List (Key×V)) (kvs:List (Key×V)),(rs.map (·.1)).Nodup->∀ k,c_ (rs.foldl (fun kvs r=>putK kvs r.1 r.2) kvs) k=((rs.find? fun r=>decide (r.1=k)).map (·.2)).or (c_ kvs k):=by
  intro rs
  induction rs with
  | nil=>intro kvs _ k;simp
  | cons r rs ih=>
   intro kvs hn k
   rw [List.map_cons,List.nodup_cons] at hn
   rw [List.foldl_cons,ih _ hn.2,wX]
   by_cases e:r.1=k
   ·have:rs.find? (fun r=>decide (r.1=k))=none:=by
     rw [List.find?_eq_none]
     intro x hx z
     have z':=Qt z
     exact hn.1 (List.mem_map.mpr ⟨x,hx,by rw [z',e]⟩)
    rw [this,List.find?_cons,if_pos e.symm]
    simp [e]
   ·rw [if_neg (fun z=>e z.symm),List.find?_cons]
    simp [e]
 intro hn i h
 unfold dictOf
 rw [gen rs [] hn]
 have:rs.find? (fun r=>decide (r.1=rs[i].1))=some rs[i]:=by
  rw [List.find?_eq_some_iff_getElem]
  refine ⟨by simp,i,h,rfl,fun j hj=>?_⟩
  have gh:(rs.map (·.1))[j]'(by simp;omega)≠(rs.map (·.1))[i]'(by simpa using h):=fun z=>by
   exact (List.pairwise_iff_getElem.mp hn j i (by simp;omega) (by simpa using h) hj) z
  simpa using gh
 rw [this];rfl
abbrev cg (rs:List (Str×V)):List (Key×V):=rs.map fun r=>(Sum.inr r.1,r.2)
def Am (H:Hp) (v:V) (o:Option Str):Prop:=∃ b,v=.ref b/\((∃ s ys,H b=some (.tup (.str s::ys))/\s≠"as"/\o=none)\/∃ x,H b=some (.tup [.str "as",.str x])/\o=some x)
theorem Am.ts (s:Tk H H') {v:V} {o:Option Str} (h:Am H v o):Am H' v o:=by
 obtain ⟨b,e,h⟩:=h
 refine ⟨b,e,?_⟩
 rcases h with ⟨z,ys,h1,h2⟩ | ⟨x,h1,h2⟩
 ·exact .inl ⟨z,ys,s _ _ h1,h2⟩
 ·exact .inr ⟨x,s _ _ h1,h2⟩
structure lu (H:Hp) (a:Addr) (xs:List V) (rs:List (Str×V)) (nx:Str->Option Str) (ρ:Str->Nat):Prop where
 at_:H a=some (.tup xs)
 ps:ja H xs (cg rs)
 nd:(rs.map (·.1)).Nodup
 len:rs.length<=300
 pos:0 < rs.length
 as:∀ r∈rs,Am H r.2 (nx r.1)
 Ei:∀ r∈rs,∀ y,nx r.1=some y->y∈rs.map (·.1)/\ρ y < ρ r.1
 rk:∀ r∈rs,ρ r.1<=rs.length
 tb:∀ r∈rs,Wd r.1/\TB H r.2 3 8273
theorem ja.ts {ys:List V} {rs:List (Key×V)} (p:ja H ys rs) (s:Tk H H'):ja H' ys rs:=⟨p.1,fun i h=>let ⟨b,e1,e2⟩:=p.2 i h;⟨b,e1,s _ _ e2⟩⟩
section
variable {xs:List V} {rs:List (Str×V)} {nx:Str->Option Str} {ρ:Str->Nat}
theorem lu.ts (g:lu H a xs rs nx ρ) (s:Tk H H'):lu H' a xs rs nx ρ:=
 ⟨s _ _ g.at_,g.ps.ts s,g.nd,g.len,g.pos,fun r hr=>(g.as r hr).ts s,g.Ei,g.rk,fun r hr=>⟨(g.tb r hr).1,(g.tb r hr).2.ts s⟩⟩
theorem lK (h:(rs.map (·.1)).Nodup):((cg rs).map (·.1)).Nodup:=by
 have e:(cg rs).map (·.1)=(rs.map (·.1)).map (Sum.inr:Str->Key):=by simp [cg,List.map_map,Function.comp_def]
 rw [e]
 exact List.Pairwise.map _ (fun a b jz z=>jz (Sum.inr.inj z)) h
theorem lu.get (g:lu H a xs rs nx ρ) {x:Str} (hx:x∈rs.map (·.1)):∃ v,(x,v)∈rs/\c_ (dictOf (cg rs)) (.inr x)=some v:=by
 obtain ⟨r,hr,rfl⟩:=List.mem_map.mp hx
 obtain ⟨i,hi,rfl⟩:=Qi hr
 refine ⟨rs[i].2,hr,?_⟩
 have:=jW (cg rs) (lK g.nd) i (by simpa using hi)
 simpa using this
def An (nx:Str->Option Str) (x:Str):Str:=(nx x).getD x
def ue (nx:Str->Option Str):Nat->Str->Str
 | 0,x=>x
 | n+1,x=>ue nx n (An nx x)
theorem gY (n:Nat) (h:nx x=none):ue nx n x=x:=by
 induction n with
 | zero=>rfl
 | succ n ih=>rw [ue];rw [show An nx x=x by simp [An,h]];exact ih
theorem lu.run (g:lu H a xs rs nx ρ):∀ (n:Nat) (x:Str),x∈rs.map (·.1)->ρ x<=n->ue nx n x∈rs.map (·.1)/\nx (ue nx n x)=none/\ue nx (n+1) x=ue nx n x:=by
 intro n
 induction n with
 | zero=>
  intro x hx hr
  obtain ⟨r,hr',rfl⟩:=List.mem_map.mp hx
  cases e:nx r.1 with
  | none=>exact ⟨hx,e,gY 1 e⟩
  | some y=>have:=(g.Ei r hr' y e).2;omega
 | succ n ih=>
  intro x hx hr
  obtain ⟨r,hr',rfl⟩:=List.mem_map.mp hx
  cases e:nx r.1 with
  | none=>
   rw [gY _ e,gY _ e]
   exact ⟨hx,e,rfl⟩
  | some y=>
   have e2:An nx r.1=y:=by simp [An,e]
   obtain ⟨h1,h2⟩:=g.Ei r hr' y e
   have:=ih y h1 (by omega)
   rw [ue,ue,e2]
   exact this
def eu (nx:Str->Option Str) (n:Nat) (x:Str):Str:=ue nx n x
theorem lu.Ej (g:lu H a xs rs nx ρ) (hx:x∈rs.map (·.1)):eu nx rs.length x∈rs.map (·.1)/\nx (eu nx rs.length x)=none:=by
 obtain ⟨r,hr,rfl⟩:=List.mem_map.mp hx
 obtain ⟨h1,h2,_⟩:=g.run rs.length r.1 hx (g.rk r hr)
 exact ⟨h1,h2⟩
theorem lu.O9 (g:lu H a xs rs nx ρ) (hx:x∈rs.map (·.1)) (e:nx x=some y):eu nx rs.length y=eu nx rs.length x:=by
 obtain ⟨r,hr,rfl⟩:=List.mem_map.mp hx
 obtain ⟨h1,h2,h3⟩:=g.run rs.length r.1 hx (g.rk r hr)
 have e2:An nx r.1=y:=by simp [An,e]
 rw [ue,e2] at h3
 exact h3
end
theorem wE (xs:List V) (k:Nat):f_ xs (some (k:Int)) none=xs.drop k:=by
 unfold f_
 rw [HT.tH,HT.pM]
 by_cases h:k<=xs.length
 ·rw [Nat.min_eq_left h]
  exact List.take_of_length_le (by simp)
 ·rw [Nat.min_eq_right (by omega)]
  simp [List.drop_eq_nil_of_le (show xs.length<=k by omega)]
theorem O_ (xs:List V) (k:Nat):f_ xs none (some (k:Int))=xs.take k:=by
 unfold f_
 rw [HT.tH,HT.pM]
 simp
theorem uS {l:List α} (h:l.Nodup) {x:α} (hi:l[i]? =some x) (hj:l[j]? =some x):i=j:=by
 obtain ⟨a,e1⟩:=List.getElem?_eq_some_iff.mp hi
 obtain ⟨b,e2⟩:=List.getElem?_eq_some_iff.mp hj
 rcases Nat.lt_trichotomy i j with z | z | z
 ·exact ((List.pairwise_iff_getElem.mp h i j a b z) (e1.trans e2.symm)).elim
 ·exact z
 ·exact ((List.pairwise_iff_getElem.mp h j i b a z) (e2.trans e1.symm)).elim
theorem mU [BEq α] [LawfulBEq α] {l:List α} (h:l.Nodup) {x:α} (hi:l[i]? =some x):l.idxOf x=i:=by
 have hm:x∈l:=QC hi
 have h1:l.idxOf x < l.length:=List.idxOf_lt_length_of_mem hm
 have h2:l[l.idxOf x]? =some x:=by rw [Qa h1,List.getElem_idxOf]
 exact uS h h2 hi
open Classical in
theorem dL (h1:z.length<=20) (h2:∀ c∈z.cps.toList,c < 128):Wd z:=⟨h1,h2⟩
section
variable {β:Type} {R:α->β->Prop}
theorem lD:∀ {xs xs':List α} {ys JH:List β},Paired R xs ys->Paired R xs' JH->Paired R (xs++xs') (ys++JH)
 | _,_,_,_,.nil,h=>h
 | _,_,_,_,.cons a r,h=>.cons a (lD r h)
theorem x5:∀ {xs:List α} {ys:List β},xs.length=ys.length->(∀ i (h:i < xs.length) (h':i < ys.length),R xs[i] ys[i])->Paired R xs ys
 | [],[],_,_=>.nil
 | x::xs,y::ys,hl,h=>.cons (h 0 (by simp) (by simp)) (x5 (by simpa using hl) fun i a b=>h (i+1) (by simpa using a) (by simpa using b))
theorem t8:∀ {xs:List α} {ys:List β},Paired R xs ys->xs.length=ys.length/\∀ i (h:i < xs.length) (h':i < ys.length),R xs[i] ys[i]
 | _,_,.nil=>⟨rfl,fun i h=>absurd h (by simp)⟩
 | _,_,.cons a r=>by
  obtain ⟨h1,h2⟩:=t8 r
  refine ⟨by simp [h1],fun i h h'=>?_⟩
  cases i with
  | zero=>exact a
  | succ i=>exact h2 i (by simpa using h) (by simpa using h')
end
def PR (H:Hp) (x:V) (r:Key×V):Prop:=∃ b,x=.ref b/\H b=some (.tup [kV r.1,r.2])
theorem eO {xs:List V} {rs:List (Key×V)}:ja H xs rs↔Paired (PR H) xs rs:=by
 constructor
 ·rintro ⟨hl,h⟩
  refine x5 hl fun i h1 h2=>?_
  obtain ⟨b,e1,e2⟩:=h i h2
  rw [Qa h1] at e1
  exact ⟨b,QD e1,e2⟩
 ·intro h
  obtain ⟨hl,h'⟩:=t8 h
  refine ⟨hl,fun i h2=>?_⟩
  obtain ⟨b,e1,e2⟩:=h' i (by omega) h2
  exact ⟨b,by rw [Qa (by omega),e1],e2⟩
section
variable {xs:List V} {rs:List (Str×V)}
theorem nP (a b:List (Str×V)):cg (a++b)=cg a++cg b:=by simp [cg]
theorem n5:ja H [] (cg []):=eO.mpr .nil
theorem l9 (h:ja H xs (cg rs)) {n:Str} {v:V} (e:H b=some (.tup [.str n,v])):ja H (xs++[.ref b]) (cg (rs++[(n,v)])):=by
 rw [nP]
 exact eO.mpr (lD (eO.mp h) (.cons ⟨b,rfl,e⟩ .nil))
end
section
variable {e1 e2:Expr} {p pos:Pos} {k:Nat} {g1 g2:TG}
end
def KD (w:World) (K:QZ) (a:Addr) (kvs:List (Key×V)):Prop:=∀ P:Program,∃ (o:Obj) (es:Array DictEntry) (ep:Nat) (vs:List (Key×Value)),K.lookup a=some o/\(a==sysModules)=false/\o.ExactDict/\o.data=.dict es ep/\KeysOf (fj P w) es/\Pairs (fj P w) es.toList vs/\(vs.map (·.1)).Nodup/\KV kvs vs
section
variable {kvs:List (Key×V)}
theorem KD.of (h:KD X.w X.K a kvs) (I:Inv X pins σ H s):(a==sysModules)=false/\∃ vs,KV kvs vs/\s.heap.DictOf (fj X.prog X.w) a vs:=by
 obtain ⟨o,es,ep,vs,h1,h2,h3,h4,h5,h6,h7,h8⟩:=h X.prog
 exact ⟨h2,vs,h8,o,es,ep,I.fz a o h1,h3,h4,h5,h6,h7⟩
variable {pos p:Pos}
def Pa (kvs:List (Key×V)) (te:TE):TE:=fun σ H Q=>te σ H fun y H1=>∃ k v,y=kV k/\c_ kvs k=some v/\Q v H1
theorem wG {K:QZ} (hx:∃ a,X.mg x=some (.ref a)/\KD w K a kvs) (he:SE X e te) (hs:D5 e) (hw:X.w=w:=by rfl) (hK:X.K=K:=by rfl) (hg:Gl X x:=by rfl) (hd:(x==("__debug__":Str))=false:=by decide):SE X (.Subscript (.Name x p) e pos) (Pa kvs te):=by
 subst hw hK
 obtain ⟨a,hm,kd⟩:=hx
 constructor
 intro pins s σ H Q I h
 refine tL PySem.F.slot_dict_getitem.lookup hs (aq (tS (v:=.ref a) hg hm rfl hd pins s σ H (fun v H'=>v=.ref a/\H'=H) I ⟨rfl,rfl⟩) fun u s2 ⟨z,H2,I2,rz,ez,eH⟩=>?_)
 subst ez eH
 cases rz
 refine aq (he.h pins s2 σ _ _ I2 h) ?_
 rintro iv s3 ⟨y,H3,I3,ry,k,v,ey,ev,q⟩
 subst ey
 obtain ⟨h1,vs,rel,dd⟩:=kd.of I3
 obtain ⟨w',hw,jk⟩:=mi.some_of (v:=v) (o:=valueAt vs k) (by rw [<- ev];exact rel.val k)
 exact ⟨dd.typeIs,wpAny_getItem_of (jU ry) dd.mapOf hw ⟨v,_,I3.tok _,jk,q⟩⟩
end
theorem KV.len {kvs:List (Key×V)} {vs:List (Key×Value)} (r:KV kvs vs):kvs.length=vs.length:=Paired.length r
theorem lV (h:H a=some o):upd H a o=H:=by
 funext b
 unfold upd
 by_cases e:b=a
 ·rw [if_pos e,e,h]
 ·rw [if_neg e]
def Pb (n:Bool):R2:=fun y x H Q=>∃ a o,x=.ref a/\jf H a y o/\Q (.bl (n^^o.isSome)) H
theorem Pc (hu:X.A.units+1 < cLine):br X (compareOp .In) (Pb false):=by
 intro pins s σ H x y v u Q I rx ry h
 obtain ⟨a,o,rfl,g,q⟩:=h
 cases ry
 exact NO hu I g rx fun s' I'=>⟨.bl o.isSome,H,I',rfl,by simpa using q⟩
section
variable {a b c:Expr} {p pos:Pos}
end
inductive Dt where
 | str (z:Str)
 | tup (ds:List Dt)
 | jg
inductive DD (H:Hp):V->Dt->Prop
 | str {z:Str} (h:z.length<=100000):DD H (.str z) (.str z)
 | tup {a:Addr} {xs:List V} {ds:List Dt}:H a=some (.tup xs)->xs.length=ds.length->xs.length<=1000->(∀ i (h:i < xs.length) (h':i < ds.length),DD H xs[i] ds[i])->DD H (.ref a) (.tup ds)
 | af:DD H .af .jg
 | bl (b:Bool):DD H (.bl b) .jg
 | int (i:Int):DD H (.int i) .jg
 | lst {a:Addr} {xs:List V}:H a=some (.lst xs)->DD H (.ref a) .jg
 | dct {a:Addr} {kvs:List (Key×V)}:H a=some (.dK kvs)->DD H (.ref a) .jg
theorem DD.same (s:aa H H') {v:V} {d:Dt} (h:DD H v d):DD H' v d:=by
 induction h with
 | str h=>exact .str h
 | tup e hl hn _ ih=>exact .tup (s _ _ e) hl hn ih
 | af=>exact .af
 | bl b=>exact .bl b
 | int i=>exact .int i
 | lst e=>exact .lst (s _ _ e)
 | dct e=>exact .dct (s _ _ e)
def Bt:Dt->Bool | .str z=>isName z | _=>false
def pairD:Dt->Bool | .tup [a,b]=>Bt a&&Bt b | _=>false
def JI:Dt->Str | .tup (.str z::_)=>z | _=>""
def qj (a b:Str):Bool:=decide (a.cps.toList < b.cps.toList)
def rising:List Str->Bool
 | a::b::r=>qj a b&&rising (b::r)
 | _=>true
def Gn:Dt->Bool | .tup ps=>ps.all pairD&&rising (ps.map JI) | _=>false
def Bu (s:Str):Bool:=s=="box"||s=="pick"
def CM (s:Str):Option Nat:=if s=="all" then some 0 else if s=="none" then some 0 else if s=="way" then some 2 else if s=="as" then some 1 else none
def headD:Dt->Bool
 | .tup (.str s::rest)=>if Bu s then (match rest with | [p]=>Gn p | _=>false) else match CM s with | some n=>decide (rest.length=n)&&rest.all Bt | none=>false
 | _=>false
theorem ak.imp {P:Program} {w:World} {K:QZ} {mg:Str->Option Value} {base:Heap} {k:Nat} {x:Str} {ps:List Str} {sp Cu:Sp} (F:ak P w K mg base k x ps sp) (h:∀ vs H Q E,Cu vs H Q E->sp vs H Q E):ak P w K mg base k x ps Cu:=by
 obtain ⟨f,fd,G,r⟩:=F
 exact ⟨f,fd,G.imp h,r⟩
theorem oG (rs:List (Key×V)):(rs.map (·.1)).Nodup->dictOf rs=rs:=by
 have gen:∀ (rs kvs:List (Key×V)),(rs.map (·.1)).Nodup->(∀ r∈rs,c_ kvs r.1=none)->rs.foldl (fun kvs r=>putK kvs r.1 r.2) kvs=kvs++rs:=by
  intro rs
  induction rs with
  | nil=>intro kvs _ _;simp
  | cons r rs ih=>
   intro kvs hn hk
   rw [List.map_cons,List.nodup_cons] at hn
   rw [List.foldl_cons,oV _ (hk r List.mem_cons_self),ih _ hn.2 fun x hx=>?_]
   ·simp
   ·rw [jJ _ _ _ _ (hk r List.mem_cons_self),if_neg (fun e=>hn.1 (List.mem_map.mpr ⟨x,hx,e⟩))]
    exact hk x (Qh _ hx)
 intro hn
 have:=gen rs [] hn (fun _ _=>rfl)
 simpa [dictOf] using this
theorem uI {v:V} {d:Dt} (h:DD H v d) (hn:Bt d=true):∃ z,v=.str z/\d=.str z/\isName z=true:=by
 cases h with
 | str _=>exact ⟨_,rfl,rfl,hn⟩
 | tup _ _ _ _=>exact Bool.noConfusion hn
 | af=>exact Bool.noConfusion hn
 | bl _=>exact Bool.noConfusion hn
 | int _=>exact Bool.noConfusion hn
 | lst _=>exact Bool.noConfusion hn
 | dct _=>exact Bool.noConfusion hn
def Pd:Dt->Dt | .tup (_::h::_)=>h | _=>.jg
def CN:Dt->Option Str | .tup [.str s,.str x]=>if s=="as" then some x else none | _=>none
def Ao (ds:List Dt):List (Str×Dt):=ds.map fun d=>(JI d,Pd d)
def Gp (rs:List (Str×Dt)) (n:Str):Option Str:=(rs.find? fun r=>decide (r.1=n)).bind fun r=>CN r.2
theorem vJ (z:Str) (ds:List Dt):headD (.tup (.str z::ds))=if Bu z then (match ds with | [p]=>Gn p | _=>false) else match CM z with | some n=>decide (ds.length=n)&&ds.all Bt | none=>false:=rfl
theorem wJ {v:V} {d:Dt} (h:DD H v d) (hh:headD d=true):∃ a z xs ds,v=.ref a/\d=.tup (.str z::ds)/\H a=some (.tup (.str z::xs))/\xs.length=ds.length/\xs.length < 1000/\(∀ i (h:i < xs.length) (h':i < ds.length),DD H xs[i] ds[i])/\
  ((Bu z=true/\∃ p,ds=[p]/\Gn p=true)\/(Bu z=false/\∃ n,CM z=some n/\ds.length=n/\ds.all Bt=true)):=by
 cases h with
 | @tup a xs ds e hl hn jm=>
  match ds,hl,hh,jm with
  | .str z::ds,hl,hh,jm=>
   match xs,hl,e,hn,jm with
   | x0::xs,hl,e,hn,jm=>
    have h0:=jm 0 (by simp) (by simp)
    simp only [List.getElem_cons_zero] at h0
    cases h0
    refine ⟨a,z,xs,ds,rfl,rfl,e,by simpa using hl,by simp at hn;omega,fun i h h'=>jm (i+1) (by simpa using h) (by simpa using h'),?_⟩
    rw [vJ] at hh
    cases hw:Bu z with
    | true=>
     rw [hw] at hh
     simp only [if_true] at hh
     match ds,hh with
     | [p],hh=>exact .inl ⟨rfl,p,rfl,hh⟩
    | false=>
     rw [hw] at hh
     simp only [Bool.false_eq_true,if_false] at hh
     cases hb:CM z with
     | none=>rw [hb] at hh;exact Bool.noConfusion hh
     | some n=>
      rw [hb] at hh
      simp only [Bool.and_eq_true,decide_eq_true_eq] at hh
      exact .inr ⟨rfl,n,rfl,hh.1,hh.2⟩
  | .tup _::_,_,hh,_=>exact Bool.noConfusion hh
  | .jg::_,_,hh,_=>exact Bool.noConfusion hh
  | [],_,hh,_=>exact Bool.noConfusion hh
 | str _=>exact Bool.noConfusion hh
 | af=>exact Bool.noConfusion hh
 | bl _=>exact Bool.noConfusion hh
 | int _=>exact Bool.noConfusion hh
 | lst _=>exact Bool.noConfusion hh
 | dct _=>exact Bool.noConfusion hh
theorem uK:Bu "as"=false:=by decide
theorem Pe {v:V} {d:Dt} (h:DD H v d) (hh:headD d=true):Am H v (CN d):=by
 obtain ⟨a,z,xs,ds,rfl,rfl,e,hl,hn,jm,hc⟩:=wJ h hh
 refine ⟨a,rfl,?_⟩
 by_cases hz:z="as"
 ·subst hz
  rcases hc with ⟨hw,_⟩ | ⟨_,n,hb,Pf,Ek⟩
  ·rw [uK] at hw;cases hw
  ·have hn1:n=1:=by
    have:CM "as"=some 1:=by decide
    rw [this] at hb;cases hb;rfl
   subst hn1
   match ds,Pf,hl,Ek,jm with
   | [d1],_,hl,Ek,jm=>
    match xs,hl,e,jm with
    | [x1],_,e,jm=>
     simp only [List.all_cons,List.all_nil,Bool.and_true] at Ek
     obtain ⟨y,q1,q2,_⟩:=uI (jm 0 (by simp) (by simp)) Ek
     simp only [List.getElem_cons_zero] at q1
     subst q1 q2
     exact .inr ⟨y,e,by simp [CN]⟩
 ·refine .inl ⟨z,xs,e,hz,?_⟩
  have CO:(z==Str.ofString "as")=false:=by simpa using hz
  unfold CN
  split
  ·next s x Gq=>
   injection Gq with Gq
   injection Gq with h1 _
   injection h1 with h1
   rw [<- h1,if_neg (by rw [CO];exact Bool.false_ne_true)]
  ·rfl
theorem cB {t:TS} {rt:VK} {bk ct:St->Hp->Prop} (h:t D σ H):DL {nx:=t D,rt:=rt,bk:=bk,ct:=ct} σ H:=h
structure Bv (H:Hp) (xs:List V) (ds:List Dt) (rs:List (Str×V)) (hs:List Dt):Prop where
 l1:rs.length=ds.length
 l2:hs.length=ds.length
 ps:ja H xs (cg rs)
 dd:∀ i (h:i < ds.length) (h1:i < rs.length) (h2:i < hs.length),ds[i]=.tup [.str rs[i].1,hs[i]]/\DD H rs[i].2 hs[i]/\headD hs[i]=true/\isName rs[i].1=true
section
variable {xs:List V} {ds:List Dt} {rs:List (Str×V)} {hs:List Dt}
theorem Bv.rows (R:Bv H xs ds rs hs) (h:i < ds.length) (h1:i < rs.length) (h2:i < hs.length):(Ao ds)[i]? =some (rs[i].1,hs[i]):=by
 unfold Ao
 rw [Qq,Qa h,(R.dd i h h1 h2).1];rfl
theorem kK (n:Str) (h:n ∉ rs.map (·.1)):c_ (cg rs) (.inr n)=none:=by
 unfold c_
 rw [List.find?_eq_none.mpr]
 ·rfl
 ·intro p hp e
  obtain ⟨r,hr,rfl⟩:=List.mem_map.mp hp
  exact h (List.mem_map.mpr ⟨r,hr,Sum.inr.inj (Qt e)⟩)
theorem mI (nd:(rs.map (·.1)).Nodup) (h:i < rs.length):c_ (cg rs) (.inr rs[i].1)=some rs[i].2:=by
 have:=jW (cg rs) (lK nd) i (by simpa using h)
 rw [oG _ (lK nd)] at this
 simpa using this
theorem Bv.nx (R:Bv H xs ds rs hs) (nd:(rs.map (·.1)).Nodup) (h1:i < rs.length) (h2:i < hs.length):Gp (Ao ds) rs[i].1=CN hs[i]:=by
 have h:i < ds.length:=by have:=R.l1;omega
 unfold Gp
 have:(Ao ds).find? (fun r=>decide (r.1=rs[i].1))=some (rs[i].1,hs[i]):=by
  rw [List.find?_eq_some_iff_getElem]
  have hl:(Ao ds).length=ds.length:=by unfold Ao;simp
  refine ⟨by simp,i,by omega,?_,fun j hj=>?_⟩
  ·have:=R.rows h h1 h2
   rw [Qa (by omega)] at this
   exact QD this
  ·have Pg:j < rs.length:=by omega
   have:=R.rows (i:=j) (by omega) Pg (by omega)
   rw [Qa (by omega)] at this
   rw [QD this]
   have gh:(rs.map (·.1))[j]'(by simp;omega)≠(rs.map (·.1))[i]'(by simpa using h1):=fun z=>(List.pairwise_iff_getElem.mp nd j i (by simp;omega) (by simpa using h1) hj) z
   simpa using gh
 rw [this];rfl
theorem Bv.has (R:Bv H xs ds rs hs) (nd:(rs.map (·.1)).Nodup) (n:Str) (v:V) (hv:c_ (cg rs) (.inr n)=some v):Am H v (Gp (Ao ds) n):=by
 by_cases h:n∈rs.map (·.1)
 ·obtain ⟨r,hr,rfl⟩:=List.mem_map.mp h
  obtain ⟨i,hi,rfl⟩:=Qi hr
  rw [mI nd hi] at hv
  cases hv
  have h2:i < hs.length:=by have:=R.l1;have:=R.l2;omega
  rw [R.nx nd hi h2]
  obtain ⟨_,q1,q2,_⟩:=R.dd i (by have:=R.l1;omega) hi h2
  exact Pe q1 q2
 ·rw [kK n h] at hv;cases hv
end
inductive TX (H:Hp):V->Dt->Prop
 | str {z:Str} (h:z.length<=100000):TX H (.str z) (.str z)
 | tup {a:Addr} {xs:List V} {ds:List Dt}:H a=some (.tup xs)->xs.length=ds.length->xs.length<=1000->(∀ i (h:i < xs.length) (h':i < ds.length),TX H xs[i] ds[i])->TX H (.ref a) (.tup ds)
theorem TX.dd {v:V} {d:Dt} (h:TX H v d):DD H v d:=by
 induction h with
 | str h=>exact .str h
 | tup e hl hn _ ih=>exact .tup e hl hn ih
theorem yM {x:V} {d:Dt} (e:H a=some (.tup [x])) (h:TX H x d):TX H (.ref a) (.tup [d]):=.tup e rfl (by simp) fun i h1 h2=>by
 match i,h1 with
 | 0,_=>exact h
theorem nS {x y:V} {d d':Dt} (e:H a=some (.tup [x,y])) (h:TX H x d) (h':TX H y d'):TX H (.ref a) (.tup [d,d']):=.tup e rfl (by simp) fun i h1 h2=>by
 match i,h1 with
 | 0,_=>exact h
 | 1,_=>exact h'
theorem z0 {x y z:V} {d d' JJ:Dt} (e:H a=some (.tup [x,y,z])) (h:TX H x d) (h':TX H y d') (Ak:TX H z JJ):TX H (.ref a) (.tup [d,d',JJ]):=.tup e rfl (by simp) fun i h1 h2=>by
 match i,h1 with
 | 0,_=>exact h
 | 1,_=>exact h'
 | 2,_=>exact Ak
theorem iA (h:isName z=true):z.length<=8:=by
 unfold isName at h
 simp only [Bool.and_eq_true,decide_eq_true_eq] at h
 exact h.1.1.2
theorem iO (h:isName z=true):TX H (.str z) (.str z):=.str (by have:=iA h;omega)
theorem oQ (h:z.length<=100):TX H (.str z) (.str z):=.str (by omega)
section
variable {P:Option Str->Prop}
structure JK (H:Hp) (ns:List Str) (xs:List V) (ps:List (Str×Str)):Prop where
 len:xs.length=ps.length
 at_:∀ i (h:i < xs.length) (h':i < ps.length),∃ c,xs[i]=.ref c/\H c=some (.tup [.str ps[i].1,.str ps[i].2])
 nm:∀ p∈ps,isName p.1=true/\isName p.2=true/\p.2∈ns
 Gr:rising (ps.map (·.1))=true
end
theorem pK {a b c:Str} (h1:qj a b=true) (h2:qj b c=true):qj a c=true:=by
 unfold qj at*
 exact decide_eq_true (List.lt_trans (Qt h1) (Qt h2))
theorem fB:∀ {ws:List Str},ws.Pairwise (fun a b=>qj a b=true)->rising ws=true
 | [],_=>rfl
 | [_],_=>rfl
 | a::b::r,h=>by
  rw [List.pairwise_cons] at h
  rw [rising,h.1 b List.mem_cons_self,fB h.2];rfl
def Aq:V->Str
 | .str z=>z
 | _=>""
theorem Ph {xs:List V} {rs:List (Str×V)} (q2:ja H xs (cg rs)) (hn:∀ r∈rs,isName r.1=true) (q4:∀ r∈rs,∃ y,r.2=.str y/\y∈ns/\isName y=true) (hr:rising (rs.map (·.1))=true):JK H ns xs (rs.map fun q=>(q.1,Aq q.2)):=by
 have hl:xs.length=rs.length:=by have:=q2.1;simpa using this
 refine ⟨by simp;omega,fun i h1 h2=>?_,fun q hq=>?_,?_⟩
 ·have h3:i < rs.length:=by omega
  obtain ⟨c',e1,e2⟩:=q2.2 i (by simpa using h3)
  rw [Qa h1] at e1
  refine ⟨c',QD e1,?_⟩
  obtain ⟨y,ey,_⟩:=q4 _ (Qj h3)
  simp only [Qr]
  rw [ey]
  have:H c'=some (.tup [.str rs[i].1,rs[i].2]):=by simpa [cg,kV] using e2
  rw [ey] at this
  exact this
 ·obtain ⟨q',El,rfl⟩:=List.mem_map.mp hq
  obtain ⟨y,ey,my,ny⟩:=q4 q' El
  refine ⟨hn q' El,?_,?_⟩
  ·show isName (Aq q'.2)=true
   rw [ey];exact ny
  ·show Aq q'.2∈ns
   rw [ey];exact my
 ·rw [List.map_map];exact hr
section
variable {e1 e2:Expr} {p pos:Pos} {k:Nat} {g1 g2:TG}
end
section
variable {t1 i1 t2 i2 elt:Expr} {pos:Pos} {Pj:TI} {g2:TG}
end
section
variable {st:Expr} {ts:TE} {p2 pos:Pos}
end
inductive Hd where
 | one (s:Str)
 | as (y:Str)
 | way (x y:Str)
 | prs (s:Str) (ps:List (Str×Str))
def Hd.nx:Hd->Option Str
 | .as y=>some y
 | _=>none
def Hd.ok (ns:List Str):Hd->Prop
 | .one s=>s="all"\/s="none"
 | .as y=>isName y=true/\y∈ns
 | .way x y=>isName x=true/\isName y=true/\x∈ns/\y∈ns
 | .prs s ps=>(s="box"\/s="pick")/\(∀ p∈ps,isName p.1=true/\isName p.2=true/\p.2∈ns)/\rising (ps.map (·.1))=true/\ps.length<=10
structure Em (H:Hp) (xs:List V) (ps:List (Str×Str)):Prop where
 len:xs.length=ps.length
 at_:∀ i (h:i < xs.length) (h':i < ps.length),∃ c,xs[i]=.ref c/\H c=some (.tup [.str ps[i].1,.str ps[i].2])
theorem Em.tk {xs:List V} {ps:List (Str×Str)} (h:Em H xs ps) (s:Tk H H'):Em H' xs ps:=⟨h.len,fun i a b=>let ⟨c,h1,h2⟩:=h.at_ i a b;⟨c,h1,s _ _ h2⟩⟩
inductive HV (H:Hp):V->Hd->Prop
 | one {b:Addr} {s:Str}:H b=some (.tup [.str s])->HV H (.ref b) (.one s)
 | as {b:Addr} {y:Str}:H b=some (.tup [.str "as",.str y])->HV H (.ref b) (.as y)
 | way {b:Addr} {x y:Str}:H b=some (.tup [.str "way",.str x,.str y])->HV H (.ref b) (.way x y)
 | prs {b c:Addr} {s:Str} {xs:List V} {ps:List (Str×Str)}:H b=some (.tup [.str s,.ref c])->H c=some (.tup xs)->Em H xs ps->HV H (.ref b) (.prs s ps)
theorem HV.tk {H H':Hp} (s:Tk H H') {v:V} {h:Hd} (q:HV H v h):HV H' v h:=by
 cases q with
 | one e=>exact .one (s _ _ e)
 | as e=>exact .as (s _ _ e)
 | way e=>exact .way (s _ _ e)
 | prs e e' p=>exact .prs (s _ _ e) (s _ _ e') (p.tk s)
section
variable {v:V} {P:Option Str->Prop}
end
def Hd.dt:Hd->Dt
 | .one s=>.tup [.str s]
 | .as y=>.tup [.str "as",.str y]
 | .way x y=>.tup [.str "way",.str x,.str y]
 | .prs s ps=>.tup [.str s,.tup (ps.map fun p=>.tup [.str p.1,.str p.2])]
theorem HV.tx {v:V} {h:Hd} (q:HV H v h) (ok:h.ok ns):TX H v h.dt:=by
 cases q with
 | one e=>exact yM e (oQ (by rcases ok with rfl | rfl<;>decide))
 | as e=>exact nS e (oQ (by decide)) (iO ok.1)
 | way e=>exact z0 e (oQ (by decide)) (iO ok.1) (iO ok.2.1)
 | @prs b c s xs ps e e' p=>
  have Pk:=ok.2.2.2
  have hl:=p.len
  refine nS e (oQ (by rcases ok.1 with rfl | rfl<;>decide)) (.tup e' (by simp [p.len]) (by omega) fun i h1 h2=>?_)
  have h3:i < ps.length:=by simpa using h2
  obtain ⟨c',q1,q2⟩:=p.at_ i h1 h3
  obtain ⟨m1,m2,_⟩:=ok.2.1 _ (Qj h3)
  rw [q1]
  simp only [Qr]
  exact nS q2 (iO m1) (iO m2)
abbrev cj:=Str×Hd
structure RV (H:Hp) (xs:List V) (rows:List cj):Prop where
 len:xs.length=rows.length
 at_:∀ i (h:i < xs.length) (h':i < rows.length),∃ b v,xs[i]=.ref b/\H b=some (.tup [.str rows[i].1,v])/\HV H v rows[i].2
theorem RV.tk {H H':Hp} {xs:List V} {rows:List cj} (h:RV H xs rows) (s:Tk H H'):RV H' xs rows:=⟨h.len,fun i a b=>let ⟨c,v,h1,h2,h3⟩:=h.at_ i a b;⟨c,v,h1,s _ _ h2,h3.tk s⟩⟩
theorem RV.snoc {xs:List V} {rows:List cj} (h:RV H xs rows) {v:V} {r:cj} (e:H b=some (.tup [.str r.1,v])) (hv:HV H v r.2):RV H (xs++[.ref b]) (rows++[r]):=by
 have hl:=h.len
 refine ⟨by simp [hl],fun i h1 h2=>?_⟩
 by_cases bz:i < xs.length
 ·rw [Qe bz,Qe (by omega)]
  exact h.at_ i bz (by omega)
 ·have e1:i=xs.length:=by simp at h1;omega
  subst e1
  rw [Qf (Qy _),Qf (by omega)]
  simp only [Nat.sub_self,List.getElem_cons_zero,hl]
  exact ⟨b,v,rfl,e,hv⟩
def Pn (r:cj):Dt:=.tup [.str r.1,r.2.dt]
def JL (ns:List Str) (rows:List cj):Prop:=∀ r∈rows,isName r.1=true/\r.2.ok ns
def Hd.pre:Hd->List Str
 | .one s=>[s]
 | .as _=>[]
 | .way _ _=>["way"]
 | .prs s _=>[s]
section
variable {I:Addr} {wr:List Addr} {P:Nat->Value->Prop} {St:Nat->Shared->Prop}
end
theorem wB (K:QZ) (h:X.K=K:=by rfl):br X (binaryOp .Add) (Jc K):=by subst h;exact tR
section
variable {a b c:Expr} {p pos:Pos}
end
def Hd.Bw:Hd->List Str
 | .prs _ ps=>ps.map (·.1)
 | _=>[]
structure nc (H:Hp) (ns ws:List Str) (v:V) (P:Option Str->Prop):Prop where
 ex:∃ h,HV H v h/\h.ok ns/\P h.nx/\∀ z∈h.Bw,z∈ws
section
variable {v:V} {P:Option Str->Prop}
theorem nc.tk {H':Hp} (h:nc H ns ws v P) (s:Tk H H'):nc H' ns ws v P:=let ⟨d,h1,h2⟩:=h.ex;⟨d,h1.tk s,h2⟩
theorem nc.imp {P':Option Str->Prop} (h:nc H ns ws v P) (f:∀ o,P o->P' o):nc H ns ws v P':=let ⟨d,h1,h2,h3,h4⟩:=h.ex;⟨d,h1,h2,f _ h3,h4⟩
theorem Po (e:H b=some (.tup [.str "as",.str y])) (hy:isName y=true) (hm:y∈ns) (hP:P (some y)):nc H ns ws (.ref b) P:=⟨.as y,.as e,⟨hy,hm⟩,hP,(fun _ h=>nomatch h)⟩
theorem wM (e:H b=some (.tup [.str "none"])) (hP:P none):nc H ns ws (.ref b) P:=⟨.one "none",.one e,.inr rfl,hP,(fun _ h=>nomatch h)⟩
theorem yJ (e:H b=some (.tup [.str "all"])) (hP:P none):nc H ns ws (.ref b) P:=⟨.one "all",.one e,.inl rfl,hP,(fun _ h=>nomatch h)⟩
theorem yY (e:H b=some (.tup [.str "way",.str x,.str y])) (hx:isName x=true) (hy:isName y=true) (mx:x∈ns) (my:y∈ns) (hP:P none):nc H ns ws (.ref b) P:=⟨.way x y,.way e,⟨hx,hy,mx,my⟩,hP,(fun _ h=>nomatch h)⟩
theorem sF {s:Str} {xs:List V} {ps:List (Str×Str)} (hs:s="box"\/s="pick") (e:H b=some (.tup [.str s,.ref c])) (ec:H c=some (.tup xs)) (hn:xs.length<=10) (h:JK H ns xs ps) (hw:∀ q∈ps,q.1∈ws) (hP:P none):nc H ns ws (.ref b) P:=
 ⟨.prs s ps,.prs e ec ⟨h.len,h.at_⟩,⟨hs,h.nm,h.Gr,by rw [<- h.len];exact hn⟩,hP,fun z hz=>by obtain ⟨q,hq,rfl⟩:=List.mem_map.mp hz;exact hw q hq⟩
end
theorem wO (e:H b=some (.tup [.str x,.str y])) (hx:Wd x) (hy:Wd y):TB H (.ref b) 1 411:=
 (TB.tup (k:=0) (n:=202) e fun v hv=>by
  simp only [Qp,QA,or_false] at hv
  rcases hv with rfl | rfl
  ·exact TB.str hx
  ·exact TB.str hy).mono (by omega) (by simp)
theorem HV.tb {ws:List Str} {v:V} {h:Hd} (q:HV H v h) (ok:h.ok ns) (hn:∀ n∈ns,Wd n) (hw:∀ z∈h.Bw,Wd z):TB H v 3 8273:=by
 cases q with
 | one e=>
  refine (TB.tup (k:=0) (n:=202) e fun v hv=>?_).mono (by omega) (by simp)
  rw [List.mem_singleton.mp hv]
  rcases ok with rfl | rfl<;>exact TB.str (dL (by decide) (by decide))
 | as e=>exact (wO e (dL (by decide) (by decide)) (hn _ ok.2)).mono (by omega) (by omega)
 | way e=>
  refine (TB.tup (k:=0) (n:=202) e fun v hv=>?_).mono (by omega) (by simp)
  simp only [Qp,QA,or_false] at hv
  rcases hv with rfl | rfl | rfl
  ·exact TB.str (dL (by decide) (by decide))
  ·exact TB.str (hn _ ok.2.2.1)
  ·exact TB.str (hn _ ok.2.2.2)
 | @prs b c s xs ps e e' p=>
  have Pk:=ok.2.2.2
  have hl:=p.len
  refine (TB.tup (k:=2) (n:=4133) e fun v hv=>?_).mono (by omega) (by simp)
  simp only [Qp,QA,or_false] at hv
  rcases hv with rfl | rfl
  ·rcases ok.1 with rfl | rfl<;>exact (TB.str (dL (by decide) (by decide))).mono (by omega) (by omega)
  ·refine (TB.tup (k:=1) (n:=411) e' fun x hx=>?_).mono (by omega) (by omega)
   obtain ⟨i,hi,rfl⟩:=Qi hx
   have h3:i < ps.length:=by omega
   obtain ⟨c',q1,q2⟩:=p.at_ i hi h3
   rw [q1]
   have hm:ps[i]∈ps:=Qj h3
   exact wO q2 (hw _ (List.mem_map.mpr ⟨_,hm,rfl⟩)) (hn _ (ok.2.1 _ hm).2.2)
theorem oR (a:Str):qj a a=false:=by
 unfold qj
 exact Qw (List.lt_irrefl _)
def Ar (ns:List Str) (n:Str) (o:Option Str):Prop:=∀ y,o=some y->∃ (i j:Nat),i < j/\ns[i]? =some y/\ns[j]? =some n
structure qk (H:Hp) (ns ws:List Str) (rs:List (Str×V)):Prop where
 sub:∀ r∈rs,r.1∈ns
 hd:∀ r∈rs,nc H ns ws r.2 (Ar ns r.1)
theorem qk.tk {H H':Hp} {ns ws:List Str} {rs:List (Str×V)} (h:qk H ns ws rs) (s:Tk H H'):qk H' ns ws rs:=⟨h.sub,fun r hr=>(h.hd r hr).tk s⟩
theorem qk.perm {rs rs':List (Str×V)} (h:qk H ns ws rs) (p:∀ r∈rs',r∈rs):qk H ns ws rs':=⟨fun r hr=>h.sub r (p r hr),fun r hr=>h.hd r (p r hr)⟩
theorem qk.add {rs:List (Str×V)} (h:qk H ns ws rs) {n:Str} {v:V} (h1:n∈ns) (h2:nc H ns ws v (Ar ns n)):qk H ns ws ((n,v)::rs):=by
 refine ⟨fun r hr=>?_,fun r hr=>?_⟩<;>rcases Qp.mp hr with rfl | hr
 ·exact h1
 ·exact h.sub r hr
 ·exact h2
 ·exact h.hd r hr
structure RT (H:Hp) (a:Addr) (xs:List V) (rows:List cj) (ns ws:List Str):Prop where
 at_:H a=some (.tup xs)
 rv:RV H xs rows
 nm:(rows.map (·.1)).Perm ns
 nd:ns.Nodup
 ok:JL ns rows
 wd:∀ n∈ns,Wd n
 ah:∀ r∈rows,Ar ns r.1 r.2.nx
 ww:∀ r∈rows,∀ z∈r.2.Bw,z∈ws
 pos:1<=ns.length
 few:ns.length<=14
section
variable {xs:List V} {rows:List cj}
theorem RT.tk (h:RT H a xs rows ns ws) (s:Tk H H'):RT H' a xs rows ns ws:=⟨s _ _ h.at_,h.rv.tk s,h.nm,h.nd,h.ok,h.wd,h.ah,h.ww,h.pos,h.few⟩
theorem RT.rl (h:RT H a xs rows ns ws):rows.length=ns.length:=by have:=h.nm.length_eq;simpa using this
theorem RT.As (h:RT H a xs rows ns ws):(rows.map (·.1)).Nodup:=by rw [h.nm.nodup_iff];exact h.nd
theorem RT.of {rs:List (Str×V)} (e:H a=some (.tup xs)) (ps:ja H xs (cg rs)) (nm:(rs.map (·.1)).Perm ns) (nd:ns.Nodup) (JM:∀ n∈ns,isName n=true/\Wd n) (pos:1<=ns.length) (few:ns.length<=14) (g:qk H ns ws rs):∃ rows,RT H a xs rows ns ws:=by
 have hc:∀ i:Fin rs.length,∃ hd:Hd,HV H rs[i.val].2 hd/\hd.ok ns/\Ar ns rs[i.val].1 hd.nx/\∀ z∈hd.Bw,z∈ws:=fun i=>(g.hd _ (Qj i.isLt)).ex
 obtain ⟨f,hf⟩:=Classical.axiomOfChoice hc
 have vn:xs.length=rs.length:=by have:=ps.1;simpa using this
 have en:(List.ofFn fun i:Fin rs.length=>((rs[i.val].1,f i):cj)).map (·.1)=rs.map (·.1):=by
  apply List.ext_getElem
  ·simp
  ·intro i h1 h2;simp
 have mem:∀ r∈(List.ofFn fun i:Fin rs.length=>((rs[i.val].1,f i):cj)),∃ i:Fin rs.length,r=(rs[i.val].1,f i):=fun r hr=>by
  obtain ⟨i,hi,rfl⟩:=Qi hr
  exact ⟨⟨i,by simpa using hi⟩,by simp⟩
 refine ⟨List.ofFn fun i=>(rs[i.val].1,f i),e,⟨by simp [vn],fun i h1 h2=>?_⟩,by rw [en];exact nm,nd,fun r hr=>?_,fun n hn=>(JM n hn).2,fun r hr=>?_,fun r hr=>?_,pos,few⟩
 ·have h3:i < rs.length:=by omega
  obtain ⟨b,e1,e2⟩:=ps.2 i (by simpa using h3)
  rw [Qa h1] at e1
  refine ⟨b,rs[i].2,QD e1,?_,?_⟩
  ·simpa [cg,kV] using e2
  ·simpa using (hf ⟨i,h3⟩).1
 ·obtain ⟨i,rfl⟩:=mem r hr
  exact ⟨(JM _ (g.sub _ (Qj i.isLt))).1,(hf i).2.1⟩
 ·obtain ⟨i,rfl⟩:=mem r hr
  exact (hf i).2.2.1
 ·obtain ⟨i,rfl⟩:=mem r hr
  exact (hf i).2.2.2
end
section
variable {xs ys:List V} {rows Vr:List cj} {ig:List Str} {f g:Str->Str}
theorem RT.pairs (h:RT H a xs rows ns ws):∃ rs:List (Str×V),ja H xs (cg rs)/\rs.map (·.1)=rows.map (·.1)/\rs.length=rows.length/\∀ i (h1:i < rs.length) (h2:i < rows.length),HV H rs[i].2 rows[i].2:=by
 have hl:=h.rv.len
 have hc:∀ i:Fin rows.length,∃ v:V,(∃ b,xs[i.val]? =some (.ref b)/\H b=some (.tup [.str rows[i.val].1,v]))/\HV H v rows[i.val].2:=fun i=>by
  obtain ⟨b,v,q1,q2,q3⟩:=h.rv.at_ i.val (by have:=i.isLt;omega) i.isLt
  exact ⟨v,⟨b,by rw [Qa (by have:=i.isLt;omega),q1],q2⟩,q3⟩
 obtain ⟨f,hf⟩:=Classical.axiomOfChoice hc
 refine ⟨List.ofFn fun i=>(rows[i.val].1,f i),⟨by simp [hl],fun i hi=>?_⟩,?_,by simp,fun i h1 h2=>?_⟩
 ·have gf:i < rows.length:=by simpa using hi
  obtain ⟨b,q1,q2⟩:=(hf ⟨i,gf⟩).1
  exact ⟨b,q1,by simpa [cg,kV] using q2⟩
 ·apply List.ext_getElem
  ·simp
  ·intro i h1 h2;simp
 ·simpa using (hf ⟨i,h2⟩).2
def uf (rows:List cj) (x:Str):Hd:=((rows.find? fun r=>decide (r.1=x)).map (·.2)).getD (.one "")
def gi (rows:List cj) (x:Str):Option Str:=(uf rows x).nx
theorem eE (nd:(rows.map (·.1)).Nodup) {r:cj} (hr:r∈rows):uf rows r.1=r.2:=by
 obtain ⟨i,hi,rfl⟩:=Qi hr
 have:rows.find? (fun r=>decide (r.1=rows[i].1))=some rows[i]:=by
  rw [List.find?_eq_some_iff_getElem]
  refine ⟨by simp,i,hi,rfl,fun j hj=>?_⟩
  have gh:(rows.map (·.1))[j]'(by simp;omega)≠(rows.map (·.1))[i]'(by simpa using hi):=List.pairwise_iff_getElem.mp nd j i (by simp;omega) (by simpa using hi) hj
  simpa using gh
 unfold uf
 rw [this];rfl
theorem HV.Pp {v:V} {h:Hd} (q:HV H v h) (ok:h.ok ns):Am H v h.nx:=by
 cases q with
 | one e=>exact ⟨_,rfl,.inl ⟨_,_,e,by rcases ok with rfl | rfl<;>decide,rfl⟩⟩
 | as e=>exact ⟨_,rfl,.inr ⟨_,e,rfl⟩⟩
 | way e=>exact ⟨_,rfl,.inl ⟨_,_,e,by decide,rfl⟩⟩
 | prs e e' p=>exact ⟨_,rfl,.inl ⟨_,_,e,by rcases ok.1 with rfl | rfl<;>decide,rfl⟩⟩
theorem RT.good (h:RT H a xs rows ns ws) (hw:∀ z∈ws,Wd z):∃ rs,lu H a xs rs (gi rows) (fun n=>ns.idxOf n)/\rs.map (·.1)=rows.map (·.1)/\rs.length=rows.length/\∀ x v,x∈ns->c_ (dictOf (cg rs)) (.inr x)=some v->HV H v (uf rows x):=by
 obtain ⟨rs,ps,nm,rl,hv⟩:=h.pairs
 have xr:=h.rl
 have hf:=h.few
 have hp:=h.pos
 have nd:(rs.map (·.1)).Nodup:=by rw [nm];exact h.As
 have mz:∀ n,n∈ns↔n∈rs.map (·.1):=fun n=>by rw [nm];exact h.nm.mem_iff.symm
 have at':∀ r∈rs,∃ r'∈rows,r.1=r'.1/\HV H r.2 r'.2:=fun r hr=>by
  obtain ⟨i,hi,rfl⟩:=Qi hr
  have gf:i < rows.length:=by omega
  refine ⟨rows[i],Qj gf,?_,hv i hi gf⟩
  have:(rs.map (·.1))[i]'(by simpa using hi)=(rows.map (·.1))[i]'(by simpa using gf):=by simp only [nm]
  simpa using this
 have g:lu H a xs rs (gi rows) (fun n=>ns.idxOf n):=by
  refine ⟨h.at_,ps,nd,by omega,by omega,fun r hr=>?_,fun r hr y hy=>?_,fun r hr=>?_,fun r hr=>?_⟩
  ·obtain ⟨r',hr',e,v⟩:=at' r hr
   unfold gi
   rw [e,eE h.As hr']
   exact v.Pp (h.ok r' hr').2
  ·obtain ⟨r',hr',e,v⟩:=at' r hr
   unfold gi at hy
   rw [e,eE h.As hr'] at hy
   obtain ⟨i,j,ym,h1,h2⟩:=h.ah r' hr' y hy
   refine ⟨(mz y).mp (QC h1),?_⟩
   show ns.idxOf y < ns.idxOf r.1
   rw [e,mU h.nd h1,mU h.nd h2]
   exact ym
  ·have:=List.idxOf_lt_length_of_mem ((mz r.1).mpr (List.mem_map.mpr ⟨r,hr,rfl⟩))
   show ns.idxOf r.1<=_
   omega
  ·obtain ⟨r',hr',e,v⟩:=at' r hr
   refine ⟨h.wd _ ((mz r.1).mpr (List.mem_map.mpr ⟨r,hr,rfl⟩)),v.tb (ws:=ws) (h.ok r' hr').2 h.wd fun z hz=>hw z (h.ww r' hr' z hz)⟩
 refine ⟨rs,g,nm,rl,fun x v hx kh=>?_⟩
 obtain ⟨v',m,e⟩:=g.get ((mz x).mp hx)
 rw [kh] at e
 cases e
 obtain ⟨r',hr',e,q⟩:=at' _ m
 have e':x=r'.1:=e
 rw [e',eE h.As hr']
 exact q
end
inductive DA (P:Addr->Prop) (H:Hp):Bool->V->PyData->Dt->Prop
 | str {m:Bool} {z:Str} (h:z.length<=100000):DA P H m (.str z) (.str z) (.str z)
 | af {m:Bool}:DA P H m .af .none .jg
 | bl {m:Bool} (b:Bool):DA P H m (.bl b) (.bool b) .jg
 | int {m:Bool} (i:Int):DA P H m (.int i) (.int i) .jg
 | tup {m:Bool} {a:Addr} {xs:List V} {ps:List PyData} {ds:List Dt}:P a->H a=some (.tup xs)->xs.length=ps.length->xs.length=ds.length->xs.length<=1000->(∀ i (h:i < xs.length) (h':i < ps.length) (Ak:i < ds.length),DA P H m xs[i] ps[i] ds[i])->DA P H m (.ref a) (.tuple ps) (.tup ds)
 | lst {a:Addr} {xs:List V} {ps:List PyData} {ds:List Dt}:P a->H a=some (.lst xs)->xs.length=ps.length->xs.length=ds.length->(∀ i (h:i < xs.length) (h':i < ps.length) (Ak:i < ds.length),DA P H true xs[i] ps[i] ds[i])->DA P H true (.ref a) (.list ps) .jg
 | Pq {a:Addr}:P a->H a=some (.dK [])->DA P H false (.ref a) (.dict []) .jg
 | Pr {a:Addr} {z:Str} {x:V} {p:PyData} {d:Dt}:P a->H a=some (.dK [(.inr z,x)])->DA P H false x p d->DA P H false (.ref a) (.dict [(.str z,p)]) .jg
theorem DA.dd {P:Addr->Prop} {m:Bool} {v:V} {p:PyData} {d:Dt} (h:DA P H m v p d):DD H v d:=by
 induction h with
 | str h=>exact .str h
 | af=>exact .af
 | bl b=>exact .bl b
 | int i=>exact .int i
 | tup _ e h1 h2 h3 _ ih=>exact .tup e h2 h3 fun i a b=>ih i a (by omega) b
 | lst _ e h1 h2 _ ih=>exact .lst e
 | Pq _ e=>exact .dct e
 | Pr _ e _ ih=>exact .dct e
section
variable {P P':Addr->Prop} {m:Bool} {v:V} {k k' n':Nat} {xs:List V}
end
section
variable {P:Addr->Prop} {m:Bool} {k c:Nat}
end
section
variable {pos:Pos}
theorem Pu {a b:Expr} {px py pt:Pos} {kt k2 Aa} (hc:X.calm=true) (hN:X.N.Nodup) (hi:X.N[i]? =some x) (hj:X.N[j]? =some y) (ym:i≠j) (hx:X.env.scope.names.lookup x=some .local) (hy:X.env.scope.names.lookup y=some .local) (ha:SA X [a,b] ta)
  (hw:swappedStores [.Tuple [.Name x px,.Name y py] kt pt] (.Tuple [a,b] k2 Aa) X.env=pure (some [x,y])) (hs:swapsWithSole [.Tuple [.Name x px,.Name y py] kt pt] (.Tuple [a,b] k2 Aa) pos.line X.env=pure false:=by rfl):SS X (.Assign [.Tuple [.Name x px,.Name y py] kt pt] (.Tuple [a,b] k2 Aa) pos) (IG i j ta):=⟨zY hc hN hi hj ym hx hy ha.h hw hs⟩
end
def Hd.Pw:Hd->List (List Str×Str)
 | .way x y=>[(["from"],x),(["to"],y)]
 | .prs s ps=>ps.map fun p=>([if s="box" then "part" else "case",p.1],p.2)
 | _=>[]
def endOf (rows:List cj) (x:Str):Str:=eu (gi rows) rows.length x
def Px (rows:List cj) (x:Str):List (List Str×Str):=(uf rows (endOf rows x)).Pw.map fun m=>(m.1,endOf rows m.2)
theorem RT.Ej {H:Hp} {a:Addr} {xs:List V} {rows:List cj} {ns ws:List Str} (rt:RT H a xs rows ns ws) (hw:∀ z∈ws,Wd z) {x:Str} (hx:x∈ns):endOf rows x∈ns/\(uf rows (endOf rows x)).nx=none/\(uf rows (endOf rows x)).ok ns:=by
 obtain ⟨rs,g,nm,rl,hv⟩:=rt.good hw
 have hm:∀ z,z∈ns↔z∈rs.map (·.1):=fun z=>by rw [nm];exact rt.nm.mem_iff.symm
 obtain ⟨h1,h2⟩:=g.Ej ((hm x).mp hx)
 rw [rl] at h1 h2
 refine ⟨(hm _).mpr h1,h2,?_⟩
 have h3:endOf rows x∈rows.map (·.1):=by rw [<- nm];exact h1
 obtain ⟨r,hr,e⟩:=List.mem_map.mp h3
 rw [<- e,eE rt.As hr]
 exact (rt.ok r hr).2
structure JN (K:QZ) (t:Addr×Obj×List V):Prop where
 lk:K.lookup t.1=some t.2.1
 ok:∃ (its:List Value) (n:Nat),t.2.1.cls=.type "tuple"/\t.2.1.dict=none/\t.2.1.data=.seq its.toArray n/\au t.2.2 its/\t.2.2.length<=sizeLine
def without (K:QZ) (as:List Addr):QZ:=K.filter fun p=> !as.contains p.1
theorem cQ {as:List Addr} {b:Addr}:∀ {K:QZ},(without K as).lookup b=if as.contains b=true then none else K.lookup b
 | []=>by unfold without;simp
 | (c,o)::K=>by
  have ih:=cQ (as:=as) (b:=b) (K:=K)
  unfold without at ih ⊢
  rw [List.filter_cons]
  by_cases hc:as.contains c=true
  ·have h0:¬(!as.contains (c,o).1)=true:=by show ¬(!as.contains c)=true;rw [hc];decide
   rw [if_neg h0,ih]
   by_cases hb:as.contains b=true
   ·rw [if_pos hb,if_pos hb]
   ·have n:(b==c)=false:=by
     cases e:b==c with
     | false=>rfl
     | true=>rw [eq_of_beq e] at hb;exact absurd hc hb
    rw [if_neg hb,if_neg hb,List.lookup_cons,n]
  ·have h0:(!as.contains (c,o).1)=true:=by
    show (!as.contains c)=true
    cases q:as.contains c with
    | true=>exact absurd q hc
    | false=>rfl
   rw [if_pos h0,List.lookup_cons,List.lookup_cons,ih]
   cases e:b==c with
   | true=>
    have:¬as.contains b=true:=by rw [eq_of_beq e];exact hc
    show some o=if as.contains b=true then none else some o
    rw [if_neg this]
   | false=>rfl
def JO (H:Hp):Prop:=∀ b,H b=none\/∃ o u,H b=some (.h_ o u)
def gx (ts:List (Addr×Obj×List V)) (G:Hp):Hp:=fun b=>match ts.find? fun t=>decide (t.1=b) with
 | some t=>some (.h_ t.2.1 (.tup t.2.2))
 | none=>G b
theorem wZ {ts:List (Addr×Obj×List V)} {G:Hp} {t:Addr×Obj×List V} (h:t∈ts) (nd:(ts.map (·.1)).Nodup):gx ts G t.1=some (.h_ t.2.1 (.tup t.2.2)):=by
 induction ts with
 | nil=>cases h
 | cons a ts ih=>
  unfold gx
  rw [List.find?_cons]
  rw [List.map_cons,List.nodup_cons] at nd
  by_cases e:a.1=t.1
  ·rw [decide_eq_true e]
   rcases Qp.mp h with rfl | h
   ·rfl
   ·exact absurd (List.mem_map.mpr ⟨t,h,e.symm⟩) nd.1
  ·rw [Qw e]
   rcases Qp.mp h with rfl | h
   ·exact absurd rfl e
   ·exact ih h nd.2
theorem dM {ts:List (Addr×Obj×List V)} {G:Hp}:(∃ t∈ts,t.1=b/\gx ts G b=some (.h_ t.2.1 (.tup t.2.2)))\/((∀ t∈ts,t.1≠b)/\gx ts G b=G b):=by
 unfold gx
 cases q:ts.find? fun t=>decide (t.1=b) with
 | some t=>
  have h1:=List.mem_of_find?_eq_some q
  have h2:=List.find?_some q
  exact .inl ⟨t,h1,Qt h2,rfl⟩
 | none=>
  refine .inr ⟨fun t ht e=>?_,rfl⟩
  have:=List.find?_eq_none.mp q t ht
  simp [e] at this
theorem uP {K:QZ} {mb:Str->Option Value} {CX:om} {k:Nat} {fa:Addr} {s₁:Shared} {vs:List Value} {ns:List Int} {ts:List (Addr×Obj×List V)}
  (xu:∀ t∈ts,JN K t) (nd:(ts.map (·.1)).Nodup)
  (KX:K.In s₁.heap) (JP:s₁.heap.Ns mainGlobals mg) (hb:s₁.heap.Ns builtinsNs mb) (Py:∀ x:Str,x≠"__name__"->mb x=bootBuiltins x) (Pz:s₁.heap.NoLimit) (hg:s₁.gens=#[])
  (ha:s₁.heap.get? a=some {cls:=.type "list",data:=.seq vs.toArray}) (hi:IntsAre vs ns) (hl:ns.length<=sizeLine) (hr:cy k callerA)
  (F:∀ base:Heap,(without K (ts.map (·.1))).In base->base.Ns mainGlobals mg->jl P w (without K (ts.map (·.1))) mg base CX k fa fd [x] sp) (PB:∀ (s:Shared) (u:Value),BindsTo s fd ⟨[u],[]⟩ [(x,u)])
  (vg:∀ H:Hp,JO H->(∀ t∈ts,H t.1=some (.h_ t.2.1 (.tup t.2.2)))->ai (without K (ts.map (·.1))) H a (ns.map V.int)->sp [.ref a] H (fun v _=>v=.bl true) fun _ _ _=>False)
  (PC:∀ H e s',CX [] H s₁ (fun _ _ _=>False) e s'->False):
  codeAny (model P w) callerA (.call (.ref fa) ⟨[.ref a],[]⟩) (fun r s'=>r=.ok (.ret (.bool true))/\OldK s₁.heap s'.heap/\s'.os=s₁.os/\AllBare s'.gens) s₁:=by
 have rv:=mP hi
 have PF:=hi.length
 have Gs:∀ t∈ts,s₁.heap.get? t.1=some t.2.1:=fun t ht=>KX _ _ (xu t ht).lk
 have JQ:∀ t∈ts,t.1≠a:=fun t ht e=>by
  obtain ⟨its,n,h1,_⟩:=(xu t ht).ok
  have:=Gs t ht
  rw [e,ha] at this
  rw [<- QD this] at h1
  injection h1 with h2
  exact absurd h2 (by decide)
 have core:∀ G:Hp,(∀ b,G b≠none->b=a)->(G a≠none->K.lookup a=none)->(∀ b,G b=none\/∃ o u,G b=some (.h_ o u))->ai (without K (ts.map (·.1))) (gx ts G) a (ns.map V.int)->(∀ u,G a=some u->∀ H,bx P w H s₁.heap a u)->
   codeAny (model P w) callerA (.call (.ref fa) ⟨[.ref a],[]⟩) (fun r s'=>r=.ok (.ret (.bool true))/\OldK s₁.heap s'.heap/\s'.os=s₁.os/\AllBare s'.gens) s₁:=by
  intro G hG hK hF hS hO
  have A9:∀ b,gx ts G b≠none->b=a\/∃ t∈ts,t.1=b:=fun b q=>by
   rcases dM (ts:=ts) (G:=G) (b:=b) with ⟨t,ht,e,_⟩ | ⟨_,e⟩
   ·exact .inr ⟨t,ht,e⟩
   ·rw [e] at q;exact .inl (hG b q)
  have h_:JO (gx ts G):=fun b=>by
   rcases dM (ts:=ts) (G:=G) (b:=b) with ⟨t,ht,e,q⟩ | ⟨_,q⟩
   ·exact .inr ⟨_,_,q⟩
   ·rw [q];exact hF b
  have hok:bw P w (gx ts G) s₁.heap:=fun b u q=>by
   rcases dM (ts:=ts) (G:=G) (b:=b) with ⟨t,ht,e,q'⟩ | ⟨_,q'⟩
   ·rw [q'] at q
    cases q
    obtain ⟨its,n,h1,h2,h3,h4,h5⟩:=(xu t ht).ok
    have o1:=Gs t ht
    rw [e] at o1
    exact ⟨o1,⟨h5,fun o z=>by rw [o1] at z;cases z;exact h2⟩,its,h4,t.2.1,o1,h1,n,h3⟩
   ·rw [q'] at q
    have e:=hG b (by rw [q];simp)
    subst e
    exact hO u q _
  have JR:∀ {b:Addr} {o:Obj},s₁.heap.get? b=some o->gx ts G b=none->(wz s₁.heap (gx ts G)).get? b=some o:=fun e n=>xG e n
  have Cv:∀ {b:Addr} {o:Obj} {es:Array DictEntry} {ep:Nat},s₁.heap.get? b=some o->o.data=.dict es ep->gx ts G b=none:=fun {b o es ep} e d=>by
   cases q:gx ts G b with
   | none=>rfl
   | some u=>
    rcases A9 b (by rw [q];simp) with z | ⟨t,ht,z⟩
    ·subst z
     rw [ha] at e;cases e
     cases d
    ·have o1:=Gs t ht
     rw [z,e] at o1
     cases o1
     obtain ⟨its,n,h1,h2,h3,_⟩:=(xu t ht).ok
     rw [d] at h3;cases h3
  have En:∀ {b:Addr} {m:Str->Option Value},s₁.heap.Ns b m->(wz s₁.heap (gx ts G)).Ns b m:=fun {b m} ⟨o,es,ep,e,d,r⟩=>⟨o,es,ep,JR e (Cv e d),d,r⟩
  have JS:(without K (ts.map (·.1))).In (wz s₁.heap (gx ts G)):=fun b o e=>by
   rw [cQ] at e
   by_cases hc:(ts.map (·.1)).contains b=true
   ·rw [if_pos hc] at e;cases e
   ·rw [if_neg hc] at e
    refine JR (KX b o e) ?_
    cases q:gx ts G b with
    | none=>rfl
    | some u=>
     rcases dM (ts:=ts) (G:=G) (b:=b) with ⟨t,ht,z,_⟩ | ⟨_,q'⟩
     ·exact absurd (by rw [List.contains_iff_mem];exact List.mem_map.mpr ⟨t,ht,z⟩) hc
     ·rw [q'] at q
      have z:=hG b (by rw [q];simp)
      subst z
      rw [hK (by rw [q];simp)] at e;cases e
  have hM:Mod (without K (ts.map (·.1))) mg (wz s₁.heap (gx ts G)):=⟨JS,En JP,⟨mb,En hb,Py⟩,let ⟨mc,h1,h2⟩:=Pz;⟨mc,En h1,h2⟩⟩
  have e0:Ad P w (without K (ts.map (·.1))) mg (wz s₁.heap (gx ts G)) callerA [] s₁ (gx ts G):=⟨rfl,hM,fun b o e=>zD e,Nat.le_of_eq (u3 _ _),trivial,fun b hb=>absurd (show b∈([]:List Addr) from hb) (by simp),hok,.of_eq hg⟩
  refine codeAny_mono ((F _ JS (En JP)).run callerA [] s₁ (gx ts G) ⟨[.ref a],[]⟩ [.ref a] [.ref a] _ _ hr e0 (PB s₁ (.ref a)) (.cons rfl .nil) (vg (gx ts G) h_ (fun t ht=>wZ ht nd) hS)) fun r s' h=>?_
  cases r with
  | error e=>exact (PC _ e s' h).elim
  | ok fl=>
   cases fl with
   | next=>exact False.elim h
   | brk=>exact False.elim h
   | cont=>exact False.elim h
   | ret u=>
    obtain ⟨v,H',os,bare,un,Au,r',q⟩:=h
    have q':v=.bl true:=q
    subst q'
    obtain rfl:u=Value.bool true:=r'
    refine ⟨rfl,OldK.of_keep fun b o e=>?_,os,bare⟩
    cases q:gx ts G b with
    | none=>exact un.keep b o e q (by intro z;exact absurd (show b∈([]:List Addr) from z) (by simp)) (by simp)
    | some u=>
     rcases h_ b with z | ⟨ob,u',z⟩
     ·rw [q] at z;cases z
     ·have z2:=un.jv b ob _ z
      obtain ⟨e1,_⟩:=hok b _ z
      obtain ⟨e2,_⟩:=Au b _ z2
      rw [e] at e1;cases e1
      exact e2
 have PJ:¬(ts.map (·.1)).contains a=true:=fun h=>by
  rw [List.contains_iff_mem] at h
  obtain ⟨t,ht,e⟩:=List.mem_map.mp h
  exact JQ t ht e
 have PK:∀ G:Hp,gx ts G a=G a:=fun G=>by
  rcases dM (ts:=ts) (G:=G) (b:=a) with ⟨t,ht,e,_⟩ | ⟨_,q⟩
  ·exact absurd e (JQ t ht)
  ·exact q
 cases hk:K.lookup a with
 | some o=>
  have e:=KX a o hk
  rw [ha] at e
  cases e
  exact core (fun _=>none) (fun b z=>absurd rfl z) (fun z=>absurd rfl z) (fun _=>.inl rfl) (.inr ⟨_,vs.toArray,_,by rw [cQ,if_neg PJ];exact hk,rfl,rfl,rfl,by rw [List.size_toArray,PF];exact hl,by simpa using rv⟩) fun u z=>by cases z
 | none=>
  refine core (fun b=>if b=a then some (.h_ {cls:=.type "list",data:=.seq vs.toArray} (.lst (ns.map V.int))) else none) (fun b z=>?_) (fun _=>hk) (fun b=>?_) (.inl (.inr ⟨{cls:=.type "list",data:=.seq vs.toArray},by rw [PK];exact if_pos rfl⟩)) fun u z H=>?_
  ·by_cases hb:b=a
   ·exact hb
   ·exact absurd (if_neg hb) z
  ·by_cases hb:b=a
   ·exact .inr ⟨_,_,if_pos hb⟩
   ·exact .inl (if_neg hb)
  ·have z':=(if_pos rfl).symm.trans z
   cases z'
   exact ⟨ha,by rw [Ql];exact hl,vs,_,rv,ha⟩
def adr (mg:Str->Option Value) (x:Str):Addr:=match mg x with
 | some (.ref a)=>a
 | _=>0
theorem fu.same {ys:List V} (h:fu H b ys) (s:aa H H'):fu H' b ys:=h.imp (fun e=>s _ _ e) fun ⟨o,e⟩=>⟨o,s _ _ e⟩
section
variable {iter kx vx:Expr} {pos:Pos} {tc:TC} {tk tw:TE}
end
section
variable {o value:Expr} {ta tv:TE} {f:Str} {pos p:Pos} {k:Nat}
end
theorem yQ {kvs:List (Key×V)} {vs:List (Key×Value)} (r:KV kvs vs):∀ {i:Nat} {p:Key×V},kvs[i]? =some p->∃ q,vs[i]? =some q/\q.1=p.1/\RelV p.2 q.2:=by
 intro i
 induction r generalizing i with
 | nil=>intro p h;simp at h
 | cons a t ih=>
  intro p h
  cases i with
  | zero=>simp at h;subst h;exact ⟨_,by simp,a.1.symm,a.2⟩
  | succ i=>simp at h;simpa using ih h
section
variable {k:Nat} {ve:Pos} {o:Expr}
end
end L2
namespace PySem
end PySem
namespace L2
open PySem PySem.Spec PyProof.Rows
theorem fu.inj {xs ys:List V} (h:fu H a xs) (h':fu H a ys):xs=ys:=by
 rcases h with h | ⟨o,h⟩<;>rcases h' with h' | ⟨o',h'⟩<;>(rw [h] at h';cases h')<;>rfl
section
variable {o:Expr}
end
theorem rQ {K:QZ} {as:List Addr} (x:K.In h):(without K as).In h:=fun a o e=>by
 rw [cQ] at e
 by_cases hc:as.contains a=true
 ·rw [if_pos hc] at e;cases e
 ·rw [if_neg hc] at e;exact x a o e
theorem zM {J:It} {ok:Hp->Prop} {item:Nat->V} {tc:TC} {tk tw:TE} {τ0:St} {D:Addr} {Q:Hp->Prop} (hJ:Br J ok n item) (Pv:Nat->St->Hp->Prop) (h0:Pv 0 τ0 H0)
  (hok:∀ i τ H,i<=n->Pv i τ H->ok H)
  (hs:∀ i τ H,i < n->Pv i τ H->g (item i) τ H fun τ2 H2=>tc τ2 H2 fun b H3=>if b=true then tk τ2 H3 fun x H4=>tw τ2 H4 fun y H5=>∃ kvs key,x=kV key/\H5 D=some (.dK kvs)/\kvs.length < sizeLine/\Pv (i+1) τ2 (upd H5 D (.dK (putK kvs key y))) else Pv (i+1) τ2 H3)
  (hd:∀ τ H,Pv n τ H->Q H):∃ W:Nat->Nat->St->Hp->Prop,(∃ m,W 0 m τ0 H0)/\∀ i m τ H,W i m τ H->
   (J.stop i H/\Q H)\/(J.go i H/\∃ N:St->Hp->Prop,(∀ τ' H',N τ' H'->∃ m',m' < m/\W (i+1) m' τ' H')/\∀ x H',J.mr i H x H'->g x τ H' fun τ2 H2=>tc τ2 H2 fun b H3=>
    if b=true then tk τ2 H3 fun x H4=>tw τ2 H4 fun y H5=>∃ kvs key,x=kV key/\H5 D=some (.dK kvs)/\kvs.length < sizeLine/\N τ2 (upd H5 D (.dK (putK kvs key y))) else N τ2 H3):=by
 refine ⟨fun i m τ H=>m=n - i/\i<=n/\Pv i τ H,⟨n,by simp,Nat.zero_le _,h0⟩,?_⟩
 rintro i m τ H ⟨rfl,hi,p⟩
 obtain ⟨k1,k2⟩:=hJ H (hok i τ H hi p)
 by_cases bz:i < n
 ·refine .inr ⟨(k1 i bz).1,Pv (i+1),fun σ' H' p'=>⟨n - (i+1),by omega,rfl,bz,p'⟩,fun x H' y=>?_⟩
  obtain ⟨e,e2⟩:=(k1 i bz).2 x H' y
  subst e e2
  exact hs i τ _ bz p
 ·have e:i=n:=by omega
  subst e
  exact .inl ⟨k2,hd τ H p⟩
theorem mX:∀ {ws:List Str},rising ws=true->ws.Pairwise (fun a b=>qj a b=true)
 | [],_=>.nil
 | [_],_=>List.pairwise_singleton _ _
 | a::b::r,h=>by
  have h':qj a b=true/\rising (b::r)=true:=by simpa [rising] using h
  have ih:=mX h'.2
  refine List.pairwise_cons.mpr ⟨fun c hc=>?_,ih⟩
  rcases Qp.mp hc with rfl | hc
  ·exact h'.1
  ·exact pK h'.1 ((List.pairwise_cons.mp ih).1 c hc)
theorem o6 (h:rising ws=true):ws.Nodup:=(mX h).imp fun {x y} h e=>by rw [e,oR] at h;cases h
def Hd.cf:Hd->Str
 | .one s=>s
 | .as _=>"as"
 | .way _ _=>"way"
 | .prs s _=>s
theorem HV.cf {H:Hp} {v:V} {h:Hd} (q:HV H v h):∃ b ys,v=.ref b/\H b=some (.tup (.str h.cf::ys)):=by
 cases q with
 | one e=>exact ⟨_,_,rfl,e⟩
 | as e=>exact ⟨_,_,rfl,e⟩
 | way e=>exact ⟨_,_,rfl,e⟩
 | prs e _ _=>exact ⟨_,_,rfl,e⟩
def Sx (x:Addr) (H H':Hp):Prop:=∀ b o,b≠x->H b=some o->H' b=some o
theorem Sx.upd {x:Addr} {H:Hp} {o:HO}:Sx x H (upd H x o):=fun c u n h=>by rw [aK n];exact h
section
variable {xs:List V} {rows:List cj}
end
def Gu (K:QZ):R2:=fun x y H Q=>∃ a b xs ys,x=.ref a/\y=.ref b/\ae K H a xs/\ae K H b ys/\xs.length+ys.length<=sizeLine/\(xs=[]->Q (.ref b) H)/\
 (xs≠[]->ys=[]->Q (.ref a) H)/\(xs≠[]->ys≠[]->∀ p,H p=none->Q (.ref p) (upd H p (.tup (xs++ys))))
theorem yK (K:QZ) (h:X.K=K:=by rfl):br X (binaryOp .Add) (Gu K):=by
 subst h
 intro pins s σ H x y v u Q I rx ry h
 obtain ⟨a,b,xs,ys,rfl,rfl,ha,hb,hz,q0,q1,q2⟩:=h
 by_cases hx:xs=[]
 ·cases rx
  cases ry
  obtain ⟨its,r1,p1,_⟩:=I.tuple ha
  obtain ⟨its2,r2,p2,_⟩:=I.tuple hb
  have hi:its=[]:=r1.yo.mpr hx
  obtain ⟨⟨cls,dd,data,sl⟩,ho,hc,n,hd⟩:=id p1
  obtain ⟨⟨FH,k_,data2,lg⟩,iq,ie,n2,hd2⟩:=id p2
  simp only at hc hd ie hd2
  subst hc hd ie hd2
  exact concat_meets ⟨_,ho,rfl⟩ ⟨_,iq,rfl⟩ noFill_tuple_add seq_tuple_add PySem.F.slot_tuple_add PySem.F.entry_tuple_add (PySem.F.args_tuple_add_2 _ _)
   (tuple_addW0 a b its.toArray its2.toArray n n2 dd k_ sl lg (by simp [hi])) ⟨ho,iq,⟨.ref b,H,I,rfl,q0 hx⟩⟩
 ·exact tR pins s σ H _ _ v u Q I rx ry ⟨a,b,xs,ys,rfl,rfl,ha,hb,hx,hz,q1 hx,q2 hx⟩
theorem JT {K:QZ} {xs ys:List V} {Q:VK} (ha:H a=some (.tup xs)) (hb:H b=some (.tup ys)) (hz:xs.length+ys.length<=sizeLine) (h:∀ p H',aa H H'->H' p=some (.tup (xs++ys))->Q (.ref p) H'):Gu K (.ref a) (.ref b) H Q:=by
 refine ⟨a,b,xs,ys,rfl,rfl,ae.of ha,ae.of hb,hz,fun e=>?_,fun _ e=>?_,fun _ _ p hp=>?_⟩
 ·subst e;exact h b H (aa.refl _) hb
 ·subst e;exact h a H (aa.refl _) (by rw [QQ];exact ha)
 ·exact h p _ (aa.upd hp _) aA
theorem tD {k:Nat} (hr:cy k A):A.units+20 < cLine:=by have:=hr.un;omega
section
variable {it d:Addr} {ep:Nat} {od:Obj} {es:Array DictEntry} {ok ov:Value} {Q:Option Value->Shared->Prop}
end
section
variable {k:Nat} {ve:Pos} {o:Expr}
end
section
variable {o:Expr}
end
def JU (K:QZ):List V->Hp->VK->Prop:=fun xs H Q=>match xs with
 | [.ref p]=>∃ ns:List Int,ai K H p (ns.map V.int)/\Q (.int ns.sum) H
 | _=>False
theorem kA (ns:List Int):∀ k,k<=ns.length->PySem.preSum (fun i=>ns.getD i 0) k=(ns.take k).sum
 | 0,_=>rfl
 | k+1,h=>by
  have ih:=kA ns k (by omega)
  show PySem.preSum _ k+ns.getD k 0=_
  rw [ih,Qs,Qa h,List.sum_append,Qb,Qa h]
  simp
theorem uA (K:QZ) (hc:X.calm=true) (h:X.K=K:=by rfl):jx X (.builtin "sum") (JU K):=by
 subst h
 intro pins s σ H xs us Q I r h
 unfold JU at h
 split at h
 ·next p=>
  obtain ⟨ns,hq,q⟩:=h
  obtain ⟨u,rfl,ru⟩:=r.one
  cases ru
  obtain ⟨its,rv,pl,hz⟩:=I.list hq
  have hl:=rv.length
  rw [Ql] at hl
  have bz:p < s.heap.objs.size:=by obtain ⟨_,e,_⟩:=pl.isList;exact Qz e
  refine call_sum_walkAnyS (wpAny_pyIter_list pl.isList ?_)
  refine ⟨s.heap.objs.size,[s.heap.objs.size,p],[s.heap.objs.size],_,its.toArray.size,_,_,fun i=>ns.getD i 0,rfl,(Walks.list (A:=X.A.in1) (I.ok.hd hc) _ p (Nat.ne_of_lt bz) _).toS,
   ⟨⟨_,Qd _ rfl,rfl,rfl⟩,pl.isList.push _⟩,fun b hb=>?_,fun i v hP=>?_,fun s' t' mv=>?_⟩
  ·simp only [Qp,QA,or_false] at hb
   show b < (s.heap.push _).objs.size
   rw [Heap.size_push]
   rcases hb with rfl | rfl
   ·exact Nat.lt_succ_self _
   ·exact Nat.lt_succ_of_lt bz
  ·have JV:its[i]? =some v:=by simpa using hP
   have hi:i < its.length:=(List.getElem?_eq_some_iff.mp JV).1
   obtain ⟨u,h1,h2⟩:=rv.get (i:=i) (x:=.int (ns.getD i 0)) (by rw [Qq,Qa (by omega),Qb,Qa (by omega)];rfl)
   rw [JV] at h1
   cases h1
   exact h2
  ·have e:PySem.preSum (fun i=>ns.getD i 0) its.toArray.size=ns.sum:=by
    rw [List.size_toArray,<- hl,kA ns ns.length (Qy _),List.take_length]
   rw [e]
   obtain ⟨Jr,g',d',Eg,IX⟩:=s'
   obtain ⟨m1,m2,m3,m4,m5⟩:=mv
   simp only at m1 m2 m3 m4 m5
   subst m2 m3 m4
   refine ⟨.int ns.sum,H,I.kept (t':=Eg) fun b o e=>m1 b o (fun hm=>?_) (Qc _ e),⟨_,rfl⟩,q⟩
   rw [List.mem_singleton.mp hm] at e
   exact Nat.lt_irrefl _ (Qz e)
 ·exact h.elim
theorem Paired.at {β:Type} {R:α->β->Prop} {xs:List α} {ys:List β} (h:Paired R xs ys):∀ i (h1:i < xs.length) (h2:i < ys.length),R xs[i] ys[i]:=by
 induction h with
 | nil=>intro i h1;exact absurd h1 (by simp)
 | cons a _ ih=>
  intro i h1 h2
  cases i with
  | zero=>exact a
  | succ i=>exact ih i (by simpa using h1) (by simpa using h2)
section
variable {t1 i1 t2 i2 elt:Expr} {tc:TC} {pos:Pos} {Pj:TI} {g2:TG}
end
section
variable {it d:Addr} {ep:Nat} {od:Obj} {es:Array DictEntry} {Q:Option Value->Shared->Prop}
end
section
variable {o:Expr}
end
section
variable {a:Expr} {p p2 pos Vs:Pos}
end
theorem PL {pos:Pos}:SS X (.Continue pos) IC:=⟨qM⟩
abbrev Road:=List (List Str)
section
variable {xs:List V} {rows:List cj}
end
section
variable {pos:Pos}
theorem qL {op:Operator} {ti:Co} (hN:X.N.Nodup) (hi:X.N[i]? =some x) (hx:Loc X.env.scope x) (he:SE X e te) (ho:DN X op ti) (hf:X.fn x=true\/X.env.scope.names.lookup x=some .local:=by first | exact .inl rfl | exact .inr rfl | assumption):
  SS X (.AugAssign (.Name x pos') op e pos) (II i te ti):=⟨MP hN hi hx he.h ho hf⟩
theorem xU {o:Expr} {td ty:TE} (hu:X.A.units+1 < cLine) (ho:SE X o td) (he:SE X e ty) (m:M1 X o "get" apos e cpos):SE X (.Call (.Attribute o "get" apos) [e] [] cpos) (Jm td ty):=⟨wK hu ho.h he.h m⟩
theorem zP (K:QZ) {o:Expr} {id:String} {r:V->List V->Hp->VK->Prop} (pa:PlainAttrs T) (slot:Slot T name id) (xh:typeOf (.builtin id)=pure (.type "method_descriptor")) (hm:Ag X id r) (ho:SE X o to) (h:X.K=K:=by rfl)
  (xj:attributeBase o name X.env (eval o X.env)=eval o X.env:=by rfl) (xn:(apos.endLine==cpos.line)=true:=by rfl):SE X (.Call (.Attribute o name apos) [] [] cpos) (Jf K T r to):=by
 subst h;exact ⟨Nz pa slot xh hm ho.h xj xn⟩
def PM (K:QZ) (ta:TE):TT:=fun σ H Q=>ta σ H fun x H'=>∃ k,FG K x H' k/\Q k H'
theorem t9 (K:QZ) {a:Expr} {ta:TE} (ha:SE X a ta) (h:X.K=K:=by rfl) (he:∀ whole,isTrue a X.env whole=(do let v <- whole;standAt a.pos;holding [v] (truthy v)):=by intro _;rfl):ST X a (PM K ta):=by
 subst h;exact ⟨wV ha.h he⟩
end
abbrev Eo:=List (Str×Option (Str×List Str))
def PN (row:Str) (cb:Eo) (ms:List (List Str×Str)):Eo:=ms.foldl (fun cb m=>if m.2∈cb.map (·.1) then cb else cb++[(m.2,some (row,m.1))]) cb
def Bx (rows:List cj) (f:Str):Nat->Eo
 | 0=>[(f,none)]
 | i+1=>match (Bx rows f i)[i]? with
  | none=>Bx rows f i
  | some c=>PN c.1 (Bx rows f i) (Px rows c.1)
theorem mM:∀ {l m:List Str},l.Nodup->(∀ x∈l,x∈m)->l.length<=m.length
 | [],m,_,_=>Nat.zero_le _
 | a::l,m,nd,h=>by
  have ha:=h a List.mem_cons_self
  have h1:=mM (l:=l) (m:=m.erase a) (List.nodup_cons.mp nd).2 fun x hx=>(List.mem_erase_of_ne (show x≠a from fun z=>(List.nodup_cons.mp nd).1 (by rw [<- z];exact hx))).mpr (h x (Qh _ hx))
  rw [List.length_erase_of_mem ha] at h1
  have hp:=List.length_pos_of_mem ha
  rw [List.length_cons]
  omega
section
variable {iter kx vx:Expr} {tc:TC} {pos:Pos} {tk tw:TE}
theorem JW {py spos:Pos} (S:qf X.env.scope X.N sc own idx N') (hc:X.calm=true) (hi:SI X tg iter wi)
  (hg:∀ cl C s3 H0 fp pn,SG (dz X N' sc cl C s3 H0 fp pn) tg g) (ht:∀ cl C s3 H0 fp pn,SC (dz X N' sc cl C s3 H0 fp pn) ifs tc) (he:∀ cl C s3 H0 fp pn,SE (dz X N' sc cl C s3 H0 fp pn) kx tk) (hv:∀ cl C s3 H0 fp pn,SE (dz X N' sc cl C s3 H0 fp pn) vx tw)
  (hN:X.N.Nodup) (CF:X.N[i]? =some y) (hy:X.env.scope.names.lookup y=some .local)
  (xq:swapsWith (.DictComp kx vx [⟨tg,iter,ifs,0⟩] sc pos) (some (.Name y py)) spos.line X.env=pure true:=by rfl)
  (hs:∀ x,foldedSetIterable iter X.env x=pure x:=by intro _;rfl):SS X (.Assign [.Name y py] (.DictComp kx vx [⟨tg,iter,ifs,0⟩] sc pos) spos) (s_ (OO own idx wi g tc tk tw) (jd i)):=by
 constructor
 intro pins s σ H D I h
 obtain ⟨cl,oq,c1,c2⟩:=S.closure I.ok
 rw [exec_Assign_Name_used _ _ _ _ xq]
 refine QS (wpAny_standAt (QS ?_))
 show wpAny _ X.A (do let _ <- comprehension (.DictComp kx vx [⟨tg,iter,ifs,0⟩] sc pos) sc X.env _ newDict false (eval iter X.env) (some (assign (.Name y py) X.env))) _ _ s
 refine QS (wpAny_mono (wpAny_comprehension_free (use:=some (assign (.Name y py) X.env)) (Q:=fun _ s'=>SP X pins D .next s') rfl hs oq S.kind S.names
  (aq (hi.h pins s σ H _ I h) fun v s1 h1=>aq h1 fun mw s2 h2=>?_)) (fun _ s' hq=>QT (QT hq)) fun _ _ e=>e)
 refine qC (Q:=fun x H1=>jd i x σ H1 D.nx) (pins:=pins) (σ:=σ) (RR:=fun acc C=>compPost (model X.prog X.w) X.A X.xe (some (assign (.Name y py) X.env)) (fun _ s'=>SP X pins D .next s') acc C) S c1 c2 hc (fun q r s t u v=>(hg q r s t u v).h) (fun q r s t u v=>(ht q r s t u v).h) (fun q r s t u v=>(he q r s t u v).h) (fun q r s t u v=>(hv q r s t u v).h) h2 ?_
 intro D' C H' s' I' q ⟨a1,a2,a3,a4,a5,m,a6⟩
 show wpAny _ X.A (assign (.Name y py) X.env (.ref D')) _ _ _
 refine wpAny_assign_Name (gZ (v:=.ref D') I' hN CF (.inl hy) rfl (fun s'' F2 ⟨a,sb,ha⟩=>?_) (.inr hy))
 have F3:C≠a:=by
  rcases ha with z | z
  ·rw [z];exact a2
  ·exact Ne.symm (a4 _ _ z)
 refine ⟨m,a6.sameBut sb F3,fun h' Bq=>⟨_,H',F2.turned (t':=s''.toks) (fun b o hb e=>(Bq.2 b hb).trans e) a1 a2 (.inr a3) a4 a5,q⟩⟩
end
def hv (hs:List (Str×Nat)) (y:Str):Nat:=((hs.find? fun q=>decide (q.1=y)).map (·.2)).getD 0
section
variable {o:Expr} {p PP:Pos}
end
section
variable {o f:Expr} {td ty tx:TE}
end
abbrev LR:=List (Str×Road)
def PU (acc:LR) (r:Str):Road:=((acc.find? fun q=>decide (q.1=r)).map (·.2)).getD []
def JX (acc:LR):Option (Str×List Str)->Road
 | none=>[]
 | some q=>PU acc q.1++[q.2]
def Gv (cb:Eo):LR:=cb.foldl (fun acc c=>acc++[(c.1,JX acc c.2)]) []
end L2
namespace L2
open PySem PySem.Spec PyProof.Rows PySem.W
section
variable {o:Expr} {p PP:Pos}
end
theorem qS:∀ {us:List Value} {ss:List Str},us.length=ss.length->(∀ i (h1:i < us.length) (h2:i < ss.length),∃ t,us[i]=Value.str ss[i] t)->StrsAre us ss
 | [],[],_,_=>.nil
 | u::us,z::ss,hl,h=>by
  obtain ⟨t,e⟩:=h 0 (by simp) (by simp)
  simp only [List.getElem_cons_zero] at e
  subst e
  exact .cons z t (qS (by simpa using hl) fun i h1 h2=>by
   have:=h (i+1) (by simpa using h1) (by simpa using h2)
   simpa using this)
def PV:List V->Hp->VK->Prop:=fun xs H Q=>∃ (a:Addr) (kvs:List (Key×V)) (ks:List Str),xs=[.ref a]/\Rd H a (.dK kvs)/\kvs.map (·.1)=ks.map Sum.inr/\ks.length < 64/\
 ∀ l (ss':List Str),H l=none->ss'.Perm ks->Q (.ref l) (upd H l (.lst (ss'.map V.str)))
theorem oJ (hc:X.calm=true):jx X (.builtin "sorted") PV:=by
 intro pins s σ H xs us Q I r h
 obtain ⟨a,kvs,ks,rfl,hr,hks,Vt,q⟩:=h
 obtain ⟨u,rfl,ru⟩:=r.one
 cases ru
 obtain ⟨z,Ep,vs,rel,dd⟩:=iW I.hok hr
 obtain ⟨ob,es,ep,e,h2,Al,h4⟩:=id dd
 have e_:=rel.length
 have gj:kvs.length=ks.length:=by have:=congrArg List.length hks;simpa using this
 refine Calls.call_function_entry kind_sorted plain_sorted entry_sorted (args_sorted1 _) ?_
 unfold Builtin.«sorted»
 refine QS (m:=checkCount "sorted" 1 1 _) (QT ?_)
 refine QS (kdu_collect (A:=X.A.in1) (kdl_dict (knd:=fj X.prog X.w) (kvs:=vs) (ep:=ep) Ep) (I.ok.hd hc) ⟨ob,es,e,h2,Al,h4⟩ (by omega) fun h' tk acc hk hI=>?_)
 obtain ⟨Vu,hP⟩:=hI
 have PX:acc.toList.length=ks.length:=by simp;omega
 have hS:StrsAre acc.toList ks:=by
  refine qS PX fun i h1 h2=>?_
  obtain ⟨k,x,e1,e2⟩:=hP i acc.toList[i] (by rw [<- Array.getElem?_toList,Qa h1])
  obtain ⟨q',e3,e4,_⟩:=yQ rel (i:=i) (p:=kvs[i]'(by omega)) (Qa (by omega))
  rw [e1] at e3
  cases e3
  have e5:(kvs.map (·.1))[i]'(by rw [Ql];omega)=(ks.map (Sum.inr:Str->Key))[i]'(by rw [Ql];omega):=by simp only [hks]
  rw [Qr,Qr] at e5
  have e6:k=Sum.inr ks[i]:=(show k=(kvs[i]'(by omega)).1 from e4).trans e5
  rcases bP e2 with ⟨j,t,rfl,e⟩ | ⟨y,t,rfl,e⟩
  ·cases e6
  ·cases e6;exact ⟨t,e⟩
 have hsz:sizeLine=16777216:=QL
 refine QS (wpAny_newList ?_ (by omega))
 have Cm:(h'.push {cls:=.type "list",data:=.seq acc.toList.toArray}).get? h'.objs.size=some (seqObj "list" acc.toList.toArray 0):=Qd _ rfl
 refine QS (wpAny_holding (wpAny_call_entry slot_list_sort ⟨_,Cm,rfl⟩ entry_list_sort (list_sort_treeK strKind_oneLt Cm hS.keysOf (fun v₁ v₂ rest e=>keyKind_strs (by rw [<- e];exact hS)) (by omega) fun st' a1 a2=>⟨_,rfl,?_⟩) (args_list_sort _)))
 refine QT ⟨_,rfl,?_⟩
 obtain ⟨ss',b1,b2,b3⟩:=sorted_out_str hS a1 a2
 obtain ⟨ee,hL⟩:=sortedHeap_at (out:=(arrOf st').map (·.2)) Cm
 have I2:Inv X pins σ H {s with heap:=h',toks:=tk}:=I.kept (t':=tk) hk
 have hold:∀ b o,h'.get? b=some o->(sortedHeap (h'.push {cls:=.type "list",data:=.seq acc.toList.toArray}) h'.objs.size acc.toList ((arrOf st').map (·.2))).get? b=some o:=fun b o q'=>by
  rw [sortedHeap_old (Nat.ne_of_lt (Qz q')) (Qz (Qc _ q'))]
  exact Qc _ q'
 refine ⟨.ref h'.objs.size,_,I2.laid (t':=tk) (a:=h'.objs.size) (o:=.lst (ss'.map V.str)) hold (Qy _) ?_,rfl,q _ ss' (I2.hok.fresh (Qy _)) b2⟩
 refine ⟨?_,((arrOf st').map (·.2)).toList,ee,mY b1,?_⟩
 ·rw [Ql,b2.length_eq];omega
 ·rw [hL]
def PY:List V->Hp->VK->Prop:=fun xs H Q=>∃ (a:Addr) (kvs:List (Key×V)),xs=[.ref a]/\Rd H a (.dK kvs)/\∀ l,H l=none->Q (.ref l) (upd H l (.dK kvs))
theorem iI (hc:X.calm=true):jx X (.type "dict") PY:=by
 intro pins s σ H xs us Q I r h
 obtain ⟨a,kvs,rfl,hr,q⟩:=h
 obtain ⟨u,rfl,ru⟩:=r.one
 cases ru
 obtain ⟨z,Ep,vs,rel,dd⟩:=iW I.hok hr
 have e_:=rel.length
 refine kt_call_dict (knd:=fj X.prog X.w) (more:=vs) Ep dd (by omega) ?_
 intro h' hd hs
 have hk:∀ b o,s.heap.get? b=some o->h'.get? b=some o:=fun b o e=>hs.extBut _ _ (Nat.ne_of_lt (Qz e)) (Qc _ e)
 exact ⟨.ref s.heap.objs.size,_,I.laid (t':=s.toks) (a:=s.heap.objs.size) (o:=.dK kvs) hk (Qy _) ⟨z,beq_eq_false_iff_ne.mpr (Ne.symm (Nat.ne_of_lt I.big)),vs,rel,hd⟩,rfl,q _ (I.hok.fresh (Qy _))⟩
end L2
namespace L2
open PySem PySem.Spec PyProof.Rows
end L2
namespace L2
open PySem PySem.Spec PyProof.Rows HT
end L2
namespace L2
open PySem PySem.Spec PyProof.Rows
open AutoSeq1 (wpAny_loadPart')
theorem gA (l:Addr) (dat:Data) (dd:Option Addr) (sl:Array (Option Value)) (b:Str) (u:Tok):
  Meets (Builtin.«dict.__eq__» ⟨[.ref l,.str b u],[]⟩) (fun _ R s=>s.heap.get? l=some {cls:=.type "dict",dict:=dd,data:=dat,slots:=sl}/\R (.ok (.ret .notImplemented)) s):=
 .of_wp fun prog w A R s h=>by obtain ⟨hp,g,d,tk,os⟩:=s;obtain ⟨hl,h⟩:=h;have f1:=F.sub_str_dict;wp_walk using wpAny_loadPart' hl,wpAny_load hl;exact ⟨_,rfl,h⟩
theorem fG (l b:Addr) (dat:Data) (Av:Array Value) (n2:Nat) (dd k_:Option Addr) (sl lg:Array (Option Value)):
  Meets (Builtin.«dict.__eq__» ⟨[.ref l,.ref b],[]⟩) (fun _ R s=>s.heap.get? l=some {cls:=.type "dict",dict:=dd,data:=dat,slots:=sl}/\s.heap.get? b=some {cls:=.type "tuple",dict:=k_,data:=.seq Av n2,slots:=lg}/\R (.ok (.ret .notImplemented)) s):=
 .of_wp fun prog w A R s h=>by obtain ⟨hp,g,d,tk,os⟩:=s;obtain ⟨hl,hb,h⟩:=h;have f1:=F.sub_tuple_dict;wp_walk using wpAny_loadPart' hl,wpAny_load hl,wpAny_loadPart' hb,wpAny_load hb;exact ⟨_,rfl,h⟩
theorem f8 (l b:Addr) (dat:Data) (Av:Array Value) (n2:Nat) (dd k_:Option Addr) (sl lg:Array (Option Value)):
  Meets (Builtin.«tuple.__eq__» ⟨[.ref b,.ref l],[]⟩) (fun _ R s=>s.heap.get? l=some {cls:=.type "dict",dict:=dd,data:=dat,slots:=sl}/\s.heap.get? b=some {cls:=.type "tuple",dict:=k_,data:=.seq Av n2,slots:=lg}/\R (.ok (.ret .notImplemented)) s):=
 .of_wp fun prog w A R s h=>by obtain ⟨hp,g,d,tk,os⟩:=s;obtain ⟨hl,hb,h⟩:=h;have f1:=F.sub_dict_tuple;wp_walk using wpAny_loadPart' hl,wpAny_load hl,wpAny_loadPart' hb,wpAny_load hb;exact ⟨_,rfl,h⟩
theorem fU (l:Addr) (es:Array DictEntry) (ep:Nat) (dd:Option Addr) (sl:Array (Option Value)) (b:Str) (u:Tok):
  Meets (Builtin.«str.__eq__» ⟨[.str b u,.ref l],[]⟩) (fun _ R s=>s.heap.get? l=some {cls:=.type "dict",dict:=dd,data:=.dict es ep,slots:=sl}/\R (.ok (.ret .notImplemented)) s):=
 .of_wp fun prog w A R s h=>by obtain ⟨hp,g,d,tk,os⟩:=s;obtain ⟨hl,h⟩:=h;wp_walk using wpAny_loadPart' hl,wpAny_load hl;exact ⟨_,rfl,h⟩
theorem qJ {o:Obj} {es:Array DictEntry} {ep:Nat} (b:Str) (u:Tok) (ho:s.heap.get? l=some o) (hc:o.cls=.type "dict") (hd:o.data=.dict es ep) (hu:A.units < cLine):SeqAt.RcAt A s (.ref l) (.str b u) false:=fun prog w E Q h=>by
 obtain ⟨cls,dd,data,sl⟩:=o
 simp only at hc hd
 subst hc hd
 exact SeqAt.rc_eq_decline_or (k:=false) ⟨_,ho,rfl⟩ (typeIs_str s b u) (by decide) F.sub_str_dict F.slot_dict_eq F.slot_str_eq_refl
  (fun _ hq=>call_meets F.slot_dict_eq ⟨_,ho,rfl⟩ F.entry_dict_eq (F.args_dict_eq_2 _ _) (gA l (.dict es ep) dd sl b u) ⟨ho,hq⟩)
  (fun _ hq=>call_meets F.slot_str_eq_refl (typeIs_str s b u) F.entry_str_eq (F.args_str_eq_2 _ _) (fU l es ep dd sl b u) ⟨ho,hq⟩)
  (fun _ hq=>wpAny_of_eq (rfl:isSame (.ref l) (.str b u)=pure false) hq) (.inr hu) h
theorem qG {o:Obj} {es:Array DictEntry} {ep:Nat} (b:Str) (u:Tok) (ho:s.heap.get? l=some o) (hc:o.cls=.type "dict") (hd:o.data=.dict es ep) (hu:A.units < cLine):SeqAt.EqAt A s (.ref l) (.str b u) false:=fun prog w E Q h=>by
 unfold eqBool
 refine wpAny_holding ?_
 refine wpAny_ite_split (fun jz=>absurd (eq_of_beq jz) nofun) (fun _=>?_)
 exact QS (qJ b u ho hc hd hu prog w E _ (wpAny_truthy_bool h))
theorem mJ {o:Obj} {Av:Array Value} (ho:s.heap.get? l=some o) (hc:o.cls=.type "dict") (hb:s.heap.IsTuple b Av) (hu:A.units < cLine):l≠b/\SeqAt.RcAt A s (.ref l) (.ref b) false:=by
 obtain ⟨cls,dd,data,sl⟩:=o
 obtain ⟨⟨FH,k_,data2,lg⟩,iq,ie,n2,hd2⟩:=id hb
 simp only at hc ie hd2
 subst hc ie hd2
 have gh:l≠b:=fun e=>by
  subst e
  rw [ho] at iq
  have:=congrArg Obj.cls (QD iq)
  simp at this
 refine ⟨gh,fun prog w E Q h=>?_⟩
 exact (SeqAt.rc_eq_decline_or (k:=false) ⟨_,ho,rfl⟩ ⟨_,iq,rfl⟩ (by decide) F.sub_tuple_dict F.slot_dict_eq F.slot_tuple_eq_refl
  (fun _ hq=>call_meets F.slot_dict_eq ⟨_,ho,rfl⟩ F.entry_dict_eq (F.args_dict_eq_2 _ _) (fG l b data Av n2 dd k_ sl lg) ⟨ho,iq,hq⟩)
  (fun _ hq=>call_meets F.slot_tuple_eq_refl ⟨_,iq,rfl⟩ F.entry_tuple_eq (F.args_tuple_eq_2 _ _) (f8 l b data Av n2 dd k_ sl lg) ⟨ho,iq,hq⟩)
  (fun _ hq=>wpAny_isSame_ref_other gh ho iq (by simp) hq) (.inr hu) h)
def Dt.Er (z:Str):Dt->Bool
 | .str y=>y==z
 | _=>false
def Dt.PZ (z:Str):Dt->Bool
 | .tup [.str y]=>y==z
 | _=>false
theorem DD.P0 (I:Inv X pins σ H s) {x:V} {d:Dt} (h:DD H x d) (hu:A.units < cLine) {v:Value} (r:RelV x v) (z:Str) (t:Tok):SeqAt.EqAt A s v (.str z t) (d.Er z):=by
 cases h with
 | @str y h=>obtain ⟨t',rfl⟩:=(show ∃ t,v=Value.str y t from r);exact SeqAt.EqAt.str_str y t' z t
 | @tup a xs ds e hl hn hd=>
  cases (show v=Value.ref a from r)
  obtain ⟨i1,r1,p1,_⟩:=I.tuple (ae.of e)
  exact SeqAt.EqAt.tuple_str z t p1 hu
 | af=>cases (show v=Value.none from r);exact SeqAt.EqAt.none_str z t
 | bl b=>cases (show v=Value.bool b from r);exact SeqAt.EqAt.bool_str b z t
 | int i=>obtain ⟨t',rfl⟩:=(show ∃ t,v=Value.int i t from r);exact SeqAt.EqAt.int_str i t' z t
 | @lst a xs e=>
  cases (show v=Value.ref a from r)
  obtain ⟨_,its,n,rv,ho⟩:=(show bx X.prog X.w H s.heap a (.lst xs) from I.hok a _ e)
  exact SeqAt.EqAt.list_str z t ⟨_,ho,rfl,_,rfl⟩ hu
 | @dct a kvs e=>
  cases (show v=Value.ref a from r)
  obtain ⟨_,hd,vs,rel,o,es,ep,ho,hx,Al,hk,hp⟩:=pT I.hok e
  exact qG z t ho hx.1 Al hu
theorem DD.det {x:V} {d:Dt} (h:DD H x d):∀ {d'},DD H x d'->d=d':=by
 induction h with
 | str _=>intro d' h';cases h';rfl
 | tup e hl hn _ ih=>
  intro d' h'
  cases h' with
  | tup e' hl' hn' P1=>
   rw [e] at e'
   cases e'
   congr 1
   exact List.ext_getElem (by omega) fun i a b=>ih i (by omega) (by omega) (P1 i (by omega) (by omega))
  | lst e'=>rw [e] at e';cases e'
  | dct e'=>rw [e] at e';cases e'
 | af=>intro d' h';cases h';rfl
 | bl b=>intro d' h';cases h';rfl
 | int i=>intro d' h';cases h';rfl
 | lst e=>
  intro d' h'
  cases h' with
  | tup e'=>rw [e] at e';cases e'
  | lst e'=>rfl
  | dct e'=>rfl
 | dct e=>
  intro d' h'
  cases h' with
  | tup e'=>rw [e] at e';cases e'
  | lst e'=>rfl
  | dct e'=>rfl
theorem DD.inj {x x':V} {d d':Dt} (h:DD H x d) (h':DD H x' d') {v:Value} (r:RelV x v) (r':RelV x' v):d=d':=by
 have e:x=x':=r.inj r'
 subst e
 exact h.det h'
def Gw (h:Dt):Dt:=if h.PZ "hole" then .tup [.str "all"] else h
def Es:Dt->Dt | .tup [a,h]=>.tup [a,Gw h] | d=>d
theorem DD.Gx {x y:V} {dx dy:Dt} (e:H b=some (.tup [x,y])) (h1:DD H x dx) (h2:DD H y dy):DD H (.ref b) (.tup [dx,dy]):=.tup e rfl (by simp) fun i a b=>by
 match i,a with
 | 0,_=>exact h1
 | 1,_=>exact h2
theorem DD.Gy {x:V} {dx:Dt} (e:H b=some (.tup [x])) (h1:DD H x dx):DD H (.ref b) (.tup [dx]):=.tup e rfl (by simp) fun i a b=>by
 match i,a with
 | 0,_=>exact h1
def JY (H3 H4:Hp) (ws:List V) (ds:List Dt):Prop:=∀ j (h:j < ws.length) (h':j < ds.length),∃ c x1 hv dx dy,ws[j]=.ref c/\H4 c=some (.tup [x1,hv])/\ds[j]=.tup [dx,dy]/\DD H3 x1 dx/\(DD H3 hv (Gw dy)\/∃ b,hv=.ref b/\H4 b=some (.tup [.str "all"])/\Gw dy=.tup [.str "all"])
theorem JY.dd {H3 H4:Hp} {ws:List V} {ds:List Dt} (f:JY H3 H4 ws ds) (s:aa H3 H4) (j:Nat) (h:j < ws.length) (h':j < ds.length):DD H4 ws[j] (Es ds[j]):=by
 obtain ⟨c,x1,hv,dx,dy,q1,q2,q3,q4,q5⟩:=f j h h'
 rw [q1,q3]
 refine DD.Gx q2 (q4.same s) ?_
 rcases q5 with q5 | ⟨b,rfl,q6,q7⟩
 ·exact q5.same s
 ·rw [q7];exact DD.Gy q6 (.str (by decide))
def fh (H H':Hp) (v:V) (d:Dt):Prop:=DD H v (Es d)\/∃ c x1 b dx,v=.ref c/\H' c=some (.tup [x1,.ref b])/\H' b=some (.tup [.str "all"])/\DD H x1 dx/\Es d=.tup [dx,.tup [.str "all"]]
theorem fh.dd {v:V} {d:Dt} (h:fh H H' v d) (s:aa H H'):DD H' v (Es d):=by
 rcases h with h | ⟨c,x1,b,dx,rfl,h2,h3,h4,h5⟩
 ·exact h.same s
 ·rw [h5];exact DD.Gx h2 (h4.same s) (DD.Gy h3 (.str (by decide)))
def Hd.CP:Hd->Bool | .one s=>s=="hole" | _=>false
def Hd.P4:Hd->Bool | .way _ _=>true | _=>false
def Hd.Et (h:Hd):Hd:=if h.CP then .one "all" else h
def JZ (r:cj):cj:=(r.1,r.2.Et)
structure TH (H:Hp) (a:Addr) (xs:List V) (rows:List cj) (ns ws:List Str):Prop where
 at_:H a=some (.tup xs)
 rv:RV H xs rows
 nm:(rows.map (·.1)).Perm ns
 nd:ns.Nodup
 ok:JL ns (rows.map JZ)
 wd:∀ n∈ns,Wd n
 ah:∀ r∈rows,Ar ns r.1 r.2.nx
 ww:∀ r∈rows,∀ z∈r.2.Bw,z∈ws
 pos:1<=ns.length
 few:ns.length<=10
 nw:∀ r∈rows,r.2.P4=false
 hl:rows.countP (fun r=>r.2.CP)<=6
section
variable {xs:List V} {rows:List cj}
theorem TH.rl (h:TH H a xs rows ns ws):rows.length=ns.length:=by have:=h.nm.length_eq;simpa using this
theorem HV.qd {v:V} {h:Hd} (q:HV H v h) (ok:h.Et.ok ns):DD H v h.dt:=by
 cases e:h.CP with
 | false=>
  have:h.Et=h:=by unfold Hd.Et;rw [e];rfl
  rw [this] at ok
  exact (q.tx ok).dd
 | true=>
  cases q with
  | @one b s e1=>
   have:s="hole":=eq_of_beq e
   subst this
   exact DD.Gy e1 (.str (by decide))
  | _=>cases e
theorem TH.dd (h:TH H a xs rows ns ws):DD H (.ref a) (.tup (rows.map Pn)):=by
 have xr:=h.rl
 have few:=h.few
 have hl:=h.rv.len
 refine .tup h.at_ (by simp [hl]) (by omega) fun i h1 h2=>?_
 have h3:i < rows.length:=by simpa using h2
 obtain ⟨b,v,q1,q2,q3⟩:=h.rv.at_ i h1 h3
 obtain ⟨m1,m2⟩:=h.ok (JZ rows[i]) (List.mem_map.mpr ⟨_,Qj h3,rfl⟩)
 have P5:isName rows[i].1=true:=m1
 rw [q1]
 simp only [Qr]
 exact DD.Gx q2 (.str (by have:=iA P5;omega)) (q3.qd m2)
end
end L2
namespace L2
open PySem PySem.Spec PyProof.Rows
def Dt.By:Dt->Bool
 | .tup []=>true
 | _=>false
def Dt.xw (z:Str):Dt->Bool
 | .tup [d,e]=>d.Er z&&e.By
 | _=>false
theorem DD.P6 (I:Inv X pins σ H s) {x:V} {d:Dt} (h:DD H x d) (hu:A.units+1 < cLine) {v:Value} (r:RelV x v) (hb:ae X.K H b []):SeqAt.EqAt A s v (.ref b) d.By:=by
 obtain ⟨i2,r2,p2,_⟩:=I.tuple hb
 cases r2
 have Aw:A.units < cLine:=by omega
 cases h with
 | @str y h=>obtain ⟨t',rfl⟩:=(show ∃ t,v=Value.str y t from r);exact SeqAt.EqAt.str_tuple y t' p2 Aw
 | @tup a xs ds e hl hn hd=>
  cases (show v=Value.ref a from r)
  obtain ⟨i1,r1,p1,_⟩:=I.tuple (ae.of e)
  have fg:=r1.length
  by_cases jz:a=b
  ·subst jz
   have e9:=I.Fx (ae.of e) hb
   subst e9
   have:ds=[]:=List.length_eq_zero_iff.mp hl.symm
   subst this
   exact SeqAt.EqAt.same _
  ·refine SeqAt.EqAt.of_refs jz ?_
   have:=SeqAt.RcAt.tuples (A:=A) (e:=fun _=>true) p1 p2 Aw fun j g1 g2=>absurd g2 (by simp)
   have ee:((List.range (min i1.toArray.size ([]:List Value).toArray.size)).all (fun _=>true)&&i1.toArray.size==([]:List Value).toArray.size)=(Dt.tup ds).By:=by
    have hs:i1.toArray.size=ds.length:=by simp;omega
    rw [hs]
    cases ds with
    | nil=>rfl
    | cons d dr=>simp [Dt.By]
   rw [<- ee]
   exact this
 | af=>cases (show v=Value.none from r);exact SeqAt.EqAt.none_tuple p2 Aw
 | bl b'=>cases (show v=Value.bool b' from r);exact SeqAt.EqAt.bool_tuple b' p2 Aw
 | int i=>obtain ⟨t',rfl⟩:=(show ∃ t,v=Value.int i t from r);exact SeqAt.EqAt.int_tuple i t' p2 Aw
 | @lst a xs e=>
  cases (show v=Value.ref a from r)
  obtain ⟨_,its,n,rv,ho⟩:=(show bx X.prog X.w H s.heap a (.lst xs) from I.hok a _ e)
  exact SeqAt.EqAt.list_tuple ⟨_,ho,rfl,_,rfl⟩ p2 Aw
 | @dct a kvs e=>
  cases (show v=Value.ref a from r)
  obtain ⟨_,hd,vs,rel,o,es,ep,ho,hx,Al,hk,hp⟩:=pT I.hok e
  obtain ⟨h1,h2⟩:=mJ (A:=A) ho hx.1 p2 Aw
  exact SeqAt.EqAt.of_refs h1 h2
theorem DD.P7 (I:Inv X pins σ H s) {xs:List V} {ds:List Dt} (e:H a=some (.tup xs)) (hl:xs.length=ds.length) (hd:∀ i (h:i < xs.length) (h':i < ds.length),DD H xs[i] ds[i]) (hu:A.units+4 < cLine) (hb:ae X.K H b [.str z,.ref c]) (hc:ae X.K H c []):SeqAt.RcAt A s (.ref a) (.ref b) ((Dt.tup ds).xw z):=by
 obtain ⟨i2,r2,p2,_⟩:=I.tuple hb
 obtain ⟨u1,u2,rfl,ra,rb⟩:=au.two r2
 obtain ⟨t2,rfl⟩:=(show ∃ t,u1=Value.str z t from ra)
 cases rb
 obtain ⟨i1,r1,p1,_⟩:=I.tuple (ae.of e)
 have fg:=r1.length
 have P8:A.in1.units+1 < cLine:=by rw [Around.in1_units];omega
 have:=SeqAt.RcAt.tuples (A:=A) (e:=fun j=>if j=0 then (ds.getD j .jg).Er z else (ds.getD j .jg).By) p1 p2 (by omega) fun j g1 g2=>by
  have Gz:j < xs.length:=by simp at g1;omega
  have Vv:j < 2:=by simpa using g2
  obtain ⟨w1,f1,q1⟩:=r1.get (Qa Gz)
  have e1:i1.toArray[j]=w1:=by
   simp at f1 g1
   rw [Qa (by omega)] at f1
   simpa using QD f1
  have e2:ds.getD j .jg=ds[j]'(by omega):=by rw [Qb,Qa (by omega)];rfl
  rw [e1]
  simp only [e2]
  rcases (show j=0\/j=1 by omega) with rfl | rfl
  ·exact DD.P0 I (hd 0 Gz (by omega)) (by omega) q1 z t2
  ·exact DD.P6 I (hd 1 Gz (by omega)) P8 q1 hc
 have ee:((List.range (min i1.toArray.size ([Value.str z t2,Value.ref c]:List Value).toArray.size)).all (fun j=>if j=0 then (ds.getD j .jg).Er z else (ds.getD j .jg).By)&&i1.toArray.size==([Value.str z t2,Value.ref c]:List Value).toArray.size)=(Dt.tup ds).xw z:=by
  have hs:i1.toArray.size=ds.length:=by simp;omega
  rw [hs]
  match ds with
  | []=>rfl
  | [d0]=>simp [Dt.xw]
  | [d0,d1]=>
   have:(List.range (min [d0,d1].length ([Value.str z t2,Value.ref c]:List Value).toArray.size))=[0,1]:=by rfl
   rw [this]
   simp [Dt.xw]
  | d0::d1::d2::dr=>simp [Dt.xw]
 rw [<- ee]
 exact this
def P9 (K:QZ):R2:=fun x y H Q=>∃ (a b c:Addr) (z:Str) (xs:List V) (ds:List Dt),x=.ref a/\y=.ref b/\H a=some (.tup xs)/\xs.length=ds.length/\(∀ i (h:i < xs.length) (h':i < ds.length),DD H xs[i] ds[i])/\ae K H b [.str z,.ref c]/\ae K H c []/\Q (.bl ((Dt.tup ds).xw z)) H
theorem P_ (K:QZ) (hu:X.A.units+20 < cLine) (hK:X.K=K:=by rfl):br X (compareOp .Eq) (P9 K):=by
 subst hK
 intro pins s σ H x y v u Q I rx ry h
 obtain ⟨a,b,c,z,xs,ds,rfl,rfl,ha,hl,hd,hb,hc,q⟩:=h
 cases rx
 cases ry
 exact DD.P7 I ha hl hd (A:=X.A) (by omega) hb hc _ _ _ _ ⟨.bl ((Dt.tup ds).xw z),H,I,rfl,q⟩
def bh (z:Str):Prop:=z.length<=100000
def Ax (n:Nat) (ys:List V):Prop:=ys.length=n/\∀ y∈ys,∃ z:Str,y=.str z/\bh z
theorem Ax.one {z:Str} (h:bh z):Ax 1 [.str z]:=⟨rfl,fun y hy=>⟨z,List.mem_singleton.mp hy,h⟩⟩
theorem Ax.two {z':Str} (h:bh z) (h':bh z'):Ax 2 [.str z,.str z']:=⟨rfl,fun y hy=>by
 rcases Qp.mp hy with rfl | hy
 ·exact ⟨z,rfl,h⟩
 ·exact ⟨z',List.mem_singleton.mp hy,h'⟩⟩
structure BA (H:Hp) (n:Nat) (xs ms:List V):Prop where
 len:xs.length=ms.length
 few:xs.length<=1000
 at_:∀ i (h:i < xs.length) (h':i < ms.length),∃ c ys,xs[i]=.ref c/\H c=some (.tup (ys++[ms[i]]))/\Ax n ys
inductive ly (H:Hp):V->List V->Prop
 | get {a:Addr} {z:Str}:H a=some (.tup [.str "get",.str z])->bh z->ly H (.ref a) []
 | fn {a:Addr} {v r:Str} {m:V}:H a=some (.tup [.str "fn",.str v,.str r,m])->bh v->bh r->ly H (.ref a) [m]
 | call {a:Addr} {f x:V}:H a=some (.tup [.str "call",f,x])->ly H (.ref a) [f,x]
 | fb {a b:Addr} {xs ms:List V}:H a=some (.tup [.str "box",.ref b])->H b=some (.tup xs)->BA H 1 xs ms->ly H (.ref a) ms
 | part {a:Addr} {m:V} {z:Str}:H a=some (.tup [.str "part",m,.str z])->bh z->ly H (.ref a) [m]
 | pick {a:Addr} {z:Str} {m:V}:H a=some (.tup [.str "pick",.str z,m])->bh z->ly H (.ref a) [m]
 | split {a b:Addr} {m:V} {xs ms:List V}:H a=some (.tup [.str "split",m,.ref b])->H b=some (.tup xs)->BA H 2 xs ms->ly H (.ref a) (m::ms)
 | hold {a:Addr} {m:V} {z:Str}:H a=some (.tup [.str "hold",m,.str z])->bh z->ly H (.ref a) [m]
theorem BA.tk {xs ms:List V} (h:BA H n xs ms) (s:Tk H H'):BA H' n xs ms:=⟨h.len,h.few,fun i a b=>let ⟨c,ys,h1,h2,h3⟩:=h.at_ i a b;⟨c,ys,h1,s _ _ h2,h3⟩⟩
theorem ly.tk {H H':Hp} (s:Tk H H') {v:V} {ks:List V} (h:ly H v ks):ly H' v ks:=by
 cases h with
 | get e h=>exact .get (s _ _ e) h
 | fn e h h2=>exact .fn (s _ _ e) h h2
 | call e=>exact .call (s _ _ e)
 | fb e e' r=>exact .fb (s _ _ e) (s _ _ e') (r.tk s)
 | part e h=>exact .part (s _ _ e) h
 | pick e h=>exact .pick (s _ _ e) h
 | split e e' r=>exact .split (s _ _ e) (s _ _ e') (r.tk s)
 | hold e h=>exact .hold (s _ _ e) h
inductive xx (H:Hp):Nat->Nat->V->Prop
 | mk {n s:Nat} {v:V} {ks:List V} {ss:List Nat}:ly H v ks->ks.length=ss.length->(∀ i (h:i < ks.length) (h':i < ss.length),xx H n ss[i] ks[i])->s=1+ss.sum->xx H (n+1) s v
theorem xx.tk {H H':Hp} (t:Tk H H') {n s:Nat} {v:V} (h:xx H n s v):xx H' n s v:=by
 induction h with
 | mk a b _ e ih=>exact .mk (a.tk t) b ih e
theorem yD {v:V} {ks:List V} (h:ly H v ks):ks.length<=1001:=by
 cases h with
 | fb _ _ r=>have:=r.few;have:=r.len;omega
 | split _ _ r=>have:=r.few;have:=r.len;simp only [List.length_cons];omega
 | _=>simp
end L2
set_option autoImplicit false
namespace L2
open PySem PySem.Spec PyProof.Rows
inductive bq where
 | get (z:Str)
 | fn (v r:Str)
 | call
 | fb (ws:List Str)
 | part (z:Str)
 | pick (z:Str)
 | split (cs:List (Str×Str))
 | hold (r:Str)
 deriving DecidableEq
inductive Mr where
 | mk (f:bq) (ks:List Mr)
def Mr.f:Mr->bq
 | .mk f _=>f
def Mr.ks:Mr->List Mr
 | .mk _ ks=>ks
def bq.cf:bq->Str
 | .get _=>"get"
 | .fn _ _=>"fn"
 | .call=>"call"
 | .fb _=>"box"
 | .part _=>"part"
 | .pick _=>"pick"
 | .split _=>"split"
 | .hold _=>"hold"
def bq.ar:bq->Nat
 | .get _=>0
 | .call=>2
 | .fb ws=>ws.length
 | .split cs=>cs.length+1
 | _=>1
def bq.bnd:bq->Nat->Option Str
 | .fn v _,0=>some v
 | .split cs,k+1=>(cs[k]?).map (·.2)
 | _,_=>none
def bq.ok:bq->Prop
 | .get z=>bh z
 | .fn v r=>bh v/\bh r
 | .call=>True
 | .fb ws=>ws.Nodup/\(∀ z∈ws,bh z)/\ws.length<=1000
 | .part z=>bh z
 | .pick z=>bh z
 | .split cs=>(cs.map (·.1)).Nodup/\(∀ c∈cs,bh c.1/\bh c.2)/\cs.length<=1000
 | .hold r=>bh r
structure ql (H:Hp) (ls:List (List V)) (xs ms:List V):Prop where
 l1:xs.length=ms.length
 l2:ls.length=ms.length
 at_:∀ i (h:i < xs.length) (h':i < ms.length) (Ak:i < ls.length),∃ c,xs[i]=.ref c/\H c=some (.tup (ls[i]++[ms[i]]))
theorem ql.tk {ls:List (List V)} {xs ms:List V} (h:ql H ls xs ms) (s:Tk H H'):ql H' ls xs ms:=⟨h.l1,h.l2,fun i a b c=>let ⟨d,h1,h2⟩:=h.at_ i a b c;⟨d,h1,s _ _ h2⟩⟩
def jh (ws:List Str):List (List V):=ws.map fun z=>[.str z]
def gy (cs:List (Str×Str)):List (List V):=cs.map fun c=>[.str c.1,.str c.2]
inductive fm (H:Hp):V->bq->List V->Prop
 | get {a:Addr} {z:Str}:H a=some (.tup [.str "get",.str z])->fm H (.ref a) (.get z) []
 | fn {a:Addr} {v r:Str} {m:V}:H a=some (.tup [.str "fn",.str v,.str r,m])->fm H (.ref a) (.fn v r) [m]
 | call {a:Addr} {f x:V}:H a=some (.tup [.str "call",f,x])->fm H (.ref a) .call [f,x]
 | fb {a b:Addr} {ws:List Str} {xs ms:List V}:H a=some (.tup [.str "box",.ref b])->H b=some (.tup xs)->ql H (jh ws) xs ms->fm H (.ref a) (.fb ws) ms
 | part {a:Addr} {m:V} {z:Str}:H a=some (.tup [.str "part",m,.str z])->fm H (.ref a) (.part z) [m]
 | pick {a:Addr} {z:Str} {m:V}:H a=some (.tup [.str "pick",.str z,m])->fm H (.ref a) (.pick z) [m]
 | split {a b:Addr} {cs:List (Str×Str)} {m:V} {xs ms:List V}:H a=some (.tup [.str "split",m,.ref b])->H b=some (.tup xs)->ql H (gy cs) xs ms->fm H (.ref a) (.split cs) (m::ms)
 | hold {a:Addr} {m:V} {z:Str}:H a=some (.tup [.str "hold",m,.str z])->fm H (.ref a) (.hold z) [m]
section
variable {v:V} {f:bq} {ks:List V}
theorem fm.tk (s:Tk H H') (h:fm H v f ks):fm H' v f ks:=by
 cases h with
 | get e=>exact .get (s _ _ e)
 | fn e=>exact .fn (s _ _ e)
 | call e=>exact .call (s _ _ e)
 | fb e e' r=>exact .fb (s _ _ e) (s _ _ e') (r.tk s)
 | part e=>exact .part (s _ _ e)
 | pick e=>exact .pick (s _ _ e)
 | split e e' r=>exact .split (s _ _ e) (s _ _ e') (r.tk s)
 | hold e=>exact .hold (s _ _ e)
theorem fm.len (h:fm H v f ks):ks.length=f.ar:=by
 cases h with
 | fb _ _ r=>have:=r.l2;simp [jh] at this;exact this.symm
 | split _ _ r=>have:=r.l2;simp [gy] at this;show _+1=_+1;rw [this]
 | _=>rfl
theorem fm.yy (h:fm H v f ks) (ok:f.ok):ly H v ks:=by
 cases h with
 | get e=>exact .get e ok
 | fn e=>exact .fn e ok.1 ok.2
 | call e=>exact .call e
 | @fb a b ws xs ms e e' r=>
  obtain ⟨_,o2,o3⟩:=ok
  have l1:=r.l1
  have l2:=r.l2
  have l3:(jh ws).length=ws.length:=by simp [jh]
  refine .fb e e' ⟨r.l1,by omega,fun i h h'=>?_⟩
  obtain ⟨c,h1,h2⟩:=r.at_ i h h' (by omega)
  refine ⟨c,_,h1,h2,?_⟩
  simp only [jh,Qr]
  exact Ax.one (o2 _ (Qj _))
 | part e=>exact .part e ok
 | pick e=>exact .pick e ok
 | @split a b cs m xs ms e e' r=>
  obtain ⟨_,o2,o3⟩:=ok
  have l1:=r.l1
  have l2:=r.l2
  have l3:(gy cs).length=cs.length:=by simp [gy]
  refine .split e e' ⟨r.l1,by omega,fun i h h'=>?_⟩
  obtain ⟨c,h1,h2⟩:=r.at_ i h h' (by omega)
  refine ⟨c,_,h1,h2,?_⟩
  simp only [gy,Qr]
  have:=o2 _ (Qj (show i < cs.length by omega))
  exact Ax.two this.1 this.2
 | hold e=>exact .hold e ok
theorem fm.ref (h:fm H v f ks):∃ a ys,v=.ref a/\H a=some (.tup (.str f.cf::ys)):=by
 cases h<;>exact ⟨_,_,rfl,by assumption⟩
end
inductive a_ (H:Hp):Nat->V->Mr->Prop
 | mk {n:Nat} {v:V} {f:bq} {vs:List V} {ks:List Mr}:fm H v f vs->f.ok->vs.length=ks.length->(∀ i (h:i < vs.length) (h':i < ks.length),a_ H n vs[i] ks[i])->a_ H (n+1) v (.mk f ks)
section
variable {v:V} {m:Mr}
theorem a_.tk (h:a_ H n v m) (s:Tk H H'):a_ H' n v m:=by
 induction h with
 | mk a o b _ ih=>exact .mk (a.tk s) o b ih
theorem a_.up (h:a_ H n v m):∀ {k},n<=k->a_ H k v m:=by
 induction h with
 | mk a o b _ ih=>
  intro k hk
  obtain ⟨j,rfl⟩:∃ j,k=j+1:=⟨k - 1,by omega⟩
  exact .mk a o b fun i h h'=>ih i h h' (by omega)
theorem a_.out (h:a_ H n v m):∃ k vs,n=k+1/\fm H v m.f vs/\m.f.ok/\vs.length=m.ks.length/\∀ i (h:i < vs.length) (h':i < m.ks.length),a_ H k vs[i] m.ks[i]:=by
 cases h with
 | @mk n v f vs ks a o b c=>exact ⟨n,vs,rfl,a,o,b,c⟩
end
mutual
def jb:Mr->Bool
 | .mk f ks=>match f with
  | .fn _ _=>true
  | .fb _=>jo ks
  | .pick _=>jo ks
  | _=>false
def jo:List Mr->Bool
 | []=>true
 | m::l=>jb m&&jo l
end
theorem mV:∀ l:List Mr,jo l=l.all jb
 | []=>by rw [jo];rfl
 | m::l=>by rw [jo,mV l];rfl
mutual
def ou (v:Str) (x:Mr):Mr->Mr
 | .mk f ks=>if f=.get v then x else .mk f (iu v x f 0 ks)
def iu (v:Str) (x:Mr) (f:bq) (k:Nat):List Mr->List Mr
 | []=>[]
 | m::l=>(if f.bnd k=some v then m else ou v x m)::iu v x f (k+1) l
end
theorem qH (v:Str) (x:Mr) (f:bq):∀ (l:List Mr) (k i:Nat) (h:i < (iu v x f k l).length) (h':i < l.length),(iu v x f k l)[i]=if f.bnd (k+i)=some v then l[i] else ou v x l[i]
 | m::l,k,0,_,_=>by simp [iu]
 | m::l,k,i+1,h,h'=>by
  have h2:i < (iu v x f (k+1) l).length:=by simpa [iu] using h
  have:=qH v x f l (k+1) i h2 (by simpa using h')
  rw [show k+(i+1)=k+1+i by omega]
  simpa [iu] using this
theorem qV (v:Str) (x:Mr) (f:bq):∀ (l:List Mr) (k:Nat),(iu v x f k l).length=l.length
 | [],k=>by simp [iu]
 | m::l,k=>by simp [iu,qV v x f l (k+1)]
mutual
def ay:Mr->Nat
 | .mk _ ks=>1+be ks
def be:List Mr->Nat
 | []=>0
 | m::l=>ay m+be l
end
theorem lQ (m:Mr):1<=ay m:=by cases m;rw [ay];omega
theorem cZ:∀ a b:List Mr,be (a++b)=be a+be b
 | [],b=>by simp [be]
 | m::l,b=>by rw [List.cons_append,be,be,cZ l b];omega
theorem eJ:∀ l:List Mr,l.length<=be l
 | []=>Nat.zero_le _
 | m::l=>by have:=eJ l;have:=lQ m;rw [be,List.length_cons];omega
mutual
def cz:Mr->Nat
 | .mk _ ks=>1+ow ks
def ow:List Mr->Nat
 | []=>0
 | m::l=>max (cz m) (ow l)
end
theorem eM:∀ {l:List Mr} {m:Mr},m∈l->cz m<=ow l
 | a::l,m,h=>by
  rw [ow]
  rcases Qp.mp h with rfl | h
  ·exact Nat.le_max_left _ _
  ·exact Nat.le_trans (eM h) (Nat.le_max_right _ _)
def lz (f:bq) (ks:List Mr):List Mr:=match f with
 | .split _=>ks.take 1
 | _=>ks
def oz (m:Mr):Option Nat:=(lz m.f m.ks).findIdx? fun k=> !jb k
def vo (m:Mr):Option Mr:=match m.f with
 | .hold _=>m.ks[0]?
 | .call=>match m.ks with
  | [.mk (.fn v _) [b],x]=>some (ou v x b)
  | _=>none
 | .part z=>match m.ks with
  | [.mk (.fb ws) ps]=>(ws.idxOf? z).bind fun i=>ps[i]?
  | _=>none
 | .split cs=>match m.ks with
  | .mk (.pick z) [x]::ms=>((cs.map (·.1)).idxOf? z).bind fun i=>(cs[i]?).bind fun c=>(ms[i]?).map fun b=>ou c.2 x b
  | _=>none
 | _=>none
mutual
def dg:Mr->List Nat×Option Mr
 | .mk f ks=>match oz (.mk f ks) with
  | none=>([],vo (.mk f ks))
  | some k=>(k::(BB k ks).1,(BB k ks).2)
def BB:Nat->List Mr->List Nat×Option Mr
 | 0,m::_=>dg m
 | k+1,_::l=>BB k l
 | _,[]=>([],none)
end
theorem qP:∀ (l:List Mr) (k:Nat) (h:k < l.length),BB k l=dg l[k]
 | m::l,0,_=>by rw [BB];rfl
 | m::l,k+1,h=>by rw [BB,qP l k (by simpa using h)];rfl
def l_ (x:Mr):List Nat->Mr->Mr
 | [],_=>x
 | k::p,.mk f ks=>.mk f (match ks[k]? with | some m=>ks.set k (l_ x p m) | none=>ks)
structure ji (H:Hp) (d:Nat) (vs:List V) (ms:List Mr):Prop where
 len:vs.length=ms.length
 at_:∀ i (h:i < vs.length) (h':i < ms.length),a_ H d vs[i] ms[i]
theorem ji.tk {H H':Hp} {d:Nat} {vs:List V} {ms:List Mr} (h:ji H d vs ms) (s:Tk H H'):ji H' d vs ms:=⟨h.len,fun i a b=>(h.at_ i a b).tk s⟩
theorem ji.app {vs us:List V} {ms ns:List Mr} (h1:ji H d vs ms) (h2:ji H d us ns):ji H d (vs++us) (ms++ns):=by
 have l1:=h1.len
 refine ⟨by simp [h1.len,h2.len],fun i a b=>?_⟩
 by_cases h:i < vs.length
 ·rw [Qe h,Qe (by omega)]
  exact h1.at_ i h (by omega)
 ·rw [Qf (by omega),Qf (by omega)]
  simp only [<- l1]
  exact h2.at_ _ (by simp at a;omega) (by have:=h2.len;simp at a;omega)
theorem ji.one {H:Hp} {d:Nat} {v:V} {m:Mr} (h:a_ H d v m):ji H d [v] [m]:=⟨rfl,fun i a b=>by
 obtain rfl:i=0:=by simp at a;omega
 exact h⟩
theorem ji.last {vs:List V} {ms:List Mr} (h:ji H d vs ms) (gh:vs≠[]):∃ vs' qm v m,vs=vs'++[v]/\ms=qm++[m]/\ji H d vs' qm/\a_ H d v m:=by
 have hl:=h.len
 have hp:0 < vs.length:=List.length_pos_iff.mpr gh
 rcases List.eq_nil_or_concat vs with z | ⟨vs',v,rfl⟩
 ·exact absurd z gh
 rcases List.eq_nil_or_concat ms with rfl | ⟨qm,m,rfl⟩
 ·rw [hl] at hp;exact absurd hp (by simp)
 rw [List.concat_eq_append] at hl h ⊢
 rw [List.concat_eq_append] at hl h ⊢
 have hl':vs'.length=qm.length:=by simpa using hl
 refine ⟨vs',qm,v,m,rfl,rfl,⟨hl',fun i a b=>?_⟩,?_⟩
 ·have:=h.at_ i (by simp;omega) (by simp;omega)
  rwa [Qe a,Qe b] at this
 ·have:=h.at_ vs'.length (by simp) (by simp;omega)
  rw [Qf (Qy _),Qf (by omega)] at this
  simpa [hl'] using this
theorem a_.kids {v:V} {m:Mr} (h:a_ H d v m):∃ vs,fm H v m.f vs/\m.f.ok/\ji H d vs m.ks:=by
 obtain ⟨k,vs,rfl,h1,h2,h3,h4⟩:=h.out
 exact ⟨vs,h1,h2,h3,fun i a b=>(h4 i a b).up (Nat.le_succ _)⟩
theorem n6 (a b:List Mr):jo (a++b)=(jo a&&jo b):=by simp [mV]
theorem bq.Qn (f:bq):D0 (.str f.cf) [.str "fn",.str "box",.str "pick"]=(match f with | .fn _ _=>true | .fb _=>true | .pick _=>true | _=>false):=by cases f<;>simp only [bq.cf]<;>decide+kernel
theorem bq.Qo (f:bq):decide (V.str f.cf=V.str "fn")=(match f with | .fn _ _=>true | _=>false):=by cases f<;>first | exact decide_eq_true rfl | exact Qw (fun z=>absurd (V.str.inj z) (by simp only [bq.cf];decide+kernel))
mutual
theorem o9 (v:Str) (x:Mr):∀ m,ay (ou v x m)<=ay m*ay x
 | .mk f ks=>by
  have hx:=lQ x
  rw [ou,ay]
  split
  ·exact Nat.le_mul_of_pos_left _ (by omega)
  ·have:=pZ v x f 0 ks
   rw [ay,Nat.add_mul]
   omega
theorem pZ (v:Str) (x:Mr) (f:bq):∀ k l,be (iu v x f k l)<=be l*ay x
 | k,[]=>by rw [iu,be];omega
 | k,m::l=>by
  have hx:=lQ x
  have h1:=o9 v x m
  have h2:=pZ v x f (k+1) l
  have h3:ay m<=ay m*ay x:=Nat.le_mul_of_pos_right _ (by omega)
  rw [iu,be,be,Nat.add_mul]
  split<;>omega
end
theorem a_.GA {v:V} {m:Mr} (h:a_ H d v m):xx H d (ay m) v:=by
 induction h with
 | @mk n v f vs ks a o b c ih=>
  refine .mk (a.yy o) (ss:=ks.map ay) (by simpa using b) (fun i h h'=>?_) ?_
  ·have:=ih i h (by simpa using h')
   rw [Qr]
   exact this
  ·rw [ay]
   congr 1
   clear a o b c ih
   induction ks with
   | nil=>rfl
   | cons x l ih=>rw [be,List.map_cons,List.sum_cons,ih]
theorem bq.few {f:bq} (ok:f.ok):f.ar<=1001:=by
 cases f<;>simp only [bq.ar]<;>(try omega)
 ·exact Nat.le_trans ok.2.2 (by decide)
 ·exact Nat.succ_le_succ ok.2.2
theorem a_.dep {v:V} {m:Mr} (h:a_ H d v m):cz m<=d:=by
 induction h with
 | @mk n v f vs ks a o b c ih=>
  have:∀ l:List Mr,(∀ m∈l,cz m<=n)->ow l<=n:=fun l=>by
   induction l with
   | nil=>intro _;rw [ow];omega
   | cons x l ih=>intro h;rw [ow];have:=h x (by simp);have:=ih fun m hm=>h m (by simp [hm]);omega
  have:=this ks fun m hm=>by
   obtain ⟨i,hi,rfl⟩:=Qi hm
   exact ih i (by omega) hi
  rw [cz]
  omega
def CQ:List Nat->Mr->Prop
 | [],_=>True
 | k::p,m=>∃ x,m.ks[k]? =some x/\CQ p x
theorem CQ.len:∀ {p:List Nat} {m:Mr},CQ p m->p.length+1<=cz m
 | [],m,_=>by cases m;rw [cz];simp
 | k::p,.mk f ks,⟨x,h1,h2⟩=>by
  have:=h2.len
  have:cz x<=ow ks:=eM (QC h1)
  rw [cz,List.length_cons]
  omega
theorem vL {f : bq} {ks : List Mr} {k : Nat} (h : k < (lz f ks).length) : ∃ h' : k < ks.length, (lz f ks)[k] = ks[k] := by
  unfold lz at h
  cases f <;> first
    | exact ⟨h, rfl⟩
    | (refine ⟨by simp at h; omega, ?_⟩
       simp only [lz, List.getElem_take])
theorem nJ {m:Mr} {k:Nat} (h:oz m=some k):∃ h':k < m.ks.length,jb m.ks[k]=false:=by
 unfold oz at h
 obtain ⟨h1,h2,_⟩:=List.findIdx?_eq_some_iff_getElem.mp h
 obtain ⟨h3,h4⟩:=vL h1
 rw [h4] at h2
 exact ⟨h3,by simpa using h2⟩
theorem jN {m:Mr} (h:oz m=none):dg m=([],vo m):=by
 obtain ⟨f,ks⟩:=m
 rw [dg]
 simp only [h]
theorem j4 {m:Mr} {k:Nat} (h:oz m=some k) (h':k < m.ks.length):dg m=(k::(dg m.ks[k]).1,(dg m.ks[k]).2):=by
 obtain ⟨f,ks⟩:=m
 rw [dg]
 simp only [h]
 rw [qP ks k h']
 rfl
theorem tP:∀ (n:Nat) (m:Mr),cz m<=n->CQ (dg m).1 m
 | 0,.mk f ks,h=>by rw [cz] at h;omega
 | n+1,.mk f ks,h=>by
  cases hf:oz (.mk f ks) with
  | none=>rw [jN hf];trivial
  | some k=>
   obtain ⟨hk,_⟩:=nJ hf
   rw [j4 hf hk]
   refine ⟨_,Qa hk,tP n _ ?_⟩
   have:=eM (Qj hk)
   rw [cz] at h
   simp only [Mr.ks] at this ⊢
   omega
theorem pG (x:Mr):∀ (p:List Nat) (m:Mr),ay (l_ x p m)<=ay m+ay x
 | [],m=>by rw [l_];omega
 | k::p,.mk f ks=>by
  rw [l_,ay,ay]
  cases h:ks[k]? with
  | none=>simp only [];omega
  | some m=>
   have ih:=pG x p m
   have:∀ (l:List Mr) (k:Nat),l[k]? =some m->be (l.set k (l_ x p m))<=be l+ay x:=fun l=>by
    induction l with
    | nil=>intro k h;simp at h
    | cons y l il=>
     intro k h
     cases k with
     | zero=>
      obtain rfl:y=m:=by simpa using h
      rw [List.set_cons_zero,be,be];omega
     | succ k=>
      have:=il k (by simpa using h)
      rw [List.set_cons_succ,be,be];omega
   have:=this ks k h
   simp only []
   omega
theorem a_.low {v:V} {m:Mr} (h:a_ H n v m):∀ {k},cz m<=k->a_ H k v m:=by
 induction h with
 | @mk n v f vs ks a o b c ih=>
  intro k hk
  rw [cz] at hk
  obtain ⟨j,rfl⟩:∃ j,k=j+1:=⟨k - 1,by omega⟩
  refine .mk a o b fun i h h'=>ih i h h' ?_
  have:=eM (Qj h')
  omega
theorem iP {l:List Mr} {m:Mr} (h:m∈l):ay m<=be l:=by
 induction l with
 | nil=>cases h
 | cons a l ih=>
  rw [be]
  rcases Qp.mp h with rfl | h
  ·omega
  ·have:=ih h;omega
theorem vD {a b:Nat} (h1:a<=n) (h2:b<=n):a*b<=n*n:=Nat.mul_le_mul h1 h2
theorem zQ {a:Nat} (h:a<=n):a<=n*n:=by
 rcases Nat.eq_zero_or_pos n with z | z
 ·omega
 ·exact Nat.le_trans h (Nat.le_mul_of_pos_left _ z)
theorem x9 {m c:Mr} (h:vo m=some c):ay c<=ay m*ay m:=by
 obtain ⟨f,ks⟩:=m
 have e:ay (.mk f ks)=1+be ks:=by rw [ay]
 rw [e]
 cases f with
 | hold r=>
  have h:ks[0]? =some c:=h
  exact zQ (by have:=iP (QC h);omega)
 | call=>
  simp only [vo,Mr.f,Mr.ks] at h
  split at h
  ·rename_i v r b x
   cases h
   refine Nat.le_trans (o9 _ _ _) (vD ?_ ?_)
   ·simp only [be,ay];omega
   ·simp only [be,ay];omega
  ·cases h
 | part z=>
  simp only [vo,Mr.f,Mr.ks] at h
  split at h
  ·rename_i ws ps
   obtain ⟨i,h1,h2⟩:=Option.bind_eq_some_iff.mp h
   have:=iP (QC h2)
   exact zQ (by simp only [be,ay];omega)
  ·cases h
 | split cs=>
  simp only [vo,Mr.f,Mr.ks] at h
  split at h
  ·rename_i z x ms
   obtain ⟨i,h1,h2⟩:=Option.bind_eq_some_iff.mp h
   obtain ⟨d,h3,h4⟩:=Option.bind_eq_some_iff.mp h2
   obtain ⟨b,h5,h6⟩:=Option.map_eq_some_iff.mp h4
   subst h6
   have:=iP (QC h5)
   refine Nat.le_trans (o9 _ _ _) (vD ?_ ?_)
   ·simp only [be,ay];omega
   ·simp only [be,ay];omega
  ·cases h
 | _=>cases h
theorem pB {c:Mr}:∀ (n:Nat) (m:Mr),cz m<=n->(dg m).2=some c->ay c<=ay m*ay m
 | 0,.mk f ks,h,_=>by rw [cz] at h;omega
 | n+1,.mk f ks,h,h2=>by
  cases hf:oz (.mk f ks) with
  | none=>rw [jN hf] at h2;exact x9 h2
  | some k=>
   obtain ⟨hk,_⟩:=nJ hf
   rw [j4 hf hk] at h2
   have h3:=eM (Qj hk)
   have h4:=iP (Qj hk)
   rw [cz] at h
   simp only [Mr.ks] at h3 h4 h2 hk
   have ih:=pB n _ (by omega) h2
   refine Nat.le_trans ih (vD ?_ ?_)<;>rw [ay]<;>omega
inductive Kd where
 | val
 | stuck (p:List Nat)
 | on
def qo (m:Mr):Option Mr:=if jb m=true then none else (dg m).2.map fun c=>l_ c (dg m).1 m
def iw (m:Mr):Kd:=if jb m=true then .val else match (dg m).2 with
 | none=>.stuck (dg m).1
 | some _=>.on
def di:Nat->Nat->Mr->Nat ⊕ (Mr×Nat×Kd)
 | 0,dn,m=>.inr (m,dn,iw m)
 | k+1,dn,m=>match qo m with
  | none=>.inr (m,dn,iw m)
  | some m'=>if 400 < ay m' then .inl 400 else if 40 < cz m' then .inl 40 else di k (dn+1) m'
end L2
namespace L2
open PySem PySem.Spec PyProof.Rows PyProof HT
section
theorem mD:typeLookup (.type "tuple") (dunderI "add")=pure none:=by rw [typeLookup_type,builtinLookup_eq_fast];kernel_rfl
theorem xK (K:QZ) (h:X.K=K:=by rfl):DN X .Add (Gu K):=by
 subst h
 intro pins s σ H x y v u Q I rx ry h
 obtain ⟨a,b,xs,ys,rfl,rfl,ha,hb,hz,q0,q1,q2⟩:=h
 cases rx
 cases ry
 obtain ⟨its,r1,p1,_⟩:=I.tuple ha
 obtain ⟨its2,r2,p2,_⟩:=I.tuple hb
 obtain ⟨⟨cls,dd,data,sl⟩,ho,hc,n,hd⟩:=id p1
 obtain ⟨⟨FH,k_,data2,lg⟩,iq,ie,n2,hd2⟩:=id p2
 simp only at hc hd ie hd2
 subst hc hd ie hd2
 have h1:s.TypeIs (.ref a) "tuple":=⟨_,ho,rfl⟩
 have h2:s.TypeIs (.ref b) "tuple":=⟨_,iq,rfl⟩
 refine wpAny_inplaceOp_concat h1 h2 mD noFill_tuple_add seq_tuple_add ?_
 have fg:=r1.length
 have i_:=r2.length
 by_cases hx:xs=[]
 ·have hi:its=[]:=r1.yo.mpr hx
  exact call_meets PySem.F.slot_tuple_add h1 PySem.F.entry_tuple_add (PySem.F.args_tuple_add_2 _ _) (tuple_addW0 a b its.toArray its2.toArray n n2 dd k_ sl lg (by simp [hi])) ⟨ho,iq,⟨.ref b,H,I,rfl,q0 hx⟩⟩
 have hv:its≠[]:=fun z=>hx (r1.yo.mp z)
 by_cases hw:ys=[]
 ·have GB:its2=[]:=r2.yo.mpr hw
  exact call_meets PySem.F.slot_tuple_add h1 PySem.F.entry_tuple_add (PySem.F.args_tuple_add_2 _ _) (tuple_addW1 a b its.toArray its2.toArray n n2 dd k_ sl lg (by simpa using hv) (by simp [GB])) ⟨ho,iq,⟨.ref a,H,I,rfl,q1 hx hw⟩⟩
 ·have GB:its2≠[]:=fun z=>hw (r2.yo.mp z)
  refine call_meets PySem.F.slot_tuple_add h1 PySem.F.entry_tuple_add (PySem.F.args_tuple_add_2 _ _) (tuple_addW2 a b its.toArray its2.toArray n n2 dd k_ sl lg (by simpa using hv) (by simpa using GB) (by rw [List.size_toArray,List.size_toArray];omega)) ⟨ho,iq,?_⟩
  rw [show its.toArray++its2.toArray=(its++its2).toArray by simp]
  refine ⟨.ref s.heap.objs.size,_,I.laid (t':=s.toks) (o:=.tup (xs++ys)) (fun b ob q=>Qc _ q) (Qy _) ?_,rfl,q2 hx hw _ (I.hok.fresh (Qy _))⟩
  exact ⟨⟨by rw [Qk];exact hz,yj.new rfl rfl⟩,_,r1.append r2,IsTup.new _ _⟩
variable {pos:Pos}
def J0 (g h:TG):TG:=fun v σ H Q=>g v σ H fun σ' H'=>h v σ' H' Q
theorem zS {t1 t2:Expr} {g1 g2:TG} (he:SE X e te) (Qu:SG X t1 g1) (Qv:SG X t2 g2) (hs:swapsWithSole [t1,t2] e pos.line X.env=pure false:=by rfl) (hw:swappedStores [t1,t2] e X.env=pure none:=by rfl)
  (h1:(assignEach [t1,t2] X.env).map (·.2)=[assign t1 X.env,assign t2 X.env]:=by rfl):SS X (.Assign [t1,t2] e pos) (s_ te (J0 g1 g2)):=by
 constructor
 intro pins s σ H D I h
 refine wpAny_Assign_stores (aq (he.h pins s σ H _ I h) fun v s1 ⟨x,H1,I1,r1,q1⟩=>?_) hs hw
 rw [h1]
 refine QS (wpAny_holding (aq (Qu.h pins s1 σ H1 x v _ I1 r1 q1) ?_))
 rintro _ s2 ⟨σ2,H2,I2,q2⟩
 exact aq (Qv.h pins s2 σ2 H2 x v _ I2 r1 q2) fun _ s2 q=>q
end
end L2
namespace L2
open PySem PySem.Spec PyProof.Rows
section
variable {g:Array GenState} {d:Drawn} {t:Nat} {os:OsState}
variable {nm q:Str} {N:Addr} {bs bm bmB:List Value} {hdct:Bool} {sn:List Str} {sub:List Value} {ab:Bool} {col:Option Bool} {dd:Option Addr} {k0 k1 k2 k3 k5:Option Value} {B Bn newId Eu CS J1:String} {J2:List Value}
theorem xV (Fn:ExcBaseFacts Bn newId J1 J2) (Ew:bmB.contains (.type Bn)=true) (F:ExcBaseFacts B Eu CS bmB) (T:OwnTail h bmB bm) {mN:Str->Option Value} {rest:List Value} {fI:Addr} {oI:Obj} {Q:Fin->Shared->Prop}
  (hC:h.get? C=some (excClassObj nm q C N bs bm hdct sn sub ab col dd k0 k1 k2 k3 k5 newId)) (hn:h.Ns N mN) (hi:mN "__init__"=some (.ref fI)) (GC:h.get? fI=some oI) (GD:oI.cls=.type "function") (hl:rest.length<=sizeLine)
  (hq:∀ h' e,Heap.MadeExcOf h h' e (.ref C) rest->wpAny (model P w) A (call (.ref fI) (.ref e::rest)) (fun r s'=>r=.none/\Q (.done (.ret (.ref e))) s') E ⟨h',g,d,t,os⟩):
  wpAny (model P w) A (Builtin.«type.__call__» ⟨.ref C::rest,[]⟩) Q E ⟨h,g,d,t,os⟩:=by
 repeat (first | with_reducible refine wpAny_loadPart_at hC ?_ | with_reducible refine wpAny_madeBy_exc hC ?_ | wp_step)
 refine codeAny_call_builtin_code (Code.quiet_builtin _ Fn.quiet) (wpAny_check_new_subU Fn Ew T hC (codeAny_exc_new_subU Fn Ew F T hC ?_ hl))
 let h2:=(h.push {cls:=.type "tuple",data:=.seq rest.toArray}).push {cls:=.ref C,data:=.fields #[.ref h.objs.size,.none,.none,.none,.bool false,.none]}
 have up:∀ b o,h.get? b=some o->h2.get? b=some o:=fun b o e=>Qc _ (Qc _ e)
 have J3:=up _ _ hC
 have hn2:h2.Ns N mN:=let ⟨o,es,ep,e,r⟩:=hn;⟨o,es,ep,up _ _ e,r⟩
 have ge:h2.get? (h.objs.size+1)=some {cls:=.ref C,data:=.fields #[.ref h.objs.size,.none,.none,.none,.bool false,.none]}:=by
  show (Heap.push _ _).get? _=_
  have:=Qd (h.push {cls:=.type "tuple",data:=.seq rest.toArray}) (o:={cls:=.ref C,data:=.fields #[.ref h.objs.size,.none,.none,.none,.bool false,.none]}) rfl
  rw [Heap.size_push] at this;exact this
 have QB:(Value.ref C::bm).contains (.ref C)=true:=by simp
 show wpAny _ _ _ _ _ ⟨h2,g,d,t,os⟩
 unfold isInstance
 repeat (first | with_reducible refine wpAny_loadPart_at ge ?_ | (with_reducible refine wpAny_isSubtype_exc J3 ?_;rw [QB]) | wp_step)
 show wpAny _ _ (typeLookup (.ref C) _) _ _ _
 refine wpAny_typeLookup_tail J3 hn2 (T.keeps up) F.mroIs F.init.lookup ?_
 rw [hi]
 refine wpAny_holding (QS ?_)
 unfold bindSpecial
 refine QS (wpAny_typeOf (T:="function") ⟨_,up _ _ GC,GD⟩ ?_)
 rw [if_pos (by decide)]
 refine QT (QS (wpAny_mono (hq h2 (h.objs.size+1) ⟨up,Heap.get?_none_of_le (Nat.le_succ _),h.objs.size,ge,Heap.get?_none_of_le (Qy _),Qc _ (Qd _ rfl)⟩) (fun r s' hr=>?_) fun _ _ x=>x))
 obtain ⟨rfl,hQ⟩:=hr
 wp_walk
 exact hQ
theorem xQ (Fn:ExcBaseFacts Bn newId J1 J2) (Ew:bmB.contains (.type Bn)=true) (F:ExcBaseFacts B Eu CS bmB) (T:OwnTail h bmB bm) {mN:Str->Option Value} {rest:List Value} {fI:Addr} {oI:Obj}
  (hC:h.get? C=some (excClassObj nm q C N bs bm hdct sn sub ab col dd k0 k1 k2 k3 k5 newId)) (hn:h.Ns N mN) (hi:mN "__init__"=some (.ref fI)) (GC:h.get? fI=some oI) (GD:oI.cls=.type "function") (hl:rest.length<=sizeLine)
  (hq:∀ h' e,Heap.MadeExcOf h h' e (.ref C) rest->wpAny (model P w) (A.under (.builtin "type.__call__" ⟨.ref C::rest,[]⟩)) (call (.ref fI) (.ref e::rest)) (fun r s'=>r=.none/\Q (.ref e) s') E ⟨h',g,d,t,os⟩):
  wpAny (model P w) A (call (.ref C) rest) Q E ⟨h,g,d,t,os⟩:=by
 have f1:=tc_lookup
 have f2:=tc_bind (.ref C)
 have hT:(⟨h,g,d,t,os⟩:Shared).TypeIs (.ref C) "type":=⟨_,hC,rfl⟩
 refine wpAny_call (codeAny_of_tree ?_)
 show wpAny _ _ (callAny (.ref C) _) _ _ _
 repeat (any_goals (first | assumption | with_reducible refine wpAny_loadPart_at hC ?_ | wp_step))
 exact ⟨rfl,codeAny_call_builtin_at (Code.quiet_builtin _ (by decide+kernel)) entry_typeCall (wpAny_check_type_call_sub hC (xV Fn Ew F T hC hn hi GC GD hl hq))⟩
end
section
variable {nm q:Str} {N:Addr} {bs bm:List Value} {hdct:Bool} {sn:List Str} {sub:List Value} {ab:Bool} {col:Option Bool} {dd:Option Addr} {k0 k1 k2 k3 k5:Option Value} {newId:String}
theorem wD {x:Sem Value} {Q:Flow->Shared->Prop} (hb:bm.contains (.type "BaseException")=true) (hh:A.handled=none)
  (h:wpAny M A x (fun v s1=>∃ e t dct,v=.ref e/\s1.heap.get? C=some (excClassObj nm q C N bs bm hdct sn sub ab col dd k0 k1 k2 k3 k5 newId)/\s1.heap.get? e=some {cls:=.ref C,dict:=dct,data:=.fields #[.ref t,.none,.none,.none,.bool false,.none]}/\E (.ref e) s1) E s):
  wpAny M A (raiseStmt env (some x) none) Q E s:=by
 have hB:(Value.ref C::bm).contains (.type "BaseException")=true:=by rw [List.contains_cons,hb,Bool.or_true]
 unfold raiseStmt
 refine QS (wpAny_mono h (fun v s1 ⟨e,t,dct,ev,hC,he,hE⟩=>?_) fun _ _ x=>x)
 subst ev
 obtain ⟨hp,g,d,tk,os⟩:=s1
 repeat (first | with_reducible refine wpAny_loadPart_at he ?_ | with_reducible refine wpAny_loadPart_at hC ?_ | (with_reducible refine wpAny_isSubtype_exc hC ?_;rw [hB]) | wp_step)
 exact wpAny_raiseNew_none hh hE
end
def qp (h:Heap) (e C:Addr) (dct:Option Addr):Prop:=∃ t,h.get? e=some {cls:=.ref C,dict:=dct,data:=.fields #[.ref t,.none,.none,.none,.bool false,.none]}
section
variable {g:Array GenState} {d:Drawn} {t:Nat} {os:OsState}
variable {nm q:Str} {N e:Addr} {bs bm bmB:List Value} {hdct:Bool} {sn:List Str} {sub:List Value} {ab:Bool} {col:Option Bool} {dd:Option Addr} {k0 k1 k2 k3 k5:Option Value} {B newId Eu CS:String}
theorem yE (F:ExcBaseFacts B Eu CS bmB) (T:OwnTail h bmB bm) (hC:h.get? C=some (excClassObj nm q C N bs bm hdct sn sub ab col dd k0 k1 k2 k3 k5 newId)) (he:qp h e C dct) {args:List Value} (hl:args.length<=sizeLine)
  (hq:∀ h',(∀ b o,b≠e->h.get? b=some o->h'.get? b=some o)->qp h' e C dct->Q .none ⟨h',g,d,t,os⟩):
  wpAny (model P w) A (call (.builtin CS) (.ref e::args)) Q E ⟨h,g,d,t,os⟩:=by
 obtain ⟨t0,he⟩:=he
 refine wpAny_call (codeAny_call_builtin F.init.plain F.initEntry (wpAny_check_init_subU F T hC he rfl ?_))
 wp_walk
 have h1:=Qc {cls:=.type "tuple",data:=.seq args.toArray} he
 refine hq _ (fun b o n q=>?_) ⟨h.objs.size,?_⟩
 ·rw [Heap.get?_update_other _ _ n.symm];exact Qc _ q
 ·exact Heap.get?_update_self _ h1 rfl
end
end L2
namespace L2
open PySem PySem.Spec PyProof.Rows PySem.W Builtin.ObjectAttr
abbrev Ex:List Value:=[.type "ValueError",.type "Exception",.type "BaseException",.type "object"]
def vp (own:List Addr):List Value:=own.map Value.ref++Ex
theorem gG (self:Value):∀ own:List Addr,refuseLoop self "__setattr__" (vp own)=pure ()
 | []=>PySem.F.store_ValueError.passes self
 | c::r=>by
  show refuseLoop self "__setattr__" (.ref c::vp r)=_
  rw [refuseLoop_ref];exact gG self r
theorem gE {v:Value} (h:v∈Ex) (own:List Addr):(vp own).contains v=true:=by
 rw [List.contains_iff_mem];exact List.mem_append.mpr (.inr h)
section
variable {K:QZ} {e:Addr} {cd:ClassData} {own:List Addr} {v:Value}
theorem QF {Q:Unit->Shared->Prop} (X:K.In s.heap) (he:qp s.heap e C none) (hc:clsIn K C=some cd) (hm:cd.mro=vp own) (hd:cd.hasDict=true) (hs:findIn K (.ref C) "__setattr__"=some (some (.builtin "object.__setattr__"))) (ha:findIn K (.ref C) name=some none)
  (hq:∀ h' dx tk,s.heap.get? dx=none->(∀ b o,b≠e->s.heap.get? b=some o->h'.get? b=some o)->qp h' e C (some dx)->h'.Ns1 dx (fun y=>if y=name then some v else none)->Q () {s with heap:=h',toks:=tk}):
  wpAny (model P w) A (setAttr (.ref e) name v) Q E s:=by
 obtain ⟨t,he⟩:=he
 have I:InstAt s.heap e _ C none:=⟨he,rfl,rfl,trivial⟩
 have SF:=PySem.F.store_object
 refine set_plain X I hs ?_
 have X1:K.In ({s with toks:=s.toks+1}:Shared).heap:=X
 have I1:InstAt ({s with toks:=s.toks+1}:Shared).heap e _ C none:=I
 have ne:cd.mro.isEmpty=false:=by rw [hm];cases own<;>rfl
 have sub:Looks (model P w) s.heap (isInstance (.ref e) (.type "object")) true:=I.type.andThen (looks_mroIn X (by unfold mroIn;rw [hc,Option.bind_some,if_neg (by rw [ne];decide),hm,gE (by decide)]))
 refine codeAny_call_builtin SF.slot.plain SF.entry (@check_slot (model P w) _ _ _ "object.__setattr__" "object" "__setattr__" (.ref e) [.str name s.toks,v] [] _ SF.kind SF.split sub (SF.args (.ref e) (.str name s.toks) v) ?_)
 have QM:Looks (model P w) ({s with toks:=s.toks+1}:Shared).heap (mroOf (.ref C)) cd.mro:=(looks_clsIn X hc).andThen .now
 rw [osa_eq,refuse_eq]
 refine QS (QS (I1.type.here (QS (QM.here ?_))))
 rw [hm,gG]
 refine QT (QS (I1.type.here (QS ((looks_findIn X1 ha).here (QS (Looks.here (.now:Looks (model P w) ({s with toks:=s.toks+1}:Shared).heap (storeTaker? none) none) ?_))))))
 dsimp only
 obtain ⟨hp,gn,dr,tk,os⟩:=s
 dsimp only at he X hq
 have hes:e≠hp.objs.size:=Nat.ne_of_lt (Qz he)
 let ox:Obj:={cls:=.ref C,data:=.fields #[.ref t,.none,.none,.none,.bool false,.none]}
 have Ey:(hp.push {cls:=.type "dict",data:=.dict #[]}).get? e=some ox:=Qc _ he
 let h2:Heap:=(hp.push {cls:=.type "dict",data:=.dict #[]}).update e fun o=>{o with dict:=some hp.objs.size}
 have QN:h2.get? e=some {ox with dict:=some hp.objs.size}:=Heap.get?_update_self _ Ey rfl
 have hd2:h2.get? hp.objs.size=some {cls:=.type "dict",data:=.dict #[]}:=(Heap.get?_update_ne _ _ _ _ hes.symm).trans (Qd _ rfl)
 have n2:h2.Ns hp.objs.size (fun _=>none):=⟨_,#[],_,hd2,rfl,fun e he=>absurd he (by simp),fun _=>rfl⟩
 unfold storeInOwnDict ownDictForStores instanceDict
 refine QS (QT (QS (QS (wpAny_loadPart (s:=⟨hp,gn,dr,tk+1,os⟩) he (QS ((looks_clsIn (M:=model P w) X hc).here (s:=⟨hp,gn,dr,tk+1,os⟩) ?_))))))
 rw [hd,if_neg (by decide)]
 dsimp only
 rw [if_neg (by simp [typeHasDict])]
 refine QS (wpAny_alloc' (QS (wpAny_update' Ey (QT ?_))))
 show wpAny _ _ (storeInDict hp.objs.size (.str name tk) name v) _ _ ⟨h2,gn,dr,tk+1,os⟩
 unfold storeInDict newKeyGuard
 refine QS (QT (QS (wpAny_nsSet1 (Heap.Ns1.of_empty n2) fun h' hn' J5=>?_)))
 obtain ⟨oD,Vw,Vx,QO,QU,QV⟩:=hn'.count (Within.cons name v Within.nil)
 refine QS (wpAny_lookBehind QO (by rw [QU];exact pastItsLine_dict (Nat.le_trans QV (by rw [List.length_cons,List.length_nil,QL];omega))) (QT ?_))
 refine hq h' hp.objs.size _ (Heap.get?_none_of_le (Qy _)) (fun b o n q=>?_) ⟨t,(J5.2 e hes).trans QN⟩ hn'
 exact (J5.2 b (Nat.ne_of_lt (Qz q))).trans ((Heap.get?_update_ne _ _ _ _ n).trans (Qc _ q))
end
end L2
namespace L2
open PySem PySem.Spec PyProof.Rows
def vq (h:Heap) (e C:Addr) (dct:Option Addr):Prop:=∃ vs:Array Value,h.get? e=some {cls:=.ref C,dict:=dct,data:=.fields vs}/\1 < vs.size/\
 (vs[1]? =some .none\/∃ T oT ts,vs[1]? =some (.ref T)/\T≠e/\h.get? T=some oT/\oT.data=.fields ts/\ts[3]? =some .none)
theorem qp.QW {e:Addr} (x:qp h e C dct):vq h e C dct:=let ⟨_,q⟩:=x;⟨_,q,Nat.succ_lt_succ (Nat.succ_pos _),.inl rfl⟩
section
variable {L e:Addr} {Q:Unit->Shared->Prop}
structure GF (fr:List Addr) (e:Addr) (h h':Heap):Prop where
 keep:∀ b o,b ∉ fr->b≠e->h.get? b=some o->h'.get? b=some o
 slot:∀ b o,b≠e->h.get? b=some o->∃ sl,h'.get? b=some {o with slots:=sl}
 Ez:∀ b o,h.get? b=some o->∃ o',h'.get? b=some o'
theorem jR (j_:A.frames=some (env::outer)) (hl:s.heap.FunFrames base (env::outer)) (hf:env.frame=some L) (he:vq s.heap e C dct) (yz:e ∉ (env::outer).filterMap (·.frame))
  (h:∀ h' tb,s.heap.get? tb=none->GF ((env::outer).filterMap (·.frame)) e s.heap h'->vq h' e C dct->Q () {s with heap:=h'}):
  wpAny M A (noteFrame (.ref e) env) (fun _ s1=>wpAny M A (setFlight (.ref e) none) Q E s1) E s:=by
 obtain ⟨vs,g1,g2,g3⟩:=he
 have core:∀ (s1:Shared) (hd:Value) (b:Bool),s1.heap.FunFrames base (env::outer)->s1.heap.get? e=some {cls:=.ref C,dict:=dct,data:=.fields vs}->
   (∀ h' tb,s1.heap.get? tb=none->GF ((env::outer).filterMap (·.frame)) e s1.heap h'->vq h' e C dct->Q () {s1 with heap:=h'})->
   wpAny M A (do let a <- frameOf env;let pl <- entryPlaceOf L b;let t <- EntryCells.newEntry hd a .none (rawInt L) .none pl;setField (.ref e) 1 t) (fun _ s2=>wpAny M A (setFlight (.ref e) none) Q E s2) E s1:=by
  intro s1 hd b fg Ey k
  refine QS (wpAny_frameOf_fun j_ fg hf fun h1 so=>?_)
  refine QS (wpAny_entryPlaceOf fun pl hpl=>?_)
  unfold EntryCells.newEntry newFields
  refine QS (wpAny_newObj_type ?_ (hpl.sizeOk5 _ _ _ _ _))
  have e1:h1.get? e=some {cls:=.ref C,dict:=dct,data:=.fields vs}:=(so.2.1 e yz).trans Ey
  generalize J6:({cls:=.type "traceback",data:=.fields ([hd,Value.ref L,Value.none,rawInt L,Value.none]++if pl.isEmpty=true then List.replicate 6 Value.none else pl).toArray}:Obj)=ob
  have hob:ob.isFreed=false:=by rw [<- J6];rfl
  have e2:(h1.push ob).get? e=some {cls:=.ref C,dict:=dct,data:=.fields vs}:=Qc _ e1
  refine wpAny_setField e2 rfl g2 ?_
  have nT:h1.objs.size≠e:=Nat.ne_of_gt (Qz e1)
  have e3:((h1.push ob).update e (Obj.mapFields (·.setIfInBounds 1 (.ref h1.objs.size)))).get? e=some {cls:=.ref C,dict:=dct,data:=.fields (vs.setIfInBounds 1 (.ref h1.objs.size))}:=Heap.get?_update_self _ e2 rfl
  have t3:((h1.push ob).update e (Obj.mapFields (·.setIfInBounds 1 (.ref h1.objs.size)))).get? h1.objs.size=some ob:=(Heap.get?_update_other _ _ nT.symm).trans (Qd _ hob)
  generalize QY:(h1.push ob).update e (Obj.mapFields (·.setIfInBounds 1 (.ref h1.objs.size)))=h2 at e3 t3
  unfold setFlight
  refine QS (wpAny_field (s:={s1 with heap:=h2}) e3 rfl (x:=.ref h1.objs.size) (by simp [g2]) ?_)
  rw [if_pos (show (Value.ref h1.objs.size !=Value.none)=true from by simp)]
  obtain ⟨ts,ht,xu⟩:∃ ts:Array Value,ob.data=.fields ts/\3 < ts.size:=⟨_,by rw [<- J6],by simp only [List.size_toArray,Qk,List.length_cons,List.length_nil];omega⟩
  refine wpAny_setField (s:={s1 with heap:=h2}) t3 ht xu ?_
  have kp:∀ b o,b≠e->h1.get? b=some o->(h2.update h1.objs.size (Obj.mapFields (·.setIfInBounds 3 ((none:Option Addr).elim Value.none fun f=>rawInt f)))).get? b=some o:=fun b o n q=>by
   rw [Heap.get?_update_other _ _ (Nat.ne_of_gt (Qz q)),<- QY,Heap.get?_update_other _ _ n.symm]
   exact Qc _ q
  have e4:(h2.update h1.objs.size (Obj.mapFields (·.setIfInBounds 3 ((none:Option Addr).elim Value.none fun f=>rawInt f)))).get? e=some {cls:=.ref C,dict:=dct,data:=.fields (vs.setIfInBounds 1 (.ref h1.objs.size))}:=(Heap.get?_update_other _ _ nT).trans e3
  have t4:=Heap.get?_update_self (Obj.mapFields (·.setIfInBounds 3 ((none:Option Addr).elim Value.none fun f=>rawInt f))) t3 (Obj.isFreed_of_fields (Obj.data_mapFields ht _))
  refine k _ h1.objs.size (Heap.get?_none_of_le (by rw [so.1];exact Qy _)) ⟨fun b o n1 n2 q=>kp b o n2 ((so.2.1 b n1).trans q),fun b o n q=>?_,fun b o q=>?_⟩ ⟨_,e4,by simpa using g2,.inr ⟨h1.objs.size,_,_,by simp [g2],nT,t4,Obj.data_mapFields ht _,by simp [xu]⟩⟩
  ·obtain ⟨sl,q'⟩:=so.2.2 b o q
   exact ⟨sl,kp b _ n q'⟩
  ·by_cases n:b=e
   ·subst n;exact ⟨_,e4⟩
   ·obtain ⟨sl,q'⟩:=so.2.2 b o q
    exact ⟨_,kp b _ n q'⟩
 unfold noteFrame
 simp only [hf]
 rcases g3 with v1 | ⟨T,oT,ts,v1,ne,hT,ht,h3⟩
 ·refine QS (wpAny_field g1 rfl v1 ?_)
  rw [if_neg (by decide)]
  exact core s _ _ hl g1 h
 ·refine QS (wpAny_field g1 rfl v1 ?_)
  rw [if_pos (show (Value.ref T !=Value.none)=true from by simp)]
  refine QS (wpAny_field hT ht h3 ?_)
  rw [if_neg (show ¬((Value.none==rawInt L)=true) from by simp [rawInt])]
  refine QS (wpAny_setField hT ht (Array.getElem?_eq_some_iff.mp h3).1 ?_)
  have same:Obj.mapFields (·.setIfInBounds 3 Value.none) oT=oT:=by
   obtain ⟨oc,od,GG,gv⟩:=oT
   have ht:GG=.fields ts:=ht
   subst ht
   have:ts.setIfInBounds 3 Value.none=ts:=by
    obtain ⟨h4,h5⟩:=Array.getElem?_eq_some_iff.mp h3
    rw [<- h5,Array.setIfInBounds_def,dif_pos h4]
    exact Array.set_getElem_self h4
   show Obj.mk oc od (.fields (ts.setIfInBounds 3 Value.none)) gv=_
   rw [this]
  have tT:=Heap.get?_update_self (Obj.mapFields (·.setIfInBounds 3 Value.none)) hT (Obj.isFreed_of_fields (Obj.data_mapFields ht _))
  rw [same] at tT
  have ot:∀ b,(s.heap.update T (Obj.mapFields (·.setIfInBounds 3 Value.none))).get? b=s.heap.get? b:=fun b=>by
   by_cases z:b=T
   ·rw [z,tT,hT]
   ·exact Heap.get?_update_other _ _ (Ne.symm z)
  refine core {s with heap:=s.heap.update T (Obj.mapFields (·.setIfInBounds 3 Value.none))} _ _ (hl.of_keeps fun b o hb Vy=>⟨o,(ot b).trans hb,rfl⟩) ((ot e).trans g1) fun h' tb q n f=>h h' tb ((ot tb).symm.trans q) ⟨fun b o x y hb=>n.keep b o x y ((ot b).trans hb),fun b o x hb=>n.slot b o x ((ot b).trans hb),fun b o hb=>n.Ez b o ((ot b).trans hb)⟩ f
end
def jp (C:Addr) (dct:Option Addr) (e:Addr):HO:=.ext fun h=>qp h e C dct
def nj (C:Addr) (dct:Option Addr) (e:Addr):HO:=.ext fun h=>∃ vs:Array Value,h.get? e=some {cls:=.ref C,dict:=dct,data:=.fields vs}
theorem rP {e:Addr} (x:qp h e C dct):bx P w H h e (jp C dct e):=⟨x,let ⟨_,q⟩:=x;⟨_,q⟩,fun h1 h2 ⟨t,q⟩ k=>⟨t,k _ q⟩⟩
theorem Q0 {e:Addr} (x:vq h e C dct):bx P w H h e (nj C dct e):=let ⟨_,q,_⟩:=x;⟨⟨_,q⟩,⟨_,q⟩,fun h1 h2 ⟨t,q⟩ k=>⟨t,k _ q⟩⟩
def jq (P:Program) (w:World):om:=fun outer H s E ev s'=>∃ (e C:Addr) (dct:Option Addr) (H':Hp),ev=.ref e/\s'.os=s.os/\AllBare s'.gens/\Un (ef outer) [] H H' s.heap s'.heap/\bw P w H' s'.heap/\H' e=some (nj C dct e)/\vq s'.heap e C dct/\E (.ref e) dct H'
section
variable {e:Addr}
theorem bw.noted {fr:List Addr} {u:HO} (x:bw P w H h) (n:GF fr e h h') (hf:∀ b∈fr,H b=none) (he:H e=some u) (nt:∀ xs,H e≠some (.tup xs)) (nz:∀ o v,H e≠some (.h_ o v)) (no:∀ y,H e≠some (.own y)) (f:vq h' e C dct):bw P w (upd H e (nj C dct e)) h':=by
 intro b o q
 by_cases z:b=e
 ·subst z;rw [aA] at q;cases q;exact Q0 f
 ·rw [aK z] at q
  refine (x b o q).stay (fun c v hc g=>?_) (fun c g=>?_) fun c xs g=>g.upd fun u hu z=>?_
  ·have hn:∃ k,H c=some k:=by
    rcases hc with rfl | hc
    ·exact ⟨_,q⟩
    ·exact ⟨_,hc⟩
   obtain ⟨k,hk⟩:=hn
   refine n.keep c v (fun w=>by rw [hf c w] at hk;cases hk) (fun w=>?_) g
   rcases hc with rfl | hc
   ·exact z w
   ·rw [w] at hc;exact no _ hc
  ·rw [aK fun w=>no _ (by rw [<- w];exact g)];exact g
  ·subst z
   rcases g with g | ⟨o',g⟩
   ·exact nt _ g
   ·exact nz _ _ g
theorem xB {K:QZ} {f:Addr} {cd:Value} {s0:Shared} {E:XK}
  (I:Inv (gu (jq P w) P w K mg base N qual scope f cd A outer s0 H0 E) pins σ H s) (he:H e=some (jp C dct e)) (q:E (.ref e) dct (upd H e (nj C dct e))):
  (gu (jq P w) P w K mg base N qual scope f cd A outer s0 H0 E).xe (.ref e) s:=by
 have hx:qp s.heap e C dct:=(show bx P w H s.heap e (jp C dct e) from I.hok e _ he).1
 have fr:∀ b∈ef (envOfC qual scope s0.heap.objs.size f cd::outer),H b=none:=I.Ck
 have yz:e ∉ ef (envOfC qual scope s0.heap.objs.size f cd::outer):=fun z=>by rw [fr e z] at he;cases he
 show wpAny _ _ (leaving _ _) _ _ s
 unfold leaving
 refine QS (jR (base:=base) (outer:=outer) (L:=s0.heap.objs.size) I.ok.frames I.stack rfl hx.QW yz fun h' tb _ n fl=>?_)
 refine ⟨e,C,dct,upd H e (nj C dct e),rfl,I.os,I.bare,?_,bw.noted I.hok n fr he (fun xs z=>by rw [he] at z;cases z) (fun o v z=>by rw [he] at z;cases z) (fun y z=>by rw [he] at z;cases z) fl,aA,fl,q⟩
 have B:Un (ef outer) [] H0 H s0.heap s.heap:=I.base
 have nL:∀ b o,s0.heap.get? b=some o->b ∉ ef outer->b ∉ ef (envOfC qual scope s0.heap.objs.size f cd::outer):=fun b o q hb z=>by
  have z':b∈s0.heap.objs.size::ef outer:=z
  rcases Qp.mp z' with z' | z'
  ·exact absurd (Qz q) (by rw [z'];exact Nat.lt_irrefl _)
  ·exact hb z'
 have ne:∀ {b},H b=none->b≠e:=fun hb z=>by rw [z,he] at hb;cases hb
 refine ⟨fun b o q hn hb hx=>n.keep b o (nL b o q hb) (ne (B.free b o q hn hx)) (B.keep b o q hn hb hx),fun b o q hn hb hx=>?_,fun b o q hn hx=>by rw [aK (ne (B.free b o q hn hx))];exact B.free b o q hn hx,fun b o q hx=>?_,fun b xs q=>?_,fun b o u q=>?_,fun b ps q=>?_⟩
 ·obtain ⟨sl,q'⟩:=B.slot b o q hn hb hx
  obtain ⟨zw,GH⟩:=n.slot b _ (ne (B.free b o q hn hx)) q'
  exact ⟨zw,GH⟩
 ·obtain ⟨o',q'⟩:=B.there b o q hx
  exact n.Ez b o' q'
 ·have:=B.tups b xs q
  rw [aK fun z=>by rw [z,he] at this;cases this];exact this
 ·have:=B.jv b o u q
  rw [aK fun z=>by rw [z,he] at this;cases this];exact this
 ·obtain ⟨mo,this⟩:=B.ku b ps q
  exact ⟨mo,by rw [aK fun z=>by rw [z,he] at this;cases this];exact this⟩
theorem vt {Q:Unit->Shared->Prop} {E':Value->Shared->Prop} {E:XK} {ev:Value} (I:Inv X pins σ H s) (hst:X.stack=X.env::X.outer) (j_:X.env.frame=some X.env.locals) (c:jq X.prog X.w X.stack H s E ev s')
  (k:∀ (e C:Addr) (dct:Option Addr) (H':Hp) (s2:Shared),ev=.ref e->Inv X pins σ H' s2->H' e=some (nj C dct e)->E (.ref e) dct H'->vq s2.heap e C dct->Q () s2):
  wpAny (model X.prog X.w) X.A (noteFrame ev X.env) (fun _ s1=>wpAny (model X.prog X.w) X.A (setFlight ev none) Q E' s1) E' s':=by
 obtain ⟨e,C,dct,H',rfl,os,bare,un,hok,he,fl,q⟩:=c
 have I1:=I.Fw os un hok bare (fun b z=>absurd z (by simp))
 have fr:∀ b∈ef X.stack,H' b=none:=I1.Ck
 have yz:e ∉ ef X.stack:=fun z=>by rw [fr e z] at he;cases he
 have fk:=I1.ok.frames
 have sk:=I1.stack
 rw [hst] at fr yz fk sk
 refine jR fk sk j_ fl yz fun h' tb _ n CT=>?_
 have Au:=bw.noted hok n fr he (fun xs z=>by rw [he] at z;cases z) (fun o v z=>by rw [he] at z;cases z) (fun y z=>by rw [he] at z;cases z) CT
 rw [lV he] at Au
 have ne:∀ {b},H' b=none->b≠e:=fun hb z=>by rw [z,he] at hb;cases hb
 have Q2:ef (X.env::X.outer)=X.env.locals::X.fs:=by unfold ef;rw [List.filterMap_cons,j_];rfl
 have I2:Inv X pins σ H' {s' with heap:=h',gens:=s'.gens,drawn:=s'.drawn,toks:=s'.toks}:=by
  refine I1.step (ch:=[]) (fun _ z=>nomatch z) (fun b o h1 h2 _ g hn=>n.keep b o (fun z=>?_) (ne hn) g) (fun b o _ _ _ g hn=>n.slot b o (ne hn) g) (fun b o _ g hn=>hn) (fun b o _ g=>n.Ez b o g) (fun _ _ g=>g) (fun _ _ _ g=>g) (fun b ps g=>⟨#[],by rw [g];simp⟩) (fun m hm=>?_) Au I1.bare
  ·rw [show (X.env::X.outer).filterMap (·.frame)=X.env.locals::X.fs from Q2] at z
   rcases Qp.mp z with z | z
   ·exact h1 z
   ·exact h2 z
  ·obtain ⟨o,es,ep,ho,hd,r⟩:=hm
   obtain ⟨sl,q'⟩:=n.slot _ o (ne I1.free) ho
   exact ⟨_,es,ep,q',hd,r⟩
 exact k e C dct H' _ rfl I2 he q CT
end
end L2
namespace L2
open PySem PySem.Spec PyProof.Rows PySem.W
abbrev Cx.vt (X:Cx) (e:Addr):Cx:={X with A:=X.A.mark (some (.ref e)),calm:=false,xe:=fun _ _=>False}
section
variable {e CC:Addr}
theorem Inv.vt (I:Inv X pins σ H s) (e:Addr):Inv (X.vt e) pins σ H s:=
 ⟨⟨I.ok.mod,I.ok.kind,I.ok.glob,I.ok.blt,I.ok.above,I.ok.inj,I.ok.has,I.ok.zx,(fun z=>nomatch z),I.ok.frames,I.ok.Bb,I.ok.DI,I.ok.bs,I.ok.rq,I.ok.zy,I.ok.Bc,I.ok.mj,I.ok.w_⟩,I.os,I.bare,I.base,I.loc,I.cell,I.free,I.mq,I.pin,I.hok,I.len⟩
theorem Inv.uncaught (I:Inv (X.vt e) pins σ H s) (ok:X.Ok):Inv X pins σ H s:=⟨ok,I.os,I.bare,I.base,I.loc,I.cell,I.free,I.mq,I.pin,I.hok,I.len⟩
structure EA (K:Frag) (CC:Addr):Prop where
 ty:typeIn K (.ref CC)=some (.type "type")
 tu:subIn K (.type "type") (.type "tuple")=some false
 cl:∃ cd,clsIn K CC=some cd
 ex:subIn K (.ref CC) (.type "BaseException")=some true
theorem z3 (x:bw P w H s.heap) (he:H e=some (nj C dct e)):∃ vs:Array Value,s.heap.get? e=some {cls:=.ref C,dict:=dct,data:=.fields vs}:=(show bx P w H s.heap e (nj C dct e) from x e _ he).1
theorem sK {o:Obj} (q:h.get? e=some o):Looks M h (typeOf (.ref e)) o.cls:=(Looks.ld q).andThen .now
theorem vP {K:Frag} {b:Bool} {Q:Bool->Shared->Prop} {o:Obj} (X:K.In s.heap) (N:EA K CC) (hs:subIn K (.ref C) (.ref CC)=some b) (ho:s.heap.get? e=some o) (hc:o.cls=.ref C) (q:Q b s):
  wpAny M A (excMatches (.ref e) (.ref CC)) Q E s:=by
 have t1:Looks M s.heap (isInstance (.ref CC) (.type "tuple")) false:=(looks_typeIn X N.ty).andThen (looks_subIn X N.tu)
 have t2:Looks M s.heap (isType (.ref CC)) true:=by
  obtain ⟨cd,hc⟩:=N.cl
  unfold clsIn at hc
  split at hc
  ·rename_i ho;cases hc;exact (Looks.ld (part:=some headPart) (X _ _ ho)).andThen .now
  ·cases hc
 have t3:Looks M s.heap (isExcClass (.ref CC)) true:=t2.andThen (by rw [if_pos rfl];exact looks_subIn X N.ex)
 have t4:Looks M s.heap (typeOf (.ref e)) (.ref C):=by rw [<- hc];exact sK ho
 unfold excMatches
 refine QS (t1.here ?_)
 dsimp only
 rw [if_neg (by decide)]
 refine QS (QT ?_)
 simp only [List.forIn_cons,List.forIn_nil]
 refine QS (QS (QS (t3.here ?_)))
 refine QT (QT (QS (t4.here ?_)))
 refine QS (QS (QS ((looks_subIn X hs).here ?_)))
 cases b with
 | true=>exact QT (QT (QT q))
 | false=>exact QT (QT (QT q))
def PH (X:Cx) (hs:List ExceptHandler) (th:Addr->Addr->Option Addr->TS):Prop:=
 ∀ (pins:List (Addr×Obj)) (s:Shared) (σ:St) (H:Hp) (D:Ends) (e C:Addr) (dct:Option Addr),Inv X pins σ H s->H e=some (nj C dct e)->vq s.heap e C dct->th e C dct D σ H->wpAny (model X.prog X.w) X.A (handleBy (.ref e) X.env hs) (SP X pins D) X.xe s
def J7:Addr->Addr->Option Addr->TS:=fun _ _ _ _ _ _=>False
theorem Q3:PH X [] J7:=fun _ _ _ _ _ _ _ _ _ _ _ h=>h.elim
theorem kG {Q:Unit->Shared->Prop} (f:vq s.heap e C dct) (h:∀ h',(∀ b,h'.get? b=s.heap.get? b)->Q () {s with heap:=h'}):wpAny M A (setFlight (.ref e) none) Q E s:=by
 obtain ⟨vs,g1,g2,g3⟩:=f
 unfold setFlight
 rcases g3 with v1 | ⟨T,oT,ts,v1,ne,hT,ht,h3⟩
 ·refine QS (wpAny_field g1 rfl v1 ?_)
  rw [if_neg (by decide)]
  exact QT (h s.heap fun _=>rfl)
 ·refine QS (wpAny_field g1 rfl v1 ?_)
  rw [if_pos (show (Value.ref T !=Value.none)=true from by simp)]
  refine wpAny_setField hT ht (Array.getElem?_eq_some_iff.mp h3).1 (h _ fun b=>?_)
  have same:Obj.mapFields (·.setIfInBounds 3 Value.none) oT=oT:=by
   obtain ⟨oc,od,GG,gv⟩:=oT
   have ht:GG=.fields ts:=ht
   subst ht
   have:ts.setIfInBounds 3 Value.none=ts:=by
    obtain ⟨h4,h5⟩:=Array.getElem?_eq_some_iff.mp h3
    rw [<- h5,Array.setIfInBounds_def,dif_pos h4]
    exact Array.set_getElem_self h4
   show Obj.mk oc od (.fields (ts.setIfInBounds 3 Value.none)) gv=_
   rw [this]
  by_cases z:b=T
  ·subst z
   have tT:=Heap.get?_update_self (Obj.mapFields (·.setIfInBounds 3 Value.none)) hT (Obj.isFreed_of_fields (Obj.data_mapFields ht _))
   rw [same] at tT
   exact tT.trans hT.symm
  ·exact Heap.get?_update_other _ _ (Ne.symm z)
end
theorem yV {C' e:Addr} {d d':Option Addr} (h:nj C d e=nj C' d' e):C=C'/\d=d':=by
 have h1:=HO.ext.inj h
 let hp:Heap:={objs:=Array.replicate (e+1) {cls:=.ref C,dict:=d,data:=.fields #[]}}
 have g:hp.get? e=some {cls:=.ref C,dict:=d,data:=.fields #[]}:=by
  rw [Heap.get?_some_iff]
  exact ⟨by simp [hp],rfl⟩
 have h2:∃ vs:Array Value,hp.get? e=some {cls:=.ref C',dict:=d',data:=.fields vs}:=(congrFun h1 hp)▸⟨_,g⟩
 obtain ⟨vs,q⟩:=h2
 rw [g] at q
 injection q with q
 injection q with a b
 injection a with a
 exact ⟨a,b⟩
def vy (P:Program) (w:World) (K:Frag) (mg:Str->Option Value) (base:Heap) (k:Nat) (x:Str) (ps:List Str) (sp:Sp):Prop:=
 ∃ (f:Addr) (fd:FuncData),jl P w K mg base (jq P w) k f fd ps sp/\mg x=some (.ref f)/\keepIn K (.ref f)=true/\Binds K fd ps []/\∃ (oc:Value) (od:Option Addr) (gv:Array (Option Value)),K.lookup f=some ⟨oc,od,.func fd,gv⟩
section
variable {k:Nat} {p epos pos yp:Pos} {h0:ExceptHandler} {hs:List ExceptHandler}
abbrev GI (th:Addr->Addr->Option Addr->TS) (D:Ends) (σ:St):XK:=fun ev dct H2=>∀ e C,ev=.ref e->H2 e=some (nj C dct e)->th e C dct D σ H2
theorem w5 {Q:VK} {R:Value->Shared->Prop} (F:vy X.prog X.w X.K X.mg X.base k x ps sp) (hr:cy k X.A) (hg:Gl X x) (ha:PA X.sj (e::es) ta) (hh:PH X (h0::hs) th) (hst:X.stack=X.env::X.outer) (j_:X.env.frame=some X.env.locals)
  (I:Inv X pins σ H s) (h:ta σ H fun vs H1=>sp vs H1 Q (GI th D σ)) (k1:∀ v u H2 s2,Inv X pins σ H2 s2->RelV v u->Q v H2->R u s2)
  (dw:(x==("__debug__":Str))=false) (he:starEach (e::es) X.env=(false,eval e X.env)::starEach es X.env) (hpl:(backTo cpos (starEach es X.env)).any (·.1)=false):
  wpAny (model X.prog X.w) X.A (eval (.Call (.Name x p) (e::es) [] cpos) X.env) R (fun ev s1=>wpAny (model X.prog X.w) X.A (noteFrame ev X.env) (fun _ s₂=>wpAny (model X.prog X.w) X.A (setFlight ev none) (fun _ s₃=>wpAny (model X.prog X.w) X.A (handleBy ev X.env (h0::hs)) (SP X pins D) X.xe s₃) X.xe s₂) X.xe s1) s:=by
 obtain ⟨f,fd,F,hm,hk,hb,_⟩:=F
 refine wpAny_Call_Name_kw (dR I hg hm ?_ dw)
 have In:Inv X.sj pins σ H s:=⟨⟨I.ok.mod,I.ok.kind,I.ok.glob,I.ok.blt,I.ok.above,I.ok.inj,I.ok.has,I.ok.zx,I.ok.hd,I.ok.frames,I.ok.Bb,I.ok.DI,I.ok.bs,I.ok.rq,I.ok.zy,I.ok.Bc,I.ok.mj,I.ok.w_⟩,I.os,I.bare,I.base,I.loc,I.cell,I.free,I.mq,I.pin,I.hok,I.len⟩
 refine callWith_K (h₀:=X.base) I.ok.mod.A_ hk (wpAny_mono (ha cpos pins s σ H _ In h) (fun us s1 q=>?_) fun _ _ z=>z.elim) he hpl
 obtain ⟨vs,H1,I1,r,q⟩:=q
 have I1:Inv X pins σ H1 s1:=⟨I.ok,I1.os,I1.bare,I1.base,I1.loc,I1.cell,I1.free,I1.mq,I1.pin,I1.hok,I1.len⟩
 refine ⟨I1.fz,?_⟩
 have hl:us.length=ps.length:=by rw [<- r.length];exact F.len _ _ _ _ q
 refine wpAny_call (codeAny_mono (F.run X.A X.stack s1 H1 ⟨us,[]⟩ us vs Q (GI th D σ) hr I1.DW (by have:=hb s1 us I1.fz (by simpa using hl);simpa using this) r q) fun r s' hq=>?_)
 cases r with
 | error ev=>exact vt I1 hst j_ hq fun e C dct H' s2 ee I2 y_ q' fl=>by subst ee;exact hh pins s2 σ H' D e C dct I2 y_ fl (q' e C rfl y_)
 | ok fl=>
  cases fl with
  | ret u=>
   obtain ⟨v,H2,I2,rv,q2⟩:=I1.after hq
   exact k1 v u H2 s' I2 rv q2
  | next=>exact hq.elim
  | brk=>exact hq.elim
  | cont=>exact hq.elim
def J8 (i:Nat) (sp:Sp) (ta:TA) (th:Addr->Addr->Option Addr->TS):TS:=fun D σ H=>ta σ H fun vs H1=>sp vs H1 (fun v H2=>D.nx (σ.set i (some v)) H2) (GI th D σ)
theorem xM (F:vy X.prog X.w X.K X.mg X.base k x ps sp) (hr:cy k X.A) (hg:Gl X x) (ha:PA X.sj (e::es) ta) (hh:PH X (h0::hs) th) (hst:X.stack=X.env::X.outer) (j_:X.env.frame=some X.env.locals)
  (hN:X.N.Nodup) (hi:X.N[i]? =some y) (hy:X.env.scope.names.lookup y=some .local)
  (dw:(x==("__debug__":Str))=false:=by decide) (he:starEach (e::es) X.env=(false,eval e X.env)::starEach es X.env:=by rfl) (hpl:(backTo cpos (starEach es X.env)).any (·.1)=false:=by rfl)
  (xq:swapsWith (.Call (.Name x p) (e::es) [] cpos) (some (.Name y yp)) epos.line X.env=pure false:=by rfl):PS X (.Try [.Assign [.Name y yp] (.Call (.Name x p) (e::es) [] cpos) epos] (h0::hs) [] [] pos) (J8 i sp ta th):=by
 intro pins s σ H D I h
 refine wpAny_Try_except (wpAny_execs_cons (wpAny_Assign_Name (w5 (Q:=fun v H2=>D.nx (σ.set i (some v)) H2) F hr hg ha hh hst j_ I h (fun v u H2 s2 I2 rv q=>?_) dw he hpl) xq))
 exact gZ I2 hN hi (.inl hy) rv (fun s3 I3 _=>wpAny_execs_nil (wpAny_execs_nil ⟨_,H2,I3,q⟩)) (.inr hy)
end
end L2
namespace L2
open PySem PySem.Spec PySem.W PyProof.Rows
def GJ:Data->Bool
 | .freed=>false
 | _=>true
def Ay:Nat->List Obj->Frag
 | _,[]=>[]
 | n,o::os=>if GJ o.data then (n,o)::Ay (n+1) os else Ay (n+1) os
def GK (h:Heap):Frag:=Ay 0 h.objs.toList
theorem fJ:∀ {os:List Obj} {n a:Nat} {o:Obj},(Ay n os).lookup a=some o->n<=a/\os[a - n]? =some o/\GJ o.data=true
 | [],n,a,o,h=>by simp [Ay] at h
 | x::os,n,a,o,h=>by
  unfold Ay at h
  have next:(Ay (n+1) os).lookup a=some o->n<=a/\(x::os)[a - n]? =some o/\GJ o.data=true:=fun h=>by
   obtain ⟨h1,h2,h3⟩:=fJ h
   refine ⟨by omega,?_,h3⟩
   obtain ⟨k,hk⟩:∃ k,a - n=k+1:=⟨a - n - 1,by omega⟩
   rw [hk,List.getElem?_cons_succ,<- h2]
   congr 1;omega
  split at h
  ·rename_i hf
   rw [List.lookup_cons] at h
   split at h
   ·rename_i e
    obtain rfl:a=n:=by simpa using e
    cases h
    exact ⟨Qy _,by simp,hf⟩
   ·exact next h
  ·exact next h
theorem sI (h:Heap):(GK h).In h:=fun a o e=>by
 obtain ⟨_,h2,h3⟩:=fJ e
 have Bp:h.objs[a]? =some o:=by rw [<- Array.getElem?_toList];simpa using h2
 unfold Heap.get?
 rw [Bp]
 obtain ⟨c,d,dt,sl⟩:=o
 cases dt<;>first | rfl | cases h3
def qt {α:Type} (look:Frag->α) (want:World->α):Hook where
 α:=α
 obs s:=look (GK s.heap)
 val:=want
 says w h:=∃ K:Frag,K.In h/\look K=want w
 of:=fun w s e=>⟨GK s.heap,sI _,e⟩
 keeps:=fun w h h' ⟨K,x,e⟩ k=>⟨K,fun a o l=>k a o (x a o l),e⟩
theorem vA {p q:Program} {Xt:Shared->Bool} {Yf:Shared->α} {Ya:World->α} {N:Nat} {g0:Bool} (row:String)
  (hF:∀ w:World,(openEnds treeTable p (w.withFollow row false) N).map (fun s=>(openSeen q loose (importedModules p.main.body) Xt g0 s,Yf s))=some (openGood q loose,Ya (w.withFollow row false)))
  (hT:∀ w:World,(openEnds treeTable p (w.withFollow row true) N).map (fun s=>(openSeen q loose (importedModules p.main.body) Xt g0 s,Yf s))=some (openGood q loose,Ya (w.withFollow row true))):LeftO p q loose Xt Yf Ya N g0:=fun w=>by
 have e:=World.withFollow_self w row
 cases hb:w.params.followText row<;>rw [hb] at e
 ·have:=hF w;rw [e] at this;exact this
 ·have:=hT w;rw [e] at this;exact this
abbrev Az:=Str×Str×Arguments×FuncBody×Scope×Addr×List (Str×Addr)×Value×Addr×Bool
def fnAt (K:Frag) (q:Str):Option (Option Value)->Option Az
 | some (some (.ref f))=>(match K.lookup f with
  | some ⟨_,_,.func fd,_⟩=>some (fd.name,fd.qualname,fd.params,fd.body,fd.scope,fd.globals,fd.closure,fd.defaults,fd.builtins,codeIn K fd.code q)
  | _=>none)
 | _=>none
def AA (x q:Str) (st:Stmt):Az:=(x,q,lj st,.stmts (ir st),az st,mainGlobals,[],.none,builtinsNs,true)
def xy (K:Frag):List (Str×Stmt)->List (Option Az)
 | []=>[]
 | x::l=>fnAt K x.1 (nsIn K mainGlobals x.1)::xy K l
def x_:List (Str×Stmt)->List (Option Az)
 | []=>[]
 | x::l=>some (AA x.1 x.1 x.2)::x_ l
def EB (K:Frag) (x:Str):Option V:=match nsIn K mainGlobals x with
 | some (some v)=>xf v
 | _=>none
def EC (K:Frag):List (Str×V)->List (Option V)
 | []=>[]
 | x::l=>EB K x.1::EC K l
def ED:List (Str×V)->List (Option V)
 | []=>[]
 | x::l=>some x.2::ED l
abbrev BC:=Value×Option Addr×List (Option V)
def EE:List Value->List (Option V)
 | []=>[]
 | v::l=>xf v::EE l
def EF:List V->List (Option V)
 | []=>[]
 | v::l=>some v::EF l
def CU (K:Frag):Value->Option BC
 | .ref a=>(match K.lookup a with
  | some ⟨c,d,.seq it _,_⟩=>some (c,d,EE it.toList)
  | _=>none)
 | _=>none
def BD (xs:List V):BC:=(.type "tuple",none,EF xs)
def Q4 (K:Frag) (x:Str):Option BC:=match nsIn K mainGlobals x with
 | some (some v)=>CU K v
 | _=>none
def J9 (K:Frag):List (Str×List V)->List (Option BC)
 | []=>[]
 | x::l=>Q4 K x.1::J9 K l
def J_:List (Str×List V)->List (Option BC)
 | []=>[]
 | x::l=>some (BD x.2)::J_ l
def BE (K:Frag):List Str->Bool
 | []=>true
 | x::l=>(match nsIn K mainGlobals x with | some none=>true | _=>false)&&BE K l
section
variable {K:Frag}
theorem fN {v:Value} {x:V} (e:xf v=some x):RelV x v:=by
 cases v<;>first | (cases e;first | rfl | exact ⟨_,rfl⟩) | cases e
theorem nI:∀ {us:List Value} {xs:List V},EE us=EF xs->au xs us
 | [],[],_=>.nil
 | [],_::_,e=>by cases e
 | _::_,[],e=>by cases e
 | u::us,x::xs,e=>by
  have e':=List.cons.inj (show xf u::EE us=some x::EF xs from e)
  exact .cons (fN e'.1) (nI e'.2)
theorem sY {q:Str} {st:Stmt} {v:Option (Option Value)} (e:fnAt K q v=some (AA x q st)):∃ f fd,v=some (some (.ref f))/\yt K x q st f fd:=by
 unfold fnAt at e
 split at e
 ·rename_i f
  split at e
  ·rename_i oc od fd gv hl
   have e:=QD e
   unfold AA at e
   obtain ⟨n,qn,ps,b,sc,gl,cl,df,kd,doc,pm,an,cd,ct,bt⟩:=fd
   simp only [Prod.mk.injEq] at e
   obtain ⟨rfl,rfl,rfl,rfl,rfl,rfl,rfl,rfl,rfl,hc⟩:=e
   refine ⟨f,_,rfl,NT hl hc ?_⟩
   unfold keepIn
   simp only [hl]
  ·cases e
 ·cases e
theorem tQ:∀ {l:List (Str×Stmt)},xy K l=x_ l->∀ (i:Nat) {x:Str} {st:Stmt},l[i]? =some (x,st)->fnAt K x (nsIn K mainGlobals x)=some (AA x x st)
 | y::l,e,0,x,st,h=>by cases h;exact (List.cons.inj e).1
 | y::l,e,i+1,x,st,h=>tQ (List.cons.inj e).2 i (by simpa using h)
theorem lO (X:K.In h) (G:h.Ns mainGlobals mg) {l:List (Str×Stmt)} (e:xy K l=x_ l) (i:Nat) {st:Stmt} (hi:l[i]? =some (x,st))
  (hb:∀ (kV doc pm:Value) (an:Option Addr) (ao ct:Value) (us:List Value),us.length=ps.length->bindArgs (fnOf x x (lj st) (ir st) (az st) .none kV doc pm an ao ct) ⟨us,[]⟩=pure (ps.zip us)):b_ K mg x st ps:=by
 obtain ⟨f,fd,e1,F⟩:=sY (tQ e i hi)
 exact ⟨f,fd,F,mg_of X G e1,F.binds hb⟩
variable {st:Stmt} {l:List (Str×Stmt)} {p0 p1 p2 p3 p4 p5 p6:Str}
theorem Q5 (X:K.In h) (G:h.Ns mainGlobals mg) (e:xy K l=x_ l) (i:Nat) (hi:l[i]? =some (x,st):=by rfl)
  (hb:∀ (kV doc pm:Value) (an:Option Addr) (ao ct:Value),bindArgs (fnOf x x (lj st) (ir st) (az st) .none kV doc pm an ao ct) ⟨[],[]⟩=pure []:=by intros;rfl):b_ K mg x st []:=
 lO X G e i hi fun a b c d f g us hl=>by obtain rfl:=QR hl;exact hb ..
theorem o_ (h:us.length=n+1):∃ a t,us=a::t/\t.length=n:=by
 cases us with
 | nil=>cases h
 | cons a t=>exact ⟨a,t,rfl,by simpa using h⟩
theorem qu (X:K.In h) (G:h.Ns mainGlobals mg) (e:xy K l=x_ l) (i:Nat) (hi:l[i]? =some (x,st):=by rfl)
  (hb:∀ (kV doc pm:Value) (an:Option Addr) (ao ct a0:Value),bindArgs (fnOf x x (lj st) (ir st) (az st) .none kV doc pm an ao ct) ⟨[a0],[]⟩=pure [(p0,a0)]:=by intros;rfl):b_ K mg x st [p0]:=
 lO X G e i hi fun a b c d f g us hl=>by
  obtain ⟨a0,ya,rfl,kg⟩:=o_ (n:=0) hl
  obtain rfl:=QR kg
  exact hb ..
theorem ug (X:K.In h) (G:h.Ns mainGlobals mg) (e:xy K l=x_ l) (i:Nat) (hi:l[i]? =some (x,st):=by rfl)
  (hb:∀ (kV doc pm:Value) (an:Option Addr) (ao ct a0 a1:Value),bindArgs (fnOf x x (lj st) (ir st) (az st) .none kV doc pm an ao ct) ⟨[a0,a1],[]⟩=pure [(p0,a0),(p1,a1)]:=by intros;rfl):b_ K mg x st [p0,p1]:=
 lO X G e i hi fun a b c d f g us hl=>by
  obtain ⟨a0,ya,rfl,kg⟩:=o_ (n:=1) hl
  obtain ⟨a1,GL,rfl,fg⟩:=o_ (n:=0) kg
  obtain rfl:=QR fg
  exact hb ..
theorem EG (X:K.In h) (G:h.Ns mainGlobals mg) (e:xy K l=x_ l) (i:Nat) (hi:l[i]? =some (x,st):=by rfl)
  (hb:∀ (kV doc pm:Value) (an:Option Addr) (ao ct a0 a1 a2:Value),bindArgs (fnOf x x (lj st) (ir st) (az st) .none kV doc pm an ao ct) ⟨[a0,a1,a2],[]⟩=pure [(p0,a0),(p1,a1),(p2,a2)]:=by intros;rfl):b_ K mg x st [p0,p1,p2]:=
 lO X G e i hi fun a b c d f g us hl=>by
  obtain ⟨a0,ya,rfl,kg⟩:=o_ (n:=2) hl
  obtain ⟨a1,GL,rfl,fg⟩:=o_ (n:=1) kg
  obtain ⟨a2,Q6,rfl,i_⟩:=o_ (n:=0) fg
  obtain rfl:=QR i_
  exact hb ..
theorem GN (X:K.In h) (G:h.Ns mainGlobals mg) (e:xy K l=x_ l) (i:Nat) (hi:l[i]? =some (x,st):=by rfl)
  (hb:∀ (kV doc pm:Value) (an:Option Addr) (ao ct a0 a1 a2 a3 a4:Value),bindArgs (fnOf x x (lj st) (ir st) (az st) .none kV doc pm an ao ct) ⟨[a0,a1,a2,a3,a4],[]⟩=pure [(p0,a0),(p1,a1),(p2,a2),(p3,a3),(p4,a4)]:=by intros;rfl):b_ K mg x st [p0,p1,p2,p3,p4]:=
 lO X G e i hi fun a b c d f g us hl=>by
  obtain ⟨a0,ya,rfl,kg⟩:=o_ (n:=4) hl
  obtain ⟨a1,GL,rfl,fg⟩:=o_ (n:=3) kg
  obtain ⟨a2,Q6,rfl,i_⟩:=o_ (n:=2) fg
  obtain ⟨a3,Vz,rfl,Q7⟩:=o_ (n:=1) i_
  obtain ⟨a4,VA,rfl,CV⟩:=o_ (n:=0) Q7
  obtain rfl:=QR CV
  exact hb ..
theorem Q8 (X:K.In h) (G:h.Ns mainGlobals mg) {v:V} (e:EB K x=some v):∃ u,mg x=some u/\RelV v u:=by
 unfold EB at e
 split at e
 ·rename_i u hn;exact ⟨u,mg_of X G hn,fN e⟩
 ·cases e
theorem pP:∀ {l:List (Str×V)},EC K l=ED l->∀ (i:Nat) {x:Str} {v:V},l[i]? =some (x,v)->EB K x=some v
 | y::l,e,0,x,st,h=>by cases h;exact (List.cons.inj e).1
 | y::l,e,i+1,x,st,h=>pP (List.cons.inj e).2 i (by simpa using h)
theorem vl (X:K.In h) (G:h.Ns mainGlobals mg) {l:List (Str×V)} (e:EC K l=ED l) (i:Nat) {v:V} (hi:l[i]? =some (x,v):=by rfl):∃ u,mg x=some u/\RelV v u:=Q8 X G (pP e i hi)
theorem w6 {v:Value} {xs:List V} (e:CU K v=some (BD xs)):∃ (a:Addr) (it:Array Value) (n:Nat) (sq:Array (Option Value)),v=.ref a/\K.lookup a=some ⟨.type "tuple",none,.seq it n,sq⟩/\au xs it.toList:=by
 unfold CU at e
 split at e
 ·rename_i a
  split at e
  ·rename_i c d it n sl hl
   have e:=QD e
   unfold BD at e
   simp only [Prod.mk.injEq] at e
   obtain ⟨rfl,rfl,e3⟩:=e
   exact ⟨a,it,n,sl,rfl,hl,nI e3⟩
  ·cases e
 ·cases e
theorem Q9 {it:Array Value} {d:Option Addr} {sq:Array (Option Value)} {xs:List V} (hl:K.lookup a=some ⟨.type "tuple",d,.seq it n,sq⟩) (hv:au xs it.toList) (hz:xs.length<=sizeLine) (H:Hp):ae K H a xs:=
 .inr ⟨_,it,n,hl,rfl,rfl,by have:=hv.length;simp at this;omega,hv⟩
theorem pO:∀ {l:List Str},BE K l=true->∀ (i:Nat) {x:Str},l[i]? =some x->nsIn K mainGlobals x=some none
 | y::l,e,0,x,h=>by
  cases h
  unfold BE at e
  rw [Bool.and_eq_true_iff] at e
  have e:=e.1
  split at e
  ·assumption
  ·cases e
 | y::l,e,i+1,x,h=>by
  unfold BE at e
  rw [Bool.and_eq_true_iff] at e
  exact pO e.2 i (by simpa using h)
theorem nn (X:K.In h) (G:h.Ns mainGlobals mg) {l:List Str} (e:BE K l=true) (i:Nat) (hi:l[i]? =some x:=by rfl):mg x=none:=mg_none_of X G (pO e i hi)
end
inductive BF where
 | v (x:Option V)
 | t (x:Option BC)
abbrev EH:=Value×Option Addr×Nat×Bool×List (Int×Option V×BF)
def CW (K:Frag) (v:Value):BF:=match v with
 | .ref _=>.t (CU K v)
 | _=>.v (xf v)
def CY (K:Frag):List DictEntry->List (Int×Option V×BF)
 | []=>[]
 | e::l=>(e.hash,xf e.key,CW K e.val)::CY K l
def EI (K:Frag) (x:Str):Option EH:=match nsIn K mainGlobals x with
 | some (some (.ref a))=>(match K.lookup a with
  | some ⟨c,d,.dict es _,sl⟩=>some (c,d,sl.size,a==sysModules,CY K es.toList)
  | _=>none)
 | _=>none
abbrev nq:=Str×(V ⊕ List V)
def BG (w:World):List nq->List (Int×Option V×BF)
 | []=>[]
 | (k,.inl v)::l=>(Ci w (.inr k),some (.str k),.v (some v))::BG w l
 | (k,.inr v)::l=>(Ci w (.inr k),some (.str k),.t (some (BD v)))::BG w l
def EJ (w:World) (l:List nq):EH:=(.type "dict",none,0,false,BG w l)
def GO (K:Frag):List (Str×List nq)->List (Option EH)
 | []=>[]
 | x::l=>EI K x.1::GO K l
def GP (w:World):List (Str×List nq)->List (Option EH)
 | []=>[]
 | x::l=>some (EJ w x.2)::GP w l
def za (K:Frag):List nq->List V->Prop
 | [],[]=>True
 | (_,.inl v)::l,u::us=>u=v/\za K l us
 | (_,.inr xs)::l,u::us=>(∃ a,u=.ref a/\∀ H,ae K H a xs)/\za K l us
 | _,_=>False
def GQ:List nq->List V->List (Key×V)
 | e::l,u::us=>(.inr e.1,u)::GQ l us
 | _,_=>[]
def CZ:List nq->Bool
 | []=>true
 | (_,.inl _)::l=>CZ l
 | (_,.inr xs)::l=>decide (xs.length<=1000)&&CZ l
section
variable {K:Frag}
theorem j7:∀ {l:List nq},CZ l=true->∀ e∈l,∀ xs,e.2=.inr xs->xs.length<=sizeLine
 | (_,.inl _)::l,h,e,he,xs,hx=>by
  rcases Qp.mp he with rfl | he
  ·cases hx
  ·exact j7 (l:=l) h e he xs hx
 | (_,.inr ys)::l,h,e,he,xs,hx=>by
  unfold CZ at h
  rw [Bool.and_eq_true_iff,decide_eq_true_iff] at h
  rcases Qp.mp he with rfl | he
  ·cases hx;exact Nat.le_trans h.1 (by decide)
  ·exact j7 (l:=l) h.2 e he xs hx
theorem p7 {k:Str} {xs:List V} {l:List nq} {us:List V} (e:za K ((k,.inr xs)::l) us):∃ a vs,us=.ref a::vs/\(∀ H,ae K H a xs)/\za K l vs:=by
 cases us with
 | nil=>exact False.elim e
 | cons u vs=>obtain ⟨⟨a,rfl,q⟩,r⟩:=(show (∃ a,u=.ref a/\∀ H,ae K H a xs)/\za K l vs from e);exact ⟨a,vs,rfl,q,r⟩
theorem Q_ {us:List V} (e:za K [] us):us=[]:=by
 cases us with
 | nil=>rfl
 | cons u vs=>exact False.elim e
theorem nN:∀ {l:List nq} {es:List DictEntry},CY K es=BG w l->(∀ e∈l,∀ xs,e.2=.inr xs->xs.length<=sizeLine)->∃ (us:List V) (vs:List (Key×Value)),za K l us/\(∀ P,Pairs (fj P w) es vs)/\(∀ P,∀ e∈es,∃ k,(fj P w).is k e.key=true/\e.hash=(fj P w).hash k)/\KV (GQ l us) vs/\vs.map (·.1)=l.map (fun e=>.inr e.1)
 | [],[],_,_=>⟨[],[],trivial,fun _=>.nil,(fun _ _ h=>nomatch h),.nil,rfl⟩
 | [],_::_,e,_=>by cases e
 | (_,.inl _)::_,[],e,_=>by cases e
 | (_,.inr _)::_,[],e,_=>by cases e
 | (k,.inl v)::l,d::es,e,hz=>by
  have e':=List.cons.inj (show (d.hash,xf d.key,CW K d.val)::CY K es=(Ci w (.inr k),some (.str k),.v (some v))::BG w l from e)
  obtain ⟨us,vs,h1,h2,h3,h4,h5⟩:=nN e'.2 fun x hx=>hz x (Qh _ hx)
  have e1:=e'.1
  simp only [Prod.mk.injEq] at e1
  obtain ⟨q1,q2,q3⟩:=e1
  obtain ⟨t,q2⟩:=fN q2
  have q4:RelV v d.val:=by
   unfold CW at q3
   split at q3
   ·cases q3
   ·exact fN (BF.v.inj q3)
  have hk:∀ P,(fj P w).is (.inr k) d.key=true:=fun P=>by rw [q2];exact gH P w k t
  refine ⟨v::us,(.inr k,d.val)::vs,⟨rfl,h1⟩,fun P=>.cons (kv:=((Sum.inr k,d.val):Key×Value)) (hk P) rfl (h2 P),fun P y hy=>?_,.cons ⟨rfl,q4⟩ h4,by simp [h5]⟩
  rcases Qp.mp hy with rfl | hy
  ·exact ⟨.inr k,hk P,q1⟩
  ·exact h3 P y hy
 | (k,.inr xs)::l,d::es,e,hz=>by
  have e':=List.cons.inj (show (d.hash,xf d.key,CW K d.val)::CY K es=(Ci w (.inr k),some (.str k),.t (some (BD xs)))::BG w l from e)
  obtain ⟨us,vs,h1,h2,h3,h4,h5⟩:=nN e'.2 fun x hx=>hz x (Qh _ hx)
  have e1:=e'.1
  simp only [Prod.mk.injEq] at e1
  obtain ⟨q1,q2,q3⟩:=e1
  obtain ⟨t,q2⟩:=fN q2
  have q4:CU K d.val=some (BD xs):=by
   unfold CW at q3
   split at q3
   ·exact BF.t.inj q3
   ·cases q3
  obtain ⟨a,it,n,sq,q5,q6,q7⟩:=w6 q4
  have hk:∀ P,(fj P w).is (.inr k) d.key=true:=fun P=>by rw [q2];exact gH P w k t
  refine ⟨.ref a::us,(.inr k,d.val)::vs,⟨⟨a,rfl,Q9 q6 q7 (hz _ (List.mem_cons_self ..) xs rfl)⟩,h1⟩,fun P=>.cons (kv:=((Sum.inr k,d.val):Key×Value)) (hk P) rfl (h2 P),fun P y hy=>?_,.cons ⟨rfl,by rw [q5];rfl⟩ h4,by simp [h5]⟩
  rcases Qp.mp hy with rfl | hy
  ·exact ⟨.inr k,hk P,q1⟩
  ·exact h3 P y hy
theorem Ra {l:List nq} (X:K.In h) (G:h.Ns mainGlobals mg) (e:EI K x=some (EJ w l)) (CO:CZ l=true) (nd:(l.map (·.1)).Nodup):∃ (a:Addr) (us:List V),mg x=some (.ref a)/\za K l us/\KD w K a (GQ l us):=by
 have hz:=j7 CO
 unfold EI at e
 split at e
 ·rename_i a hn
  split at e
  ·rename_i c d es ep sl hl
   have e:=QD e
   unfold EJ at e
   simp only [Prod.mk.injEq] at e
   obtain ⟨rfl,rfl,e3,e4,e5⟩:=e
   obtain ⟨us,vs,h1,h2,h3,h4,h5⟩:=nN e5 hz
   refine ⟨a,us,mg_of X G hn,h1,fun P=>⟨_,es,ep,vs,hl,e4,⟨rfl,rfl,Array.eq_empty_of_size_eq_zero e3⟩,rfl,fun y hy=>h3 P y (by simpa using hy),h2 P,?_,h4⟩⟩
   rw [h5]
   have:l.map (fun e=>(Sum.inr e.1:Key))=(l.map (·.1)).map Sum.inr:=by simp
   rw [this]
   exact List.Pairwise.map _ (fun a b q c=>q (Sum.inr.inj c)) nd
  ·cases e
 ·cases e
theorem oX:∀ {l:List (Str×List nq)},GO K l=GP w l->∀ (i:Nat) {x:Str} {v:List nq},l[i]? =some (x,v)->EI K x=some (EJ w v)
 | y::l,e,0,x,st,h=>by cases h;exact (List.cons.inj e).1
 | y::l,e,i+1,x,st,h=>oX (List.cons.inj e).2 i (by simpa using h)
end
abbrev J':List Str:=["type","isinstance","issubclass","getattr","hasattr"]
theorem xT {l:OpenLaw} {p:Program} (hp:l.prog=p)
 (a0:sreFenced p.main=true) (a1:((moduleNames p.main.body).isEmpty||lookedIntoSs (moduleNames p.main.body) p.main.body)=true)
 (a2:namesResolve p=true) (a3:p.boundNames.all (fun n=> !worldNames.contains n)=true)
 (a4:noRoadLSs {strict:= !(importedModules p.main.body).all cThrough.contains,foot:=none,bare:=(["vars","dir","locals"]:List Str).filter (readsOut p p.main.body)} p.main.body=true)
 (a5:(namesMeet p p.main.body fun _ n=>attrL n)=true)
 (a6:l.row.toRowW.solid=true) (Rb:l.row.pre.litsOk=true)
 (a7:p.boundNames.contains l.name=true) (a8:(!startupNames.contains l.name)=true)
 (a9:decide (l.foot<=(behindTheImports p).length)=true)
 (b0:l.footing.all footLine=true) (b1:noClassBlock p l.footing=true)
 (b2:l.most.all (fun n=>decide (63<=n))=true) (b3:l.bound.all (fun n=>decide (2^63<=n))=true)
 (b4:noRoadLSs {strict:=true,foot:=some l.bound',writes:=l.writes,may:=l.may} l.footing=true)
 (b5:defStands l.about l.above=true) (b6:l.namesIt=true) (b7:J'.all (fun n=>l.about !=[n])=true)
 (b8:l.bound'.all (fun n=> !builtinNamed n||l.about==[n]|| !l.reads n)=true)
 (b9:(!l.writes||(p.main.body.flatMap importedNames).all fun n=> !l.reads n)=true)
 (c0:(p.main.body.flatMap importedNames).all (fun n=> !l.reads n||(drawsOf n p.main.body).all fun mn=>mn.2 !=("attrgetter":Str)&&mn.2 !=("methodcaller":Str))=true)
 (c1:namesMeet p l.footing (fun sc n=>(!J'.contains n||sc.names.lookup n==some .globalImplicit)&&(l.may !=some n||sc.kind==.module||sc.names.lookup n==some .globalImplicit))=true)
 (c2:l.own.contains l.name=true) (c3:(l.own.eraseDups.length==l.own.length)=true) (c4:l.own.all (fun n=> !builtinNamed n)=true)
 (c5:namesMeet p l.above (fun _ n=> !l.own.contains n)=true) (c6:(namesMeet p l.footing fun sc n=>sc.kind==.module||sc.names.lookup n !=some .globalExplicit)=true):l.wellSaid=true:=by
 subst hp
 have q:l.row.wellSaid=true:=by
  unfold OpenRow.wellSaid OpenRow.partSaid looksOpen
  exact look_both (look_both (look_both (look_both (look_both (look_both (look_both (look_both (look_both (look_both (look_both (look_both (look_both (look_both (look_both (look_both (look_both (look_both (look_both (look_both a0 a1) a2) a3) a4) a5) rfl) rfl) rfl) rfl) rfl) rfl) a6) Rb) rfl) rfl) rfl) rfl) rfl) a7) a8
 unfold OpenLaw.wellSaid
 rw [q,a9,b0,b1,b2,b3,b4,b5,b6,b7,b8,b9,c0,c1,c2,c3,c4,c5,c6];rfl
theorem wI {l:OpenLaw} {k:Nat} {q:Program} {d:DefRec} {look:Frag->α} {want:World->α}
  (hn:l.most=some n) (hn2:n<=sizeLine) (CA:d.params.defaults=[]) (hr:cy k callerA)
  (F:∀ (w:World) (mg:Str->Option Value) (fa:Addr) (h:Heap) (K:Frag),K.In h->look K=want w->h.Ns mainGlobals mg->mg d.name=some (.ref fa)->
   ∃ (ts:List (Addr×Obj×List V)) (fd:FuncData) (sp:Sp),(∀ t∈ts,JN K t)/\(ts.map (·.1)).Nodup/\(∀ (s:Shared) (u:Value),BindsTo s fd ⟨[u],[]⟩ [(x,u)])/\
    (∀ base:Heap,(without K (ts.map (·.1))).In base->base.Ns mainGlobals mg->jl l.prog w (without K (ts.map (·.1))) mg base vj k fa fd [x] sp)/\
    (∀ (H:Hp) (a:Addr) (ns:List Int),ns.length<=n->(∀ t∈ts,H t.1=some (.h_ t.2.1 (.tup t.2.2)))->ai (without K (ts.map (·.1))) H a (ns.map V.int)->sp [.ref a] H (fun v _=>v=.bl true) fun _ _ _=>False)):
  WalkO q loose XP (qt look want).says l.row.toRowW d [] (fun f vs=>PySem.call f vs):=by
 refine Jo.pH hn CA fun w s₀ s₁ mg mb fa o pm cd doc a vs ns G Y ho hd jj Ah FU FW e_ hg=>?_
 obtain ⟨K,KX,hl⟩:=Y
 obtain ⟨ts,fd,sp,xu,nd,hb,hF,vg⟩:=F w mg fa _ K KX hl G.T.g Ah
 exact uP xu nd KX G.T.g G.T.b G.T.builtins G.T.nolimit hg FU FW (Nat.le_trans e_ hn2) hr hF hb (fun H _ ht hS=>vg H a ns e_ ht hS) fun _ _ _ z=>z
theorem rD {l:OpenLaw} {k:Nat} {q:Program} {d:DefRec} {look:Frag->α} {want:World->α} {st:Stmt}
  (hn:l.most=some 63) (CA:d.params.defaults=[]) (hr:cy k callerA) (Rc:d.name="law")
  (hb:∀ (kV doc pm:Value) (an:Option Addr) (ao ct a0:Value),bindArgs (fnOf "law" "law" (lj st) (ir st) (az st) .none kV doc pm an ao ct) ⟨[a0],[]⟩=pure [(("script":Str),a0)])
  (F:∀ (w:World) (mg:Str->Option Value) (h:Heap) (K:Frag),K.In h->look K=want w->h.Ns mainGlobals mg->b_ (without K []) mg "law" st ["script"]/\∀ base:Heap,ak l.prog w (without K []) mg base k "law" ["script"] (Ec (without K []))):
  WalkO q loose XP (qt look want).says l.row.toRowW d [] (fun f vs=>PySem.call f vs):=
 wI (n:=63) (k:=k) (x:="script") hn (by decide) CA hr fun w mg fa h K KX hl G Ah=>by
  obtain ⟨⟨f,fd,Fu,m,b⟩,hF⟩:=F w mg h K KX hl G
  rw [Rc] at Ah
  rw [m] at Ah
  cases Ah
  refine ⟨[],fd,Ec (without K []),(fun t ht=>nomatch ht),.nil,fun s u=>?_,fun base kb nb=>?_,fun H a ns hl _ hS=>⟨a,ns,rfl,hS,hl,fun _=>rfl⟩⟩
  ·obtain ⟨oc,od,kV,doc,pm,an,ao,ct,gv,rfl,lk,jj⟩:=Fu.ex
   exact .of_eq (hb ..)
  ·obtain ⟨f',Rf,G',m',k',b',VB,VC,VD,Ka⟩:=hF base
   rw [m] at m'
   cases m'
   have e:fd=Rf:=by
    obtain ⟨oc,od,kV,doc,pm,an,ao,ct,gv,e1,lk,jj⟩:=Fu.ex
    rw [lk] at Ka
    have:=QD Ka
    injection this with _ _ h3 _
    injection h3
   rw [e];exact G'
section
variable {K:Frag}
end
def EK (K:Frag) (C:Addr):List Str->Bool
 | []=>true
 | f::l=>(match findIn K (.ref C) f with | some none=>true | _=>false)&&EK K C l
section
variable {K:Frag}
theorem jV:∀ {C:Addr} {l:List Str},EK K C l=true->∀ f∈l,IU K C f
 | C,f::l,e,g,hg=>by
  unfold EK at e
  rw [Bool.and_eq_true_iff] at e
  rcases Qp.mp hg with rfl | hg
  ·have e1:=e.1
   split at e1
   ·assumption
   ·cases e1
  ·exact jV e.2 g hg
end
section
variable {H1:Hp} {fs ex:List Addr}
theorem bx.there (x:bx P w H h a o):∃ ob,h.get? a=some ob:=by
 cases o with
 | lst xs=>obtain ⟨_,_,_,_,e⟩:=x;exact ⟨_,e⟩
 | tup xs=>obtain ⟨_,_,_,o,e,_⟩:=x;exact ⟨_,e⟩
 | dK kvs=>obtain ⟨_,_,_,_,o,_,_,e,_⟩:=x;exact ⟨_,e⟩
 | dT kvs=>obtain ⟨_,_,_,_,o,_,_,e,_⟩:=x;exact ⟨_,e⟩
 | set S n=>obtain ⟨o,_,_,_,e,_⟩:=x;exact ⟨_,e⟩
 | ins C dx fs=>obtain ⟨_,_,_,e,_⟩:=x;exact ⟨_,e⟩
 | own y=>exact x
 | xd fs=>obtain ⟨_,⟨_,_,_,e,_⟩,_⟩:=x;exact ⟨_,e⟩
 | DH lo hi=>obtain ⟨_,_,_,e⟩:=x;exact ⟨_,e⟩
 | h_ ob u=>obtain ⟨e,_⟩:=x;exact ⟨_,e⟩
 | yi ps=>exact ⟨_,x⟩
 | met f y=>exact ⟨_,x⟩
 | ext φ=>exact x.2.1
theorem bw.free (x:bw P w H h) (e:h.get? a=none):H a=none:=by
 cases q:H a with
 | none=>rfl
 | some u=>obtain ⟨ob,z⟩:=(x a u q).there;rw [e] at z;cases z
theorem bw.more (x:bw P w H h) (k:∀ b u,h.get? b=some u->h'.get? b=some u) (hn:H a=none) (new:bx P w (upd H a o) h' a o):bw P w (upd H a o) h':=fun b u e=>by
 by_cases hb:b=a
 ·subst hb;rw [aA] at e;cases e;exact new
 ·rw [aK hb] at e
  exact (x b u e).stay (fun c v _ q=>k c v q) (fun c q=>by rw [aK (aQ q hn)];exact q) fun c xs q=>q.upd fun u hu=>aQ hu hn
theorem Un.more (u:Un fs ex H H1 h h') (e:h.get? a=none) (hn:H1 a=none):Un fs ex H (upd H1 a o) h h' where
 keep:=u.keep
 slot:=u.slot
 free:=fun b ob q n hx=>by rw [aK fun z=>by rw [z,e] at q;cases q];exact u.free b ob q n hx
 there:=u.there
 tups:=fun b xs q=>by have:=u.tups b xs q;rw [aK (aQ this hn)];exact this
 jv:=fun b ob xs q=>by have:=u.jv b ob xs q;rw [aK (aQ this hn)];exact this
 ku:=fun b ps q=>by obtain ⟨m,this⟩:=u.ku b ps q;exact ⟨m,by rw [aK (aQ this hn)];exact this⟩
end
def C0 (K:Frag) (N:Addr):Option (Option Value):=match K.lookup N with
 | some ⟨_,_,.dict es _,_⟩=>if es.all (fun e=>match e.key with | .str _ _=>true | _=>false) then some (nsFind es "__init__") else none
 | _=>none
def C1 (K:Frag):List Addr->Bool
 | []=>true
 | A::l=>(match K.lookup A with | some ⟨_,_,.cls cd,_⟩=>C0 K cd.ns==some none | _=>false)&&C1 K l
def qv (K:Frag) (C:Addr) (own:List Addr) (pe:Option Value):Bool:=match K.lookup C with
 | some ⟨c,_,.cls cd,sl⟩=>c==.type "type"&&(cd.mro==.ref C::vp own&&(!cd.hasDel&&(cd.hasDict&&(sl.size==6&&(sl[4]?==some (some (.builtin "ValueError.__new__"))&&(C0 K cd.ns==some pe&&(C1 K own&&keepIn K (.ref C))))))))
 | _=>false
section
variable {K:Frag} {N:Addr} {own:List Addr} {pe:Option Value}
theorem pR (X:K.In h) (e:C0 K N=some pe):h.Ns N (h.nsMap N)/\h.nsMap N "__init__"=pe:=by
 unfold C0 at e
 split at e
 ·rename_i c d es ep sl lk
  split at e
  ·rename_i hs
   have g:=X _ _ lk
   refine ⟨.of_isNs ?_,?_⟩
   ·unfold Heap.isNs;rw [g];exact hs
   ·unfold Heap.nsMap;rw [g];exact QD e
  ·cases e
 ·cases e
theorem nK (X:K.In h):∀ {own:List Addr},C1 K own=true->OwnTail h Ex (vp own)
 | [],_=>.base
 | A::l,e=>by
  unfold C1 at e
  rw [Bool.and_eq_true_iff] at e
  obtain ⟨e1,e2⟩:=e
  split at e1
  ·rename_i c d cd sl lk
   obtain ⟨n1,n2⟩:=pR X (beq_iff_eq.mp e1)
   exact .own (X _ _ lk) n1 n2 (nK X e2)
  ·cases e1
theorem kO (e:qv K C own pe=true):∃ nm q N bs sn sub ab col dd k0 k1 k2 k3 k5,K.lookup C=some (excClassObj nm q C N bs (vp own) true sn sub ab col dd k0 k1 k2 k3 k5 "ValueError.__new__")/\C0 K N=some pe/\C1 K own=true/\keepIn K (.ref C)=true:=by
 unfold qv at e
 split at e
 ·rename_i c d cd sl lk
  obtain ⟨nm,bs,mro,N,q,hdct,sn,sub,ab,col,VE⟩:=cd
  simp only [Bool.and_eq_true,beq_iff_eq,Bool.not_eq_true'] at e
  obtain ⟨rfl,rfl,rfl,rfl,hsz,F1,hn,hu,hk⟩:=e
  obtain ⟨l⟩:=sl
  obtain ⟨k0,k1,k2,k3,k5,rfl⟩:=six_places (l:=l) (by simpa using hsz) (by simpa using F1)
  exact ⟨nm,q,N,bs,sn,sub,ab,col,d,k0,k1,k2,k3,k5,lk,hn,hu,hk⟩
 ·cases e
theorem qY (e:qv K C own pe=true):∃ cd,clsIn K C=some cd/\cd.mro=vp (C::own)/\cd.hasDict=true:=by
 obtain ⟨nm,q,N,bs,sn,sub,ab,col,dd,k0,k1,k2,k3,k5,lk,_⟩:=kO e
 exact ⟨_,by unfold clsIn;rw [lk],rfl,rfl⟩
theorem zT (e:qv K C own pe=true) {v:Value} (h:v∈Ex):subIn K (.ref C) v=some true:=by
 obtain ⟨cd,h1,h2,_⟩:=qY e
 show mroIn K C v=_
 unfold mroIn
 rw [h1,Option.bind_some,h2,if_neg (by simp [vp]),gE h]
theorem Rg (e:qv K C own pe=true):EA K C:=by
 obtain ⟨cd,h1,_⟩:=qY e
 obtain ⟨nm,q,N,bs,sn,sub,ab,col,dd,k0,k1,k2,k3,k5,lk,_⟩:=kO e
 exact ⟨by show (K.lookup C).map _=_;rw [lk];rfl,by show (fastBuiltinMro "type").map _=_;decide+kernel,⟨cd,h1⟩,zT e (by decide)⟩
end
section
variable {K:Frag} {e:Addr} {ox:Obj} {od:Option Obj} {expr:Bool}
end
def GR (C:Addr) (sp:Sp) (ta:TA) (E:XK):TS:=fun _ σ H=>ta σ H fun vs H1=>vs.length<=1000/\∀ e,H1 e=none->sp (.ref e::vs) (upd H1 e (jp C none e)) (fun v H2=>v=.af/\∃ dct,H2 e=some (jp C dct e)/\E (.ref e) dct (upd H2 e (nj C dct e))) E0
section
variable {K:Frag} {f:Addr} {cd:Value} {s0:Shared} {E:XK} {own:List Addr} {np pos:Pos} {e1:Expr}
theorem Inv.Rh {e:Addr} (I:Inv X pins σ H s) (m:Heap.MadeExcOf s.heap h' e (.ref C) us):H e=none/\Inv X pins σ (upd H e (jp C none e)) {s with heap:=h'}:=by
 have hn:=I.hok.free m.new
 obtain ⟨t,ht,_,_⟩:=m.there
 exact ⟨hn,I.un (t':=s.toks) (Un.more (Un.kept m.keeps) m.new hn) (I.hok.more m.keeps hn (rP ⟨t,ht⟩))⟩
theorem uR {k:Nat} {fI:Addr} (hx:qv K C own (some (.ref fI))=true) (hf:isFn K (.ref fI)=true) (F:jl P w K mg base vj k fI fd ps sp) (hb:Binds K fd ps []) (hr:cy (k+1) (A.deeper (envOfC qual scope s0.heap.objs.size f cd))) (hm:mg x=some (.ref C)) (hg:Gl (gu (jq P w) P w K mg base N qual scope f cd A outer s0 H0 E) x) (ha:PA (gu (jq P w) P w K mg base N qual scope f cd A outer s0 H0 E) (e1::es) ta)
  (dw:(x==("__debug__":Str))=false:=by decide) (he:starEach (e1::es) (envOfC qual scope s0.heap.objs.size f cd)=(false,eval e1 (envOfC qual scope s0.heap.objs.size f cd))::starEach es (envOfC qual scope s0.heap.objs.size f cd):=by rfl)
  (hpl:(backTo cpos (starEach es (envOfC qual scope s0.heap.objs.size f cd))).any (·.1)=false:=by rfl):PS (gu (jq P w) P w K mg base N qual scope f cd A outer s0 H0 E) (.Raise (some (.Call (.Name x np) (e1::es) [] cpos)) none pos) (GR C sp ta E):=by
 intro pins s σ H D I h
 obtain ⟨nm,q,N',bs,sn,sub,ab,col,dd,k0,k1,k2,k3,k5,lk,hn,hu,hk⟩:=kO hx
 rw [arm_exec_Raise]
 refine QS (wpAny_standAt (wD (C:=C) (nm:=nm) (q:=q) (N:=N') (bs:=bs) (bm:=vp own) (hdct:=true) (sn:=sn) (sub:=sub) (ab:=ab) (col:=col) (dd:=dd) (k0:=k0) (k1:=k1) (k2:=k2) (k3:=k3) (k5:=k5) (newId:="ValueError.__new__") (gE (by decide) _) (I.ok.hd rfl) (QS (aq (t:=eval (.Call (.Name x np) (e1::es) [] cpos) _) ?_ fun v s3 h3=>QS (wpAny_standAt (QT h3))))))
 refine wpAny_Call_Name_kw (dR I hg hm ?_ dw)
 refine callWith_K (h₀:=base) I.ok.mod.A_ hk (aq (ha cpos pins s σ H _ I h) fun us s1 ⟨vs,H1,I1,r,hl,qe⟩=>⟨I1.fz,?_⟩) he hpl
 obtain ⟨n1,n2⟩:=pR I1.fz hn
 have T:=nK I1.fz hu
 have hC:=I1.fz _ _ lk
 have FV:=PySem.F.excBase_ValueError
 obtain ⟨oI,Ri,Rj⟩:∃ o,K.lookup fI=some o/\o.cls=.type "function":=by
  have e:=beq_iff_eq.mp hf
  exact Option.map_eq_some_iff.mp (show (K.lookup fI).map (·.cls)=some (.type "function") from e)
 obtain ⟨hp,g,d,tk,os⟩:=s1
 refine xQ FV FV.hasB FV T hC n1 n2 (I1.fz _ _ Ri) Rj (by show us.length<=_;rw [<- r.length,QL];omega) fun h' e m=>?_
 obtain ⟨gh,I2⟩:=I1.Rh m
 have q:=qe e gh
 have r2:au (V.ref e::vs) (Value.ref e::us):=.cons rfl r
 have i_:(Value.ref e::us).length=ps.length:=by rw [<- r2.length];exact F.len _ _ _ _ q
 refine wpAny_call (codeAny_mono (F.run _ _ _ _ ⟨Value.ref e::us,[]⟩ (Value.ref e::us) _ _ E0 (hr.make C us []) (I2.DW.make C us []) (by have:=hb _ (Value.ref e::us) I2.fz (by simpa using i_);simpa using this) r2 q) fun r s' hq=>?_)
 cases r with
 | error e=>exact hq.elim
 | ok fl=>
  cases fl with
  | ret u=>
   obtain ⟨v,H',I3,rv,ev,dct,y_,q3⟩:=I2.after hq
   subst ev
   obtain ⟨t,ht⟩:qp s'.heap e C dct:=(show bx P w H' s'.heap e (jp C dct e) from I3.hok e _ y_).1
   exact ⟨rv,e,t,dct,rfl,I3.fz _ _ lk,ht,xB I3 y_ q3⟩
  | next=>exact hq.elim
  | brk=>exact hq.elim
  | cont=>exact hq.elim
end
structure AB (K:Frag) (C:Addr):Prop where
 ga:findIn K (.ref C) "__getattribute__"=some (some (.builtin "BaseException.__getattribute__"))
 gk:findIn K (.ref C) "__getattr__"=some none
 sa:findIn K (.ref C) "__setattr__"=some (some (.builtin "object.__setattr__"))
 ic:findIn K (.ref C) "__class__"=some (some (.builtin "object.__class__"))
 xc:∃ own pe,qv K C own pe=true
structure Kc (K:Frag) (B:Addr):Prop where
 sp:specialIn K (.ref B) "__getattribute__"=some (some (.builtin "type.__getattribute__"))
 rd:readsIn K B (.type "type")=true
 fc:∃ v,findCls K (.ref B) (.type "type") "__init__"=some (.val v)/\v=.builtin "ValueError.__init__"
def Ke (K:Frag) (ta:TA):TE:=fun σ H Q=>ta σ H fun vs H1=>∃ e C dct rest,vs=.ref e::rest/\rest.length<=1000/\AB K C/\H1 e=some (jp C dct e)/\Q .af H1
def Kf (K:Frag) (ta tv:TE) (f:Str):TS:=fun D σ H=>tv σ H fun y H1=>ta σ H1 fun x H2=>∃ e C,x=.ref e/\H2 e=some (jp C none e)/\AB K C/\findIn K (.ref C) f=some none/\∀ dx,H2 dx=none->D.nx σ (upd (upd H2 e (jp C (some dx) e)) dx (.xd [(f,y)]))
section
variable {B:Addr} {b:Str} {bp pos:Pos} {o value:Expr} {ta tv:TE} {f:Str}
theorem zE {pl:Sem Bool} (N:Kc X.K B) (hm:X.mg b=some (.ref B)) (hg:Gl X b) (ha:PA X (e::es) t) (dw:(b==("__debug__":Str))=false:=by decide)
  (hst:starEach (e::es) X.env=(false,eval e X.env)::starEach es X.env:=by rfl) (hpl:(backTo pos (starEach es X.env)).any (·.1)=false:=by rfl)
  (ht:eval (.Call (.Attribute (.Name b bp) "__init__" apos) (e::es) [] pos) X.env=(do
   let ov <- eval (.Name b bp) X.env
   standAt apos.atName
   let (f,first) <- holding [ov] (getMethod ov "__init__" pl)
   callWith pos f first (backTo pos (starEach (e::es) X.env)) (backToKw pos (keywordEach [] X.env))):=by rfl):PE X (.Call (.Attribute (.Name b bp) "__init__" apos) (e::es) [] pos) (Ke X.K t):=by
 intro pins s σ H Q I h
 refine methodCall_KW (pl:=pl) (dR I hg hm ?_ dw) ht
 obtain ⟨v,fc,rfl⟩:=N.fc
 refine method_cls I.fz N.sp (cls_value I.fz N.rd fc (by decide+kernel) ?_)
 have hA:=ha pos pins _ σ H _ (I.tok (s.toks+1)) h
 rw [hst] at hA ⊢
 refine Calls.callWith_builtin (by show (false||(backTo pos (starEach es X.env)).any (·.1))=false;rw [hpl]<;>rfl) (Calls.evalArgs_plain ?_)
 refine aq hA ?_
 rintro us s2 ⟨vs,H2,I2,r2,e,C,dct,rest,ev,hl,xa,he,q⟩
 subst ev
 obtain ⟨u0,ya,rfl,r0,r1⟩:∃ u0 ya,us=u0::ya/\RelV (.ref e) u0/\au rest ya:=by cases r2 with | cons a b=>exact ⟨_,_,rfl,a,b⟩
 obtain rfl:u0=Value.ref e:=r0
 obtain ⟨own,pe,hx⟩:=xa.xc
 obtain ⟨nm,q',N',bs,sn,sub,ab,col,dd,k0,k1,k2,k3,k5,lk,hn,hu,hk⟩:=kO hx
 have T:=nK I2.fz hu
 have hC:=I2.fz _ _ lk
 have hE:qp s2.heap e C dct:=(show bx X.prog X.w H2 s2.heap e (jp C dct e) from I2.hok e _ he).1
 obtain ⟨hp,g,d,tk,os⟩:=s2
 refine yE PySem.F.excBase_ValueError T hC hE (by show ya.length<=_;rw [<- r1.length,QL];omega) fun h' k1 x1=>⟨.af,H2,?_,rfl,q⟩
 have:=I2.write (x:=e) (e:=e) (o:=jp C dct e) (t':=tk) (by rw [he];exact True.intro) (.inl rfl) k1 (let ⟨_,z⟩:=x1;⟨_,z⟩) (rP x1)
 rw [lV he] at this
 exact this
theorem yO (ha:PE X o ta) (hv:PE X value tv) (hs:swapsWith value (some (.Attribute o f pos')) pos.line X.env=pure false):PS X (.Assign [.Attribute o f pos'] value pos) (Kf X.K ta tv f):=by
 intro pins s σ H D I h
 refine plainObj_wpAny_Assign_Attribute (aq (hv pins s σ H _ I h) fun u s1 ⟨y,H1,I1,ry,q⟩=>aq (ha pins s1 σ H1 _ I1 q) fun ov s2 ⟨x,H2,I2,rx,e,C,ex,he,xa,na,q2⟩=>?_) hs
 subst ex
 obtain rfl:ov=Value.ref e:=rx
 obtain ⟨own,pe,hx⟩:=xa.xc
 obtain ⟨cd,c1,c2,c3⟩:=qY hx
 have hE:qp s2.heap e C none:=(show bx X.prog X.w H2 s2.heap e (jp C none e) from I2.hok e _ he).1
 refine QF I2.fz hE c1 c2 c3 xa.sa na fun h' dx tk hd kp x1 nd=>?_
 have C2:=I2.hok.free hd
 have Rk:dx≠e:=fun z=>by rw [z,he] at C2;cases C2
 have mu:A8 (H2 e):=by rw [he];exact True.intro
 have wx:∃ u,h'.get? e=some u:=let ⟨_,z⟩:=x1;⟨_,z⟩
 have hn1:upd H2 e (jp C (some dx) e) dx=none:=by rw [aK Rk];exact C2
 refine ⟨σ,upd (upd H2 e (jp C (some dx) e)) dx (.xd [(f,y)]),I2.un (Un.more (Un.write mu (.inl rfl) kp wx) hd hn1) (bw.more (I2.hok.write mu (.inl rfl) kp wx (rP x1)) (fun _ _ z=>z) hn1 ?_),q2 dx C2⟩
 refine ⟨_,nd,fun g=>?_⟩
 rw [List.lookup_cons]
 by_cases z:g=f
 ·subst z;simp [mi,ry]
 ·rw [if_neg z,show (g==f)=false from beq_false_of_ne z];exact True.intro
end
section
variable {o:Expr} {ta:TE} {m:Str} {pos p:Pos} {k:Nat}
end
section
variable {K:Frag}
end
section
variable {c1 c2:Str} {j1 j2:Nat} {p1 p2 p3 pos:Pos}
end
section
variable {CC:Addr}
def Kg (K:Frag) (CC:Addr) (ts:TS) (th:Addr->Addr->Option Addr->TS):Addr->Addr->Option Addr->TS:=fun e C dct D σ H=>∃ b,subIn K (.ref C) (.ref CC)=some b/\if b=true then ts D σ H else th e C dct D σ H
theorem Rl {c:Str} {cp pos:Pos} {b0:Stmt} {C3:List Stmt} {rest:List ExceptHandler} {ts:TS} (hg:Gl X c) (hm:X.mg c=some (.ref CC)) (N:EA X.K CC)
  (hs:∀ e,jw (X.vt e) (b0::C3) ts) (hr:PH X rest th) (hd:(c==("__debug__":Str))=false:=by decide):PH X (.ExceptHandler (some (.Name c cp)) none (b0::C3) pos::rest) (Kg X.K CC ts th):=by
 intro pins s σ H D e C dct I he fl h
 obtain ⟨b,hb,h⟩:=h
 have Ic:=I.vt e
 refine wpAny_handleBy_cons (codeAny_handlers_test (dR (X:=X.vt e) Ic hg hm ?_ hd)) (by intro q;cases q)
 obtain ⟨vs,ho⟩:=z3 I.hok he
 refine vP I.fz N hb ho rfl ?_
 cases b with
 | false=>exact hr pins s σ H D e C dct I he fl h
 | true=>
  refine codeAny_handlers_suite (kG fl fun h' same=>?_)
  have I2:Inv X pins σ H {s with heap:=h'}:=I.kept (t':=s.toks) fun b o q=>(same b).trans q
  rw [if_pos rfl] at h
  refine wpAny_mono (hs e pins _ _ H _ (I2.vt e) h) (fun f s4 q4=>?_) fun _ _ z=>z.elim
  cases f with
  | next=>obtain ⟨σ',H',J,q⟩:=q4;exact ⟨σ',H',J.uncaught I.ok,q⟩
  | brk=>obtain ⟨σ',H',J,q⟩:=q4;exact ⟨σ',H',J.uncaught I.ok,q⟩
  | cont=>obtain ⟨σ',H',J,q⟩:=q4;exact ⟨σ',H',J.uncaught I.ok,q⟩
  | ret u=>obtain ⟨v,σ',H',J,rv,q⟩:=q4;exact ⟨v,σ',H',J.uncaught I.ok,rv,q⟩
end
structure GS (K:Frag) (mg:Str->Option Value) (x:Str):Prop where
 m:mg x=some (.ref (adr mg x))
 at_:AB K (adr mg x)
 xc:∃ own,qv K (adr mg x) own none=true
 ni:Kc K (adr mg x)
structure C4 (K:Frag) (mg:Str->Option Value) (x q:Str) (st:Stmt) (ps fs:List Str):Prop where
 m:mg x=some (.ref (adr mg x))
 at_:AB K (adr mg x)
 na:∀ f∈fs,IU K (adr mg x) f
 ex:∃ own f fd,qv K (adr mg x) own (some (.ref f))=true/\isFn K (.ref f)=true/\yt K "__init__" q st f fd/\Binds K fd ps []
theorem AB.nm {K:Frag} (x:AB K C):EA K C:=let ⟨_,_,h⟩:=x.xc;Rg h
def GU (P:Program) (w:World) (K:Frag) (mg:Str->Option Value) (base:Heap) (k:Nat) (x:Str) (ps:List Str) (sp:Sp):Prop:=
 mg x=some (.ref (adr mg x))/\∃ own f fd,qv K (adr mg x) own (some (.ref f))=true/\isFn K (.ref f)=true/\jl P w K mg base vj k f fd ps sp/\Binds K fd ps []
section
variable {K:Frag} {q:Str} {st:Stmt} {fs:List Str} {k:Nat}
theorem C4.dh (F:C4 K mg x q st ps fs) (S:cu N ps (az st)) (len:∀ vs H Q E,sp vs H Q E->vs.length=ps.length)
  (tq:∀ (f:Addr) (ao:Value) (A:Around) (outer:List Env) (s:Shared) (H:Hp) (vs:List V) (Q:VK) (E:XK),cy k (A.deeper (envOfC q (az st) s.heap.objs.size f ao))->sp vs H Q E->
   ∃ t,SB (gu vj P w K mg base N q (az st) f ao A outer s H E).sj (ir st) t/\t {nx:=fun _ H'=>Q .af H',rt:=Q} (start N vs) H):GU P w K mg base (k+1) x ps sp:=by
 obtain ⟨own,f,fd,h1,h2,Fu,b⟩:=F.ex
 exact ⟨F.m,own,f,fd,h1,h2,Fu.ok S len fun ao A outer s H vs Q E hr h=>let ⟨t,h1,h2⟩:=tq f ao A outer s H vs Q E hr h;⟨t,h1.h,h2⟩,b⟩
theorem b_.Kh (F:b_ K mg x st ps) (S:cu N ps (az st)) (len:∀ vs H Q E,sp vs H Q E->vs.length=ps.length)
  (tq:∀ (f:Addr) (ao:Value) (A:Around) (outer:List Env) (s:Shared) (H:Hp) (vs:List V) (Q:VK) (E:XK),cy k (A.deeper (envOfC x (az st) s.heap.objs.size f ao))->sp vs H Q E->
   ∃ t,SB (gu (jq P w) P w K mg base N x (az st) f ao A outer s H E) (ir st) t/\t {nx:=fun _ H'=>Q .af H',rt:=Q} (start N vs) H):vy P w K mg base (k+1) x ps sp:=by
 obtain ⟨f,fd,Fu,m,b⟩:=F
 obtain ⟨oc,od,kV,doc,pm,an,ao,ct,gv,rfl,lk,jj⟩:=Fu.ex
 refine ⟨f,_,zK lk jj S len fun A outer s H vs Q E hr vg=>?_,m,Fu.kp,b,oc,od,gv,lk⟩
 obtain ⟨t,h,q⟩:=tq f ao A outer s H vs Q E hr vg
 exact ⟨t,h.h,q⟩
end
section
variable {K:Frag} {f:Addr} {cd:Value} {s0:Shared} {E:XK} {np pos:Pos} {e1:Expr}
theorem qT {k:Nat} (F:GU P w K mg base k x ps sp) (hr:cy (k+1) (A.deeper (envOfC qual scope s0.heap.objs.size f cd))) (ha:SA (gu (jq P w) P w K mg base N qual scope f cd A outer s0 H0 E) (e1::es) ta) (hg:Gl (gu (jq P w) P w K mg base N qual scope f cd A outer s0 H0 E) x:=by rfl)
  (dw:(x==("__debug__":Str))=false:=by decide) (he:starEach (e1::es) (envOfC qual scope s0.heap.objs.size f cd)=(false,eval e1 (envOfC qual scope s0.heap.objs.size f cd))::starEach es (envOfC qual scope s0.heap.objs.size f cd):=by rfl)
  (hpl:(backTo cpos (starEach es (envOfC qual scope s0.heap.objs.size f cd))).any (·.1)=false:=by rfl):SS (gu (jq P w) P w K mg base N qual scope f cd A outer s0 H0 E) (.Raise (some (.Call (.Name x np) (e1::es) [] cpos)) none pos) (GR (adr mg x) sp ta E):=by
 obtain ⟨m,own,fI,fd,h1,h2,G,b⟩:=F
 exact ⟨uR h1 h2 G b hr m hg ha.h dw he hpl⟩
end
structure SH (X:Cx) (hs:List ExceptHandler) (th:Addr->Addr->Option Addr->TS):Prop where
 h:PH X hs th
section
variable {c b f:Str} {cp pos bp p epos yp:Pos} {b0:Stmt} {C3:List Stmt} {rest:List ExceptHandler} {k:Nat} {ts:TS} {o value:Expr} {ta tv:TE} {h0:ExceptHandler}
theorem Rm:SH X [] J7:=⟨Q3⟩
theorem Rn (hm:X.mg c=some (.ref (adr X.mg c))) (N:AB X.K (adr X.mg c)) (hs:∀ e,SB (X.vt e) (b0::C3) ts) (hr:SH X rest th) (hg:Gl X c:=by rfl) (hd:(c==("__debug__":Str))=false:=by decide):SH X (.ExceptHandler (some (.Name c cp)) none (b0::C3) pos::rest) (Kg X.K (adr X.mg c) ts th):=⟨Rl hg hm N.nm (fun e=>(hs e).h) hr.h hd⟩
theorem Ro (F:vy X.prog X.w X.K X.mg X.base k x ps sp) (hr:cy k X.A) (ha:SA X.sj (e::es) t) (hh:SH X (h0::rest) th) (hN:X.N.Nodup) (hi:X.N[i]? =some y) (hy:X.env.scope.names.lookup y=some .local) (hst:X.stack=X.env::X.outer:=by rfl) (j_:X.env.frame=some X.env.locals:=by rfl) (hg:Gl X x:=by rfl)
  (dw:(x==("__debug__":Str))=false:=by decide) (he:starEach (e::es) X.env=(false,eval e X.env)::starEach es X.env:=by rfl) (hpl:(backTo cpos (starEach es X.env)).any (·.1)=false:=by rfl)
  (xq:swapsWith (.Call (.Name x p) (e::es) [] cpos) (some (.Name y yp)) epos.line X.env=pure false:=by rfl):SS X (.Try [.Assign [.Name y yp] (.Call (.Name x p) (e::es) [] cpos) epos] (h0::rest) [] [] pos) (J8 i sp t th):=⟨xM F hr hg ha.h hh.h hst j_ hN hi hy dw he hpl xq⟩
theorem Rp {pl:Sem Bool} (K:Frag) (c:GS K X.mg b) (ha:SA X (e::es) t) (hK:X.K=K:=by rfl) (hg:Gl X b:=by rfl) (dw:(b==("__debug__":Str))=false:=by decide)
  (hst:starEach (e::es) X.env=(false,eval e X.env)::starEach es X.env:=by rfl) (hpl:(backTo pos (starEach es X.env)).any (·.1)=false:=by rfl)
  (ht:eval (.Call (.Attribute (.Name b bp) "__init__" apos) (e::es) [] pos) X.env=(do
   let ov <- eval (.Name b bp) X.env
   standAt apos.atName
   let (f,first) <- holding [ov] (getMethod ov "__init__" pl)
   callWith pos f first (backTo pos (starEach (e::es) X.env)) (backToKw pos (keywordEach [] X.env))):=by rfl):SE X (.Call (.Attribute (.Name b bp) "__init__" apos) (e::es) [] pos) (Ke K t):=by
 subst hK
 exact ⟨zE c.ni c.m hg ha.h dw hst hpl ht⟩
theorem Rq (K:Frag) (ha:SE X o ta) (hv:SE X value tv) (hK:X.K=K:=by rfl) (hs:swapsWith value (some (.Attribute o f pos')) pos.line X.env=pure false:=by rfl):SS X (.Assign [.Attribute o f pos'] value pos) (Kf K ta tv f):=by subst hK;exact ⟨yO ha.h hv.h hs⟩
end
structure yb where
 x:Str
 q:Str
 st:Option Stmt
 fs:List Str
def Kl (K:Frag) (C:Addr):List Addr:=match clsIn K C with
 | some cd=>cd.mro.tail.filterMap fun v=>match v with | .ref a=>some a | _=>none
 | none=>[]
def EL (K:Frag) (C:Addr) (st:Option Stmt):Option Value:=match st with
 | none=>none
 | some _=>(findIn K (.ref C) "__init__").getD none
def Km (K:Frag) (c:yb) (C:Addr):Bool×Option Az:=(qv K C (Kl K C) (EL K C c.st)&&(findIn K (.ref C) "__getattribute__"==some (some (.builtin "BaseException.__getattribute__"))&&(findIn K (.ref C) "__getattr__"==some none&&(findIn K (.ref C) "__setattr__"==some (some (.builtin "object.__setattr__"))&&(findIn K (.ref C) "__class__"==some (some (.builtin "object.__class__"))&&(EK K C c.fs&&
  (match c.st with
  | none=>specialIn K (.ref C) "__getattribute__"==some (some (.builtin "type.__getattribute__"))&&(readsIn K C (.type "type")&&(match findCls K (.ref C) (.type "type") "__init__" with | some (.val v)=>v==.builtin "ValueError.__init__" | _=>false))
  | some _=>(match findIn K (.ref C) "__init__" with | some (some v)=>isFn K v | _=>false))))))),match c.st with | none=>none | some _=>fnAt K c.q (findIn K (.ref C) "__init__"))
def BH (K:Frag):List yb->List (Option (Bool×Option Az))
 | []=>[]
 | c::l=>(match nsIn K mainGlobals c.x with | some (some (.ref C))=>some (Km K c C) | _=>none)::BH K l
def BI:List yb->List (Option (Bool×Option Az))
 | []=>[]
 | c::l=>some (true,c.st.map fun st=>AA "__init__" c.q st)::BI l
def EM (K:Frag):List (Str×Str×Bool)->List (Option Bool)
 | []=>[]
 | c::l=>(match nsIn K mainGlobals c.1,nsIn K mainGlobals c.2.1 with | some (some (.ref C)),some (some (.ref B))=>subIn K (.ref C) (.ref B) | _,_=>none)::EM K l
def EN:List (Str×Str×Bool)->List (Option Bool)
 | []=>[]
 | c::l=>some c.2.2::EN l
section
variable {K:Frag}
theorem oC:∀ {l:List yb},BH K l=BI l->∀ (i:Nat) {c:yb},l[i]? =some c->∃ C,nsIn K mainGlobals c.x=some (some (.ref C))/\Km K c C=(true,c.st.map fun st=>AA "__init__" c.q st)
 | y::l,e,0,c,h=>by
  cases h
  have e1:=(List.cons.inj e).1
  split at e1
  ·rename_i C hC;exact ⟨C,hC,QD e1⟩
  ·cases e1
 | y::l,e,i+1,c,h=>oC (List.cons.inj e).2 i (by simpa using h)
theorem qR:∀ {l:List (Str×Str×Bool)},EM K l=EN l->∀ (i:Nat) {c:Str×Str×Bool},l[i]? =some c->∃ C B,nsIn K mainGlobals c.1=some (some (.ref C))/\nsIn K mainGlobals c.2.1=some (some (.ref B))/\subIn K (.ref C) (.ref B)=some c.2.2
 | y::l,e,0,c,h=>by
  cases h
  have e1:=(List.cons.inj e).1
  split at e1
  ·rename_i C B hC hB;exact ⟨C,B,hC,hB,e1⟩
  ·cases e1
 | y::l,e,i+1,c,h=>qR (List.cons.inj e).2 i (by simpa using h)
theorem Rt (X:K.In h) (G:h.Ns mainGlobals mg) {l:List (Str×Str×Bool)} (e:EM K l=EN l) (i:Nat) {a b:Str} {v:Bool} (hi:l[i]? =some (a,b,v):=by rfl):subIn K (.ref (adr mg a)) (.ref (adr mg b))=some v:=by
 obtain ⟨C,B,h1,h2,h3⟩:=qR e i hi
 have m1:=mg_of X G h1
 have m2:=mg_of X G h2
 unfold adr;rw [m1,m2];exact h3
theorem Ru (X:K.In h) (G:h.Ns mainGlobals mg) {l:List yb} (e:BH K l=BI l) (i:Nat) {q:Str} {fs:List Str} (hi:l[i]? =some ⟨x,q,none,fs⟩:=by rfl):GS K mg x:=by
 obtain ⟨C,hn,hc⟩:=oC e i hi
 have hm:=mg_of X G hn
 have ea:adr mg x=C:=by unfold adr;rw [hm]
 have hc:=(Prod.mk.inj hc).1
 simp only [Bool.and_eq_true,beq_iff_eq] at hc
 obtain ⟨c1,c2,c3,c4,c0,c5,c6,c7,c8⟩:=hc
 refine ⟨by rw [ea];exact hm,?_,?_,?_⟩<;>rw [ea]
 ·exact ⟨c2,c3,c4,c0,_,_,c1⟩
 ·exact ⟨_,c1⟩
 ·refine ⟨c6,c7,?_⟩
  split at c8
  ·rename_i v hv;exact ⟨v,hv,beq_iff_eq.mp c8⟩
  ·cases c8
theorem Rv (X:K.In h) (G:h.Ns mainGlobals mg) {l:List yb} (e:BH K l=BI l) (i:Nat) {q:Str} {st:Stmt} {fs:List Str} (hi:l[i]? =some ⟨x,q,some st,fs⟩)
  (hb:∀ (kV doc pm:Value) (an:Option Addr) (ao ct:Value) (us:List Value),us.length=ps.length->bindArgs (fnOf "__init__" q (lj st) (ir st) (az st) .none kV doc pm an ao ct) ⟨us,[]⟩=pure (ps.zip us)):C4 K mg x q st ps fs:=by
 obtain ⟨C,hn,hc⟩:=oC e i hi
 have hm:=mg_of X G hn
 have ea:adr mg x=C:=by unfold adr;rw [hm]
 obtain ⟨hc,hf⟩:=Prod.mk.inj hc
 simp only [Bool.and_eq_true,beq_iff_eq] at hc
 obtain ⟨c1,c2,c3,c4,c0,c5,c6⟩:=hc
 obtain ⟨f,fd,e1,F⟩:=sY (show fnAt K q (findIn K (.ref C) "__init__")=some (AA "__init__" q st) from hf)
 rw [e1] at c6
 have ei:EL K C (some st)=some (.ref f):=by unfold EL;rw [e1];rfl
 have c1:qv K C (Kl K C) (EL K C (some st))=true:=c1
 rw [ei] at c1
 refine ⟨by rw [ea];exact hm,?_,?_,?_⟩<;>rw [ea]
 ·exact ⟨c2,c3,c4,c0,_,_,c1⟩
 ·exact jV c5
 ·exact ⟨_,f,fd,c1,c6,F,F.binds hb⟩
theorem Rw (X:K.In h) (G:h.Ns mainGlobals mg) {l:List yb} (e:BH K l=BI l) (i:Nat) {q p0 p1:Str} {st:Stmt} {fs:List Str} (hi:l[i]? =some ⟨x,q,some st,fs⟩:=by rfl)
  (hb:∀ (kV doc pm:Value) (an:Option Addr) (ao ct a0 a1:Value),bindArgs (fnOf "__init__" q (lj st) (ir st) (az st) .none kV doc pm an ao ct) ⟨[a0,a1],[]⟩=pure [(p0,a0),(p1,a1)]:=by intros;rfl):C4 K mg x q st [p0,p1] fs:=
 Rv X G e i hi fun a b c d f g us hl=>by
  obtain ⟨a0,ya,rfl,kg⟩:=o_ (n:=1) hl
  obtain ⟨a1,GL,rfl,fg⟩:=o_ (n:=0) kg
  obtain rfl:=QR fg
  exact hb ..
end
end L2
namespace L2
open PySem PySem.Spec PyProof.Rows PySem.W
section
variable {K:QZ} {f:Addr} {cd:Value} {s0:Shared} {E:XK}
theorem xR {ev:Value} (I:Inv (gu (jq P w) P w K mg base N qual scope f cd A outer s0 H0 E) pins σ H s)
  (c:jq P w (envOfC qual scope s0.heap.objs.size f cd::outer) H s E ev s'):(gu (jq P w) P w K mg base N qual scope f cd A outer s0 H0 E).xe ev s':=by
 obtain ⟨e,C,dct,H',rfl,os,bare,un,hok,he,fl,q⟩:=c
 have I1:=I.Fw os un hok bare (fun b z=>absurd z (by simp))
 have fr:∀ b∈ef (envOfC qual scope s0.heap.objs.size f cd::outer),H' b=none:=I1.Ck
 have yz:e ∉ ef (envOfC qual scope s0.heap.objs.size f cd::outer):=fun z=>by rw [fr e z] at he;cases he
 show wpAny _ _ (leaving _ _) _ _ s'
 unfold leaving
 refine QS (jR (base:=base) (outer:=outer) (L:=s0.heap.objs.size) I1.ok.frames I1.stack rfl fl yz fun h' tb _ n CT=>?_)
 have Au:=bw.noted hok n fr he (fun xs z=>by rw [he] at z;cases z) (fun o v z=>by rw [he] at z;cases z) (fun y z=>by rw [he] at z;cases z) CT
 rw [lV he] at Au
 refine ⟨e,C,dct,H',rfl,I1.os,I1.bare,?_,Au,he,CT,q⟩
 have B:Un (ef outer) [] H0 H' s0.heap s'.heap:=I1.base
 have nL:∀ b o,s0.heap.get? b=some o->b ∉ ef outer->b ∉ ef (envOfC qual scope s0.heap.objs.size f cd::outer):=fun b o q hb z=>by
  have z':b∈s0.heap.objs.size::ef outer:=z
  rcases Qp.mp z' with z' | z'
  ·exact absurd (Qz q) (by rw [z'];exact Nat.lt_irrefl _)
  ·exact hb z'
 have ne:∀ {b},H' b=none->b≠e:=fun hb z=>by rw [z,he] at hb;cases hb
 refine ⟨fun b o q hn hb hx=>n.keep b o (nL b o q hb) (ne (B.free b o q hn hx)) (B.keep b o q hn hb hx),fun b o q hn hb hx=>?_,fun b o q hn hx=>B.free b o q hn hx,fun b o q hx=>?_,fun b xs q=>B.tups b xs q,fun b o u q=>B.jv b o u q,fun b ps q=>B.ku b ps q⟩
 ·obtain ⟨sl,q'⟩:=B.slot b o q hn hb hx
  obtain ⟨zw,GH⟩:=n.slot b _ (ne (B.free b o q hn hx)) q'
  exact ⟨zw,GH⟩
 ·obtain ⟨o',q'⟩:=B.there b o q hx
  exact n.Ez b o' q'
theorem Rx {k:Nat} {p:Pos} (F:vy P w K mg base k x ps sp) (hr:cy k (A.deeper (envOfC qual scope s0.heap.objs.size f cd))) (ha:SA (gu (jq P w) P w K mg base N qual scope f cd A outer s0 H0 E) (e::es) ta)
  (hg:Gl (gu (jq P w) P w K mg base N qual scope f cd A outer s0 H0 E) x:=by rfl) (dw:(x==("__debug__":Str))=false:=by decide)
  (he:starEach (e::es) (envOfC qual scope s0.heap.objs.size f cd)=(false,eval e (envOfC qual scope s0.heap.objs.size f cd))::starEach es (envOfC qual scope s0.heap.objs.size f cd):=by rfl)
  (hpl:(backTo cpos (starEach es (envOfC qual scope s0.heap.objs.size f cd))).any (·.1)=false:=by rfl):
  SE (gu (jq P w) P w K mg base N qual scope f cd A outer s0 H0 E) (.Call (.Name x p) (e::es) [] cpos) (Bk sp [] E ta):=by
 constructor
 intro pins s σ H Q I h
 obtain ⟨ff,fd,F,hm,hk,hb,_⟩:=F
 refine wpAny_Call_Name_kw (dR I hg hm ?_ dw)
 refine callWith_K (h₀:=base) I.ok.mod.A_ hk (aq (ha.h cpos pins s σ H _ I h) fun us s1 ⟨vs,H1,I1,r,q⟩=>⟨I1.fz,?_⟩) he hpl
 dsimp only at q
 rw [QQ] at q
 have hl:us.length=ps.length:=by rw [<- r.length];exact F.len _ _ _ _ q
 refine wpAny_call (codeAny_mono (F.run _ _ s1 H1 ⟨us,[]⟩ us vs Q E hr I1.DW (by have:=hb s1 us I1.fz (by simpa using hl);simpa using this) r q) fun r s' hq=>?_)
 cases r with
 | error ev=>exact xR I1 hq
 | ok fl=>
  cases fl with
  | ret u=>
   obtain ⟨v,H2,I2,rv,q2⟩:=I1.after hq
   exact ⟨v,H2,I2,rv,q2⟩
  | next=>exact hq.elim
  | brk=>exact hq.elim
  | cont=>exact hq.elim
end
theorem vy.calm {K:QZ} {k:Nat} (F:vy P w K mg base k x ps sp):ak P w K mg base k x ps (fun vs H Q _=>sp vs H Q E0):=by
 obtain ⟨f,fd,F,h1,h2,h3,h4⟩:=F
 refine ⟨f,fd,⟨fun vs H Q E q=>F.len vs H Q _ q,fun A outer s H args us vs Q E hr he hb hv hs=>codeAny_mono (F.run A outer s H args us vs Q E0 hr he hb hv hs) fun r s' hq=>?_⟩,h1,h2,h3,h4⟩
 cases r with
 | error ev=>
  obtain ⟨e,C,dct,H',_,_,_,_,_,_,_,q⟩:=hq
  exact q.elim
 | ok fl=>cases fl<;>exact hq
end L2
namespace L2
end L2
namespace L2
open PySem PySem.SetTable
def EO (mask:Nat) (p:Probe):Probe:=if p.more > 0 then {p with j:=p.j+1,more:=p.more - 1} else {p with j:=(leap mask p.i p.perturb).1,more:=runEnd mask (leap mask p.i p.perturb).1 - (leap mask p.i p.perturb).1,i:=(leap mask p.i p.perturb).1,perturb:=(leap mask p.i p.perturb).2}
def Ry (mask:Nat) (q:Nat×Nat):Probe:={j:=q.1,more:=runEnd mask q.1 - q.1,i:=q.1,perturb:=q.2,dummy:=none}
def st (mask:Nat) (h:Int):Nat->Probe
 | 0=>Ry mask (bits h % (mask+1),bits h)
 | n+1=>EO mask (st mask h n)
section
variable {mask:Nat} {h:Int}
theorem nH (i:Nat):runEnd mask i - i<=9/\(i<=mask->i+(runEnd mask i - i)<=mask):=by
 unfold runEnd
 split<;>omega
theorem zR:∀ n,(st mask h n).j+(st mask h n).more<=mask
 | 0=>(nH _).2 (Nat.le_of_lt_succ (Nat.mod_lt _ (Nat.succ_pos _)))
 | n+1=>by
  have ih:=zR n
  show (EO mask (st mask h n)).j+(EO mask (st mask h n)).more<=mask
  unfold EO
  split
  ·simp only;omega
  ·exact (nH _).2 (Nat.le_of_lt_succ (Nat.mod_lt _ (Nat.succ_pos _)))
end
section
variable {xs:Array Nat}
end
section
variable {t:SetTable} {es:Array (Int×Value)} {h:Int}
end
section
variable {xs:Array α} {p:Nat} {x:α}
end
section
variable {t:SetTable} {es:Array (Int×Value)} {h:Int} {x:Value} {n0:Nat}
end
theorem jG:∀ {l m:List Nat},l.Nodup->(∀ x∈l,x∈m)->l.length<=m.length
 | [],m,_,_=>Nat.zero_le _
 | a::l,m,nd,hs=>by
  obtain ⟨h1,h2⟩:=List.nodup_cons.mp nd
  have hm:=hs a (List.mem_cons_self ..)
  have:l.length<=(m.erase a).length:=jG h2 fun x hx=>(List.mem_erase_of_ne (show x≠a from fun e=>h1 (by rw [<- e];exact hx))).mpr (hs x (Qh _ hx))
  rw [List.length_erase_of_mem hm] at this
  have:=List.length_pos_of_mem hm
  simp only [List.length_cons];omega
def Ow (owner:Array (Option Nat)) (j:Nat):Prop:=(owner.getD j (some 0)).isNone=false
structure Kn (mask:Nat) (owner:Array (Option Nat)) (hs:List Int):Prop where
 sz:owner.size=mask+1
 lt:∀ j k:Nat,owner[j]? =some (some k)->k < hs.length
 inj:∀ j j' k:Nat,owner[j]? =some (some k)->owner[j']? =some (some k)->j=j'
 reach:∀ k (h:k < hs.length),∃ n,owner[(st mask hs[k] n).j]? =some (some k)/\∀ m,m < n->Ow owner (st mask hs[k] m).j
section
variable {mask:Nat} {owner:Array (Option Nat)} {hs:List Int} {h:Int}
end
def BJ (mask:Nat) (owner:Array (Option Nat)):List (Nat×Nat):=(List.range (mask+1)).filterMap fun j=>(owner.getD j none).map (j,·)
section
variable {mask:Nat} {owner:Array (Option Nat)} {hs:List Int}
theorem iU (hz:owner.size=mask+1) {p:Nat×Nat}:p∈BJ mask owner↔p.1<=mask/\owner[p.1]? =some (some p.2):=by
 unfold BJ
 rw [List.mem_filterMap]
 constructor
 ·rintro ⟨j,hj,e⟩
  have uh:j < owner.size:=by have:=List.mem_range.mp hj;omega
  have eg:owner.getD j none=owner[j]:=by simp [Array.getD,uh]
  rw [eg] at e
  cases hx:owner[j] with
  | none=>rw [hx] at e;cases e
  | some k=>
   rw [hx] at e
   cases e
   exact ⟨by show j<=mask;omega,by show owner[j]? =_;rw [Array.getElem?_eq_getElem uh,hx]⟩
 ·rintro ⟨h1,h2⟩
  obtain ⟨h3,h4⟩:=Array.getElem?_eq_some_iff.mp h2
  refine ⟨p.1,List.mem_range.mpr (by omega),?_⟩
  have eg:owner.getD p.1 none=owner[p.1]:=by simp [Array.getD,h3]
  rw [eg,h4];rfl
theorem vZ {f:Nat->Option Nat}:∀ l:List Nat,l.Pairwise (· < ·)->((l.filterMap fun j=>(f j).map (j,·)).map (·.1)).Pairwise (· < ·)/\∀ x∈(l.filterMap fun j=>(f j).map (j,·)).map (·.1),x∈l
 | [],_=>⟨.nil,fun _ h=>nomatch h⟩
 | a::l,h=>by
  obtain ⟨h1,h2⟩:=List.pairwise_cons.mp h
  obtain ⟨i1,i2⟩:=vZ (f:=f) l h2
  cases e:f a with
  | none=>
   simp only [List.filterMap_cons,e,Option.map_none]
   exact ⟨i1,fun x hx=>Qh _ (i2 x hx)⟩
  | some k=>
   simp only [List.filterMap_cons,e,Option.map_some,List.map_cons]
   refine ⟨List.pairwise_cons.mpr ⟨fun x hx=>h1 x (i2 x hx),i1⟩,fun x hx=>?_⟩
   rcases Qp.mp hx with rfl | hx
   ·exact List.mem_cons_self ..
   ·exact Qh _ (i2 x hx)
theorem vM:((BJ mask owner).map (·.1)).Pairwise (· < ·):=(vZ (f:=fun j=>owner.getD j none) _ List.pairwise_lt_range).1
theorem Kn.len (I:Kn mask owner hs):(BJ mask owner).length=hs.length:=by
 have nd:((BJ mask owner).map (·.2)).Nodup:=by
  have h1:=vM (mask:=mask) (owner:=owner)
  rw [List.pairwise_map] at h1
  refine List.pairwise_map.mpr (h1.imp_of_mem fun {a b} ha hb jz e=>?_)
  have:=I.inj a.1 b.1 a.2 ((iU I.sz).mp ha).2 (by rw [e];exact ((iU I.sz).mp hb).2)
  omega
 have l1:=jG nd (m:=List.range hs.length) fun x hx=>by
  obtain ⟨p,hp,rfl⟩:=List.mem_map.mp hx
  exact List.mem_range.mpr (I.lt _ _ ((iU I.sz).mp hp).2)
 have l2:=jG (l:=List.range hs.length) (m:=(BJ mask owner).map (·.2)) List.nodup_range fun x hx=>by
  have hx':=List.mem_range.mp hx
  obtain ⟨n,e1,_⟩:=I.reach x hx'
  have hj:(st mask hs[x] n).j<=mask:=by have:=zR (mask:=mask) (h:=hs[x]) n;omega
  exact List.mem_map.mpr ⟨((st mask hs[x] n).j,x),(iU I.sz).mpr ⟨hj,e1⟩,rfl⟩
 simp at l1 l2
 omega
end
section
variable {K:Type} [DecidableEq K] {knd:KeyKind prog w K}
end
end L2
namespace L2
open PySem PySem.Spec PyProof.Rows
section
variable {I:Addr} {wr:List Addr} {P:Nat->Value->Prop} {St:Nat->Shared->Prop}
end
section
variable {Rz:List (List Key×Addr)} {ks:List Key}
end
section
variable {Rz:List (List Key×Addr)}
end
def dd (seen:List Str):List (Road×Str)->LR
 | []=>[]
 | q::P=>if q.2∈seen then dd seen P else (q.2,q.1)::dd (seen++[q.2]) P
structure QI (rows:List cj) (f:Str) (i:Nat) (found:LR) (P:List (Road×Str)):Prop where
 fd:found=(Gv (Bx rows f i)).take i
 pd:dd (found.map (·.1)) P=(Gv (Bx rows f i)).drop i
theorem QI.start (rows:List cj) (f:Str):QI rows f 0 [] [([],f)]:=⟨by simp,by simp [dd,Bx,Gv,JX]⟩
section
variable {it d:Addr} {ep:Nat} {od:Obj} {es:Array DictEntry} {Q:Option Value->Shared->Prop}
end
section
variable {a b:Expr} {ta tb:TE} {pos:Pos}
end
inductive Th where
 | pick (w:Str) (t:Th)
 | fb (ps:List (Str×Th))
section
variable {rows:List cj} {e:Str}
end
structure PD (R:V->Th->Prop) (ws:List Str) (kvs:List (Key×V)):Prop where
 all:∀ q∈kvs,∃ z t,q.1=.inr z/\z∈ws/\R q.2 t
 nd:(kvs.map (·.1)).Nodup
section
variable {R R':V->Th->Prop} {kvs VF:List (Key×V)}
theorem PD.len (h:PD R ws kvs):kvs.length<=ws.length:=by
 have hc:∀ q:Key×V,∃ z:Str,q∈kvs->q.1=.inr z/\z∈ws:=fun q=>by
  by_cases hq:q∈kvs
  ·obtain ⟨z,t,h1,h2,_⟩:=h.all q hq;exact ⟨z,fun _=>⟨h1,h2⟩⟩
  ·exact ⟨"",fun z=>absurd z hq⟩
 obtain ⟨f,hf⟩:=Classical.axiomOfChoice hc
 have:=mM (l:=kvs.map f) (m:=ws) ?_ ?_
 ·simpa using this
 ·refine List.pairwise_map.mpr ((List.pairwise_map.mp h.nd).imp_of_mem fun {a b} ha hb jz e=>jz ?_)
  rw [(hf a ha).1,(hf b hb).1,e]
 ·intro z hz
  obtain ⟨q,hq,rfl⟩:=List.mem_map.mp hz
  exact (hf q hq).2
end
theorem ae.zb {K:QZ} {xs:List V} (h:fu H a xs):ae K H a xs:=.inl h
def Ko (rows:List cj) (ns:List Str):Prop:=∃ H a xs ws,RT H a xs rows ns ws/\∀ z∈ws,Wd z
section
variable {rows:List cj}
theorem Ko.nm (g:Ko rows ns) (x:Str):x∈rows.map (·.1)↔x∈ns:=let ⟨_,_,_,_,rt,hw⟩:=g;rt.nm.mem_iff
end
inductive Tv where
 | s (z:Str)
 | i (n:Int)
 | t (l:List Tv)
def TD (H:Hp):Nat->V->Tv->Prop
 | _,.str z,.s z'=>z=z'
 | _,.int k,.i j=>k=j
 | n+1,.ref a,.t ds=>∃ xs,fu H a xs/\xs.length=ds.length/\∀ j (h:j < xs.length) (h':j < ds.length),TD H n xs[j] ds[j]
 | _,_,_=>False
structure fq (H:Hp) (n:Nat) (xs:List V) (ds:List Tv):Prop where
 len:xs.length=ds.length
 at_:∀ j (h:j < xs.length) (h':j < ds.length),TD H n xs[j] ds[j]
theorem TD.str {n:Nat} {z:Str}:TD H n (.str z) (.s z):=by cases n<;>rfl
theorem TD.int {n:Nat} {z:Int}:TD H n (.int z) (.i z):=by cases n<;>rfl
theorem TD.tup {n:Nat} {a:Addr} {xs:List V} {ds:List Tv} (h:fu H a xs) (t:fq H n xs ds):TD H (n+1) (.ref a) (.t ds):=⟨xs,h,t.len,t.at_⟩
theorem fq.nil:fq H n [] []:=⟨rfl,fun i h=>absurd h (by simp)⟩
theorem fq.cons {n:Nat} {x:V} {d:Tv} {xs:List V} {ds:List Tv} (h:TD H n x d) (t:fq H n xs ds):fq H n (x::xs) (d::ds):=⟨by simp [t.len],fun i h1 h2=>by
 cases i with
 | zero=>exact h
 | succ i=>exact t.at_ i (by simpa using h1) (by simpa using h2)⟩
theorem TD.keep (k:∀ b ys,fu H b ys->fu H' b ys):∀ {n:Nat} {v:V} {d:Tv},TD H n v d->TD H' n v d
 | 0,.str _,.s _,h=>h
 | 0,.int _,.i _,h=>h
 | _+1,.str _,.s _,h=>h
 | _+1,.int _,.i _,h=>h
 | n+1,.ref a,.t ds,h=>let ⟨xs,h1,h2,h3⟩:=h;⟨xs,k _ _ h1,h2,fun i a b=>TD.keep k (h3 i a b)⟩
theorem TD.same {n:Nat} {v:V} {d:Tv} (h:TD H n v d) (s:aa H H'):TD H' n v d:=TD.keep (fun b ys r=>r.same s) h
theorem TD.um {d:Tv} (h:TD H n (.ref a) d):∃ m ds xs,n=m+1/\d=.t ds/\fu H a xs/\fq H m xs ds:=by
 cases n with
 | zero=>cases d<;>exact h.elim
 | succ n=>
  cases d with
  | t ds=>obtain ⟨xs,h1,h2,h3⟩:=h;exact ⟨n,ds,xs,rfl,rfl,h1,h2,h3⟩
  | _=>exact h.elim
theorem TD.vz {d:Tv} (h:TD H n (.str z) d):d=.s z:=by
 cases n<;>(cases d with
  | s z'=>exact congrArg Tv.s (show z=z' from h).symm
  | _=>exact h.elim)
theorem TD.v_ {z:Int} {d:Tv} (h:TD H n (.int z) d):d=.i z:=by
 cases n<;>(cases d with
  | i z'=>exact congrArg Tv.i (show z=z' from h).symm
  | _=>exact h.elim)
theorem TD.v {n:Nat} {v:V} {d:Tv} (h:TD H n v d):(∃ z,v=.str z)\/(∃ z,v=.int z)\/∃ a,v=.ref a:=by
 cases n<;>(cases v<;>first | exact .inl ⟨_,rfl⟩ | exact .inr (.inl ⟨_,rfl⟩) | exact .inr (.inr ⟨_,rfl⟩) | (cases d<;>exact h.elim))
theorem TD.det:∀ {n m:Nat} {v:V} {d e:Tv},TD H n v d->TD H m v e->d=e
 | 0,m,v,d,e,h,h'=>by
  rcases h.v with ⟨z,rfl⟩ | ⟨z,rfl⟩ | ⟨a,rfl⟩
  ·rw [h.vz,h'.vz]
  ·rw [h.v_,h'.v_]
  ·obtain ⟨_,_,_,z,_⟩:=h.um;cases z
 | n+1,m,v,d,e,h,h'=>by
  rcases h.v with ⟨z,rfl⟩ | ⟨z,rfl⟩ | ⟨a,rfl⟩
  ·rw [h.vz,h'.vz]
  ·rw [h.v_,h'.v_]
  ·obtain ⟨m1,ds,xs,e1,rfl,r1,t1⟩:=h.um
   obtain ⟨m2,es,ys,e2,rfl,r2,t2⟩:=h'.um
   cases e1
   have:=r1.inj r2
   subst this
   have l1:=t1.len
   have l2:=t2.len
   congr 1
   refine List.ext_getElem (by omega) fun i h1 h2=>?_
   exact TD.det (t1.at_ i (by omega) h1) (t2.at_ i (by omega) h2)
theorem kP {ds es:List Tv} {e:Nat->Bool} (hl:ds.length=es.length) (h:∀ j (h1:j < ds.length) (h2:j < es.length),e j=true↔ds[j]=es[j]):(List.range ds.length).all e=true↔ds=es:=by
 rw [List.all_eq_true]
 constructor
 ·intro ha
  exact List.ext_getElem hl fun i h1 h2=>(h i h1 h2).mp (ha i (List.mem_range.mpr h1))
 ·rintro rfl j hj
  have:=List.mem_range.mp hj
  exact (h j this this).mpr rfl
theorem TD.RA (I:Inv X pins σ H s):∀ {n:Nat} {m:Nat} {x y:V} {d e:Tv},TD H n x d->TD H m y e->∃ bo:Bool,(bo=true↔d=e)/\∀ (A:Around) (u v:Value),A.units+n < cLine->RelV x u->RelV y v->SeqAt.EqAt A s u v bo:=by
 intro n
 induction n with
 | zero=>
  intro m x y d e h h'
  rcases h.v with ⟨z,rfl⟩ | ⟨z,rfl⟩ | ⟨a,rfl⟩
  ·obtain rfl:=h.vz
   rcases h'.v with ⟨z',rfl⟩ | ⟨z',rfl⟩ | ⟨b,rfl⟩
   ·obtain rfl:=h'.vz
    exact ⟨z==z',by simp,fun A u v hu ru rv=>by obtain ⟨t,rfl⟩:=ru;obtain ⟨t',rfl⟩:=rv;exact SeqAt.EqAt.str_str z t z' t'⟩
   ·obtain rfl:=h'.v_
    exact ⟨false,by simp,fun A u v hu ru rv=>by obtain ⟨t,rfl⟩:=ru;obtain ⟨t',rfl⟩:=rv;exact SeqAt.EqAt.str_int z t z' t'⟩
   ·obtain ⟨_,ds,xs,rfl,rfl,r1,_⟩:=h'.um
    refine ⟨false,by simp,fun A u v hu ru rv=>?_⟩
    obtain ⟨t,rfl⟩:=ru
    cases rv
    obtain ⟨i1,_,p1,_⟩:=I.tuple (ae.zb r1)
    exact SeqAt.EqAt.str_tuple z t p1 (by omega)
  ·obtain rfl:=h.v_
   rcases h'.v with ⟨z',rfl⟩ | ⟨z',rfl⟩ | ⟨b,rfl⟩
   ·obtain rfl:=h'.vz
    exact ⟨false,by simp,fun A u v hu ru rv=>by obtain ⟨t,rfl⟩:=ru;obtain ⟨t',rfl⟩:=rv;exact SeqAt.EqAt.int_str z t z' t'⟩
   ·obtain rfl:=h'.v_
    exact ⟨z==z',by simp,fun A u v hu ru rv=>by obtain ⟨t,rfl⟩:=ru;obtain ⟨t',rfl⟩:=rv;exact SeqAt.EqAt.int_int z t z' t'⟩
   ·obtain ⟨_,ds,xs,rfl,rfl,r1,_⟩:=h'.um
    refine ⟨false,by simp,fun A u v hu ru rv=>?_⟩
    obtain ⟨t,rfl⟩:=ru
    cases rv
    obtain ⟨i1,_,p1,_⟩:=I.tuple (ae.zb r1)
    exact SeqAt.EqAt.int_tuple z t p1 (by omega)
  ·obtain ⟨_,_,_,z,_⟩:=h.um;cases z
 | succ n ih=>
  intro m x y d e h h'
  rcases h.v with ⟨z,rfl⟩ | ⟨z,rfl⟩ | ⟨a,rfl⟩
  ·obtain ⟨bo,h1,h2⟩:=ih (m:=m) (TD.str (n:=n) (z:=z)) h'
   rw [h.vz]
   exact ⟨bo,h1,fun A u v hu=>h2 A u v (by omega)⟩
  ·obtain ⟨bo,h1,h2⟩:=ih (m:=m) (TD.int (n:=n) (z:=z)) h'
   rw [h.v_]
   exact ⟨bo,h1,fun A u v hu=>h2 A u v (by omega)⟩
  ·obtain ⟨n',ds,xs,e1,rfl,r1,t1⟩:=h.um
   cases e1
   rcases h'.v with ⟨z',rfl⟩ | ⟨z',rfl⟩ | ⟨b,rfl⟩
   ·obtain rfl:=h'.vz
    refine ⟨false,by simp,fun A u v hu ru rv=>?_⟩
    obtain ⟨t,rfl⟩:=rv
    cases ru
    obtain ⟨i1,_,p1,_⟩:=I.tuple (ae.zb r1)
    exact SeqAt.EqAt.tuple_str z' t p1 (by omega)
   ·obtain rfl:=h'.v_
    refine ⟨false,by simp,fun A u v hu ru rv=>?_⟩
    obtain ⟨t,rfl⟩:=rv
    cases ru
    obtain ⟨i1,_,p1,_⟩:=I.tuple (ae.zb r1)
    exact SeqAt.EqAt.tuple_int z' t p1 (by omega)
   ·obtain ⟨m',es,ys,rfl,rfl,r2,t2⟩:=h'.um
    by_cases jz:a=b
    ·subst jz
     refine ⟨true,⟨fun _=>TD.det h h',fun _=>rfl⟩,fun A u v hu ru rv=>?_⟩
     cases ru
     cases rv
     exact SeqAt.EqAt.same _
    ·obtain ⟨i1,v1,p1,_⟩:=I.tuple (ae.zb r1)
     obtain ⟨i2,v2,p2,_⟩:=I.tuple (ae.zb r2)
     have l1:=v1.length
     have l2:=v2.length
     have k1:=t1.len
     have k2:=t2.len
     have hc:∀ j:Nat,∃ bo:Bool,∀ (h1:j < ds.length) (h2:j < es.length),(bo=true↔ds[j]=es[j])/\∀ (A:Around) (u v:Value),A.units+n < cLine->RelV (xs[j]'(by omega)) u->RelV (ys[j]'(by omega)) v->SeqAt.EqAt A s u v bo:=fun j=>by
      by_cases hj:j < ds.length/\j < es.length
      ·obtain ⟨bo,q1,q2⟩:=ih (t1.at_ j (by omega) hj.1) (t2.at_ j (by omega) hj.2)
       exact ⟨bo,fun _ _=>⟨q1,q2⟩⟩
      ·exact ⟨false,fun h1 h2=>absurd ⟨h1,h2⟩ hj⟩
     obtain ⟨ev,yc⟩:=Classical.axiomOfChoice hc
     refine ⟨(List.range (min i1.toArray.size i2.toArray.size)).all ev&&i1.toArray.size==i2.toArray.size,?_,fun A u v hu ru rv=>?_⟩
     ·have s1:i1.toArray.size=ds.length:=by simp;omega
      have s2:i2.toArray.size=es.length:=by simp;omega
      rw [s1,s2,Bool.and_eq_true]
      constructor
      ·rintro ⟨q1,q2⟩
       have hl:ds.length=es.length:=by simpa using q2
       rw [<- hl,Nat.min_self] at q1
       exact congrArg Tv.t ((kP hl fun j h1 h2=>(yc j h1 h2).1).mp q1)
      ·intro q
       have hq:ds=es:=by injection q
       have hl:ds.length=es.length:=by rw [hq]
       refine ⟨?_,by simp [hl]⟩
       rw [<- hl,Nat.min_self]
       exact (kP hl fun j h1 h2=>(yc j h1 h2).1).mpr hq
     ·cases ru
      cases rv
      refine SeqAt.EqAt.of_refs jz (SeqAt.RcAt.tuples (A:=A) (e:=ev) p1 p2 (by omega) fun j g1 g2=>?_)
      have j1:j < ds.length:=by simp at g1;omega
      have j2:j < es.length:=by simp at g2;omega
      obtain ⟨w1,f1,q1⟩:=v1.get (Qa (show j < xs.length by omega))
      obtain ⟨w2,f2,q2⟩:=v2.get (Qa (show j < ys.length by omega))
      have n1:i1.toArray[j]=w1:=by rw [Qa (by simpa using g1)] at f1;simpa using f1
      have n2:i2.toArray[j]=w2:=by rw [Qa (by simpa using g2)] at f2;simpa using f2
      rw [n1,n2]
      exact (yc j j1 j2).2 A.in1 w1 w2 (by rw [Around.in1_units];omega) q1 q2
theorem fq.RB (I:Inv X pins σ H s) {m:Nat} {xs ys:List V} {ds es:List Tv} (t1:fq H n xs ds) (t2:fq H m ys es):∃ ev:Nat->Bool,(∀ j (h1:j < ds.length) (h2:j < es.length),ev j=true↔ds[j]=es[j])/\∀ (i1 i2:List Value),au xs i1->au ys i2->∀ (A:Around),A.units+n+1 < cLine->∀ (j:Nat) (h1:j < i1.toArray.size) (h2:j < i2.toArray.size),SeqAt.EqAt A.in1 s i1.toArray[j] i2.toArray[j] (ev j):=by
 have k1:=t1.len
 have k2:=t2.len
 have hc:∀ j:Nat,∃ bo:Bool,∀ (h1:j < ds.length) (h2:j < es.length),(bo=true↔ds[j]=es[j])/\∀ (A:Around) (u v:Value),A.units+n < cLine->RelV (xs[j]'(by omega)) u->RelV (ys[j]'(by omega)) v->SeqAt.EqAt A s u v bo:=fun j=>by
  by_cases hj:j < ds.length/\j < es.length
  ·obtain ⟨bo,q1,q2⟩:=TD.RA I (t1.at_ j (by omega) hj.1) (t2.at_ j (by omega) hj.2)
   exact ⟨bo,fun _ _=>⟨q1,q2⟩⟩
  ·exact ⟨false,fun h1 h2=>absurd ⟨h1,h2⟩ hj⟩
 obtain ⟨ev,yc⟩:=Classical.axiomOfChoice hc
 refine ⟨ev,fun j h1 h2=>(yc j h1 h2).1,fun i1 i2 v1 v2 A hu j g1 g2=>?_⟩
 have l1:=v1.length
 have l2:=v2.length
 have j1:j < ds.length:=by simp at g1;omega
 have j2:j < es.length:=by simp at g2;omega
 obtain ⟨w1,f1,q1⟩:=v1.get (Qa (show j < xs.length by omega))
 obtain ⟨w2,f2,q2⟩:=v2.get (Qa (show j < ys.length by omega))
 have n1:i1.toArray[j]=w1:=by rw [Qa (by simpa using g1)] at f1;simpa using f1
 have n2:i2.toArray[j]=w2:=by rw [Qa (by simpa using g2)] at f2;simpa using f2
 rw [n1,n2]
 exact (yc j j1 j2).2 A.in1 w1 w2 (by rw [Around.in1_units];omega) q1 q2
theorem RC {ds es:List Tv} {s1 s2:Nat} {ev:Nat->Bool} (h1:s1=ds.length) (h2:s2=es.length) (yc:∀ j (h1:j < ds.length) (h2:j < es.length),ev j=true↔ds[j]=es[j]):((List.range (min s1 s2)).all ev&&s1==s2)=true↔Tv.t ds=.t es:=by
 subst h1 h2
 rw [Bool.and_eq_true]
 constructor
 ·rintro ⟨q1,q2⟩
  have hl:ds.length=es.length:=by simpa using q2
  rw [<- hl,Nat.min_self] at q1
  exact congrArg Tv.t ((kP hl yc).mp q1)
 ·intro q
  have hq:ds=es:=by injection q
  have hl:ds.length=es.length:=by rw [hq]
  refine ⟨?_,by simp [hl]⟩
  rw [<- hl,Nat.min_self]
  exact (kP hl yc).mpr hq
def RD (ng:Bool):R2:=fun x y H Q=>∃ n m d e a b,n<=150/\x=.ref a/\y=.ref b/\TD H n x d/\TD H m y e/\∀ bo:Bool,(bo=true↔d=e)->Q (.bl (ng^^bo)) H
theorem oP (hu:X.A.units+170 < cLine):br X (compareOp .NotEq) (RD true):=by
 intro pins s σ H x y v u Q I rx ry h
 obtain ⟨n,m,d,e,a,b,hn,rfl,rfl,h1,h2,q⟩:=h
 cases rx
 cases ry
 obtain ⟨n',ds,xs,rfl,rfl,r1,t1⟩:=h1.um
 obtain ⟨m',es,ys,rfl,rfl,r2,t2⟩:=h2.um
 obtain ⟨i1,v1,p1,_⟩:=I.tuple (ae.zb r1)
 obtain ⟨i2,v2,p2,_⟩:=I.tuple (ae.zb r2)
 have l1:=v1.length
 have l2:=v2.length
 have k1:=t1.len
 have k2:=t2.len
 obtain ⟨ev,e1,e2⟩:=fq.RB I t1 t2
 refine SeqAt.RcNeAt.tuples (A:=X.A) (e:=ev) p1 p2 (by omega) (e2 i1 i2 v1 v2 X.A (by omega)) _ _ _ _ ?_
 refine ⟨.bl _,H,I,rfl,?_⟩
 have:=q _ (RC (s1:=i1.toArray.size) (s2:=i2.toArray.size) (by simp;omega) (by simp;omega) e1)
 rw [Bool.true_xor] at this
 exact this
def wc:List (List Tv)->List Tv->List Tv
 | l::ls,m::ms=>.t (l++[m])::wc ls ms
 | _,_=>[]
mutual
def nu:Mr->Tv
 | .mk f ks=>.t (match f with
  | .get z=>[.s "get",.s z]
  | .fn v r=>[.s "fn",.s v,.s r]++ki ks
  | .call=>.s "call"::ki ks
  | .fb ws=>[.s "box",.t (wc (ws.map fun z=>[Tv.s z]) (ki ks))]
  | .part z=>.s "part"::(ki ks++[.s z])
  | .pick z=>[.s "pick",.s z]++ki ks
  | .split cs=>.s "split"::((ki ks).take 1++[.t (wc (cs.map fun c=>[Tv.s c.1,.s c.2]) ((ki ks).drop 1))])
  | .hold r=>.s "hold"::(ki ks++[.s r]))
def ki:List Mr->List Tv
 | []=>[]
 | m::l=>nu m::ki l
end
theorem oY:∀ l:List Mr,ki l=l.map nu
 | []=>by rw [ki];rfl
 | m::l=>by rw [ki,oY l];rfl
theorem qA:∀ (ls:List (List Tv)) (ms:List Tv) (i:Nat) (h:i < (wc ls ms).length) (h1:i < ls.length) (h2:i < ms.length),(wc ls ms)[i]=.t (ls[i]++[ms[i]])
 | l::ls,m::ms,0,_,_,_=>rfl
 | l::ls,m::ms,i+1,h,h1,h2=>by
  have:=qA ls ms i (by simpa [wc] using h) (by simpa using h1) (by simpa using h2)
  simpa [wc] using this
theorem oW:∀ (ls:List (List Tv)) (ms:List Tv),ls.length=ms.length->(wc ls ms).length=ls.length
 | [],[],_=>rfl
 | l::ls,m::ms,h=>by simp [wc,oW ls ms (by simpa using h)]
theorem TD.up {H:Hp}:∀ {n:Nat} {v:V} {d:Tv} {k:Nat},TD H n v d->n<=k->TD H k v d
 | n,v,d,k,h,hk=>by
  rcases h.v with ⟨z,rfl⟩ | ⟨z,rfl⟩ | ⟨a,rfl⟩
  ·obtain rfl:=h.vz;exact TD.str
  ·obtain rfl:=h.v_;exact TD.int
  ·obtain ⟨m,ds,xs,rfl,rfl,h1,h2⟩:=h.um
   obtain ⟨j,rfl⟩:∃ j,k=j+1:=⟨k - 1,by omega⟩
   exact TD.tup h1 ⟨h2.len,fun i a b=>TD.up (h2.at_ i a b) (by omega)⟩
 termination_by n=>n
theorem fq.app {xs ys:List V} {ds es:List Tv} (h1:fq H n xs ds) (h2:fq H n ys es):fq H n (xs++ys) (ds++es):=by
 have l1:=h1.len
 have l2:=h2.len
 refine ⟨by simp [l1,l2],fun i a b=>?_⟩
 by_cases h:i < xs.length
 ·rw [Qe h,Qe (by omega)]
  exact h1.at_ i h (by omega)
 ·rw [Qf (by omega),Qf (by omega)]
  simp only [<- l1]
  exact h2.at_ _ (by simp at a;omega) (by simp at a;omega)
theorem ql.Kp {ls:List (List V)} {ts:List (List Tv)} {xs ms:List V} {ds:List Tv} (h:ql H ls xs ms) (hm:fq H n ms ds) (hl:ls.length=ts.length) (ht:∀ i (h1:i < ls.length) (h2:i < ts.length),fq H n ls[i] ts[i]):fq H (n+1) xs (wc ts ds):=by
 have l1:=h.l1
 have l2:=h.l2
 have l3:=hm.len
 have l4:=oW ts ds (by omega)
 refine ⟨by omega,fun i a b=>?_⟩
 obtain ⟨c,h1,h2⟩:=h.at_ i a (by omega) (by omega)
 rw [h1,qA ts ds i b (by omega) (by omega)]
 exact TD.tup (.inl h2) ((ht i (by omega) (by omega)).app (.cons (hm.at_ i (by omega) (by omega)) .nil))
theorem a_.td {v:V} {m:Mr} (h:a_ H d v m):TD H (3*d) v (nu m):=by
 induction h with
 | @mk n v f vs ks a o b c ih=>
  have hk:fq H (3*n) vs (ki ks):=by
   rw [oY]
   exact ⟨by simpa using b,fun i h1 h2=>by rw [Qr];exact ih i h1 (by simpa using h2)⟩
  have hk2:fq H (3*n+2) vs (ki ks):=⟨hk.len,fun i h1 h2=>TD.up (hk.at_ i h1 h2) (by omega)⟩
  rw [show 3*(n+1)=3*n+2+1 by omega]
  cases a with
  | get e=>
   rw [nu]
   exact TD.tup (.inl e) (.cons .str (.cons .str .nil))
  | @fn a0 v0 r0 m0 e=>
   rw [nu]
   exact TD.tup (.inl e) (fq.app (xs:=[.str "fn",.str v0,.str r0]) (.cons .str (.cons .str (.cons .str .nil))) hk2)
  | call e=>
   rw [nu]
   exact TD.tup (.inl e) (.cons .str hk2)
  | @fb a0 b0 ws xs ms e e' r=>
   rw [nu]
   refine TD.tup (.inl e) (.cons .str (.cons (TD.tup (n:=3*n+1) (.inl e') (r.Kp hk (by simp [jh]) fun i h1 h2=>?_)) .nil))
   simp only [jh,Qr]
   exact .cons .str .nil
  | @part a0 m0 z e=>
   rw [nu]
   exact TD.tup (.inl e) (.cons .str (fq.app (xs:=[m0]) hk2 (.cons .str .nil)))
  | @pick a0 z m0 e=>
   rw [nu]
   exact TD.tup (.inl e) (fq.app (xs:=[.str "pick",.str z]) (.cons .str (.cons .str .nil)) hk2)
  | @split a0 b0 cs m0 xs ms e e' r=>
   obtain ⟨k0,EQ,rfl⟩:∃ k0 EQ,ks=k0::EQ:=by
    cases ks with
    | nil=>simp at b
    | cons k0 EQ=>exact ⟨_,_,rfl⟩
   rw [nu]
   rw [ki] at hk hk2 ⊢
   have ht:fq H (3*n) ms (ki EQ):=⟨by have:=hk.len;simpa using this,fun i h1 h2=>by
    have:=hk.at_ (i+1) (by simpa using h1) (by simpa using h2)
    simpa using this⟩
   refine TD.tup (.inl e) (.cons .str (.cons (hk2.at_ 0 (by simp) (by simp)) (.cons (TD.tup (n:=3*n+1) (.inl e') (r.Kp ht (by simp [gy]) fun i h1 h2=>?_)) .nil)))
   simp only [gy,Qr]
   exact .cons .str (.cons .str .nil)
  | @hold a0 m0 z e=>
   rw [nu]
   exact TD.tup (.inl e) (.cons .str (fq.app (xs:=[m0]) hk2 (.cons .str .nil)))
end L2
namespace PySem
open Sem (wp)
section
variable {I:Addr} {wr:List Addr} {P:Nat->Value->Prop} {St:Nat->Heap->Prop}
end
end PySem
namespace L2
open PySem PySem.Spec PyProof.Rows
section
variable {dv:Expr} {kp pos p:Pos} {td:TE}
end
section
def SrcAt (tp:Bool) (l:Addr) (vs:Array Value) (h:Heap):Prop:=if tp then IsTup h l vs else h.IsList l vs
def gz (tp:Bool) (c l:Addr) (k:Nat) (h:Heap):Prop:=if tp then IsTupIter h c l k else h.IsListIter c l k
theorem SrcAt.ext (x:SrcAt tp l vs h) (e:Heap.ExtBut b h h') (n:l≠b):SrcAt tp l vs h':=by
 cases tp
 ·exact Heap.IsList.extBut x e n
 ·exact IsTup.extBut x e n
theorem gz.ext {k:Nat} (x:gz tp c l k h) (e:Heap.ExtBut b h h') (n:c≠b):gz tp c l k h':=by
 cases tp
 ·exact Heap.IsListIter.extBut x e n
 ·obtain ⟨o,ho,r⟩:=x;exact ⟨o,e _ _ n ho,r⟩
theorem gz.at_ {k:Nat} (x:gz tp c l k h) (q:∀ o,h.get? c=some o->h'.get? c=some o):gz tp c l k h':=by
 cases tp
 ·obtain ⟨o,ho,r⟩:=x;exact ⟨o,q o ho,r⟩
 ·obtain ⟨o,ho,r⟩:=x;exact ⟨o,q o ho,r⟩
theorem gz.obj {k:Nat} (x:gz tp c l k h):∃ o,h.get? c=some o/\∀ v,o.data≠.cell v:=by
 cases tp
 ·obtain ⟨o,ho,_,d⟩:=x;exact ⟨o,ho,fun v z=>by rw [d] at z;cases z⟩
 ·obtain ⟨o,ho,_,d⟩:=x;exact ⟨o,ho,fun v z=>by rw [d] at z;cases z⟩
theorem SrcAt.lt (x:SrcAt tp l vs h):l < h.objs.size:=by
 cases tp<;>(obtain ⟨o,ho,_⟩:=x;exact Qz ho)
theorem xJ {t:Addr} {x:Value} (hc:IsTupIter s.heap c t i) (ht:IsTup s.heap t vs) (hx:vs[i]? =some x)
  (q:∀ g,IsTupIter g c t (i+1)->Heap.SameBut c s.heap g->Q x {s with heap:=g}):wpAny (model P w) A (Builtin.SmallTypes.nextOf (.ref c)) Q E s:=by
 obtain ⟨ob,e1,e2,e3⟩:=id hc
 obtain ⟨ot,f1,_,m,f3⟩:=ht
 unfold Builtin.SmallTypes.nextOf
 refine QS (wpAny_callSpecial?_slot (name:=Str.ofString "__next__") hc.typeIs slot_tupleiter_next (wpAny_call_entry slot_tupleiter_next hc.typeIs entry_tupleiter_next ?_ (args_tupleiter_next _)))
 show wpAny _ _ (field (.ref c) 0 >>=_) _ _ s
 refine QS (wpAny_field e1 e3 (x:=.ref t) rfl ?_)
 show wpAny _ _ (if (Value.ref t==Value.none)=true then _ else _) _ _ s
 rw [if_neg (by exact Bool.false_ne_true)]
 show wpAny _ _ (field (.ref c) 1 >>=_) _ _ s
 refine QS (wpAny_field e1 e3 (x:=.int i 0) rfl ?_)
 show wpAny _ _ (seqItems? (.ref t) >>=_) _ _ s
 refine QS (wpAny_seqItems f1 f3 ?_)
 simp only [Int.toNat_natCast,hx]
 refine QS (wpAny_setField e1 e3 (by simp) (QT ⟨x,rfl,QT (q _ ⟨_,Heap.get?_update_self _ e1 (Obj.isFreed_of_fields (Obj.data_mapFields e3 _)),(Obj.cls_mapFields ..).trans e2,?_⟩ (Heap.SameBut.update ..))⟩))
 rw [Obj.data_mapFields e3];simp [rawInt]
theorem xP {t:Addr} (hh:A.handled=none) (hc:IsTupIter s.heap c t i) (ht:IsTup s.heap t vs) (hx:vs[i]? =none)
  (q:∀ g e,Heap.ExtBut c s.heap g->(∃ o,g.get? e=some o/\o.cls=.type "StopIteration")->E (.ref e) {s with heap:=g}):wpAny (model P w) A (Builtin.SmallTypes.nextOf (.ref c)) Q E s:=by
 obtain ⟨ob,e1,e2,e3⟩:=id hc
 obtain ⟨ot,f1,_,m,f3⟩:=ht
 unfold Builtin.SmallTypes.nextOf
 refine QS (wpAny_callSpecial?_slot (name:=Str.ofString "__next__") hc.typeIs slot_tupleiter_next (wpAny_call_entry slot_tupleiter_next hc.typeIs entry_tupleiter_next ?_ (args_tupleiter_next _)))
 show wpAny _ _ (field (.ref c) 0 >>=_) _ _ s
 refine QS (wpAny_field e1 e3 (x:=.ref t) rfl ?_)
 show wpAny _ _ (if (Value.ref t==Value.none)=true then _ else _) _ _ s
 rw [if_neg (by exact Bool.false_ne_true)]
 show wpAny _ _ (field (.ref c) 1 >>=_) _ _ s
 refine QS (wpAny_field e1 e3 (x:=.int i 0) rfl ?_)
 show wpAny _ _ (seqItems? (.ref t) >>=_) _ _ s
 refine QS (wpAny_seqItems f1 f3 ?_)
 simp only [Int.toNat_natCast,hx]
 refine QS (wpAny_rule (QS (wpAny_setField e1 e3 (by simp) ?_)))
 show wpAny _ _ (newExc (.type "StopIteration") [] >>=_) _ _ _
 refine QS ?_
 simp only [newExc,newTuple]
 refine QS (wpAny_newObj_type ?_ (by size_fits))
 refine QS (m:=firstArgMember _ _) (wpAny_of_eq (a:=.none) (by first | rfl | (simp only [firstArgMember];rfl)) ?_)
 refine wpAny_newObj_type ?_ (by size_fits)
 simp only [raiseNew]
 refine QS (wpAny_handled ?_)
 first | rw [show A.in1.handled=none by exact hh] | rw [hh]
 exact QS (QT (wpAny_throw (q _ _ (((Heap.SameBut.update ..).extBut.push _).push _) ⟨_,Qd _ rfl,rfl⟩)))
theorem w9 {x:Value} (hc:gz tp c l i s.heap) (hs:SrcAt tp l vs s.heap) (hx:vs[i]? =some x)
  (q:∀ g,gz tp c l (i+1) g->Heap.SameBut c s.heap g->Q x {s with heap:=g}):wpAny (model P w) A (Builtin.SmallTypes.nextOf (.ref c)) Q E s:=by
 cases tp
 ·exact wpAny_nextOf_list_item hc hs hx q
 ·exact xJ hc hs hx q
theorem wH (hh:A.handled=none) (hc:gz tp c l i s.heap) (hs:SrcAt tp l vs s.heap) (hx:vs[i]? =none)
  (q:∀ g e,Heap.ExtBut c s.heap g->(∃ o,g.get? e=some o/\o.cls=.type "StopIteration")->E (.ref e) {s with heap:=g}):wpAny (model P w) A (Builtin.SmallTypes.nextOf (.ref c)) Q E s:=by
 cases tp
 ·exact wpAny_nextOf_list_end hh hc hs hx q
 ·exact xP hh hc hs hx q
variable {t1 t2:Bool} {z TI TO c1 c2 l1 l2:Addr} {k1 k2:Nat} {xs ys:Array Value} {x y a b:Value}
theorem xN {Q:Option Value->Shared->Prop} (D:ZipApart z TI TO c1 c2 l1 l2) (hz:IsZip s.heap z TI TO .none) (hI:IsPair s.heap TI (.ref c1) (.ref c2)) (hO:IsPair s.heap TO a b)
  (h1:gz t1 c1 l1 k1 s.heap) (h2:gz t2 c2 l2 k2 s.heap) (s1:SrcAt t1 l1 xs s.heap) (s2:SrcAt t2 l2 ys s.heap) (hx:xs[k1]? =some x) (hy:ys[k2]? =some y)
  (q:∀ g,IsZip g z TI TO (rawInt s.heap.objs.size)->IsPair g TO x y->gz t1 c1 l1 (k1+1) g->gz t2 c2 l2 (k2+1) g->IsPair g s.heap.objs.size x y->
   (∀ d o,d≠z->d≠TO->d≠c1->d≠c2->s.heap.get? d=some o->g.get? d=some o)->Q (some (.ref s.heap.objs.size)) {s with heap:=g}):wpAny (model P w) A (pyNext (.ref z)) Q E s:=by
 have ty:s.TypeIs (.ref z) "zip":=⟨_,hz,rfl⟩
 unfold pyNext
 refine QS (wpAny_attempt (wpAny_callSpecial?_slot (name:=Str.ofString "__next__") ty F.slot_zip_next (wpAny_call_entry F.slot_zip_next ty F.entry_zip_next ?_ (F.args_zip_next_1 _))))
 show wpAny _ _ (field (.ref z) 2 >>=_) _ _ _
 refine QS (wpAny_field hz rfl (x:=.bool false) rfl ?_)
 show wpAny _ _ (field (.ref z) 3 >>=_) _ _ _
 refine QS (wpAny_field hz rfl (x:=.ref TI) rfl ?_)
 refine QS (wpAny_seqItems hI rfl ?_)
 show wpAny _ _ (Builtin.SmallTypes.ownedTupleIsFree (.ref z) >>=_) _ _ _
 refine QS ?_
 unfold Builtin.SmallTypes.ownedTupleIsFree
 refine QS (wpAny_field hz rfl (x:=.none) rfl (QT ?_))
 simp only [if_true]
 refine QS (wpAny_rule (QS (wpAny_field hz rfl (x:=.ref TO) rfl ?_)))
 refine QS (wpAny_setField_rec hz (by simp) fun g1 z1 e1=>?_)
 replace z1:IsZip g1 z TI TO .ellipsis:=z1
 refine QS ?_
 simp only [List.zipIdx_cons,List.zipIdx_nil,List.forIn_cons,List.forIn_nil]
 refine QS (QS (wpAny_onRaise ?_))
 show wpAny _ _ (Builtin.SmallTypes.nextOf (.ref c1) >>=_) _ _ _
 refine QS (w9 (h1.ext e1.extBut D.i1z) (s1.ext e1.extBut D.l1z) hx fun g2 m2 e2=>QT ?_)
 have O2:IsPair g2 TO a b:=e2.extBut _ _ D.TOi1 (e1.extBut _ _ D.TOz hO)
 refine QS (wpAny_seqItems O2 rfl (QS (wpAny_updateSeq_pair O2 fun g3 O3 e3=>?_)))
 replace O3:IsPair g3 TO x b:=O3
 refine QS (wpAny_letGo (QT ?_))
 refine QS (QS (wpAny_onRaise ?_))
 show wpAny _ _ (Builtin.SmallTypes.nextOf (.ref c2) >>=_) _ _ _
 refine QS (w9 (((h2.ext e1.extBut D.i2z).ext e2.extBut D.i12.symm).ext e3.extBut D.TOi2.symm) (((s2.ext e1.extBut D.l2z).ext e2.extBut D.l2i1).ext e3.extBut D.l2TO) hy fun g4 m4 e4=>QT ?_)
 have O4:IsPair g4 TO x b:=e4.extBut _ _ D.TOi2 O3
 refine QS (wpAny_seqItems O4 rfl (QS (wpAny_updateSeq_pair O4 fun g5 O5 e5=>?_)))
 replace O5:IsPair g5 TO x y:=O5
 refine QS (wpAny_letGo (QT (QT ?_)))
 refine QS (wpAny_seqItems O5 rfl (QS (wpAny_newTuple ?_)))
 have sz:g5.objs.size=s.heap.objs.size:=by rw [e5.1,e4.1,e3.1,e2.1,e1.1]
 have z5:IsZip g5 z TI TO .ellipsis:=e5.extBut _ _ D.TOz.symm (e4.extBut _ _ D.i2z.symm (e3.extBut _ _ D.TOz.symm (e2.extBut _ _ D.i1z.symm z1)))
 have k5:∀ d o,d≠z->d≠TO->d≠c1->d≠c2->s.heap.get? d=some o->g5.get? d=some o:=fun d o n1 n2 n3 n4 e=>e5.extBut _ _ n2 (e4.extBut _ _ n4 (e3.extBut _ _ n2 (e2.extBut _ _ n3 (e1.extBut _ _ n1 e))))
 have RE:gz t1 c1 l1 (k1+1) g5:=((m2.ext e3.extBut D.TOi1.symm).ext e4.extBut D.i12).ext e5.extBut D.TOi1.symm
 have RG:gz t2 c2 l2 (k2+1) g5:=m4.ext e5.extBut D.TOi2.symm
 have zl:z < g5.objs.size:=Qz z5
 show wpAny _ _ (Builtin.SmallTypes.ownedTupleHandOut (.ref z) (.ref g5.objs.size) >>=_) _ _ _
 refine QS ?_
 unfold Builtin.SmallTypes.ownedTupleHandOut
 have z6:IsZip (g5.push {cls:=.type "tuple",data:=.seq #[x,y]}) z TI TO .ellipsis:=Qc _ z5
 refine QS (wpAny_setField_rec z6 (by simp) fun g7 z7 e7=>?_)
 replace z7:IsZip g7 z TI TO (rawInt g5.objs.size):=z7
 refine wpAny_setField_rec z7 (by simp) fun g8 z8 e8=>?_
 replace z8:IsZip g8 z TI TO (rawInt g5.objs.size):=z8
 have up:∀ d o,d≠z->g5.get? d=some o->g8.get? d=some o:=fun d o n e=>e8.extBut _ _ n (e7.extBut _ _ n (Qc _ e))
 have T8:IsPair g8 g5.objs.size x y:=e8.extBut _ _ (Nat.ne_of_gt zl) (e7.extBut _ _ (Nat.ne_of_gt zl) (Qd _ rfl))
 rw [sz] at z8 T8
 refine QT ⟨_,rfl,QT ?_⟩
 show Q (some (.ref g5.objs.size)) _
 rw [sz]
 exact q g8 z8 (up _ _ D.TOz O5) (RE.at_ fun o e=>up _ o D.i1z e) (RG.at_ fun o e=>up _ o D.i2z e) T8 fun d o n1 n2 n3 n4 e=>up d o n1 (k5 d o n1 n2 n3 n4 e)
theorem RH {Q:Option Value->Shared->Prop} (hh:A.handled=none) (D:ZipApart z TI TO c1 c2 l1 l2) (hz:IsZip s.heap z TI TO .none) (hI:IsPair s.heap TI (.ref c1) (.ref c2)) (hO:IsPair s.heap TO a b)
  (h1:gz t1 c1 l1 k1 s.heap) (h2:gz t2 c2 l2 k2 s.heap) (s1:SrcAt t1 l1 xs s.heap) (s2:SrcAt t2 l2 ys s.heap) (RI:xs[k1]? =none\/ys[k2]? =none)
  (q:∀ g,(∀ d o,d≠z->d≠TO->d≠c1->d≠c2->s.heap.get? d=some o->g.get? d=some o)->Q none {s with heap:=g}):wpAny (model P w) A (pyNext (.ref z)) Q E s:=by
 have ty:s.TypeIs (.ref z) "zip":=⟨_,hz,rfl⟩
 unfold pyNext
 refine QS (wpAny_attempt (wpAny_callSpecial?_slot (name:=Str.ofString "__next__") ty F.slot_zip_next (wpAny_call_entry F.slot_zip_next ty F.entry_zip_next ?_ (F.args_zip_next_1 _))))
 have fin:∀ (g:Heap) (e:Addr),(∀ d o,d≠z->d≠TO->d≠c1->d≠c2->s.heap.get? d=some o->g.get? d=some o)->(∃ o,g.get? e=some o/\o.cls=.type "StopIteration")->wpAny (model P w) A (do if <- isInstance (.ref e) (.type "StopIteration") then pure none else throw (.ref e)) Q E {s with heap:=g}:=fun g e k ⟨o,ho,hc⟩=>
  QS (wpAny_isInstance (T:="StopIteration") (b:=true) ⟨o,ho,hc⟩ isSubtype_stop (QT (q g k)))
 show wpAny _ _ (field (.ref z) 2 >>=_) _ _ _
 refine QS (wpAny_field hz rfl (x:=.bool false) rfl ?_)
 show wpAny _ _ (field (.ref z) 3 >>=_) _ _ _
 refine QS (wpAny_field hz rfl (x:=.ref TI) rfl ?_)
 refine QS (wpAny_seqItems hI rfl ?_)
 show wpAny _ _ (Builtin.SmallTypes.ownedTupleIsFree (.ref z) >>=_) _ _ _
 refine QS ?_
 unfold Builtin.SmallTypes.ownedTupleIsFree
 refine QS (wpAny_field hz rfl (x:=.none) rfl (QT ?_))
 simp only [if_true]
 refine QS (wpAny_rule (QS (wpAny_field hz rfl (x:=.ref TO) rfl ?_)))
 refine QS (wpAny_setField_rec hz (by simp) fun g1 z1 e1=>?_)
 replace z1:IsZip g1 z TI TO .ellipsis:=z1
 refine QS ?_
 simp only [List.zipIdx_cons,List.zipIdx_nil,List.forIn_cons,List.forIn_nil]
 refine QS (QS (wpAny_onRaise ?_))
 show wpAny _ _ (Builtin.SmallTypes.nextOf (.ref c1) >>=_) _ _ _
 cases hx:xs[k1]? with
 | none=>
  refine QS (wH hh (h1.ext e1.extBut D.i1z) (s1.ext e1.extBut D.l1z) hx ?_)
  rintro g2 e e2 ⟨oe,f1,f2⟩
  have z2:IsZip g2 z TI TO .ellipsis:=e2 _ _ D.i1z.symm z1
  have ez:e≠z:=fun r=>by subst r;rw [z2] at f1;cases f1;simp at f2
  exact wpAny_setField_rec z2 (by simp) fun g3 _ e3=>fin g3 e (fun d o n1 _ n3 _ r=>e3.extBut _ _ n1 (e2 _ _ n3 (e1.extBut _ _ n1 r))) ⟨oe,e3.extBut _ _ ez f1,f2⟩
 | some x=>
  have hy:ys[k2]? =none:=by rcases RI with h | h;rw [hx] at h;cases h;exact h
  refine QS (w9 (h1.ext e1.extBut D.i1z) (s1.ext e1.extBut D.l1z) hx fun g2 m2 e2=>QT ?_)
  have O2:IsPair g2 TO a b:=e2.extBut _ _ D.TOi1 (e1.extBut _ _ D.TOz hO)
  refine QS (wpAny_seqItems O2 rfl (QS (wpAny_updateSeq_pair O2 fun g3 O3 e3=>?_)))
  refine QS (wpAny_letGo (QT ?_))
  refine QS (QS (wpAny_onRaise ?_))
  show wpAny _ _ (Builtin.SmallTypes.nextOf (.ref c2) >>=_) _ _ _
  refine QS (wH hh (((h2.ext e1.extBut D.i2z).ext e2.extBut D.i12.symm).ext e3.extBut D.TOi2.symm) (((s2.ext e1.extBut D.l2z).ext e2.extBut D.l2i1).ext e3.extBut D.l2TO) hy ?_)
  rintro g4 e e4 ⟨oe,f1,f2⟩
  have z4:IsZip g4 z TI TO .ellipsis:=e4 _ _ D.i2z.symm (e3.extBut _ _ D.TOz.symm (e2.extBut _ _ D.i1z.symm z1))
  have ez:e≠z:=fun r=>by subst r;rw [z4] at f1;cases f1;simp at f2
  exact wpAny_setField_rec z4 (by simp) fun g5 _ e5=>fin g5 e (fun d o n1 n2 n3 n4 r=>e5.extBut _ _ n1 (e4 _ _ n4 (e3.extBut _ _ n2 (e2.extBut _ _ n3 (e1.extBut _ _ n1 r))))) ⟨oe,e5.extBut _ _ ez f1,f2⟩
abbrev AD (tp:Bool) (l:Addr):Obj:={cls:=.type (if tp then "tuple_iterator" else "list_iterator"),data:=.fields #[.ref l,.int 0 0]}
theorem zI (h:SrcAt tp l vs s.heap) (q:Q (.ref s.heap.objs.size) {s with heap:=s.heap.push (AD tp l)}):wpAny (model P w) A (pyIter (.ref l)) Q E s:=by
 cases tp
 ·exact wpAny_pyIter_list h q
 ·exact iter_tuple h q
theorem SrcAt.push {tp:Bool} {l:Addr} {vs:Array Value} {h:Heap} (x:SrcAt tp l vs h) (o:Obj):SrcAt tp l vs (h.push o):=by
 cases tp
 ·exact Heap.IsList.push x o
 ·exact IsTup.push x o
end
abbrev GV (t1 t2:Bool) (h:Heap) (l1 l2:Addr):Heap:=(h.push (AD t1 l1)).push (AD t2 l2)
abbrev Kq (t1 t2:Bool) (h:Heap) (l1 l2:Addr):Heap:=((GV t1 t2 h l1 l2).push {cls:=.type "tuple",data:=.seq #[.ref h.objs.size,.ref (h.objs.size+1)]}).push {cls:=.type "tuple",data:=.seq #[.none,.none]}
abbrev BK (t1 t2:Bool) (h:Heap) (l1 l2:Addr):Heap:=(Kq t1 t2 h l1 l2).push {cls:=.type "zip",data:=.fields #[.none,.bool false,.bool false,.ref (h.objs.size+2),.ref (h.objs.size+3)]}
theorem RJ (t1 t2:Bool) (l1 l2:Addr) (xs ys:Array Value):Meets (Builtin.«zip.__new__» ⟨[.type "zip",.ref l1,.ref l2],[]⟩) (fun _ R s=>SrcAt t1 l1 xs s.heap/\SrcAt t2 l2 ys s.heap/\R (.ok (.ret (.ref (s.heap.objs.size+4)))) {s with heap:=BK t1 t2 s.heap l1 l2}):=
 .of_wp fun prog w A R s h=>by
  obtain ⟨hp,g,d,tk,os⟩:=s
  obtain ⟨a1,a2,h⟩:=h
  have su:=sub_zip
  have b1:SrcAt t1 l1 xs (Shared.heap ⟨hp,g,d,tk,os⟩):=a1
  have b2:SrcAt t2 l2 ys (Shared.heap ⟨hp.push (AD t1 l1),g,d,tk,os⟩):=SrcAt.push a2 _
  wp_walk using zI b1,zI b2
  refine ⟨_,rfl,?_⟩
  simp only [Heap.size_push] at h ⊢
  exact h
theorem yB {t1 t2:Bool} {l1 l2:Addr} {xs ys:Array Value} (a1:SrcAt t1 l1 xs s.heap) (a2:SrcAt t2 l2 ys s.heap)
  (q:∀ g,IsZip g (s.heap.objs.size+4) (s.heap.objs.size+2) (s.heap.objs.size+3) .none->IsPair g (s.heap.objs.size+2) (.ref s.heap.objs.size) (.ref (s.heap.objs.size+1))->IsPair g (s.heap.objs.size+3) .none .none->
   gz t1 s.heap.objs.size l1 0 g->gz t2 (s.heap.objs.size+1) l2 0 g->(∀ c o,s.heap.get? c=some o->g.get? c=some o)->Q (.ref (s.heap.objs.size+4)) {s with heap:=g}):wpAny (model P w) A (call (.type "zip") [.ref l1,.ref l2]) Q E s:=by
 refine callType_new F.called_zip (by decide) (F.typeCall_zip_2 _ _) (F.newCall_zip_2 _ _) (fun obj=>F.args_object_init_3 obj _ _) F.entry_zip_new (RJ t1 t2 l1 l2 xs ys) ⟨a1,a2,?_⟩
 have n1:(s.heap.push (AD t1 l1)).objs.size=s.heap.objs.size+1:=Heap.size_push ..
 have n2:(GV t1 t2 s.heap l1 l2).objs.size=s.heap.objs.size+2:=by rw [Heap.size_push,n1]
 have n3:((GV t1 t2 s.heap l1 l2).push {cls:=.type "tuple",data:=.seq #[.ref s.heap.objs.size,.ref (s.heap.objs.size+1)]}).objs.size=s.heap.objs.size+3:=by rw [Heap.size_push,n2]
 have n4:(Kq t1 t2 s.heap l1 l2).objs.size=s.heap.objs.size+4:=by rw [Heap.size_push,n3]
 have g5:(BK t1 t2 s.heap l1 l2).get? (s.heap.objs.size+4)=some {cls:=.type "zip",data:=.fields #[.none,.bool false,.bool false,.ref (s.heap.objs.size+2),.ref (s.heap.objs.size+3)]}:=by rw [<- n4];exact Qd _ rfl
 have g4:(BK t1 t2 s.heap l1 l2).get? (s.heap.objs.size+3)=some {cls:=.type "tuple",data:=.seq #[.none,.none]}:=Qc _ (by rw [<- n3];exact Qd _ rfl)
 have g3:(BK t1 t2 s.heap l1 l2).get? (s.heap.objs.size+2)=some {cls:=.type "tuple",data:=.seq #[.ref s.heap.objs.size,.ref (s.heap.objs.size+1)]}:=Qc _ (Qc _ (by rw [<- n2];exact Qd _ rfl))
 have g2:(BK t1 t2 s.heap l1 l2).get? (s.heap.objs.size+1)=some (AD t2 l2):=Qc _ (Qc _ (Qc _ (by rw [<- n1];exact Qd _ rfl)))
 have g1:(BK t1 t2 s.heap l1 l2).get? s.heap.objs.size=some (AD t1 l1):=Qc _ (Qc _ (Qc _ (Qc _ (Qd _ rfl))))
 refine ⟨⟨_,g5,rfl⟩,q _ g5 g3 g4 ?_ ?_ fun c o x=>Qc _ (Qc _ (Qc _ (Qc _ (Qc _ x))))⟩
 ·cases t1<;>exact ⟨_,g1,rfl,rfl⟩
 ·cases t2<;>exact ⟨_,g2,rfl,rfl⟩
def pg (tp:Bool) (K:QZ) (H:Hp) (a:Addr) (xs:List V):Prop:=if tp then ae K H a xs else ai K H a xs
theorem Inv.BL {xs:List V} (I:Inv X pins σ H s) (h:pg tp X.K H a xs):∃ us:List Value,au xs us/\SrcAt tp a us.toArray s.heap:=by
 cases tp
 ·obtain ⟨us,rv,p,_⟩:=I.list h
  exact ⟨us,rv,p.isList⟩
 ·obtain ⟨us,rv,p,_⟩:=I.tuple h
  exact ⟨us,rv,p⟩
theorem Inv.Kr {xs ys:List V} (I:Inv X pins σ H s) (h:pg tp X.K H a xs) (h':pg tp X.K H a ys):xs=ys:=by
 cases tp
 ·exact I.Cn h h'
 ·exact I.Fx h h'
def GW (t1 t2 : Bool) (K : QZ) (a b : Addr) : It :=
  ⟨fun i H => ∃ xs ys x y, pg t1 K H a xs /\ pg t2 K H b ys /\ xs[i]? = some x /\ ys[i]? = some y, fun i H x H' => ∃ v1 v2, (∀ xs, pg t1 K H a xs -> xs[i]? = some v1) /\ (∀ ys, pg t2 K H b ys -> ys[i]? = some v2) /\ Aj v1 v2 H x H',
   fun i H => ∃ xs ys, pg t1 K H a xs /\ pg t2 K H b ys /\ (xs.length <= i \/ ys.length <= i)⟩
abbrev RK (t1 t2:Bool) (z TI TO c1 c2 a b:Addr) (i:Nat) (h:Heap):Prop:=IsZip h z TI TO .none/\IsPair h TI (.ref c1) (.ref c2)/\(∃ u v,IsPair h TO u v)/\gz t1 c1 a i h/\gz t2 c2 b i h
theorem y8 {K:QZ} {k:Nat} {pos:Pos} {t1 t2:Bool} (z TI TO c1 c2 a b:Addr) (D:ZipApart z TI TO c1 c2 a b):Turn P w K (.Tuple yh k pos) (GW t1 t2 K a b) [z,TI,TO,c1,c2] z (RK t1 t2 z TI TO c1 c2 a b) where
 mem:=by simp
 obj:=fun i h st c hc=>by
  obtain ⟨hz,gw,⟨u,v,ip⟩,h1,h2⟩:=st
  simp only [Qp,QA,or_false] at hc
  rcases hc with rfl | rfl | rfl | rfl | rfl
  ·exact ⟨_,hz,fun v z=>by have z':Data.fields _=Data.cell v:=z;cases z'⟩
  ·exact ⟨_,gw,fun v z=>by have z':Data.seq _ _=Data.cell v:=z;cases z'⟩
  ·exact ⟨_,ip,fun v z=>by have z':Data.seq _ _=Data.cell v:=z;cases z'⟩
  ·exact h1.obj
  ·exact h2.obj
 keep:=fun i h h' st k=>by
  obtain ⟨hz,gw,⟨u,v,ip⟩,h1,h2⟩:=st
  exact ⟨k z (by simp) _ hz,k TI (by simp) _ gw,⟨u,v,k TO (by simp) _ ip⟩,h1.at_ fun o x=>k c1 (by simp) o x,h2.at_ fun o x=>k c2 (by simp) o x⟩
 item:=by
  intro X hP hw hK hc i pins s σ H E I hf st hg
  subst hP hw hK
  obtain ⟨hz,gw,⟨u0,v0,ip⟩,h1,h2⟩:=st
  obtain ⟨xs,ys,x,y,lq,hq2,hx,hy⟩:=hg
  obtain ⟨its,rv,p⟩:=I.BL lq
  obtain ⟨its2,kc,p2⟩:=I.BL hq2
  obtain ⟨u,hu,ru⟩:=rv.get hx
  obtain ⟨u2,Gh,Gi⟩:=kc.get hy
  refine xN D hz gw ip h1 h2 p p2 (x:=u) (y:=u2) (by simpa using hu) (by simpa using Gh) fun h' a1 a2 a3 a4 a5 hk=>?_
  have I1:Inv X pins σ (upd H s.heap.objs.size (.tup [x,y])) {s with heap:=h',toks:=s.toks}:=I.Gd (t':=s.toks) hf (fun b o hb e=>hk b o (fun z=>hb (by simp [z])) (fun z=>hb (by simp [z])) (fun z=>hb (by simp [z])) (fun z=>hb (by simp [z])) e) (Qy _) (nV ru Gi a5)
  refine ⟨_,rfl,wpAny_letOwnedTupleGo_zip (s:={s with heap:=h'}) a1 fun Ak Gj sb=>?_⟩
  have bz:∀ b∈[z,TI,TO,c1,c2],b≠s.heap.objs.size:=fun c hc z'=>by
   simp only [Qp,QA,or_false] at hc
   obtain ⟨o1,e1,_⟩:=h1.obj
   obtain ⟨o2,e2,_⟩:=h2.obj
   rcases hc with rfl | rfl | rfl | rfl | rfl
   ·exact Nat.ne_of_lt (Qz hz) z'
   ·exact Nat.ne_of_lt (Qz gw) z'
   ·exact Nat.ne_of_lt (Qz ip) z'
   ·exact Nat.ne_of_lt (Qz e1) z'
   ·exact Nat.ne_of_lt (Qz e2) z'
  have yx:∀ b∈[z,TI,TO,c1,c2],ky X pins (upd H s.heap.objs.size (.tup [x,y])) b:=fun b hb=>by
   obtain ⟨f0,f⟩:=hf b hb
   exact ⟨by rw [aK (bz b hb)];exact f0,f⟩
  obtain ⟨f0,f1,f2,f3,f4,f5⟩:=yx z (by simp)
  refine ⟨.ref s.heap.objs.size,_,I1.turned (t':=s.toks) (fun b o hb q=>(sb.2 b hb).trans q) f0 f1 f3 f4 f5,rfl,⟨x,y,fun ys hy=>by rw [I.Kr hy lq];exact hx,fun ys Cz=>by rw [I.Kr Cz hq2];exact hy,_,rfl,I.hok.fresh (Qy _),rfl⟩,?_,fun b hb=>(yx b hb).1⟩
  refine ⟨Gj,(sb.2 _ D.TIz).trans (hk _ _ D.TIz D.TITO D.TIi1 D.TIi2 gw),⟨_,_,(sb.2 _ D.TOz).trans a2⟩,a3.at_ fun o q=>(sb.2 _ D.i1z).trans q,a4.at_ fun o q=>(sb.2 _ D.i2z).trans q⟩
 done:=by
  intro X hP hw hK hc i pins s σ H E I hf st hg
  subst hP hw hK
  obtain ⟨hz,gw,⟨u0,v0,ip⟩,h1,h2⟩:=st
  obtain ⟨xs,ys,lq,hq2,hx⟩:=hg
  obtain ⟨its,rv,p⟩:=I.BL lq
  obtain ⟨its2,kc,p2⟩:=I.BL hq2
  have hl:=rv.length
  have i_:=kc.length
  refine RH (I.ok.hd hc) D hz gw ip h1 h2 p p2 ?_ fun h' hk=>⟨rfl,I.Ge (t':=s.toks) hf fun b o hb q=>hk b o (fun z=>hb (by simp [z])) (fun z=>hb (by simp [z])) (fun z=>hb (by simp [z])) (fun z=>hb (by simp [z])) q⟩
  rcases hx with hx | hx
  ·exact .inl (by simp;omega)
  ·exact .inr (by simp;omega)
 self:=fun _ _ _ _ _ st h=>wpAny_pyIter_zip st.1 h
section
variable {k:Nat} {ve p pos:Pos} {a b:Expr}
def RL (t1 t2:Bool) (K:QZ) (ta:TA):TI:=fun σ H R=>ta σ H fun vs H1=>∃ l m xs ys,vs=[.ref l,.ref m]/\pg t1 K H1 l xs/\pg t2 K H1 m ys/\R (GW t1 t2 K l m) H1
theorem wU (t1 t2:Bool) (K:QZ) (hg:Gl X "zip") (hm:X.mg "zip"=none) (ha:SA X [a,b] ta) (hK:X.K=K:=by rfl) (hs:starEach [a,b] X.env=[(false,eval a X.env),(false,eval b X.env)]:=by rfl) (hs2:starEach [b] X.env=[(false,eval b X.env)]:=by rfl):
  SI X (.Tuple yh k ve) (.Call (.Name "zip" p) [a,b] [] pos) (RL t1 t2 K ta):=by
 subst hK
 constructor
 intro pins s σ H R I h
 refine Call_ (jE I hg hm boot_zip (PyProof.Rows.callWith_type1 (aq (ha.h pos pins s σ H _ I h) fun us s1 ⟨vs,H1,I1,r1,q1⟩=>?_) (by rw [hs,hs2]) (by rw [hs2];rfl)))
 obtain ⟨l,m,xs,ys,e,lq,hq2,q⟩:=q1
 subst e
 obtain ⟨u1,u2,rfl,CH,CI⟩:=r1.two
 cases CH
 cases CI
 obtain ⟨its,rv,pl⟩:=I1.BL lq
 obtain ⟨its2,kc,CJ⟩:=I1.BL hq2
 refine yB pl CJ fun h' hz gw ip h1 h2 hk=>wpAny_pyIter_zip hz ?_
 have I2:Inv X pins σ H1 {s1 with heap:=h'}:=I1.kept (t':=s1.toks) hk
 refine ⟨s1.heap.objs.size+4,[s1.heap.objs.size+4,s1.heap.objs.size+2,s1.heap.objs.size+3,s1.heap.objs.size,s1.heap.objs.size+1],_,_,H1,rfl,I2,y8 _ _ _ _ _ l m ?_,⟨hz,gw,⟨_,_,ip⟩,h1,h2⟩,fun b hb=>?_,q⟩
 ·exact jS pl.lt CJ.lt
 ·simp only [Qp,QA,or_false] at hb
  rcases hb with rfl | rfl | rfl | rfl | rfl<;>exact I1.xg (by simp) (I1.hok.fresh (by simp))
end
theorem rJ {t1 t2:Bool} {K:QZ} (xs ys:List V):CK (GW t1 t2 K a b) (fun H=>pg t1 K H a xs/\pg t2 K H b ys) (min xs.length ys.length) (fun i=>xs.getD i .af) (fun i=>ys.getD i .af):=fun H ok=>
 ⟨fun i hi=>⟨⟨xs,ys,xs[i]'(by omega),ys[i]'(by omega),ok.1,ok.2,by simp,by simp⟩,fun x H' ⟨v1,v2,Gk,Gm,y⟩=>by
  have e1:xs.getD i V.af=v1:=by rw [Qb,Gk xs ok.1];rfl
  have e2:ys.getD i V.af=v2:=by rw [Qb,Gm ys ok.2];rfl
  show Aj (xs.getD i .af) (ys.getD i .af) H x H'
  rw [e1,e2];exact y⟩,⟨xs,ys,ok.1,ok.2,by omega⟩⟩
theorem zH {p pos:Pos} {k:Nat} (F:ak X.prog X.w X.K X.mg X.base k x ps sp) (hr:cy k X.A) (hg:Gl X x:=by rfl) (dw:(x==("__debug__":Str))=false:=by decide):SE X (.Call (.Name x p) [] [] pos) (Bk sp [] E0 Ct):=by
 obtain ⟨f,fd,G,F_,kp,b,_⟩:=F
 exact ⟨vO G hr hg F_ kp b .nil Jp dw⟩
section
variable {st:Expr} {ts:TE} {p2 pos:Pos}
def RM:R2:=fun x y H Q=>∃ a b xs,x=.ref a/\y=.ref b/\H a=some (.tup xs)/\H b=some (.tup [])/\Q (.bl (!xs.isEmpty)) H
theorem zB (hu:X.A.units+20 < cLine):br X (compareOp .NotEq) RM:=by
 intro pins s σ H x y v u Q I rx ry h
 obtain ⟨a,b,xs,rfl,rfl,ha,hb,q⟩:=h
 cases rx
 cases ry
 obtain ⟨i1,r1,p1,_⟩:=I.tuple (ae.of ha)
 obtain ⟨i2,r2,p2,_⟩:=I.tuple (ae.of hb)
 cases r2
 refine SeqAt.RcNeAt.tuples (e:=fun _=>true) p1 p2 (by omega) (fun j h1 h2=>absurd h2 (by simp)) _ _ _ _ ?_
 have e:((List.range (min i1.toArray.size ([]:List Value).toArray.size)).all (fun _=>true)&&i1.toArray.size==([]:List Value).toArray.size)=xs.isEmpty:=by
  have hl:=r1.length
  cases xs with
  | nil=>simp at hl;simp [<- hl]
  | cons x xs=>cases i1 with
   | nil=>simp at hl
   | cons u us=>simp
 rw [e]
 exact ⟨.bl (!xs.isEmpty),H,I,rfl,q⟩
end
theorem dE (Bl:Scope) (oN:List Str) (h:sc.kind=.function/\(∀ y∈sc.names,y.2≠.cell)/\(∀ y∈sc.names,y.2=.local->sc.names.lookup y.1=some .local)/\(∀ y∈sc.names,y.2=.free->(Bl.names.lookup y.1=some .cell\/Bl.names.lookup y.1=some .free))/\(∀ j∈idx,sc.names.lookup (oN.getD j "")=some .free/\j < oN.length)/\N'=own++idx.map (fun j=>oN.getD j "")):qf Bl oN sc own idx N':=⟨h.1,h.2.1,h.2.2.1,h.2.2.2.1,h.2.2.2.2.1,h.2.2.2.2.2⟩
theorem bO {P:List Str} (h:sc.kind=.function/\sc.isCoroutine=false/\sc.isGenerator=false/\N.Nodup/\N.take P.length=P/\(∀ x∈P,sc.names.lookup x=some .local\/sc.names.lookup x=some .cell)/\∀ y∈sc.names,y.2≠.free):cu N P sc:=⟨h.1,h.2.1,h.2.2.1,h.2.2.2.1,h.2.2.2.2.1,h.2.2.2.2.2.1,h.2.2.2.2.2.2⟩
end L2
namespace L2
open PySem PySem.Spec PySem.W PyProof.Rows
section
variable {K:Frag} {e:Addr} {ox:Obj} {od:Option Obj}
end
section
variable {K:Frag} {e:Addr}
end
section
variable {lo st:Expr} {tl ts:TE} {p2 pos:Pos}
end
end L2
set_option maxHeartbeats 400000
--VG 60
--VH
--VI
namespace T1
open PySem L2
def top (i:Nat):Stmt:=PySem.Challenge.pw_coilkind_k85_whole_runs_go_on.main.body.getD i (.Pass ⟨0,0,0,0⟩)
abbrev dU:Stmt:=top 5
abbrev d4:Stmt:=top 6
abbrev xE:Stmt:=top 10
abbrev i9:Stmt:=top 11
abbrev gJ:Stmt:=top 12
abbrev dZ:Stmt:=top 13
abbrev cG:Stmt:=top 14
abbrev iV:Stmt:=top 15
abbrev d7:Stmt:=top 16
abbrev iE:Stmt:=top 17
abbrev cR:Stmt:=top 18
abbrev iC:Stmt:=top 20
abbrev i7:Stmt:=top 21
abbrev eW:Stmt:=top 22
abbrev dW:Stmt:=top 23
abbrev fH:Stmt:=top 24
abbrev dX:Stmt:=top 25
abbrev jK:Stmt:=top 26
abbrev dO:Stmt:=top 27
abbrev dB:Stmt:=top 28
abbrev cK:Stmt:=top 30
abbrev eA:Stmt:=top 31
abbrev d3:Stmt:=top 32
abbrev eG:Stmt:=top 33
abbrev d6:Stmt:=top 34
abbrev cI:Stmt:=top 35
abbrev fF:Stmt:=top 36
abbrev dA:Stmt:=top 37
abbrev cT:Stmt:=top 38
abbrev jB:Stmt:=top 41
abbrev jY:Stmt:=top 42
abbrev dN:Stmt:=inClass (top 2) 0
abbrev pw:=PySem.Challenge.pw_coilkind_k85_whole_runs_go_on
abbrev uz:=PySem.Challenge.rw_coilkind_k85_whole_runs_go_on
def view:Program:={pw with main:={pw.main with body:=([1,2,4,5,6,8,9,10,11,12,13,14,15,16,17,18,20,21,22,23,24,25,26,27,28,29,30,31,32,33,34,35,36,37,38,39,40,41,42]:List Nat).filterMap fun i=>pw.main.body[i]?}}
def fns:List (Str×Stmt):=[⟨"makers_in",dU⟩,⟨"with_makers",d4⟩,⟨"run",xE⟩,⟨"is_value",i9⟩,⟨"next_step",gJ⟩,⟨"first_to_do",dZ⟩,⟨"done_at_once",cG⟩,⟨"put_in",iV⟩,⟨"names_bound",d7⟩,⟨"replaced",iE⟩,⟨"refuse_large",cR⟩,⟨"_law_fill",iC⟩,⟨"_law_next",i7⟩,⟨"_law_turned",eW⟩,⟨"_law_words",dW⟩,⟨"_law_head",fH⟩,⟨"_law_telling",dX⟩,⟨"_law_any",jK⟩,⟨"_law_row_here",dO⟩,⟨"_law_head_here",dB⟩,⟨"_law_maker_telling",cK⟩,⟨"_law_endless",eA⟩,⟨"_law_name_bound",d3⟩,⟨"_law_for",eG⟩,⟨"_law_wrapped",d6⟩,⟨"_law_split_over",cI⟩,⟨"_law_many",fF⟩,⟨"_law_parts",dA⟩,⟨"_law_small_maker",cT⟩,⟨"_law_ran",jB⟩,⟨"law",jY⟩]
def vals:List (Str×V):=[⟨"MOST_MAKERS",.int 400⟩,⟨"MOST_WITHIN",.int 40⟩]
def tups:List (Str×List V):=[]
def Mm:List (Str×List nq):=[⟨"PLACES",[⟨"get",.inr [.str "name"]⟩,⟨"fn",.inr [.str "name",.str "row",.str "maker"]⟩,⟨"call",.inr [.str "maker",.str "maker"]⟩,⟨"box",.inr [.str "parts"]⟩,⟨"part",.inr [.str "maker",.str "name"]⟩,⟨"pick",.inr [.str "name",.str "maker"]⟩,⟨"split",.inr [.str "maker",.str "cases"]⟩,⟨"hold",.inr [.str "maker",.str "row"]⟩]⟩]
def UJ:List Str:=["len","range","list","tuple","dict","sorted","enumerate","zip","max","sum"]
def Mn:List yb:=[⟨"CoilError","CoilError.__init__",none,[]⟩,⟨"TooMany","TooMany.__init__",some dN,["many"]⟩]
def subs:List (Str×Str×Bool):=[("TooMany","TooMany",true)]
def look (K:QZ):=(xy (without K []) fns,EC (without K []) vals,J9 (without K []) tups,GO (without K []) Mm,BE (without K []) UJ,BH (without K []) Mn,EM (without K []) subs)
def want (w:World):=(x_ fns,ED vals,J_ tups,GP w Mm,true,BI Mn,EN subs)
theorem UK (w:World):(PySem.W.openEnds treeTable pw (w.withFollow "special-get-raises" false) 3408).map (fun s=>(PySem.W.openSeen view ["PLACES"] (PySem.importedModules pw.main.body) (fun s=>PySem.W.xlAt view [] s&&PySem.W.recOk [] s) true s,(qt look want).obs s))=some (PySem.W.openGood view ["PLACES"],(qt look want).val (w.withFollow "special-get-raises" false)):=by kernel_rfl
theorem UL (w:World):(PySem.W.openEnds treeTable pw (w.withFollow "special-get-raises" true) 3408).map (fun s=>(PySem.W.openSeen view ["PLACES"] (PySem.importedModules pw.main.body) (fun s=>PySem.W.xlAt view [] s&&PySem.W.recOk [] s) true s,(qt look want).obs s))=some (PySem.W.openGood view ["PLACES"],(qt look want).val (w.withFollow "special-get-raises" true)):=by kernel_rfl
def A6:DefRec:=⟨"law",lj jY,ir jY,az jY,(match jY with | .FunctionDef _ _ _ _ _ _ _ _ _ p=>p | _=>⟨0,0,0,0⟩)⟩
theorem hdef:PySem.W.defOf view uz.row.name=some (A6,[]):=by kernel_rfl
theorem hprog:uz.row.prog.theDef uz.row.name=some (A6.params,A6.body,A6.scope):=by kernel_rfl
theorem hkw:PySem.W.kwWritten? A6.params.kwonlyargs A6.params.kw_defaults=some []:=by kernel_rfl
theorem hok:(PySem.W.chainsOk view&&PySem.W.opensWell uz.row.prog&&(PySem.W.frees uz.row.toRowW&&uz.row.within.isEmpty))=true:=by kernel_rfl
theorem hbare:uz.row.prog.bare:=⟨rfl,rfl,rfl,rfl,rfl,by decide+kernel⟩
theorem Vd:uz.row.toRowW.promised:=by w_witness2
theorem said:uz.wellSaid=true:=by
 refine xT (p:=pw) rfl ?_ ?_ ?_ ?_ ?_ ?_ ?_ ?_ ?_ ?_ ?_ ?_ ?_ ?_ ?_ ?_ ?_ ?_ ?_ ?_ ?_ ?_ ?_ ?_ ?_ ?_ ?_ ?_<;>kernel_rfl
structure Txt (K:QZ) (mg:Str->Option Value) (w:World):Prop where
 nv:mg "len"=none
 oA:mg "range"=none
 RN:mg "list"=none
 fE:mg "tuple"=none
 j8:mg "dict"=none
 vX:mg "sorted"=none
 qB:mg "enumerate"=none
 ER:mg "zip"=none
 RO:mg "max"=none
 RP:mg "sum"=none
 pE:∃ (a t0 t1 t2 t3 t4 t5 t6 t7:Addr),mg "PLACES"=some (.ref a)/\KD w K a [(.inr "get",.ref t0),(.inr "fn",.ref t1),(.inr "call",.ref t2),(.inr "box",.ref t3),(.inr "part",.ref t4),(.inr "pick",.ref t5),(.inr "split",.ref t6),(.inr "hold",.ref t7)]/\(∀ H,ae K H t0 [.str "name"])/\(∀ H,ae K H t1 [.str "name",.str "row",.str "maker"])/\(∀ H,ae K H t2 [.str "maker",.str "maker"])/\(∀ H,ae K H t3 [.str "parts"])/\(∀ H,ae K H t4 [.str "maker",.str "name"])/\(∀ H,ae K H t5 [.str "name",.str "maker"])/\(∀ H,ae K H t6 [.str "maker",.str "cases"])/\(∀ H,ae K H t7 [.str "maker",.str "row"])
 i5:∃ u,mg "MOST_MAKERS"=some u/\RelV (.int 400) u
 hX:∃ u,mg "MOST_WITHIN"=some u/\RelV (.int 40) u
 qO:b_ K mg "makers_in" dU ["maker"]
 mH:b_ K mg "with_makers" d4 ["maker","inner"]
 RQ:b_ K mg "run" xE ["maker","n"]
 qZ:b_ K mg "is_value" i9 ["maker"]
 qK:b_ K mg "next_step" gJ ["maker"]
 m9:b_ K mg "first_to_do" dZ ["maker"]
 lF:b_ K mg "done_at_once" cG ["maker"]
 pI:b_ K mg "put_in" iV ["maker","v","value"]
 lZ:b_ K mg "names_bound" d7 ["maker"]
 lU:b_ K mg "replaced" iE ["maker","place","other"]
 lH:b_ K mg "refuse_large" cR ["maker"]
 rY:b_ K mg "_law_fill" iC ["_law_cell","_law_at"]
 rC:b_ K mg "_law_next" i7 ["_law_pen","_law_many"]
 oS:b_ K mg "_law_turned" eW ["_law_pen","_law_some"]
 pS:b_ K mg "_law_words" dW ["_law_pen"]
 rA:b_ K mg "_law_head" fH ["_law_pen","_law_names","_law_ahead"]
 mE:b_ K mg "_law_telling" dX ["_law_pen","_law_most"]
 uN:b_ K mg "_law_any" jK ["_law_pen","_law_told"]
 lA:b_ K mg "_law_row_here" dO ["_law_told","_law_name"]
 kN:b_ K mg "_law_head_here" dB ["_law_told","_law_name"]
 hU:b_ K mg "_law_maker_telling" cK ["_law_pen","_law_most"]
 m7:b_ K mg "_law_endless" eA []
 j6:b_ K mg "_law_name_bound" d3 ["_law_pen"]
 nG:b_ K mg "_law_for" eG ["_law_pen","_law_told","_law_name","_law_known","_law_deep"]
 m8:b_ K mg "_law_wrapped" d6 ["_law_pen","_law_told","_law_name","_law_known","_law_deep"]
 jI:b_ K mg "_law_split_over" cI ["_law_pen","_law_told","_law_name","_law_known","_law_deep"]
 lI:b_ K mg "_law_many" fF ["_law_maker"]
 pW:b_ K mg "_law_parts" dA ["_law_maker"]
 iM:b_ K mg "_law_small_maker" cT ["_law_pen","_law_told","_law_name"]
 uL:b_ K mg "_law_ran" jB ["_law_maker","_law_n"]
 Ks:b_ K mg "law" jY ["script"]
 RS:GS K mg "CoilError"
 BO:C4 K mg "TooMany" "TooMany.__init__" dN ["self","many"] ["many"]
 RU:PySem.W.subIn K (.ref (adr mg "TooMany")) (.ref (adr mg "TooMany"))=some true
theorem kH:cu ["self","many"] ["self","many"] (az dN):=bO (by decide+kernel)
theorem dJ:cu ["maker","found","what","one"] ["maker"] (az dU):=bO (by decide+kernel)
theorem bQ:cu ["maker","inner","made","at","what","one"] ["maker","inner"] (az d4):=bO (by decide+kernel)
theorem fV:cu ["maker","n","done","place","becomes"] ["maker","n"] (az xE):=bO (by decide+kernel)
theorem gK:cu ["maker","waiting","one"] ["maker"] (az i9):=bO (by decide+kernel)
theorem cJ:cu ["maker","place","k"] ["maker"] (az gJ):=bO (by decide+kernel)
theorem cS:cu ["maker","inner","k","one"] ["maker"] (az dZ):=bO (by decide+kernel)
theorem bT:cu ["maker","form","parts","cases","v","inner"] ["maker"] (az cG):=bO (by decide+kernel)
theorem h9:cu ["maker","v","value","bound","inner"] ["maker","v","value"] (az iV):=bO (by decide+kernel)
theorem lP:cu ["maker"] ["maker"] (az d7):=bO (by decide+kernel)
theorem gQ:cu ["maker","place","other","inner"] ["maker","place","other"] (az iE):=bO (by decide+kernel)
theorem bJ:cu ["maker","waiting","many","deepest","one","deep"] ["maker"] (az cR):=bO (by decide+kernel)
theorem fX:cu ["_law_cell","_law_at","_law_x"] ["_law_cell","_law_at"] (az iC):=bO (by decide+kernel)
theorem cP:cu ["_law_pen","_law_many","_law_at","_law_cell","_law_found"] ["_law_pen","_law_many"] (az i7):=bO (by decide+kernel)
theorem eB:cu ["_law_pen","_law_some","_law_left","_law_found"] ["_law_pen","_law_some"] (az eW):=bO (by decide+kernel)
theorem oM:cu ["_law_pen"] ["_law_pen"] (az dW):=bO (by decide+kernel)
theorem fT:cu ["_law_pen","_law_names","_law_ahead","_law_way","_law_one"] ["_law_pen","_law_names","_law_ahead"] (az fH):=bO (by decide+kernel)
theorem cH:cu ["_law_pen","_law_most","_law_size","_law_names","_law_rows","_law_k"] ["_law_pen","_law_most"] (az dX):=bO (by decide+kernel)
theorem rG:cu ["_law_pen","_law_told"] ["_law_pen","_law_told"] (az jK):=bO (by decide+kernel)
theorem dC:cu ["_law_told","_law_name","_law_rows"] ["_law_told","_law_name"] (az dO):=bO (by decide+kernel)
theorem jA:cu ["_law_told","_law_name"] ["_law_told","_law_name"] (az dB):=bO (by decide+kernel)
theorem g9:cu ["_law_pen","_law_most"] ["_law_pen","_law_most"] (az cK):=bO (by decide+kernel)
theorem fS:cu ["_law_self"] [] (az eA):=bO (by decide+kernel)
theorem iS:cu ["_law_pen"] ["_law_pen"] (az d3):=bO (by decide+kernel)
theorem bR:cu ["_law_pen","_law_told","_law_name","_law_known","_law_deep","_law_here","_law_row","_law_some","_law_inner","_law_bound","_law_made","_law_word","_law_other","_law_parts_here"] ["_law_pen","_law_told","_law_name","_law_known","_law_deep"] (az eG):=bO (by decide+kernel)
theorem bH:cu ["_law_pen","_law_told","_law_name","_law_known","_law_deep","_law_way","_law_made","_law_other","_law_inner","_law_bound","_law_first","_law_at","_law_cases"] ["_law_pen","_law_told","_law_name","_law_known","_law_deep"] (az d6):=bO (by decide+kernel)
theorem bC:cu ["_law_pen","_law_told","_law_name","_law_known","_law_deep","_law_rows","_law_row","_law_held","_law_cases","_law_word","_law_other","_law_bound","_law_inner","_law_made"] ["_law_pen","_law_told","_law_name","_law_known","_law_deep"] (az cI):=bO (by decide+kernel)
theorem kB:cu ["_law_maker"] ["_law_maker"] (az fF):=bO (by decide+kernel)
theorem iN:cu ["_law_maker","_law_word"] ["_law_maker"] (az dA):=bO (by decide+kernel)
theorem cO:cu ["_law_pen","_law_told","_law_name","_law_deep","_law_found"] ["_law_pen","_law_told","_law_name"] (az cT):=bO (by decide+kernel)
theorem eQ:cu ["_law_maker","_law_n","_law_found"] ["_law_maker","_law_n"] (az jB):=bO (by decide+kernel)
theorem cW:cu ["script","_law_pen","_law_k","_law_told","_law_maker","_law_n","_law_more","_law_both","_law_first","_law_second","_law_here","_law_turn"] ["script"] (az jY):=bO (by decide+kernel)
section
variable {K:QZ}
def Ku:Sp:=fun vs H Q _=>∃ c t:Int,vs=[.int c,.int t]/\(0<=t/\t < 1000000000)/\∀ r:Int,Q (.int r) H
theorem pX (T:Txt K mg w):ak P w K mg base 1 "_law_fill" ["_law_cell","_law_at"] Ku:=by
 refine T.rY.dh fX (fun vs H Q E h=>?_) (fun f ao A outer s H vs Q E hr h=>?_)
 ·obtain ⟨c,t,rfl,_⟩:=h
  rfl
 ·obtain ⟨c,t,rfl,⟨ES,RW⟩,k⟩:=h
  refine ⟨_,(aE (bM (aL Ov (zv 0) (bS xS aF aF) (bf _)) (aG (aW (zv 0))) aZ)
   (aE (aX (i:=2) fX.nd rfl (Or.inl rfl) (bS dQ (bS bW (bS bW (bS dH (bS dQ (zv 0) aF) aF) (bS dH (zv 1) aF)) aF) aF))
   (aE (aX (i:=2) fX.nd rfl (Or.inl rfl) (bS dQ (bS bW (bS bW (bS dH (zv 2) (zv 2)) (bS dH aF (zv 2))) (zv 1)) aF))
   (aG (aW (bS bW (bS dH (zv 2) aF) (bS dQ (bS bW (bS dH (zv 2) (zv 2)) (bS dH aF (zv 1))) aF))))))),?_⟩
  refine ⟨⟨by decide,by decide,by decide⟩,_,rfl,D8 (fun hk=>k _) (fun hk=>?_)⟩
  refine ⟨by decide,.inl ⟨?_,?_⟩,.inl ⟨by omega,by omega⟩,by decide,?_⟩
  ·have:=Int.emod_nonneg c (show (2147483647:Int)≠0 by decide);omega
  ·have:=Int.emod_lt_of_pos c (show (0:Int) < 2147483647 by decide);omega
  generalize hx:(c % 2147483647*48271+t*69621+11) % 2147483629=x
  have VJ:0<=x:=by rw [<- hx];exact Int.emod_nonneg _ (by decide)
  have VL:x < 2147483629:=by rw [<- hx];exact Int.emod_lt_of_pos _ (by decide)
  refine ⟨.inl ⟨by omega,by omega⟩,.inl ⟨by decide,by decide⟩,by decide,?_⟩
  generalize hy:(x*x+48271*x+t) % 2147483587=y
  have VM:0<=y:=by rw [<- hy];exact Int.emod_nonneg _ (by decide)
  have VN:y < 2147483587:=by rw [<- hy];exact Int.emod_lt_of_pos _ (by decide)
  exact ⟨.inl ⟨by omega,by omega⟩,.inl ⟨by omega,by omega⟩,.inl ⟨by decide,by decide⟩,by decide,k _⟩
def RX (K:QZ):Sp:=fun vs H Q _=>∃ (p a:Addr) (ns:List Int) (m t x:Int),vs=[.ref p,.int m]/\H p=some (.lst [.ref a,.int t,.int x])/\(∀ o,ai K (upd H p o) a (ns.map V.int))/\ai K H a (ns.map V.int)/\(0<=t/\t < 1000000)/\(0 < m/\m < 1073741824)/\
 ∀ r t' x':Int,0<=r->r < m->0<=t'->t'<=t+1->Q (.int r) (upd H p (.lst [.ref a,.int t',.int x']))
theorem C5 (x y z:α):je [x,y,z] 0=some x:=rfl
theorem RY (x y z:α):je [x,y,z] 1=some y:=rfl
theorem GX (x y z:α):je [x,y,z] 2=some z:=rfl
theorem pC (T:Txt K mg w):ak P w K mg base 2 "_law_next" ["_law_pen","_law_many"] (RX K):=by
 have sV:ak P w K mg base 1 "_law_fill" ["_law_cell","_law_at"] Ku:=pX T
 refine T.rC.dh cP (fun vs H Q E h=>?_) (fun f ao A outer s H vs Q E hr h=>?_)
 ·refine hdn fun Gz9 zG9=>?_;obtain ⟨p,a,ns,m,t,x,rfl,_⟩:=h;refine zG9 ?_
  rfl
 ·refine hdn fun Gz9 zG9=>?_;obtain ⟨p,a,ns,m,t,x,rfl,hp,VO,hS,⟨ES,RW⟩,⟨GY,hm1⟩,k⟩:=h;refine zG9 ?_
  refine ⟨_,(aE (bM (aL lW (aU (aV K) (zv 0) aF (fun _ _=>rfl)) (zv 1) (bf _)) (aE (aX (i:=2) cP.nd rfl (Or.inl rfl) (aU (aV K) (zv 0) aF (fun _ _=>rfl)))
   (aE (aX (i:=3) cP.nd rfl (Or.inl rfl) aF)
   (aE (bM (aL lW (zv 2) (bV (bN K) (by rfl) T.nv PySem.boot_len (aH (aU (aV K) (zv 0) aF (fun _ _=>rfl)) aD)) (bf _)) (aG (aX (i:=3) cP.nd rfl (Or.inl rfl) (aU (aV K) (aU (aV K) (zv 0) aF (fun _ _=>rfl)) (zv 2) (fun _ _=>rfl)))) (aG (bM (aL jF (bV (bN K) (by rfl) T.nv PySem.boot_len (aH (aU (aV K) (zv 0) aF (fun _ _=>rfl)) aD)) aF (bf _)) (aG (aX (i:=3) cP.nd rfl (Or.inl rfl) (bS bW (bS dQ (aU (aV K) (aU (aV K) (zv 0) aF (fun _ _=>rfl)) (bS dQ (bS dH (zv 2) aF) (bV (bN K) (by rfl) T.nv PySem.boot_len (aH (aU (aV K) (zv 0) aF (fun _ _=>rfl)) aD))) (fun _ _=>rfl)) aF) (bS dH (zv 2) aF)))) aZ)))
   (aE (hZ (bS bW (zv 2) aF) (oZ (zv 0) aF fZ))
   (aG (hZ (bB sV (hr.mono (by decide)) (aB (zv 3) (aB (zv 2) aD))) (oZ (zv 0) aF fZ))))))) aZ)
   (aE (aX (i:=4) cP.nd rfl (Or.inl rfl) (bS dQ (aU (aV K) (zv 0) aF (fun _ _=>rfl)) (zv 1)))
   (aE (hZ (bS yL (aU (aV K) (zv 0) aF (fun _ _=>rfl)) (zv 1)) (oZ (zv 0) aF fZ))
   (aG (aW (zv 4)))))),?_⟩
  refine aM (fun σ' H1=>∃ (v2 v3:Option V) (t' x':Int),σ'=[some (.ref p),some (.int m),v2,v3,none]/\H1 p=some (.lst [.ref a,.int t',.int x'])/\(H1=H\/∃ o,H1=upd H p o)/\0<=t'/\t'<=t+1) ?_ ?_
  ·intro nx av
   refine ⟨_,.int x,.inl (ai.of hp),GX _ _ _,_,rfl,D8 (fun hk=>?_) (fun hk=>?_)⟩
   ·refine aI ⟨_,.int t,.inl (ai.of hp),RY _ _ _,?_⟩
    refine jD ?_
    refine aM (fun σ' H1=>H1=H/\∃ c:Int,σ'=[some (.ref p),some (.int m),some (.int t),some (.int c),none]) ?_ ?_
    ·intro Kv AE
     refine ⟨_,.ref a,.inl (ai.of hp),C5 _ _ _,.inl ⟨_,.inl hS,_,rfl,D8 (fun hl=>?_) (fun hl=>?_)⟩⟩
     ·obtain ⟨c,jn,ie⟩:=iL (ns.map V.int) t ES (by have:=Qt hl;omega)
      have hl':t.toNat < ns.length:=by
       have:=Qt hl
       rw [Ql] at this;omega
      have hc:c=.int (ns[t.toNat]):=by
       rw [Qq,Qa hl'] at jn
       exact (QD jn).symm
      subst hc
      exact ⟨_,.ref a,.inl (ai.of hp),C5 _ _ _,_,_,.inl hS,ie,AE _ _ ⟨rfl,_,rfl⟩⟩
     ·refine ⟨_,.ref a,.inl (ai.of hp),C5 _ _ _,.inl ⟨_,.inl hS,_,rfl,D8 (fun i_=>?_) (fun i_=>?_)⟩⟩
      ·have RZ:=Qt i_
       have VP:0 < (ns.map V.int).length:=by omega
       have e0:=Int.emod_nonneg (t*7) (show ((ns.map V.int).length:Int)≠0 by omega)
       have e1:=Int.emod_lt_of_pos (t*7) (show (0:Int) < (ns.map V.int).length by omega)
       obtain ⟨c,jn,ie⟩:=iL (ns.map V.int) (t*7 % ((ns.map V.int).length:Int)) e0 e1
       have hl':(t*7 % ((ns.map V.int).length:Int)).toNat < ns.length:=by
        have e2:(ns.map V.int).length=ns.length:=Ql _
        omega
       have hc:c=.int (ns[(t*7 % ((ns.map V.int).length:Int)).toNat]):=by
        rw [Qq,Qa hl'] at jn
        exact (QD jn).symm
       subst hc
       refine ⟨_,.ref a,.inl (ai.of hp),C5 _ _ _,.inl ⟨by omega,by omega⟩,_,.ref a,.inl (ai.of hp),C5 _ _ _,.inl ⟨_,.inl hS,RZ,_,_,.inl hS,ie,by decide,.inl ⟨by omega,by omega⟩,AE _ _ ⟨rfl,_,rfl⟩⟩⟩
      ·exact AE _ _ ⟨rfl,0,rfl⟩
    ·rintro σ' H1 ⟨rfl,c,rfl⟩
     refine ⟨p,_,1,1,rfl,rfl,hp,rfl,?_⟩
     refine ⟨c,t,rfl,⟨ES,by omega⟩,fun r=>?_⟩
     refine ⟨p,_,2,2,rfl,rfl,aA,rfl,?_⟩
     rw [nU]
     exact av _ _ ⟨_,_,t+1,r,rfl,aA,.inr ⟨_,rfl⟩,by omega,by omega⟩
   ·exact av _ _ ⟨none,none,t,x,rfl,hp,.inl rfl,ES,by omega⟩
  ·rintro σ' H1 z0;refine hdn fun Gz9 zG9=>?_;obtain ⟨v2,v3,t',x',rfl,h1,h2,h3,h4⟩:=z0;refine zG9 ?_
   refine ⟨_,.int x',.inl (ai.of h1),GX _ _ _,GY,?_⟩
   refine ⟨_,.int x',.inl (ai.of h1),GX _ _ _,⟨GY,hm1⟩,p,_,2,2,rfl,rfl,h1,rfl,?_⟩
   have e:∀ o,upd H1 p o=upd H p o:=fun o=>by
    rcases h2 with rfl | ⟨o',rfl⟩
    ·rfl
    ·exact nU
   rw [e]
   exact k _ t' _ (Int.emod_nonneg _ (by omega)) (Int.emod_lt_of_pos _ GY) h3 h4
structure bu (K:QZ) (H0 H:Hp) (p:Addr) (t:Nat):Prop where
 ex:∃ (a:Addr) (ns:List Int) (u x:Int),H p=some (.lst [.ref a,.int u,.int x])/\(∀ H',Sm p p H0 H'->ai K H' a (ns.map V.int))/\0<=u/\u<=(t:Int)
 sm:Sm p p H0 H
section
variable {D:Addr} {t u:Nat}
theorem bu.mono (h:bu K H0 H p t) (l:t<=u):bu K H0 H p u:=by
 refine hdn fun Gz9 zG9=>?_;obtain ⟨a,ns,y,x,h1,h2,h3,h4⟩:=h.ex;refine zG9 ?_
 exact ⟨⟨a,ns,y,x,h1,h2,h3,by omega⟩,h.sm⟩
theorem bu.same (h:bu K H0 H p t) (s:aa H H'):bu K H0 H' p t:=by
 obtain ⟨a,ns,y,x,h1,h2⟩:=h.ex
 exact ⟨⟨a,ns,y,x,s _ _ h1,h2⟩,h.sm.trans s.sm⟩
theorem bu.ne (h:bu K H0 H p t) (hD:H D=none):D≠p:=fun e=>by
 obtain ⟨_,_,_,_,z,_⟩:=h.ex
 rw [<- e,hD] at z;cases z
theorem bu.free (h:bu K H0 H p t) (hD:H D=none):H0 D=none:=h.sm.free hD (h.ne hD) (h.ne hD)
theorem bu.put (h:bu K H0 H p t) (h1:D≠p) (h2:H0 D=none):bu K H0 (upd H D o) p t:=by
 obtain ⟨a,ns,y,x,e1,e2⟩:=h.ex
 exact ⟨⟨a,ns,y,x,by rw [aK h1.symm];exact e1,e2⟩,h.sm.upd h2⟩
theorem bu.ts (h:bu K H0 H p t) (s:Sm p p H H'):Tk H H':=fun b xs e=>by
 obtain ⟨_,_,_,_,z,_⟩:=h.ex
 have n:b≠p:=fun q=>by rw [q,z] at e;cases e
 exact s _ _ e n n
end
def uo (K:QZ):Sp:=fun vs H Q _=>∃ (H0:Hp) (p:Addr) (m:Int) (t:Nat),vs=[.ref p,.int m]/\bu K H0 H p t/\(0 < m/\m < 1073741824)/\t < 900000/\
 ∀ (r:Int) (H':Hp),0<=r->r < m->bu K H0 H' p (t+1)->Sm p p H H'->Q (.int r) H'
theorem tI (h:j < n):ua n (j:Int)=some j:=by
 unfold ua
 rw [if_pos (by omega),if_pos (by omega)];simp
theorem kX {α:Type}:∀ {ls:List α} {i:Nat} (h:i < ls.length),(ls[i]::ls.eraseIdx i).Perm ls
 | x::r,0,_=>List.Perm.refl _
 | x::r,i+1,h=>by
  have ih:=kX (ls:=r) (i:=i) (by simpa using h)
  exact (List.Perm.swap _ _ _).trans (ih.cons x)
theorem bK (T:Txt K mg w):ak P w K mg base 2 "_law_next" ["_law_pen","_law_many"] (uo K):=(pC T).imp fun vs H Q E h=>by
 refine hdn fun Gz9 zG9=>?_;obtain ⟨H0,p,m,t,rfl,hn,hm,ht,k⟩:=h;refine zG9 ?_
 refine hdn fun Gz9 zG9=>?_;obtain ⟨a,ns,u,x,h1,h2,h3,h4⟩:=hn.ex;refine zG9 ?_
 have sU:∀ o,Sm p p H (upd H p o):=fun o b u hb n _=>by rw [aK n];exact hb
 refine ⟨p,a,ns,m,u,x,rfl,h1,fun o=>h2 _ (hn.sm.trans (sU o)),h2 _ hn.sm,⟨h3,by omega⟩,hm,fun r t' x' r0 r1 t0 t1=>?_⟩
 exact k r _ r0 r1 ⟨⟨a,ns,t',x',aA,h2,t0,by push_cast;omega⟩,hn.sm.trans (sU _)⟩ (sU _)
def Kw (K:QZ):Sp:=fun vs H Q _=>∃ (H0:Hp) (p a:Addr) (xs:List V) (t:Nat),vs=[.ref p,.ref a]/\bu K H0 H p t/\t+100 < 900000/\(ai K H a xs\/ae K H a xs)/\xs.length<=100/\
 ∀ (L:Addr) (ys:List V) (H':Hp),H L=none->H' L=some (.lst ys)->ys.Perm xs->bu K H0 H' p (t+100)->Sm p p H H'->Q (.ref L) H'
theorem m6 (T:Txt K mg w):ak P w K mg base 3 "_law_turned" ["_law_pen","_law_some"] (Kw K):=by
 have aR:ak P w K mg base 2 "_law_next" ["_law_pen","_law_many"] (uo K):=bK T
 refine T.oS.dh eB (fun vs H Q E h=>?_) (fun f ao A outer s H vs Q E hr h=>?_)
 ·obtain ⟨H0,p,a,xs,t,rfl,_⟩:=h
  rfl
 ·refine hdn fun Gz9 zG9=>?_;obtain ⟨H0,p,a,xs,t,rfl,hn,ht,ha,hx,k⟩:=h;refine zG9 ?_
  have hu:=bG hr
  have bg:=Qx (bG hr)
  have hsz:sizeLine=16777216:=QL
  refine ⟨_,(aE (aX (i:=2) eB.nd rfl (Or.inl rfl) (bU (tW K) (by rfl) T.RN PyProof.Rows.boot_list (aB (zv 1) aD)))
   (aE (aX (i:=3) eB.nd rfl (Or.inl rfl) (cA aD))
   (aE (gX PassesOwn.never (aL (nY bg) (zv 2) (cA aD) (bf _)) (aG (cV (jM K QH QJ QK cE (zv 3) (bF (jM K QH PySem.F.slot_list_pop PySem.F.type_list_pop uZ (zv 2) (bF (bB aR (hr.mono (by decide)) (aB (zv 0) (bF (bV (bN K) (by rfl) T.nv PySem.boot_len (aB (zv 2) aD)) aD))) aD)) aD)))))
   (aG (aW (zv 3)))))),?_⟩
  refine aI ⟨a,xs,rfl,ha,fun l0 kg=>?_⟩
  refine aI ⟨(show 0<=sizeLine by decide),fun l1 fg=>?_⟩
  have s1:=aa.upd kg (.lst xs)
  have s2:=aa.upd fg (.lst [])
  have e0:l0≠p:=hn.ne kg
  have e1:l1≠p:=(hn.same s1).ne fg
  have Kx:l0≠l1:=aQ aA fg
  have f0:=hn.free kg
  have f1:=(hn.same s1).free fg
  have g0:upd (upd H l0 (.lst xs)) l1 (.lst []) l0=some (.lst xs):=s2 _ _ aA
  have g1:upd (upd H l0 (.lst xs)) l1 (.lst []) l1=some (.lst []):=aA
  have hn2:=(hn.same s1).same s2
  have g_:Sm p p H (upd (upd H l0 (.lst xs)) l1 (.lst [])):=(s1.trans s2).sm
  dsimp only
  generalize upd (upd H l0 (.lst xs)) l1 (.lst [])=H2 at g0 g1 hn2 g_
  have R0:H l0=none:=kg
  have Ky:H l1=none:=s1.free fg
  refine aM (fun σ' H'=>∃ ys,σ'=[some (.ref p),some (.ref a),some (.ref l0),some (.ref l1)]/\H' l1=some (.lst ys)/\ys.Perm xs/\bu K H0 H' p (t+100)/\Sm p p H H') ?_ ?_
  ·intro nx av
   refine ⟨fun m σ' H'=>∃ (ls ys:List V),σ'=[some (.ref p),some (.ref a),some (.ref l0),some (.ref l1)]/\H' l0=some (.lst ls)/\H' l1=some (.lst ys)/\ls.length=m/\(ys++ls).Perm xs/\bu K H0 H' p (t+ys.length)/\Sm p p H H',⟨xs.length,xs,[],rfl,g0,g1,rfl,by simp,hn2,g_⟩,?_⟩
   rintro m σ' H3 z0;refine hdn fun Gz9 zG9=>?_;obtain ⟨ls,ys,rfl,q0,q1,q2,q3,q4,q5⟩:=z0;refine zG9 ?_
   have VQ:ys.length+ls.length=xs.length:=by have:=q3.length_eq;rw [Qk] at this;exact this
   refine ⟨(show 0<=sizeLine by decide),fun b hb=>⟨aQ q0 hb,ls,(aa.upd hb _) _ _ q0,aA,_,rfl,aj (fun c=>?_) (fun c=>?_)⟩⟩
   ·have s3:=aa.upd hb (.lst [])
    have Kz:=q4.same s3
    have ET:=s3 _ _ q0
    have zc:=s3 _ _ q1
    have KA:=q5.trans s3.sm
    generalize upd H3 b (.lst [])=H4 at Kz ET zc KA
    have EU:0 < ls.length:=by
     cases ls with
     | nil=>exact absurd c (by decide)
     | cons x r=>simp
    refine ⟨fun σ' AF=>∃ m',m' < m/\∃ (ls ys:List V),σ'=[some (.ref p),some (.ref a),some (.ref l0),some (.ref l1)]/\AF l0=some (.lst ls)/\AF l1=some (.lst ys)/\ls.length=m'/\(ys++ls).Perm xs/\bu K H0 AF p (t+ys.length)/\Sm p p H AF,fun σ' AF h=>h,?_⟩
    refine ⟨.inl ⟨rfl,ys,ai.of zc⟩,.inl ⟨rfl,ls,ai.of ET⟩,.inl ⟨ls,.inl (ai.of ET),H0,p,_,_,rfl,Kz,⟨by omega,by omega⟩,by omega,fun r H5 r0 r1 n_ jc=>?_⟩⟩
    obtain ⟨i,rfl⟩:∃ i:Nat,r=(i:Int):=⟨r.toNat,by omega⟩
    have hi:i < ls.length:=by omega
    have p0:=jc _ _ ET e0 e0
    have p1:=jc _ _ zc e1 e1
    refine ⟨l0,ls,(i:Int),i,ls[i],rfl,rfl,p0,by omega,by omega,(nO (tI hi)).1,Qa hi,l1,ys,ls[i],rfl,rfl,by rw [aK Kx.symm];exact p1,by omega,ls.length - 1,by omega,ls.eraseIdx i,ys++[ls[i]],rfl,by rw [aK Kx];exact aA,aA,?_,?_,?_,(KA.trans jc).upd R0 |>.upd Ky⟩
    ·rw [List.length_eraseIdx,if_pos hi]
    ·rw [List.append_assoc]
     exact ((kX hi).append_left ys).trans q3
    ·rw [Qk]
     exact (n_.put e0 f0).put e1 f1
   ·have EV:ls=[]:=by
     cases ls with
     | nil=>rfl
     | cons x r=>exact absurd c (by simp)
    subst EV
    rw [QQ] at q3
    have s3:=aa.upd hb (.lst [])
    exact av _ _ ⟨ys,rfl,s3 _ _ q1,q3,(q4.same s3).mono (by have:=q3.length_eq;omega),q5.trans s3.sm⟩
  ·rintro σ' H' ⟨ys,rfl,q1,q2,q3,q4⟩
   exact k l1 ys H' Ky q1 q2 q3 q4
def AG:List Str:=["a","ab","b","ba"]
def C6:List Str:=["case","from","part","to"]
def WW:List Str:=AG++C6
theorem pU:∀ z∈WW,isName z=true/\Wd z:=fun z hz=>by
 simp only [WW,AG,C6,List.cons_append,List.nil_append,Qp,QA,or_false] at hz
 rcases hz with rfl | rfl | rfl | rfl | rfl | rfl | rfl | rfl<;>exact ⟨by decide+kernel,dL (by decide) (by decide)⟩
structure WN (os:List Str):Prop where
 Gr:rising os=true
 len:os.length<=4
 ww:∀ z∈os,z∈WW
theorem R1:AG.Pairwise fun a b=>qj a b=true:=by decide+kernel
theorem R3:C6.Pairwise fun a b=>qj a b=true:=by decide+kernel
theorem WN.of {b os:List Str} (hb:b=AG\/b=C6) (s:os.Sublist b):WN os:=by
 rcases hb with rfl | rfl
 ·exact ⟨fB (R1.sublist s),s.length_le,fun z hz=>List.mem_append.mpr (.inl (s.subset hz))⟩
 ·exact ⟨fB (R3.sublist s),s.length_le,fun z hz=>List.mem_append.mpr (.inr (s.subset hz))⟩
def KC (K:QZ):Sp:=fun vs H Q _=>∃ (H0:Hp) (p:Addr) (t:Nat),vs=[.ref p]/\bu K H0 H p t/\t+5 < 900000/\
 ∀ (L:Addr) (os:List Str) (H':Hp),H L=none->H' L=some (.lst (os.map V.str))->WN os->bu K H0 H' p (t+5)->Sm p p H H'->Q (.ref L) H'
theorem o7 (T:Txt K mg w):ak P w K mg base 3 "_law_words" ["_law_pen"] (KC K):=by
 have aR:ak P w K mg base 2 "_law_next" ["_law_pen","_law_many"] (uo K):=bK T
 refine T.pS.dh oM (fun vs H Q E h=>?_) (fun f ao A outer s H vs Q E hr h=>?_)
 ·obtain ⟨H0,p,t,rfl,_⟩:=h
  rfl
 ·obtain ⟨H0,p,t,rfl,hn,ht,k⟩:=h
  have hu:=bG hr
  have bg:=Qx (bG hr)
  have hsz:sizeLine=16777216:=QL
  refine ⟨_,(aG (aW (oO (own:=["_law_word"]) (idx:=[0]) (N':=["_law_word","_law_pen"]) (dE (az dW) (["_law_pen"]:List Str) (by decide+kernel)) rfl (qW K (cA (aC aJ (aC aJ (aC aJ (aC aJ aD)))))) (fun _ _ _ _ _ _=>(aY (i:=0) (show List.Nodup (["_law_word","_law_pen"]:List Str) by decide+kernel) rfl (Or.inl rfl))) (fun _ _ _ _ _ _=>(xF (aL (bD bg) (bB aR (hr.mono (by decide)) (aB (zv 1) (aC aF aD))) aF (bf _)))) (fun _ _ _ _ _ _=>(zv 0))))),?_⟩
  refine ⟨(show 4<=sizeLine by decide),fun S fg=>?_⟩
  have s1:=aa.upd fg (.lst [V.str "a",V.str "ab",V.str "b",V.str "ba"])
  have KG:upd H S (.lst [V.str "a",V.str "ab",V.str "b",V.str "ba"]) S=some (.lst (AG.map V.str)):=aA
  have iy:=(hn.same s1).mono (u:=t+1) (by omega)
  have eS:S≠p:=hn.ne fg
  generalize upd H S (.lst [V.str "a",V.str "ab",V.str "b",V.str "ba"])=H4 at s1 KG iy ⊢
  obtain ⟨bs,hb,gS⟩:∃ bs:List Str,(bs=AG\/bs=C6)/\H4 S=some (.lst (bs.map V.str)):=⟨AG,.inl rfl,KG⟩
  have GZ:bs.length=4:=by rcases hb with rfl | rfl<;>rfl
  have AH:Sm p p H H4:=s1.sm
  refine Or.inl ⟨⟨_,ai.of gS⟩,fun D hD=>?_⟩
  have zd:D≠p:=iy.ne hD
  have KH:D≠S:=fun e=>by rw [e,gS] at hD;cases hD
  have fD:H0 D=none:=iy.free hD
  have C7:H D=none:=AH.free hD zd zd
  refine fK (dP (bs.map V.str)) (fun i τ H2=>∃ (v:Option V) (os:List Str),τ=[v,some (.ref p)]/\H2 D=some (.lst (os.map V.str))/\os.Sublist (bs.take i)/\H2 S=some (.lst (bs.map V.str))/\bu K H0 H2 p (t+1+i)/\Sm p p H H2)
   ⟨none,[],rfl,aA,List.Sublist.refl _,by rw [aK KH.symm];exact gS,iy.same (aa.upd hD _),AH.upd C7⟩ (by rintro i τ H2 _ ⟨_,_,_,_,_,q,_⟩;exact ai.of q) ?_ ?_
  ·rintro i τ H5 hi z0;refine hdn fun Gz9 zG9=>?_;obtain ⟨v,os,rfl,q1,q2,q4,q5,q6⟩:=z0;refine zG9 ?_
   rw [Ql] at hi
   rw [kC bs i hi]
   have BP:bs.take (i+1)=bs.take i++[bs.getD i ""]:=by
    rw [Qs,Qb,Qa hi];rfl
   generalize bs.getD i ""=z at BP
   have CP:os.length<=i:=by have:=q2.length_le;simp at this;omega
   refine ⟨H0,p,2,t+1+i,rfl,q5,⟨by decide,by decide⟩,by omega,fun r H6 r0 r1 KI jr=>?_⟩
   refine ⟨rfl,_,rfl,?_⟩
   have g4:=jr _ _ q4 eS eS
   have g1:=jr _ _ q1 zd zd
   refine aj (fun _=>?_) (fun _=>?_)
   ·exact ⟨_,g1,by rw [Ql];exact NU (by omega),_,os++[z],rfl,by rw [aA,Qm];rfl,by rw [BP];exact q2.append (List.Sublist.refl _),by rw [aK KH.symm];exact g4,KI.put zd fD,(q6.trans jr).upd C7⟩
   ·exact ⟨_,os,rfl,g1,by rw [BP];exact q2.trans (List.sublist_append_left _ _),g4,KI,q6.trans jr⟩
  ·rintro τ H5 z0;refine hdn fun Gz9 zG9=>?_;obtain ⟨v,os,rfl,q1,q2,q4,q5,q6⟩:=z0;refine zG9 ?_
   rw [Ql] at q2 q5
   rw [List.take_length] at q2
   exact k D os H5 C7 q1 (WN.of hb q2) (q5.mono (by omega)) q6
structure kj (H:Hp) (l:Addr) (ss:List Str):Prop where
 e:H l=some (.lst (ss.map V.str))
 ne:ss≠[]
 few:ss.length<=60
 wd:∀ z∈ss,Wd z
theorem wS {t:Nat} (h:kj H l ss) (hp:bu K H0 H p t):l≠p:=fun q=>by
 obtain ⟨_,_,_,_,z,_⟩:=hp.ex
 have e:=h.e
 have ne:=h.ne
 rw [q,z] at e
 cases ss with
 | nil=>exact ne rfl
 | cons a r=>cases e
theorem kj.nx {t:Nat} (h:kj H l ss) (hp:bu K H0 H p t) (s:Sm p p H H'):kj H' l ss:=⟨s _ _ h.e (wS h hp) (wS h hp),h.ne,h.few,h.wd⟩
theorem kj.same (h:kj H l ss) (s:aa H H'):kj H' l ss:=⟨s _ _ h.e,h.ne,h.few,h.wd⟩
theorem kj.at {H:Hp} {l:Addr} {ss:List Str} (h:kj H l ss) (r:Int) (h0:0<=r) (h1:r < ss.length):∃ z,je (ss.map V.str) r=some (.str z)/\ss[r.toNat]? =some z/\Wd z:=by
 obtain ⟨c,jn,ie⟩:=iL (ss.map V.str) r h0 (by rw [Ql];exact h1)
 rw [Qq] at jn
 cases e:ss[r.toNat]? with
 | none=>rw [e] at jn;cases jn
 | some z=>
  rw [e] at jn
  cases jn
  exact ⟨z,ie,rfl,h.wd z (QC e)⟩
theorem kj.pos (h:kj H l ss):0 < ss.length:=List.length_pos_iff.mpr h.ne
def R4 (ns:List Str) (k:Nat) (o:Option Str):Prop:=∀ y,o=some y->∃ i,i < k/\ns[i]? =some y
def KJ (K:QZ):Sp:=fun vs H Q _=>∃ (H0:Hp) (p nm:Addr) (k t:Nat) (ns:List Str),vs=[.ref p,.ref nm,.int (k:Int)]/\bu K H0 H p t/\t+20 < 900000/\kj H nm ns/\(∀ z∈ns,isName z=true)/\k<=ns.length/\
 ∀ (v:V) (H':Hp),nc H' ns WW v (R4 ns k)->bu K H0 H' p (t+20)->Sm p p H H'->Q v H'
theorem qD (T:Txt K mg w):ak P w K mg base 4 "_law_head" ["_law_pen","_law_names","_law_ahead"] (KJ K):=by
 have aR:ak P w K mg base 2 "_law_next" ["_law_pen","_law_many"] (uo K):=bK T
 have qN:ak P w K mg base 3 "_law_words" ["_law_pen"] (KC K):=o7 T
 refine T.rA.dh fT (fun vs H Q E h=>?_) (fun f ao A outer s H vs Q E hr h=>?_)
 ·refine hdn fun Gz9 zG9=>?_;obtain ⟨H0,p,nm,k,t,ns,rfl,_⟩:=h;refine zG9 ?_
  rfl
 ·refine hdn fun Gz9 zG9=>?_;obtain ⟨H0,p,nm,ka,t,ns,rfl,hn,ht,tn,BQ,hk,k⟩:=h;refine zG9 ?_
  have hu:=bG hr
  have bg:=Qx (bG hr)
  have hsz:sizeLine=16777216:=QL
  have VR:=tn.pos
  have VS:=tn.few
  refine ⟨_,(aE (aX (i:=3) fT.nd rfl (Or.inl rfl) (bB aR (hr.mono (by decide)) (aB (zv 0) (aC aF aD))))
   (aE (bM (aL lW (zv 3) aF (bf _)) (aG (aW (aU (aV K) (cA (aT (aS (aC aJ aD)) (aT (aS (aC aJ aD)) aD))) (zv 3) (fun _ _=>rfl)))) aZ)
   (aE (bM (kD (aL (bD bg) (zv 3) aF (bf _)) (fQ (aL jF (zv 2) aF (bf _)))).pt (aG (aW (aS (aC aJ (aH (aU (aV K) (zv 1) (bB aR (hr.mono (by decide)) (aB (zv 0) (aB (zv 2) aD))) (fun _ _=>rfl)) aD))))) aZ)
   (aE (bM (aL lW (zv 3) aF (bf _)) (aE (aX (i:=4) fT.nd rfl (Or.inl rfl) (aU (aV K) (zv 1) (bB aR (hr.mono (by decide)) (aB (zv 0) (bF (bV (bN K) (by rfl) T.nv PySem.boot_len (aB (zv 1) aD)) aD))) (fun _ _=>rfl)))
   (aG (aW (aS (aC aJ (aB (zv 4) (aH (aU (aV K) (zv 1) (bB aR (hr.mono (by decide)) (aB (zv 0) (bF (bV (bN K) (by rfl) T.nv PySem.boot_len (aB (zv 1) aD)) aD))) (fun _ _=>rfl)) aD))))))) aZ)
   (aG (aW (aS (aH (aU (aV K) (cA (aC aJ (aC aJ aD))) (bS dQ (zv 3) aF) (fun _ _=>rfl)) (bF (bU (cX K) (by rfl) T.fE QG (d9 (oO (own:=["_law_word"]) (idx:=[0,1]) (N':=["_law_word","_law_pen","_law_names"]) (dE (az fH) (["_law_pen","_law_names","_law_ahead","_law_way","_law_one"]:List Str) (by decide+kernel)) rfl (qW K (bB qN (hr.mono (by decide)) (aB (zv 0) aD))) (fun _ _ _ _ _ _=>(aY (i:=0) (show List.Nodup (["_law_word","_law_pen","_law_names"]:List Str) by decide+kernel) rfl (Or.inl rfl))) (fun _ _ _ _ _ _=>eL) (fun _ _ _ _ _ _=>(aS (aB (zv 0) (aH (aU (aV K) (zv 2) (bB aR (hr.mono (by decide)) (aB (zv 1) (bF (bV (bN K) (by rfl) T.nv PySem.boot_len (aB (zv 2) aD)) aD))) (fun _ _=>rfl)) aD))))) aD)) aD))))))))),?_⟩
  refine aI ⟨H0,p,10,t,rfl,hn,⟨by decide,by decide⟩,by omega,fun wy H1 w0 w1 hn1 ko=>?_⟩
  have EW:=tn.nx hn ko
  refine aM (fun σ' H'=>σ'=[some (.ref p),some (.ref nm),some (.int (ka:Int)),some (.int wy),none]/\H1=H') ?_ ?_
  ·intro nx av
   refine ⟨_,rfl,aj (fun c1=>?_) (fun c1=>av _ _ ⟨rfl,rfl⟩)⟩
   have uq:wy < 2:=Qt c1
   refine ⟨(show 1<=sizeLine by decide),fun q1 lq=>⟨(show 1<=sizeLine by decide),fun q2 hq2=>⟨(show 2<=sizeLine by decide),fun O hO=>?_⟩⟩⟩
   have s1:=aa.upd lq (.tup [.str "all"])
   have s2:=aa.upd hq2 (.tup [.str "none"])
   have s3:=aa.upd hO (.lst [.ref q1,.ref q2])
   have sA:=(s1.trans s2).trans s3
   have g1:=s3 _ _ (s2 _ _ (aA:upd H1 q1 (.tup [.str "all"]) q1=some (.tup [.str "all"])))
   have g2:=s3 _ _ (aA:upd (upd H1 q1 (.tup [.str "all"])) q2 (.tup [.str "none"]) q2=some (.tup [.str "none"]))
   rcases (show wy=0\/wy=1 by omega) with rfl | rfl
   ·exact ⟨_,.ref q1,.inl (ai.of aA),rfl,k _ _ (yJ g1 (fun _ h=>nomatch h)) ((hn1.same sA).mono (by omega)) (ko.trans sA.sm)⟩
   ·exact ⟨_,.ref q2,.inl (ai.of aA),rfl,k _ _ (wM g2 (fun _ h=>nomatch h)) ((hn1.same sA).mono (by omega)) (ko.trans sA.sm)⟩
  rintro σ' H' ⟨rfl,rfl⟩
  refine aM (fun σ' H'=>σ'=[some (.ref p),some (.ref nm),some (.int (ka:Int)),some (.int wy),none]/\H1=H') ?_ ?_
  ·intro nx av
   refine ⟨rfl,_,rfl,aj (fun h2=>⟨_,rfl,aj (fun h3=>?_) (fun _=>av _ _ ⟨rfl,rfl⟩)⟩) (fun h2=>aj (fun c=>absurd c (by decide)) fun _=>av _ _ ⟨rfl,rfl⟩)⟩
   have VT:(0:Int) < (ka:Int):=Qt h3
   refine ⟨H0,p,(ka:Int),_,rfl,hn1,⟨by omega,by omega⟩,by omega,fun r H2 r0 r1 hn2 g_=>?_⟩
   have AI:=EW.nx hn1 g_
   obtain ⟨y,G0,BR,R5⟩:=AI.at r r0 (by omega)
   refine ⟨_,_,.inl (ai.of AI.e),G0,(show 2<=sizeLine by decide),fun c hc=>?_⟩
   refine k _ _ (Po aA (BQ _ (QC BR)) (QC BR) (fun y' e=>?_)) ((hn2.same (aa.upd hc _)).mono (by omega)) ((ko.trans g_).trans (aa.upd hc _).sm)
   cases e
   exact ⟨r.toNat,by omega,BR⟩
  rintro σ' H' ⟨rfl,rfl⟩
  refine aM (fun σ' H'=>σ'=[some (.ref p),some (.ref nm),some (.int (ka:Int)),some (.int wy),none]/\H1=H') ?_ ?_
  ·intro nx av
   refine ⟨_,rfl,aj (fun c1=>?_) (fun c1=>av _ _ ⟨rfl,rfl⟩)⟩
   refine aI (.inl ⟨_,.inl (ai.of EW.e),H0,p,_,_,rfl,hn1,⟨by rw [Ql];omega,by rw [Ql];omega⟩,by omega,fun r H2 r0 r1 hn2 g_=>?_⟩)
   rw [Ql] at r1
   have AI:=EW.nx hn1 g_
   obtain ⟨x,R6,KL,VU⟩:=AI.at r r0 r1
   refine ⟨_,_,.inl (ai.of AI.e),R6,.inl ⟨_,.inl (ai.of AI.e),H0,p,_,_,rfl,hn2,⟨by rw [Ql];omega,by rw [Ql];omega⟩,by omega,fun r2 H3 b0 b1 qw jr=>?_⟩⟩
   rw [Ql] at b1
   have C8:=AI.nx hn2 jr
   obtain ⟨y,G0,BR,R5⟩:=C8.at r2 b0 b1
   refine ⟨_,_,.inl (ai.of C8.e),G0,(show 3<=sizeLine by decide),fun b hb=>?_⟩
   exact k _ _ (yY aA (BQ _ (QC KL)) (BQ _ (QC BR)) (QC KL) (QC BR) (fun _ h=>nomatch h)) ((qw.same (aa.upd hb _)).mono (by omega)) (((ko.trans g_).trans jr).trans (aa.upd hb _).sm)
  rintro σ' H' ⟨rfl,rfl⟩
  refine ⟨(show 2<=sizeLine by decide),fun O hO=>?_⟩
  have sO:=aa.upd hO (.lst [.str "box",.str "pick"])
  have gO:upd H1 O (.lst [.str "box",.str "pick"]) O=some (.lst [.str "box",.str "pick"]):=aA
  have EX:=hn1.same sO
  have KN:=EW.same sO
  have KO:=ko.trans sO.sm
  dsimp only
  generalize upd H1 O (.lst [.str "box",.str "pick"])=H2 at sO gO EX KN KO
  obtain ⟨so,R7,R8⟩:∃ so:Str,je [V.str "box",V.str "pick"] (wy % 2)=some (.str so)/\(so="box"\/so="pick"):=by
   rcases (show wy % 2=0\/wy % 2=1 by omega) with e | e
   ·rw [e];exact ⟨"box",rfl,.inl rfl⟩
   ·rw [e];exact ⟨"pick",rfl,.inr rfl⟩
  refine ⟨(show (0:Int) < 2 by decide),_,_,.inl (ai.of gO),R7,H0,p,_,rfl,EX,by omega,fun D os H3 C7 q1 wn q5 jr=>?_⟩
  have q6:Sm p p H H3:=KO.trans jr
  have C8:=KN.nx EX jr
  have CP:=wn.len
  have zd:D≠p:=EX.ne C7
  refine Or.inl ⟨⟨_,ai.of q1⟩,fun D2 yd=>?_⟩
  have C9:D2≠p:=q5.ne yd
  have KP:D2≠D:=fun e=>by rw [e,q1] at yd;cases yd
  have KQ:H D2=none:=q6.free yd C9 C9
  have f2:H0 D2=none:=q5.free yd
  have R9:D2≠nm:=fun e=>by rw [e,C8.e] at yd;cases yd
  refine fK (dP (os.map V.str)) (fun i τ H3=>∃ (v:Option V) (xs:List V) (rs:List (Str×V)),τ=[v,some (.ref p),some (.ref nm)]/\H3 D2=some (.lst xs)/\ja H3 xs (cg rs)/\rs.map (·.1)=os.take i/\(∀ r∈rs,∃ y,r.2=.str y/\y∈ns/\Wd y)/\H3 D=some (.lst (os.map V.str))/\bu K H0 H3 p (t+1+5+i)/\Sm p p H H3/\kj H3 nm ns)
   ⟨none,[],[],rfl,aA,n5,rfl,(fun _ h=>nomatch h),by rw [aK KP.symm];exact q1,(q5.same (aa.upd yd _)).mono (by omega),q6.upd KQ,C8.same (aa.upd yd _)⟩ (by rintro i τ H2 _ ⟨_,_,_,_,_,_,_,_,q,_⟩;exact ai.of q) ?_ ?_
  ·rintro i τ H4 hi z0;refine hdn fun Gz9 zG9=>?_;obtain ⟨v,xs,rs,rfl,r1,r2,ze,r3,r4,r5,r6,AJ⟩:=z0;refine zG9 ?_
   rw [Ql] at hi
   rw [kC os i hi]
   have BP:os.take (i+1)=os.take i++[os.getD i ""]:=by
    rw [Qs,Qb,Qa hi];rfl
   generalize os.getD i ""=z at BP
   have xr:rs.length=i:=by have:=congrArg List.length ze;simp at this;omega
   have vn:xs.length=i:=by have:=r2.1;simp at this;omega
   refine .inl ⟨_,.inl (ai.of AJ.e),H0,p,_,t+1+5+i,rfl,r5,⟨by rw [Ql];omega,by rw [Ql];omega⟩,by omega,fun r H5 a0 a1 R_ jt=>?_⟩
   rw [Ql] at a1
   have qx:=AJ.nx r5 jt
   obtain ⟨n,Sa,BS,Sb⟩:=qx.at r a0 a1
   refine ⟨_,_,.inl (ai.of qx.e),Sa,(show 2<=sizeLine by decide),fun b hb=>?_⟩
   have g1:=jt _ _ r1 C9 C9
   have g4:=jt _ _ r4 zd zd
   have G8:D2≠b:=aQ g1 hb
   have Sd:D≠b:=aQ g4 hb
   have AK:Tk H4 H5:=r5.ts jt
   have we:Tk H4 (upd (upd H5 b (.tup [.str z,.str n])) D2 (.lst (xs++[.ref b]))):=(AK.trans (aa.upd hb _).ts).set (by rw [aK G8];exact g1) (by intro _ z;cases z)
   have Se:upd (upd H5 b (.tup [.str z,.str n])) D2 (.lst (xs++[.ref b])) b=some (.tup [.str z,.str n]):=by rw [aK G8.symm];exact aA
   have Sf:kj (upd (upd H5 b (.tup [.str z,.str n])) D2 (.lst (xs++[.ref b]))) nm ns:=⟨by rw [aK R9.symm];exact (aa.upd hb _) _ _ qx.e,qx.ne,qx.few,qx.wd⟩
   refine ⟨xs,by rw [aK G8];exact g1,by omega,_,xs++[.ref b],rs++[(z,.str n)],rfl,aA,l9 (r2.ts we) Se,by rw [Qm,ze,BP];rfl,fun r' hr'=>?_,by rw [aK KP.symm,aK Sd];exact g4,((R_.same (aa.upd hb _)).put C9 f2),((r6.trans jt).trans (aa.upd hb _).sm).upd KQ,Sf⟩
   rcases List.mem_append.mp hr' with hx | hx
   ·exact r3 r' hx
   ·rw [List.mem_singleton.mp hx]
    exact ⟨n,rfl,QC BS,Sb⟩
  ·rintro τ H4 z0;refine hdn fun Gz9 zG9=>?_;obtain ⟨v,xs,rs,rfl,r1,r2,ze,r3,r4,r5,r6,AJ⟩:=z0;refine zG9 ?_
   rw [Ql] at ze r5
   rw [List.take_length] at ze
   have xr:rs.length=os.length:=by rw [<- ze,Ql]
   have vn:xs.length=os.length:=by have:=r2.1;simp at this;omega
   refine ⟨D2,xs,rfl,.inl ⟨ai.of r1,fun c hc=>⟨(show 2<=sizeLine by decide),fun b hb=>?_⟩⟩⟩
   have s5:=aa.upd hc (.tup xs)
   have s6:=aa.upd hb (.tup [.str so,.ref c])
   have gc:=s6 _ _ (aA:upd H4 c (.tup xs) c=some (.tup xs))
   have mz:∀ r'∈rs,r'.1∈os:=fun r' hr'=>by rw [<- ze];exact List.mem_map.mpr ⟨r',hr',rfl⟩
   have tk:=s5.ts.trans s6.ts
   have Sg:=Ph (r2.ts tk) (fun r' hr'=>(pU _ (wn.ww _ (mz r' hr'))).1) (fun r' hr'=>by obtain ⟨y,e1,e2,_⟩:=r3 r' hr';exact ⟨y,e1,e2,BQ y e2⟩) (by rw [ze];exact wn.Gr)
   exact k _ _ (sF R8 aA gc (by omega) Sg (fun q hq=>by obtain ⟨q',El,rfl⟩:=List.mem_map.mp hq;exact wn.ww _ (mz q' El)) (fun _ h=>nomatch h)) ((r5.same (s5.trans s6)).mono (by omega)) (r6.trans (s5.trans s6).sm)
def N8:List Str:=["x","xa","xb","y","ya","z","ka","kb"]
theorem wA:∀ z∈N8,isName z=true/\Wd z:=fun z hz=>by
 simp only [N8,Qp,QA,or_false] at hz
 rcases hz with rfl | rfl | rfl | rfl | rfl | rfl | rfl | rfl<;>exact ⟨by decide+kernel,dL (by decide) (by decide)⟩
theorem Sh:N8.Nodup:=by decide+kernel
theorem u7 {ys:List V} {l:List Str} (h:ys.Perm (l.map V.str)):∃ zs:List Str,zs.Perm l/\ys=zs.map V.str:=by
 refine ⟨ys.map Aq,?_,?_⟩
 ·have:=h.map Aq
  rw [List.map_map] at this
  have e:(Aq∘V.str)=(id:Str->Str):=rfl
  rw [e,List.map_id] at this
  exact this
 ·rw [List.map_map]
  have:∀ y∈ys,(V.str∘Aq) y=y:=fun y hy=>by
   obtain ⟨z,_,rfl⟩:=List.mem_map.mp (h.mem_iff.mp hy)
   rfl
  rw [List.map_congr_left this,List.map_id']
theorem p8 {β:Type} {R:α->β->Prop} {xs ys:List α} (p:ys.Perm xs):∀ {rs:List β},Paired R xs rs->∃ rs',rs'.Perm rs/\Paired R ys rs':=by
 induction p with
 | nil=>intro rs h;cases h;exact ⟨[],.refl _,.nil⟩
 | cons x p ih=>
  intro rs h
  cases h with
  | cons a b=>
   obtain ⟨rs',q1,q2⟩:=ih b
   exact ⟨_::rs',q1.cons _,.cons a q2⟩
 | swap x y l=>
  intro rs h
  cases h with
  | cons a h=>
   cases h with
   | cons b h=>exact ⟨_::_::_,.swap _ _ _,.cons b (.cons a h)⟩
 | trans p1 p2 Si Sj=>
  intro rs h
  obtain ⟨r1,a1,b1⟩:=Sj h
  obtain ⟨r2,a2,b2⟩:=Si b1
  exact ⟨r2,a2.trans a1,b2⟩
theorem iZ {α β γ:Type} {R:α->β->Prop} {g:γ->β}:∀ {xs:List α} {rs:List γ},Paired R xs (rs.map g)->Paired (fun x r=>R x (g r)) xs rs
 | [],[],.nil=>.nil
 | _::_,_::_,.cons a b=>.cons a (iZ b)
theorem kY {α β γ:Type} {R:α->β->Prop} {g:γ->β}:∀ {xs:List α} {rs:List γ},Paired (fun x r=>R x (g r)) xs rs->Paired R xs (rs.map g)
 | [],[],.nil=>.nil
 | _::_,_::_,.cons a b=>.cons a (kY b)
theorem rV {xs ys:List V} {rs:List (Str×V)} (h:ja H xs (cg rs)) (p:ys.Perm xs):∃ rs',rs'.Perm rs/\ja H ys (cg rs'):=by
 obtain ⟨rs',q1,q2⟩:=p8 p (iZ (eO.mp h))
 exact ⟨rs',q1,eO.mpr (kY q2)⟩
def KR (K:QZ):Sp:=fun vs H Q _=>∃ (H0:Hp) (p:Addr) (most:Int) (t:Nat),vs=[.ref p,.int most]/\bu K H0 H p t/\t+600 < 900000/\(1<=most/\most<=8)/\
 ∀ (a:Addr) (xs:List V) (rows:List cj) (ns:List Str) (H':Hp),RT H' a xs rows ns WW->(ns.length:Int)<=most->(∀ n∈ns,n∈N8)->bu K H0 H' p (t+600)->Sm p p H H'->Q (.ref a) H'
theorem lX (T:Txt K mg w):ak P w K mg base 5 "_law_telling" ["_law_pen","_law_most"] (KR K):=by
 have aR:ak P w K mg base 2 "_law_next" ["_law_pen","_law_many"] (uo K):=bK T
 have iY:ak P w K mg base 3 "_law_turned" ["_law_pen","_law_some"] (Kw K):=m6 T
 have sP:ak P w K mg base 4 "_law_head" ["_law_pen","_law_names","_law_ahead"] (KJ K):=qD T
 refine T.mE.dh cH (fun vs H Q E h=>?_) (fun f ao A outer s H vs Q E hr h=>?_)
 ·obtain ⟨H0,p,most,t,rfl,_⟩:=h
  rfl
 ·refine hdn fun Gz9 zG9=>?_;obtain ⟨H0,p,most,t,rfl,hn,ht,⟨hm1,hm2⟩,k⟩:=h;refine zG9 ?_
  have hu:=bG hr
  have bg:=Qx (bG hr)
  have hsz:sizeLine=16777216:=QL
  refine ⟨_,(aE (aX (i:=2) cH.nd rfl (Or.inl rfl) (bS bW aF (bB aR (hr.mono (by decide)) (aB (zv 0) (aB (zv 1) aD)))))
   (aE (aX (i:=3) cH.nd rfl (Or.inl rfl) (eP (rH K) (bB iY (hr.mono (by decide)) (aB (zv 0) (y3 (cA (aC aJ (aC aJ (aC aJ (aC aJ (aC aJ (aC aJ (aC aJ (aC aJ aD))))))))) aD))) fA (f9 (zv 2))))
   (aE (aX (i:=4) cH.nd rfl (Or.inl rfl) (cA aD))
   (aE (jZ PassesOwn.never rfl (l5 (by rfl) T.oA (aB (zv 2) aD)) (aY (i:=5) cH.nd rfl (Or.inl rfl)) (aG (cV (jM K QH QJ QK cE (zv 4) (aT (aS (aH (aU (aV K) (zv 3) (zv 5) (fun _ _=>rfl)) (bF (bB sP (hr.mono (by decide)) (aB (zv 0) (aB (zv 3) (aB (zv 5) aD)))) aD))) aD)))))
   (aG (aW (bU (cX K) (by rfl) T.fE QG (bF (bB iY (hr.mono (by decide)) (aB (zv 0) (aB (zv 4) aD))) aD)))))))),?_⟩
  refine aI ⟨H0,p,most,t,rfl,hn,⟨by omega,by omega⟩,by omega,fun r H1 r0 r1 hn1 ko=>?_⟩
  obtain ⟨i0,rfl⟩:∃ i:Nat,r=(i:Int):=⟨r.toNat,by omega⟩
  refine aI ⟨(show 8<=sizeLine by decide),fun l1 fg=>?_⟩
  have s1:=aa.upd fg (.lst (N8.map V.str))
  have g1:upd H1 l1 (.lst (N8.map V.str)) l1=some (.lst (N8.map V.str)):=aA
  have hn2:=hn1.same s1
  have g_:=ko.trans s1.sm
  refine ⟨H0,p,l1,N8.map V.str,_,rfl,hn2,by omega,.inl (ai.of g1),(by decide),fun L ys H2 hL gL pm qw jr=>?_⟩
  obtain ⟨zs,G9,rfl⟩:=u7 pm
  have AH:=g_.trans jr
  have EY:zs.length=8:=G9.length_eq
  refine ⟨1+(i0:Int),rfl,Or.inr (Or.inl ⟨L,zs.map V.str,rfl,ai.of gL,fun N hN=>?_⟩)⟩
  have AL:f_ (zs.map V.str) none (some (1+(i0:Int)))=(zs.take (1+i0)).map V.str:=by
   rw [show (1+(i0:Int))=((1+i0:Nat):Int) by omega,O_,List.map_take]
  rw [AL]
  have sN:=aa.upd hN (.lst ((zs.take (1+i0)).map V.str))
  have gN:upd H2 N (.lst ((zs.take (1+i0)).map V.str)) N=some (.lst ((zs.take (1+i0)).map V.str)):=aA
  have iy:=qw.same sN
  have C_:=AH.trans sN.sm
  generalize upd H2 N (.lst ((zs.take (1+i0)).map V.str))=H3 at sN gN iy C_
  have G_:(zs.take (1+i0)).length=1+i0:=by rw [List.length_take];omega
  have Dc:∀ n∈zs.take (1+i0),n∈N8:=fun n hn=>G9.mem_iff.mp (List.mem_of_mem_take hn)
  have EZ:(zs.take (1+i0)).Nodup:=(G9.nodup_iff.mpr Sh).sublist (List.take_sublist _ _)
  generalize zs.take (1+i0)=ns at gN G_ Dc EZ
  have tn:kj H3 N ns:=⟨gN,by intro e;rw [e] at G_;simp at G_;omega,by omega,fun n hn=>(wA n (Dc n hn)).2⟩
  refine aI ⟨(show 0<=sizeLine by decide),fun R hR=>?_⟩
  have Dd:R≠p:=iy.ne hR
  have Sk:R≠N:=fun e=>by rw [e,gN] at hR;cases hR
  have Sl:H R=none:=C_.free hR Dd Dd
  have fR:H0 R=none:=iy.free hR
  have sR:=aa.upd hR (.lst [])
  refine aM (fun σ' H'=>∃ (v5:Option V) (xs:List V) (rs:List (Str×V)),σ'=[some (.ref p),some (.int most),some (.int (1+(i0:Int))),some (.ref N),some (.ref R),v5]/\H' R=some (.lst xs)/\ja H' xs (cg rs)/\rs.map (·.1)=ns/\qk H' ns WW rs/\bu K H0 H' p (t+101+20*8)/\Sm p p H H') ?_ ?_
  ·intro nx av
   refine ⟨1+(i0:Int),rfl,by omega,by omega,kZ (jC 0 (1+(i0:Int)).toNat) (fun i σ' H'=>∃ (v5:Option V) (xs:List V) (rs:List (Str×V)),σ'=[some (.ref p),some (.int most),some (.int (1+(i0:Int))),some (.ref N),some (.ref R),v5]/\H' R=some (.lst xs)/\ja H' xs (cg rs)/\rs.map (·.1)=ns.take i/\qk H' ns WW rs/\kj H' N ns/\bu K H0 H' p (t+101+20*i)/\Sm p p H H')
    ⟨none,[],[],rfl,aA,n5,rfl,⟨(fun _ h=>nomatch h),(fun _ h=>nomatch h)⟩,tn.same sR,(iy.same sR).mono (by omega),C_.trans sR.sm⟩ (fun _ _ _ _ _=>True.intro) ?_ ?_⟩
   ·rintro i σ' H4 hi z0;refine hdn fun Gz9 zG9=>?_;obtain ⟨v5,xs,rs,rfl,q1,q2,q3,q4,AJ,q6,q7⟩:=z0;refine zG9 ?_
    have gf:i < ns.length:=by omega
    have e0:(0+(i:Int))=(i:Int):=by omega
    rw [e0]
    have BS:ns[i]? =some ns[i]:=Qa gf
    have qy:ns[i]∈ns:=Qj gf
    generalize ns[i]=nm at BS qy
    have vn:xs.length=i:=by
     have h1:=q2.1
     have h2:=congrArg List.length q3
     simp at h1 h2
     omega
    refine ⟨.inl ⟨rfl,_,ai.of q1⟩,_,.str nm,.inl (ai.of AJ.e),cF (by rw [Qq,BS];rfl),H0,p,N,i,_,ns,rfl,q6,by omega,AJ,(fun z hz=>(wA z (Dc z hz)).1),by omega,fun hv H5 hg n_ jc=>⟨(show 2<=sizeLine by decide),fun c hc=>?_⟩⟩
    have g4:H5 R=some (.lst xs):=jc _ _ q1 Dd Dd
    have qx:=AJ.nx q6 jc
    have Hf:R≠c:=aQ g4 hc
    refine ⟨R,xs,.ref c,rfl,rfl,by rw [aK Hf];exact g4,by omega,?_⟩
    have KS:Tk H5 (upd (upd H5 c (.tup [.str nm,hv])) R (.lst (xs++[.ref c]))):=((aa.upd hc _).ts).set (by rw [aK Hf];exact g4) (by intro _ z;cases z)
    have Sn:upd (upd H5 c (.tup [.str nm,hv])) R (.lst (xs++[.ref c])) c=some (.tup [.str nm,hv]):=by rw [aK Hf.symm];exact aA
    have KU:=(q6.ts jc).trans KS
    refine ⟨_,xs++[.ref c],rs++[(nm,hv)],rfl,aA,l9 (q2.ts KU) Sn,?_,?_,⟨by rw [aK Sk.symm,aK (aQ qx.e hc)];exact qx.e,qx.ne,qx.few,qx.wd⟩,((n_.same (aa.upd hc _)).put Dd fR).mono (by omega),((q7.trans jc).trans (aa.upd hc _).sm).upd Sl⟩
    ·rw [Qm,q3,Qs,BS];rfl
    ·have:=((q4.tk KU).add (n:=nm) (v:=hv) qy ((hg.tk KS).imp fun o h y e=>by obtain ⟨i',h1,h2⟩:=h y e;exact ⟨i',i,h1,h2,BS⟩))
     exact this.perm fun r hr=>by
      rcases List.mem_append.mp hr with hr | hr
      ·exact Qh _ hr
      ·rw [List.mem_singleton.mp hr];exact List.mem_cons_self
   ·rintro σ' H' z0;refine hdn fun Gz9 zG9=>?_;obtain ⟨v5,xs,rs,rfl,q1,q2,q3,q4,q5,q6,q7⟩:=z0;refine zG9 ?_
    have en:(1+(i0:Int)).toNat=ns.length:=by omega
    rw [en,List.take_length] at q3
    exact av _ _ ⟨v5,xs,rs,rfl,q1,q2,q3,q4,q6.mono (by omega),q7⟩
  ·rintro σ' H4 z0;refine hdn fun Gz9 zG9=>?_;obtain ⟨v5,xs,rs,rfl,q1,q2,q3,q4,q6,q7⟩:=z0;refine zG9 ?_
   have xr:rs.length=ns.length:=by rw [<- q3,Ql]
   have vn:xs.length=rs.length:=by have:=q2.1;simpa using this
   refine ⟨H0,p,R,xs,_,rfl,q6,by omega,.inl (ai.of q1),by omega,fun L2 ys H5 So De Sq n_ jc=>⟨L2,ys,rfl,.inl ⟨ai.of De,fun a ha=>?_⟩⟩⟩
   have s6:=aa.upd ha (.tup ys)
   have we:=(q6.ts jc).trans s6.ts
   obtain ⟨rs',pr,pa⟩:=rV (q2.ts we) Sq
   obtain ⟨rows,rt⟩:=RT.of aA pa (by rw [<- q3];exact pr.map _) EZ (fun n hn=>wA n (Dc n hn)) (by omega) (by omega) ((q4.tk we).perm fun r hr=>pr.mem_iff.mp hr)
   exact k a _ rows ns _ rt (by omega) Dc ((n_.same s6).mono (by omega)) ((q7.trans jc).trans s6.sm)
def Df:Sp:=fun vs H Q _=>∃ (a:Addr) (xs:List V) (rs:List (Str×V)) (nx:Str->Option Str) (ρ:Str->Nat) (x:Str),vs=[.ref a,.str x]/\lu H a xs rs nx ρ/\x∈rs.map (·.1)/\∀ H',aa H H'->Q (.str (eu nx rs.length x)) H'
def KW:Sp:=fun vs H Q _=>∃ (a:Addr) (xs:List V) (rs:List (Str×V)) (nx:Str->Option Str) (ρ:Str->Nat) (x:Str),vs=[.ref a,.str x]/\lu H a xs rs nx ρ/\x∈rs.map (·.1)/\
 ∀ v H',aa H H'->c_ (dictOf (cg rs)) (.inr (eu nx rs.length x))=some v->Q v H'
def E1 (K:QZ):Sp:=fun vs H Q _=>∃ (H0:Hp) (p a:Addr) (t:Nat) (xs:List V) (rows:List cj) (ns ws:List Str),vs=[.ref p,.ref a]/\bu K H0 H p t/\t < 900000/\RT H a xs rows ns ws/\
 ∀ (n:Str) (H':Hp),n∈ns->bu K H0 H' p (t+1)->Sm p p H H'->Q (.str n) H'
theorem iB (T:Txt K mg w):ak P w K mg base 3 "_law_any" ["_law_pen","_law_told"] (E1 K):=by
 have aR:ak P w K mg base 2 "_law_next" ["_law_pen","_law_many"] (uo K):=bK T
 refine T.uN.dh rG (fun vs H Q E h=>?_) (fun f ao A outer s H vs Q E hr h=>?_)
 ·refine hdn fun Gz9 zG9=>?_;obtain ⟨H0,p,a,t,xs,rows,ns,ws,rfl,_⟩:=h;refine zG9 ?_
  rfl
 ·refine hdn fun Gz9 zG9=>?_;obtain ⟨H0,p,a,t,xs,rows,ns,ws,rfl,hn,ht,rt,k⟩:=h;refine zG9 ?_
  have hu:=bG hr
  have bg:=Qx (bG hr)
  have hsz:sizeLine=16777216:=QL
  have xr:=rt.rl
  have vn:=rt.rv.len
  have pos:=rt.pos
  have few:=rt.few
  refine ⟨_,(aG (aW (aU (aV K) (aU (aV K) (zv 1) (bB aR (hr.mono (by decide)) (aB (zv 0) (bF (bV (bN K) (by rfl) T.nv PySem.boot_len (aB (zv 1) aD)) aD))) (fun _ _=>rfl)) aF (fun _ _=>rfl)))),?_⟩
  refine .inl ⟨_,.inr (ae.of rt.at_),H0,p,_,t,rfl,hn,⟨by omega,by omega⟩,by omega,fun r H1 r0 r1 hn1 ko=>?_⟩
  obtain ⟨i,rfl⟩:∃ i:Nat,r=(i:Int):=⟨r.toNat,by omega⟩
  have Hg:=rt.tk (hn.ts ko)
  obtain ⟨b,v,q1,q2,q3⟩:=Hg.rv.at_ i (by omega) (by omega)
  refine ⟨xs,.ref b,.inr (ae.of Hg.at_),cF (by rw [Qa (by omega),q1]),_,_,.inr (ae.of q2),aO _ _,k _ H1 (Hg.nm.mem_iff.mp (List.mem_map.mpr ⟨_,Qj (by omega),rfl⟩)) hn1 ko⟩
theorem cN (T:Txt K mg w):ak P w K mg base 1 "_law_row_here" ["_law_told","_law_name"] Df:=by
 refine T.lA.dh dC (fun vs H Q E h=>?_) (fun f ao A outer s H vs Q E hr h=>?_)
 ·refine hdn fun Gz9 zG9=>?_;obtain ⟨a,xs,rs,nx,ρ,x,rfl,_⟩:=h;refine zG9 ?_
  rfl
 ·refine hdn fun Gz9 zG9=>?_;obtain ⟨a,xs,rs,nx,ρ,x,rfl,g,hx,k⟩:=h;refine zG9 ?_
  have hu:=bG hr
  have bg:=Qx hu
  refine ⟨_,(aE (aX (i:=2) dC.nd rfl (Or.inl rfl) (bU (eR rfl) (by rfl) T.j8 QX (aB (zv 0) aD)))
   (aE (gX PassesOwn.never (aL (bD bg) (aU (aV K) (j5 hu (zv 2) (zv 1) (fun _ _=>rfl)) aF (fun _ _=>rfl)) aJ (bf _)) (aG (aX (i:=1) dC.nd rfl (Or.inl rfl) (aU (aV K) (j5 hu (zv 2) (zv 1) (fun _ _=>rfl)) aF (fun _ _=>rfl)))))
   (aG (aW (zv 1))))),?_⟩
  have hsz:sizeLine=16777216:=QL
  have Ss:=g.len
  refine aI ⟨a,xs,cg rs,rfl,g.at_,g.ps,(by simp;omega),fun d hd=>?_⟩
  have s1:aa H (upd H d (.dK (dictOf (cg rs)))):=aa.upd hd _
  have g1:=g.ts s1.ts
  refine ⟨fun m σ H'=>H'=upd H d (.dK (dictOf (cg rs)))/\∃ y,σ=[some (.ref a),some (.str y),some (.ref d)]/\y∈rs.map (·.1)/\eu nx rs.length y=eu nx rs.length x/\m=ρ y,⟨_,rfl,x,rfl,hx,rfl,rfl⟩,?_⟩
  rintro m σ H' ⟨rfl,y,rfl,hy,he,rfl⟩
  obtain ⟨v,hv,kh⟩:=g1.get hy
  have BU:jf (upd H d (.dK (dictOf (cg rs)))) d (.str y) (some v):=by
   rw [<- kh];exact jf.k (k:=Sum.inr y) aA
  obtain ⟨b,rfl,hb⟩:=g1.as _ hv
  rcases hb with ⟨z,ys,h1,h2,h3⟩ | ⟨z,h1,h3⟩
  ·refine ⟨d,_,rfl,BU,_,.str z,.inr (ae.of h1),aO _ _,rfl,_,rfl,?_⟩
   rw [QE,Qw (fun e=>h2 (V.str.inj e))]
   refine jy ?_
   have e2:eu nx rs.length y=y:=gY _ h3
   have:=k _ s1
   rw [<- he,e2] at this
   exact this
  ·refine ⟨d,_,rfl,BU,_,.str "as",.inr (ae.of h1),aO _ _,rfl,_,rfl,?_⟩
   refine FY ?_
   obtain ⟨i1,i2⟩:=g1.Ei _ hv z h3
   refine ⟨fun σ' AF=>∃ m',m' < ρ y/\AF=upd H d (.dK (dictOf (cg rs)))/\∃ y,σ'=[some (.ref a),some (.str y),some (.ref d)]/\y∈rs.map (·.1)/\eu nx rs.length y=eu nx rs.length x/\m'=ρ y,fun _ _ h=>h,?_⟩
   refine ⟨d,_,rfl,BU,_,.str z,.inr (ae.of h1),rfl,_,i2,rfl,z,rfl,i1,?_,rfl⟩
   rw [<- he]
   exact g1.O9 hy h3
theorem j3 (T:Txt K mg w):ak P w K mg base 2 "_law_head_here" ["_law_told","_law_name"] KW:=by
 have bL:ak P w K mg base 1 "_law_row_here" ["_law_told","_law_name"] Df:=cN T
 refine T.kN.dh jA (fun vs H Q E h=>?_) (fun f ao A outer s H vs Q E hr h=>?_)
 ·refine hdn fun Gz9 zG9=>?_;obtain ⟨a,xs,rs,nx,ρ,x,rfl,_⟩:=h;refine zG9 ?_
  rfl
 ·refine hdn fun Gz9 zG9=>?_;obtain ⟨a,xs,rs,nx,ρ,x,rfl,g,hx,k⟩:=h;refine zG9 ?_
  have hu:=bG hr
  have hsz:sizeLine=16777216:=QL
  have Ss:=g.len
  refine ⟨_,(aG (aW (j5 hu (bU (eR rfl) (by rfl) T.j8 QX (aB (zv 0) aD)) (bB bL (hr.mono (by decide)) (aB (zv 0) (aB (zv 1) aD))) (fun _ _=>rfl)))),?_⟩
  refine ⟨a,xs,cg rs,rfl,g.at_,g.ps,(by simp;omega),fun d hd=>?_⟩
  have s1:aa H (upd H d (.dK (dictOf (cg rs)))):=aa.upd hd _
  refine ⟨a,xs,rs,nx,ρ,x,rfl,g.ts s1.ts,hx,fun H' s2=>?_⟩
  obtain ⟨v,hv,kh⟩:=g.get (g.Ej hx).1
  refine ⟨d,v,rfl,?_,k v _ (s1.trans s2) kh⟩
  rw [<- kh];exact jf.k (k:=Sum.inr (eu nx rs.length x)) (s2 _ _ aA)
def wg:Sp:=fun vs H Q _=>∃ (v:V) (ks:List V),vs=[v]/\ly H v ks/\∀ L H',H L=none->H' L=some (.lst ks)->aa H H'->Q (.ref L) H'
theorem nZ (T:Txt K mg w):ak P w K mg base 1 "_law_parts" ["_law_maker"] wg:=by
 refine T.pW.dh iN (fun vs H Q E h=>?_) (fun f ao A outer s H vs Q E hr h=>?_)
 ·obtain ⟨v,ks,rfl,_⟩:=h
  rfl
 ·obtain ⟨v,ks,rfl,hs,k⟩:=h
  have bg:=Qx (bG hr)
  have hsz:sizeLine=16777216:=QL
  refine ⟨_,(aE (aX (i:=1) iN.nd rfl (Or.inl rfl) (aU (aV K) (zv 0) aF (fun _ _=>rfl)))
   (aE (bM (aL (nW K) (zv 1) (aS (aC aJ (aC aJ aD))) rfl) (aG (aW (cA (aH (aU (aV K) (zv 0) (Ga rR aF) (fun _ _=>rfl)) aD)))) aZ)
   (aE (bM (aL (bD bg) (zv 1) aJ (bf _)) (aG (aW (cA (aH (aU (aV K) (zv 0) aF (fun _ _=>rfl)) (aH (aU (aV K) (zv 0) aF (fun _ _=>rfl)) aD))))) aZ)
   (aE (bM (aL (nW K) (zv 1) (aS (aC aJ (aC aJ aD))) rfl) (aG (aW (cA (aH (aU (aV K) (zv 0) aF (fun _ _=>rfl)) aD)))) aZ)
   (aE (bM (aL (bD bg) (zv 1) aJ (bf _)) (aG (aW (oO (own:=["_law_one"]) (idx:=[]) (N':=["_law_one"]) (dE (az dA) (["_law_maker","_law_word"]:List Str) (by decide+kernel)) rfl (qW K (aU (aV K) (zv 0) aF (fun _ _=>rfl))) (fun _ _ _ _ _ _=>(aY (i:=0) (show List.Nodup (["_law_one"]:List Str) by decide+kernel) rfl (Or.inl rfl))) (fun _ _ _ _ _ _=>eL) (fun _ _ _ _ _ _=>(aU (aV K) (zv 0) aF (fun _ _=>rfl)))))) aZ)
   (aE (bM (aL (bD bg) (zv 1) aJ (bf _)) (aG (aW (bS bW (cA (aH (aU (aV K) (zv 0) aF (fun _ _=>rfl)) aD)) (oO (own:=["_law_one"]) (idx:=[]) (N':=["_law_one"]) (dE (az dA) (["_law_maker","_law_word"]:List Str) (by decide+kernel)) rfl (qW K (aU (aV K) (zv 0) aF (fun _ _=>rfl))) (fun _ _ _ _ _ _=>(aY (i:=0) (show List.Nodup (["_law_one"]:List Str) by decide+kernel) rfl (Or.inl rfl))) (fun _ _ _ _ _ _=>eL) (fun _ _ _ _ _ _=>(aU (aV K) (zv 0) aF (fun _ _=>rfl))))))) aZ)
   (aG (aW (cA aD))))))))),?_⟩
  cases hs with
  | @fn a v r m e _ _=>
   refine aI ⟨_,.str "fn",.inr (ae.of e),aO _ _,?_⟩
   refine ⟨(show 2<=sizeLine by decide),fun b1 dm=>⟨_,.inr (ae.of aA),rfl,rfl,_,rfl,?_⟩⟩
   have s1:aa H _:=(aa.refl H).trans (aa.upd dm (.tup [.str "fn",.str "pick"]))
   generalize upd H b1 (.tup [.str "fn",.str "pick"])=H1 at s1
   refine aj (fun _=>?_) (fun c=>absurd c (by decide+kernel))
   exact ⟨1,rfl,_,m,.inr (ae.of (s1 _ _ e)),rfl,(show 1<=sizeLine by decide),fun L hL=>k L _ (s1.free hL) aA (s1.trans (aa.upd hL _))⟩
  | @pick a z m e _=>
   refine aI ⟨_,.str "pick",.inr (ae.of e),aO _ _,?_⟩
   refine ⟨(show 2<=sizeLine by decide),fun b1 dm=>⟨_,.inr (ae.of aA),rfl,rfl,_,rfl,?_⟩⟩
   have s1:aa H _:=(aa.refl H).trans (aa.upd dm (.tup [.str "fn",.str "pick"]))
   generalize upd H b1 (.tup [.str "fn",.str "pick"])=H1 at s1
   refine aj (fun _=>?_) (fun c=>absurd c (by decide+kernel))
   exact ⟨1,rfl,_,m,.inr (ae.of (s1 _ _ e)),rfl,(show 1<=sizeLine by decide),fun L hL=>k L _ (s1.free hL) aA (s1.trans (aa.upd hL _))⟩
  | @call a f x e=>
   refine aI ⟨_,.str "call",.inr (ae.of e),aO _ _,?_⟩
   refine ⟨(show 2<=sizeLine by decide),fun b1 dm=>⟨_,.inr (ae.of aA),rfl,rfl,_,rfl,?_⟩⟩
   have s1:aa H _:=(aa.refl H).trans (aa.upd dm (.tup [.str "fn",.str "pick"]))
   generalize upd H b1 (.tup [.str "fn",.str "pick"])=H1 at s1
   refine aj (fun c=>absurd c (by decide+kernel)) (fun _=>aN ?_)
   refine ⟨rfl,_,rfl,?_⟩
   refine aj (fun _=>?_) (fun c=>absurd c (by decide+kernel))
   exact ⟨_,f,.inr (ae.of (s1 _ _ e)),rfl,_,x,.inr (ae.of (s1 _ _ e)),rfl,(show 2<=sizeLine by decide),fun L hL=>k L _ (s1.free hL) aA (s1.trans (aa.upd hL _))⟩
  | @part a m z e _=>
   refine aI ⟨_,.str "part",.inr (ae.of e),aO _ _,?_⟩
   refine ⟨(show 2<=sizeLine by decide),fun b1 dm=>⟨_,.inr (ae.of aA),rfl,rfl,_,rfl,?_⟩⟩
   have s1:aa H _:=(aa.refl H).trans (aa.upd dm (.tup [.str "fn",.str "pick"]))
   generalize upd H b1 (.tup [.str "fn",.str "pick"])=H1 at s1
   refine aj (fun c=>absurd c (by decide+kernel)) (fun _=>aN ?_)
   refine ⟨rfl,_,rfl,?_⟩
   refine aj (fun c=>absurd c (by decide+kernel)) (fun _=>aN ?_)
   refine ⟨(show 2<=sizeLine by decide),fun b2 qi=>⟨_,.inr (ae.of aA),rfl,rfl,_,rfl,?_⟩⟩
   have s2:aa H _:=s1.trans (aa.upd qi (.tup [.str "part",.str "hold"]))
   generalize upd H1 b2 (.tup [.str "part",.str "hold"])=H2 at s2
   refine aj (fun _=>?_) (fun c=>absurd c (by decide+kernel))
   exact ⟨_,m,.inr (ae.of (s2 _ _ e)),rfl,(show 1<=sizeLine by decide),fun L hL=>k L _ (s2.free hL) aA (s2.trans (aa.upd hL _))⟩
  | @hold a m z e _=>
   refine aI ⟨_,.str "hold",.inr (ae.of e),aO _ _,?_⟩
   refine ⟨(show 2<=sizeLine by decide),fun b1 dm=>⟨_,.inr (ae.of aA),rfl,rfl,_,rfl,?_⟩⟩
   have s1:aa H _:=(aa.refl H).trans (aa.upd dm (.tup [.str "fn",.str "pick"]))
   generalize upd H b1 (.tup [.str "fn",.str "pick"])=H1 at s1
   refine aj (fun c=>absurd c (by decide+kernel)) (fun _=>aN ?_)
   refine ⟨rfl,_,rfl,?_⟩
   refine aj (fun c=>absurd c (by decide+kernel)) (fun _=>aN ?_)
   refine ⟨(show 2<=sizeLine by decide),fun b2 qi=>⟨_,.inr (ae.of aA),rfl,rfl,_,rfl,?_⟩⟩
   have s2:aa H _:=s1.trans (aa.upd qi (.tup [.str "part",.str "hold"]))
   generalize upd H1 b2 (.tup [.str "part",.str "hold"])=H2 at s2
   refine aj (fun _=>?_) (fun c=>absurd c (by decide+kernel))
   exact ⟨_,m,.inr (ae.of (s2 _ _ e)),rfl,(show 1<=sizeLine by decide),fun L hL=>k L _ (s2.free hL) aA (s2.trans (aa.upd hL _))⟩
  | @fb a b xs ms e e2 rm=>
   refine aI ⟨_,.str "box",.inr (ae.of e),aO _ _,?_⟩
   refine ⟨(show 2<=sizeLine by decide),fun b1 dm=>⟨_,.inr (ae.of aA),rfl,rfl,_,rfl,?_⟩⟩
   have s1:aa H _:=(aa.refl H).trans (aa.upd dm (.tup [.str "fn",.str "pick"]))
   generalize upd H b1 (.tup [.str "fn",.str "pick"])=H1 at s1
   refine aj (fun c=>absurd c (by decide+kernel)) (fun _=>aN ?_)
   refine ⟨rfl,_,rfl,?_⟩
   refine aj (fun c=>absurd c (by decide+kernel)) (fun _=>aN ?_)
   refine ⟨(show 2<=sizeLine by decide),fun b2 qi=>⟨_,.inr (ae.of aA),rfl,rfl,_,rfl,?_⟩⟩
   have s2:aa H _:=s1.trans (aa.upd qi (.tup [.str "part",.str "hold"]))
   generalize upd H1 b2 (.tup [.str "part",.str "hold"])=H2 at s2
   refine aj (fun c=>absurd c (by decide+kernel)) (fun _=>aN ?_)
   refine ⟨rfl,_,rfl,?_⟩
   refine aj (fun _=>?_) (fun c=>absurd c (by decide+kernel))
   refine ⟨_,.ref b,.inr (ae.of (s2 _ _ e)),rfl,Or.inr ⟨⟨xs,ae.of (s2 _ _ e2)⟩,fun D hD=>?_⟩⟩
   have hl:=rm.len
   have qc:=rm.few
   refine fK (dI xs) (fun i τ H3=>H3 D=some (.lst (ks.take i))/\aa H2 H3/\∃ v1,τ=[v1]) ⟨aA,aa.upd hD _,none,rfl⟩ (fun i τ H3 _ h=>ae.of (h.2.1 _ _ (s2 _ _ e2))) ?_ ?_
   ·rintro i τ H3 hi ⟨q1,q2,v1,rfl⟩
    obtain ⟨c,ys,r1,r2,r3,_⟩:=rm.at_ i hi (by omega)
    have eg:xs.getD i .af=.ref c:=by rw [Qb,Qa hi,r1];rfl
    rw [eg]
    refine ⟨_,ks[i]'(by omega),.inr (ae.of (q2 _ _ (s2 _ _ r2))),?_,_,q1,by simp;omega,?_,q2.put hD,_,rfl⟩
    ·exact cF (j:=1) (by rw [<- r3,List.getElem?_append_right (Qy _),Nat.sub_self];rfl)
    ·rw [aA,Qs,Qa (show i < ks.length by omega)];rfl
   ·rintro τ H3 ⟨q1,q2,v1,rfl⟩
    rw [List.take_of_length_le (by omega)] at q1
    exact k D H3 (s2.free hD) q1 (s2.trans q2)
  | @split a b m xs ms e e2 rm=>
   refine aI ⟨_,.str "split",.inr (ae.of e),aO _ _,?_⟩
   refine ⟨(show 2<=sizeLine by decide),fun b1 dm=>⟨_,.inr (ae.of aA),rfl,rfl,_,rfl,?_⟩⟩
   have s1:aa H _:=(aa.refl H).trans (aa.upd dm (.tup [.str "fn",.str "pick"]))
   generalize upd H b1 (.tup [.str "fn",.str "pick"])=H1 at s1
   refine aj (fun c=>absurd c (by decide+kernel)) (fun _=>aN ?_)
   refine ⟨rfl,_,rfl,?_⟩
   refine aj (fun c=>absurd c (by decide+kernel)) (fun _=>aN ?_)
   refine ⟨(show 2<=sizeLine by decide),fun b2 qi=>⟨_,.inr (ae.of aA),rfl,rfl,_,rfl,?_⟩⟩
   have s2:aa H _:=s1.trans (aa.upd qi (.tup [.str "part",.str "hold"]))
   generalize upd H1 b2 (.tup [.str "part",.str "hold"])=H2 at s2
   refine aj (fun c=>absurd c (by decide+kernel)) (fun _=>aN ?_)
   refine ⟨rfl,_,rfl,?_⟩
   refine aj (fun c=>absurd c (by decide+kernel)) (fun _=>aN ?_)
   refine ⟨rfl,_,rfl,?_⟩
   refine aj (fun _=>?_) (fun c=>absurd c (by decide+kernel))
   refine ⟨_,m,.inr (ae.of (s2 _ _ e)),rfl,(show 1<=sizeLine by decide),fun L1 Dg=>?_⟩
   have s9:aa H _:=s2.trans (aa.upd Dg (.lst [m]))
   have ur:upd H2 L1 (.lst [m]) L1=some (.lst [m]):=aA
   generalize upd H2 L1 (.lst [m])=H9 at s9 ur
   refine ⟨_,.ref b,.inr (ae.of (s9 _ _ e)),rfl,Or.inr ⟨⟨xs,ae.of (s9 _ _ e2)⟩,fun D hD=>?_⟩⟩
   have hl:=rm.len
   have qc:=rm.few
   refine fK (dI xs) (fun i τ H3=>H3 D=some (.lst (ms.take i))/\aa H9 H3/\∃ v1,τ=[v1]) ⟨aA,aa.upd hD _,none,rfl⟩ (fun i τ H3 _ h=>ae.of (h.2.1 _ _ (s9 _ _ e2))) ?_ ?_
   ·rintro i τ H3 hi ⟨q1,q2,v1,rfl⟩
    obtain ⟨c,ys,r1,r2,r3,_⟩:=rm.at_ i hi (by omega)
    have eg:xs.getD i .af=.ref c:=by rw [Qb,Qa hi,r1];rfl
    rw [eg]
    refine ⟨_,ms[i]'(by omega),.inr (ae.of (q2 _ _ (s9 _ _ r2))),?_,_,q1,by simp;omega,?_,q2.put hD,_,rfl⟩
    ·exact cF (j:=2) (by rw [<- r3,List.getElem?_append_right (Qy _),Nat.sub_self];rfl)
    ·rw [aA,Qs,Qa (show i < ms.length by omega)];rfl
   ·rintro τ H3 ⟨q1,q2,v1,rfl⟩
    rw [List.take_of_length_le (by omega)] at q1
    exact ⟨_,_,q2 _ _ ur,q1,by simp;omega,fun L hL=>k L _ (s9.free (q2.free hL)) aA ((s9.trans q2).trans (aa.upd hL _))⟩
  | @get a z e _=>
   refine aI ⟨_,.str "get",.inr (ae.of e),aO _ _,?_⟩
   refine ⟨(show 2<=sizeLine by decide),fun b1 dm=>⟨_,.inr (ae.of aA),rfl,rfl,_,rfl,?_⟩⟩
   have s1:aa H _:=(aa.refl H).trans (aa.upd dm (.tup [.str "fn",.str "pick"]))
   generalize upd H b1 (.tup [.str "fn",.str "pick"])=H1 at s1
   refine aj (fun c=>absurd c (by decide+kernel)) (fun _=>aN ?_)
   refine ⟨rfl,_,rfl,?_⟩
   refine aj (fun c=>absurd c (by decide+kernel)) (fun _=>aN ?_)
   refine ⟨(show 2<=sizeLine by decide),fun b2 qi=>⟨_,.inr (ae.of aA),rfl,rfl,_,rfl,?_⟩⟩
   have s2:aa H _:=s1.trans (aa.upd qi (.tup [.str "part",.str "hold"]))
   generalize upd H1 b2 (.tup [.str "part",.str "hold"])=H2 at s2
   refine aj (fun c=>absurd c (by decide+kernel)) (fun _=>aN ?_)
   refine ⟨rfl,_,rfl,?_⟩
   refine aj (fun c=>absurd c (by decide+kernel)) (fun _=>aN ?_)
   refine ⟨rfl,_,rfl,?_⟩
   refine aj (fun c=>absurd c (by decide+kernel)) (fun _=>cB ?_)
   exact ⟨(show 0<=sizeLine by decide),fun L hL=>k L _ (s2.free hL) aA (s2.trans (aa.upd hL _))⟩
def Hh (n:Nat):Sp:=fun vs H Q _=>∃ (v:V) (s:Nat),vs=[v]/\xx H n s v/\∀ H',aa H H'->Q (.int (s:Int)) H'
theorem Su {s:Nat} {v:V} (h:xx H n s v):1<=s:=by
 cases h with
 | mk _ _ _ e=>omega
theorem pN:∀ ss:List Nat,(ss.map fun x:Nat=>(x:Int)).sum=((ss.sum:Nat):Int)
 | []=>rfl
 | s::ss=>by rw [List.map_cons,List.sum_cons,List.sum_cons,pN ss];push_cast;rfl
theorem pJ (T:Txt K mg w):∀ n:Nat,ak P w K mg base (2+n) "_law_many" ["_law_maker"] (Hh n):=by
 intro n
 induction n with
 | zero=>
  refine T.lI.dh (k:=1) kB (fun vs H Q E h=>?_) (fun f ao A outer s H vs Q E hr h=>?_)
  ·obtain ⟨v,s,rfl,_⟩:=h
   rfl
  ·obtain ⟨v,s,rfl,h,_⟩:=h
   cases h
 | succ n ih=>
  have iJ:ak P w K mg base (2+n) "_law_many" ["_law_maker"] (Hh n):=ih
  have qU:ak P w K mg base 1 "_law_parts" ["_law_maker"] wg:=nZ T
  refine T.lI.dh (k:=2+n) kB (fun vs H Q E h=>?_) (fun f ao A outer s H vs Q E hr h=>?_)
  ·obtain ⟨v,s,rfl,_⟩:=h
   rfl
  ·obtain ⟨v,s,rfl,hm,k⟩:=h
   have hu:=bG hr
   have bg:=Qx (bG hr)
   have hsz:sizeLine=16777216:=QL
   cases hm with
   | @mk _ _ _ ks ss D7 hl hks he=>
    have EU:∀ i (h:i < ss.length),1<=ss[i]:=fun i h=>Su (hks i (by omega) h)
    have KZ:=yD D7
    refine ⟨_,(aG (aW (bS bW aF (bV (uA K rfl) (by rfl) T.RP PyProof.Rows.boot_sum (d9 (oO (own:=["_law_one"]) (idx:=[]) (N':=["_law_one"]) (dE (az fF) (["_law_maker"]:List Str) (by decide+kernel)) rfl (qW K (bB qU (hr.mono (by omega)) (aB (zv 0) aD))) (fun _ _ _ _ _ _=>(aY (i:=0) (show List.Nodup (["_law_one"]:List Str) by decide+kernel) rfl (Or.inl rfl))) (fun _ _ _ _ _ _=>eL) (fun _ _ _ _ _ _=>(bB iJ (hr.mono (by omega)) (aB (zv 0) aD)))) aD))))),?_⟩
    refine ⟨v,ks,rfl,D7,fun L H1 hL gL s1=>Or.inl ⟨⟨ks,ai.of gL⟩,fun D hD=>?_⟩⟩
    refine fK (dP ks) (fun i τ H3=>H3 D=some (.lst (((ss.take i).map fun x:Nat=>(x:Int)).map V.int))/\aa H1 H3/\∃ v1,τ=[v1]) ⟨aA,aa.upd hD _,none,rfl⟩ (fun i τ H3 _ h=>ai.of (h.2.1 _ _ gL)) ?_ ?_
    ·rintro i τ H3 hi ⟨q1,q2,v1,rfl⟩
     have gf:i < ss.length:=by omega
     have eg:ks.getD i .af=ks[i]:=by simp [Qb,hi]
     rw [eg]
     refine ⟨ks[i],ss[i],rfl,(hks i hi gf).tk (s1.trans q2).ts,fun H4 s4=>?_⟩
     refine ⟨_,s4 _ _ q1,by simp;omega,?_,(q2.trans s4).put hD,_,rfl⟩
     have et:ss.take (i+1)=ss.take i++[ss[i]]:=by rw [Qs,Qa gf];rfl
     rw [aA,et,Qm,Qm];rfl
    ·rintro τ H3 ⟨q1,q2,v1,rfl⟩
     rw [List.take_of_length_le (by omega)] at q1
     refine ⟨_,ai.of q1,?_⟩
     rw [pN]
     have:=k H3 (s1.trans q2)
     have e9:(s:Int)=1+((ss.sum:Nat):Int):=by omega
     rw [e9] at this
     exact this
def Dh (H:Hp) (Bf:Str) (x:V) (ms:List V):Prop:=(Bf="maker"/\ms=[x])\/((Bf="parts"\/Bf="cases")/\∃ b rows n,x=.ref b/\H b=some (.tup rows)/\BA H (n+1) rows ms)\/((Bf="name"\/Bf="row")/\ms=[])
inductive zf (H:Hp):List Str->List V->List (List V)->Prop
 | nil:zf H [] [] []
 | cons {w:Str} {ws:List Str} {x:V} {xs:List V} {c:List V} {cs:List (List V)}:Dh H w x c->zf H ws xs cs->zf H (w::ws) (x::xs) (c::cs)
theorem zf.len {xs:List V} {cs:List (List V)} (h:zf H ws xs cs):xs.length=ws.length/\cs.length=ws.length:=by
 induction h with
 | nil=>exact ⟨rfl,rfl⟩
 | cons _ _ ih=>simp [ih.1,ih.2]
theorem zf.at_ {xs:List V} {cs:List (List V)} (h:zf H ws xs cs):∀ i,i < ws.length->∃ w x c,ws[i]? =some w/\xs[i]? =some x/\cs[i]? =some c/\Dh H w x c:=by
 induction h with
 | nil=>intro i hi;exact absurd hi (by simp)
 | cons hc _ ih=>
  intro i hi
  cases i with
  | zero=>exact ⟨_,_,_,rfl,rfl,rfl,hc⟩
  | succ j=>exact ih j (by simpa using hi)
structure Sv (K:QZ) (H:Hp) (kvs:List (Key×V)) (v:V) (ks:List V) (t:Addr) (w:Str) (ck:List Str) (xs:List V) (cs:List (List V)):Prop where
 vl:c_ kvs (.inr w)=some (.ref t)
 at_:∃ a,v=.ref a/\H a=some (.tup (.str w::xs))
 sq:∀ H,ae K H t (ck.map V.str)
 K0:zf H ck xs cs
 fl:cs.flatten=ks
 few:ck.length<=3
abbrev K1 (t0 t1 t2 t3 t4 t5 t6 t7:Addr):List (Key×V):=[(.inr "get",.ref t0),(.inr "fn",.ref t1),(.inr "call",.ref t2),(.inr "box",.ref t3),(.inr "part",.ref t4),(.inr "pick",.ref t5),(.inr "split",.ref t6),(.inr "hold",.ref t7)]
theorem AM {x:V}:Dh H "maker" x [x]:=.inl ⟨rfl,rfl⟩
theorem E2 {x:V}:Dh H "name" x []:=.inr (.inr ⟨.inl rfl,rfl⟩)
theorem K2 {x:V}:Dh H "row" x []:=.inr (.inr ⟨.inr rfl,rfl⟩)
theorem vE (ys:List α) (y:α):je (ys++[y]) (-1)=some y:=by
 unfold je ua
 rw [if_neg (by decide),if_pos (by simp;omega)]
 have:(-1+((ys++[y]).length:Int)).toNat=ys.length:=by simp;omega
 show (ys++[y])[(-1+((ys++[y]).length:Int)).toNat]? =some y
 rw [this];simp
theorem cC (T:Txt K mg w):ak P w K mg base 1 "makers_in" ["maker"] wg:=by
 refine T.qO.dh dJ (fun vs H Q E h=>?_) (fun f ao A outer s H vs Q E hr h=>?_)
 ·obtain ⟨v,ks,rfl,_⟩:=h
  rfl
 ·obtain ⟨v,ks,rfl,hs,k⟩:=h
  have bg:=Qx (bG hr)
  have hsz:sizeLine=16777216:=QL
  refine hdn fun Gz9 zG9=>?_;obtain ⟨aP,t0,t1,t2,t3,t4,t5,t6,t7,Hi,Hj,q0,q1,q2,q3,q4,q5,q6,q7⟩:=T.pE;refine zG9 ?_
  have Ho:∃ a,mg "PLACES"=some (.ref a)/\KD w K a _:=⟨aP,Hi,Hj⟩
  refine ⟨_,(aE (aX (i:=1) dJ.nd rfl (Or.inl rfl) (cA aD))
   (aE (jZ PassesOwn.never rfl (wU true true K (by rfl) T.ER (aH (wG Ho (aU (aV K) (zv 0) aF (fun _ _=>rfl)) (fun _ _=>rfl)) (aH (eP (rH K) (zv 0) (f9 aF) fA) aD))) (dG K (n:=2) rfl (bA (aY (i:=2) dJ.nd rfl (Or.inl rfl)) (bA (aY (i:=3) dJ.nd rfl (Or.inl rfl)) cL))) (aG (bM (aL (bD bg) (zv 2) aJ (bf _)) (aG (cV (jM K QH QJ QK cE (zv 1) (aB (zv 3) aD)))) (aG (bM (aL (nW K) (zv 2) (aS (aC aJ (aC aJ aD))) rfl) (aG (cV (jM K QH PySem.F.slot_list_extend PySem.F.type_list_extend jP (zv 1) (d9 (oO (own:=["row"]) (idx:=[]) (N':=["row"]) (dE (az dU) (["maker","found","what","one"]:List Str) (by decide+kernel)) rfl (qW K (zv 3)) (fun _ _ _ _ _ _=>(aY (i:=0) (show List.Nodup (["row"]:List Str) by decide+kernel) rfl (Or.inl rfl))) (fun _ _ _ _ _ _=>eL) (fun _ _ _ _ _ _=>(aU (aV K) (zv 0) (Ga rR aF) (fun _ _=>rfl)))) aD)))) aZ)))))
   (aG (aW (zv 1))))),?_⟩
  have core:∃ t ww ck xs cs,Sv K H (K1 t0 t1 t2 t3 t4 t5 t6 t7) v ks t ww ck xs cs:=by
   cases hs with
   | @get a z e _=>exact ⟨t0,"get",["name"],[.str z],[[]],rfl,⟨a,rfl,e⟩,q0,.cons E2 .nil,rfl,by simp⟩
   | @fn a z r m e _ _=>exact ⟨t1,"fn",["name","row","maker"],[.str z,.str r,m],[[],[],[m]],rfl,⟨a,rfl,e⟩,q1,.cons E2 (.cons K2 (.cons AM .nil)),rfl,by simp⟩
   | @call a f x e=>exact ⟨t2,"call",["maker","maker"],[f,x],[[f],[x]],rfl,⟨a,rfl,e⟩,q2,.cons AM (.cons AM .nil),rfl,by simp⟩
   | @fb a b xs ms e e2 rm=>exact ⟨t3,"box",["parts"],[.ref b],[ks],rfl,⟨a,rfl,e⟩,q3,.cons (.inr (.inl ⟨.inl rfl,b,xs,0,rfl,e2,rm⟩)) .nil,by simp,by simp⟩
   | @part a m z e _=>exact ⟨t4,"part",["maker","name"],[m,.str z],[[m],[]],rfl,⟨a,rfl,e⟩,q4,.cons AM (.cons E2 .nil),rfl,by simp⟩
   | @pick a z m e _=>exact ⟨t5,"pick",["name","maker"],[.str z,m],[[],[m]],rfl,⟨a,rfl,e⟩,q5,.cons E2 (.cons AM .nil),rfl,by simp⟩
   | @split a b m xs ms e e2 rm=>exact ⟨t6,"split",["maker","cases"],[m,.ref b],[[m],ms],rfl,⟨a,rfl,e⟩,q6,.cons AM (.cons (.inr (.inl ⟨.inr rfl,b,xs,1,rfl,e2,rm⟩)) .nil),by simp,by simp⟩
   | @hold a m z e _=>exact ⟨t7,"hold",["maker","row"],[m,.str z],[[m],[]],rfl,⟨a,rfl,e⟩,q7,.cons AM (.cons K2 .nil),rfl,by simp⟩
  obtain ⟨t,ww,ck,xs,cs,mo⟩:=core
  obtain ⟨a,rfl,ea⟩:=mo.at_
  have qc:=mo.few
  obtain ⟨fg,i_⟩:=mo.K0.len
  refine aI ⟨Nat.zero_le _,fun L hL=>?_⟩
  have s0:=aa.upd hL (.lst [])
  have gL:upd H L (.lst []) L=some (.lst []):=aA
  generalize upd H L (.lst [])=H1 at s0 gL
  refine aM (fun σ' H'=>∃ v2 v3,σ'=[some (.ref a),some (.ref L),v2,v3]/\H' L=some (.lst ks)/\aa H H') ?_ ?_
  ·intro nx av
   refine ⟨_,_,.inr (ae.of (s0 _ _ ea)),aO _ _,_,_,rfl,mo.vl,?_⟩
   refine ⟨1,rfl,?_⟩
   refine Or.inr ?_
   refine Or.inr ?_
   refine ⟨a,_,rfl,ae.of (s0 _ _ ea),by simp [HT.bj],fun p hp=>?_⟩
   have AL:f_ (V.str ww::xs) (some 1) none=xs:=by simp [f_,HT.bj]
   rw [AL]
   have s1:=aa.upd hp (.tup xs)
   have gp:upd H1 p (.tup xs) p=some (.tup xs):=aA
   have ur:=s1 _ _ gL
   generalize upd H1 p (.tup xs)=H2 at s1 gp ur
   have s2:=s0.trans s1
   refine ⟨t,p,_,_,rfl,mo.sq _,ae.of gp,l6 (rJ (ck.map V.str) xs) (fun i σ' H'=>∃ v2 v3,σ'=[some (.ref a),some (.ref L),v2,v3]/\H' L=some (.lst (cs.take i).flatten)/\aa H H'/\H' p=some (.tup xs)/\(cs.take i).flatten.length<=1000*i) ⟨_,_,rfl,by simpa using ur,s2,gp,by simp⟩ (by rintro i τ H' _ ⟨_,_,_,_,s',Sw,_⟩;exact ⟨mo.sq _,ae.of Sw⟩) ?_ ?_⟩
   ·rintro i σ' H3 tt hi ⟨v2,v3,rfl,g1,s3,AN,VV⟩ ye
    have gf:i < ck.length:=by simp at hi;omega
    obtain ⟨wh,x,c,e1,e2,e3,hc⟩:=mo.K0.at_ i gf
    have ew:(ck.map V.str).getD i .af=.str wh:=by simp [Qb,e1]
    have ex:xs.getD i .af=x:=by simp [Qb,e2]
    rw [ew,ex]
    have s4:=s3.trans (aa.upd ye (.tup [.str wh,x]))
    have g4:=aa.upd ye (.tup [.str wh,x]) _ _ g1
    have AO:=aa.upd ye (.tup [.str wh,x]) _ _ AN
    generalize upd H3 tt (.tup [.str wh,x])=H4 at s4 g4 AO
    have wj:(cs.take (i+1)).flatten=(cs.take i).flatten++c:=by rw [Qs,e3];simp
    have Di:p≠L:=fun z=>by rw [z,gL] at hp;cases hp
    rcases hc with ⟨rfl,rfl⟩ | ⟨hw,b,rows,n,rfl,hb,rm⟩ | ⟨hw,rfl⟩
    ·refine ⟨rfl,_,rfl,aj (fun _=>?_) (fun c=>absurd c (by decide+kernel))⟩
     refine ⟨.inl ⟨rfl,_,ai.of g4⟩,L,_,_,rfl,rfl,g4,by omega,_,_,rfl,by rw [aA,wj],s4.put hL,by rw [aK Di];exact AO,by rw [wj,Qk,List.length_singleton];omega⟩
    ·have qy:wh≠"maker":=by rcases hw with rfl | rfl<;>decide+kernel
     have hl:=rm.len
     have VW:=rm.few
     refine ⟨rfl,_,rfl,aj (fun c=>absurd c (by simp [qy])) (fun _=>?_)⟩
     refine ⟨(show 2<=sizeLine by decide),fun b1 dm=>⟨_,.inr (ae.of aA),?_,rfl,_,rfl,?_⟩⟩
     ·rcases hw with rfl | rfl<;>rfl
     have s5:=s4.trans (aa.upd dm (.tup [.str "parts",.str "cases"]))
     have g5:=aa.upd dm (.tup [.str "parts",.str "cases"]) _ _ g4
     have Dj:=aa.upd dm (.tup [.str "parts",.str "cases"]) _ _ AO
     generalize upd H4 b1 (.tup [.str "parts",.str "cases"])=H5 at s5 g5 Dj
     refine aj (fun _=>?_) (fun c=>absurd c ?_)
     ·refine ⟨.inl ⟨rfl,_,ai.of g5⟩,Or.inr ⟨⟨rows,ae.of (s5 _ _ hb)⟩,fun D hD=>?_⟩⟩
      have VX:L≠D:=fun z=>by rw [<- z,g5] at hD;cases hD
      refine fK (dI rows) (fun i τ H3=>H3 D=some (.lst (c.take i))/\aa H5 H3/\∃ v1,τ=[v1]) ⟨aA,aa.upd hD _,none,rfl⟩ (fun i τ H3 _ h=>ae.of (h.2.1 _ _ (s5 _ _ hb))) ?_ ?_
      ·rintro j τ H6 hj ⟨r1,r2,v1,rfl⟩
       obtain ⟨cc,ys,w1,w2,w3⟩:=rm.at_ j hj (by omega)
       have eg:rows.getD j .af=.ref cc:=by rw [Qb,Qa hj,w1];rfl
       rw [eg]
       refine ⟨1,rfl,_,c[j]'(by omega),.inr (ae.of (r2 _ _ (s5 _ _ w2))),vE _ _,_,r1,by simp;omega,?_,r2.put hD,_,rfl⟩
       rw [aA,Qs,Qa (show j < c.length by omega)];rfl
      ·rintro τ H6 ⟨r1,r2,v1,rfl⟩
       rw [List.take_of_length_le (by omega)] at r1
       exact ⟨L,D,_,c,rfl,rfl,r2 _ _ g5,r1,by omega,_,_,rfl,by rw [aA,wj],(s5.trans r2).put hL,by rw [aK Di];exact r2 _ _ Dj,by rw [wj,Qk];omega⟩
     ·rcases hw with rfl | rfl<;>decide+kernel
    ·have qy:wh≠"maker":=by rcases hw with rfl | rfl<;>decide+kernel
     refine ⟨rfl,_,rfl,aj (fun c=>absurd c (by simp [qy])) (fun _=>?_)⟩
     refine ⟨(show 2<=sizeLine by decide),fun b1 dm=>⟨_,.inr (ae.of aA),?_,rfl,_,rfl,?_⟩⟩
     ·rcases hw with rfl | rfl<;>rfl
     have s5:=s4.trans (aa.upd dm (.tup [.str "parts",.str "cases"]))
     have g5:=aa.upd dm (.tup [.str "parts",.str "cases"]) _ _ g4
     have Dj:=aa.upd dm (.tup [.str "parts",.str "cases"]) _ _ AO
     generalize upd H4 b1 (.tup [.str "parts",.str "cases"])=H5 at s5 g5 Dj
     refine aj (fun c=>absurd c ?_) (fun _=>?_)
     ·rcases hw with rfl | rfl<;>decide+kernel
     ·exact ⟨_,_,rfl,by rw [g5,wj,QQ],s5,Dj,by rw [wj,QQ];omega⟩
   ·rintro σ' H3 ⟨v2,v3,rfl,g1,s3,AN,_⟩
    rw [List.take_of_length_le (by simp;omega)] at g1
    exact av _ _ ⟨v2,v3,rfl,by rw [g1,mo.fl],s3⟩
  ·rintro σ' H3 ⟨v2,v3,rfl,g1,s3⟩
   exact k L H3 hL g1 s3
def fi (H:Hp) (n s:Nat) (v:V):Prop:=∃ m,a_ H n v m/\ay m=s
theorem fi.tk {H H':Hp} {n s:Nat} {v:V} (h:fi H n s v) (t:Tk H H'):fi H' n s v:=let ⟨m,h1,h2⟩:=h;⟨m,h1.tk t,h2⟩
theorem fi.up {H:Hp} {n s k:Nat} {v:V} (h:fi H n s v) (l:n<=k):fi H k s v:=let ⟨m,h1,h2⟩:=h;⟨m,h1.up l,h2⟩
theorem fi.GA {H:Hp} {n s:Nat} {v:V} (h:fi H n s v):xx H n s v:=by
 obtain ⟨m,h1,rfl⟩:=h
 exact h1.GA
def qz (H:Hp) (v:V) (ks:List V):Prop:=∃ f:bq,fm H v f ks/\f.ok
section
variable {v r:Str} {m m':V} {s s':Nat} {x:V}
theorem qz.fn (e:H a=some (.tup [.str "fn",.str v,.str r,m])) (h:bh v) (h':bh r):qz H (.ref a) [m]:=⟨.fn v r,.fn e,h,h'⟩
theorem qz.call (e:H a=some (.tup [.str "call",m,m'])):qz H (.ref a) [m,m']:=⟨.call,.call e,trivial⟩
theorem qz.part (e:H a=some (.tup [.str "part",m,.str z])) (h:bh z):qz H (.ref a) [m]:=⟨.part z,.part e,h⟩
theorem qz.pick (e:H a=some (.tup [.str "pick",.str z,m])) (h:bh z):qz H (.ref a) [m]:=⟨.pick z,.pick e,h⟩
theorem qz.hold (e:H a=some (.tup [.str "hold",m,.str z])) (h:bh z):qz H (.ref a) [m]:=⟨.hold z,.hold e,h⟩
theorem o8 (e:H a=some (.tup [.str "get",.str z])) (hz:bh z):fi H 1 1 (.ref a):=⟨.mk (.get z) [],.mk (.get e) hz rfl (fun i h=>nomatch h),by simp [ay,be]⟩
theorem dD (h:qz H x [m]) (hm:fi H n s m):fi H (n+1) (1+s) x:=by
 obtain ⟨f,sh,ok⟩:=h
 obtain ⟨t,ht,rfl⟩:=hm
 refine ⟨.mk f [t],.mk sh ok rfl (fun i h1 h2=>?_),by simp [ay,be]⟩
 obtain rfl:i=0:=by simp at h1;omega
 exact ht
theorem rN (h:qz H x [m,m']) (hm:fi H n s m) (hm':fi H n s' m'):fi H (n+1) (1+s+s') x:=by
 obtain ⟨f,sh,ok⟩:=h
 obtain ⟨t,ht,rfl⟩:=hm
 obtain ⟨t',Sy,rfl⟩:=hm'
 refine ⟨.mk f [t,t'],.mk sh ok rfl (fun i h1 h2=>?_),by simp [ay,be];omega⟩
 rcases (show i=0\/i=1 by simp at h1;omega) with rfl | rfl
 ·exact ht
 ·exact Sy
end
def fh (H:Hp) (ls:List (List V)) (zs:List V) (dep q_:Nat):Prop:=∃ (ms:List V) (ks:List Mr),ql H ls zs ms/\ji H dep ms ks/\be ks<=q_
section
variable {ls:List (List V)} {zs:List V} {dep q_ E3 K3 s:Nat}
theorem fh.tk (h:fh H ls zs dep q_) (t:Tk H H'):fh H' ls zs dep q_:=let ⟨ms,ks,h1,h2,h3⟩:=h;⟨ms,ks,h1.tk t,h2.tk t,h3⟩
theorem fh.nil:fh H [] [] dep 0:=⟨[],[],⟨rfl,rfl,fun i h=>nomatch h⟩,⟨rfl,fun i h=>nomatch h⟩,Qy _⟩
theorem fh.snoc (h:fh H ls zs dep q_) {l:List V} {m:V} (e:H c=some (.tup (l++[m]))) (hm:fi H dep s m) (ht:q_+s<=E3):fh H (ls++[l]) (zs++[.ref c]) dep E3:=by
 obtain ⟨ms,ks,h1,h2,h3⟩:=h
 obtain ⟨t,hx,rfl⟩:=hm
 have l1:=h1.l1
 have l2:=h1.l2
 refine ⟨ms++[m],ks++[t],⟨by simp [l1],by simp [l2],fun i a b d=>?_⟩,h2.app (.one hx),by rw [cZ,be,be];omega⟩
 by_cases hi:i < zs.length
 ·simp only [Qe hi,Qe (show i < ms.length by omega),Qe (show i < ls.length by omega)]
  exact h1.at_ i hi (by omega) (by omega)
 ·obtain rfl:i=zs.length:=by simp at a;omega
  refine ⟨c,by simp,?_⟩
  have e1:(ms++[m])[zs.length]=m:=by simp [l1]
  have e2:(ls++[l])[zs.length]=l:=by
   have:zs.length=ls.length:=by omega
   simp [this]
  rw [e1,e2]
  exact e
theorem fh.BV (h:fh H ls zs dep q_) (hd:dep<=K3) (ht:q_<=E3):fh H ls zs K3 E3:=let ⟨ms,ks,h1,h2,h3⟩:=h;⟨ms,ks,h1,⟨h2.len,fun i a b=>(h2.at_ i a b).up hd⟩,by omega⟩
def BW (ws:List Str):Prop:=ws.Nodup/\(∀ z∈ws,bh z)/\ws.length<=1000
def AQ (cs:List (Str×Str)):Prop:=(cs.map (·.1)).Nodup/\(∀ c∈cs,bh c.1/\bh c.2)/\cs.length<=1000
theorem wF (e:H a=some (.tup [.str "box",.ref b])) (e':H b=some (.tup zs)) (h:fh H (jh ws) zs dep q_) (ok:BW ws):∃ s,s<=1+q_/\fi H (dep+1) s (.ref a):=by
 obtain ⟨ms,ks,h1,h2,h3⟩:=h
 exact ⟨1+be ks,by omega,.mk (.fb ws) ks,.mk (.fb e e' h1) ok h2.len h2.at_,by rw [ay]⟩
theorem lR {m:V} {s0:Nat} {cs:List (Str×Str)} (e:H a=some (.tup [.str "split",m,.ref b])) (e':H b=some (.tup zs)) (hm:fi H dep s0 m) (h:fh H (gy cs) zs dep q_) (ok:AQ cs):∃ s,s<=1+s0+q_/\fi H (dep+1) s (.ref a):=by
 obtain ⟨ms,ks,h1,h2,h3⟩:=h
 obtain ⟨t,ht,rfl⟩:=hm
 refine ⟨1+(ay t+be ks),by omega,.mk (.split cs) (t::ks),.mk (.split e e' h1) ok (by simp [h2.len]) (fun j a b=>?_),by rw [ay,be]⟩
 cases j with
 | zero=>exact ht
 | succ j=>exact h2.at_ j (by simpa using a) (by simpa using b)
theorem kQ (e:H a=some (.tup [.str "box",.ref b])) (e':H b=some (.tup [])):fi H 1 1 (.ref a):=⟨.mk (.fb []) [],.mk (.fb (ws:=[]) e e' ⟨rfl,rfl,fun i h=>nomatch h⟩) ⟨List.nodup_nil,(fun z hz=>nomatch hz),Nat.zero_le _⟩ rfl (fun i h=>nomatch h),by simp [ay,be]⟩
end
def Hq:Sp:=fun vs H Q _=>vs=[]/\∀ v H',aa H H'->fi H' 4 9 v->Q v H'
theorem iT (h:isName z=true):bh z:=by have:=iA h;unfold bh;omega
theorem mS:bh "v":=by unfold bh;decide
theorem Sz:bh "dn":=by unfold bh;decide
theorem fO (T:Txt K mg w):ak P w K mg base 1 "_law_endless" [] Hq:=by
 refine T.m7.dh fS (fun vs H Q E h=>?_) (fun f ao A outer s H vs Q E hr h=>?_)
 ·obtain ⟨rfl,_⟩:=h
  rfl
 ·obtain ⟨rfl,k⟩:=h
  refine ⟨_,(aE (aX (i:=0) fS.nd rfl (Or.inl rfl) (aS (aC aJ (aC aJ (aC aJ (aT (aS (aC aJ (aT (aS (aC aJ (aC aJ aD))) (aT (aS (aC aJ (aC aJ aD))) aD)))) aD))))))
   (aG (aW (aS (aC aJ (aB (zv 0) (aB (zv 0) aD))))))),?_⟩
  refine aI ⟨(show 2<=sizeLine by decide),fun a1 h1=>⟨(show 2<=sizeLine by decide),fun a2 h2=>⟨(show 3<=sizeLine by decide),fun a3 h3=>⟨(show 4<=sizeLine by decide),fun a4 h4=>?_⟩⟩⟩⟩
  have s1:=aa.upd h1 (.tup [.str "get",.str "v"])
  have g1:upd H a1 (.tup [.str "get",.str "v"]) a1=some (.tup [.str "get",.str "v"]):=aA
  generalize upd H a1 (.tup [.str "get",.str "v"])=H1 at*
  have s2:=aa.upd h2 (.tup [.str "get",.str "v"])
  have g2:upd H1 a2 (.tup [.str "get",.str "v"]) a2=some (.tup [.str "get",.str "v"]):=aA
  generalize upd H1 a2 (.tup [.str "get",.str "v"])=H2 at*
  have s3:=aa.upd h3 (.tup [.str "call",.ref a1,.ref a2])
  have g3:upd H2 a3 (.tup [.str "call",.ref a1,.ref a2]) a3=some (.tup [.str "call",.ref a1,.ref a2]):=aA
  generalize upd H2 a3 (.tup [.str "call",.ref a1,.ref a2])=H3 at*
  have s4:=aa.upd h4 (.tup [.str "fn",.str "v",.str "dn",.ref a3])
  have g4:upd H3 a4 (.tup [.str "fn",.str "v",.str "dn",.ref a3]) a4=some (.tup [.str "fn",.str "v",.str "dn",.ref a3]):=aA
  generalize upd H3 a4 (.tup [.str "fn",.str "v",.str "dn",.ref a3])=H4 at*
  refine ⟨(show 3<=sizeLine by decide),fun a5 h5=>?_⟩
  have s5:=aa.upd h5 (.tup [.str "call",.ref a4,.ref a4])
  have g5:upd H4 a5 (.tup [.str "call",.ref a4,.ref a4]) a5=some (.tup [.str "call",.ref a4,.ref a4]):=aA
  generalize upd H4 a5 (.tup [.str "call",.ref a4,.ref a4])=H5 at*
  have m1:=o8 (s5 _ _ (s4 _ _ (s3 _ _ (s2 _ _ g1)))) mS
  have m2:=o8 (s5 _ _ (s4 _ _ (s3 _ _ g2))) mS
  have m3:=rN (.call (s5 _ _ (s4 _ _ g3))) m1 m2
  have m4:=dD (.fn (s5 _ _ g4) mS Sz) m3
  exact k _ H5 ((((s1.trans s2).trans s3).trans s4).trans s5) (rN (.call g5) m4 m4)
def BN:List Str:=["v","va","u","x"]
def E4 (K:QZ):Sp:=fun vs H Q _=>∃ (H0:Hp) (p:Addr) (t:Nat),vs=[.ref p]/\bu K H0 H p t/\t < 900000/\∀ (z:Str) (H':Hp),z∈BN->bu K H0 H' p (t+1)->Sm p p H H'->Q (.str z) H'
theorem cU (T:Txt K mg w):ak P w K mg base 3 "_law_name_bound" ["_law_pen"] (E4 K):=by
 have aR:ak P w K mg base 2 "_law_next" ["_law_pen","_law_many"] (uo K):=bK T
 refine T.j6.dh iS (fun vs H Q E h=>?_) (fun f ao A outer s H vs Q E hr h=>?_)
 ·obtain ⟨H0,p,t,rfl,_⟩:=h
  rfl
 ·obtain ⟨H0,p,t,rfl,hn,ht,k⟩:=h
  refine ⟨_,(aG (aW (aU (aV K) (cA (aC aJ (aC aJ (aC aJ (aC aJ aD))))) (bB aR (hr.mono (by decide)) (aB (zv 0) (aC aF aD))) (fun _ _=>rfl)))),?_⟩
  refine ⟨(show 4<=sizeLine by decide),fun L hL=>?_⟩
  have s1:=aa.upd hL (.lst (BN.map V.str))
  have gL:upd H L (.lst (BN.map V.str)) L=some (.lst (BN.map V.str)):=aA
  have Di:L≠p:=hn.ne hL
  have hn1:=hn.same s1
  refine ⟨H0,p,4,t,rfl,hn1,⟨by decide,by decide⟩,ht,fun r H2 r0 r1 hn2 g_=>?_⟩
  obtain ⟨c,jn,ie⟩:=iL (BN.map V.str) r r0 r1
  obtain ⟨z,hz,rfl⟩:=List.mem_map.mp (QC jn)
  exact ⟨_,_,.inl (ai.of (g_ _ _ gL Di Di)),ie,k z H2 hz hn2 (s1.sm.trans g_)⟩
theorem tY {Hr:List Str} {h:Hd} (ok:h.ok ns):h.ok (ns++Hr):=by
 cases h with
 | one s=>exact ok
 | as y=>exact ⟨ok.1,List.mem_append_left _ ok.2⟩
 | way x y=>exact ⟨ok.1,ok.2.1,List.mem_append_left _ ok.2.2.1,List.mem_append_left _ ok.2.2.2⟩
 | prs s ps=>exact ⟨ok.1,fun p hp=>⟨(ok.2.1 p hp).1,(ok.2.1 p hp).2.1,List.mem_append_left _ (ok.2.1 p hp).2.2⟩,ok.2.2⟩
theorem y2 {Hr:List Str} {n:Str} {o:Option Str} (h:Ar ns n o):Ar (ns++Hr) n o:=fun y e=>by
 obtain ⟨i,j,h1,h2,h3⟩:=h y e
 have hi:i < ns.length:=(List.getElem?_eq_some_iff.mp h2).1
 have hj:j < ns.length:=(List.getElem?_eq_some_iff.mp h3).1
 exact ⟨i,j,h1,by rw [Qg hi];exact h2,by rw [Qg hj];exact h3⟩
def K4 (K:QZ):Sp:=fun vs H Q _=>∃ (H0:Hp) (p:Addr) (most:Int) (t:Nat),vs=[.ref p,.int most]/\bu K H0 H p t/\t+600 < 900000/\(1<=most/\most<=8)/\
 ∀ (a:Addr) (xs:List V) (rows:List cj) (ns:List Str) (H':Hp),RT H' a xs rows ns WW->(∀ n∈ns,n∈N8++(["nn","dn"]:List Str))->bu K H0 H' p (t+600)->Sm p p H H'->Q (.ref a) H'
theorem fM (T:Txt K mg w):ak P w K mg base 6 "_law_maker_telling" ["_law_pen","_law_most"] (K4 K):=by
 have mB:ak P w K mg base 5 "_law_telling" ["_law_pen","_law_most"] (KR K):=lX T
 refine T.hU.dh g9 (fun vs H Q E h=>?_) (fun f ao A outer s H vs Q E hr h=>?_)
 ·obtain ⟨H0,p,most,t,rfl,_⟩:=h
  rfl
 ·refine hdn fun Gz9 zG9=>?_;obtain ⟨H0,p,most,t,rfl,hn,ht,hm,k⟩:=h;refine zG9 ?_
  have hsz:sizeLine=16777216:=QL
  refine ⟨_,(aG (aW (bS (wB K) (bB mB (hr.mono (by decide)) (aB (zv 0) (aB (zv 1) aD))) (aS (aT (aS (aC aJ (aT (aS (aC aJ aD)) aD))) (aT (aS (aC aJ (aT (aS (aC aJ (aC aJ (aC aJ aD)))) aD))) aD)))))),?_⟩
  refine ⟨H0,p,most,t,rfl,hn,ht,hm,fun a xs rows ns H1 rt K5 h8 hn1 ko=>?_⟩
  have xr:=rt.rl
  have vn:=rt.rv.len
  have pos:=rt.pos
  refine ⟨(show 1<=sizeLine by decide),fun b1 h1=>⟨(show 2<=sizeLine by decide),fun c1 h2=>⟨(show 3<=sizeLine by decide),fun b2 h3=>⟨(show 2<=sizeLine by decide),fun c2 h4=>⟨(show 2<=sizeLine by decide),fun q h5=>?_⟩⟩⟩⟩⟩
  have s1:=aa.upd h1 (.tup [.str "none"])
  have g1:upd H1 b1 (.tup [.str "none"]) b1=some (.tup [.str "none"]):=aA
  generalize upd H1 b1 (.tup [.str "none"])=H2 at*
  have s2:=aa.upd h2 (.tup [.str "nn",.ref b1])
  have g2:upd H2 c1 (.tup [.str "nn",.ref b1]) c1=some (.tup [.str "nn",.ref b1]):=aA
  generalize upd H2 c1 (.tup [.str "nn",.ref b1])=H3 at*
  have s3:=aa.upd h3 (.tup [.str "way",.str "dn",.str "nn"])
  have g3:upd H3 b2 (.tup [.str "way",.str "dn",.str "nn"]) b2=some (.tup [.str "way",.str "dn",.str "nn"]):=aA
  generalize upd H3 b2 (.tup [.str "way",.str "dn",.str "nn"])=H4 at*
  have s4:=aa.upd h4 (.tup [.str "dn",.ref b2])
  have g4:upd H4 c2 (.tup [.str "dn",.ref b2]) c2=some (.tup [.str "dn",.ref b2]):=aA
  generalize upd H4 c2 (.tup [.str "dn",.ref b2])=H5 at*
  have s5:=aa.upd h5 (.tup [.ref c1,.ref c2])
  have g5:upd H5 q (.tup [.ref c1,.ref c2]) q=some (.tup [.ref c1,.ref c2]):=aA
  generalize upd H5 q (.tup [.ref c1,.ref c2])=H6 at*
  have sA:aa H1 H6:=(((s1.trans s2).trans s3).trans s4).trans s5
  refine ⟨a,q,xs,[.ref c1,.ref c2],rfl,rfl,ae.of (sA _ _ rt.at_),ae.of g5,fun z=>by rw [z] at vn;simp at vn;omega,by simp;omega,fun z=>by simp at z,fun _ d hd=>?_⟩
  have sd:=aa.upd hd (.tup (xs++[.ref c1,.ref c2]))
  have gd:upd H6 d (.tup (xs++[.ref c1,.ref c2])) d=some (.tup (xs++[.ref c1,.ref c2])):=aA
  generalize upd H6 d (.tup (xs++[.ref c1,.ref c2]))=H7 at*
  have sB:=sA.trans sd
  have r1:RV H7 (xs++[.ref c1]) (rows++([("nn",.one "none")]:List cj)):=(rt.rv.tk sB.ts).snoc (sd _ _ (s5 _ _ (s4 _ _ (s3 _ _ g2)))) (.one (sd _ _ (s5 _ _ (s4 _ _ (s3 _ _ (s2 _ _ g1))))))
  have r2:RV H7 (xs++[.ref c1]++[.ref c2]) (rows++([("nn",.one "none")]:List cj)++([("dn",.way "dn" "nn")]:List cj)):=r1.snoc (sd _ _ (s5 _ _ g4)) (.way (sd _ _ (s5 _ _ (s4 _ _ g3))))
  have SD:∀ z∈(["nn","dn"]:List Str),z ∉ ns:=fun z hz BX=>by
   have:=h8 z BX
   simp only [Qp,QA,or_false] at hz
   rcases hz with rfl | rfl<;>exact absurd this (by decide)
  have SJ:ns.length<=8:=by omega
  refine k d _ (rows++([("nn",.one "none")]:List cj)++([("dn",.way "dn" "nn")]:List cj)) (ns++(["nn","dn"]:List Str)) H7 ⟨?_,r2,?_,?_,?_,?_,?_,?_,by simp,by simp;omega⟩ (fun n hn'=>?_) (hn1.same sB) (ko.trans sB.sm)
  ·rw [gd];simp
  ·simp only [Qm,List.map_cons,List.map_nil,List.append_assoc]
   exact rt.nm.append_right _
  ·refine List.nodup_append.mpr ⟨rt.nd,by decide,fun x hx y hy e=>SD y hy (e▸hx)⟩
  ·intro r hr
   rcases List.mem_append.mp hr with hr | hr
   ·rcases List.mem_append.mp hr with hr | hr
    ·exact ⟨(rt.ok r hr).1,tY (rt.ok r hr).2⟩
    ·rw [List.mem_singleton.mp hr];exact ⟨by decide+kernel,.inr rfl⟩
   ·rw [List.mem_singleton.mp hr];exact ⟨by decide+kernel,by decide+kernel,by decide+kernel,by simp,by simp⟩
  ·intro n hn'
   rcases List.mem_append.mp hn' with h | h
   ·exact rt.wd n h
   ·simp only [Qp,QA,or_false] at h
    rcases h with rfl | rfl<;>exact dL (by decide) (by decide)
  ·intro r hr
   rcases List.mem_append.mp hr with hr | hr
   ·rcases List.mem_append.mp hr with hr | hr
    ·exact y2 (rt.ah r hr)
    ·rw [List.mem_singleton.mp hr];exact fun _ h=>nomatch h
   ·rw [List.mem_singleton.mp hr];exact fun _ h=>nomatch h
  ·intro r hr z hz
   rcases List.mem_append.mp hr with hr | hr
   ·rcases List.mem_append.mp hr with hr | hr
    ·exact rt.ww r hr z hz
    ·rw [List.mem_singleton.mp hr] at hz;exact nomatch hz
   ·rw [List.mem_singleton.mp hr] at hz;exact nomatch hz
  ·rcases List.mem_append.mp hn' with h | h
   ·exact List.mem_append_left _ (h8 n h)
   ·exact List.mem_append_right _ h
def NN:Nat->Nat
 | 0=>10
 | d+1=>12*NN d+40
theorem gF (h:z∈BN):bh z:=by
 simp only [BN,Qp,List.not_mem_nil,or_false] at h
 unfold bh
 rcases h with rfl | rfl | rfl | rfl<;>decide
theorem sZ:bh "a":=by unfold bh;decide
theorem SK:bh "b":=by unfold bh;decide
theorem SM:bh "ba":=by unfold bh;decide
theorem SN:bh "z":=by unfold bh;decide
theorem oB:bh "zz":=by unfold bh;decide
def BY (kvs:List (Key×V)):Prop:=∀ e∈kvs,∃ z y:Str,e=(.inr z,.str y)/\bh z
def Ht (K:QZ) (lim:Nat->Prop) (dep cost SQ:Nat->Nat):Sp:=fun vs H Q _=>∃ (H0:Hp) (p a kn:Addr) (t:Nat) (xs:List V) (rows:List cj) (ns:List Str) (kvs:List (Key×V)) (x:Str) (d:Nat),
 vs=[.ref p,.ref a,.str x,.ref kn,.int (d:Int)]/\bu K H0 H p t/\t+cost d < 900000/\RT H a xs rows ns WW/\x∈ns/\H kn=some (.dK kvs)/\BY kvs/\kvs.length+d<=8/\lim d/\
 ∀ (v:V) (s:Nat) (H':Hp),fi H' (dep d) s v->s<=SQ d->bu K H0 H' p (t+cost d)->Sm p p H H'->Q v H'
abbrev AR (K:QZ) (n:Nat):Sp:=Ht K (fun d=>d < n) (fun d=>4+3*d) NN NN
abbrev K6 (K:QZ) (n:Nat):Sp:=Ht K (fun d=>0 < d/\d < n) (fun d=>4+3*d) NN NN
abbrev Dk (K:QZ) (n:Nat):Sp:=Ht K (fun d=>d < n) (fun d=>6+3*d) (fun d=>NN d+1) (fun d=>NN d+3)
structure MW (K:QZ) (H0 Hs H:Hp) (p a kn:Addr) (t:Nat) (xs:List V) (rows:List cj) (ns:List Str) (kvs:List (Key×V)):Prop where
 hn:bu K H0 H p t
 rt:RT H a xs rows ns WW
 kn:H kn=some (.dK kvs)
 sm:Sm p p Hs H
 s0:Sm p p H0 Hs
section
variable {Hs:Hp} {kn D:Addr} {t:Nat} {xs:List V} {rows:List cj} {kvs:List (Key×V)}
theorem MW.nk (h:MW K H0 Hs H p a kn t xs rows ns kvs):kn≠p:=fun q=>by
 obtain ⟨_,_,_,_,z,_⟩:=h.hn.ex
 have:=h.kn
 rw [q,z] at this;cases this
theorem MW.same (h:MW K H0 Hs H p a kn t xs rows ns kvs) (s:aa H H'):MW K H0 Hs H' p a kn t xs rows ns kvs:=⟨h.hn.same s,h.rt.tk s.ts,s _ _ h.kn,h.sm.trans s.sm,h.s0⟩
theorem MW.draw (h:MW K H0 Hs H p a kn t xs rows ns kvs) (hn':bu K H0 H' p t') (s:Sm p p H H'):MW K H0 Hs H' p a kn t' xs rows ns kvs:=⟨hn',h.rt.tk (h.hn.ts s),s _ _ h.kn h.nk h.nk,h.sm.trans s,h.s0⟩
theorem MW.mono (h:MW K H0 Hs H p a kn t xs rows ns kvs) (l:t<=t'):MW K H0 Hs H p a kn t' xs rows ns kvs:=⟨h.hn.mono l,h.rt,h.kn,h.sm,h.s0⟩
theorem MW.free (h:MW K H0 Hs H p a kn t xs rows ns kvs) (e:H D=none):Hs D=none:=h.sm.free e (h.hn.ne e) (h.hn.ne e)
theorem MW.E5 (h:MW K H0 Hs H p a kn t xs rows ns kvs) {kv:List (Key×V)} (e:H D=some (.dK kv)):D≠p:=fun q=>by
 obtain ⟨_,_,_,_,z,_⟩:=h.hn.ex
 rw [q,z] at e;cases e
theorem nX {kv uu:List (Key×V)} (e:H D=some (.dK kv)):Tk H (upd H D (.dK uu)):=(Tk.refl).set e (by intro _ z;cases z)
theorem MW.dput (h:MW K H0 Hs H p a kn t xs rows ns kvs) {kv uu:List (Key×V)} (e:H D=some (.dK kv)) (f:Hs D=none) (nk:kn≠D):MW K H0 Hs (upd H D (.dK uu)) p a kn t xs rows ns kvs:=
 have np:=h.E5 e
 ⟨h.hn.put np (h.s0.free f np np),h.rt.tk (nX e),by rw [aK nk];exact h.kn,h.sm.upd f,h.s0⟩
theorem MW.Dl (h:MW K H0 Hs H p a kn t xs rows ns kvs) {kv uu:List V} (e:H D=some (.lst kv)) (f:Hs D=none) (np:D≠p):MW K H0 Hs (upd H D (.lst uu)) p a kn t xs rows ns kvs:=
 ⟨h.hn.put np (h.s0.free f np np),h.rt.tk ((Tk.refl).set e (by intro _ z;cases z)),by rw [aK (fun q=>by have:=h.kn;rw [q,e] at this;cases this)];exact h.kn,h.sm.upd f,h.s0⟩
theorem BY.put (h:BY kvs) (y:Str) (hz:bh z):BY (putK kvs (.inr z) (.str y)):=fun e he=>by
 unfold putK at he
 split at he
 ·obtain ⟨e',h1,rfl⟩:=List.mem_map.mp he
  split
  ·obtain ⟨z',y',rfl,CO⟩:=h e' h1
   exact ⟨z',y,rfl,CO⟩
  ·exact h e' h1
 ·rcases List.mem_append.mp he with h1 | h1
  ·exact h e h1
  ·exact ⟨z,y,List.mem_singleton.mp h1,hz⟩
theorem lY (z y:Str):(putK kvs (.inr z) (.str y)).length<=kvs.length+1:=by
 unfold putK
 split<;>simp
theorem BY.keys (h:BY kvs):∃ ks:List Str,kvs.map (·.1)=ks.map Sum.inr/\ks.length=kvs.length/\∀ z∈ks,bh z/\∃ y,c_ kvs (.inr z)=some (.str y):=by
 induction kvs with
 | nil=>exact ⟨[],rfl,rfl,fun z hz=>nomatch hz⟩
 | cons e r ih=>
  obtain ⟨ks,h1,h2,h3⟩:=ih fun e' he=>h e' (Qh _ he)
  obtain ⟨z,y,rfl,SR⟩:=h e (List.mem_cons_self ..)
  refine ⟨z::ks,by simp [h1],by simp [h2],fun z' hz=>?_⟩
  by_cases ez:z=z'
  ·subst ez
   exact ⟨SR,y,bY rfl⟩
  ·rw [bX (by simpa using ez)]
   rcases Qp.mp hz with rfl | hz
   ·exact absurd rfl ez
   ·exact h3 z' hz
end
def Hd.s0:Hd->Str
 | .one s=>s
 | .as _=>"as"
 | .way _ _=>"way"
 | .prs s _=>s
theorem pV {v:V} {h:Hd} (q:HV H v h):∃ b ys,v=.ref b/\H b=some (.tup (.str (Hd.s0 h)::ys)):=by
 cases q with
 | one e=>exact ⟨_,_,rfl,e⟩
 | as e=>exact ⟨_,_,rfl,e⟩
 | way e=>exact ⟨_,_,rfl,e⟩
 | prs e _ _=>exact ⟨_,_,rfl,e⟩
theorem SV {v:V} {h:Hd} (q:HV H v h) (ok:h.ok ns):∃ a xs ds,v=.ref a/\H a=some (.tup xs)/\xs.length=ds.length/\(∀ i (h:i < xs.length) (h':i < ds.length),DD H xs[i] ds[i])/\((Dt.tup ds).xw "pick"=false->h≠.prs "pick" []):=by
 have t:=(q.tx ok).dd
 have key:∀ d,DD H v d->d=h.dt->∃ a xs ds,v=.ref a/\H a=some (.tup xs)/\xs.length=ds.length/\(∀ i (h:i < xs.length) (h':i < ds.length),DD H xs[i] ds[i])/\((Dt.tup ds).xw "pick"=false->h≠.prs "pick" []):=by
  intro d hd e
  cases hd with
  | tup e1 e2 _ e3=>exact ⟨_,_,_,rfl,e1,e2,e3,fun hf hh=>by subst hh;rw [e] at hf;exact absurd hf (by decide+kernel)⟩
  | str _=>cases h<;>cases e
  | _=>cases h<;>cases e
 exact key _ t rfl
theorem j9:∀ d,10<=NN d
 | 0=>Qy _
 | d+1=>by have:=j9 d;simp only [NN];omega
theorem SX {xs:List V} {rows:List cj} (rt:RT H a xs rows ns ws) (hy:y∈ns):∀ z∈(uf rows y).Bw,z∈ws:=by
 obtain ⟨r,hr,rfl⟩:=List.mem_map.mp (rt.nm.mem_iff.mpr hy)
 rw [eE rt.As hr]
 exact rt.ww r hr
theorem w4 {s:Str} {ps:List (Str×Str)} (h:(Hd.prs s ps).ok ns):BW (ps.map (·.1)):=⟨o6 h.2.2.1,fun z hz=>by
 obtain ⟨q,hq,rfl⟩:=List.mem_map.mp hz
 exact iT (h.2.1 q hq).1,by have:=h.2.2.2;simp;omega⟩
theorem BW.snoc (h:BW ws) (hz:bh z) (hn:z ∉ ws) (hl:ws.length < 1000):BW (ws++[z]):=⟨List.nodup_append.mpr ⟨h.1,by simp,fun a ha b hb e=>hn (by rw [List.mem_singleton.mp hb] at e;exact e▸ha)⟩,fun y hy=>(List.mem_append.mp hy).elim (h.2.1 y) (fun e=>List.mem_singleton.mp e▸hz),by simp;omega⟩
theorem lJ {tc:TT} {t u:TS} (M:Bool->Hp->Prop) (h1:∀ Q:Bool->Hp->Prop,(∀ c H',M c H'->Q c H')->tc σ H Q) (h2:∀ H',M true H'->t D σ H') (h3:∀ H',M false H'->u D σ H'):Fy tc t u D σ H:=h1 _ fun c H' m=>aj (fun e=>h2 H' (e▸m)) (fun e=>h3 H' (e▸m))
set_option maxHeartbeats 2000000 in
theorem oU (T:Txt K mg w) (n:Nat) (c9:ak P w K mg base (6+3*n) "_law_for" ["_law_pen","_law_told","_law_name","_law_known","_law_deep"] (AR K n))
  (cM:ak P w K mg base (8+3*n) "_law_wrapped" ["_law_pen","_law_told","_law_name","_law_known","_law_deep"] (Dk K n)):ak P w K mg base (8+3*n+1) "_law_for" ["_law_pen","_law_told","_law_name","_law_known","_law_deep"] (AR K (n+1)):=by
 have aR:ak P w K mg base 2 "_law_next" ["_law_pen","_law_many"] (uo K):=bK T
 have bL:ak P w K mg base 1 "_law_row_here" ["_law_told","_law_name"] Df:=cN T
 have kL:ak P w K mg base 2 "_law_head_here" ["_law_told","_law_name"] KW:=j3 T
 have eI:ak P w K mg base 3 "_law_any" ["_law_pen","_law_told"] (E1 K):=iB T
 have dY:ak P w K mg base 1 "_law_endless" [] Hq:=fO T
 have bZ:ak P w K mg base 3 "_law_name_bound" ["_law_pen"] (E4 K):=cU T
 refine T.nG.dh (k:=8+3*n) bR (fun vs H Q E h=>?_) (fun f ao A outer s H vs Q E hr h=>?_)
 ·refine hdn fun Gz9 zG9=>?_;obtain ⟨H0,p,a,kn,t,xs,rows,ns,kvs,x,d,rfl,_⟩:=h;refine zG9 ?_
  rfl
 ·refine hdn fun Gz9 zG9=>?_;obtain ⟨H0,p,a,kn,t,xs,rows,ns,kvs,x,d,rfl,hn,ht,rt,hx,hk,kk,gj,hd,k⟩:=h;refine zG9 ?_
  have hu:=bG hr
  have bg:=Qx (bG hr)
  have Hu:=tD hr
  have hsz:sizeLine=16777216:=QL
  obtain ⟨rs,g,nm,rl,kh⟩:=rt.good fun z hz=>(pU z hz).2
  have hm:∀ z,z∈ns↔z∈rs.map (·.1):=fun z=>by rw [nm];exact rt.nm.mem_iff.symm
  obtain ⟨e1,e2,e3⟩:=rt.Ej (fun z hz=>(pU z hz).2) hx
  have few:=rt.few
  have W:MW K H0 H H p a kn t xs rows ns kvs:=⟨hn,rt,hk,Sm.refl,hn.sm⟩
  refine ⟨_,(aE (aX (i:=5) bR.nd rfl (Or.inl rfl) (bB kL (hr.mono (by omega)) (aB (zv 1) (aB (zv 2) aD))))
   (aE (aX (i:=6) bR.nd rfl (Or.inr rfl) (bB bL (hr.mono (by omega)) (aB (zv 1) (aB (zv 2) aD))))
   (aE (vF (i:=7) (own:=["_law_bound"]) (idx:=[3,6]) (N':=["_law_bound","_law_known","_law_row"]) (dE (az eG) (["_law_pen","_law_told","_law_name","_law_known","_law_deep","_law_here","_law_row","_law_some","_law_inner","_law_bound","_law_made","_law_word","_law_other","_law_parts_here"]:List Str) (by decide+kernel)) rfl (qW K (bV (oJ rfl) (by rfl) T.vX PyProof.Rows.boot_sorted (aB (zv 3) aD))) (fun _ _ _ _ _ _=>(aY (i:=0) (show List.Nodup (["_law_bound","_law_known","_law_row"]:List Str) by decide+kernel) rfl (Or.inl rfl))) (fun _ _ _ _ _ _=>(xF (aL (bD bg) (j5 hu (zv 1) (zv 0) (fun _ _=>rfl)) (zv 2) (bf _)))) (fun _ _ _ _ _ _=>(zv 0)) bR.nd rfl rfl)
   (aE (bM (kD (aL (nY bg) (zv 7) (cA aD) (bf _)) (fQ (aL jF (bB aR (hr.mono (by omega)) (aB (zv 0) (aC aF aD))) aF (bf _)))).pt (aG (aW (aS (aC aJ (aH (aU (aV K) (zv 7) (bB aR (hr.mono (by omega)) (aB (zv 0) (bF (bV (bN K) (by rfl) T.nv PySem.boot_len (aB (zv 7) aD)) aD))) (fun _ _=>rfl)) aD))))) aZ)
   (aE (bM (Gb (aL (bD bg) (zv 4) aF (bf _)) (Gb (aL (bD bg) (aU (aV K) (zv 5) aF (fun _ _=>rfl)) aJ (bf _)) (zJ (aL (P_ K Hu) (zv 5) (aS (aC aJ (aT (aS aD) aD))) (bf _))))).pt (aG (aW (zH dY (hr.mono (by omega))))) aZ)
   (aE (bM (aL (bD bg) (aU (aV K) (zv 5) aF (fun _ _=>rfl)) aJ (bf _)) (aG (aW (bB c9 (hr.mono (by omega)) (aB (zv 0) (aB (zv 1) (bF (bB eI (hr.mono (by omega)) (aB (zv 0) (aB (zv 1) aD))) (aB (zv 3) (cD (bS dS (zv 4) aF) aD)))))))) aZ)
   (aE (bM (aL (bD bg) (aU (aV K) (zv 5) aF (fun _ _=>rfl)) aJ (bf _)) (aE (aX (i:=8) bR.nd rfl (Or.inl rfl) (bU (iI rfl) (by rfl) T.j8 QX (aB (zv 3) aD)))
   (aE (aX (i:=9) bR.nd rfl (Or.inl rfl) (bB bZ (hr.mono (by omega)) (aB (zv 0) aD)))
   (aE (rM hu (zv 8) (zv 9) (bB bL (hr.mono (by omega)) (aB (zv 1) (aH (aU (aV K) (zv 5) aF (fun _ _=>rfl)) aD))) rfl)
   (aE (aX (i:=10) bR.nd rfl (Or.inl rfl) (bB cM (hr.mono (by omega)) (aB (zv 0) (aB (zv 1) (aH (aU (aV K) (zv 5) aF (fun _ _=>rfl)) (aB (zv 8) (cD (bS dS (zv 4) aF) aD)))))))
   (aG (aW (aS (aC aJ (aB (zv 9) (aH (aU (aV K) (zv 5) aF (fun _ _=>rfl)) (aB (zv 10) aD))))))))))) aZ)
   (aE (bM (aL (bD bg) (aU (aV K) (zv 5) aF (fun _ _=>rfl)) aJ (bf _)) (aE (hZ (aU (aV K) (aU (aV K) (zv 5) aF (fun _ _=>rfl)) (bB aR (hr.mono (by omega)) (aB (zv 0) (bF (bV (bN K) (by rfl) T.nv PySem.boot_len (aH (aU (aV K) (zv 5) aF (fun _ _=>rfl)) aD)) aD))) (fun _ _=>rfl)) (dG K (n:=2) rfl (bA (aY (i:=11) bR.nd rfl (Or.inl rfl)) (bA (aY (i:=12) bR.nd rfl (Or.inl rfl)) cL))))
   (aG (aW (aS (aC aJ (aB (zv 11) (bF (bB cM (hr.mono (by omega)) (aB (zv 0) (aB (zv 1) (aB (zv 12) (aB (zv 3) (cD (bS dS (zv 4) aF) aD)))))) aD))))))) aZ)
   (aE (vF (i:=13) (own:=["_law_word","_law_other"]) (idx:=[0,1,3,4]) (N':=["_law_word","_law_other","_law_pen","_law_told","_law_known","_law_deep"]) (dE (az eG) (["_law_pen","_law_told","_law_name","_law_known","_law_deep","_law_here","_law_row","_law_some","_law_inner","_law_bound","_law_made","_law_word","_law_other","_law_parts_here"]:List Str) (by decide+kernel)) rfl (qW K (aU (aV K) (zv 5) aF (fun _ _=>rfl))) (fun _ _ _ _ _ _=>(dG K (n:=2) rfl (bA (aY (i:=0) (show List.Nodup (["_law_word","_law_other","_law_pen","_law_told","_law_known","_law_deep"]:List Str) by decide+kernel) rfl (Or.inl rfl)) (bA (aY (i:=1) (show List.Nodup (["_law_word","_law_other","_law_pen","_law_told","_law_known","_law_deep"]:List Str) by decide+kernel) rfl (Or.inl rfl)) cL)))) (fun _ _ _ _ _ _=>eL) (fun _ _ _ _ _ _=>(aS (aB (zv 0) (bF (bB cM (hr.mono (by omega)) (aB (zv 2) (aB (zv 3) (aB (zv 1) (aB (zv 4) (cD (bS dS (zv 5) aF) aD)))))) aD)))) bR.nd rfl rfl)
   (aE (bM (aL (bD bg) (bB aR (hr.mono (by omega)) (aB (zv 0) (aC aF aD))) aF (bf _)) (aG (cV (jM K QH QJ QK cE (zv 13) (aT (aS (aC aJ (aT (aS (aC aJ (aT (aS aD) aD))) aD))) aD)))) aZ)
   (aG (aW (aS (aC aJ (bF (bU (cX K) (by rfl) T.fE QG (aB (zv 13) aD)) aD))))))))))))))),?_⟩
  refine aI ⟨a,xs,rs,_,_,x,rfl,g,(hm x).mp hx,fun v H1 s1 hv=>?_⟩
  have K7:HV H v (uf rows (endOf rows x)):=kh _ v e1 (by rw [rl] at hv;exact hv)
  have hq:=K7.tk s1.ts
  have K8:=SX rt e1
  generalize uf rows (endOf rows x)=h at e2 e3 hq K8
  clear K7 kh hv
  refine aI ⟨a,xs,rs,_,_,x,rfl,g.ts s1.ts,(hm x).mp hx,fun H2 s2=>?_⟩
  generalize eu (gi rows) rs.length x=rw
  have W2:=(W.same s1).same s2
  have hq2:=hq.tk s2.ts
  have g2:=(g.ts s1.ts).ts s2.ts
  clear hq W
  obtain ⟨ks,k1,k2,k3⟩:=kk.keys
  refine aM (fun σ' H'=>∃ (S:Addr) (ss:List Str),σ'=[some (.ref p),some (.ref a),some (.str x),some (.ref kn),some (.int (d:Int)),some v,some (.str rw),some (.ref S),none,none,none,none,none,none]/\H' S=some (.lst (ss.map V.str))/\ss.length<=8/\(∀ z∈ss,bh z)/\aa H2 H') ?_ ?_
  ·intro nx av
   refine ⟨kn,kvs,ks,rfl,.inl W2.kn,k1,by omega,fun l ss' hl hp=>?_⟩
   have sl:=aa.upd hl (.lst (ss'.map V.str))
   have gl:upd H2 l (.lst (ss'.map V.str)) l=some (.lst (ss'.map V.str)):=aA
   generalize upd H2 l (.lst (ss'.map V.str))=Hl at sl gl
   have SY:=hp.length_eq
   refine Or.inl ⟨⟨_,ai.of gl⟩,fun D hD=>?_⟩
   refine fK (dP (ss'.map V.str)) (fun i τ H'=>∃ (v0:Option V) (zs:List Str),τ=[v0,some (.ref kn),some (.str rw)]/\H' D=some (.lst (zs.map V.str))/\zs.length<=i/\(∀ z∈zs,bh z)/\aa Hl H') ⟨none,[],rfl,aA,Qy _,(fun _ h=>absurd h (by simp)),aa.upd hD _⟩ (by rintro i τ H' _ ⟨_,_,_,_,_,_,s⟩;exact ai.of (s _ _ gl)) ?_ ?_
   ·rintro i τ H4 hi ⟨v0,zs,rfl,q1,q2,qs,q3⟩
    have gf:i < ss'.length:=by simpa using hi
    have eg:(ss'.map V.str).getD i .af=.str ss'[i]:=by simp [Qb,gf]
    rw [eg]
    obtain ⟨S0,y,hy⟩:=k3 ss'[i] (hp.mem_iff.mp (Qj gf))
    refine ⟨kn,.str y,rfl,by rw [<- hy];exact jf.k (k:=Sum.inr ss'[i]) (q3 _ _ (sl _ _ W2.kn)),rfl,_,rfl,aj (fun _=>?_) (fun _=>⟨_,zs,rfl,q1,by omega,qs,q3⟩)⟩
    exact ⟨_,q1,by simp;omega,_,zs++[ss'[i]],rfl,by rw [aA,Qm];rfl,by simp;omega,fun z hz=>(List.mem_append.mp hz).elim (qs z) (fun h=>List.mem_singleton.mp h▸S0),q3.put hD⟩
   ·rintro τ H4 ⟨v0,zs,rfl,q1,q2,qs,q3⟩
    simp only [Ql] at q2
    exact av _ _ ⟨D,zs,rfl,q1,by omega,qs,sl.trans q3⟩
  rintro σ' H3 ⟨S,ss,rfl,gS,VY,S1,s3⟩
  have W3:=W2.same s3
  have K9:=hq2.tk s3.ts
  have g3:=g2.ts s3.ts
  clear W2 hq2 g2
  have EZ:=j9 d
  refine aM (fun σ' H'=>σ'=[some (.ref p),some (.ref a),some (.str x),some (.ref kn),some (.int (d:Int)),some v,some (.str rw),some (.ref S),none,none,none,none,none,none]/\MW K H0 H H' p a kn (t+1) xs rows ns kvs/\Tk H3 H') ?_ ?_
  ·intro nx av
   refine lJ (fun c H'=>MW K H0 H H' p a kn (t+1) xs rows ns kvs/\Tk H3 H'/\(c=true->ss≠[]/\H' S=some (.lst (ss.map V.str))/\S≠p)) (fun Q hQ=>?_) (fun H4 ⟨W4,AK,hc⟩=>?_) (by rintro H4 ⟨W4,AK,_⟩;exact av _ _ ⟨rfl,W4,AK⟩)
   ·refine ⟨(show 0<=sizeLine by decide),fun b hb=>⟨aQ gS hb,_,(aa.upd hb _) _ _ gS,aA,_,rfl,aj (fun c=>?_) (fun c=>?_)⟩⟩
    ·have sb:=aa.upd hb (.lst [])
     have Wb:=W3.same sb
     have BZ:S≠p:=fun q=>by
      obtain ⟨a',ns',u',x',z,_⟩:=W3.hn.ex
      rw [q,z] at gS
      have:=congrArg (fun o=>match o with | some (HO.lst (y::_))=>y | _=>V.af) gS
      cases ss with
      | nil=>simp at this
      | cons _ _=>simp at this
     refine ⟨H0,p,3,t,rfl,Wb.hn,⟨by decide,by decide⟩,by omega,fun r H5 r0 r1 n_ jc=>⟨_,rfl,hQ _ _ ⟨Wb.draw n_ jc,sb.ts.trans (Wb.hn.ts jc),fun _=>⟨fun z=>?_,jc _ _ (sb _ _ gS) BZ BZ,BZ⟩⟩⟩⟩
     subst z
     exact absurd c (by decide)
    ·exact hQ _ _ ⟨(W3.same (aa.upd hb _)).mono (by omega),(aa.upd hb _).ts,fun z=>absurd z (by decide)⟩
   ·obtain ⟨gh,K_,BZ⟩:=hc rfl
    have EU:0 < ss.length:=by
     cases ss with
     | nil=>exact absurd rfl gh
     | cons _ _=>simp
    refine .inl ⟨_,.inl (ai.of K_),H0,p,_,_,rfl,W4.hn,⟨by simp;omega,by simp;omega⟩,by omega,fun r H5 r0 r1 n_ jc=>?_⟩
    obtain ⟨i,rfl⟩:∃ i:Nat,r=(i:Int):=⟨r.toNat,by omega⟩
    have hi:i < ss.length:=by simpa using r1
    refine ⟨ss.map V.str,.str ss[i],.inl (ai.of (jc _ _ K_ BZ BZ)),cF (by simp [hi]),(show 2<=sizeLine by decide),fun b hb=>?_⟩
    exact k _ 1 _ ((o8 aA (S1 _ (Qj hi))).up (by dsimp only;omega)) (by omega) ((n_.same (aa.upd hb _)).mono (by omega)) (((W4.draw n_ jc).same (aa.upd hb _)).sm)
  rintro σ' H4 ⟨rfl,W4,AK⟩
  have E6:=K9.tk AK
  have g4:=g3.ts AK
  clear W3 K9 g3
  refine aM (fun σ' H'=>σ'=[some (.ref p),some (.ref a),some (.str x),some (.ref kn),some (.int (d:Int)),some v,some (.str rw),some (.ref S),none,none,none,none,none,none]/\MW K H0 H H' p a kn (t+1) xs rows ns kvs/\Tk H4 H'/\0 < d/\Hd.s0 h≠"none"/\h≠.prs "pick" []) ?_ ?_
  ·intro nx av
   refine lJ (fun c H'=>MW K H0 H H' p a kn (t+1) xs rows ns kvs/\Tk H4 H'/\(c=false->0 < d/\Hd.s0 h≠"none"/\h≠.prs "pick" [])) (fun Q hQ=>?_) (fun H5 ⟨W5,we,_⟩=>?_) (by rintro H5 ⟨W5,we,hc⟩;exact av _ _ ⟨rfl,W5,we,hc rfl⟩)
   ·refine ⟨rfl,_,rfl,aj (fun c=>hQ _ _ ⟨W4,Tk.refl,fun z=>absurd z (by decide)⟩) (fun c0=>?_)⟩
    obtain ⟨b,ys,Hv,eb⟩:=pV E6
    refine hdn fun Gz9 zG9=>?_;obtain ⟨b',xs',ds,S2,f1,f2,f3,f4⟩:=SV E6 e3;refine zG9 ?_
    subst Hv
    cases S2
    refine ⟨_,.str _,.inr (ae.of eb),aO _ _,rfl,_,rfl,aj (fun c=>hQ _ _ ⟨W4,Tk.refl,fun z=>absurd z (by decide)⟩) (fun c1=>?_)⟩
    refine ⟨(show 0<=sizeLine by decide),fun uq h1=>⟨(show 2<=sizeLine by decide),fun b1 dm=>?_⟩⟩
    have sA:=(aa.upd h1 (.tup [])).trans (aa.upd dm (.tup [.str "pick",.ref uq]))
    have gc:upd (upd H4 uq (.tup [])) b1 (.tup [.str "pick",.ref uq]) uq=some (.tup []):=aa.upd dm _ _ _ aA
    have gb:upd (upd H4 uq (.tup [])) b1 (.tup [.str "pick",.ref uq]) b1=some (.tup [.str "pick",.ref uq]):=aA
    generalize upd (upd H4 uq (.tup [])) b1 (.tup [.str "pick",.ref uq])=H5 at sA gc gb
    refine ⟨b,b1,uq,"pick",xs',ds,rfl,rfl,sA _ _ f1,f2,fun i h1 h2=>(f3 i h1 h2).same sA,ae.of gb,ae.of gc,_,rfl,hQ _ _ ⟨W4.same sA,sA.ts,fun hc=>⟨?_,?_,f4 hc⟩⟩⟩
    ·rw [QE,decide_eq_false_iff_not] at c0
     exact Nat.pos_of_ne_zero fun z=>c0 (by rw [z];rfl)
    ·rw [QE,decide_eq_false_iff_not] at c1
     exact fun z=>c1 (by rw [z])
   ·refine ⟨rfl,fun v6 H6 s6 B0=>?_⟩
    exact k v6 9 H6 (B0.up (by dsimp only;omega)) (by omega) ((W5.hn.same s6).mono (by omega)) (W5.same s6).sm
  rintro σ' H5 ⟨rfl,W5,we,La,BQ,S3⟩
  have S4:=E6.tk we
  have g5:=g4.ts we
  clear W4 E6 g4
  obtain ⟨d',rfl⟩:∃ d',d=d'+1:=⟨d - 1,by omega⟩
  have eN:NN (d'+1)=12*NN d'+40:=rfl
  have ed:(((d'+1:Nat):Int)) - 1=(d':Int):=by omega
  have Lb:=j9 d'
  cases S4 with
  | @as b y e=>cases e2
  | @one b s e=>
   rcases e3 with rfl | rfl
   ·refine aM (fun _ _=>False) (fun nx av=>?_) (fun _ _ h=>h.elim)
    refine ⟨_,.str _,.inr (ae.of e),aO _ _,rfl,_,rfl,aj (fun _=>?_) (fun c=>absurd c (by decide+kernel))⟩
    refine ⟨H0,p,a,_,xs,rows,ns,WW,rfl,W5.hn,by omega,W5.rt,fun nm H6 qy wk AS=>?_⟩
    have W6:=W5.draw wk AS
    refine ⟨H0,p,a,kn,_,xs,rows,ns,kvs,nm,d',by rw [ed];rfl,W6.hn,by omega,W6.rt,qy,W6.kn,kk,by omega,by omega,fun v7 s7 H7 kq AU d_ dj=>?_⟩
    exact k v7 s7 H7 (kq.up (by dsimp only;omega)) (by omega) (d_.mono (by omega)) (W6.draw d_ dj).sm
   ·exact absurd rfl BQ
  | @way b y z e=>
   refine aM (fun σ' H'=>σ'=[some (.ref p),some (.ref a),some (.str x),some (.ref kn),some (.int ((d'+1:Nat):Int)),some (.ref b),some (.str rw),some (.ref S),none,none,none,none,none,none]/\H5=H') (fun nx av=>⟨_,.str _,.inr (ae.of e),aO _ _,rfl,_,rfl,aj (fun c=>absurd c (by decide+kernel)) (fun _=>av _ _ ⟨rfl,rfl⟩)⟩) ?_
   rintro σ' _ ⟨rfl,rfl⟩
   refine aM (fun _ _=>False) (fun nx av=>?_) (fun _ _ h=>h.elim)
   refine ⟨_,.str _,.inr (ae.of e),aO _ _,rfl,_,rfl,aj (fun _=>?_) (fun c=>absurd c (by decide+kernel))⟩
   refine aI ⟨kn,kvs,rfl,.inl W5.kn,fun l hl=>?_⟩
   have sl:=aa.upd hl (.dK kvs)
   have gl:upd H5 l (.dK kvs) l=some (.dK kvs):=aA
   have fl:=W5.free hl
   have Dm:kn≠l:=fun q=>by have:=W5.kn;rw [q,hl] at this;cases this
   have W6:=W5.same sl
   have e6:=sl _ _ e
   have g6:=g5.ts sl.ts
   generalize upd H5 l (.dK kvs)=H6 at sl gl W6 e6 g6
   have zg:=W6.E5 gl
   refine aI ⟨H0,p,_,rfl,W6.hn,by omega,fun bn H7 wl d_ dj=>?_⟩
   have W7:=W6.draw d_ dj
   have Dn:=W6.hn.ts dj
   have e7:=Dn _ _ e6
   have E7:=dj _ _ gl zg zg
   refine ⟨_,.str y,.inr (ae.of e7),rfl,a,xs,rs,_,_,y,rfl,g6.ts Dn,(hm y).mp e3.2.2.1,fun H8 s8=>⟨l,_,rfl,.inl ⟨kvs,.inr bn,s8 _ _ E7,rfl,by omega,rfl⟩,?_⟩⟩
   have W8:=W7.same s8
   have Lc:=s8 _ _ E7
   have W9:=W8.dput (uu:=putK kvs (.inr bn) (.str (eu (gi rows) rs.length y))) Lc fl Dm
   have AV:=nX (uu:=putK kvs (.inr bn) (.str (eu (gi rows) rs.length y))) Lc
   have e9:=AV _ _ (s8 _ _ e7)
   have Ld:upd H8 l (.dK (putK kvs (.inr bn) (.str (eu (gi rows) rs.length y)))) l=some (.dK (putK kvs (.inr bn) (.str (eu (gi rows) rs.length y)))):=aA
   generalize upd H8 l (.dK (putK kvs (.inr bn) (.str (eu (gi rows) rs.length y))))=H9 at W9 e9 Ld
   have hpl:=lY (kvs:=kvs) bn (eu (gi rows) rs.length y)
   dsimp only
   refine aI ⟨_,.str z,.inr (ae.of e9),rfl,H0,p,a,l,_,xs,rows,ns,_,z,d',by rw [ed];rfl,W9.hn,by dsimp only;omega,W9.rt,e3.2.2.2,Ld,kk.put _ (gF wl),by omega,by omega,fun v10 AW zh uv B3 wm rf=>?_⟩
   have B4:=W9.draw wm rf
   have Hw:=(W9.hn.ts rf) _ _ e9
   refine ⟨_,.str y,.inr (ae.of Hw),rfl,(show 4<=sizeLine by decide),fun r hr'=>?_⟩
   have sr:=aa.upd hr' (.tup [.str "fn",.str bn,.str y,v10])
   exact k _ (1+AW) _ ((dD (.fn aA (gF wl) (iT e3.1)) (uv.tk sr.ts)).up (by dsimp only;omega)) (by dsimp only at B3;omega) ((wm.same sr).mono (by dsimp only;omega)) (B4.same sr).sm
  | @prs b c s ys ps e ec hp=>
   have hpl:=hp.len
   have S5:=e3.2.2.2
   refine aM (fun σ' H'=>σ'=[some (.ref p),some (.ref a),some (.str x),some (.ref kn),some (.int ((d'+1:Nat):Int)),some (.ref b),some (.str rw),some (.ref S),none,none,none,none,none,none]/\H5=H') (fun nx av=>⟨_,.str _,.inr (ae.of e),aO _ _,rfl,_,rfl,aj (fun c=>absurd c (by rcases e3.1 with rfl | rfl<;>decide+kernel)) (fun _=>av _ _ ⟨rfl,rfl⟩)⟩) ?_
   rintro σ' _ ⟨rfl,rfl⟩
   refine aM (fun σ' H'=>σ'=[some (.ref p),some (.ref a),some (.str x),some (.ref kn),some (.int ((d'+1:Nat):Int)),some (.ref b),some (.str rw),some (.ref S),none,none,none,none,none,none]/\H5=H') (fun nx av=>⟨_,.str _,.inr (ae.of e),aO _ _,rfl,_,rfl,aj (fun c=>absurd c (by rcases e3.1 with rfl | rfl<;>decide+kernel)) (fun _=>av _ _ ⟨rfl,rfl⟩)⟩) ?_
   rintro σ' _ ⟨rfl,rfl⟩
   rcases e3.1 with rfl | rfl
   ·refine aM (fun σ' H'=>σ'=[some (.ref p),some (.ref a),some (.str x),some (.ref kn),some (.int ((d'+1:Nat):Int)),some (.ref b),some (.str rw),some (.ref S),none,none,none,none,none,none]/\H5=H') (fun nx av=>⟨_,.str _,.inr (ae.of e),aO _ _,rfl,_,rfl,aj (fun c=>absurd c (by decide+kernel)) (fun _=>av _ _ ⟨rfl,rfl⟩)⟩) ?_
    rintro σ' _ ⟨rfl,rfl⟩
    refine aM (fun σ' H'=>∃ (D:Addr) (zs:List V),σ'=[some (.ref p),some (.ref a),some (.str x),some (.ref kn),some (.int ((d'+1:Nat):Int)),some (.ref b),some (.str rw),some (.ref S),none,none,none,none,none,some (.ref D)]/\D≠p/\H D=none/\H' D=some (.lst zs)/\zs.length<=10/\MW K H0 H H' p a kn (t+1+10*(NN d'+1)) xs rows ns kvs/\fh H' (jh (ps.map (·.1))) zs (6+3*d') (10*(NN d'+3))) ?_ ?_
    ·intro nx av
     refine ⟨_,.ref c,.inr (ae.of e),rfl,Or.inr ⟨⟨ys,ae.of ec⟩,fun D hD=>?_⟩⟩
     have fD:=W5.free hD
     have nD:=W5.hn.ne hD
     refine fK (dI ys) (fun i τ H'=>∃ (v0 v1:Option V) (zs:List V),τ=[v0,v1,some (.ref p),some (.ref a),some (.ref kn),some (.int ((d'+1:Nat):Int))]/\H' D=some (.lst zs)/\zs.length=i/\MW K H0 H H' p a kn (t+1+i*(NN d'+1)) xs rows ns kvs/\Tk H5 H'/\fh H' (jh ((ps.take i).map (·.1))) zs (6+3*d') (i*(NN d'+3)))
      ⟨none,none,[],rfl,aA,rfl,by simpa using W5.same (aa.upd hD _),(aa.upd hD _).ts,by rw [Nat.zero_mul];exact fh.nil⟩ (by rintro i τ H' _ ⟨_,_,_,_,_,_,_,s,_⟩;exact ae.of (s _ _ ec)) ?_ ?_
     ·rintro i τ H6 hi z0;refine hdn fun Gz9 zG9=>?_;obtain ⟨v0,v1,zs,rfl,q1,q2,q3,q4,q5⟩:=z0;refine zG9 ?_
      have zj:i < ps.length:=by omega
      have Hx:i<=9:=by omega
      have m1:(i+1)*(NN d'+1)=i*(NN d'+1)+(NN d'+1):=Nat.succ_mul ..
      have m2:(i+1)*(NN d'+3)=i*(NN d'+3)+(NN d'+3):=Nat.succ_mul ..
      have m3:i*(NN d'+1)<=9*(NN d'+1):=Nat.mul_le_mul_right _ Hx
      obtain ⟨dd,r1,r2⟩:=hp.at_ i hi zj
      have eg:ys.getD i .af=.ref dd:=by rw [Qb,Qa hi,r1];rfl
      rw [eg]
      refine gU (q4 _ _ r2) ?_
      refine ⟨H0,p,a,kn,_,xs,rows,ns,kvs,_,d',by rw [ed];rfl,q3.hn,by dsimp only;omega,q3.rt,(e3.2.1 _ (Qj zj)).2.2,q3.kn,kk,by omega,by omega,fun v10 AW zh uv B3 wm rf=>⟨(show 2<=sizeLine by decide),fun r hr'=>?_⟩⟩
      dsimp only at B3 wm uv
      have sr:=aa.upd hr' (.tup [.str ps[i].1,v10])
      have gr:upd zh r (.tup [.str ps[i].1,v10]) r=some (.tup ([.str ps[i].1]++[v10])):=aA
      have zk:=(q3.draw wm rf).same sr
      have E8:=sr _ _ (rf _ _ q1 nD nD)
      have AX:=(q3.hn.ts rf).trans sr.ts
      have zm:=uv.tk sr.ts
      generalize upd zh r (.tup [.str ps[i].1,v10])=Dp at sr gr zk E8 AX zm
      have oh:Tk Dp (upd Dp D (.lst (zs++[.ref r]))):=(Tk.refl).set E8 (by intro _ z;cases z)
      refine ⟨zs,E8,by omega,_,_,zs++[.ref r],rfl,aA,by simp [q2],(zk.Dl E8 fD nD).mono (by omega),q4.trans (AX.trans oh),by rw [Qs,Qa zj,Qm,jh,Qm];exact ((q5.tk AX).snoc gr zm (by omega)).tk oh⟩
     ·rintro τ H6 z0;refine hdn fun Gz9 zG9=>?_;obtain ⟨v0,v1,zs,rfl,q1,q2,q3,q4,q5⟩:=z0;refine zG9 ?_
      have m3:ys.length*(NN d'+1)<=10*(NN d'+1):=Nat.mul_le_mul_right _ (by omega)
      have m4:ys.length*(NN d'+3)<=10*(NN d'+3):=Nat.mul_le_mul_right _ (by omega)
      rw [List.take_of_length_le (by omega)] at q5
      exact av _ _ ⟨D,zs,rfl,nD,fD,q1,by omega,q3.mono (by omega),q5.BV (Qy _) m4⟩
    rintro σ' H6 z0;refine hdn fun Gz9 zG9=>?_;obtain ⟨D,zs,rfl,nD,fD,q1,q2,q3,q5⟩:=z0;refine zG9 ?_
    refine aM (fun σ' H'=>∃ (zs:List V),σ'=[some (.ref p),some (.ref a),some (.str x),some (.ref kn),some (.int ((d'+1:Nat):Int)),some (.ref b),some (.str rw),some (.ref S),none,none,none,none,none,some (.ref D)]/\H' D=some (.lst zs)/\zs.length<=11/\MW K H0 H H' p a kn (t+2+10*(NN d'+1)) xs rows ns kvs/\∃ ws,fh H' (jh ws) zs (6+3*d') (10*(NN d'+3)+1)/\BW ws) ?_ ?_
    ·intro nx av
     have E9:=w4 e3
     refine ⟨H0,p,3,_,rfl,q3.hn,⟨by decide,by decide⟩,by omega,fun r H7 r0 r1 d_ dj=>⟨rfl,_,rfl,aj (fun _=>?_) (fun _=>av _ _ ⟨zs,rfl,dj _ _ q1 nD nD,by omega,(q3.draw d_ dj).mono (by omega),_,(q5.tk (q3.hn.ts dj)).BV (Qy _) (by omega),E9⟩)⟩⟩
     have W7:=q3.draw d_ dj
     have q7:=q5.tk (q3.hn.ts dj)
     have g7:=dj _ _ q1 nD nD
     refine ⟨.inl ⟨rfl,_,ai.of g7⟩,(show 0<=sizeLine by decide),fun c1 h1=>⟨(show 2<=sizeLine by decide),fun c2 h2=>⟨(show 2<=sizeLine by decide),fun c3 h3=>?_⟩⟩⟩
     have t1:=aa.upd h1 (.tup [])
     have t2:=aa.upd h2 (.tup [.str "box",.ref c1])
     have t3:=aa.upd h3 (.tup [.str "z",.ref c2])
     have f1:_=some (HO.tup []):=t3 _ _ (t2 _ _ (aA:upd H7 c1 (.tup []) c1=_))
     have f2:=t3 _ _ (aA:upd (upd H7 c1 (.tup [])) c2 (.tup [.str "box",.ref c1]) c2=_)
     have f3:upd (upd (upd H7 c1 (.tup [])) c2 (.tup [.str "box",.ref c1])) c3 (.tup [.str "z",.ref c2]) c3=some (.tup ([.str "z"]++[.ref c2])):=aA
     have tt:=(t1.trans t2).trans t3
     generalize upd (upd (upd H7 c1 (.tup [])) c2 (.tup [.str "box",.ref c1])) c3 (.tup [.str "z",.ref c2])=H8 at f1 f2 f3 tt
     have g8:=tt _ _ g7
     have oh:Tk H8 (upd H8 D (.lst (zs++[.ref c3]))):=(Tk.refl).set g8 (by intro _ z;cases z)
     exact ⟨D,zs,_,rfl,rfl,g8,by omega,av _ _ ⟨zs++[.ref c3],rfl,aA,by simp;omega,((W7.same tt).Dl g8 fD nD).mono (by omega),ps.map (·.1)++(["z"]:List Str),by rw [jh,Qm];exact ((q7.tk tt.ts).snoc f3 ((kQ f2 f1).up (by omega)) (by omega)).tk oh,E9.snoc SN (fun hz=>absurd (K8 _ hz) (by decide+kernel)) (by simp;omega)⟩⟩
    rintro σ' H7 z0;refine hdn fun Gz9 zG9=>?_;obtain ⟨zs,rfl,q1,q2,q3,ws,q5,E9⟩:=z0;refine zG9 ?_
    refine ⟨D,zs,rfl,Or.inl ⟨ai.of q1,fun r1 yf=>⟨(show 2<=sizeLine by decide),fun r2 ju=>?_⟩⟩⟩
    have t1:=aa.upd yf (.tup zs)
    have t2:=aa.upd ju (.tup [.str "box",.ref r1])
    have f1:=t2 _ _ (aA:upd H7 r1 (.tup zs) r1=_)
    have tt:=t1.trans t2
    obtain ⟨sz,Bo,hs2⟩:=wF aA f1 (q5.tk tt.ts) E9
    exact k _ sz _ (hs2.up (by dsimp only;omega)) (by omega) ((q3.hn.same tt).mono (by omega)) (q3.same tt).sm
   ·have EU:0 < ps.length:=by
     cases ps with
     | nil=>exact absurd rfl S3
     | cons _ _=>simp
    refine aM (fun _ _=>False) (fun nx av=>?_) (fun _ _ h=>h.elim)
    refine ⟨_,.str _,.inr (ae.of e),aO _ _,rfl,_,rfl,aj (fun _=>?_) (fun c=>absurd c (by decide+kernel))⟩
    refine ⟨_,.ref c,.inr (ae.of e),rfl,_,.ref c,.inr (ae.of e),rfl,.inl ⟨_,.inr (ae.of ec),H0,p,_,_,rfl,W5.hn,⟨by omega,by omega⟩,by omega,fun r H6 r0 r1 wk AS=>?_⟩⟩
    obtain ⟨i,rfl⟩:∃ i:Nat,r=(i:Int):=⟨r.toNat,by omega⟩
    have hi:i < ps.length:=by omega
    have W6:=W5.draw wk AS
    have B5:=W5.hn.ts AS
    obtain ⟨dd,CH,CI⟩:=hp.at_ i (by omega) hi
    refine ⟨ys,.ref dd,.inr (ae.of (B5 _ _ ec)),cF (by rw [Qa (by omega),CH]),?_⟩
    refine gU (B5 _ _ CI) ?_
    refine ⟨H0,p,a,kn,_,xs,rows,ns,kvs,_,d',by rw [ed];rfl,W6.hn,by dsimp only;omega,W6.rt,(e3.2.1 _ (Qj hi)).2.2,W6.kn,kk,by omega,by omega,fun v10 AW zh uv B3 wm rf=>⟨(show 3<=sizeLine by decide),fun r hr'=>?_⟩⟩
    have sr:=aa.upd hr' (.tup [.str "pick",.str ps[i].1,v10])
    exact k _ (1+AW) _ ((dD (.pick aA (iT (e3.2.1 _ (Qj hi)).1)) (uv.tk sr.ts)).up (by dsimp only;omega)) (by dsimp only at B3;omega) ((wm.same sr).mono (by dsimp only;omega)) ((W6.draw wm rf).same sr).sm
theorem S6 {s:Str} {ps cs:List (Str×Str)} (h:(Hd.prs s ps).ok ns) (e:cs.map (·.1)=ps.map (·.1)) (h2:∀ c∈cs,bh c.2):AQ cs:=by
 obtain ⟨h1,h3,h4⟩:=w4 h
 rw [<- e] at h1 h3 h4
 exact ⟨h1,fun c hc=>⟨h3 _ (List.mem_map.mpr ⟨c,hc,rfl⟩),h2 c hc⟩,by simpa using h4⟩
theorem AQ.snoc {cs:List (Str×Str)} (h:AQ cs) (hz:bh z) (hy:bh y) (hn:z ∉ cs.map (·.1)) (hl:cs.length < 1000):AQ (cs++[(z,y)]):=by
 refine ⟨?_,fun c hc=>(List.mem_append.mp hc).elim (h.2.1 c) (fun e=>by rw [List.mem_singleton.mp e];exact ⟨hz,hy⟩),by simp;omega⟩
 rw [Qm]
 exact List.nodup_append.mpr ⟨h.1,by simp,fun a ha b hb e=>hn (by have:=List.mem_singleton.mp hb;rw [this] at e;subst e;exact ha)⟩
set_option maxHeartbeats 2000000 in
theorem iG (T:Txt K mg w) (n:Nat) (c9:ak P w K mg base (6+3*n) "_law_for" ["_law_pen","_law_told","_law_name","_law_known","_law_deep"] (AR K n)):
  ak P w K mg base (6+3*n+1) "_law_split_over" ["_law_pen","_law_told","_law_name","_law_known","_law_deep"] (K6 K n):=by
 have aR:ak P w K mg base 2 "_law_next" ["_law_pen","_law_many"] (uo K):=bK T
 have bL:ak P w K mg base 1 "_law_row_here" ["_law_told","_law_name"] Df:=cN T
 have bZ:ak P w K mg base 3 "_law_name_bound" ["_law_pen"] (E4 K):=cU T
 refine T.jI.dh (k:=6+3*n) bC (fun vs H Q E h=>?_) (fun f ao A outer s H vs Q E hr h=>?_)
 ·refine hdn fun Gz9 zG9=>?_;obtain ⟨H0,p,a,kn,t,xs,rows,ns,kvs,x,d,rfl,_⟩:=h;refine zG9 ?_
  rfl
 ·refine hdn fun Gz9 zG9=>?_;obtain ⟨H0,p,a,kn,t,xs,rows,ns,kvs,x,d,rfl,hn,ht,rt,hx,hk,kk,gj,⟨La,hd⟩,k⟩:=h;refine zG9 ?_
  have hu:=bG hr
  have bg:=Qx (bG hr)
  have Hu:=tD hr
  have hsz:sizeLine=16777216:=QL
  obtain ⟨d',rfl⟩:∃ d',d=d'+1:=⟨d - 1,by omega⟩
  have eN:NN (d'+1)=12*NN d'+40:=rfl
  have ed:(((d'+1:Nat):Int)) - 1=(d':Int):=by omega
  have Lb:=j9 d'
  obtain ⟨rs,g,nm,rl,kh⟩:=rt.good fun z hz=>(pU z hz).2
  have hm:∀ z,z∈ns↔z∈rs.map (·.1):=fun z=>by rw [nm];exact rt.nm.mem_iff.symm
  have few:=rt.few
  have xr:=rt.rl
  have vn:=rt.rv.len
  have W:MW K H0 H H p a kn t xs rows ns kvs:=⟨hn,rt,hk,Sm.refl,hn.sm⟩
  refine ⟨_,(aE (vF (i:=5) (own:=["_law_row","_law_here"]) (idx:=[]) (N':=["_law_row","_law_here"]) (dE (az cI) (["_law_pen","_law_told","_law_name","_law_known","_law_deep","_law_rows","_law_row","_law_held","_law_cases","_law_word","_law_other","_law_bound","_law_inner","_law_made"]:List Str) (by decide+kernel)) rfl (qW K (zv 1)) (fun _ _ _ _ _ _=>(dG K (n:=2) rfl (bA (aY (i:=0) (show List.Nodup (["_law_row","_law_here"]:List Str) by decide+kernel) rfl (Or.inl rfl)) (bA (aY (i:=1) (show List.Nodup (["_law_row","_law_here"]:List Str) by decide+kernel) rfl (Or.inl rfl)) cL)))) (fun _ _ _ _ _ _=>(xF (kD (aL (bD bg) (aU (aV K) (zv 1) aF (fun _ _=>rfl)) aJ (bf _)) (fQ (aL (zB Hu) (aU (aV K) (zv 1) aF (fun _ _=>rfl)) (aS aD) (bf _)))).pt)) (fun _ _ _ _ _ _=>(zv 0)) bC.nd rfl rfl)
   (aE (bM (aL (bD bg) (zv 5) (cA aD) (bf _)) (aG (aW (bB c9 (hr.mono (by omega)) (aB (zv 0) (aB (zv 1) (aB (zv 2) (aB (zv 3) (aB (zv 4) aD)))))))) aZ)
   (aE (aX (i:=6) bC.nd rfl (Or.inl rfl) (aU (aV K) (zv 5) (bB aR (hr.mono (by omega)) (aB (zv 0) (bF (bV (bN K) (by rfl) T.nv PySem.boot_len (aB (zv 5) aD)) aD))) (fun _ _=>rfl)))
   (aE (aX (i:=7) bC.nd rfl (Or.inl rfl) (aS (aC aJ (bF (bB c9 (hr.mono (by omega)) (aB (zv 0) (aB (zv 1) (aB (zv 6) (aB (zv 3) (cD (bS dS (zv 4) aF) aD)))))) (aB (zv 6) aD)))))
   (aE (aX (i:=8) bC.nd rfl (Or.inl rfl) (cA aD))
   (aE (jZ PassesOwn.never rfl (qW K (aU (aV K) (j5 hu (bU (eR rfl) (by rfl) T.j8 QX (aB (zv 1) aD)) (zv 6) (fun _ _=>rfl)) aF (fun _ _=>rfl))) (dG K (n:=2) rfl (bA (aY (i:=9) bC.nd rfl (Or.inl rfl)) (bA (aY (i:=10) bC.nd rfl (Or.inl rfl)) cL))) (aE (aX (i:=11) bC.nd rfl (Or.inl rfl) (bB bZ (hr.mono (by omega)) (aB (zv 0) aD)))
   (aE (aX (i:=12) bC.nd rfl (Or.inl rfl) (bU (iI rfl) (by rfl) T.j8 QX (aB (zv 3) aD)))
   (aE (rM hu (zv 12) (zv 11) (bB bL (hr.mono (by omega)) (aB (zv 1) (aB (zv 10) aD))) rfl)
   (aE (aX (i:=13) bC.nd rfl (Or.inl rfl) (bB c9 (hr.mono (by omega)) (aB (zv 0) (aB (zv 1) (aB (zv 2) (aB (zv 12) (cD (bS dS (zv 4) aF) aD)))))))
   (aG (cV (jM K QH QJ QK cE (zv 8) (aT (aS (aB (zv 9) (aB (zv 11) (aB (zv 13) aD)))) aD)))))))))
   (aE (bM (aL (bD bg) (bB aR (hr.mono (by omega)) (aB (zv 0) (aC aF aD))) aF (bf _)) (aG (cV (jM K QH QJ QK cE (zv 8) (aT (aS (aC aJ (aC aJ (aT (aS (aC aJ (aT (aS (aC aJ (aT (aS aD) aD))) (aC aJ aD)))) aD)))) aD)))) aZ)
   (aG (aW (aS (aC aJ (aB (zv 7) (bF (bU (cX K) (by rfl) T.fE QG (aB (zv 8) aD)) aD))))))))))))),?_⟩
  refine aM (fun σ' H'=>∃ (R:Addr) (zs:List Str),σ'=[some (.ref p),some (.ref a),some (.str x),some (.ref kn),some (.int ((d'+1:Nat):Int)),some (.ref R),none,none,none,none,none,none,none,none]/\R≠p/\H' R=some (.lst (zs.map V.str))/\zs.length<=14/\(∀ z∈zs,∃ ps,(z,Hd.prs "pick" ps)∈rows)/\aa H H') ?_ ?_
  ·intro nx av
   refine Or.inr ⟨⟨xs,ae.of rt.at_⟩,fun D hD=>?_⟩
   refine fK (dI xs) (fun i τ H'=>∃ (v0 v1:Option V) (zs:List Str),τ=[v0,v1]/\H' D=some (.lst (zs.map V.str))/\zs.length<=i/\(∀ z∈zs,∃ ps,(z,Hd.prs "pick" ps)∈rows)/\aa H H') ⟨none,none,[],rfl,aA,Qy _,(fun z hz=>by cases hz),aa.upd hD _⟩ (by rintro i τ H' _ ⟨_,_,_,_,_,_,_,s⟩;exact ae.of (s _ _ rt.at_)) ?_ ?_
   ·rintro i τ H1 hi z0;refine hdn fun Gz9 zG9=>?_;obtain ⟨v0,v1,zs,rfl,q1,q2,q3,q4⟩:=z0;refine zG9 ?_
    have Hy:i < rows.length:=by omega
    obtain ⟨b,v,r1,r2,r3⟩:=rt.rv.at_ i hi Hy
    have eg:xs.getD i .af=.ref b:=by rw [Qb,Qa hi,r1];rfl
    rw [eg]
    have Le:=(rt.ok _ (Qj Hy)).2
    have mz:=Qj Hy
    generalize rows[i]=rw at r2 r3 Le mz
    obtain ⟨rn,rh⟩:=rw
    refine gU (q4 _ _ r2) ?_
    have hv:=r3.tk q4.ts
    obtain ⟨b',ys,Hv,eb⟩:=pV hv
    subst Hv
    refine ⟨_,.str _,.inr (ae.of eb),aO _ _,rfl,_,rfl,aj (fun c=>?_) (fun _=>jy ⟨_,_,zs,rfl,q1,by omega,q3,q4⟩)⟩
    have c':Hd.s0 rh="pick":=by
     rw [QE,decide_eq_true_iff] at c
     exact V.str.inj c
    have hp:∃ ps,rh=.prs "pick" ps:=by
     cases rh with
     | one s=>rcases Le with rfl | rfl<;>exact absurd c' (by decide+kernel)
     | as y=>exact absurd (show ("as":Str)="pick" from c') (by decide+kernel)
     | way y z=>exact absurd (show ("way":Str)="pick" from c') (by decide+kernel)
     | prs s ps=>exact ⟨ps,by rw [show s="pick" from c']⟩
    obtain ⟨ps,rfl⟩:=hp
    cases hv with
    | @prs _ c2 _ S7 _ e ec hp=>
     refine ⟨_,.ref c2,.inr (ae.of e),rfl,(show 0<=sizeLine by decide),fun e0 Dq=>⟨c2,e0,S7,rfl,rfl,aa.upd Dq _ _ _ ec,aA,_,rfl,aj (fun _=>?_) (fun _=>⟨_,_,zs,rfl,aa.upd Dq _ _ _ q1,by omega,q3,q4.trans (aa.upd Dq _)⟩)⟩⟩
     refine ⟨_,aa.upd Dq _ _ _ q1,by simp;omega,_,_,zs++[rn],rfl,by rw [aA,Qm];rfl,by simp;omega,fun z hz=>?_,(q4.trans (aa.upd Dq _)).put hD⟩
     rcases List.mem_append.mp hz with h | h
     ·exact q3 z h
     ·rw [List.mem_singleton.mp h];exact ⟨ps,mz⟩
   ·rintro τ H1 z0;refine hdn fun Gz9 zG9=>?_;obtain ⟨v0,v1,zs,rfl,q1,q2,q3,q4⟩:=z0;refine zG9 ?_
    exact av _ _ ⟨D,zs,rfl,hn.ne hD,q1,by omega,q3,q4⟩
  rintro σ' H1 z0;refine hdn fun Gz9 zG9=>?_;obtain ⟨R,zs,rfl,nR,gR,VZ,S8,s1⟩:=z0;refine zG9 ?_
  have W1:=W.same s1
  refine aM (fun σ' H'=>zs≠[]/\σ'=[some (.ref p),some (.ref a),some (.str x),some (.ref kn),some (.int ((d'+1:Nat):Int)),some (.ref R),none,none,none,none,none,none,none,none]/\aa H1 H') ?_ ?_
  ·intro nx av
   refine lJ (fun c H'=>aa H1 H'/\(c=false->zs≠[])) (fun Q hQ=>?_) (fun H2 ⟨s2,_⟩=>?_) (by rintro H2 ⟨s2,hc⟩;exact av _ _ ⟨hc rfl,rfl,s2⟩)
   ·refine ⟨(show 0<=sizeLine by decide),fun b hb=>⟨aQ gR hb,_,(aa.upd hb _) _ _ gR,aA,_,rfl,hQ _ _ ⟨aa.upd hb _,fun c z=>?_⟩⟩⟩
    subst z
    exact absurd c (by decide)
   ·have W2:=W1.same s2
    refine ⟨H0,p,a,kn,_,xs,rows,ns,kvs,x,d'+1,rfl,W2.hn,ht,W2.rt,hx,W2.kn,kk,gj,hd,fun v7 s7 H7 kq AU d_ dj=>?_⟩
    exact k v7 s7 H7 kq AU d_ (W2.draw d_ dj).sm
  rintro σ' H2 ⟨gh,rfl,s2⟩
  have W2:=W1.same s2
  have Lf:=s2 _ _ gR
  have EU:0 < zs.length:=by
   cases zs with
   | nil=>exact absurd rfl gh
   | cons _ _=>simp
  refine aI (.inl ⟨_,.inl (ai.of Lf),H0,p,_,_,rfl,W2.hn,⟨by simp;omega,by simp;omega⟩,by omega,fun r H3 r0 r1 qw jr=>?_⟩)
  obtain ⟨i,rfl⟩:∃ i:Nat,r=(i:Int):=⟨r.toNat,by omega⟩
  have hi:i < zs.length:=by simpa using r1
  have W3:=W2.draw qw jr
  refine ⟨zs.map V.str,.str zs[i],.inl (ai.of (jr _ _ Lf nR nR)),cF (by simp [hi]),?_⟩
  obtain ⟨ps,B6⟩:=S8 _ (Qj hi)
  have BX:zs[i]∈ns:=rt.nm.mem_iff.mp (List.mem_map.mpr ⟨_,B6,rfl⟩)
  have Lg:uf rows zs[i]=.prs "pick" ps:=eE rt.As B6
  have Dr:(Hd.prs "pick" ps).ok ns:=(rt.ok _ B6).2
  generalize zs[i]=z at B6 BX Lg
  refine aI ⟨H0,p,a,kn,_,xs,rows,ns,kvs,z,d',by rw [ed];rfl,W3.hn,by omega,W3.rt,BX,W3.kn,kk,by omega,by omega,fun v4 s4 H4 Ds Lh iy jt=>⟨(show 3<=sizeLine by decide),fun c5 S9=>?_⟩⟩
  have W4:=W3.draw iy jt
  have t5:=aa.upd S9 (.tup [.str "hold",v4,.str z])
  have Du:fi (upd H4 c5 (.tup [.str "hold",v4,.str z])) (5+3*d') (1+s4) (.ref c5):=(dD (.hold aA (iT (rt.ok _ B6).1)) (Ds.tk t5.ts)).up (by dsimp only;omega)
  have W5:=W4.same t5
  generalize upd H4 c5 (.tup [.str "hold",v4,.str z])=H5 at t5 Du W5
  refine aI ⟨(show 0<=sizeLine by decide),fun C hC=>?_⟩
  have t6:=aa.upd hC (.lst [])
  have gC:upd H5 C (.lst []) C=some (.lst []):=aA
  have fC:=W5.free hC
  have nC:=W5.hn.ne hC
  have W6:=W5.same t6
  have B0:=Du.tk t6.ts
  generalize upd H5 C (.lst [])=H6 at t6 gC W6 B0
  have Li:Tk H H6:=s1.ts.trans (s2.ts.trans ((W2.hn.ts jr).trans ((W3.hn.ts jt).trans (t5.ts.trans t6.ts))))
  have g6:=g.ts Li
  clear W1 W2 W3 W4 W5 Du qw iy
  refine aM (fun σ' H'=>∃ (ws:List V) (v9 v10 v11 rg rj:Option V),σ'=[some (.ref p),some (.ref a),some (.str x),some (.ref kn),some (.int ((d'+1:Nat):Int)),some (.ref R),some (.str z),some (.ref c5),some (.ref C),v9,v10,v11,rg,rj]/\H' C=some (.lst ws)/\ws.length<=10/\MW K H0 H H' p a kn (t+1+NN d'+10*(NN d'+1)) xs rows ns kvs/\(∃ cs,fh H' (gy cs) ws (4+3*d') (10*NN d')/\cs.map (·.1)=ps.map (·.1)/\∀ c∈cs,bh c.2)/\fi H' (5+3*d') (1+s4) (.ref c5)) ?_ ?_
  ·intro nx av
   refine ⟨a,xs,cg rs,rfl,g6.at_,g6.ps,(by simp;omega),fun dc S_=>?_⟩
   obtain ⟨v,hv,Lj⟩:=g.get ((hm z).mp BX)
   have t7:=aa.upd S_ (.dK (dictOf (cg rs)))
   have BU:jf (upd H6 dc (.dK (dictOf (cg rs)))) dc (.str z) (some v):=by
    rw [<- Lj];exact jf.k (k:=Sum.inr z) aA
   have Hz:=((kh z v BX Lj).tk Li).tk t7.ts
   have W7:=W6.same t7
   have g7:=g6.ts t7.ts
   have kq:=B0.tk t7.ts
   have Lk:=t7 _ _ gC
   generalize upd H6 dc (.dK (dictOf (cg rs)))=H7 at t7 BU Hz W7 g7 kq Lk
   refine ⟨dc,v,rfl,BU,?_⟩
   rw [Lg] at Hz
   cases Hz with
   | @prs b c _ ys _ e ec hp=>
    have hpl:=hp.len
    have S5:=Dr.2.2.2
    refine ⟨_,.ref c,.inr (ae.of e),rfl,Or.inr ⟨⟨ys,ae.of ec⟩,?_⟩⟩
    refine kZ (dI ys) (fun i σ' H'=>∃ (ws:List V) (v9 v10 v11 rg rj:Option V),σ'=[some (.ref p),some (.ref a),some (.str x),some (.ref kn),some (.int ((d'+1:Nat):Int)),some (.ref R),some (.str z),some (.ref c5),some (.ref C),v9,v10,v11,rg,rj]/\H' C=some (.lst ws)/\ws.length=i/\MW K H0 H H' p a kn (t+1+NN d'+i*(NN d'+1)) xs rows ns kvs/\(∃ cs,fh H' (gy cs) ws (4+3*d') (i*NN d')/\cs.map (·.1)=(ps.take i).map (·.1)/\∀ c∈cs,bh c.2)/\Tk H7 H')
     ⟨[],none,none,none,none,none,rfl,Lk,rfl,by simpa using W7,⟨[],by rw [Nat.zero_mul];exact fh.nil,rfl,fun c hc=>nomatch hc⟩,Tk.refl⟩ (by rintro i τ H' _ ⟨_,_,_,_,_,_,_,_,_,_,_,s⟩;exact ae.of (s _ _ ec)) ?_ ?_
    ·rintro i σ' H8 hi z0;refine hdn fun Gz9 zG9=>?_;obtain ⟨ws,v9,v10,v11,rg,rj,rfl,q1,q2,q3,⟨cs,q5,uw,zo⟩,q4⟩:=z0;refine zG9 ?_
     have zj:i < ps.length:=by omega
     have Hx:i<=9:=by omega
     have m1:(i+1)*(NN d'+1)=i*(NN d'+1)+(NN d'+1):=Nat.succ_mul ..
     have m2:(i+1)*NN d'=i*NN d'+NN d':=Nat.succ_mul ..
     have m3:i*(NN d'+1)<=9*(NN d'+1):=Nat.mul_le_mul_right _ Hx
     obtain ⟨dd,r1,r2⟩:=hp.at_ i hi zj
     have eg:ys.getD i .af=.ref dd:=by rw [Qb,Qa hi,r1];rfl
     rw [eg]
     have Ll:=(Dr.2.1 _ (Qj zj)).2.2
     have Tc:=(Dr.2.1 _ (Qj zj)).1
     have Lm:(ps.take (i+1)).map (·.1)=(ps.take i).map (·.1)++[ps[i].1]:=by rw [Qs,Qa zj,Qm];rfl
     generalize ps[i]=pr at r2 Ll Tc Lm
     refine gU (q4 _ _ r2) ?_
     refine aI ⟨H0,p,_,rfl,q3.hn,by omega,fun bn H9 wl HF B7=>?_⟩
     have W9:=q3.draw HF B7
     have AV:=q3.hn.ts B7
     have HG:=B7 _ _ q1 nC nC
     refine aI ⟨kn,kvs,rfl,.inl W9.kn,fun l hl=>?_⟩
     have sl:=aa.upd hl (.dK kvs)
     have gl:upd H9 l (.dK kvs) l=some (.dK kvs):=aA
     have fl:=W9.free hl
     have Dm:kn≠l:=fun q=>by have:=W9.kn;rw [q,hl] at this;cases this
     have Td:C≠l:=fun q=>by rw [q,hl] at HG;cases HG
     have Wl:=W9.same sl
     have Ln:=sl _ _ HG
     generalize upd H9 l (.dK kvs)=Hl at sl gl Wl Ln
     have zg:=Wl.E5 gl
     refine ⟨a,xs,rs,_,_,pr.2,rfl,((g7.ts q4).ts AV).ts sl.ts,(hm pr.2).mp Ll,fun Hm sm=>⟨l,_,rfl,.inl ⟨kvs,.inr bn,sm _ _ gl,rfl,by omega,rfl⟩,?_⟩⟩
     have Wm:=(Wl.same sm).dput (uu:=putK kvs (.inr bn) (.str (eu (gi rows) rs.length pr.2))) (sm _ _ gl) fl Dm
     have Lo:=nX (uu:=putK kvs (.inr bn) (.str (eu (gi rows) rs.length pr.2))) (sm _ _ gl)
     have Lp:upd Hm l (.dK (putK kvs (.inr bn) (.str (eu (gi rows) rs.length pr.2)))) l=some (.dK (putK kvs (.inr bn) (.str (eu (gi rows) rs.length pr.2)))):=aA
     have Lq:upd Hm l (.dK (putK kvs (.inr bn) (.str (eu (gi rows) rs.length pr.2)))) C=some (.lst ws):=by rw [aK Td];exact sm _ _ Ln
     generalize upd Hm l (.dK (putK kvs (.inr bn) (.str (eu (gi rows) rs.length pr.2))))=Hn at Wm Lo Lp Lq
     have Te:=lY (kvs:=kvs) bn (eu (gi rows) rs.length pr.2)
     have Tf:=AV.trans (sl.ts.trans (sm.ts.trans Lo))
     dsimp only
     refine aI ⟨H0,p,a,l,_,xs,rows,ns,_,x,d',by rw [ed];rfl,Wm.hn,by omega,Wm.rt,hx,Lp,kk.put _ (gF wl),by omega,by omega,fun v10 AW zh uv B3 wm rf=>?_⟩
     have B4:=MW.draw (K:=K) (H':=zh) Wm wm rf
     have Lr:=rf _ _ Lq nC nC
     refine ⟨.inl ⟨rfl,_,ai.of Lr⟩,(show 3<=sizeLine by decide),fun r hr'=>?_⟩
     have sr:=aa.upd hr' (.tup [.str pr.1,.str bn,v10])
     have gr:upd zh r (.tup [.str pr.1,.str bn,v10]) r=some (.tup ([.str pr.1,.str bn]++[v10])):=aA
     have zk:=B4.same sr
     have E_:=sr _ _ Lr
     have AX:=Tf.trans ((Wm.hn.ts rf).trans sr.ts)
     have zm:=uv.tk sr.ts
     generalize upd zh r (.tup [.str pr.1,.str bn,v10])=Dp at sr gr zk E_ AX zm
     have oh:Tk Dp (upd Dp C (.lst (ws++[.ref r]))):=(Tk.refl).set E_ (by intro _ z;cases z)
     exact ⟨C,ws,_,rfl,rfl,E_,by omega,ws++[.ref r],_,_,_,_,_,rfl,aA,by simp [q2],(zk.Dl E_ fC nC).mono (by omega),⟨cs++[(pr.1,bn)],by rw [gy,Qm];exact ((q5.tk AX).snoc gr zm (by omega)).tk oh,by rw [Qm,uw,Lm];rfl,fun c hc=>(List.mem_append.mp hc).elim (zo c) (fun e=>by rw [List.mem_singleton.mp e];exact gF wl)⟩,q4.trans (AX.trans oh)⟩
    ·rintro σ' H8 z0;refine hdn fun Gz9 zG9=>?_;obtain ⟨ws,v9,v10,v11,rg,rj,rfl,q1,q2,q3,⟨cs,q5,uw,zo⟩,q4⟩:=z0;refine zG9 ?_
     have m3:ys.length*(NN d'+1)<=10*(NN d'+1):=Nat.mul_le_mul_right _ (by omega)
     have m4:ys.length*NN d'<=10*NN d':=Nat.mul_le_mul_right _ (by omega)
     exact av _ _ ⟨ws,v9,v10,v11,rg,rj,rfl,q1,by omega,q3.mono (by omega),⟨cs,q5.BV (Qy _) m4,by rw [uw,List.take_of_length_le (by omega)],zo⟩,kq.tk q4⟩
  rintro σ' H8 z0;refine hdn fun Gz9 zG9=>?_;obtain ⟨ws,v9,v10,v11,rg,rj,rfl,q1,q2,q3,⟨cs,q5,uw,zo⟩,mk8⟩:=z0;refine zG9 ?_
  have B8:=S6 Dr uw zo
  refine aM (fun σ' H'=>∃ (ws:List V) (v9 v10 v11 rg rj:Option V),σ'=[some (.ref p),some (.ref a),some (.str x),some (.ref kn),some (.int ((d'+1:Nat):Int)),some (.ref R),some (.str z),some (.ref c5),some (.ref C),v9,v10,v11,rg,rj]/\H' C=some (.lst ws)/\ws.length<=11/\MW K H0 H H' p a kn (t+2+NN d'+10*(NN d'+1)) xs rows ns kvs/\(∃ cs,fh H' (gy cs) ws (4+3*d') (10*NN d'+2)/\AQ cs)/\fi H' (5+3*d') (1+s4) (.ref c5)) ?_ ?_
  ·intro nx av
   refine ⟨H0,p,3,_,rfl,q3.hn,⟨by decide,by decide⟩,by omega,fun r H7 r0 r1 d_ dj=>⟨rfl,_,rfl,aj (fun _=>?_) (fun _=>av _ _ ⟨ws,v9,v10,v11,rg,rj,rfl,dj _ _ q1 nC nC,by omega,(q3.draw d_ dj).mono (by omega),⟨cs,(q5.tk (q3.hn.ts dj)).BV (Qy _) (by omega),B8⟩,mk8.tk (q3.hn.ts dj)⟩)⟩⟩
   have W7:=q3.draw d_ dj
   have Dn:=q3.hn.ts dj
   have q7:=q5.tk Dn
   have g7:=dj _ _ q1 nC nC
   refine ⟨.inl ⟨rfl,_,ai.of g7⟩,(show 0<=sizeLine by decide),fun c1 h1=>⟨(show 2<=sizeLine by decide),fun c2 h2=>⟨(show 3<=sizeLine by decide),fun c3 h3=>⟨(show 3<=sizeLine by decide),fun c4 h4=>?_⟩⟩⟩⟩
   have t1:=aa.upd h1 (.tup [])
   have t2:=aa.upd h2 (.tup [.str "box",.ref c1])
   have t3:=aa.upd h3 (.tup [.str "part",.ref c2,.str "zz"])
   have t4:=aa.upd h4 (.tup [.str "zz",.str "v",.ref c3])
   have f1:_=some (HO.tup []):=t4 _ _ (t3 _ _ (t2 _ _ (aA:upd H7 c1 (.tup []) c1=_)))
   have f2:=t4 _ _ (t3 _ _ (aA:upd (upd H7 c1 (.tup [])) c2 (.tup [.str "box",.ref c1]) c2=_))
   have f3:=t4 _ _ (aA:upd (upd (upd H7 c1 (.tup [])) c2 (.tup [.str "box",.ref c1])) c3 (.tup [.str "part",.ref c2,.str "zz"]) c3=_)
   have f4:upd (upd (upd (upd H7 c1 (.tup [])) c2 (.tup [.str "box",.ref c1])) c3 (.tup [.str "part",.ref c2,.str "zz"])) c4 (.tup [.str "zz",.str "v",.ref c3]) c4=some (.tup ([.str "zz",.str "v"]++[.ref c3])):=aA
   have tt:=((t1.trans t2).trans t3).trans t4
   generalize upd (upd (upd (upd H7 c1 (.tup [])) c2 (.tup [.str "box",.ref c1])) c3 (.tup [.str "part",.ref c2,.str "zz"])) c4 (.tup [.str "zz",.str "v",.ref c3])=Ls at f1 f2 f3 f4 tt
   have g8:=tt _ _ g7
   have oh:Tk Ls (upd Ls C (.lst (ws++[.ref c4]))):=(Tk.refl).set g8 (by intro _ z;cases z)
   exact ⟨C,ws,_,rfl,rfl,g8,by omega,av _ _ ⟨ws++[.ref c4],v9,v10,v11,rg,rj,rfl,aA,by simp;omega,((W7.same tt).Dl g8 fC nC).mono (by omega),⟨cs++([("zz","v")]:List (Str×Str)),by rw [gy,Qm];exact ((q7.tk tt.ts).snoc f4 ((dD (.part f3 oB) (kQ f2 f1)).up (by omega)) (by omega)).tk oh,B8.snoc oB mS (by rw [uw];exact fun hz=>absurd (rt.ww _ B6 _ hz) (by decide+kernel)) (by have:=congrArg List.length uw;have:=Dr.2.2.2;simp at*;omega)⟩,((mk8.tk Dn).tk tt.ts).tk oh⟩⟩
  rintro σ' H7 z0;refine hdn fun Gz9 zG9=>?_;obtain ⟨ws,v9,v10,v11,rg,rj,rfl,q1,q2,q3,⟨cs,q5,B8⟩,mk8⟩:=z0;refine zG9 ?_
  refine ⟨C,ws,rfl,Or.inl ⟨ai.of q1,fun r1 yf=>⟨(show 3<=sizeLine by decide),fun r2 ju=>?_⟩⟩⟩
  have t1:=aa.upd yf (.tup ws)
  have t2:=aa.upd ju (.tup [.str "split",.ref c5,.ref r1])
  have f1:=t2 _ _ (aA:upd H7 r1 (.tup ws) r1=_)
  have tt:=t1.trans t2
  obtain ⟨sz,Bo,hs2⟩:=lR aA f1 (mk8.tk tt.ts) ((q5.tk tt.ts).BV (by omega) (Qy _)) B8
  exact k _ sz _ (hs2.up (by dsimp only;omega)) (by omega) ((q3.hn.same tt).mono (by omega)) (q3.same tt).sm
theorem xA (h:Wd z):bh z:=by have:=h.1;unfold bh;omega
def ux (H:Hp) (ws:List Str) (zs:List V) (dep sz:Nat):Prop:=zs.length=ws.length/\∀ j (h:j < zs.length) (h':j < ws.length),∃ (c:Addr) (z:Str) (m:V) (s:Nat),zs[j]=.ref c/\H c=some (.tup [.str ws[j],.str z,m])/\fi H dep s m/\s<=sz/\bh z
theorem ux.tk {H H':Hp} {ws:List Str} {zs:List V} {dep sz:Nat} (h:ux H ws zs dep sz) (t:Tk H H'):ux H' ws zs dep sz:=⟨h.1,fun j hj uh=>by
 refine hdn fun Gz9 zG9=>?_;obtain ⟨c,z,m,s,h1,h2,h3,h4⟩:=h.2 j hj uh;refine zG9 ?_
 exact ⟨c,z,m,s,h1,t _ _ h2,h3.tk t,h4⟩⟩
theorem ux.row {H:Hp} {ws:List Str} {zs:List V} {dep sz:Nat} (h:ux H ws zs dep sz):∀ i,i<=zs.length->∃ cs,fh H (gy cs) (zs.take i) dep (i*sz)/\cs.map (·.1)=ws.take i/\∀ c∈cs,bh c.2
 | 0,_=>⟨[],by rw [Nat.zero_mul];exact fh.nil,rfl,fun c hc=>nomatch hc⟩
 | i+1,hi=>by
  have hl:=h.1
  refine hdn fun Gz9 zG9=>?_;obtain ⟨c,z,m,s,h1,h2,h3,h4,hz⟩:=h.2 i (by omega) (by omega);refine zG9 ?_
  obtain ⟨cs,i1,i2,i3⟩:=ux.row h i (by omega)
  refine ⟨cs++[(ws[i]'(by omega),z)],?_,?_,fun c hc=>(List.mem_append.mp hc).elim (i3 c) (fun e=>by rw [List.mem_singleton.mp e];exact hz)⟩
  ·rw [Qs,Qa (show i < zs.length by omega),h1,gy,Qm]
   exact i1.snoc (l:=[.str (ws[i]'(by omega)),.str z]) h2 h3 (by rw [Nat.succ_mul];omega)
  ·rw [Qm,i2,Qs,Qa (show i < ws.length by omega)]
   rfl
theorem ux.set {H:Hp} {ws:List Str} {zs:List V} {dep sz:Nat} (h:ux H ws zs dep sz) {i:Nat} {c:Addr} {z w:Str} {m:V} {s:Nat} (hi:ws[i]? =some w) (e:H c=some (.tup [.str w,.str z,m])) (hm:fi H dep s m) (hs:s<=sz) (hz:bh z):ux H ws (zs.set i (.ref c)) dep sz:=⟨by simp [h.1],fun j hj uh=>by
 have HH:j < zs.length:=by simpa using hj
 by_cases ym:i=j
 ·subst ym
  rw [Qa uh] at hi
  exact ⟨c,z,m,s,by simp,by rw [QD hi];exact e,hm,hs,hz⟩
 ·refine hdn fun Gz9 zG9=>?_;obtain ⟨c',z',m',s',h1,h2,h3,h4⟩:=h.2 j HH uh;refine zG9 ?_
  exact ⟨c',z',m',s',by rw [List.getElem_set_ne ym];exact h1,h2,h3,h4⟩⟩
def W3:List Str:=["a","b","ba"]
theorem rB:∀ z∈W3,bh z:=fun z hz=>by
 simp only [W3,Qp,List.not_mem_nil,or_false] at hz
 rcases hz with rfl | rfl | rfl
 ·exact sZ
 ·exact SK
 ·exact SM
set_option maxHeartbeats 2000000 in
theorem kI (T:Txt K mg w) (n:Nat) (c9:ak P w K mg base (6+3*n) "_law_for" ["_law_pen","_law_told","_law_name","_law_known","_law_deep"] (AR K n))
  (jL:ak P w K mg base (6+3*n+1) "_law_split_over" ["_law_pen","_law_told","_law_name","_law_known","_law_deep"] (K6 K n)):
  ak P w K mg base (6+3*n+1+1) "_law_wrapped" ["_law_pen","_law_told","_law_name","_law_known","_law_deep"] (Dk K n):=by
 have aR:ak P w K mg base 2 "_law_next" ["_law_pen","_law_many"] (uo K):=bK T
 have bL:ak P w K mg base 1 "_law_row_here" ["_law_told","_law_name"] Df:=cN T
 have eI:ak P w K mg base 3 "_law_any" ["_law_pen","_law_told"] (E1 K):=iB T
 have bZ:ak P w K mg base 3 "_law_name_bound" ["_law_pen"] (E4 K):=cU T
 refine T.m8.dh (k:=6+3*n+1) bH (fun vs H Q E h=>?_) (fun f ao A outer s H vs Q E hr h=>?_)
 ·refine hdn fun Gz9 zG9=>?_;obtain ⟨H0,p,a,kn,t,xs,rows,ns,kvs,x,d,rfl,_⟩:=h;refine zG9 ?_
  rfl
 ·refine hdn fun Gz9 zG9=>?_;obtain ⟨H0,p,a,kn,t,xs,rows,ns,kvs,x,d,rfl,hn,ht,rt,hx,hk,kk,gj,hd,k⟩:=h;refine zG9 ?_
  dsimp only at ht hd k
  have hu:=bG hr
  have bg:=Qx (bG hr)
  have hsz:sizeLine=16777216:=QL
  have EZ:=j9 d
  obtain ⟨rs,g,nm,rl,kh⟩:=rt.good fun z hz=>(pU z hz).2
  have hm:∀ z,z∈ns↔z∈rs.map (·.1):=fun z=>by rw [nm];exact rt.nm.mem_iff.symm
  have W:MW K H0 H H p a kn t xs rows ns kvs:=⟨hn,rt,hk,Sm.refl,hn.sm⟩
  refine ⟨_,(aE (aX (i:=5) bH.nd rfl (Or.inl rfl) (bB aR (hr.mono (by omega)) (aB (zv 0) (aC aF aD))))
   (aE (bM (Gb (aL (bD bg) (zv 4) aF (bf _)) (zJ (aL jF (zv 5) aF (bf _)))).pt (aG (aW (bB c9 (hr.mono (by omega)) (aB (zv 0) (aB (zv 1) (aB (zv 2) (aB (zv 3) (aB (zv 4) aD)))))))) aZ)
   (aE (bM (aL (bD bg) (zv 5) aF (bf _)) (aG (aW (aS (aC aJ (bF (bB c9 (hr.mono (by omega)) (aB (zv 0) (aB (zv 1) (aB (zv 2) (aB (zv 3) (aB (zv 4) aD)))))) (aB (zv 2) aD)))))) aZ)
   (aE (bM (aL (bD bg) (zv 5) aF (bf _)) (aE (aX (i:=6) bH.nd rfl (Or.inl rfl) (bB c9 (hr.mono (by omega)) (aB (zv 0) (aB (zv 1) (aB (zv 2) (aB (zv 3) (aB (zv 4) aD)))))))
   (aG (aW (aS (aC aJ (aT (aS (aC aJ (aT (aS (aT (aS (aC aJ (aB (zv 6) aD))) (aT (aS (aC aJ (aT (aS (aC aJ (aT (aS aD) aD))) aD))) aD))) aD))) (aC aJ aD))))))) aZ)
   (aE (bM (aL (bD bg) (zv 5) aF (bf _)) (aG (aW (bB jL (hr.mono (by omega)) (aB (zv 0) (aB (zv 1) (aB (zv 2) (aB (zv 3) (aB (zv 4) aD)))))))) aZ)
   (aE (aX (i:=7) bH.nd rfl (Or.inl rfl) (bB eI (hr.mono (by omega)) (aB (zv 0) (aB (zv 1) aD))))
   (aE (aX (i:=8) bH.nd rfl (Or.inl rfl) (bU (iI rfl) (by rfl) T.j8 QX (aB (zv 3) aD)))
   (aE (aX (i:=9) bH.nd rfl (Or.inr rfl) (bB bZ (hr.mono (by omega)) (aB (zv 0) aD)))
   (aE (rM hu (zv 8) (zv 9) (bB bL (hr.mono (by omega)) (aB (zv 1) (aB (zv 7) aD))) rfl)
   (aE (aX (i:=10) bH.nd rfl (Or.inl rfl) (bB c9 (hr.mono (by omega)) (aB (zv 0) (aB (zv 1) (aB (zv 7) (aB (zv 3) (cD (bS dS (zv 4) aF) aD)))))))
   (aE (aX (i:=6) bH.nd rfl (Or.inl rfl) (bB c9 (hr.mono (by omega)) (aB (zv 0) (aB (zv 1) (aB (zv 2) (aB (zv 8) (cD (bS dS (zv 4) aF) aD)))))))
   (aE (bM (aL (bD bg) (zv 5) aF (bf _)) (aG (aW (aS (aC aJ (aT (aS (aC aJ (aB (zv 9) (aB (zv 7) (aB (zv 6) aD))))) (aB (zv 10) aD)))))) aZ)
   (aE (aX (i:=11) bH.nd rfl (Or.inl rfl) (bB aR (hr.mono (by omega)) (aB (zv 0) (aC aF aD))))
   (aE (vF (i:=12) (own:=["_law_word"]) (idx:=[9]) (N':=["_law_word","_law_bound"]) (dE (az d6) (["_law_pen","_law_told","_law_name","_law_known","_law_deep","_law_way","_law_made","_law_other","_law_inner","_law_bound","_law_first","_law_at","_law_cases"]:List Str) (by decide+kernel)) rfl (qW K (cA (aC aJ (aC aJ (aC aJ aD))))) (fun _ _ _ _ _ _=>(aY (i:=0) (show List.Nodup (["_law_word","_law_bound"]:List Str) by decide+kernel) rfl (Or.inl rfl))) (fun _ _ _ _ _ _=>eL) (fun _ _ _ _ _ _=>(aS (aB (zv 0) (aB (zv 1) (aT (aS (aC aJ (aT (aS (aC aJ (aT (aS aD) aD))) (aC aJ aD)))) aD))))) bH.nd rfl rfl)
   (aE (hZ (aS (aH (aU (aV K) (aU (aV K) (zv 12) (zv 11) (fun _ _=>rfl)) aF (fun _ _=>rfl)) (aB (zv 9) (aB (zv 6) aD)))) (oZ (zv 12) (zv 11) fZ))
   (aG (aW (aS (aC aJ (aT (aS (aC aJ (aH (aU (aV K) (aU (aV K) (zv 12) (zv 11) (fun _ _=>rfl)) aF (fun _ _=>rfl)) (aB (zv 10) aD)))) (bF (bU (cX K) (by rfl) T.fE QG (aB (zv 12) aD)) aD))))))))))))))))))))),?_⟩
  refine aI ⟨H0,p,9,t,rfl,hn,⟨by decide,by decide⟩,by omega,fun r H1 r0 r1 hn1 ko=>?_⟩
  have W1:=W.draw hn1 ko
  have g1:=g.ts (hn.ts ko)
  refine aM (fun σ' H'=>0 < d/\r<=4/\σ'=[some (.ref p),some (.ref a),some (.str x),some (.ref kn),some (.int (d:Int)),some (.int r),none,none,none,none,none,none,none]/\H1=H') ?_ ?_
  ·intro nx av
   refine lJ (fun c H'=>H1=H'/\(c=false->0 < d/\r<=4)) (fun Q hQ=>?_) (fun H2 ⟨e2,_⟩=>?_) (by rintro H2 ⟨e2,hc⟩;exact av _ _ ⟨(hc rfl).1,(hc rfl).2,rfl,e2⟩)
   ·refine ⟨rfl,_,rfl,aj (fun c=>hQ _ _ ⟨rfl,fun z=>absurd z (by decide)⟩) (fun c0=>⟨_,rfl,hQ _ _ ⟨rfl,fun c=>?_⟩⟩)⟩
    rw [QE,decide_eq_false_iff_not] at c0
    have V0:d≠0:=fun z=>c0 (by rw [z];rfl)
    have c':¬(r > 4):=by simpa using c
    omega
   ·subst e2
    refine ⟨H0,p,a,kn,_,xs,rows,ns,kvs,x,d,rfl,W1.hn,by omega,W1.rt,hx,W1.kn,kk,gj,hd,fun v7 s7 H7 kq AU d_ dj=>?_⟩
    exact k v7 s7 H7 (kq.up (by dsimp only;omega)) (by omega) (d_.mono (by omega)) (W1.draw d_ dj).sm
  rintro σ' _ ⟨La,V1,rfl,rfl⟩
  obtain ⟨d',rfl⟩:∃ d',d=d'+1:=⟨d - 1,by omega⟩
  have eN:NN (d'+1)=12*NN d'+40:=rfl
  have ed:(((d'+1:Nat):Int)) - 1=(d':Int):=by omega
  have Lb:=j9 d'
  refine aM (fun σ' H'=>r≠0/\σ'=[some (.ref p),some (.ref a),some (.str x),some (.ref kn),some (.int ((d'+1:Nat):Int)),some (.int r),none,none,none,none,none,none,none]/\H1=H') ?_ ?_
  ·intro nx av
   refine ⟨rfl,_,rfl,aj (fun c=>?_) (fun c=>av _ _ ⟨fun z=>?_,rfl,rfl⟩)⟩
   ·refine ⟨H0,p,a,kn,_,xs,rows,ns,kvs,x,d'+1,rfl,W1.hn,by omega,W1.rt,hx,W1.kn,kk,gj,hd,fun v7 s7 H7 kq AU d_ dj=>⟨(show 3<=sizeLine by decide),fun q hq=>?_⟩⟩
    have sq:=aa.upd hq (.tup [.str "hold",v7,.str x])
    exact k _ (1+s7) _ ((dD (.hold aA (xA (W1.rt.wd _ hx))) (kq.tk sq.ts)).up (by dsimp only;omega)) (by omega) ((d_.same sq).mono (by omega)) ((W1.draw d_ dj).same sq).sm
   ·rw [z] at c;exact absurd c (by decide)
  rintro σ' _ ⟨V2,rfl,rfl⟩
  refine aM (fun σ' H'=>r≠1/\σ'=[some (.ref p),some (.ref a),some (.str x),some (.ref kn),some (.int ((d'+1:Nat):Int)),some (.int r),none,none,none,none,none,none,none]/\H1=H') ?_ ?_
  ·intro nx av
   refine ⟨rfl,_,rfl,aj (fun c=>?_) (fun c=>av _ _ ⟨fun z=>?_,rfl,rfl⟩)⟩
   ·refine aI ⟨H0,p,a,kn,_,xs,rows,ns,kvs,x,d'+1,rfl,W1.hn,by omega,W1.rt,hx,W1.kn,kk,gj,hd,fun v7 s7 H7 kq AU d_ dj=>?_⟩
    have W7:=W1.draw d_ dj
    refine ⟨(show 2<=sizeLine by decide),fun c1 h1=>⟨(show 0<=sizeLine by decide),fun c2 h2=>⟨(show 2<=sizeLine by decide),fun c3 h3=>⟨(show 2<=sizeLine by decide),fun c4 h4=>⟨(show 2<=sizeLine by decide),fun c5 h5=>⟨(show 2<=sizeLine by decide),fun c6 h6=>⟨(show 3<=sizeLine by decide),fun c7 h7=>?_⟩⟩⟩⟩⟩⟩⟩
    have t1:=aa.upd h1 (.tup [.str "a",v7])
    have f1:upd H7 c1 (.tup [.str "a",v7]) c1=some (.tup ([.str "a"]++[v7])):=aA
    generalize upd H7 c1 (.tup [.str "a",v7])=G1 at*
    have t2:=aa.upd h2 (.tup [])
    have f2:upd G1 c2 (.tup []) c2=some (.tup []):=aA
    generalize upd G1 c2 (.tup [])=G2 at*
    have t3:=aa.upd h3 (.tup [.str "box",.ref c2])
    have f3:upd G2 c3 (.tup [.str "box",.ref c2]) c3=some (.tup [.str "box",.ref c2]):=aA
    generalize upd G2 c3 (.tup [.str "box",.ref c2])=G3 at*
    have t4:=aa.upd h4 (.tup [.str "b",.ref c3])
    have f4:upd G3 c4 (.tup [.str "b",.ref c3]) c4=some (.tup ([.str "b"]++[.ref c3])):=aA
    generalize upd G3 c4 (.tup [.str "b",.ref c3])=G4 at*
    have t5:=aa.upd h5 (.tup [.ref c1,.ref c4])
    have f5:upd G4 c5 (.tup [.ref c1,.ref c4]) c5=some (.tup [.ref c1,.ref c4]):=aA
    generalize upd G4 c5 (.tup [.ref c1,.ref c4])=G5 at*
    have t6:=aa.upd h6 (.tup [.str "box",.ref c5])
    have f6:upd G5 c6 (.tup [.str "box",.ref c5]) c6=some (.tup [.str "box",.ref c5]):=aA
    generalize upd G5 c6 (.tup [.str "box",.ref c5])=G6 at*
    have t7:=aa.upd h7 (.tup [.str "part",.ref c6,.str "a"])
    have f7:upd G6 c7 (.tup [.str "part",.ref c6,.str "a"]) c7=some (.tup [.str "part",.ref c6,.str "a"]):=aA
    generalize upd G6 c7 (.tup [.str "part",.ref c6,.str "a"])=G7 at*
    have tt:=t1.trans (t2.trans (t3.trans (t4.trans (t5.trans (t6.trans t7)))))
    have rm:=(fh.nil (H:=G7) (dep:=4+3*(d'+1))).snoc (t7 _ _ (t6 _ _ (t5 _ _ (t4 _ _ (t3 _ _ (t2 _ _ f1)))))) (kq.tk tt.ts) (Qy _)
    have Tg:=rm.snoc (t7 _ _ (t6 _ _ (t5 _ _ f4))) ((kQ (t7 _ _ (t6 _ _ (t5 _ _ (t4 _ _ f3)))) (t7 _ _ (t6 _ _ (t5 _ _ (t4 _ _ (t3 _ _ f2)))))).up (by omega)) (Qy _)
    obtain ⟨sz,Bo,hs2⟩:=wF (ws:=["a","b"]) (t7 _ _ f6) (t7 _ _ (t6 _ _ f5)) Tg ⟨by decide+kernel,fun z hz=>rB z (List.mem_of_mem_take (i:=2) hz),by decide⟩
    exact k _ (1+sz) _ ((dD (.part f7 sZ) hs2).up (by omega)) (by omega) ((d_.same tt).mono (by omega)) (W7.same tt).sm
   ·rw [z] at c;exact absurd c (by decide)
  rintro σ' _ ⟨V3,rfl,rfl⟩
  refine aM (fun σ' H'=>r≠4/\σ'=[some (.ref p),some (.ref a),some (.str x),some (.ref kn),some (.int ((d'+1:Nat):Int)),some (.int r),none,none,none,none,none,none,none]/\H1=H') ?_ ?_
  ·intro nx av
   refine ⟨rfl,_,rfl,aj (fun c=>?_) (fun c=>av _ _ ⟨fun z=>?_,rfl,rfl⟩)⟩
   ·refine ⟨H0,p,a,kn,_,xs,rows,ns,kvs,x,d'+1,rfl,W1.hn,by omega,W1.rt,hx,W1.kn,kk,gj,⟨by omega,hd⟩,fun v7 s7 H7 kq AU d_ dj=>?_⟩
    exact k v7 s7 H7 (kq.up (by dsimp only;omega)) (by omega) (d_.mono (by omega)) (W1.draw d_ dj).sm
   ·rw [z] at c;exact absurd c (by decide)
  rintro σ' _ ⟨V4,rfl,rfl⟩
  refine aI ⟨H0,p,a,_,xs,rows,ns,WW,rfl,W1.hn,by omega,W1.rt,fun ot H2 HJ hn2 g_=>?_⟩
  have W2:=W1.draw hn2 g_
  have g2:=g1.ts (hn1.ts g_)
  refine aI ⟨kn,kvs,rfl,.inl W2.kn,fun l hl=>?_⟩
  have sl:=aa.upd hl (.dK kvs)
  have gl:upd H2 l (.dK kvs) l=some (.dK kvs):=aA
  have fl:=W2.free hl
  have Dm:kn≠l:=fun q=>by have:=W2.kn;rw [q,hl] at this;cases this
  have W3:=W2.same sl
  have g3:=g2.ts sl.ts
  generalize upd H2 l (.dK kvs)=H3 at sl gl W3 g3
  have zg:=W3.E5 gl
  refine aI ⟨H0,p,_,rfl,W3.hn,by omega,fun bn H4 wl iy jt=>?_⟩
  have W4:=W3.draw iy jt
  have g4:=g3.ts (W3.hn.ts jt)
  have Lu:=jt _ _ gl zg zg
  refine ⟨a,xs,rs,_,_,ot,rfl,g4,(hm ot).mp HJ,fun H5 s5=>⟨l,_,rfl,.inl ⟨kvs,.inr bn,s5 _ _ Lu,rfl,by omega,rfl⟩,?_⟩⟩
  have W6:=(W4.same s5).dput (uu:=putK kvs (.inr bn) (.str (eu (gi rows) rs.length ot))) (s5 _ _ Lu) fl Dm
  have Lv:upd H5 l (.dK (putK kvs (.inr bn) (.str (eu (gi rows) rs.length ot)))) l=some (.dK (putK kvs (.inr bn) (.str (eu (gi rows) rs.length ot)))):=aA
  generalize upd H5 l (.dK (putK kvs (.inr bn) (.str (eu (gi rows) rs.length ot))))=H6 at W6 Lv
  have Te:=lY (kvs:=kvs) bn (eu (gi rows) rs.length ot)
  dsimp only
  refine aI ⟨H0,p,a,kn,_,xs,rows,ns,kvs,ot,d',by rw [ed];rfl,W6.hn,by omega,W6.rt,HJ,W6.kn,kk,by omega,by omega,fun v7 s7 H7 kq AU d_ dj=>?_⟩
  have W7:=W6.draw d_ dj
  have E7:=dj _ _ Lv zg zg
  refine aI ⟨H0,p,a,l,_,xs,rows,ns,_,x,d',by rw [ed];rfl,W7.hn,by omega,W7.rt,hx,E7,kk.put _ (gF wl),by omega,by omega,fun v8 s8 H8 mk8 Ti Fb Fc=>?_⟩
  have W8:=MW.draw (K:=K) (H':=H8) W7 Fb Fc
  have HK:=kq.tk (W7.hn.ts Fc)
  refine aM (fun σ' H'=>σ'=[some (.ref p),some (.ref a),some (.str x),some (.ref kn),some (.int ((d'+1:Nat):Int)),some (.int r),some v8,some (.str ot),some (.ref l),some (.str bn),some v7,none,none]/\H8=H') ?_ ?_
  ·intro nx av
   refine ⟨rfl,_,rfl,aj (fun c=>?_) (fun c=>av _ _ ⟨rfl,rfl⟩)⟩
   refine ⟨(show 4<=sizeLine by decide),fun c1 h1=>⟨(show 3<=sizeLine by decide),fun c2 h2=>?_⟩⟩
   have t1:=aa.upd h1 (.tup [.str "fn",.str bn,.str ot,v8])
   have t2:=aa.upd h2 (.tup [.str "call",.ref c1,v7])
   have f1:=t2 _ _ (aA:upd H8 c1 (.tup [.str "fn",.str bn,.str ot,v8]) c1=_)
   have tt:=t1.trans t2
   have m1:=dD (.fn f1 (gF wl) (xA (W8.rt.wd _ HJ))) (mk8.tk tt.ts)
   exact k _ (1+(1+s8)+s7) _ ((rN (.call aA) m1 ((HK.tk tt.ts).up (by omega))).up (by dsimp only;omega)) (by omega) ((Fb.same tt).mono (by omega)) (W8.same tt).sm
  rintro σ' _ ⟨rfl,rfl⟩
  refine aI ⟨H0,p,3,_,rfl,W8.hn,⟨by decide,by decide⟩,by omega,fun ra H9 V5 V6 HF B7=>?_⟩
  have W9:=W8.draw HF B7
  have AV:=W8.hn.ts B7
  have Tj:=mk8.tk AV
  have Tn:=HK.tk AV
  obtain ⟨ia,rfl⟩:∃ i:Nat,ra=(i:Int):=⟨ra.toNat,by omega⟩
  have To:ia < 3:=by omega
  clear hn1 W1 W2 W3 W4 W6 W7 W8 mk8 HK
  refine aM (fun σ' H'=>∃ (C:Addr) (zs:List V),σ'=[some (.ref p),some (.ref a),some (.str x),some (.ref kn),some (.int ((d'+1:Nat):Int)),some (.int r),some v8,some (.str ot),some (.ref l),some (.str bn),some v7,some (.int (ia:Int)),some (.ref C)]/\C≠p/\H C=none/\H' C=some (.lst zs)/\zs.length=3/\ux H' W3 zs (4+3*d') (NN d')/\aa H9 H') ?_ ?_
  ·intro nx av
   refine ⟨(show 3<=sizeLine by decide),fun L hL=>Or.inl ⟨⟨_,ai.of aA⟩,fun D hD=>?_⟩⟩
   have sL:=aa.upd hL (.lst [.str "a",.str "b",.str "ba"])
   have gL:upd H9 L (.lst [.str "a",.str "b",.str "ba"]) L=some (.lst [.str "a",.str "b",.str "ba"]):=aA
   generalize upd H9 L (.lst [.str "a",.str "b",.str "ba"])=HL at sL gL hD
   have WL:=W9.same sL
   refine fK (dP [.str "a",.str "b",.str "ba"]) (fun i τ H'=>∃ (v0:Option V) (zs:List V),τ=[v0,some (.str bn)]/\H' D=some (.lst zs)/\zs.length=i/\ux H' (W3.take i) zs (4+3*d') (NN d')/\aa HL H') ⟨none,[],rfl,aA,rfl,⟨rfl,fun j hj=>absurd hj (by simp)⟩,aa.upd hD _⟩ (by rintro i τ H' _ ⟨_,_,_,_,_,_,s⟩;exact ai.of (s _ _ gL)) ?_ ?_
   ·rintro i τ G hi ⟨v0,zs,rfl,q1,q2,q3,q4⟩
    have Lw:i < 3:=hi
    obtain ⟨wd,ew,Fd⟩:∃ wd:Str,([.str "a",.str "b",.str "ba"]:List V).getD i .af=.str wd/\W3[i]? =some wd:=by
     rcases (show i=0\/i=1\/i=2 by omega) with rfl | rfl | rfl<;>exact ⟨_,rfl,rfl⟩
    rw [ew]
    refine ⟨(show 0<=sizeLine by decide),fun c1 h1=>⟨(show 2<=sizeLine by decide),fun c2 h2=>⟨(show 3<=sizeLine by decide),fun c3 h3=>⟨(show 3<=sizeLine by decide),fun c4 h4=>?_⟩⟩⟩⟩
    have t1:=aa.upd h1 (.tup [])
    have f1:upd G c1 (.tup []) c1=some (.tup []):=aA
    generalize upd G c1 (.tup [])=G1 at*
    have t2:=aa.upd h2 (.tup [.str "box",.ref c1])
    have f2:upd G1 c2 (.tup [.str "box",.ref c1]) c2=some (.tup [.str "box",.ref c1]):=aA
    generalize upd G1 c2 (.tup [.str "box",.ref c1])=G2 at*
    have t3:=aa.upd h3 (.tup [.str "part",.ref c2,.str "zz"])
    have f3:upd G2 c3 (.tup [.str "part",.ref c2,.str "zz"]) c3=some (.tup [.str "part",.ref c2,.str "zz"]):=aA
    generalize upd G2 c3 (.tup [.str "part",.ref c2,.str "zz"])=G3 at*
    have t4:=aa.upd h4 (.tup [.str wd,.str bn,.ref c3])
    have f4:upd G3 c4 (.tup [.str wd,.str bn,.ref c3]) c4=some (.tup [.str wd,.str bn,.ref c3]):=aA
    generalize upd G3 c4 (.tup [.str wd,.str bn,.ref c3])=G4 at*
    have tt:=t1.trans (t2.trans (t3.trans t4))
    have Lx:=tt _ _ q1
    have oh:Tk G4 (upd G4 D (.lst (zs++[.ref c4]))):=(Tk.refl).set Lx (by intro _ z;cases z)
    have m3:=((dD (.part (t4 _ _ f3) oB) (kQ (t4 _ _ (t3 _ _ f2)) (t4 _ _ (t3 _ _ (t2 _ _ f1))))).up (show 2<=4+3*d' by omega)).tk oh
    refine ⟨zs,Lx,by omega,_,zs++[.ref c4],rfl,aA,by simp [q2],⟨by simp [q2,W3];omega,fun j hj HH=>?_⟩,(q4.trans tt).put hD⟩
    by_cases uh:j < zs.length
    ·obtain ⟨c,z,m,s,e1,e2,e3,e4⟩:=((q3.tk tt.ts).tk oh).2 j uh (by have:=q3.1;omega)
     exact ⟨c,z,m,s,by rw [Qe uh];exact e1,by rw [List.getElem_take] at e2 ⊢;exact e2,e3,e4⟩
    ·obtain rfl:j=zs.length:=by simp at hj;omega
     subst q2
     have Tp:(W3.take (zs.length+1))[zs.length]'HH=wd:=by
      rw [List.getElem_take]
      exact QD ((Qa _).symm.trans Fd)
     exact ⟨c4,bn,.ref c3,2,by simp,by rw [Tp];exact oh _ _ f4,m3,by omega,gF wl⟩
   ·rintro τ G ⟨v0,zs,rfl,q1,q2,q3,q4⟩
    exact av _ _ ⟨D,zs,rfl,WL.hn.ne hD,WL.free hD,q1,q2,q3,sL.trans q4⟩
  rintro σ' G z0;refine hdn fun Gz9 zG9=>?_;obtain ⟨C,zs,rfl,nC,fC,gC,V7,hz,sG⟩:=z0;refine zG9 ?_
  have WG:=W9.same sG
  have Tq:=Tj.tk sG.ts
  have Tr:=Tn.tk sG.ts
  refine hdn fun Gz9 zG9=>?_;obtain ⟨cc,z,m,V8,e1,e2,e3,e4,_⟩:=hz.2 ia (by omega) To;refine zG9 ?_
  have Fd:bh W3[ia]:=rB _ (Qj _)
  have Ly:W3[ia]? =some W3[ia]:=Qa _
  generalize W3[ia]=wd at e2 Fd Ly
  refine ⟨zs,.ref cc,.inl (ai.of gC),cF (by rw [Qa (by omega),e1]),_,.str wd,.inr (ae.of e2),aO _ _,(show 3<=sizeLine by decide),fun c1 h1=>?_⟩
  have t1:=aa.upd h1 (.tup [.str wd,.str bn,v8])
  have f1:upd G c1 (.tup [.str wd,.str bn,v8]) c1=some (.tup [.str wd,.str bn,v8]):=aA
  have B4:=WG.same t1
  have Fe:=t1 _ _ gC
  have uv:=Tq.tk t1.ts
  have Lz:=Tr.tk t1.ts
  have hz1:=(hz.tk t1.ts).set (i:=ia) Ly f1 uv Ti (gF wl)
  generalize upd G c1 (.tup [.str wd,.str bn,v8])=G1 at t1 f1 B4 Fe uv Lz hz1
  refine ⟨C,zs,_,ia,rfl,rfl,Fe,tI (by omega),?_⟩
  have Ff:Tk G1 (upd G1 C (.lst (zs.set ia (.ref c1)))):=(Tk.refl).set Fe (by intro _ z;cases z)
  have HM:upd G1 C (.lst (zs.set ia (.ref c1))) C=some (.lst (zs.set ia (.ref c1))):=aA
  have zk:=B4.Dl (uu:=zs.set ia (.ref c1)) Fe fC nC
  have zm:=Lz.tk Ff
  have hz2:=hz1.tk Ff
  have f2:=Ff _ _ f1
  generalize upd G1 C (.lst (zs.set ia (.ref c1)))=G2 at Ff HM zk zm hz2 f2
  refine ⟨_,.ref c1,.inl (ai.of HM),cF (by rw [List.getElem?_set_self (by omega)]),_,.str wd,.inr (ae.of f2),aO _ _,(show 3<=sizeLine by decide),fun c2 h2=>?_⟩
  have t2:=aa.upd h2 (.tup [.str "pick",.str wd,v7])
  have f3:upd G2 c2 (.tup [.str "pick",.str wd,v7]) c2=some (.tup [.str "pick",.str wd,v7]):=aA
  generalize upd G2 c2 (.tup [.str "pick",.str wd,v7])=G3 at t2 f3
  refine ⟨C,_,rfl,Or.inl ⟨ai.of (t2 _ _ HM),fun r1 yf=>⟨(show 3<=sizeLine by decide),fun r2 ju=>?_⟩⟩⟩
  have t3:=aa.upd yf (.tup (zs.set ia (.ref c1)))
  have t4:=aa.upd ju (.tup [.str "split",.ref c2,.ref r1])
  have f4:=t4 _ _ (aA:upd G3 r1 (.tup (zs.set ia (.ref c1))) r1=_)
  have tt:=t3.trans t4
  obtain ⟨cs,LA,uw,zo⟩:=hz2.row 3 (by simp;omega)
  rw [List.take_of_length_le (by simp;omega)] at LA
  have B8:AQ cs:=⟨by rw [uw];decide+kernel,fun c hc=>⟨rB _ (List.mem_of_mem_take (i:=3) (uw▸List.mem_map.mpr ⟨c,hc,rfl⟩)),zo c hc⟩,by have:=congrArg List.length uw;simp [W3] at this;omega⟩
  have mp:=dD (.pick (tt _ _ f3) Fd) (zm.tk (t2.trans tt).ts)
  obtain ⟨sz,Bo,hs2⟩:=lR aA f4 mp ((LA.tk (t2.trans tt).ts).BV (show 4+3*d'<=4+3*d'+1 by omega) (Qy _)) B8
  have LB:=zk.same (t2.trans tt)
  exact k _ sz _ (hs2.up (by dsimp only;omega)) (by omega) (LB.hn.mono (by omega)) LB.sm
theorem z9 (T:Txt K mg w):∀ n:Nat,ak P w K mg base (6+3*n) "_law_for" ["_law_pen","_law_told","_law_name","_law_known","_law_deep"] (AR K n)/\ak P w K mg base (8+3*n) "_law_wrapped" ["_law_pen","_law_told","_law_name","_law_known","_law_deep"] (Dk K n):=by
 intro n
 have wr:∀ n,ak P w K mg base (6+3*n) "_law_for" ["_law_pen","_law_told","_law_name","_law_known","_law_deep"] (AR K n)->ak P w K mg base (8+3*n) "_law_wrapped" ["_law_pen","_law_told","_law_name","_law_known","_law_deep"] (Dk K n):=fun n F=>(kI T n F (iG T n F)).mono (by omega)
 induction n with
 | zero=>
  have F:ak P w K mg base (6+3*0) "_law_for" ["_law_pen","_law_told","_law_name","_law_known","_law_deep"] (AR K 0):=by
   refine T.nG.dh (k:=5) bR (fun vs H Q E h=>?_) (fun f ao A outer s H vs Q E hr h=>?_)
   ·refine hdn fun Gz9 zG9=>?_;obtain ⟨H0,p,a,kn,t,xs,rows,ns,kvs,x,d,rfl,_⟩:=h;refine zG9 ?_
    rfl
   ·refine hdn fun Gz9 zG9=>?_;obtain ⟨H0,p,a,kn,t,xs,rows,ns,kvs,x,d,rfl,hn,ht,rt,hx,hk,kk,gj,hd,k⟩:=h;refine zG9 ?_
    exact absurd hd (Nat.not_lt_zero _)
  exact ⟨F,wr 0 F⟩
 | succ n ih=>
  have F:=(oU T n ih.1 ih.2).mono (show 8+3*n+1<=6+3*(n+1) by omega)
  exact ⟨F,wr (n+1) F⟩
def LC (K:QZ):Sp:=fun vs H Q _=>∃ (H0:Hp) (p a:Addr) (t:Nat) (xs:List V) (rows:List cj) (ns:List Str) (x:Str),vs=[.ref p,.ref a,.str x]/\bu K H0 H p t/\t+80000 < 900000/\RT H a xs rows ns WW/\x∈ns/\
 ∀ (v:V) (s:Nat) (H':Hp),fi H' 15 s v->s<=30->bu K H0 H' p (t+80000)->Sm p p H H'->Q v H'
set_option maxHeartbeats 2000000 in
theorem iK (T:Txt K mg w):ak P w K mg base 21 "_law_small_maker" ["_law_pen","_law_told","_law_name"] (LC K):=by
 have cM:ak P w K mg base 20 "_law_wrapped" ["_law_pen","_law_told","_law_name","_law_known","_law_deep"] (Dk K 4):=(z9 T 4).2
 have iJ:ak P w K mg base 17 "_law_many" ["_law_maker"] (Hh 15):=pJ T 15
 have dY:ak P w K mg base 1 "_law_endless" [] Hq:=fO T
 refine T.iM.dh cO (fun vs H Q E h=>?_) (fun f ao A outer s H vs Q E hr h=>?_)
 ·refine hdn fun Gz9 zG9=>?_;obtain ⟨H0,p,a,t,xs,rows,ns,x,rfl,_⟩:=h;refine zG9 ?_
  rfl
 ·refine hdn fun Gz9 zG9=>?_;obtain ⟨H0,p,a,t,xs,rows,ns,x,rfl,hn,ht,rt,hx,k⟩:=h;refine zG9 ?_
  have hsz:sizeLine=16777216:=QL
  have nb:∀ d,d<=3->NN d<=23560:=by decide
  refine ⟨_,(aE (jZ PassesOwn.never rfl (qW K (cA (aC aF (aC aF (aC aF aD))))) (aY (i:=3) cO.nd rfl (Or.inl rfl)) (aE (aX (i:=4) cO.nd rfl (Or.inl rfl) (bB cM (hr.mono (by decide)) (aB (zv 0) (aB (zv 1) (aB (zv 2) (zA OL (aB (zv 3) aD)))))))
   (aG (bM (aL Ox (bB iJ (hr.mono (by decide)) (aB (zv 4) aD)) aF (bf _)) (aG (aW (zv 4))) aZ))))
   (aG (aW (zH dY (hr.mono (by decide)))))),?_⟩
  refine aM (fun σ' H'=>∃ v3 v4,σ'=[some (.ref p),some (.ref a),some (.str x),v3,v4]/\bu K H0 H' p (t+72000)/\Sm p p H H') ?_ ?_
  ·intro nx av
   refine ⟨(show 3<=sizeLine by decide),fun L hL=>Or.inl ⟨⟨_,ai.of aA⟩,?_⟩⟩
   have sL:=aa.upd hL (.lst [.int 3,.int 2,.int 1])
   have gL:upd H L (.lst [.int 3,.int 2,.int 1]) L=some (.lst [.int 3,.int 2,.int 1]):=aA
   have nL:=hn.ne hL
   have hn1:=hn.same sL
   generalize upd H L (.lst [.int 3,.int 2,.int 1])=H1 at sL gL hn1
   refine kZ (dP [.int 3,.int 2,.int 1]) (fun i σ' H'=>∃ v3 v4,σ'=[some (.ref p),some (.ref a),some (.str x),v3,v4]/\bu K H0 H' p (t+i*24000)/\Sm p p H1 H') ⟨none,none,rfl,by simpa using hn1,Sm.refl⟩ (by rintro i τ H' _ ⟨_,_,_,_,s⟩;exact ai.of (s _ _ gL nL nL)) ?_ ?_
   ·rintro i σ' H2 hi ⟨v3,v4,rfl,hn2,g_⟩
    have Lw:i < 3:=hi
    obtain ⟨d,Tt,ew⟩:∃ d:Nat,d<=3/\([.int 3,.int 2,.int 1]:List V).getD i .af=.int (d:Int):=by
     rcases (show i=0\/i=1\/i=2 by omega) with rfl | rfl | rfl
     ·exact ⟨3,by decide,rfl⟩
     ·exact ⟨2,by decide,rfl⟩
     ·exact ⟨1,by decide,rfl⟩
    rw [ew]
    have hN:=nb d Tt
    have AH:=sL.sm.trans g_
    refine aI fun kn Tu=>?_
    have sk:=aa.upd Tu (.dK [])
    have gk:upd H2 kn (.dK []) kn=some (.dK []):=aA
    have qw:=hn2.same sk
    have LD:=(rt.tk (hn.ts AH)).tk sk.ts
    generalize upd H2 kn (.dK [])=H3 at sk gk qw LD
    refine ⟨H0,p,a,kn,_,xs,rows,ns,[],x,d,rfl,qw,by dsimp only;omega,LD,hx,gk,(fun e he=>nomatch he),by simp;omega,by dsimp only;omega,fun v4 s4 H4 Ds Lh iy jt=>?_⟩
    dsimp only at Ds Lh iy
    have C_:=(AH.trans sk.sm).trans jt
    refine ⟨v4,s4,rfl,(Ds.up (by omega)).GA,fun H5 s5=>⟨_,rfl,aj (fun c=>?_) (fun _=>⟨_,_,rfl,(iy.same s5).mono (by rw [Nat.succ_mul];omega),(g_.trans sk.sm).trans (jt.trans s5.sm)⟩)⟩⟩
    have c':(s4:Int)<=30:=by simpa using c
    exact k v4 s4 H5 ((Ds.tk s5.ts).up (by omega)) (by omega) ((iy.same s5).mono (by omega)) (C_.trans s5.sm)
   ·rintro σ' H2 ⟨v3,v4,rfl,hn2,g_⟩
    exact av _ _ ⟨v3,v4,rfl,hn2.mono (by simp),sL.sm.trans g_⟩
  ·rintro σ' H2 ⟨v3,v4,rfl,hn2,g_⟩
   refine ⟨rfl,fun v3 H3 s3 mk3=>?_⟩
   exact k v3 9 H3 (mk3.up (by omega)) (by omega) ((hn2.same s3).mono (by omega)) (g_.trans s3.sm)
theorem vN {ns:List Int} (hs:ai K H a (ns.map V.int)) (hp:H p=none):bu K H (upd H p (.lst [.ref a,.int 0,.int 0])) p 0:=by
 refine ⟨⟨a,ns,0,0,aA,fun H' sm=>?_,by omega,by omega⟩,(aa.upd hp _).sm⟩
 rcases hs with h | h
 ·refine .inl ?_
  have n:a≠p:=fun z=>by rcases h with h | ⟨o,h⟩<;>(rw [z,hp] at h;cases h)
  exact h.imp (fun e=>sm _ _ e n n) fun ⟨o,e⟩=>⟨o,sm _ _ e n n⟩
 ·exact .inr h
def Fg (H:Hp) (w:Str) (x:V) (nk:List V):Prop:=(w="maker"/\∃ y,nk=[y])\/((w="parts"\/w="cases")/\∃ b rows ls ms,x=.ref b/\H b=some (.tup rows)/\ql H ls rows ms/\rows.length=nk.length/\rows.length<=1000/\∀ l∈ls,l.length<=2)\/((w="name"\/w="row")/\nk=[])
def oi (H:Hp) (w:Str) (x:V) (nk:List V) (x':V):Prop:=(w="maker"/\nk=[x'])\/((w="parts"\/w="cases")/\∃ b rows ls ms b' rows',x=.ref b/\H b=some (.tup rows)/\ql H ls rows ms/\x'=.ref b'/\H b'=some (.tup rows')/\ql H ls rows' nk)\/((w="name"\/w="row")/\nk=[]/\x'=x)
theorem oi.tk {H H':Hp} {w:Str} {x x':V} {nk:List V} (h:oi H w x nk x') (s:Tk H H'):oi H' w x nk x':=by
 rcases h with h | ⟨h,b,rows,ls,ms,b',rows',h1,h2,h3,h4,h5,h6⟩ | h
 ·exact .inl h
 ·exact .inr (.inl ⟨h,b,rows,ls,ms,b',rows',h1,s _ _ h2,h3.tk s,h4,s _ _ h5,h6.tk s⟩)
 ·exact .inr (.inr h)
structure Tw (K:QZ) (H:Hp) (kvs:List (Key×V)) (v:V) (f:bq) (ns:List V) (t:Addr) (w:Str) (ck:List Str) (xs:List V) (nss:List (List V)):Prop where
 vl:c_ kvs (.inr w)=some (.ref t)
 at_:∃ a,v=.ref a/\H a=some (.tup (.str w::xs))
 sq:∀ H,ae K H t (ck.map V.str)
 l1:xs.length=ck.length
 l2:nss.length=ck.length
 ct:∀ i (h:i < ck.length) (h1:i < xs.length) (h2:i < nss.length),Fg H ck[i] xs[i] nss[i]
 fl:nss.flatten=ns
 few:ck.length<=3
 fin:∀ H' v' a' (xs':List V),v'=.ref a'->H' a'=some (.tup (.str w::xs'))->xs'.length=ck.length->(∀ i (h:i < ck.length) (h1:i < xs.length) (h2:i < nss.length) (h3:i < xs'.length),oi H' ck[i] xs[i] nss[i] xs'[i])->Tk H H'->fm H' v' f ns
def HN:Sp:=fun vs H Q _=>∃ (v:V) (f:bq) (ks ns:List V) (L:Addr),vs=[v,.ref L]/\fm H v f ks/\f.ok/\H L=some (.lst ns)/\ns.length=f.ar/\∀ v' H',aa H H'->fm H' v' f ns->Q v' H'
theorem kU {x x':V} {nk:List V} (h:oi H "maker" x nk x'):nk=[x']:=by
 rcases h with h | ⟨h,_⟩ | ⟨h,_⟩
 ·exact h.2
 ·rcases h with h | h<;>exact absurd h (by decide+kernel)
 ·rcases h with h | h<;>exact absurd h (by decide+kernel)
theorem mR {w:Str} {x x':V} {nk:List V} (hw:w="name"\/w="row") (h:oi H w x nk x'):x'=x:=by
 rcases h with ⟨h,_⟩ | ⟨h,_⟩ | h
 ·rcases hw with rfl | rfl<;>exact absurd h (by decide+kernel)
 ·rcases hw with rfl | rfl<;>rcases h with h | h<;>exact absurd h (by decide+kernel)
 ·exact h.2.2
theorem zN {w:Str} {rows:List V} {ls:List (List V)} {ms nk:List V} {x':V} (hw:w="parts"\/w="cases") (hb:H b=some (.tup rows)) (hr:ql H ls rows ms) (h:oi H w (.ref b) nk x'):∃ b' rows',x'=.ref b'/\H b'=some (.tup rows')/\rows'.length=nk.length/\rows.length=nk.length/\∀ i (h1:i < rows'.length) (h2:i < nk.length) (h3:i < ls.length),∃ c,rows'[i]=.ref c/\H c=some (.tup (ls[i]++[nk[i]])):=by
 rcases h with ⟨h,_⟩ | ⟨_,b0,rows0,Tz,Dv,b',rows',h1,h2,h3,h4,h5,h6⟩ | ⟨h,_⟩
 ·rcases hw with rfl | rfl<;>exact absurd h (by decide+kernel)
 ·cases h1
  rw [hb] at h2
  cases h2
  have k1:=hr.l1
  have k2:=hr.l2
  have k3:=h3.l1
  have k4:=h3.l2
  have k5:=h6.l1
  have k6:=h6.l2
  refine ⟨b',rows',h4,h5,h6.l1,by omega,fun i a1 a2 a3=>?_⟩
  obtain ⟨c,c1,c2⟩:=h6.at_ i a1 a2 (by omega)
  obtain ⟨d,d1,d2⟩:=hr.at_ i (by omega) (by omega) a3
  obtain ⟨d',e1,e2⟩:=h3.at_ i (by omega) (by omega) (by omega)
  rw [d1] at e1
  cases e1
  rw [d2] at e2
  have e3:=HO.tup.inj (QD e2)
  have e4:ls[i]=Tz[i]:=(List.append_inj_left' e3 rfl)
  rw [e4]
  exact ⟨c,c1,c2⟩
 ·rcases hw with rfl | rfl<;>rcases h with h | h<;>exact absurd h (by decide+kernel)
theorem TF (l:List α) (i:Nat) (h:i < l.length):l.take (i+1)=l.take i++[l[i]]:=by rw [Qs,Qa h];rfl
theorem wo {l:List α} (h:l.length=1):∃ a,l=[a]:=by
 match l,h with
 | [a],_=>exact ⟨a,rfl⟩
theorem AZ {l:List α} (h:l.length=2):∃ a b,l=[a,b]:=by
 match l,h with
 | [a,b],_=>exact ⟨a,b,rfl⟩
theorem TJ {l:List α} (h:l.length=3):∃ a b c,l=[a,b,c]:=by
 match l,h with
 | [a,b,c],_=>exact ⟨a,b,c,rfl⟩
theorem TL {K:QZ} {v:V} {f:bq} {ks ns:List V} {t0 t1 t2 t3 t4 t5 t6 t7:Addr} (sh:fm H v f ks) (ok:f.ok) (hl:ns.length=f.ar) (q0:∀ H,ae K H t0 [.str "name"]) (q1:∀ H,ae K H t1 [.str "name",.str "row",.str "maker"]) (q2:∀ H,ae K H t2 [.str "maker",.str "maker"]) (q3:∀ H,ae K H t3 [.str "parts"]) (q4:∀ H,ae K H t4 [.str "maker",.str "name"]) (q5:∀ H,ae K H t5 [.str "name",.str "maker"]) (q6:∀ H,ae K H t6 [.str "maker",.str "cases"]) (q7:∀ H,ae K H t7 [.str "maker",.str "row"]):
  ∃ t ww ck xs nss,Tw K H (K1 t0 t1 t2 t3 t4 t5 t6 t7) v f ns t ww ck xs nss:=by
 have cm:∀ {x y:V},Fg H "maker" x [y]:=.inl ⟨rfl,_,rfl⟩
 have cn:∀ {x:V},Fg H "name" x []:=.inr (.inr ⟨.inl rfl,rfl⟩)
 have cr:∀ {x:V},Fg H "row" x []:=.inr (.inr ⟨.inr rfl,rfl⟩)
 have nm:("name":Str)="name"\/("name":Str)="row":=.inl rfl
 have rw_:("row":Str)="name"\/("row":Str)="row":=.inr rfl
 cases sh with
 | @get a z e=>
  obtain rfl:=QR hl
  refine ⟨t0,"get",["name"],[.str z],[[]],rfl,⟨a,rfl,e⟩,q0,rfl,rfl,fun i h h1 h2=>?_,rfl,by simp,fun H' v' a' xs' ev e' l' o s=>?_⟩
  ·obtain rfl:i=0:=by simp at h;omega
   exact cn
  ·obtain ⟨x0,rfl⟩:=wo l'
   have:=mR nm (o 0 (by simp) (by simp) (by simp) (by simp))
   subst ev
   simp at this
   rw [this] at e'
   exact .get e'
 | @fn a z r m e=>
  obtain ⟨y,rfl⟩:=wo (show ns.length=1 from hl)
  refine ⟨t1,"fn",["name","row","maker"],[.str z,.str r,m],[[],[],[y]],rfl,⟨a,rfl,e⟩,q1,rfl,rfl,fun i h h1 h2=>?_,rfl,by simp,fun H' v' a' xs' ev e' l' o s=>?_⟩
  ·rcases (show i=0\/i=1\/i=2 by simp at h;omega) with rfl | rfl | rfl
   ·exact cn
   ·exact cr
   ·exact cm
  ·obtain ⟨x0,x1,x2,rfl⟩:=TJ l'
   have h0:=mR nm (o 0 (by simp) (by simp) (by simp) (by simp))
   have h1:=mR rw_ (o 1 (by simp) (by simp) (by simp) (by simp))
   have h2:=kU (o 2 (by simp) (by simp) (by simp) (by simp))
   subst ev
   simp at h0 h1 h2
   subst h0 h1 h2
   exact .fn e'
 | @call a f x e=>
  obtain ⟨y0,y1,rfl⟩:=AZ (show ns.length=2 from hl)
  refine ⟨t2,"call",["maker","maker"],[f,x],[[y0],[y1]],rfl,⟨a,rfl,e⟩,q2,rfl,rfl,fun i h h1 h2=>?_,rfl,by simp,fun H' v' a' xs' ev e' l' o s=>?_⟩
  ·rcases (show i=0\/i=1 by simp at h;omega) with rfl | rfl<;>exact cm
  ·obtain ⟨x0,x1,rfl⟩:=AZ l'
   have h0:=kU (o 0 (by simp) (by simp) (by simp) (by simp))
   have h1:=kU (o 1 (by simp) (by simp) (by simp) (by simp))
   subst ev
   simp at h0 h1
   subst h0 h1
   exact .call e'
 | @fb a b ws xs ms e e2 rm=>
  have l1:=rm.l1
  have l2:=rm.l2
  have l3:(jh ws).length=ws.length:=by simp [jh]
  have hl:ns.length=ws.length:=hl
  refine ⟨t3,"box",["parts"],[.ref b],[ns],rfl,⟨a,rfl,e⟩,q3,rfl,rfl,fun i h h1 h2=>?_,by simp,by simp,fun H' v' a' xs' ev e' l' o s=>?_⟩
  ·obtain rfl:i=0:=by simp at h;omega
   refine .inr (.inl ⟨.inl rfl,b,xs,_,ks,rfl,e2,rm,?_,?_,fun l hl'=>?_⟩)
   ·show xs.length=ns.length;omega
   ·have:=ok.2.2;omega
   ·obtain ⟨z,_,rfl⟩:=List.mem_map.mp hl';simp
  ·obtain ⟨x0,rfl⟩:=wo l'
   obtain ⟨b',rows',h1,h2,h3,h4,h5⟩:=zN (.inl rfl) (s _ _ e2) (rm.tk s) (o 0 (by simp) (by simp) (by simp) (by simp))
   subst ev
   simp at h1 h3 h5
   subst h1
   exact .fb e' h2 ⟨h3,by omega,h5⟩
 | @part a m z e=>
  obtain ⟨y,rfl⟩:=wo (show ns.length=1 from hl)
  refine ⟨t4,"part",["maker","name"],[m,.str z],[[y],[]],rfl,⟨a,rfl,e⟩,q4,rfl,rfl,fun i h h1 h2=>?_,rfl,by simp,fun H' v' a' xs' ev e' l' o s=>?_⟩
  ·rcases (show i=0\/i=1 by simp at h;omega) with rfl | rfl
   ·exact cm
   ·exact cn
  ·obtain ⟨x0,x1,rfl⟩:=AZ l'
   have h0:=kU (o 0 (by simp) (by simp) (by simp) (by simp))
   have h1:=mR nm (o 1 (by simp) (by simp) (by simp) (by simp))
   subst ev
   simp at h0 h1
   subst h0 h1
   exact .part e'
 | @pick a z m e=>
  obtain ⟨y,rfl⟩:=wo (show ns.length=1 from hl)
  refine ⟨t5,"pick",["name","maker"],[.str z,m],[[],[y]],rfl,⟨a,rfl,e⟩,q5,rfl,rfl,fun i h h1 h2=>?_,rfl,by simp,fun H' v' a' xs' ev e' l' o s=>?_⟩
  ·rcases (show i=0\/i=1 by simp at h;omega) with rfl | rfl
   ·exact cn
   ·exact cm
  ·obtain ⟨x0,x1,rfl⟩:=AZ l'
   have h0:=mR nm (o 0 (by simp) (by simp) (by simp) (by simp))
   have h1:=kU (o 1 (by simp) (by simp) (by simp) (by simp))
   subst ev
   simp at h0 h1
   subst h0 h1
   exact .pick e'
 | @split a b cs m xs ms e e2 rm=>
  have l1:=rm.l1
  have l2:=rm.l2
  have l3:(gy cs).length=cs.length:=by simp [gy]
  have hl:ns.length=cs.length+1:=hl
  obtain ⟨y,ns',rfl⟩:∃ y ns',ns=y::ns':=List.exists_cons_of_ne_nil fun z=>by rw [z] at hl;simp at hl
  have hl:ns'.length=cs.length:=by simpa using hl
  refine ⟨t6,"split",["maker","cases"],[m,.ref b],[[y],ns'],rfl,⟨a,rfl,e⟩,q6,rfl,rfl,fun i h h1 h2=>?_,by simp,by simp,fun H' v' a' xs' ev e' l' o s=>?_⟩
  ·rcases (show i=0\/i=1 by simp at h;omega) with rfl | rfl
   ·exact cm
   ·refine .inr (.inl ⟨.inr rfl,b,xs,_,ms,rfl,e2,rm,?_,?_,fun l hl'=>?_⟩)
    ·show xs.length=ns'.length;omega
    ·have:=ok.2.2;omega
    ·obtain ⟨z,_,rfl⟩:=List.mem_map.mp hl';simp
  ·obtain ⟨x0,x1,rfl⟩:=AZ l'
   have h0:=kU (o 0 (by simp) (by simp) (by simp) (by simp))
   obtain ⟨b',rows',h1,h2,h3,h4,h5⟩:=zN (.inr rfl) (s _ _ e2) (rm.tk s) (o 1 (by simp) (by simp) (by simp) (by simp))
   subst ev
   simp at h0 h1 h3 h5
   subst h0 h1
   exact .split e' h2 ⟨h3,by omega,h5⟩
 | @hold a m z e=>
  obtain ⟨y,rfl⟩:=wo (show ns.length=1 from hl)
  refine ⟨t7,"hold",["maker","row"],[m,.str z],[[y],[]],rfl,⟨a,rfl,e⟩,q7,rfl,rfl,fun i h h1 h2=>?_,rfl,by simp,fun H' v' a' xs' ev e' l' o s=>?_⟩
  ·rcases (show i=0\/i=1 by simp at h;omega) with rfl | rfl
   ·exact cm
   ·exact cr
  ·obtain ⟨x0,x1,rfl⟩:=AZ l'
   have h0:=kU (o 0 (by simp) (by simp) (by simp) (by simp))
   have h1:=mR rw_ (o 1 (by simp) (by simp) (by simp) (by simp))
   subst ev
   simp at h0 h1
   subst h0 h1
   exact .hold e'
theorem fP (T:Txt K mg w):ak P w K mg base 1 "with_makers" ["maker","inner"] HN:=by
 refine T.mH.dh bQ (fun vs H Q E h=>?_) (fun f ao A outer s H vs Q E hr h=>?_)
 ·obtain ⟨v,f,ks,ns,L,rfl,_⟩:=h
  rfl
 ·refine hdn fun Gz9 zG9=>?_;obtain ⟨v,f,ks,ns,L,rfl,sh,ok,gL,hl,k⟩:=h;refine zG9 ?_
  have hu:=bG hr
  have bg:=Qx (bG hr)
  have hsz:sizeLine=16777216:=QL
  refine hdn fun Gz9 zG9=>?_;obtain ⟨aP,t0,t1,t2,t3,t4,t5,t6,t7,Hi,Hj,q0,q1,q2,q3,q4,q5,q6,q7⟩:=T.pE;refine zG9 ?_
  have Ho:∃ a,mg "PLACES"=some (.ref a)/\KD w K a _:=⟨aP,Hi,Hj⟩
  refine ⟨_,(aE (aX (i:=2) bQ.nd rfl (Or.inl rfl) (cA (aH (aU (aV K) (zv 0) aF (fun _ _=>rfl)) aD)))
   (aE (aX (i:=3) bQ.nd rfl (Or.inl rfl) aF)
   (aE (jZ PassesOwn.never rfl (wU true true K (by rfl) T.ER (aH (wG Ho (aU (aV K) (zv 0) aF (fun _ _=>rfl)) (fun _ _=>rfl)) (aH (eP (rH K) (zv 0) (f9 aF) fA) aD))) (dG K (n:=2) rfl (bA (aY (i:=4) bQ.nd rfl (Or.inl rfl)) (bA (aY (i:=5) bQ.nd rfl (Or.inl rfl)) cL))) (aG (bM (aL (bD bg) (zv 4) aJ (bf _)) (aE (cV (jM K QH QJ QK cE (zv 2) (aH (aU (aV K) (zv 1) (zv 3) (fun _ _=>rfl)) aD)))
   (aG (qL (i:=3) bQ.nd rfl (Or.inl rfl) aF nQ))) (aG (bM (aL (nW K) (zv 4) (aS (aC aJ (aC aJ aD))) rfl) (aE (cV (jM K QH QJ QK cE (zv 2) (bF (bU (cX K) (by rfl) T.fE QG (d9 (oO (own:=["row","other"]) (idx:=[]) (N':=["row","other"]) (dE (az d4) (["maker","inner","made","at","what","one"]:List Str) (by decide+kernel)) rfl (wU true false K (by rfl) T.ER (aB (zv 5) (aH (eP (rH K) (zv 1) (f9 (zv 3)) fA) aD))) (fun _ _ _ _ _ _=>(dG K (n:=2) rfl (bA (aY (i:=0) (show List.Nodup (["row","other"]:List Str) by decide+kernel) rfl (Or.inl rfl)) (bA (aY (i:=1) (show List.Nodup (["row","other"]:List Str) by decide+kernel) rfl (Or.inl rfl)) cL)))) (fun _ _ _ _ _ _=>eL) (fun _ _ _ _ _ _=>(bS (yK K) (eP (rH K) (zv 0) fA (f9 (Ga rR aF))) (aS (aB (zv 1) aD))))) aD)) aD)))
   (aG (qL (i:=3) bQ.nd rfl (Or.inl rfl) (bV (bN K) (by rfl) T.nv PySem.boot_len (aB (zv 5) aD)) nQ))) (aG (cV (jM K QH QJ QK cE (zv 2) (aB (zv 5) aD)))))))))
   (aG (aW (bU (cX K) (by rfl) T.fE QG (aB (zv 2) aD))))))),?_⟩
  obtain ⟨t,ww,ck,xs,nss,mo⟩:=TL sh ok hl q0 q1 q2 q3 q4 q5 q6 q7
  obtain ⟨a,rfl,ea⟩:=mo.at_
  have qc:=mo.few
  have fg:=mo.l1
  have i_:=mo.l2
  refine aI ⟨_,.str ww,.inr (ae.of ea),aO _ _,(show 1<=sizeLine by decide),fun M hM=>?_⟩
  have s0:=aa.upd hM (.lst [.str ww])
  have gM:upd H M (.lst [.str ww]) M=some (.lst [.str ww]):=aA
  dsimp only
  generalize upd H M (.lst [.str ww])=H1 at s0 gM
  refine aI ?_
  refine aM (fun σ' H'=>∃ (v3 v4 v5:Option V) (xs':List V),σ'=[some (.ref a),some (.ref L),some (.ref M),v3,v4,v5]/\H' M=some (.lst (.str ww::xs'))/\xs'.length=ck.length/\(∀ i (h:i < ck.length) (h1:i < xs.length) (h2:i < nss.length) (h3:i < xs'.length),oi H' ck[i] xs[i] nss[i] xs'[i])/\aa H H') ?_ ?_
  ·intro nx av
   refine ⟨_,_,.inr (ae.of (s0 _ _ ea)),aO _ _,_,_,rfl,mo.vl,?_⟩
   refine ⟨1,rfl,?_⟩
   refine Or.inr (Or.inr ⟨a,_,rfl,ae.of (s0 _ _ ea),by simp [HT.bj],fun p hp=>?_⟩)
   have AL:f_ (V.str ww::xs) (some 1) none=xs:=by simp [f_,HT.bj]
   rw [AL]
   have s1:=aa.upd hp (.tup xs)
   have gp:upd H1 p (.tup xs) p=some (.tup xs):=aA
   have LF:=s1 _ _ gM
   generalize upd H1 p (.tup xs)=H2 at s1 gp LF
   have s2:=s0.trans s1
   have TM:p≠M:=fun z=>by rw [z,gM] at hp;cases hp
   refine ⟨t,p,_,_,rfl,mo.sq _,ae.of gp,l6 (rJ (ck.map V.str) xs) (fun i σ' H'=>∃ (v4 v5:Option V) (xs':List V),σ'=[some (.ref a),some (.ref L),some (.ref M),some (.int ((nss.take i).flatten.length:Nat)),v4,v5]/\H' M=some (.lst (.str ww::xs'))/\xs'.length=i/\(∀ j (h:j < ck.length) (h1:j < xs.length) (h2:j < nss.length) (h3:j < xs'.length),oi H' ck[j] xs[j] nss[j] xs'[j])/\aa H H'/\H' p=some (.tup xs)) ⟨_,_,[],rfl,LF,rfl,fun j _ _ _ h=>absurd h (by simp),s2,gp⟩ (by rintro i τ H' _ ⟨_,_,_,_,_,_,_,_,g⟩;exact ⟨mo.sq _,ae.of g⟩) ?_ ?_⟩
   ·rintro i σ' H3 tt hi ⟨v4,v5,xs',rfl,g1,hx',ho,s3,AN⟩ ye
    have gf:i < ck.length:=by simp at hi;omega
    have ew:(ck.map V.str).getD i .af=.str ck[i]:=by rw [Qb,Qq,Qa gf];rfl
    have ex:xs.getD i .af=xs[i]:=by rw [Qb,Qa (by omega)];rfl
    rw [ew,ex]
    have st:=aa.upd ye (.tup [.str ck[i],xs[i]])
    have g4:=st _ _ g1
    have AO:=st _ _ AN
    have s4:=s3.trans st
    have ho:=fun j h h1 h2 h3=>(ho j h h1 h2 h3).tk st.ts
    generalize upd H3 tt (.tup [.str ck[i],xs[i]])=H4 at st s4 g4 AO ho
    have ct:=mo.ct i gf (by omega) (by omega)
    have wj:(nss.take (i+1)).flatten=(nss.take i).flatten++nss[i]:=by rw [TF _ i (by omega),List.flatten_append];simp
    have LG:ns=(nss.take i).flatten++(nss[i]++(nss.drop (i+1)).flatten):=by
     rw [<- mo.fl]
     conv=>lhs;rw [<- List.take_append_drop i nss,List.drop_eq_getElem_cons (show i < nss.length by omega)]
     rw [List.flatten_append,List.flatten_cons]
    have LH:=s4 _ _ gL
    have V9:M≠L:=fun z=>by rw [z,gL] at hM;cases hM
    have SJ:ns.length<=1001:=by
     rw [hl]
     cases f<;>simp only [bq.ar]<;>(try omega)
     ·exact Nat.le_trans ok.2.2 (by decide)
     ·exact Nat.succ_le_succ ok.2.2
    have push:∀ {x':V} {H5:Hp},aa H4 H5->oi H5 ck[i] xs[i] nss[i] x'->H5 M=some (.lst (.str ww::xs'))->∀ v4 v5:Option V,∃ (TN TQ:Option V) (ys:List V),[some (V.ref a),some (.ref L),some (.ref M),some (.int ((nss.take (i+1)).flatten.length:Nat)),v4,v5]=[some (.ref a),some (.ref L),some (.ref M),some (.int ((nss.take (i+1)).flatten.length:Nat)),TN,TQ]/\upd H5 M (.lst (.str ww::xs'++[x'])) M=some (.lst (.str ww::ys))/\ys.length=i+1/\(∀ j (h:j < ck.length) (h1:j < xs.length) (h2:j < nss.length) (h3:j < ys.length),oi (upd H5 M (.lst (.str ww::xs'++[x']))) ck[j] xs[j] nss[j] ys[j])/\aa H (upd H5 M (.lst (.str ww::xs'++[x'])))/\upd H5 M (.lst (.str ww::xs'++[x'])) p=some (.tup xs):=fun {x' H5} s5 hc g5 v4 v5=>by
     have tk:Tk H5 (upd H5 M (.lst (.str ww::xs'++[x']))):=(Tk.refl).set g5 fun _ z=>nomatch z
     refine ⟨_,_,xs'++[x'],rfl,by rw [aA];rfl,by simp [hx'],fun j h h1 h2 h3=>?_,(s4.trans s5).put hM,by rw [aK TM];exact s5 _ _ AO⟩
     by_cases hj:j < xs'.length
     ·rw [Qe hj]
      exact (ho j h h1 h2 hj).tk (s5.ts.trans tk)
     ·obtain rfl:j=i:=by simp at h3;omega
      rw [Qf (by omega)]
      simp only [hx',Nat.sub_self,List.getElem_cons_zero]
      exact hc.tk tk
    rcases ct with ⟨hw,y,hy⟩ | ⟨hw,b,rows,ls,ms,LI,hb,rm,xr,yf,KZ⟩ | ⟨hw,EV⟩
    ·rw [hw]
     refine ⟨rfl,_,rfl,aj (fun _=>?_) (fun c=>absurd c (by decide+kernel))⟩
     refine aM (fun σ' H'=>∃ v4 v5:Option V,σ'=[some (.ref a),some (.ref L),some (.ref M),some (.int ((nss.take i).flatten.length:Nat)),v4,v5]/\H'=upd H4 M (.lst (.str ww::xs'++[y]))) ?_ ?_
     ·intro Kv AE
      refine ⟨.inl ⟨rfl,_,ai.of g4⟩,_,y,.inl (ai.of LH),?_,M,_,y,rfl,rfl,g4,by simp;omega,AE _ _ ⟨_,_,rfl,rfl⟩⟩
      rw [LG,hy]
      exact cF (by rw [List.getElem?_append_right (Qy _)];simp)
     ·rintro σ' H' ⟨v4,v5,rfl,rfl⟩
      refine ⟨_,rfl,_,_,rfl,rfl,?_⟩
      have e1:(((nss.take i).flatten.length:Nat):Int)+1=((nss.take (i+1)).flatten.length:Nat):=by rw [wj,hy,Qk];simp
      dsimp only
      rw [e1]
      have hc:oi H4 ck[i] xs[i] nss[i] y:=.inl ⟨hw,hy⟩
      exact push (aa.refl _) hc g4 _ _
    ·have qy:ck[i]≠"maker":=by rcases hw with h | h<;>rw [h]<;>decide+kernel
     refine ⟨rfl,_,rfl,aj (fun c=>absurd c (by simp [qy])) (fun _=>?_)⟩
     refine ⟨(show 2<=sizeLine by decide),fun b1 dm=>⟨_,.inr (ae.of aA),rfl,rfl,_,rfl,?_⟩⟩
     have sb:=aa.upd dm (.tup [.str "parts",.str "cases"])
     generalize upd H4 b1 (.tup [.str "parts",.str "cases"])=H5 at sb
     refine aj (fun _=>?_) (fun c=>absurd c ?_)
     rotate_left
     ·rcases hw with h | h<;>rw [h]<;>decide+kernel
     have s5:=s4.trans sb
     refine aM (fun σ' H'=>∃ (v4:Option V) (b':Addr) (H6:Hp),σ'=[some (.ref a),some (.ref L),some (.ref M),some (.int ((nss.take i).flatten.length:Nat)),v4,some (.ref b)]/\aa H4 H6/\oi H6 ck[i] xs[i] nss[i] (.ref b')/\H6 M=some (.lst (.str ww::xs'))/\H'=upd H6 M (.lst (.str ww::xs'++[.ref b']))) ?_ ?_
     ·intro Kv AE
      rw [LI]
      refine ⟨.inl ⟨rfl,_,ai.of (sb _ _ g4)⟩,((nss.take i).flatten.length:Nat),rfl,Or.inr (Or.inl ⟨L,_,rfl,ai.of (sb _ _ LH),fun S hS=>?_⟩)⟩
      rw [wE]
      have sS:=aa.upd hS (.lst (ns.drop (nss.take i).flatten.length))
      have gS:upd H5 S (.lst (ns.drop (nss.take i).flatten.length)) S=some (.lst (ns.drop (nss.take i).flatten.length)):=aA
      generalize upd H5 S (.lst (ns.drop (nss.take i).flatten.length))=H6 at sS gS
      have TR:ns.drop (nss.take i).flatten.length=nss[i]++(nss.drop (i+1)).flatten:=by
       conv=>lhs;rw [LG]
       simp
      rw [TR] at gS
      have s6:=s5.trans sS
      have LJ:=s6 _ _ hb
      refine ⟨b,S,rows,_,rfl,ae.of LJ,ai.of gS,fun D hD=>?_⟩
      have V_:=rm.l1
      have Wa:=rm.l2
      have Fi:min rows.length (nss[i]++(nss.drop (i+1)).flatten).length=rows.length:=by rw [Qk];omega
      refine tU (rJ rows (nss[i]++(nss.drop (i+1)).flatten)) (fun j τ H'=>∃ (v0 v1:Option V) (zs:List V),τ=[v0,v1]/\H' D=some (.lst zs)/\zs.length=j/\(∀ l (h1:l < zs.length) (h2:l < nss[i].length) (h3:l < ls.length),∃ c,zs[l]=.ref c/\H' c=some (.tup (ls[l]++[nss[i][l]])))/\aa H6 H') ⟨none,none,[],rfl,aA,rfl,fun l h=>absurd h (by simp),aa.upd hD _⟩ (by rintro j τ H' _ ⟨_,_,_,_,_,_,_,s'⟩;exact ⟨ae.of (s' _ _ LJ),ai.of (s' _ _ gS)⟩) ?_ ?_
      ·rintro j τ H7 T0 hj ⟨v0,v1,zs,rfl,r1,r2,r3,r4⟩ TU
       rw [Fi] at hj
       obtain ⟨c,c1,c2⟩:=rm.at_ j hj (by omega) (by omega)
       have er:rows.getD j .af=.ref c:=by rw [Qb,Qa hj,c1];rfl
       have en:(nss[i]++(nss.drop (i+1)).flatten).getD j .af=nss[i][j]'(by omega):=by rw [Qb,Qg (by omega),Qa (by omega)];rfl
       rw [er,en]
       have sT:=aa.upd TU (.tup [.ref c,nss[i][j]'(by omega)])
       have s7:=(s6.trans r4).trans sT
       have Wc:=KZ _ (Qj (show j < ls.length by omega))
       have cc:f_ (ls[j]'(by omega)++[ms[j]'(by omega)]) none (some (-1))=ls[j]'(by omega):=by
        unfold f_
        simp only [HT.bj]
        rw [if_pos (by decide)]
        simp
        rw [show (-1+(((ls[j]'(by omega)).length:Int)+1)).toNat=(ls[j]'(by omega)).length by omega,List.take_left]
       refine ⟨1,rfl, -1,rfl,Or.inr (Or.inr ⟨c,_,rfl,ae.of (s7 _ _ c2),fun z=>?_,fun p1 TV=>?_⟩)⟩
       ·have:=z.2
        simp only [HT.bj] at this
        rw [if_pos (by decide)] at this
        simp at this
        omega
       rw [cc]
       have s8:=aa.upd TV (.tup (ls[j]'(by omega)))
       have g8:upd (upd H7 T0 (.tup [.ref c,nss[i][j]'(by omega)])) p1 (.tup (ls[j]'(by omega))) p1=some (.tup (ls[j]'(by omega))):=aA
       generalize upd (upd H7 T0 (.tup [.ref c,nss[i][j]'(by omega)])) p1 (.tup (ls[j]'(by omega)))=H8 at s8 g8
       refine ⟨(show 1<=sizeLine by decide),fun p2 FS=>?_⟩
       have s9:=aa.upd FS (.tup [nss[i][j]'(by omega)])
       refine JT (s9 _ _ g8) aA (by simp;omega) fun c' H9 AW Hw=>?_
       have HP:=((sT.trans s8).trans s9).trans AW
       have gD:=HP _ _ r1
       have tk:Tk H9 (upd H9 D (.lst (zs++[.ref c']))):=(Tk.refl).set gD fun _ z=>nomatch z
       refine ⟨zs,gD,by omega,_,_,zs++[.ref c'],rfl,aA,by simp [r2],fun l h1 h2 h3=>?_,(r4.trans HP).put hD⟩
       by_cases bz:l < zs.length
       ·rw [Qe bz]
        obtain ⟨d,d1,d2⟩:=r3 l bz h2 h3
        exact ⟨d,d1,tk _ _ (HP.ts _ _ d2)⟩
       ·obtain rfl:l=j:=by simp at h1;omega
        rw [Qf (by omega)]
        refine ⟨c',by simp [r2],tk _ _ Hw⟩
      ·rintro τ H7 z0;refine hdn fun Gz9 zG9=>?_;obtain ⟨v0,v1,zs,rfl,r1,r2,r3,r4⟩:=z0;refine zG9 ?_
       rw [Fi] at r2
       refine ⟨D,zs,rfl,.inl ⟨ai.of r1,fun b' TY=>?_⟩⟩
       have s8:=aa.upd TY (.tup zs)
       have Fj:=((sb.trans sS).trans r4).trans s8
       have LK:=Fj _ _ g4
       refine ⟨M,_,.ref b',rfl,rfl,LK,by simp;omega,AE _ _ ⟨_,b',_,rfl,Fj,.inr (.inl ⟨hw,b,rows,ls,ms,b',zs,LI,(s4.trans Fj) _ _ hb,rm.tk (s4.trans Fj).ts,rfl,aA,⟨by omega,by omega,fun l h1 h2 h3=>?_⟩⟩),LK,rfl⟩⟩
       obtain ⟨d,d1,d2⟩:=r3 l h1 h2 h3
       exact ⟨d,d1,s8 _ _ d2⟩
     ·rintro σ' H' ⟨v4,b',H6,rfl,LL,hc,g6,rfl⟩
      have tk:Tk H6 (upd H6 M (.lst (.str ww::xs'++[.ref b']))):=(Tk.refl).set g6 fun _ z=>nomatch z
      refine ⟨_,rfl,Or.inl ⟨rows,.inr (ae.of (tk _ _ ((s4.trans LL) _ _ hb))),_,_,rfl,rfl,?_⟩⟩
      have e1:(((nss.take i).flatten.length:Nat):Int)+(rows.length:Nat)=((nss.take (i+1)).flatten.length:Nat):=by rw [wj,Qk,xr];simp
      dsimp only
      rw [e1]
      exact push LL hc g6 _ _
    ·have qy:ck[i]≠"maker":=by rcases hw with h | h<;>rw [h]<;>decide+kernel
     refine ⟨rfl,_,rfl,aj (fun c=>absurd c (by simp [qy])) (fun _=>?_)⟩
     refine ⟨(show 2<=sizeLine by decide),fun b1 dm=>⟨_,.inr (ae.of aA),rfl,rfl,_,rfl,?_⟩⟩
     have sb:=aa.upd dm (.tup [.str "parts",.str "cases"])
     generalize upd H4 b1 (.tup [.str "parts",.str "cases"])=H5 at sb
     refine aj (fun c=>absurd c ?_) (fun _=>?_)
     ·rcases hw with h | h<;>rw [h]<;>decide+kernel
     have g5:=sb _ _ g4
     have e1:((nss.take i).flatten.length:Nat)=(nss.take (i+1)).flatten.length:=by rw [wj,EV];simp
     refine ⟨.inl ⟨rfl,_,ai.of g5⟩,M,_,xs[i],rfl,rfl,g5,by simp;omega,?_⟩
     rw [e1]
     have hc:oi H5 ck[i] xs[i] nss[i] xs[i]:=.inr (.inr ⟨hw,EV,rfl⟩)
     exact push sb hc g5 _ _
   ·rintro σ' H3 z0;refine hdn fun Gz9 zG9=>?_;obtain ⟨v4,v5,xs',rfl,g1,hx',ho,s3,AN⟩:=z0;refine zG9 ?_
    refine av _ _ ⟨_,_,_,xs',rfl,g1,?_,ho,s3⟩
    rw [hx',Ql];omega
  ·rintro σ' H3 z0;refine hdn fun Gz9 zG9=>?_;obtain ⟨v3,v4,v5,xs',rfl,g1,hx',ho,s3⟩:=z0;refine zG9 ?_
   refine ⟨M,_,rfl,.inl ⟨ai.of g1,fun c hc=>?_⟩⟩
   have sc:=aa.upd hc (.tup (.str ww::xs'))
   exact k _ _ (s3.trans sc) (mo.fin _ _ c xs' rfl aA hx' (fun j h h1 h2 h3=>(ho j h h1 h2 h3).tk sc.ts) (s3.trans sc).ts)
def HQ (d:Nat):Sp:=fun vs H Q _=>∃ (v:V) (m:Mr),vs=[v]/\a_ H d v m/\ay m<=1000000/\∀ H',aa H H'->Q (.bl (jb m)) H'
theorem jX (T:Txt K mg w) (d:Nat):ak P w K mg base 2 "is_value" ["maker"] (HQ d):=by
 have bI:ak P w K mg base 1 "makers_in" ["maker"] wg:=cC T
 refine T.qZ.dh gK (fun vs H Q E h=>?_) (fun f ao A outer s H vs Q E hr h=>?_)
 ·obtain ⟨v,m,rfl,_⟩:=h
  rfl
 ·obtain ⟨v,m,rfl,hm,hc,k⟩:=h
  have hu:=bG hr
  have bg:=Qx (bG hr)
  have hsz:sizeLine=16777216:=QL
  refine ⟨_,(aE (aX (i:=1) gK.nd rfl (Or.inl rfl) (cA (aB (zv 0) aD)))
   (aE (gX PassesOwn.never (t9 K (zv 1)) (aE (aX (i:=2) gK.nd rfl (Or.inl rfl) (zP K QH PySem.F.slot_list_pop PySem.F.type_list_pop wN (zv 1)))
   (aE (bM (aL (uE K) (aU (aV K) (zv 2) aF (fun _ _=>rfl)) (aS (aC aJ (aC aJ (aC aJ aD)))) rfl) (aG (aW u6)) aZ)
   (aG (bM (aL (nY bg) (aU (aV K) (zv 2) aF (fun _ _=>rfl)) aJ (bf _)) (aG (cV (jM K QH PySem.F.slot_list_extend PySem.F.type_list_extend jP (zv 1) (bF (bB bI (hr.mono (by decide)) (aB (zv 2) aD)) aD)))) aZ)))))
   (aG (aW u6)))),?_⟩
  refine aI ⟨(show 1<=sizeLine by decide),fun W hW=>?_⟩
  have s1:=aa.upd hW (.lst [v])
  have gW:upd H W (.lst [v]) W=some (.lst [v]):=aA
  dsimp only
  generalize upd H W (.lst [v])=H1 at s1 gW
  have kf:∀ b,jb m=b->∀ H',aa H H'->Q (.bl b) H':=fun b e H' s'=>by have:=k H' s';rw [e] at this;exact this
  refine aM (fun σ' H'=>aa H H'/\jb m=true) ?_ (by rintro σ' H' ⟨s,e⟩;exact kf true e H' s)
  intro nx av
  refine ⟨fun n σ' H'=>∃ (ws:List V) (ms:List Mr) (v2:Option V),σ'=[some v,some (.ref W),v2]/\n=be ms/\H' W=some (.lst ws)/\ji H' d ws ms/\be ms<=1000000/\jb m=jo ms/\aa H H',⟨_,[v],[m],none,rfl,rfl,gW,ji.one (hm.tk s1.ts),by rw [be,be];omega,by simp [jo],s1⟩,?_⟩
  rintro n σ' H3 ⟨ws,ms,v2,rfl,rfl,g3,hl,TZ,hv,s3⟩
  refine ⟨!ws.isEmpty,.inl ⟨ws,ai.of g3,rfl⟩,aj (fun c=>?_) (fun c=>?_)⟩
  rotate_left
  ·have:ws=[]:=by simpa using c
   subst this
   have:ms=[]:=List.length_eq_zero_iff.mp hl.len.symm
   subst this
   exact av _ _ ⟨s3,by rw [hv,jo]⟩
  obtain ⟨ig,qm,y,m1,rfl,rfl,hl',hy⟩:=hl.last (by intro z;rw [z] at c;cases c)
  refine ⟨fun σ' H'=>∃ n',n' < be (qm++[m1])/\∃ (ws:List V) (ms:List Mr) (v2:Option V),σ'=[some v,some (.ref W),v2]/\n'=be ms/\H' W=some (.lst ws)/\ji H' d ws ms/\be ms<=1000000/\jb m=jo ms/\aa H H',fun σ' H' h=>h,?_⟩
  have B9:Tk H3 (upd H3 W (.lst ig)):=(Tk.refl).set g3 (by intro _ z;cases z)
  refine aI ⟨.inl ⟨rfl,_,ai.of g3⟩,W,_,y,rfl,rfl,g3,by simp,?_⟩
  rw [List.dropLast_concat]
  have g4:upd H3 W (.lst ig) W=some (.lst ig):=aA
  have s4:=s3.put (o:=.lst ig) hW
  have CV:=hl'.tk B9
  have Dw:=hy.tk B9
  dsimp only
  generalize upd H3 W (.lst ig)=H4 at g4 s4 CV Dw
  obtain ⟨ks,sh,ok,hks⟩:=Dw.kids
  obtain ⟨a,ys,rfl,ea⟩:=sh.ref
  have HR:ay m1=1+be m1.ks:=by cases m1;rw [ay];rfl
  have T3:be (qm++[m1])=be qm+(1+be m1.ks):=by rw [cZ,be,be,HR];rfl
  rw [T3] at TZ ⊢
  rw [n6] at hv
  have ev:jo [m1]=(match m1.f with | .fn _ _=>true | .fb _=>jo m1.ks | .pick _=>jo m1.ks | _=>false):=by obtain ⟨f,ks⟩:=m1;cases f<;>simp [jo,jb,Mr.f,Mr.ks]
  rw [ev] at hv
  refine ⟨_,.str m1.f.cf,.inr (ae.of ea),aO _ _,(show 3<=sizeLine by decide),fun b1 dm=>⟨_,.inr (ae.of aA),rfl,rfl,_,rfl,?_⟩⟩
  have s5:=aa.upd dm (.tup [.str "fn",.str "box",.str "pick"])
  generalize upd H4 b1 (.tup [.str "fn",.str "box",.str "pick"])=H5 at s5
  have g5:=s5 _ _ g4
  have e1:=bq.Qn m1.f
  have e2:=bq.Qo m1.f
  refine aj (fun c1=>kf false ?_ _ (s4.trans s5)) (fun c1=>cB ?_)
  ·rw [e1] at c1
   rw [hv]
   cases hf:m1.f<;>rw [hf] at c1<;>first | (cases c1;done) | rw [Bool.and_false]
  rw [e1] at c1
  refine ⟨_,.str m1.f.cf,.inr (ae.of (s5 _ _ ea)),aO _ _,⟨rfl,_,rfl,?_⟩⟩
  refine aj (fun c2=>?_) (fun c2=>?_)
  ·rw [e2] at c2
   refine ⟨.inl ⟨rfl,_,ai.of g5⟩,.ref a,ks,rfl,(sh.yy ok).tk s5.ts,fun L H6 hL gL s6=>?_⟩
   have e_:=hks.len
   have oq:=eJ m1.ks
   have We:=eJ qm
   have Wf:=hl'.len
   have g6:=s6 _ _ g5
   have B5:Tk H6 (upd H6 W (.lst (ig++ks))):=(Tk.refl).set g6 (by intro _ z;cases z)
   refine ⟨W,L,_,_,rfl,rfl,g6,gL,by omega,?_⟩
   refine ⟨_,?_,_,qm++m1.ks,_,rfl,rfl,aA,(CV.app hks).tk ((s5.trans s6).ts.trans B5),by rw [cZ];omega,?_,((s4.trans s5).trans s6).put hW⟩
   ·rw [cZ];omega
   ·rw [hv,n6]
    congr 1
    cases hf:m1.f<;>rw [hf] at c1 c2<;>first | (cases c1;done) | (cases c2;done) | rfl
  ·rw [e2] at c2
   refine ⟨_,?_,_,qm,_,rfl,rfl,g5,CV.tk s5.ts,by omega,?_,s4.trans s5⟩
   ·omega
   ·rw [hv]
    cases hf:m1.f<;>rw [hf] at c1 c2<;>first | (cases c1;done) | (cases c2;done) | rw [Bool.and_true]
theorem zG {K:QZ} {k:Nat} {T:Addr} {v1 v2 v3:V} {Q:St->Hp->Prop} (h:ae K H T [v1,v2,v3]) (q:Q (((σ.set i (some v1)).set j (some v2)).set k (some v3)) H):Cp K 3 (z_ (jd i) (z_ (jd j) (z_ (jd k) DO))) (.ref T) σ H Q:=
 ⟨T,_,rfl,h,rfl,_,_,rfl,_,_,rfl,_,_,rfl,rfl,q⟩
def B_:Option Nat->V
 | none=>.af
 | some k=>.int (k:Int)
def LM (d:Nat):Sp:=fun vs H Q _=>∃ (v:V) (m:Mr),vs=[v]/\a_ H d v m/\ay m<=1000000/\∀ H',aa H H'->Q (B_ (oz m)) H'
theorem T4 {G:Prop} (X C:α->Hp->Prop) (h2:(∀ a H,C a H->X a H)->G) (h1:∀ a H,C a H->X a H):G:=h2 h1
theorem jQ:∀ {l:List Mr} {m:Mr},m∈l->ay m<=be l
 | a::l,m,h=>by
  rw [be]
  rcases Qp.mp h with rfl | h
  ·omega
  ·have:=jQ h;omega
theorem l7 (T:Txt K mg w) (d:Nat):ak P w K mg base 3 "first_to_do" ["maker"] (LM d):=by
 have bI:ak P w K mg base 1 "makers_in" ["maker"] wg:=cC T
 have iF:ak P w K mg base 2 "is_value" ["maker"] (HQ d):=jX T d
 refine T.m9.dh cS (fun vs H Q E h=>?_) (fun f ao A outer s H vs Q E hr h=>?_)
 ·obtain ⟨v,m,rfl,_⟩:=h
  rfl
 ·obtain ⟨v,m,rfl,hm,hc,k⟩:=h
  have hu:=bG hr
  have bg:=Qx (bG hr)
  have hsz:sizeLine=16777216:=QL
  refine ⟨_,(aE (aX (i:=1) cS.nd rfl (Or.inl rfl) (bB bI (hr.mono (by decide)) (aB (zv 0) aD)))
   (aE (jZ PassesOwn.never rfl (vW K (by rfl) T.qB (xH (oE (aL (bD bg) (aU (aV K) (zv 0) aF (fun _ _=>rfl)) aJ (bf _)) (eP (rH K) (zv 1) fA (f9 aF)) (zv 1)) aD)) (dG K (n:=2) rfl (bA (aY (i:=2) cS.nd rfl (Or.inl rfl)) (bA (aY (i:=3) cS.nd rfl (Or.inl rfl)) cL))) (aG (bM (OJ (zO (bB iF (hr.mono (by decide)) (aB (zv 3) aD)))) (aG (aW (zv 2))) aZ)))
   (aG (aW eK)))),?_⟩
  obtain ⟨ks,sh,ok,hks⟩:=hm.kids
  obtain ⟨a,ys,rfl,ea⟩:=sh.ref
  refine aI ⟨.ref a,ks,rfl,sh.yy ok,fun L H1 hL gL s1=>?_⟩
  dsimp only
  refine T4 (α:=Addr) ?X (fun B H2=>∃ us,H2 B=some (.lst us)/\ji H2 d us (lz m.f m.ks)/\aa H H2) (fun loop=>?h2) ?h1
  case h2=>
   refine ⟨_,.str m.f.cf,.inr (ae.of (s1 _ _ ea)),aO _ _,⟨rfl,_,rfl,?_⟩⟩
   have e1:decide (V.str m.f.cf=V.str "split")=(match m.f with | .split _=>true | _=>false):=by
    cases m.f<;>first | exact decide_eq_true rfl | exact Qw (fun z=>absurd (V.str.inj z) (by simp only [bq.cf];decide+kernel))
   refine aj (fun c=>?_) (fun c=>?_)
   ·rw [e1] at c
    refine ⟨1,rfl,Or.inr (Or.inl ⟨L,ks,rfl,ai.of gL,fun S hS=>?_⟩)⟩
    have s2:=aa.upd hS (.lst (f_ ks none (some 1)))
    have g2:upd H1 S (.lst (f_ ks none (some 1))) S=some (.lst (f_ ks none (some 1))):=aA
    generalize upd H1 S (.lst (f_ ks none (some 1)))=H2 at s2 g2
    refine loop S H2 ⟨_,g2,?_,s1.trans s2⟩
    have et:lz m.f m.ks=m.ks.take 1:=by
     unfold lz
     cases hf:m.f<;>rw [hf] at c<;>first | (cases c;done) | rfl
    have ec:f_ ks none (some 1)=ks.take 1:=by
     cases ks with
     | nil=>rfl
     | cons x l=>simp [f_,HT.bj]
    rw [et,ec]
    have hl:=hks.len
    exact ⟨by simp [hl],fun i a b=>by
     rw [List.getElem_take,List.getElem_take]
     exact (hks.at_ i (by simp at a;omega) (by simp at b;omega)).tk (s1.trans s2).ts⟩
   ·rw [e1] at c
    refine loop L H1 ⟨_,gL,?_,s1⟩
    have et:lz m.f m.ks=m.ks:=by
     unfold lz
     cases hf:m.f<;>rw [hf] at c<;>first | (cases c;done) | rfl
    rw [et]
    exact hks.tk s1.ts
  case h1=>
   rintro B H2 ⟨us,gB,Cy,s2⟩
   have hl:=Cy.len
   have LN:∀ i (h:i < (lz m.f m.ks).length),ay (lz m.f m.ks)[i]<=1000000:=fun i h=>by
    have T5:∀ x∈lz m.f m.ks,x∈m.ks:=fun x hx=>by
     unfold lz at hx
     split at hx
     ·exact List.mem_of_mem_take hx
     ·exact hx
    have h1:=T5 _ (Qj h)
    have:=jQ h1
    have:ay m=1+be m.ks:=by cases m;rw [ay];rfl
    omega
   unfold oz at k
   generalize lz m.f m.ks=ms at k Cy hl LN
   refine ⟨B,us,rfl,ai.of gB,l6 (vR us) (fun i σ' H'=>∃ (v2 v3:Option V),σ'=[some (.ref a),some (.ref L),v2,v3]/\(∀ j (h:j < i) (h':j < ms.length),jb ms[j]=true)/\aa H2 H') ⟨none,none,rfl,fun j h=>absurd h (by omega),aa.refl _⟩ (by rintro i τ H' _ ⟨_,_,_,_,s'⟩;exact ai.of (s' _ _ gB)) ?_ ?_⟩
   ·rintro i σ' H3 tt hi ⟨v2,v3,rfl,hv,s3⟩ ye
    have ex:us.getD i .af=us[i]:=by rw [Qb,Qa hi];rfl
    rw [ex]
    have s4:=aa.upd ye (.tup [.int i,us[i]])
    generalize upd H3 tt (.tup [.int i,us[i]])=H4 at s4
    have HS:=s3.trans s4
    refine ⟨us[i],ms[i]'(by omega),rfl,(Cy.at_ i hi (by omega)).tk HS.ts,LN i (by omega),fun H5 s5=>⟨_,rfl,?_⟩⟩
    refine OP (fun c=>?_) (fun c=>?_)
    ·refine ⟨_,_,rfl,fun j h h'=>?_,HS.trans s5⟩
     by_cases hj:j < i
     ·exact hv j hj h'
     ·obtain rfl:j=i:=by omega
      exact c
    ·have:=k H5 ((s2.trans HS).trans s5)
     rw [List.findIdx?_eq_some_iff_getElem.mpr ⟨show i < ms.length by omega,by simp [c],fun j hj=>by simp [hv j hj (by omega)]⟩] at this
     exact this
   ·rintro σ' H3 ⟨v2,v3,rfl,hv,s3⟩
    have:=k H3 (s2.trans s3)
    rw [List.findIdx?_eq_none_iff.mpr (fun x hx=>by
     obtain ⟨j,hj,rfl⟩:=Qi hx
     simp [hv j (by omega) hj])] at this
    exact this
def LO:Sp:=fun vs H Q _=>∃ (v:V) (f:bq) (ks:List V),vs=[v]/\fm H v f ks/\f.ok/\∀ L H',H' L=some (.lst ((List.range f.ar).map fun i=>match f.bnd i with | none=>.af | some z=>.str z))->aa H H'->Q (.ref L) H'
theorem kW (T:Txt K mg w):ak P w K mg base 2 "names_bound" ["maker"] LO:=by
 have bI:ak P w K mg base 1 "makers_in" ["maker"] wg:=cC T
 refine T.lZ.dh lP (fun vs H Q E h=>?_) (fun f ao A outer s H vs Q E hr h=>?_)
 ·obtain ⟨v,f,ks,rfl,_⟩:=h
  rfl
 ·obtain ⟨v,f,ks,rfl,sh,ok,k⟩:=h
  have hu:=bG hr
  have bg:=Qx (bG hr)
  have hsz:sizeLine=16777216:=QL
  refine ⟨_,(aE (bM (aL (bD bg) (aU (aV K) (zv 0) aF (fun _ _=>rfl)) aJ (bf _)) (aG (aW (cA (aH (aU (aV K) (zv 0) aF (fun _ _=>rfl)) aD)))) aZ)
   (aE (bM (aL (bD bg) (aU (aV K) (zv 0) aF (fun _ _=>rfl)) aJ (bf _)) (aG (aW (bS bW (cA (aC eK aD)) (oO (own:=["word","v","inner"]) (idx:=[]) (N':=["word","v","inner"]) (dE (az d7) (["maker"]:List Str) (by decide+kernel)) rfl (qW K (aU (aV K) (zv 0) aF (fun _ _=>rfl))) (fun _ _ _ _ _ _=>(dG K (n:=3) rfl (bA (aY (i:=0) (show List.Nodup (["word","v","inner"]:List Str) by decide+kernel) rfl (Or.inl rfl)) (bA (aY (i:=1) (show List.Nodup (["word","v","inner"]:List Str) by decide+kernel) rfl (Or.inl rfl)) (bA (aY (i:=2) (show List.Nodup (["word","v","inner"]:List Str) by decide+kernel) rfl (Or.inl rfl)) cL))))) (fun _ _ _ _ _ _=>eL) (fun _ _ _ _ _ _=>(zv 1)))))) aZ)
   (aG (aW (bS NI (cA (aC eK aD)) (bV (bN K) (by rfl) T.nv PySem.boot_len (bF (bB bI (hr.mono (by decide)) (aB (zv 0) aD)) aD))))))),?_⟩
  obtain ⟨a,ys,rfl,ea⟩:=sh.ref
  by_cases hb:(∀ i,f.bnd i=none)/\f.cf≠"fn"/\f.cf≠"split"
  ·obtain ⟨b1,b2,b3⟩:=hb
   refine ⟨_,.str f.cf,.inr (ae.of ea),aO _ _,⟨rfl,_,rfl,?_⟩⟩
   refine aj (fun c=>absurd (V.str.inj (Qt ((QE _).symm.trans c))) b2) (fun _=>aN ?_)
   refine ⟨_,.str f.cf,.inr (ae.of ea),aO _ _,⟨rfl,_,rfl,?_⟩⟩
   refine aj (fun c=>absurd (V.str.inj (Qt ((QE _).symm.trans c))) b3) (fun _=>cB ?_)
   refine ⟨(show 1<=sizeLine by decide),fun L1 Dg=>?_⟩
   have s9:=aa.upd Dg (.lst [.af])
   have ur:upd H L1 (.lst [.af]) L1=some (.lst [.af]):=aA
   generalize upd H L1 (.lst [.af])=H9 at s9 ur
   refine ⟨_,ks,rfl,(sh.yy ok).tk s9.ts,fun L2 H2 So De s2=>?_⟩
   have hl:=sh.len
   have K5:ks.length<=1001:=by
    rw [hl]
    cases f<;>simp only [bq.ar]<;>(try omega)
    ·exact Nat.le_trans ok.2.2 (by decide)
    ·exact Nat.succ_le_succ ok.2.2
   refine Or.inl ⟨_,.inl (ai.of De),_,_,_,rfl,rfl,s2 _ _ ur,by omega,by omega,by simp;omega,fun p hp=>k p _ ?_ ((s9.trans s2).trans (aa.upd hp _))⟩
   rw [aA]
   congr 2
   refine List.ext_getElem (by simp [hl]) fun i h1 h2=>?_
   simp only [Qr,List.getElem_range,b1]
   have:=Qj h1
   simp only [List.mem_flatten,List.mem_replicate] at this
   obtain ⟨l,⟨_,rfl⟩,h3⟩:=this
   exact List.mem_singleton.mp h3
  cases sh with
  | @fn a v r m e=>
   refine ⟨_,.str "fn",.inr (ae.of e),aO _ _,⟨rfl,_,rfl,?_⟩⟩
   refine aj (fun _=>?_) (fun c=>absurd c (by decide+kernel))
   exact ⟨_,.str v,.inr (ae.of e),rfl,(show 1<=sizeLine by decide),fun L hL=>k L _ aA (aa.upd hL _)⟩
  | @split a b cs m xs ms e e2 rm=>
   refine ⟨_,.str "split",.inr (ae.of e),aO _ _,⟨rfl,_,rfl,?_⟩⟩
   refine aj (fun c=>absurd c (by decide+kernel)) (fun _=>aN ?_)
   refine ⟨_,.str "split",.inr (ae.of e),aO _ _,⟨rfl,_,rfl,?_⟩⟩
   refine aj (fun _=>?_) (fun c=>absurd c (by decide+kernel))
   refine ⟨(show 1<=sizeLine by decide),fun L1 Dg=>?_⟩
   have s9:=aa.upd Dg (.lst [.af])
   have ur:upd H L1 (.lst [.af]) L1=some (.lst [.af]):=aA
   generalize upd H L1 (.lst [.af])=H9 at s9 ur
   refine ⟨_,.ref b,.inr (ae.of (s9 _ _ e)),rfl,Or.inr ⟨⟨xs,ae.of (s9 _ _ e2)⟩,fun D hD=>?_⟩⟩
   have fg:=rm.l1
   have i_:=rm.l2
   have oq:(gy cs).length=cs.length:=by simp [gy]
   have qc:cs.length<=1000:=ok.2.2
   refine fK (dI xs) (fun i τ H3=>H3 D=some (.lst ((cs.take i).map fun c=>.str c.2))/\aa H9 H3/\∃ v0 v1 v2,τ=[v0,v1,v2]) ⟨aA,aa.upd hD _,none,none,none,rfl⟩ (fun i τ H3 _ h=>ae.of (h.2.1 _ _ (s9 _ _ e2))) ?_ ?_
   ·rintro i τ H3 hi ⟨q1,q2,v0,v1,v2,rfl⟩
    obtain ⟨c,r1,r2⟩:=rm.at_ i hi (by omega) (by omega)
    have eg:xs.getD i .af=.ref c:=by rw [Qb,Qa hi,r1];rfl
    rw [eg]
    simp only [gy,Qr] at r2
    refine zG (ae.of (q2 _ _ (s9 _ _ r2))) ?_
    refine ⟨_,q1,by simp;omega,?_,q2.put hD,_,_,_,rfl⟩
    rw [aA,Qs,Qa (show i < cs.length by omega),Qm];rfl
   ·rintro τ H3 ⟨q1,q2,v0,v1,v2,rfl⟩
    rw [List.take_of_length_le (by omega)] at q1
    refine ⟨_,_,q2 _ _ ur,q1,by simp;omega,fun L hL=>k L _ ?_ ((s9.trans q2).trans (aa.upd hL _))⟩
    rw [aA]
    congr 2
    simp only [bq.ar]
    rw [List.range_succ_eq_map,List.map_cons,List.map_map,List.singleton_append]
    congr 1
    refine List.ext_getElem (by simp) fun i h1 h2=>?_
    have hi:i < cs.length:=by simpa using h1
    simp [bq.bnd,Qa hi]
  | _=>exact absurd ⟨fun i=>by cases i<;>rfl,by simp only [bq.cf];decide+kernel,by simp only [bq.cf];decide+kernel⟩ hb
def HU (d e:Nat):Sp:=fun vs H Q _=>∃ (x y:V) (v:Str) (m xm:Mr),vs=[x,.str v,y]/\a_ H d x m/\a_ H e y xm/\∀ r H',aa H H'->a_ H' (d+e) r (ou v xm m)->Q r H'
theorem uB (T:Txt K mg w) (e:Nat):∀ d:Nat,ak P w K mg base (3+d) "put_in" ["maker","v","value"] (HU d e):=by
 intro n
 induction n with
 | zero=>
  refine T.pI.dh (k:=2) h9 (fun vs H Q E h=>?_) (fun f ao A outer s H vs Q E hr h=>?_)
  ·obtain ⟨x,y,v,m,xm,rfl,_⟩:=h
   rfl
  ·refine hdn fun Gz9 zG9=>?_;obtain ⟨x,y,v,m,xm,rfl,h,_⟩:=h;refine zG9 ?_
   cases h
 | succ n ih=>
  have iQ:ak P w K mg base (3+n) "put_in" ["maker","v","value"] (HU n e):=ih
  have bI:ak P w K mg base 1 "makers_in" ["maker"] wg:=cC T
  have mF:ak P w K mg base 2 "names_bound" ["maker"] LO:=kW T
  have eC:ak P w K mg base 1 "with_makers" ["maker","inner"] HN:=fP T
  refine T.pI.dh (k:=3+n) h9 (fun vs H Q E h=>?_) (fun f ao A outer s H vs Q E hr h=>?_)
  ·obtain ⟨x,y,v,m,xm,rfl,_⟩:=h
   rfl
  ·refine hdn fun Gz9 zG9=>?_;obtain ⟨x,y,v,m,xm,rfl,hm,hx,k⟩:=h;refine zG9 ?_
   have hu:=bG hr
   have bg:=Qx (bG hr)
   have hsz:sizeLine=16777216:=QL
   refine ⟨_,(aE (bM (aL (bD bg) (aU (aV K) (zv 0) aF (fun _ _=>rfl)) aJ (bf _)) (aG (aW (oE (aL (bD bg) (aU (aV K) (zv 0) aF (fun _ _=>rfl)) (zv 1) (bf _)) (zv 2) (zv 0)))) aZ)
   (aE (aX (i:=3) h9.nd rfl (Or.inl rfl) (bB mF (hr.mono (by omega)) (aB (zv 0) aD)))
   (aE (vF (i:=4) (own:=["one","name"]) (idx:=[1,2]) (N':=["one","name","v","value"]) (dE (az iV) (["maker","v","value","bound","inner"]:List Str) (by decide+kernel)) rfl (yG K (by rfl) T.ER (bF (bB bI (hr.mono (by omega)) (aB (zv 0) aD)) (aB (zv 3) aD))) (fun _ _ _ _ _ _=>(dG K (n:=2) rfl (bA (aY (i:=0) (show List.Nodup (["one","name","v","value"]:List Str) by decide+kernel) rfl (Or.inl rfl)) (bA (aY (i:=1) (show List.Nodup (["one","name","v","value"]:List Str) by decide+kernel) rfl (Or.inl rfl)) cL)))) (fun _ _ _ _ _ _=>eL) (fun _ _ _ _ _ _=>(oE (aL (bD bg) (zv 1) (zv 2) (bf _)) (zv 0) (bB iQ (hr.mono (by omega)) (aB (zv 0) (aB (zv 2) (aB (zv 3) aD)))))) h9.nd rfl rfl)
   (aG (aW (bB eC (hr.mono (by omega)) (aB (zv 0) (aB (zv 4) aD)))))))),?_⟩
   obtain ⟨n',ks,en,sh,ok,gj,hks⟩:=hm.out
   obtain rfl:n'=n:=by omega
   obtain ⟨f,ms⟩:=m
   dsimp only [Mr.f,Mr.ks] at sh ok gj hks
   obtain ⟨a,ys,rfl,ea⟩:=sh.ref
   have hl:=sh.len
   refine ⟨_,.str f.cf,.inr (ae.of ea),aO _ _,⟨rfl,_,rfl,?_⟩⟩
   refine aj (fun c=>?_) (fun c=>aN ?_)
   ·rw [QE] at c
    cases sh with
    | @get a z e=>
     refine ⟨_,.str z,.inr (ae.of e),rfl,⟨rfl,_,rfl,?_⟩⟩
     rw [QE]
     refine aj (fun c=>?_) (fun c=>?_)
     ·obtain rfl:=V.str.inj (Qt c)
      exact k _ _ (aa.refl _) (by rw [ou,if_pos rfl];exact hx.up (by omega))
     ·have gh:=of_decide_eq_false c
      refine k _ _ (aa.refl _) ?_
      rw [ou,if_neg (fun z=>gh (by cases z;rfl))]
      obtain rfl:ms=[]:=List.length_eq_zero_iff.mp gj.symm
      rw [iu]
      exact hm.up (by omega)
    | _=>exact absurd (V.str.inj (Qt c)) (by simp only [bq.cf];decide+kernel)
   have T6:f≠.get v:=fun z=>by subst z;simp only [bq.cf] at c;exact absurd c (by simp)
   refine aI ⟨.ref a,f,ks,rfl,sh,ok,fun B H1 gB s1=>?_⟩
   refine aI ?_
   refine ⟨.ref a,ks,rfl,(sh.yy ok).tk s1.ts,fun L H2 hL gL s2=>?_⟩
   have HW:=s2 _ _ gB
   generalize GZ:((List.range f.ar).map fun i=>match f.bnd i with | none=>V.af | some z=>V.str z)=bs at gB HW
   have Wg:bs.length=f.ar:=by rw [<- GZ];simp
   refine ⟨L,B,_,_,rfl,ai.of gL,ai.of HW,fun D hD=>?_⟩
   have s12:=s1.trans s2
   have K5:ks.length<=1001:=by
    rw [hl]
    exact bq.few ok
   have hpl:=qV v xm f ms 0
   have Fi:min ks.length bs.length=ks.length:=by omega
   refine tU (yH ks bs) (fun i τ H'=>∃ (v0 v1:Option V) (zs:List V),τ=[v0,v1,some (.str v),some y]/\H' D=some (.lst zs)/\zs.length=i/\(∀ j (h1:j < zs.length) (h2:j < (iu v xm f 0 ms).length),a_ H' (n'+e) zs[j] (iu v xm f 0 ms)[j])/\aa H2 H') ⟨none,none,[],rfl,aA,rfl,fun l h=>absurd h (by simp),aa.upd hD _⟩ (by rintro j τ H' _ ⟨_,_,_,_,_,_,_,s'⟩;exact ⟨ai.of (s' _ _ gL),ai.of (s' _ _ HW)⟩) ?_ ?_
   ·rintro i τ H3 tt hi ⟨v0,v1,zs,rfl,q1,q2,q3,s3⟩ ye
    have gf:i < ms.length:=by omega
    have ex:ks.getD i .af=ks[i]:=by rw [Qb,Qa (by omega)];rfl
    have eb:bs.getD i .af=(match f.bnd i with | none=>V.af | some z=>V.str z):=by
     rw [<- GZ,Qb,Qq,List.getElem?_range (by omega)];rfl
    rw [ex,eb]
    have ep:=qH v xm f ms 0 i (by omega) gf
    rw [Nat.zero_add] at ep
    have ed:(Bh (match f.bnd i with | none=>V.af | some z=>V.str z) (.str v)=true)/\decide ((match f.bnd i with | none=>V.af | some z=>V.str z)=V.str v)=decide (f.bnd i=some v):=by
     cases f.bnd i with
     | none=>exact ⟨rfl,rfl⟩
     | some z=>exact ⟨rfl,by simp⟩
    have LP:(match f.bnd i with | none=>V.af | some z=>V.str z)=.af\/∃ z,(match f.bnd i with | none=>V.af | some z=>V.str z)=.str z:=by
     cases f.bnd i with
     | none=>exact .inl rfl
     | some z=>exact .inr ⟨z,rfl⟩
    generalize (match f.bnd i with | none=>V.af | some z=>V.str z)=bi at ed LP
    have s4:=aa.upd ye (.tup [ks[i]'(by omega),bi])
    generalize upd H3 tt (.tup [ks[i]'(by omega),bi])=H4 at s4
    have zc:=s4 _ _ q1
    have push:∀ {r:V} {H5:Hp},aa H4 H5->a_ H5 (n'+e) r (iu v xm f 0 ms)[i]->∃ xs,H5 D=some (.lst xs)/\xs.length < sizeLine/\∃ (T7 T9:Option V) (zs:List V),[some ks[i],some bi,some (V.str v),some y]=[T7,T9,some (.str v),some y]/\upd H5 D (.lst (xs++[r])) D=some (.lst zs)/\zs.length=i+1/\(∀ j (h1:j < zs.length) (h2:j < (iu v xm f 0 ms).length),a_ (upd H5 D (.lst (xs++[r]))) (n'+e) zs[j] (iu v xm f 0 ms)[j])/\aa H2 (upd H5 D (.lst (xs++[r]))):=fun {r H5} s5 hr=>by
     have g5:=s5 _ _ zc
     have tk:Tk H5 (upd H5 D (.lst (zs++[r]))):=(Tk.refl).set g5 fun _ z=>nomatch z
     refine ⟨zs,g5,by omega,_,_,zs++[r],rfl,aA,by simp [q2],fun j h1 h2=>?_,((s3.trans s4).trans s5).put hD⟩
     by_cases hj:j < zs.length
     ·rw [Qe hj]
      exact (q3 j hj h2).tk ((s4.trans s5).ts.trans tk)
     ·obtain rfl:j=i:=by simp at h1;omega
      rw [Qf (by omega)]
      simp only [q2,Nat.sub_self,List.getElem_cons_zero]
      exact hr.tk tk
    rcases LP with rfl | ⟨z,rfl⟩<;>refine ⟨ed.1,_,rfl,?_⟩<;>rw [QE,ed.2]
    all_goals
     refine aj (fun c=>?_) (fun c=>?_)
     ·rw [if_pos (Qt c)] at ep
      refine push (aa.refl _) ?_
      rw [ep]
      exact ((hks i (by omega) gf).tk ((s12.trans s3).trans s4).ts).up (by omega)
     ·rw [if_neg (of_decide_eq_false c)] at ep
      refine ⟨ks[i],y,v,ms[i],xm,rfl,(hks i (by omega) gf).tk ((s12.trans s3).trans s4).ts,hx.tk ((s12.trans s3).trans s4).ts,fun r H5 s5 hr=>push s5 ?_⟩
      rw [ep]
      exact hr
   ·rintro τ H3 z0;refine hdn fun Gz9 zG9=>?_;obtain ⟨v0,v1,zs,rfl,q1,q2,q3,s3⟩:=z0;refine zG9 ?_
    rw [Fi] at q2
    have Dy:=s12.trans s3
    refine ⟨.ref a,f,ks,zs,D,rfl,sh.tk Dy.ts,ok,q1,by omega,fun r H4 s4 T_=>k r H4 (Dy.trans s4) ?_⟩
    rw [ou,if_neg T6,show n'+1+e=(n'+e)+1 by omega]
    exact .mk T_ ok (by omega) fun j h1 h2=>(q3 j h1 h2).tk s4.ts
def LQ (d:Nat):Sp:=fun vs H Q _=>∃ (v:V) (m:Mr),vs=[v]/\a_ H d v m/\∀ r H',aa H H'->(match vo m with | none=>r=.af | some c=>a_ H' (2*d) r c)->Q r H'
theorem kT (z:Str):∀ (ws:List Str) (vs:List V),ws.length=vs.length->c_ ((ws.map (Sum.inr:Str->Key)).zip vs) (.inr z)=(ws.idxOf? z).bind (vs[·]?)
 | [],vs,_=>rfl
 | w::ws,v::vs,h=>by
  have ih:=kT z ws vs (by simpa using h)
  rw [List.idxOf?_cons,List.map_cons,List.zip_cons_cons]
  by_cases e:w=z
  ·subst e
   rw [bY rfl]
   simp
  ·rw [bX (by intro q;exact e (Sum.inr.inj q)),ih]
   have:(w==z)=false:=by simpa using e
   simp only [this,Bool.false_eq_true,if_false]
   cases ws.idxOf? z<;>simp
theorem tJ (nd:ws.Nodup) {zs:List V} (hi:i < ws.length) (hz:zs.length=i) (x:V):putK (((ws.take i).map (Sum.inr:Str->Key)).zip zs) (.inr ws[i]) x=((ws.take (i+1)).map (Sum.inr:Str->Key)).zip (zs++[x]):=by
 have e1:(ws.take i).idxOf? ws[i]=none:=by
  rw [List.idxOf?_eq_none_iff]
  intro h
  obtain ⟨j,hj,e⟩:=Qi h
  rw [List.getElem_take] at e
  have:=(List.getElem_inj nd).mp e
  simp at hj
  omega
 rw [oV]
 ·rw [Qs,Qa hi,Qm,List.zip_append (by simp [hz];omega)]
  rfl
 ·rw [kT _ _ _ (by simp [hz];omega),e1]
  rfl
theorem kJ (T:Txt K mg w) (d:Nat):ak P w K mg base (d+4) "done_at_once" ["maker"] (LQ d):=by
 have iQ:ak P w K mg base (3+d) "put_in" ["maker","v","value"] (HU d d):=uB T d d
 refine T.lF.dh (k:=d+3) bT (fun vs H Q E h=>?_) (fun f ao A outer s H vs Q E hr h=>?_)
 ·obtain ⟨v,m,rfl,_⟩:=h
  rfl
 ·obtain ⟨v,m,rfl,hm,k⟩:=h
  have hu:=bG hr
  have bg:=Qx (bG hr)
  have hsz:sizeLine=16777216:=QL
  refine ⟨_,(aE (aX (i:=1) bT.nd rfl (Or.inl rfl) (aU (aV K) (zv 0) aF (fun _ _=>rfl)))
   (aE (bM (aL (bD bg) (zv 1) aJ (bf _)) (aG (aW (aU (aV K) (zv 0) aF (fun _ _=>rfl)))) aZ)
   (aE (bM (kD (aL (bD bg) (zv 1) aJ (bf _)) (fQ (aL (bD bg) (aU (aV K) (aU (aV K) (zv 0) aF (fun _ _=>rfl)) aF (fun _ _=>rfl)) aJ (bf _)))).pt (aG (aW (bB iQ (hr.mono (by omega)) (aH (aU (aV K) (aU (aV K) (zv 0) aF (fun _ _=>rfl)) aF (fun _ _=>rfl)) (aH (aU (aV K) (aU (aV K) (zv 0) aF (fun _ _=>rfl)) aF (fun _ _=>rfl)) (aH (aU (aV K) (zv 0) aF (fun _ _=>rfl)) aD)))))) aZ)
   (aE (bM (kD (aL (bD bg) (zv 1) aJ (bf _)) (fQ (aL (bD bg) (aU (aV K) (aU (aV K) (zv 0) aF (fun _ _=>rfl)) aF (fun _ _=>rfl)) aJ (bf _)))).pt (aE (JW (i:=2) (own:=["word","part"]) (idx:=[]) (N':=["word","part"]) (dE (az cG) (["maker","form","parts","cases","v","inner"]:List Str) (by decide+kernel)) rfl (qW K (aU (aV K) (aU (aV K) (zv 0) aF (fun _ _=>rfl)) aF (fun _ _=>rfl))) (fun _ _ _ _ _ _=>(dG K (n:=2) rfl (bA (aY (i:=0) (show List.Nodup (["word","part"]:List Str) by decide+kernel) rfl (Or.inl rfl)) (bA (aY (i:=1) (show List.Nodup (["word","part"]:List Str) by decide+kernel) rfl (Or.inl rfl)) cL)))) (fun _ _ _ _ _ _=>eL) (fun _ _ _ _ _ _=>(zv 0)) (fun _ _ _ _ _ _=>(zv 1)) bT.nd rfl rfl)
   (aG (aW (xU hu (zv 2) (aU (aV K) (zv 0) aF (fun _ _=>rfl)) ⟨rfl,rfl,rfl,rfl⟩)))) aZ)
   (aE (bM (kD (aL (bD bg) (zv 1) aJ (bf _)) (fQ (aL (bD bg) (aU (aV K) (aU (aV K) (zv 0) aF (fun _ _=>rfl)) aF (fun _ _=>rfl)) aJ (bf _)))).pt (aE (JW (i:=3) (own:=["word","v","inner"]) (idx:=[]) (N':=["word","v","inner"]) (dE (az cG) (["maker","form","parts","cases","v","inner"]:List Str) (by decide+kernel)) rfl (qW K (aU (aV K) (zv 0) aF (fun _ _=>rfl))) (fun _ _ _ _ _ _=>(dG K (n:=3) rfl (bA (aY (i:=0) (show List.Nodup (["word","v","inner"]:List Str) by decide+kernel) rfl (Or.inl rfl)) (bA (aY (i:=1) (show List.Nodup (["word","v","inner"]:List Str) by decide+kernel) rfl (Or.inl rfl)) (bA (aY (i:=2) (show List.Nodup (["word","v","inner"]:List Str) by decide+kernel) rfl (Or.inl rfl)) cL))))) (fun _ _ _ _ _ _=>eL) (fun _ _ _ _ _ _=>(zv 0)) (fun _ _ _ _ _ _=>(aS (aB (zv 1) (aB (zv 2) aD)))) bT.nd rfl rfl)
   (aG (bM (aL (Pc hu) (aU (aV K) (aU (aV K) (zv 0) aF (fun _ _=>rfl)) aF (fun _ _=>rfl)) (zv 3) rfl) (aE (hZ (j5 hu (zv 3) (aU (aV K) (aU (aV K) (zv 0) aF (fun _ _=>rfl)) aF (fun _ _=>rfl)) (fun _ _=>rfl)) (dG K (n:=2) rfl (bA (aY (i:=4) bT.nd rfl (Or.inl rfl)) (bA (aY (i:=5) bT.nd rfl (Or.inl rfl)) cL))))
   (aG (aW (bB iQ (hr.mono (by omega)) (aB (zv 5) (aB (zv 4) (aH (aU (aV K) (aU (aV K) (zv 0) aF (fun _ _=>rfl)) aF (fun _ _=>rfl)) aD))))))) aZ))) aZ)
   (aG (aW eK))))))),?_⟩
  obtain ⟨n,ks,en,sh,ok,gj,hks⟩:=hm.out
  obtain ⟨f,ms⟩:=m
  dsimp only [Mr.f,Mr.ks] at sh ok gj hks
  obtain ⟨a,ys,rfl,ea⟩:=sh.ref
  have hl:=sh.len
  refine aI ⟨_,.str f.cf,.inr (ae.of ea),aO _ _,?_⟩
  dsimp only
  by_cases hb:f.cf≠"hold"/\f.cf≠"call"/\f.cf≠"part"/\f.cf≠"split"
  ·obtain ⟨b1,b2,b3,b4⟩:=hb
   have nb:∀ {z:Str},f.cf≠z->¬(false^^decide (V.str f.cf=V.str z))=true:=fun h c=>absurd (V.str.inj (Qt ((QE _).symm.trans c))) h
   refine ⟨rfl,_,rfl,aj (fun c=>absurd c (nb b1)) (fun _=>aN ?_)⟩
   refine ⟨rfl,_,rfl,aj (fun c=>absurd c (nb b2)) (fun _=>jy (aN ?_))⟩
   refine ⟨rfl,_,rfl,aj (fun c=>absurd c (nb b3)) (fun _=>jy (aN ?_))⟩
   refine ⟨rfl,_,rfl,aj (fun c=>absurd c (nb b4)) (fun _=>jy (cB ?_))⟩
   refine k _ _ (aa.refl _) ?_
   cases f<;>first | rfl | exact absurd rfl b1 | exact absurd rfl b2 | exact absurd rfl b3 | exact absurd rfl b4
  cases sh with
  | @hold a m z e=>
   simp only [bq.cf]
   refine ⟨rfl,_,rfl,aj (fun _=>?_) (fun c=>absurd c (by decide+kernel))⟩
   obtain ⟨m0,rfl⟩:=wo gj.symm
   exact ⟨_,m,.inr (ae.of e),rfl,k _ _ (aa.refl _) ((hks 0 (by simp) (by simp)).up (by omega))⟩
  | @call a x0 x1 e=>
   simp only [bq.cf]
   refine ⟨rfl,_,rfl,aj (fun c=>absurd c (by decide+kernel)) (fun _=>aN ?_)⟩
   refine ⟨rfl,_,rfl,aj (fun _=>?_) (fun c=>absurd c (by decide+kernel))⟩
   obtain ⟨m0,m1,rfl⟩:=AZ gj.symm
   have h0:a_ H n x0 m0:=hks 0 (by simp) (by simp)
   have h1:a_ H n x1 m1:=hks 1 (by simp) (by simp)
   obtain ⟨n0,uc,LS,uy,Ca,A0,zp⟩:=h0.out
   obtain ⟨f0,Dv⟩:=m0
   dsimp only [Mr.f,Mr.ks] at uy Ca A0 zp
   obtain ⟨a0,LU,rfl,Dz⟩:=uy.ref
   refine ⟨_,_,.inr (ae.of e),rfl,_,_,.inr (ae.of Dz),aO _ _,⟨rfl,_,rfl,?_⟩⟩
   by_cases hf:f0.cf="fn"
   ·rw [hf]
    refine aj (fun _=>?_) (fun c=>absurd c (by decide+kernel))
    cases uy with
    | @fn a0 v0 r0 b0 e0=>
     obtain ⟨mb,rfl⟩:=wo A0.symm
     refine ⟨_,_,.inr (ae.of e),rfl,_,b0,.inr (ae.of e0),rfl,_,_,.inr (ae.of e),rfl,_,.str v0,.inr (ae.of e0),rfl,_,x1,.inr (ae.of e),rfl,?_⟩
     refine ⟨b0,x1,v0,mb,m1,rfl,(zp 0 (by simp) (by simp)).up (by omega),h1.up (by omega),fun r H' s' hr'=>k r H' s' ?_⟩
     show a_ H' (2*d) r (ou v0 m1 mb)
     rw [show 2*d=d+d by omega]
     exact hr'
    | _=>exact absurd hf (by simp only [bq.cf];decide+kernel)
   ·refine aj (fun c=>absurd (V.str.inj (Qt ((QE _).symm.trans c))) hf) (fun _=>aN ?_)
    refine ⟨rfl,_,rfl,aj (fun c=>absurd c (by decide+kernel)) (fun _=>jy (aN ?_))⟩
    refine ⟨rfl,_,rfl,aj (fun c=>absurd c (by decide+kernel)) (fun _=>jy (cB ?_))⟩
    refine k _ _ (aa.refl _) ?_
    cases f0<;>first | rfl | exact absurd rfl hf
  | @part a x0 z e=>
   simp only [bq.cf]
   refine ⟨rfl,_,rfl,aj (fun c=>absurd c (by decide+kernel)) (fun _=>aN ?_)⟩
   refine ⟨rfl,_,rfl,aj (fun c=>absurd c (by decide+kernel)) (fun _=>jy (aN ?_))⟩
   refine ⟨rfl,_,rfl,aj (fun _=>?_) (fun c=>absurd c (by decide+kernel))⟩
   obtain ⟨m0,rfl⟩:=wo gj.symm
   have h0:a_ H n x0 m0:=hks 0 (by simp) (by simp)
   obtain ⟨n0,uc,LS,uy,Ca,A0,zp⟩:=h0.out
   obtain ⟨f0,Dv⟩:=m0
   dsimp only [Mr.f,Mr.ks] at uy Ca A0 zp
   obtain ⟨a0,LU,rfl,Dz⟩:=uy.ref
   refine ⟨_,_,.inr (ae.of e),rfl,_,_,.inr (ae.of Dz),aO _ _,⟨rfl,_,rfl,?_⟩⟩
   by_cases hf:f0.cf="box"
   ·rw [hf]
    refine aj (fun _=>?_) (fun c=>absurd c (by decide+kernel))
    cases uy with
    | @fb a0 b0 ws xs uc e0 e1 rm=>
     obtain ⟨nd,_,qc⟩:=Ca
     have fg:=rm.l1
     have i_:=rm.l2
     have oq:(jh ws).length=ws.length:=by simp [jh]
     refine aM (fun σ' H'=>∃ D v3 v4 v5,σ'=[some (.ref a),some (.str "part"),some (.ref D),v3,v4,v5]/\H' D=some (.dK ((ws.map (Sum.inr:Str->Key)).zip uc))/\aa H H') ?_ ?_
     ·intro nx av
      refine ⟨_,_,.inr (ae.of e),rfl,_,.ref b0,.inr (ae.of e0),rfl,Or.inr ⟨⟨xs,ae.of e1⟩,fun D hD=>?_⟩⟩
      refine zM (dI xs) (fun i τ H3=>H3 D=some (.dK (((ws.take i).map (Sum.inr:Str->Key)).zip (uc.take i)))/\aa H H3/\∃ v0 v1,τ=[v0,v1]) ⟨aA,aa.upd hD _,none,none,rfl⟩ (fun i τ H3 _ h=>ae.of (h.2.1 _ _ e1)) ?_ ?_
      ·rintro i τ H3 hi ⟨q1,q2,v0,v1,rfl⟩
       obtain ⟨c,r1,r2⟩:=rm.at_ i hi (by omega) (by omega)
       have eg:xs.getD i .af=.ref c:=by rw [Qb,Qa hi,r1];rfl
       rw [eg]
       simp only [jh,Qr] at r2
       refine gU (q2 _ _ r2) ?_
       refine ⟨_,.inr (ws[i]'(by omega)),rfl,q1,by simp;omega,?_,q2.put hD,_,_,rfl⟩
       rw [aA,tJ nd (by omega) (by simp;omega),Qs (l:=uc),Qa (show i < uc.length by omega)];rfl
      ·rintro τ H3 ⟨q1,q2,v0,v1,rfl⟩
       rw [List.take_of_length_le (by omega),List.take_of_length_le (by omega)] at q1
       exact av _ _ ⟨D,_,_,_,rfl,q1,q2⟩
     ·rintro σ' H' ⟨D,v3,v4,v5,rfl,gD,s'⟩
      refine ⟨D,rfl,(.inl ⟨_,.inl gD⟩),_,.str z,.inr (ae.of (s' _ _ e)),rfl,_,jf.k (k:=.inr z) gD,?_⟩
      refine k _ _ s' ?_
      rw [kT _ _ _ (by omega)]
      show (match (ws.idxOf? z).bind (fun i=>Dv[i]?) with | none=>_ | some c=>_)
      cases hz:ws.idxOf? z with
      | none=>rfl
      | some i=>
       have hi:i < ws.length:=by
        rw [List.idxOf?_eq_some_iff] at hz
        exact hz.1
       simp only [Option.bind_some]
       rw [Qa (show i < Dv.length by omega),Qa (show i < uc.length by omega)]
       exact ((zp i (by omega) (by omega)).tk s'.ts).up (by omega)
    | _=>exact absurd hf (by simp only [bq.cf];decide+kernel)
   ·refine aj (fun c=>absurd (V.str.inj (Qt ((QE _).symm.trans c))) hf) (fun _=>aN ?_)
    refine ⟨rfl,_,rfl,aj (fun c=>absurd c (by decide+kernel)) (fun _=>jy (cB ?_))⟩
    refine k _ _ (aa.refl _) ?_
    cases f0<;>first | rfl | exact absurd rfl hf
  | @split a b cs x0 xs ps e e1 rm=>
   simp only [bq.cf]
   refine ⟨rfl,_,rfl,aj (fun c=>absurd c (by decide+kernel)) (fun _=>aN ?_)⟩
   refine ⟨rfl,_,rfl,aj (fun c=>absurd c (by decide+kernel)) (fun _=>jy (aN ?_))⟩
   refine ⟨rfl,_,rfl,aj (fun c=>absurd c (by decide+kernel)) (fun _=>jy (aN ?_))⟩
   refine ⟨rfl,_,rfl,aj (fun _=>?_) (fun c=>absurd c (by decide+kernel))⟩
   obtain ⟨m0,zq,rfl⟩:∃ m0 zq,ms=m0::zq:=by
    cases ms with
    | nil=>simp at gj
    | cons m0 zq=>exact ⟨_,_,rfl⟩
   have h0:a_ H n x0 m0:=hks 0 (by simp) (by simp)
   obtain ⟨n0,uc,LS,uy,Ca,A0,zp⟩:=h0.out
   obtain ⟨f0,Dv⟩:=m0
   dsimp only [Mr.f,Mr.ks] at uy Ca A0 zp
   obtain ⟨a0,LU,rfl,Dz⟩:=uy.ref
   refine ⟨_,_,.inr (ae.of e),rfl,_,_,.inr (ae.of Dz),aO _ _,⟨rfl,_,rfl,?_⟩⟩
   by_cases hf:f0.cf="pick"
   ·rw [hf]
    refine aj (fun _=>?_) (fun c=>absurd c (by decide+kernel))
    cases uy with
    | @pick a0 z x e0=>
     obtain ⟨mx,rfl⟩:=wo A0.symm
     obtain ⟨nd,_,qc⟩:=ok
     have fg:=rm.l1
     have i_:=rm.l2
     have oq:(gy cs).length=cs.length:=by simp [gy]
     have Wh:ps.length=zq.length:=by simpa using gj
     refine aM (fun σ' H'=>∃ D v2 v4 v5 zs,σ'=[some (.ref a),some (.str "split"),v2,some (.ref D),v4,v5]/\H' D=some (.dK (((cs.map (·.1)).map (Sum.inr:Str->Key)).zip zs))/\zs.length=cs.length/\(∀ j (h:j < zs.length) (h1:j < cs.length) (h2:j < ps.length),∃ c,zs[j]=.ref c/\H' c=some (.tup [.str cs[j].2,ps[j]]))/\aa H H') ?_ ?_
     ·intro nx av
      refine ⟨_,.ref b,.inr (ae.of e),rfl,Or.inr ⟨⟨xs,ae.of e1⟩,fun D hD=>?_⟩⟩
      refine zM (dI xs) (fun i τ H3=>∃ zs v0 v1 v2,τ=[v0,v1,v2]/\H3 D=some (.dK ((((cs.map (·.1)).take i).map (Sum.inr:Str->Key)).zip zs))/\zs.length=i/\(∀ j (h:j < zs.length) (h1:j < cs.length) (h2:j < ps.length),∃ c,zs[j]=.ref c/\H3 c=some (.tup [.str cs[j].2,ps[j]]))/\aa H H3) ⟨[],none,none,none,rfl,aA,rfl,fun j h=>absurd h (by simp),aa.upd hD _⟩ (by rintro i τ H3 _ ⟨_,_,_,_,_,_,_,_,h⟩;exact ae.of (h _ _ e1)) ?_ ?_
      ·rintro i τ H3 hi z0;refine hdn fun Gz9 zG9=>?_;obtain ⟨zs,v0,v1,v2,rfl,q1,q2,q3,q4⟩:=z0;refine zG9 ?_
       have gf:i < cs.length:=by omega
       obtain ⟨c,r1,r2⟩:=rm.at_ i hi (by omega) (by omega)
       have eg:xs.getD i .af=.ref c:=by rw [Qb,Qa hi,r1];rfl
       rw [eg]
       simp only [gy,Qr] at r2
       refine zG (ae.of (q4 _ _ r2)) ?_
       refine ⟨(show 2<=sizeLine by decide),fun t ht=>?_⟩
       have s4:=aa.upd ht (.tup [.str (cs[i]'(by omega)).2,ps[i]'(by omega)])
       have gt:upd H3 t (.tup [.str (cs[i]'(by omega)).2,ps[i]'(by omega)]) t=some (.tup [.str (cs[i]'(by omega)).2,ps[i]'(by omega)]):=aA
       generalize upd H3 t (.tup [.str (cs[i]'(by omega)).2,ps[i]'(by omega)])=H4 at s4 gt
       have g4:=s4 _ _ q1
       have zl:((((cs.map (·.1)).take i).map (Sum.inr:Str->Key)).zip zs).length < sizeLine:=by simp;omega
       generalize Ua:(((cs.map (·.1)).take i).map (Sum.inr:Str->Key)).zip zs=kvs at g4 q1 zl
       have tk:∀ o,Tk H4 (upd H4 D (.dK o)):=fun o=>(Tk.refl).set g4 fun _ z=>nomatch z
       refine ⟨kvs,.inr (cs[i]'(by omega)).1,rfl,g4,zl,zs++[.ref t],_,_,_,rfl,?_,by simp [q2],fun j h h1 h2=>?_,(q4.trans s4).put hD⟩
       ·rw [aA,<- Ua]
        have:=tJ (ws:=cs.map (·.1)) nd (i:=i) (by simpa using gf) q2 (.ref t)
        rw [Qr] at this
        rw [this]
       ·by_cases hj:j < zs.length
        ·rw [Qe hj]
         obtain ⟨c,c1,c2⟩:=q3 j hj h1 h2
         exact ⟨c,c1,tk _ _ _ (s4 _ _ c2)⟩
        ·obtain rfl:j=i:=by simp at h;omega
         rw [Qf (by omega)]
         exact ⟨t,by simp [q2],tk _ _ _ gt⟩
      ·rintro τ H3 z0;refine hdn fun Gz9 zG9=>?_;obtain ⟨zs,v0,v1,v2,rfl,q1,q2,q3,q4⟩:=z0;refine zG9 ?_
       rw [List.take_of_length_le (by simp;omega)] at q1
       exact av _ _ ⟨D,_,_,_,zs,rfl,q1,by omega,q3,q4⟩
     ·rintro σ' H' z0;refine hdn fun Gz9 zG9=>?_;obtain ⟨D,v2,v4,v5,zs,rfl,gD,q2,q3,s'⟩:=z0;refine zG9 ?_
      have kh:=kT z (cs.map (·.1)) zs (by simp [q2])
      have e':=s' _ _ e
      have HX:=s' _ _ e0
      refine ⟨_,_,.inr (ae.of e'),rfl,_,.str z,.inr (ae.of HX),rfl,D,_,rfl,jf.k (k:=.inr z) gD,_,rfl,?_⟩
      rw [QE,kh]
      have ec:vo (.mk (.split cs) (.mk (.pick z) [mx]::zq))=((cs.map (·.1)).idxOf? z).bind fun i=>(cs[i]?).bind fun c=>(zq[i]?).map fun b=>ou c.2 mx b:=rfl
      cases hz:(cs.map (·.1)).idxOf? z with
      | none=>
       refine aj (fun c=>nomatch c) (fun _=>cB ?_)
       refine k _ _ s' ?_
       rw [ec,hz]
       rfl
      | some i=>
       have hi:i < cs.length:=by
        rw [List.idxOf?_eq_some_iff] at hz
        simpa using hz.1
       obtain ⟨c,c1,c2⟩:=q3 i (by omega) hi (by omega)
       have hg:(some i).bind (fun x=>zs[x]?)=some (.ref c):=by
        rw [Option.bind_some,Qa (show i < zs.length by omega),c1]
       rw [hz,hg] at kh
       rw [hg]
       refine aj (fun _=>?_) (fun c=>nomatch c)
       refine ⟨_,_,.inr (ae.of e'),rfl,_,.str z,.inr (ae.of HX),rfl,D,.ref c,rfl,by have:=jf.k (k:=.inr z) gD;rw [kh] at this;exact this,?_⟩
       refine gU c2 ?_
       refine ⟨_,_,.inr (ae.of e'),rfl,_,x,.inr (ae.of HX),rfl,?_⟩
       have Ub:i < zq.length:=by omega
       have hbi:=hks (i+1) (by simp;omega) (by simp;omega)
       simp only [List.getElem_cons_succ] at hbi
       refine ⟨_,x,_,zq[i],mx,rfl,(hbi.tk s'.ts).up (by omega),((zp 0 (by simp) (by simp)).tk s'.ts).up (by omega),fun r H2 s2 hr'=>k r H2 (s'.trans s2) ?_⟩
       rw [ec,hz]
       simp only [Option.bind_some]
       rw [Qa hi,Qa Ub]
       show a_ H2 (2*d) r (ou _ mx _)
       rw [show 2*d=d+d by omega]
       exact hr'
    | _=>exact absurd hf (by simp only [bq.cf];decide+kernel)
   ·refine aj (fun c=>absurd (V.str.inj (Qt ((QE _).symm.trans c))) hf) (fun _=>cB ?_)
    refine k _ _ (aa.refl _) ?_
    cases f0<;>first | rfl | exact absurd rfl hf
  | _=>exact absurd ⟨by simp only [bq.cf];decide+kernel,by simp only [bq.cf];decide+kernel,by simp only [bq.cf];decide+kernel,by simp only [bq.cf];decide+kernel⟩ hb
def gm (p:List Nat):List V:=p.map fun k:Nat=>.int (k:Int)
def HY (n D:Nat):Sp:=fun vs H Q _=>∃ (v o:V) (pa:Addr) (p:List Nat) (m x:Mr) (d e:Nat),vs=[v,.ref pa,o]/\H pa=some (.tup (gm p))/\p.length < n/\a_ H d v m/\CQ p m/\a_ H e o x/\d<=D/\p.length+e<=D/\∀ r H',aa H H'->a_ H' D r (l_ x p m)->Q r H'
theorem qE (T:Txt K mg w):∀ n D:Nat,ak P w K mg base (n+2) "replaced" ["maker","place","other"] (HY n D):=by
 intro n
 induction n with
 | zero=>
  intro D
  refine T.lU.dh (k:=1) gQ (fun vs H Q E h=>?_) (fun f ao A outer s H vs Q E hr h=>?_)
  ·refine hdn fun Gz9 zG9=>?_;obtain ⟨v,o,pa,p,m,x,d,e,rfl,_⟩:=h;refine zG9 ?_
   rfl
  ·refine hdn fun Gz9 zG9=>?_;obtain ⟨v,o,pa,p,m,x,d,e,_,_,h,_⟩:=h;refine zG9 ?_
   exact absurd h (Nat.not_lt_zero _)
 | succ n ih=>
  intro D
  have i8:ak P w K mg base (n+2) "replaced" ["maker","place","other"] (HY n (D - 1)):=ih (D - 1)
  have bI:ak P w K mg base 1 "makers_in" ["maker"] wg:=cC T
  have eC:ak P w K mg base 1 "with_makers" ["maker","inner"] HN:=fP T
  refine T.lU.dh (k:=n+2) gQ (fun vs H Q E h=>?_) (fun f ao A outer s H vs Q E hr h=>?_)
  ·refine hdn fun Gz9 zG9=>?_;obtain ⟨v,o,pa,p,m,x,d,e,rfl,_⟩:=h;refine zG9 ?_
   rfl
  ·refine hdn fun Gz9 zG9=>?_;obtain ⟨v,o,pa,p,m,x,d,e,rfl,gp,hp,hm,pl,ho,hd,he,k⟩:=h;refine zG9 ?_
   have hu:=bG hr
   have bg:=Qx (bG hr)
   have hsz:sizeLine=16777216:=QL
   refine ⟨_,(aE (bM (aL (bD bg) (bV (bN K) (by rfl) T.nv PySem.boot_len (aB (zv 1) aD)) aF (bf _)) (aG (aW (zv 2))) aZ)
   (aE (aX (i:=3) gQ.nd rfl (Or.inl rfl) (bB bI (hr.mono (by omega)) (aB (zv 0) aD)))
   (aE (hZ (bB i8 (hr.mono (by omega)) (aH (aU (aV K) (zv 3) (aU (aV K) (zv 1) aF (fun _ _=>rfl)) (fun _ _=>rfl)) (aH (eP (rH K) (zv 1) (f9 aF) fA) (aB (zv 2) aD)))) (oZ (zv 3) (aU (aV K) (zv 1) aF (fun _ _=>rfl)) fZ))
   (aG (aW (bB eC (hr.mono (by omega)) (aB (zv 0) (aB (zv 3) aD)))))))),?_⟩
   cases p with
   | nil=>
    refine Or.inl ⟨_,.inr (ae.of gp),⟨rfl,_,rfl,?_⟩⟩
    refine aj (fun _=>?_) (fun c=>absurd c (by simp [gm]))
    refine k _ _ (aa.refl _) ?_
    rw [l_]
    exact ho.up (by simpa using he)
   | cons i p=>
    refine Or.inl ⟨_,.inr (ae.of gp),⟨rfl,_,rfl,?_⟩⟩
    refine aj (fun c=>absurd c (by simp [gm];omega)) (fun _=>aN ?_)
    obtain ⟨d',ks,rfl,sh,ok,gj,hks⟩:=hm.out
    obtain ⟨f,ms⟩:=m
    obtain ⟨y,hy,DB⟩:=pl
    dsimp only [Mr.f,Mr.ks] at sh ok gj hks hy
    obtain ⟨hi,rfl⟩:=List.getElem?_eq_some_iff.mp hy
    have hl:=sh.len
    refine aI ⟨v,ks,rfl,sh.yy ok,fun L H1 hL gL s1=>?_⟩
    have HZ:=s1 _ _ gp
    refine aM (fun σ' H'=>∃ r,σ'=[some v,some (.ref pa),some o,some (.ref L)]/\H' L=some (.lst (ks.set i r))/\a_ H' (D - 1) r (l_ x p ms[i])/\aa H H') ?_ ?_
    ·intro nx av
     have Cb:i < ks.length:=by omega
     refine ⟨_,.int (i:Int),.inr (ae.of HZ),aO _ _,_,ks[i],.inl (ai.of gL),cF (Qa Cb),1,rfl,Or.inr (Or.inr ⟨pa,_,rfl,ae.of HZ,by simp [HT.bj,gm],fun q hq=>?_⟩)⟩
     have AL:f_ (gm (i::p)) (some 1) none=gm p:=by
      simp only [gm,List.map_cons]
      simp [f_,HT.bj]
      exact List.take_of_length_le (by simp)
     rw [AL]
     have s2:=aa.upd hq (.tup (gm p))
     have gq:upd H1 q (.tup (gm p)) q=some (.tup (gm p)):=aA
     generalize upd H1 q (.tup (gm p))=H2 at s2 gq
     have s12:=s1.trans s2
     simp only [List.length_cons] at hp he
     refine ⟨ks[i],o,q,p,ms[i],x,d',e,rfl,gq,by omega,(hks i Cb hi).tk s12.ts,DB,ho.tk s12.ts,by omega,by omega,fun r H3 s3 hr'=>?_⟩
     have LV:=s3 _ _ (s2 _ _ gL)
     have AN:=s3 _ _ (s2 _ _ HZ)
     have tk:Tk H3 (upd H3 L (.lst (ks.set i r))):=(Tk.refl).set LV fun _ z=>nomatch z
     refine ⟨_,.int (i:Int),.inr (ae.of AN),aO _ _,L,ks,_,i,rfl,rfl,LV,?_,?_⟩
     ·unfold ua
      simp [Cb]
     ·exact av _ _ ⟨r,rfl,aA,hr'.tk tk,(s12.trans s3).put hL⟩
    ·rintro σ' H2 ⟨r,rfl,De,hr',s2⟩
     refine ⟨v,f,ks,ks.set i r,L,rfl,sh.tk s2.ts,ok,De,by simp [hl],fun v' H3 s3 Uc=>k v' H3 (s2.trans s3) ?_⟩
     rw [l_]
     simp only [hy]
     obtain ⟨D',rfl⟩:∃ D',D=D'+1:=⟨D - 1,by omega⟩
     refine .mk Uc ok (by simp [gj]) fun j h1 h2=>?_
     rw [List.getElem_set,List.getElem_set]
     by_cases hj:i=j
     ·rw [if_pos hj,if_pos hj]
      exact hr'.tk s3.ts
     ·rw [if_neg hj,if_neg hj]
      exact ((hks j (by simpa using h1) (by simpa using h2)).tk (s2.trans s3).ts).up (by omega)
def LW (d:Nat):Sp:=fun vs H Q _=>∃ (v:V) (m:Mr),vs=[v]/\a_ H d v m/\ay m<=1000000/\∀ R H',aa H H'->(if jb m=true then H' R=some (.tup [.af,.af]) else ∃ pa r,H' R=some (.tup [.ref pa,r])/\H' pa=some (.tup (gm (dg m).1))/\(match (dg m).2 with | none=>r=.af | some c=>a_ H' (2*d) r c))->Q (.ref R) H'
theorem o4 (T:Txt K mg w) (d:Nat) (Wi:d<=1000):ak P w K mg base (d+5) "next_step" ["maker"] (LW d):=by
 have bI:ak P w K mg base 1 "makers_in" ["maker"] wg:=cC T
 have iF:ak P w K mg base 2 "is_value" ["maker"] (HQ d):=jX T d
 have i6:ak P w K mg base 3 "first_to_do" ["maker"] (LM d):=l7 T d
 have lC:ak P w K mg base (d+4) "done_at_once" ["maker"] (LQ d):=kJ T d
 refine T.qK.dh (k:=d+4) cJ (fun vs H Q E h=>?_) (fun f ao A outer s H vs Q E hr h=>?_)
 ·obtain ⟨v,m,rfl,_⟩:=h
  rfl
 ·obtain ⟨v,m,rfl,hm,hc,k⟩:=h
  have hu:=bG hr
  have bg:=Qx (bG hr)
  have hsz:sizeLine=16777216:=QL
  refine ⟨_,(aE (bM (zO (bB iF (hr.mono (by omega)) (aB (zv 0) aD))) (aG (aW (aS (aC eK (aC eK aD))))) aZ)
   (aE (aX (i:=1) cJ.nd rfl (Or.inl rfl) (aS aD))
   (aE (aX (i:=2) cJ.nd rfl (Or.inl rfl) (bB i6 (hr.mono (by omega)) (aB (zv 0) aD)))
   (aE (gX PassesOwn.never (aL tM (zv 2) eK (bf _)) (aE (qL (i:=1) cJ.nd rfl (Or.inl rfl) (aS (aB (zv 2) aD)) (xK K))
   (aE (aX (i:=0) cJ.nd rfl (Or.inl rfl) (aU (aV K) (bB bI (hr.mono (by omega)) (aB (zv 0) aD)) (zv 2) (fun _ _=>rfl)))
   (aG (aX (i:=2) cJ.nd rfl (Or.inl rfl) (bB i6 (hr.mono (by omega)) (aB (zv 0) aD)))))))
   (aG (aW (aS (aB (zv 1) (bF (bB lC (hr.mono (by omega)) (aB (zv 0) aD)) aD))))))))),?_⟩
  refine ⟨v,m,rfl,hm,hc,fun H1 s1=>⟨_,rfl,aj (fun c=>?_) (fun c=>aN ?_)⟩⟩
  ·refine ⟨(show 2<=sizeLine by decide),fun R hR=>k R _ (s1.trans (aa.upd hR _)) ?_⟩
   rw [if_pos c]
   exact aA
  simp only [c,Bool.false_eq_true,if_false] at k
  refine aI ⟨(show 0<=sizeLine by decide),fun pa Ud=>?_⟩
  have s2:=aa.upd Ud (.tup [])
  have Cc:upd H1 pa (.tup []) pa=some (.tup []):=aA
  dsimp only
  generalize upd H1 pa (.tup [])=H2 at s2 Cc
  refine aI ⟨v,m,rfl,hm.tk (s1.trans s2).ts,hc,fun H3 s3=>?_⟩
  have Dy:=(s1.trans s2).trans s3
  dsimp only
  refine aM (fun σ' H'=>∃ (v':V) (m':Mr) (qa:Addr) (q:List Nat) (v2:Option V),σ'=[some v',some (.ref qa),v2]/\H' qa=some (.tup (gm q))/\a_ H' d v' m'/\oz m'=none/\dg m=(q,vo m')/\aa H H') ?_ ?_
  ·intro nx av
   refine ⟨fun n σ' H'=>∃ (v':V) (m':Mr) (qa:Addr) (q:List Nat),σ'=[some v',some (.ref qa),some (B_ (oz m'))]/\H' qa=some (.tup (gm q))/\a_ H' d v' m'/\n=cz m'/\q.length+cz m'<=d/\ay m'<=1000000/\dg m=(q++(dg m').1,(dg m').2)/\aa H H',⟨_,v,m,pa,[],rfl,s3 _ _ Cc,hm.tk Dy.ts,rfl,by simpa using hm.dep,hc,rfl,Dy⟩,?_⟩
   rintro n σ' H4 ⟨v',m',qa,q,rfl,gq,hm',rfl,hq,sf,hn,s4⟩
   cases hf:oz m' with
   | none=>
    refine ⟨_,rfl,aj (fun c=>absurd c (by decide)) (fun _=>?_)⟩
    refine av _ _ ⟨v',m',qa,q,_,rfl,gq,hm',hf,?_,s4⟩
    rw [hn,jN hf]
    simp
   | some i=>
    refine ⟨_,rfl,aj (fun _=>?_) (fun c=>absurd c (by simp [B_]))⟩
    obtain ⟨hi,_⟩:=nJ hf
    refine ⟨fun σ' H'=>∃ n',n' < cz m'/\∃ (v':V) (m':Mr) (qa:Addr) (q:List Nat),σ'=[some v',some (.ref qa),some (B_ (oz m'))]/\H' qa=some (.tup (gm q))/\a_ H' d v' m'/\n'=cz m'/\q.length+cz m'<=d/\ay m'<=1000000/\dg m=(q++(dg m').1,(dg m').2)/\aa H H',fun σ' H' h=>h,?_⟩
    have Ep:=hm.dep
    refine aM (fun σ' H'=>∃ qb,σ'=[some v',some (.ref qb),some (.int (i:Int))]/\H' qb=some (.tup (gm (q++[i])))/\aa H4 H') ?_ ?_
    ·intro ii iz
     refine ⟨_,rfl,(show 1<=sizeLine by decide),fun t ht=>?_⟩
     have s5:=aa.upd ht (.tup [B_ (some i)])
     refine JT (s5 _ _ gq) aA (by simp [gm];omega) fun c H6 s6 e6=>?_
     refine iz _ _ ⟨c,rfl,?_,s5.trans s6⟩
     rw [e6]
     simp [gm,B_]
    ·rintro σ' H5 ⟨qb,rfl,Ue,s5⟩
     obtain ⟨ks,sh,ok,hks⟩:=hm'.kids
     have gj:=hks.len
     refine aI ⟨v',ks,rfl,(sh.yy ok).tk s5.ts,fun L H6 hL gL s6=>?_⟩
     have LX:=s5.trans s6
     have Cb:i < ks.length:=by omega
     refine ⟨_,ks[i],.inl (ai.of gL),cF (Qa Cb),?_⟩
     have LY:=(hks.at_ i Cb hi).tk LX.ts
     have ie:ay m'.ks[i]<=1000000:=by
      have h1:=jQ (Qj hi)
      have h2:ay m'=1+be m'.ks:=by cases m';rw [ay];rfl
      omega
     have hd2:cz m'.ks[i]+1<=cz m':=by
      have h1:=eM (Qj hi)
      have h2:cz m'=1+ow m'.ks:=by cases m';rw [cz];rfl
      omega
     dsimp only
     refine ⟨ks[i],m'.ks[i],rfl,LY,ie,fun H7 s7=>?_⟩
     refine ⟨_,?_,ks[i],m'.ks[i],qb,q++[i],rfl,s7 _ _ (s6 _ _ Ue),LY.tk s7.ts,rfl,?_,ie,?_,(s4.trans LX).trans s7⟩
     ·omega
     ·simp;omega
     ·rw [hn,j4 hf hi]
      simp
  ·rintro σ' H4 z0;refine hdn fun Gz9 zG9=>?_;obtain ⟨v',m',qa,q,v2,rfl,gq,hm',hf,hn,s4⟩:=z0;refine zG9 ?_
   refine ⟨v',m',rfl,hm',fun r H5 s5 hr'=>⟨(show 2<=sizeLine by decide),fun R hR=>?_⟩⟩
   have s6:=aa.upd hR (.tup [.ref qa,r])
   refine k R _ ((s4.trans s5).trans s6) ⟨qa,r,aA,?_,?_⟩
   ·rw [hn]
    exact s6 _ _ (s5 _ _ gq)
   ·rw [hn]
    simp only []
    cases LZ:vo m' with
    | none=>rw [LZ] at hr';exact hr'
    | some c=>rw [LZ] at hr';exact hr'.tk s6.ts
def L0:Sp:=fun vs H Q _=>∃ (e:Addr) (i:Nat),vs=[.ref e,.int i]/\i < 1000000000/\H e=some (jp (adr mg "TooMany") none e)/\∀ dx,H dx=none->Q .af (upd (upd H e (jp (adr mg "TooMany") (some dx) e)) dx (.xd [("many",.int i)]))
theorem kM (T:Txt K mg w):GU P w K mg base 1 "TooMany" ["self","many"] (L0 (mg:=mg)):=by
 refine T.BO.dh kH (fun vs H Q E h=>?_) (fun f ao A outer s H vs Q E hr h=>?_)
 ·obtain ⟨e,i,rfl,_⟩:=h
  rfl
 ·obtain ⟨e,i,rfl,hi,he,k⟩:=h
  refine ⟨_,(aE (cV (Rp K T.RS (aB (zv 0) (aC aJ aD))))
   (aG (Rq K (zv 0) (zv 1)))),?_⟩
  refine ⟨e,_,none,_,rfl,by simp,T.BO.at_,he,?_⟩
  exact ⟨e,_,rfl,he,T.BO.at_,T.BO.na _ (by simp),fun dx hd=>k dx hd⟩
structure ph (H:Hp) (d:Nat) (ws:List V) (st:List (Mr×Nat)):Prop where
 len:ws.length=st.length
 at_:∀ i (h:i < ws.length) (h':i < st.length),∃ c x,ws[i]=.ref c/\H c=some (.tup [x,.int ((st[i].2+1:Nat):Int)])/\a_ H d x st[i].1
theorem ph.tk {H H':Hp} {d:Nat} {ws:List V} {st:List (Mr×Nat)} (h:ph H d ws st) (s:Tk H H'):ph H' d ws st:=⟨h.len,fun i a b=>let ⟨c,x,h1,h2,h3⟩:=h.at_ i a b;⟨c,x,h1,s _ _ h2,h3.tk s⟩⟩
theorem ph.app {ws us:List V} {st tt:List (Mr×Nat)} (h1:ph H d ws st) (h2:ph H d us tt):ph H d (ws++us) (st++tt):=by
 have l1:=h1.len
 refine ⟨by simp [h1.len,h2.len],fun i a b=>?_⟩
 by_cases h:i < ws.length
 ·rw [Qe h,Qe (by omega)]
  exact h1.at_ i h (by omega)
 ·rw [Qf (by omega),Qf (by omega)]
  simp only [<- l1]
  exact h2.at_ _ (by simp at a;omega) (by have:=h2.len;simp at a;omega)
theorem ph.last {ws:List V} {st:List (Mr×Nat)} (h:ph H d ws st) (gh:ws≠[]):∃ ig st' c x m k,ws=ig++[.ref c]/\st=st'++[(m,k)]/\ph H d ig st'/\H c=some (.tup [x,.int ((k+1:Nat):Int)])/\a_ H d x m:=by
 have hl:=h.len
 have hp:0 < ws.length:=List.length_pos_iff.mpr gh
 rcases List.eq_nil_or_concat ws with z | ⟨ig,v,rfl⟩
 ·exact absurd z gh
 rcases List.eq_nil_or_concat st with rfl | ⟨st',m,rfl⟩
 ·rw [hl] at hp;exact absurd hp (by simp)
 rw [List.concat_eq_append] at hl h ⊢
 rw [List.concat_eq_append] at hl h ⊢
 have hl':ig.length=st'.length:=by simpa using hl
 obtain ⟨c,x,e1,e2,e3⟩:∃ c x,v=.ref c/\H c=some (.tup [x,.int ((m.2+1:Nat):Int)])/\a_ H d x m.1:=by
  have:=h.at_ ig.length (by simp) (by simp;omega)
  rw [Qf (Qy _),Qf (by omega)] at this
  simpa [hl'] using this
 subst e1
 refine ⟨ig,st',c,x,m.1,m.2,rfl,rfl,⟨hl',fun i a b=>?_⟩,e2,e3⟩
 have:=h.at_ i (by simp;omega) (by simp;omega)
 rwa [Qe a,Qe b] at this
def mh (st:List (Mr×Nat)):Nat:=be (st.map (·.1))
def oj:List (Mr×Nat)->Nat
 | []=>0
 | (m,k)::l=>max (k+cz m) (oj l)
theorem lG:∀ a b:List (Mr×Nat),oj (a++b)=max (oj a) (oj b)
 | [],b=>by simp [oj]
 | (m,k)::a,b=>by simp [oj,lG a b,Nat.max_assoc]
theorem nA (k:Nat):∀ ks:List Mr,max (k+1) (oj (ks.map fun m=>(m,k+1)))=k+1+ow ks
 | []=>by simp [oj,ow]
 | m::ks=>by
  have:=nA k ks
  simp only [List.map_cons,oj,ow]
  omega
theorem uG {v:V} {u:TS} (h:u D ((σ.set i (some v)).set j (some v)) H):yl (s_ (tC v) (J0 (jd i) (jd j))) u D σ H:=h
def yg (mg:Str->Option Value) (H:Hp) (E:XK) (n:Nat):Prop:=∀ e dx H',aa H H'->H' e=some (nj (adr mg "TooMany") (some dx) e)->H' dx=some (.xd [("many",.int n)])->E (.ref e) (some dx) H'
def L3 (d:Nat):Sp:=fun vs H Q E=>∃ (v:V) (m:Mr),vs=[v]/\a_ H d v m/\ay m<=1000000/\(ay m<=400->cz m<=40->∀ H',aa H H'->Q .af H')/\(400 < ay m->yg mg H E 400)/\(ay m<=400->40 < cz m->yg mg H E 40)
theorem q9 {H1:Hp} {E:XK} (hn:n < 1000000000) (s1:aa H H1) (k:yg mg H E n):GR (adr mg "TooMany") (L0 (mg:=mg)) (p_ (tC (.int (n:Int))) Ct) E D σ H1:=by
 refine ⟨by simp,fun e he=>⟨e,n,rfl,hn,aA,fun dx hd=>?_⟩⟩
 have ne:dx≠e:=fun z=>by rw [z,aA] at hd;cases hd
 rw [aK ne] at hd
 refine ⟨rfl,some dx,by rw [aK ne.symm,aA],?_⟩
 refine k e dx _ (s1.trans fun b o hb=>?_) aA (by rw [aK ne,aA])
 have n1:b≠e:=fun z=>by rw [z,he] at hb;cases hb
 have n2:b≠dx:=fun z=>by rw [z,hd] at hb;cases hb
 rw [aK n1,aK n2,aK n1,aK n1]
 exact hb
theorem kE (T:Txt K mg w) (d:Nat):vy P w K mg base 3 "refuse_large" ["maker"] (L3 (mg:=mg) d):=by
 have bI:ak P w K mg base 1 "makers_in" ["maker"] wg:=cC T
 have mK:=kM (P:=P) (w:=w) (base:=base) T
 refine T.lH.Kh bJ (fun vs H Q E h=>?_) (fun f ao A outer s H vs Q E hr h=>?_)
 ·obtain ⟨v,m,rfl,_⟩:=h
  rfl
 ·refine hdn fun Gz9 zG9=>?_;obtain ⟨v,m,rfl,hm,hc,k1,k2,k3⟩:=h;refine zG9 ?_
  have hu:=bG hr
  have bg:=Qx (bG hr)
  have hsz:sizeLine=16777216:=QL
  refine ⟨_,(aE (aX (i:=1) bJ.nd rfl (Or.inl rfl) (cA (aT (aS (aB (zv 0) (aC aF aD))) aD)))
   (aE (zS aF (aY (i:=2) bJ.nd rfl (Or.inl rfl)) (aY (i:=3) bJ.nd rfl (Or.inl rfl)))
   (aE (gX PassesOwn.leaving (t9 K (zv 1)) (aE (hZ (zP K QH PySem.F.slot_list_pop PySem.F.type_list_pop wN (zv 1)) (dG K (n:=2) rfl (bA (aY (i:=4) bJ.nd rfl (Or.inl rfl)) (bA (aY (i:=5) bJ.nd rfl (Or.inr rfl)) cL))))
   (aE (qL (i:=2) bJ.nd rfl (Or.inl rfl) aF nQ)
   (aE (bM (aL jF (zv 2) (yC T.i5) (bf _)) (aG (qT mK (hr.mono (by decide)) (aB (yC T.i5) aD))) aZ)
   (aE (aX (i:=3) bJ.nd rfl (Or.inl rfl) (bV (u4 rfl) (by rfl) T.RO PyProof.Rows.boot_max (aB (zv 3) (aB (zv 5) aD))))
   (aG (cV (jM K QH PySem.F.slot_list_extend PySem.F.type_list_extend jP (zv 1) (d9 (oO (own:=["inner"]) (idx:=[5]) (N':=["inner","deep"]) (dE (az cR) (["maker","waiting","many","deepest","one","deep"]:List Str) (by decide+kernel)) rfl (qW K (bB bI (hr.mono (by decide)) (aB (zv 4) aD))) (fun _ _ _ _ _ _=>(aY (i:=0) (show List.Nodup (["inner","deep"]:List Str) by decide+kernel) rfl (Or.inl rfl))) (fun _ _ _ _ _ _=>eL) (fun _ _ _ _ _ _=>(aS (aB (zv 0) (cD (bS bW (zv 1) aF) aD))))) aD)))))))))
   (aG (bM (aL jF (zv 3) (yC T.hX) (bf _)) (aG (qT mK (hr.mono (by decide)) (aB (yC T.hX) aD))) aZ))))),?_⟩
  refine aI ⟨(show 2<=sizeLine by decide),fun c0 Ug=>⟨(show 1<=sizeLine by decide),fun W hW=>?_⟩⟩
  have s1:=aa.upd Ug (.tup [v,.int 1])
  have gc:upd H c0 (.tup [v,.int 1]) c0=some (.tup [v,.int 1]):=aA
  generalize upd H c0 (.tup [v,.int 1])=H1 at s1 gc hW
  have s2:=aa.upd hW (.lst [.ref c0])
  have gW:upd H1 W (.lst [.ref c0]) W=some (.lst [.ref c0]):=aA
  have fW:H W=none:=s1.free hW
  dsimp only
  generalize upd H1 W (.lst [.ref c0])=H2 at s2 gW
  refine uG ?_
  refine aM (fun σ' H'=>∃ v4 v5:Option V,σ'=[some v,some (.ref W),some (.int (ay m:Int)),some (.int (cz m:Int)),v4,v5]/\ay m<=400/\aa H H') ?_ ?_
  rotate_left
  ·rintro σ' H' ⟨v4,v5,rfl,h4,s'⟩
   refine ⟨_,rfl,aj (fun c=>?_) (fun c=>?_)⟩
   ·have:=Qt c
    exact q9 (n:=40) (by omega) s' (k3 h4 (by omega))
   ·have:=of_decide_eq_false c
    exact k1 h4 (by omega) H' s'
  intro nx av
  refine ⟨fun n σ' H'=>∃ (ws:List V) (st:List (Mr×Nat)) (many pq:Nat) (v4 v5:Option V),σ'=[some v,some (.ref W),some (.int (many:Int)),some (.int (pq:Int)),v4,v5]/\n=mh st/\H' W=some (.lst ws)/\ph H' d ws st/\many+mh st=ay m/\max pq (oj st)=cz m/\many<=400/\aa H H',⟨_,[.ref c0],[(m,0)],0,0,none,none,rfl,rfl,gW,⟨rfl,fun i a b=>?_⟩,?_,?_,by omega,s1.trans s2⟩,?_⟩
  ·obtain rfl:i=0:=by simp at a;omega
   exact ⟨c0,v,rfl,s2 _ _ gc,hm.tk (s1.trans s2).ts⟩
  ·simp [mh,be]
  ·simp [oj]
  rintro n σ' H3 ⟨ws,st,many,pq,v4,v5,rfl,rfl,g3,hst,L4,H_,h4,s3⟩
  refine ⟨!ws.isEmpty,.inl ⟨ws,ai.of g3,rfl⟩,aj (fun c=>?_) (fun c=>?_)⟩
  rotate_left
  ·have:ws=[]:=by simpa using c
   subst this
   have:st=[]:=List.length_eq_zero_iff.mp hst.len.symm
   subst this
   have e1:many=ay m:=by simpa [mh,be] using L4
   have e2:pq=cz m:=by simpa [oj] using H_
   subst e1 e2
   exact av _ _ ⟨_,_,rfl,h4,s3⟩
  obtain ⟨ig,st',c1,y,m1,k,rfl,rfl,Uh,e2,e3⟩:=hst.last (by intro z;rw [z] at c;cases c)
  have HR:ay m1=1+be m1.ks:=by cases m1;rw [ay];rfl
  have Wj:cz m1=1+ow m1.ks:=by cases m1;rw [cz];rfl
  have Ui:mh (st'++[(m1,k)])=mh st'+(1+be m1.ks):=by
   unfold mh
   rw [Qm,cZ,List.map_cons,List.map_nil,be,be,HR]
   omega
  rw [Ui] at L4 ⊢
  rw [lG] at H_
  refine ⟨fun σ' H'=>∃ n',n' < mh st'+(1+be m1.ks)/\∃ (ws:List V) (st:List (Mr×Nat)) (many pq:Nat) (v4 v5:Option V),σ'=[some v,some (.ref W),some (.int (many:Int)),some (.int (pq:Int)),v4,v5]/\n'=mh st/\H' W=some (.lst ws)/\ph H' d ws st/\many+mh st=ay m/\max pq (oj st)=cz m/\many<=400/\aa H H',fun σ' H' h=>h,?_⟩
  have B9:Tk H3 (upd H3 W (.lst ig)):=(Tk.refl).set g3 (by intro _ z;cases z)
  refine aM (fun σ' H'=>σ'=[some v,some (.ref W),some (.int (many:Int)),some (.int (pq:Int)),some y,some (.int ((k+1:Nat):Int))]/\H'=upd H3 W (.lst ig)) (fun ii iz=>?_) ?_
  ·refine ⟨.inl ⟨rfl,_,ai.of g3⟩,W,_,.ref c1,rfl,rfl,g3,by simp,?_⟩
   rw [List.dropLast_concat]
   exact gU (B9 _ _ e2) (iz _ _ ⟨rfl,rfl⟩)
  rintro σ' _ ⟨rfl,rfl⟩
  have g4:upd H3 W (.lst ig) W=some (.lst ig):=aA
  have s4:=s3.put (o:=.lst ig) fW
  have Ia:=Uh.tk B9
  have Dw:=e3.tk B9
  generalize upd H3 W (.lst ig)=H4 at g4 s4 Ia Dw
  refine aM (fun σ' H'=>σ'=[some v,some (.ref W),some (.int ((many+1:Nat):Int)),some (.int (pq:Int)),some y,some (.int ((k+1:Nat):Int))]/\H4=H') (fun ii iz=>?_) ?_
  ·exact ⟨_,rfl,_,_,rfl,rfl,iz _ _ ⟨rfl,rfl⟩⟩
  rintro σ' _ ⟨rfl,rfl⟩
  refine ⟨_,rfl,aj (fun c=>?_) (fun c=>aN ?_)⟩
  ·have:=Qt c
   exact q9 (n:=400) (by omega) s4 (k2 (by omega))
  have Wk:=of_decide_eq_false c
  refine aI ⟨_,_,rfl,?_⟩
  have Uj:(if ((k+1:Nat):Int) > (pq:Int) then ((k+1:Nat):Int) else (pq:Int))=((max pq (k+1):Nat):Int):=by split<;>omega
  rw [Uj]
  obtain ⟨ks,sh,ok,hks⟩:=Dw.kids
  have gj:=hks.len
  have oq:=eJ m1.ks
  dsimp only
  refine ⟨.inl ⟨rfl,_,ai.of g4⟩,y,ks,rfl,sh.yy ok,fun L H6 hL gL s6=>Or.inl ⟨⟨ks,ai.of gL⟩,fun D hD=>?_⟩⟩
  refine fK (dP ks) (fun i τ H7=>(∃ zs,H7 D=some (.lst zs)/\ph H7 d zs ((m1.ks.take i).map fun z=>(z,k+1)))/\aa H6 H7/\∃ v1,τ=[v1,some (.int ((k+1:Nat):Int))]) ⟨⟨[],aA,rfl,fun j h=>nomatch h⟩,aa.upd hD _,none,rfl⟩ (fun i τ H7 _ h=>ai.of (h.2.1 _ _ gL)) ?_ ?_
  ·rintro i τ H7 hi ⟨⟨zs,q1,q2⟩,q3,v1,rfl⟩
   have L5:i < m1.ks.length:=by omega
   have eg:ks.getD i .af=ks[i]:=by simp [Qb,hi]
   rw [eg]
   refine ⟨(show 2<=sizeLine by decide),fun t ht=>?_⟩
   have e1:((k+1:Nat):Int)+1=((k+1+1:Nat):Int):=by omega
   rw [e1]
   have DC:=aa.upd ht (.tup [ks[i],.int ((k+1+1:Nat):Int)])
   have gt:upd H7 t (.tup [ks[i],.int ((k+1+1:Nat):Int)]) t=some (.tup [ks[i],.int ((k+1+1:Nat):Int)]):=aA
   generalize upd H7 t (.tup [ks[i],.int ((k+1+1:Nat):Int)])=H8 at DC gt
   have zc:=DC _ _ q1
   have tk:Tk H8 (upd H8 D (.lst (zs++[.ref t]))):=(Tk.refl).set zc fun _ z=>nomatch z
   have EY:=q2.len
   simp at EY
   refine ⟨zs,zc,by omega,⟨zs++[.ref t],aA,?_⟩,(q3.trans DC).put hD,_,rfl⟩
   rw [Qs,Qa L5,Qm]
   refine ((q2.tk DC.ts).tk tk).app ⟨rfl,fun j a b=>?_⟩
   obtain rfl:j=0:=by simp at a;omega
   exact ⟨t,ks[i],rfl,tk _ _ gt,((hks.at_ i hi L5).tk ((s6.trans q3).trans DC).ts).tk tk⟩
  ·rintro τ H7 ⟨⟨zs,q1,q2⟩,q3,v1,rfl⟩
   rw [List.take_of_length_le (by omega)] at q2
   have EY:=q2.len
   simp at EY
   have SY:=Ia.len
   have L6:st'.length<=mh st':=by
    have:=eJ (st'.map (·.1))
    simpa [mh] using this
   have Ib:=s6.trans q3
   have g7:=Ib _ _ g4
   have tk:Tk H7 (upd H7 W (.lst (ig++zs))):=(Tk.refl).set g7 fun _ z=>nomatch z
   refine ⟨W,D,_,_,rfl,rfl,g7,q1,by omega,?_⟩
   have zo:mh (st'++m1.ks.map fun z=>(z,k+1))=mh st'+be m1.ks:=by
    unfold mh
    rw [Qm,cZ,List.map_map]
    congr 2
    exact List.map_id' _
   have Wn:=nA k m1.ks
   refine ⟨_,?_,_,st'++m1.ks.map (fun z=>(z,k+1)),many+1,max pq (k+1),_,_,rfl,rfl,aA,((Ia.tk Ib.ts).app q2).tk tk,by omega,?_,by omega,(s4.trans Ib).put fW⟩
   ·omega
   ·rw [lG]
    simp only [oj] at H_
    omega
def wq (H:Hp) (pl bc:V) (m:Mr):Prop:=if jb m=true then pl=.af/\bc=.af else ∃ pa,pl=.ref pa/\H pa=some (.tup (gm (dg m).1))/\(match (dg m).2 with | none=>bc=.af | some c=>a_ H 80 bc c)
def DE (H:Hp) (kt:Addr):Kd->Prop
 | .val=>H kt=some (.tup [.str "value"])
 | .stuck p=>∃ pa,H kt=some (.tup [.str "stuck",.ref pa])/\H pa=some (.tup (gm p))
 | .on=>H kt=some (.tup [.str "on"])
def Cd (H:Hp) (t:Addr) (m:Mr) (dn:Nat) (kd:Kd):Prop:=∃ mv kt,H t=some (.tup [mv,.int (dn:Int),.ref kt])/\DE H kt kd/\a_ H 40 mv m
def L7:Sp:=fun vs H Q E=>∃ (v:V) (n:Nat) (m:Mr),vs=[v,.int (n:Int)]/\n<=100000/\a_ H 40 v m/\ay m<=400/\(match di n 0 m with | .inl k=>yg mg H E k | .inr (m',dn,kd)=>∀ t H',aa H H'->Cd H' t m' dn kd->Q (.ref t) H')
theorem vY {R:Addr} {m:Mr} (h:if jb m=true then H R=some (.tup [.af,.af]) else ∃ pa r,H R=some (.tup [.ref pa,r])/\H pa=some (.tup (gm (dg m).1))/\(match (dg m).2 with | none=>r=.af | some c=>a_ H (2*40) r c)):∃ pl bc,H R=some (.tup [pl,bc])/\wq H pl bc m:=by
 unfold wq
 by_cases c:jb m=true
 ·rw [if_pos c] at h
  exact ⟨_,_,h,by rw [if_pos c];exact ⟨rfl,rfl⟩⟩
 ·rw [if_neg c] at h
  obtain ⟨pa,r,h1,h2,h3⟩:=h
  exact ⟨_,_,h1,by rw [if_neg c];exact ⟨pa,rfl,h2,h3⟩⟩
theorem yg.mono {H1:Hp} {E:XK} (k:yg mg H E n) (s:aa H H1):yg mg H1 E n:=fun e dx H' s' h1 h2=>k e dx H' (s.trans s') h1 h2
theorem kS {v:V} {m:Mr} (h:a_ H d v m):∃ a,v=.ref a:=by
 obtain ⟨k,vs,_,sh,_⟩:=h.out
 obtain ⟨a,_,e,_⟩:=sh.ref
 exact ⟨a,e⟩
theorem lN {dn:Nat} {m:Mr} (h:qo m=none\/n=0):di n dn m=.inr (m,dn,iw m):=by
 cases n with
 | zero=>rfl
 | succ n=>
  rcases h with h | h
  ·rw [di,h]
  ·cases h
theorem vH (T:Txt K mg w):vy P w K mg base 46 "run" ["maker","n"] (L7 (mg:=mg)):=by
 have k9:ak P w K mg base 45 "next_step" ["maker"] (LW 40):=o4 T 40 (by omega)
 have i8:ak P w K mg base 43 "replaced" ["maker","place","other"] (HY 41 120):=qE T 41 120
 have lL:vy P w K mg base 3 "refuse_large" ["maker"] (L3 (mg:=mg) 120):=kE T 120
 refine T.RQ.Kh fV (fun vs H Q E h=>?_) (fun f ao A outer s H vs Q E hr h=>?_)
 ·obtain ⟨v,n,m,rfl,_⟩:=h
  rfl
 ·refine hdn fun Gz9 zG9=>?_;obtain ⟨v,n,m,rfl,hn,hm,hc,k⟩:=h;refine zG9 ?_
  have hu:=bG hr
  have bg:=Qx (bG hr)
  have hsz:sizeLine=16777216:=QL
  refine ⟨_,(aE (aX (i:=2) fV.nd rfl (Or.inl rfl) aF)
   (aE (hZ (bB k9 (hr.mono (by omega)) (aB (zv 0) aD)) (dG K (n:=2) rfl (bA (aY (i:=3) fV.nd rfl (Or.inl rfl)) (bA (aY (i:=4) fV.nd rfl (Or.inl rfl)) cL))))
   (aE (gX PassesOwn.leaving (kD (aL lW (zv 2) (zv 1) (bf _)) (fQ (aL tM (zv 4) eK (bf _)))).pt (aE (aX (i:=0) fV.nd rfl (Or.inl rfl) (bB i8 (hr.mono (by omega)) (aB (zv 0) (aB (zv 3) (aB (zv 4) aD)))))
   (aE (cV (Rx lL (hr.mono (by omega)) (aB (zv 0) aD)))
   (aE (qL (i:=2) fV.nd rfl (Or.inl rfl) aF nQ)
   (aG (hZ (bB k9 (hr.mono (by omega)) (aB (zv 0) aD)) (dG K (n:=2) rfl (bA (aY (i:=3) fV.nd rfl (Or.inl rfl)) (bA (aY (i:=4) fV.nd rfl (Or.inl rfl)) cL)))))))))
   (aE (bM (aL rZ (zv 3) eK (bf _)) (aG (aW (aS (aB (zv 0) (aB (zv 2) (aT (aS (aC aJ aD)) aD)))))) aZ)
   (aE (bM (aL rZ (zv 4) eK (bf _)) (aG (aW (aS (aB (zv 0) (aB (zv 2) (aT (aS (aC aJ (aB (zv 3) aD))) aD)))))) aZ)
   (aG (aW (aS (aB (zv 0) (aB (zv 2) (aT (aS (aC aJ aD)) aD))))))))))),?_⟩
  refine jD ?_
  refine aM (fun σ' H'=>∃ pl bc,σ'=[some v,some (.int (n:Int)),some (.int 0),some pl,some bc]/\wq H' pl bc m/\aa H H') ?_ ?_
  ·intro nx av
   refine ⟨v,m,rfl,hm,by omega,fun R H1 s1 h1=>?_⟩
   obtain ⟨pl,bc,e1,e2⟩:=vY h1
   exact gU e1 (av _ _ ⟨pl,bc,rfl,e2,s1⟩)
  rintro σ' H1 ⟨pl,bc,rfl,Uk,s1⟩
  refine aM (fun σ' H'=>∃ (v':V) (m':Mr) (dn:Nat) (pl bc:V),σ'=[some v',some (.int (n:Int)),some (.int (dn:Int)),some pl,some bc]/\a_ H' 40 v' m'/\wq H' pl bc m'/\aa H H'/\di n 0 m=.inr (m',dn,iw m')) ?_ ?_
  ·intro nx av
   refine ⟨fun mm σ' H'=>∃ (v':V) (m':Mr) (dn:Nat) (pl bc:V),σ'=[some v',some (.int (n:Int)),some (.int (dn:Int)),some pl,some bc]/\mm=n - dn/\dn<=n/\a_ H' 40 v' m'/\ay m'<=400/\wq H' pl bc m'/\aa H H'/\di n 0 m=di (n - dn) dn m',⟨_,v,m,0,pl,bc,rfl,rfl,by omega,hm.tk s1.ts,hc,Uk,s1,rfl⟩,?_⟩
   rintro mm σ' H2 ⟨v',m',dn,DB,Ie,rfl,rfl,C2,hm',sf,ii,s2,ju⟩
   have stop:(qo m'=none\/n - dn=0)->nx [some v',some (.int (n:Int)),some (.int (dn:Int)),some DB,some Ie] H2:=fun h=>av _ _ ⟨v',m',dn,DB,Ie,rfl,hm',ii,s2,by rw [ju,lN h]⟩
   refine ⟨_,rfl,aj (fun c=>?_) (fun c=>jy (stop (.inr ?_)))⟩
   rotate_left
   ·have:=of_decide_eq_false c
    omega
   have bz:dn < n:=by have:=Qt c;omega
   by_cases hv:jb m'=true
   ·unfold wq at ii
    rw [if_pos hv] at ii
    obtain ⟨rfl,rfl⟩:=ii
    refine ⟨_,rfl,aj (fun c=>absurd c (by decide)) (fun _=>stop (.inl ?_))⟩
    unfold qo
    rw [if_pos hv]
   have Ig:=ii
   unfold wq at Ig
   rw [if_neg hv] at Ig
   obtain ⟨pa,rfl,Cc,wu⟩:=Ig
   cases hz:(dg m').2 with
   | none=>
    rw [hz] at wu
    subst wu
    refine ⟨_,rfl,aj (fun c=>absurd c (by decide)) (fun _=>stop (.inl ?_))⟩
    unfold qo
    rw [if_neg hv,hz]
    rfl
   | some c1=>
    rw [hz] at wu
    obtain ⟨ab,rfl⟩:=kS wu
    refine ⟨_,rfl,aj (fun _=>?_) (fun c=>absurd c (by simp))⟩
    have hst:qo m'=some (l_ c1 (dg m').1 m'):=by
     unfold qo
     rw [if_neg hv,hz]
     rfl
    have hpl:=tP _ m' (Qy _)
    have Wo:=hpl.len
    have Wp:=hm'.dep
    have Fv:=pB _ m' (Qy _) hz
    have Ul:=pG c1 (dg m').1 m'
    have Wq:ay m'*ay m'<=400*400:=Nat.mul_le_mul sf sf
    obtain ⟨j,hj⟩:∃ j,n - dn=j+1:=⟨n - dn - 1,by omega⟩
    have A1:di n 0 m=if 400 < ay (l_ c1 (dg m').1 m') then .inl 400 else if 40 < cz (l_ c1 (dg m').1 m') then .inl 40 else di j (dn+1) (l_ c1 (dg m').1 m'):=by
     rw [ju,hj,di,hst]
    generalize hm2:l_ c1 (dg m').1 m'=m2 at hst Ul A1
    refine ⟨fun σ' H'=>∃ L8,L8 < n - dn/\∃ (v':V) (m':Mr) (dn:Nat) (pl bc:V),σ'=[some v',some (.int (n:Int)),some (.int (dn:Int)),some pl,some bc]/\L8=n - dn/\dn<=n/\a_ H' 40 v' m'/\ay m'<=400/\wq H' pl bc m'/\aa H H'/\di n 0 m=di (n - dn) dn m',fun σ' H' h=>h,?_⟩
    refine aI ⟨v',.ref ab,pa,(dg m').1,m',c1,40,80,rfl,Cc,by omega,hm',hpl,wu,by omega,by omega,fun r H3 s3 Ih=>?_⟩
    rw [hm2] at Ih
    dsimp only
    refine aM (fun σ' H'=>σ'=[some r,some (.int (n:Int)),some (.int (dn:Int)),some (.ref pa),some (.ref ab)]/\aa H3 H'/\ay m2<=400/\cz m2<=40) (fun ii iz=>?_) ?_
    ·refine ⟨r,m2,rfl,Ih,by omega,fun h1 h2 H4 s4=>iz _ _ ⟨rfl,s4,h1,h2⟩,fun h1=>?_,fun h1 h2=>?_⟩
     ·rw [if_pos h1] at A1
      rw [A1] at k
      exact yg.mono k (s2.trans s3)
     ·rw [if_neg (by omega),if_pos h2] at A1
      rw [A1] at k
      exact yg.mono k (s2.trans s3)
    rintro σ' H4 ⟨rfl,s4,h1,h2⟩
    rw [if_neg (by omega),if_neg (by omega)] at A1
    refine aM (fun σ' H'=>σ'=[some r,some (.int (n:Int)),some (.int ((dn+1:Nat):Int)),some (.ref pa),some (.ref ab)]/\H4=H') (fun ii iz=>?_) ?_
    ·exact ⟨_,rfl,_,_,rfl,rfl,iz _ _ ⟨rfl,rfl⟩⟩
    rintro σ' _ ⟨rfl,rfl⟩
    have L_:a_ H4 40 r m2:=(Ih.tk s4.ts).low h2
    refine ⟨r,m2,rfl,L_,by omega,fun R H5 s5 h5=>?_⟩
    obtain ⟨Um,Uo,e1,e2⟩:=vY h5
    refine gU e1 ?_
    exact ⟨_,by omega,r,m2,dn+1,Um,Uo,rfl,rfl,by omega,L_.tk s5.ts,h1,e2,((s2.trans s3).trans s4).trans s5,by rw [A1];congr 1;omega⟩
  ·rintro σ' H2 z0;refine hdn fun Gz9 zG9=>?_;obtain ⟨v',m',dn,DB,Ie,rfl,hm',ii,s2,ju⟩:=z0;refine zG9 ?_
   rw [ju] at k
   have fin:∀ (xs:List V) (H3:Hp),aa H2 H3->(∀ kt H4,H4 kt=some (.tup xs)->aa H3 H4->DE H4 kt (iw m'))->∀ kt,H3 kt=none->([v',.int (dn:Int),V.ref kt].length<=sizeLine/\∀ p,upd H3 kt (.tup xs) p=none->Q (.ref p) (upd (upd H3 kt (.tup xs)) p (.tup [v',.int (dn:Int),.ref kt]))):=fun xs H3 s3 hk kt A2=>by
    refine ⟨(show 3<=sizeLine by decide),fun p hp=>?_⟩
    have s4:=aa.upd A2 (.tup xs)
    have s5:=aa.upd hp (.tup [v',.int (dn:Int),.ref kt])
    refine k p _ (((s2.trans s3).trans s4).trans s5) ⟨v',kt,aA,hk kt _ (s5 _ _ aA) (s4.trans s5),hm'.tk ((s3.trans s4).trans s5).ts⟩
   by_cases hv:jb m'=true
   ·unfold wq at ii
    rw [if_pos hv] at ii
    obtain ⟨rfl,rfl⟩:=ii
    refine ⟨_,rfl,aj (fun _=>?_) (fun c=>absurd c (by decide))⟩
    refine ⟨(show 1<=sizeLine by decide),fun kt A2=>fin _ H2 (aa.refl _) (fun kt H4 e _=>?_) kt A2⟩
    unfold iw
    rw [if_pos hv]
    exact e
   unfold wq at ii
   rw [if_neg hv] at ii
   obtain ⟨pa,rfl,Cc,wu⟩:=ii
   refine ⟨_,rfl,aj (fun c=>absurd c (by simp)) (fun _=>aN ?_)⟩
   cases hz:(dg m').2 with
   | none=>
    rw [hz] at wu
    subst wu
    refine ⟨_,rfl,aj (fun _=>?_) (fun c=>absurd c (by decide))⟩
    refine ⟨(show 2<=sizeLine by decide),fun kt A2=>fin _ H2 (aa.refl _) (fun kt H4 e s4=>?_) kt A2⟩
    unfold iw
    rw [if_neg hv,hz]
    exact ⟨pa,e,s4 _ _ Cc⟩
   | some c1=>
    rw [hz] at wu
    obtain ⟨ab,rfl⟩:=kS wu
    refine ⟨_,rfl,aj (fun c=>absurd c (by simp)) (fun _=>cB ?_)⟩
    refine ⟨(show 1<=sizeLine by decide),fun kt A2=>fin _ H2 (aa.refl _) (fun kt H4 e _=>?_) kt A2⟩
    unfold iw
    rw [if_neg hv,hz]
    exact e
def Fk:Kd->Tv
 | .val=>.t [.s "value"]
 | .stuck p=>.t [.s "stuck",.t (p.map fun k:Nat=>.i (k:Int))]
 | .on=>.t [.s "on"]
theorem Up (p:List Nat):fq H n (gm p) (p.map fun k:Nat=>.i (k:Int)):=⟨by simp [gm],fun i h1 h2=>by simp only [gm,Qr];exact .int⟩
theorem DE.td {kt:Addr} {kd:Kd} (h:DE H kt kd):TD H 120 (.ref kt) (Fk kd):=by
 cases kd with
 | val=>exact .tup (.inl h) (.cons .str .nil)
 | stuck p=>obtain ⟨pa,h1,h2⟩:=h;exact .tup (n:=119) (.inl h1) (.cons .str (.cons (.tup (n:=118) (.inl h2) (Up p)) .nil))
 | on=>exact .tup (.inl h) (.cons .str .nil)
theorem Cd.td {H:Hp} {t:Addr} {m:Mr} {dn:Nat} {kd:Kd} (h:Cd H t m dn kd):TD H 121 (.ref t) (.t [nu m,.i (dn:Int),Fk kd]):=by
 obtain ⟨mv,kt,h1,h2,h3⟩:=h
 exact .tup (n:=120) (.inl h1) (.cons h3.td (.cons .int (.cons h2.td .nil)))
abbrev Rr:=Nat ⊕ (Mr×Nat×Kd)
def bindR (r:Rr) (f:Mr->Nat->Rr):Rr:=match r with
 | .inl e=>.inl e
 | .inr (m,d,_)=>f m d
def Uq (c:Nat) (r:Rr):Rr:=match r with
 | .inl e=>.inl e
 | .inr (m,d,k)=>.inr (m,c+d,k)
theorem tK:∀ (a b dn:Nat) (m:Mr),di (a+b) dn m=bindR (di a dn m) fun m' d=>di b d m'
 | 0,b,dn,m=>by rw [Nat.zero_add];rfl
 | a+1,b,dn,m=>by
  rw [Nat.succ_add,di,di]
  cases h:qo m with
  | none=>exact (lN (.inl h)).symm
  | some m'=>
   simp only []
   split
   ·rfl
   ·split
    ·rfl
    ·exact tK a b (dn+1) m'
theorem nB:∀ (a c dn:Nat) (m:Mr),di a (c+dn) m=Uq c (di a dn m)
 | 0,c,dn,m=>rfl
 | a+1,c,dn,m=>by
  rw [di,di]
  cases h:qo m with
  | none=>rfl
  | some m'=>
   simp only []
   split
   ·rfl
   ·split
    ·rfl
    ·exact nB a c (dn+1) m'
theorem eZ:∀ {a dn:Nat} {m m':Mr} {d:Nat} {k:Kd},di a dn m=.inr (m',d,k)->k=iw m'/\(ay m<=400->ay m'<=400)
 | 0,dn,m,m',d,k,h=>by
  rw [di] at h
  cases h
  exact ⟨rfl,id⟩
 | a+1,dn,m,m',d,k,h=>by
  rw [di] at h
  cases hs:qo m with
  | none=>
   rw [hs] at h
   cases h
   exact ⟨rfl,id⟩
  | some x=>
   rw [hs] at h
   simp only [] at h
   split at h
   ·cases h
   ·split at h
    ·cases h
    ·exact ⟨(eZ h).1,fun _=>(eZ h).2 (by omega)⟩
theorem jH {a b:Nat} {m M:Mr} {D:Nat} {k:Kd} (h:di (a+b) 0 m=.inr (M,D,k)):∃ m1 d1 d2,di a 0 m=.inr (m1,d1,iw m1)/\di b 0 m1=.inr (M,d2,iw M)/\D=d1+d2/\k=iw M:=by
 have hk:=(eZ h).1
 rw [tK] at h
 cases h1:di a 0 m with
 | inl e=>rw [h1] at h;cases h
 | inr r=>
  obtain ⟨m1,d1,k1⟩:=r
  rw [h1] at h
  obtain ⟨rfl,_⟩:=eZ h1
  have h:di b (d1+0) m1=.inr (M,D,k):=h
  rw [nB] at h
  cases h2:di b 0 m1 with
  | inl e=>rw [h2] at h;cases h
  | inr r=>
   obtain ⟨m2,d2,k2⟩:=r
   rw [h2] at h
   obtain ⟨rfl,_⟩:=eZ h2
   cases h
   exact ⟨m1,d1,d2,rfl,h2,rfl,rfl⟩
theorem Ur {m:Mr} (h:iw m≠.on):qo m=none:=by
 unfold iw at h
 unfold qo
 split
 ·rfl
 ·rename_i c
  rw [if_neg c] at h
  cases hz:(dg m).2 with
  | none=>rfl
  | some x=>rw [hz] at h;exact absurd rfl h
def Ma:Sp:=fun vs H Q _=>∃ (v:V) (n:Nat) (m:Mr),vs=[v,.int (n:Int)]/\n<=100000/\a_ H 40 v m/\ay m<=400/\(∀ H',aa H H'->Q .af H')/\∀ m' dn kd,di n 0 m=.inr (m',dn,kd)->∀ t H',aa H H'->Cd H' t m' dn kd->Q (.ref t) H'
theorem rK (T:Txt K mg w):ak P w K mg base 47 "_law_ran" ["_law_maker","_law_n"] Ma:=by
 have DF:=vH (P:=P) (w:=w) (base:=base) T
 refine T.uL.dh eQ (fun vs H Q E h=>?_) (fun f ao A outer s H vs Q E hr h=>?_)
 ·obtain ⟨v,n,m,rfl,_⟩:=h
  rfl
 ·refine hdn fun Gz9 zG9=>?_;obtain ⟨v,n,m,rfl,hn,hm,hc,k1,k2⟩:=h;refine zG9 ?_
  have hu:=bG hr
  have bg:=Qx (bG hr)
  refine ⟨_,(aE (aX (i:=2) eQ.nd rfl (Or.inl rfl) eK)
   (aE (Ro (i:=2) DF (hr.mono (by decide)) (aB (zv 0) (aB (zv 1) aD)) (Rn T.BO.m T.BO.at_ (fun _=>(aG (aX (i:=2) eQ.nd rfl (Or.inl rfl) eK))) Rm) eQ.nd rfl rfl)
   (aG (aW (zv 2))))),?_⟩
  refine jD ?_
  refine aM (fun σ' H'=>aa H H'/\(σ'=[some v,some (.int (n:Int)),some .af]\/∃ (t:Addr) (m':Mr) (dn:Nat) (kd:Kd),di n 0 m=.inr (m',dn,kd)/\σ'=[some v,some (.int (n:Int)),some (.ref t)]/\Cd H' t m' dn kd)) ?_ ?_
  ·intro nx av
   refine ⟨v,n,m,rfl,hn,hm,hc,?_⟩
   cases ju:di n 0 m with
   | inl kk=>
    intro e dx H' s' he Wr e' C' ee y_
    cases ee
    rw [he] at y_
    obtain ⟨rfl,_⟩:=yV (QD y_)
    refine ⟨true,T.RU,?_⟩
    rw [if_pos rfl]
    exact av _ _ ⟨s',.inl rfl⟩
   | inr r=>
    obtain ⟨m',dn,kd⟩:=r
    exact fun t H' s' h'=>av _ _ ⟨s',.inr ⟨t,m',dn,kd,ju,rfl,h'⟩⟩
  ·rintro σ' H' ⟨s',rfl | ⟨t,m',dn,kd,ju,rfl,Us⟩⟩
   ·exact k1 H' s'
   ·exact k2 m' dn kd ju t H' s' Us
theorem Ut {i j:Int} {Q:VK} (h:Q (.int (i+j)) H):Ju (.int i) (.int j) H Q:=h
theorem x4 {k:Nat} (r:cy k A):A.units+170 < cLine:=by have:=r.un;omega
def Ec (K:QZ):Sp:=fun vs H Q _=>∃ (a:Addr) (ns:List Int),vs=[.ref a]/\ai K H a (ns.map V.int)/\ns.length<=63/\∀ H',Q (.bl true) H'
abbrev Uu (mg:Str->Option Value):Sp:=fun vs H Q _=>L7 (mg:=mg) vs H Q E0
theorem Uv {kt:Addr} {kd:Kd} (h:DE H kt kd):∃ (s:Str) (ys:List V),H kt=some (.tup (.str s::ys))/\(s="on"↔kd=.on):=by
 cases kd with
 | val=>exact ⟨_,_,h,by simp;decide+kernel⟩
 | stuck p=>obtain ⟨pa,h1,h2⟩:=h;exact ⟨_,_,h1,by simp;decide+kernel⟩
 | on=>exact ⟨_,_,h,by simp⟩
theorem Uw (T:Txt K mg w):ak P w K mg base 60 "law" ["script"] (Ec K):=by
 have aR:ak P w K mg base 2 "_law_next" ["_law_pen","_law_many"] (uo K):=bK T
 have hV:ak P w K mg base 6 "_law_maker_telling" ["_law_pen","_law_most"] (K4 K):=fM T
 have eI:ak P w K mg base 3 "_law_any" ["_law_pen","_law_told"] (E1 K):=iB T
 have j0:ak P w K mg base 21 "_law_small_maker" ["_law_pen","_law_told","_law_name"] (LC K):=iK T
 have uJ:ak P w K mg base 47 "_law_ran" ["_law_maker","_law_n"] Ma:=rK T
 have DF:ak P w K mg base 46 "run" ["maker","n"] (Uu mg):=(vH T).calm
 refine T.Ks.dh (k:=59) cW (fun vs H Q E h=>?_) (fun f ao A outer s H vs Q E hr h=>?_)
 ·obtain ⟨a,ns,rfl,_⟩:=h
  rfl
 ·obtain ⟨sc,cells,rfl,L6,Ws,k⟩:=h
  have hu:=bG hr
  have bg:=Qx (bG hr)
  have Ii:=x4 hr
  have hsz:sizeLine=16777216:=QL
  refine ⟨_,(aE (aX (i:=1) cW.nd rfl (Or.inl rfl) (cA (aB (zv 0) (aC aF (aC aF aD)))))
   (aE (jZ PassesOwn.never rfl (l5 (by rfl) T.oA (aC aF aD)) (aY (i:=2) cW.nd rfl (Or.inl rfl)) (aE (aX (i:=3) cW.nd rfl (Or.inl rfl) (bB hV (hr.mono (by decide)) (aB (zv 1) (aC aF aD))))
   (aE (aX (i:=4) cW.nd rfl (Or.inl rfl) (bB j0 (hr.mono (by decide)) (aB (zv 1) (aB (zv 3) (bF (bB eI (hr.mono (by decide)) (aB (zv 1) (aB (zv 3) aD))) aD)))))
   (aE (bM (aL (bD bg) (bB aR (hr.mono (by decide)) (aB (zv 1) (aC aF aD))) aF (bf _)) (aG (aX (i:=4) cW.nd rfl (Or.inl rfl) (aS (aC aJ (aT (aS (aC aJ (aT (aS (aC aJ (aC aJ (aB (zv 4) aD)))) (aT (aS (aT (aS (aC aJ (aC aJ (aT (aS (aC aJ (aC aJ aD))) aD)))) aD)) aD)))) (aC aJ aD)))))) aZ)
   (aE (Pu (i:=5) (j:=6) rfl cW.nd rfl rfl (by decide) rfl rfl (bF (bB aR (hr.mono (by decide)) (aB (zv 1) (aC aF aD))) (bF (bB aR (hr.mono (by decide)) (aB (zv 1) (aC aF aD))) aD)) rfl)
   (aE (aX (i:=7) cW.nd rfl (Or.inl rfl) (bB uJ (hr.mono (by decide)) (aB (zv 4) (cD (bS bW (zv 5) (zv 6)) aD))))
   (aE (bM (aL rZ (zv 7) eK (bf _)) (aG PL) aZ)
   (aE (aX (i:=8) cW.nd rfl (Or.inl rfl) (bB DF (hr.mono (by decide)) (aB (zv 4) (aB (zv 5) aD))))
   (aE (aX (i:=9) cW.nd rfl (Or.inl rfl) (bB DF (hr.mono (by decide)) (aH (aU (aV K) (zv 8) aF (fun _ _=>rfl)) (aB (zv 6) aD))))
   (aE (bM (aL (oP Ii) (zv 7) (aS (aH (aU (aV K) (zv 9) aF (fun _ _=>rfl)) (cD (bS bW (aU (aV K) (zv 8) aF (fun _ _=>rfl)) (aU (aV K) (zv 9) aF (fun _ _=>rfl))) (aH (aU (aV K) (zv 9) aF (fun _ _=>rfl)) aD)))) (bf _)) (aG (aW u6)) aZ)
   (aE (bM (kD (aL (nY bg) (aU (aV K) (aU (aV K) (zv 8) aF (fun _ _=>rfl)) aF (fun _ _=>rfl)) aJ (bf _)) (fQ (aL (oP Ii) (zv 9) (aS (aH (aU (aV K) (zv 8) aF (fun _ _=>rfl)) (aC aF (aH (aU (aV K) (zv 8) aF (fun _ _=>rfl)) aD)))) (bf _)))).pt (aG (aW u6)) aZ)
   (aE (aX (i:=10) cW.nd rfl (Or.inl rfl) (zv 4))
   (aE (jZ PassesOwn.never rfl (l5 (by rfl) T.oA (cD (bS bW (zv 5) (zv 6)) aD)) (aY (i:=11) cW.nd rfl (Or.inl rfl)) (aG (aX (i:=10) cW.nd rfl (Or.inl rfl) (aU (aV K) (bB DF (hr.mono (by decide)) (aB (zv 10) (aC aF aD))) aF (fun _ _=>rfl)))))
   (aG (bM (aL (oP Ii) (zv 10) (aU (aV K) (zv 7) aF (fun _ _=>rfl)) (bf _)) (aG (aW u6)) aZ)))))))))))))))
   (aG (aW u6)))),?_⟩
  refine aI ⟨(show 3<=sizeLine by decide),fun p hp=>?_⟩
  have Mb:=vN L6 hp
  dsimp only
  generalize upd H p (.lst [.ref sc,.int 0,.int 0])=H1 at Mb
  refine aM (fun σ' H'=>True) ?_ (fun σ' H' _=>k H')
  intro nx av
  refine ⟨3,rfl,by decide,by decide,?_⟩
  refine kZ (jC 0 3) (fun i σ' H'=>∃ v2 v3 v4 v5 v6 v7 v8 v9 v10 v11,σ'=[some (.ref sc),some (.ref p),v2,v3,v4,v5,v6,v7,v8,v9,v10,v11]/\bu K H H' p (i*90000))
   ⟨none,none,none,none,none,none,none,none,none,none,rfl,Mb⟩ (fun _ _ _ _ _=>trivial) ?_ (fun σ' H' _=>av _ _ trivial)
  rintro i σ' H2 hi z0;refine hdn fun Gz9 zG9=>?_;obtain ⟨v2,v3,v4,v5,v6,v7,v8,v9,v10,v11,rfl,hn2⟩:=z0;refine zG9 ?_
  have Lw:i < 3:=hi
  refine aI ⟨H,p,5,i*90000,rfl,hn2,by omega,⟨by decide,by decide⟩,fun a xs rows ns H3 rt hN qw jr=>?_⟩
  refine aI ⟨H,p,a,_,xs,rows,ns,WW,rfl,qw,by omega,rt,fun x H4 hx iy jt=>?_⟩
  refine ⟨H,p,a,_,xs,rows,ns,x,rfl,iy,by omega,rt.tk (qw.ts jt),hx,fun v s5 H5 Du Wt n_ jc=>?_⟩
  dsimp only
  refine aM (fun σ' H'=>∃ (mv:V) (m:Mr),σ'=[some (.ref sc),some (.ref p),some (.int (0+(i:Int))),some (.ref a),some mv,v5,v6,v7,v8,v9,v10,v11]/\bu K H H' p (i*90000+81000)/\a_ H' 40 mv m/\ay m<=400) ?_ ?_
  ·intro ii iz
   obtain ⟨m,hm,rfl⟩:=Du
   refine ⟨H,p,3,_,rfl,n_,⟨by decide,by decide⟩,by omega,fun r H6 r0 r1 wk AS=>⟨rfl,_,rfl,aj (fun _=>?_) (fun _=>iz _ _ ⟨v,m,rfl,wk.mono (by omega),(hm.tk (n_.ts AS)).up (by omega),by omega⟩)⟩⟩
   refine ⟨(show 3<=sizeLine by decide),fun c1 h1=>⟨(show 2<=sizeLine by decide),fun c2 h2=>⟨(show 3<=sizeLine by decide),fun c3 h3=>⟨(show 1<=sizeLine by decide),fun c4 h4=>⟨(show 3<=sizeLine by decide),fun c5 h5=>⟨(show 3<=sizeLine by decide),fun c6 h6=>?_⟩⟩⟩⟩⟩⟩
   have B5:=n_.ts AS
   have t1:=aa.upd h1 (.tup [.str "pick",.str "a",v])
   have f1:upd H6 c1 (.tup [.str "pick",.str "a",v]) c1=some (.tup [.str "pick",.str "a",v]):=aA
   generalize upd H6 c1 (.tup [.str "pick",.str "a",v])=G1 at*
   have t2:=aa.upd h2 (.tup [.str "get",.str "v"])
   have f2:upd G1 c2 (.tup [.str "get",.str "v"]) c2=some (.tup [.str "get",.str "v"]):=aA
   generalize upd G1 c2 (.tup [.str "get",.str "v"])=G2 at*
   have t3:=aa.upd h3 (.tup [.str "a",.str "v",.ref c2])
   have f3:upd G2 c3 (.tup [.str "a",.str "v",.ref c2]) c3=some (.tup ([.str "a",.str "v"]++[.ref c2])):=aA
   generalize upd G2 c3 (.tup [.str "a",.str "v",.ref c2])=G3 at*
   have t4:=aa.upd h4 (.tup [.ref c3])
   have f4:upd G3 c4 (.tup [.ref c3]) c4=some (.tup [.ref c3]):=aA
   generalize upd G3 c4 (.tup [.ref c3])=G4 at*
   have t5:=aa.upd h5 (.tup [.str "split",.ref c1,.ref c4])
   have f5:upd G4 c5 (.tup [.str "split",.ref c1,.ref c4]) c5=some (.tup [.str "split",.ref c1,.ref c4]):=aA
   generalize upd G4 c5 (.tup [.str "split",.ref c1,.ref c4])=G5 at*
   have t6:=aa.upd h6 (.tup [.str "part",.ref c5,.str "zz"])
   have f6:upd G5 c6 (.tup [.str "part",.ref c5,.str "zz"]) c6=some (.tup [.str "part",.ref c5,.str "zz"]):=aA
   generalize upd G5 c6 (.tup [.str "part",.ref c5,.str "zz"])=G6 at*
   have tt:=t1.trans (t2.trans (t3.trans (t4.trans (t5.trans t6))))
   have B0:fi G6 15 (ay m) v:=⟨m,(hm.tk B5).tk tt.ts,rfl⟩
   have mp:=dD (.pick (t6 _ _ (t5 _ _ (t4 _ _ (t3 _ _ (t2 _ _ f1))))) sZ) B0
   have mg:=o8 (t6 _ _ (t5 _ _ (t4 _ _ (t3 _ _ f2)))) mS
   have rw:=(fh.nil (H:=G6) (dep:=16)).snoc (t6 _ _ (t5 _ _ (t4 _ _ f3))) (mg.up (by omega)) (Qy _)
   obtain ⟨sz,Bo,hs2⟩:=lR (cs:=[("a","v")]) (t6 _ _ f5) (t6 _ _ (t5 _ _ f4)) mp rw ⟨by decide+kernel,fun c hc=>by rw [List.mem_singleton.mp hc];exact ⟨sZ,mS⟩,by decide⟩
   obtain ⟨mm,Ux,hc⟩:=dD (.part f6 oB) hs2
   exact iz _ _ ⟨_,mm,rfl,(wk.same tt).mono (by omega),Ux.up (by omega),by omega⟩
  rintro σ' H6 ⟨mv,m,rfl,wk,hm,hc⟩
  refine aM (fun σ' H'=>∃ (n1 n2:Nat),n1 < 8/\n2 < 8/\σ'=[some (.ref sc),some (.ref p),some (.int (0+(i:Int))),some (.ref a),some mv,some (.int (n1:Int)),some (.int (n2:Int)),v7,v8,v9,v10,v11]/\bu K H H' p (i*90000+81002)/\a_ H' 40 mv m) ?_ ?_
  ·intro ii iz
   refine ⟨H,p,8,_,rfl,wk,⟨by decide,by decide⟩,by omega,fun r H7 r0 r1 d_ dj=>?_⟩
   refine ⟨H,p,8,_,rfl,d_,⟨by decide,by decide⟩,by omega,fun q H8 q0 q1 Fb Fc=>?_⟩
   obtain ⟨n1,rfl⟩:∃ j:Nat,r=(j:Int):=⟨r.toNat,by omega⟩
   obtain ⟨n2,rfl⟩:∃ j:Nat,q=(j:Int):=⟨q.toNat,by omega⟩
   exact ⟨_,_,rfl,iz _ _ ⟨n1,n2,by omega,by omega,rfl,Fb,(hm.tk (wk.ts dj)).tk (d_.ts Fc)⟩⟩
  clear wk hm
  rintro σ' H7 ⟨n1,n2,hn1,Wu,rfl,d_,hm⟩
  refine aI ?_
  refine ⟨mv,n1+n2,m,rfl,by omega,hm,hc,fun H8 s8=>?_,fun M D kd Ij t H8 s8 rv=>?_⟩
  ·refine ⟨_,rfl,aj (fun _=>?_) (fun c=>absurd c (by decide))⟩
   exact ⟨_,_,_,_,_,_,_,_,_,_,rfl,(d_.same s8).mono (by rw [Nat.succ_mul];omega)⟩
  refine ⟨_,rfl,aj (fun c=>absurd c (by simp)) (fun _=>aN ?_)⟩
  obtain ⟨m1,d1,d2,yf,ju,rfl,rfl⟩:=jH Ij
  have jn:=(eZ yf).2 hc
  refine aI ⟨mv,n1,m,rfl,by omega,hm.tk s8.ts,hc,?_⟩
  rw [yf]
  intro t1 H9 s9 Uy
  obtain ⟨A3,Ce,g1,Mc,hm1⟩:=Uy
  refine aI ⟨_,A3,.inr (ae.of g1),rfl,A3,n2,m1,rfl,by omega,hm1,jn,?_⟩
  rw [ju]
  intro t2 HA sA kc
  obtain ⟨Cf,Cg,g2,Me,hm2⟩:=kc
  have Mf:=sA _ _ g1
  have Uz:=rv.td.same (s9.trans sA)
  obtain ⟨Wv,Ww,gB,Wx,Mg⟩:=rv
  have UA:=(s8.trans s9).trans sA
  have UB:=TD.same (Mc.td) sA
  have UC:=TD.same (hm1.td) sA
  refine aM (fun σ' H'=>σ'=[some (.ref sc),some (.ref p),some (.int (0+(i:Int))),some (.ref a),some mv,some (.int (n1:Int)),some (.int (n2:Int)),some (.ref t),some (.ref t1),some (.ref t2),v10,v11]/\aa HA H') ?_ ?_
  ·intro ii iz
   refine ⟨_,Cf,.inr (ae.of g2),rfl,_,.int (d1:Int),.inr (ae.of Mf),rfl,_,.int (d2:Int),.inr (ae.of g2),rfl,?_⟩
   refine Ut ?_
   refine ⟨_,.ref Cg,.inr (ae.of g2),rfl,(show 3<=sizeLine by decide),fun q hq=>?_⟩
   have sq:=aa.upd hq (.tup [Cf,.int ((d1:Int)+(d2:Int)),.ref Cg])
   have gq:upd HA q (.tup [Cf,.int ((d1:Int)+(d2:Int)),.ref Cg]) q=some (.tup [Cf,.int ((d1:Int)+(d2:Int)),.ref Cg]):=aA
   generalize upd HA q (.tup [Cf,.int ((d1:Int)+(d2:Int)),.ref Cg])=HB at sq gq
   refine ⟨121,121,_,.t [nu M,.i ((d1:Int)+(d2:Int)),Fk (iw M)],t,q,by omega,rfl,rfl,Uz.same sq,.tup (n:=120) (.inl gq) (.cons (TD.same hm2.td sq) (.cons .int (.cons (TD.same Me.td sq) .nil))),fun bo DG=>?_⟩
   obtain rfl:bo=true:=DG.mpr rfl
   exact ⟨_,rfl,jy (iz _ _ ⟨rfl,sq⟩)⟩
  rintro σ' HB ⟨rfl,sB⟩
  refine aM (fun σ' H'=>σ'=[some (.ref sc),some (.ref p),some (.int (0+(i:Int))),some (.ref a),some mv,some (.int (n1:Int)),some (.int (n2:Int)),some (.ref t),some (.ref t1),some (.ref t2),v10,v11]/\aa HB H') ?_ ?_
  ·intro ii iz
   refine lJ (fun c H'=>c=false/\aa HB H') (fun Q hQ=>?_) (fun H' h=>absurd h.1 (by decide)) (fun H' h=>iz _ _ ⟨rfl,h.2⟩)
   obtain ⟨sd,ys,gk,hk⟩:=Uv Mc
   have UD:=sB _ _ (sA _ _ gk)
   have Ik:=sB _ _ Mf
   refine ⟨_,.ref Ce,.inr (ae.of Ik),rfl,_,.str sd,.inr (ae.of UD),aO _ _,rfl,_,rfl,aj (fun c=>?_) (fun c=>hQ _ _ ⟨rfl,aa.refl _⟩)⟩
   have gh:iw m1≠.on:=fun z=>by
    rw [hk.mpr z] at c
    exact absurd c (by decide+kernel)
   have hst:=ju.symm.trans (lN (.inl (Ur gh)))
   have e1:M=m1:=congrArg (fun r:Rr=>match r with | .inr (x,_,_)=>x | _=>m1) hst
   have e2:d2=0:=congrArg (fun r:Rr=>match r with | .inr (_,x,_)=>x | _=>0) hst
   refine ⟨_,A3,.inr (ae.of Ik),rfl,_,.ref Ce,.inr (ae.of Ik),rfl,(show 3<=sizeLine by decide),fun q hq=>?_⟩
   have sq:=aa.upd hq (.tup [A3,.int 0,.ref Ce])
   have gq:upd HB q (.tup [A3,.int 0,.ref Ce]) q=some (.tup [A3,.int 0,.ref Ce]):=aA
   generalize upd HB q (.tup [A3,.int 0,.ref Ce])=HC at sq gq
   have kc:Cd HA t2 M d2 (iw M):=⟨Cf,Cg,g2,Me,hm2⟩
   refine ⟨121,121,_,.t [nu m1,.i 0,Fk (iw m1)],t2,q,by omega,rfl,rfl,kc.td.same (sB.trans sq),.tup (n:=120) (.inl gq) (.cons (UC.same (sB.trans sq)) (.cons .int (.cons (UB.same (sB.trans sq)) .nil))),fun bo DG=>?_⟩
   obtain rfl:bo=true:=DG.mpr (by rw [e1,e2];rfl)
   exact ⟨_,rfl,hQ _ _ ⟨rfl,sq⟩⟩
  rintro σ' HC ⟨rfl,sC⟩
  have Mh:=(UA.trans sB).trans sC
  refine aI ?_
  dsimp only [tV]
  refine aM (fun σ' H'=>∃ (hv:V) (A4:Option V),σ'=[some (.ref sc),some (.ref p),some (.int (0+(i:Int))),some (.ref a),some mv,some (.int (n1:Int)),some (.int (n2:Int)),some (.ref t),some (.ref t1),some (.ref t2),some hv,A4]/\a_ H' 40 hv M/\aa HC H') ?_ ?_
  ·intro ii iz
   refine ⟨(n1:Int)+(n2:Int),rfl,by omega,by omega,kZ (jC 0 _) (fun j σ' H'=>∃ (hv:V) (A4:Option V) (m':Mr) (dd:Nat),σ'=[some (.ref sc),some (.ref p),some (.int (0+(i:Int))),some (.ref a),some mv,some (.int (n1:Int)),some (.int (n2:Int)),some (.ref t),some (.ref t1),some (.ref t2),some hv,A4]/\a_ H' 40 hv m'/\di j 0 m=.inr (m',dd,iw m')/\aa HC H') ⟨mv,v11,m,0,rfl,hm.tk Mh.ts,rfl,aa.refl _⟩ (fun _ _ _ _ _=>trivial) ?_ ?_⟩
   ·rintro j σ' HD hj z0;refine hdn fun Gz9 zG9=>?_;obtain ⟨hv,A4,m',dd,rfl,hm',A5,sD⟩:=z0;refine zG9 ?_
    have uh:j < n1+n2:=by
     have:j < ((n1:Int)+(n2:Int)).toNat:=hj
     omega
    obtain ⟨ma,da,_,Mi,_⟩:=jH (a:=j+1) (b:=n1+n2 - (j+1)) (by rw [show j+1+(n1+n2 - (j+1))=n1+n2 by omega];exact Ij)
    obtain ⟨mb,db,d',Mj,UE,_⟩:=jH Mi
    rw [A5] at Mj
    cases Mj
    refine ⟨hv,1,m',rfl,by omega,hm',(eZ A5).2 hc,?_⟩
    rw [UE]
    intro t5 HE sE ⟨UG,Wy,g5,_,UH⟩
    exact ⟨_,UG,.inr (ae.of g5),rfl,_,_,ma,da,rfl,UH,Mi,sD.trans sE⟩
   ·rintro σ' HD z0;refine hdn fun Gz9 zG9=>?_;obtain ⟨hv,A4,m',dd,rfl,hm',A5,sD⟩:=z0;refine zG9 ?_
    have A5:di (n1+n2) 0 m=.inr (m',dd,iw m'):=by
     have e:((n1:Int)+(n2:Int)).toNat=n1+n2:=by omega
     rw [<- e]
     exact A5
    rw [Ij] at A5
    have e1:M=m':=congrArg (fun r:Rr=>match r with | .inr (x,_,_)=>x | _=>M) A5
    subst e1
    exact iz _ _ ⟨hv,A4,rfl,hm',sD⟩
  rintro σ' HD ⟨hv,A4,rfl,Mk,sD⟩
  have Ml:=((((s9.trans sA).trans sB).trans sC).trans sD)
  have UI:=Mg.tk Ml.ts
  obtain ⟨ah,rfl⟩:=kS Mk
  obtain ⟨ab,rfl⟩:=kS Mg
  refine ⟨_,.ref ab,.inr (ae.of (Ml _ _ gB)),rfl,120,120,_,_,ah,ab,by omega,rfl,rfl,Mk.td,UI.td,fun bo DG=>?_⟩
  obtain rfl:bo=true:=DG.mpr rfl
  exact ⟨_,rfl,jy ⟨_,_,_,_,_,_,_,_,_,_,rfl,((d_.same Mh).same sD).mono (by rw [Nat.succ_mul];omega)⟩⟩
end
theorem yZ {K:QZ} (X:K.In h) (G:h.Ns mainGlobals mg) (e:look K=want w):Txt (without K []) mg w:=by
 have X':=rQ (as:=[]) X
 obtain ⟨eF,e⟩:=Prod.mk.inj e
 obtain ⟨eV,e⟩:=Prod.mk.inj e
 obtain ⟨eT,e⟩:=Prod.mk.inj e
 obtain ⟨eD,e⟩:=Prod.mk.inj e
 obtain ⟨eN,e⟩:=Prod.mk.inj e
 obtain ⟨eX,e⟩:=Prod.mk.inj e
 have eS:=e
 obtain ⟨UM,Wz,UN,UO,wW⟩:=Ra X' G (oX eD 0 (x:="PLACES") rfl) rfl (by decide+kernel)
 obtain ⟨UP,WA,rfl,UQ,UR⟩:=p7 UO
 obtain ⟨US,WB,rfl,UT,UU⟩:=p7 UR
 obtain ⟨UW,WC,rfl,UX,UY⟩:=p7 UU
 obtain ⟨UZ,WD,rfl,U0,U1⟩:=p7 UY
 obtain ⟨U3,WE,rfl,U4,U5⟩:=p7 U1
 obtain ⟨U6,WH,rfl,U7,U8⟩:=p7 U5
 obtain ⟨U9,WI,rfl,U_,U'⟩:=p7 U8
 obtain ⟨Va,WJ,rfl,Vb,Vc⟩:=p7 U'
 obtain rfl:=Q_ Vc
 exact ⟨nn X' G eN 0,
  nn X' G eN 1,
  nn X' G eN 2,
  nn X' G eN 3,
  nn X' G eN 4,
  nn X' G eN 5,
  nn X' G eN 6,
  nn X' G eN 7,
  nn X' G eN 8,
  nn X' G eN 9,
  ⟨UM,UP,US,UW,UZ,U3,U6,U9,Va,UN,wW,UQ,UT,UX,U0,U4,U7,U_,Vb⟩,
  vl X' G eV 0,
  vl X' G eV 1,
  qu X' G eF 0,
  ug X' G eF 1,
  ug X' G eF 2,
  qu X' G eF 3,
  qu X' G eF 4,
  qu X' G eF 5,
  qu X' G eF 6,
  EG X' G eF 7,
  qu X' G eF 8,
  EG X' G eF 9,
  qu X' G eF 10,
  ug X' G eF 11,
  ug X' G eF 12,
  ug X' G eF 13,
  qu X' G eF 14,
  EG X' G eF 15,
  ug X' G eF 16,
  ug X' G eF 17,
  ug X' G eF 18,
  ug X' G eF 19,
  ug X' G eF 20,
  Q5 X' G eF 21,
  qu X' G eF 22,
  GN X' G eF 23,
  GN X' G eF 24,
  GN X' G eF 25,
  qu X' G eF 26,
  qu X' G eF 27,
  EG X' G eF 28,
  ug X' G eF 29,
  qu X' G eF 30,
  Ru X' G eX 0,
  Rw X' G eX 1,
  Rt X' G eS 0⟩
theorem walk:PySem.W.WalkO view ["PLACES"] XP (qt look want).says uz.row.toRowW A6 [] (fun f vs=>PySem.call f vs):=
 rD (l:=uz) (st:=jY) (k:=60) rfl rfl ⟨rfl,by decide,by decide,rfl⟩ rfl (by intros;rfl) fun w mg h K X e G=>have T:=yZ X G e;⟨T.Ks,fun base=>Uw T⟩
end T1
open PySem PySem.W PyProof.Rows L2
set_option maxRecDepth 100000 in
set_option maxHeartbeats 0 in
theorem PySem.Challenge.cw_coilkind_k85_whole_runs_go_on_holds : PySem.Challenge.rw_coilkind_k85_whole_runs_go_on.Holds := by
 refine PySem.W.holds_law T1.said fun said=>?_
 exact PySem.W.holds_open (q:=T1.view) (loose:=["PLACES"]) (Xt:=fun s=>xlAt T1.view [] s&&recOk [] s) (XP:=XL T1.view []) (Yf:=(qt T1.look T1.want).obs) (Ya:=(qt T1.look T1.want).val) (YP:=(qt T1.look T1.want).says) (N:=3408)
  (vA "special-get-raises" T1.UK T1.UL) (qt T1.look T1.want).of (qt T1.look T1.want).keeps (fun s e=>xl_of s (Bool.and_eq_true_iff.mp e).1) XL.keeps T1.hdef T1.hprog T1.hkw (fun s e=>recFacts_of (Bool.and_eq_true_iff.mp e).2) rfl (by assumption) T1.hok T1.hbare T1.Vd T1.walk
