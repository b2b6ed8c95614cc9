import PyProof.Rows.All
import Wide.All
import OpenK.AllK
import Wide.FinOn
import Lean
import PyProof.EqAt
import PyProof.EqKinds
import PyProof.TupleCall
import PyProof.DictCompW
import PyProof.AutoListH
import PyProof.EnumMake
import PyProof.ZipIter
import PyProof.AttrMissSeq
import KE.KDictOf
import PyProof.ReprLen
import PyProof.StrLawsRepr
import KE.KUnpackStar
import PyProof.DictWalks
import PyProof.Rows.DictUnroll
import PyProof.Rows.Range3
import PyProof.Rows.ChunkEnd
import PyProof.Rows.ChunkLeaf
import PyProof.StrCalls2
import PyProof.StrLawsTight
import PyProof.StrLawsChain
import PyProof.Rows.StrSplitJoin
import PyProof.Conv_int_bool
import PyProof.Rows.TupMore
import PyProof.Rows.SetFrom
import PyProof.SetRoads
import KE.KRevIter
import PyProof.CollectIter
import PyProof.TupleOfGen
import KE.KItemsList
import PyProof.NeKinds
import PyProof.StrLawsIn
import PyProof.Rows.StrCut
import PyProof.StrCalls
import PyProof.CallFns
import PyProof.FString5
import PyProof.NsCount
import PyProof.DictItems
import KE.KPairComp
import PyProof.DictValues
import PyProof.SumWalk
import PyProof.ConsumeWalk
import PyProof.SumAny
import PyProof.FactsAll.range_2
import PyProof.WalksMore
import PyProof.MinMaxWalk
import PyProof.SeqI3
import KE.KDictList
import KE.KDictLaws
import KE.KSortTup
import KE.KDictSum
import KE.KStrOpen
import PyProof.ExcClass3
import PyProof.ExcInit
import OpenK.KMake
import OpenK.KCls
import PyProof.InstStoreFacts
import PyProof.StationsW
import PyProof.RulesAs
import PyProof.NsDelKeeps
import PyProof.ExcAttrAll.ValueError
import PyProof.Rows.FStr
import PyProof.SetKind
import PyProof.TupleKey
import PyProof.IsRules
import KE.KMinKey
import PyProof.Draws
import KE.KIsAll
import PySem.Challenge.RW_coilkind_k84_runs_step_by_step
set_option Elab.async false
set_option linter.all false
set_option maxRecDepth 100000
section
open PySem PySem.Spec PyProof.Rows
abbrev Qa := @List.getElem?_eq_getElem
abbrev Qb := @List.getD_eq_getElem?_getD
abbrev Qc := @Heap.get?_push_of_some
abbrev Qd := @Heap.get?_push_size
abbrev Qe := @List.getElem_append_left
abbrev Qf := @List.getElem_append_right
abbrev Qg := @List.getElem?_append_left
abbrev Qh := @List.mem_cons_of_mem
abbrev Qi := @List.getElem_of_mem
abbrev Qj := @List.getElem_mem
abbrev Qk := @List.length_append
abbrev Ql := @List.length_map
abbrev Qm := @List.map_append
abbrev Qp := @List.mem_cons
abbrev Qq := @List.getElem?_map
abbrev Qr := @List.getElem_map
abbrev Qs := @List.take_add_one
abbrev Qt := @of_decide_eq_true
abbrev Qu := @of_decide_eq_false
abbrev Qw := @decide_eq_false
abbrev Qx := @Nat.lt_of_succ_lt
abbrev Qy := @Nat.le_refl
abbrev Qz := @Heap.lt_size
abbrev QA := @List.mem_nil_iff
abbrev QC := @List.mem_of_getElem?
abbrev QD := @Option.some.inj
abbrev QE := @Bool.false_xor
abbrev QG := @PyProof.Rows.boot_tuple
abbrev QH := @PySem.F.plainAttrs_list
abbrev QJ := @PySem.F.slot_list_append
abbrev QK := @PySem.F.type_list_append
abbrev QL := @sizeLine_eq
abbrev QQ := @List.append_nil
abbrev QR := @List.eq_nil_of_length_eq_zero
abbrev QS := @wpAny_bind
abbrev QT := @wpAny_pure
abbrev QX := @PyProof.Rows.boot_dict
abbrev QZ := PySem.W.Frag
end
variable{prog P:PySem.Program}{w:PySem.World}{A:PySem.Around}{E Q:PySem.Value->PySem.Shared->Prop}{s s':PySem.Shared}{us:List PySem.Value}{u:PySem.Value}{a b p C l c:PySem.Addr}{h O base:PySem.Heap}{α:Type}{e tg:PySem.Expr}{U:List (PySem.Addr×PySem.Obj)}{t' i j n d:Nat}{ch fp:List PySem.Addr}{N ps loose own N' ns ws ss:List PySem.Str}{x name qual y z:PySem.Str}{M:PySem.Model}{Y ifs yt:List PySem.Expr}{pos' apos cpos:PySem.Pos}{body:List PySem.Stmt}{op:PySem.CmpOp}{mA mg:PySem.Str->Option PySem.Value}{env:PySem.Env}{kw:List (PySem.Str×PySem.Value)}{fd:PySem.FuncData}{outer:List PySem.Env}{sc scope:PySem.Scope}{T:String}{vs:Array PySem.Value}{XP:(PySem.Str->Option PySem.Value)->PySem.Heap->Prop}{idx:List Nat}{cl:List (PySem.Str×PySem.Addr)}{R:PySem.Result->PySem.Shared->Prop}{G:Array PySem.GenState->Array PySem.GenState->Prop}{dct:Option PySem.Addr}{tp:Bool}{cs:List (PySem.Str×PySem.Str)}
section
open PySem PySem.Spec PyProof.Rows
abbrev XC:=@List.size_toArray
abbrev VD:=@Nat.ne_of_lt
abbrev V1:=@Bool.false_ne_true
abbrev qD:=@List.mem_singleton
abbrev qN:=@List.mem_map
abbrev qQ:=@List.take_of_length_le
abbrev xD:=@List.mem_append
abbrev wQ:=@Heap.get?_update_other
abbrev uQ:=@Nat.lt_of_lt_of_le
abbrev jP:=@List.mem_cons_self
abbrev kB:=@List.getElem?_eq_some_iff
abbrev Qaa:=@Nat.le_trans
abbrev Qab:=@List.map_cons
abbrev Qac:=@List.length_cons
abbrev Qad:=@List.lookup_cons
abbrev Qae:=@PySem.boot_len
abbrev Qaf:=@List.mem_append_right
abbrev Qag:=@Heap.size_push
abbrev Qah:=@Heap.get?_update_self
abbrev Qai:=@Bool.and_eq_true
abbrev Qaj:=@List.cons.inj
abbrev Qak:=@PySem.W.kia_one
abbrev Qal:=@Nat.zero_le
abbrev Qam:=@PyProof.Rows.callWith_type1
abbrev Qan:=@List.cons_append
abbrev Qao:=@Option.bind_some
abbrev Qap:=@List.getElem_set
abbrev Qaq:=@List.getElem?_append_right
abbrev Qar:=@List.getElem_cons_zero
abbrev Qas:=@List.nodup_cons
abbrev Qat:=@PySem.F.args_tuple_add_2
abbrev Qau:=@Nat.lt_irrefl
abbrev Qav:=@List.mem_append_left
abbrev Qaw:=@Bool.and_eq_true_iff
abbrev Qax:=@PySem.F.entry_tuple_add
abbrev Qay:=@Classical.axiomOfChoice
abbrev Qaz:=@List.nil_append
abbrev QaA:=@List.find?_cons
abbrev QaB:=@PySem.mem_of_lookup
abbrev QaC:=@Nat.ne_of_gt
abbrev QaD:=@PySem.F.slot_tuple_add
abbrev QaE:=@Array.getElem?_eq_some_iff
abbrev QaF:=@List.ext_getElem
abbrev QaG:=@List.mem_range
abbrev QaH:=@List.pairwise_iff_getElem
abbrev QaI:=@Nat.mul_le_mul_right
abbrev QaJ:=@List.getElem_take
abbrev QaK:=@List.length_eq_zero_iff
abbrev QaL:=@List.filterMap_cons
abbrev QaM:=@Bool.false_eq_true
abbrev QaN:=@Nat.lt_succ_of_lt
abbrev QaO:=@Heap.get?_none_of_le
abbrev QaP:=@Around.under_plainId
abbrev QaQ:=@List.mem_of_mem_take
abbrev QaR:=@List.findIdx?_eq_some_iff_getElem
abbrev QaS:=@List.replicate_succ
abbrev QaT:=@List.idxOf?_eq_some_iff
abbrev QaU:=@List.forIn_cons
abbrev QaV:=@List.find?_eq_some_iff_getElem
abbrev QaW:=@List.pairwise_cons
abbrev QaX:=@Int.emod_lt_of_pos
abbrev QaY:=@List.getElem?_set_self
abbrev QaZ:=@Prod.mk.inj
abbrev Qa0:=@List.flatten_cons
abbrev Qa1:=@Array.getElem?_toList
abbrev Qa2:=@Nat.succ_mul
abbrev Qa3:=@List.map_map
abbrev Qa4:=@List.eq_nil_or_concat
abbrev Qa5:=@List.concat_eq_append
abbrev Qa6:=@List.length_take
abbrev Qa7:=@List.take_length
abbrev Qa8:=List Str
abbrev Qa9:=List Value
abbrev Qba:=List Addr
abbrev Qbb:=Option Value
abbrev Qbc:=List Nat
end
namespace L2
open PySem PySem.Spec PyProof.Rows
inductive KI where
 |i (n:Int)
 |no
 deriving DecidableEq
abbrev Key:=Sum KI Str
def DR(w:World):Key->Int
 | .inl (.i k)=>hashInt k
 | .inl .no=>4238894112
 | .inr x=>hashStr w x
inductive V where
 |ao|bl (b:Bool)|int (i:Int)|str (x:Str)|ow (b:Array UInt8)|BB (b:UInt64)|ref (a:Addr)|ty (n:String)
 deriving DecidableEq
abbrev Qbe:=List (List Key×V)
abbrev Qbf:=List (Key×V)
abbrev Qbg:=List (Str×V)
abbrev Qbh:=List (Str×Str)
abbrev Qbi:=List V
abbrev Qbj:=Option V
inductive HO where
  |lst (B:Qbi)
  |tup (B:Qbi)
  |dK (kvs:Qbf)|dT (kvs:Qbe)
  |set (S:Int->Bool) (n:Nat)
  |ins (C dx:Addr) (fs:Qbg)
  |own (x:Addr)
  |xd (fs:Qbg)
  |met (f x:Addr)
  |Fx (lo hi:Int)
  |iy (o:Obj) (u:HO)
  |AX (ps:Array Value)
  |ext (φ:Heap->Prop)
abbrev Hp:=Addr->Option HO
structure Cx where
 prog:Program
 w:World
 K:QZ
 mg:Str->Qbb
 base:Heap
 A:Around
 N:Qa8
 s₀:Shared
 H₀:Hp
 env:Env
 outer:List Env
 stack:List Env
 ex:Qba
 fn:Str->Bool
 calm:Bool
 pn:List (Addr×Obj)
 xe:Value->Shared->Prop
def g_(l:List Env):Qba:=l.filterMap (·.frame)
abbrev Cx.fs(X:Cx):Qba:=g_ X.outer
def Ah:Value->Qbj
 | .none=>some .ao
 | .bool b=>some (.bl b)
 | .int i _=>some (.int i)
 | .str x _=>some (.str x)
 | .bytes b _=>some (.ow b)
 | .float b _=>some (.BB b)
 | .ref a=>some (.ref a)
 | .type n=>some (.ty n)
 |_=>none
def inClass(s:Stmt)(j:Nat):Stmt:=match s with
 | .ClassDef _ _ _ body _ _ _ _ _ _ _=>body.getD j (.Pass ⟨0,0,0,0⟩)
 |_=>.Pass ⟨0,0,0,0⟩
def qx(s:Stmt):Arguments:=match s with
 | .FunctionDef _ a _ _ _ _ _ _ _ _=>a
 |_=>{posonlyargs:=[],args:=[],vararg:=none,kwonlyargs:=[],kw_defaults:=[],kwarg:=none,defaults:=[]}
def kc(s:Stmt):List Stmt:=match s with
 | .FunctionDef _ _ b _ _ _ _ _ _ _=>b
 |_=>[]
def bz(s:Stmt):Scope:=match s with
 | .FunctionDef _ _ _ _ _ _ sc _ _ _=>sc
 |_=>{kind:=.function,names:=[],isGenerator:=false,isCoroutine:=false}
inductive Dt where
 |str (z:Str)
 |tup (M:List Dt)
 |lg
inductive Hd where
 |one (s:Str)
 |as (y:Str)
 |way (x y:Str)
 |prs (s:Str) (ps:Qbh)
def Hd.dt:Hd->Dt
 | .one s=>.tup [.str s]
 | .as y=>.tup [.str "as",.str y]
 | .way x y=>.tup [.str "way",.str x,.str y]
 | .prs s ps=>.tup [.str s,.tup (ps.map λp=>.tup [.str p.1,.str p.2])]
def Hd.pre:Hd->Qa8
 | .one s=>[s]
 | .as _=>[]
 | .way _ _=>["way"]
 | .prs s _=>[s]
def without(K:QZ)(as:Qba):QZ:=K.filter λp=> !as.contains p.1
inductive a_ where
 |get (z:Str)
 |fn (v r:Str)
 |call
 |dw (ws:Qa8)
 |part (z:Str)
 |pick (z:Str)
 |split (cs:Qbh)
 |hold (r:Str)
 deriving DecidableEq
inductive Mr where
 |mk (f:a_) (J:List Mr)
def Mr.f:Mr->a_
 | .mk f _=>f
end L2
namespace L2
open PySem PySem.Spec PyProof.Rows PySem.W Builtin.ObjectAttr
abbrev Gv:Qa9:=[.type "ValueError",.type "Exception",.type "BaseException",.type "object"]
def wo(own:Qba):Qa9:=own.map Value.ref++Gv
end L2
namespace L2
open PySem PySem.Spec PySem.W PyProof.Rows
def JF:Data->Bool
 | .freed=>false
 |_=>true
def Cc:Nat->List Obj->Frag
 |_,[]=>[]
 |n,o::os=>if JF o.data then(n,o)::Cc (n+1) os else Cc (n+1) os
def JG(h:Heap):Frag:=Cc 0 h.objs.toList
theorem iP:∀{os:List Obj}{n a:Nat}{o:Obj},(Cc n os).lookup a=some o->n<=a/\os[a-n]? =some o/\JF o.data=true
 | [],n,a,o,h=>by simp[Cc]at h
 |x::os,n,a,o,h=>by
  unfold Cc at h;have next:(Cc (n+1) os).lookup a=some o->n<=a/\(x::os)[a-n]? =some o/\JF o.data=true:=λh=>by
   obtain⟨h1,h2,h3⟩:=iP h;refine⟨by lia,?_,h3⟩;obtain⟨k,hk⟩:∃k,a-n=k+1:=⟨a-n-1,by lia⟩
   rw[hk,List.getElem?_cons_succ,<- h2];congr 1;lia
  split at h
  ·rename_i b
   rw[Qad]at h;split at h
   ·rename_i e
    obtain rfl:a=n:=by simpa using e
    cases h;exact⟨Qy _,by simp,b⟩
   ·exact next h
  ·exact next h
theorem wO(h:Heap):(JG h).In h:=λa o e=>by
 obtain⟨_,h2,h3⟩:=iP e;have b:h.objs[a]? =some o:=by rw[<- Qa1];simpa using h2
 unfold Heap.get?;rw[b];obtain⟨c,d,dt,sl⟩:=o;cases dt<;>first|rfl|cases h3
def wq{α:Type}(look:Frag->α)(want:World->α):Hook where
 α:=α
 obs s:=look (JG s.heap)
 val:=want
 says w h:=∃K:Frag,K.In h/\look K=want w
 of:=λw s e=>⟨JG s.heap,wO _,e⟩
 keeps:=λw h O ⟨K,x,e⟩ k=>⟨K,λa o l=>k a o (x a o l),e⟩
abbrev Cd:=Str×Str×Arguments×FuncBody×Scope×Addr×List (Str×Addr)×Value×Addr×Bool
def fnAt(K:Frag)(q:Str):Option Qbb->Option Cd
 |some (some (.ref f))=>(match K.lookup f with
  |some ⟨_,_,.func fd,_⟩=>some (fd.name,fd.qualname,fd.params,fd.body,fd.scope,fd.globals,fd.closure,fd.defaults,fd.builtins,codeIn K fd.code q)
  |_=>none)
 |_=>none
def Ce(x q:Str)(st:Stmt):Cd:=(x,q,qx st,.stmts (kc st),bz st,mainGlobals,[],.none,builtinsNs,true)
def Ay(K:Frag):List (Str×Stmt)->List (Option Cd)
 | []=>[]
 |x::l=>fnAt K x.1 (nsIn K mainGlobals x.1)::Ay K l
def Az:List (Str×Stmt)->List (Option Cd)
 | []=>[]
 |x::l=>some (Ce x.1 x.1 x.2)::Az l
def Gz(K:Frag)(x:Str):Qbj:=match nsIn K mainGlobals x with
 |some (some v)=>Ah v
 |_=>none
def GA(K:Frag):Qbg->List Qbj
 | []=>[]
 |x::l=>Gz K x.1::GA K l
def GC:Qbg->List Qbj
 | []=>[]
 |x::l=>some x.2::GC l
abbrev C9:=Value×Option Addr×List Qbj
def GD:Qa9->List Qbj
 | []=>[]
 |v::l=>Ah v::GD l
def GF:Qbi->List Qbj
 | []=>[]
 |v::l=>some v::GF l
def Ez(K:Frag):Value->Option C9
 | .ref a=>(match K.lookup a with
  |some ⟨c,d,.seq it _,_⟩=>some (c,d,GD it.toList)
  |_=>none)
 |_=>none
def C_(B:Qbi):C9:=(.type "tuple",none,GF B)
def WX(K:Frag)(x:Str):Option C9:=match nsIn K mainGlobals x with
 |some (some v)=>Ez K v
 |_=>none
def Nq(K:Frag):List (Str×Qbi)->List (Option C9)
 | []=>[]
 |x::l=>WX K x.1::Nq K l
def Nr:List (Str×Qbi)->List (Option C9)
 | []=>[]
 |x::l=>some (C_ x.2)::Nr l
def Dc(K:Frag):Qa8->Bool
 | []=>true
 |x::l=>(match nsIn K mainGlobals x with|some none=>true|_=>false)&&Dc K l
inductive De where
 |v (x:Qbj)
 |t (x:Option C9)
abbrev GG:=Value×Option Addr×Nat×Bool×List (Int×Qbj×De)
def EB(K:Frag)(v:Value):De:=match v with
 | .ref _=>.t (Ez K v)
 |_=>.v (Ah v)
def EC(K:Frag):List DictEntry->List (Int×Qbj×De)
 | []=>[]
 |e::l=>(e.hash,Ah e.key,EB K e.val)::EC K l
def GH(K:Frag)(x:Str):Option GG:=match nsIn K mainGlobals x with
 |some (some (.ref a))=>(match K.lookup a with
  |some ⟨c,d,.dict Y _,sl⟩=>some (c,d,sl.size,a==sysModules,EC K Y.toList)
  |_=>none)
 |_=>none
abbrev ud:=Str×(V ⊕ Qbi)
def Df(w:World):List ud->List (Int×Qbj×De)
 | []=>[]
 |(k,.inl v)::l=>(DR w (.inr k),some (.str k),.v (some v))::Df w l
 |(k,.inr v)::l=>(DR w (.inr k),some (.str k),.t (some (C_ v)))::Df w l
def GI(w:World)(l:List ud):GG:=(.type "dict",none,0,false,Df w l)
def JJ(K:Frag):List (Str×List ud)->List (Option GG)
 | []=>[]
 |x::l=>GH K x.1::JJ K l
def JK(w:World):List (Str×List ud)->List (Option GG)
 | []=>[]
 |x::l=>some (GI w x.2)::JK w l
abbrev Nu:Qa8:=["type","isinstance","issubclass","getattr","hasattr"]
theorem Xd{l:OpenLaw}{p:Program}(b:l.prog=p)
 (c:sreFenced p.main=true) (d:((moduleNames p.main.body).isEmpty||lookedIntoSs (moduleNames p.main.body) p.main.body)=true)
 (e:namesResolve p=true) (f:p.boundNames.all (λn=> !worldNames.contains n)=true)
 (g:noRoadLSs {strict:= !(importedModules p.main.body).all cThrough.contains,foot:=none,bare:=(["vars","dir","locals"]:Qa8).filter (readsOut p p.main.body)} p.main.body=true)
 (h:(namesMeet p p.main.body λ_ n=>attrL n)=true)
 (i:l.row.toRowW.solid=true) (j:l.row.pre.litsOk=true)
 (k:p.boundNames.contains l.name=true) (m:(!startupNames.contains l.name)=true)
 (o:decide (l.foot<=(behindTheImports p).length)=true)
 (r:l.footing.all footLine=true) (s:noClassBlock p l.footing=true)
 (t:l.most.all (λn=>decide (63<=n))=true) (u:l.bound.all (λn=>decide (2^63<=n))=true)
 (w:noRoadLSs {strict:=true,foot:=some l.bound',writes:=l.writes,may:=l.may} l.footing=true)
 (x:defStands l.about l.above=true) (y:l.namesIt=true) (z:Nu.all (λn=>l.about !=[n])=true)
 (A:l.bound'.all (λn=> !builtinNamed n||l.about==[n]|| !l.reads n)=true)
 (C:(!l.writes||(p.main.body.flatMap importedNames).all λn=> !l.reads n)=true)
 (D:(p.main.body.flatMap importedNames).all (λn=> !l.reads n||(drawsOf n p.main.body).all λa=>a.2 !=("attrgetter":Str)&&a.2 !=("methodcaller":Str))=true)
 (E:namesMeet p l.footing (λsc n=>(!Nu.contains n||sc.names.lookup n==some .globalImplicit)&&(l.may !=some n||sc.kind==.module||sc.names.lookup n==some .globalImplicit))=true)
 (G:l.own.contains l.name=true) (H:(l.own.eraseDups.length==l.own.length)=true) (I:l.own.all (λn=> !builtinNamed n)=true)
 (K:namesMeet p l.above (λ_ n=> !l.own.contains n)=true) (L:(namesMeet p l.footing λsc n=>sc.kind==.module||sc.names.lookup n !=some .globalExplicit)=true):l.wellSaid=true:=by
 subst b;have q:l.row.wellSaid=true:=by
  unfold OpenRow.wellSaid OpenRow.partSaid looksOpen;exact look_both (look_both (look_both (look_both (look_both (look_both (look_both (look_both (look_both (look_both (look_both (look_both (look_both (look_both (look_both (look_both (look_both (look_both (look_both (look_both c d) e) f) g) h) rfl) rfl) rfl) rfl) rfl) rfl) i) j) rfl) rfl) rfl) rfl) rfl) k) m
 unfold OpenLaw.wellSaid;rw[q,o,r,s,t,u,w,x,y,z,A,C,D,E,G,H,I,K,L];rfl
def GJ(K:Frag)(C:Addr):Qa8->Bool
 | []=>true
 |f::l=>(match findIn K (.ref C) f with|some none=>true|_=>false)&&GJ K C l
def EE(K:Frag)(N:Addr):Option Qbb:=match K.lookup N with
 |some ⟨_,_,.dict Y _,_⟩=>if Y.all (λe=>match e.key with| .str _ _=>true|_=>false)then some (nsFind Y "__init__")else none
 |_=>none
def EF(K:Frag):Qba->Bool
 | []=>true
 |A::l=>(match K.lookup A with|some ⟨_,_,.cls cd,_⟩=>EE K cd.ns==some none|_=>false)&&EF K l
def wu(K:Frag)(C:Addr)(own:Qba)(a:Qbb):Bool:=match K.lookup C with
 |some ⟨c,_,.cls cd,sl⟩=>c==.type "type"&&(cd.mro==.ref C::wo own&&(!cd.hasDel&&(cd.hasDict&&(sl.size==6&&(sl[4]?==some (some (.builtin "ValueError.__new__"))&&(EE K cd.ns==some a&&(EF K own&&keepIn K (.ref C))))))))
 |_=>false
structure AB where
 x:Str
 q:Str
 st:Option Stmt
 fs:Qa8
def NC(K:Frag)(C:Addr):Qba:=match clsIn K C with
 |some cd=>cd.mro.tail.filterMap λv=>match v with| .ref a=>some a|_=>none
 |none=>[]
def GL(K:Frag)(C:Addr)(st:Option Stmt):Qbb:=match st with
 |none=>none
 |some _=>(findIn K (.ref C) "__init__").getD none
def ND(K:Frag)(c:AB)(C:Addr):Bool×Option Cd:=(wu K C (NC K C) (GL K C c.st)&&(findIn K (.ref C) "__getattribute__"==some (some (.builtin "BaseException.__getattribute__"))&&(findIn K (.ref C) "__getattr__"==some none&&(findIn K (.ref C) "__setattr__"==some (some (.builtin "object.__setattr__"))&&(findIn K (.ref C) "__class__"==some (some (.builtin "object.__class__"))&&(GJ K C c.fs&&
  (match c.st with
  |none=>specialIn K (.ref C) "__getattribute__"==some (some (.builtin "type.__getattribute__"))&&(readsIn K C (.type "type")&&(match findCls K (.ref C) (.type "type") "__init__" with|some (.val v)=>v==.builtin "ValueError.__init__" |_=>false))
  |some _=>(match findIn K (.ref C) "__init__" with|some (some v)=>isFn K v|_=>false))))))),match c.st with|none=>none|some _=>fnAt K c.q (findIn K (.ref C) "__init__"))
def Di(K:Frag):List AB->List (Option (Bool×Option Cd))
 | []=>[]
 |c::l=>(match nsIn K mainGlobals c.x with|some (some (.ref C))=>some (ND K c C)|_=>none)::Di K l
def Dj:List AB->List (Option (Bool×Option Cd))
 | []=>[]
 |c::l=>some (true,c.st.map λst=>Ce "__init__" c.q st)::Dj l
def GN(K:Frag):List (Str×Str×Bool)->List (Option Bool)
 | []=>[]
 |c::l=>(match nsIn K mainGlobals c.1,nsIn K mainGlobals c.2.1 with|some (some (.ref C)),some (some (.ref B))=>subIn K (.ref C) (.ref B)|_,_=>none)::GN K l
def GO:List (Str×Str×Bool)->List (Option Bool)
 | []=>[]
 |c::l=>some c.2.2::GO l
end L2
namespace T1
inductive X2{a b:Type}(P:a->b->Prop):Prop
 |mk q r:P q r->X2 P
inductive X3{a b c:Type}(P:a->b->c->Prop):Prop
 |mk q r s:P q r s->X3 P
inductive X4{a b c d:Type}(P:a->b->c->d->Prop):Prop
 |mk q r s t:P q r s t->X4 P
inductive X5{a b c d e:Type}(P:a->b->c->d->e->Prop):Prop
 |mk q r s t u:P q r s t u->X5 P
inductive X6{a b c d e f:Type}(P:a->b->c->d->e->f->Prop):Prop
 |mk q r s t u v:P q r s t u v->X6 P
end T1
namespace T1
open PySem L2
def top(i:Nat):Stmt:=PySem.Challenge.pw_coilkind_k84_runs_step_by_step.main.body.getD i (.Pass ⟨0,0,0,0⟩)
abbrev jR:Stmt:=top 7
abbrev gY:Stmt:=top 8
abbrev J5:Stmt:=top 12
abbrev kY:Stmt:=top 13
abbrev iT:Stmt:=top 14
abbrev gX:Stmt:=top 15
abbrev fO:Stmt:=top 16
abbrev pL:Stmt:=top 17
abbrev gJ:Stmt:=top 18
abbrev kM:Stmt:=top 19
abbrev fQ:Stmt:=top 20
abbrev kX:Stmt:=top 22
abbrev kN:Stmt:=top 23
abbrev iC:Stmt:=top 24
abbrev jT:Stmt:=top 25
abbrev kJ:Stmt:=top 26
abbrev gQ:Stmt:=top 27
abbrev mL:Stmt:=top 28
abbrev fM:Stmt:=top 29
abbrev eR:Stmt:=top 30
abbrev d5:Stmt:=top 32
abbrev gP:Stmt:=top 33
abbrev eE:Stmt:=top 34
abbrev mT:Stmt:=top 35
abbrev h9:Stmt:=top 36
abbrev eC:Stmt:=top 37
abbrev kO:Stmt:=top 38
abbrev jB:Stmt:=top 39
abbrev dO:Stmt:=top 40
abbrev hU:Stmt:=top 41
abbrev eB:Stmt:=top 42
abbrev lV:Stmt:=top 43
abbrev fP:Stmt:=top 44
abbrev iW:Stmt:=top 45
abbrev gZ:Stmt:=top 46
abbrev kQ:Stmt:=top 47
abbrev mW:Stmt:=top 48
abbrev jU:Stmt:=top 49
abbrev eW:Stmt:=top 50
abbrev gI:Stmt:=top 51
abbrev jI:Stmt:=top 52
abbrev kU:Stmt:=top 53
abbrev eQ:Stmt:=top 54
abbrev nI:Stmt:=top 55
abbrev kH:Stmt:=inClass (top 2) 0
abbrev fN:Stmt:=inClass (top 3) 0
abbrev pw:=PySem.Challenge.pw_coilkind_k84_runs_step_by_step
abbrev yr:=PySem.Challenge.rw_coilkind_k84_runs_step_by_step
def view:Program:={pw with main:={pw.main with body:=([1,2,3,4,6,7,8,10,11,12,13,14,15,16,17,18,19,20,22,23,24,25,26,27,28,29,30,31,32,33,34,35,36,37,38,39,40,41,42,43,44,45,46,47,48,49,50,51,52,53,54,55]:Qbc).filterMap λi=>pw.main.body[i]?}}
def fns:List (Str×Stmt):=[⟨"makers_in",jR⟩,⟨"with_makers",gY⟩,⟨"run",J5⟩,⟨"is_value",kY⟩,⟨"next_step",iT⟩,⟨"first_to_do",gX⟩,⟨"done_at_once",fO⟩,⟨"put_in",pL⟩,⟨"names_bound",gJ⟩,⟨"replaced",kM⟩,⟨"refuse_large",fQ⟩,⟨"_law_fill",kX⟩,⟨"_law_next",kN⟩,⟨"_law_turned",iC⟩,⟨"_law_words",jT⟩,⟨"_law_head",kJ⟩,⟨"_law_telling",gQ⟩,⟨"_law_any",mL⟩,⟨"_law_row_here",fM⟩,⟨"_law_head_here",eR⟩,⟨"_law_maker_telling",d5⟩,⟨"_law_endless",gP⟩,⟨"_law_name_bound",eE⟩,⟨"_law_for",mT⟩,⟨"_law_wrapped",h9⟩,⟨"_law_split_over",eC⟩,⟨"_law_many",kO⟩,⟨"_law_parts",jB⟩,⟨"_law_small_maker",dO⟩,⟨"_law_rebuilt",hU⟩,⟨"_law_bent_maker",eB⟩,⟨"_law_put",lV⟩,⟨"_law_is_value",fP⟩,⟨"_law_comes",iW⟩,⟨"_law_next_of",gZ⟩,⟨"_law_deep",kQ⟩,⟨"_law_run",mW⟩,⟨"_law_asked",jU⟩,⟨"_law_is_closed",eW⟩,⟨"_law_growing",gI⟩,⟨"_law_picks",jI⟩,⟨"_law_gets",kU⟩,⟨"_law_at_bounds",eQ⟩,⟨"law",nI⟩]
def vals:Qbg:=[⟨"MOST_MAKERS",.int 400⟩,⟨"MOST_WITHIN",.int 40⟩]
def tups:List (Str×Qbi):=[]
def QB:List (Str×List ud):=[⟨"PLACES",[⟨"get",.inr [.str "name"]⟩,⟨"fn",.inr [.str "name",.str "row",.str "maker"]⟩,⟨"call",.inr [.str "maker",.str "maker"]⟩,⟨"box",.inr [.str "parts"]⟩,⟨"part",.inr [.str "maker",.str "name"]⟩,⟨"pick",.inr [.str "name",.str "maker"]⟩,⟨"split",.inr [.str "maker",.str "cases"]⟩,⟨"hold",.inr [.str "maker",.str "row"]⟩]⟩]
def aa2:Qa8:=["len","isinstance","all","range","bool","list","tuple","dict","sorted","enumerate","zip","max","sum","ValueError"]
def QF:List AB:=[⟨"CoilError","CoilError.__init__",none,[]⟩,⟨"NoText","NoText.__init__",some kH,["number"]⟩,⟨"TooMany","TooMany.__init__",some fN,["many"]⟩,⟨"NoTelling","NoTelling.__init__",none,[]⟩]
def subs:List (Str×Str×Bool):=[("CoilError","CoilError",true),("CoilError","NoText",false),("CoilError","TooMany",false),("CoilError","NoTelling",false),("NoText","CoilError",true),("NoText","NoText",true),("NoText","TooMany",false),("NoText","NoTelling",false),("TooMany","CoilError",true),("TooMany","NoText",false),("TooMany","TooMany",true),("TooMany","NoTelling",false),("NoTelling","CoilError",true),("NoTelling","NoText",false),("NoTelling","TooMany",false),("NoTelling","NoTelling",true)]
def look(K:QZ):=(Ay (without K []) fns,GA (without K []) vals,Nq (without K []) tups,JJ (without K []) QB,Dc (without K []) aa2,Di (without K []) QF,GN (without K []) subs)
def want(w:World):=(Az fns,GC vals,Nr tups,JK w QB,true,Dj QF,GO subs)
theorem two_h{α β γ:Type _}{o:Option α}{f:α->β}{g:α->γ}{a:β}{b:γ}(h:o.map f=some a)(h':o.map g=some b):o.map (fun s=>(f s,g s))=some (a,b):=by cases o<;>simp_all
theorem aa3_a(w:World):(PySem.W.openEnds treeTable pw (w.withFollow "special-get-raises" false) 4996).map (fun s=>PySem.W.openSeen view ["PLACES"] (PySem.importedModules pw.main.body) (λs=>PySem.W.xlAt view [] s&&PySem.W.recOk [] s) true s)=some (PySem.W.openGood view ["PLACES"]):=by kernel_rfl
theorem aa3_b(w:World):(PySem.W.openEnds treeTable pw (w.withFollow "special-get-raises" false) 4996).map (fun s=>(wq look want).obs s)=some ((wq look want).val (w.withFollow "special-get-raises" false)):=by kernel_rfl
theorem aa3(w:World):(PySem.W.openEnds treeTable pw (w.withFollow "special-get-raises" false) 4996).map (λs=>(PySem.W.openSeen view ["PLACES"] (PySem.importedModules pw.main.body) (λs=>PySem.W.xlAt view [] s&&PySem.W.recOk [] s) true s,(wq look want).obs s))=some (PySem.W.openGood view ["PLACES"],(wq look want).val (w.withFollow "special-get-raises" false)):=two_h (aa3_a w) (aa3_b w)
theorem aa4_a(w:World):(PySem.W.openEnds treeTable pw (w.withFollow "special-get-raises" true) 4996).map (fun s=>PySem.W.openSeen view ["PLACES"] (PySem.importedModules pw.main.body) (λs=>PySem.W.xlAt view [] s&&PySem.W.recOk [] s) true s)=some (PySem.W.openGood view ["PLACES"]):=by kernel_rfl
theorem aa4_b(w:World):(PySem.W.openEnds treeTable pw (w.withFollow "special-get-raises" true) 4996).map (fun s=>(wq look want).obs s)=some ((wq look want).val (w.withFollow "special-get-raises" true)):=by kernel_rfl
theorem aa4(w:World):(PySem.W.openEnds treeTable pw (w.withFollow "special-get-raises" true) 4996).map (λs=>(PySem.W.openSeen view ["PLACES"] (PySem.importedModules pw.main.body) (λs=>PySem.W.xlAt view [] s&&PySem.W.recOk [] s) true s,(wq look want).obs s))=some (PySem.W.openGood view ["PLACES"],(wq look want).val (w.withFollow "special-get-raises" true)):=two_h (aa4_a w) (aa4_b w)
def CH:DefRec:=⟨"law",qx nI,kc nI,bz nI,(match nI with| .FunctionDef _ _ _ _ _ _ _ _ _ p=>p|_=>⟨0,0,0,0⟩)⟩
theorem hdef:PySem.W.defOf view yr.row.name=some (CH,[]):=by kernel_rfl
theorem hprog:yr.row.prog.theDef yr.row.name=some (CH.params,CH.body,CH.scope):=by kernel_rfl
theorem hkw:PySem.W.kwWritten? CH.params.kwonlyargs CH.params.kw_defaults=some []:=by kernel_rfl
theorem hok:(PySem.W.chainsOk view&&PySem.W.opensWell yr.row.prog&&(PySem.W.frees yr.row.toRowW&&yr.row.within.isEmpty))=true:=by kernel_rfl
theorem hbare:yr.row.prog.bare:=⟨rfl,rfl,rfl,rfl,rfl,by decide+kernel⟩
theorem abx:yr.row.toRowW.promised:=by w_witness2
theorem said:yr.wellSaid=true:=by
 refine Xd (p:=pw) rfl ?_ ?_ ?_ ?_ ?_ ?_ ?_ ?_ ?_ ?_ ?_ ?_ ?_ ?_ ?_ ?_ ?_ ?_ ?_ ?_ ?_ ?_ ?_ ?_ ?_ ?_ ?_ ?_<;>kernel_rfl
end T1
namespace L2
open PySem PySem.Spec PyProof.Rows
instance:Coe Int KI:=⟨KI.i⟩
def QM:Value->Bool
 | .none=>true
 |_=>false
def CI:Key->Value->Bool
 | .inl (.i k),v=>Value.isInt k v
 | .inl .no,v=>QM v
 | .inr x,v=>Value.isStrOf x v
theorem cA:∀{k:Key}{v:Value},CI k v=true->(∃i t,k=Sum.inl (KI.i i)/\v=Value.int i t)\/(∃x t,k=Sum.inr x/\v=Value.str x t)\/(k=Sum.inl KI.no/\v=Value.none)
 | .inl (.i i),v,h=>by
  obtain⟨t,e⟩:=Value.isInt_shape (k:=i) (v:=v) h;exact .inl ⟨i,t,rfl,e⟩
 | .inl .no,v,h=>by
  cases v<;>first|exact .inr (.inr ⟨rfl,rfl⟩)|(exact nomatch(show false=true from h))
 | .inr x,v,h=>by
  obtain⟨t,e⟩:=Value.isStrOf_shape (x:=x) (v:=v) h;exact .inr (.inl ⟨x,t,rfl,e⟩)
theorem yY(i:Int)(t:Tok):CI (.inl (KI.i i)) (.int i t)=true:=by simp[CI,Value.isInt]
theorem yN(x:Str)(t:Tok):CI (.inr x) (.str x t)=true:=by simp[CI,Value.isStrOf]
theorem QN{Q:Int->Shared->Prop}(h:Q 4238894112 {s with toks:=s.toks+1}):wpAny (model prog w) A (PySem.pyHash .none) Q E s:=
 PySem.W.pyHash_slot (T:="NoneType") rfl PySem.F.slot_NoneType_hash PySem.F.entry_NoneType_hash (PySem.F.args_NoneType_hash_1 _) (beq_builtin_none _) (.inl rfl) (QS (QT (QS (wpAny_mkInt (QT ⟨_,_,rfl,h⟩)))))
theorem QO(a b:Int):decide ((Sum.inl (KI.i a):Key)=Sum.inl (KI.i b))=(a==b):=by
 by_cases e:a=b
 ·subst e;simp
 ·have h:¬(Sum.inl (KI.i a):Key)=Sum.inl (KI.i b):=λq=>e (KI.i.inj (Sum.inl.inj q));rw[Qw h];exact(beq_eq_false_iff_ne.mpr e).symm
theorem QU(a b:Str):decide ((Sum.inr a:Key)=Sum.inr b)=decide (a=b):=by
 by_cases e:a=b
 ·subst e;simp
 ·have h:¬(Sum.inr a:Key)=Sum.inr b:=λq=>e (Sum.inr.inj q);rw[Qw h,Qw e]
theorem Lw(a:KI)(b:Str):decide ((Sum.inl a:Key)=Sum.inr b)=false:=Qw (λq=>nomatch q)
theorem Lx(a:Str)(b:KI):decide ((Sum.inr a:Key)=Sum.inl b)=false:=Qw (λq=>nomatch q)
theorem QV(a:Int):decide ((Sum.inl (KI.i a):Key)=Sum.inl KI.no)=false:=Qw (λq=>nomatch q)
theorem QW(a:Int):decide ((Sum.inl KI.no:Key)=Sum.inl (KI.i a))=false:=Qw (λq=>nomatch q)
def ir(prog:Program)(w:World):PySem.KeyKind prog w Key where
 is:=CI
 hash:=DR w
 inj:=λv a b ha hb=>by
  rcases cA ha with⟨i,t,rfl,rfl⟩|⟨x,t,rfl,rfl⟩|⟨rfl,rfl⟩<;>rcases cA hb with⟨j,u,rfl,e⟩|⟨y,u,rfl,e⟩|⟨rfl,e⟩<;>first|rfl|(injection e with e1 _;rw[e1];done)|exact nomatch e
 byValue:=λk v h=>by
  rcases cA h with⟨i,t,rfl,rfl⟩|⟨x,t,rfl,rfl⟩|⟨rfl,rfl⟩<;>rfl
 pyHash:=λhv h=>by
  rcases cA hv with⟨i,t,rfl,rfl⟩|⟨x,t,rfl,rfl⟩|⟨rfl,rfl⟩
  ·exact wpAny_pyHash_int h
  ·exact wpAny_pyHash_str h
  ·exact QN h
 eqBool:=λhu hv h=>by
  rcases cA hu with⟨i,t,rfl,rfl⟩|⟨x,t,rfl,rfl⟩|⟨rfl,rfl⟩
  ·rcases cA hv with⟨j,u,rfl,rfl⟩|⟨y,u,rfl,rfl⟩|⟨rfl,rfl⟩
   ·rw[QO]at h;exact wpAny_eqBool_int h
   ·rw[Lw]at h;exact SeqAt.EqAt.int_str i t y u _ _ _ _ h
   ·rw[QV]at h;exact SeqAt.EqAt.int_none i t _ _ _ _ h
  ·rcases cA hv with⟨j,u,rfl,rfl⟩|⟨y,u,rfl,rfl⟩|⟨rfl,rfl⟩
   ·rw[Lx]at h;exact SeqAt.EqAt.str_int x t j u _ _ _ _ h
   ·rw[QU]at h;exact wpAny_eqBool_str h
   ·rw[Lx]at h;exact SeqAt.EqAt.str_none x t _ _ _ _ h
  ·rcases cA hv with⟨j,u,rfl,rfl⟩|⟨y,u,rfl,rfl⟩|⟨rfl,rfl⟩
   ·rw[QW]at h;exact SeqAt.EqAt.none_int j u _ _ _ _ h
   ·rw[Lw]at h;exact SeqAt.EqAt.none_str y u _ _ _ _ h
   ·exact SeqAt.EqAt.same _ _ _ _ _ (by simpa using h)
 «strs»:=λk x t v h=>by
  rcases cA h with⟨i,u,rfl,e⟩|⟨y,u,rfl,e⟩|⟨rfl,e⟩
  ·exact nomatch e
  ·injection e with e1 _;subst e1;cases v<;>rfl
  ·exact nomatch e
theorem vS(prog:Program)(w:World)(i:Int)(t:Tok):(ir prog w).is (.inl (KI.i i)) (.int i t)=true:=yY i t
theorem jS(prog:Program)(w:World)(x:Str)(t:Tok):(ir prog w).is (.inr x) (.str x t)=true:=yN x t
def RelV:V->Value->Prop
 | .ao,u=>u=Value.none
 | .bl b,u=>u=Value.bool b
 | .int i,u=>∃t,u=Value.int i t
 | .str x,u=>∃t,u=Value.str x t
 | .ow b,u=>∃t,u=Value.bytes b t
 | .BB b,u=>∃t,u=Value.float b t
 | .ref a,u=>u=Value.ref a
 | .ty n,u=>u=Value.type n
abbrev bu:Qbi->Qa9->Prop:=Paired RelV
theorem bu.length{B:Qbi}{us:Qa9}(r:bu B us):B.length=us.length:=Paired.length r
theorem bu.get:∀{B:Qbi}{us:Qa9}{i:Nat}{x:V},bu B us->B[i]? =some x->∃u,us[i]? =some u/\RelV x u
 |_,_,_,_,.nil,e=>by simp at e
 |_,_,0,_,.cons r _,e=>by simp at e;subst e;exact⟨_,rfl,r⟩
 |_,_,i+1,x,.cons _ t,e=>by
  obtain⟨u,h1,h2⟩:=bu.get (i:=i) (x:=x) t (by simpa using e);exact⟨u,by simpa using h1,h2⟩
theorem bu.set{x:V}{u:Value}(r:RelV x u):∀{B:Qbi}{us:Qa9}(i:Nat),bu B us->bu (B.set i x) (us.set i u)
 |_,_,_,.nil=>.nil
 |_,_,0,.cons _ t=>.cons r t
 |_,_,i+1,.cons q t=>.cons q (bu.set r i t)
theorem bu.append:∀{B a:Qbi}{us ws:Qa9},bu B us->bu a ws->bu (B++a) (us++ws)
 |_,_,_,_,.nil,s=>s
 |_,_,_,_,.cons r t,s=>.cons r (bu.append t s)
theorem bu.take:∀{B:Qbi}{us:Qa9}(n:Nat),bu B us->bu (B.take n) (us.take n)
 |_,_,0,_=>.nil
 |_,_,_+1,.nil=>.nil
 |_,_,n+1,.cons r t=>.cons r (bu.take n t)
theorem bu.drop:∀{B:Qbi}{us:Qa9}(n:Nat),bu B us->bu (B.drop n) (us.drop n)
 |_,_,0,r=>r
 |_,_,_+1,.nil=>.nil
 |_,_,n+1,.cons _ t=>bu.drop n t
def oz:Qbj->Qbb->Prop
 |some v,some u=>RelV v u
 |none,none=>True
 |_,_=>False
def KV{a:Type}:List (a×V)->List (a×Value)->Prop:=Paired fun(p:a×V)(q:a×Value)=>p.1=q.1/\RelV p.2 q.2
def kV:Key->V
 | .inl (.i i)=>.int i
 | .inl .no=>.ao
 | .inr x=>.str x
end L2
variable{H Z H0:L2.Hp}{o:L2.HO}{B:List (List L2.Key×PySem.Addr×PySem.Value)}
namespace L2
open PySem PySem.Spec PyProof.Rows
def upd(H:Hp)(a:Addr)(o:HO):Hp:=λb=>if b=a then some o else H b
theorem aB:upd H a o a=some o:=by unfold upd;rw[if_pos rfl]
theorem aS(h:b≠a):upd H a o b=H b:=by unfold upd;rw[if_neg h]
theorem sQ{u:HO}:upd (upd H a o) a u=upd H a u:=by
 funext b;unfold upd;split<;>rfl
theorem aY(h:H a=some o)(O:H b=none):a≠b:=by
 intro e;subst e;rw[h]at O;cases O
def AZ(h:Heap)(a:Addr):Prop:=∀o,h.get? a=some o->o.dict=none
theorem AZ.new{ob:Obj}(a:ob.isFreed=false)(b:ob.dict=none):AZ (h.push ob) h.objs.size:=λo q=>by rw[Qd _ a]at q;cases q;exact b
def jc(H:Hp)(b:Addr)(a:Qbi):Prop:=H b=some (.tup a)\/∃o,H b=some (.iy o (.tup a))
theorem jc.upd{H:Hp}{b a:Addr}{c:Qbi}{o:HO}(r:jc H b c)(d:∀u,H b=some u->b≠a):jc (L2.upd H a o) b c:=by
 rcases r with r|⟨e,r⟩
 ·exact .inl (by rw[aS (d _ r)];exact r)
 ·exact .inr ⟨e,by rw[aS (d _ r)];exact r⟩
section
variable(P:Program)(w:World)
def c_(H:Hp)(h:Heap)(a:Addr):HO->Prop
 | .lst B=>B.length<=sizeLine/\∃(b:Qa9)(n:Nat),bu B b/\h.get? a=some {cls:=.type "list",data:=.seq b.toArray n}
 | .tup B=>(B.length<=sizeLine/\AZ h a)/\∃b:Qa9,bu B b/\IsTup h a b.toArray
 | .dK kvs=>kvs.length<=sizeLine/\(a==sysModules)=false/\∃vs,KV kvs vs/\h.DictOf (ir P w) a vs
 | .dT kvs=>kvs.length<=sizeLine/\(a==sysModules)=false/\∃B:List (List Key×Addr×Value),
   Paired (fun(p:List Key×V)(q:List Key×Addr×Value)=>p.1=q.1/\jc H q.2.1 (p.1.map kV)/\RelV p.2 q.2.2) kvs B/\
   ∃o Y c,h.get? a=some o/\o.ExactDict/\o.data=.dict Y c/\Y.toList=B.map (entryOfKey (tupleKind (ir P w)))/\(B.map (·.1)).Nodup
 | .set S n=>h.SetOf (intKind P w) a S n
 | .ins C dx fs=>H dx=some (.own a)/\fs.length<=1000/\dx≠a/\h.get? a=some (PySem.W.instObj C dx)/\
   ∃mA,h.Ns1 dx mA/\(∀f,oz (fs.lookup f) (mA f))/\PySem.Within mA (fs.map (·.1))
 | .own _=>∃o,h.get? a=some o
 | .xd fs=>∃mA,h.Ns1 a mA/\∀f,oz (fs.lookup f) (mA f)
 | .Fx lo hi=>∃t u v,h.get? a=some {cls:=.type "range",data:=.fields #[.int lo t,.int hi u,.int 1 v]}
 | .iy o u=>h.get? a=some o/\c_ H h a u
 | .AX ps=>h.get? a=some {cls:=.none,data:=.fields ps}
 | .met f x=>h.get? a=some (PySem.W.methodObj (.ref f) (.ref x))
 | .ext φ=>φ h/\(∃o,h.get? a=some o)/\∀h1 h2:Heap,φ h1->(∀o,h1.get? a=some o->h2.get? a=some o)->φ h2
def dm(H:Hp)(h:Heap):Prop:=∀a o,H a=some o->c_ P w H h a o
end
theorem c_.lt(x:c_ P w H h a o):a<h.objs.size:=by
 cases o with
 |lst B=>obtain⟨_,_,_,_,e⟩:=x;exact Qz e
 |tup B=>obtain⟨_,_,_,p⟩:=x;exact p.lt
 |dK kvs=>obtain⟨_,_,_,_,o,_,_,e,_⟩:=x;exact Qz e
 |dT kvs=>obtain⟨_,_,_,_,o,_,_,e,_⟩:=x;exact Qz e
 |set S n=>obtain⟨o,_,_,_,e,_⟩:=x;exact Qz e
 |ins C dx fs=>obtain⟨_,_,_,e,_⟩:=x;exact Qz e
 |own y=>obtain⟨_,e⟩:=x;exact Qz e
 |xd fs=>obtain⟨_,⟨_,_,_,e,_⟩,_⟩:=x;exact Qz e
 |Fx lo hi=>obtain⟨_,_,_,e⟩:=x;exact Qz e
 |iy ob u=>obtain⟨e,_⟩:=x;exact Qz e
 |AX ps=>exact Qz (show h.get? a=some _ from x)
 |met f y=>exact Qz (show h.get? a=some _ from x)
 |ext φ=>obtain⟨_,⟨_,e⟩,_⟩:=x;exact Qz e
theorem Paired.Ii{α e:Type}{F G:α->e->Prop}:∀{c:List α}{d:List e},Paired F c d->(∀a b,F a b->G a b)->Paired G c d
 |_,_,.nil,_=>.nil
 |_,_,.cons r t,f=>.cons (f _ _ r) (Paired.Ii t f)
theorem c_.stay(x:c_ P w H h a o)(k:∀b u,(b=a\/H b=some (.own a))->h.get? b=some u->O.get? b=some u)
  (g:∀b,H b=some (.own a)->Z b=some (.own a)) (i:∀b B,jc H b B->jc Z b B):c_ P w Z O a o:=by
 induction o with
 |lst B=>obtain⟨z,its,n,r,e⟩:=x;exact⟨z,its,n,r,k _ _ (.inl rfl) e⟩
 |tup B=>obtain⟨⟨z,nd⟩,its,r,ob,e,c⟩:=x;exact⟨⟨z,λo q=>by rw[k _ _ (.inl rfl) e]at q;cases q;exact nd _ e⟩,its,r,ob,k _ _ (.inl rfl) e,c⟩
 |dK kvs=>obtain⟨z,y,vs,r,ob,Y,ep,e,c⟩:=x;exact⟨z,y,vs,r,ob,Y,ep,k _ _ (.inl rfl) e,c⟩
 |dT kvs=>
  obtain⟨z,y,B,r,ob,Y,ep,e,c⟩:=x;exact⟨z,y,B,Paired.Ii r λp q z=>⟨z.1,i _ _ z.2.1,z.2.2⟩,ob,Y,ep,k _ _ (.inl rfl) e,c⟩
 |set S n=>obtain⟨ob,Y,ep,t,e,c⟩:=x;exact⟨ob,Y,ep,t,k _ _ (.inl rfl) e,c⟩
 |ins C dx fs=>
  obtain⟨d,z,ne,e,mA,⟨od,Y,ep,e2,c⟩,r⟩:=x;exact⟨g _ d,z,ne,k _ _ (.inl rfl) e,mA,⟨od,Y,ep,k _ _ (.inr d) e2,c⟩,r⟩
 |own y=>obtain⟨ob,e⟩:=x;exact⟨ob,k _ _ (.inl rfl) e⟩
 |xd fs=>obtain⟨mA,⟨od,Y,ep,e,c⟩,r⟩:=x;exact⟨mA,⟨od,Y,ep,k _ _ (.inl rfl) e,c⟩,r⟩
 |Fx lo hi=>obtain⟨t,u,v,e⟩:=x;exact⟨t,u,v,k _ _ (.inl rfl) e⟩
 |iy ob u ih=>obtain⟨e,q⟩:=x;exact⟨k _ _ (.inl rfl) e,ih q⟩
 |AX ps=>
  have e:h.get? a=some {cls:=.none,data:=.fields ps}:=x;show O.get? a=some {cls:=.none,data:=.fields ps};exact k a _ (.inl rfl) e
 |met f y=>
  have e:h.get? a=some (PySem.W.methodObj (.ref f) (.ref y)):=x;show O.get? a=some (PySem.W.methodObj (.ref f) (.ref y));exact k a _ (.inl rfl) e
 |ext φ=>obtain⟨p,⟨o,e⟩,st⟩:=x;exact⟨st _ _ p λo q=>k _ _ (.inl rfl) q,⟨o,k _ _ (.inl rfl) e⟩,st⟩
theorem dm.lt(x:dm P w H h)(e:H a=some o):a<h.objs.size:=(x a o e).lt
theorem dm.fresh(x:dm P w H h)(e:h.objs.size<=a):H a=none:=by
 cases q:H a with
 |none=>rfl
 |some u=>exact absurd (uQ (x.lt q) e) (Qau _)
theorem dm.kept(x:dm P w H h)(k:∀b u,h.get? b=some u->O.get? b=some u):dm P w H O:=λa o e=>
 (x a o e).stay (λb u _ q=>k b u q) (λ_ q=>q) λ_ _ q=>q
theorem dm.laid(x:dm P w H h)(k:∀b u,h.get? b=some u->O.get? b=some u)(g:h.objs.size<=a)(d:c_ P w (upd H a o) O a o):dm P w (upd H a o) O:=λb u e=>by
 have f:=x.fresh g;by_cases hb:b=a
 ·subst hb;rw[aB]at e;cases e;exact d
 ·rw[aS hb]at e;exact(x b u e).stay (λc v _ q=>k c v q) (λc q=>by rw[aS (aY q f)];exact q) λc j q=>q.upd λu i=>aY i f
def Rd(H:Hp)(a:Addr)(u:HO):Prop:=H a=some u\/∃o,H a=some (.iy o u)
theorem Rd.ok{u:HO}(r:Rd H a u)(x:dm P w H h):c_ P w H h a u:=by
 rcases r with r|⟨o,r⟩
 ·exact x a u r
 ·obtain⟨_,q⟩:=x a _ r;exact q
def CJ:Option HO->Prop
 |some (.lst _)=>True
 |some (.dK _)=>True
 |some (.dT _)=>True
 |some (.set _ _)=>True
 |some (.ins _ _ _)=>True
 |some (.ext _)=>True
 |_=>False
section
variable{x e:Addr}{o':HO}
theorem dm.write(ok:dm P w H h)(a:CJ (H x))(g:e=x\/H e=some (.own x))(k:∀b u,b≠e->h.get? b=some u->O.get? b=some u)(l:∃u,O.get? e=some u)
  (d:c_ P w (upd H x o') O x o'):dm P w (upd H x o') O:=λb u q=>by
 have i:∀c y,H c=some (.own y)->c≠x:=λc y r z=>by subst z;rw[r]at a;exact a
 have m:∀c f,H c=some (.tup f)->c≠x:=λc f r z=>by subst z;rw[r]at a;exact a
 by_cases hb:b=x
 ·subst hb;rw[aB]at q;cases q;exact d
 ·rw[aS hb]at q;by_cases BC:b=e
  ·have j:H b=some (.own x):=by
    rcases g with z|z
    ·exact absurd (BC.trans z) hb
    ·rw[BC];exact z
   rw[q]at j;cases j;obtain⟨v,hv⟩:=l;exact⟨v,by rw[BC];exact hv⟩
  ·refine(ok b u q).stay (λc v hc r=>k c v ?_ r) (λc r=>by rw[aS (i c b r)];exact r) λc f r=>r.upd λ_ _ z=>by
    subst z;rcases r with r|⟨_,r⟩<;>(rw[r]at a;exact a)
   rcases hc with rfl|hc
   ·exact BC
   ·rintro rfl;rcases g with z|z
    ·exact i c b hc z
    ·rw[hc]at z;cases z;exact hb rfl
end
structure Un(fs ex:Qba)(H Z:Hp)(h O:Heap):Prop where
 keep:∀b o,h.get? b=some o->H b=none->b∉fs->b∉ex->O.get? b=some o
 slot:∀b o,h.get? b=some o->H b=none->b∈fs->b∉ex->∃sl,O.get? b=some {o with slots:=sl}
 free:∀b o,h.get? b=some o->H b=none->b∉ex->Z b=none
 there:∀b o,h.get? b=some o->b∉ex->∃o',O.get? b=some o'
 tups:∀b B,H b=some (.tup B)->Z b=some (.tup B)
 mh:∀b o u,H b=some (.iy o u)->Z b=some (.iy o u)
 o_:∀b ps,H b=some (.AX ps)->∃more,Z b=some (.AX (ps++more))
section
variable{fs QY ex ex':Qba}{H1 H2:Hp}{h1 h2:Heap}{x e:Addr}
theorem Un.any(u:Un fs ex H H1 h h1){ob:Obj}(q:h.get? b=some ob)(n:H b=none)(a:b∉ex):∃c,h1.get? b=some {ob with slots:=c}:=by
 by_cases hb:b∈fs
 ·exact u.slot b ob q n hb a
 ·exact⟨ob.slots,u.keep b ob q n hb a⟩
theorem Un.trans(a:Un fs ex H H1 h h1)(b:Un fs ex H1 H2 h1 h2):Un fs ex H H2 h h2 where
 keep:=λc ob q n hc hx=>b.keep c ob (a.keep c ob q n hc hx) (a.free c ob q n hx) hc hx
 slot:=λc ob q n hc hx=>by
  obtain⟨sl,e1⟩:=a.slot c ob q n hc hx;obtain⟨BD,e2⟩:=b.slot c _ e1 (a.free c ob q n hx) hc hx;exact⟨BD,e2⟩
 free:=λc ob q n hx=>by
  obtain⟨o',e1⟩:=a.there c ob q hx;exact b.free c o' e1 (a.free c ob q n hx) hx
 there:=λc ob q hx=>by
  obtain⟨o',e1⟩:=a.there c ob q hx;exact b.there c o' e1 hx
 tups:=λc B q=>b.tups c B (a.tups c B q)
 mh:=λc ob B q=>b.mh c ob B (a.mh c ob B q)
 o_:=λc ps q=>by
  obtain⟨m1,e1⟩:=a.o_ c ps q;obtain⟨m2,e2⟩:=b.o_ c _ e1;exact⟨m1++m2,by rw[e2,Array.append_assoc]⟩
theorem Un.kept(k:∀b u,h.get? b=some u->O.get? b=some u):Un fs ex H H h O:=
 ⟨λb a q _ _ _=>k b a q,λb a q _ _ _=>⟨a.slots,k b a q⟩,λ_ _ _ n _=>n,λb a q _=>⟨a,k b a q⟩,λ_ _ q=>q,λ_ _ _ q=>q,λ_ c q=>⟨#[],by rw[q];simp⟩⟩
theorem Un.refl:Un fs ex H H h h:=Un.kept λ_ _ q=>q
theorem Un.laid(k:∀b u,h.get? b=some u->O.get? b=some u)(hp:h.objs.size<=a)(hn:H a=none):Un fs ex H (upd H a o) h O where
 keep:=λb u q _ _ _=>k b u q
 slot:=λb u q _ _ _=>⟨u.slots,k b u q⟩
 free:=λb u q n _=>by rw[aS (VD (uQ (Qz q) hp))];exact n
 there:=λb u q _=>⟨u,k b u q⟩
 tups:=λb B q=>by rw[aS (aY q hn)];exact q
 mh:=λb u B q=>by rw[aS (aY q hn)];exact q
 o_:=λb ps q=>⟨#[],by rw[aS (aY q hn),q];simp⟩
theorem Un.write(a:CJ (H x))(g:e=x\/H e=some (.own x))(k:∀b u,b≠e->h.get? b=some u->O.get? b=some u)(i:∃u,O.get? e=some u):Un fs ex H (upd H x o) h O:=by
 have d:∀b,H b=none->b≠x:=λb n z=>by subst z;rw[n]at a;exact a
 have f:∀b,H b=none->b≠e:=λb n z=>by
  subst z;rcases g with r|r
  ·exact d b n r
  ·rw[n]at r;cases r
 have c:∀b u,H b=some u->¬CJ (some u)->b≠x:=λb u q j z=>by subst z;rw[q]at a;exact j a
 refine⟨λb u q n _ _=>k b u (f b n) q,λb u q n _ _=>⟨u.slots,k b u (f b n) q⟩,λb u q n _=>by rw[aS (d b n)];exact n,λb u q _=>?_,
  λb l q=>by rw[aS (c b _ q λz=>z)];exact q,λb u l q=>by rw[aS (c b _ q λz=>z)];exact q,λb m q=>⟨#[],by rw[aS (c b _ q λz=>z),q];simp⟩⟩
 by_cases BC:b=e
 ·subst BC;exact i
 ·exact⟨u,k b u BC q⟩
end
def CK(h:Heap)(H:Hp):Qba:=(List.range h.objs.size).filter λa=>(H a).isSome
def Ae(h:Heap)(H:Hp):Heap:=PySem.W.hideAll h (CK h H)
theorem zW(h:Heap)(H:Hp):(Ae h H).objs.size=h.objs.size:=PySem.W.hideAll_size _ _
theorem zZ{o:Obj}(e:h.get? b=some o)(n:H b=none):(Ae h H).get? b=some o:=
 PySem.W.hideAll_get _ e λa=>by
  have q:(H b).isSome=true:=(List.mem_filter.mp a).2;rw[n]at q;simp at q
theorem Q0{o:Obj}(e:(Ae h H).get? b=some o):h.get? b=some o/\H b=none:=by
 have a:h.get? b=some o:=PySem.W.of_hideAll (CK h H) e;refine⟨a,?_⟩;cases q:H b with
 |none=>rfl
 |some x=>
  have c:b∈CK h H:=List.mem_filter.mpr ⟨QaG.mpr (Qz a),by simp[q]⟩;have z:(Ae h H).get? b=none:=PySem.W.hideAll_none (CK h H) c;rw[z]at e;cases e
structure Mod(K:QZ)(mg:Str->Qbb)(base:Heap):Prop where
 CL:K.In base
 glob:base.Ns mainGlobals mg
 blt:∃mb,base.Ns builtinsNs mb/\∀x:Str,x≠"__name__"->mb x=bootBuiltins x
 nolimit:base.NoLimit
abbrev Qbl(X:Cx)(e:Expr)(a:List Expr):Prop:=starEach (e::a) X.env=(false,eval e X.env)::starEach a X.env
abbrev Qbm(X:Cx)(p:Pos)(a:List Expr):Prop:=(backTo p (starEach a X.env)).any (·.1)=false
abbrev Qbn(X:Cx)(x:Str):Prop:=X.fn x=true\/X.env.scope.names.lookup x=some .local
abbrev Qbo(x:Str):Prop:=(x==("__debug__":Str))=false
end L2
variable{X:L2.Cx}
namespace L2
open PySem PySem.Spec PyProof.Rows
def CM(a:Scope)(x:Str):Prop:=a.names.lookup x=some .local\/a.names.lookup x=some .cell\/a.names.lookup x=some .free
def Loc(a:Scope)(x:Str):Prop:=a.names.lookup x=some .local\/a.names.lookup x=some .cell
def Look(env:Env)(h:Heap)(m:Str->Qbb)(x:Str)(u:Value):Prop:=
 (env.kindOf x=some .local/\m x=some u)\/((env.kindOf x=some .cell\/env.kindOf x=some .free)/\∃c,env.cells.lookup x=some c/\h.IsCell c (some u))
structure Cx.Ok(X:Cx):Prop where
 mod:Mod X.K X.mg X.base
 kind:X.env.scope.kind=.function
 glob:X.env.globals=mainGlobals
 blt:X.env.builtins=builtinsNs
 above:X.s₀.heap.objs.size<=X.env.locals
 inj:∀x y c,X.env.cells.lookup x=some c->X.env.cells.lookup y=some c->x=y
 has:∀x,(X.env.kindOf x=some .cell\/X.env.kindOf x=some .free)->∃c,X.env.cells.lookup x=some c
 BE:∀x c,X.fn x=true->X.env.cells.lookup x=some c->X.s₀.heap.objs.size<=c
 hd:X.calm=true->X.A.handled=none
 frames:X.A.frames=some X.stack
 CN:X.stack=X.outer\/(X.stack=X.env::X.outer/\X.env.frame=some X.env.locals)
 Fy:∀b∈X.ex,b≠X.env.locals/\∀x c,X.env.cells.lookup x=some c->c≠b
 bs:∀b o,X.base.get? b=some o->X.s₀.heap.get? b=some o/\X.H₀ b=none
 xo:X.base.objs.size<=X.s₀.heap.objs.size
 BF:∀b o,X.base.get? b=some o->b∉X.ex
 CO:∀b∈X.ex,b∉X.fs
 se:X.s₀.heap.FunFrames X.base X.outer
 Af:∀b∈X.fs,X.H₀ b=none
structure Inv(X:Cx)(U:List (Addr×Obj))(σ:List Qbj)(H:Hp)(s:Shared):Prop where
 ok:X.Ok
 os:s.os=X.s₀.os
 bare:AllBare s.gens
 base:Un X.fs X.ex X.H₀ H X.s₀.heap s.heap
 loc:∃m,s.heap.Ns X.env.locals m/\∀(i:Nat)(x:Str)(v:V),X.N[i]? =some x->σ[i]? =some (some v)->CM X.env.scope x->∃u,RelV v u/\Look X.env s.heap m x u
 cell:∀x c,X.env.cells.lookup x=some c->∃v,s.heap.IsCell c v
 free:H X.env.locals=none
 qp:∀x c,X.env.cells.lookup x=some c->H c=none
 pin:∀p∈X.pn++U,s.heap.get? p.1=some p.2/\H p.1=none/\p.1≠X.env.locals/\p.1∉X.fs/\∀v,p.2.data≠.cell v
 hok:dm X.prog X.w H s.heap
 len:σ.length=X.N.length
section
variable{σ:List Qbj}
theorem Cx.Ok.Q2(ok:X.Ok){o:Obj}(e:X.base.get? b=some o):b∉X.fs:=λa=>by
 have:=(ok.se.mem a).1;rw[e]at this;cases this
theorem Inv.bs(I:Inv X U σ H s):∀b o,X.base.get? b=some o->s.heap.get? b=some o/\H b=none:=λb o e=>
 ⟨I.base.keep b o (I.ok.bs b o e).1 (I.ok.bs b o e).2 (I.ok.Q2 e) (I.ok.BF b o e),I.base.free b o (I.ok.bs b o e).1 (I.ok.bs b o e).2 (I.ok.BF b o e)⟩
theorem Inv.bk(I:Inv X U σ H s):∀b o,X.base.get? b=some o->s.heap.get? b=some o:=λb o e=>(I.bs b o e).1
theorem Inv.mod(I:Inv X U σ H s):Mod X.K X.mg X.base:=I.ok.mod
theorem Inv.fi(I:Inv X U σ H s):X.K.In s.heap:=I.ok.mod.CL.keeps I.bk
theorem Inv.lt(I:Inv X U σ H s):X.env.locals<s.heap.objs.size:=let ⟨_,hn,_⟩:=I.loc;hn.lt
theorem Inv.sz(I:Inv X U σ H s):X.s₀.heap.objs.size<=s.heap.objs.size:=Qaa I.ok.above (Nat.le_of_lt I.lt)
theorem Inv.Q3(I:Inv X U σ H s)(h:s.heap.objs.size<=a):a∉X.fs:=λb=>by
 obtain⟨_,o,ho,_⟩:=I.ok.se.mem b;exact absurd (uQ (Qz ho) (Qaa I.sz h)) (Qau _)
theorem Inv.Ag(I:Inv X U σ H s):∀x c,X.env.cells.lookup x=some c->c≠X.env.locals:=λx c e z=>by
 obtain⟨v,o,ho,hd⟩:=I.cell x c e;obtain⟨m,⟨o',Y,ep,xq,Q4,_⟩,_⟩:=I.loc;rw[z,xq]at ho;cases ho;rw[Q4]at hd;cases hd
theorem Inv.se(I:Inv X U σ H s):s.heap.FunFrames X.base X.outer:=by
 have all:∀(l:List Env),(∀b∈g_ l,b∈X.fs)->X.s₀.heap.FunFrames X.base l->s.heap.FunFrames X.base l:=by
  intro l
  induction l with
  |nil=>intro _ _;trivial
  |cons env r ih=>
   intro d f;obtain⟨hk,⟨L,o,hf,hn,ho,hd⟩,hr⟩:=f;have a:L∈X.fs:=d L (by unfold g_;rw[QaL,hf];exact jP);obtain⟨sl,e⟩:=I.base.slot L o ho (I.ok.Af L a) a λz=>I.ok.CO L z a;exact⟨hk,⟨L,_,hf,hn,e,hd⟩,ih (λb c=>d b (by unfold g_;rw[QaL,hf];exact Qh _ c)) hr⟩
 exact all X.outer (λ_ c=>c) I.ok.se
theorem Inv.stack(I:Inv X U σ H s):s.heap.FunFrames X.base X.stack:=by
 rcases I.ok.CN with e|⟨e,a⟩
 ·rw[e];exact I.se
 ·rw[e];obtain⟨m,hn,_⟩:=I.loc;refine .cons (by rw[I.ok.kind];decide) a hn ?_ I.se;exact QaO (Qaa I.ok.xo I.ok.above)
theorem Inv.DS(I:Inv X U σ H s):∀b∈g_ X.stack,b∈X.env.locals::X.fs:=λb a=>by
 rcases I.ok.CN with e|⟨e,c⟩
 ·rw[e]at a;exact Qh _ a
 ·rw[e]at a;unfold g_ at a;rw[QaL,c]at a;exact a
theorem Inv.DT(I:Inv X U σ H s):∀b∈g_ X.stack,H b=none:=λb hb=>by
 rcases Qp.mp (I.DS b hb)with e|hb
 ·rw[e];exact I.free
 ·obtain⟨_,o,ho,_⟩:=I.ok.se.mem hb;exact I.base.free b o ho (I.ok.Af b hb) λz=>I.ok.CO b z hb
theorem Inv.step{g':Array GenState}{d':Drawn}(I:Inv X U σ H s)
  (t:∀b∈ch,(b∈X.ex\/X.s₀.heap.objs.size<=b)/\b≠X.env.locals/\(∀x c,X.env.cells.lookup x=some c->c≠b)/\∀p∈X.pn++U,p.1≠b)
  (keep:∀b o,b≠X.env.locals->b∉X.fs->b∉ch->s.heap.get? b=some o->H b=none->O.get? b=some o)
  (slot:∀b o,b≠X.env.locals->b∈X.fs->b∉ch->s.heap.get? b=some o->H b=none->∃D,O.get? b=some {o with slots:=D}) (free:∀b o,b∉ch->s.heap.get? b=some o->H b=none->Z b=none)
  (there:∀b o,b∉ch->s.heap.get? b=some o->∃o',O.get? b=some o')
  (tups:∀b B,H b=some (.tup B)->Z b=some (.tup B)) (mh:∀b o u,H b=some (.iy o u)->Z b=some (.iy o u)) (o_:∀b ps,H b=some (.AX ps)->∃more,Z b=some (.AX (ps++more)))
  (L:∀m,s.heap.Ns X.env.locals m->O.Ns X.env.locals m) (hok:dm X.prog X.w Z O) (N:AllBare g'):
  Inv X U σ Z {s with heap:=O,gens:=g',drawn:=d',toks:=t'}:=by
 have G:∀b o,X.s₀.heap.get? b=some o->b≠X.env.locals:=λb o e=>VD (uQ (Qz e) I.ok.above);have C:∀b o,X.s₀.heap.get? b=some o->b∉X.ex->b∉ch:=λb o e a h=>by
  rcases(t b h).1 with z|z
  ·exact a z
  ·exact absurd (uQ (Qz e) z) (Qau _)
 have f:∀x c,X.env.cells.lookup x=some c->∀v,s.heap.IsCell c v->O.IsCell c v:=λx c e v ⟨o,j,E⟩=>by
  have y:c∉ch:=λz=>(t c z).2.2.1 x c e rfl;by_cases hc:c∈X.fs
  ·obtain⟨D,q⟩:=slot c o (I.Ag x c e) hc y j (I.qp x c e);exact⟨_,q,E⟩
  ·exact⟨o,keep c o (I.Ag x c e) hc y j (I.qp x c e),E⟩
 refine⟨I.ok,I.os,N,⟨λb o e n h a=>?_,λb o e n h a=>?_,λb o e n a=>?_,λb o e a=>?_,λb B e=>tups b B (I.base.tups b B e),λb o B e=>mh b o B (I.base.mh b o B e),λb ps e=>?_⟩,?_,λx c e=>?_,?_,λx c e=>?_,λp K=>?_,hok,I.len⟩
 ·exact keep b o (G b o e) h (C b o e a) (I.base.keep b o e n h a) (I.base.free b o e n a)
 ·obtain⟨D,g⟩:=I.base.slot b o e n h a;obtain⟨BD,A⟩:=slot b _ (G b o e) h (C b o e a) g (I.base.free b o e n a);exact⟨BD,A⟩
 ·obtain⟨o',g⟩:=I.base.there b o e a;exact free b o' (C b o e a) g (I.base.free b o e n a)
 ·obtain⟨o',g⟩:=I.base.there b o e a;exact there b o' (C b o e a) g
 ·obtain⟨m1,g⟩:=I.base.o_ b ps e;obtain⟨m2,A⟩:=o_ b _ g;exact⟨m1++m2,by rw[A,Array.append_assoc]⟩
 ·obtain⟨m,hn,hl⟩:=I.loc;refine⟨m,L m hn,λi x v g A P=>?_⟩;obtain⟨u,r,l⟩:=hl i x v g A P;refine⟨u,r,?_⟩;rcases l with l|⟨k,c,e,z⟩
  ·exact .inl l
  ·exact .inr ⟨k,c,e,f x c e _ z⟩
 ·obtain⟨v,z⟩:=I.cell x c e;exact⟨v,f x c e v z⟩
 ·obtain⟨m,⟨o,_,_,j,_⟩,_⟩:=I.loc;exact free _ o (λz=>(t _ z).2.1 rfl) j I.free
 ·obtain⟨v,o,j,E⟩:=I.cell x c e;exact free c o (λz=>(t c z).2.2.1 x c e rfl) j (I.qp x c e)
 ·obtain⟨e,n,ne,nf,d⟩:=I.pin p K;have y:p.1∉ch:=λz=>(t p.1 z).2.2.2 p K rfl;exact⟨keep p.1 p.2 ne nf y e n,free p.1 p.2 y e n,ne,nf,d⟩
theorem Inv.un(I:Inv X U σ H s)(u:Un X.fs [] H Z s.heap O)(hok:dm X.prog X.w Z O):Inv X U σ Z {s with heap:=O,toks:=t'}:=by
 obtain⟨m,⟨o,Y,ep,ho,r⟩,_⟩:=id I.loc;obtain⟨sl,hL⟩:=u.any ho I.free (by simp);exact I.step (g':=s.gens) (d':=s.drawn) (ch:=[]) (λ_ z=>nomatch z) (λb o _ a _ e n=>u.keep b o e n a (by simp)) (λb o _ a _ e n=>u.slot b o e n a (by simp)) (λb o _ e n=>u.free b o e n (by simp)) (λb o _ e=>u.there b o e (by simp)) u.tups u.mh u.o_ (λd c=>by
  obtain⟨o',Ij,Ik,xq,r'⟩:=c;rw[ho]at xq;cases xq;exact⟨_,Ij,Ik,hL,r'⟩) hok I.bare
theorem Inv.call{g':Array GenState}{t':Nat}{d':Drawn}{ch:Qba}(I:Inv X U σ H s)(u:Un (g_ X.stack) ch H Z s.heap O)(hok:dm X.prog X.w Z O)(g:AllBare g')
  (f:∀b∈ch,(b∈X.ex\/X.s₀.heap.objs.size<=b)/\b≠X.env.locals/\(∀x c,X.env.cells.lookup x=some c->c≠b)/\∀p∈X.pn++U,p.1≠b):
  Inv X U σ Z {s with heap:=O,gens:=g',drawn:=d',toks:=t'}:=by
 obtain⟨m,⟨o,Y,ep,ho,r⟩,_⟩:=id I.loc;obtain⟨sl,d⟩:=u.any ho I.free λz=>(f _ z).2.1 rfl;exact I.step (ch:=ch) f (λb o d h a e n=>u.keep b o e n (λz=>(Qp.mp (I.DS b z)).elim d h) a) (λb o _ _ a e n=>u.any e n a) (λb o a e n=>u.free b o e n a) (λb o a e=>u.there b o e a) u.tups u.mh u.o_ (λj i=>by
  obtain⟨o',Ij,Ik,xq,r'⟩:=i;rw[ho]at xq;cases xq;exact⟨_,Ij,Ik,d,r'⟩) hok g
theorem Inv.turned{a:Addr}(I:Inv X U σ H s)(k:∀b o,b≠a->s.heap.get? b=some o->O.get? b=some o)(h:H a=none)(f:a≠X.env.locals)
  (h1:a∈X.ex\/X.s₀.heap.objs.size<=a) (h2:∀x c,X.env.cells.lookup x=some c->c≠a) (i:∀p∈X.pn++U,p.1≠a):Inv X U σ H {s with heap:=O,toks:=t'}:=by
 have g:∀b u,H b=some u->b≠a:=λb u e z=>by rw[z,h]at e;cases e
 refine I.step (g':=s.gens) (d':=s.drawn) (ch:=[a]) (λb j=>?_) (λb o _ _ d e _=>k b o (λz=>d (by simp[z])) e) (λb o _ _ d e _=>⟨o.slots,k b o (λz=>d (by simp[z])) e⟩) (λ_ _ _ _ n=>n)
  (λb o d e=>⟨o,k b o (λz=>d (by simp[z])) e⟩) (λ_ _ e=>e) (λ_ _ _ e=>e) (λb t e=>⟨#[],by rw[e];simp⟩) (λm l=>?_) (λb u e=>?_) I.bare
 ·have e:b=a:=by simpa using j
  subst e;exact⟨h1,f,h2,i⟩
 ·obtain⟨o,Y,ep,ho,r⟩:=l;exact⟨o,Y,ep,k _ o (Ne.symm f) ho,r⟩
 ·refine(I.hok b u e).stay (λc v d q=>k c v ?_ q) (λ_ q=>q) λ_ _ q=>q;rcases d with z|z
  ·rw[z];exact g b u e
  ·exact g c _ z
theorem Inv.tok(I:Inv X U σ H s)(t:Nat):Inv X U σ H {s with toks:=t}:=I.un (O:=s.heap) (t':=t) Un.refl I.hok
theorem Inv.kept{t':Nat}(I:Inv X U σ H s)(k:∀b u,s.heap.get? b=some u->O.get? b=some u):Inv X U σ H {s with heap:=O,toks:=t'}:=I.un (Un.kept k) (I.hok.kept k)
theorem Inv.laid{a:Addr}{o:HO}{t':Nat}(I:Inv X U σ H s)(k:∀b u,s.heap.get? b=some u->O.get? b=some u)(c:s.heap.objs.size<=a)(d:c_ X.prog X.w (upd H a o) O a o):
  Inv X U σ (upd H a o) {s with heap:=O,toks:=t'}:=I.un (Un.laid k c (I.hok.fresh c)) (I.hok.laid k c d)
theorem Inv.write{x e:Addr}{o:HO}{t':Nat}(I:Inv X U σ H s)(c:CJ (H x))(d:e=x\/H e=some (.own x))(k:∀b u,b≠e->s.heap.get? b=some u->O.get? b=some u)(f:∃u,O.get? e=some u)
  (a:c_ X.prog X.w (upd H x o) O x o):Inv X U σ (upd H x o) {s with heap:=O,toks:=t'}:=I.un (Un.write c d k f) (I.hok.write c d k f a)
theorem Inv.LB{a:List (Addr×Obj)}(I:Inv X U σ H s)(h:∀p∈a,s.heap.get? p.1=some p.2/\H p.1=none/\p.1≠X.env.locals/\p.1∉X.fs/\∀v,p.2.data≠.cell v):Inv X a σ H s:=
 ⟨I.ok,I.os,I.bare,I.base,I.loc,I.cell,I.free,I.qp,λp b=>(xD.mp b).elim (λz=>I.pin p (Qav _ z)) (h p),I.hok,I.len⟩
theorem pM(c:N.Nodup)(a:N[i]? =some x)(b:N[j]? =some x):i=j:=by
 obtain⟨h1,e1⟩:=kB.mp a;obtain⟨h2,e2⟩:=kB.mp b;exact(List.getElem_inj c).mp (e1.trans e2.symm)
theorem hZ{v:V}{Q:Unit->Shared->Prop}(I:Inv X U σ H s)(hN:X.N.Nodup)(K:X.N[i]? =some x)(t:Loc X.env.scope x)(r:RelV v u)
  (h:∀s',Inv X U (σ.set i (some v)) H s'->(∃a,Heap.SameBut a s.heap s'.heap/\(a=X.env.locals\/X.env.cells.lookup x=some a))->Q () s') (hf:Qbn X x:=by first|exact .inl rfl|exact .inr rfl|assumption):wpAny M A (storeName X.env x u) Q E s:=by
 obtain⟨m,hn,hl⟩:=id I.loc;have Q5:(X.env.scope.kind==.class||(X.env.scope.kind==.module&&X.env.locals !=X.env.globals))=false:=by rw[I.ok.kind];rfl
 have LD:i<σ.length:=by rw[I.len];exact(kB.mp K).1
 have Ag:=I.Ag;have g:∀{a:Addr}{G:Heap},(∃o,s.heap.get? a=some o/\H a=none)->Heap.SameBut a s.heap G->dm X.prog X.w H G:=fun{a G}ha f b ob e=>by
  obtain⟨_,_,LF⟩:=ha;refine(I.hok b ob e).stay (λc L hc q=>(f.2 c ?_).trans q) (λ_ q=>q) λ_ _ q=>q;rintro rfl;rcases hc with rfl|hc
  ·rw[LF]at e;cases e
  ·rw[LF]at hc;cases hc
 rcases t with hk|hk
 ·refine wpAny_storeName_local hk hn (λG R f=>?_) Q5;obtain⟨oL,_,_,DU,_⟩:=id hn;refine h _ ⟨I.ok,I.os,I.bare,⟨λb o e n D t=>?_,λb o e n D t=>?_,I.base.free,λb o e t=>?_,I.base.tups,I.base.mh,I.base.o_⟩,⟨_,R,λj y T l C e3=>?_⟩,λy c e=>?_,I.free,I.qp,λp hp=>?_,g ⟨oL,DU,I.free⟩ f,by simpa using I.len⟩ ⟨_,f,.inl rfl⟩
  ·exact(f.2 b (VD (uQ (Qz e) I.ok.above))).trans (I.base.keep b o e n D t)
  ·obtain⟨sl,l⟩:=I.base.slot b o e n D t;exact⟨sl,(f.2 b (VD (uQ (Qz e) I.ok.above))).trans l⟩
  ·obtain⟨o',l⟩:=I.base.there b o e t;exact⟨o',(f.2 b (VD (uQ (Qz e) I.ok.above))).trans l⟩
  ·by_cases hj:j=i
   ·subst hj;rw[K]at l;cases l;rw[QaY LD]at C;cases C;exact⟨u,r,.inl ⟨hk,by simp⟩⟩
   ·rw[List.getElem?_set_ne (Ne.symm hj)]at C;obtain⟨u',r',q⟩:=hl j y T l C e3;refine⟨u',r',?_⟩;rcases q with⟨k,e⟩|⟨k,c,e,z⟩
    ·refine .inl ⟨k,?_⟩;have:y≠x:=λe=>hj (pM hN l (e▸K));simp[this,e]
    ·exact .inr ⟨k,c,e,z.sameBut f (Ag y c e)⟩
  ·obtain⟨L,z⟩:=I.cell y c e;exact⟨L,z.sameBut f (Ag y c e)⟩
  ·obtain⟨e,n,ne,nf,d⟩:=I.pin p hp;exact⟨(f.2 p.1 ne).trans e,n,ne,nf,d⟩
 ·have DV:X.fn x=true:=by
   rcases hf with z|z
   ·exact z
   ·rw[z]at hk;cases hk
  obtain⟨c,hc⟩:=I.ok.has x (.inl hk);obtain⟨L,z⟩:=I.cell x c hc;refine wpAny_storeName_cell I.ok.kind hk hc z (λG vt f=>?_);obtain⟨oc,LG,Q6⟩:=id z;refine h {s with heap:=G} ⟨I.ok,I.os,I.bare,⟨λb o e n D t=>?_,λb o e n D t=>?_,I.base.free,λb o e t=>?_,I.base.tups,I.base.mh,I.base.o_⟩,⟨m,hn.sameBut f (Ne.symm (Ag x c hc)),λj y T l C e3=>?_⟩,λy P e=>?_,I.free,I.qp,λp hp=>?_,g ⟨oc,LG,I.qp x c hc⟩ f,by simpa using I.len⟩ ⟨c,f,.inr hc⟩
  ·exact(f.2 b (VD (uQ (Qz e) (I.ok.BE x c DV hc)))).trans (I.base.keep b o e n D t)
  ·obtain⟨sl,l⟩:=I.base.slot b o e n D t;exact⟨sl,(f.2 b (VD (uQ (Qz e) (I.ok.BE x c DV hc)))).trans l⟩
  ·obtain⟨o',l⟩:=I.base.there b o e t;exact⟨o',(f.2 b (VD (uQ (Qz e) (I.ok.BE x c DV hc)))).trans l⟩
  ·by_cases hj:j=i
   ·subst hj;rw[K]at l;cases l;rw[QaY LD]at C;cases C;exact⟨u,r,.inr ⟨.inl hk,c,hc,vt⟩⟩
   ·rw[List.getElem?_set_ne (Ne.symm hj)]at C;obtain⟨u',r',q⟩:=hl j y T l C e3;refine⟨u',r',?_⟩;rcases q with q|⟨k,P,e,z'⟩
    ·exact .inl q
    ·refine .inr ⟨k,P,e,z'.sameBut f ?_⟩;rintro rfl;exact hj (pM hN l (I.ok.inj _ _ _ e hc▸K))
  ·by_cases Il:P=c
   ·subst Il;exact⟨_,vt⟩
   ·obtain⟨w2,z2⟩:=I.cell y P e;exact⟨w2,z2.sameBut f Il⟩
  ·obtain⟨e,n,ne,nf,d⟩:=I.pin p hp;refine⟨(f.2 p.1 ?_).trans e,n,ne,nf,d⟩;intro q;rw[q,LG]at e;have q':oc=p.2:=QD e;exact d L (by rw[<- q'];exact Q6)
theorem oS{v:V}{Q:Unit->Shared->Prop}(I:Inv X U σ H s)(a:X.N.Nodup)(b:X.N[i]? =some x)(c:Loc X.env.scope x)(r:RelV v u)
  (h:∀s',Inv X U (σ.set i (some v)) H s'->Q () s') (d:Qbn X x:=by first|exact .inl rfl|exact .inr rfl|assumption):wpAny M A (storeName X.env x u) Q E s:=
 hZ I a b c r (λs' e _=>h s' e) d
theorem Inv.Im(I:Inv X U σ H s)(a:s'.os=s.os)(u:Un (g_ X.stack) ch H Z s.heap s'.heap)(hok:dm X.prog X.w Z s'.heap)(d:AllBare s'.gens)
  (f:∀b∈ch,(b∈X.ex\/X.s₀.heap.objs.size<=b)/\b≠X.env.locals/\(∀x c,X.env.cells.lookup x=some c->c≠b)/\∀p∈X.pn++U,p.1≠b):Inv X U σ Z s':=by
 obtain⟨O,g',d',t',o'⟩:=s';have e:o'=s.os:=a;subst e;exact I.call (g':=g') (t':=t') (d':=d') u hok d f
end
abbrev XK:=Value->Option Addr->Hp->Prop
abbrev St:=List Qbj
end L2
variable{σ:L2.St}
namespace L2
open PySem PySem.Spec PyProof.Rows
abbrev VK:=V->Hp->Prop
abbrev TE:=St->Hp->VK->Prop
end L2
variable{te to:L2.TE}
namespace L2
open PySem PySem.Spec PyProof.Rows
abbrev TT:=St->Hp->(Bool->Hp->Prop)->Prop
abbrev TA:=St->Hp->(Qbi->Hp->Prop)->Prop
end L2
variable{ta t:L2.TA}{tA:L2.TT}
namespace L2
open PySem PySem.Spec PyProof.Rows
structure Ends where
 nx:St->Hp->Prop
 rt:VK
 bk:St->Hp->Prop:=λ_ _=>False
 ct:St->Hp->Prop:=λ_ _=>False
abbrev TS:=Ends->St->Hp->Prop
def EP(X:Cx)(U:List (Addr×Obj))(σ:St)(Q:VK)(u:Value)(a:Shared):Prop:=∃v Z,Inv X U σ Z a/\RelV v u/\Q v Z
def TP(X:Cx)(U:List (Addr×Obj))(σ:St)(Q:Bool->Hp->Prop)(b:Bool)(a:Shared):Prop:=∃Z,Inv X U σ Z a/\Q b Z
def AP(X:Cx)(U:List (Addr×Obj))(σ:St)(Q:Qbi->Hp->Prop)(us:Qa9)(a:Shared):Prop:=∃vs Z,Inv X U σ Z a/\bu vs us/\Q vs Z
def SP(X:Cx)(U:List (Addr×Obj))(D:Ends)(f:Flow)(b:Shared):Prop:=
 match f with
 | .next=>∃a Z,Inv X U a Z b/\D.nx a Z
 | .brk=>∃a Z,Inv X U a Z b/\D.bk a Z
 | .cont=>∃a Z,Inv X U a Z b/\D.ct a Z
 | .ret u=>∃v a Z,Inv X U a Z b/\RelV v u/\D.rt v Z
def PE(X:Cx)(e:Expr)(t:TE):Prop:=
 ∀(U:List (Addr×Obj))(s:Shared)(σ:St)(H:Hp)(Q:VK),Inv X U σ H s->t σ H Q->wpAny (model X.prog X.w) X.A (eval e X.env) (EP X U σ Q) X.xe s
def PT(X:Cx)(e:Expr)(t:TT):Prop:=
 ∀(U:List (Addr×Obj))(s:Shared)(σ:St)(H:Hp)(Q:Bool->Hp->Prop),Inv X U σ H s->t σ H Q->wpAny (model X.prog X.w) X.A (isTrue e X.env (eval e X.env)) (TP X U σ Q) X.xe s
def PW(X:Cx)(e:Expr)(t:TT):Prop:=
 ∀(a:Sem Value)(U:List (Addr×Obj))(s:Shared)(σ:St)(H:Hp)(Q:Bool->Hp->Prop),Inv X U σ H s->t σ H Q->wpAny (model X.prog X.w) X.A (isTrue e X.env a) (TP X U σ Q) X.xe s
theorem PW.pt{t:TT}(h:PW X e t):PT X e t:=h _
def PA(X:Cx)(a:List Expr)(t:TA):Prop:=
 ∀(pos:Pos)(U:List (Addr×Obj))(s:Shared)(σ:St)(H:Hp)(Q:Qbi->Hp->Prop),Inv X U σ H s->t σ H Q->wpAny (model X.prog X.w) X.A (spliced (backTo pos (starEach a X.env))) (AP X U σ Q) X.xe s
def PS(X:Cx)(st:Stmt)(t:TS):Prop:=
 ∀(U:List (Addr×Obj))(s:Shared)(σ:St)(H:Hp)(D:Ends),Inv X U σ H s->t D σ H->wpAny (model X.prog X.w) X.A (exec st X.env) (SP X U D) X.xe s
def pe(X:Cx)(st:List Stmt)(t:TS):Prop:=
 ∀(U:List (Addr×Obj))(s:Shared)(σ:St)(H:Hp)(D:Ends),Inv X U σ H s->t D σ H->wpAny (model X.prog X.w) X.A (execs st X.env) (SP X U D) X.xe s
theorem bh{t:Sem α}{Q b:α->Shared->Prop}(h:wpAny M A t Q E s)(c:∀a s,Q a s->b a s):wpAny M A t b E s:=wpAny_mono h c λ_ _ x=>x
section
def Q7(i:Nat):TE:=λσ H Q=>∃v,σ[i]? =some (some v)/\Q v H
def tC(v:V):TE:=λ_ H Q=>Q v H
theorem Q8{d:Pos}(k:X.N[i]? =some x)(hv:CM X.env.scope x)(f:Qbo x:=by decide)(n:(x==("__classdict__":Str))=false:=by decide):PE X (.Name x d) (Q7 i):=by
 intro b s o H Q I h;obtain⟨v,e,h⟩:=h;obtain⟨m,hn,hl⟩:=I.loc;obtain⟨u,r,l⟩:=hl i x v k e hv;have a:EP X b o Q u s:=⟨v,H,I,r,h⟩
 rcases l with⟨hk,p⟩|⟨hk,c,g,j⟩
 ·exact wpAny_Name (wpAny_loadName_local I.ok.kind hk hn p a) f
 ·rcases hk with hk|hk
  ·exact wpAny_Name (wpAny_loadName_cell I.ok.kind hk g j a) f
  ·exact wpAny_Name (wpAny_loadName_free I.ok.kind hk g j a n) f
theorem Q9{i j pos}:PE X (.Constant (.int i) j pos) (tC (.int i)):=λ_ _ _ H _ I h=>wpAny_Constant_int ⟨.int i,H,I.tok _,⟨_,rfl⟩,h⟩
theorem Q_{b j pos}:PE X (.Constant (.bool b) j pos) (tC (.bl b)):=λ_ _ _ H _ I h=>Constant_bool ⟨.bl b,H,I,rfl,h⟩
theorem Ra{j pos}:PE X (.Constant .none j pos) (tC .ao):=λ_ _ _ H _ I h=>Constant_none ⟨.ao,H,I,rfl,h⟩
theorem Rb{x j pos}:PE X (.Constant (.str x) j pos) (tC (.str x)):=λ_ _ _ H _ I h=>Calls.Constant_str ⟨.str x,H,I.tok _,⟨_,rfl⟩,h⟩
def Gl(X:Cx)(x:Str):Prop:=X.env.kindOf x=some .globalImplicit
theorem gE{a:Pos}(I:Inv X U σ H s)(b:Gl X x)(c:X.mg x=some u)(h:Q u s)
  (d:Qbo x:=by decide):wpAny (model X.prog X.w) X.A (eval (.Name x a) X.env) Q E s:=
 Calls.Name_function_global I.ok.kind b (Calls.loadGlobal_global (by rw[I.ok.glob];exact I.mod.glob.keeps I.bk) c h) d
theorem iJ{a:Pos}(I:Inv X U σ H s)(b:Gl X x)(c:X.mg x=none)(hv:bootBuiltins x=some u)(h:Q u s)
  (d:x≠"__name__":=by decide) (e:Qbo x:=by decide):wpAny (model X.prog X.w) X.A (eval (.Name x a) X.env) Q E s:=by
 obtain⟨mb,h1,h2⟩:=I.mod.blt;exact Calls.Name_function_global I.ok.kind b (Calls.loadGlobal_builtin (by rw[I.ok.glob];exact I.mod.glob.keeps I.bk) c (by rw[I.ok.blt];exact h1.keeps I.bk) ((h2 x d).trans hv) h) e
theorem yL{v:V}{a:Pos}(b:Gl X x)(c:X.mg x=some u)(r:RelV v u)(d:Qbo x:=by decide):PE X (.Name x a) (tC v):=
 λ_ _ _ H _ I h=>gE I b c ⟨v,H,I,r,h⟩ d
theorem Rc{v:V}{a:Pos}(b:Gl X x)(c:X.mg x=none)(hv:bootBuiltins x=some u)(r:RelV v u)(d:x≠"__name__":=by decide)(e:Qbo x:=by decide):PE X (.Name x a) (tC v):=
 λ_ _ _ H _ I h=>iJ I b c hv ⟨v,H,I,r,h⟩ d e
variable{a b:Expr}{ta tb:TE}{pos:Pos}
def tB(t:TE):TT:=λσ H Q=>t σ H λx H1=>∃c,x=.bl c/\Q c H1
theorem Rf{t:TE}(h:PE X e t)(c:∀a,isTrue e X.env a=(do let v <- a;standAt e.pos;holding [v] (truthy v)):=by intro _;rfl):PT X e (tB t):=by
 intro b s f H Q I g;refine isTrue_plain (bh (h b s f H _ I g) ?_) (c _);rintro v m ⟨x,i,j,k,l⟩;obtain⟨d,rfl,q⟩:=l;cases k;exact wpAny_truthy_bool ⟨i,j,q⟩
variable{yw:TT}{rest:List Expr}
def LH(t u:TT):TT:=λσ H Q=>t σ H λc H1=>if c=true then u σ H1 Q else Q false H1
def LI(t u:TT):TT:=λσ H Q=>t σ H λc H1=>if c=true then Q true H1 else u σ H1 Q
def LJ(t:TT):TT:=λσ H Q=>t σ H λc H1=>Q (!c) H1
theorem Rg(d:PT X a tA):PW X (.BoolOp .And [a] pos) tA:=by
 intro g b s f H Q I h;refine isTrue_and (bh (d b s f H Q I h) λc i e=>?_);cases c with
 |true=>exact isTrue_and_nil e
 |false=>exact e
theorem Rh(d:PT X a tA):PW X (.BoolOp .Or [a] pos) tA:=by
 intro g b s f H Q I h;refine isTrue_or (bh (d b s f H Q I h) λc i e=>?_);cases c with
 |false=>exact isTrue_or_nil e
 |true=>exact e
theorem Ri(j:PT X a tA)(k:PW X (.BoolOp .And (b::rest) pos) yw):PW X (.BoolOp .And (a::b::rest) pos) (LH tA yw):=by
 intro l d s e H Q I h;refine isTrue_and (bh (j d s e H _ I h) ?_);rintro c m ⟨f,g,i⟩;cases c with
 |true=>exact k l d m e f Q g i
 |false=>exact⟨f,g,i⟩
theorem Rj(j:PT X a tA)(k:PW X (.BoolOp .Or (b::rest) pos) yw):PW X (.BoolOp .Or (a::b::rest) pos) (LI tA yw):=by
 intro l d s e H Q I h;refine isTrue_or (bh (j d s e H _ I h) ?_);rintro c m ⟨f,g,i⟩;cases c with
 |true=>exact⟨f,g,i⟩
 |false=>exact k l d m e f Q g i
theorem Rk(d:PT X a tA):PT X (.UnaryOp .Not a pos) (LJ tA):=by
 intro b s e H Q I h;exact isTrue_not (d b s e H (λc f=>Q (!c) f) I h)
def LK(t:TT)(a b:TE):TE:=λσ H Q=>t σ H λc H1=>if c=true then a σ H1 Q else b σ H1 Q
theorem Rl{c:Expr}(l:PT X c tA)(m:PE X a ta)(n:PE X b tb):PE X (.IfExp c a b pos) (LK tA ta tb):=by
 intro e s f H Q I h;refine wpAny_IfExp (bh (l e s f H _ I h) ?_);rintro d g ⟨i,j,k⟩;cases d with
 |true=>exact m e g f i Q j k
 |false=>exact n e g f i Q j k
end
def ak(K:QZ)(H:Hp)(a:Addr)(B:Qbi):Prop:=
 Rd H a (.lst B)\/
  ∃(o:Obj)(b:Array Value)(n:Nat),K.lookup a=some o/\o.cls=.type "list"/\o.dict=none/\o.data=.seq b n/\b.size<=sizeLine/\bu B b.toList
def ae(K:QZ)(H:Hp)(a:Addr)(B:Qbi):Prop:=
 Rd H a (.tup B)\/
  ∃(o:Obj)(b:Array Value)(n:Nat),K.lookup a=some o/\o.cls=.type "tuple"/\o.data=.seq b n/\b.size<=sizeLine/\bu B b.toList
theorem RelV.abs{x:V}(r:RelV x u):Ah u=some x:=by
 cases x with
 |ao=>cases r;rfl
 |bl _=>cases r;rfl
 |int _=>obtain⟨t,rfl⟩:=r;rfl
 |str _=>obtain⟨t,rfl⟩:=r;rfl
 |ow _=>obtain⟨t,rfl⟩:=r;rfl
 |BB _=>obtain⟨t,rfl⟩:=r;rfl
 |ref _=>cases r;rfl
 |ty _=>cases r;rfl
theorem RelV.inj{x y:V}(r:RelV x u)(q:RelV y u):x=y:=QD (r.abs.symm.trans q.abs)
theorem bu.inj:∀{B a:Qbi}{us:Qa9},bu B us->bu a us->B=a
 |_,_,_,.nil,.nil=>rfl
 |_,_,_,.cons r t,.cons r' t'=>by rw[r.inj r',bu.inj t t']
section
variable{B ys:Qbi}
theorem ak.of{K:QZ}(h:H a=some (.lst B)):ak K H a B:=.inl (.inl h)
theorem ae.of{K:QZ}(h:H a=some (.tup B)):ae K H a B:=.inl (.inl h)
theorem Inv.list(I:Inv X U σ H s)(h:ak X.K H a B):∃b:Qa9,bu B b/\PlainL s.heap a b.toArray/\B.length<=sizeLine:=by
 rcases h with h|⟨o,b,n,c,d,f,g,i,r⟩
 ·obtain⟨z,b,n,r,e⟩:=h.ok I.hok;exact⟨b,r,⟨_,n,e,rfl,rfl,rfl⟩,z⟩
 ·refine⟨b.toList,r,⟨o,n,I.fi a o c,d,f,by simpa using g⟩,?_⟩;have e:=r.length;simp only[Array.length_toList]at e
  lia
theorem Inv.tuple(I:Inv X U σ H s)(h:ae X.K H a B):∃b:Qa9,bu B b/\IsTup s.heap a b.toArray/\B.length<=sizeLine:=by
 rcases h with h|⟨o,b,n,c,d,f,g,r⟩
 ·obtain⟨⟨z,_⟩,b,r,p⟩:=h.ok I.hok;exact⟨b,r,p,z⟩
 ·refine⟨b.toList,r,⟨o,I.fi a o c,d,n,by simpa using f⟩,?_⟩;have e:=r.length;simp only[Array.length_toList]at e
  lia
theorem Inv.DW(I:Inv X U σ H s)(h:ak X.K H a B)(O:ak X.K H a ys):B=ys:=by
 obtain⟨its,r,⟨o,n,e,_,_,d⟩,_⟩:=I.list h;obtain⟨its',r',⟨o',n',e',_,_,d'⟩,_⟩:=I.list O;rw[e]at e';cases e';rw[d]at d';injection d' with d1 _;have:its=its':=by simpa using congrArg Array.toList d1
 subst this;exact r.inj r'
theorem Inv.Io(I:Inv X U σ H s)(h:ae X.K H a B)(O:ae X.K H a ys):B=ys:=by
 obtain⟨its,r,⟨o,e,_,n,d⟩,_⟩:=I.tuple h;obtain⟨its',r',⟨o',e',_,n',d'⟩,_⟩:=I.tuple O;rw[e]at e';cases e';rw[d]at d';injection d' with d1 _;have:its=its':=by simpa using congrArg Array.toList d1
 subst this;exact r.inj r'
end
abbrev Cx.yx(X:Cx)(E:Value->Shared->Prop):Cx:={X with xe:=E}
abbrev Cx.xu(X:Cx):Cx:=X.yx λ_ _=>False
theorem Cx.Ok.yx{X:Cx}(ok:X.Ok)(E:Value->Shared->Prop):(X.yx E).Ok:=
 ⟨ok.mod,ok.kind,ok.glob,ok.blt,ok.above,ok.inj,ok.has,ok.BE,ok.hd,ok.frames,ok.CN,ok.Fy,ok.bs,ok.xo,ok.BF,ok.CO,ok.se,ok.Af⟩
theorem Cx.Ok.A0(ok:(X.yx E).Ok):X.Ok:=
 ⟨ok.mod,ok.kind,ok.glob,ok.blt,ok.above,ok.inj,ok.has,ok.BE,ok.hd,ok.frames,ok.CN,ok.Fy,ok.bs,ok.xo,ok.BF,ok.CO,ok.se,ok.Af⟩
theorem Inv.yx(I:Inv X U σ H s)(E:Value->Shared->Prop):Inv (X.yx E) U σ H s:=⟨I.ok.yx E,I.os,I.bare,I.base,I.loc,I.cell,I.free,I.qp,I.pin,I.hok,I.len⟩
theorem Inv.A0(I:Inv (X.yx E) U σ H s):Inv X U σ H s:=⟨I.ok.A0,I.os,I.bare,I.base,I.loc,I.cell,I.free,I.qp,I.pin,I.hok,I.len⟩
theorem SP.A0{D:Ends}{f:Flow}{a:Shared}(h:SP (X.yx E) U D f a):SP X U D f a:=by
 cases f with
 |next=>obtain⟨σ',Z,I,q⟩:=h;exact⟨σ',Z,I.A0,q⟩
 |brk=>obtain⟨σ',Z,I,q⟩:=h;exact⟨σ',Z,I.A0,q⟩
 |cont=>obtain⟨σ',Z,I,q⟩:=h;exact⟨σ',Z,I.A0,q⟩
 |ret u=>obtain⟨v,σ',Z,I,r,q⟩:=h;exact⟨v,σ',Z,I.A0,r,q⟩
theorem pe.xu{st:List Stmt}{t:TS}(h:pe X.xu st t):pe X st t:=λa s b H D I c=>
 wpAny_mono (h a s b H D (I.yx _) c) (λ_ _ q=>q.A0) λ_ _ z=>False.elim z
section
variable{st:Stmt}{rest:List Stmt}{t u:TS}{pos:Pos}
def FD:TS:=λD σ H=>D.nx σ H
def vy(t u:TS):TS:=λD σ H=>t {D with nx:=u D} σ H
theorem Rm:pe X [] FD:=λ_ _ a H _ I h=>wpAny_execs_nil ⟨a,H,I,h⟩
theorem Rn(h1:PS X st t)(h2:pe X rest u):pe X (st::rest) (vy t u):=by
 intro a s b H D I h;refine wpAny_execs_cons (bh (h1 a s b H {D with nx:=u D} I h) λf c q=>?_);cases f with
 |next=>
  obtain⟨σ',Z,I',q⟩:=q;exact h2 a c σ' Z D I' q
 |ret v=>exact q
 |brk=>exact q
 |cont=>exact q
theorem Ro(h1:PS X st t):pe X [st] t:=by
 intro a s b H D I h;refine wpAny_execs_cons (bh (h1 a s b H D I h) λf c q=>?_);cases f with
 |next=>exact wpAny_execs_nil q
 |ret v=>exact q
 |brk=>exact q
 |cont=>exact q
theorem Inv.quiet(I:Inv X U σ H s):interactive X.env=false:=by simp[interactive,I.ok.kind]
def DX(te:TE):TS:=λD σ H=>te σ H λ_ H1=>D.nx σ H1
theorem Rp(c:PE X e te)(d:swapsWith e none pos.line X.env=pure false:=by rfl):PS X (.Expr e pos) (DX te):=by
 intro a s b H D I h;exact wpAny_Expr_any (bh (c a s b H _ I h) λv j ⟨x,f,g,k,i⟩=>⟨b,f,g,i⟩) I.quiet d
def Ip(te:TE):TS:=λD σ H=>te σ H D.rt
theorem Rq(c:PE X e te):PS X (.Return (some e) pos) (Ip te):=by
 intro a s b H D I h;exact wpAny_Return_some (bh (c a s b H _ I h) λv j ⟨x,d,f,g,i⟩=>⟨x,b,d,f,g,i⟩)
def Iq(c:TT)(t u:TS):TS:=λD σ H=>c σ H λb H1=>if b=true then t D σ H1 else u D σ H1
theorem Rr{c:Expr}{a b:List Stmt}{g:TT}(m:PT X c g)(n:pe X a t)(o:pe X b u):PS X (.If c a b pos) (Iq g t u):=by
 intro e s f H D I h;refine wpAny_If (bh (m e s f H _ I h) ?_);rintro d i ⟨j,k,l⟩;cases d with
 |true=>exact n e i f j D k l
 |false=>exact o e i f j D k l
end
abbrev TG:=V->St->Hp->(St->Hp->Prop)->Prop
abbrev xw:=Qbi->St->Hp->(St->Hp->Prop)->Prop
def PG(X:Cx)(a:Expr)(t:TG):Prop:=
 ∀(U:List (Addr×Obj))(s:Shared)(σ:St)(H:Hp)(v:V)(u:Value)(Q:St->Hp->Prop),Inv X U σ H s->RelV v u->t v σ H Q->
  wpAny (model X.prog X.w) X.A (assign a X.env u) (λ_ s'=>∃b Z,Inv X U b Z s'/\Q b Z) X.xe s
def CP(X:Cx)(ts:List Expr)(t:xw):Prop:=
 ∀(U:List (Addr×Obj))(s:Shared)(σ:St)(H:Hp)(vs:Qbi)(us:Qa9)(Q:St->Hp->Prop),Inv X U σ H s->bu vs us->t vs σ H Q->
  wpAny (model X.prog X.w) X.A (assignInOrder ((assignEach ts X.env).map (·.2)) us) (λ_ s'=>∃a Z,Inv X U a Z s'/\Q a Z) X.xe s
abbrev FE:=V->V->V->Hp->(Hp->Prop)->Prop
def Ir(X:Cx)(t:FE):Prop:=
 ∀(U:List (Addr×Obj))(s:Shared)(σ:St)(H:Hp)(o i v:V)(a b u:Value)(Q:Hp->Prop),Inv X U σ H s->RelV o a->RelV i b->RelV v u->t o i v H Q->
  wpAny (model X.prog X.w) X.A (setItem a b u) (λ_ s'=>∃Z,Inv X U σ Z s'/\Q Z) X.xe s
abbrev DY:=V->V->Hp->VK->Prop
def FF(X:Cx)(a:Operator)(t:DY):Prop:=
 ∀(U:List (Addr×Obj))(s:Shared)(σ:St)(H:Hp)(x y:V)(v u:Value)(Q:VK),Inv X U σ H s->RelV x v->RelV y u->t x y H Q->
  wpAny (model X.prog X.w) X.A (inplaceOp a v u) (EP X U σ Q) X.xe s
section
variable{pos:Pos}
def jk(i:Nat):TG:=λv σ H Q=>Q (σ.set i (some v)) H
theorem Rt(b:X.N.Nodup)(c:X.N[i]? =some x)(d:Loc X.env.scope x)(e:Qbn X x:=by first|exact .inl rfl|exact .inr rfl|assumption):PG X (.Name x pos) (jk i):=by
 intro a s g H v u Q I r h;exact wpAny_assign_Name (oS I b c d r (λj f=>⟨_,H,f,h⟩) e)
def FG:xw:=λvs σ H Q=>vs=[]/\Q σ H
def BG(t:TG)(u:xw):xw:=λvs σ H Q=>∃v r,vs=v::r/\t v σ H λa Z=>u r a Z Q
theorem Ru:CP X [] FG:=by
 intro a s b H c d Q I r h;obtain⟨e,h⟩:=h;subst e;cases r;exact assignInOrder_nil ⟨b,H,I,h⟩
theorem Rv{t:TG}{u:xw}(h1:PG X e t)(h2:CP X Y u)
  (c:(assignEach (e::Y) X.env).map (·.2)=assign e X.env::(assignEach Y X.env).map (·.2):=by rfl):CP X (e::Y) (BG t u):=by
 intro a s d H k l Q I r h;obtain⟨v,vr,e1,h⟩:=h;subst e1;cases r with
 |cons r rr=>
  rw[c];refine assignInOrder_cons (bh (h1 a s d H _ _ _ I r h) ?_);rintro _ f ⟨b,g,i,j⟩;exact h2 a f b g _ _ Q i rr j
def DZ(K:QZ)(n:Nat)(t:xw):TG:=λv σ H Q=>∃a B,v=.ref a/\ae K H a B/\B.length=n/\t B σ H Q
theorem Rw{k:Nat}{t:xw}(i:X.calm=true)(h:CP X Y t)
  (j:(assignEach Y X.env).length=n:=by rfl) (d:(assignEach Y X.env).findIdx? (·.1)=none:=by rfl):PG X (.Tuple Y k pos) (DZ X.K n t):=by
 intro c s g H v u Q I r f;obtain⟨a,B,e1,hq,hl,f⟩:=f;subst e1;cases r;obtain⟨its,rv,ht,hz⟩:=I.tuple hq;refine assign_Tuple_tuple (I.ok.hd i) ht (by simp[j,<- hl,rv.length]) d λl m=>?_;have p:Inv X c g H {s with heap:=l}:=I.kept (t':=s.toks) λb o e=>m b o (VD (Qz e)) e;exact h c _ g H B _ Q p (by simpa using rv) f
def LL(a b:TE)(t:FE):TG:=λv σ H Q=>a σ H λo H1=>b σ H1 λi H2=>t o i v H2 λc=>Q σ c
theorem Rx {o i:Expr} {e:TE} {t:FE} (f:PE X o to) (g:PE X i e) (j:Ir X t)
  (k:∀ v,assign (.Subscript o i pos) X.env v=(do
   let b <- holding [v] (eval o X.env)
   let c <- holding [v,b] (eval i X.env)
   standAt pos
   holding [v,b,c] (setItem b c v)
   release [v,b,c] []):=by intro _;rfl):PG X (.Subscript o i pos) (LL to e t):=by
 intro a s d H v u Q I r h
 rw [k]
 refine QS (wpAny_holding (bh (f a s d H _ I h) ?_))
 rintro b l ⟨x,m,n,p,q⟩
 refine QS (wpAny_holding (bh (g a l d m _ n q) ?_))
 rintro c w ⟨y,z,A,C,D⟩
 refine QS (wpAny_standAt (QS (wpAny_holding (bh (j a w d z x y v b c u _ A p C r D) ?_))))
 rintro _ L ⟨E,G,K⟩
 exact wpAny_release ⟨d,E,G,K⟩
def sf(te:TE)(g:TG):TS:=λD σ H=>te σ H λx H1=>g x σ H1 D.nx
theorem Ry{g:TG}(c:PE X e te)(d:PG X tg g)(f:swapsWithSole [tg] e pos.line X.env=pure false:=by rfl)(i:swappedStores [tg] e X.env=pure none:=by rfl)
  (h1:(assignEach [tg] X.env).map (·.2)=[assign tg X.env]:=by rfl):PS X (.Assign [tg] e pos) (sf te g):=by
 intro a s b H D I h;refine wpAny_Assign_stores (bh (c a s b H _ I h) ?_) f i;rintro v j ⟨x,k,l,m,n⟩;rw[h1];exact bh (d a j b k x v _ l m n) λ_ o q=>q
theorem Rz(b:X.N.Nodup)(c:X.N[i]? =some x)(d:Loc X.env.scope x)(f:PE X e te)(g:swapsWith e (some (.Name x pos')) pos.line X.env=pure false:=by rfl)(j:Qbn X x:=by first|exact .inl rfl|exact .inr rfl|assumption):
  PS X (.Assign [.Name x pos'] e pos) (sf te (jk i)):=by
 intro a s k H D I h;refine wpAny_Assign_Name (bh (f a s k H _ I h) ?_) g;rintro v q ⟨y,l,m,n,o⟩;exact oS m b c d n (λr p=>⟨_,l,p,o⟩) j
def LM(i:Nat)(te:TE)(a:DY):TS:=λD σ H=>∃x,σ[i]? =some (some x)/\te σ H λy H1=>a x y H1 λz H2=>D.nx (σ.set i (some z)) H2
theorem RA{f:Operator}{j:DY}(q:X.N.Nodup)(n:X.N[i]? =some x)(g:Loc X.env.scope x)(t:PE X e te)(C:FF X f j)(E:Qbn X x:=by first|exact .inl rfl|exact .inr rfl|assumption):
  PS X (.AugAssign (.Name x pos') f e pos) (LM i te j):=by
 intro a s o H D I h;obtain⟨v,e1,h⟩:=h;obtain⟨m,hn,hl⟩:=I.loc;have G:CM X.env.scope x:=by rcases g with k|k;exact .inl k;exact .inr (.inl k)
 obtain⟨u,r,l⟩:=hl i x v n e1 G;refine wpAny_AugAssign_Name ?_;have p:wpAny (model X.prog X.w) X.A (eval e X.env) (λw b=>wpAny (model X.prog X.w) X.A (inplaceOp f u w) (λr d=>wpAny (model X.prog X.w) X.A (storeName X.env x r) (λ_=>SP X a D .next) X.xe d) X.xe b) X.xe s:=by
  refine bh (t a s o H _ I h) ?_;rintro w K ⟨y,L,P,Q,R⟩;refine bh (C a K o L v y u w _ P r Q R) ?_;rintro z s2 ⟨zv,T,V,r2,q2⟩;exact oS V q n g r2 (λs3 I3=>⟨_,T,I3,q2⟩) E
 rcases l with⟨hk,hm⟩|⟨hk,c,hc,FA⟩
 ·exact wpAny_loadName_local I.ok.kind hk hn hm p
 ·rcases hk with hk|hk
  ·exact wpAny_loadName_cell I.ok.kind hk hc FA p
  ·rcases g with k|k
   ·have:X.env.scope.names.lookup x=some .free:=hk;rw[k]at this;cases this
   ·have:X.env.scope.names.lookup x=some .free:=hk;rw[k]at this;cases this
def RC(f:Int->Int->Int):DY:=λx y H Q=>∃i j,x=.int i/\y=.int j/\Q (.int (f i j)) H
theorem tZ:FF X .Add (RC λi j=>i+j):=by
 intro a s d H x y v u Q I b c h;obtain⟨i,j,e1,e2,q⟩:=h;subst e1;subst e2;obtain⟨t,rfl⟩:=b;obtain⟨t',rfl⟩:=c;exact iadd_int ⟨.int _,H,I.tok _,⟨_,rfl⟩,q⟩
def LN(c:TT)(d:TS):TS:=λD σ H=>∃W:Nat->St->Hp->Prop,(∃m,W m σ H)/\∀m σ H,W m σ H->
 c σ H λb H1=>if b=true then ∃N:St->Hp->Prop,(∀a Z,N a Z->∃m',m'<m/\W m' a Z)/\d {D with nx:=N,ct:=N,bk:=D.nx} σ H1 else D.nx σ H1
theorem RD{c:Expr}{j:TT}{k:TS}(l:PassesOwn (model X.prog X.w) X.A X.env X.xe)(r:PT X c j)(t:pe X body k):PS X (.While c body [] pos) (LN j k):=by
 intro a s u H D I h;obtain⟨W,⟨m0,w0⟩,turn⟩:=h;refine wpAny_While (codeAny_whileLoop (λn x=>∃e m,Inv X a e m x/\W n e m) ?_ m0 ⟨u,H,I,w0⟩);rintro n y ⟨d,o,z,C⟩;refine wpAny_passesOwn l (bh (r a y d o _ z (turn n d o C)) ?_);rintro b E ⟨p,q,g⟩;cases b with
 |true=>
  obtain⟨N,hN,g⟩:=g;rw[if_pos rfl];refine wpAny_passesOwn l (bh (t a E d p _ q g) λf G i=>?_);cases f with
  |next=>
   obtain⟨σ3,H3,I3,n3⟩:=i;obtain⟨m',hm,w3⟩:=hN σ3 H3 n3;exact⟨m',hm,σ3,H3,I3,w3⟩
  |cont=>
   obtain⟨σ3,H3,I3,n3⟩:=i;obtain⟨m',hm,w3⟩:=hN σ3 H3 n3;exact⟨m',hm,σ3,H3,I3,w3⟩
  |brk=>exact i
  |ret v=>exact i
 |false=>
  rw[if_neg V1];exact wpAny_execs_nil ⟨d,p,q,g⟩
end
structure It where
 go:Nat->Hp->Prop
 sj:Nat->Hp->V->Hp->Prop
 stop:Nat->Hp->Prop
def ph(X:Cx)(U:List (Addr×Obj))(H:Hp)(b:Addr):Prop:=
 H b=none/\b≠X.env.locals/\b∉X.fs/\(b∈X.ex\/X.s₀.heap.objs.size<=b)/\(∀x c,X.env.cells.lookup x=some c->c≠b)/\∀p∈X.pn++U,p.1≠b
theorem Inv.yy(I:Inv X U σ H s)(a:s.heap.objs.size<=b)(d:Z b=none):ph X U Z b:=by
 refine⟨d,QaC (uQ I.lt a),I.Q3 a,.inr (Qaa I.sz a),λx c e z=>?_,λp f z=>?_⟩
 ·obtain⟨v,q⟩:=I.cell x c e;exact absurd (uQ q.lt (by rw[z];exact a)) (Qau _)
 ·exact absurd (uQ (Qz (I.pin p f).1) (by rw[z];exact a)) (Qau _)
structure Turn(P:Program)(w:World)(K:QZ)(tg:Expr)(J:It)(fp:Qba)(it:Addr)(tn:Nat->Heap->Prop):Prop where
 mem:it∈fp
 obj:∀i h,tn i h->∀b∈fp,∃o,h.get? b=some o/\∀v,o.data≠.cell v
 keep:∀i h O,tn i h->(∀b∈fp,∀o,h.get? b=some o->O.get? b=some o)->tn i O
 item:∀(X:Cx),X.prog=P->X.w=w->X.K=K->X.calm=true->∀(i:Nat)(U:List (Addr×Obj))(s:Shared)(σ:St)(H:Hp)(E:Value->Shared->Prop),Inv X U σ H s->(∀b∈fp,ph X U H b)->tn i s.heap->J.go i H->
  wpAny (model P w) X.A (pyNext (.ref it)) (λr s1=>∃u,r=some u/\
   wpAny (model P w) X.A (letOwnedTupleGo tg (.ref it) u) (λ_ s2=>∃x Z,Inv X U σ Z s2/\RelV x u/\J.sj i H x Z/\tn (i+1) s2.heap/\∀b∈fp,Z b=none) E s1) E s
 done:∀(X:Cx),X.prog=P->X.w=w->X.K=K->X.calm=true->∀(i:Nat)(U:List (Addr×Obj))(s:Shared)(σ:St)(H:Hp)(E:Value->Shared->Prop),Inv X U σ H s->(∀b∈fp,ph X U H b)->tn i s.heap->J.stop i H->
  wpAny (model P w) X.A (pyNext (.ref it)) (λr s1=>r=none/\Inv X U σ H s1) E s
 self:∀(A:Around)(i:Nat)(s:Shared)(Q:Value->Shared->Prop)(E:Value->Shared->Prop),tn i s.heap->Q (.ref it) s->wpAny (model P w) A (pyIter (.ref it)) Q E s
abbrev TI:=St->Hp->(It->Hp->Prop)->Prop
def CQ(X:Cx)(U:List (Addr×Obj))(σ:St)(d:Expr)(R:It->Hp->Prop)(e:Value)(s2:Shared):Prop:=
 ∃(a:Addr)(fp:Qba)(c:Nat->Heap->Prop)(J:It)(Z:Hp),e=.ref a/\Inv X U σ Z s2/\Turn X.prog X.w X.K d J fp a c/\c 0 s2.heap/\(∀b∈fp,ph X U Z b)/\R J Z
def PI(X:Cx)(b a:Expr)(c:TI):Prop:=
 ∀(U:List (Addr×Obj))(s:Shared)(σ:St)(H:Hp)(R:It->Hp->Prop),Inv X U σ H s->c σ H R->
  wpAny (model X.prog X.w) X.A (eval a X.env) (λv d=>wpAny (model X.prog X.w) X.A (pyIter v) (CQ X U σ b R) X.xe d) X.xe s
theorem yC {M : Model} {A : Around} {E : Value -> Shared -> Prop} {s : Shared} {b : Expr} {c : Addr} {u : Value} {o : Obj} {n : String} {d : Array Value} {Q : Unit -> Shared -> Prop} (e : s.heap.get? c = some o) (f : o.cls = .type n) (g : o.data = .fields d)
    (i : ["enumerate", "zip", "dict_itemiterator", "dict_reverseitemiterator", "odict_iterator", "itertools.zip_longest", "itertools.pairwise"].contains n = false) (a : Q () s) : wpAny M A (letOwnedTupleGo b (.ref c) u) Q E s := by
  unfold letOwnedTupleGo
  cases b <;> first
    | exact QT a
    | (cases u <;> first
        | exact QT a
        | (refine QS (wpAny_load e ?_)
           rw [f, g]
           show wpAny M A (if (["enumerate", "zip", "dict_itemiterator", "dict_reverseitemiterator", "odict_iterator", "itertools.zip_longest", "itertools.pairwise"].contains n && d[0]? == some (rawInt _)) = true then _ else _) Q E s
           rw [if_neg (by intro h; rw [i, Bool.false_and] at h; cases h)]
           exact QT a))
def Iu(K:QZ)(a:Addr):It:=
 ⟨λi H=>∃B x,ak K H a B/\B[i]? =some x,λi H x Z=>Z=H/\∀B,ak K H a B->B[i]? =some x,λi H=>∃B,ak K H a B/\B.length<=i⟩
def Iv(K:QZ)(a:Addr):It:=
 ⟨λi H=>∃B x,ae K H a B/\B[i]? =some x,λi H x Z=>Z=H/\∀B,ae K H a B->B[i]? =some x,λi H=>∃B,ae K H a B/\B.length<=i⟩
def FH(lo:Int)(n:Nat):It:=⟨λi _=>i<n,λi H x Z=>Z=H/\x=.int (lo+i),λi _=>n<=i⟩
theorem yS{K:QZ}(a g:Addr):Turn P w K tg (Iu K a) [g] g (λi h=>h.IsListIter g a i)where
 mem:=by simp
 obj:=λi h st b j=>by
  have e:b=g:=by simpa using j
  subst e;obtain⟨o,e,c,d⟩:=st;exact⟨o,e,λv z=>by rw[d]at z;cases z⟩
 keep:=λi h m st k=>st.at λo e=>k g (by simp) o e
 item:=by
  intro X q r t A i f s C H E I n st y;subst q r t;obtain⟨B,x,hq,hx⟩:=y;obtain⟨its,rv,p,hz⟩:=I.list hq;obtain⟨u,hu,ru⟩:=rv.get hx;obtain⟨f0,f1,f2,f3,f4,f5⟩:=n g (by simp);refine wpAny_pyNext_list_item st p.isList (x:=u) (by simpa using hu) λm l D=>?_;have G:Inv X f C H {s with heap:=m}:=I.turned (t':=s.toks) (λb o j e=>(D.2 b j).trans e) f0 f1 f3 f4 f5;obtain⟨o,e,c,d⟩:=id l;exact⟨u,rfl,yC (s:={s with heap:=m}) e c d (by decide) ⟨x,H,G,ru,⟨rfl,λQ L=>by rw[I.DW L hq];exact hx⟩,l,λb j=>(n b j).1⟩⟩
 done:=by
  intro X q r t A i f s C H E I n st y;subst q r t;obtain⟨B,hq,hx⟩:=y;obtain⟨its,rv,p,hz⟩:=I.list hq;obtain⟨f0,f1,f2,f3,f4,f5⟩:=n g (by simp);have R:=rv.length;exact wpAny_pyNext_list_end (I.ok.hd A) st p.isList (by simp;lia) λm N=>⟨rfl,I.turned (t':=s.toks) (λb o j e=>N b o j e) f0 f1 f3 f4 f5⟩
 self:=λ_ _ _ _ _ st h=>wpAny_pyIter_listiter st h
theorem wR{K:QZ}(a g:Addr):Turn P w K tg (Iv K a) [g] g (λi h=>h.IsTupleIter g a i)where
 mem:=by simp
 obj:=λi h st b j=>by
  have e:b=g:=by simpa using j
  subst e;obtain⟨o,e,c,d⟩:=st;exact⟨o,e,λv z=>by rw[d]at z;cases z⟩
 keep:=λi h m st k=>st.at λo e=>k g (by simp) o e
 item:=by
  intro X q r t A i f s C H E I n st y;subst q r t;obtain⟨B,x,hq,hx⟩:=y;obtain⟨its,rv,p,hz⟩:=I.tuple hq;obtain⟨u,hu,ru⟩:=rv.get hx;obtain⟨f0,f1,f2,f3,f4,f5⟩:=n g (by simp);refine wpAny_pyNext_tuple_item st (show s.heap.IsTuple a its.toArray from p) (x:=u) (by simpa using hu) λm l D=>?_;have G:Inv X f C H {s with heap:=m}:=I.turned (t':=s.toks) (λb o j e=>(D.2 b j).trans e) f0 f1 f3 f4 f5;obtain⟨o,e,c,d⟩:=id l;exact⟨u,rfl,yC (s:={s with heap:=m}) e c d (by decide) ⟨x,H,G,ru,⟨rfl,λQ L=>by rw[I.Io L hq];exact hx⟩,l,λb j=>(n b j).1⟩⟩
 done:=by
  intro X q r t A i f s C H E I n st y;subst q r t;obtain⟨B,hq,hx⟩:=y;obtain⟨its,rv,p,hz⟩:=I.tuple hq;obtain⟨f0,f1,f2,f3,f4,f5⟩:=n g (by simp);have R:=rv.length;exact wpAny_pyNext_tuple_end (I.ok.hd A) st (show s.heap.IsTuple a its.toArray from p) (by simp;lia) λm N=>⟨rfl,I.turned (t':=s.toks) (λb o j e=>N b o j e) f0 f1 f3 f4 f5⟩
 self:=λ_ _ _ _ _ st h=>wpAny_pyIter_tupleiter st h
theorem xE{K:QZ}(a:Addr)(lo:Int)(n:Nat):Turn P w K tg (FH lo n) [a] a (λi h=>IsRangeIter h a (lo+(i:Nat)*1) ((n:Int)-(i:Nat)) 1)where
 mem:=by simp
 obj:=λi h st b d=>by
  have e:b=a:=by simpa using d
  subst e;exact⟨_,st,λv z=>by
   have y:Data.fields _=Data.cell v:=z;cases y⟩
 keep:=λi h g st k=>k a (by simp) _ st
 item:=by
  intro X l m p q i c s u H E I j st r;subst l m p;obtain⟨f0,f1,f2,f3,f4,f5⟩:=j a (by simp);have W:=Walks.range (prog:=X.prog) (w:=X.w) (I.ok.hd q) a lo 1 n;refine W.item i s _ _ r st λv g x hv f A=>?_;obtain⟨t,rfl⟩:=hv;have C:Inv X c u H {s with heap:=g,toks:=x}:=I.turned (λb o d e=>A b o (by simpa using d) e) f0 f1 f3 f4 f5;refine⟨_,rfl,yC (s:={s with heap:=g,toks:=x}) (n:="range_iterator") f rfl rfl (by decide) ⟨.int (lo+i),H,C,⟨t,?_⟩,⟨rfl,rfl⟩,f,λb d=>(j b d).1⟩⟩;rw[Int.mul_one]
 done:=by
  intro X l m p q i c s u H E I j st r;subst l m p;obtain⟨f0,f1,f2,f3,f4,f5⟩:=j a (by simp);exact wpAny_pyNext_range_end (I.ok.hd q) st (by have:n<=i:=r;lia) λg D=>⟨rfl,I.turned (t':=s.toks) (λb o d e=>D b o d e) f0 f1 f3 f4 f5⟩
 self:=λ_ _ _ _ _ st h=>wpAny_pyIter_rangeiter st h
theorem RE{R:It->Hp->Prop}{lo a:Int}{t u v:Tok}{c:Nat}(I:Inv X U σ H s)(h1: -(2^62)<=lo)(h2:lo<2^62)(f: -(2^62)<=a)(g:a<2^62)
  (q:R (FH lo (a-lo).toNat) H):wpAny (model X.prog X.w) X.A (pyIter (.ref s.heap.objs.size)) (CQ X U σ tg R) E {s with heap:=s.heap.push {cls:=.type "range",data:=.fields #[.int lo t,.int a u,.int 1 v]},toks:=c}:=by
 refine wpAny_pyIter_range (IsRange.new ..) (small_one h1 h2 f g) ?_;have d:Inv X U σ H {s with heap:=s.heap.push {cls:=.type "range",data:=.fields #[.int lo t,.int a u,.int 1 v]},toks:=c}:=I.kept λb o e=>Qc _ e;refine⟨(s.heap.push {cls:=.type "range",data:=.fields #[.int lo t,.int a u,.int 1 v]}).objs.size,[(s.heap.push {cls:=.type "range",data:=.fields #[.int lo t,.int a u,.int 1 v]}).objs.size],_,_,H,rfl,
  d.kept (t':=c) λb o e=>Qc _ e,xE _ lo (a-lo).toNat,?_,λb h=>?_,q⟩
 ·have i:lo+((0:Nat):Int)*1=lo:=by simp
  have j:(((a-lo).toNat:Nat):Int)-((0:Nat):Int)=Builtin.Range.rangeSize lo a 1:=by rw[rangeSize_one];split<;>lia
  show IsRangeIter _ _ (lo+((0:Nat):Int)*1) ((((a-lo).toNat:Nat):Int)-((0:Nat):Int)) 1;rw[i,j];exact Qd _ rfl
 ·have e:b=(s.heap.push {cls:=.type "range",data:=.fields #[.int lo t,.int a u,.int 1 v]}).objs.size:=by simpa using h
  subst e;exact d.yy (Qy _) (d.hok.fresh (Qy _))
def LO(a:TA):TI:=λσ H R=>a σ H λvs H1=>∃j:Int,vs=[.int j]/\ -(2^62)<=j/\j<2^62/\R (FH 0 j.toNat) H1
theorem z3{a:Expr}{p b:Pos}(f:Gl X "range")(g:X.mg "range"=none)(i:PA X [a] ta)(k:starEach [a] X.env=[(false,eval a X.env)]:=by rfl):PI X tg (.Call (.Name "range" p) [a] [] b) (LO ta):=by
 intro c s l H R I h;refine Call_ (iJ I f g boot_range (Qam (bh (i b c s l H _ I h) ?_) k rfl));rintro o u ⟨w,x,m,n,d⟩;obtain⟨j,e,d,q2,q⟩:=d;subst e;cases n with
 |cons r rr=>
  cases rr;obtain⟨t,rfl⟩:=r;exact call_range_1 (RE m (by lia) (by lia) d q2 (by simpa using q))
def LP(c:TI)(g:TG)(d:TS):TS:=λD σ H=>c σ H λJ H1=>∃W:Nat->Nat->St->Hp->Prop,(∃m,W 0 m σ H1)/\∀i m σ H,W i m σ H->
 (J.stop i H/\D.nx σ H)\/(J.go i H/\∃N:St->Hp->Prop,(∀a Z,N a Z->∃m',m'<m/\W (i+1) m' a Z)/\∀x Z,J.sj i H x Z->g x σ Z λb H2=>d {D with nx:=N,ct:=N,bk:=D.nx} b H2)
def D0(a:Qba)(h:Heap):List (Addr×Obj):=a.filterMap λb=>(h.get? b).map λo=>(b,o)
theorem iE{o:Obj}(a:b∈fp)(e:h.get? b=some o):(b,o)∈D0 fp h:=List.mem_filterMap.mpr ⟨b,a,by rw[e];rfl⟩
theorem zQ{p:Addr×Obj}(a:p∈D0 fp h):p.1∈fp/\h.get? p.1=some p.2:=by
 obtain⟨b,hb,e⟩:=List.mem_filterMap.mp a;cases q:h.get? b with
 |none=>rw[q]at e;cases e
 |some o=>
  rw[q]at e;have c:(b,o)=p:=QD e;subst c;exact⟨hb,q⟩
theorem Inv.pinned(I:Inv X U σ H s)(a:∀b∈fp,ph X U H b)(c:∀b∈fp,∃o,s.heap.get? b=some o/\∀v,o.data≠.cell v):Inv X (U++D0 fp s.heap) σ H s:=
 I.LB λp f=>(xD.mp f).elim (λz=>I.pin p (Qaf _ z)) λz=>by
  obtain⟨hb,e⟩:=zQ z;obtain⟨f0,f1,f2,_⟩:=a p.1 hb;obtain⟨o,e',d⟩:=c p.1 hb;rw[e]at e';cases e';exact⟨e,f0,f1,f2,d⟩
theorem Inv.FI{pl:List (Addr×Obj)}(I:Inv X (U++pl) σ H s):Inv X U σ H s:=I.LB λp a=>I.pin p (Qaf _ (Qav _ a))
theorem RG{j:Expr}{wi:TI}{g:TG}{tb:TS}{P:Pos}(E:PassesOwn (model X.prog X.w) X.A X.env X.xe)(hc:X.calm=true)(hi:PI X tg j wi)(hg:PG X tg g)(k:pe X body tb)
  (hs:∀x,foldedSetIterable j X.env x=pure x:=by intro _;rfl):PS X (.For tg j body [] P) (LP wi g tb):=by
 intro a s σ H D I h;refine wpAny_For (bh (hi a s σ H _ I h) λv s1 h1=>bh h1 λsy s2 h2=>?_) hs;obtain⟨it,fp,tn,J,H2,e,I2,T,FJ,f2,W,⟨m0,w0⟩,turn⟩:=h2;subst e
 -- CS stays true of LQ abA objects through LQ loop
 have Q:∀{z:Hp},(∀b∈fp,z b=none)->∀b∈fp,ph X a z b:=λhn b k=>⟨hn b k,(f2 b k).2⟩
 refine codeAny_forLoop_any (λn s'=>∃i l z,Inv X a l z s'/\tn i s'.heap/\(∀b∈fp,z b=none)/\W i n l z) ?_ m0 ⟨0,σ,H2,I2,FJ,λb k=>(f2 b k).1,w0⟩;rintro n s3 ⟨i,p,L,I3,D3,D4,w3⟩;rcases turn i n p L w3 with⟨stop,qn⟩|⟨go,N,hN,G⟩
 ·refine wpAny_passesOwn E (bh (T.done X rfl rfl rfl hc i a s3 p L X.xe I3 (Q D4) D3 stop) ?_);rintro r s4 ⟨R,I4⟩;subst R;exact wpAny_execs_nil ⟨p,L,I4,qn⟩
 ·refine wpAny_passesOwn E (bh (T.item X rfl rfl rfl hc i a s3 p L X.xe I3 (Q D4) D3 go) ?_);rintro r s4 ⟨u,R,h4⟩;subst R;refine wpAny_passesOwn E (bh h4 ?_);rintro _ s5 ⟨x,H5,I5,r5,y5,V,Iw⟩;have Iz:=I5.pinned (Q Iw) (T.obj _ _ V);refine wpAny_passesOwn E (bh (hg _ s5 p H5 x u _ Iz r5 (G x H5 y5)) ?_);rintro _ s6 ⟨ag,H6,I6,q6⟩;refine wpAny_passesOwn E (bh (k _ s6 ag H6 _ I6 q6) λf s7 C=>?_);have q:∀{c:St}{t:Hp},Inv X (a++D0 fp s5.heap) c t s7->N c t->∃m,m<n/\∃i l z,Inv X a l z s7/\tn i s7.heap/\(∀b∈fp,z b=none)/\W i m l z:=fun{c t}y K=>by
   obtain⟨m',hm,w7⟩:=hN c t K;refine⟨m',hm,i+1,c,t,y.FI,T.keep _ _ _ V λb k o e=>(y.pin (b,o) (Qaf _ (Qaf _ (iE k e)))).1,λb k=>?_,w7⟩;obtain⟨o,e,d⟩:=T.obj _ _ V b k;exact(y.pin (b,o) (Qaf _ (Qaf _ (iE k e)))).2.1
  cases f with
  |next=>obtain⟨c,t,y,K⟩:=C;exact q y K
  |cont=>obtain⟨c,t,y,K⟩:=C;exact q y K
  |brk=>obtain⟨c,t,y,C⟩:=C;exact⟨c,t,y.FI,C⟩
  |ret v=>obtain⟨x7,c,t,y,r7,C⟩:=C;exact⟨x7,c,t,y.FI,r7,C⟩
abbrev R2:=V->V->Hp->VK->Prop
def ck(X:Cx)(f:Value->Value->Sem Value)(r:R2):Prop:=
 ∀(U:List (Addr×Obj))(s:Shared)(σ:St)(H:Hp)(x y:V)(v u:Value)(Q:VK),Inv X U σ H s->RelV x v->RelV y u->r x y H Q->
  wpAny (model X.prog X.w) X.A (f v u) (EP X U σ Q) X.xe s
def FL(X:Cx)(f:Value->Sem Value)(r:V->Hp->VK->Prop):Prop:=
 ∀(U:List (Addr×Obj))(s:Shared)(σ:St)(H:Hp)(x:V)(v:Value)(Q:VK),Inv X U σ H s->RelV x v->r x H Q->
  wpAny (model X.prog X.w) X.A (f v) (EP X U σ Q) X.xe s
def jq(X:Cx)(f:Value)(r:Qbi->Hp->VK->Prop):Prop:=
 ∀(U:List (Addr×Obj))(s:Shared)(σ:St)(H:Hp)(B:Qbi)(us:Qa9)(Q:VK),Inv X U σ H s->bu B us->r B H Q->
  wpAny (model X.prog X.w) X.A (call f us) (EP X U σ Q) X.xe s
def RH(X:Cx)(r:V->Hp->(Bool->Hp->Prop)->Prop):Prop:=
 ∀(U:List (Addr×Obj))(s:Shared)(σ:St)(H:Hp)(x:V)(v:Value)(Q:Bool->Hp->Prop),Inv X U σ H s->RelV x v->r x H Q->
  wpAny (model X.prog X.w) X.A (truthy v) (TP X U σ Q) X.xe s
def s_(r:R2)(a b:TE):TE:=λσ H Q=>a σ H λx H1=>b σ H1 λy H2=>r x y H2 Q
def LS(r:V->Hp->VK->Prop)(a:TE):TE:=λσ H Q=>a σ H λx H1=>r x H1 Q
def rI(C:Int->Int->Prop)(g:Int->Int->V):R2:=λx y H Q=>∃i j,x=.int i/\y=.int j/\C i j/\Q (g i j) H
def A1(g:Int->Int->V):R2:=λx y H Q=>∃i j,x=.int i/\y=.int j/\Q (g i j) H
def rU(g:Int->V):V->Hp->VK->Prop:=λx H Q=>∃i,x=.int i/\Q (g i) H
section
variable{a b c:Expr}{ta tb tc:TE}{pos:Pos}
theorem IA(e:PE X a ta)(g:PE X b tb){R:V->V->Hp->Prop}(I:Inv X U σ H s)
  (h:ta σ H λx H1=>tb σ H1 λy H2=>R x y H2) {Q:Value->Shared->Prop} {f:Value->Value->Sem Value}
  (i:∀v u s2 x y H2,Inv X U σ H2 s2->RelV x v->RelV y u->R x y H2->wpAny (model X.prog X.w) X.A (f v u) Q X.xe s2):
  wpAny (model X.prog X.w) X.A (eval a X.env) (λv c=>wpAny (model X.prog X.w) X.A (eval b X.env) (λu d=>wpAny (model X.prog X.w) X.A (f v u) Q X.xe d) X.xe c) X.xe s:=by
 refine bh (e U s σ H _ I h) ?_;rintro v j ⟨x,H1,k,l,m⟩;refine bh (g U j σ H1 _ k m) ?_;rintro u s2 ⟨y,H2,n,o,p⟩;exact i v u s2 x y H2 n l o p
theorem RI{d:Operator}{r:R2}(e:ck X (binaryOp d) r)(f:PE X a ta)(g:PE X b tb):PE X (.BinOp a d b pos) (s_ r ta tb):=by
 intro c s i H Q I h;exact wpAny_BinOp (IA f g I h λv u j x y k l m n q=>e c j i k x y v u Q l m n q)
theorem RJ{c:UnaryOp}{r:V->Hp->VK->Prop}(e:FL X (unaryOp c) r)(f:PE X a ta):PE X (.UnaryOp c a pos) (LS r ta):=by
 intro b s d H Q I h;exact UnaryOp_ (bh (f b s d H _ I h) λv g ⟨x,i,j,k,l⟩=>e b g d i x v Q j k l)
theorem FN{f:Value->Value->Sem Value}{C:Int->Int->Prop}{g:Int->Int->Int}
  (rule:∀(i j:Int)(t u:Tok)(s:Shared)(Q:Value->Shared->Prop)(E:Value->Shared->Prop),C i j->Q (.int (g i j) s.toks) {s with toks:=s.toks+1}->wpAny (model X.prog X.w) X.A (f (.int i t) (.int j u)) Q E s):
  ck X f (rI C λi j=>.int (g i j)):=by
 intro a s d H x y v u Q I b c h;obtain⟨i,j,rfl,rfl,hc,q⟩:=h;obtain⟨t,rfl⟩:=b;obtain⟨t',rfl⟩:=c;exact rule i j t t' s _ _ hc ⟨.int (g i j),H,I.tok _,⟨_,rfl⟩,q⟩
theorem LU{f:Value->Value->Sem Value}{g:Int->Int->Int}
  (rule:∀(i j:Int)(t u:Tok)(s:Shared)(Q:Value->Shared->Prop)(E:Value->Shared->Prop),Q (.int (g i j) s.toks) {s with toks:=s.toks+1}->wpAny (model X.prog X.w) X.A (f (.int i t) (.int j u)) Q E s):
  ck X f (A1 λi j=>.int (g i j)):=by
 intro a s d H x y v u Q I b c h;obtain⟨i,j,rfl,rfl,q⟩:=h;obtain⟨t,rfl⟩:=b;obtain⟨t',rfl⟩:=c;exact rule i j t t' s _ _ ⟨.int (g i j),H,I.tok _,⟨_,rfl⟩,q⟩
theorem FO{f:Value->Value->Sem Value}{g:Int->Int->Bool}
  (rule:∀(i j:Int)(t u:Tok)(s:Shared)(Q:Value->Shared->Prop)(E:Value->Shared->Prop),Q (.bool (g i j)) s->wpAny (model X.prog X.w) X.A (f (.int i t) (.int j u)) Q E s):
  ck X f (A1 λi j=>.bl (g i j)):=by
 intro a s d H x y v u Q I b c h;obtain⟨i,j,rfl,rfl,q⟩:=h;obtain⟨t,rfl⟩:=b;obtain⟨t',rfl⟩:=c;exact rule i j t t' s _ _ ⟨.bl (g i j),H,I,rfl,q⟩
def RK(i j:Int):Prop:=0<j/\j<1073741824
def LV(i j:Int):Prop:=0<=j/\j<=1000000/\i.natAbs<2^64
def FP(i j:Int):Prop:=(-(2^64)<i/\i<2^64)\/(-(2^64)<j/\j<2^64)
theorem FP.ok{i j:Int}(h:FP i j):IntMulOk i j:=by
 rcases h with⟨h1,h2⟩|⟨h1,h2⟩
 ·exact .of_left (intBits_le_64 h1 h2)
 ·exact .of_right (intBits_le_64 h1 h2)
theorem RL:ck X (binaryOp .Add) (A1 λi j=>.int (i+j)):=LU λ_ _ _ _ _ _ _ q=>add_int q
theorem RM:ck X (binaryOp .Sub) (A1 λi j=>.int (i-j)):=LU λ_ _ _ _ _ _ _ q=>sub_int q
theorem RN:ck X (binaryOp .Mult) (rI FP λi j=>.int (i*j)):=FN λ_ _ _ _ _ _ _ a q=>mul_int q a.ok
theorem RO:ck X (binaryOp .FloorDiv) (rI RK λi j=>.int (i / j)):=FN λi j _ _ _ _ _ a q=>by
 have h1:(0:Int)<j:=a.1;have h2:j<1073741824:=a.2;exact floordiv_int (by lia) (by rw[Int.fdiv_eq_ediv_of_nonneg i (by lia)];exact q) (.inl (PyProof.noPylong_small (by lia)))
theorem RP:ck X (binaryOp .Mod) (rI (λ_ j=>0<j) λi j=>.int (i % j)):=FN λi j _ _ _ _ _ a q=>by
 have h1:(0:Int)<j:=a;exact mod_int' (by lia) (by rw[Int.fmod_eq_emod_of_nonneg i (by lia)];exact q)
theorem RQ:ck X (binaryOp .Pow) (rI LV λi j=>.int (i^j.toNat)):=FN λ_ _ _ _ _ _ _ a q=>pow_int_small a.1 a.2.1 a.2.2 q
theorem RS{f:Value->Sem Value}{g:Int->Int}
  (rule:∀(i:Int)(t:Tok)(s:Shared)(Q:Value->Shared->Prop)(E:Value->Shared->Prop),Q (.int (g i) s.toks) {s with toks:=s.toks+1}->wpAny (model X.prog X.w) X.A (f (.int i t)) Q E s):
  FL X f (rU λi=>.int (g i)):=by
 intro a s c H x v Q I b h;obtain⟨i,rfl,q⟩:=h;obtain⟨t,rfl⟩:=b;exact rule i t s _ _ ⟨.int (g i),H,I.tok _,⟨_,rfl⟩,q⟩
theorem sW:FL X (unaryOp .USub) (rU λi=>.int (-i)):=RS λ_ _ _ _ _ q=>neg_int q
end
def CT:V->V->Bool
 | .ao,.ao=>true| .ao,.int _=>true| .int _,.ao=>true| .ao,.bl _=>true| .bl _,.ao=>true| .ao,.str _=>true| .str _,.ao=>true
 | .int _,.int _=>true| .bl _,.bl _=>true| .str _,.str _=>true| .ow _,.ow _=>true
 | .int _,.str _=>true| .str _,.int _=>true| .bl _,.str _=>true| .str _,.bl _=>true
 |_,_=>false
def RU:R2:=λx y H Q=>CT x y=true/\Q (.bl (decide (x=y))) H
def RW:R2:=λx y H Q=>CT x y=true/\Q (.bl (!decide (x=y))) H
theorem y3{i j:Int}:decide (V.int i=V.int j)=(i==j):=by
 rw[Bool.eq_iff_iff];simp
theorem LX{i j:Bool}:decide (V.bl i=V.bl j)=(i==j):=by
 rw[Bool.eq_iff_iff];simp
theorem y7{i j:Str}:decide (V.str i=V.str j)=(i==j):=by
 rw[Bool.eq_iff_iff];simp
theorem yK{i j:Array UInt8}:decide (V.ow i=V.ow j)=(i.toList==j.toList):=by
 rw[Bool.eq_iff_iff];cases i;cases j;simp
section
variable{a b c:Expr}{ta tb tc:TE}{pos:Pos}
theorem bG{Q:VK}{k a:Bool}(I:Inv X U σ H s)(q:Q (.bl k) H)(e:k=a):EP X U σ Q (.bool a) s:=by
 subst e;exact⟨.bl k,H,I,rfl,q⟩
theorem RX:ck X (compareOp .Eq) RU:=by
 intro c s d H x y v u Q I b a h;obtain⟨hs,q⟩:=h;cases x with
 |ao=>
  cases b;cases y with
  |ao=>cases a;exact PySem.EqNone.eq_none_none (bG I q (by simp))
  |bl j=>cases a;exact PySem.EqNone.eq_none_bool (bG I q (by simp))
  |int j=>obtain⟨t',rfl⟩:=a;exact PySem.EqNone.eq_none_int (bG I q (by simp))
  |str j=>obtain⟨t',rfl⟩:=a;exact PySem.EqNone.eq_none_str (bG I q (by simp))
  |_=>exact absurd (show false=true from hs) V1
 |bl i=>
  cases b;cases y with
  |ao=>cases a;exact PySem.EqNone.eq_bool_none (bG I q (by simp))
  |bl j=>cases a;exact eq_bool (bG I q LX)
  |str j=>obtain⟨t',rfl⟩:=a;exact PySem.EqMixed.eq_bool_str (bG I q (by simp))
  |_=>exact absurd (show false=true from hs) V1
 |int i=>
  obtain⟨t,rfl⟩:=b;cases y with
  |ao=>cases a;exact PySem.EqNone.eq_int_none (bG I q (by simp))
  |int j=>obtain⟨t',rfl⟩:=a;exact eq_int (bG I q y3)
  |str j=>obtain⟨t',rfl⟩:=a;exact PySem.EqMixed.eq_int_str (bG I q (by simp))
  |_=>exact absurd (show false=true from hs) V1
 |str i=>
  obtain⟨t,rfl⟩:=b;cases y with
  |ao=>cases a;exact PySem.EqNone.eq_str_none (bG I q (by simp))
  |bl j=>cases a;exact PySem.EqMixed.eq_str_bool (bG I q (by simp))
  |int j=>obtain⟨t',rfl⟩:=a;exact PySem.EqMixed.eq_str_int (bG I q (by simp))
  |str j=>obtain⟨t',rfl⟩:=a;exact eq_str (bG I q y7)
  |_=>exact absurd (show false=true from hs) V1
 |ow i=>
  obtain⟨t,rfl⟩:=b;cases y with
  |ow j=>obtain⟨t',rfl⟩:=a;exact PySem.W.eq_bytes (bG I q yK)
  |_=>exact absurd (show false=true from hs) V1
 |_=>cases y<;>exact absurd (show false=true from hs) V1
theorem RY:ck X (compareOp .NotEq) RW:=by
 intro c s d H x y v u Q I b a h;obtain⟨hs,q⟩:=h;cases x with
 |ao=>
  cases b;cases y with
  |ao=>cases a;exact PySem.EqNone.ne_none_none (bG I q (by simp))
  |bl j=>cases a;exact PySem.EqNone.ne_none_bool (bG I q (by simp))
  |int j=>obtain⟨t',rfl⟩:=a;exact PySem.EqNone.ne_none_int (bG I q (by simp))
  |str j=>obtain⟨t',rfl⟩:=a;exact PySem.EqNone.ne_none_str (bG I q (by simp))
  |_=>exact absurd (show false=true from hs) V1
 |bl i=>
  cases b;cases y with
  |ao=>cases a;exact PySem.EqNone.ne_bool_none (bG I q (by simp))
  |bl j=>cases a;exact ne_bool (bG I q (congrArg not LX))
  |str j=>obtain⟨t',rfl⟩:=a;exact PySem.EqMixed.ne_bool_str (bG I q (by simp))
  |_=>exact absurd (show false=true from hs) V1
 |int i=>
  obtain⟨t,rfl⟩:=b;cases y with
  |ao=>cases a;exact PySem.EqNone.ne_int_none (bG I q (by simp))
  |int j=>obtain⟨t',rfl⟩:=a;exact ne_int (bG I q (congrArg not y3))
  |str j=>obtain⟨t',rfl⟩:=a;exact PySem.EqMixed.ne_int_str (bG I q (by simp))
  |_=>exact absurd (show false=true from hs) V1
 |str i=>
  obtain⟨t,rfl⟩:=b;cases y with
  |ao=>cases a;exact PySem.EqNone.ne_str_none (bG I q (by simp))
  |bl j=>cases a;exact PySem.EqMixed.ne_str_bool (bG I q (by simp))
  |int j=>obtain⟨t',rfl⟩:=a;exact PySem.EqMixed.ne_str_int (bG I q (by simp))
  |str j=>obtain⟨t',rfl⟩:=a;exact ne_str (bG I q (congrArg not y7))
  |_=>exact absurd (show false=true from hs) V1
 |ow i=>
  obtain⟨t,rfl⟩:=b;cases y with
  |ow j=>obtain⟨t',rfl⟩:=a;exact PySem.W.ne_bytes (bG I q (congrArg not yK))
  |_=>exact absurd (show false=true from hs) V1
 |_=>cases y<;>exact absurd (show false=true from hs) V1
theorem RZ:ck X (compareOp .Lt) (A1 λi j=>.bl (decide (i<j))):=FO λ_ _ _ _ _ _ _ q=>lt_int q
theorem R0:ck X (compareOp .LtE) (A1 λi j=>.bl (decide (i<=j))):=FO λ_ _ _ _ _ _ _ q=>le_int q
theorem R1:ck X (compareOp .Gt) (A1 λi j=>.bl (decide (j<i))):=FO λ_ _ _ _ _ _ _ q=>gt_int q
theorem R3:ck X (compareOp .GtE) (A1 λi j=>.bl (decide (j<=i))):=FO λ_ _ _ _ _ _ _ q=>ge_int q
theorem z9:ck X (compareOp .Lt) (λx y H Q=>∃i j,x=.str i/\y=.str j/\Q (.bl (decide (i.cps.toList<j.cps.toList))) H):=by
 intro a s d H x y v u Q I b c h;obtain⟨i,j,rfl,rfl,q⟩:=h;obtain⟨t,rfl⟩:=b;obtain⟨t',rfl⟩:=c;exact lt_str (bG I q rfl)
theorem zU:ck X (compareOp .In) (λx y H Q=>∃i j,x=.str i/\y=.str j/\Q (.bl (!(Builtin.Str.occurrences j i 0 j.length 1).isEmpty)) H):=by
 intro a s d H x y v u Q I b c h;obtain⟨i,j,rfl,rfl,q⟩:=h;obtain⟨t,rfl⟩:=b;obtain⟨t',rfl⟩:=c;exact in_str (bG I q rfl)
theorem R4:ck X (compareOp .Is) (λx y H Q=>y=.ao/\Q (.bl (decide (x=.ao))) H):=by
 intro a s d H x y v u Q I b c h;obtain⟨rfl,q⟩:=h;cases c;refine is_none_gen (bG I q ?_);cases x<;>first
  |(cases b;rfl)
  |(obtain⟨t,rfl⟩:=b;rfl)
theorem R5:ck X (compareOp .IsNot) (λx y H Q=>y=.ao/\Q (.bl (!decide (x=.ao))) H):=by
 intro a s d H x y v u Q I b c h;obtain⟨rfl,q⟩:=h;cases c;refine isnot_none_gen (bG I q ?_);cases x<;>first
  |(cases b;rfl)
  |(obtain⟨t,rfl⟩:=b;rfl)
theorem u6:ck X (compareOp .NotIn) (λx y H Q=>∃i j,x=.str i/\y=.str j/\Q (.bl (!(!(Builtin.Str.occurrences j i 0 j.length 1).isEmpty))) H):=by
 intro a s d H x y v u Q I b c h;obtain⟨i,j,rfl,rfl,q⟩:=h;obtain⟨t,rfl⟩:=b;obtain⟨t',rfl⟩:=c;exact notIn_str (bG I q rfl)
theorem LY(b:Expr)(h:op≠.In:=by decide)(h2:op≠.NotIn:=by decide):behindInMarks op b=false:=by
 have a:(op==CmpOp.In)=false:=by cases op<;>first|rfl|exact absurd rfl h
 have c:(op==CmpOp.NotIn)=false:=by cases op<;>first|rfl|exact absurd rfl h2
 cases b<;>simp[behindInMarks,a,c]
theorem R6{r:R2}(d:ck X (compareOp op) r)(e:PE X a ta)(f:PE X b tb)(g:behindInMarks op b=false):PE X (.Compare a [op] [b] pos) (s_ r ta tb):=by
 intro c s i H Q I h;exact wpAny_Compare1 (IA e f I h λv u j x y k l m n q=>d c j i k x y v u Q l m n q) g
def IB(t:TE):TT:=λσ H Q=>t σ H λx Z=>∃k,x=.bl k/\Q k Z
theorem R7{r:R2}(g:ck X (compareOp op) r)(i:PE X a ta)(j:PE X b tb)(l:behindInMarks op b=false):PT X (.Compare a [op] [b] pos) (IB (s_ r ta tb)):=by
 intro d s f H Q I h;refine wpAny_isTrue_Compare1 (bh (i d s f H _ I h) λv m ⟨x,n,o,p,q⟩=>bh (j d m f n _ o q) λu t ⟨y,w,A,C,D⟩=>
  bh (g d t f w x y v u _ A p C D) λc N ⟨z,E,G,K,k,e,L⟩=>?_) l
 subst e;cases K;exact wpAny_truthy_bool ⟨E,G,L⟩
def IC(K:QZ)(x:V)(H:Hp)(k:Bool):Prop:=
 match x with
 | .ao=>k=false
 | .bl b=>k=b
 | .int i=>k=(i !=0)
 | .str y=>y.length<=sizeLine/\k=((y.length:Int) !=0)
 | .ow y=>y.size<=sizeLine/\k=((y.size:Int) !=0)
 | .ref p=>(∃B,ak K H p B/\k= !B.isEmpty)\/(∃B,ae K H p B/\k= !B.isEmpty)\/∃kvs,H p=some (.dK kvs)/\k= !kvs.isEmpty
 |_=>False
theorem xF{a:Type}{kvs:List (a×V)}{b:List (a×Value)}(r:KV kvs b):(!b.isEmpty)= !kvs.isEmpty:=by
 cases r<;>rfl
theorem oU{B:Qbi}{a:Qa9}(r:bu B a):(!a.toArray.isEmpty)= !B.isEmpty:=by
 cases r<;>simp
theorem CU:(sizeLine:Nat)<2^63:=by rw[QL];decide
theorem R8:RH X (λx H Q=>∃k,IC X.K x H k/\Q k H):=by
 intro l s o H x v Q I f h;obtain⟨k,e,q⟩:=h;have u:=CU;have z:sizeLine=16777216:=QL;cases x with
 |ao=>
  cases f;have a:k=false:=e;subst a;exact truthy_none ⟨H,I,q⟩
 |bl b=>
  cases f;have a:k=b:=e;subst a;exact wpAny_truthy_bool ⟨H,I,q⟩
 |int i=>
  obtain⟨t,rfl⟩:=f;have a:k=(i !=0):=e;subst a;exact PySem.P.truthy_int ⟨H,I,q⟩
 |str y=>
  obtain⟨t,rfl⟩:=f;obtain⟨hy,a⟩:y.length<=sizeLine/\k=((y.length:Int) !=0):=e;subst a;exact PySem.P.truthy_str (by lia) ⟨H,I.tok _,q⟩
 |ow y=>
  obtain⟨t,rfl⟩:=f;obtain⟨hy,a⟩:y.size<=sizeLine/\k=((y.size:Int) !=0):=e;subst a;exact PySem.W.truthy_bytes (by lia) ⟨H,I.tok _,q⟩
 |ref p=>
  cases f;have a:(∃d,ak X.K H p d/\k= !d.isEmpty)\/(∃d,ae X.K H p d/\k= !d.isEmpty)\/∃c,H p=some (.dK c)/\k= !c.isEmpty:=e;rcases a with⟨d,g,a⟩|⟨d,g,a⟩|⟨c,g,a⟩
  ·subst a;obtain⟨its,r,pl,hz⟩:=I.list g;have n:=r.length;exact wpAny_truthy_list pl.isList (by simp only[XC];lia) ⟨H,I.tok _,by rw[oU r];exact q⟩
  ·subst a;obtain⟨its,r,pl,hz⟩:=I.tuple g;have n:=r.length;exact truthy_tuple pl (by simp only[XC];lia) ⟨H,I.tok _,by rw[oU r];exact q⟩
  ·subst a;obtain⟨hz,hS,j,r,m⟩:c.length<=sizeLine/\(p==sysModules)=false/\∃j,KV c j/\s.heap.DictOf (ir X.prog X.w) p j:=I.hok p _ g;have n:c.length=j.length:=Paired.length r;exact wpAny_truthy_dict hS m (by lia) ⟨H,I.tok _,by rw[xF r];exact q⟩
 |_=>exact(show False from e).elim
theorem R9(d:PE X a ta)(e:∀b,isTrue a X.env b=(do let v <- b;standAt a.pos;holding [v] (truthy v))):
  PT X a (λσ H Q=>ta σ H λx Z=>∃k,IC X.K x Z k/\Q k Z):=by
 intro c s σ H Q I h;exact isTrue_plain (bh (d c s σ H _ I h) λv f ⟨x,g,i,j,l⟩=>R8 c f σ g x v Q i j l) (e _)
theorem xP:ck X (binaryOp .Add) (λx y H Q=>∃i j,x=.str i/\y=.str j/\i.length+j.length<=sizeLine/\Q (.str (i++j)) H):=by
 intro a s e H x y v u Q I b c h;obtain⟨i,j,rfl,rfl,hz,q⟩:=h;obtain⟨t,rfl⟩:=b;obtain⟨d,rfl⟩:=c;exact add_str (λd f=>⟨.str (i++j),H,I.tok _,⟨_,rfl⟩,q⟩) hz
theorem vals1{x:V}(r:bu [x] us):∃u,us=[u]/\RelV x u:=by
 cases r with
 |cons r1 r2=>cases r2;exact⟨_,rfl,r1⟩
theorem vals2{x y:V}(r:bu [x,y] us):∃u a,us=[u,a]/\RelV x u/\RelV y a:=by
 cases r with
 |cons r1 r2=>
  cases r2 with
  |cons r3 r4=>cases r4;exact⟨_,_,rfl,r1,r3⟩
theorem zI(b:X.calm=true):jq X (.builtin "max") (λB H Q=>∃i j,B=[.int i,.int j]/\Q (.int (if j > i then j else i)) H):=by
 intro a s c H B d Q I r h;obtain⟨i,j,rfl,q⟩:=h;obtain⟨u,w',rfl,⟨t,rfl⟩,⟨t',rfl⟩⟩:=vals2 r;refine max_two_ints (I.ok.hd b) λe f k=>⟨_,H,I.kept k,?_,q⟩
 by_cases hj:j > i
 ·rw[if_pos hj,if_pos hj];exact⟨_,rfl⟩
 ·rw[if_neg hj,if_neg hj];exact⟨_,rfl⟩
def R_(K:QZ)(x:V)(H:Hp)(n:Nat):Prop:=
 match x with
 | .str y=>y.length<=sizeLine/\n=y.length
 | .ow y=>y.size<=sizeLine/\n=y.size
 | .ref p=>(∃B,ak K H p B/\n=B.length)\/∃B,ae K H p B/\n=B.length
 |_=>False
theorem pA:jq X (.builtin "len") (λB H Q=>∃x n,B=[x]/\R_ X.K x H n/\Q (.int n) H):=by
 intro d s f H B g Q I r h;obtain⟨x,n,rfl,e,q⟩:=h;obtain⟨u,rfl,rx⟩:=vals1 r;have i:=CU;have j:sizeLine=16777216:=QL;cases x with
 |str y=>
  obtain⟨t,rfl⟩:=rx;obtain⟨hy,a⟩:y.length<=sizeLine/\n=y.length:=e;subst a;exact len_str (by lia) ⟨.int _,H,I.tok _,⟨_,rfl⟩,q⟩
 |ow y=>
  obtain⟨t,rfl⟩:=rx;obtain⟨hy,a⟩:y.size<=sizeLine/\n=y.size:=e;subst a;exact PySem.W.len_bytes (by lia) ⟨.int _,H,I.tok _,⟨_,rfl⟩,q⟩
 |ref p=>
  cases rx;have a:(∃B,ak X.K H p B/\n=B.length)\/∃B,ae X.K H p B/\n=B.length:=e;rcases a with⟨B,b,a⟩|⟨B,b,a⟩
  ·subst a;obtain⟨its,r',pl,hz⟩:=I.list b;have c:=r'.length;exact Calls.call_len_list pl.isList (by simp only[XC];lia) ⟨.int B.length,H,I.tok _,⟨_,by simp only[XC];rw[c]⟩,q⟩
  ·subst a;obtain⟨its,r',pl,hz⟩:=I.tuple b;have c:=r'.length;exact len_tuple pl (by simp only[XC];lia) ⟨.int B.length,H,I.tok _,⟨_,by simp only[XC];rw[c]⟩,q⟩
 |_=>exact(show False from e).elim
end
structure ID(h:Heap)(x dx C:Addr)(mA:Str->Qbb):Prop where
 obj:h.get? x=some (PySem.W.instObj C dx)
 ns:h.Ns1 dx mA
 ne:dx≠x
theorem mO{b:Addr}(n:h.Ns1 b mA):∃od,h.get? b=some od/\∀name,PySem.W.lookIn name od=some (mA name):=by
 obtain⟨o,Y,ep,ho,hd,hk,_,hm⟩:=n;refine⟨o,ho,λname=>?_⟩;have e:=hm name;unfold nsFind findBy at e;rw[<- Array.find?_toList]at e;unfold PySem.W.lookIn;rw[hd];dsimp only;split
 ·rename_i y q
  rw[q]at e;exact congrArg some e
 ·rename_i q
  rw[q]at e;have a:Y.toList.any (·.refKey)=false:=by
   rw[List.any_eq_false];intro y c;obtain⟨z,t,Sa⟩:=hk y (Array.mem_toList_iff.mp c);simp[DictEntry.refKey,Sa]
  have d:¬Y.toList.any (·.refKey)=true:=by rw[a];exact V1
  rw[if_neg d];exact congrArg some e
theorem ID.look{x a:Addr}(I:ID h x a C mA):∃od,PySem.W.InstAt h x (PySem.W.instObj C a) C (some od)/\∀name,PySem.W.lookIn name od=some (mA name):=
 let ⟨od,ho,hl⟩:=mO I.ns
 ⟨od,⟨I.obj,rfl,rfl,ho⟩,hl⟩
theorem oz.some_of{v:V}{o:Qbb}(r:oz (some v) o):∃u,o=some u/\RelV v u:=by
 cases o with
 |none=>exact(show False from r).elim
 |some u=>exact⟨u,rfl,r⟩
theorem zN{v:V}(r:RelV v u):PySem.W.handedIn u=true:=by
 cases v with
 |ao=>cases(show u=Value.none from r);rfl
 |bl b=>cases(show u=Value.bool b from r);rfl
 |int i=>obtain⟨t,e⟩:=(show ∃t,u=Value.int i t from r);cases e;rfl
 |str x=>obtain⟨t,e⟩:=(show ∃t,u=Value.str x t from r);cases e;rfl
 |ow b=>obtain⟨t,e⟩:=(show ∃t,u=Value.bytes b t from r);cases e;rfl
 |BB b=>obtain⟨t,e⟩:=(show ∃t,u=Value.float b t from r);cases e;rfl
 |ref a=>cases(show u=Value.ref a from r);rfl
 |ty n=>cases(show u=Value.type n from r);rfl
section
variable{dx:Addr}{fs QY:Qbg}
theorem Sb(hok:dm P w H h)(e:H a=some (.ins C dx fs)):∃mA,ID h a dx C mA/\(∀f,oz (fs.lookup f) (mA f))/\PySem.Within mA (fs.map (·.1))/\fs.length<=1000/\H dx=some (.own a):=by
 obtain⟨d,z,ne,ob,mA,n,r,q⟩:=(show c_ P w H h a (.ins C dx fs)from hok a _ e)
 exact⟨mA,⟨ob,n,ne⟩,r,q,z,d⟩
end
structure IE(K:QZ)(C:Addr):Prop where
 pg:PySem.W.plainGet K C Str.empty=true
 hd:PySem.W.hasDictIn K C=true
 po:PySem.W.plainOver K C=true
 sa:PySem.W.findIn K (.ref C) "__setattr__"=some (some (.builtin "object.__setattr__"))
theorem IE.get{K:QZ}{C:Addr}(c:IE K C)(f:Str):PySem.W.plainGet K C f=true:=c.pg
def LZ(K:QZ)(C:Addr)(f:Str):Prop:=PySem.W.findIn K (.ref C) f=some none
section
variable{dx:Addr}{fs:Qbg}{f:Str}{v:V}
theorem Sd{f:Str}{b:Pos}(c:attributeBase e f env (eval e env)=eval e env)
  (h:wpAny (model prog w) A (eval e env) (λo a=>wpAny (model prog w) A (getAttr o f true) Q E a) E s):wpAny (model prog w) A (eval (.Attribute e f b) env) Q E s:=
 Attribute_any_ h (by rw[arm_eval_Attribute,c])
end
section
variable{c:Value}{b:Bool}
inductive uo (K:QZ) (H:Hp):V->Value->Prop where
 |ao:uo K H .ao (.type "NoneType")
 |bl (x:Bool):uo K H (.bl x) (.type "bool")
 |int (i:Int):uo K H (.int i) (.type "int")
 |str (x:Str):uo K H (.str x) (.type "str")
 |BB (x:UInt64):uo K H (.BB x) (.type "float")
 |lst {a:Addr} {B:Qbi} (e:H a=some (.lst B)):uo K H (.ref a) (.type "list")
 |iy {a:Addr} {o:Obj} {B:Qbi} (e:H a=some (.iy o (.lst B))):uo K H (.ref a) (.type "list")
 |tup {a:Addr} {B:Qbi} (e:H a=some (.tup B)):uo K H (.ref a) (.type "tuple")
 |dK {a:Addr} {kvs:Qbf} (e:H a=some (.dK kvs)):uo K H (.ref a) (.type "dict")
 |dT {a:Addr} {kvs:Qbe} (e:H a=some (.dT kvs)):uo K H (.ref a) (.type "dict")
 |ins {a C dx:Addr} {fs:Qbg} (e:H a=some (.ins C dx fs)) (cl:IE K C) (ha:PySem.W.findIn K (.ref C) "__class__"=some (some (.builtin "object.__class__")))
   (hn:PySem.W.specialIn K (.builtin "object.__class__") "__get__"=some (some (.builtin "getset_descriptor.__get__"))) (L0:PySem.W.takesIn K (.builtin "object.__class__")=some true)
   (hm:PySem.W.mroIn K C (.type "object")=some true):uo K H (.ref a) (.ref C)
theorem zA{x:V}{t:Value}(I:Inv X U σ H s)(d:RelV x u)(ty:uo X.K H x t)(e:PySem.W.kitOne X.K t c=some b)(h:∀tk,Q (.bool b) {s with toks:=tk}):
  wpAny (model X.prog X.w) A (call (.builtin "isinstance") [u,c]) Q E s:=by
 cases ty with
 |ao=>cases(show u=Value.none from d);exact Qak PySem.W.kitx_none I.fi True.intro e (λz=>nomatch z) h
 |bl y=>cases(show u=Value.bool y from d);exact Qak PySem.W.kitx_bool I.fi True.intro e (λz=>nomatch z) h
 |int i=>obtain⟨t,q⟩:=(show ∃t,u=Value.int i t from d);cases q;exact Qak PySem.W.kitx_int I.fi True.intro e (λz=>nomatch z) h
 |str y=>obtain⟨t,q⟩:=(show ∃t,u=Value.str y t from d);cases q;exact Qak PySem.W.kitx_str I.fi True.intro e (λz=>nomatch z) h
 |BB y=>obtain⟨t,q⟩:=(show ∃t,u=Value.float y t from d);cases q;exact Qak PySem.W.kitx_float I.fi True.intro e (λz=>nomatch z) h
 | @lst a B ea=>
  cases(show u=Value.ref a from d);obtain⟨_,_,n,_,h1⟩:=(show c_ X.prog X.w H s.heap a (.lst B)from I.hok a _ ea)
  exact Qak PySem.W.kitx_list I.fi ⟨_,h1,rfl⟩ e (λz=>nomatch z) h
 | @iy a ob B ea=>
  cases(show u=Value.ref a from d);obtain⟨_,_,_,n,_,h1⟩:=(show c_ X.prog X.w H s.heap a (.iy ob (.lst B))from I.hok a _ ea)
  exact Qak PySem.W.kitx_list I.fi ⟨_,h1,rfl⟩ e (λz=>nomatch z) h
 | @tup a B ea=>
  cases(show u=Value.ref a from d);obtain⟨_,_,_,p⟩:=(show c_ X.prog X.w H s.heap a (.tup B)from I.hok a _ ea)
  obtain⟨o,h1,h2,_⟩:=p;exact Qak PySem.W.kitx_tuple I.fi ⟨o,h1,h2⟩ e (λz=>nomatch z) h
 | @dK a kvs ea=>
  cases(show u=Value.ref a from d);obtain⟨_,_,vs,_,p⟩:=(show c_ X.prog X.w H s.heap a (.dK kvs)from I.hok a _ ea)
  obtain⟨o,Y,ep,h1,h2,_⟩:=p;exact Qak PySem.W.kitx_dict I.fi ⟨o,h1,h2.1⟩ e (λz=>nomatch z) h
 | @dT a kvs ea=>
  cases(show u=Value.ref a from d);obtain⟨_,_,B,_,o,Y,ep,h1,h2,_⟩:=(show c_ X.prog X.w H s.heap a (.dT kvs)from I.hok a _ ea)
  exact Qak PySem.W.kitx_dict I.fi ⟨o,h1,h2.1⟩ e (λz=>nomatch z) h
 | @ins a C dx fs ea cl ha hn L0 hm=>
  cases(show u=Value.ref a from d);obtain⟨mA,O,_⟩:=Sb I.hok ea;obtain⟨od,J,_⟩:=O.look;exact Qak (PySem.W.kitx_own (cl.get _) cl.hd ha hn L0 hm) I.fi J e (λz=>nomatch z) h
end
structure fb(k:Nat)(A:Around):Prop where
 hd:A.handled=none
 dp:A.depth+3*k+5<recursionLimit
 un:A.units+16*k+200<cLine
 gd:A.guards=some []
theorem fb.mono{k:Nat}(r:fb k A)(h:j<=k):fb j A:=⟨r.hd,by have:=r.dp;lia,by have:=r.un;lia,r.gd⟩
theorem fb.deeper{k:Nat}{A:Around}(r:fb (k+1) A)(env:Env):fb k (A.deeper env):=
 ⟨r.hd,by have:=r.dp;show A.depth+1+3*k+5<_;lia,by have:=r.un;show A.units+3+16*k+200<_;lia,r.gd⟩
theorem xA:(A.under (.builtin "type.__call__" ⟨.ref C::us,kw⟩)).depth=A.depth+1:=by
 first|rfl|simp[Around.under,Code.weight,Code.isCreation,Code.isGuard,Code.isCaller,Code.frames,Code.isFrame,guardIds]
theorem xG:(A.under (.builtin "type.__call__" ⟨.ref C::us,kw⟩)).units=A.units+1:=by
 first|rfl|simp[Around.under,Code.cUnits,Code.frames,Code.isFrame]
theorem w4(h:A.guards=some []):(A.under (.builtin "type.__call__" ⟨.ref C::us,kw⟩)).guards=some []:=by
 first|exact h|(simp[Around.under,pushGuards,Code.guards,Code.isGuard,guardIds,h])
theorem fb.make{k:Nat}(r:fb (k+1) A)(C:Addr)(us:Qa9)(a:List (Str×Value)):fb k (A.under (.builtin "type.__call__" ⟨.ref C::us,a⟩)):=
 ⟨r.hd,by have:=r.dp;rw[xA];lia,by have:=r.un;rw[xG];lia,w4 r.gd⟩
theorem fb.depth{k:Nat}{A:Around}(r:fb k A):A.depth<recursionLimit:=by have:=r.dp;lia
theorem fb.units{k:Nat}{A:Around}(r:fb k A):A.units+64<cLine:=by have:=r.un;lia
def ip:TA:=λ_ H Q=>Q [] H
def cy(a:TE)(b:TA):TA:=λσ H Q=>a σ H λx H1=>b σ H1 λB H2=>Q (x::B) H2
section
variable{pos:Pos}
theorem Se:PA X [] ip:=λ_ _ _ _ H Q I h=>Calls.spliced_nil ⟨[],H,I,.nil,h⟩
theorem dW(d:PE X e te)(f:PA X Y t)(g:Qbl X e Y:=by rfl):PA X (e::Y) (cy te t):=by
 intro b a s c H Q I h;rw[g];show wpAny _ _ (spliced ((false,eval e X.env)::backTo b (starEach Y X.env))) _ _ s;refine Calls.spliced_cons (bh (d a s c H _ I h) ?_);rintro u i ⟨x,j,k,l,m⟩;exact bh (f b a i c j _ k m) λw y ⟨n,o,p,q,r⟩=>⟨x::n,o,p,.cons l q,r⟩
def ko(t:TA):TE:=λσ H Q=>t σ H λB H1=>B.length<=sizeLine/\∀p,H1 p=none->Q (.ref p) (upd H1 p (.tup B))
def A2(t:TA):TE:=λσ H Q=>t σ H λB H1=>B.length<=sizeLine/\∀p,H1 p=none->Q (.ref p) (upd H1 p (.lst B))
theorem Sf{x1}(h:PA X Y t):PE X (.Tuple Y x1 pos) (ko t):=by
 intro a s g H Q I i;refine wpAny_Tuple_spliced (bh (h pos a s g H _ I i) λj c ⟨k,d,f,r,z,q⟩=>⟨by rw[<- r.length];exact z,?_⟩);have l:d c.heap.objs.size=none:=f.hok.fresh (Qy _);refine⟨.ref c.heap.objs.size,upd d c.heap.objs.size (.tup k),f.laid (t':=c.toks) (λb u e=>Qc _ e) (Qy _) ?_,rfl,q _ l⟩;exact⟨⟨z,AZ.new rfl rfl⟩,j,r,⟨_,Qd _ rfl,rfl,_,rfl⟩⟩
theorem Sg(h:PA X Y t):PE X (.List Y pos) (A2 t):=by
 intro a s g H Q I i;refine wpAny_List_spliced (bh (h pos a s g H _ I i) λj c ⟨k,d,f,r,z,q⟩=>⟨by rw[<- r.length];exact z,?_⟩);have l:d c.heap.objs.size=none:=f.hok.fresh (Qy _);refine⟨.ref c.heap.objs.size,upd d c.heap.objs.size (.lst k),f.laid (t':=c.toks) (λb u e=>Qc _ e) (Qy _) ?_,rfl,q _ l⟩;exact⟨z,j,0,r,Qd _ rfl⟩
end
abbrev Sp:=Qbi->Hp->VK->XK->Prop
end L2
variable{D:L2.Ends}{g:L2.TG}{wi:L2.TI}{r:L2.R2}{sp:L2.Sp}{th:PySem.Addr->PySem.Addr->Option PySem.Addr->L2.TS}
namespace L2
open PySem PySem.Spec PyProof.Rows
abbrev uq:=List Env->Hp->Shared->XK->Value->Shared->Prop
structure BJ(P:Program)(w:World)(K:QZ)(mg:Str->Qbb)(base:Heap)(A:Around)(outer:List Env)(s:Shared)(H:Hp):Prop where
 frames:A.frames=some outer
 mod:Mod K mg base
 bs:∀b o,base.get? b=some o->s.heap.get? b=some o/\H b=none
 xo:base.objs.size<=s.heap.objs.size
 se:s.heap.FunFrames base outer
 Af:∀b∈g_ outer,H b=none
 hok:dm P w H s.heap
 bare:AllBare s.gens
def CE(outer:List Env)(P:Program)(w:World)(H:Hp)(s:Shared)(Q:VK)(u:Value)(a:Shared):Prop:=
 ∃v Z,a.os=s.os/\AllBare a.gens/\Un (g_ outer) [] H Z s.heap a.heap/\dm P w Z a.heap/\RelV v u/\Q v Z
def CR(b:uq)(outer:List Env)(P:Program)(w:World)(H:Hp)(s:Shared)(Q:VK)(E:XK)(r:Result)(a:Shared):Prop:=
 match r with
 | .ok (.ret u)=>CE outer P w H s Q u a
 | .ok _=>False
 | .error e=>b outer H s E e a
structure mq(P:Program)(w:World)(K:QZ)(mg:Str->Qbb)(base:Heap)(CX:uq)(k:Nat)(f:Addr)(fd:FuncData)(ps:Qa8)(sp:Sp):Prop where
 len:∀vs H Q E,sp vs H Q E->vs.length=ps.length
 run:∀(A:Around)(outer:List Env)(s:Shared)(H:Hp)(args:Args)(us:Qa9)(vs:Qbi)(Q:VK)(E:XK),fb k A->BJ P w K mg base A outer s H->BindsTo s fd args (ps.zip us)->bu vs us->sp vs H Q E->
  codeAny (model P w) A (.call (.ref f) args) (CR CX outer P w H s Q E) s
theorem mq.mono{P:Program}{w:World}{K:QZ}{mg:Str->Qbb}{base:Heap}{b:uq}{j k:Nat}{f:Addr}{c:FuncData}{d:Qa8}{e:Sp}(F:mq P w K mg base b j f c d e)(h:j<=k):
  mq P w K mg base b k f c d e:=⟨F.len,λA a s H args g i Q E l=>F.run A a s H args g i Q E (l.mono h)⟩
theorem mq.imp{K:QZ}{b:uq}{k:Nat}{f:Addr}{c:Sp}(F:mq P w K mg base b k f fd ps sp)
  (h:∀vs H Q E,c vs H Q E->sp vs H Q E):mq P w K mg base b k f fd ps c:=
 ⟨λvs H Q E q=>F.len vs H Q E (h _ _ _ _ q),λA a s H args d vs Q E e g i hv j=>F.run A a s H args d vs Q E e g i hv (h _ _ _ _ j)⟩
theorem BJ.make{K:QZ}(e:BJ P w K mg base A outer s H)(C:Addr)(us:Qa9)(a:List (Str×Value)):
  BJ P w K mg base (A.under (.builtin "type.__call__" ⟨.ref C::us,a⟩)) outer s H:=⟨by first|exact e.frames|(simpa[Around.under,Code.envs,Code.isFrame,pushEnvs]using e.frames),e.mod,e.bs,e.xo,e.se,e.Af,e.hok,e.bare⟩
theorem Inv.FQ(I:Inv X U σ H s):BJ X.prog X.w X.K X.mg X.base X.A X.stack s H:=
 ⟨I.ok.frames,I.ok.mod,I.bs,Qaa I.ok.xo I.sz,I.stack,I.DT,I.hok,I.bare⟩
theorem Inv.after{Q:VK}(I:Inv X U σ H s)(h:CE X.stack X.prog X.w H s Q u s'):EP X U σ Q u s':=by
 obtain⟨v,Z,os,bare,un,hok,r,q⟩:=h;obtain⟨hh,g,d,t,L3⟩:=s';obtain rfl:L3=s.os:=os;exact⟨v,Z,I.call (O:=hh) (g':=g) (d':=d) (t':=t) (ch:=[]) un hok bare (λb z=>absurd z (by simp)),r,q⟩
def A3(a:Sp)(b:Qbi)(E:XK)(t:TA):TE:=λσ H Q=>t σ H λvs H1=>a (vs++b) H1 Q E
def Binds(K:QZ)(b:FuncData)(a:Qa8)(M:Qa9):Prop:=
 ∀(s:Shared)(us:Qa9),K.In s.heap->(us++M).length=a.length->BindsTo s b ⟨us,[]⟩ (a.zip (us++M))
theorem Binds.all{K:QZ}(h:∀us:Qa9,us.length=ps.length->bindArgs fd ⟨us,[]⟩=pure (ps.zip us)):Binds K fd ps []:=λs us _ a=>by
 rw[QQ]at a⊢;exact .of_eq (h us a)
def FS(a:uq)(X:Cx)(E:XK):Prop:=∀(U:List (Addr×Obj))(σ:St)(H:Hp)(s:Shared)(e:Value)(s':Shared),Inv X U σ H s->a X.stack H s E e s'->X.xe e s'
section
variable{CX:uq}{k:Nat}{f:Addr}{yz:Qbi}{M:Qa9}{E:XK}{m:Str}{p pos:Pos}{o:Expr}{ta:TE}
theorem L5{Q:VK}{b:Qbi}(F:mq X.prog X.w X.K X.mg X.base CX k f fd ps sp)(d:fb k X.A)(g:Binds X.K fd ps M)(i:bu yz M)(j:FS CX X E)
  (I:Inv X U σ H s) (r:bu b us) (h:sp (b++yz) H Q E):wpAny (model X.prog X.w) X.A (call (.ref f) us) (EP X U σ Q) X.xe s:=by
 have c:bu (b++yz) (us++M):=r.append i;have l:(us++M).length=ps.length:=by rw[<- c.length];exact F.len _ _ _ _ h
 refine wpAny_call (codeAny_mono (F.run X.A X.stack s H ⟨us,[]⟩ (us++M) (b++yz) Q E d I.FQ (g s us I.fi l) c h) λr m a=>?_);cases r with
 |error e=>exact j U σ H s e m I a
 |ok fl=>
  cases fl with
  |ret u=>exact I.after a
  |next=>exact False.elim a
  |brk=>exact False.elim a
  |cont=>exact False.elim a
theorem Sh(F:mq X.prog X.w X.K X.mg X.base CX k f fd ps sp)(d:fb k X.A)(g:Gl X x)(i:X.mg x=some (.ref f))(j:PySem.W.keepIn X.K (.ref f)=true)(l:Binds X.K fd ps M)(m:bu yz M)(n:FS CX X E)
  (o:PA X (e::Y) t) (u:Qbo x:=by decide) (y:Qbl X e Y:=by rfl) (b:Qbm X pos Y:=by rfl):
  PE X (.Call (.Name x p) (e::Y) [] pos) (A3 sp yz E t):=by
 intro a s z H Q I h;refine wpAny_Call_Name_kw (gE I g i ?_ u);refine PySem.W.callWith_K (h₀:=X.base) I.ok.mod.CL j (bh (o pos a s z H _ I h) ?_) y b;rintro C D ⟨G,L,c,r,q⟩;refine⟨c.fi,?_⟩;exact L5 F d l m n c r q
theorem Si(F:mq X.prog X.w X.K X.mg X.base CX k f fd ps sp)(b:fb k X.A)(c:Gl X x)(d:X.mg x=some (.ref f))(e:PySem.W.keepIn X.K (.ref f)=true)(g:Binds X.K fd ps M)(i:bu yz M)(j:FS CX X E)
  (l:Qbo x:=by decide):PE X (.Call (.Name x p) [] [] pos) (A3 sp yz E ip):=by
 intro a s m H Q I h;refine wpAny_Call_Name_kw (gE I c d ?_ l);exact PySem.W.callWith_K0 I.fi e (L5 (us:=[]) F b g i j I .nil h)
end
structure dg(N P:Qa8)(sc:Scope):Prop where
 kind:sc.kind=.function
 co:sc.isCoroutine=false
 gen:sc.isGenerator=false
 nd:N.Nodup
 pre:N.take P.length=P
 L6:∀x∈P,sc.names.lookup x=some .local\/sc.names.lookup x=some .cell
 Sj:∀y∈sc.names,y.2≠.free
theorem qU{kindOf:Str->Option NameKind}{x:Str}:∀{a:List (Str×Value)}{m:Str->Qbb},(∀v,(x,v)∉a)->bindL kindOf a m x=m x
 | [],_,_=>rfl
 |(n,v)::r,m,h=>by
  unfold bindL;rw[qU λw b=>h w (Qh _ b)];split
  ·have:x≠n:=by rintro rfl;exact h v jP
   simp[this]
  ·rfl
theorem rR{kindOf:Str->Option NameKind}{x:Str}:∀{a:List (Str×Value)}{m:Str->Qbb},(∀v,(x,v)∉a)->bindC kindOf a m x=m x
 | [],_,_=>rfl
 |(n,v)::r,m,h=>by
  unfold bindC;rw[rR λw b=>h w (Qh _ b)];split
  ·rfl
  ·have:x≠n:=by rintro rfl;exact h v jP
   simp[this]
theorem rG{kindOf:Str->Option NameKind}{x:Str}{v:Value}:∀{P:Qa8}{a:Qa9}{i:Nat}{m:Str->Qbb},P.Nodup->P[i]? =some x->a[i]? =some v->kindOf x=some .local->
  bindL kindOf (P.zip a) m x=some v
 | [],_,_,_,_,h,_,_=>by simp at h
 |_::_,[],_,_,_,_,h,_=>by simp at h
 |p::P,w::a,0,m,nd,h1,h2,hk=>by
  simp at h1 h2;subst h1;subst h2;show bindL kindOf ((p,w)::P.zip a) m p=_;unfold bindL;rw[qU λv hv=>(Qas.mp nd).1 (List.of_mem_zip hv).1,if_pos hk];simp
 |p::P,w::a,i+1,m,nd,h1,h2,hk=>by
  show bindL kindOf ((p,w)::P.zip a) m x=_;unfold bindL;exact rG (i:=i) (Qas.mp nd).2 (by simpa using h1) (by simpa using h2) hk
theorem rY{kindOf:Str->Option NameKind}{x:Str}{v:Value}:∀{P:Qa8}{a:Qa9}{i:Nat}{m:Str->Qbb},P.Nodup->P[i]? =some x->a[i]? =some v->kindOf x≠some .local->
  bindC kindOf (P.zip a) m x=some v
 | [],_,_,_,_,h,_,_=>by simp at h
 |_::_,[],_,_,_,_,h,_=>by simp at h
 |p::P,w::a,0,m,nd,h1,h2,hk=>by
  simp at h1 h2;subst h1;subst h2;show bindC kindOf ((p,w)::P.zip a) m p=_;unfold bindC;rw[rR λv hv=>(Qas.mp nd).1 (List.of_mem_zip hv).1,if_neg hk];simp
 |p::P,w::a,i+1,m,nd,h1,h2,hk=>by
  show bindC kindOf ((p,w)::P.zip a) m x=_;unfold bindC;exact rY (i:=i) (Qas.mp nd).2 (by simpa using h1) (by simpa using h2) hk
def start(N:Qa8)(a:Qbi):St:=a.map some++List.replicate (N.length-a.length) none
def jl(CX:uq)(P:Program)(w:World)(K:QZ)(mg:Str->Qbb)(base:Heap)(N:Qa8)(qual:Str)(scope:Scope)(f:Addr)(cd:Value)(A:Around)(outer:List Env)(s:Shared)(H:Hp)(E:XK):Cx where
 prog:=P
 w:=w
 K:=K
 mg:=mg
 base:=base
 A:=A.deeper (envOfC qual scope s.heap.objs.size f cd)
 N:=N
 s₀:=s
 H₀:=H
 env:=envOfC qual scope s.heap.objs.size f cd
 outer:=outer
 stack:=envOfC qual scope s.heap.objs.size f cd::outer
 ex:=[]
 calm:=true
 fn:=λ_=>true
 pn:=[]
 xe:=λe s'=>wpAny (model P w) (A.deeper (envOfC qual scope s.heap.objs.size f cd)) (leaving (envOfC qual scope s.heap.objs.size f cd) e) (λ_ s''=>CX outer H s E e s'') (λe' s''=>CX outer H s E e' s'') s'
theorem uD(h:sc.names.lookup x=some .cell):∃c,(cellsFrom n sc.names []).lookup x=some c:=by
 have q:=PySem.W.cellsFrom_some sc.names n [] (.inl h);exact Option.isSome_iff_exists.mp q
theorem zK{t:uq}{K:QZ}{f:Addr}{l:Value}{s1:Shared}{E:XK}{g:Qbi}
  (S:dg N ps scope) (D:A.handled=none) (d:BJ P w K mg base A outer s H) (L:g.length=ps.length) (r:bu g us)
  (x:InCallC s s.heap.objs.size (bindL (envOfC qual scope s.heap.objs.size f l).kindOf (ps.zip us) λ_=>none) (cellsFrom (s.heap.objs.size+1) scope.names []) (bindC (envOfC qual scope s.heap.objs.size f l).kindOf (ps.zip us) λ_=>none) s1):
  Inv (jl t P w K mg base N qual scope f l A outer s H E) [] (start N g) H s1:=by
 have G:ps.length<=N.length:=by have:=congrArg List.length S.pre;rw[Qa6]at this;lia
 obtain⟨h1,tk,rfl,hk⟩:=x.done;have o:∀b:Addr,b∉(jl t P w K mg base N qual scope f l A outer s H E).ex:=λb z=>absurd (show b∈([]:Qba)from z) (by simp);refine⟨⟨d.mod,S.kind,rfl,rfl,Qy _,λy z c h1 h2=>?_,λy hy=>?_,λy c _ h=>?_,λ_=>D,Around.frames_deeper d.frames,.inr ⟨rfl,rfl⟩,λb z=>absurd z (o b),d.bs,d.xo,λb _ _=>o b,λb z=>absurd z (o b),d.se,d.Af⟩,
  rfl,d.bare,Un.kept hk,⟨_,x.toInCall.ns,λi y v h1 h2 Q=>?_⟩,λy c h=>⟨_,x.cell y c h⟩,d.hok.fresh (Qy _),λy c h=>?_,λp j=>absurd (show p∈([]:List (Addr×Obj))from j) (by simp),d.hok.kept hk,?_⟩
 ·exact name_of_addr x.apart (QaB h1) (QaB h2)
 ·have hy:scope.names.lookup y=some .cell\/scope.names.lookup y=some .free:=hy;rcases hy with hy|hy
  ·exact uD hy
  ·exact absurd rfl (S.Sj _ (QaB hy))
 ·exact Nat.le_of_lt (x.above y c (QaB h))
 ·have m:i<g.length:=by
   unfold start at h2;by_cases m:i<g.length
   ·exact m
   ·rw[Qaq (by simpa using m)]at h2;rw[List.getElem?_replicate]at h2;split at h2<;>cases h2
  have I:g[i]? =some v:=by
   unfold start at h2;rw[Qg (by simpa using m),Qq]at h2;cases e:g[i]? with
   |none=>rw[e]at h2;cases h2
   |some a=>rw[e]at h2;cases h2;rfl
  obtain⟨u,hu,rv⟩:=r.get I;have j:ps[i]? =some y:=by
   rw[<- S.pre,List.getElem?_take_of_lt (by lia)];exact h1
  have C:ps.Nodup:=by rw[<- S.pre];exact S.nd.sublist (List.take_sublist _ _)
  refine⟨u,rv,?_⟩;rcases S.L6 y (QC j)with k|k
  ·exact .inl ⟨k,rG C j hu k⟩
  ·obtain⟨c,e⟩:=uD (n:=s.heap.objs.size+1) k;refine .inr ⟨.inl k,c,e,?_⟩;have q:=x.cell y c e;rw[rY C j hu (by show scope.names.lookup y≠_;rw[k];decide)]at q;exact q
 ·exact d.hok.fresh (Nat.le_of_lt (x.above y c (QaB h)))
 ·unfold start;show _=N.length;rw[Qk,Ql,List.length_replicate]
  lia
theorem L8 {p:uq} {K:QZ} {k:Nat} {f:Addr} {a:Arguments} {T kV i pm g ct oc:Value} {an od:Option Addr}
  {jf:Array Qbb} {N z:Qa8} {C:Sp} (lk:K.lookup f=some ⟨oc,od,.func (PySem.W.fnOf name qual a body scope T kV i pm an g ct),jf⟩) (mj:PySem.W.codeIn K g qual=true) (S:dg N z scope)
  (j:∀ c H Q E,C c H Q E->c.length=z.length)
  (xx:∀ (A:Around) (outer:List Env) (s:Shared) (H:Hp) (c:Qbi) (Q:VK) (E:XK),fb k (A.deeper (envOfC qual scope s.heap.objs.size f g))->C c H Q E->
   ∃ t,pe (jl p P w K mg base N qual scope f g A outer s H E) body t/\t {nx:=λ_ Z=>Q .ao Z,rt:=Q} (start N c) H):
  mq P w K mg base p (k+1) f (PySem.W.fnOf name qual a body scope T kV i pm an g ct) z C:=by
 refine ⟨j,λA outer s H args us c Q E D l hb r y_=>?_⟩
 have hl:=j _ _ _ _ y_
 have KX:K.In s.heap:=l.mod.CL.keeps λb o e=>(l.bs b o e).1
 have G:s.heap.NoLimit:=l.mod.nolimit.keeps λb o e=>(l.bs b o e).1
 have Sk:∀ y∈z.zip us,scope.names.lookup y.1=some .local\/(scope.names.lookup y.1=some .cell/\((cellsFrom (s.heap.objs.size+1) scope.names []).lookup y.1).isSome=true):=λ⟨n,v⟩ hy=>by
  rcases S.L6 n (List.of_mem_zip hy).1 with q | q
  ·exact .inl q
  ·exact .inr ⟨q,PySem.W.cellsFrom_some _ _ _ (.inl q)⟩
 refine codeAny_call_function D.depth (KX _ _ lk) rfl S.co S.gen rfl (PySem.W.codeRec_of KX mj) (hb _ _ _ _ ?_)
 refine wpAny_newFunctionEnv_cells S.kind Sk λag he s1 x=>?_
 subst he
 refine ⟨G.keeps x.toInCall.keep,codeAny_func ?_⟩
 obtain ⟨t,ht,hq⟩:=xx A outer s H c Q E (D.deeper _) y_
 have I:Inv (jl p P w K mg base N qual scope f g A outer s H E) [] (start N c) H s1:=zK S D.hd l hl r x
 refine wpAny_mono (ht [] s1 (start N c) H _ I hq) (λfl L h=>?_) λe L h=>h
 have m:∀ {d:St} {Z:Hp} {v:V} {u:Value},Inv (jl p P w K mg base N qual scope f g A outer s H E) [] d Z L->RelV v u->Q v Z->CE outer P w H s Q u L:=
  λ{d Z v u} J R q=>⟨v,Z,J.os,J.bare,J.base,J.hok,R,q⟩
 cases fl with
 | ret u=>
  obtain ⟨v,d,Z,J,R,q⟩:=h
  exact m J R q
 | next=>
  obtain ⟨d,Z,J,q⟩:=h
  exact m (v:=V.ao) (u:=Value.none) J rfl q
 | brk=>
  obtain ⟨_,_,_,q⟩:=h
  exact False.elim q
 | cont=>
  obtain ⟨_,_,_,q⟩:=h
  exact False.elim q
section
variable{p pos:Pos}{id:String}{r:Qbi->Hp->VK->Prop}
def BK(r:Qbi->Hp->VK->Prop)(t:TA):TE:=λσ H Q=>t σ H λvs H1=>r vs H1 Q
theorem Sl(d:jq X (.builtin id) r)(f:Gl X x)(g:X.mg x=none)(hv:bootBuiltins x=some (.builtin id))(i:PA X (e::Y) t)(j:x≠"__name__":=by decide)(k:Qbo x:=by decide)
  (l:Qbl X e Y:=by rfl) (b:Qbm X pos Y:=by rfl):PE X (.Call (.Name x p) (e::Y) [] pos) (BK r t):=by
 intro a s c H Q I h;refine wpAny_Call_Name_kw (iJ I f g hv ?_ j k);exact PyProof.Rows.callWith_builtin1 (bh (i pos a s c H _ I h) λm n ⟨o,q,u,w,y⟩=>d a n c q o m Q u w y) l b
theorem zE(d:jq X (.type T) r)(f:Gl X x)(g:X.mg x=none)(hv:bootBuiltins x=some (.type T))(i:PA X (e::Y) t)(j:x≠"__name__":=by decide)(k:Qbo x:=by decide)
  (l:Qbl X e Y:=by rfl) (b:Qbm X pos Y:=by rfl):PE X (.Call (.Name x p) (e::Y) [] pos) (BK r t):=by
 intro a s c H Q I h;refine wpAny_Call_Name_kw (iJ I f g hv ?_ j k);exact Qam (bh (i pos a s c H _ I h) λm n ⟨o,q,u,w,y⟩=>d a n c q o m Q u w y) l b
end
end L2
namespace HT
open PySem PyProof.Rows
theorem Sn{t:Addr}{a ws:Qa9}(c:IsTup s.heap t a.toArray)(d:IsTup s.heap b ws.toArray)(hv:a≠[])
  (h1:ws=[]->Q (.ref t) s) (h2:ws≠[]->Q (.ref s.heap.objs.size) {s with heap:=s.heap.push {cls:=.type "tuple",data:=.seq (a++ws).toArray}})
  (hsz:a.length+ws.length<=sizeLine):wpAny (model prog w) A (binaryOp .Add (.ref t) (.ref b)) Q E s:=by
 obtain⟨⟨cls,dd,data,sl⟩,ho,hc,n,hd⟩:=id c;obtain⟨⟨IF,qt,data2,qu⟩,jz,jr,n2,hd2⟩:=id d;simp only at hc hd jr hd2;subst hc hd jr hd2;have e:a.toArray++ws.toArray=(a++ws).toArray:=by simp
 by_cases hw:ws=[]
 ·exact concat_meets ⟨_,ho,rfl⟩ ⟨_,jz,rfl⟩ noFill_tuple_add seq_tuple_add QaD Qax (Qat _ _)
   (tuple_addW1 t b a.toArray ws.toArray n n2 dd qt sl qu (by simpa using hv) (by simp[hw])) ⟨ho,jz,h1 hw⟩
 ·refine concat_meets ⟨_,ho,rfl⟩ ⟨_,jz,rfl⟩ noFill_tuple_add seq_tuple_add QaD Qax (Qat _ _)
   (tuple_addW2 t b a.toArray ws.toArray n n2 dd qt sl qu (by simpa using hv) (by simpa using hw) (by rw[XC,XC];exact hsz)) ⟨ho,jz,?_⟩
  rw[e];exact h2 hw
def cf(n d:Nat):Option Int->Nat
 |none=>d
 |some v=>if v<0 then(v+(n:Int)).toNat else min v.toNat n
theorem uM(n d:Nat):cf n d none=d:=rfl
theorem jW(n d k:Nat):cf n d (some (k:Int))=min k n:=by
 show(if(k:Int)<0 then((k:Int)+(n:Int)).toNat else min (k:Int).toNat n)=min k n;rw[if_neg (by lia),Int.toNat_natCast]
theorem So(n d:Nat)(a:d<=n)(o:Option Int):cf n d o<=n:=by
 cases o with
 |none=>exact a
 |some v=>
  show(if v<0 then(v+(n:Int)).toNat else min v.toNat n)<=n;by_cases hv:v<0
  ·rw[if_pos hv];lia
  ·rw[if_neg hv];exact Nat.min_le_right _ _
theorem xT(v:Int)(n d:Nat):(if v<0 then max (v+(n:Int)) 0 else min v (n:Int))=((cf n d (some v):Nat):Int):=by
 show(if v<0 then max (v+(n:Int)) 0 else min v (n:Int))=(((if v<0 then(v+(n:Int)).toNat else min v.toNat n):Nat):Int);by_cases hv:v<0
 ·simp only[if_pos hv];lia
 ·simp only[if_neg hv];lia
theorem wH(lo a:Option Int)(n:Nat):Builtin.Slice.sliceAdjust lo a 1 (n:Int)=(((cf n 0 lo:Nat):Int),((cf n n a:Nat):Int)):=by
 have h1:¬((1:Int)<0):=by lia
 unfold Builtin.Slice.sliceAdjust;simp only[h1,if_false];refine Prod.ext ?_ ?_
 ·cases lo with
  |none=>rfl
  |some v=>exact xT v n 0
 ·cases a with
  |none=>rfl
  |some v=>exact xT v n n
theorem wK(i j:Nat):Builtin.Slice.slicePlaces (i:Int) (j:Int) 1=j-i:=by
 unfold Builtin.Slice.slicePlaces;have h1:(1:Int) > 0:=by lia
 simp only[h1,if_true,Int.ediv_one];split<;>lia
theorem oW{v:Value}{o:Option Int}{Q:Option Int->Shared->Prop}(p:IsPart v o)(h:Q o s):wpAny (model prog w) A (Builtin.Slice.slicePartIndex v) Q E s:=by
 cases p with
 |none=>exact slicePart_none h
 |int i t=>exact slicePart_int h
theorem m9{c:Addr}{vl b:Value}{lo a:Option Int}{Q:Int×Int×Nat->Shared->Prop}(d:s.heap.IsSliceOf c vl b .none)(pl:IsPart vl lo)(e:IsPart b a)
  (h:Q (((cf n 0 lo:Nat):Int),1,cf n n a-cf n 0 lo) s):wpAny (model prog w) A (Builtin.Slice.sliceApplied (.ref c) (pure (n:Int))) Q E s:=by
 obtain⟨os,BL,L_,mw⟩:=id d;unfold Builtin.Slice.sliceApplied Builtin.Slice.sliceFields;refine QS (QS (wpAny_field BL mw (x:=vl) rfl (QS (wpAny_field BL mw (x:=b) rfl (QS (wpAny_field BL mw (x:=.none) rfl (QT ?_)))))));refine QS (slicePart_none ?_);show wpAny _ _ (if((1:Int)==0)=true then _ else _) _ _ s;rw[if_neg (by decide)];refine QS (oW pl (QS (oW e (QS (QT ?_)))));show wpAny _ _ (match Builtin.Slice.sliceAdjust lo a 1 (n:Int)with|(lo,a)=>pure (lo,(1:Int),Builtin.Slice.slicePlaces lo a 1)) _ _ s;rw[wH lo a n];show wpAny _ _ (pure (((cf n 0 lo:Nat):Int),(1:Int),Builtin.Slice.slicePlaces ((cf n 0 lo:Nat):Int) ((cf n n a:Nat):Int) 1)) _ _ s;rw[wK];exact QT h
theorem Sq(B:Array Value)(i k:Nat):((List.range k).filterMap fun(m:Nat)=>B[((i:Int)+(m:Int)*1).toNat]?).toArray=((B.toList.drop i).take k).toArray:=by
 have e:(fun(m:Nat)=>B[((i:Int)+(m:Int)*1).toNat]?)=λm=>B[i+m]?:=by
  funext m;have:((i:Int)+(m:Int)*1).toNat=i+m:=by lia
  rw[this]
 rw[e];have:=pick_run B i k;rw[List.filterMap_map]at this;have a:((λx=>B[x]?)∘λx=>i+x)=λm=>B[i+m]?:=rfl;rw[a]at this;rw[this]
theorem lC{t e:Addr}{a:Array Value}{vl f:Value}{lo b:Option Int}(c:IsTup s.heap t a)(g:s.heap.IsSliceOf e vl f .none)(pl:IsPart vl lo)(i:IsPart f b)
  (j:¬(cf a.size 0 lo=0/\cf a.size a.size b=a.size))
  (h:Q (.ref s.heap.objs.size) {s with heap:=s.heap.push {cls:=.type "tuple",data:=.seq ((a.toList.drop (cf a.size 0 lo)).take (cf a.size a.size b-cf a.size 0 lo)).toArray}})
  (hsz:a.size<=sizeLine):wpAny (model prog w) A (getItem (.ref t) (.ref e)) Q E s:=by
 have d:sizeOk (.seq ((a.toList.drop (cf a.size 0 lo)).take (cf a.size a.size b-cf a.size 0 lo)).toArray):=by
  show((a.toList.drop (cf a.size 0 lo)).take (cf a.size a.size b-cf a.size 0 lo)).toArray.size<=sizeLine;rw[XC,Qa6,List.length_drop,Array.length_toList]
  lia
 have n:cf a.size a.size b<=a.size:=So _ _ (Qy _) b;obtain⟨os,BL,L_,mw⟩:=id g;have k:s.TypeIs (.ref e) "slice":=⟨os,BL,L_⟩
 unfold getItem
 try with_reducible refine wpAny_holding ?_
 first|refine QS (QT ?_)|skip
 refine QS (wpAny_sequenceKey c.typeIs (by decide) ?_);refine QS (wpAny_callSpecial?_slot (name:=Str.ofString "__getitem__") c.typeIs PyProof.Rows.slot_tuple_getitem
  (wpAny_call_entry PyProof.Rows.slot_tuple_getitem c.typeIs entry_tuple_getitem ?_ (args_tuple_getitem _ _)))
 show wpAny _ _ (Builtin.Tuple.tupleItemsOf (.ref t) >>=_) _ _ s;refine QS (tupleItemsOf_ c ?_);refine QS (wpAny_typeOf k ?_);rw[if_pos (by decide)];refine QS (m9 g pl i ?_);have l:¬((((cf a.size 0 lo:Nat):Int)==0&&(1:Int)==1&&(cf a.size a.size b-cf a.size 0 lo)==a.size)=true):=by
  intro q;rw[Qai,Qai]at q;have o:((cf a.size 0 lo:Nat):Int)=0:=eq_of_beq q.1.1;have p:cf a.size a.size b-cf a.size 0 lo=a.size:=eq_of_beq q.2;exact j ⟨by lia,by lia⟩
 show wpAny _ _ (if(((cf a.size 0 lo:Nat):Int)==0&&(1:Int)==1&&(cf a.size a.size b-cf a.size 0 lo)==a.size)=true then _ else _) _ _ s;rw[if_neg l,Sq]
 first
  |exact QS (m:=Builtin.Tuple.tupleExact _) (wpAny_newObj_type (QT ⟨_,rfl,QT h⟩) d)
  |exact QS (m:=Builtin.Tuple.tupleExact _) (wpAny_newObj_type (QS (QT (QT ⟨_,rfl,QT h⟩))) d)
  |exact QS (QS (m:=Builtin.Tuple.tupleExact _) (wpAny_newObj_type (QT (QT ⟨_,rfl,QT h⟩)) d))
  |exact QS (QS (m:=Builtin.Tuple.tupleExact _) (wpAny_newObj_type (QT ⟨_,rfl,QT h⟩) d))
end HT
namespace L2
open PySem PySem.Spec PyProof.Rows
abbrev TO:=St->Hp->(Option Int->Hp->Prop)->Prop
def PO(X:Cx)(e:Option Expr)(t:TO):Prop:=
 ∀(U:List (Addr×Obj))(s:Shared)(σ:St)(H:Hp)(Q:Option Int->Hp->Prop),Inv X U σ H s->t σ H Q->
  wpAny (model X.prog X.w) X.A (evalPart e X.env) (λu s'=>∃o Z,Inv X U σ Z s'/\IsPart u o/\Q o Z) X.xe s
def Ma:TO:=λ_ H Q=>Q none H
def Mb(t:TE):TO:=λσ H Q=>t σ H λx H1=>∃i,x=.int i/\Q (some i) H1
section
variable{lo hi:Option Expr}{tl th:TO}{pos p2:Pos}
theorem Sv:PO X none Ma:=by
 intro a s b H Q I h;rw[evalPart_none];exact QT ⟨none,H,I,.none,h⟩
theorem Sw(h:PE X e te):PO X (some e) (Mb te):=by
 intro a s b H Q I c;rw[evalPart_some];refine bh (h a s b H _ I c) ?_;rintro u k ⟨x,d,f,g,j⟩;obtain⟨i,rfl,q⟩:=j;obtain⟨t,rfl⟩:=g;exact⟨some i,d,f,.int i t,q⟩
def xy(X:Cx)(r:V->Option Int->Option Int->Hp->VK->Prop):Prop:=
 ∀(U:List (Addr×Obj))(s:Shared)(σ:St)(H:Hp)(x:V)(v vl a:Value)(lo hi:Option Int)(b:Addr)(Q:VK),Inv X U σ H s->RelV x v->s.heap.IsSliceOf b vl a .none->IsPart vl lo->IsPart a hi->r x lo hi H Q->
  ∃T id,typeLookup (.type T) "__getitem__"=pure (some (.builtin id))/\s.TypeIs v T/\wpAny (model X.prog X.w) X.A (getItem v (.ref b)) (EP X U σ Q) X.xe s
theorem xy.or{r b:V->Option Int->Option Int->Hp->VK->Prop}(h:xy X r)(O:xy X b):xy X (λx lo hi H Q=>r x lo hi H Q\/b x lo hi H Q):=by
 intro a s c H x v vl d lo hi e Q I f g i j q;rcases q with q|q
 ·exact h a s c H x v vl d lo hi e Q I f g i j q
 ·exact O a s c H x v vl d lo hi e Q I f g i j q
def Mc(r:V->Option Int->Option Int->Hp->VK->Prop)(te:TE)(a b:TO):TE:=λσ H Q=>te σ H λx H1=>a σ H1 λl H2=>b σ H2 λu c=>r x l u c Q
theorem Sy{r:V->Option Int->Option Int->Hp->VK->Prop}(i:xy X r)(j:PE X e te)(k:PO X lo tl)(m:PO X hi th):PE X (.Subscript e (.Slice lo hi none p2) pos) (Mc r te tl th):=by
 intro a s d H Q I h;refine Subscript_ (bh (j a s d H _ I h) ?_);rintro v n ⟨x,o,p,t,y⟩;refine wpAny_Slice (bh (k a n d o _ p y) ?_);rintro vl z ⟨l,C,D,E,G⟩;refine bh (m a z d C _ D G) ?_;rintro f c ⟨u,g,K,L,N⟩;rw[evalPart_none];refine QT ?_;have P:Inv X a d g {c with heap:=c.heap.push {cls:=.type "slice",data:=.fields #[vl,f,.none]}}:=K.kept (t':=c.toks) λb R q=>Qc _ q;obtain⟨T,id,hT,ht,hg⟩:=i a {c with heap:=c.heap.push {cls:=.type "slice",data:=.fields #[vl,f,.none]}} d g x v vl f l u c.heap.objs.size Q P t (Heap.IsSliceOf.new ..) E L N;show wpAny (model X.prog X.w) X.A (subscriptTail e (.Slice lo hi none p2) v (.ref c.heap.objs.size)) (EP X a d Q) X.xe {c with heap:=c.heap.push {cls:=.type "slice",data:=.fields #[vl,f,.none]}};exact tail_any (ops:=[.ref c.heap.objs.size,v]) ht hT hg (by with_unfolding_all rfl)
def gj(B:Qbi)(lo a:Option Int):Qbi:=(B.drop (HT.cf B.length 0 lo)).take (HT.cf B.length B.length a-HT.cf B.length 0 lo)
theorem nE(B:Qbi)(lo a:Option Int):(gj B lo a).length<=B.length:=by
 unfold gj;rw[Qa6,List.length_drop]
 lia
def IG(K:QZ):V->Option Int->Option Int->Hp->VK->Prop:=λx lo hi H Q=>∃a B,x=.ref a/\ae K H a B/\
 ¬(HT.cf B.length 0 lo=0/\HT.cf B.length B.length hi=B.length)/\∀p,H p=none->Q (.ref p) (upd H p (.tup (gj B lo hi)))
theorem Sz:xy X (IG X.K):=by
 intro f s l H x v vl m c d n Q I g i j k h;obtain⟨a,B,rfl,hx,hw,q⟩:=h;cases g;obtain⟨its,r,ht,hz⟩:=I.tuple hx;have e:its.toArray.size=B.length:=by rw[XC];exact r.length.symm
 refine⟨"tuple",_,PyProof.Rows.slot_tuple_getitem.lookup,ht.typeIs,?_⟩;refine HT.lC ht i j k (by rw[e];exact hw) ?_ (by rw[e];exact hz);rw[e];refine⟨.ref s.heap.objs.size,_,I.laid (t':=s.toks) (o:=.tup (gj B c d)) (λb p q=>Qc _ q) (Qy _) ?_,rfl,q _ (I.hok.fresh (Qy _))⟩;exact⟨⟨Qaa (nE B c d) hz,AZ.new rfl rfl⟩,_,(r.drop (HT.cf B.length 0 c)).take (HT.cf B.length B.length d-HT.cf B.length 0 c),IsTup.new _ _⟩
def II(K:QZ):R2:=λx y H Q=>∃a b B ys,x=.ref a/\y=.ref b/\ae K H a B/\ae K H b ys/\B≠[]/\B.length+ys.length<=sizeLine/\
 (ys=[]->Q (.ref a) H)/\(ys≠[]->∀p,H p=none->Q (.ref p) (upd H p (.tup (B++ys))))
theorem bu.A4{B:Qbi}(r:bu B us):us=[]↔B=[]:=by
 cases r with
 |nil=>simp
 |cons _ _=>simp
theorem yE:ck X (binaryOp .Add) (II X.K):=by
 intro c s f H x y v u Q I d e h;obtain⟨a,b,B,ys,rfl,rfl,ha,hb,hx,hz,q1,q2⟩:=h;cases d;cases e;obtain⟨its,r1,p1,_⟩:=I.tuple ha;obtain⟨its2,r2,p2,_⟩:=I.tuple hb;refine HT.Sn p1 p2 (λz=>hx (r1.A4.mp z)) (λz=>⟨.ref a,H,I,rfl,q1 (r2.A4.mp z)⟩) (λz=>?_) (by rw[<- r1.length,<- r2.length];exact hz);refine⟨.ref s.heap.objs.size,_,I.laid (t':=s.toks) (o:=.tup (B++ys)) (λb g q=>Qc _ q) (Qy _) ?_,rfl,q2 (λw=>z (r2.A4.mpr w)) _ (I.hok.fresh (Qy _))⟩;exact⟨⟨by rw[Qk];exact hz,AZ.new rfl rfl⟩,_,r1.append r2,IsTup.new _ _⟩
end
def ur(n:Nat)(i:Int):Option Nat:=if 0<=i then(if i<n then some i.toNat else none)else if -(n:Int)<=i then some (i+n).toNat else none
def kq{α:Type}(B:List α)(i:Int):Option α:=(ur B.length i).bind λj=>B[j]?
theorem tS{i:Int}(h:ur n i=some j):seqIndex? i n=some j/\j<n/\ -(n:Int)<=i/\i<n:=by
 unfold ur at h;by_cases h0:0<=i
 ·rw[if_pos h0]at h;by_cases h1:i<n
  ·rw[if_pos h1]at h;have e:i.toNat=j:=QD h;exact⟨by rw[seqIndex_of h0 h1,e],by lia,by lia,h1⟩
  ·rw[if_neg h1]at h;cases h
 ·rw[if_neg h0]at h;by_cases h1: -(n:Int)<=i
  ·rw[if_pos h1]at h;have e:(i+n).toNat=j:=QD h;exact⟨by rw[seqIndex_neg (by lia) h1,e],by lia,h1,by lia⟩
  ·rw[if_neg h1]at h;cases h
theorem tW{B:List α}{i:Int}{v:α}(h:kq B i=some v):∃j,seqIndex? i B.length=some j/\B[j]? =some v/\j<B.length/\ -(B.length:Int)<=i/\i<B.length:=by
 unfold kq at h;cases e:ur B.length i with
 |none=>rw[e]at h;cases h
 |some j=>
  rw[e]at h;obtain⟨h1,h2,h3,h4⟩:=tS e;exact⟨j,h1,h,h2,h3,h4⟩
theorem bU{B:List α}{v:α}(h:B[j]? =some v):kq B (j:Int)=some v:=by
 have a:j<B.length:=(kB.mp h).1;have e:ur B.length (j:Int)=some j:=by
  unfold ur;rw[if_pos (by lia),if_pos (by lia)];simp
 unfold kq;rw[e];exact h
def IJ(b:Expr):Prop:=∀o i,subscripted b false o i=operate [o,i] (getItem o i)
def BO(X:Cx)(r:R2):Prop:=
 ∀(value a:Expr)(U:List (Addr×Obj))(s:Shared)(σ:St)(H:Hp)(x y:V)(v u:Value)(Q:VK),Inv X U σ H s->RelV x v->RelV y u->r x y H Q->
  subscripted a false v u=operate [v,u] (getItem v u)->wpAny (model X.prog X.w) X.A (subscriptTail value a v u) (EP X U σ Q) X.xe s
def IK(X:Cx)(id:String)(r:V->Qbi->Hp->VK->Prop):Prop:=
 ∀(U:List (Addr×Obj))(s:Shared)(σ:St)(H:Hp)(x:V)(B:Qbi)(v:Value)(us:Qa9)(Q:VK),Inv X U σ H s->RelV x v->bu B us->r x B H Q->
  wpAny (model X.prog X.w) X.A (call (.builtin id) (v::us)) (EP X U σ Q) X.xe s
section
variable{a b:Expr}{ta tb:TE}{pos:Pos}
theorem SD(d:BO X r)(e:PE X a ta)(f:PE X b tb)(g:IJ b):PE X (.Subscript a b pos) (s_ r ta tb):=by
 intro c s i H Q I h;exact Subscript_ (IA e f I h λv u j x y k l m n q=>d a b c j i k x y v u Q l m n q (g _ _))
def SJ(K:QZ):R2:=λx y H Q=>∃p B i v,x=.ref p/\y=.int i/\ak K H p B/\kq B i=some v/\Q v H
def SK(K:QZ):R2:=λx y H Q=>∃p B i v,x=.ref p/\y=.int i/\ae K H p B/\kq B i=some v/\Q v H
def SM:R2:=λx y H Q=>∃z i c,x=.str z/\y=.int i/\z.length<=sizeLine/\kq z.cps.toList i=some c/\Q (.str ⟨#[c]⟩) H
theorem sF:BO X (SJ X.K):=by
 intro c d a s f H x y v u Q I k l h g;obtain⟨p,B,i,z,rfl,rfl,hq,he,q⟩:=h;cases k;obtain⟨t,rfl⟩:=l;obtain⟨its,r,pl,hz⟩:=I.list hq;obtain⟨j,h1,h2,h3,h4,h5⟩:=tW he;obtain⟨w,ew,qv⟩:=r.get h2;have m:=r.length;have o:=CU;have b:EP X a f Q w s:=⟨z,H,I,qv,q⟩
 by_cases h0:0<=i
 ·have e:i.toNat=j:=by
   rw[seqIndex_of h0 h5]at h1;exact QD h1
  exact item_listR pl.isList h0 (by lia) (by rw[e];simpa using ew) b g
 ·have e:(i+(its.toArray.size:Int)).toNat=j:=by
   rw[seqIndex_neg (by lia) h4]at h1;rw[XC,<- m];exact QD h1
  exact subscriptTail_builtinR (x:=w) pl.isList.typeIs slot_list_getitem.lookup
   (wpAny_getItem_list_neg (Q:=λr n=>r=w/\EP X a f Q r n) pl.isList (by lia) (by rw[XC]<;>lia) (by lia) (by rw[e];simpa using ew) ⟨rfl,b⟩) g
theorem SN:BO X (SK X.K):=by
 intro b c a s e H x y v u Q I f g h k;obtain⟨p,B,i,z,rfl,rfl,hq,he,q⟩:=h;cases f;obtain⟨t,rfl⟩:=g;obtain⟨its,r,pl,hz⟩:=I.tuple hq;obtain⟨j,h1,h2,h3,h4,h5⟩:=tW he;obtain⟨w,ew,qv⟩:=r.get h2;have l:=r.length;have n:=CU;have d:EP X a e Q w s:=⟨z,H,I,qv,q⟩
 exact subscriptTail_builtinR (x:=w) pl.typeIs slot_tuple_getitem.lookup
  (getItem_tuple (j:=j) (Q:=λr m=>r=w/\EP X a e Q r m) pl (by lia) (by lia) (by rw[XC,<- l];exact h1) (by simpa using ew) ⟨rfl,d⟩) k
theorem SQ:BO X SM:=by
 intro a b d s n H x y v u Q I e f h g;obtain⟨z,i,c,rfl,rfl,hz,he,q⟩:=h;obtain⟨t,rfl⟩:=e;obtain⟨t',rfl⟩:=f;obtain⟨j,h1,h2,h3,h4,h5⟩:=tW he;have k:z.cps.toList.length=z.length:=by simp[Str.length]
 rw[k]at h1 h4 h5;have o:=CU;exact tail_any (typeIs_str s z t) slot_str_getitem.lookup (getItem_str (c:=c) (by
  have l:decide (i< -(2^63:Int))=false:=Qw (by lia);have m:decide (i≥2^63)=false:=Qw (by lia);rw[l,m,Bool.or_false]) (by rw[h1];simpa using h2) ⟨.str ⟨#[c]⟩,H,I.tok _,⟨_,rfl⟩,q⟩) g
theorem x9(a:Qa9)(n j:Nat)(u:Value):Obj.mapSeq (·.setIfInBounds j u) {cls:=.type "list",data:=.seq a.toArray n}={cls:=.type "list",data:=.seq (a.set j u).toArray n}:=by
 simp[Obj.mapSeq]
theorem Inv.lst{U:List (Addr×Obj)}{σ:St}{H:Hp}{s:Shared}{p:Addr}{B:Qbi}(I:Inv X U σ H s)(h:H p=some (.lst B)):
  ∃(a:Qa9)(n:Nat),bu B a/\s.heap.get? p=some {cls:=.type "list",data:=.seq a.toArray n}/\B.length<=sizeLine:=by
 obtain⟨z,a,n,r,e⟩:=I.hok p _ h;exact⟨a,n,r,e,z⟩
theorem Inv.SR{B c:Qbi}{a its':Qa9}{d:Nat}{f:Obj->Obj}(I:Inv X U σ H s)(h:H p=some (.lst B))
  (i:s.heap.get? p=some {cls:=.type "list",data:=.seq a.toArray n}) (g:f {cls:=.type "list",data:=.seq a.toArray n}={cls:=.type "list",data:=.seq its'.toArray d}) (r:bu c its') (j:c.length<=sizeLine) (t:Nat):
  Inv X U σ (upd H p (.lst c)) {s with heap:=s.heap.update p f,toks:=t}:=by
 have e:(s.heap.update p f).get? p=some {cls:=.type "list",data:=.seq its'.toArray d}:=by
  rw[Qah f i (by rw[g]<;>rfl),g]
 refine I.write (x:=p) (e:=p) (by rw[h];trivial) (.inl rfl) (λb u k q=>(wQ _ _ (Ne.symm k)).trans q) ⟨_,e⟩ ?_;exact⟨j,its',d,r,e⟩
def SV:V->V->V->Hp->(Hp->Prop)->Prop:=λo i v H Q=>∃p B k j,o=.ref p/\i=.int k/\H p=some (.lst B)/\ur B.length k=some j/\Q (upd H p (.lst (B.set j v)))
theorem fF:Ir X SV:=by
 intro a s e H o i v m w u Q I f g l h;obtain⟨p,B,k,j,rfl,rfl,hp,hj,q⟩:=h;cases f;obtain⟨t,rfl⟩:=g;obtain⟨its,n,r,ho,hz⟩:=I.lst hp;obtain⟨h1,h2,h3,h4⟩:=tS hj;have b:=r.length;have x:=CU;have d:Inv X a e (upd H p (.lst (B.set j v))) {s with heap:=s.heap.update p (Obj.mapSeq (·.setIfInBounds j u))}:=
  I.SR hp ho (x9 its n j u) (r.set l j) (by rw[List.length_set];exact hz) s.toks
 by_cases h0:0<=k
 ·have c:k.toNat=j:=by
   rw[seqIndex_of h0 h4]at h1;exact QD h1
  exact PySem.W.ki_setAt ho h0 (by lia) (by rw[XC,<- b];exact h4) (by rw[c];exact⟨_,d,q⟩)
 ·have c:(k+(its.toArray.size:Int)).toNat=j:=by
   rw[seqIndex_neg (by lia) h3]at h1;rw[XC,<- b];exact QD h1
  exact PySem.W.ki_setBack ho (by lia) (by rw[XC,<- b];exact h3) (by lia) (by rw[c];exact⟨_,d,q⟩)
theorem u4(lo a:Option Int)(n:Nat):(sliceBounds lo a none n).1=((HT.cf n 0 lo:Nat):Int)/\(sliceBounds lo a none n).2.1=((HT.cf n n a:Nat):Int)/\(sliceBounds lo a none n).2.2=1:=by
 refine⟨?_,?_,rfl⟩
 ·cases lo with
  |none=>simp[sliceBounds,HT.cf]
  |some i=>
   simp only[sliceBounds,HT.cf,Option.getD_none,show(1:Int) > 0 by decide,if_true];by_cases h:i<0
   ·simp only[h,if_true]<;>lia
   ·simp only[h,if_false]<;>lia
 ·cases a with
  |none=>simp[sliceBounds,HT.cf]
  |some i=>
   simp only[sliceBounds,HT.cf,Option.getD_none,show(1:Int) > 0 by decide,if_true];by_cases h:i<0
   ·simp only[h,if_true]<;>lia
   ·simp only[h,if_false]<;>lia
theorem qH(a:Qa9)(lo b:Option Int):slicePick a.toArray lo b none=((a.drop (HT.cf a.length 0 lo)).take (HT.cf a.length a.length b-HT.cf a.length 0 lo)).toArray:=by
 obtain⟨h1,h2,h3⟩:=u4 lo b a.toArray.size;unfold slicePick;rw[h1,h2,h3];simp only[sliceRange_one,pick_run,XC]<;>rfl
def IL(K:QZ):V->Option Int->Option Int->Hp->VK->Prop:=λx lo hi H Q=>∃a B,x=.ref a/\ak K H a B/\∀p,H p=none->Q (.ref p) (upd H p (.lst (gj B lo hi)))
theorem SX:xy X (IL X.K):=by
 intro e s l H x v vl m c d n Q I f g i j h;obtain⟨a,B,rfl,hx,q⟩:=h;cases f;obtain⟨its,r,ht,hz⟩:=I.list hx;have k:=r.length;refine⟨"list",_,slot_list_getitem.lookup,ht.isList.typeIs,?_⟩;refine wpAny_getItem_list_slice ht.isList g i j .none (by simp) ?_ (by rw[XC]<;>lia);rw[qH,<- k];refine⟨.ref s.heap.objs.size,_,I.laid (t':=s.toks) (o:=.lst (gj B c d)) (λb p q=>Qc _ q) (Qy _) ?_,rfl,q _ (I.hok.fresh (Qy _))⟩;exact⟨Qaa (nE B c d) hz,_,0,(r.drop (HT.cf B.length 0 c)).take (HT.cf B.length B.length d-HT.cf B.length 0 c),Qd _ rfl⟩
def x_:V->Bool
 | .ao=>true
 | .bl _=>true
 | .int _=>true
 | .str _=>true
 |_=>false
def A5:V->V->Bool
 | .ao,.ao=>true
 | .bl a,.bl b=>a==b
 | .bl a,.int b=>(if a then 1 else 0)==b
 | .int a,.bl b=>a==(if b then 1 else 0)
 | .int a,.int b=>a==b
 | .str a,.str b=>a==b
 |_,_=>false
theorem SY{y x:V}{v:Value}(d:RelV y u)(c:RelV x v)(f:x_ y=true)(e:x_ x=true):SeqAt.EqAt A s u v (A5 y x):=by
 cases y with
 |ao=>
  cases d;cases x with
  |ao=>cases c;exact SeqAt.EqAt.same _
  |bl b=>cases c;exact SeqAt.EqAt.none_bool b
  |int b=>obtain⟨t,rfl⟩:=c;exact SeqAt.EqAt.none_int b t
  |str b=>obtain⟨t,rfl⟩:=c;exact SeqAt.EqAt.none_str b t
  |_=>exact absurd (show false=true from e) V1
 |bl a=>
  cases d;cases x with
  |ao=>cases c;exact SeqAt.EqAt.bool_none a
  |bl b=>cases c;exact SeqAt.EqAt.bool_bool a b
  |int b=>obtain⟨t,rfl⟩:=c;exact SeqAt.EqAt.bool_int a b t
  |str b=>obtain⟨t,rfl⟩:=c;exact SeqAt.EqAt.bool_str a b t
  |_=>exact absurd (show false=true from e) V1
 |int a=>
  obtain⟨t',rfl⟩:=d;cases x with
  |ao=>cases c;exact SeqAt.EqAt.int_none a t'
  |bl b=>cases c;exact SeqAt.EqAt.int_bool a t' b
  |int b=>obtain⟨t,rfl⟩:=c;exact SeqAt.EqAt.int_int a t' b t
  |str b=>obtain⟨t,rfl⟩:=c;exact SeqAt.EqAt.int_str a t' b t
  |_=>exact absurd (show false=true from e) V1
 |str a=>
  obtain⟨t',rfl⟩:=d;cases x with
  |ao=>cases c;exact SeqAt.EqAt.str_none a t'
  |bl b=>cases c;exact SeqAt.EqAt.str_bool a t' b
  |int b=>obtain⟨t,rfl⟩:=c;exact SeqAt.EqAt.str_int a t' b t
  |str b=>obtain⟨t,rfl⟩:=c;exact SeqAt.EqAt.str_str a t' b t
  |_=>exact absurd (show false=true from e) V1
 |_=>exact absurd (show false=true from f) V1
def qw(x:V)(u:Value):Bool:=match u with
 | .none=>A5 .ao x
 | .bool b=>A5 (.bl b) x
 | .int i _=>A5 (.int i) x
 | .str z _=>A5 (.str z) x
 |_=>false
theorem Me{x y:V}(r:RelV y u)(f:x_ y=true):qw x u=A5 y x:=by
 cases y with
 |ao=>cases r;rfl
 |bl b=>cases r;rfl
 |int i=>obtain⟨t,rfl⟩:=r;rfl
 |str z=>obtain⟨t,rfl⟩:=r;rfl
 |_=>exact absurd (show false=true from f) V1
theorem l6{x:V}:∀{B:Qbi}{us:Qa9},bu B us->B.all x_=true->us.any (qw x)=B.any λy=>A5 y x
 |_,_,.nil,_=>rfl
 |y::B,u::us,.cons r t,f=>by
  rw[List.all_cons,Qai]at f;rw[List.any_cons,List.any_cons,Me r f.1,l6 t f.2]
theorem iZ{A:Around}{s:Shared}{x:V}{v:Value}(a:RelV x v)(b:x_ x=true):∀{B:Qbi}{us:Qa9},bu B us->B.all x_=true->∀u∈us,SeqAt.EqAt A s u v (qw x u)
 |_,_,.nil,_=>λu hu=>by cases hu
 |y::B,u::us,.cons r t,f=>λc hu=>by
  rw[List.all_cons,Qai]at f;rcases Qp.mp hu with rfl|hu
  ·rw[Me r f.1];exact SY r a f.1 b
  ·exact iZ a b t f.2 c hu
def BP(x:V)(B:Qbi):Bool:=B.any λy=>A5 y x
def Mf(K:QZ)(a:Bool):R2:=λx y H Q=>∃p B,y=.ref p/\(ak K H p B\/ae K H p B)/\x_ x=true/\B.all x_=true/\Q (.bl (if a then !BP x B else BP x B)) H
theorem yR:ck X (compareOp .In) (Mf X.K false):=by
 intro b s e H x y v u Q I c d h;obtain⟨p,B,rfl,hq,fx,fs,q⟩:=h;cases d;rcases hq with hq|hq
 ·obtain⟨its,r,pl,hz⟩:=I.list hq;refine SeqAt.in_listAt (qw x) pl.isList (λw a=>iZ c fx r fs w (by simpa using a)) ⟨.bl _,H,I,rfl,?_⟩;rw[show its.toArray.any (qw x)=its.any (qw x)by simp,l6 r fs];exact q
 ·obtain⟨its,r,pl,hz⟩:=I.tuple hq;refine SeqAt.in_tupleAt (qw x) pl (λw a=>iZ c fx r fs w (by simpa using a)) ⟨.bl _,H,I,rfl,?_⟩;rw[show its.toArray.any (qw x)=its.any (qw x)by simp,l6 r fs];exact q
theorem sP:ck X (compareOp .NotIn) (Mf X.K true):=by
 intro b s e H x y v u Q I c d h;obtain⟨p,B,rfl,hq,fx,fs,q⟩:=h;cases d;rcases hq with hq|hq
 ·obtain⟨its,r,pl,hz⟩:=I.list hq;refine SeqAt.notIn_listAt (qw x) pl.isList (λw a=>iZ c fx r fs w (by simpa using a)) ⟨.bl _,H,I,rfl,?_⟩;rw[show its.toArray.any (qw x)=its.any (qw x)by simp,l6 r fs];exact q
 ·obtain⟨its,r,pl,hz⟩:=I.tuple hq;refine SeqAt.notIn_tupleAt (qw x) pl (λw a=>iZ c fx r fs w (by simpa using a)) ⟨.bl _,H,I,rfl,?_⟩;rw[show its.toArray.any (qw x)=its.any (qw x)by simp,l6 r fs];exact q
theorem sE:jq X (.type "list") (λB H Q=>∃p ys,B=[.ref p]/\(ak X.K H p ys\/ae X.K H p ys)/\∀l,H l=none->Q (.ref l) (upd H l (.lst ys))):=by
 intro g s t H B y Q I r h;obtain⟨p,ys,rfl,hq,q⟩:=h;obtain⟨u,rfl,rx⟩:=vals1 r;cases rx;have i:∀(a:Qa9),bu ys a->ys.length<=sizeLine->∀(c:Heap)(d:Nat),(∀b m,s.heap.get? b=some m->c.get? b=some m)->
   c.get? s.heap.objs.size=some {cls:=.type "list",dict:=none,data:=.seq a.toArray d,slots:=#[]}->EP X g t Q (.ref s.heap.objs.size) {s with heap:=c}:=λa f j c d k e=>
  ⟨.ref s.heap.objs.size,_,I.laid (t':=s.toks) k (Qy _) (show c_ X.prog X.w _ c _ (.lst ys)from⟨j,a,d,f,e⟩),rfl,q _ (I.hok.fresh (Qy _))⟩
 rcases hq with hq|hq
 ·obtain⟨a,f,pl,j⟩:=I.list hq;have x:=f.length;obtain⟨o,ho,hc,n,hd⟩:=pl.isList;exact call_list_seq p (.inl rfl) ho hc hd (λc d k e=>i a f j c d k e) (by simp only[XC]<;>lia)
 ·obtain⟨a,f,pl,j⟩:=I.tuple hq;have x:=f.length;obtain⟨o,ho,hc,n,hd⟩:=pl;exact call_list_seq p (.inr rfl) ho hc hd (λc d k e=>i a f j c d k e) (by simp only[XC]<;>lia)
theorem qE:jq X (.type "tuple") (λB H Q=>∃p ys,B=[.ref p]/\((ak X.K H p ys/\∀l,H l=none->Q (.ref l) (upd H l (.tup ys)))\/(ae X.K H p ys/\Q (.ref p) H))):=by
 intro a s f H B k Q I r h;obtain⟨p,ys,rfl,h⟩:=h;obtain⟨u,rfl,rx⟩:=vals1 r;cases rx;rcases h with⟨d,q⟩|⟨d,q⟩
 ·obtain⟨its,r',pl,hz⟩:=I.list d;have m:=r'.length;refine call_tuple_list pl.isList (λc i=>?_) (by simp only[XC]<;>lia);have g:Inv X a f H {s with heap:=c}:=I.kept (t':=s.toks) i;have j:Inv X a f (upd H c.objs.size (.tup ys)) {s with heap:=c.push {cls:=.type "tuple",data:=.seq its.toArray}}:=
   g.laid (t':=s.toks) (λb o e=>Qc _ e) (Qy _) (show c_ X.prog X.w _ _ _ (.tup ys)from⟨⟨hz,AZ.new rfl rfl⟩,its,r',IsTup.new _ _⟩)
  exact⟨.ref c.objs.size,_,j,rfl,q _ (g.hok.fresh (Qy _))⟩
 ·obtain⟨its,r',pl,hz⟩:=I.tuple d;exact call_tuple_same pl ⟨.ref p,H,I,rfl,q⟩
def D7(K:QZ)(T:String)(x:V)(H:Hp):Prop:=match x with
 | .str _=>T="str"
 | .int _=>T="int"
 | .ref p=>(T="list"/\∃B,ak K H p B)\/(T="tuple"/\∃o,K.lookup p=some o/\o.cls=.type "tuple"/\o.dict=none)\/
   (T="dict"/\((∃kvs,H p=some (.dK kvs))\/∃kvs,H p=some (.dT kvs)))\/(T="set"/\∃S n,H p=some (.set S n))
 |_=>False
theorem Mg{x:V}{v:Value}(I:Inv X U σ H s)(r:RelV x v)(ty:D7 X.K T x H):
  s.TypeIs v T/\∀a,v=.ref a->∃ob,s.heap.get? a=some ob/\ob.dict=none:=by
 cases x with
 |str z=>
  obtain⟨t,rfl⟩:=r;cases(show T="str" from ty);exact⟨typeIs_str s z t,λ_ e=>nomatch e⟩
 |int i=>
  obtain⟨t,rfl⟩:=r;cases(show T="int" from ty);exact⟨typeIs_int s i t,λ_ e=>nomatch e⟩
 |ref p=>
  cases r;rcases ty with⟨rfl,k,h⟩|⟨rfl,o,b,j,d⟩|⟨rfl,b⟩|⟨rfl,S,n,b⟩
  ·obtain⟨its,_,pl,_⟩:=I.list h;refine⟨pl.isList.typeIs,λa e=>?_⟩;cases e;obtain⟨o,n,e,c,d,_⟩:=pl;exact⟨o,e,d⟩
  ·refine⟨⟨o,I.fi p o b,j⟩,λa e=>?_⟩;cases e;exact⟨o,I.fi _ o b,d⟩
  ·have z:∃o,s.heap.get? p=some o/\o.ExactDict:=by
    rcases b with⟨f,b⟩|⟨f,b⟩
    ·obtain⟨_,_,_,_,o,_,_,e,ex,_⟩:=I.hok p _ b;exact⟨o,e,ex⟩
    ·obtain⟨_,_,_,_,o,_,_,e,ex,_⟩:=I.hok p _ b;exact⟨o,e,ex⟩
   obtain⟨o,e,ex⟩:=z;refine⟨⟨o,e,ex.1⟩,λa g=>?_⟩;cases g;exact⟨o,e,ex.2.1⟩
  ·obtain⟨o,_,_,_,e,ex,_⟩:=I.hok p _ b;refine⟨⟨o,e,ex.1⟩,λa g=>?_⟩;cases g;exact⟨o,e,ex.2.1⟩
 |_=>exact False.elim ty
def Mh(K:QZ)(T:String)(r:V->Qbi->Hp->VK->Prop)(a:TE):TE:=λσ H Q=>a σ H λx H1=>D7 K T x H1/\r x [] H1 Q
def CV(K:QZ)(T:String)(r:V->Qbi->Hp->VK->Prop)(a:TE)(t:TA):TE:=λσ H Q=>a σ H λx H1=>D7 K T x H1/\t σ H1 λB H2=>r x B H2 Q
variable{o:Expr}{id:String}{r:V->Qbi->Hp->VK->Prop}
theorem S0(e:PlainAttrs T)(slot:Slot T name id)(f:typeOf (.builtin id)=pure (.type "method_descriptor"))(g:IK X id r)(i:PE X o to)
  (j:attributeBase o name X.env (eval o X.env)=eval o X.env:=by rfl) (k:(apos.endLine==cpos.line)=true:=by rfl):PE X (.Call (.Attribute o name apos) [] [] cpos) (Mh X.K T r to):=by
 intro a s b H Q I h;refine wpAny_Call_method0_late j k (bh (i a s b H _ I h) ?_);rintro v l ⟨x,m,c,d,n,p⟩;obtain⟨h1,h2⟩:=Mg c d n;exact⟨T,id,e,slot,f,h1,h2,Calls.callWith_builtin rfl (PySem.evalArgs_none (g a l b m x [] v [] Q c d .nil p))⟩
theorem S1 (g:PlainAttrs T) (slot:Slot T name id) (i:typeOf (.builtin id)=pure (.type "method_descriptor")) (j:IK X id r) (k:PE X o to) (l:PA X (e::Y) t)
  (m:attributeBase o name X.env (eval o X.env)=eval o X.env:=by rfl)
  (n:((backTo cpos (starEach (e::Y) X.env)).all (λx=> !x.1)&&(backToKw cpos (keywordEach [] X.env)).all (λx=>x.1.isSome)
   &&decide ((e::Y).length+([]:List Keyword).length+(if ([]:List Keyword).isEmpty then 0 else 1) < 30))=true:=by rfl)
  (p:(apos.endLine==cpos.line)=true:=by rfl) (q:Qbl X e Y:=by rfl) (u:Qbm X cpos Y:=by rfl):
  PE X (.Call (.Attribute o name apos) (e::Y) [] cpos) (CV X.K T r to t):=by
 intro a s b H Q I h
 refine wpAny_Call_method_late m n p rfl (bh (k a s b H _ I h) ?_)
 rintro v w ⟨x,y,c,d,z,A⟩
 obtain ⟨h1,h2⟩:=Mg c d z
 refine ⟨T,id,g,slot,i,h1,h2,?_⟩
 have f:=l cpos a w b y _ c A
 rw [q] at f ⊢
 refine Calls.callWith_builtin (by show (false||(backTo cpos (starEach Y X.env)).any (·.1))=false;rw [u]<;>rfl) (Calls.evalArgs_plain ?_)
 exact bh f λC D ⟨E,G,L,N,P⟩=>j a D b G x E v C Q L d N P
/- B.append(e),list.index on a abD tuple .. are IK facts of 06m -/
end
def BQ(X:Cx)(id:String)(r:V->Qbi->Hp->VK->Prop):Prop:=
 ∀(U:List (Addr×Obj))(s:Shared)(σ:St)(H:Hp)(x:V)(B:Qbi)(v:Value)(us:Qa9)(Q:VK),Inv X U σ H s->RelV x v->bu B us->r x B H Q->
  wpAny (model X.prog X.w) X.A (call (.builtin id) (v::us)) (EP X U σ Q) X.xe s
theorem bu.one{x:V}{us:Qa9}(h:bu [x] us):∃u,us=[u]/\RelV x u:=by
 cases h with
 |cons r t=>
  cases t;exact⟨_,rfl,r⟩
theorem bu.two{x y:V}(h:bu [x,y] us):∃u v,us=[u,v]/\RelV x u/\RelV y v:=by
 cases h with
 |cons r t=>
  cases t with
  |cons q t=>
   cases t;exact⟨_,_,rfl,r,q⟩
theorem bu.zero:∀{us:Qa9},bu [] us->us=[]
 |_,.nil=>rfl
theorem bu.dropLast{B:Qbi}{us:Qa9}(h:bu B us):bu B.dropLast us.dropLast:=by
 induction h with
 |nil=>exact .nil
 |cons r t ih=>
  cases t with
  |nil=>exact .nil
  |cons q t'=>exact .cons r ih
theorem bu.eraseIdx:∀{B:Qbi}{us:Qa9}(i:Nat),bu B us->bu (B.eraseIdx i) (us.eraseIdx i)
 |_,_,_,.nil=>.nil
 |_,_,0,.cons _ t=>t
 |_,_,i+1,.cons r t=>.cons r (bu.eraseIdx i t)
theorem bu.rep{B:Qbi}{us:Qa9}(h:bu B us):∀k:Nat,bu (List.replicate k B).flatten (List.replicate k us).flatten
 |0=>.nil
 |k+1=>by
  rw[QaS,QaS,Qa0,Qa0];exact bu.append h (bu.rep h k)
theorem xJ(l:List α):l.eraseIdx (l.length-1)=l.dropLast:=by
 induction l with
 |nil=>rfl
 |cons a r ih=>
  cases r with
  |nil=>rfl
  |cons b r=>
   have e:(a::b::r).length-1=((b::r).length-1)+1:=by
    have h1:(a::b::r).length=r.length+2:=rfl;have h2:(b::r).length=r.length+1:=rfl
    lia
   rw[e,List.eraseIdx_cons_succ,ih]
   all_goals rfl
theorem rT{α:Type}:∀(l:List α)(i:Nat),(l.eraseIdx i).length<=l.length
 | [],_=>Qy _
 |_::_,0=>Nat.le_succ _
 |_::r,i+1=>Nat.succ_le_succ (rT r i)
theorem rH(a:Qa9):∀(k:Nat)(b:Qa9),
  List.foldl (λc d=>c++d) b.toArray (List.replicate k a.toArray)=(b++(List.replicate k a).flatten).toArray
 |0,b=>by simp
 |k+1,b=>by
  have e:b.toArray++a.toArray=(b++a).toArray:=by simp
  have f:(b++a)++(List.replicate k a).flatten=b++(List.replicate (k+1) a).flatten:=by
   rw[QaS,Qa0,List.append_assoc]
  rw[<- f,<- rH a k (b++a),<- e,QaS,List.foldl_cons]
section
variable{B ys zs:Qbi}
theorem Inv.FU{a its':Qa9}{f:Array Value->Array Value}(I:Inv X U σ H s)(b:H l=some (.lst B))
  (e:s.heap.get? l=some {cls:=.type "list",data:=.seq a.toArray n}) (c:f a.toArray=its'.toArray) (hv:bu ys its') (d:ys.length<=sizeLine):
  Inv X U σ (upd H l (.lst ys)) {s with heap:=s.heap.update l (Obj.mapSeq f),toks:=t'}:=by
 have q:=PySem.IsL.update e f;rw[c]at q;refine I.write (x:=l) (e:=l) (by rw[b];exact trivial) (.inl rfl) (λi u g h=>(wQ s.heap (Obj.mapSeq f) (Ne.symm g)).trans h) ⟨_,q⟩ ?_;exact⟨d,its',_,hv,q⟩
theorem Inv.Mi{a:Qa9}(I:Inv X U σ H s)(hv:bu ys a)(b:ys.length<=sizeLine):
  Inv X U σ (upd H s.heap.objs.size (.lst ys)) {s with heap:=s.heap.push {cls:=.type "list",data:=.seq a.toArray},toks:=t'}:=
 I.laid (λ_ _ q=>Qc _ q) (Qy _) ⟨b,a,0,hv,Qd _ rfl⟩
theorem Inv.fresh(I:Inv X U σ H s):H s.heap.objs.size=none:=I.hok.fresh (Qy _)
theorem Inv.A6(I:Inv X U σ H s)(b:H l=some (.lst B)):B.length<=sizeLine/\∃(a:Qa9)(n:Nat),bu B a/\B.length=a.length/\s.heap.get? l=some {cls:=.type "list",data:=.seq a.toArray n}:=by
 obtain⟨z,a,n,r,e⟩:=I.hok l _ b;exact⟨z,a,n,r,r.length,e⟩
theorem Mj(h:n<=sizeLine):Builtin.List.listTooLong n=false:=by
 unfold Builtin.List.listTooLong;exact Qw (by lia)
end
def CW:V->Qbi->Hp->VK->Prop:=λx vs H Q=>∃l B y,x=.ref l/\vs=[y]/\H l=some (.lst B)/\B.length<sizeLine/\Q .ao (upd H l (.lst (B++[y])))
theorem bJ:BQ X "list.append" CW:=by
 intro a s d H x f v g Q I b c h;obtain⟨l,B,y,rfl,rfl,hH,hz,q⟩:=h;cases b;obtain⟨u,rfl,ru⟩:=c.one;obtain⟨z,its,n,r,hl,e⟩:=I.A6 hH;refine call_meets F.slot_list_append ⟨_,e,rfl⟩ F.entry_list_append (F.args_list_append_2 _ _) (PySem.list_append l its.toArray n u (by rw[XC];lia)) ⟨e,?_⟩;refine⟨.ao,_,I.FU (its':=its++[u]) hH e (by simp) (r.append (.cons ru .nil)) ?_,rfl,q⟩;rw[Qk,List.length_singleton]
 lia
def S3:V->Qbi->Hp->VK->Prop:=λx vs H Q=>∃l b B zs,x=.ref l/\vs=[.ref b]/\H l=some (.lst B)/\H b=some (.lst zs)/\B.length+zs.length<=sizeLine/\Q .ao (upd H l (.lst (B++zs)))
theorem lY:BQ X "list.extend" S3:=by
 intro c s i H x j v k Q I d f h;obtain⟨l,b,B,zs,rfl,rfl,hH,hB,hz,q⟩:=h;cases d;obtain⟨u,rfl,ru⟩:=f.one;cases ru;obtain⟨z,its,n,r,hl,e⟩:=I.A6 hH;obtain⟨z2,its2,n2,r2,iz,e2⟩:=I.A6 hB;have a:its.toArray.size+its2.toArray.size<=sizeLine:=by rw[XC,XC];lia
 have g:¬(!its.toArray.isEmpty&&Builtin.List.listTooLong (its.toArray.size+its2.toArray.size))=true:=by
  rw[Mj a,Bool.and_false];exact V1
 refine call_meets F.slot_list_extend ⟨_,e,rfl⟩ F.entry_list_extend (F.args_list_extend_2 _ _)
  (AutoSeq1.list_extend_list_list_0 l its.toArray n b its2.toArray n2 g (by rw[XC];lia) (by lia)) ⟨e,e2,?_⟩
 refine⟨.ao,_,I.FU (its':=its++its2) hH e (by simp) (r.append r2) ?_,rfl,q⟩;rw[Qk]
 lia
def S6:V->Qbi->Hp->VK->Prop:=λx vs H Q=>∃l B y,x=.ref l/\vs=[]/\H l=some (.lst B)/\B[B.length-1]? =some y/\Q y (upd H l (.lst B.dropLast))
theorem Mk:BQ X "list.pop" S6:=by
 intro a s g H x i v j Q I b c h;obtain⟨l,B,y,rfl,rfl,hH,hy,q⟩:=h;cases b;have d:=c.zero;subst d;obtain⟨z,its,n,r,hl,e⟩:=I.A6 hH;obtain⟨u,hu,ru⟩:=r.get hy;have f:its.toArray[its.toArray.size-1]? =some u:=by
  show its.toArray[its.length-1]? =some u;rw[<- Qa1,<- hl];exact hu
 refine call_meets F.slot_list_pop ⟨_,e,rfl⟩ F.entry_list_pop (F.args_list_pop_1 _) (MeetsSeq.list_pop_last l its.toArray n u f (by rw[XC];lia)) ⟨e,?_⟩;refine⟨y,_,I.FU (its':=its.dropLast) hH e ?_ r.dropLast ?_,ru,q⟩
 ·show its.toArray.eraseIdxIfInBounds (its.toArray.size-1)=its.dropLast.toArray;rw[XC,List.eraseIdxIfInBounds_toArray,xJ]
 ·rw[List.length_dropLast]
  lia
def S8:V->Qbi->Hp->VK->Prop:=λx vs H Q=>∃l B i k y,x=.ref l/\vs=[.int i]/\H l=some (.lst B)/\ -(2^63)<=i/\i<2^63/\seqIndex? i B.length=some k/\B[k]? =some y/\Q y (upd H l (.lst (B.eraseIdx k)))
theorem S9:BQ X "list.pop" S8:=by
 intro a s d H x f v g Q I b c h;obtain⟨l,B,i,k,y,rfl,rfl,hH,h1,h2,hk,hy,q⟩:=h;cases b;obtain⟨u,rfl,ru⟩:=c.one;obtain⟨t,rfl⟩:=ru;obtain⟨z,its,n,r,hl,e⟩:=I.A6 hH;obtain⟨w,hw,qv⟩:=r.get hy;refine call_meets F.slot_list_pop ⟨_,e,rfl⟩ F.entry_list_pop (F.args_list_pop_2 _ _)
  (MeetsSeq.list_pop_at l its.toArray n i t k w (fitsIndex_both h1 h2) (by rw[XC,<- hl];exact hk) (by rw[<- Qa1];exact hw) (by rw[XC];lia)) ⟨e,?_⟩
 refine⟨y,_,I.FU (its':=its.eraseIdx k) hH e ?_ (r.eraseIdx k) ?_,qv,q⟩
 ·show its.toArray.eraseIdxIfInBounds k=(its.eraseIdx k).toArray;rw[List.eraseIdxIfInBounds_toArray]
 ·have:=rT B k
  lia
def S_:R2:=λx y H Q=>∃l b B zs,x=.ref l/\y=.ref b/\H l=some (.lst B)/\H b=some (.lst zs)/\B.length+zs.length<=sizeLine/\∀p,H p=none->Q (.ref p) (upd H p (.lst (B++zs)))
theorem Tc:ck X (binaryOp .Add) S_:=by
 intro a s g H x y v u Q I c d h;obtain⟨l,b,B,zs,rfl,rfl,hH,hB,hz,q⟩:=h;cases c;cases d;obtain⟨z,its,n,r,hl,e⟩:=I.A6 hH;obtain⟨z2,its2,n2,r2,iz,e2⟩:=I.A6 hB;refine PySem.P.add_list e e2 ?_ (by rw[XC,XC];lia);have f:its.toArray++its2.toArray=(its++its2).toArray:=by simp
 rw[f];exact⟨.ref _,_,I.Mi (t':=s.toks) (r.append r2) (by rw[Qk];lia),rfl,q _ I.fresh⟩
def Td:R2:=λx y H Q=>∃l k B,x=.ref l/\y=.int k/\H l=some (.lst B)/\ -(2^63)<=k/\k<2^63/\B.length*k.toNat<=sizeLine/\
 ∀p,H p=none->Q (.ref p) (upd H p (.lst (List.replicate k.toNat B).flatten))
theorem Te(B:List α)(k:Nat):(List.replicate k B).flatten.length=k*B.length:=by
 induction k with
 |zero=>simp
 |succ k ih=>rw[QaS,Qa0,Qk,ih,Qa2,Nat.add_comm]
theorem Tf:ck X (binaryOp .Mult) Td:=by
 intro g s L H x y v u Q I j o h
 obtain ⟨l,k,N,rfl,rfl,p,h1,h2,i,q⟩:=h
 cases j
 obtain ⟨t,rfl⟩:=o
 obtain ⟨z,b,n,r,w,e⟩:=I.A6 p
 have A:b.toArray.size*k.toNat<=sizeLine:=by rw [XC,<- w];exact i
 have C:¬b.toArray.size*k.toNat > (2^63 - 1) / 8:=by
  have:(sizeLine:Nat)<=(2^63 - 1) / 8:=by decide
  lia
 have D:¬(!Builtin.List.listFitsIndex k)=true:=by
  rw [fitsIndex_both h1 h2]
  exact V1
 have E:¬Builtin.List.listTooLong (b.toArray.size*k.toNat)=true:=by
  rw [Mj A]
  exact V1
 have c:List.foldl (λd f=>d++f) #[] (List.replicate (if b.toArray.isEmpty=true then 0 else k.toNat) b.toArray)=(List.replicate k.toNat b).flatten.toArray:=by
  have G:∀ m:Nat,List.foldl (λd f=>d++f) #[] (List.replicate m b.toArray)=(List.replicate m b).flatten.toArray:=λm=>by
   have:=rH b m []
   rw [Qaz] at this
   exact this
  rw [G]
  cases b with
  | nil=>simp
  | cons a r'=>rw [if_neg (by simp)]
 refine wpAny_binaryOp_repeat_ref (T:="list") (U:="int") (by decide) ⟨_,e,rfl⟩ (λK=>typeIs_int K k t) noFill_list_mul F.fills_int_mul F.slot_int_rmul repeat_list F.slot_int_index.lookup
  (call_meets F.slot_int_rmul (typeIs_int s k t) F.entry_int_rmul (F.args_int_rmul_2 _ _) (int___rmul___int_list k t l b.toArray n)
   ⟨e,rfl,⟨_,e,rfl⟩,call_meets F.slot_list_mul ⟨_,e,rfl⟩ F.entry_list_mul (F.args_list_mul_2 _ _) (AutoListH.list___mul___list_int_3 l b.toArray n k t D C E) ⟨e,?_⟩⟩)
 rw [c]
 exact ⟨.ref _,_,I.Mi (t':=s.toks) (r.rep k.toNat) (by rw [Te,Nat.mul_comm];exact i),rfl,q _ I.fresh⟩
section
variable{κ:Type}[DecidableEq κ]
def fu(kvs:List (κ×V))(k:κ):Qbj:=(kvs.find? λa=>decide (a.1=k)).map (·.2)
def putK(kvs:List (κ×V))(k:κ)(v:V):List (κ×V):=
 if(kvs.any λa=>decide (a.1=k))=true then kvs.map (λa=>if a.1=k then(a.1,v)else a)else kvs++[(k,v)]
theorem cI{p:κ×V}{r:List (κ×V)}{k:κ}(e:p.1=k):fu (p::r) k=some p.2:=by simp[fu,QaA,e]
theorem cH{p:κ×V}{r:List (κ×V)}{k:κ}(e:¬p.1=k):fu (p::r) k=fu r k:=by simp[fu,QaA,e]
theorem j8(k:κ):∀kvs:List (κ×V),(kvs.any λkv=>decide (kv.1=k))=(fu kvs k).isSome
 | []=>rfl
 |p::r=>by
  rw[List.any_cons];by_cases e:p.1=k
  ·simp only[cI e,decide_eq_true e,Bool.true_or,Option.isSome_some]
  ·rw[cH e,Qw e,Bool.false_or];exact j8 k r
theorem vM(k j:κ)(y:V):∀kvs:List (κ×V),fu (kvs.map λkv=>if kv.1=k then(kv.1,y)else kv) j=(fu kvs j).map λx=>if j=k then y else x
 | []=>rfl
 |p::r=>by
  have ih:=vM k j y r;rw[Qab];by_cases h:p.1=k
  ·rw[if_pos h];by_cases e:p.1=j
   ·rw[cI (p:=(p.1,y)) e,cI e,Option.map_some,if_pos (e.symm.trans h)]
   ·rw[cH (p:=(p.1,y)) e,cH e,ih]
  ·rw[if_neg h];by_cases e:p.1=j
   ·rw[cI (p:=p) e,cI e,Option.map_some,if_neg (λz=>h (e.trans z))]
   ·rw[cH (p:=p) e,cH e,ih]
theorem mD(k j:κ)(y:V):∀kvs:List (κ×V),fu kvs k=none->fu (kvs++[(k,y)]) j=if j=k then some y else fu kvs j
 | [],_=>by
  by_cases e:k=j
  ·rw[if_pos e.symm];exact cI (p:=(k,y)) e
  ·rw[if_neg (λz=>e z.symm)];exact cH (p:=(k,y)) e
 |p::r,hn=>by
  rw[Qan];have a:¬p.1=k:=λz=>by rw[cI z]at hn;cases hn
  rw[cH a]at hn;have ih:=mD k j y r hn;by_cases e:p.1=j
  ·rw[cI e,cI e,if_neg (λz=>a (e.trans z))]
  ·rw[cH e,cH e,ih]
theorem Tj(kvs:List (κ×V))(k j:κ)(y:V):fu (putK kvs k y) j=if j=k then some y else fu kvs j:=by
 unfold putK;by_cases a:(kvs.any λb=>decide (b.1=k))=true
 ·rw[if_pos a,vM];rw[j8]at a;by_cases e:j=k
  ·obtain⟨x,hx⟩:=Option.isSome_iff_exists.mp a;rw[if_pos e,e,hx,Option.map_some,if_pos rfl]
  ·rw[if_neg e];cases fu kvs j with
   |none=>rfl
   |some x=>rw[Option.map_some,if_neg e]
 ·rw[if_neg a];refine mD k j y kvs ?_;rw[j8]at a;cases q:fu kvs k with
  |none=>rfl
  |some x=>rw[q]at a;exact(a rfl).elim
theorem eL(kvs:List (κ×V))(k:κ)(v:V):(putK kvs k v).length<=kvs.length+1:=by
 unfold putK;split
 ·rw[Ql];lia
 ·rw[Qk,Qac,List.length_nil];lia
theorem u7{kvs:List (κ×V)}{k:κ}(v:V)(h:fu kvs k=none):putK kvs k v=kvs++[(k,v)]:=by
 unfold putK;rw[j8,h];exact if_neg (by decide)
theorem oz.IP{o:Qbj}{u:Qbb}(r:oz o u):o.isSome=u.isSome:=by
 cases o with
 |none=>cases u with
  |none=>rfl
  |some _=>exact(show False from r).elim
 |some _=>cases u with
  |none=>exact(show False from r).elim
  |some _=>rfl
theorem oz.getD{o:Qbj}{u:Qbb}{d:V}{d':Value}(r:oz o u)(a:RelV d d'):RelV (o.getD d) (u.getD d'):=by
 cases o with
 |none=>cases u with
  |none=>exact a
  |some _=>exact(show False from r).elim
 |some _=>cases u with
  |none=>exact(show False from r).elim
  |some _=>exact r
theorem KV.val{kvs:List (κ×V)}{c:List (κ×Value)}(r:KV kvs c)(k:κ):oz (fu kvs k) (valueAt c k):=by
 unfold KV at r
 induction r with
 |nil=>exact True.intro
 | @cons p q ps qs h t ih=>
  obtain⟨h1,h2⟩:=h;by_cases e:p.1=k
  ·have a:q.1=k:=h1.symm.trans e;have b:valueAt (q::qs) k=some q.2:=by simp[valueAt,QaA,a]
   rw[cI e,b];exact h2
  ·have a:¬q.1=k:=λz=>e (h1.trans z);have b:valueAt (q::qs) k=valueAt qs k:=by simp[valueAt,QaA,a]
   rw[cH e,b];exact ih
theorem KV.any{kvs:List (κ×V)}{a:List (κ×Value)}(r:KV kvs a)(k:κ):(kvs.any λkv=>decide (kv.1=k))=a.any λkv=>decide (kv.1=k):=by
 unfold KV at r
 induction r with
 |nil=>rfl
 |cons h t ih=>rw[List.any_cons,List.any_cons,ih,h.1]
theorem KV.repl{kvs:List (κ×V)}{a:List (κ×Value)}(r:KV kvs a)(k:κ){y:V}(b:RelV y u):
  KV (kvs.map λkv=>if kv.1=k then(kv.1,y)else kv) (a.map λkv=>if kv.1=k then(kv.1,u)else kv):=by
 unfold KV at r⊢
 induction r with
 |nil=>exact .nil
 | @cons p q ps qs h t ih=>
  rw[Qab,Qab];refine .cons ?_ ih;obtain⟨h1,h2⟩:=h;by_cases e:p.1=k
  ·rw[if_pos e,if_pos (h1.symm.trans e)];exact⟨h1,b⟩
  ·rw[if_neg e,if_neg (λz=>e (h1.trans z))];exact⟨h1,h2⟩
theorem KV.put{kvs:List (κ×V)}{a:List (κ×Value)}(r:KV kvs a)(k:κ){y:V}(b:RelV y u):KV (putK kvs k y) (stored a k u):=by
 unfold putK stored;rw[r.any k];by_cases e:(a.any λc=>decide (c.1=k))=true
 ·rw[if_pos e,if_pos e];exact r.repl k b
 ·rw[if_neg e,if_neg e];exact Paired.snoc r ⟨rfl,b⟩
theorem KV.length{kvs:List (κ×V)}{a:List (κ×Value)}(r:KV kvs a):kvs.length=a.length:=Paired.length r
end
theorem n6{k:Key}(r:RelV (kV k) u):(ir P w).is k u=true:=by
 cases k with
 |inl k=>cases k with
  |i i=>obtain⟨t,e⟩:=(show ∃t,u=Value.int i t from r);subst e;exact vS P w i t
  |no=>obtain rfl:u=Value.none:=r;rfl
 |inr x=>obtain⟨t,e⟩:=(show ∃t,u=Value.str x t from r);subst e;exact jS P w x t
theorem rO{P:Program}{w:World}:∀{a:List Key}{us:Qa9},bu (a.map kV) us->ItemsAre (ir P w) a us
 | [],_,r=>by rw[List.map_nil]at r;cases r;exact .nil
 |k::a,_,r=>by
  rw[Qab]at r;cases r with
  |cons h t=>exact .cons (n6 h) (rO t)
abbrev KT(H:Hp):Qbe->List (List Key×Addr×Value)->Prop:=Paired λp q=>p.1=q.1/\jc H q.2.1 (p.1.map kV)/\RelV p.2 q.2.2
theorem KT.val{kvs:Qbe}(r:KT H kvs B)(k:List Key):oz (fu kvs k) ((atKey B k).map (·.2)):=by
 induction r with
 |nil=>exact True.intro
 | @cons p q ps qs h t ih=>
  obtain⟨h1,_,h2⟩:=h;by_cases e:p.1=k
  ·have a:q.1=k:=h1.symm.trans e;have b:atKey (q::qs) k=some q.2:=by simp[atKey,QaA,a]
   rw[cI e,b];exact h2
  ·have a:¬q.1=k:=λz=>e (h1.trans z);have b:atKey (q::qs) k=atKey qs k:=by simp[atKey,QaA,a]
   rw[cH e,b];exact ih
theorem KT.repl{kvs:Qbe}(r:KT H kvs B)(k:List Key){y:V}(a:RelV y u):
  KT H (kvs.map λkv=>if kv.1=k then(kv.1,y)else kv) (B.map (putAt k u)):=by
 induction r with
 |nil=>exact .nil
 | @cons p q ps qs h t ih=>
  rw[Qab,Qab];refine .cons ?_ ih;obtain⟨h1,h2,h3⟩:=h;unfold putAt;by_cases e:p.1=k
  ·rw[if_pos e,if_pos (h1.symm.trans e)];exact⟨h1,h2,a⟩
  ·rw[if_neg e,if_neg (λz=>e (h1.trans z))];exact⟨h1,h2,h3⟩
theorem KT.put{kvs:Qbe}(r:KT H kvs B)(k:List Key){y:V}(c:jc H b (k.map kV))(a:RelV y u):
  KT H (putK kvs k y) (storedH B k b u):=by
 have e:(kvs.any λd=>decide (d.1=k))=(atKey B k).isSome:=by
  rw[j8,(r.val k).IP,Option.isSome_map]
 unfold putK storedH;rw[e];by_cases q:(atKey B k).isSome=true
 ·rw[if_pos q,if_pos q];exact r.repl k a
 ·rw[if_neg q,if_neg q];exact Paired.snoc r ⟨rfl,c,a⟩
theorem KT.keeps{kvs:Qbe}(r:KT H kvs B)(a:∀b ys,jc H b ys->jc Z b ys):KT Z kvs B:=
 Paired.Ii r λ_ _ z=>⟨z.1,a _ _ z.2.1,z.2.2⟩
theorem Ml{u:HO}(ok:dm P w H h)(e:Rd H a u):c_ P w H h a u:=e.ok ok
theorem lG{kvs:Qbf}(ok:dm P w H h)(e:Rd H a (.dK kvs)):kvs.length<=sizeLine/\(a==sysModules)=false/\∃vs,KV kvs vs/\h.DictOf (ir P w) a vs:=
 show c_ P w H h a (.dK kvs)from Ml ok e
theorem vJ{kvs:Qbf}(ok:dm P w H h)(e:H a=some (.dK kvs)):kvs.length<=sizeLine/\(a==sysModules)=false/\∃vs,KV kvs vs/\h.DictOf (ir P w) a vs:=lG ok (.inl e)
theorem pP{b:List Key}(ok:dm P w H h)(e:jc H a (b.map kV)):(tupleKind (ir P w)).is h b a:=by
 have c:c_ P w H h a (.tup (b.map kV)):=by
  rcases e with e|⟨_,e⟩
  ·exact ok a _ e
  ·exact(ok a _ e).2
 obtain⟨_,its,r,o,h1,h2,n,h3⟩:=c;exact⟨o,its.toArray,n,h1,h2,h3,by simpa using rO r⟩
theorem qY{kvs:Qbe}(ok:dm P w H h)(e:Rd H a (.dT kvs)):kvs.length<=sizeLine/\(a==sysModules)=false/\
  ∃B,KT H kvs B/\h.DictOfH (tupleKind (ir P w)) a B:=by
 obtain⟨z,y,B,r,o,Y,ep,h1,h2,h3,h4,h5⟩:=(show c_ P w H h a (.dT kvs)from Ml ok e)
 refine⟨z,y,B,r,o,Y,ep,h1,h2,h3,h4,λx hx=>?_,h5⟩;have all:∀{l:Qbe}{m:List (List Key×Addr×Value)},KT H l m->∀x∈m,(tupleKind (ir P w)).is h x.1 x.2.1:=by
  intro l m q
  induction q with
  |nil=>intro x hx;exact nomatch hx
  | @cons p q ps qs hq t ih=>
   intro x hx;rcases Qp.mp hx with e|hx
   ·subst e;exact pP ok (by rw[<- hq.1];exact hq.2.1)
   ·exact ih x hx
 exact all r x hx
theorem Tn{kvs:Qbe}(ok:dm P w H h)(e:H a=some (.dT kvs)):kvs.length<=sizeLine/\(a==sysModules)=false/\
  ∃B,KT H kvs B/\h.DictOfH (tupleKind (ir P w)) a B:=qY ok (.inl e)
def k_(H:Hp)(a:Addr)(y:V)(r:Qbj):Prop:=
 (∃kvs k,Rd H a (.dK kvs)/\y=kV k/\r=fu kvs k)\/∃kvs k b,Rd H a (.dT kvs)/\y=.ref b/\jc H b (k.map kV)/\r=fu kvs k
def FW(H:Hp)(a:Addr)(y v:V)(Z:Hp):Prop:=
 (∃kvs k,H a=some (.dK kvs)/\y=kV k/\kvs.length<sizeLine/\Z=upd H a (.dK (putK kvs k v)))\/
 ∃kvs k b,H a=some (.dT kvs)/\y=.ref b/\jc H b (k.map kV)/\kvs.length<sizeLine/\Z=upd H a (.dT (putK kvs k v))
theorem k_.k{H:Hp}{a:Addr}{kvs:Qbf}{k:Key}(e:H a=some (.dK kvs)):k_ H a (kV k) (fu kvs k):=.inl ⟨kvs,k,.inl e,rfl,rfl⟩
theorem FW.k{H:Hp}{a:Addr}{kvs:Qbf}{k:Key}{v:V}(e:H a=some (.dK kvs))(b:kvs.length<sizeLine):FW H a (kV k) v (upd H a (.dK (putK kvs k v))):=.inl ⟨kvs,k,e,rfl,b,rfl⟩
section
variable{y v:V}{r:Value}{o:Qbj}
theorem Inv.big(I:Inv X U σ H s):sysModules<s.heap.objs.size:=by
 have h:mainGlobals<s.heap.objs.size:=(I.mod.glob.keeps I.bk).lt;exact Nat.lt_trans (by decide) h
theorem zO(j:A.units+1<cLine)(I:Inv X U σ H s)(g:k_ H a y (some v))(i:RelV y u)(h:∀c s',Inv X U σ H s'->RelV v c->Q c s'):
  wpAny (model X.prog X.w) A (getItem (.ref a) u) Q E s:=by
 rcases g with⟨d,k,e,f,l⟩|⟨d,k,b,e,f,m,l⟩
 ·subst f;obtain⟨z,hd,vs,rel,dd⟩:=lG I.hok e;obtain⟨c,hw,qv⟩:=oz.some_of (v:=v) (o:=valueAt vs k) (by rw[l];exact rel.val k);exact wpAny_getItem_of (n6 i) dd.mapOf hw (h c _ (I.tok _) qv)
 ·subst f;cases(show u=Value.ref b from i);obtain⟨z,hd,B,rel,dd⟩:=qY I.hok e;obtain⟨c,hw,qv⟩:=oz.some_of (v:=v) (o:=(atKey B k).map (·.2)) (by rw[l];exact rel.val k);obtain⟨p,hp,j_⟩:=Option.map_eq_some_iff.mp hw;refine wpAny_getItem_heap (tupleKind_room_in1 j) (pP I.hok m) dd hp ?_;rw[j_];exact h c _ (I.tok _) qv
theorem To(i:A.units+1<cLine)(I:Inv X U σ H s)(g:k_ H a y o)(f:RelV y u)(h:∀s',Inv X U σ H s'->Q (.bool o.isSome) s'):
  wpAny (model X.prog X.w) A (compareOp .In u (.ref a)) Q E s:=by
 rcases g with⟨c,k,e,d,l⟩|⟨c,k,b,e,d,j,l⟩
 ·subst d;obtain⟨z,hd,vs,rel,dd⟩:=lG I.hok e;refine wpAny_in_of (n6 f) hd dd.mapOf ?_;rw[<- (rel.val k).IP,<- l];exact h _ (I.tok _)
 ·subst d;cases(show u=Value.ref b from f);obtain⟨z,hd,B,rel,dd⟩:=qY I.hok e;refine wpAny_in_heap (tupleKind_room_in1 i) (pP I.hok j) hd dd ?_;have q:=(rel.val k).IP;rw[Option.isSome_map]at q;rw[<- q,<- l];exact h _ (I.tok _)
theorem oF{ob:HO}(I:Inv X U σ H s)(d:CJ (H a))(f:Heap.SameBut a s.heap O)(g:∃q,O.get? a=some q)(c:c_ X.prog X.w (upd H a ob) O a ob):
  Inv X U σ (upd H a ob) {s with heap:=O,toks:=t'}:=
 I.write (x:=a) (e:=a) d (.inl rfl) (λb q h z=>(f.2 b h).trans z) g c
theorem xI{kvs:Qbf}{b:List (Key×Value)}(z:kvs.length<=sizeLine)(d:(a==sysModules)=false)(c:KV kvs b)(dd:O.DictOf (ir P w) a b):
  c_ P w Z O a (.dK kvs):=⟨z,d,b,c,dd⟩
theorem zS{Q:Unit->Shared->Prop}(t:A.units+1<cLine)(I:Inv X U σ H s)(g:FW H a y v Z)(x:RelV y u)(C:RelV v r)(h:∀s',Inv X U σ Z s'->Q () s'):
  wpAny (model X.prog X.w) A (setItem (.ref a) u r) Q E s:=by
 rcases g with⟨d,k,e,j,l,m⟩|⟨d,k,b,e,j,D,l,m⟩
 ·subst j m;obtain⟨z,hd,vs,rel,dd⟩:=vJ I.hok e;have n:vs.length<=sizeLine:=by rw[<- rel.length];exact z
  have o:(putK d k v).length<=sizeLine:=by have:=eL d k v;lia
  refine wpAny_setItem_pairs (hsz:=n) (n6 x) dd λG i p=>h _ ?_;have K:∃q,G.get? a=some q:=let ⟨q,_,_,hq,_⟩:=i;⟨q,hq⟩
  exact oF I (by rw[e];exact True.intro) p K (xI o hd (rel.put k C) i)
 ·subst j m;cases(show u=Value.ref b from x);obtain⟨z,hd,B,rel,dd⟩:=Tn I.hok e;have n:B.length<=sizeLine:=by rw[<- Paired.length rel];exact z
  have o:(putK d k v).length<=sizeLine:=by have:=eL d k v;lia
  refine wpAny_setItem_heap (hsz:=n) (tupleKind_room_in1 t) (pP I.hok D) dd λG i p=>h _ ?_;obtain⟨q,Y,ep,hq,h2,h3,h4,_,h5⟩:=i;refine oF I (by rw[e];exact True.intro) p ⟨q,hq⟩ ⟨o,hd,_,(rel.put k D C).keeps λc L f=>?_,q,Y,ep,hq,h2,h3,h4,h5⟩;refine f.upd λu t z=>?_;subst z;rcases f with f|⟨_,f⟩<;>(rw[e]at f;cases f)
end
section
variable{kvs:Qbf}{k:Key}
theorem Tp(I:Inv X U σ H s)(e:Rd H a (.dK kvs))(h:∀t s',Inv X U σ H s'->Q (.int kvs.length t) s'):wpAny (model X.prog X.w) A (call (.builtin "len") [.ref a]) Q E s:=by
 obtain⟨z,hd,vs,rel,dd⟩:=lG I.hok e;refine call_len_dict hd dd (by rw[<- rel.length];rw[QL]at z;lia) ?_;rw[<- rel.length];exact h _ _ (I.tok _)
end
def D9(i:Expr):Prop:=∀a b,subscripted i false a b=operate [a,b] (getItem a b)
theorem yB{b a:Expr}{l:Pos}{id:String}
  (m:typeLookup (.type T) "__getitem__"=pure (some (.builtin id))) (n:D9 a)
  (h:wpAny (model prog w) A (eval b env) (λo e=>wpAny (model prog w) A (eval a env) (λi c=>c.TypeIs o T/\wpAny (model prog w) A (getItem o i) Q E c) E e) E s):
  wpAny (model prog w) A (eval (.Subscript b a l) env) Q E s:=by
 refine Subscript_ (wpAny_mono h (λo e j=>wpAny_mono j (λi c d=>?_) λ_ _ x=>x) λ_ _ x=>x);obtain⟨hT,d⟩:=d;unfold subscriptTail;refine QS ?_;rw[getitemInPython_of_ne hT.not_modules];refine QS (wpAny_specialOf hT m ?_);have g:wpAny (model prog w) A (subscripted a false o i) (λr f=>wpAny (model prog w) A (letTemporaryGo b o r >>=λ_=>pure r) Q E f) E c:=by
  rw[n o i];exact wpAny_operating (wpAny_mono d (λr f k=>QS (wpAny_letTemporaryGo (QT k))) λ_ _ x=>x)
 first
  |exact QT (QS g)
  |exact QS (QT (QS g))
  |exact QS g
theorem vO{y:V}{o:Qbj}(I:Inv X U σ H s)(g:k_ H a y o):s.TypeIs (.ref a) "dict":=by
 rcases g with⟨c,k,e,_,_⟩|⟨c,k,b,e,_,_,_⟩
 ·obtain⟨_,_,vs,_,dd⟩:=lG I.hok e;exact dd.typeIs
 ·obtain⟨_,_,B,_,dd⟩:=qY I.hok e;exact dd.typeIs
def IQ(b ty:TE):TE:=λσ H Q=>b σ H λx H1=>ty σ H1 λy H2=>∃a v,x=.ref a/\k_ H2 a y (some v)/\Q v H2
def Mm(c ty d:TE):TS:=λD σ H=>d σ H λv H1=>c σ H1 λx H2=>ty σ H2 λy e=>∃a b,x=.ref a/\FW e a y v b/\D.nx σ b
section
variable{o i value:Expr}{pos vz:Pos}{td ty tv:TE}
theorem Tq(e:X.A.units+1<cLine)(f:PE X o td)(j:PE X i ty)(k:D9 i):PE X (.Subscript o i pos) (IQ td ty):=by
 intro b s c H Q I h;refine yB PySem.F.slot_dict_getitem.lookup k (bh (f b s c H _ I h) ?_);rintro u l ⟨x,m,n,p,q⟩;refine bh (j b l c m _ n q) ?_;rintro E G ⟨y,r,d,t,a,v,w,g,z⟩;subst w;obtain rfl:u=Value.ref a:=p;exact⟨vO d g,zO e d g t λK L C D=>⟨v,r,C,D,z⟩⟩
theorem Tr(d:X.A.units+1<cLine)(e:PE X o td)(f:PE X i ty)(hv:PE X value tv)(j:swapsWith value (some (.Subscript o i pos')) pos.line X.env=pure false):
  PS X (.Assign [.Subscript o i pos'] value pos) (Mm td ty tv):=by
 intro b s c H D I h;refine wpAny_Assign_Subscript (bh (hv b s c H _ I h) ?_) j;rintro r k ⟨v,l,m,n,p⟩;refine bh (e b k c l _ m p) ?_;rintro u q ⟨x,t,w,z,C⟩;refine bh (f b q c t _ w C) ?_;rintro Q R ⟨y,T,E,G,a,K,L,g,N⟩;subst L;obtain rfl:u=Value.ref a:=z;exact zS d E g G n λV P=>⟨c,K,P,N⟩
end
theorem Tt(h:Heap)(a:sysModules<h.objs.size):c_ P w H (h.push {cls:=.type "dict",data:=.dict #[]}) h.objs.size (.dK []):=
 ⟨Qal _,beq_eq_false_iff_ne.mpr (Ne.symm (VD a)),[],.nil,Heap.DictOf.new h⟩
def Mn:TE:=λ_ H Q=>∀p,H p=none->Q (.ref p) (upd H p (.dK []))
section
variable{pos:Pos}
theorem Tu:PE X (.Dict [] [] pos) Mn:=λb s c H Q I h=>
 wpAny_Dict_empty ⟨.ref s.heap.objs.size,_,I.laid (a:=s.heap.objs.size) (o:=.dK []) (t':=s.toks) (λ_ _ q=>Qc _ q) (Qy _) (Tt s.heap I.big),rfl,h _ (I.hok.fresh (Qy _))⟩
end
structure M1(X:Cx)(o:Expr)(m:Str)(apos:Pos)(e:Expr)(cpos:Pos):Prop where
 base:attributeBase o m X.env (eval o X.env)=eval o X.env
 few:((backTo cpos (starEach [e] X.env)).all (λx=> !x.1)&&(backToKw cpos (keywordEach [] X.env)).all (λx=>x.1.isSome)
  &&decide (([e]:List Expr).length+([]:List Keyword).length+(if([]:List Keyword).isEmpty then 0 else 1)<30))=true
 line:(apos.endLine==cpos.line)=true
 trees:backTo cpos (starEach [e] X.env)=[(false,eval e X.env)]
def Mp(H:Hp)(a:Addr):Prop:=(∃kvs,Rd H a (.dK kvs))\/∃kvs,Rd H a (.dT kvs)
theorem Tw(I:Inv X U σ H s)(d:Mp H a):
  s.TypeIs (.ref a) "dict"/\(∀b,Value.ref a=.ref b->∃ob,s.heap.get? b=some ob/\ob.dict=none)/\(a==sysModules)=false:=by
 rcases d with⟨c,e⟩|⟨c,e⟩
 ·obtain⟨_,hd,vs,_,dd⟩:=lG I.hok e;refine⟨dd.typeIs,λb q=>?_,hd⟩;cases q;obtain⟨ob,_,_,h1,h2,_⟩:=dd;exact⟨ob,h1,h2.2.1⟩
 ·obtain⟨_,hd,B,_,dd⟩:=qY I.hok e;refine⟨dd.typeIs,λb q=>?_,hd⟩;cases q;obtain⟨ob,_,_,h1,h2,_⟩:=dd;exact⟨ob,h1,h2.2.1⟩
section
variable{y d:V}{r:Value}{o:Qbj}
theorem Tz(j:A.units+1<cLine)(I:Inv X U σ H s)(g:k_ H a y o)(f:RelV y u)(h:∀i s',Inv X U σ H s'->RelV (o.getD .ao) i->Q i s'):
  wpAny (model X.prog X.w) A (call (.builtin "dict.get") [.ref a,u]) Q E s:=by
 rcases g with⟨c,k,e,d,l⟩|⟨c,k,b,e,d,m,l⟩
 ·subst d;obtain⟨z,hd,vs,rel,dd⟩:=lG I.hok e;refine call_meetsIn PySem.F.slot_dict_get dd.typeIs PySem.F.entry_dict_get (PySem.F.args_dict_get_2 _ _) (meets_dict_get (ir X.prog X.w) a (n6 f) hd) ⟨_,dd.mapOf,h _ _ (I.tok _) ?_⟩;rw[l];exact(rel.val k).getD rfl
 ·subst d;cases(show u=Value.ref b from f);obtain⟨z,hd,B,rel,dd⟩:=qY I.hok e;refine call_meetsIn PySem.F.slot_dict_get dd.typeIs PySem.F.entry_dict_get (PySem.F.args_dict_get_2 _ _) (meetsH_dict_get (tupleKind (ir X.prog X.w)) a b hd) ⟨tupleKind_room_in1 j,k,B,pP I.hok m,dd,h _ _ (I.tok _) ?_⟩;rw[l];exact(rel.val k).getD rfl
end
def Mq(b ty:TE):TE:=λσ H Q=>b σ H λx H1=>∃a,x=.ref a/\Mp H1 a/\ty σ H1 λy H2=>∃o,k_ H2 a y o/\Q (o.getD .ao) H2
section
variable{o f:Expr}{td ty tx:TE}
theorem TF(i:X.A.units+1<cLine)(j:PE X o td)(k:PE X e ty)(m:M1 X o "get" apos e cpos):PE X (.Call (.Attribute o "get" apos) [e] [] cpos) (Mq td ty):=by
 intro b s c H Q I h;refine wpAny_Call_method m.base m.few m.line PySem.F.plainAttrs_dict PySem.F.slot_dict_get PySem.F.type_dict_get (bh (j b s c H _ I h) ?_);rintro u l ⟨x,n,f,p,a,q,d,r⟩;subst q;obtain rfl:u=Value.ref a:=p;obtain⟨t1,t2,_⟩:=Tw f d;refine⟨t1,t2,?_⟩;rw[m.trees];refine Calls.callWith_builtin rfl (Calls.evalArgs_plain (Calls.spliced_cons (bh (k b l c n _ f r) ?_)));rintro G K ⟨y,t,w,z,L,g,C⟩;refine Calls.spliced_nil ?_;exact Tz i w g z λN P D E=>⟨_,t,D,E,C⟩
end
end L2
namespace Ms
open PySem PySem.W PySem.Calls PyProof.Rows
theorem oB{P:Params}:∀(c:List Int)(d:Qa9),WellAll P h d (c.map WData.int)->IntsAre d c:=by
 intro c
 induction c with
 |nil=>
  intro d w;rw[List.map_nil]at w;cases w;exact .nil
 |cons n c ih=>
  intro d w;rw[Qab]at w;cases w with
  |cons a b=>
   cases a;exact .cons _ _ (ih _ b)
theorem yP{l:OpenLaw}(g:l.most=some n){P:Params}{args:List WData}{vals:Qa9}
  (e:l.row.toRowW.claim.pre args=true) (i:WellAll P h vals args):
  ∃a vs ns,vals=[Value.ref a]/\args=[WData.list (ns.map WData.int)]/\h.get? a=some {cls:=.type "list",data:=.seq vs.toArray}/\IntsAre vs ns/\ns.length<=n:=by
 have j:WShape.hasAll [] args [.list .int]=true:=(pre_splitW e).1;have f:l.pre.holds [] {args:=args}=true:=(pre_splitW e).2;obtain⟨d,r,rfl,h1,h2⟩:=hasAllW_cons j;obtain rfl:=hasAllW_nil h2;obtain⟨B,rfl,h3⟩:=hasW_list h1;obtain⟨ns,rfl⟩:=items_int h3;have k:ns.length<=n:=by
  unfold OpenLaw.pre at f;have b:(WTm.not (.lt (.lit (.int (n:Int))) (.len (.arg 0)))).holds [] {args:=[.list (ns.map .int)]}=true:=by
   have b:=(holds_andW f).1;rw[g]at b;exact b
  have c:=condW_of b (w_not (w_lt w_lit (w_len_list (w_arg rfl))));rw[Ql]at c;refine Nat.le_of_not_lt λq=>?_;have m:(n:Int)<((ns.length:Nat):Int):=by lia
  first
   |(rw[decide_eq_true m]at c;exact absurd c (by decide))
   |(simp at c;lia)
 cases i with
 |cons w1 w2=>
  cases w2;cases w1 with
  |list ho TJ=>exact⟨_,_,ns,rfl,rfl,ho,oB ns _ TJ,k⟩
theorem zM(l:OpenLaw)(args:List WData):l.row.toRowW.claim.post args (.bool true) args=true:=
 postW_of (r:=l.row.toRowW) (X:=(true==true))
  (show WShape.has [] (.bool true) .bool=true by first|rfl|decide|simp[WShape.has,WShape.arms,WShape.armsAll])
  (show(WTm.eq .res (.lit (.bool true))).value [] {args:=args,res:=some (.bool true),after:=args}=some (.bool (true==true))from w_eq_bool (w_res rfl) w_lit) rfl
theorem vV {l:OpenLaw} {q:Program} {YP:World->Heap->Prop} {d:DefRec}
  (s:l.most=some n) (t:d.params.defaults=[])
  (call:∀ (w:World) (c b:Shared) (mg k:Str->Qbb) (h:Addr) (o:Obj) (m i e:Value) (a:Addr) (g:Qa9) (j:List Int),
   Ground q loose [] XP w c mg k b.heap->YP w b.heap->
   b.heap.get? h=some o->o.data=.func (docDef d.name d.params d.body d.scope m i e)->b.heap.CodeRec i d.name->mg d.name=some (.ref h)->
   b.heap.get? a=some {cls:=.type "list",data:=.seq g.toArray}->IntsAre g j->j.length<=n->b.gens=#[]->
   codeAny (model l.prog w) callerA (.call (.ref h) ⟨[.ref a],[]⟩) (λr s'=>r=.ok (.ret (.bool true))/\OldK b.heap s'.heap/\s'.os=b.os/\AllBare s'.gens) b):
  WalkO q loose XP YP l.row.toRowW d [] (λf g=>PySem.call f g):=by
 intro w c b mg k G Y h o m i e u kV x y z p A C args vals as D E H I K
 obtain rfl:u=.none:=Dflts.none p t
 obtain rfl:kV=.none:=Dflts.noKw p
 obtain ⟨a,g,j,rfl,rfl,L,N,P⟩:=yP s D I
 refine enter_call (codeAny_mono (call w c b mg k h o m i e a g j G Y x (fd_plain y) z A L N P C) λr s' Q=>?_)
 obtain ⟨rfl,h2,R,T⟩:=Q
 exact ⟨.inl ⟨.bool true,.bool true,[],rfl,λ_=>rfl,.bool true,zM l _,λ_=>⟨List.Pairwise.nil,λ_ V=>(nomatch V)⟩⟩,h2,R,T⟩
end Ms
namespace L2
open PySem PySem.Spec PyProof.Rows
theorem rM:∀{a:Qa9}{b:List Int},IntsAre a b->bu (b.map V.int) a
 |_,_,.nil=>.nil
 |_,_,.cons n t h=>.cons ⟨t,rfl⟩ (rM h)
abbrev za:uq:=λ_ _ _ _ _ _=>False
abbrev E0:XK:=λ_ _ _=>False
theorem Mt:FS za X E0:=λ_ _ _ _ _ _ _ h=>h.elim
structure A7(K:QZ)(x qual:Str)(st:Stmt)(f:Addr)(fd:FuncData):Prop where
 ex:∃(oc:Value)(od:Option Addr)(kV doc pm:Value)(an:Option Addr)(az ct:Value)(jf:Array Qbb),
  fd=PySem.W.fnOf x qual (qx st) (kc st) (bz st) .none kV doc pm an az ct/\K.lookup f=some ⟨oc,od,.func fd,jf⟩/\PySem.W.codeIn K az qual=true
 kp:PySem.W.keepIn K (.ref f)=true
section
variable{K:QZ}
theorem A7.ok {st:Stmt} {f:Addr} {k:Nat} (F:A7 K x qual st f fd) (S:dg N ps (bz st)) (c:∀ a H Q E,sp a H Q E->a.length=ps.length)
  (d:∀ (b:Value) (A:Around) (outer:List Env) (s:Shared) (H:Hp) (a:Qbi) (Q:VK) (E:XK),fb k (A.deeper (envOfC qual (bz st) s.heap.objs.size f b))->sp a H Q E->
   ∃ t,pe (jl za P w K mg base N qual (bz st) f b A outer s H E).xu (kc st) t/\t {nx:=λ_ Z=>Q .ao Z,rt:=Q} (start N a) H):mq P w K mg base za (k+1) f fd ps sp:=by
 obtain ⟨l,m,kV,e,n,o,b,p,r,rfl,lk,g⟩:=F.ex
 refine L8 lk g S c λA outer s H a Q E i j=>?_
 obtain ⟨t,h,q⟩:=d b A outer s H a Q E i j
 exact ⟨t,h.xu,q⟩
theorem A7.binds{st:Stmt}{f:Addr}(F:A7 K x qual st f fd)
  (h:∀(kV a b:Value)(c:Option Addr)(d ct:Value)(us:Qa9),us.length=ps.length->bindArgs (PySem.W.fnOf x qual (qx st) (kc st) (bz st) .none kV a b c d ct) ⟨us,[]⟩=pure (ps.zip us)):Binds K fd ps []:=by
 obtain⟨oc,od,kV,a,b,c,d,ct,jf,rfl,lk,mj⟩:=F.ex;exact .all (h kV a b c d ct)
theorem TL{st:Stmt}{f:Addr}{g:Value}{od d:Option Addr}{h:Array Qbb}{kV a e b ct:Value}(l:K.lookup f=some ⟨g,od,.func (PySem.W.fnOf x qual (qx st) (kc st) (bz st) .none kV a e d b ct),h⟩)
  (c:PySem.W.codeIn K b qual=true) (k:PySem.W.keepIn K (.ref f)=true):A7 K x qual st f (PySem.W.fnOf x qual (qx st) (kc st) (bz st) .none kV a e d b ct):=⟨⟨g,od,kV,a,e,d,b,ct,h,rfl,l,c⟩,k⟩
end
theorem fX{k:Nat}(a:fb k A):A.units+1<cLine:=Nat.lt_of_le_of_lt (Nat.add_le_add_left (by decide:1<=64) _) a.units
theorem TM(h:n<=1000):n<sizeLine:=Nat.lt_of_le_of_lt h (by decide)
theorem gf{A B:Prop}(h:B):if false=true then A else B:=by
 rw[if_neg V1];exact h
theorem A8{A B:Prop}(h:A):if true=true then A else B:=by
 rw[if_pos rfl];exact h
theorem F0{c A B:Prop}[Decidable c](h1:c->A)(h2:¬c->B):if c then A else B:=by
 by_cases h:c
 ·rw[if_pos h];exact h1 h
 ·rw[if_neg h];exact h2 h
def aa(H Z:Hp):Prop:=∀b o,H b=some o->Z b=some o
theorem aa.refl(H:Hp):aa H H:=λ_ _ h=>h
theorem aa.trans{d e:Hp}(a:aa H d)(b:aa d e):aa H e:=λc o h=>b c o (a c o h)
theorem aa.free(e:aa H Z)(h:Z l=Option.none):H l=Option.none:=by
 cases q:H l with
 |none=>rfl
 |some o=>
  rw[e l o q]at h;cases h
theorem kL{env:Env}:∀(names:List (Str×NameKind))(a:List (Str×Addr)),
  (∀y∈names,y.2=.free->∃c,env.cells.lookup y.1=some c)->(∀x c,a.lookup x=some c->env.cells.lookup x=some c)->
  ∃cl,(forIn names a fun(x:Str×NameKind)cs=>(if(x.2==NameKind.free)=true then(do let c <- cellOf env x.1;pure (ForInStep.yield ((x.1,c)::cs)))else pure (ForInStep.yield cs):Sem (ForInStep (List (Str×Addr)))))=pure cl/\
   (∀x c,cl.lookup x=some c->env.cells.lookup x=some c)/\(∀y∈names,y.2=.free->∃c,cl.lookup y.1=some c)/\(∀x c,a.lookup x=some c->∃c,cl.lookup x=some c)
 | [],a,_,ha=>⟨a,rfl,ha,(λ_ h=>nomatch h),λx c h=>⟨c,h⟩⟩
 |(n,k)::r,a,h,ha=>by
  rw[QaU];by_cases hk:k=.free
  ·obtain⟨c,hc⟩:=h (n,k) jP hk;have i:cellOf env n=pure c:=by unfold cellOf;rw[show env.cells.lookup n=some c from hc]
   have j:∀x d,((n,c)::a).lookup x=some d->env.cells.lookup x=some d:=λx d b=>by
    rw[Qad]at b;cases e:x==n with
    |true=>rw[e]at b;cases b;rw[eq_of_beq e];exact hc
    |false=>rw[e]at b;exact ha x d b
   obtain⟨cl,e,h1,h2,h3⟩:=kL r ((n,c)::a) (λy hy=>h y (Qh _ hy)) j;refine⟨cl,?_,h1,λy hy f=>?_,λx d b=>?_⟩
   ·have g:(k==NameKind.free)=true:=by rw[hk];rfl
    simp only[g,if_true,i,pure_bind];exact e
   ·rcases Qp.mp hy with z|hy
    ·rw[z];exact h3 n c (by simp[Qad])
    ·exact h2 y hy f
   ·cases e2:x==n with
    |true=>exact h3 x c (by simp[Qad,e2])
    |false=>exact h3 x d (by simp[Qad,e2,b])
  ·have g:(k==NameKind.free)=false:=by simpa using hk
   obtain⟨cl,e,h1,h2,h3⟩:=kL r a (λy hy=>h y (Qh _ hy)) ha;refine⟨cl,?_,h1,λy hy f=>?_,h3⟩
   ·simp only[g,QaM,if_false,pure_bind];exact e
   ·rcases Qp.mp hy with z|hy
    ·rw[z]at f;exact absurd f hk
    ·exact h2 y hy f
theorem xO(h:∀y∈sc.names,y.2=.free->∃c,env.cells.lookup y.1=some c):
  ∃cl,closureFor sc env=pure cl/\(∀x c,cl.lookup x=some c->env.cells.lookup x=some c)/\(∀y∈sc.names,y.2=.free->∃c,cl.lookup y.1=some c):=by
 obtain⟨cl,e,h1,h2,_⟩:=kL (env:=env) sc.names [] h (λ_ _ h=>nomatch h);refine⟨cl,?_,h1,h2⟩;unfold closureFor;have b:(forIn sc.names ([]:List (Str×Addr)) fun(x:Str×NameKind)a=>(if(x.2==NameKind.free)=true then(do let c <- cellOf env x.1;pure (ForInStep.yield ((x.1,c)::a)))else pure (ForInStep.yield a):Sem (ForInStep (List (Str×Addr))))) >>=(λa=>(pure a:Sem _))=pure cl:=by rw[e];rfl
 exact b
theorem eZ{env:Env}:∀{names:List (Str×NameKind)}{x:Str},names.lookup x=some .free->
  (names.map fun(n,k)=>if(k==NameKind.free&&env.scope.kind==.function&&env.kindOf n==some .cell)then(n,NameKind.cell)else(n,k)).lookup x=some .cell\/
  (names.map fun(n,k)=>if(k==NameKind.free&&env.scope.kind==.function&&env.kindOf n==some .cell)then(n,NameKind.cell)else(n,k)).lookup x=some .free
 | [],_,h=>by simp at h
 |(n,k)::r,x,h=>by
  have ih:=@eZ env r x;show List.lookup x ((if(k==NameKind.free&&env.scope.kind==.function&&env.kindOf n==some .cell)=true then(n,NameKind.cell)else(n,k))::_)=_\/List.lookup x ((if(k==NameKind.free&&env.scope.kind==.function&&env.kindOf n==some .cell)=true then(n,NameKind.cell)else(n,k))::_)=_;cases hx:x==n with
  |true=>
   simp only[Qad,hx]at h;cases h;by_cases hc:(NameKind.free==NameKind.free&&env.scope.kind==.function&&env.kindOf n==some .cell)=true
   ·rw[if_pos hc];simp[Qad,hx]
   ·rw[if_neg hc];simp[Qad,hx]
  |false=>
   simp only[Qad,hx]at h;by_cases hc:(k==NameKind.free&&env.scope.kind==.function&&env.kindOf n==some .cell)=true
   ·rw[if_pos hc];simp only[Qad,hx];exact ih h
   ·rw[if_neg hc];simp only[Qad,hx];exact ih h
theorem nH{names:List (Str×NameKind)}{k:NameKind}
  (h:(names.map fun(n,k)=>if(k==NameKind.free&&env.scope.kind==.function&&env.kindOf n==some .cell)then(n,NameKind.cell)else(n,k)).lookup x=some k) (a:k=.cell\/k=.free) (b:∀y∈names,y.2≠.cell):(x,NameKind.free)∈names:=by
 have c:=QaB h;obtain⟨⟨n,k'⟩,h1,h2⟩:=qN.mp c;dsimp only at h2;split at h2
 ·next hh=>
  cases h2;have:k'=.free:=by
   simp only[Qai,beq_iff_eq]at hh;exact hh.1.1
  rw[<- this];exact h1
 ·cases h2;rcases a with z|z
  ·exact absurd z (b _ h1)
  ·rw[<- z];exact h1
abbrev fz(X:Cx)(N':Qa8)(sc:Scope)(cl:List (Str×Addr))(C:Addr)(s3:Shared)(H0:Hp)(fp:Qba)(pn:List (Addr×Obj)):Cx where
 prog:=X.prog
 w:=X.w
 K:=X.K
 mg:=X.mg
 base:=X.base
 A:=X.A
 N:=N'
 s₀:=s3
 H₀:=H0
 env:=compEnvC sc cl C X.env
 outer:=X.stack
 stack:=X.stack
 ex:=fp
 fn:=λ_=>false
 calm:=X.calm
 pn:=pn
 xe:=λ_ _=>False
structure tq(ya:Scope)(oN:Qa8)(sc:Scope)(own:Qa8)(idx:Qbc)(N':Qa8):Prop where
 kind:sc.kind=.function
 cell:∀y∈sc.names,y.2≠.cell
 names:∀y∈sc.names,y.2=.local->sc.names.lookup y.1=some .local
 free:∀y∈sc.names,y.2=.free->(ya.names.lookup y.1=some .cell\/ya.names.lookup y.1=some .free)
 seen:∀j∈idx,sc.names.lookup (oN.getD j "")=some .free/\j<oN.length
 nn:N'=own++idx.map (λj=>oN.getD j "")
def zb(own:Qa8)(idx:Qbc)(σ:St):St:=List.replicate own.length none++idx.map λj=>(σ[j]?).join
section
variable{H2:Hp}{s2:Shared}
theorem TQ{t:Heap}{ob:Obj}{g:HO}{V:Nat}(S:tq X.env.scope X.N sc own idx N')(I:Inv X U σ H2 s2)(E:∀b∈fp,ph X U H2 b)(Ea:∀b∈fp,∃o,s2.heap.get? b=some o)
  (l:∀x c,cl.lookup x=some c->X.env.cells.lookup x=some c) (G:∀y∈sc.names,y.2=.free->∃c,cl.lookup y.1=some c) (hob:ob.isFreed=false)
  (hD:∀(H:Hp)(h:Heap),h.get? s2.heap.objs.size=some ob->c_ X.prog X.w H h s2.heap.objs.size g)
  (ns:t.Ns (s2.heap.push ob).objs.size (λx=>([]:List (Str×Value)).reverse.lookup x)) (K:∀b o,(s2.heap.push ob).get? b=some o->t.get? b=some o):
  Inv (fz X N' sc cl (s2.heap.push ob).objs.size {s2 with heap:=s2.heap.push ob} (upd H2 s2.heap.objs.size g) fp (X.pn++U)) [] (zb own idx σ) (upd H2 s2.heap.objs.size g) {s2 with heap:=t,toks:=V}:=by
 have a:(s2.heap.push ob).objs.size=s2.heap.objs.size+1:=Qag _ _;have ag:H2 s2.heap.objs.size=none:=I.hok.fresh (Qy _);have L:∀b o,s2.heap.get? b=some o->(s2.heap.push ob).get? b=some o:=λb o e=>Qc _ e;have A:∀b o,s2.heap.get? b=some o->t.get? b=some o:=λb o e=>K b o (L b o e);have TR:∀b o,s2.heap.get? b=some o->b≠s2.heap.objs.size:=λb o e=>VD (Qz e);have C:∀b o,s2.heap.get? b=some o->H2 b=none->upd H2 s2.heap.objs.size g b=none:=λb o e n=>by rw[aS (TR b o e)];exact n
 have TU:∀b∈g_ X.stack,∃o,s2.heap.get? b=some o:=λb f=>by
  obtain⟨_,o,g,_⟩:=I.stack.mem f;exact⟨o,g⟩
 have TV:∀x c,cl.lookup x=some c->∃o,s2.heap.get? c=some o:=λx c e=>by
  obtain⟨v,o,g,_⟩:=I.cell x c (l x c e);exact⟨o,g⟩
 have eD:(s2.heap.push ob).get? s2.heap.objs.size=some ob:=Qd s2.heap hob;have TY:dm X.prog X.w (upd H2 s2.heap.objs.size g) t:=I.hok.laid A (Qy _) (hD _ _ (K _ _ eD));refine⟨⟨I.ok.mod,S.kind,I.ok.glob,I.ok.blt,Qy _,λx y c h1 h2=>I.ok.inj x y c (l x c h1) (l y c h2),λx hx=>?_,(λx c hx _=>nomatch hx),I.ok.hd,I.ok.frames,.inl rfl,λb f=>⟨?_,λx c e=>?_⟩,λb o e=>⟨?_,?_⟩,?_,λb o e f=>?_,λb f=>?_,?_,λb f=>?_⟩,
  rfl,I.bare,Un.kept K,⟨_,ns,λi x v h1 h2 h3=>?_⟩,λx c e=>?_,?_,λx c e=>?_,λp hp=>?_,TY,?_⟩
 ·rcases hx with hx|hx
  ·exact G (x,.free) (nH hx (.inl rfl) S.cell) rfl
  ·exact G (x,.free) (nH hx (.inr rfl) S.cell) rfl
 ·obtain⟨o,e⟩:=Ea b f;have:=Qz e;show b≠(s2.heap.push ob).objs.size;rw[a];exact VD (QaN this)
 ·exact(E b f).2.2.2.2.1 x c (l x c e)
 ·exact L b o (I.bk b o e)
 ·exact C b o (I.bk b o e) (I.bs b o e).2
 ·show X.base.objs.size<=(s2.heap.push ob).objs.size;have:=Qaa I.ok.xo I.sz;rw[a];lia
 ·obtain⟨f0,f1,f2,f3,f4,f5⟩:=E b f;rcases f3 with z|z
  ·exact I.ok.BF b o e z
  ·exact absurd (Qz e) (Nat.not_lt.mpr (Qaa I.ok.xo z))
 ·obtain⟨f0,f1,f2,f3,f4,f5⟩:=E b f;intro z;rcases Qp.mp (I.DS b z)with z|z
  ·exact f1 z
  ·exact f2 z
 ·exact Heap.FunFrames.of_keeps (λb o e _=>⟨o,L b o e,rfl⟩) I.stack
 ·obtain⟨o,e⟩:=TU b f;exact C b o e (I.DT b f)
 ·unfold zb at h2;by_cases hi:i<own.length
  ·rw[Qg (by simpa using hi),List.getElem?_replicate,if_pos hi]at h2;cases h2
  ·rw[Qaq (by simpa using hi),List.length_replicate,Qq]at h2;have s:N'[i]? =some x:=h1;rw[S.nn,Qaq (by simpa using hi),Qq]at s;cases ej:idx[i-own.length]? with
   |none=>rw[ej]at s;cases s
   |some j=>
    rw[ej]at s h2;obtain⟨Am,hs2⟩:=S.seen j (QC ej);have hx:X.N[j]? =some x:=by
     have:X.N.getD j ""=x:=QD s;rw[<- this,Qb,Qa hs2];rfl
    have hv:σ[j]? =some (some v):=by
     have D:(σ[j]?).join=some v:=QD h2;cases q:σ[j]? with
     |none=>rw[q]at D;cases D
     |some w=>rw[q]at D;exact congrArg some D
    have R:sc.names.lookup x=some .free:=by
     have:X.N.getD j ""=x:=QD s;rw[<- this];exact Am
    have P:(x,NameKind.free)∈sc.names:=QaB R;obtain⟨m,hn,hl⟩:=I.loc;have TZ:CM X.env.scope x:=by
     rcases S.free _ P rfl with z|z
     ·exact .inr (.inl z)
     ·exact .inr (.inr z)
    obtain⟨u,r,lk⟩:=hl j x v hx hv TZ;refine⟨u,r,?_⟩;rcases lk with⟨k,_⟩|⟨k,c,e,z⟩
    ·rcases S.free _ P rfl with q|q
     ·have Q:X.env.kindOf x=some .cell:=q;rw[Q]at k;cases k
     ·have Q:X.env.kindOf x=some .free:=q;rw[Q]at k;cases k
    ·obtain⟨c',vt⟩:=G (x,.free) P rfl;have T:=l x c' vt;rw[e]at T;cases T;refine .inr ⟨?_,c,vt,?_⟩
     ·rcases eZ (env:=X.env) R with q|q
      ·exact .inl q
      ·exact .inr q
     ·obtain⟨o,xq,hd⟩:=z;exact⟨o,A c o xq,hd⟩
 ·obtain⟨v,o,xq,hd⟩:=I.cell x c (l x c e);exact⟨v,o,A c o xq,hd⟩
 ·show upd H2 s2.heap.objs.size g (s2.heap.push ob).objs.size=none;rw[aS (by rw[a];exact QaC (Nat.lt_succ_self _))];exact I.hok.fresh (by rw[a];lia)
 ·obtain⟨o,e1⟩:=TV x c e;exact C c o e1 (I.qp x c (l x c e))
 ·have Mv:p∈X.pn++U:=by simpa using hp
  obtain⟨e,n,ne,nf,d⟩:=I.pin p Mv;refine⟨A _ _ e,C _ _ e n,?_,λz=>?_,d⟩
  ·have:=Qz e;show p.1≠(s2.heap.push ob).objs.size;rw[a];exact VD (QaN this)
  ·rcases Qp.mp (I.DS p.1 z)with z|z
   ·exact ne z
   ·exact nf z
 ·show(zb own idx σ).length=N'.length;rw[S.nn];unfold zb;simp
theorem zG{ob:Obj}{d:HO}{f:St}(I:Inv X U σ H2 s2)(g:∀b∈fp,ph X U H2 b)(hob:ob.isFreed=false)
  (J:Inv (fz X N' sc cl (s2.heap.push ob).objs.size {s2 with heap:=s2.heap.push ob} (upd H2 s2.heap.objs.size d) fp (X.pn++U)) [] f Z s'):
  Inv X U σ Z s'/\Z (s2.heap.push ob).objs.size=none/\(s2.heap.push ob).objs.size≠X.env.locals/\X.s₀.heap.objs.size<=(s2.heap.push ob).objs.size/\
   (∀x c,X.env.cells.lookup x=some c->c≠(s2.heap.push ob).objs.size)/\(∀p∈X.pn++U,p.1≠(s2.heap.push ob).objs.size)/\∃m,s'.heap.Ns (s2.heap.push ob).objs.size m:=by
 have a:(s2.heap.push ob).objs.size=s2.heap.objs.size+1:=Qag _ _;have h:Un (g_ X.stack) fp H2 (upd H2 s2.heap.objs.size d) s2.heap (s2.heap.push ob):=Un.laid (λb o e=>Qc _ e) (Qy _) (I.hok.fresh (Qy _));have i:Un (g_ X.stack) fp (upd H2 s2.heap.objs.size d) Z (s2.heap.push ob) s'.heap:=J.base;have j:s'.os=s2.os:=J.os;refine⟨I.Im j (h.trans i) J.hok J.bare λb k=>?_,J.free,?_,?_,λx c e z=>?_,λp l z=>?_,let ⟨m,hn,_⟩:=J.loc;⟨m,hn⟩⟩
 ·obtain⟨f0,f1,f2,f3,f4,f5⟩:=g b k;exact⟨f3,f1,f4,f5⟩
 ·rw[a];exact QaC (QaN I.lt)
 ·have:=I.sz;rw[a];lia
 ·obtain⟨v,q⟩:=I.cell x c e;have:=q.lt;rw[z,a]at this;exact absurd this (Nat.not_lt.mpr (Nat.le_succ _))
 ·have:=Qz (I.pin p l).1;rw[z,a]at this;exact absurd this (Nat.not_lt.mpr (Nat.le_succ _))
end
abbrev jg:Value->Shared->Prop:=λ_ _=>False
theorem T3 {o a f:Expr} {q:Pos} {C p:Value} (I:Nat->Shared->Prop)
  (t:∀ n s,I n s->wpAny (model prog w) A (pyNext C) (λr b=>match r with
   | none=>R (.ok .next) b
   | some v=>wpAny (model prog w) A (letOwnedTupleGo a C v) (λ_ D=>wpAny (model prog w) A (assign a env v) (λ_ g=>
     wpAny (model prog w) A (forIn ifs true λc r=>if r=true then do let ok <- isTrue c env (eval c env);pure (ForInStep.yield ok) else pure (ForInStep.yield r)) (λok d=>
      if ok=true then wpAny (model prog w) A (eval o env) (λx i=>
       wpAny (model prog w) A (call (.builtin "list.append") [p,x]) (λ_ j=>∃ m,m < n/\I m j) jg i) jg d
      else ∃ m,m < n/\I m d) jg g) jg D) jg b) jg s)
  (n:Nat) (h:I n s):
  codeAny (model prog w) A (.compLoop (.ListComp o [⟨a,f,ifs,0⟩] scope q) 0 C p env) R s:=by
 refine codeAny_loop rfl I (λn s E=>?_) n h
 show wpAny _ A ((compTurn (.ListComp o [⟨a,f,ifs,0⟩] scope q) 0 C p env).onRaise (λx=>do noteFrame x env;theTreesLotGoes x)) _ _ s
 refine wpAny_noted ?_
 rw [compTurn_list]
 refine QS (wpAny_standAt (QS (wpAny_mono (t n s E) (λr b k=>?_) λ_ _ e=>e.elim)))
 cases r with
 | none=>exact QT k
 | some v=>
  refine QS (wpAny_mono k (λ_ D G=>?_) λ_ _ e=>e.elim)
  refine QS (wpAny_mono G (λ_ g u=>QS (wpAny_mono u (λok d l=>?_) λ_ _ e=>e.elim)) λ_ _ e=>e.elim)
  cases ok with
  | false=>exact QT ⟨rfl,l⟩
  | true=>
   exact QS (QS (wpAny_mono l (λx i y=>QS (wpAny_mono y (λ_ j z=>QT (QT ⟨rfl,z⟩)) λ_ _ e=>e.elim)) λ_ _ e=>e.elim))
abbrev TC:=St->Hp->(Bool->Hp->Prop)->Prop
def An(X:Cx)(a:List Expr)(t:TC):Prop:=
 ∀(U:List (Addr×Obj))(s:Shared)(σ:St)(H:Hp)(Q:Bool->Hp->Prop),Inv X U σ H s->t σ H Q->
  wpAny (model X.prog X.w) X.A (forIn a true λc r=>if r=true then do let ok <- isTrue c X.env (eval c X.env);pure (ForInStep.yield ok)else pure (ForInStep.yield r)) (TP X U σ Q) X.xe s
def IU:TC:=λ_ H Q=>Q true H
theorem T4:An X [] IU:=λa s b H Q I h=>QT ⟨H,I,h⟩
theorem T5{c:Expr}{t:TT}(h:PT X c t):An X [c] t:=λa s b H Q I d=>wpAny_tests_one (h a s b H Q I d)
def Eb (own:Qa8) (idx:Qbc) (h:TI) (g:TG) (j:TC) (te:TE):TE:=λσ H Q=>h σ H λJ H1=>∀ D,H1 D=none->∃ W:Nat->Nat->St->Hp->Prop,(∃ m,W 0 m (zb own idx σ) (upd H1 D (.lst [])))/\∀ i m d H,W i m d H->
 (J.stop i H/\Q (.ref D) H)\/(J.go i H/\∃ N:St->Hp->Prop,(∀ c Z,N c Z->∃ m',m' < m/\W (i+1) m' c Z)/\∀ x Z,J.sj i H x Z->g x d Z λa H2=>j a H2 λb e=>
  if b=true then te a e λy f=>∃ B,f D=some (.lst B)/\B.length < sizeLine/\N a (upd f D (.lst (B++[y]))) else N a e)
section
variable{iter elt:Expr}{pos:Pos}{tc:TC}
abbrev T6:Obj:={cls:=.type "list",dict:=none,data:=.seq ([]:Qa9).toArray}
def T7 (X:Cx) (f i:Expr) (g:List Expr) (sel:Env->Addr->Shared->(Shared->Prop)->Prop):Prop:=
 ∀ (h:Value) (D:Addr) (env:Env) (R:Result->Shared->Prop) (s:Shared) (I:Nat->Shared->Prop),
  (∀ n s,I n s->wpAny (model X.prog X.w) X.A (pyNext h) (λr a=>match r with
   | none=>R (.ok .next) a
   | some v=>wpAny (model X.prog X.w) X.A (letOwnedTupleGo i h v) (λ_ j=>wpAny (model X.prog X.w) X.A (assign i env v) (λ_ d=>
     wpAny (model X.prog X.w) X.A (forIn g true λc r=>if r=true then do let ok <- isTrue c env (eval c env);pure (ForInStep.yield ok) else pure (ForInStep.yield r)) (λok b=>
      if ok=true then sel env D b (λe=>∃ m,m < n/\I m e) else ∃ m,m < n/\I m b) jg d) jg j) jg a) jg s)->
  ∀ n,I n s->codeAny (model X.prog X.w) X.A (.compLoop f 0 h (.ref D) env) R s
theorem uR (S:tq X.env.scope X.N sc own idx N') (c1:∀ x c,cl.lookup x=some c->X.env.cells.lookup x=some c) (c2:∀ y∈sc.names,y.2=.free->∃ c,cl.lookup y.1=some c) (hc:X.calm=true)
  {j:Expr} {ob:Obj} {o0:HO} {mk:Sem Value} {sel:Env->Addr->Shared->(Shared->Prop)->Prop} (el:Addr->St->Hp->(Hp->Prop)->Prop) (hob:ob.isFreed=false) (L:T7 X j tg ifs sel)
  (al:∀ {env D s} {K K':Shared->Prop},sel env D s K->(∀ s',K s'->K' s')->sel env D s K')
  (au:∀ it k env R s,codeAny (model X.prog X.w) X.A (.compLoop j 0 it k env) R s->wpAny (model X.prog X.w) X.A (pyIter it) (λT9 s'=>codeAny (model X.prog X.w) X.A (.compLoop j 0 T9 k env) R s') (notedBy (model X.prog X.w) X.A env λx s'=>R (.error x) s') s->
   codeAny (model X.prog X.w) X.A (.compStart j 0 it k env) R s)
  (hg:∀ cl C P H0 fp pn,PG (fz X N' sc cl C P H0 fp pn) tg g) (ht:∀ cl C P H0 fp pn,An (fz X N' sc cl C P H0 fp pn) ifs tc)
  (he:∀ cl C P H0 fp pn U s l H D N,Inv (fz X N' sc cl C P H0 fp pn) U l H s->el D l H N->sel (fz X N' sc cl C P H0 fp pn).env D s λs'=>∃ Z,Inv (fz X N' sc cl C P H0 fp pn) U l Z s'/\N Z)
  {U:List (Addr×Obj)} {σ:St} {Q:VK} {sy:Value} {s2:Shared} {RR:Value->Addr->Result->Shared->Prop} {E:Value->Shared->Prop}
  (IV:∀ Q E,Q (.ref s2.heap.objs.size) {s2 with heap:=s2.heap.push ob}->wpAny (model X.prog X.w) X.A mk Q E s2)
  (T_:∀ Z,Inv X U σ Z s2->∀ (H:Hp) (h:Heap),h.get? s2.heap.objs.size=some ob->c_ X.prog X.w H h s2.heap.objs.size o0)
  (hI:CQ X U σ tg (λJ H1=>∀ D,H1 D=none->∃ W:Nat->Nat->St->Hp->Prop,(∃ m,W 0 m (zb own idx σ) (upd H1 D o0))/\∀ i m l H,W i m l H->
   (J.stop i H/\Q (.ref D) H)\/(J.go i H/\∃ N:St->Hp->Prop,(∀ q Z,N q Z->∃ m',m' < m/\W (i+1) m' q Z)/\∀ x Z,J.sj i H x Z->g x l Z λV H2=>tc V H2 λb H3=>if b=true then el D V H3 (N V) else N V H3)) sy s2)
  (Ec:∀ D C Z s',Inv X U σ Z s'->Q (.ref D) Z->(Z C=none/\C≠X.env.locals/\X.s₀.heap.objs.size<=C/\(∀ x c,X.env.cells.lookup x=some c->c≠C)/\(∀ p∈X.pn++U,p.1≠C)/\∃ m,s'.heap.Ns C m)->RR (.ref D) C (.ok .next) s'):
  wpAny (model X.prog X.w) X.A mk (λk am=>wpAny (model X.prog X.w) X.A (newFunctionEnv sc X.env.globals cl [] X.env.qual none .none (some X.env)) (λah an=>
   codeAny (model X.prog X.w) X.A (.compStart j 0 sy k {ah with scope:=relabel sc X.env}) (RR k ah.locals) an) E am) E s2:=by
 obtain ⟨it,fp,tn,J,H2,rfl,I,T,FJ,f2,ao⟩:=hI
 refine IV _ _ (wpAny_newFunctionEnv S.cell (by intro y hy;simp at hy) (λh4 ns sb=>?_) S.kind)
 dsimp only at ns sb ⊢
 have fr:H2 s2.heap.objs.size=none:=I.hok.fresh (Qy _)
 obtain ⟨W,⟨m0,w0⟩,ap⟩:=ao _ fr
 have Ea:∀ b∈fp,∃ o,s2.heap.get? b=some o:=λb a=>let ⟨o,e,_⟩:=T.obj _ _ FJ b a;⟨o,e⟩
 have CY:∀ b o,(s2.heap.push ob).get? b=some o->h4.get? b=some o:=λb o e=>(sb.2 b (VD (Qz e))).trans (Qc _ e)
 have Ua:=T_ _ I
 have I4:Inv (fz X N' sc cl (s2.heap.push ob).objs.size {s2 with heap:=s2.heap.push ob} (upd H2 s2.heap.objs.size o0) fp (X.pn++U)) [] (zb own idx σ) (upd H2 s2.heap.objs.size o0) {s2 with heap:=h4,toks:=s2.toks+([]:List (Str×Value)).length}:=
  TQ S I f2 Ea c1 c2 hob Ua ns CY
 -- LQ abI own context
 generalize f:fz X N' sc cl (s2.heap.push ob).objs.size {s2 with heap:=s2.heap.push ob} (upd H2 s2.heap.objs.size o0) fp (X.pn++U)=Y at I4
 have Ub:PG Y tg g:=by rw [<- f];exact hg _ _ _ _ _ _
 have Uc:An Y ifs tc:=by rw [<- f];exact ht _ _ _ _ _ _
 have Ud:∀ U s l H D N,Inv Y U l H s->el D l H N->sel Y.env D s λs'=>∃ Z,Inv Y U l Z s'/\N Z:=by rw [<- f];exact he _ _ _ _ _ _
 have pY:Y.prog=X.prog:=by rw [<- f]
 have wY:Y.w=X.w:=by rw [<- f]
 have KY:Y.K=X.K:=by rw [<- f]
 have AY:Y.A=X.A:=by rw [<- f]
 have cY:Y.calm=true:=by rw [<- f];exact hc
 have xY:Y.xe=λ_ _=>False:=by rw [<- f]
 have eY:Y.env=compEnvC sc cl (s2.heap.push ob).objs.size X.env:=by rw [<- f]
 have Ue:Y.ex=fp:=by rw [<- f]
 have Ug:Y.fs=g_ X.stack:=by rw [<- f]
 have Uh:Y.pn=X.pn++U:=by rw [<- f]
 have BH:∀ {Z:Hp},(∀ b∈fp,Z b=none)->∀ b∈fp,ph Y [] Z b:=λhn b a=>by
  obtain ⟨f0,f1,f3,f4,f5,f6⟩:=f2 b a
  refine ⟨hn b a,?_,?_,.inl (by rw [Ue];exact a),λx c e=>?_,λp hp=>?_⟩
  ·obtain ⟨o,e⟩:=Ea b a
   have:=Qz e
   rw [eY]
   show b≠(s2.heap.push ob).objs.size
   rw [Qag];exact VD (QaN this)
  ·rw [Ug]
   intro z
   rcases Qp.mp (I.DS b z) with z | z
   ·exact f1 z
   ·exact f3 z
  ·rw [eY] at e
   exact f5 x c (c1 x c e)
  ·rw [Uh,QQ] at hp
   exact f6 p hp
 have Mw:tn 0 h4:=T.keep _ _ _ FJ λb a o e=>CY b o (Qc _ e)
 have Ui:∀ b∈fp,upd H2 s2.heap.objs.size o0 b=none:=λb a=>by
  obtain ⟨o,e⟩:=Ea b a
  rw [aS (VD (Qz e))]
  exact (f2 b a).1
 have ai:codeAny (model X.prog X.w) X.A (.compLoop j 0 (.ref it) (.ref s2.heap.objs.size) (compEnvC sc cl (s2.heap.push ob).objs.size X.env))
   (RR (.ref s2.heap.objs.size) (s2.heap.push ob).objs.size) {s2 with heap:=h4,toks:=s2.toks+([]:List (Str×Value)).length}:=by
  refine L _ _ _ _ _ (λn s'=>∃ i l Z,Inv Y [] l Z s'/\tn i s'.heap/\(∀ b∈fp,Z b=none)/\W i n l Z) ?_ m0 ⟨0,_,_,I4,Mw,Ui,w0⟩
  rintro n P ⟨i,ag,H3,I3,D3,D4,w3⟩
  rcases ap i n ag H3 w3 with ⟨stop,qn⟩ | ⟨go,N,hN,ar⟩
  ·have h:=T.done Y pY wY KY cY i [] P ag H3 jg I3 (BH D4) D3 stop
   rw [AY] at h
   refine bh h ?_
   rintro r s4 ⟨hr,Uj⟩
   subst hr
   have J4:=Uj
   rw [<- f] at J4
   obtain ⟨b1,b2⟩:=zG I f2 hob J4
   exact Ec _ _ _ _ b1 qn b2
  ·have h:=T.item Y pY wY KY cY i [] P ag H3 jg I3 (BH D4) D3 go
   rw [AY] at h
   refine bh h ?_
   rintro r s4 ⟨u,hr,Uk⟩
   subst hr
   refine bh Uk ?_
   rintro _ s5 ⟨x,H5,I5,r5,y5,BI,Iw⟩
   have Iz:=I5.pinned (BH Iw) (T.obj _ _ BI)
   have g5:=Ub _ s5 ag H5 x u _ Iz r5 (ar x H5 y5)
   rw [pY,wY,AY,xY,eY] at g5
   refine bh g5 ?_
   rintro _ s6 ⟨as,H6,I6,q6⟩
   have t6:=Uc _ s6 as H6 _ I6 q6
   rw [pY,wY,AY,xY,eY] at t6
   refine bh t6 ?_
   rintro ok s7 ⟨H7,I7,q7⟩
   have t:∀ {G:St} {H8:Hp} {s8:Shared},Inv Y ([]++D0 fp s5.heap) G H8 s8->N G H8->∃ m,m < n/\∃ i q Z,Inv Y [] q Z s8/\tn i s8.heap/\(∀ b∈fp,Z b=none)/\W i m q Z:=λ{G H8 s8} I8 n8=>by
    obtain ⟨m',hm,w8⟩:=hN G H8 n8
    refine ⟨m',hm,i+1,G,H8,I8.FI,T.keep _ _ _ BI λb a o e=>(I8.pin (b,o) (Qaf _ (Qaf _ (iE a e)))).1,λb a=>?_,w8⟩
    obtain ⟨o,e,d⟩:=T.obj _ _ BI b a
    exact (I8.pin (b,o) (Qaf _ (Qaf _ (iE a e)))).2.1
   cases ok with
   | false=>
    rw [if_neg (by decide)] at q7 ⊢
    exact t I7 q7
   | true=>
    rw [if_pos rfl] at q7 ⊢
    have e7:=Ud _ s7 as H7 s2.heap.objs.size _ I7 q7
    rw [eY] at e7
    exact al e7 λs8 ⟨H8,I8,n8⟩=>t I8 n8
 exact au _ _ _ _ _ ai (T.self _ 0 _ _ _ Mw ai)
theorem oZ (S:tq X.env.scope X.N sc own idx N') (T:∀ x c,cl.lookup x=some c->X.env.cells.lookup x=some c) (V:∀ y∈sc.names,y.2=.free->∃ c,cl.lookup y.1=some c) (hc:X.calm=true)
  (hg:∀ cl C f H0 fp pn,PG (fz X N' sc cl C f H0 fp pn) tg g) (ht:∀ cl C f H0 fp pn,An (fz X N' sc cl C f H0 fp pn) ifs tc) (he:∀ cl C f H0 fp pn,PE (fz X N' sc cl C f H0 fp pn) elt te)
  {U:List (Addr×Obj)} {σ:St} {Q:VK} {L:Value} {s2:Shared} {RR:Value->Addr->Result->Shared->Prop} {E:Value->Shared->Prop}
  (hI:CQ X U σ tg (λJ H1=>∀ D,H1 D=none->∃ W:Nat->Nat->St->Hp->Prop,(∃ m,W 0 m (zb own idx σ) (upd H1 D (.lst [])))/\∀ i m l H,W i m l H->
   (J.stop i H/\Q (.ref D) H)\/(J.go i H/\∃ N:St->Hp->Prop,(∀ o Z,N o Z->∃ m',m' < m/\W (i+1) m' o Z)/\∀ x Z,J.sj i H x Z->g x l Z λd H2=>tc d H2 λb P=>
    if b=true then te d P λy r=>∃ B,r D=some (.lst B)/\B.length < sizeLine/\N d (upd r D (.lst (B++[y]))) else N d P)) L s2)
  (Ec:∀ D C Z s',Inv X U σ Z s'->Q (.ref D) Z->(Z C=none/\C≠X.env.locals/\X.s₀.heap.objs.size<=C/\(∀ x c,X.env.cells.lookup x=some c->c≠C)/\(∀ p∈X.pn++U,p.1≠C)/\∃ m,s'.heap.Ns C m)->RR (.ref D) C (.ok .next) s'):
  wpAny (model X.prog X.w) X.A (newList []) (λt u=>wpAny (model X.prog X.w) X.A (newFunctionEnv sc X.env.globals cl [] X.env.qual none .none (some X.env)) (λj a=>
   codeAny (model X.prog X.w) X.A (.compStart (.ListComp elt [⟨tg,iter,ifs,0⟩] sc pos) 0 L t {j with scope:=relabel sc X.env}) (RR t j.locals) a) E u) E s2:=by
 refine uR (ob:=T6) (sel:=λenv D s K=>wpAny (model X.prog X.w) X.A (eval elt env) (λx a=>wpAny (model X.prog X.w) X.A (call (.builtin "list.append") [.ref D,x]) (λ_ z=>K z) jg a) jg s) (o0:=.lst []) (el:=λD l H K=>te l H λy r=>∃ B,r D=some (.lst B)/\B.length < sizeLine/\K (upd r D (.lst (B++[y])))) S T V hc (hob:=rfl)
  (λit D env R s I G n h=>T3 I G n h) (λh k=>bh h λ_ _ h=>bh h λ_ _ h=>k _ h) (λ_ _ _ _ _=>codeAny_compStart_list) hg ht (λcl C f H0 fp pn U s l H D N I q=>?_) (λQ E h=>wpAny_newObj_type h) (λZ I H h e=>⟨Qal _,[],_,.nil,e⟩) hI Ec
 refine bh (he cl C f H0 fp pn _ s l H _ I q) ?_
 rintro yv s8 ⟨y,H8,I8,r8,B,Ul,hz,n8⟩
 exact bh (bJ (X:=fz X N' sc cl C f H0 fp pn) _ s8 l H8 (.ref D) [y] (.ref D) [yv] (λv Z=>N Z) I8 rfl (.cons r8 .nil) ⟨_,B,y,rfl,rfl,Ul,hz,n8⟩) λ_ s9 ⟨_,H9,I9,_,n9⟩=>⟨H9,I9,n9⟩
theorem tq.closure(S:tq X.env.scope X.N sc own idx N')(ok:X.Ok):∃cl,closureFor sc X.env=pure cl/\(∀x c,cl.lookup x=some c->X.env.cells.lookup x=some c)/\(∀y∈sc.names,y.2=.free->∃c,cl.lookup y.1=some c):=
 xO λy a b=>ok.has _ (S.free y a b)
theorem Um(S:tq X.env.scope X.N sc own idx N')(f:X.calm=true)(i:PI X tg iter wi)
  (j:∀cl C a H0 fp c,PG (fz X N' sc cl C a H0 fp c) tg g) (k:∀cl C a H0 fp c,An (fz X N' sc cl C a H0 fp c) ifs tc) (l:∀cl C a H0 fp c,PE (fz X N' sc cl C a H0 fp c) elt te)
  (n:∀x,foldedSetIterable iter X.env x=pure x:=by intro _;rfl):PE X (.ListComp elt [⟨tg,iter,ifs,0⟩] sc pos) (Eb own idx wi g tc te):=by
 intro U s σ H Q I h;obtain⟨cl,jt,c1,c2⟩:=S.closure I.ok;rw[eval_ListComp];refine wpAny_comprehension_free (use:=none) rfl n jt S.kind S.names (bh (i U s σ H _ I h) λv R h1=>bh h1 λT V h2=>?_);refine oZ (Q:=Q) (U:=U) (σ:=σ) (RR:=λd C=>compPost (model X.prog X.w) X.A X.xe none (EP X U σ Q) d C) S c1 c2 f j k l h2 ?_;intro D C p r t q ⟨u,y,z,E,G,m,K⟩;exact⟨m,K,λO L=>⟨.ref D,p,t.turned (t':=r.toks) (λb o P e=>(L.2 b P).trans e) u (Ne.symm (Ne.symm y)) (.inr z) E G,rfl,q⟩⟩
theorem Uo{d c:Pos}(S:tq X.env.scope X.N sc own idx N')(E:X.calm=true)(G:PI X tg iter wi)
  (K:∀cl C f H0 fp j,PG (fz X N' sc cl C f H0 fp j) tg g) (L:∀cl C f H0 fp j,An (fz X N' sc cl C f H0 fp j) ifs tc) (P:∀cl C f H0 fp j,PE (fz X N' sc cl C f H0 fp j) elt te)
  (R:X.N.Nodup) (T:X.N[i]? =some y) (p:X.env.scope.names.lookup y=some .local)
  (V:swapsWith (.ListComp elt [⟨tg,iter,ifs,0⟩] sc pos) (some (.Name y d)) c.line X.env=pure true:=by rfl)
  (hs:∀x,foldedSetIterable iter X.env x=pure x:=by intro _;rfl):PS X (.Assign [.Name y d] (.ListComp elt [⟨tg,iter,ifs,0⟩] sc pos) c) (sf (Eb own idx wi g tc te) (jk i)):=by
 intro U s σ H D I h;obtain⟨cl,jt,c1,c2⟩:=S.closure I.ok;rw[exec_Assign_Name_used _ _ _ _ V];refine QS (wpAny_standAt (QS ?_));show wpAny _ X.A (do let _ <- comprehension (.ListComp elt [⟨tg,iter,ifs,0⟩] sc pos) sc X.env _ (newList []) false (eval iter X.env) (some (assign (.Name y d) X.env))) _ _ s;refine QS (wpAny_mono (wpAny_comprehension_free (use:=some (assign (.Name y d) X.env)) (Q:=λ_ k=>SP X U D .next k) rfl hs jt S.kind S.names
  (bh (G U s σ H _ I h) λv s1 h1=>bh h1 λsy s2 h2=>?_)) (λ_ k hq=>QT (QT hq)) λ_ _ e=>e)
 refine oZ (Q:=λx H1=>jk i x σ H1 D.nx) (U:=U) (σ:=σ) (RR:=λl C=>compPost (model X.prog X.w) X.A X.xe (some (assign (.Name y d) X.env)) (λ_ k=>SP X U D .next k) l C) S c1 c2 E K L P h2 ?_;intro r C Z k I' q ⟨a1,t,a3,u,a5,m,a6⟩;show wpAny _ X.A (assign (.Name y d) X.env (.ref r)) _ _ _;refine wpAny_assign_Name (hZ (v:=.ref r) I' R T (.inl p) rfl ?_ (.inr p));rintro n IW ⟨a,sb,ha⟩;have IX:C≠a:=by
  rcases ha with z|z
  ·rw[z];exact t
  ·exact Ne.symm (u _ _ z)
 refine⟨m,a6.sameBut sb IX,λO CY=>⟨_,Z,IW.turned (t':=n.toks) (λb o hb e=>(CY.2 b hb).trans e) a1 t (.inr a3) u a5,q⟩⟩
end
def tV(i:Nat):TE:=λσ H Q=>match σ[i]? with|some (some v)=>Q v H|_=>False
theorem Up(i:Nat){b:Pos}(c:X.N[i]? =some x:=by rfl)(hv:CM X.env.scope x:=by first|exact Or.inl rfl|exact Or.inr (Or.inl rfl)|exact Or.inr (Or.inr rfl))(d:Qbo x:=by decide)(f:(x==("__classdict__":Str))=false:=by decide):PE X (.Name x b) (tV i):=by
 intro a s g H Q I h;refine Q8 c hv d f a s g H Q I ?_;unfold tV at h;split at h
 ·next v e=>exact⟨v,e,h⟩
 ·exact h.elim
def BX:R2:=λx y H Q=>match x,y with
 | .int i,.int j=>Q (.int (i+j)) H
 | .str i,.str j=>i.length+j.length<=sizeLine/\Q (.str (i++j)) H
 | .ref l,.ref b=>(∃B zs,H l=some (.lst B)/\H b=some (.lst zs)/\B.length+zs.length<=sizeLine/\∀p,H p=none->Q (.ref p) (upd H p (.lst (B++zs))))
 |_,_=>False
theorem bT:ck X (binaryOp .Add) BX:=by
 intro a s b H x y v u Q I c d h;cases x<;>cases y<;>first
  |exact(show False from h).elim
  |exact RL a s b H _ _ v u Q I c d ⟨_,_,rfl,rfl,h⟩
  |exact xP a s b H _ _ v u Q I c d ⟨_,_,rfl,rfl,h.1,h.2⟩
  |(obtain⟨B,zs,h1,h2,h3,h4⟩:=h;exact Tc a s b H _ _ v u Q I c d ⟨_,_,B,zs,rfl,rfl,h1,h2,h3,h4⟩)
def Uq:R2:=λx y H Q=>match x,y with| .int i,.int j=>Q (.int (i-j)) H|_,_=>False
theorem dU:ck X (binaryOp .Sub) Uq:=by
 intro a s b H x y v u Q I c d h;cases x<;>cases y<;>first
  |exact(show False from h).elim
  |exact RM a s b H _ _ v u Q I c d ⟨_,_,rfl,rfl,h⟩
def Ur:R2:=λx y H Q=>match x,y with| .int i,.int j=>FP i j/\Q (.int (i*j)) H|_,_=>False
theorem fA:ck X (binaryOp .Mult) Ur:=by
 intro a s b H x y v u Q I c d h;cases x<;>cases y<;>first
  |exact(show False from h).elim
  |exact RN a s b H _ _ v u Q I c d ⟨_,_,rfl,rfl,h.1,h.2⟩
def Us:R2:=λx y H Q=>match x,y with| .int i,.int j=>0<j/\Q (.int (i % j)) H|_,_=>False
theorem fV:ck X (binaryOp .Mod) Us:=by
 intro a s b H x y v u Q I c d h;cases x<;>cases y<;>first
  |exact(show False from h).elim
  |exact RP a s b H _ _ v u Q I c d ⟨_,_,rfl,rfl,h.1,h.2⟩
def Ut:R2:=λx y H Q=>match x,y with| .int i,.int j=>(0<j/\j<1073741824)/\Q (.int (i / j)) H|_,_=>False
theorem Uu:ck X (binaryOp .FloorDiv) Ut:=by
 intro a s b H x y v u Q I c d h;cases x<;>cases y<;>first
  |exact(show False from h).elim
  |exact RO a s b H _ _ v u Q I c d ⟨_,_,rfl,rfl,h.1,h.2⟩
def Uv:R2:=λx y H Q=>match x,y with| .int i,.int j=>LV i j/\Q (.int (i^j.toNat)) H|_,_=>False
theorem Uw:ck X (binaryOp .Pow) Uv:=by
 intro a s b H x y v u Q I c d h;cases x<;>cases y<;>first
  |exact(show False from h).elim
  |exact RQ a s b H _ _ v u Q I c d ⟨_,_,rfl,rfl,h.1,h.2⟩
def IY(p:Int->Int->Bool):R2:=λx y H Q=>match x,y with| .int i,.int j=>Q (.bl (p i j)) H|_,_=>False
theorem gK:ck X (compareOp .Gt) (IY λi j=>decide (j<i)):=by
 intro a s b H x y v u Q I c d h;cases x<;>cases y<;>first
  |exact(show False from h).elim
  |exact R1 a s b H _ _ v u Q I c d ⟨_,_,rfl,rfl,h⟩
theorem Ux:ck X (compareOp .GtE) (IY λi j=>decide (j<=i)):=by
 intro a s b H x y v u Q I c d h;cases x<;>cases y<;>first
  |exact(show False from h).elim
  |exact R3 a s b H _ _ v u Q I c d ⟨_,_,rfl,rfl,h⟩
theorem Mx:ck X (compareOp .LtE) (IY λi j=>decide (i<=j)):=by
 intro a s b H x y v u Q I c d h;cases x<;>cases y<;>first
  |exact(show False from h).elim
  |exact R0 a s b H _ _ v u Q I c d ⟨_,_,rfl,rfl,h⟩
def Uy:R2:=λx y H Q=>match x,y with
 | .int i,.int j=>Q (.bl (decide (i<j))) H
 | .str i,.str j=>Q (.bl (decide (i.cps.toList<j.cps.toList))) H
 |_,_=>False
theorem mF:ck X (compareOp .Lt) Uy:=by
 intro a s b H x y v u Q I c d h;cases x<;>cases y<;>first
  |exact(show False from h).elim
  |exact RZ a s b H _ _ v u Q I c d ⟨_,_,rfl,rfl,h⟩
  |exact z9 a s b H _ _ v u Q I c d ⟨_,_,rfl,rfl,h⟩
def My(n:Bool):R2:=λx y H Q=>match x,y with
 | .ref a,.ref b=>a≠b/\∃B,H a=some (.lst B)/\H b=some (.lst [])/\Q (.bl (n^^B.isEmpty)) H
 |x,y=>CT x y=true/\Q (.bl (n^^decide (x=y))) H
theorem Uz{B:Qbi}(c:A.units<cLine)(I:Inv X U σ H s)(h:H a=some (.lst B))(j:H b=some (.lst []))(l:a≠b)
  (q:∀tk,Q (.bool B.isEmpty) {s with toks:=tk}) (d:Q (.bool B.isEmpty) s):wpAny (model X.prog X.w) A (compareOp .Eq (.ref a) (.ref b)) Q E s:=by
 obtain⟨_,its,n,r1,e1⟩:=(show c_ X.prog X.w H s.heap a (.lst B)from I.hok a _ h)
 obtain⟨_,its2,n2,r2,e2⟩:=(show c_ X.prog X.w H s.heap b (.lst [])from I.hok b _ j)
 cases r2;have f:s.heap.IsList a its.toArray:=⟨_,e1,rfl,_,rfl⟩
 have g:s.heap.IsList b (#[]:Array Value):=⟨_,e2,rfl,_,rfl⟩
 cases r1 with
 |nil=>
  exact SeqAt.eq_listAt (e:=λ_=>true) f g rfl c (λi k=>absurd k (by simp)) (by simpa using d)
 |cons z t=>
  exact SeqAt.eq_list_lengthsAt f g (by simp) c (by simpa using d)
theorem aZ(f:X.A.units<cLine):ck X (compareOp .Eq) (My false):=by
 intro c s g H x y v u Q I d e h;have i:(∀a b,x=.ref a->y=.ref b->False)->CT x y=true/\Q (.bl (false^^decide (x=y))) H:=λj=>by
  cases x<;>cases y<;>first
   |exact(j _ _ rfl rfl).elim
   |exact h
 by_cases hr:∃a b,x=.ref a/\y=.ref b
 ·obtain⟨a,b,rfl,rfl⟩:=hr;obtain⟨pq,B,h1,h2,q⟩:=h;cases d;cases e;exact Uz f I h1 h2 pq (λk=>⟨.bl B.isEmpty,H,I.tok k,rfl,by simpa using q⟩) ⟨.bl B.isEmpty,H,I,rfl,by simpa using q⟩
 ·obtain⟨h1,h2⟩:=i λa b l m=>hr ⟨a,b,l,m⟩;exact RX c s g H x y v u Q I d e ⟨h1,by simpa using h2⟩
theorem UA{B:Qbi}(c:A.units<cLine)(I:Inv X U σ H s)(h:H a=some (.lst B))(j:H b=some (.lst []))
  (d:Q (.bool (!B.isEmpty)) s):wpAny (model X.prog X.w) A (compareOp .NotEq (.ref a) (.ref b)) Q E s:=by
 obtain⟨_,its,n,r1,e1⟩:=(show c_ X.prog X.w H s.heap a (.lst B)from I.hok a _ h)
 obtain⟨_,its2,n2,r2,e2⟩:=(show c_ X.prog X.w H s.heap b (.lst [])from I.hok b _ j)
 cases r2;have f:s.heap.IsList a its.toArray:=⟨_,e1,rfl,_,rfl⟩
 have g:s.heap.IsList b (#[]:Array Value):=⟨_,e2,rfl,_,rfl⟩
 cases r1 with
 |nil=>
  exact SeqAt.RcNeAt.lists (e:=λ_=>true) f g rfl c (λi k=>absurd k (by simp)) _ _ _ _ (by simpa using d)
 |cons z t=>
  exact SeqAt.RcNeAt.lists_lengths f g (by simp) c _ _ _ _ (by simpa using d)
theorem mE(f:X.A.units<cLine):ck X (compareOp .NotEq) (My true):=by
 intro c s g H x y v u Q I d e h;have i:(∀a b,x=.ref a->y=.ref b->False)->CT x y=true/\Q (.bl (true^^decide (x=y))) H:=λj=>by
  cases x<;>cases y<;>first
   |exact(j _ _ rfl rfl).elim
   |exact h
 by_cases hr:∃a b,x=.ref a/\y=.ref b
 ·obtain⟨a,b,rfl,rfl⟩:=hr;obtain⟨pq,B,h1,h2,q⟩:=h;cases d;cases e;exact UA f I h1 h2 ⟨.bl (!B.isEmpty),H,I,rfl,by simpa using q⟩
 ·obtain⟨h1,h2⟩:=i λa b k l=>hr ⟨a,b,k,l⟩;exact RY c s g H x y v u Q I d e ⟨h1,by simpa using h2⟩
def Ef(K:QZ):R2:=λx y H Q=>match x,y with
 | .ref p,.int i=>∃B v,(ak K H p B\/ae K H p B)/\kq B i=some v/\Q v H
 | .str z,.int i=>z.length<=sizeLine/\∃c,kq z.cps.toList i=some c/\Q (.str ⟨#[c]⟩) H
 |_,_=>False
theorem UB : BO X (Ef X.K) := by
  intro d e a s f H x y v u Q I g i h j
  cases x <;> cases y <;> first
    | exact (show False from h).elim
    | (obtain ⟨k, w, h1 | h1, h2, b⟩ := h
       · exact sF d e a s f H _ _ v u Q I g i ⟨_, k, _, w, rfl, rfl, h1, h2, b⟩ j
       · exact SN d e a s f H _ _ v u Q I g i ⟨_, k, _, w, rfl, rfl, h1, h2, b⟩ j)
    | (obtain ⟨h1, c, h2, b⟩ := h; exact SQ d e a s f H _ _ v u Q I g i ⟨_, _, c, rfl, rfl, h1, h2, b⟩ j)
def F2(K:QZ)(n:Bool):R2:=λx y H Q=>match y with
 | .str j=>∃i,x=.str i/\Q (.bl (n^^(!(Builtin.Str.occurrences j i 0 j.length 1).isEmpty))) H
 | .ref p=>∃B,(ak K H p B\/ae K H p B)/\x_ x=true/\B.all x_=true/\Q (.bl (n^^BP x B)) H
 |_=>False
theorem UC:ck X (compareOp .In) (F2 X.K false):=by
 intro a s b H x y v u Q I c d h;cases y<;>first
  |exact(show False from h).elim
  |(obtain⟨i,rfl,h2⟩:=h;exact zU a s b H _ _ v u Q I c d ⟨i,_,rfl,rfl,by simpa using h2⟩)
  |(obtain⟨B,h1,h2,h3,h4⟩:=h;exact yR a s b H _ _ v u Q I c d ⟨_,B,rfl,h1,h2,h3,by simpa using h4⟩)
theorem zJ:ck X (compareOp .NotIn) (F2 X.K true):=by
 intro a s b H x y v u Q I c d h;cases y<;>first
  |exact(show False from h).elim
  |(obtain⟨i,rfl,h2⟩:=h;exact u6 a s b H _ _ v u Q I c d ⟨i,_,rfl,rfl,by simpa using h2⟩)
  |(obtain⟨B,h1,h2,h3,h4⟩:=h;exact sP a s b H _ _ v u Q I c d ⟨_,B,rfl,h1,h2,h3,by simpa using h4⟩)
def IZ(K:QZ):Qbi->Hp->VK->Prop:=λB H Q=>match B with
 | [.str y]=>y.length<=sizeLine/\Q (.int y.length) H
 | [.ref p]=>(∃ys,(ak K H p ys\/ae K H p ys)/\Q (.int ys.length) H)\/(∃kvs,Rd H p (.dK kvs)/\Q (.int kvs.length) H)
 |_=>False
theorem zP:jq X (.builtin "len") (IZ X.K):=by
 intro a s b H g c Q I r h;unfold IZ at h;split at h
 ·exact pA a s b H _ c Q I r ⟨_,_,rfl,⟨h.1,rfl⟩,h.2⟩
 ·rcases h with⟨e,h1|h1,q⟩|⟨d,h1,q⟩
  ·exact pA a s b H _ c Q I r ⟨_,_,rfl,.inl ⟨e,h1,rfl⟩,q⟩
  ·exact pA a s b H _ c Q I r ⟨_,_,rfl,.inr ⟨e,h1,rfl⟩,q⟩
  ·obtain⟨u,rfl,ru⟩:=vals1 r;cases ru;exact Tp I h1 λt i f=>⟨.int d.length,H,f,⟨t,rfl⟩,q⟩
 ·exact h.elim
def Mz(H:Hp):V->Option String
 | .ao=>some "NoneType"
 | .bl _=>some "bool"
 | .int _=>some "int"
 | .str _=>some "str"
 | .ref a=>match H a with
  |some (.lst _)=>some "list"
  |some (.tup _)=>some "tuple"
  |some (.dK _)=>some "dict"
  |_=>none
 |_=>none
def F4(t T:String):Bool:=t==T||(t=="bool"&&T=="int")
theorem UD:∀(K:QZ)(t T:String),t∈["NoneType","bool","int","str","list","tuple","dict"]->T∈["bool","int","str","list","tuple","dict"]->PySem.W.kitOne K (.type t) (.type T)=some (F4 t T):=by
 intro K t T h1 h2;simp only[Qp,QA,or_false]at h1 h2;rcases h1 with rfl|rfl|rfl|rfl|rfl|rfl|rfl<;>rcases h2 with rfl|rfl|rfl|rfl|rfl|rfl<;>rfl
def MA:Qbi->Hp->VK->Prop:=λB H Q=>match B with
 | [x,.ty T]=>T∈["bool","int","str","list","tuple","dict"]/\∃t,Mz H x=some t/\Q (.bl (F4 t T)) H
 |_=>False
theorem yX:jq X (.builtin "isinstance") MA:=by
 intro d s j H k l Q I r h;unfold MA at h;split at h
 ·next x T=>
  obtain⟨hT,t,ht,q⟩:=h;obtain⟨u,c,rfl,ru,rc⟩:=r.two;cases rc;have f:∀g,EP X d j Q (.bool (F4 t T)) {s with toks:=g}:=λg=>⟨.bl (F4 t T),H,I.tok g,rfl,q⟩
  have i:t∈["NoneType","bool","int","str","list","tuple","dict"]/\uo X.K H x (.type t):=by
   cases x with
   |ao=>cases ht;exact⟨by simp,.ao⟩
   |bl b=>cases ht;exact⟨by simp,.bl b⟩
   |int b=>cases ht;exact⟨by simp,.int b⟩
   |str b=>cases ht;exact⟨by simp,.str b⟩
   |ref a=>
    unfold Mz at ht;dsimp only at ht;split at ht
    ·next e=>cases ht;exact⟨by simp,.lst e⟩
    ·next e=>cases ht;exact⟨by simp,.tup e⟩
    ·next e=>cases ht;exact⟨by simp,.dK e⟩
    ·cases ht
   |_=>cases ht
  exact zA I ru i.2 (UD _ t T i.1 hT) f
 ·exact h.elim
def I0(K:QZ):Qbi->Hp->VK->Prop:=λB H Q=>match B with
 | [.ref p]=>∃bs:List Bool,ak K H p (bs.map V.bl)/\Q (.bl (bs.all id)) H
 |_=>False
theorem vK:∀{bs:List Bool}{us:Qa9},bu (bs.map V.bl) us->us=bs.map Value.bool
 | [],_,.nil=>rfl
 |b::bs,_,.cons r t=>by
  cases(show _=Value.bool b from r);rw[vK t];rfl
theorem yW(j:X.calm=true):jq X (.builtin "all") (I0 X.K):=by
 intro d s x H y z Q I r h;unfold I0 at h;split at h
 ·next p=>
  obtain⟨bs,hq,q⟩:=h;obtain⟨u,rfl,ru⟩:=r.one;cases ru;obtain⟨its,rv,pl,hz⟩:=I.list hq;have e:=vK rv;subst e;have k:p<s.heap.objs.size:=by obtain⟨_,e,_⟩:=pl.isList;exact Qz e
  refine call_all_walk (wpAny_pyIter_list pl.isList ?_);refine⟨s.heap.objs.size,[s.heap.objs.size,p],[s.heap.objs.size],(bs.map Value.bool).toArray.size,_,_,λi=>(bs[i]?).getD true,rfl,Walks.list (A:=X.A.in1) (I.ok.hd j) _ p (VD k) _,
   ⟨⟨_,Qd _ rfl,rfl,rfl⟩,pl.isList.push _⟩,λi v C D E l f=>?_,λG m n=>?_⟩
  ·have a:(bs.map Value.bool)[i]? =some v:=by simpa using l
   rw[Qq]at a;cases eb:bs[i]? with
   |none=>rw[eb]at a;cases a
   |some b=>
    rw[eb]at a;cases a;simp only[eb,Option.getD_some]at f;exact wpAny_truthy_bool f
  ·have e:((List.range (bs.map Value.bool).toArray.size).all λi=>(bs[i]?).getD true)=bs.all id:=by
    rw[XC,Ql];rw[Bool.eq_iff_iff,List.all_eq_true,List.all_eq_true];constructor
    ·intro h b t;obtain⟨i,c,rfl⟩:=Qi t;have:=h i (QaG.mpr c);simpa[Qa c]using this
    ·intro h i c;have g:=QaG.mp c;have:=h _ (Qj g);simpa[Qa g]using this
   rw[e];refine⟨.bl (bs.all id),H,I.kept (t':=m) λb o e=>n b o (λw=>?_) (Qc _ e),rfl,q⟩;rw[qD.mp w]at e;exact Qau _ (Qz e)
 ·exact h.elim
def I_:V->Option Int->Option Int->Hp->VK->Prop:=λx lo hi H Q=>∃z,x=.str z/\z.length<=sizeLine/\Q (.str (Txt.slice z lo hi)) H
theorem UE:xy X I_:=by
 intro a s d H x v vl n e f r Q I g i j m h;obtain⟨z,rfl,hz,q⟩:=h;obtain⟨t,rfl⟩:=(show ∃t,v=Value.str z t from g)
 refine⟨"str",_,F.slot_str_getitem.lookup,typeIs_str _ _ _,?_⟩;have b:∀{w:Value}{o:Option Int},IsPart w o->∃l:Option (Int×Tok),w=partValue l/\l.map (·.1)=o:=fun{w o}p=>by
  cases p with
  |none=>exact⟨none,rfl,rfl⟩
  |int k t=>exact⟨some (k,t),rfl,rfl⟩
 obtain⟨l,e1,e2⟩:=b j;obtain⟨u,e3,e4⟩:=b m;subst e1 e3;obtain⟨o,ho,hc,hd⟩:=i;refine wpAny_getItem_str_slice (l:=l) (u:=u) (st:=none) ⟨o,ho,hc,hd⟩ rfl ?_;refine post_val_or_str ⟨Qaa (Txt.slice_le z _ _) hz,λc k=>?_⟩;show EP X a d Q (.str (Txt.slice z (l.map (·.1)) (u.map (·.1))) c) _;rw[e2,e4];exact⟨.str (Txt.slice z e f),H,I.tok k,⟨c,rfl⟩,q⟩
def F6(z:Str):It:=⟨λi _=>i<z.cps.size,λi H x Z=>Z=H/\∃c,z.cps[i]? =some c/\x=.str ⟨#[c]⟩,λi _=>z.cps.size=i⟩
theorem xC{K:QZ}{a:Addr}{St:Nat->Heap->Prop}(W:∀D:Around,D.handled=none->Walks P w D a [a] [a] z.cps.size (SignAt z) St)
  (N:∀(A:Around)(i:Nat)(s:Shared)(Q:Value->Shared->Prop)(E:Value->Shared->Prop),St i s.heap->Q (.ref a) s->wpAny (model P w) A (pyIter (.ref a)) Q E s)
  (G:∀i h,St i h->∃o n vs,h.get? a=some o/\o.cls=.type n/\o.data=.fields vs/\["enumerate","zip","dict_itemiterator","dict_reverseitemiterator","odict_iterator","itertools.zip_longest","itertools.pairwise"].contains n=false):Turn P w K tg (F6 z) [a] a St where
 mem:=by simp
 obj:=λi h st b g=>by
  have e:b=a:=by simpa using g
  subst e;obtain⟨o,n,vs,e,c,d,_⟩:=G i h st;exact⟨o,e,λv z=>by rw[d]at z;cases z⟩
 keep:=λi h l st k=>(W {} rfl).frame _ _ _ st k
 item:=by
  intro X p q r u i f s L H E I m st x;subst p q r;obtain⟨f0,f1,f2,f3,f4,f5⟩:=m a (by simp);refine(W X.A (I.ok.hd u)).item i s _ _ x st λv l y hv j C=>?_;obtain⟨c,t,p_,rfl⟩:=hv;have R:Inv X f L H {s with heap:=l,toks:=y}:=I.turned (λb o g e=>C b o (by simpa using g) e) f0 f1 f3 f4 f5;obtain⟨o,n,vs,e,c',d,nn⟩:=G _ _ j;exact⟨_,rfl,yC (s:={s with heap:=l,toks:=y}) e c' d nn ⟨.str ⟨#[c]⟩,H,R,⟨t,rfl⟩,⟨rfl,c,p_,rfl⟩,j,λb g=>(m b g).1⟩⟩
 done:=by
  intro X p q r u i f s L H E I m st x;subst p q r;obtain⟨f0,f1,f2,f3,f4,f5⟩:=m a (by simp);have e:z.cps.size=i:=x;subst e;exact(W X.A (I.ok.hd u)).done s _ _ st λl y C=>⟨rfl,I.turned (λb o g e=>C b o (by simpa using g) e) f0 f1 f3 f4 f5⟩
 self:=N
def aq(P:Program)(w:World)(K:QZ)(mg:Str->Qbb)(base:Heap)(k:Nat)(x:Str)(a:Qa8)(b:Sp):Prop:=
 ∃(f:Addr)(fd:FuncData),mq P w K mg base za k f fd a b/\mg x=some (.ref f)/\PySem.W.keepIn K (.ref f)=true/\Binds K fd a []/\∃(c:Value)(od:Option Addr)(d:Array Qbb),K.lookup f=some ⟨c,od,.func fd,d⟩
section
variable{k:Nat}{p pos:Pos}
theorem UG(F:aq X.prog X.w X.K X.mg X.base k x ps sp)(c:fb k X.A)(d:PA X (e::Y) t)(g:Gl X x:=by rfl)(h:Qbo x:=by decide)
  (i:Qbl X e Y:=by rfl) (a:Qbm X pos Y:=by rfl):
  PE X (.Call (.Name x p) (e::Y) [] pos) (A3 sp [] E0 t):=by
 obtain⟨f,fd,G,Jc,kp,b,_⟩:=F;exact Sh G c g Jc kp b .nil Mt d h i a
theorem aq.mono{P:Program}{w:World}{K:QZ}{mg:Str->Qbb}{base:Heap}{j:Nat}(F:aq P w K mg base j x ps sp)(h:j<=k):aq P w K mg base k x ps sp:=by
 obtain⟨f,fd,G,r⟩:=F;exact⟨f,fd,G.mono h,r⟩
end
def iD(K:QZ)(b:TE):TI:=λσ H R=>b σ H λx H1=>match x with
 | .ref a=>((∃B,ak K H1 a B)/\R (Iu K a) H1)\/((∃B,ae K H1 a B)/\R (Iv K a) H1)
 | .str z=>R (F6 z) H1
 |_=>False
theorem UH{l:Expr}{G:TE}(P:PE X l G):PI X tg l (iD X.K G):=by
 intro j s L H R I h;refine bh (P j s L H _ I h) ?_;rintro v f ⟨x,r,g,N,y⟩;cases x with
 |ref a=>
  cases N;rcases y with⟨⟨T,C⟩,q⟩|⟨⟨T,C⟩,q⟩
  ·obtain⟨its,rv,p,hz⟩:=g.list C;refine wpAny_pyIter_list p.isList ?_;refine⟨f.heap.objs.size,[f.heap.objs.size],_,_,r,rfl,g.kept (t':=f.toks) λb o e=>Qc _ e,yS a _,⟨_,Qd _ rfl,rfl,rfl⟩,λb k=>?_,q⟩;have e:b=f.heap.objs.size:=by simpa using k
   subst e;exact g.yy (Qy _) (g.hok.fresh (Qy _))
  ·obtain⟨its,rv,p,hz⟩:=g.tuple C;refine wpAny_pyIter_tuple (show f.heap.IsTuple a its.toArray from p) ?_;refine⟨f.heap.objs.size,[f.heap.objs.size],_,_,r,rfl,g.kept (t':=f.toks) λb o e=>Qc _ e,wR a _,⟨_,Qd _ rfl,rfl,rfl⟩,λb k=>?_,q⟩;have e:b=f.heap.objs.size:=by simpa using k
   subst e;exact g.yy (Qy _) (g.hok.fresh (Qy _))
 |str z=>
  obtain⟨t,rfl⟩:=(show ∃t,v=Value.str z t from N)
  have q:R (F6 z) r:=y;have m:∀(o:Obj)(n:String)(W:∀u:Around,u.handled=none->Walks X.prog X.w u f.heap.objs.size [f.heap.objs.size] [f.heap.objs.size] z.cps.size (SignAt z) (λi h=>h.IsStrIter f.heap.objs.size n z t i)),
    (∀(A:Around)(i:Nat)(s:Shared)(Q:Value->Shared->Prop)(E:Value->Shared->Prop),s.heap.IsStrIter f.heap.objs.size n z t i->Q (.ref f.heap.objs.size) s->wpAny (model X.prog X.w) A (pyIter (.ref f.heap.objs.size)) Q E s)->
    ["enumerate","zip","dict_itemiterator","dict_reverseitemiterator","odict_iterator","itertools.zip_longest","itertools.pairwise"].contains n=false->
    (f.heap.push o).IsStrIter f.heap.objs.size n z t 0->CQ X j L tg R (.ref f.heap.objs.size) {f with heap:=f.heap.push o}:=by
   intro o n W V hn st;refine⟨f.heap.objs.size,[f.heap.objs.size],_,_,r,rfl,g.kept (t':=f.toks) λb o e=>Qc _ e,xC W V (λi h st=>?_),st,λb k=>?_,q⟩
   ·obtain⟨o,e,c,d⟩:=st;exact⟨o,n,_,e,c,d,hn⟩
   ·have e:b=f.heap.objs.size:=by simpa using k
    subst e;exact g.yy (Qy _) (g.hok.fresh (Qy _))
  cases ha:z.cps.all (· <128)
  ·exact wpAny_pyIter_wide ha (m _ _ (λu D=>Walks.strWide D _ z t) (λA i s Q E st h=>wpAny_pyIter_striter_wide st h) (by decide) ⟨_,Qd _ rfl,rfl,rfl⟩)
  ·exact wpAny_pyIter_ascii ha (m _ _ (λu D=>Walks.strAscii D _ z t) (λA i s Q E st h=>wpAny_pyIter_striter_ascii st h) (by decide) ⟨_,Qd _ rfl,rfl,rfl⟩)
 |_=>exact(show False from y).elim
def BY(J:It)(ok:Hp->Prop)(n:Nat)(a:Nat->V):Prop:=
 ∀H,ok H->(∀i,i<n->J.go i H/\∀x Z,J.sj i H x Z->Z=H/\x=a i)/\J.stop n H
theorem cB{K:QZ}(B:Qbi):BY (Iu K a) (λH=>ak K H a B) B.length (λi=>B.getD i .ao):=λH b=>
 ⟨λi c=>⟨⟨B,B[i],b,by simp[c]⟩,λx d ⟨e,y⟩=>⟨e,by
  have:=y B b;show x=B.getD i V.ao;rw[Qb,this];rfl⟩⟩,⟨B,b,Qy _⟩⟩
theorem dA{K:QZ}(B:Qbi):BY (Iv K a) (λH=>ae K H a B) B.length (λi=>B.getD i .ao):=λH b=>
 ⟨λi c=>⟨⟨B,B[i],b,by simp[c]⟩,λx d ⟨e,y⟩=>⟨e,by
  have:=y B b;show x=B.getD i V.ao;rw[Qb,this];rfl⟩⟩,⟨B,b,Qy _⟩⟩
theorem fB(lo:Int)(n:Nat):BY (FH lo n) (λ_=>True) n (λi=>.int (lo+i)):=λH _=>
 ⟨λi a=>⟨a,λx b ⟨e,y⟩=>⟨e,y⟩⟩,Qy _⟩
theorem UI(z:Str):BY (F6 z) (λ_=>True) z.cps.size (λi=>.str ⟨#[z.cps.getD i 0]⟩):=λH _=>
 ⟨λi a=>⟨a,λx b ⟨e,c,h1,h2⟩=>⟨e,by show x=V.str ⟨#[z.cps.getD i 0]⟩;rw[h2,Array.getD_eq_getD_getElem?,h1];rfl⟩⟩,rfl⟩
theorem eM {J:It} {ok:Hp->Prop} {d:Nat->V} {o:TC} {h:St} {D:Addr} {Q:Hp->Prop} (r:BY J ok n d) (f:Nat->St->Hp->Prop) (s:f 0 h H0)
  (hok:∀ i c H,i<=n->f i c H->ok H)
  (t:∀ i c H,i < n->f i c H->g (d i) c H λa H2=>o a H2 λb j=>if b=true then te a j λy k=>∃ B,k D=some (.lst B)/\B.length < sizeLine/\f (i+1) a (upd k D (.lst (B++[y]))) else f (i+1) a j)
  (u:∀ c H,f n c H->Q H):∃ W:Nat->Nat->St->Hp->Prop,(∃ m,W 0 m h H0)/\∀ i m c H,W i m c H->
   (J.stop i H/\Q H)\/(J.go i H/\∃ N:St->Hp->Prop,(∀ l Z,N l Z->∃ m',m' < m/\W (i+1) m' l Z)/\∀ x Z,J.sj i H x Z->g x c Z λa H2=>o a H2 λb j=>
    if b=true then te a j λy k=>∃ B,k D=some (.lst B)/\B.length < sizeLine/\N a (upd k D (.lst (B++[y]))) else N a j):=by
 refine ⟨λi m c H=>m=n - i/\i<=n/\f i c H,⟨n,by simp,Qal _,s⟩,?_⟩
 rintro i m c H ⟨rfl,w,p⟩
 obtain ⟨q,z⟩:=r H (hok i c H w p)
 by_cases cu:i < n
 ·refine .inr ⟨(q i cu).1,f (i+1),λA Z C=>⟨n - (i+1),by lia,rfl,cu,C⟩,λx Z y=>?_⟩
  obtain ⟨e,E⟩:=(q i cu).2 x Z y
  subst e E
  exact t i c _ cu p
 ·have e:i=n:=by lia
  subst e
  exact .inl ⟨z,u c H p⟩
theorem dF{J:It}{ok:Hp->Prop}{a:Nat->V}{f:TS}(h:BY J ok n a)(b:Nat->St->Hp->Prop)(j:b 0 σ H)(hok:∀i k H,i<=n->b i k H->ok H)
  (l:∀i σ H,i<n->b i σ H->g (a i) σ H λc H2=>f {D with nx:=b (i+1),ct:=b (i+1),bk:=D.nx} c H2) (o:∀σ H,b n σ H->D.nx σ H):
  ∃W:Nat->Nat->St->Hp->Prop,(∃m,W 0 m σ H)/\∀i m σ H,W i m σ H->
   (J.stop i H/\D.nx σ H)\/(J.go i H/\∃N:St->Hp->Prop,(∀d Z,N d Z->∃m',m'<m/\W (i+1) m' d Z)/\∀x Z,J.sj i H x Z->g x σ Z λc H2=>f {D with nx:=N,ct:=N,bk:=D.nx} c H2):=by
 refine⟨λi m σ H=>m=n-i/\i<=n/\b i σ H,⟨n,by simp,Qal _,j⟩,?_⟩;rintro i m σ H ⟨rfl,q,p⟩;obtain⟨k1,k2⟩:=h H (hok i σ H q p);by_cases cu:i<n
 ·refine .inr ⟨(k1 i cu).1,b (i+1),λd Z r=>⟨n-(i+1),by lia,rfl,cu,r⟩,λx Z y=>?_⟩;obtain⟨e,e2⟩:=(k1 i cu).2 x Z y;subst e e2;exact l i σ _ cu p
 ·have e:i=n:=by lia
  subst e;exact .inl ⟨k2,o σ H p⟩
def cz(K:QZ)(mg:Str->Qbb)(x:Str)(st:Stmt)(a:Qa8):Prop:=∃(f:Addr)(fd:FuncData),A7 K x x st f fd/\mg x=some (.ref f)/\Binds K fd a []
theorem cz.ok {P:Program} {w:World} {K:QZ} {mg:Str->Qbb} {base:Heap} {x:Str} {st:Stmt} {N c:Qa8} {k:Nat} {d:Sp} (F:cz K mg x st c) (S:dg N c (bz st)) (e:∀ a H Q E,d a H Q E->a.length=c.length)
  (i:∀ (f:Addr) (h:Value) (A:Around) (outer:List Env) (s:Shared) (H:Hp) (a:Qbi) (Q:VK) (E:XK),fb k (A.deeper (envOfC x (bz st) s.heap.objs.size f h))->d a H Q E->
   ∃ t,pe (jl za P w K mg base N x (bz st) f h A outer s H E).xu (kc st) t/\t {nx:=λ_ Z=>Q .ao Z,rt:=Q} (start N a) H):aq P w K mg base (k+1) x c d:=by
 obtain ⟨f,j,g,m,b⟩:=F
 exact ⟨f,j,g.ok S e (i f),m,g.kp,b,let ⟨oc,od,_,_,_,_,_,_,jf,_,lk,_⟩:=g.ex;⟨oc,od,jf,lk⟩⟩
section
variable{pos:Pos}
theorem UJ{v:V}(h:∃u,X.mg x=some u/\RelV v u)(a:Gl X x:=by rfl)(b:Qbo x:=by decide):PE X (.Name x pos) (tC v):=by
 obtain⟨u,h1,h2⟩:=h;exact yL a h1 h2 b
theorem UK:xy X (λx lo hi H Q=>I_ x lo hi H Q\/(IL X.K x lo hi H Q\/IG X.K x lo hi H Q)):=UE.or (SX.or Sz)
end
section
variable(K:QZ)
theorem UL(h:X.K=K:=by rfl):BO X (Ef K):=by rw[<- h];exact UB
theorem kS(h:X.K=K:=by rfl):ck X (compareOp .In) (F2 K false):=by rw[<- h];exact UC
theorem zF(h:X.K=K:=by rfl):ck X (compareOp .NotIn) (F2 K true):=by rw[<- h];exact zJ
theorem bR(h:X.K=K:=by rfl):jq X (.builtin "len") (IZ K):=by rw[<- h];exact zP
theorem mP(a:X.calm=true)(h:X.K=K:=by rfl):jq X (.builtin "all") (I0 K):=by rw[<- h];exact yW a
theorem lR(h:X.K=K:=by rfl):xy X (λx lo hi H Q=>I_ x lo hi H Q\/(IL K x lo hi H Q\/IG K x lo hi H Q)):=by rw[<- h];exact UK
theorem UM{l:Expr}{a:TE}(b:PE X l a)(h:X.K=K:=by rfl):PI X tg l (iD K a):=by rw[<- h];exact UH b
theorem UN{k:Nat}{t:xw}{a:Pos}(c:X.calm=true)(d:CP X Y t)(h:X.K=K:=by rfl)
  (e:(assignEach Y X.env).length=n:=by rfl) (b:(assignEach Y X.env).findIdx? (·.1)=none:=by rfl):PG X (.Tuple Y k a) (DZ K n t):=by
 subst h;exact Rw c d e b
theorem UO {id:String} {r:V->Qbi->Hp->VK->Prop} {o:Expr} (a:PlainAttrs T) (slot:Slot T name id) (b:typeOf (.builtin id)=pure (.type "method_descriptor")) (c:BQ X id r) (d:PE X o to) (f:PA X (e::Y) t) (h:X.K=K:=by rfl)
  (g:attributeBase o name X.env (eval o X.env)=eval o X.env:=by rfl)
  (i:((backTo cpos (starEach (e::Y) X.env)).all (λx=> !x.1)&&(backToKw cpos (keywordEach [] X.env)).all (λx=>x.1.isSome)
   &&decide ((e::Y).length+([]:List Keyword).length+(if ([]:List Keyword).isEmpty then 0 else 1) < 30))=true:=by rfl)
  (j:(apos.endLine==cpos.line)=true:=by rfl) (k:Qbl X e Y:=by rfl) (l:Qbm X cpos Y:=by rfl):
  PE X (.Call (.Attribute o name apos) (e::Y) [] cpos) (CV K T r to t):=by
 subst h;exact S1 a slot b c d f g i j k l
end
structure SE(X:Cx)(e:Expr)(t:TE):Prop where
 h:PE X e t
structure ST(X:Cx)(e:Expr)(t:TT):Prop where
 h:PT X e t
structure SW(X:Cx)(e:Expr)(t:TT):Prop where
 h:PW X e t
structure SA(X:Cx)(Y:List Expr)(t:TA):Prop where
 h:PA X Y t
structure SS(X:Cx)(s:Stmt)(t:TS):Prop where
 h:PS X s t
structure SB(X:Cx)(s:List Stmt)(t:TS):Prop where
 h:pe X s t
structure SG(X:Cx)(e:Expr)(t:TG):Prop where
 h:PG X e t
structure F7(X:Cx)(e:List Expr)(t:xw):Prop where
 h:CP X e t
structure SI(X:Cx)(tg e:Expr)(t:TI):Prop where
 h:PI X tg e t
structure SC(X:Cx)(e:List Expr)(t:TC):Prop where
 h:An X e t
structure SO(X:Cx)(e:Option Expr)(t:TO):Prop where
 h:PO X e t
section
variable{c:Const}{jh:Pos}{n:Str}{A_:List Expr}{f0 a0 b0 c0:Expr}{MD:List Keyword}{o0:Operator}{qc:List (Option Expr)}{ME:List Comprehension}{MF:Scope}{u0:UnaryOp}{bo0:BoolOp}{abK:List CmpOp}
theorem aC:SA X [] ip:=⟨Se⟩
theorem aA(a:SE X (.Constant c j jh) te)(b:SA X Y t):SA X (.Constant c j jh::Y) (cy te t):=⟨dW a.h b.h⟩
theorem aD(a:SE X (.Name n jh) te)(b:SA X Y t):SA X (.Name n jh::Y) (cy te t):=⟨dW a.h b.h⟩
theorem oG(a:SE X (.List A_ jh) te)(b:SA X Y t):SA X (.List A_ jh::Y) (cy te t):=⟨dW a.h b.h⟩
theorem aH(a:SE X (.Tuple A_ j jh) te)(b:SA X Y t):SA X (.Tuple A_ j jh::Y) (cy te t):=⟨dW a.h b.h⟩
theorem bB(a:SE X (.Call f0 A_ MD jh) te)(b:SA X Y t):SA X (.Call f0 A_ MD jh::Y) (cy te t):=⟨dW a.h b.h⟩
theorem cJ(a:SE X (.BinOp a0 o0 b0 jh) te)(b:SA X Y t):SA X (.BinOp a0 o0 b0 jh::Y) (cy te t):=⟨dW a.h b.h⟩
theorem aJ(a:SE X (.Subscript a0 b0 jh) te)(b:SA X Y t):SA X (.Subscript a0 b0 jh::Y) (cy te t):=⟨dW a.h b.h⟩
theorem UP(a:SE X (.Dict qc A_ jh) te)(b:SA X Y t):SA X (.Dict qc A_ jh::Y) (cy te t):=⟨dW a.h b.h⟩
theorem cG(a:SE X (.ListComp a0 ME MF jh) te)(b:SA X Y t):SA X (.ListComp a0 ME MF jh::Y) (cy te t):=⟨dW a.h b.h⟩
theorem UQ(a:SE X (.IfExp a0 b0 c0 jh) te)(b:SA X Y t):SA X (.IfExp a0 b0 c0 jh::Y) (cy te t):=⟨dW a.h b.h⟩
end
section
variable{a b c o i value lo hi iter elt:Expr}{ta tb tc td ty tv:TE}{pos p p2 jh:Pos}
theorem zv(i:Nat){a:Pos}(b:X.N[i]? =some x:=by rfl)(hv:CM X.env.scope x:=by first|exact Or.inl rfl|exact Or.inr (Or.inl rfl)|exact Or.inr (Or.inr rfl))(c:Qbo x:=by decide)(d:(x==("__classdict__":Str))=false:=by decide):SE X (.Name x a) (tV i):=⟨Up i b hv c d⟩
theorem wP{v:V}(h:∃u,X.mg x=some u/\RelV v u)(a:Gl X x:=by rfl)(b:Qbo x:=by decide):SE X (.Name x pos) (tC v):=⟨UJ h a b⟩
theorem UR{v:V}(a:Gl X x)(b:X.mg x=none)(hv:bootBuiltins x=some u)(r:RelV v u)(c:x≠"__name__":=by decide)(d:Qbo x:=by decide):SE X (.Name x pos) (tC v):=⟨Rc a b hv r c d⟩
theorem f8{j}:SE X (.Constant .none j pos) (tC .ao):=⟨Ra⟩
theorem Eg{b:Bool}{j}:SE X (.Constant (.bool b) j pos) (tC (.bl b)):=⟨Q_⟩
theorem aF{i:Int}{j}:SE X (.Constant (.int i) j pos) (tC (.int i)):=⟨Q9⟩
theorem aG{j}:SE X (.Constant (.str x) j pos) (tC (.str x)):=⟨Rb⟩
theorem bN{c:Operator}(d:ck X (binaryOp c) r)(e:SE X a ta)(f:SE X b tb):SE X (.BinOp a c b pos) (s_ r ta tb):=⟨RI d e.h f.h⟩
theorem F8{b:UnaryOp}{r:V->Hp->VK->Prop}(c:FL X (unaryOp b) r)(d:SE X a ta):SE X (.UnaryOp b a pos) (LS r ta):=⟨RJ c d.h⟩
theorem US(c:ck X (compareOp op) r)(d:SE X a ta)(e:SE X b tb)(f:behindInMarks op b=false):SE X (.Compare a [op] [b] pos) (s_ r ta tb):=⟨R6 c d.h e.h f⟩
theorem UT(c:ck X (compareOp op) r)(d:SE X a ta)(e:SE X b tb)(f:behindInMarks op b=false):ST X (.Compare a [op] [b] pos) (IB (s_ r ta tb)):=⟨R7 c d.h e.h f⟩
theorem lJ(h:SE X e te)(b:∀a,isTrue e X.env a=(do let v <- a;standAt e.pos;holding [v] (truthy v)):=by intro _;rfl):ST X e (tB te):=⟨Rf h.h b⟩
theorem yG(b:ST X a tA):ST X (.UnaryOp .Not a pos) (LJ tA):=⟨Rk b.h⟩
theorem dD(b:ST X a tA):SW X (.BoolOp .And [a] pos) tA:=⟨Rg b.h⟩
theorem yA(b:ST X a tA):SW X (.BoolOp .Or [a] pos) tA:=⟨Rh b.h⟩
theorem fE{d:TT}{c:List Expr}(e:ST X a tA)(f:SW X (.BoolOp .And (b::c) pos) d):SW X (.BoolOp .And (a::b::c) pos) (LH tA d):=⟨Ri e.h f.h⟩
theorem zB{d:TT}{c:List Expr}(e:ST X a tA)(f:SW X (.BoolOp .Or (b::c) pos) d):SW X (.BoolOp .Or (a::b::c) pos) (LI tA d):=⟨Rj e.h f.h⟩
theorem SW.pt{a:TT}(h:SW X e a):ST X e a:=⟨h.h.pt⟩
theorem bK(h:SA X Y t):SE X (.List Y pos) (A2 t):=⟨Sg h.h⟩
theorem aL{x1}(h:SA X Y t):SE X (.Tuple Y x1 pos) (ko t):=⟨Sf h.h⟩
theorem UU:SE X (.Dict [] [] pos) Mn:=⟨Tu⟩
theorem sX(d:ST X c tA)(e:SE X a ta)(f:SE X b tb):SE X (.IfExp c a b pos) (LK tA ta tb):=⟨Rl d.h e.h f.h⟩
theorem cS:SO X none Ma:=⟨Sv⟩
theorem cU(h:SE X e te):SO X (some e) (Mb te):=⟨Sw h.h⟩
theorem cT{r:V->Option Int->Option Int->Hp->VK->Prop}{l u:Option Expr}{a b:TO}(c:xy X r)(d:SE X e te)(f:SO X l a)(g:SO X u b):SE X (.Subscript e (.Slice l u none p2) pos) (Mc r te a b):=⟨Sy c d.h f.h g.h⟩
theorem UW(a:X.A.units+1<cLine)(b:SE X o td)(c:SE X i ty)(d:D9 i):SE X (.Subscript o i pos) (IQ td ty):=⟨Tq a b.h c.h d⟩
theorem UX(c:BO X r)(d:SE X a ta)(e:SE X b tb)(f:IJ b):SE X (.Subscript a b pos) (s_ r ta tb):=⟨SD c d.h e.h f⟩
theorem UY{k:Nat}(F:aq X.prog X.w X.K X.mg X.base k x ps sp)(b:fb k X.A)(c:SA X (e::Y) t)(d:Gl X x:=by rfl)(f:Qbo x:=by decide)
  (g:Qbl X e Y:=by rfl) (a:Qbm X pos Y:=by rfl):
  SE X (.Call (.Name x p) (e::Y) [] pos) (A3 sp [] E0 t):=⟨UG F b c.h d f g a⟩
theorem UZ{id:String}{r:Qbi->Hp->VK->Prop}(b:jq X (.builtin id) r)(c:Gl X x)(d:X.mg x=none)(hv:bootBuiltins x=some (.builtin id))(f:SA X (e::Y) t)(g:x≠"__name__":=by decide)(i:Qbo x:=by decide)
  (j:Qbl X e Y:=by rfl) (a:Qbm X pos Y:=by rfl):SE X (.Call (.Name x p) (e::Y) [] pos) (BK r t):=⟨Sl b c d hv f.h g i j a⟩
theorem gT (K:QZ) {id:String} {r:V->Qbi->Hp->VK->Prop} (a:PlainAttrs T) (slot:Slot T name id) (b:typeOf (.builtin id)=pure (.type "method_descriptor")) (c:BQ X id r) (d:SE X o to) (f:SA X (e::Y) t) (h:X.K=K:=by rfl)
  (g:attributeBase o name X.env (eval o X.env)=eval o X.env:=by rfl)
  (i:((backTo cpos (starEach (e::Y) X.env)).all (λx=> !x.1)&&(backToKw cpos (keywordEach [] X.env)).all (λx=>x.1.isSome)
   &&decide ((e::Y).length+([]:List Keyword).length+(if ([]:List Keyword).isEmpty then 0 else 1) < 30))=true:=by rfl)
  (j:(apos.endLine==cpos.line)=true:=by rfl) (k:Qbl X e Y:=by rfl) (l:Qbm X cpos Y:=by rfl):
  SE X (.Call (.Attribute o name apos) (e::Y) [] cpos) (CV K T r to t):=⟨UO K a slot b c d.h f.h h g i j k l⟩
theorem aW:SB X [] FD:=⟨Rm⟩
theorem aI{st:Stmt}{u:TS}(h1:SS X st u):SB X [st] u:=⟨Ro h1.h⟩
theorem aE{st:Stmt}{a:List Stmt}{u v:TS}(h1:SS X st u)(h2:SB X a v):SB X (st::a) (vy u v):=⟨Rn h1.h h2.h⟩
theorem aU(a:SE X e te):SS X (.Return (some e) pos) (Ip te):=⟨Rq a.h⟩
theorem cE(a:SE X e te)(b:swapsWith e none pos.line X.env=pure false:=by rfl):SS X (.Expr e pos) (DX te):=⟨Rp a.h b⟩
theorem bF{a b:List Stmt}{u v:TS}(d:ST X c tA)(e:SB X a u)(f:SB X b v):SS X (.If c a b pos) (Iq tA u v):=⟨Rr d.h e.h f.h⟩
theorem dP{u:TS}(a:PassesOwn (model X.prog X.w) X.A X.env X.xe)(b:X.calm=true)(c:SI X tg iter wi)(d:SG X tg g)(e:SB X body u)(f:∀x,foldedSetIterable iter X.env x=pure x:=by intro _;rfl):SS X (.For tg iter body [] pos) (LP wi g u):=⟨RG a b c.h d.h e.h f⟩
theorem iM{u:TS}(a:PassesOwn (model X.prog X.w) X.A X.env X.xe)(b:ST X c tA)(d:SB X body u):SS X (.While c body [] pos) (LN tA u):=⟨RD a b.h d.h⟩
theorem U0{i:Nat}(a:X.N.Nodup)(b:X.N[i]? =some x)(c:Loc X.env.scope x)(d:SE X e te)(f:swapsWith e (some (.Name x pos')) pos.line X.env=pure false:=by rfl)(g:Qbn X x:=by first|exact .inl rfl|exact .inr rfl|assumption):
  SS X (.Assign [.Name x pos'] e pos) (sf te (jk i)):=⟨Rz a b c d.h f g⟩
theorem xM(a:X.A.units+1<cLine)(b:SE X o td)(c:SE X i ty)(hv:SE X value tv)(d:swapsWith value (some (.Subscript o i pos')) pos.line X.env=pure false):SS X (.Assign [.Subscript o i pos'] value pos) (Mm td ty tv):=⟨Tr a b.h c.h hv.h d⟩
theorem i6(a:SE X e te)(b:SG X tg g)(c:swapsWithSole [tg] e pos.line X.env=pure false:=by rfl)(d:swappedStores [tg] e X.env=pure none:=by rfl)
  (h1:(assignEach [tg] X.env).map (·.2)=[assign tg X.env]:=by rfl):SS X (.Assign [tg] e pos) (sf te g):=⟨Ry a.h b.h c d h1⟩
theorem MG{i:Nat}(a:X.N.Nodup)(b:X.N[i]? =some x)(c:Loc X.env.scope x)(d:Qbn X x:=by first|exact .inl rfl|exact .inr rfl|assumption):SG X (.Name x pos) (jk i):=⟨Rt a b c d⟩
theorem cP:F7 X [] FG:=⟨Ru⟩
theorem bA{u:xw}(h1:SG X e g)(h2:F7 X Y u)(a:(assignEach (e::Y) X.env).map (·.2)=assign e X.env::(assignEach Y X.env).map (·.2):=by rfl):F7 X (e::Y) (BG g u):=⟨Rv h1.h h2.h a⟩
theorem dN(K:QZ){k:Nat}{u:xw}(b:X.calm=true)(c:F7 X Y u)(h:X.K=K:=by rfl)
  (d:(assignEach Y X.env).length=n:=by rfl) (a:(assignEach Y X.env).findIdx? (·.1)=none:=by rfl):SG X (.Tuple Y k pos) (DZ K n u):=⟨UN K b c.h h d a⟩
theorem pQ {u:FE} (c:SE X o td) (d:SE X i ty) (e:Ir X u)
  (f:∀ v,assign (.Subscript o i pos) X.env v=(do
   let a <- holding [v] (eval o X.env)
   let b <- holding [v,a] (eval i X.env)
   standAt pos
   holding [v,a,b] (setItem a b v)
   release [v,a,b] []):=by intro _;rfl):SG X (.Subscript o i pos) (LL td ty u):=⟨Rx c.h d.h e f⟩
theorem i8(b:Gl X "range")(c:X.mg "range"=none)(d:SA X [a] t)(e:starEach [a] X.env=[(false,eval a X.env)]:=by rfl):SI X tg (.Call (.Name "range" p) [a] [] pos) (LO t):=⟨z3 b c d.h e⟩
theorem lT(K:QZ)(a:SE X e te)(h:X.K=K:=by rfl):SI X tg e (iD K te):=⟨UM K a.h h⟩
theorem rA:SC X [] IU:=⟨T4⟩
theorem Jd(h:ST X c tA):SC X [c] tA:=⟨T5 h.h⟩
theorem MH{c:TC}(S:tq X.env.scope X.N sc own idx N')(d:X.calm=true)(e:SI X tg iter wi)
  (f:∀cl C a H0 fp b,SG (fz X N' sc cl C a H0 fp b) tg g) (i:∀cl C a H0 fp b,SC (fz X N' sc cl C a H0 fp b) ifs c) (j:∀cl C a H0 fp b,SE (fz X N' sc cl C a H0 fp b) elt te)
  (k:∀x,foldedSetIterable iter X.env x=pure x:=by intro _;rfl):SE X (.ListComp elt [⟨tg,iter,ifs,0⟩] sc pos) (Eb own idx wi g c te):=
 ⟨Um S d e.h (λq r s t u v=>(f q r s t u v).h) (λq r s t u v=>(i q r s t u v).h) (λq r s t u v=>(j q r s t u v).h) k⟩
theorem Eh{d:TC}{i:Nat}{e a:Pos}(S:tq X.env.scope X.N sc own idx N')(f:X.calm=true)(j:SI X tg iter wi)
  (k:∀cl C b H0 fp c,SG (fz X N' sc cl C b H0 fp c) tg g) (l:∀cl C b H0 fp c,SC (fz X N' sc cl C b H0 fp c) ifs d) (m:∀cl C b H0 fp c,SE (fz X N' sc cl C b H0 fp c) elt te)
  (n:X.N.Nodup) (o:X.N[i]? =some y) (p:X.env.scope.names.lookup y=some .local)
  (w:swapsWith (.ListComp elt [⟨tg,iter,ifs,0⟩] sc pos) (some (.Name y e)) a.line X.env=pure true:=by rfl)
  (z:∀x,foldedSetIterable iter X.env x=pure x:=by intro _;rfl):SS X (.Assign [.Name y e] (.ListComp elt [⟨tg,iter,ifs,0⟩] sc pos) a) (sf (Eb own idx wi g d te) (jk i)):=
 ⟨Uo S f j.h (λq r s t u v=>(k q r s t u v).h) (λq r s t u v=>(l q r s t u v).h) (λq r s t u v=>(m q r s t u v).h) n o p w z⟩
end
theorem cz.dh {K:QZ} {st:Stmt} {k:Nat} (F:cz K mg x st ps) (S:dg N ps (bz st)) (c:∀ a H Q E,sp a H Q E->a.length=ps.length)
  (d:∀ (f:Addr) (b:Value) (A:Around) (outer:List Env) (s:Shared) (H:Hp) (a:Qbi) (Q:VK) (E:XK),fb k (A.deeper (envOfC x (bz st) s.heap.objs.size f b))->sp a H Q E->
   ∃ t,SB (jl za P w K mg base N x (bz st) f b A outer s H E).xu (kc st) t/\t {nx:=λ_ Z=>Q .ao Z,rt:=Q} (start N a) H):aq P w K mg base (k+1) x ps sp:=
 F.ok S c λf b A outer s H a Q E e h=>let ⟨t,h1,h2⟩:=d f b A outer s H a Q E e h;⟨t,h1.h,h2⟩
theorem U1 {E G a f:Expr} {p:Pos} {C:Value} {D:Addr} (I:Nat->Shared->Prop)
  (q:∀ n s,I n s->wpAny (model prog w) A (pyNext C) (λr d=>match r with
   | none=>R (.ok .next) d
   | some v=>wpAny (model prog w) A (letOwnedTupleGo a C v) (λ_ H=>wpAny (model prog w) A (assign a env v) (λ_ g=>
     wpAny (model prog w) A (forIn ifs true λc r=>if r=true then do let ok <- isTrue c env (eval c env);pure (ForInStep.yield ok) else pure (ForInStep.yield r)) (λok e=>
      if ok=true then wpAny (model prog w) A (eval E env) (λkv i=>wpAny (model prog w) A (eval G env) (λK j=>
       wpAny (model prog w) A (dictSet D kv K) (λ_ k=>∃ m,m < n/\I m k) jg j) jg i) jg e
      else ∃ m,m < n/\I m e) jg g) jg H) jg d) jg s)
  (n:Nat) (h:I n s):
  codeAny (model prog w) A (.compLoop (.DictComp E G [⟨a,f,ifs,0⟩] scope p) 0 C (.ref D) env) R s:=by
 refine codeAny_loop rfl I (λn s L=>?_) n h
 show wpAny _ A ((compTurn (.DictComp E G [⟨a,f,ifs,0⟩] scope p) 0 C (.ref D) env).onRaise (λx=>do noteFrame x env;theTreesLotGoes x)) _ _ s
 refine wpAny_noted ?_
 rw [compTurn_dict]
 refine QS (wpAny_standAt (QS (wpAny_mono (q n s L) (λr d l=>?_) λ_ _ b=>b.elim)))
 cases r with
 | none=>exact QT l
 | some v=>
  refine QS (wpAny_mono l (λ_ H N=>?_) λ_ _ b=>b.elim)
  refine QS (wpAny_mono N (λ_ g t=>QS (wpAny_mono t (λok e o=>?_) λ_ _ b=>b.elim)) λ_ _ b=>b.elim)
  cases ok with
  | false=>exact QT ⟨rfl,o⟩
  | true=>
   exact QS (QS (wpAny_mono o (λkv i u=>QS (wpAny_holding (wpAny_mono u (λK j y=>QS (wpAny_standAt (wpAny_holding (wpAny_mono y (λ_ k z=>QT ⟨rfl,z⟩) λ_ _ b=>b.elim)))) λ_ _ b=>b.elim))) λ_ _ b=>b.elim))
section
variable{iter kx vx:Expr}{pos:Pos}{tc:TC}{tk tw:TE}
abbrev U3:Obj:={cls:=.type "dict",data:=.dict #[]}
def U4 (own:Qa8) (idx:Qbc) (j:TI) (g:TG) (k:TC) (l n:TE):TE:=λσ H Q=>j σ H λJ H1=>∀ D,H1 D=none->∃ W:Nat->Nat->St->Hp->Prop,(∃ m,W 0 m (zb own idx σ) (upd H1 D (.dK [])))/\∀ i m e H,W i m e H->
 (J.stop i H/\Q (.ref D) H)\/(J.go i H/\∃ N:St->Hp->Prop,(∀ c Z,N c Z->∃ m',m' < m/\W (i+1) m' c Z)/\∀ x Z,J.sj i H x Z->g x e Z λa H2=>k a H2 λb f=>
  if b=true then l a f λx o=>n a o λy h=>∃ kvs d,x=kV d/\h D=some (.dK kvs)/\kvs.length < sizeLine/\N a (upd h D (.dK (putK kvs d y))) else N a f)
theorem vT (S:tq X.env.scope X.N sc own idx N') (c1:∀ x c,cl.lookup x=some c->X.env.cells.lookup x=some c) (c2:∀ y∈sc.names,y.2=.free->∃ c,cl.lookup y.1=some c) (hc:X.calm=true)
  (hg:∀ cl C j H0 fp pn,PG (fz X N' sc cl C j H0 fp pn) tg g) (ht:∀ cl C j H0 fp pn,An (fz X N' sc cl C j H0 fp pn) ifs tc) (he:∀ cl C j H0 fp pn,PE (fz X N' sc cl C j H0 fp pn) kx tk) (hv:∀ cl C j H0 fp pn,PE (fz X N' sc cl C j H0 fp pn) vx tw)
  {U:List (Addr×Obj)} {σ:St} {Q:VK} {sy:Value} {s2:Shared} {RR:Value->Addr->Result->Shared->Prop} {E:Value->Shared->Prop}
  (hI:CQ X U σ tg (λJ H1=>∀ D,H1 D=none->∃ W:Nat->Nat->St->Hp->Prop,(∃ m,W 0 m (zb own idx σ) (upd H1 D (.dK [])))/\∀ i m l H,W i m l H->
   (J.stop i H/\Q (.ref D) H)\/(J.go i H/\∃ N:St->Hp->Prop,(∀ t Z,N t Z->∃ m',m' < m/\W (i+1) m' t Z)/\∀ x Z,J.sj i H x Z->g x l Z λd H2=>tc d H2 λb H3=>
    if b=true then tk d H3 λx H4=>tw d H4 λy u=>∃ kvs a,x=kV a/\u D=some (.dK kvs)/\kvs.length < sizeLine/\N d (upd u D (.dK (putK kvs a y))) else N d H3)) sy s2)
  (Ec:∀ D C Z s',Inv X U σ Z s'->Q (.ref D) Z->(Z C=none/\C≠X.env.locals/\X.s₀.heap.objs.size<=C/\(∀ x c,X.env.cells.lookup x=some c->c≠C)/\(∀ p∈X.pn++U,p.1≠C)/\∃ m,s'.heap.Ns C m)->RR (.ref D) C (.ok .next) s'):
  wpAny (model X.prog X.w) X.A newDict (λG L=>wpAny (model X.prog X.w) X.A (newFunctionEnv sc X.env.globals cl [] X.env.qual none .none (some X.env)) (λr f=>
   codeAny (model X.prog X.w) X.A (.compStart (.DictComp kx vx [⟨tg,iter,ifs,0⟩] sc pos) 0 sy G {r with scope:=relabel sc X.env}) (RR G r.locals) f) E L) E s2:=by
 refine uR (ob:=U3) (sel:=λenv D s K=>wpAny (model X.prog X.w) X.A (eval kx env) (λkv f=>wpAny (model X.prog X.w) X.A (eval vx env) (λvv P=>wpAny (model X.prog X.w) X.A (dictSet D kv vv) (λ_ T=>K T) jg P) jg f) jg s) (o0:=.dK []) (el:=λD l H K=>tk l H λx H4=>tw l H4 λy u=>∃ kvs a,x=kV a/\u D=some (.dK kvs)/\kvs.length < sizeLine/\K (upd u D (.dK (putK kvs a y)))) S c1 c2 hc (hob:=rfl)
  (λit D env R s I V n h=>U1 I V n h) (λh k=>bh h λ_ _ h=>bh h λ_ _ h=>bh h λ_ _ h=>k _ h) (λ_ _ _ _ _=>codeAny_compStart_dict) hg ht (λcl C j H0 fp pn U s l H D N I q=>?_) (λQ E h=>wpAny_newObj_type h)
  (λZ I H h e=>⟨Qal _,beq_eq_false_iff_ne.mpr (Ne.symm (VD I.big)),[],.nil,(Heap.DictOf.new s2.heap).at λo eo=>by rw [Qd _ rfl] at eo;cases eo;exact e⟩) hI Ec
 refine bh (he cl C j H0 fp pn _ s l H _ I q) ?_
 rintro kv s8 ⟨x8,H8,I8,r8,q8⟩
 refine bh (hv cl C j H0 fp pn _ s8 l H8 _ I8 q8) ?_
 rintro yv s9 ⟨y9,H9,I9,r9,kvs,a,ek,MI,hz,n9⟩
 subst ek
 obtain ⟨z,hd,vs,ag,dd⟩:=vJ I9.hok MI
 have Ei:vs.length<=sizeLine:=by rw [<- ag.length];exact z
 have gv:(putK kvs a y9).length<=sizeLine:=by have:=eL kvs a y9;lia
 refine wpAny_dictSet_pairs (hsz:=Ei) (n6 r8) dd λO v_ hs=>?_
 have Je:∃ q,O.get? D=some q:=let ⟨q,_,_,hq,_⟩:=v_;⟨q,hq⟩
 exact ⟨_,oF (t':=s9.toks+1) (ob:=.dK (putK kvs a y9)) I9 (by rw [MI];exact True.intro) hs Je (xI gv hd (ag.put a r9) v_),n9⟩
end
theorem aa.upd{H:Hp}{a:Addr}(h:H a=none)(o:HO):aa H (upd H a o):=λb u q=>by rw[aS (aY q h)];exact q
theorem Jf{c:Bool}{A B:Prop}(h1:c=true->B)(h2:c=false->A):if(!c)=true then A else B:=by
 cases c with
 |true=>exact gf (h1 rfl)
 |false=>exact A8 (h2 rfl)
theorem aj{c:Bool}{A B:Prop}(h1:c=true->A)(h2:c=false->B):if c=true then A else B:=by
 cases c with
 |true=>exact A8 (h1 rfl)
 |false=>exact gf (h2 rfl)
theorem aT{t u:TS}(mid:St->Hp->Prop)(h1:∀nx:St->Hp->Prop,(∀a Z,mid a Z->nx a Z)->t {D with nx:=nx} σ H)(h2:∀a Z,mid a Z->u D a Z):vy t u D σ H:=h1 (u D) h2
theorem aV(x:α)(B:List α):kq (x::B) 0=some x:=bU (j:=0) rfl
theorem lK(B:List α)(i:Int)(b:0<=i)(h1:i<B.length):∃c,B[i.toNat]? =some c/\kq B i=some c:=by
 have a:i.toNat<B.length:=by lia
 refine⟨B[i.toNat],by simp[a],?_⟩;have:=bU (B:=B) (j:=i.toNat) (v:=B[i.toNat]) (by simp[a]);rw[<- this];congr 1
 lia
theorem mZ(a:Qa8)(i:Nat)(h:i<a.length):(a.map V.str).getD i .ao=.str (a.getD i ""):=by
 simp[Qb,h]
abbrev U5(w:Addr)(m t:Int):Qbf:=[(.inr "mixed",.int m),(.inr "turn",.int t),(.inr "wide",.ref w)]
structure Ba(H:Hp)(p w:Addr)(t:Nat):Prop where
 ex:∃(m c:Int)(ws:List Int),H p=some (.dK (U5 w m c))/\H w=some (.lst (ws.map V.int))/\(0<=m/\m<2147483629)/\0<=c/\c<=(t:Int)
def Sm(p w:Addr)(H Z:Hp):Prop:=∀b o,H b=some o->b≠p->b≠w->Z b=some o
theorem Sm.refl{w:Addr}:Sm p w H H:=λ_ _ h _ _=>h
theorem Sm.trans{w:Addr}{d e:Hp}(a:Sm p w H d)(b:Sm p w d e):Sm p w H e:=λc o h h1 h2=>b c o (a c o h h1 h2) h1 h2
theorem aa.sm{w:Addr}{b:Hp}(a:aa H b):Sm p w H b:=λc o h _ _=>a c o h
theorem Ba.same{w:Addr}{t:Nat}(h:Ba H p w t)(s:aa H Z):Ba Z p w t:=by
 obtain⟨m,c,ws,h1,h2,r⟩:=h.ex;exact⟨m,c,ws,s _ _ h1,s _ _ h2,r⟩
theorem Sm.free{w:Addr}(s:Sm p w H Z)(h:Z l=none)(a:l≠p)(b:l≠w):H l=none:=by
 cases q:H l with
 |none=>rfl
 |some o=>rw[s l o q a b]at h;cases h
theorem Ba.upd{H:Hp}{p w D:Addr}{t:Nat}{o:HO}(h:Ba H p w t)(h1:D≠p)(h2:D≠w):Ba (upd H D o) p w t:=by
 obtain⟨m,c,ws,e1,e2,r⟩:=h.ex;exact⟨m,c,ws,by rw[aS h1.symm];exact e1,by rw[aS h2.symm];exact e2,r⟩
theorem Sm.upd{p w D:Addr}{H Z:Hp}{o:HO}(s:Sm p w H Z)(h:H D=none):Sm p w H (upd Z D o):=λb u a h1 h2=>by rw[aS (aY a h)];exact s b u a h1 h2
def Jg(K:QZ):Sp:=λvs H Q _=>∃(a:Addr)(ns:List Int),vs=[.ref a]/\ak K H a (ns.map V.int)/\ns.length<=63/\∀Z,Q (.bl true) Z
def F9(p w:Addr)(H:Hp):V->Prop
 | .ao=>True
 | .bl _=>True
 | .int _=>True
 | .str z=>z.length<=100000
 | .ref a=>a≠p/\a≠w/\((∃B,H a=some (.lst B))\/(∃B,H a=some (.tup B))\/∃kvs,H a=some (.dK kvs))
 |_=>False
theorem F9.sm{w:Addr}{x:V}(h:F9 p w H x)(s:Sm p w H Z):F9 p w Z x:=by
 cases x with
 |ref a=>
  obtain⟨h1,h2,h3⟩:=h;refine⟨h1,h2,?_⟩;rcases h3 with⟨b,e⟩|⟨b,e⟩|⟨b,e⟩
  ·exact .inl ⟨b,s _ _ e h1 h2⟩
  ·exact .inr (.inl ⟨b,s _ _ e h1 h2⟩)
  ·exact .inr (.inr ⟨b,s _ _ e h1 h2⟩)
 |_=>exact h
structure CZ(p w:Addr)(t:Nat)(H:Hp)(B:Qbi):Prop where
 U6:Ba H p w t
 all:∀x∈B,F9 p w H x
section
variable{w:Addr}{t u:Nat}{B ys:Qbi}
theorem CZ.sm(g:CZ p w t H B)(a:Ba Z p w u)(s:Sm p w H Z):CZ p w u Z B:=⟨a,λx b=>(g.all x b).sm s⟩
theorem CZ.upd{q:Addr}{o:HO}(g:CZ p w t H B)(h:H q=none):CZ p w t (upd H q o) B:=g.sm (g.U6.same (aa.upd h o)) (aa.upd h o).sm
end
section
variable{p pos:Pos}
theorem U7{r:Qbi->Hp->VK->Prop}(b:jq X (.type T) r)(c:Gl X x)(d:X.mg x=none)(hv:bootBuiltins x=some (.type T))(f:SA X (e::Y) t)(g:x≠"__name__":=by decide)(i:Qbo x:=by decide)
  (j:Qbl X e Y:=by rfl) (a:Qbm X pos Y:=by rfl):SE X (.Call (.Name x p) (e::Y) [] pos) (BK r t):=⟨zE b c d hv f.h g i j a⟩
def MJ(K:QZ):Qbi->Hp->VK->Prop:=λB H Q=>∃p ys,B=[.ref p]/\((ak K H p ys/\∀l,H l=none->Q (.ref l) (upd H l (.tup ys)))\/(ae K H p ys/\Q (.ref p) H))
def U8(K:QZ):Qbi->Hp->VK->Prop:=λB H Q=>∃p ys,B=[.ref p]/\(ak K H p ys\/ae K H p ys)/\∀l,H l=none->Q (.ref l) (upd H l (.lst ys))
theorem cK(K:QZ)(h:X.K=K:=by rfl):jq X (.type "tuple") (MJ K):=by subst h;exact qE
theorem lU(K:QZ)(h:X.K=K:=by rfl):jq X (.type "list") (U8 K):=by subst h;exact sE
theorem rF:∀{B:Qa8}{us:Qa9},StrsAre us B->bu (B.map V.str) us
 |_,_,.nil=>.nil
 |_,_,.cons x k r=>.cons ⟨k,rfl⟩ (rF r)
end
mutual
inductive wc (H:Hp):V->PyData->Prop
 |ao:wc H .ao .none
 |bl (b:Bool):wc H (.bl b) (.bool b)
 |int (i:Int):wc H (.int i) (.int i)
 |str (z:Str):wc H (.str z) (.str z)
 |tup {a:Addr} {B:Qbi} {M:List PyData}:H a=some (.tup B)->we H B M->wc H (.ref a) (.tuple M)
 |lst {a:Addr} {B:Qbi} {M:List PyData}:H a=some (.lst B)->we H B M->wc H (.ref a) (.list M)
inductive we (H:Hp):Qbi->List PyData->Prop
 |nil:we H [] []
 |cons {x:V} {d:PyData} {B:Qbi} {M:List PyData}:wc H x d->we H B M->we H (x::B) (d::M)
end
mutual
theorem wc.same{H Z:Hp}(s:aa H Z):∀{x:V}{d:PyData},wc H x d->wc Z x d
 |_,_,.ao=>.ao
 |_,_,.bl b=>.bl b
 |_,_,.int i=>.int i
 |_,_,.str z=>.str z
 |_,_,.tup e r=>.tup (s _ _ e) (we.same s r)
 |_,_,.lst e r=>.lst (s _ _ e) (we.same s r)
theorem we.same{H Z:Hp}(s:aa H Z):∀{B:Qbi}{M:List PyData},we H B M->we Z B M
 |_,_,.nil=>.nil
 |_,_,.cons a r=>.cons (wc.same s a) (we.same s r)
end
mutual
theorem U9{P:Program}{w:World}{H:Hp}{h:Heap}(ok:dm P w H h):∀{x:V}{d:PyData}{u:Value},wc H x d->RelV x u->∃as,Reads h u d as
 |_,_,_,.ao,r=>by cases(show _=Value.none from r);exact⟨[],.none⟩
 |_,_,_,.bl b,r=>by cases(show _=Value.bool b from r);exact⟨[],.bool b⟩
 |_,_,_,.int i,r=>by obtain⟨t,rfl⟩:=(show ∃t,_=Value.int i t from r);exact⟨[],.int i t⟩
 |_,_,_,.str z,r=>by obtain⟨t,rfl⟩:=(show ∃t,_=Value.str z t from r);exact⟨[],.str z t⟩
 |_,_,_,.tup (a:=a) (B:=B) e l,r=>by
  cases(show _=Value.ref a from r);obtain⟨_,its,rv,o,ho,hc,n,hd⟩:=(show c_ P w H h a (.tup B)from ok a _ e)
  obtain⟨as,ra⟩:=j0 ok l rv;exact⟨as,.tuple ho hc hd (by simpa using ra)⟩
 |_,_,_,.lst (a:=a) (B:=B) e l,r=>by
  cases(show _=Value.ref a from r);obtain⟨_,its,n,rv,ho⟩:=(show c_ P w H h a (.lst B)from ok a _ e)
  obtain⟨as,ra⟩:=j0 ok l rv;exact⟨a::as,.list ho rfl rfl (by simpa using ra)⟩
theorem j0{P:Program}{w:World}{H:Hp}{h:Heap}(ok:dm P w H h):∀{B:Qbi}{M:List PyData}{us:Qa9},we H B M->bu B us->∃as,ReadsAll h us M as
 |_,_,_,.nil,.nil=>⟨[],.nil⟩
 |_,_,_,.cons a l,.cons r rs=>by
  obtain⟨as,ra⟩:=U9 ok a r;obtain⟨bs,rb⟩:=j0 ok l rs;exact⟨as++bs,.cons ra rb⟩
end
def F_(n:Bool):R2:=λx y H Q=>match x,y with
 | .bl a,.bl b=>Q (.bl (n^^(a==b))) H
 |x,.ao=>Q (.bl (n^^decide (x=.ao))) H
 |_,_=>False
theorem pO:ck X (compareOp .Is) (F_ false):=by
 intro c s f H x y v u Q I d e h;cases y with
 |ao=>exact R4 c s f H _ _ v u Q I d e ⟨rfl,by cases x<;>simpa[F_]using h⟩
 |bl b=>
  cases x with
  |bl a=>
   cases d;cases e;exact is_bool (bG I h (by cases a<;>cases b<;>rfl))
  |_=>exact(show False from h).elim
 |_=>cases x<;>exact(show False from h).elim
theorem y8:ck X (compareOp .IsNot) (F_ true):=by
 intro c s f H x y v u Q I d e h;cases y with
 |ao=>exact R5 c s f H _ _ v u Q I d e ⟨rfl,by cases x<;>simpa[F_]using h⟩
 |bl b=>
  cases x with
  |bl a=>
   cases d;cases e;exact isnot_bool (bG I h (by cases a<;>cases b<;>rfl))
  |_=>exact(show False from h).elim
 |_=>cases x<;>exact(show False from h).elim
abbrev MK:Str:="abcdefghijklmnopqrstuvwxyz"
abbrev U_:Qa8:=["all","none","way","box","pick"]
def U'(c:Nat):Bool:= !(Builtin.Str.occurrences MK ⟨#[c]⟩ 0 MK.length 1).isEmpty
def isName(z:Str):Bool:=decide (1<=z.length)&&decide (z.length<=8)&& !(U_.any λy=>y==z)&&z.cps.toList.all U'
theorem aa.put(s:aa H0 Z)(h:H0 p=none):aa H0 (L2.upd Z p o):=λb u q=>by rw[aS (aY q h)];exact s b u q
theorem aM{u:TS}(h:te σ H λx H1=>u D (σ.set i (some x)) H1):vy (sf te (jk i)) u D σ H:=h
theorem i5{v:V}{u:TS}(h:u D (σ.set i (some v)) H):vy (sf (tC v) (jk i)) u D σ H:=h
theorem aO{t u:TS}{rt:VK}{bk ct:St->Hp->Prop}(h:vy t u D σ H):FD {nx:=vy t u D,rt:=rt,bk:=bk,ct:=ct} σ H:=h
theorem Inv.Ga{T:Addr}(I:Inv X U σ H s)(g:∀b∈ch,ph X U H b)(k:∀b o,b∉ch->s.heap.get? b=some o->O.get? b=some o)
  (i:s.heap.objs.size<=T) (h:c_ X.prog X.w (upd H T o) O T o):Inv X U σ (upd H T o) {s with heap:=O,toks:=t'}:=by
 have f:H T=none:=I.hok.fresh i;have p:∀b j,s.heap.get? b=some j->b≠T:=λb j e=>VD (uQ (Qz e) i);have l:∀b u,H b=some u->b∉ch:=λb u e d=>by rw[(g b d).1]at e;cases e
 refine I.step (g':=s.gens) (d':=s.drawn) (ch:=ch) (λb d=>?_) (λb o _ _ a e _=>k b o a e) (λb o _ _ a e _=>⟨o.slots,k b o a e⟩) (λb o a e n=>by rw[aS (p b o e)];exact n)
  (λb o a e=>⟨o,k b o a e⟩) (λb t e=>by rw[aS (aY e f)];exact e) (λb o u e=>by rw[aS (aY e f)];exact e) (λb A e=>⟨#[],by rw[aS (aY e f),e];simp⟩) (λm x=>?_) (λb u e=>?_) I.bare
 ·obtain⟨f0,f1,f2,f3,f4,f5⟩:=g b d;exact⟨f3,f1,f4,f5⟩
 ·obtain⟨o,Y,ep,ho,r⟩:=x;exact⟨o,Y,ep,k _ o (λz=>(g _ z).2.1 rfl) ho,r⟩
 ·by_cases d:b=T
  ·subst d;rw[aB]at e;cases e;exact h
  ·rw[aS d]at e;refine(I.hok b u e).stay (λc v a q=>k c v ?_ q) (λc q=>by rw[aS (aY q f)];exact q) λc t q=>q.upd λC y=>aY y f;rcases a with z|z
   ·rw[z];exact l b u e
   ·exact l c _ z
theorem Inv.Gb(I:Inv X U σ H s)(d:∀b∈ch,ph X U H b)(k:∀b o,b∉ch->s.heap.get? b=some o->O.get? b=some o):Inv X U σ H {s with heap:=O,toks:=t'}:=by
 have g:∀b u,H b=some u->b∉ch:=λb u e f=>by rw[(d b f).1]at e;cases e
 refine I.step (g':=s.gens) (d':=s.drawn) (ch:=ch) (λb f=>?_) (λb o _ _ a e _=>k b o a e) (λb o _ _ a e _=>⟨o.slots,k b o a e⟩) (λb o a e n=>n)
  (λb o a e=>⟨o,k b o a e⟩) (λb h e=>e) (λb o u e=>e) (λb j e=>⟨#[],by rw[e];simp⟩) (λm i=>?_) (λb u e=>?_) I.bare
 ·obtain⟨f0,f1,f2,f3,f4,f5⟩:=d b f;exact⟨f3,f1,f4,f5⟩
 ·obtain⟨o,Y,ep,ho,r⟩:=i;exact⟨o,Y,ep,k _ o (λz=>(d _ z).2.1 rfl) ho,r⟩
 ·refine(I.hok b u e).stay (λc v a q=>k c v ?_ q) (λc q=>q) λc h q=>q;rcases a with z|z
  ·rw[z];exact g b u e
  ·exact g c _ z
abbrev Aq(a b:V):Hp->V->Hp->Prop:=λH x Z=>∃T,x=.ref T/\H T=none/\Z=upd H T (.tup [a,b])
def Jh(K:QZ)(a:Addr):It:=
 ⟨λi H=>∃B x,ak K H a B/\B[i]? =some x,λi H x Z=>∃v,(∀B,ak K H a B->B[i]? =some v)/\Aq (.int i) v H x Z,λi H=>∃B,ak K H a B/\B.length<=i⟩
theorem oM{T:Addr}{c d:V}{a b:Value}(f:RelV c a)(g:RelV d b)(e:h.get? T=some {cls:=.type "tuple",data:=.seq #[a,b]}):c_ P w H h T (.tup [c,d]):=
 ⟨⟨show 2<=sizeLine by decide,λo q=>by rw[e]at q;cases q;rfl⟩,[a,b],.cons f (.cons g .nil),_,e,rfl,_,rfl⟩
theorem yQ{K:QZ}{k:Nat}{y:Pos}(a e m:Addr)(n:e≠m):Turn P w K (.Tuple yt k y) (Jh K a) [e,m] e (λi h=>(∃j,IsEnum h e m i j)/\h.IsListIter m a i)where
 mem:=by simp
 obj:=λi h st b g=>by
  obtain⟨⟨j,he⟩,o,A,c,d⟩:=st;simp only[Qp,QA,or_false]at g;rcases g with rfl|rfl
  ·exact⟨_,he,λv z=>by
    have V:Data.fields _=Data.cell v:=z;cases V⟩
  ·exact⟨o,A,λv z=>by rw[d]at z;cases z⟩
 keep:=λi h r st k=>by
  obtain⟨⟨j,he⟩,hi⟩:=st;exact⟨⟨j,k e (by simp) _ he⟩,hi.at λo x=>k m (by simp) o x⟩
 item:=by
  intro X C D G N i l s Q H E I t st L;subst C D G;obtain⟨⟨j,he⟩,hit⟩:=st;obtain⟨B,x,hq,hx⟩:=L;obtain⟨its,rv,p,hz⟩:=I.list hq;obtain⟨u,hu,ru⟩:=rv.get hx;refine wpAny_pyNext_enum_item he hit p.isList (x:=u) (by simpa using hu) n λr A Va hT ag hk=>?_;have I1:Inv X l Q (upd H s.heap.objs.size (.tup [.int i,x])) {s with heap:=r,toks:=s.toks+1}:=I.Ga t (λb o g e=>hk b o (λz=>g (by simp[z])) (λz=>g (by simp[z])) e) (Qy _) (oM ⟨_,rfl⟩ ru hT);refine⟨_,rfl,wpAny_letOwnedTupleGo_enum (s:={s with heap:=r,toks:=s.toks+1}) A λBb Vb R=>?_⟩;have cu:∀b∈[e,m],b≠s.heap.objs.size:=λb g z=>by
   simp only[Qp,QA,or_false]at g;rcases g with rfl|rfl
   ·exact VD (Qz he) z
   ·obtain⟨_,q,_⟩:=hit;exact VD (Qz q) z
  have T:∀b∈[e,m],ph X l (upd H s.heap.objs.size (.tup [.int i,x])) b:=λb g=>by
   obtain⟨f0,f⟩:=t b g;exact⟨by rw[aS (cu b g)];exact f0,f⟩
  obtain⟨f0,f1,f2,f3,f4,f5⟩:=T e (by simp);refine⟨.ref s.heap.objs.size,_,I1.turned (t':=s.toks+1) (λb o g q=>(R.2 b g).trans q) f0 f1 f3 f4 f5,rfl,⟨x,λys hy=>by rw[I.DW hy hq];exact hx,_,rfl,I.hok.fresh (Qy _),rfl⟩,⟨⟨u,by simpa using Vb⟩,Va.at λo q=>(R.2 m n.symm).trans q⟩,λb g=>(T b g).1⟩
 done:=by
  intro X C D G N i l s Q H E I t st L;subst C D G;obtain⟨⟨j,he⟩,hit⟩:=st;obtain⟨B,hq,hx⟩:=L;obtain⟨its,rv,p,hz⟩:=I.list hq;have hl:=rv.length;exact wpAny_pyNext_enum_end (I.ok.hd N) he hit p.isList (by simp;lia) λr eb=>⟨rfl,I.Gb (t':=s.toks) t λb o g q=>eb b o (λz=>g (by simp[z])) q⟩
 self:=λ_ _ _ _ _ st h=>let ⟨⟨_,he⟩,_⟩:=st;wpAny_pyIter_enum he h
theorem iQ{l m:Nat}(h1:l<n)(h2:m<n):ZipApart (n+4) (n+2) (n+3) n (n+1) l m:=by
 constructor<;>(show(_:Nat)≠_)<;>lia
def Ji(K : QZ)(a b : Addr) : It :=
  ⟨λi H => ∃B ys x y, ak K H a B /\ ak K H b ys /\ B[i]? = some x /\ ys[i]? = some y, λi H x Z => ∃c d, (∀B, ak K H a B -> B[i]? = some c) /\ (∀ys, ak K H b ys -> ys[i]? = some d) /\ Aq c d H x Z,
   λi H => ∃B ys, ak K H a B /\ ak K H b ys /\ (B.length <= i \/ ys.length <= i)⟩
abbrev Vc(z TI TO c d a b:Addr)(i:Nat)(h:Heap):Prop:=IsZip h z TI TO .none/\IsPair h TI (.ref c) (.ref d)/\(∃u v,IsPair h TO u v)/\h.IsListIter c a i/\h.IsListIter d b i
theorem Vd{K:QZ}{k:Nat}{L:Pos}(z TI TO m n a b:Addr)(D:ZipApart z TI TO m n a b):Turn P w K (.Tuple yt k L) (Ji K a b) [z,TI,TO,m,n] z (Vc z TI TO m n a b)where
 mem:=by simp
 obj:=λi h st c l=>by
  obtain⟨hz,gm,⟨u,v,h_⟩,⟨o1,e1,c1,d1⟩,o2,e2,c2,d2⟩:=st;simp only[Qp,QA,or_false]at l;rcases l with rfl|rfl|rfl|rfl|rfl
  ·exact⟨_,hz,λv z=>by have g:Data.fields _=Data.cell v:=z;cases g⟩
  ·exact⟨_,gm,λv z=>by have g:Data.seq _ _=Data.cell v:=z;cases g⟩
  ·exact⟨_,h_,λv z=>by have g:Data.seq _ _=Data.cell v:=z;cases g⟩
  ·exact⟨_,e1,λv z=>by rw[d1]at z;cases z⟩
  ·exact⟨_,e2,λv z=>by rw[d2]at z;cases z⟩
 keep:=λi h t st k=>by
  obtain⟨hz,gm,⟨u,v,h_⟩,h1,h2⟩:=st;exact⟨k z (by simp) _ hz,k TI (by simp) _ gm,⟨u,v,k TO (by simp) _ h_⟩,h1.at λo x=>k m (by simp) o x,h2.at λo x=>k n (by simp) o x⟩
 item:=by
  intro X N Q R l i j s σ H E I A st T;subst N Q R;obtain⟨hz,gm,⟨u0,v0,h_⟩,h1,h2⟩:=st;obtain⟨B,V,x,y,qz,hq2,hx,C⟩:=T;obtain⟨its,rv,p,Ei⟩:=I.list qz;obtain⟨its2,nc,p2,hz2⟩:=I.list hq2;obtain⟨u,hu,ru⟩:=rv.get hx;obtain⟨u2,Ej,Ek⟩:=nc.get C;refine wpAny_pyNext_zip_item D hz gm h_ h1 h2 p.isList p2.isList (x:=u) (y:=u2) (by simpa using hu) (by simpa using Ej) λt a1 a2 a3 a4 a5 a6 G=>?_;have I1:Inv X j σ (upd H s.heap.objs.size (.tup [x,y])) {s with heap:=t,toks:=s.toks}:=I.Ga (t':=s.toks) A (λb o d e=>G b o (λz=>d (by simp[z])) (λz=>d (by simp[z])) (λz=>d (by simp[z])) (λz=>d (by simp[z])) e) (Qy _) (oM ru Ek a5);refine⟨_,rfl,wpAny_letOwnedTupleGo_zip (s:={s with heap:=t}) a1 λBb El r=>?_⟩;have cu:∀b∈[z,TI,TO,m,n],b≠s.heap.objs.size:=λc l g=>by
   simp only[Qp,QA,or_false]at l;obtain⟨o1,e1,_⟩:=h1;obtain⟨o2,e2,_⟩:=h2;rcases l with rfl|rfl|rfl|rfl|rfl
   ·exact VD (Qz hz) g
   ·exact VD (Qz gm) g
   ·exact VD (Qz h_) g
   ·exact VD (Qz e1) g
   ·exact VD (Qz e2) g
  have yb:∀b∈[z,TI,TO,m,n],ph X j (upd H s.heap.objs.size (.tup [x,y])) b:=λb d=>by
   obtain⟨f0,f⟩:=A b d;exact⟨by rw[aS (cu b d)];exact f0,f⟩
  obtain⟨f0,f1,f2,f3,f4,f5⟩:=yb z (by simp);refine⟨.ref s.heap.objs.size,_,I1.turned (t':=s.toks) (λb o d q=>(r.2 b d).trans q) f0 f1 f3 f4 f5,rfl,⟨x,y,λV C=>by rw[I.DW C qz];exact hx,λV BS=>by rw[I.DW BS hq2];exact C,_,rfl,I.hok.fresh (Qy _),rfl⟩,?_,λb d=>(yb b d).1⟩;refine⟨El,(r.2 _ D.TIz).trans (G _ _ D.TIz D.TITO D.TIi1 D.TIi2 gm),⟨_,_,(r.2 _ D.TOz).trans a2⟩,a3.at λo q=>(r.2 _ D.i1z).trans q,a4.at λo q=>(r.2 _ D.i2z).trans q⟩
 done:=by
  intro X N Q R l i j s σ H E I A st T;subst N Q R;obtain⟨hz,gm,⟨u0,v0,h_⟩,h1,h2⟩:=st;obtain⟨B,V,qz,hq2,hx⟩:=T;obtain⟨its,rv,p,Ei⟩:=I.list qz;obtain⟨its2,nc,p2,hz2⟩:=I.list hq2;have hl:=rv.length;have iz:=nc.length;refine wpAny_pyNext_zip_end (I.ok.hd l) D hz gm h_ h1 h2 p.isList p2.isList ?_ λt G=>⟨rfl,I.Gb (t':=s.toks) A λb o d q=>G b o (λz=>d (by simp[z])) (λz=>d (by simp[z])) (λz=>d (by simp[z])) (λz=>d (by simp[z])) q⟩
  rcases hx with hx|hx
  ·exact .inl (by simp;lia)
  ·exact .inr (by simp;lia)
 self:=λ_ _ _ _ _ st h=>wpAny_pyIter_zip st.1 h
section
variable{k:Nat}{vz p pos:Pos}{a b:Expr}
def ML(K:QZ)(a:TA):TI:=λσ H R=>a σ H λvs H1=>∃l B,vs=[.ref l]/\ak K H1 l B/\R (Jh K l) H1
theorem Ve(o:Gl X "enumerate")(t:X.mg "enumerate"=none)(u:PA X [a] ta)(w:starEach [a] X.env=[(false,eval a X.env)]:=by rfl):PI X (.Tuple yt k vz) (.Call (.Name "enumerate" p) [a] [] pos) (ML X.K ta):=by
 intro c s i H R I h;refine Call_ (iJ I o t boot_enumerate (Qam (bh (u pos c s i H _ I h) ?_) w rfl));rintro E f ⟨G,j,d,x,y⟩;obtain⟨l,B,e,hq,q⟩:=y;subst e;cases x with
 |cons r rr=>
  cases rr;cases r;obtain⟨its,rv,pl,hz⟩:=d.list hq;refine call_enumerate_list pl.isList λz m g A C=>wpAny_pyIter_enum m ?_;have D:Inv X c i j {f with heap:=z}:=d.kept (t':=f.toks) C;refine⟨f.heap.objs.size+1,[f.heap.objs.size+1,f.heap.objs.size],_,_,j,rfl,D,yQ l _ _ (Nat.succ_ne_self _),⟨⟨_,m⟩,g⟩,λb n=>?_,q⟩;simp only[Qp,QA,or_false]at n;rcases n with rfl|rfl
  ·exact d.yy (Nat.le_succ _) (d.hok.fresh (Nat.le_succ _))
  ·exact d.yy (Qy _) (d.hok.fresh (Qy _))
def MM(K:QZ)(a:TA):TI:=λσ H R=>a σ H λvs H1=>∃l m B ys,vs=[.ref l,.ref m]/\ak K H1 l B/\ak K H1 m ys/\R (Ji K l m) H1
theorem Vf(r:Gl X "zip")(t:X.mg "zip"=none)(u:PA X [a,b] ta)(w:starEach [a,b] X.env=[(false,eval a X.env),(false,eval b X.env)]:=by rfl)(f:starEach [b] X.env=[(false,eval b X.env)]:=by rfl):
  PI X (.Tuple yt k vz) (.Call (.Name "zip" p) [a,b] [] pos) (MM X.K ta):=by
 intro d s j H R I h;refine Call_ (iJ I r t boot_zip (Qam (bh (u pos d s j H _ I h) λV c ⟨vs,n,g,z,A⟩=>?_) (by rw[w,f]) (by rw[f];rfl)));obtain⟨l,m,B,ys,e,qz,hq2,q⟩:=A;subst e;obtain⟨u1,u2,rfl,BZ,B0⟩:=z.two;cases BZ;cases B0;obtain⟨its,rv,pl,i⟩:=g.list qz;obtain⟨its2,nc,Ar,hz2⟩:=g.list hq2;have C:l<c.heap.objs.size:=by obtain⟨_,e,_⟩:=pl.isList;exact Qz e
 have D:m<c.heap.objs.size:=by obtain⟨_,e,_⟩:=Ar.isList;exact Qz e
 refine call_zip_2 pl.isList Ar.isList λE i G L h1 h2 N P=>wpAny_pyIter_zip i ?_;have Q:Inv X d j n {c with heap:=E}:=g.kept (t':=c.toks) P;have ne:∀{x y:Nat},x<y->x≠y:=λh=>VD h;have T:∀{x y:Nat},y<x->x≠y:=λh=>QaC h;refine⟨c.heap.objs.size+4,[c.heap.objs.size+4,c.heap.objs.size+2,c.heap.objs.size+3,c.heap.objs.size,c.heap.objs.size+1],_,_,n,rfl,Q,Vd _ _ _ _ _ l m ?_,⟨i,G,⟨_,_,L⟩,h1,h2⟩,λb o=>?_,q⟩
 ·exact iQ C D
 ·simp only[Qp,QA,or_false]at o;rcases o with rfl|rfl|rfl|rfl|rfl<;>exact g.yy (by simp) (g.hok.fresh (by simp))
theorem Vg(K:QZ)(b:Gl X "enumerate")(c:X.mg "enumerate"=none)(d:SA X [a] ta)(h:X.K=K:=by rfl)(e:starEach [a] X.env=[(false,eval a X.env)]:=by rfl):SI X (.Tuple yt k vz) (.Call (.Name "enumerate" p) [a] [] pos) (ML K ta):=by subst h;exact⟨Ve b c d.h e⟩
theorem Vh(K:QZ)(d:Gl X "zip")(e:X.mg "zip"=none)(f:SA X [a,b] ta)(h:X.K=K:=by rfl)(g:starEach [a,b] X.env=[(false,eval a X.env),(false,eval b X.env)]:=by rfl)(c:starEach [b] X.env=[(false,eval b X.env)]:=by rfl):
  SI X (.Tuple yt k vz) (.Call (.Name "zip" p) [a,b] [] pos) (MM K ta):=by subst h;exact⟨Vf d e f.h g c⟩
end
def C0(J:It)(ok:Hp->Prop)(n:Nat)(a b:Nat->V):Prop:=
 ∀H,ok H->(∀i,i<n->J.go i H/\∀x Z,J.sj i H x Z->Aq (a i) (b i) H x Z)/\J.stop n H
theorem Vi{K:QZ}(B:Qbi):C0 (Jh K a) (λH=>ak K H a B) B.length (λi=>.int i) (λi=>B.getD i .ao):=λH b=>
 ⟨λi c=>⟨⟨B,B[i],b,by simp[c]⟩,λx d ⟨v,hv,y⟩=>by
  have:=hv B b;have e:B.getD i V.ao=v:=by rw[Qb,this];rfl
  show Aq (.int i) (B.getD i .ao) H x d;rw[e];exact y⟩,⟨B,b,Qy _⟩⟩
theorem Vj{K:QZ}(B c:Qbi):C0 (Ji K a b) (λH=>ak K H a B/\ak K H b c) (min B.length c.length) (λi=>B.getD i .ao) (λi=>c.getD i .ao):=λH d=>
 ⟨λi m=>⟨⟨B,c,B[i]'(by lia),c[i]'(by lia),d.1,d.2,by simp,by simp⟩,λx e ⟨f,g,h,j,y⟩=>by
  have k:B.getD i V.ao=f:=by rw[Qb,h B d.1];rfl
  have l:c.getD i V.ao=g:=by rw[Qb,j c d.2];rfl
  show Aq (B.getD i .ao) (c.getD i .ao) H x e;rw[k,l];exact y⟩,⟨B,c,d.1,d.2,by lia⟩⟩
abbrev g2(K:QZ)(a b:Nat):TG:=DZ K 2 (BG (jk a) (BG (jk b) FG))
theorem iN{K:QZ}{a b:Nat}{T:Addr}{c d:V}{Q:St->Hp->Prop}(h:H T=some (.tup [c,d]))(q:Q ((σ.set a (some c)).set b (some d)) H):g2 K a b (.ref T) σ H Q:=
 ⟨T,_,rfl,ae.of h,rfl,_,_,rfl,_,_,rfl,rfl,q⟩
theorem lB{K:QZ}{J:It}{ok:Hp->Prop}{f g:Nat->V}{a b:Nat}{j:TS}(k:C0 J ok n f g)(c:Nat->St->Hp->Prop)(l:c 0 σ H)(hok:∀i o H,i<=n->c i o H->ok H)
  (q:∀i σ H T,i<n->c i σ H->H T=none->j {D with nx:=c (i+1),ct:=c (i+1),bk:=D.nx} ((σ.set a (some (f i))).set b (some (g i))) (upd H T (.tup [f i,g i]))) (r:∀σ H,c n σ H->D.nx σ H):
  ∃W:Nat->Nat->St->Hp->Prop,(∃m,W 0 m σ H)/\∀i m σ H,W i m σ H->
   (J.stop i H/\D.nx σ H)\/(J.go i H/\∃N:St->Hp->Prop,(∀d Z,N d Z->∃m',m'<m/\W (i+1) m' d Z)/\∀x Z,J.sj i H x Z->g2 K a b x σ Z λh H2=>j {D with nx:=N,ct:=N,bk:=D.nx} h H2):=by
 refine⟨λi m σ H=>m=n-i/\i<=n/\c i σ H,⟨n,by simp,Qal _,l⟩,?_⟩;rintro i m σ H ⟨rfl,s,p⟩;obtain⟨k1,k2⟩:=k H (hok i σ H s p);by_cases cu:i<n
 ·refine .inr ⟨(k1 i cu).1,c (i+1),λd Z t=>⟨n-(i+1),by lia,rfl,cu,t⟩,λx Z y=>?_⟩;obtain⟨T,rfl,hT,rfl⟩:=(k1 i cu).2 x Z y;exact iN aB (q i σ _ T cu p hT)
 ·have e:i=n:=by lia
  subst e;exact .inl ⟨k2,r σ H p⟩
theorem y6 {K:QZ} {J:It} {ok:Hp->Prop} {h j:Nat->V} {a b:Nat} {r:TC} {k:St} {D:Addr} {Q:Hp->Prop} (t:C0 J ok n h j) (g:Nat->St->Hp->Prop) (u:g 0 k H0)
  (hok:∀ i d H,i<=n->g i d H->ok H)
  (w:∀ i d H T,i < n->g i d H->H T=none->r ((d.set a (some (h i))).set b (some (j i))) (upd H T (.tup [h i,j i])) λc l=>if c=true then te ((d.set a (some (h i))).set b (some (j i))) l λy o=>∃ B,o D=some (.lst B)/\B.length < sizeLine/\g (i+1) ((d.set a (some (h i))).set b (some (j i))) (upd o D (.lst (B++[y]))) else g (i+1) ((d.set a (some (h i))).set b (some (j i))) l)
  (z:∀ d H,g n d H->Q H):∃ W:Nat->Nat->St->Hp->Prop,(∃ m,W 0 m k H0)/\∀ i m d H,W i m d H->
   (J.stop i H/\Q H)\/(J.go i H/\∃ N:St->Hp->Prop,(∀ q Z,N q Z->∃ m',m' < m/\W (i+1) m' q Z)/\∀ x Z,J.sj i H x Z->g2 K a b x d Z λf H2=>r f H2 λb l=>
    if b=true then te f l λy o=>∃ B,o D=some (.lst B)/\B.length < sizeLine/\N f (upd o D (.lst (B++[y]))) else N f l):=by
 refine ⟨λi m d H=>m=n - i/\i<=n/\g i d H,⟨n,by simp,Qal _,u⟩,?_⟩
 rintro i m d H ⟨rfl,A,p⟩
 obtain ⟨s,C⟩:=t H (hok i d H A p)
 by_cases cu:i < n
 ·refine .inr ⟨(s i cu).1,g (i+1),λE Z G=>⟨n - (i+1),by lia,rfl,cu,G⟩,λx Z y=>?_⟩
  obtain ⟨T,rfl,I,rfl⟩:=(s i cu).2 x Z y
  exact iN aB (w i d _ T cu p I)
 ·have e:i=n:=by lia
  subst e
  exact .inl ⟨C,z d H p⟩
end L2
namespace PySem
theorem pU{o:Obj}{B:Array Value}{k:Nat}{Q:Qbb->Shared->Prop}
  (i:s.heap.get? a=some o) (j:o.cls=.type "tuple") (l:o.data=.seq B k) (m:o.dict=none) (q:A.handled=none)
  (h:∀O tk,(∀b ob,s.heap.get? b=some ob->O.get? b=some ob)->Q none {s with heap:=O,toks:=tk}):
  wpAny (model prog w) A (getAttr? (.ref a) "keys") Q E s:=by
 obtain⟨c,dct,dat,sl⟩:=o;simp only at j l m;subst j l m;obtain⟨hp,g,d,tk,os⟩:=s;have n:∀p,(⟨hp,g,d,p,os⟩:Shared).TypeIs (.ref a) "tuple":=λ_=>⟨_,i,rfl⟩
 have r:typeLookup (.type "tuple") "keys"=pure none:=am_miss_of_fast (by kernel_rfl);have t:=sub_AttributeError;have u:=F.slot_tuple_getattribute.lookup;have x:=F.slot_tuple_getattribute.bind (.ref a);have y:=am_tuple_getattr_none;unfold getAttr? getAttrBy? getAttrBy
 repeat(any_goals (first|assumption|exact n _|((with_reducible show wpAny _ _ (call (Value.builtin "tuple.__getattribute__") _ _) _ _ _);refine call_meets F.slot_tuple_getattribute (n _) am_entry_tuple_getattribute (F.args_tuple_getattribute_2 _ _) (meets_getattribute_miss_tuple a B k sl _ _ r (by decide) (by decide)) ⟨i,q,λO p e f=>?_⟩)|wp_step))
 obtain⟨t',u',he⟩:=f.there;show wpAny _ _ (getattributeRaised _ _ _ _ _ _ _) _ _ _;unfold getattributeRaised
 repeat(any_goals (first|assumption|wp_step))
 exact h _ _ f.keeps
end PySem
namespace PySem.F
theorem MN:entryFor table "dict.update.loop"=some Builtin.«dict.update.loop»:=entryFor_of_tree (by kernel_rfl)
theorem Gd:plainId "dict.update.loop"=true:=by decide+kernel
end PySem.F
namespace L2
open PySem PySem.Spec PyProof.Rows
def kr(H:Hp)(c:Qbi)(a:Qbf):Prop:=c.length=a.length/\∀i(h:i<a.length),∃b,c[i]? =some (.ref b)/\H b=some (.tup [kV a[i].1,a[i].2])
def dictOf(a:Qbf):Qbf:=a.foldl (λkvs r=>putK kvs r.1 r.2) []
theorem vA(a:Qbf):∀kvs:Qbf,(a.foldl (λkvs r=>putK kvs r.1 r.2) kvs).length<=kvs.length+a.length:=by
 induction a with
 |nil=>intro kvs;exact Qy _
 |cons r a ih=>
  intro kvs;have h1:=ih (putK kvs r.1 r.2);have h2:=eL kvs r.1 r.2;rw[List.foldl_cons,Qac]
  lia
theorem wU(a:Qbf):(dictOf a).length<=a.length:=by have:=vA a [];simpa[dictOf]using this
theorem vC(a:Qbf)(i:Nat)(h:i<a.length):dictOf (a.take (i+1))=putK (dictOf (a.take i)) a[i].1 a[i].2:=by
 unfold dictOf;rw[Qs,Qa h,Option.toList_some,List.foldl_append];rfl
theorem wZ{d g:Addr}{y:Qbi}{c:Qbf}(N:A.handled=none)(C:H d=none)(gv:c.length<=sizeLine)(D:kr H y c)(l:H a=some (.tup y))(j:g≠d)
  (P:∀s,Inv X U σ (upd H d (.dK (dictOf c))) s->R (.ok (.ret .none)) s):
  ∀(k i:Nat)(s:Shared),c.length-i=k->i<=c.length->Inv X U σ (upd H d (.dK (dictOf (c.take i)))) s->s.heap.IsTupleIter g a i->ph X U (upd H d (.dK (dictOf (c.take i)))) g->
   codeAny (model X.prog X.w) A (.builtin "dict.update.loop" ⟨[.ref d,.ref g,rawInt i,.none],[]⟩) R s:=by
 have E:a≠d:=aY l C;intro k
 induction k with
 |zero=>
  intro i s Q V I st f;have Ge:i=c.length:=by lia
  subst Ge;refine codeAny_builtin F.MN ?_;rw[QaP F.Gd _];show wpAny _ A.in1 (pyNext (.ref g) >>=_) _ _ s;obtain⟨its,rv,p,hz⟩:=I.tuple (ae.of (by rw[aS E];exact l));have hl:=rv.length;have iz:=D.1;obtain⟨f0,f1,f2,f3,f4,f5⟩:=f;refine QS (wpAny_pyNext_tuple_end (by simp[N]) st (show s.heap.IsTuple a its.toArray from p) (by simp;lia) λO eb=>?_);have h:=I.turned (t':=s.toks) (O:=O) (λb o m e=>eb b o m e) f0 f1 f3 f4 f5;rw[Qa7]at h;show wpAny _ _ (Builtin.Dict.addKeywords d [] >>=λ_=>ret .none) _ _ _;exact QS (QT (QT (P _ h)))
 |succ k ih=>
  intro i s Q V I st f;have r:i<c.length:=by lia
  refine codeAny_builtin F.MN ?_;rw[QaP F.Gd _];show wpAny _ A.in1 (pyNext (.ref g) >>=_) _ _ s;obtain⟨its,rv,p,hz⟩:=I.tuple (ae.of (by rw[aS E];exact l));obtain⟨b,fq,wg⟩:=D.2 i r;obtain⟨u,hu,ru⟩:=rv.get fq;cases ru;obtain⟨f0,f1,f2,f3,f4,f5⟩:=id f;refine QS (wpAny_pyNext_tuple_item st (show s.heap.IsTuple a its.toArray from p) (x:=.ref b) (by simpa using hu) λO t sb=>?_);have h:Inv X U σ (upd H d (.dK (dictOf (c.take i)))) {s with heap:=O}:=I.turned (t':=s.toks) (λb o m e=>(sb.2 b m).trans e) f0 f1 f3 f4 f5;have Vl:b≠d:=aY wg C;obtain⟨its2,nc,⟨ob,ho,hc,n,hd2⟩,hz2⟩:=h.tuple (ae.of (a:=b) (by rw[aS Vl];exact wg));obtain⟨u1,u2,rfl,r1,r2⟩:=nc.two;show wpAny _ A.in1 (holding [Value.ref b] _ >>=_) _ _ _;refine QS (wpAny_holding (QS (wpAny_tryCatch ?_)));unfold Builtin.Dict.pairItems;refine QS (wpAny_typeOf (T:="tuple") ⟨ob,ho,hc⟩ ?_);rw[if_pos (by decide)];refine QS (wpAny_seqItems ho hd2 (QT ?_));show wpAny _ A.in1 (holding [u1,u2] (dictSet d u1 u2)) _ _ _;refine wpAny_holding ?_;obtain⟨z,hd,vs,rel,dd⟩:=vJ h.hok (aB:upd H d (.dK (dictOf (c.take i))) d=_);have qf:=wU (c.take i);rw[Qa6]at qf;have f_:(dictOf (c.take i)).length<sizeLine:=by lia
  have Ei:vs.length<=sizeLine:=by rw[<- rel.length];exact z
  have Vm:(putK (dictOf (c.take i)) c[i].1 c[i].2).length<=sizeLine:=by have:=eL (dictOf (c.take i)) c[i].1 c[i].2;lia
  refine wpAny_dictSet_pairs (hsz:=Ei) (n6 r1) dd λh2 G K=>?_;have Je:∃q,h2.get? d=some q:=let ⟨q,_,_,hq,_⟩:=G;⟨q,hq⟩
  have L:=oF (t':=s.toks+1) (ob:=.dK (putK (dictOf (c.take i)) c[i].1 c[i].2)) h (by rw[aB];exact True.intro) K Je (xI Vm hd (rel.put _ r2) G);rw[sQ,<- vC c i r]at L;refine QT ⟨plainId_quiet F.Gd _,?_⟩;exact ih (i+1) _ (by lia) r L (t.at λo q=>(K.2 g j).trans q) ⟨by rw[aS j]at f0⊢;exact f0,f1,f2,f3,f4,f5⟩
def Vn:Qbi->Hp->VK->Prop:=λB H Q=>∃a ys rs,B=[.ref a]/\H a=some (.tup ys)/\kr H ys rs/\rs.length<=sizeLine/\∀d,H d=none->Q (.ref d) (upd H d (.dK (dictOf rs)))
theorem iI(y:X.calm=true):jq X (.type "dict") Vn:=by
 intro U s σ H B D Q I r h;obtain⟨a,ys,rs,rfl,ha,hp,hl,q⟩:=h;obtain⟨u,rfl,ru⟩:=r.one;cases ru;refine callType_codes (Q₁:=λf d=>f=.ref s.heap.objs.size/\d={s with heap:=s.heap.push {cls:=.type "dict",data:=.dict #[]}}) F.kt_called_dict (F.kt_typeCall_dict_1 _) F.entry_dict_init (kt_code_dict_new _ ⟨rfl,rfl⟩) ?_;rintro f d ⟨rfl,rfl⟩;have i:H s.heap.objs.size=none:=I.hok.fresh (Qy _);have c:(s.heap.push {cls:=.type "dict",data:=.dict #[]}).DictOf (ir X.prog X.w) s.heap.objs.size []:=Heap.DictOf.new s.heap;have m:Inv X U σ (upd H s.heap.objs.size (.dK [])) {s with heap:=s.heap.push {cls:=.type "dict",data:=.dict #[]}}:=I.laid (t':=s.toks) (λb u e=>Qc _ e) (Qy _)
  ⟨Qal _,beq_eq_false_iff_ne.mpr (Ne.symm (VD I.big)),[],.nil,c⟩
 have p:a≠s.heap.objs.size:=aY ha i;obtain⟨⟨z,nd⟩,its,rv,o,ho,jt,n,hd⟩:=(show c_ X.prog X.w _ _ a (.tup ys)from m.hok a _ (by rw[aS p];exact ha))
 refine⟨c.typeIs,F.args_dict_init_2 _ _,?_⟩;unfold Builtin.«dict.__init__»;refine QS ?_;unfold Builtin.Dict.selfAndRest;refine QS (wpAny_notOrdered_dict c.typeIs ?_);show wpAny _ _ (pure (s.heap.objs.size,[Value.ref a])) _ _ _;refine QT ?_;show wpAny _ _ (Builtin.Dict.updateFrom "dict.__init__" s.heap.objs.size (.ref a) [] .none) _ _ _;unfold Builtin.Dict.updateFrom;refine QS (wpAny_typeOf (T:="tuple") ⟨o,ho,jt⟩ ?_);rw[if_pos (by decide)];have t:X.A.handled=none:=I.ok.hd y;refine QS (pU ho jt hd (nd _ ho) (by simp[t]) λj k x=>?_);rw[if_pos (by rfl)];refine QS (wpAny_rule ?_);have g:Inv X U σ (upd H s.heap.objs.size (.dK [])) {s with heap:=j,toks:=k}:=m.kept (t':=k) x;obtain⟨its2,nc,p2,hz2⟩:=g.tuple (ae.of (a:=a) (B:=ys) (by rw[aS p];exact ha));refine QS (wpAny_pyIter_tuple (show Heap.IsTuple j a its2.toArray from p2) ?_);have l:s.heap.objs.size<j.objs.size:=by
  obtain⟨_,_,_,e,_⟩:=c;exact Qz (x _ _ e)
 refine QT ⟨plainId_quiet F.Gd _,?_⟩;refine wZ (X:=X) (U:=U) (σ:=σ) (by simp[t]) i hl hp ha (QaC l) (λE C=>⟨rfl,.ref s.heap.objs.size,_,C,rfl,q _ i⟩) rs.length 0 _ rfl (Qal _) (g.kept (t':=k) λb o e=>Qc _ e) ⟨_,Qd _ rfl,rfl,rfl⟩ (g.yy (Qy _) (g.hok.fresh (Qy _)))
def Tk(H Z:Hp):Prop:=∀b B,H b=some (.tup B)->Z b=some (.tup B)
theorem Tk.refl:Tk H H:=λ_ _ h=>h
theorem Tk.trans{d e:Hp}(a:Tk H d)(b:Tk d e):Tk H e:=λc f h=>b c f (a c f h)
theorem aa.ts(s:aa H Z):Tk H Z:=λb a h=>s b _ h
theorem Tk.upd{H Z:Hp}{a:Addr}{o:HO}(s:Tk H Z)(h:Z a=none):Tk H (L2.upd Z a o):=λb c e=>by rw[aS (aY (s b c e) h)];exact s b c e
theorem Tk.set{c:HO}(s:Tk H Z)(h:Z a=some o)(d:∀B,o≠.tup B):Tk H (L2.upd Z a c):=λb B e=>by
 rw[aS (λz=>by rw[z]at e;have:=s a B e;rw[h]at this;cases this;exact d _ rfl)];exact s b B e
inductive yc (H:Hp):V->PyData->Prop
 |str (z:Str):yc H (.str z) (.str z)
 |tup {a:Addr} {B:Qbi} {M:List PyData}:H a=some (.tup B)->B.length=M.length->(∀i(h:i<B.length)(O:i<M.length),yc H B[i] M[i])->yc H (.ref a) (.tuple M)
theorem yc.ts(s:Tk H Z){v:V}{d:PyData}(h:yc H v d):yc Z v d:=by
 induction h with
 |str z=>exact .str z
 |tup e hl _ ih=>exact .tup (s _ _ e) hl ih
theorem yc.inj{v:V}{d:PyData}(h:yc H v d):∀{d':PyData},yc H v d'->d=d':=by
 induction h with
 |str z=>intro d' a;cases a;rfl
 |tup e hl _ ih=>
  intro d' a;cases a with
  |tup e' hl' h2=>
   rw[e]at e';cases e';congr 1;refine QaF (by lia) λi h1 b=>?_;exact ih i (by lia) h1 (h2 i (by lia) b)
theorem jH:∀{M:List PyData},(∀d∈M,d.showable=true)->PyData.showableAll M=true
 | [],_=>by simp[PyData.showableAll]
 |d::M,h=>by simp[PyData.showableAll,h d jP,jH λx a=>h x (Qh _ a)]
theorem kD:∀{M:List PyData},(∀d∈M,d.hasDict=false)->PyData.hasDictAll M=false
 | [],_=>by simp[PyData.hasDictAll]
 |d::M,h=>by simp[PyData.hasDictAll,h d jP,kD λx a=>h x (Qh _ a)]
theorem nK{k:Nat}:∀{M:List PyData},(∀d∈M,d.depth<=k)->PyData.depthAll M<=k
 | [],_=>by simp[PyData.depthAll]
 |d::M,h=>by
  have h1:=h d jP;have h2:=nK (M:=M) λx a=>h x (Qh _ a);simp[PyData.depthAll];lia
theorem MP{n:Nat}:∀{ts:Qa8},(∀t∈ts,t.length<=n)->(ts.map (·.length)).sum<=ts.length*n
 | [],_=>by simp
 |t::ts,h=>by
  have h1:=h t jP;have h2:=MP (ts:=ts) λx a=>h x (Qh _ a);rw[Qab,List.sum_cons,Qac,Nat.add_mul];lia
def TB(H:Hp)(v:V)(k n:Nat):Prop:=∃d,yc H v d/\d.depth<=k/\d.shown.length<=n/\d.showable=true/\d.hasDict=false
def Wd(z:Str):Prop:=z.length<=20/\∀c∈z.cps.toList,c<128
theorem TB.mono{v:V}{k a b:Nat}(h:TB H v k n)(c:k<=a)(e:n<=b):TB H v a b:=by
 obtain⟨d,h1,h2,h3,h4,h5⟩:=h;exact⟨d,h1,by lia,by lia,h4,h5⟩
theorem TB.ts{H Z:Hp}(s:Tk H Z){v:V}{k n:Nat}(h:TB H v k n):TB Z v k n:=by
 obtain⟨d,h1,h2⟩:=h;exact⟨d,h1.ts s,h2⟩
theorem TB.str{H:Hp}{z:Str}(h:Wd z):TB H (.str z) 0 202:=by
 refine⟨.str z,.str z,by simp[PyData.depth],?_,by simp[PyData.showable],by simp[PyData.hasDict]⟩;show(PyData.str z).shown.length<=202;simp only[PyData.shown];have:=StrLaws.reprText_len z (λc a=>uQ (h.2 c a) (by decide));have:=h.1
 lia
theorem TB.tup{H:Hp}{a:Addr}{B:Qbi}{k n:Nat}(e:H a=some (.tup B))(h:∀x∈B,TB H x k n):TB H (.ref a) (k+1) (B.length*(n+2)+3):=by
 have l:∀i:Fin B.length,∃d,yc H B[i.val] d/\d.depth<=k/\d.shown.length<=n/\d.showable=true/\d.hasDict=false:=λi=>h _ (Qj i.isLt);obtain⟨f,hf⟩:=Qay l;have c:∀d∈List.ofFn f,d.depth<=k/\d.shown.length<=n/\d.showable=true/\d.hasDict=false:=λd b=>by
  obtain⟨i,rfl⟩:=List.mem_ofFn.mp b;exact(hf i).2
 refine⟨.tuple (List.ofFn f),.tup e (by simp) λi h1 h2=>?_,?_,?_,?_,?_⟩
 ·have:=(hf ⟨i,h1⟩).1;simpa using this
 ·simp only[PyData.depth];have:=nK (λd b=>(c d b).1)
  lia
 ·simp only[PyData.shown];have h1:=tupleText_len_le (PyData.shownAll (List.ofFn f));have g:PyData.shownAll (List.ofFn f)=(List.ofFn f).map PyData.shown:=shownAll_eq_map _;have h2:((PyData.shownAll (List.ofFn f)).map (·.length)).sum<=(PyData.shownAll (List.ofFn f)).length*n:=MP λt j=>by
   rw[g]at j;obtain⟨d,b,rfl⟩:=qN.mp j;exact(c d b).2.1
  have m:(PyData.shownAll (List.ofFn f)).length=B.length:=by rw[g];simp
  rw[m]at h1 h2;rw[Nat.mul_add];lia
 ·simp only[PyData.showable];exact jH λd b=>(c d b).2.2.1
 ·simp only[PyData.hasDict];exact kD λd b=>(c d b).2.2.2
theorem nF(a:Qbf):(a.map (·.1)).Nodup->∀i(h:i<a.length),fu (dictOf a) a[i].1=some a[i].2:=by
 have gen:∀(a:Qbf)(b:Qbf),(a.map (·.1)).Nodup->∀k,fu (a.foldl (λb r=>putK b r.1 r.2) b) k=((a.find? λr=>decide (r.1=k)).map (·.2)).or (fu b k):=by
  intro a
  induction a with
  |nil=>intro b _ k;simp
  |cons r a ih=>
   intro b c k;rw[Qab,Qas]at c;rw[List.foldl_cons,ih _ c.2,Tj];by_cases e:r.1=k
   ·have:a.find? (λr=>decide (r.1=k))=none:=by
     rw[List.find?_eq_none];intro x d z;have f:=Qt z;exact c.1 (qN.mpr ⟨x,d,by rw[f,e]⟩)
    rw[this,QaA,if_pos e.symm];simp[e]
   ·rw[if_neg (λz=>e z.symm),QaA];simp[e]
 intro c i h;unfold dictOf;rw[gen a [] c];have:a.find? (λr=>decide (r.1=a[i].1))=some a[i]:=by
  rw[QaV];refine⟨by simp,i,h,rfl,λj g=>?_⟩;have l:(a.map (·.1))[j]'(by simp;lia)≠(a.map (·.1))[i]'(by simpa using h):=λz=>by
   exact(QaH.mp c j i (by simp;lia) (by simpa using h) g) z
  simpa using l
 rw[this];rfl
abbrev ef(a:Qbg):Qbf:=a.map λr=>(Sum.inr r.1,r.2)
def B4(H:Hp)(v:V)(o:Option Str):Prop:=∃b,v=.ref b/\((∃s ys,H b=some (.tup (.str s::ys))/\s≠"as"/\o=none)\/∃x,H b=some (.tup [.str "as",.str x])/\o=some x)
theorem B4.ts(s:Tk H Z){v:V}{o:Option Str}(h:B4 H v o):B4 Z v o:=by
 obtain⟨b,e,h⟩:=h;refine⟨b,e,?_⟩;rcases h with⟨z,a,h1,h2⟩|⟨x,h1,h2⟩
 ·exact .inl ⟨z,a,s _ _ h1,h2⟩
 ·exact .inr ⟨x,s _ _ h1,h2⟩
structure q_(H:Hp)(a:Addr)(B:Qbi)(rs:Qbg)(nx:Str->Option Str)(ρ:Str->Nat):Prop where
 at_:H a=some (.tup B)
 ps:kr H B (ef rs)
 nd:(rs.map (·.1)).Nodup
 len:rs.length<=300
 pos:0<rs.length
 as:∀r∈rs,B4 H r.2 (nx r.1)
 Gf:∀r∈rs,∀y,nx r.1=some y->y∈rs.map (·.1)/\ρ y<ρ r.1
 rk:∀r∈rs,ρ r.1<=rs.length
 tb:∀r∈rs,Wd r.1/\TB H r.2 3 8273
theorem kr.ts{a:Qbi}{c:Qbf}(p:kr H a c)(s:Tk H Z):kr Z a c:=⟨p.1,λi h=>let ⟨b,e1,e2⟩:=p.2 i h;⟨b,e1,s _ _ e2⟩⟩
section
variable{B:Qbi}{rs:Qbg}{nx:Str->Option Str}{ρ:Str->Nat}
theorem q_.ts(g:q_ H a B rs nx ρ)(s:Tk H Z):q_ Z a B rs nx ρ:=
 ⟨s _ _ g.at_,g.ps.ts s,g.nd,g.len,g.pos,λr b=>(g.as r b).ts s,g.Gf,g.rk,λr b=>⟨(g.tb r b).1,(g.tb r b).2.ts s⟩⟩
theorem pF(h:(rs.map (·.1)).Nodup):((ef rs).map (·.1)).Nodup:=by
 have e:(ef rs).map (·.1)=(rs.map (·.1)).map (Sum.inr:Str->Key):=by simp[ef,Qa3,Function.comp_def]
 rw[e];exact List.Pairwise.map _ (λa b c z=>c (Sum.inr.inj z)) h
theorem q_.get(g:q_ H a B rs nx ρ){x:Str}(b:x∈rs.map (·.1)):∃v,(x,v)∈rs/\fu (dictOf (ef rs)) (.inr x)=some v:=by
 obtain⟨r,hr,rfl⟩:=qN.mp b;obtain⟨i,hi,rfl⟩:=Qi hr;refine⟨rs[i].2,hr,?_⟩;have:=nF (ef rs) (pF g.nd) i (by simpa using hi);simpa using this
def B5(nx:Str->Option Str)(x:Str):Str:=(nx x).getD x
def yd(nx:Str->Option Str):Nat->Str->Str
 |0,x=>x
 |n+1,x=>yd nx n (B5 nx x)
theorem jX(n:Nat)(h:nx x=none):yd nx n x=x:=by
 induction n with
 |zero=>rfl
 |succ n ih=>rw[yd];rw[show B5 nx x=x by simp[B5,h]];exact ih
theorem q_.run(g:q_ H a B rs nx ρ):∀(n:Nat)(x:Str),x∈rs.map (·.1)->ρ x<=n->yd nx n x∈rs.map (·.1)/\nx (yd nx n x)=none/\yd nx (n+1) x=yd nx n x:=by
 intro n
 induction n with
 |zero=>
  intro x b c;obtain⟨r,hr',rfl⟩:=qN.mp b;cases e:nx r.1 with
  |none=>exact⟨b,e,jX 1 e⟩
  |some y=>have:=(g.Gf r hr' y e).2;lia
 |succ n ih=>
  intro x b c;obtain⟨r,hr',rfl⟩:=qN.mp b;cases e:nx r.1 with
  |none=>
   rw[jX _ e,jX _ e];exact⟨b,e,rfl⟩
  |some y=>
   have d:B5 nx r.1=y:=by simp[B5,e]
   obtain⟨h1,h2⟩:=g.Gf r hr' y e;have:=ih y h1 (by lia);rw[yd,yd,d];exact this
def ie(nx:Str->Option Str)(n:Nat)(x:Str):Str:=yd nx n x
theorem q_.Gg(g:q_ H a B rs nx ρ)(b:x∈rs.map (·.1)):ie nx rs.length x∈rs.map (·.1)/\nx (ie nx rs.length x)=none:=by
 obtain⟨r,hr,rfl⟩:=qN.mp b;obtain⟨h1,h2,_⟩:=g.run rs.length r.1 b (g.rk r hr);exact⟨h1,h2⟩
theorem q_.Vo(g:q_ H a B rs nx ρ)(b:x∈rs.map (·.1))(e:nx x=some y):ie nx rs.length y=ie nx rs.length x:=by
 obtain⟨r,hr,rfl⟩:=qN.mp b;obtain⟨h1,h2,h3⟩:=g.run rs.length r.1 b (g.rk r hr);have c:B5 nx r.1=y:=by simp[B5,e]
 rw[yd,c]at h3;exact h3
end
theorem Vp(B:Qbi)(k:Nat):gj B (some (k:Int)) none=B.drop k:=by
 unfold gj;rw[HT.jW,HT.uM];by_cases h:k<=B.length
 ·rw[Nat.min_eq_left h];exact qQ (by simp)
 ·rw[Nat.min_eq_right (by lia)];simp[List.drop_eq_nil_of_le (show B.length<=k by lia)]
theorem Vq(B:Qbi)(k:Nat):gj B none (some (k:Int))=B.take k:=by
 unfold gj;rw[HT.jW,HT.uM];simp
theorem zY{l:List α}(h:l.Nodup){x:α}(c:l[i]? =some x)(d:l[j]? =some x):i=j:=by
 obtain⟨a,e1⟩:=kB.mp c;obtain⟨b,e2⟩:=kB.mp d;rcases Nat.lt_trichotomy i j with z|z|z
 ·exact((QaH.mp h i j a b z) (e1.trans e2.symm)).elim
 ·exact z
 ·exact((QaH.mp h j i b a z) (e2.trans e1.symm)).elim
theorem rQ [BEq α][LawfulBEq α]{l:List α}(h:l.Nodup){x:α}(a:l[i]? =some x):l.idxOf x=i:=by
 have b:x∈l:=QC a;have h1:l.idxOf x<l.length:=List.idxOf_lt_length_of_mem b;have h2:l[l.idxOf x]? =some x:=by rw[Qa h1,List.getElem_idxOf]
 exact zY h h2 a
open Classical in
theorem fH(h1:z.length<=20)(h2:∀c∈z.cps.toList,c<128):Wd z:=⟨h1,h2⟩
section
variable{β:Type}{R:α->β->Prop}
theorem pG:∀{B b:List α}{c d:List β},Paired R B c->Paired R b d->Paired R (B++b) (c++d)
 |_,_,_,_,.nil,h=>h
 |_,_,_,_,.cons a r,h=>.cons a (pG r h)
theorem MR:∀{B:List α}{c:List β},B.length=c.length->(∀i(h:i<B.length)(O:i<c.length),R B[i] c[i])->Paired R B c
 | [],[],_,_=>.nil
 |x::B,y::c,hl,h=>.cons (h 0 (by simp) (by simp)) (MR (by simpa using hl) λi a b=>h (i+1) (by simpa using a) (by simpa using b))
theorem yM:∀{B:List α}{b:List β},Paired R B b->B.length=b.length/\∀i(h:i<B.length)(O:i<b.length),R B[i] b[i]
 |_,_,.nil=>⟨rfl,λi h=>absurd h (by simp)⟩
 |_,_,.cons a r=>by
  obtain⟨h1,h2⟩:=yM r;refine⟨by simp[h1],λi h O=>?_⟩;cases i with
  |zero=>exact a
  |succ i=>exact h2 i (by simpa using h) (by simpa using O)
end
def PR(H:Hp)(x:V)(r:Key×V):Prop:=∃b,x=.ref b/\H b=some (.tup [kV r.1,r.2])
theorem i7{B:Qbi}{a:Qbf}:kr H B a↔Paired (PR H) B a:=by
 constructor
 ·rintro⟨hl,h⟩;refine MR hl λi h1 h2=>?_;obtain⟨b,e1,e2⟩:=h i h2;rw[Qa h1]at e1;exact⟨b,QD e1,e2⟩
 ·intro h;obtain⟨hl,O⟩:=yM h;refine⟨hl,λi h2=>?_⟩;obtain⟨b,e1,e2⟩:=O i (by lia) h2;exact⟨b,by rw[Qa (by lia),e1],e2⟩
section
variable{B:Qbi}{rs:Qbg}
theorem tO(a b:Qbg):ef (a++b)=ef a++ef b:=by simp[ef]
theorem qZ:kr H [] (ef []):=i7.mpr .nil
theorem q9(h:kr H B (ef rs)){n:Str}{v:V}(e:H b=some (.tup [.str n,v])):kr H (B++[.ref b]) (ef (rs++[(n,v)])):=by
 rw[tO];exact i7.mpr (pG (i7.mp h) (.cons ⟨b,rfl,e⟩ .nil))
end
def KD(w:World)(K:QZ)(a:Addr)(kvs:Qbf):Prop:=∀P:Program,∃(o:Obj)(Y:Array DictEntry)(b:Nat)(vs:List (Key×Value)),K.lookup a=some o/\(a==sysModules)=false/\o.ExactDict/\o.data=.dict Y b/\KeysOf (ir P w) Y/\Pairs (ir P w) Y.toList vs/\(vs.map (·.1)).Nodup/\KV kvs vs
section
variable{kvs:Qbf}
theorem KD.of(h:KD X.w X.K a kvs)(I:Inv X U σ H s):(a==sysModules)=false/\∃vs,KV kvs vs/\s.heap.DictOf (ir X.prog X.w) a vs:=by
 obtain⟨o,Y,ep,vs,h1,h2,h3,h4,h5,h6,h7,h8⟩:=h X.prog;exact⟨h2,vs,h8,o,Y,ep,I.fi a o h1,h3,h4,h5,h6,h7⟩
variable{pos p:Pos}
def Vr(kvs:Qbf)(te:TE):TE:=λσ H Q=>te σ H λy H1=>∃k v,y=kV k/\fu kvs k=some v/\Q v H1
theorem MS{K:QZ}(g:∃a,X.mg x=some (.ref a)/\KD w K a kvs)(i:SE X e te)(j:D9 e)(c:X.w=w:=by rfl)(l:X.K=K:=by rfl)(m:Gl X x:=by rfl)(n:Qbo x:=by decide):SE X (.Subscript (.Name x p) e pos) (Vr kvs te):=by
 subst c l;obtain⟨a,hm,kd⟩:=g;constructor;intro b s d H Q I h;refine yB PySem.F.slot_dict_getitem.lookup j (bh (yL (v:=.ref a) m hm rfl n b s d H (λv r=>v=.ref a/\r=H) I ⟨rfl,rfl⟩) λu t ⟨z,P,A,C,D,E⟩=>?_);subst D E;cases C;refine bh (i.h b t d _ _ A h) ?_;rintro R T ⟨y,V,f,G,k,v,L,N,q⟩;subst L;obtain⟨h1,vs,rel,dd⟩:=kd.of f;obtain⟨w',c,qv⟩:=oz.some_of (v:=v) (o:=valueAt vs k) (by rw[<- N];exact rel.val k);exact⟨dd.typeIs,wpAny_getItem_of (n6 G) dd.mapOf c ⟨v,_,f.tok _,qv,q⟩⟩
end
theorem KV.len{kvs:Qbf}{a:List (Key×Value)}(r:KV kvs a):kvs.length=a.length:=Paired.length r
theorem p8(h:H a=some o):upd H a o=H:=by
 funext b;unfold upd;by_cases e:b=a
 ·rw[if_pos e,e,h]
 ·rw[if_neg e]
def Vs(n:Bool):R2:=λy x H Q=>∃a o,x=.ref a/\k_ H a y o/\Q (.bl (n^^o.isSome)) H
theorem Vt(c:X.A.units+1<cLine):ck X (compareOp .In) (Vs false):=by
 intro b s i H x y v u Q I d e h;obtain⟨a,o,rfl,g,q⟩:=h;cases e;exact To c I g d λj f=>⟨.bl o.isSome,H,f,rfl,by simpa using q⟩
inductive DD (H:Hp):V->Dt->Prop
 |str {z:Str} (h:z.length<=100000):DD H (.str z) (.str z)
 |tup {a:Addr} {B:Qbi} {M:List Dt}:H a=some (.tup B)->B.length=M.length->B.length<=1000->(∀i(h:i<B.length)(O:i<M.length),DD H B[i] M[i])->DD H (.ref a) (.tup M)
 |ao:DD H .ao .lg
 |bl (b:Bool):DD H (.bl b) .lg
 |int (i:Int):DD H (.int i) .lg
 |lst {a:Addr} {B:Qbi}:H a=some (.lst B)->DD H (.ref a) .lg
 |dct {a:Addr} {kvs:Qbf}:H a=some (.dK kvs)->DD H (.ref a) .lg
theorem DD.same(s:aa H Z){v:V}{d:Dt}(h:DD H v d):DD Z v d:=by
 induction h with
 |str h=>exact .str h
 |tup e hl hn _ ih=>exact .tup (s _ _ e) hl hn ih
 |ao=>exact .ao
 |bl b=>exact .bl b
 |int i=>exact .int i
 |lst e=>exact .lst (s _ _ e)
 |dct e=>exact .dct (s _ _ e)
def C1:Dt->Bool| .str z=>isName z|_=>false
def pairD:Dt->Bool| .tup [a,b]=>C1 a&&C1 b|_=>false
def MT:Dt->Str| .tup (.str z::_)=>z|_=>""
def wj(a b:Str):Bool:=decide (a.cps.toList<b.cps.toList)
def rising:Qa8->Bool
 |a::b::r=>wj a b&&rising (b::r)
 |_=>true
def Jk:Dt->Bool| .tup ps=>ps.all pairD&&rising (ps.map MT)|_=>false
def C2(s:Str):Bool:=s=="box"||s=="pick"
def Eo(s:Str):Option Nat:=if s=="all" then some 0 else if s=="none" then some 0 else if s=="way" then some 2 else if s=="as" then some 1 else none
def headD:Dt->Bool
 | .tup (.str s::rest)=>if C2 s then(match rest with| [p]=>Jk p|_=>false)else match Eo s with|some n=>decide (rest.length=n)&&rest.all C1|none=>false
 |_=>false
theorem aq.imp{P:Program}{w:World}{K:QZ}{mg:Str->Qbb}{base:Heap}{k:Nat}{x:Str}{a:Qa8}{b c:Sp}(F:aq P w K mg base k x a b)(h:∀vs H Q E,c vs H Q E->b vs H Q E):aq P w K mg base k x a c:=by
 obtain⟨f,fd,G,r⟩:=F;exact⟨f,fd,G.imp h,r⟩
theorem tL(b:Qbf):(b.map (·.1)).Nodup->dictOf b=b:=by
 have gen:∀(b a:Qbf),(b.map (·.1)).Nodup->(∀r∈b,fu a r.1=none)->b.foldl (λa r=>putK a r.1 r.2) a=a++b:=by
  intro b
  induction b with
  |nil=>intro a _ _;simp
  |cons r b ih=>
   intro a c d;rw[Qab,Qas]at c;rw[List.foldl_cons,u7 _ (d r jP),ih _ c.2 λx f=>?_]
   ·simp
   ·rw[mD _ _ _ _ (d r jP),if_neg (λe=>c.1 (qN.mpr ⟨x,f,e⟩))];exact d x (Qh _ f)
 intro c;have:=gen b [] c (λ_ _=>rfl);simpa[dictOf]using this
theorem yU{v:V}{d:Dt}(h:DD H v d)(a:C1 d=true):∃z,v=.str z/\d=.str z/\isName z=true:=by
 cases h with
 |str _=>exact⟨_,rfl,rfl,a⟩
 |tup _ _ _ _=>exact Bool.noConfusion a
 |ao=>exact Bool.noConfusion a
 |bl _=>exact Bool.noConfusion a
 |int _=>exact Bool.noConfusion a
 |lst _=>exact Bool.noConfusion a
 |dct _=>exact Bool.noConfusion a
def Vu:Dt->Dt| .tup (_::h::_)=>h|_=>.lg
def Ep:Dt->Option Str| .tup [.str s,.str x]=>if s=="as" then some x else none|_=>none
def B6(M:List Dt):List (Str×Dt):=M.map λd=>(MT d,Vu d)
def Jl(a:List (Str×Dt))(n:Str):Option Str:=(a.find? λr=>decide (r.1=n)).bind λr=>Ep r.2
theorem Vv(z:Str)(M:List Dt):headD (.tup (.str z::M))=if C2 z then(match M with| [p]=>Jk p|_=>false)else match Eo z with|some n=>decide (M.length=n)&&M.all C1|none=>false:=rfl
theorem Vw{v:V}{d:Dt}(h:DD H v d)(b:headD d=true):∃a z B M,v=.ref a/\d=.tup (.str z::M)/\H a=some (.tup (.str z::B))/\B.length=M.length/\B.length<1000/\(∀i(h:i<B.length)(O:i<M.length),DD H B[i] M[i])/\
  ((C2 z=true/\∃p,M=[p]/\Jk p=true)\/(C2 z=false/\∃n,Eo z=some n/\M.length=n/\M.all C1=true)):=by
 cases h with
 | @tup a B M e hl hn mw=>
  match M,hl,b,mw with
  | .str z::M,hl,b,mw=>
   match B,hl,e,hn,mw with
   |x0::B,hl,e,hn,mw=>
    have c:=mw 0 (by simp) (by simp);simp only[Qar]at c;cases c;refine⟨a,z,B,M,rfl,rfl,e,by simpa using hl,by simp at hn;lia,λi h O=>mw (i+1) (by simpa using h) (by simpa using O),?_⟩;rw[Vv]at b;cases hw:C2 z with
    |true=>
     rw[hw]at b;simp only[if_true]at b
     match M,b with
     | [p],b=>exact .inl ⟨rfl,p,rfl,b⟩
    |false=>
     rw[hw]at b;simp only[QaM,if_false]at b;cases hb:Eo z with
     |none=>rw[hb]at b;exact Bool.noConfusion b
     |some n=>
      rw[hb]at b;simp only[Qai,decide_eq_true_eq]at b;exact .inr ⟨rfl,n,rfl,b.1,b.2⟩
  | .tup _::_,_,b,_=>exact Bool.noConfusion b
  | .lg::_,_,b,_=>exact Bool.noConfusion b
  | [],_,b,_=>exact Bool.noConfusion b
 |str _=>exact Bool.noConfusion b
 |ao=>exact Bool.noConfusion b
 |bl _=>exact Bool.noConfusion b
 |int _=>exact Bool.noConfusion b
 |lst _=>exact Bool.noConfusion b
 |dct _=>exact Bool.noConfusion b
theorem zC:C2 "as"=false:=by decide
theorem Vx{v:V}{d:Dt}(h:DD H v d)(i:headD d=true):B4 H v (Ep d):=by
 obtain⟨a,z,B,M,rfl,rfl,e,hl,hn,mw,hc⟩:=Vw h i;refine⟨a,rfl,?_⟩;by_cases hz:z="as"
 ·subst hz;rcases hc with⟨f,_⟩|⟨_,n,g,j,b⟩
  ·rw[zC]at f;cases f
  ·have c:n=1:=by
    have:Eo "as"=some 1:=by decide
    rw[this]at g;cases g;rfl
   subst c
   match M,j,hl,b,mw with
   | [d1],_,hl,b,mw=>
    match B,hl,e,mw with
    | [x1],_,e,mw=>
     simp only[List.all_cons,List.all_nil,Bool.and_true]at b;obtain⟨y,q1,q2,_⟩:=yU (mw 0 (by simp) (by simp)) b;simp only[Qar]at q1;subst q1 q2;exact .inr ⟨y,e,by simp[Ep]⟩
 ·refine .inl ⟨z,B,e,hz,?_⟩;have k:(z==Str.ofString "as")=false:=by simpa using hz
  unfold Ep;split
  ·next s x Jm=>
   injection Jm with Jm;injection Jm with h1 _;injection h1 with h1;rw[<- h1,if_neg (by rw[k];exact V1)]
  ·rfl
theorem bD{t:TS}{rt:VK}{bk ct:St->Hp->Prop}(h:t D σ H):FD {nx:=t D,rt:=rt,bk:=bk,ct:=ct} σ H:=h
structure C3(H:Hp)(B:Qbi)(M:List Dt)(rs:Qbg)(hs:List Dt):Prop where
 l1:rs.length=M.length
 l2:hs.length=M.length
 ps:kr H B (ef rs)
 dd:∀i(h:i<M.length)(h1:i<rs.length)(h2:i<hs.length),M[i]=.tup [.str rs[i].1,hs[i]]/\DD H rs[i].2 hs[i]/\headD hs[i]=true/\isName rs[i].1=true
section
variable{B:Qbi}{M:List Dt}{rs:Qbg}{hs:List Dt}
theorem C3.rows(R:C3 H B M rs hs)(h:i<M.length)(h1:i<rs.length)(h2:i<hs.length):(B6 M)[i]? =some (rs[i].1,hs[i]):=by
 unfold B6;rw[Qq,Qa h,(R.dd i h h1 h2).1];rfl
theorem oA(n:Str)(h:n∉rs.map (·.1)):fu (ef rs) (.inr n)=none:=by
 unfold fu;rw[List.find?_eq_none.mpr]
 ·rfl
 ·intro p a e;obtain⟨r,hr,rfl⟩:=qN.mp a;exact h (qN.mpr ⟨r,hr,Sum.inr.inj (Qt e)⟩)
theorem qG(a:(rs.map (·.1)).Nodup)(h:i<rs.length):fu (ef rs) (.inr rs[i].1)=some rs[i].2:=by
 have:=nF (ef rs) (pF a) i (by simpa using h);rw[tL _ (pF a)]at this;simpa using this
theorem C3.nx(R:C3 H B M rs hs)(a:(rs.map (·.1)).Nodup)(h1:i<rs.length)(h2:i<hs.length):Jl (B6 M) rs[i].1=Ep hs[i]:=by
 have h:i<M.length:=by have:=R.l1;lia
 unfold Jl;have:(B6 M).find? (λr=>decide (r.1=rs[i].1))=some (rs[i].1,hs[i]):=by
  rw[QaV];have e:(B6 M).length=M.length:=by unfold B6;simp
  refine⟨by simp,i,by lia,?_,λj b=>?_⟩
  ·have:=R.rows h h1 h2;rw[Qa (by lia)]at this;exact QD this
  ·have c:j<rs.length:=by lia
   have:=R.rows (i:=j) (by lia) c (by lia);rw[Qa (by lia)]at this;rw[QD this];have d:(rs.map (·.1))[j]'(by simp;lia)≠(rs.map (·.1))[i]'(by simpa using h1):=λz=>(QaH.mp a j i (by simp;lia) (by simpa using h1) b) z;simpa using d
 rw[this];rfl
theorem C3.has(R:C3 H B M rs hs)(a:(rs.map (·.1)).Nodup)(n:Str)(v:V)(hv:fu (ef rs) (.inr n)=some v):B4 H v (Jl (B6 M) n):=by
 by_cases h:n∈rs.map (·.1)
 ·obtain⟨r,hr,rfl⟩:=qN.mp h;obtain⟨i,hi,rfl⟩:=Qi hr;rw[qG a hi]at hv;cases hv;have h2:i<hs.length:=by have:=R.l1;have:=R.l2;lia
  rw[R.nx a hi h2];obtain⟨_,q1,q2,_⟩:=R.dd i (by have:=R.l1;lia) hi h2;exact Vx q1 q2
 ·rw[oA n h]at hv;cases hv
end
inductive TX (H:Hp):V->Dt->Prop
 |str {z:Str} (h:z.length<=100000):TX H (.str z) (.str z)
 |tup {a:Addr} {B:Qbi} {M:List Dt}:H a=some (.tup B)->B.length=M.length->B.length<=1000->(∀i(h:i<B.length)(O:i<M.length),TX H B[i] M[i])->TX H (.ref a) (.tup M)
theorem TX.dd{v:V}{d:Dt}(h:TX H v d):DD H v d:=by
 induction h with
 |str h=>exact .str h
 |tup e hl hn _ ih=>exact .tup e hl hn ih
theorem VA{x:V}{d:Dt}(e:H a=some (.tup [x]))(h:TX H x d):TX H (.ref a) (.tup [d]):=.tup e rfl (by simp) λi h1 h2=>by
 match i,h1 with
 |0,_=>exact h
theorem tJ{x y:V}{d d':Dt}(e:H a=some (.tup [x,y]))(h:TX H x d)(O:TX H y d'):TX H (.ref a) (.tup [d,d']):=.tup e rfl (by simp) λi h1 h2=>by
 match i,h1 with
 |0,_=>exact h
 |1,_=>exact O
theorem VB{x y z:V}{d d' b:Dt}(e:H a=some (.tup [x,y,z]))(h:TX H x d)(O:TX H y d')(c:TX H z b):TX H (.ref a) (.tup [d,d',b]):=.tup e rfl (by simp) λi h1 h2=>by
 match i,h1 with
 |0,_=>exact h
 |1,_=>exact O
 |2,_=>exact c
theorem kW(h:isName z=true):z.length<=8:=by
 unfold isName at h;simp only[Qai,decide_eq_true_eq]at h;exact h.1.1.2
theorem lL(h:isName z=true):TX H (.str z) (.str z):=.str (by have:=kW h;lia)
theorem tP(h:z.length<=100):TX H (.str z) (.str z):=.str (by lia)
section
variable{P:Option Str->Prop}
structure MV(H:Hp)(ns:Qa8)(B:Qbi)(ps:Qbh):Prop where
 len:B.length=ps.length
 at_:∀i(h:i<B.length)(O:i<ps.length),∃c,B[i]=.ref c/\H c=some (.tup [.str ps[i].1,.str ps[i].2])
 nm:∀p∈ps,isName p.1=true/\isName p.2=true/\p.2∈ns
 Jo:rising (ps.map (·.1))=true
end
theorem uG{a b c:Str}(h1:wj a b=true)(h2:wj b c=true):wj a c=true:=by
 unfold wj at*;exact decide_eq_true (List.lt_trans (Qt h1) (Qt h2))
theorem iK:∀{ws:Qa8},ws.Pairwise (λa b=>wj a b=true)->rising ws=true
 | [],_=>rfl
 | [_],_=>rfl
 |a::b::r,h=>by
  rw[QaW]at h;rw[rising,h.1 b jP,iK h.2];rfl
def B7:V->Str
 | .str z=>z
 |_=>""
theorem VC{B:Qbi}{a:Qbg}(b:kr H B (ef a))(e:∀r∈a,isName r.1=true)(c:∀r∈a,∃y,r.2=.str y/\y∈ns/\isName y=true)(f:rising (a.map (·.1))=true):MV H ns B (a.map λq=>(q.1,B7 q.2)):=by
 have h:B.length=a.length:=by have:=b.1;simpa using this
 refine⟨by simp;lia,λi h1 h2=>?_,λq g=>?_,?_⟩
 ·have d:i<a.length:=by lia
  obtain⟨c',e1,e2⟩:=b.2 i (by simpa using d);rw[Qa h1]at e1;refine⟨c',QD e1,?_⟩;obtain⟨y,ey,_⟩:=c _ (Qj d);simp only[Qr];rw[ey];have:H c'=some (.tup [.str a[i].1,a[i].2]):=by simpa[ef,kV]using e2
  rw[ey]at this;exact this
 ·obtain⟨q',Gi,rfl⟩:=qN.mp g;obtain⟨y,ey,my,ny⟩:=c q' Gi;refine⟨e q' Gi,?_,?_⟩
  ·show isName (B7 q'.2)=true;rw[ey];exact ny
  ·show B7 q'.2∈ns;rw[ey];exact my
 ·rw[Qa3];exact f
def Hd.nx:Hd->Option Str
 | .as y=>some y
 |_=>none
def Hd.ok(a:Qa8):Hd->Prop
 | .one s=>s="all"\/s="none"
 | .as y=>isName y=true/\y∈a
 | .way x y=>isName x=true/\isName y=true/\x∈a/\y∈a
 | .prs s ps=>(s="box"\/s="pick")/\(∀p∈ps,isName p.1=true/\isName p.2=true/\p.2∈a)/\rising (ps.map (·.1))=true/\ps.length<=10
structure Gj(H:Hp)(B:Qbi)(ps:Qbh):Prop where
 len:B.length=ps.length
 at_:∀i(h:i<B.length)(O:i<ps.length),∃c,B[i]=.ref c/\H c=some (.tup [.str ps[i].1,.str ps[i].2])
theorem Gj.tk{B:Qbi}{d:Qbh}(h:Gj H B d)(s:Tk H Z):Gj Z B d:=⟨h.len,λi a b=>let ⟨c,h1,h2⟩:=h.at_ i a b;⟨c,h1,s _ _ h2⟩⟩
inductive HV (H:Hp):V->Hd->Prop
 |one {b:Addr} {s:Str}:H b=some (.tup [.str s])->HV H (.ref b) (.one s)
 |as {b:Addr} {y:Str}:H b=some (.tup [.str "as",.str y])->HV H (.ref b) (.as y)
 |way {b:Addr} {x y:Str}:H b=some (.tup [.str "way",.str x,.str y])->HV H (.ref b) (.way x y)
 |prs {b c:Addr} {s:Str} {B:Qbi} {ps:Qbh}:H b=some (.tup [.str s,.ref c])->H c=some (.tup B)->Gj H B ps->HV H (.ref b) (.prs s ps)
theorem HV.tk{H Z:Hp}(s:Tk H Z){v:V}{h:Hd}(q:HV H v h):HV Z v h:=by
 cases q with
 |one e=>exact .one (s _ _ e)
 |as e=>exact .as (s _ _ e)
 |way e=>exact .way (s _ _ e)
 |prs e e' p=>exact .prs (s _ _ e) (s _ _ e') (p.tk s)
theorem HV.tx{v:V}{h:Hd}(q:HV H v h)(ok:h.ok ns):TX H v h.dt:=by
 cases q with
 |one e=>exact VA e (tP (by rcases ok with rfl|rfl<;>decide))
 |as e=>exact tJ e (tP (by decide)) (lL ok.1)
 |way e=>exact VB e (tP (by decide)) (lL ok.1) (lL ok.2.1)
 | @prs b c s B ps e e' p=>
  have d:=ok.2.2.2;have f:=p.len;refine tJ e (tP (by rcases ok.1 with rfl|rfl<;>decide)) (.tup e' (by simp[p.len]) (by lia) λi h1 h2=>?_);have a:i<ps.length:=by simpa using h2
  obtain⟨c',q1,q2⟩:=p.at_ i h1 a
  obtain⟨m1,m2,_⟩:=ok.2.1 _ (Qj a);rw[q1];simp only[Qr];exact tJ q2 (lL m1) (lL m2)
abbrev eu:=Str×Hd
structure RV(H:Hp)(B:Qbi)(F:List eu):Prop where
 len:B.length=F.length
 at_:∀i(h:i<B.length)(O:i<F.length),∃b v,B[i]=.ref b/\H b=some (.tup [.str F[i].1,v])/\HV H v F[i].2
theorem RV.tk{H Z:Hp}{B:Qbi}{d:List eu}(h:RV H B d)(s:Tk H Z):RV Z B d:=⟨h.len,λi a b=>let ⟨c,v,h1,h2,h3⟩:=h.at_ i a b;⟨c,v,h1,s _ _ h2,h3.tk s⟩⟩
theorem RV.snoc{B:Qbi}{a:List eu}(h:RV H B a){v:V}{r:eu}(e:H b=some (.tup [.str r.1,v]))(hv:HV H v r.2):RV H (B++[.ref b]) (a++[r]):=by
 have c:=h.len;refine⟨by simp[c],λi h1 h2=>?_⟩;by_cases cu:i<B.length
 ·rw[Qe cu,Qe (by lia)];exact h.at_ i cu (by lia)
 ·have d:i=B.length:=by simp at h1;lia
  subst d;rw[Qf (Qy _),Qf (by lia)];simp only[Nat.sub_self,Qar,c];exact⟨b,v,rfl,e,hv⟩
def VF(r:eu):Dt:=.tup [.str r.1,r.2.dt]
def MX(b:Qa8)(a:List eu):Prop:=∀r∈a,isName r.1=true/\r.2.ok b
theorem eO(K:QZ)(h:X.K=K:=by rfl):ck X (binaryOp .Add) (II K):=by subst h;exact yE
def Hd.C4:Hd->Qa8
 | .prs _ ps=>ps.map (·.1)
 |_=>[]
structure ua(H:Hp)(ns ws:Qa8)(v:V)(P:Option Str->Prop):Prop where
 ex:∃h,HV H v h/\h.ok ns/\P h.nx/\∀z∈h.C4,z∈ws
section
variable{v:V}{P:Option Str->Prop}
theorem ua.tk{Z:Hp}(h:ua H ns ws v P)(s:Tk H Z):ua Z ns ws v P:=let ⟨d,h1,h2⟩:=h.ex;⟨d,h1.tk s,h2⟩
theorem ua.imp{a:Option Str->Prop}(h:ua H ns ws v P)(f:∀o,P o->a o):ua H ns ws v a:=let ⟨d,h1,h2,h3,h4⟩:=h.ex;⟨d,h1,h2,f _ h3,h4⟩
theorem VG(e:H b=some (.tup [.str "as",.str y]))(a:isName y=true)(c:y∈ns)(d:P (some y)):ua H ns ws (.ref b) P:=⟨.as y,.as e,⟨a,c⟩,d,(λ_ h=>nomatch h)⟩
theorem VH(e:H b=some (.tup [.str "none"]))(a:P none):ua H ns ws (.ref b) P:=⟨.one "none",.one e,.inr rfl,a,(λ_ h=>nomatch h)⟩
theorem VI(e:H b=some (.tup [.str "all"]))(a:P none):ua H ns ws (.ref b) P:=⟨.one "all",.one e,.inl rfl,a,(λ_ h=>nomatch h)⟩
theorem VJ(e:H b=some (.tup [.str "way",.str x,.str y]))(a:isName x=true)(c:isName y=true)(d:x∈ns)(f:y∈ns)(g:P none):ua H ns ws (.ref b) P:=⟨.way x y,.way e,⟨a,c,d,f⟩,g,(λ_ h=>nomatch h)⟩
theorem xH{s:Str}{B:Qbi}{a:Qbh}(d:s="box"\/s="pick")(e:H b=some (.tup [.str s,.ref c]))(f:H c=some (.tup B))(g:B.length<=10)(h:MV H ns B a)(i:∀q∈a,q.1∈ws)(j:P none):ua H ns ws (.ref b) P:=
 ⟨.prs s a,.prs e f ⟨h.len,h.at_⟩,⟨d,h.nm,h.Jo,by rw[<- h.len];exact g⟩,j,λz k=>by obtain⟨q,hq,rfl⟩:=qN.mp k;exact i q hq⟩
end
theorem MY (e:H b=some (.tup [.str x,.str y])) (a:Wd x) (c:Wd y):TB H (.ref b) 1 411:=
 (TB.tup (k:=0) (n:=202) e λv hv=>by
  simp only [Qp,QA,or_false] at hv
  rcases hv with rfl | rfl
  ·exact TB.str a
  ·exact TB.str c).mono (by lia) (by simp)
theorem HV.tb{ws:Qa8}{v:V}{h:Hd}(q:HV H v h)(ok:h.ok ns)(a:∀n∈ns,Wd n)(g:∀z∈h.C4,Wd z):TB H v 3 8273:=by
 cases q with
 |one e=>
  refine(TB.tup (k:=0) (n:=202) e λv hv=>?_).mono (by lia) (by simp);rw[qD.mp hv];rcases ok with rfl|rfl<;>exact TB.str (fH (by decide) (by decide))
 |as e=>exact(MY e (fH (by decide) (by decide)) (a _ ok.2)).mono (by lia) (by lia)
 |way e=>
  refine(TB.tup (k:=0) (n:=202) e λv hv=>?_).mono (by lia) (by simp);simp only[Qp,QA,or_false]at hv;rcases hv with rfl|rfl|rfl
  ·exact TB.str (fH (by decide) (by decide))
  ·exact TB.str (a _ ok.2.2.1)
  ·exact TB.str (a _ ok.2.2.2)
 | @prs b c s B ps e e' p=>
  have l:=ok.2.2.2;have m:=p.len;refine(TB.tup (k:=2) (n:=4133) e λv hv=>?_).mono (by lia) (by simp);simp only[Qp,QA,or_false]at hv;rcases hv with rfl|rfl
  ·rcases ok.1 with rfl|rfl<;>exact(TB.str (fH (by decide) (by decide))).mono (by lia) (by lia)
  ·refine(TB.tup (k:=1) (n:=411) e' λx j=>?_).mono (by lia) (by lia);obtain⟨i,hi,rfl⟩:=Qi j;have d:i<ps.length:=by lia
   obtain⟨c',q1,q2⟩:=p.at_ i hi d
   rw[q1];have f:ps[i]∈ps:=Qj d;exact MY q2 (g _ (qN.mpr ⟨_,f,rfl⟩)) (a _ (ok.2.1 _ f).2.2)
theorem sY(a:Str):wj a a=false:=by
 unfold wj;exact Qw (List.lt_irrefl _)
def B8(a:Qa8)(n:Str)(o:Option Str):Prop:=∀y,o=some y->∃(i j:Nat),i<j/\a[i]? =some y/\a[j]? =some n
structure wk(H:Hp)(ns ws:Qa8)(rs:Qbg):Prop where
 sub:∀r∈rs,r.1∈ns
 hd:∀r∈rs,ua H ns ws r.2 (B8 ns r.1)
theorem wk.tk{H Z:Hp}{a ws:Qa8}{b:Qbg}(h:wk H a ws b)(s:Tk H Z):wk Z a ws b:=⟨h.sub,λr c=>(h.hd r c).tk s⟩
theorem wk.perm{c a:Qbg}(h:wk H ns ws c)(p:∀r∈a,r∈c):wk H ns ws a:=⟨λr b=>h.sub r (p r b),λr b=>h.hd r (p r b)⟩
theorem wk.add{a:Qbg}(h:wk H ns ws a){n:Str}{v:V}(h1:n∈ns)(h2:ua H ns ws v (B8 ns n)):wk H ns ws ((n,v)::a):=by
 refine⟨λr hr=>?_,λr hr=>?_⟩<;>rcases Qp.mp hr with rfl|hr
 ·exact h1
 ·exact h.sub r hr
 ·exact h2
 ·exact h.hd r hr
structure RT(H:Hp)(a:Addr)(B:Qbi)(F:List eu)(ns ws:Qa8):Prop where
 at_:H a=some (.tup B)
 rv:RV H B F
 nm:(F.map (·.1)).Perm ns
 nd:ns.Nodup
 ok:MX ns F
 wd:∀n∈ns,Wd n
 ah:∀r∈F,B8 ns r.1 r.2.nx
 ww:∀r∈F,∀z∈r.2.C4,z∈ws
 pos:1<=ns.length
 few:ns.length<=14
section
variable{B:Qbi}{F:List eu}
theorem RT.tk(h:RT H a B F ns ws)(s:Tk H Z):RT Z a B F ns ws:=⟨s _ _ h.at_,h.rv.tk s,h.nm,h.nd,h.ok,h.wd,h.ah,h.ww,h.pos,h.few⟩
theorem RT.rl(h:RT H a B F ns ws):F.length=ns.length:=by have:=h.nm.length_eq;simpa using this
theorem RT.B9(h:RT H a B F ns ws):(F.map (·.1)).Nodup:=by rw[h.nm.nodup_iff];exact h.nd
theorem RT.of{c:Qbg}(e:H a=some (.tup B))(l:kr H B (ef c))(nm:(c.map (·.1)).Perm ns)(p:ns.Nodup)(m:∀n∈ns,isName n=true/\Wd n)(j:1<=ns.length)(k:ns.length<=14)(g:wk H ns ws c):∃F,RT H a B F ns ws:=by
 have q:∀i:Fin c.length,∃hd:Hd,HV H c[i.val].2 hd/\hd.ok ns/\B8 ns c[i.val].1 hd.nx/\∀z∈hd.C4,z∈ws:=λi=>(g.hd _ (Qj i.isLt)).ex;obtain⟨f,hf⟩:=Qay q;have s:B.length=c.length:=by have:=l.1;simpa using this
 have t:(List.ofFn λi:Fin c.length=>((c[i.val].1,f i):eu)).map (·.1)=c.map (·.1):=by
  apply QaF
  ·simp
  ·intro i h1 h2;simp
 have d:∀r∈(List.ofFn λi:Fin c.length=>((c[i.val].1,f i):eu)),∃i:Fin c.length,r=(c[i.val].1,f i):=λr h=>by
  obtain⟨i,hi,rfl⟩:=Qi h;exact⟨⟨i,by simpa using hi⟩,by simp⟩
 refine⟨List.ofFn λi=>(c[i.val].1,f i),e,⟨by simp[s],λi h1 h2=>?_⟩,by rw[t];exact nm,p,λr h=>?_,λn u=>(m n u).2,λr h=>?_,λr h=>?_,j,k⟩
 ·have o:i<c.length:=by lia
  obtain⟨b,e1,e2⟩:=l.2 i (by simpa using o);rw[Qa h1]at e1;refine⟨b,c[i].2,QD e1,?_,?_⟩
  ·simpa[ef,kV]using e2
  ·simpa using(hf ⟨i,o⟩).1
 ·obtain⟨i,rfl⟩:=d r h;exact⟨(m _ (g.sub _ (Qj i.isLt))).1,(hf i).2.1⟩
 ·obtain⟨i,rfl⟩:=d r h;exact(hf i).2.2.1
 ·obtain⟨i,rfl⟩:=d r h;exact(hf i).2.2.2
end
section
variable{B ys:Qbi}{F abL:List eu}{gw:Qa8}{f g:Str->Str}
theorem RT.pairs(h:RT H a B F ns ws):∃rs:Qbg,kr H B (ef rs)/\rs.map (·.1)=F.map (·.1)/\rs.length=F.length/\∀i(h1:i<rs.length)(h2:i<F.length),HV H rs[i].2 F[i].2:=by
 have c:=h.rv.len;have d:∀i:Fin F.length,∃v:V,(∃b,B[i.val]? =some (.ref b)/\H b=some (.tup [.str F[i.val].1,v]))/\HV H v F[i.val].2:=λi=>by
  obtain⟨b,v,q1,q2,q3⟩:=h.rv.at_ i.val (by have:=i.isLt;lia) i.isLt
  exact⟨v,⟨b,by rw[Qa (by have:=i.isLt;lia),q1],q2⟩,q3⟩
 obtain⟨f,hf⟩:=Qay d;refine⟨List.ofFn λi=>(F[i.val].1,f i),⟨by simp[c],λi e=>?_⟩,?_,by simp,λi h1 h2=>?_⟩
 ·have g:i<F.length:=by simpa using e
  obtain⟨b,q1,q2⟩:=(hf ⟨i,g⟩).1;exact⟨b,q1,by simpa[ef,kV]using q2⟩
 ·apply QaF
  ·simp
  ·intro i h1 h2;simp
 ·simpa using(hf ⟨i,h2⟩).2
def ye(a:List eu)(x:Str):Hd:=((a.find? λr=>decide (r.1=x)).map (·.2)).getD (.one "")
def ji(a:List eu)(x:Str):Option Str:=(ye a x).nx
theorem iA(a:(F.map (·.1)).Nodup){r:eu}(b:r∈F):ye F r.1=r.2:=by
 obtain⟨i,hi,rfl⟩:=Qi b;have:F.find? (λr=>decide (r.1=F[i].1))=some F[i]:=by
  rw[QaV];refine⟨by simp,i,hi,rfl,λj c=>?_⟩;have d:(F.map (·.1))[j]'(by simp;lia)≠(F.map (·.1))[i]'(by simpa using hi):=QaH.mp a j i (by simp;lia) (by simpa using hi) c;simpa using d
 unfold ye;rw[this];rfl
theorem HV.VL{v:V}{h:Hd}(q:HV H v h)(ok:h.ok ns):B4 H v h.nx:=by
 cases q with
 |one e=>exact⟨_,rfl,.inl ⟨_,_,e,by rcases ok with rfl|rfl<;>decide,rfl⟩⟩
 |as e=>exact⟨_,rfl,.inr ⟨_,e,rfl⟩⟩
 |way e=>exact⟨_,rfl,.inl ⟨_,_,e,by decide,rfl⟩⟩
 |prs e e' p=>exact⟨_,rfl,.inl ⟨_,_,e,by rcases ok.1 with rfl|rfl<;>decide,rfl⟩⟩
theorem RT.good(h:RT H a B F ns ws)(o:∀z∈ws,Wd z):∃rs,q_ H a B rs (ji F) (λn=>ns.idxOf n)/\rs.map (·.1)=F.map (·.1)/\rs.length=F.length/\∀x v,x∈ns->fu (dictOf (ef rs)) (.inr x)=some v->HV H v (ye F x):=by
 obtain⟨rs,ps,nm,rl,hv⟩:=h.pairs;have w:=h.rl;have A:=h.few;have C:=h.pos;have nd:(rs.map (·.1)).Nodup:=by rw[nm];exact h.B9
 have f:∀n,n∈ns↔n∈rs.map (·.1):=λn=>by rw[nm];exact h.nm.mem_iff.symm
 have d:∀r∈rs,∃b∈F,r.1=b.1/\HV H r.2 b.2:=λr c=>by
  obtain⟨i,hi,rfl⟩:=Qi c;have k:i<F.length:=by lia
  refine⟨F[i],Qj k,?_,hv i hi k⟩;have:(rs.map (·.1))[i]'(by simpa using hi)=(F.map (·.1))[i]'(by simpa using k):=by simp only[nm]
  simpa using this
 have g:q_ H a B rs (ji F) (λn=>ns.idxOf n):=by
  refine⟨h.at_,ps,nd,by lia,by lia,λr c=>?_,λr c y l=>?_,λr c=>?_,λr c=>?_⟩
  ·obtain⟨b,hr',e,v⟩:=d r c;unfold ji;rw[e,iA h.B9 hr'];exact v.VL (h.ok b hr').2
  ·obtain⟨b,hr',e,v⟩:=d r c;unfold ji at l;rw[e,iA h.B9 hr']at l;obtain⟨i,j,uu,h1,h2⟩:=h.ah b hr' y l;refine⟨(f y).mp (QC h1),?_⟩;show ns.idxOf y<ns.idxOf r.1;rw[e,rQ h.nd h1,rQ h.nd h2];exact uu
  ·have:=List.idxOf_lt_length_of_mem ((f r.1).mpr (qN.mpr ⟨r,c,rfl⟩));show ns.idxOf r.1<=_
   lia
  ·obtain⟨b,hr',e,v⟩:=d r c;refine⟨h.wd _ ((f r.1).mpr (qN.mpr ⟨r,c,rfl⟩)),v.tb (ws:=ws) (h.ok b hr').2 h.wd λz p=>o z (h.ww b hr' z p)⟩
 refine⟨rs,g,nm,rl,λx v s t=>?_⟩;obtain⟨v',m,e⟩:=g.get ((f x).mp s);rw[t]at e;cases e;obtain⟨b,hr',e,q⟩:=d _ m;have u:x=b.1:=e;rw[u,iA h.B9 hr'];exact q
end
inductive DA (P:Addr->Prop) (H:Hp):Bool->V->PyData->Dt->Prop
 |str {m:Bool} {z:Str} (h:z.length<=100000):DA P H m (.str z) (.str z) (.str z)
 |ao {m:Bool}:DA P H m .ao .none .lg
 |bl {m:Bool} (b:Bool):DA P H m (.bl b) (.bool b) .lg
 |int {m:Bool} (i:Int):DA P H m (.int i) (.int i) .lg
 |tup {m:Bool} {a:Addr} {B:Qbi} {ps:List PyData} {M:List Dt}:P a->H a=some (.tup B)->B.length=ps.length->B.length=M.length->B.length<=1000->(∀i(h:i<B.length)(O:i<ps.length)(Bb:i<M.length),DA P H m B[i] ps[i] M[i])->DA P H m (.ref a) (.tuple ps) (.tup M)
 |lst {a:Addr} {B:Qbi} {ps:List PyData} {M:List Dt}:P a->H a=some (.lst B)->B.length=ps.length->B.length=M.length->(∀i(h:i<B.length)(O:i<ps.length)(Bb:i<M.length),DA P H true B[i] ps[i] M[i])->DA P H true (.ref a) (.list ps) .lg
 |VM {a:Addr}:P a->H a=some (.dK [])->DA P H false (.ref a) (.dict []) .lg
 |VN {a:Addr} {z:Str} {x:V} {p:PyData} {d:Dt}:P a->H a=some (.dK [(.inr z,x)])->DA P H false x p d->DA P H false (.ref a) (.dict [(.str z,p)]) .lg
theorem DA.dd{P:Addr->Prop}{m:Bool}{v:V}{p:PyData}{d:Dt}(h:DA P H m v p d):DD H v d:=by
 induction h with
 |str h=>exact .str h
 |ao=>exact .ao
 |bl b=>exact .bl b
 |int i=>exact .int i
 |tup _ e h1 h2 h3 _ ih=>exact .tup e h2 h3 λi a b=>ih i a (by lia) b
 |lst _ e h1 h2 _ ih=>exact .lst e
 |VM _ e=>exact .dct e
 |VN _ e _ ih=>exact .dct e
def Hd.VO:Hd->List (Qa8×Str)
 | .way x y=>[(["from"],x),(["to"],y)]
 | .prs s ps=>ps.map λp=>([if s="box" then"part" else"case",p.1],p.2)
 |_=>[]
def endOf(a:List eu)(x:Str):Str:=ie (ji a) a.length x
def VP(a:List eu)(x:Str):List (Qa8×Str):=(ye a (endOf a x)).VO.map λm=>(m.1,endOf a m.2)
theorem RT.Gg{H:Hp}{a:Addr}{B:Qbi}{b:List eu}{c ws:Qa8}(rt:RT H a B b c ws)(f:∀z∈ws,Wd z){x:Str}(h:x∈c):endOf b x∈c/\(ye b (endOf b x)).nx=none/\(ye b (endOf b x)).ok c:=by
 obtain⟨rs,g,nm,rl,hv⟩:=rt.good f;have d:∀z,z∈c↔z∈rs.map (·.1):=λz=>by rw[nm];exact rt.nm.mem_iff.symm
 obtain⟨h1,h2⟩:=g.Gg ((d x).mp h);rw[rl]at h1 h2;refine⟨(d _).mpr h1,h2,?_⟩;have i:endOf b x∈b.map (·.1):=by rw[<- nm];exact h1
 obtain⟨r,hr,e⟩:=qN.mp i;rw[<- e,iA rt.B9 hr];exact(rt.ok r hr).2
structure M0(K:QZ)(t:Addr×Obj×Qbi):Prop where
 lk:K.lookup t.1=some t.2.1
 ok:∃(its:Qa9)(n:Nat),t.2.1.cls=.type "tuple"/\t.2.1.dict=none/\t.2.1.data=.seq its.toArray n/\bu t.2.2 its/\t.2.2.length<=sizeLine
theorem dM{as:Qba}{b:Addr}:∀{K:QZ},(without K as).lookup b=if as.contains b=true then none else K.lookup b
 | []=>by unfold without;simp
 |(c,o)::K=>by
  have ih:=dM (as:=as) (b:=b) (K:=K);unfold without at ih⊢;rw[List.filter_cons];by_cases hc:as.contains c=true
  ·have a:¬(!as.contains (c,o).1)=true:=by show ¬(!as.contains c)=true;rw[hc];decide
   rw[if_neg a,ih];by_cases hb:as.contains b=true
   ·rw[if_pos hb,if_pos hb]
   ·have n:(b==c)=false:=by
     cases e:b==c with
     |false=>rfl
     |true=>rw[eq_of_beq e]at hb;exact absurd hc hb
    rw[if_neg hb,if_neg hb,Qad,n]
  ·have a:(!as.contains (c,o).1)=true:=by
    show(!as.contains c)=true;cases q:as.contains c with
    |true=>exact absurd q hc
    |false=>rfl
   rw[if_pos a,Qad,Qad,ih];cases e:b==c with
   |true=>
    have:¬as.contains b=true:=by rw[eq_of_beq e];exact hc
    show some o=if as.contains b=true then none else some o
    rw[if_neg this]
   |false=>rfl
def M2(H:Hp):Prop:=∀b,H b=none\/∃o u,H b=some (.iy o u)
def jm(ts:List (Addr×Obj×Qbi))(G:Hp):Hp:=λb=>match ts.find? λt=>decide (t.1=b)with
 |some t=>some (.iy t.2.1 (.tup t.2.2))
 |none=>G b
theorem VQ{ts:List (Addr×Obj×Qbi)}{G:Hp}{t:Addr×Obj×Qbi}(h:t∈ts)(b:(ts.map (·.1)).Nodup):jm ts G t.1=some (.iy t.2.1 (.tup t.2.2)):=by
 induction ts with
 |nil=>cases h
 |cons a ts ih=>
  unfold jm;rw[QaA];rw[Qab,Qas]at b;by_cases e:a.1=t.1
  ·rw[decide_eq_true e];rcases Qp.mp h with rfl|h
   ·rfl
   ·exact absurd (qN.mpr ⟨t,h,e.symm⟩) b.1
  ·rw[Qw e];rcases Qp.mp h with rfl|h
   ·exact absurd rfl e
   ·exact ih h b.2
theorem fK{ts:List (Addr×Obj×Qbi)}{G:Hp}:(∃t∈ts,t.1=b/\jm ts G b=some (.iy t.2.1 (.tup t.2.2)))\/((∀t∈ts,t.1≠b)/\jm ts G b=G b):=by
 unfold jm;cases q:ts.find? λt=>decide (t.1=b)with
 |some t=>
  have h1:=List.mem_of_find?_eq_some q;have h2:=List.find?_some q;exact .inl ⟨t,h1,Qt h2,rfl⟩
 |none=>
  refine .inr ⟨λt a e=>?_,rfl⟩;have:=List.find?_eq_none.mp q t a;simp[e]at this
theorem zX{K:QZ}{L:Str->Qbb}{CX:uq}{k:Nat}{N:Addr}{c:Shared}{p:Qa9}{y:List Int}{ts:List (Addr×Obj×Qbi)}
  (C:∀t∈ts,M0 K t) (nd:(ts.map (·.1)).Nodup)
  (Q:K.In c.heap) (uv:c.heap.Ns mainGlobals mg) (g:c.heap.Ns builtinsNs L) (Jp:∀x:Str,x≠"__name__"->L x=bootBuiltins x) (VR:c.heap.NoLimit) (hg:c.gens=#[])
  (A:c.heap.get? a=some {cls:=.type "list",data:=.seq p.toArray}) (hi:IntsAre p y) (hl:y.length<=sizeLine) (hr:fb k callerA)
  (F:∀base:Heap,(without K (ts.map (·.1))).In base->base.Ns mainGlobals mg->mq P w (without K (ts.map (·.1))) mg base CX k N fd [x] sp) (VS:∀(s:Shared)(u:Value),BindsTo s fd ⟨[u],[]⟩ [(x,u)])
  (y_:∀H:Hp,M2 H->(∀t∈ts,H t.1=some (.iy t.2.1 (.tup t.2.2)))->ak (without K (ts.map (·.1))) H a (y.map V.int)->sp [.ref a] H (λv _=>v=.bl true) λ_ _ _=>False)
  (VT:∀H e s',CX [] H c (λ_ _ _=>False) e s'->False):
  codeAny (model P w) callerA (.call (.ref N) ⟨[.ref a],[]⟩) (λr s'=>r=.ok (.ret (.bool true))/\OldK c.heap s'.heap/\s'.os=c.os/\AllBare s'.gens) c:=by
 have rv:=rM hi;have VU:=hi.length;have R:∀t∈ts,c.heap.get? t.1=some t.2.1:=λt f=>Q _ _ (C t f).lk;have M3:∀t∈ts,t.1≠a:=λt f e=>by
  obtain⟨its,n,h1,_⟩:=(C t f).ok;have:=R t f;rw[e,A]at this;rw[<- QD this]at h1;injection h1 with h2;exact absurd h2 (by decide)
 have i:∀G:Hp,(∀b,G b≠none->b=a)->(G a≠none->K.lookup a=none)->(∀b,G b=none\/∃o u,G b=some (.iy o u))->ak (without K (ts.map (·.1))) (jm ts G) a (y.map V.int)->(∀u,G a=some u->∀H,c_ P w H c.heap a u)->
   codeAny (model P w) callerA (.call (.ref N) ⟨[.ref a],[]⟩) (λr s'=>r=.ok (.ret (.bool true))/\OldK c.heap s'.heap/\s'.os=c.os/\AllBare s'.gens) c:=by
  intro G T hK hF hS hO;have CK:∀b,jm ts G b≠none->b=a\/∃t∈ts,t.1=b:=λb q=>by
   rcases fK (ts:=ts) (G:=G) (b:=b)with⟨t,f,e,_⟩|⟨_,e⟩
   ·exact .inr ⟨t,f,e⟩
   ·rw[e]at q;exact .inl (T b q)
  have iy:M2 (jm ts G):=λb=>by
   rcases fK (ts:=ts) (G:=G) (b:=b)with⟨t,f,e,q⟩|⟨_,q⟩
   ·exact .inr ⟨_,_,q⟩
   ·rw[q];exact hF b
  have hok:dm P w (jm ts G) c.heap:=λb u q=>by
   rcases fK (ts:=ts) (G:=G) (b:=b)with⟨t,f,e,j⟩|⟨_,j⟩
   ·rw[j]at q;cases q;obtain⟨its,n,h1,h2,h3,h4,h5⟩:=(C t f).ok;have l:=R t f;rw[e]at l;exact⟨l,⟨h5,λo z=>by rw[l]at z;cases z;exact h2⟩,its,h4,t.2.1,l,h1,n,h3⟩
   ·rw[j]at q;have e:=T b (by rw[q];simp);subst e;exact hO u q _
  have M4:∀{b:Addr}{o:Obj},c.heap.get? b=some o->jm ts G b=none->(Ae c.heap (jm ts G)).get? b=some o:=λe n=>zZ e n;have D6:∀{b:Addr}{o:Obj}{D:Array DictEntry}{E:Nat},c.heap.get? b=some o->o.data=.dict D E->jm ts G b=none:=fun{b o D E}e d=>by
   cases q:jm ts G b with
   |none=>rfl
   |some u=>
    rcases CK b (by rw[q];simp)with z|⟨t,f,z⟩
    ·subst z;rw[A]at e;cases e;cases d
    ·have l:=R t f;rw[z,e]at l;cases l;obtain⟨its,n,h1,h2,h3,_⟩:=(C t f).ok;rw[d]at h3;cases h3
  have I:∀{b:Addr}{m:Str->Qbb},c.heap.Ns b m->(Ae c.heap (jm ts G)).Ns b m:=fun{b m} ⟨o,D,E,e,d,r⟩=>⟨o,D,E,M4 e (D6 e d),d,r⟩
  have M5:(without K (ts.map (·.1))).In (Ae c.heap (jm ts G)):=λb o e=>by
   rw[dM]at e;by_cases hc:(ts.map (·.1)).contains b=true
   ·rw[if_pos hc]at e;cases e
   ·rw[if_neg hc]at e;refine M4 (Q b o e) ?_;cases q:jm ts G b with
    |none=>rfl
    |some u=>
     rcases fK (ts:=ts) (G:=G) (b:=b)with⟨t,f,z,_⟩|⟨_,j⟩
     ·exact absurd (by rw[List.contains_iff_mem];exact qN.mpr ⟨t,f,z⟩) hc
     ·rw[j]at q;have z:=T b (by rw[q];simp);subst z;rw[hK (by rw[q];simp)]at e;cases e
  have hM:Mod (without K (ts.map (·.1))) mg (Ae c.heap (jm ts G)):=⟨M5,I uv,⟨L,I g,Jp⟩,let ⟨mc,h1,h2⟩:=VR;⟨mc,I h1,h2⟩⟩
  have e0:BJ P w (without K (ts.map (·.1))) mg (Ae c.heap (jm ts G)) callerA [] c (jm ts G):=⟨rfl,hM,λb o e=>Q0 e,Nat.le_of_eq (zW _ _),trivial,λb g=>absurd (show b∈([]:Qba)from g) (by simp),hok,.of_eq hg⟩
  refine codeAny_mono ((F _ M5 (I uv)).run callerA [] c (jm ts G) ⟨[.ref a],[]⟩ [.ref a] [.ref a] _ _ hr e0 (VS c (.ref a)) (.cons rfl .nil) (y_ (jm ts G) iy (λt f=>VQ f nd) hS)) λr s' h=>?_;cases r with
  |error e=>exact(VT _ e s' h).elim
  |ok fl=>
   cases fl with
   |next=>exact False.elim h
   |brk=>exact False.elim h
   |cont=>exact False.elim h
   |ret u=>
    obtain⟨v,Z,os,bare,un,B_,r',q⟩:=h;have j:v=.bl true:=q;subst j;obtain rfl:u=Value.bool true:=r';refine⟨rfl,OldK.of_keep λb o e=>?_,os,bare⟩;cases q:jm ts G b with
    |none=>exact un.keep b o e q (by intro z;exact absurd (show b∈([]:Qba)from z) (by simp)) (by simp)
    |some u=>
     rcases iy b with z|⟨ob,u',z⟩
     ·rw[q]at z;cases z
     ·have z2:=un.mh b ob _ z;obtain⟨e1,_⟩:=hok b _ z;obtain⟨e2,_⟩:=B_ b _ z2;rw[e]at e1;cases e1;exact e2
 have VV:¬(ts.map (·.1)).contains a=true:=λh=>by
  rw[List.contains_iff_mem]at h;obtain⟨t,f,e⟩:=qN.mp h;exact M3 t f e
 have Jr:∀G:Hp,jm ts G a=G a:=λG=>by
  rcases fK (ts:=ts) (G:=G) (b:=a)with⟨t,f,e,_⟩|⟨_,q⟩
  ·exact absurd e (M3 t f)
  ·exact q
 cases hk:K.lookup a with
 |some o=>
  have e:=Q a o hk;rw[A]at e;cases e;exact i (λ_=>none) (λb z=>absurd rfl z) (λz=>absurd rfl z) (λ_=>.inl rfl) (.inr ⟨_,p.toArray,_,by rw[dM,if_neg VV];exact hk,rfl,rfl,rfl,by rw[XC,VU];exact hl,by simpa using rv⟩) λu z=>by cases z
 |none=>
  refine i (λb=>if b=a then some (.iy {cls:=.type "list",data:=.seq p.toArray} (.lst (y.map V.int)))else none) (λb z=>?_) (λ_=>hk) (λb=>?_) (.inl (.inr ⟨{cls:=.type "list",data:=.seq p.toArray},by rw[Jr];exact if_pos rfl⟩)) λu z H=>?_
  ·by_cases g:b=a
   ·exact g
   ·exact absurd (if_neg g) z
  ·by_cases g:b=a
   ·exact .inr ⟨_,_,if_pos g⟩
   ·exact .inl (if_neg g)
  ·have z':=(if_pos rfl).symm.trans z;cases z';exact⟨A,by rw[Ql];exact hl,p,_,rv,A⟩
def adr(mg:Str->Qbb)(x:Str):Addr:=match mg x with
 |some (.ref a)=>a
 |_=>0
theorem jc.same{a:Qbi}(h:jc H b a)(s:aa H Z):jc Z b a:=h.imp (λe=>s _ _ e) fun⟨o,e⟩=>⟨o,s _ _ e⟩
theorem VW{kvs:Qbf}{b:List (Key×Value)}(r:KV kvs b):∀{i:Nat}{p:Key×V},kvs[i]? =some p->∃q,b[i]? =some q/\q.1=p.1/\RelV p.2 q.2:=by
 intro i
 induction r generalizing i with
 |nil=>intro p h;simp at h
 |cons a t ih=>
  intro p h;cases i with
  |zero=>simp at h;subst h;exact⟨_,by simp,a.1.symm,a.2⟩
  |succ i=>simp at h;simpa using ih h
end L2
namespace PySem
end PySem
namespace L2
open PySem PySem.Spec PyProof.Rows
theorem jc.inj{B b:Qbi}(h:jc H a B)(O:jc H a b):B=b:=by
 rcases h with h|⟨o,h⟩<;>rcases O with O|⟨c,O⟩<;>(rw[h]at O;cases O)<;>rfl
theorem tD{a:Expr}{n:Str}{b:Pos}(c:SE X (.Attribute a n b) te)(d:SA X Y t):SA X (.Attribute a n b::Y) (cy te t):=⟨dW c.h d.h⟩
theorem wL{K:QZ}{as:Qba}(x:K.In h):(without K as).In h:=λa o e=>by
 rw[dM]at e;by_cases hc:as.contains a=true
 ·rw[if_pos hc]at e;cases e
 ·rw[if_neg hc]at e;exact x a o e
theorem M6 {J:It} {ok:Hp->Prop} {f:Nat->V} {r:TC} {s t:TE} {j:St} {D:Addr} {Q:Hp->Prop} (w:BY J ok n f) (h:Nat->St->Hp->Prop) (z:h 0 j H0)
  (hok:∀ i c H,i<=n->h i c H->ok H)
  (A:∀ i c H,i < n->h i c H->g (f i) c H λa H2=>r a H2 λb k=>if b=true then s a k λx q=>t a q λy l=>∃ kvs d,x=kV d/\l D=some (.dK kvs)/\kvs.length < sizeLine/\h (i+1) a (upd l D (.dK (putK kvs d y))) else h (i+1) a k)
  (C:∀ c H,h n c H->Q H):∃ W:Nat->Nat->St->Hp->Prop,(∃ m,W 0 m j H0)/\∀ i m c H,W i m c H->
   (J.stop i H/\Q H)\/(J.go i H/\∃ N:St->Hp->Prop,(∀ o Z,N o Z->∃ m',m' < m/\W (i+1) m' o Z)/\∀ x Z,J.sj i H x Z->g x c Z λa H2=>r a H2 λb k=>
    if b=true then s a k λx q=>t a q λy l=>∃ kvs d,x=kV d/\l D=some (.dK kvs)/\kvs.length < sizeLine/\N a (upd l D (.dK (putK kvs d y))) else N a k):=by
 refine ⟨λi m c H=>m=n - i/\i<=n/\h i c H,⟨n,by simp,Qal _,z⟩,?_⟩
 rintro i m c H ⟨rfl,E,p⟩
 obtain ⟨u,G⟩:=w H (hok i c H E p)
 by_cases cu:i < n
 ·refine .inr ⟨(u i cu).1,h (i+1),λI Z K=>⟨n - (i+1),by lia,rfl,cu,K⟩,λx Z y=>?_⟩
  obtain ⟨e,L⟩:=(u i cu).2 x Z y
  subst e L
  exact A i c _ cu p
 ·have e:i=n:=by lia
  subst e
  exact .inl ⟨G,C c H p⟩
theorem qT:∀{ws:Qa8},rising ws=true->ws.Pairwise (λa b=>wj a b=true)
 | [],_=>.nil
 | [_],_=>List.pairwise_singleton _ _
 |a::b::r,h=>by
  have d:wj a b=true/\rising (b::r)=true:=by simpa[rising]using h
  have ih:=qT d.2;refine QaW.mpr ⟨λc hc=>?_,ih⟩;rcases Qp.mp hc with rfl|hc
  ·exact d.1
  ·exact uG d.1 ((QaW.mp ih).1 c hc)
theorem tK(h:rising ws=true):ws.Nodup:=(qT h).imp fun{x y}h e=>by rw[e,sY]at h;cases h
def Hd.au:Hd->Str
 | .one s=>s
 | .as _=>"as"
 | .way _ _=>"way"
 | .prs s _=>s
theorem HV.au{H:Hp}{v:V}{h:Hd}(q:HV H v h):∃b ys,v=.ref b/\H b=some (.tup (.str h.au::ys)):=by
 cases q with
 |one e=>exact⟨_,_,rfl,e⟩
 |as e=>exact⟨_,_,rfl,e⟩
 |way e=>exact⟨_,_,rfl,e⟩
 |prs e _ _=>exact⟨_,_,rfl,e⟩
def Sx(x:Addr)(H Z:Hp):Prop:=∀b o,b≠x->H b=some o->Z b=some o
theorem Sx.upd{x:Addr}{H:Hp}{o:HO}:Sx x H (upd H x o):=λc u n h=>by rw[aS n];exact h
def Js(K:QZ):R2:=λx y H Q=>∃a b B ys,x=.ref a/\y=.ref b/\ae K H a B/\ae K H b ys/\B.length+ys.length<=sizeLine/\(B=[]->Q (.ref b) H)/\
 (B≠[]->ys=[]->Q (.ref a) H)/\(B≠[]->ys≠[]->∀p,H p=none->Q (.ref p) (upd H p (.tup (B++ys))))
theorem VX(K:QZ)(h:X.K=K:=by rfl):ck X (binaryOp .Add) (Js K):=by
 subst h;intro c s f H x y v u Q I d e h;obtain⟨a,b,B,ys,rfl,rfl,ha,hb,hz,q0,q1,q2⟩:=h;by_cases hx:B=[]
 ·cases d;cases e;obtain⟨its,r1,p1,_⟩:=I.tuple ha;obtain⟨its2,r2,p2,_⟩:=I.tuple hb;have g:its=[]:=r1.A4.mpr hx;obtain⟨⟨cls,dd,data,sl⟩,ho,hc,n,hd⟩:=id p1;obtain⟨⟨IF,qt,data2,qu⟩,jz,jr,n2,hd2⟩:=id p2;simp only at hc hd jr hd2;subst hc hd jr hd2;exact concat_meets ⟨_,ho,rfl⟩ ⟨_,jz,rfl⟩ noFill_tuple_add seq_tuple_add QaD Qax (Qat _ _)
   (tuple_addW0 a b its.toArray its2.toArray n n2 dd qt sl qu (by simp[g])) ⟨ho,jz,⟨.ref b,H,I,rfl,q0 hx⟩⟩
 ·exact yE c s f H _ _ v u Q I d e ⟨a,b,B,ys,rfl,rfl,ha,hb,hx,hz,q1 hx,q2 hx⟩
theorem M7{K:QZ}{B c:Qbi}{Q:VK}(d:H a=some (.tup B))(f:H b=some (.tup c))(g:B.length+c.length<=sizeLine)(h:∀p Z,aa H Z->Z p=some (.tup (B++c))->Q (.ref p) Z):Js K (.ref a) (.ref b) H Q:=by
 refine⟨a,b,B,c,rfl,rfl,ae.of d,ae.of f,g,λe=>?_,λ_ e=>?_,λ_ _ p i=>?_⟩
 ·subst e;exact h b H (aa.refl _) f
 ·subst e;exact h a H (aa.refl _) (by rw[QQ];exact d)
 ·exact h p _ (aa.upd i _) aB
theorem xS{k:Nat}(a:fb k A):A.units+20<cLine:=by have:=a.un;lia
def M8(K:QZ):Qbi->Hp->VK->Prop:=λB H Q=>match B with
 | [.ref p]=>∃ns:List Int,ak K H p (ns.map V.int)/\Q (.int ns.sum) H
 |_=>False
theorem nA(a:List Int):∀k,k<=a.length->PySem.preSum (λi=>a.getD i 0) k=(a.take k).sum
 |0,_=>rfl
 |k+1,h=>by
  have ih:=nA a k (by lia);show PySem.preSum _ k+a.getD k 0=_;rw[ih,Qs,Qa h,List.sum_append,Qb,Qa h];simp
theorem zL(K:QZ)(j:X.calm=true)(h:X.K=K:=by rfl):jq X (.builtin "sum") (M8 K):=by
 subst h;intro a s t H w y Q I r h;unfold M8 at h;split at h
 ·next p=>
  obtain⟨ns,hq,q⟩:=h;obtain⟨u,rfl,ru⟩:=r.one;cases ru;obtain⟨its,rv,pl,hz⟩:=I.list hq;have c:=rv.length;rw[Ql]at c;have d:p<s.heap.objs.size:=by obtain⟨_,e,_⟩:=pl.isList;exact Qz e
  refine call_sum_walkAnyS (wpAny_pyIter_list pl.isList ?_);refine⟨s.heap.objs.size,[s.heap.objs.size,p],[s.heap.objs.size],_,its.toArray.size,_,_,λi=>ns.getD i 0,rfl,(Walks.list (A:=X.A.in1) (I.ok.hd j) _ p (VD d) _).toS,
   ⟨⟨_,Qd _ rfl,rfl,rfl⟩,pl.isList.push _⟩,λb f=>?_,λi v k=>?_,λl t' m=>?_⟩
  ·simp only[Qp,QA,or_false]at f;show b<(s.heap.push _).objs.size;rw[Qag];rcases f with rfl|rfl
   ·exact Nat.lt_succ_self _
   ·exact QaN d
  ·have g:its[i]? =some v:=by simpa using k
   have z:i<its.length:=(kB.mp g).1;obtain⟨u,h1,h2⟩:=rv.get (i:=i) (x:=.int (ns.getD i 0)) (by rw[Qq,Qa (by lia),Qb,Qa (by lia)];rfl);rw[g]at h1;cases h1;exact h2
  ·have e:PySem.preSum (λi=>ns.getD i 0) its.toArray.size=ns.sum:=by
    rw[XC,<- c,nA ns ns.length (Qy _),Qa7]
   rw[e];obtain⟨Mv,g',d',Gc,L3⟩:=l;obtain⟨m1,m2,m3,m4,m5⟩:=m;simp only at m1 m2 m3 m4 m5;subst m2 m3 m4;refine⟨.int ns.sum,H,I.kept (t':=Gc) λb o e=>m1 b o (λn=>?_) (Qc _ e),⟨_,rfl⟩,q⟩;rw[qD.mp n]at e;exact Qau _ (Qz e)
 ·exact h.elim
theorem Paired.at{c:Type}{R:α->c->Prop}{B:List α}{b:List c}(h:Paired R B b):∀i(h1:i<B.length)(h2:i<b.length),R B[i] b[i]:=by
 induction h with
 |nil=>intro i h1;exact absurd h1 (by simp)
 |cons a _ ih=>
  intro i h1 h2;cases i with
  |zero=>exact a
  |succ i=>exact ih i (by simpa using h1) (by simpa using h2)
abbrev Road:=List Qa8
section
variable{pos:Pos}
theorem wD{a:Operator}{b:DY}(c:X.N.Nodup)(d:X.N[i]? =some x)(f:Loc X.env.scope x)(g:SE X e te)(j:FF X a b)(k:Qbn X x:=by first|exact .inl rfl|exact .inr rfl|assumption):
  SS X (.AugAssign (.Name x pos') a e pos) (LM i te b):=⟨RA c d f g.h j k⟩
theorem VY{o:Expr}{a ty:TE}(b:X.A.units+1<cLine)(c:SE X o a)(d:SE X e ty)(m:M1 X o "get" apos e cpos):SE X (.Call (.Attribute o "get" apos) [e] [] cpos) (Mq a ty):=⟨TF b c.h d.h m⟩
theorem M9(K:QZ){o:Expr}{id:String}{r:V->Qbi->Hp->VK->Prop}(a:PlainAttrs T)(slot:Slot T name id)(b:typeOf (.builtin id)=pure (.type "method_descriptor"))(c:BQ X id r)(d:SE X o to)(h:X.K=K:=by rfl)
  (e:attributeBase o name X.env (eval o X.env)=eval o X.env:=by rfl) (f:(apos.endLine==cpos.line)=true:=by rfl):SE X (.Call (.Attribute o name apos) [] [] cpos) (Mh K T r to):=by
 subst h;exact⟨S0 a slot b c d.h e f⟩
def VZ(K:QZ)(a:TE):TT:=λσ H Q=>a σ H λx Z=>∃k,IC K x Z k/\Q k Z
theorem xV(K:QZ){a:Expr}{c:TE}(d:SE X a c)(h:X.K=K:=by rfl)(e:∀b,isTrue a X.env b=(do let v <- b;standAt a.pos;holding [v] (truthy v)):=by intro _;rfl):ST X a (VZ K c):=by
 subst h;exact⟨R9 d.h e⟩
end
abbrev Gm:=List (Str×Option (Str×Qa8))
def V0(b:Str)(a:Gm)(c:List (Qa8×Str)):Gm:=c.foldl (λa m=>if m.2∈a.map (·.1)then a else a++[(m.2,some (b,m.1))]) a
def C5(a:List eu)(f:Str):Nat->Gm
 |0=>[(f,none)]
 |i+1=>match(C5 a f i)[i]? with
  |none=>C5 a f i
  |some c=>V0 c.1 (C5 a f i) (VP a c.1)
theorem rN:∀{l m:Qa8},l.Nodup->(∀x∈l,x∈m)->l.length<=m.length
 | [],m,_,_=>Qal _
 |a::l,m,nd,h=>by
  have b:=h a jP;have h1:=rN (l:=l) (m:=m.erase a) (Qas.mp nd).2 λx c=>(List.mem_erase_of_ne (show x≠a from λz=>(Qas.mp nd).1 (by rw[<- z];exact c))).mpr (h x (Qh _ c));rw[List.length_erase_of_mem b]at h1;have d:=List.length_pos_of_mem b;rw[Qac]
  lia
section
variable{iter kx vx:Expr}{tc:TC}{pos:Pos}{tk tw:TE}
theorem M_{j c:Pos}(S:tq X.env.scope X.N sc own idx N')(L:X.calm=true)(P:SI X tg iter wi)
  (R:∀cl C d H0 fp f,SG (fz X N' sc cl C d H0 fp f) tg g) (T:∀cl C d H0 fp f,SC (fz X N' sc cl C d H0 fp f) ifs tc) (V:∀cl C d H0 fp f,SE (fz X N' sc cl C d H0 fp f) kx tk) (hv:∀cl C d H0 fp f,SE (fz X N' sc cl C d H0 fp f) vx tw)
  (hN:X.N.Nodup) (Ed:X.N[i]? =some y) (p:X.env.scope.names.lookup y=some .local)
  (Ao:swapsWith (.DictComp kx vx [⟨tg,iter,ifs,0⟩] sc pos) (some (.Name y j)) c.line X.env=pure true:=by rfl)
  (hs:∀x,foldedSetIterable iter X.env x=pure x:=by intro _;rfl):SS X (.Assign [.Name y j] (.DictComp kx vx [⟨tg,iter,ifs,0⟩] sc pos) c) (sf (U4 own idx wi g tc tk tw) (jk i)):=by
 constructor;intro U s σ H D I h;obtain⟨cl,jt,c1,c2⟩:=S.closure I.ok;rw[exec_Assign_Name_used _ _ _ _ Ao];refine QS (wpAny_standAt (QS ?_));show wpAny _ X.A (do let _ <- comprehension (.DictComp kx vx [⟨tg,iter,ifs,0⟩] sc pos) sc X.env _ newDict false (eval iter X.env) (some (assign (.Name y j) X.env))) _ _ s;refine QS (wpAny_mono (wpAny_comprehension_free (use:=some (assign (.Name y j) X.env)) (Q:=λ_ k=>SP X U D .next k) rfl hs jt S.kind S.names
  (bh (P.h U s σ H _ I h) λv s1 h1=>bh h1 λsy s2 h2=>?_)) (λ_ k hq=>QT (QT hq)) λ_ _ e=>e)
 refine vT (Q:=λx H1=>jk i x σ H1 D.nx) (U:=U) (σ:=σ) (RR:=λl C=>compPost (model X.prog X.w) X.A X.xe (some (assign (.Name y j) X.env)) (λ_ k=>SP X U D .next k) l C) S c1 c2 L (λq r s t u v=>(R q r s t u v).h) (λq r s t u v=>(T q r s t u v).h) (λq r s t u v=>(V q r s t u v).h) (λq r s t u v=>(hv q r s t u v).h) h2 ?_;intro E C Z k I' q ⟨a1,G,a3,K,a5,m,a6⟩;show wpAny _ X.A (assign (.Name y j) X.env (.ref E)) _ _ _;refine wpAny_assign_Name (hZ (v:=.ref E) I' hN Ed (.inl p) rfl ?_ (.inr p));rintro n IW ⟨a,sb,ha⟩;have IX:C≠a:=by
  rcases ha with z|z
  ·rw[z];exact G
  ·exact Ne.symm (K _ _ z)
 refine⟨m,a6.sameBut sb IX,λO CY=>⟨_,Z,IW.turned (t':=n.toks) (λb o hb e=>(CY.2 b hb).trans e) a1 G (.inr a3) K a5,q⟩⟩
end
def hv(a:List (Str×Nat))(y:Str):Nat:=((a.find? λq=>decide (q.1=y)).map (·.2)).getD 0
abbrev LR:=List (Str×Road)
def V2(a:LR)(r:Str):Road:=((a.find? λq=>decide (q.1=r)).map (·.2)).getD []
def Na(a:LR):Option (Str×Qa8)->Road
 |none=>[]
 |some q=>V2 a q.1++[q.2]
def Jt(b:Gm):LR:=b.foldl (λa c=>a++[(c.1,Na a c.2)]) []
end L2
namespace L2
open PySem PySem.Spec PyProof.Rows PySem.W
theorem uX:∀{us:Qa9}{ss:Qa8},us.length=ss.length->(∀i(h1:i<us.length)(h2:i<ss.length),∃t,us[i]=Value.str ss[i] t)->StrsAre us ss
 | [],[],_,_=>.nil
 |u::us,z::ss,hl,h=>by
  obtain⟨t,e⟩:=h 0 (by simp) (by simp);simp only[Qar]at e;subst e;exact .cons z t (uX (by simpa using hl) λi h1 h2=>by
   have:=h (i+1) (by simpa using h1) (by simpa using h2);simpa using this)
def V3:Qbi->Hp->VK->Prop:=λB H Q=>∃(a:Addr)(kvs:Qbf)(J:Qa8),B=[.ref a]/\Rd H a (.dK kvs)/\kvs.map (·.1)=J.map Sum.inr/\J.length<64/\
 ∀l(b:Qa8),H l=none->b.Perm J->Q (.ref l) (upd H l (.lst (b.map V.str)))
theorem tQ(T:X.calm=true):jq X (.builtin "sorted") V3:=by
 intro g s σ H B us Q I r h;obtain⟨a,kvs,J,rfl,hr,hks,h64,q⟩:=h;obtain⟨u,rfl,ru⟩:=r.one;cases ru;obtain⟨z,Gn,vs,rel,dd⟩:=lG I.hok hr;obtain⟨ob,Y,ep,e,h2,B3,h4⟩:=id dd;have gv:=rel.length;have dj:kvs.length=J.length:=by have:=congrArg List.length hks;simpa using this
 refine Calls.call_function_entry kind_sorted plain_sorted entry_sorted (args_sorted1 _) ?_;unfold Builtin.«sorted»;refine QS (m:=checkCount "sorted" 1 1 _) (QT ?_);refine QS (kdu_collect (A:=X.A.in1) (kdl_dict (knd:=ir X.prog X.w) (kvs:=vs) (ep:=ep) Gn) (I.ok.hd T) ⟨ob,Y,e,h2,B3,h4⟩ (by lia) λd C c hk hI=>?_);obtain⟨abO,hP⟩:=hI;have V4:c.toList.length=J.length:=by simp;lia
 have D:StrsAre c.toList J:=by
  refine uX V4 λi h1 h2=>?_;obtain⟨k,x,e1,e2⟩:=hP i c.toList[i] (by rw[<- Qa1,Qa h1]);obtain⟨n,e3,e4,_⟩:=VW rel (i:=i) (p:=kvs[i]'(by lia)) (Qa (by lia));rw[e1]at e3;cases e3;have K:(kvs.map (·.1))[i]'(by rw[Ql];lia)=(J.map (Sum.inr:Str->Key))[i]'(by rw[Ql];lia):=by simp only[hks]
  rw[Qr,Qr]at K;have E:k=Sum.inr J[i]:=(show k=(kvs[i]'(by lia)).1 from e4).trans K;rcases cA e2 with⟨j,t,rfl,e⟩|⟨y,t,rfl,e⟩|⟨rfl,e⟩
  ·cases E
  ·cases E;exact⟨t,e⟩
  ·cases E
 have ag:sizeLine=16777216:=QL;refine QS (wpAny_newList ?_ (by lia));have G:(d.push {cls:=.type "list",data:=.seq c.toList.toArray}).get? d.objs.size=some (seqObj "list" c.toList.toArray 0):=Qd _ rfl;refine QS (wpAny_holding (wpAny_call_entry slot_list_sort ⟨_,G,rfl⟩ entry_list_sort (list_sort_treeK strKind_oneLt G D.keysOf (λL N P e=>keyKind_strs (by rw[<- e];exact D)) (by lia) λf a1 a2=>⟨_,rfl,?_⟩) (args_list_sort _)));refine QT ⟨_,rfl,?_⟩;obtain⟨ss',b1,b2,b3⟩:=sorted_out_str D a1 a2;obtain⟨ee,hL⟩:=sortedHeap_at (out:=(arrOf f).map (·.2)) G;have R:Inv X g σ H {s with heap:=d,toks:=C}:=I.kept (t':=C) hk;have l:∀b o,d.get? b=some o->(sortedHeap (d.push {cls:=.type "list",data:=.seq c.toList.toArray}) d.objs.size c.toList ((arrOf f).map (·.2))).get? b=some o:=λb o n=>by
  rw[sortedHeap_old (VD (Qz n)) (Qz (Qc _ n))];exact Qc _ n
 refine⟨.ref d.objs.size,_,R.laid (t':=C) (a:=d.objs.size) (o:=.lst (ss'.map V.str)) l (Qy _) ?_,rfl,q _ ss' (R.hok.fresh (Qy _)) b2⟩;refine⟨?_,((arrOf f).map (·.2)).toList,ee,rF b1,?_⟩
 ·rw[Ql,b2.length_eq];lia
 ·rw[hL]
def V5:Qbi->Hp->VK->Prop:=λB H Q=>∃(a:Addr)(kvs:Qbf),B=[.ref a]/\Rd H a (.dK kvs)/\∀l,H l=none->Q (.ref l) (upd H l (.dK kvs))
theorem l5(j:X.calm=true):jq X (.type "dict") V5:=by
 intro c s k H l m Q I r h;obtain⟨a,kvs,rfl,hr,q⟩:=h;obtain⟨u,rfl,ru⟩:=r.one;cases ru;obtain⟨z,Gn,vs,rel,dd⟩:=lG I.hok hr;have n:=rel.length;refine kt_call_dict (knd:=ir X.prog X.w) (more:=vs) Gn dd (by lia) ?_;intro d f g;have i:∀b o,s.heap.get? b=some o->d.get? b=some o:=λb o e=>g.extBut _ _ (VD (Qz e)) (Qc _ e);exact⟨.ref s.heap.objs.size,_,I.laid (t':=s.toks) (a:=s.heap.objs.size) (o:=.dK kvs) i (Qy _) ⟨z,beq_eq_false_iff_ne.mpr (Ne.symm (VD I.big)),vs,rel,f⟩,rfl,q _ (I.hok.fresh (Qy _))⟩
end L2
namespace L2
open PySem PySem.Spec PyProof.Rows
end L2
namespace L2
open PySem PySem.Spec PyProof.Rows HT
end L2
namespace L2
open PySem PySem.Spec PyProof.Rows
open AutoSeq1 (wpAny_loadPart')
theorem jC(l:Addr)(a:Data)(dd:Option Addr)(e:Array Qbb)(b:Str)(u:Tok):
  Meets (Builtin.«dict.__eq__» ⟨[.ref l,.str b u],[]⟩) (λ_ R s=>s.heap.get? l=some {cls:=.type "dict",dict:=dd,data:=a,slots:=e}/\R (.ok (.ret .notImplemented)) s):=
 .of_wp λc w A R s h=>by obtain⟨hp,g,d,tk,os⟩:=s;obtain⟨hl,h⟩:=h;have f:=F.sub_str_dict;wp_walk using wpAny_loadPart' hl,wpAny_load hl;exact⟨_,rfl,h⟩
theorem iH(l b:Addr)(a:Data)(e:Array Value)(f:Nat)(dd i:Option Addr)(j k:Array Qbb):
  Meets (Builtin.«dict.__eq__» ⟨[.ref l,.ref b],[]⟩) (λ_ R s=>s.heap.get? l=some {cls:=.type "dict",dict:=dd,data:=a,slots:=j}/\s.heap.get? b=some {cls:=.type "tuple",dict:=i,data:=.seq e f,slots:=k}/\R (.ok (.ret .notImplemented)) s):=
 .of_wp λc w A R s h=>by obtain⟨hp,g,d,tk,os⟩:=s;obtain⟨hl,hb,h⟩:=h;have m:=F.sub_tuple_dict;wp_walk using wpAny_loadPart' hl,wpAny_load hl,wpAny_loadPart' hb,wpAny_load hb;exact⟨_,rfl,h⟩
theorem iG(l b:Addr)(a:Data)(e:Array Value)(f:Nat)(dd i:Option Addr)(j k:Array Qbb):
  Meets (Builtin.«tuple.__eq__» ⟨[.ref b,.ref l],[]⟩) (λ_ R s=>s.heap.get? l=some {cls:=.type "dict",dict:=dd,data:=a,slots:=j}/\s.heap.get? b=some {cls:=.type "tuple",dict:=i,data:=.seq e f,slots:=k}/\R (.ok (.ret .notImplemented)) s):=
 .of_wp λc w A R s h=>by obtain⟨hp,g,d,tk,os⟩:=s;obtain⟨hl,hb,h⟩:=h;have m:=F.sub_dict_tuple;wp_walk using wpAny_loadPart' hl,wpAny_load hl,wpAny_loadPart' hb,wpAny_load hb;exact⟨_,rfl,h⟩
theorem jO(l:Addr)(c:Array DictEntry)(ep:Nat)(dd:Option Addr)(e:Array Qbb)(b:Str)(u:Tok):
  Meets (Builtin.«str.__eq__» ⟨[.str b u,.ref l],[]⟩) (λ_ R s=>s.heap.get? l=some {cls:=.type "dict",dict:=dd,data:=.dict c ep,slots:=e}/\R (.ok (.ret .notImplemented)) s):=
 .of_wp λa w A R s h=>by obtain⟨hp,g,d,tk,os⟩:=s;obtain⟨hl,h⟩:=h;wp_walk using wpAny_loadPart' hl,wpAny_load hl;exact⟨_,rfl,h⟩
theorem vD{o:Obj}{d:Array DictEntry}{ep:Nat}(b:Str)(u:Tok)(c:s.heap.get? l=some o)(e:o.cls=.type "dict")(f:o.data=.dict d ep)(i:A.units<cLine):SeqAt.RcAt A s (.ref l) (.str b u) false:=λg w E Q h=>by
 obtain⟨cls,dd,data,sl⟩:=o;simp only at e f;subst e f;exact SeqAt.rc_eq_decline_or (k:=false) ⟨_,c,rfl⟩ (typeIs_str s b u) (by decide) F.sub_str_dict F.slot_dict_eq F.slot_str_eq_refl
  (λ_ a=>call_meets F.slot_dict_eq ⟨_,c,rfl⟩ F.entry_dict_eq (F.args_dict_eq_2 _ _) (jC l (.dict d ep) dd sl b u) ⟨c,a⟩)
  (λ_ a=>call_meets F.slot_str_eq_refl (typeIs_str s b u) F.entry_str_eq (F.args_str_eq_2 _ _) (jO l d ep dd sl b u) ⟨c,a⟩)
  (λ_ a=>wpAny_of_eq (rfl:isSame (.ref l) (.str b u)=pure false) a) (.inr i) h
theorem uK{o:Obj}{c:Array DictEntry}{ep:Nat}(b:Str)(u:Tok)(d:s.heap.get? l=some o)(e:o.cls=.type "dict")(f:o.data=.dict c ep)(g:A.units<cLine):SeqAt.EqAt A s (.ref l) (.str b u) false:=λa w E Q h=>by
 unfold eqBool;refine wpAny_holding ?_;refine wpAny_ite_split (λi=>absurd (eq_of_beq i) nofun) (λ_=>?_);exact QS (vD b u d e f g a w E _ (wpAny_truthy_bool h))
theorem qB{o:Obj}{d:Array Value}(a:s.heap.get? l=some o)(f:o.cls=.type "dict")(j:s.heap.IsTuple b d)(m:A.units<cLine):l≠b/\SeqAt.RcAt A s (.ref l) (.ref b) false:=by
 obtain⟨cls,dd,data,sl⟩:=o;obtain⟨⟨IF,qt,data2,qu⟩,jz,jr,n2,hd2⟩:=id j;simp only at f jr hd2;subst f jr hd2;have g:l≠b:=λe=>by
  subst e;rw[a]at jz;have:=congrArg Obj.cls (QD jz);simp at this
 refine⟨g,λi w E Q h=>?_⟩;exact(SeqAt.rc_eq_decline_or (k:=false) ⟨_,a,rfl⟩ ⟨_,jz,rfl⟩ (by decide) F.sub_tuple_dict F.slot_dict_eq F.slot_tuple_eq_refl
  (λ_ c=>call_meets F.slot_dict_eq ⟨_,a,rfl⟩ F.entry_dict_eq (F.args_dict_eq_2 _ _) (iH l b data d n2 dd qt sl qu) ⟨a,jz,c⟩)
  (λ_ c=>call_meets F.slot_tuple_eq_refl ⟨_,jz,rfl⟩ F.entry_tuple_eq (F.args_tuple_eq_2 _ _) (iG l b data d n2 dd qt sl qu) ⟨a,jz,c⟩)
  (λ_ c=>wpAny_isSame_ref_other g a jz (by simp) c) (.inr m) h)
def Dt.Gp(z:Str):Dt->Bool
 | .str y=>y==z
 |_=>false
def Dt.V6(z:Str):Dt->Bool
 | .tup [.str y]=>y==z
 |_=>false
theorem DD.V7(I:Inv X U σ H s){x:V}{d:Dt}(h:DD H x d)(c:A.units<cLine){v:Value}(r:RelV x v)(z:Str)(t:Tok):SeqAt.EqAt A s v (.str z t) (d.Gp z):=by
 cases h with
 | @str y h=>obtain⟨t',rfl⟩:=(show ∃t,v=Value.str y t from r);exact SeqAt.EqAt.str_str y t' z t
 | @tup a B M e hl hn hd=>
  cases(show v=Value.ref a from r);obtain⟨i1,r1,p1,_⟩:=I.tuple (ae.of e);exact SeqAt.EqAt.tuple_str z t p1 c
 |ao=>cases(show v=Value.none from r);exact SeqAt.EqAt.none_str z t
 |bl b=>cases(show v=Value.bool b from r);exact SeqAt.EqAt.bool_str b z t
 |int i=>obtain⟨t',rfl⟩:=(show ∃t,v=Value.int i t from r);exact SeqAt.EqAt.int_str i t' z t
 | @lst a B e=>
  cases(show v=Value.ref a from r);obtain⟨_,its,n,rv,ho⟩:=(show c_ X.prog X.w H s.heap a (.lst B)from I.hok a _ e)
  exact SeqAt.EqAt.list_str z t ⟨_,ho,rfl,_,rfl⟩ c
 | @dct a kvs e=>
  cases(show v=Value.ref a from r);obtain⟨_,hd,vs,rel,o,Y,ep,ho,hx,B3,hk,hp⟩:=vJ I.hok e;exact uK z t ho hx.1 B3 c
theorem DD.det{x:V}{d:Dt}(h:DD H x d):∀{d'},DD H x d'->d=d':=by
 induction h with
 |str _=>intro d' c;cases c;rfl
 |tup e hl hn _ ih=>
  intro d' c;cases c with
  |tup e' hl' hn' V8=>
   rw[e]at e';cases e';congr 1;exact QaF (by lia) λi a b=>ih i (by lia) (by lia) (V8 i (by lia) (by lia))
  |lst e'=>rw[e]at e';cases e'
  |dct e'=>rw[e]at e';cases e'
 |ao=>intro d' c;cases c;rfl
 |bl b=>intro d' c;cases c;rfl
 |int i=>intro d' c;cases c;rfl
 |lst e=>
  intro d' c;cases c with
  |tup e'=>rw[e]at e';cases e'
  |lst e'=>rfl
  |dct e'=>rfl
 |dct e=>
  intro d' c;cases c with
  |tup e'=>rw[e]at e';cases e'
  |lst e'=>rfl
  |dct e'=>rfl
theorem DD.inj{x a:V}{d d':Dt}(h:DD H x d)(O:DD H a d'){v:Value}(r:RelV x v)(b:RelV a v):d=d':=by
 have e:x=a:=r.inj b;subst e;exact h.det O
def Ju(h:Dt):Dt:=if h.V6 "hole" then .tup [.str "all"]else h
def Gq:Dt->Dt| .tup [a,h]=>.tup [a,Ju h]|d=>d
theorem DD.Jv{x y:V}{c d:Dt}(e:H b=some (.tup [x,y]))(h1:DD H x c)(h2:DD H y d):DD H (.ref b) (.tup [c,d]):=.tup e rfl (by simp) λi a b=>by
 match i,a with
 |0,_=>exact h1
 |1,_=>exact h2
theorem DD.Jw{x:V}{c:Dt}(e:H b=some (.tup [x]))(h1:DD H x c):DD H (.ref b) (.tup [c]):=.tup e rfl (by simp) λi a b=>by
 match i,a with
 |0,_=>exact h1
def Nb(d e:Hp)(ws:Qbi)(M:List Dt):Prop:=∀j(h:j<ws.length)(O:j<M.length),∃c f hv dx a,ws[j]=.ref c/\e c=some (.tup [f,hv])/\M[j]=.tup [dx,a]/\DD d f dx/\(DD d hv (Ju a)\/∃b,hv=.ref b/\e b=some (.tup [.str "all"])/\Ju a=.tup [.str "all"])
theorem Nb.dd{e a:Hp}{ws:Qbi}{M:List Dt}(f:Nb e a ws M)(s:aa e a)(j:Nat)(h:j<ws.length)(O:j<M.length):DD a ws[j] (Gq M[j]):=by
 obtain⟨c,x1,hv,dx,dy,q1,q2,q3,q4,d⟩:=f j h O;rw[q1,q3];refine DD.Jv q2 (q4.same s) ?_;rcases d with d|⟨b,rfl,g,i⟩
 ·exact d.same s
 ·rw[i];exact DD.Jw g (.str (by decide))
def fj(H Z:Hp)(v:V)(d:Dt):Prop:=DD H v (Gq d)\/∃c a b dx,v=.ref c/\Z c=some (.tup [a,.ref b])/\Z b=some (.tup [.str "all"])/\DD H a dx/\Gq d=.tup [dx,.tup [.str "all"]]
theorem fj.dd{v:V}{d:Dt}(h:fj H Z v d)(s:aa H Z):DD Z v (Gq d):=by
 rcases h with h|⟨c,g,b,i,rfl,h2,a,e,f⟩
 ·exact h.same s
 ·rw[f];exact DD.Jv h2 (e.same s) (DD.Jw a (.str (by decide)))
def Hd.Es:Hd->Bool| .one s=>s=="hole" |_=>false
def Hd.V9:Hd->Bool| .way _ _=>true|_=>false
def Hd.Gr(h:Hd):Hd:=if h.Es then .one "all" else h
def Nc(r:eu):eu:=(r.1,r.2.Gr)
structure TH(H:Hp)(a:Addr)(B:Qbi)(F:List eu)(ns ws:Qa8):Prop where
 at_:H a=some (.tup B)
 rv:RV H B F
 nm:(F.map (·.1)).Perm ns
 nd:ns.Nodup
 ok:MX ns (F.map Nc)
 wd:∀n∈ns,Wd n
 ah:∀r∈F,B8 ns r.1 r.2.nx
 ww:∀r∈F,∀z∈r.2.C4,z∈ws
 pos:1<=ns.length
 few:ns.length<=10
 nw:∀r∈F,r.2.V9=false
 hl:F.countP (λr=>r.2.Es)<=6
section
variable{B:Qbi}{F:List eu}
theorem TH.rl(h:TH H a B F ns ws):F.length=ns.length:=by have:=h.nm.length_eq;simpa using this
theorem HV.v_{v:V}{h:Hd}(q:HV H v h)(ok:h.Gr.ok ns):DD H v h.dt:=by
 cases e:h.Es with
 |false=>
  have:h.Gr=h:=by unfold Hd.Gr;rw[e];rfl
  rw[this]at ok;exact(q.tx ok).dd
 |true=>
  cases q with
  | @one b s e1=>
   have:s="hole":=eq_of_beq e;subst this;exact DD.Jw e1 (.str (by decide))
  |_=>cases e
theorem TH.dd(h:TH H a B F ns ws):DD H (.ref a) (.tup (F.map VF)):=by
 have f:=h.rl;have few:=h.few;have d:=h.rv.len;refine .tup h.at_ (by simp[d]) (by lia) λi h1 h2=>?_
 have c:i<F.length:=by simpa using h2
 obtain⟨b,v,q1,q2,q3⟩:=h.rv.at_ i h1 c
 obtain⟨m1,m2⟩:=h.ok (Nc F[i]) (qN.mpr ⟨_,Qj c,rfl⟩);have e:isName F[i].1=true:=m1;rw[q1];simp only[Qr];exact DD.Jv q2 (.str (by have:=kW e;lia)) (q3.v_ m2)
end
end L2
namespace L2
open PySem PySem.Spec PyProof.Rows
def Dt.C6:Dt->Bool
 | .tup []=>true
 |_=>false
def Dt.Av(z:Str):Dt->Bool
 | .tup [d,e]=>d.Gp z&&e.C6
 |_=>false
theorem DD.Wa(I:Inv X U σ H s){x:V}{d:Dt}(h:DD H x d)(m:A.units+1<cLine){v:Value}(r:RelV x v)(f:ae X.K H b []):SeqAt.EqAt A s v (.ref b) d.C6:=by
 obtain⟨i2,r2,p2,_⟩:=I.tuple f;cases r2;have c:A.units<cLine:=by lia
 cases h with
 | @str y h=>obtain⟨t',rfl⟩:=(show ∃t,v=Value.str y t from r);exact SeqAt.EqAt.str_tuple y t' p2 c
 | @tup a B M e hl hn hd=>
  cases(show v=Value.ref a from r);obtain⟨i1,r1,p1,_⟩:=I.tuple (ae.of e);have p:=r1.length;by_cases pq:a=b
  ·subst pq;have g:=I.Io (ae.of e) f;subst g;have:M=[]:=QaK.mp hl.symm;subst this;exact SeqAt.EqAt.same _
  ·refine SeqAt.EqAt.of_refs pq ?_;have:=SeqAt.RcAt.tuples (A:=A) (e:=λ_=>true) p1 p2 c λj g1 g2=>absurd g2 (by simp);have k:((List.range (min i1.toArray.size ([]:Qa9).toArray.size)).all (λ_=>true)&&i1.toArray.size==([]:Qa9).toArray.size)=(Dt.tup M).C6:=by
    have l:i1.toArray.size=M.length:=by simp;lia
    rw[l];cases M with
    |nil=>rfl
    |cons d dr=>simp[Dt.C6]
   rw[<- k];exact this
 |ao=>cases(show v=Value.none from r);exact SeqAt.EqAt.none_tuple p2 c
 |bl b'=>cases(show v=Value.bool b' from r);exact SeqAt.EqAt.bool_tuple b' p2 c
 |int i=>obtain⟨t',rfl⟩:=(show ∃t,v=Value.int i t from r);exact SeqAt.EqAt.int_tuple i t' p2 c
 | @lst a B e=>
  cases(show v=Value.ref a from r);obtain⟨_,its,n,rv,ho⟩:=(show c_ X.prog X.w H s.heap a (.lst B)from I.hok a _ e)
  exact SeqAt.EqAt.list_tuple ⟨_,ho,rfl,_,rfl⟩ p2 c
 | @dct a kvs e=>
  cases(show v=Value.ref a from r);obtain⟨_,hd,vs,rel,o,Y,ep,ho,hx,B3,hk,hp⟩:=vJ I.hok e;obtain⟨h1,h2⟩:=qB (A:=A) ho hx.1 p2 c;exact SeqAt.EqAt.of_refs h1 h2
theorem DD.Wc(I:Inv X U σ H s){B:Qbi}{M:List Dt}(e:H a=some (.tup B))(r:B.length=M.length)(f:∀i(h:i<B.length)(O:i<M.length),DD H B[i] M[i])(u:A.units+4<cLine)(g:ae X.K H b [.str z,.ref c])(k:ae X.K H c []):SeqAt.RcAt A s (.ref a) (.ref b) ((Dt.tup M).Av z):=by
 obtain⟨i2,r2,p2,_⟩:=I.tuple g;obtain⟨u1,u2,rfl,ra,rb⟩:=bu.two r2;obtain⟨t2,rfl⟩:=(show ∃t,u1=Value.str z t from ra)
 cases rb;obtain⟨i1,r1,p1,_⟩:=I.tuple (ae.of e);have w:=r1.length;have l:A.in1.units+1<cLine:=by rw[Around.in1_units];lia
 have:=SeqAt.RcAt.tuples (A:=A) (e:=λj=>if j=0 then(M.getD j .lg).Gp z else(M.getD j .lg).C6) p1 p2 (by lia) λj g1 g2=>by
  have d:j<B.length:=by simp at g1;lia
  have m:j<2:=by simpa using g2
  obtain⟨w1,f1,q1⟩:=r1.get (Qa d);have n:i1.toArray[j]=w1:=by
   simp at f1 g1;rw[Qa (by lia)]at f1;simpa using QD f1
  have o:M.getD j .lg=M[j]'(by lia):=by rw[Qb,Qa (by lia)];rfl
  rw[n];simp only[o];rcases(show j=0\/j=1 by lia)with rfl|rfl
  ·exact DD.V7 I (f 0 d (by lia)) (by lia) q1 z t2
  ·exact DD.Wa I (f 1 d (by lia)) l q1 k
 have p:((List.range (min i1.toArray.size ([Value.str z t2,Value.ref c]:Qa9).toArray.size)).all (λj=>if j=0 then(M.getD j .lg).Gp z else(M.getD j .lg).C6)&&i1.toArray.size==([Value.str z t2,Value.ref c]:Qa9).toArray.size)=(Dt.tup M).Av z:=by
  have q:i1.toArray.size=M.length:=by simp;lia
  rw[q]
  match M with
  | []=>rfl
  | [d0]=>simp[Dt.Av]
  | [d0,d1]=>
   have:(List.range (min [d0,d1].length ([Value.str z t2,Value.ref c]:Qa9).toArray.size))=[0,1]:=by rfl
   rw[this];simp[Dt.Av]
  |d0::d1::d2::dr=>simp[Dt.Av]
 rw[<- p];exact this
def Wf(K:QZ):R2:=λx y H Q=>∃(a b c:Addr)(z:Str)(B:Qbi)(M:List Dt),x=.ref a/\y=.ref b/\H a=some (.tup B)/\B.length=M.length/\(∀i(h:i<B.length)(O:i<M.length),DD H B[i] M[i])/\ae K H b [.str z,.ref c]/\ae K H c []/\Q (.bl ((Dt.tup M).Av z)) H
theorem Wg(K:QZ)(i:X.A.units+20<cLine)(e:X.K=K:=by rfl):ck X (compareOp .Eq) (Wf K):=by
 subst e;intro d s j H x y v u Q I f g h;obtain⟨a,b,c,z,B,M,rfl,rfl,ha,hl,hd,hb,hc,q⟩:=h;cases f;cases g;exact DD.Wc I ha hl hd (A:=X.A) (by lia) hb hc _ _ _ _ ⟨.bl ((Dt.tup M).Av z),H,I,rfl,q⟩
def bq(z:Str):Prop:=z.length<=100000
def Cb(n:Nat)(a:Qbi):Prop:=a.length=n/\∀y∈a,∃z:Str,y=.str z/\bq z
theorem Cb.one{z:Str}(h:bq z):Cb 1 [.str z]:=⟨rfl,λy a=>⟨z,qD.mp a,h⟩⟩
theorem Cb.two{a:Str}(h:bq z)(O:bq a):Cb 2 [.str z,.str a]:=⟨rfl,λy hy=>by
 rcases Qp.mp hy with rfl|hy
 ·exact⟨z,rfl,h⟩
 ·exact⟨a,qD.mp hy,O⟩⟩
structure C7(H:Hp)(n:Nat)(B ms:Qbi):Prop where
 len:B.length=ms.length
 few:B.length<=1000
 at_:∀i(h:i<B.length)(O:i<ms.length),∃c ys,B[i]=.ref c/\H c=some (.tup (ys++[ms[i]]))/\Cb n ys
inductive rf (H:Hp):V->Qbi->Prop
 |get {a:Addr} {z:Str}:H a=some (.tup [.str "get",.str z])->bq z->rf H (.ref a) []
 |fn {a:Addr} {v r:Str} {m:V}:H a=some (.tup [.str "fn",.str v,.str r,m])->bq v->bq r->rf H (.ref a) [m]
 |call {a:Addr} {f x:V}:H a=some (.tup [.str "call",f,x])->rf H (.ref a) [f,x]
 |dw {a b:Addr} {B ms:Qbi}:H a=some (.tup [.str "box",.ref b])->H b=some (.tup B)->C7 H 1 B ms->rf H (.ref a) ms
 |part {a:Addr} {m:V} {z:Str}:H a=some (.tup [.str "part",m,.str z])->bq z->rf H (.ref a) [m]
 |pick {a:Addr} {z:Str} {m:V}:H a=some (.tup [.str "pick",.str z,m])->bq z->rf H (.ref a) [m]
 |split {a b:Addr} {m:V} {B ms:Qbi}:H a=some (.tup [.str "split",m,.ref b])->H b=some (.tup B)->C7 H 2 B ms->rf H (.ref a) (m::ms)
 |hold {a:Addr} {m:V} {z:Str}:H a=some (.tup [.str "hold",m,.str z])->bq z->rf H (.ref a) [m]
theorem C7.tk{B d:Qbi}(h:C7 H n B d)(s:Tk H Z):C7 Z n B d:=⟨h.len,h.few,λi a b=>let ⟨c,ys,h1,h2,h3⟩:=h.at_ i a b;⟨c,ys,h1,s _ _ h2,h3⟩⟩
theorem rf.tk{H Z:Hp}(s:Tk H Z){v:V}{a:Qbi}(h:rf H v a):rf Z v a:=by
 cases h with
 |get e h=>exact .get (s _ _ e) h
 |fn e h h2=>exact .fn (s _ _ e) h h2
 |call e=>exact .call (s _ _ e)
 |dw e e' r=>exact .dw (s _ _ e) (s _ _ e') (r.tk s)
 |part e h=>exact .part (s _ _ e) h
 |pick e h=>exact .pick (s _ _ e) h
 |split e e' r=>exact .split (s _ _ e) (s _ _ e') (r.tk s)
 |hold e h=>exact .hold (s _ _ e) h
inductive Aw (H:Hp):Nat->Nat->V->Prop
 |mk {n s:Nat} {v:V} {J:Qbi} {ss:Qbc}:rf H v J->J.length=ss.length->(∀i(h:i<J.length)(O:i<ss.length),Aw H n ss[i] J[i])->s=1+ss.sum->Aw H (n+1) s v
theorem Aw.tk{H Z:Hp}(t:Tk H Z){n s:Nat}{v:V}(h:Aw H n s v):Aw Z n s v:=by
 induction h with
 |mk a b _ e ih=>exact .mk (a.tk t) b ih e
theorem Wh{v:V}{a:Qbi}(h:rf H v a):a.length<=1001:=by
 cases h with
 |dw _ _ r=>have:=r.few;have:=r.len;lia
 |split _ _ r=>have:=r.few;have:=r.len;simp only[Qac];lia
 |_=>simp
end L2
set_option autoImplicit false
namespace L2
open PySem PySem.Spec PyProof.Rows
def Mr.ks:Mr->List Mr
 | .mk _ J=>J
def a_.au:a_->Str
 | .get _=>"get"
 | .fn _ _=>"fn"
 | .call=>"call"
 | .dw _=>"box"
 | .part _=>"part"
 | .pick _=>"pick"
 | .split _=>"split"
 | .hold _=>"hold"
def a_.ar:a_->Nat
 | .get _=>0
 | .call=>2
 | .dw ws=>ws.length
 | .split cs=>cs.length+1
 |_=>1
def a_.bnd:a_->Nat->Option Str
 | .fn v _,0=>some v
 | .split cs,k+1=>(cs[k]?).map (·.2)
 |_,_=>none
def a_.ok:a_->Prop
 | .get z=>bq z
 | .fn v r=>bq v/\bq r
 | .call=>True
 | .dw ws=>ws.Nodup/\(∀z∈ws,bq z)/\ws.length<=1000
 | .part z=>bq z
 | .pick z=>bq z
 | .split cs=>(cs.map (·.1)).Nodup/\(∀c∈cs,bq c.1/\bq c.2)/\cs.length<=1000
 | .hold r=>bq r
structure kg(H:Hp)(ls:List Qbi)(B ms:Qbi):Prop where
 l1:B.length=ms.length
 l2:ls.length=ms.length
 at_:∀i(h:i<B.length)(O:i<ms.length)(Bb:i<ls.length),∃c,B[i]=.ref c/\H c=some (.tup (ls[i]++[ms[i]]))
theorem kg.tk{ls:List Qbi}{B e:Qbi}(h:kg H ls B e)(s:Tk H Z):kg Z ls B e:=⟨h.l1,h.l2,λi a b c=>let ⟨d,h1,h2⟩:=h.at_ i a b c;⟨d,h1,s _ _ h2⟩⟩
def d_(ws:Qa8):List Qbi:=ws.map λz=>[.str z]
def fm(cs:Qbh):List Qbi:=cs.map λc=>[.str c.1,.str c.2]
inductive gu (H:Hp):V->a_->Qbi->Prop
 |get {a:Addr} {z:Str}:H a=some (.tup [.str "get",.str z])->gu H (.ref a) (.get z) []
 |fn {a:Addr} {v r:Str} {m:V}:H a=some (.tup [.str "fn",.str v,.str r,m])->gu H (.ref a) (.fn v r) [m]
 |call {a:Addr} {f x:V}:H a=some (.tup [.str "call",f,x])->gu H (.ref a) .call [f,x]
 |dw {a b:Addr} {ws:Qa8} {B ms:Qbi}:H a=some (.tup [.str "box",.ref b])->H b=some (.tup B)->kg H (d_ ws) B ms->gu H (.ref a) (.dw ws) ms
 |part {a:Addr} {m:V} {z:Str}:H a=some (.tup [.str "part",m,.str z])->gu H (.ref a) (.part z) [m]
 |pick {a:Addr} {z:Str} {m:V}:H a=some (.tup [.str "pick",.str z,m])->gu H (.ref a) (.pick z) [m]
 |split {a b:Addr} {cs:Qbh} {m:V} {B ms:Qbi}:H a=some (.tup [.str "split",m,.ref b])->H b=some (.tup B)->kg H (fm cs) B ms->gu H (.ref a) (.split cs) (m::ms)
 |hold {a:Addr} {m:V} {z:Str}:H a=some (.tup [.str "hold",m,.str z])->gu H (.ref a) (.hold z) [m]
section
variable{v:V}{f:a_}{J:Qbi}
theorem gu.tk(s:Tk H Z)(h:gu H v f J):gu Z v f J:=by
 cases h with
 |get e=>exact .get (s _ _ e)
 |fn e=>exact .fn (s _ _ e)
 |call e=>exact .call (s _ _ e)
 |dw e e' r=>exact .dw (s _ _ e) (s _ _ e') (r.tk s)
 |part e=>exact .part (s _ _ e)
 |pick e=>exact .pick (s _ _ e)
 |split e e' r=>exact .split (s _ _ e) (s _ _ e') (r.tk s)
 |hold e=>exact .hold (s _ _ e)
theorem gu.len(h:gu H v f J):J.length=f.ar:=by
 cases h with
 |dw _ _ r=>have:=r.l2;simp[d_]at this;exact this.symm
 |split _ _ r=>have:=r.l2;simp[fm]at this;show _+1=_+1;rw[this]
 |_=>rfl
theorem gu.uc(h:gu H v f J)(ok:f.ok):rf H v J:=by
 cases h with
 |get e=>exact .get e ok
 |fn e=>exact .fn e ok.1 ok.2
 |call e=>exact .call e
 | @dw a b ws B ms e e' r=>
  obtain⟨_,o2,o3⟩:=ok;have l1:=r.l1;have l2:=r.l2;have g:(d_ ws).length=ws.length:=by simp[d_]
  refine .dw e e' ⟨r.l1,by lia,λi h d=>?_⟩;obtain⟨c,h1,h2⟩:=r.at_ i h d (by lia)
  refine⟨c,_,h1,h2,?_⟩;simp only[d_,Qr];exact Cb.one (o2 _ (Qj _))
 |part e=>exact .part e ok
 |pick e=>exact .pick e ok
 | @split a b cs m B ms e e' r=>
  obtain⟨_,o2,o3⟩:=ok;have l1:=r.l1;have l2:=r.l2;have g:(fm cs).length=cs.length:=by simp[fm]
  refine .split e e' ⟨r.l1,by lia,λi h d=>?_⟩;obtain⟨c,h1,h2⟩:=r.at_ i h d (by lia)
  refine⟨c,_,h1,h2,?_⟩;simp only[fm,Qr];have:=o2 _ (Qj (show i<cs.length by lia));exact Cb.two this.1 this.2
 |hold e=>exact .hold e ok
theorem gu.ref(h:gu H v f J):∃a ys,v=.ref a/\H a=some (.tup (.str f.au::ys)):=by
 cases h<;>exact⟨_,_,rfl,by assumption⟩
end
inductive bf (H:Hp):Nat->V->Mr->Prop
 |mk {n:Nat} {v:V} {f:a_} {vs:Qbi} {J:List Mr}:gu H v f vs->f.ok->vs.length=J.length->(∀i(h:i<vs.length)(O:i<J.length),bf H n vs[i] J[i])->bf H (n+1) v (.mk f J)
section
variable{v:V}{m:Mr}
theorem bf.tk(h:bf H n v m)(s:Tk H Z):bf Z n v m:=by
 induction h with
 |mk a o b _ ih=>exact .mk (a.tk s) o b ih
theorem bf.up(h:bf H n v m):∀{k},n<=k->bf H k v m:=by
 induction h with
 |mk a o b _ ih=>
  intro k d;obtain⟨j,rfl⟩:∃j,k=j+1:=⟨k-1,by lia⟩
  exact .mk a o b λi h c=>ih i h c (by lia)
theorem bf.out(h:bf H n v m):∃k vs,n=k+1/\gu H v m.f vs/\m.f.ok/\vs.length=m.ks.length/\∀i(h:i<vs.length)(O:i<m.ks.length),bf H k vs[i] m.ks[i]:=by
 cases h with
 | @mk n v f vs J a o b c=>exact⟨n,vs,rfl,a,o,b,c⟩
end
mutual
def gx:Mr->Bool
 | .mk f J=>match f with
  | .fn _ _=>true
  | .dw _=>lh J
  | .pick _=>lh J
  |_=>false
def lh:List Mr->Bool
 | []=>true
 |m::l=>gx m&&lh l
end
theorem mH:∀l:List Mr,lh l=l.all gx
 | []=>by rw[lh];rfl
 |m::l=>by rw[lh,mH l];rfl
mutual
def kh(v:Str)(x:Mr):Mr->Mr
 | .mk f J=>if f=.get v then x else .mk f (i_ v x f 0 J)
def i_(v:Str)(x:Mr)(f:a_)(k:Nat):List Mr->List Mr
 | []=>[]
 |m::l=>(if f.bnd k=some v then m else kh v x m)::i_ v x f (k+1) l
end
theorem pV(v:Str)(x:Mr)(f:a_):∀(l:List Mr)(k i:Nat)(h:i<(i_ v x f k l).length)(O:i<l.length),(i_ v x f k l)[i]=if f.bnd (k+i)=some v then l[i]else kh v x l[i]
 |m::l,k,0,_,_=>by simp[i_]
 |m::l,k,i+1,h,O=>by
  have h2:i<(i_ v x f (k+1) l).length:=by simpa[i_]using h
  have:=pV v x f l (k+1) i h2 (by simpa using O);rw[show k+(i+1)=k+1+i by lia];simpa[i_]using this
theorem pN(v:Str)(x:Mr)(f:a_):∀(l:List Mr)(k:Nat),(i_ v x f k l).length=l.length
 | [],k=>by simp[i_]
 |m::l,k=>by simp[i_,pN v x f l (k+1)]
mutual
def av:Mr->Nat
 | .mk _ J=>1+br J
def br:List Mr->Nat
 | []=>0
 |m::l=>av m+br l
end
theorem lA(m:Mr):1<=av m:=by cases m;rw[av];lia
theorem eI:∀a b:List Mr,br (a++b)=br a+br b
 | [],b=>by simp[br]
 |m::l,b=>by rw[Qan,br,br,eI l b];lia
theorem i4:∀l:List Mr,l.length<=br l
 | []=>Qal _
 |m::l=>by have:=i4 l;have:=lA m;rw[br,Qac];lia
mutual
def di:Mr->Nat
 | .mk _ J=>1+lj J
def lj:List Mr->Nat
 | []=>0
 |m::l=>max (di m) (lj l)
end
theorem dL:∀{l:List Mr}{m:Mr},m∈l->di m<=lj l
 |a::l,m,h=>by
  rw[lj];rcases Qp.mp h with rfl|h
  ·exact Nat.le_max_left _ _
  ·exact Qaa (dL h) (Nat.le_max_right _ _)
def jn(f:a_)(a:List Mr):List Mr:=match f with
 | .split _=>a.take 1
 |_=>a
def nj(m:Mr):Option Nat:=(jn m.f m.ks).findIdx? λk=> !gx k
def wl(m:Mr):Option Mr:=match m.f with
 | .hold _=>m.ks[0]?
 | .call=>match m.ks with
  | [.mk (.fn v _) [b],x]=>some (kh v x b)
  |_=>none
 | .part z=>match m.ks with
  | [.mk (.dw ws) ps]=>(ws.idxOf? z).bind λi=>ps[i]?
  |_=>none
 | .split cs=>match m.ks with
  | .mk (.pick z) [x]::ms=>((cs.map (·.1)).idxOf? z).bind λi=>(cs[i]?).bind λc=>(ms[i]?).map λb=>kh c.2 x b
  |_=>none
 |_=>none
mutual
def dz:Mr->Qbc×Option Mr
 | .mk f J=>match nj (.mk f J)with
  |none=>([],wl (.mk f J))
  |some k=>(k::(C8 k J).1,(C8 k J).2)
def C8:Nat->List Mr->Qbc×Option Mr
 |0,m::_=>dz m
 |k+1,_::l=>C8 k l
 |_,[]=>([],none)
end
theorem uO:∀(l:List Mr)(k:Nat)(h:k<l.length),C8 k l=dz l[k]
 |m::l,0,_=>by rw[C8];rfl
 |m::l,k+1,h=>by rw[C8,uO l k (by simpa using h)];rfl
def jo(x:Mr):Qbc->Mr->Mr
 | [],_=>x
 |k::p,.mk f J=>.mk f (match J[k]? with|some m=>J.set k (jo x p m)|none=>J)
structure jy(H:Hp)(d:Nat)(vs:Qbi)(ms:List Mr):Prop where
 len:vs.length=ms.length
 at_:∀i(h:i<vs.length)(O:i<ms.length),bf H d vs[i] ms[i]
theorem jy.tk{H Z:Hp}{d:Nat}{c:Qbi}{e:List Mr}(h:jy H d c e)(s:Tk H Z):jy Z d c e:=⟨h.len,λi a b=>(h.at_ i a b).tk s⟩
theorem jy.app{c us:Qbi}{e f:List Mr}(h1:jy H d c e)(h2:jy H d us f):jy H d (c++us) (e++f):=by
 have g:=h1.len;refine⟨by simp[h1.len,h2.len],λi a b=>?_⟩;by_cases h:i<c.length
 ·rw[Qe h,Qe (by lia)];exact h1.at_ i h (by lia)
 ·rw[Qf (by lia),Qf (by lia)];simp only[<- g];exact h2.at_ _ (by simp at a;lia) (by have:=h2.len;simp at a;lia)
theorem jy.one{H:Hp}{d:Nat}{v:V}{m:Mr}(h:bf H d v m):jy H d [v] [m]:=⟨rfl,λi a b=>by
 obtain rfl:i=0:=by simp at a;lia
 exact h⟩
theorem jy.last{e:Qbi}{k:List Mr}(h:jy H d e k)(l:e≠[]):∃c f v m,e=c++[v]/\k=f++[m]/\jy H d c f/\bf H d v m:=by
 have j:=h.len;have n:0<e.length:=List.length_pos_iff.mpr l;rcases Qa4 e with z|⟨c,v,rfl⟩
 ·exact absurd z l
 rcases Qa4 k with rfl|⟨f,m,rfl⟩
 ·rw[j]at n;exact absurd n (by simp)
 rw[Qa5]at j h⊢;rw[Qa5]at j h⊢;have g:c.length=f.length:=by simpa using j
 refine⟨c,f,v,m,rfl,rfl,⟨g,λi a b=>?_⟩,?_⟩
 ·have:=h.at_ i (by simp;lia) (by simp;lia)
  rwa [Qe a,Qe b]at this
 ·have:=h.at_ c.length (by simp) (by simp;lia)
  rw[Qf (Qy _),Qf (by lia)]at this;simpa[g]using this
theorem bf.kids{v:V}{m:Mr}(h:bf H d v m):∃vs,gu H v m.f vs/\m.f.ok/\jy H d vs m.ks:=by
 obtain⟨k,vs,rfl,h1,h2,h3,h4⟩:=h.out;exact⟨vs,h1,h2,h3,λi a b=>(h4 i a b).up (Nat.le_succ _)⟩
theorem rJ(a b:List Mr):lh (a++b)=(lh a&&lh b):=by simp[mH]
theorem a_.Wi(f:a_):BP (.str f.au) [.str "fn",.str "box",.str "pick"]=(match f with| .fn _ _=>true| .dw _=>true| .pick _=>true|_=>false):=by cases f<;>simp only[a_.au]<;>decide+kernel
theorem a_.Nd(f:a_):decide (V.str f.au=V.str "fn")=(match f with| .fn _ _=>true|_=>false):=by cases f<;>first|exact decide_eq_true rfl|exact Qw (λz=>absurd (V.str.inj z) (by simp only[a_.au];decide+kernel))
mutual
theorem tX(v:Str)(x:Mr):∀m,av (kh v x m)<=av m*av x
 | .mk f J=>by
  have a:=lA x;rw[kh,av];split
  ·exact Nat.le_mul_of_pos_left _ (by lia)
  ·have:=wE v x f 0 J;rw[av,Nat.add_mul]
   lia
theorem wE(v:Str)(x:Mr)(f:a_):∀k l,br (i_ v x f k l)<=br l*av x
 |k,[]=>by rw[i_,br];lia
 |k,m::l=>by
  have a:=lA x;have h1:=tX v x m;have h2:=wE v x f (k+1) l;have b:av m<=av m*av x:=Nat.le_mul_of_pos_right _ (by lia);rw[i_,br,br,Nat.add_mul];split<;>lia
end
theorem bf.Et{v:V}{m:Mr}(h:bf H d v m):Aw H d (av m) v:=by
 induction h with
 | @mk n v f vs J a o b c ih=>
  refine .mk (a.uc o) (ss:=J.map av) (by simpa using b) (λi h e=>?_) ?_
  ·have:=ih i h (by simpa using e);rw[Qr];exact this
  ·rw[av];congr 1;clear a o b c ih
   induction J with
   |nil=>rfl
   |cons x l ih=>rw[br,Qab,List.sum_cons,ih]
theorem a_.few{f:a_}(ok:f.ok):f.ar<=1001:=by
 cases f<;>simp only[a_.ar]<;>(try lia)
 ·exact Qaa ok.2.2 (by decide)
 ·exact Nat.succ_le_succ ok.2.2
theorem bf.dep{v:V}{m:Mr}(h:bf H d v m):di m<=d:=by
 induction h with
 | @mk n v f vs J a o b c ih=>
  have:∀l:List Mr,(∀m∈l,di m<=n)->lj l<=n:=λl=>by
   induction l with
   |nil=>intro _;rw[lj];lia
   |cons x l ih=>intro h;rw[lj];have:=h x (by simp);have:=ih λm e=>h m (by simp[e]);lia
  have:=this J λm e=>by
   obtain⟨i,hi,rfl⟩:=Qi e;exact ih i (by lia) hi
  rw[di]
  lia
def Eu:Qbc->Mr->Prop
 | [],_=>True
 |k::p,m=>∃x,m.ks[k]? =some x/\Eu p x
theorem Eu.len:∀{p:Qbc}{m:Mr},Eu p m->p.length+1<=di m
 | [],m,_=>by cases m;rw[di];simp
 |k::p,.mk f J,⟨x,h1,h2⟩=>by
  have:=h2.len;have:di x<=lj J:=dL (QC h1);rw[di,Qac]
  lia
theorem vB {f : a_} {a : List Mr} {k : Nat} (h : k < (jn f a).length) : ∃ O : k < a.length, (jn f a)[k] = a[k] := by
  unfold jn at h
  cases f <;> first
    | exact ⟨h, rfl⟩
    | (refine ⟨by simp at h; lia, ?_⟩
       simp only [jn, QaJ])
theorem tN{m:Mr}{k:Nat}(h:nj m=some k):∃O:k<m.ks.length,gx m.ks[k]=false:=by
 unfold nj at h;obtain⟨h1,h2,_⟩:=QaR.mp h;obtain⟨h3,h4⟩:=vB h1;rw[h4]at h2;exact⟨h3,by simpa using h2⟩
theorem k8{m:Mr}(h:nj m=none):dz m=([],wl m):=by
 obtain⟨f,J⟩:=m;rw[dz];simp only[h]
theorem k9{m:Mr}{k:Nat}(h:nj m=some k)(O:k<m.ks.length):dz m=(k::(dz m.ks[k]).1,(dz m.ks[k]).2):=by
 obtain⟨f,J⟩:=m;rw[dz];simp only[h];rw[uO J k O];rfl
theorem sJ:∀(n:Nat)(m:Mr),di m<=n->Eu (dz m).1 m
 |0,.mk f J,h=>by rw[di]at h;lia
 |n+1,.mk f J,h=>by
  cases hf:nj (.mk f J)with
  |none=>rw[k8 hf];trivial
  |some k=>
   obtain⟨hk,_⟩:=tN hf;rw[k9 hf hk];refine⟨_,Qa hk,sJ n _ ?_⟩;have:=dL (Qj hk);rw[di]at h;simp only[Mr.ks]at this⊢
   lia
theorem w5(x:Mr):∀(p:Qbc)(m:Mr),av (jo x p m)<=av m+av x
 | [],m=>by rw[jo];lia
 |k::p,.mk f J=>by
  rw[jo,av,av];cases h:J[k]? with
  |none=>simp only[];lia
  |some m=>
   have ih:=w5 x p m;have:∀(l:List Mr)(k:Nat),l[k]? =some m->br (l.set k (jo x p m))<=br l+av x:=λl=>by
    induction l with
    |nil=>intro k h;simp at h
    |cons y l il=>
     intro k h;cases k with
     |zero=>
      obtain rfl:y=m:=by simpa using h
      rw[List.set_cons_zero,br,br];lia
     |succ k=>
      have:=il k (by simpa using h);rw[List.set_cons_succ,br,br];lia
   have:=this J k h;simp only[]
   lia
theorem bf.low{v:V}{m:Mr}(h:bf H n v m):∀{k},di m<=k->bf H k v m:=by
 induction h with
 | @mk n v f vs J a o b c ih=>
  intro k e;rw[di]at e;obtain⟨j,rfl⟩:∃j,k=j+1:=⟨k-1,by lia⟩
  refine .mk a o b λi h d=>ih i h d ?_;have:=dL (Qj d)
  lia
theorem Wj(m:Mr):av m=1+br m.ks:=by cases m;rw[av];rfl
theorem oK(m:Mr):di m=1+lj m.ks:=by cases m;rw[di];rfl
theorem j3{l:List Mr}{m:Mr}(h:m∈l):av m<=br l:=by
 induction l with
 |nil=>cases h
 |cons a l ih=>
  rw[br];rcases Qp.mp h with rfl|h
  ·lia
  ·have:=ih h;lia
theorem Jy{a b:Nat}(h1:a<=n)(h2:b<=n):a*b<=n*n:=Nat.mul_le_mul h1 h2
theorem Nf{a:Nat}(h:a<=n):a<=n*n:=by
 rcases Nat.eq_zero_or_pos n with z|z
 ·lia
 ·exact Qaa h (Nat.le_mul_of_pos_left _ z)
theorem Wk{m c:Mr}(h:wl m=some c):av c<=av m*av m:=by
 obtain⟨f,J⟩:=m;have e:av (.mk f J)=1+br J:=by rw[av]
 rw[e];cases f with
 |hold r=>
  have h:J[0]? =some c:=h;exact Nf (by have:=j3 (QC h);lia)
 |call=>
  simp only[wl,Mr.f,Mr.ks]at h;split at h
  ·rename_i v r b x
   cases h;refine Qaa (tX _ _ _) (Jy ?_ ?_)
   ·simp only[br,av];lia
   ·simp only[br,av];lia
  ·cases h
 |part z=>
  simp only[wl,Mr.f,Mr.ks]at h;split at h
  ·rename_i a g
   obtain⟨i,h1,h2⟩:=Option.bind_eq_some_iff.mp h;have:=j3 (QC h2);exact Nf (by simp only[br,av];lia)
  ·cases h
 |split cs=>
  simp only[wl,Mr.f,Mr.ks]at h;split at h
  ·rename_i z x j
   obtain⟨i,h1,h2⟩:=Option.bind_eq_some_iff.mp h;obtain⟨d,h3,h4⟩:=Option.bind_eq_some_iff.mp h2;obtain⟨b,h5,h6⟩:=Option.map_eq_some_iff.mp h4;subst h6;have:=j3 (QC h5);refine Qaa (tX _ _ _) (Jy ?_ ?_)
   ·simp only[br,av];lia
   ·simp only[br,av];lia
  ·cases h
 |_=>cases h
theorem uS{c:Mr}:∀(n:Nat)(m:Mr),di m<=n->(dz m).2=some c->av c<=av m*av m
 |0,.mk f J,h,_=>by rw[di]at h;lia
 |n+1,.mk f J,h,h2=>by
  cases hf:nj (.mk f J)with
  |none=>rw[k8 hf]at h2;exact Wk h2
  |some k=>
   obtain⟨hk,_⟩:=tN hf;rw[k9 hf hk]at h2;have a:=dL (Qj hk);have b:=j3 (Qj hk);rw[di]at h;simp only[Mr.ks]at a b h2 hk;have ih:=uS n _ (by lia) h2;refine Qaa ih (Jy ?_ ?_)<;>rw[av]<;>lia
inductive Kd where
 |val
 |stuck (p:Qbc)
 |on
def wm(m:Mr):Option Mr:=if gx m=true then none else(dz m).2.map λc=>jo c (dz m).1 m
def yf(m:Mr):Kd:=if gx m=true then .val else match(dz m).2 with
 |none=>.stuck (dz m).1
 |some _=>.on
def jj:Nat->Nat->Mr->Nat ⊕ (Mr×Nat×Kd)
 |0,dn,m=>.inr (m,dn,yf m)
 |k+1,dn,m=>match wm m with
  |none=>.inr (m,dn,yf m)
  |some m'=>if 400<av m' then .inl 400 else if 40<di m' then .inl 40 else jj k (dn+1) m'
end L2
namespace L2
open PySem PySem.Spec PyProof.Rows PyProof HT
section
theorem qK:typeLookup (.type "tuple") (dunderI "add")=pure none:=by rw[typeLookup_type,builtinLookup_eq_fast];kernel_rfl
theorem Wn(K:QZ)(h:X.K=K:=by rfl):FF X .Add (Js K):=by
 subst h;intro d s i H x y v u Q I e f h;obtain⟨a,b,B,ys,rfl,rfl,ha,hb,hz,q0,q1,q2⟩:=h;cases e;cases f;obtain⟨its,r1,p1,_⟩:=I.tuple ha;obtain⟨its2,r2,p2,_⟩:=I.tuple hb;obtain⟨⟨cls,dd,data,sl⟩,ho,hc,n,hd⟩:=id p1;obtain⟨⟨IF,qt,data2,qu⟩,jz,jr,n2,hd2⟩:=id p2;simp only at hc hd jr hd2;subst hc hd jr hd2;have h1:s.TypeIs (.ref a) "tuple":=⟨_,ho,rfl⟩
 have h2:s.TypeIs (.ref b) "tuple":=⟨_,jz,rfl⟩
 refine wpAny_inplaceOp_concat h1 h2 qK noFill_tuple_add seq_tuple_add ?_;have j:=r1.length;have k:=r2.length;by_cases hx:B=[]
 ·have g:its=[]:=r1.A4.mpr hx;exact call_meets QaD h1 Qax (Qat _ _) (tuple_addW0 a b its.toArray its2.toArray n n2 dd qt sl qu (by simp[g])) ⟨ho,jz,⟨.ref b,H,I,rfl,q0 hx⟩⟩
 have hv:its≠[]:=λz=>hx (r1.A4.mp z);by_cases hw:ys=[]
 ·have c:its2=[]:=r2.A4.mpr hw;exact call_meets QaD h1 Qax (Qat _ _) (tuple_addW1 a b its.toArray its2.toArray n n2 dd qt sl qu (by simpa using hv) (by simp[c])) ⟨ho,jz,⟨.ref a,H,I,rfl,q1 hx hw⟩⟩
 ·have c:its2≠[]:=λz=>hw (r2.A4.mp z);refine call_meets QaD h1 Qax (Qat _ _) (tuple_addW2 a b its.toArray its2.toArray n n2 dd qt sl qu (by simpa using hv) (by simpa using c) (by rw[XC,XC];lia)) ⟨ho,jz,?_⟩;rw[show its.toArray++its2.toArray=(its++its2).toArray by simp];refine⟨.ref s.heap.objs.size,_,I.laid (t':=s.toks) (o:=.tup (B++ys)) (λb l q=>Qc _ q) (Qy _) ?_,rfl,q2 hx hw _ (I.hok.fresh (Qy _))⟩;exact⟨⟨by rw[Qk];exact hz,AZ.new rfl rfl⟩,_,r1.append r2,IsTup.new _ _⟩
variable{pos:Pos}
def Ng(g h:TG):TG:=λv σ H Q=>g v σ H λa Z=>h v a Z Q
theorem Wo{b c:Expr}{g1 g2:TG}(j:SE X e te)(k:SG X b g1)(l:SG X c g2)(m:swapsWithSole [b,c] e pos.line X.env=pure false:=by rfl)(n:swappedStores [b,c] e X.env=pure none:=by rfl)
  (h1:(assignEach [b,c] X.env).map (·.2)=[assign b X.env,assign c X.env]:=by rfl):SS X (.Assign [b,c] e pos) (sf te (Ng g1 g2)):=by
 constructor;intro a s f H D I h;refine wpAny_Assign_stores (bh (j.h a s f H _ I h) ?_) m n;rintro v o ⟨x,p,r,g,t⟩;rw[h1];refine QS (wpAny_holding (bh (k.h a o f p x v _ r g t) ?_));rintro _ i ⟨d,u,w,y⟩;exact bh (l.h a i d u x v _ w g y) λ_ i q=>q
end
end L2
namespace L2
open PySem PySem.Spec PyProof.Rows
section
variable{g:Array GenState}{d:Drawn}{t:Nat}{os:OsState}
variable{nm q:Str}{N:Addr}{bs bm bmB:Qa9}{hdct:Bool}{sn:Qa8}{sub:Qa9}{ab:Bool}{col:Option Bool}{dd:Option Addr}{k0 k1 k2 k3 k5:Qbb}{B Bn newId Gs Ew Nh:String}{Ni:Qa9}
theorem Wr(i:ExcBaseFacts Bn newId Nh Ni)(m:bmB.contains (.type Bn)=true)(F:ExcBaseFacts B Gs Ew bmB)(T:OwnTail h bmB bm){j:Str->Qbb}{a:Qa9}{k:Addr}{n:Obj}{Q:Fin->Shared->Prop}
  (c:h.get? C=some (excClassObj nm q C N bs bm hdct sn sub ab col dd k0 k1 k2 k3 k5 newId)) (u:h.Ns N j) (y:j "__init__"=some (.ref k)) (z:h.get? k=some n) (D:n.cls=.type "function") (G:a.length<=sizeLine)
  (H:∀O e,Heap.MadeExcOf h O e (.ref C) a->wpAny (model P w) A (call (.ref k) (.ref e::a)) (λr s'=>r=.none/\Q (.done (.ret (.ref e))) s') E ⟨O,g,d,t,os⟩):
  wpAny (model P w) A (Builtin.«type.__call__» ⟨.ref C::a,[]⟩) Q E ⟨h,g,d,t,os⟩:=by
 repeat(first|with_reducible refine wpAny_loadPart_at c ?_|with_reducible refine wpAny_madeBy_exc c ?_|wp_step)
 refine codeAny_call_builtin_code (Code.quiet_builtin _ i.quiet) (wpAny_check_new_subU i m T c (codeAny_exc_new_subU i m F T c ?_ G))
 let h2:=(h.push {cls:=.type "tuple",data:=.seq a.toArray}).push {cls:=.ref C,data:=.fields #[.ref h.objs.size,.none,.none,.none,.bool false,.none]}
 have f:∀b o,h.get? b=some o->h2.get? b=some o:=λb o e=>Qc _ (Qc _ e);have p:=f _ _ c;have l:h2.Ns N j:=let ⟨o,Y,ep,e,r⟩:=u;⟨o,Y,ep,f _ _ e,r⟩
 have s:h2.get? (h.objs.size+1)=some {cls:=.ref C,data:=.fields #[.ref h.objs.size,.none,.none,.none,.bool false,.none]}:=by
  show(Heap.push _ _).get? _=_;have:=Qd (h.push {cls:=.type "tuple",data:=.seq a.toArray}) (o:={cls:=.ref C,data:=.fields #[.ref h.objs.size,.none,.none,.none,.bool false,.none]}) rfl;rw[Qag]at this;exact this
 have I:(Value.ref C::bm).contains (.ref C)=true:=by simp
 show wpAny _ _ _ _ _ ⟨h2,g,d,t,os⟩;unfold isInstance
 repeat(first|with_reducible refine wpAny_loadPart_at s ?_|(with_reducible refine wpAny_isSubtype_exc p ?_;rw[I])|wp_step)
 show wpAny _ _ (typeLookup (.ref C) _) _ _ _;refine wpAny_typeLookup_tail p l (T.keeps f) F.mroIs F.init.lookup ?_;rw[y];refine wpAny_holding (QS ?_);unfold bindSpecial;refine QS (wpAny_typeOf (T:="function") ⟨_,f _ _ z,D⟩ ?_);rw[if_pos (by decide)];refine QT (QS (wpAny_mono (H h2 (h.objs.size+1) ⟨f,QaO (Nat.le_succ _),h.objs.size,s,QaO (Qy _),Qc _ (Qd _ rfl)⟩) (λr s' K=>?_) λ_ _ x=>x));obtain⟨rfl,hQ⟩:=K
 wp_walk
 exact hQ
theorem Wt(j:ExcBaseFacts Bn newId Nh Ni)(k:bmB.contains (.type Bn)=true)(F:ExcBaseFacts B Gs Ew bmB)(T:OwnTail h bmB bm){f:Str->Qbb}{a:Qa9}{c:Addr}{i:Obj}
  (b:h.get? C=some (excClassObj nm q C N bs bm hdct sn sub ab col dd k0 k1 k2 k3 k5 newId)) (l:h.Ns N f) (m:f "__init__"=some (.ref c)) (n:h.get? c=some i) (o:i.cls=.type "function") (p:a.length<=sizeLine)
  (s:∀O e,Heap.MadeExcOf h O e (.ref C) a->wpAny (model P w) (A.under (.builtin "type.__call__" ⟨.ref C::a,[]⟩)) (call (.ref c) (.ref e::a)) (λr s'=>r=.none/\Q (.ref e) s') E ⟨O,g,d,t,os⟩):
  wpAny (model P w) A (call (.ref C) a) Q E ⟨h,g,d,t,os⟩:=by
 have u:=tc_lookup;have x:=tc_bind (.ref C);have y:(⟨h,g,d,t,os⟩:Shared).TypeIs (.ref C) "type":=⟨_,b,rfl⟩
 refine wpAny_call (codeAny_of_tree ?_);show wpAny _ _ (callAny (.ref C) _) _ _ _
 repeat(any_goals (first|assumption|with_reducible refine wpAny_loadPart_at b ?_|wp_step))
 exact⟨rfl,codeAny_call_builtin_at (Code.quiet_builtin _ (by decide+kernel)) entry_typeCall (wpAny_check_type_call_sub b (Wr j k F T b l m n o p s))⟩
end
section
variable{nm q:Str}{N:Addr}{bs bm:Qa9}{hdct:Bool}{sn:Qa8}{sub:Qa9}{ab:Bool}{col:Option Bool}{dd:Option Addr}{k0 k1 k2 k3 k5:Qbb}{newId:String}
theorem Wu{x:Sem Value}{Q:Flow->Shared->Prop}(b:bm.contains (.type "BaseException")=true)(c:A.handled=none)
  (h:wpAny M A x (λv s1=>∃e t dct,v=.ref e/\s1.heap.get? C=some (excClassObj nm q C N bs bm hdct sn sub ab col dd k0 k1 k2 k3 k5 newId)/\s1.heap.get? e=some {cls:=.ref C,dict:=dct,data:=.fields #[.ref t,.none,.none,.none,.bool false,.none]}/\E (.ref e) s1) E s):
  wpAny M A (raiseStmt env (some x) none) Q E s:=by
 have f:(Value.ref C::bm).contains (.type "BaseException")=true:=by rw[List.contains_cons,b,Bool.or_true]
 unfold raiseStmt;refine QS (wpAny_mono h ?_ λ_ _ x=>x);rintro v s1 ⟨e,t,dct,i,a,j,k⟩;subst i;obtain⟨hp,g,d,tk,os⟩:=s1
 repeat(first|with_reducible refine wpAny_loadPart_at j ?_|with_reducible refine wpAny_loadPart_at a ?_|(with_reducible refine wpAny_isSubtype_exc a ?_;rw[f])|wp_step)
 exact wpAny_raiseNew_none c k
end
def uw(h:Heap)(e C:Addr)(dct:Option Addr):Prop:=∃t,h.get? e=some {cls:=.ref C,dict:=dct,data:=.fields #[.ref t,.none,.none,.none,.bool false,.none]}
section
variable{g:Array GenState}{d:Drawn}{t:Nat}{os:OsState}
variable{nm q:Str}{N e:Addr}{bs bm bmB:Qa9}{hdct:Bool}{sn:Qa8}{sub:Qa9}{ab:Bool}{col:Option Bool}{dd:Option Addr}{k0 k1 k2 k3 k5:Qbb}{B newId Gs Ew:String}
theorem Wv(F:ExcBaseFacts B Gs Ew bmB)(T:OwnTail h bmB bm)(c:h.get? C=some (excClassObj nm q C N bs bm hdct sn sub ab col dd k0 k1 k2 k3 k5 newId))(a:uw h e C dct){args:Qa9}(i:args.length<=sizeLine)
  (f:∀O,(∀b o,b≠e->h.get? b=some o->O.get? b=some o)->uw O e C dct->Q .none ⟨O,g,d,t,os⟩):
  wpAny (model P w) A (call (.builtin Ew) (.ref e::args)) Q E ⟨h,g,d,t,os⟩:=by
 obtain⟨t0,a⟩:=a;refine wpAny_call (codeAny_call_builtin F.init.plain F.initEntry (wpAny_check_init_subU F T c a rfl ?_))
 wp_walk
 have h1:=Qc {cls:=.type "tuple",data:=.seq args.toArray} a;refine f _ (λb o n q=>?_) ⟨h.objs.size,?_⟩
 ·rw[wQ _ _ n.symm];exact Qc _ q
 ·exact Qah _ h1 rfl
end
end L2
namespace L2
open PySem PySem.Spec PyProof.Rows PySem.W Builtin.ObjectAttr
theorem iX(self:Value):∀own:Qba,refuseLoop self "__setattr__" (wo own)=pure ()
 | []=>PySem.F.store_ValueError.passes self
 |c::r=>by
  show refuseLoop self "__setattr__" (.ref c::wo r)=_;rw[refuseLoop_ref];exact iX self r
theorem jM{v:Value}(h:v∈Gv)(own:Qba):(wo own).contains v=true:=by
 rw[List.contains_iff_mem];exact xD.mpr (.inr h)
section
variable{K:QZ}{e:Addr}{cd:ClassData}{own:Qba}{v:Value}
theorem Ww{Q:Unit->Shared->Prop}(X:K.In s.heap)(a:uw s.heap e C none)(g:clsIn K C=some cd)(h:cd.mro=wo own)(u:cd.hasDict=true)(x:findIn K (.ref C) "__setattr__"=some (some (.builtin "object.__setattr__")))(z:findIn K (.ref C) name=some none)
  (k:∀O dx tk,s.heap.get? dx=none->(∀b o,b≠e->s.heap.get? b=some o->O.get? b=some o)->uw O e C (some dx)->O.Ns1 dx (λy=>if y=name then some v else none)->Q () {s with heap:=O,toks:=tk}):
  wpAny (model P w) A (setAttr (.ref e) name v) Q E s:=by
 obtain⟨t,a⟩:=a;have I:InstAt s.heap e _ C none:=⟨a,rfl,rfl,trivial⟩
 have c:=PySem.F.store_object;refine set_plain X I x ?_;have D:K.In ({s with toks:=s.toks+1}:Shared).heap:=X;have l:InstAt ({s with toks:=s.toks+1}:Shared).heap e _ C none:=I;have G:cd.mro.isEmpty=false:=by rw[h];cases own<;>rfl
 have i:Looks (model P w) s.heap (isInstance (.ref e) (.type "object")) true:=I.type.andThen (looks_mroIn X (by unfold mroIn;rw[g,Qao,if_neg (by rw[G];decide),h,jM (by decide)]));refine codeAny_call_builtin c.slot.plain c.entry (@check_slot (model P w) _ _ _ "object.__setattr__" "object" "__setattr__" (.ref e) [.str name s.toks,v] [] _ c.kind c.split i (c.args (.ref e) (.str name s.toks) v) ?_);have H:Looks (model P w) ({s with toks:=s.toks+1}:Shared).heap (mroOf (.ref C)) cd.mro:=(looks_clsIn X g).andThen .now;rw[osa_eq,refuse_eq];refine QS (QS (l.type.here (QS (H.here ?_))));rw[h,iX];refine QT (QS (l.type.here (QS ((looks_findIn D z).here (QS (Looks.here (.now:Looks (model P w) ({s with toks:=s.toks+1}:Shared).heap (storeTaker? none) none) ?_))))));dsimp only;obtain⟨hp,gn,dr,tk,os⟩:=s;dsimp only at a X k;have d:e≠hp.objs.size:=VD (Qz a)
 let m:Obj:={cls:=.ref C,data:=.fields #[.ref t,.none,.none,.none,.bool false,.none]}
 have p:(hp.push {cls:=.type "dict",data:=.dict #[]}).get? e=some m:=Qc _ a
 let h2:Heap:=(hp.push {cls:=.type "dict",data:=.dict #[]}).update e λo=>{o with dict:=some hp.objs.size}
 have L:h2.get? e=some {m with dict:=some hp.objs.size}:=Qah _ p rfl;have j:h2.get? hp.objs.size=some {cls:=.type "dict",data:=.dict #[]}:=(Heap.get?_update_ne _ _ _ _ d.symm).trans (Qd _ rfl);have N:h2.Ns hp.objs.size (λ_=>none):=⟨_,#[],_,j,rfl,λe a=>absurd a (by simp),λ_=>rfl⟩
 unfold storeInOwnDict ownDictForStores instanceDict;refine QS (QT (QS (QS (wpAny_loadPart (s:=⟨hp,gn,dr,tk+1,os⟩) a (QS ((looks_clsIn (M:=model P w) X g).here (s:=⟨hp,gn,dr,tk+1,os⟩) ?_))))));rw[u,if_neg (by decide)];dsimp only;rw[if_neg (by simp[typeHasDict])];refine QS (wpAny_alloc' (QS (wpAny_update' p (QT ?_))));show wpAny _ _ (storeInDict hp.objs.size (.str name tk) name v) _ _ ⟨h2,gn,dr,tk+1,os⟩;unfold storeInDict newKeyGuard;refine QS (QT (QS (wpAny_nsSet1 (Heap.Ns1.of_empty N) λO f r=>?_)));obtain⟨oD,esD,epD,Wz,WC,WD⟩:=f.count (Within.cons name v Within.nil);refine QS (wpAny_lookBehind Wz (by rw[WC];exact pastItsLine_dict (Qaa WD (by rw[Qac,List.length_nil,QL];lia))) (QT ?_));refine k O hp.objs.size _ (QaO (Qy _)) (λb o n q=>?_) ⟨t,(r.2 e d).trans L⟩ f;exact(r.2 b (VD (Qz q))).trans ((Heap.get?_update_ne _ _ _ _ n).trans (Qc _ q))
end
end L2
namespace L2
open PySem PySem.Spec PyProof.Rows
def ze(h:Heap)(e C:Addr)(dct:Option Addr):Prop:=∃vs:Array Value,h.get? e=some {cls:=.ref C,dict:=dct,data:=.fields vs}/\1<vs.size/\
 (vs[1]? =some .none\/∃T a ts,vs[1]? =some (.ref T)/\T≠e/\h.get? T=some a/\a.data=.fields ts/\ts[3]? =some .none)
theorem uw.WE{e:Addr}(x:uw h e C dct):ze h e C dct:=let ⟨_,q⟩:=x;⟨_,q,Nat.succ_lt_succ (Nat.succ_pos _),.inl rfl⟩
section
variable{L e:Addr}{Q:Unit->Shared->Prop}
structure JC(fr:Qba)(e:Addr)(h O:Heap):Prop where
 keep:∀b o,b∉fr->b≠e->h.get? b=some o->O.get? b=some o
 slot:∀b o,b≠e->h.get? b=some o->∃sl,O.get? b=some {o with slots:=sl}
 Gw:∀b o,h.get? b=some o->∃o',O.get? b=some o'
theorem mY(qd:A.frames=some (env::outer))(hl:s.heap.FunFrames base (env::outer))(hf:env.frame=some L)(he:ze s.heap e C dct)(Bc:e∉(env::outer).filterMap (·.frame))
  (h:∀O tb,s.heap.get? tb=none->JC ((env::outer).filterMap (·.frame)) e s.heap O->ze O e C dct->Q () {s with heap:=O}):
  wpAny M A (noteFrame (.ref e) env) (λ_ s1=>wpAny M A (setFlight (.ref e) none) Q E s1) E s:=by
 obtain⟨vs,g1,g2,g3⟩:=he;have d:∀(s1:Shared)(w:Value)(b:Bool),s1.heap.FunFrames base (env::outer)->s1.heap.get? e=some {cls:=.ref C,dict:=dct,data:=.fields vs}->
   (∀O tb,s1.heap.get? tb=none->JC ((env::outer).filterMap (·.frame)) e s1.heap O->ze O e C dct->Q () {s1 with heap:=O})->
   wpAny M A (do let a <- frameOf env;let r <- entryPlaceOf L b;let t <- EntryCells.newEntry w a .none (rawInt L) .none r;setField (.ref e) 1 t) (λ_ s2=>wpAny M A (setFlight (.ref e) none) Q E s2) E s1:=by
  intro s1 w b f_ Ax k;refine QS (wpAny_frameOf_fun qd f_ hf λh1 m=>?_);refine QS (wpAny_entryPlaceOf λr D=>?_);unfold EntryCells.newEntry newFields;refine QS (wpAny_newObj_type ?_ (D.sizeOk5 _ _ _ _ _));have e1:h1.get? e=some {cls:=.ref C,dict:=dct,data:=.fields vs}:=(m.2.1 e Bc).trans Ax;generalize Nl:({cls:=.type "traceback",data:=.fields ([w,Value.ref L,Value.none,rawInt L,Value.none]++if r.isEmpty=true then List.replicate 6 Value.none else r).toArray}:Obj)=i;have G:i.isFreed=false:=by rw[<- Nl];rfl
  have e2:(h1.push i).get? e=some {cls:=.ref C,dict:=dct,data:=.fields vs}:=Qc _ e1;refine wpAny_setField e2 rfl g2 ?_;have H:h1.objs.size≠e:=QaC (Qz e1);have I:((h1.push i).update e (Obj.mapFields (·.setIfInBounds 1 (.ref h1.objs.size)))).get? e=some {cls:=.ref C,dict:=dct,data:=.fields (vs.setIfInBounds 1 (.ref h1.objs.size))}:=Qah _ e2 rfl;have K:((h1.push i).update e (Obj.mapFields (·.setIfInBounds 1 (.ref h1.objs.size)))).get? h1.objs.size=some i:=(wQ _ _ H.symm).trans (Qd _ G);generalize WH:(h1.push i).update e (Obj.mapFields (·.setIfInBounds 1 (.ref h1.objs.size)))=h2 at I K;unfold setFlight;refine QS (wpAny_field (s:={s1 with heap:=h2}) I rfl (x:=.ref h1.objs.size) (by simp[g2]) ?_);rw[if_pos (show(Value.ref h1.objs.size !=Value.none)=true from by simp)];obtain⟨g,c,Au⟩:∃g:Array Value,i.data=.fields g/\3<g.size:=⟨_,by rw[<- Nl],by simp only[XC,Qk,Qac,List.length_nil];lia⟩
  refine wpAny_setField (s:={s1 with heap:=h2}) K c Au ?_;have N:∀b o,b≠e->h1.get? b=some o->(h2.update h1.objs.size (Obj.mapFields (·.setIfInBounds 3 ((none:Option Addr).elim Value.none λf=>rawInt f)))).get? b=some o:=λb o n q=>by
   rw[wQ _ _ (QaC (Qz q)),<- WH,wQ _ _ n.symm];exact Qc _ q
  have e4:(h2.update h1.objs.size (Obj.mapFields (·.setIfInBounds 3 ((none:Option Addr).elim Value.none λf=>rawInt f)))).get? e=some {cls:=.ref C,dict:=dct,data:=.fields (vs.setIfInBounds 1 (.ref h1.objs.size))}:=(wQ _ _ H).trans I;have t4:=Qah (Obj.mapFields (·.setIfInBounds 3 ((none:Option Addr).elim Value.none λf=>rawInt f))) K (Obj.isFreed_of_fields (Obj.data_mapFields c _));refine k _ h1.objs.size (QaO (by rw[m.1];exact Qy _)) ⟨λb o n1 n2 q=>N b o n2 ((m.2.1 b n1).trans q),λb o n q=>?_,λb o q=>?_⟩ ⟨_,e4,by simpa using g2,.inr ⟨h1.objs.size,_,_,by simp[g2],H,t4,Obj.data_mapFields c _,by simp[Au]⟩⟩
  ·obtain⟨sl,q'⟩:=m.2.2 b o q;exact⟨sl,N b _ n q'⟩
  ·by_cases n:b=e
   ·subst n;exact⟨_,e4⟩
   ·obtain⟨sl,q'⟩:=m.2.2 b o q;exact⟨_,N b _ n q'⟩
 unfold noteFrame;simp only[hf];rcases g3 with P|⟨T,R,g,P,ne,u,c,V⟩
 ·refine QS (wpAny_field g1 rfl P ?_);rw[if_neg (by decide)];exact d s _ _ hl g1 h
 ·refine QS (wpAny_field g1 rfl P ?_);rw[if_pos (show(Value.ref T !=Value.none)=true from by simp)];refine QS (wpAny_field u c V ?_);rw[if_neg (show ¬((Value.none==rawInt L)=true)from by simp[rawInt])];refine QS (wpAny_setField u c (QaE.mp V).1 ?_);have p:Obj.mapFields (·.setIfInBounds 3 Value.none) R=R:=by
   obtain⟨oc,od,Gx,jf⟩:=R;have c:Gx=.fields g:=c;subst c;have:g.setIfInBounds 3 Value.none=g:=by
    obtain⟨h4,h5⟩:=QaE.mp V;rw[<- h5,Array.setIfInBounds_def,dif_pos h4];exact Array.set_getElem_self h4
   show Obj.mk oc od (.fields (g.setIfInBounds 3 Value.none)) jf=_;rw[this]
  have tT:=Qah (Obj.mapFields (·.setIfInBounds 3 Value.none)) u (Obj.isFreed_of_fields (Obj.data_mapFields c _));rw[p]at tT;have l:∀b,(s.heap.update T (Obj.mapFields (·.setIfInBounds 3 Value.none))).get? b=s.heap.get? b:=λb=>by
   by_cases z:b=T
   ·rw[z,tT,u]
   ·exact wQ _ _ (Ne.symm z)
  refine d {s with heap:=s.heap.update T (Obj.mapFields (·.setIfInBounds 3 Value.none))} _ _ (hl.of_keeps λb o j ag=>⟨o,(l b).trans j,rfl⟩) ((l e).trans g1) λO tb q n f=>h O tb ((l tb).symm.trans q) ⟨λb o x y j=>n.keep b o x y ((l b).trans j),λb o x j=>n.slot b o x ((l b).trans j),λb o j=>n.Gw b o ((l b).trans j)⟩ f
end
def ku(C:Addr)(dct:Option Addr)(e:Addr):HO:=.ext λh=>uw h e C dct
def nq(C:Addr)(dct:Option Addr)(e:Addr):HO:=.ext λh=>∃vs:Array Value,h.get? e=some {cls:=.ref C,dict:=dct,data:=.fields vs}
theorem x6{e:Addr}(x:uw h e C dct):c_ P w H h e (ku C dct e):=⟨x,let ⟨_,q⟩:=x;⟨_,q⟩,λh1 h2 ⟨t,q⟩ k=>⟨t,k _ q⟩⟩
theorem WI{e:Addr}(x:ze h e C dct):c_ P w H h e (nq C dct e):=let ⟨_,q,_⟩:=x;⟨⟨_,q⟩,⟨_,q⟩,λh1 h2 ⟨t,q⟩ k=>⟨t,k _ q⟩⟩
def nu(P:Program)(w:World):uq:=λouter H s E a s'=>∃(e C:Addr)(dct:Option Addr)(Z:Hp),a=.ref e/\s'.os=s.os/\AllBare s'.gens/\Un (g_ outer) [] H Z s.heap s'.heap/\dm P w Z s'.heap/\Z e=some (nq C dct e)/\ze s'.heap e C dct/\E (.ref e) dct Z
section
variable{e:Addr}
theorem dm.noted{a:Qba}{u:HO}(x:dm P w H h)(n:JC a e h O)(d:∀b∈a,H b=none)(m:H e=some u)(i:∀B,H e≠some (.tup B))(j:∀o v,H e≠some (.iy o v))(no:∀y,H e≠some (.own y))(f:ze O e C dct):dm P w (upd H e (nq C dct e)) O:=by
 intro b o q;by_cases z:b=e
 ·subst z;rw[aB]at q;cases q;exact WI f
 ·rw[aS z]at q;refine(x b o q).stay (λc v hc g=>?_) (λc g=>?_) λc B g=>g.upd λu p z=>?_
  ·have l:∃k,H c=some k:=by
    rcases hc with rfl|hc
    ·exact⟨_,q⟩
    ·exact⟨_,hc⟩
   obtain⟨k,hk⟩:=l;refine n.keep c v (λw=>by rw[d c w]at hk;cases hk) (λw=>?_) g;rcases hc with rfl|hc
   ·exact z w
   ·rw[w]at hc;exact no _ hc
  ·rw[aS λw=>no _ (by rw[<- w];exact g)];exact g
  ·subst z;rcases g with g|⟨r,g⟩
   ·exact i _ g
   ·exact j _ _ g
theorem WJ{K:QZ}{f:Addr}{i:Value}{d:Shared}{E:XK}
  (I:Inv (jl (nu P w) P w K mg base N qual scope f i A outer d H0 E) U σ H s) (c:H e=some (ku C dct e)) (q:E (.ref e) dct (upd H e (nq C dct e))):
  (jl (nu P w) P w K mg base N qual scope f i A outer d H0 E).xe (.ref e) s:=by
 have a:uw s.heap e C dct:=(show c_ P w H s.heap e (ku C dct e)from I.hok e _ c).1;have k:∀b∈g_ (envOfC qual scope d.heap.objs.size f i::outer),H b=none:=I.DT;have p:e∉g_ (envOfC qual scope d.heap.objs.size f i::outer):=λz=>by rw[k e z]at c;cases c
 show wpAny _ _ (leaving _ _) _ _ s;unfold leaving;refine QS (mY (base:=base) (outer:=outer) (L:=d.heap.objs.size) I.ok.frames I.stack rfl a.WE p λx D _ n l=>?_);refine⟨e,C,dct,upd H e (nq C dct e),rfl,I.os,I.bare,?_,dm.noted I.hok n k c (λm z=>by rw[c]at z;cases z) (λo v z=>by rw[c]at z;cases z) (λy z=>by rw[c]at z;cases z) l,aB,l,q⟩;have B:Un (g_ outer) [] H0 H d.heap s.heap:=I.base;have r:∀b o,d.heap.get? b=some o->b∉g_ outer->b∉g_ (envOfC qual scope d.heap.objs.size f i::outer):=λb o q g z=>by
  have z':b∈d.heap.objs.size::g_ outer:=z;rcases Qp.mp z' with z'|z'
  ·exact absurd (Qz q) (by rw[z'];exact Qau _)
  ·exact g z'
 have j:∀{b},H b=none->b≠e:=λg z=>by rw[z,c]at g;cases g
 refine⟨λb o q h g a=>n.keep b o (r b o q g) (j (B.free b o q h a)) (B.keep b o q h g a),λb o q h g a=>?_,λb o q h a=>by rw[aS (j (B.free b o q h a))];exact B.free b o q h a,λb o q a=>?_,λb m q=>?_,λb o u q=>?_,λb t q=>?_⟩
 ·obtain⟨sl,q'⟩:=B.slot b o q h g a;obtain⟨BD,JD⟩:=n.slot b _ (j (B.free b o q h a)) q';exact⟨BD,JD⟩
 ·obtain⟨o',q'⟩:=B.there b o q a;exact n.Gw b o' q'
 ·have:=B.tups b m q;rw[aS λz=>by rw[z,c]at this;cases this];exact this
 ·have:=B.mh b o u q;rw[aS λz=>by rw[z,c]at this;cases this];exact this
 ·obtain⟨mo,this⟩:=B.o_ b t q;exact⟨mo,by rw[aS λz=>by rw[z,c]at this;cases this];exact this⟩
theorem yg{Q:Unit->Shared->Prop}{l:Value->Shared->Prop}{E:XK}{f:Value}(I:Inv X U σ H s)(h:X.stack=X.env::X.outer)(p:X.env.frame=some X.env.locals)(c:nu X.prog X.w X.stack H s E f s')
  (k:∀(e C:Addr)(dct:Option Addr)(Z:Hp)(s2:Shared),f=.ref e->Inv X U σ Z s2->Z e=some (nq C dct e)->E (.ref e) dct Z->ze s2.heap e C dct->Q () s2):
  wpAny (model X.prog X.w) X.A (noteFrame f X.env) (λ_ s1=>wpAny (model X.prog X.w) X.A (setFlight f none) Q l s1) l s':=by
 obtain⟨e,C,dct,Z,rfl,os,bare,un,hok,he,fl,q⟩:=c;have a:=I.Im os un hok bare (λb z=>absurd z (by simp));have i:∀b∈g_ X.stack,Z b=none:=a.DT;have t:e∉g_ X.stack:=λz=>by rw[i e z]at he;cases he
 have u:=a.ok.frames;have x:=a.stack;rw[h]at i t u x;refine mY u x p fl t λL T _ n D=>?_;have G:=dm.noted hok n i he (λV z=>by rw[he]at z;cases z) (λo v z=>by rw[he]at z;cases z) (λy z=>by rw[he]at z;cases z) D;rw[p8 he]at G;have j:∀{b},Z b=none->b≠e:=λK z=>by rw[z,he]at K;cases K
 have N:g_ (X.env::X.outer)=X.env.locals::X.fs:=by unfold g_;rw[QaL,p];rfl
 have P:Inv X U σ Z {s' with heap:=L,gens:=s'.gens,drawn:=s'.drawn,toks:=s'.toks}:=by
  refine a.step (ch:=[]) (λ_ z=>nomatch z) (λb o h1 h2 _ g d=>n.keep b o (λz=>?_) (j d) g) (λb o _ _ _ g d=>n.slot b o (j d) g) (λb o _ g d=>d) (λb o _ g=>n.Gw b o g) (λ_ _ g=>g) (λ_ _ _ g=>g) (λb ps g=>⟨#[],by rw[g];simp⟩) (λm R=>?_) G a.bare
  ·rw[show(X.env::X.outer).filterMap (·.frame)=X.env.locals::X.fs from N]at z;rcases Qp.mp z with z|z
   ·exact h1 z
   ·exact h2 z
  ·obtain⟨o,Y,ep,ho,hd,r⟩:=R;obtain⟨sl,q'⟩:=n.slot _ o (j a.free) ho;exact⟨_,Y,ep,q',hd,r⟩
 exact k e C dct Z _ rfl P he q D
end
end L2
namespace L2
open PySem PySem.Spec PyProof.Rows PySem.W
abbrev Cx.yg(X:Cx)(e:Addr):Cx:={X with A:=X.A.mark (some (.ref e)),calm:=false,xe:=λ_ _=>False}
section
variable{e CC:Addr}
theorem Inv.yg(I:Inv X U σ H s)(e:Addr):Inv (X.yg e) U σ H s:=
 ⟨⟨I.ok.mod,I.ok.kind,I.ok.glob,I.ok.blt,I.ok.above,I.ok.inj,I.ok.has,I.ok.BE,(λz=>nomatch z),I.ok.frames,I.ok.CN,I.ok.Fy,I.ok.bs,I.ok.xo,I.ok.BF,I.ok.CO,I.ok.se,I.ok.Af⟩,I.os,I.bare,I.base,I.loc,I.cell,I.free,I.qp,I.pin,I.hok,I.len⟩
theorem Inv.uncaught(I:Inv (X.yg e) U σ H s)(ok:X.Ok):Inv X U σ H s:=⟨ok,I.os,I.bare,I.base,I.loc,I.cell,I.free,I.qp,I.pin,I.hok,I.len⟩
structure Gy(K:Frag)(CC:Addr):Prop where
 ty:typeIn K (.ref CC)=some (.type "type")
 tu:subIn K (.type "type") (.type "tuple")=some false
 cl:∃cd,clsIn K CC=some cd
 ex:subIn K (.ref CC) (.type "BaseException")=some true
theorem WM(x:dm P w H s.heap)(a:H e=some (nq C dct e)):∃vs:Array Value,s.heap.get? e=some {cls:=.ref C,dict:=dct,data:=.fields vs}:=(show c_ P w H s.heap e (nq C dct e)from x e _ a).1
theorem wM{o:Obj}(q:h.get? e=some o):Looks M h (typeOf (.ref e)) o.cls:=(Looks.ld q).andThen .now
theorem WO{K:Frag}{b:Bool}{Q:Bool->Shared->Prop}{o:Obj}(X:K.In s.heap)(N:Gy K CC)(d:subIn K (.ref C) (.ref CC)=some b)(c:s.heap.get? e=some o)(a:o.cls=.ref C)(q:Q b s):
  wpAny M A (excMatches (.ref e) (.ref CC)) Q E s:=by
 have f:Looks M s.heap (isInstance (.ref CC) (.type "tuple")) false:=(looks_typeIn X N.ty).andThen (looks_subIn X N.tu);have g:Looks M s.heap (isType (.ref CC)) true:=by
  obtain⟨cd,a⟩:=N.cl;unfold clsIn at a;split at a
  ·rename_i c;cases a;exact(Looks.ld (part:=some headPart) (X _ _ c)).andThen .now
  ·cases a
 have h:Looks M s.heap (isExcClass (.ref CC)) true:=g.andThen (by rw[if_pos rfl];exact looks_subIn X N.ex);have i:Looks M s.heap (typeOf (.ref e)) (.ref C):=by rw[<- a];exact wM c
 unfold excMatches;refine QS (f.here ?_);dsimp only;rw[if_neg (by decide)];refine QS (QT ?_);simp only[QaU,List.forIn_nil];refine QS (QS (QS (h.here ?_)));refine QT (QT (QS (i.here ?_)));refine QS (QS (QS ((looks_subIn X d).here ?_)));cases b with
 |true=>exact QT (QT (QT q))
 |false=>exact QT (QT (QT q))
def PH(X:Cx)(a:List ExceptHandler)(b:Addr->Addr->Option Addr->TS):Prop:=
 ∀(U:List (Addr×Obj))(s:Shared)(σ:St)(H:Hp)(D:Ends)(e C:Addr)(dct:Option Addr),Inv X U σ H s->H e=some (nq C dct e)->ze s.heap e C dct->b e C dct D σ H->wpAny (model X.prog X.w) X.A (handleBy (.ref e) X.env a) (SP X U D) X.xe s
def Nm:Addr->Addr->Option Addr->TS:=λ_ _ _ _ _ _=>False
def Nn(K:Frag)(c:Addr)(j:Nat)(ts:TS)(d:Addr->Addr->Option Addr->TS):Addr->Addr->Option Addr->TS:=λe C dct D σ H=>∃b,subIn K (.ref C) (.ref c)=some b/\
 if b=true then ts {nx:=λa Z=>D.nx (a.set j none) Z,rt:=D.rt,bk:=λa Z=>D.bk (a.set j none) Z,ct:=λa Z=>D.ct (a.set j none) Z} (σ.set j (some (.ref e))) H else d e C dct D σ H
theorem WQ:PH X [] Nm:=λ_ _ _ _ _ _ _ _ _ _ _ h=>h.elim
theorem nZ{Q:Unit->Shared->Prop}(f:ze s.heap e C dct)(h:∀O,(∀b,O.get? b=s.heap.get? b)->Q () {s with heap:=O}):wpAny M A (setFlight (.ref e) none) Q E s:=by
 obtain⟨vs,g1,g2,g3⟩:=f;unfold setFlight;rcases g3 with g|⟨T,i,d,g,m,j,a,k⟩
 ·refine QS (wpAny_field g1 rfl g ?_);rw[if_neg (by decide)];exact QT (h s.heap λ_=>rfl)
 ·refine QS (wpAny_field g1 rfl g ?_);rw[if_pos (show(Value.ref T !=Value.none)=true from by simp)];refine wpAny_setField j a (QaE.mp k).1 (h _ λb=>?_);have c:Obj.mapFields (·.setIfInBounds 3 Value.none) i=i:=by
   obtain⟨oc,od,Gx,jf⟩:=i;have a:Gx=.fields d:=a;subst a;have:d.setIfInBounds 3 Value.none=d:=by
    obtain⟨h4,h5⟩:=QaE.mp k;rw[<- h5,Array.setIfInBounds_def,dif_pos h4];exact Array.set_getElem_self h4
   show Obj.mk oc od (.fields (d.setIfInBounds 3 Value.none)) jf=_;rw[this]
  by_cases z:b=T
  ·subst z;have l:=Qah (Obj.mapFields (·.setIfInBounds 3 Value.none)) j (Obj.isFreed_of_fields (Obj.data_mapFields a _));rw[c]at l;exact l.trans j.symm
  ·exact wQ _ _ (Ne.symm z)
theorem WR{c:Str}{cp Q:Pos}{b0:Stmt}{Ey:List Stmt}{E:List ExceptHandler}{ts:TS}(hg:Gl X c)(hm:X.mg c=some (.ref CC))(N:Gy X.K CC)(hN:X.N.Nodup)(hj:X.N[j]? =some y)(hy:X.env.scope.names.lookup y=some .local)
  (hs:∀e,pe (X.yg e) (b0::Ey) ts) (hr:PH X E th) (hd:Qbo c:=by decide):PH X (.ExceptHandler (some (.Name c cp)) (some y) (b0::Ey) Q::E) (Nn X.K CC j ts th):=by
 intro a s σ H D e C ag I he fl h;obtain⟨b,T,h⟩:=h;have Ic:=I.yg e;refine wpAny_handleBy_cons (codeAny_handlers_test (gE (X:=X.yg e) Ic hg hm ?_ hd)) (by intro q;cases q);obtain⟨vs,ho⟩:=WM I.hok he;refine WO I.fi N T ho rfl ?_;cases b with
 |false=>exact hr a s σ H D e C ag I he fl h
 |true=>
  refine codeAny_handlers_suite_as (nZ fl λO V=>?_);have I2:Inv X a σ H {s with heap:=O}:=I.kept (t':=s.toks) λb o q=>(V b).trans q;refine hZ (v:=.ref e) I2 hN hj (.inl hy) rfl (λs3 I3 _=>?_) (.inr hy);rw[if_pos rfl]at h;refine wpAny_mono (hs e a s3 _ H _ (I3.yg e) h) (λf s4 q4=>?_) λ_ _ z=>z.elim;have t:∀{l:St}{G:Hp}{R:Unit->Shared->Prop},Inv (X.yg e) a l G s4->(∀P,Inv X a (l.set j none) G P->R () P)->wpAny (model X.prog X.w) X.A (do bindName X.env y .none;unbindBehindTheSuite X.env y Q) R X.xe s4:=by
   intro l G R J k;have J:=J.uncaught I.ok;obtain⟨m,hn,hl⟩:=id J.loc;refine wpAny_nameGoes_keeps (by show X.env.scope.names.lookup y=some .local;exact hy) hn (by rw[I.ok.kind];rfl) λh5 v n5 sb=>k _ ?_;have kp:∀b o,b≠X.env.locals->s4.heap.get? b=some o->h5.get? b=some o:=λb o n q=>(sb.2 b n).trans q;have nL:∀{b o},X.s₀.heap.get? b=some o->b≠X.env.locals:=λq=>VD (uQ (Qz q) I.ok.above);have nT:∀{b u},G b=some u->b≠X.env.locals:=λq z=>by rw[z,J.free]at q;cases q
   refine⟨J.ok,J.os,J.bare,⟨λb o e n T hx=>kp b o (nL e) (J.base.keep b o e n T hx),λb o e n T hx=>?_,J.base.free,λb o e hx=>?_,J.base.tups,J.base.mh,J.base.o_⟩,⟨_,n5,λi x v' e1 e2 e3=>?_⟩,λx c q=>?_,J.free,J.qp,λp hp=>?_,λb u q=>?_,by rw[List.length_set];exact J.len⟩
   ·obtain⟨sl,q⟩:=J.base.slot b o e n T hx;exact⟨sl,kp b _ (nL e) q⟩
   ·obtain⟨o',q⟩:=J.base.there b o e hx;exact⟨o',kp b _ (nL e) q⟩
   ·by_cases uu:i=j
    ·subst uu;have cu:i<l.length:=by rw[J.len];exact(kB.mp hj).1
     rw[QaY cu]at e2;cases e2
    ·rw[List.getElem?_set_ne (Ne.symm uu)]at e2;obtain⟨u,r,q⟩:=hl i x v' e1 e2 e3;refine⟨u,r,?_⟩;rcases q with⟨k1,q⟩|⟨k1,c,q,z⟩
     ·have:x≠y:=λz=>uu (pM hN e1 (z▸hj));exact .inl ⟨k1,by simp[this,q]⟩
     ·exact .inr ⟨k1,c,q,z.sameBut sb (J.Ag x c q)⟩
   ·obtain⟨w',z⟩:=J.cell x c q;exact⟨w',z.sameBut sb (J.Ag x c q)⟩
   ·obtain⟨q,n,ne,nf,d⟩:=J.pin p hp;exact⟨kp _ _ ne q,n,ne,nf,d⟩
   ·refine(J.hok b u q).stay (λc w' hc g=>kp c w' ?_ g) (λ_ g=>g) λ_ _ g=>g;rcases hc with rfl|hc
    ·exact nT q
    ·exact nT hc
  cases f with
  |next=>
   obtain⟨l,G,J,q⟩:=q4;exact t J λP L=>⟨_,_,L,q⟩
  |brk=>
   obtain⟨l,G,J,q⟩:=q4;exact t J λP L=>⟨_,_,L,q⟩
  |cont=>
   obtain⟨l,G,J,q⟩:=q4;exact t J λP L=>⟨_,_,L,q⟩
  |ret u=>
   obtain⟨v,l,G,J,rv,q⟩:=q4;exact t J λP L=>⟨v,_,_,L,rv,q⟩
end
theorem WS{f e:Addr}{d d':Option Addr}(h:nq C d e=nq f d' e):C=f/\d=d':=by
 have h1:=HO.ext.inj h
 let c:Heap:={objs:=Array.replicate (e+1) {cls:=.ref C,dict:=d,data:=.fields #[]}}
 have g:c.get? e=some {cls:=.ref C,dict:=d,data:=.fields #[]}:=by
  rw[Heap.get?_some_iff];exact⟨by simp[c],rfl⟩
 have h2:∃i:Array Value,c.get? e=some {cls:=.ref f,dict:=d',data:=.fields i}:=(congrFun h1 c)▸⟨_,g⟩;obtain⟨i,q⟩:=h2;rw[g]at q;injection q with q;injection q with a b;injection a with a;exact⟨a,b⟩
def Bd(P:Program)(w:World)(K:Frag)(mg:Str->Qbb)(base:Heap)(k:Nat)(x:Str)(a:Qa8)(b:Sp):Prop:=
 ∃(f:Addr)(fd:FuncData),mq P w K mg base (nu P w) k f fd a b/\mg x=some (.ref f)/\keepIn K (.ref f)=true/\Binds K fd a []/\∃(c:Value)(od:Option Addr)(d:Array Qbb),K.lookup f=some ⟨c,od,.func fd,d⟩
section
variable{k:Nat}{p epos pos yp:Pos}{h0:ExceptHandler}{hs:List ExceptHandler}
abbrev JE(a:Addr->Addr->Option Addr->TS)(D:Ends)(σ:St):XK:=λb dct H2=>∀e C,b=.ref e->H2 e=some (nq C dct e)->a e C dct D σ H2
theorem WT{Q:VK}{R:Value->Shared->Prop}(F:Bd X.prog X.w X.K X.mg X.base k x ps sp)(y:fb k X.A)(E:Gl X x)(G:PA X.xu (e::Y) ta)(L:PH X (h0::hs) th)(j:X.stack=X.env::X.outer)(N:X.env.frame=some X.env.locals)
  (I:Inv X U σ H s) (h:ta σ H λvs H1=>sp vs H1 Q (JE th D σ)) (k1:∀v u H2 s2,Inv X U σ H2 s2->RelV v u->Q v H2->R u s2)
  (P:Qbo x) (T:Qbl X e Y) (l:Qbm X cpos Y):
  wpAny (model X.prog X.w) X.A (eval (.Call (.Name x p) (e::Y) [] cpos) X.env) R (λg s1=>wpAny (model X.prog X.w) X.A (noteFrame g X.env) (λ_ b=>wpAny (model X.prog X.w) X.A (setFlight g none) (λ_ c=>wpAny (model X.prog X.w) X.A (handleBy g X.env (h0::hs)) (SP X U D) X.xe c) X.xe b) X.xe s1) s:=by
 obtain⟨f,fd,F,hm,hk,hb,_⟩:=F;refine wpAny_Call_Name_kw (gE I E hm ?_ P);have V:Inv X.xu U σ H s:=⟨⟨I.ok.mod,I.ok.kind,I.ok.glob,I.ok.blt,I.ok.above,I.ok.inj,I.ok.has,I.ok.BE,I.ok.hd,I.ok.frames,I.ok.CN,I.ok.Fy,I.ok.bs,I.ok.xo,I.ok.BF,I.ok.CO,I.ok.se,I.ok.Af⟩,I.os,I.bare,I.base,I.loc,I.cell,I.free,I.qp,I.pin,I.hok,I.len⟩
 refine callWith_K (h₀:=X.base) I.ok.mod.CL hk (wpAny_mono (G cpos U s σ H _ V h) (λi s1 q=>?_) λ_ _ z=>z.elim) T l;obtain⟨vs,H1,a,r,q⟩:=q;have a:Inv X U σ H1 s1:=⟨I.ok,a.os,a.bare,a.base,a.loc,a.cell,a.free,a.qp,a.pin,a.hok,a.len⟩
 refine⟨a.fi,?_⟩;have hl:i.length=ps.length:=by rw[<- r.length];exact F.len _ _ _ _ q
 refine wpAny_call (codeAny_mono (F.run X.A X.stack s1 H1 ⟨i,[]⟩ i vs Q (JE th D σ) y a.FQ (by have:=hb s1 i a.fi (by simpa using hl);simpa using this) r q) λr s' d=>?_);cases r with
 |error g=>exact yg a j N d λe C m Z s2 ee n t q' o=>by subst ee;exact L U s2 σ Z D e C m n t o (q' e C rfl t)
 |ok o=>
  cases o with
  |ret u=>
   obtain⟨v,H2,n,rv,q2⟩:=a.after d;exact k1 v u H2 s' n rv q2
  |next=>exact d.elim
  |brk=>exact d.elim
  |cont=>exact d.elim
def Np(i:Nat)(a:Sp)(b:TA)(c:Addr->Addr->Option Addr->TS):TS:=λD σ H=>b σ H λvs H1=>a vs H1 (λv H2=>D.nx (σ.set i (some v)) H2) (JE c D σ)
theorem WU(F:Bd X.prog X.w X.K X.mg X.base k x ps sp)(g:fb k X.A)(j:Gl X x)(l:PA X.xu (e::Y) ta)(m:PH X (h0::hs) th)(a:X.stack=X.env::X.outer)(n:X.env.frame=some X.env.locals)
  (o:X.N.Nodup) (r:X.N[i]? =some y) (d:X.env.scope.names.lookup y=some .local)
  (t:Qbo x:=by decide) (z:Qbl X e Y:=by rfl) (b:Qbm X cpos Y:=by rfl)
  (C:swapsWith (.Call (.Name x p) (e::Y) [] cpos) (some (.Name y yp)) epos.line X.env=pure false:=by rfl):PS X (.Try [.Assign [.Name y yp] (.Call (.Name x p) (e::Y) [] cpos) epos] (h0::hs) [] [] pos) (Np i sp ta th):=by
 intro f s E H D I h;refine wpAny_Try_except (wpAny_execs_cons (wpAny_Assign_Name (WT (Q:=λv c=>D.nx (E.set i (some v)) c) F g j l m a n I h (λv u c R G L q=>?_) t z b) C));exact hZ G o r (.inl d) L (λT P _=>wpAny_execs_nil (wpAny_execs_nil ⟨_,c,P,q⟩)) (.inr d)
end
end L2
namespace L2
open PySem PySem.Spec PySem.W PyProof.Rows
theorem WV{p q:Program}{Xt:Shared->Bool}{Yf:Shared->α}{Ya:World->α}{N:Nat}{b:Bool}(a:String)
  (c:∀w:World,(openEnds treeTable p (w.withFollow a false) N).map (λs=>(openSeen q loose (importedModules p.main.body) Xt b s,Yf s))=some (openGood q loose,Ya (w.withFollow a false)))
  (d:∀w:World,(openEnds treeTable p (w.withFollow a true) N).map (λs=>(openSeen q loose (importedModules p.main.body) Xt b s,Yf s))=some (openGood q loose,Ya (w.withFollow a true))):LeftO p q loose Xt Yf Ya N b:=λw=>by
 have e:=World.withFollow_self w a;cases hb:w.params.followText a<;>rw[hb]at e
 ·have:=c w;rw[e]at this;exact this
 ·have:=d w;rw[e]at this;exact this
section
variable{K:Frag}
theorem jA{v:Value}{x:V}(e:Ah v=some x):RelV x v:=by
 cases v<;>first|(cases e;first|rfl|exact⟨_,rfl⟩)|cases e
theorem rB:∀{us:Qa9}{B:Qbi},GD us=GF B->bu B us
 | [],[],_=>.nil
 | [],_::_,e=>by cases e
 |_::_,[],e=>by cases e
 |u::us,x::B,e=>by
  have a:=Qaj (show Ah u::GD us=some x::GF B from e);exact .cons (jA a.1) (rB a.2)
theorem yI{q:Str}{st:Stmt}{v:Option Qbb}(e:fnAt K q v=some (Ce x q st)):∃f fd,v=some (some (.ref f))/\A7 K x q st f fd:=by
 unfold fnAt at e;split at e
 ·rename_i f
  split at e
  ·rename_i c d fd g a
   have e:=QD e;unfold Ce at e;obtain⟨n,qn,ps,b,sc,gl,cl,df,kd,doc,pm,an,cd,ct,bt⟩:=fd;simp only[Prod.mk.injEq]at e;obtain⟨rfl,rfl,rfl,rfl,rfl,rfl,rfl,rfl,rfl,hc⟩:=e;refine⟨f,_,rfl,TL a hc ?_⟩;unfold keepIn;simp only[a]
  ·cases e
 ·cases e
theorem yJ:∀{l:List (Str×Stmt)},Ay K l=Az l->∀(i:Nat){x:Str}{st:Stmt},l[i]? =some (x,st)->fnAt K x (nsIn K mainGlobals x)=some (Ce x x st)
 |y::l,e,0,x,st,h=>by cases h;exact(Qaj e).1
 |y::l,e,i+1,x,st,h=>yJ (Qaj e).2 i (by simpa using h)
theorem pE(X:K.In h)(G:h.Ns mainGlobals mg){l:List (Str×Stmt)}(e:Ay K l=Az l)(i:Nat){st:Stmt}(b:l[i]? =some (x,st))
  (c:∀(kV a d:Value)(g:Option Addr)(j ct:Value)(us:Qa9),us.length=ps.length->bindArgs (fnOf x x (qx st) (kc st) (bz st) .none kV a d g j ct) ⟨us,[]⟩=pure (ps.zip us)):cz K mg x st ps:=by
 obtain⟨f,fd,e1,F⟩:=yI (yJ e i b);exact⟨f,fd,F,mg_of X G e1,F.binds c⟩
variable{st:Stmt}{l:List (Str×Stmt)}{p0 p1 p2 p3 p4 p5 p6:Str}
theorem WY(X:K.In h)(G:h.Ns mainGlobals mg)(e:Ay K l=Az l)(i:Nat)(k:l[i]? =some (x,st):=by rfl)
  (m:∀(kV j n:Value)(o:Option Addr)(p ct:Value),bindArgs (fnOf x x (qx st) (kc st) (bz st) .none kV j n o p ct) ⟨[],[]⟩=pure []:=by intros;rfl):cz K mg x st []:=
 pE X G e i k λa b c d f g r q=>by obtain rfl:=QR q;exact m ..
theorem ux(h:us.length=n+1):∃a t,us=a::t/\t.length=n:=by
 cases us with
 |nil=>cases h
 |cons a t=>exact⟨a,t,rfl,by simpa using h⟩
theorem nv(X:K.In h)(G:h.Ns mainGlobals mg)(e:Ay K l=Az l)(i:Nat)(m:l[i]? =some (x,st):=by rfl)
  (o:∀(kV j p:Value)(q:Option Addr)(r ct k:Value),bindArgs (fnOf x x (qx st) (kc st) (bz st) .none kV j p q r ct) ⟨[k],[]⟩=pure [(p0,k)]:=by intros;rfl):cz K mg x st [p0]:=
 pE X G e i m λa b c d f g t s=>by
  obtain⟨k,AA,rfl,qf⟩:=ux (n:=0) s;obtain rfl:=QR qf;exact o ..
theorem n_(X:K.In h)(G:h.Ns mainGlobals mg)(e:Ay K l=Az l)(i:Nat)(o:l[i]? =some (x,st):=by rfl)
  (p:∀(kV j q:Value)(r:Option Addr)(s ct k m:Value),bindArgs (fnOf x x (qx st) (kc st) (bz st) .none kV j q r s ct) ⟨[k,m],[]⟩=pure [(p0,k),(p1,m)]:=by intros;rfl):cz K mg x st [p0,p1]:=
 pE X G e i o λa b c d f g u t=>by
  obtain⟨k,AA,rfl,qf⟩:=ux (n:=1) t;obtain⟨m,JH,rfl,f_⟩:=ux (n:=0) qf;obtain rfl:=QR f_;exact p ..
theorem Dd(X:K.In h)(G:h.Ns mainGlobals mg)(e:Ay K l=Az l)(i:Nat)(p:l[i]? =some (x,st):=by rfl)
  (q:∀(kV j r:Value)(s:Option Addr)(t ct k m o:Value),bindArgs (fnOf x x (qx st) (kc st) (bz st) .none kV j r s t ct) ⟨[k,m,o],[]⟩=pure [(p0,k),(p1,m),(p2,o)]:=by intros;rfl):cz K mg x st [p0,p1,p2]:=
 pE X G e i p λa b c d f g w u=>by
  obtain⟨k,AA,rfl,qf⟩:=ux (n:=2) u;obtain⟨m,JH,rfl,f_⟩:=ux (n:=1) qf;obtain⟨o,WZ,rfl,iz⟩:=ux (n:=0) f_;obtain rfl:=QR iz;exact q ..
theorem JI(X:K.In h)(G:h.Ns mainGlobals mg)(e:Ay K l=Az l)(i:Nat)(r:l[i]? =some (x,st):=by rfl)
  (s:∀(kV j t:Value)(u:Option Addr)(w ct k m o p q:Value),bindArgs (fnOf x x (qx st) (kc st) (bz st) .none kV j t u w ct) ⟨[k,m,o,p,q],[]⟩=pure [(p0,k),(p1,m),(p2,o),(p3,p),(p4,q)]:=by intros;rfl):cz K mg x st [p0,p1,p2,p3,p4]:=
 pE X G e i r λa b c d f g z y=>by
  obtain⟨k,AA,rfl,qf⟩:=ux (n:=4) y;obtain⟨m,JH,rfl,f_⟩:=ux (n:=3) qf;obtain⟨o,WZ,rfl,iz⟩:=ux (n:=2) f_;obtain⟨p,us3,rfl,Nt⟩:=ux (n:=1) iz;obtain⟨q,us4,rfl,EA⟩:=ux (n:=0) Nt;obtain rfl:=QR EA;exact s ..
theorem W0(X:K.In h)(G:h.Ns mainGlobals mg){v:V}(e:Gz K x=some v):∃u,mg x=some u/\RelV v u:=by
 unfold Gz at e;split at e
 ·rename_i u a;exact⟨u,mg_of X G a,jA e⟩
 ·cases e
theorem uF:∀{l:Qbg},GA K l=GC l->∀(i:Nat){x:Str}{v:V},l[i]? =some (x,v)->Gz K x=some v
 |y::l,e,0,x,st,h=>by cases h;exact(Qaj e).1
 |y::l,e,i+1,x,st,h=>uF (Qaj e).2 i (by simpa using h)
theorem vl(X:K.In h)(G:h.Ns mainGlobals mg){l:Qbg}(e:GA K l=GC l)(i:Nat){v:V}(a:l[i]? =some (x,v):=by rfl):∃u,mg x=some u/\RelV v u:=W0 X G (uF e i a)
theorem W_{v:Value}{B:Qbi}(e:Ez K v=some (C_ B)):∃(a:Addr)(b:Array Value)(n:Nat)(f:Array Qbb),v=.ref a/\K.lookup a=some ⟨.type "tuple",none,.seq b n,f⟩/\bu B b.toList:=by
 unfold Ez at e;split at e
 ·rename_i a
  split at e
  ·rename_i c d b n g h
   have e:=QD e;unfold C_ at e;simp only[Prod.mk.injEq]at e;obtain⟨rfl,rfl,e3⟩:=e;exact⟨a,b,n,g,rfl,h,rB e3⟩
  ·cases e
 ·cases e
theorem Xa{b:Array Value}{d:Option Addr}{c:Array Qbb}{B:Qbi}(e:K.lookup a=some ⟨.type "tuple",d,.seq b n,c⟩)(hv:bu B b.toList)(f:B.length<=sizeLine)(H:Hp):ae K H a B:=
 .inr ⟨_,b,n,e,rfl,rfl,by have:=hv.length;simp at this;lia,hv⟩
theorem w9:∀{l:Qa8},Dc K l=true->∀(i:Nat){x:Str},l[i]? =some x->nsIn K mainGlobals x=some none
 |y::l,e,0,x,h=>by
  cases h;unfold Dc at e;rw[Qaw]at e;have e:=e.1;split at e
  ·assumption
  ·cases e
 |y::l,e,i+1,x,h=>by
  unfold Dc at e;rw[Qaw]at e;exact w9 e.2 i (by simpa using h)
theorem nn(X:K.In h)(G:h.Ns mainGlobals mg){l:Qa8}(e:Dc K l=true)(i:Nat)(a:l[i]? =some x:=by rfl):mg x=none:=mg_none_of X G (w9 e i a)
end
def Bf(K:Frag):List ud->Qbi->Prop
 | [],[]=>True
 |(_,.inl v)::l,u::us=>u=v/\Bf K l us
 |(_,.inr B)::l,u::us=>(∃a,u=.ref a/\∀H,ae K H a B)/\Bf K l us
 |_,_=>False
def JL:List ud->Qbi->Qbf
 |e::l,u::us=>(.inr e.1,u)::JL l us
 |_,_=>[]
def ED:List ud->Bool
 | []=>true
 |(_,.inl _)::l=>ED l
 |(_,.inr B)::l=>decide (B.length<=1000)&&ED l
section
variable{K:Frag}
theorem lX:∀{l:List ud},ED l=true->∀e∈l,∀B,e.2=.inr B->B.length<=sizeLine
 |(_,.inl _)::l,h,e,he,B,hx=>by
  rcases Qp.mp he with rfl|he
  ·cases hx
  ·exact lX (l:=l) h e he B hx
 |(_,.inr ys)::l,h,e,he,B,hx=>by
  unfold ED at h;rw[Qaw,decide_eq_true_iff]at h;rcases Qp.mp he with rfl|he
  ·cases hx;exact Qaa h.1 (by decide)
  ·exact lX (l:=l) h.2 e he B hx
theorem uN{k:Str}{B:Qbi}{l:List ud}{us:Qbi}(e:Bf K ((k,.inr B)::l) us):∃a vs,us=.ref a::vs/\(∀H,ae K H a B)/\Bf K l vs:=by
 cases us with
 |nil=>exact False.elim e
 |cons u vs=>obtain⟨⟨a,rfl,q⟩,r⟩:=(show(∃a,u=.ref a/\∀H,ae K H a B)/\Bf K l vs from e);exact⟨a,vs,rfl,q,r⟩
theorem Xb{us:Qbi}(e:Bf K [] us):us=[]:=by
 cases us with
 |nil=>rfl
 |cons u vs=>exact False.elim e
theorem tM:∀{l:List ud}{b:List DictEntry},EC K b=Df w l->(∀e∈l,∀B,e.2=.inr B->B.length<=sizeLine)->∃(us:Qbi)(c:List (Key×Value)),Bf K l us/\(∀P,Pairs (ir P w) b c)/\(∀P,∀e∈b,∃k,(ir P w).is k e.key=true/\e.hash=(ir P w).hash k)/\KV (JL l us) c/\c.map (·.1)=l.map (λe=>.inr e.1)
 | [],[],_,_=>⟨[],[],trivial,λ_=>.nil,(λ_ _ h=>nomatch h),.nil,rfl⟩
 | [],_::_,e,_=>by cases e
 |(_,.inl _)::_,[],e,_=>by cases e
 |(_,.inr _)::_,[],e,_=>by cases e
 |(k,.inl v)::l,d::b,e,hz=>by
  have f:=Qaj (show(d.hash,Ah d.key,EB K d.val)::EC K b=(DR w (.inr k),some (.str k),.v (some v))::Df w l from e);obtain⟨us,c,h1,h2,h3,h4,h5⟩:=tM f.2 λx j=>hz x (Qh _ j);have g:=f.1;simp only[Prod.mk.injEq]at g;obtain⟨q1,q2,q3⟩:=g;obtain⟨t,q2⟩:=jA q2;have m:RelV v d.val:=by
   unfold EB at q3;split at q3
   ·cases q3
   ·exact jA (De.v.inj q3)
  have i:∀P,(ir P w).is (.inr k) d.key=true:=λP=>by rw[q2];exact jS P w k t
  refine⟨v::us,(.inr k,d.val)::c,⟨rfl,h1⟩,λP=>.cons (kv:=((Sum.inr k,d.val):Key×Value)) (i P) rfl (h2 P),λP y hy=>?_,.cons ⟨rfl,m⟩ h4,by simp[h5]⟩;rcases Qp.mp hy with rfl|hy
  ·exact⟨.inr k,i P,q1⟩
  ·exact h3 P y hy
 |(k,.inr B)::l,d::b,e,hz=>by
  have f:=Qaj (show(d.hash,Ah d.key,EB K d.val)::EC K b=(DR w (.inr k),some (.str k),.t (some (C_ B)))::Df w l from e);obtain⟨us,c,h1,h2,h3,h4,h5⟩:=tM f.2 λx j=>hz x (Qh _ j);have g:=f.1;simp only[Prod.mk.injEq]at g;obtain⟨q1,q2,q3⟩:=g;obtain⟨t,q2⟩:=jA q2;have m:Ez K d.val=some (C_ B):=by
   unfold EB at q3;split at q3
   ·exact De.t.inj q3
   ·cases q3
  obtain⟨a,it,n,sq,q5,q6,q7⟩:=W_ m;have i:∀P,(ir P w).is (.inr k) d.key=true:=λP=>by rw[q2];exact jS P w k t
  refine⟨.ref a::us,(.inr k,d.val)::c,⟨⟨a,rfl,Xa q6 q7 (hz _ (jP ..) B rfl)⟩,h1⟩,λP=>.cons (kv:=((Sum.inr k,d.val):Key×Value)) (i P) rfl (h2 P),λP y hy=>?_,.cons ⟨rfl,by rw[q5];rfl⟩ h4,by simp[h5]⟩;rcases Qp.mp hy with rfl|hy
  ·exact⟨.inr k,i P,q1⟩
  ·exact h3 P y hy
theorem Xc{l:List ud}(X:K.In h)(G:h.Ns mainGlobals mg)(e:GH K x=some (GI w l))(f:ED l=true)(g:(l.map (·.1)).Nodup):∃(a:Addr)(us:Qbi),mg x=some (.ref a)/\Bf K l us/\KD w K a (JL l us):=by
 have i:=lX f;unfold GH at e;split at e
 ·rename_i a j
  split at e
  ·rename_i c d k m p n
   have e:=QD e;unfold GI at e;simp only[Prod.mk.injEq]at e;obtain⟨rfl,rfl,e3,e4,e5⟩:=e;obtain⟨us,vs,h1,h2,h3,h4,h5⟩:=tM e5 i;refine⟨a,us,mg_of X G j,h1,λP=>⟨_,k,m,vs,n,e4,⟨rfl,rfl,Array.eq_empty_of_size_eq_zero e3⟩,rfl,λy o=>h3 P y (by simpa using o),h2 P,?_,h4⟩⟩;rw[h5];have:l.map (λe=>(Sum.inr e.1:Key))=(l.map (·.1)).map Sum.inr:=by simp
   rw[this];exact List.Pairwise.map _ (λa b q c=>q (Sum.inr.inj c)) g
  ·cases e
 ·cases e
theorem uE:∀{l:List (Str×List ud)},JJ K l=JK w l->∀(i:Nat){x:Str}{v:List ud},l[i]? =some (x,v)->GH K x=some (GI w v)
 |y::l,e,0,x,st,h=>by cases h;exact(Qaj e).1
 |y::l,e,i+1,x,st,h=>uE (Qaj e).2 i (by simpa using h)
end
theorem Xf {l:OpenLaw} {k:Nat} {q:Program} {d:DefRec} {look:Frag->α} {want:World->α}
  (C:l.most=some n) (i:n<=sizeLine) (D:d.params.defaults=[]) (E:fb k callerA)
  (F:∀ (w:World) (mg:Str->Qbb) (c:Addr) (h:Heap) (K:Frag),K.In h->look K=want w->h.Ns mainGlobals mg->mg d.name=some (.ref c)->
   ∃ (ts:List (Addr×Obj×Qbi)) (j:FuncData) (m:Sp),(∀ t∈ts,M0 K t)/\(ts.map (·.1)).Nodup/\(∀ (s:Shared) (u:Value),BindsTo s j ⟨[u],[]⟩ [(x,u)])/\
    (∀ base:Heap,(without K (ts.map (·.1))).In base->base.Ns mainGlobals mg->mq l.prog w (without K (ts.map (·.1))) mg base za k c j [x] m)/\
    (∀ (H:Hp) (a:Addr) (e:List Int),e.length<=n->(∀ t∈ts,H t.1=some (.iy t.2.1 (.tup t.2.2)))->ak (without K (ts.map (·.1))) H a (e.map V.int)->m [.ref a] H (λv _=>v=.bl true) λ_ _ _=>False)):
  WalkO q loose XP (wq look want).says l.row.toRowW d [] (λf vs=>PySem.call f vs):=by
 refine Ms.vV C D λw p r mg mb c o pm cd I a vs e G Y ho hd mj L N P y Q=>?_
 obtain ⟨K,A,R⟩:=Y
 obtain ⟨ts,j,m,Au,nd,hb,hF,y_⟩:=F w mg c _ K A R G.T.g L
 exact zX Au nd A G.T.g G.T.b G.T.builtins G.T.nolimit Q N P (Qaa y i) E hF hb (λH _ ht hS=>y_ H a e y ht hS) λ_ _ _ z=>z
theorem xQ{l:OpenLaw}{k:Nat}{q:Program}{d:DefRec}{look:Frag->α}{want:World->α}{st:Stmt}
  (y:l.most=some 63) (z:d.params.defaults=[]) (A:fb k callerA) (C:d.name="law")
  (D:∀(kV c g:Value)(i:Option Addr)(j ct r:Value),bindArgs (fnOf "law" "law" (qx st) (kc st) (bz st) .none kV c g i j ct) ⟨[r],[]⟩=pure [(("script":Str),r)])
  (F:∀(w:World)(mg:Str->Qbb)(h:Heap)(K:Frag),K.In h->look K=want w->h.Ns mainGlobals mg->cz (without K []) mg "law" st ["script"]/\∀base:Heap,aq l.prog w (without K []) mg base k "law" ["script"] (Jg (without K []))):
  WalkO q loose XP (wq look want).says l.row.toRowW d [] (λf vs=>PySem.call f vs):=
 Xf (n:=63) (k:=k) (x:="script") y (by decide) z A λw mg P h K E o G p=>by
  obtain⟨⟨f,fd,Fu,m,b⟩,hF⟩:=F w mg h K E o G;rw[C]at p;rw[m]at p;cases p;refine⟨[],fd,Jg (without K []),(λt I=>nomatch I),.nil,λs u=>?_,λbase Q R=>?_,λH a L o _ N=>⟨a,L,rfl,N,o,λ_=>rfl⟩⟩
  ·obtain⟨oc,od,kV,c,g,i,j,ct,jf,rfl,lk,mj⟩:=Fu.ex;exact .of_eq (D ..)
  ·obtain⟨f',Xh,G',m',k',b',oc',od',abX,Nv⟩:=hF base;rw[m]at m';cases m';have e:fd=Xh:=by
    obtain⟨oc,od,kV,c,g,i,j,ct,jf,e1,lk,mj⟩:=Fu.ex;rw[lk]at Nv;have:=QD Nv;injection this with _ _ h3 _;injection h3
   rw[e];exact G'
section
variable{K:Frag}
theorem nG:∀{C:Addr}{l:Qa8},GJ K C l=true->∀f∈l,LZ K C f
 |C,f::l,e,g,hg=>by
  unfold GJ at e;rw[Qaw]at e;rcases Qp.mp hg with rfl|hg
  ·have a:=e.1;split at a
   ·assumption
   ·cases a
  ·exact nG e.2 g hg
end
section
variable{H1:Hp}{fs ex:Qba}
theorem c_.there(x:c_ P w H h a o):∃ob,h.get? a=some ob:=by
 cases o with
 |lst B=>obtain⟨_,_,_,_,e⟩:=x;exact⟨_,e⟩
 |tup B=>obtain⟨_,_,_,o,e,_⟩:=x;exact⟨_,e⟩
 |dK kvs=>obtain⟨_,_,_,_,o,_,_,e,_⟩:=x;exact⟨_,e⟩
 |dT kvs=>obtain⟨_,_,_,_,o,_,_,e,_⟩:=x;exact⟨_,e⟩
 |set S n=>obtain⟨o,_,_,_,e,_⟩:=x;exact⟨_,e⟩
 |ins C dx fs=>obtain⟨_,_,_,e,_⟩:=x;exact⟨_,e⟩
 |own y=>exact x
 |xd fs=>obtain⟨_,⟨_,_,_,e,_⟩,_⟩:=x;exact⟨_,e⟩
 |Fx lo hi=>obtain⟨_,_,_,e⟩:=x;exact⟨_,e⟩
 |iy ob u=>obtain⟨e,_⟩:=x;exact⟨_,e⟩
 |AX ps=>exact⟨_,x⟩
 |met f y=>exact⟨_,x⟩
 |ext φ=>exact x.2.1
theorem dm.free(x:dm P w H h)(e:h.get? a=none):H a=none:=by
 cases q:H a with
 |none=>rfl
 |some u=>obtain⟨ob,z⟩:=(x a u q).there;rw[e]at z;cases z
theorem dm.more(x:dm P w H h)(k:∀b u,h.get? b=some u->O.get? b=some u)(f:H a=none)(d:c_ P w (upd H a o) O a o):dm P w (upd H a o) O:=λb u e=>by
 by_cases hb:b=a
 ·subst hb;rw[aB]at e;cases e;exact d
 ·rw[aS hb]at e;exact(x b u e).stay (λc v _ q=>k c v q) (λc q=>by rw[aS (aY q f)];exact q) λc i q=>q.upd λu g=>aY g f
theorem Un.more(u:Un fs ex H H1 h O)(e:h.get? a=none)(hn:H1 a=none):Un fs ex H (upd H1 a o) h O where
 keep:=u.keep
 slot:=u.slot
 free:=λb ob q n hx=>by rw[aS λz=>by rw[z,e]at q;cases q];exact u.free b ob q n hx
 there:=u.there
 tups:=λb B q=>by have:=u.tups b B q;rw[aS (aY this hn)];exact this
 mh:=λb ob B q=>by have:=u.mh b ob B q;rw[aS (aY this hn)];exact this
 o_:=λb ps q=>by obtain⟨m,this⟩:=u.o_ b ps q;exact⟨m,by rw[aS (aY this hn)];exact this⟩
end
section
variable{K:Frag}{N:Addr}{own:Qba}{lq:Qbb}
theorem uU(X:K.In h)(e:EE K N=some lq):h.Ns N (h.nsMap N)/\h.nsMap N "__init__"=lq:=by
 unfold EE at e;split at e
 ·rename_i c d b f i lk
  split at e
  ·rename_i a
   have g:=X _ _ lk;refine⟨.of_isNs ?_,?_⟩
   ·unfold Heap.isNs;rw[g];exact a
   ·unfold Heap.nsMap;rw[g];exact QD e
  ·cases e
 ·cases e
theorem sM(X:K.In h):∀{own:Qba},EF K own=true->OwnTail h Gv (wo own)
 | [],_=>.base
 |A::l,e=>by
  unfold EF at e;rw[Qaw]at e;obtain⟨e1,e2⟩:=e;split at e1
  ·rename_i c d a b lk
   obtain⟨n1,n2⟩:=uU X (beq_iff_eq.mp e1);exact .own (X _ _ lk) n1 n2 (sM X e2)
  ·cases e1
theorem lH(e:wu K C own lq=true):∃nm q N bs sn sub ab col dd k0 k1 k2 k3 k5,K.lookup C=some (excClassObj nm q C N bs (wo own) true sn sub ab col dd k0 k1 k2 k3 k5 "ValueError.__new__")/\EE K N=some lq/\EF K own=true/\keepIn K (.ref C)=true:=by
 unfold wu at e;split at e
 ·rename_i c d a b lk
  obtain⟨nm,bs,mro,N,q,hdct,sn,sub,ab,col,abY⟩:=a;simp only[Qai,beq_iff_eq,Bool.not_eq_true']at e;obtain⟨rfl,rfl,rfl,rfl,hsz,IV,hn,hu,hk⟩:=e;obtain⟨l⟩:=b;obtain⟨k0,k1,k2,k3,k5,rfl⟩:=six_places (l:=l) (by simpa using hsz) (by simpa using IV);exact⟨nm,q,N,bs,sn,sub,ab,col,d,k0,k1,k2,k3,k5,lk,hn,hu,hk⟩
 ·cases e
theorem mQ(e:wu K C own lq=true):∃cd,clsIn K C=some cd/\cd.mro=wo (C::own)/\cd.hasDict=true:=by
 obtain⟨nm,q,N,bs,sn,sub,ab,col,dd,k0,k1,k2,k3,k5,lk,_⟩:=lH e;exact⟨_,by unfold clsIn;rw[lk],rfl,rfl⟩
theorem qA(e:wu K C own lq=true){v:Value}(h:v∈Gv):subIn K (.ref C) v=some true:=by
 obtain⟨cd,h1,h2,_⟩:=mQ e;show mroIn K C v=_;unfold mroIn;rw[h1,Qao,h2,if_neg (by simp[wo]),jM h]
theorem Xi(e:wu K C own lq=true):Gy K C:=by
 obtain⟨cd,h1,_⟩:=mQ e;obtain⟨nm,q,N,bs,sn,sub,ab,col,dd,k0,k1,k2,k3,k5,lk,_⟩:=lH e;exact⟨by show(K.lookup C).map _=_;rw[lk];rfl,by show(fastBuiltinMro "type").map _=_;decide+kernel,⟨cd,h1⟩,qA e (by decide)⟩
end
section
variable{K:Frag}{e:Addr}{ox:Obj}{od:Option Obj}{expr:Bool}
theorem Xj{v:Value}(X:K.In s.heap)(I:InstAt s.heap e ox C od)(b:findIn K (.ref C) "__getattribute__"=some (some (.builtin "BaseException.__getattribute__")))(c:findIn K (.ref C) "__getattr__"=some none)
  (sub:subIn K (.ref C) (.type "BaseException")=some true) (d:findObj K C od name=some (.value v)) (f:handedIn v=true) (h:Q v {s with toks:=s.toks+1}):wpAny (model P w) A (getAttr (.ref e) name expr) Q E s:=by
 have a:Looks (model P w) s.heap (typeOf (.ref e)) (.ref C):=I.type;refine QS (wpAny_mkText (wpAny_holding (QS (a _ _ _ _ (λ_ _ e=>e) (QS (looks_findIn X b _ _ _ _ (λ_ _ e=>e) ?_))))));dsimp only;rw[show(onTheHeap (.ref C)&&Value.builtin "BaseException.__getattribute__"==Value.builtin "object.__getattribute__")=false from by rw[show(Value.builtin "BaseException.__getattribute__"==Value.builtin "object.__getattribute__")=false from by decide+kernel,Bool.and_false],if_neg (by decide)];have g:Looks (model P w) s.heap (hookBefore (.ref C)) none:=by
  unfold hookBefore;rw[if_pos (by rfl)];exact looks_findIn X c
 refine QS (g _ _ _ _ (λ_ _ e=>e) (QS (wpAny_attempt (wpAny_holding ?_))));unfold callGetattribute;rw[show(expr&&onTheHeap (Value.builtin "BaseException.__getattribute__"))=false from Bool.and_false _,if_neg (by decide)];unfold boundAndCalled;rw[PySem.F.attr_ValueError.ga.bind];refine QS (QT ?_);show wpAny _ _ (call (.builtin "BaseException.__getattribute__") [.ref e,.str name s.toks]) _ _ _;refine wpAny_call ?_;refine codeAny_call_builtin PySem.F.attr_ValueError.ga.plain PySem.F.entry_bexc_ga ?_;refine @check_slot (model P w) _ _ {s with toks:=s.toks+1} "BaseException.__getattribute__" "BaseException" "__getattribute__" (.ref e) [.str name s.toks] [] _ (by decide+kernel) (by decide+kernel) (a.andThen (looks_subIn X sub)) (PySem.F.args_bexc_ga (.ref e) (.str name s.toks)) ?_;have i:=looks_find (M:=model P w) X I d;unfold Builtin.«object.__getattribute__»;refine QS (QT (QS (QT (QS (a _ _ _ _ (λ_ _ e=>e) (QS (i _ _ _ _ (λ_ _ e=>e) ?_)))))));refine QT ?_;show wpAny _ _ (handedOut v) _ _ _;rw[handedOut_of f];exact QT h
end
def JM(C:Addr)(a:Sp)(b:TA)(E:XK):TS:=λ_ σ H=>b σ H λvs H1=>vs.length<=1000/\∀e,H1 e=none->a (.ref e::vs) (upd H1 e (ku C none e)) (λv H2=>v=.ao/\∃dct,H2 e=some (ku C dct e)/\E (.ref e) dct (upd H2 e (nq C dct e))) E0
section
variable{K:Frag}{f:Addr}{cd:Value}{s0:Shared}{E:XK}{own:Qba}{np pos:Pos}{e1:Expr}
theorem Inv.Xk{e:Addr}(I:Inv X U σ H s)(m:Heap.MadeExcOf s.heap O e (.ref C) us):H e=none/\Inv X U σ (upd H e (ku C none e)) {s with heap:=O}:=by
 have a:=I.hok.free m.new;obtain⟨t,ht,_,_⟩:=m.there;exact⟨a,I.un (t':=s.toks) (Un.more (Un.kept m.keeps) m.new a) (I.hok.more m.keeps a (x6 ⟨t,ht⟩))⟩
theorem zR{k:Nat}{c:Addr}(z:wu K C own (some (.ref c))=true)(G:isFn K (.ref c)=true)(F:mq P w K mg base za k c fd ps sp)(L:Binds K fd ps [])(Q:fb (k+1) (A.deeper (envOfC qual scope s0.heap.objs.size f cd)))(R:mg x=some (.ref C))(hg:Gl (jl (nu P w) P w K mg base N qual scope f cd A outer s0 H0 E) x)(ha:PA (jl (nu P w) P w K mg base N qual scope f cd A outer s0 H0 E) (e1::Y) ta)
  (fg:Qbo x:=by decide) (he:starEach (e1::Y) (envOfC qual scope s0.heap.objs.size f cd)=(false,eval e1 (envOfC qual scope s0.heap.objs.size f cd))::starEach Y (envOfC qual scope s0.heap.objs.size f cd):=by rfl)
  (l:(backTo cpos (starEach Y (envOfC qual scope s0.heap.objs.size f cd))).any (·.1)=false:=by rfl):PS (jl (nu P w) P w K mg base N qual scope f cd A outer s0 H0 E) (.Raise (some (.Call (.Name x np) (e1::Y) [] cpos)) none pos) (JM C sp ta E):=by
 intro i s σ H D I h;obtain⟨nm,q,N',bs,sn,sub,ab,col,dd,k0,k1,k2,k3,k5,lk,hn,hu,hk⟩:=lH z;rw[arm_exec_Raise];refine QS (wpAny_standAt (Wu (C:=C) (nm:=nm) (q:=q) (N:=N') (bs:=bs) (bm:=wo own) (hdct:=true) (sn:=sn) (sub:=sub) (ab:=ab) (col:=col) (dd:=dd) (k0:=k0) (k1:=k1) (k2:=k2) (k3:=k3) (k5:=k5) (newId:="ValueError.__new__") (jM (by decide) _) (I.ok.hd rfl) (QS (bh (t:=eval (.Call (.Name x np) (e1::Y) [] cpos) _) ?_ λv s3 h3=>QS (wpAny_standAt (QT h3))))));refine wpAny_Call_Name_kw (gE I hg R ?_ fg);refine callWith_K (h₀:=base) I.ok.mod.CL hk (bh (ha cpos i s σ H _ I h) ?_) he l;rintro a s1 ⟨vs,H1,b,r,hl,qe⟩;refine⟨b.fi,?_⟩;obtain⟨n1,n2⟩:=uU b.fi hn;have T:=sM b.fi hu;have hC:=b.fi _ _ lk;have n:=PySem.F.excBase_ValueError;obtain⟨oI,Xl,Xm⟩:∃o,K.lookup c=some o/\o.cls=.type "function":=by
  have e:=beq_iff_eq.mp G;exact Option.map_eq_some_iff.mp (show(K.lookup c).map (·.cls)=some (.type "function")from e)
 obtain⟨hp,g,d,tk,os⟩:=s1;refine Wt n n.hasB n T hC n1 n2 (b.fi _ _ Xl) Xm (by show a.length<=_;rw[<- r.length,QL];lia) λO e m=>?_;obtain⟨iq,I2⟩:=b.Xk m;have q:=qe e iq;have p:bu (V.ref e::vs) (Value.ref e::a):=.cons rfl r;have iz:(Value.ref e::a).length=ps.length:=by rw[<- p.length];exact F.len _ _ _ _ q
 refine wpAny_call (codeAny_mono (F.run _ _ _ _ ⟨Value.ref e::a,[]⟩ (Value.ref e::a) _ _ E0 (Q.make C a []) (I2.FQ.make C a []) (by have:=L _ (Value.ref e::a) I2.fi (by simpa using iz);simpa using this) p q) λr y j=>?_);cases r with
 |error e=>exact j.elim
 |ok fl=>
  cases fl with
  |ret u=>
   obtain⟨v,Z,I3,rv,ev,dct,Be,q3⟩:=I2.after j;subst ev;obtain⟨t,ht⟩:uw y.heap e C dct:=(show c_ P w Z y.heap e (ku C dct e)from I3.hok e _ Be).1;exact⟨rv,e,t,dct,rfl,I3.fi _ _ lk,ht,WJ I3 Be q3⟩
  |next=>exact j.elim
  |brk=>exact j.elim
  |cont=>exact j.elim
end
structure ue(K:Frag)(C:Addr):Prop where
 ga:findIn K (.ref C) "__getattribute__"=some (some (.builtin "BaseException.__getattribute__"))
 gk:findIn K (.ref C) "__getattr__"=some none
 sa:findIn K (.ref C) "__setattr__"=some (some (.builtin "object.__setattr__"))
 ic:findIn K (.ref C) "__class__"=some (some (.builtin "object.__class__"))
 xc:∃own lq,wu K C own lq=true
structure Nx(K:Frag)(B:Addr):Prop where
 sp:specialIn K (.ref B) "__getattribute__"=some (some (.builtin "type.__getattribute__"))
 rd:readsIn K B (.type "type")=true
 fc:∃v,findCls K (.ref B) (.type "type") "__init__"=some (.val v)/\v=.builtin "ValueError.__init__"
def Ny(K:Frag)(a:TA):TE:=λσ H Q=>a σ H λvs H1=>∃e C dct rest,vs=.ref e::rest/\rest.length<=1000/\ue K C/\H1 e=some (ku C dct e)/\Q .ao H1
def Nz(K:Frag)(a b:TE)(f:Str):TS:=λD σ H=>b σ H λy H1=>a σ H1 λx H2=>∃e C,x=.ref e/\H2 e=some (ku C none e)/\ue K C/\findIn K (.ref C) f=some none/\∀dx,H2 dx=none->D.nx σ (upd (upd H2 e (ku C (some dx) e)) dx (.xd [(f,y)]))
section
variable{B:Addr}{b:Str}{bp pos:Pos}{o value:Expr}{ta tv:TE}{f:Str}
theorem Xn {pl:Sem Bool} (N:Nx X.K B) (L:X.mg b=some (.ref B)) (P:Gl X b) (R:PA X (e::Y) t) (V:Qbo b:=by decide)
  (n:Qbl X e Y:=by rfl) (p:Qbm X pos Y:=by rfl)
  (ht:eval (.Call (.Attribute (.Name b bp) "__init__" apos) (e::Y) [] pos) X.env=(do
   let y <- eval (.Name b bp) X.env
   standAt apos.atName
   let (f,first) <- holding [y] (getMethod y "__init__" pl)
   callWith pos f first (backTo pos (starEach (e::Y) X.env)) (backToKw pos (keywordEach [] X.env))):=by rfl):PE X (.Call (.Attribute (.Name b bp) "__init__" apos) (e::Y) [] pos) (Ny X.K t):=by
 intro i s σ H Q I h
 refine methodCall_KW (pl:=pl) (gE I P L ?_ V) ht
 obtain ⟨v,fc,rfl⟩:=N.fc
 refine method_cls I.fi N.sp (cls_value I.fi N.rd fc (by decide+kernel) ?_)
 have A:=R pos i _ σ H _ (I.tok (s.toks+1)) h
 rw [n] at A ⊢
 refine Calls.callWith_builtin (by show (false||(backTo pos (starEach Y X.env)).any (·.1))=false;rw [p]<;>rfl) (Calls.evalArgs_plain ?_)
 refine bh A ?_
 rintro us r ⟨vs,D,k,r2,e,C,c,j,ev,hl,xa,u,q⟩
 subst ev
 obtain ⟨l,m,rfl,r0,r1⟩:∃ l m,us=l::m/\RelV (.ref e) l/\bu j m:=by cases r2 with | cons a b=>exact ⟨_,_,rfl,a,b⟩
 obtain rfl:l=Value.ref e:=r0
 obtain ⟨ag,lq,hx⟩:=xa.xc
 obtain ⟨nm,q',N',bs,sn,ah,ab,ai,dd,k0,E,k2,k3,k5,lk,hn,hu,hk⟩:=lH hx
 have T:=sM k.fi hu
 have hC:=k.fi _ _ lk
 have hE:uw r.heap e C c:=(show c_ X.prog X.w D r.heap e (ku C c e) from k.hok e _ u).1
 obtain ⟨hp,g,d,tk,os⟩:=r
 refine Wv PySem.F.excBase_ValueError T hC hE (by show m.length<=_;rw [<- r1.length,QL];lia) λO E G=>⟨.ao,D,?_,rfl,q⟩
 have:=k.write (x:=e) (e:=e) (o:=ku C c e) (t':=tk) (by rw [u];exact True.intro) (.inl rfl) E (let ⟨_,z⟩:=G;⟨_,z⟩) (x6 G)
 rw [p8 u] at this
 exact this
theorem Xo(G:PE X o ta)(hv:PE X value tv)(L:swapsWith value (some (.Attribute o f pos')) pos.line X.env=pure false):PS X (.Assign [.Attribute o f pos'] value pos) (Nz X.K ta tv f):=by
 intro a s k H D I h;refine plainObj_wpAny_Assign_Attribute (bh (hv a s k H _ I h) ?_) L;rintro u N ⟨y,P,Q,R,q⟩;refine bh (G a N k P _ Q q) ?_;rintro T m ⟨x,i,c,V,e,C,ex,l,n,na,q2⟩;subst ex;obtain rfl:T=Value.ref e:=V;obtain⟨own,lq,hx⟩:=n.xc;obtain⟨cd,c1,c2,c3⟩:=mQ hx;have hE:uw m.heap e C none:=(show c_ X.prog X.w i m.heap e (ku C none e)from c.hok e _ l).1;refine Ww c.fi hE c1 c2 c3 n.sa na λO b tk p r t nd=>?_;have j:=c.hok.free p;have Xp:b≠e:=λz=>by rw[z,l]at j;cases j
 have A:CJ (i e):=by rw[l];exact True.intro
 have E:∃u,O.get? e=some u:=let ⟨_,z⟩:=t;⟨_,z⟩
 have d:upd i e (ku C (some b) e) b=none:=by rw[aS Xp];exact j
 refine⟨k,upd (upd i e (ku C (some b) e)) b (.xd [(f,y)]),c.un (Un.more (Un.write A (.inl rfl) r E) p d) (dm.more (c.hok.write A (.inl rfl) r E (x6 t)) (λ_ _ z=>z) d ?_),q2 b j⟩;refine⟨_,nd,λg=>?_⟩;rw[Qad];by_cases z:g=f
 ·subst z;simp[oz,R]
 ·rw[if_neg z,show(g==f)=false from beq_false_of_ne z];exact True.intro
end
structure GK(K:Frag)(mg:Str->Qbb)(x:Str):Prop where
 m:mg x=some (.ref (adr mg x))
 at_:ue K (adr mg x)
 xc:∃own,wu K (adr mg x) own none=true
 ni:Nx K (adr mg x)
structure Dh(K:Frag)(mg:Str->Qbb)(x q:Str)(st:Stmt)(ps fs:Qa8):Prop where
 m:mg x=some (.ref (adr mg x))
 at_:ue K (adr mg x)
 na:∀f∈fs,LZ K (adr mg x) f
 ex:∃own f fd,wu K (adr mg x) own (some (.ref f))=true/\isFn K (.ref f)=true/\A7 K "__init__" q st f fd/\Binds K fd ps []
theorem ue.nm{K:Frag}(x:ue K C):Gy K C:=let ⟨_,_,h⟩:=x.xc;Xi h
def JN(P:Program)(w:World)(K:Frag)(mg:Str->Qbb)(base:Heap)(k:Nat)(x:Str)(a:Qa8)(b:Sp):Prop:=
 mg x=some (.ref (adr mg x))/\∃own f fd,wu K (adr mg x) own (some (.ref f))=true/\isFn K (.ref f)=true/\mq P w K mg base za k f fd a b/\Binds K fd a []
section
variable{K:Frag}{q:Str}{st:Stmt}{fs:Qa8}{k:Nat}
theorem Dh.dh (F:Dh K mg x q st ps fs) (S:dg N ps (bz st)) (d:∀ a H Q E,sp a H Q E->a.length=ps.length)
  (g:∀ (f:Addr) (c:Value) (A:Around) (outer:List Env) (s:Shared) (H:Hp) (a:Qbi) (Q:VK) (E:XK),fb k (A.deeper (envOfC q (bz st) s.heap.objs.size f c))->sp a H Q E->
   ∃ t,SB (jl za P w K mg base N q (bz st) f c A outer s H E).xu (kc st) t/\t {nx:=λ_ Z=>Q .ao Z,rt:=Q} (start N a) H):JN P w K mg base (k+1) x ps sp:=by
 obtain ⟨e,f,i,h1,h2,j,b⟩:=F.ex
 exact ⟨F.m,e,f,i,h1,h2,j.ok S d λc A outer s H a Q E l h=>let ⟨t,h1,h2⟩:=g f c A outer s H a Q E l h;⟨t,h1.h,h2⟩,b⟩
theorem cz.NB (F:cz K mg x st ps) (S:dg N ps (bz st)) (d:∀ a H Q E,sp a H Q E->a.length=ps.length)
  (g:∀ (f:Addr) (c:Value) (A:Around) (outer:List Env) (s:Shared) (H:Hp) (a:Qbi) (Q:VK) (E:XK),fb k (A.deeper (envOfC x (bz st) s.heap.objs.size f c))->sp a H Q E->
   ∃ t,SB (jl (nu P w) P w K mg base N x (bz st) f c A outer s H E) (kc st) t/\t {nx:=λ_ Z=>Q .ao Z,rt:=Q} (start N a) H):Bd P w K mg base (k+1) x ps sp:=by
 obtain ⟨f,u,e,m,b⟩:=F
 obtain ⟨i,j,kV,l,y,z,c,C,n,rfl,lk,o⟩:=e.ex
 refine ⟨f,_,L8 lk o S d λA outer s H a Q E p r=>?_,m,e.kp,b,i,j,n,lk⟩
 obtain ⟨t,h,q⟩:=g f c A outer s H a Q E p r
 exact ⟨t,h.h,q⟩
end
section
variable{K:Frag}{f:Addr}{cd:Value}{s0:Shared}{E:XK}{np pos:Pos}{e1:Expr}
theorem uJ{k:Nat}(F:JN P w K mg base k x ps sp)(c:fb (k+1) (A.deeper (envOfC qual scope s0.heap.objs.size f cd)))(d:SA (jl (nu P w) P w K mg base N qual scope f cd A outer s0 H0 E) (e1::Y) ta)(e:Gl (jl (nu P w) P w K mg base N qual scope f cd A outer s0 H0 E) x:=by rfl)
  (g:Qbo x:=by decide) (i:starEach (e1::Y) (envOfC qual scope s0.heap.objs.size f cd)=(false,eval e1 (envOfC qual scope s0.heap.objs.size f cd))::starEach Y (envOfC qual scope s0.heap.objs.size f cd):=by rfl)
  (a:(backTo cpos (starEach Y (envOfC qual scope s0.heap.objs.size f cd))).any (·.1)=false:=by rfl):SS (jl (nu P w) P w K mg base N qual scope f cd A outer s0 H0 E) (.Raise (some (.Call (.Name x np) (e1::Y) [] cpos)) none pos) (JM (adr mg x) sp ta E):=by
 obtain⟨m,own,fI,fd,h1,h2,G,b⟩:=F;exact⟨zR h1 h2 G b c m e d.h g i a⟩
end
structure SH(X:Cx)(hs:List ExceptHandler)(th:Addr->Addr->Option Addr->TS):Prop where
 h:PH X hs th
section
variable{c b f:Str}{cp pos bp p epos yp:Pos}{b0:Stmt}{Ey:List Stmt}{rest:List ExceptHandler}{k:Nat}{ts:TS}{o value:Expr}{ta tv:TE}{h0:ExceptHandler}
theorem Xq:SH X [] Nm:=⟨WQ⟩
theorem Xr(a:X.mg c=some (.ref (adr X.mg c)))(N:ue X.K (adr X.mg c))(b:X.N.Nodup)(d:X.N[j]? =some y)(f:X.env.scope.names.lookup y=some .local)(g:∀e,SB (X.yg e) (b0::Ey) ts)(i:SH X rest th)(k:Gl X c:=by rfl)(l:Qbo c:=by decide):SH X (.ExceptHandler (some (.Name c cp)) (some y) (b0::Ey) pos::rest) (Nn X.K (adr X.mg c) j ts th):=⟨WR k a N.nm b d f (λe=>(g e).h) i.h l⟩
theorem Xs(F:Bd X.prog X.w X.K X.mg X.base k x ps sp)(c:fb k X.A)(d:SA X.xu (e::Y) t)(f:SH X (h0::rest) th)(g:X.N.Nodup)(j:X.N[i]? =some y)(l:X.env.scope.names.lookup y=some .local)(a:X.stack=X.env::X.outer:=by rfl)(m:X.env.frame=some X.env.locals:=by rfl)(n:Gl X x:=by rfl)
  (o:Qbo x:=by decide) (q:Qbl X e Y:=by rfl) (b:Qbm X cpos Y:=by rfl)
  (r:swapsWith (.Call (.Name x p) (e::Y) [] cpos) (some (.Name y yp)) epos.line X.env=pure false:=by rfl):SS X (.Try [.Assign [.Name y yp] (.Call (.Name x p) (e::Y) [] cpos) epos] (h0::rest) [] [] pos) (Np i sp t th):=⟨WU F c n d.h f.h a m g j l o q b r⟩
theorem Xu {pl:Sem Bool} (K:Frag) (c:GK K X.mg b) (i:SA X (e::Y) t) (j:X.K=K:=by rfl) (k:Gl X b:=by rfl) (l:Qbo b:=by decide)
  (a:Qbl X e Y:=by rfl) (d:Qbm X pos Y:=by rfl)
  (n:eval (.Call (.Attribute (.Name b bp) "__init__" apos) (e::Y) [] pos) X.env=(do
   let g <- eval (.Name b bp) X.env
   standAt apos.atName
   let (f,first) <- holding [g] (getMethod g "__init__" pl)
   callWith pos f first (backTo pos (starEach (e::Y) X.env)) (backToKw pos (keywordEach [] X.env))):=by rfl):SE X (.Call (.Attribute (.Name b bp) "__init__" apos) (e::Y) [] pos) (Ny K t):=by
 subst j
 exact ⟨Xn c.ni c.m k i.h l a d n⟩
theorem Xv(K:Frag)(a:SE X o ta)(hv:SE X value tv)(b:X.K=K:=by rfl)(c:swapsWith value (some (.Attribute o f pos')) pos.line X.env=pure false:=by rfl):SS X (.Assign [.Attribute o f pos'] value pos) (Nz K ta tv f):=by subst b;exact⟨Xo a.h hv.h c⟩
end
section
variable{K:Frag}
theorem tG:∀{l:List AB},Di K l=Dj l->∀(i:Nat){c:AB},l[i]? =some c->∃C,nsIn K mainGlobals c.x=some (some (.ref C))/\ND K c C=(true,c.st.map λst=>Ce "__init__" c.q st)
 |y::l,e,0,c,h=>by
  cases h;have a:=(Qaj e).1;split at a
  ·rename_i C b;exact⟨C,b,QD a⟩
  ·cases a
 |y::l,e,i+1,c,h=>tG (Qaj e).2 i (by simpa using h)
theorem uH:∀{l:List (Str×Str×Bool)},GN K l=GO l->∀(i:Nat){c:Str×Str×Bool},l[i]? =some c->∃C B,nsIn K mainGlobals c.1=some (some (.ref C))/\nsIn K mainGlobals c.2.1=some (some (.ref B))/\subIn K (.ref C) (.ref B)=some c.2.2
 |y::l,e,0,c,h=>by
  cases h;have a:=(Qaj e).1;split at a
  ·rename_i C B b d;exact⟨C,B,b,d,a⟩
  ·cases a
 |y::l,e,i+1,c,h=>uH (Qaj e).2 i (by simpa using h)
theorem d4(X:K.In h)(G:h.Ns mainGlobals mg){l:List (Str×Str×Bool)}(e:GN K l=GO l)(i:Nat){a b:Str}{v:Bool}(c:l[i]? =some (a,b,v):=by rfl):subIn K (.ref (adr mg a)) (.ref (adr mg b))=some v:=by
 obtain⟨C,B,h1,h2,h3⟩:=uH e i c;have d:=mg_of X G h1;have f:=mg_of X G h2;unfold adr;rw[d,f];exact h3
theorem NE(X:K.In h)(G:h.Ns mainGlobals mg){l:List AB}(e:Di K l=Dj l)(i:Nat){q:Str}{d:Qa8}(f:l[i]? =some ⟨x,q,none,d⟩:=by rfl):GK K mg x:=by
 obtain⟨C,hn,a⟩:=tG e i f;have b:=mg_of X G hn;have c:adr mg x=C:=by unfold adr;rw[b]
 have a:=(QaZ a).1;simp only[Qai,beq_iff_eq]at a;obtain⟨c1,c2,c3,c4,c0,c5,c6,c7,c8⟩:=a;refine⟨by rw[c];exact b,?_,?_,?_⟩<;>rw[c]
 ·exact⟨c2,c3,c4,c0,_,_,c1⟩
 ·exact⟨_,c1⟩
 ·refine⟨c6,c7,?_⟩;split at c8
  ·rename_i v hv;exact⟨v,hv,beq_iff_eq.mp c8⟩
  ·cases c8
theorem Xw(X:K.In h)(G:h.Ns mainGlobals mg){l:List AB}(e:Di K l=Dj l)(i:Nat){q:Str}{st:Stmt}{c:Qa8}(j:l[i]? =some ⟨x,q,some st,c⟩)
  (k:∀(kV b m:Value)(n:Option Addr)(o ct:Value)(us:Qa9),us.length=ps.length->bindArgs (fnOf "__init__" q (qx st) (kc st) (bz st) .none kV b m n o ct) ⟨us,[]⟩=pure (ps.zip us)):Dh K mg x q st ps c:=by
 obtain⟨C,hn,hc⟩:=tG e i j;have d:=mg_of X G hn;have g:adr mg x=C:=by unfold adr;rw[d]
 obtain⟨hc,hf⟩:=QaZ hc;simp only[Qai,beq_iff_eq]at hc;obtain⟨a,c2,c3,c4,c0,c5,c6⟩:=hc;obtain⟨f,fd,e1,F⟩:=yI (show fnAt K q (findIn K (.ref C) "__init__")=some (Ce "__init__" q st)from hf);rw[e1]at c6;have p:GL K C (some st)=some (.ref f):=by unfold GL;rw[e1];rfl
 have a:wu K C (NC K C) (GL K C (some st))=true:=a;rw[p]at a;refine⟨by rw[g];exact d,?_,?_,?_⟩<;>rw[g]
 ·exact⟨c2,c3,c4,c0,_,_,a⟩
 ·exact nG c5
 ·exact⟨_,f,fd,a,c6,F,F.binds k⟩
theorem NF(X:K.In h)(G:h.Ns mainGlobals mg){l:List AB}(e:Di K l=Dj l)(i:Nat){q o p:Str}{st:Stmt}{r:Qa8}(s:l[i]? =some ⟨x,q,some st,r⟩:=by rfl)
  (t:∀(kV j u:Value)(w:Option Addr)(y ct k m:Value),bindArgs (fnOf "__init__" q (qx st) (kc st) (bz st) .none kV j u w y ct) ⟨[k,m],[]⟩=pure [(o,k),(p,m)]:=by intros;rfl):Dh K mg x q st [o,p] r:=
 Xw X G e i s λa b c d f g A z=>by
  obtain⟨k,AA,rfl,qf⟩:=ux (n:=1) z;obtain⟨m,JH,rfl,f_⟩:=ux (n:=0) qf;obtain rfl:=QR f_;exact t ..
end
end L2
namespace L2
open PySem PySem.Spec PyProof.Rows PySem.W
section
variable{K:QZ}{f:Addr}{cd:Value}{s0:Shared}{E:XK}
theorem Xx{i:Value}(I:Inv (jl (nu P w) P w K mg base N qual scope f cd A outer s0 H0 E) U σ H s)
  (c:nu P w (envOfC qual scope s0.heap.objs.size f cd::outer) H s E i s'):(jl (nu P w) P w K mg base N qual scope f cd A outer s0 H0 E).xe i s':=by
 obtain⟨e,C,dct,Z,rfl,os,bare,un,hok,he,fl,q⟩:=c;have h:=I.Im os un hok bare (λb z=>absurd z (by simp));have j:∀b∈g_ (envOfC qual scope s0.heap.objs.size f cd::outer),Z b=none:=h.DT;have r:e∉g_ (envOfC qual scope s0.heap.objs.size f cd::outer):=λz=>by rw[j e z]at he;cases he
 show wpAny _ _ (leaving _ _) _ _ s';unfold leaving;refine QS (mY (base:=base) (outer:=outer) (L:=s0.heap.objs.size) h.ok.frames h.stack rfl fl r λD G _ n k=>?_);have l:=dm.noted hok n j he (λm z=>by rw[he]at z;cases z) (λo v z=>by rw[he]at z;cases z) (λy z=>by rw[he]at z;cases z) k;rw[p8 he]at l;refine⟨e,C,dct,Z,rfl,h.os,h.bare,?_,l,he,k,q⟩;have B:Un (g_ outer) [] H0 Z s0.heap s'.heap:=h.base;have t:∀b o,s0.heap.get? b=some o->b∉g_ outer->b∉g_ (envOfC qual scope s0.heap.objs.size f cd::outer):=λb o q a z=>by
  have z':b∈s0.heap.objs.size::g_ outer:=z;rcases Qp.mp z' with z'|z'
  ·exact absurd (Qz q) (by rw[z'];exact Qau _)
  ·exact a z'
 have p:∀{b},Z b=none->b≠e:=λa z=>by rw[z,he]at a;cases a
 refine⟨λb o q g a d=>n.keep b o (t b o q a) (p (B.free b o q g d)) (B.keep b o q g a d),λb o q g a d=>?_,λb o q g d=>B.free b o q g d,λb o q d=>?_,λb m q=>B.tups b m q,λb o u q=>B.mh b o u q,λb x q=>B.o_ b x q⟩
 ·obtain⟨sl,q'⟩:=B.slot b o q g a d;obtain⟨BD,JD⟩:=n.slot b _ (p (B.free b o q g d)) q';exact⟨BD,JD⟩
 ·obtain⟨o',q'⟩:=B.there b o q d;exact n.Gw b o' q'
theorem Xy{k:Nat}{p:Pos}(F:Bd P w K mg base k x ps sp)(j:fb k (A.deeper (envOfC qual scope s0.heap.objs.size f cd)))(l:SA (jl (nu P w) P w K mg base N qual scope f cd A outer s0 H0 E) (e::Y) ta)
  (m:Gl (jl (nu P w) P w K mg base N qual scope f cd A outer s0 H0 E) x:=by rfl) (n:Qbo x:=by decide)
  (o:starEach (e::Y) (envOfC qual scope s0.heap.objs.size f cd)=(false,eval e (envOfC qual scope s0.heap.objs.size f cd))::starEach Y (envOfC qual scope s0.heap.objs.size f cd):=by rfl)
  (g:(backTo cpos (starEach Y (envOfC qual scope s0.heap.objs.size f cd))).any (·.1)=false:=by rfl):
  SE (jl (nu P w) P w K mg base N qual scope f cd A outer s0 H0 E) (.Call (.Name x p) (e::Y) [] cpos) (A3 sp [] E ta):=by
 constructor;intro a s t H Q I h;obtain⟨ff,fd,F,hm,hk,hb,_⟩:=F;refine wpAny_Call_Name_kw (gE I m hm ?_ n);refine callWith_K (h₀:=base) I.ok.mod.CL hk (bh (l.h cpos a s t H _ I h) ?_) o g;rintro d i ⟨y,z,b,r,q⟩;refine⟨b.fi,?_⟩;(try dsimp only at q);rw[QQ]at q;have C:d.length=ps.length:=by rw[<- r.length];exact F.len _ _ _ _ q
 refine wpAny_call (codeAny_mono (F.run _ _ i z ⟨d,[]⟩ d y Q E j b.FQ (by have:=hb i d b.fi (by simpa using C);simpa using this) r q) λr D c=>?_);cases r with
 |error ev=>exact Xx b c
 |ok fl=>
  cases fl with
  |ret u=>
   obtain⟨v,H2,I2,rv,q2⟩:=b.after c;exact⟨v,H2,I2,rv,q2⟩
  |next=>exact c.elim
  |brk=>exact c.elim
  |cont=>exact c.elim
end
end L2
namespace L2
end L2
namespace L2
open PySem PySem.SetTable
def GP(mask:Nat)(p:Probe):Probe:=if p.more > 0 then{p with j:=p.j+1,more:=p.more-1}else{p with j:=(leap mask p.i p.perturb).1,more:=runEnd mask (leap mask p.i p.perturb).1-(leap mask p.i p.perturb).1,i:=(leap mask p.i p.perturb).1,perturb:=(leap mask p.i p.perturb).2}
def Xz(mask:Nat)(q:Nat×Nat):Probe:={j:=q.1,more:=runEnd mask q.1-q.1,i:=q.1,perturb:=q.2,dummy:=none}
def st(mask:Nat)(h:Int):Nat->Probe
 |0=>Xz mask (bits h % (mask+1),bits h)
 |n+1=>GP mask (st mask h n)
section
variable{mask:Nat}{h:Int}
theorem qW(i:Nat):runEnd mask i-i<=9/\(i<=mask->i+(runEnd mask i-i)<=mask):=by
 unfold runEnd;split<;>lia
theorem NG:∀n,(st mask h n).j+(st mask h n).more<=mask
 |0=>(qW _).2 (Nat.le_of_lt_succ (Nat.mod_lt _ (Nat.succ_pos _)))
 |n+1=>by
  have ih:=NG n;show(GP mask (st mask h n)).j+(GP mask (st mask h n)).more<=mask;unfold GP;split
  ·simp only;lia
  ·exact(qW _).2 (Nat.le_of_lt_succ (Nat.mod_lt _ (Nat.succ_pos _)))
end
theorem mR:∀{l m:Qbc},l.Nodup->(∀x∈l,x∈m)->l.length<=m.length
 | [],m,_,_=>Qal _
 |a::l,m,nd,hs=>by
  obtain⟨h1,h2⟩:=Qas.mp nd;have b:=hs a (jP ..);have:l.length<=(m.erase a).length:=mR h2 λx c=>(List.mem_erase_of_ne (show x≠a from λe=>h1 (by rw[<- e];exact c))).mpr (hs x (Qh _ c));rw[List.length_erase_of_mem b]at this;have:=List.length_pos_of_mem b;simp only[Qac];lia
def Ow(owner:Array (Option Nat))(j:Nat):Prop:=(owner.getD j (some 0)).isNone=false
structure NH(mask:Nat)(owner:Array (Option Nat))(hs:List Int):Prop where
 sz:owner.size=mask+1
 lt:∀j k:Nat,owner[j]? =some (some k)->k<hs.length
 inj:∀j j' k:Nat,owner[j]? =some (some k)->owner[j']? =some (some k)->j=j'
 reach:∀k(h:k<hs.length),∃n,owner[(st mask hs[k] n).j]? =some (some k)/\∀m,m<n->Ow owner (st mask hs[k] m).j
def Dk(mask:Nat)(owner:Array (Option Nat)):List (Nat×Nat):=(List.range (mask+1)).filterMap λj=>(owner.getD j none).map (j,·)
section
variable{mask:Nat}{owner:Array (Option Nat)}{hs:List Int}
theorem lO(c:owner.size=mask+1){p:Nat×Nat}:p∈Dk mask owner↔p.1<=mask/\owner[p.1]? =some (some p.2):=by
 unfold Dk;rw[List.mem_filterMap];constructor
 ·rintro⟨j,hj,e⟩;have b:j<owner.size:=by have:=QaG.mp hj;lia
  have a:owner.getD j none=owner[j]:=by simp[Array.getD,b]
  rw[a]at e;cases hx:owner[j]with
  |none=>rw[hx]at e;cases e
  |some k=>
   rw[hx]at e;cases e;exact⟨by show j<=mask;lia,by show owner[j]? =_;rw[Array.getElem?_eq_getElem b,hx]⟩
 ·rintro⟨h1,h2⟩;obtain⟨h3,h4⟩:=QaE.mp h2;refine⟨p.1,QaG.mpr (by lia),?_⟩;have a:owner.getD p.1 none=owner[p.1]:=by simp[Array.getD,h3]
  rw[a,h4];rfl
theorem NI{f:Nat->Option Nat}:∀l:Qbc,l.Pairwise (· < ·)->((l.filterMap λj=>(f j).map (j,·)).map (·.1)).Pairwise (· < ·)/\∀x∈(l.filterMap λj=>(f j).map (j,·)).map (·.1),x∈l
 | [],_=>⟨.nil,λ_ h=>nomatch h⟩
 |a::l,h=>by
  obtain⟨h1,h2⟩:=QaW.mp h;obtain⟨i1,i2⟩:=NI (f:=f) l h2;cases e:f a with
  |none=>
   simp only[QaL,e,Option.map_none];exact⟨i1,λx hx=>Qh _ (i2 x hx)⟩
  |some k=>
   simp only[QaL,e,Option.map_some,Qab];refine⟨QaW.mpr ⟨λx hx=>h1 x (i2 x hx),i1⟩,λx hx=>?_⟩;rcases Qp.mp hx with rfl|hx
   ·exact jP ..
   ·exact Qh _ (i2 x hx)
theorem XA:((Dk mask owner).map (·.1)).Pairwise (· < ·):=(NI (f:=λj=>owner.getD j none) _ List.pairwise_lt_range).1
theorem NH.len(I:NH mask owner hs):(Dk mask owner).length=hs.length:=by
 have f:((Dk mask owner).map (·.2)).Nodup:=by
  have h1:=XA (mask:=mask) (owner:=owner);rw[List.pairwise_map]at h1;refine List.pairwise_map.mpr (h1.imp_of_mem fun{a b}g i r e=>?_);have:=I.inj a.1 b.1 a.2 ((lO I.sz).mp g).2 (by rw[e];exact((lO I.sz).mp i).2)
  lia
 have k:=mR f (m:=List.range hs.length) λx c=>by
  obtain⟨p,hp,rfl⟩:=qN.mp c;exact QaG.mpr (I.lt _ _ ((lO I.sz).mp hp).2)
 have o:=mR (l:=List.range hs.length) (m:=(Dk mask owner).map (·.2)) List.nodup_range λx c=>by
  have d:=QaG.mp c;obtain⟨n,e1,_⟩:=I.reach x d;have q:(st mask hs[x] n).j<=mask:=by have:=NG (mask:=mask) (h:=hs[x]) n;lia
  exact qN.mpr ⟨((st mask hs[x] n).j,x),(lO I.sz).mpr ⟨q,e1⟩,rfl⟩
 simp at k o
 lia
end
end L2
namespace L2
open PySem PySem.Spec PyProof.Rows
def dd(seen:Qa8):List (Road×Str)->LR
 | []=>[]
 |q::P=>if q.2∈seen then dd seen P else(q.2,q.1)::dd (seen++[q.2]) P
structure QI(F:List eu)(f:Str)(i:Nat)(found:LR)(P:List (Road×Str)):Prop where
 fd:found=(Jt (C5 F f i)).take i
 pd:dd (found.map (·.1)) P=(Jt (C5 F f i)).drop i
theorem QI.start(a:List eu)(f:Str):QI a f 0 [] [([],f)]:=⟨by simp,by simp[dd,C5,Jt,Na]⟩
inductive Th where
 |pick (w:Str) (t:Th)
 |dw (ps:List (Str×Th))
structure PD(R:V->Th->Prop)(ws:Qa8)(kvs:Qbf):Prop where
 all:∀q∈kvs,∃z t,q.1=.inr z/\z∈ws/\R q.2 t
 nd:(kvs.map (·.1)).Nodup
section
variable{R R':V->Th->Prop}{kvs abZ:Qbf}
theorem PD.len(h:PD R ws kvs):kvs.length<=ws.length:=by
 have c:∀q:Key×V,∃z:Str,q∈kvs->q.1=.inr z/\z∈ws:=λq=>by
  by_cases hq:q∈kvs
  ·obtain⟨z,t,h1,h2,_⟩:=h.all q hq;exact⟨z,λ_=>⟨h1,h2⟩⟩
  ·exact⟨"",λz=>absurd z hq⟩
 obtain⟨f,hf⟩:=Qay c;have:=rN (l:=kvs.map f) (m:=ws) ?_ ?_
 ·simpa using this
 ·refine List.pairwise_map.mpr ((List.pairwise_map.mp h.nd).imp_of_mem fun{a b}d g i e=>i ?_);rw[(hf a d).1,(hf b g).1,e]
 ·intro z j;obtain⟨q,hq,rfl⟩:=qN.mp j;exact(hf q hq).2
end
theorem ae.zg{K:QZ}{B:Qbi}(h:jc H a B):ae K H a B:=.inl h
def NJ(b:List eu)(c:Qa8):Prop:=∃H a B ws,RT H a B b c ws/\∀z∈ws,Wd z
section
variable{F:List eu}
theorem NJ.nm(g:NJ F ns)(x:Str):x∈F.map (·.1)↔x∈ns:=let ⟨_,_,_,_,rt,hw⟩:=g;rt.nm.mem_iff
end
inductive Tv where
 |s (z:Str)
 |i (n:Int)
 |t (l:List Tv)
def TD(H:Hp):Nat->V->Tv->Prop
 |_,.str z,.s z'=>z=z'
 |_,.int k,.i j=>k=j
 |n+1,.ref a,.t M=>∃B,jc H a B/\B.length=M.length/\∀j(h:j<B.length)(O:j<M.length),TD H n B[j] M[j]
 |_,_,_=>False
structure iu(H:Hp)(n:Nat)(B:Qbi)(M:List Tv):Prop where
 len:B.length=M.length
 at_:∀j(h:j<B.length)(O:j<M.length),TD H n B[j] M[j]
theorem TD.str{n:Nat}{z:Str}:TD H n (.str z) (.s z):=by cases n<;>rfl
theorem TD.int{n:Nat}{z:Int}:TD H n (.int z) (.i z):=by cases n<;>rfl
theorem TD.tup{n:Nat}{a:Addr}{B:Qbi}{M:List Tv}(h:jc H a B)(t:iu H n B M):TD H (n+1) (.ref a) (.t M):=⟨B,h,t.len,t.at_⟩
theorem iu.nil:iu H n [] []:=⟨rfl,λi h=>absurd h (by simp)⟩
theorem iu.cons{n:Nat}{x:V}{d:Tv}{B:Qbi}{M:List Tv}(h:TD H n x d)(t:iu H n B M):iu H n (x::B) (d::M):=⟨by simp[t.len],λi h1 h2=>by
 cases i with
 |zero=>exact h
 |succ i=>exact t.at_ i (by simpa using h1) (by simpa using h2)⟩
theorem TD.keep(k:∀b ys,jc H b ys->jc Z b ys):∀{n:Nat}{v:V}{d:Tv},TD H n v d->TD Z n v d
 |0,.str _,.s _,h=>h
 |0,.int _,.i _,h=>h
 |_+1,.str _,.s _,h=>h
 |_+1,.int _,.i _,h=>h
 |n+1,.ref a,.t M,h=>let ⟨B,h1,h2,h3⟩:=h;⟨B,k _ _ h1,h2,λi a b=>TD.keep k (h3 i a b)⟩
theorem TD.same{n:Nat}{v:V}{d:Tv}(h:TD H n v d)(s:aa H Z):TD Z n v d:=TD.keep (λb a r=>r.same s) h
theorem TD.uy{d:Tv}(h:TD H n (.ref a) d):∃m M B,n=m+1/\d=.t M/\jc H a B/\iu H m B M:=by
 cases n with
 |zero=>cases d<;>exact h.elim
 |succ n=>
  cases d with
  |t M=>obtain⟨B,h1,h2,h3⟩:=h;exact⟨n,M,B,rfl,rfl,h1,h2,h3⟩
  |_=>exact h.elim
theorem TD.zh{d:Tv}(h:TD H n (.str z) d):d=.s z:=by
 cases n<;>(cases d with
  |s z'=>exact congrArg Tv.s (show z=z' from h).symm
  |_=>exact h.elim)
theorem TD.zj{z:Int}{d:Tv}(h:TD H n (.int z) d):d=.i z:=by
 cases n<;>(cases d with
  |i z'=>exact congrArg Tv.i (show z=z' from h).symm
  |_=>exact h.elim)
theorem TD.v{n:Nat}{v:V}{d:Tv}(h:TD H n v d):(∃z,v=.str z)\/(∃z,v=.int z)\/∃a,v=.ref a:=by
 cases n<;>(cases v<;>first|exact .inl ⟨_,rfl⟩|exact .inr (.inl ⟨_,rfl⟩)|exact .inr (.inr ⟨_,rfl⟩)|(cases d<;>exact h.elim))
theorem TD.det:∀{n m:Nat}{v:V}{d e:Tv},TD H n v d->TD H m v e->d=e
 |0,m,v,d,e,h,O=>by
  rcases h.v with⟨z,rfl⟩|⟨z,rfl⟩|⟨a,rfl⟩
  ·rw[h.zh,O.zh]
  ·rw[h.zj,O.zj]
  ·obtain⟨_,_,_,z,_⟩:=h.uy;cases z
 |n+1,m,v,d,e,h,O=>by
  rcases h.v with⟨z,rfl⟩|⟨z,rfl⟩|⟨a,rfl⟩
  ·rw[h.zh,O.zh]
  ·rw[h.zj,O.zj]
  ·obtain⟨m1,M,B,e1,rfl,r1,t1⟩:=h.uy;obtain⟨m2,Y,ys,e2,rfl,r2,t2⟩:=O.uy;cases e1;have:=r1.inj r2;subst this;have b:=t1.len;have c:=t2.len;congr 1;refine QaF (by lia) λi h1 h2=>?_;exact TD.det (t1.at_ i (by lia) h1) (t2.at_ i (by lia) h2)
theorem oH{M a:List Tv}{e:Nat->Bool}(b:M.length=a.length)(h:∀j(h1:j<M.length)(h2:j<a.length),e j=true↔M[j]=a[j]):(List.range M.length).all e=true↔M=a:=by
 rw[List.all_eq_true];constructor
 ·intro c;exact QaF b λi h1 h2=>(h i h1 h2).mp (c i (QaG.mpr h1))
 ·rintro rfl j d;have:=QaG.mp d;exact(h j this this).mpr rfl
theorem TD.XD(I:Inv X U σ H s):∀{n:Nat}{m:Nat}{x y:V}{d e:Tv},TD H n x d->TD H m y e->∃k:Bool,(k=true↔d=e)/\∀(A:Around)(u v:Value),A.units+n<cLine->RelV x u->RelV y v->SeqAt.EqAt A s u v k:=by
 intro n
 induction n with
 |zero=>
  intro m x y d e h g;rcases h.v with⟨z,rfl⟩|⟨z,rfl⟩|⟨a,rfl⟩
  ·obtain rfl:=h.zh;rcases g.v with⟨i,rfl⟩|⟨i,rfl⟩|⟨b,rfl⟩
   ·obtain rfl:=g.zh;exact⟨z==i,by simp,λA u v l c f=>by obtain⟨t,rfl⟩:=c;obtain⟨t',rfl⟩:=f;exact SeqAt.EqAt.str_str z t i t'⟩
   ·obtain rfl:=g.zj;exact⟨false,by simp,λA u v l c f=>by obtain⟨t,rfl⟩:=c;obtain⟨t',rfl⟩:=f;exact SeqAt.EqAt.str_int z t i t'⟩
   ·obtain⟨_,M,B,rfl,rfl,r1,_⟩:=g.uy;refine⟨false,by simp,λA u v l c f=>?_⟩;obtain⟨t,rfl⟩:=c;cases f;obtain⟨i1,_,p1,_⟩:=I.tuple (ae.zg r1);exact SeqAt.EqAt.str_tuple z t p1 (by lia)
  ·obtain rfl:=h.zj;rcases g.v with⟨i,rfl⟩|⟨i,rfl⟩|⟨b,rfl⟩
   ·obtain rfl:=g.zh;exact⟨false,by simp,λA u v l c f=>by obtain⟨t,rfl⟩:=c;obtain⟨t',rfl⟩:=f;exact SeqAt.EqAt.int_str z t i t'⟩
   ·obtain rfl:=g.zj;exact⟨z==i,by simp,λA u v l c f=>by obtain⟨t,rfl⟩:=c;obtain⟨t',rfl⟩:=f;exact SeqAt.EqAt.int_int z t i t'⟩
   ·obtain⟨_,M,B,rfl,rfl,r1,_⟩:=g.uy;refine⟨false,by simp,λA u v l c f=>?_⟩;obtain⟨t,rfl⟩:=c;cases f;obtain⟨i1,_,p1,_⟩:=I.tuple (ae.zg r1);exact SeqAt.EqAt.int_tuple z t p1 (by lia)
  ·obtain⟨_,_,_,z,_⟩:=h.uy;cases z
 |succ n ih=>
  intro m x y d e h g;rcases h.v with⟨z,rfl⟩|⟨z,rfl⟩|⟨a,rfl⟩
  ·obtain⟨k,h1,h2⟩:=ih (m:=m) (TD.str (n:=n) (z:=z)) g;rw[h.zh];exact⟨k,h1,λA u v l=>h2 A u v (by lia)⟩
  ·obtain⟨k,h1,h2⟩:=ih (m:=m) (TD.int (n:=n) (z:=z)) g;rw[h.zj];exact⟨k,h1,λA u v l=>h2 A u v (by lia)⟩
  ·obtain⟨n',M,B,e1,rfl,r1,t1⟩:=h.uy;cases e1;rcases g.v with⟨i,rfl⟩|⟨i,rfl⟩|⟨b,rfl⟩
   ·obtain rfl:=g.zh;refine⟨false,by simp,λA u v l c f=>?_⟩;obtain⟨t,rfl⟩:=f;cases c;obtain⟨i1,_,p1,_⟩:=I.tuple (ae.zg r1);exact SeqAt.EqAt.tuple_str i t p1 (by lia)
   ·obtain rfl:=g.zj;refine⟨false,by simp,λA u v l c f=>?_⟩;obtain⟨t,rfl⟩:=f;cases c;obtain⟨i1,_,p1,_⟩:=I.tuple (ae.zg r1);exact SeqAt.EqAt.tuple_int i t p1 (by lia)
   ·obtain⟨m',Y,ys,rfl,rfl,r2,t2⟩:=g.uy;by_cases pq:a=b
    ·subst pq;refine⟨true,⟨λ_=>TD.det h g,λ_=>rfl⟩,λA u v l c f=>?_⟩;cases c;cases f;exact SeqAt.EqAt.same _
    ·obtain⟨i1,v1,p1,_⟩:=I.tuple (ae.zg r1);obtain⟨i2,v2,p2,_⟩:=I.tuple (ae.zg r2);have L:=v1.length;have N:=v2.length;have P:=t1.len;have Q:=t2.len;have r:∀j:Nat,∃k:Bool,∀(h1:j<M.length)(h2:j<Y.length),(k=true↔M[j]=Y[j])/\∀(A:Around)(u v:Value),A.units+n<cLine->RelV (B[j]'(by lia)) u->RelV (ys[j]'(by lia)) v->SeqAt.EqAt A s u v k:=λj=>by
      by_cases hj:j<M.length/\j<Y.length
      ·obtain⟨k,q1,q2⟩:=ih (t1.at_ j (by lia) hj.1) (t2.at_ j (by lia) hj.2);exact⟨k,λ_ _=>⟨q1,q2⟩⟩
      ·exact⟨false,λh1 h2=>absurd ⟨h1,h2⟩ hj⟩
     obtain⟨ev,AD⟩:=Qay r;refine⟨(List.range (min i1.toArray.size i2.toArray.size)).all ev&&i1.toArray.size==i2.toArray.size,?_,λA u v l c f=>?_⟩
     ·have w:i1.toArray.size=M.length:=by simp;lia
      have C:i2.toArray.size=Y.length:=by simp;lia
      rw[w,C,Qai];constructor
      ·rintro⟨q1,q2⟩;have o:M.length=Y.length:=by simpa using q2
       rw[<- o,Nat.min_self]at q1;exact congrArg Tv.t ((oH o λj h1 h2=>(AD j h1 h2).1).mp q1)
      ·intro q;have p:M=Y:=by injection q
       have o:M.length=Y.length:=by rw[p]
       refine⟨?_,by simp[o]⟩;rw[<- o,Nat.min_self];exact(oH o λj h1 h2=>(AD j h1 h2).1).mpr p
     ·cases c;cases f;refine SeqAt.EqAt.of_refs pq (SeqAt.RcAt.tuples (A:=A) (e:=ev) p1 p2 (by lia) λj g1 g2=>?_);have D:j<M.length:=by simp at g1;lia
      have E:j<Y.length:=by simp at g2;lia
      obtain⟨w1,f1,q1⟩:=v1.get (Qa (show j<B.length by lia));obtain⟨w2,f2,q2⟩:=v2.get (Qa (show j<ys.length by lia));have G:i1.toArray[j]=w1:=by rw[Qa (by simpa using g1)]at f1;simpa using f1
      have K:i2.toArray[j]=w2:=by rw[Qa (by simpa using g2)]at f2;simpa using f2
      rw[G,K];exact(AD j D E).2 A.in1 w1 w2 (by rw[Around.in1_units];lia) q1 q2
theorem iu.NK(I:Inv X U σ H s){m:Nat}{B d:Qbi}{M a:List Tv}(g:iu H n B M)(h:iu H m d a):∃e:Nat->Bool,(∀j(h1:j<M.length)(h2:j<a.length),e j=true↔M[j]=a[j])/\∀(b c:Qa9),bu B b->bu d c->∀(A:Around),A.units+n+1<cLine->∀(j:Nat)(h1:j<b.toArray.size)(h2:j<c.toArray.size),SeqAt.EqAt A.in1 s b.toArray[j] c.toArray[j] (e j):=by
 have t:=g.len;have w:=h.len;have l:∀j:Nat,∃f:Bool,∀(h1:j<M.length)(h2:j<a.length),(f=true↔M[j]=a[j])/\∀(A:Around)(u v:Value),A.units+n<cLine->RelV (B[j]'(by lia)) u->RelV (d[j]'(by lia)) v->SeqAt.EqAt A s u v f:=λj=>by
  by_cases hj:j<M.length/\j<a.length
  ·obtain⟨f,q1,q2⟩:=TD.XD I (g.at_ j (by lia) hj.1) (h.at_ j (by lia) hj.2);exact⟨f,λ_ _=>⟨q1,q2⟩⟩
  ·exact⟨false,λh1 h2=>absurd ⟨h1,h2⟩ hj⟩
 obtain⟨e,AD⟩:=Qay l;refine⟨e,λj h1 h2=>(AD j h1 h2).1,λb c i k A x j g1 g2=>?_⟩;have y:=i.length;have z:=k.length;have o:j<M.length:=by simp at g1;lia
 have p:j<a.length:=by simp at g2;lia
 obtain⟨w1,f1,q1⟩:=i.get (Qa (show j<B.length by lia));obtain⟨w2,f2,q2⟩:=k.get (Qa (show j<d.length by lia));have q:b.toArray[j]=w1:=by rw[Qa (by simpa using g1)]at f1;simpa using f1
 have r:c.toArray[j]=w2:=by rw[Qa (by simpa using g2)]at f2;simpa using f2
 rw[q,r];exact(AD j o p).2 A.in1 w1 w2 (by rw[Around.in1_units];lia) q1 q2
theorem NL{M a:List Tv}{s1 s2:Nat}{c:Nat->Bool}(h1:s1=M.length)(h2:s2=a.length)(d:∀j(h1:j<M.length)(h2:j<a.length),c j=true↔M[j]=a[j]):((List.range (min s1 s2)).all c&&s1==s2)=true↔Tv.t M=.t a:=by
 subst h1 h2;rw[Qai];constructor
 ·rintro⟨q1,q2⟩;have b:M.length=a.length:=by simpa using q2
  rw[<- b,Nat.min_self]at q1;exact congrArg Tv.t ((oH b d).mp q1)
 ·intro q;have e:M=a:=by injection q
  have b:M.length=a.length:=by rw[e]
  refine⟨?_,by simp[b]⟩;rw[<- b,Nat.min_self];exact(oH b d).mpr e
def NO(f:Bool):R2:=λx y H Q=>∃n m d e a b,n<=150/\x=.ref a/\y=.ref b/\TD H n x d/\TD H m y e/\∀c:Bool,(c=true↔d=e)->Q (.bl (f^^c)) H
theorem xX(i:X.A.units+170<cLine):ck X (compareOp .Eq) (NO false):=by
 intro c s j H x y v u Q I f g h;obtain⟨n,m,d,e,a,b,hn,rfl,rfl,h1,h2,q⟩:=h;cases f;cases g;obtain⟨n',M,B,rfl,rfl,r1,t1⟩:=h1.uy;obtain⟨m',Y,ys,rfl,rfl,r2,t2⟩:=h2.uy;obtain⟨i1,v1,p1,_⟩:=I.tuple (ae.zg r1);obtain⟨i2,v2,p2,_⟩:=I.tuple (ae.zg r2);have k:=v1.length;have l:=v2.length;have o:=t1.len;have p:=t2.len;obtain⟨ev,e1,e2⟩:=iu.NK I t1 t2;refine SeqAt.RcAt.tuples (A:=X.A) (e:=ev) p1 p2 (by lia) (e2 i1 i2 v1 v2 X.A (by lia)) _ _ _ _ ?_;refine⟨.bl _,H,I,rfl,?_⟩;have:=q _ (NL (s1:=i1.toArray.size) (s2:=i2.toArray.size) (by simp;lia) (by simp;lia) e1);rw[QE]at this;exact this
theorem yH(i:X.A.units+170<cLine):ck X (compareOp .NotEq) (NO true):=by
 intro c s j H x y v u Q I f g h;obtain⟨n,m,d,e,a,b,hn,rfl,rfl,h1,h2,q⟩:=h;cases f;cases g;obtain⟨n',M,B,rfl,rfl,r1,t1⟩:=h1.uy;obtain⟨m',Y,ys,rfl,rfl,r2,t2⟩:=h2.uy;obtain⟨i1,v1,p1,_⟩:=I.tuple (ae.zg r1);obtain⟨i2,v2,p2,_⟩:=I.tuple (ae.zg r2);have k:=v1.length;have l:=v2.length;have o:=t1.len;have p:=t2.len;obtain⟨ev,e1,e2⟩:=iu.NK I t1 t2;refine SeqAt.RcNeAt.tuples (A:=X.A) (e:=ev) p1 p2 (by lia) (e2 i1 i2 v1 v2 X.A (by lia)) _ _ _ _ ?_;refine⟨.bl _,H,I,rfl,?_⟩;have:=q _ (NL (s1:=i1.toArray.size) (s2:=i2.toArray.size) (by simp;lia) (by simp;lia) e1);rw[Bool.true_xor]at this;exact this
def zk:List (List Tv)->List Tv->List Tv
 |l::ls,m::ms=>.t (l++[m])::zk ls ms
 |_,_=>[]
mutual
def qi:Mr->Tv
 | .mk f J=>.t (match f with
  | .get z=>[.s "get",.s z]
  | .fn v r=>[.s "fn",.s v,.s r]++qj J
  | .call=>.s "call"::qj J
  | .dw ws=>[.s "box",.t (zk (ws.map λz=>[Tv.s z]) (qj J))]
  | .part z=>.s "part"::(qj J++[.s z])
  | .pick z=>[.s "pick",.s z]++qj J
  | .split cs=>.s "split"::((qj J).take 1++[.t (zk (cs.map λc=>[Tv.s c.1,.s c.2]) ((qj J).drop 1))])
  | .hold r=>.s "hold"::(qj J++[.s r]))
def qj:List Mr->List Tv
 | []=>[]
 |m::l=>qi m::qj l
end
theorem vI:∀l:List Mr,qj l=l.map qi
 | []=>by rw[qj];rfl
 |m::l=>by rw[qj,vI l];rfl
theorem vE:∀(ls:List (List Tv))(a:List Tv)(i:Nat)(h:i<(zk ls a).length)(h1:i<ls.length)(h2:i<a.length),(zk ls a)[i]=.t (ls[i]++[a[i]])
 |l::ls,m::a,0,_,_,_=>rfl
 |l::ls,m::a,i+1,h,h1,h2=>by
  have:=vE ls a i (by simpa[zk]using h) (by simpa using h1) (by simpa using h2);simpa[zk]using this
theorem vY:∀(ls:List (List Tv))(a:List Tv),ls.length=a.length->(zk ls a).length=ls.length
 | [],[],_=>rfl
 |l::ls,m::a,h=>by simp[zk,vY ls a (by simpa using h)]
theorem TD.up{H:Hp}:∀{n:Nat}{v:V}{d:Tv}{k:Nat},TD H n v d->n<=k->TD H k v d
 |n,v,d,k,h,hk=>by
  rcases h.v with⟨z,rfl⟩|⟨z,rfl⟩|⟨a,rfl⟩
  ·obtain rfl:=h.zh;exact TD.str
  ·obtain rfl:=h.zj;exact TD.int
  ·obtain⟨m,M,B,rfl,rfl,h1,h2⟩:=h.uy;obtain⟨j,rfl⟩:∃j,k=j+1:=⟨k-1,by lia⟩
   exact TD.tup h1 ⟨h2.len,λi a b=>TD.up (h2.at_ i a b) (by lia)⟩
 termination_by n=>n
theorem iu.app{B c:Qbi}{M d:List Tv}(h1:iu H n B M)(h2:iu H n c d):iu H n (B++c) (M++d):=by
 have e:=h1.len;have f:=h2.len;refine⟨by simp[e,f],λi a b=>?_⟩;by_cases h:i<B.length
 ·rw[Qe h,Qe (by lia)];exact h1.at_ i h (by lia)
 ·rw[Qf (by lia),Qf (by lia)];simp only[<- e];exact h2.at_ _ (by simp at a;lia) (by simp at a;lia)
theorem kg.NP{ls:List Qbi}{ts:List (List Tv)}{B d:Qbi}{M:List Tv}(h:kg H ls B d)(e:iu H n d M)(g:ls.length=ts.length)(f:∀i(h1:i<ls.length)(h2:i<ts.length),iu H n ls[i] ts[i]):iu H (n+1) B (zk ts M):=by
 have l1:=h.l1;have l2:=h.l2;have j:=e.len;have k:=vY ts M (by lia);refine⟨by lia,λi a b=>?_⟩;obtain⟨c,h1,h2⟩:=h.at_ i a (by lia) (by lia)
 rw[h1,vE ts M i b (by lia) (by lia)];exact TD.tup (.inl h2) ((f i (by lia) (by lia)).app (.cons (e.at_ i (by lia) (by lia)) .nil))
theorem bf.td{v:V}{m:Mr}(h:bf H d v m):TD H (3*d) v (qi m):=by
 induction h with
 | @mk n v f vs J a o b c ih=>
  have j:iu H (3*n) vs (qj J):=by
   rw[vI];exact⟨by simpa using b,λi h1 h2=>by rw[Qr];exact ih i h1 (by simpa using h2)⟩
  have g:iu H (3*n+2) vs (qj J):=⟨j.len,λi h1 h2=>TD.up (j.at_ i h1 h2) (by lia)⟩
  rw[show 3*(n+1)=3*n+2+1 by lia];cases a with
  |get e=>
   rw[qi];exact TD.tup (.inl e) (.cons .str (.cons .str .nil))
  | @fn a0 v0 r0 m0 e=>
   rw[qi];exact TD.tup (.inl e) (iu.app (B:=[.str "fn",.str v0,.str r0]) (.cons .str (.cons .str (.cons .str .nil))) g)
  |call e=>
   rw[qi];exact TD.tup (.inl e) (.cons .str g)
  | @dw a0 b0 ws B ms e e' r=>
   rw[qi];refine TD.tup (.inl e) (.cons .str (.cons (TD.tup (n:=3*n+1) (.inl e') (r.NP j (by simp[d_]) λi h1 h2=>?_)) .nil));simp only[d_,Qr];exact .cons .str .nil
  | @part a0 m0 z e=>
   rw[qi];exact TD.tup (.inl e) (.cons .str (iu.app (B:=[m0]) g (.cons .str .nil)))
  | @pick a0 z m0 e=>
   rw[qi];exact TD.tup (.inl e) (iu.app (B:=[.str "pick",.str z]) (.cons .str (.cons .str .nil)) g)
  | @split a0 b0 cs m0 B ms e e' r=>
   obtain⟨l,k,rfl⟩:∃l k,J=l::k:=by
    cases J with
    |nil=>simp at b
    |cons l k=>exact⟨_,_,rfl⟩
   rw[qi];rw[qj]at j g⊢;have p:iu H (3*n) ms (qj k):=⟨by have:=j.len;simpa using this,λi h1 h2=>by
    have:=j.at_ (i+1) (by simpa using h1) (by simpa using h2)
    simpa using this⟩
   refine TD.tup (.inl e) (.cons .str (.cons (g.at_ 0 (by simp) (by simp)) (.cons (TD.tup (n:=3*n+1) (.inl e') (r.NP p (by simp[fm]) λi h1 h2=>?_)) .nil)));simp only[fm,Qr];exact .cons .str (.cons .str .nil)
  | @hold a0 m0 z e=>
   rw[qi];exact TD.tup (.inl e) (.cons .str (iu.app (B:=[m0]) g (.cons .str .nil)))
theorem XE(m:Mr)(z:Str):qi m=.t [.s "get",.s z]↔m.f=.get z:=by
 obtain⟨f,J⟩:=m;have c:∀{a b:Str},a≠b->Tv.s a≠.s b:=λh q=>h (Tv.s.inj q);cases f with
 |get y=>
  rw[qi];constructor
  ·intro h;have h:=Tv.t.inj h;simp only[List.cons.injEq,Tv.s.injEq,and_true,true_and]at h;rw[h];rfl
  ·intro h;have:y=z:=by simpa[Mr.f]using h
   rw[this]
 |_=>
  rw[qi];constructor
  ·intro h;have h:=Tv.t.inj h;simp only[Qan,Qaz,List.cons.injEq]at h;exact absurd h.1 (c (by decide+kernel))
  ·intro h;cases h
end L2
namespace PySem
open Sem (wp)
section
variable{I:Addr}{wr:Qba}{P:Nat->Value->Prop}{St:Nat->Heap->Prop}
theorem XF(W:Walks prog w A.in1 I fp wr n P St)(g:Nat->Nat->Bool)(N:CmpOf prog w A.in1 .Gt P g)(S:Addr)(D:S∉fp):
  ∀(k j:Nat)(s:Shared)(a:Value)(c:Nat),n-(j+1)=k->j+1<=n->St (j+1) s.heap->P (argBest g j) a->
  s.heap.get? S=some {cls:=.type "list",dict:=none,data:=.seq #[a,a] c,slots:=#[]}->
  (∀v O tk,P (argBest g (n-1)) v->(∀b o,b∉wr->b≠S->s.heap.get? b=some o->O.get? b=some o)->R (.ok (.ret v)) {s with heap:=O,toks:=tk})->
  codeAny (model prog w) A (.builtin "max.loop" ⟨[.ref I,.none,.ref S],kw⟩) R s:=by
 have E:S∉wr:=λh=>D (W.sub _ h);have G:(toString "max"++toString ".loop":String)="max.loop":=by decide
 intro k
 induction k with
 |zero=>
  intro j s a c Q T d r m t;have H:j+1=n:=by lia
  refine codeAny_builtin F.entry_max_loop ?_;rw[QaP F.plain_max_loop _];refine QS (wpAny_seqItems m rfl ?_);refine QS (wpAny_tryCatch (W.done s _ _ (H▸d) λO tk i=>?_));have p:=i S _ E m;refine QS (wpAny_updateSeq p rfl (QS (wpAny_letGo (QT ?_))));exact t a _ tk (by rw[<- H];exact r) λb o u l e=>(wQ _ _ (Ne.symm l)).trans (i b o u e)
 |succ k ih=>
  intro j s a c Q T d r m t;have x:j+1<n:=by lia
  refine codeAny_builtin F.entry_max_loop ?_;rw[QaP F.plain_max_loop _];refine QS (wpAny_seqItems m rfl ?_);refine QS (wpAny_tryCatch (W.item (j+1) s _ _ x d λv O tk K L i=>?_));have p:=i S _ E m;refine QS (QT ?_);refine QS (wpAny_tryCatch (wpAny_holding (QS (N (j+1) (argBest g j) v a _ _ _ K r ?_))));refine QS (wpAny_holding (wpAny_truthy_bool ?_));refine QS (wpAny_letGo (QT ?_));cases u:g (j+1) (argBest g j)with
  |true=>
   simp only[if_true];refine QS (wpAny_updateSeq p rfl (QS (wpAny_letGo ?_)));rw[G];refine QT ⟨plainId_quiet F.plain_max_loop _,ih (j+1) _ v _ (by lia) x (W.frame _ _ _ L λb V o e=>?_) (by simp only[argBest,u,if_true];exact K) (Qah _ p rfl) λy h2 z C f=>?_⟩
   ·exact(wQ _ _ (λh:S=b=>D (by rw[h];exact V))).trans e
   ·exact t y h2 z C λb o q l e=>f b o q l ((wQ _ _ (Ne.symm l)).trans (i b o q e))
  |false=>
   simp only[QaM,if_false];refine QS (wpAny_letGo ?_);rw[G];refine QT ⟨plainId_quiet F.plain_max_loop _,ih (j+1) _ a c (by lia) x L (by simp only[argBest,u,QaM,if_false];exact r) p λy h2 z C f=>?_⟩;exact t y h2 z C λb o q l e=>f b o q l (i b o q e)
theorem zH{d:Value}(W:Walks prog w A.in1 I fp wr n P St)(g:Nat->Nat->Bool)(t:CmpOf prog w A.in1 .Gt P g)(S:Addr)(i:S∉fp){c:Nat}(a:St 0 s.heap)
  (k:s.heap.get? S=some {cls:=.type "list",dict:=none,data:=.seq #[] c,slots:=#[]})
  (l:∀v O tk,(0<n/\P (argBest g (n-1)) v\/n=0/\v=d)->(∀b o,b∉wr->b≠S->s.heap.get? b=some o->O.get? b=some o)->R (.ok (.ret v)) {s with heap:=O,toks:=tk}):
  codeAny (model prog w) A (.builtin "max.loop" ⟨[.ref I,.none,.ref S],[("default",d)]⟩) R s:=by
 have u:S∉wr:=λh=>i (W.sub _ h);have x:(toString "max"++toString ".loop":String)="max.loop":=by decide
 refine codeAny_builtin F.entry_max_loop ?_;rw[QaP F.plain_max_loop _];refine QS (wpAny_seqItems k rfl ?_);rcases Nat.eq_zero_or_pos n with m|hn
 ·refine QS (wpAny_tryCatch (W.done s _ _ (m▸a) λO tk f=>?_));refine QS (wpAny_rule ?_);exact QT (l d _ tk (.inr ⟨m,rfl⟩) λb o y _ e=>f b o y e)
 ·refine QS (wpAny_tryCatch (W.item 0 s _ _ hn a λv O tk z C f=>?_));have p:=f S _ u k;refine QS (QT ?_);refine QS (wpAny_updateSeq p rfl ?_);rw[x];refine QT ⟨plainId_quiet F.plain_max_loop _,XF W g t S i _ 0 _ v _ rfl hn (W.frame _ _ _ C λb D o e=>?_) z (Qah _ p rfl) λE h2 G H j=>?_⟩
  ·exact(wQ _ _ (λh:S=b=>i (by rw[h];exact D))).trans e
  ·exact l E h2 G (.inl ⟨hn,H⟩) λb o q r e=>j b o q r ((wQ _ _ (Ne.symm r)).trans (f b o q e))
end
theorem XG(a v:Value):argsOk "max" ⟨[a],[("default",v)]⟩:=by unfold argsOk;kernel_rfl
theorem XH(v:Value):Builtin.Builtins.bindParams "max" ["key","default"] 0 ⟨[],[("default",v)]⟩=pure [none,some v]:=by rfl
theorem XI {x d:Value}
  (h:wpAny (model prog w) A.in1 (pyIter x) (λf s2=>∃ I fp wr n P St a,f=.ref I/\Walks prog w A.in1 I fp wr n P St/\St 0 s2.heap/\(∀ b∈fp,b < s2.heap.objs.size)/\CmpOf prog w A.in1 .Gt P a/\
   ∀ v O tk,(0 < n/\P (argBest a (n - 1)) v\/n=0/\v=d)->(∀ b o,b ∉ wr->s2.heap.get? b=some o->O.get? b=some o)->Q v {s2 with heap:=O,toks:=tk}) E s):
  wpAny (model prog w) A (call (.builtin "max") [x] [("default",d)]) Q E s:=by
 have g:(toString "max"++toString ".loop":String)="max.loop":=by decide
 refine PyProof.Rows.kmk_tree F.kind_max F.plain_max F.entry_max (XG _ _) ?_
 refine QS (wpAny_of_eq (XH d) ?_)
 refine QS (QT ?_)
 refine QS (wpAny_mono h (λf s2 h2=>?_) λ_ _ e=>e)
 obtain ⟨I,fp,wr,n,P,St,a,rfl,W,c,i,j,k⟩:=h2
 refine QS (wpAny_newObj_type ?_)
 have l:s2.heap.objs.size ∉ fp:=λm=>Qau _ (i _ m)
 rw [g]
 refine QT ⟨plainId_quiet F.plain_max_loop _,zH W a j s2.heap.objs.size l (W.frame _ _ _ c λb _ o e=>Qc _ e) (Qd _ rfl) λv O tk p q=>?_⟩
 exact k v O tk p λb o r e=>q b o r (VD (Qz e)) (Qc _ e)
end PySem
namespace L2
open PySem PySem.Spec PyProof.Rows
section
variable{dv:Expr}{kp pos p:Pos}{td:TE}
def NQ(K:QZ)(te b:TE):TE:=λσ H Q=>te σ H λy H1=>b σ H1 λz H2=>∃(a:Addr)(ns:List Int)(d:Int),y=.ref a/\z=.int d/\ak K H2 a (ns.map V.int)/\∀m,(ns=[]/\m=d\/m∈ns/\∀i∈ns,i<=m)->Q (.int m) H2
theorem XM(T:X.calm=true)(V:Gl X "max")(g:X.mg "max"=none)(he:PE X e te)(hd:PE X dv td)(C:starEach [e] X.env=(false,eval e X.env)::starEach [] X.env:=by rfl)(n:(backTo pos (starEach [e] X.env)).any (·.1)=false:=by rfl):PE X (.Call (.Name "max" p) [e] [⟨some "default",dv,kp⟩] pos) (NQ X.K te td):=by
 intro f s D H Q I h;refine wpAny_Call_Name_kw (iJ I V g PyProof.Rows.boot_max ?_ (by decide) (by decide));refine callWith_kw ?_ (by rw[C];rfl) n;rw[C];refine Calls.spliced_cons (bh (he f s D H _ I h) ?_);rintro u s1 ⟨y,H1,I1,ru,q1⟩;refine Calls.spliced_nil ?_;refine kws_cons (bh (hd f s1 D H1 _ I1 q1) ?_);rintro u2 k ⟨z,E,r,rz,a,c,d,ea,ez,hq,q⟩;subst ea ez;cases ru;obtain⟨td,rfl⟩:=rz;refine kws_nil ?_;show wpAny _ _ (call (.builtin "max") [.ref a] [("default",.int d td)]) _ _ _;obtain⟨its,rv,pl,hz⟩:=r.list hq;have hl:=rv.length;rw[Ql]at hl;have G:a<k.heap.objs.size:=by obtain⟨_,e,_⟩:=pl.isList;exact Qz e
 have get:∀(i:Nat)(v:Value),its.toArray[i]? =some v->∃t,v=.int (c.getD i 0) t:=λi v l=>by
  have L:its[i]? =some v:=by simpa using l
  have m:i<its.length:=(kB.mp L).1;obtain⟨u,h1,h2⟩:=rv.get (i:=i) (x:=.int (c.getD i 0)) (by rw[Qq,Qa (by lia),Qb,Qa (by lia)];rfl);rw[L]at h1;cases h1;exact h2
 refine XI (wpAny_pyIter_list pl.isList ?_);refine⟨k.heap.objs.size,[k.heap.objs.size,a],[k.heap.objs.size],its.toArray.size,_,_,λi j=>decide (c.getD i 0 > c.getD j 0),rfl,Walks.list (A:=X.A.in1) (r.ok.hd T) _ a (VD G) _,
  ⟨⟨_,Qd _ rfl,rfl,rfl⟩,pl.isList.push _⟩,λb N=>?_,λi j vi vj s' Q' E' m hj hQ=>?_,λv O tk l hk=>?_⟩
 ·simp only[Qp,QA,or_false]at N;show b<(k.heap.push _).objs.size;rw[Qag];rcases N with rfl|rfl
  ·exact Nat.lt_succ_self _
  ·exact QaN G
 ·obtain⟨t,rfl⟩:=get i vi m;obtain⟨t',rfl⟩:=get j vj hj;exact PySem.P.gt_int hQ
 ·have R:=r.kept (t':=tk) (O:=O) λb o e=>hk b o (λg=>by rw[qD.mp g]at e;exact Qau _ (Qz e)) (Qc _ e);rcases l with⟨w,l⟩|⟨w,rfl⟩
  ·obtain⟨t,rfl⟩:=get _ v l;obtain⟨g1,g2⟩:=argBest_gt (λi=>c.getD i 0) (its.toArray.size-1);have g:argBest (λi j=>decide (c.getD i 0 > c.getD j 0)) (its.toArray.size-1)<c.length:=by simp at g1 w⊢;lia
   refine⟨.int _,E,R,⟨_,rfl⟩,q _ (.inr ⟨?_,λx hx=>?_⟩)⟩
   ·rw[Qb,Qa g];exact Qj g
   ·obtain⟨i,m,rfl⟩:=Qi hx;have:=g2 i (by simp;lia);simp only[Qb,Qa m,Option.getD_some]at this;simpa[Qb]using this
  ·have:c=[]:=by
    have:its.length=0:=by simpa using w
    exact QaK.mp (by lia)
   exact⟨.int _,E,R,⟨_,rfl⟩,q _ (.inl ⟨this,rfl⟩)⟩
theorem XN(K:QZ)(b:X.calm=true)(c:Gl X "max")(d:X.mg "max"=none)(f:SE X e te)(g:SE X dv td)(i:X.K=K:=by rfl)(j:starEach [e] X.env=(false,eval e X.env)::starEach [] X.env:=by rfl)(a:(backTo pos (starEach [e] X.env)).any (·.1)=false:=by rfl):SE X (.Call (.Name "max" p) [e] [⟨some "default",dv,kp⟩] pos) (NQ K te td):=by
 subst i;exact⟨XM b c d f.h g.h j a⟩
end
section
def SrcAt(tp:Bool)(l:Addr)(a:Array Value)(h:Heap):Prop:=if tp then IsTup h l a else h.IsList l a
def ii(tp:Bool)(c l:Addr)(k:Nat)(h:Heap):Prop:=if tp then IsTupIter h c l k else h.IsListIter c l k
theorem SrcAt.ext(x:SrcAt tp l vs h)(e:Heap.ExtBut b h O)(n:l≠b):SrcAt tp l vs O:=by
 cases tp
 ·exact Heap.IsList.extBut x e n
 ·exact IsTup.extBut x e n
theorem ii.ext{k:Nat}(x:ii tp c l k h)(e:Heap.ExtBut b h O)(n:c≠b):ii tp c l k O:=by
 cases tp
 ·exact Heap.IsListIter.extBut x e n
 ·obtain⟨o,ho,r⟩:=x;exact⟨o,e _ _ n ho,r⟩
theorem ii.at_{k:Nat}(x:ii tp c l k h)(q:∀o,h.get? c=some o->O.get? c=some o):ii tp c l k O:=by
 cases tp
 ·obtain⟨o,ho,r⟩:=x;exact⟨o,q o ho,r⟩
 ·obtain⟨o,ho,r⟩:=x;exact⟨o,q o ho,r⟩
theorem ii.obj{k:Nat}(x:ii tp c l k h):∃o,h.get? c=some o/\∀v,o.data≠.cell v:=by
 cases tp
 ·obtain⟨o,ho,_,d⟩:=x;exact⟨o,ho,λv z=>by rw[d]at z;cases z⟩
 ·obtain⟨o,ho,_,d⟩:=x;exact⟨o,ho,λv z=>by rw[d]at z;cases z⟩
theorem SrcAt.lt(x:SrcAt tp l vs h):l<h.objs.size:=by
 cases tp<;>(obtain⟨o,ho,_⟩:=x;exact Qz ho)
theorem XO{t:Addr}{x:Value}(a:IsTupIter s.heap c t i)(b:IsTup s.heap t vs)(d:vs[i]? =some x)
  (q:∀g,IsTupIter g c t (i+1)->Heap.SameBut c s.heap g->Q x {s with heap:=g}):wpAny (model P w) A (Builtin.SmallTypes.nextOf (.ref c)) Q E s:=by
 obtain⟨ob,e1,e2,e3⟩:=id a;obtain⟨ot,f1,_,m,f3⟩:=b;unfold Builtin.SmallTypes.nextOf;refine QS (wpAny_callSpecial?_slot (name:=Str.ofString "__next__") a.typeIs slot_tupleiter_next (wpAny_call_entry slot_tupleiter_next a.typeIs entry_tupleiter_next ?_ (args_tupleiter_next _)));show wpAny _ _ (field (.ref c) 0 >>=_) _ _ s;refine QS (wpAny_field e1 e3 (x:=.ref t) rfl ?_);show wpAny _ _ (if(Value.ref t==Value.none)=true then _ else _) _ _ s;rw[if_neg (by exact V1)];show wpAny _ _ (field (.ref c) 1 >>=_) _ _ s;refine QS (wpAny_field e1 e3 (x:=.int i 0) rfl ?_);show wpAny _ _ (seqItems? (.ref t) >>=_) _ _ s;refine QS (wpAny_seqItems f1 f3 ?_);simp only[Int.toNat_natCast,d];refine QS (wpAny_setField e1 e3 (by simp) (QT ⟨x,rfl,QT (q _ ⟨_,Qah _ e1 (Obj.isFreed_of_fields (Obj.data_mapFields e3 _)),(Obj.cls_mapFields ..).trans e2,?_⟩ (Heap.SameBut.update ..))⟩));rw[Obj.data_mapFields e3];simp[rawInt]
theorem XQ{t:Addr}(d:A.handled=none)(b:IsTupIter s.heap c t i)(f:IsTup s.heap t vs)(h:vs[i]? =none)
  (q:∀g e,Heap.ExtBut c s.heap g->(∃o,g.get? e=some o/\o.cls=.type "StopIteration")->E (.ref e) {s with heap:=g}):wpAny (model P w) A (Builtin.SmallTypes.nextOf (.ref c)) Q E s:=by
 obtain⟨ob,e1,e2,e3⟩:=id b;obtain⟨ot,f1,_,m,f3⟩:=f;unfold Builtin.SmallTypes.nextOf;refine QS (wpAny_callSpecial?_slot (name:=Str.ofString "__next__") b.typeIs slot_tupleiter_next (wpAny_call_entry slot_tupleiter_next b.typeIs entry_tupleiter_next ?_ (args_tupleiter_next _)));show wpAny _ _ (field (.ref c) 0 >>=_) _ _ s;refine QS (wpAny_field e1 e3 (x:=.ref t) rfl ?_);show wpAny _ _ (if(Value.ref t==Value.none)=true then _ else _) _ _ s;rw[if_neg (by exact V1)];show wpAny _ _ (field (.ref c) 1 >>=_) _ _ s;refine QS (wpAny_field e1 e3 (x:=.int i 0) rfl ?_);show wpAny _ _ (seqItems? (.ref t) >>=_) _ _ s;refine QS (wpAny_seqItems f1 f3 ?_);simp only[Int.toNat_natCast,h];refine QS (wpAny_rule (QS (wpAny_setField e1 e3 (by simp) ?_)));show wpAny _ _ (newExc (.type "StopIteration") [] >>=_) _ _ _;refine QS ?_;simp only[newExc,newTuple];refine QS (wpAny_newObj_type ?_ (by size_fits));refine QS (m:=firstArgMember _ _) (wpAny_of_eq (a:=.none) (by first|rfl|(simp only[firstArgMember];rfl)) ?_);refine wpAny_newObj_type ?_ (by size_fits);simp only[raiseNew];refine QS (wpAny_handled ?_)
 first|rw[show A.in1.handled=none by exact d]|rw[d]
 exact QS (QT (wpAny_throw (q _ _ (((Heap.SameBut.update ..).extBut.push _).push _) ⟨_,Qd _ rfl,rfl⟩)))
theorem y2{x:Value}(a:ii tp c l i s.heap)(b:SrcAt tp l vs s.heap)(d:vs[i]? =some x)
  (q:∀g,ii tp c l (i+1) g->Heap.SameBut c s.heap g->Q x {s with heap:=g}):wpAny (model P w) A (Builtin.SmallTypes.nextOf (.ref c)) Q E s:=by
 cases tp
 ·exact wpAny_nextOf_list_item a b d q
 ·exact XO a b d q
theorem wX(a:A.handled=none)(b:ii tp c l i s.heap)(d:SrcAt tp l vs s.heap)(f:vs[i]? =none)
  (q:∀g e,Heap.ExtBut c s.heap g->(∃o,g.get? e=some o/\o.cls=.type "StopIteration")->E (.ref e) {s with heap:=g}):wpAny (model P w) A (Builtin.SmallTypes.nextOf (.ref c)) Q E s:=by
 cases tp
 ·exact wpAny_nextOf_list_end a b d f q
 ·exact XQ a b d f q
variable{t1 t2:Bool}{z TI TO c1 c2 l1 l2:Addr}{k1 k2:Nat}{B ys:Array Value}{x y a b:Value}
theorem XR {Q:Qbb->Shared->Prop} (D:ZipApart z TI TO c1 c2 l1 l2) (h:IsZip s.heap z TI TO .none) (hI:IsPair s.heap TI (.ref c1) (.ref c2)) (hO:IsPair s.heap TO a b)
  (h1:ii t1 c1 l1 k1 s.heap) (h2:ii t2 c2 l2 k2 s.heap) (s1:SrcAt t1 l1 B s.heap) (s2:SrcAt t2 l2 ys s.heap) (hx:B[k1]? =some x) (hy:ys[k2]? =some y)
  (q:∀ g,IsZip g z TI TO (rawInt s.heap.objs.size)->IsPair g TO x y->ii t1 c1 l1 (k1+1) g->ii t2 c2 l2 (k2+1) g->IsPair g s.heap.objs.size x y->
   (∀ d o,d≠z->d≠TO->d≠c1->d≠c2->s.heap.get? d=some o->g.get? d=some o)->Q (some (.ref s.heap.objs.size)) {s with heap:=g}):wpAny (model P w) A (pyNext (.ref z)) Q E s:=by
 have N:s.TypeIs (.ref z) "zip":=⟨_,h,rfl⟩
 unfold pyNext
 refine QS (wpAny_attempt (wpAny_callSpecial?_slot (name:=Str.ofString "__next__") N F.slot_zip_next (wpAny_call_entry F.slot_zip_next N F.entry_zip_next ?_ (F.args_zip_next_1 _))))
 show wpAny _ _ (field (.ref z) 2 >>=_) _ _ _
 refine QS (wpAny_field h rfl (x:=.bool false) rfl ?_)
 show wpAny _ _ (field (.ref z) 3 >>=_) _ _ _
 refine QS (wpAny_field h rfl (x:=.ref TI) rfl ?_)
 refine QS (wpAny_seqItems hI rfl ?_)
 show wpAny _ _ (Builtin.SmallTypes.ownedTupleIsFree (.ref z) >>=_) _ _ _
 refine QS ?_
 unfold Builtin.SmallTypes.ownedTupleIsFree
 refine QS (wpAny_field h rfl (x:=.none) rfl (QT ?_))
 simp only [if_true]
 refine QS (wpAny_rule (QS (wpAny_field h rfl (x:=.ref TO) rfl ?_)))
 refine QS (wpAny_setField_rec h (by simp) λg1 G f=>?_)
 replace G:IsZip g1 z TI TO .ellipsis:=G
 refine QS ?_
 simp only [List.zipIdx_cons,List.zipIdx_nil,QaU,List.forIn_nil]
 refine QS (QS (wpAny_onRaise ?_))
 show wpAny _ _ (Builtin.SmallTypes.nextOf (.ref c1) >>=_) _ _ _
 refine QS (y2 (h1.ext f.extBut D.i1z) (s1.ext f.extBut D.l1z) hx λg2 m2 i=>QT ?_)
 have R:IsPair g2 TO a b:=i.extBut _ _ D.TOi1 (f.extBut _ _ D.TOz hO)
 refine QS (wpAny_seqItems R rfl (QS (wpAny_updateSeq_pair R λg3 H j=>?_)))
 replace H:IsPair g3 TO x b:=H
 refine QS (wpAny_letGo (QT ?_))
 refine QS (QS (wpAny_onRaise ?_))
 show wpAny _ _ (Builtin.SmallTypes.nextOf (.ref c2) >>=_) _ _ _
 refine QS (y2 (((h2.ext f.extBut D.i2z).ext i.extBut D.i12.symm).ext j.extBut D.TOi2.symm) (((s2.ext f.extBut D.l2z).ext i.extBut D.l2i1).ext j.extBut D.l2TO) hy λg4 m4 k=>QT ?_)
 have T:IsPair g4 TO x b:=k.extBut _ _ D.TOi2 H
 refine QS (wpAny_seqItems T rfl (QS (wpAny_updateSeq_pair T λc m l=>?_)))
 replace m:IsPair c TO x y:=m
 refine QS (wpAny_letGo (QT (QT ?_)))
 refine QS (wpAny_seqItems m rfl (QS (wpAny_newTuple ?_)))
 have V:c.objs.size=s.heap.objs.size:=by rw [l.1,k.1,j.1,i.1,f.1]
 have z5:IsZip c z TI TO .ellipsis:=l.extBut _ _ D.TOz.symm (k.extBut _ _ D.i2z.symm (j.extBut _ _ D.TOz.symm (i.extBut _ _ D.i1z.symm G)))
 have k5:∀ d o,d≠z->d≠TO->d≠c1->d≠c2->s.heap.get? d=some o->c.get? d=some o:=λd o p r I K e=>l.extBut _ _ r (k.extBut _ _ K (j.extBut _ _ r (i.extBut _ _ I (f.extBut _ _ p e))))
 have JP:ii t1 c1 l1 (k1+1) c:=((m2.ext j.extBut D.TOi1.symm).ext k.extBut D.i12).ext l.extBut D.TOi1.symm
 have JQ:ii t2 c2 l2 (k2+1) c:=m4.ext l.extBut D.TOi2.symm
 have zl:z < c.objs.size:=Qz z5
 show wpAny _ _ (Builtin.SmallTypes.ownedTupleHandOut (.ref z) (.ref c.objs.size) >>=_) _ _ _
 refine QS ?_
 unfold Builtin.SmallTypes.ownedTupleHandOut
 have z6:IsZip (c.push {cls:=.type "tuple",data:=.seq #[x,y]}) z TI TO .ellipsis:=Qc _ z5
 refine QS (wpAny_setField_rec z6 (by simp) λg7 L e7=>?_)
 replace L:IsZip g7 z TI TO (rawInt c.objs.size):=L
 refine wpAny_setField_rec L (by simp) λt u e8=>?_
 replace u:IsZip t z TI TO (rawInt c.objs.size):=u
 have C:∀ d o,d≠z->c.get? d=some o->t.get? d=some o:=λd o n e=>e8.extBut _ _ n (e7.extBut _ _ n (Qc _ e))
 have T8:IsPair t c.objs.size x y:=e8.extBut _ _ (QaC zl) (e7.extBut _ _ (QaC zl) (Qd _ rfl))
 rw [V] at u T8
 refine QT ⟨_,rfl,QT ?_⟩
 show Q (some (.ref c.objs.size)) _
 rw [V]
 exact q t u (C _ _ D.TOz m) (JP.at_ λo e=>C _ o D.i1z e) (JQ.at_ λo e=>C _ o D.i2z e) T8 λd o p r I K e=>C d o p (k5 d o p r I K e)
theorem XS{Q:Qbb->Shared->Prop}(G:A.handled=none)(D:ZipApart z TI TO c1 c2 l1 l2)(l:IsZip s.heap z TI TO .none)(hI:IsPair s.heap TI (.ref c1) (.ref c2))(hO:IsPair s.heap TO a b)
  (h1:ii t1 c1 l1 k1 s.heap) (h2:ii t2 c2 l2 k2 s.heap) (s1:SrcAt t1 l1 B s.heap) (s2:SrcAt t2 l2 ys s.heap) (JR:B[k1]? =none\/ys[k2]? =none)
  (q:∀g,(∀d o,d≠z->d≠TO->d≠c1->d≠c2->s.heap.get? d=some o->g.get? d=some o)->Q none {s with heap:=g}):wpAny (model P w) A (pyNext (.ref z)) Q E s:=by
 have H:s.TypeIs (.ref z) "zip":=⟨_,l,rfl⟩
 unfold pyNext;refine QS (wpAny_attempt (wpAny_callSpecial?_slot (name:=Str.ofString "__next__") H F.slot_zip_next (wpAny_call_entry F.slot_zip_next H F.entry_zip_next ?_ (F.args_zip_next_1 _))));have m:∀(g:Heap)(e:Addr),(∀d o,d≠z->d≠TO->d≠c1->d≠c2->s.heap.get? d=some o->g.get? d=some o)->(∃o,g.get? e=some o/\o.cls=.type "StopIteration")->wpAny (model P w) A (do if <- isInstance (.ref e) (.type "StopIteration")then pure none else throw (.ref e)) Q E {s with heap:=g}:=λg e k ⟨o,ho,hc⟩=>
  QS (wpAny_isInstance (T:="StopIteration") (b:=true) ⟨o,ho,hc⟩ isSubtype_stop (QT (q g k)))
 show wpAny _ _ (field (.ref z) 2 >>=_) _ _ _;refine QS (wpAny_field l rfl (x:=.bool false) rfl ?_);show wpAny _ _ (field (.ref z) 3 >>=_) _ _ _;refine QS (wpAny_field l rfl (x:=.ref TI) rfl ?_);refine QS (wpAny_seqItems hI rfl ?_);show wpAny _ _ (Builtin.SmallTypes.ownedTupleIsFree (.ref z) >>=_) _ _ _;refine QS ?_;unfold Builtin.SmallTypes.ownedTupleIsFree;refine QS (wpAny_field l rfl (x:=.none) rfl (QT ?_));simp only[if_true];refine QS (wpAny_rule (QS (wpAny_field l rfl (x:=.ref TO) rfl ?_)));refine QS (wpAny_setField_rec l (by simp) λg1 t c=>?_)
 replace t:IsZip g1 z TI TO .ellipsis:=t
 refine QS ?_;simp only[List.zipIdx_cons,List.zipIdx_nil,QaU,List.forIn_nil];refine QS (QS (wpAny_onRaise ?_));show wpAny _ _ (Builtin.SmallTypes.nextOf (.ref c1) >>=_) _ _ _;cases hx:B[k1]? with
 |none=>
  refine QS (wX G (h1.ext c.extBut D.i1z) (s1.ext c.extBut D.l1z) hx ?_);rintro g2 e f ⟨u,i,n⟩;have I:IsZip g2 z TI TO .ellipsis:=f _ _ D.i1z.symm t;have y:e≠z:=λr=>by subst r;rw[I]at i;cases i;simp at n
  exact wpAny_setField_rec I (by simp) λK _ j=>m K e (λd o p _ C _ r=>j.extBut _ _ p (f _ _ C (c.extBut _ _ p r))) ⟨u,j.extBut _ _ y i,n⟩
 |some x=>
  have hy:ys[k2]? =none:=by rcases JR with h|h;rw[hx]at h;cases h;exact h
  refine QS (y2 (h1.ext c.extBut D.i1z) (s1.ext c.extBut D.l1z) hx λg2 m2 f=>QT ?_);have L:IsPair g2 TO a b:=f.extBut _ _ D.TOi1 (c.extBut _ _ D.TOz hO);refine QS (wpAny_seqItems L rfl (QS (wpAny_updateSeq_pair L λK O3 j=>?_)));refine QS (wpAny_letGo (QT ?_));refine QS (QS (wpAny_onRaise ?_));show wpAny _ _ (Builtin.SmallTypes.nextOf (.ref c2) >>=_) _ _ _;refine QS (wX G (((h2.ext c.extBut D.i2z).ext f.extBut D.i12.symm).ext j.extBut D.TOi2.symm) (((s2.ext c.extBut D.l2z).ext f.extBut D.l2i1).ext j.extBut D.l2TO) hy ?_);rintro g4 e N ⟨u,i,n⟩;have R:IsZip g4 z TI TO .ellipsis:=N _ _ D.i2z.symm (j.extBut _ _ D.TOz.symm (f.extBut _ _ D.i1z.symm t));have y:e≠z:=λr=>by subst r;rw[R]at i;cases i;simp at n
  exact wpAny_setField_rec R (by simp) λg5 _ V=>m g5 e (λd o p n2 C n4 r=>V.extBut _ _ p (N _ _ n4 (j.extBut _ _ n2 (f.extBut _ _ C (c.extBut _ _ p r))))) ⟨u,V.extBut _ _ y i,n⟩
abbrev AF(tp:Bool)(l:Addr):Obj:={cls:=.type (if tp then"tuple_iterator" else"list_iterator"),data:=.fields #[.ref l,.int 0 0]}
theorem JS(h:SrcAt tp l vs s.heap)(q:Q (.ref s.heap.objs.size) {s with heap:=s.heap.push (AF tp l)}):wpAny (model P w) A (pyIter (.ref l)) Q E s:=by
 cases tp
 ·exact wpAny_pyIter_list h q
 ·exact iter_tuple h q
theorem SrcAt.push{tp:Bool}{l:Addr}{a:Array Value}{h:Heap}(x:SrcAt tp l a h)(o:Obj):SrcAt tp l a (h.push o):=by
 cases tp
 ·exact Heap.IsList.push x o
 ·exact IsTup.push x o
end
abbrev JT(a b:Bool)(h:Heap)(c d:Addr):Heap:=(h.push (AF a c)).push (AF b d)
abbrev NR(a b:Bool)(h:Heap)(c d:Addr):Heap:=((JT a b h c d).push {cls:=.type "tuple",data:=.seq #[.ref h.objs.size,.ref (h.objs.size+1)]}).push {cls:=.type "tuple",data:=.seq #[.none,.none]}
abbrev Dm(a b:Bool)(h:Heap)(c d:Addr):Heap:=(NR a b h c d).push {cls:=.type "zip",data:=.fields #[.none,.bool false,.bool false,.ref (h.objs.size+2),.ref (h.objs.size+3)]}
theorem XT(b e:Bool)(a c:Addr)(B f:Array Value):Meets (Builtin.«zip.__new__» ⟨[.type "zip",.ref a,.ref c],[]⟩) (λ_ R s=>SrcAt b a B s.heap/\SrcAt e c f s.heap/\R (.ok (.ret (.ref (s.heap.objs.size+4)))) {s with heap:=Dm b e s.heap a c}):=
 .of_wp λi w A R s h=>by
  obtain⟨hp,g,d,tk,os⟩:=s;obtain⟨a1,a2,h⟩:=h;have l:=sub_zip;have j:SrcAt b a B (Shared.heap ⟨hp,g,d,tk,os⟩):=a1;have k:SrcAt e c f (Shared.heap ⟨hp.push (AF b a),g,d,tk,os⟩):=SrcAt.push a2 _
  wp_walk using JS j,JS k
  refine⟨_,rfl,?_⟩;simp only[Qag]at h⊢;exact h
theorem XU {a d:Bool} {b e:Addr} {B h:Array Value} (m:SrcAt a b B s.heap) (n:SrcAt d e h s.heap)
  (q:∀ g,IsZip g (s.heap.objs.size+4) (s.heap.objs.size+2) (s.heap.objs.size+3) .none->IsPair g (s.heap.objs.size+2) (.ref s.heap.objs.size) (.ref (s.heap.objs.size+1))->IsPair g (s.heap.objs.size+3) .none .none->
   ii a s.heap.objs.size b 0 g->ii d (s.heap.objs.size+1) e 0 g->(∀ c o,s.heap.get? c=some o->g.get? c=some o)->Q (.ref (s.heap.objs.size+4)) {s with heap:=g}):wpAny (model P w) A (call (.type "zip") [.ref b,.ref e]) Q E s:=by
 refine callType_new F.called_zip (by decide) (F.typeCall_zip_2 _ _) (F.newCall_zip_2 _ _) (λf=>F.args_object_init_3 f _ _) F.entry_zip_new (XT a d b e B h) ⟨m,n,?_⟩
 have i:(s.heap.push (AF a b)).objs.size=s.heap.objs.size+1:=Qag ..
 have j:(JT a d s.heap b e).objs.size=s.heap.objs.size+2:=by rw [Qag,i]
 have k:((JT a d s.heap b e).push {cls:=.type "tuple",data:=.seq #[.ref s.heap.objs.size,.ref (s.heap.objs.size+1)]}).objs.size=s.heap.objs.size+3:=by rw [Qag,j]
 have p:(NR a d s.heap b e).objs.size=s.heap.objs.size+4:=by rw [Qag,k]
 have l:(Dm a d s.heap b e).get? (s.heap.objs.size+4)=some {cls:=.type "zip",data:=.fields #[.none,.bool false,.bool false,.ref (s.heap.objs.size+2),.ref (s.heap.objs.size+3)]}:=by rw [<- p];exact Qd _ rfl
 have r:(Dm a d s.heap b e).get? (s.heap.objs.size+3)=some {cls:=.type "tuple",data:=.seq #[.none,.none]}:=Qc _ (by rw [<- k];exact Qd _ rfl)
 have t:(Dm a d s.heap b e).get? (s.heap.objs.size+2)=some {cls:=.type "tuple",data:=.seq #[.ref s.heap.objs.size,.ref (s.heap.objs.size+1)]}:=Qc _ (Qc _ (by rw [<- j];exact Qd _ rfl))
 have g2:(Dm a d s.heap b e).get? (s.heap.objs.size+1)=some (AF d e):=Qc _ (Qc _ (Qc _ (by rw [<- i];exact Qd _ rfl)))
 have g1:(Dm a d s.heap b e).get? s.heap.objs.size=some (AF a b):=Qc _ (Qc _ (Qc _ (Qc _ (Qd _ rfl))))
 refine ⟨⟨_,l,rfl⟩,q _ l t r ?_ ?_ λc o x=>Qc _ (Qc _ (Qc _ (Qc _ (Qc _ x))))⟩
 ·cases a<;>exact ⟨_,g1,rfl,rfl⟩
 ·cases d<;>exact ⟨_,g2,rfl,rfl⟩
def uz(tp:Bool)(K:QZ)(H:Hp)(a:Addr)(B:Qbi):Prop:=if tp then ae K H a B else ak K H a B
theorem Inv.AG{B:Qbi}(I:Inv X U σ H s)(h:uz tp X.K H a B):∃us:Qa9,bu B us/\SrcAt tp a us.toArray s.heap:=by
 cases tp
 ·obtain⟨us,rv,p,_⟩:=I.list h;exact⟨us,rv,p.isList⟩
 ·obtain⟨us,rv,p,_⟩:=I.tuple h;exact⟨us,rv,p⟩
theorem Inv.JU{B b:Qbi}(I:Inv X U σ H s)(h:uz tp X.K H a B)(O:uz tp X.K H a b):B=b:=by
 cases tp
 ·exact I.DW h O
 ·exact I.Io h O
def JV(c d : Bool)(K : QZ)(a b : Addr) : It :=
  ⟨λi H => ∃B ys x y, uz c K H a B /\ uz d K H b ys /\ B[i]? = some x /\ ys[i]? = some y, λi H x Z => ∃e f, (∀B, uz c K H a B -> B[i]? = some e) /\ (∀ys, uz d K H b ys -> ys[i]? = some f) /\ Aq e f H x Z,
   λi H => ∃B ys, uz c K H a B /\ uz d K H b ys /\ (B.length <= i \/ ys.length <= i)⟩
abbrev XW(e f:Bool)(z TI TO c d a b:Addr)(i:Nat)(h:Heap):Prop:=IsZip h z TI TO .none/\IsPair h TI (.ref c) (.ref d)/\(∃u v,IsPair h TO u v)/\ii e c a i h/\ii f d b i h
theorem XX{K:QZ}{k:Nat}{L:Pos}{t1 t2:Bool}(z TI TO m n a b:Addr)(D:ZipApart z TI TO m n a b):Turn P w K (.Tuple yt k L) (JV t1 t2 K a b) [z,TI,TO,m,n] z (XW t1 t2 z TI TO m n a b)where
 mem:=by simp
 obj:=λi h st c l=>by
  obtain⟨hz,gm,⟨u,v,h_⟩,h1,h2⟩:=st;simp only[Qp,QA,or_false]at l;rcases l with rfl|rfl|rfl|rfl|rfl
  ·exact⟨_,hz,λv z=>by have g:Data.fields _=Data.cell v:=z;cases g⟩
  ·exact⟨_,gm,λv z=>by have g:Data.seq _ _=Data.cell v:=z;cases g⟩
  ·exact⟨_,h_,λv z=>by have g:Data.seq _ _=Data.cell v:=z;cases g⟩
  ·exact h1.obj
  ·exact h2.obj
 keep:=λi h t st k=>by
  obtain⟨hz,gm,⟨u,v,h_⟩,h1,h2⟩:=st;exact⟨k z (by simp) _ hz,k TI (by simp) _ gm,⟨u,v,k TO (by simp) _ h_⟩,h1.at_ λo x=>k m (by simp) o x,h2.at_ λo x=>k n (by simp) o x⟩
 item:=by
  intro X N Q R l i j s σ H E I A st T;subst N Q R;obtain⟨hz,gm,⟨u0,v0,h_⟩,h1,h2⟩:=st;obtain⟨B,V,x,y,qz,hq2,hx,C⟩:=T;obtain⟨its,rv,p⟩:=I.AG qz;obtain⟨its2,nc,p2⟩:=I.AG hq2;obtain⟨u,hu,ru⟩:=rv.get hx;obtain⟨u2,Ej,Ek⟩:=nc.get C;refine XR D hz gm h_ h1 h2 p p2 (x:=u) (y:=u2) (by simpa using hu) (by simpa using Ej) λt a1 a2 a3 a4 a5 G=>?_;have I1:Inv X j σ (upd H s.heap.objs.size (.tup [x,y])) {s with heap:=t,toks:=s.toks}:=I.Ga (t':=s.toks) A (λb o d e=>G b o (λz=>d (by simp[z])) (λz=>d (by simp[z])) (λz=>d (by simp[z])) (λz=>d (by simp[z])) e) (Qy _) (oM ru Ek a5);refine⟨_,rfl,wpAny_letOwnedTupleGo_zip (s:={s with heap:=t}) a1 λBb El r=>?_⟩;have cu:∀b∈[z,TI,TO,m,n],b≠s.heap.objs.size:=λc l g=>by
   simp only[Qp,QA,or_false]at l;obtain⟨o1,e1,_⟩:=h1.obj;obtain⟨o2,e2,_⟩:=h2.obj;rcases l with rfl|rfl|rfl|rfl|rfl
   ·exact VD (Qz hz) g
   ·exact VD (Qz gm) g
   ·exact VD (Qz h_) g
   ·exact VD (Qz e1) g
   ·exact VD (Qz e2) g
  have yb:∀b∈[z,TI,TO,m,n],ph X j (upd H s.heap.objs.size (.tup [x,y])) b:=λb d=>by
   obtain⟨f0,f⟩:=A b d;exact⟨by rw[aS (cu b d)];exact f0,f⟩
  obtain⟨f0,f1,f2,f3,f4,f5⟩:=yb z (by simp);refine⟨.ref s.heap.objs.size,_,I1.turned (t':=s.toks) (λb o d q=>(r.2 b d).trans q) f0 f1 f3 f4 f5,rfl,⟨x,y,λV C=>by rw[I.JU C qz];exact hx,λV BS=>by rw[I.JU BS hq2];exact C,_,rfl,I.hok.fresh (Qy _),rfl⟩,?_,λb d=>(yb b d).1⟩;refine⟨El,(r.2 _ D.TIz).trans (G _ _ D.TIz D.TITO D.TIi1 D.TIi2 gm),⟨_,_,(r.2 _ D.TOz).trans a2⟩,a3.at_ λo q=>(r.2 _ D.i1z).trans q,a4.at_ λo q=>(r.2 _ D.i2z).trans q⟩
 done:=by
  intro X N Q R l i j s σ H E I A st T;subst N Q R;obtain⟨hz,gm,⟨u0,v0,h_⟩,h1,h2⟩:=st;obtain⟨B,V,qz,hq2,hx⟩:=T;obtain⟨its,rv,p⟩:=I.AG qz;obtain⟨its2,nc,p2⟩:=I.AG hq2;have hl:=rv.length;have iz:=nc.length;refine XS (I.ok.hd l) D hz gm h_ h1 h2 p p2 ?_ λt G=>⟨rfl,I.Gb (t':=s.toks) A λb o d q=>G b o (λz=>d (by simp[z])) (λz=>d (by simp[z])) (λz=>d (by simp[z])) (λz=>d (by simp[z])) q⟩
  rcases hx with hx|hx
  ·exact .inl (by simp;lia)
  ·exact .inr (by simp;lia)
 self:=λ_ _ _ _ _ st h=>wpAny_pyIter_zip st.1 h
section
variable{k:Nat}{vz p pos:Pos}{a b:Expr}
def XY(a b:Bool)(K:QZ)(c:TA):TI:=λσ H R=>c σ H λvs H1=>∃l m B ys,vs=[.ref l,.ref m]/\uz a K H1 l B/\uz b K H1 m ys/\R (JV a b K l m) H1
theorem JW(r t:Bool)(K:QZ)(u:Gl X "zip")(w:X.mg "zip"=none)(x:SA X [a,b] ta)(y:X.K=K:=by rfl)(z:starEach [a,b] X.env=[(false,eval a X.env),(false,eval b X.env)]:=by rfl)(f:starEach [b] X.env=[(false,eval b X.env)]:=by rfl):
  SI X (.Tuple yt k vz) (.Call (.Name "zip" p) [a,b] [] pos) (XY r t K ta):=by
 subst y;constructor;intro c s i H R I h;refine Call_ (iJ I u w boot_zip (Qam (bh (x.h pos c s i H _ I h) λP d ⟨Q,j,g,A,C⟩=>?_) (by rw[z,f]) (by rw[f];rfl)));obtain⟨l,m,B,ys,e,qz,hq2,q⟩:=C;subst e;obtain⟨u1,u2,rfl,BZ,B0⟩:=A.two;cases BZ;cases B0;obtain⟨its,rv,pl⟩:=g.AG qz;obtain⟨its2,nc,Ar⟩:=g.AG hq2;refine XU pl Ar λD n E G h1 h2 L=>wpAny_pyIter_zip n ?_;have N:Inv X c i j {d with heap:=D}:=g.kept (t':=d.toks) L;refine⟨d.heap.objs.size+4,[d.heap.objs.size+4,d.heap.objs.size+2,d.heap.objs.size+3,d.heap.objs.size,d.heap.objs.size+1],_,_,j,rfl,N,XX _ _ _ _ _ l m ?_,⟨n,E,⟨_,_,G⟩,h1,h2⟩,λb o=>?_,q⟩
 ·exact iQ pl.lt Ar.lt
 ·simp only[Qp,QA,or_false]at o;rcases o with rfl|rfl|rfl|rfl|rfl<;>exact g.yy (by simp) (g.hok.fresh (by simp))
end
theorem x4{e f:Bool}{K:QZ}(B c:Qbi):C0 (JV e f K a b) (λH=>uz e K H a B/\uz f K H b c) (min B.length c.length) (λi=>B.getD i .ao) (λi=>c.getD i .ao):=λH d=>
 ⟨λi o=>⟨⟨B,c,B[i]'(by lia),c[i]'(by lia),d.1,d.2,by simp,by simp⟩,λx g ⟨h,j,k,l,y⟩=>by
  have m:B.getD i V.ao=h:=by rw[Qb,k B d.1];rfl
  have n:c.getD i V.ao=j:=by rw[Qb,l c d.2];rfl
  show Aq (B.getD i .ao) (c.getD i .ao) H x g;rw[m,n];exact y⟩,⟨B,c,d.1,d.2,by lia⟩⟩
theorem NS{p a:Pos}{k:Nat}(F:aq X.prog X.w X.K X.mg X.base k x ps sp)(c:fb k X.A)(d:Gl X x:=by rfl)(e:Qbo x:=by decide):SE X (.Call (.Name x p) [] [] a) (A3 sp [] E0 ip):=by
 obtain⟨f,fd,G,Jc,kp,b,_⟩:=F;exact⟨Si G c d Jc kp b .nil Mt e⟩
section
variable{z TI TO c1 c2 l2:Addr}{k1 k2:Nat}{t:Tok}{ys:Array Value}{y a b:Value}
abbrev AH(h:Heap)(c:Addr)(x:Str)(t:Tok)(k:Nat):Prop:=h.IsStrIter c "str_ascii_iterator" x t k
theorem AH.at_{k:Nat}(e:AH h c x t k)(q:∀o,h.get? c=some o->O.get? c=some o):AH O c x t k:=let ⟨o,ho,r⟩:=e;⟨o,q o ho,r⟩
theorem XZ {c:Nat} {Q:Qbb->Shared->Prop} (D:ZipApart z TI TO c1 c2 l2 l2) (h:IsZip s.heap z TI TO .none) (hI:IsPair s.heap TI (.ref c1) (.ref c2)) (hO:IsPair s.heap TO a b)
  (h1:AH s.heap c1 x t k1) (h2:ii false c2 l2 k2 s.heap) (s2:SrcAt false l2 ys s.heap) (hx:x.cps[k1]? =some c) (hy:ys[k2]? =some y)
  (q:∀ g,IsZip g z TI TO (rawInt s.heap.objs.size)->IsPair g TO (.str ⟨#[c]⟩ s.toks) y->AH g c1 x t (k1+1)->ii false c2 l2 (k2+1) g->IsPair g s.heap.objs.size (.str ⟨#[c]⟩ s.toks) y->
   (∀ d o,d≠z->d≠TO->d≠c1->d≠c2->s.heap.get? d=some o->g.get? d=some o)->Q (some (.ref s.heap.objs.size)) {s with heap:=g,toks:=s.toks+1}):wpAny (model P w) A (pyNext (.ref z)) Q E s:=by
 have T:s.TypeIs (.ref z) "zip":=⟨_,h,rfl⟩
 unfold pyNext
 refine QS (wpAny_attempt (wpAny_callSpecial?_slot (name:=Str.ofString "__next__") T F.slot_zip_next (wpAny_call_entry F.slot_zip_next T F.entry_zip_next ?_ (F.args_zip_next_1 _))))
 show wpAny _ _ (field (.ref z) 2 >>=_) _ _ _
 refine QS (wpAny_field h rfl (x:=.bool false) rfl ?_)
 show wpAny _ _ (field (.ref z) 3 >>=_) _ _ _
 refine QS (wpAny_field h rfl (x:=.ref TI) rfl ?_)
 refine QS (wpAny_seqItems hI rfl ?_)
 show wpAny _ _ (Builtin.SmallTypes.ownedTupleIsFree (.ref z) >>=_) _ _ _
 refine QS ?_
 unfold Builtin.SmallTypes.ownedTupleIsFree
 refine QS (wpAny_field h rfl (x:=.none) rfl (QT ?_))
 simp only [if_true]
 refine QS (wpAny_rule (QS (wpAny_field h rfl (x:=.ref TO) rfl ?_)))
 refine QS (wpAny_setField_rec h (by simp) λg1 I i=>?_)
 replace I:IsZip g1 z TI TO .ellipsis:=I
 refine QS ?_
 simp only [List.zipIdx_cons,List.zipIdx_nil,QaU,List.forIn_nil]
 refine QS (QS (wpAny_onRaise ?_))
 show wpAny _ _ (Builtin.SmallTypes.nextOf (.ref c1) >>=_) _ _ _
 refine QS (wpAny_nextOf_ascii_item (h1.extBut i.extBut D.i1z) hx λg2 m2 j=>QT ?_)
 have V:IsPair g2 TO a b:=j.extBut _ _ D.TOi1 (i.extBut _ _ D.TOz hO)
 refine QS (wpAny_seqItems V rfl (QS (wpAny_updateSeq_pair V λg3 K k=>?_)))
 replace K:IsPair g3 TO (.str ⟨#[c]⟩ s.toks) b:=K
 refine QS (wpAny_letGo (QT ?_))
 refine QS (QS (wpAny_onRaise ?_))
 show wpAny _ _ (Builtin.SmallTypes.nextOf (.ref c2) >>=_) _ _ _
 refine QS (y2 (((h2.ext i.extBut D.i2z).ext j.extBut D.i12.symm).ext k.extBut D.TOi2.symm) (((s2.ext i.extBut D.l2z).ext j.extBut D.l2i1).ext k.extBut D.l2TO) hy λg4 m4 l=>QT ?_)
 have O4:IsPair g4 TO (.str ⟨#[c]⟩ s.toks) b:=l.extBut _ _ D.TOi2 K
 refine QS (wpAny_seqItems O4 rfl (QS (wpAny_updateSeq_pair O4 λf p m=>?_)))
 replace p:IsPair f TO (.str ⟨#[c]⟩ s.toks) y:=p
 refine QS (wpAny_letGo (QT (QT ?_)))
 refine QS (wpAny_seqItems p rfl (QS (wpAny_newTuple ?_)))
 have sz:f.objs.size=s.heap.objs.size:=by rw [m.1,l.1,k.1,j.1,i.1]
 have z5:IsZip f z TI TO .ellipsis:=m.extBut _ _ D.TOz.symm (l.extBut _ _ D.i2z.symm (k.extBut _ _ D.TOz.symm (j.extBut _ _ D.i1z.symm I)))
 have k5:∀ d o,d≠z->d≠TO->d≠c1->d≠c2->s.heap.get? d=some o->f.get? d=some o:=λd o r u L N e=>m.extBut _ _ u (l.extBut _ _ N (k.extBut _ _ u (j.extBut _ _ L (i.extBut _ _ r e))))
 have JP:AH f c1 x t (k1+1):=((m2.extBut k.extBut D.TOi1.symm).extBut l.extBut D.i12).extBut m.extBut D.TOi1.symm
 have JQ:ii false c2 l2 (k2+1) f:=m4.ext m.extBut D.TOi2.symm
 have zl:z < f.objs.size:=Qz z5
 show wpAny _ _ (Builtin.SmallTypes.ownedTupleHandOut (.ref z) (.ref f.objs.size) >>=_) _ _ _
 refine QS ?_
 unfold Builtin.SmallTypes.ownedTupleHandOut
 have z6:IsZip (f.push {cls:=.type "tuple",data:=.seq #[.str ⟨#[c]⟩ s.toks,y]}) z TI TO .ellipsis:=Qc _ z5
 refine QS (wpAny_setField_rec z6 (by simp) λg7 R e7=>?_)
 replace R:IsZip g7 z TI TO (rawInt f.objs.size):=R
 refine wpAny_setField_rec R (by simp) λC G e8=>?_
 replace G:IsZip C z TI TO (rawInt f.objs.size):=G
 have H:∀ d o,d≠z->f.get? d=some o->C.get? d=some o:=λd o n e=>e8.extBut _ _ n (e7.extBut _ _ n (Qc _ e))
 have T8:IsPair C f.objs.size (.str ⟨#[c]⟩ s.toks) y:=e8.extBut _ _ (QaC zl) (e7.extBut _ _ (QaC zl) (Qd _ rfl))
 rw [sz] at G T8
 refine QT ⟨_,rfl,QT ?_⟩
 show Q (some (.ref f.objs.size)) _
 rw [sz]
 exact q C G (H _ _ D.TOz p) (JP.at_ λo e=>H _ o D.i1z e) (JQ.at_ λo e=>H _ o D.i2z e) T8 λd o r u L N e=>H d o r (k5 d o r u L N e)
theorem X0{Q:Qbb->Shared->Prop}(I:A.handled=none)(D:ZipApart z TI TO c1 c2 l2 l2)(m:IsZip s.heap z TI TO .none)(hI:IsPair s.heap TI (.ref c1) (.ref c2))(hO:IsPair s.heap TO a b)
  (h1:AH s.heap c1 x t k1) (h2:ii false c2 l2 k2 s.heap) (s2:SrcAt false l2 ys s.heap) (JR:x.cps[k1]? =none\/ys[k2]? =none)
  (q:∀g tk,(∀d o,d≠z->d≠TO->d≠c1->d≠c2->s.heap.get? d=some o->g.get? d=some o)->Q none {s with heap:=g,toks:=tk}):wpAny (model P w) A (pyNext (.ref z)) Q E s:=by
 have K:s.TypeIs (.ref z) "zip":=⟨_,m,rfl⟩
 unfold pyNext;refine QS (wpAny_attempt (wpAny_callSpecial?_slot (name:=Str.ofString "__next__") K F.slot_zip_next (wpAny_call_entry F.slot_zip_next K F.entry_zip_next ?_ (F.args_zip_next_1 _))));have n:∀(g:Heap)(tk:Tok)(e:Addr),(∀d o,d≠z->d≠TO->d≠c1->d≠c2->s.heap.get? d=some o->g.get? d=some o)->(∃o,g.get? e=some o/\o.cls=.type "StopIteration")->wpAny (model P w) A (do if <- isInstance (.ref e) (.type "StopIteration")then pure none else throw (.ref e)) Q E {s with heap:=g,toks:=tk}:=λg tk e k ⟨o,ho,hc⟩=>
  QS (wpAny_isInstance (T:="StopIteration") (b:=true) ⟨o,ho,hc⟩ isSubtype_stop (QT (q g tk k)))
 show wpAny _ _ (field (.ref z) 2 >>=_) _ _ _;refine QS (wpAny_field m rfl (x:=.bool false) rfl ?_);show wpAny _ _ (field (.ref z) 3 >>=_) _ _ _;refine QS (wpAny_field m rfl (x:=.ref TI) rfl ?_);refine QS (wpAny_seqItems hI rfl ?_);show wpAny _ _ (Builtin.SmallTypes.ownedTupleIsFree (.ref z) >>=_) _ _ _;refine QS ?_;unfold Builtin.SmallTypes.ownedTupleIsFree;refine QS (wpAny_field m rfl (x:=.none) rfl (QT ?_));simp only[if_true];refine QS (wpAny_rule (QS (wpAny_field m rfl (x:=.ref TO) rfl ?_)));refine QS (wpAny_setField_rec m (by simp) λg1 y i=>?_)
 replace y:IsZip g1 z TI TO .ellipsis:=y
 refine QS ?_;simp only[List.zipIdx_cons,List.zipIdx_nil,QaU,List.forIn_nil];refine QS (QS (wpAny_onRaise ?_));show wpAny _ _ (Builtin.SmallTypes.nextOf (.ref c1) >>=_) _ _ _;cases hx:x.cps[k1]? with
 |none=>
  refine QS (wpAny_nextOf_ascii_end I (h1.extBut i.extBut D.i1z) hx ?_);rintro g2 e f ⟨C,j,p⟩;have L:IsZip g2 z TI TO .ellipsis:=f _ _ D.i1z.symm y;have G:e≠z:=λr=>by subst r;rw[L]at j;cases j;simp at p
  exact wpAny_setField_rec L (by simp) λN _ l=>n N _ e (λd o u _ H _ r=>l.extBut _ _ u (f _ _ H (i.extBut _ _ u r))) ⟨C,l.extBut _ _ G j,p⟩
 |some c=>
  have hy:ys[k2]? =none:=by rcases JR with h|h;rw[hx]at h;cases h;exact h
  refine QS (wpAny_nextOf_ascii_item (h1.extBut i.extBut D.i1z) hx λg2 m2 f=>QT ?_);have R:IsPair g2 TO a b:=f.extBut _ _ D.TOi1 (i.extBut _ _ D.TOz hO);refine QS (wpAny_seqItems R rfl (QS (wpAny_updateSeq_pair R λN O3 l=>?_)));refine QS (wpAny_letGo (QT ?_));refine QS (QS (wpAny_onRaise ?_));show wpAny _ _ (Builtin.SmallTypes.nextOf (.ref c2) >>=_) _ _ _;refine QS (wX I (((h2.ext i.extBut D.i2z).ext f.extBut D.i12.symm).ext l.extBut D.TOi2.symm) (((s2.ext i.extBut D.l2z).ext f.extBut D.l2i1).ext l.extBut D.l2TO) hy ?_);rintro g4 e V ⟨C,j,p⟩;have z4:IsZip g4 z TI TO .ellipsis:=V _ _ D.i2z.symm (l.extBut _ _ D.TOz.symm (f.extBut _ _ D.i1z.symm y));have G:e≠z:=λr=>by subst r;rw[z4]at j;cases j;simp at p
  exact wpAny_setField_rec z4 (by simp) λg5 _ e5=>n g5 _ e (λd o u n2 H n4 r=>e5.extBut _ _ u (V _ _ n4 (l.extBut _ _ n2 (f.extBut _ _ H (i.extBut _ _ u r))))) ⟨C,e5.extBut _ _ G j,p⟩
abbrev GW(x:Str)(t:Tok):Obj:={cls:=.type "str_ascii_iterator",data:=.fields #[.str x t,.int 0 0]}
abbrev JX(h:Heap)(x:Str)(t:Tok)(a:Addr):Heap:=(h.push (GW x t)).push (AF false a)
abbrev NT(h:Heap)(x:Str)(t:Tok)(a:Addr):Heap:=((JX h x t a).push {cls:=.type "tuple",data:=.seq #[.ref h.objs.size,.ref (h.objs.size+1)]}).push {cls:=.type "tuple",data:=.seq #[.none,.none]}
abbrev Dn(h:Heap)(x:Str)(t:Tok)(a:Addr):Heap:=(NT h x t a).push {cls:=.type "zip",data:=.fields #[.none,.bool false,.bool false,.ref (h.objs.size+2),.ref (h.objs.size+3)]}
set_option maxHeartbeats 4000000 in
theorem X7(x:Str)(t:Tok)(a:Addr)(b:Array Value):Meets (Builtin.«zip.__new__» ⟨[.type "zip",.str x t,.ref a],[]⟩) (λ_ R s=>x.cps.all (· <128)=true/\SrcAt false a b s.heap/\R (.ok (.ret (.ref (s.heap.objs.size+4)))) {s with heap:=Dn s.heap x t a}):=
 .of_wp λc w A R s h=>by
  obtain⟨hp,g,d,tk,os⟩:=s;obtain⟨ha,a2,h⟩:=h;have f:=sub_zip;have e:SrcAt false a b (Shared.heap ⟨hp.push (GW x t),g,d,tk,os⟩):=SrcAt.push a2 _
  wp_walk using wpAny_pyIter_ascii ha,JS e
  refine⟨_,rfl,?_⟩;simp only[Qag]at h⊢;exact h
theorem X8 (h:x.cps.all (· < 128)=true) (i:SrcAt false l2 ys s.heap)
  (q:∀ g,IsZip g (s.heap.objs.size+4) (s.heap.objs.size+2) (s.heap.objs.size+3) .none->IsPair g (s.heap.objs.size+2) (.ref s.heap.objs.size) (.ref (s.heap.objs.size+1))->IsPair g (s.heap.objs.size+3) .none .none->
   AH g s.heap.objs.size x t 0->ii false (s.heap.objs.size+1) l2 0 g->(∀ c o,s.heap.get? c=some o->g.get? c=some o)->Q (.ref (s.heap.objs.size+4)) {s with heap:=g}):wpAny (model P w) A (call (.type "zip") [.str x t,.ref l2]) Q E s:=by
 refine callType_new F.called_zip (by decide) (F.typeCall_zip_2 _ _) (F.newCall_zip_2 _ _) (λa=>F.args_object_init_3 a _ _) F.entry_zip_new (X7 x t l2 ys) ⟨h,i,?_⟩
 have b:(s.heap.push (GW x t)).objs.size=s.heap.objs.size+1:=Qag ..
 have d:(JX s.heap x t l2).objs.size=s.heap.objs.size+2:=by rw [Qag,b]
 have e:((JX s.heap x t l2).push {cls:=.type "tuple",data:=.seq #[.ref s.heap.objs.size,.ref (s.heap.objs.size+1)]}).objs.size=s.heap.objs.size+3:=by rw [Qag,d]
 have j:(NT s.heap x t l2).objs.size=s.heap.objs.size+4:=by rw [Qag,e]
 have f:(Dn s.heap x t l2).get? (s.heap.objs.size+4)=some {cls:=.type "zip",data:=.fields #[.none,.bool false,.bool false,.ref (s.heap.objs.size+2),.ref (s.heap.objs.size+3)]}:=by rw [<- j];exact Qd _ rfl
 have k:(Dn s.heap x t l2).get? (s.heap.objs.size+3)=some {cls:=.type "tuple",data:=.seq #[.none,.none]}:=Qc _ (by rw [<- e];exact Qd _ rfl)
 have l:(Dn s.heap x t l2).get? (s.heap.objs.size+2)=some {cls:=.type "tuple",data:=.seq #[.ref s.heap.objs.size,.ref (s.heap.objs.size+1)]}:=Qc _ (Qc _ (by rw [<- d];exact Qd _ rfl))
 have g2:(Dn s.heap x t l2).get? (s.heap.objs.size+1)=some (AF false l2):=Qc _ (Qc _ (Qc _ (by rw [<- b];exact Qd _ rfl)))
 have g1:(Dn s.heap x t l2).get? s.heap.objs.size=some (GW x t):=Qc _ (Qc _ (Qc _ (Qc _ (Qd _ rfl))))
 exact ⟨⟨_,f,rfl⟩,q _ f l k ⟨_,g1,rfl,rfl⟩ ⟨_,g2,rfl,rfl⟩ λc o x=>Qc _ (Qc _ (Qc _ (Qc _ (Qc _ x))))⟩
end
def JY(K : QZ)(z : Str)(b : Addr) : It :=
  ⟨λi H => ∃ys c y, ak K H b ys /\ z.cps[i]? = some c /\ ys[i]? = some y, λi H x Z => ∃c a, z.cps[i]? = some c /\ (∀ys, ak K H b ys -> ys[i]? = some a) /\ Aq (.str ⟨#[c]⟩) a H x Z,
   λi H => ∃ys, ak K H b ys /\ (z.cps.size <= i \/ ys.length <= i)⟩
abbrev X9(z TI TO a c:Addr)(x:Str)(t:Tok)(b:Addr)(i:Nat)(h:Heap):Prop:=IsZip h z TI TO .none/\IsPair h TI (.ref a) (.ref c)/\(∃u v,IsPair h TO u v)/\AH h a x t i/\ii false c b i h
theorem X_{K:QZ}{k:Nat}{G:Pos}(z TI TO m n b:Addr)(x:Str)(t:Tok)(D:ZipApart z TI TO m n b b):Turn P w K (.Tuple yt k G) (JY K x b) [z,TI,TO,m,n] z (X9 z TI TO m n x t b)where
 mem:=by simp
 obj:=λi h st c l=>by
  obtain⟨hz,gm,⟨u,v,h_⟩,h1,h2⟩:=st;simp only[Qp,QA,or_false]at l;rcases l with rfl|rfl|rfl|rfl|rfl
  ·exact⟨_,hz,λv z=>by have g:Data.fields _=Data.cell v:=z;cases g⟩
  ·exact⟨_,gm,λv z=>by have g:Data.seq _ _=Data.cell v:=z;cases g⟩
  ·exact⟨_,h_,λv z=>by have g:Data.seq _ _=Data.cell v:=z;cases g⟩
  ·obtain⟨o,ho,_,d⟩:=h1;exact⟨o,ho,λv z=>by rw[d]at z;cases z⟩
  ·exact h2.obj
 keep:=λi h r st k=>by
  obtain⟨hz,gm,⟨u,v,h_⟩,h1,h2⟩:=st;exact⟨k z (by simp) _ hz,k TI (by simp) _ gm,⟨u,v,k TO (by simp) _ h_⟩,h1.at_ λo x=>k m (by simp) o x,h2.at_ λo x=>k n (by simp) o x⟩
 item:=by
  intro X L N Q l i j s T H E I A st R;subst L N Q;obtain⟨hz,gm,⟨u0,v0,h_⟩,h1,h2⟩:=st;obtain⟨V,cc,y,hq2,hx,hy⟩:=R;obtain⟨its2,nc,p2⟩:=I.AG (tp:=false) hq2;obtain⟨u2,Ej,Ek⟩:=nc.get hy;refine XZ D hz gm h_ h1 h2 p2 hx (y:=u2) (by simpa using Ej) λr a1 a2 a3 a4 a5 C=>?_;have I1:Inv X j T (upd H s.heap.objs.size (.tup [.str ⟨#[cc]⟩,y])) {s with heap:=r,toks:=s.toks+1}:=I.Ga (t':=s.toks+1) A (λb o a e=>C b o (λz=>a (by simp[z])) (λz=>a (by simp[z])) (λz=>a (by simp[z])) (λz=>a (by simp[z])) e) (Qy _) (oM ⟨_,rfl⟩ Ek a5);refine⟨_,rfl,wpAny_letOwnedTupleGo_zip (s:={s with heap:=r,toks:=s.toks+1}) a1 λBb El p=>?_⟩;have cu:∀b∈[z,TI,TO,m,n],b≠s.heap.objs.size:=λc l g=>by
   simp only[Qp,QA,or_false]at l;obtain⟨o1,e1,_⟩:=h1;obtain⟨o2,e2,_⟩:=h2.obj;rcases l with rfl|rfl|rfl|rfl|rfl
   ·exact VD (Qz hz) g
   ·exact VD (Qz gm) g
   ·exact VD (Qz h_) g
   ·exact VD (Qz e1) g
   ·exact VD (Qz e2) g
  have yb:∀b∈[z,TI,TO,m,n],ph X j (upd H s.heap.objs.size (.tup [.str ⟨#[cc]⟩,y])) b:=λb a=>by
   obtain⟨f0,f⟩:=A b a;exact⟨by rw[aS (cu b a)];exact f0,f⟩
  obtain⟨f0,f1,f2,f3,f4,f5⟩:=yb z (by simp);refine⟨.ref s.heap.objs.size,_,I1.turned (t':=s.toks+1) (λb o a q=>(p.2 b a).trans q) f0 f1 f3 f4 f5,rfl,⟨cc,y,hx,λV BS=>by rw[I.JU (tp:=false) BS hq2];exact hy,_,rfl,I.hok.fresh (Qy _),rfl⟩,?_,λb a=>(yb b a).1⟩;refine⟨El,(p.2 _ D.TIz).trans (C _ _ D.TIz D.TITO D.TIi1 D.TIi2 gm),⟨_,_,(p.2 _ D.TOz).trans a2⟩,a3.at_ λo q=>(p.2 _ D.i1z).trans q,a4.at_ λo q=>(p.2 _ D.i2z).trans q⟩
 done:=by
  intro X L N Q l i j s T H E I A st R;subst L N Q;obtain⟨hz,gm,⟨u0,v0,h_⟩,h1,h2⟩:=st;obtain⟨V,hq2,hx⟩:=R;obtain⟨its2,nc,p2⟩:=I.AG (tp:=false) hq2;have iz:=nc.length;refine X0 (I.ok.hd l) D hz gm h_ h1 h2 p2 ?_ λr tk C=>⟨rfl,I.Gb (t':=tk) A λb o a q=>C b o (λz=>a (by simp[z])) (λz=>a (by simp[z])) (λz=>a (by simp[z])) (λz=>a (by simp[z])) q⟩
  rcases hx with hx|hx
  ·exact .inl (by simp;lia)
  ·exact .inr (by simp;lia)
 self:=λ_ _ _ _ _ st h=>wpAny_pyIter_zip st.1 h
section
variable{k:Nat}{vz p pos:Pos}{a b:Expr}
def Yb(K:QZ)(a:TA):TI:=λσ H R=>a σ H λvs H1=>∃z m ys,vs=[.str z,.ref m]/\z.cps.all (· <128)=true/\ak K H1 m ys/\R (JY K z m) H1
theorem Yc(K:QZ)(o:Gl X "zip")(r:X.mg "zip"=none)(u:SA X [a,b] ta)(w:X.K=K:=by rfl)(x:starEach [a,b] X.env=[(false,eval a X.env),(false,eval b X.env)]:=by rfl)(f:starEach [b] X.env=[(false,eval b X.env)]:=by rfl):
  SI X (.Tuple yt k vz) (.Call (.Name "zip" p) [a,b] [] pos) (Yb K ta):=by
 subst w;constructor;intro c s j H R I h;refine Call_ (iJ I o r boot_zip (Qam (bh (u.h pos c s j H _ I h) λN d ⟨P,l,g,y,A⟩=>?_) (by rw[x,f]) (by rw[f];rfl)));obtain⟨z,m,ys,e,i,hq2,q⟩:=A;subst e;obtain⟨u1,u2,rfl,BZ,B0⟩:=y.two;obtain⟨t,rfl⟩:=(show ∃t,u1=Value.str z t from BZ)
 cases B0;obtain⟨its2,nc,Ar⟩:=g.AG (tp:=false) hq2;refine X8 i Ar λC i D E h1 h2 G=>wpAny_pyIter_zip i ?_;have L:Inv X c j l {d with heap:=C}:=g.kept (t':=d.toks) G;refine⟨d.heap.objs.size+4,[d.heap.objs.size+4,d.heap.objs.size+2,d.heap.objs.size+3,d.heap.objs.size,d.heap.objs.size+1],_,_,l,rfl,L,X_ _ _ _ _ _ m z t ?_,⟨i,D,⟨_,_,E⟩,h1,h2⟩,λb n=>?_,q⟩
 ·exact iQ Ar.lt Ar.lt
 ·simp only[Qp,QA,or_false]at n;rcases n with rfl|rfl|rfl|rfl|rfl<;>exact g.yy (by simp) (g.hok.fresh (by simp))
end
theorem Yd{K:QZ}(a:Qbi):C0 (JY K z b) (λH=>ak K H b a) (min z.cps.size a.length) (λi=>.str ⟨#[z.cps.getD i 0]⟩) (λi=>a.getD i .ao):=λH d=>
 ⟨λi l=>⟨⟨a,z.cps[i]'(by lia),a[i]'(by lia),d,by simp,by simp⟩,λx e ⟨c,f,g,h,y⟩=>by
  have j:a.getD i V.ao=f:=by rw[Qb,h a d];rfl
  have k:z.cps.getD i 0=c:=by rw[Array.getD_eq_getD_getElem?,g];rfl
  show Aq (.str ⟨#[z.cps.getD i 0]⟩) (a.getD i .ao) H x e;rw[k,j];exact y⟩,⟨a,d,by lia⟩⟩
section
variable{st:Expr}{ts:TE}{p2 pos:Pos}
def Ye:R2:=λx y H Q=>∃a b B,x=.ref a/\y=.ref b/\H a=some (.tup B)/\H b=some (.tup [])/\Q (.bl (!B.isEmpty)) H
theorem Yg(i:X.A.units+20<cLine):ck X (compareOp .NotEq) Ye:=by
 intro d s k H x y v u Q I f g h;obtain⟨a,b,B,rfl,rfl,ha,hb,q⟩:=h;cases f;cases g;obtain⟨i1,r1,p1,_⟩:=I.tuple (ae.of ha);obtain⟨i2,r2,p2,_⟩:=I.tuple (ae.of hb);cases r2;refine SeqAt.RcNeAt.tuples (e:=λ_=>true) p1 p2 (by lia) (λj h1 h2=>absurd h2 (by simp)) _ _ _ _ ?_;have e:((List.range (min i1.toArray.size ([]:Qa9).toArray.size)).all (λ_=>true)&&i1.toArray.size==([]:Qa9).toArray.size)=B.isEmpty:=by
  have c:=r1.length;cases B with
  |nil=>simp at c;simp[<- c]
  |cons x B=>cases i1 with
   |nil=>simp at c
   |cons u us=>simp
 rw[e];exact⟨.bl (!B.isEmpty),H,I,rfl,q⟩
end
theorem Yh(b:Scope)(a:Qa8)(h:sc.kind=.function/\(∀y∈sc.names,y.2≠.cell)/\(∀y∈sc.names,y.2=.local->sc.names.lookup y.1=some .local)/\(∀y∈sc.names,y.2=.free->(b.names.lookup y.1=some .cell\/b.names.lookup y.1=some .free))/\(∀j∈idx,sc.names.lookup (a.getD j "")=some .free/\j<a.length)/\N'=own++idx.map (λj=>a.getD j "")):tq b a sc own idx N':=⟨h.1,h.2.1,h.2.2.1,h.2.2.2.1,h.2.2.2.2.1,h.2.2.2.2.2⟩
theorem bI{P:Qa8}(h:sc.kind=.function/\sc.isCoroutine=false/\sc.isGenerator=false/\N.Nodup/\N.take P.length=P/\(∀x∈P,sc.names.lookup x=some .local\/sc.names.lookup x=some .cell)/\∀y∈sc.names,y.2≠.free):dg N P sc:=⟨h.1,h.2.1,h.2.2.1,h.2.2.2.1,h.2.2.2.2.1,h.2.2.2.2.2.1,h.2.2.2.2.2.2⟩
end L2
namespace L2
open PySem PySem.Spec PySem.W PyProof.Rows
section
variable{K:Frag}{e:Addr}{ox:Obj}{od:Option Obj}
theorem Yi{Q:Qbb->Shared->Prop}(X:K.In s.heap)(I:InstAt s.heap e ox C od)(x:ue K C)(h:Q (some (.ref C)) {s with toks:=s.toks+1}):wpAny (model P w) A (getAttr? (.ref e) "__class__") Q E s:=by
 obtain⟨own,lq,hx⟩:=x.xc;obtain⟨cd,hc,_,_⟩:=mQ hx;have b:findObj K C od "__class__"=some (.bind (.builtin "getset_descriptor.__get__") (.builtin "object.__class__")):=by
  have c:specialIn K (.builtin "object.__class__") "__get__"=some (some (.builtin "getset_descriptor.__get__")):=by kernel_rfl
  have a:takesIn K (.builtin "object.__class__")=some true:=by kernel_rfl
  unfold findObj;rw[hc,Qao,x.ic,Qao];simp[c,a]
 have a:Looks (model P w) s.heap (typeOf (.ref e)) (.ref C):=I.type;unfold getAttr? getAttrBy? getAttrBy;refine QS (wpAny_mkText (QS (wpAny_attempt (wpAny_holding (QS (a _ _ _ _ (λ_ _ e=>e) (QS (looks_findIn X x.ga _ _ _ _ (λ_ _ e=>e) ?_))))))));dsimp only;rw[show(onTheHeap (.ref C)&&Value.builtin "BaseException.__getattribute__"==Value.builtin "object.__getattribute__")=false from by rw[show(Value.builtin "BaseException.__getattribute__"==Value.builtin "object.__getattribute__")=false from by decide+kernel,Bool.and_false],if_neg (by decide)];have d:Looks (model P w) s.heap (hookBefore (.ref C)) none:=by
  unfold hookBefore;rw[if_pos (by rfl)];exact looks_findIn X x.gk
 refine QS (d _ _ _ _ (λ_ _ e=>e) (QS (wpAny_attempt (wpAny_holding ?_))));unfold callGetattribute;rw[show(false&&onTheHeap (Value.builtin "BaseException.__getattribute__"))=false from rfl,if_neg (by decide)];unfold boundAndCalled;rw[PySem.F.attr_ValueError.ga.bind];refine QS (QT ?_);show wpAny _ _ (call (.builtin "BaseException.__getattribute__") [.ref e,.str "__class__" s.toks]) _ _ _;refine wpAny_call ?_;refine codeAny_call_builtin PySem.F.attr_ValueError.ga.plain PySem.F.entry_bexc_ga ?_;refine @check_slot (model P w) _ _ {s with toks:=s.toks+1} "BaseException.__getattribute__" "BaseException" "__getattribute__" (.ref e) [.str "__class__" s.toks] [] _ (by decide+kernel) (by decide+kernel) (a.andThen (looks_subIn X (qA hx (by decide)))) (PySem.F.args_bexc_ga (.ref e) (.str "__class__" s.toks)) ?_;have f:=looks_find (M:=model P w) X I b;unfold Builtin.«object.__getattribute__»;refine QS (QT (QS (QT (QS (a _ _ _ _ (λ_ _ e=>e) (QS (f _ _ _ _ (λ_ _ e=>e) ?_)))))));show wpAny _ _ (holding [.builtin "object.__class__"] (call (.builtin "getset_descriptor.__get__") [.builtin "object.__class__",.ref e,.ref C]) >>=ret) _ _ _;have g:mroIn K C (.type "object")=some true:=qA hx (by decide);refine QS (wpAny_holding (wpAny_call (class_get (s:={s with toks:=s.toks+1}) X I g (QT ?_))));show wpAny _ _ (handedOut (.ref C)) _ _ _;rw[handedOut_of rfl];exact QT (QT h)
theorem Yj(x:ue K C):KitX K (.ref e) (.ref C) (λh=>∃ox od,InstAt h e ox C od):=by
 obtain⟨own,lq,hx⟩:=x.xc;obtain⟨nm,q,N',bs,sn,sub,ab,col,dd,k0,k1,k2,k3,k5,lk,_⟩:=lH hx;exact{
  ty:=λ_ _ _ ⟨_,_,I⟩=>I.type
  it:=λ_ _ X _=>by
   intro d f g i k q;unfold isType loadHead;exact QS (wpAny_loadPart (k _ _ (X _ _ lk)) (QT q))
  ne:=λh a dd b n j X c=>by
   refine Bool.eq_false_iff.mpr λq=>?_;have e:C=a:=Value.ref.inj (beq_iff_eq.mp q);subst e;have z:=congrArg Obj.data (QD ((X _ _ lk).symm.trans c));cases z
  ca:=λX ⟨_,_,I⟩ k=>Yi X I x k}
end
def GX(H:Hp)(e C:Addr)(dct:Option Addr):Prop:=H e=some (ku C dct e)\/H e=some (nq C dct e)
def GY(H:Hp)(e C:Addr):Prop:=∃dct,GX H e C dct/\∀dx,dct=some dx->∃fs,H dx=some (.xd fs)
def JZ(K:Frag)(C:Addr):V->Bool->Prop
 | .ref B,b=>ue K B/\subIn K (.ref C) (.ref B)=some b
 | .ty T,b=>T="ValueError"/\b=true
 |_,_=>False
def J0(K:Frag)(C:Addr):Qbi->Bool->Prop
 | [],b=>b=false
 |c::r,b=>∃v,JZ K C c v/\if v=true then b=true else J0 K C r b
section
variable{K:Frag}{e:Addr}
theorem GX.cls(x:GX H e C dct)(ok:dm P w H h):∃vs:Array Value,h.get? e=some {cls:=.ref C,dict:=dct,data:=.fields vs}:=by
 rcases x with x|x
 ·obtain⟨t,q⟩:uw h e C dct:=(show c_ P w H h e (ku C dct e)from ok e _ x).1;exact⟨_,q⟩
 ·exact(show c_ P w H h e (nq C dct e)from ok e _ x).1
theorem GY.inst(x:GY H e C)(ok:dm P w H h):∃ox od,InstAt h e ox C od:=by
 obtain⟨dct,x,y⟩:=x;obtain⟨vs,q⟩:=x.cls ok;cases dct with
 |none=>exact⟨_,none,q,rfl,rfl,trivial⟩
 |some dx=>
  obtain⟨fs,z⟩:=y dx rfl;obtain⟨mA,uv,_⟩:c_ P w H h dx (.xd fs):=ok dx _ z;obtain⟨od,J1,_⟩:=mO uv;exact⟨_,some od,q,rfl,rfl,J1⟩
theorem xZ{c:V}{b:Bool}(x:ue K C)(h:JZ K C c b)(r:RelV c u):kitOne K (.ref C) u=some b:=by
 cases c with
 |ref B=>
  obtain⟨xb,hs⟩:=h;obtain rfl:u=.ref B:=r;unfold kitOne;by_cases z:(Value.ref C==Value.ref B)=true
  ·rw[if_pos z];have e:C=B:=Value.ref.inj (beq_iff_eq.mp z);subst e;obtain⟨own,lq,hx⟩:=x.xc;obtain⟨cd,h1,h2,_⟩:=mQ hx;have:subIn K (.ref C) (.ref C)=some true:=by
    show mroIn K C _=_;unfold mroIn;rw[h1,Qao,h2,if_neg (by simp[wo])];simp[wo]
   rw[<- this,hs]
  ·rw[if_neg z];unfold kitCls;dsimp only;have N:=xb.nm;obtain⟨cd,hc⟩:=N.cl;rw[if_pos (by rw[hc,N.ty];rfl),hs]
 |ty T=>
  obtain⟨rfl,rfl⟩:=h;obtain rfl:u=.type "ValueError":=r;obtain⟨own,lq,hx⟩:=x.xc;unfold kitOne;rw[if_neg (by simp)];have z:kitMeta "ValueError"=true:=by decide+kernel
  show(if kitMeta "ValueError"=true then subIn K (.ref C) (.type "ValueError")else none)=_;rw[if_pos z];exact qA hx (by decide)
 |_=>exact h.elim
theorem qS{b:Bool}(x:ue K C):∀{cs:Qbi}{us:Qa9},J0 K C cs b->bu cs us->kitAny K (.ref C) us=some b
 | [],_,h,.nil=>by cases h;rfl
 |c::r,_,⟨v,hv,h⟩,.cons r1 r2=>by
  unfold kitAny;rw[xZ x hv r1];cases v with
  |true=>rw[if_pos rfl]at h;rw[h]
  |false=>rw[if_neg (by decide)]at h;exact qS x h r2
end
def Yl(K:Frag):Qbi->Hp->VK->Prop:=λB H Q=>∃e c C,B=[.ref e,c]/\GY H e C/\ue K C/\((∃b,JZ K C c b/\Q (.bl b) H)\/∃a ys b,c=.ref a/\H a=some (.tup ys)/\J0 K C ys b/\Q (.bl b) H)
theorem rW(K:Frag)(i:X.K=K:=by rfl):jq X (.builtin "isinstance") (Yl K):=by
 subst i;intro g s l H m o Q I r h;obtain⟨e,c,C,rfl,eh,xa,h⟩:=h;obtain⟨u,v,rfl,ru,rv⟩:=r.two;obtain rfl:u=.ref e:=ru;have Z:=Yj (e:=e) xa;have J:=eh.inst I.hok;rcases h with⟨b,d,q⟩|⟨a,j,b,rfl,k,d,q⟩
 ·exact kia_one Z I.fi J (xZ xa d rv) (λz=>nomatch z) λf=>⟨.bl b,H,I.tok f,rfl,q⟩
 ·obtain rfl:v=.ref a:=rv;obtain⟨_,its,ry,⟨oc,od,Gx,jf⟩,ho,jt,n,hd⟩:=(show c_ X.prog X.w H s.heap a (.tup j)from I.hok a _ k)
  dsimp only at jt hd;subst jt;subst hd;exact kia_tup Z I.fi J ho (qS xa d ry) (λz=>nomatch z) λf=>⟨.bl b,H,I.tok f,rfl,q⟩
def Ym(K:Frag)(a:TE)(f:Str):TE:=λσ H Q=>a σ H λx H1=>∃e C dx fs v,x=.ref e/\GX H1 e C (some dx)/\H1 dx=some (.xd fs)/\ue K C/\findIn K (.ref C) f=some none/\fs.lookup f=some v/\Q v H1
theorem Yn{i:TE}{f:Str}{d:Pos}(K:Frag)(m:SE X e i)(p:X.K=K:=by rfl)(r:attributeBase e f X.env (eval e X.env)=eval e X.env:=by rfl):SE X (.Attribute e f d) (Ym K i f):=by
 subst p;constructor;intro b s t H Q I h;refine Sd r (bh (m.h b s t H _ I h) ?_);rintro u y ⟨x,j,c,z,a,C,k,A,v,D,E,G,g,n,l,q⟩;subst D;obtain rfl:u=Value.ref a:=z;obtain⟨vs,ho⟩:=E.cls c.hok;obtain⟨mA,uv,hr⟩:c_ X.prog X.w j y.heap k (.xd A):=c.hok k _ G;obtain⟨od,J1,hl⟩:=mO uv;obtain⟨u,hu,ru⟩:=oz.some_of (v:=v) (o:=mA f) (by rw[<- l];exact hr f);obtain⟨own,lq,hx⟩:=g.xc;obtain⟨cd,c1,c2,c3⟩:=mQ hx;refine Xj (od:=some od) c.fi ⟨ho,rfl,rfl,J1⟩ g.ga g.gk (qA hx (by decide)) (findObj_own (by unfold hasDictIn;rw[c1];exact c3) n rfl (by rw[hl,hu])) (zN ru) ⟨v,j,c.tok _,ru,q⟩
end L2
namespace L2
open PySem PySem.Spec PyProof.Rows
section
variable{a b o i0 iter elt:Expr}{ta tb td ty:TE}{pos p:Pos}{ya:Scope}{P:Qa8}{tt:TC}
theorem aN(K:QZ)(c:SE X a ta)(d:SE X b tb)(e:IJ b:=by exact λ_ _=>rfl)(h:X.K=K:=by rfl):SE X (.Subscript a b pos) (s_ (Ef K) ta tb):=UX (UL K h) c d e
theorem jV(a:X.A.units+1<cLine)(b:SE X o td)(c:SE X i0 ty)(d:D9 i0:=by exact λ_ _=>rfl):SE X (.Subscript o i0 pos) (IQ td ty):=UW a b c d
theorem bS(i:Nat)(a:X.N.Nodup)(b:X.N[i]? =some x:=by rfl)(c:Loc X.env.scope x:=by first|exact Or.inl rfl|exact Or.inr rfl)(d:Qbn X x:=by first|exact .inl rfl|exact .inr rfl|assumption):SG X (.Name x pos) (jk i):=MG a b c d
theorem cD(i:Nat)(a:X.N.Nodup:=by first|(dsimp only[fz];decide+kernel)|(dsimp only[fz];assumption))(b:X.N[i]? =some x:=by rfl)(c:Loc X.env.scope x:=by first|exact Or.inl rfl|exact Or.inr rfl)(d:Qbn X x:=by first|exact .inl rfl|exact .inr rfl|assumption):SG X (.Name x pos) (jk i):=MG a b c d
theorem aQ(i:Nat)(a:X.N.Nodup)(b:SE X e te)(c:X.N[i]? =some x:=by rfl)(d:Loc X.env.scope x:=by first|exact Or.inl rfl|exact Or.inr rfl)(f:swapsWith e (some (.Name x pos')) pos.line X.env=pure false:=by rfl)(g:Qbn X x:=by first|exact .inl rfl|exact .inr rfl|assumption):
  SS X (.Assign [.Name x pos'] e pos) (sf te (jk i)):=U0 a c d b f g
theorem aR{k:Nat}(F:aq X.prog X.w X.K X.mg X.base j x ps sp)(b:fb k X.A)(c:SA X (e::Y) t)(d:j<=k:=by first|decide|lia)(f:Gl X x:=by rfl)(g:Qbo x:=by decide)
  (h:Qbl X e Y:=by rfl) (a:Qbm X pos Y:=by rfl):
  SE X (.Call (.Name x p) (e::Y) [] pos) (A3 sp [] E0 t):=UY F (b.mono d) c f g h a
theorem bY{id:String}{r:Qbi->Hp->VK->Prop}(b:jq X (.builtin id) r)(c:X.mg x=none)(hv:bootBuiltins x=some (.builtin id))(d:SA X (e::Y) t)(f:Gl X x:=by rfl)(g:x≠"__name__":=by decide)(h:Qbo x:=by decide)
  (i:Qbl X e Y:=by rfl) (a:Qbm X pos Y:=by rfl):SE X (.Call (.Name x p) (e::Y) [] pos) (BK r t):=UZ b f c hv d g h i a
theorem dG{r:Qbi->Hp->VK->Prop}(b:jq X (.type T) r)(c:X.mg x=none)(hv:bootBuiltins x=some (.type T))(d:SA X (e::Y) t)(f:Gl X x:=by rfl)(g:x≠"__name__":=by decide)(h:Qbo x:=by decide)
  (i:Qbl X e Y:=by rfl) (a:Qbm X pos Y:=by rfl):SE X (.Call (.Name x p) (e::Y) [] pos) (BK r t):=U7 b f c hv d g h i a
theorem wI(c:ck X (compareOp op) r)(d:SE X a ta)(e:SE X b tb)(f:behindInMarks op b=false:=by first|exact LY _|rfl):SE X (.Compare a [op] [b] pos) (s_ r ta tb):=US c d e f
theorem aK(c:ck X (compareOp op) r)(d:SE X a ta)(e:SE X b tb)(f:behindInMarks op b=false:=by first|exact LY _|rfl):ST X (.Compare a [op] [b] pos) (IB (s_ r ta tb)):=UT c d e f
theorem d6{a:Scope}{b:Qa8}(S:dg N P ya)(h:sc.kind=.function/\(∀y∈sc.names,y.2≠.cell)/\(∀y∈sc.names,y.2=.local->sc.names.lookup y.1=some .local)/\(∀y∈sc.names,y.2=.free->(ya.names.lookup y.1=some .cell\/ya.names.lookup y.1=some .free))/\(∀j∈idx,sc.names.lookup (N.getD j "")=some .free/\j<N.length)/\N'=own++idx.map (λj=>N.getD j ""):=by decide+kernel)(c:a=ya:=by rfl)(d:b=N:=by rfl):tq a b sc own idx N':=by subst c d;exact Yh a b h
theorem iB(own:Qa8)(idx:Qbc)(N':Qa8)(S:tq X.env.scope X.N sc own idx N')(c:SI X tg iter wi)
  (d:∀cl C a H0 fp b,SG (fz X N' sc cl C a H0 fp b) tg g) (e:∀cl C a H0 fp b,SE (fz X N' sc cl C a H0 fp b) elt te) (f:X.calm=true:=by rfl)
  (h:∀x,foldedSetIterable iter X.env x=pure x:=by intro _;rfl):SE X (.ListComp elt [⟨tg,iter,[],0⟩] sc pos) (Eb own idx wi g IU te):=MH S f c d (λ_ _ _ _ _ _=>rA) e h
end
abbrev af(a:Addr):Qbj:=some (.ref a)
abbrev bg(n:Int):Qbj:=some (.int n)
abbrev cg(z:Str):Qbj:=some (.str z)
abbrev be(B:Qbi):Option HO:=some (.lst B)
abbrev bw(B:Qbi):Option HO:=some (.tup B)
abbrev Cf(kvs:Qbf):Option HO:=some (.dK kvs)
theorem ki:0<=sizeLine:=by decide
theorem ik:1<=sizeLine:=by decide
theorem bx:2<=sizeLine:=by decide
theorem gz:3<=sizeLine:=by decide
theorem Cg:4<=sizeLine:=by decide
theorem eJ{B:Qbi}{v:V}(h:i<B.length)(e:B[i]=v):B.getD i .ao=v:=by rw[Qb,Qa h,e];rfl
theorem xU{l:List α}(h:i<l.length):l.take (i+1)=l.take i++[l[i]]:=by rw[Qs,Qa h];rfl
theorem c9{k:Nat}(r:fb k A):A.units+1<cLine/\A.units<cLine/\sizeLine=16777216:=⟨fX r,Qx (fX r),QL⟩
end L2
set_option maxHeartbeats 400000
--ab0 125
--SEE
--EXC
namespace T1
open PySem L2
structure Txt(K:QZ)(mg:Str->Qbb)(w:World):Prop where
 oh:mg "len"=none
 iF:mg "isinstance"=none
 J6:mg "all"=none
 k7:mg "range"=none
 Yo:mg "bool"=none
 wJ:mg "list"=none
 dX:mg "tuple"=none
 lZ:mg "dict"=none
 Yp:mg "sorted"=none
 uT:mg "enumerate"=none
 EI:mg "zip"=none
 NU:mg "max"=none
 Yq:mg "sum"=none
 a1I:mg "ValueError"=none
 u8:∃(a t0 t1 t2 t3 t4 t5 t6 t7:Addr),mg "PLACES"=some (.ref a)/\KD w K a [(.inr "get",.ref t0),(.inr "fn",.ref t1),(.inr "call",.ref t2),(.inr "box",.ref t3),(.inr "part",.ref t4),(.inr "pick",.ref t5),(.inr "split",.ref t6),(.inr "hold",.ref t7)]/\(∀H,ae K H t0 [.str "name"])/\(∀H,ae K H t1 [.str "name",.str "row",.str "maker"])/\(∀H,ae K H t2 [.str "maker",.str "maker"])/\(∀H,ae K H t3 [.str "parts"])/\(∀H,ae K H t4 [.str "maker",.str "name"])/\(∀H,ae K H t5 [.str "name",.str "maker"])/\(∀H,ae K H t6 [.str "maker",.str "cases"])/\(∀H,ae K H t7 [.str "maker",.str "row"])
 kC:∃u,mg "MOST_MAKERS"=some u/\RelV (.int 400) u
 kF:∃u,mg "MOST_WITHIN"=some u/\RelV (.int 40) u
 uP:cz K mg "makers_in" jR ["maker"]
 qC:cz K mg "with_makers" gY ["maker","inner"]
 Yr:cz K mg "run" J5 ["maker","n"]
 xB:cz K mg "is_value" kY ["maker"]
 vQ:cz K mg "next_step" iT ["maker"]
 qM:cz K mg "first_to_do" gX ["maker"]
 pD:cz K mg "done_at_once" fO ["maker"]
 vR:cz K mg "put_in" pL ["maker","v","value"]
 qO:cz K mg "names_bound" gJ ["maker"]
 pJ:cz K mg "replaced" kM ["maker","place","other"]
 pS:cz K mg "refuse_large" fQ ["maker"]
 wW:cz K mg "_law_fill" kX ["_law_cell","_law_at"]
 xR:cz K mg "_law_next" kN ["_law_pen","_law_many"]
 rZ:cz K mg "_law_turned" iC ["_law_pen","_law_some"]
 uY:cz K mg "_law_words" jT ["_law_pen"]
 xN:cz K mg "_law_head" kJ ["_law_pen","_law_names","_law_ahead"]
 qJ:cz K mg "_law_telling" gQ ["_law_pen","_law_most"]
 zD:cz K mg "_law_any" mL ["_law_pen","_law_told"]
 pT:cz K mg "_law_row_here" fM ["_law_told","_law_name"]
 nU:cz K mg "_law_head_here" eR ["_law_told","_law_name"]
 kA:cz K mg "_law_maker_telling" d5 ["_law_pen","_law_most"]
 qP:cz K mg "_law_endless" gP []
 mX:cz K mg "_law_name_bound" eE ["_law_pen"]
 rE:cz K mg "_law_for" mT ["_law_pen","_law_told","_law_name","_law_known","_law_deep"]
 qF:cz K mg "_law_wrapped" h9 ["_law_pen","_law_told","_law_name","_law_known","_law_deep"]
 mG:cz K mg "_law_split_over" eC ["_law_pen","_law_told","_law_name","_law_known","_law_deep"]
 oY:cz K mg "_law_many" kO ["_law_maker"]
 u9:cz K mg "_law_parts" jB ["_law_maker"]
 lF:cz K mg "_law_small_maker" dO ["_law_pen","_law_told","_law_name"]
 qR:cz K mg "_law_rebuilt" hU ["_law_maker","_law_at","_law_one"]
 hV:cz K mg "_law_bent_maker" eB ["_law_pen","_law_maker"]
 rV:cz K mg "_law_put" lV ["_law_maker","_law_name","_law_value"]
 jQ:cz K mg "_law_is_value" fP ["_law_maker"]
 uZ:cz K mg "_law_comes" iW ["_law_maker"]
 kG:cz K mg "_law_next_of" gZ ["_law_maker"]
 pZ:cz K mg "_law_deep" kQ ["_law_maker"]
 zT:cz K mg "_law_run" mW ["_law_maker","_law_n"]
 vX:cz K mg "_law_asked" jU ["_law_maker","_law_n"]
 iO:cz K mg "_law_is_closed" eW ["_law_maker","_law_known"]
 qI:cz K mg "_law_growing" gI ["_law_pen","_law_name"]
 wB:cz K mg "_law_picks" jI ["_law_many_here","_law_maker"]
 wV:cz K mg "_law_gets" kU ["_law_name","_law_sizes"]
 nW:cz K mg "_law_at_bounds" eQ ["_law_name"]
 NV:cz K mg "law" nI ["script"]
 J7:GK K mg "CoilError"
 NW:Dh K mg "NoText" "NoText.__init__" kH ["self","number"] ["number"]
 Ci:Dh K mg "TooMany" "TooMany.__init__" fN ["self","many"] ["many"]
 NX:GK K mg "NoTelling"
 ab4:PySem.W.subIn K (.ref (adr mg "CoilError")) (.ref (adr mg "CoilError"))=some true
 ab5:PySem.W.subIn K (.ref (adr mg "CoilError")) (.ref (adr mg "NoText"))=some false
 ab6:PySem.W.subIn K (.ref (adr mg "CoilError")) (.ref (adr mg "TooMany"))=some false
 ab7:PySem.W.subIn K (.ref (adr mg "CoilError")) (.ref (adr mg "NoTelling"))=some false
 ab8:PySem.W.subIn K (.ref (adr mg "NoText")) (.ref (adr mg "CoilError"))=some true
 ab9:PySem.W.subIn K (.ref (adr mg "NoText")) (.ref (adr mg "NoText"))=some true
 ab_:PySem.W.subIn K (.ref (adr mg "NoText")) (.ref (adr mg "TooMany"))=some false
 ab':PySem.W.subIn K (.ref (adr mg "NoText")) (.ref (adr mg "NoTelling"))=some false
 Ys:PySem.W.subIn K (.ref (adr mg "TooMany")) (.ref (adr mg "CoilError"))=some true
 Yt:PySem.W.subIn K (.ref (adr mg "TooMany")) (.ref (adr mg "NoText"))=some false
 Yu:PySem.W.subIn K (.ref (adr mg "TooMany")) (.ref (adr mg "TooMany"))=some true
 Yv:PySem.W.subIn K (.ref (adr mg "TooMany")) (.ref (adr mg "NoTelling"))=some false
 acd:PySem.W.subIn K (.ref (adr mg "NoTelling")) (.ref (adr mg "CoilError"))=some true
 ace:PySem.W.subIn K (.ref (adr mg "NoTelling")) (.ref (adr mg "NoText"))=some false
 acf:PySem.W.subIn K (.ref (adr mg "NoTelling")) (.ref (adr mg "TooMany"))=some false
 acg:PySem.W.subIn K (.ref (adr mg "NoTelling")) (.ref (adr mg "NoTelling"))=some true
theorem nM:dg ["self","many"] ["self","many"] (bz fN):=bI (by decide+kernel)
theorem dJ:dg ["maker","found","what","one"] ["maker"] (bz jR):=bI (by decide+kernel)
theorem bZ:dg ["maker","inner","made","at","what","one"] ["maker","inner"] (bz gY):=bI (by decide+kernel)
theorem jF:dg ["maker","n","done","place","becomes"] ["maker","n"] (bz J5):=bI (by decide+kernel)
theorem jK:dg ["maker","waiting","one"] ["maker"] (bz kY):=bI (by decide+kernel)
theorem d3:dg ["maker","place","k"] ["maker"] (bz iT):=bI (by decide+kernel)
theorem dQ:dg ["maker","inner","k","one"] ["maker"] (bz gX):=bI (by decide+kernel)
theorem bV:dg ["maker","form","parts","cases","v","inner"] ["maker"] (bz fO):=bI (by decide+kernel)
theorem i9:dg ["maker","v","value","bound","inner"] ["maker","v","value"] (bz pL):=bI (by decide+kernel)
theorem iY:dg ["maker"] ["maker"] (bz gJ):=bI (by decide+kernel)
theorem jE:dg ["maker","place","other","inner"] ["maker","place","other"] (bz kM):=bI (by decide+kernel)
theorem bL:dg ["maker","waiting","many","deepest","one","deep"] ["maker"] (bz fQ):=bI (by decide+kernel)
theorem j9:dg ["_law_cell","_law_at","_law_x"] ["_law_cell","_law_at"] (bz kX):=bI (by decide+kernel)
theorem dH:dg ["_law_pen","_law_many","_law_at","_law_cell","_law_found"] ["_law_pen","_law_many"] (bz kN):=bI (by decide+kernel)
theorem gG:dg ["_law_pen","_law_some","_law_left","_law_found"] ["_law_pen","_law_some"] (bz iC):=bI (by decide+kernel)
theorem lS:dg ["_law_pen"] ["_law_pen"] (bz jT):=bI (by decide+kernel)
theorem fU:dg ["_law_pen","_law_names","_law_ahead","_law_way","_law_one"] ["_law_pen","_law_names","_law_ahead"] (bz kJ):=bI (by decide+kernel)
theorem cW:dg ["_law_pen","_law_most","_law_size","_law_names","_law_rows","_law_k"] ["_law_pen","_law_most"] (bz gQ):=bI (by decide+kernel)
theorem wT:dg ["_law_pen","_law_told"] ["_law_pen","_law_told"] (bz mL):=bI (by decide+kernel)
theorem eP:dg ["_law_told","_law_name","_law_rows"] ["_law_told","_law_name"] (bz fM):=bI (by decide+kernel)
theorem mK:dg ["_law_told","_law_name"] ["_law_told","_law_name"] (bz eR):=bI (by decide+kernel)
theorem j7:dg ["_law_pen","_law_most"] ["_law_pen","_law_most"] (bz d5):=bI (by decide+kernel)
theorem iU:dg ["_law_self"] [] (bz gP):=bI (by decide+kernel)
theorem l9:dg ["_law_pen"] ["_law_pen"] (bz eE):=bI (by decide+kernel)
theorem bW:dg ["_law_pen","_law_told","_law_name","_law_known","_law_deep","_law_here","_law_row","_law_some","_law_inner","_law_bound","_law_made","_law_word","_law_other","_law_parts_here"] ["_law_pen","_law_told","_law_name","_law_known","_law_deep"] (bz mT):=bI (by decide+kernel)
theorem bH:dg ["_law_pen","_law_told","_law_name","_law_known","_law_deep","_law_way","_law_made","_law_other","_law_inner","_law_bound","_law_first","_law_at","_law_cases"] ["_law_pen","_law_told","_law_name","_law_known","_law_deep"] (bz h9):=bI (by decide+kernel)
theorem bC:dg ["_law_pen","_law_told","_law_name","_law_known","_law_deep","_law_rows","_law_row","_law_held","_law_cases","_law_word","_law_other","_law_bound","_law_inner","_law_made"] ["_law_pen","_law_told","_law_name","_law_known","_law_deep"] (bz eC):=bI (by decide+kernel)
theorem iS:dg ["_law_maker"] ["_law_maker"] (bz kO):=bI (by decide+kernel)
theorem f9:dg ["_law_maker","_law_word"] ["_law_maker"] (bz jB):=bI (by decide+kernel)
theorem dB:dg ["_law_pen","_law_told","_law_name","_law_deep","_law_found"] ["_law_pen","_law_told","_law_name"] (bz dO):=bI (by decide+kernel)
theorem dS:dg ["_law_maker","_law_at","_law_one","_law_word","_law_rows"] ["_law_maker","_law_at","_law_one"] (bz hU):=bI (by decide+kernel)
theorem bE:dg ["_law_pen","_law_maker","_law_parts_here","_law_at","_law_way","_law_some","_law_get","_law_e"] ["_law_pen","_law_maker"] (bz eB):=bI (by decide+kernel)
theorem fG:dg ["_law_maker","_law_name","_law_value","_law_parts_here","_law_k"] ["_law_maker","_law_name","_law_value"] (bz lV):=bI (by decide+kernel)
theorem eU:dg ["_law_maker"] ["_law_maker"] (bz fP):=bI (by decide+kernel)
theorem cZ:dg ["_law_maker","_law_word","_law_one","_law_case","_law_bound"] ["_law_maker"] (bz iW):=bI (by decide+kernel)
theorem cC:dg ["_law_maker","_law_parts_here","_law_k","_law_found"] ["_law_maker"] (bz gZ):=bI (by decide+kernel)
theorem iR:dg ["_law_maker"] ["_law_maker"] (bz kQ):=bI (by decide+kernel)
theorem dE:dg ["_law_maker","_law_n","_law_done","_law_found"] ["_law_maker","_law_n"] (bz mW):=bI (by decide+kernel)
theorem cX:dg ["_law_maker","_law_n","_law_caught","_law_found","e"] ["_law_maker","_law_n"] (bz jU):=bI (by decide+kernel)
theorem cM:dg ["_law_maker","_law_known","_law_word"] ["_law_maker","_law_known"] (bz eW):=bI (by decide+kernel)
theorem cV:dg ["_law_pen","_law_name","_law_held","_law_more","_law_self","_law_fn"] ["_law_pen","_law_name"] (bz gI):=bI (by decide+kernel)
theorem iL:dg ["_law_many_here","_law_maker","_law_k"] ["_law_many_here","_law_maker"] (bz jI):=bI (by decide+kernel)
theorem dI:dg ["_law_name","_law_sizes","_law_found","_law_word","_law_size","_law_row"] ["_law_name","_law_sizes"] (bz kU):=bI (by decide+kernel)
theorem bP:dg ["_law_name","_law_value","_law_wide","_law_found","_law_more","_law_inner","_law_deep_here","_law_both"] ["_law_name"] (bz eQ):=bI (by decide+kernel)
theorem eA:dg ["script","_law_pen","_law_told","_law_makers","_law_k","_law_maker","_law_turn","_law_n","_law_growing_one"] ["script"] (bz nI):=bI (by decide+kernel)
section
variable{K:QZ}
inductive J8 (vs:Qbi)(H:Hp)(Q:VK)(b_:XK):Prop
 |mk (c t:Int):vs=[.int c,.int t]->0<=t/\t<1000000000->(∀r:Int,Q (.int r) H)->J8 vs H Q b_
theorem vG(T:Txt K mg w):aq P w K mg base 1 "_law_fill" ["_law_cell","_law_at"] J8:=by
 refine T.wW.dh j9 ?_ ?_
 ·rintro _ _ _ _ ⟨c,t,rfl,_⟩;rfl
 ·rintro f l A a s H m Q E n ⟨c,t,rfl,⟨o,p⟩,k⟩;refine⟨_,(aE (bF (aK Ux (zv 0) (bN Uw aF aF)) (aI (aU (zv 0))) aW)
   (aE (aQ 2 j9.nd (bN fV (bN bT (bN bT (bN fA (bN fV (zv 0) aF) aF) (bN fA (zv 1) aF)) aF) aF))
   (aE (aQ 2 j9.nd (bN fV (bN bT (bN bT (bN fA (zv 2) (zv 2)) (bN fA aF (zv 2))) (zv 1)) aF))
   (aI (aU (bN bT (bN fA (zv 2) aF) (bN fV (bN bT (bN fA (zv 2) (zv 2)) (bN fA aF (zv 1))) aF))))))),?_⟩
  refine⟨⟨by decide,by decide,by decide⟩,_,rfl,F0 (λe=>k _) (λe=>?_)⟩;refine⟨by decide,.inl ⟨?_,?_⟩,.inl ⟨by lia,by lia⟩,by decide,?_⟩
  ·have:=Int.emod_nonneg c (show(2147483647:Int)≠0 by decide);lia
  ·have:=QaX c (show(0:Int)<2147483647 by decide);lia
  generalize b:(c % 2147483647*48271+t*69621+11) % 2147483629=x;have g:0<=x:=by rw[<- b];exact Int.emod_nonneg _ (by decide)
  have h:x<2147483629:=by rw[<- b];exact QaX _ (by decide)
  refine⟨.inl ⟨by lia,by lia⟩,.inl ⟨by decide,by decide⟩,by decide,?_⟩;generalize d:(x*x+48271*x+t) % 2147483587=y;have i:0<=y:=by rw[<- d];exact Int.emod_nonneg _ (by decide)
  have j:y<2147483587:=by rw[<- d];exact QaX _ (by decide)
  exact⟨.inl ⟨by lia,by lia⟩,.inl ⟨by lia,by lia⟩,.inl ⟨by decide,by decide⟩,by decide,k _⟩
inductive NY (K:QZ)(vs:Qbi)(H:Hp)(Q:VK)(b_:XK):Prop
 |mk (p a:Addr) (ns:List Int) (m t x:Int):vs=[.ref p,.int m]->H p=be [.ref a,.int t,.int x]->(∀o,ak K (upd H p o) a (ns.map V.int))->ak K H a (ns.map V.int)->0<=t/\t<1000000->0<m/\m<1073741824->(∀r t' x':Int,0<=r->r<m->0<=t'->t'<=t+1->Q (.int r) (upd H p (.lst [.ref a,.int t',.int x'])))->NY K vs H Q b_
theorem EJ(x y z:α):kq [x,y,z] 0=some x:=rfl
theorem Yx(x y z:α):kq [x,y,z] 1=some y:=rfl
theorem J9(x y z:α):kq [x,y,z] 2=some z:=rfl
theorem vF(T:Txt K mg w):aq P w K mg base 2 "_law_next" ["_law_pen","_law_many"] (NY K):=by
 refine T.xR.dh dH ?_ ?_
 ·rintro _ _ _ _ ⟨p,a,b,m,t,x,rfl,_⟩;rfl
 ·rintro f az A q s H vs Q E R ⟨p,a,b,m,t,x,rfl,g,rg,j,⟨u,Yw⟩,⟨y,G0⟩,k⟩;refine⟨_,(aE (bF (aK mF (aN K (zv 0) aF) (zv 1)) (aE (aQ 2 dH.nd (aN K (zv 0) aF))
   (aE (aQ 3 dH.nd aF)
   (aE (bF (aK mF (zv 2) (bY (bR K) T.oh Qae (aJ (aN K (zv 0) aF) aC))) (aI (aQ 3 dH.nd (aN K (aN K (zv 0) aF) (zv 2)))) (aI (bF (aK gK (bY (bR K) T.oh Qae (aJ (aN K (zv 0) aF) aC)) aF) (aI (aQ 3 dH.nd (bN bT (bN fV (aN K (aN K (zv 0) aF) (bN fV (bN fA (zv 2) aF) (bY (bR K) T.oh Qae (aJ (aN K (zv 0) aF) aC)))) aF) (bN fA (zv 2) aF)))) aW)))
   (aE (i6 (bN bT (zv 2) aF) (pQ (zv 0) aF fF))
   (aI (i6 (aR (vG T) R (aD (zv 3) (aD (zv 2) aC))) (pQ (zv 0) aF fF))))))) aW)
   (aE (aQ 4 dH.nd (bN fV (aN K (zv 0) aF) (zv 1)))
   (aE (i6 (bN Uu (aN K (zv 0) aF) (zv 1)) (pQ (zv 0) aF fF))
   (aI (aU (zv 4)))))),?_⟩
  refine aT (λd h=>X4 fun(G I:Qbj)(l n:Int)=>d=[af p,bg m,G,I,none]/\h p=be [.ref a,.int l,.int n]/\(h=H\/∃o,h=upd H p o)/\0<=l/\l<=t+1) ?_ ?_
  ·intro nx L;refine⟨_,.int x,.inl (ak.of g),J9 _ _ _,_,rfl,F0 (λhk=>?_) (λhk=>?_)⟩
   ·refine aM ⟨_,.int t,.inl (ak.of g),Yx _ _ _,?_⟩;refine i5 ?_;refine aT (λd h=>h=H/\∃c:Int,d=[af p,bg m,bg t,bg c,none]) ?_ ?_
    ·intro NZ z;refine⟨_,.ref a,.inl (ak.of g),EJ _ _ _,.inl ⟨_,.inl j,_,rfl,F0 (λC=>?_) (λC=>?_)⟩⟩
     ·obtain⟨c,p_,jr⟩:=lK (b.map V.int) t u (by have:=Qt C;lia);have i:t.toNat<b.length:=by
       have:=Qt C;rw[Ql]at this;lia
      have D:c=.int (b[t.toNat]):=by
       rw[Qq,Qa i]at p_;exact(QD p_).symm
      subst D;exact⟨_,.ref a,.inl (ak.of g),EJ _ _ _,_,_,.inl j,jr,z _ _ ⟨rfl,_,rfl⟩⟩
     ·refine⟨_,.ref a,.inl (ak.of g),EJ _ _ _,.inl ⟨_,.inl j,_,rfl,F0 (λN=>?_) (λN=>?_)⟩⟩
      ·have Yy:=Qt N;have ag:0<(b.map V.int).length:=by lia
       have e0:=Int.emod_nonneg (t*7) (show((b.map V.int).length:Int)≠0 by lia);have e1:=QaX (t*7) (show(0:Int)<(b.map V.int).length by lia);obtain⟨c,p_,jr⟩:=lK (b.map V.int) (t*7 % ((b.map V.int).length:Int)) e0 e1;have i:(t*7 % ((b.map V.int).length:Int)).toNat<b.length:=by
        have e2:(b.map V.int).length=b.length:=Ql _
        lia
       have D:c=.int (b[(t*7 % ((b.map V.int).length:Int)).toNat]):=by
        rw[Qq,Qa i]at p_;exact(QD p_).symm
       subst D;refine⟨_,.ref a,.inl (ak.of g),EJ _ _ _,.inl ⟨by lia,by lia⟩,_,.ref a,.inl (ak.of g),EJ _ _ _,.inl ⟨_,.inl j,Yy,_,_,.inl j,jr,by decide,.inl ⟨by lia,by lia⟩,z _ _ ⟨rfl,_,rfl⟩⟩⟩
      ·exact z _ _ ⟨rfl,0,rfl⟩
    ·rintro d h ⟨rfl,c,rfl⟩;refine⟨p,_,1,1,rfl,rfl,g,rfl,?_⟩;refine⟨c,t,rfl,⟨u,by lia⟩,λr=>?_⟩;refine⟨p,_,2,2,rfl,rfl,aB,rfl,?_⟩;rw[sQ];exact L _ _ ⟨_,_,t+1,r,rfl,aB,.inr ⟨_,rfl⟩,by lia,by lia⟩
   ·exact L _ _ ⟨none,none,t,x,rfl,g,.inl rfl,u,by lia⟩
  ·rintro d h ⟨G,I,l,n,rfl,h1,h2,h3,h4⟩;refine⟨_,.int n,.inl (ak.of h1),J9 _ _ _,y,?_⟩;refine⟨_,.int n,.inl (ak.of h1),J9 _ _ _,⟨y,G0⟩,p,_,2,2,rfl,rfl,h1,rfl,?_⟩;have e:∀o,upd h p o=upd H p o:=λo=>by
    rcases h2 with rfl|⟨o',rfl⟩
    ·rfl
    ·exact sQ
   rw[e];exact k _ l _ (Int.emod_nonneg _ (by lia)) (QaX _ y) h3 h4
structure cj(K:QZ)(H0 H:Hp)(p:Addr)(t:Nat):Prop where
 ex:∃(a:Addr)(ns:List Int)(u x:Int),H p=some (.lst [.ref a,.int u,.int x])/\(∀Z,Sm p p H0 Z->ak K Z a (ns.map V.int))/\0<=u/\u<=(t:Int)
 sm:Sm p p H0 H
section
variable{D:Addr}{t u:Nat}
theorem cj.mono(h:cj K H0 H p t)(l:t<=u):cj K H0 H p u:=by
 obtain⟨a,ns,y,x,h1,h2,h3,h4⟩:=h.ex;exact⟨⟨a,ns,y,x,h1,h2,h3,by lia⟩,h.sm⟩
theorem cj.same(h:cj K H0 H p t)(s:aa H Z):cj K H0 Z p t:=by
 obtain⟨a,ns,y,x,h1,h2⟩:=h.ex;exact⟨⟨a,ns,y,x,s _ _ h1,h2⟩,h.sm.trans s.sm⟩
theorem cj.ne(h:cj K H0 H p t)(a:H D=none):D≠p:=λe=>by
 obtain⟨_,_,_,_,z,_⟩:=h.ex;rw[<- e,a]at z;cases z
theorem cj.free(h:cj K H0 H p t)(a:H D=none):H0 D=none:=h.sm.free a (h.ne a) (h.ne a)
theorem cj.put(h:cj K H0 H p t)(h1:D≠p)(h2:H0 D=none):cj K H0 (upd H D o) p t:=by
 obtain⟨a,ns,y,x,e1,e2⟩:=h.ex;exact⟨⟨a,ns,y,x,by rw[aS h1.symm];exact e1,e2⟩,h.sm.upd h2⟩
theorem cj.ts(h:cj K H0 H p t)(s:Sm p p H Z):Tk H Z:=λb a e=>by
 obtain⟨_,_,_,_,z,_⟩:=h.ex;have n:b≠p:=λq=>by rw[q,z]at e;cases e
 exact s _ _ e n n
end
inductive uf (K:QZ)(vs:Qbi)(H:Hp)(Q:VK)(b_:XK):Prop
 |mk (H0:Hp) (p:Addr) (m:Int) (t:Nat):vs=[.ref p,.int m]->cj K H0 H p t->0<m/\m<1073741824->t<900000->(∀(r:Int)(Z:Hp),0<=r->r<m->cj K H0 Z p (t+1)->Sm p p H Z->Q (.int r) Z)->uf K vs H Q b_
theorem yD(h:j<n):ur n (j:Int)=some j:=by
 unfold ur;rw[if_pos (by lia),if_pos (by lia)];simp
theorem pC{α:Type}:∀{ls:List α}{i:Nat}(h:i<ls.length),(ls[i]::ls.eraseIdx i).Perm ls
 |x::r,0,_=>List.Perm.refl _
 |x::r,i+1,h=>by
  have ih:=pC (ls:=r) (i:=i) (by simpa using h);exact(List.Perm.swap _ _ _).trans (ih.cons x)
theorem bM(T:Txt K mg w):aq P w K mg base 2 "_law_next" ["_law_pen","_law_many"] (uf K):=(vF T).imp λl H Q E h=>by
 obtain⟨H0,p,m,t,rfl,hn,hm,ht,k⟩:=h;obtain⟨a,ns,u,x,h1,h2,h3,h4⟩:=hn.ex;have c:∀o,Sm p p H (upd H p o):=λo b u d n _=>by rw[aS n];exact d
 refine⟨p,a,ns,m,u,x,rfl,h1,λo=>h2 _ (hn.sm.trans (c o)),h2 _ hn.sm,⟨h3,by lia⟩,hm,λr e f g i j q=>?_⟩;exact k r _ g i ⟨⟨a,ns,e,f,aB,h2,j,by push_cast;lia⟩,hn.sm.trans (c _)⟩ (c _)
inductive J' (K:QZ)(vs:Qbi)(H:Hp)(Q:VK)(b_:XK):Prop
 |mk (H0:Hp) (p a:Addr) (B:Qbi) (t:Nat):vs=[.ref p,.ref a]->cj K H0 H p t->t+100<900000->ak K H a B\/ae K H a B->B.length<=100->(∀(L:Addr)(ys:Qbi)(Z:Hp),H L=none->Z L=be ys->ys.Perm B->cj K H0 Z p (t+100)->Sm p p H Z->Q (.ref L) Z)->J' K vs H Q b_
theorem qL(T:Txt K mg w):aq P w K mg base 3 "_law_turned" ["_law_pen","_law_some"] (J' K):=by
 refine T.rZ.dh gG ?_ ?_
 ·rintro _ _ _ _ ⟨y,p,a,l,t,rfl,_⟩;rfl
 ·rintro f az A ag s H vs Q E hr ⟨y,p,a,l,t,rfl,z,ht,ha,hx,k⟩;obtain⟨hu,bj,hsz⟩:=c9 hr;refine⟨_,(aE (aQ 2 gG.nd (dG (lU K) T.wJ PyProof.Rows.boot_list (aD (zv 1) aC)))
   (aE (aQ 3 gG.nd (bK aC))
   (aE (iM PassesOwn.never (aK (mE bj) (zv 2) (bK aC)) (aI (cE (gT K QH QJ QK bJ (zv 3) (bB (gT K QH PySem.F.slot_list_pop PySem.F.type_list_pop S9 (zv 2) (bB (aR (bM T) hr (aD (zv 0) (bB (bY (bR K) T.oh Qae (aD (zv 2) aC)) aC))) aC)) aC)))))
   (aI (aU (zv 3)))))),?_⟩
  refine aM ⟨a,l,rfl,ha,λn L=>?_⟩;refine aM ⟨ki,λj C=>?_⟩;have D:=aa.upd L (.lst l);have s2:=aa.upd C (.lst []);have e0:n≠p:=z.ne L;have e1:j≠p:=(z.same D).ne C;have N1:n≠j:=aY aB C;have f0:=z.free L;have f1:=(z.same D).free C;have g0:upd (upd H n (.lst l)) j (.lst []) n=be l:=s2 _ _ aB;have g1:upd (upd H n (.lst l)) j (.lst []) j=be []:=aB;have G:=(z.same D).same s2;have gh:Sm p p H (upd (upd H n (.lst l)) j (.lst [])):=(D.trans s2).sm
  (try dsimp only)
  generalize upd (upd H n (.lst l)) j (.lst [])=H2 at g0 g1 G gh;have Yz:H n=none:=L;have N2:H j=none:=D.free C;refine aT (λg o=>∃e,g=[af p,af a,af n,af j]/\o j=be e/\e.Perm l/\cj K y o p (t+100)/\Sm p p H o) ?_ ?_
  ·intro nx ay;refine⟨λm g o=>X2 fun(d e:Qbi)=>g=[af p,af a,af n,af j]/\o n=be d/\o j=be e/\d.length=m/\(e++d).Perm l/\cj K y o p (t+e.length)/\Sm p p H o,⟨l.length,l,[],rfl,g0,g1,rfl,by simp,G,gh⟩,?_⟩;rintro m g H3 ⟨d,e,rfl,q0,N,q2,u,R,q5⟩;have N3:e.length+d.length=l.length:=by have:=u.length_eq;rw[Qk]at this;exact this
   refine⟨ki,λb V=>⟨aY q0 V,d,(aa.upd V _) _ _ q0,aB,_,rfl,aj (λc=>?_) (λc=>?_)⟩⟩
   ·have q:=aa.upd V (.lst []);have N4:=R.same q;have G8:=q _ _ q0;have zo:=q _ _ N;have N5:=q5.trans q.sm;generalize upd H3 b (.lst [])=H4 at N4 G8 zo N5;have Bh:0<d.length:=by
     cases d with
     |nil=>exact absurd c (by decide)
     |cons x r=>simp
    refine⟨λg I=>∃m',m'<m/\X2 fun(d e:Qbi)=>g=[af p,af a,af n,af j]/\I n=be d/\I j=be e/\d.length=m'/\(e++d).Perm l/\cj K y I p (t+e.length)/\Sm p p H I,λg I h=>h,?_⟩;refine⟨.inl ⟨rfl,e,ak.of zo⟩,.inl ⟨rfl,d,ak.of G8⟩,.inl ⟨d,.inl (ak.of G8),y,p,_,_,rfl,N4,⟨by lia,by lia⟩,by lia,λr H5 r0 r1 oi lu=>?_⟩⟩;obtain⟨i,rfl⟩:∃i:Nat,r=(i:Int):=⟨r.toNat,by lia⟩
    have hi:i<d.length:=by lia
    have p0:=lu _ _ G8 e0 e0;have p1:=lu _ _ zo e1 e1;refine⟨n,d,(i:Int),i,d[i],rfl,rfl,p0,by lia,by lia,(tS (yD hi)).1,Qa hi,j,e,d[i],rfl,rfl,by rw[aS N1.symm];exact p1,by lia,d.length-1,by lia,d.eraseIdx i,e++[d[i]],rfl,by rw[aS N1];exact aB,aB,?_,?_,?_,(N5.trans lu).upd Yz |>.upd N2⟩
    ·rw[List.length_eraseIdx,if_pos hi]
    ·rw[List.append_assoc];exact((pC hi).append_left e).trans u
    ·rw[Qk];exact(oi.put e0 f0).put e1 f1
   ·have G_:d=[]:=by
     cases d with
     |nil=>rfl
     |cons x r=>exact absurd c (by simp)
    subst G_;rw[QQ]at u;have q:=aa.upd V (.lst []);exact ay _ _ ⟨e,rfl,q _ _ N,u,(R.same q).mono (by have:=u.length_eq;lia),q5.trans q.sm⟩
  ·rintro g o ⟨e,rfl,N,q2,u,R⟩;exact k j e o N2 N q2 u R
def Ck:Qa8:=["a","ab","b","ba"]
def EK:Qa8:=["case","from","part","to"]
def WW:Qa8:=Ck++EK
theorem uA:∀z∈WW,isName z=true/\Wd z:=λz a=>by
 simp only[WW,Ck,EK,Qan,Qaz,Qp,QA,or_false]at a;rcases a with rfl|rfl|rfl|rfl|rfl|rfl|rfl|rfl<;>exact⟨by decide+kernel,fH (by decide) (by decide)⟩
structure WN(os:Qa8):Prop where
 Jo:rising os=true
 len:os.length<=4
 ww:∀z∈os,z∈WW
theorem YA:Ck.Pairwise λa b=>wj a b=true:=by decide+kernel
theorem YB:EK.Pairwise λa b=>wj a b=true:=by decide+kernel
theorem WN.of{b os:Qa8}(c:b=Ck\/b=EK)(s:os.Sublist b):WN os:=by
 rcases c with rfl|rfl
 ·exact⟨iK (YA.sublist s),s.length_le,λz a=>xD.mpr (.inl (s.subset a))⟩
 ·exact⟨iK (YB.sublist s),s.length_le,λz a=>xD.mpr (.inr (s.subset a))⟩
inductive Ka (K:QZ)(vs:Qbi)(H:Hp)(Q:VK)(b_:XK):Prop
 |mk (H0:Hp) (p:Addr) (t:Nat):vs=[.ref p]->cj K H0 H p t->t+5<900000->(∀(L:Addr)(os:Qa8)(Z:Hp),H L=none->Z L=be (os.map V.str)->WN os->cj K H0 Z p (t+5)->Sm p p H Z->Q (.ref L) Z)->Ka K vs H Q b_
theorem tY(T:Txt K mg w):aq P w K mg base 3 "_law_words" ["_law_pen"] (Ka K):=by
 refine T.uY.dh lS ?_ ?_
 ·rintro _ _ _ _ ⟨j,p,t,rfl,_⟩;rfl
 ·rintro f az A y s H vs Q E R ⟨j,p,t,rfl,hn,ht,k⟩;obtain⟨hu,bj,hsz⟩:=c9 R;refine⟨_,(aI (aU (MH (own:=["_law_word"]) (idx:=[0]) (N':=["_law_word","_law_pen"]) (d6 lS) rfl (lT K (bK (aA aG (aA aG (aA aG (aA aG aC)))))) (λ_ _ _ _ _ _=>(cD 0)) (λ_ _ _ _ _ _=>(Jd (aK (aZ bj) (aR (bM T) R (aD (zv 1) (aA aF aC))) aF))) (λ_ _ _ _ _ _=>(zv 0))))),?_⟩;refine⟨Cg,λS f_=>?_⟩;have C:=aa.upd f_ (.lst [V.str "a",V.str "ab",V.str "b",V.str "ba"]);have N6:upd H S (.lst [V.str "a",V.str "ab",V.str "b",V.str "ba"]) S=be (Ck.map V.str):=aB;have l:=(hn.same C).mono (u:=t+1) (by lia);have eS:S≠p:=hn.ne f_;generalize upd H S (.lst [V.str "a",V.str "ab",V.str "b",V.str "ba"])=H4 at C N6 l⊢;obtain⟨a,hb,gS⟩:∃a:Qa8,(a=Ck\/a=EK)/\H4 S=be (a.map V.str):=⟨Ck,.inl rfl,N6⟩
  have AI:a.length=4:=by rcases hb with rfl|rfl<;>rfl
  have zp:Sm p p H H4:=C.sm;refine Or.inl ⟨⟨_,ak.of gS⟩,λD d=>?_⟩;have g:D≠p:=l.ne d;have N7:D≠S:=λe=>by rw[e,gS]at d;cases d
  have fD:j D=none:=l.free d;have G:H D=none:=zp.free d g g;refine eM (cB (a.map V.str)) (λi m h=>X2 fun(v:Qbj)(b:Qa8)=>m=[v,af p]/\h D=be (b.map V.str)/\b.Sublist (a.take i)/\h S=be (a.map V.str)/\cj K j h p (t+1+i)/\Sm p p H h)
   ⟨none,[],rfl,aB,List.Sublist.refl _,by rw[aS N7.symm];exact gS,l.same (aa.upd d _),zp.upd G⟩ (by rintro i m h _ ⟨_,_,_,_,_,q,_⟩;exact ak.of q) ?_ ?_
  ·rintro i m H5 I ⟨v,b,rfl,L,c,q4,n,o⟩;rw[Ql]at I;rw[mZ a i I];have N:a.take (i+1)=a.take i++[a.getD i ""]:=by
    rw[Qs,Qb,Qa I];rfl
   generalize a.getD i ""=z at N;have Es:b.length<=i:=by have:=c.length_le;simp at this;lia
   refine⟨j,p,2,t+1+i,rfl,n,⟨by decide,by decide⟩,by lia,λr H6 r0 r1 Hf x=>?_⟩;refine⟨rfl,_,rfl,?_⟩;have g4:=x _ _ q4 eS eS;have g1:=x _ _ L g g;refine aj (λ_=>?_) (λ_=>?_)
   ·exact⟨_,g1,by rw[Ql];exact TM (by lia),_,b++[z],rfl,by rw[aB,Qm];rfl,by rw[N];exact c.append (List.Sublist.refl _),by rw[aS N7.symm];exact g4,Hf.put g fD,(o.trans x).upd G⟩
   ·exact⟨_,b,rfl,g1,by rw[N];exact c.trans (List.sublist_append_left _ _),g4,Hf,o.trans x⟩
  ·rintro m H5 ⟨v,b,rfl,L,c,q4,n,o⟩;rw[Ql]at c n;rw[Qa7]at c;exact k D b H5 G L (WN.of hb c) (n.mono (by lia)) o
structure qk(H:Hp)(l:Addr)(ss:Qa8):Prop where
 e:H l=some (.lst (ss.map V.str))
 ne:ss≠[]
 few:ss.length<=60
 wd:∀z∈ss,Wd z
theorem N9{t:Nat}(h:qk H l ss)(b:cj K H0 H p t):l≠p:=λq=>by
 obtain⟨_,_,_,_,z,_⟩:=b.ex;have e:=h.e;have ne:=h.ne;rw[q,z]at e;cases ss with
 |nil=>exact ne rfl
 |cons a r=>cases e
theorem qk.nx{t:Nat}(h:qk H l ss)(a:cj K H0 H p t)(s:Sm p p H Z):qk Z l ss:=⟨s _ _ h.e (N9 h a) (N9 h a),h.ne,h.few,h.wd⟩
theorem qk.same(h:qk H l ss)(s:aa H Z):qk Z l ss:=⟨s _ _ h.e,h.ne,h.few,h.wd⟩
theorem qk.at{H:Hp}{l:Addr}{ss:Qa8}(h:qk H l ss)(r:Int)(a:0<=r)(h1:r<ss.length):∃z,kq (ss.map V.str) r=some (.str z)/\ss[r.toNat]? =some z/\Wd z:=by
 obtain⟨c,p_,jr⟩:=lK (ss.map V.str) r a (by rw[Ql];exact h1);rw[Qq]at p_;cases e:ss[r.toNat]? with
 |none=>rw[e]at p_;cases p_
 |some z=>
  rw[e]at p_;cases p_;exact⟨z,jr,rfl,h.wd z (QC e)⟩
theorem qk.pos(h:qk H l ss):0<ss.length:=List.length_pos_iff.mpr h.ne
def YC(a:Qa8)(k:Nat)(o:Option Str):Prop:=∀y,o=some y->∃i,i<k/\a[i]? =some y
inductive Kc (K:QZ)(vs:Qbi)(H:Hp)(Q:VK)(b_:XK):Prop
 |mk (H0:Hp) (p nm:Addr) (k t:Nat) (ns:Qa8):vs=[.ref p,.ref nm,.int (k:Int)]->cj K H0 H p t->t+20<900000->qk H nm ns->(∀z∈ns,isName z=true)->k<=ns.length->(∀(v:V)(Z:Hp),ua Z ns WW v (YC ns k)->cj K H0 Z p (t+20)->Sm p p H Z->Q v Z)->Kc K vs H Q b_
theorem wC(T:Txt K mg w):aq P w K mg base 4 "_law_head" ["_law_pen","_law_names","_law_ahead"] (Kc K):=by
 refine T.xN.dh fU ?_ ?_
 ·rintro _ _ _ _ ⟨u,p,nm,k,t,ns,rfl,_⟩;rfl
 ·rintro f az A ag s H vs Q E hr ⟨u,p,nm,ka,t,ns,rfl,hn,ht,tn,Bk,hk,k⟩;obtain⟨hu,bj,hsz⟩:=c9 hr;have ai:=tn.pos;have al:=tn.few;refine⟨_,(aE (aQ 3 fU.nd (aR (bM T) hr (aD (zv 0) (aA aF aC))))
   (aE (bF (aK mF (zv 3) aF) (aI (aU (aN K (bK (aH (aL (aA aG aC)) (aH (aL (aA aG aC)) aC))) (zv 3)))) aW)
   (aE (bF (fE (aK (aZ bj) (zv 3) aF) (dD (aK gK (zv 2) aF))).pt (aI (aU (aL (aA aG (aJ (aN K (zv 1) (aR (bM T) hr (aD (zv 0) (aD (zv 2) aC)))) aC))))) aW)
   (aE (bF (aK mF (zv 3) aF) (aE (aQ 4 fU.nd (aN K (zv 1) (aR (bM T) hr (aD (zv 0) (bB (bY (bR K) T.oh Qae (aD (zv 1) aC)) aC)))))
   (aI (aU (aL (aA aG (aD (zv 4) (aJ (aN K (zv 1) (aR (bM T) hr (aD (zv 0) (bB (bY (bR K) T.oh Qae (aD (zv 1) aC)) aC)))) aC))))))) aW)
   (aI (aU (aL (aJ (aN K (bK (aA aG (aA aG aC))) (bN fV (zv 3) aF)) (bB (dG (cK K) T.dX QG (cG (iB ["_law_word"] [0,1] ["_law_word","_law_pen","_law_names"] (d6 fU) (lT K (aR (tY T) hr (aD (zv 0) aC))) (λ_ _ _ _ _ _=>(cD 0)) (λ_ _ _ _ _ _=>(aL (aD (zv 0) (aJ (aN K (zv 2) (aR (bM T) hr (aD (zv 1) (bB (bY (bR K) T.oh Qae (aD (zv 2) aC)) aC)))) aC))))) aC)) aC))))))))),?_⟩
  refine aM ⟨u,p,10,t,rfl,hn,⟨by decide,by decide⟩,by lia,λC H1 w0 w1 d ql=>?_⟩;have Hg:=tn.nx hn ql;refine aT (λa Z=>a=[af p,af nm,bg (ka:Int),bg C,none]/\H1=Z) ?_ ?_
  ·intro nx ay;refine⟨_,rfl,aj (λc1=>?_) (λc1=>ay _ _ ⟨rfl,rfl⟩)⟩;have yh:C<2:=Qt c1;refine⟨ik,λG qz=>⟨ik,λq2 ah=>⟨bx,λO hO=>?_⟩⟩⟩;have s1:=aa.upd qz (.tup [.str "all"]);have s2:=aa.upd ah (.tup [.str "none"]);have s3:=aa.upd hO (.lst [.ref G,.ref q2]);have sA:=(s1.trans s2).trans s3;have g1:=s3 _ _ (s2 _ _ (aB:upd H1 G (.tup [.str "all"]) G=bw [.str "all"]));have g2:=s3 _ _ (aB:upd (upd H1 G (.tup [.str "all"])) q2 (.tup [.str "none"]) q2=bw [.str "none"]);rcases(show C=0\/C=1 by lia)with rfl|rfl
   ·exact⟨_,.ref G,.inl (ak.of aB),rfl,k _ _ (VI g1 (λ_ h=>nomatch h)) ((d.same sA).mono (by lia)) (ql.trans sA.sm)⟩
   ·exact⟨_,.ref q2,.inl (ak.of aB),rfl,k _ _ (VH g2 (λ_ h=>nomatch h)) ((d.same sA).mono (by lia)) (ql.trans sA.sm)⟩
  rintro a Z ⟨rfl,rfl⟩;refine aT (λa Z=>a=[af p,af nm,bg (ka:Int),bg C,none]/\H1=Z) ?_ ?_
  ·intro nx ay;refine⟨rfl,_,rfl,aj (λh2=>⟨_,rfl,aj (λh3=>?_) (λ_=>ay _ _ ⟨rfl,rfl⟩)⟩) (λh2=>aj (λc=>absurd c (by decide)) λ_=>ay _ _ ⟨rfl,rfl⟩)⟩;have am:(0:Int)<(ka:Int):=Qt h3;refine⟨u,p,(ka:Int),_,rfl,d,⟨by lia,by lia⟩,by lia,λr H2 r0 r1 I gh=>?_⟩;have Cm:=Hg.nx d gh;obtain⟨y,Ke,Dq,YD⟩:=Cm.at r r0 (by lia);refine⟨_,_,.inl (ak.of Cm.e),Ke,bx,λc hc=>?_⟩;refine k _ _ (VG aB (Bk _ (QC Dq)) (QC Dq) (λy' e=>?_)) ((I.same (aa.upd hc _)).mono (by lia)) ((ql.trans gh).trans (aa.upd hc _).sm);cases e;exact⟨r.toNat,by lia,Dq⟩
  rintro a Z ⟨rfl,rfl⟩;refine aT (λa Z=>a=[af p,af nm,bg (ka:Int),bg C,none]/\H1=Z) ?_ ?_
  ·intro nx ay;refine⟨_,rfl,aj (λc1=>?_) (λc1=>ay _ _ ⟨rfl,rfl⟩)⟩;refine aM (.inl ⟨_,.inl (ak.of Hg.e),u,p,_,_,rfl,d,⟨by rw[Ql];lia,by rw[Ql];lia⟩,by lia,λr H2 r0 r1 I gh=>?_⟩);rw[Ql]at r1;have Cm:=Hg.nx d gh;obtain⟨x,YE,N_,hxw⟩:=Cm.at r r0 r1;refine⟨_,_,.inl (ak.of Cm.e),YE,.inl ⟨_,.inl (ak.of Cm.e),u,p,_,_,rfl,I,⟨by rw[Ql];lia,by rw[Ql];lia⟩,by lia,λr2 L b0 b1 ju jd=>?_⟩⟩;rw[Ql]at b1;have EM:=Cm.nx I jd;obtain⟨y,Ke,Dq,YD⟩:=EM.at r2 b0 b1;refine⟨_,_,.inl (ak.of EM.e),Ke,gz,λb l=>?_⟩;exact k _ _ (VJ aB (Bk _ (QC N_)) (Bk _ (QC Dq)) (QC N_) (QC Dq) (λ_ h=>nomatch h)) ((ju.same (aa.upd l _)).mono (by lia)) (((ql.trans gh).trans jd).trans (aa.upd l _).sm)
  rintro a Z ⟨rfl,rfl⟩;refine⟨bx,λO hO=>?_⟩;have sO:=aa.upd hO (.lst [.str "box",.str "pick"]);have gO:upd H1 O (.lst [.str "box",.str "pick"]) O=be [.str "box",.str "pick"]:=aB;have Hh:=d.same sO;have Oa:=Hg.same sO;have Ob:=ql.trans sO.sm
  (try dsimp only)
  generalize upd H1 O (.lst [.str "box",.str "pick"])=H2 at sO gO Hh Oa Ob;obtain⟨so,YF,YG⟩:∃so:Str,kq [V.str "box",V.str "pick"] (C % 2)=cg so/\(so="box"\/so="pick"):=by
   rcases(show C % 2=0\/C % 2=1 by lia)with e|e
   ·rw[e];exact⟨"box",rfl,.inl rfl⟩
   ·rw[e];exact⟨"pick",rfl,.inr rfl⟩
  refine⟨(show(0:Int)<2 by decide),_,_,.inl (ak.of gO),YF,u,p,_,rfl,Hh,by lia,λD m L EL G wn q5 jd=>?_⟩;have q6:Sm p p H L:=Ob.trans jd;have EM:=Oa.nx Hh jd;have Es:=wn.len;have Bj:D≠p:=Hh.ne EL;refine Or.inl ⟨⟨_,ak.of G⟩,λo N=>?_⟩;have EN:o≠p:=q5.ne N;have Oc:o≠D:=λe=>by rw[e,G]at N;cases N
  have Od:H o=none:=q6.free N EN EN;have f2:u o=none:=q5.free N;have YH:o≠nm:=λe=>by rw[e,EM.e]at N;cases N
  refine eM (cB (m.map V.str)) (λi τ L=>X3 fun(v:Qbj)(g:Qbi)(R:Qbg)=>τ=[v,af p,af nm]/\L o=be g/\kr L g (ef R)/\R.map (·.1)=m.take i/\(∀r∈R,∃y,r.2=.str y/\y∈ns/\Wd y)/\L D=be (m.map V.str)/\cj K u L p (t+1+5+i)/\Sm p p H L/\qk L nm ns)
   ⟨none,[],[],rfl,aB,qZ,rfl,(λ_ h=>nomatch h),by rw[aS Oc.symm];exact G,(q5.same (aa.upd N _)).mono (by lia),q6.upd Od,EM.same (aa.upd N _)⟩ (by rintro i τ H2 _ ⟨_,_,_,_,_,_,_,_,q,_⟩;exact ak.of q) ?_ ?_
  ·rintro i τ H4 hi ⟨v,g,R,rfl,r1,r2,Bl,r3,r4,r5,r6,Cn⟩;rw[Ql]at hi;rw[mZ m i hi];have Dp:m.take (i+1)=m.take i++[m.getD i ""]:=by
    rw[Qs,Qb,Qa hi];rfl
   generalize m.getD i ""=z at Dp;have As:R.length=i:=by have:=congrArg List.length Bl;simp at this;lia
   have zc:g.length=i:=by have:=r2.1;simp at this;lia
   refine .inl ⟨_,.inl (ak.of Cn.e),u,p,_,t+1+5+i,rfl,r5,⟨by rw[Ql];lia,by rw[Ql];lia⟩,by lia,λr H5 a0 a1 Kf jv=>?_⟩;rw[Ql]at a1;have wx:=Cn.nx r5 jv;obtain⟨n,YI,Dr,YJ⟩:=wx.at r a0 a1;refine⟨_,_,.inl (ak.of wx.e),YI,bx,λb l=>?_⟩;have g1:=jv _ _ r1 EN EN;have g4:=jv _ _ r4 Bj Bj;have Kg:o≠b:=aY g1 l;have YK:D≠b:=aY g4 l;have zq:Tk H4 H5:=r5.ts jv;have wz:Tk H4 (upd (upd H5 b (.tup [.str z,.str n])) o (.lst (g++[.ref b]))):=(zq.trans (aa.upd l _).ts).set (by rw[aS Kg];exact g1) (by intro _ z;cases z);have YL:upd (upd H5 b (.tup [.str z,.str n])) o (.lst (g++[.ref b])) b=bw [.str z,.str n]:=by rw[aS Kg.symm];exact aB
   have YM:qk (upd (upd H5 b (.tup [.str z,.str n])) o (.lst (g++[.ref b]))) nm ns:=⟨by rw[aS YH.symm];exact(aa.upd l _) _ _ wx.e,wx.ne,wx.few,wx.wd⟩
   refine⟨g,by rw[aS Kg];exact g1,by lia,_,g++[.ref b],R++[(z,.str n)],rfl,aB,q9 (r2.ts wz) YL,by rw[Qm,Bl,Dp];rfl,λr' j=>?_,by rw[aS Oc.symm,aS YK];exact g4,((Kf.same (aa.upd l _)).put EN f2),((r6.trans jv).trans (aa.upd l _).sm).upd Od,YM⟩;rcases xD.mp j with hx|hx
   ·exact r3 r' hx
   ·rw[qD.mp hx];exact⟨n,rfl,QC Dr,YJ⟩
  ·rintro τ H4 ⟨v,g,R,rfl,r1,r2,Bl,r3,r4,r5,r6,Cn⟩;rw[Ql]at Bl r5;rw[Qa7]at Bl;have As:R.length=m.length:=by rw[<- Bl,Ql]
   have zc:g.length=m.length:=by have:=r2.1;simp at this;lia
   refine⟨o,g,rfl,.inl ⟨ak.of r1,λc hc=>⟨bx,λb l=>?_⟩⟩⟩;have s5:=aa.upd hc (.tup g);have s6:=aa.upd l (.tup [.str so,.ref c]);have gc:=s6 _ _ (aB:upd H4 c (.tup g) c=bw g);have t_:∀r'∈R,r'.1∈m:=λr' j=>by rw[<- Bl];exact qN.mpr ⟨r',j,rfl⟩
   have tk:=s5.ts.trans s6.ts;have YN:=VC (r2.ts tk) (λr' j=>(uA _ (wn.ww _ (t_ r' j))).1) (λr' j=>by obtain⟨y,e1,e2,_⟩:=r3 r' j;exact⟨y,e1,e2,Bk y e2⟩) (by rw[Bl];exact wn.Jo);exact k _ _ (xH YG aB gc (by lia) YN (λq hq=>by obtain⟨q',Gi,rfl⟩:=qN.mp hq;exact wn.ww _ (t_ q' Gi)) (λ_ h=>nomatch h)) ((r5.same (s5.trans s6)).mono (by lia)) (r6.trans (s5.trans s6).sm)
def N8:Qa8:=["x","xa","xb","y","ya","z","ka","kb"]
theorem Kh:∀z∈N8,isName z=true/\Wd z:=λz a=>by
 simp only[N8,Qp,QA,or_false]at a;rcases a with rfl|rfl|rfl|rfl|rfl|rfl|rfl|rfl<;>exact⟨by decide+kernel,fH (by decide) (by decide)⟩
theorem YO:N8.Nodup:=by decide+kernel
theorem yO{a:Qbi}{l:Qa8}(h:a.Perm (l.map V.str)):∃zs:Qa8,zs.Perm l/\a=zs.map V.str:=by
 refine⟨a.map B7,?_,?_⟩
 ·have:=h.map B7;rw[Qa3]at this;have e:(B7∘V.str)=(id:Str->Str):=rfl;rw[e,List.map_id]at this;exact this
 ·rw[Qa3];have:∀y∈a,(V.str∘B7) y=y:=λy b=>by
   obtain⟨z,_,rfl⟩:=qN.mp (h.mem_iff.mp b);rfl
  rw[List.map_congr_left this,List.map_id']
theorem uC{e:Type}{R:α->e->Prop}{B f:List α}(p:f.Perm B):∀{d:List e},Paired R B d->∃c,c.Perm d/\Paired R f c:=by
 induction p with
 |nil=>intro d h;cases h;exact⟨[],.refl _,.nil⟩
 |cons x p ih=>
  intro d h;cases h with
  |cons a b=>
   obtain⟨c,q1,q2⟩:=ih b;exact⟨_::c,q1.cons _,.cons a q2⟩
 |swap x y l=>
  intro d h;cases h with
  |cons a h=>
   cases h with
   |cons b h=>exact⟨_::_::_,.swap _ _ _,.cons b (.cons a h)⟩
 |trans p1 p2 YQ YR=>
  intro d h;obtain⟨r1,a1,b1⟩:=YR h;obtain⟨r2,a2,b2⟩:=YQ b1;exact⟨r2,a2.trans a1,b2⟩
theorem lE{α c d:Type}{R:α->c->Prop}{g:d->c}:∀{B:List α}{e:List d},Paired R B (e.map g)->Paired (λx r=>R x (g r)) B e
 | [],[],.nil=>.nil
 |_::_,_::_,.cons a b=>.cons a (lE b)
theorem oR{α c d:Type}{R:α->c->Prop}{g:d->c}:∀{B:List α}{e:List d},Paired (λx r=>R x (g r)) B e->Paired R B (e.map g)
 | [],[],.nil=>.nil
 |_::_,_::_,.cons a b=>.cons a (oR b)
theorem x5{B b:Qbi}{c:Qbg}(h:kr H B (ef c))(p:b.Perm B):∃a,a.Perm c/\kr H b (ef a):=by
 obtain⟨a,q1,q2⟩:=uC p (lE (i7.mp h));exact⟨a,q1,i7.mpr (oR q2)⟩
inductive Kl (K:QZ)(vs:Qbi)(H:Hp)(Q:VK)(b_:XK):Prop
 |mk (H0:Hp) (p:Addr) (most:Int) (t:Nat):vs=[.ref p,.int most]->cj K H0 H p t->t+600<900000->1<=most/\most<=8->(∀(a:Addr)(B:Qbi)(F:List eu)(ns:Qa8)(Z:Hp),RT Z a B F ns WW->(ns.length:Int)<=most->(∀n∈ns,n∈N8)->cj K H0 Z p (t+600)->Sm p p H Z->Q (.ref a) Z)->Kl K vs H Q b_
theorem pK(T:Txt K mg w):aq P w K mg base 5 "_law_telling" ["_law_pen","_law_most"] (Kl K):=by
 refine T.qJ.dh cW ?_ ?_
 ·rintro _ _ _ _ ⟨u,p,j,t,rfl,_⟩;rfl
 ·rintro f az A ag s H vs Q E hr ⟨u,p,j,t,rfl,D,ht,⟨G0,al⟩,k⟩;obtain⟨hu,bj,hsz⟩:=c9 hr;refine⟨_,(aE (aQ 2 cW.nd (bN bT aF (aR (bM T) hr (aD (zv 0) (aD (zv 1) aC)))))
   (aE (aQ 3 cW.nd (cT (lR K) (aR (qL T) hr (aD (zv 0) (oG (bK (aA aG (aA aG (aA aG (aA aG (aA aG (aA aG (aA aG (aA aG aC))))))))) aC))) cS (cU (zv 2))))
   (aE (aQ 4 cW.nd (bK aC))
   (aE (dP PassesOwn.never rfl (i8 (by rfl) T.k7 (aD (zv 2) aC)) (bS 5 cW.nd) (aI (cE (gT K QH QJ QK bJ (zv 4) (aH (aL (aJ (aN K (zv 3) (zv 5)) (bB (aR (wC T) hr (aD (zv 0) (aD (zv 3) (aD (zv 5) aC)))) aC))) aC)))))
   (aI (aU (dG (cK K) T.dX QG (bB (aR (qL T) hr (aD (zv 0) (aD (zv 4) aC))) aC)))))))),?_⟩
  refine aM ⟨u,p,j,t,rfl,D,⟨by lia,by lia⟩,by lia,λr H1 r0 r1 ah ql=>?_⟩;obtain⟨b,rfl⟩:∃i:Nat,r=(i:Int):=⟨r.toNat,by lia⟩
  refine aM ⟨(show 8<=sizeLine by decide),λl1 f_=>?_⟩;have s1:=aa.upd f_ (.lst (N8.map V.str));have g1:upd H1 l1 (.lst (N8.map V.str)) l1=be (N8.map V.str):=aB;have ai:=ah.same s1;have gh:=ql.trans s1.sm;refine⟨u,p,l1,N8.map V.str,_,rfl,ai,by lia,.inl (ak.of g1),(by decide),λL ys H2 hL gL pm ju jd=>?_⟩;obtain⟨zs,Km,rfl⟩:=yO pm;have zp:=gh.trans jd;have Hi:zs.length=8:=Km.length_eq;refine⟨1+(b:Int),rfl,Or.inr (Or.inl ⟨L,zs.map V.str,rfl,ak.of gL,λN hN=>?_⟩)⟩;have Co:gj (zs.map V.str) none (some (1+(b:Int)))=(zs.take (1+b)).map V.str:=by
   rw[show(1+(b:Int))=((1+b:Nat):Int)by lia,Vq,List.map_take]
  rw[Co];have sN:=aa.upd hN (.lst ((zs.take (1+b)).map V.str));have gN:upd H2 N (.lst ((zs.take (1+b)).map V.str)) N=be ((zs.take (1+b)).map V.str):=aB;have ja:=ju.same sN;have EO:=zp.trans sN.sm;generalize upd H2 N (.lst ((zs.take (1+b)).map V.str))=H3 at sN gN ja EO;have Kn:(zs.take (1+b)).length=1+b:=by rw[Qa6];lia
  have EQ:∀n∈zs.take (1+b),n∈N8:=λn D=>Km.mem_iff.mp (QaQ D);have Hj:(zs.take (1+b)).Nodup:=(Km.nodup_iff.mpr YO).sublist (List.take_sublist _ _);generalize zs.take (1+b)=g at gN Kn EQ Hj;have tn:qk H3 N g:=⟨gN,by intro e;rw[e]at Kn;simp at Kn;lia,by lia,λn D=>(Kh n (EQ n D)).2⟩
  refine aM ⟨ki,λR hR=>?_⟩;have ER:R≠p:=ja.ne hR;have YS:R≠N:=λe=>by rw[e,gN]at hR;cases hR
  have YT:H R=none:=EO.free hR ER ER;have fR:u R=none:=ja.free hR;have sR:=aa.upd hR (.lst []);refine aT (λm q=>X3 fun(G:Qbj)(d:Qbi)(l:Qbg)=>m=[af p,bg j,bg (1+(b:Int)),af N,af R,G]/\q R=be d/\kr q d (ef l)/\l.map (·.1)=g/\wk q g WW l/\cj K u q p (t+101+20*8)/\Sm p p H q) ?_ ?_
  ·intro nx ay;refine⟨1+(b:Int),rfl,by lia,by lia,dF (fB 0 (1+(b:Int)).toNat) (λi m q=>X3 fun(G:Qbj)(d:Qbi)(l:Qbg)=>m=[af p,bg j,bg (1+(b:Int)),af N,af R,G]/\q R=be d/\kr q d (ef l)/\l.map (·.1)=g.take i/\wk q g WW l/\qk q N g/\cj K u q p (t+101+20*i)/\Sm p p H q)
    ⟨none,[],[],rfl,aB,qZ,rfl,⟨(λ_ h=>nomatch h),(λ_ h=>nomatch h)⟩,tn.same sR,(ja.same sR).mono (by lia),EO.trans sR.sm⟩ (λ_ _ _ _ _=>True.intro) ?_ ?_⟩
   ·rintro i m H4 hi ⟨G,d,l,rfl,q1,I,x,q4,Cn,C,q7⟩;have fh:i<g.length:=by lia
    have e0:(0+(i:Int))=(i:Int):=by lia
    rw[e0];have Dr:g[i]? =some g[i]:=Qa fh;have w_:g[i]∈g:=Qj fh;generalize g[i]=nm at Dr w_;have zc:d.length=i:=by
     have h1:=I.1;have h2:=congrArg List.length x;simp at h1 h2
     lia
    refine⟨.inl ⟨rfl,_,ak.of q1⟩,_,.str nm,.inl (ak.of Cn.e),bU (by rw[Qq,Dr];rfl),u,p,N,i,_,g,rfl,C,by lia,Cn,(λz hz=>(Kh z (EQ z hz)).1),by lia,λhv H5 hg oi lu=>⟨bx,λc hc=>?_⟩⟩;have g4:H5 R=be d:=lu _ _ q1 ER ER;have wx:=Cn.nx C lu;have Ko:R≠c:=aY g4 hc;refine⟨R,d,.ref c,rfl,rfl,by rw[aS Ko];exact g4,by lia,?_⟩;have Ds:Tk H5 (upd (upd H5 c (.tup [.str nm,hv])) R (.lst (d++[.ref c]))):=((aa.upd hc _).ts).set (by rw[aS Ko];exact g4) (by intro _ z;cases z);have YU:upd (upd H5 c (.tup [.str nm,hv])) R (.lst (d++[.ref c])) c=bw [.str nm,hv]:=by rw[aS Ko.symm];exact aB
    have Oe:=(C.ts lu).trans Ds;refine⟨_,d++[.ref c],l++[(nm,hv)],rfl,aB,q9 (I.ts Oe) YU,?_,?_,⟨by rw[aS YS.symm,aS (aY wx.e hc)];exact wx.e,wx.ne,wx.few,wx.wd⟩,((oi.same (aa.upd hc _)).put ER fR).mono (by lia),((q7.trans lu).trans (aa.upd hc _).sm).upd YT⟩
    ·rw[Qm,x,Qs,Dr];rfl
    ·have:=((q4.tk Oe).add (n:=nm) (v:=hv) w_ ((hg.tk Ds).imp λo h y e=>by obtain⟨i',h1,h2⟩:=h y e;exact⟨i',i,h1,h2,Dr⟩))
     exact this.perm λr hr=>by
      rcases xD.mp hr with hr|hr
      ·exact Qh _ hr
      ·rw[qD.mp hr];exact jP
   ·rintro m q ⟨G,d,l,rfl,q1,I,x,q4,q5,C,q7⟩;have en:(1+(b:Int)).toNat=g.length:=by lia
    rw[en,Qa7]at x;exact ay _ _ ⟨G,d,l,rfl,q1,I,x,q4,C.mono (by lia),q7⟩
  ·rintro m H4 ⟨G,d,l,rfl,q1,I,x,q4,C,q7⟩;have As:l.length=g.length:=by rw[<- x,Ql]
   have zc:d.length=l.length:=by have:=I.1;simpa using this
   refine⟨u,p,R,d,_,rfl,C,by lia,.inl (ak.of q1),by lia,λL2 ys H5 Du Bm YV oi lu=>⟨L2,ys,rfl,.inl ⟨ak.of Bm,λa ha=>?_⟩⟩⟩;have s6:=aa.upd ha (.tup ys);have wz:=(C.ts lu).trans s6.ts;obtain⟨rs',pr,pa⟩:=x5 (I.ts wz) YV;obtain⟨F,rt⟩:=RT.of aB pa (by rw[<- x];exact pr.map _) Hj (λn D=>Kh n (EQ n D)) (by lia) (by lia) ((q4.tk wz).perm λr hr=>pr.mem_iff.mp hr);exact k a _ F g _ rt (by lia) EQ ((oi.same s6).mono (by lia)) ((q7.trans lu).trans s6.sm)
inductive Dv (vs:Qbi)(H:Hp)(Q:VK)(b_:XK):Prop
 |mk (a:Addr) (B:Qbi) (rs:Qbg) (nx:Str->Option Str) (ρ:Str->Nat) (x:Str):vs=[.ref a,.str x]->q_ H a B rs nx ρ->x∈rs.map (·.1)->(∀Z,aa H Z->Q (.str (ie nx rs.length x)) Z)->Dv vs H Q b_
inductive Kp (vs:Qbi)(H:Hp)(Q:VK)(b_:XK):Prop
 |mk (a:Addr) (B:Qbi) (rs:Qbg) (nx:Str->Option Str) (ρ:Str->Nat) (x:Str):vs=[.ref a,.str x]->q_ H a B rs nx ρ->x∈rs.map (·.1)->(∀v Z,aa H Z->fu (dictOf (ef rs)) (.inr (ie nx rs.length x))=some v->Q v Z)->Kp vs H Q b_
inductive ES (K:QZ)(vs:Qbi)(H:Hp)(Q:VK)(b_:XK):Prop
 |mk (H0:Hp) (p a:Addr) (t:Nat) (B:Qbi) (F:List eu) (ns ws:Qa8):vs=[.ref p,.ref a]->cj K H0 H p t->t<900000->RT H a B F ns ws->(∀(n:Str)(Z:Hp),n∈ns->cj K H0 Z p (t+1)->Sm p p H Z->Q (.str n) Z)->ES K vs H Q b_
theorem kP(T:Txt K mg w):aq P w K mg base 3 "_law_any" ["_law_pen","_law_told"] (ES K):=by
 refine T.zD.dh wT ?_ ?_
 ·rintro _ _ _ _ ⟨j,p,a,t,l,d,q,u,rfl,_⟩;rfl
 ·rintro f y A e s H z Q E m ⟨j,p,a,t,l,d,q,u,rfl,n,C,c,k⟩;obtain⟨hu,bj,hsz⟩:=c9 m;have D:=c.rl;have G:=c.rv.len;have pos:=c.pos;have few:=c.few;refine⟨_,(aI (aU (aN K (aN K (zv 1) (aR (bM T) m (aD (zv 0) (bB (bY (bR K) T.oh Qae (aD (zv 1) aC)) aC)))) aF))),?_⟩;refine .inl ⟨_,.inr (ae.of c.at_),j,p,_,t,rfl,n,⟨by lia,by lia⟩,by lia,λr x I L g o=>?_⟩;obtain⟨i,rfl⟩:∃i:Nat,r=(i:Int):=⟨r.toNat,by lia⟩
  have h:=c.tk (n.ts o);obtain⟨b,v,q1,q2,q3⟩:=h.rv.at_ i (by lia) (by lia)
  refine⟨l,.ref b,.inr (ae.of h.at_),bU (by rw[Qa (by lia),q1]),_,_,.inr (ae.of q2),aV _ _,k _ x (h.nm.mem_iff.mp (qN.mpr ⟨_,Qj (by lia),rfl⟩)) g o⟩
theorem d9(T:Txt K mg w):aq P w K mg base 1 "_law_row_here" ["_law_told","_law_name"] Dv:=by
 refine T.pT.dh eP ?_ ?_
 ·rintro _ _ _ _ ⟨a,r,c,i,j,x,rfl,_⟩;rfl
 ·rintro f az A n s H vs Q E L ⟨a,r,c,i,j,x,rfl,g,N,k⟩;have o:=fX L;have R:=Qx o;refine⟨_,(aE (aQ 2 eP.nd (dG (iI rfl) T.lZ QX (aD (zv 0) aC)))
   (aE (iM PassesOwn.never (aK (aZ R) (aN K (jV o (zv 2) (zv 1)) aF) aG) (aI (aQ 1 eP.nd (aN K (jV o (zv 2) (zv 1)) aF))))
   (aI (aU (zv 1))))),?_⟩
  have ag:sizeLine=16777216:=QL;have YW:=g.len;refine aM ⟨a,r,ef c,rfl,g.at_,g.ps,(by simp;lia),λd hd=>?_⟩;have t:aa H (upd H d (.dK (dictOf (ef c)))):=aa.upd hd _;have g1:=g.ts t.ts;refine⟨λm u C=>C=upd H d (.dK (dictOf (ef c)))/\∃y,u=[af a,cg y,af d]/\y∈c.map (·.1)/\ie i c.length y=ie i c.length x/\m=j y,⟨_,rfl,x,rfl,N,rfl,rfl⟩,?_⟩;rintro m u C ⟨rfl,y,rfl,D,G,rfl⟩;obtain⟨v,hv,qg⟩:=g1.get D;have p:k_ (upd H d (.dK (dictOf (ef c)))) d (.str y) (some v):=by
   rw[<- qg];exact k_.k (k:=Sum.inr y) aB
  obtain⟨b,rfl,hb⟩:=g1.as _ hv;rcases hb with⟨z,ys,h1,h2,l⟩|⟨z,h1,l⟩
  ·refine⟨d,_,rfl,p,_,.str z,.inr (ae.of h1),aV _ _,rfl,_,rfl,?_⟩;rw[QE,Qw (λe=>h2 (V.str.inj e))];refine gf ?_;have e2:ie i c.length y=y:=jX _ l;have:=k _ t;rw[<- G,e2]at this;exact this
  ·refine⟨d,_,rfl,p,_,.str "as",.inr (ae.of h1),aV _ _,rfl,_,rfl,?_⟩;refine A8 ?_;obtain⟨i1,i2⟩:=g1.Gf _ hv z l;refine⟨λq Cj=>∃I,I<j y/\Cj=upd H d (.dK (dictOf (ef c)))/\∃y,q=[af a,cg y,af d]/\y∈c.map (·.1)/\ie i c.length y=ie i c.length x/\I=j y,λ_ _ h=>h,?_⟩;refine⟨d,_,rfl,p,_,.str z,.inr (ae.of h1),rfl,_,i2,rfl,z,rfl,i1,?_,rfl⟩;rw[<- G];exact g1.Vo D l
theorem lW(T:Txt K mg w):aq P w K mg base 2 "_law_head_here" ["_law_told","_law_name"] Kp:=by
 refine T.nU.dh mK ?_ ?_
 ·rintro _ _ _ _ ⟨a,c,b,e,i,x,rfl,_⟩;rfl
 ·rintro f r A h s H t Q E j ⟨a,c,b,e,i,x,rfl,g,l,k⟩;have o:=fX j;have p:sizeLine=16777216:=QL;have u:=g.len;refine⟨_,(aI (aU (jV o (dG (iI rfl) T.lZ QX (aD (zv 0) aC)) (aR (d9 T) j (aD (zv 0) (aD (zv 1) aC)))))),?_⟩;refine⟨a,c,ef b,rfl,g.at_,g.ps,(by simp;lia),λd q=>?_⟩;have m:aa H (upd H d (.dK (dictOf (ef b)))):=aa.upd q _;refine⟨a,c,b,e,i,x,rfl,g.ts m.ts,l,λy n=>?_⟩;obtain⟨v,hv,qg⟩:=g.get (g.Gg l).1;refine⟨d,v,rfl,?_,k v _ (m.trans n) qg⟩;rw[<- qg];exact k_.k (k:=Sum.inr (ie e b.length x)) (n _ _ aB)
inductive oj (vs:Qbi)(H:Hp)(Q:VK)(b_:XK):Prop
 |mk (v:V) (J:Qbi):vs=[v]->rf H v J->(∀L Z,H L=none->Z L=be J->aa H Z->Q (.ref L) Z)->oj vs H Q b_
theorem cQ(T:Txt K mg w):aq P w K mg base 1 "_law_parts" ["_law_maker"] oj:=by
 refine T.u9.dh f9 ?_ ?_
 ·rintro _ _ _ _ ⟨v,J,rfl,_⟩;rfl
 ·rintro f az A ag s H vs Q E hr ⟨v,J,rfl,hs,k⟩;have bj:=Qx (fX hr);have ah:sizeLine=16777216:=QL;refine⟨_,(aE (aQ 1 f9.nd (aN K (zv 0) aF))
   (aE (bF (aK (kS K) (zv 1) (aL (aA aG (aA aG aC))) rfl) (aI (aU (bK (aJ (aN K (zv 0) (F8 sW aF)) aC)))) aW)
   (aE (bF (aK (aZ bj) (zv 1) aG) (aI (aU (bK (aJ (aN K (zv 0) aF) (aJ (aN K (zv 0) aF) aC))))) aW)
   (aE (bF (aK (kS K) (zv 1) (aL (aA aG (aA aG aC))) rfl) (aI (aU (bK (aJ (aN K (zv 0) aF) aC)))) aW)
   (aE (bF (aK (aZ bj) (zv 1) aG) (aI (aU (iB ["_law_one"] [] ["_law_one"] (d6 f9) (lT K (aN K (zv 0) aF)) (λ_ _ _ _ _ _=>(cD 0)) (λ_ _ _ _ _ _=>(aN K (zv 0) aF))))) aW)
   (aE (bF (aK (aZ bj) (zv 1) aG) (aI (aU (bN bT (bK (aJ (aN K (zv 0) aF) aC)) (iB ["_law_one"] [] ["_law_one"] (d6 f9) (lT K (aN K (zv 0) aF)) (λ_ _ _ _ _ _=>(cD 0)) (λ_ _ _ _ _ _=>(aN K (zv 0) aF)))))) aW)
   (aI (aU (bK aC))))))))),?_⟩
  cases hs with
  | @fn a v r m e _ _=>
   refine aM ⟨_,.str "fn",.inr (ae.of e),aV _ _,?_⟩;refine⟨bx,λn o=>⟨_,.inr (ae.of aB),rfl,rfl,_,rfl,?_⟩⟩;have d:aa H _:=(aa.refl H).trans (aa.upd o (.tup [.str "fn",.str "pick"]));generalize upd H n (.tup [.str "fn",.str "pick"])=p at d;refine aj (λ_=>?_) (λc=>absurd c (by decide+kernel));exact⟨1,rfl,_,m,.inr (ae.of (d _ _ e)),rfl,ik,λL l=>k L _ (d.free l) aB (d.trans (aa.upd l _))⟩
  | @pick a z m e _=>
   refine aM ⟨_,.str "pick",.inr (ae.of e),aV _ _,?_⟩;refine⟨bx,λn o=>⟨_,.inr (ae.of aB),rfl,rfl,_,rfl,?_⟩⟩;have d:aa H _:=(aa.refl H).trans (aa.upd o (.tup [.str "fn",.str "pick"]));generalize upd H n (.tup [.str "fn",.str "pick"])=p at d;refine aj (λ_=>?_) (λc=>absurd c (by decide+kernel));exact⟨1,rfl,_,m,.inr (ae.of (d _ _ e)),rfl,ik,λL l=>k L _ (d.free l) aB (d.trans (aa.upd l _))⟩
  | @call a f x e=>
   refine aM ⟨_,.str "call",.inr (ae.of e),aV _ _,?_⟩;refine⟨bx,λn o=>⟨_,.inr (ae.of aB),rfl,rfl,_,rfl,?_⟩⟩;have d:aa H _:=(aa.refl H).trans (aa.upd o (.tup [.str "fn",.str "pick"]));generalize upd H n (.tup [.str "fn",.str "pick"])=p at d;refine aj (λc=>absurd c (by decide+kernel)) (λ_=>aO ?_);refine⟨rfl,_,rfl,?_⟩;refine aj (λ_=>?_) (λc=>absurd c (by decide+kernel));exact⟨_,f,.inr (ae.of (d _ _ e)),rfl,_,x,.inr (ae.of (d _ _ e)),rfl,bx,λL l=>k L _ (d.free l) aB (d.trans (aa.upd l _))⟩
  | @part a m z e _=>
   refine aM ⟨_,.str "part",.inr (ae.of e),aV _ _,?_⟩;refine⟨bx,λn o=>⟨_,.inr (ae.of aB),rfl,rfl,_,rfl,?_⟩⟩;have d:aa H _:=(aa.refl H).trans (aa.upd o (.tup [.str "fn",.str "pick"]));generalize upd H n (.tup [.str "fn",.str "pick"])=p at d;refine aj (λc=>absurd c (by decide+kernel)) (λ_=>aO ?_);refine⟨rfl,_,rfl,?_⟩;refine aj (λc=>absurd c (by decide+kernel)) (λ_=>aO ?_);refine⟨bx,λu y=>⟨_,.inr (ae.of aB),rfl,rfl,_,rfl,?_⟩⟩;have g:aa H _:=d.trans (aa.upd y (.tup [.str "part",.str "hold"]));generalize upd p u (.tup [.str "part",.str "hold"])=I at g;refine aj (λ_=>?_) (λc=>absurd c (by decide+kernel));exact⟨_,m,.inr (ae.of (g _ _ e)),rfl,ik,λL l=>k L _ (g.free l) aB (g.trans (aa.upd l _))⟩
  | @hold a m z e _=>
   refine aM ⟨_,.str "hold",.inr (ae.of e),aV _ _,?_⟩;refine⟨bx,λn o=>⟨_,.inr (ae.of aB),rfl,rfl,_,rfl,?_⟩⟩;have d:aa H _:=(aa.refl H).trans (aa.upd o (.tup [.str "fn",.str "pick"]));generalize upd H n (.tup [.str "fn",.str "pick"])=p at d;refine aj (λc=>absurd c (by decide+kernel)) (λ_=>aO ?_);refine⟨rfl,_,rfl,?_⟩;refine aj (λc=>absurd c (by decide+kernel)) (λ_=>aO ?_);refine⟨bx,λu y=>⟨_,.inr (ae.of aB),rfl,rfl,_,rfl,?_⟩⟩;have g:aa H _:=d.trans (aa.upd y (.tup [.str "part",.str "hold"]));generalize upd p u (.tup [.str "part",.str "hold"])=I at g;refine aj (λ_=>?_) (λc=>absurd c (by decide+kernel));exact⟨_,m,.inr (ae.of (g _ _ e)),rfl,ik,λL l=>k L _ (g.free l) aB (g.trans (aa.upd l _))⟩
  | @dw a b B ms e e2 rm=>
   refine aM ⟨_,.str "box",.inr (ae.of e),aV _ _,?_⟩;refine⟨bx,λn o=>⟨_,.inr (ae.of aB),rfl,rfl,_,rfl,?_⟩⟩;have d:aa H _:=(aa.refl H).trans (aa.upd o (.tup [.str "fn",.str "pick"]));generalize upd H n (.tup [.str "fn",.str "pick"])=p at d;refine aj (λc=>absurd c (by decide+kernel)) (λ_=>aO ?_);refine⟨rfl,_,rfl,?_⟩;refine aj (λc=>absurd c (by decide+kernel)) (λ_=>aO ?_);refine⟨bx,λu y=>⟨_,.inr (ae.of aB),rfl,rfl,_,rfl,?_⟩⟩;have g:aa H _:=d.trans (aa.upd y (.tup [.str "part",.str "hold"]));generalize upd p u (.tup [.str "part",.str "hold"])=I at g;refine aj (λc=>absurd c (by decide+kernel)) (λ_=>aO ?_);refine⟨rfl,_,rfl,?_⟩;refine aj (λ_=>?_) (λc=>absurd c (by decide+kernel));refine⟨_,.ref b,.inr (ae.of (g _ _ e)),rfl,Or.inr ⟨⟨B,ae.of (g _ _ e2)⟩,λD V=>?_⟩⟩;have hl:=rm.len;have jx:=rm.few;refine eM (dA B) (λi C q=>q D=be (J.take i)/\aa I q/\∃N,C=[N]) ⟨aB,aa.upd V _,none,rfl⟩ (λi C q _ h=>ae.of (h.2.1 _ _ (g _ _ e2))) ?_ ?_
   ·rintro i C q hi ⟨G,t,N,rfl⟩;obtain⟨c,ys,r1,r2,r3,_⟩:=rm.at_ i hi (by lia)
    have eg:B.getD i .ao=.ref c:=eJ hi r1;rw[eg];refine⟨_,J[i]'(by lia),.inr (ae.of (t _ _ (g _ _ r2))),?_,_,G,by simp;lia,?_,t.put V,_,rfl⟩
    ·exact bU (j:=1) (by rw[<- r3,Qaq (Qy _),Nat.sub_self];rfl)
    ·rw[aB,Qs,Qa (show i<J.length by lia)];rfl
   ·rintro C q ⟨G,t,N,rfl⟩;rw[qQ (by lia)]at G;exact k D q (g.free V) G (g.trans t)
  | @split a b m B ms e e2 rm=>
   refine aM ⟨_,.str "split",.inr (ae.of e),aV _ _,?_⟩;refine⟨bx,λn o=>⟨_,.inr (ae.of aB),rfl,rfl,_,rfl,?_⟩⟩;have d:aa H _:=(aa.refl H).trans (aa.upd o (.tup [.str "fn",.str "pick"]));generalize upd H n (.tup [.str "fn",.str "pick"])=p at d;refine aj (λc=>absurd c (by decide+kernel)) (λ_=>aO ?_);refine⟨rfl,_,rfl,?_⟩;refine aj (λc=>absurd c (by decide+kernel)) (λ_=>aO ?_);refine⟨bx,λu y=>⟨_,.inr (ae.of aB),rfl,rfl,_,rfl,?_⟩⟩;have g:aa H _:=d.trans (aa.upd y (.tup [.str "part",.str "hold"]));generalize upd p u (.tup [.str "part",.str "hold"])=I at g;refine aj (λc=>absurd c (by decide+kernel)) (λ_=>aO ?_);refine⟨rfl,_,rfl,?_⟩;refine aj (λc=>absurd c (by decide+kernel)) (λ_=>aO ?_);refine⟨rfl,_,rfl,?_⟩;refine aj (λ_=>?_) (λc=>absurd c (by decide+kernel));refine⟨_,m,.inr (ae.of (g _ _ e)),rfl,ik,λL1 ET=>?_⟩;have R:aa H _:=g.trans (aa.upd ET (.lst [m]));have yj:upd I L1 (.lst [m]) L1=be [m]:=aB;generalize upd I L1 (.lst [m])=H9 at R yj;refine⟨_,.ref b,.inr (ae.of (R _ _ e)),rfl,Or.inr ⟨⟨B,ae.of (R _ _ e2)⟩,λD V=>?_⟩⟩;have hl:=rm.len;have jx:=rm.few;refine eM (dA B) (λi C q=>q D=be (ms.take i)/\aa H9 q/\∃N,C=[N]) ⟨aB,aa.upd V _,none,rfl⟩ (λi C q _ h=>ae.of (h.2.1 _ _ (R _ _ e2))) ?_ ?_
   ·rintro i C q hi ⟨G,t,N,rfl⟩;obtain⟨c,ys,r1,r2,r3,_⟩:=rm.at_ i hi (by lia)
    have eg:B.getD i .ao=.ref c:=eJ hi r1;rw[eg];refine⟨_,ms[i]'(by lia),.inr (ae.of (t _ _ (R _ _ r2))),?_,_,G,by simp;lia,?_,t.put V,_,rfl⟩
    ·exact bU (j:=2) (by rw[<- r3,Qaq (Qy _),Nat.sub_self];rfl)
    ·rw[aB,Qs,Qa (show i<ms.length by lia)];rfl
   ·rintro C q ⟨G,t,N,rfl⟩;rw[qQ (by lia)]at G;exact⟨_,_,t _ _ yj,G,by simp;lia,λL l=>k L _ (R.free (t.free l)) aB ((R.trans t).trans (aa.upd l _))⟩
  | @get a z e _=>
   refine aM ⟨_,.str "get",.inr (ae.of e),aV _ _,?_⟩;refine⟨bx,λn o=>⟨_,.inr (ae.of aB),rfl,rfl,_,rfl,?_⟩⟩;have d:aa H _:=(aa.refl H).trans (aa.upd o (.tup [.str "fn",.str "pick"]));generalize upd H n (.tup [.str "fn",.str "pick"])=p at d;refine aj (λc=>absurd c (by decide+kernel)) (λ_=>aO ?_);refine⟨rfl,_,rfl,?_⟩;refine aj (λc=>absurd c (by decide+kernel)) (λ_=>aO ?_);refine⟨bx,λu y=>⟨_,.inr (ae.of aB),rfl,rfl,_,rfl,?_⟩⟩;have g:aa H _:=d.trans (aa.upd y (.tup [.str "part",.str "hold"]));generalize upd p u (.tup [.str "part",.str "hold"])=I at g;refine aj (λc=>absurd c (by decide+kernel)) (λ_=>aO ?_);refine⟨rfl,_,rfl,?_⟩;refine aj (λc=>absurd c (by decide+kernel)) (λ_=>aO ?_);refine⟨rfl,_,rfl,?_⟩;refine aj (λc=>absurd c (by decide+kernel)) (λ_=>bD ?_);exact⟨ki,λL l=>k L _ (g.free l) aB (g.trans (aa.upd l _))⟩
inductive Dy (n:Nat)(vs:Qbi)(H:Hp)(Q:VK)(b_:XK):Prop
 |mk (v:V) (s:Nat):vs=[v]->Aw H n s v->(∀Z,aa H Z->Q (.int (s:Int)) Z)->Dy n vs H Q b_
theorem YX{s:Nat}{v:V}(h:Aw H n s v):1<=s:=by
 cases h with
 |mk _ _ _ e=>lia
theorem vN:∀ss:Qbc,(ss.map λx:Nat=>(x:Int)).sum=((ss.sum:Nat):Int)
 | []=>rfl
 |s::ss=>by rw[Qab,List.sum_cons,List.sum_cons,vN ss];push_cast;rfl
theorem jN(T:Txt K mg w):∀n:Nat,aq P w K mg base (2+n) "_law_many" ["_law_maker"] (Dy n):=by
 intro n
 induction n with
 |zero=>
  refine T.oY.dh (k:=1) iS ?_ ?_
  ·rintro _ _ _ _ ⟨v,s,rfl,_⟩;rfl
  ·rintro f t A a s H u Q E c ⟨v,s,rfl,h,_⟩;cases h
 |succ n ih=>
  have y:aq P w K mg base (2+n) "_law_many" ["_law_maker"] (Dy n):=ih;refine T.oY.dh (k:=2+n) iS ?_ ?_
  ·rintro _ _ _ _ ⟨v,s,rfl,_⟩;rfl
  ·rintro f t A a s H u Q E c ⟨v,s,rfl,z,k⟩;obtain⟨hu,bj,hsz⟩:=c9 c;cases z with
   | @mk _ _ _ J ss FZ hl hks he=>
    have R:∀i(h:i<ss.length),1<=ss[i]:=λi h=>YX (hks i (by lia) h);have Of:=Wh FZ;refine⟨_,(aI (aU (bN bT aF (bY (zL K rfl) T.Yq PyProof.Rows.boot_sum (cG (iB ["_law_one"] [] ["_law_one"] (d6 iS) (lT K (aR (cQ T) c (aD (zv 0) aC))) (λ_ _ _ _ _ _=>(cD 0)) (λ_ _ _ _ _ _=>(aR y c (aD (zv 0) aC)))) aC))))),?_⟩;refine⟨v,J,rfl,FZ,λL C hL l m=>Or.inl ⟨⟨J,ak.of l⟩,λD o=>?_⟩⟩;refine eM (cB J) (λi d b=>b D=be (((ss.take i).map λx:Nat=>(x:Int)).map V.int)/\aa C b/\∃j,d=[j]) ⟨aB,aa.upd o _,none,rfl⟩ (λi d b _ h=>ak.of (h.2.1 _ _ l)) ?_ ?_
    ·rintro i d b p ⟨e,g,j,rfl⟩;have q:i<ss.length:=by lia
     have G:J.getD i .ao=J[i]:=by simp[Qb,p]
     rw[G];refine⟨J[i],ss[i],rfl,(hks i p q).tk (m.trans g).ts,λH4 r=>?_⟩;refine⟨_,r _ _ e,by simp;lia,?_,(g.trans r).put o,_,rfl⟩;have I:ss.take (i+1)=ss.take i++[ss[i]]:=xU q;rw[aB,I,Qm,Qm];rfl
    ·rintro d b ⟨e,g,j,rfl⟩;rw[qQ (by lia)]at e;refine⟨_,ak.of e,?_⟩;rw[vN];have:=k b (m.trans g);have N:(s:Int)=1+((ss.sum:Nat):Int):=by lia
     rw[N]at this;exact this
def EU(H:Hp)(a:Str)(x:V)(c:Qbi):Prop:=(a="maker"/\c=[x])\/((a="parts"\/a="cases")/\∃b F n,x=.ref b/\H b=some (.tup F)/\C7 H (n+1) F c)\/((a="name"\/a="row")/\c=[])
inductive Bo (H:Hp):Qa8->Qbi->List Qbi->Prop
 |nil:Bo H [] [] []
 |cons {w:Str} {ws:Qa8} {x:V} {B:Qbi} {c:Qbi} {cs:List Qbi}:EU H w x c->Bo H ws B cs->Bo H (w::ws) (x::B) (c::cs)
theorem Bo.len{B:Qbi}{cs:List Qbi}(h:Bo H ws B cs):B.length=ws.length/\cs.length=ws.length:=by
 induction h with
 |nil=>exact⟨rfl,rfl⟩
 |cons _ _ ih=>simp[ih.1,ih.2]
theorem Bo.at_{B:Qbi}{cs:List Qbi}(h:Bo H ws B cs):∀i,i<ws.length->∃w x c,ws[i]? =some w/\B[i]? =some x/\cs[i]? =some c/\EU H w x c:=by
 induction h with
 |nil=>intro i a;exact absurd a (by simp)
 |cons hc _ ih=>
  intro i a;cases i with
  |zero=>exact⟨_,_,_,rfl,rfl,rfl,hc⟩
  |succ j=>exact ih j (by simpa using a)
structure YY(K:QZ)(H:Hp)(kvs:Qbf)(v:V)(J:Qbi)(t:Addr)(w:Str)(e_:Qa8)(B:Qbi)(cs:List Qbi):Prop where
 vl:fu kvs (.inr w)=some (.ref t)
 at_:∃a,v=.ref a/\H a=some (.tup (.str w::B))
 sq:∀H,ae K H t (e_.map V.str)
 Og:Bo H e_ B cs
 fl:cs.flatten=J
 few:e_.length<=3
abbrev Oh(t0 a b c d e f g:Addr):Qbf:=[(.inr "get",.ref t0),(.inr "fn",.ref a),(.inr "call",.ref b),(.inr "box",.ref c),(.inr "part",.ref d),(.inr "pick",.ref e),(.inr "split",.ref f),(.inr "hold",.ref g)]
theorem Cp{x:V}:EU H "maker" x [x]:=.inl ⟨rfl,rfl⟩
theorem Ho{x:V}:EU H "name" x []:=.inr (.inr ⟨.inl rfl,rfl⟩)
theorem Oi{x:V}:EU H "row" x []:=.inr (.inr ⟨.inr rfl,rfl⟩)
theorem YZ(a:List α)(y:α):kq (a++[y]) (-1)=some y:=by
 unfold kq ur;rw[if_neg (by decide),if_pos (by simp;lia)];have:(-1+((a++[y]).length:Int)).toNat=a.length:=by simp;lia
 show(a++[y])[(-1+((a++[y]).length:Int)).toNat]? =some y;rw[this];simp
theorem cO(T:Txt K mg w):aq P w K mg base 1 "makers_in" ["maker"] oj:=by
 refine T.uP.dh dJ ?_ ?_
 ·rintro _ _ _ _ ⟨v,J,rfl,_⟩;rfl
 ·rintro f az A ah s H vs Q E hr ⟨v,J,rfl,hs,k⟩;have bj:=Qx (fX hr);have ai:sizeLine=16777216:=QL;obtain⟨aP,t0,t1,t2,t3,t4,t5,t6,t7,Kr,Ks,q0,q1,q2,q3,q4,q5,q6,q7⟩:=T.u8;have Ku:∃a,mg "PLACES"=some (Value.ref a)/\KD w K a _:=⟨aP,Kr,Ks⟩
  refine⟨_,(aE (aQ 1 dJ.nd (bK aC))
   (aE (dP PassesOwn.never rfl (JW true true K (by rfl) T.EI (aJ (MS Ku (aN K (zv 0) aF) (λ_ _=>rfl)) (aJ (cT (lR K) (zv 0) (cU aF) cS) aC))) (dN K (n:=2) rfl (bA (bS 2 dJ.nd) (bA (bS 3 dJ.nd) cP))) (aI (bF (aK (aZ bj) (zv 2) aG) (aI (cE (gT K QH QJ QK bJ (zv 1) (aD (zv 3) aC)))) (aI (bF (aK (kS K) (zv 2) (aL (aA aG (aA aG aC))) rfl) (aI (cE (gT K QH PySem.F.slot_list_extend PySem.F.type_list_extend lY (zv 1) (cG (iB ["row"] [] ["row"] (d6 dJ) (lT K (zv 3)) (λ_ _ _ _ _ _=>(cD 0)) (λ_ _ _ _ _ _=>(aN K (zv 0) (F8 sW aF)))) aC)))) aW)))))
   (aI (aU (zv 1))))),?_⟩
  have ag:X5 λt ww e_ d cs=>YY K H (Oh t0 t1 t2 t3 t4 t5 t6 t7) v J t ww e_ d cs:=by
   cases hs with
   | @get a z e _=>exact⟨t0,"get",["name"],[.str z],[[]],rfl,⟨a,rfl,e⟩,q0,.cons Ho .nil,rfl,by simp⟩
   | @fn a z r m e _ _=>exact⟨t1,"fn",["name","row","maker"],[.str z,.str r,m],[[],[],[m]],rfl,⟨a,rfl,e⟩,q1,.cons Ho (.cons Oi (.cons Cp .nil)),rfl,by simp⟩
   | @call a f x e=>exact⟨t2,"call",["maker","maker"],[f,x],[[f],[x]],rfl,⟨a,rfl,e⟩,q2,.cons Cp (.cons Cp .nil),rfl,by simp⟩
   | @dw a b d ms e e2 u=>exact⟨t3,"box",["parts"],[.ref b],[J],rfl,⟨a,rfl,e⟩,q3,.cons (.inr (.inl ⟨.inl rfl,b,d,0,rfl,e2,u⟩)) .nil,by simp,by simp⟩
   | @part a m z e _=>exact⟨t4,"part",["maker","name"],[m,.str z],[[m],[]],rfl,⟨a,rfl,e⟩,q4,.cons Cp (.cons Ho .nil),rfl,by simp⟩
   | @pick a z m e _=>exact⟨t5,"pick",["name","maker"],[.str z,m],[[],[m]],rfl,⟨a,rfl,e⟩,q5,.cons Ho (.cons Cp .nil),rfl,by simp⟩
   | @split a b m d ms e e2 u=>exact⟨t6,"split",["maker","cases"],[m,.ref b],[[m],ms],rfl,⟨a,rfl,e⟩,q6,.cons Cp (.cons (.inr (.inl ⟨.inr rfl,b,d,1,rfl,e2,u⟩)) .nil),by simp,by simp⟩
   | @hold a m z e _=>exact⟨t7,"hold",["maker","row"],[m,.str z],[[m],[]],rfl,⟨a,rfl,e⟩,q7,.cons Cp (.cons Oi .nil),rfl,by simp⟩
  obtain⟨t,ww,e_,d,cs,mo⟩:=ag;obtain⟨a,rfl,ea⟩:=mo.at_
  have jx:=mo.few;obtain⟨f_,iz⟩:=mo.Og.len;refine aM ⟨Qal _,λL hL=>?_⟩;have s0:=aa.upd hL (.lst []);have gL:upd H L (.lst []) L=be []:=aB;generalize upd H L (.lst [])=H1 at s0 gL;refine aT (λg y=>X2 λC G=>g=[af a,af L,C,G]/\y L=be J/\aa H y) ?_ ?_
  ·intro nx ay;refine⟨_,_,.inr (ae.of (s0 _ _ ea)),aV _ _,_,_,rfl,mo.vl,?_⟩;refine⟨1,rfl,?_⟩;refine Or.inr ?_;refine Or.inr ?_;refine⟨a,_,rfl,ae.of (s0 _ _ ea),by simp[HT.cf],λp hp=>?_⟩;have Co:gj (V.str ww::d) (some 1) none=d:=by simp[gj,HT.cf]
   rw[Co];have s1:=aa.upd hp (.tup d);have gp:upd H1 p (.tup d) p=bw d:=aB;have yj:=s1 _ _ gL;generalize upd H1 p (.tup d)=H2 at s1 gp yj;have s2:=s0.trans s1;refine⟨t,p,_,_,rfl,mo.sq _,ae.of gp,lB (x4 (e_.map V.str) d) (λi g y=>X2 λC G=>g=[af a,af L,C,G]/\y L=some (.lst (cs.take i).flatten)/\aa H y/\y p=bw d/\(cs.take i).flatten.length<=1000*i) ⟨_,_,rfl,by simpa using yj,s2,gp,by simp⟩ (by rintro i τ y _ ⟨_,_,_,_,s',Y0,_⟩;exact⟨mo.sq _,ae.of Y0⟩) ?_ ?_⟩
   ·rintro i g o tt hi ⟨C,G,rfl,g1,s3,Cq,al⟩ yk;have fh:i<e_.length:=by simp at hi;lia
    obtain⟨wh,x,c,e1,e2,e3,hc⟩:=mo.Og.at_ i fh
    have ew:(e_.map V.str).getD i .ao=.str wh:=by simp[e1,Qb]
    have ex:d.getD i .ao=x:=by simp[Qb,e2]
    rw[ew,ex];have s4:=s3.trans (aa.upd yk (.tup [.str wh,x]));have g4:=aa.upd yk (.tup [.str wh,x]) _ _ g1;have Cr:=aa.upd yk (.tup [.str wh,x]) _ _ Cq;generalize upd o tt (.tup [.str wh,x])=H4 at s4 g4 Cr;have zu:(cs.take (i+1)).flatten=(cs.take i).flatten++c:=by rw[Qs,e3];simp
    have zw:p≠L:=λz=>by rw[z,gL]at hp;cases hp
    rcases hc with⟨rfl,rfl⟩|⟨I,b,l,n,rfl,hb,u⟩|⟨I,rfl⟩
    ·refine⟨rfl,_,rfl,aj (λ_=>?_) (λc=>absurd c (by decide+kernel))⟩;refine⟨.inl ⟨rfl,_,ak.of g4⟩,L,_,_,rfl,rfl,g4,by lia,_,_,rfl,by rw[aB,zu],s4.put hL,by rw[aS zw];exact Cr,by rw[zu,Qk,List.length_singleton];lia⟩
    ·have w_:wh≠"maker":=by rcases I with rfl|rfl<;>decide+kernel
     have hl:=u.len;have am:=u.few;refine⟨rfl,_,rfl,aj (λc=>absurd c (by simp[w_])) (λ_=>?_)⟩;refine⟨bx,λb1 N=>⟨_,.inr (ae.of aB),?_,rfl,_,rfl,?_⟩⟩
     ·rcases I with rfl|rfl<;>rfl
     have q:=s4.trans (aa.upd N (.tup [.str "parts",.str "cases"]));have R:=aa.upd N (.tup [.str "parts",.str "cases"]) _ _ g4;have EV:=aa.upd N (.tup [.str "parts",.str "cases"]) _ _ Cr;generalize upd H4 b1 (.tup [.str "parts",.str "cases"])=H5 at q R EV;refine aj (λ_=>?_) (λc=>absurd c ?_)
     ·refine⟨.inl ⟨rfl,_,ak.of R⟩,Or.inr ⟨⟨l,ae.of (q _ _ hb)⟩,λD hD=>?_⟩⟩;have an:L≠D:=λz=>by rw[<- z,R]at hD;cases hD
      refine eM (dA l) (λi τ o=>o D=be (c.take i)/\aa H5 o/\∃v1,τ=[v1]) ⟨aB,aa.upd hD _,none,rfl⟩ (λi τ o _ h=>ae.of (h.2.1 _ _ (q _ _ hb))) ?_ ?_
      ·rintro j τ H6 hj ⟨r1,r2,v1,rfl⟩;obtain⟨cc,ys,w1,w2,w3⟩:=u.at_ j hj (by lia)
       have eg:l.getD j .ao=.ref cc:=eJ hj w1;rw[eg];refine⟨1,rfl,_,c[j]'(by lia),.inr (ae.of (r2 _ _ (q _ _ w2))),YZ _ _,_,r1,by simp;lia,?_,r2.put hD,_,rfl⟩;rw[aB,Qs,Qa (show j<c.length by lia)];rfl
      ·rintro τ H6 ⟨r1,r2,v1,rfl⟩;rw[qQ (by lia)]at r1;exact⟨L,D,_,c,rfl,rfl,r2 _ _ R,r1,by lia,_,_,rfl,by rw[aB,zu],(q.trans r2).put hL,by rw[aS zw];exact r2 _ _ EV,by rw[zu,Qk];lia⟩
     ·rcases I with rfl|rfl<;>decide+kernel
    ·have w_:wh≠"maker":=by rcases I with rfl|rfl<;>decide+kernel
     refine⟨rfl,_,rfl,aj (λc=>absurd c (by simp[w_])) (λ_=>?_)⟩;refine⟨bx,λb1 N=>⟨_,.inr (ae.of aB),?_,rfl,_,rfl,?_⟩⟩
     ·rcases I with rfl|rfl<;>rfl
     have q:=s4.trans (aa.upd N (.tup [.str "parts",.str "cases"]));have R:=aa.upd N (.tup [.str "parts",.str "cases"]) _ _ g4;have EV:=aa.upd N (.tup [.str "parts",.str "cases"]) _ _ Cr;generalize upd H4 b1 (.tup [.str "parts",.str "cases"])=H5 at q R EV;refine aj (λc=>absurd c ?_) (λ_=>?_)
     ·rcases I with rfl|rfl<;>decide+kernel
     ·exact⟨_,_,rfl,by rw[R,zu,QQ],q,EV,by rw[zu,QQ];lia⟩
   ·rintro g o ⟨C,G,rfl,g1,s3,Cq,_⟩;rw[qQ (by simp;lia)]at g1;exact ay _ _ ⟨C,G,rfl,by rw[g1,mo.fl],s3⟩
  ·rintro g o ⟨C,G,rfl,g1,s3⟩;exact k L o hL g1 s3
def iw(H:Hp)(n s:Nat)(v:V):Prop:=∃m,bf H n v m/\av m=s
theorem iw.tk{H Z:Hp}{n s:Nat}{v:V}(h:iw H n s v)(t:Tk H Z):iw Z n s v:=let ⟨m,h1,h2⟩:=h;⟨m,h1.tk t,h2⟩
theorem iw.up{H:Hp}{n s k:Nat}{v:V}(h:iw H n s v)(l:n<=k):iw H k s v:=let ⟨m,h1,h2⟩:=h;⟨m,h1.up l,h2⟩
theorem iw.Et{H:Hp}{n s:Nat}{v:V}(h:iw H n s v):Aw H n s v:=by
 obtain⟨m,h1,rfl⟩:=h;exact h1.Et
def xf(H:Hp)(v:V)(a:Qbi):Prop:=∃f:a_,gu H v f a/\f.ok
section
variable{v r:Str}{m m':V}{s s':Nat}{x:V}
theorem xf.fn(e:H a=some (.tup [.str "fn",.str v,.str r,m]))(h:bq v)(O:bq r):xf H (.ref a) [m]:=⟨.fn v r,.fn e,h,O⟩
theorem xf.call(e:H a=some (.tup [.str "call",m,m'])):xf H (.ref a) [m,m']:=⟨.call,.call e,trivial⟩
theorem xf.part(e:H a=some (.tup [.str "part",m,.str z]))(h:bq z):xf H (.ref a) [m]:=⟨.part z,.part e,h⟩
theorem xf.pick(e:H a=some (.tup [.str "pick",.str z,m]))(h:bq z):xf H (.ref a) [m]:=⟨.pick z,.pick e,h⟩
theorem xf.hold(e:H a=some (.tup [.str "hold",m,.str z]))(h:bq z):xf H (.ref a) [m]:=⟨.hold z,.hold e,h⟩
theorem u5(e:H a=some (.tup [.str "get",.str z]))(b:bq z):iw H 1 1 (.ref a):=⟨.mk (.get z) [],.mk (.get e) b rfl (λi h=>nomatch h),by simp[av,br]⟩
theorem gF(h:xf H x [m])(a:iw H n s m):iw H (n+1) (1+s) x:=by
 obtain⟨f,sh,ok⟩:=h;obtain⟨t,ht,rfl⟩:=a;refine⟨.mk f [t],.mk sh ok rfl (λi h1 h2=>?_),by simp[av,br]⟩;obtain rfl:i=0:=by simp at h1;lia
 exact ht
theorem xL(h:xf H x [m,m'])(b:iw H n s m)(a:iw H n s' m'):iw H (n+1) (1+s+s') x:=by
 obtain⟨f,sh,ok⟩:=h;obtain⟨t,ht,rfl⟩:=b;obtain⟨t',Y3,rfl⟩:=a;refine⟨.mk f [t,t'],.mk sh ok rfl (λi h1 h2=>?_),by simp[av,br];lia⟩;rcases(show i=0\/i=1 by simp at h1;lia)with rfl|rfl
 ·exact ht
 ·exact Y3
end
def fj(H:Hp)(ls:List Qbi)(b:Qbi)(dep c:Nat):Prop:=∃(a:Qbi)(J:List Mr),kg H ls b a/\jy H dep a J/\br J<=c
section
variable{ls:List Qbi}{zs:Qbi}{dep kj EW Oj s:Nat}
theorem fj.tk(h:fj H ls zs dep kj)(t:Tk H Z):fj Z ls zs dep kj:=let ⟨ms,J,h1,h2,h3⟩:=h;⟨ms,J,h1.tk t,h2.tk t,h3⟩
theorem fj.nil:fj H [] [] dep 0:=⟨[],[],⟨rfl,rfl,λi h=>nomatch h⟩,⟨rfl,λi h=>nomatch h⟩,Qy _⟩
theorem fj.snoc(h:fj H ls zs dep kj){l:Qbi}{m:V}(e:H c=some (.tup (l++[m])))(f:iw H dep s m)(k:kj+s<=EW):fj H (ls++[l]) (zs++[.ref c]) dep EW:=by
 obtain⟨ms,J,h1,h2,h3⟩:=h;obtain⟨t,hx,rfl⟩:=f;have l1:=h1.l1;have l2:=h1.l2;refine⟨ms++[m],J++[t],⟨by simp[l1],by simp[l2],λi a b d=>?_⟩,h2.app (.one hx),by rw[eI,br,br];lia⟩;by_cases hi:i<zs.length
 ·simp only[Qe hi,Qe (show i<ms.length by lia),Qe (show i<ls.length by lia)];exact h1.at_ i hi (by lia) (by lia)
 ·obtain rfl:i=zs.length:=by simp at a;lia
  refine⟨c,by simp,?_⟩;have g:(ms++[m])[zs.length]=m:=by simp[l1]
  have j:(ls++[l])[zs.length]=l:=by
   have:zs.length=ls.length:=by lia
   simp[this]
  rw[g,j];exact e
theorem fj.Cs(h:fj H ls zs dep kj)(c:dep<=Oj)(d:kj<=EW):fj H ls zs Oj EW:=let ⟨ms,J,h1,h2,h3⟩:=h;⟨ms,J,h1,⟨h2.len,λi a b=>(h2.at_ i a b).up c⟩,by lia⟩
def AK(ws:Qa8):Prop:=ws.Nodup/\(∀z∈ws,bq z)/\ws.length<=1000
def Ct(cs:Qbh):Prop:=(cs.map (·.1)).Nodup/\(∀c∈cs,bq c.1/\bq c.2)/\cs.length<=1000
theorem sK(e:H a=some (.tup [.str "box",.ref b]))(c:H b=some (.tup zs))(h:fj H (d_ ws) zs dep kj)(ok:AK ws):∃s,s<=1+kj/\iw H (dep+1) s (.ref a):=by
 obtain⟨ms,J,h1,h2,h3⟩:=h;exact⟨1+br J,by lia,.mk (.dw ws) J,.mk (.dw e c h1) ok h2.len h2.at_,by rw[av]⟩
theorem wF{m:V}{c:Nat}(e:H a=some (.tup [.str "split",m,.ref b]))(d:H b=some (.tup zs))(f:iw H dep c m)(h:fj H (fm cs) zs dep kj)(ok:Ct cs):∃s,s<=1+c+kj/\iw H (dep+1) s (.ref a):=by
 obtain⟨ms,J,h1,h2,h3⟩:=h;obtain⟨t,ht,rfl⟩:=f;refine⟨1+(av t+br J),by lia,.mk (.split cs) (t::J),.mk (.split e d h1) ok (by simp[h2.len]) (λj a b=>?_),by rw[av,br]⟩;cases j with
 |zero=>exact ht
 |succ j=>exact h2.at_ j (by simpa using a) (by simpa using b)
theorem lP(e:H a=some (.tup [.str "box",.ref b]))(c:H b=some (.tup [])):iw H 1 1 (.ref a):=⟨.mk (.dw []) [],.mk (.dw (ws:=[]) e c ⟨rfl,rfl,λi h=>nomatch h⟩) ⟨List.nodup_nil,(λz d=>nomatch d),Qal _⟩ rfl (λi h=>nomatch h),by simp[av,br]⟩
end
inductive Hq (vs:Qbi)(H:Hp)(Q:VK)(b_:XK):Prop
 |mk:vs=[]->(∀v Z,aa H Z->iw Z 4 9 v->Q v Z)->Hq vs H Q b_
theorem l8(h:isName z=true):bq z:=by have:=kW h;unfold bq;lia
theorem y4:bq "v":=by unfold bq;decide
theorem Y4:bq "dn":=by unfold bq;decide
theorem jL(T:Txt K mg w):aq P w K mg base 1 "_law_endless" [] Hq:=by
 refine T.qP.dh iU ?_ ?_
 ·rintro _ _ _ _ ⟨rfl,_⟩;rfl
 ·rintro f N A h s H R Q E V ⟨rfl,k⟩;refine⟨_,(aE (aQ 0 iU.nd (aL (aA aG (aA aG (aA aG (aH (aL (aA aG (aH (aL (aA aG (aA aG aC))) (aH (aL (aA aG (aA aG aC))) aC)))) aC))))))
   (aI (aU (aL (aA aG (aD (zv 0) (aD (zv 0) aC))))))),?_⟩
  refine aM ⟨bx,λb h1=>⟨bx,λc h2=>⟨gz,λd r=>⟨Cg,λa t=>?_⟩⟩⟩⟩;have u:=aa.upd h1 (.tup [.str "get",.str "v"]);have g1:upd H b (.tup [.str "get",.str "v"]) b=bw [.str "get",.str "v"]:=aB;generalize upd H b (.tup [.str "get",.str "v"])=l at*;have m:=aa.upd h2 (.tup [.str "get",.str "v"]);have g2:upd l c (.tup [.str "get",.str "v"]) c=bw [.str "get",.str "v"]:=aB;generalize upd l c (.tup [.str "get",.str "v"])=n at*;have i:=aa.upd r (.tup [.str "call",.ref b,.ref c]);have x:upd n d (.tup [.str "call",.ref b,.ref c]) d=bw [.str "call",.ref b,.ref c]:=aB;generalize upd n d (.tup [.str "call",.ref b,.ref c])=o at*;have g:=aa.upd t (.tup [.str "fn",.str "v",.str "dn",.ref d]);have y:upd o a (.tup [.str "fn",.str "v",.str "dn",.ref d]) a=bw [.str "fn",.str "v",.str "dn",.ref d]:=aB;generalize upd o a (.tup [.str "fn",.str "v",.str "dn",.ref d])=p at*;refine⟨gz,λj z=>?_⟩;have e:=aa.upd z (.tup [.str "call",.ref a,.ref a]);have C:upd p j (.tup [.str "call",.ref a,.ref a]) j=bw [.str "call",.ref a,.ref a]:=aB;generalize upd p j (.tup [.str "call",.ref a,.ref a])=D at*;have G:=u5 (e _ _ (g _ _ (i _ _ (m _ _ g1)))) y4;have I:=u5 (e _ _ (g _ _ (i _ _ g2))) y4;have L:=xL (.call (e _ _ (g _ _ x))) G I;have q:=gF (.fn (e _ _ y) y4 Y4) L;exact k _ D ((((u.trans m).trans i).trans g).trans e) (xL (.call C) q q)
def BN:Qa8:=["v","va","u","x"]
inductive EX (K:QZ)(vs:Qbi)(H:Hp)(Q:VK)(b_:XK):Prop
 |mk (H0:Hp) (p:Addr) (t:Nat):vs=[.ref p]->cj K H0 H p t->t<900000->(∀(z:Str)(Z:Hp),z∈BN->cj K H0 Z p (t+1)->Sm p p H Z->Q (.str z) Z)->EX K vs H Q b_
theorem dR(T:Txt K mg w):aq P w K mg base 3 "_law_name_bound" ["_law_pen"] (EX K):=by
 refine T.mX.dh l9 ?_ ?_
 ·rintro _ _ _ _ ⟨e,p,t,rfl,_⟩;rfl
 ·rintro f y A a s H C Q E m ⟨e,p,t,rfl,g,n,k⟩;refine⟨_,(aI (aU (aN K (bK (aA aG (aA aG (aA aG (aA aG aC))))) (aR (bM T) m (aD (zv 0) (aA aF aC)))))),?_⟩;refine⟨Cg,λL h=>?_⟩;have i:=aa.upd h (.lst (BN.map V.str));have o:upd H L (.lst (BN.map V.str)) L=be (BN.map V.str):=aB;have j:L≠p:=g.ne h;have b:=g.same i;refine⟨e,p,4,t,rfl,b,⟨by decide,by decide⟩,n,λr q u x d l=>?_⟩;obtain⟨c,p_,jr⟩:=lK (BN.map V.str) r u x;obtain⟨z,hz,rfl⟩:=qN.mp (QC p_);exact⟨_,_,.inl (ak.of (l _ _ o j j)),jr,k z q hz d (i.sm.trans l)⟩
theorem yV{b:Qa8}{h:Hd}(ok:h.ok ns):h.ok (ns++b):=by
 cases h with
 |one s=>exact ok
 |as y=>exact⟨ok.1,Qav _ ok.2⟩
 |way x y=>exact⟨ok.1,ok.2.1,Qav _ ok.2.2.1,Qav _ ok.2.2.2⟩
 |prs s ps=>exact⟨ok.1,λp a=>⟨(ok.2.1 p a).1,(ok.2.1 p a).2.1,Qav _ (ok.2.1 p a).2.2⟩,ok.2.2⟩
theorem Y5{a:Qa8}{n:Str}{o:Option Str}(h:B8 ns n o):B8 (ns++a) n o:=λy e=>by
 obtain⟨i,j,h1,h2,h3⟩:=h y e;have b:i<ns.length:=(kB.mp h2).1;have c:j<ns.length:=(kB.mp h3).1;exact⟨i,j,h1,by rw[Qg b];exact h2,by rw[Qg c];exact h3⟩
inductive Kw (K:QZ)(vs:Qbi)(H:Hp)(Q:VK)(b_:XK):Prop
 |mk (H0:Hp) (p:Addr) (most:Int) (t:Nat):vs=[.ref p,.int most]->cj K H0 H p t->t+600<900000->1<=most/\most<=8->(∀(a:Addr)(B:Qbi)(F:List eu)(ns:Qa8)(Z:Hp),RT Z a B F ns WW->(∀n∈ns,n∈N8++(["nn","dn"]:Qa8))->cj K H0 Z p (t+600)->Sm p p H Z->Q (.ref a) Z)->Kw K vs H Q b_
theorem j6(T:Txt K mg w):aq P w K mg base 6 "_law_maker_telling" ["_law_pen","_law_most"] (Kw K):=by
 refine T.kA.dh j7 ?_ ?_
 ·rintro _ _ _ _ ⟨H0,p,j,t,rfl,_⟩;rfl
 ·rintro f az A L s H vs Q E hr ⟨H0,p,j,t,rfl,hn,ht,hm,k⟩;have ag:sizeLine=16777216:=QL;refine⟨_,(aI (aU (bN (eO K) (aR (pK T) hr (aD (zv 0) (aD (zv 1) aC))) (aL (aH (aL (aA aG (aH (aL (aA aG aC)) aC))) (aH (aL (aA aG (aH (aL (aA aG (aA aG (aA aG aC)))) aC))) aC)))))),?_⟩;refine⟨H0,p,j,t,rfl,hn,ht,hm,λa m i N R g Ol h8 V ql=>?_⟩;have As:=g.rl;have zc:=g.rv.len;have pos:=g.pos;refine⟨ik,λo h1=>⟨bx,λb h2=>⟨gz,λu h3=>⟨bx,λc h4=>⟨bx,λq h5=>?_⟩⟩⟩⟩⟩;have s1:=aa.upd h1 (.tup [.str "none"]);have g1:upd R o (.tup [.str "none"]) o=bw [.str "none"]:=aB;generalize upd R o (.tup [.str "none"])=H2 at*;have s2:=aa.upd h2 (.tup [.str "nn",.ref o]);have g2:upd H2 b (.tup [.str "nn",.ref o]) b=bw [.str "nn",.ref o]:=aB;generalize upd H2 b (.tup [.str "nn",.ref o])=H3 at*;have s3:=aa.upd h3 (.tup [.str "way",.str "dn",.str "nn"]);have g3:upd H3 u (.tup [.str "way",.str "dn",.str "nn"]) u=bw [.str "way",.str "dn",.str "nn"]:=aB;generalize upd H3 u (.tup [.str "way",.str "dn",.str "nn"])=H4 at*;have I:=aa.upd h4 (.tup [.str "dn",.ref u]);have g4:upd H4 c (.tup [.str "dn",.ref u]) c=bw [.str "dn",.ref u]:=aB;generalize upd H4 c (.tup [.str "dn",.ref u])=H5 at*;have D:=aa.upd h5 (.tup [.ref b,.ref c]);have g5:upd H5 q (.tup [.ref b,.ref c]) q=bw [.ref b,.ref c]:=aB;generalize upd H5 q (.tup [.ref b,.ref c])=H6 at*;have sA:aa R H6:=(((s1.trans s2).trans s3).trans I).trans D;refine⟨a,q,m,[.ref b,.ref c],rfl,rfl,ae.of (sA _ _ g.at_),ae.of g5,λz=>by rw[z]at zc;simp at zc;lia,by simp;lia,λz=>by simp at z,λ_ d hd=>?_⟩;have G:=aa.upd hd (.tup (m++[.ref b,.ref c]));have gd:upd H6 d (.tup (m++[.ref b,.ref c])) d=bw (m++[.ref b,.ref c]):=aB;generalize upd H6 d (.tup (m++[.ref b,.ref c]))=H7 at*;have sB:=sA.trans G;have r1:RV H7 (m++[.ref b]) (i++([("nn",.one "none")]:List eu)):=(g.rv.tk sB.ts).snoc (G _ _ (D _ _ (I _ _ (s3 _ _ g2)))) (.one (G _ _ (D _ _ (I _ _ (s3 _ _ (s2 _ _ g1))))));have r2:RV H7 (m++[.ref b]++[.ref c]) (i++([("nn",.one "none")]:List eu)++([("dn",.way "dn" "nn")]:List eu)):=r1.snoc (G _ _ (D _ _ g4)) (.way (G _ _ (D _ _ (I _ _ g3))));have Y6:∀z∈(["nn","dn"]:Qa8),z∉N:=λz l Dz=>by
   have:=h8 z Dz;simp only[Qp,QA,or_false]at l;rcases l with rfl|rfl<;>exact absurd this (by decide)
  have Y7:N.length<=8:=by lia
  refine k d _ (i++([("nn",.one "none")]:List eu)++([("dn",.way "dn" "nn")]:List eu)) (N++(["nn","dn"]:Qa8)) H7 ⟨?_,r2,?_,?_,?_,?_,?_,?_,by simp,by simp;lia⟩ (λn C=>?_) (V.same sB) (ql.trans sB.sm)
  ·rw[gd];simp
  ·simp only[Qm,Qab,List.map_nil,List.append_assoc];exact g.nm.append_right _
  ·refine List.nodup_append.mpr ⟨g.nd,by decide,λx hx y hy e=>Y6 y hy (e▸hx)⟩
  ·intro r hr;rcases xD.mp hr with hr|hr
   ·rcases xD.mp hr with hr|hr
    ·exact⟨(g.ok r hr).1,yV (g.ok r hr).2⟩
    ·rw[qD.mp hr];exact⟨by decide+kernel,.inr rfl⟩
   ·rw[qD.mp hr];exact⟨by decide+kernel,by decide+kernel,by decide+kernel,by simp,by simp⟩
  ·intro n C;rcases xD.mp C with h|h
   ·exact g.wd n h
   ·simp only[Qp,QA,or_false]at h;rcases h with rfl|rfl<;>exact fH (by decide) (by decide)
  ·intro r hr;rcases xD.mp hr with hr|hr
   ·rcases xD.mp hr with hr|hr
    ·exact Y5 (g.ah r hr)
    ·rw[qD.mp hr];exact λ_ h=>nomatch h
   ·rw[qD.mp hr];exact λ_ h=>nomatch h
  ·intro r hr z l;rcases xD.mp hr with hr|hr
   ·rcases xD.mp hr with hr|hr
    ·exact g.ww r hr z l
    ·rw[qD.mp hr]at l;exact nomatch l
   ·rw[qD.mp hr]at l;exact nomatch l
  ·rcases xD.mp C with h|h
   ·exact Qav _ (h8 n h)
   ·exact Qaf _ h
def NN:Nat->Nat
 |0=>10
 |d+1=>12*NN d+40
theorem iV(h:z∈BN):bq z:=by
 simp only[BN,Qp,List.not_mem_nil,or_false]at h;unfold bq;rcases h with rfl|rfl|rfl|rfl<;>decide
theorem Om:bq "a":=by unfold bq;decide
theorem Y8:bq "b":=by unfold bq;decide
theorem Y9:bq "ba":=by unfold bq;decide
theorem Y_:bq "z":=by unfold bq;decide
theorem wG:bq "zz":=by unfold bq;decide
def DB(kvs:Qbf):Prop:=∀e∈kvs,∃z y:Str,e=(.inr z,.str y)/\bq z
inductive Hr (K:QZ)(lim:Nat->Prop)(dep cost Oo:Nat->Nat)(vs:Qbi)(H:Hp)(Q:VK)(b_:XK):Prop
 |mk (H0:Hp) (p a kn:Addr) (t:Nat) (B:Qbi) (F:List eu) (ns:Qa8) (kvs:Qbf) (x:Str) (d:Nat):vs=[.ref p,.ref a,.str x,.ref kn,.int (d:Int)]->cj K H0 H p t->t+cost d<900000->RT H a B F ns WW->x∈ns->H kn=Cf kvs->DB kvs->kvs.length+d<=8->lim d->(∀(v:V)(s:Nat)(Z:Hp),iw Z (dep d) s v->s<=Oo d->cj K H0 Z p (t+cost d)->Sm p p H Z->Q v Z)->Hr K lim dep cost Oo vs H Q b_
abbrev Cu(K:QZ)(n:Nat):Sp:=Hr K (λd=>d<n) (λd=>4+3*d) NN NN
abbrev Oq(K:QZ)(n:Nat):Sp:=Hr K (λd=>0<d/\d<n) (λd=>4+3*d) NN NN
abbrev EY(K:QZ)(n:Nat):Sp:=Hr K (λd=>d<n) (λd=>6+3*d) (λd=>NN d+1) (λd=>NN d+3)
structure MW(K:QZ)(H0 Hs H:Hp)(p a kn:Addr)(t:Nat)(B:Qbi)(F:List eu)(ns:Qa8)(kvs:Qbf):Prop where
 hn:cj K H0 H p t
 rt:RT H a B F ns WW
 kn:H kn=some (.dK kvs)
 sm:Sm p p Hs H
 s0:Sm p p H0 Hs
section
variable{Hs:Hp}{kn D:Addr}{t:Nat}{B:Qbi}{F:List eu}{kvs:Qbf}
theorem MW.nk(h:MW K H0 Hs H p a kn t B F ns kvs):kn≠p:=λq=>by
 obtain⟨_,_,_,_,z,_⟩:=h.hn.ex;have:=h.kn;rw[q,z]at this;cases this
theorem MW.same(h:MW K H0 Hs H p a kn t B F ns kvs)(s:aa H Z):MW K H0 Hs Z p a kn t B F ns kvs:=⟨h.hn.same s,h.rt.tk s.ts,s _ _ h.kn,h.sm.trans s.sm,h.s0⟩
theorem MW.draw(h:MW K H0 Hs H p a kn t B F ns kvs)(b:cj K H0 Z p t')(s:Sm p p H Z):MW K H0 Hs Z p a kn t' B F ns kvs:=⟨b,h.rt.tk (h.hn.ts s),s _ _ h.kn h.nk h.nk,h.sm.trans s,h.s0⟩
theorem MW.mono(h:MW K H0 Hs H p a kn t B F ns kvs)(l:t<=t'):MW K H0 Hs H p a kn t' B F ns kvs:=⟨h.hn.mono l,h.rt,h.kn,h.sm,h.s0⟩
theorem MW.free(h:MW K H0 Hs H p a kn t B F ns kvs)(e:H D=none):Hs D=none:=h.sm.free e (h.hn.ne e) (h.hn.ne e)
theorem MW.Ht(h:MW K H0 Hs H p a kn t B F ns kvs){kv:Qbf}(e:H D=some (.dK kv)):D≠p:=λq=>by
 obtain⟨_,_,_,_,z,_⟩:=h.hn.ex;rw[q,z]at e;cases e
theorem sZ{kv yl:Qbf}(e:H D=some (.dK kv)):Tk H (upd H D (.dK yl)):=(Tk.refl).set e (by intro _ z;cases z)
theorem MW.dput(h:MW K H0 Hs H p a kn t B F ns kvs){kv yl:Qbf}(e:H D=some (.dK kv))(f:Hs D=none)(nk:kn≠D):MW K H0 Hs (upd H D (.dK yl)) p a kn t B F ns kvs:=
 have b:=h.Ht e
 ⟨h.hn.put b (h.s0.free f b b),h.rt.tk (sZ e),by rw[aS nk];exact h.kn,h.sm.upd f,h.s0⟩
theorem MW.EZ(h:MW K H0 Hs H p a kn t B F ns kvs){kv yl:Qbi}(e:H D=some (.lst kv))(f:Hs D=none)(b:D≠p):MW K H0 Hs (upd H D (.lst yl)) p a kn t B F ns kvs:=
 ⟨h.hn.put b (h.s0.free f b b),h.rt.tk ((Tk.refl).set e (by intro _ z;cases z)),by rw[aS (λq=>by have:=h.kn;rw[q,e]at this;cases this)];exact h.kn,h.sm.upd f,h.s0⟩
theorem DB.put(h:DB kvs)(y:Str)(b:bq z):DB (putK kvs (.inr z) (.str y)):=λe a=>by
 unfold putK at a;split at a
 ·obtain⟨e',h1,rfl⟩:=qN.mp a;split
  ·obtain⟨z',y',rfl,Er⟩:=h e' h1;exact⟨z',y,rfl,Er⟩
  ·exact h e' h1
 ·rcases xD.mp a with h1|h1
  ·exact h e h1
  ·exact⟨z,y,qD.mp h1,b⟩
theorem oX(z y:Str):(putK kvs (.inr z) (.str y)).length<=kvs.length+1:=by
 unfold putK;split<;>simp
theorem DB.keys(h:DB kvs):∃J:Qa8,kvs.map (·.1)=J.map Sum.inr/\J.length=kvs.length/\∀z∈J,bq z/\∃y,fu kvs (.inr z)=some (.str y):=by
 induction kvs with
 |nil=>exact⟨[],rfl,rfl,λz hz=>nomatch hz⟩
 |cons e r ih=>
  obtain⟨J,h1,h2,h3⟩:=ih λb c=>h b (Qh _ c);obtain⟨z,y,rfl,Za⟩:=h e (jP ..);refine⟨z::J,by simp[h1],by simp[h2],λa hz=>?_⟩;by_cases ez:z=a
  ·subst ez;exact⟨Za,y,cI rfl⟩
  ·rw[cH (by simpa using ez)];rcases Qp.mp hz with rfl|hz
   ·exact absurd rfl ez
   ·exact h3 a hz
end
def Hd.s0:Hd->Str
 | .one s=>s
 | .as _=>"as"
 | .way _ _=>"way"
 | .prs s _=>s
theorem wA{v:V}{h:Hd}(q:HV H v h):∃b ys,v=.ref b/\H b=some (.tup (.str (Hd.s0 h)::ys)):=by
 cases q with
 |one e=>exact⟨_,_,rfl,e⟩
 |as e=>exact⟨_,_,rfl,e⟩
 |way e=>exact⟨_,_,rfl,e⟩
 |prs e _ _=>exact⟨_,_,rfl,e⟩
theorem Zb{v:V}{h:Hd}(q:HV H v h)(ok:h.ok ns):∃a B M,v=.ref a/\H a=some (.tup B)/\B.length=M.length/\(∀i(h:i<B.length)(O:i<M.length),DD H B[i] M[i])/\((Dt.tup M).Av "pick"=false->h≠.prs "pick" []):=by
 have t:=(q.tx ok).dd;have b:∀d,DD H v d->d=h.dt->∃a B M,v=.ref a/\H a=some (.tup B)/\B.length=M.length/\(∀i(h:i<B.length)(O:i<M.length),DD H B[i] M[i])/\((Dt.tup M).Av "pick"=false->h≠.prs "pick" []):=by
  intro d f e;cases f with
  |tup e1 e2 _ e3=>exact⟨_,_,_,rfl,e1,e2,e3,λc g=>by subst g;rw[e]at c;exact absurd c (by decide+kernel)⟩
  |str _=>cases h<;>cases e
  |_=>cases h<;>cases e
 exact b _ t rfl
theorem mS:∀d,10<=NN d
 |0=>Qy _
 |d+1=>by have:=mS d;simp only[NN];lia
theorem Zc{B:Qbi}{b:List eu}(rt:RT H a B b ns ws)(c:y∈ns):∀z∈(ye b y).C4,z∈ws:=by
 obtain⟨r,hr,rfl⟩:=qN.mp (rt.nm.mem_iff.mpr c);rw[iA rt.B9 hr];exact rt.ww r hr
theorem Ot{s:Str}{a:Qbh}(h:(Hd.prs s a).ok ns):AK (a.map (·.1)):=⟨tK h.2.2.1,λz b=>by
 obtain⟨q,hq,rfl⟩:=qN.mp b;exact l8 (h.2.1 q hq).1,by have:=h.2.2.2;simp;lia⟩
theorem AK.snoc(h:AK ws)(c:bq z)(d:z∉ws)(j:ws.length<1000):AK (ws++[z]):=⟨List.nodup_append.mpr ⟨h.1,by simp,λa f b g e=>d (by rw[qD.mp g]at e;exact e▸f)⟩,λy i=>(xD.mp i).elim (h.2.1 y) (λe=>qD.mp e▸c),by simp;lia⟩
theorem p7{a:TT}{t u:TS}(M:Bool->Hp->Prop)(h1:∀Q:Bool->Hp->Prop,(∀c Z,M c Z->Q c Z)->a σ H Q)(h2:∀Z,M true Z->t D σ Z)(b:∀Z,M false Z->u D σ Z):Iq a t u D σ H:=h1 _ λc Z m=>aj (λe=>h2 Z (e▸m)) (λe=>b Z (e▸m))
set_option maxHeartbeats 2000000 in
theorem uV(T:Txt K mg w)(n:Nat)(cL:aq P w K mg base (6+3*n) "_law_for" ["_law_pen","_law_told","_law_name","_law_known","_law_deep"] (Cu K n))
  (d8:aq P w K mg base (8+3*n) "_law_wrapped" ["_law_pen","_law_told","_law_name","_law_known","_law_deep"] (EY K n)):aq P w K mg base (8+3*n+1) "_law_for" ["_law_pen","_law_told","_law_name","_law_known","_law_deep"] (Cu K (n+1)):=by
 refine T.rE.dh (k:=8+3*n) bW ?_ ?_
 ·rintro _ _ _ _ ⟨R,p,a,kn,t,B,j,ns,kvs,x,d,rfl,_⟩;rfl
 ·rintro f az A al s H vs Q E hr ⟨R,p,a,kn,t,B,j,ns,kvs,x,d,rfl,hn,ht,rt,hx,hk,kk,dj,hd,k⟩;have hu:=fX hr;have bj:=Qx (fX hr);have Kx:=xS hr;have an:sizeLine=16777216:=QL;obtain⟨rs,g,nm,rl,qg⟩:=rt.good λz hz=>(uA z hz).2;have hm:∀z,z∈ns↔z∈rs.map (·.1):=λz=>by rw[nm];exact rt.nm.mem_iff.symm
  obtain⟨e1,e2,e3⟩:=rt.Gg (λz hz=>(uA z hz).2) hx;have few:=rt.few;have W:MW K R H H p a kn t B j ns kvs:=⟨hn,rt,hk,Sm.refl,hn.sm⟩
  refine⟨_,(aE (aQ 5 bW.nd (aR (lW T) hr (aD (zv 1) (aD (zv 2) aC))))
   (aE (aQ 6 bW.nd (aR (d9 T) hr (aD (zv 1) (aD (zv 2) aC))))
   (aE (Eh (i:=7) (own:=["_law_bound"]) (idx:=[3,6]) (N':=["_law_bound","_law_known","_law_row"]) (d6 bW) rfl (lT K (bY (tQ rfl) T.Yp PyProof.Rows.boot_sorted (aD (zv 3) aC))) (λ_ _ _ _ _ _=>(cD 0)) (λ_ _ _ _ _ _=>(Jd (aK (aZ bj) (jV hu (zv 1) (zv 0)) (zv 2)))) (λ_ _ _ _ _ _=>(zv 0)) bW.nd rfl rfl)
   (aE (bF (fE (aK (mE bj) (zv 7) (bK aC)) (dD (aK gK (aR (bM T) hr (aD (zv 0) (aA aF aC))) aF))).pt (aI (aU (aL (aA aG (aJ (aN K (zv 7) (aR (bM T) hr (aD (zv 0) (bB (bY (bR K) T.oh Qae (aD (zv 7) aC)) aC)))) aC))))) aW)
   (aE (bF (zB (aK (aZ bj) (zv 4) aF) (zB (aK (aZ bj) (aN K (zv 5) aF) aG) (yA (aK (Wg K Kx) (zv 5) (aL (aA aG (aH (aL aC) aC))))))).pt (aI (aU (NS (jL T) (hr.mono (by lia))))) aW)
   (aE (bF (aK (aZ bj) (aN K (zv 5) aF) aG) (aI (aU (aR cL hr (aD (zv 0) (aD (zv 1) (bB (aR (kP T) hr (aD (zv 0) (aD (zv 1) aC))) (aD (zv 3) (cJ (bN dU (zv 4) aF) aC)))))))) aW)
   (aE (bF (aK (aZ bj) (aN K (zv 5) aF) aG) (aE (aQ 8 bW.nd (dG (l5 rfl) T.lZ QX (aD (zv 3) aC)))
   (aE (aQ 9 bW.nd (aR (dR T) hr (aD (zv 0) aC)))
   (aE (xM hu (zv 8) (zv 9) (aR (d9 T) hr (aD (zv 1) (aJ (aN K (zv 5) aF) aC))) rfl)
   (aE (aQ 10 bW.nd (aR d8 hr (aD (zv 0) (aD (zv 1) (aJ (aN K (zv 5) aF) (aD (zv 8) (cJ (bN dU (zv 4) aF) aC)))))))
   (aI (aU (aL (aA aG (aD (zv 9) (aJ (aN K (zv 5) aF) (aD (zv 10) aC))))))))))) aW)
   (aE (bF (aK (aZ bj) (aN K (zv 5) aF) aG) (aE (i6 (aN K (aN K (zv 5) aF) (aR (bM T) hr (aD (zv 0) (bB (bY (bR K) T.oh Qae (aJ (aN K (zv 5) aF) aC)) aC)))) (dN K (n:=2) rfl (bA (bS 11 bW.nd) (bA (bS 12 bW.nd) cP))))
   (aI (aU (aL (aA aG (aD (zv 11) (bB (aR d8 hr (aD (zv 0) (aD (zv 1) (aD (zv 12) (aD (zv 3) (cJ (bN dU (zv 4) aF) aC)))))) aC))))))) aW)
   (aE (Eh (i:=13) (own:=["_law_word","_law_other"]) (idx:=[0,1,3,4]) (N':=["_law_word","_law_other","_law_pen","_law_told","_law_known","_law_deep"]) (d6 bW) rfl (lT K (aN K (zv 5) aF)) (λ_ _ _ _ _ _=>(dN K (n:=2) rfl (bA (cD 0) (bA (cD 1) cP)))) (λ_ _ _ _ _ _=>rA) (λ_ _ _ _ _ _=>(aL (aD (zv 0) (bB (aR d8 hr (aD (zv 2) (aD (zv 3) (aD (zv 1) (aD (zv 4) (cJ (bN dU (zv 5) aF) aC)))))) aC)))) bW.nd rfl rfl)
   (aE (bF (aK (aZ bj) (aR (bM T) hr (aD (zv 0) (aA aF aC))) aF) (aI (cE (gT K QH QJ QK bJ (zv 13) (aH (aL (aA aG (aH (aL (aA aG (aH (aL aC) aC))) aC))) aC)))) aW)
   (aI (aU (aL (aA aG (bB (dG (cK K) T.dX QG (aD (zv 13) aC)) aC))))))))))))))),?_⟩
  refine aM ⟨a,B,rs,_,_,x,rfl,g,(hm x).mp hx,λv H1 s1 hv=>?_⟩;have Ou:HV H v (ye j (endOf j x)):=qg _ v e1 (by rw[rl]at hv;exact hv);have hq:=Ou.tk s1.ts;have Ov:=Zc rt e1;generalize ye j (endOf j x)=h at e2 e3 hq Ov;clear Ou qg hv;refine aM ⟨a,B,rs,_,_,x,rfl,g.ts s1.ts,(hm x).mp hx,λH2 s2=>?_⟩;generalize ie (ji j) rs.length x=rw;have W2:=(W.same s1).same s2;have ai:=hq.tk s2.ts;have g2:=(g.ts s1.ts).ts s2.ts;clear hq W;obtain⟨J,k1,k2,k3⟩:=kk.keys;refine aT (λm u=>X2 fun(S:Addr)(ss:Qa8)=>m=[af p,af a,cg x,af kn,bg (d:Int),some v,cg rw,af S,none,none,none,none,none,none]/\u S=be (ss.map V.str)/\ss.length<=8/\(∀z∈ss,bq z)/\aa H2 u) ?_ ?_
  ·intro nx N;refine⟨kn,kvs,J,rfl,.inl W2.kn,k1,by lia,λl I hl hp=>?_⟩;have sl:=aa.upd hl (.lst (I.map V.str));have gl:upd H2 l (.lst (I.map V.str)) l=be (I.map V.str):=aB;generalize upd H2 l (.lst (I.map V.str))=Hl at sl gl;have Zd:=hp.length_eq;refine Or.inl ⟨⟨_,ak.of gl⟩,λD hD=>?_⟩;refine eM (cB (I.map V.str)) (λi τ u=>X2 fun(v0:Qbj)(G:Qa8)=>τ=[v0,af kn,cg rw]/\u D=be (G.map V.str)/\G.length<=i/\(∀z∈G,bq z)/\aa Hl u) ⟨none,[],rfl,aB,Qy _,(λ_ h=>absurd h (by simp)),aa.upd hD _⟩ (by rintro i τ u _ ⟨_,_,_,_,_,_,s⟩;exact ak.of (s _ _ gl)) ?_ ?_
   ·rintro i τ H4 hi ⟨v0,G,rfl,q1,q2,qs,L⟩;have fh:i<I.length:=by simpa using hi
    have eg:(I.map V.str).getD i .ao=.str I[i]:=by simp[Qb,fh]
    rw[eg];obtain⟨Ze,y,hy⟩:=k3 I[i] (hp.mem_iff.mp (Qj fh));refine⟨kn,.str y,rfl,by rw[<- hy];exact k_.k (k:=Sum.inr I[i]) (L _ _ (sl _ _ W2.kn)),rfl,_,rfl,aj (λ_=>?_) (λ_=>⟨_,G,rfl,q1,by lia,qs,L⟩)⟩;exact⟨_,q1,by simp;lia,_,G++[I[i]],rfl,by rw[aB,Qm];rfl,by simp;lia,λz hz=>(xD.mp hz).elim (qs z) (λh=>qD.mp h▸Ze),L.put hD⟩
   ·rintro τ H4 ⟨v0,G,rfl,q1,q2,qs,L⟩;simp only[Ql]at q2;exact N _ _ ⟨D,G,rfl,q1,by lia,qs,sl.trans L⟩
  rintro m H3 ⟨S,ss,rfl,gS,ap,Zf,s3⟩;have W3:=W2.same s3;have Ox:=ai.tk s3.ts;have g3:=g2.ts s3.ts;clear W2 ai g2;have Hj:=mS d;refine aT (λm u=>m=[af p,af a,cg x,af kn,bg (d:Int),some v,cg rw,af S,none,none,none,none,none,none]/\MW K R H u p a kn (t+1) B j ns kvs/\Tk H3 u) ?_ ?_
  ·intro nx N;refine p7 (λc u=>MW K R H u p a kn (t+1) B j ns kvs/\Tk H3 u/\(c=true->ss≠[]/\u S=be (ss.map V.str)/\S≠p)) (λQ hQ=>?_) (λH4 ⟨W4,zq,hc⟩=>?_) (by rintro H4 ⟨W4,zq,_⟩;exact N _ _ ⟨rfl,W4,zq⟩)
   ·refine⟨ki,λb hb=>⟨aY gS hb,_,(aa.upd hb _) _ _ gS,aB,_,rfl,aj (λc=>?_) (λc=>?_)⟩⟩
    ·have sb:=aa.upd hb (.lst []);have Wb:=W3.same sb;have DC:S≠p:=λq=>by
      obtain⟨a',ns',u',x',z,_⟩:=W3.hn.ex;rw[q,z]at gS;have:=congrArg (λo=>match o with|some (HO.lst (y::_))=>y|_=>V.ao) gS;cases ss with
      |nil=>simp at this
      |cons _ _=>simp at this
     refine⟨R,p,3,t,rfl,Wb.hn,⟨by decide,by decide⟩,by lia,λr H5 r0 r1 oi lu=>⟨_,rfl,hQ _ _ ⟨Wb.draw oi lu,sb.ts.trans (Wb.hn.ts lu),λ_=>⟨λz=>?_,lu _ _ (sb _ _ gS) DC DC,DC⟩⟩⟩⟩;subst z;exact absurd c (by decide)
    ·exact hQ _ _ ⟨(W3.same (aa.upd hb _)).mono (by lia),(aa.upd hb _).ts,λz=>absurd z (by decide)⟩
   ·obtain⟨iq,Oz,DC⟩:=hc rfl;have Bh:0<ss.length:=by
     cases ss with
     |nil=>exact absurd rfl iq
     |cons _ _=>simp
    refine .inl ⟨_,.inl (ak.of Oz),R,p,_,_,rfl,W4.hn,⟨by simp;lia,by simp;lia⟩,by lia,λr H5 r0 r1 oi lu=>?_⟩;obtain⟨i,rfl⟩:∃i:Nat,r=(i:Int):=⟨r.toNat,by lia⟩
    have hi:i<ss.length:=by simpa using r1
    refine⟨ss.map V.str,.str ss[i],.inl (ak.of (lu _ _ Oz DC DC)),bU (by simp[hi]),bx,λb hb=>?_⟩;exact k _ 1 _ ((u5 aB (Zf _ (Qj hi))).up (by(try dsimp only);lia)) (by lia) ((oi.same (aa.upd hb _)).mono (by lia)) (((W4.draw oi lu).same (aa.upd hb _)).sm)
  rintro m H4 ⟨rfl,W4,zq⟩;have Hu:=Ox.tk zq;have g4:=g3.ts zq;clear W3 Ox g3;refine aT (λm u=>m=[af p,af a,cg x,af kn,bg (d:Int),some v,cg rw,af S,none,none,none,none,none,none]/\MW K R H u p a kn (t+1) B j ns kvs/\Tk H4 u/\0<d/\Hd.s0 h≠"none"/\h≠.prs "pick" []) ?_ ?_
  ·intro nx N;refine p7 (λc u=>MW K R H u p a kn (t+1) B j ns kvs/\Tk H4 u/\(c=false->0<d/\Hd.s0 h≠"none"/\h≠.prs "pick" [])) (λQ hQ=>?_) (λH5 ⟨W5,wz,_⟩=>?_) (by rintro H5 ⟨W5,wz,hc⟩;exact N _ _ ⟨rfl,W5,wz,hc rfl⟩)
   ·refine⟨rfl,_,rfl,aj (λc=>hQ _ _ ⟨W4,Tk.refl,λz=>absurd z (by decide)⟩) (λc0=>?_)⟩;obtain⟨b,ys,Ky,eb⟩:=wA Hu;obtain⟨b',xs',M,Zg,f1,f2,f3,f4⟩:=Zb Hu e3;subst Ky;cases Zg;refine⟨_,.str _,.inr (ae.of eb),aV _ _,rfl,_,rfl,aj (λc=>hQ _ _ ⟨W4,Tk.refl,λz=>absurd z (by decide)⟩) (λc1=>?_)⟩;refine⟨ki,λyh h1=>⟨bx,λb1 fq=>?_⟩⟩;have sA:=(aa.upd h1 (.tup [])).trans (aa.upd fq (.tup [.str "pick",.ref yh]));have gc:upd (upd H4 yh (.tup [])) b1 (.tup [.str "pick",.ref yh]) yh=bw []:=aa.upd fq _ _ _ aB;have gb:upd (upd H4 yh (.tup [])) b1 (.tup [.str "pick",.ref yh]) b1=bw [.str "pick",.ref yh]:=aB;generalize upd (upd H4 yh (.tup [])) b1 (.tup [.str "pick",.ref yh])=H5 at sA gc gb;refine⟨b,b1,yh,"pick",xs',M,rfl,rfl,sA _ _ f1,f2,λi h1 h2=>(f3 i h1 h2).same sA,ae.of gb,ae.of gc,_,rfl,hQ _ _ ⟨W4.same sA,sA.ts,λhc=>⟨?_,?_,f4 hc⟩⟩⟩
    ·rw[QE,decide_eq_false_iff_not]at c0;exact Nat.pos_of_ne_zero λz=>c0 (by rw[z];rfl)
    ·rw[QE,decide_eq_false_iff_not]at c1;exact λz=>c1 (by rw[z])
   ·refine⟨rfl,λv6 H6 s6 Hv=>?_⟩;exact k v6 9 H6 (Hv.up (by(try dsimp only);lia)) (by lia) ((W5.hn.same s6).mono (by lia)) (W5.same s6).sm
  rintro m H5 ⟨rfl,W5,wz,OA,Bk,Zh⟩;have Zi:=Hu.tk wz;have g5:=g4.ts wz;clear W4 Hu g4;obtain⟨C,rfl⟩:∃C,d=C+1:=⟨d-1,by lia⟩
  have eN:NN (C+1)=12*NN C+40:=rfl;have ed:(((C+1:Nat):Int))-1=(C:Int):=by lia
  have OB:=mS C;cases Zi with
  | @as b y e=>cases e2
  | @one b s e=>
   rcases e3 with rfl|rfl
   ·refine aT (λ_ _=>False) (λnx N=>?_) (λ_ _ h=>h.elim);refine⟨_,.str _,.inr (ae.of e),aV _ _,rfl,_,rfl,aj (λ_=>?_) (λc=>absurd c (by decide+kernel))⟩;refine⟨R,p,a,_,B,j,ns,WW,rfl,W5.hn,by lia,W5.rt,λnm H6 w_ AL Bp=>?_⟩;have W6:=W5.draw AL Bp;refine⟨R,p,a,kn,_,B,j,ns,kvs,nm,C,by rw[ed];rfl,W6.hn,by lia,W6.rt,w_,W6.kn,kk,by lia,by lia,λv7 s7 H7 ly Bq ig gi=>?_⟩;exact k v7 s7 H7 (ly.up (by(try dsimp only);lia)) (by lia) (ig.mono (by lia)) (W6.draw ig gi).sm
   ·exact absurd rfl Bk
  | @way b y z e=>
   refine aT (λm u=>m=[af p,af a,cg x,af kn,bg ((C+1:Nat):Int),af b,cg rw,af S,none,none,none,none,none,none]/\H5=u) (λnx N=>⟨_,.str _,.inr (ae.of e),aV _ _,rfl,_,rfl,aj (λc=>absurd c (by decide+kernel)) (λ_=>N _ _ ⟨rfl,rfl⟩)⟩) ?_;rintro m _ ⟨rfl,rfl⟩;refine aT (λ_ _=>False) (λnx N=>?_) (λ_ _ h=>h.elim);refine⟨_,.str _,.inr (ae.of e),aV _ _,rfl,_,rfl,aj (λ_=>?_) (λc=>absurd c (by decide+kernel))⟩;refine aM ⟨kn,kvs,rfl,.inl W5.kn,λl hl=>?_⟩;have sl:=aa.upd hl (.dK kvs);have gl:upd H5 l (.dK kvs) l=Cf kvs:=aB;have fl:=W5.free hl;have E1:kn≠l:=λq=>by have:=W5.kn;rw[q,hl]at this;cases this
   have W6:=W5.same sl;have e6:=sl _ _ e;have g6:=g5.ts sl.ts;generalize upd H5 l (.dK kvs)=H6 at sl gl W6 e6 g6;have Br:=W6.Ht gl;refine aM ⟨R,p,_,rfl,W6.hn,by lia,λbn H7 vc ig gi=>?_⟩;have W7:=W6.draw ig gi;have E2:=W6.hn.ts gi;have e7:=E2 _ _ e6;have Hw:=gi _ _ gl Br Br;refine⟨_,.str y,.inr (ae.of e7),rfl,a,B,rs,_,_,y,rfl,g6.ts E2,(hm y).mp e3.2.2.1,λH8 s8=>⟨l,_,rfl,.inl ⟨kvs,.inr bn,s8 _ _ Hw,rfl,by lia,rfl⟩,?_⟩⟩;have W8:=W7.same s8;have OC:=s8 _ _ Hw;have W9:=W8.dput (yl:=putK kvs (.inr bn) (.str (ie (ji j) rs.length y))) OC fl E1;have Cv:=sZ (yl:=putK kvs (.inr bn) (.str (ie (ji j) rs.length y))) OC;have e9:=Cv _ _ (s8 _ _ e7);have OD:upd H8 l (.dK (putK kvs (.inr bn) (.str (ie (ji j) rs.length y)))) l=some (.dK (putK kvs (.inr bn) (.str (ie (ji j) rs.length y)))):=aB;generalize upd H8 l (.dK (putK kvs (.inr bn) (.str (ie (ji j) rs.length y))))=H9 at W9 e9 OD;have am:=oX (kvs:=kvs) bn (ie (ji j) rs.length y)
   (try dsimp only)
   refine aM ⟨_,.str z,.inr (ae.of e9),rfl,R,p,a,l,_,B,j,ns,_,z,C,by rw[ed];rfl,W9.hn,by(try dsimp only);lia,W9.rt,e3.2.2.2,OD,kk.put _ (iV vc),by lia,by lia,λag Cw zx ym DE zy xg=>?_⟩;have xh:=W9.draw zy xg;have Kz:=(W9.hn.ts xg) _ _ e9;refine⟨_,.str y,.inr (ae.of Kz),rfl,Cg,λr ah=>?_⟩;have sr:=aa.upd ah (.tup [.str "fn",.str bn,.str y,ag]);exact k _ (1+Cw) _ ((gF (.fn aB (iV vc) (l8 e3.1)) (ym.tk sr.ts)).up (by(try dsimp only);lia)) (by(try dsimp only at DE);lia) ((zy.same sr).mono (by(try dsimp only);lia)) (xh.same sr).sm
  | @prs b c s ys ps e ec hp=>
   have am:=hp.len;have Zj:=e3.2.2.2;refine aT (λm u=>m=[af p,af a,cg x,af kn,bg ((C+1:Nat):Int),af b,cg rw,af S,none,none,none,none,none,none]/\H5=u) (λnx N=>⟨_,.str _,.inr (ae.of e),aV _ _,rfl,_,rfl,aj (λc=>absurd c (by rcases e3.1 with rfl|rfl<;>decide+kernel)) (λ_=>N _ _ ⟨rfl,rfl⟩)⟩) ?_;rintro m _ ⟨rfl,rfl⟩;refine aT (λm u=>m=[af p,af a,cg x,af kn,bg ((C+1:Nat):Int),af b,cg rw,af S,none,none,none,none,none,none]/\H5=u) (λnx N=>⟨_,.str _,.inr (ae.of e),aV _ _,rfl,_,rfl,aj (λc=>absurd c (by rcases e3.1 with rfl|rfl<;>decide+kernel)) (λ_=>N _ _ ⟨rfl,rfl⟩)⟩) ?_;rintro m _ ⟨rfl,rfl⟩;rcases e3.1 with rfl|rfl
   ·refine aT (λm u=>m=[af p,af a,cg x,af kn,bg ((C+1:Nat):Int),af b,cg rw,af S,none,none,none,none,none,none]/\H5=u) (λnx N=>⟨_,.str _,.inr (ae.of e),aV _ _,rfl,_,rfl,aj (λc=>absurd c (by decide+kernel)) (λ_=>N _ _ ⟨rfl,rfl⟩)⟩) ?_;rintro m _ ⟨rfl,rfl⟩;refine aT (λm u=>X2 fun(D:Addr)(G:Qbi)=>m=[af p,af a,cg x,af kn,bg ((C+1:Nat):Int),af b,cg rw,af S,none,none,none,none,none,af D]/\D≠p/\H D=none/\u D=be G/\G.length<=10/\MW K R H u p a kn (t+1+10*(NN C+1)) B j ns kvs/\fj u (d_ (ps.map (·.1))) G (6+3*C) (10*(NN C+3))) ?_ ?_
    ·intro nx N;refine⟨_,.ref c,.inr (ae.of e),rfl,Or.inr ⟨⟨ys,ae.of ec⟩,λD hD=>?_⟩⟩;have fD:=W5.free hD;have nD:=W5.hn.ne hD;refine eM (dA ys) (λi τ u=>X3 fun(v0 v1:Qbj)(G:Qbi)=>τ=[v0,v1,af p,af a,af kn,bg ((C+1:Nat):Int)]/\u D=be G/\G.length=i/\MW K R H u p a kn (t+1+i*(NN C+1)) B j ns kvs/\Tk H5 u/\fj u (d_ ((ps.take i).map (·.1))) G (6+3*C) (i*(NN C+3)))
      ⟨none,none,[],rfl,aB,rfl,by simpa using W5.same (aa.upd hD _),(aa.upd hD _).ts,by rw[Nat.zero_mul];exact fj.nil⟩ (by rintro i τ u _ ⟨_,_,_,_,_,_,_,s,_⟩;exact ae.of (s _ _ ec)) ?_ ?_
     ·rintro i τ H6 hi ⟨v0,v1,G,rfl,q1,q2,L,q4,q5⟩;have Bs:i<ps.length:=by lia
      have KA:i<=9:=by lia
      have m1:(i+1)*(NN C+1)=i*(NN C+1)+(NN C+1):=Qa2 ..;have m2:(i+1)*(NN C+3)=i*(NN C+3)+(NN C+3):=Qa2 ..;have m3:i*(NN C+1)<=9*(NN C+1):=QaI _ KA;obtain⟨dd,r1,r2⟩:=hp.at_ i hi Bs
      have eg:ys.getD i .ao=.ref dd:=eJ hi r1;rw[eg];refine iN (q4 _ _ r2) ?_;refine⟨R,p,a,kn,_,B,j,ns,kvs,_,C,by rw[ed];rfl,L.hn,by(try dsimp only);lia,L.rt,(e3.2.1 _ (Qj Bs)).2.2,L.kn,kk,by lia,by lia,λag Cw zx ym DE zy xg=>⟨bx,λr ah=>?_⟩⟩
      (try dsimp only at DE zy ym)
      have sr:=aa.upd ah (.tup [.str ps[i].1,ag]);have gr:upd zx r (.tup [.str ps[i].1,ag]) r=bw ([.str ps[i].1]++[ag]):=aB;have Bt:=(L.draw zy xg).same sr;have Hx:=sr _ _ (xg _ _ q1 nD nD);have Cy:=(L.hn.ts xg).trans sr.ts;have Bu:=ym.tk sr.ts;generalize upd zx r (.tup [.str ps[i].1,ag])=E3 at sr gr Bt Hx Cy Bu;have ug:Tk E3 (upd E3 D (.lst (G++[.ref r]))):=(Tk.refl).set Hx (by intro _ z;cases z);refine⟨G,Hx,by lia,_,_,G++[.ref r],rfl,aB,by simp[q2],(Bt.EZ Hx fD nD).mono (by lia),q4.trans (Cy.trans ug),by rw[Qs,Qa Bs,Qm,d_,Qm];exact((q5.tk Cy).snoc gr Bu (by lia)).tk ug⟩
     ·rintro τ H6 ⟨v0,v1,G,rfl,q1,q2,L,q4,q5⟩;have m3:ys.length*(NN C+1)<=10*(NN C+1):=QaI _ (by lia);have m4:ys.length*(NN C+3)<=10*(NN C+3):=QaI _ (by lia);rw[qQ (by lia)]at q5;exact N _ _ ⟨D,G,rfl,nD,fD,q1,by lia,L.mono (by lia),q5.Cs (Qy _) m4⟩
    rintro m H6 ⟨D,G,rfl,nD,fD,q1,q2,L,q5⟩;refine aT (λm u=>∃(G:Qbi),m=[af p,af a,cg x,af kn,bg ((C+1:Nat):Int),af b,cg rw,af S,none,none,none,none,none,af D]/\u D=be G/\G.length<=11/\MW K R H u p a kn (t+2+10*(NN C+1)) B j ns kvs/\∃ws,fj u (d_ ws) G (6+3*C) (10*(NN C+3)+1)/\AK ws) ?_ ?_
    ·intro nx N;have Hy:=Ot e3;refine⟨R,p,3,_,rfl,L.hn,⟨by decide,by decide⟩,by lia,λr H7 r0 r1 ig gi=>⟨rfl,_,rfl,aj (λ_=>?_) (λ_=>N _ _ ⟨G,rfl,gi _ _ q1 nD nD,by lia,(L.draw ig gi).mono (by lia),_,(q5.tk (L.hn.ts gi)).Cs (Qy _) (by lia),Hy⟩)⟩⟩;have W7:=L.draw ig gi;have q7:=q5.tk (L.hn.ts gi);have g7:=gi _ _ q1 nD nD;refine⟨.inl ⟨rfl,_,ak.of g7⟩,ki,λc1 h1=>⟨bx,λc2 h2=>⟨bx,λc3 h3=>?_⟩⟩⟩;have t1:=aa.upd h1 (.tup []);have t2:=aa.upd h2 (.tup [.str "box",.ref c1]);have t3:=aa.upd h3 (.tup [.str "z",.ref c2]);have f1:_=some (HO.tup []):=t3 _ _ (t2 _ _ (aB:upd H7 c1 (.tup []) c1=_));have f2:=t3 _ _ (aB:upd (upd H7 c1 (.tup [])) c2 (.tup [.str "box",.ref c1]) c2=_);have f3:upd (upd (upd H7 c1 (.tup [])) c2 (.tup [.str "box",.ref c1])) c3 (.tup [.str "z",.ref c2]) c3=bw ([.str "z"]++[.ref c2]):=aB;have tt:=(t1.trans t2).trans t3;generalize upd (upd (upd H7 c1 (.tup [])) c2 (.tup [.str "box",.ref c1])) c3 (.tup [.str "z",.ref c2])=H8 at f1 f2 f3 tt;have g8:=tt _ _ g7;have ug:Tk H8 (upd H8 D (.lst (G++[.ref c3]))):=(Tk.refl).set g8 (by intro _ z;cases z);exact⟨D,G,_,rfl,rfl,g8,by lia,N _ _ ⟨G++[.ref c3],rfl,aB,by simp;lia,((W7.same tt).EZ g8 fD nD).mono (by lia),ps.map (·.1)++(["z"]:Qa8),by rw[d_,Qm];exact((q7.tk tt.ts).snoc f3 ((lP f2 f1).up (by lia)) (by lia)).tk ug,Hy.snoc Y_ (λhz=>absurd (Ov _ hz) (by decide+kernel)) (by simp;lia)⟩⟩
    rintro m H7 ⟨G,rfl,q1,q2,L,ws,q5,Hy⟩;refine⟨D,G,rfl,Or.inl ⟨ak.of q1,λr1 DF=>⟨bx,λr2 jw=>?_⟩⟩⟩;have t1:=aa.upd DF (.tup G);have t2:=aa.upd jw (.tup [.str "box",.ref r1]);have f1:=t2 _ _ (aB:upd H7 r1 (.tup G) r1=_);have tt:=t1.trans t2;obtain⟨sz,Am,hs2⟩:=sK aB f1 (q5.tk tt.ts) Hy;exact k _ sz _ (hs2.up (by(try dsimp only);lia)) (by lia) ((L.hn.same tt).mono (by lia)) (L.same tt).sm
   ·have Bh:0<ps.length:=by
     cases ps with
     |nil=>exact absurd rfl Zh
     |cons _ _=>simp
    refine aT (λ_ _=>False) (λnx N=>?_) (λ_ _ h=>h.elim);refine⟨_,.str _,.inr (ae.of e),aV _ _,rfl,_,rfl,aj (λ_=>?_) (λc=>absurd c (by decide+kernel))⟩;refine⟨_,.ref c,.inr (ae.of e),rfl,_,.ref c,.inr (ae.of e),rfl,.inl ⟨_,.inr (ae.of ec),R,p,_,_,rfl,W5.hn,⟨by lia,by lia⟩,by lia,λr H6 r0 r1 AL Bp=>?_⟩⟩;obtain⟨i,rfl⟩:∃i:Nat,r=(i:Int):=⟨r.toNat,by lia⟩
    have hi:i<ps.length:=by lia
    have W6:=W5.draw AL Bp;have Hz:=W5.hn.ts Bp;obtain⟨dd,BZ,B0⟩:=hp.at_ i (by lia) hi
    refine⟨ys,.ref dd,.inr (ae.of (Hz _ _ ec)),bU (by rw[Qa (by lia),BZ]),?_⟩;refine iN (Hz _ _ B0) ?_;refine⟨R,p,a,kn,_,B,j,ns,kvs,_,C,by rw[ed];rfl,W6.hn,by(try dsimp only);lia,W6.rt,(e3.2.1 _ (Qj hi)).2.2,W6.kn,kk,by lia,by lia,λag Cw zx ym DE zy xg=>⟨gz,λr ah=>?_⟩⟩;have sr:=aa.upd ah (.tup [.str "pick",.str ps[i].1,ag]);exact k _ (1+Cw) _ ((gF (.pick aB (l8 (e3.2.1 _ (Qj hi)).1)) (ym.tk sr.ts)).up (by(try dsimp only);lia)) (by(try dsimp only at DE);lia) ((zy.same sr).mono (by(try dsimp only);lia)) ((W6.draw zy xg).same sr).sm
theorem Zk{s:Str}{a:Qbh}(h:(Hd.prs s a).ok ns)(e:cs.map (·.1)=a.map (·.1))(h2:∀c∈cs,bq c.2):Ct cs:=by
 obtain⟨h1,h3,h4⟩:=Ot h;rw[<- e]at h1 h3 h4;exact⟨h1,λc b=>⟨h3 _ (qN.mpr ⟨c,b,rfl⟩),h2 c b⟩,by simpa using h4⟩
theorem Ct.snoc(h:Ct cs)(d:bq z)(f:bq y)(g:z∉cs.map (·.1))(l:cs.length<1000):Ct (cs++[(z,y)]):=by
 refine⟨?_,λc i=>(xD.mp i).elim (h.2.1 c) (λe=>by rw[qD.mp e];exact⟨d,f⟩),by simp;lia⟩;rw[Qm];exact List.nodup_append.mpr ⟨h.1,by simp,λa j b k e=>g (by have:=qD.mp k;rw[this]at e;subst e;exact j)⟩
set_option maxHeartbeats 2000000 in
theorem kR(T:Txt K mg w)(n:Nat)(cL:aq P w K mg base (6+3*n) "_law_for" ["_law_pen","_law_told","_law_name","_law_known","_law_deep"] (Cu K n)):
  aq P w K mg base (6+3*n+1) "_law_split_over" ["_law_pen","_law_told","_law_name","_law_known","_law_deep"] (Oq K n):=by
 refine T.mG.dh (k:=6+3*n) bC ?_ ?_
 ·rintro _ _ _ _ ⟨H0,p,a,kn,t,B,j,ns,kvs,x,d,rfl,_⟩;rfl
 ·rintro f az A ah s H vs Q E hr ⟨H0,p,a,kn,t,B,j,ns,kvs,x,d,rfl,hn,ht,rt,hx,hk,kk,dj,⟨OA,hd⟩,k⟩;have hu:=fX hr;have bj:=Qx (fX hr);have Kx:=xS hr;have al:sizeLine=16777216:=QL;obtain⟨m,rfl⟩:∃m,d=m+1:=⟨d-1,by lia⟩
  have eN:NN (m+1)=12*NN m+40:=rfl;have ed:(((m+1:Nat):Int))-1=(m:Int):=by lia
  have OB:=mS m;obtain⟨rs,g,nm,rl,qg⟩:=rt.good λz hz=>(uA z hz).2;have hm:∀z,z∈ns↔z∈rs.map (·.1):=λz=>by rw[nm];exact rt.nm.mem_iff.symm
  have few:=rt.few;have As:=rt.rl;have zc:=rt.rv.len;have W:MW K H0 H H p a kn t B j ns kvs:=⟨hn,rt,hk,Sm.refl,hn.sm⟩
  refine⟨_,(aE (Eh (i:=5) (own:=["_law_row","_law_here"]) (idx:=[]) (N':=["_law_row","_law_here"]) (d6 bC) rfl (lT K (zv 1)) (λ_ _ _ _ _ _=>(dN K (n:=2) rfl (bA (cD 0) (bA (cD 1) cP)))) (λ_ _ _ _ _ _=>(Jd (fE (aK (aZ bj) (aN K (zv 1) aF) aG) (dD (aK (Yg Kx) (aN K (zv 1) aF) (aL aC)))).pt)) (λ_ _ _ _ _ _=>(zv 0)) bC.nd rfl rfl)
   (aE (bF (aK (aZ bj) (zv 5) (bK aC)) (aI (aU (aR cL hr (aD (zv 0) (aD (zv 1) (aD (zv 2) (aD (zv 3) (aD (zv 4) aC)))))))) aW)
   (aE (aQ 6 bC.nd (aN K (zv 5) (aR (bM T) hr (aD (zv 0) (bB (bY (bR K) T.oh Qae (aD (zv 5) aC)) aC)))))
   (aE (aQ 7 bC.nd (aL (aA aG (bB (aR cL hr (aD (zv 0) (aD (zv 1) (aD (zv 6) (aD (zv 3) (cJ (bN dU (zv 4) aF) aC)))))) (aD (zv 6) aC)))))
   (aE (aQ 8 bC.nd (bK aC))
   (aE (dP PassesOwn.never rfl (lT K (aN K (jV hu (dG (iI rfl) T.lZ QX (aD (zv 1) aC)) (zv 6)) aF)) (dN K (n:=2) rfl (bA (bS 9 bC.nd) (bA (bS 10 bC.nd) cP))) (aE (aQ 11 bC.nd (aR (dR T) hr (aD (zv 0) aC)))
   (aE (aQ 12 bC.nd (dG (l5 rfl) T.lZ QX (aD (zv 3) aC)))
   (aE (xM hu (zv 12) (zv 11) (aR (d9 T) hr (aD (zv 1) (aD (zv 10) aC))) rfl)
   (aE (aQ 13 bC.nd (aR cL hr (aD (zv 0) (aD (zv 1) (aD (zv 2) (aD (zv 12) (cJ (bN dU (zv 4) aF) aC)))))))
   (aI (cE (gT K QH QJ QK bJ (zv 8) (aH (aL (aD (zv 9) (aD (zv 11) (aD (zv 13) aC)))) aC)))))))))
   (aE (bF (aK (aZ bj) (aR (bM T) hr (aD (zv 0) (aA aF aC))) aF) (aI (cE (gT K QH QJ QK bJ (zv 8) (aH (aL (aA aG (aA aG (aH (aL (aA aG (aH (aL (aA aG (aH (aL aC) aC))) (aA aG aC)))) aC)))) aC)))) aW)
   (aI (aU (aL (aA aG (aD (zv 7) (bB (dG (cK K) T.dX QG (aD (zv 8) aC)) aC))))))))))))),?_⟩
  refine aT (λu Z=>X2 fun(R:Addr)(L:Qa8)=>u=[af p,af a,cg x,af kn,bg ((m+1:Nat):Int),af R,none,none,none,none,none,none,none,none]/\R≠p/\Z R=be (L.map V.str)/\L.length<=14/\(∀z∈L,∃ps,(z,Hd.prs "pick" ps)∈j)/\aa H Z) ?_ ?_
  ·intro nx ay;refine Or.inr ⟨⟨B,ae.of rt.at_⟩,λD hD=>?_⟩;refine eM (dA B) (λi τ Z=>X3 fun(v0 v1:Qbj)(L:Qa8)=>τ=[v0,v1]/\Z D=be (L.map V.str)/\L.length<=i/\(∀z∈L,∃ps,(z,Hd.prs "pick" ps)∈j)/\aa H Z) ⟨none,none,[],rfl,aB,Qy _,(λz hz=>by cases hz),aa.upd hD _⟩ (by rintro i τ Z _ ⟨_,_,_,_,_,_,_,s⟩;exact ae.of (s _ _ rt.at_)) ?_ ?_
   ·rintro i τ H1 hi ⟨v0,v1,L,rfl,q1,q2,N,q4⟩;have KC:i<j.length:=by lia
    obtain⟨b,v,r1,r2,r3⟩:=rt.rv.at_ i hi KC
    have eg:B.getD i .ao=.ref b:=eJ hi r1;rw[eg];have OE:=(rt.ok _ (Qj KC)).2;have t_:=Qj KC;generalize j[i]=rw at r2 r3 OE t_;obtain⟨rn,rh⟩:=rw;refine iN (q4 _ _ r2) ?_;have hv:=r3.tk q4.ts;obtain⟨b',ys,Ky,eb⟩:=wA hv;subst Ky;refine⟨_,.str _,.inr (ae.of eb),aV _ _,rfl,_,rfl,aj (λc=>?_) (λ_=>gf ⟨_,_,L,rfl,q1,by lia,N,q4⟩)⟩;have c':Hd.s0 rh="pick":=by
     rw[QE,decide_eq_true_iff]at c;exact V.str.inj c
    have hp:∃ps,rh=.prs "pick" ps:=by
     cases rh with
     |one s=>rcases OE with rfl|rfl<;>exact absurd c' (by decide+kernel)
     |as y=>exact absurd (show("as":Str)="pick" from c') (by decide+kernel)
     |way y z=>exact absurd (show("way":Str)="pick" from c') (by decide+kernel)
     |prs s ps=>exact⟨ps,by rw[show s="pick" from c']⟩
    obtain⟨ps,rfl⟩:=hp;cases hv with
    | @prs _ c2 _ Zl _ e ec hp=>
     refine⟨_,.ref c2,.inr (ae.of e),rfl,ki,λe0 E4=>⟨c2,e0,Zl,rfl,rfl,aa.upd E4 _ _ _ ec,aB,_,rfl,aj (λ_=>?_) (λ_=>⟨_,_,L,rfl,aa.upd E4 _ _ _ q1,by lia,N,q4.trans (aa.upd E4 _)⟩)⟩⟩;refine⟨_,aa.upd E4 _ _ _ q1,by simp;lia,_,_,L++[rn],rfl,by rw[aB,Qm];rfl,by simp;lia,λz hz=>?_,(q4.trans (aa.upd E4 _)).put hD⟩;rcases xD.mp hz with h|h
     ·exact N z h
     ·rw[qD.mp h];exact⟨ps,t_⟩
   ·rintro τ H1 ⟨v0,v1,L,rfl,q1,q2,N,q4⟩;exact ay _ _ ⟨D,L,rfl,hn.ne hD,q1,by lia,N,q4⟩
  rintro u H1 ⟨R,L,rfl,nR,gR,am,Zm,s1⟩;have W1:=W.same s1;refine aT (λu Z=>L≠[]/\u=[af p,af a,cg x,af kn,bg ((m+1:Nat):Int),af R,none,none,none,none,none,none,none,none]/\aa H1 Z) ?_ ?_
  ·intro nx ay;refine p7 (λc Z=>aa H1 Z/\(c=false->L≠[])) (λQ hQ=>?_) (λH2 ⟨s2,_⟩=>?_) (by rintro H2 ⟨s2,hc⟩;exact ay _ _ ⟨hc rfl,rfl,s2⟩)
   ·refine⟨ki,λb hb=>⟨aY gR hb,_,(aa.upd hb _) _ _ gR,aB,_,rfl,hQ _ _ ⟨aa.upd hb _,λc z=>?_⟩⟩⟩;subst z;exact absurd c (by decide)
   ·have W2:=W1.same s2;refine⟨H0,p,a,kn,_,B,j,ns,kvs,x,m+1,rfl,W2.hn,ht,W2.rt,hx,W2.kn,kk,dj,hd,λv7 s7 H7 ly Bq ig gi=>?_⟩;exact k v7 s7 H7 ly Bq ig (W2.draw ig gi).sm
  rintro u H2 ⟨iq,rfl,s2⟩;have W2:=W1.same s2;have OF:=s2 _ _ gR;have Bh:0<L.length:=by
   cases L with
   |nil=>exact absurd rfl iq
   |cons _ _=>simp
  refine aM (.inl ⟨_,.inl (ak.of OF),H0,p,_,_,rfl,W2.hn,⟨by simp;lia,by simp;lia⟩,by lia,λr H3 r0 r1 ju jd=>?_⟩);obtain⟨i,rfl⟩:∃i:Nat,r=(i:Int):=⟨r.toNat,by lia⟩
  have hi:i<L.length:=by simpa using r1
  have W3:=W2.draw ju jd;refine⟨L.map V.str,.str L[i],.inl (ak.of (jd _ _ OF nR nR)),bU (by simp[hi]),?_⟩;obtain⟨ps,DG⟩:=Zm _ (Qj hi);have Dz:L[i]∈ns:=rt.nm.mem_iff.mp (qN.mpr ⟨_,DG,rfl⟩);have OG:ye j L[i]=.prs "pick" ps:=iA rt.B9 DG;have E5:(Hd.prs "pick" ps).ok ns:=(rt.ok _ DG).2;generalize L[i]=z at DG Dz OG;refine aM ⟨H0,p,a,kn,_,B,j,ns,kvs,z,m,by rw[ed];rfl,W3.hn,by lia,W3.rt,Dz,W3.kn,kk,by lia,by lia,λv4 s4 H4 E6 OH ja jv=>⟨gz,λc5 Zn=>?_⟩⟩;have W4:=W3.draw ja jv;have t5:=aa.upd Zn (.tup [.str "hold",v4,.str z]);have KG:iw (upd H4 c5 (.tup [.str "hold",v4,.str z])) (5+3*m) (1+s4) (.ref c5):=(gF (.hold aB (l8 (rt.ok _ DG).1)) (E6.tk t5.ts)).up (by(try dsimp only);lia);have W5:=W4.same t5;generalize upd H4 c5 (.tup [.str "hold",v4,.str z])=H5 at t5 KG W5;refine aM ⟨ki,λC hC=>?_⟩;have t6:=aa.upd hC (.lst []);have gC:upd H5 C (.lst []) C=be []:=aB;have fC:=W5.free hC;have nC:=W5.hn.ne hC;have W6:=W5.same t6;have Hv:=KG.tk t6.ts;generalize upd H5 C (.lst [])=H6 at t6 gC W6 Hv;have OI:Tk H H6:=s1.ts.trans (s2.ts.trans ((W2.hn.ts jd).trans ((W3.hn.ts jv).trans (t5.ts.trans t6.ts))));have g6:=g.ts OI;clear W1 W2 W3 W4 W5 KG ju ja;refine aT (λu Z=>X6 fun(G:Qbi)(v9 o I xj xn:Qbj)=>u=[af p,af a,cg x,af kn,bg ((m+1:Nat):Int),af R,cg z,af c5,af C,v9,o,I,xj,xn]/\Z C=be G/\G.length<=10/\MW K H0 H Z p a kn (t+1+NN m+10*(NN m+1)) B j ns kvs/\(∃cs,fj Z (fm cs) G (4+3*m) (10*NN m)/\cs.map (·.1)=ps.map (·.1)/\∀c∈cs,bq c.2)/\iw Z (5+3*m) (1+s4) (.ref c5)) ?_ ?_
  ·intro nx ay;refine⟨a,B,ef rs,rfl,g6.at_,g6.ps,(by simp;lia),λdc Zo=>?_⟩;obtain⟨v,hv,OJ⟩:=g.get ((hm z).mp Dz);have t7:=aa.upd Zo (.dK (dictOf (ef rs)));have Dw:k_ (upd H6 dc (.dK (dictOf (ef rs)))) dc (.str z) (some v):=by
    rw[<- OJ];exact k_.k (k:=Sum.inr z) aB
   have KH:=((qg z v Dz OJ).tk OI).tk t7.ts;have W7:=W6.same t7;have g7:=g6.ts t7.ts;have ly:=Hv.tk t7.ts;have OL:=t7 _ _ gC;generalize upd H6 dc (.dK (dictOf (ef rs)))=H7 at t7 Dw KH W7 g7 ly OL;refine⟨dc,v,rfl,Dw,?_⟩;rw[OG]at KH;cases KH with
   | @prs b c _ ys _ e ec hp=>
    have an:=hp.len;have Zj:=E5.2.2.2;refine⟨_,.ref c,.inr (ae.of e),rfl,Or.inr ⟨⟨ys,ae.of ec⟩,?_⟩⟩;refine dF (dA ys) (λi u Z=>X6 fun(G:Qbi)(v9 o I xj xn:Qbj)=>u=[af p,af a,cg x,af kn,bg ((m+1:Nat):Int),af R,cg z,af c5,af C,v9,o,I,xj,xn]/\Z C=be G/\G.length=i/\MW K H0 H Z p a kn (t+1+NN m+i*(NN m+1)) B j ns kvs/\(∃cs,fj Z (fm cs) G (4+3*m) (i*NN m)/\cs.map (·.1)=(ps.take i).map (·.1)/\∀c∈cs,bq c.2)/\Tk H7 Z)
     ⟨[],none,none,none,none,none,rfl,OL,rfl,by simpa using W7,⟨[],by rw[Nat.zero_mul];exact fj.nil,rfl,λc hc=>nomatch hc⟩,Tk.refl⟩ (by rintro i τ Z _ ⟨_,_,_,_,_,_,_,_,_,_,_,s⟩;exact ae.of (s _ _ ec)) ?_ ?_
    ·rintro i u H8 hi ⟨G,v9,o,I,xj,xn,rfl,q1,q2,N,⟨cs,q5,yn,Bv⟩,q4⟩;have Bs:i<ps.length:=by lia
     have KA:i<=9:=by lia
     have m1:(i+1)*(NN m+1)=i*(NN m+1)+(NN m+1):=Qa2 ..;have m2:(i+1)*NN m=i*NN m+NN m:=Qa2 ..;have m3:i*(NN m+1)<=9*(NN m+1):=QaI _ KA;obtain⟨dd,r1,r2⟩:=hp.at_ i hi Bs
     have eg:ys.getD i .ao=.ref dd:=eJ hi r1;rw[eg];have OM:=(E5.2.1 _ (Qj Bs)).2.2;have DH:=(E5.2.1 _ (Qj Bs)).1;have ON:(ps.take (i+1)).map (·.1)=(ps.take i).map (·.1)++[ps[i].1]:=by rw[Qs,Qa Bs,Qm];rfl
     generalize ps[i]=pr at r2 OM DH ON;refine iN (q4 _ _ r2) ?_;refine aM ⟨H0,p,_,rfl,N.hn,by lia,λbn H9 vc zz AM=>?_⟩;have W9:=N.draw zz AM;have Cv:=N.hn.ts AM;have KJ:=AM _ _ q1 nC nC;refine aM ⟨kn,kvs,rfl,.inl W9.kn,λl hl=>?_⟩;have sl:=aa.upd hl (.dK kvs);have gl:upd H9 l (.dK kvs) l=Cf kvs:=aB;have fl:=W9.free hl;have E1:kn≠l:=λq=>by have:=W9.kn;rw[q,hl]at this;cases this
     have Zp:C≠l:=λq=>by rw[q,hl]at KJ;cases KJ
     have Wl:=W9.same sl;have OO:=sl _ _ KJ;generalize upd H9 l (.dK kvs)=Hl at sl gl Wl OO;have Br:=Wl.Ht gl;refine⟨a,B,rs,_,_,pr.2,rfl,((g7.ts q4).ts Cv).ts sl.ts,(hm pr.2).mp OM,λHm sm=>⟨l,_,rfl,.inl ⟨kvs,.inr bn,sm _ _ gl,rfl,by lia,rfl⟩,?_⟩⟩;have Wm:=(Wl.same sm).dput (yl:=putK kvs (.inr bn) (.str (ie (ji j) rs.length pr.2))) (sm _ _ gl) fl E1;have OP:=sZ (yl:=putK kvs (.inr bn) (.str (ie (ji j) rs.length pr.2))) (sm _ _ gl);have OQ:upd Hm l (.dK (putK kvs (.inr bn) (.str (ie (ji j) rs.length pr.2)))) l=some (.dK (putK kvs (.inr bn) (.str (ie (ji j) rs.length pr.2)))):=aB;have OR:upd Hm l (.dK (putK kvs (.inr bn) (.str (ie (ji j) rs.length pr.2)))) C=be G:=by rw[aS Zp];exact sm _ _ OO
     generalize upd Hm l (.dK (putK kvs (.inr bn) (.str (ie (ji j) rs.length pr.2))))=Hn at Wm OP OQ OR;have Zq:=oX (kvs:=kvs) bn (ie (ji j) rs.length pr.2);have Zr:=Cv.trans (sl.ts.trans (sm.ts.trans OP))
     (try dsimp only)
     refine aM ⟨H0,p,a,l,_,B,j,ns,_,x,m,by rw[ed];rfl,Wm.hn,by lia,Wm.rt,hx,OQ,kk.put _ (iV vc),by lia,by lia,λo Cw zx ym DE zy xg=>?_⟩;have xh:=MW.draw (K:=K) (Z:=zx) Wm zy xg;have OS:=xg _ _ OR nC nC;refine⟨.inl ⟨rfl,_,ak.of OS⟩,gz,λr ai=>?_⟩;have sr:=aa.upd ai (.tup [.str pr.1,.str bn,o]);have gr:upd zx r (.tup [.str pr.1,.str bn,o]) r=bw ([.str pr.1,.str bn]++[o]):=aB;have Bt:=xh.same sr;have HE:=sr _ _ OS;have Cy:=Zr.trans ((Wm.hn.ts xg).trans sr.ts);have Bu:=ym.tk sr.ts;generalize upd zx r (.tup [.str pr.1,.str bn,o])=E3 at sr gr Bt HE Cy Bu;have ug:Tk E3 (upd E3 C (.lst (G++[.ref r]))):=(Tk.refl).set HE (by intro _ z;cases z);exact⟨C,G,_,rfl,rfl,HE,by lia,G++[.ref r],_,_,_,_,_,rfl,aB,by simp[q2],(Bt.EZ HE fC nC).mono (by lia),⟨cs++[(pr.1,bn)],by rw[fm,Qm];exact((q5.tk Cy).snoc gr Bu (by lia)).tk ug,by rw[Qm,yn,ON];rfl,λc hc=>(xD.mp hc).elim (Bv c) (λe=>by rw[qD.mp e];exact iV vc)⟩,q4.trans (Cy.trans ug)⟩
    ·rintro u H8 ⟨G,v9,o,I,xj,xn,rfl,q1,q2,N,⟨cs,q5,yn,Bv⟩,q4⟩;have m3:ys.length*(NN m+1)<=10*(NN m+1):=QaI _ (by lia);have m4:ys.length*NN m<=10*NN m:=QaI _ (by lia);exact ay _ _ ⟨G,v9,o,I,xj,xn,rfl,q1,by lia,N.mono (by lia),⟨cs,q5.Cs (Qy _) m4,by rw[yn,qQ (by lia)],Bv⟩,ly.tk q4⟩
  rintro u H8 ⟨G,v9,o,I,xj,xn,rfl,q1,q2,N,⟨cs,q5,yn,Bv⟩,ag⟩;have DI:=Zk E5 yn Bv;refine aT (λu Z=>X6 fun(G:Qbi)(v9 o I xj xn:Qbj)=>u=[af p,af a,cg x,af kn,bg ((m+1:Nat):Int),af R,cg z,af c5,af C,v9,o,I,xj,xn]/\Z C=be G/\G.length<=11/\MW K H0 H Z p a kn (t+2+NN m+10*(NN m+1)) B j ns kvs/\(∃cs,fj Z (fm cs) G (4+3*m) (10*NN m+2)/\Ct cs)/\iw Z (5+3*m) (1+s4) (.ref c5)) ?_ ?_
  ·intro nx ay;refine⟨H0,p,3,_,rfl,N.hn,⟨by decide,by decide⟩,by lia,λr H7 r0 r1 ig gi=>⟨rfl,_,rfl,aj (λ_=>?_) (λ_=>ay _ _ ⟨G,v9,o,I,xj,xn,rfl,gi _ _ q1 nC nC,by lia,(N.draw ig gi).mono (by lia),⟨cs,(q5.tk (N.hn.ts gi)).Cs (Qy _) (by lia),DI⟩,ag.tk (N.hn.ts gi)⟩)⟩⟩;have W7:=N.draw ig gi;have E2:=N.hn.ts gi;have q7:=q5.tk E2;have g7:=gi _ _ q1 nC nC;refine⟨.inl ⟨rfl,_,ak.of g7⟩,ki,λc1 h1=>⟨bx,λc2 h2=>⟨gz,λc3 h3=>⟨gz,λc4 h4=>?_⟩⟩⟩⟩;have t1:=aa.upd h1 (.tup []);have t2:=aa.upd h2 (.tup [.str "box",.ref c1]);have t3:=aa.upd h3 (.tup [.str "part",.ref c2,.str "zz"]);have t4:=aa.upd h4 (.tup [.str "zz",.str "v",.ref c3]);have f1:_=some (HO.tup []):=t4 _ _ (t3 _ _ (t2 _ _ (aB:upd H7 c1 (.tup []) c1=_)));have f2:=t4 _ _ (t3 _ _ (aB:upd (upd H7 c1 (.tup [])) c2 (.tup [.str "box",.ref c1]) c2=_));have f3:=t4 _ _ (aB:upd (upd (upd H7 c1 (.tup [])) c2 (.tup [.str "box",.ref c1])) c3 (.tup [.str "part",.ref c2,.str "zz"]) c3=_);have f4:upd (upd (upd (upd H7 c1 (.tup [])) c2 (.tup [.str "box",.ref c1])) c3 (.tup [.str "part",.ref c2,.str "zz"])) c4 (.tup [.str "zz",.str "v",.ref c3]) c4=bw ([.str "zz",.str "v"]++[.ref c3]):=aB;have tt:=((t1.trans t2).trans t3).trans t4;generalize upd (upd (upd (upd H7 c1 (.tup [])) c2 (.tup [.str "box",.ref c1])) c3 (.tup [.str "part",.ref c2,.str "zz"])) c4 (.tup [.str "zz",.str "v",.ref c3])=OT at f1 f2 f3 f4 tt;have g8:=tt _ _ g7;have ug:Tk OT (upd OT C (.lst (G++[.ref c4]))):=(Tk.refl).set g8 (by intro _ z;cases z);exact⟨C,G,_,rfl,rfl,g8,by lia,ay _ _ ⟨G++[.ref c4],v9,o,I,xj,xn,rfl,aB,by simp;lia,((W7.same tt).EZ g8 fC nC).mono (by lia),⟨cs++([("zz","v")]:Qbh),by rw[fm,Qm];exact((q7.tk tt.ts).snoc f4 ((gF (.part f3 wG) (lP f2 f1)).up (by lia)) (by lia)).tk ug,DI.snoc wG y4 (by rw[yn];exact λhz=>absurd (rt.ww _ DG _ hz) (by decide+kernel)) (by have:=congrArg List.length yn;have:=E5.2.2.2;simp at*;lia)⟩,((ag.tk E2).tk tt.ts).tk ug⟩⟩
  rintro u H7 ⟨G,v9,o,I,xj,xn,rfl,q1,q2,N,⟨cs,q5,DI⟩,ag⟩;refine⟨C,G,rfl,Or.inl ⟨ak.of q1,λr1 DF=>⟨gz,λr2 jw=>?_⟩⟩⟩;have t1:=aa.upd DF (.tup G);have t2:=aa.upd jw (.tup [.str "split",.ref c5,.ref r1]);have f1:=t2 _ _ (aB:upd H7 r1 (.tup G) r1=_);have tt:=t1.trans t2;obtain⟨sz,Am,hs2⟩:=wF aB f1 (ag.tk tt.ts) ((q5.tk tt.ts).Cs (by lia) (Qy _)) DI;exact k _ sz _ (hs2.up (by(try dsimp only);lia)) (by lia) ((N.hn.same tt).mono (by lia)) (N.same tt).sm
theorem OU(h:Wd z):bq z:=by have:=h.1;unfold bq;lia
def yo(H:Hp)(ws:Qa8)(a:Qbi)(dep b:Nat):Prop:=a.length=ws.length/\∀j(h:j<a.length)(O:j<ws.length),∃(c:Addr)(z:Str)(m:V)(s:Nat),a[j]=.ref c/\H c=some (.tup [.str ws[j],.str z,m])/\iw H dep s m/\s<=b/\bq z
theorem yo.tk{H Z:Hp}{ws:Qa8}{a:Qbi}{dep b:Nat}(h:yo H ws a dep b)(t:Tk H Z):yo Z ws a dep b:=⟨h.1,λj d e=>by
 obtain⟨c,z,m,s,h1,h2,h3,h4⟩:=h.2 j d e;exact⟨c,z,m,s,h1,t _ _ h2,h3.tk t,h4⟩⟩
theorem yo.row{H:Hp}{ws:Qa8}{a:Qbi}{dep d:Nat}(h:yo H ws a dep d):∀i,i<=a.length->∃cs,fj H (fm cs) (a.take i) dep (i*d)/\cs.map (·.1)=ws.take i/\∀c∈cs,bq c.2
 |0,_=>⟨[],by rw[Nat.zero_mul];exact fj.nil,rfl,λc b=>nomatch b⟩
 |i+1,hi=>by
  have f:=h.1;obtain⟨c,z,m,s,h1,h2,h3,h4,hz⟩:=h.2 i (by lia) (by lia);obtain⟨cs,i1,i2,i3⟩:=yo.row h i (by lia);refine⟨cs++[(ws[i]'(by lia),z)],?_,?_,λc b=>(xD.mp b).elim (i3 c) (λe=>by rw[qD.mp e];exact hz)⟩
  ·rw[Qs,Qa (show i<a.length by lia),h1,fm,Qm];exact i1.snoc (l:=[.str (ws[i]'(by lia)),.str z]) h2 h3 (by rw[Qa2];lia)
  ·rw[Qm,i2,Qs,Qa (show i<ws.length by lia)];rfl
theorem yo.set{H:Hp}{ws:Qa8}{a:Qbi}{dep b:Nat}(h:yo H ws a dep b){i:Nat}{c:Addr}{z w:Str}{m:V}{s:Nat}(d:ws[i]? =some w)(e:H c=some (.tup [.str w,.str z,m]))(g:iw H dep s m)(k:s<=b)(l:bq z):yo H ws (a.set i (.ref c)) dep b:=⟨by simp[h.1],λj n f=>by
 have o:j<a.length:=by simpa using n
 by_cases uu:i=j
 ·subst uu;rw[Qa f]at d;exact⟨c,z,m,s,by simp,by rw[QD d];exact e,g,k,l⟩
 ·obtain⟨c',z',m',s',h1,h2,h3,h4⟩:=h.2 j o f;exact⟨c',z',m',s',by rw[List.getElem_set_ne uu];exact h1,h2,h3,h4⟩⟩
def W3:Qa8:=["a","b","ba"]
theorem wN:∀z∈W3,bq z:=λz a=>by
 simp only[W3,Qp,List.not_mem_nil,or_false]at a;rcases a with rfl|rfl|rfl
 ·exact Om
 ·exact Y8
 ·exact Y9
set_option maxHeartbeats 2000000 in
theorem nP(T:Txt K mg w)(n:Nat)(cL:aq P w K mg base (6+3*n) "_law_for" ["_law_pen","_law_told","_law_name","_law_known","_law_deep"] (Cu K n))
  (mI:aq P w K mg base (6+3*n+1) "_law_split_over" ["_law_pen","_law_told","_law_name","_law_known","_law_deep"] (Oq K n)):
  aq P w K mg base (6+3*n+1+1) "_law_wrapped" ["_law_pen","_law_told","_law_name","_law_known","_law_deep"] (EY K n):=by
 refine T.qF.dh (k:=6+3*n+1) bH ?_ ?_
 ·rintro _ _ _ _ ⟨H0,p,a,kn,t,B,b,ns,kvs,x,d,rfl,_⟩;rfl
 ·rintro f az A am s H vs Q E hr ⟨H0,p,a,kn,t,B,b,ns,kvs,x,d,rfl,hn,ht,rt,hx,hk,kk,dj,hd,k⟩
  (try dsimp only at ht hd k)
  obtain⟨hu,bj,hsz⟩:=c9 hr;have Hj:=mS d;obtain⟨rs,g,nm,rl,qg⟩:=rt.good λz hz=>(uA z hz).2;have hm:∀z,z∈ns↔z∈rs.map (·.1):=λz=>by rw[nm];exact rt.nm.mem_iff.symm
  have W:MW K H0 H H p a kn t B b ns kvs:=⟨hn,rt,hk,Sm.refl,hn.sm⟩
  refine⟨_,(aE (aQ 5 bH.nd (aR (bM T) hr (aD (zv 0) (aA aF aC))))
   (aE (bF (zB (aK (aZ bj) (zv 4) aF) (yA (aK gK (zv 5) aF))).pt (aI (aU (aR cL hr (aD (zv 0) (aD (zv 1) (aD (zv 2) (aD (zv 3) (aD (zv 4) aC)))))))) aW)
   (aE (bF (aK (aZ bj) (zv 5) aF) (aI (aU (aL (aA aG (bB (aR cL hr (aD (zv 0) (aD (zv 1) (aD (zv 2) (aD (zv 3) (aD (zv 4) aC)))))) (aD (zv 2) aC)))))) aW)
   (aE (bF (aK (aZ bj) (zv 5) aF) (aE (aQ 6 bH.nd (aR cL hr (aD (zv 0) (aD (zv 1) (aD (zv 2) (aD (zv 3) (aD (zv 4) aC)))))))
   (aI (aU (aL (aA aG (aH (aL (aA aG (aH (aL (aH (aL (aA aG (aD (zv 6) aC))) (aH (aL (aA aG (aH (aL (aA aG (aH (aL aC) aC))) aC))) aC))) aC))) (aA aG aC))))))) aW)
   (aE (bF (aK (aZ bj) (zv 5) aF) (aI (aU (aR mI hr (aD (zv 0) (aD (zv 1) (aD (zv 2) (aD (zv 3) (aD (zv 4) aC)))))))) aW)
   (aE (aQ 7 bH.nd (aR (kP T) hr (aD (zv 0) (aD (zv 1) aC))))
   (aE (aQ 8 bH.nd (dG (l5 rfl) T.lZ QX (aD (zv 3) aC)))
   (aE (aQ 9 bH.nd (aR (dR T) hr (aD (zv 0) aC)))
   (aE (xM hu (zv 8) (zv 9) (aR (d9 T) hr (aD (zv 1) (aD (zv 7) aC))) rfl)
   (aE (aQ 10 bH.nd (aR cL hr (aD (zv 0) (aD (zv 1) (aD (zv 7) (aD (zv 3) (cJ (bN dU (zv 4) aF) aC)))))))
   (aE (aQ 6 bH.nd (aR cL hr (aD (zv 0) (aD (zv 1) (aD (zv 2) (aD (zv 8) (cJ (bN dU (zv 4) aF) aC)))))))
   (aE (bF (aK (aZ bj) (zv 5) aF) (aI (aU (aL (aA aG (aH (aL (aA aG (aD (zv 9) (aD (zv 7) (aD (zv 6) aC))))) (aD (zv 10) aC)))))) aW)
   (aE (aQ 11 bH.nd (aR (bM T) hr (aD (zv 0) (aA aF aC))))
   (aE (Eh (i:=12) (own:=["_law_word"]) (idx:=[9]) (N':=["_law_word","_law_bound"]) (d6 bH) rfl (lT K (bK (aA aG (aA aG (aA aG aC))))) (λ_ _ _ _ _ _=>(cD 0)) (λ_ _ _ _ _ _=>rA) (λ_ _ _ _ _ _=>(aL (aD (zv 0) (aD (zv 1) (aH (aL (aA aG (aH (aL (aA aG (aH (aL aC) aC))) (aA aG aC)))) aC))))) bH.nd rfl rfl)
   (aE (i6 (aL (aJ (aN K (aN K (zv 12) (zv 11)) aF) (aD (zv 9) (aD (zv 6) aC)))) (pQ (zv 12) (zv 11) fF))
   (aI (aU (aL (aA aG (aH (aL (aA aG (aJ (aN K (aN K (zv 12) (zv 11)) aF) (aD (zv 10) aC)))) (bB (dG (cK K) T.dX QG (aD (zv 12) aC)) aC))))))))))))))))))))),?_⟩
  refine aM ⟨H0,p,9,t,rfl,hn,⟨by decide,by decide⟩,by lia,λr H1 r0 r1 ag ql=>?_⟩;have y:=W.draw ag ql;have g1:=g.ts (hn.ts ql);refine aT (λe Z=>0<d/\r<=4/\e=[af p,af a,cg x,af kn,bg (d:Int),bg r,none,none,none,none,none,none,none]/\H1=Z) ?_ ?_
  ·intro nx ay;refine p7 (λc Z=>H1=Z/\(c=false->0<d/\r<=4)) (λQ hQ=>?_) (λH2 ⟨e2,_⟩=>?_) (by rintro H2 ⟨e2,hc⟩;exact ay _ _ ⟨(hc rfl).1,(hc rfl).2,rfl,e2⟩)
   ·refine⟨rfl,_,rfl,aj (λc=>hQ _ _ ⟨rfl,λz=>absurd z (by decide)⟩) (λc0=>⟨_,rfl,hQ _ _ ⟨rfl,λc=>?_⟩⟩)⟩;rw[QE,decide_eq_false_iff_not]at c0;have ap:d≠0:=λz=>c0 (by rw[z];rfl);have c':¬(r > 4):=by simpa using c
    lia
   ·subst e2;refine⟨H0,p,a,kn,_,B,b,ns,kvs,x,d,rfl,y.hn,by lia,y.rt,hx,y.kn,kk,dj,hd,λR s7 H7 ly Bq ig gi=>?_⟩;exact k R s7 H7 (ly.up (by(try dsimp only);lia)) (by lia) (ig.mono (by lia)) (y.draw ig gi).sm
  rintro e _ ⟨OA,OV,rfl,rfl⟩;obtain⟨u,rfl⟩:∃u,d=u+1:=⟨d-1,by lia⟩
  have eN:NN (u+1)=12*NN u+40:=rfl;have ed:(((u+1:Nat):Int))-1=(u:Int):=by lia
  have OB:=mS u;refine aT (λe Z=>r≠0/\e=[af p,af a,cg x,af kn,bg ((u+1:Nat):Int),bg r,none,none,none,none,none,none,none]/\H1=Z) ?_ ?_
  ·intro nx ay;refine⟨rfl,_,rfl,aj (λc=>?_) (λc=>ay _ _ ⟨λz=>?_,rfl,rfl⟩)⟩
   ·refine⟨H0,p,a,kn,_,B,b,ns,kvs,x,u+1,rfl,y.hn,by lia,y.rt,hx,y.kn,kk,dj,hd,λR s7 H7 ly Bq ig gi=>⟨gz,λq hq=>?_⟩⟩;have sq:=aa.upd hq (.tup [.str "hold",R,.str x]);exact k _ (1+s7) _ ((gF (.hold aB (OU (y.rt.wd _ hx))) (ly.tk sq.ts)).up (by(try dsimp only);lia)) (by lia) ((ig.same sq).mono (by lia)) ((y.draw ig gi).same sq).sm
   ·rw[z]at c;exact absurd c (by decide)
  rintro e _ ⟨ar,rfl,rfl⟩;refine aT (λe Z=>r≠1/\e=[af p,af a,cg x,af kn,bg ((u+1:Nat):Int),bg r,none,none,none,none,none,none,none]/\H1=Z) ?_ ?_
  ·intro nx ay;refine⟨rfl,_,rfl,aj (λc=>?_) (λc=>ay _ _ ⟨λz=>?_,rfl,rfl⟩)⟩
   ·refine aM ⟨H0,p,a,kn,_,B,b,ns,kvs,x,u+1,rfl,y.hn,by lia,y.rt,hx,y.kn,kk,dj,hd,λR s7 H7 ly Bq ig gi=>?_⟩;have W7:=y.draw ig gi;refine⟨bx,λh h1=>⟨ki,λI h2=>⟨bx,λc3 h3=>⟨bx,λc4 h4=>⟨bx,λc5 h5=>⟨bx,λc6 h6=>⟨gz,λc7 h7=>?_⟩⟩⟩⟩⟩⟩⟩;have t1:=aa.upd h1 (.tup [.str "a",R]);have f1:upd H7 h (.tup [.str "a",R]) h=bw ([.str "a"]++[R]):=aB;generalize upd H7 h (.tup [.str "a",R])=G1 at*;have t2:=aa.upd h2 (.tup []);have f2:upd G1 I (.tup []) I=bw []:=aB;generalize upd G1 I (.tup [])=G2 at*;have t3:=aa.upd h3 (.tup [.str "box",.ref I]);have f3:upd G2 c3 (.tup [.str "box",.ref I]) c3=bw [.str "box",.ref I]:=aB;generalize upd G2 c3 (.tup [.str "box",.ref I])=G3 at*;have t4:=aa.upd h4 (.tup [.str "b",.ref c3]);have f4:upd G3 c4 (.tup [.str "b",.ref c3]) c4=bw ([.str "b"]++[.ref c3]):=aB;generalize upd G3 c4 (.tup [.str "b",.ref c3])=G4 at*;have t5:=aa.upd h5 (.tup [.ref h,.ref c4]);have f5:upd G4 c5 (.tup [.ref h,.ref c4]) c5=bw [.ref h,.ref c4]:=aB;generalize upd G4 c5 (.tup [.ref h,.ref c4])=G5 at*;have t6:=aa.upd h6 (.tup [.str "box",.ref c5]);have f6:upd G5 c6 (.tup [.str "box",.ref c5]) c6=bw [.str "box",.ref c5]:=aB;generalize upd G5 c6 (.tup [.str "box",.ref c5])=G6 at*;have t7:=aa.upd h7 (.tup [.str "part",.ref c6,.str "a"]);have f7:upd G6 c7 (.tup [.str "part",.ref c6,.str "a"]) c7=bw [.str "part",.ref c6,.str "a"]:=aB;generalize upd G6 c7 (.tup [.str "part",.ref c6,.str "a"])=G7 at*;have V:=t1.trans (t2.trans (t3.trans (t4.trans (t5.trans (t6.trans t7)))));have rm:=(fj.nil (H:=G7) (dep:=4+3*(u+1))).snoc (t7 _ _ (t6 _ _ (t5 _ _ (t4 _ _ (t3 _ _ (t2 _ _ f1)))))) (ly.tk V.ts) (Qy _);have Zs:=rm.snoc (t7 _ _ (t6 _ _ (t5 _ _ f4))) ((lP (t7 _ _ (t6 _ _ (t5 _ _ (t4 _ _ f3)))) (t7 _ _ (t6 _ _ (t5 _ _ (t4 _ _ (t3 _ _ f2)))))).up (by lia)) (Qy _);obtain⟨sz,Am,hs2⟩:=sK (ws:=["a","b"]) (t7 _ _ f6) (t7 _ _ (t6 _ _ f5)) Zs ⟨by decide+kernel,λz hz=>wN z (QaQ (i:=2) hz),by decide⟩;exact k _ (1+sz) _ ((gF (.part f7 Om) hs2).up (by lia)) (by lia) ((ig.same V).mono (by lia)) (W7.same V).sm
   ·rw[z]at c;exact absurd c (by decide)
  rintro e _ ⟨as,rfl,rfl⟩;refine aT (λe Z=>r≠4/\e=[af p,af a,cg x,af kn,bg ((u+1:Nat):Int),bg r,none,none,none,none,none,none,none]/\H1=Z) ?_ ?_
  ·intro nx ay;refine⟨rfl,_,rfl,aj (λc=>?_) (λc=>ay _ _ ⟨λz=>?_,rfl,rfl⟩)⟩
   ·refine⟨H0,p,a,kn,_,B,b,ns,kvs,x,u+1,rfl,y.hn,by lia,y.rt,hx,y.kn,kk,dj,⟨by lia,hd⟩,λR s7 H7 ly Bq ig gi=>?_⟩;exact k R s7 H7 (ly.up (by(try dsimp only);lia)) (by lia) (ig.mono (by lia)) (y.draw ig gi).sm
   ·rw[z]at c;exact absurd c (by decide)
  rintro e _ ⟨au,rfl,rfl⟩;refine aM ⟨H0,p,a,_,B,b,ns,WW,rfl,y.hn,by lia,y.rt,λot H2 KL an gh=>?_⟩;have W2:=y.draw an gh;have g2:=g1.ts (ag.ts gh);refine aM ⟨kn,kvs,rfl,.inl W2.kn,λl hl=>?_⟩;have sl:=aa.upd hl (.dK kvs);have gl:upd H2 l (.dK kvs) l=Cf kvs:=aB;have fl:=W2.free hl;have E1:kn≠l:=λq=>by have:=W2.kn;rw[q,hl]at this;cases this
  have W3:=W2.same sl;have g3:=g2.ts sl.ts;generalize upd H2 l (.dK kvs)=H3 at sl gl W3 g3;have Br:=W3.Ht gl;refine aM ⟨H0,p,_,rfl,W3.hn,by lia,λN H4 vc ja jv=>?_⟩;have W4:=W3.draw ja jv;have g4:=g3.ts (W3.hn.ts jv);have OW:=jv _ _ gl Br Br;refine⟨a,B,rs,_,_,ot,rfl,g4,(hm ot).mp KL,λH5 s5=>⟨l,_,rfl,.inl ⟨kvs,.inr N,s5 _ _ OW,rfl,by lia,rfl⟩,?_⟩⟩;have W6:=(W4.same s5).dput (yl:=putK kvs (.inr N) (.str (ie (ji b) rs.length ot))) (s5 _ _ OW) fl E1;have OX:upd H5 l (.dK (putK kvs (.inr N) (.str (ie (ji b) rs.length ot)))) l=some (.dK (putK kvs (.inr N) (.str (ie (ji b) rs.length ot)))):=aB;generalize upd H5 l (.dK (putK kvs (.inr N) (.str (ie (ji b) rs.length ot))))=H6 at W6 OX;have Zq:=oX (kvs:=kvs) N (ie (ji b) rs.length ot)
  (try dsimp only)
  refine aM ⟨H0,p,a,kn,_,B,b,ns,kvs,ot,u,by rw[ed];rfl,W6.hn,by lia,W6.rt,KL,W6.kn,kk,by lia,by lia,λR s7 H7 ly Bq ig gi=>?_⟩;have W7:=W6.draw ig gi;have Hw:=gi _ _ OX Br Br;refine aM ⟨H0,p,a,l,_,B,b,ns,_,x,u,by rw[ed];rfl,W7.hn,by lia,W7.rt,hx,Hw,kk.put _ (iV vc),by lia,by lia,λv8 s8 H8 ah Zt z_ E7=>?_⟩;have W8:=MW.draw (K:=K) (Z:=H8) W7 z_ E7;have KN:=ly.tk (W7.hn.ts E7);refine aT (λe Z=>e=[af p,af a,cg x,af kn,bg ((u+1:Nat):Int),bg r,some v8,cg ot,af l,cg N,some R,none,none]/\H8=Z) ?_ ?_
  ·intro nx ay;refine⟨rfl,_,rfl,aj (λc=>?_) (λc=>ay _ _ ⟨rfl,rfl⟩)⟩;refine⟨Cg,λh h1=>⟨gz,λI h2=>?_⟩⟩;have t1:=aa.upd h1 (.tup [.str "fn",.str N,.str ot,v8]);have t2:=aa.upd h2 (.tup [.str "call",.ref h,R]);have f1:=t2 _ _ (aB:upd H8 h (.tup [.str "fn",.str N,.str ot,v8]) h=_);have V:=t1.trans t2;have m1:=gF (.fn f1 (iV vc) (OU (W8.rt.wd _ KL))) (ah.tk V.ts);exact k _ (1+(1+s8)+s7) _ ((xL (.call aB) m1 ((KN.tk V.ts).up (by lia))).up (by(try dsimp only);lia)) (by lia) ((z_.same V).mono (by lia)) (W8.same V).sm
  rintro e _ ⟨rfl,rfl⟩;refine aM ⟨H0,p,3,_,rfl,W8.hn,⟨by decide,by decide⟩,by lia,λra H9 aw ax zz AM=>?_⟩;have W9:=W8.draw zz AM;have Cv:=W8.hn.ts AM;have Zu:=ah.tk Cv;have Zv:=KN.tk Cv;obtain⟨ia,rfl⟩:∃i:Nat,ra=(i:Int):=⟨ra.toNat,by lia⟩
  have Zw:ia<3:=by lia
  clear ag y W2 W3 W4 W6 W7 W8 ah KN;refine aT (λe Z=>X2 fun(C:Addr)(o:Qbi)=>e=[af p,af a,cg x,af kn,bg ((u+1:Nat):Int),bg r,some v8,cg ot,af l,cg N,some R,bg (ia:Int),af C]/\C≠p/\H C=none/\Z C=be o/\o.length=3/\yo Z W3 o (4+3*u) (NN u)/\aa H9 Z) ?_ ?_
  ·intro nx ay;refine⟨gz,λL hL=>Or.inl ⟨⟨_,ak.of aB⟩,λD hD=>?_⟩⟩;have sL:=aa.upd hL (.lst [.str "a",.str "b",.str "ba"]);have gL:upd H9 L (.lst [.str "a",.str "b",.str "ba"]) L=be [.str "a",.str "b",.str "ba"]:=aB;generalize upd H9 L (.lst [.str "a",.str "b",.str "ba"])=HL at sL gL hD;have WL:=W9.same sL;refine eM (cB [.str "a",.str "b",.str "ba"]) (λi τ Z=>X2 fun(v0:Qbj)(o:Qbi)=>τ=[v0,cg N]/\Z D=be o/\o.length=i/\yo Z (W3.take i) o (4+3*u) (NN u)/\aa HL Z) ⟨none,[],rfl,aB,rfl,⟨rfl,λj hj=>absurd hj (by simp)⟩,aa.upd hD _⟩ (by rintro i τ Z _ ⟨_,_,_,_,_,_,s⟩;exact ak.of (s _ _ gL)) ?_ ?_
   ·rintro i τ G hi ⟨v0,o,rfl,q1,q2,q3,q4⟩;have Zx:i<3:=hi;obtain⟨wd,ew,HG⟩:∃wd:Str,([.str "a",.str "b",.str "ba"]:Qbi).getD i .ao=.str wd/\W3[i]? =some wd:=by
     rcases(show i=0\/i=1\/i=2 by lia)with rfl|rfl|rfl<;>exact⟨_,rfl,rfl⟩
    rw[ew];refine⟨ki,λh h1=>⟨bx,λI h2=>⟨gz,λc3 h3=>⟨gz,λc4 h4=>?_⟩⟩⟩⟩;have t1:=aa.upd h1 (.tup []);have f1:upd G h (.tup []) h=bw []:=aB;generalize upd G h (.tup [])=G1 at*;have t2:=aa.upd h2 (.tup [.str "box",.ref h]);have f2:upd G1 I (.tup [.str "box",.ref h]) I=bw [.str "box",.ref h]:=aB;generalize upd G1 I (.tup [.str "box",.ref h])=G2 at*;have t3:=aa.upd h3 (.tup [.str "part",.ref I,.str "zz"]);have f3:upd G2 c3 (.tup [.str "part",.ref I,.str "zz"]) c3=bw [.str "part",.ref I,.str "zz"]:=aB;generalize upd G2 c3 (.tup [.str "part",.ref I,.str "zz"])=G3 at*;have t4:=aa.upd h4 (.tup [.str wd,.str N,.ref c3]);have f4:upd G3 c4 (.tup [.str wd,.str N,.ref c3]) c4=bw [.str wd,.str N,.ref c3]:=aB;generalize upd G3 c4 (.tup [.str wd,.str N,.ref c3])=G4 at*;have V:=t1.trans (t2.trans (t3.trans t4));have OY:=V _ _ q1;have ug:Tk G4 (upd G4 D (.lst (o++[.ref c4]))):=(Tk.refl).set OY (by intro _ z;cases z);have m3:=((gF (.part (t4 _ _ f3) wG) (lP (t4 _ _ (t3 _ _ f2)) (t4 _ _ (t3 _ _ (t2 _ _ f1))))).up (show 2<=4+3*u by lia)).tk ug;refine⟨o,OY,by lia,_,o++[.ref c4],rfl,aB,by simp[q2],⟨by simp[q2,W3];lia,λj hj HF=>?_⟩,(q4.trans V).put hD⟩;by_cases zf:j<o.length
    ·obtain⟨c,z,m,s,e1,e2,e3,e4⟩:=((q3.tk V.ts).tk ug).2 j zf (by have:=q3.1;lia);exact⟨c,z,m,s,by rw[Qe zf];exact e1,by rw[QaJ]at e2⊢;exact e2,e3,e4⟩
    ·obtain rfl:j=o.length:=by simp at hj;lia
     subst q2;have Zy:(W3.take (o.length+1))[o.length]'HF=wd:=by
      rw[QaJ];exact QD ((Qa _).symm.trans HG)
     exact⟨c4,N,.ref c3,2,by simp,by rw[Zy];exact ug _ _ f4,m3,by lia,iV vc⟩
   ·rintro τ G ⟨v0,o,rfl,q1,q2,q3,q4⟩;exact ay _ _ ⟨D,o,rfl,WL.hn.ne hD,WL.free hD,q1,q2,q3,sL.trans q4⟩
  rintro e G ⟨C,o,rfl,nC,fC,gC,a1,hz,sG⟩;have WG:=W9.same sG;have Zz:=Zu.tk sG.ts;have ZA:=Zv.tk sG.ts;obtain⟨cc,z,m,sm',e1,e2,e3,e4,_⟩:=hz.2 ia (by lia) Zw;have HG:bq W3[ia]:=wN _ (Qj _);have OZ:W3[ia]? =some W3[ia]:=Qa _;generalize W3[ia]=wd at e2 HG OZ;refine⟨o,.ref cc,.inl (ak.of gC),bU (by rw[Qa (by lia),e1]),_,.str wd,.inr (ae.of e2),aV _ _,gz,λh h1=>?_⟩;have t1:=aa.upd h1 (.tup [.str wd,.str N,v8]);have f1:upd G h (.tup [.str wd,.str N,v8]) h=bw [.str wd,.str N,v8]:=aB;have xh:=WG.same t1;have HH:=t1 _ _ gC;have ym:=Zz.tk t1.ts;have O0:=ZA.tk t1.ts;have ai:=(hz.tk t1.ts).set (i:=ia) OZ f1 ym Zt (iV vc);generalize upd G h (.tup [.str wd,.str N,v8])=G1 at t1 f1 xh HH ym O0 ai;refine⟨C,o,_,ia,rfl,rfl,HH,yD (by lia),?_⟩;have Cz:Tk G1 (upd G1 C (.lst (o.set ia (.ref h)))):=(Tk.refl).set HH (by intro _ z;cases z);have KO:upd G1 C (.lst (o.set ia (.ref h))) C=be (o.set ia (.ref h)):=aB;have Bt:=xh.EZ (yl:=o.set ia (.ref h)) HH fC nC;have Bu:=O0.tk Cz;have al:=ai.tk Cz;have f2:=Cz _ _ f1;generalize upd G1 C (.lst (o.set ia (.ref h)))=G2 at Cz KO Bt Bu al f2;refine⟨_,.ref h,.inl (ak.of KO),bU (by rw[QaY (by lia)]),_,.str wd,.inr (ae.of f2),aV _ _,gz,λI h2=>?_⟩;have t2:=aa.upd h2 (.tup [.str "pick",.str wd,R]);have f3:upd G2 I (.tup [.str "pick",.str wd,R]) I=bw [.str "pick",.str wd,R]:=aB;generalize upd G2 I (.tup [.str "pick",.str wd,R])=G3 at t2 f3;refine⟨C,_,rfl,Or.inl ⟨ak.of (t2 _ _ KO),λr1 DF=>⟨gz,λr2 jw=>?_⟩⟩⟩;have t3:=aa.upd DF (.tup (o.set ia (.ref h)));have t4:=aa.upd jw (.tup [.str "split",.ref I,.ref r1]);have f4:=t4 _ _ (aB:upd G3 r1 (.tup (o.set ia (.ref h))) r1=_);have V:=t3.trans t4;obtain⟨cs,E8,yn,Bv⟩:=al.row 3 (by simp;lia);rw[qQ (by simp;lia)]at E8;have DI:Ct cs:=⟨by rw[yn];decide+kernel,λc hc=>⟨wN _ (QaQ (i:=3) (yn▸qN.mpr ⟨c,hc,rfl⟩)),Bv c hc⟩,by have:=congrArg List.length yn;simp[W3]at this;lia⟩
  have mp:=gF (.pick (V _ _ f3) HG) (Bu.tk (t2.trans V).ts);obtain⟨sz,Am,hs2⟩:=wF aB f4 mp ((E8.tk (t2.trans V).ts).Cs (show 4+3*u<=4+3*u+1 by lia) (Qy _)) DI;have O1:=Bt.same (t2.trans V);exact k _ sz _ (hs2.up (by(try dsimp only);lia)) (by lia) (O1.hn.mono (by lia)) O1.sm
theorem ZC(T:Txt K mg w):∀n:Nat,aq P w K mg base (6+3*n) "_law_for" ["_law_pen","_law_told","_law_name","_law_known","_law_deep"] (Cu K n)/\aq P w K mg base (8+3*n) "_law_wrapped" ["_law_pen","_law_told","_law_name","_law_known","_law_deep"] (EY K n):=by
 intro n;have g:∀n,aq P w K mg base (6+3*n) "_law_for" ["_law_pen","_law_told","_law_name","_law_known","_law_deep"] (Cu K n)->aq P w K mg base (8+3*n) "_law_wrapped" ["_law_pen","_law_told","_law_name","_law_known","_law_deep"] (EY K n):=λn F=>(nP T n F (kR T n F)).mono (by lia)
 induction n with
 |zero=>
  have F:aq P w K mg base (6+3*0) "_law_for" ["_law_pen","_law_told","_law_name","_law_known","_law_deep"] (Cu K 0):=by
   refine T.rE.dh (k:=5) bW ?_ ?_
   ·rintro _ _ _ _ ⟨h,p,a,i,t,j,b,l,c,x,d,rfl,_⟩;rfl
   ·rintro f o A e s H q Q E r ⟨h,p,a,i,t,j,b,l,c,x,d,rfl,u,y,z,C,D,G,I,m,k⟩;exact absurd m (Nat.not_lt_zero _)
  exact⟨F,g 0 F⟩
 |succ n ih=>
  have F:=(uV T n ih.1 ih.2).mono (show 8+3*n+1<=6+3*(n+1)by lia);exact⟨F,g (n+1) F⟩
inductive KP (K:QZ)(vs:Qbi)(H:Hp)(Q:VK)(b_:XK):Prop
 |mk (H0:Hp) (p a:Addr) (t:Nat) (B:Qbi) (F:List eu) (ns:Qa8) (x:Str):vs=[.ref p,.ref a,.str x]->cj K H0 H p t->t+80000<900000->RT H a B F ns WW->x∈ns->(∀(v:V)(s:Nat)(Z:Hp),iw Z 15 s v->s<=30->cj K H0 Z p (t+80000)->Sm p p H Z->Q v Z)->KP K vs H Q b_
set_option maxHeartbeats 2000000 in
theorem kI(T:Txt K mg w):aq P w K mg base 21 "_law_small_maker" ["_law_pen","_law_told","_law_name"] (KP K):=by
 have d8:aq P w K mg base 20 "_law_wrapped" ["_law_pen","_law_told","_law_name","_law_known","_law_deep"] (EY K 4):=(ZC T 4).2;have dC:aq P w K mg base 17 "_law_many" ["_law_maker"] (Dy 15):=jN T 15;refine T.lF.dh dB ?_ ?_
 ·rintro _ _ _ _ ⟨u,p,a,t,B,l,ns,x,rfl,_⟩;rfl
 ·rintro f az A D s H vs Q E G ⟨u,p,a,t,B,l,ns,x,rfl,I,ht,rt,hx,k⟩;have ah:sizeLine=16777216:=QL;have nb:∀d,d<=3->NN d<=23560:=by decide
  refine⟨_,(aE (dP PassesOwn.never rfl (lT K (bK (aA aF (aA aF (aA aF aC))))) (bS 3 dB.nd) (aE (aQ 4 dB.nd (aR d8 G (aD (zv 0) (aD (zv 1) (aD (zv 2) (UP UU (aD (zv 3) aC)))))))
   (aI (bF (aK Mx (aR dC G (aD (zv 4) aC)) aF) (aI (aU (zv 4))) aW))))
   (aI (aU (NS (jL T) (G.mono (by decide)))))),?_⟩
  refine aT (λb m=>X2 λj h=>b=[af p,af a,cg x,j,h]/\cj K u m p (t+72000)/\Sm p p H m) ?_ ?_
  ·intro nx ay;refine⟨gz,λL hL=>Or.inl ⟨⟨_,ak.of aB⟩,?_⟩⟩;have y:=aa.upd hL (.lst [.int 3,.int 2,.int 1]);have gL:upd H L (.lst [.int 3,.int 2,.int 1]) L=be [.int 3,.int 2,.int 1]:=aB;have nL:=I.ne hL;have o:=I.same y;generalize upd H L (.lst [.int 3,.int 2,.int 1])=H1 at y gL o;refine dF (cB [.int 3,.int 2,.int 1]) (λi b m=>X2 λj h=>b=[af p,af a,cg x,j,h]/\cj K u m p (t+i*24000)/\Sm p p H1 m) ⟨none,none,rfl,by simpa using o,Sm.refl⟩ (by rintro i τ m _ ⟨_,_,_,_,s⟩;exact ak.of (s _ _ gL nL nL)) ?_ ?_
   ·rintro i b z hi ⟨j,h,rfl,g,n⟩;have Zx:i<3:=hi;obtain⟨d,ZD,ew⟩:∃d:Nat,d<=3/\([.int 3,.int 2,.int 1]:Qbi).getD i .ao=.int (d:Int):=by
     rcases(show i=0\/i=1\/i=2 by lia)with rfl|rfl|rfl
     ·exact⟨3,by decide,rfl⟩
     ·exact⟨2,by decide,rfl⟩
     ·exact⟨1,by decide,rfl⟩
    rw[ew];have hN:=nb d ZD;have zp:=y.sm.trans n;refine aM λC ZE=>?_;have q:=aa.upd ZE (.dK []);have gk:upd z C (.dK []) C=Cf []:=aB;have ju:=g.same q;have O6:=(rt.tk (I.ts zp)).tk q.ts;generalize upd z C (.dK [])=H3 at q gk ju O6;refine⟨u,p,a,C,_,B,l,ns,[],x,d,rfl,ju,by(try dsimp only);lia,O6,hx,gk,(λe he=>nomatch he),by simp;lia,by(try dsimp only);lia,λh N H4 R OH V jv=>?_⟩
    (try dsimp only at R OH V)
    have EO:=(zp.trans q.sm).trans jv;refine⟨h,N,rfl,(R.up (by lia)).Et,λH5 r=>⟨_,rfl,aj (λc=>?_) (λ_=>⟨_,_,rfl,(V.same r).mono (by rw[Qa2];lia),(n.trans q.sm).trans (jv.trans r.sm)⟩)⟩⟩;have c':(N:Int)<=30:=by simpa using c
    exact k h N H5 ((R.tk r.ts).up (by lia)) (by lia) ((V.same r).mono (by lia)) (EO.trans r.sm)
   ·rintro b z ⟨j,h,rfl,g,n⟩;exact ay _ _ ⟨j,h,rfl,g.mono (by simp),y.sm.trans n⟩
  ·rintro b z ⟨j,h,rfl,g,n⟩;refine⟨rfl,λj H3 s3 ag=>?_⟩;exact k j 9 H3 (ag.up (by lia)) (by lia) ((g.same s3).mono (by lia)) (n.trans s3.sm)
theorem ZF{b:List Int}(d:ak K H a (b.map V.int))(c:H p=none):cj K H (upd H p (.lst [.ref a,.int 0,.int 0])) p 0:=by
 refine⟨⟨a,b,0,0,aB,λf sm=>?_,by lia,by lia⟩,(aa.upd c _).sm⟩;rcases d with h|h
 ·refine .inl ?_;have n:a≠p:=λz=>by rcases h with h|⟨o,h⟩<;>(rw[z,c]at h;cases h)
  exact h.imp (λe=>sm _ _ e n n) fun⟨o,e⟩=>⟨o,sm _ _ e n n⟩
 ·exact .inr h
def HJ(H:Hp)(w:Str)(x:V)(a:Qbi):Prop:=(w="maker"/\∃y,a=[y])\/((w="parts"\/w="cases")/\∃b F ls c,x=.ref b/\H b=some (.tup F)/\kg H ls F c/\F.length=a.length/\F.length<=1000/\∀l∈ls,l.length<=2)\/((w="name"\/w="row")/\a=[])
def uh(H:Hp)(w:Str)(x:V)(c:Qbi)(d:V):Prop:=(w="maker"/\c=[d])\/((w="parts"\/w="cases")/\∃b F ls f e a,x=.ref b/\H b=some (.tup F)/\kg H ls F f/\d=.ref e/\H e=some (.tup a)/\kg H ls a c)\/((w="name"\/w="row")/\c=[]/\d=x)
theorem uh.tk{H Z:Hp}{w:Str}{x d:V}{e:Qbi}(h:uh H w x e d)(s:Tk H Z):uh Z w x e d:=by
 rcases h with h|⟨h,b,c,f,g,i,a,h1,h2,j,k,l,m⟩|h
 ·exact .inl h
 ·exact .inr (.inl ⟨h,b,c,f,g,i,a,h1,s _ _ h2,j.tk s,k,s _ _ l,m.tk s⟩)
 ·exact .inr (.inr h)
structure ZG(K:QZ)(H:Hp)(kvs:Qbf)(v:V)(f:a_)(ns:Qbi)(t:Addr)(w:Str)(e_:Qa8)(B:Qbi)(nss:List Qbi):Prop where
 vl:fu kvs (.inr w)=some (.ref t)
 at_:∃a,v=.ref a/\H a=some (.tup (.str w::B))
 sq:∀H,ae K H t (e_.map V.str)
 l1:B.length=e_.length
 l2:nss.length=e_.length
 ct:∀i(h:i<e_.length)(h1:i<B.length)(h2:i<nss.length),HJ H e_[i] B[i] nss[i]
 fl:nss.flatten=ns
 few:e_.length<=3
 fin:∀Z v' a'(xs':Qbi),v'=.ref a'->Z a'=some (.tup (.str w::xs'))->xs'.length=e_.length->(∀i(h:i<e_.length)(h1:i<B.length)(h2:i<nss.length)(h3:i<xs'.length),uh Z e_[i] B[i] nss[i] xs'[i])->Tk H Z->gu Z v' f ns
inductive HK (vs:Qbi)(H:Hp)(Q:VK)(b_:XK):Prop
 |mk (v:V) (f:a_) (J ns:Qbi) (L:Addr):vs=[v,.ref L]->gu H v f J->f.ok->H L=be ns->ns.length=f.ar->(∀v' Z,aa H Z->gu Z v' f ns->Q v' Z)->HK vs H Q b_
theorem pR{x a:V}{b:Qbi}(h:uh H "maker" x b a):b=[a]:=by
 rcases h with h|⟨h,_⟩|⟨h,_⟩
 ·exact h.2
 ·rcases h with h|h<;>exact absurd h (by decide+kernel)
 ·rcases h with h|h<;>exact absurd h (by decide+kernel)
theorem qX{w:Str}{x a:V}{c:Qbi}(b:w="name"\/w="row")(h:uh H w x c a):a=x:=by
 rcases h with⟨h,_⟩|⟨h,_⟩|h
 ·rcases b with rfl|rfl<;>exact absurd h (by decide+kernel)
 ·rcases b with rfl|rfl<;>rcases h with h|h<;>exact absurd h (by decide+kernel)
 ·exact h.2.2
theorem O7{w:Str}{e:Qbi}{ls:List Qbi}{p f:Qbi}{n:V}(o:w="parts"\/w="cases")(q:H b=some (.tup e))(l:kg H ls e p)(h:uh H w (.ref b) f n):∃g a,n=.ref g/\H g=some (.tup a)/\a.length=f.length/\e.length=f.length/\∀i(h1:i<a.length)(h2:i<f.length)(j:i<ls.length),∃c,a[i]=.ref c/\H c=some (.tup (ls[i]++[f[i]])):=by
 rcases h with⟨h,_⟩|⟨_,C,m,r,D,g,a,h1,h2,j,s,t,k⟩|⟨h,_⟩
 ·rcases o with rfl|rfl<;>exact absurd h (by decide+kernel)
 ·cases h1;rw[q]at h2;cases h2;have E:=l.l1;have G:=l.l2;have I:=j.l1;have K:=j.l2;have L:=k.l1;have N:=k.l2;refine⟨g,a,s,t,k.l1,by lia,λi u x y=>?_⟩;obtain⟨c,c1,c2⟩:=k.at_ i u x (by lia)
  obtain⟨d,d1,d2⟩:=l.at_ i (by lia) (by lia) y
  obtain⟨d',e1,e2⟩:=j.at_ i (by lia) (by lia) (by lia)
  rw[d1]at e1;cases e1;rw[d2]at e2;have z:=HO.tup.inj (QD e2);have A:ls[i]=r[i]:=(List.append_inj_left' z rfl)
  rw[A];exact⟨c,c1,c2⟩
 ·rcases o with rfl|rfl<;>rcases h with h|h<;>exact absurd h (by decide+kernel)
theorem ZI(l:List α)(i:Nat)(h:i<l.length):l.take (i+1)=l.take i++[l[i]]:=xU h
theorem qm{l:List α}(h:l.length=1):∃a,l=[a]:=by
 match l,h with
 | [a],_=>exact⟨a,rfl⟩
theorem Bw{l:List α}(h:l.length=2):∃a b,l=[a,b]:=by
 match l,h with
 | [a,b],_=>exact⟨a,b,rfl⟩
theorem ZJ{l:List α}(h:l.length=3):∃a b c,l=[a,b,c]:=by
 match l,h with
 | [a,b,c],_=>exact⟨a,b,c,rfl⟩
theorem ZK{K:QZ}{v:V}{f:a_}{J p:Qbi}{t0 L N P Q R T t7:Addr}(sh:gu H v f J)(ok:f.ok)(n:p.length=f.ar)(q0:∀H,ae K H t0 [.str "name"])(q1:∀H,ae K H L [.str "name",.str "row",.str "maker"])(q2:∀H,ae K H N [.str "maker",.str "maker"])(q3:∀H,ae K H P [.str "parts"])(q4:∀H,ae K H Q [.str "maker",.str "name"])(q5:∀H,ae K H R [.str "name",.str "maker"])(q6:∀H,ae K H T [.str "maker",.str "cases"])(q7:∀H,ae K H t7 [.str "maker",.str "row"]):
  ∃t ww e_ B ag,ZG K H (Oh t0 L N P Q R T t7) v f p t ww e_ B ag:=by
 have D:∀{x y:V},HJ H "maker" x [y]:=.inl ⟨rfl,_,rfl⟩;have G:∀{x:V},HJ H "name" x []:=.inr (.inr ⟨.inl rfl,rfl⟩);have cr:∀{x:V},HJ H "row" x []:=.inr (.inr ⟨.inr rfl,rfl⟩);have I:("name":Str)="name"\/("name":Str)="row":=.inl rfl;have E:("row":Str)="name"\/("row":Str)="row":=.inr rfl;cases sh with
 | @get a z e=>
  obtain rfl:=QR n;refine⟨t0,"get",["name"],[.str z],[[]],rfl,⟨a,rfl,e⟩,q0,rfl,rfl,λi h h1 h2=>?_,rfl,by simp,λu w A g j d k o s=>?_⟩
  ·obtain rfl:i=0:=by simp at h;lia
   exact G
  ·obtain⟨x0,rfl⟩:=qm k;have:=qX I (o 0 (by simp) (by simp) (by simp) (by simp));subst j;simp at this;rw[this]at d;exact .get d
 | @fn a z r m e=>
  obtain⟨y,rfl⟩:=qm (show p.length=1 from n);refine⟨L,"fn",["name","row","maker"],[.str z,.str r,m],[[],[],[y]],rfl,⟨a,rfl,e⟩,q1,rfl,rfl,λi h h1 h2=>?_,rfl,by simp,λu w A g j d k o s=>?_⟩
  ·rcases(show i=0\/i=1\/i=2 by simp at h;lia)with rfl|rfl|rfl
   ·exact G
   ·exact cr
   ·exact D
  ·obtain⟨x0,x1,x2,rfl⟩:=ZJ k;have c:=qX I (o 0 (by simp) (by simp) (by simp) (by simp));have h1:=qX E (o 1 (by simp) (by simp) (by simp) (by simp));have h2:=pR (o 2 (by simp) (by simp) (by simp) (by simp));subst j;simp at c h1 h2;subst c h1 h2;exact .fn d
 | @call a f x e=>
  obtain⟨y0,y1,rfl⟩:=Bw (show p.length=2 from n);refine⟨N,"call",["maker","maker"],[f,x],[[y0],[y1]],rfl,⟨a,rfl,e⟩,q2,rfl,rfl,λi h h1 h2=>?_,rfl,by simp,λu w A g j d k o s=>?_⟩
  ·rcases(show i=0\/i=1 by simp at h;lia)with rfl|rfl<;>exact D
  ·obtain⟨x0,x1,rfl⟩:=Bw k;have c:=pR (o 0 (by simp) (by simp) (by simp) (by simp));have h1:=pR (o 1 (by simp) (by simp) (by simp) (by simp));subst j;simp at c h1;subst c h1;exact .call d
 | @dw a b ws B ms e e2 rm=>
  have l1:=rm.l1;have l2:=rm.l2;have l3:(d_ ws).length=ws.length:=by simp[d_]
  have n:p.length=ws.length:=n;refine⟨P,"box",["parts"],[.ref b],[p],rfl,⟨a,rfl,e⟩,q3,rfl,rfl,λi h h1 h2=>?_,by simp,by simp,λu w A g j d k o s=>?_⟩
  ·obtain rfl:i=0:=by simp at h;lia
   refine .inr (.inl ⟨.inl rfl,b,B,_,J,rfl,e2,rm,?_,?_,λl C=>?_⟩)
   ·show B.length=p.length;lia
   ·have:=ok.2.2;lia
   ·obtain⟨z,_,rfl⟩:=qN.mp C;simp
  ·obtain⟨x0,rfl⟩:=qm k;obtain⟨b',rows',h1,h2,h3,h4,h5⟩:=O7 (.inl rfl) (s _ _ e2) (rm.tk s) (o 0 (by simp) (by simp) (by simp) (by simp));subst j;simp at h1 h3 h5;subst h1;exact .dw d h2 ⟨h3,by lia,h5⟩
 | @part a m z e=>
  obtain⟨y,rfl⟩:=qm (show p.length=1 from n);refine⟨Q,"part",["maker","name"],[m,.str z],[[y],[]],rfl,⟨a,rfl,e⟩,q4,rfl,rfl,λi h h1 h2=>?_,rfl,by simp,λu w A g j d k o s=>?_⟩
  ·rcases(show i=0\/i=1 by simp at h;lia)with rfl|rfl
   ·exact D
   ·exact G
  ·obtain⟨x0,x1,rfl⟩:=Bw k;have c:=pR (o 0 (by simp) (by simp) (by simp) (by simp));have h1:=qX I (o 1 (by simp) (by simp) (by simp) (by simp));subst j;simp at c h1;subst c h1;exact .part d
 | @pick a z m e=>
  obtain⟨y,rfl⟩:=qm (show p.length=1 from n);refine⟨R,"pick",["name","maker"],[.str z,m],[[],[y]],rfl,⟨a,rfl,e⟩,q5,rfl,rfl,λi h h1 h2=>?_,rfl,by simp,λu w A g j d k o s=>?_⟩
  ·rcases(show i=0\/i=1 by simp at h;lia)with rfl|rfl
   ·exact G
   ·exact D
  ·obtain⟨x0,x1,rfl⟩:=Bw k;have c:=qX I (o 0 (by simp) (by simp) (by simp) (by simp));have h1:=pR (o 1 (by simp) (by simp) (by simp) (by simp));subst j;simp at c h1;subst c h1;exact .pick d
 | @split a b cs m B ms e e2 rm=>
  have l1:=rm.l1;have l2:=rm.l2;have l3:(fm cs).length=cs.length:=by simp[fm]
  have n:p.length=cs.length+1:=n;obtain⟨y,q,rfl⟩:∃y q,p=y::q:=List.exists_cons_of_ne_nil λz=>by rw[z]at n;simp at n
  have n:q.length=cs.length:=by simpa using n
  refine⟨T,"split",["maker","cases"],[m,.ref b],[[y],q],rfl,⟨a,rfl,e⟩,q6,rfl,rfl,λi h h1 h2=>?_,by simp,by simp,λu w A g j d k o s=>?_⟩
  ·rcases(show i=0\/i=1 by simp at h;lia)with rfl|rfl
   ·exact D
   ·refine .inr (.inl ⟨.inr rfl,b,B,_,ms,rfl,e2,rm,?_,?_,λl C=>?_⟩)
    ·show B.length=q.length;lia
    ·have:=ok.2.2;lia
    ·obtain⟨z,_,rfl⟩:=qN.mp C;simp
  ·obtain⟨x0,x1,rfl⟩:=Bw k;have c:=pR (o 0 (by simp) (by simp) (by simp) (by simp));obtain⟨b',rows',h1,h2,h3,h4,h5⟩:=O7 (.inr rfl) (s _ _ e2) (rm.tk s) (o 1 (by simp) (by simp) (by simp) (by simp));subst j;simp at c h1 h3 h5;subst c h1;exact .split d h2 ⟨h3,by lia,h5⟩
 | @hold a m z e=>
  obtain⟨y,rfl⟩:=qm (show p.length=1 from n);refine⟨t7,"hold",["maker","row"],[m,.str z],[[y],[]],rfl,⟨a,rfl,e⟩,q7,rfl,rfl,λi h h1 h2=>?_,rfl,by simp,λu w A g j d k o s=>?_⟩
  ·rcases(show i=0\/i=1 by simp at h;lia)with rfl|rfl
   ·exact D
   ·exact cr
  ·obtain⟨x0,x1,rfl⟩:=Bw k;have c:=pR (o 0 (by simp) (by simp) (by simp) (by simp));have h1:=qX E (o 1 (by simp) (by simp) (by simp) (by simp));subst j;simp at c h1;subst c h1;exact .hold d
theorem jD(T:Txt K mg w):aq P w K mg base 1 "with_makers" ["maker","inner"] HK:=by
 refine T.qC.dh bZ ?_ ?_
 ·rintro _ _ _ _ ⟨v,f,J,ns,L,rfl,_⟩;rfl
 ·rintro f az A ag s H vs Q E hr ⟨v,f,J,ns,L,rfl,sh,ok,gL,hl,k⟩;obtain⟨hu,bj,hsz⟩:=c9 hr;obtain⟨aP,t0,t1,t2,t3,t4,t5,t6,t7,Kr,Ks,q0,q1,q2,q3,q4,q5,q6,q7⟩:=T.u8;have Ku:∃a,mg "PLACES"=some (Value.ref a)/\KD w K a _:=⟨aP,Kr,Ks⟩
  refine⟨_,(aE (aQ 2 bZ.nd (bK (aJ (aN K (zv 0) aF) aC)))
   (aE (aQ 3 bZ.nd aF)
   (aE (dP PassesOwn.never rfl (JW true true K (by rfl) T.EI (aJ (MS Ku (aN K (zv 0) aF) (λ_ _=>rfl)) (aJ (cT (lR K) (zv 0) (cU aF) cS) aC))) (dN K (n:=2) rfl (bA (bS 4 bZ.nd) (bA (bS 5 bZ.nd) cP))) (aI (bF (aK (aZ bj) (zv 4) aG) (aE (cE (gT K QH QJ QK bJ (zv 2) (aJ (aN K (zv 1) (zv 3)) aC)))
   (aI (wD (i:=3) bZ.nd rfl (Or.inl rfl) aF tZ))) (aI (bF (aK (kS K) (zv 4) (aL (aA aG (aA aG aC))) rfl) (aE (cE (gT K QH QJ QK bJ (zv 2) (bB (dG (cK K) T.dX QG (cG (iB ["row","other"] [] ["row","other"] (d6 bZ) (JW true false K (by rfl) T.EI (aD (zv 5) (aJ (cT (lR K) (zv 1) (cU (zv 3)) cS) aC))) (λ_ _ _ _ _ _=>(dN K (n:=2) rfl (bA (cD 0) (bA (cD 1) cP)))) (λ_ _ _ _ _ _=>(bN (VX K) (cT (lR K) (zv 0) cS (cU (F8 sW aF))) (aL (aD (zv 1) aC))))) aC)) aC)))
   (aI (wD (i:=3) bZ.nd rfl (Or.inl rfl) (bY (bR K) T.oh Qae (aD (zv 5) aC)) tZ))) (aI (cE (gT K QH QJ QK bJ (zv 2) (aD (zv 5) aC)))))))))
   (aI (aU (dG (cK K) T.dX QG (aD (zv 2) aC))))))),?_⟩
  obtain⟨t,ww,e_,B,nss,mo⟩:=ZK sh ok hl q0 q1 q2 q3 q4 q5 q6 q7;obtain⟨a,rfl,ea⟩:=mo.at_
  have jx:=mo.few;have f_:=mo.l1;have iz:=mo.l2;refine aM ⟨_,.str ww,.inr (ae.of ea),aV _ _,ik,λM hM=>?_⟩;have s0:=aa.upd hM (.lst [.str ww]);have gM:upd H M (.lst [.str ww]) M=be [.str ww]:=aB
  (try dsimp only)
  generalize upd H M (.lst [.str ww])=H1 at s0 gM;refine aM ?_;refine aT (λo q=>X4 fun(v3 r I:Qbj)(e:Qbi)=>o=[af a,af L,af M,v3,r,I]/\q M=be (.str ww::e)/\e.length=e_.length/\(∀i(h:i<e_.length)(h1:i<B.length)(h2:i<nss.length)(x:i<e.length),uh q e_[i] B[i] nss[i] e[i])/\aa H q) ?_ ?_
  ·intro nx ay;refine⟨_,_,.inr (ae.of (s0 _ _ ea)),aV _ _,_,_,rfl,mo.vl,?_⟩;refine⟨1,rfl,?_⟩;refine Or.inr (Or.inr ⟨a,_,rfl,ae.of (s0 _ _ ea),by simp[HT.cf],λp hp=>?_⟩);have Co:gj (V.str ww::B) (some 1) none=B:=by simp[gj,HT.cf]
   rw[Co];have s1:=aa.upd hp (.tup B);have gp:upd H1 p (.tup B) p=bw B:=aB;have O8:=s1 _ _ gM;generalize upd H1 p (.tup B)=H2 at s1 gp O8;have s2:=s0.trans s1;have ZL:p≠M:=λz=>by rw[z,gM]at hp;cases hp
   refine⟨t,p,_,_,rfl,mo.sq _,ae.of gp,lB (x4 (e_.map V.str) B) (λi o q=>X3 fun(r I:Qbj)(e:Qbi)=>o=[af a,af L,af M,bg ((nss.take i).flatten.length:Nat),r,I]/\q M=be (.str ww::e)/\e.length=i/\(∀j(h:j<e_.length)(h1:j<B.length)(h2:j<nss.length)(x:j<e.length),uh q e_[j] B[j] nss[j] e[j])/\aa H q/\q p=bw B) ⟨_,_,[],rfl,O8,rfl,λj _ _ _ h=>absurd h (by simp),s2,gp⟩ (by rintro i τ q _ ⟨_,_,_,_,_,_,_,_,g⟩;exact⟨mo.sq _,ae.of g⟩) ?_ ?_⟩
   ·rintro i o H3 tt hi ⟨r,I,e,rfl,g1,C,ho,s3,Cq⟩ yk;have fh:i<e_.length:=by simp at hi;lia
    have ew:(e_.map V.str).getD i .ao=.str e_[i]:=by rw[Qb,Qq,Qa fh];rfl
    have ex:B.getD i .ao=B[i]:=by rw[Qb,Qa (by lia)];rfl
    rw[ew,ex];have st:=aa.upd yk (.tup [.str e_[i],B[i]]);have g4:=st _ _ g1;have Cr:=st _ _ Cq;have s4:=s3.trans st;have ho:=λj h h1 h2 x=>(ho j h h1 h2 x).tk st.ts;generalize upd H3 tt (.tup [.str e_[i],B[i]])=H4 at st s4 g4 Cr ho;have ct:=mo.ct i fh (by lia) (by lia);have zu:(nss.take (i+1)).flatten=(nss.take i).flatten++nss[i]:=by rw[ZI _ i (by lia),List.flatten_append];simp
    have O9:ns=(nss.take i).flatten++(nss[i]++(nss.drop (i+1)).flatten):=by
     rw[<- mo.fl]
     conv=>lhs;rw[<- List.take_append_drop i nss,List.drop_eq_getElem_cons (show i<nss.length by lia)]
     rw[List.flatten_append,Qa0]
    have O_:=s4 _ _ gL;have ah:M≠L:=λz=>by rw[z,gL]at hM;cases hM
    have Y7:ns.length<=1001:=by
     rw[hl];cases f<;>simp only[a_.ar]<;>(try lia)
     ·exact Qaa ok.2.2 (by decide)
     ·exact Nat.succ_le_succ ok.2.2
    have R:∀{x':V}{u:Hp},aa H4 u->uh u e_[i] B[i] nss[i] x'->u M=be (.str ww::e)->∀r I:Qbj,X3 fun(ZM ZN:Qbj)(ys:Qbi)=>[some (V.ref a),af L,af M,bg ((nss.take (i+1)).flatten.length:Nat),r,I]=[af a,af L,af M,bg ((nss.take (i+1)).flatten.length:Nat),ZM,ZN]/\upd u M (.lst (.str ww::e++[x'])) M=be (.str ww::ys)/\ys.length=i+1/\(∀j(h:j<e_.length)(h1:j<B.length)(h2:j<nss.length)(x:j<ys.length),uh (upd u M (.lst (.str ww::e++[x']))) e_[j] B[j] nss[j] ys[j])/\aa H (upd u M (.lst (.str ww::e++[x'])))/\upd u M (.lst (.str ww::e++[x'])) p=bw B:=fun{x' u}s5 hc g5 r I=>by
     have tk:Tk u (upd u M (.lst (.str ww::e++[x']))):=(Tk.refl).set g5 λ_ z=>nomatch z;refine⟨_,_,e++[x'],rfl,by rw[aB];rfl,by simp[C],λj h h1 h2 x=>?_,(s4.trans s5).put hM,by rw[aS ZL];exact s5 _ _ Cr⟩;by_cases hj:j<e.length
     ·rw[Qe hj];exact(ho j h h1 h2 hj).tk (s5.ts.trans tk)
     ·obtain rfl:j=i:=by simp at x;lia
      rw[Qf (by lia)];simp only[C,Nat.sub_self,Qar];exact hc.tk tk
    rcases ct with⟨hw,y,hy⟩|⟨hw,b,m,N,ms,Pa,hb,rm,As,DF,Of⟩|⟨hw,G_⟩
    ·rw[hw];refine⟨rfl,_,rfl,aj (λ_=>?_) (λc=>absurd c (by decide+kernel))⟩;refine aT (λo q=>X2 fun(r I:Qbj)=>o=[af a,af L,af M,bg ((nss.take i).flatten.length:Nat),r,I]/\q=upd H4 M (.lst (.str ww::e++[y]))) ?_ ?_
     ·intro NZ u_;refine⟨.inl ⟨rfl,_,ak.of g4⟩,_,y,.inl (ak.of O_),?_,M,_,y,rfl,rfl,g4,by simp;lia,u_ _ _ ⟨_,_,rfl,rfl⟩⟩;rw[O9,hy];exact bU (by rw[Qaq (Qy _)];simp)
     ·rintro o q ⟨r,I,rfl,rfl⟩;refine⟨_,rfl,_,_,rfl,rfl,?_⟩;have e1:(((nss.take i).flatten.length:Nat):Int)+1=((nss.take (i+1)).flatten.length:Nat):=by rw[zu,hy,Qk];simp
      (try dsimp only)
      rw[e1];have hc:uh H4 e_[i] B[i] nss[i] y:=.inl ⟨hw,hy⟩;exact R (aa.refl _) hc g4 _ _
    ·have w_:e_[i]≠"maker":=by rcases hw with h|h<;>rw[h]<;>decide+kernel
     refine⟨rfl,_,rfl,aj (λc=>absurd c (by simp[w_])) (λ_=>?_)⟩;refine⟨bx,λb1 fq=>⟨_,.inr (ae.of aB),rfl,rfl,_,rfl,?_⟩⟩;have sb:=aa.upd fq (.tup [.str "parts",.str "cases"]);generalize upd H4 b1 (.tup [.str "parts",.str "cases"])=u at sb;refine aj (λ_=>?_) (λc=>absurd c ?_)
     rotate_left
     ·rcases hw with h|h<;>rw[h]<;>decide+kernel
     have s5:=s4.trans sb;refine aT (λo q=>X3 fun(r:Qbj)(b':Addr)(H6:Hp)=>o=[af a,af L,af M,bg ((nss.take i).flatten.length:Nat),r,af b]/\aa H4 H6/\uh H6 e_[i] B[i] nss[i] (.ref b')/\H6 M=be (.str ww::e)/\q=upd H6 M (.lst (.str ww::e++[.ref b']))) ?_ ?_
     ·intro NZ u_;rw[Pa];refine⟨.inl ⟨rfl,_,ak.of (sb _ _ g4)⟩,((nss.take i).flatten.length:Nat),rfl,Or.inr (Or.inl ⟨L,_,rfl,ak.of (sb _ _ O_),λS hS=>?_⟩)⟩;rw[Vp];have sS:=aa.upd hS (.lst (ns.drop (nss.take i).flatten.length));have gS:upd u S (.lst (ns.drop (nss.take i).flatten.length)) S=be (ns.drop (nss.take i).flatten.length):=aB;generalize upd u S (.lst (ns.drop (nss.take i).flatten.length))=H6 at sS gS;have ZO:ns.drop (nss.take i).flatten.length=nss[i]++(nss.drop (i+1)).flatten:=by
       conv=>lhs;rw[O9]
       simp
      rw[ZO]at gS;have s6:=s5.trans sS;have Pb:=s6 _ _ hb;refine⟨b,S,m,_,rfl,ae.of Pb,ak.of gS,λD hD=>?_⟩;have ai:=rm.l1;have al:=rm.l2;have HM:min m.length (nss[i]++(nss.drop (i+1)).flatten).length=m.length:=by rw[Qk];lia
      refine y6 (x4 m (nss[i]++(nss.drop (i+1)).flatten)) (λj τ q=>X3 fun(v0 v1:Qbj)(G:Qbi)=>τ=[v0,v1]/\q D=be G/\G.length=j/\(∀l(h1:l<G.length)(h2:l<nss[i].length)(x:l<N.length),∃c,G[l]=.ref c/\q c=bw (N[l]++[nss[i][l]]))/\aa H6 q) ⟨none,none,[],rfl,aB,rfl,λl h=>absurd h (by simp),aa.upd hD _⟩ (by rintro j τ q _ ⟨_,_,_,_,_,_,_,s'⟩;exact⟨ae.of (s' _ _ Pb),ak.of (s' _ _ gS)⟩) ?_ ?_
      ·rintro j τ H7 T0 hj ⟨v0,v1,G,rfl,r1,r2,r3,r4⟩ ZP;rw[HM]at hj;obtain⟨c,c1,c2⟩:=rm.at_ j hj (by lia) (by lia)
       have er:m.getD j .ao=.ref c:=eJ hj c1;have en:(nss[i]++(nss.drop (i+1)).flatten).getD j .ao=nss[i][j]'(by lia):=by rw[Qb,Qg (by lia),Qa (by lia)];rfl
       rw[er,en];have sT:=aa.upd ZP (.tup [.ref c,nss[i][j]'(by lia)]);have s7:=(s6.trans r4).trans sT;have am:=Of _ (Qj (show j<N.length by lia));have cc:gj (N[j]'(by lia)++[ms[j]'(by lia)]) none (some (-1))=N[j]'(by lia):=by
        unfold gj;simp only[HT.cf];rw[if_pos (by decide)];simp;rw[show(-1+(((N[j]'(by lia)).length:Int)+1)).toNat=(N[j]'(by lia)).length by lia,List.take_left]
       refine⟨1,rfl, -1,rfl,Or.inr (Or.inr ⟨c,_,rfl,ae.of (s7 _ _ c2),λz=>?_,λp1 om=>?_⟩)⟩
       ·have:=z.2;simp only[HT.cf]at this;rw[if_pos (by decide)]at this;simp at this
        lia
       rw[cc];have s8:=aa.upd om (.tup (N[j]'(by lia)));have g8:upd (upd H7 T0 (.tup [.ref c,nss[i][j]'(by lia)])) p1 (.tup (N[j]'(by lia))) p1=bw (N[j]'(by lia)):=aB;generalize upd (upd H7 T0 (.tup [.ref c,nss[i][j]'(by lia)])) p1 (.tup (N[j]'(by lia)))=H8 at s8 g8;refine⟨ik,λp2 j_=>?_⟩;have s9:=aa.upd j_ (.tup [nss[i][j]'(by lia)]);refine M7 (s9 _ _ g8) aB (by simp;lia) λc' H9 Cw Kz=>?_;have KQ:=((sT.trans s8).trans s9).trans Cw;have gD:=KQ _ _ r1;have tk:Tk H9 (upd H9 D (.lst (G++[.ref c']))):=(Tk.refl).set gD λ_ z=>nomatch z;refine⟨G,gD,by lia,_,_,G++[.ref c'],rfl,aB,by simp[r2],λl h1 h2 x=>?_,(r4.trans KQ).put hD⟩;by_cases cu:l<G.length
       ·rw[Qe cu];obtain⟨d,d1,d2⟩:=r3 l cu h2 x;exact⟨d,d1,tk _ _ (KQ.ts _ _ d2)⟩
       ·obtain rfl:l=j:=by simp at h1;lia
        rw[Qf (by lia)];refine⟨c',by simp[r2],tk _ _ Kz⟩
      ·rintro τ H7 ⟨v0,v1,G,rfl,r1,r2,r3,r4⟩;rw[HM]at r2;refine⟨D,G,rfl,.inl ⟨ak.of r1,λb' ZQ=>?_⟩⟩;have s8:=aa.upd ZQ (.tup G);have HN:=((sb.trans sS).trans r4).trans s8;have Pc:=HN _ _ g4;refine⟨M,_,.ref b',rfl,rfl,Pc,by simp;lia,u_ _ _ ⟨_,b',_,rfl,HN,.inr (.inl ⟨hw,b,m,N,ms,b',G,Pa,(s4.trans HN) _ _ hb,rm.tk (s4.trans HN).ts,rfl,aB,⟨by lia,by lia,λl h1 h2 x=>?_⟩⟩),Pc,rfl⟩⟩;obtain⟨d,d1,d2⟩:=r3 l h1 h2 x;exact⟨d,d1,s8 _ _ d2⟩
     ·rintro o q ⟨r,b',H6,rfl,Pd,hc,g6,rfl⟩;have tk:Tk H6 (upd H6 M (.lst (.str ww::e++[.ref b']))):=(Tk.refl).set g6 λ_ z=>nomatch z;refine⟨_,rfl,Or.inl ⟨m,.inr (ae.of (tk _ _ ((s4.trans Pd) _ _ hb))),_,_,rfl,rfl,?_⟩⟩;have e1:(((nss.take i).flatten.length:Nat):Int)+(m.length:Nat)=((nss.take (i+1)).flatten.length:Nat):=by rw[zu,Qk,As];simp
      (try dsimp only)
      rw[e1];exact R Pd hc g6 _ _
    ·have w_:e_[i]≠"maker":=by rcases hw with h|h<;>rw[h]<;>decide+kernel
     refine⟨rfl,_,rfl,aj (λc=>absurd c (by simp[w_])) (λ_=>?_)⟩;refine⟨bx,λb1 fq=>⟨_,.inr (ae.of aB),rfl,rfl,_,rfl,?_⟩⟩;have sb:=aa.upd fq (.tup [.str "parts",.str "cases"]);generalize upd H4 b1 (.tup [.str "parts",.str "cases"])=u at sb;refine aj (λc=>absurd c ?_) (λ_=>?_)
     ·rcases hw with h|h<;>rw[h]<;>decide+kernel
     have g5:=sb _ _ g4;have e1:((nss.take i).flatten.length:Nat)=(nss.take (i+1)).flatten.length:=by rw[zu,G_];simp
     refine⟨.inl ⟨rfl,_,ak.of g5⟩,M,_,B[i],rfl,rfl,g5,by simp;lia,?_⟩;rw[e1];have hc:uh u e_[i] B[i] nss[i] B[i]:=.inr (.inr ⟨hw,G_,rfl⟩);exact R sb hc g5 _ _
   ·rintro o H3 ⟨r,I,e,rfl,g1,C,ho,s3,Cq⟩;refine ay _ _ ⟨_,_,_,e,rfl,g1,?_,ho,s3⟩;rw[C,Ql];lia
  ·rintro o H3 ⟨v3,r,I,e,rfl,g1,C,ho,s3⟩;refine⟨M,_,rfl,.inl ⟨ak.of g1,λc hc=>?_⟩⟩;have sc:=aa.upd hc (.tup (.str ww::e));exact k _ _ (s3.trans sc) (mo.fin _ _ c e rfl aB C (λj h h1 h2 x=>(ho j h h1 h2 x).tk sc.ts) (s3.trans sc).ts)
inductive HP (d:Nat)(vs:Qbi)(H:Hp)(Q:VK)(b_:XK):Prop
 |mk (v:V) (m:Mr):vs=[v]->bf H d v m->av m<=1000000->(∀Z,aa H Z->Q (.bl (gx m)) Z)->HP d vs H Q b_
theorem nB(T:Txt K mg w)(d:Nat):aq P w K mg base 2 "is_value" ["maker"] (HP d):=by
 refine T.xB.dh jK ?_ ?_
 ·rintro _ _ _ _ ⟨v,m,rfl,_⟩;rfl
 ·rintro f az A D s H vs Q E hr ⟨v,m,rfl,hm,hc,k⟩;obtain⟨hu,bj,hsz⟩:=c9 hr;refine⟨_,(aE (aQ 1 jK.nd (bK (aD (zv 0) aC)))
   (aE (iM PassesOwn.never (xV K (zv 1)) (aE (aQ 2 jK.nd (M9 K QH PySem.F.slot_list_pop PySem.F.type_list_pop Mk (zv 1)))
   (aE (bF (aK (zF K) (aN K (zv 2) aF) (aL (aA aG (aA aG (aA aG aC)))) rfl) (aI (aU Eg)) aW)
   (aI (bF (aK (mE bj) (aN K (zv 2) aF) aG) (aI (cE (gT K QH PySem.F.slot_list_extend PySem.F.type_list_extend lY (zv 1) (bB (aR (cO T) hr (aD (zv 2) aC)) aC)))) aW)))))
   (aI (aU Eg)))),?_⟩
  refine aM ⟨ik,λW G=>?_⟩;have I:=aa.upd G (.lst [v]);have gW:upd H W (.lst [v]) W=be [v]:=aB
  (try dsimp only)
  generalize upd H W (.lst [v])=H1 at I gW;have kf:∀b,gx m=b->∀g,aa H g->Q (.bl b) g:=λb e g s'=>by have:=k g s';rw[e]at this;exact this
  refine aT (λi g=>aa H g/\gx m=true) ?_ (by rintro i g ⟨s,e⟩;exact kf true e g s);intro nx ay;refine⟨λn i g=>X3 fun(l:Qbi)(j:List Mr)(t:Qbj)=>i=[some v,af W,t]/\n=br j/\g W=be l/\jy g d l j/\br j<=1000000/\gx m=lh j/\aa H g,⟨_,[v],[m],none,rfl,rfl,gW,jy.one (hm.tk I.ts),by rw[br,br];lia,by simp[lh],I⟩,?_⟩;rintro n i u ⟨l,j,t,rfl,rfl,x,hl,ZR,hv,s3⟩;refine⟨!l.isEmpty,.inl ⟨l,ak.of x,rfl⟩,aj (λc=>?_) (λc=>?_)⟩
  rotate_left
  ·have:l=[]:=by simpa using c
   subst this;have:j=[]:=QaK.mp hl.len.symm;subst this;exact ay _ _ ⟨s3,by rw[hv,lh]⟩
  obtain⟨gw,qh,y,m1,rfl,rfl,hl',hy⟩:=hl.last (by intro z;rw[z]at c;cases c);refine⟨λi g=>∃n',n'<br (qh++[m1])/\X3 fun(l:Qbi)(j:List Mr)(t:Qbj)=>i=[some v,af W,t]/\n'=br j/\g W=be l/\jy g d l j/\br j<=1000000/\gx m=lh j/\aa H g,λi g h=>h,?_⟩;have DJ:Tk u (upd u W (.lst gw)):=(Tk.refl).set x (by intro _ z;cases z);refine aM ⟨.inl ⟨rfl,_,ak.of x⟩,W,_,y,rfl,rfl,x,by simp,?_⟩;rw[List.dropLast_concat];have g4:upd u W (.lst gw) W=be gw:=aB;have C:=s3.put (o:=.lst gw) G;have N:=hl'.tk DJ;have E9:=hy.tk DJ
  (try dsimp only)
  generalize upd u W (.lst gw)=H4 at g4 C N E9;obtain⟨J,sh,ok,hks⟩:=E9.kids;obtain⟨a,ys,rfl,ea⟩:=sh.ref;have KR:av m1=1+br m1.ks:=by cases m1;rw[av];rfl
  have ZS:br (qh++[m1])=br qh+(1+br m1.ks):=by rw[eI,br,br,KR];rfl
  rw[ZS]at ZR⊢;rw[rJ]at hv;have ev:lh [m1]=(match m1.f with| .fn _ _=>true| .dw _=>lh m1.ks| .pick _=>lh m1.ks|_=>false):=by obtain⟨f,J⟩:=m1;cases f<;>simp[lh,gx,Mr.f,Mr.ks]
  rw[ev]at hv;refine⟨_,.str m1.f.au,.inr (ae.of ea),aV _ _,gz,λb1 fq=>⟨_,.inr (ae.of aB),rfl,rfl,_,rfl,?_⟩⟩;have p:=aa.upd fq (.tup [.str "fn",.str "box",.str "pick"]);generalize upd H4 b1 (.tup [.str "fn",.str "box",.str "pick"])=H5 at p;have R:=p _ _ g4;have e1:=a_.Wi m1.f;have e2:=a_.Nd m1.f;refine aj (λq=>kf false ?_ _ (C.trans p)) (λq=>bD ?_)
  ·rw[e1]at q;rw[hv];cases hf:m1.f<;>rw[hf]at q<;>first|(cases q;done)|rw[Bool.and_false]
  rw[e1]at q;refine⟨_,.str m1.f.au,.inr (ae.of (p _ _ ea)),aV _ _,⟨rfl,_,rfl,?_⟩⟩;refine aj (λr=>?_) (λr=>?_)
  ·rw[e2]at r;refine⟨.inl ⟨rfl,_,ak.of R⟩,.ref a,J,rfl,(sh.uc ok).tk p.ts,λL H6 hL gL V=>?_⟩;have gv:=hks.len;have jt:=i4 m1.ks;have ag:=i4 qh;have ah:=hl'.len;have g6:=V _ _ R;have Hz:Tk H6 (upd H6 W (.lst (gw++J))):=(Tk.refl).set g6 (by intro _ z;cases z);refine⟨W,L,_,_,rfl,rfl,g6,gL,by lia,?_⟩;refine⟨_,?_,_,qh++m1.ks,_,rfl,rfl,aB,(N.app hks).tk ((p.trans V).ts.trans Hz),by rw[eI];lia,?_,((C.trans p).trans V).put G⟩
   ·rw[eI];lia
   ·rw[hv,rJ];congr 1;cases hf:m1.f<;>rw[hf]at q r<;>first|(cases q;done)|(cases r;done)|rfl
  ·rw[e2]at r;refine⟨_,?_,_,qh,_,rfl,rfl,R,N.tk p.ts,by lia,?_,C.trans p⟩
   ·lia
   ·rw[hv];cases hf:m1.f<;>rw[hf]at q r<;>first|(cases q;done)|(cases r;done)|rw[Bool.and_true]
theorem KS{K:QZ}{k:Nat}{T:Addr}{a b c:V}{Q:St->Hp->Prop}(h:ae K H T [a,b,c])(q:Q (((σ.set i (some a)).set j (some b)).set k (some c)) H):DZ K 3 (BG (jk i) (BG (jk j) (BG (jk k) FG))) (.ref T) σ H Q:=
 ⟨T,_,rfl,h,rfl,_,_,rfl,_,_,rfl,_,_,rfl,rfl,q⟩
def DK:Option Nat->V
 |none=>.ao
 |some k=>.int (k:Int)
inductive KU (d:Nat)(vs:Qbi)(H:Hp)(Q:VK)(b_:XK):Prop
 |mk (v:V) (m:Mr):vs=[v]->bf H d v m->av m<=1000000->(∀Z,aa H Z->Q (DK (nj m)) Z)->KU d vs H Q b_
theorem ZT{G:Prop}(X C:α->Hp->Prop)(h2:(∀a H,C a H->X a H)->G)(h1:∀a H,C a H->X a H):G:=h2 h1
theorem mV:∀{l:List Mr}{m:Mr},m∈l->av m<=br l
 |a::l,m,h=>by
  rw[br];rcases Qp.mp h with rfl|h
  ·lia
  ·have:=mV h;lia
theorem pI(T:Txt K mg w)(d:Nat):aq P w K mg base 3 "first_to_do" ["maker"] (KU d):=by
 have kZ:aq P w K mg base 2 "is_value" ["maker"] (HP d):=nB T d;refine T.qM.dh dQ ?_ ?_
 ·rintro _ _ _ _ ⟨v,m,rfl,_⟩;rfl
 ·rintro f az A C s H vs Q E D ⟨v,m,rfl,hm,hc,k⟩;obtain⟨hu,bj,hsz⟩:=c9 D;refine⟨_,(aE (aQ 1 dQ.nd (aR (cO T) D (aD (zv 0) aC)))
   (aE (dP PassesOwn.never rfl (Vg K (by rfl) T.uT (UQ (sX (aK (aZ bj) (aN K (zv 0) aF) aG) (cT (lR K) (zv 1) cS (cU aF)) (zv 1)) aC)) (dN K (n:=2) rfl (bA (bS 2 dQ.nd) (bA (bS 3 dQ.nd) cP))) (aI (bF (yG (lJ (aR kZ D (aD (zv 3) aC)))) (aI (aU (zv 2))) aW)))
   (aI (aU f8)))),?_⟩
  obtain⟨J,sh,ok,hks⟩:=hm.kids;obtain⟨a,ys,rfl,ea⟩:=sh.ref;refine aM ⟨.ref a,J,rfl,sh.uc ok,λL G hL gL t=>?_⟩
  (try dsimp only)
  refine ZT (α:=Addr) ?X (λB o=>∃e,o B=be e/\jy o d e (jn m.f m.ks)/\aa H o) (λg=>?h2) ?h1
  case h2=>
   refine⟨_,.str m.f.au,.inr (ae.of (t _ _ ea)),aV _ _,⟨rfl,_,rfl,?_⟩⟩;have e1:decide (V.str m.f.au=V.str "split")=(match m.f with| .split _=>true|_=>false):=by
    cases m.f<;>first|exact decide_eq_true rfl|exact Qw (λz=>absurd (V.str.inj z) (by simp only[a_.au];decide+kernel))
   refine aj (λc=>?_) (λc=>?_)
   ·rw[e1]at c;refine⟨1,rfl,Or.inr (Or.inl ⟨L,J,rfl,ak.of gL,λS hS=>?_⟩)⟩;have q:=aa.upd hS (.lst (gj J none (some 1)));have g2:upd G S (.lst (gj J none (some 1))) S=be (gj J none (some 1)):=aB;generalize upd G S (.lst (gj J none (some 1)))=o at q g2;refine g S o ⟨_,g2,?_,t.trans q⟩;have I:jn m.f m.ks=m.ks.take 1:=by
     unfold jn;cases hf:m.f<;>rw[hf]at c<;>first|(cases c;done)|rfl
    have ec:gj J none (some 1)=J.take 1:=by
     cases J with
     |nil=>rfl
     |cons x l=>simp[gj,HT.cf]
    rw[I,ec];have N:=hks.len;exact⟨by simp[N],λi a b=>by
     rw[QaJ,QaJ];exact(hks.at_ i (by simp at a;lia) (by simp at b;lia)).tk (t.trans q).ts⟩
   ·rw[e1]at c;refine g L G ⟨_,gL,?_,t⟩;have I:jn m.f m.ks=m.ks:=by
     unfold jn;cases hf:m.f<;>rw[hf]at c<;>first|(cases c;done)|rfl
    rw[I];exact hks.tk t.ts
  case h1=>
   rintro B o ⟨e,gB,R,q⟩;have N:=R.len;have KW:∀i(h:i<(jn m.f m.ks).length),av (jn m.f m.ks)[i]<=1000000:=λi h=>by
    have ZU:∀x∈jn m.f m.ks,x∈m.ks:=λx r=>by
     unfold jn at r;split at r
     ·exact QaQ r
     ·exact r
    have h1:=ZU _ (Qj h);have:=mV h1;have:av m=1+br m.ks:=by cases m;rw[av];rfl
    lia
   unfold nj at k;generalize jn m.f m.ks=y at k R N KW;refine⟨B,e,rfl,ak.of gB,lB (Vi e) (λi p Z=>X2 fun(v2 v3:Qbj)=>p=[af a,af L,v2,v3]/\(∀j(h:j<i)(O:j<y.length),gx y[j]=true)/\aa o Z) ⟨none,none,rfl,λj h=>absurd h (by lia),aa.refl _⟩ (by rintro i τ Z _ ⟨_,_,_,_,s'⟩;exact ak.of (s' _ _ gB)) ?_ ?_⟩
   ·rintro i p H3 tt hi ⟨v2,v3,rfl,hv,s3⟩ yk;have ex:e.getD i .ao=e[i]:=eJ hi rfl;rw[ex];have s4:=aa.upd yk (.tup [.int i,e[i]]);generalize upd H3 tt (.tup [.int i,e[i]])=H4 at s4;have KZ:=s3.trans s4;refine⟨e[i],y[i]'(by lia),rfl,(R.at_ i hi (by lia)).tk KZ.ts,KW i (by lia),λH5 s5=>⟨_,rfl,?_⟩⟩;refine Jf (λc=>?_) (λc=>?_)
    ·refine⟨_,_,rfl,λj h O=>?_,KZ.trans s5⟩;by_cases u:j<i
     ·exact hv j u O
     ·obtain rfl:j=i:=by lia
      exact c
    ·have:=k H5 ((q.trans KZ).trans s5);rw[QaR.mpr ⟨show i<y.length by lia,by simp[c],λj u=>by simp[hv j u (by lia)]⟩]at this;exact this
   ·rintro p H3 ⟨v2,v3,rfl,hv,s3⟩;have:=k H3 (q.trans s3);rw[List.findIdx?_eq_none_iff.mpr (λx r=>by
     obtain⟨j,u,rfl⟩:=Qi r;simp[hv j (by lia) u])]at this
    exact this
inductive K0 (vs:Qbi)(H:Hp)(Q:VK)(b_:XK):Prop
 |mk (v:V) (f:a_) (J:Qbi):vs=[v]->gu H v f J->f.ok->(∀L Z,Z L=be ((List.range f.ar).map λi=>match f.bnd i with|none=>.ao|some z=>.str z)->aa H Z->Q (.ref L) Z)->K0 vs H Q b_
theorem pX(T:Txt K mg w):aq P w K mg base 2 "names_bound" ["maker"] K0:=by
 refine T.qO.dh iY ?_ ?_
 ·rintro _ _ _ _ ⟨v,f,C,rfl,_⟩;rfl
 ·rintro f az A G s H vs Q E hr ⟨v,f,C,rfl,t,u,k⟩;obtain⟨hu,bj,hsz⟩:=c9 hr;refine⟨_,(aE (bF (aK (aZ bj) (aN K (zv 0) aF) aG) (aI (aU (bK (aJ (aN K (zv 0) aF) aC)))) aW)
   (aE (bF (aK (aZ bj) (aN K (zv 0) aF) aG) (aI (aU (bN bT (bK (aA f8 aC)) (iB ["word","v","inner"] [] ["word","v","inner"] (d6 iY) (lT K (aN K (zv 0) aF)) (λ_ _ _ _ _ _=>(dN K (n:=3) rfl (bA (cD 0) (bA (cD 1) (bA (cD 2) cP))))) (λ_ _ _ _ _ _=>(zv 1)))))) aW)
   (aI (aU (bN Tf (bK (aA f8 aC)) (bY (bR K) T.oh Qae (bB (aR (cO T) hr (aD (zv 0) aC)) aC))))))),?_⟩
  obtain⟨a,ys,rfl,ea⟩:=t.ref;by_cases hb:(∀i,f.bnd i=none)/\f.au≠"fn"/\f.au≠"split"
  ·obtain⟨b1,b2,b3⟩:=hb;refine⟨_,.str f.au,.inr (ae.of ea),aV _ _,⟨rfl,_,rfl,?_⟩⟩;refine aj (λc=>absurd (V.str.inj (Qt ((QE _).symm.trans c))) b2) (λ_=>aO ?_);refine⟨_,.str f.au,.inr (ae.of ea),aV _ _,⟨rfl,_,rfl,?_⟩⟩;refine aj (λc=>absurd (V.str.inj (Qt ((QE _).symm.trans c))) b3) (λ_=>bD ?_);refine⟨ik,λg I=>?_⟩;have d:=aa.upd I (.lst [.ao]);have j:upd H g (.lst [.ao]) g=be [.ao]:=aB;generalize upd H g (.lst [.ao])=H9 at d j;refine⟨_,C,rfl,(t.uc u).tk d.ts,λL2 H2 Du Bm s2=>?_⟩;have hl:=t.len;have Ol:C.length<=1001:=by
    rw[hl];cases f<;>simp only[a_.ar]<;>(try lia)
    ·exact Qaa u.2.2 (by decide)
    ·exact Nat.succ_le_succ u.2.2
   refine Or.inl ⟨_,.inl (ak.of Bm),_,_,_,rfl,rfl,s2 _ _ j,by lia,by lia,by simp;lia,λp hp=>k p _ ?_ ((d.trans s2).trans (aa.upd hp _))⟩;rw[aB];congr 2;refine QaF (by simp[hl]) λi h1 h2=>?_;simp only[Qr,List.getElem_range,b1];have:=Qj h1;simp only[List.mem_flatten,List.mem_replicate]at this;obtain⟨l,⟨_,rfl⟩,h3⟩:=this;exact qD.mp h3
  cases t with
  | @fn a v r m e=>
   refine⟨_,.str "fn",.inr (ae.of e),aV _ _,⟨rfl,_,rfl,?_⟩⟩;refine aj (λ_=>?_) (λc=>absurd c (by decide+kernel));exact⟨_,.str v,.inr (ae.of e),rfl,ik,λL N=>k L _ aB (aa.upd N _)⟩
  | @split a b cs m B ms e e2 rm=>
   refine⟨_,.str "split",.inr (ae.of e),aV _ _,⟨rfl,_,rfl,?_⟩⟩;refine aj (λc=>absurd c (by decide+kernel)) (λ_=>aO ?_);refine⟨_,.str "split",.inr (ae.of e),aV _ _,⟨rfl,_,rfl,?_⟩⟩;refine aj (λ_=>?_) (λc=>absurd c (by decide+kernel));refine⟨ik,λg I=>?_⟩;have d:=aa.upd I (.lst [.ao]);have j:upd H g (.lst [.ao]) g=be [.ao]:=aB;generalize upd H g (.lst [.ao])=H9 at d j;refine⟨_,.ref b,.inr (ae.of (d _ _ e)),rfl,Or.inr ⟨⟨B,ae.of (d _ _ e2)⟩,λD hD=>?_⟩⟩;have f_:=rm.l1;have iz:=rm.l2;have jt:(fm cs).length=cs.length:=by simp[fm]
   have jx:cs.length<=1000:=u.2.2;refine eM (dA B) (λi x o=>o D=be ((cs.take i).map λc=>.str c.2)/\aa H9 o/\X3 λR v1 v2=>x=[R,v1,v2]) ⟨aB,aa.upd hD _,none,none,none,rfl⟩ (λi x o _ h=>ae.of (h.2.1 _ _ (d _ _ e2))) ?_ ?_
   ·rintro i x o y ⟨z,q,R,v1,v2,rfl⟩;obtain⟨c,r1,r2⟩:=rm.at_ i y (by lia) (by lia)
    have eg:B.getD i .ao=.ref c:=eJ y r1;rw[eg];simp only[fm,Qr]at r2;refine KS (ae.of (q _ _ (d _ _ r2))) ?_;refine⟨_,z,by simp;lia,?_,q.put hD,_,_,_,rfl⟩;rw[aB,Qs,Qa (show i<cs.length by lia),Qm];rfl
   ·rintro x o ⟨z,q,R,v1,v2,rfl⟩;rw[qQ (by lia)]at z;refine⟨_,_,q _ _ j,z,by simp;lia,λL N=>k L _ ?_ ((d.trans q).trans (aa.upd N _))⟩;rw[aB];congr 2;simp only[a_.ar];rw[List.range_succ_eq_map,Qab,Qa3,List.singleton_append];congr 1;refine QaF (by simp) λi h1 h2=>?_;have y:i<cs.length:=by simpa using h1
    simp[a_.bnd,Qa y]
  |_=>exact absurd ⟨λi=>by cases i<;>rfl,by simp only[a_.au];decide+kernel,by simp only[a_.au];decide+kernel⟩ hb
inductive CA (d e:Nat)(vs:Qbi)(H:Hp)(Q:VK)(b_:XK):Prop
 |mk (x y:V) (v:Str) (m xm:Mr):vs=[x,.str v,y]->bf H d x m->bf H e y xm->(∀r Z,aa H Z->bf Z (d+e) r (kh v xm m)->Q r Z)->CA d e vs H Q b_
theorem zV(T:Txt K mg w)(e:Nat):∀d:Nat,aq P w K mg base (3+d) "put_in" ["maker","v","value"] (CA d e):=by
 intro n
 induction n with
 |zero=>
  refine T.vR.dh (k:=2) i9 ?_ ?_
  ·rintro _ _ _ _ ⟨x,y,v,m,g,rfl,_⟩;rfl
  ·rintro f az A C s H vs Q E o ⟨x,y,v,m,g,rfl,h,_⟩;cases h
 |succ n ih=>
  have lI:aq P w K mg base (3+n) "put_in" ["maker","v","value"] (CA n e):=ih;refine T.vR.dh (k:=3+n) i9 ?_ ?_
  ·rintro _ _ _ _ ⟨x,y,v,m,g,rfl,_⟩;rfl
  ·rintro f az A C s H vs Q E o ⟨x,y,v,m,g,rfl,hm,hx,k⟩;obtain⟨hu,bj,hsz⟩:=c9 o;refine⟨_,(aE (bF (aK (aZ bj) (aN K (zv 0) aF) aG) (aI (aU (sX (aK (aZ bj) (aN K (zv 0) aF) (zv 1)) (zv 2) (zv 0)))) aW)
   (aE (aQ 3 i9.nd (aR (pX T) o (aD (zv 0) aC)))
   (aE (Eh (i:=4) (own:=["one","name"]) (idx:=[1,2]) (N':=["one","name","v","value"]) (d6 i9) rfl (Vh K (by rfl) T.EI (bB (aR (cO T) o (aD (zv 0) aC)) (aD (zv 3) aC))) (λ_ _ _ _ _ _=>(dN K (n:=2) rfl (bA (cD 0) (bA (cD 1) cP)))) (λ_ _ _ _ _ _=>rA) (λ_ _ _ _ _ _=>(sX (aK (aZ bj) (zv 1) (zv 2)) (zv 0) (aR lI o (aD (zv 0) (aD (zv 2) (aD (zv 3) aC)))))) i9.nd rfl rfl)
   (aI (aU (aR (jD T) o (aD (zv 0) (aD (zv 4) aC)))))))),?_⟩
   obtain⟨n',J,en,sh,ok,dj,hks⟩:=hm.out;obtain rfl:n'=n:=by lia
   obtain⟨f,ms⟩:=m;dsimp only[Mr.f,Mr.ks]at sh ok dj hks;obtain⟨a,ys,rfl,ea⟩:=sh.ref;have hl:=sh.len;refine⟨_,.str f.au,.inr (ae.of ea),aV _ _,⟨rfl,_,rfl,?_⟩⟩;refine aj (λc=>?_) (λc=>aO ?_)
   ·rw[QE]at c;cases sh with
    | @get a z e=>
     refine⟨_,.str z,.inr (ae.of e),rfl,⟨rfl,_,rfl,?_⟩⟩;rw[QE];refine aj (λc=>?_) (λc=>?_)
     ·obtain rfl:=V.str.inj (Qt c);exact k _ _ (aa.refl _) (by rw[kh,if_pos rfl];exact hx.up (by lia))
     ·have iq:=Qu c;refine k _ _ (aa.refl _) ?_;rw[kh,if_neg (λz=>iq (by cases z;rfl))];obtain rfl:ms=[]:=QaK.mp dj.symm;rw[i_];exact hm.up (by lia)
    |_=>exact absurd (V.str.inj (Qt c)) (by simp only[a_.au];decide+kernel)
   have K1:f≠.get v:=λz=>by subst z;simp only[a_.au]at c;exact absurd c (by simp)
   refine aM ⟨.ref a,f,J,rfl,sh,ok,λB H1 gB s1=>?_⟩;refine aM ?_;refine⟨.ref a,J,rfl,(sh.uc ok).tk s1.ts,λL H2 hL gL s2=>?_⟩;have K2:=s2 _ _ gB;generalize AI:((List.range f.ar).map λi=>match f.bnd i with|none=>V.ao|some z=>V.str z)=bs at gB K2;have ag:bs.length=f.ar:=by rw[<- AI];simp
   refine⟨L,B,_,_,rfl,ak.of gL,ak.of K2,λD hD=>?_⟩;have t:=s1.trans s2;have Ol:J.length<=1001:=by
    rw[hl];exact a_.few ok
   have ah:=pN v g f ms 0;have HM:min J.length bs.length=J.length:=by lia
   refine y6 (Vj J bs) (λi τ Z=>X3 fun(v0 v1:Qbj)(b:Qbi)=>τ=[v0,v1,cg v,some y]/\Z D=be b/\b.length=i/\(∀j(h1:j<b.length)(h2:j<(i_ v g f 0 ms).length),bf Z (n'+e) b[j] (i_ v g f 0 ms)[j])/\aa H2 Z) ⟨none,none,[],rfl,aB,rfl,λl h=>absurd h (by simp),aa.upd hD _⟩ (by rintro j τ Z _ ⟨_,_,_,_,_,_,_,s'⟩;exact⟨ak.of (s' _ _ gL),ak.of (s' _ _ K2)⟩) ?_ ?_
   ·rintro i τ H3 tt hi ⟨v0,v1,b,rfl,q1,q2,q3,G⟩ yk;have fh:i<ms.length:=by lia
    have ex:J.getD i .ao=J[i]:=by rw[Qb,Qa (by lia)];rfl
    have eb:bs.getD i .ao=(match f.bnd i with|none=>V.ao|some z=>V.str z):=by
     rw[<- AI,Qb,Qq,List.getElem?_range (by lia)];rfl
    rw[ex,eb];have I:=pV v g f ms 0 i (by lia) fh;rw[Nat.zero_add]at I;have ed:(CT (match f.bnd i with|none=>V.ao|some z=>V.str z) (.str v)=true)/\decide ((match f.bnd i with|none=>V.ao|some z=>V.str z)=V.str v)=decide (f.bnd i=some v):=by
     cases f.bnd i with
     |none=>exact⟨rfl,rfl⟩
     |some z=>exact⟨rfl,by simp⟩
    have Pe:(match f.bnd i with|none=>V.ao|some z=>V.str z)=.ao\/∃z,(match f.bnd i with|none=>V.ao|some z=>V.str z)=.str z:=by
     cases f.bnd i with
     |none=>exact .inl rfl
     |some z=>exact .inr ⟨z,rfl⟩
    generalize(match f.bnd i with|none=>V.ao|some z=>V.str z)=bi at ed Pe;have p:=aa.upd yk (.tup [J[i]'(by lia),bi]);generalize upd H3 tt (.tup [J[i]'(by lia),bi])=H4 at p;have zo:=p _ _ q1;have u:∀{r:V}{q:Hp},aa H4 q->bf q (n'+e) r (i_ v g f 0 ms)[i]->∃N,q D=be N/\N.length<sizeLine/\X3 fun(ZV ZW:Qbj)(b:Qbi)=>[some J[i],some bi,some (V.str v),some y]=[ZV,ZW,cg v,some y]/\upd q D (.lst (N++[r])) D=be b/\b.length=i+1/\(∀j(h1:j<b.length)(h2:j<(i_ v g f 0 ms).length),bf (upd q D (.lst (N++[r]))) (n'+e) b[j] (i_ v g f 0 ms)[j])/\aa H2 (upd q D (.lst (N++[r]))):=fun{r q}R o=>by
     have g5:=R _ _ zo;have tk:Tk q (upd q D (.lst (b++[r]))):=(Tk.refl).set g5 λ_ z=>nomatch z;refine⟨b,g5,by lia,_,_,b++[r],rfl,aB,by simp[q2],λj h1 h2=>?_,((G.trans p).trans R).put hD⟩;by_cases hj:j<b.length
     ·rw[Qe hj];exact(q3 j hj h2).tk ((p.trans R).ts.trans tk)
     ·obtain rfl:j=i:=by simp at h1;lia
      rw[Qf (by lia)];simp only[q2,Nat.sub_self,Qar];exact o.tk tk
    rcases Pe with rfl|⟨z,rfl⟩<;>refine⟨ed.1,_,rfl,?_⟩<;>rw[QE,ed.2]
    all_goals
     refine aj (λc=>?_) (λc=>?_)
     ·rw[if_pos (Qt c)]at I;refine u (aa.refl _) ?_;rw[I];exact((hks i (by lia) fh).tk ((t.trans G).trans p).ts).up (by lia)
     ·rw[if_neg (Qu c)]at I;refine⟨J[i],y,v,ms[i],g,rfl,(hks i (by lia) fh).tk ((t.trans G).trans p).ts,hx.tk ((t.trans G).trans p).ts,λr q R o=>u R ?_⟩;rw[I];exact o
   ·rintro τ H3 ⟨v0,v1,b,rfl,q1,q2,q3,G⟩;rw[HM]at q2;have vd:=t.trans G;refine⟨.ref a,f,J,b,D,rfl,sh.tk vd.ts,ok,q1,by lia,λr H4 p ZX=>k r H4 (vd.trans p) ?_⟩;rw[kh,if_neg K1,show n'+1+e=(n'+e)+1 by lia];exact .mk ZX ok (by lia) λj h1 h2=>(q3 j h1 h2).tk p.ts
inductive E_ (d:Nat)(vs:Qbi)(H:Hp)(Q:VK)(b_:XK):Prop
 |mk (v:V) (m:Mr):vs=[v]->bf H d v m->(∀r Z,aa H Z->(match wl m with|none=>r=.ao|some c=>bf Z (2*d) r c)->Q r Z)->E_ d vs H Q b_
theorem oE(z:Str):∀(ws:Qa8)(a:Qbi),ws.length=a.length->fu ((ws.map (Sum.inr:Str->Key)).zip a) (.inr z)=(ws.idxOf? z).bind (a[·]?)
 | [],a,_=>rfl
 |w::ws,v::a,h=>by
  have ih:=oE z ws a (by simpa using h);rw[List.idxOf?_cons,Qab,List.zip_cons_cons];by_cases e:w=z
  ·subst e;rw[cI rfl];simp
  ·rw[cH (by intro q;exact e (Sum.inr.inj q)),ih];have:(w==z)=false:=by simpa using e
   simp only[this,QaM,if_false];cases ws.idxOf? z<;>simp
theorem yF(c:ws.Nodup){a:Qbi}(d:i<ws.length)(b:a.length=i)(x:V):putK (((ws.take i).map (Sum.inr:Str->Key)).zip a) (.inr ws[i]) x=((ws.take (i+1)).map (Sum.inr:Str->Key)).zip (a++[x]):=by
 have f:(ws.take i).idxOf? ws[i]=none:=by
  rw[List.idxOf?_eq_none_iff];intro h;obtain⟨j,hj,e⟩:=Qi h;rw[QaJ]at e;have:=(List.getElem_inj c).mp e;simp at hj
  lia
 rw[u7]
 ·rw[Qs,Qa d,Qm,List.zip_append (by simp[b];lia)];rfl
 ·rw[oE _ _ _ (by simp[b];lia),f];rfl
theorem nO(T:Txt K mg w)(d:Nat):aq P w K mg base (d+4) "done_at_once" ["maker"] (E_ d):=by
 have lI:aq P w K mg base (3+d) "put_in" ["maker","v","value"] (CA d d):=zV T d d;refine T.pD.dh (k:=d+3) bV ?_ ?_
 ·rintro _ _ _ _ ⟨v,m,rfl,_⟩;rfl
 ·rintro f az A ai s H vs Q E hr ⟨v,m,rfl,hm,k⟩;obtain⟨hu,bj,hsz⟩:=c9 hr;refine⟨_,(aE (aQ 1 bV.nd (aN K (zv 0) aF))
   (aE (bF (aK (aZ bj) (zv 1) aG) (aI (aU (aN K (zv 0) aF))) aW)
   (aE (bF (fE (aK (aZ bj) (zv 1) aG) (dD (aK (aZ bj) (aN K (aN K (zv 0) aF) aF) aG))).pt (aI (aU (aR lI hr (aJ (aN K (aN K (zv 0) aF) aF) (aJ (aN K (aN K (zv 0) aF) aF) (aJ (aN K (zv 0) aF) aC)))))) aW)
   (aE (bF (fE (aK (aZ bj) (zv 1) aG) (dD (aK (aZ bj) (aN K (aN K (zv 0) aF) aF) aG))).pt (aE (M_ (i:=2) (own:=["word","part"]) (idx:=[]) (N':=["word","part"]) (d6 bV) rfl (lT K (aN K (aN K (zv 0) aF) aF)) (λ_ _ _ _ _ _=>(dN K (n:=2) rfl (bA (cD 0) (bA (cD 1) cP)))) (λ_ _ _ _ _ _=>rA) (λ_ _ _ _ _ _=>(zv 0)) (λ_ _ _ _ _ _=>(zv 1)) bV.nd rfl rfl)
   (aI (aU (VY hu (zv 2) (aN K (zv 0) aF) ⟨rfl,rfl,rfl,rfl⟩)))) aW)
   (aE (bF (fE (aK (aZ bj) (zv 1) aG) (dD (aK (aZ bj) (aN K (aN K (zv 0) aF) aF) aG))).pt (aE (M_ (i:=3) (own:=["word","v","inner"]) (idx:=[]) (N':=["word","v","inner"]) (d6 bV) rfl (lT K (aN K (zv 0) aF)) (λ_ _ _ _ _ _=>(dN K (n:=3) rfl (bA (cD 0) (bA (cD 1) (bA (cD 2) cP))))) (λ_ _ _ _ _ _=>rA) (λ_ _ _ _ _ _=>(zv 0)) (λ_ _ _ _ _ _=>(aL (aD (zv 1) (aD (zv 2) aC)))) bV.nd rfl rfl)
   (aI (bF (aK (Vt hu) (aN K (aN K (zv 0) aF) aF) (zv 3) rfl) (aE (i6 (jV hu (zv 3) (aN K (aN K (zv 0) aF) aF)) (dN K (n:=2) rfl (bA (bS 4 bV.nd) (bA (bS 5 bV.nd) cP))))
   (aI (aU (aR lI hr (aD (zv 5) (aD (zv 4) (aJ (aN K (aN K (zv 0) aF) aF) aC))))))) aW))) aW)
   (aI (aU f8))))))),?_⟩
  obtain⟨n,J,en,sh,ok,dj,hks⟩:=hm.out;obtain⟨f,ms⟩:=m;dsimp only[Mr.f,Mr.ks]at sh ok dj hks;obtain⟨a,ys,rfl,ea⟩:=sh.ref;have hl:=sh.len;refine aM ⟨_,.str f.au,.inr (ae.of ea),aV _ _,?_⟩
  (try dsimp only)
  by_cases hb:f.au≠"hold"/\f.au≠"call"/\f.au≠"part"/\f.au≠"split"
  ·obtain⟨b1,b2,b3,b4⟩:=hb;have nb:∀{z:Str},f.au≠z->¬(false^^decide (V.str f.au=V.str z))=true:=λh c=>absurd (V.str.inj (Qt ((QE _).symm.trans c))) h;refine⟨rfl,_,rfl,aj (λc=>absurd c (nb b1)) (λ_=>aO ?_)⟩;refine⟨rfl,_,rfl,aj (λc=>absurd c (nb b2)) (λ_=>gf (aO ?_))⟩;refine⟨rfl,_,rfl,aj (λc=>absurd c (nb b3)) (λ_=>gf (aO ?_))⟩;refine⟨rfl,_,rfl,aj (λc=>absurd c (nb b4)) (λ_=>gf (bD ?_))⟩;refine k _ _ (aa.refl _) ?_;cases f<;>first|rfl|exact absurd rfl b1|exact absurd rfl b2|exact absurd rfl b3|exact absurd rfl b4
  cases sh with
  | @hold a m z e=>
   simp only[a_.au];refine⟨rfl,_,rfl,aj (λ_=>?_) (λc=>absurd c (by decide+kernel))⟩;obtain⟨q,rfl⟩:=qm dj.symm;exact⟨_,m,.inr (ae.of e),rfl,k _ _ (aa.refl _) ((hks 0 (by simp) (by simp)).up (by lia))⟩
  | @call a x0 x1 e=>
   simp only[a_.au];refine⟨rfl,_,rfl,aj (λc=>absurd c (by decide+kernel)) (λ_=>aO ?_)⟩;refine⟨rfl,_,rfl,aj (λ_=>?_) (λc=>absurd c (by decide+kernel))⟩;obtain⟨q,m1,rfl⟩:=Bw dj.symm;have h0:bf H n x0 q:=hks 0 (by simp) (by simp);have h1:bf H n x1 m1:=hks 1 (by simp) (by simp);obtain⟨n0,qc,Fb,jp,vf,rj,oq⟩:=h0.out;obtain⟨f0,lz⟩:=q;dsimp only[Mr.f,Mr.ks]at jp vf rj oq;obtain⟨a0,Fc,rfl,yq⟩:=jp.ref;refine⟨_,_,.inr (ae.of e),rfl,_,_,.inr (ae.of yq),aV _ _,⟨rfl,_,rfl,?_⟩⟩;by_cases hf:f0.au="fn"
   ·rw[hf];refine aj (λ_=>?_) (λc=>absurd c (by decide+kernel));cases jp with
    | @fn a0 y r0 b0 e0=>
     obtain⟨mb,rfl⟩:=qm rj.symm;refine⟨_,_,.inr (ae.of e),rfl,_,b0,.inr (ae.of e0),rfl,_,_,.inr (ae.of e),rfl,_,.str y,.inr (ae.of e0),rfl,_,x1,.inr (ae.of e),rfl,?_⟩;refine⟨b0,x1,y,mb,m1,rfl,(oq 0 (by simp) (by simp)).up (by lia),h1.up (by lia),λr C u ag=>k r C u ?_⟩;show bf C (2*d) r (kh y m1 mb);rw[show 2*d=d+d by lia];exact ag
    |_=>exact absurd hf (by simp only[a_.au];decide+kernel)
   ·refine aj (λc=>absurd (V.str.inj (Qt ((QE _).symm.trans c))) hf) (λ_=>aO ?_);refine⟨rfl,_,rfl,aj (λc=>absurd c (by decide+kernel)) (λ_=>gf (aO ?_))⟩;refine⟨rfl,_,rfl,aj (λc=>absurd c (by decide+kernel)) (λ_=>gf (bD ?_))⟩;refine k _ _ (aa.refl _) ?_;cases f0<;>first|rfl|exact absurd rfl hf
  | @part a x0 z e=>
   simp only[a_.au];refine⟨rfl,_,rfl,aj (λc=>absurd c (by decide+kernel)) (λ_=>aO ?_)⟩;refine⟨rfl,_,rfl,aj (λc=>absurd c (by decide+kernel)) (λ_=>gf (aO ?_))⟩;refine⟨rfl,_,rfl,aj (λ_=>?_) (λc=>absurd c (by decide+kernel))⟩;obtain⟨q,rfl⟩:=qm dj.symm;have h0:bf H n x0 q:=hks 0 (by simp) (by simp);obtain⟨n0,qc,Fb,jp,vf,rj,oq⟩:=h0.out;obtain⟨f0,lz⟩:=q;dsimp only[Mr.f,Mr.ks]at jp vf rj oq;obtain⟨a0,Fc,rfl,yq⟩:=jp.ref;refine⟨_,_,.inr (ae.of e),rfl,_,_,.inr (ae.of yq),aV _ _,⟨rfl,_,rfl,?_⟩⟩;by_cases hf:f0.au="box"
   ·rw[hf];refine aj (λ_=>?_) (λc=>absurd c (by decide+kernel));cases jp with
    | @dw a0 b0 ws B qc e0 e1 rm=>
     obtain⟨nd,_,jx⟩:=vf;have f_:=rm.l1;have iz:=rm.l2;have jt:(d_ ws).length=ws.length:=by simp[d_]
     refine aT (λG C=>X4 λD v3 v4 v5=>G=[af a,cg "part",af D,v3,v4,v5]/\C D=Cf ((ws.map (Sum.inr:Str->Key)).zip qc)/\aa H C) ?_ ?_
     ·intro nx ay;refine⟨_,_,.inr (ae.of e),rfl,_,.ref b0,.inr (ae.of e0),rfl,Or.inr ⟨⟨B,ae.of e1⟩,λD hD=>?_⟩⟩;refine M6 (dA B) (λi N p=>p D=Cf (((ws.take i).map (Sum.inr:Str->Key)).zip (qc.take i))/\aa H p/\X2 λy v1=>N=[y,v1]) ⟨aB,aa.upd hD _,none,none,rfl⟩ (λi N p _ h=>ae.of (h.2.1 _ _ e1)) ?_ ?_
      ·rintro i N p R ⟨L,I,y,v1,rfl⟩;obtain⟨c,r1,r2⟩:=rm.at_ i R (by lia) (by lia)
       have eg:B.getD i .ao=.ref c:=eJ R r1;rw[eg];simp only[d_,Qr]at r2;refine iN (I _ _ r2) ?_;refine⟨_,.inr (ws[i]'(by lia)),rfl,L,by simp;lia,?_,I.put hD,_,_,rfl⟩;rw[aB,yF nd (by lia) (by simp;lia),Qs (l:=qc),Qa (show i<qc.length by lia)];rfl
      ·rintro N p ⟨L,I,y,v1,rfl⟩;rw[qQ (by lia),qQ (by lia)]at L;exact ay _ _ ⟨D,_,_,_,rfl,L,I⟩
     ·rintro G C ⟨D,v3,v4,v5,rfl,gD,u⟩;refine⟨D,rfl,(.inl ⟨_,.inl gD⟩),_,.str z,.inr (ae.of (u _ _ e)),rfl,_,k_.k (k:=.inr z) gD,?_⟩;refine k _ _ u ?_;rw[oE _ _ _ (by lia)];show(match(ws.idxOf? z).bind (λi=>lz[i]?)with|none=>_|some c=>_);cases hz:ws.idxOf? z with
      |none=>rfl
      |some i=>
       have R:i<ws.length:=by
        rw[QaT]at hz;exact hz.1
       simp only[Qao];rw[Qa (show i<lz.length by lia),Qa (show i<qc.length by lia)];exact((oq i (by lia) (by lia)).tk u.ts).up (by lia)
    |_=>exact absurd hf (by simp only[a_.au];decide+kernel)
   ·refine aj (λc=>absurd (V.str.inj (Qt ((QE _).symm.trans c))) hf) (λ_=>aO ?_);refine⟨rfl,_,rfl,aj (λc=>absurd c (by decide+kernel)) (λ_=>gf (bD ?_))⟩;refine k _ _ (aa.refl _) ?_;cases f0<;>first|rfl|exact absurd rfl hf
  | @split a b cs x0 B ps e e1 rm=>
   simp only[a_.au];refine⟨rfl,_,rfl,aj (λc=>absurd c (by decide+kernel)) (λ_=>aO ?_)⟩;refine⟨rfl,_,rfl,aj (λc=>absurd c (by decide+kernel)) (λ_=>gf (aO ?_))⟩;refine⟨rfl,_,rfl,aj (λc=>absurd c (by decide+kernel)) (λ_=>gf (aO ?_))⟩;refine⟨rfl,_,rfl,aj (λ_=>?_) (λc=>absurd c (by decide+kernel))⟩;obtain⟨q,ou,rfl⟩:X2 λq ou=>ms=q::ou:=by
    cases ms with
    |nil=>simp at dj
    |cons q ou=>exact⟨_,_,rfl⟩
   have h0:bf H n x0 q:=hks 0 (by simp) (by simp);obtain⟨n0,qc,Fb,jp,vf,rj,oq⟩:=h0.out;obtain⟨f0,lz⟩:=q;dsimp only[Mr.f,Mr.ks]at jp vf rj oq;obtain⟨a0,Fc,rfl,yq⟩:=jp.ref;refine⟨_,_,.inr (ae.of e),rfl,_,_,.inr (ae.of yq),aV _ _,⟨rfl,_,rfl,?_⟩⟩;by_cases hf:f0.au="pick"
   ·rw[hf];refine aj (λ_=>?_) (λc=>absurd c (by decide+kernel));cases jp with
    | @pick a0 z x e0=>
     obtain⟨mx,rfl⟩:=qm rj.symm;obtain⟨nd,_,jx⟩:=ok;have f_:=rm.l1;have iz:=rm.l2;have jt:(fm cs).length=cs.length:=by simp[fm]
     have Pf:ps.length=ou.length:=by simpa using dj
     refine aT (λG C=>X5 λD v2 v4 v5 g=>G=[af a,cg "split",v2,af D,v4,v5]/\C D=some (.dK (((cs.map (·.1)).map (Sum.inr:Str->Key)).zip g))/\g.length=cs.length/\(∀j(h:j<g.length)(h1:j<cs.length)(h2:j<ps.length),∃c,g[j]=.ref c/\C c=bw [.str cs[j].2,ps[j]])/\aa H C) ?_ ?_
     ·intro nx ay;refine⟨_,.ref b,.inr (ae.of e),rfl,Or.inr ⟨⟨B,ae.of e1⟩,λD hD=>?_⟩⟩;refine M6 (dA B) (λi N p=>X4 λg y v1 v2=>N=[y,v1,v2]/\p D=some (.dK ((((cs.map (·.1)).take i).map (Sum.inr:Str->Key)).zip g))/\g.length=i/\(∀j(h:j<g.length)(h1:j<cs.length)(h2:j<ps.length),∃c,g[j]=.ref c/\p c=bw [.str cs[j].2,ps[j]])/\aa H p) ⟨[],none,none,none,rfl,aB,rfl,λj h=>absurd h (by simp),aa.upd hD _⟩ (by rintro i N p _ ⟨_,_,_,_,_,_,_,_,h⟩;exact ae.of (h _ _ e1)) ?_ ?_
      ·rintro i N p R ⟨g,y,v1,v2,rfl,L,I,q3,q4⟩;have fh:i<cs.length:=by lia
       obtain⟨c,r1,r2⟩:=rm.at_ i R (by lia) (by lia)
       have eg:B.getD i .ao=.ref c:=eJ R r1;rw[eg];simp only[fm,Qr]at r2;refine KS (ae.of (q4 _ _ r2)) ?_;refine⟨bx,λt ht=>?_⟩;have s4:=aa.upd ht (.tup [.str (cs[i]'(by lia)).2,ps[i]'(by lia)]);have gt:upd p t (.tup [.str (cs[i]'(by lia)).2,ps[i]'(by lia)]) t=bw [.str (cs[i]'(by lia)).2,ps[i]'(by lia)]:=aB;generalize upd p t (.tup [.str (cs[i]'(by lia)).2,ps[i]'(by lia)])=H4 at s4 gt;have g4:=s4 _ _ L;have zl:((((cs.map (·.1)).take i).map (Sum.inr:Str->Key)).zip g).length<sizeLine:=by simp;lia
       generalize ZY:(((cs.map (·.1)).take i).map (Sum.inr:Str->Key)).zip g=al at g4 L zl;have tk:∀o,Tk H4 (upd H4 D (.dK o)):=λo=>(Tk.refl).set g4 λ_ z=>nomatch z;refine⟨al,.inr (cs[i]'(by lia)).1,rfl,g4,zl,g++[.ref t],_,_,_,rfl,?_,by simp[I],λj h h1 h2=>?_,(q4.trans s4).put hD⟩
       ·rw[aB,<- ZY];have:=yF (ws:=cs.map (·.1)) nd (i:=i) (by simpa using fh) I (.ref t);rw[Qr]at this;rw[this]
       ·by_cases hj:j<g.length
        ·rw[Qe hj];obtain⟨c,c1,c2⟩:=q3 j hj h1 h2;exact⟨c,c1,tk _ _ _ (s4 _ _ c2)⟩
        ·obtain rfl:j=i:=by simp at h;lia
         rw[Qf (by lia)];exact⟨t,by simp[I],tk _ _ _ gt⟩
      ·rintro N p ⟨g,y,v1,v2,rfl,L,I,q3,q4⟩;rw[qQ (by simp;lia)]at L;exact ay _ _ ⟨D,_,_,_,g,rfl,L,by lia,q3,q4⟩
     ·rintro G C ⟨D,v2,v4,v5,g,rfl,gD,I,q3,u⟩;have qg:=oE z (cs.map (·.1)) g (by simp[I]);have e':=u _ _ e;have K3:=u _ _ e0;refine⟨_,_,.inr (ae.of e'),rfl,_,.str z,.inr (ae.of K3),rfl,D,_,rfl,k_.k (k:=.inr z) gD,_,rfl,?_⟩;rw[QE,qg];have ec:wl (.mk (.split cs) (.mk (.pick z) [mx]::ou))=((cs.map (·.1)).idxOf? z).bind λi=>(cs[i]?).bind λc=>(ou[i]?).map λb=>kh c.2 mx b:=rfl;cases hz:(cs.map (·.1)).idxOf? z with
      |none=>
       refine aj (λc=>nomatch c) (λ_=>bD ?_);refine k _ _ u ?_;rw[ec,hz];rfl
      |some i=>
       have R:i<cs.length:=by
        rw[QaT]at hz;simpa using hz.1
       obtain⟨c,c1,c2⟩:=q3 i (by lia) R (by lia);have hg:(some i).bind (λx=>g[x]?)=af c:=by
        rw[Qao,Qa (show i<g.length by lia),c1]
       rw[hz,hg]at qg;rw[hg];refine aj (λ_=>?_) (λc=>nomatch c);refine⟨_,_,.inr (ae.of e'),rfl,_,.str z,.inr (ae.of K3),rfl,D,.ref c,rfl,by have:=k_.k (k:=.inr z) gD;rw[qg]at this;exact this,?_⟩;refine iN c2 ?_;refine⟨_,_,.inr (ae.of e'),rfl,_,x,.inr (ae.of K3),rfl,?_⟩;have K4:i<ou.length:=by lia
       have ah:=hks (i+1) (by simp;lia) (by simp;lia);simp only[List.getElem_cons_succ]at ah;refine⟨_,x,_,ou[i],mx,rfl,(ah.tk u.ts).up (by lia),((oq 0 (by simp) (by simp)).tk u.ts).up (by lia),λr H2 s2 ag=>k r H2 (u.trans s2) ?_⟩;rw[ec,hz];simp only[Qao];rw[Qa R,Qa K4];show bf H2 (2*d) r (kh _ mx _);rw[show 2*d=d+d by lia];exact ag
    |_=>exact absurd hf (by simp only[a_.au];decide+kernel)
   ·refine aj (λc=>absurd (V.str.inj (Qt ((QE _).symm.trans c))) hf) (λ_=>bD ?_);refine k _ _ (aa.refl _) ?_;cases f0<;>first|rfl|exact absurd rfl hf
  |_=>exact absurd ⟨by simp only[a_.au];decide+kernel,by simp only[a_.au];decide+kernel,by simp only[a_.au];decide+kernel,by simp only[a_.au];decide+kernel⟩ hb
def jb(p:Qbc):Qbi:=p.map λk:Nat=>.int (k:Int)
inductive HQ (n D:Nat)(vs:Qbi)(H:Hp)(Q:VK)(b_:XK):Prop
 |mk (v o:V) (pa:Addr) (p:Qbc) (m x:Mr) (d e:Nat):vs=[v,.ref pa,o]->H pa=bw (jb p)->p.length<n->bf H d v m->Eu p m->bf H e o x->d<=D->p.length+e<=D->(∀r Z,aa H Z->bf Z D r (jo x p m)->Q r Z)->HQ n D vs H Q b_
theorem uL(T:Txt K mg w):∀n D:Nat,aq P w K mg base (n+2) "replaced" ["maker","place","other"] (HQ n D):=by
 intro n
 induction n with
 |zero=>
  intro D;refine T.pJ.dh (k:=1) jE ?_ ?_
  ·rintro _ _ _ _ ⟨v,o,u,p,m,x,d,e,rfl,_⟩;rfl
  ·rintro f az A b s H vs Q E C ⟨v,o,u,p,m,x,d,e,_,_,h,_⟩;exact absurd h (Nat.not_lt_zero _)
 |succ n ih=>
  intro D;have kK:aq P w K mg base (n+2) "replaced" ["maker","place","other"] (HQ n (D-1)):=ih (D-1);refine T.pJ.dh (k:=n+2) jE ?_ ?_
  ·rintro _ _ _ _ ⟨v,o,u,p,m,x,d,e,rfl,_⟩;rfl
  ·rintro f az A b s H vs Q E C ⟨v,o,u,p,m,x,d,e,rfl,N,hp,hm,pl,ho,hd,he,k⟩;obtain⟨hu,bj,hsz⟩:=c9 C;refine⟨_,(aE (bF (aK (aZ bj) (bY (bR K) T.oh Qae (aD (zv 1) aC)) aF) (aI (aU (zv 2))) aW)
   (aE (aQ 3 jE.nd (aR (cO T) C (aD (zv 0) aC)))
   (aE (i6 (aR kK C (aJ (aN K (zv 3) (aN K (zv 1) aF)) (aJ (cT (lR K) (zv 1) (cU aF) cS) (aD (zv 2) aC)))) (pQ (zv 3) (aN K (zv 1) aF) fF))
   (aI (aU (aR (jD T) C (aD (zv 0) (aD (zv 3) aC)))))))),?_⟩
   cases p with
   |nil=>
    refine Or.inl ⟨_,.inr (ae.of N),⟨rfl,_,rfl,?_⟩⟩;refine aj (λ_=>?_) (λc=>absurd c (by simp[jb]));refine k _ _ (aa.refl _) ?_;rw[jo];exact ho.up (by simpa using he)
   |cons i p=>
    refine Or.inl ⟨_,.inr (ae.of N),⟨rfl,_,rfl,?_⟩⟩;refine aj (λc=>absurd c (by simp[jb];lia)) (λ_=>aO ?_);obtain⟨d',J,rfl,sh,ok,dj,hks⟩:=hm.out;obtain⟨f,ms⟩:=m;obtain⟨y,hy,Fd⟩:=pl;dsimp only[Mr.f,Mr.ks]at sh ok dj hks hy;obtain⟨hi,rfl⟩:=kB.mp hy;have hl:=sh.len;refine aM ⟨v,J,rfl,sh.uc ok,λL H1 hL gL s1=>?_⟩;have R:=s1 _ _ N;refine aT (λG V=>∃r,G=[some v,af u,some o,af L]/\V L=be (J.set i r)/\bf V (D-1) r (jo x p ms[i])/\aa H V) ?_ ?_
    ·intro nx ay;have vh:i<J.length:=by lia
     refine⟨_,.int (i:Int),.inr (ae.of R),aV _ _,_,J[i],.inl (ak.of gL),bU (Qa vh),1,rfl,Or.inr (Or.inr ⟨u,_,rfl,ae.of R,by simp[HT.cf,jb],λq hq=>?_⟩)⟩;have Co:gj (jb (i::p)) (some 1) none=jb p:=by
      simp only[jb,Qab];simp[gj,HT.cf];exact qQ (by simp)
     rw[Co];have a:=aa.upd hq (.tup (jb p));have gq:upd H1 q (.tup (jb p)) q=bw (jb p):=aB;generalize upd H1 q (.tup (jb p))=H2 at a gq;have g:=s1.trans a;simp only[Qac]at hp he;refine⟨J[i],o,q,p,ms[i],x,d',e,rfl,gq,by lia,(hks i vh hi).tk g.ts,Fd,ho.tk g.ts,by lia,by lia,λr I l t=>?_⟩;have AN:=l _ _ (a _ _ gL);have Cq:=l _ _ (a _ _ R);have tk:Tk I (upd I L (.lst (J.set i r))):=(Tk.refl).set AN λ_ z=>nomatch z;refine⟨_,.int (i:Int),.inr (ae.of Cq),aV _ _,L,J,_,i,rfl,rfl,AN,?_,?_⟩
     ·unfold ur;simp[vh]
     ·exact ay _ _ ⟨r,rfl,aB,t.tk tk,(g.trans l).put hL⟩
    ·rintro G H2 ⟨r,rfl,Bm,t,a⟩;refine⟨v,f,J,J.set i r,L,rfl,sh.tk a.ts,ok,Bm,by simp[hl],λv' I l ZZ=>k v' I (a.trans l) ?_⟩;rw[jo];simp only[hy];obtain⟨D',rfl⟩:∃D',D=D'+1:=⟨D-1,by lia⟩
     refine .mk ZZ ok (by simp[dj]) λj h1 h2=>?_;rw[Qap,Qap];by_cases hj:i=j
     ·rw[if_pos hj,if_pos hj];exact t.tk l.ts
     ·rw[if_neg hj,if_neg hj];exact((hks j (by simpa using h1) (by simpa using h2)).tk (a.trans l).ts).up (by lia)
inductive K6 (d:Nat)(vs:Qbi)(H:Hp)(Q:VK)(b_:XK):Prop
 |mk (v:V) (m:Mr):vs=[v]->bf H d v m->av m<=1000000->(∀R Z,aa H Z->(if gx m=true then Z R=bw [.ao,.ao]else ∃pa r,Z R=bw [.ref pa,r]/\Z pa=bw (jb (dz m).1)/\(match(dz m).2 with|none=>r=.ao|some c=>bf Z (2*d) r c))->Q (.ref R) Z)->K6 d vs H Q b_
theorem tF(T:Txt K mg w)(d:Nat)(Z0:d<=1000):aq P w K mg base (d+5) "next_step" ["maker"] (K6 d):=by
 have kZ:aq P w K mg base 2 "is_value" ["maker"] (HP d):=nB T d;have kE:aq P w K mg base 3 "first_to_do" ["maker"] (KU d):=pI T d;have pH:aq P w K mg base (d+4) "done_at_once" ["maker"] (E_ d):=nO T d;refine T.vQ.dh (k:=d+4) d3 ?_ ?_
 ·rintro _ _ _ _ ⟨v,m,rfl,_⟩;rfl
 ·rintro f az A ag s H vs Q E x ⟨v,m,rfl,y,hc,k⟩;obtain⟨hu,bj,hsz⟩:=c9 x;refine⟨_,(aE (bF (lJ (aR kZ x (aD (zv 0) aC))) (aI (aU (aL (aA f8 (aA f8 aC))))) aW)
   (aE (aQ 1 d3.nd (aL aC))
   (aE (aQ 2 d3.nd (aR kE x (aD (zv 0) aC)))
   (aE (iM PassesOwn.never (aK y8 (zv 2) f8) (aE (wD (i:=1) d3.nd rfl (Or.inl rfl) (aL (aD (zv 2) aC)) (Wn K))
   (aE (aQ 0 d3.nd (aN K (aR (cO T) x (aD (zv 0) aC)) (zv 2)))
   (aI (aQ 2 d3.nd (aR kE x (aD (zv 0) aC)))))))
   (aI (aU (aL (aD (zv 1) (bB (aR pH x (aD (zv 0) aC)) aC))))))))),?_⟩
  refine⟨v,m,rfl,y,hc,λH1 s1=>⟨_,rfl,aj (λc=>?_) (λc=>aO ?_)⟩⟩
  ·refine⟨bx,λR hR=>k R _ (s1.trans (aa.upd hR _)) ?_⟩;rw[if_pos c];exact aB
  simp only[c,QaM,if_false]at k;refine aM ⟨ki,λD K7=>?_⟩;have s2:=aa.upd K7 (.tup []);have DL:upd H1 D (.tup []) D=bw []:=aB
  (try dsimp only)
  generalize upd H1 D (.tup [])=H2 at s2 DL;refine aM ⟨v,m,rfl,y.tk (s1.trans s2).ts,hc,λH3 s3=>?_⟩;have vd:=(s1.trans s2).trans s3
  (try dsimp only)
  refine aT (λb e=>X5 fun(g:V)(a:Mr)(j:Addr)(q:Qbc)(v2:Qbj)=>b=[some g,af j,v2]/\e j=bw (jb q)/\bf e d g a/\nj a=none/\dz m=(q,wl a)/\aa H e) ?_ ?_
  ·intro nx ay;refine⟨λn b e=>X4 fun(g:V)(a:Mr)(j:Addr)(q:Qbc)=>b=[some g,af j,some (DK (nj a))]/\e j=bw (jb q)/\bf e d g a/\n=di a/\q.length+di a<=d/\av a<=1000000/\dz m=(q++(dz a).1,(dz a).2)/\aa H e,⟨_,v,m,D,[],rfl,s3 _ _ DL,y.tk vd.ts,rfl,by simpa using y.dep,hc,rfl,vd⟩,?_⟩;rintro n b H4 ⟨g,a,j,q,rfl,G,l,rfl,hq,vt,z,I⟩;cases C:nj a with
   |none=>
    refine⟨_,rfl,aj (λc=>absurd c (by decide)) (λ_=>?_)⟩;refine ay _ _ ⟨g,a,j,q,_,rfl,G,l,C,?_,I⟩;rw[z,k8 C];simp
   |some i=>
    refine⟨_,rfl,aj (λ_=>?_) (λc=>absurd c (by simp[DK]))⟩;obtain⟨hi,_⟩:=tN C;refine⟨λb e=>∃n',n'<di a/\X4 fun(g:V)(a:Mr)(j:Addr)(q:Qbc)=>b=[some g,af j,some (DK (nj a))]/\e j=bw (jb q)/\bf e d g a/\n'=di a/\q.length+di a<=d/\av a<=1000000/\dz m=(q++(dz a).1,(dz a).2)/\aa H e,λb e h=>h,?_⟩;have Gn:=y.dep;refine aT (λb e=>∃N,b=[some g,af N,bg (i:Int)]/\e N=bw (jb (q++[i]))/\aa H4 e) ?_ ?_
    ·intro ky vm;refine⟨_,rfl,ik,λt ht=>?_⟩;have p:=aa.upd ht (.tup [DK (some i)]);refine M7 (p _ _ G) aB (by simp[jb];lia) λc H6 u e6=>?_;refine vm _ _ ⟨c,rfl,?_,p.trans u⟩;rw[e6];simp[jb,DK]
    ·rintro b H5 ⟨N,rfl,Z1,p⟩;obtain⟨J,sh,ok,hks⟩:=l.kids;have dj:=hks.len;refine aM ⟨g,J,rfl,(sh.uc ok).tk p.ts,λL H6 hL gL u=>?_⟩;have Pg:=p.trans u;have vh:i<J.length:=by lia
     refine⟨_,J[i],.inl (ak.of gL),bU (Qa vh),?_⟩;have DM:=(hks.at_ i vh hi).tk Pg.ts;have jr:av a.ks[i]<=1000000:=by
      have h1:=mV (Qj hi);have h2:av a=1+br a.ks:=by cases a;rw[av];rfl
      lia
     have ah:di a.ks[i]+1<=di a:=by
      have h1:=dL (Qj hi);have h2:di a=1+lj a.ks:=by cases a;rw[di];rfl
      lia
     (try dsimp only)
     refine⟨J[i],a.ks[i],rfl,DM,jr,λH7 s7=>?_⟩;refine⟨_,?_,J[i],a.ks[i],N,q++[i],rfl,s7 _ _ (u _ _ Z1),DM.tk s7.ts,rfl,?_,jr,?_,(I.trans Pg).trans s7⟩
     ·lia
     ·simp;lia
     ·rw[z,k9 C hi];simp
  ·rintro b H4 ⟨g,a,j,q,v2,rfl,G,l,C,z,I⟩;refine⟨g,a,rfl,l,λr H5 p o=>⟨bx,λR hR=>?_⟩⟩;have u:=aa.upd hR (.tup [.ref j,r]);refine k R _ ((I.trans p).trans u) ⟨j,r,aB,?_,?_⟩
   ·rw[z];exact u _ _ (p _ _ G)
   ·rw[z];simp only[];cases K8:wl a with
    |none=>rw[K8]at o;exact o
    |some c=>rw[K8]at o;exact o.tk u.ts
inductive K9 (vs:Qbi)(H:Hp)(Q:VK)(b_:XK):Prop
 |mk (e:Addr) (i:Nat):vs=[.ref e,.int i]->i<1000000000->H e=some (ku (adr mg "TooMany") none e)->(∀dx,H dx=none->Q .ao (upd (upd H e (ku (adr mg "TooMany") (some dx) e)) dx (.xd [("many",.int i)])))->K9 vs H Q b_
theorem nQ(T:Txt K mg w):JN P w K mg base 1 "TooMany" ["self","many"] (K9 (mg:=mg)):=by
 refine T.Ci.dh nM (λb H Q E h=>?_) (λf g A a s H b Q E j h=>?_)
 ·obtain⟨e,i,rfl,_⟩:=h;rfl
 ·obtain⟨e,i,rfl,hi,he,k⟩:=h;refine⟨_,(aE (cE (Xu K T.J7 (aD (zv 0) (aA aG aC))))
   (aI (Xv K (zv 0) (zv 1)))),?_⟩
  refine⟨e,_,none,_,rfl,by simp,T.Ci.at_,he,?_⟩;exact⟨e,_,rfl,he,T.Ci.at_,T.Ci.na _ (by simp),λc d=>k c d⟩
structure vn(H:Hp)(d:Nat)(ws:Qbi)(st:List (Mr×Nat)):Prop where
 len:ws.length=st.length
 at_:∀i(h:i<ws.length)(O:i<st.length),∃c x,ws[i]=.ref c/\H c=some (.tup [x,.int ((st[i].2+1:Nat):Int)])/\bf H d x st[i].1
theorem vn.tk{H Z:Hp}{d:Nat}{ws:Qbi}{st:List (Mr×Nat)}(h:vn H d ws st)(s:Tk H Z):vn Z d ws st:=⟨h.len,λi a b=>let ⟨c,x,h1,h2,h3⟩:=h.at_ i a b;⟨c,x,h1,s _ _ h2,h3.tk s⟩⟩
theorem vn.app{ws us:Qbi}{st c:List (Mr×Nat)}(h1:vn H d ws st)(h2:vn H d us c):vn H d (ws++us) (st++c):=by
 have e:=h1.len;refine⟨by simp[h1.len,h2.len],λi a b=>?_⟩;by_cases h:i<ws.length
 ·rw[Qe h,Qe (by lia)];exact h1.at_ i h (by lia)
 ·rw[Qf (by lia),Qf (by lia)];simp only[<- e];exact h2.at_ _ (by simp at a;lia) (by have:=h2.len;simp at a;lia)
theorem vn.last{ws:Qbi}{st:List (Mr×Nat)}(h:vn H d ws st)(j:ws≠[]):∃gw e c x m k,ws=gw++[.ref c]/\st=e++[(m,k)]/\vn H d gw e/\H c=some (.tup [x,.int ((k+1:Nat):Int)])/\bf H d x m:=by
 have g:=h.len;have l:0<ws.length:=List.length_pos_iff.mpr j;rcases Qa4 ws with z|⟨gw,v,rfl⟩
 ·exact absurd z j
 rcases Qa4 st with rfl|⟨e,m,rfl⟩
 ·rw[g]at l;exact absurd l (by simp)
 rw[Qa5]at g h⊢;rw[Qa5]at g h⊢;have f:gw.length=e.length:=by simpa using g
 obtain⟨c,x,e1,e2,e3⟩:∃c x,v=.ref c/\H c=some (.tup [x,.int ((m.2+1:Nat):Int)])/\bf H d x m.1:=by
  have:=h.at_ gw.length (by simp) (by simp;lia)
  rw[Qf (Qy _),Qf (by lia)]at this;simpa[f]using this
 subst e1;refine⟨gw,e,c,x,m.1,m.2,rfl,rfl,⟨f,λi a b=>?_⟩,e2,e3⟩;have:=h.at_ i (by simp;lia) (by simp;lia)
 rwa [Qe a,Qe b]at this
def rq(st:List (Mr×Nat)):Nat:=br (st.map (·.1))
def um:List (Mr×Nat)->Nat
 | []=>0
 |(m,k)::l=>max (k+di m) (um l)
theorem oP:∀a b:List (Mr×Nat),um (a++b)=max (um a) (um b)
 | [],b=>by simp[um]
 |(m,k)::a,b=>by simp[um,oP a b,Nat.max_assoc]
theorem rK(k:Nat):∀J:List Mr,max (k+1) (um (J.map λm=>(m,k+1)))=k+1+lj J
 | []=>by simp[um,lj]
 |m::J=>by
  have:=rK k J;simp only[Qab,um,lj];rw[Nat.max_left_comm,this,Nat.add_max_add_left]
theorem yT{v:V}{u:TS}(h:u D ((σ.set i (some v)).set j (some v)) H):vy (sf (tC v) (Ng (jk i) (jk j))) u D σ H:=h
def AO(mg:Str->Qbb)(H:Hp)(E:XK)(n:Nat):Prop:=∀e dx Z,aa H Z->Z e=some (nq (adr mg "TooMany") (some dx) e)->Z dx=some (.xd [("many",.int n)])->E (.ref e) (some dx) Z
inductive K_ (d:Nat)(vs:Qbi)(H:Hp)(Q:VK)(E:XK):Prop
 |mk (v:V) (m:Mr):vs=[v]->bf H d v m->av m<=1000000->(av m<=400->di m<=40->∀Z,aa H Z->Q .ao Z)->(400<av m->AO mg H E 400)->(av m<=400->40<di m->AO mg H E 40)->K_ d vs H Q E
theorem vH{h:Hp}{E:XK}(i:n<1000000000)(s1:aa H h)(k:AO mg H E n):JM (adr mg "TooMany") (K9 (mg:=mg)) (cy (tC (.int (n:Int))) ip) E D σ h:=by
 refine⟨by simp,λe j=>⟨e,n,rfl,i,aB,λc d=>?_⟩⟩;have f:c≠e:=λz=>by rw[z,aB]at d;cases d
 rw[aS f]at d;refine⟨rfl,some c,by rw[aS f.symm,aB],?_⟩;refine k e c _ (s1.trans λb o a=>?_) aB (by rw[aS f,aB]);have g:b≠e:=λz=>by rw[z,j]at a;cases a
 have l:b≠c:=λz=>by rw[z,d]at a;cases a
 rw[aS g,aS l,aS g,aS g];exact a
theorem nY(T:Txt K mg w)(d:Nat):Bd P w K mg base 3 "refuse_large" ["maker"] (K_ (mg:=mg) d):=by
 have rL:=nQ (P:=P) (w:=w) (base:=base) T;refine T.pS.NB bL (λvs H Q E h=>?_) (λf az A ag s H vs Q E V h=>?_)
 ·obtain⟨v,m,rfl,_⟩:=h;rfl
 ·obtain⟨v,m,rfl,hm,hc,k1,k2,k3⟩:=h;obtain⟨hu,bj,hsz⟩:=c9 V;refine⟨_,(aE (aQ 1 bL.nd (bK (aH (aL (aD (zv 0) (aA aF aC))) aC)))
   (aE (Wo aF (bS 2 bL.nd) (bS 3 bL.nd))
   (aE (iM PassesOwn.leaving (xV K (zv 1)) (aE (i6 (M9 K QH PySem.F.slot_list_pop PySem.F.type_list_pop Mk (zv 1)) (dN K (n:=2) rfl (bA (bS 4 bL.nd) (bA (bS 5 bL.nd) cP))))
   (aE (wD (i:=2) bL.nd rfl (Or.inl rfl) aF tZ)
   (aE (bF (aK gK (zv 2) (wP T.kC)) (aI (uJ rL (V.mono (by decide)) (aD (wP T.kC) aC))) aW)
   (aE (aQ 3 bL.nd (bY (zI rfl) T.NU PyProof.Rows.boot_max (aD (zv 3) (aD (zv 5) aC))))
   (aI (cE (gT K QH PySem.F.slot_list_extend PySem.F.type_list_extend lY (zv 1) (cG (iB ["inner"] [5] ["inner","deep"] (d6 bL) (lT K (aR (cO T) V (aD (zv 4) aC))) (λ_ _ _ _ _ _=>(cD 0)) (λ_ _ _ _ _ _=>(aL (aD (zv 0) (cJ (bN bT (zv 1) aF) aC))))) aC)))))))))
   (aI (bF (aK gK (zv 3) (wP T.kF)) (aI (uJ rL (V.mono (by decide)) (aD (wP T.kF) aC))) aW))))),?_⟩
  refine aM ⟨bx,λq Z2=>⟨ik,λW hW=>?_⟩⟩;have s1:=aa.upd Z2 (.tup [v,.int 1]);have gc:upd H q (.tup [v,.int 1]) q=bw [v,.int 1]:=aB;generalize upd H q (.tup [v,.int 1])=H1 at s1 gc hW;have s2:=aa.upd hW (.lst [.ref q]);have gW:upd H1 W (.lst [.ref q]) W=be [.ref q]:=aB;have fW:H W=none:=s1.free hW
  (try dsimp only)
  generalize upd H1 W (.lst [.ref q])=H2 at s2 gW;refine yT ?_;refine aT (λe g=>X2 fun(x C:Qbj)=>e=[some v,af W,bg (av m:Int),bg (di m:Int),x,C]/\av m<=400/\aa H g) ?_ ?_
  rotate_left
  ·rintro e g ⟨x,C,rfl,h4,s'⟩;refine⟨_,rfl,aj (λc=>?_) (λc=>?_)⟩
   ·have:=Qt c;exact vH (n:=40) (by lia) s' (k3 h4 (by lia))
   ·have:=Qu c;exact k1 h4 (by lia) g s'
  intro nx ay;refine⟨λn e g=>X6 fun(r:Qbi)(st:List (Mr×Nat))(many l:Nat)(x C:Qbj)=>e=[some v,af W,bg (many:Int),bg (l:Int),x,C]/\n=rq st/\g W=be r/\vn g d r st/\many+rq st=av m/\max l (um st)=di m/\many<=400/\aa H g,⟨_,[.ref q],[(m,0)],0,0,none,none,rfl,rfl,gW,⟨rfl,λi a b=>?_⟩,?_,?_,by lia,s1.trans s2⟩,?_⟩
  ·obtain rfl:i=0:=by simp at a;lia
   exact⟨q,v,rfl,s2 _ _ gc,hm.tk (s1.trans s2).ts⟩
  ·simp[rq,br]
  ·simp[um]
  rintro n e I ⟨r,st,many,l,x,C,rfl,rfl,g3,N,Ph,HR,h4,s3⟩;refine⟨!r.isEmpty,.inl ⟨r,ak.of g3,rfl⟩,aj (λc=>?_) (λc=>?_)⟩
  rotate_left
  ·have:r=[]:=by simpa using c
   subst this;have:st=[]:=QaK.mp N.len.symm;subst this;have e1:many=av m:=by simpa[rq,br]using Ph
   have e2:l=di m:=by simpa[um]using HR
   subst e1 e2;exact ay _ _ ⟨_,_,rfl,h4,s3⟩
  obtain⟨gw,st',c1,y,m1,k,rfl,rfl,Dl,e2,e3⟩:=N.last (by intro z;rw[z]at c;cases c);have KR:av m1=1+br m1.ks:=by cases m1;rw[av];rfl
  have ah:di m1=1+lj m1.ks:=by cases m1;rw[di];rfl
  have Z3:rq (st'++[(m1,k)])=rq st'+(1+br m1.ks):=by
   unfold rq;rw[Qm,eI,Qab,List.map_nil,br,br,KR]
   lia
  rw[Z3]at Ph⊢;rw[oP]at HR;refine⟨λe g=>∃n',n'<rq st'+(1+br m1.ks)/\X6 fun(r:Qbi)(st:List (Mr×Nat))(many l:Nat)(x C:Qbj)=>e=[some v,af W,bg (many:Int),bg (l:Int),x,C]/\n'=rq st/\g W=be r/\vn g d r st/\many+rq st=av m/\max l (um st)=di m/\many<=400/\aa H g,λe g h=>h,?_⟩;have DJ:Tk I (upd I W (.lst gw)):=(Tk.refl).set g3 (by intro _ z;cases z);refine aT (λe g=>e=[some v,af W,bg (many:Int),bg (l:Int),some y,bg ((k+1:Nat):Int)]/\g=upd I W (.lst gw)) (λky vm=>?_) ?_
  ·refine⟨.inl ⟨rfl,_,ak.of g3⟩,W,_,.ref c1,rfl,rfl,g3,by simp,?_⟩;rw[List.dropLast_concat];exact iN (DJ _ _ e2) (vm _ _ ⟨rfl,rfl⟩)
  rintro e _ ⟨rfl,rfl⟩;have g4:upd I W (.lst gw) W=be gw:=aB;have s4:=s3.put (o:=.lst gw) fW;have La:=Dl.tk DJ;have E9:=e3.tk DJ;generalize upd I W (.lst gw)=H4 at g4 s4 La E9;refine aT (λe g=>e=[some v,af W,bg ((many+1:Nat):Int),bg (l:Int),some y,bg ((k+1:Nat):Int)]/\H4=g) (λky vm=>?_) ?_
  ·exact⟨_,rfl,_,_,rfl,rfl,vm _ _ ⟨rfl,rfl⟩⟩
  rintro e _ ⟨rfl,rfl⟩;refine⟨_,rfl,aj (λc=>?_) (λc=>aO ?_)⟩
  ·have:=Qt c;exact vH (n:=400) (by lia) s4 (k2 (by lia))
  have ai:=Qu c;refine aM ⟨_,_,rfl,?_⟩;have Z4:(if((k+1:Nat):Int) > (l:Int)then((k+1:Nat):Int)else(l:Int))=((max l (k+1):Nat):Int):=by split<;>lia
  rw[Z4];obtain⟨J,sh,ok,hks⟩:=E9.kids;have dj:=hks.len;have jt:=i4 m1.ks
  (try dsimp only)
  refine⟨.inl ⟨rfl,_,ak.of g4⟩,y,J,rfl,sh.uc ok,λL H6 hL gL s6=>Or.inl ⟨⟨J,ak.of gL⟩,λD hD=>?_⟩⟩;refine eM (cB J) (λi τ p=>(∃u,p D=be u/\vn p d u ((m1.ks.take i).map λz=>(z,k+1)))/\aa H6 p/\∃v1,τ=[v1,bg ((k+1:Nat):Int)]) ⟨⟨[],aB,rfl,λj h=>nomatch h⟩,aa.upd hD _,none,rfl⟩ (λi τ p _ h=>ak.of (h.2.1 _ _ gL)) ?_ ?_
  ·rintro i τ p hi ⟨⟨u,q1,G⟩,q3,v1,rfl⟩;have Pj:i<m1.ks.length:=by lia
   have eg:J.getD i .ao=J[i]:=by simp[Qb,hi]
   rw[eg];refine⟨bx,λt ht=>?_⟩;have e1:((k+1:Nat):Int)+1=((k+1+1:Nat):Int):=by lia
   rw[e1];have R:=aa.upd ht (.tup [J[i],.int ((k+1+1:Nat):Int)]);have gt:upd p t (.tup [J[i],.int ((k+1+1:Nat):Int)]) t=bw [J[i],.int ((k+1+1:Nat):Int)]:=aB;generalize upd p t (.tup [J[i],.int ((k+1+1:Nat):Int)])=H8 at R gt;have zo:=R _ _ q1;have tk:Tk H8 (upd H8 D (.lst (u++[.ref t]))):=(Tk.refl).set zo λ_ z=>nomatch z;have Hi:=G.len;simp at Hi;refine⟨u,zo,by lia,⟨u++[.ref t],aB,?_⟩,(q3.trans R).put hD,_,rfl⟩;rw[Qs,Qa Pj,Qm];refine((G.tk R.ts).tk tk).app ⟨rfl,λj a b=>?_⟩;obtain rfl:j=0:=by simp at a;lia
   exact⟨t,J[i],rfl,tk _ _ gt,((hks.at_ i hi Pj).tk ((s6.trans q3).trans R).ts).tk tk⟩
  ·rintro τ p ⟨⟨u,q1,G⟩,q3,v1,rfl⟩;rw[qQ (by lia)]at G;have Hi:=G.len;simp at Hi;have Zd:=La.len;have Pk:st'.length<=rq st':=by
    have:=i4 (st'.map (·.1));simpa[rq]using this
   have Lb:=s6.trans q3;have g7:=Lb _ _ g4;have tk:Tk p (upd p W (.lst (gw++u))):=(Tk.refl).set g7 λ_ z=>nomatch z;refine⟨W,D,_,_,rfl,rfl,g7,q1,by lia,?_⟩;have Bv:rq (st'++m1.ks.map λz=>(z,k+1))=rq st'+br m1.ks:=by
    unfold rq;rw[Qm,eI,Qa3];congr 2;exact List.map_id' _
   have Z5:=rK k m1.ks;refine⟨_,?_,_,st'++m1.ks.map (λz=>(z,k+1)),many+1,max l (k+1),_,_,rfl,rfl,aB,((La.tk Lb.ts).app G).tk tk,by lia,?_,by lia,(s4.trans Lb).put fW⟩
   ·lia
   ·rw[oP];simp only[um]at HR;rw[<- HR,Nat.max_assoc,Nat.max_left_comm (k+1),Z5,Nat.max_zero,oK m1,Nat.add_assoc]
def Aa(H:Hp)(pl a:V)(m:Mr):Prop:=if gx m=true then pl=.ao/\a=.ao else ∃b,pl=.ref b/\H b=some (.tup (jb (dz m).1))/\(match(dz m).2 with|none=>a=.ao|some c=>bf H 80 a c)
def Bx(H:Hp)(a:Addr):Kd->Prop
 | .val=>H a=some (.tup [.str "value"])
 | .stuck p=>∃b,H a=some (.tup [.str "stuck",.ref b])/\H b=some (.tup (jb p))
 | .on=>H a=some (.tup [.str "on"])
def DN(H:Hp)(t:Addr)(m:Mr)(c:Nat)(d:Kd):Prop:=∃a b,H t=some (.tup [a,.int (c:Int),.ref b])/\Bx H b d/\bf H 40 a m
inductive Pn (vs:Qbi)(H:Hp)(Q:VK)(E:XK):Prop
 |mk (v:V) (n:Nat) (m:Mr):vs=[v,.int (n:Int)]->n<=100000->bf H 40 v m->av m<=400->(match jj n 0 m with| .inl k=>AO mg H E k| .inr (m',dn,kd)=>∀t Z,aa H Z->DN Z t m' dn kd->Q (.ref t) Z)->Pn vs H Q E
theorem Po{R:Addr}{m:Mr}(h:if gx m=true then H R=some (.tup [.ao,.ao])else ∃a r,H R=some (.tup [.ref a,r])/\H a=some (.tup (jb (dz m).1))/\(match(dz m).2 with|none=>r=.ao|some c=>bf H (2*40) r c)):∃pl b,H R=some (.tup [pl,b])/\Aa H pl b m:=by
 unfold Aa;by_cases c:gx m=true
 ·rw[if_pos c]at h;exact⟨_,_,h,by rw[if_pos c];exact⟨rfl,rfl⟩⟩
 ·rw[if_neg c]at h;obtain⟨a,r,h1,h2,h3⟩:=h;exact⟨_,_,h1,by rw[if_neg c];exact⟨a,rfl,h2,h3⟩⟩
theorem AO.mono{a:Hp}{E:XK}(k:AO mg H E n)(s:aa H a):AO mg a E n:=λe b c d h1 h2=>k e b c (s.trans d) h1 h2
theorem tU{v:V}{m:Mr}(h:bf H d v m):∃a,v=.ref a:=by
 obtain⟨k,vs,_,sh,_⟩:=h.out;obtain⟨a,_,e,_⟩:=sh.ref;exact⟨a,e⟩
theorem vW{a:Nat}{m:Mr}(h:wm m=none\/n=0):jj n a m=.inr (m,a,yf m):=by
 cases n with
 |zero=>rfl
 |succ n=>
  rcases h with h|h
  ·rw[jj,h]
  ·cases h
theorem Z6(T:Txt K mg w):Bd P w K mg base 46 "run" ["maker","n"] (Pn (mg:=mg)):=by
 have nJ:aq P w K mg base 45 "next_step" ["maker"] (K6 40):=tF T 40 (by lia);have kK:aq P w K mg base 43 "replaced" ["maker","place","other"] (HQ 41 120):=uL T 41 120;have oQ:Bd P w K mg base 3 "refuse_large" ["maker"] (K_ (mg:=mg) 120):=nY T 120;refine T.Yr.NB jF (λvs H Q E h=>?_) (λf az A ai s H vs Q E hr h=>?_)
 ·obtain⟨v,n,m,rfl,_⟩:=h;rfl
 ·obtain⟨v,n,m,rfl,hn,hm,hc,k⟩:=h;obtain⟨hu,bj,hsz⟩:=c9 hr;refine⟨_,(aE (aQ 2 jF.nd aF)
   (aE (i6 (aR nJ hr (aD (zv 0) aC)) (dN K (n:=2) rfl (bA (bS 3 jF.nd) (bA (bS 4 jF.nd) cP))))
   (aE (iM PassesOwn.leaving (fE (aK mF (zv 2) (zv 1)) (dD (aK y8 (zv 4) f8))).pt (aE (aQ 0 jF.nd (aR kK hr (aD (zv 0) (aD (zv 3) (aD (zv 4) aC)))))
   (aE (cE (Xy oQ (hr.mono (by lia)) (aD (zv 0) aC)))
   (aE (wD (i:=2) jF.nd rfl (Or.inl rfl) aF tZ)
   (aI (i6 (aR nJ hr (aD (zv 0) aC)) (dN K (n:=2) rfl (bA (bS 3 jF.nd) (bA (bS 4 jF.nd) cP)))))))))
   (aE (bF (aK pO (zv 3) f8) (aI (aU (aL (aD (zv 0) (aD (zv 2) (aH (aL (aA aG aC)) aC)))))) aW)
   (aE (bF (aK pO (zv 4) f8) (aI (aU (aL (aD (zv 0) (aD (zv 2) (aH (aL (aA aG (aD (zv 3) aC))) aC)))))) aW)
   (aI (aU (aL (aD (zv 0) (aD (zv 2) (aH (aL (aA aG aC)) aC))))))))))),?_⟩
  refine i5 ?_;refine aT (λb l=>X2 λq t=>b=[some v,bg (n:Int),some (.int 0),some q,some t]/\Aa l q t m/\aa H l) ?_ ?_
  ·intro nx ay;refine⟨v,m,rfl,hm,by lia,λR H1 s1 h1=>?_⟩;obtain⟨q,t,e1,e2⟩:=Po h1;exact iN e1 (ay _ _ ⟨q,t,rfl,e2,s1⟩)
  rintro b H1 ⟨q,t,rfl,Z7,s1⟩;refine aT (λb l=>X5 fun(o:V)(a:Mr)(d:Nat)(q t:V)=>b=[some o,bg (n:Int),bg (d:Int),some q,some t]/\bf l 40 o a/\Aa l q t a/\aa H l/\jj n 0 m=.inr (a,d,yf a)) ?_ ?_
  ·intro nx ay;refine⟨λmm b l=>X5 fun(o:V)(a:Mr)(d:Nat)(q t:V)=>b=[some o,bg (n:Int),bg (d:Int),some q,some t]/\mm=n-d/\d<=n/\bf l 40 o a/\av a<=400/\Aa l q t a/\aa H l/\jj n 0 m=jj (n-d) d a,⟨_,v,m,0,q,t,rfl,rfl,by lia,hm.tk s1.ts,hc,Z7,s1,rfl⟩,?_⟩;rintro mm b N ⟨o,a,d,Fd,Lc,rfl,rfl,Dg,x,vt,u,s2,jw⟩;have stop:(wm a=none\/n-d=0)->nx [some o,bg (n:Int),bg (d:Int),some Fd,some Lc] N:=λh=>ay _ _ ⟨o,a,d,Fd,Lc,rfl,x,u,s2,by rw[jw,vW h]⟩;refine⟨_,rfl,aj (λc=>?_) (λc=>gf (stop (.inr ?_)))⟩
   rotate_left
   ·have:=Qu c
    lia
   have cu:d<n:=by have:=Qt c;lia
   by_cases hv:gx a=true
   ·unfold Aa at u;rw[if_pos hv]at u;obtain⟨rfl,rfl⟩:=u;refine⟨_,rfl,aj (λc=>absurd c (by decide)) (λ_=>stop (.inl ?_))⟩;unfold wm;rw[if_pos hv]
   have Ld:=u;unfold Aa at Ld;rw[if_neg hv]at Ld;obtain⟨pa,rfl,DL,Ab⟩:=Ld;cases hz:(dz a).2 with
   |none=>
    rw[hz]at Ab;subst Ab;refine⟨_,rfl,aj (λc=>absurd c (by decide)) (λ_=>stop (.inl ?_))⟩;unfold wm;rw[if_neg hv,hz];rfl
   |some c1=>
    rw[hz]at Ab;obtain⟨ab,rfl⟩:=tU Ab;refine⟨_,rfl,aj (λ_=>?_) (λc=>absurd c (by simp))⟩;have ag:wm a=some (jo c1 (dz a).1 a):=by
     unfold wm;rw[if_neg hv,hz];rfl
    have ah:=sJ _ a (Qy _);have am:=ah.len;have an:=x.dep;have Il:=uS _ a (Qy _) hz;have Z8:=w5 c1 (dz a).1 a;have ao:av a*av a<=400*400:=Nat.mul_le_mul vt vt;obtain⟨j,hj⟩:∃j,n-d=j+1:=⟨n-d-1,by lia⟩
    have D:jj n 0 m=if 400<av (jo c1 (dz a).1 a)then .inl 400 else if 40<di (jo c1 (dz a).1 a)then .inl 40 else jj j (d+1) (jo c1 (dz a).1 a):=by
     rw[jw,hj,jj,ag]
    generalize al:jo c1 (dz a).1 a=m2 at ag Z8 D;refine⟨λb l=>∃Ff,Ff<n-d/\X5 fun(o:V)(a:Mr)(d:Nat)(q t:V)=>b=[some o,bg (n:Int),bg (d:Int),some q,some t]/\Ff=n-d/\d<=n/\bf l 40 o a/\av a<=400/\Aa l q t a/\aa H l/\jj n 0 m=jj (n-d) d a,λb l h=>h,?_⟩;refine aM ⟨o,.ref ab,pa,(dz a).1,a,c1,40,80,rfl,DL,by lia,x,ah,Ab,by lia,by lia,λr C s3 AQ=>?_⟩;rw[al]at AQ
    (try dsimp only)
    refine aT (λb l=>b=[some r,bg (n:Int),bg (d:Int),af pa,af ab]/\aa C l/\av m2<=400/\di m2<=40) (λu vm=>?_) ?_
    ·refine⟨r,m2,rfl,AQ,by lia,λh1 h2 y z=>vm _ _ ⟨rfl,z,h1,h2⟩,λh1=>?_,λh1 h2=>?_⟩
     ·rw[if_pos h1]at D;rw[D]at k;exact AO.mono k (s2.trans s3)
     ·rw[if_neg (by lia),if_pos h2]at D;rw[D]at k;exact AO.mono k (s2.trans s3)
    rintro b y ⟨rfl,z,h1,h2⟩;rw[if_neg (by lia),if_neg (by lia)]at D;refine aT (λb l=>b=[some r,bg (n:Int),bg ((d+1:Nat):Int),af pa,af ab]/\y=l) (λu vm=>?_) ?_
    ·exact⟨_,rfl,_,_,rfl,rfl,vm _ _ ⟨rfl,rfl⟩⟩
    rintro b _ ⟨rfl,rfl⟩;have AR:bf y 40 r m2:=(AQ.tk z.ts).low h2;refine⟨r,m2,rfl,AR,by lia,λR H5 G h5=>?_⟩;obtain⟨Z9,Z_,e1,e2⟩:=Po h5;refine iN e1 ?_;exact⟨_,by lia,r,m2,d+1,Z9,Z_,rfl,rfl,by lia,AR.tk G.ts,h1,e2,((s2.trans s3).trans z).trans G,by rw[D];congr 1;lia⟩
  ·rintro b N ⟨o,a,d,Fd,Lc,rfl,x,u,s2,jw⟩;rw[jw]at k;have I:∀(B:Qbi)(C:Hp),aa N C->(∀g y,y g=bw B->aa C y->Bx y g (yf a))->∀g,C g=none->([o,.int (d:Int),V.ref g].length<=sizeLine/\∀p,upd C g (.tup B) p=none->Q (.ref p) (upd (upd C g (.tup B)) p (.tup [o,.int (d:Int),.ref g]))):=λB C s3 hk g L=>by
    refine⟨gz,λp hp=>?_⟩;have z:=aa.upd L (.tup B);have G:=aa.upd hp (.tup [o,.int (d:Int),.ref g]);refine k p _ (((s2.trans s3).trans z).trans G) ⟨o,g,aB,hk g _ (G _ _ aB) (z.trans G),x.tk ((s3.trans z).trans G).ts⟩
   by_cases hv:gx a=true
   ·unfold Aa at u;rw[if_pos hv]at u;obtain⟨rfl,rfl⟩:=u;refine⟨_,rfl,aj (λ_=>?_) (λc=>absurd c (by decide))⟩;refine⟨ik,λg L=>I _ N (aa.refl _) (λg y e _=>?_) g L⟩;unfold yf;rw[if_pos hv];exact e
   unfold Aa at u;rw[if_neg hv]at u;obtain⟨pa,rfl,DL,Ab⟩:=u;refine⟨_,rfl,aj (λc=>absurd c (by simp)) (λ_=>aO ?_)⟩;cases hz:(dz a).2 with
   |none=>
    rw[hz]at Ab;subst Ab;refine⟨_,rfl,aj (λ_=>?_) (λc=>absurd c (by decide))⟩;refine⟨bx,λg L=>I _ N (aa.refl _) (λg y e z=>?_) g L⟩;unfold yf;rw[if_neg hv,hz];exact⟨pa,e,z _ _ DL⟩
   |some c1=>
    rw[hz]at Ab;obtain⟨ab,rfl⟩:=tU Ab;refine⟨_,rfl,aj (λc=>absurd c (by simp)) (λ_=>bD ?_)⟩;refine⟨ik,λg L=>I _ N (aa.refl _) (λg y e _=>?_) g L⟩;unfold yf;rw[if_neg hv,hz];exact e
theorem uB{k:Nat}(r:fb k A):A.units+170<cLine:=by have:=r.un;lia
inductive Fg (vs:Qbi)(H:Hp)(Q:VK)(b_:XK):Prop
 |mk (v x:V) (f:a_) (J:Qbi) (i:Nat):vs=[v,.int (i:Int),x]->gu H v f J->f.ok->i<J.length->(∀v' Z,aa H Z->gu Z v' f (J.set i x)->Q v' Z)->Fg vs H Q b_
theorem By{K:QZ}{B c:Qbi}{Q:VK}(d:H a=some (.tup B))(f:H b=some (.tup c))(g:B≠[])(i:B.length+c.length<=sizeLine)(h:∀p Z,aa H Z->Z p=some (.tup (B++c))->Q (.ref p) Z):II K (.ref a) (.ref b) H Q:=by
 refine⟨a,b,B,c,rfl,rfl,ae.of d,ae.of f,g,i,λe=>?_,λ_ p j=>?_⟩
 ·subst e;exact h a H (aa.refl _) (by rw[QQ];exact d)
 ·exact h p _ (aa.upd j _) aB
theorem Z'(B:Qbi)(i:Nat):gj B (some (i:Int)) none=B.drop i:=by
 unfold gj;rw[HT.jW];simp only[HT.cf];by_cases h:i<=B.length
 ·rw[Nat.min_eq_left h,qQ (by simp)]
 ·rw[Nat.min_eq_right (by lia)];simp
  lia
theorem aaa(B:Qbi)(i:Nat)(h:i<=B.length):gj B none (some (i:Int))=B.take i:=by
 unfold gj;rw[HT.jW,Nat.min_eq_left h];simp[HT.cf]
theorem kg.set{H:Hp}{ls:List Qbi}{B a:Qbi}(h:kg H ls B a){i:Nat}{c:Addr}{x:V}(d:i<ls.length)(e:H c=some (.tup (ls[i]++[x]))):kg H ls (B.set i (.ref c)) (a.set i x):=by
 refine⟨by simp[h.l1],by simp[h.l2],λj h1 h2 b=>?_⟩;rw[Qap,Qap];by_cases hj:i=j
 ·subst hj;rw[if_pos rfl,if_pos rfl];exact⟨c,rfl,e⟩
 ·rw[if_neg hj,if_neg hj];exact h.at_ j (by simpa using h1) (by simpa using h2) b
theorem a1K{f:a_}{d g:Qbi}{x:V}(h:gu H (.ref a) f d)(b:H a=some (.tup (.str f.au::g)))(c:i<d.length)(j:f.au≠"fn")(k:f.au≠"pick")(l:f.au≠"box")(m:f.au="split"->i=0)(s:aa H Z)(e:Z p=some (.tup ((.str f.au::g).take (i+1)++[x]++(.str f.au::g).drop (i+2)))):gu Z (.ref p) f (d.set i x):=by
 cases h with
 |get _=>simp at c
 |fn _=>exact absurd rfl j
 |pick _=>exact absurd rfl k
 |dw _ _ _=>exact absurd rfl l
 |call e0=>
  rw[e0]at b;cases b
  match i,c with
  |0,_=>exact .call e
  |1,_=>exact .call e
 |part e0=>
  rw[e0]at b;cases b;obtain rfl:i=0:=by simp at c;lia
  exact .part e
 |hold e0=>
  rw[e0]at b;cases b;obtain rfl:i=0:=by simp at c;lia
  exact .hold e
 |split e0 e1 r=>
  rw[e0]at b;cases b;obtain rfl:=m rfl;exact .split e (s _ _ e1) (r.tk s.ts)
theorem aac{G:Prop}(X:Prop)(h2:X->G)(h1:X):G:=h2 h1
theorem fT(T:Txt K mg w):aq P w K mg base 1 "_law_rebuilt" ["_law_maker","_law_at","_law_one"] Fg:=by
 refine T.qR.dh dS ?_ ?_
 ·rintro _ _ _ _ ⟨v,x,f,J,i,rfl,_⟩;rfl
 ·rintro f az A ah s H vs Q E hr ⟨v,x,f,J,i,rfl,sh,ok,y,k⟩;obtain⟨hu,bj,hsz⟩:=c9 hr;refine⟨_,(aE (aQ 3 dS.nd (aN K (zv 0) aF))
   (aE (bF (aK (kS K) (zv 3) (aL (aA aG (aA aG aC))) rfl) (aI (aU (bN (eO K) (cT (lR K) (zv 0) cS (cU (F8 sW aF))) (aL (aD (zv 2) aC))))) aW)
   (aE (bF (aK (aZ bj) (zv 3) aG) (aE (aQ 4 dS.nd (dG (lU K) T.wJ PyProof.Rows.boot_list (aJ (aN K (zv 0) aF) aC)))
   (aE (i6 (aL (aJ (aN K (aN K (zv 4) (zv 1)) aF) (aD (zv 2) aC))) (pQ (zv 4) (zv 1) fF))
   (aI (aU (aL (aA aG (bB (dG (cK K) T.dX QG (aD (zv 4) aC)) aC))))))) aW)
   (aE (bF (fE (aK (aZ bj) (zv 3) aG) (dD (aK gK (zv 1) aF))).pt (aE (aQ 4 dS.nd (dG (lU K) T.wJ PyProof.Rows.boot_list (aJ (aN K (zv 0) aF) aC)))
   (aE (i6 (bN (eO K) (cT (lR K) (aN K (zv 4) (bN dU (zv 1) aF)) cS (cU aF)) (aL (aD (zv 2) aC))) (pQ (zv 4) (bN dU (zv 1) aF) fF))
   (aI (aU (bN (eO K) (cT (lR K) (zv 0) cS (cU aF)) (aL (bB (dG (cK K) T.dX QG (aD (zv 4) aC)) aC))))))) aW)
   (aI (aU (bN (eO K) (bN (eO K) (cT (lR K) (zv 0) cS (cU (bN bT (zv 1) aF))) (aL (aD (zv 2) aC))) (cT (lR K) (zv 0) (cU (bN bT (zv 1) aF)) cS)))))))),?_⟩
  obtain⟨a,ys,rfl,ea⟩:=sh.ref;refine aM ⟨_,.str f.au,.inr (ae.of ea),aV _ _,?_⟩
  (try dsimp only)
  refine⟨bx,λb1 fq=>⟨_,.inr (ae.of aB),rfl,rfl,_,rfl,?_⟩⟩;have h:=aa.upd fq (.tup [.str "fn",.str "pick"]);generalize upd H b1 (.tup [.str "fn",.str "pick"])=R at h;by_cases hb:f.au≠"fn"/\f.au≠"pick"/\f.au≠"box"/\(f.au="split"->i=0)
  ·obtain⟨n1,n2,n3,n4⟩:=hb;have gen:=λp Z x=>a1K (Z:=Z) (p:=p) (x:=x) sh ea y n1 n2 n3 n4;have N3:ys.length=2/\i<=1:=by
    cases sh with
    |get u=>simp at y
    |call u=>rw[u]at ea;cases ea;simp at y⊢;lia
    |part u=>rw[u]at ea;cases ea;simp at y⊢;lia
    |hold u=>rw[u]at ea;cases ea;simp at y⊢;lia
    |split u _ _=>rw[u]at ea;cases ea;have:=n4 rfl;simp;lia
    |fn _=>exact absurd rfl n1
    |pick _=>exact absurd rfl n2
    |dw _ _ _=>exact absurd rfl n3
   have u:BP (.str f.au) [.str "fn",.str "pick"]=false:=by
    cases f<;>first|exact absurd rfl n1|exact absurd rfl n2|(simp only[a_.au];decide+kernel)
   rw[u];refine aj (λc=>absurd c (by decide)) (λ_=>aO ?_);refine⟨rfl,_,rfl,aj (λc=>absurd (V.str.inj (Qt ((QE _).symm.trans c))) n3) (λ_=>aO ?_)⟩;have HS:=h _ _ ea;refine aac ?X (λag=>?h2) ?h1
   case h2=>
    refine⟨rfl,_,rfl,aj (λc=>?_) (λc=>gf ?_)⟩
    rotate_left
    ·exact ag
    have hs:=V.str.inj (Qt ((QE _).symm.trans c));refine⟨_,rfl,aj (λc=>absurd c (by rw[n4 hs];decide)) (λ_=>?_)⟩;exact ag
   case h1=>
    have gv:(V.str f.au::ys).length=3:=by simp[N3.1]
    refine⟨((i+1:Nat):Int),by simp,Or.inr (Or.inr ⟨a,_,rfl,ae.of HS,?_,λn C=>?_⟩)⟩
    ·rw[HT.jW,gv];simp only[HT.cf]
     lia
    rw[aaa _ _ (by rw[gv];lia)];have l:=aa.upd C (.tup ((V.str f.au::ys).take (i+1)));have g2:upd R n (.tup ((V.str f.au::ys).take (i+1))) n=bw ((V.str f.au::ys).take (i+1)):=aB;generalize upd R n (.tup ((V.str f.au::ys).take (i+1)))=H2 at l g2;refine⟨ik,λp2 D=>?_⟩;have d:=aa.upd D (.tup [x]);refine By (d _ _ g2) aB (by simp) (by simp;lia) λp3 H4 g e4=>?_;have ai:=g _ _ (d _ _ (l _ _ HS));refine⟨((i+2:Nat):Int),by simp,Or.inr (Or.inr ⟨a,_,rfl,ae.of ai,?_,λp5 al=>?_⟩)⟩
    ·rw[HT.jW,gv];simp only[HT.cf]
     lia
    rw[Z'];have m:=aa.upd al (.tup ((V.str f.au::ys).drop (i+2)));refine By (m _ _ e4) aB (by simp) (by simp;lia) λp6 H6 s6 e6=>?_;have Pp:=((((h.trans l).trans d).trans g).trans m).trans s6;exact k _ _ Pp (gen p6 H6 x Pp e6)
  cases sh with
  | @fn a v0 r0 m0 e=>
   simp only[a_.au];refine aj (λ_=>?_) (λc=>absurd c (by decide+kernel));refine⟨1,rfl, -1,rfl,Or.inr (Or.inr ⟨a,_,rfl,ae.of (h _ _ e),by simp[HT.cf],λn C=>⟨ik,λp2 D=>?_⟩⟩)⟩;have l:=aa.upd C (.tup (gj [.str "fn",.str v0,.str r0,m0] none (some (-1))));have d:=aa.upd D (.tup [x]);refine By (B:=[.str "fn",.str v0,.str r0]) (d _ _ aB) aB (by simp) (by simp[hsz]) λp3 H4 g e4=>?_;obtain rfl:i=0:=by simp at y;lia
   exact k _ _ (((h.trans l).trans d).trans g) (.fn e4)
  | @pick a z0 m0 e=>
   simp only[a_.au];refine aj (λ_=>?_) (λc=>absurd c (by decide+kernel));refine⟨1,rfl, -1,rfl,Or.inr (Or.inr ⟨a,_,rfl,ae.of (h _ _ e),by simp[HT.cf],λn C=>⟨ik,λp2 D=>?_⟩⟩)⟩;have l:=aa.upd C (.tup (gj [.str "pick",.str z0,m0] none (some (-1))));have d:=aa.upd D (.tup [x]);refine By (B:=[.str "pick",.str z0]) (d _ _ aB) aB (by simp) (by simp[hsz]) λp3 H4 g e4=>?_;obtain rfl:i=0:=by simp at y;lia
   exact k _ _ (((h.trans l).trans d).trans g) (.pick e4)
  | @dw a b ws B ms e e1 rm=>
   simp only[a_.au];refine aj (λc=>absurd c (by decide+kernel)) (λ_=>aO ?_);refine⟨rfl,_,rfl,aj (λ_=>?_) (λc=>absurd c (by decide+kernel))⟩;have f_:=rm.l1;have iz:=rm.l2;have jt:(d_ ws).length=ws.length:=by simp[d_]
   refine aM ⟨_,.ref b,.inr (ae.of (h _ _ e)),rfl,b,B,rfl,.inr (ae.of (h _ _ e1)),λL hL=>?_⟩;have l:=aa.upd hL (.lst B);have N:upd R L (.lst B) L=be B:=aB
   (try dsimp only)
   generalize upd R L (.lst B)=H2 at l N;obtain⟨c,c1,c2⟩:=rm.at_ i (by lia) y (by lia)
   have o:=h.trans l;simp only[d_,Qr,Qan,Qaz]at c2;refine aT (λr Z=>∃t,r=[af a,bg (i:Int),some x,cg "box",af L]/\Z L=be (B.set i (.ref t))/\Z t=bw [.str (ws[i]'(by lia)),x]/\aa H Z) ?_ ?_
   ·intro nx ay;refine⟨_,.ref c,.inl (ak.of N),bU (by rw[Qa (by lia),c1]),_,.str (ws[i]'(by lia)),.inr (ae.of (o _ _ c2)),rfl,bx,λt ht=>?_⟩;have d:=aa.upd ht (.tup [.str (ws[i]'(by lia)),x]);have I:upd H2 t (.tup [.str (ws[i]'(by lia)),x]) t=bw [.str (ws[i]'(by lia)),x]:=aB;generalize upd H2 t (.tup [.str (ws[i]'(by lia)),x])=G at d I;have AN:=d _ _ N;have tk:Tk G (upd G L (.lst (B.set i (.ref t)))):=(Tk.refl).set AN λ_ z=>nomatch z;refine⟨L,B,_,i,rfl,rfl,AN,by unfold ur;simp;lia,ay _ _ ⟨t,rfl,aB,tk _ _ I,(o.trans d).put (h.free hL)⟩⟩
   ·rintro r G ⟨t,rfl,AN,I,d⟩;refine⟨L,_,rfl,.inl ⟨ak.of AN,λp hp=>?_⟩⟩;have g:=aa.upd hp (.tup (B.set i (.ref t)));have gp:upd G p (.tup (B.set i (.ref t))) p=bw (B.set i (.ref t)):=aB;generalize upd G p (.tup (B.set i (.ref t)))=H4 at g gp;refine⟨bx,λq hq=>?_⟩;have m:=aa.upd hq (.tup [.str "box",.ref p]);have Pq:=(d.trans g).trans m;refine k _ _ Pq (.dw aB (m _ _ gp) (kg.set (rm.tk Pq.ts) (by lia) ?_));simp only[d_,Qr];exact m _ _ (g _ _ I)
  | @split a b cs m0 B ms e e1 rm=>
   simp only[a_.au];have Le:i≠0:=λz=>hb ⟨by simp only[a_.au];decide+kernel,by simp only[a_.au];decide+kernel,by simp only[a_.au];decide+kernel,λ_=>z⟩;obtain⟨j,rfl⟩:∃j,i=j+1:=⟨i-1,by lia⟩
   simp only[Qac]at y;refine aj (λc=>absurd c (by decide+kernel)) (λ_=>aO ?_);refine⟨rfl,_,rfl,aj (λc=>absurd c (by decide+kernel)) (λ_=>aO ?_)⟩;refine⟨rfl,_,rfl,aj (λ_=>?_) (λc=>absurd c (by decide+kernel))⟩;refine⟨_,rfl,aj (λ_=>?_) (λc=>absurd (Qu c) (by lia))⟩;have f_:=rm.l1;have iz:=rm.l2;have jt:(fm cs).length=cs.length:=by simp[fm]
   have ej:((j+1:Nat):Int)-1=(j:Int):=by lia
   refine aM ⟨_,.ref b,.inr (ae.of (h _ _ e)),rfl,b,B,rfl,.inr (ae.of (h _ _ e1)),λL hL=>?_⟩;have l:=aa.upd hL (.lst B);have N:upd R L (.lst B) L=be B:=aB
   (try dsimp only)
   generalize upd R L (.lst B)=H2 at l N;obtain⟨c,c1,c2⟩:=rm.at_ j (by lia) (by lia) (by lia)
   have o:=h.trans l;simp only[fm,Qr,Qan,Qaz]at c2;refine aT (λr Z=>∃t,r=[af a,bg ((j+1:Nat):Int),some x,cg "split",af L]/\Z L=be (B.set j (.ref t))/\Z t=bw [.str (cs[j]'(by lia)).1,.str (cs[j]'(by lia)).2,x]/\aa H Z) ?_ ?_
   ·intro nx ay;refine⟨_,.ref c,.inl (ak.of N),by rw[ej];exact bU (by rw[Qa (by lia),c1]),2,rfl,Or.inr (Or.inr ⟨c,_,rfl,ae.of (o _ _ c2),by simp[HT.cf],λn C=>⟨ik,λp2 D=>?_⟩⟩)⟩;have d:=aa.upd C (.tup (gj [.str (cs[j]'(by lia)).1,.str (cs[j]'(by lia)).2,ms[j]'(by lia)] none (some 2)));have g:=aa.upd D (.tup [x]);refine By (B:=[.str (cs[j]'(by lia)).1,.str (cs[j]'(by lia)).2]) (g _ _ aB) aB (by simp) (by simp[hsz]) λt H5 m I=>?_;have Pr:=(d.trans g).trans m;have Pu:=Pr _ _ N;have tk:Tk H5 (upd H5 L (.lst (B.set j (.ref t)))):=(Tk.refl).set Pu λ_ z=>nomatch z;refine⟨L,B,_,j,rfl,rfl,Pu,by rw[ej];unfold ur;simp;lia,ay _ _ ⟨t,rfl,aB,tk _ _ I,(o.trans Pr).put (h.free hL)⟩⟩
   ·rintro r G ⟨t,rfl,AN,I,d⟩;refine⟨2,rfl,Or.inr (Or.inr ⟨a,_,rfl,ae.of (d _ _ e),by simp[HT.cf],λn C=>?_⟩)⟩;have g:=aa.upd C (.tup [.str "split",m0]);have g1:upd G n (.tup [.str "split",m0]) n=bw [.str "split",m0]:=aB;show BK (MJ K) _ _ (upd G n (.tup [.str "split",m0])) _;generalize upd G n (.tup [.str "split",m0])=H4 at g g1;refine⟨L,_,rfl,.inl ⟨ak.of (g _ _ AN),λp hp=>?_⟩⟩;have m:=aa.upd hp (.tup (B.set j (.ref t)));have gp:upd H4 p (.tup (B.set j (.ref t))) p=bw (B.set j (.ref t)):=aB;generalize upd H4 p (.tup (B.set j (.ref t)))=H5 at m gp;refine⟨ik,λp2 D=>?_⟩;have s6:=aa.upd D (.tup [.ref p]);refine By (s6 _ _ (m _ _ g1)) aB (by simp) (by simp[hsz]) λq H7 s7 eq=>?_;have Fi:=((g.trans m).trans s6).trans s7;have Pw:=d.trans Fi;refine k _ _ Pw (.split eq (s7 _ _ (s6 _ _ gp)) (kg.set (rm.tk Pw.ts) (by lia) ?_));simp only[fm,Qr];exact Fi _ _ I
  |_=>exact absurd ⟨by simp only[a_.au];decide+kernel,by simp only[a_.au];decide+kernel,by simp only[a_.au];decide+kernel,λz=>absurd z (by simp only[a_.au];decide+kernel)⟩ hb
theorem Px{G:Prop}(X C:Prop)(h2:(C->X)->G)(h1:C->X):G:=h2 h1
theorem xK(T:Txt K mg w)(e:Nat):∀d:Nat,d<=45->aq P w K mg base (2+d) "_law_put" ["_law_maker","_law_name","_law_value"] (CA d e):=by
 intro n
 induction n with
 |zero=>
  intro _;refine T.rV.dh (k:=1) fG ?_ ?_
  ·rintro _ _ _ _ ⟨x,y,v,m,p,rfl,_⟩;rfl
  ·rintro f az A N s H vs Q E R ⟨x,y,v,m,p,rfl,h,_⟩;cases h
 |succ n ih=>
  intro al;have jY:aq P w K mg base (2+n) "_law_put" ["_law_maker","_law_name","_law_value"] (CA n e):=ih (by lia);refine T.rV.dh (k:=2+n) fG ?_ ?_
  ·rintro _ _ _ _ ⟨x,y,v,m,p,rfl,_⟩;rfl
  ·rintro f az A N s H vs Q E R ⟨x,y,v,m,p,rfl,hm,hx,k⟩;have hu:=fX R;have bj:=Qx (fX R);have Fj:=uB R;have am:sizeLine=16777216:=QL;refine⟨_,(aE (bF (aK (xX Fj) (zv 0) (aL (aA aG (aD (zv 1) aC)))) (aI (aU (zv 2))) aW)
   (aE (bF (fE (aK (aZ bj) (aN K (zv 0) aF) aG) (dD (aK (aZ bj) (aN K (zv 0) aF) (zv 1)))).pt (aI (aU (zv 0))) aW)
   (aE (aQ 3 fG.nd (aR (cQ T) R (aD (zv 0) aC)))
   (aE (dP PassesOwn.never rfl (i8 (by rfl) T.k7 (bB (bY (bR K) T.oh Qae (aD (zv 3) aC)) aC)) (bS 4 fG.nd) (aI (bF (zB (aK (mE bj) (aN K (zv 0) aF) aG) (zB (aK (aZ bj) (zv 4) aF) (yA (aK (mE bj) (aN K (aN K (aN K (zv 0) aF) (bN dU (zv 4) aF)) aF) (zv 1))))).pt (aI (aQ 0 fG.nd (aR (fT T) R (aD (zv 0) (aD (zv 4) (bB (aR jY R (aJ (aN K (zv 3) (zv 4)) (aD (zv 1) (aD (zv 2) aC)))) aC)))))) aW)))
   (aI (aU (zv 0))))))),?_⟩
   obtain⟨n',J,en,sh,ok,dj,hks⟩:=hm.out;obtain rfl:n'=n:=by lia
   have ah:=hm.td;have Py:=XE m v;obtain⟨f,ms⟩:=m;dsimp only[Mr.f,Mr.ks]at sh ok dj hks Py;obtain⟨a,ys,rfl,ea⟩:=sh.ref;have hl:=sh.len;refine⟨bx,λg hg=>?_⟩;have C:=aa.upd hg (.tup [.str "get",.str v]);have gg:upd H g (.tup [.str "get",.str v]) g=bw [.str "get",.str v]:=aB;generalize upd H g (.tup [.str "get",.str v])=H1 at C gg;refine⟨3*(n'+1),1,_,.t [.s "get",.s v],a,g,by lia,rfl,rfl,ah.same C,TD.tup (.inl gg) (.cons .str (.cons .str .nil)),λbo AS=>⟨_,rfl,?_⟩⟩;rw[Py]at AS;rw[QE];refine aj (λc=>?_) (λc=>aO ?_)
   ·have hf:=AS.mp c;subst hf;refine k _ _ C ?_;rw[kh,if_pos rfl];exact(hx.tk C.ts).up (by lia)
   have K1:f≠.get v:=λz=>by rw[AS.mpr z]at c;cases c
   have HS:=C _ _ ea;refine Px ?X (∀G r0,f=.fn G r0->G≠v) (λag=>?h2) ?h1
   case h2=>
    refine⟨_,.str f.au,.inr (ae.of HS),aV _ _,⟨rfl,_,rfl,?_⟩⟩;by_cases hf:f.au="fn"
    ·rw[hf];refine aj (λ_=>?_) (λc=>absurd c (by decide+kernel));cases sh with
     | @fn a G r0 b0 e0=>
      refine⟨_,.str G,.inr (ae.of (C _ _ e0)),rfl,⟨rfl,_,rfl,?_⟩⟩;rw[QE];refine aj (λc=>?_) (λc=>?_)
      ·obtain rfl:=V.str.inj (Qt c);refine k _ _ C ?_;obtain⟨mb,rfl⟩:=qm dj.symm;have:kh G p (.mk (.fn G r0) [mb])=.mk (.fn G r0) [mb]:=by
        rw[kh,if_neg (by simp),i_,i_];simp[a_.bnd]
       rw[this];exact(hm.tk C.ts).up (by lia)
      ·have iq:=Qu c;exact ag λv1 r1 e1=>by
        cases e1;exact λz=>iq (by rw[z])
     |_=>exact absurd hf (by simp only[a_.au];decide+kernel)
    ·refine aj (λc=>absurd (V.str.inj (Qt ((QE _).symm.trans c))) hf) (λ_=>gf ?_);exact ag λv1 r1 e1=>by rw[e1]at hf;exact absurd rfl hf
   case h1=>
    intro DV;refine aO ?_;refine aM ⟨.ref a,J,rfl,(sh.uc ok).tk C.ts,λL H2 hL gL s2=>?_⟩;have u:=C.trans s2;have an:=pN v p f ms 0;have jx:=a_.few ok
    (try dsimp only)
    refine aT (λo Z=>X3 fun(I:V)(v4:Qbj)(l:Qbi)=>o=[some I,cg v,some y,af L,v4]/\gu Z I f l/\l.length=J.length/\(∀j(h1:j<l.length)(h2:j<(i_ v p f 0 ms).length),bf Z (n'+e) l[j] (i_ v p f 0 ms)[j])/\aa H Z) ?_ ?_
    rotate_left
    ·rintro o H3 ⟨I,v4,l,rfl,CD,DO,uv,D⟩;refine k _ _ D ?_;rw[kh,if_neg K1,show n'+1+e=(n'+e)+1 by lia];exact .mk CD ok (by lia) uv
    intro nx ay;refine Or.inl ⟨_,.inl (ak.of gL),_,rfl,by lia,by lia,?_⟩;refine dF (fB 0 J.length) (λi o Z=>X3 fun(I:V)(v4:Qbj)(l:Qbi)=>o=[some I,cg v,some y,af L,v4]/\gu Z I f l/\l.length=J.length/\(∀j(h1:j<l.length)(h2:j<(i_ v p f 0 ms).length),j<i->bf Z (n'+e) l[j] (i_ v p f 0 ms)[j])/\(∀j(h1:j<l.length)(h2:j<J.length),i<=j->l[j]=J[j])/\aa H2 Z) ⟨.ref a,none,J,rfl,sh.tk u.ts,rfl,λj _ _ h=>absurd h (by lia),λj _ _ _=>rfl,aa.refl _⟩ (λ_ _ _ _ _=>trivial) ?_ ?_
    ·rintro i o H3 hi ⟨I,v4,l,rfl,CD,DO,uv,Lf,D⟩;have BA:i<ms.length:=by lia
     have ez:(0:Int)+(i:Int)=(i:Int):=by lia
     rw[ez];have ep:=pV v p f ms 0 i (by lia) BA;rw[Nat.zero_add]at ep;obtain⟨ai,yi,rfl,eai⟩:=CD.ref;refine Px ?Y (f.bnd i≠some v) (λgo=>?g2) ?g1
     case g2=>
      refine⟨_,.str f.au,.inr (ae.of eai),aV _ _,⟨rfl,_,rfl,?_⟩⟩;by_cases hs:f.au≠"split"
      ·refine aj (λ_=>A8 ?_) (λc=>?_)
       ·exact go (by
         cases f with
         |fn G r0=>
          intro z;cases i with
          |zero=>exact DV G r0 rfl (QD z)
          |succ i=>cases z
         |split cs=>exact absurd rfl hs
         |_=>intro z;cases z)
       ·rw[Bool.true_xor]at c;have:decide (V.str f.au=V.str "split")=true:=by simpa using c
        exact absurd (V.str.inj (Qt this)) hs
      ·replace hs:f.au="split":=Decidable.not_not.mp hs
       rw[hs];refine aj (λc=>absurd c (by decide+kernel)) (λ_=>?_);refine⟨rfl,_,rfl,?_⟩;by_cases Le:i=0
       ·refine aj (λ_=>A8 ?_) (λc=>absurd (Qu ((QE _).symm.trans c)) (by simp[Le]));exact go (by rw[Le];cases f<;>first|exact absurd hs (by simp only[a_.au];decide+kernel)|(intro z;cases z))
       ·refine aj (λc=>absurd (Qt ((QE _).symm.trans c)) (by simp;lia)) (λ_=>?_);obtain⟨j,rfl⟩:∃j,i=j+1:=⟨i-1,by lia⟩
        have ej:((j+1:Nat):Int)-1=(j:Int):=by lia
        cases CD with
        | @split ai b cs m0 B ps e0 e1 rm=>
         have f_:=rm.l1;have iz:=rm.l2;have jt:(fm cs).length=cs.length:=by simp[fm]
         simp only[Qac]at DO;obtain⟨c,c1,c2⟩:=rm.at_ j (by lia) (by lia) (by lia)
         simp only[fm,Qr,Qan,Qaz]at c2;refine⟨_,.ref b,.inr (ae.of e0),rfl,_,.ref c,.inr (ae.of e1),by rw[ej];exact bU (by rw[Qa (by lia),c1]),_,.str (cs[j]'(by lia)).2,.inr (ae.of c2),rfl,⟨rfl,_,rfl,?_⟩⟩;have vc:(a_.split cs).bnd (j+1)=some (cs[j]'(by lia)).2:=by
          show(cs[j]?).map (·.2)=_;rw[Qa (by lia)];rfl
         rw[Bool.true_xor];refine Jf (λc=>?_) (λc=>?_)
         ·have hz:=V.str.inj (Qt c);refine⟨_,_,_,rfl,.split e0 e1 rm,by simp only[Qac];exact DO,λj' h1 h2 h3=>?_,λj' h1 h2 h3=>Lf j' h1 h2 (by lia),D⟩;by_cases hj:j'<j+1
          ·exact uv j' h1 h2 hj
          ·obtain rfl:j'=j+1:=by lia
           rw[vc,hz,if_pos rfl]at ep;rw[ep,Lf (j+1) h1 (by lia) (Qy _)];exact((hks (j+1) (by lia) BA).tk (u.trans D).ts).up (by lia)
         ·have hz:=Qu c;exact go (by rw[vc];intro q;exact hz (by rw[QD q]))
        |_=>exact absurd hs (by simp only[a_.au];decide+kernel)
     case g1=>
      intro hb;rw[if_neg hb]at ep;have vh:i<J.length:=hi;refine⟨_,J[i],.inl (ak.of (D _ _ gL)),bU (Qa vh),?_⟩;refine⟨J[i],y,v,ms[i],p,rfl,(hks i vh BA).tk (u.trans D).ts,hx.tk (u.trans D).ts,λr H4 s4 OV=>?_⟩;refine⟨.ref ai,r,f,l,i,rfl,CD.tk s4.ts,ok,by lia,λv' H5 s5 Lg=>?_⟩;refine⟨v',_,l.set i r,rfl,Lg,by simp[DO],λj h1 h2 h3=>?_,λj h1 h2 h3=>?_,(D.trans s4).trans s5⟩
      ·rw[Qap];by_cases hj:i=j
       ·subst hj;rw[if_pos rfl,ep];exact OV.tk s5.ts
       ·rw[if_neg hj];exact(uv j (by simpa using h1) h2 (by lia)).tk (s4.trans s5).ts
      ·rw[Qap,if_neg (by lia)];exact Lf j (by simpa using h1) h2 (by lia)
    ·rintro o H3 ⟨I,v4,l,rfl,CD,DO,uv,_,D⟩;exact ay _ _ ⟨I,v4,l,rfl,CD,DO,λj h1 h2=>uv j h1 h2 (by lia),u.trans D⟩
inductive HU (d:Nat)(vs:Qbi)(H:Hp)(Q:VK)(b_:XK):Prop
 |mk (v:V) (m:Mr):vs=[v]->bf H d v m->(∀Z,aa H Z->Q (.bl (gx m)) Z)->HU d vs H Q b_
theorem x3{f:a_}{a:List Mr}(h:¬((∃ws,f=.dw ws)\/∃z,f=.pick z)):gx (.mk f a)=decide (V.str f.au=V.str "fn"):=by
 rw[a_.Nd];cases f with
 |dw ws=>exact absurd (Or.inl ⟨_,rfl⟩) h
 |pick z=>exact absurd (Or.inr ⟨_,rfl⟩) h
 |_=>simp[gx]
theorem nN(T:Txt K mg w):∀d:Nat,aq P w K mg base (2+d) "_law_is_value" ["_law_maker"] (HU d):=by
 intro n
 induction n with
 |zero=>
  refine T.jQ.dh (k:=1) eU ?_ ?_
  ·rintro _ _ _ _ ⟨v,m,rfl,_⟩;rfl
  ·rintro f R A b s H vs Q E g ⟨v,m,rfl,h,_⟩;cases h
 |succ n ih=>
  have dY:aq P w K mg base (2+n) "_law_is_value" ["_law_maker"] (HU n):=ih;refine T.jQ.dh (k:=2+n) eU ?_ ?_
  ·rintro _ _ _ _ ⟨v,m,rfl,_⟩;rfl
  ·rintro f R A b s H vs Q E g ⟨v,m,rfl,hm,k⟩;obtain⟨hu,bj,hsz⟩:=c9 g;refine⟨_,(aE (bF (aK (kS K) (aN K (zv 0) aF) (aL (aA aG (aA aG aC))) rfl) (aI (aU (bY (mP K rfl) T.J6 PyProof.Rows.boot_all (cG (iB ["_law_one"] [] ["_law_one"] (d6 eU) (lT K (aR (cQ T) g (aD (zv 0) aC))) (λ_ _ _ _ _ _=>(cD 0)) (λ_ _ _ _ _ _=>(aR dY g (aD (zv 0) aC)))) aC)))) aW)
   (aI (aU (wI (aZ bj) (aN K (zv 0) aF) aG)))),?_⟩
   obtain⟨n',J,en,sh,ok,dj,hks⟩:=hm.out;obtain rfl:n'=n:=by lia
   obtain⟨f,ms⟩:=m;dsimp only[Mr.f,Mr.ks]at sh ok dj hks;obtain⟨a,ys,rfl,ea⟩:=sh.ref;have hl:=sh.len;have jx:=a_.few ok;refine⟨_,.str f.au,.inr (ae.of ea),aV _ _,bx,λb1 fq=>⟨_,.inr (ae.of aB),rfl,rfl,_,rfl,?_⟩⟩;have e:=aa.upd fq (.tup [.str "box",.str "pick"]);generalize upd H b1 (.tup [.str "box",.str "pick"])=H1 at e;by_cases hb:(∃p,f=.dw p)\/∃z,f=.pick z
   ·have ev:gx (.mk f ms)=lh ms:=by rcases hb with⟨p,rfl⟩|⟨z,rfl⟩<;>rw[gx]
    have q:BP (.str f.au) [.str "box",.str "pick"]=true:=by rcases hb with⟨p,rfl⟩|⟨z,rfl⟩<;>simp only[a_.au]<;>decide+kernel
    rw[q,QE];refine A8 ?_;refine⟨.ref a,J,rfl,(sh.uc ok).tk e.ts,λL H2 hL t u=>Or.inl ⟨⟨J,ak.of t⟩,λD y=>?_⟩⟩;refine eM (cB J) (λi j c=>c D=be ((ms.take i).map λx=>.bl (gx x))/\aa H2 c/\∃r,j=[r]) ⟨aB,aa.upd y _,none,rfl⟩ (λi j c _ h=>ak.of (h.2.1 _ _ t)) ?_ ?_
    ·rintro i j c C ⟨l,o,r,rfl⟩;have G:i<ms.length:=by lia
     have eg:J.getD i .ao=J[i]:=by simp[Qb,C]
     rw[eg];refine⟨J[i],ms[i],rfl,(hks i C G).tk ((e.trans u).trans o).ts,λH4 I=>?_⟩;refine⟨_,I _ _ l,by simp;lia,?_,(o.trans I).put y,_,rfl⟩;rw[aB,Qs,Qa G,Qm];rfl
    ·rintro j c ⟨l,o,r,rfl⟩;rw[qQ (by lia)]at l;have zo:c D=be ((ms.map gx).map V.bl):=by rw[l,Qa3];rfl
     have N:=k c ((e.trans u).trans o);rw[ev,mH,show ms.all gx=(ms.map gx).all id by rw[List.all_map];rfl]at N;exact⟨ms.map gx,ak.of zo,N⟩
   ·have q:BP (.str f.au) [.str "box",.str "pick"]=false:=by
     cases f<;>first|exact absurd (.inl ⟨_,rfl⟩) hb|exact absurd (.inr ⟨_,rfl⟩) hb|(simp only[a_.au];decide+kernel)
    rw[q,QE];refine gf (bD ?_);refine⟨_,.str f.au,.inr (ae.of (e _ _ ea)),aV _ _,⟨rfl,?_⟩⟩;rw[QE];have:=k H1 e;rw[x3 hb]at this;exact this
inductive HW (d:Nat)(vs:Qbi)(H:Hp)(Q:VK)(b_:XK):Prop
 |mk (v:V) (m:Mr):vs=[v]->bf H d v m->(∀Z,aa H Z->Q (.int (di m:Int)) Z)->HW d vs H Q b_
theorem rS:∀{l:List Mr}{y:Nat},(∀m∈l,di m<=y)->lj l<=y
 | [],y,_=>by rw[lj];lia
 |a::l,y,h=>by
  rw[lj];have h1:=h a (by simp);have h2:=rS (l:=l) (y:=y) λm b=>h m (by simp[b])
  lia
theorem uW(T:Txt K mg w):∀d:Nat,aq P w K mg base (2+d) "_law_deep" ["_law_maker"] (HW d):=by
 intro n
 induction n with
 |zero=>
  refine T.pZ.dh (k:=1) iR ?_ ?_
  ·rintro _ _ _ _ ⟨v,m,rfl,_⟩;rfl
  ·rintro f N A a s H R Q E c ⟨v,m,rfl,h,_⟩;cases h
 |succ n ih=>
  have kT:aq P w K mg base (2+n) "_law_deep" ["_law_maker"] (HW n):=ih;refine T.pZ.dh (k:=2+n) iR ?_ ?_
  ·rintro _ _ _ _ ⟨v,m,rfl,_⟩;rfl
  ·rintro f N A a s H R Q E c ⟨v,m,rfl,hm,k⟩;obtain⟨hu,bj,hsz⟩:=c9 c;refine⟨_,(aI (aU (bN bT aF (XN K rfl (by rfl) T.NU (iB ["_law_one"] [] ["_law_one"] (d6 iR) (lT K (aR (cQ T) c (aD (zv 0) aC))) (λ_ _ _ _ _ _=>(cD 0)) (λ_ _ _ _ _ _=>(aR kT c (aD (zv 0) aC)))) aF)))),?_⟩;obtain⟨n',J,en,sh,ok,dj,hks⟩:=hm.out;obtain rfl:n'=n:=by lia
   obtain⟨f,ms⟩:=m;dsimp only[Mr.f,Mr.ks]at sh ok dj hks;have hl:=sh.len;have jx:=a_.few ok;refine⟨v,J,rfl,sh.uc ok,λL H1 hL r t=>Or.inl ⟨⟨J,ak.of r⟩,λD u=>?_⟩⟩;refine eM (cB J) (λi g b=>b D=be (((ms.take i).map λx=>(di x:Int)).map V.int)/\aa H1 b/\∃o,g=[o]) ⟨aB,aa.upd u _,none,rfl⟩ (λi g b _ h=>ak.of (h.2.1 _ _ r)) ?_ ?_
   ·rintro i g b C ⟨j,l,o,rfl⟩;have G:i<ms.length:=by lia
    have eg:J.getD i .ao=J[i]:=by simp[Qb,C]
    rw[eg];refine⟨J[i],ms[i],rfl,(hks i C G).tk (t.trans l).ts,λH4 I=>?_⟩;refine⟨_,I _ _ j,by simp;lia,?_,(l.trans I).put u,_,rfl⟩;rw[aB,Qs,Qa G,Qm,Qm];rfl
   ·rintro g b ⟨j,l,o,rfl⟩;rw[qQ (by lia)]at j;refine⟨D,ms.map λx=>(di x:Int),0,rfl,rfl,ak.of j,λm p=>?_⟩;have e9:(1:Int)+m=((di (.mk f ms):Nat):Int):=by
     rw[di];rcases p with⟨e,rfl⟩|⟨G0,q⟩
     ·have:ms=[]:=by simpa using e
      rw[this];rfl
     ·obtain⟨y,hy,rfl⟩:=qN.mp G0;have h1:lj ms<=di y:=rS λz hz=>by
       have:=q _ (qN.mpr ⟨z,hz,rfl⟩)
       lia
      have h2:=dL hy
      lia
    show Q (.int (1+m)) b;rw[e9];exact k b (t.trans l)
theorem tE(T:Txt K mg w)(d:Nat)(Lh:d<=45):aq P w K mg base (d+4) "_law_comes" ["_law_maker"] (E_ d):=by
 have jY:aq P w K mg base (2+d) "_law_put" ["_law_maker","_law_name","_law_value"] (CA d d):=xK T d d Lh;refine T.uZ.dh (k:=d+3) cZ ?_ ?_
 ·rintro _ _ _ _ ⟨v,m,rfl,_⟩;rfl
 ·rintro f az A ag s H vs Q E hr ⟨v,m,rfl,hm,k⟩;obtain⟨hu,bj,hsz⟩:=c9 hr;refine⟨_,(aE (aQ 1 cZ.nd (aN K (zv 0) aF))
   (aE (bF (aK (aZ bj) (zv 1) aG) (aI (aU (aN K (zv 0) aF))) aW)
   (aE (bF (fE (aK (aZ bj) (zv 1) aG) (dD (aK (aZ bj) (aN K (aN K (zv 0) aF) aF) aG))).pt (aI (aU (aR jY hr (aJ (aN K (aN K (zv 0) aF) aF) (aJ (aN K (aN K (zv 0) aF) aF) (aJ (aN K (zv 0) aF) aC)))))) aW)
   (aE (bF (fE (aK (aZ bj) (zv 1) aG) (dD (aK (aZ bj) (aN K (aN K (zv 0) aF) aF) aG))).pt (aI (dP PassesOwn.never rfl (lT K (aN K (aN K (zv 0) aF) aF)) (bS 2 cZ.nd) (aI (bF (aK (aZ bj) (aN K (zv 2) aF) (aN K (zv 0) aF)) (aI (aU (aN K (zv 2) aF))) aW)))) aW)
   (aE (bF (fE (aK (aZ bj) (zv 1) aG) (dD (aK (aZ bj) (aN K (aN K (zv 0) aF) aF) aG))).pt (aI (dP PassesOwn.never rfl (lT K (aN K (zv 0) aF)) (dN K (n:=3) rfl (bA (bS 3 cZ.nd) (bA (bS 4 cZ.nd) (bA (bS 2 cZ.nd) cP)))) (aI (bF (aK (aZ bj) (zv 3) (aN K (aN K (zv 0) aF) aF)) (aI (aU (aR jY hr (aD (zv 2) (aD (zv 4) (aJ (aN K (aN K (zv 0) aF) aF) aC)))))) aW)))) aW)
   (aI (aU f8))))))),?_⟩
  obtain⟨n,J,en,sh,ok,dj,hks⟩:=hm.out;obtain⟨f,ms⟩:=m;dsimp only[Mr.f,Mr.ks]at sh ok dj hks;obtain⟨a,ys,rfl,ea⟩:=sh.ref;have hl:=sh.len;refine aM ⟨_,.str f.au,.inr (ae.of ea),aV _ _,?_⟩
  (try dsimp only)
  by_cases hb:f.au≠"hold"/\f.au≠"call"/\f.au≠"part"/\f.au≠"split"
  ·obtain⟨b1,b2,b3,b4⟩:=hb;have R:∀{z:Str},f.au≠z->¬(false^^decide (V.str f.au=V.str z))=true:=λh c=>absurd (V.str.inj (Qt ((QE _).symm.trans c))) h;refine⟨rfl,_,rfl,aj (λc=>absurd c (R b1)) (λ_=>aO ?_)⟩;refine⟨rfl,_,rfl,aj (λc=>absurd c (R b2)) (λ_=>gf (aO ?_))⟩;refine⟨rfl,_,rfl,aj (λc=>absurd c (R b3)) (λ_=>gf (aO ?_))⟩;refine⟨rfl,_,rfl,aj (λc=>absurd c (R b4)) (λ_=>gf (bD ?_))⟩;refine k _ _ (aa.refl _) ?_;cases f<;>first|rfl|exact absurd rfl b1|exact absurd rfl b2|exact absurd rfl b3|exact absurd rfl b4
  cases sh with
  | @hold a m z e=>
   simp only[a_.au];refine⟨rfl,_,rfl,aj (λ_=>?_) (λc=>absurd c (by decide+kernel))⟩;obtain⟨l,rfl⟩:=qm dj.symm;exact⟨_,m,.inr (ae.of e),rfl,k _ _ (aa.refl _) ((hks 0 (by simp) (by simp)).up (by lia))⟩
  | @call a x0 x1 e=>
   simp only[a_.au];refine⟨rfl,_,rfl,aj (λc=>absurd c (by decide+kernel)) (λ_=>aO ?_)⟩;refine⟨rfl,_,rfl,aj (λ_=>?_) (λc=>absurd c (by decide+kernel))⟩;obtain⟨l,m1,rfl⟩:=Bw dj.symm;have G:bf H n x0 l:=hks 0 (by simp) (by simp);have h1:bf H n x1 m1:=hks 1 (by simp) (by simp);obtain⟨n0,qc,Fb,jp,vf,rj,oq⟩:=G.out;obtain⟨f0,lz⟩:=l;dsimp only[Mr.f,Mr.ks]at jp vf rj oq;obtain⟨a0,Fc,rfl,yq⟩:=jp.ref;refine⟨_,_,.inr (ae.of e),rfl,_,_,.inr (ae.of yq),aV _ _,⟨rfl,_,rfl,?_⟩⟩;by_cases hf:f0.au="fn"
   ·rw[hf];refine aj (λ_=>?_) (λc=>absurd c (by decide+kernel));cases jp with
    | @fn a0 v0 r0 b0 e0=>
     obtain⟨mb,rfl⟩:=qm rj.symm;refine⟨_,_,.inr (ae.of e),rfl,_,b0,.inr (ae.of e0),rfl,_,_,.inr (ae.of e),rfl,_,.str v0,.inr (ae.of e0),rfl,_,x1,.inr (ae.of e),rfl,?_⟩;refine⟨b0,x1,v0,mb,m1,rfl,(oq 0 (by simp) (by simp)).up (by lia),h1.up (by lia),λr p s' u=>k r p s' ?_⟩;show bf p (2*d) r (kh v0 m1 mb);rw[show 2*d=d+d by lia];exact u
    |_=>exact absurd hf (by simp only[a_.au];decide+kernel)
   ·refine aj (λc=>absurd (V.str.inj (Qt ((QE _).symm.trans c))) hf) (λ_=>aO ?_);refine⟨rfl,_,rfl,aj (λc=>absurd c (by decide+kernel)) (λ_=>gf (aO ?_))⟩;refine⟨rfl,_,rfl,aj (λc=>absurd c (by decide+kernel)) (λ_=>gf (bD ?_))⟩;refine k _ _ (aa.refl _) ?_;cases f0<;>first|rfl|exact absurd rfl hf
  | @part a x0 z e=>
   simp only[a_.au];refine⟨rfl,_,rfl,aj (λc=>absurd c (by decide+kernel)) (λ_=>aO ?_)⟩;refine⟨rfl,_,rfl,aj (λc=>absurd c (by decide+kernel)) (λ_=>gf (aO ?_))⟩;refine⟨rfl,_,rfl,aj (λ_=>?_) (λc=>absurd c (by decide+kernel))⟩;obtain⟨l,rfl⟩:=qm dj.symm;have G:bf H n x0 l:=hks 0 (by simp) (by simp);obtain⟨n0,qc,Fb,jp,vf,rj,oq⟩:=G.out;obtain⟨f0,lz⟩:=l;dsimp only[Mr.f,Mr.ks]at jp vf rj oq;obtain⟨a0,Fc,rfl,yq⟩:=jp.ref;refine⟨_,_,.inr (ae.of e),rfl,_,_,.inr (ae.of yq),aV _ _,⟨rfl,_,rfl,?_⟩⟩;by_cases hf:f0.au="box"
   ·rw[hf];refine aj (λ_=>?_) (λc=>absurd c (by decide+kernel));cases jp with
    | @dw a0 b0 ws B qc e0 e1 rm=>
     obtain⟨nd,_,jx⟩:=vf;have f_:=rm.l1;have iz:=rm.l2;have jt:(d_ ws).length=ws.length:=by simp[d_]
     refine⟨_,_,.inr (ae.of e),rfl,_,.ref b0,.inr (ae.of e0),rfl,Or.inr ⟨⟨B,ae.of e1⟩,?_⟩⟩;refine dF (dA B) (λi g p=>X3 fun(y C D:Qbj)=>g=[af a,cg "part",y,C,D]/\(∀j(h:j<i)(I:j<ws.length),ws[j]≠z)/\p=H) ⟨_,_,_,rfl,λj h=>absurd h (by lia),rfl⟩ (by rintro i τ p _ ⟨_,_,_,_,_,h⟩;(rw[h];exact ae.of e1)) ?_ ?_
     ·rintro i g _ L ⟨y,C,D,rfl,o,rfl⟩;obtain⟨c,c1,c2⟩:=rm.at_ i L (by lia) (by lia)
      have eg:B.getD i .ao=.ref c:=eJ L c1;rw[eg];simp only[d_,Qr,Qan,Qaz]at c2;refine⟨_,.str (ws[i]'(by lia)),.inr (ae.of c2),rfl,_,.str z,.inr (ae.of e),rfl,⟨rfl,_,rfl,?_⟩⟩;rw[QE];refine aj (λq=>?_) (λq=>?_)
      ·have hz:=V.str.inj (Qt q);refine⟨_,qc[i]'(by lia),.inr (ae.of c2),rfl,k _ _ (aa.refl _) ?_⟩;show(match(ws.idxOf? z).bind (λi=>lz[i]?)with|none=>_|some c=>_);rw[QaT.mpr ⟨show i<ws.length by lia,hz,λj h=>o j h (by lia)⟩];simp only[Qao];rw[Qa (show i<lz.length by lia)];exact(oq i (by lia) (by lia)).up (by lia)
      ·refine⟨_,_,_,rfl,λj h I=>?_,rfl⟩;by_cases Fk:j<i
       ·exact o j Fk I
       ·obtain rfl:j=i:=by lia
        exact λz=>Qu q (by rw[z])
     ·rintro g _ ⟨y,C,D,rfl,o,rfl⟩;refine⟨rfl,_,rfl,aj (λc=>absurd c (by decide+kernel)) (λ_=>gf (bD ?_))⟩;refine k _ _ (aa.refl _) ?_;show(match(ws.idxOf? z).bind (λi=>lz[i]?)with|none=>_|some c=>_);rw[List.idxOf?_eq_none_iff.mpr λh=>?_]
      ·rfl
      ·obtain⟨j,h1,h2⟩:=Qi h;exact o j (by lia) h1 h2
    |_=>exact absurd hf (by simp only[a_.au];decide+kernel)
   ·refine aj (λc=>absurd (V.str.inj (Qt ((QE _).symm.trans c))) hf) (λ_=>aO ?_);refine⟨rfl,_,rfl,aj (λc=>absurd c (by decide+kernel)) (λ_=>gf (bD ?_))⟩;refine k _ _ (aa.refl _) ?_;cases f0<;>first|rfl|exact absurd rfl hf
  | @split a b cs x0 B ps e e1 rm=>
   simp only[a_.au];refine⟨rfl,_,rfl,aj (λc=>absurd c (by decide+kernel)) (λ_=>aO ?_)⟩;refine⟨rfl,_,rfl,aj (λc=>absurd c (by decide+kernel)) (λ_=>gf (aO ?_))⟩;refine⟨rfl,_,rfl,aj (λc=>absurd c (by decide+kernel)) (λ_=>gf (aO ?_))⟩;refine⟨rfl,_,rfl,aj (λ_=>?_) (λc=>absurd c (by decide+kernel))⟩;obtain⟨l,t,rfl⟩:X2 λl t=>ms=l::t:=by
    cases ms with
    |nil=>simp at dj
    |cons l t=>exact⟨_,_,rfl⟩
   have G:bf H n x0 l:=hks 0 (by simp) (by simp);obtain⟨n0,qc,Fb,jp,vf,rj,oq⟩:=G.out;obtain⟨f0,lz⟩:=l;dsimp only[Mr.f,Mr.ks]at jp vf rj oq;obtain⟨a0,Fc,rfl,yq⟩:=jp.ref;refine⟨_,_,.inr (ae.of e),rfl,_,_,.inr (ae.of yq),aV _ _,⟨rfl,_,rfl,?_⟩⟩;by_cases hf:f0.au="pick"
   ·rw[hf];refine aj (λ_=>?_) (λc=>absurd c (by decide+kernel));cases jp with
    | @pick a0 z x e0=>
     obtain⟨mx,rfl⟩:=qm rj.symm;obtain⟨nd,_,jx⟩:=ok;have f_:=rm.l1;have iz:=rm.l2;have jt:(fm cs).length=cs.length:=by simp[fm]
     have Pf:ps.length=t.length:=by simpa using dj
     have ec:wl (.mk (.split cs) (.mk (.pick z) [mx]::t))=((cs.map (·.1)).idxOf? z).bind λi=>(cs[i]?).bind λc=>(t[i]?).map λb=>kh c.2 mx b:=rfl;refine⟨_,.ref b,.inr (ae.of e),rfl,Or.inr ⟨⟨B,ae.of e1⟩,?_⟩⟩;refine dF (dA B) (λi g p=>X3 fun(y C D:Qbj)=>g=[af a,cg "split",y,C,D]/\(∀j(h:j<i)(I:j<cs.length),cs[j].1≠z)/\p=H) ⟨_,_,_,rfl,λj h=>absurd h (by lia),rfl⟩ (by rintro i τ p _ ⟨_,_,_,_,_,h⟩;(rw[h];exact ae.of e1)) ?_ ?_
     ·rintro i g _ L ⟨y,C,D,rfl,o,rfl⟩;have Pz:i<cs.length:=by lia
      obtain⟨c,c1,c2⟩:=rm.at_ i L (by lia) (by lia)
      have eg:B.getD i .ao=.ref c:=eJ L c1;rw[eg];simp only[fm,Qr,Qan,Qaz]at c2;refine KS (ae.of c2) ?_;refine⟨_,_,.inr (ae.of e),rfl,_,.str z,.inr (ae.of e0),rfl,⟨rfl,_,rfl,?_⟩⟩;rw[QE];refine aj (λq=>?_) (λq=>?_)
      ·have hz:=V.str.inj (Qt q);refine⟨_,_,.inr (ae.of e),rfl,_,x,.inr (ae.of e0),rfl,?_⟩;have K4:i<t.length:=by lia
       have N:=hks (i+1) (by simp;lia) (by simp;lia);simp only[List.getElem_cons_succ]at N;refine⟨_,x,_,t[i],mx,rfl,N.up (by lia),(oq 0 (by simp) (by simp)).up (by lia),λr H2 s2 u=>k r H2 s2 ?_⟩;rw[ec,QaT.mpr ⟨show i<(cs.map (·.1)).length by simpa using Pz,by simpa using hz,λj h=>by simpa using o j h (by lia)⟩];simp only[Qao];rw[Qa Pz,Qa K4];show bf H2 (2*d) r (kh _ mx _);rw[show 2*d=d+d by lia];exact u
      ·refine⟨_,_,_,rfl,λj h I=>?_,rfl⟩;by_cases Fk:j<i
       ·exact o j Fk I
       ·obtain rfl:j=i:=by lia
        exact λz=>Qu q (by rw[z])
     ·rintro g _ ⟨y,C,D,rfl,o,rfl⟩;refine k _ _ (aa.refl _) ?_;rw[ec,List.idxOf?_eq_none_iff.mpr λh=>?_]
      ·rfl
      ·obtain⟨j,h1,h2⟩:=Qi h;rw[Qr]at h2;exact o j (by simp at h1;lia) (by simpa using h1) h2
    |_=>exact absurd hf (by simp only[a_.au];decide+kernel)
   ·refine aj (λc=>absurd (V.str.inj (Qt ((QE _).symm.trans c))) hf) (λ_=>bD ?_);refine k _ _ (aa.refl _) ?_;cases f0<;>first|rfl|exact absurd rfl hf
  |_=>exact absurd ⟨by simp only[a_.au];decide+kernel,by simp only[a_.au];decide+kernel,by simp only[a_.au];decide+kernel,by simp only[a_.au];decide+kernel⟩ hb
def vp(d:Nat)(H:Hp)(R:Addr)(m:Mr):Prop:=if gx m=true then H R=some (.tup [.str "value"])else match(dz m).2 with
 |none=>∃a,H R=some (.tup [.str "stuck",.ref a])/\H a=some (.tup (jb (dz m).1))
 |some c=>∃r,H R=some (.tup [.str "done",r])/\bf H (3*d) r (jo c (dz m).1 m)
inductive HX (d:Nat)(vs:Qbi)(H:Hp)(Q:VK)(b_:XK):Prop
 |mk (v:V) (m:Mr):vs=[v]->bf H d v m->(∀R Z,aa H Z->vp d Z R m->Q (.ref R) Z)->HX d vs H Q b_
theorem p9(T:Txt K mg w):∀d:Nat,d<=45->aq P w K mg base (d+5) "_law_next_of" ["_law_maker"] (HX d):=by
 intro n
 induction n with
 |zero=>
  intro _;refine T.kG.dh (k:=4) cC ?_ ?_
  ·rintro _ _ _ _ ⟨v,m,rfl,_⟩;rfl
  ·rintro f az A u s H vs Q E p ⟨v,m,rfl,h,_⟩;cases h
 |succ n ih=>
  intro Lh;have eK:aq P w K mg base (n+5) "_law_next_of" ["_law_maker"] (HX n):=ih (by lia);have dY:aq P w K mg base (2+(n+1)) "_law_is_value" ["_law_maker"] (HU (n+1)):=nN T (n+1);have vL:aq P w K mg base (n+1+4) "_law_comes" ["_law_maker"] (E_ (n+1)):=tE T (n+1) Lh;refine T.kG.dh (k:=n+5) cC ?_ ?_
  ·rintro _ _ _ _ ⟨v,m,rfl,_⟩;rfl
  ·rintro f az A u s H vs Q E p ⟨v,m,rfl,hm,k⟩;obtain⟨hu,bj,hsz⟩:=c9 p;refine⟨_,(aE (bF (lJ (aR dY p (aD (zv 0) aC))) (aI (aU (aL (aA aG aC)))) aW)
   (aE (aQ 1 cC.nd (aR (cQ T) p (aD (zv 0) aC)))
   (aE (bF (aK (aZ bj) (aN K (zv 0) aF) aG) (aI (aQ 1 cC.nd (cT (lR K) (zv 1) cS (cU aF)))) aW)
   (aE (dP PassesOwn.never rfl (i8 (by rfl) T.k7 (bB (bY (bR K) T.oh Qae (aD (zv 1) aC)) aC)) (bS 2 cC.nd) (aI (bF (yG (lJ (aR dY p (aJ (aN K (zv 1) (zv 2)) aC)))) (aE (aQ 3 cC.nd (aR eK p (aJ (aN K (zv 1) (zv 2)) aC)))
   (aE (bF (aK (aZ bj) (aN K (zv 3) aF) aG) (aI (aU (aL (aA aG (cJ (bN (eO K) (aL (aD (zv 2) aC)) (aN K (zv 3) aF)) aC))))) aW)
   (aI (aU (aL (aA aG (bB (aR (fT T) p (aD (zv 0) (aD (zv 2) (aJ (aN K (zv 3) aF) aC)))) aC))))))) aW)))
   (aE (aQ 3 cC.nd (aR vL p (aD (zv 0) aC)))
   (aE (bF (aK pO (zv 3) f8) (aI (aU (aL (aA aG (aH (aL aC) aC))))) aW)
   (aI (aU (aL (aA aG (aD (zv 3) aC))))))))))),?_⟩
   refine⟨v,m,rfl,hm,λH1 s1=>⟨_,rfl,aj (λc=>?_) (λc=>aO ?_)⟩⟩
   ·refine⟨ik,λR hR=>k R _ (s1.trans (aa.upd hR _)) ?_⟩;unfold vp;rw[if_pos c];exact aB
   have hv:¬gx m=true:=by rw[c];decide
   obtain⟨n',J,en,sh,ok,dj,hks⟩:=hm.out;obtain rfl:n'=n:=by lia
   obtain⟨a,ys,rfl,ea⟩:=sh.ref;have hl:=sh.len;have jx:=a_.few ok;refine aM ⟨.ref a,J,rfl,(sh.uc ok).tk s1.ts,λL H2 hL gL s2=>?_⟩;have y:=s1.trans s2
   (try dsimp only)
   refine aT (λb I=>X2 λB g=>b=[af a,af B,none,none]/\I B=be g/\g.length=(jn m.f m.ks).length/\(∀j(h1:j<g.length)(h2:j<J.length),g[j]=J[j])/\aa H I) ?_ ?_
   ·intro nx ay;refine⟨_,.str m.f.au,.inr (ae.of (y _ _ ea)),aV _ _,⟨rfl,_,rfl,?_⟩⟩;have e1:decide (V.str m.f.au=V.str "split")=(match m.f with| .split _=>true|_=>false):=by
     cases m.f<;>first|exact decide_eq_true rfl|exact Qw (λz=>absurd (V.str.inj z) (by simp only[a_.au];decide+kernel))
    refine aj (λc=>?_) (λc=>?_)
    ·rw[e1]at c;refine⟨1,rfl,Or.inr (Or.inl ⟨L,J,rfl,ak.of gL,λS hS=>?_⟩)⟩;have s3:=aa.upd hS (.lst (gj J none (some 1)));have et:jn m.f m.ks=m.ks.take 1:=by
      unfold jn;cases hf:m.f<;>rw[hf]at c<;>first|(cases c;done)|rfl
     have ec:gj J none (some 1)=J.take 1:=by
      cases J with
      |nil=>rfl
      |cons x l=>simp[gj,HT.cf]
     refine ay _ _ ⟨S,_,rfl,aB,?_,λj h1 h2=>?_,y.trans s3⟩
     ·rw[et,ec];simp[dj]
     ·simp only[ec,QaJ]
    ·rw[e1]at c;have et:jn m.f m.ks=m.ks:=by
      unfold jn;cases hf:m.f<;>rw[hf]at c<;>first|(cases c;done)|rfl
     exact ay _ _ ⟨L,J,rfl,gL,by rw[et,dj],λ_ _ _=>rfl,y⟩
   rintro b H3 ⟨B,g,rfl,gB,ah,BR,s3⟩;have PB:∀j(h:j<g.length),∃O:j<m.ks.length,(jn m.f m.ks)[j]'(by lia)=m.ks[j]:=λj h=>vB (by lia);have ai:g.length<=1001:=by
    rcases Nat.lt_or_ge g.length 1002 with q|q
    ·lia
    ·obtain⟨O,_⟩:=PB 1001 (by lia)
     lia
   refine aT (λb I=>X2 fun(C D:Qbj)=>b=[af a,af B,C,D]/\nj m=none/\aa H I) ?_ ?_
   ·intro nx ay;refine Or.inl ⟨_,.inl (ak.of gB),_,rfl,by lia,by lia,?_⟩;refine dF (fB 0 g.length) (λi b I=>X2 fun(C D:Qbj)=>b=[af a,af B,C,D]/\(∀j(h:j<i)(O:j<(jn m.f m.ks).length),gx (jn m.f m.ks)[j]=true)/\aa H3 I) ⟨none,none,rfl,λj h=>absurd h (by lia),aa.refl _⟩ (λ_ _ _ _ _=>trivial) ?_ ?_
    ·rintro i b H4 hi ⟨C,D,rfl,hj,o⟩;have ez:(0:Int)+(i:Int)=(i:Int):=by lia
     rw[ez];obtain⟨BA,PC⟩:=PB i hi;have vh:i<J.length:=by lia
     have PF:=o _ _ gB;have DP:=s3.trans o;have DM:=(hks i vh BA).tk DP.ts;have PJ:kq g (i:Int)=some J[i]:=bU (by rw[Qa hi,BR i hi vh]);refine⟨_,J[i],.inl (ak.of PF),PJ,J[i],m.ks[i],rfl,DM.up (by lia),λH5 G=>⟨_,rfl,Jf (λc=>?_) (λc=>?_)⟩⟩
     ·refine⟨_,_,rfl,λj h O=>?_,o.trans G⟩;by_cases Fk:j<i
      ·exact hj j Fk O
      ·obtain rfl:j=i:=by lia
       rw[PC];exact c
     ·have Li:nj m=some i:=by
       unfold nj;exact QaR.mpr ⟨by lia,by rw[PC];simp[c],λj h=>by simp[hj j h (by lia)]⟩
      have u_:=k9 Li BA;have ag:=G _ _ PF;refine aM ⟨_,J[i],.inl (ak.of ag),PJ,J[i],m.ks[i],rfl,DM.tk G.ts,λR H6 N h6=>?_⟩;unfold vp at h6;rw[if_neg (by rw[c];decide)]at h6;have HY:=(DP.trans G).trans N
      (try dsimp only)
      cases hz:(dz m.ks[i]).2 with
      |none=>
       rw[hz]at h6;obtain⟨pa,g1,g2⟩:=h6;refine⟨_,.str "stuck",.inr (ae.of g1),rfl,⟨rfl,_,rfl,aj (λ_=>?_) (λc=>absurd c (by decide+kernel))⟩⟩;refine⟨ik,λt ht=>?_⟩;have e:=aa.upd ht (.tup [.int (i:Int)]);have gt:upd H6 t (.tup [.int (i:Int)]) t=bw [.int (i:Int)]:=aB;generalize upd H6 t (.tup [.int (i:Int)])=H7 at e gt;refine⟨_,.ref pa,.inr (ae.of (e _ _ g1)),rfl,?_⟩;refine By gt (e _ _ g2) (by simp) ?_ λq H8 s8 gq=>⟨bx,λR2 Lj=>?_⟩
       ·have:=(sJ _ m.ks[i] (Qy _)).len;have:=DM.dep;simp[jb];lia
       have s9:=aa.upd Lj (.tup [.str "stuck",.ref q]);refine k R2 _ (((HY.trans e).trans s8).trans s9) ?_;unfold vp;rw[if_neg hv,u_,hz];exact⟨q,aB,s9 _ _ gq⟩
      |some c1=>
       rw[hz]at h6;obtain⟨r,g1,g2⟩:=h6;refine⟨_,.str "done",.inr (ae.of g1),rfl,⟨rfl,_,rfl,aj (λc=>absurd c (by decide+kernel)) (λ_=>bD ?_)⟩⟩;refine⟨_,r,.inr (ae.of g1),rfl,?_⟩;refine⟨.ref a,r,m.f,J,i,rfl,sh.tk HY.ts,ok,vh,λv' H7 e PK=>⟨bx,λR2 Lj=>?_⟩⟩;have s8:=aa.upd Lj (.tup [.str "done",v']);refine k R2 _ ((HY.trans e).trans s8) ?_;unfold vp;rw[if_neg hv,u_,hz];refine⟨v',aB,?_⟩;obtain⟨f,ms⟩:=m;dsimp only[Mr.f,Mr.ks]at BA g2 hks dj ok PK sh⊢;simp only[jo];rw[Qa BA];rw[show 3*(n'+1)=(3*n'+2)+1 by lia];refine .mk (PK.tk s8.ts) ok (by simp only[List.length_set];exact dj) λj h1 h2=>?_;rw[Qap,Qap];by_cases uu:i=j
       ·rw[if_pos uu,if_pos uu];exact(g2.tk (e.trans s8).ts).up (by lia)
       ·rw[if_neg uu,if_neg uu];exact((hks j (by simpa using h1) (by simpa using h2)).tk ((HY.trans e).trans s8).ts).up (by lia)
    ·rintro b H4 ⟨C,D,rfl,hj,o⟩;refine ay _ _ ⟨C,D,rfl,?_,s3.trans o⟩;unfold nj;refine List.findIdx?_eq_none_iff.mpr λx hx=>?_;obtain⟨j,hjj,rfl⟩:=Qi hx;simp[hj j (by lia) hjj]
   ·rintro b H4 ⟨C,D,rfl,Li,o⟩;have u_:=k8 Li;refine aM ⟨.ref a,m,rfl,hm.tk o.ts,λr H5 G h5=>?_⟩
    (try dsimp only)
    cases hz:wl m with
    |none=>
     rw[hz]at h5;subst h5;refine⟨_,rfl,aj (λ_=>?_) (λc=>absurd c (by decide))⟩;refine⟨ki,λpa K7=>⟨bx,λR hR=>?_⟩⟩;have N:=aa.upd K7 (.tup []);have e:=aa.upd hR (.tup [.str "stuck",.ref pa]);refine k R _ (((o.trans G).trans N).trans e) ?_;unfold vp;rw[if_neg hv,u_,hz];exact⟨pa,aB,e _ _ aB⟩
    |some c1=>
     rw[hz]at h5;obtain⟨ab,rfl⟩:=tU h5;refine⟨_,rfl,aj (λc=>absurd c (by simp)) (λ_=>bD ?_)⟩;refine⟨bx,λR hR=>?_⟩;have N:=aa.upd hR (.tup [.str "done",.ref ab]);refine k R _ ((o.trans G).trans N) ?_;unfold vp;rw[if_neg hv,u_,hz];refine⟨_,aB,?_⟩;rw[jo];exact(h5.tk N.ts).up (by lia)
def AU(H:Hp)(t:Addr):Nat ⊕ (Mr×Nat×Kd)->Prop
 | .inl k=>H t=some (.tup [.str "many",.int (k:Int)])
 | .inr (m,dn,kd)=>DN H t m dn kd
theorem Bx.tk{b:Addr}{a:Kd}(h:Bx H b a)(s:Tk H Z):Bx Z b a:=by
 cases a with
 |val=>exact s _ _ h
 |stuck p=>obtain⟨pa,h1,h2⟩:=h;exact⟨pa,s _ _ h1,s _ _ h2⟩
 |on=>exact s _ _ h
inductive Fl (vs:Qbi)(H:Hp)(Q:VK)(b_:XK):Prop
 |mk (v:V) (n:Nat) (m:Mr):vs=[v,.int (n:Int)]->n<=100000->bf H 40 v m->av m<=400->(∀t Z,aa H Z->AU Z t (jj n 0 m)->Q (.ref t) Z)->Fl vs H Q b_
theorem wS(T:Txt K mg w):aq P w K mg base 123 "_law_run" ["_law_maker","_law_n"] Fl:=by
 have eK:aq P w K mg base 45 "_law_next_of" ["_law_maker"] (HX 40):=p9 T 40 (by lia);have dC:aq P w K mg base 122 "_law_many" ["_law_maker"] (Dy 120):=jN T 120;have kT:aq P w K mg base 122 "_law_deep" ["_law_maker"] (HW 120):=uW T 120;refine T.zT.dh dE ?_ ?_
 ·rintro _ _ _ _ ⟨v,n,m,rfl,_⟩;rfl
 ·rintro f az A R s H vs Q E D ⟨v,n,m,rfl,hn,hm,hc,k⟩;obtain⟨hu,bj,hsz⟩:=c9 D;refine⟨_,(aE (aQ 2 dE.nd aF)
   (aE (aQ 3 dE.nd (aR eK D (aD (zv 0) aC)))
   (aE (iM PassesOwn.never (fE (aK mF (zv 2) (zv 1)) (dD (aK (aZ bj) (aN K (zv 3) aF) aG))).pt (aE (aQ 0 dE.nd (aN K (zv 3) aF))
   (aE (aQ 2 dE.nd (bN bT (zv 2) aF))
   (aE (bF (aK gK (aR dC D (aD (zv 0) aC)) aF) (aI (aU (aL (aA aG (aA aF aC))))) aW)
   (aE (bF (aK gK (aR kT D (aD (zv 0) aC)) aF) (aI (aU (aL (aA aG (aA aF aC))))) aW)
   (aI (aQ 3 dE.nd (aR eK D (aD (zv 0) aC)))))))))
   (aE (bF (aK (aZ bj) (aN K (zv 3) aF) aG) (aI (aQ 3 dE.nd (aL (aA aG aC)))) aW)
   (aI (aU (aL (aD (zv 0) (aD (zv 2) (aD (zv 3) aC)))))))))),?_⟩
  refine i5 ?_;refine aM ⟨v,m,rfl,hm,λF H1 s1 ag=>?_⟩
  (try dsimp only)
  refine aT (λd e=>X4 fun(g:V)(a:Mr)(b:Nat)(F:Addr)=>d=[some g,bg (n:Int),bg (b:Int),af F]/\bf e 40 g a/\vp 40 e F a/\aa H e/\jj n 0 m=.inr (a,b,yf a)) ?_ ?_
  ·intro nx l;refine⟨λmm d e=>X4 fun(g:V)(a:Mr)(b:Nat)(F:Addr)=>d=[some g,bg (n:Int),bg (b:Int),af F]/\mm=n-b/\b<=n/\bf e 40 g a/\av a<=400/\vp 40 e F a/\aa H e/\jj n 0 m=jj (n-b) b a,⟨_,v,m,0,F,rfl,rfl,by lia,hm.tk s1.ts,hc,ag,s1,rfl⟩,?_⟩;rintro mm d L ⟨g,a,b,p,rfl,rfl,Dg,x,vt,i,C,N⟩;have stop:(wm a=none\/n-b=0)->nx [some g,bg (n:Int),bg (b:Int),af p] L:=λh=>l _ _ ⟨g,a,b,p,rfl,x,i,C,by rw[N,vW h]⟩;refine⟨_,rfl,aj (λc=>?_) (λc=>gf (stop (.inr ?_)))⟩
   rotate_left
   ·have:=Qu c
    lia
   have cu:b<n:=by have:=Qt c;lia
   by_cases hv:gx a=true
   ·have o:=i;unfold vp at o;rw[if_pos hv]at o;refine⟨_,.str "value",.inr (ae.of o),rfl,⟨rfl,_,rfl,aj (λc=>absurd c (by decide+kernel)) (λ_=>stop (.inl ?_))⟩⟩;unfold wm;rw[if_pos hv]
   have o:=i;unfold vp at o;rw[if_neg hv]at o;cases hz:(dz a).2 with
   |none=>
    rw[hz]at o;obtain⟨pa,g1,g2⟩:=o;refine⟨_,.str "stuck",.inr (ae.of g1),rfl,⟨rfl,_,rfl,aj (λc=>absurd c (by decide+kernel)) (λ_=>stop (.inl ?_))⟩⟩;unfold wm;rw[if_neg hv,hz];rfl
   |some c1=>
    rw[hz]at o;obtain⟨r,g1,AQ⟩:=o;refine⟨_,.str "done",.inr (ae.of g1),rfl,⟨rfl,_,rfl,aj (λ_=>?_) (λc=>absurd c (by decide+kernel))⟩⟩;have G:wm a=some (jo c1 (dz a).1 a):=by
     unfold wm;rw[if_neg hv,hz];rfl
    obtain⟨j,hj⟩:∃j,n-b=j+1:=⟨n-b-1,by lia⟩
    have q:jj n 0 m=if 400<av (jo c1 (dz a).1 a)then .inl 400 else if 40<di (jo c1 (dz a).1 a)then .inl 40 else jj j (b+1) (jo c1 (dz a).1 a):=by
     rw[N,hj,jj,G]
    generalize jo c1 (dz a).1 a=I at G q AQ;refine⟨λd e=>∃Ff,Ff<n-b/\X4 fun(g:V)(a:Mr)(b:Nat)(F:Addr)=>d=[some g,bg (n:Int),bg (b:Int),af F]/\Ff=n-b/\b<=n/\bf e 40 g a/\av a<=400/\vp 40 e F a/\aa H e/\jj n 0 m=jj (n-b) b a,λd e h=>h,?_⟩;refine aM ⟨_,r,.inr (ae.of g1),rfl,?_⟩
    (try dsimp only)
    refine aT (λd e=>d=[some r,bg (n:Int),bg ((b+1:Nat):Int),af p]/\L=e) (λky vm=>?_) ?_
    ·have e1:((b:Int)+1)=((b+1:Nat):Int):=by lia
     refine vm _ _ ⟨?_,rfl⟩;rw[<- e1];rfl
    rintro d _ ⟨rfl,rfl⟩;refine⟨r,av I,rfl,AQ.Et,λH3 u=>⟨_,rfl,aj (λc=>?_) (λc=>aO ?_)⟩⟩
    ·have h4:=Qt c;rw[if_pos (by lia)]at q;refine⟨bx,λt y=>k t _ ((C.trans u).trans (aa.upd y _)) ?_⟩;rw[q];exact aB
    have h4:=Qu c;rw[if_neg (by lia)]at q;refine⟨r,I,rfl,AQ.tk u.ts,λH4 z=>⟨_,rfl,aj (λc=>?_) (λc=>bD ?_)⟩⟩
    ·have h5:=Qt c;rw[if_pos (by lia)]at q;refine⟨bx,λt y=>k t _ (((C.trans u).trans z).trans (aa.upd y _)) ?_⟩;rw[q];exact aB
    have h5:=Qu c;rw[if_neg (by lia)]at q;have AR:bf H4 40 r I:=(AQ.tk (u.trans z).ts).low (by lia);refine⟨r,I,rfl,AR,λF5 H5 s5 ah=>?_⟩;exact⟨_,by lia,r,I,b+1,F5,rfl,rfl,by lia,AR.tk s5.ts,by lia,ah,((C.trans u).trans z).trans s5,by rw[q];congr 1;lia⟩
  ·rintro d L ⟨g,a,b,p,rfl,x,i,C,N⟩;rw[N]at k;refine aT (λd e=>∃p,d=[some g,bg (n:Int),bg (b:Int),af p]/\Bx e p (yf a)/\aa L e) ?_ ?_
   ·intro nx l;unfold vp at i;unfold yf at l;by_cases hv:gx a=true
    ·rw[if_pos hv]at i l;refine⟨_,.str "value",.inr (ae.of i),rfl,⟨rfl,_,rfl,aj (λc=>absurd c (by decide+kernel)) (λ_=>?_)⟩⟩;exact l _ _ ⟨p,rfl,i,aa.refl _⟩
    rw[if_neg hv]at i l;cases hz:(dz a).2 with
    |none=>
     rw[hz]at i l;obtain⟨pa,g1,g2⟩:=i;refine⟨_,.str "stuck",.inr (ae.of g1),rfl,⟨rfl,_,rfl,aj (λc=>absurd c (by decide+kernel)) (λ_=>?_)⟩⟩;exact l _ _ ⟨p,rfl,⟨pa,g1,g2⟩,aa.refl _⟩
    |some c1=>
     rw[hz]at i l;obtain⟨r,g1,AQ⟩:=i;refine⟨_,.str "done",.inr (ae.of g1),rfl,⟨rfl,_,rfl,aj (λ_=>?_) (λc=>absurd c (by decide+kernel))⟩⟩;refine⟨ik,λt y=>l _ _ ⟨t,rfl,aB,aa.upd y _⟩⟩
   ·rintro d H3 ⟨F3,rfl,ai,u⟩;refine⟨gz,λt y=>?_⟩;have z:=aa.upd y (.tup [g,.int (b:Int),.ref F3]);exact k t _ ((C.trans u).trans z) ⟨g,F3,aB,ai.tk z.ts,x.tk (u.trans z).ts⟩
theorem tI(T:Txt K mg w):aq P w K mg base 47 "_law_asked" ["_law_maker","_law_n"] Fl:=by
 have C:=Z6 (P:=P) (w:=w) (base:=base) T;refine T.vX.dh cX ?_ ?_
 ·rintro _ _ _ _ ⟨v,n,m,rfl,_⟩;rfl
 ·rintro f az A D s H vs Q E L ⟨v,n,m,rfl,V,hm,hc,k⟩;obtain⟨hu,bj,hsz⟩:=c9 L;refine⟨_,(aE (aQ 2 cX.nd f8)
   (aE (aQ 3 cX.nd f8)
   (aE (Xs (i:=3) C (L.mono (by decide)) (aD (zv 0) (aD (zv 1) aC)) (Xr (j:=4) T.J7.m T.J7.at_ cX.nd rfl rfl (λ_=>(aI (aQ 2 cX.nd (zv 4)))) Xq) cX.nd rfl rfl)
   (aE (bF (fE (aK pO (zv 2) f8) (dD (lJ (bY yX T.iF PyProof.Rows.boot_isinstance (aJ (aN K (zv 3) aF) (aD (UR (v:=.ty "bool") (by rfl) T.Yo PyProof.Rows.boot_bool rfl) aC)))))).pt (aI (aU (aL (aA aG aC)))) aW)
   (aE (bF (aK pO (zv 2) f8) (aI (aU (zv 3))) aW)
   (aE (bF (zB (yG (lJ (bY (rW K) T.iF PyProof.Rows.boot_isinstance (aD (zv 2) (aD (wP (v:=.ref (adr mg "TooMany")) ⟨_,T.Ci.m,rfl⟩) aC))))) (yA (lJ (bY (rW K) T.iF PyProof.Rows.boot_isinstance (aD (zv 2) (aH (aL (aD (wP (v:=.ref (adr mg "NoTelling")) ⟨_,T.NX.m,rfl⟩) (aD (wP (v:=.ref (adr mg "NoText")) ⟨_,T.NW.m,rfl⟩) aC))) aC)))))).pt (aI (aU (aL (aA aG aC)))) aW)
   (aI (aU (aL (aA aG (tD (Yn K (zv 2)) aC))))))))))),?_⟩
  refine i5 ?_;refine i5 ?_;refine aT (λc a=>aa H a/\((X3 fun(g:Nat)(e b:Addr)=>jj n 0 m=.inl g/\c=[some v,bg (n:Int),af e,some .ao,none]/\a e=some (nq (adr mg "TooMany") (some b) e)/\a b=some (.xd [("many",.int g)]))\/X4 fun(t:Addr)(u:Mr)(h:Nat)(x:Kd)=>jj n 0 m=.inr (u,h,x)/\c=[some v,bg (n:Int),some .ao,af t,none]/\DN a t u h x)) ?_ ?_
  ·intro nx N;refine⟨v,n,m,rfl,V,hm,hc,?_⟩;cases l:jj n 0 m with
   |inl g=>
    intro e b a o p y e' C' ee R;cases ee;rw[p]at R;obtain⟨rfl,_⟩:=WS (QD R);refine⟨true,T.Ys,?_⟩;rw[if_pos rfl];exact N _ _ ⟨o,.inl ⟨g,e,b,l,rfl,p,y⟩⟩
   |inr r=>
    obtain⟨u,h,x⟩:=r;exact λt a o O=>N _ _ ⟨o,.inr ⟨t,u,h,x,l,rfl,O⟩⟩
  ·rintro c a ⟨o,⟨g,e,b,l,rfl,p,y⟩|⟨t,u,h,x,l,rfl,G⟩⟩
   ·have eh:GY a e (adr mg "TooMany"):=⟨some b,.inr p,λd I=>by cases I;exact⟨_,y⟩⟩
    have z:=T.Ci.at_
    refine⟨_,rfl,gf (gf (aO ?_))⟩;refine⟨_,rfl,gf (aO ?_)⟩;refine⟨e,_,_,rfl,eh,z,.inl ⟨true,⟨z,T.Yu⟩,true,rfl,gf ?_⟩⟩;refine⟨bx,λt ht=>?_⟩;have st:=aa.upd ht (.tup [.ref (adr mg "NoTelling"),.ref (adr mg "NoText")]);refine⟨e,.ref t,_,rfl,⟨some b,.inr (st _ _ p),λd I=>by cases I;exact⟨_,st _ _ y⟩⟩,z,.inr ⟨t,_,false,rfl,aB,⟨false,⟨T.NX.at_,T.Yv⟩,by rw[if_neg (by decide)];exact⟨false,⟨T.NW.at_,T.Yt⟩,by rw[if_neg (by decide)];rfl⟩⟩,false,rfl,gf (bD ?_)⟩⟩;refine⟨e,_,b,_,.int g,rfl,.inr (st _ _ p),st _ _ y,z,T.Ci.na _ (by simp),rfl,?_⟩;refine⟨bx,λq hq=>k q _ ((o.trans st).trans (aa.upd hq _)) ?_⟩;rw[l];exact aB
   ·obtain⟨mv,kt,g1,g2,g3⟩:=G;refine⟨_,rfl,A8 ?_⟩;refine⟨_,.int (h:Int),.inr (ae.of g1),rfl,by simp,"int",rfl,_,rfl,gf (aO ?_)⟩;refine⟨_,rfl,A8 ?_⟩;refine k t a o ?_;rw[l];exact⟨mv,kt,g1,g2,g3⟩
def r_:Nat->Mr->Mr
 |0,m=>m
 |j+1,m=>.mk (.pick "a") [r_ j m]
theorem fJ(m:Mr):∀j,av (r_ j m)=j+av m
 |0=>by rw[r_];lia
 |j+1=>by rw[r_,av,br,br,fJ m j];lia
inductive HZ (vs:Qbi)(H:Hp)(Q:VK)(b_:XK):Prop
 |mk (j d:Nat) (v:V) (m:Mr):vs=[.int (j:Int),v]->j<=1000->bf H d v m->(∀r Z,aa H Z->bf Z (d+j) r (r_ j m)->Q r Z)->HZ vs H Q b_
theorem tH(T:Txt K mg w):aq P w K mg base 1 "_law_picks" ["_law_many_here","_law_maker"] HZ:=by
 refine T.wB.dh iL ?_ ?_
 ·rintro _ _ _ _ ⟨j,d,v,m,rfl,_⟩;rfl
 ·rintro f C A h s H D Q E G ⟨j,d,v,m,rfl,I,q,k⟩;have t:sizeLine=16777216:=QL;refine⟨_,(aE (dP PassesOwn.never rfl (i8 (by rfl) T.k7 (aD (zv 0) aC)) (bS 2 iL.nd) (aI (aQ 1 iL.nd (aL (aA aG (aA aG (aD (zv 1) aC)))))))
   (aI (aU (zv 1)))),?_⟩
  refine aT (λa b=>X2 λr c=>a=[bg (j:Int),some r,c]/\bf b (d+j) r (r_ j m)/\aa H b) ?_ (by rintro a b ⟨r,c,e,h1,g⟩;(subst e;exact k r b g h1));intro L u;refine⟨_,rfl,by lia,by lia,?_⟩;refine dF (fB 0 j) (λi a b=>X2 λr c=>a=[bg (j:Int),some r,c]/\bf b (d+i) r (r_ i m)/\aa H b) ⟨v,none,rfl,q,aa.refl _⟩ (λ_ _ _ _ _=>trivial) ?_ ?_
  ·rintro i a x N ⟨r,c,rfl,h1,g⟩;refine⟨gz,λp y=>?_⟩;have o:=aa.upd y (.tup [.str "pick",.str "a",r]);refine⟨_,_,rfl,?_,g.trans o⟩;rw[r_];refine .mk (n:=d+i) (.pick aB) (by show bq _;unfold bq;decide) rfl λl z R=>?_;obtain rfl:l=0:=by simp at z;lia
   exact h1.tk o.ts
  ·rintro a x ⟨r,c,rfl,h1,g⟩;exact u _ _ ⟨r,c,rfl,h1,g⟩
theorem PL{v:V}{f:a_}(h:gu H v f [])(ok:f.ok):bf H 1 v (.mk f []):=.mk (n:=0) h ok rfl λi h=>absurd h (by simp)
theorem sV{v x:V}{f:a_}{m:Mr}(h:gu H v f [x])(ok:f.ok)(a:bf H n x m):bf H (n+1) v (.mk f [m]):=.mk h ok rfl λi h1 h2=>by
 obtain rfl:i=0:=by simp at h1;lia
 exact a
theorem a3r{v x y:V}{f:a_}{m b:Mr}(h:gu H v f [x,y])(ok:f.ok)(c:bf H n x m)(a:bf H n y b):bf H (n+1) v (.mk f [m,b]):=.mk h ok rfl λi h1 h2=>by
 match i,h1 with
 |0,_=>exact c
 |1,_=>exact a
def GM(σ:St)(H:Hp)(te:TE)(d:Nat)(m:Mr):Prop:=∀(H1:Hp)(Q:VK),aa H H1->(∀v Z,aa H1 Z->bf Z d v m->Q v Z)->te σ H1 Q
def GS(σ:St)(te:TE)(z:Str):Prop:=∀(H:Hp)(Q:VK),Q (.str z) H->te σ H Q
section
variable{Fp:TE}{m m':Mr}
theorem a4j(z:Str):GS σ (tC (.str z)) z:=λH Q q=>q
theorem yZ(h:σ[i]? =some (some (.str z))):GS σ (tV i) z:=λH Q q=>by unfold tV;rw[h];exact q
theorem dZ{v:V}(h:σ[i]? =some (some v))(a:bf H d v m):GM σ H (tV i) d m:=λb Q s k=>by unfold tV;rw[h];exact k v b (aa.refl _) (a.tk s.ts)
theorem lM{d':Nat}(h:GM σ H te d m)(a:d<=d'):GM σ H te d' m:=λb Q s k=>h b Q s λv c e f=>k v c e (f.up a)
theorem jG(a:bq z):GM σ H (ko (cy (tC (.str "get")) (cy (tC (.str z)) ip))) 1 (.mk (.get z) []):=λc Q s k=>⟨bx,λp b=>k _ _ (aa.upd b _) (PL (.get aB) a)⟩
theorem oJ(b:bq z)(h:GM σ H te d m):GM σ H (ko (cy (tC (.str "part")) (cy te (cy (tC (.str z)) ip)))) (d+1) (.mk (.part z) [m]):=λc Q s k=>
 h c _ s λv g e f=>⟨gz,λp a=>k _ _ (e.trans (aa.upd a _)) (sV (.part aB) b (f.tk (aa.upd a _).ts))⟩
theorem a1k{tz:TE}(b:bq z)(h:GM σ H te d m)(c:GS σ tz z):GM σ H (ko (cy (tC (.str "hold")) (cy te (cy tz ip)))) (d+1) (.mk (.hold z) [m]):=λe Q s k=>
 h e _ s λv f g i=>c f _ ⟨gz,λp a=>k _ _ (g.trans (aa.upd a _)) (sV (.hold aB) b (i.tk (aa.upd a _).ts))⟩
theorem a27(b:bq z)(h:GM σ H te d m):GM σ H (ko (cy (tC (.str "pick")) (cy (tC (.str z)) (cy te ip)))) (d+1) (.mk (.pick z) [m]):=λc Q s k=>
 h c _ s λv g e f=>⟨gz,λp a=>k _ _ (e.trans (aa.upd a _)) (sV (.pick aB) b (f.tk (aa.upd a _).ts))⟩
theorem fZ(h:GM σ H te d m)(O:GM σ H Fp d m'):GM σ H (ko (cy (tC (.str "call")) (cy te (cy Fp ip)))) (d+1) (.mk .call [m,m']):=λf Q s k=>
 h f _ s λv g c i=>O g _ (s.trans c) λj l e a=>⟨gz,λp b=>k _ _ ((c.trans e).trans (aa.upd b _)) (a3r (.call aB) trivial (i.tk (e.trans (aa.upd b _)).ts) (a.tk (aa.upd b _).ts))⟩
theorem qV{tz:TE}{v:Str}(hv:bq v)(c:bq z)(e:GS σ tz z)(h:GM σ H te d m):GM σ H (ko (cy (tC (.str "fn")) (cy (tC (.str v)) (cy tz (cy te ip))))) (d+1) (.mk (.fn v z) [m]):=λa Q s k=>
 e a _ (h a _ s λx i f g=>⟨Cg,λp b=>k _ _ (f.trans (aa.upd b _)) (sV (.fn aB) ⟨hv,c⟩ (g.tk (aa.upd b _).ts))⟩)
theorem oO:GM σ H (ko (cy (tC (.str "box")) (cy (ko ip) ip))) 1 (.mk (.dw []) []):=λc Q s k=>
 ⟨ki,λq b=>⟨bx,λp a=>k _ _ ((aa.upd b _).trans (aa.upd a _)) (PL (.dw aB ((aa.upd a _) _ _ aB) ⟨rfl,rfl,λi h=>absurd h (by simp)⟩) ⟨by simp,by simp,by simp⟩)⟩⟩
end
theorem l_(z:Str)(h:z.length<=100:=by decide):bq z:=by unfold bq;lia
theorem vZ{v:V}{Q:VK}(e:σ[i]? =some (some v))(q:Q v H):tV i σ H Q:=by
 unfold tV;rw[e];exact q
def MB(H:Hp)(d c:Nat)(v:V):Prop:=∃m,bf H d v m/\av m<=c
theorem MB.tk{H Z:Hp}{d c:Nat}{v:V}(h:MB H d c v)(s:Tk H Z):MB Z d c v:=let ⟨m,a,b⟩:=h;⟨m,a.tk s,b⟩
def GR(σ:St)(H:Hp)(b:TA)(ls:List Qbi)(d:Nat)(c:List Mr):Prop:=∀(H1:Hp)(Q:Qbi->Hp->Prop),aa H H1->(∀B a Z,aa H1 Z->kg Z ls B a->jy Z d a c->Q B Z)->b σ H1 Q
def GB(σ:St)(H:Hp)(te:TE)(d c:Nat):Prop:=∀(H1:Hp)(Q:VK),aa H H1->(∀v Z,aa H1 Z->MB Z d c v->Q v Z)->te σ H1 Q
def CF(σ:St)(H:Hp)(a:TA)(d c n:Nat):Prop:=∀(H1:Hp)(Q:Qbi->Hp->Prop),aa H H1->(∀vs Z,aa H1 Z->vs.length=n->(∀v∈vs,MB Z d c v)->Q vs Z)->a σ H1 Q
section
variable{c:Nat}{m:Mr}{J:List Mr}{ls:List Qbi}
theorem xW{l B d:Qbi}{c:Addr}{x:V}(e:H c=some (.tup (l++[x])))(h:kg H ls B d):kg H (l::ls) (.ref c::B) (x::d):=⟨by simp[h.l1],by simp[h.l2],λi a b f=>by
 cases i with
 |zero=>exact⟨c,rfl,e⟩
 |succ i=>exact h.at_ i (by simpa using a) (by simpa using b) (by simpa using f)⟩
theorem u3{v:V}{c:Qbi}(h:bf H d v m)(r:jy H d c J):jy H d (v::c) (m::J):=⟨by simp[r.len],λi a b=>by
 cases i with
 |zero=>exact h
 |succ i=>exact r.at_ i (by simpa using a) (by simpa using b)⟩
theorem jJ:GR σ H ip [] d []:=λa Q s k=>k [] [] a (aa.refl _) ⟨rfl,rfl,λi h=>absurd h (by simp)⟩ ⟨rfl,λi h=>absurd h (by simp)⟩
theorem mC(h:GM σ H te d m)(r:GR σ H ta ls d J):GR σ H (cy (ko (cy (tC (.str z)) (cy te ip))) ta) ([.str z]::ls) d (m::J):=λe Q s k=>
 h e _ s λv l c f=>⟨bx,λp g=>by
  have a:=aa.upd g (.tup [.str z,v]);exact r _ _ ((s.trans c).trans a) λn o i b rw j=>k _ _ i ((c.trans a).trans b) (xW (b _ _ aB) rw) (u3 (f.tk (a.trans b).ts) j)⟩
theorem mB{u:Str}(h:GM σ H te d m)(r:GR σ H ta ls d J):GR σ H (cy (ko (cy (tC (.str z)) (cy (tC (.str u)) (cy te ip)))) ta) ([.str z,.str u]::ls) d (m::J):=λe Q s k=>
 h e _ s λv l c f=>⟨gz,λp g=>by
  have a:=aa.upd g (.tup [.str z,.str u,v]);exact r _ _ ((s.trans c).trans a) λn o i b rw j=>k _ _ i ((c.trans a).trans b) (xW (b _ _ aB) rw) (u3 (f.tk (a.trans b).ts) j)⟩
theorem tR(h:GR σ H ta ls d J)(ok:(a_.dw ws).ok)(e:ls=d_ ws:=by rfl):GM σ H (ko (cy (tC (.str "box")) (cy (ko ta) ip))) (d+1) (.mk (.dw ws) J):=λf Q s k=>
 h f _ s λg m n i rw c=>by
  subst e;have l1:=rw.l1;have l2:=rw.l2;have o:(d_ ws).length=ws.length:=by simp[d_]
  have r:=ok.2.2;refine⟨by have:sizeLine=16777216:=QL;lia,λq j=>⟨bx,λp l=>?_⟩⟩;have b:=aa.upd j (.tup g);have a:=aa.upd l (.tup [.str "box",.ref q]);exact k _ _ (i.trans (b.trans a)) (.mk (.dw aB (a _ _ aB) (rw.tk (b.trans a).ts)) ok c.len (c.tk (b.trans a).ts).at_)
theorem lN(i:GM σ H te d m)(h:GR σ H ta ls d J)(ok:(a_.split cs).ok)(j:ls=fm cs:=by rfl):GM σ H (ko (cy (tC (.str "split")) (cy te (cy (ko ta) ip)))) (d+1) (.mk (.split cs) (m::J)):=λl Q s k=>
 i l _ s λv n e c=>h n _ (s.trans e) λo w x f rw r=>by
  subst j;have l1:=rw.l1;have l2:=rw.l2;have y:(fm cs).length=cs.length:=by simp[fm]
  have z:=ok.2.2;refine⟨by have:sizeLine=16777216:=QL;lia,λq t=>⟨gz,λp u=>?_⟩⟩;have b:=aa.upd t (.tup o);have a:=aa.upd u (.tup [.str "split",v,.ref q]);have g:=u3 (c.tk (f.trans (b.trans a)).ts) (r.tk (b.trans a).ts);exact k _ _ (e.trans (f.trans (b.trans a))) (.mk (.split aB (a _ _ aB) (rw.tk (b.trans a).ts)) ok g.len g.at_)
theorem gb{d':Nat}(h:GM σ H te d' m)(a:d'<=d)(b:av m<=c):GB σ H te d c:=λe Q s k=>h e Q s λv f g i=>k v f g ⟨m,i.up a,b⟩
theorem jZ:CF σ H ip d c 0:=λa Q s k=>k [] a (aa.refl _) rfl λv h=>nomatch h
theorem cR(h:GB σ H te d c)(r:CF σ H ta d c n):CF σ H (cy te ta) d c (n+1):=λf Q s k=>
 h f _ s λv g b hv=>r g _ (s.trans b) λi j e l a=>k (v::i) j (b.trans e) (by simp[l]) λu hu=>by
  rcases Qp.mp hu with rfl|hu
  ·exact hv.tk e.ts
  ·exact a u hu
structure LW(H0 H:Hp)(S:Addr)(ws:Qbi)(n d c:Nat):Prop where
 s:aa H0 H
 f:H0 S=none
 g:H S=some (.lst ws)
 l:ws.length=n
 o:∀x∈ws,MB H d c x
variable{K:QZ}{u:TS}{S:Addr}{ws:Qbi}{k:Nat}
theorem LW.same(W:LW H0 H S ws k d c)(s:aa H Z):LW H0 Z S ws k d c:=⟨W.s.trans s,W.f,s _ _ W.g,W.l,λx a=>(W.o x a).tk s.ts⟩
theorem LW.app{a:Hp}{v:V}(W:LW H0 H S ws k d c)(s:aa H a)(o:MB a d c v):Tk H (upd a S (.lst (ws++[v])))/\LW H0 (upd a S (.lst (ws++[v]))) S (ws++[v]) (k+1) d c:=by
 have t:Tk a (upd a S (.lst (ws++[v]))):=Tk.refl.set (s _ _ W.g) λ_ z=>nomatch z;refine⟨s.ts.trans t,(W.s.trans s).put W.f,W.f,aB,by simp[W.l],λx b=>?_⟩;rcases xD.mp b with h|h
 ·exact((W.o x h).tk s.ts).tk t
 ·rw[qD.mp h];exact o.tk t
theorem PM(f:Addr->St)(s:aa H0 H)(G:CF σ H ta d c n)(l:n<=50)(q:∀S ws Z,aa H Z->LW H0 Z S ws n d c->u D (f S) Z)(a:∀S,σ.set i (some (.ref S))=f S:=by intro _;rfl):vy (sf (A2 ta) (jk i)) u D σ H:=
 G H _ (aa.refl H) λg m b j hv=>⟨by have:sizeLine=16777216:=QL;lia,λS h=>by
  have e:=aa.upd h (.lst g);show u D (σ.set i (some (.ref S))) _;rw[a S];exact q S g _ (b.trans e) ⟨s.trans (b.trans e),(s.trans b).free h,aB,j,λx k=>(hv x k).tk e.ts⟩⟩
theorem PN(p:Addr->St)(W:LW H0 H S ws k d c)(A:σ[i]? =some (some (.ref S)))(R:k<=900)(G:CF σ H ta d c n)(T:n<=50)(q:∀a gw Z,aa H Z->LW H0 Z a gw (k+n) d c->u D (p a) Z)(f:∀S,σ.set i (some (.ref S))=p S:=by intro _;rfl):vy (sf (s_ BX (tV i) (A2 ta)) (jk i)) u D σ H:=by
 have C:sizeLine=16777216:=QL;have V:=W.l;refine aM (vZ (Q:=λx r=>A2 ta σ r λy E=>BX x y E λz I=>u D (σ.set i (some z)) I) A ?_);refine G H _ (aa.refl H) λb r j f_ K=>⟨by lia,λL N=>?_⟩
 have e:=aa.upd N (.lst b);refine⟨ws,b,(j.trans e) _ _ W.g,aB,by lia,λa t=>?_⟩;have w:=aa.upd t (.lst (ws++b));have m:=(j.trans e).trans w;show u D (σ.set i (some (.ref a))) _;rw[f a];refine q a (ws++b) _ m ⟨W.s.trans m,W.s.free (j.free (e.free t)),aB,by simp;lia,λx P=>?_⟩;rcases xD.mp P with h|h
 ·exact(W.o x h).tk m.ts
 ·exact(K x h).tk (e.trans w).ts
theorem a3o(W:LW H0 H S ws k d c)(t:σ[i]? =some (some (.ref S)))(K:k<=900)(G:CF σ H ta d c n)(N:n<=50)(q:∀a gw Z,aa H Z->LW H0 Z a gw (k+n) d c->D.rt (.ref a) Z):Ip (s_ BX (tV i) (A2 ta)) D σ H:=by
 have u:sizeLine=16777216:=QL;have P:=W.l;refine vZ (Q:=λx m=>A2 ta σ m λy w=>BX x y w λz A=>D.rt z A) t ?_;refine G H _ (aa.refl H) λb m f R C=>⟨by lia,λL E=>?_⟩
 have e:=aa.upd E (.lst b);refine⟨ws,b,(f.trans e) _ _ W.g,aB,by lia,λa p=>?_⟩;have r:=aa.upd p (.lst (ws++b));have j:=(f.trans e).trans r;refine q a (ws++b) _ j ⟨W.s.trans j,W.s.free (f.free (e.free p)),aB,by simp;lia,λx I=>?_⟩;rcases xD.mp I with h|h
 ·exact(W.o x h).tk j.ts
 ·exact(C x h).tk (e.trans r).ts
theorem sH(W:LW H0 H S ws k d c)(e:σ[i]? =some (some (.ref S)))(n:k<=900)(G:GB σ H te d c)(q:∀gw Z,Tk H Z->LW H0 Z S gw (k+1) d c->u D σ Z):vy (DX (CV K "list" CW (tV i) (cy te ip))) u D σ H:=by
 have f:sizeLine=16777216:=QL;have o:=W.l;refine vZ (Q:=λx a=>D7 K "list" x a/\cy te ip σ a λh j=>CW x h j λ_ m=>u D σ m) e ?_;refine⟨.inl ⟨rfl,_,ak.of W.g⟩,G H _ (aa.refl H) λv a b hv=>⟨S,ws,v,rfl,rfl,b _ _ W.g,by lia,?_⟩⟩;obtain⟨t,W'⟩:=W.app b hv;exact q _ _ t W'
end
theorem aat{e:TE}{d':Nat}{m f:Mr}{Q:VK}(h:GM σ H te d m)(O:GM σ H e d' f)(k:∀p v a Z,aa H Z->Z p=some (.tup [v,a])->bf Z d v m->bf Z d' a f->Q (.ref p) Z):ko (cy te (cy e ip)) σ H Q:=
 h H _ (aa.refl _) λv j g l=>O j _ g λa o i b=>⟨bx,λp n=>by
  have c:=aa.upd n (.tup [v,a]);exact k p v a _ ((g.trans i).trans c) aB (l.tk (i.trans c).ts) (b.tk c.ts)⟩
theorem uI:∀{l:List Mr}{i:Nat}{x:Mr}(h:i<l.length),br (l.set i x)+av l[i]=br l+av x
 |a::l,0,x,_=>by simp only[List.set_cons_zero,Qar,br];lia
 |a::l,i+1,x,h=>by
  have:=uI (l:=l) (i:=i) (x:=x) (by simpa using h);simp only[List.set_cons_succ,List.getElem_cons_succ,br];lia
inductive H_ (K:QZ)(n:Nat)(vs:Qbi)(H:Hp)(Q:VK)(b_:XK):Prop
 |mk (H0:Hp) (p:Addr) (t:Nat) (v:V) (m:Mr):vs=[.ref p,v]->cj K H0 H p t->t+2*n+2<900000->bf H n v m->(∀v' Z,MB Z (di m+1) (2*av m+3) v'->cj K H0 Z p (t+2*n+2)->Sm p p H Z->Q v' Z)->H_ K n vs H Q b_
set_option maxHeartbeats 2000000 in
theorem lD(T:Txt K mg w):∀n:Nat,aq P w K mg base (3+n) "_law_bent_maker" ["_law_pen","_law_maker"] (H_ K n):=by
 intro n
 induction n with
 |zero=>
  refine T.hV.dh (k:=2) bE ?_ ?_
  ·rintro _ _ _ _ ⟨C,p,t,v,m,rfl,_⟩;rfl
  ·rintro f az A I s H vs Q E D ⟨C,p,t,v,m,rfl,_,_,hm,_⟩;cases hm
 |succ n ih=>
  have eG:aq P w K mg base (3+n) "_law_bent_maker" ["_law_pen","_law_maker"] (H_ K n):=ih;refine T.hV.dh (k:=3+n) bE ?_ ?_
  ·rintro _ _ _ _ ⟨C,p,t,v,m,rfl,_⟩;rfl
  ·rintro f az A I s H vs Q E D ⟨C,p,t,v,m,rfl,hn,ht,hm,q⟩;obtain⟨hu,bj,hsz⟩:=c9 D;refine⟨_,(aE (aQ 2 bE.nd (aR (cQ T) D (aD (zv 1) aC)))
   (aE (bF (fE (aK (mE bj) (zv 2) (bK aC)) (dD (aK gK (aR (bM T) D (aD (zv 0) (aA aF aC))) aF))).pt (aE (aQ 3 bE.nd (aR (bM T) D (aD (zv 0) (bB (bY (bR K) T.oh Qae (aD (zv 2) aC)) aC))))
   (aI (aU (aR (fT T) D (aD (zv 1) (aD (zv 3) (bB (aR eG D (aD (zv 0) (aJ (aN K (zv 2) (zv 3)) aC))) aC))))))) aW)
   (aE (aQ 4 bE.nd (aR (bM T) D (aD (zv 0) (aA aF aC))))
   (aE (aQ 5 bE.nd (bK (aH (aL (aA aG (aA aG aC))) (aH (aL (aA aG (aD (zv 1) (aA aG aC)))) (aH (aL (aA aG (aD (zv 1) (aD (zv 1) aC)))) aC)))))
   (aE (aQ 5 bE.nd (bN bT (zv 5) (bK (aH (aL (aA aG (aD (zv 1) (aH (aL aC) aC)))) (aH (aL (aA aG (aD (zv 1) (aA aG aC)))) (aH (aL (aA aG (aH (aL aC) aC))) aC))))))
   (aE (i6 (aL (aH (aL (aA aG (aA aG aC))) (aH (aL (aA aG (aH (aL aC) aC))) aC))) (dN K (n:=2) rfl (bA (bS 6 bE.nd) (bA (bS 7 bE.nd) cP))))
   (aE (aQ 5 bE.nd (bN bT (zv 5) (bK (aH (aL (aA aG (aD (zv 1) (aA aG aC)))) (aH (aL (aA aG (aD (zv 1) (aH (aL (aH (aL (aA aG (aA aG (aD (zv 6) aC)))) aC)) aC)))) aC)))))
   (aE (cE (gT K QH QJ QK bJ (zv 5) (aH (aL (aA aG (aD (zv 1) (aH (aL (aH (aL (aA aG (aA aG (aH (aL (aA aG (aA aG aC))) aC)))) (aH (aL (aA aG (aA aG (aD (zv 6) aC)))) aC))) aC)))) aC)))
   (aE (cE (gT K QH QJ QK bJ (zv 5) (aH (aL (aA aG (aD (zv 1) (aH (aL (aH (aL (aA aG (aA aG (aD (zv 7) aC)))) aC)) aC)))) aC)))
   (aE (cE (gT K QH QJ QK bJ (zv 5) (aH (aL (aA aG (aD (zv 1) (aH (aL (aH (aL (aA aG (aA aG (aH (aL (aA aG (aA aG aC))) aC)))) (aH (aL (aA aG (aA aG (aD (zv 7) aC)))) aC))) aC)))) aC)))
   (aI (aU (aN K (zv 5) (zv 4)))))))))))))),?_⟩
   obtain⟨n',J,en,sh,ok,dj,hks⟩:=hm.out;obtain rfl:n=n':=by lia
   have jx:=a_.few ok;have hl:=sh.len;refine aM ⟨v,J,rfl,sh.uc ok,λL H1 hL gL s1=>?_⟩;have N:=hn.same s1;have zw:L≠p:=hn.ne hL
   (try dsimp only)
   refine aT (λe u=>e=[af p,some v,af L,none,none,none,none,none]/\cj K C u p (t+1)/\Sm p p H u) (λnx ay=>?_) ?_
   ·refine p7 (λc u=>u L=be J/\cj K C u p (t+1)/\Sm p p H u/\(c=true->J≠[])) (λQ hQ=>?_) (λH2 ⟨g2,a,y,iq⟩=>?_) (by rintro H2 ⟨g2,a,y,_⟩;exact ay _ _ ⟨rfl,a,y⟩)
    ·refine⟨ki,λb R=>⟨aY gL R,J,(aa.upd R _) _ _ gL,aB,_,rfl,aj (λc=>?_) (λc=>?_)⟩⟩
     rotate_left
     ·have G:=aa.upd R (.lst []);exact hQ _ _ ⟨G _ _ gL,((N.same G).mono (by lia)),(s1.trans G).sm,λz=>nomatch z⟩
     have iq:J≠[]:=λz=>by rw[z]at c;exact absurd c (by decide)
     have G:=aa.upd R (.lst []);have gb:=G _ _ gL;have PP:=N.same G;generalize upd H1 b (.lst [])=Hb at G gb PP;exact⟨C,p,4,t,rfl,PP,⟨by decide,by decide⟩,by lia,λr H2 r0 r1 a y=>⟨_,rfl,hQ _ _ ⟨y _ _ gb zw zw,a,(s1.trans G).sm.trans y,λ_=>iq⟩⟩⟩
    ·have Bh:0<J.length:=List.length_pos_iff.mpr (iq rfl);refine aM (.inl ⟨_,.inl (ak.of g2),C,p,_,_,rfl,a,⟨by lia,by lia⟩,by lia,λr H3 r0 r1 ju jd=>?_⟩);have g3:=jd _ _ g2 zw zw;obtain⟨i,rfl⟩:∃i:Nat,r=(i:Int):=⟨r.toNat,by lia⟩
     have V:i<J.length:=by lia
     (try dsimp only)
     have PU:=hn.ts (y.trans jd);refine⟨J,J[i],.inl (ak.of g3),bU (Qa V),C,p,_,J[i],m.ks[i]'(by lia),rfl,ju,by lia,(hks i V (by lia)).tk PU,λv4 H4 ⟨m4,o4,c4⟩ ja jv=>?_⟩;have zq:=PU.trans (ju.ts jv);refine⟨v,v4,m.f,J,i,rfl,sh.tk zq,ok,V,λv5 H5 s5 Lg=>?_⟩;have wz:=zq.trans s5.ts;refine q v5 H5 ⟨.mk m.f (m.ks.set i m4),.mk (n:=di m) Lg ok (by simp[dj]) (λj h1 h2=>?_),?_⟩ ((ja.same s5).mono (by lia)) ((y.trans (jd.trans jv)).trans s5.sm)
     ·rw[Qap,Qap];split
      ·have:=dL (Qj (show i<m.ks.length by lia));exact(o4.tk s5.ts).up (by rw[oK m];lia)
      ·have:=dL (Qj (show j<m.ks.length by simpa using h2));exact((hks j (by simpa using h1) (by simpa using h2)).tk wz).low (by rw[oK m];lia)
     ·have:=uI (x:=m4) (show i<m.ks.length by lia);rw[Wj m,av];have:=j3 (Qj (show i<m.ks.length by lia))
      lia
   rintro e H2 ⟨rfl,a,y⟩;refine aM ⟨C,p,11,t+1,rfl,a,⟨by decide,by decide⟩,by lia,λr H3 r0 r1 ju jd=>?_⟩;have PV:=y.trans jd;have Ia:bf H3 (di m) v m:=(hm.tk (hn.ts PV)).low (Qy _);have Z0:1<=di m:=by rw[oK m];lia
   clear a y gL hL s1 N sh hks;have hz:bq "zz":=l_ "zz";have ha:bq "a":=l_ "a";have hv:bq "v":=l_ "v";have DH:bq "w":=l_ "w";have Bk:bq "nn":=l_ "nn";have p_:=lA m;refine PM (d:=di m+1) (c:=2*av m+3) (λS=>[af p,some v,af L,none,bg r,af S,none,none]) (aa.refl H3)
    (cR (gb (jG DH) (by lia) (by simp[av,br])) (cR (gb (oJ hz (dZ rfl Ia)) (by lia) (by simp[av,br];lia)) (cR (gb (fZ (dZ rfl Ia) (dZ rfl Ia)) (by lia) (by simp[av,br];lia)) jZ))) (by decide) λS4 ap H4 s4 W4=>?_
   have AR:=Ia.tk s4.ts;refine PN (λS=>[af p,some v,af L,none,bg r,af S,none,none]) W4 rfl (by decide)
    (cR (gb (lN (cs:=[]) (dZ rfl AR) jJ ⟨by decide,(λc h=>nomatch h),by decide⟩) (by lia) (by simp[av,br];lia)) (cR (gb (a1k Bk (dZ rfl AR) (a4j "nn")) (by lia) (by simp[av,br];lia)) (cR (gb oO (by lia) (by simp[av,br])) jZ))) (by decide) λS5 PX H5 s5 W5=>?_
   have ag:=AR.tk s5.ts;refine aT (λe u=>X2 λvg ve=>e=[af p,some v,af L,none,bg r,af S5,some vg,some ve]/\aa H5 u/\bf u 1 vg (.mk (.get "w") [])/\bf u 1 ve (.mk (.dw []) [])) (λnx ay=>?_) ?_
   ·refine aat (jG DH) oO (σ:=[af p,some v,af L,none,bg r,af S5,none,none]) (H:=H5) λpr vg ve H6 s6 g6 mg me=>iN g6 (ay _ _ ⟨vg,ve,rfl,s6,mg,me⟩)
   rintro e H6 ⟨vg,ve,rfl,s6,PY,ah⟩;have W6:=W5.same s6;have Lk:=ag.tk s6.ts;refine PN (λS=>[af p,some v,af L,none,bg r,af S,some vg,some ve]) W6 rfl (by decide)
    (cR (gb (oJ ha (dZ rfl Lk)) (by lia) (by simp[av,br];lia)) (cR (gb (lN (cs:=[("a","v")]) (dZ rfl Lk) (mB (dZ rfl (PY.up (by lia))) jJ) ⟨by decide+kernel,by simp[ha,hv],by decide⟩) (by lia) (by simp[av,br];lia)) jZ)) (by decide) λS7 ar H7 s7 W7=>?_
   have Ib:=Lk.tk s7.ts;have ai:=PY.tk s7.ts;have al:=ah.tk s7.ts;have zd:bq "u":=l_ "u";have R:bq "b":=l_ "b";have am:bq "ba":=l_ "ba";have an:bq "aa":=l_ "aa";have Jp:bq "bb":=l_ "bb";refine sH W7 rfl (by decide) (gb (lN (cs:=[("b","v"),("ba","u")]) (dZ rfl Ib) (mB (lM (jG hv) (by lia)) (mB (dZ rfl (ai.up (by lia))) jJ)) ⟨by decide+kernel,by simp[R,am,hv,zd],by decide⟩) (by lia) (by simp[av,br];lia)) λPZ H8 t8 W8=>?_;have Fq:=Ib.tk t8;have P0:=al.tk t8;refine sH W8 rfl (by decide) (gb (lN (cs:=[("a","v")]) (dZ rfl Fq) (mB (dZ rfl (P0.up (by lia))) jJ) ⟨by decide+kernel,by simp[ha,hv],by decide⟩) (by lia) (by simp[av,br];lia)) λas H9 t9 W9=>?_;have Ft:=Fq.tk t9;have ao:=P0.tk t9;refine sH W9 rfl (by decide) (gb (lN (cs:=[("aa","v"),("bb","u")]) (dZ rfl Ft) (mB (lM (jG hv) (by lia)) (mB (dZ rfl (ao.up (by lia))) jJ)) ⟨by decide+kernel,by simp[an,Jp,hv,zd],by decide⟩) (by lia) (by simp[av,br];lia)) λLl zx au xh=>?_;obtain⟨i,rfl⟩:∃i:Nat,r=(i:Int):=⟨r.toNat,by lia⟩
   have V:i<Ll.length:=by rw[xh.l];lia
   exact⟨Ll,Ll[i],.inl (ak.of xh.g),bU (Qa V),q _ zx (xh.o _ (Qj V)) ((ju.same xh.s).mono (by lia)) (PV.trans xh.s.sm)⟩
inductive Ie (d:Nat)(vs:Qbi)(H:Hp)(Q:VK)(b_:XK):Prop
 |mk (v:V) (m:Mr) (L:Addr) (zs:Qa8):vs=[v,.ref L]->bf H d v m->H L=be (zs.map V.str)->zs.length+d<=1000->(∀b Z,aa H Z->Q (.bl b) Z)->Ie d vs H Q b_
theorem rX{L:Addr}{a:Qa8}{Q:VK}(g:H L=some (.lst (a.map V.str)))(f:a.length<=1000)(k:∀S Z,aa H Z->Z S=some (.lst ((a++[z]).map V.str))->Q (.ref S) Z):([V.str z].length<=sizeLine/\∀p,H p=none->BX (.ref L) (.ref p) (upd H p (.lst [.str z])) Q):=by
 have c:sizeLine=16777216:=QL;refine⟨ik,λp d=>?_⟩;have b:=aa.upd d (.lst [V.str z]);refine⟨_,_,b _ _ g,aB,by simp;lia,λS e=>?_⟩;exact k S _ (b.trans (aa.upd e _)) (by rw[Qm];exact aB)
theorem mM(T:Txt K mg w):∀d:Nat,aq P w K mg base (2+d) "_law_is_closed" ["_law_maker","_law_known"] (Ie d):=by
 intro n
 induction n with
 |zero=>
  refine T.iO.dh (k:=1) cM ?_ ?_
  ·rintro _ _ _ _ ⟨v,m,L,q,rfl,_⟩;rfl
  ·rintro f az A r s H vs Q E t ⟨v,m,L,q,rfl,h,_⟩;cases h
 |succ n ih=>
  have cF:aq P w K mg base (2+n) "_law_is_closed" ["_law_maker","_law_known"] (Ie n):=ih;refine T.iO.dh (k:=2+n) cM ?_ ?_
  ·rintro _ _ _ _ ⟨v,m,L,q,rfl,_⟩;rfl
  ·rintro f az A r s H vs Q E t ⟨v,m,L,q,rfl,hm,I,hz,k⟩;obtain⟨hu,bj,hsz⟩:=c9 t;refine⟨_,(aE (aQ 2 cM.nd (aN K (zv 0) aF))
   (aE (bF (aK (aZ bj) (zv 2) aG) (aI (aU (wI (kS K) (aN K (zv 0) aF) (zv 1) rfl))) aW)
   (aE (bF (aK (aZ bj) (zv 2) aG) (aI (aU (aR cF t (aJ (aN K (zv 0) aF) (cJ (bN bT (zv 1) (bK (aJ (aN K (zv 0) aF) aC))) aC))))) aW)
   (aE (bF (aK (aZ bj) (zv 2) aG) (aE (bF (yG (lJ (aR cF t (aJ (aN K (zv 0) aF) (aD (zv 1) aC))))) (aI (aU Eg)) aW)
   (aI (aU (bY (mP K rfl) T.J6 PyProof.Rows.boot_all (cG (iB ["_law_one"] [1] ["_law_one","_law_known"] (d6 cM) (lT K (aN K (zv 0) aF)) (λ_ _ _ _ _ _=>(cD 0)) (λ_ _ _ _ _ _=>(aR cF t (aJ (aN K (zv 0) aF) (cJ (bN bT (zv 1) (bK (aJ (aN K (zv 0) aF) aC))) aC))))) aC))))) aW)
   (aI (aU (bY (mP K rfl) T.J6 PyProof.Rows.boot_all (cG (iB ["_law_one"] [1] ["_law_one","_law_known"] (d6 cM) (lT K (aR (cQ T) t (aD (zv 0) aC))) (λ_ _ _ _ _ _=>(cD 0)) (λ_ _ _ _ _ _=>(aR cF t (aD (zv 0) (aD (zv 1) aC))))) aC)))))))),?_⟩
   obtain⟨n',J,en,sh,ok,dj,hks⟩:=hm.out;obtain rfl:n=n':=by lia
   obtain⟨f,ms⟩:=m;dsimp only[Mr.f,Mr.ks]at sh ok dj hks;obtain⟨a,ys,rfl,ea⟩:=sh.ref;have hl:=sh.len;have jx:=a_.few ok;refine aM ⟨_,.str f.au,.inr (ae.of ea),aV _ _,?_⟩
   (try dsimp only)
   by_cases hb:f.au≠"get"/\f.au≠"fn"/\f.au≠"split"
   ·obtain⟨b1,b2,b3⟩:=hb;have nb:∀{z:Str},f.au≠z->¬(false^^decide (V.str f.au=V.str z))=true:=λh c=>absurd (V.str.inj (Qt ((QE _).symm.trans c))) h;refine⟨rfl,_,rfl,aj (λc=>absurd c (nb b1)) (λ_=>aO ?_)⟩;refine⟨rfl,_,rfl,aj (λc=>absurd c (nb b2)) (λ_=>aO ?_)⟩;refine⟨rfl,_,rfl,aj (λc=>absurd c (nb b3)) (λ_=>bD ?_)⟩;refine⟨.ref a,J,rfl,sh.uc ok,λL2 H2 Du Bm j=>Or.inl ⟨⟨J,ak.of Bm⟩,λD N=>?_⟩⟩;refine eM (cB J) (λi o l=>(∃g:List Bool,g.length=i/\l D=be (g.map V.bl))/\aa H2 l/\∃u,o=[u,af L]) ⟨⟨[],rfl,aB⟩,aa.upd N _,none,rfl⟩ (λi o l _ h=>ak.of (h.2.1 _ _ Bm)) ?_ ?_
    ·rintro i o l R ⟨⟨g,AI,x⟩,p,u,rfl⟩;have fh:i<ms.length:=by lia
     have eg:J.getD i .ao=J[i]:=by simp[Qb,R]
     rw[eg];have C:=j.trans p;refine⟨J[i],ms[i],L,q,rfl,(hks i R fh).tk C.ts,C _ _ I,by lia,λb H4 s4=>?_⟩;exact⟨_,s4 _ _ x,by simp;lia,⟨g++[b],by simp[AI],by rw[Qm];exact aB⟩,(p.trans s4).put N,_,rfl⟩
    ·rintro o l ⟨⟨g,AI,x⟩,p,u,rfl⟩;exact⟨g,ak.of x,k _ _ (j.trans p)⟩
   cases sh with
   | @get a z e=>
    simp only[a_.au];refine⟨rfl,_,rfl,aj (λ_=>?_) (λc=>absurd c (by decide+kernel))⟩;refine⟨_,.str z,.inr (ae.of e),rfl,?_⟩;exact⟨_,.inl (ak.of I),rfl,by simp[x_],k _ _ (aa.refl _)⟩
   | @fn a v0 r0 x0 e=>
    simp only[a_.au];refine⟨rfl,_,rfl,aj (λc=>absurd c (by decide+kernel)) (λ_=>aO ?_)⟩;refine⟨rfl,_,rfl,aj (λ_=>?_) (λc=>absurd c (by decide+kernel))⟩;obtain⟨y,rfl⟩:=qm dj.symm;refine⟨_,x0,.inr (ae.of e),rfl,?_⟩;refine⟨_,.str v0,.inr (ae.of e),rfl,?_⟩;refine rX I (by lia) λS H2 j gS=>?_;exact⟨x0,y,S,q++[v0],rfl,(hks 0 (by simp) (by simp)).tk j.ts,gS,by simp;lia,λb Z s'=>k b Z (j.trans s')⟩
   | @split a b cs x0 B qh e e' rm=>
    simp only[a_.au];refine⟨rfl,_,rfl,aj (λc=>absurd c (by decide+kernel)) (λ_=>aO ?_)⟩;refine⟨rfl,_,rfl,aj (λc=>absurd c (by decide+kernel)) (λ_=>aO ?_)⟩;refine⟨rfl,_,rfl,aj (λ_=>?_) (λc=>absurd c (by decide+kernel))⟩;obtain⟨y,G,rfl⟩:X2 λy G=>ms=y::G:=by
     cases ms with
     |nil=>simp at dj
     |cons y G=>exact⟨y,G,rfl⟩
    have f_:=rm.l1;have iz:=rm.l2;have jt:(fm cs).length=cs.length:=by simp[fm]
    have Pf:qh.length=G.length:=by simpa using dj
    simp only[Qac]at hl;simp only[a_.ar]at hl jx;refine⟨_,x0,.inr (ae.of e),rfl,x0,y,L,q,rfl,hks 0 (by simp) (by simp),I,by lia,λb1 H2 j=>?_⟩;refine⟨b1,rfl,aj (λc=>k _ _ j) (λc=>bD ?_)⟩;refine⟨_,.ref b,.inr (ae.of (j _ _ e)),rfl,Or.inr ⟨⟨B,ae.of (j _ _ e')⟩,λD N=>?_⟩⟩;refine eM (dA B) (λi o l=>(∃g:List Bool,g.length=i/\l D=be (g.map V.bl))/\aa H2 l/\∃u,o=[u,af L]) ⟨⟨[],rfl,aB⟩,aa.upd N _,none,rfl⟩ (λi o l _ h=>ae.of (h.2.1 _ _ (j _ _ e'))) ?_ ?_
    ·rintro i o l R ⟨⟨g,AI,x⟩,p,u,rfl⟩;obtain⟨c,c1,c2⟩:=rm.at_ i R (by lia) (by lia)
     have eg:B.getD i .ao=.ref c:=by rw[<- c1];simp[Qb,R]
     rw[eg];have C:=j.trans p;have c3:=C _ _ c2;simp only[fm,Qr,Qan,Qaz]at c3;refine⟨_,qh[i]'(by lia),.inr (ae.of c3),rfl,?_⟩;refine⟨_,.str (cs[i]'(by lia)).2,.inr (ae.of c3),rfl,?_⟩;refine rX (C _ _ I) (by lia) λS H4 s4 gS=>?_;refine⟨qh[i]'(by lia),G[i]'(by lia),S,q++[(cs[i]'(by lia)).2],rfl,(hks (i+1) (by simp;lia) (by simp;lia)).tk (C.trans s4).ts,gS,by simp;lia,λb2 H5 s5=>?_⟩;have P1:=s4.trans s5;exact⟨_,P1 _ _ x,by simp;lia,⟨g++[b2],by simp[AI],by rw[Qm];exact aB⟩,(p.trans P1).put N,_,rfl⟩
    ·rintro o l ⟨⟨g,AI,x⟩,p,u,rfl⟩;exact⟨g,ak.of x,k _ _ (j.trans p)⟩
   |_=>exact absurd ⟨by simp only[a_.au];decide+kernel,by simp only[a_.au];decide+kernel,by simp only[a_.au];decide+kernel⟩ hb
theorem sF{K:QZ}{c:Nat}{Q:VK}(G:CF σ H ta d c n)(g:n<=50)(k:∀vs L Z,aa H Z->H L=none->Z L=some (.lst vs)->vs.length=n->(∀v∈vs,MB Z d c v)->te σ Z λy H2=>Ef K (.ref L) y H2 Q):s_ (Ef K) (A2 ta) te σ H Q:=
 G H _ (aa.refl _) λvs h b e hv=>⟨by have:sizeLine=16777216:=QL;lia,λL a=>k vs L _ (b.trans (aa.upd a _)) (b.free a) aB e λx f=>(hv x f).tk (aa.upd a _).ts⟩
inductive Lm (K:QZ)(vs:Qbi)(H:Hp)(Q:VK)(b_:XK):Prop
 |mk (H0:Hp) (p:Addr) (t:Nat) (z:Str):vs=[.ref p,.str z]->cj K H0 H p t->t<900000->bq z->(∀v Z,MB Z 40 400 v->cj K H0 Z p (t+1)->Sm p p H Z->Q v Z)->Lm K vs H Q b_
theorem pB(T:Txt K mg w):aq P w K mg base 3 "_law_growing" ["_law_pen","_law_name"] (Lm K):=by
 refine T.qI.dh cV ?_ ?_
 ·rintro _ _ _ _ ⟨u,p,t,z,rfl,_⟩;rfl
 ·rintro f az A h s H a Q E hr ⟨u,p,t,z,rfl,hn,ht,hz,q⟩;have ag:sizeLine=16777216:=QL;have e:bq "a":=l_ "a";have g:bq "b":=l_ "b";have DH:bq "w":=l_ "w";have j:bq "v":=l_ "v";refine⟨_,(aE (aQ 2 cV.nd (aL (aA aG (aH (aL (aA aG (aA aG aC))) (aA aG aC)))))
   (aE (aQ 3 cV.nd (aN K (bK (aH (aL (aA aG (aA aG (aD (zv 2) aC)))) (aH (aL (aA aG (aH (aL (aH (aL (aA aG (aD (zv 2) aC))) (aH (aL (aA aG (aD (zv 2) aC))) aC))) aC))) aC))) (aR (bM T) hr (aD (zv 0) (aA aF aC)))))
   (aE (aQ 4 cV.nd (aL (aA aG (aH (aL (aA aG (aA aG aC))) (aA aG aC)))))
   (aE (aQ 5 cV.nd (aL (aA aG (aA aG (aD (zv 1) (aH (aL (aA aG (aD (zv 4) (aH (aL (aA aG (aH (aL (aH (aL (aA aG (aD (zv 4) aC))) (aH (aL (aA aG (aD (zv 3) aC))) aC))) aC))) aC)))) aC))))))
   (aI (aU (aL (aA aG (aD (zv 5) (aH (aL (aA aG (aH (aL (aH (aL (aA aG (aD (zv 5) aC))) (aH (aL (aA aG (aH (aL (aA aG (aH (aL aC) aC))) aC))) aC))) aC))) aC)))))))))),?_⟩
  refine aM (oJ (H:=H) g (jG j) H _ (aa.refl _) λv1 H1 x k=>?_);have b:=hn.same x;refine aM (sF (n:=2) (cR (gb (d:=4) (c:=5) (a27 (H:=H1) (te:=tV 2) DH (dZ rfl k)) (by lia) (by simp[av,br])) (cR (gb (tR (ws:=["a","b"]) (mC (te:=tV 2) (dZ rfl k) (mC (te:=tV 2) (dZ rfl k) jJ)) ⟨by decide+kernel,by simp[e,g],by decide⟩) (by lia) (by simp[av,br])) jZ)) (by decide) λa L H3 y fL g3 hl l=>?_);have C:=b.same y;have D:L≠p:=b.ne fL;refine⟨u,p,2,t,rfl,C,by decide,by lia,λr G r0 r1 ja m=>?_⟩;obtain⟨i,rfl⟩:∃i:Nat,r=(i:Int):=⟨r.toNat,by lia⟩
  have I:i<a.length:=by lia
  refine⟨a,a[i],.inl (ak.of (m _ _ g3 D D)),bU (Qa I),?_⟩;obtain⟨mm,P4,hc⟩:=(l _ (Qj I)).tk (C.ts m);generalize a[i]=v2 at P4;refine aM (oJ (H:=G) e (jG j) G _ (aa.refl _) λv5 N R V=>?_);have o:=P4.tk R.ts;refine aM (qV (H:=N) (tz:=tV 1) (d:=6) j hz (yZ rfl) (fZ (te:=tV 4) (dZ rfl (V.up (by lia))) (tR (ws:=["a","b"]) (mC (te:=tV 4) (dZ rfl (V.up (show 2<=4 by lia))) (mC (te:=tV 3) (dZ rfl o) jJ)) ⟨by decide+kernel,by simp[e,g],by decide⟩)) N _ (aa.refl _) λv6 H6 s6 m6=>?_);refine fZ (H:=H6) (te:=tV 5) (d:=9) (dZ rfl (m6.up (by lia))) (tR (ws:=["a","b"]) (mC (te:=tV 5) (dZ rfl (m6.up (show 7<=8 by lia))) (mC (lM oO (by lia)) jJ)) ⟨by decide+kernel,by simp[e,g],by decide⟩) H6 _ (aa.refl _) λv7 H7 s7 m7=>?_;have Fi:=(R.trans s6).trans s7;exact q _ _ ⟨_,m7.up (by lia),by simp only[av,br];lia⟩ (ja.same Fi) ((x.trans y).sm.trans (m.trans Fi.sm))
def je:Qa8:=["a","b","c","d","e","f","g","h"]
theorem sl8:∀n:Nat,n<=8->(Txt.slice "abcdefgh" none (some (n:Int))).cps.size=n/\∀i,i<n->(⟨#[(Txt.slice "abcdefgh" none (some (n:Int))).cps.getD i 0]⟩:Str)=je.getD i "":=by decide+kernel
theorem sl3:∀i:Nat,i<3->(⟨#[("abc":Str).cps.getD i 0]⟩:Str)=je.getD i "":=by decide+kernel
theorem vP:∀i:Nat,i<8->je.take (i+1)=je.take i++[je.getD i ""]:=by decide+kernel
theorem sI(n:Nat):AK (je.take n):=⟨List.Nodup.sublist (List.take_sublist ..) (by decide+kernel),λz a=>by
 have:∀z∈je,z.length<=1:=by decide+kernel
 exact Qaa (this z (QaQ a)) (by decide),by have:je.length=8:=rfl;simp;lia⟩
theorem w6(a b:Qa8):d_ (a++b)=d_ a++d_ b:=by simp[d_]
theorem fj.lens{ls:List Qbi}{a:Qbi}{dep b:Nat}(h:fj H ls a dep b):a.length=ls.length:=by
 obtain⟨ms,J,h1,_⟩:=h;rw[h1.l1,h1.l2]
inductive Lo (vs:Qbi)(H:Hp)(Q:VK)(b_:XK):Prop
 |mk (z:Str) (S:Addr) (ns:Qbc):vs=[.str z,.ref S]->bq z->(H S=be (ns.map λn:Nat=>V.int (n:Int)))->ns.length<=3->(∀n∈ns,n<=8)->(∀a B Z,aa H Z->Z a=bw B->fj Z (d_ (je.take ns.length)) B 2 (ns.sum+ns.length)->Q (.ref a) Z)->Lo vs H Q b_
set_option maxHeartbeats 1000000 in
theorem vU(T:Txt K mg w):aq P w K mg base 1 "_law_gets" ["_law_name","_law_sizes"] Lo:=by
 refine T.wV.dh dI ?_ ?_
 ·rintro _ _ _ _ ⟨z,S,b,rfl,_⟩;rfl
 ·rintro f az A ag s H vs Q E hr ⟨z,S,b,rfl,hz,gS,Nt,z_,k⟩;have am:sizeLine=16777216:=QL;refine⟨_,(aE (aQ 2 dI.nd (bK aC))
   (aE (dP PassesOwn.never rfl (Yc K (by rfl) T.EI (aA aG (aD (zv 1) aC))) (dN K (n:=2) rfl (bA (bS 3 dI.nd) (bA (bS 4 dI.nd) cP))) (aE (aQ 5 dI.nd (dG (cK K) T.dX QG (cG (iB ["_law_letter"] [0] ["_law_letter","_law_name"] (d6 dI) (lT K (cT (lR K) aG cS (cU (zv 4)))) (λ_ _ _ _ _ _=>(cD 0)) (λ_ _ _ _ _ _=>(aL (aD (zv 0) (aH (aL (aA aG (aD (zv 1) aC))) aC))))) aC)))
   (aI (cE (gT K QH QJ QK bJ (zv 2) (aH (aL (aD (zv 3) (aH (aL (aA aG (aD (zv 5) aC))) aC))) aC))))))
   (aI (aU (dG (cK K) T.dX QG (aD (zv 2) aC)))))),?_⟩
  refine aM ⟨ki,λF hF=>?_⟩;have s0:=aa.upd hF (.lst []);have g0:upd H F (.lst []) F=be []:=aB
  (try dsimp only)
  generalize upd H F (.lst [])=H1 at s0 g0;refine aT (λa c=>X4 λm o q e=>a=[cg z,af S,af F,m,o,q]/\c F=be e/\fj c (d_ (je.take b.length)) e 2 (b.sum+b.length)/\aa H c) ?_ ?_
  ·intro nx ay;have e3:("abc":Str).cps.size=3:=by decide+kernel
   refine⟨"abc",S,b.map λn:Nat=>V.int (n:Int),rfl,by decide+kernel,ak.of (s0 _ _ gS),?_⟩;refine lB (Yd _) (λi a c=>X4 λm o q e=>a=[cg z,af S,af F,m,o,q]/\c F=be e/\fj c (d_ (je.take i)) e 2 ((b.take i).sum+i)/\aa H c) ⟨none,none,none,[],rfl,g0,fj.nil,s0⟩ (by rintro i τ c _ ⟨_,_,_,_,_,_,_,s⟩;exact ak.of (s _ _ gS)) ?_ ?_
   ·rintro i a H2 tt hi ⟨m,o,q,e,rfl,g2,r,x⟩ yk;have fh:i<b.length:=by simp at hi;lia
    have ew:(b.map λn:Nat=>V.int (n:Int)).getD i .ao=.int ((b[i]:Nat):Int):=by simp[Qb,fh]
    rw[ew,sl3 i (by lia)];have hn:=z_ b[i] (Qj fh);have Y:(b.take (i+1)).sum=(b.take i).sum+b[i]:=by rw[Qs,Qa fh,List.sum_append];simp
    generalize b[i]=n at hn Y;have ah:=r.lens;have cu:e.length<=3:=by rw[ah];simp[d_];lia
    have s3:=aa.upd yk (.tup [.str (je.getD i ""),.int (n:Int)]);have g3:=s3 _ _ g2;have E8:=r.tk s3.ts;have P5:=x.trans s3;generalize upd H2 tt (.tup [.str (je.getD i ""),.int (n:Int)])=H3 at s3 g3 E8 P5;refine aT (λa c=>X2 λB g=>a=[cg z,af S,af F,cg (je.getD i ""),bg (n:Int),af B]/\c B=bw g/\fj c (d_ (je.take n)) g 1 n/\aa H3 c) ?_ ?_
    ·intro ky vm;obtain⟨Am,hs2⟩:=sl8 n hn;refine⟨_,rfl,Or.inl ⟨_,rfl,(show 8<=sizeLine by decide),λD hD=>?_⟩⟩;generalize Txt.slice "abcdefgh" none (some (n:Int))=sl at Am hs2;refine eM (UI sl) (λj τ c=>X2 fun(v0:Qbj)(g:Qbi)=>τ=[v0,cg z]/\c D=be g/\fj c (d_ (je.take j)) g 1 j/\aa H3 c) ⟨none,[],rfl,aB,fj.nil,aa.upd hD _⟩ (λ_ _ _ _ _=>True.intro) ?_ ?_
     ·rintro j τ u hj ⟨v0,g,rfl,q1,y,q3⟩;rw[Am]at hj;rw[hs2 j hj];have ai:=y.lens;have an:g.length<=8:=by rw[ai];simp[d_];lia
      refine⟨bx,λd om=>?_⟩;have C:=aa.upd om (.tup [.str "get",.str z]);have G:upd u d (.tup [.str "get",.str z]) d=bw [.str "get",.str z]:=aB;generalize upd u d (.tup [.str "get",.str z])=I at C G;refine⟨bx,λh j_=>?_⟩;have t:=aa.upd j_ (.tup [.str (je.getD j ""),.ref d]);have L:upd I h (.tup [.str (je.getD j ""),.ref d]) h=bw ([.str (je.getD j "")]++[.ref d]):=aB;generalize upd I h (.tup [.str (je.getD j ""),.ref d])=N at t L;have l:=C.trans t;have q4:=l _ _ q1;have tk:Tk N (upd N D (.lst (g++[.ref h]))):=Tk.refl.set q4 λ_ z=>nomatch z;refine⟨_,q4,by lia,_,_,rfl,aB,?_,(q3.trans l).put hD⟩;rw[vP j (by lia),w6];exact((y.tk l.ts).snoc L (u5 (t _ _ G) hz) (Qy _)).tk tk
     ·rintro τ u ⟨v0,g,rfl,q1,y,q3⟩;rw[Am]at y;refine⟨D,g,rfl,.inl ⟨ak.of q1,λp R=>vm _ _ ⟨p,g,rfl,aB,y.tk (aa.upd R _).ts,q3.trans (aa.upd R _)⟩⟩⟩
    ·rintro a u ⟨B,g,rfl,gB,al,s4⟩;have g4:=s4 _ _ g3;refine⟨.inl ⟨rfl,_,ak.of g4⟩,bx,λd om=>⟨bx,λh j_=>?_⟩⟩;have C:=aa.upd om (.tup [.str "box",.ref B]);have G:upd u d (.tup [.str "box",.ref B]) d=bw [.str "box",.ref B]:=aB;generalize upd u d (.tup [.str "box",.ref B])=I at C G j_;have t:=aa.upd j_ (.tup [.str (je.getD i ""),.ref d]);have L:upd I h (.tup [.str (je.getD i ""),.ref d]) h=bw ([.str (je.getD i "")]++[.ref d]):=aB;generalize upd I h (.tup [.str (je.getD i ""),.ref d])=N at t L;have l:=C.trans t;have g6:=l _ _ g4;have tk:Tk N (upd N F (.lst (e++[.ref h]))):=Tk.refl.set g6 λ_ z=>nomatch z;obtain⟨sz,h1,h2⟩:=sK (t _ _ G) (l _ _ gB) (al.tk l.ts) (sI n);refine⟨F,e,_,rfl,rfl,g6,by lia,_,_,_,_,rfl,aB,?_,((P5.trans s4).trans l).put hF⟩;rw[vP i (by lia),w6];exact((((E8.tk s4.ts).tk l.ts).snoc (EW:=(b.take i).sum+i+(1+n)) L h2 (by lia)).tk tk).Cs (by lia) (by lia)
   ·rintro a H2 ⟨m,o,q,e,rfl,g2,r,x⟩;have em:min ("abc":Str).cps.size (b.map λn:Nat=>V.int (n:Int)).length=b.length:=by rw[e3];simp;lia
    rw[em,qQ (Qy _)]at r;exact ay _ _ ⟨m,o,q,e,rfl,g2,r,x⟩
  ·rintro a H2 ⟨m,o,q,e,rfl,g2,r,x⟩;exact⟨F,e,rfl,.inl ⟨ak.of g2,λp R=>k p e _ (x.trans (aa.upd R _)) aB (r.tk (aa.upd R _).ts)⟩⟩
theorem a3w{c:Qbi}{dep d:Nat}(e:H b=some (.tup c))(h:fj H (d_ ws) c dep d)(ok:AK ws)(g:H a=some (.tup [.str "box",.ref b])):MB H (dep+1) (1+d) (.ref a):=by
 obtain⟨s,h1,m,h2,h3⟩:=sK g e h ok;exact⟨m,h2,by lia⟩
inductive Lp (vs:Qbi)(H:Hp)(Q:VK)(b_:XK):Prop
 |mk (z:Str):vs=[.str z]->bq z->(∀S ws Z,aa H Z->Z S=be ws->ws.length=5->(∀x∈ws,MB Z 40 400 x)->Q (.ref S) Z)->Lp vs H Q b_
theorem rP{c:Qbi}{f:Nat}(j:σ[i]? =some (some (.ref b)))(e:H b=some (.tup c))(h:fj H (d_ ws) c d f)(ok:AK ws):∃m,av m<=1+f/\GM σ H (ko (cy (tC (.str "box")) (cy (tV i) ip))) (d+1) m:=by
 obtain⟨ms,J,h1,h2,h3⟩:=h;refine⟨.mk (.dw ws) J,by rw[av];lia,λl Q s k=>?_⟩;unfold ko cy tC tV ip;rw[j];refine⟨bx,λp g=>?_⟩;have a:=s.trans (aa.upd g (.tup [.str "box",.ref b]));exact k _ _ (aa.upd g _) (.mk (.dw aB (a _ _ e) (h1.tk a.ts)) ok h2.len (h2.tk a.ts).at_)
theorem oV{t0:TE}{m:Mr}(a:∀(H:Hp)(Q:VK),Q (.int (j:Int)) H->t0 σ H Q)(h:GM σ H te d m)(b:j<=1000):GM σ H (A3 HZ [] E0 (cy t0 (cy te ip))) (d+j) (r_ j m):=λc Q s k=>
 a _ _ (h c _ s λv n e f=>⟨j,d,v,m,rfl,b,f,λr g i l=>k r g (e.trans i) l⟩)
theorem a3y{K:QZ}{u:TS}{c k:Nat}{S:Addr}{ws:Qbi}(W:LW H0 H S ws k d c)(f:σ[i]? =some (some (.ref S)))(s:k<=900)(G:GB σ H te d c)(q:∀gw Z,(Tk H Z/\∀b o,H b=some o->b≠S->Z b=some o)->LW H0 Z S gw (k+1) d c->u D σ Z):vy (DX (CV K "list" CW (tV i) (cy te ip))) u D σ H:=by
 have j:sizeLine=16777216:=QL;have w:=W.l;refine vZ (Q:=λx a=>D7 K "list" x a/\cy te ip σ a λm p=>CW x m p λ_ r=>u D σ r) f ?_;refine⟨.inl ⟨rfl,_,ak.of W.g⟩,G H _ (aa.refl H) λv a e hv=>⟨S,ws,v,rfl,rfl,e _ _ W.g,by lia,?_⟩⟩;obtain⟨t,W'⟩:=W.app e hv;exact q _ _ ⟨t,λb o h n=>by rw[aS n];exact e _ _ h⟩ W'
theorem a1R{K:QZ}{c k:Nat}{S:Addr}{ws:Qbi}(W:LW H0 H S ws k d c)(a:σ[i]? =some (some (.ref S)))(e:k<=900)(G:GB σ H te d c)(q:∀gw Z,(Tk H Z/\∀b o,H b=some o->b≠S->Z b=some o)->LW H0 Z S gw (k+1) d c->D.nx σ Z):DX (CV K "list" CW (tV i) (cy te ip)) D σ H:=a3y (u:=λD σ H=>D.nx σ H) W a e G q
set_option maxHeartbeats 4000000 in
theorem mU(T:Txt K mg w):aq P w K mg base 2 "_law_at_bounds" ["_law_name"] Lp:=by
 refine T.nW.dh bP ?_ ?_
 ·rintro _ _ _ _ ⟨z,rfl,_⟩;rfl
 ·rintro f az A ag s H vs Q E D ⟨z,rfl,R,k⟩;have an:sizeLine=16777216:=QL;have hv:bq "v":=l_ "v";have Ig:bq "u":=l_ "u";refine⟨_,(aE (aQ 1 bP.nd (aR (tH T) D (aA aF (aH (aL (aA aG (aH (aL aC) aC))) aC))))
   (aE (aQ 2 bP.nd (aR (vU T) D (aA aG (oG (bK (aA aF (aA aF (aA aF aC)))) aC))))
   (aE (aQ 3 bP.nd (bK (aH (aL (aA aG (aH (aL (aA aG (aA aG (aD (zv 0) (aH (aL (aA aG (aD (zv 2) aC))) aC))))) (aD (zv 1) aC)))) aC)))
   (aE (aQ 4 bP.nd (bN (eO K) (zv 2) (aL (aH (aL (aA aG (aH (aL (aA aG (aH (aL aC) aC))) aC))) aC))))
   (aE (cE (gT K QH QJ QK bJ (zv 3) (aH (aL (aA aG (aH (aL (aA aG (aA aG (aD (zv 0) (aH (aL (aA aG (aD (zv 4) aC))) aC))))) (aD (zv 1) aC)))) aC)))
   (aE (aQ 5 bP.nd (aL (aA aG (aH (aL (aA aG (aA aG (aD (zv 0) (bB (aR (tH T) D (aA aF (aH (aL (aA aG (aA aG aC))) aC))) aC))))) (aD (zv 1) aC)))))
   (aE (dP PassesOwn.never rfl (lT K (bK (aA aF (aA aF aC)))) (bS 6 bP.nd) (aI (cE (gT K QH QJ QK bJ (zv 3) (aH (aL (aA aG (aH (aL (aA aG (aA aG (aD (zv 0) (bB (aR (tH T) D (aD (zv 6) (aH (aL (aA aG (aA aG aC))) aC))) aC))))) (aD (zv 5) aC)))) aC)))))
   (aE (aQ 7 bP.nd (aR (tH T) D (aA aF (aH (aL (aA aG (bB (aR (vU T) D (aA aG (oG (bK (aA aF (aA aF aC))) aC))) aC))) aC))))
   (aI (aU (bN bT (zv 3) (bK (aH (aL (aA aG (aH (aL (aA aG (aA aG (aD (zv 0) (aD (zv 7) aC))))) (aD (zv 5) aC)))) aC))))))))))))),?_⟩
  refine aM (oV (H:=H) (j:=17) (λ_ _ q=>q) oO (by decide) H _ (aa.refl _) λn H1 s1 m1=>?_);have c1:av (r_ 17 (.mk (.dw []) []))<=18:=by rw[fJ];simp[av,br]
  generalize r_ 17 (.mk (.dw []) [])=mv at m1 c1;refine aM ⟨gz,λL hL=>⟨"v",L,[8,7,7],rfl,hv,aB,by decide,by decide,λa B H2 s2 ga rwa=>?_⟩⟩;have V:=(aa.upd hL _).trans s2;have m2:=m1.tk V.ts;have ah:=s1.trans V;clear s2 hL;obtain⟨mr,cr,G2⟩:=rP (σ:=[cg z,some n,af a,none,none,none,none,none]) (i:=2) rfl ga rwa (sI 3);refine PM (d:=40) (c:=400) (λS=>[cg z,some n,af a,af S,none,none,none,none]) ah
   (cR (gb (d':=19) (fZ (qV (d:=3) hv R (yZ rfl) G2 |> (lM · (by lia))) (dZ rfl m2)) (by lia) (by simp[av,br]at cr⊢;lia)) jZ) (by decide) λS ap H3 s3 W3=>?_
  have m3:=m2.tk s3.ts;refine aM ⟨ki,λt om=>⟨bx,λu j_=>⟨bx,λr Hf=>⟨ik,λp4 Kf=>?_⟩⟩⟩⟩;have t1:=aa.upd om (.tup []);have f1:upd H3 t (.tup []) t=bw []:=aB;generalize upd H3 t (.tup [])=G1 at*;have t2:=aa.upd j_ (.tup [.str "box",.ref t]);have f2:upd G1 u (.tup [.str "box",.ref t]) u=bw [.str "box",.ref t]:=aB;generalize upd G1 u (.tup [.str "box",.ref t])=P6 at*;have t3:=aa.upd Hf (.tup [.str "d",.ref u]);have f3:upd P6 r (.tup [.str "d",.ref u]) r=bw ([.str "d"]++[.ref u]):=aB;generalize upd P6 r (.tup [.str "d",.ref u])=G3 at*;have t4:=aa.upd Kf (.tup [.ref r]);have f4:upd G3 p4 (.tup [.ref r]) p4=bw [.ref r]:=aB;generalize upd G3 p4 (.tup [.ref r])=G4 at*;have P7:=t1.trans (t2.trans (t3.trans t4));have ar:B.length<=3:=by have:=rwa.lens;simp[d_]at this;lia
  refine By ((s3.trans P7) _ _ ga) f4 (λz=>by have:=rwa.lens;rw[z]at this;exact absurd this (by decide)) (by simp;lia) λI H4 s4 ai=>?_;have DP:=P7.trans s4;have al:fj H4 (d_ (je.take 4)) (B++[.ref r]) 2 26:=((rwa.tk (s3.trans DP).ts).snoc (s4 _ _ (t4 _ _ f3)) ((lP ((t3.trans (t4.trans s4)) _ _ f2) ((t2.trans (t3.trans (t4.trans s4))) _ _ f1)).up (by lia)) (show 25+1<=26 by decide))
  have m4:=m3.tk DP.ts;have W4:=W3.same DP;obtain⟨mr4,cr4,G4'⟩:=rP (σ:=[cg z,some n,af a,af S,af I,none,none,none]) (i:=4) rfl ai al (sI 4);refine sH W4 rfl (by decide) (gb (d':=19) (fZ (qV (d:=3) hv R (yZ rfl) G4' |> (lM · (by lia))) (dZ rfl m4)) (by lia) (by simp[av,br]at cr4⊢;lia)) λPX H5 t5 W5=>?_;have m5:=m4.tk t5;refine aM (fZ (H:=H5) (d:=18) (qV (d:=13) hv R (yZ (i:=0) rfl) (oV (j:=12) (λ_ _ q=>q) (jG hv) (by decide)) |> (lM · (by lia))) (dZ (i:=1) rfl m5) H5 _ (aa.refl _) λx H6 s6 m6=>?_);have c6:av (.mk .call [.mk (.fn "v" z) [r_ 12 (.mk (.get "v") [])],mv])<=33:=by simp only[av,br,fJ];lia
  generalize Mr.mk .call [.mk (.fn "v" z) [r_ 12 (.mk (.get "v") [])],mv]=mi at m6 c6;have W6:=W5.same s6;refine aT (λh y=>X2 λm C=>h=[cg z,some n,af a,af S,af I,some x,m,none]/\LW H y S C 4 40 400/\bf y 19 x mi) ?_ ?_
  ·intro nx ay;refine⟨bx,λL2 Du=>Or.inl ⟨⟨_,ak.of aB⟩,?_⟩⟩;have sL:=aa.upd Du (.lst [.int 10,.int 11]);have gL:upd H6 L2 (.lst [.int 10,.int 11]) L2=be [.int 10,.int 11]:=aB;have nL:L2≠S:=λe=>by rw[e,W6.g]at Du;cases Du
   have W7:=W6.same sL;have m7:=m6.tk sL.ts;generalize upd H6 L2 (.lst [.int 10,.int 11])=H7 at sL gL W7 m7;refine dF (cB [.int 10,.int 11]) (λi h y=>X2 λm C=>h=[cg z,some n,af a,af S,af I,some x,m,none]/\LW H y S C (2+i) 40 400/\bf y 19 x mi/\y L2=be [.int 10,.int 11]) ⟨none,PX,rfl,W7,m7,gL⟩ (by rintro i τ y _ ⟨_,_,_,_,_,g⟩;exact ak.of g) ?_ ?_
   ·rintro i h H8 hi ⟨m,C,rfl,W8,N,g8⟩;have as:i<2:=hi;obtain⟨j,hj,ew⟩:∃j:Nat,j<=11/\([.int 10,.int 11]:Qbi).getD i .ao=.int (j:Int):=by
     rcases(show i=0\/i=1 by lia)with rfl|rfl
     ·exact⟨10,by decide,rfl⟩
     ·exact⟨11,by decide,rfl⟩
    rw[ew];have G:=fZ (σ:=[cg z,some n,af a,af S,af I,some x,bg (j:Int),none]) (H:=H8) (d:=19) (qV (d:=12) Ig R (yZ (i:=0) rfl) (lM (oV (t0:=tV 6) (j:=j) (by intro H Q q;exact vZ rfl q) (jG Ig) (by lia)) (by lia)) |> (lM · (by lia))) (dZ (i:=5) rfl N);refine a1R (i:=3) W8 rfl (by lia) (gb G (by lia) (by simp only[av,br,fJ];lia)) λv9 H9 s9 W9=>?_;exact⟨_,_,rfl,W9,(N.tk s9.1),s9.2 _ _ g8 nL⟩
   ·rintro h H8 ⟨m,C,rfl,W8,N,_⟩;exact ay _ _ ⟨m,C,rfl,W8,N⟩
  rintro h H7 ⟨m,C,rfl,W7,m7⟩;refine aM ⟨bx,λL hL=>⟨"u",L,[8,5],rfl,Ig,aB,by decide,by decide,λb ys H8 s8 gy am=>⟨bx,λp hp=>?_⟩⟩⟩;have sp:=aa.upd hp (.tup [.str "box",.ref b]);obtain⟨mb,hmb,cb⟩:=a3w (a:=p) (sp _ _ gy) (am.tk sp.ts) (sI 2) aB;have P8:=((aa.upd hL _).trans s8).trans sp;generalize upd H8 p (.tup [.str "box",.ref b])=H9 at hmb P8;refine⟨9,3,.ref p,mb,rfl,by decide,hmb,λv7 HA sA mA=>?_⟩;have cp:av (r_ 9 mb)<=25:=by rw[fJ];simp at cb;lia
  generalize r_ 9 mb=mp at mA cp;have P9:=P8.trans sA;have WA:=W7.same P9;have N:=m7.tk P9.ts;have G9:=cR (c:=400) (gb (d:=40) (fZ (σ:=[cg z,some n,af a,af S,af I,some x,m,some v7]) (H:=HA) (d:=19) (qV (d:=12) Ig R (yZ (i:=0) rfl) (dZ (i:=7) rfl mA) |> (lM · (by lia))) (dZ (i:=5) rfl N)) (by lia) (by simp only[av,br];lia)) jZ;refine a3o (σ:=[cg z,some n,af a,af S,af I,some x,m,some v7]) (i:=3) WA rfl (by decide) G9 (by decide) λS' gw HB sB WB=>k S' gw HB WB.s WB.g WB.l WB.o
def Lq:Kd->Tv
 | .val=>.t [.s "value"]
 | .stuck p=>.t [.s "stuck",.t (p.map λk:Nat=>.i (k:Int))]
 | .on=>.t [.s "on"]
def tvR:Nat ⊕ (Mr×Nat×Kd)->Tv
 | .inl k=>.t [.s "many",.i (k:Int)]
 | .inr (m,a,kd)=>.t [qi m,.i (a:Int),Lq kd]
theorem a2w(p:Qbc):iu H n (jb p) (p.map λk:Nat=>.i (k:Int)):=⟨by simp[jb],λi h1 h2=>by simp only[jb,Qr];exact .int⟩
theorem Bx.td{b:Addr}{a:Kd}(h:Bx H b a):TD H 120 (.ref b) (Lq a):=by
 cases a with
 |val=>exact .tup (.inl h) (.cons .str .nil)
 |stuck p=>obtain⟨pa,h1,h2⟩:=h;exact .tup (n:=119) (.inl h1) (.cons .str (.cons (.tup (n:=118) (.inl h2) (a2w p)) .nil))
 |on=>exact .tup (.inl h) (.cons .str .nil)
theorem DN.td{H:Hp}{t:Addr}{m:Mr}{a:Nat}{b:Kd}(h:DN H t m a b):TD H 121 (.ref t) (.t [qi m,.i (a:Int),Lq b]):=by
 obtain⟨mv,kt,h1,h2,h3⟩:=h;exact .tup (n:=120) (.inl h1) (.cons h3.td (.cons .int (.cons h2.td .nil)))
theorem AU.td{H:Hp}{t:Addr}{r:Nat ⊕ (Mr×Nat×Kd)}(h:AU H t r):TD H 121 (.ref t) (tvR r):=by
 cases r with
 |inl k=>exact .tup (n:=120) (.inl h) (.cons .str (.cons .int .nil))
 |inr r=>obtain⟨m,dn,kd⟩:=r;exact DN.td h
theorem a3U{i j:Int}{Q:VK}(h:Q (.int (i+j)) H):BX (.int i) (.int j) H Q:=h
set_option maxHeartbeats 2000000 in
theorem a3s(T:Txt K mg w):aq P w K mg base 125 "law" ["script"] (Jg K):=by
 have eG:aq P w K mg base (3+40) "_law_bent_maker" ["_law_pen","_law_maker"] (H_ K 40):=lD T 40;have dC:aq P w K mg base (2+41) "_law_many" ["_law_maker"] (Dy 41):=jN T 41;have cF:aq P w K mg base (2+40) "_law_is_closed" ["_law_maker","_law_known"] (Ie 40):=mM T 40;refine T.NV.dh (k:=124) eA ?_ ?_
 ·rintro _ _ _ _ ⟨a,ns,rfl,_⟩;rfl
 ·rintro f az A an s H vs Q E D ⟨sc,ap,rfl,Pk,a1,k⟩;have hu:=fX D;have bj:=Qx (fX D);have Fj:=uB D;have a2:sizeLine=16777216:=QL;refine⟨_,(aE (aQ 1 eA.nd (bK (aD (zv 0) (aA aF (aA aF aC)))))
   (aE (aQ 2 eA.nd (aR (j6 T) D (aD (zv 1) (aA aF aC))))
   (aE (aQ 3 eA.nd (bK (bB (aR (pB T) D (aD (zv 1) (aA aG aC))) aC)))
   (aE (dP PassesOwn.never rfl (i8 (by rfl) T.k7 (aA aF aC)) (bS 4 eA.nd) (aE (aQ 5 eA.nd (aR (kI T) D (aD (zv 1) (aD (zv 2) (bB (aR (kP T) D (aD (zv 1) (aD (zv 2) aC))) aC)))))
   (aE (cE (gT K QH QJ QK bJ (zv 3) (aD (zv 5) aC)))
   (aI (dP PassesOwn.never rfl (i8 (by rfl) T.k7 (aA aF aC)) (bS 6 eA.nd) (aE (aQ 5 eA.nd (aR eG D (aD (zv 1) (aD (zv 5) aC))))
   (aI (bF (aK Mx (aR dC D (aD (zv 5) aC)) aF) (aI (cE (gT K QH QJ QK bJ (zv 3) (aD (zv 5) aC)))) aW))))))))
   (aE (dP PassesOwn.never rfl (lT K (zv 3)) (bS 5 eA.nd) (aI (bF (lJ (aR cF D (aD (zv 5) (oG (bK aC) aC)))) (aI (dP PassesOwn.never rfl (lT K (bK (aA aF (aA aF (cJ (bN bT aF (aR (bM T) D (aD (zv 1) (aA aF aC)))) (bB (aR (bM T) D (aD (zv 1) (aA aF aC))) aC)))))) (bS 7 eA.nd) (aI (bF (aK (yH Fj) (aR (tI T) D (aD (zv 5) (aD (zv 7) aC))) (aR (wS T) D (aD (zv 5) (aD (zv 7) aC)))) (aI (aU Eg)) aW)))) aW)))
   (aE (dP PassesOwn.never rfl (lT K (aR (mU T) D (aA aG aC))) (bS 5 eA.nd) (aI (dP PassesOwn.never rfl (lT K (bK (aA aF (aA aF (aA aF aC))))) (bS 7 eA.nd) (aI (bF (aK (yH Fj) (aR (tI T) D (aD (zv 5) (aD (zv 7) aC))) (aR (wS T) D (aD (zv 5) (aD (zv 7) aC)))) (aI (aU Eg)) aW)))))
   (aE (aQ 8 eA.nd (aN K (zv 3) aF))
   (aI (aU (wI (xX Fj) (aR (tI T) D (aD (zv 8) (aA aF aC))) (aR (wS T) D (aD (zv 8) (aA aF aC))))))))))))),?_⟩
  refine aM ⟨gz,λp hp=>?_⟩;have Lr:=ZF Pk hp
  (try dsimp only)
  generalize upd H p (.lst [.ref sc,.int 0,.int 0])=H1 at Lr;refine aM ⟨H,p,5,0,rfl,Lr,by lia,⟨by decide,by decide⟩,λa B ai ns H2 rt hN al gh=>?_⟩;refine aM ⟨H,p,_,"nn",rfl,al,by lia,l_ "nn",λv3 H3 P_ ju jd=>⟨ik,λS hS=>?_⟩⟩;have sS:=aa.upd hS (.lst [v3]);have gS:upd H3 S (.lst [v3]) S=be [v3]:=aB;have nS:S≠p:=ju.ne hS;have fS:H S=none:=ju.free hS;have Ls:=P_.tk sS.ts;have ja:=ju.same sS;have Lu:=(rt.tk (al.ts jd)).tk sS.ts
  (try dsimp only)
  generalize upd H3 S (.lst [v3])=H4 at sS gS Ls ja Lu;clear Lr al gh jd ju hS sS P_ rt;refine aT (λd q=>X4 λI u C r=>d=[af sc,af p,af a,af S,I,u,C,none,none]/\q S=be r/\(1<=r.length/\r.length<=7)/\(∀x∈r,MB q 40 400 x)/\cj K H q p 200000) ?_ ?_
  ·intro nx ay;refine⟨2,rfl,by decide,by decide,?_⟩;refine dF (fB 0 2) (λi d q=>X4 λI u C r=>d=[af sc,af p,af a,af S,I,u,C,none,none]/\q S=be r/\(1<=r.length/\r.length<=1+3*i)/\(∀x∈r,MB q 40 400 x)/\cj K H q p (2000+i*90000)/\Tk H4 q)
    ⟨none,none,none,[v3],rfl,gS,⟨by simp,by simp⟩,(λx N=>by rw[qD.mp N];exact Ls),ja.mono (by lia),Tk.refl⟩ (λ_ _ _ _ _=>trivial) ?_ (by rintro d q ⟨I,u,C,r,e,g,l,o,n,_⟩;exact ay _ _ ⟨I,u,C,r,e,g,l,o,n.mono (by decide)⟩)
   rintro i d H5 hi ⟨I,u,C,r,rfl,g5,Al,o5,oi,t5⟩;have a3:i<2:=hi;have Qn:=Lu.tk t5;refine aM ⟨H,p,a,_,B,ai,ns,WW,rfl,oi,by lia,Qn,λx H6 N AL Bp=>?_⟩;refine⟨H,p,a,_,B,ai,ns,x,rfl,AL,by lia,Qn.tk (oi.ts Bp),N,λv s7 H7 ly Bq ig gi=>?_⟩;have t7:=(oi.ts Bp).trans (AL.ts gi);have g7:=gi _ _ (Bp _ _ g5 nS nS) nS nS
   (try dsimp only)
   obtain⟨m,hm,rfl⟩:=ly;have put:∀{q:Hp}{r:Qbi}{v:V}{t:Nat},q S=be r->(∀x∈r,MB q 40 400 x)->MB q 40 400 v->cj K H q p t->(Tk q (upd q S (.lst (r++[v])))/\(∀x∈r++[v],MB (upd q S (.lst (r++[v]))) 40 400 x)/\cj K H (upd q S (.lst (r++[v]))) p t):=fun{q r v t}g o m n=>by
    have tk:Tk q (upd q S (.lst (r++[v]))):=Tk.refl.set g λ_ z=>nomatch z;refine⟨tk,λx N=>?_,n.put nS fS⟩;rcases xD.mp N with h|h
    ·exact(o x h).tk tk
    ·rw[qD.mp h];exact m.tk tk
   obtain⟨Ds,o8,z_⟩:=put (v:=v) g7 (λx N=>(o5 x N).tk t7) ⟨m,hm.up (by lia),by lia⟩ ig;refine⟨.inl ⟨rfl,_,ak.of g7⟩,S,r,v,rfl,rfl,g7,by lia,?_⟩;have g8:upd H7 S (.lst (r++[v])) S=be (r++[v]):=aB;have Fq:=hm.tk Ds;have Qo:=t5.trans (t7.trans Ds);have ar:1<=(r++[v]).length/\(r++[v]).length<=2+3*i:=by simp;lia
   generalize upd H7 S (.lst (r++[v]))=H8 at Ds o8 z_ g8 Fq Qo;generalize r++[v]=PZ at o8 g8 ar;refine⟨2,rfl,by decide,by decide,?_⟩;refine dF (fB 0 2) (λj d q=>X4 λu C r m=>d=[af sc,af p,af a,af S,bg (0+(i:Int)),some u,C,none,none]/\q S=be r/\(1<=r.length/\r.length<=2+3*i+j)/\(∀x∈r,MB q 40 400 x)/\cj K H q p (2000+i*90000+81000+j*200)/\Tk H4 q/\bf q 40 u m/\di m<=15+j/\av m<=30+100*j/\(j<=1->av m<=30+33*j))
    ⟨v,C,PZ,m,rfl,g8,⟨by lia,by lia⟩,o8,z_.mono (by lia),Qo,Fq.up (by lia),hm.dep,by lia,by lia⟩ (λ_ _ _ _ _=>trivial) ?_ ?_
   ·rintro j d H9 hj ⟨u,C,r,m,rfl,g9,as,o9,zz,t9,Ft,a4,a5,au⟩;have HF:j<2:=hj;refine aM ⟨H,p,_,u,m,rfl,zz,by lia,Ft,λvb HA ⟨mb,ag,KW⟩ ah zp=>?_⟩;have tA:=zz.ts zp;have gA:=zp _ _ g9 nS nS;have fg:=ag.dep;have K8:=au (by lia)
    (try dsimp only)
    refine⟨vb,av mb,rfl,(ag.up (by lia)).Et,λHB G=>⟨_,rfl,aj (λc=>?_) (λc=>?_)⟩⟩
    ·have gB:=G _ _ gA;obtain⟨Cz,oC,hnC⟩:=put (v:=vb) gB (λx N=>((o9 x N).tk tA).tk G.ts) ⟨mb,(ag.tk G.ts).up (by lia),by lia⟩ (ah.same G);exact⟨.inl ⟨rfl,_,ak.of gB⟩,S,r,vb,rfl,rfl,gB,by lia,vb,_,_,mb,rfl,aB,by simp;lia,oC,hnC.mono (by lia),t9.trans (tA.trans (G.ts.trans Cz)),((ag.tk G.ts).tk Cz).up (by lia),by lia,by lia,by lia⟩
    ·exact⟨vb,_,r,mb,rfl,G _ _ gA,⟨by lia,by lia⟩,(λx N=>((o9 x N).tk tA).tk G.ts),(ah.same G).mono (by lia),t9.trans (tA.trans G.ts),(ag.tk G.ts).up (by lia),by lia,by lia,by lia⟩
   ·rintro d H9 ⟨u,C,r,m,rfl,g9,as,o9,zz,t9,_⟩;exact⟨_,_,_,r,rfl,g9,⟨by lia,by lia⟩,o9,zz.mono (by lia),t9⟩
  rintro d H5 ⟨I,u,C,r,rfl,g5,Al,o5,oi⟩;clear ja Lu Ls gS;refine aT (λd q=>X4 λI u C y=>d=[af sc,af p,af a,af S,I,u,C,y,none]/\q S=be r/\(∀x∈r,MB q 40 400 x)) ?_ ?_
  ·intro nx ay;refine Or.inl ⟨⟨r,ak.of g5⟩,?_⟩;refine dF (cB r) (λi d q=>X2 λu y=>d=[af sc,af p,af a,af S,I,u,C,y,none]/\q S=be r/\cj K H q p (200000+i*10)/\Tk H5 q) ⟨u,none,rfl,g5,oi,Tk.refl⟩ (by rintro i τ q _ ⟨_,_,_,g,_⟩;exact ak.of g) ?_ (by rintro d q ⟨u,y,e,g,_,t⟩;exact ay _ _ ⟨I,u,C,y,e,g,λx N=>(o5 x N).tk t⟩);rintro i d H6 hi ⟨u,y,rfl,g6,AL,t6⟩;have eg:r.getD i .ao=r[i]:=by simp[Qb,hi]
   rw[eg];obtain⟨m,hm,hc⟩:=(o5 _ (Qj hi)).tk t6;generalize r[i]=v at hm;refine⟨ki,λL hL=>?_⟩;have sL:=aa.upd hL (.lst []);refine⟨v,m,L,[],rfl,hm.tk sL.ts,aB,by simp,λb H7 s7=>⟨b,rfl,aj (λ_=>?_) (λ_=>⟨_,_,rfl,s7 _ _ (sL _ _ g6),((AL.same sL).same s7).mono (by lia),t6.trans (sL.ts.trans s7.ts)⟩)⟩⟩;have Ih:=sL.trans s7;have Ib:=hm.tk Ih.ts;have ig:=AL.same Ih;have g7:=Ih _ _ g6;have aw:=t6.trans Ih.ts;refine⟨H,p,12,_,rfl,ig,by decide,by lia,λr4 H8 a6 a7 z_ E7=>?_⟩;obtain⟨j4,rfl⟩:∃j:Nat,r4=(j:Int):=⟨r4.toNat,by lia⟩
   refine a3U ?_;refine⟨H,p,41,_,rfl,z_,by decide,by lia,λr5 H9 a8 a9 zz AM=>?_⟩;obtain⟨j5,rfl⟩:∃j:Nat,r5=(j:Int):=⟨r5.toNat,by lia⟩
   have Qv:=(ig.ts E7).trans (z_.ts AM);have g9:=AM _ _ (E7 _ _ g7 nS nS) nS nS;have Ft:=Ib.tk Qv;refine⟨Cg,λL4 Lv=>Or.inl ⟨⟨_,ak.of aB⟩,?_⟩⟩;have s4:=aa.upd Lv (.lst [.int 0,.int 1,.int (2+(j4:Int)),.int (j5:Int)]);have g4:upd H9 L4 (.lst [.int 0,.int 1,.int (2+(j4:Int)),.int (j5:Int)]) L4=be [.int 0,.int 1,.int (2+(j4:Int)),.int (j5:Int)]:=aB;have ah:=zz.same s4;have gA:=s4 _ _ g9;have Fv:=Ft.tk s4.ts;have tA:=aw.trans (Qv.trans s4.ts);generalize upd H9 L4 (.lst [.int 0,.int 1,.int (2+(j4:Int)),.int (j5:Int)])=HA at s4 g4 ah gA Fv tA;refine dF (cB [.int 0,.int 1,.int (2+(j4:Int)),.int (j5:Int)]) (λi d q=>∃y,d=[af sc,af p,af a,af S,I,some v,C,y,none]/\aa HA q) ⟨y,rfl,aa.refl _⟩ (by rintro i τ q _ ⟨_,_,s⟩;exact ak.of (s _ _ g4)) ?_ (by rintro d q ⟨y,e,s⟩;exact⟨_,_,e,s _ _ gA,(ah.same s).mono (by lia),tA.trans s.ts⟩);rintro R d HB am ⟨y,rfl,G⟩;have ax:R<4:=am;obtain⟨n,hn,ew⟩:∃n:Nat,n<=1000/\([.int 0,.int 1,.int (2+(j4:Int)),.int (j5:Int)]:Qbi).getD R .ao=.int (n:Int):=by
    rcases(show R=0\/R=1\/R=2\/R=3 by lia)with rfl|rfl|rfl|rfl
    ·exact⟨0,by decide,rfl⟩
    ·exact⟨1,by decide,rfl⟩
    ·exact⟨2+j4,by lia,by simp⟩
    ·exact⟨j5,by lia,rfl⟩
   rw[ew];have Fw:=Fv.tk G.ts;refine⟨v,n,m,rfl,by lia,Fw,hc,λtB HC sC rC=>⟨v,n,m,rfl,by lia,Fw.tk sC.ts,hc,λtC HD sD rD=>⟨121,121,_,_,tB,tC,by lia,rfl,rfl,(AU.td rC).same sD,AU.td rD,λbo AS=>?_⟩⟩⟩;obtain rfl:bo=true:=AS.mpr rfl;exact⟨_,rfl,gf ⟨_,rfl,G.trans (sC.trans sD)⟩⟩
  clear o5 oi g5;rintro d H6 ⟨I,u,C,y,rfl,g6,o6⟩;refine aT (λd q=>X2 λu y=>d=[af sc,af p,af a,af S,I,u,C,y,none]/\aa H6 q) ?_ ?_
  ·intro nx ay;refine⟨"nn",rfl,l_ "nn",λS2 us H7 s7 g7 ba o7=>Or.inl ⟨⟨us,ak.of g7⟩,?_⟩⟩;refine dF (cB us) (λi d q=>X2 λu y=>d=[af sc,af p,af a,af S,I,u,C,y,none]/\aa H7 q) ⟨u,y,rfl,aa.refl _⟩ (by rintro i τ q _ ⟨_,_,_,s⟩;exact ak.of (s _ _ g7)) ?_ (by rintro d q ⟨u,y,e,s⟩;exact ay _ _ ⟨u,y,e,s7.trans s⟩);rintro i d H8 hi ⟨u,y,rfl,s8⟩;have eg:us.getD i .ao=us[i]:=by simp[Qb,hi]
   rw[eg];obtain⟨m,hm,hc⟩:=(o7 _ (Qj hi)).tk s8.ts;generalize us[i]=v at hm;refine⟨gz,λL4 Lv=>Or.inl ⟨⟨_,ak.of aB⟩,?_⟩⟩;have s4:=aa.upd Lv (.lst [.int 1,.int 2,.int 3]);have g4:upd H8 L4 (.lst [.int 1,.int 2,.int 3]) L4=be [.int 1,.int 2,.int 3]:=aB;have Fv:=hm.tk s4.ts;generalize upd H8 L4 (.lst [.int 1,.int 2,.int 3])=HA at s4 g4 Fv;refine dF (cB [.int 1,.int 2,.int 3]) (λi d q=>∃y,d=[af sc,af p,af a,af S,I,some v,C,y,none]/\aa HA q) ⟨y,rfl,aa.refl _⟩ (by rintro i τ q _ ⟨_,_,s⟩;exact ak.of (s _ _ g4)) ?_ (by rintro d q ⟨y,e,s⟩;exact⟨_,_,e,s8.trans (s4.trans s)⟩);rintro R d HB am ⟨y,rfl,G⟩;have ax:R<3:=am;obtain⟨n,hn,ew⟩:∃n:Nat,n<=1000/\([.int 1,.int 2,.int 3]:Qbi).getD R .ao=.int (n:Int):=by
    rcases(show R=0\/R=1\/R=2 by lia)with rfl|rfl|rfl
    ·exact⟨1,by decide,rfl⟩
    ·exact⟨2,by decide,rfl⟩
    ·exact⟨3,by decide,rfl⟩
   rw[ew];have Fw:=Fv.tk G.ts;refine⟨v,n,m,rfl,by lia,Fw,hc,λtB HC sC rC=>⟨v,n,m,rfl,by lia,Fw.tk sC.ts,hc,λtC HD sD rD=>⟨121,121,_,_,tB,tC,by lia,rfl,rfl,(AU.td rC).same sD,AU.td rD,λbo AS=>?_⟩⟩⟩;obtain rfl:bo=true:=AS.mpr rfl;exact⟨_,rfl,gf ⟨_,rfl,G.trans (sC.trans sD)⟩⟩
  rintro d H7 ⟨u,y,rfl,s7⟩;have Bh:0<r.length:=by lia
  obtain⟨m,hm,hc⟩:=(o6 _ (Qj Bh)).tk s7.ts;refine aM ⟨r,r[0],.inl (ak.of (s7 _ _ g6)),bU (j:=0) (Qa Bh),?_⟩;refine⟨_,200,m,rfl,by lia,hm,hc,λtB HC sC rC=>⟨_,200,m,rfl,by lia,hm.tk sC.ts,hc,λtC HD sD rD=>⟨121,121,_,_,tB,tC,by lia,rfl,rfl,(AU.td rC).same sD,AU.td rD,λbo AS=>?_⟩⟩⟩;obtain rfl:bo=true:=AS.mpr rfl;exact k _
end
theorem a2C{K:QZ}(X:K.In h)(G:h.Ns mainGlobals mg)(e:look K=want w):Txt (without K []) mg w:=by
 have a:=wL (as:=[]) X;obtain⟨eF,e⟩:=QaZ e;obtain⟨eV,e⟩:=QaZ e;obtain⟨eT,e⟩:=QaZ e;obtain⟨eD,e⟩:=QaZ e;obtain⟨eN,e⟩:=QaZ e;obtain⟨eX,e⟩:=QaZ e;have b:=e;obtain⟨aa6,ac',aa7,aa8,a0O⟩:=Xc a G (uE eD 0 (x:="PLACES") rfl) rfl (by decide+kernel);obtain⟨aa_,ada,rfl,aa',aba⟩:=uN aa8;obtain⟨abb,adb,rfl,abc,abd⟩:=uN aba;obtain⟨abe,ade,rfl,abf,abg⟩:=uN abd;obtain⟨abh,adf,rfl,abi,abj⟩:=uN abg;obtain⟨abk,adg,rfl,abl,abm⟩:=uN abj;obtain⟨abn,adh,rfl,abo,abp⟩:=uN abm;obtain⟨abq,adi,rfl,abr,abt⟩:=uN abp;obtain⟨abu,adj,rfl,abv,abw⟩:=uN abt;obtain rfl:=Xb abw;exact⟨nn a G eN 0,
  nn a G eN 1,
  nn a G eN 2,
  nn a G eN 3,
  nn a G eN 4,
  nn a G eN 5,
  nn a G eN 6,
  nn a G eN 7,
  nn a G eN 8,
  nn a G eN 9,
  nn a G eN 10,
  nn a G eN 11,
  nn a G eN 12,
  nn a G eN 13,
  ⟨aa6,aa_,abb,abe,abh,abk,abn,abq,abu,aa7,a0O,aa',abc,abf,abi,abl,abo,abr,abv⟩,
  vl a G eV 0,
  vl a G eV 1,
  nv a G eF 0,
  n_ a G eF 1,
  n_ a G eF 2,
  nv a G eF 3,
  nv a G eF 4,
  nv a G eF 5,
  nv a G eF 6,
  Dd a G eF 7,
  nv a G eF 8,
  Dd a G eF 9,
  nv a G eF 10,
  n_ a G eF 11,
  n_ a G eF 12,
  n_ a G eF 13,
  nv a G eF 14,
  Dd a G eF 15,
  n_ a G eF 16,
  n_ a G eF 17,
  n_ a G eF 18,
  n_ a G eF 19,
  n_ a G eF 20,
  WY a G eF 21,
  nv a G eF 22,
  JI a G eF 23,
  JI a G eF 24,
  JI a G eF 25,
  nv a G eF 26,
  nv a G eF 27,
  Dd a G eF 28,
  Dd a G eF 29,
  n_ a G eF 30,
  Dd a G eF 31,
  nv a G eF 32,
  nv a G eF 33,
  nv a G eF 34,
  nv a G eF 35,
  n_ a G eF 36,
  n_ a G eF 37,
  n_ a G eF 38,
  n_ a G eF 39,
  n_ a G eF 40,
  n_ a G eF 41,
  nv a G eF 42,
  nv a G eF 43,
  NE a G eX 0,
  NF a G eX 1,
  NF a G eX 2,
  NE a G eX 3,
  d4 a G b 0,
  d4 a G b 1,
  d4 a G b 2,
  d4 a G b 3,
  d4 a G b 4,
  d4 a G b 5,
  d4 a G b 6,
  d4 a G b 7,
  d4 a G b 8,
  d4 a G b 9,
  d4 a G b 10,
  d4 a G b 11,
  d4 a G b 12,
  d4 a G b 13,
  d4 a G b 14,
  d4 a G b 15⟩
theorem walk:PySem.W.WalkO view ["PLACES"] XP (wq look want).says yr.row.toRowW CH [] (λf vs=>PySem.call f vs):=
 xQ (l:=yr) (st:=nI) (k:=125) rfl rfl ⟨rfl,by decide,by decide,rfl⟩ rfl (by intros;rfl) λw b h K X e G=>have T:=a2C X G e;⟨T.NV,λa=>a3s T⟩
end T1
open PySem PySem.W PyProof.Rows L2
set_option maxRecDepth 100000 in
set_option maxHeartbeats 0 in
theorem PySem.Challenge.cw_coilkind_k84_runs_step_by_step_holds : PySem.Challenge.rw_coilkind_k84_runs_step_by_step.Holds := by
 refine PySem.W.holds_law T1.said λsaid=>?_;exact PySem.W.holds_open (q:=T1.view) (loose:=["PLACES"]) (Xt:=λs=>xlAt T1.view [] s&&recOk [] s) (XP:=XL T1.view []) (Yf:=(wq T1.look T1.want).obs) (Ya:=(wq T1.look T1.want).val) (YP:=(wq T1.look T1.want).says) (N:=4996)
  (WV "special-get-raises" T1.aa3 T1.aa4) (wq T1.look T1.want).of (wq T1.look T1.want).keeps (λs e=>xl_of s (Qaw.mp e).1) XL.keeps T1.hdef T1.hprog T1.hkw (λs e=>recFacts_of (Qaw.mp e).2) rfl (by assumption) T1.hok T1.hbare T1.abx T1.walk
