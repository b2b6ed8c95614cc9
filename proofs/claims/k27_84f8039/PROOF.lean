import PyProof.Rows.All
import Wide.All
import OpenK.AllK
import Wide.FinOn
import Lean
import PyProof.EqAt
import PyProof.EqKinds
import PyProof.TupleCall
import PyProof.DictCompW
import PyProof.AutoListH
import PyProof.EnumMake
import PyProof.ZipIter
import PyProof.AttrMissSeq
import KE.KDictOf
import PyProof.ReprLen
import PyProof.StrLawsRepr
import KE.KUnpackStar
import PyProof.DictWalks
import PyProof.Rows.DictUnroll
import PyProof.Rows.Range3
import PyProof.Rows.ChunkEnd
import PyProof.Rows.ChunkLeaf
import PyProof.StrCalls2
import PyProof.StrLawsTight
import PyProof.StrLawsChain
import PyProof.Rows.StrSplitJoin
import PyProof.Conv_int_bool
import PyProof.Rows.TupMore
import PyProof.StrLawsIn
import PyProof.Rows.StrCut
import PyProof.StrCalls
import PyProof.CallFns
import PyProof.FString5
import PyProof.NsCount
import PyProof.Rows.SetFrom
import PyProof.SetRoads
import KE.KRevIter
import PyProof.CollectIter
import PyProof.TupleOfGen
import KE.KItemsList
import PyProof.NeKinds
import PyProof.DictItems
import KE.KPairComp
import PyProof.SetKind
import PyProof.TupleKey
import PyProof.IsRules
import PyProof.DictValues
import PyProof.SumWalk
import PyProof.ConsumeWalk
import PyProof.SumAny
import PyProof.FactsAll.range_2
import PyProof.WalksMore
import PyProof.MinMaxWalk
import PyProof.SeqI3
import KE.KDictList
import KE.KDictLaws
import KE.KSortTup
import KE.KSetDisp
import KE.KStrOpen
import PyProof.NeData
import PyProof.Draws
import PySem.Challenge.RW_coilkind_k27_least_tellings
set_option Elab.async false
set_option linter.all false
set_option maxRecDepth 100000
section
open PySem PySem.Spec PyProof.Rows
abbrev Qa := @List.getElem?_eq_getElem
abbrev Qb := @List.getD_eq_getElem?_getD
abbrev Qc := @Heap.get?_push_of_some
abbrev Qd := @Heap.get?_push_size
abbrev Qe := @List.getElem_append_left
abbrev Qf := @List.getElem_append_right
abbrev Qg := @List.getElem?_append_left
abbrev Qh := @List.mem_cons_of_mem
abbrev Qi := @List.getElem_of_mem
abbrev Qj := @List.getElem_mem
abbrev Qk := @List.length_append
abbrev Ql := @List.length_map
abbrev Qm := @List.map_append
abbrev Qn := @List.map_map
abbrev Qo := @List.take_length
abbrev Qp := @List.mem_cons
abbrev Qq := @List.getElem?_map
abbrev Qr := @List.getElem_map
abbrev Qs := @List.take_add_one
abbrev Qt := @of_decide_eq_true
abbrev Qw := @decide_eq_true
abbrev Qx := @decide_eq_false
abbrev Qy := @Nat.lt_of_succ_lt
abbrev Qz := @Nat.le_refl
abbrev QA := @Heap.lt_size
abbrev QB := @List.mem_nil_iff
abbrev QC := @Function.comp_def
abbrev QD := @List.mem_of_getElem?
abbrev QE := @Option.some.inj
abbrev QF := @Bool.false_xor
abbrev QH := @PyProof.Rows.boot_tuple
abbrev QJ := @PySem.F.plainAttrs_list
abbrev QK := @PySem.F.slot_list_append
abbrev QL := @PySem.F.type_list_append
abbrev QM := @sizeLine_eq
abbrev QN := @List.drop_eq_getElem_cons
abbrev QQ := @List.append_assoc
abbrev QR := @List.append_nil
abbrev QS := @List.eq_nil_of_length_eq_zero
abbrev QT := @wpAny_bind
abbrev QU := @wpAny_pure
abbrev Q0 := PySem.W.Frag
end
variable{prog P:PySem.Program}{w:PySem.World}{A:PySem.Around}{E Q:PySem.Value->PySem.Shared->Prop}{s:PySem.Shared}{O:List PySem.Value}{u:PySem.Value}{a b it p C l:PySem.Addr}{o:PySem.Obj}{h M base:PySem.Heap}{α κ:Type}{x name z:PySem.Str}{B:List (PySem.Addr×PySem.Obj)}{t' i j n ep:Nat}{ch fp:List PySem.Addr}{N ns ps own N' ws:List PySem.Str}{e tg:PySem.Expr}{op:PySem.CmpOp}{es ifs A8:List PySem.Expr}{pos' apos cpos:PySem.Pos}{body:List PySem.Stmt}{f:PySem.Str->List (List PySem.Str×PySem.Str)}{mA mg:PySem.Str->Option PySem.Value}{pl:PySem.Sem Bool}{R:PySem.Result->PySem.Shared->Prop}{kw:List (PySem.Str×PySem.Value)}{env:PySem.Env}{fd:PySem.FuncData}{sc:PySem.Scope}{T:String}{XP:(PySem.Str->Option PySem.Value)->PySem.Heap->Prop}{idx:List Nat}{G:Array PySem.GenState->Array PySem.GenState->Prop}{J:Array PySem.Value}{ms:List (List PySem.Str×PySem.Str)}{ss mem:List (List PySem.Str)}{q:List PySem.Str×PySem.Str}{num:PySem.Str->Nat}
section
open PySem PySem.Spec PyProof.Rows
abbrev Z2:=@List.mem_map
abbrev zH:=@List.mem_append
abbrev zO:=@List.mem_singleton
abbrev yE:=@List.getElem?_eq_some_iff
abbrev yS:=@List.mem_cons_self
abbrev yU:=@Nat.ne_of_lt
abbrev yV:=@List.map_cons
abbrev wV:=@List.size_toArray
abbrev vU:=@Bool.false_ne_true
abbrev uJ:=@List.getElem_cons_zero
abbrev uT:=@List.pairwise_map
abbrev uW:=@List.pairwise_iff_getElem
abbrev uY:=@List.nodup_cons
abbrev u9:=@List.length_take
abbrev jB:=@Nat.lt_of_lt_of_le
abbrev jU:=@Nat.le_trans
abbrev dV:=@List.length_cons
abbrev Qab:=@List.mem_filter
abbrev dv:=@PySem.boot_len
abbrev dm:=@Nat.zero_le
abbrev fi:=@Bool.false_eq_true
abbrev dq:=@Nat.ne_of_gt
abbrev Qag:=@List.mem_range
abbrev du:=@Nat.sub_self
abbrev gT:=@Array.length_toList
abbrev fy:=@Nat.lt_succ_of_lt
abbrev ge:=@List.lookup_cons
abbrev ga:=@List.ext_getElem
abbrev fa:=@List.cons.inj
abbrev ix:=@List.mem_append_right
abbrev eh:=@Sum.inr.inj
abbrev iT:=@List.take_of_length_le
abbrev hJ:=@List.map_singleton
abbrev ft:=@Nat.lt_irrefl
abbrev hE:=@List.cons_append
abbrev gZ:=@Around.in1_units
abbrev kb:=@List.length_singleton
abbrev kz:=@PySem.F.plainAttrs_dict
abbrev gV:=@List.find?_cons
abbrev Qax:=@Bool.and_eq_true_iff
abbrev km:=@List.find?_cons_of_neg
abbrev io:=@List.getElem_take
abbrev QaA:=@List.nodup_append
abbrev oa:=@PySem.F.slot_dict_setdefault
abbrev hZ:=@PySem.W.kia_one
abbrev oj:=@PyProof.Rows.callWith_type1
abbrev lp:=@Classical.axiomOfChoice
abbrev im:=@Bool.and_eq_true
abbrev nT:=@List.getElem?_append_right
abbrev QaH:=@Option.map_eq_some_iff
abbrev ke:=@Heap.SameBut.update
abbrev mu:=@List.mem_of_find?_eq_some
abbrev ll:=@Heap.get?_update_self
abbrev md:=@Array.getElem?_toList
abbrev mf:=@List.length_filter_le
abbrev jk:=@List.getElem_inj
abbrev QaO:=@List.any_eq_true
abbrev nh:=@PySem.F.slot_dict_values
abbrev ij:=@List.nodup_nil
abbrev lc:=@Around.under_plainId
abbrev jc:=@Bool.eq_iff_iff
abbrev iQ:=@List.nil_append
abbrev lx:=@PySem.mem_of_lookup
abbrev og:=@Heap.get?_update_other
abbrev h1:=@Prod.mk.inj
abbrev k6:=@List.cons.injEq
abbrev pv:=@List.exists_cons_of_length_pos
abbrev ma:=@List.foldl_append
abbrev nz:=@List.filterMap_cons
abbrev ng:=@PySem.evalArgs_none
abbrev ko:=@Heap.size_push
abbrev mD:=@SeqAt.EqAt.str_str
abbrev Qa4:=@List.find?_eq_none
abbrev lv:=@List.length_set
abbrev ln:=@Option.map_some
abbrev pc:=@List.getElem?_eq_none
abbrev mx:=@Int.toNat_natCast
abbrev np:=@List.flatMap_cons
abbrev px:=@Classical.byContradiction
abbrev pf:=@List.mem_of_mem_take
abbrev Qbc:=@List.all_eq_true
abbrev py:=@PySem.F.slot_dict_items
abbrev mr:=@Prod.mk.injEq
abbrev nq:=@SeqAt.EqAt.same
abbrev nS:=@List.length_nil
abbrev oo:=@List.forIn_cons
abbrev qf:=@List.find?_eq_some_iff_getElem
abbrev Qbj:=@List.pairwise_cons
abbrev ox:=@SeqAt.EqAt.of_refs
abbrev pz:=@PySem.F.args_dict_setdefault_3
abbrev ot:=@Int.emod_lt_of_pos
abbrev lb:=@Nat.le_succ
abbrev pu:=@List.find?_cons_of_pos
abbrev pk:=@PyProof.Rows.boot_list
abbrev pj:=@SeqAt.RcAt.tuples
abbrev pi:=@List.filter_cons
abbrev Qbs:=@List.mem_flatMap
abbrev aU:=List Str
abbrev cq:=List Value
abbrev cx:=List Addr
abbrev cv:=Option Value
abbrev cm:=List Nat
end
set_option hygiene false in
local macro_rules
 |`('a')=>`((model X.prog X.w))
 |`('b')=>`((λ_ _ _ _ _ _=>(cW K (n:=2) rfl (aM (bD 0) (aM (bD 1) bQ)))))
 |`('c')=>`(((s.heap.update a (Obj.mapSeq λ_=>#[])).push (seqObj "tuple" vs.toArray 0)).push (seqObj "list" #[] 0))
 |`('d')=>`(bN (by decide+kernel))
 |`('e')=>`(List (Addr×Obj))
 |`('f')=>`((model prog w))
 |`('g')=>`(X.env.cells.lookup x=some c)
 |`('h')=>`((.af o (.dK kvs)))
 |`('i')=>`(s.heap.objs.size+1)
 |`('j')=>`((cr mg "Parting"))
 |`('k')=>`(d.heap.push {cls:=.type "dict_values",data:=.fields #[.ref a]})
 |`('l')=>`(s.heap.get? b=some o)
 |`('m')=>`(q_ X.env.scope X.N sc own idx N')
 |`('n')=>`(λ_ z=>nomatch z)
namespace L2
open PySem PySem.Spec PyProof.Rows
inductive KI where
 |i (n:Int)
 |no
 deriving DecidableEq
instance:Coe Int KI:=⟨KI.i⟩
abbrev Key:=Sum KI Str
end L2
variable{vs:List (L2.Key×PySem.Value)}{xs:List (List L2.Key×PySem.Addr×PySem.Value)}
namespace L2
open PySem PySem.Spec PyProof.Rows
def VI:Value->Bool
 | .none=>true
 |_=>false
def BZ:Key->Value->Bool
 | .inl (.i k),v=>Value.isInt k v
 | .inl .no,v=>VI v
 | .inr x,v=>Value.isStrOf x v
def A9(w:World):Key->Int
 | .inl (.i k)=>hashInt k
 | .inl .no=>4238894112
 | .inr x=>hashStr w x
theorem bH:∀{k:Key}{v:Value},BZ k v=true->(∃i t,k=Sum.inl (KI.i i)/\v=Value.int i t)\/(∃x t,k=Sum.inr x/\v=Value.str x t)\/(k=Sum.inl KI.no/\v=Value.none)
 | .inl (.i i),v,h=>by
  obtain⟨t,e⟩:=Value.isInt_shape (k:=i) (v:=v) h;exact .inl ⟨i,t,rfl,e⟩
 | .inl .no,v,h=>by
  cases v<;>first|exact .inr (.inr ⟨rfl,rfl⟩)|(exact nomatch(show false=true from h))
 | .inr x,v,h=>by
  obtain⟨t,e⟩:=Value.isStrOf_shape (x:=x) (v:=v) h;exact .inr (.inl ⟨x,t,rfl,e⟩)
theorem zW(i:Int)(t:Tok):BZ (.inl (KI.i i)) (.int i t)=true:=by simp[BZ,Value.isInt]
theorem yH(x:Str)(t:Tok):BZ (.inr x) (.str x t)=true:=by simp[BZ,Value.isStrOf]
theorem VJ{Q:Int->Shared->Prop}(h:Q 4238894112 {s with toks:=s.toks+1}):wpAny 'f' A (PySem.pyHash .none) Q E s:=
 PySem.W.pyHash_slot (T:="NoneType") rfl PySem.F.slot_NoneType_hash PySem.F.entry_NoneType_hash (PySem.F.args_NoneType_hash_1 _) (beq_builtin_none _) (.inl rfl) (QT (QU (QT (wpAny_mkInt (QU ⟨_,_,rfl,h⟩)))))
theorem VL(a b:Int):decide ((Sum.inl (KI.i a):Key)=Sum.inl (KI.i b))=(a==b):=by
 by_cases e:a=b
 ·subst e;simp
 ·have h:¬(Sum.inl (KI.i a):Key)=Sum.inl (KI.i b):=λq=>e (KI.i.inj (Sum.inl.inj q));rw[Qx h];exact(beq_eq_false_iff_ne.mpr e).symm
theorem VM(a b:Str):decide ((Sum.inr a:Key)=Sum.inr b)=decide (a=b):=by
 by_cases e:a=b
 ·subst e;simp
 ·have h:¬(Sum.inr a:Key)=Sum.inr b:=λq=>e (eh q);rw[Qx h,Qx e]
theorem OI(a:KI)(b:Str):decide ((Sum.inl a:Key)=Sum.inr b)=false:=Qx (λq=>nomatch q)
theorem OJ(a:Str)(b:KI):decide ((Sum.inr a:Key)=Sum.inl b)=false:=Qx (λq=>nomatch q)
theorem VN(a:Int):decide ((Sum.inl (KI.i a):Key)=Sum.inl KI.no)=false:=Qx (λq=>nomatch q)
theorem VO(a:Int):decide ((Sum.inl KI.no:Key)=Sum.inl (KI.i a))=false:=Qx (λq=>nomatch q)
def cz(prog:Program)(w:World):PySem.KeyKind prog w Key where
 is:=BZ
 hash:=A9 w
 inj:=λv a b ha hb=>by
  rcases bH ha with⟨i,t,rfl,rfl⟩|⟨x,t,rfl,rfl⟩|⟨rfl,rfl⟩<;>rcases bH hb with⟨j,u,rfl,e⟩|⟨y,u,rfl,e⟩|⟨rfl,e⟩<;>first|rfl|(injection e with e1 _;rw[e1];done)|exact nomatch e
 byValue:=λk v h=>by
  rcases bH h with⟨i,t,rfl,rfl⟩|⟨x,t,rfl,rfl⟩|⟨rfl,rfl⟩<;>rfl
 pyHash:=λhv h=>by
  rcases bH hv with⟨i,t,rfl,rfl⟩|⟨x,t,rfl,rfl⟩|⟨rfl,rfl⟩
  ·exact wpAny_pyHash_int h
  ·exact wpAny_pyHash_str h
  ·exact VJ h
 eqBool:=λhu hv h=>by
  rcases bH hu with⟨i,t,rfl,rfl⟩|⟨x,t,rfl,rfl⟩|⟨rfl,rfl⟩
  ·rcases bH hv with⟨j,u,rfl,rfl⟩|⟨y,u,rfl,rfl⟩|⟨rfl,rfl⟩
   ·rw[VL]at h;exact wpAny_eqBool_int h
   ·rw[OI]at h;exact SeqAt.EqAt.int_str i t y u _ _ _ _ h
   ·rw[VN]at h;exact SeqAt.EqAt.int_none i t _ _ _ _ h
  ·rcases bH hv with⟨j,u,rfl,rfl⟩|⟨y,u,rfl,rfl⟩|⟨rfl,rfl⟩
   ·rw[OJ]at h;exact SeqAt.EqAt.str_int x t j u _ _ _ _ h
   ·rw[VM]at h;exact wpAny_eqBool_str h
   ·rw[OJ]at h;exact SeqAt.EqAt.str_none x t _ _ _ _ h
  ·rcases bH hv with⟨j,u,rfl,rfl⟩|⟨y,u,rfl,rfl⟩|⟨rfl,rfl⟩
   ·rw[VO]at h;exact SeqAt.EqAt.none_int j u _ _ _ _ h
   ·rw[OI]at h;exact SeqAt.EqAt.none_str y u _ _ _ _ h
   ·exact nq _ _ _ _ _ (by simpa using h)
 «strs»:=λk x t v h=>by
  rcases bH h with⟨i,u,rfl,e⟩|⟨y,u,rfl,e⟩|⟨rfl,e⟩
  ·exact nomatch e
  ·injection e with e1 _;subst e1;cases v<;>rfl
  ·exact nomatch e
theorem uA(prog:Program)(w:World)(i:Int)(t:Tok):(cz prog w).is (.inl (KI.i i)) (.int i t)=true:=zW i t
theorem fN(prog:Program)(w:World)(x:Str)(t:Tok):(cz prog w).is (.inr x) (.str x t)=true:=yH x t
inductive V where
 |ao|bl (b:Bool)|int (i:Int)|str (x:Str)|uc (b:Array UInt8)|CQ (b:UInt64)|ref (a:Addr)|ty (n:String)
 deriving DecidableEq
abbrev de:=List (List Key×V)
abbrev ca:=List (Key×V)
abbrev cw:=List (Str×V)
abbrev bY:=List V
abbrev cp:=Option V
abbrev fe:=List Key
def RelV:V->Value->Prop
 | .ao,u=>u=Value.none
 | .bl b,u=>u=Value.bool b
 | .int i,u=>∃t,u=Value.int i t
 | .str x,u=>∃t,u=Value.str x t
 | .uc b,u=>∃t,u=Value.bytes b t
 | .CQ b,u=>∃t,u=Value.float b t
 | .ref a,u=>u=Value.ref a
 | .ty n,u=>u=Value.type n
abbrev bg:bY->cq->Prop:=Paired RelV
theorem bg.length{xs:bY}{O:cq}(r:bg xs O):xs.length=O.length:=Paired.length r
theorem bg.get:∀{xs:bY}{O:cq}{i:Nat}{x:V},bg xs O->xs[i]? =some x->∃u,O[i]? =some u/\RelV x u
 |_,_,_,_,.nil,e=>by simp at e
 |_,_,0,_,.cons r _,e=>by simp at e;subst e;exact⟨_,rfl,r⟩
 |_,_,i+1,x,.cons _ t,e=>by
  obtain⟨u,Y,h2⟩:=bg.get (i:=i) (x:=x) t (by simpa using e);exact⟨u,by simpa using Y,h2⟩
theorem bg.set{x:V}{u:Value}(r:RelV x u):∀{xs:bY}{O:cq}(i:Nat),bg xs O->bg (xs.set i x) (O.set i u)
 |_,_,_,.nil=>.nil
 |_,_,0,.cons _ t=>.cons r t
 |_,_,i+1,.cons q t=>.cons q (bg.set r i t)
theorem bg.append:∀{xs J:bY}{O ws:cq},bg xs O->bg J ws->bg (xs++J) (O++ws)
 |_,_,_,_,.nil,s=>s
 |_,_,_,_,.cons r t,s=>.cons r (bg.append t s)
theorem bg.take:∀{xs:bY}{O:cq}(n:Nat),bg xs O->bg (xs.take n) (O.take n)
 |_,_,0,_=>.nil
 |_,_,_+1,.nil=>.nil
 |_,_,n+1,.cons r t=>.cons r (bg.take n t)
theorem bg.drop:∀{xs:bY}{O:cq}(n:Nat),bg xs O->bg (xs.drop n) (O.drop n)
 |_,_,0,r=>r
 |_,_,_+1,.nil=>.nil
 |_,_,n+1,.cons _ t=>bg.drop n t
def pq:cp->cv->Prop
 |some v,some u=>RelV v u
 |none,none=>True
 |_,_=>False
def KV{κ:Type}:List (κ×V)->List (κ×Value)->Prop:=Paired fun(p:κ×V)(q:κ×Value)=>p.1=q.1/\RelV p.2 q.2
def kV:Key->V
 | .inl (.i i)=>.int i
 | .inl .no=>.ao
 | .inr x=>.str x
inductive HO where
  |lst (xs:bY)
  |tup (xs:bY)
  |dK (kvs:ca)|dT (kvs:de)
  |set (S:Int->Bool) (n:Nat)
  |ins (C dx:Addr) (fs:cw)
  |own (x:Addr)
  |xd (fs:cw)
  |met (f x:Addr)
  |Kh (lo hi:Int)
  |af (o:Obj) (u:HO)
  |CS (ps:Array Value)
  |ext (φ:Heap->Prop)
abbrev Hp:=Addr->Option HO
end L2
variable{H U H0:L2.Hp}
namespace L2
open PySem PySem.Spec PyProof.Rows
def upd(H:Hp)(a:Addr)(o:HO):Hp:=λb=>if b=a then some o else H b
theorem aA{o:HO}:upd H a o a=some o:=by unfold upd;rw[if_pos rfl]
theorem aB{o:HO}(h:b≠a):upd H a o b=H b:=by unfold upd;rw[if_neg h]
theorem iK{o u:HO}:upd (upd H a o) a u=upd H a u:=by
 funext b;unfold upd;split<;>rfl
theorem aO{o:HO}(h:H a=some o)(M:H b=none):a≠b:=by
 intro e;subst e;rw[h]at M;cases M
def B0(h:Heap)(a:Addr):Prop:=∀o,h.get? a=some o->o.dict=none
theorem B0.new{ob:Obj}(h0:ob.isFreed=false)(a:ob.dict=none):B0 (h.push ob) h.objs.size:=λo q=>by rw[Qd _ h0]at q;cases q;exact a
def bj(H:Hp)(b:Addr)(J:bY):Prop:=H b=some (.tup J)\/∃o,H b=some (.af o (.tup J))
theorem bj.upd{H:Hp}{b a:Addr}{J:bY}{o:HO}(r:bj H b J)(c:∀u,H b=some u->b≠a):bj (L2.upd H a o) b J:=by
 rcases r with r|⟨d,r⟩
 ·exact .inl (by rw[aB (c _ r)];exact r)
 ·exact .inr ⟨d,by rw[aB (c _ r)];exact r⟩
section
variable(P:Program)(w:World)
def br(H:Hp)(h:Heap)(a:Addr):HO->Prop
 | .lst xs=>xs.length<=sizeLine/\∃(b:cq)(n:Nat),bg xs b/\h.get? a=some {cls:=.type "list",data:=.seq b.toArray n}
 | .tup xs=>(xs.length<=sizeLine/\B0 h a)/\∃b:cq,bg xs b/\IsTup h a b.toArray
 | .dK kvs=>kvs.length<=sizeLine/\(a==sysModules)=false/\∃vs,KV kvs vs/\h.DictOf (cz P w) a vs
 | .dT kvs=>kvs.length<=sizeLine/\(a==sysModules)=false/\∃xs:List (fe×Addr×Value),
   Paired (fun(p:fe×V)(q:fe×Addr×Value)=>p.1=q.1/\bj H q.2.1 (p.1.map kV)/\RelV p.2 q.2.2) kvs xs/\
   ∃o es ep,h.get? a=some o/\o.ExactDict/\o.data=.dict es ep/\es.toList=xs.map (entryOfKey (tupleKind (cz P w)))/\(xs.map (·.1)).Nodup
 | .set S n=>h.SetOf (intKind P w) a S n
 | .ins C dx fs=>H dx=some (.own a)/\fs.length<=1000/\dx≠a/\h.get? a=some (PySem.W.instObj C dx)/\
   ∃mA,h.Ns1 dx mA/\(∀f,pq (fs.lookup f) (mA f))/\PySem.Within mA (fs.map (·.1))
 | .own _=>∃o,h.get? a=some o
 | .xd fs=>∃mA,h.Ns1 a mA/\∀f,pq (fs.lookup f) (mA f)
 | .Kh lo hi=>∃t u v,h.get? a=some {cls:=.type "range",data:=.fields #[.int lo t,.int hi u,.int 1 v]}
 | .af o u=>h.get? a=some o/\br H h a u
 | .CS ps=>h.get? a=some {cls:=.none,data:=.fields ps}
 | .met f x=>h.get? a=some (PySem.W.methodObj (.ref f) (.ref x))
 | .ext φ=>φ h/\(∃o,h.get? a=some o)/\∀Y h2:Heap,φ Y->(∀o,Y.get? a=some o->h2.get? a=some o)->φ h2
def fq(H:Hp)(h:Heap):Prop:=∀a o,H a=some o->br P w H h a o
end
section
variable{o:HO}
theorem br.lt(x:br P w H h a o):a<h.objs.size:=by
 cases o with
 |lst xs=>obtain⟨_,_,_,_,e⟩:=x;exact QA e
 |tup xs=>obtain⟨_,_,_,p⟩:=x;exact p.lt
 |dK kvs=>obtain⟨_,_,_,_,o,_,_,e,_⟩:=x;exact QA e
 |dT kvs=>obtain⟨_,_,_,_,o,_,_,e,_⟩:=x;exact QA e
 |set S n=>obtain⟨o,_,_,_,e,_⟩:=x;exact QA e
 |ins C dx fs=>obtain⟨_,_,_,e,_⟩:=x;exact QA e
 |own y=>obtain⟨_,e⟩:=x;exact QA e
 |xd fs=>obtain⟨_,⟨_,_,_,e,_⟩,_⟩:=x;exact QA e
 |Kh lo hi=>obtain⟨_,_,_,e⟩:=x;exact QA e
 |af ob u=>obtain⟨e,_⟩:=x;exact QA e
 |CS ps=>exact QA (show h.get? a=some _ from x)
 |met f y=>exact QA (show h.get? a=some _ from x)
 |ext φ=>obtain⟨_,⟨_,e⟩,_⟩:=x;exact QA e
theorem Paired.Kl{e g:Type}{F G:e->g->Prop}:∀{c:List e}{d:List g},Paired F c d->(∀a b,F a b->G a b)->Paired G c d
 |_,_,.nil,_=>.nil
 |_,_,.cons r t,f=>.cons (f _ _ r) (Paired.Kl t f)
theorem br.stay(x:br P w H h a o)(k:∀b u,(b=a\/H b=some (.own a))->h.get? b=some u->M.get? b=some u)
  (g:∀b,H b=some (.own a)->U b=some (.own a)) (i:∀b xs,bj H b xs->bj U b xs):br P w U M a o:=by
 induction o with
 |lst xs=>obtain⟨z,its,n,r,e⟩:=x;exact⟨z,its,n,r,k _ _ (.inl rfl) e⟩
 |tup xs=>obtain⟨⟨z,nd⟩,its,r,ob,e,c⟩:=x;exact⟨⟨z,λo q=>by rw[k _ _ (.inl rfl) e]at q;cases q;exact nd _ e⟩,its,r,ob,k _ _ (.inl rfl) e,c⟩
 |dK kvs=>obtain⟨z,y,vs,r,ob,es,ep,e,c⟩:=x;exact⟨z,y,vs,r,ob,es,ep,k _ _ (.inl rfl) e,c⟩
 |dT kvs=>
  obtain⟨z,y,xs,r,ob,es,ep,e,c⟩:=x;exact⟨z,y,xs,Paired.Kl r λp q z=>⟨z.1,i _ _ z.2.1,z.2.2⟩,ob,es,ep,k _ _ (.inl rfl) e,c⟩
 |set S n=>obtain⟨ob,es,ep,t,e,c⟩:=x;exact⟨ob,es,ep,t,k _ _ (.inl rfl) e,c⟩
 |ins C dx fs=>
  obtain⟨d,z,ne,e,mA,⟨od,es,ep,e2,c⟩,r⟩:=x;exact⟨g _ d,z,ne,k _ _ (.inl rfl) e,mA,⟨od,es,ep,k _ _ (.inr d) e2,c⟩,r⟩
 |own y=>obtain⟨ob,e⟩:=x;exact⟨ob,k _ _ (.inl rfl) e⟩
 |xd fs=>obtain⟨mA,⟨od,es,ep,e,c⟩,r⟩:=x;exact⟨mA,⟨od,es,ep,k _ _ (.inl rfl) e,c⟩,r⟩
 |Kh lo hi=>obtain⟨t,u,v,e⟩:=x;exact⟨t,u,v,k _ _ (.inl rfl) e⟩
 |af ob u ih=>obtain⟨e,q⟩:=x;exact⟨k _ _ (.inl rfl) e,ih q⟩
 |CS ps=>
  have e:h.get? a=some {cls:=.none,data:=.fields ps}:=x;show M.get? a=some {cls:=.none,data:=.fields ps};exact k a _ (.inl rfl) e
 |met f y=>
  have e:h.get? a=some (PySem.W.methodObj (.ref f) (.ref y)):=x;show M.get? a=some (PySem.W.methodObj (.ref f) (.ref y));exact k a _ (.inl rfl) e
 |ext φ=>obtain⟨p,⟨o,e⟩,st⟩:=x;exact⟨st _ _ p λo q=>k _ _ (.inl rfl) q,⟨o,k _ _ (.inl rfl) e⟩,st⟩
theorem fq.lt(x:fq P w H h)(e:H a=some o):a<h.objs.size:=(x a o e).lt
theorem fq.fresh(x:fq P w H h)(e:h.objs.size<=a):H a=none:=by
 cases q:H a with
 |none=>rfl
 |some u=>exact absurd (jB (x.lt q) e) (ft _)
theorem fq.kept(x:fq P w H h)(k:∀b u,h.get? b=some u->M.get? b=some u):fq P w H M:=λa o e=>
 (x a o e).stay (λb u _ q=>k b u q) (λ_ q=>q) λ_ _ q=>q
theorem fq.laid(x:fq P w H h)(k:∀b u,h.get? b=some u->M.get? b=some u)(g:h.objs.size<=a)(d:br P w (upd H a o) M a o):fq P w (upd H a o) M:=λb u e=>by
 have f:=x.fresh g;by_cases hb:b=a
 ·subst hb;rw[aA]at e;cases e;exact d
 ·rw[aB hb]at e;exact(x b u e).stay (λc v _ q=>k c v q) (λc q=>by rw[aB (aO q f)];exact q) λc j q=>q.upd λu i=>aO i f
end
def Rd(H:Hp)(a:Addr)(u:HO):Prop:=H a=some u\/∃o,H a=some (.af o u)
theorem Rd.ok{u:HO}(r:Rd H a u)(x:fq P w H h):br P w H h a u:=by
 rcases r with r|⟨o,r⟩
 ·exact x a u r
 ·obtain⟨_,q⟩:=x a _ r;exact q
def FH:Option HO->Prop
 |some (.lst _)=>True
 |some (.dK _)=>True
 |some (.dT _)=>True
 |some (.set _ _)=>True
 |some (.ins _ _ _)=>True
 |some (.ext _)=>True
 |_=>False
section
variable{x e:Addr}{o':HO}
theorem fq.write(ok:fq P w H h)(a:FH (H x))(g:e=x\/H e=some (.own x))(k:∀b u,b≠e->h.get? b=some u->M.get? b=some u)(l:∃u,M.get? e=some u)
  (d:br P w (upd H x o') M x o'):fq P w (upd H x o') M:=λb u q=>by
 have i:∀c y,H c=some (.own y)->c≠x:=λc y r z=>by subst z;rw[r]at a;exact a
 have m:∀c f,H c=some (.tup f)->c≠x:=λc f r z=>by subst z;rw[r]at a;exact a
 by_cases hb:b=x
 ·subst hb;rw[aA]at q;cases q;exact d
 ·rw[aB hb]at q;by_cases CT:b=e
  ·have j:H b=some (.own x):=by
    rcases g with z|z
    ·exact absurd (CT.trans z) hb
    ·rw[CT];exact z
   rw[q]at j;cases j;obtain⟨v,hv⟩:=l;exact⟨v,by rw[CT];exact hv⟩
  ·refine(ok b u q).stay (λc v hc r=>k c v ?_ r) (λc r=>by rw[aB (i c b r)];exact r) λc f r=>r.upd λ_ _ z=>by
    subst z;rcases r with r|⟨_,r⟩<;>(rw[r]at a;exact a)
   rcases hc with rfl|hc
   ·exact CT
   ·rintro rfl;rcases g with z|z
    ·exact i c b hc z
    ·rw[hc]at z;cases z;exact hb rfl
end
structure Un(fs ex:cx)(H U:Hp)(h M:Heap):Prop where
 keep:∀b o,h.get? b=some o->H b=none->b∉fs->b∉ex->M.get? b=some o
 slot:∀b o,h.get? b=some o->H b=none->b∈fs->b∉ex->∃sl,M.get? b=some {o with slots:=sl}
 free:∀b o,h.get? b=some o->H b=none->b∉ex->U b=none
 there:∀b o,h.get? b=some o->b∉ex->∃o',M.get? b=some o'
 tups:∀b xs,H b=some (.tup xs)->U b=some (.tup xs)
 xu:∀b o u,H b=some (.af o u)->U b=some (.af o u)
 yq:∀b ps,H b=some (.CS ps)->∃more,U b=some (.CS (ps++more))
section
variable{fs VP ex ex':cx}{H1 H2:Hp}{Y h2:Heap}{x e:Addr}{o:HO}
theorem Un.any(u:Un fs ex H H1 h Y){ob:Obj}(q:h.get? b=some ob)(n:H b=none)(a:b∉ex):∃c,Y.get? b=some {ob with slots:=c}:=by
 by_cases hb:b∈fs
 ·exact u.slot b ob q n hb a
 ·exact⟨ob.slots,u.keep b ob q n hb a⟩
theorem Un.trans(a:Un fs ex H H1 h Y)(b:Un fs ex H1 H2 Y h2):Un fs ex H H2 h h2 where
 keep:=λc ob q n hc hx=>b.keep c ob (a.keep c ob q n hc hx) (a.free c ob q n hx) hc hx
 slot:=λc ob q n hc hx=>by
  obtain⟨sl,e1⟩:=a.slot c ob q n hc hx;obtain⟨Km,e2⟩:=b.slot c _ e1 (a.free c ob q n hx) hc hx;exact⟨Km,e2⟩
 free:=λc ob q n hx=>by
  obtain⟨o',e1⟩:=a.there c ob q hx;exact b.free c o' e1 (a.free c ob q n hx) hx
 there:=λc ob q hx=>by
  obtain⟨o',e1⟩:=a.there c ob q hx;exact b.there c o' e1 hx
 tups:=λc xs q=>b.tups c xs (a.tups c xs q)
 xu:=λc ob xs q=>b.xu c ob xs (a.xu c ob xs q)
 yq:=λc ps q=>by
  obtain⟨m1,e1⟩:=a.yq c ps q;obtain⟨m2,e2⟩:=b.yq c _ e1;exact⟨m1++m2,by rw[e2,Array.append_assoc]⟩
theorem Un.kept(k:∀b u,h.get? b=some u->M.get? b=some u):Un fs ex H H h M:=
 ⟨λb a q _ _ _=>k b a q,λb a q _ _ _=>⟨a.slots,k b a q⟩,λ_ _ _ n _=>n,λb a q _=>⟨a,k b a q⟩,λ_ _ q=>q,λ_ _ _ q=>q,λ_ c q=>⟨#[],by rw[q];simp⟩⟩
theorem Un.refl:Un fs ex H H h h:=Un.kept λ_ _ q=>q
theorem Un.laid(k:∀b u,h.get? b=some u->M.get? b=some u)(hp:h.objs.size<=a)(hn:H a=none):Un fs ex H (upd H a o) h M where
 keep:=λb u q _ _ _=>k b u q
 slot:=λb u q _ _ _=>⟨u.slots,k b u q⟩
 free:=λb u q n _=>by rw[aB (yU (jB (QA q) hp))];exact n
 there:=λb u q _=>⟨u,k b u q⟩
 tups:=λb xs q=>by rw[aB (aO q hn)];exact q
 xu:=λb u xs q=>by rw[aB (aO q hn)];exact q
 yq:=λb ps q=>⟨#[],by rw[aB (aO q hn),q];simp⟩
theorem Un.write(a:FH (H x))(g:e=x\/H e=some (.own x))(k:∀b u,b≠e->h.get? b=some u->M.get? b=some u)(i:∃u,M.get? e=some u):Un fs ex H (upd H x o) h M:=by
 have d:∀b,H b=none->b≠x:=λb n z=>by subst z;rw[n]at a;exact a
 have f:∀b,H b=none->b≠e:=λb n z=>by
  subst z;rcases g with r|r
  ·exact d b n r
  ·rw[n]at r;cases r
 have c:∀b u,H b=some u->¬FH (some u)->b≠x:=λb u q j z=>by subst z;rw[q]at a;exact j a
 refine⟨λb u q n _ _=>k b u (f b n) q,λb u q n _ _=>⟨u.slots,k b u (f b n) q⟩,λb u q n _=>by rw[aB (d b n)];exact n,λb u q _=>?_,
  λb l q=>by rw[aB (c b _ q λz=>z)];exact q,λb u l q=>by rw[aB (c b _ q λz=>z)];exact q,λb m q=>⟨#[],by rw[aB (c b _ q λz=>z),q];simp⟩⟩
 by_cases CT:b=e
 ·subst CT;exact i
 ·exact⟨u,k b u CT q⟩
end
def qt(h:Heap)(H:Hp):cx:=(List.range h.objs.size).filter λa=>(H a).isSome
def A_(h:Heap)(H:Hp):Heap:=PySem.W.hideAll h (qt h H)
theorem zZ(h:Heap)(H:Hp):(A_ h H).objs.size=h.objs.size:=PySem.W.hideAll_size _ _
theorem VQ(e:h.get? b=some o)(n:H b=none):(A_ h H).get? b=some o:=
 PySem.W.hideAll_get _ e λa=>by
  have q:(H b).isSome=true:=(Qab.mp a).2;rw[n]at q;simp at q
theorem VR(e:(A_ h H).get? b=some o):h.get? b=some o/\H b=none:=by
 have a:h.get? b=some o:=PySem.W.of_hideAll (qt h H) e;refine⟨a,?_⟩;cases q:H b with
 |none=>rfl
 |some x=>
  have c:b∈qt h H:=Qab.mpr ⟨Qag.mpr (QA a),by simp[q]⟩;have z:(A_ h H).get? b=none:=PySem.W.hideAll_none (qt h H) c;rw[z]at e;cases e
structure Mod(K:Q0)(mg:Str->cv)(base:Heap):Prop where
 u_:K.In base
 glob:base.Ns mainGlobals mg
 blt:∃mb,base.Ns builtinsNs mb/\∀x:Str,x≠"__name__"->mb x=bootBuiltins x
 nolimit:base.NoLimit
structure Cx where
 prog:Program
 w:World
 K:Q0
 mg:Str->cv
 base:Heap
 A:Around
 N:aU
 s₀:Shared
 H₀:Hp
 env:Env
 outer:List Env
 stack:List Env
 ex:cx
 fn:Str->Bool
 calm:Bool
 pn:'e'
 xe:Value->Shared->Prop
abbrev eH(X:Cx)(e:Expr)(es:List Expr):Prop:=starEach (e::es) X.env=(false,eval e X.env)::starEach es X.env
abbrev eJ(X:Cx)(p:Pos)(es:List Expr):Prop:=(backTo p (starEach es X.env)).any (·.1)=false
abbrev ib(X:Cx)(x:Str):Prop:=X.fn x=true\/X.env.scope.names.lookup x=some .local
abbrev db(x:Str):Prop:=(x==("__debug__":Str))=false
end L2
variable{X:L2.Cx}
namespace L2
open PySem PySem.Spec PyProof.Rows
def vc(l:List Env):cx:=l.filterMap (·.frame)
abbrev Cx.fs(X:Cx):cx:=vc X.outer
def Ed(a:Scope)(x:Str):Prop:=a.names.lookup x=some .local\/a.names.lookup x=some .cell\/a.names.lookup x=some .free
def Loc(a:Scope)(x:Str):Prop:=a.names.lookup x=some .local\/a.names.lookup x=some .cell
def Look(env:Env)(h:Heap)(m:Str->cv)(x:Str)(u:Value):Prop:=
 (env.kindOf x=some .local/\m x=some u)\/((env.kindOf x=some .cell\/env.kindOf x=some .free)/\∃c,env.cells.lookup x=some c/\h.IsCell c (some u))
structure Cx.Ok(X:Cx):Prop where
 mod:Mod X.K X.mg X.base
 kind:X.env.scope.kind=.function
 glob:X.env.globals=mainGlobals
 blt:X.env.builtins=builtinsNs
 above:X.s₀.heap.objs.size<=X.env.locals
 inj:∀x y c,'g'->X.env.cells.lookup y=some c->x=y
 has:∀x,(X.env.kindOf x=some .cell\/X.env.kindOf x=some .free)->∃c,'g'
 FI:∀x c,X.fn x=true->'g'->X.s₀.heap.objs.size<=c
 hd:X.calm=true->X.A.handled=none
 frames:X.A.frames=some X.stack
 HD:X.stack=X.outer\/(X.stack=X.env::X.outer/\X.env.frame=some X.env.locals)
 OM:∀b∈X.ex,b≠X.env.locals/\∀x c,'g'->c≠b
 bs:∀b o,X.base.get? b=some o->X.s₀.heap.get? b=some o/\X.H₀ b=none
 Ba:X.base.objs.size<=X.s₀.heap.objs.size
 FJ:∀b o,X.base.get? b=some o->b∉X.ex
 HE:∀b∈X.ex,b∉X.fs
 yr:X.s₀.heap.FunFrames X.base X.outer
 CU:∀b∈X.fs,X.H₀ b=none
structure Inv(X:Cx)(B:'e')(Z:List cp)(H:Hp)(s:Shared):Prop where
 ok:X.Ok
 os:s.os=X.s₀.os
 bare:AllBare s.gens
 base:Un X.fs X.ex X.H₀ H X.s₀.heap s.heap
 loc:∃m,s.heap.Ns X.env.locals m/\∀(i:Nat)(x:Str)(v:V),X.N[i]? =some x->Z[i]? =some (some v)->Ed X.env.scope x->∃u,RelV v u/\Look X.env s.heap m x u
 cell:∀x c,'g'->∃v,s.heap.IsCell c v
 free:H X.env.locals=none
 zk:∀x c,'g'->H c=none
 pin:∀p∈X.pn++B,s.heap.get? p.1=some p.2/\H p.1=none/\p.1≠X.env.locals/\p.1∉X.fs/\∀v,p.2.data≠.cell v
 hok:fq X.prog X.w H s.heap
 len:Z.length=X.N.length
section
variable{Z:List cp}
theorem Cx.Ok.VS(ok:X.Ok)(e:X.base.get? b=some o):b∉X.fs:=λa=>by
 have:=(ok.yr.mem a).1;rw[e]at this;cases this
theorem Inv.bs(I:Inv X B Z H s):∀b o,X.base.get? b=some o->'l'/\H b=none:=λb o e=>
 ⟨I.base.keep b o (I.ok.bs b o e).1 (I.ok.bs b o e).2 (I.ok.VS e) (I.ok.FJ b o e),I.base.free b o (I.ok.bs b o e).1 (I.ok.bs b o e).2 (I.ok.FJ b o e)⟩
theorem Inv.bk(I:Inv X B Z H s):∀b o,X.base.get? b=some o->'l':=λb o e=>(I.bs b o e).1
theorem Inv.mod(I:Inv X B Z H s):Mod X.K X.mg X.base:=I.ok.mod
theorem Inv.ji(I:Inv X B Z H s):X.K.In s.heap:=I.ok.mod.u_.keeps I.bk
theorem Inv.lt(I:Inv X B Z H s):X.env.locals<s.heap.objs.size:=let ⟨_,hn,_⟩:=I.loc;hn.lt
theorem Inv.sz(I:Inv X B Z H s):X.s₀.heap.objs.size<=s.heap.objs.size:=jU I.ok.above (Nat.le_of_lt I.lt)
theorem Inv.VT(I:Inv X B Z H s)(h:s.heap.objs.size<=a):a∉X.fs:=λb=>by
 obtain⟨_,o,ho,_⟩:=I.ok.yr.mem b;exact absurd (jB (QA ho) (jU I.sz h)) (ft _)
theorem Inv.CV(I:Inv X B Z H s):∀x c,'g'->c≠X.env.locals:=λx c e z=>by
 obtain⟨v,o,ho,hd⟩:=I.cell x c e;obtain⟨m,⟨o',es,ep,zl,Ko,_⟩,_⟩:=I.loc;rw[z,zl]at ho;cases ho;rw[Ko]at hd;cases hd
theorem Inv.yr(I:Inv X B Z H s):s.heap.FunFrames X.base X.outer:=by
 have all:∀(l:List Env),(∀b∈vc l,b∈X.fs)->X.s₀.heap.FunFrames X.base l->s.heap.FunFrames X.base l:=by
  intro l
  induction l with
  |nil=>intro _ _;trivial
  |cons env r ih=>
   intro d f;obtain⟨hk,⟨L,o,hf,hn,ho,hd⟩,hr⟩:=f;have a:L∈X.fs:=d L (by unfold vc;rw[nz,hf];exact yS);obtain⟨sl,e⟩:=I.base.slot L o ho (I.ok.CU L a) a λz=>I.ok.HE L z a;exact⟨hk,⟨L,_,hf,hn,e,hd⟩,ih (λb c=>d b (by unfold vc;rw[nz,hf];exact Qh _ c)) hr⟩
 exact all X.outer (λ_ c=>c) I.ok.yr
theorem Inv.stack(I:Inv X B Z H s):s.heap.FunFrames X.base X.stack:=by
 rcases I.ok.HD with e|⟨e,a⟩
 ·rw[e];exact I.yr
 ·rw[e];obtain⟨m,hn,_⟩:=I.loc;refine .cons (by rw[I.ok.kind];decide) a hn ?_ I.yr;exact Heap.get?_none_of_le (jU I.ok.Ba I.ok.above)
theorem Inv.FN(I:Inv X B Z H s):∀b∈vc X.stack,b∈X.env.locals::X.fs:=λb a=>by
 rcases I.ok.HD with e|⟨e,c⟩
 ·rw[e]at a;exact Qh _ a
 ·rw[e]at a;unfold vc at a;rw[nz,c]at a;exact a
theorem Inv.ON(I:Inv X B Z H s):∀b∈vc X.stack,H b=none:=λb hb=>by
 rcases Qp.mp (I.FN b hb)with e|hb
 ·rw[e];exact I.free
 ·obtain⟨_,o,ho,_⟩:=I.ok.yr.mem hb;exact I.base.free b o ho (I.ok.CU b hb) λz=>I.ok.HE b z hb
theorem Inv.step{g':Array GenState}{d':Drawn}(I:Inv X B Z H s)
  (t:∀b∈ch,(b∈X.ex\/X.s₀.heap.objs.size<=b)/\b≠X.env.locals/\(∀x c,'g'->c≠b)/\∀p∈X.pn++B,p.1≠b)
  (keep:∀b o,b≠X.env.locals->b∉X.fs->b∉ch->'l'->H b=none->M.get? b=some o)
  (slot:∀b o,b≠X.env.locals->b∈X.fs->b∉ch->'l'->H b=none->∃D,M.get? b=some {o with slots:=D}) (free:∀b o,b∉ch->'l'->H b=none->U b=none)
  (there:∀b o,b∉ch->'l'->∃o',M.get? b=some o')
  (tups:∀b xs,H b=some (.tup xs)->U b=some (.tup xs)) (xu:∀b o u,H b=some (.af o u)->U b=some (.af o u)) (yq:∀b ps,H b=some (.CS ps)->∃more,U b=some (.CS (ps++more)))
  (L:∀m,s.heap.Ns X.env.locals m->M.Ns X.env.locals m) (hok:fq X.prog X.w U M) (N:AllBare g'):
  Inv X B Z U {s with heap:=M,gens:=g',drawn:=d',toks:=t'}:=by
 have G:∀b o,X.s₀.heap.get? b=some o->b≠X.env.locals:=λb o e=>yU (jB (QA e) I.ok.above);have C:∀b o,X.s₀.heap.get? b=some o->b∉X.ex->b∉ch:=λb o e a h=>by
  rcases(t b h).1 with z|z
  ·exact a z
  ·exact absurd (jB (QA e) z) (ft _)
 have f:∀x c,'g'->∀v,s.heap.IsCell c v->M.IsCell c v:=λx c e v ⟨o,j,E⟩=>by
  have y:c∉ch:=λz=>(t c z).2.2.1 x c e rfl;by_cases hc:c∈X.fs
  ·obtain⟨D,q⟩:=slot c o (I.CV x c e) hc y j (I.zk x c e);exact⟨_,q,E⟩
  ·exact⟨o,keep c o (I.CV x c e) hc y j (I.zk x c e),E⟩
 refine⟨I.ok,I.os,N,⟨λb o e n h a=>?_,λb o e n h a=>?_,λb o e n a=>?_,λb o e a=>?_,λb xs e=>tups b xs (I.base.tups b xs e),λb o xs e=>xu b o xs (I.base.xu b o xs e),λb ps e=>?_⟩,?_,λx c e=>?_,?_,λx c e=>?_,λp K=>?_,hok,I.len⟩
 ·exact keep b o (G b o e) h (C b o e a) (I.base.keep b o e n h a) (I.base.free b o e n a)
 ·obtain⟨D,g⟩:=I.base.slot b o e n h a;obtain⟨Km,A⟩:=slot b _ (G b o e) h (C b o e a) g (I.base.free b o e n a);exact⟨Km,A⟩
 ·obtain⟨o',g⟩:=I.base.there b o e a;exact free b o' (C b o e a) g (I.base.free b o e n a)
 ·obtain⟨o',g⟩:=I.base.there b o e a;exact there b o' (C b o e a) g
 ·obtain⟨m1,g⟩:=I.base.yq b ps e;obtain⟨m2,A⟩:=yq b _ g;exact⟨m1++m2,by rw[A,Array.append_assoc]⟩
 ·obtain⟨m,hn,hl⟩:=I.loc;refine⟨m,L m hn,λi x v g A P=>?_⟩;obtain⟨u,r,l⟩:=hl i x v g A P;refine⟨u,r,?_⟩;rcases l with l|⟨k,c,e,z⟩
  ·exact .inl l
  ·exact .inr ⟨k,c,e,f x c e _ z⟩
 ·obtain⟨v,z⟩:=I.cell x c e;exact⟨v,f x c e v z⟩
 ·obtain⟨m,⟨o,_,_,j,_⟩,_⟩:=I.loc;exact free _ o (λz=>(t _ z).2.1 rfl) j I.free
 ·obtain⟨v,o,j,E⟩:=I.cell x c e;exact free c o (λz=>(t c z).2.2.1 x c e rfl) j (I.zk x c e)
 ·obtain⟨e,n,ne,nf,d⟩:=I.pin p K;have y:p.1∉ch:=λz=>(t p.1 z).2.2.2 p K rfl;exact⟨keep p.1 p.2 ne nf y e n,free p.1 p.2 y e n,ne,nf,d⟩
theorem Inv.un(I:Inv X B Z H s)(u:Un X.fs [] H U s.heap M)(hok:fq X.prog X.w U M):Inv X B Z U {s with heap:=M,toks:=t'}:=by
 obtain⟨m,⟨o,es,ep,ho,r⟩,_⟩:=id I.loc;obtain⟨sl,hL⟩:=u.any ho I.free (by simp);exact I.step (g':=s.gens) (d':=s.drawn) (ch:=[]) ('n') (λb o _ a _ e n=>u.keep b o e n a (by simp)) (λb o _ a _ e n=>u.slot b o e n a (by simp)) (λb o _ e n=>u.free b o e n (by simp)) (λb o _ e=>u.there b o e (by simp)) u.tups u.xu u.yq (λd c=>by
  obtain⟨o',es',p_,zl,r'⟩:=c;rw[ho]at zl;cases zl;exact⟨_,es',p_,hL,r'⟩) hok I.bare
theorem Inv.call{g':Array GenState}{d':Drawn}(I:Inv X B Z H s)(u:Un (vc X.stack) ch H U s.heap M)(hok:fq X.prog X.w U M)(g:AllBare g')
  (f:∀b∈ch,(b∈X.ex\/X.s₀.heap.objs.size<=b)/\b≠X.env.locals/\(∀x c,'g'->c≠b)/\∀p∈X.pn++B,p.1≠b):
  Inv X B Z U {s with heap:=M,gens:=g',drawn:=d',toks:=t'}:=by
 obtain⟨m,⟨o,es,ep,ho,r⟩,_⟩:=id I.loc;obtain⟨sl,d⟩:=u.any ho I.free λz=>(f _ z).2.1 rfl;exact I.step (ch:=ch) f (λb o d h a e n=>u.keep b o e n (λz=>(Qp.mp (I.FN b z)).elim d h) a) (λb o _ _ a e n=>u.any e n a) (λb o a e n=>u.free b o e n a) (λb o a e=>u.there b o e a) u.tups u.xu u.yq (λj i=>by
  obtain⟨o',es',p_,zl,r'⟩:=i;rw[ho]at zl;cases zl;exact⟨_,es',p_,d,r'⟩) hok g
theorem Inv.turned(I:Inv X B Z H s)(k:∀b o,b≠it->'l'->M.get? b=some o)(g:H it=none)(d:it≠X.env.locals)
  (h:it∈X.ex\/X.s₀.heap.objs.size<=it) (i:∀x c,'g'->c≠it) (j:∀p∈X.pn++B,p.1≠it):Inv X B Z H {s with heap:=M,toks:=t'}:=by
 have f:∀b u,H b=some u->b≠it:=λb u e z=>by rw[z,g]at e;cases e
 refine I.step (g':=s.gens) (d':=s.drawn) (ch:=[it]) (λb l=>?_) (λb o _ _ a e _=>k b o (λz=>a (by simp[z])) e) (λb o _ _ a e _=>⟨o.slots,k b o (λz=>a (by simp[z])) e⟩) (λ_ _ _ _ n=>n)
  (λb o a e=>⟨o,k b o (λz=>a (by simp[z])) e⟩) (λ_ _ e=>e) (λ_ _ _ e=>e) (λb w e=>⟨#[],by rw[e];simp⟩) (λm t=>?_) (λb u e=>?_) I.bare
 ·have e:b=it:=by simpa using l
  subst e;exact⟨h,d,i,j⟩
 ·obtain⟨o,es,ep,ho,r⟩:=t;exact⟨o,es,ep,k _ o (Ne.symm d) ho,r⟩
 ·refine(I.hok b u e).stay (λc v a q=>k c v ?_ q) (λ_ q=>q) λ_ _ q=>q;rcases a with z|z
  ·rw[z];exact f b u e
  ·exact f c _ z
theorem Inv.tok(I:Inv X B Z H s)(t:Nat):Inv X B Z H {s with toks:=t}:=I.un (M:=s.heap) (t':=t) Un.refl I.hok
theorem Inv.kept{t':Nat}(I:Inv X B Z H s)(k:∀b u,s.heap.get? b=some u->M.get? b=some u):Inv X B Z H {s with heap:=M,toks:=t'}:=I.un (Un.kept k) (I.hok.kept k)
theorem Inv.laid{a:Addr}{o:HO}{t':Nat}(I:Inv X B Z H s)(k:∀b u,s.heap.get? b=some u->M.get? b=some u)(c:s.heap.objs.size<=a)(d:br X.prog X.w (upd H a o) M a o):
  Inv X B Z (upd H a o) {s with heap:=M,toks:=t'}:=I.un (Un.laid k c (I.hok.fresh c)) (I.hok.laid k c d)
theorem Inv.write{x e:Addr}{o:HO}{t':Nat}(I:Inv X B Z H s)(c:FH (H x))(d:e=x\/H e=some (.own x))(k:∀b u,b≠e->s.heap.get? b=some u->M.get? b=some u)(f:∃u,M.get? e=some u)
  (a:br X.prog X.w (upd H x o) M x o):Inv X B Z (upd H x o) {s with heap:=M,toks:=t'}:=I.un (Un.write c d k f) (I.hok.write c d k f a)
theorem Inv.OQ{a:'e'}(I:Inv X B Z H s)(h:∀p∈a,s.heap.get? p.1=some p.2/\H p.1=none/\p.1≠X.env.locals/\p.1∉X.fs/\∀v,p.2.data≠.cell v):Inv X a Z H s:=
 ⟨I.ok,I.os,I.bare,I.base,I.loc,I.cell,I.free,I.zk,λp b=>(zH.mp b).elim (λz=>I.pin p (List.mem_append_left _ z)) (h p),I.hok,I.len⟩
theorem uH(c:N.Nodup)(a:N[i]? =some x)(b:N[j]? =some x):i=j:=by
 obtain⟨Y,e1⟩:=yE.mp a;obtain⟨h2,e2⟩:=yE.mp b;exact(jk c).mp (e1.trans e2.symm)
theorem lA{M:Model}{v:V}{Q:Unit->Shared->Prop}(I:Inv X B Z H s)(hN:X.N.Nodup)(K:X.N[i]? =some x)(t:Loc X.env.scope x)(r:RelV v u)
  (h:∀s',Inv X B (Z.set i (some v)) H s'->(∃a,Heap.SameBut a s.heap s'.heap/\(a=X.env.locals\/X.env.cells.lookup x=some a))->Q () s') (hf:ib X x:=by first|exact .inl rfl|exact .inr rfl|assumption):wpAny M A (storeName X.env x u) Q E s:=by
 obtain⟨m,hn,hl⟩:=id I.loc;have VU:(X.env.scope.kind==.class||(X.env.scope.kind==.module&&X.env.locals !=X.env.globals))=false:=by rw[I.ok.kind];rfl
 have OS:i<Z.length:=by rw[I.len];exact(yE.mp K).1
 have CV:=I.CV;have g:∀{a:Addr}{G:Heap},(∃o,s.heap.get? a=some o/\H a=none)->Heap.SameBut a s.heap G->fq X.prog X.w H G:=fun{a G}ha f b ob e=>by
  obtain⟨_,_,OT⟩:=ha;refine(I.hok b ob e).stay (λc L hc q=>(f.2 c ?_).trans q) (λ_ q=>q) λ_ _ q=>q;rintro rfl;rcases hc with rfl|hc
  ·rw[OT]at e;cases e
  ·rw[OT]at hc;cases hc
 rcases t with hk|hk
 ·refine wpAny_storeName_local hk hn (λG FO f=>?_) VU;obtain⟨oL,_,_,HG,_⟩:=id hn;refine h _ ⟨I.ok,I.os,I.bare,⟨λb o e n D t=>?_,λb o e n D t=>?_,I.base.free,λb o e t=>?_,I.base.tups,I.base.xu,I.base.yq⟩,⟨_,FO,λj y R l C T=>?_⟩,λy c e=>?_,I.free,I.zk,λp hp=>?_,g ⟨oL,HG,I.free⟩ f,by simpa using I.len⟩ ⟨_,f,.inl rfl⟩
  ·exact(f.2 b (yU (jB (QA e) I.ok.above))).trans (I.base.keep b o e n D t)
  ·obtain⟨sl,l⟩:=I.base.slot b o e n D t;exact⟨sl,(f.2 b (yU (jB (QA e) I.ok.above))).trans l⟩
  ·obtain⟨o',l⟩:=I.base.there b o e t;exact⟨o',(f.2 b (yU (jB (QA e) I.ok.above))).trans l⟩
  ·by_cases hj:j=i
   ·subst hj;rw[K]at l;cases l;rw[List.getElem?_set_self OS]at C;cases C;exact⟨u,r,.inl ⟨hk,by simp⟩⟩
   ·rw[List.getElem?_set_ne (Ne.symm hj)]at C;obtain⟨u',r',q⟩:=hl j y R l C T;refine⟨u',r',?_⟩;rcases q with⟨k,e⟩|⟨k,c,e,z⟩
    ·refine .inl ⟨k,?_⟩;have:y≠x:=λe=>hj (uH hN l (e▸K));simp[this,e]
    ·exact .inr ⟨k,c,e,z.sameBut f (CV y c e)⟩
  ·obtain⟨L,z⟩:=I.cell y c e;exact⟨L,z.sameBut f (CV y c e)⟩
  ·obtain⟨e,n,ne,nf,d⟩:=I.pin p hp;exact⟨(f.2 p.1 ne).trans e,n,ne,nf,d⟩
 ·have Kp:X.fn x=true:=by
   rcases hf with z|z
   ·exact z
   ·rw[z]at hk;cases hk
  obtain⟨c,hc⟩:=I.ok.has x (.inl hk);obtain⟨L,z⟩:=I.cell x c hc;refine wpAny_storeName_cell I.ok.kind hk hc z (λG xw f=>?_);obtain⟨oc,OU,VW⟩:=id z;refine h {s with heap:=G} ⟨I.ok,I.os,I.bare,⟨λb o e n D t=>?_,λb o e n D t=>?_,I.base.free,λb o e t=>?_,I.base.tups,I.base.xu,I.base.yq⟩,⟨m,hn.sameBut f (Ne.symm (CV x c hc)),λj y R l C T=>?_⟩,λy P e=>?_,I.free,I.zk,λp hp=>?_,g ⟨oc,OU,I.zk x c hc⟩ f,by simpa using I.len⟩ ⟨c,f,.inr hc⟩
  ·exact(f.2 b (yU (jB (QA e) (I.ok.FI x c Kp hc)))).trans (I.base.keep b o e n D t)
  ·obtain⟨sl,l⟩:=I.base.slot b o e n D t;exact⟨sl,(f.2 b (yU (jB (QA e) (I.ok.FI x c Kp hc)))).trans l⟩
  ·obtain⟨o',l⟩:=I.base.there b o e t;exact⟨o',(f.2 b (yU (jB (QA e) (I.ok.FI x c Kp hc)))).trans l⟩
  ·by_cases hj:j=i
   ·subst hj;rw[K]at l;cases l;rw[List.getElem?_set_self OS]at C;cases C;exact⟨u,r,.inr ⟨.inl hk,c,hc,xw⟩⟩
   ·rw[List.getElem?_set_ne (Ne.symm hj)]at C;obtain⟨u',r',q⟩:=hl j y R l C T;refine⟨u',r',?_⟩;rcases q with q|⟨k,P,e,z'⟩
    ·exact .inl q
    ·refine .inr ⟨k,P,e,z'.sameBut f ?_⟩;rintro rfl;exact hj (uH hN l (I.ok.inj _ _ _ e hc▸K))
  ·by_cases HH:P=c
   ·subst HH;exact⟨_,xw⟩
   ·obtain⟨w2,z2⟩:=I.cell y P e;exact⟨w2,z2.sameBut f HH⟩
  ·obtain⟨e,n,ne,nf,d⟩:=I.pin p hp;refine⟨(f.2 p.1 ?_).trans e,n,ne,nf,d⟩;intro q;rw[q,OU]at e;have q':oc=p.2:=QE e;exact d L (by rw[<- q'];exact VW)
theorem nI{M:Model}{v:V}{Q:Unit->Shared->Prop}(I:Inv X B Z H s)(a:X.N.Nodup)(b:X.N[i]? =some x)(c:Loc X.env.scope x)(r:RelV v u)
  (h:∀s',Inv X B (Z.set i (some v)) H s'->Q () s') (d:ib X x:=by first|exact .inl rfl|exact .inr rfl|assumption):wpAny M A (storeName X.env x u) Q E s:=
 lA I a b c r (λs' e _=>h s' e) d
theorem Inv.VX{a:Shared}(I:Inv X B Z H s)(d:a.os=s.os)(u:Un (vc X.stack) ch H U s.heap a.heap)(hok:fq X.prog X.w U a.heap)(f:AllBare a.gens)
  (g:∀b∈ch,(b∈X.ex\/X.s₀.heap.objs.size<=b)/\b≠X.env.locals/\(∀x c,'g'->c≠b)/\∀p∈X.pn++B,p.1≠b):Inv X B Z U a:=by
 obtain⟨M,g',d',t',o'⟩:=a;have e:o'=s.os:=d;subst e;exact I.call (g':=g') (t':=t') (d':=d') u hok f g
end
abbrev XK:=Value->Option Addr->Hp->Prop
abbrev St:=List cp
end L2
variable{Z:L2.St}
namespace L2
open PySem PySem.Spec PyProof.Rows
abbrev VK:=V->Hp->Prop
abbrev TE:=St->Hp->VK->Prop
end L2
variable{ta te to:L2.TE}{we:List (L2.TE×L2.TE)}
namespace L2
open PySem PySem.Spec PyProof.Rows
abbrev TT:=St->Hp->(Bool->Hp->Prop)->Prop
abbrev TA:=St->Hp->(bY->Hp->Prop)->Prop
structure Ends where
 nx:St->Hp->Prop
 rt:VK
 bk:St->Hp->Prop:=λ_ _=>False
 ct:St->Hp->Prop:=λ_ _=>False
abbrev TS:=Ends->St->Hp->Prop
def EP(X:Cx)(B:'e')(Z:St)(Q:VK)(u:Value)(a:Shared):Prop:=∃v U,Inv X B Z U a/\RelV v u/\Q v U
def TP(X:Cx)(B:'e')(Z:St)(Q:Bool->Hp->Prop)(b:Bool)(a:Shared):Prop:=∃U,Inv X B Z U a/\Q b U
def AP(X:Cx)(B:'e')(Z:St)(Q:bY->Hp->Prop)(O:cq)(a:Shared):Prop:=∃vs U,Inv X B Z U a/\bg vs O/\Q vs U
def SP(X:Cx)(B:'e')(D:Ends)(f:Flow)(b:Shared):Prop:=
 match f with
 | .next=>∃a U,Inv X B a U b/\D.nx a U
 | .brk=>∃a U,Inv X B a U b/\D.bk a U
 | .cont=>∃a U,Inv X B a U b/\D.ct a U
 | .ret u=>∃v a U,Inv X B a U b/\RelV v u/\D.rt v U
def PE(X:Cx)(e:Expr)(t:TE):Prop:=
 ∀(B:'e')(s:Shared)(Z:St)(H:Hp)(Q:VK),Inv X B Z H s->t Z H Q->wpAny 'a' X.A (eval e X.env) (EP X B Z Q) X.xe s
def PT(X:Cx)(e:Expr)(t:TT):Prop:=
 ∀(B:'e')(s:Shared)(Z:St)(H:Hp)(Q:Bool->Hp->Prop),Inv X B Z H s->t Z H Q->wpAny 'a' X.A (isTrue e X.env (eval e X.env)) (TP X B Z Q) X.xe s
def PW(X:Cx)(e:Expr)(t:TT):Prop:=
 ∀(a:Sem Value)(B:'e')(s:Shared)(Z:St)(H:Hp)(Q:Bool->Hp->Prop),Inv X B Z H s->t Z H Q->wpAny 'a' X.A (isTrue e X.env a) (TP X B Z Q) X.xe s
theorem PW.pt{t:TT}(h:PW X e t):PT X e t:=h _
def PA(X:Cx)(es:List Expr)(t:TA):Prop:=
 ∀(pos:Pos)(B:'e')(s:Shared)(Z:St)(H:Hp)(Q:bY->Hp->Prop),Inv X B Z H s->t Z H Q->wpAny 'a' X.A (spliced (backTo pos (starEach es X.env))) (AP X B Z Q) X.xe s
def PS(X:Cx)(st:Stmt)(t:TS):Prop:=
 ∀(B:'e')(s:Shared)(Z:St)(H:Hp)(D:Ends),Inv X B Z H s->t D Z H->wpAny 'a' X.A (exec st X.env) (SP X B D) X.xe s
def vd(X:Cx)(st:List Stmt)(t:TS):Prop:=
 ∀(B:'e')(s:Shared)(Z:St)(H:Hp)(D:Ends),Inv X B Z H s->t D Z H->wpAny 'a' X.A (execs st X.env) (SP X B D) X.xe s
theorem ay{t:Sem α}{Q b:α->Shared->Prop}{M:Model}(h:wpAny M A t Q E s)(c:∀a s,Q a s->b a s):wpAny M A t b E s:=wpAny_mono h c λ_ _ x=>x
section
def VY(i:Nat):TE:=λZ H Q=>∃v,Z[i]? =some (some v)/\Q v H
def tC(v:V):TE:=λ_ H Q=>Q v H
theorem VZ{b:Pos}(j:X.N[i]? =some x)(hv:Ed X.env.scope x)(d:db x:=by decide)(k:(x==("__classdict__":Str))=false:=by decide):PE X (.Name x b) (VY i):=by
 intro a s n H Q I h;obtain⟨v,e,h⟩:=h;obtain⟨m,hn,hl⟩:=I.loc;obtain⟨u,r,l⟩:=hl i x v j e hv;have fin:EP X a n Q u s:=⟨v,H,I,r,h⟩
 rcases l with⟨hk,o⟩|⟨hk,c,f,g⟩
 ·exact wpAny_Name (wpAny_loadName_local I.ok.kind hk hn o fin) d
 ·rcases hk with hk|hk
  ·exact wpAny_Name (wpAny_loadName_cell I.ok.kind hk f g fin) d
  ·exact wpAny_Name (wpAny_loadName_free I.ok.kind hk f g fin k) d
theorem V0{i j pos}:PE X (.Constant (.int i) j pos) (tC (.int i)):=λ_ _ _ H _ I h=>wpAny_Constant_int ⟨.int i,H,I.tok _,⟨_,rfl⟩,h⟩
theorem V1{b j pos}:PE X (.Constant (.bool b) j pos) (tC (.bl b)):=λ_ _ _ H _ I h=>Constant_bool ⟨.bl b,H,I,rfl,h⟩
theorem V2{j pos}:PE X (.Constant .none j pos) (tC .ao):=λ_ _ _ H _ I h=>Constant_none ⟨.ao,H,I,rfl,h⟩
theorem V3{x j pos}:PE X (.Constant (.str x) j pos) (tC (.str x)):=λ_ _ _ H _ I h=>Calls.Constant_str ⟨.str x,H,I.tok _,⟨_,rfl⟩,h⟩
def Gl(X:Cx)(x:Str):Prop:=X.env.kindOf x=some .globalImplicit
theorem mK{a:Pos}(I:Inv X B Z H s)(b:Gl X x)(c:X.mg x=some u)(h:Q u s)
  (d:db x:=by decide):wpAny 'a' X.A (eval (.Name x a) X.env) Q E s:=
 Calls.Name_function_global I.ok.kind b (Calls.loadGlobal_global (by rw[I.ok.glob];exact I.mod.glob.keeps I.bk) c h) d
theorem iC{a:Pos}(I:Inv X B Z H s)(b:Gl X x)(c:X.mg x=none)(hv:bootBuiltins x=some u)(h:Q u s)
  (d:x≠"__name__":=by decide) (e:db x:=by decide):wpAny 'a' X.A (eval (.Name x a) X.env) Q E s:=by
 obtain⟨mb,Y,h2⟩:=I.mod.blt;exact Calls.Name_function_global I.ok.kind b (Calls.loadGlobal_builtin (by rw[I.ok.glob];exact I.mod.glob.keeps I.bk) c (by rw[I.ok.blt];exact Y.keeps I.bk) ((h2 x d).trans hv) h) e
theorem mQ{v:V}{a:Pos}(b:Gl X x)(c:X.mg x=some u)(r:RelV v u)(d:db x:=by decide):PE X (.Name x a) (tC v):=
 λ_ _ _ H _ I h=>mK I b c ⟨v,H,I,r,h⟩ d
theorem V4{v:V}{a:Pos}(b:Gl X x)(c:X.mg x=none)(hv:bootBuiltins x=some u)(r:RelV v u)(d:x≠"__name__":=by decide)(e:db x:=by decide):PE X (.Name x a) (tC v):=
 λ_ _ _ H _ I h=>iC I b c hv ⟨v,H,I,r,h⟩ d e
variable{a b:Expr}{tb:TE}{pos:Pos}
def PC(X:Cx)(op:CmpOp)(a b:Expr)(t:TE):Prop:=
 ∀(B:'e')(s:Shared)(Z:St)(H:Hp)(Q:VK),Inv X B Z H s->t Z H Q->
  wpAny 'a' X.A (eval a X.env) (λv c=>wpAny 'a' X.A (eval b X.env) (λu d=>wpAny 'a' X.A (compareOp op v u) (EP X B Z Q) X.xe d) X.xe c) X.xe s
def tB(t:TE):TT:=λZ H Q=>t Z H λx H1=>∃c,x=.bl c/\Q c H1
theorem V5{t:TE}(h:PC X op a b t)(f:behindInMarks op b=false:=by first|exact agJ _ (by decide) (by decide)|rfl):PT X (.Compare a [op] [b] pos) (tB t):=by
 intro e s g H Q I i;refine wpAny_isTrue_Compare1 (ay (h e s g H _ I i) λv o f=>ay f λu p j=>ay j λc r ⟨x,k,l,m,n⟩=>?_) f;obtain⟨d,rfl,q⟩:=n;cases m;exact wpAny_truthy_bool ⟨k,l,q⟩
theorem V6{t:TE}(h:PE X e t)(c:∀a,isTrue e X.env a=(do let v <- a;standAt e.pos;holding [v] (truthy v)):=by intro _;rfl):PT X e (tB t):=by
 intro b s f H Q I g;refine isTrue_plain (ay (h b s f H _ I g) ?_) (c _);rintro v m ⟨x,i,j,k,l⟩;obtain⟨d,rfl,q⟩:=l;cases k;exact wpAny_truthy_bool ⟨i,j,q⟩
variable{tA AH:TT}{rest:List Expr}
def OV(t u:TT):TT:=λZ H Q=>t Z H λc H1=>if c=true then u Z H1 Q else Q false H1
def Kq(t u:TT):TT:=λZ H Q=>t Z H λc H1=>if c=true then Q true H1 else u Z H1 Q
def Kr(t:TT):TT:=λZ H Q=>t Z H λc H1=>Q (!c) H1
theorem V7(d:PT X a tA):PW X (.BoolOp .And [a] pos) tA:=by
 intro g b s f H Q I h;refine isTrue_and (ay (d b s f H Q I h) λc i e=>?_);cases c with
 |true=>exact isTrue_and_nil e
 |false=>exact e
theorem V8(d:PT X a tA):PW X (.BoolOp .Or [a] pos) tA:=by
 intro g b s f H Q I h;refine isTrue_or (ay (d b s f H Q I h) λc i e=>?_);cases c with
 |false=>exact isTrue_or_nil e
 |true=>exact e
theorem V9(j:PT X a tA)(k:PW X (.BoolOp .And (b::rest) pos) AH):PW X (.BoolOp .And (a::b::rest) pos) (OV tA AH):=by
 intro l d s e H Q I h;refine isTrue_and (ay (j d s e H _ I h) ?_);rintro c m ⟨f,g,i⟩;cases c with
 |true=>exact k l d m e f Q g i
 |false=>exact⟨f,g,i⟩
theorem V_(j:PT X a tA)(k:PW X (.BoolOp .Or (b::rest) pos) AH):PW X (.BoolOp .Or (a::b::rest) pos) (Kq tA AH):=by
 intro l d s e H Q I h;refine isTrue_or (ay (j d s e H _ I h) ?_);rintro c m ⟨f,g,i⟩;cases c with
 |true=>exact⟨f,g,i⟩
 |false=>exact k l d m e f Q g i
theorem Wa(d:PT X a tA):PT X (.UnaryOp .Not a pos) (Kr tA):=by
 intro b s e H Q I h;exact isTrue_not (d b s e H (λc f=>Q (!c) f) I h)
end
def ai(K:Q0)(H:Hp)(a:Addr)(xs:bY):Prop:=
 Rd H a (.lst xs)\/
  ∃(o:Obj)(b:Array Value)(n:Nat),K.lookup a=some o/\o.cls=.type "list"/\o.dict=none/\o.data=.seq b n/\b.size<=sizeLine/\bg xs b.toList
def ak(K:Q0)(H:Hp)(a:Addr)(xs:bY):Prop:=
 Rd H a (.tup xs)\/
  ∃(o:Obj)(b:Array Value)(n:Nat),K.lookup a=some o/\o.cls=.type "tuple"/\o.data=.seq b n/\b.size<=sizeLine/\bg xs b.toList
def Bb:Value->cp
 | .none=>some .ao
 | .bool b=>some (.bl b)
 | .int i _=>some (.int i)
 | .str x _=>some (.str x)
 | .bytes b _=>some (.uc b)
 | .float b _=>some (.CQ b)
 | .ref a=>some (.ref a)
 | .type n=>some (.ty n)
 |_=>none
theorem RelV.abs{x:V}(r:RelV x u):Bb u=some x:=by
 cases x with
 |ao=>cases r;rfl
 |bl _=>cases r;rfl
 |int _=>obtain⟨t,rfl⟩:=r;rfl
 |str _=>obtain⟨t,rfl⟩:=r;rfl
 |uc _=>obtain⟨t,rfl⟩:=r;rfl
 |CQ _=>obtain⟨t,rfl⟩:=r;rfl
 |ref _=>cases r;rfl
 |ty _=>cases r;rfl
theorem RelV.inj{x y:V}(r:RelV x u)(q:RelV y u):x=y:=QE (r.abs.symm.trans q.abs)
theorem bg.inj:∀{xs J:bY}{O:cq},bg xs O->bg J O->xs=J
 |_,_,_,.nil,.nil=>rfl
 |_,_,_,.cons r t,.cons r' t'=>by rw[r.inj r',bg.inj t t']
section
variable{xs J:bY}
theorem ai.of{K:Q0}(h:H a=some (.lst xs)):ai K H a xs:=.inl (.inl h)
theorem ak.of{K:Q0}(h:H a=some (.tup xs)):ak K H a xs:=.inl (.inl h)
theorem Inv.list(I:Inv X B Z H s)(h:ai X.K H a xs):∃b:cq,bg xs b/\PlainL s.heap a b.toArray/\xs.length<=sizeLine:=by
 rcases h with h|⟨o,b,n,c,d,f,g,i,r⟩
 ·obtain⟨z,b,n,r,e⟩:=h.ok I.hok;exact⟨b,r,⟨_,n,e,rfl,rfl,rfl⟩,z⟩
 ·refine⟨b.toList,r,⟨o,n,I.ji a o c,d,f,by simpa using g⟩,?_⟩;have e:=r.length;simp only[gT]at e
  lia
theorem Inv.tuple(I:Inv X B Z H s)(h:ak X.K H a xs):∃b:cq,bg xs b/\IsTup s.heap a b.toArray/\xs.length<=sizeLine:=by
 rcases h with h|⟨o,b,n,c,d,f,g,r⟩
 ·obtain⟨⟨z,_⟩,b,r,p⟩:=h.ok I.hok;exact⟨b,r,p,z⟩
 ·refine⟨b.toList,r,⟨o,I.ji a o c,d,n,by simpa using f⟩,?_⟩;have e:=r.length;simp only[gT]at e
  lia
theorem Inv.Ks(I:Inv X B Z H s)(h:ai X.K H a xs)(M:ai X.K H a J):xs=J:=by
 obtain⟨its,r,⟨o,n,e,_,_,d⟩,_⟩:=I.list h;obtain⟨its',r',⟨o',n',e',_,_,d'⟩,_⟩:=I.list M;rw[e]at e';cases e';rw[d]at d';injection d' with d1 _;have:its=its':=by simpa using congrArg Array.toList d1
 subst this;exact r.inj r'
theorem Inv.Wb(I:Inv X B Z H s)(h:ak X.K H a xs)(M:ak X.K H a J):xs=J:=by
 obtain⟨its,r,⟨o,e,_,n,d⟩,_⟩:=I.tuple h;obtain⟨its',r',⟨o',e',_,n',d'⟩,_⟩:=I.tuple M;rw[e]at e';cases e';rw[d]at d';injection d' with d1 _;have:its=its':=by simpa using congrArg Array.toList d1
 subst this;exact r.inj r'
end
abbrev Cx.AI(X:Cx)(E:Value->Shared->Prop):Cx:={X with xe:=E}
abbrev Cx.B3(X:Cx):Cx:=X.AI λ_ _=>False
theorem Cx.Ok.AI{X:Cx}(ok:X.Ok)(E:Value->Shared->Prop):(X.AI E).Ok:=
 ⟨ok.mod,ok.kind,ok.glob,ok.blt,ok.above,ok.inj,ok.has,ok.FI,ok.hd,ok.frames,ok.HD,ok.OM,ok.bs,ok.Ba,ok.FJ,ok.HE,ok.yr,ok.CU⟩
theorem Cx.Ok.B4(ok:(X.AI E).Ok):X.Ok:=
 ⟨ok.mod,ok.kind,ok.glob,ok.blt,ok.above,ok.inj,ok.has,ok.FI,ok.hd,ok.frames,ok.HD,ok.OM,ok.bs,ok.Ba,ok.FJ,ok.HE,ok.yr,ok.CU⟩
theorem Inv.AI(I:Inv X B Z H s)(E:Value->Shared->Prop):Inv (X.AI E) B Z H s:=⟨I.ok.AI E,I.os,I.bare,I.base,I.loc,I.cell,I.free,I.zk,I.pin,I.hok,I.len⟩
theorem Inv.B4(I:Inv (X.AI E) B Z H s):Inv X B Z H s:=⟨I.ok.B4,I.os,I.bare,I.base,I.loc,I.cell,I.free,I.zk,I.pin,I.hok,I.len⟩
theorem SP.B4{D:Ends}{f:Flow}{a:Shared}(h:SP (X.AI E) B D f a):SP X B D f a:=by
 cases f with
 |next=>obtain⟨σ',U,I,q⟩:=h;exact⟨σ',U,I.B4,q⟩
 |brk=>obtain⟨σ',U,I,q⟩:=h;exact⟨σ',U,I.B4,q⟩
 |cont=>obtain⟨σ',U,I,q⟩:=h;exact⟨σ',U,I.B4,q⟩
 |ret u=>obtain⟨v,σ',U,I,r,q⟩:=h;exact⟨v,σ',U,I.B4,r,q⟩
theorem vd.B3{st:List Stmt}{t:TS}(h:vd X.B3 st t):vd X st t:=λa s b H D I c=>
 wpAny_mono (h a s b H D (I.AI _) c) (λ_ _ q=>q.B4) λ_ _ z=>False.elim z
section
variable{st:Stmt}{rest:List Stmt}{t u:TS}{pos:Pos}
def Ku:TS:=λD Z H=>D.nx Z H
def CW(t u:TS):TS:=λD Z H=>t {D with nx:=u D} Z H
theorem Wc:vd X [] Ku:=λ_ _ a H _ I h=>wpAny_execs_nil ⟨a,H,I,h⟩
theorem We(b:PS X st t)(c:vd X rest u):vd X (st::rest) (CW t u):=by
 intro a s d H D I h;refine wpAny_execs_cons (ay (b a s d H {D with nx:=u D} I h) λf e q=>?_);cases f with
 |next=>
  obtain⟨σ',U,I',q⟩:=q;exact c a e σ' U D I' q
 |ret v=>exact q
 |brk=>exact q
 |cont=>exact q
theorem Wf(b:PS X st t):vd X [st] t:=by
 intro a s c H D I h;refine wpAny_execs_cons (ay (b a s c H D I h) λf d q=>?_);cases f with
 |next=>exact wpAny_execs_nil q
 |ret v=>exact q
 |brk=>exact q
 |cont=>exact q
theorem Inv.quiet(I:Inv X B Z H s):interactive X.env=false:=by simp[interactive,I.ok.kind]
def HL(a:TE):TS:=λD Z H=>a Z H λ_ H1=>D.nx Z H1
theorem Wg(c:PE X e te)(hs:swapsWith e none pos.line X.env=pure false:=by rfl):PS X (.Expr e pos) (HL te):=by
 intro a s b H D I h;exact wpAny_Expr_any (ay (c a s b H _ I h) λv i ⟨x,d,f,j,g⟩=>⟨b,d,f,g⟩) I.quiet hs
def CY(a:TE):TS:=λD Z H=>a Z H D.rt
theorem Wh(c:PE X e te):PS X (.Return (some e) pos) (CY te):=by
 intro a s b H D I h;exact wpAny_Return_some (ay (c a s b H _ I h) λv j ⟨x,d,f,g,i⟩=>⟨x,b,d,f,g,i⟩)
def OW:TS:=λD _ H=>D.rt .ao H
theorem Wi:PS X (.Return none pos) OW:=λ_ _ a H _ I h=>wpAny_Return_none ⟨.ao,a,H,I,rfl,h⟩
def Ef(c:TT)(t u:TS):TS:=λD Z H=>c Z H λb H1=>if b=true then t D Z H1 else u D Z H1
theorem Wj{c:Expr}{a b:List Stmt}{g:TT}(m:PT X c g)(n:vd X a t)(o:vd X b u):PS X (.If c a b pos) (Ef g t u):=by
 intro e s f H D I h;refine wpAny_If (ay (m e s f H _ I h) ?_);rintro d i ⟨j,k,l⟩;cases d with
 |true=>exact n e i f j D k l
 |false=>exact o e i f j D k l
end
abbrev TG:=V->St->Hp->(St->Hp->Prop)->Prop
abbrev zo:=bY->St->Hp->(St->Hp->Prop)->Prop
def PG(X:Cx)(a:Expr)(t:TG):Prop:=
 ∀(B:'e')(s:Shared)(Z:St)(H:Hp)(v:V)(u:Value)(Q:St->Hp->Prop),Inv X B Z H s->RelV v u->t v Z H Q->
  wpAny 'a' X.A (assign a X.env u) (λ_ s'=>∃b U,Inv X B b U s'/\Q b U) X.xe s
def Eg(X:Cx)(ts:List Expr)(t:zo):Prop:=
 ∀(B:'e')(s:Shared)(Z:St)(H:Hp)(vs:bY)(O:cq)(Q:St->Hp->Prop),Inv X B Z H s->bg vs O->t vs Z H Q->
  wpAny 'a' X.A (assignInOrder ((assignEach ts X.env).map (·.2)) O) (λ_ s'=>∃a U,Inv X B a U s'/\Q a U) X.xe s
abbrev HM:=V->V->V->Hp->(Hp->Prop)->Prop
def Kv(X:Cx)(t:HM):Prop:=
 ∀(B:'e')(s:Shared)(Z:St)(H:Hp)(o i v:V)(ov a u:Value)(Q:Hp->Prop),Inv X B Z H s->RelV o ov->RelV i a->RelV v u->t o i v H Q->
  wpAny 'a' X.A (setItem ov a u) (λ_ s'=>∃U,Inv X B Z U s'/\Q U) X.xe s
abbrev FP:=V->V->Hp->VK->Prop
def Kw(X:Cx)(op:Operator)(t:FP):Prop:=
 ∀(B:'e')(s:Shared)(Z:St)(H:Hp)(x y:V)(v u:Value)(Q:VK),Inv X B Z H s->RelV x v->RelV y u->t x y H Q->
  wpAny 'a' X.A (inplaceOp op v u) (EP X B Z Q) X.xe s
section
variable{pos:Pos}
def jj(i:Nat):TG:=λv Z H Q=>Q (Z.set i (some v)) H
theorem Wk(b:X.N.Nodup)(c:X.N[i]? =some x)(d:Loc X.env.scope x)(e:ib X x:=by first|exact .inl rfl|exact .inr rfl|assumption):PG X (.Name x pos) (jj i):=by
 intro a s g H v u Q I r h;exact wpAny_assign_Name (nI I b c d r (λj f=>⟨_,H,f,h⟩) e)
def Eh:zo:=λvs Z H Q=>vs=[]/\Q Z H
def zq(t:TG)(u:zo):zo:=λvs Z H Q=>∃v r,vs=v::r/\t v Z H λa U=>u r a U Q
theorem Wl:Eg X [] Eh:=by
 intro a s b H c d Q I r h;obtain⟨e,h⟩:=h;subst e;cases r;exact assignInOrder_nil ⟨b,H,I,h⟩
theorem Wm{t:TG}{u:zo}(c:PG X e t)(d:Eg X es u)
  (hs:(assignEach (e::es) X.env).map (·.2)=assign e X.env::(assignEach es X.env).map (·.2):=by rfl):Eg X (e::es) (zq t u):=by
 intro a s f H l m Q I r h;obtain⟨v,vr,e1,h⟩:=h;subst e1;cases r with
 |cons r rr=>
  rw[hs];refine assignInOrder_cons (ay (c a s f H _ _ _ I r h) ?_);rintro _ g ⟨b,i,j,k⟩;exact d a g b i _ _ Q j rr k
def B5(K:Q0)(n:Nat)(t:zo):TG:=λv Z H Q=>∃a xs,v=.ref a/\ak K H a xs/\xs.length=n/\t xs Z H Q
theorem Wn{k:Nat}{t:zo}(g:X.calm=true)(h:Eg X es t)
  (i:(assignEach es X.env).length=n:=by rfl) (j:(assignEach es X.env).findIdx? (·.1)=none:=by rfl):PG X (.Tuple es k pos) (B5 X.K n t):=by
 intro c s f H v u Q I r d;obtain⟨a,xs,e1,hq,hl,d⟩:=d;subst e1;cases r;obtain⟨its,rv,ht,hz⟩:=I.tuple hq;refine assign_Tuple_tuple (I.ok.hd g) ht (by simp[i,<- hl,rv.length]) j λl m=>?_;have p:Inv X c f H {s with heap:=l}:=I.kept (t':=s.toks) λb o e=>m b o (yU (QA e)) e;exact h c _ f H xs _ Q p (by simpa using rv) d
def OX(a b:TE)(t:HM):TG:=λv Z H Q=>a Z H λo H1=>b Z H1 λi H2=>t o i v H2 λc=>Q Z c
theorem Wo {o i:Expr} {d:TE} {t:HM} (e:PE X o to) (f:PE X i d) (hs:Kv X t)
  (g:∀ v,assign (.Subscript o i pos) X.env v=(do
   let ov <- holding [v] (eval o X.env)
   let b <- holding [v,ov] (eval i X.env)
   standAt pos
   holding [v,ov,b] (setItem ov b v)
   release [v,ov,b] []):=by intro _;rfl):PG X (.Subscript o i pos) (OX to d t):=by
 intro a s c H v u Q I r h
 rw [g]
 refine QT (wpAny_holding (ay (e a s c H _ I h) ?_))
 rintro ov j ⟨x,k,l,m,n⟩
 refine QT (wpAny_holding (ay (f a j c k _ l n) ?_))
 rintro b p ⟨y,q,w,z,A⟩
 refine QT (wpAny_standAt (QT (wpAny_holding (ay (hs a p c q x y v ov b u _ w m z r A) ?_))))
 rintro _ G ⟨C,D,E⟩
 exact wpAny_release ⟨c,C,D,E⟩
def zu(a:TE)(g:TG):TS:=λD Z H=>a Z H λx H1=>g x Z H1 D.nx
theorem Wp{g:TG}(c:PE X e te)(d:PG X tg g)(hs:swapsWithSole [tg] e pos.line X.env=pure false:=by rfl)(f:swappedStores [tg] e X.env=pure none:=by rfl)
  (i:(assignEach [tg] X.env).map (·.2)=[assign tg X.env]:=by rfl):PS X (.Assign [tg] e pos) (zu te g):=by
 intro a s b H D I h;refine wpAny_Assign_stores (ay (c a s b H _ I h) ?_) hs f;rintro v j ⟨x,k,l,m,n⟩;rw[i];exact ay (d a j b k x v _ l m n) λ_ o q=>q
theorem Wq(b:X.N.Nodup)(c:X.N[i]? =some x)(d:Loc X.env.scope x)(f:PE X e te)(hs:swapsWith e (some (.Name x pos')) pos.line X.env=pure false:=by rfl)(g:ib X x:=by first|exact .inl rfl|exact .inr rfl|assumption):
  PS X (.Assign [.Name x pos'] e pos) (zu te (jj i)):=by
 intro a s j H D I h;refine wpAny_Assign_Name (ay (f a s j H _ I h) ?_) hs;rintro v p ⟨y,k,l,m,n⟩;exact nI l b c d m (λq o=>⟨_,k,o,n⟩) g
def OY(i:Nat)(a:TE)(b:FP):TS:=λD Z H=>∃x,Z[i]? =some (some x)/\a Z H λy H1=>b x y H1 λz H2=>D.nx (Z.set i (some z)) H2
theorem Wr{op:Operator}{g:FP}(p:X.N.Nodup)(j:X.N[i]? =some x)(f:Loc X.env.scope x)(q:PE X e te)(t:Kw X op g)(C:ib X x:=by first|exact .inl rfl|exact .inr rfl|assumption):
  PS X (.AugAssign (.Name x pos') op e pos) (OY i te g):=by
 intro a s n H D I h;obtain⟨v,e1,h⟩:=h;obtain⟨m,hn,hl⟩:=I.loc;have E:Ed X.env.scope x:=by rcases f with k|k;exact .inl k;exact .inr (.inl k)
 obtain⟨u,r,l⟩:=hl i x v j e1 E;refine wpAny_AugAssign_Name ?_;have o:wpAny 'a' X.A (eval e X.env) (λw b=>wpAny 'a' X.A (inplaceOp op u w) (λr d=>wpAny 'a' X.A (storeName X.env x r) (λ_=>SP X a D .next) X.xe d) X.xe b) X.xe s:=by
  refine ay (q a s n H _ I h) ?_;rintro w G ⟨y,K,L,P,Q⟩;refine ay (t a G n K v y u w _ L r P Q) ?_;rintro z s2 ⟨zv,R,T,V,q2⟩;exact nI T p j f V (λs3 I3=>⟨_,R,I3,q2⟩) C
 rcases l with⟨hk,hm⟩|⟨hk,c,hc,HK⟩
 ·exact wpAny_loadName_local I.ok.kind hk hn hm o
 ·rcases hk with hk|hk
  ·exact wpAny_loadName_cell I.ok.kind hk hc HK o
  ·rcases f with k|k
   ·have:X.env.scope.names.lookup x=some .free:=hk;rw[k]at this;cases this
   ·have:X.env.scope.names.lookup x=some .free:=hk;rw[k]at this;cases this
def Wt(f:Int->Int->Int):FP:=λx y H Q=>∃i j,x=.int i/\y=.int j/\Q (.int (f i j)) H
theorem Wu:Kw X .Add (Wt λi j=>i+j):=by
 intro a s d H x y v u Q I b c h;obtain⟨i,j,e1,e2,q⟩:=h;subst e1;subst e2;obtain⟨t,rfl⟩:=b;obtain⟨t',rfl⟩:=c;exact iadd_int ⟨.int _,H,I.tok _,⟨_,rfl⟩,q⟩
def OZ(c:TT)(e:TS):TS:=λD Z H=>∃W:Nat->St->Hp->Prop,(∃m,W m Z H)/\∀m Z H,W m Z H->
 c Z H λb H1=>if b=true then ∃N:St->Hp->Prop,(∀a U,N a U->∃d,d<m/\W d a U)/\e {D with nx:=N,ct:=N,bk:=D.nx} Z H1 else D.nx Z H1
theorem Wv{c:Expr}{j:TT}{k:TS}(l:PassesOwn 'a' X.A X.env X.xe)(r:PT X c j)(t:vd X body k):PS X (.While c body [] pos) (OZ j k):=by
 intro a s u H D I h;obtain⟨W,⟨m0,w0⟩,turn⟩:=h;refine wpAny_While (codeAny_whileLoop (λn x=>∃e m,Inv X a e m x/\W n e m) ?_ m0 ⟨u,H,I,w0⟩);rintro n y ⟨d,o,z,C⟩;refine wpAny_passesOwn l (ay (r a y d o _ z (turn n d o C)) ?_);rintro b E ⟨p,q,g⟩;cases b with
 |true=>
  obtain⟨N,hN,g⟩:=g;rw[if_pos rfl];refine wpAny_passesOwn l (ay (t a E d p _ q g) λf G i=>?_);cases f with
  |next=>
   obtain⟨σ3,H3,I3,n3⟩:=i;obtain⟨m',hm,w3⟩:=hN σ3 H3 n3;exact⟨m',hm,σ3,H3,I3,w3⟩
  |cont=>
   obtain⟨σ3,H3,I3,n3⟩:=i;obtain⟨m',hm,w3⟩:=hN σ3 H3 n3;exact⟨m',hm,σ3,H3,I3,w3⟩
  |brk=>exact i
  |ret v=>exact i
 |false=>
  rw[if_neg vU];exact wpAny_execs_nil ⟨d,p,q,g⟩
end
structure It where
 go:Nat->Hp->Prop
 qx:Nat->Hp->V->Hp->Prop
 stop:Nat->Hp->Prop
def wg(X:Cx)(B:'e')(H:Hp)(b:Addr):Prop:=
 H b=none/\b≠X.env.locals/\b∉X.fs/\(b∈X.ex\/X.s₀.heap.objs.size<=b)/\(∀x c,'g'->c≠b)/\∀p∈X.pn++B,p.1≠b
theorem Inv.wj(I:Inv X B Z H s)(a:s.heap.objs.size<=b)(d:U b=none):wg X B U b:=by
 refine⟨d,dq (jB I.lt a),I.VT a,.inr (jU I.sz a),λx c e z=>?_,λp f z=>?_⟩
 ·obtain⟨v,q⟩:=I.cell x c e;exact absurd (jB q.lt (by rw[z];exact a)) (ft _)
 ·exact absurd (jB (QA (I.pin p f).1) (by rw[z];exact a)) (ft _)
structure dk(P:Program)(w:World)(K:Q0)(tg:Expr)(J:It)(fp:cx)(it:Addr)(tn:Nat->Heap->Prop):Prop where
 mem:it∈fp
 obj:∀i h,tn i h->∀b∈fp,∃o,h.get? b=some o/\∀v,o.data≠.cell v
 keep:∀i h M,tn i h->(∀b∈fp,∀o,h.get? b=some o->M.get? b=some o)->tn i M
 item:∀(X:Cx),X.prog=P->X.w=w->X.K=K->X.calm=true->∀(i:Nat)(B:'e')(s:Shared)(Z:St)(H:Hp)(E:Value->Shared->Prop),Inv X B Z H s->(∀b∈fp,wg X B H b)->tn i s.heap->J.go i H->
  wpAny (model P w) X.A (pyNext (.ref it)) (λr s1=>∃u,r=some u/\
   wpAny (model P w) X.A (letOwnedTupleGo tg (.ref it) u) (λ_ s2=>∃x U,Inv X B Z U s2/\RelV x u/\J.qx i H x U/\tn (i+1) s2.heap/\∀b∈fp,U b=none) E s1) E s
 done:∀(X:Cx),X.prog=P->X.w=w->X.K=K->X.calm=true->∀(i:Nat)(B:'e')(s:Shared)(Z:St)(H:Hp)(E:Value->Shared->Prop),Inv X B Z H s->(∀b∈fp,wg X B H b)->tn i s.heap->J.stop i H->
  wpAny (model P w) X.A (pyNext (.ref it)) (λr s1=>r=none/\Inv X B Z H s1) E s
 self:∀(A:Around)(i:Nat)(s:Shared)(Q:Value->Shared->Prop)(E:Value->Shared->Prop),tn i s.heap->Q (.ref it) s->wpAny (model P w) A (pyIter (.ref it)) Q E s
abbrev TI:=St->Hp->(It->Hp->Prop)->Prop
def Ei(X:Cx)(B:'e')(Z:St)(d:Expr)(R:It->Hp->Prop)(e:Value)(a:Shared):Prop:=
 ∃(it:Addr)(fp:cx)(c:Nat->Heap->Prop)(J:It)(U:Hp),e=.ref it/\Inv X B Z U a/\dk X.prog X.w X.K d J fp it c/\c 0 a.heap/\(∀b∈fp,wg X B U b)/\R J U
def PI(X:Cx)(b a:Expr)(c:TI):Prop:=
 ∀(B:'e')(s:Shared)(Z:St)(H:Hp)(R:It->Hp->Prop),Inv X B Z H s->c Z H R->
  wpAny 'a' X.A (eval a X.env) (λv d=>wpAny 'a' X.A (pyIter v) (Ei X B Z b R) X.xe d) X.xe s
theorem lU {M : Model} {A : Around} {E : Value -> Shared -> Prop} {s : Shared} {b : Expr} {c : Addr} {u : Value} {o : Obj} {n : String} {vs : Array Value} {Q : Unit -> Shared -> Prop} (d : s.heap.get? c = some o) (e : o.cls = .type n) (f : o.data = .fields vs)
    (g : ["enumerate", "zip", "dict_itemiterator", "dict_reverseitemiterator", "odict_iterator", "itertools.zip_longest", "itertools.pairwise"].contains n = false) (a : Q () s) : wpAny M A (letOwnedTupleGo b (.ref c) u) Q E s := by
  unfold letOwnedTupleGo
  cases b <;> first
    | exact QU a
    | (cases u <;> first
        | exact QU a
        | (refine QT (wpAny_load d ?_)
           rw [e, f]
           show wpAny M A (if (["enumerate", "zip", "dict_itemiterator", "dict_reverseitemiterator", "odict_iterator", "itertools.zip_longest", "itertools.pairwise"].contains n && vs[0]? == some (rawInt _)) = true then _ else _) Q E s
           rw [if_neg (by intro h; rw [g, Bool.false_and] at h; cases h)]
           exact QU a))
def Ej(K:Q0)(a:Addr):It:=
 ⟨λi H=>∃xs x,ai K H a xs/\xs[i]? =some x,λi H x U=>U=H/\∀xs,ai K H a xs->xs[i]? =some x,λi H=>∃xs,ai K H a xs/\xs.length<=i⟩
def Kx(K:Q0)(a:Addr):It:=
 ⟨λi H=>∃xs x,ak K H a xs/\xs[i]? =some x,λi H x U=>U=H/\∀xs,ak K H a xs->xs[i]? =some x,λi H=>∃xs,ak K H a xs/\xs.length<=i⟩
def HN(lo:Int)(n:Nat):It:=⟨λi _=>i<n,λi H x U=>U=H/\x=.int (lo+i),λi _=>n<=i⟩
theorem yB{K:Q0}(a g:Addr):dk P w K tg (Ej K a) [g] g (λi h=>h.IsListIter g a i)where
 mem:=by simp
 obj:=λi h st b j=>by
  have e:b=g:=by simpa using j
  subst e;obtain⟨o,e,c,d⟩:=st;exact⟨o,e,λv z=>by rw[d]at z;cases z⟩
 keep:=λi h m st k=>st.at λo e=>k g (by simp) o e
 item:=by
  intro X q r t A i f s C H E I n st y;subst q r t;obtain⟨xs,x,hq,hx⟩:=y;obtain⟨its,rv,p,hz⟩:=I.list hq;obtain⟨u,hu,ru⟩:=rv.get hx;obtain⟨f0,f1,f2,f3,f4,f5⟩:=n g (by simp);refine wpAny_pyNext_list_item st p.isList (x:=u) (by simpa using hu) λm l D=>?_;have G:Inv X f C H {s with heap:=m}:=I.turned (t':=s.toks) (λb o j e=>(D.2 b j).trans e) f0 f1 f3 f4 f5;obtain⟨o,e,c,d⟩:=id l;exact⟨u,rfl,lU (s:={s with heap:=m}) e c d (by decide) ⟨x,H,G,ru,⟨rfl,λQ L=>by rw[I.Ks L hq];exact hx⟩,l,λb j=>(n b j).1⟩⟩
 done:=by
  intro X q r t A i f s C H E I n st y;subst q r t;obtain⟨xs,hq,hx⟩:=y;obtain⟨its,rv,p,hz⟩:=I.list hq;obtain⟨f0,f1,f2,f3,f4,f5⟩:=n g (by simp);have R:=rv.length;exact wpAny_pyNext_list_end (I.ok.hd A) st p.isList (by simp;lia) λm N=>⟨rfl,I.turned (t':=s.toks) (λb o j e=>N b o j e) f0 f1 f3 f4 f5⟩
 self:=λ_ _ _ _ _ st h=>wpAny_pyIter_listiter st h
theorem vL{K:Q0}(a g:Addr):dk P w K tg (Kx K a) [g] g (λi h=>h.IsTupleIter g a i)where
 mem:=by simp
 obj:=λi h st b j=>by
  have e:b=g:=by simpa using j
  subst e;obtain⟨o,e,c,d⟩:=st;exact⟨o,e,λv z=>by rw[d]at z;cases z⟩
 keep:=λi h m st k=>st.at λo e=>k g (by simp) o e
 item:=by
  intro X q r t A i f s C H E I n st y;subst q r t;obtain⟨xs,x,hq,hx⟩:=y;obtain⟨its,rv,p,hz⟩:=I.tuple hq;obtain⟨u,hu,ru⟩:=rv.get hx;obtain⟨f0,f1,f2,f3,f4,f5⟩:=n g (by simp);refine wpAny_pyNext_tuple_item st (show s.heap.IsTuple a its.toArray from p) (x:=u) (by simpa using hu) λm l D=>?_;have G:Inv X f C H {s with heap:=m}:=I.turned (t':=s.toks) (λb o j e=>(D.2 b j).trans e) f0 f1 f3 f4 f5;obtain⟨o,e,c,d⟩:=id l;exact⟨u,rfl,lU (s:={s with heap:=m}) e c d (by decide) ⟨x,H,G,ru,⟨rfl,λQ L=>by rw[I.Wb L hq];exact hx⟩,l,λb j=>(n b j).1⟩⟩
 done:=by
  intro X q r t A i f s C H E I n st y;subst q r t;obtain⟨xs,hq,hx⟩:=y;obtain⟨its,rv,p,hz⟩:=I.tuple hq;obtain⟨f0,f1,f2,f3,f4,f5⟩:=n g (by simp);have R:=rv.length;exact wpAny_pyNext_tuple_end (I.ok.hd A) st (show s.heap.IsTuple a its.toArray from p) (by simp;lia) λm N=>⟨rfl,I.turned (t':=s.toks) (λb o j e=>N b o j e) f0 f1 f3 f4 f5⟩
 self:=λ_ _ _ _ _ st h=>wpAny_pyIter_tupleiter st h
theorem wA{K:Q0}(a:Addr)(lo:Int)(n:Nat):dk P w K tg (HN lo n) [a] a (λi h=>IsRangeIter h a (lo+(i:Nat)*1) ((n:Int)-(i:Nat)) 1)where
 mem:=by simp
 obj:=λi h st b d=>by
  have e:b=a:=by simpa using d
  subst e;exact⟨_,st,λv z=>by
   have y:Data.fields _=Data.cell v:=z;cases y⟩
 keep:=λi h g st k=>k a (by simp) _ st
 item:=by
  intro X l m p q i c s u H E I j st r;subst l m p;obtain⟨f0,f1,f2,f3,f4,f5⟩:=j a (by simp);have W:=Walks.range (prog:=X.prog) (w:=X.w) (I.ok.hd q) a lo 1 n;refine W.item i s _ _ r st λv g x hv f A=>?_;obtain⟨t,rfl⟩:=hv;have C:Inv X c u H {s with heap:=g,toks:=x}:=I.turned (λb o d e=>A b o (by simpa using d) e) f0 f1 f3 f4 f5;refine⟨_,rfl,lU (s:={s with heap:=g,toks:=x}) (n:="range_iterator") f rfl rfl (by decide) ⟨.int (lo+i),H,C,⟨t,?_⟩,⟨rfl,rfl⟩,f,λb d=>(j b d).1⟩⟩;rw[Int.mul_one]
 done:=by
  intro X l m p q i c s u H E I j st r;subst l m p;obtain⟨f0,f1,f2,f3,f4,f5⟩:=j a (by simp);exact wpAny_pyNext_range_end (I.ok.hd q) st (by have:n<=i:=r;lia) λg D=>⟨rfl,I.turned (t':=s.toks) (λb o d e=>D b o d e) f0 f1 f3 f4 f5⟩
 self:=λ_ _ _ _ _ st h=>wpAny_pyIter_rangeiter st h
theorem Ww{R:It->Hp->Prop}{lo a:Int}{t u v:Tok}{c:Nat}(I:Inv X B Z H s)(f: -(2^62)<=lo)(g:lo<2^62)(h: -(2^62)<=a)(i:a<2^62)
  (q:R (HN lo (a-lo).toNat) H):wpAny 'a' X.A (pyIter (.ref s.heap.objs.size)) (Ei X B Z tg R) E {s with heap:=s.heap.push {cls:=.type "range",data:=.fields #[.int lo t,.int a u,.int 1 v]},toks:=c}:=by
 refine wpAny_pyIter_range (IsRange.new ..) (small_one f g h i) ?_;have d:Inv X B Z H {s with heap:=s.heap.push {cls:=.type "range",data:=.fields #[.int lo t,.int a u,.int 1 v]},toks:=c}:=I.kept λb o e=>Qc _ e;refine⟨(s.heap.push {cls:=.type "range",data:=.fields #[.int lo t,.int a u,.int 1 v]}).objs.size,[(s.heap.push {cls:=.type "range",data:=.fields #[.int lo t,.int a u,.int 1 v]}).objs.size],_,_,H,rfl,
  d.kept (t':=c) λb o e=>Qc _ e,wA _ lo (a-lo).toNat,?_,λb j=>?_,q⟩
 ·have k:lo+((0:Nat):Int)*1=lo:=by simp
  have l:(((a-lo).toNat:Nat):Int)-((0:Nat):Int)=Builtin.Range.rangeSize lo a 1:=by rw[rangeSize_one];split<;>lia
  show IsRangeIter _ _ (lo+((0:Nat):Int)*1) ((((a-lo).toNat:Nat):Int)-((0:Nat):Int)) 1;rw[k,l];exact Qd _ rfl
 ·have e:b=(s.heap.push {cls:=.type "range",data:=.fields #[.int lo t,.int a u,.int 1 v]}).objs.size:=by simpa using j
  subst e;exact d.wj (Qz _) (d.hok.fresh (Qz _))
def O0(a:TA):TI:=λZ H R=>a Z H λvs H1=>∃j:Int,vs=[.int j]/\ -(2^62)<=j/\j<2^62/\R (HN 0 j.toNat) H1
theorem zR{a:Expr}{f:TA}{p b:Pos}(g:Gl X "range")(i:X.mg "range"=none)(k:PA X [a] f)(hs:starEach [a] X.env=[(false,eval a X.env)]:=by rfl):PI X tg (.Call (.Name "range" p) [a] [] b) (O0 f):=by
 intro c s l H R I h;refine Call_ (iC I g i boot_range (oj (ay (k b c s l H _ I h) ?_) hs rfl));rintro o u ⟨w,x,m,n,d⟩;obtain⟨j,e,d,q2,q⟩:=d;subst e;cases n with
 |cons r rr=>
  cases rr;obtain⟨t,rfl⟩:=r;exact call_range_1 (Ww m (by lia) (by lia) d q2 (by simpa using q))
def O1(d:TI)(g:TG)(e:TS):TS:=λD Z H=>d Z H λJ H1=>∃W:Nat->Nat->St->Hp->Prop,(∃m,W 0 m Z H1)/\∀i m Z H,W i m Z H->
 (J.stop i H/\D.nx Z H)\/(J.go i H/\∃N:St->Hp->Prop,(∀a U,N a U->∃c,c<m/\W (i+1) c a U)/\∀x U,J.qx i H x U->g x Z U λb H2=>e {D with nx:=N,ct:=N,bk:=D.nx} b H2)
def FQ(a:cx)(h:Heap):'e':=a.filterMap λb=>(h.get? b).map λo=>(b,o)
theorem gR(a:b∈fp)(e:h.get? b=some o):(b,o)∈FQ fp h:=List.mem_filterMap.mpr ⟨b,a,by rw[e];rfl⟩
theorem zT{p:Addr×Obj}(a:p∈FQ fp h):p.1∈fp/\h.get? p.1=some p.2:=by
 obtain⟨b,hb,e⟩:=List.mem_filterMap.mp a;cases q:h.get? b with
 |none=>rw[q]at e;cases e
 |some o=>
  rw[q]at e;have c:(b,o)=p:=QE e;subst c;exact⟨hb,q⟩
theorem Inv.pinned(I:Inv X B Z H s)(a:∀b∈fp,wg X B H b)(c:∀b∈fp,∃o,'l'/\∀v,o.data≠.cell v):Inv X (B++FQ fp s.heap) Z H s:=
 I.OQ λp f=>(zH.mp f).elim (λz=>I.pin p (ix _ z)) λz=>by
  obtain⟨hb,e⟩:=zT z;obtain⟨f0,f1,f2,_⟩:=a p.1 hb;obtain⟨o,e',d⟩:=c p.1 hb;rw[e]at e';cases e';exact⟨e,f0,f1,f2,d⟩
theorem Inv.HP{pl:'e'}(I:Inv X (B++pl) Z H s):Inv X B Z H s:=I.OQ λp a=>I.pin p (ix _ (List.mem_append_left _ a))
theorem Wx{j:Expr}{wi:TI}{g:TG}{tb:TS}{P:Pos}(E:PassesOwn 'a' X.A X.env X.xe)(hc:X.calm=true)(hi:PI X tg j wi)(hg:PG X tg g)(k:vd X body tb)
  (hs:∀x,foldedSetIterable j X.env x=pure x:=by intro _;rfl):PS X (.For tg j body [] P) (O1 wi g tb):=by
 intro a s Z H D I h;refine wpAny_For (ay (hi a s Z H _ I h) λv s1 Y=>ay Y λud s2 h2=>?_) hs;obtain⟨it,fp,tn,J,H2,e,I2,T,jx,f2,W,⟨m0,w0⟩,turn⟩:=h2;subst e
 -- Wy stays true of HQ agK objects through HQ loop
 have Q:∀{z:Hp},(∀b∈fp,z b=none)->∀b∈fp,wg X a z b:=λhn b k=>⟨hn b k,(f2 b k).2⟩
 refine codeAny_forLoop_any (λn s'=>∃i l z,Inv X a l z s'/\tn i s'.heap/\(∀b∈fp,z b=none)/\W i n l z) ?_ m0 ⟨0,Z,H2,I2,jx,λb k=>(f2 b k).1,w0⟩;rintro n s3 ⟨i,p,L,I3,FS,zw,w3⟩;rcases turn i n p L w3 with⟨stop,qn⟩|⟨go,N,hN,G⟩
 ·refine wpAny_passesOwn E (ay (T.done X rfl rfl rfl hc i a s3 p L X.xe I3 (Q zw) FS stop) ?_);rintro r s4 ⟨R,I4⟩;subst R;exact wpAny_execs_nil ⟨p,L,I4,qn⟩
 ·refine wpAny_passesOwn E (ay (T.item X rfl rfl rfl hc i a s3 p L X.xe I3 (Q zw) FS go) ?_);rintro r s4 ⟨u,R,h4⟩;subst R;refine wpAny_passesOwn E (ay h4 ?_);rintro _ s5 ⟨x,H5,I5,r5,y5,V,Ky⟩;have Kz:=I5.pinned (Q Ky) (T.obj _ _ V);refine wpAny_passesOwn E (ay (hg _ s5 p H5 x u _ Kz r5 (G x H5 y5)) ?_);rintro _ s6 ⟨ab,H6,I6,q6⟩;refine wpAny_passesOwn E (ay (k _ s6 ab H6 _ I6 q6) λf s7 C=>?_);have q:∀{c:St}{t:Hp},Inv X (a++FQ fp s5.heap) c t s7->N c t->∃m,m<n/\∃i l z,Inv X a l z s7/\tn i s7.heap/\(∀b∈fp,z b=none)/\W i m l z:=fun{c t}y K=>by
   obtain⟨m',hm,w7⟩:=hN c t K;refine⟨m',hm,i+1,c,t,y.HP,T.keep _ _ _ V λb k o e=>(y.pin (b,o) (ix _ (ix _ (gR k e)))).1,λb k=>?_,w7⟩;obtain⟨o,e,d⟩:=T.obj _ _ V b k;exact(y.pin (b,o) (ix _ (ix _ (gR k e)))).2.1
  cases f with
  |next=>obtain⟨c,t,y,K⟩:=C;exact q y K
  |cont=>obtain⟨c,t,y,K⟩:=C;exact q y K
  |brk=>obtain⟨c,t,y,C⟩:=C;exact⟨c,t,y.HP,C⟩
  |ret v=>obtain⟨x7,c,t,y,r7,C⟩:=C;exact⟨x7,c,t,y.HP,r7,C⟩
abbrev R2:=V->V->Hp->VK->Prop
def di(X:Cx)(f:Value->Value->Sem Value)(r:R2):Prop:=
 ∀(B:'e')(s:Shared)(Z:St)(H:Hp)(x y:V)(v u:Value)(Q:VK),Inv X B Z H s->RelV x v->RelV y u->r x y H Q->
  wpAny 'a' X.A (f v u) (EP X B Z Q) X.xe s
def n_(X:Cx)(f:Value)(r:bY->Hp->VK->Prop):Prop:=
 ∀(B:'e')(s:Shared)(Z:St)(H:Hp)(xs:bY)(O:cq)(Q:VK),Inv X B Z H s->bg xs O->r xs H Q->
  wpAny 'a' X.A (call f O) (EP X B Z Q) X.xe s
def Wz(X:Cx)(r:V->Hp->(Bool->Hp->Prop)->Prop):Prop:=
 ∀(B:'e')(s:Shared)(Z:St)(H:Hp)(x:V)(v:Value)(Q:Bool->Hp->Prop),Inv X B Z H s->RelV x v->r x H Q->
  wpAny 'a' X.A (truthy v) (TP X B Z Q) X.xe s
def jy(r:R2)(a b:TE):TE:=λZ H Q=>a Z H λx H1=>b Z H1 λy H2=>r x y H2 Q
def rI(C:Int->Int->Prop)(g:Int->Int->V):R2:=λx y H Q=>∃i j,x=.int i/\y=.int j/\C i j/\Q (g i j) H
def C1(g:Int->Int->V):R2:=λx y H Q=>∃i j,x=.int i/\y=.int j/\Q (g i j) H
section
variable{a b c:Expr}{tb tc:TE}{pos:Pos}
theorem KA(e:PE X a ta)(g:PE X b tb){R:V->V->Hp->Prop}(I:Inv X B Z H s)
  (h:ta Z H λx H1=>tb Z H1 λy H2=>R x y H2) {Q:Value->Shared->Prop} {f:Value->Value->Sem Value}
  (i:∀v u s2 x y H2,Inv X B Z H2 s2->RelV x v->RelV y u->R x y H2->wpAny 'a' X.A (f v u) Q X.xe s2):
  wpAny 'a' X.A (eval a X.env) (λv c=>wpAny 'a' X.A (eval b X.env) (λu d=>wpAny 'a' X.A (f v u) Q X.xe d) X.xe c) X.xe s:=by
 refine ay (e B s Z H _ I h) ?_;rintro v j ⟨x,H1,k,l,m⟩;refine ay (g B j Z H1 _ k m) ?_;rintro u s2 ⟨y,H2,n,o,p⟩;exact i v u s2 x y H2 n l o p
theorem WA{op:Operator}{r:R2}(d:di X (binaryOp op) r)(e:PE X a ta)(f:PE X b tb):PE X (.BinOp a op b pos) (jy r ta tb):=by
 intro c s g H Q I h;exact wpAny_BinOp (KA e f I h λv u i x y j k l m q=>d c i g j x y v u Q k l m q)
theorem HR{f:Value->Value->Sem Value}{C:Int->Int->Prop}{g:Int->Int->Int}
  (rule:∀(i j:Int)(t u:Tok)(s:Shared)(Q:Value->Shared->Prop)(E:Value->Shared->Prop),C i j->Q (.int (g i j) s.toks) {s with toks:=s.toks+1}->wpAny 'a' X.A (f (.int i t) (.int j u)) Q E s):
  di X f (rI C λi j=>.int (g i j)):=by
 intro a s d H x y v u Q I b c h;obtain⟨i,j,rfl,rfl,hc,q⟩:=h;obtain⟨t,rfl⟩:=b;obtain⟨t',rfl⟩:=c;exact rule i j t t' s _ _ hc ⟨.int (g i j),H,I.tok _,⟨_,rfl⟩,q⟩
theorem WB{f:Value->Value->Sem Value}{g:Int->Int->Int}
  (rule:∀(i j:Int)(t u:Tok)(s:Shared)(Q:Value->Shared->Prop)(E:Value->Shared->Prop),Q (.int (g i j) s.toks) {s with toks:=s.toks+1}->wpAny 'a' X.A (f (.int i t) (.int j u)) Q E s):
  di X f (C1 λi j=>.int (g i j)):=by
 intro a s d H x y v u Q I b c h;obtain⟨i,j,rfl,rfl,q⟩:=h;obtain⟨t,rfl⟩:=b;obtain⟨t',rfl⟩:=c;exact rule i j t t' s _ _ ⟨.int (g i j),H,I.tok _,⟨_,rfl⟩,q⟩
theorem HS{f:Value->Value->Sem Value}{g:Int->Int->Bool}
  (rule:∀(i j:Int)(t u:Tok)(s:Shared)(Q:Value->Shared->Prop)(E:Value->Shared->Prop),Q (.bool (g i j)) s->wpAny 'a' X.A (f (.int i t) (.int j u)) Q E s):
  di X f (C1 λi j=>.bl (g i j)):=by
 intro a s d H x y v u Q I b c h;obtain⟨i,j,rfl,rfl,q⟩:=h;obtain⟨t,rfl⟩:=b;obtain⟨t',rfl⟩:=c;exact rule i j t t' s _ _ ⟨.bl (g i j),H,I,rfl,q⟩
def WC(i j:Int):Prop:=0<j/\j<1073741824
def O2(i j:Int):Prop:=0<=j/\j<=1000000/\i.natAbs<2^64
def HU(i j:Int):Prop:=(-(2^64)<i/\i<2^64)\/(-(2^64)<j/\j<2^64)
theorem HU.ok{i j:Int}(h:HU i j):IntMulOk i j:=by
 rcases h with⟨a,b⟩|⟨a,b⟩
 ·exact .of_left (intBits_le_64 a b)
 ·exact .of_right (intBits_le_64 a b)
theorem WD:di X (binaryOp .Add) (C1 λi j=>.int (i+j)):=WB λ_ _ _ _ _ _ _ q=>add_int q
theorem WE:di X (binaryOp .Mult) (rI HU λi j=>.int (i*j)):=HR λ_ _ _ _ _ _ _ a q=>mul_int q a.ok
theorem WG:di X (binaryOp .FloorDiv) (rI WC λi j=>.int (i / j)):=HR λi j _ _ _ _ _ a q=>by
 have b:(0:Int)<j:=a.1;have c:j<1073741824:=a.2;exact floordiv_int (by lia) (by rw[Int.fdiv_eq_ediv_of_nonneg i (by lia)];exact q) (.inl (PyProof.noPylong_small (by lia)))
theorem WH:di X (binaryOp .Mod) (rI (λ_ j=>0<j) λi j=>.int (i % j)):=HR λi j _ _ _ _ _ a q=>by
 have b:(0:Int)<j:=a;exact mod_int' (by lia) (by rw[Int.fmod_eq_emod_of_nonneg i (by lia)];exact q)
theorem WI:di X (binaryOp .Pow) (rI O2 λi j=>.int (i^j.toNat)):=HR λ_ _ _ _ _ _ _ a q=>pow_int_small a.1 a.2.1 a.2.2 q
end
def FT:V->V->Bool
 | .ao,.ao=>true| .ao,.int _=>true| .int _,.ao=>true| .ao,.bl _=>true| .bl _,.ao=>true| .ao,.str _=>true| .str _,.ao=>true
 | .int _,.int _=>true| .bl _,.bl _=>true| .str _,.str _=>true| .uc _,.uc _=>true
 | .int _,.str _=>true| .str _,.int _=>true| .bl _,.str _=>true| .str _,.bl _=>true
 |_,_=>false
def WJ:R2:=λx y H Q=>FT x y=true/\Q (.bl (decide (x=y))) H
def WK:R2:=λx y H Q=>FT x y=true/\Q (.bl (!decide (x=y))) H
theorem xS{i j:Int}:decide (V.int i=V.int j)=(i==j):=by
 rw[jc];simp
theorem O3{i j:Bool}:decide (V.bl i=V.bl j)=(i==j):=by
 rw[jc];simp
theorem xL{i j:Str}:decide (V.str i=V.str j)=(i==j):=by
 rw[jc];simp
theorem xZ{i j:Array UInt8}:decide (V.uc i=V.uc j)=(i.toList==j.toList):=by
 rw[jc];cases i;cases j;simp
section
variable{a b c:Expr}{tb tc:TE}{pos:Pos}
theorem aX{Q:VK}{k a:Bool}(I:Inv X B Z H s)(q:Q (.bl k) H)(e:k=a):EP X B Z Q (.bool a) s:=by
 subst e;exact⟨.bl k,H,I,rfl,q⟩
theorem WL:di X (compareOp .Eq) WJ:=by
 intro c s d H x y v u Q I b a h;obtain⟨hs,q⟩:=h;cases x with
 |ao=>
  cases b;cases y with
  |ao=>cases a;exact PySem.EqNone.eq_none_none (aX I q (by simp))
  |bl j=>cases a;exact PySem.EqNone.eq_none_bool (aX I q (by simp))
  |int j=>obtain⟨t',rfl⟩:=a;exact PySem.EqNone.eq_none_int (aX I q (by simp))
  |str j=>obtain⟨t',rfl⟩:=a;exact PySem.EqNone.eq_none_str (aX I q (by simp))
  |_=>exact absurd (show false=true from hs) vU
 |bl i=>
  cases b;cases y with
  |ao=>cases a;exact PySem.EqNone.eq_bool_none (aX I q (by simp))
  |bl j=>cases a;exact eq_bool (aX I q O3)
  |str j=>obtain⟨t',rfl⟩:=a;exact PySem.EqMixed.eq_bool_str (aX I q (by simp))
  |_=>exact absurd (show false=true from hs) vU
 |int i=>
  obtain⟨t,rfl⟩:=b;cases y with
  |ao=>cases a;exact PySem.EqNone.eq_int_none (aX I q (by simp))
  |int j=>obtain⟨t',rfl⟩:=a;exact eq_int (aX I q xS)
  |str j=>obtain⟨t',rfl⟩:=a;exact PySem.EqMixed.eq_int_str (aX I q (by simp))
  |_=>exact absurd (show false=true from hs) vU
 |str i=>
  obtain⟨t,rfl⟩:=b;cases y with
  |ao=>cases a;exact PySem.EqNone.eq_str_none (aX I q (by simp))
  |bl j=>cases a;exact PySem.EqMixed.eq_str_bool (aX I q (by simp))
  |int j=>obtain⟨t',rfl⟩:=a;exact PySem.EqMixed.eq_str_int (aX I q (by simp))
  |str j=>obtain⟨t',rfl⟩:=a;exact eq_str (aX I q xL)
  |_=>exact absurd (show false=true from hs) vU
 |uc i=>
  obtain⟨t,rfl⟩:=b;cases y with
  |uc j=>obtain⟨t',rfl⟩:=a;exact PySem.W.eq_bytes (aX I q xZ)
  |_=>exact absurd (show false=true from hs) vU
 |_=>cases y<;>exact absurd (show false=true from hs) vU
theorem WM:di X (compareOp .NotEq) WK:=by
 intro c s d H x y v u Q I b a h;obtain⟨hs,q⟩:=h;cases x with
 |ao=>
  cases b;cases y with
  |ao=>cases a;exact PySem.EqNone.ne_none_none (aX I q (by simp))
  |bl j=>cases a;exact PySem.EqNone.ne_none_bool (aX I q (by simp))
  |int j=>obtain⟨t',rfl⟩:=a;exact PySem.EqNone.ne_none_int (aX I q (by simp))
  |str j=>obtain⟨t',rfl⟩:=a;exact PySem.EqNone.ne_none_str (aX I q (by simp))
  |_=>exact absurd (show false=true from hs) vU
 |bl i=>
  cases b;cases y with
  |ao=>cases a;exact PySem.EqNone.ne_bool_none (aX I q (by simp))
  |bl j=>cases a;exact ne_bool (aX I q (congrArg not O3))
  |str j=>obtain⟨t',rfl⟩:=a;exact PySem.EqMixed.ne_bool_str (aX I q (by simp))
  |_=>exact absurd (show false=true from hs) vU
 |int i=>
  obtain⟨t,rfl⟩:=b;cases y with
  |ao=>cases a;exact PySem.EqNone.ne_int_none (aX I q (by simp))
  |int j=>obtain⟨t',rfl⟩:=a;exact ne_int (aX I q (congrArg not xS))
  |str j=>obtain⟨t',rfl⟩:=a;exact PySem.EqMixed.ne_int_str (aX I q (by simp))
  |_=>exact absurd (show false=true from hs) vU
 |str i=>
  obtain⟨t,rfl⟩:=b;cases y with
  |ao=>cases a;exact PySem.EqNone.ne_str_none (aX I q (by simp))
  |bl j=>cases a;exact PySem.EqMixed.ne_str_bool (aX I q (by simp))
  |int j=>obtain⟨t',rfl⟩:=a;exact PySem.EqMixed.ne_str_int (aX I q (by simp))
  |str j=>obtain⟨t',rfl⟩:=a;exact ne_str (aX I q (congrArg not xL))
  |_=>exact absurd (show false=true from hs) vU
 |uc i=>
  obtain⟨t,rfl⟩:=b;cases y with
  |uc j=>obtain⟨t',rfl⟩:=a;exact PySem.W.ne_bytes (aX I q (congrArg not xZ))
  |_=>exact absurd (show false=true from hs) vU
 |_=>cases y<;>exact absurd (show false=true from hs) vU
theorem WO:di X (compareOp .Lt) (C1 λi j=>.bl (decide (i<j))):=HS λ_ _ _ _ _ _ _ q=>lt_int q
theorem WQ:di X (compareOp .LtE) (C1 λi j=>.bl (decide (i<=j))):=HS λ_ _ _ _ _ _ _ q=>le_int q
theorem WR:di X (compareOp .Gt) (C1 λi j=>.bl (decide (j<i))):=HS λ_ _ _ _ _ _ _ q=>gt_int q
theorem WS:di X (compareOp .GtE) (C1 λi j=>.bl (decide (j<=i))):=HS λ_ _ _ _ _ _ _ q=>ge_int q
theorem yQ:di X (compareOp .Lt) (λx y H Q=>∃i j,x=.str i/\y=.str j/\Q (.bl (decide (i.cps.toList<j.cps.toList))) H):=by
 intro a s d H x y v u Q I b c h;obtain⟨i,j,rfl,rfl,q⟩:=h;obtain⟨t,rfl⟩:=b;obtain⟨t',rfl⟩:=c;exact lt_str (aX I q rfl)
theorem yO:di X (compareOp .In) (λx y H Q=>∃i j,x=.str i/\y=.str j/\Q (.bl (!(Builtin.Str.occurrences j i 0 j.length 1).isEmpty)) H):=by
 intro a s d H x y v u Q I b c h;obtain⟨i,j,rfl,rfl,q⟩:=h;obtain⟨t,rfl⟩:=b;obtain⟨t',rfl⟩:=c;exact in_str (aX I q rfl)
theorem WT:di X (compareOp .Is) (λx y H Q=>y=.ao/\Q (.bl (decide (x=.ao))) H):=by
 intro a s d H x y v u Q I b c h;obtain⟨rfl,q⟩:=h;cases c;refine is_none_gen (aX I q ?_);cases x<;>first
  |(cases b;rfl)
  |(obtain⟨t,rfl⟩:=b;rfl)
theorem WU:di X (compareOp .IsNot) (λx y H Q=>y=.ao/\Q (.bl (!decide (x=.ao))) H):=by
 intro a s d H x y v u Q I b c h;obtain⟨rfl,q⟩:=h;cases c;refine isnot_none_gen (aX I q ?_);cases x<;>first
  |(cases b;rfl)
  |(obtain⟨t,rfl⟩:=b;rfl)
theorem O4(b:Expr)(h:op≠.In:=by decide)(a:op≠.NotIn:=by decide):behindInMarks op b=false:=by
 have c:(op==CmpOp.In)=false:=by cases op<;>first|rfl|exact absurd rfl h
 have d:(op==CmpOp.NotIn)=false:=by cases op<;>first|rfl|exact absurd rfl a
 cases b<;>simp[behindInMarks,c,d]
theorem WV{r:R2}(d:di X (compareOp op) r)(e:PE X a ta)(f:PE X b tb)(g:behindInMarks op b=false):PE X (.Compare a [op] [b] pos) (jy r ta tb):=by
 intro c s i H Q I h;exact wpAny_Compare1 (KA e f I h λv u j x y k l m n q=>d c j i k x y v u Q l m n q) g
def Ek(t:TE):TT:=λZ H Q=>t Z H λx U=>∃k,x=.bl k/\Q k U
theorem WX{r:R2}(g:di X (compareOp op) r)(i:PE X a ta)(j:PE X b tb)(l:behindInMarks op b=false):PT X (.Compare a [op] [b] pos) (Ek (jy r ta tb)):=by
 intro d s f H Q I h;refine wpAny_isTrue_Compare1 (ay (i d s f H _ I h) λv m ⟨x,n,o,p,q⟩=>ay (j d m f n _ o q) λu t ⟨y,w,A,C,D⟩=>
  ay (g d t f w x y v u _ A p C D) λc N ⟨z,E,G,K,k,e,L⟩=>?_) l
 subst e;cases K;exact wpAny_truthy_bool ⟨E,G,L⟩
def KC(K:Q0)(x:V)(H:Hp)(k:Bool):Prop:=
 match x with
 | .ao=>k=false
 | .bl b=>k=b
 | .int i=>k=(i !=0)
 | .str y=>y.length<=sizeLine/\k=((y.length:Int) !=0)
 | .uc y=>y.size<=sizeLine/\k=((y.size:Int) !=0)
 | .ref p=>(∃xs,ai K H p xs/\k= !xs.isEmpty)\/(∃xs,ak K H p xs/\k= !xs.isEmpty)\/∃kvs,H p=some (.dK kvs)/\k= !kvs.isEmpty
 |_=>False
theorem vS{kvs:List (κ×V)}{vs:List (κ×Value)}(r:KV kvs vs):(!vs.isEmpty)= !kvs.isEmpty:=by
 cases r<;>rfl
theorem nF{xs:bY}{a:cq}(r:bg xs a):(!a.toArray.isEmpty)= !xs.isEmpty:=by
 cases r<;>simp
theorem El:(sizeLine:Nat)<2^63:=by rw[QM];decide
theorem WY:Wz X (λx H Q=>∃k,KC X.K x H k/\Q k H):=by
 intro l s o H x v Q I f h;obtain⟨k,e,q⟩:=h;have u:=El;have z:sizeLine=16777216:=QM;cases x with
 |ao=>
  cases f;have a:k=false:=e;subst a;exact truthy_none ⟨H,I,q⟩
 |bl b=>
  cases f;have a:k=b:=e;subst a;exact wpAny_truthy_bool ⟨H,I,q⟩
 |int i=>
  obtain⟨t,rfl⟩:=f;have a:k=(i !=0):=e;subst a;exact PySem.P.truthy_int ⟨H,I,q⟩
 |str y=>
  obtain⟨t,rfl⟩:=f;obtain⟨hy,a⟩:y.length<=sizeLine/\k=((y.length:Int) !=0):=e;subst a;exact PySem.P.truthy_str (by lia) ⟨H,I.tok _,q⟩
 |uc y=>
  obtain⟨t,rfl⟩:=f;obtain⟨hy,a⟩:y.size<=sizeLine/\k=((y.size:Int) !=0):=e;subst a;exact PySem.W.truthy_bytes (by lia) ⟨H,I.tok _,q⟩
 |ref p=>
  cases f;have a:(∃d,ai X.K H p d/\k= !d.isEmpty)\/(∃d,ak X.K H p d/\k= !d.isEmpty)\/∃c,H p=some (.dK c)/\k= !c.isEmpty:=e;rcases a with⟨d,g,a⟩|⟨d,g,a⟩|⟨c,g,a⟩
  ·subst a;obtain⟨its,r,pl,hz⟩:=I.list g;have n:=r.length;exact wpAny_truthy_list pl.isList (by simp only[wV];lia) ⟨H,I.tok _,by rw[nF r];exact q⟩
  ·subst a;obtain⟨its,r,pl,hz⟩:=I.tuple g;have n:=r.length;exact truthy_tuple pl (by simp only[wV];lia) ⟨H,I.tok _,by rw[nF r];exact q⟩
  ·subst a;obtain⟨hz,hS,j,r,m⟩:c.length<=sizeLine/\(p==sysModules)=false/\∃j,KV c j/\s.heap.DictOf (cz X.prog X.w) p j:=I.hok p _ g;have n:c.length=j.length:=Paired.length r;exact wpAny_truthy_dict hS m (by lia) ⟨H,I.tok _,by rw[vS r];exact q⟩
 |_=>exact(show False from e).elim
theorem WZ(d:PE X a ta)(e:∀b,isTrue a X.env b=(do let v <- b;standAt a.pos;holding [v] (truthy v))):
  PT X a (λZ H Q=>ta Z H λx U=>∃k,KC X.K x U k/\Q k U):=by
 intro c s Z H Q I h;exact isTrue_plain (ay (d c s Z H _ I h) λv f ⟨x,g,i,j,l⟩=>WY c f Z g x v Q i j l) (e _)
theorem vO:di X (binaryOp .Add) (λx y H Q=>∃i j,x=.str i/\y=.str j/\i.length+j.length<=sizeLine/\Q (.str (i++j)) H):=by
 intro a s e H x y v u Q I b c h;obtain⟨i,j,rfl,rfl,hz,q⟩:=h;obtain⟨t,rfl⟩:=b;obtain⟨d,rfl⟩:=c;exact add_str (λd f=>⟨.str (i++j),H,I.tok _,⟨_,rfl⟩,q⟩) hz
theorem vals1{x:V}(r:bg [x] O):∃u,O=[u]/\RelV x u:=by
 cases r with
 |cons r1 r2=>cases r2;exact⟨_,rfl,r1⟩
def W0(K:Q0)(x:V)(H:Hp)(n:Nat):Prop:=
 match x with
 | .str y=>y.length<=sizeLine/\n=y.length
 | .uc y=>y.size<=sizeLine/\n=y.size
 | .ref p=>(∃xs,ai K H p xs/\n=xs.length)\/∃xs,ak K H p xs/\n=xs.length
 |_=>False
theorem nA:n_ X (.builtin "len") (λxs H Q=>∃x n,xs=[x]/\W0 X.K x H n/\Q (.int n) H):=by
 intro d s f H xs g Q I r h;obtain⟨x,n,rfl,e,q⟩:=h;obtain⟨u,rfl,rx⟩:=vals1 r;have i:=El;have j:sizeLine=16777216:=QM;cases x with
 |str y=>
  obtain⟨t,rfl⟩:=rx;obtain⟨hy,a⟩:y.length<=sizeLine/\n=y.length:=e;subst a;exact len_str (by lia) ⟨.int _,H,I.tok _,⟨_,rfl⟩,q⟩
 |uc y=>
  obtain⟨t,rfl⟩:=rx;obtain⟨hy,a⟩:y.size<=sizeLine/\n=y.size:=e;subst a;exact PySem.W.len_bytes (by lia) ⟨.int _,H,I.tok _,⟨_,rfl⟩,q⟩
 |ref p=>
  cases rx;have a:(∃xs,ai X.K H p xs/\n=xs.length)\/∃xs,ak X.K H p xs/\n=xs.length:=e;rcases a with⟨xs,b,a⟩|⟨xs,b,a⟩
  ·subst a;obtain⟨its,r',pl,hz⟩:=I.list b;have c:=r'.length;exact Calls.call_len_list pl.isList (by simp only[wV];lia) ⟨.int xs.length,H,I.tok _,⟨_,by simp only[wV];rw[c]⟩,q⟩
  ·subst a;obtain⟨its,r',pl,hz⟩:=I.tuple b;have c:=r'.length;exact len_tuple pl (by simp only[wV];lia) ⟨.int xs.length,H,I.tok _,⟨_,by simp only[wV];rw[c]⟩,q⟩
 |_=>exact(show False from e).elim
end
structure C3(h:Heap)(x dx C:Addr)(mA:Str->cv):Prop where
 obj:h.get? x=some (PySem.W.instObj C dx)
 ns:h.Ns1 dx mA
 ne:dx≠x
theorem zG{b:Addr}(n:h.Ns1 b mA):∃od,h.get? b=some od/\∀name,PySem.W.lookIn name od=some (mA name):=by
 obtain⟨o,es,ep,ho,hd,hk,_,hm⟩:=n;refine⟨o,ho,λname=>?_⟩;have e:=hm name;unfold nsFind findBy at e;rw[<- Array.find?_toList]at e;unfold PySem.W.lookIn;rw[hd];dsimp only;split
 ·rename_i y q
  rw[q]at e;exact congrArg some e
 ·rename_i q
  rw[q]at e;have a:es.toList.any (·.refKey)=false:=by
   rw[List.any_eq_false];intro y c;obtain⟨z,t,C4⟩:=hk y (Array.mem_toList_iff.mp c);simp[DictEntry.refKey,C4]
  have d:¬es.toList.any (·.refKey)=true:=by rw[a];exact vU
  rw[if_neg d];exact congrArg some e
theorem C3.look{x a:Addr}(I:C3 h x a C mA):∃od,PySem.W.InstAt h x (PySem.W.instObj C a) C (some od)/\∀name,PySem.W.lookIn name od=some (mA name):=
 let ⟨od,ho,hl⟩:=zG I.ns
 ⟨od,⟨I.obj,rfl,rfl,ho⟩,hl⟩
section
variable{K:Q0}{x dx f:Addr}{v:Value}
theorem W1{a:Bool}(X:K.In s.heap)(I:C3 s.heap x dx C mA)(b:PySem.W.plainGet K C name=true)(c:PySem.W.hasDictIn K C=true)
  (d:PySem.W.findIn K (.ref C) name=some none) (hv:mA name=some v) (e:PySem.W.handedIn v=true) (h:Q v {s with toks:=s.toks+1}):
  wpAny 'f' A (getAttr (.ref x) name a) Q E s:=by
 obtain⟨od,J,hl⟩:=I.look;exact PySem.W.get_value X J (PySem.W.plainGet_of b).1 (PySem.W.findObj_own c d rfl (by rw[hl,hv])) e h
theorem W2{Q:Value×cq->Shared->Prop}(X:K.In s.heap)(I:C3 s.heap x dx C mA)(a:PySem.W.plainGet K C name=true)
  (b:PySem.W.findIn K (.ref C) name=some (some (.ref f))) (c:PySem.W.isFn K (.ref f)=true) (hv:mA name=none) (h:Q (.ref f,[.ref x]) s):
  wpAny 'f' A (getMethod (.ref x) name pl) Q E s:=by
 obtain⟨od,J,hl⟩:=I.look;exact PySem.W.method_fn X J (PySem.W.plainGet_of a).1 (PySem.W.plainGet_of a).2 b (beq_iff_eq.mp c) (by show(PySem.W.lookIn name od).map (·.isSome)=some false;rw[hl,hv];rfl) h
theorem W3{Q:Unit->Shared->Prop}(X:K.In s.heap)(I:C3 s.heap x dx C mA)
  (hs:PySem.W.findIn K (.ref C) "__setattr__"=some (some (.builtin "object.__setattr__"))) (e:PySem.W.plainOver K C=true) (f:PySem.W.takerIn K C name=some none) (g:PySem.W.hasDictIn K C=true)
  (i:PySem.Within mA ns) (hsz:ns.length<=sizeLine)
  (h:∀M,C3 M x dx C (λy=>if y=name then some v else mA y)->Heap.SameBut dx s.heap M->Q () {s with heap:=M,toks:=s.toks+2}):
  wpAny 'f' A (setAttr (.ref x) name v) Q E s:=by
 obtain⟨od,J,hl⟩:=I.look;refine PySem.W.set_plain X J hs (PySem.W.osa_open (s:={s with toks:=s.toks+1}) (r:=none) X J e f λb=>?_);obtain⟨cd,hc,Ko⟩:=PySem.W.any_some g;have j:s.heap.get? x=some ⟨.ref C,some dx,.plain,#[]⟩:=I.obj;refine QT (QU (QT (QT (wpAny_loadPart j (QT (PySem.W.Looks.here (s:={s with toks:=s.toks+1}) (PySem.W.looks_clsIn X hc) ?_))))));rw[Ko];refine QU (a:=some dx) (QT (QU (QT ?_)));refine wpAny_nsSet1 (s:={s with toks:=s.toks+1}) I.ns λM c d=>?_;obtain⟨oD,esD,epD,W4,W5,W6⟩:=c.count (PySem.Within.cons name v i);refine QT (wpAny_lookBehind W4 (by rw[W5];exact pastItsLine_dict (jU W6 (by rw[dV];lia))) ?_);exact QU (h _ ⟨(d.2 _ (Ne.symm I.ne)).trans I.obj,c,I.ne⟩ d)
theorem W7 {vs:cq} (X:K.In s.heap) (a:PySem.W.makesIn K C=true)
  (b:PySem.W.findIn K (.ref C) "__init__"=some (some (.ref f))) (c:PySem.W.typeIn K (.ref f)=some (.type "function"))
  (h:codeAny 'f' (A.under (.builtin "type.__call__" ⟨.ref C::vs,kw⟩)) (.call (.ref f) ⟨.ref ('i')::vs,kw⟩) (PySem.W.InitBack ('i') R)
   {s with heap:=(s.heap.push PySem.W.emptyDict).push (PySem.W.instObj C s.heap.objs.size)}):
  codeAny 'f' A (.call (.ref C) ⟨vs,kw⟩) R s:=by
 obtain ⟨e,g,d,t,i⟩:=s
 exact PySem.W.make_core (PySem.W.makes_of X a) (PySem.W.looks_findIn X b) (λself=>PySem.W.bind_fn X self c) (.inl rfl) h
end
def cj(f:Str)(v:V):cw->cw
 | []=>[(f,v)]
 |(g,x)::r=>if g=f then(g,v)::r else(g,x)::cj f v r
theorem bT(f g:Str)(v:V):∀fs:cw,(cj f v fs).lookup g=if g=f then some v else fs.lookup g
 | []=>by
  show List.lookup g [(f,v)]=_;by_cases h:g=f
  ·have a:(g==f)=true:=beq_iff_eq.mpr h;simp only[List.lookup,a,if_pos h]
  ·have a:(g==f)=false:=beq_eq_false_iff_ne.mpr h;simp only[List.lookup,a,if_neg h]
 |(k,x)::r=>by
  have ih:=bT f g v r;rw[show cj f v ((k,x)::r)=(if k=f then(k,v)::r else(k,x)::cj f v r)from rfl];by_cases hk:k=f
  ·rw[if_pos hk];by_cases h:g=k
   ·have a:(g==k)=true:=beq_iff_eq.mpr h;simp only[List.lookup,a,if_pos (h.trans hk)]
   ·have a:(g==k)=false:=beq_eq_false_iff_ne.mpr h;simp only[List.lookup,a,if_neg (λe:g=f=>h (e.trans hk.symm))]
  ·rw[if_neg hk];by_cases h:g=k
   ·have a:(g==k)=true:=beq_iff_eq.mpr h;simp only[List.lookup,a,if_neg (λe:g=f=>hk (h.symm.trans e))]
   ·have a:(g==k)=false:=beq_eq_false_iff_ne.mpr h;simp only[List.lookup,a];exact ih
theorem kY(f:Str)(v:V):∀fs:cw,f∈(cj f v fs).map (·.1)/\∀g,g∈fs.map (·.1)->g∈(cj f v fs).map (·.1)
 | []=>⟨by simp[cj],λg h=>by simp at h⟩
 |(k,x)::r=>by
  obtain⟨i1,i2⟩:=kY f v r;rw[show cj f v ((k,x)::r)=(if k=f then(k,v)::r else(k,x)::cj f v r)from rfl];by_cases hk:k=f
  ·rw[if_pos hk];subst hk;exact⟨by simp,λg h=>by simpa using h⟩
  ·rw[if_neg hk];refine⟨?_,λg h=>?_⟩
   ·rw[yV];exact Qh _ i1
   ·rw[yV]at h⊢;rcases Qp.mp h with e|e
    ·exact Qp.mpr (.inl e)
    ·exact Qh _ (i2 g e)
theorem bO(f:Str)(v:V):∀fs:cw,(cj f v fs).length<=fs.length+1
 | []=>by simp[cj]
 |(k,x)::r=>by
  have ih:=bO f v r;rw[show cj f v ((k,x)::r)=(if k=f then(k,v)::r else(k,x)::cj f v r)from rfl];by_cases hk:k=f
  ·rw[if_pos hk,dV,dV];lia
  ·rw[if_neg hk,dV,dV];lia
theorem pq.some_of{v:V}{o:cv}(r:pq (some v) o):∃u,o=some u/\RelV v u:=by
 cases o with
 |none=>exact(show False from r).elim
 |some u=>exact⟨u,rfl,r⟩
theorem pq.none_of{o:cv}(r:pq none o):o=none:=by
 cases o with
 |none=>rfl
 |some u=>exact(show False from r).elim
theorem W8{v:V}(r:RelV v u):PySem.W.handedIn u=true:=by
 cases v with
 |ao=>cases(show u=Value.none from r);rfl
 |bl b=>cases(show u=Value.bool b from r);rfl
 |int i=>obtain⟨t,e⟩:=(show ∃t,u=Value.int i t from r);cases e;rfl
 |str x=>obtain⟨t,e⟩:=(show ∃t,u=Value.str x t from r);cases e;rfl
 |uc b=>obtain⟨t,e⟩:=(show ∃t,u=Value.bytes b t from r);cases e;rfl
 |CQ b=>obtain⟨t,e⟩:=(show ∃t,u=Value.float b t from r);cases e;rfl
 |ref a=>cases(show u=Value.ref a from r);rfl
 |ty n=>cases(show u=Value.type n from r);rfl
section
variable{dx:Addr}{fs VP:cw}
theorem mN(hok:fq P w H h)(e:H a=some (.ins C dx fs)):∃mA,C3 h a dx C mA/\(∀f,pq (fs.lookup f) (mA f))/\PySem.Within mA (fs.map (·.1))/\fs.length<=1000/\H dx=some (.own a):=by
 obtain⟨d,z,ne,ob,mA,n,r,q⟩:=(show br P w H h a (.ins C dx fs)from hok a _ e)
 exact⟨mA,⟨ob,n,ne⟩,r,q,z,d⟩
end
structure vf(K:Q0)(C:Addr):Prop where
 pg:PySem.W.plainGet K C Str.empty=true
 hd:PySem.W.hasDictIn K C=true
 po:PySem.W.plainOver K C=true
 sa:PySem.W.findIn K (.ref C) "__setattr__"=some (some (.builtin "object.__setattr__"))
theorem vf.get{K:Q0}(c:vf K C)(f:Str):PySem.W.plainGet K C f=true:=c.pg
def AJ(K:Q0)(C:Addr)(f:Str):Prop:=PySem.W.findIn K (.ref C) f=some none
theorem AJ.W9{K:Q0}{f:Str}(n:AJ K C f):PySem.W.takerIn K C f=some none:=by
 unfold PySem.W.takerIn;rw[show PySem.W.findIn K (.ref C) f=some none from n];rfl
structure FW(K:Q0)(C:Addr)(m:Str)(f:Addr):Prop where
 at_:PySem.W.findIn K (.ref C) m=some (some (.ref f))
 fn:PySem.W.isFn K (.ref f)=true
 kp:PySem.W.keepIn K (.ref f)=true
section
variable{dx:Addr}{fs:cw}{f:Str}{v:V}
theorem wG{b:Bool}(I:Inv X B Z H s)(e:H a=some (.ins C dx fs))(c:vf X.K C)(n:AJ X.K C f)(l:fs.lookup f=some v)
  (h:∀u s',Inv X B Z H s'->RelV v u->Q u s'):wpAny 'a' A (getAttr (.ref a) f b) Q E s:=by
 obtain⟨mA,O,r,_,_,_⟩:=mN I.hok e;obtain⟨u,hu,ru⟩:=pq.some_of (v:=v) (o:=mA f) (by rw[<- l];exact r f);exact W1 I.ji O (c.get f) c.hd n hu (W8 ru) (h u _ (I.tok _) ru)
theorem oM{m:Str}{g:Addr}{Q:Value×cq->Shared->Prop}(I:Inv X B Z H s)(e:H a=some (.ins C dx fs))(c:vf X.K C)(k:FW X.K C m g)(l:fs.lookup m=none)
  (h:Q (.ref g,[.ref a]) s):wpAny 'a' A (getMethod (.ref a) m pl) Q E s:=by
 obtain⟨mA,O,r,_,_,_⟩:=mN I.hok e;have b:mA m=none:=pq.none_of (by rw[<- l];exact r m);exact W2 I.ji O (c.get m) k.at_ k.fn b h
theorem vA{y:V}{Q:Unit->Shared->Prop}(I:Inv X B Z H s)(e:H a=some (.ins C dx fs))(c:vf X.K C)(n:AJ X.K C f)(t:fs.length<1000)(i:RelV y u)
  (h:∀s',Inv X B Z (upd H a (.ins C dx (cj f y fs))) s'->Q () s'):wpAny 'a' A (setAttr (.ref a) f u) Q E s:=by
 obtain⟨mA,O,r,wi,_,ho⟩:=mN I.hok e;have j:(fs.map (·.1)).length<=sizeLine:=by rw[Ql,QM];lia
 refine W3 I.ji O c.sa c.po n.W9 c.hd wi j λk d l=>h _ ?_;have hd:∃o,k.get? dx=some o:=let ⟨o,_,_,e',_⟩:=d.ns;⟨o,e'⟩
 refine I.write (x:=a) (e:=dx) (by rw[e];exact True.intro) (.inr ho) (λb q m z=>(l.2 b m).trans z) hd ?_;refine⟨by rw[aB O.ne];exact ho,?_,O.ne,d.obj,_,d.ns,λg=>?_,λg p=>?_⟩
 ·have:=bO f y fs;lia
 ·show pq ((cj f y fs).lookup g) (if g=f then some u else mA g);rw[bT];by_cases q:g=f
  ·rw[if_pos q,if_pos q];exact i
  ·rw[if_neg q,if_neg q];exact r g
 ·by_cases q:g=f
  ·rw[q];exact(kY f y fs).1
  ·refine(kY f y fs).2 g (wi g λz=>p ?_);show(if g=f then some u else mA g)=none;rw[if_neg q];exact z
theorem Inv.made(I:Inv X B Z H s):Inv X B Z (upd (upd H s.heap.objs.size (.own ('i'))) ('i') (.ins C s.heap.objs.size []))
  {s with heap:=(s.heap.push PySem.W.emptyDict).push (PySem.W.instObj C s.heap.objs.size)}:=by
 have c:(s.heap.push PySem.W.emptyDict).get? s.heap.objs.size=some PySem.W.emptyDict:=Qd s.heap rfl;have f:((s.heap.push PySem.W.emptyDict).push (PySem.W.instObj C s.heap.objs.size)).get? ('i')=some (PySem.W.instObj C s.heap.objs.size):=by
  have:=Qd (s.heap.push PySem.W.emptyDict) (o:=PySem.W.instObj C s.heap.objs.size) rfl
  rwa [ko]at this
 have g:(s.heap.push PySem.W.emptyDict).Ns s.heap.objs.size (λ_=>none):=⟨PySem.W.emptyDict,#[],_,c,rfl,(λe h=>absurd h (by simp)),λ_=>rfl⟩
 have i:=I.laid (a:=s.heap.objs.size) (o:=.own ('i')) (M:=s.heap.push PySem.W.emptyDict) (t':=s.toks) (λb u q=>Qc _ q) (Qz _) ⟨_,c⟩;refine i.laid (a:='i') (o:=.ins C s.heap.objs.size []) (t':=s.toks) (λb u q=>Qc _ q) (Nat.le_of_eq (ko _ _)) ?_;have d:s.heap.objs.size≠'i':=yU (Nat.lt_succ_self _);refine⟨by rw[aB d,aA],dm _,d,f,λ_=>none,(Heap.Ns1.of_empty g).at λo q=>Qc _ q,λ_=>True.intro,λy j=>absurd rfl j⟩
theorem W_{f:Str}{b:Pos}(c:attributeBase e f env (eval e env)=eval e env)
  (h:wpAny 'f' A (eval e env) (λo a=>wpAny 'f' A (getAttr o f true) Q E a) E s):wpAny 'f' A (eval (.Attribute e f b) env) Q E s:=
 Attribute_any_ h (by rw[arm_eval_Attribute,c])
end
def O5(K:Q0)(b:TE)(f:Str):TE:=λZ H Q=>b Z H λx H1=>∃a C dx fs v,x=.ref a/\H1 a=some (.ins C dx fs)/\vf K C/\AJ K C f/\fs.lookup f=some v/\Q v H1
def HW(K:Q0)(b c:TE)(f:Str):TS:=λD Z H=>c Z H λy H1=>b Z H1 λx H2=>∃a C dx fs,x=.ref a/\H2 a=some (.ins C dx fs)/\vf K C/\AJ K C f/\fs.length<1000/\
 D.nx Z (upd H2 a (.ins C dx (cj f y fs)))
section
variable{o value:Expr}{f:Str}{pos wm:Pos}{tv:TE}
theorem W'(d:PE X e ta)(g:attributeBase e f X.env (eval e X.env)=eval e X.env):PE X (.Attribute e f pos) (O5 X.K ta f):=by
 intro b s i H Q I h;refine W_ g (ay (d b s i H _ I h) ?_);rintro u w ⟨x,j,k,m,a,C,y,z,v,o,p,c,n,l,q⟩;subst o;obtain rfl:u=Value.ref a:=m;exact wG k p c n l λA D r t=>⟨v,j,r,t,q⟩
theorem Xa(e:PE X o ta)(hv:PE X value tv)(hs:swapsWith value (some (.Attribute o f pos')) pos.line X.env=pure false):PS X (.Assign [.Attribute o f pos'] value pos) (HW X.K ta tv f):=by
 intro b s d H D I h;refine plainObj_wpAny_Assign_Attribute (ay (hv b s d H _ I h) ?_) hs;rintro u g ⟨y,i,j,k,q⟩;refine ay (e b g d i _ j q) ?_;rintro m E ⟨x,G,p,r,a,C,L,N,t,w,c,n,l,z⟩;subst t;obtain rfl:m=Value.ref a:=r;exact vA p w c n l k λP A=>⟨d,_,A,z⟩
end
section
variable{c:Value}{b:Bool}
inductive xx (K:Q0) (H:Hp):V->Value->Prop where
 |ao:xx K H .ao (.type "NoneType")
 |bl (x:Bool):xx K H (.bl x) (.type "bool")
 |int (i:Int):xx K H (.int i) (.type "int")
 |str (x:Str):xx K H (.str x) (.type "str")
 |CQ (x:UInt64):xx K H (.CQ x) (.type "float")
 |lst {a:Addr} {xs:bY} (e:H a=some (.lst xs)):xx K H (.ref a) (.type "list")
 |af {a:Addr} {o:Obj} {xs:bY} (e:H a=some (.af o (.lst xs))):xx K H (.ref a) (.type "list")
 |tup {a:Addr} {xs:bY} (e:H a=some (.tup xs)):xx K H (.ref a) (.type "tuple")
 |dK {a:Addr} {kvs:ca} (e:H a=some (.dK kvs)):xx K H (.ref a) (.type "dict")
 |dT {a:Addr} {kvs:de} (e:H a=some (.dT kvs)):xx K H (.ref a) (.type "dict")
 |ins {a C dx:Addr} {fs:cw} (e:H a=some (.ins C dx fs)) (cl:vf K C) (ha:PySem.W.findIn K (.ref C) "__class__"=some (some (.builtin "object.__class__")))
   (hn:PySem.W.specialIn K (.builtin "object.__class__") "__get__"=some (some (.builtin "getset_descriptor.__get__"))) (FY:PySem.W.takesIn K (.builtin "object.__class__")=some true)
   (hm:PySem.W.mroIn K C (.type "object")=some true):xx K H (.ref a) (.ref C)
theorem zA{x:V}{t:Value}(I:Inv X B Z H s)(d:RelV x u)(ty:xx X.K H x t)(e:PySem.W.kitOne X.K t c=some b)(h:∀tk,Q (.bool b) {s with toks:=tk}):
  wpAny 'a' A (call (.builtin "isinstance") [u,c]) Q E s:=by
 cases ty with
 |ao=>cases(show u=Value.none from d);exact hZ PySem.W.kitx_none I.ji True.intro e (λz=>nomatch z) h
 |bl y=>cases(show u=Value.bool y from d);exact hZ PySem.W.kitx_bool I.ji True.intro e (λz=>nomatch z) h
 |int i=>obtain⟨t,q⟩:=(show ∃t,u=Value.int i t from d);cases q;exact hZ PySem.W.kitx_int I.ji True.intro e (λz=>nomatch z) h
 |str y=>obtain⟨t,q⟩:=(show ∃t,u=Value.str y t from d);cases q;exact hZ PySem.W.kitx_str I.ji True.intro e (λz=>nomatch z) h
 |CQ y=>obtain⟨t,q⟩:=(show ∃t,u=Value.float y t from d);cases q;exact hZ PySem.W.kitx_float I.ji True.intro e (λz=>nomatch z) h
 | @lst a xs ea=>
  cases(show u=Value.ref a from d);obtain⟨_,_,n,_,Y⟩:=(show br X.prog X.w H s.heap a (.lst xs)from I.hok a _ ea)
  exact hZ PySem.W.kitx_list I.ji ⟨_,Y,rfl⟩ e (λz=>nomatch z) h
 | @af a ob xs ea=>
  cases(show u=Value.ref a from d);obtain⟨_,_,_,n,_,Y⟩:=(show br X.prog X.w H s.heap a (.af ob (.lst xs))from I.hok a _ ea)
  exact hZ PySem.W.kitx_list I.ji ⟨_,Y,rfl⟩ e (λz=>nomatch z) h
 | @tup a xs ea=>
  cases(show u=Value.ref a from d);obtain⟨_,_,_,p⟩:=(show br X.prog X.w H s.heap a (.tup xs)from I.hok a _ ea)
  obtain⟨o,Y,h2,_⟩:=p;exact hZ PySem.W.kitx_tuple I.ji ⟨o,Y,h2⟩ e (λz=>nomatch z) h
 | @dK a kvs ea=>
  cases(show u=Value.ref a from d);obtain⟨_,_,vs,_,p⟩:=(show br X.prog X.w H s.heap a (.dK kvs)from I.hok a _ ea)
  obtain⟨o,es,ep,Y,h2,_⟩:=p;exact hZ PySem.W.kitx_dict I.ji ⟨o,Y,h2.1⟩ e (λz=>nomatch z) h
 | @dT a kvs ea=>
  cases(show u=Value.ref a from d);obtain⟨_,_,xs,_,o,es,ep,Y,h2,_⟩:=(show br X.prog X.w H s.heap a (.dT kvs)from I.hok a _ ea)
  exact hZ PySem.W.kitx_dict I.ji ⟨o,Y,h2.1⟩ e (λz=>nomatch z) h
 | @ins a C dx fs ea cl ha hn FY hm=>
  cases(show u=Value.ref a from d);obtain⟨mA,O,_⟩:=mN I.hok ea;obtain⟨od,J,_⟩:=O.look;exact hZ (PySem.W.kitx_own (cl.get _) cl.hd ha hn FY hm) I.ji J e (λz=>nomatch z) h
end
structure f_(k:Nat)(A:Around):Prop where
 hd:A.handled=none
 dp:A.depth+3*k+5<recursionLimit
 un:A.units+16*k+200<cLine
 gd:A.guards=some []
theorem f_.mono{k:Nat}(r:f_ k A)(h:j<=k):f_ j A:=⟨r.hd,by have:=r.dp;lia,by have:=r.un;lia,r.gd⟩
theorem f_.deeper{k:Nat}{A:Around}(r:f_ (k+1) A)(env:Env):f_ k (A.deeper env):=
 ⟨r.hd,by have:=r.dp;show A.depth+1+3*k+5<_;lia,by have:=r.un;show A.units+3+16*k+200<_;lia,r.gd⟩
theorem uZ:(A.under (.builtin "type.__call__" ⟨.ref C::O,kw⟩)).depth=A.depth+1:=by
 first|rfl|simp[Around.under,Code.weight,Code.isCreation,Code.isGuard,Code.isCaller,Code.frames,Code.isFrame,guardIds]
theorem vX:(A.under (.builtin "type.__call__" ⟨.ref C::O,kw⟩)).units=A.units+1:=by
 first|rfl|simp[Around.under,Code.cUnits,Code.frames,Code.isFrame]
theorem tM(h:A.guards=some []):(A.under (.builtin "type.__call__" ⟨.ref C::O,kw⟩)).guards=some []:=by
 first|exact h|(simp[Around.under,pushGuards,Code.guards,Code.isGuard,guardIds,h])
theorem f_.make{k:Nat}(r:f_ (k+1) A)(C:Addr)(O:cq)(a:List (Str×Value)):f_ k (A.under (.builtin "type.__call__" ⟨.ref C::O,a⟩)):=
 ⟨r.hd,by have:=r.dp;rw[uZ];lia,by have:=r.un;rw[vX];lia,tM r.gd⟩
theorem f_.depth{k:Nat}{A:Around}(r:f_ k A):A.depth<recursionLimit:=by have:=r.dp;lia
theorem f_.units{k:Nat}{A:Around}(r:f_ k A):A.units+64<cLine:=by have:=r.un;lia
def qc:TA:=λ_ H Q=>Q [] H
def ik(a:TE)(b:TA):TA:=λZ H Q=>a Z H λx H1=>b Z H1 λxs H2=>Q (x::xs) H2
section
variable{t:TA}{pos:Pos}
theorem Xb:PA X [] qc:=λ_ _ _ _ H Q I h=>Calls.spliced_nil ⟨[],H,I,.nil,h⟩
theorem dQ(d:PE X e te)(f:PA X es t)(hs:eH X e es:=by rfl):PA X (e::es) (ik te t):=by
 intro b a s c H Q I h;rw[hs];show wpAny _ _ (spliced ((false,eval e X.env)::backTo b (starEach es X.env))) _ _ s;refine Calls.spliced_cons (ay (d a s c H _ I h) ?_);rintro u g ⟨x,i,j,k,l⟩;exact ay (f b a g c i _ j l) λr w ⟨m,n,o,p,q⟩=>⟨x::m,n,o,.cons k p,q⟩
def Em(t:TA):TE:=λZ H Q=>t Z H λxs H1=>xs.length<=sizeLine/\∀p,H1 p=none->Q (.ref p) (upd H1 p (.tup xs))
def KG(t:TA):TE:=λZ H Q=>t Z H λxs H1=>xs.length<=sizeLine/\∀p,H1 p=none->Q (.ref p) (upd H1 p (.lst xs))
theorem Xc{x1}(h:PA X es t):PE X (.Tuple es x1 pos) (Em t):=by
 intro a s g H Q I i;refine wpAny_Tuple_spliced (ay (h pos a s g H _ I i) λj c ⟨k,d,f,r,z,q⟩=>⟨by rw[<- r.length];exact z,?_⟩);have l:d c.heap.objs.size=none:=f.hok.fresh (Qz _);refine⟨.ref c.heap.objs.size,upd d c.heap.objs.size (.tup k),f.laid (t':=c.toks) (λb u e=>Qc _ e) (Qz _) ?_,rfl,q _ l⟩;exact⟨⟨z,B0.new rfl rfl⟩,j,r,⟨_,Qd _ rfl,rfl,_,rfl⟩⟩
theorem Xd(h:PA X es t):PE X (.List es pos) (KG t):=by
 intro a s g H Q I i;refine wpAny_List_spliced (ay (h pos a s g H _ I i) λj c ⟨k,d,f,r,z,q⟩=>⟨by rw[<- r.length];exact z,?_⟩);have l:d c.heap.objs.size=none:=f.hok.fresh (Qz _);refine⟨.ref c.heap.objs.size,upd d c.heap.objs.size (.lst k),f.laid (t':=c.toks) (λb u e=>Qc _ e) (Qz _) ?_,rfl,q _ l⟩;exact⟨z,j,0,r,Qd _ rfl⟩
end
abbrev Sp:=bY->Hp->VK->XK->Prop
abbrev zy:=List Env->Hp->Shared->XK->Value->Shared->Prop
structure C5(P:Program)(w:World)(K:Q0)(mg:Str->cv)(base:Heap)(A:Around)(outer:List Env)(s:Shared)(H:Hp):Prop where
 frames:A.frames=some outer
 mod:Mod K mg base
 bs:∀b o,base.get? b=some o->'l'/\H b=none
 Ba:base.objs.size<=s.heap.objs.size
 yr:s.heap.FunFrames base outer
 CU:∀b∈vc outer,H b=none
 hok:fq P w H s.heap
 bare:AllBare s.gens
def CE(a:List Env)(P:Program)(w:World)(H:Hp)(s:Shared)(Q:VK)(u:Value)(b:Shared):Prop:=
 ∃v U,b.os=s.os/\AllBare b.gens/\Un (vc a) [] H U s.heap b.heap/\fq P w U b.heap/\RelV v u/\Q v U
def CR(c:zy)(a:List Env)(P:Program)(w:World)(H:Hp)(s:Shared)(Q:VK)(E:XK)(r:Result)(b:Shared):Prop:=
 match r with
 | .ok (.ret u)=>CE a P w H s Q u b
 | .ok _=>False
 | .error e=>c a H s E e b
structure se(P:Program)(w:World)(K:Q0)(mg:Str->cv)(base:Heap)(CX:zy)(k:Nat)(f:Addr)(fd:FuncData)(ps:aU)(sp:Sp):Prop where
 len:∀vs H Q E,sp vs H Q E->vs.length=ps.length
 run:∀(A:Around)(outer:List Env)(s:Shared)(H:Hp)(args:Args)(O:cq)(vs:bY)(Q:VK)(E:XK),f_ k A->C5 P w K mg base A outer s H->BindsTo s fd args (ps.zip O)->bg vs O->sp vs H Q E->
  codeAny (model P w) A (.call (.ref f) args) (CR CX outer P w H s Q E) s
theorem se.imp{K:Q0}{b:zy}{k:Nat}{f:Addr}{c d:Sp}(F:se P w K mg base b k f fd ps c)
  (h:∀vs H Q E,d vs H Q E->c vs H Q E):se P w K mg base b k f fd ps d:=
 ⟨λvs H Q E q=>F.len vs H Q E (h _ _ _ _ q),λA a s H args e vs Q E g i j hv l=>F.run A a s H args e vs Q E g i j hv (h _ _ _ _ l)⟩
theorem C5.make{K:Q0}{a:List Env}(e:C5 P w K mg base A a s H)(C:Addr)(O:cq)(b:List (Str×Value)):
  C5 P w K mg base (A.under (.builtin "type.__call__" ⟨.ref C::O,b⟩)) a s H:=⟨by first|exact e.frames|(simpa[Around.under,Code.envs,Code.isFrame,pushEnvs]using e.frames),e.mod,e.bs,e.Ba,e.yr,e.CU,e.hok,e.bare⟩
section
variable{s':Shared}
theorem Inv.O6(I:Inv X B Z H s):C5 X.prog X.w X.K X.mg X.base X.A X.stack s H:=
 ⟨I.ok.frames,I.ok.mod,I.bs,jU I.ok.Ba I.sz,I.stack,I.ON,I.hok,I.bare⟩
theorem Inv.after{Q:VK}(I:Inv X B Z H s)(h:CE X.stack X.prog X.w H s Q u s'):EP X B Z Q u s':=by
 obtain⟨v,U,os,bare,un,hok,r,q⟩:=h;obtain⟨hh,g,d,t,Xe⟩:=s';obtain rfl:Xe=s.os:=os;exact⟨v,U,I.call (M:=hh) (g':=g) (d':=d) (t':=t) (ch:=[]) un hok bare (λb z=>absurd z (by simp)),r,q⟩
end
def En(a:Sp)(b:bY)(E:XK)(t:TA):TE:=λZ H Q=>t Z H λvs H1=>a (vs++b) H1 Q E
def F0(C:Addr)(m:Str)(b:Sp)(c:bY)(E:XK)(d:TE)(t:TA):TE:=λZ H Q=>d Z H λx H1=>∃a dx fs,x=.ref a/\H1 a=some (.ins C dx fs)/\fs.lookup m=none/\
 t Z H1 λvs H2=>b (x::(vs++c)) H2 Q E
def HX(C:Addr)(a:Sp)(b:bY)(E:XK)(t:TA):TE:=λZ H Q=>t Z H λvs H1=>∀x dx,H1 x=none->H1 dx=none->dx≠x->
 a (.ref x::(vs++b)) (upd (upd H1 dx (.own x)) x (.ins C dx [])) (λv H2=>v=.ao/\Q (.ref x) H2) E
def Binds(K:Q0)(b:FuncData)(a:aU)(ds:cq):Prop:=
 ∀(s:Shared)(O:cq),K.In s.heap->(O++ds).length=a.length->BindsTo s b ⟨O,[]⟩ (a.zip (O++ds))
theorem Binds.all{K:Q0}(h:∀O:cq,O.length=ps.length->bindArgs fd ⟨O,[]⟩=pure (ps.zip O)):Binds K fd ps []:=λs O _ a=>by
 rw[QR]at a⊢;exact .of_eq (h O a)
def B6(a:zy)(X:Cx)(E:XK):Prop:=∀(B:'e')(Z:St)(H:Hp)(s:Shared)(e:Value)(s':Shared),Inv X B Z H s->a X.stack H s E e s'->X.xe e s'
section
variable{CX:zy}{k:Nat}{f:Addr}{sp:Sp}{lg:bY}{ds:cq}{E:XK}{m:Str}{p pos:Pos}{o:Expr}{t:TA}
theorem wB{Q:VK}{vs:bY}(F:se X.prog X.w X.K X.mg X.base CX k f fd ps sp)(c:f_ k X.A)(d:Binds X.K fd ps ds)(g:bg lg ds)(i:B6 CX X E)
  (I:Inv X B Z H s) (r:bg vs O) (h:sp (vs++lg) H Q E):wpAny 'a' X.A (call (.ref f) O) (EP X B Z Q) X.xe s:=by
 have b:bg (vs++lg) (O++ds):=r.append g;have j:(O++ds).length=ps.length:=by rw[<- b.length];exact F.len _ _ _ _ h
 refine wpAny_call (codeAny_mono (F.run X.A X.stack s H ⟨O,[]⟩ (O++ds) (vs++lg) Q E c I.O6 (d s O I.ji j) b h) λr l a=>?_);cases r with
 |error e=>exact i B Z H s e l I a
 |ok fl=>
  cases fl with
  |ret u=>exact I.after a
  |next=>exact False.elim a
  |brk=>exact False.elim a
  |cont=>exact False.elim a
theorem Xf(F:se X.prog X.w X.K X.mg X.base CX k f fd ps sp)(c:f_ k X.A)(d:Gl X x)(g:X.mg x=some (.ref f))(i:PySem.W.keepIn X.K (.ref f)=true)(j:Binds X.K fd ps ds)(l:bg lg ds)(m:B6 CX X E)
  (n:PA X (e::es) t) (o:db x:=by decide) (u:eH X e es:=by rfl) (y:eJ X pos es:=by rfl):
  PE X (.Call (.Name x p) (e::es) [] pos) (En sp lg E t):=by
 intro a s z H Q I h;refine wpAny_Call_Name_kw (mK I d g ?_ o);refine PySem.W.callWith_K (h₀:=X.base) I.ok.mod.u_ i (ay (n pos a s z H _ I h) ?_) u y;rintro C D ⟨G,L,b,r,q⟩;refine⟨b.ji,?_⟩;exact wB F c j l m b r q
theorem Xg (n:PE X o ta) (c:vf X.K C) (d:FW X.K C m f) (F:se X.prog X.w X.K X.mg X.base CX k f fd ps sp) (p:f_ k X.A) (y:Binds X.K fd ps ds) (z:bg lg ds) (D:B6 CX X E) (G:PA X (e::es) t)
  (L:eH X e es:=by rfl) (N:eJ X pos es:=by rfl)
  (P:eval (.Call (.Attribute o m apos) (e::es) [] pos) X.env=(do
   let ov <- eval o X.env
   standAt apos.atName
   let (f,first) <- holding [ov] (getMethod ov m pl)
   callWith pos f first (backTo pos (starEach (e::es) X.env)) (backToKw pos (keywordEach [] X.env))):=by rfl):
  PE X (.Call (.Attribute o m apos) (e::es) [] pos) (F0 C m sp lg E ta t):=by
 intro b s g H Q I h
 refine PySem.W.methodCall_KW (pl:=pl) (ay (n b s g H _ I h) ?_) P
 rintro u R ⟨x,T,i,V,a,dx,fs,ex,ea,l,q⟩
 subst ex
 obtain rfl:u=Value.ref a:=V
 refine oM i ea c d l ?_
 refine PySem.W.callWith_K (first:=[.ref a]) (h₀:=X.base) I.ok.mod.u_ d.kp (ay (G pos b R g T _ i q) ?_) L N
 rintro O s2 ⟨vs,H2,j,r,q2⟩
 refine ⟨j.ji,?_⟩
 exact wB (O:=.ref a::O) (vs:=.ref a::vs) F p y z D j (.cons rfl r) q2
theorem Xh (g:PE X o ta) (c:vf X.K C) (e:FW X.K C m f) (F:se X.prog X.w X.K X.mg X.base CX k f fd ps sp) (i:f_ k X.A) (j:Binds X.K fd ps ds) (n:bg lg ds) (p:B6 CX X E)
  (r:eval (.Call (.Attribute o m apos) [] [] pos) X.env=(do
   let ov <- eval o X.env
   standAt apos.atName
   let (f,first) <- holding [ov] (getMethod ov m pl)
   callWith pos f first (backTo pos (starEach [] X.env)) (backToKw pos (keywordEach [] X.env))):=by rfl):
  PE X (.Call (.Attribute o m apos) [] [] pos) (F0 C m sp lg E ta qc):=by
 intro b s t H Q I h
 refine PySem.W.methodCall_KW (pl:=pl) (ay (g b s t H _ I h) ?_) r
 rintro u G ⟨x,L,d,y,a,N,P,z,D,l,q⟩
 subst z
 obtain rfl:u=Value.ref a:=y
 refine oM d D c e l ?_
 exact PySem.W.callWith_K0 (first:=[.ref a]) d.ji e.kp (wB (O:=[.ref a]) (vs:=[.ref a]) F i j n p d (.cons rfl .nil) q)
structure Mk(K:Q0)(C f:Addr):Prop where
 makes:PySem.W.makesIn K C=true
 init:PySem.W.findIn K (.ref C) "__init__"=some (some (.ref f))
 fn:PySem.W.isFn K (.ref f)=true
 kp:PySem.W.keepIn K (.ref C)=true
theorem tQ{Q:VK}{vs:bY}(M:Mk X.K C f)(F:se X.prog X.w X.K X.mg X.base CX k f fd ps sp)(g:f_ (k+1) X.A)(i:Binds X.K fd ps ds)(j:bg lg ds)
  (l:B6 CX X E) (I:Inv X B Z H s) (r:bg vs O)
  (h:∀x dx,H x=none->H dx=none->dx≠x->sp (.ref x::(vs++lg)) (upd (upd H dx (.own x)) x (.ins C dx [])) (λv H2=>v=.ao/\Q (.ref x) H2) E):
  wpAny 'a' X.A (call (.ref C) O) (EP X B Z Q) X.xe s:=by
 have c:=h ('i') s.heap.objs.size (I.hok.fresh (lb _)) (I.hok.fresh (Qz _)) (yU (Nat.lt_succ_self _));have b:=Inv.made (C:=C) I;have d:bg (V.ref ('i')::(vs++lg)) (Value.ref ('i')::(O++ds)):=.cons rfl (r.append j);have m:(Value.ref ('i')::O++ds).length=ps.length:=by
  have e:=d.length;rw[F.len _ _ _ _ c]at e;exact e.symm
 refine wpAny_call (W7 (f:=f) I.ji M.makes M.init (beq_iff_eq.mp M.fn) (codeAny_mono (F.run _ X.stack _ _ ⟨Value.ref ('i')::O,[]⟩ (Value.ref ('i')::(O++ds)) _ _ E (g.make C O [])
  (b.O6.make C O []) (i _ (Value.ref ('i')::O) b.ji m) d c) λr n a=>?_))
 cases r with
 |error e=>exact l B Z _ _ e n b a
 |ok fl=>
  cases fl with
  |ret u=>
   obtain⟨v,U,I3,rv,ev,q3⟩:=b.after a;subst ev;exact⟨rv,⟨V.ref (s.heap.objs.size+1),U,I3,rfl,q3⟩⟩
  |next=>exact False.elim a
  |brk=>exact False.elim a
  |cont=>exact False.elim a
theorem Xi(M:Mk X.K C f)(F:se X.prog X.w X.K X.mg X.base CX k f fd ps sp)(c:f_ (k+1) X.A)(d:Gl X x)(g:X.mg x=some (.ref C))(i:Binds X.K fd ps ds)(j:bg lg ds)(l:B6 CX X E)
  (m:PA X (e::es) t) (n:db x:=by decide) (o:eH X e es:=by rfl) (u:eJ X pos es:=by rfl):
  PE X (.Call (.Name x p) (e::es) [] pos) (HX C sp lg E t):=by
 intro a s y H Q I h;refine wpAny_Call_Name_kw (mK I d g ?_ n);refine PySem.W.callWith_K (h₀:=X.base) I.ok.mod.u_ M.kp (ay (m pos a s y H _ I h) ?_) o u;rintro z D ⟨G,L,b,r,q⟩;refine⟨b.ji,?_⟩;exact tQ M F c i j l b r q
theorem Xj(M:Mk X.K C f)(F:se X.prog X.w X.K X.mg X.base CX k f fd ps sp)(b:f_ (k+1) X.A)(c:Gl X x)(d:X.mg x=some (.ref C))(e:Binds X.K fd ps ds)(g:bg lg ds)(i:B6 CX X E)
  (j:db x:=by decide):PE X (.Call (.Name x p) [] [] pos) (HX C sp lg E qc):=by
 intro a s l H Q I h;refine wpAny_Call_Name_kw (mK I c d ?_ j);exact PySem.W.callWith_K0 I.ji M.kp (tQ (O:=[]) M F b e g i I .nil h)
end
structure fj(N P:aU)(sc:Scope):Prop where
 kind:sc.kind=.function
 co:sc.isCoroutine=false
 gen:sc.isGenerator=false
 nd:N.Nodup
 pre:N.take P.length=P
 O7:∀x∈P,sc.names.lookup x=some .local\/sc.names.lookup x=some .cell
 Xk:∀y∈sc.names,y.2≠.free
theorem qH{kindOf:Str->Option NameKind}{x:Str}:∀{a:List (Str×Value)}{m:Str->cv},(∀v,(x,v)∉a)->bindL kindOf a m x=m x
 | [],_,_=>rfl
 |(n,v)::r,m,h=>by
  unfold bindL;rw[qH λw b=>h w (Qh _ b)];split
  ·have:x≠n:=by rintro rfl;exact h v yS
   simp[this]
  ·rfl
theorem pO{kindOf:Str->Option NameKind}{x:Str}:∀{a:List (Str×Value)}{m:Str->cv},(∀v,(x,v)∉a)->bindC kindOf a m x=m x
 | [],_,_=>rfl
 |(n,v)::r,m,h=>by
  unfold bindC;rw[pO λw b=>h w (Qh _ b)];split
  ·rfl
  ·have:x≠n:=by rintro rfl;exact h v yS
   simp[this]
theorem qG{kindOf:Str->Option NameKind}{x:Str}{v:Value}:∀{P:aU}{vs:cq}{i:Nat}{m:Str->cv},P.Nodup->P[i]? =some x->vs[i]? =some v->kindOf x=some .local->
  bindL kindOf (P.zip vs) m x=some v
 | [],_,_,_,_,h,_,_=>by simp at h
 |_::_,[],_,_,_,_,h,_=>by simp at h
 |p::P,w::vs,0,m,nd,Y,h2,hk=>by
  simp at Y h2;subst Y;subst h2;show bindL kindOf ((p,w)::P.zip vs) m p=_;unfold bindL;rw[qH λv hv=>(uY.mp nd).1 (List.of_mem_zip hv).1,if_pos hk];simp
 |p::P,w::vs,i+1,m,nd,Y,h2,hk=>by
  show bindL kindOf ((p,w)::P.zip vs) m x=_;unfold bindL;exact qG (i:=i) (uY.mp nd).2 (by simpa using Y) (by simpa using h2) hk
theorem pI{kindOf:Str->Option NameKind}{x:Str}{v:Value}:∀{P:aU}{vs:cq}{i:Nat}{m:Str->cv},P.Nodup->P[i]? =some x->vs[i]? =some v->kindOf x≠some .local->
  bindC kindOf (P.zip vs) m x=some v
 | [],_,_,_,_,h,_,_=>by simp at h
 |_::_,[],_,_,_,_,h,_=>by simp at h
 |p::P,w::vs,0,m,nd,Y,h2,hk=>by
  simp at Y h2;subst Y;subst h2;show bindC kindOf ((p,w)::P.zip vs) m p=_;unfold bindC;rw[pO λv hv=>(uY.mp nd).1 (List.of_mem_zip hv).1,if_neg hk];simp
 |p::P,w::vs,i+1,m,nd,Y,h2,hk=>by
  show bindC kindOf ((p,w)::P.zip vs) m x=_;unfold bindC;exact pI (i:=i) (uY.mp nd).2 (by simpa using Y) (by simpa using h2) hk
def start(N:aU)(vs:bY):St:=vs.map some++List.replicate (N.length-vs.length) none
def AK(CX:zy)(P:Program)(w:World)(K:Q0)(mg:Str->cv)(base:Heap)(N:aU)(qual:Str)(scope:Scope)(f:Addr)(cd:Value)(A:Around)(outer:List Env)(s:Shared)(H:Hp)(E:XK):Cx where
 prog:=P
 w:=w
 K:=K
 mg:=mg
 base:=base
 A:=A.deeper (envOfC qual scope s.heap.objs.size f cd)
 N:=N
 s₀:=s
 H₀:=H
 env:=envOfC qual scope s.heap.objs.size f cd
 outer:=outer
 stack:=envOfC qual scope s.heap.objs.size f cd::outer
 ex:=[]
 calm:=true
 fn:=λ_=>true
 pn:=[]
 xe:=λe s'=>wpAny (model P w) (A.deeper (envOfC qual scope s.heap.objs.size f cd)) (leaving (envOfC qual scope s.heap.objs.size f cd) e) (λ_ s''=>CX outer H s E e s'') (λe' s''=>CX outer H s E e' s'') s'
theorem sS(h:sc.names.lookup x=some .cell):∃c,(cellsFrom n sc.names []).lookup x=some c:=by
 have q:=PySem.W.cellsFrom_some sc.names n [] (.inl h);exact Option.isSome_iff_exists.mp q
theorem yX{G:zy}{K:Q0}{g:Str}{scope:Scope}{f:Addr}{o:Value}{d:List Env}{I:Shared}{E:XK}{vs:bY}
  (S:fj N ps scope) (Q:A.handled=none) (l:C5 P w K mg base A d s H) (T:vs.length=ps.length) (r:bg vs O)
  (x:InCallC s s.heap.objs.size (bindL (envOfC g scope s.heap.objs.size f o).kindOf (ps.zip O) λ_=>none) (cellsFrom ('i') scope.names []) (bindC (envOfC g scope s.heap.objs.size f o).kindOf (ps.zip O) λ_=>none) I):
  Inv (AK G P w K mg base N g scope f o A d s H E) [] (start N vs) H I:=by
 have V:ps.length<=N.length:=by have:=congrArg List.length S.pre;rw[u9]at this;lia
 obtain⟨t,tk,rfl,hk⟩:=x.done;have D:∀b:Addr,b∉(AK G P w K mg base N g scope f o A d s H E).ex:=λb z=>absurd (show b∈([]:cx)from z) (by simp);refine⟨⟨l.mod,S.kind,rfl,rfl,Qz _,λy z c t j=>?_,λy hy=>?_,λy c _ h=>?_,λ_=>Q,Around.frames_deeper l.frames,.inr ⟨rfl,rfl⟩,λb z=>absurd z (D b),l.bs,l.Ba,λb _ _=>D b,λb z=>absurd z (D b),l.yr,l.CU⟩,
  rfl,l.bare,Un.kept hk,⟨_,x.toInCall.ns,λi y v t j h3=>?_⟩,λy c h=>⟨_,x.cell y c h⟩,l.hok.fresh (Qz _),λy c h=>?_,λp m=>absurd (show p∈([]:'e')from m) (by simp),l.hok.kept hk,?_⟩
 ·exact name_of_addr x.apart (lx t) (lx j)
 ·have hy:scope.names.lookup y=some .cell\/scope.names.lookup y=some .free:=hy;rcases hy with hy|hy
  ·exact sS hy
  ·exact absurd rfl (S.Xk _ (lx hy))
 ·exact Nat.le_of_lt (x.above y c (lx h))
 ·have C:i<vs.length:=by
   unfold start at j;by_cases C:i<vs.length
   ·exact C
   ·rw[nT (by simpa using C)]at j;rw[List.getElem?_replicate]at j;split at j<;>cases j
  have R:vs[i]? =some v:=by
   unfold start at j;rw[Qg (by simpa using C),Qq]at j;cases e:vs[i]? with
   |none=>rw[e]at j;cases j
   |some a=>rw[e]at j;cases j;rfl
  obtain⟨u,hu,rv⟩:=r.get R;have m:ps[i]? =some y:=by
   rw[<- S.pre,List.getElem?_take_of_lt (by lia)];exact t
  have L:ps.Nodup:=by rw[<- S.pre];exact S.nd.sublist (List.take_sublist _ _)
  refine⟨u,rv,?_⟩;rcases S.O7 y (QD m)with k|k
  ·exact .inl ⟨k,qG L m hu k⟩
  ·obtain⟨c,e⟩:=sS (n:='i') k;refine .inr ⟨.inl k,c,e,?_⟩;have q:=x.cell y c e;rw[pI L m hu (by show scope.names.lookup y≠_;rw[k];decide)]at q;exact q
 ·exact l.hok.fresh (Nat.le_of_lt (x.above y c (lx h)))
 ·unfold start;show _=N.length;rw[Qk,Ql,List.length_replicate]
  lia
theorem Xl {p:zy} {K:Q0} {k:Nat} {f:Addr} {c:Str} {d:Arguments} {scope:Scope} {T kV j pm h ct oc:Value} {an od:Option Addr}
  {vg:Array cv} {N z:aU} {C:Sp} (lk:K.lookup f=some ⟨oc,od,.func (PySem.W.fnOf name c d body scope T kV j pm an h ct),vg⟩) (ve:PySem.W.codeIn K h c=true) (S:fj N z scope)
  (l:∀ vs H Q E,C vs H Q E->vs.length=z.length)
  (zz:∀ (A:Around) (a:List Env) (s:Shared) (H:Hp) (vs:bY) (Q:VK) (E:XK),f_ k (A.deeper (envOfC c scope s.heap.objs.size f h))->C vs H Q E->
   ∃ t,vd (AK p P w K mg base N c scope f h A a s H E) body t/\t {nx:=λ_ U=>Q .ao U,rt:=Q} (start N vs) H):
  se P w K mg base p (k+1) f (PySem.W.fnOf name c d body scope T kV j pm an h ct) z C:=by
 refine ⟨l,λA a s H args O vs Q E D m hb r B7=>?_⟩
 have hl:=l _ _ _ _ B7
 have KX:K.In s.heap:=m.mod.u_.keeps λb o e=>(m.bs b o e).1
 have G:s.heap.NoLimit:=m.mod.nolimit.keeps λb o e=>(m.bs b o e).1
 have Xm:∀ y∈z.zip O,scope.names.lookup y.1=some .local\/(scope.names.lookup y.1=some .cell/\((cellsFrom ('i') scope.names []).lookup y.1).isSome=true):=λ⟨n,v⟩ hy=>by
  rcases S.O7 n (List.of_mem_zip hy).1 with q | q
  ·exact .inl q
  ·exact .inr ⟨q,PySem.W.cellsFrom_some _ _ _ (.inl q)⟩
 refine codeAny_call_function D.depth (KX _ _ lk) rfl S.co S.gen rfl (PySem.W.codeRec_of KX ve) (hb _ _ _ _ ?_)
 refine wpAny_newFunctionEnv_cells S.kind Xm λab he s1 x=>?_
 subst he
 refine ⟨G.keeps x.toInCall.keep,codeAny_func ?_⟩
 obtain ⟨t,ht,hq⟩:=zz A a s H vs Q E (D.deeper _) B7
 have I:Inv (AK p P w K mg base N c scope f h A a s H E) [] (start N vs) H s1:=yX S D.hd m hl r x
 refine wpAny_mono (ht [] s1 (start N vs) H _ I hq) (λfl L i=>?_) λe L i=>i
 have fin:∀ {g:St} {U:Hp} {v:V} {u:Value},Inv (AK p P w K mg base N c scope f h A a s H E) [] g U L->RelV v u->Q v U->CE a P w H s Q u L:=
  λ{g U v u} J R q=>⟨v,U,J.os,J.bare,J.base,J.hok,R,q⟩
 cases fl with
 | ret u=>
  obtain ⟨v,g,U,J,R,q⟩:=i
  exact fin J R q
 | next=>
  obtain ⟨g,U,J,q⟩:=i
  exact fin (v:=V.ao) (u:=Value.none) J rfl q
 | brk=>
  obtain ⟨_,_,_,q⟩:=i
  exact False.elim q
 | cont=>
  obtain ⟨_,_,_,q⟩:=i
  exact False.elim q
section
variable{p pos:Pos}{t:TA}{id:String}{r:bY->Hp->VK->Prop}
def yt(r:bY->Hp->VK->Prop)(t:TA):TE:=λZ H Q=>t Z H λvs H1=>r vs H1 Q
theorem Xn(c:n_ X (.builtin id) r)(d:Gl X x)(f:X.mg x=none)(hv:bootBuiltins x=some (.builtin id))(g:PA X (e::es) t)(i:x≠"__name__":=by decide)(j:db x:=by decide)
  (k:eH X e es:=by rfl) (l:eJ X pos es:=by rfl):PE X (.Call (.Name x p) (e::es) [] pos) (yt r t):=by
 intro a s b H Q I h;refine wpAny_Call_Name_kw (iC I d f hv ?_ i j);exact PyProof.Rows.callWith_builtin1 (ay (g pos a s b H _ I h) λm n ⟨o,q,u,w,y⟩=>c a n b q o m Q u w y) k l
theorem zP(c:n_ X (.type T) r)(d:Gl X x)(f:X.mg x=none)(hv:bootBuiltins x=some (.type T))(g:PA X (e::es) t)(i:x≠"__name__":=by decide)(j:db x:=by decide)
  (k:eH X e es:=by rfl) (l:eJ X pos es:=by rfl):PE X (.Call (.Name x p) (e::es) [] pos) (yt r t):=by
 intro a s b H Q I h;refine wpAny_Call_Name_kw (iC I d f hv ?_ i j);exact oj (ay (g pos a s b H _ I h) λm n ⟨o,q,u,w,y⟩=>c a n b q o m Q u w y) k l
end
end L2
namespace HT
open PySem PyProof.Rows
theorem Xo{t:Addr}{vs ws:cq}(a:IsTup s.heap t vs.toArray)(c:IsTup s.heap b ws.toArray)(hv:vs≠[])
  (d:ws=[]->Q (.ref t) s) (f:ws≠[]->Q (.ref s.heap.objs.size) {s with heap:=s.heap.push {cls:=.type "tuple",data:=.seq (vs++ws).toArray}})
  (hsz:vs.length+ws.length<=sizeLine):wpAny 'f' A (binaryOp .Add (.ref t) (.ref b)) Q E s:=by
 obtain⟨⟨cls,dd,data,sl⟩,ho,hc,n,hd⟩:=id a;obtain⟨⟨O9,B8,data2,B9⟩,AL,qy,n2,hd2⟩:=id c;simp only at hc hd qy hd2;subst hc hd qy hd2;have e:vs.toArray++ws.toArray=(vs++ws).toArray:=by simp
 by_cases hw:ws=[]
 ·exact concat_meets ⟨_,ho,rfl⟩ ⟨_,AL,rfl⟩ noFill_tuple_add seq_tuple_add PySem.F.slot_tuple_add PySem.F.entry_tuple_add (PySem.F.args_tuple_add_2 _ _)
   (tuple_addW1 t b vs.toArray ws.toArray n n2 dd B8 sl B9 (by simpa using hv) (by simp[hw])) ⟨ho,AL,d hw⟩
 ·refine concat_meets ⟨_,ho,rfl⟩ ⟨_,AL,rfl⟩ noFill_tuple_add seq_tuple_add PySem.F.slot_tuple_add PySem.F.entry_tuple_add (PySem.F.args_tuple_add_2 _ _)
   (tuple_addW2 t b vs.toArray ws.toArray n n2 dd B8 sl B9 (by simpa using hv) (by simpa using hw) (by rw[wV,wV];exact hsz)) ⟨ho,AL,?_⟩
  rw[e];exact f hw
def cu(n d:Nat):Option Int->Nat
 |none=>d
 |some v=>if v<0 then(v+(n:Int)).toNat else min v.toNat n
theorem tL(n d:Nat):cu n d none=d:=rfl
theorem qI(n d k:Nat):cu n d (some (k:Int))=min k n:=by
 show(if(k:Int)<0 then((k:Int)+(n:Int)).toNat else min (k:Int).toNat n)=min k n;rw[if_neg (by lia),mx]
theorem Xp(n d:Nat)(a:d<=n)(o:Option Int):cu n d o<=n:=by
 cases o with
 |none=>exact a
 |some v=>
  show(if v<0 then(v+(n:Int)).toNat else min v.toNat n)<=n;by_cases hv:v<0
  ·rw[if_pos hv];lia
  ·rw[if_neg hv];exact Nat.min_le_right _ _
theorem xH(v:Int)(n d:Nat):(if v<0 then max (v+(n:Int)) 0 else min v (n:Int))=((cu n d (some v):Nat):Int):=by
 show(if v<0 then max (v+(n:Int)) 0 else min v (n:Int))=(((if v<0 then(v+(n:Int)).toNat else min v.toNat n):Nat):Int);by_cases hv:v<0
 ·simp only[if_pos hv];lia
 ·simp only[if_neg hv];lia
theorem wO(lo a:Option Int)(n:Nat):Builtin.Slice.sliceAdjust lo a 1 (n:Int)=(((cu n 0 lo:Nat):Int),((cu n n a:Nat):Int)):=by
 have b:¬((1:Int)<0):=by lia
 unfold Builtin.Slice.sliceAdjust;simp only[b,if_false];refine Prod.ext ?_ ?_
 ·cases lo with
  |none=>rfl
  |some v=>exact xH v n 0
 ·cases a with
  |none=>rfl
  |some v=>exact xH v n n
theorem vF(i j:Nat):Builtin.Slice.slicePlaces (i:Int) (j:Int) 1=j-i:=by
 unfold Builtin.Slice.slicePlaces;have a:(1:Int) > 0:=by lia
 simp only[a,if_true,Int.ediv_one];split<;>lia
theorem nG{v:Value}{o:Option Int}{Q:Option Int->Shared->Prop}(p:IsPart v o)(h:Q o s):wpAny 'f' A (Builtin.Slice.slicePartIndex v) Q E s:=by
 cases p with
 |none=>exact slicePart_none h
 |int i t=>exact slicePart_int h
theorem kZ{c:Addr}{vl b:Value}{lo a:Option Int}{Q:Int×Int×Nat->Shared->Prop}(hs:s.heap.IsSliceOf c vl b .none)(pl:IsPart vl lo)(d:IsPart b a)
  (h:Q (((cu n 0 lo:Nat):Int),1,cu n n a-cu n 0 lo) s):wpAny 'f' A (Builtin.Slice.sliceApplied (.ref c) (pure (n:Int))) Q E s:=by
 obtain⟨os,C6,O_,hds⟩:=id hs;unfold Builtin.Slice.sliceApplied Builtin.Slice.sliceFields;refine QT (QT (wpAny_field C6 hds (x:=vl) rfl (QT (wpAny_field C6 hds (x:=b) rfl (QT (wpAny_field C6 hds (x:=.none) rfl (QU ?_)))))));refine QT (slicePart_none ?_);show wpAny _ _ (if((1:Int)==0)=true then _ else _) _ _ s;rw[if_neg (by decide)];refine QT (nG pl (QT (nG d (QT (QU ?_)))));show wpAny _ _ (match Builtin.Slice.sliceAdjust lo a 1 (n:Int)with|(lo,a)=>pure (lo,(1:Int),Builtin.Slice.slicePlaces lo a 1)) _ _ s;rw[wO lo a n];show wpAny _ _ (pure (((cu n 0 lo:Nat):Int),(1:Int),Builtin.Slice.slicePlaces ((cu n 0 lo:Nat):Int) ((cu n n a:Nat):Int) 1)) _ _ s;rw[vF];exact QU h
theorem Xq(xs:Array Value)(i k:Nat):((List.range k).filterMap fun(m:Nat)=>xs[((i:Int)+(m:Int)*1).toNat]?).toArray=((xs.toList.drop i).take k).toArray:=by
 have e:(fun(m:Nat)=>xs[((i:Int)+(m:Int)*1).toNat]?)=λm=>xs[i+m]?:=by
  funext m;have:((i:Int)+(m:Int)*1).toNat=i+m:=by lia
  rw[this]
 rw[e];have:=pick_run xs i k;rw[List.filterMap_map]at this;have a:((λx=>xs[x]?)∘λx=>i+x)=λm=>xs[i+m]?:=rfl;rw[a]at this;rw[this]
theorem jX{t e:Addr}{a:Array Value}{vl f:Value}{lo b:Option Int}(c:IsTup s.heap t a)(hs:s.heap.IsSliceOf e vl f .none)(pl:IsPart vl lo)(g:IsPart f b)
  (i:¬(cu a.size 0 lo=0/\cu a.size a.size b=a.size))
  (h:Q (.ref s.heap.objs.size) {s with heap:=s.heap.push {cls:=.type "tuple",data:=.seq ((a.toList.drop (cu a.size 0 lo)).take (cu a.size a.size b-cu a.size 0 lo)).toArray}})
  (hsz:a.size<=sizeLine):wpAny 'f' A (getItem (.ref t) (.ref e)) Q E s:=by
 have d:sizeOk (.seq ((a.toList.drop (cu a.size 0 lo)).take (cu a.size a.size b-cu a.size 0 lo)).toArray):=by
  show((a.toList.drop (cu a.size 0 lo)).take (cu a.size a.size b-cu a.size 0 lo)).toArray.size<=sizeLine;rw[wV,u9,List.length_drop,gT]
  lia
 have l:cu a.size a.size b<=a.size:=Xp _ _ (Qz _) b;obtain⟨os,C6,O_,hds⟩:=id hs;have j:s.TypeIs (.ref e) "slice":=⟨os,C6,O_⟩
 unfold getItem
 try with_reducible refine wpAny_holding ?_
 first|refine QT (QU ?_)|skip
 refine QT (wpAny_sequenceKey c.typeIs (by decide) ?_);refine QT (wpAny_callSpecial?_slot (name:=Str.ofString "__getitem__") c.typeIs PyProof.Rows.slot_tuple_getitem
  (wpAny_call_entry PyProof.Rows.slot_tuple_getitem c.typeIs entry_tuple_getitem ?_ (args_tuple_getitem _ _)))
 show wpAny _ _ (Builtin.Tuple.tupleItemsOf (.ref t) >>=_) _ _ s;refine QT (tupleItemsOf_ c ?_);refine QT (wpAny_typeOf j ?_);rw[if_pos (by decide)];refine QT (kZ hs pl g ?_);have k:¬((((cu a.size 0 lo:Nat):Int)==0&&(1:Int)==1&&(cu a.size a.size b-cu a.size 0 lo)==a.size)=true):=by
  intro q;rw[im,im]at q;have n:((cu a.size 0 lo:Nat):Int)=0:=eq_of_beq q.1.1;have o:cu a.size a.size b-cu a.size 0 lo=a.size:=eq_of_beq q.2;exact i ⟨by lia,by lia⟩
 show wpAny _ _ (if(((cu a.size 0 lo:Nat):Int)==0&&(1:Int)==1&&(cu a.size a.size b-cu a.size 0 lo)==a.size)=true then _ else _) _ _ s;rw[if_neg k,Xq]
 first
  |exact QT (m:=Builtin.Tuple.tupleExact _) (wpAny_newObj_type (QU ⟨_,rfl,QU h⟩) d)
  |exact QT (m:=Builtin.Tuple.tupleExact _) (wpAny_newObj_type (QT (QU (QU ⟨_,rfl,QU h⟩))) d)
  |exact QT (QT (m:=Builtin.Tuple.tupleExact _) (wpAny_newObj_type (QU (QU ⟨_,rfl,QU h⟩)) d))
  |exact QT (QT (m:=Builtin.Tuple.tupleExact _) (wpAny_newObj_type (QU ⟨_,rfl,QU h⟩) d))
end HT
namespace L2
open PySem PySem.Spec PyProof.Rows
abbrev TO:=St->Hp->(Option Int->Hp->Prop)->Prop
def PO(X:Cx)(e:Option Expr)(t:TO):Prop:=
 ∀(B:'e')(s:Shared)(Z:St)(H:Hp)(Q:Option Int->Hp->Prop),Inv X B Z H s->t Z H Q->
  wpAny 'a' X.A (evalPart e X.env) (λu s'=>∃o U,Inv X B Z U s'/\IsPart u o/\Q o U) X.xe s
def Eo:TO:=λ_ H Q=>Q none H
def Ep(t:TE):TO:=λZ H Q=>t Z H λx H1=>∃i,x=.int i/\Q (some i) H1
section
variable{lo hi:Option Expr}{tl th:TO}{pos p2:Pos}
theorem Xs:PO X none Eo:=by
 intro a s b H Q I h;rw[evalPart_none];exact QU ⟨none,H,I,.none,h⟩
theorem Xu(h:PE X e te):PO X (some e) (Ep te):=by
 intro a s b H Q I c;rw[evalPart_some];refine ay (h a s b H _ I c) ?_;rintro u k ⟨x,d,f,g,j⟩;obtain⟨i,rfl,q⟩:=j;obtain⟨t,rfl⟩:=g;exact⟨some i,d,f,.int i t,q⟩
def z_(X:Cx)(r:V->Option Int->Option Int->Hp->VK->Prop):Prop:=
 ∀(B:'e')(s:Shared)(Z:St)(H:Hp)(x:V)(v vl a:Value)(lo hi:Option Int)(b:Addr)(Q:VK),Inv X B Z H s->RelV x v->s.heap.IsSliceOf b vl a .none->IsPart vl lo->IsPart a hi->r x lo hi H Q->
  ∃T id,typeLookup (.type T) "__getitem__"=pure (some (.builtin id))/\s.TypeIs v T/\wpAny 'a' X.A (getItem v (.ref b)) (EP X B Z Q) X.xe s
theorem z_.or{r b:V->Option Int->Option Int->Hp->VK->Prop}(h:z_ X r)(M:z_ X b):z_ X (λx lo hi H Q=>r x lo hi H Q\/b x lo hi H Q):=by
 intro a s c H x v vl d lo hi e Q I f g i j q;rcases q with q|q
 ·exact h a s c H x v vl d lo hi e Q I f g i j q
 ·exact M a s c H x v vl d lo hi e Q I f g i j q
def Er(r:V->Option Int->Option Int->Hp->VK->Prop)(a:TE)(b c:TO):TE:=λZ H Q=>a Z H λx H1=>b Z H1 λl H2=>c Z H2 λu d=>r x l u d Q
theorem Xv{r:V->Option Int->Option Int->Hp->VK->Prop}(i:z_ X r)(j:PE X e te)(k:PO X lo tl)(m:PO X hi th):PE X (.Subscript e (.Slice lo hi none p2) pos) (Er r te tl th):=by
 intro a s d H Q I h;refine Subscript_ (ay (j a s d H _ I h) ?_);rintro v n ⟨x,o,p,t,y⟩;refine wpAny_Slice (ay (k a n d o _ p y) ?_);rintro vl z ⟨l,C,D,E,G⟩;refine ay (m a z d C _ D G) ?_;rintro f c ⟨u,g,K,L,N⟩;rw[evalPart_none];refine QU ?_;have P:Inv X a d g {c with heap:=c.heap.push {cls:=.type "slice",data:=.fields #[vl,f,.none]}}:=K.kept (t':=c.toks) λb R q=>Qc _ q;obtain⟨T,id,hT,ht,hg⟩:=i a {c with heap:=c.heap.push {cls:=.type "slice",data:=.fields #[vl,f,.none]}} d g x v vl f l u c.heap.objs.size Q P t (Heap.IsSliceOf.new ..) E L N;show wpAny 'a' X.A (subscriptTail e (.Slice lo hi none p2) v (.ref c.heap.objs.size)) (EP X a d Q) X.xe {c with heap:=c.heap.push {cls:=.type "slice",data:=.fields #[vl,f,.none]}};exact tail_any (ops:=[.ref c.heap.objs.size,v]) ht hT hg (by with_unfolding_all rfl)
def qd(xs:bY)(lo a:Option Int):bY:=(xs.drop (HT.cu xs.length 0 lo)).take (HT.cu xs.length xs.length a-HT.cu xs.length 0 lo)
theorem lS(xs:bY)(lo a:Option Int):(qd xs lo a).length<=xs.length:=by
 unfold qd;rw[u9,List.length_drop]
 lia
def B_(K:Q0):V->Option Int->Option Int->Hp->VK->Prop:=λx lo hi H Q=>∃a xs,x=.ref a/\ak K H a xs/\
 ¬(HT.cu xs.length 0 lo=0/\HT.cu xs.length xs.length hi=xs.length)/\∀p,H p=none->Q (.ref p) (upd H p (.tup (qd xs lo hi)))
theorem Xw:z_ X (B_ X.K):=by
 intro f s l H x v vl m c d n Q I g i j k h;obtain⟨a,xs,rfl,hx,hw,q⟩:=h;cases g;obtain⟨its,r,ht,hz⟩:=I.tuple hx;have e:its.toArray.size=xs.length:=by rw[wV];exact r.length.symm
 refine⟨"tuple",_,PyProof.Rows.slot_tuple_getitem.lookup,ht.typeIs,?_⟩;refine HT.jX ht i j k (by rw[e];exact hw) ?_ (by rw[e];exact hz);rw[e];refine⟨.ref s.heap.objs.size,_,I.laid (t':=s.toks) (o:=.tup (qd xs c d)) (λb p q=>Qc _ q) (Qz _) ?_,rfl,q _ (I.hok.fresh (Qz _))⟩;exact⟨⟨jU (lS xs c d) hz,B0.new rfl rfl⟩,_,(r.drop (HT.cu xs.length 0 c)).take (HT.cu xs.length xs.length d-HT.cu xs.length 0 c),IsTup.new _ _⟩
def Xx(K:Q0):R2:=λx y H Q=>∃a b xs J,x=.ref a/\y=.ref b/\ak K H a xs/\ak K H b J/\xs≠[]/\xs.length+J.length<=sizeLine/\
 (J=[]->Q (.ref a) H)/\(J≠[]->∀p,H p=none->Q (.ref p) (upd H p (.tup (xs++J))))
theorem bg.HZ{xs:bY}(r:bg xs O):O=[]↔xs=[]:=by
 cases r with
 |nil=>simp
 |cons _ _=>simp
theorem Xy:di X (binaryOp .Add) (Xx X.K):=by
 intro c s f H x y v u Q I d e h;obtain⟨a,b,xs,J,rfl,rfl,ha,hb,hx,hz,q1,q2⟩:=h;cases d;cases e;obtain⟨its,r1,p1,_⟩:=I.tuple ha;obtain⟨its2,r2,p2,_⟩:=I.tuple hb;refine HT.Xo p1 p2 (λz=>hx (r1.HZ.mp z)) (λz=>⟨.ref a,H,I,rfl,q1 (r2.HZ.mp z)⟩) (λz=>?_) (by rw[<- r1.length,<- r2.length];exact hz);refine⟨.ref s.heap.objs.size,_,I.laid (t':=s.toks) (o:=.tup (xs++J)) (λb g q=>Qc _ q) (Qz _) ?_,rfl,q2 (λw=>z (r2.HZ.mpr w)) _ (I.hok.fresh (Qz _))⟩;exact⟨⟨by rw[Qk];exact hz,B0.new rfl rfl⟩,_,r1.append r2,IsTup.new _ _⟩
end
def Bc(n:Nat)(i:Int):Option Nat:=if 0<=i then(if i<n then some i.toNat else none)else if -(n:Int)<=i then some (i+n).toNat else none
def qe{a:Type}(xs:List a)(i:Int):Option a:=(Bc xs.length i).bind λj=>xs[j]?
theorem qK{i:Int}(h:Bc n i=some j):seqIndex? i n=some j/\j<n/\ -(n:Int)<=i/\i<n:=by
 unfold Bc at h;by_cases h0:0<=i
 ·rw[if_pos h0]at h;by_cases Y:i<n
  ·rw[if_pos Y]at h;have e:i.toNat=j:=QE h;exact⟨by rw[seqIndex_of h0 Y,e],by lia,by lia,Y⟩
  ·rw[if_neg Y]at h;cases h
 ·rw[if_neg h0]at h;by_cases Y: -(n:Int)<=i
  ·rw[if_pos Y]at h;have e:(i+n).toNat=j:=QE h;exact⟨by rw[seqIndex_neg (by lia) Y,e],by lia,Y,by lia⟩
  ·rw[if_neg Y]at h;cases h
theorem rT{xs:List α}{i:Int}{v:α}(h:qe xs i=some v):∃j,seqIndex? i xs.length=some j/\xs[j]? =some v/\j<xs.length/\ -(xs.length:Int)<=i/\i<xs.length:=by
 unfold qe at h;cases e:Bc xs.length i with
 |none=>rw[e]at h;cases h
 |some j=>
  rw[e]at h;obtain⟨Y,h2,h3,h4⟩:=qK e;exact⟨j,Y,h,h2,h3,h4⟩
theorem dP{xs:List α}{v:α}(h:xs[j]? =some v):qe xs (j:Int)=some v:=by
 have a:j<xs.length:=(yE.mp h).1;have e:Bc xs.length (j:Int)=some j:=by
  unfold Bc;rw[if_pos (by lia),if_pos (by lia)];simp
 unfold qe;rw[e];exact h
def KH(b:Expr):Prop:=∀o i,subscripted b false o i=operate [o,i] (getItem o i)
def C7(X:Cx)(r:R2):Prop:=
 ∀(value a:Expr)(B:'e')(s:Shared)(Z:St)(H:Hp)(x y:V)(v u:Value)(Q:VK),Inv X B Z H s->RelV x v->RelV y u->r x y H Q->
  subscripted a false v u=operate [v,u] (getItem v u)->wpAny 'a' X.A (subscriptTail value a v u) (EP X B Z Q) X.xe s
def KJ(X:Cx)(id:String)(r:V->bY->Hp->VK->Prop):Prop:=
 ∀(B:'e')(s:Shared)(Z:St)(H:Hp)(x:V)(xs:bY)(v:Value)(O:cq)(Q:VK),Inv X B Z H s->RelV x v->bg xs O->r x xs H Q->
  wpAny 'a' X.A (call (.builtin id) (v::O)) (EP X B Z Q) X.xe s
section
variable{a b:Expr}{tb:TE}{pos:Pos}
theorem Xz{r:R2}(d:C7 X r)(e:PE X a ta)(f:PE X b tb)(hs:KH b):PE X (.Subscript a b pos) (jy r ta tb):=by
 intro c s g H Q I h;exact Subscript_ (KA e f I h λv u i x y j k l m q=>d a b c i g j x y v u Q k l m q (hs _ _))
def XA(K:Q0):R2:=λx y H Q=>∃p xs i v,x=.ref p/\y=.int i/\ai K H p xs/\qe xs i=some v/\Q v H
def XC(K:Q0):R2:=λx y H Q=>∃p xs i v,x=.ref p/\y=.int i/\ak K H p xs/\qe xs i=some v/\Q v H
def XD:R2:=λx y H Q=>∃z i c,x=.str z/\y=.int i/\z.length<=sizeLine/\qe z.cps.toList i=some c/\Q (.str ⟨#[c]⟩) H
theorem XE:C7 X (XA X.K):=by
 intro b c a s e H x y v u Q I g k h f;obtain⟨p,xs,i,z,rfl,rfl,hq,he,q⟩:=h;cases g;obtain⟨t,rfl⟩:=k;obtain⟨its,r,pl,hz⟩:=I.list hq;obtain⟨j,Y,h2,h3,h4,h5⟩:=rT he;obtain⟨w,ew,xy⟩:=r.get h2;have l:=r.length;have n:=El;have fin:EP X a e Q w s:=⟨z,H,I,xy,q⟩
 by_cases h0:0<=i
 ·have d:i.toNat=j:=by
   rw[seqIndex_of h0 h5]at Y;exact QE Y
  exact item_listR pl.isList h0 (by lia) (by rw[d];simpa using ew) fin f
 ·have d:(i+(its.toArray.size:Int)).toNat=j:=by
   rw[seqIndex_neg (by lia) h4]at Y;rw[wV,<- l];exact QE Y
  exact subscriptTail_builtinR (x:=w) pl.isList.typeIs slot_list_getitem.lookup
   (wpAny_getItem_list_neg (Q:=λr m=>r=w/\EP X a e Q r m) pl.isList (by lia) (by rw[wV]<;>lia) (by lia) (by rw[d];simpa using ew) ⟨rfl,fin⟩) f
theorem XF:C7 X (XC X.K):=by
 intro b c a s d H x y v u Q I e f h g;obtain⟨p,xs,i,z,rfl,rfl,hq,he,q⟩:=h;cases e;obtain⟨t,rfl⟩:=f;obtain⟨its,r,pl,hz⟩:=I.tuple hq;obtain⟨j,Y,h2,h3,h4,h5⟩:=rT he;obtain⟨w,ew,xy⟩:=r.get h2;have k:=r.length;have m:=El;have fin:EP X a d Q w s:=⟨z,H,I,xy,q⟩
 exact subscriptTail_builtinR (x:=w) pl.typeIs slot_tuple_getitem.lookup
  (getItem_tuple (j:=j) (Q:=λr l=>r=w/\EP X a d Q r l) pl (by lia) (by lia) (by rw[wV,<- k];exact Y) (by simpa using ew) ⟨rfl,fin⟩) g
theorem XG:C7 X XD:=by
 intro a b d s n H x y v u Q I e f h g;obtain⟨z,i,c,rfl,rfl,hz,he,q⟩:=h;obtain⟨t,rfl⟩:=e;obtain⟨t',rfl⟩:=f;obtain⟨j,Y,h2,h3,h4,h5⟩:=rT he;have k:z.cps.toList.length=z.length:=by simp[Str.length]
 rw[k]at Y h4 h5;have o:=El;exact tail_any (typeIs_str s z t) slot_str_getitem.lookup (getItem_str (c:=c) (by
  have l:decide (i< -(2^63:Int))=false:=Qx (by lia);have m:decide (i≥2^63)=false:=Qx (by lia);rw[l,m,Bool.or_false]) (by rw[Y];simpa using h2) ⟨.str ⟨#[c]⟩,H,I.tok _,⟨_,rfl⟩,q⟩) g
theorem wW(a:cq)(n j:Nat)(u:Value):Obj.mapSeq (·.setIfInBounds j u) {cls:=.type "list",data:=.seq a.toArray n}={cls:=.type "list",data:=.seq (a.set j u).toArray n}:=by
 simp[Obj.mapSeq]
theorem Inv.lst{B:'e'}{Z:St}{H:Hp}{s:Shared}{p:Addr}{xs:bY}(I:Inv X B Z H s)(h:H p=some (.lst xs)):
  ∃(a:cq)(n:Nat),bg xs a/\s.heap.get? p=some {cls:=.type "list",data:=.seq a.toArray n}/\xs.length<=sizeLine:=by
 obtain⟨z,a,n,r,e⟩:=I.hok p _ h;exact⟨a,n,r,e,z⟩
theorem Inv.XH{xs J:bY}{a its':cq}{c:Nat}{f:Obj->Obj}(I:Inv X B Z H s)(h:H p=some (.lst xs))
  (g:s.heap.get? p=some {cls:=.type "list",data:=.seq a.toArray n}) (d:f {cls:=.type "list",data:=.seq a.toArray n}={cls:=.type "list",data:=.seq its'.toArray c}) (r:bg J its') (hz:J.length<=sizeLine) (t:Nat):
  Inv X B Z (upd H p (.lst J)) {s with heap:=s.heap.update p f,toks:=t}:=by
 have e:(s.heap.update p f).get? p=some {cls:=.type "list",data:=.seq its'.toArray c}:=by
  rw[ll f g (by rw[d]<;>rfl),d]
 refine I.write (x:=p) (e:=p) (by rw[h];trivial) (.inl rfl) (λb u i q=>(og _ _ (Ne.symm i)).trans q) ⟨_,e⟩ ?_;exact⟨hz,its',c,r,e⟩
def XI:V->V->V->Hp->(Hp->Prop)->Prop:=λo i v H Q=>∃p xs k j,o=.ref p/\i=.int k/\H p=some (.lst xs)/\Bc xs.length k=some j/\Q (upd H p (.lst (xs.set j v)))
theorem oQ:Kv X XI:=by
 intro a s e H o i v m w u Q I f g l h;obtain⟨p,xs,k,j,rfl,rfl,hp,hj,q⟩:=h;cases f;obtain⟨t,rfl⟩:=g;obtain⟨its,n,r,ho,hz⟩:=I.lst hp;obtain⟨Y,h2,h3,h4⟩:=qK hj;have b:=r.length;have x:=El;have d:Inv X a e (upd H p (.lst (xs.set j v))) {s with heap:=s.heap.update p (Obj.mapSeq (·.setIfInBounds j u))}:=
  I.XH hp ho (wW its n j u) (r.set l j) (by rw[lv];exact hz) s.toks
 by_cases h0:0<=k
 ·have c:k.toNat=j:=by
   rw[seqIndex_of h0 h4]at Y;exact QE Y
  exact PySem.W.ki_setAt ho h0 (by lia) (by rw[wV,<- b];exact h4) (by rw[c];exact⟨_,d,q⟩)
 ·have c:(k+(its.toArray.size:Int)).toNat=j:=by
   rw[seqIndex_neg (by lia) h3]at Y;rw[wV,<- b];exact QE Y
  exact PySem.W.ki_setBack ho (by lia) (by rw[wV,<- b];exact h3) (by lia) (by rw[c];exact⟨_,d,q⟩)
theorem qY(lo a:Option Int)(n:Nat):(sliceBounds lo a none n).1=((HT.cu n 0 lo:Nat):Int)/\(sliceBounds lo a none n).2.1=((HT.cu n n a:Nat):Int)/\(sliceBounds lo a none n).2.2=1:=by
 refine⟨?_,?_,rfl⟩
 ·cases lo with
  |none=>simp[sliceBounds,HT.cu]
  |some i=>
   simp only[sliceBounds,HT.cu,Option.getD_none,show(1:Int) > 0 by decide,if_true];by_cases h:i<0
   ·simp only[h,if_true]<;>lia
   ·simp only[h,if_false]<;>lia
 ·cases a with
  |none=>simp[sliceBounds,HT.cu]
  |some i=>
   simp only[sliceBounds,HT.cu,Option.getD_none,show(1:Int) > 0 by decide,if_true];by_cases h:i<0
   ·simp only[h,if_true]<;>lia
   ·simp only[h,if_false]<;>lia
theorem oW(a:cq)(lo b:Option Int):slicePick a.toArray lo b none=((a.drop (HT.cu a.length 0 lo)).take (HT.cu a.length a.length b-HT.cu a.length 0 lo)).toArray:=by
 obtain⟨Y,h2,h3⟩:=qY lo b a.toArray.size;unfold slicePick;rw[Y,h2,h3];simp only[sliceRange_one,pick_run,wV]<;>rfl
def Ca(K:Q0):V->Option Int->Option Int->Hp->VK->Prop:=λx lo hi H Q=>∃a xs,x=.ref a/\ai K H a xs/\∀p,H p=none->Q (.ref p) (upd H p (.lst (qd xs lo hi)))
theorem XJ:z_ X (Ca X.K):=by
 intro e s l H x v vl m c d n Q I f g i j h;obtain⟨a,xs,rfl,hx,q⟩:=h;cases f;obtain⟨its,r,ht,hz⟩:=I.list hx;have k:=r.length;refine⟨"list",_,slot_list_getitem.lookup,ht.isList.typeIs,?_⟩;refine wpAny_getItem_list_slice ht.isList g i j .none (by simp) ?_ (by rw[wV]<;>lia);rw[oW,<- k];refine⟨.ref s.heap.objs.size,_,I.laid (t':=s.toks) (o:=.lst (qd xs c d)) (λb p q=>Qc _ q) (Qz _) ?_,rfl,q _ (I.hok.fresh (Qz _))⟩;exact⟨jU (lS xs c d) hz,_,0,(r.drop (HT.cu xs.length 0 c)).take (HT.cu xs.length xs.length d-HT.cu xs.length 0 c),Qd _ rfl⟩
def AM:V->Bool
 | .ao=>true
 | .bl _=>true
 | .int _=>true
 | .str _=>true
 |_=>false
def Cb:V->V->Bool
 | .ao,.ao=>true
 | .bl a,.bl b=>a==b
 | .bl a,.int b=>(if a then 1 else 0)==b
 | .int a,.bl b=>a==(if b then 1 else 0)
 | .int a,.int b=>a==b
 | .str a,.str b=>a==b
 |_,_=>false
theorem XM{y x:V}{v:Value}(d:RelV y u)(c:RelV x v)(f:AM y=true)(e:AM x=true):SeqAt.EqAt A s u v (Cb y x):=by
 cases y with
 |ao=>
  cases d;cases x with
  |ao=>cases c;exact nq _
  |bl b=>cases c;exact SeqAt.EqAt.none_bool b
  |int b=>obtain⟨t,rfl⟩:=c;exact SeqAt.EqAt.none_int b t
  |str b=>obtain⟨t,rfl⟩:=c;exact SeqAt.EqAt.none_str b t
  |_=>exact absurd (show false=true from e) vU
 |bl a=>
  cases d;cases x with
  |ao=>cases c;exact SeqAt.EqAt.bool_none a
  |bl b=>cases c;exact SeqAt.EqAt.bool_bool a b
  |int b=>obtain⟨t,rfl⟩:=c;exact SeqAt.EqAt.bool_int a b t
  |str b=>obtain⟨t,rfl⟩:=c;exact SeqAt.EqAt.bool_str a b t
  |_=>exact absurd (show false=true from e) vU
 |int a=>
  obtain⟨t',rfl⟩:=d;cases x with
  |ao=>cases c;exact SeqAt.EqAt.int_none a t'
  |bl b=>cases c;exact SeqAt.EqAt.int_bool a t' b
  |int b=>obtain⟨t,rfl⟩:=c;exact SeqAt.EqAt.int_int a t' b t
  |str b=>obtain⟨t,rfl⟩:=c;exact SeqAt.EqAt.int_str a t' b t
  |_=>exact absurd (show false=true from e) vU
 |str a=>
  obtain⟨t',rfl⟩:=d;cases x with
  |ao=>cases c;exact SeqAt.EqAt.str_none a t'
  |bl b=>cases c;exact SeqAt.EqAt.str_bool a t' b
  |int b=>obtain⟨t,rfl⟩:=c;exact SeqAt.EqAt.str_int a t' b t
  |str b=>obtain⟨t,rfl⟩:=c;exact mD a t' b t
  |_=>exact absurd (show false=true from e) vU
 |_=>exact absurd (show false=true from f) vU
def Bd(x:V)(u:Value):Bool:=match u with
 | .none=>Cb .ao x
 | .bool b=>Cb (.bl b) x
 | .int i _=>Cb (.int i) x
 | .str z _=>Cb (.str z) x
 |_=>false
theorem Pa{x y:V}(r:RelV y u)(f:AM y=true):Bd x u=Cb y x:=by
 cases y with
 |ao=>cases r;rfl
 |bl b=>cases r;rfl
 |int i=>obtain⟨t,rfl⟩:=r;rfl
 |str z=>obtain⟨t,rfl⟩:=r;rfl
 |_=>exact absurd (show false=true from f) vU
theorem rH{x:V}:∀{xs:bY}{O:cq},bg xs O->xs.all AM=true->O.any (Bd x)=xs.any λy=>Cb y x
 |_,_,.nil,_=>rfl
 |y::xs,u::O,.cons r t,f=>by
  rw[List.all_cons,im]at f;rw[List.any_cons,List.any_cons,Pa r f.1,rH t f.2]
theorem o9{A:Around}{s:Shared}{x:V}{v:Value}(a:RelV x v)(b:AM x=true):∀{xs:bY}{O:cq},bg xs O->xs.all AM=true->∀u∈O,SeqAt.EqAt A s u v (Bd x u)
 |_,_,.nil,_=>λu hu=>by cases hu
 |y::xs,u::O,.cons r t,f=>λc hu=>by
  rw[List.all_cons,im]at f;rcases Qp.mp hu with rfl|hu
  ·rw[Pa r f.1];exact XM r a f.1 b
  ·exact o9 a b t f.2 c hu
def Be(x:V)(xs:bY):Bool:=xs.any λy=>Cb y x
def XN(K:Q0)(a:Bool):R2:=λx y H Q=>∃p xs,y=.ref p/\(ai K H p xs\/ak K H p xs)/\AM x=true/\xs.all AM=true/\Q (.bl (if a then !Be x xs else Be x xs)) H
theorem yM:di X (compareOp .In) (XN X.K false):=by
 intro b s e H x y v u Q I c d h;obtain⟨p,xs,rfl,hq,fx,fs,q⟩:=h;cases d;rcases hq with hq|hq
 ·obtain⟨its,r,pl,hz⟩:=I.list hq;refine SeqAt.in_listAt (Bd x) pl.isList (λw a=>o9 c fx r fs w (by simpa using a)) ⟨.bl _,H,I,rfl,?_⟩;rw[show its.toArray.any (Bd x)=its.any (Bd x)by simp,rH r fs];exact q
 ·obtain⟨its,r,pl,hz⟩:=I.tuple hq;refine SeqAt.in_tupleAt (Bd x) pl (λw a=>o9 c fx r fs w (by simpa using a)) ⟨.bl _,H,I,rfl,?_⟩;rw[show its.toArray.any (Bd x)=its.any (Bd x)by simp,rH r fs];exact q
theorem rV:n_ X (.type "list") (λxs H Q=>∃p J,xs=[.ref p]/\(ai X.K H p J\/ak X.K H p J)/\∀l,H l=none->Q (.ref l) (upd H l (.lst J))):=by
 intro g s m H xs x Q I r h;obtain⟨p,J,rfl,hq,q⟩:=h;obtain⟨u,rfl,rx⟩:=vals1 r;cases rx;have fin:∀(a:cq),bg J a->J.length<=sizeLine->∀(c:Heap)(d:Nat),(∀b k,s.heap.get? b=some k->c.get? b=some k)->
   c.get? s.heap.objs.size=some {cls:=.type "list",dict:=none,data:=.seq a.toArray d,slots:=#[]}->EP X g m Q (.ref s.heap.objs.size) {s with heap:=c}:=λa f i c d j e=>
  ⟨.ref s.heap.objs.size,_,I.laid (t':=s.toks) j (Qz _) (show br X.prog X.w _ c _ (.lst J)from⟨i,a,d,f,e⟩),rfl,q _ (I.hok.fresh (Qz _))⟩
 rcases hq with hq|hq
 ·obtain⟨a,f,pl,i⟩:=I.list hq;have t:=f.length;obtain⟨o,ho,hc,n,hd⟩:=pl.isList;exact call_list_seq p (.inl rfl) ho hc hd (λc d j e=>fin a f i c d j e) (by simp only[wV]<;>lia)
 ·obtain⟨a,f,pl,i⟩:=I.tuple hq;have t:=f.length;obtain⟨o,ho,hc,n,hd⟩:=pl;exact call_list_seq p (.inr rfl) ho hc hd (λc d j e=>fin a f i c d j e) (by simp only[wV]<;>lia)
theorem oU:n_ X (.type "tuple") (λxs H Q=>∃p J,xs=[.ref p]/\((ai X.K H p J/\∀l,H l=none->Q (.ref l) (upd H l (.tup J)))\/(ak X.K H p J/\Q (.ref p) H))):=by
 intro a s f H xs k Q I r h;obtain⟨p,J,rfl,h⟩:=h;obtain⟨u,rfl,rx⟩:=vals1 r;cases rx;rcases h with⟨d,q⟩|⟨d,q⟩
 ·obtain⟨its,r',pl,hz⟩:=I.list d;have m:=r'.length;refine call_tuple_list pl.isList (λc i=>?_) (by simp only[wV]<;>lia);have g:Inv X a f H {s with heap:=c}:=I.kept (t':=s.toks) i;have j:Inv X a f (upd H c.objs.size (.tup J)) {s with heap:=c.push {cls:=.type "tuple",data:=.seq its.toArray}}:=
   g.laid (t':=s.toks) (λb o e=>Qc _ e) (Qz _) (show br X.prog X.w _ _ _ (.tup J)from⟨⟨hz,B0.new rfl rfl⟩,its,r',IsTup.new _ _⟩)
  exact⟨.ref c.objs.size,_,j,rfl,q _ (g.hok.fresh (Qz _))⟩
 ·obtain⟨its,r',pl,hz⟩:=I.tuple d;exact call_tuple_same pl ⟨.ref p,H,I,rfl,q⟩
def KL(K:Q0)(T:String)(x:V)(H:Hp):Prop:=match x with
 | .str _=>T="str"
 | .int _=>T="int"
 | .ref p=>(T="list"/\∃xs,ai K H p xs)\/(T="tuple"/\∃o,K.lookup p=some o/\o.cls=.type "tuple"/\o.dict=none)\/
   (T="dict"/\((∃kvs,H p=some (.dK kvs))\/∃kvs,H p=some (.dT kvs)))\/(T="set"/\∃S n,H p=some (.set S n))
 |_=>False
theorem Pb{x:V}{v:Value}(I:Inv X B Z H s)(r:RelV x v)(ty:KL X.K T x H):
  s.TypeIs v T/\∀a,v=.ref a->∃ob,s.heap.get? a=some ob/\ob.dict=none:=by
 cases x with
 |str z=>
  obtain⟨t,rfl⟩:=r;cases(show T="str" from ty);exact⟨typeIs_str s z t,λ_ e=>nomatch e⟩
 |int i=>
  obtain⟨t,rfl⟩:=r;cases(show T="int" from ty);exact⟨typeIs_int s i t,λ_ e=>nomatch e⟩
 |ref p=>
  cases r;rcases ty with⟨rfl,k,h⟩|⟨rfl,o,b,j,d⟩|⟨rfl,b⟩|⟨rfl,S,n,b⟩
  ·obtain⟨its,_,pl,_⟩:=I.list h;refine⟨pl.isList.typeIs,λa e=>?_⟩;cases e;obtain⟨o,n,e,c,d,_⟩:=pl;exact⟨o,e,d⟩
  ·refine⟨⟨o,I.ji p o b,j⟩,λa e=>?_⟩;cases e;exact⟨o,I.ji _ o b,d⟩
  ·have z:∃o,s.heap.get? p=some o/\o.ExactDict:=by
    rcases b with⟨f,b⟩|⟨f,b⟩
    ·obtain⟨_,_,_,_,o,_,_,e,ex,_⟩:=I.hok p _ b;exact⟨o,e,ex⟩
    ·obtain⟨_,_,_,_,o,_,_,e,ex,_⟩:=I.hok p _ b;exact⟨o,e,ex⟩
   obtain⟨o,e,ex⟩:=z;refine⟨⟨o,e,ex.1⟩,λa g=>?_⟩;cases g;exact⟨o,e,ex.2.1⟩
  ·obtain⟨o,_,_,_,e,ex,_⟩:=I.hok p _ b;refine⟨⟨o,e,ex.1⟩,λa g=>?_⟩;cases g;exact⟨o,e,ex.2.1⟩
 |_=>exact False.elim ty
def Pc(K:Q0)(T:String)(r:V->bY->Hp->VK->Prop)(a:TE):TE:=λZ H Q=>a Z H λx H1=>KL K T x H1/\r x [] H1 Q
def H_(K:Q0)(T:String)(r:V->bY->Hp->VK->Prop)(a:TE)(t:TA):TE:=λZ H Q=>a Z H λx H1=>KL K T x H1/\t Z H1 λxs H2=>r x xs H2 Q
variable{o:Expr}{t:TA}{id:String}{r:V->bY->Hp->VK->Prop}
theorem XO(e:PlainAttrs T)(slot:Slot T name id)(f:typeOf (.builtin id)=pure (.type "method_descriptor"))(g:KJ X id r)(i:PE X o to)
  (j:attributeBase o name X.env (eval o X.env)=eval o X.env:=by rfl) (k:(apos.endLine==cpos.line)=true:=by rfl):PE X (.Call (.Attribute o name apos) [] [] cpos) (Pc X.K T r to):=by
 intro a s b H Q I h;refine wpAny_Call_method0_late j k (ay (i a s b H _ I h) ?_);rintro v l ⟨x,m,c,d,n,p⟩;obtain⟨Y,h2⟩:=Pb c d n;exact⟨T,id,e,slot,f,Y,h2,Calls.callWith_builtin rfl (ng (g a l b m x [] v [] Q c d .nil p))⟩
theorem XQ (g:PlainAttrs T) (slot:Slot T name id) (i:typeOf (.builtin id)=pure (.type "method_descriptor")) (j:KJ X id r) (k:PE X o to) (l:PA X (e::es) t)
  (m:attributeBase o name X.env (eval o X.env)=eval o X.env:=by rfl)
  (n:((backTo cpos (starEach (e::es) X.env)).all (λx=> !x.1)&&(backToKw cpos (keywordEach [] X.env)).all (λx=>x.1.isSome)
   &&decide ((e::es).length+([]:List Keyword).length+(if ([]:List Keyword).isEmpty then 0 else 1) < 30))=true:=by rfl)
  (p:(apos.endLine==cpos.line)=true:=by rfl) (hs:eH X e es:=by rfl) (q:eJ X cpos es:=by rfl):
  PE X (.Call (.Attribute o name apos) (e::es) [] cpos) (H_ X.K T r to t):=by
 intro a s b H Q I h
 refine wpAny_Call_method_late m n p rfl (ay (k a s b H _ I h) ?_)
 rintro v u ⟨x,w,c,d,y,z⟩
 obtain ⟨A,C⟩:=Pb c d y
 refine ⟨T,id,g,slot,i,A,C,?_⟩
 have f:=l cpos a u b w _ c z
 rw [hs] at f ⊢
 refine Calls.callWith_builtin (by show (false||(backTo cpos (starEach es X.env)).any (·.1))=false;rw [q]<;>rfl) (Calls.evalArgs_plain ?_)
 exact ay f λD E ⟨G,L,N,P,R⟩=>j a E b L x G v D Q N d P R
/- xs.append(e),list.index on a agP tuple .. are KJ facts of 06m -/
end
def Es(X:Cx)(id:String)(r:V->bY->Hp->VK->Prop):Prop:=
 ∀(B:'e')(s:Shared)(Z:St)(H:Hp)(x:V)(xs:bY)(v:Value)(O:cq)(Q:VK),Inv X B Z H s->RelV x v->bg xs O->r x xs H Q->
  wpAny 'a' X.A (call (.builtin id) (v::O)) (EP X B Z Q) X.xe s
theorem bg.one{x:V}{O:cq}(h:bg [x] O):∃u,O=[u]/\RelV x u:=by
 cases h with
 |cons r t=>
  cases t;exact⟨_,rfl,r⟩
theorem bg.two{x y:V}(h:bg [x,y] O):∃u v,O=[u,v]/\RelV x u/\RelV y v:=by
 cases h with
 |cons r t=>
  cases t with
  |cons q t=>
   cases t;exact⟨_,_,rfl,r,q⟩
theorem bg.zero:∀{O:cq},bg [] O->O=[]
 |_,.nil=>rfl
theorem bg.dropLast{xs:bY}{O:cq}(h:bg xs O):bg xs.dropLast O.dropLast:=by
 induction h with
 |nil=>exact .nil
 |cons r t ih=>
  cases t with
  |nil=>exact .nil
  |cons q t'=>exact .cons r ih
theorem bg.eraseIdx:∀{xs:bY}{O:cq}(i:Nat),bg xs O->bg (xs.eraseIdx i) (O.eraseIdx i)
 |_,_,_,.nil=>.nil
 |_,_,0,.cons _ t=>t
 |_,_,i+1,.cons r t=>.cons r (bg.eraseIdx i t)
theorem wS(l:List α):l.eraseIdx (l.length-1)=l.dropLast:=by
 induction l with
 |nil=>rfl
 |cons a r ih=>
  cases r with
  |nil=>rfl
  |cons b r=>
   have e:(a::b::r).length-1=((b::r).length-1)+1:=by
    have c:(a::b::r).length=r.length+2:=rfl;have d:(b::r).length=r.length+1:=rfl
    lia
   rw[e,List.eraseIdx_cons_succ,ih]
   all_goals rfl
theorem pB{a:Type}:∀(l:List a)(i:Nat),(l.eraseIdx i).length<=l.length
 | [],_=>Qz _
 |_::_,0=>lb _
 |_::r,i+1=>Nat.succ_le_succ (pB r i)
section
variable{xs J zs:bY}
theorem Inv.KN{a its':cq}{f:Array Value->Array Value}(I:Inv X B Z H s)(b:H l=some (.lst xs))
  (e:s.heap.get? l=some {cls:=.type "list",data:=.seq a.toArray n}) (c:f a.toArray=its'.toArray) (hv:bg J its') (hz:J.length<=sizeLine):
  Inv X B Z (upd H l (.lst J)) {s with heap:=s.heap.update l (Obj.mapSeq f),toks:=t'}:=by
 have q:=PySem.IsL.update e f;rw[c]at q;refine I.write (x:=l) (e:=l) (by rw[b];exact trivial) (.inl rfl) (λh u d g=>(og s.heap (Obj.mapSeq f) (Ne.symm d)).trans g) ⟨_,q⟩ ?_;exact⟨hz,its',_,hv,q⟩
theorem Inv.XR{a:cq}(I:Inv X B Z H s)(hv:bg J a)(hz:J.length<=sizeLine):
  Inv X B Z (upd H s.heap.objs.size (.lst J)) {s with heap:=s.heap.push {cls:=.type "list",data:=.seq a.toArray},toks:=t'}:=
 I.laid (λ_ _ q=>Qc _ q) (Qz _) ⟨hz,a,0,hv,Qd _ rfl⟩
theorem Inv.fresh(I:Inv X B Z H s):H s.heap.objs.size=none:=I.hok.fresh (Qz _)
theorem Inv.F4(I:Inv X B Z H s)(b:H l=some (.lst xs)):xs.length<=sizeLine/\∃(a:cq)(n:Nat),bg xs a/\xs.length=a.length/\s.heap.get? l=some {cls:=.type "list",data:=.seq a.toArray n}:=by
 obtain⟨z,a,n,r,e⟩:=I.hok l _ b;exact⟨z,a,n,r,r.length,e⟩
end
def Pd:V->bY->Hp->VK->Prop:=λx vs H Q=>∃l xs y,x=.ref l/\vs=[y]/\H l=some (.lst xs)/\xs.length<sizeLine/\Q .ao (upd H l (.lst (xs++[y])))
theorem bF:Es X "list.append" Pd:=by
 intro a s d H x f v g Q I b c h;obtain⟨l,xs,y,rfl,rfl,hH,hz,q⟩:=h;cases b;obtain⟨u,rfl,ru⟩:=c.one;obtain⟨z,its,n,r,hl,e⟩:=I.F4 hH;refine call_meets F.slot_list_append ⟨_,e,rfl⟩ F.entry_list_append (F.args_list_append_2 _ _) (PySem.list_append l its.toArray n u (by rw[wV];lia)) ⟨e,?_⟩;refine⟨.ao,_,I.KN (its':=its++[u]) hH e (by simp) (r.append (.cons ru .nil)) ?_,rfl,q⟩;rw[Qk,kb]
 lia
def XS:V->bY->Hp->VK->Prop:=λx vs H Q=>∃l xs y,x=.ref l/\vs=[]/\H l=some (.lst xs)/\xs[xs.length-1]? =some y/\Q y (upd H l (.lst xs.dropLast))
theorem XT:Es X "list.pop" XS:=by
 intro a s g H x i v j Q I b c h;obtain⟨l,xs,y,rfl,rfl,hH,hy,q⟩:=h;cases b;have d:=c.zero;subst d;obtain⟨z,its,n,r,hl,e⟩:=I.F4 hH;obtain⟨u,hu,ru⟩:=r.get hy;have f:its.toArray[its.toArray.size-1]? =some u:=by
  show its.toArray[its.length-1]? =some u;rw[<- md,<- hl];exact hu
 refine call_meets F.slot_list_pop ⟨_,e,rfl⟩ F.entry_list_pop (F.args_list_pop_1 _) (MeetsSeq.list_pop_last l its.toArray n u f (by rw[wV];lia)) ⟨e,?_⟩;refine⟨y,_,I.KN (its':=its.dropLast) hH e ?_ r.dropLast ?_,ru,q⟩
 ·show its.toArray.eraseIdxIfInBounds (its.toArray.size-1)=its.dropLast.toArray;rw[wV,List.eraseIdxIfInBounds_toArray,wS]
 ·rw[List.length_dropLast]
  lia
def XW:V->bY->Hp->VK->Prop:=λx vs H Q=>∃l xs i k y,x=.ref l/\vs=[.int i]/\H l=some (.lst xs)/\ -(2^63)<=i/\i<2^63/\seqIndex? i xs.length=some k/\xs[k]? =some y/\Q y (upd H l (.lst (xs.eraseIdx k)))
theorem XX:Es X "list.pop" XW:=by
 intro a s d H x f v g Q I b c h;obtain⟨l,xs,i,k,y,rfl,rfl,hH,Y,h2,hk,hy,q⟩:=h;cases b;obtain⟨u,rfl,ru⟩:=c.one;obtain⟨t,rfl⟩:=ru;obtain⟨z,its,n,r,hl,e⟩:=I.F4 hH;obtain⟨w,hw,xy⟩:=r.get hy;refine call_meets F.slot_list_pop ⟨_,e,rfl⟩ F.entry_list_pop (F.args_list_pop_2 _ _)
  (MeetsSeq.list_pop_at l its.toArray n i t k w (fitsIndex_both Y h2) (by rw[wV,<- hl];exact hk) (by rw[<- md];exact hw) (by rw[wV];lia)) ⟨e,?_⟩
 refine⟨y,_,I.KN (its':=its.eraseIdx k) hH e ?_ (r.eraseIdx k) ?_,xy,q⟩
 ·show its.toArray.eraseIdxIfInBounds k=(its.eraseIdx k).toArray;rw[List.eraseIdxIfInBounds_toArray]
 ·have:=pB xs k
  lia
def XY:R2:=λx y H Q=>∃l b xs zs,x=.ref l/\y=.ref b/\H l=some (.lst xs)/\H b=some (.lst zs)/\xs.length+zs.length<=sizeLine/\∀p,H p=none->Q (.ref p) (upd H p (.lst (xs++zs)))
theorem XZ:di X (binaryOp .Add) XY:=by
 intro a s g H x y v u Q I c d h;obtain⟨l,b,xs,zs,rfl,rfl,hH,hB,hz,q⟩:=h;cases c;cases d;obtain⟨z,its,n,r,hl,e⟩:=I.F4 hH;obtain⟨z2,its2,n2,r2,Bg,e2⟩:=I.F4 hB;refine PySem.P.add_list e e2 ?_ (by rw[wV,wV];lia);have f:its.toArray++its2.toArray=(its++its2).toArray:=by simp
 rw[f];exact⟨.ref _,_,I.XR (t':=s.toks) (r.append r2) (by rw[Qk];lia),rfl,q _ I.fresh⟩
section
variable[DecidableEq κ]
def a_(kvs:List (κ×V))(k:κ):cp:=(kvs.find? λa=>decide (a.1=k)).map (·.2)
def ci(kvs:List (κ×V))(k:κ)(v:V):List (κ×V):=
 if(kvs.any λa=>decide (a.1=k))=true then kvs.map (λa=>if a.1=k then(a.1,v)else a)else kvs++[(k,v)]
def vh(kvs:List (κ×V))(k:κ):List (κ×V):=kvs.filter λa=>decide (a.1≠k)
theorem cH{p:κ×V}{r:List (κ×V)}{k:κ}(e:p.1=k):a_ (p::r) k=some p.2:=by simp[a_,gV,e]
theorem cK{p:κ×V}{r:List (κ×V)}{k:κ}(e:¬p.1=k):a_ (p::r) k=a_ r k:=by simp[a_,gV,e]
theorem cQ(k:κ):∀kvs:List (κ×V),(kvs.any λkv=>decide (kv.1=k))=(a_ kvs k).isSome
 | []=>rfl
 |p::r=>by
  rw[List.any_cons];by_cases e:p.1=k
  ·simp only[cH e,Qw e,Bool.true_or,Option.isSome_some]
  ·rw[cK e,Qx e,Bool.false_or];exact cQ k r
theorem sJ(k j:κ)(y:V):∀kvs:List (κ×V),a_ (kvs.map λkv=>if kv.1=k then(kv.1,y)else kv) j=(a_ kvs j).map λx=>if j=k then y else x
 | []=>rfl
 |p::r=>by
  have ih:=sJ k j y r;rw[yV];by_cases h:p.1=k
  ·rw[if_pos h];by_cases e:p.1=j
   ·rw[cH (p:=(p.1,y)) e,cH e,ln,if_pos (e.symm.trans h)]
   ·rw[cK (p:=(p.1,y)) e,cK e,ih]
  ·rw[if_neg h];by_cases e:p.1=j
   ·rw[cH (p:=p) e,cH e,ln,if_neg (λz=>h (e.trans z))]
   ·rw[cK (p:=p) e,cK e,ih]
theorem kM(k j:κ)(y:V):∀kvs:List (κ×V),a_ kvs k=none->a_ (kvs++[(k,y)]) j=if j=k then some y else a_ kvs j
 | [],_=>by
  by_cases e:k=j
  ·rw[if_pos e.symm];exact cH (p:=(k,y)) e
  ·rw[if_neg (λz=>e z.symm)];exact cK (p:=(k,y)) e
 |p::r,hn=>by
  rw[hE];have a:¬p.1=k:=λz=>by rw[cH z]at hn;cases hn
  rw[cK a]at hn;have ih:=kM k j y r hn;by_cases e:p.1=j
  ·rw[cH e,cH e,if_neg (λz=>a (e.trans z))]
  ·rw[cK e,cK e,ih]
theorem mS(kvs:List (κ×V))(k j:κ)(y:V):a_ (ci kvs k y) j=if j=k then some y else a_ kvs j:=by
 unfold ci;by_cases a:(kvs.any λb=>decide (b.1=k))=true
 ·rw[if_pos a,sJ];rw[cQ]at a;by_cases e:j=k
  ·obtain⟨x,hx⟩:=Option.isSome_iff_exists.mp a;rw[if_pos e,e,hx,ln,if_pos rfl]
  ·rw[if_neg e];cases a_ kvs j with
   |none=>rfl
   |some x=>rw[ln,if_neg e]
 ·rw[if_neg a];refine kM k j y kvs ?_;rw[cQ]at a;cases q:a_ kvs k with
  |none=>rfl
  |some x=>rw[q]at a;exact(a rfl).elim
theorem bU(kvs:List (κ×V))(k:κ)(v:V):(ci kvs k v).length<=kvs.length+1:=by
 unfold ci;split
 ·rw[Ql];lia
 ·rw[Qk,dV,nS];lia
theorem cA{kvs:List (κ×V)}{k:κ}(v:V)(h:a_ kvs k=none):ci kvs k v=kvs++[(k,v)]:=by
 unfold ci;rw[cQ,h];exact if_neg (by decide)
theorem pq.C8{o:cp}{u:cv}(r:pq o u):o.isSome=u.isSome:=by
 cases o with
 |none=>cases u with
  |none=>rfl
  |some _=>exact(show False from r).elim
 |some _=>cases u with
  |none=>exact(show False from r).elim
  |some _=>rfl
theorem pq.getD{o:cp}{u:cv}{d:V}{d':Value}(r:pq o u)(a:RelV d d'):RelV (o.getD d) (u.getD d'):=by
 cases o with
 |none=>cases u with
  |none=>exact a
  |some _=>exact(show False from r).elim
 |some _=>cases u with
  |none=>exact(show False from r).elim
  |some _=>exact r
theorem KV.val{kvs:List (κ×V)}{vs:List (κ×Value)}(r:KV kvs vs)(k:κ):pq (a_ kvs k) (valueAt vs k):=by
 unfold KV at r
 induction r with
 |nil=>exact True.intro
 | @cons p q ps qs h t ih=>
  obtain⟨Y,h2⟩:=h;by_cases e:p.1=k
  ·have a:q.1=k:=Y.symm.trans e;have b:valueAt (q::qs) k=some q.2:=by simp[valueAt,gV,a]
   rw[cH e,b];exact h2
  ·have a:¬q.1=k:=λz=>e (Y.trans z);have b:valueAt (q::qs) k=valueAt qs k:=by simp[valueAt,gV,a]
   rw[cK e,b];exact ih
theorem KV.any{kvs:List (κ×V)}{vs:List (κ×Value)}(r:KV kvs vs)(k:κ):(kvs.any λkv=>decide (kv.1=k))=vs.any λkv=>decide (kv.1=k):=by
 unfold KV at r
 induction r with
 |nil=>rfl
 |cons h t ih=>rw[List.any_cons,List.any_cons,ih,h.1]
theorem KV.repl{kvs:List (κ×V)}{vs:List (κ×Value)}(r:KV kvs vs)(k:κ){y:V}(a:RelV y u):
  KV (kvs.map λkv=>if kv.1=k then(kv.1,y)else kv) (vs.map λkv=>if kv.1=k then(kv.1,u)else kv):=by
 unfold KV at r⊢
 induction r with
 |nil=>exact .nil
 | @cons p q ps qs h t ih=>
  rw[yV,yV];refine .cons ?_ ih;obtain⟨Y,h2⟩:=h;by_cases e:p.1=k
  ·rw[if_pos e,if_pos (Y.symm.trans e)];exact⟨Y,a⟩
  ·rw[if_neg e,if_neg (λz=>e (Y.trans z))];exact⟨Y,h2⟩
theorem KV.put{kvs:List (κ×V)}{vs:List (κ×Value)}(r:KV kvs vs)(k:κ){y:V}(a:RelV y u):KV (ci kvs k y) (stored vs k u):=by
 unfold ci stored;rw[r.any k];by_cases e:(vs.any λb=>decide (b.1=k))=true
 ·rw[if_pos e,if_pos e];exact r.repl k a
 ·rw[if_neg e,if_neg e];exact Paired.snoc r ⟨rfl,a⟩
theorem KV.drop{kvs:List (κ×V)}{vs:List (κ×Value)}(r:KV kvs vs)(k:κ):KV (vh kvs k) (without vs k):=by
 unfold KV at r⊢;unfold vh without
 induction r with
 |nil=>exact .nil
 | @cons p q ps qs h t ih=>
  obtain⟨Y,h2⟩:=h;rw[pi,pi];by_cases e:p.1=k
  ·have a:¬decide (p.1≠k)=true:=by simp[e]
   have b:¬decide (q.1≠k)=true:=by simp[Y.symm.trans e]
   rw[if_neg a,if_neg b];exact ih
  ·have c:¬q.1=k:=λz=>e (Y.trans z);have a:decide (p.1≠k)=true:=by simp[e]
   have b:decide (q.1≠k)=true:=by simp[c]
   rw[if_pos a,if_pos b];exact .cons ⟨Y,h2⟩ ih
theorem KV.length{kvs:List (κ×V)}{vs:List (κ×Value)}(r:KV kvs vs):kvs.length=vs.length:=Paired.length r
theorem X0(kvs:List (κ×V))(k:κ):(vh kvs k).length<=kvs.length:=mf _ _
end
theorem h9{k:Key}(r:RelV (kV k) u):(cz P w).is k u=true:=by
 cases k with
 |inl k=>cases k with
  |i i=>obtain⟨t,e⟩:=(show ∃t,u=Value.int i t from r);subst e;exact uA P w i t
  |no=>obtain rfl:u=Value.none:=r;rfl
 |inr x=>obtain⟨t,e⟩:=(show ∃t,u=Value.str x t from r);subst e;exact fN P w x t
theorem pS{P:Program}{w:World}:∀{ks:fe}{O:cq},bg (ks.map kV) O->ItemsAre (cz P w) ks O
 | [],_,r=>by rw[List.map_nil]at r;cases r;exact .nil
 |k::ks,_,r=>by
  rw[yV]at r;cases r with
  |cons h t=>exact .cons (h9 h) (pS t)
abbrev KT(H:Hp):de->List (fe×Addr×Value)->Prop:=Paired λp q=>p.1=q.1/\bj H q.2.1 (p.1.map kV)/\RelV p.2 q.2.2
theorem KT.val{kvs:de}(r:KT H kvs xs)(k:fe):pq (a_ kvs k) ((atKey xs k).map (·.2)):=by
 induction r with
 |nil=>exact True.intro
 | @cons p q ps qs h t ih=>
  obtain⟨Y,_,h2⟩:=h;by_cases e:p.1=k
  ·have a:q.1=k:=Y.symm.trans e;have b:atKey (q::qs) k=some q.2:=by simp[atKey,gV,a]
   rw[cH e,b];exact h2
  ·have a:¬q.1=k:=λz=>e (Y.trans z);have b:atKey (q::qs) k=atKey qs k:=by simp[atKey,gV,a]
   rw[cK e,b];exact ih
theorem KT.repl{kvs:de}(r:KT H kvs xs)(k:fe){y:V}(a:RelV y u):
  KT H (kvs.map λkv=>if kv.1=k then(kv.1,y)else kv) (xs.map (putAt k u)):=by
 induction r with
 |nil=>exact .nil
 | @cons p q ps qs h t ih=>
  rw[yV,yV];refine .cons ?_ ih;obtain⟨Y,h2,h3⟩:=h;unfold putAt;by_cases e:p.1=k
  ·rw[if_pos e,if_pos (Y.symm.trans e)];exact⟨Y,h2,a⟩
  ·rw[if_neg e,if_neg (λz=>e (Y.trans z))];exact⟨Y,h2,h3⟩
theorem KT.put{kvs:de}(r:KT H kvs xs)(k:fe){y:V}(c:bj H b (k.map kV))(a:RelV y u):
  KT H (ci kvs k y) (storedH xs k b u):=by
 have e:(kvs.any λd=>decide (d.1=k))=(atKey xs k).isSome:=by
  rw[cQ,(r.val k).C8,Option.isSome_map]
 unfold ci storedH;rw[e];by_cases q:(atKey xs k).isSome=true
 ·rw[if_pos q,if_pos q];exact r.repl k a
 ·rw[if_neg q,if_neg q];exact Paired.snoc r ⟨rfl,c,a⟩
theorem KT.keeps{kvs:de}(r:KT H kvs xs)(a:∀b J,bj H b J->bj U b J):KT U kvs xs:=
 Paired.Kl r λ_ _ z=>⟨z.1,a _ _ z.2.1,z.2.2⟩
theorem Pe{u:HO}(ok:fq P w H h)(e:Rd H a u):br P w H h a u:=e.ok ok
theorem lW{kvs:ca}(ok:fq P w H h)(e:Rd H a (.dK kvs)):kvs.length<=sizeLine/\(a==sysModules)=false/\∃vs,KV kvs vs/\h.DictOf (cz P w) a vs:=
 show br P w H h a (.dK kvs)from Pe ok e
theorem pE{kvs:ca}(ok:fq P w H h)(e:H a=some (.dK kvs)):kvs.length<=sizeLine/\(a==sysModules)=false/\∃vs,KV kvs vs/\h.DictOf (cz P w) a vs:=lW ok (.inl e)
theorem j9{ks:fe}(ok:fq P w H h)(e:bj H a (ks.map kV)):(tupleKind (cz P w)).is h ks a:=by
 have b:br P w H h a (.tup (ks.map kV)):=by
  rcases e with e|⟨_,e⟩
  ·exact ok a _ e
  ·exact(ok a _ e).2
 obtain⟨_,its,r,o,Y,h2,n,h3⟩:=b;exact⟨o,its.toArray,n,Y,h2,h3,by simpa using pS r⟩
theorem pV{kvs:de}(ok:fq P w H h)(e:Rd H a (.dT kvs)):kvs.length<=sizeLine/\(a==sysModules)=false/\
  ∃xs,KT H kvs xs/\h.DictOfH (tupleKind (cz P w)) a xs:=by
 obtain⟨z,y,xs,r,o,es,ep,Y,h2,h3,h4,h5⟩:=(show br P w H h a (.dT kvs)from Pe ok e)
 refine⟨z,y,xs,r,o,es,ep,Y,h2,h3,h4,λx hx=>?_,h5⟩;have all:∀{l:de}{m:List (fe×Addr×Value)},KT H l m->∀x∈m,(tupleKind (cz P w)).is h x.1 x.2.1:=by
  intro l m q
  induction q with
  |nil=>intro x hx;exact nomatch hx
  | @cons p q ps qs hq t ih=>
   intro x hx;rcases Qp.mp hx with e|hx
   ·subst e;exact j9 ok (by rw[<- hq.1];exact hq.2.1)
   ·exact ih x hx
 exact all r x hx
theorem KP{kvs:de}(ok:fq P w H h)(e:H a=some (.dT kvs)):kvs.length<=sizeLine/\(a==sysModules)=false/\
  ∃xs,KT H kvs xs/\h.DictOfH (tupleKind (cz P w)) a xs:=pV ok (.inl e)
def dz(H:Hp)(a:Addr)(y:V)(r:cp):Prop:=
 (∃kvs k,Rd H a (.dK kvs)/\y=kV k/\r=a_ kvs k)\/∃kvs k b,Rd H a (.dT kvs)/\y=.ref b/\bj H b (k.map kV)/\r=a_ kvs k
def yu(H:Hp)(a:Addr)(y v:V)(U:Hp):Prop:=
 (∃kvs k,H a=some (.dK kvs)/\y=kV k/\kvs.length<sizeLine/\U=upd H a (.dK (ci kvs k v)))\/
 ∃kvs k b,H a=some (.dT kvs)/\y=.ref b/\bj H b (k.map kV)/\kvs.length<sizeLine/\U=upd H a (.dT (ci kvs k v))
theorem dz.k{H:Hp}{a:Addr}{kvs:ca}{k:Key}(e:H a=some (.dK kvs)):dz H a (kV k) (a_ kvs k):=.inl ⟨kvs,k,.inl e,rfl,rfl⟩
theorem dz.t{kvs:de}{k:fe}(e:H a=some (.dT kvs))(c:H b=some (.tup (k.map kV))):dz H a (.ref b) (a_ kvs k):=.inr ⟨kvs,k,b,.inl e,rfl,.inl c,rfl⟩
theorem yu.k{H:Hp}{a:Addr}{kvs:ca}{k:Key}{v:V}(e:H a=some (.dK kvs))(b:kvs.length<sizeLine):yu H a (kV k) v (upd H a (.dK (ci kvs k v))):=.inl ⟨kvs,k,e,rfl,b,rfl⟩
theorem yu.t{kvs:de}{k:fe}{v:V}(e:H a=some (.dT kvs))(c:H b=some (.tup (k.map kV)))(d:kvs.length<sizeLine):
  yu H a (.ref b) v (upd H a (.dT (ci kvs k v))):=.inr ⟨kvs,k,b,e,rfl,.inl c,d,rfl⟩
section
variable{y v:V}{r:Value}{o:cp}
theorem Inv.big(I:Inv X B Z H s):sysModules<s.heap.objs.size:=by
 have h:mainGlobals<s.heap.objs.size:=(I.mod.glob.keeps I.bk).lt;exact Nat.lt_trans (by decide) h
theorem zC(j:A.units+1<cLine)(I:Inv X B Z H s)(g:dz H a y (some v))(i:RelV y u)(h:∀c s',Inv X B Z H s'->RelV v c->Q c s'):
  wpAny 'a' A (getItem (.ref a) u) Q E s:=by
 rcases g with⟨d,k,e,f,l⟩|⟨d,k,b,e,f,m,l⟩
 ·subst f;obtain⟨z,hd,vs,rel,dd⟩:=lW I.hok e;obtain⟨c,hw,xy⟩:=pq.some_of (v:=v) (o:=valueAt vs k) (by rw[l];exact rel.val k);exact wpAny_getItem_of (h9 i) dd.mapOf hw (h c _ (I.tok _) xy)
 ·subst f;cases(show u=Value.ref b from i);obtain⟨z,hd,xs,rel,dd⟩:=pV I.hok e;obtain⟨c,hw,xy⟩:=pq.some_of (v:=v) (o:=(atKey xs k).map (·.2)) (by rw[l];exact rel.val k);obtain⟨p,hp,F5⟩:=QaH.mp hw;refine wpAny_getItem_heap (tupleKind_room_in1 j) (j9 I.hok m) dd hp ?_;rw[F5];exact h c _ (I.tok _) xy
theorem X8(i:A.units+1<cLine)(I:Inv X B Z H s)(g:dz H a y o)(f:RelV y u)(h:∀s',Inv X B Z H s'->Q (.bool o.isSome) s'):
  wpAny 'a' A (compareOp .In u (.ref a)) Q E s:=by
 rcases g with⟨c,k,e,d,l⟩|⟨c,k,b,e,d,j,l⟩
 ·subst d;obtain⟨z,hd,vs,rel,dd⟩:=lW I.hok e;refine wpAny_in_of (h9 f) hd dd.mapOf ?_;rw[<- (rel.val k).C8,<- l];exact h _ (I.tok _)
 ·subst d;cases(show u=Value.ref b from f);obtain⟨z,hd,xs,rel,dd⟩:=pV I.hok e;refine wpAny_in_heap (tupleKind_room_in1 i) (j9 I.hok j) hd dd ?_;have q:=(rel.val k).C8;rw[Option.isSome_map]at q;rw[<- q,<- l];exact h _ (I.tok _)
theorem X_(i:A.units+1<cLine)(I:Inv X B Z H s)(g:dz H a y o)(f:RelV y u)(h:∀s',Inv X B Z H s'->Q (.bool (!o.isSome)) s'):
  wpAny 'a' A (compareOp .NotIn u (.ref a)) Q E s:=by
 rcases g with⟨c,k,e,d,l⟩|⟨c,k,b,e,d,j,l⟩
 ·subst d;obtain⟨z,hd,vs,rel,dd⟩:=lW I.hok e;refine wpAny_notIn_of (h9 f) hd dd.mapOf ?_;rw[<- (rel.val k).C8,<- l];exact h _ (I.tok _)
 ·subst d;cases(show u=Value.ref b from f);obtain⟨z,hd,xs,rel,dd⟩:=pV I.hok e;refine wpAny_notIn_heap (tupleKind_room_in1 i) (j9 I.hok j) hd dd ?_;have q:=(rel.val k).C8;rw[Option.isSome_map]at q;rw[<- q,<- l];exact h _ (I.tok _)
theorem dW{ob:HO}(I:Inv X B Z H s)(d:FH (H a))(hs:Heap.SameBut a s.heap M)(f:∃q,M.get? a=some q)(c:br X.prog X.w (upd H a ob) M a ob):
  Inv X B Z (upd H a ob) {s with heap:=M,toks:=t'}:=
 I.write (x:=a) (e:=a) d (.inl rfl) (λb q g z=>(hs.2 b g).trans z) f c
theorem lJ{kvs:ca}(z:kvs.length<=sizeLine)(c:(a==sysModules)=false)(b:KV kvs vs)(dd:M.DictOf (cz P w) a vs):
  br P w U M a (.dK kvs):=⟨z,c,vs,b,dd⟩
theorem Yb{Q:Unit->Shared->Prop}(t:A.units+1<cLine)(I:Inv X B Z H s)(g:yu H a y v U)(x:RelV y u)(C:RelV v r)(h:∀s',Inv X B Z U s'->Q () s'):
  wpAny 'a' A (setItem (.ref a) u r) Q E s:=by
 rcases g with⟨d,k,e,j,l,m⟩|⟨d,k,b,e,j,D,l,m⟩
 ·subst j m;obtain⟨z,hd,vs,rel,dd⟩:=pE I.hok e;have n:vs.length<=sizeLine:=by rw[<- rel.length];exact z
  have o:(ci d k v).length<=sizeLine:=by have:=bU d k v;lia
  refine wpAny_setItem_pairs (hsz:=n) (h9 x) dd λG i p=>h _ ?_;have K:∃q,G.get? a=some q:=let ⟨q,_,_,hq,_⟩:=i;⟨q,hq⟩
  exact dW I (by rw[e];exact True.intro) p K (lJ o hd (rel.put k C) i)
 ·subst j m;cases(show u=Value.ref b from x);obtain⟨z,hd,xs,rel,dd⟩:=KP I.hok e;have n:xs.length<=sizeLine:=by rw[<- Paired.length rel];exact z
  have o:(ci d k v).length<=sizeLine:=by have:=bU d k v;lia
  refine wpAny_setItem_heap (hsz:=n) (tupleKind_room_in1 t) (j9 I.hok D) dd λG i p=>h _ ?_;obtain⟨q,es,ep,hq,h2,h3,h4,_,h5⟩:=i;refine dW I (by rw[e];exact True.intro) p ⟨q,hq⟩ ⟨o,hd,_,(rel.put k D C).keeps λc L f=>?_,q,es,ep,hq,h2,h3,h4,h5⟩;refine f.upd λu t z=>?_;subst z;rcases f with f|⟨_,f⟩<;>(rw[e]at f;cases f)
end
section
variable{kvs:ca}{k:Key}
theorem zM{Q:Unit->Shared->Prop}(I:Inv X B Z H s)(e:H a=some (.dK kvs))(c:RelV (kV k) u)(l:(a_ kvs k).isSome=true)(h:∀s',Inv X B Z (upd H a (.dK (vh kvs k))) s'->Q () s'):
  wpAny 'a' A (delItem (.ref a) u) Q E s:=by
 obtain⟨z,hd,vs,rel,dd⟩:=pE I.hok e;refine wpAny_delItem_slot dd.typeIs (by decide) PySem.F.slot_dict_delitem
  (call_meetsIn PySem.F.slot_dict_delitem dd.typeIs PySem.F.entry_dict_delitem (PySem.F.args_dict_delitem_2 _ _) (meets_dict_delitem_pairs (cz X.prog X.w) a (h9 c)) ⟨vs,dd,by rw[<- rel.length];exact z,by rw[<- (rel.val k).C8];exact l,λd b f=>h _ ?_⟩)
 have g:∃q,d.get? a=some q:=let ⟨q,_,_,hq,_⟩:=b;⟨q,hq⟩
 exact dW I (by rw[e];exact True.intro) f g (lJ (jU (X0 kvs k) z) hd (rel.drop k) b)
theorem Yc(I:Inv X B Z H s)(e:Rd H a (.dK kvs))(h:∀t s',Inv X B Z H s'->Q (.int kvs.length t) s'):wpAny 'a' A (call (.builtin "len") [.ref a]) Q E s:=by
 obtain⟨z,hd,vs,rel,dd⟩:=lW I.hok e;refine call_len_dict hd dd (by rw[<- rel.length];rw[QM]at z;lia) ?_;rw[<- rel.length];exact h _ _ (I.tok _)
end
def F6(i:Expr):Prop:=∀ov a,subscripted i false ov a=operate [ov,a] (getItem ov a)
theorem xC{b a:Expr}{k:Pos}{id:String}
  (l:typeLookup (.type T) "__getitem__"=pure (some (.builtin id))) (hs:F6 a)
  (h:wpAny 'f' A (eval b env) (λo e=>wpAny 'f' A (eval a env) (λi c=>c.TypeIs o T/\wpAny 'f' A (getItem o i) Q E c) E e) E s):
  wpAny 'f' A (eval (.Subscript b a k) env) Q E s:=by
 refine Subscript_ (wpAny_mono h (λo e g=>wpAny_mono g (λi c d=>?_) λ_ _ x=>x) λ_ _ x=>x);obtain⟨hT,d⟩:=d;unfold subscriptTail;refine QT ?_;rw[getitemInPython_of_ne hT.not_modules];refine QT (wpAny_specialOf hT l ?_);have fin:wpAny 'f' A (subscripted a false o i) (λr f=>wpAny 'f' A (letTemporaryGo b o r >>=λ_=>pure r) Q E f) E c:=by
  rw[hs o i];exact wpAny_operating (wpAny_mono d (λr f j=>QT (wpAny_letTemporaryGo (QU j))) λ_ _ x=>x)
 first
  |exact QU (QT fin)
  |exact QT (QU (QT fin))
  |exact QT fin
theorem sX{y:V}{o:cp}(I:Inv X B Z H s)(g:dz H a y o):s.TypeIs (.ref a) "dict":=by
 rcases g with⟨c,k,e,_,_⟩|⟨c,k,b,e,_,_,_⟩
 ·obtain⟨_,_,vs,_,dd⟩:=lW I.hok e;exact dd.typeIs
 ·obtain⟨_,_,xs,_,dd⟩:=pV I.hok e;exact dd.typeIs
def KQ(b ty:TE):TE:=λZ H Q=>b Z H λx H1=>ty Z H1 λy H2=>∃a v,x=.ref a/\dz H2 a y (some v)/\Q v H2
def Pf(c ty d:TE):TS:=λD Z H=>d Z H λv H1=>c Z H1 λx H2=>ty Z H2 λy e=>∃a b,x=.ref a/\yu e a y v b/\D.nx Z b
def Pg(b ty:TE):TS:=λD Z H=>b Z H λx H1=>ty Z H1 λy H2=>∃a kvs k,x=.ref a/\H2 a=some (.dK kvs)/\y=kV k/\(a_ kvs k).isSome=true/\D.nx Z (upd H2 a (.dK (vh kvs k)))
section
variable{o i value:Expr}{pos wm:Pos}{td ty tv:TE}
theorem Yd(e:X.A.units+1<cLine)(f:PE X o td)(j:PE X i ty)(hs:F6 i):PE X (.Subscript o i pos) (KQ td ty):=by
 intro b s c H Q I h;refine xC PySem.F.slot_dict_getitem.lookup hs (ay (f b s c H _ I h) ?_);rintro u k ⟨x,l,m,n,p⟩;refine ay (j b k c l _ m p) ?_;rintro D E ⟨y,q,d,r,a,v,t,g,w⟩;subst t;obtain rfl:u=Value.ref a:=n;exact⟨sX d g,zC e d g r λG K z C=>⟨v,q,z,C,w⟩⟩
theorem Ye(d:X.A.units+1<cLine)(e:PE X o td)(f:PE X i ty)(hv:PE X value tv)(hs:swapsWith value (some (.Subscript o i pos')) pos.line X.env=pure false):
  PS X (.Assign [.Subscript o i pos'] value pos) (Pf td ty tv):=by
 intro b s c H D I h;refine wpAny_Assign_Subscript (ay (hv b s c H _ I h) ?_) hs;rintro r j ⟨v,k,l,m,n⟩;refine ay (e b j c k _ l n) ?_;rintro u p ⟨x,q,t,w,z⟩;refine ay (f b p c q _ t z) ?_;rintro P Q ⟨y,R,C,E,a,G,K,g,L⟩;subst K;obtain rfl:u=Value.ref a:=w;exact Yb d C g E m λT N=>⟨c,G,N,L⟩
theorem Yg(d:PE X o td)(f:PE X i ty):PS X (.Delete [.Subscript o i wm] pos) (Pg td ty):=by
 intro b s c H D I h;refine wpAny_Delete (wpAny_deleteEach_cons (wpAny_delete_Subscript (ay (d b s c H _ I h) ?_)));rintro u g ⟨x,j,m,n,p⟩;refine ay (f b g c j _ m p) ?_;rintro E G ⟨y,K,q,r,a,t,k,w,e,z,l,A⟩;subst w z;obtain rfl:u=Value.ref a:=n;exact zM q e r l λL C=>wpAny_deleteEach_nil ⟨c,_,C,A⟩
end
theorem tD(h:Heap)(a:sysModules<h.objs.size):br P w H (h.push {cls:=.type "dict",data:=.dict #[]}) h.objs.size (.dK []):=
 ⟨dm _,beq_eq_false_iff_ne.mpr (Ne.symm (yU a)),[],.nil,Heap.DictOf.new h⟩
theorem tH(h:Heap)(a:sysModules<h.objs.size):br P w H (h.push {cls:=.type "dict",data:=.dict #[]}) h.objs.size (.dT []):=
 ⟨dm _,beq_eq_false_iff_ne.mpr (Ne.symm (yU a)),[],.nil,_,#[],0,Qd _ rfl,⟨rfl,rfl,rfl⟩,rfl,rfl,ij⟩
def Ph:TE:=λ_ H Q=>∀p,H p=none->Q (.ref p) (upd H p (.dK []))
def Pj:TE:=λ_ H Q=>∀p,H p=none->Q (.ref p) (upd H p (.dT []))
section
variable{pos:Pos}
theorem Yh:PE X (.Dict [] [] pos) Ph:=λb s c H Q I h=>
 wpAny_Dict_empty ⟨.ref s.heap.objs.size,_,I.laid (a:=s.heap.objs.size) (o:=.dK []) (t':=s.toks) (λ_ _ q=>Qc _ q) (Qz _) (tD s.heap I.big),rfl,h _ (I.hok.fresh (Qz _))⟩
theorem Yi:PE X (.Dict [] [] pos) Pj:=λb s c H Q I h=>
 wpAny_Dict_empty ⟨.ref s.heap.objs.size,_,I.laid (a:=s.heap.objs.size) (o:=.dT []) (t':=s.toks) (λ_ _ q=>Qc _ q) (Qz _) (tH s.heap I.big),rfl,h _ (I.hok.fresh (Qz _))⟩
end
def KR:List (TE×TE)->St->Hp->(List (V×V)->Hp->Prop)->Prop
 | [],_,H,Q=>Q [] H
 |(tk,tv)::r,Z,H,Q=>tk Z H λx H1=>tv Z H1 λy H2=>KR r Z H2 λps a=>Q ((x,y)::ps) a
abbrev VV:List (V×V)->List (Value×Value)->Prop:=Paired λp q=>RelV p.1 q.1/\RelV p.2 q.2
def F7(X:Cx)(c:Pos)(b:List (Option Expr))(a:List Expr)(d:List (TE×TE)):Prop:=
 ∀(B:'e')(s:Shared)(Z:St)(H:Hp)(Q:List (V×V)->Hp->Prop),Inv X B Z H s->KR d Z H Q->
  wpAny 'a' X.A (evalPairs (pairTrees b a X.env c)) (λvs s'=>∃ps U,Inv X B Z U s'/\VV ps vs/\Q ps U) X.xe s
theorem Yj{a:Pos}:F7 X a [] [] []:=λb s c H Q I h=>pairTrees_nil_walk ⟨[],H,I,.nil,h⟩
theorem Yk{b:Pos}{k v:Expr}{ks:List (Option Expr)}{vs:List Expr}{e f:TE}(g:PE X k e)(hv:PE X v f)(i:F7 X b ks vs we):
  F7 X b (some k::ks) (v::vs) ((e,f)::we):=λa s c H Q I h=>
 pairTrees_cons_walk (ay (g a s c H _ I h) λu j ⟨x,l,m,n,o⟩=>ay (hv a j c l _ m o) λE p ⟨y,q,r,t,w⟩=>
  ay (i a p c q _ r w) λG K ⟨z,A,C,d,D⟩=>⟨(x,y)::z,A,C,.cons ⟨n,t⟩ d,D⟩)
def Cc(kvs more:ca):ca:=more.foldl (λa b=>ci a b.1 b.2) kvs
theorem KV.merge:∀{more:ca}{a:List (Key×Value)}{kvs:ca}{vs:List (Key×Value)},KV more a->KV kvs vs->KV (Cc kvs more) (merged vs a):=by
 intro more a kvs vs r;unfold KV at r
 induction r generalizing kvs vs with
 |nil=>intro q;exact q
 | @cons p q ps qs h t ih=>
  intro b;have e:KV (ci kvs p.1 p.2) (stored vs q.1 q.2):=by
   have:=b.put p.1 h.2;rw[<- h.1];exact this
  exact ih e
theorem iU:∀(more kvs:ca),(Cc kvs more).length<=kvs.length+more.length
 | [],kvs=>by show kvs.length<=kvs.length+0;lia
 |p::r,kvs=>by
  have a:=iU r (ci kvs p.1 p.2);have b:=bU kvs p.1 p.2;show(Cc (ci kvs p.1 p.2) r).length<=_;rw[dV];lia
theorem mX{P:Program}{w:World}:∀{kvs:ca}{ws:List (Value×Value)},VV (kvs.map λkv=>(kV kv.1,kv.2)) ws->∃rs,Carries (cz P w) ws rs/\KV kvs rs
 | [],_,r=>by rw[List.map_nil]at r;cases r;exact⟨[],True.intro,.nil⟩
 |p::kvs,_,r=>by
  rw[yV]at r;cases r with
  | @cons a b as bs h t=>
   obtain⟨rs,c,q⟩:=mX (P:=P) (w:=w) t;obtain⟨b1,b2⟩:=b;exact⟨(p.1,b2)::rs,⟨h9 h.1,rfl,c⟩,.cons ⟨rfl,h.2⟩ q⟩
def Pk(b:List (TE×TE)):TE:=λZ H Q=>∀p,H p=none->KR b Z (upd H p (.dK [])) λps H2=>H2 p=some (.dK [])/\∃kvs:ca,ps=kvs.map (λa=>(kV a.1,a.2))/\kvs.length<=15/\Q (.ref p) (upd H2 p (.dK (Cc [] kvs)))
theorem Yl{f:Pos}{b:List (Option Expr)}{d:List Expr}(h:F7 X f b d we)(m:b.all (·.isSome)=true)(n:b.length=d.length)(h0:b≠[])
  (p:b.length<=15):PE X (.Dict b d f) (Pk we):=by
 intro g s r H Q I q;have t:=I.hok.fresh (Qz s.heap.objs.size);have u:=I.laid (a:=s.heap.objs.size) (o:=.dK []) (M:=s.heap.push {cls:=.type "dict",data:=.dict #[]}) (t':=s.toks) (λ_ _ q=>Qc _ q) (Qz _) (tD s.heap I.big);refine wpAny_Dict_walk (knd:=cz X.prog X.w) m n h0 p (ay (h g _ r _ _ u (q _ t)) ?_);rintro G K ⟨L,N,k,j,e,i,x,lk,y⟩;subst x;obtain⟨rs,c,rk⟩:=mX (P:=X.prog) (w:=X.w) j;obtain⟨z,hd,vs0,r0,dd⟩:=pE k.hok e;cases r0;refine⟨rs,c,dd,λM l A=>⟨.ref s.heap.objs.size,_,?_,rfl,y⟩⟩;have C:(Cc [] i).length<=sizeLine:=by
  have D:=iU i [];rw[nS]at D;rw[QM];lia
 have E:∃q,M.get? s.heap.objs.size=some q:=let ⟨q,_,_,hq,_⟩:=l;⟨q,hq⟩
 exact dW k (by rw[e];exact True.intro) A E (lJ C hd (rk.merge .nil) l)
structure M2(X:Cx)(o:Expr)(m:Str)(apos:Pos)(e f:Expr)(cpos:Pos):Prop where
 base:attributeBase o m X.env (eval o X.env)=eval o X.env
 few:((backTo cpos (starEach [e,f] X.env)).all (λx=> !x.1)&&(backToKw cpos (keywordEach [] X.env)).all (λx=>x.1.isSome)
  &&decide (([e,f]:List Expr).length+([]:List Keyword).length+(if([]:List Keyword).isEmpty then 0 else 1)<30))=true
 line:(apos.endLine==cpos.line)=true
 trees:backTo cpos (starEach [e,f] X.env)=[(false,eval e X.env),(false,eval f X.env)]
def KU(H:Hp)(a:Addr):Prop:=(∃kvs,Rd H a (.dK kvs))\/∃kvs,Rd H a (.dT kvs)
theorem Pn(I:Inv X B Z H s)(d:KU H a):
  s.TypeIs (.ref a) "dict"/\(∀b,Value.ref a=.ref b->∃ob,s.heap.get? b=some ob/\ob.dict=none)/\(a==sysModules)=false:=by
 rcases d with⟨c,e⟩|⟨c,e⟩
 ·obtain⟨_,hd,vs,_,dd⟩:=lW I.hok e;refine⟨dd.typeIs,λb q=>?_,hd⟩;cases q;obtain⟨ob,_,_,Y,h2,_⟩:=dd;exact⟨ob,Y,h2.2.1⟩
 ·obtain⟨_,hd,xs,_,dd⟩:=pV I.hok e;refine⟨dd.typeIs,λb q=>?_,hd⟩;cases q;obtain⟨ob,_,_,Y,h2,_⟩:=dd;exact⟨ob,Y,h2.2.1⟩
end L2
namespace Po
open PySem PySem.W PySem.Calls PyProof.Rows
theorem mC{P:Params}:∀(c:List Int)(vs:cq),WellAll P h vs (c.map WData.int)->IntsAre vs c:=by
 intro c
 induction c with
 |nil=>
  intro vs w;rw[List.map_nil]at w;cases w;exact .nil
 |cons n c ih=>
  intro vs w;rw[yV]at w;cases w with
  |cons a b=>
   cases a;exact .cons _ _ (ih _ b)
theorem zB{l:OpenLaw}(g:l.most=some n){P:Params}{args:List WData}{gt:cq}
  (e:l.row.toRowW.claim.pre args=true) (i:WellAll P h gt args):
  ∃a vs ns,gt=[Value.ref a]/\args=[WData.list (ns.map WData.int)]/\h.get? a=some {cls:=.type "list",data:=.seq vs.toArray}/\IntsAre vs ns/\ns.length<=n:=by
 have j:WShape.hasAll [] args [.list .int]=true:=(pre_splitW e).1;have f:l.pre.holds [] {args:=args}=true:=(pre_splitW e).2;obtain⟨d,r,rfl,Y,h2⟩:=hasAllW_cons j;obtain rfl:=hasAllW_nil h2;obtain⟨xs,rfl,h3⟩:=hasW_list Y;obtain⟨ns,rfl⟩:=items_int h3;have k:ns.length<=n:=by
  unfold OpenLaw.pre at f;have b:(WTm.not (.lt (.lit (.int (n:Int))) (.len (.arg 0)))).holds [] {args:=[.list (ns.map .int)]}=true:=by
   have b:=(holds_andW f).1;rw[g]at b;exact b
  have c:=condW_of b (w_not (w_lt w_lit (w_len_list (w_arg rfl))));rw[Ql]at c;refine Nat.le_of_not_lt λq=>?_;have m:(n:Int)<((ns.length:Nat):Int):=by lia
  first
   |(rw[Qw m]at c;exact absurd c (by decide))
   |(simp at c;lia)
 cases i with
 |cons w1 w2=>
  cases w2;cases w1 with
  |list ho AN=>exact⟨_,_,ns,rfl,rfl,ho,mC ns _ AN,k⟩
theorem zJ(l:OpenLaw)(args:List WData):l.row.toRowW.claim.post args (.bool true) args=true:=
 postW_of (r:=l.row.toRowW) (X:=(true==true))
  (show WShape.has [] (.bool true) .bool=true by first|rfl|decide|simp[WShape.has,WShape.arms,WShape.armsAll])
  (show(WTm.eq .res (.lit (.bool true))).value [] {args:=args,res:=some (.bool true),after:=args}=some (.bool (true==true))from w_eq_bool (w_res rfl) w_lit) rfl
theorem tX {l:OpenLaw} {q:Program} {loose:aU} {YP:World->Heap->Prop} {d:DefRec}
  (s:l.most=some n) (t:d.params.defaults=[])
  (call:∀ (w:World) (c b:Shared) (h k:Str->cv) (g:Addr) (o:Obj) (m i e:Value) (a:Addr) (vs:cq) (j:List Int),
   Ground q loose [] XP w c h k b.heap->YP w b.heap->
   b.heap.get? g=some o->o.data=.func (docDef d.name d.params d.body d.scope m i e)->b.heap.CodeRec i d.name->h d.name=some (.ref g)->
   b.heap.get? a=some {cls:=.type "list",data:=.seq vs.toArray}->IntsAre vs j->j.length<=n->b.gens=#[]->
   codeAny (model l.prog w) callerA (.call (.ref g) ⟨[.ref a],[]⟩) (λr s'=>r=.ok (.ret (.bool true))/\OldK b.heap s'.heap/\s'.os=b.os/\AllBare s'.gens) b):
  WalkO q loose XP YP l.row.toRowW d [] (λf vs=>PySem.call f vs):=by
 intro w c b h k G Y g o m i e u kV x y z p A C args gt V D E Yn H Pp
 obtain rfl:u=.none:=Dflts.none p t
 obtain rfl:kV=.none:=Dflts.noKw p
 obtain ⟨a,vs,j,rfl,rfl,I,K,L⟩:=zB s D H
 refine enter_call (codeAny_mono (call w c b h k g o m i e a vs j G Y x (fd_plain y) z A I K L C) λr s' N=>?_)
 obtain ⟨rfl,P,Q,R⟩:=N
 exact ⟨.inl ⟨.bool true,.bool true,[],rfl,λ_=>rfl,.bool true,zJ l _,λ_=>⟨List.Pairwise.nil,λ_ T=>(nomatch T)⟩⟩,P,Q,R⟩
end Po
namespace L2
open PySem PySem.Spec PyProof.Rows
theorem pJ:∀{vs:cq}{a:List Int},IntsAre vs a->bg (a.map V.int) vs
 |_,_,.nil=>.nil
 |_,_,.cons n t h=>.cons ⟨t,rfl⟩ (pJ h)
def cZ(s:Stmt)(j:Nat):Stmt:=match s with
 | .ClassDef _ _ _ body _ _ _ _ _ _ _=>body.getD j (.Pass ⟨0,0,0,0⟩)
 |_=>.Pass ⟨0,0,0,0⟩
def sf(s:Stmt):Arguments:=match s with
 | .FunctionDef _ a _ _ _ _ _ _ _ _=>a
 |_=>{posonlyargs:=[],args:=[],vararg:=none,kwonlyargs:=[],kw_defaults:=[],kwarg:=none,defaults:=[]}
def l_(s:Stmt):List Stmt:=match s with
 | .FunctionDef _ _ b _ _ _ _ _ _ _=>b
 |_=>[]
def b_(s:Stmt):Scope:=match s with
 | .FunctionDef _ _ _ _ _ _ sc _ _ _=>sc
 |_=>{kind:=.function,names:=[],isGenerator:=false,isCoroutine:=false}
abbrev Aa:zy:=λ_ _ _ _ _ _=>False
abbrev E0:XK:=λ_ _ _=>False
theorem F8:B6 Aa X E0:=λ_ _ _ _ _ _ _ h=>h.elim
structure Bj(K:Q0)(x qual:Str)(st:Stmt)(f:Addr)(fd:FuncData):Prop where
 ex:∃(oc:Value)(od:Option Addr)(kV doc pm:Value)(an:Option Addr)(bf ct:Value)(vg:Array cv),
  fd=PySem.W.fnOf x qual (sf st) (l_ st) (b_ st) .none kV doc pm an bf ct/\K.lookup f=some ⟨oc,od,.func fd,vg⟩/\PySem.W.codeIn K bf qual=true
 kp:PySem.W.keepIn K (.ref f)=true
section
variable{K:Q0}
theorem Bj.ok {b:Str} {st:Stmt} {f:Addr} {k:Nat} {d:Sp} (F:Bj K x b st f fd) (S:fj N ps (b_ st)) (e:∀ vs H Q E,d vs H Q E->vs.length=ps.length)
  (g:∀ (c:Value) (A:Around) (a:List Env) (s:Shared) (H:Hp) (vs:bY) (Q:VK) (E:XK),f_ k (A.deeper (envOfC b (b_ st) s.heap.objs.size f c))->d vs H Q E->
   ∃ t,vd (AK Aa P w K mg base N b (b_ st) f c A a s H E).B3 (l_ st) t/\t {nx:=λ_ U=>Q .ao U,rt:=Q} (start N vs) H):se P w K mg base Aa (k+1) f fd ps d:=by
 obtain ⟨n,o,kV,i,p,r,c,u,y,rfl,lk,j⟩:=F.ex
 refine Xl lk j S e λA a s H vs Q E l m=>?_
 obtain ⟨t,h,q⟩:=g c A a s H vs Q E l m
 exact ⟨t,h.B3,q⟩
theorem Bj.binds{a:Str}{st:Stmt}{f:Addr}(F:Bj K x a st f fd)
  (h:∀(kV b c:Value)(d:Option Addr)(e ct:Value)(O:cq),O.length=ps.length->bindArgs (PySem.W.fnOf x a (sf st) (l_ st) (b_ st) .none kV b c d e ct) ⟨O,[]⟩=pure (ps.zip O)):Binds K fd ps []:=by
 obtain⟨oc,od,kV,b,c,d,e,ct,vg,rfl,lk,ve⟩:=F.ex;exact .all (h kV b c d e ct)
theorem Yo{a:Str}{st:Stmt}{f:Addr}{h:Value}{i e:Option Addr}{j:Array cv}{kV b g d ct:Value}(l:K.lookup f=some ⟨h,i,.func (PySem.W.fnOf x a (sf st) (l_ st) (b_ st) .none kV b g e d ct),j⟩)
  (c:PySem.W.codeIn K d a=true) (k:PySem.W.keepIn K (.ref f)=true):Bj K x a st f (PySem.W.fnOf x a (sf st) (l_ st) (b_ st) .none kV b g e d ct):=⟨⟨h,i,kV,b,g,e,d,ct,j,rfl,l,c⟩,k⟩
end
theorem dD{k:Nat}(a:f_ k A):A.units+1<cLine:=Nat.lt_of_le_of_lt (Nat.add_le_add_left (by decide:1<=64) _) a.units
theorem Yp(h:n<=1000):n<sizeLine:=Nat.lt_of_le_of_lt h (by decide)
theorem ue{A B:Prop}(h:B):if false=true then A else B:=by
 rw[if_neg vU];exact h
theorem Eu{A B:Prop}(h:A):if true=true then A else B:=by
 rw[if_pos rfl];exact h
theorem F9{c A B:Prop}[Decidable c](a:c->A)(b:¬c->B):if c then A else B:=by
 by_cases h:c
 ·rw[if_pos h];exact a h
 ·rw[if_neg h];exact b h
def ae(H U:Hp):Prop:=∀b o,H b=some o->U b=some o
theorem ae.refl(H:Hp):ae H H:=λ_ _ h=>h
theorem ae.trans{d e:Hp}(a:ae H d)(b:ae d e):ae H e:=λc o h=>b c o (a c o h)
theorem ae.free(e:ae H U)(h:U l=Option.none):H l=Option.none:=by
 cases q:H l with
 |none=>rfl
 |some o=>
  rw[e l o q]at h;cases h
section
variable[DecidableEq κ]
theorem Yq{kvs:List (κ×V)}{k:κ}(h:a_ kvs k=none):¬k∈kvs.map (·.1):=by
 intro m;obtain⟨p,hp,e⟩:=Z2.mp m;have q:(kvs.any λa=>decide (a.1=k))=true:=QaO.mpr ⟨p,hp,Qw e⟩;rw[cQ,h]at q;exact absurd q (by simp)
theorem gH{kvs:List (κ×V)}{k:κ}{v:V}(h:a_ kvs k=some v):k∈kvs.map (·.1):=by
 have q:(kvs.any λa=>decide (a.1=k))=true:=by
  rw[cQ,h]
  all_goals rfl
 obtain⟨p,hp,e⟩:=QaO.mp q;exact Z2.mpr ⟨p,hp,Qt e⟩
end
theorem iV{env:Env}:∀(names:List (Str×NameKind))(a:List (Str×Addr)),
  (∀y∈names,y.2=.free->∃c,env.cells.lookup y.1=some c)->(∀x c,a.lookup x=some c->env.cells.lookup x=some c)->
  ∃b,(forIn names a fun(x:Str×NameKind)j=>(if(x.2==NameKind.free)=true then(do let c <- cellOf env x.1;pure (ForInStep.yield ((x.1,c)::j)))else pure (ForInStep.yield j):Sem (ForInStep (List (Str×Addr)))))=pure b/\
   (∀x c,b.lookup x=some c->env.cells.lookup x=some c)/\(∀y∈names,y.2=.free->∃c,b.lookup y.1=some c)/\(∀x c,a.lookup x=some c->∃c,b.lookup x=some c)
 | [],a,_,ha=>⟨a,rfl,ha,(λ_ h=>nomatch h),λx c h=>⟨c,h⟩⟩
 |(n,k)::r,a,h,ha=>by
  rw[oo];by_cases hk:k=.free
  ·obtain⟨c,hc⟩:=h (n,k) yS hk;have l:cellOf env n=pure c:=by unfold cellOf;rw[show env.cells.lookup n=some c from hc]
   have m:∀x d,((n,c)::a).lookup x=some d->env.cells.lookup x=some d:=λx d f=>by
    rw[ge]at f;cases e:x==n with
    |true=>rw[e]at f;cases f;rw[eq_of_beq e];exact hc
    |false=>rw[e]at f;exact ha x d f
   obtain⟨b,e,Y,h2,h3⟩:=iV r ((n,c)::a) (λy hy=>h y (Qh _ hy)) m;refine⟨b,?_,Y,λy hy g=>?_,λx d f=>?_⟩
   ·have i:(k==NameKind.free)=true:=by rw[hk];rfl
    simp only[i,if_true,l,pure_bind];exact e
   ·rcases Qp.mp hy with z|hy
    ·rw[z];exact h3 n c (by simp[ge])
    ·exact h2 y hy g
   ·cases e2:x==n with
    |true=>exact h3 x c (by simp[ge,e2])
    |false=>exact h3 x d (by simp[ge,e2,f])
  ·have i:(k==NameKind.free)=false:=by simpa using hk
   obtain⟨b,e,Y,h2,h3⟩:=iV r a (λy hy=>h y (Qh _ hy)) ha;refine⟨b,?_,Y,λy hy g=>?_,h3⟩
   ·simp only[i,fi,if_false,pure_bind];exact e
   ·rcases Qp.mp hy with z|hy
    ·rw[z]at g;exact absurd g hk
    ·exact h2 y hy g
theorem vJ(h:∀y∈sc.names,y.2=.free->∃c,env.cells.lookup y.1=some c):
  ∃a,closureFor sc env=pure a/\(∀x c,a.lookup x=some c->env.cells.lookup x=some c)/\(∀y∈sc.names,y.2=.free->∃c,a.lookup y.1=some c):=by
 obtain⟨a,e,Y,h2,_⟩:=iV (env:=env) sc.names [] h (λ_ _ h=>nomatch h);refine⟨a,?_,Y,h2⟩;unfold closureFor;have d:(forIn sc.names ([]:List (Str×Addr)) fun(x:Str×NameKind)b=>(if(x.2==NameKind.free)=true then(do let c <- cellOf env x.1;pure (ForInStep.yield ((x.1,c)::b)))else pure (ForInStep.yield b):Sem (ForInStep (List (Str×Addr))))) >>=(λb=>(pure b:Sem _))=pure a:=by rw[e];rfl
 exact d
theorem eG{env:Env}:∀{names:List (Str×NameKind)}{x:Str},names.lookup x=some .free->
  (names.map fun(n,k)=>if(k==NameKind.free&&env.scope.kind==.function&&env.kindOf n==some .cell)then(n,NameKind.cell)else(n,k)).lookup x=some .cell\/
  (names.map fun(n,k)=>if(k==NameKind.free&&env.scope.kind==.function&&env.kindOf n==some .cell)then(n,NameKind.cell)else(n,k)).lookup x=some .free
 | [],_,h=>by simp at h
 |(n,k)::r,x,h=>by
  have ih:=@eG env r x;show List.lookup x ((if(k==NameKind.free&&env.scope.kind==.function&&env.kindOf n==some .cell)=true then(n,NameKind.cell)else(n,k))::_)=_\/List.lookup x ((if(k==NameKind.free&&env.scope.kind==.function&&env.kindOf n==some .cell)=true then(n,NameKind.cell)else(n,k))::_)=_;cases hx:x==n with
  |true=>
   simp only[ge,hx]at h;cases h;by_cases hc:(NameKind.free==NameKind.free&&env.scope.kind==.function&&env.kindOf n==some .cell)=true
   ·rw[if_pos hc];simp[ge,hx]
   ·rw[if_neg hc];simp[ge,hx]
  |false=>
   simp only[ge,hx]at h;by_cases hc:(k==NameKind.free&&env.scope.kind==.function&&env.kindOf n==some .cell)=true
   ·rw[if_pos hc];simp only[ge,hx];exact ih h
   ·rw[if_neg hc];simp only[ge,hx];exact ih h
theorem lT{names:List (Str×NameKind)}{k:NameKind}
  (h:(names.map fun(n,k)=>if(k==NameKind.free&&env.scope.kind==.function&&env.kindOf n==some .cell)then(n,NameKind.cell)else(n,k)).lookup x=some k) (a:k=.cell\/k=.free) (b:∀y∈names,y.2≠.cell):(x,NameKind.free)∈names:=by
 have c:=lx h;obtain⟨⟨n,k'⟩,Y,h2⟩:=Z2.mp c;dsimp only at h2;split at h2
 ·next hh=>
  cases h2;have:k'=.free:=by
   simp only[im,beq_iff_eq]at hh;exact hh.1.1
  rw[<- this];exact Y
 ·cases h2;rcases a with z|z
  ·exact absurd z (b _ Y)
  ·rw[<- z];exact Y
abbrev cy(X:Cx)(N':aU)(sc:Scope)(cl:List (Str×Addr))(C:Addr)(s3:Shared)(H0:Hp)(fp:cx)(pn:'e'):Cx where
 prog:=X.prog
 w:=X.w
 K:=X.K
 mg:=X.mg
 base:=X.base
 A:=X.A
 N:=N'
 s₀:=s3
 H₀:=H0
 env:=compEnvC sc cl C X.env
 outer:=X.stack
 stack:=X.stack
 ex:=fp
 fn:=λ_=>false
 calm:=X.calm
 pn:=pn
 xe:=λ_ _=>False
structure q_(Ab:Scope)(oN:aU)(sc:Scope)(own:aU)(idx:cm)(N':aU):Prop where
 kind:sc.kind=.function
 cell:∀y∈sc.names,y.2≠.cell
 names:∀y∈sc.names,y.2=.local->sc.names.lookup y.1=some .local
 free:∀y∈sc.names,y.2=.free->(Ab.names.lookup y.1=some .cell\/Ab.names.lookup y.1=some .free)
 seen:∀j∈idx,sc.names.lookup (oN.getD j "")=some .free/\j<oN.length
 nn:N'=own++idx.map (λj=>oN.getD j "")
def Ac(own:aU)(idx:cm)(Z:St):St:=List.replicate own.length none++idx.map λj=>(Z[j]?).join
section
variable{H2:Hp}{s2:Shared}
theorem Ys{C:List (Str×Addr)}{A:Heap}{ob:Obj}{g:HO}{t4:Nat}(S:'m')(I:Inv X B Z H2 s2)(K:∀b∈fp,wg X B H2 b)(F_:∀b∈fp,∃o,s2.heap.get? b=some o)
  (s:∀x c,C.lookup x=some c->'g') (L:∀y∈sc.names,y.2=.free->∃c,C.lookup y.1=some c) (hob:ob.isFreed=false)
  (hD:∀(H:Hp)(h:Heap),h.get? s2.heap.objs.size=some ob->br X.prog X.w H h s2.heap.objs.size g)
  (ns:A.Ns (s2.heap.push ob).objs.size (λx=>([]:List (Str×Value)).reverse.lookup x)) (P:∀b o,(s2.heap.push ob).get? b=some o->A.get? b=some o):
  Inv (cy X N' sc C (s2.heap.push ob).objs.size {s2 with heap:=s2.heap.push ob} (upd H2 s2.heap.objs.size g) fp (X.pn++B)) [] (Ac own idx Z) (upd H2 s2.heap.objs.size g) {s2 with heap:=A,toks:=t4}:=by
 have a:(s2.heap.push ob).objs.size=s2.heap.objs.size+1:=ko _ _;have K2:H2 s2.heap.objs.size=none:=I.hok.fresh (Qz _);have Q:∀b o,s2.heap.get? b=some o->(s2.heap.push ob).get? b=some o:=λb o e=>Qc _ e;have D:∀b o,s2.heap.get? b=some o->A.get? b=some o:=λb o e=>P b o (Q b o e);have Yt:∀b o,s2.heap.get? b=some o->b≠s2.heap.objs.size:=λb o e=>yU (QA e);have E:∀b o,s2.heap.get? b=some o->H2 b=none->upd H2 s2.heap.objs.size g b=none:=λb o e n=>by rw[aB (Yt b o e)];exact n
 have Yu:∀b∈vc X.stack,∃o,s2.heap.get? b=some o:=λb f=>by
  obtain⟨_,o,g,_⟩:=I.stack.mem f;exact⟨o,g⟩
 have Yv:∀x c,C.lookup x=some c->∃o,s2.heap.get? c=some o:=λx c e=>by
  obtain⟨v,o,g,_⟩:=I.cell x c (s x c e);exact⟨o,g⟩
 have eD:(s2.heap.push ob).get? s2.heap.objs.size=some ob:=Qd s2.heap hob;have Yw:fq X.prog X.w (upd H2 s2.heap.objs.size g) A:=I.hok.laid D (Qz _) (hD _ _ (P _ _ eD));refine⟨⟨I.ok.mod,S.kind,I.ok.glob,I.ok.blt,Qz _,λx y c R l=>I.ok.inj x y c (s x c R) (s y c l),λx hx=>?_,(λx c hx _=>nomatch hx),I.ok.hd,I.ok.frames,.inl rfl,λb f=>⟨?_,λx c e=>?_⟩,λb o e=>⟨?_,?_⟩,?_,λb o e f=>?_,λb f=>?_,?_,λb f=>?_⟩,
  rfl,I.bare,Un.kept P,⟨_,ns,λi x v R l h3=>?_⟩,λx c e=>?_,?_,λx c e=>?_,λp hp=>?_,Yw,?_⟩
 ·rcases hx with hx|hx
  ·exact L (x,.free) (lT hx (.inl rfl) S.cell) rfl
  ·exact L (x,.free) (lT hx (.inr rfl) S.cell) rfl
 ·obtain⟨o,e⟩:=F_ b f;have:=QA e;show b≠(s2.heap.push ob).objs.size;rw[a];exact yU (fy this)
 ·exact(K b f).2.2.2.2.1 x c (s x c e)
 ·exact Q b o (I.bk b o e)
 ·exact E b o (I.bk b o e) (I.bs b o e).2
 ·show X.base.objs.size<=(s2.heap.push ob).objs.size;have:=jU I.ok.Ba I.sz;rw[a];lia
 ·obtain⟨f0,f1,f2,f3,f4,f5⟩:=K b f;rcases f3 with z|z
  ·exact I.ok.FJ b o e z
  ·exact absurd (QA e) (Nat.not_lt.mpr (jU I.ok.Ba z))
 ·obtain⟨f0,f1,f2,f3,f4,f5⟩:=K b f;intro z;rcases Qp.mp (I.FN b z)with z|z
  ·exact f1 z
  ·exact f2 z
 ·exact Heap.FunFrames.of_keeps (λb o e _=>⟨o,Q b o e,rfl⟩) I.stack
 ·obtain⟨o,e⟩:=Yu b f;exact E b o e (I.ON b f)
 ·unfold Ac at l;by_cases hi:i<own.length
  ·rw[Qg (by simpa using hi),List.getElem?_replicate,if_pos hi]at l;cases l
  ·rw[nT (by simpa using hi),List.length_replicate,Qq]at l;have t:N'[i]? =some x:=R;rw[S.nn,nT (by simpa using hi),Qq]at t;cases ej:idx[i-own.length]? with
   |none=>rw[ej]at t;cases t
   |some j=>
    rw[ej]at t l;obtain⟨Ib,ku⟩:=S.seen j (QD ej);have hx:X.N[j]? =some x:=by
     have:X.N.getD j ""=x:=QE t;rw[<- this,Qb,Qa ku];rfl
    have hv:Z[j]? =some (some v):=by
     have G:(Z[j]?).join=some v:=QE l;cases q:Z[j]? with
     |none=>rw[q]at G;cases G
     |some w=>rw[q]at G;exact congrArg some G
    have Pq:sc.names.lookup x=some .free:=by
     have:X.N.getD j ""=x:=QE t;rw[<- this];exact Ib
    have T:(x,NameKind.free)∈sc.names:=lx Pq;obtain⟨m,hn,hl⟩:=I.loc;have Yx:Ed X.env.scope x:=by
     rcases S.free _ T rfl with z|z
     ·exact .inr (.inl z)
     ·exact .inr (.inr z)
    obtain⟨u,r,lk⟩:=hl j x v hx hv Yx;refine⟨u,r,?_⟩;rcases lk with⟨k,_⟩|⟨k,c,e,z⟩
    ·rcases S.free _ T rfl with q|q
     ·have V:X.env.kindOf x=some .cell:=q;rw[V]at k;cases k
     ·have V:X.env.kindOf x=some .free:=q;rw[V]at k;cases k
    ·obtain⟨c',xw⟩:=L (x,.free) T rfl;have e':=s x c' xw;rw[e]at e';cases e';refine .inr ⟨?_,c,xw,?_⟩
     ·rcases eG (env:=X.env) Pq with q|q
      ·exact .inl q
      ·exact .inr q
     ·obtain⟨o,zl,hd⟩:=z;exact⟨o,D c o zl,hd⟩
 ·obtain⟨v,o,zl,hd⟩:=I.cell x c (s x c e);exact⟨v,o,D c o zl,hd⟩
 ·show upd H2 s2.heap.objs.size g (s2.heap.push ob).objs.size=none;rw[aB (by rw[a];exact dq (Nat.lt_succ_self _))];exact I.hok.fresh (by rw[a];lia)
 ·obtain⟨o,e1⟩:=Yv x c e;exact E c o e1 (I.zk x c (s x c e))
 ·have K3:p∈X.pn++B:=by simpa using hp
  obtain⟨e,n,ne,nf,d⟩:=I.pin p K3;refine⟨D _ _ e,E _ _ e n,?_,λz=>?_,d⟩
  ·have:=QA e;show p.1≠(s2.heap.push ob).objs.size;rw[a];exact yU (fy this)
  ·rcases Qp.mp (I.FN p.1 z)with z|z
   ·exact ne z
   ·exact nf z
 ·show(Ac own idx Z).length=N'.length;rw[S.nn];unfold Ac;simp
theorem yI{g:List (Str×Addr)}{ob:Obj}{f:HO}{h:St}{d:Shared}(I:Inv X B Z H2 s2)(i:∀b∈fp,wg X B H2 b)(hob:ob.isFreed=false)
  (J:Inv (cy X N' sc g (s2.heap.push ob).objs.size {s2 with heap:=s2.heap.push ob} (upd H2 s2.heap.objs.size f) fp (X.pn++B)) [] h U d):
  Inv X B Z U d/\U (s2.heap.push ob).objs.size=none/\(s2.heap.push ob).objs.size≠X.env.locals/\X.s₀.heap.objs.size<=(s2.heap.push ob).objs.size/\
   (∀x c,'g'->c≠(s2.heap.push ob).objs.size)/\(∀p∈X.pn++B,p.1≠(s2.heap.push ob).objs.size)/\∃m,d.heap.Ns (s2.heap.push ob).objs.size m:=by
 have a:(s2.heap.push ob).objs.size=s2.heap.objs.size+1:=ko _ _;have j:Un (vc X.stack) fp H2 (upd H2 s2.heap.objs.size f) s2.heap (s2.heap.push ob):=Un.laid (λb o e=>Qc _ e) (Qz _) (I.hok.fresh (Qz _));have k:Un (vc X.stack) fp (upd H2 s2.heap.objs.size f) U (s2.heap.push ob) d.heap:=J.base;have l:d.os=s2.os:=J.os;refine⟨I.VX l (j.trans k) J.hok J.bare λb n=>?_,J.free,?_,?_,λx c e z=>?_,λp r z=>?_,let ⟨m,hn,_⟩:=J.loc;⟨m,hn⟩⟩
 ·obtain⟨f0,f1,f2,f3,f4,f5⟩:=i b n;exact⟨f3,f1,f4,f5⟩
 ·rw[a];exact dq (fy I.lt)
 ·have:=I.sz;rw[a];lia
 ·obtain⟨v,q⟩:=I.cell x c e;have:=q.lt;rw[z,a]at this;exact absurd this (Nat.not_lt.mpr (lb _))
 ·have:=QA (I.pin p r).1;rw[z,a]at this;exact absurd this (Nat.not_lt.mpr (lb _))
end
abbrev jm:Value->Shared->Prop:=λ_ _=>False
theorem Yy {o a f:Expr} {scope:Scope} {q:Pos} {z p:Value} (I:Nat->Shared->Prop)
  (turn:∀ n s,I n s->wpAny 'f' A (pyNext z) (λr b=>match r with
   | none=>R (.ok .next) b
   | some v=>wpAny 'f' A (letOwnedTupleGo a z v) (λ_ C=>wpAny 'f' A (assign a env v) (λ_ g=>
     wpAny 'f' A (forIn ifs true λc r=>if r=true then do let ok <- isTrue c env (eval c env);pure (ForInStep.yield ok) else pure (ForInStep.yield r)) (λok d=>
      if ok=true then wpAny 'f' A (eval o env) (λx i=>
       wpAny 'f' A (call (.builtin "list.append") [p,x]) (λ_ j=>∃ m,m < n/\I m j) jm i) jm d
      else ∃ m,m < n/\I m d) jm g) jm C) jm b) jm s)
  (n:Nat) (h:I n s):
  codeAny 'f' A (.compLoop (.ListComp o [⟨a,f,ifs,0⟩] scope q) 0 z p env) R s:=by
 refine codeAny_loop rfl I (λn s D=>?_) n h
 show wpAny _ A ((compTurn (.ListComp o [⟨a,f,ifs,0⟩] scope q) 0 z p env).onRaise (λx=>do noteFrame x env;theTreesLotGoes x)) _ _ s
 refine wpAny_noted ?_
 rw [compTurn_list]
 refine QT (wpAny_standAt (QT (wpAny_mono (turn n s D) (λr b k=>?_) λ_ _ e=>e.elim)))
 cases r with
 | none=>exact QU k
 | some v=>
  refine QT (wpAny_mono k (λ_ C E=>?_) λ_ _ e=>e.elim)
  refine QT (wpAny_mono E (λ_ g t=>QT (wpAny_mono t (λok d l=>?_) λ_ _ e=>e.elim)) λ_ _ e=>e.elim)
  cases ok with
  | false=>exact QU ⟨rfl,l⟩
  | true=>
   exact QT (QT (wpAny_mono l (λx i u=>QT (wpAny_mono u (λ_ j y=>QU (QU ⟨rfl,y⟩)) λ_ _ e=>e.elim)) λ_ _ e=>e.elim))
abbrev TC:=St->Hp->(Bool->Hp->Prop)->Prop
def Ad(X:Cx)(a:List Expr)(t:TC):Prop:=
 ∀(B:'e')(s:Shared)(Z:St)(H:Hp)(Q:Bool->Hp->Prop),Inv X B Z H s->t Z H Q->
  wpAny 'a' X.A (forIn a true λc r=>if r=true then do let ok <- isTrue c X.env (eval c X.env);pure (ForInStep.yield ok)else pure (ForInStep.yield r)) (TP X B Z Q) X.xe s
def Ce:TC:=λ_ H Q=>Q true H
theorem Yz:Ad X [] Ce:=λa s b H Q I h=>QU ⟨H,I,h⟩
theorem YA{c:Expr}{t:TT}(h:PT X c t):Ad X [c] t:=λa s b H Q I d=>wpAny_tests_one (h a s b H Q I d)
def Bk (own:aU) (idx:cm) (j:TI) (g:TG) (k:TC) (l:TE):TE:=λZ H Q=>j Z H λJ H1=>∀ D,H1 D=none->∃ W:Nat->Nat->St->Hp->Prop,(∃ m,W 0 m (Ac own idx Z) (upd H1 D (.lst [])))/\∀ i m d H,W i m d H->
 (J.stop i H/\Q (.ref D) H)\/(J.go i H/\∃ N:St->Hp->Prop,(∀ c U,N c U->∃ e,e < m/\W (i+1) e c U)/\∀ x U,J.qx i H x U->g x d U λa H2=>k a H2 λb f=>
  if b=true then l a f λy h=>∃ xs,h D=some (.lst xs)/\xs.length < sizeLine/\N a (upd h D (.lst (xs++[y]))) else N a f)
section
variable{iter elt:Expr}{pos:Pos}{wi:TI}{g:TG}{tc:TC}
abbrev YB:Obj:={cls:=.type "list",dict:=none,data:=.seq ([]:cq).toArray}
def YC (X:Cx) (f h:Expr) (g:List Expr) (sel:Env->Addr->Shared->(Shared->Prop)->Prop):Prop:=
 ∀ (it:Value) (D:Addr) (env:Env) (R:Result->Shared->Prop) (s:Shared) (I:Nat->Shared->Prop),
  (∀ n s,I n s->wpAny 'a' X.A (pyNext it) (λr a=>match r with
   | none=>R (.ok .next) a
   | some v=>wpAny 'a' X.A (letOwnedTupleGo h it v) (λ_ i=>wpAny 'a' X.A (assign h env v) (λ_ d=>
     wpAny 'a' X.A (forIn g true λc r=>if r=true then do let ok <- isTrue c env (eval c env);pure (ForInStep.yield ok) else pure (ForInStep.yield r)) (λok b=>
      if ok=true then sel env D b (λe=>∃ m,m < n/\I m e) else ∃ m,m < n/\I m b) jm d) jm i) jm a) jm s)->
  ∀ n,I n s->codeAny 'a' X.A (.compLoop f 0 it (.ref D) env) R s
theorem mU (S:'m') {f:List (Str×Addr)} (c1:∀ x c,f.lookup x=some c->'g') (c2:∀ y∈sc.names,y.2=.free->∃ c,f.lookup y.1=some c) (hc:X.calm=true)
  {l:Expr} {ob:Obj} {o0:HO} {mk:Sem Value} {sel:Env->Addr->Shared->(Shared->Prop)->Prop} (el:Addr->St->Hp->(Hp->Prop)->Prop) (hob:ob.isFreed=false) (L:YC X l tg ifs sel)
  (al:∀ {env D s} {K K':Shared->Prop},sel env D s K->(∀ s',K s'->K' s')->sel env D s K')
  (qw:∀ it q env R s,codeAny 'a' X.A (.compLoop l 0 it q env) R s->wpAny 'a' X.A (pyIter it) (λGa s'=>codeAny 'a' X.A (.compLoop l 0 Ga q env) R s') (notedBy 'a' X.A env λx s'=>R (.error x) s') s->
   codeAny 'a' X.A (.compStart l 0 it q env) R s)
  (hg:∀ f C s3 H0 fp pn,PG (cy X N' sc f C s3 H0 fp pn) tg g) (ht:∀ f C s3 H0 fp pn,Ad (cy X N' sc f C s3 H0 fp pn) ifs tc)
  (he:∀ f C s3 H0 fp pn B s t H D N,Inv (cy X N' sc f C s3 H0 fp pn) B t H s->el D t H N->sel (cy X N' sc f C s3 H0 fp pn).env D s λs'=>∃ U,Inv (cy X N' sc f C s3 H0 fp pn) B t U s'/\N U)
  {B:'e'} {Z:St} {Q:VK} {ud:Value} {a:Shared} {RR:Value->Addr->Result->Shared->Prop} {E:Value->Shared->Prop}
  (YD:∀ Q E,Q (.ref a.heap.objs.size) {a with heap:=a.heap.push ob}->wpAny 'a' X.A mk Q E a)
  (YE:∀ U,Inv X B Z U a->∀ (H:Hp) (h:Heap),h.get? a.heap.objs.size=some ob->br X.prog X.w H h a.heap.objs.size o0)
  (hI:Ei X B Z tg (λJ H1=>∀ D,H1 D=none->∃ W:Nat->Nat->St->Hp->Prop,(∃ m,W 0 m (Ac own idx Z) (upd H1 D o0))/\∀ i m t H,W i m t H->
   (J.stop i H/\Q (.ref D) H)\/(J.go i H/\∃ N:St->Hp->Prop,(∀ G U,N G U->∃ m',m' < m/\W (i+1) m' G U)/\∀ x U,J.qx i H x U->g x t U λab H2=>tc ab H2 λb H3=>if b=true then el D ab H3 (N ab) else N ab H3)) ud a)
  (Gb:∀ D C U s',Inv X B Z U s'->Q (.ref D) U->(U C=none/\C≠X.env.locals/\X.s₀.heap.objs.size<=C/\(∀ x c,'g'->c≠C)/\(∀ p∈X.pn++B,p.1≠C)/\∃ m,s'.heap.Ns C m)->RR (.ref D) C (.ok .next) s'):
  wpAny 'a' X.A mk (λq am=>wpAny 'a' X.A (newFunctionEnv sc X.env.globals f [] X.env.qual none .none (some X.env)) (λag an=>
   codeAny 'a' X.A (.compStart l 0 ud q {ag with scope:=relabel sc X.env}) (RR q ag.locals) an) E am) E a:=by
 obtain ⟨it,fp,tn,J,H2,rfl,I,T,jx,f2,ao⟩:=hI
 refine YD _ _ (wpAny_newFunctionEnv S.cell (by intro y hy;simp at hy) (λh4 ns sb=>?_) S.kind)
 dsimp only at ns sb ⊢
 have fr:H2 a.heap.objs.size=none:=I.hok.fresh (Qz _)
 obtain ⟨W,⟨m0,w0⟩,turn⟩:=ao _ fr
 have F_:∀ b∈fp,∃ o,a.heap.get? b=some o:=λb j=>let ⟨o,e,_⟩:=T.obj _ _ jx b j;⟨o,e⟩
 have Ew:∀ b o,(a.heap.push ob).get? b=some o->h4.get? b=some o:=λb o e=>(sb.2 b (yU (QA e))).trans (Qc _ e)
 have YF:=YE _ I
 have I4:Inv (cy X N' sc f (a.heap.push ob).objs.size {a with heap:=a.heap.push ob} (upd H2 a.heap.objs.size o0) fp (X.pn++B)) [] (Ac own idx Z) (upd H2 a.heap.objs.size o0) {a with heap:=h4,toks:=a.toks+([]:List (Str×Value)).length}:=
  Ys S I f2 F_ c1 c2 hob YF ns Ew
 -- HQ agS own context
 generalize k:cy X N' sc f (a.heap.push ob).objs.size {a with heap:=a.heap.push ob} (upd H2 a.heap.objs.size o0) fp (X.pn++B)=Y at I4
 have YG:PG Y tg g:=by rw [<- k];exact hg _ _ _ _ _ _
 have YH:Ad Y ifs tc:=by rw [<- k];exact ht _ _ _ _ _ _
 have YI:∀ B s t H D N,Inv Y B t H s->el D t H N->sel Y.env D s λs'=>∃ U,Inv Y B t U s'/\N U:=by rw [<- k];exact he _ _ _ _ _ _
 have pY:Y.prog=X.prog:=by rw [<- k]
 have wY:Y.w=X.w:=by rw [<- k]
 have KY:Y.K=X.K:=by rw [<- k]
 have AY:Y.A=X.A:=by rw [<- k]
 have cY:Y.calm=true:=by rw [<- k];exact hc
 have xY:Y.xe=λ_ _=>False:=by rw [<- k]
 have eY:Y.env=compEnvC sc f (a.heap.push ob).objs.size X.env:=by rw [<- k]
 have YJ:Y.ex=fp:=by rw [<- k]
 have YK:Y.fs=vc X.stack:=by rw [<- k]
 have YL:Y.pn=X.pn++B:=by rw [<- k]
 have CZ:∀ {U:Hp},(∀ b∈fp,U b=none)->∀ b∈fp,wg Y [] U b:=λhn b j=>by
  obtain ⟨f0,f1,f3,f4,f5,f6⟩:=f2 b j
  refine ⟨hn b j,?_,?_,.inl (by rw [YJ];exact j),λx c e=>?_,λp hp=>?_⟩
  ·obtain ⟨o,e⟩:=F_ b j
   have:=QA e
   rw [eY]
   show b≠(a.heap.push ob).objs.size
   rw [ko];exact yU (fy this)
  ·rw [YK]
   intro z
   rcases Qp.mp (I.FN b z) with z | z
   ·exact f1 z
   ·exact f3 z
  ·rw [eY] at e
   exact f5 x c (c1 x c e)
  ·rw [YL,QR] at hp
   exact f6 p hp
 have Pu:tn 0 h4:=T.keep _ _ _ jx λb j o e=>Ew b o (Qc _ e)
 have Gc:∀ b∈fp,upd H2 a.heap.objs.size o0 b=none:=λb j=>by
  obtain ⟨o,e⟩:=F_ b j
  rw [aB (yU (QA e))]
  exact (f2 b j).1
 have ah:codeAny 'a' X.A (.compLoop l 0 (.ref it) (.ref a.heap.objs.size) (compEnvC sc f (a.heap.push ob).objs.size X.env))
   (RR (.ref a.heap.objs.size) (a.heap.push ob).objs.size) {a with heap:=h4,toks:=a.toks+([]:List (Str×Value)).length}:=by
  refine L _ _ _ _ _ (λn s'=>∃ i t U,Inv Y [] t U s'/\tn i s'.heap/\(∀ b∈fp,U b=none)/\W i n t U) ?_ m0 ⟨0,_,_,I4,Pu,Gc,w0⟩
  rintro n s3 ⟨i,af,H3,I3,FS,zw,w3⟩
  rcases turn i n af H3 w3 with ⟨stop,qn⟩ | ⟨go,N,hN,ap⟩
  ·have h:=T.done Y pY wY KY cY i [] s3 af H3 jm I3 (CZ zw) FS stop
   rw [AY] at h
   refine ay h ?_
   rintro r s4 ⟨hr,YM⟩
   subst hr
   have J4:=YM
   rw [<- k] at J4
   obtain ⟨b1,b2⟩:=yI I f2 hob J4
   exact Gb _ _ _ _ b1 qn b2
  ·have h:=T.item Y pY wY KY cY i [] s3 af H3 jm I3 (CZ zw) FS go
   rw [AY] at h
   refine ay h ?_
   rintro r s4 ⟨u,hr,YN⟩
   subst hr
   refine ay YN ?_
   rintro _ s5 ⟨x,H5,I5,r5,y5,C0,Ky⟩
   have Kz:=I5.pinned (CZ Ky) (T.obj _ _ C0)
   have g5:=YG _ s5 af H5 x u _ Kz r5 (ap x H5 y5)
   rw [pY,wY,AY,xY,eY] at g5
   refine ay g5 ?_
   rintro _ s6 ⟨ar,H6,I6,q6⟩
   have t6:=YH _ s6 ar H6 _ I6 q6
   rw [pY,wY,AY,xY,eY] at t6
   refine ay t6 ?_
   rintro ok s7 ⟨H7,I7,q7⟩
   have P:∀ {V:St} {H8:Hp} {s8:Shared},Inv Y ([]++FQ fp s5.heap) V H8 s8->N V H8->∃ m,m < n/\∃ i G U,Inv Y [] G U s8/\tn i s8.heap/\(∀ b∈fp,U b=none)/\W i m G U:=λ{V H8 s8} I8 n8=>by
    obtain ⟨m',hm,w8⟩:=hN V H8 n8
    refine ⟨m',hm,i+1,V,H8,I8.HP,T.keep _ _ _ C0 λb j o e=>(I8.pin (b,o) (ix _ (ix _ (gR j e)))).1,λb j=>?_,w8⟩
    obtain ⟨o,e,d⟩:=T.obj _ _ C0 b j
    exact (I8.pin (b,o) (ix _ (ix _ (gR j e)))).2.1
   cases ok with
   | false=>
    rw [if_neg (by decide)] at q7 ⊢
    exact P I7 q7
   | true=>
    rw [if_pos rfl] at q7 ⊢
    have e7:=YI _ s7 ar H7 a.heap.objs.size _ I7 q7
    rw [eY] at e7
    exact al e7 λs8 ⟨H8,I8,n8⟩=>P I8 n8
 exact qw _ _ _ _ _ ah (T.self _ 0 _ _ _ Pu ah)
theorem mZ (S:'m') {a:List (Str×Addr)} (c1:∀ x c,a.lookup x=some c->'g') (c2:∀ y∈sc.names,y.2=.free->∃ c,a.lookup y.1=some c) (hc:X.calm=true)
  (hg:∀ a C j H0 fp pn,PG (cy X N' sc a C j H0 fp pn) tg g) (ht:∀ a C j H0 fp pn,Ad (cy X N' sc a C j H0 fp pn) ifs tc) (he:∀ a C j H0 fp pn,PE (cy X N' sc a C j H0 fp pn) elt te)
  {B:'e'} {Z:St} {Q:VK} {L:Value} {P:Shared} {RR:Value->Addr->Result->Shared->Prop} {E:Value->Shared->Prop}
  (hI:Ei X B Z tg (λJ H1=>∀ D,H1 D=none->∃ W:Nat->Nat->St->Hp->Prop,(∃ m,W 0 m (Ac own idx Z) (upd H1 D (.lst [])))/\∀ i m o H,W i m o H->
   (J.stop i H/\Q (.ref D) H)\/(J.go i H/\∃ N:St->Hp->Prop,(∀ r U,N r U->∃ T,T < m/\W (i+1) T r U)/\∀ x U,J.qx i H x U->g x o U λf H2=>tc f H2 λb V=>
    if b=true then te f V λy t=>∃ xs,t D=some (.lst xs)/\xs.length < sizeLine/\N f (upd t D (.lst (xs++[y]))) else N f V)) L P)
  (Gb:∀ D C U s',Inv X B Z U s'->Q (.ref D) U->(U C=none/\C≠X.env.locals/\X.s₀.heap.objs.size<=C/\(∀ x c,'g'->c≠C)/\(∀ p∈X.pn++B,p.1≠C)/\∃ m,s'.heap.Ns C m)->RR (.ref D) C (.ok .next) s'):
  wpAny 'a' X.A (newList []) (λu z=>wpAny 'a' X.A (newFunctionEnv sc X.env.globals a [] X.env.qual none .none (some X.env)) (λl d=>
   codeAny 'a' X.A (.compStart (.ListComp elt [⟨tg,iter,ifs,0⟩] sc pos) 0 L u {l with scope:=relabel sc X.env}) (RR u l.locals) d) E z) E P:=by
 refine mU (ob:=YB) (sel:=λenv D s K=>wpAny 'a' X.A (eval elt env) (λx d=>wpAny 'a' X.A (call (.builtin "list.append") [.ref D,x]) (λ_ G=>K G) jm d) jm s) (o0:=.lst []) (el:=λD o H K=>te o H λy t=>∃ xs,t D=some (.lst xs)/\xs.length < sizeLine/\K (upd t D (.lst (xs++[y])))) S c1 c2 hc (hob:=rfl)
  (λit D env R s I turn n h=>Yy I turn n h) (λh k=>ay h λ_ _ h=>ay h λ_ _ h=>k _ h) (λ_ _ _ _ _=>codeAny_compStart_list) hg ht (λa C j H0 fp pn B s o H D N I q=>?_) (λQ E h=>wpAny_newObj_type h) (λU I H h e=>⟨dm _,[],_,.nil,e⟩) hI Gb
 refine ay (he a C j H0 fp pn _ s o H _ I q) ?_
 rintro yv s8 ⟨y,H8,I8,r8,xs,YO,hz,n8⟩
 exact ay (bF (X:=cy X N' sc a C j H0 fp pn) _ s8 o H8 (.ref D) [y] (.ref D) [yv] (λv U=>N U) I8 rfl (.cons r8 .nil) ⟨_,xs,y,rfl,rfl,YO,hz,n8⟩) λ_ s9 ⟨_,H9,I9,_,n9⟩=>⟨H9,I9,n9⟩
theorem q_.closure(S:'m')(ok:X.Ok):∃a,closureFor sc X.env=pure a/\(∀x c,a.lookup x=some c->'g')/\(∀y∈sc.names,y.2=.free->∃c,a.lookup y.1=some c):=
 vJ λy b d=>ok.has _ (S.free y b d)
theorem YQ(S:'m')(i:X.calm=true)(j:PI X tg iter wi)
  (k:∀a C c H0 fp d,PG (cy X N' sc a C c H0 fp d) tg g) (l:∀a C c H0 fp d,Ad (cy X N' sc a C c H0 fp d) ifs tc) (n:∀a C c H0 fp d,PE (cy X N' sc a C c H0 fp d) elt te)
  (hs:∀x,foldedSetIterable iter X.env x=pure x:=by intro _;rfl):PE X (.ListComp elt [⟨tg,iter,ifs,0⟩] sc pos) (Bk own idx wi g tc te):=by
 intro B s Z H Q I h;obtain⟨a,uf,c1,c2⟩:=S.closure I.ok;rw[eval_ListComp];refine wpAny_comprehension_free (use:=none) rfl hs uf S.kind S.names (ay (j B s Z H _ I h) λv V p=>ay p λud s2 r=>?_);refine mZ (Q:=Q) (B:=B) (Z:=Z) (RR:=λf C=>compPost 'a' X.A X.xe none (EP X B Z Q) f C) S c1 c2 i k l n r ?_;intro D C t u y q ⟨z,E,G,K,L,m,P⟩;exact⟨m,P,λM R=>⟨.ref D,t,y.turned (t':=u.toks) (λb o T e=>(R.2 b T).trans e) z (Ne.symm (Ne.symm E)) (.inr G) K L,rfl,q⟩⟩
theorem YR{y:Str}{d c:Pos}(S:'m')(G:X.calm=true)(K:PI X tg iter wi)
  (L:∀f C j H0 fp k,PG (cy X N' sc f C j H0 fp k) tg g) (P:∀f C j H0 fp k,Ad (cy X N' sc f C j H0 fp k) ifs tc) (R:∀f C j H0 fp k,PE (cy X N' sc f C j H0 fp k) elt te)
  (T:X.N.Nodup) (V:X.N[i]? =some y) (r:X.env.scope.names.lookup y=some .local)
  (Ge:swapsWith (.ListComp elt [⟨tg,iter,ifs,0⟩] sc pos) (some (.Name y d)) c.line X.env=pure true:=by rfl)
  (hs:∀x,foldedSetIterable iter X.env x=pure x:=by intro _;rfl):PS X (.Assign [.Name y d] (.ListComp elt [⟨tg,iter,ifs,0⟩] sc pos) c) (zu (Bk own idx wi g tc te) (jj i)):=by
 intro B s Z H D I h;obtain⟨f,uf,c1,c2⟩:=S.closure I.ok;rw[exec_Assign_Name_used _ _ _ _ Ge];refine QT (wpAny_standAt (QT ?_));show wpAny _ X.A (do let _ <- comprehension (.ListComp elt [⟨tg,iter,ifs,0⟩] sc pos) sc X.env _ (newList []) false (eval iter X.env) (some (assign (.Name y d) X.env))) _ _ s;refine QT (wpAny_mono (wpAny_comprehension_free (use:=some (assign (.Name y d) X.env)) (Q:=λ_ l=>SP X B D .next l) rfl hs uf S.kind S.names
  (ay (K B s Z H _ I h) λv s1 Y=>ay Y λud s2 h2=>?_)) (λ_ l hq=>QU (QU hq)) λ_ _ e=>e)
 refine mZ (Q:=λx H1=>jj i x Z H1 D.nx) (B:=B) (Z:=Z) (RR:=λn C=>compPost 'a' X.A X.xe (some (assign (.Name y d) X.env)) (λ_ l=>SP X B D .next l) n C) S c1 c2 G L P R h2 ?_;intro t C U l I' q ⟨a1,u,a3,E,a5,m,a6⟩;show wpAny _ X.A (assign (.Name y d) X.env (.ref t)) _ _ _;refine wpAny_assign_Name (lA (v:=.ref t) I' T V (.inl r) rfl ?_ (.inr r));rintro p K5 ⟨a,sb,ha⟩;have K6:C≠a:=by
  rcases ha with z|z
  ·rw[z];exact u
  ·exact Ne.symm (E _ _ z)
 refine⟨m,a6.sameBut sb K6,λM Ew=>⟨_,U,K5.turned (t':=p.toks) (λb o hb e=>(Ew.2 b hb).trans e) a1 u (.inr a3) E a5,q⟩⟩
end
def tV(i:Nat):TE:=λZ H Q=>match Z[i]? with|some (some v)=>Q v H|_=>False
theorem YS(i:Nat){b:Pos}(c:X.N[i]? =some x:=by rfl)(hv:Ed X.env.scope x:=by first|exact Or.inl rfl|exact Or.inr (Or.inl rfl)|exact Or.inr (Or.inr rfl))(d:db x:=by decide)(f:(x==("__classdict__":Str))=false:=by decide):PE X (.Name x b) (tV i):=by
 intro a s g H Q I h;refine VZ c hv d f a s g H Q I ?_;unfold tV at h;split at h
 ·next v e=>exact⟨v,e,h⟩
 ·exact h.elim
def Ic:R2:=λx y H Q=>match x,y with
 | .int i,.int j=>Q (.int (i+j)) H
 | .str i,.str j=>i.length+j.length<=sizeLine/\Q (.str (i++j)) H
 | .ref l,.ref b=>(∃xs zs,H l=some (.lst xs)/\H b=some (.lst zs)/\xs.length+zs.length<=sizeLine/\∀p,H p=none->Q (.ref p) (upd H p (.lst (xs++zs))))
 |_,_=>False
theorem bS:di X (binaryOp .Add) Ic:=by
 intro a s b H x y v u Q I c d h;cases x<;>cases y<;>first
  |exact(show False from h).elim
  |exact WD a s b H _ _ v u Q I c d ⟨_,_,rfl,rfl,h⟩
  |exact vO a s b H _ _ v u Q I c d ⟨_,_,rfl,rfl,h.1,h.2⟩
  |(obtain⟨xs,zs,Y,h2,h3,h4⟩:=h;exact XZ a s b H _ _ v u Q I c d ⟨_,_,xs,zs,rfl,rfl,Y,h2,h3,h4⟩)
def YT:R2:=λx y H Q=>match x,y with| .int i,.int j=>HU i j/\Q (.int (i*j)) H|_,_=>False
theorem eI:di X (binaryOp .Mult) YT:=by
 intro a s b H x y v u Q I c d h;cases x<;>cases y<;>first
  |exact(show False from h).elim
  |exact WE a s b H _ _ v u Q I c d ⟨_,_,rfl,rfl,h.1,h.2⟩
def YU:R2:=λx y H Q=>match x,y with| .int i,.int j=>0<j/\Q (.int (i % j)) H|_,_=>False
theorem dR:di X (binaryOp .Mod) YU:=by
 intro a s b H x y v u Q I c d h;cases x<;>cases y<;>first
  |exact(show False from h).elim
  |exact WH a s b H _ _ v u Q I c d ⟨_,_,rfl,rfl,h.1,h.2⟩
def YV:R2:=λx y H Q=>match x,y with| .int i,.int j=>(0<j/\j<1073741824)/\Q (.int (i / j)) H|_,_=>False
theorem xU:di X (binaryOp .FloorDiv) YV:=by
 intro a s b H x y v u Q I c d h;cases x<;>cases y<;>first
  |exact(show False from h).elim
  |exact WG a s b H _ _ v u Q I c d ⟨_,_,rfl,rfl,h.1,h.2⟩
def YW:R2:=λx y H Q=>match x,y with| .int i,.int j=>O2 i j/\Q (.int (i^j.toNat)) H|_,_=>False
theorem YX:di X (binaryOp .Pow) YW:=by
 intro a s b H x y v u Q I c d h;cases x<;>cases y<;>first
  |exact(show False from h).elim
  |exact WI a s b H _ _ v u Q I c d ⟨_,_,rfl,rfl,h.1,h.2⟩
def K7(p:Int->Int->Bool):R2:=λx y H Q=>match x,y with| .int i,.int j=>Q (.bl (p i j)) H|_,_=>False
theorem Pw:di X (compareOp .Gt) (K7 λi j=>decide (j<i)):=by
 intro a s b H x y v u Q I c d h;cases x<;>cases y<;>first
  |exact(show False from h).elim
  |exact WR a s b H _ _ v u Q I c d ⟨_,_,rfl,rfl,h⟩
theorem Px:di X (compareOp .GtE) (K7 λi j=>decide (j<=i)):=by
 intro a s b H x y v u Q I c d h;cases x<;>cases y<;>first
  |exact(show False from h).elim
  |exact WS a s b H _ _ v u Q I c d ⟨_,_,rfl,rfl,h⟩
theorem YY:di X (compareOp .LtE) (K7 λi j=>decide (i<=j)):=by
 intro a s b H x y v u Q I c d h;cases x<;>cases y<;>first
  |exact(show False from h).elim
  |exact WQ a s b H _ _ v u Q I c d ⟨_,_,rfl,rfl,h⟩
def YZ:R2:=λx y H Q=>match x,y with
 | .int i,.int j=>Q (.bl (decide (i<j))) H
 | .str i,.str j=>Q (.bl (decide (i.cps.toList<j.cps.toList))) H
 |_,_=>False
theorem o7:di X (compareOp .Lt) YZ:=by
 intro a s b H x y v u Q I c d h;cases x<;>cases y<;>first
  |exact(show False from h).elim
  |exact WO a s b H _ _ v u Q I c d ⟨_,_,rfl,rfl,h⟩
  |exact yQ a s b H _ _ v u Q I c d ⟨_,_,rfl,rfl,h⟩
def Py(n:Bool):R2:=λx y H Q=>match x,y with
 | .ref a,.ref b=>a≠b/\∃xs,H a=some (.lst xs)/\H b=some (.lst [])/\Q (.bl (n^^xs.isEmpty)) H
 |x,y=>FT x y=true/\Q (.bl (n^^decide (x=y))) H
theorem Y0{xs:bY}(c:A.units<cLine)(I:Inv X B Z H s)(h:H a=some (.lst xs))(j:H b=some (.lst []))(l:a≠b)
  (q:∀tk,Q (.bool xs.isEmpty) {s with toks:=tk}) (d:Q (.bool xs.isEmpty) s):wpAny 'a' A (compareOp .Eq (.ref a) (.ref b)) Q E s:=by
 obtain⟨_,its,n,r1,e1⟩:=(show br X.prog X.w H s.heap a (.lst xs)from I.hok a _ h)
 obtain⟨_,its2,n2,r2,e2⟩:=(show br X.prog X.w H s.heap b (.lst [])from I.hok b _ j)
 cases r2;have f:s.heap.IsList a its.toArray:=⟨_,e1,rfl,_,rfl⟩
 have g:s.heap.IsList b (#[]:Array Value):=⟨_,e2,rfl,_,rfl⟩
 cases r1 with
 |nil=>
  exact SeqAt.eq_listAt (e:=λ_=>true) f g rfl c (λi k=>absurd k (by simp)) (by simpa using d)
 |cons z t=>
  exact SeqAt.eq_list_lengthsAt f g (by simp) c (by simpa using d)
theorem fC(f:X.A.units<cLine):di X (compareOp .Eq) (Py false):=by
 intro c s g H x y v u Q I d e h;have i:(∀a b,x=.ref a->y=.ref b->False)->FT x y=true/\Q (.bl (false^^decide (x=y))) H:=λj=>by
  cases x<;>cases y<;>first
   |exact(j _ _ rfl rfl).elim
   |exact h
 by_cases hr:∃a b,x=.ref a/\y=.ref b
 ·obtain⟨a,b,rfl,rfl⟩:=hr;obtain⟨mh,xs,Y,h2,q⟩:=h;cases d;cases e;exact Y0 f I Y h2 mh (λk=>⟨.bl xs.isEmpty,H,I.tok k,rfl,by simpa using q⟩) ⟨.bl xs.isEmpty,H,I,rfl,by simpa using q⟩
 ·obtain⟨Y,h2⟩:=i λa b l m=>hr ⟨a,b,l,m⟩;exact WL c s g H x y v u Q I d e ⟨Y,by simpa using h2⟩
theorem Y3{xs:bY}(c:A.units<cLine)(I:Inv X B Z H s)(h:H a=some (.lst xs))(j:H b=some (.lst []))
  (d:Q (.bool (!xs.isEmpty)) s):wpAny 'a' A (compareOp .NotEq (.ref a) (.ref b)) Q E s:=by
 obtain⟨_,its,n,r1,e1⟩:=(show br X.prog X.w H s.heap a (.lst xs)from I.hok a _ h)
 obtain⟨_,its2,n2,r2,e2⟩:=(show br X.prog X.w H s.heap b (.lst [])from I.hok b _ j)
 cases r2;have f:s.heap.IsList a its.toArray:=⟨_,e1,rfl,_,rfl⟩
 have g:s.heap.IsList b (#[]:Array Value):=⟨_,e2,rfl,_,rfl⟩
 cases r1 with
 |nil=>
  exact SeqAt.RcNeAt.lists (e:=λ_=>true) f g rfl c (λi k=>absurd k (by simp)) _ _ _ _ (by simpa using d)
 |cons z t=>
  exact SeqAt.RcNeAt.lists_lengths f g (by simp) c _ _ _ _ (by simpa using d)
theorem oP(f:X.A.units<cLine):di X (compareOp .NotEq) (Py true):=by
 intro c s g H x y v u Q I d e h;have i:(∀a b,x=.ref a->y=.ref b->False)->FT x y=true/\Q (.bl (true^^decide (x=y))) H:=λj=>by
  cases x<;>cases y<;>first
   |exact(j _ _ rfl rfl).elim
   |exact h
 by_cases hr:∃a b,x=.ref a/\y=.ref b
 ·obtain⟨a,b,rfl,rfl⟩:=hr;obtain⟨mh,xs,Y,h2,q⟩:=h;cases d;cases e;exact Y3 f I Y h2 ⟨.bl (!xs.isEmpty),H,I,rfl,by simpa using q⟩
 ·obtain⟨Y,h2⟩:=i λa b k l=>hr ⟨a,b,k,l⟩;exact WM c s g H x y v u Q I d e ⟨Y,by simpa using h2⟩
def AQ(K:Q0):R2:=λx y H Q=>match x,y with
 | .ref p,.int i=>∃xs v,(ai K H p xs\/ak K H p xs)/\qe xs i=some v/\Q v H
 | .str z,.int i=>z.length<=sizeLine/\∃c,qe z.cps.toList i=some c/\Q (.str ⟨#[c]⟩) H
 |_,_=>False
theorem Y4 : C7 X (AQ X.K) := by
  intro e f a s g H x y v u Q I i j h k
  cases x <;> cases y <;> first
    | exact (show False from h).elim
    | (obtain ⟨l, w, Y | Y, b, d⟩ := h
       · exact XE e f a s g H _ _ v u Q I i j ⟨_, l, _, w, rfl, rfl, Y, b, d⟩ k
       · exact XF e f a s g H _ _ v u Q I i j ⟨_, l, _, w, rfl, rfl, Y, b, d⟩ k)
    | (obtain ⟨Y, c, b, d⟩ := h; exact XG e f a s g H _ _ v u Q I i j ⟨_, _, c, rfl, rfl, Y, b, d⟩ k)
def Ie(K:Q0)(n:Bool):R2:=λx y H Q=>match y with
 | .str j=>∃i,x=.str i/\Q (.bl (n^^(!(Builtin.Str.occurrences j i 0 j.length 1).isEmpty))) H
 | .ref p=>∃xs,(ai K H p xs\/ak K H p xs)/\AM x=true/\xs.all AM=true/\Q (.bl (n^^Be x xs)) H
 |_=>False
theorem Y5:di X (compareOp .In) (Ie X.K false):=by
 intro a s b H x y v u Q I c d h;cases y<;>first
  |exact(show False from h).elim
  |(obtain⟨i,rfl,h2⟩:=h;exact yO a s b H _ _ v u Q I c d ⟨i,_,rfl,rfl,by simpa using h2⟩)
  |(obtain⟨xs,Y,h2,h3,h4⟩:=h;exact yM a s b H _ _ v u Q I c d ⟨_,xs,rfl,Y,h2,h3,by simpa using h4⟩)
def K8(K:Q0):bY->Hp->VK->Prop:=λxs H Q=>match xs with
 | [.str y]=>y.length<=sizeLine/\Q (.int y.length) H
 | [.ref p]=>(∃J,(ai K H p J\/ak K H p J)/\Q (.int J.length) H)\/(∃kvs,Rd H p (.dK kvs)/\Q (.int kvs.length) H)
 |_=>False
theorem yL:n_ X (.builtin "len") (K8 X.K):=by
 intro a s b H g c Q I r h;unfold K8 at h;split at h
 ·exact nA a s b H _ c Q I r ⟨_,_,rfl,⟨h.1,rfl⟩,h.2⟩
 ·rcases h with⟨e,Y|Y,q⟩|⟨d,Y,q⟩
  ·exact nA a s b H _ c Q I r ⟨_,_,rfl,.inl ⟨e,Y,rfl⟩,q⟩
  ·exact nA a s b H _ c Q I r ⟨_,_,rfl,.inr ⟨e,Y,rfl⟩,q⟩
  ·obtain⟨u,rfl,ru⟩:=vals1 r;cases ru;exact Yc I Y λt i f=>⟨.int d.length,H,f,⟨t,rfl⟩,q⟩
 ·exact h.elim
def Ex(H:Hp):V->Option String
 | .ao=>some "NoneType"
 | .bl _=>some "bool"
 | .int _=>some "int"
 | .str _=>some "str"
 | .ref a=>match H a with
  |some (.lst _)=>some "list"
  |some (.tup _)=>some "tuple"
  |some (.dK _)=>some "dict"
  |_=>none
 |_=>none
def Ig(t T:String):Bool:=t==T||(t=="bool"&&T=="int")
theorem Y6:∀(K:Q0)(t T:String),t∈["NoneType","bool","int","str","list","tuple","dict"]->T∈["bool","int","str","list","tuple","dict"]->PySem.W.kitOne K (.type t) (.type T)=some (Ig t T):=by
 intro K t T a b;simp only[Qp,QB,or_false]at a b;rcases a with rfl|rfl|rfl|rfl|rfl|rfl|rfl<;>rcases b with rfl|rfl|rfl|rfl|rfl|rfl<;>rfl
def Pz:bY->Hp->VK->Prop:=λxs H Q=>match xs with
 | [x,.ty T]=>T∈["bool","int","str","list","tuple","dict"]/\∃t,Ex H x=some t/\Q (.bl (Ig t T)) H
 |_=>False
theorem pK:n_ X (.builtin "isinstance") Pz:=by
 intro d s i H j k Q I r h;unfold Pz at h;split at h
 ·next x T=>
  obtain⟨hT,t,ht,q⟩:=h;obtain⟨u,c,rfl,ru,rc⟩:=r.two;cases rc;have fin:∀f,EP X d i Q (.bool (Ig t T)) {s with toks:=f}:=λf=>⟨.bl (Ig t T),H,I.tok f,rfl,q⟩
  have g:t∈["NoneType","bool","int","str","list","tuple","dict"]/\xx X.K H x (.type t):=by
   cases x with
   |ao=>cases ht;exact⟨by simp,.ao⟩
   |bl b=>cases ht;exact⟨by simp,.bl b⟩
   |int b=>cases ht;exact⟨by simp,.int b⟩
   |str b=>cases ht;exact⟨by simp,.str b⟩
   |ref a=>
    unfold Ex at ht;dsimp only at ht;split at ht
    ·next e=>cases ht;exact⟨by simp,.lst e⟩
    ·next e=>cases ht;exact⟨by simp,.tup e⟩
    ·next e=>cases ht;exact⟨by simp,.dK e⟩
    ·cases ht
   |_=>cases ht
  exact zA I ru g.2 (Y6 _ t T g.1 hT) fin
 ·exact h.elim
def K9(K:Q0):bY->Hp->VK->Prop:=λxs H Q=>match xs with
 | [.ref p]=>∃a:List Bool,ai K H p (a.map V.bl)/\Q (.bl (a.all id)) H
 |_=>False
theorem nN:∀{a:List Bool}{O:cq},bg (a.map V.bl) O->O=a.map Value.bool
 | [],_,.nil=>rfl
 |b::a,_,.cons r t=>by
  cases(show _=Value.bool b from r);rw[nN t];rfl
theorem zL(j:X.calm=true):n_ X (.builtin "all") (K9 X.K):=by
 intro d s x H y z Q I r h;unfold K9 at h;split at h
 ·next p=>
  obtain⟨bs,hq,q⟩:=h;obtain⟨u,rfl,ru⟩:=r.one;cases ru;obtain⟨its,rv,pl,hz⟩:=I.list hq;have e:=nN rv;subst e;have k:p<s.heap.objs.size:=by obtain⟨_,e,_⟩:=pl.isList;exact QA e
  refine call_all_walk (wpAny_pyIter_list pl.isList ?_);refine⟨s.heap.objs.size,[s.heap.objs.size,p],[s.heap.objs.size],(bs.map Value.bool).toArray.size,_,_,λi=>(bs[i]?).getD true,rfl,Walks.list (A:=X.A.in1) (I.ok.hd j) _ p (yU k) _,
   ⟨⟨_,Qd _ rfl,rfl,rfl⟩,pl.isList.push _⟩,λi v C D E l f=>?_,λG m n=>?_⟩
  ·have a:(bs.map Value.bool)[i]? =some v:=by simpa using l
   rw[Qq]at a;cases eb:bs[i]? with
   |none=>rw[eb]at a;cases a
   |some b=>
    rw[eb]at a;cases a;simp only[eb,Option.getD_some]at f;exact wpAny_truthy_bool f
  ·have e:((List.range (bs.map Value.bool).toArray.size).all λi=>(bs[i]?).getD true)=bs.all id:=by
    rw[wV,Ql];rw[jc,Qbc,Qbc];constructor
    ·intro h b t;obtain⟨i,c,rfl⟩:=Qi t;have:=h i (Qag.mpr c);simpa[Qa c]using this
    ·intro h i c;have g:=Qag.mp c;have:=h _ (Qj g);simpa[Qa g]using this
   rw[e];refine⟨.bl (bs.all id),H,I.kept (t':=m) λb o e=>n b o (λw=>?_) (Qc _ e),rfl,q⟩;rw[zO.mp w]at e;exact ft _ (QA e)
 ·exact h.elim
def Cf:V->Option Int->Option Int->Hp->VK->Prop:=λx lo hi H Q=>∃z,x=.str z/\z.length<=sizeLine/\Q (.str (Txt.slice z lo hi)) H
theorem Y7:z_ X Cf:=by
 intro a s d H x v vl n e f r Q I g i j m h;obtain⟨z,rfl,hz,q⟩:=h;obtain⟨t,rfl⟩:=(show ∃t,v=Value.str z t from g)
 refine⟨"str",_,F.slot_str_getitem.lookup,typeIs_str _ _ _,?_⟩;have b:∀{w:Value}{o:Option Int},IsPart w o->∃l:Option (Int×Tok),w=partValue l/\l.map (·.1)=o:=fun{w o}p=>by
  cases p with
  |none=>exact⟨none,rfl,rfl⟩
  |int k t=>exact⟨some (k,t),rfl,rfl⟩
 obtain⟨l,e1,e2⟩:=b j;obtain⟨u,e3,e4⟩:=b m;subst e1 e3;obtain⟨o,ho,hc,hd⟩:=i;refine wpAny_getItem_str_slice (l:=l) (u:=u) (st:=none) ⟨o,ho,hc,hd⟩ rfl ?_;refine post_val_or_str ⟨jU (Txt.slice_le z _ _) hz,λc k=>?_⟩;show EP X a d Q (.str (Txt.slice z (l.map (·.1)) (u.map (·.1))) c) _;rw[e2,e4];exact⟨.str (Txt.slice z e f),H,I.tok k,⟨c,rfl⟩,q⟩
def K_(z:Str):It:=⟨λi _=>i<z.cps.size,λi H x U=>U=H/\∃c,z.cps[i]? =some c/\x=.str ⟨#[c]⟩,λi _=>z.cps.size=i⟩
theorem vP{K:Q0}{St:Nat->Heap->Prop}(W:∀C:Around,C.handled=none->Walks P w C it [it] [it] z.cps.size (SignAt z) St)
  (L:∀(A:Around)(i:Nat)(s:Shared)(Q:Value->Shared->Prop)(E:Value->Shared->Prop),St i s.heap->Q (.ref it) s->wpAny (model P w) A (pyIter (.ref it)) Q E s)
  (D:∀i h,St i h->∃o n vs,h.get? it=some o/\o.cls=.type n/\o.data=.fields vs/\["enumerate","zip","dict_itemiterator","dict_reverseitemiterator","odict_iterator","itertools.zip_longest","itertools.pairwise"].contains n=false):dk P w K tg (K_ z) [it] it St where
 mem:=by simp
 obj:=λi h st b f=>by
  have e:b=it:=by simpa using f
  subst e;obtain⟨o,n,vs,e,c,d,_⟩:=D i h st;exact⟨o,e,λv z=>by rw[d]at z;cases z⟩
 keep:=λi h j st k=>(W {} rfl).frame _ _ _ st k
 item:=by
  intro X m p q r i a s G H E I l st u;subst m p q;obtain⟨f0,f1,f2,f3,f4,f5⟩:=l it (by simp);refine(W X.A (I.ok.hd r)).item i s _ _ u st λv j x hv g y=>?_;obtain⟨c,t,sr,rfl⟩:=hv;have N:Inv X a G H {s with heap:=j,toks:=x}:=I.turned (λb o f e=>y b o (by simpa using f) e) f0 f1 f3 f4 f5;obtain⟨o,n,vs,e,c',d,nn⟩:=D _ _ g;exact⟨_,rfl,lU (s:={s with heap:=j,toks:=x}) e c' d nn ⟨.str ⟨#[c]⟩,H,N,⟨t,rfl⟩,⟨rfl,c,sr,rfl⟩,g,λb f=>(l b f).1⟩⟩
 done:=by
  intro X m p q r i a s G H E I l st u;subst m p q;obtain⟨f0,f1,f2,f3,f4,f5⟩:=l it (by simp);have e:z.cps.size=i:=u;subst e;exact(W X.A (I.ok.hd r)).done s _ _ st λj x y=>⟨rfl,I.turned (λb o f e=>y b o (by simpa using f) e) f0 f1 f3 f4 f5⟩
 self:=L
def bq(P:Program)(w:World)(K:Q0)(a:Str->cv)(base:Heap)(k:Nat)(x:Str)(b:aU)(c:Sp):Prop:=
 ∃(f:Addr)(fd:FuncData),se P w K a base Aa k f fd b c/\a x=some (.ref f)/\PySem.W.keepIn K (.ref f)=true/\Binds K fd b []/\∃(d:Value)(od:Option Addr)(e:Array cv),K.lookup f=some ⟨d,od,.func fd,e⟩
section
variable{k:Nat}{sp:Sp}{p pos:Pos}{t:TA}
theorem Y8(F:bq X.prog X.w X.K X.mg X.base k x ps sp)(a:f_ k X.A)(c:PA X (e::es) t)(d:Gl X x:=by rfl)(g:db x:=by decide)
  (h:eH X e es:=by rfl) (i:eJ X pos es:=by rfl):
  PE X (.Call (.Name x p) (e::es) [] pos) (En sp [] E0 t):=by
 obtain⟨f,fd,G,Y9,kp,b,_⟩:=F;exact Xf G a d Y9 kp b .nil F8 c g h i
end
def iD(K:Q0)(b:TE):TI:=λZ H R=>b Z H λx H1=>match x with
 | .ref a=>((∃xs,ai K H1 a xs)/\R (Ej K a) H1)\/((∃xs,ak K H1 a xs)/\R (Kx K a) H1)
 | .str z=>R (K_ z) H1
 |_=>False
theorem Y_{l:Expr}{D:TE}(N:PE X l D):PI X tg l (iD X.K D):=by
 intro j s G H R I h;refine ay (N j s G H _ I h) ?_;rintro v f ⟨x,m,g,L,u⟩;cases x with
 |ref a=>
  cases L;rcases u with⟨⟨P,y⟩,q⟩|⟨⟨P,y⟩,q⟩
  ·obtain⟨its,rv,p,hz⟩:=g.list y;refine wpAny_pyIter_list p.isList ?_;refine⟨f.heap.objs.size,[f.heap.objs.size],_,_,m,rfl,g.kept (t':=f.toks) λb o e=>Qc _ e,yB a _,⟨_,Qd _ rfl,rfl,rfl⟩,λb k=>?_,q⟩;have e:b=f.heap.objs.size:=by simpa using k
   subst e;exact g.wj (Qz _) (g.hok.fresh (Qz _))
  ·obtain⟨its,rv,p,hz⟩:=g.tuple y;refine wpAny_pyIter_tuple (show f.heap.IsTuple a its.toArray from p) ?_;refine⟨f.heap.objs.size,[f.heap.objs.size],_,_,m,rfl,g.kept (t':=f.toks) λb o e=>Qc _ e,vL a _,⟨_,Qd _ rfl,rfl,rfl⟩,λb k=>?_,q⟩;have e:b=f.heap.objs.size:=by simpa using k
   subst e;exact g.wj (Qz _) (g.hok.fresh (Qz _))
 |str z=>
  obtain⟨t,rfl⟩:=(show ∃t,v=Value.str z t from L)
  have q:R (K_ z) m:=u;have fin:∀(o:Obj)(n:String)(W:∀r:Around,r.handled=none->Walks X.prog X.w r f.heap.objs.size [f.heap.objs.size] [f.heap.objs.size] z.cps.size (SignAt z) (λi h=>h.IsStrIter f.heap.objs.size n z t i)),
    (∀(A:Around)(i:Nat)(s:Shared)(Q:Value->Shared->Prop)(E:Value->Shared->Prop),s.heap.IsStrIter f.heap.objs.size n z t i->Q (.ref f.heap.objs.size) s->wpAny (model X.prog X.w) A (pyIter (.ref f.heap.objs.size)) Q E s)->
    ["enumerate","zip","dict_itemiterator","dict_reverseitemiterator","odict_iterator","itertools.zip_longest","itertools.pairwise"].contains n=false->
    (f.heap.push o).IsStrIter f.heap.objs.size n z t 0->Ei X j G tg R (.ref f.heap.objs.size) {f with heap:=f.heap.push o}:=by
   intro o n W T V st;refine⟨f.heap.objs.size,[f.heap.objs.size],_,_,m,rfl,g.kept (t':=f.toks) λb o e=>Qc _ e,vP W T (λi h st=>?_),st,λb k=>?_,q⟩
   ·obtain⟨o,e,c,d⟩:=st;exact⟨o,n,_,e,c,d,V⟩
   ·have e:b=f.heap.objs.size:=by simpa using k
    subst e;exact g.wj (Qz _) (g.hok.fresh (Qz _))
  cases ha:z.cps.all (· <128)
  ·exact wpAny_pyIter_wide ha (fin _ _ (λr C=>Walks.strWide C _ z t) (λA i s Q E st h=>wpAny_pyIter_striter_wide st h) (by decide) ⟨_,Qd _ rfl,rfl,rfl⟩)
  ·exact wpAny_pyIter_ascii ha (fin _ _ (λr C=>Walks.strAscii C _ z t) (λA i s Q E st h=>wpAny_pyIter_striter_ascii st h) (by decide) ⟨_,Qd _ rfl,rfl,rfl⟩)
 |_=>exact(show False from u).elim
def AR(J:It)(ok:Hp->Prop)(n:Nat)(a:Nat->V):Prop:=
 ∀H,ok H->(∀i,i<n->J.go i H/\∀x U,J.qx i H x U->U=H/\x=a i)/\J.stop n H
theorem bI{K:Q0}(xs:bY):AR (Ej K a) (λH=>ai K H a xs) xs.length (λi=>xs.getD i .ao):=λH b=>
 ⟨λi c=>⟨⟨xs,xs[i],b,by simp[c]⟩,λx d ⟨e,y⟩=>⟨e,by
  have:=y xs b;show x=xs.getD i V.ao;rw[Qb,this];rfl⟩⟩,⟨xs,b,Qz _⟩⟩
theorem dU{K:Q0}(xs:bY):AR (Kx K a) (λH=>ak K H a xs) xs.length (λi=>xs.getD i .ao):=λH b=>
 ⟨λi c=>⟨⟨xs,xs[i],b,by simp[c]⟩,λx d ⟨e,y⟩=>⟨e,by
  have:=y xs b;show x=xs.getD i V.ao;rw[Qb,this];rfl⟩⟩,⟨xs,b,Qz _⟩⟩
theorem iN(lo:Int)(n:Nat):AR (HN lo n) (λ_=>True) n (λi=>.int (lo+i)):=λH _=>
 ⟨λi a=>⟨a,λx b ⟨e,y⟩=>⟨e,y⟩⟩,Qz _⟩
theorem fW {J:It} {ok:Hp->Prop} {d:Nat->V} {g:TG} {o:TC} {h:St} {D:Addr} {Q:Hp->Prop} (s:AR J ok n d) (f:Nat->St->Hp->Prop) (h0:f 0 h H0)
  (hok:∀ i c H,i<=n->f i c H->ok H)
  (hs:∀ i c H,i < n->f i c H->g (d i) c H λa H2=>o a H2 λb j=>if b=true then te a j λy k=>∃ xs,k D=some (.lst xs)/\xs.length < sizeLine/\f (i+1) a (upd k D (.lst (xs++[y]))) else f (i+1) a j)
  (t:∀ c H,f n c H->Q H):∃ W:Nat->Nat->St->Hp->Prop,(∃ m,W 0 m h H0)/\∀ i m c H,W i m c H->
   (J.stop i H/\Q H)\/(J.go i H/\∃ N:St->Hp->Prop,(∀ l U,N l U->∃ q,q < m/\W (i+1) q l U)/\∀ x U,J.qx i H x U->g x c U λa H2=>o a H2 λb j=>
    if b=true then te a j λy k=>∃ xs,k D=some (.lst xs)/\xs.length < sizeLine/\N a (upd k D (.lst (xs++[y]))) else N a j):=by
 refine ⟨λi m c H=>m=n - i/\i<=n/\f i c H,⟨n,by simp,dm _,h0⟩,?_⟩
 rintro i m c H ⟨rfl,u,p⟩
 obtain ⟨r,w⟩:=s H (hok i c H u p)
 by_cases av:i < n
 ·refine .inr ⟨(r i av).1,f (i+1),λz U A=>⟨n - (i+1),by lia,rfl,av,A⟩,λx U y=>?_⟩
  obtain ⟨e,C⟩:=(r i av).2 x U y
  subst e C
  exact hs i c _ av p
 ·have e:i=n:=by lia
  subst e
  exact .inl ⟨w,t c H p⟩
theorem cB{J:It}{ok:Hp->Prop}{a:Nat->V}{g:TG}{f:TS}{D:Ends}(j:AR J ok n a)(b:Nat->St->Hp->Prop)(h0:b 0 Z H)(hok:∀i k H,i<=n->b i k H->ok H)
  (hs:∀i Z H,i<n->b i Z H->g (a i) Z H λc H2=>f {D with nx:=b (i+1),ct:=b (i+1),bk:=D.nx} c H2) (l:∀Z H,b n Z H->D.nx Z H):
  ∃W:Nat->Nat->St->Hp->Prop,(∃m,W 0 m Z H)/\∀i m Z H,W i m Z H->
   (J.stop i H/\D.nx Z H)\/(J.go i H/\∃N:St->Hp->Prop,(∀d U,N d U->∃h,h<m/\W (i+1) h d U)/\∀x U,J.qx i H x U->g x Z U λc H2=>f {D with nx:=N,ct:=N,bk:=D.nx} c H2):=by
 refine⟨λi m Z H=>m=n-i/\i<=n/\b i Z H,⟨n,by simp,dm _,h0⟩,?_⟩;rintro i m Z H ⟨rfl,o,p⟩;obtain⟨k1,k2⟩:=j H (hok i Z H o p);by_cases av:i<n
 ·refine .inr ⟨(k1 i av).1,b (i+1),λd U q=>⟨n-(i+1),by lia,rfl,av,q⟩,λx U y=>?_⟩;obtain⟨e,e2⟩:=(k1 i av).2 x U y;subst e e2;exact hs i Z _ av p
 ·have e:i=n:=by lia
  subst e;exact .inl ⟨k2,l Z H p⟩
def gu(K:Q0)(a:Str->cv)(x:Str)(st:Stmt)(b:aU):Prop:=∃(f:Addr)(fd:FuncData),Bj K x x st f fd/\a x=some (.ref f)/\Binds K fd b []
theorem gu.ok {P:Program} {w:World} {K:Q0} {d:Str->cv} {base:Heap} {x:Str} {st:Stmt} {N c:aU} {k:Nat} {e:Sp} (F:gu K d x st c) (S:fj N c (b_ st)) (g:∀ vs H Q E,e vs H Q E->vs.length=c.length)
  (j:∀ (f:Addr) (i:Value) (A:Around) (a:List Env) (s:Shared) (H:Hp) (vs:bY) (Q:VK) (E:XK),f_ k (A.deeper (envOfC x (b_ st) s.heap.objs.size f i))->e vs H Q E->
   ∃ t,vd (AK Aa P w K d base N x (b_ st) f i A a s H E).B3 (l_ st) t/\t {nx:=λ_ U=>Q .ao U,rt:=Q} (start N vs) H):bq P w K d base (k+1) x c e:=by
 obtain ⟨f,l,h,m,b⟩:=F
 exact ⟨f,l,h.ok S g (j f),m,h.kp,b,let ⟨oc,od,_,_,_,_,_,_,vg,_,lk,_⟩:=h.ex;⟨oc,od,vg,lk⟩⟩
section
variable{pos:Pos}
theorem Za{v:V}(h:∃u,X.mg x=some u/\RelV v u)(a:Gl X x:=by rfl)(b:db x:=by decide):PE X (.Name x pos) (tC v):=by
 obtain⟨u,Y,h2⟩:=h;exact mQ a Y h2 b
def Ih(K:Q0)(xs:bY):TE:=λ_ H Q=>∀a,ak K H a xs->Q (.ref a) H
theorem Zb{xs:bY}(h:∃a,X.mg x=some (.ref a)/\∀H,ak X.K H a xs)(c:Gl X x:=by rfl)(d:db x:=by decide):PE X (.Name x pos) (Ih X.K xs):=by
 obtain⟨a,Y,h2⟩:=h;intro b s e H Q I q;exact mQ (v:=.ref a) c Y rfl d b s e H Q I (q a (h2 H))
theorem Zc:z_ X (λx lo hi H Q=>Cf x lo hi H Q\/(Ca X.K x lo hi H Q\/B_ X.K x lo hi H Q)):=Y7.or (XJ.or Xw)
end
section
variable(K:Q0)
theorem Zd(h:X.K=K:=by rfl):C7 X (AQ K):=by rw[<- h];exact Y4
theorem qV(h:X.K=K:=by rfl):di X (compareOp .In) (Ie K false):=by rw[<- h];exact Y5
theorem aY(h:X.K=K:=by rfl):n_ X (.builtin "len") (K8 K):=by rw[<- h];exact yL
theorem zF(a:X.calm=true)(h:X.K=K:=by rfl):n_ X (.builtin "all") (K9 K):=by rw[<- h];exact zL a
theorem yY(h:X.K=K:=by rfl):z_ X (λx lo hi H Q=>Cf x lo hi H Q\/(Ca K x lo hi H Q\/B_ K x lo hi H Q)):=by rw[<- h];exact Zc
theorem Ze{l:Expr}{a:TE}(b:PE X l a)(h:X.K=K:=by rfl):PI X tg l (iD K a):=by rw[<- h];exact Y_ b
theorem Zf{b:Pos}{xs:bY}(c:∃a,X.mg x=some (.ref a)/\∀H,ak K H a xs)(h:X.K=K:=by rfl)(d:Gl X x:=by rfl)(e:db x:=by decide):PE X (.Name x b) (Ih K xs):=by
 subst h;exact Zb c d e
theorem Zg{k:Nat}{t:zo}{a:Pos}(b:X.calm=true)(c:Eg X es t)(h:X.K=K:=by rfl)
  (d:(assignEach es X.env).length=n:=by rfl) (e:(assignEach es X.env).findIdx? (·.1)=none:=by rfl):PG X (.Tuple es k a) (B5 K n t):=by
 subst h;exact Wn b c d e
theorem Zh {id:String} {r:V->bY->Hp->VK->Prop} {o:Expr} {t:TA} (a:PlainAttrs T) (slot:Slot T name id) (b:typeOf (.builtin id)=pure (.type "method_descriptor")) (c:Es X id r) (d:PE X o to) (f:PA X (e::es) t) (h:X.K=K:=by rfl)
  (g:attributeBase o name X.env (eval o X.env)=eval o X.env:=by rfl)
  (i:((backTo cpos (starEach (e::es) X.env)).all (λx=> !x.1)&&(backToKw cpos (keywordEach [] X.env)).all (λx=>x.1.isSome)
   &&decide ((e::es).length+([]:List Keyword).length+(if ([]:List Keyword).isEmpty then 0 else 1) < 30))=true:=by rfl)
  (j:(apos.endLine==cpos.line)=true:=by rfl) (hs:eH X e es:=by rfl) (k:eJ X cpos es:=by rfl):
  PE X (.Call (.Attribute o name apos) (e::es) [] cpos) (H_ K T r to t):=by
 subst h;exact XQ a slot b c d f g i j hs k
end
structure SE(X:Cx)(e:Expr)(t:TE):Prop where
 h:PE X e t
structure ST(X:Cx)(e:Expr)(t:TT):Prop where
 h:PT X e t
structure SW(X:Cx)(e:Expr)(t:TT):Prop where
 h:PW X e t
structure SA(X:Cx)(es:List Expr)(t:TA):Prop where
 h:PA X es t
structure SS(X:Cx)(s:Stmt)(t:TS):Prop where
 h:PS X s t
structure SB(X:Cx)(s:List Stmt)(t:TS):Prop where
 h:vd X s t
structure SG(X:Cx)(e:Expr)(t:TG):Prop where
 h:PG X e t
structure Ii(X:Cx)(e:List Expr)(t:zo):Prop where
 h:Eg X e t
structure SI(X:Cx)(tg e:Expr)(t:TI):Prop where
 h:PI X tg e t
structure SC(X:Cx)(e:List Expr)(t:TC):Prop where
 h:Ad X e t
structure SO(X:Cx)(e:Option Expr)(t:TO):Prop where
 h:PO X e t
structure Ij(X:Cx)(pos:Pos)(keys:List (Option Expr))(values:List Expr)(we:List (TE×TE)):Prop where
 h:F7 X pos keys values we
section
variable{t:TA}{c:Const}{mi:Pos}{n:Str}{Bl:List Expr}{f0 a0 b0 c0:Expr}{PF:List Keyword}{o0:Operator}{ks0:List (Option Expr)}{Ik:List Comprehension}{Il:Scope}{u0:UnaryOp}{bo0:BoolOp}{agV:List CmpOp}
theorem aC:SA X [] qc:=⟨Xb⟩
theorem aG(a:SE X (.Constant c j mi) te)(b:SA X es t):SA X (.Constant c j mi::es) (ik te t):=⟨dQ a.h b.h⟩
theorem aD(a:SE X (.Name n mi) te)(b:SA X es t):SA X (.Name n mi::es) (ik te t):=⟨dQ a.h b.h⟩
theorem Zi(a:SE X (.List Bl mi) te)(b:SA X es t):SA X (.List Bl mi::es) (ik te t):=⟨dQ a.h b.h⟩
theorem bC(a:SE X (.Tuple Bl j mi) te)(b:SA X es t):SA X (.Tuple Bl j mi::es) (ik te t):=⟨dQ a.h b.h⟩
theorem aV(a:SE X (.Call f0 Bl PF mi) te)(b:SA X es t):SA X (.Call f0 Bl PF mi::es) (ik te t):=⟨dQ a.h b.h⟩
theorem fV(a:SE X (.BinOp a0 o0 b0 mi) te)(b:SA X es t):SA X (.BinOp a0 o0 b0 mi::es) (ik te t):=⟨dQ a.h b.h⟩
theorem aN(a:SE X (.Subscript a0 b0 mi) te)(b:SA X es t):SA X (.Subscript a0 b0 mi::es) (ik te t):=⟨dQ a.h b.h⟩
theorem d6(a:SE X (.ListComp a0 Ik Il mi) te)(b:SA X es t):SA X (.ListComp a0 Ik Il mi::es) (ik te t):=⟨dQ a.h b.h⟩
theorem sW(a:SE X (.DictComp a0 b0 Ik Il mi) te)(b:SA X es t):SA X (.DictComp a0 b0 Ik Il mi::es) (ik te t):=⟨dQ a.h b.h⟩
end
section
variable{a b c o i value lo hi iter elt:Expr}{tb tc td ty tv:TE}{t:TA}{pos p p2 mi:Pos}
theorem zv(i:Nat){a:Pos}(b:X.N[i]? =some x:=by rfl)(hv:Ed X.env.scope x:=by first|exact Or.inl rfl|exact Or.inr (Or.inl rfl)|exact Or.inr (Or.inr rfl))(c:db x:=by decide)(d:(x==("__classdict__":Str))=false:=by decide):SE X (.Name x a) (tV i):=⟨YS i b hv c d⟩
theorem tE{v:V}(h:∃u,X.mg x=some u/\RelV v u)(a:Gl X x:=by rfl)(b:db x:=by decide):SE X (.Name x pos) (tC v):=⟨Za h a b⟩
theorem PJ(K:Q0){xs:bY}(b:∃a,X.mg x=some (.ref a)/\∀H,ak K H a xs)(h:X.K=K:=by rfl)(c:Gl X x:=by rfl)(d:db x:=by decide):SE X (.Name x pos) (Ih K xs):=⟨Zf K b h c d⟩
theorem PK{v:V}(a:Gl X x)(b:X.mg x=none)(hv:bootBuiltins x=some u)(r:RelV v u)(c:x≠"__name__":=by decide)(d:db x:=by decide):SE X (.Name x pos) (tC v):=⟨V4 a b hv r c d⟩
theorem xN{j}:SE X (.Constant .none j pos) (tC .ao):=⟨V2⟩
theorem oS{b:Bool}{j}:SE X (.Constant (.bool b) j pos) (tC (.bl b)):=⟨V1⟩
theorem aH{i:Int}{j}:SE X (.Constant (.int i) j pos) (tC (.int i)):=⟨V0⟩
theorem bA{j}:SE X (.Constant (.str x) j pos) (tC (.str x)):=⟨V3⟩
theorem bW{op:Operator}{r:R2}(c:di X (binaryOp op) r)(d:SE X a ta)(e:SE X b tb):SE X (.BinOp a op b pos) (jy r ta tb):=⟨WA c d.h e.h⟩
theorem Zj{r:R2}(c:di X (compareOp op) r)(d:SE X a ta)(e:SE X b tb)(f:behindInMarks op b=false):SE X (.Compare a [op] [b] pos) (jy r ta tb):=⟨WV c d.h e.h f⟩
theorem Zk{r:R2}(c:di X (compareOp op) r)(d:SE X a ta)(e:SE X b tb)(f:behindInMarks op b=false):ST X (.Compare a [op] [b] pos) (Ek (jy r ta tb)):=⟨WX c d.h e.h f⟩
theorem Ld(h:SE X e te)(b:∀a,isTrue e X.env a=(do let v <- a;standAt e.pos;holding [v] (truthy v)):=by intro _;rfl):ST X e (tB te):=⟨V6 h.h b⟩
theorem PL{b:TT}(c:ST X a b):ST X (.UnaryOp .Not a pos) (Kr b):=⟨Wa c.h⟩
theorem Zl{b:TT}(c:ST X a b):SW X (.BoolOp .And [a] pos) b:=⟨V7 c.h⟩
theorem xV{b:TT}(c:ST X a b):SW X (.BoolOp .Or [a] pos) b:=⟨V8 c.h⟩
theorem Zm{d e:TT}{c:List Expr}(f:ST X a d)(g:SW X (.BoolOp .And (b::c) pos) e):SW X (.BoolOp .And (a::b::c) pos) (OV d e):=⟨V9 f.h g.h⟩
theorem Im{d e:TT}{c:List Expr}(f:ST X a d)(g:SW X (.BoolOp .Or (b::c) pos) e):SW X (.BoolOp .Or (a::b::c) pos) (Kq d e):=⟨V_ f.h g.h⟩
theorem SW.pt{a:TT}(h:SW X e a):ST X e a:=⟨h.h.pt⟩
theorem bV(h:SA X es t):SE X (.List es pos) (KG t):=⟨Xd h.h⟩
theorem bE{x1}(h:SA X es t):SE X (.Tuple es x1 pos) (Em t):=⟨Xc h.h⟩
theorem kQ:SE X (.Dict [] [] pos) Ph:=⟨Yh⟩
theorem Zn:Ij X pos [] [] []:=⟨Yj⟩
theorem Zo{ks:List (Option Expr)}{vs:List Expr}{c d:TE}(e:SE X a c)(hv:SE X b d)(f:Ij X pos ks vs we):Ij X pos (some a::ks) (b::vs) ((c,d)::we):=⟨Yk e.h hv.h f.h⟩
theorem Zp{a:List (Option Expr)}{b:List Expr}(h:Ij X pos a b we)(c:a.all (·.isSome)=true)(d:a.length=b.length)(h0:a≠[])(e:a.length<=15):SE X (.Dict a b pos) (Pk we):=⟨Yl h.h c d h0 e⟩
theorem iH:SO X none Eo:=⟨Xs⟩
theorem iI(h:SE X e te):SO X (some e) (Ep te):=⟨Xu h.h⟩
theorem iG{r:V->Option Int->Option Int->Hp->VK->Prop}{l u:Option Expr}{a b:TO}(c:z_ X r)(d:SE X e te)(f:SO X l a)(g:SO X u b):SE X (.Subscript e (.Slice l u none p2) pos) (Er r te a b):=⟨Xv c d.h f.h g.h⟩
theorem Zq(a:X.A.units+1<cLine)(b:SE X o td)(c:SE X i ty)(hs:F6 i):SE X (.Subscript o i pos) (KQ td ty):=⟨Yd a b.h c.h hs⟩
theorem Zr{r:R2}(c:C7 X r)(d:SE X a ta)(e:SE X b tb)(hs:KH b):SE X (.Subscript a b pos) (jy r ta tb):=⟨Xz c d.h e.h hs⟩
theorem Zs{k:Nat}{a:Sp}(F:bq X.prog X.w X.K X.mg X.base k x ps a)(b:f_ k X.A)(c:SA X (e::es) t)(d:Gl X x:=by rfl)(f:db x:=by decide)
  (g:eH X e es:=by rfl) (i:eJ X pos es:=by rfl):
  SE X (.Call (.Name x p) (e::es) [] pos) (En a [] E0 t):=⟨Y8 F b c.h d f g i⟩
theorem Zt{id:String}{r:bY->Hp->VK->Prop}(a:n_ X (.builtin id) r)(b:Gl X x)(c:X.mg x=none)(hv:bootBuiltins x=some (.builtin id))(d:SA X (e::es) t)(f:x≠"__name__":=by decide)(g:db x:=by decide)
  (i:eH X e es:=by rfl) (j:eJ X pos es:=by rfl):SE X (.Call (.Name x p) (e::es) [] pos) (yt r t):=⟨Xn a b c hv d.h f g i j⟩
theorem jG (K:Q0) {id:String} {r:V->bY->Hp->VK->Prop} (a:PlainAttrs T) (slot:Slot T name id) (b:typeOf (.builtin id)=pure (.type "method_descriptor")) (c:Es X id r) (d:SE X o to) (f:SA X (e::es) t) (h:X.K=K:=by rfl)
  (g:attributeBase o name X.env (eval o X.env)=eval o X.env:=by rfl)
  (i:((backTo cpos (starEach (e::es) X.env)).all (λx=> !x.1)&&(backToKw cpos (keywordEach [] X.env)).all (λx=>x.1.isSome)
   &&decide ((e::es).length+([]:List Keyword).length+(if ([]:List Keyword).isEmpty then 0 else 1) < 30))=true:=by rfl)
  (j:(apos.endLine==cpos.line)=true:=by rfl) (hs:eH X e es:=by rfl) (k:eJ X cpos es:=by rfl):
  SE X (.Call (.Attribute o name apos) (e::es) [] cpos) (H_ K T r to t):=⟨Zh K a slot b c d.h f.h h g i j hs k⟩
theorem bM:SB X [] Ku:=⟨Wc⟩
theorem aF{st:Stmt}{u:TS}(a:SS X st u):SB X [st] u:=⟨Wf a.h⟩
theorem aE{st:Stmt}{a:List Stmt}{u v:TS}(b:SS X st u)(c:SB X a v):SB X (st::a) (CW u v):=⟨We b.h c.h⟩
theorem aZ(a:SE X e te):SS X (.Return (some e) pos) (CY te):=⟨Wh a.h⟩
theorem bZ(a:SE X e te)(hs:swapsWith e none pos.line X.env=pure false:=by rfl):SS X (.Expr e pos) (HL te):=⟨Wg a.h hs⟩
theorem dE{a b:List Stmt}{d:TT}{u v:TS}(e:ST X c d)(f:SB X a u)(g:SB X b v):SS X (.If c a b pos) (Ef d u v):=⟨Wj e.h f.h g.h⟩
theorem cO{a:TI}{g:TG}{u:TS}(b:PassesOwn 'a' X.A X.env X.xe)(c:X.calm=true)(d:SI X tg iter a)(e:SG X tg g)(f:SB X body u)(hs:∀x,foldedSetIterable iter X.env x=pure x:=by intro _;rfl):SS X (.For tg iter body [] pos) (O1 a g u):=⟨Wx b c d.h e.h f.h hs⟩
theorem fK{a:TT}{u:TS}(b:PassesOwn 'a' X.A X.env X.xe)(d:ST X c a)(e:SB X body u):SS X (.While c body [] pos) (OZ a u):=⟨Wv b d.h e.h⟩
theorem Zu{i:Nat}(a:X.N.Nodup)(b:X.N[i]? =some x)(c:Loc X.env.scope x)(d:SE X e te)(hs:swapsWith e (some (.Name x pos')) pos.line X.env=pure false:=by rfl)(f:ib X x:=by first|exact .inl rfl|exact .inr rfl|assumption):
  SS X (.Assign [.Name x pos'] e pos) (zu te (jj i)):=⟨Wq a b c d.h hs f⟩
theorem lF(a:X.A.units+1<cLine)(b:SE X o td)(c:SE X i ty)(hv:SE X value tv)(hs:swapsWith value (some (.Subscript o i pos')) pos.line X.env=pure false):SS X (.Assign [.Subscript o i pos'] value pos) (Pf td ty tv):=⟨Ye a b.h c.h hv.h hs⟩
theorem Le{g:TG}(a:SE X e te)(b:SG X tg g)(hs:swapsWithSole [tg] e pos.line X.env=pure false:=by rfl)(c:swappedStores [tg] e X.env=pure none:=by rfl)
  (d:(assignEach [tg] X.env).map (·.2)=[assign tg X.env]:=by rfl):SS X (.Assign [tg] e pos) (zu te g):=⟨Wp a.h b.h hs c d⟩
theorem PM{i:Nat}(a:X.N.Nodup)(b:X.N[i]? =some x)(c:Loc X.env.scope x)(d:ib X x:=by first|exact .inl rfl|exact .inr rfl|assumption):SG X (.Name x pos) (jj i):=⟨Wk a b c d⟩
theorem bQ:Ii X [] Eh:=⟨Wl⟩
theorem aM{g:TG}{u:zo}(a:SG X e g)(b:Ii X es u)(hs:(assignEach (e::es) X.env).map (·.2)=assign e X.env::(assignEach es X.env).map (·.2):=by rfl):Ii X (e::es) (zq g u):=⟨Wm a.h b.h hs⟩
theorem cW(K:Q0){k:Nat}{u:zo}(a:X.calm=true)(b:Ii X es u)(h:X.K=K:=by rfl)
  (c:(assignEach es X.env).length=n:=by rfl) (d:(assignEach es X.env).findIdx? (·.1)=none:=by rfl):SG X (.Tuple es k pos) (B5 K n u):=⟨Zg K a b.h h c d⟩
theorem Lf {u:HM} (b:SE X o td) (c:SE X i ty) (hs:Kv X u)
  (d:∀ v,assign (.Subscript o i pos) X.env v=(do
   let ov <- holding [v] (eval o X.env)
   let a <- holding [v,ov] (eval i X.env)
   standAt pos
   holding [v,ov,a] (setItem ov a v)
   release [v,ov,a] []):=by intro _;rfl):SG X (.Subscript o i pos) (OX td ty u):=⟨Wo b.h c.h hs d⟩
theorem jY(b:Gl X "range")(c:X.mg "range"=none)(d:SA X [a] t)(hs:starEach [a] X.env=[(false,eval a X.env)]:=by rfl):SI X tg (.Call (.Name "range" p) [a] [] pos) (O0 t):=⟨zR b c d.h hs⟩
theorem jF(K:Q0)(a:SE X e te)(h:X.K=K:=by rfl):SI X tg e (iD K te):=⟨Ze K a.h h⟩
theorem gY:SC X [] Ce:=⟨Yz⟩
theorem PN{a:TT}(h:ST X c a):SC X [c] a:=⟨YA h.h⟩
theorem PP{d:TI}{g:TG}{e:TC}(S:'m')(f:X.calm=true)(i:SI X tg iter d)
  (j:∀a C b H0 fp c,SG (cy X N' sc a C b H0 fp c) tg g) (k:∀a C b H0 fp c,SC (cy X N' sc a C b H0 fp c) ifs e) (l:∀a C b H0 fp c,SE (cy X N' sc a C b H0 fp c) elt te)
  (hs:∀x,foldedSetIterable iter X.env x=pure x:=by intro _;rfl):SE X (.ListComp elt [⟨tg,iter,ifs,0⟩] sc pos) (Bk own idx d g e te):=
 ⟨YQ S f i.h (λq r s t u v=>(j q r s t u v).h) (λq r s t u v=>(k q r s t u v).h) (λq r s t u v=>(l q r s t u v).h) hs⟩
theorem Io{e:TI}{g:TG}{f:TC}{i:Nat}{y:Str}{j a:Pos}(S:'m')(k:X.calm=true)(l:SI X tg iter e)
  (m:∀b C c H0 fp d,SG (cy X N' sc b C c H0 fp d) tg g) (n:∀b C c H0 fp d,SC (cy X N' sc b C c H0 fp d) ifs f) (o:∀b C c H0 fp d,SE (cy X N' sc b C c H0 fp d) elt te)
  (p:X.N.Nodup) (w:X.N[i]? =some y) (z:X.env.scope.names.lookup y=some .local)
  (A:swapsWith (.ListComp elt [⟨tg,iter,ifs,0⟩] sc pos) (some (.Name y j)) a.line X.env=pure true:=by rfl)
  (hs:∀x,foldedSetIterable iter X.env x=pure x:=by intro _;rfl):SS X (.Assign [.Name y j] (.ListComp elt [⟨tg,iter,ifs,0⟩] sc pos) a) (zu (Bk own idx e g f te) (jj i)):=
 ⟨YR S k l.h (λq r s t u v=>(m q r s t u v).h) (λq r s t u v=>(n q r s t u v).h) (λq r s t u v=>(o q r s t u v).h) p w z A hs⟩
end
theorem gu.gw {K:Q0} {st:Stmt} {k:Nat} {c:Sp} (F:gu K mg x st ps) (S:fj N ps (b_ st)) (d:∀ vs H Q E,c vs H Q E->vs.length=ps.length)
  (e:∀ (f:Addr) (b:Value) (A:Around) (a:List Env) (s:Shared) (H:Hp) (vs:bY) (Q:VK) (E:XK),f_ k (A.deeper (envOfC x (b_ st) s.heap.objs.size f b))->c vs H Q E->
   ∃ t,SB (AK Aa P w K mg base N x (b_ st) f b A a s H E).B3 (l_ st) t/\t {nx:=λ_ U=>Q .ao U,rt:=Q} (start N vs) H):bq P w K mg base (k+1) x ps c:=
 F.ok S d λf b A a s H vs Q E g h=>let ⟨t,Y,h2⟩:=e f b A a s H vs Q E g h;⟨t,Y.h,h2⟩
theorem PU {C E a f:Expr} {scope:Scope} {p:Pos} {z:Value} {D:Addr} (I:Nat->Shared->Prop)
  (turn:∀ n s,I n s->wpAny 'f' A (pyNext z) (λr d=>match r with
   | none=>R (.ok .next) d
   | some v=>wpAny 'f' A (letOwnedTupleGo a z v) (λ_ G=>wpAny 'f' A (assign a env v) (λ_ g=>
     wpAny 'f' A (forIn ifs true λc r=>if r=true then do let ok <- isTrue c env (eval c env);pure (ForInStep.yield ok) else pure (ForInStep.yield r)) (λok e=>
      if ok=true then wpAny 'f' A (eval C env) (λkv i=>wpAny 'f' A (eval E env) (λH j=>
       wpAny 'f' A (dictSet D kv H) (λ_ k=>∃ m,m < n/\I m k) jm j) jm i) jm e
      else ∃ m,m < n/\I m e) jm g) jm G) jm d) jm s)
  (n:Nat) (h:I n s):
  codeAny 'f' A (.compLoop (.DictComp C E [⟨a,f,ifs,0⟩] scope p) 0 z (.ref D) env) R s:=by
 refine codeAny_loop rfl I (λn s K=>?_) n h
 show wpAny _ A ((compTurn (.DictComp C E [⟨a,f,ifs,0⟩] scope p) 0 z (.ref D) env).onRaise (λx=>do noteFrame x env;theTreesLotGoes x)) _ _ s
 refine wpAny_noted ?_
 rw [compTurn_dict]
 refine QT (wpAny_standAt (QT (wpAny_mono (turn n s K) (λr d l=>?_) λ_ _ b=>b.elim)))
 cases r with
 | none=>exact QU l
 | some v=>
  refine QT (wpAny_mono l (λ_ G L=>?_) λ_ _ b=>b.elim)
  refine QT (wpAny_mono L (λ_ g q=>QT (wpAny_mono q (λok e o=>?_) λ_ _ b=>b.elim)) λ_ _ b=>b.elim)
  cases ok with
  | false=>exact QU ⟨rfl,o⟩
  | true=>
   exact QT (QT (wpAny_mono o (λkv i t=>QT (wpAny_holding (wpAny_mono t (λH j u=>QT (wpAny_standAt (wpAny_holding (wpAny_mono u (λ_ k y=>QU ⟨rfl,y⟩) λ_ _ b=>b.elim)))) λ_ _ b=>b.elim))) λ_ _ b=>b.elim))
section
variable{iter kx vx:Expr}{pos:Pos}{wi:TI}{g:TG}{tc:TC}{tk tw:TE}
abbrev PV:Obj:={cls:=.type "dict",data:=.dict #[]}
def Lg (own:aU) (idx:cm) (k:TI) (g:TG) (l:TC) (n o:TE):TE:=λZ H Q=>k Z H λJ H1=>∀ D,H1 D=none->∃ W:Nat->Nat->St->Hp->Prop,(∃ m,W 0 m (Ac own idx Z) (upd H1 D (.dK [])))/\∀ i m e H,W i m e H->
 (J.stop i H/\Q (.ref D) H)\/(J.go i H/\∃ N:St->Hp->Prop,(∀ c U,N c U->∃ f,f < m/\W (i+1) f c U)/\∀ x U,J.qx i H x U->g x e U λa H2=>l a H2 λb h=>
  if b=true then n a h λx p=>o a p λy j=>∃ kvs d,x=kV d/\j D=some (.dK kvs)/\kvs.length < sizeLine/\N a (upd j D (.dK (ci kvs d y))) else N a h)
theorem m5 (S:'m') {d:List (Str×Addr)} (c1:∀ x c,d.lookup x=some c->'g') (c2:∀ y∈sc.names,y.2=.free->∃ c,d.lookup y.1=some c) (hc:X.calm=true)
  (hg:∀ d C l H0 fp pn,PG (cy X N' sc d C l H0 fp pn) tg g) (ht:∀ d C l H0 fp pn,Ad (cy X N' sc d C l H0 fp pn) ifs tc) (he:∀ d C l H0 fp pn,PE (cy X N' sc d C l H0 fp pn) kx tk) (hv:∀ d C l H0 fp pn,PE (cy X N' sc d C l H0 fp pn) vx tw)
  {B:'e'} {Z:St} {Q:VK} {ud:Value} {s2:Shared} {RR:Value->Addr->Result->Shared->Prop} {E:Value->Shared->Prop}
  (hI:Ei X B Z tg (λJ H1=>∀ D,H1 D=none->∃ W:Nat->Nat->St->Hp->Prop,(∃ m,W 0 m (Ac own idx Z) (upd H1 D (.dK [])))/\∀ i m r H,W i m r H->
   (J.stop i H/\Q (.ref D) H)\/(J.go i H/\∃ N:St->Hp->Prop,(∀ u U,N u U->∃ m',m' < m/\W (i+1) m' u U)/\∀ x U,J.qx i H x U->g x r U λf H2=>tc f H2 λb H3=>
    if b=true then tk f H3 λx H4=>tw f H4 λy G=>∃ kvs a,x=kV a/\G D=some (.dK kvs)/\kvs.length < sizeLine/\N f (upd G D (.dK (ci kvs a y))) else N f H3)) ud s2)
  (Gb:∀ D C U s',Inv X B Z U s'->Q (.ref D) U->(U C=none/\C≠X.env.locals/\X.s₀.heap.objs.size<=C/\(∀ x c,'g'->c≠C)/\(∀ p∈X.pn++B,p.1≠C)/\∃ m,s'.heap.Ns C m)->RR (.ref D) C (.ok .next) s'):
  wpAny 'a' X.A newDict (λL P=>wpAny 'a' X.A (newFunctionEnv sc X.env.globals d [] X.env.qual none .none (some X.env)) (λt j=>
   codeAny 'a' X.A (.compStart (.DictComp kx vx [⟨tg,iter,ifs,0⟩] sc pos) 0 ud L {t with scope:=relabel sc X.env}) (RR L t.locals) j) E P) E s2:=by
 refine mU (ob:=PV) (sel:=λenv D s K=>wpAny 'a' X.A (eval kx env) (λkv j=>wpAny 'a' X.A (eval vx env) (λvv T=>wpAny 'a' X.A (dictSet D kv vv) (λ_ V=>K V) jm T) jm j) jm s) (o0:=.dK []) (el:=λD r H K=>tk r H λx H4=>tw r H4 λy G=>∃ kvs a,x=kV a/\G D=some (.dK kvs)/\kvs.length < sizeLine/\K (upd G D (.dK (ci kvs a y)))) S c1 c2 hc (hob:=rfl)
  (λit D env R s I turn n h=>PU I turn n h) (λh k=>ay h λ_ _ h=>ay h λ_ _ h=>ay h λ_ _ h=>k _ h) (λ_ _ _ _ _=>codeAny_compStart_dict) hg ht (λd C l H0 fp pn B s r H D N I q=>?_) (λQ E h=>wpAny_newObj_type h)
  (λU I H h e=>⟨dm _,beq_eq_false_iff_ne.mpr (Ne.symm (yU I.big)),[],.nil,(Heap.DictOf.new s2.heap).at λo eo=>by rw [Qd _ rfl] at eo;cases eo;exact e⟩) hI Gb
 refine ay (he d C l H0 fp pn _ s r H _ I q) ?_
 rintro kv s8 ⟨x8,H8,I8,r8,q8⟩
 refine ay (hv d C l H0 fp pn _ s8 r H8 _ I8 q8) ?_
 rintro yv s9 ⟨y9,H9,I9,r9,kvs,a,ek,Ey,hz,n9⟩
 subst ek
 obtain ⟨z,hd,vs,ab,dd⟩:=pE I9.hok Ey
 have C_:vs.length<=sizeLine:=by rw [<- ab.length];exact z
 have fh:(ci kvs a y9).length<=sizeLine:=by have:=bU kvs a y9;lia
 refine wpAny_dictSet_pairs (hsz:=C_) (h9 r8) dd λM jl hs=>?_
 have Lh:∃ q,M.get? D=some q:=let ⟨q,_,_,hq,_⟩:=jl;⟨q,hq⟩
 exact ⟨_,dW (t':=s9.toks+1) (ob:=.dK (ci kvs a y9)) I9 (by rw [Ey];exact True.intro) hs Lh (lJ fh hd (ab.put a r9) jl),n9⟩
theorem Zv(S:'m')(i:X.calm=true)(j:PI X tg iter wi)
  (k:∀a C c H0 fp d,PG (cy X N' sc a C c H0 fp d) tg g) (l:∀a C c H0 fp d,Ad (cy X N' sc a C c H0 fp d) ifs tc) (n:∀a C c H0 fp d,PE (cy X N' sc a C c H0 fp d) kx tk) (hv:∀a C c H0 fp d,PE (cy X N' sc a C c H0 fp d) vx tw)
  (hs:∀x,foldedSetIterable iter X.env x=pure x:=by intro _;rfl):PE X (.DictComp kx vx [⟨tg,iter,ifs,0⟩] sc pos) (Lg own idx wi g tc tk tw):=by
 intro B s Z H Q I h;obtain⟨a,uf,c1,c2⟩:=S.closure I.ok;show wpAny _ X.A (comprehension (.DictComp kx vx [⟨tg,iter,ifs,0⟩] sc pos) sc X.env _ newDict false (eval iter X.env)) _ _ s;refine wpAny_comprehension_free (use:=none) rfl hs uf S.kind S.names (ay (j B s Z H _ I h) λv V p=>ay p λud s2 r=>?_);refine m5 (Q:=Q) (B:=B) (Z:=Z) (RR:=λf C=>compPost 'a' X.A X.xe none (EP X B Z Q) f C) S c1 c2 i k l n hv r ?_;intro D C t u y q ⟨z,E,G,K,L,m,P⟩;exact⟨m,P,λM R=>⟨.ref D,t,y.turned (t':=u.toks) (λb o T e=>(R.2 b T).trans e) z (Ne.symm (Ne.symm E)) (.inr G) K L,rfl,q⟩⟩
theorem yD(S:'m')(d:X.calm=true)(e:SI X tg iter wi)
  (f:∀a C b H0 fp c,SG (cy X N' sc a C b H0 fp c) tg g) (i:∀a C b H0 fp c,SC (cy X N' sc a C b H0 fp c) ifs tc) (j:∀a C b H0 fp c,SE (cy X N' sc a C b H0 fp c) kx tk) (hv:∀a C b H0 fp c,SE (cy X N' sc a C b H0 fp c) vx tw)
  (hs:∀x,foldedSetIterable iter X.env x=pure x:=by intro _;rfl):SE X (.DictComp kx vx [⟨tg,iter,ifs,0⟩] sc pos) (Lg own idx wi g tc tk tw):=
 ⟨Zv S d e.h (λq r s t u v=>(f q r s t u v).h) (λq r s t u v=>(i q r s t u v).h) (λq r s t u v=>(j q r s t u v).h) (λq r s t u v=>(hv q r s t u v).h) hs⟩
end
theorem ae.upd{H:Hp}{a:Addr}(h:H a=none)(o:HO):ae H (upd H a o):=λb u q=>by rw[aB (aO q h)];exact q
theorem gy{c:Bool}{A B:Prop}(a:c=true->A)(b:c=false->B):if c=true then A else B:=by
 cases c with
 |true=>exact Eu (a rfl)
 |false=>exact ue (b rfl)
theorem aL{t u:TS}{D:Ends}(mid:St->Hp->Prop)(b:∀nx:St->Hp->Prop,(∀a U,mid a U->nx a U)->t {D with nx:=nx} Z H)(c:∀a U,mid a U->u D a U):CW t u D Z H:=b (u D) c
theorem aK(x:α)(xs:List α):qe (x::xs) 0=some x:=dP (j:=0) rfl
theorem oI(xs:List α)(i:Int)(h0:0<=i)(b:i<xs.length):∃c,xs[i.toNat]? =some c/\qe xs i=some c:=by
 have a:i.toNat<xs.length:=by lia
 refine⟨xs[i.toNat],by simp[a],?_⟩;have:=dP (xs:=xs) (j:=i.toNat) (v:=xs[i.toNat]) (by simp[a]);rw[<- this];congr 1
 lia
theorem iB(a:aU)(i:Nat)(h:i<a.length):(a.map V.str).getD i .ao=.str (a.getD i ""):=by
 simp[Qb,h]
abbrev Zw(w:Addr)(m t:Int):ca:=[(.inr "mixed",.int m),(.inr "turn",.int t),(.inr "wide",.ref w)]
structure Ci(H:Hp)(p w:Addr)(t:Nat):Prop where
 ex:∃(m c:Int)(ws:List Int),H p=some (.dK (Zw w m c))/\H w=some (.lst (ws.map V.int))/\(0<=m/\m<2147483629)/\0<=c/\c<=(t:Int)
def Sm(p w:Addr)(H U:Hp):Prop:=∀b o,H b=some o->b≠p->b≠w->U b=some o
theorem Sm.trans{w:Addr}{d e:Hp}(a:Sm p w H d)(b:Sm p w d e):Sm p w H e:=λc o h f g=>b c o (a c o h f g) f g
theorem ae.sm{w:Addr}{b:Hp}(a:ae H b):Sm p w H b:=λc o h _ _=>a c o h
theorem Ci.same{w:Addr}{t:Nat}(h:Ci H p w t)(s:ae H U):Ci U p w t:=by
 obtain⟨m,c,ws,Y,h2,r⟩:=h.ex;exact⟨m,c,ws,s _ _ Y,s _ _ h2,r⟩
theorem Sm.free{w:Addr}(s:Sm p w H U)(h:U l=none)(a:l≠p)(b:l≠w):H l=none:=by
 cases q:H l with
 |none=>rfl
 |some o=>rw[s l o q a b]at h;cases h
theorem Ci.upd{H:Hp}{p w D:Addr}{t:Nat}{o:HO}(h:Ci H p w t)(a:D≠p)(b:D≠w):Ci (upd H D o) p w t:=by
 obtain⟨m,c,ws,e1,e2,r⟩:=h.ex;exact⟨m,c,ws,by rw[aB a.symm];exact e1,by rw[aB b.symm];exact e2,r⟩
theorem Sm.upd{p w D:Addr}{H U:Hp}{o:HO}(s:Sm p w H U)(h:H D=none):Sm p w H (upd U D o):=λb u a c d=>by rw[aB (aO a h)];exact s b u a c d
def Ip(p w:Addr)(H:Hp):V->Prop
 | .ao=>True
 | .bl _=>True
 | .int _=>True
 | .str z=>z.length<=100000
 | .ref a=>a≠p/\a≠w/\((∃xs,H a=some (.lst xs))\/(∃xs,H a=some (.tup xs))\/∃kvs,H a=some (.dK kvs))
 |_=>False
theorem Ip.sm{w:Addr}{x:V}(h:Ip p w H x)(s:Sm p w H U):Ip p w U x:=by
 cases x with
 |ref a=>
  obtain⟨Y,h2,h3⟩:=h;refine⟨Y,h2,?_⟩;rcases h3 with⟨b,e⟩|⟨b,e⟩|⟨b,e⟩
  ·exact .inl ⟨b,s _ _ e Y h2⟩
  ·exact .inr (.inl ⟨b,s _ _ e Y h2⟩)
  ·exact .inr (.inr ⟨b,s _ _ e Y h2⟩)
 |_=>exact h
structure Ez(p w:Addr)(t:Nat)(H:Hp)(xs:bY):Prop where
 Zx:Ci H p w t
 all:∀x∈xs,Ip p w H x
section
variable{w:Addr}{t u:Nat}{xs J:bY}
theorem Ez.sm(g:Ez p w t H xs)(a:Ci U p w u)(s:Sm p w H U):Ez p w u U xs:=⟨a,λx b=>(g.all x b).sm s⟩
theorem Ez.upd{q:Addr}{o:HO}(g:Ez p w t H xs)(h:H q=none):Ez p w t (upd H q o) xs:=g.sm (g.Zx.same (ae.upd h o)) (ae.upd h o).sm
end
section
variable{p pos:Pos}{t:TA}
theorem Zy{r:bY->Hp->VK->Prop}(a:n_ X (.type T) r)(b:Gl X x)(c:X.mg x=none)(hv:bootBuiltins x=some (.type T))(d:SA X (e::es) t)(f:x≠"__name__":=by decide)(g:db x:=by decide)
  (i:eH X e es:=by rfl) (j:eJ X pos es:=by rfl):SE X (.Call (.Name x p) (e::es) [] pos) (yt r t):=⟨zP a b c hv d.h f g i j⟩
def Li(K:Q0):bY->Hp->VK->Prop:=λxs H Q=>∃p J,xs=[.ref p]/\((ai K H p J/\∀l,H l=none->Q (.ref l) (upd H l (.tup J)))\/(ak K H p J/\Q (.ref p) H))
def Lj(K:Q0):bY->Hp->VK->Prop:=λxs H Q=>∃p J,xs=[.ref p]/\(ai K H p J\/ak K H p J)/\∀l,H l=none->Q (.ref l) (upd H l (.lst J))
theorem dC(K:Q0)(h:X.K=K:=by rfl):n_ X (.type "tuple") (Li K):=by subst h;exact oU
theorem qA(K:Q0)(h:X.K=K:=by rfl):n_ X (.type "list") (Lj K):=by subst h;exact rV
end
mutual
inductive yw (H:Hp):V->PyData->Prop
 |ao:yw H .ao .none
 |bl (b:Bool):yw H (.bl b) (.bool b)
 |int (i:Int):yw H (.int i) (.int i)
 |str (z:Str):yw H (.str z) (.str z)
 |tup {a:Addr} {xs:bY} {ds:List PyData}:H a=some (.tup xs)->yx H xs ds->yw H (.ref a) (.tuple ds)
 |lst {a:Addr} {xs:bY} {ds:List PyData}:H a=some (.lst xs)->yx H xs ds->yw H (.ref a) (.list ds)
inductive yx (H:Hp):bY->List PyData->Prop
 |nil:yx H [] []
 |cons {x:V} {d:PyData} {xs:bY} {ds:List PyData}:yw H x d->yx H xs ds->yx H (x::xs) (d::ds)
end
mutual
theorem yw.same{H U:Hp}(s:ae H U):∀{x:V}{d:PyData},yw H x d->yw U x d
 |_,_,.ao=>.ao
 |_,_,.bl b=>.bl b
 |_,_,.int i=>.int i
 |_,_,.str z=>.str z
 |_,_,.tup e r=>.tup (s _ _ e) (yx.same s r)
 |_,_,.lst e r=>.lst (s _ _ e) (yx.same s r)
theorem yx.same{H U:Hp}(s:ae H U):∀{xs:bY}{ds:List PyData},yx H xs ds->yx U xs ds
 |_,_,.nil=>.nil
 |_,_,.cons a r=>.cons (yw.same s a) (yx.same s r)
end
mutual
theorem Zz{P:Program}{w:World}{H:Hp}{h:Heap}(ok:fq P w H h):∀{x:V}{d:PyData}{u:Value},yw H x d->RelV x u->∃as,Reads h u d as
 |_,_,_,.ao,r=>by cases(show _=Value.none from r);exact⟨[],.none⟩
 |_,_,_,.bl b,r=>by cases(show _=Value.bool b from r);exact⟨[],.bool b⟩
 |_,_,_,.int i,r=>by obtain⟨t,rfl⟩:=(show ∃t,_=Value.int i t from r);exact⟨[],.int i t⟩
 |_,_,_,.str z,r=>by obtain⟨t,rfl⟩:=(show ∃t,_=Value.str z t from r);exact⟨[],.str z t⟩
 |_,_,_,.tup (a:=a) (xs:=xs) e l,r=>by
  cases(show _=Value.ref a from r);obtain⟨_,its,rv,o,ho,hc,n,hd⟩:=(show br P w H h a (.tup xs)from ok a _ e)
  obtain⟨as,ra⟩:=iF ok l rv;exact⟨as,.tuple ho hc hd (by simpa using ra)⟩
 |_,_,_,.lst (a:=a) (xs:=xs) e l,r=>by
  cases(show _=Value.ref a from r);obtain⟨_,its,n,rv,ho⟩:=(show br P w H h a (.lst xs)from ok a _ e)
  obtain⟨as,ra⟩:=iF ok l rv;exact⟨a::as,.list ho rfl rfl (by simpa using ra)⟩
theorem iF{P:Program}{w:World}{H:Hp}{h:Heap}(ok:fq P w H h):∀{xs:bY}{ds:List PyData}{O:cq},yx H xs ds->bg xs O->∃as,ReadsAll h O ds as
 |_,_,_,.nil,.nil=>⟨[],.nil⟩
 |_,_,_,.cons a l,.cons r rs=>by
  obtain⟨as,ra⟩:=Zz ok a r;obtain⟨bs,rb⟩:=iF ok l rs;exact⟨as++bs,.cons ra rb⟩
end
def Iq(n:Bool):R2:=λx y H Q=>match x,y with
 | .bl a,.bl b=>Q (.bl (n^^(a==b))) H
 |x,.ao=>Q (.bl (n^^decide (x=.ao))) H
 |_,_=>False
theorem ZA:di X (compareOp .Is) (Iq false):=by
 intro c s f H x y v u Q I d e h;cases y with
 |ao=>exact WT c s f H _ _ v u Q I d e ⟨rfl,by cases x<;>simpa[Iq]using h⟩
 |bl b=>
  cases x with
  |bl a=>
   cases d;cases e;exact is_bool (aX I h (by cases a<;>cases b<;>rfl))
  |_=>exact(show False from h).elim
 |_=>cases x<;>exact(show False from h).elim
theorem ZC:di X (compareOp .IsNot) (Iq true):=by
 intro c s f H x y v u Q I d e h;cases y with
 |ao=>exact WU c s f H _ _ v u Q I d e ⟨rfl,by cases x<;>simpa[Iq]using h⟩
 |bl b=>
  cases x with
  |bl a=>
   cases d;cases e;exact isnot_bool (aX I h (by cases a<;>cases b<;>rfl))
  |_=>exact(show False from h).elim
 |_=>cases x<;>exact(show False from h).elim
abbrev EA:Str:="abcdefghijklmnopqrstuvwxyz"
abbrev ZD:aU:=["all","none","way","box","pick"]
def ZE(c:Nat):Bool:= !(Builtin.Str.occurrences EA ⟨#[c]⟩ 0 EA.length 1).isEmpty
def ce(z:Str):Bool:=decide (1<=z.length)&&decide (z.length<=8)&& !(ZD.any λy=>y==z)&&z.cps.toList.all ZE
theorem dH{i j:Str}:(decide (V.str i=V.str j))=(i==j):=by
 by_cases h:i=j
 ·subst h;simp
 ·rw[Qx (λe=>h (V.str.inj e))];exact(beq_eq_false_iff_ne.mpr h).symm
theorem ae.put{o:HO}(s:ae H0 U)(h:H0 p=none):ae H0 (L2.upd U p o):=λb u q=>by rw[aB (aO q h)];exact s b u q
theorem aI{u:TS}{D:Ends}(h:te Z H λx H1=>u D (Z.set i (some x)) H1):CW (zu te (jj i)) u D Z H:=h
theorem pL{v:V}{u:TS}{D:Ends}(h:u D (Z.set i (some v)) H):CW (zu (tC v) (jj i)) u D Z H:=h
theorem Inv.Ir{T:Addr}{o:HO}(I:Inv X B Z H s)(g:∀b∈ch,wg X B H b)(k:∀b o,b∉ch->'l'->M.get? b=some o)
  (i:s.heap.objs.size<=T) (h:br X.prog X.w (upd H T o) M T o):Inv X B Z (upd H T o) {s with heap:=M,toks:=t'}:=by
 have f:H T=none:=I.hok.fresh i;have p:∀b j,s.heap.get? b=some j->b≠T:=λb j e=>yU (jB (QA e) i);have l:∀b u,H b=some u->b∉ch:=λb u e d=>by rw[(g b d).1]at e;cases e
 refine I.step (g':=s.gens) (d':=s.drawn) (ch:=ch) (λb d=>?_) (λb o _ _ a e _=>k b o a e) (λb o _ _ a e _=>⟨o.slots,k b o a e⟩) (λb o a e n=>by rw[aB (p b o e)];exact n)
  (λb o a e=>⟨o,k b o a e⟩) (λb t e=>by rw[aB (aO e f)];exact e) (λb o u e=>by rw[aB (aO e f)];exact e) (λb A e=>⟨#[],by rw[aB (aO e f),e];simp⟩) (λm x=>?_) (λb u e=>?_) I.bare
 ·obtain⟨f0,f1,f2,f3,f4,f5⟩:=g b d;exact⟨f3,f1,f4,f5⟩
 ·obtain⟨o,es,ep,ho,r⟩:=x;exact⟨o,es,ep,k _ o (λz=>(g _ z).2.1 rfl) ho,r⟩
 ·by_cases d:b=T
  ·subst d;rw[aA]at e;cases e;exact h
  ·rw[aB d]at e;refine(I.hok b u e).stay (λc v a q=>k c v ?_ q) (λc q=>by rw[aB (aO q f)];exact q) λc t q=>q.upd λC y=>aO y f;rcases a with z|z
   ·rw[z];exact l b u e
   ·exact l c _ z
theorem Inv.PY(I:Inv X B Z H s)(d:∀b∈ch,wg X B H b)(k:∀b o,b∉ch->'l'->M.get? b=some o):Inv X B Z H {s with heap:=M,toks:=t'}:=by
 have g:∀b u,H b=some u->b∉ch:=λb u e f=>by rw[(d b f).1]at e;cases e
 refine I.step (g':=s.gens) (d':=s.drawn) (ch:=ch) (λb f=>?_) (λb o _ _ a e _=>k b o a e) (λb o _ _ a e _=>⟨o.slots,k b o a e⟩) (λb o a e n=>n)
  (λb o a e=>⟨o,k b o a e⟩) (λb h e=>e) (λb o u e=>e) (λb j e=>⟨#[],by rw[e];simp⟩) (λm i=>?_) (λb u e=>?_) I.bare
 ·obtain⟨f0,f1,f2,f3,f4,f5⟩:=d b f;exact⟨f3,f1,f4,f5⟩
 ·obtain⟨o,es,ep,ho,r⟩:=i;exact⟨o,es,ep,k _ o (λz=>(d _ z).2.1 rfl) ho,r⟩
 ·refine(I.hok b u e).stay (λc v a q=>k c v ?_ q) (λc q=>q) λc h q=>q;rcases a with z|z
  ·rw[z];exact g b u e
  ·exact g c _ z
abbrev EB(a b:V):Hp->V->Hp->Prop:=λH x U=>∃T,x=.ref T/\H T=none/\U=upd H T (.tup [a,b])
theorem jR{T:Addr}{c d:V}{a b:Value}(r1:RelV c a)(r2:RelV d b)(e:h.get? T=some {cls:=.type "tuple",data:=.seq #[a,b]}):br P w H h T (.tup [c,d]):=
 ⟨⟨show 2<=sizeLine by decide,λo q=>by rw[e]at q;cases q;rfl⟩,[a,b],.cons r1 (.cons r2 .nil),_,e,rfl,_,rfl⟩
theorem lM{l m:Nat}(a:l<n)(b:m<n):ZipApart (n+4) (n+2) (n+3) n (n+1) l m:=by
 constructor<;>(show(_:Nat)≠_)<;>lia
def Lk(K : Q0)(a b : Addr) : It :=
  ⟨λi H => ∃xs J x y, ai K H a xs /\ ai K H b J /\ xs[i]? = some x /\ J[i]? = some y, λi H x U => ∃c d, (∀xs, ai K H a xs -> xs[i]? = some c) /\ (∀J, ai K H b J -> J[i]? = some d) /\ EB c d H x U,
   λi H => ∃xs J, ai K H a xs /\ ai K H b J /\ (xs.length <= i \/ J.length <= i)⟩
abbrev ZF(z TI TO c d a b:Addr)(i:Nat)(h:Heap):Prop:=IsZip h z TI TO .none/\IsPair h TI (.ref c) (.ref d)/\(∃u v,IsPair h TO u v)/\h.IsListIter c a i/\h.IsListIter d b i
theorem ZG{K:Q0}{k:Nat}{L:Pos}(z TI TO m n a b:Addr)(D:ZipApart z TI TO m n a b):dk P w K (.Tuple A8 k L) (Lk K a b) [z,TI,TO,m,n] z (ZF z TI TO m n a b)where
 mem:=by simp
 obj:=λi h st c l=>by
  obtain⟨hz,yc,⟨u,v,AS⟩,⟨o1,e1,c1,d1⟩,o2,e2,c2,d2⟩:=st;simp only[Qp,QB,or_false]at l;rcases l with rfl|rfl|rfl|rfl|rfl
  ·exact⟨_,hz,λv z=>by have g:Data.fields _=Data.cell v:=z;cases g⟩
  ·exact⟨_,yc,λv z=>by have g:Data.seq _ _=Data.cell v:=z;cases g⟩
  ·exact⟨_,AS,λv z=>by have g:Data.seq _ _=Data.cell v:=z;cases g⟩
  ·exact⟨_,e1,λv z=>by rw[d1]at z;cases z⟩
  ·exact⟨_,e2,λv z=>by rw[d2]at z;cases z⟩
 keep:=λi h t st k=>by
  obtain⟨hz,yc,⟨u,v,AS⟩,Y,h2⟩:=st;exact⟨k z (by simp) _ hz,k TI (by simp) _ yc,⟨u,v,k TO (by simp) _ AS⟩,Y.at λo x=>k m (by simp) o x,h2.at λo x=>k n (by simp) o x⟩
 item:=by
  intro X N Q R l i j s Z H E I A st T;subst N Q R;obtain⟨hz,yc,⟨u0,v0,AS⟩,Y,h2⟩:=st;obtain⟨xs,V,x,y,mz,qh,hx,C⟩:=T;obtain⟨its,rv,p,C_⟩:=I.list mz;obtain⟨its2,AU,p2,Gh⟩:=I.list qh;obtain⟨u,hu,ru⟩:=rv.get hx;obtain⟨u2,ZH,ZI⟩:=AU.get C;refine wpAny_pyNext_zip_item D hz yc AS Y h2 p.isList p2.isList (x:=u) (y:=u2) (by simpa using hu) (by simpa using ZH) λt a1 a2 a3 a4 a5 a6 G=>?_;have I1:Inv X j Z (upd H s.heap.objs.size (.tup [x,y])) {s with heap:=t,toks:=s.toks}:=I.Ir (t':=s.toks) A (λb o d e=>G b o (λz=>d (by simp[z])) (λz=>d (by simp[z])) (λz=>d (by simp[z])) (λz=>d (by simp[z])) e) (Qz _) (jR ru ZI a5);refine⟨_,rfl,wpAny_letOwnedTupleGo_zip (s:={s with heap:=t}) a1 λDc ZJ r=>?_⟩;have av:∀b∈[z,TI,TO,m,n],b≠s.heap.objs.size:=λc l g=>by
   simp only[Qp,QB,or_false]at l;obtain⟨o1,e1,_⟩:=Y;obtain⟨o2,e2,_⟩:=h2;rcases l with rfl|rfl|rfl|rfl|rfl
   ·exact yU (QA hz) g
   ·exact yU (QA yc) g
   ·exact yU (QA AS) g
   ·exact yU (QA e1) g
   ·exact yU (QA e2) g
  have Bm:∀b∈[z,TI,TO,m,n],wg X j (upd H s.heap.objs.size (.tup [x,y])) b:=λb d=>by
   obtain⟨f0,f⟩:=A b d;exact⟨by rw[aB (av b d)];exact f0,f⟩
  obtain⟨f0,f1,f2,f3,f4,f5⟩:=Bm z (by simp);refine⟨.ref s.heap.objs.size,_,I1.turned (t':=s.toks) (λb o d q=>(r.2 b d).trans q) f0 f1 f3 f4 f5,rfl,⟨x,y,λV C=>by rw[I.Ks C mz];exact hx,λV KO=>by rw[I.Ks KO qh];exact C,_,rfl,I.hok.fresh (Qz _),rfl⟩,?_,λb d=>(Bm b d).1⟩;refine⟨ZJ,(r.2 _ D.TIz).trans (G _ _ D.TIz D.TITO D.TIi1 D.TIi2 yc),⟨_,_,(r.2 _ D.TOz).trans a2⟩,a3.at λo q=>(r.2 _ D.i1z).trans q,a4.at λo q=>(r.2 _ D.i2z).trans q⟩
 done:=by
  intro X N Q R l i j s Z H E I A st T;subst N Q R;obtain⟨hz,yc,⟨u0,v0,AS⟩,Y,h2⟩:=st;obtain⟨xs,V,mz,qh,hx⟩:=T;obtain⟨its,rv,p,C_⟩:=I.list mz;obtain⟨its2,AU,p2,Gh⟩:=I.list qh;have hl:=rv.length;have Bg:=AU.length;refine wpAny_pyNext_zip_end (I.ok.hd l) D hz yc AS Y h2 p.isList p2.isList ?_ λt G=>⟨rfl,I.PY (t':=s.toks) A λb o d q=>G b o (λz=>d (by simp[z])) (λz=>d (by simp[z])) (λz=>d (by simp[z])) (λz=>d (by simp[z])) q⟩
  rcases hx with hx|hx
  ·exact .inl (by simp;lia)
  ·exact .inr (by simp;lia)
 self:=λ_ _ _ _ _ st h=>wpAny_pyIter_zip st.1 h
section
variable{k:Nat}{wm p pos:Pos}{a b:Expr}{ta:TA}
def PZ(K:Q0)(a:TA):TI:=λZ H R=>a Z H λvs H1=>∃l m xs J,vs=[.ref l,.ref m]/\ai K H1 l xs/\ai K H1 m J/\R (Lk K l m) H1
theorem ZK(r:Gl X "zip")(t:X.mg "zip"=none)(u:PA X [a,b] ta)(hs:starEach [a,b] X.env=[(false,eval a X.env),(false,eval b X.env)]:=by rfl)(i:starEach [b] X.env=[(false,eval b X.env)]:=by rfl):
  PI X (.Tuple A8 k wm) (.Call (.Name "zip" p) [a,b] [] pos) (PZ X.K ta):=by
 intro d s j H R I h;refine Call_ (iC I r t boot_zip (oj (ay (u pos d s j H _ I h) λO c ⟨vs,n,f,w,z⟩=>?_) (by rw[hs,i]) (by rw[i];rfl)));obtain⟨l,m,xs,J,e,mz,qh,q⟩:=z;subst e;obtain⟨u1,u2,rfl,Iu,Lm⟩:=w.two;cases Iu;cases Lm;obtain⟨its,rv,pl,g⟩:=f.list mz;obtain⟨its2,AU,EC,Gh⟩:=f.list qh;have A:l<c.heap.objs.size:=by obtain⟨_,e,_⟩:=pl.isList;exact QA e
 have C:m<c.heap.objs.size:=by obtain⟨_,e,_⟩:=EC.isList;exact QA e
 refine call_zip_2 pl.isList EC.isList λD g E G L N P Q=>wpAny_pyIter_zip g ?_;have T:Inv X d j n {c with heap:=D}:=f.kept (t':=c.toks) Q;have ne:∀{x y:Nat},x<y->x≠y:=λh=>yU h;have V:∀{x y:Nat},y<x->x≠y:=λh=>dq h;refine⟨c.heap.objs.size+4,[c.heap.objs.size+4,c.heap.objs.size+2,c.heap.objs.size+3,c.heap.objs.size,c.heap.objs.size+1],_,_,n,rfl,T,ZG _ _ _ _ _ l m ?_,⟨g,E,⟨_,_,G⟩,L,N⟩,λb o=>?_,q⟩
 ·exact lM A C
 ·simp only[Qp,QB,or_false]at o;rcases o with rfl|rfl|rfl|rfl|rfl<;>exact f.wj (by simp) (f.hok.fresh (by simp))
theorem xX(K:Q0)(c:Gl X "zip")(d:X.mg "zip"=none)(e:SA X [a,b] ta)(h:X.K=K:=by rfl)(hs:starEach [a,b] X.env=[(false,eval a X.env),(false,eval b X.env)]:=by rfl)(f:starEach [b] X.env=[(false,eval b X.env)]:=by rfl):
  SI X (.Tuple A8 k wm) (.Call (.Name "zip" p) [a,b] [] pos) (PZ K ta):=by subst h;exact⟨ZK c d e.h hs f⟩
end
def ED(J:It)(ok:Hp->Prop)(n:Nat)(a b:Nat->V):Prop:=
 ∀H,ok H->(∀i,i<n->J.go i H/\∀x U,J.qx i H x U->EB (a i) (b i) H x U)/\J.stop n H
theorem xJ{K:Q0}(xs J:bY):ED (Lk K a b) (λH=>ai K H a xs/\ai K H b J) (min xs.length J.length) (λi=>xs.getD i .ao) (λi=>J.getD i .ao):=λH c=>
 ⟨λi l=>⟨⟨xs,J,xs[i]'(by lia),J[i]'(by lia),c.1,c.2,by simp,by simp⟩,λx e ⟨f,g,h,d,y⟩=>by
  have j:xs.getD i V.ao=f:=by rw[Qb,h xs c.1];rfl
  have k:J.getD i V.ao=g:=by rw[Qb,d J c.2];rfl
  show EB (xs.getD i .ao) (J.getD i .ao) H x e;rw[j,k];exact y⟩,⟨xs,J,c.1,c.2,by lia⟩⟩
abbrev g2(K:Q0)(a b:Nat):TG:=B5 K 2 (zq (jj a) (zq (jj b) Eh))
theorem fI{K:Q0}{a b:Nat}{T:Addr}{c d:V}{Q:St->Hp->Prop}(h:H T=some (.tup [c,d]))(q:Q ((Z.set a (some c)).set b (some d)) H):g2 K a b (.ref T) Z H Q:=
 ⟨T,_,rfl,ak.of h,rfl,_,_,rfl,_,_,rfl,rfl,q⟩
theorem tK{K:Q0}{J:It}{ok:Hp->Prop}{f g:Nat->V}{a b:Nat}{j:TS}{D:Ends}(l:ED J ok n f g)(c:Nat->St->Hp->Prop)(h0:c 0 Z H)(hok:∀i o H,i<=n->c i o H->ok H)
  (hs:∀i Z H T,i<n->c i Z H->H T=none->j {D with nx:=c (i+1),ct:=c (i+1),bk:=D.nx} ((Z.set a (some (f i))).set b (some (g i))) (upd H T (.tup [f i,g i]))) (q:∀Z H,c n Z H->D.nx Z H):
  ∃W:Nat->Nat->St->Hp->Prop,(∃m,W 0 m Z H)/\∀i m Z H,W i m Z H->
   (J.stop i H/\D.nx Z H)\/(J.go i H/\∃N:St->Hp->Prop,(∀d U,N d U->∃k,k<m/\W (i+1) k d U)/\∀x U,J.qx i H x U->g2 K a b x Z U λh H2=>j {D with nx:=N,ct:=N,bk:=D.nx} h H2):=by
 refine⟨λi m Z H=>m=n-i/\i<=n/\c i Z H,⟨n,by simp,dm _,h0⟩,?_⟩;rintro i m Z H ⟨rfl,r,p⟩;obtain⟨k1,k2⟩:=l H (hok i Z H r p);by_cases av:i<n
 ·refine .inr ⟨(k1 i av).1,c (i+1),λd U s=>⟨n-(i+1),by lia,rfl,av,s⟩,λx U y=>?_⟩;obtain⟨T,rfl,hT,rfl⟩:=(k1 i av).2 x U y;exact fI aA (hs i Z _ T av p hT)
 ·have e:i=n:=by lia
  subst e;exact .inl ⟨k2,q Z H p⟩
end L2
namespace PySem
theorem mW{xs:Array Value}{k:Nat}{Q:cv->Shared->Prop}
  (i:s.heap.get? a=some o) (j:o.cls=.type "tuple") (l:o.data=.seq xs k) (m:o.dict=none) (q:A.handled=none)
  (h:∀M tk,(∀b ob,s.heap.get? b=some ob->M.get? b=some ob)->Q none {s with heap:=M,toks:=tk}):
  wpAny 'f' A (getAttr? (.ref a) "keys") Q E s:=by
 obtain⟨c,dct,dat,sl⟩:=o;simp only at j l m;subst j l m;obtain⟨hp,g,d,tk,os⟩:=s;have n:∀p,(⟨hp,g,d,p,os⟩:Shared).TypeIs (.ref a) "tuple":=λ_=>⟨_,i,rfl⟩
 have r:typeLookup (.type "tuple") "keys"=pure none:=am_miss_of_fast (by kernel_rfl);have t:=sub_AttributeError;have u:=F.slot_tuple_getattribute.lookup;have x:=F.slot_tuple_getattribute.bind (.ref a);have y:=am_tuple_getattr_none;unfold getAttr? getAttrBy? getAttrBy
 repeat(any_goals (first|assumption|exact n _|((with_reducible show wpAny _ _ (call (Value.builtin "tuple.__getattribute__") _ _) _ _ _);refine call_meets F.slot_tuple_getattribute (n _) am_entry_tuple_getattribute (F.args_tuple_getattribute_2 _ _) (meets_getattribute_miss_tuple a xs k sl _ _ r (by decide) (by decide)) ⟨i,q,λM p e f=>?_⟩)|wp_step))
 obtain⟨t',u',he⟩:=f.there;show wpAny _ _ (getattributeRaised _ _ _ _ _ _ _) _ _ _;unfold getattributeRaised
 repeat(any_goals (first|assumption|wp_step))
 exact h _ _ f.keeps
end PySem
namespace PySem.F
theorem P4:entryFor table "dict.update.loop"=some Builtin.«dict.update.loop»:=entryFor_of_tree (by kernel_rfl)
theorem Iv:plainId "dict.update.loop"=true:=by decide+kernel
end PySem.F
namespace L2
open PySem PySem.Spec PyProof.Rows
def ky(H:Hp)(J:bY)(a:ca):Prop:=J.length=a.length/\∀i(h:i<a.length),∃b,J[i]? =some (.ref b)/\H b=some (.tup [kV a[i].1,a[i].2])
def dictOf(a:ca):ca:=a.foldl (λkvs r=>ci kvs r.1 r.2) []
theorem tS(a:ca):∀kvs:ca,(a.foldl (λkvs r=>ci kvs r.1 r.2) kvs).length<=kvs.length+a.length:=by
 induction a with
 |nil=>intro kvs;exact Qz _
 |cons r a ih=>
  intro kvs;have b:=ih (ci kvs r.1 r.2);have c:=bU kvs r.1 r.2;rw[List.foldl_cons,dV]
  lia
theorem jE(a:ca):(dictOf a).length<=a.length:=by have:=tS a [];simpa[dictOf]using this
theorem lR(a:ca)(i:Nat)(h:i<a.length):dictOf (a.take (i+1))=ci (dictOf (a.take i)) a[i].1 a[i].2:=by
 unfold dictOf;rw[Qs,Qa h,Option.toList_some,ma];rfl
theorem wL{d:Addr}{J:bY}{c:ca}(K:A.handled=none)(t:H d=none)(fh:c.length<=sizeLine)(y:ky H J c)(j:H a=some (.tup J))(h:it≠d)
  (L:∀s,Inv X B Z (upd H d (.dK (dictOf c))) s->R (.ok (.ret .none)) s):
  ∀(k i:Nat)(s:Shared),c.length-i=k->i<=c.length->Inv X B Z (upd H d (.dK (dictOf (c.take i)))) s->s.heap.IsTupleIter it a i->wg X B (upd H d (.dK (dictOf (c.take i)))) it->
   codeAny 'a' A (.builtin "dict.update.loop" ⟨[.ref d,.ref it,rawInt i,.none],[]⟩) R s:=by
 have C:a≠d:=aO j t;intro k
 induction k with
 |zero=>
  intro i s N P I st f;have Q:i=c.length:=by lia
  subst Q;refine codeAny_builtin F.P4 ?_;rw[lc F.Iv _];show wpAny _ A.in1 (pyNext (.ref it) >>=_) _ _ s;obtain⟨its,rv,p,hz⟩:=I.tuple (ak.of (by rw[aB C];exact j));have hl:=rv.length;have Bg:=y.1;obtain⟨f0,f1,f2,f3,f4,f5⟩:=f;refine QT (wpAny_pyNext_tuple_end (by simp[K]) st (show s.heap.IsTuple a its.toArray from p) (by simp;lia) λM V=>?_);have g:=I.turned (t':=s.toks) (M:=M) (λb o l e=>V b o l e) f0 f1 f3 f4 f5;rw[Qo]at g;show wpAny _ _ (Builtin.Dict.addKeywords d [] >>=λ_=>ret .none) _ _ _;exact QT (QU (QU (L _ g)))
 |succ k ih=>
  intro i s N P I st f;have m:i<c.length:=by lia
  refine codeAny_builtin F.P4 ?_;rw[lc F.Iv _];show wpAny _ A.in1 (pyNext (.ref it) >>=_) _ _ s;obtain⟨its,rv,p,hz⟩:=I.tuple (ak.of (by rw[aB C];exact j));obtain⟨b,EE,Gj⟩:=y.2 i m;obtain⟨u,hu,ru⟩:=rv.get EE;cases ru;obtain⟨f0,f1,f2,f3,f4,f5⟩:=id f;refine QT (wpAny_pyNext_tuple_item st (show s.heap.IsTuple a its.toArray from p) (x:=.ref b) (by simpa using hu) λM r sb=>?_);have g:Inv X B Z (upd H d (.dK (dictOf (c.take i)))) {s with heap:=M}:=I.turned (t':=s.toks) (λb o l e=>(sb.2 b l).trans e) f0 f1 f3 f4 f5;have ZM:b≠d:=aO Gj t;obtain⟨its2,AU,⟨ob,ho,hc,n,hd2⟩,Gh⟩:=g.tuple (ak.of (a:=b) (by rw[aB ZM];exact Gj));obtain⟨u1,u2,rfl,r1,r2⟩:=AU.two;show wpAny _ A.in1 (holding [Value.ref b] _ >>=_) _ _ _;refine QT (wpAny_holding (QT (wpAny_tryCatch ?_)));unfold Builtin.Dict.pairItems;refine QT (wpAny_typeOf (T:="tuple") ⟨ob,ho,hc⟩ ?_);rw[if_pos (by decide)];refine QT (wpAny_seqItems ho hd2 (QU ?_));show wpAny _ A.in1 (holding [u1,u2] (dictSet d u1 u2)) _ _ _;refine wpAny_holding ?_;obtain⟨z,hd,vs,rel,dd⟩:=pE g.hok (aA:upd H d (.dK (dictOf (c.take i))) d=_);have ig:=jE (c.take i);rw[u9]at ig;have je:(dictOf (c.take i)).length<sizeLine:=by lia
  have C_:vs.length<=sizeLine:=by rw[<- rel.length];exact z
  have ZN:(ci (dictOf (c.take i)) c[i].1 c[i].2).length<=sizeLine:=by have:=bU (dictOf (c.take i)) c[i].1 c[i].2;lia
  refine wpAny_dictSet_pairs (hsz:=C_) (h9 r1) dd λh2 D E=>?_;have Lh:∃q,h2.get? d=some q:=let ⟨q,_,_,hq,_⟩:=D;⟨q,hq⟩
  have G:=dW (t':=s.toks+1) (ob:=.dK (ci (dictOf (c.take i)) c[i].1 c[i].2)) g (by rw[aA];exact True.intro) E Lh (lJ ZN hd (rel.put _ r2) D);rw[iK,<- lR c i m]at G;refine QU ⟨plainId_quiet F.Iv _,?_⟩;exact ih (i+1) _ (by lia) m G (r.at λo q=>(E.2 it h).trans q) ⟨by rw[aB h]at f0⊢;exact f0,f1,f2,f3,f4,f5⟩
def ZO:bY->Hp->VK->Prop:=λxs H Q=>∃a J rs,xs=[.ref a]/\H a=some (.tup J)/\ky H J rs/\rs.length<=sizeLine/\∀d,H d=none->Q (.ref d) (upd H d (.dK (dictOf rs)))
theorem k9(y:X.calm=true):n_ X (.type "dict") ZO:=by
 intro B s Z H xs D Q I r h;obtain⟨a,J,rs,rfl,ha,hp,hl,q⟩:=h;obtain⟨u,rfl,ru⟩:=r.one;cases ru;refine callType_codes (Q₁:=λf d=>f=.ref s.heap.objs.size/\d={s with heap:=s.heap.push {cls:=.type "dict",data:=.dict #[]}}) F.kt_called_dict (F.kt_typeCall_dict_1 _) F.entry_dict_init (kt_code_dict_new _ ⟨rfl,rfl⟩) ?_;rintro f d ⟨rfl,rfl⟩;have i:H s.heap.objs.size=none:=I.hok.fresh (Qz _);have c:(s.heap.push {cls:=.type "dict",data:=.dict #[]}).DictOf (cz X.prog X.w) s.heap.objs.size []:=Heap.DictOf.new s.heap;have m:Inv X B Z (upd H s.heap.objs.size (.dK [])) {s with heap:=s.heap.push {cls:=.type "dict",data:=.dict #[]}}:=I.laid (t':=s.toks) (λb u e=>Qc _ e) (Qz _)
  ⟨dm _,beq_eq_false_iff_ne.mpr (Ne.symm (yU I.big)),[],.nil,c⟩
 have p:a≠s.heap.objs.size:=aO ha i;obtain⟨⟨z,nd⟩,its,rv,o,ho,uf,n,hd⟩:=(show br X.prog X.w _ _ a (.tup J)from m.hok a _ (by rw[aB p];exact ha))
 refine⟨c.typeIs,F.args_dict_init_2 _ _,?_⟩;unfold Builtin.«dict.__init__»;refine QT ?_;unfold Builtin.Dict.selfAndRest;refine QT (wpAny_notOrdered_dict c.typeIs ?_);show wpAny _ _ (pure (s.heap.objs.size,[Value.ref a])) _ _ _;refine QU ?_;show wpAny _ _ (Builtin.Dict.updateFrom "dict.__init__" s.heap.objs.size (.ref a) [] .none) _ _ _;unfold Builtin.Dict.updateFrom;refine QT (wpAny_typeOf (T:="tuple") ⟨o,ho,uf⟩ ?_);rw[if_pos (by decide)];have t:X.A.handled=none:=I.ok.hd y;refine QT (mW ho uf hd (nd _ ho) (by simp[t]) λj k x=>?_);rw[if_pos (by rfl)];refine QT (wpAny_rule ?_);have g:Inv X B Z (upd H s.heap.objs.size (.dK [])) {s with heap:=j,toks:=k}:=m.kept (t':=k) x;obtain⟨its2,AU,p2,Gh⟩:=g.tuple (ak.of (a:=a) (xs:=J) (by rw[aB p];exact ha));refine QT (wpAny_pyIter_tuple (show Heap.IsTuple j a its2.toArray from p2) ?_);have l:s.heap.objs.size<j.objs.size:=by
  obtain⟨_,_,_,e,_⟩:=c;exact QA (x _ _ e)
 refine QU ⟨plainId_quiet F.Iv _,?_⟩;refine wL (X:=X) (B:=B) (Z:=Z) (by simp[t]) i hl hp ha (dq l) (λE C=>⟨rfl,.ref s.heap.objs.size,_,C,rfl,q _ i⟩) rs.length 0 _ rfl (dm _) (g.kept (t':=k) λb o e=>Qc _ e) ⟨_,Qd _ rfl,rfl,rfl⟩ (g.wj (Qz _) (g.hok.fresh (Qz _)))
def Tk(H U:Hp):Prop:=∀b xs,H b=some (.tup xs)->U b=some (.tup xs)
theorem Tk.refl:Tk H H:=λ_ _ h=>h
theorem Tk.trans{d e:Hp}(a:Tk H d)(b:Tk d e):Tk H e:=λc f h=>b c f (a c f h)
theorem ae.ts(s:ae H U):Tk H U:=λb a h=>s b _ h
theorem Tk.upd{H U:Hp}{a:Addr}{o:HO}(s:Tk H U)(h:U a=none):Tk H (L2.upd U a o):=λb c e=>by rw[aB (aO (s b c e) h)];exact s b c e
theorem Tk.set{o c:HO}(s:Tk H U)(h:U a=some o)(d:∀xs,o≠.tup xs):Tk H (L2.upd U a c):=λb xs e=>by
 rw[aB (λz=>by rw[z]at e;have:=s a xs e;rw[h]at this;cases this;exact d _ rfl)];exact s b xs e
inductive Bo (H:Hp):V->PyData->Prop
 |str (z:Str):Bo H (.str z) (.str z)
 |tup {a:Addr} {xs:bY} {ds:List PyData}:H a=some (.tup xs)->xs.length=ds.length->(∀i(h:i<xs.length)(M:i<ds.length),Bo H xs[i] ds[i])->Bo H (.ref a) (.tuple ds)
theorem Bo.ts(s:Tk H U){v:V}{d:PyData}(h:Bo H v d):Bo U v d:=by
 induction h with
 |str z=>exact .str z
 |tup e hl _ ih=>exact .tup (s _ _ e) hl ih
theorem iA:∀{ds:List PyData},(∀d∈ds,d.showable=true)->PyData.showableAll ds=true
 | [],_=>by simp[PyData.showableAll]
 |d::ds,h=>by simp[PyData.showableAll,h d yS,iA λx a=>h x (Qh _ a)]
theorem iP:∀{ds:List PyData},(∀d∈ds,d.hasDict=false)->PyData.hasDictAll ds=false
 | [],_=>by simp[PyData.hasDictAll]
 |d::ds,h=>by simp[PyData.hasDictAll,h d yS,iP λx a=>h x (Qh _ a)]
theorem lY{k:Nat}:∀{ds:List PyData},(∀d∈ds,d.depth<=k)->PyData.depthAll ds<=k
 | [],_=>by simp[PyData.depthAll]
 |d::ds,h=>by
  have b:=h d yS;have c:=lY (ds:=ds) λx a=>h x (Qh _ a);simp[PyData.depthAll];lia
theorem P6{n:Nat}:∀{ts:aU},(∀t∈ts,t.length<=n)->(ts.map (·.length)).sum<=ts.length*n
 | [],_=>by simp
 |t::ts,h=>by
  have b:=h t yS;have c:=P6 (ts:=ts) λx a=>h x (Qh _ a);rw[yV,List.sum_cons,dV,Nat.add_mul];lia
def TB(H:Hp)(v:V)(k n:Nat):Prop:=∃d,Bo H v d/\d.depth<=k/\d.shown.length<=n/\d.showable=true/\d.hasDict=false
def Wd(z:Str):Prop:=z.length<=20/\∀c∈z.cps.toList,c<128
theorem TB.mono{v:V}{k a b:Nat}(h:TB H v k n)(c:k<=a)(e:n<=b):TB H v a b:=by
 obtain⟨d,Y,h2,h3,h4,h5⟩:=h;exact⟨d,Y,by lia,by lia,h4,h5⟩
theorem TB.ts{H U:Hp}(s:Tk H U){v:V}{k n:Nat}(h:TB H v k n):TB U v k n:=by
 obtain⟨d,Y,h2⟩:=h;exact⟨d,Y.ts s,h2⟩
theorem TB.str{H:Hp}{z:Str}(h:Wd z):TB H (.str z) 0 202:=by
 refine⟨.str z,.str z,by simp[PyData.depth],?_,by simp[PyData.showable],by simp[PyData.hasDict]⟩;show(PyData.str z).shown.length<=202;simp only[PyData.shown];have:=StrLaws.reprText_len z (λc a=>jB (h.2 c a) (by decide));have:=h.1
 lia
theorem TB.tup{H:Hp}{a:Addr}{xs:bY}{k n:Nat}(e:H a=some (.tup xs))(h:∀x∈xs,TB H x k n):TB H (.ref a) (k+1) (xs.length*(n+2)+3):=by
 have o:∀i:Fin xs.length,∃d,Bo H xs[i.val] d/\d.depth<=k/\d.shown.length<=n/\d.showable=true/\d.hasDict=false:=λi=>h _ (Qj i.isLt);obtain⟨f,hf⟩:=lp o;have c:∀d∈List.ofFn f,d.depth<=k/\d.shown.length<=n/\d.showable=true/\d.hasDict=false:=λd b=>by
  obtain⟨i,rfl⟩:=List.mem_ofFn.mp b;exact(hf i).2
 refine⟨.tuple (List.ofFn f),.tup e (by simp) λi g j=>?_,?_,?_,?_,?_⟩
 ·have:=(hf ⟨i,g⟩).1;simpa using this
 ·simp only[PyData.depth];have:=lY (λd b=>(c d b).1)
  lia
 ·simp only[PyData.shown];have g:=tupleText_len_le (PyData.shownAll (List.ofFn f));have l:PyData.shownAll (List.ofFn f)=(List.ofFn f).map PyData.shown:=shownAll_eq_map _;have j:((PyData.shownAll (List.ofFn f)).map (·.length)).sum<=(PyData.shownAll (List.ofFn f)).length*n:=P6 λt m=>by
   rw[l]at m;obtain⟨d,b,rfl⟩:=Z2.mp m;exact(c d b).2.1
  have p:(PyData.shownAll (List.ofFn f)).length=xs.length:=by rw[l];simp
  rw[p]at g j;rw[Nat.mul_add];lia
 ·simp only[PyData.showable];exact iA λd b=>(c d b).2.2.1
 ·simp only[PyData.hasDict];exact iP λd b=>(c d b).2.2.2
theorem lX(a:ca):(a.map (·.1)).Nodup->∀i(h:i<a.length),a_ (dictOf a) a[i].1=some a[i].2:=by
 have gen:∀(a:ca)(b:ca),(a.map (·.1)).Nodup->∀k,a_ (a.foldl (λb r=>ci b r.1 r.2) b) k=((a.find? λr=>decide (r.1=k)).map (·.2)).or (a_ b k):=by
  intro a
  induction a with
  |nil=>intro b _ k;simp
  |cons r a ih=>
   intro b c k;rw[yV,uY]at c;rw[List.foldl_cons,ih _ c.2,mS];by_cases e:r.1=k
   ·have:a.find? (λr=>decide (r.1=k))=none:=by
     rw[Qa4];intro x d z;have f:=Qt z;exact c.1 (Z2.mpr ⟨x,d,by rw[f,e]⟩)
    rw[this,gV,if_pos e.symm];simp[e]
   ·rw[if_neg (λz=>e z.symm),gV];simp[e]
 intro c i h;unfold dictOf;rw[gen a [] c];have:a.find? (λr=>decide (r.1=a[i].1))=some a[i]:=by
  rw[qf];refine⟨by simp,i,h,rfl,λj g=>?_⟩;have l:(a.map (·.1))[j]'(by simp;lia)≠(a.map (·.1))[i]'(by simpa using h):=λz=>by
   exact(uW.mp c j i (by simp;lia) (by simpa using h) g) z
  simpa using l
 rw[this];rfl
abbrev cf(a:cw):ca:=a.map λr=>(Sum.inr r.1,r.2)
def Dd(H:Hp)(v:V)(o:Option Str):Prop:=∃b,v=.ref b/\((∃s J,H b=some (.tup (.str s::J))/\s≠"as"/\o=none)\/∃x,H b=some (.tup [.str "as",.str x])/\o=some x)
theorem Dd.ts(s:Tk H U){v:V}{o:Option Str}(h:Dd H v o):Dd U v o:=by
 obtain⟨b,e,h⟩:=h;refine⟨b,e,?_⟩;rcases h with⟨z,d,a,c⟩|⟨x,a,c⟩
 ·exact .inl ⟨z,d,s _ _ a,c⟩
 ·exact .inr ⟨x,s _ _ a,c⟩
structure ug(H:Hp)(a:Addr)(xs:bY)(rs:cw)(nx:Str->Option Str)(ρ:Str->Nat):Prop where
 at_:H a=some (.tup xs)
 ps:ky H xs (cf rs)
 nd:(rs.map (·.1)).Nodup
 len:rs.length<=300
 pos:0<rs.length
 as:∀r∈rs,Dd H r.2 (nx r.1)
 jz:∀r∈rs,∀y,nx r.1=some y->y∈rs.map (·.1)/\ρ y<ρ r.1
 rk:∀r∈rs,ρ r.1<=rs.length
 tb:∀r∈rs,Wd r.1/\TB H r.2 3 8273
theorem ky.ts{J:bY}{a:ca}(p:ky H J a)(s:Tk H U):ky U J a:=⟨p.1,λi h=>let ⟨b,e1,e2⟩:=p.2 i h;⟨b,e1,s _ _ e2⟩⟩
section
variable{xs:bY}{rs:cw}{nx:Str->Option Str}{ρ:Str->Nat}
theorem ug.ts(g:ug H a xs rs nx ρ)(s:Tk H U):ug U a xs rs nx ρ:=
 ⟨s _ _ g.at_,g.ps.ts s,g.nd,g.len,g.pos,λr b=>(g.as r b).ts s,g.jz,g.rk,λr b=>⟨(g.tb r b).1,(g.tb r b).2.ts s⟩⟩
theorem nK(h:(rs.map (·.1)).Nodup):((cf rs).map (·.1)).Nodup:=by
 have e:(cf rs).map (·.1)=(rs.map (·.1)).map (Sum.inr:Str->Key):=by simp[cf,Qn,QC]
 rw[e];exact List.Pairwise.map _ (λa b c z=>c (eh z)) h
theorem ug.get(g:ug H a xs rs nx ρ)(b:x∈rs.map (·.1)):∃v,(x,v)∈rs/\a_ (dictOf (cf rs)) (.inr x)=some v:=by
 obtain⟨r,hr,rfl⟩:=Z2.mp b;obtain⟨i,hi,rfl⟩:=Qi hr;refine⟨rs[i].2,hr,?_⟩;have:=lX (cf rs) (nK g.nd) i (by simpa using hi);simpa using this
def De(nx:Str->Option Str)(x:Str):Str:=(nx x).getD x
def Af(nx:Str->Option Str):Nat->Str->Str
 |0,x=>x
 |n+1,x=>Af nx n (De nx x)
theorem dB(n:Nat)(h:nx x=none):Af nx n x=x:=by
 induction n with
 |zero=>rfl
 |succ n ih=>rw[Af];rw[show De nx x=x by simp[De,h]];exact ih
theorem ug.run(g:ug H a xs rs nx ρ):∀(n:Nat)(x:Str),x∈rs.map (·.1)->ρ x<=n->Af nx n x∈rs.map (·.1)/\nx (Af nx n x)=none/\Af nx (n+1) x=Af nx n x:=by
 intro n
 induction n with
 |zero=>
  intro x b c;obtain⟨r,ia,rfl⟩:=Z2.mp b;cases e:nx r.1 with
  |none=>exact⟨b,e,dB 1 e⟩
  |some y=>have:=(g.jz r ia y e).2;lia
 |succ n ih=>
  intro x b c;obtain⟨r,ia,rfl⟩:=Z2.mp b;cases e:nx r.1 with
  |none=>
   rw[dB _ e,dB _ e];exact⟨b,e,rfl⟩
  |some y=>
   have d:De nx r.1=y:=by simp[De,e]
   obtain⟨Y,h2⟩:=g.jz r ia y e;have:=ih y Y (by lia);rw[Af,Af,d];exact this
def ip(nx:Str->Option Str)(n:Nat)(x:Str):Str:=Af nx n x
theorem ug.Bp(g:ug H a xs rs nx ρ)(b:x∈rs.map (·.1)):ip nx rs.length x∈rs.map (·.1)/\nx (ip nx rs.length x)=none:=by
 obtain⟨r,hr,rfl⟩:=Z2.mp b;obtain⟨Y,h2,_⟩:=g.run rs.length r.1 b (g.rk r hr);exact⟨Y,h2⟩
theorem ug.P7(g:ug H a xs rs nx ρ){y:Str}(b:x∈rs.map (·.1))(e:nx x=some y):ip nx rs.length y=ip nx rs.length x:=by
 obtain⟨r,hr,rfl⟩:=Z2.mp b;obtain⟨Y,h2,h3⟩:=g.run rs.length r.1 b (g.rk r hr);have c:De nx r.1=y:=by simp[De,e]
 rw[Af,c]at h3;exact h3
end
theorem tT(xs:bY)(k:Nat):qd xs (some (k:Int)) none=xs.drop k:=by
 unfold qd;rw[HT.qI,HT.tL];by_cases h:k<=xs.length
 ·rw[Nat.min_eq_left h];exact iT (by simp)
 ·rw[Nat.min_eq_right (by lia)];simp[List.drop_eq_nil_of_le (show xs.length<=k by lia)]
theorem vG(xs:bY)(k:Nat):qd xs none (some (k:Int))=xs.take k:=by
 unfold qd;rw[HT.qI,HT.tL];simp
theorem zE{l:List α}(h:l.Nodup){x:α}(c:l[i]? =some x)(d:l[j]? =some x):i=j:=by
 obtain⟨a,e1⟩:=yE.mp c;obtain⟨b,e2⟩:=yE.mp d;rcases Nat.lt_trichotomy i j with z|z|z
 ·exact((uW.mp h i j a b z) (e1.trans e2.symm)).elim
 ·exact z
 ·exact((uW.mp h j i b a z) (e2.trans e1.symm)).elim
theorem pF [BEq α][LawfulBEq α]{l:List α}(h:l.Nodup){x:α}(a:l[i]? =some x):l.idxOf x=i:=by
 have b:x∈l:=QD a;have c:l.idxOf x<l.length:=List.idxOf_lt_length_of_mem b;have d:l[l.idxOf x]? =some x:=by rw[Qa c,List.getElem_idxOf]
 exact zE h d a
open Classical in
theorem fX(a:z.length<=20)(b:∀c∈z.cps.toList,c<128):Wd z:=⟨a,b⟩
section
variable{β:Type}{R:α->β->Prop}
theorem nP:∀{xs b:List α}{J c:List β},Paired R xs J->Paired R b c->Paired R (xs++b) (J++c)
 |_,_,_,_,.nil,h=>h
 |_,_,_,_,.cons a r,h=>.cons a (nP r h)
theorem P9:∀{xs:List α}{J:List β},xs.length=J.length->(∀i(h:i<xs.length)(M:i<J.length),R xs[i] J[i])->Paired R xs J
 | [],[],_,_=>.nil
 |x::xs,y::J,hl,h=>.cons (h 0 (by simp) (by simp)) (P9 (by simpa using hl) λi a b=>h (i+1) (by simpa using a) (by simpa using b))
theorem xF:∀{xs:List α}{J:List β},Paired R xs J->xs.length=J.length/\∀i(h:i<xs.length)(M:i<J.length),R xs[i] J[i]
 |_,_,.nil=>⟨rfl,λi h=>absurd h (by simp)⟩
 |_,_,.cons a r=>by
  obtain⟨Y,h2⟩:=xF r;refine⟨by simp[Y],λi h M=>?_⟩;cases i with
  |zero=>exact a
  |succ i=>exact h2 i (by simpa using h) (by simpa using M)
end
def PR(H:Hp)(x:V)(r:Key×V):Prop:=∃b,x=.ref b/\H b=some (.tup [kV r.1,r.2])
theorem gA{xs:bY}{c:ca}:ky H xs c↔Paired (PR H) xs c:=by
 constructor
 ·rintro⟨hl,h⟩;refine P9 hl λi d a=>?_;obtain⟨b,e1,e2⟩:=h i a;rw[Qa d]at e1;exact⟨b,QE e1,e2⟩
 ·intro h;obtain⟨hl,M⟩:=xF h;refine⟨hl,λi a=>?_⟩;obtain⟨b,e1,e2⟩:=M i (by lia) a;exact⟨b,by rw[Qa (by lia),e1],e2⟩
section
variable{xs:bY}{rs:cw}
theorem rB(a b:cw):cf (a++b)=cf a++cf b:=by simp[cf]
theorem kL:ky H [] (cf []):=gA.mpr .nil
theorem jA(h:ky H xs (cf rs)){n:Str}{v:V}(e:H b=some (.tup [.str n,v])):ky H (xs++[.ref b]) (cf (rs++[(n,v)])):=by
 rw[rB];exact gA.mpr (nP (gA.mp h) (.cons ⟨b,rfl,e⟩ .nil))
end
def KD(w:World)(K:Q0)(a:Addr)(kvs:ca):Prop:=∀P:Program,∃(o:Obj)(es:Array DictEntry)(ep:Nat)(vs:List (Key×Value)),K.lookup a=some o/\(a==sysModules)=false/\o.ExactDict/\o.data=.dict es ep/\KeysOf (cz P w) es/\Pairs (cz P w) es.toList vs/\(vs.map (·.1)).Nodup/\KV kvs vs
section
variable{kvs:ca}
theorem KD.of(h:KD X.w X.K a kvs)(I:Inv X B Z H s):(a==sysModules)=false/\∃vs,KV kvs vs/\s.heap.DictOf (cz X.prog X.w) a vs:=by
 obtain⟨o,es,ep,vs,Y,h2,h3,h4,h5,h6,h7,h8⟩:=h X.prog;exact⟨h2,vs,h8,o,es,ep,I.ji a o Y,h3,h4,h5,h6,h7⟩
variable{pos p:Pos}
def P_(kvs:ca)(a:TE):TE:=λZ H Q=>a Z H λy H1=>∃k,y=kV k/\Q (.bl (a_ kvs k).isSome) H1
theorem ZP{K:Q0}(g:∃a,X.mg x=some (.ref a)/\KD w K a kvs)(i:PE X e te)(j:X.w=w)(l:X.K=K)(m:Gl X x)(n:db x):PC X .In e (.Name x p) (P_ kvs te):=by
 subst j l;obtain⟨a,hm,kd⟩:=g;intro b s c H Q I h;refine ay (i b s c H _ I h) ?_;rintro L o ⟨y,d,q,r,k,t,A⟩;subst t;refine ay (mQ (v:=.ref a) m hm rfl n b o c d (λv C=>v=.ref a/\C=d) q ⟨rfl,rfl⟩) λu N ⟨z,P,f,D,E,G⟩=>?_;subst E G;cases D;obtain⟨Y,vs,rel,dd⟩:=kd.of f;refine wpAny_in_of (h9 r) Y dd.mapOf ?_;rw[<- (rel.val k).C8];exact⟨.bl _,_,f.tok _,rfl,A⟩
theorem ZQ{K:Q0}(b:∃a,X.mg x=some (.ref a)/\KD w K a kvs)(c:SE X e te)(d:X.w=w:=by rfl)(f:X.K=K:=by rfl)(g:Gl X x:=by rfl)(i:db x:=by decide):ST X (.Compare e [.In] [.Name x p] pos) (tB (P_ kvs te)):=⟨V5 (ZP b c.h d f g i) rfl⟩
def ZR(kvs:ca)(a:TE):TE:=λZ H Q=>a Z H λy H1=>∃k v,y=kV k/\a_ kvs k=some v/\Q v H1
theorem ZS{K:Q0}(g:∃a,X.mg x=some (.ref a)/\KD w K a kvs)(i:SE X e te)(hs:F6 e)(c:X.w=w:=by rfl)(j:X.K=K:=by rfl)(l:Gl X x:=by rfl)(m:db x:=by decide):SE X (.Subscript (.Name x p) e pos) (ZR kvs te):=by
 subst c j;obtain⟨a,hm,kd⟩:=g;constructor;intro b s d H Q I h;refine xC PySem.F.slot_dict_getitem.lookup hs (ay (mQ (v:=.ref a) l hm rfl m b s d H (λv n=>v=.ref a/\n=H) I ⟨rfl,rfl⟩) λu r ⟨z,N,t,A,C,D⟩=>?_);subst C D;cases A;refine ay (i.h b r d _ _ t h) ?_;rintro P R ⟨y,T,f,E,k,v,G,L,q⟩;subst G;obtain⟨Y,vs,rel,dd⟩:=kd.of f;obtain⟨w',c,xy⟩:=pq.some_of (v:=v) (o:=valueAt vs k) (by rw[<- L];exact rel.val k);exact⟨dd.typeIs,wpAny_getItem_of (h9 E) dd.mapOf c ⟨v,_,f.tok _,xy,q⟩⟩
end
def jn(kvs:ca)(i:Nat):V:=((kvs[i]?).map λa=>kV a.1).getD .ao
def Lp(a:Addr)(o:Obj)(kvs:ca):It:=⟨λi H=>H a=some 'h'/\i<kvs.length,λi H x U=>U=H/\x=jn kvs i,λi H=>H a=some 'h'/\kvs.length=i⟩
theorem tJ(kvs:ca):AR (Lp a o kvs) (λH=>H a=some 'h') kvs.length (jn kvs):=λH b=>⟨λi c=>⟨⟨b,c⟩,λx d h=>h⟩,b,rfl⟩
theorem Qu{kvs:ca}(r:KV kvs vs):∀{i:Nat}{p:Key×V},kvs[i]? =some p->∃q,vs[i]? =some q/\q.1=p.1:=by
 intro i
 induction r generalizing i with
 |nil=>intro p h;simp at h
 |cons a t ih=>
  intro p h;cases i with
  |zero=>simp at h;subst h;exact⟨_,by simp,a.1.symm⟩
  |succ i=>simp at h;simpa using ih h
theorem oG{k:Key}(h:(cz P w).is k u=true):RelV (kV k) u:=by
 rcases bH h with⟨i,t,rfl,rfl⟩|⟨x,t,rfl,rfl⟩|⟨rfl,rfl⟩
 ·exact⟨t,rfl⟩
 ·exact⟨t,rfl⟩
 ·rfl
theorem KV.len{kvs:ca}(r:KV kvs vs):kvs.length=vs.length:=Paired.length r
theorem yZ{K:Q0}{kvs:ca}(y:∃es,o.data=.dict es ep):dk P w K tg (Lp a o kvs) [it] it (λi h=>h.IsKeyIter it a i kvs.length ep)where
 mem:=by simp
 obj:=λi h st b g=>by
  have e:b=it:=by simpa using g
  subst e;obtain⟨o,e,c,d⟩:=st;exact⟨o,e,λv z=>by rw[d]at z;cases z⟩
 keep:=λi h j st k=>st.at λo e=>k it (by simp) o e
 item:=by
  intro X p r t A i f s C H E I m st u;subst p r t;obtain⟨hq,hi⟩:=u;obtain⟨e,z,hd,vs,rel,ob,es,p_,Y,h2,h3,h4⟩:=(show br X.prog X.w H s.heap a 'h'from I.hok a _ hq)
  obtain⟨es',fu⟩:=y;rw[e]at Y;cases Y;rw[fu]at h3;injection h3 with iu iw
  subst iu iw;obtain⟨q,mz,qh⟩:=Qu rel (Qa hi);have n:=rel.len;obtain⟨f0,f1,f2,f3,f4,f5⟩:=m it (by simp);obtain⟨qk,qv⟩:=q;refine wpAny_pyNext_dict_item (knd:=cz X.prog X.w) (kvs:=vs) (ep:=ep) (by rw[<- n];exact st) ⟨o,es',e,h2,fu,h4⟩ mz λl j G x L=>?_;have N:Inv X f C H {s with heap:=j}:=I.turned (t':=s.toks) (λb o g e=>(L.2 b g).trans e) f0 f1 f3 f4 f5;have D:j.IsKeyIter it a (i+1) kvs.length ep:=by rw[n];exact x
  obtain⟨o3,e3,c3,d3⟩:=id D;refine⟨l,rfl,lU (s:={s with heap:=j}) e3 c3 d3 (by decide) ⟨jn kvs i,H,N,?_,⟨rfl,rfl⟩,D,λb g=>(m b g).1⟩⟩;unfold jn;rw[Qa hi];show RelV (kV kvs[i].1) l;have Q:qk=kvs[i].1:=qh;rw[<- Q];exact oG G
 done:=by
  intro X p r t A i f s C H E I m st u;subst p r t;obtain⟨hq,hi⟩:=u;obtain⟨e,z,hd,vs,rel,ob,es,p_,Y,h2,h3,h4⟩:=(show br X.prog X.w H s.heap a 'h'from I.hok a _ hq)
  obtain⟨es',fu⟩:=y;rw[e]at Y;cases Y;rw[fu]at h3;injection h3 with iu iw
  subst iu iw;have n:=rel.len;obtain⟨f0,f1,f2,f3,f4,f5⟩:=m it (by simp);exact wpAny_pyNext_dict_end (knd:=cz X.prog X.w) (kvs:=vs) (ep:=ep) (I.ok.hd A) (by rw[<- n];exact st) ⟨o,es',e,h2,fu,h4⟩ (by simp;lia) λj R=>⟨rfl,I.turned (t':=s.toks) (λb o g e=>R b o g e) f0 f1 f3 f4 f5⟩
 self:=λ_ _ _ _ _ st h=>wpAny_pyIter_keyiter st h
theorem jV{o:HO}(h:H a=some o):upd H a o=H:=by
 funext b;unfold upd;by_cases e:b=a
 ·rw[if_pos e,e,h]
 ·rw[if_neg e]
theorem Inv.freeze{kvs:ca}(I:Inv X B Z H s)(h:Rd H a (.dK kvs)):∃o es ep,o.data=.dict es ep/\Inv X B Z (upd H a 'h') s/\s.heap.get? a=some o:=by
 rcases h with h|⟨o,h⟩
 ·have c:=(show br X.prog X.w H s.heap a (.dK kvs)from I.hok a _ h)
  obtain⟨z,hd,vs,rel,o,es,ep,Y,h2,h3,h4⟩:=c;have d:=I.write (x:=a) (e:=a) (M:=s.heap) (t':=s.toks) (o:=.af o (.dK kvs)) (by rw[h];exact True.intro) (.inl rfl) (λb u _ q=>q) ⟨o,Y⟩ ⟨Y,z,hd,vs,rel,o,es,ep,Y,h2,h3,h4⟩;exact⟨o,es,ep,h3,d,Y⟩
 ·obtain⟨e,z,hd,vs,rel,ob,es,ep,Y,h2,h3,h4⟩:=(show br X.prog X.w H s.heap a 'h'from I.hok a _ h)
  rw[e]at Y;cases Y;exact⟨o,es,ep,h3,by rw[jV h];exact I,e⟩
def ZT(b:TE):TI:=λZ H R=>b Z H λx H1=>∃a kvs,x=.ref a/\Rd H1 a (.dK kvs)/\∀o,R (Lp a o kvs) (upd H1 a 'h')
theorem xQ(f:SE X e te):SI X tg e (ZT te):=by
 constructor;intro c s g H R I h;refine ay (f.h c s g H _ I h) ?_;rintro v d ⟨x,p,i,j,a,kvs,k,l,q⟩;subst k;cases j;obtain⟨o,es,ep,hd,I2,ho⟩:=i.freeze l;obtain⟨e,z,yd,vs,rel,ob,es',p_,Y,h2,h3,h4⟩:=(show br X.prog X.w _ d.heap a 'h'from I2.hok a _ aA)
 rw[e]at Y;cases Y;rw[hd]at h3;injection h3 with iu iw
 subst iu iw;refine wpAny_pyIter_dict (knd:=cz X.prog X.w) (kvs:=vs) (ep:=ep) yd ⟨o,es,e,h2,hd,h4⟩ ?_;have m:=rel.len;refine⟨d.heap.objs.size,[d.heap.objs.size],_,_,_,rfl,I2.kept (t':=d.toks) λb o e=>Qc _ e,yZ (kvs:=kvs) (a:=a) (o:=o) ⟨es,hd⟩,by rw[m];exact⟨_,Qd _ rfl,rfl,rfl⟩,λb n=>?_,q o⟩;have e:b=d.heap.objs.size:=by simpa using n
 subst e;exact I2.wj (Qz _) (I2.hok.fresh (Qz _))
def QG(n:Bool):R2:=λy x H Q=>∃a o,x=.ref a/\dz H a y o/\Q (.bl (n^^o.isSome)) H
theorem ZU(c:X.A.units+1<cLine):di X (compareOp .In) (QG false):=by
 intro b s i H x y v u Q I d e h;obtain⟨a,o,rfl,g,q⟩:=h;cases e;exact X8 c I g d λj f=>⟨.bl o.isSome,H,f,rfl,by simpa using q⟩
theorem kI(c:X.A.units+1<cLine):di X (compareOp .NotIn) (QG true):=by
 intro b s i H x y v u Q I d e h;obtain⟨a,o,rfl,g,q⟩:=h;cases e;exact X_ c I g d λj f=>⟨.bl (!o.isSome),H,f,rfl,by simpa using q⟩
theorem dz.rd{kvs:ca}{k:Key}(e:Rd H a (.dK kvs)):dz H a (kV k) (a_ kvs k):=.inl ⟨kvs,k,e,rfl,rfl⟩
inductive Dt where
 |str (z:Str)
 |tup (ds:List Dt)
 |ic
inductive DD (H:Hp):V->Dt->Prop
 |str {z:Str} (h:z.length<=100000):DD H (.str z) (.str z)
 |tup {a:Addr} {xs:bY} {ds:List Dt}:H a=some (.tup xs)->xs.length=ds.length->xs.length<=1000->(∀i(h:i<xs.length)(M:i<ds.length),DD H xs[i] ds[i])->DD H (.ref a) (.tup ds)
 |ao:DD H .ao .ic
 |bl (b:Bool):DD H (.bl b) .ic
 |int (i:Int):DD H (.int i) .ic
 |lst {a:Addr} {xs:bY}:H a=some (.lst xs)->DD H (.ref a) .ic
 |dct {a:Addr} {kvs:ca}:H a=some (.dK kvs)->DD H (.ref a) .ic
theorem DD.same(s:ae H U){v:V}{d:Dt}(h:DD H v d):DD U v d:=by
 induction h with
 |str h=>exact .str h
 |tup e hl hn _ ih=>exact .tup (s _ _ e) hl hn ih
 |ao=>exact .ao
 |bl b=>exact .bl b
 |int i=>exact .int i
 |lst e=>exact .lst (s _ _ e)
 |dct e=>exact .dct (s _ _ e)
def EF:Dt->Bool| .str z=>ce z|_=>false
def pairD:Dt->Bool| .tup [a,b]=>EF a&&EF b|_=>false
def QO:Dt->Str| .tup (.str z::_)=>z|_=>""
def vj(a b:Str):Bool:=decide (a.cps.toList<b.cps.toList)
def rising:aU->Bool
 |a::b::r=>vj a b&&rising (b::r)
 |_=>true
def Ls:Dt->Bool| .tup ps=>ps.all pairD&&rising (ps.map QO)|_=>false
def EG(s:Str):Bool:=s=="box"||s=="pick"
def Gk(s:Str):Option Nat:=if s=="all" then some 0 else if s=="none" then some 0 else if s=="way" then some 2 else if s=="as" then some 1 else none
def headD:Dt->Bool
 | .tup (.str s::rest)=>if EG s then(match rest with| [p]=>Ls p|_=>false)else match Gk s with|some n=>decide (rest.length=n)&&rest.all EF|none=>false
 |_=>false
theorem bq.imp{P:Program}{w:World}{K:Q0}{a:Str->cv}{base:Heap}{k:Nat}{x:Str}{b:aU}{c d:Sp}(F:bq P w K a base k x b c)(h:∀vs H Q E,d vs H Q E->c vs H Q E):bq P w K a base k x b d:=by
 obtain⟨f,fd,G,r⟩:=F;exact⟨f,fd,G.imp h,r⟩
theorem jS(b:ca):(b.map (·.1)).Nodup->dictOf b=b:=by
 have gen:∀(b a:ca),(b.map (·.1)).Nodup->(∀r∈b,a_ a r.1=none)->b.foldl (λa r=>ci a r.1 r.2) a=a++b:=by
  intro b
  induction b with
  |nil=>intro a _ _;simp
  |cons r b ih=>
   intro a c d;rw[yV,uY]at c;rw[List.foldl_cons,cA _ (d r yS),ih _ c.2 λx f=>?_]
   ·simp
   ·rw[kM _ _ _ _ (d r yS),if_neg (λe=>c.1 (Z2.mpr ⟨x,f,e⟩))];exact d x (Qh _ f)
 intro c;have:=gen b [] c (λ_ _=>rfl);simpa[dictOf]using this
theorem zV{v:V}{d:Dt}(h:DD H v d)(a:EF d=true):∃z,v=.str z/\d=.str z/\ce z=true:=by
 cases h with
 |str _=>exact⟨_,rfl,rfl,a⟩
 |tup _ _ _ _=>exact Bool.noConfusion a
 |ao=>exact Bool.noConfusion a
 |bl _=>exact Bool.noConfusion a
 |int _=>exact Bool.noConfusion a
 |lst _=>exact Bool.noConfusion a
 |dct _=>exact Bool.noConfusion a
def ZV:Dt->Dt| .tup (_::h::_)=>h|_=>.ic
def Gm:Dt->Option Str| .tup [.str s,.str x]=>if s=="as" then some x else none|_=>none
def Df(ds:List Dt):List (Str×Dt):=ds.map λd=>(QO d,ZV d)
def Lu(a:List (Str×Dt))(n:Str):Option Str:=(a.find? λr=>decide (r.1=n)).bind λr=>Gm r.2
theorem Rd.same{u:HO}(r:Rd H a u)(s:ae H U):Rd U a u:=by
 rcases r with r|⟨o,r⟩
 ·exact .inl (s _ _ r)
 ·exact .inr ⟨o,s _ _ r⟩
theorem ZW(z:Str)(ds:List Dt):headD (.tup (.str z::ds))=if EG z then(match ds with| [p]=>Ls p|_=>false)else match Gk z with|some n=>decide (ds.length=n)&&ds.all EF|none=>false:=rfl
theorem ZX{v:V}{d:Dt}(h:DD H v d)(b:headD d=true):∃a z xs ds,v=.ref a/\d=.tup (.str z::ds)/\H a=some (.tup (.str z::xs))/\xs.length=ds.length/\xs.length<1000/\(∀i(h:i<xs.length)(M:i<ds.length),DD H xs[i] ds[i])/\
  ((EG z=true/\∃p,ds=[p]/\Ls p=true)\/(EG z=false/\∃n,Gk z=some n/\ds.length=n/\ds.all EF=true)):=by
 cases h with
 | @tup a xs ds e hl hn hds=>
  match ds,hl,b,hds with
  | .str z::ds,hl,b,hds=>
   match xs,hl,e,hn,hds with
   |x0::xs,hl,e,hn,hds=>
    have c:=hds 0 (by simp) (by simp);simp only[uJ]at c;cases c;refine⟨a,z,xs,ds,rfl,rfl,e,by simpa using hl,by simp at hn;lia,λi h M=>hds (i+1) (by simpa using h) (by simpa using M),?_⟩;rw[ZW]at b;cases hw:EG z with
    |true=>
     rw[hw]at b;simp only[if_true]at b
     match ds,b with
     | [p],b=>exact .inl ⟨rfl,p,rfl,b⟩
    |false=>
     rw[hw]at b;simp only[fi,if_false]at b;cases hb:Gk z with
     |none=>rw[hb]at b;exact Bool.noConfusion b
     |some n=>
      rw[hb]at b;simp only[im,decide_eq_true_eq]at b;exact .inr ⟨rfl,n,rfl,b.1,b.2⟩
  | .tup _::_,_,b,_=>exact Bool.noConfusion b
  | .ic::_,_,b,_=>exact Bool.noConfusion b
  | [],_,b,_=>exact Bool.noConfusion b
 |str _=>exact Bool.noConfusion b
 |ao=>exact Bool.noConfusion b
 |bl _=>exact Bool.noConfusion b
 |int _=>exact Bool.noConfusion b
 |lst _=>exact Bool.noConfusion b
 |dct _=>exact Bool.noConfusion b
theorem zY:EG "as"=false:=by decide
theorem ZY{v:V}{d:Dt}(h:DD H v d)(i:headD d=true):Dd H v (Gm d):=by
 obtain⟨a,z,xs,ds,rfl,rfl,e,hl,hn,hds,hc⟩:=ZX h i;refine⟨a,rfl,?_⟩;by_cases hz:z="as"
 ·subst hz;rcases hc with⟨f,_⟩|⟨_,n,g,j,b⟩
  ·rw[zY]at f;cases f
  ·have c:n=1:=by
    have:Gk "as"=some 1:=by decide
    rw[this]at g;cases g;rfl
   subst c
   match ds,j,hl,b,hds with
   | [d1],_,hl,b,hds=>
    match xs,hl,e,hds with
    | [x1],_,e,hds=>
     simp only[List.all_cons,List.all_nil,Bool.and_true]at b;obtain⟨y,q1,q2,_⟩:=zV (hds 0 (by simp) (by simp)) b;simp only[uJ]at q1;subst q1 q2;exact .inr ⟨y,e,by simp[Gm]⟩
 ·refine .inl ⟨z,xs,e,hz,?_⟩;have k:(z==Str.ofString "as")=false:=by simpa using hz
  unfold Gm;split
  ·next s x Lw=>
   injection Lw with Lw;injection Lw with Y _;injection Y with Y;rw[<- Y,if_neg (by rw[k];exact vU)]
  ·rfl
structure EH(H:Hp)(xs:bY)(ds:List Dt)(rs:cw)(hs:List Dt):Prop where
 l1:rs.length=ds.length
 l2:hs.length=ds.length
 ps:ky H xs (cf rs)
 dd:∀i(h:i<ds.length)(Y:i<rs.length)(h2:i<hs.length),ds[i]=.tup [.str rs[i].1,hs[i]]/\DD H rs[i].2 hs[i]/\headD hs[i]=true/\ce rs[i].1=true
section
variable{xs:bY}{ds:List Dt}{rs:cw}{hs:List Dt}
theorem EH.rows(R:EH H xs ds rs hs)(h:i<ds.length)(a:i<rs.length)(b:i<hs.length):(Df ds)[i]? =some (rs[i].1,hs[i]):=by
 unfold Df;rw[Qq,Qa h,(R.dd i h a b).1];rfl
theorem mH(n:Str)(h:n∉rs.map (·.1)):a_ (cf rs) (.inr n)=none:=by
 unfold a_;rw[Qa4.mpr]
 ·rfl
 ·intro p a e;obtain⟨r,hr,rfl⟩:=Z2.mp a;exact h (Z2.mpr ⟨r,hr,eh (Qt e)⟩)
theorem oX(a:(rs.map (·.1)).Nodup)(h:i<rs.length):a_ (cf rs) (.inr rs[i].1)=some rs[i].2:=by
 have:=lX (cf rs) (nK a) i (by simpa using h);rw[jS _ (nK a)]at this;simpa using this
theorem EH.nx(R:EH H xs ds rs hs)(b:(rs.map (·.1)).Nodup)(a:i<rs.length)(c:i<hs.length):Lu (Df ds) rs[i].1=Gm hs[i]:=by
 have h:i<ds.length:=by have:=R.l1;lia
 unfold Lu;have:(Df ds).find? (λr=>decide (r.1=rs[i].1))=some (rs[i].1,hs[i]):=by
  rw[qf];have g:(Df ds).length=ds.length:=by unfold Df;simp
  refine⟨by simp,i,by lia,?_,λj d=>?_⟩
  ·have:=R.rows h a c;rw[Qa (by lia)]at this;exact QE this
  ·have e:j<rs.length:=by lia
   have:=R.rows (i:=j) (by lia) e (by lia);rw[Qa (by lia)]at this;rw[QE this];have f:(rs.map (·.1))[j]'(by simp;lia)≠(rs.map (·.1))[i]'(by simpa using a):=λz=>(uW.mp b j i (by simp;lia) (by simpa using a) d) z;simpa using f
 rw[this];rfl
theorem EH.has(R:EH H xs ds rs hs)(a:(rs.map (·.1)).Nodup)(n:Str)(v:V)(hv:a_ (cf rs) (.inr n)=some v):Dd H v (Lu (Df ds) n):=by
 by_cases h:n∈rs.map (·.1)
 ·obtain⟨r,hr,rfl⟩:=Z2.mp h;obtain⟨i,hi,rfl⟩:=Qi hr;rw[oX a hi]at hv;cases hv;have b:i<hs.length:=by have:=R.l1;have:=R.l2;lia
  rw[R.nx a hi b];obtain⟨_,q1,q2,_⟩:=R.dd i (by have:=R.l1;lia) hi b;exact ZY q1 q2
 ·rw[mH n h]at hv;cases hv
end
inductive TX (H:Hp):V->Dt->Prop
 |str {z:Str} (h:z.length<=100000):TX H (.str z) (.str z)
 |tup {a:Addr} {xs:bY} {ds:List Dt}:H a=some (.tup xs)->xs.length=ds.length->xs.length<=1000->(∀i(h:i<xs.length)(M:i<ds.length),TX H xs[i] ds[i])->TX H (.ref a) (.tup ds)
theorem TX.dd{v:V}{d:Dt}(h:TX H v d):DD H v d:=by
 induction h with
 |str h=>exact .str h
 |tup e hl hn _ ih=>exact .tup e hl hn ih
theorem ZZ{x:V}{d:Dt}(e:H a=some (.tup [x]))(h:TX H x d):TX H (.ref a) (.tup [d]):=.tup e rfl (by simp) λi b c=>by
 match i,b with
 |0,_=>exact h
theorem rS{x y:V}{d d':Dt}(e:H a=some (.tup [x,y]))(h:TX H x d)(M:TX H y d'):TX H (.ref a) (.tup [d,d']):=.tup e rfl (by simp) λi b c=>by
 match i,b with
 |0,_=>exact h
 |1,_=>exact M
theorem Z0{x y z:V}{d d' b:Dt}(e:H a=some (.tup [x,y,z]))(h:TX H x d)(M:TX H y d')(c:TX H z b):TX H (.ref a) (.tup [d,d',b]):=.tup e rfl (by simp) λi f g=>by
 match i,f with
 |0,_=>exact h
 |1,_=>exact M
 |2,_=>exact c
theorem gQ(h:ce z=true):z.length<=8:=by
 unfold ce at h;simp only[im,decide_eq_true_eq]at h;exact h.1.1.2
theorem jT(h:ce z=true):TX H (.str z) (.str z):=.str (by have:=gQ h;lia)
theorem rJ(h:z.length<=100):TX H (.str z) (.str z):=.str (by lia)
section
variable{P:Option Str->Prop}
structure QX(H:Hp)(ns:aU)(xs:bY)(ps:List (Str×Str)):Prop where
 len:xs.length=ps.length
 at_:∀i(h:i<xs.length)(M:i<ps.length),∃c,xs[i]=.ref c/\H c=some (.tup [.str ps[i].1,.str ps[i].2])
 nm:∀p∈ps,ce p.1=true/\ce p.2=true/\p.2∈ns
 Dg:rising (ps.map (·.1))=true
end
theorem sL{a b c:Str}(d:vj a b=true)(e:vj b c=true):vj a c=true:=by
 unfold vj at*;exact Qw (List.lt_trans (Qt d) (Qt e))
theorem gI:∀{ws:aU},ws.Pairwise (λa b=>vj a b=true)->rising ws=true
 | [],_=>rfl
 | [_],_=>rfl
 |a::b::r,h=>by
  rw[Qbj]at h;rw[rising,h.1 b yS,gI h.2];rfl
def Dh:V->Str
 | .str z=>z
 |_=>""
theorem Z1{xs:bY}{a:cw}(b:ky H xs (cf a))(e:∀r∈a,ce r.1=true)(c:∀r∈a,∃y,r.2=.str y/\y∈ns/\ce y=true)(f:rising (a.map (·.1))=true):QX H ns xs (a.map λq=>(q.1,Dh q.2)):=by
 have j:xs.length=a.length:=by have:=b.1;simpa using this
 refine⟨by simp;lia,λi g k=>?_,λq h=>?_,?_⟩
 ·have d:i<a.length:=by lia
  obtain⟨c',e1,e2⟩:=b.2 i (by simpa using d);rw[Qa g]at e1;refine⟨c',QE e1,?_⟩;obtain⟨y,ey,_⟩:=c _ (Qj d);simp only[Qr];rw[ey];have:H c'=some (.tup [.str a[i].1,a[i].2]):=by simpa[cf,kV]using e2
  rw[ey]at this;exact this
 ·obtain⟨q',lh,rfl⟩:=Z2.mp h;obtain⟨y,ey,my,ny⟩:=c q' lh;refine⟨e q' lh,?_,?_⟩
  ·show ce (Dh q'.2)=true;rw[ey];exact ny
  ·show Dh q'.2∈ns;rw[ey];exact my
 ·rw[Qn];exact f
inductive Hd where
 |one (s:Str)
 |as (y:Str)
 |way (x y:Str)
 |prs (s:Str) (ps:List (Str×Str))
def Hd.nx:Hd->Option Str
 | .as y=>some y
 |_=>none
def Hd.ok(a:aU):Hd->Prop
 | .one s=>s="all"\/s="none"
 | .as y=>ce y=true/\y∈a
 | .way x y=>ce x=true/\ce y=true/\x∈a/\y∈a
 | .prs s ps=>(s="box"\/s="pick")/\(∀p∈ps,ce p.1=true/\ce p.2=true/\p.2∈a)/\rising (ps.map (·.1))=true/\ps.length<=10
structure Gn(H:Hp)(xs:bY)(ps:List (Str×Str)):Prop where
 len:xs.length=ps.length
 at_:∀i(h:i<xs.length)(M:i<ps.length),∃c,xs[i]=.ref c/\H c=some (.tup [.str ps[i].1,.str ps[i].2])
theorem Gn.tk{xs:bY}{d:List (Str×Str)}(h:Gn H xs d)(s:Tk H U):Gn U xs d:=⟨h.len,λi a b=>let ⟨c,Y,h2⟩:=h.at_ i a b;⟨c,Y,s _ _ h2⟩⟩
inductive HV (H:Hp):V->Hd->Prop
 |one {b:Addr} {s:Str}:H b=some (.tup [.str s])->HV H (.ref b) (.one s)
 |as {b:Addr} {y:Str}:H b=some (.tup [.str "as",.str y])->HV H (.ref b) (.as y)
 |way {b:Addr} {x y:Str}:H b=some (.tup [.str "way",.str x,.str y])->HV H (.ref b) (.way x y)
 |prs {b c:Addr} {s:Str} {xs:bY} {ps:List (Str×Str)}:H b=some (.tup [.str s,.ref c])->H c=some (.tup xs)->Gn H xs ps->HV H (.ref b) (.prs s ps)
theorem HV.tk{H U:Hp}(s:Tk H U){v:V}{h:Hd}(q:HV H v h):HV U v h:=by
 cases q with
 |one e=>exact .one (s _ _ e)
 |as e=>exact .as (s _ _ e)
 |way e=>exact .way (s _ _ e)
 |prs e e' p=>exact .prs (s _ _ e) (s _ _ e') (p.tk s)
def Hd.dt:Hd->Dt
 | .one s=>.tup [.str s]
 | .as y=>.tup [.str "as",.str y]
 | .way x y=>.tup [.str "way",.str x,.str y]
 | .prs s ps=>.tup [.str s,.tup (ps.map λp=>.tup [.str p.1,.str p.2])]
theorem HV.tx{v:V}{h:Hd}(q:HV H v h)(ok:h.ok ns):TX H v h.dt:=by
 cases q with
 |one e=>exact ZZ e (rJ (by rcases ok with rfl|rfl<;>decide))
 |as e=>exact rS e (rJ (by decide)) (jT ok.1)
 |way e=>exact Z0 e (rJ (by decide)) (jT ok.1) (jT ok.2.1)
 | @prs b c s xs ps e e' p=>
  have g:=ok.2.2.2;have j:=p.len;refine rS e (rJ (by rcases ok.1 with rfl|rfl<;>decide)) (.tup e' (by simp[p.len]) (by lia) λi d f=>?_);have a:i<ps.length:=by simpa using f
  obtain⟨c',q1,q2⟩:=p.at_ i d a
  obtain⟨m1,m2,_⟩:=ok.2.1 _ (Qj a);rw[q1];simp only[Qr];exact rS q2 (jT m1) (jT m2)
abbrev aj:=Str×Hd
end L2
variable{tA:L2.TT}{D:L2.Ends}{g:L2.TG}{wi:L2.TI}{r:L2.R2}{sp:L2.Sp}{tc:L2.TC}{d:L2.Dt}{rs r1 r2:List L2.aj}
namespace L2
open PySem PySem.Spec PyProof.Rows
structure RV(H:Hp)(xs:bY)(F:List aj):Prop where
 len:xs.length=F.length
 at_:∀i(h:i<xs.length)(M:i<F.length),∃b v,xs[i]=.ref b/\H b=some (.tup [.str F[i].1,v])/\HV H v F[i].2
theorem RV.tk{H U:Hp}{xs:bY}{F:List aj}(h:RV H xs F)(s:Tk H U):RV U xs F:=⟨h.len,λi a b=>let ⟨c,v,Y,h2,h3⟩:=h.at_ i a b;⟨c,v,Y,s _ _ h2,h3.tk s⟩⟩
theorem RV.nil:RV H [] []:=⟨rfl,λi h=>absurd h (by simp)⟩
theorem RV.snoc{xs:bY}{F:List aj}(h:RV H xs F){v:V}{r:aj}(e:H b=some (.tup [.str r.1,v]))(hv:HV H v r.2):RV H (xs++[.ref b]) (F++[r]):=by
 have a:=h.len;refine⟨by simp[a],λi c f=>?_⟩;by_cases av:i<xs.length
 ·rw[Qe av,Qe (by lia)];exact h.at_ i av (by lia)
 ·have d:i=xs.length:=by simp at c;lia
  subst d;rw[Qf (Qz _),Qf (by lia)];simp only[du,uJ,a];exact⟨b,v,rfl,e,hv⟩
def Z3(r:aj):Dt:=.tup [.str r.1,r.2.dt]
def QY(a:aU)(F:List aj):Prop:=∀r∈F,ce r.1=true/\r.2.ok a
def Hd.pre:Hd->aU
 | .one s=>[s]
 | .as _=>[]
 | .way _ _=>["way"]
 | .prs s _=>[s]
inductive DA (P:Addr->Prop) (H:Hp):Bool->V->PyData->Dt->Prop
 |str {m:Bool} {z:Str} (h:z.length<=100000):DA P H m (.str z) (.str z) (.str z)
 |ao {m:Bool}:DA P H m .ao .none .ic
 |bl {m:Bool} (b:Bool):DA P H m (.bl b) (.bool b) .ic
 |int {m:Bool} (i:Int):DA P H m (.int i) (.int i) .ic
 |tup {m:Bool} {a:Addr} {xs:bY} {ps:List PyData} {ds:List Dt}:P a->H a=some (.tup xs)->xs.length=ps.length->xs.length=ds.length->xs.length<=1000->(∀i(h:i<xs.length)(M:i<ps.length)(Dc:i<ds.length),DA P H m xs[i] ps[i] ds[i])->DA P H m (.ref a) (.tuple ps) (.tup ds)
 |lst {a:Addr} {xs:bY} {ps:List PyData} {ds:List Dt}:P a->H a=some (.lst xs)->xs.length=ps.length->xs.length=ds.length->(∀i(h:i<xs.length)(M:i<ps.length)(Dc:i<ds.length),DA P H true xs[i] ps[i] ds[i])->DA P H true (.ref a) (.list ps) .ic
 |Z4 {a:Addr}:P a->H a=some (.dK [])->DA P H false (.ref a) (.dict []) .ic
 |Z5 {a:Addr} {z:Str} {x:V} {p:PyData} {d:Dt}:P a->H a=some (.dK [(.inr z,x)])->DA P H false x p d->DA P H false (.ref a) (.dict [(.str z,p)]) .ic
theorem DA.dd{P:Addr->Prop}{m:Bool}{v:V}{p:PyData}(h:DA P H m v p d):DD H v d:=by
 induction h with
 |str h=>exact .str h
 |ao=>exact .ao
 |bl b=>exact .bl b
 |int i=>exact .int i
 |tup _ e Y h2 h3 _ ih=>exact .tup e h2 h3 λi a b=>ih i a (by lia) b
 |lst _ e Y h2 _ ih=>exact .lst e
 |Z4 _ e=>exact .dct e
 |Z5 _ e _ ih=>exact .dct e
theorem jZ(y:Str)(b:aU):Be (.str y) (b.map V.str)=decide (y∈b):=by
 rw[jc,decide_eq_true_iff];unfold Be;rw[List.any_map,QaO];constructor
 ·rintro⟨a,ha,e⟩;have c:(a==y)=true:=e;rw[<- eq_of_beq c];exact ha
 ·intro h;exact⟨y,h,(beq_self_eq_true y:(y==y)=true)⟩
abbrev Bq(h:Heap)(z TI TO c:Addr)(f:Bool):Prop:=h.get? z=some {cls:=.type "zip",dict:=none,data:=.fields #[rawInt c,.bool f,.bool false,.ref TI,.ref TO],slots:=#[]}
theorem xR{z TI TO c:Addr}{f:Bool}{d:Obj}{Q:Bool->Shared->Prop}(a:Bq s.heap z TI TO c f)(e:s.heap.get? c=some d)(b:∀M,Bq M z TI TO c true->Heap.SameBut z s.heap M->Q false {s with heap:=M}):
  wpAny (model P w) A (Builtin.SmallTypes.ownedTupleIsFree (.ref z)) Q E s:=by
 unfold Builtin.SmallTypes.ownedTupleIsFree;refine QT (wpAny_field a rfl (x:=rawInt c) rfl ?_);show wpAny _ _ (loadIfAlive (Int.toNat (c:Int)) >>=_) _ _ _;rw[mx];refine QT (PySem.W.kdx_alive e ?_);simp only[Option.isNone_some,fi,if_false];refine QT (wpAny_field a rfl (x:=.bool f) rfl ?_);cases f with
 |true=>
  rw[if_neg (show ¬((Value.bool true !=Value.bool true)=true)by decide)];exact QU (b _ a (Heap.SameBut.refl _ _))
 |false=>
  rw[if_pos (show(Value.bool false !=Value.bool true)=true by decide)];refine QT (wpAny_setField_rec a (by simp) λi g h=>QU (b _ g h))
theorem Z6{z TI TO a b g h c:Addr}{f:Bool}{G:Obj}{xs:Array Value}{x y:Value}(D:ZipApart z TI TO a b g h)(l:Bq s.heap z TI TO c f)(H:s.heap.get? c=some G)(I:IsPair s.heap TI (.ref a) (.ref b))
  (K:s.heap.IsListIter a g n) (g2:s.heap.IsListIter b h n) (L:s.heap.IsList g xs) (N:s.heap.IsList h J) (R:xs[n]? =some x) (T:J[n]? =some y)
  (V:∀M,Bq M z TI TO c true->M.IsListIter a g (n+1)->M.IsListIter b h (n+1)->IsPair M s.heap.objs.size x y->(∀e o,e≠z->e≠a->e≠b->s.heap.get? e=some o->M.get? e=some o)->Q (.ref s.heap.objs.size) {s with heap:=M}):
  wpAny (model P w) A (Builtin.«zip.__next__» ⟨[.ref z],[]⟩) (λfin s'=>∃v,fin=.done (.ret v)/\Q v s') E s:=by
 show wpAny _ _ (field (.ref z) 2 >>=_) _ _ s;refine QT (wpAny_field l rfl (x:=.bool false) rfl ?_);show wpAny _ _ (field (.ref z) 3 >>=_) _ _ s;refine QT (wpAny_field l rfl (x:=.ref TI) rfl ?_);refine QT (wpAny_seqItems I rfl ?_);show wpAny _ _ (Builtin.SmallTypes.ownedTupleIsFree (.ref z) >>=_) _ _ s;refine QT (xR l H λj z1 i=>?_);simp only[fi,if_false];refine QT ?_;rw[<- Array.forIn_toList];simp only[oo,List.forIn_nil];have u1:j.IsListIter a g n:=K.extBut i.extBut D.i1z;have v1:j.IsList g xs:=L.extBut i.extBut D.l1z;refine QT (QT (wpAny_holding ?_));show wpAny _ _ (Builtin.SmallTypes.nextOf (.ref a) >>=_) _ _ {s with heap:=j};refine QT (wpAny_nextOf_list_item u1 v1 R λm a2 k=>QU (QU ?_));have u2:m.IsListIter b h n:=(g2.extBut i.extBut D.i2z).extBut k.extBut D.i12.symm;have v2:m.IsList h J:=(N.extBut i.extBut D.l2z).extBut k.extBut D.l2i1;refine QT (QT (wpAny_holding ?_));show wpAny _ _ (Builtin.SmallTypes.nextOf (.ref b) >>=_) _ _ {s with heap:=m};refine QT (wpAny_nextOf_list_item u2 v2 T λd a3 p=>QU (QU (QU ?_)));refine QT ?_;show wpAny _ _ (newTuple [x,y]) _ _ {s with heap:=d};refine wpAny_newTuple (QU ⟨_,rfl,?_⟩) (show 2<=sizeLine by decide);have Z7:d.objs.size=s.heap.objs.size:=by rw[p.1,k.1,i.1]
 have u:∀e o,e≠a->e≠b->j.get? e=some o->d.get? e=some o:=λe o r t q=>p.extBut _ _ t (k.extBut _ _ r q);show Q (.ref d.objs.size) {s with heap:=d.push {cls:=.type "tuple",data:=.seq #[x,y]}};have C:IsPair (d.push {cls:=.type "tuple",data:=.seq #[x,y]}) d.objs.size x y:=Qd _ rfl;rw[Z7]at C⊢;exact V _ (Qc _ (u _ _ D.i1z.symm D.i2z.symm z1)) ((a2.extBut p.extBut D.i12).at λo q=>Qc _ q) (a3.at λo q=>Qc _ q) C λe o q0 r t q=>Qc _ (u e o r t (i.extBut _ _ q0 q))
theorem Z8{z TI TO a i b j c:Addr}{f:Bool}{k:Obj}{xs:Array Value}{Q:Fin->Shared->Prop}(l:A.handled=none)(D:ZipApart z TI TO a i b j)(g:Bq s.heap z TI TO c f)(m:s.heap.get? c=some k)(p:IsPair s.heap TI (.ref a) (.ref i))
  (r:s.heap.IsListIter a b n) (t:s.heap.IsList b xs) (u:xs[n]? =none)
  (y:∀M e,(∀d o,d≠z->d≠a->s.heap.get? d=some o->M.get? d=some o)->(∃o,M.get? e=some o/\o.cls=.type "StopIteration")->E (.ref e) {s with heap:=M}):
  wpAny (model P w) A (Builtin.«zip.__next__» ⟨[.ref z],[]⟩) Q E s:=by
 show wpAny _ _ (field (.ref z) 2 >>=_) _ _ s;refine QT (wpAny_field g rfl (x:=.bool false) rfl ?_);show wpAny _ _ (field (.ref z) 3 >>=_) _ _ s;refine QT (wpAny_field g rfl (x:=.ref TI) rfl ?_);refine QT (wpAny_seqItems p rfl ?_);show wpAny _ _ (Builtin.SmallTypes.ownedTupleIsFree (.ref z) >>=_) _ _ s;refine QT (xR g m λC N h=>?_);simp only[fi,if_false];refine QT ?_;rw[<- Array.forIn_toList];simp only[oo,List.forIn_nil];refine QT (QT (wpAny_holding ?_));show wpAny _ _ (Builtin.SmallTypes.nextOf (.ref a) >>=_) _ _ {s with heap:=C};exact QT (wpAny_nextOf_list_end l (r.extBut h.extBut D.i1z) (t.extBut h.extBut D.l1z) u λG e H I=>y G e (λd o K L q=>H _ _ L (h.extBut _ _ K q)) I)
theorem vI{z TI TO a b d g c:Addr}{f:Bool}{j:Obj}{xs:Array Value}{x y:Value}{Q:cv->Shared->Prop}(D:ZipApart z TI TO a b d g)(h:Bq s.heap z TI TO c f)(k:s.heap.get? c=some j)(l:IsPair s.heap TI (.ref a) (.ref b))
  (m:s.heap.IsListIter a d n) (g2:s.heap.IsListIter b g n) (p:s.heap.IsList d xs) (q:s.heap.IsList g J) (r:xs[n]? =some x) (t:J[n]? =some y)
  (u:∀M,Bq M z TI TO c true->M.IsListIter a d (n+1)->M.IsListIter b g (n+1)->IsPair M s.heap.objs.size x y->(∀e o,e≠z->e≠a->e≠b->s.heap.get? e=some o->M.get? e=some o)->Q (some (.ref s.heap.objs.size)) {s with heap:=M}):
  wpAny (model P w) A (pyNext (.ref z)) Q E s:=by
 have i:s.TypeIs (.ref z) "zip":=⟨_,h,rfl⟩
 unfold pyNext;exact QT (wpAny_attempt (wpAny_callSpecial?_slot (name:=Str.ofString "__next__") i F.slot_zip_next (wpAny_call_entry F.slot_zip_next i F.entry_zip_next (Z6 D h k l m g2 p q r t λM C G H I K=>QU (u M C G H I K)) (F.args_zip_next_1 _))))
theorem yW{z TI TO a h g k c:Addr}{f:Bool}{l:Obj}{xs:Array Value}{Q:cv->Shared->Prop}(m:A.handled=none)(D:ZipApart z TI TO a h g k)(i:Bq s.heap z TI TO c f)(p:s.heap.get? c=some l)(q:IsPair s.heap TI (.ref a) (.ref h))
  (r:s.heap.IsListIter a g n) (t:s.heap.IsList g xs) (u:xs[n]? =none)
  (x:∀M,(∀d o,d≠z->d≠a->s.heap.get? d=some o->M.get? d=some o)->Q none {s with heap:=M}):
  wpAny (model P w) A (pyNext (.ref z)) Q E s:=by
 have j:s.TypeIs (.ref z) "zip":=⟨_,i,rfl⟩
 unfold pyNext;refine QT (wpAny_attempt (wpAny_callSpecial?_slot (name:=Str.ofString "__next__") j F.slot_zip_next (wpAny_call_entry F.slot_zip_next j F.entry_zip_next (Z8 m D i p q r t u λM e y ⟨o,C,G⟩=>?_) (F.args_zip_next_1 _))));exact QT (wpAny_isInstance (T:="StopIteration") (b:=true) ⟨o,C,G⟩ isSubtype_stop (QU (x _ y)))
def EI(h:Heap)(d z TI TO a b l m:Addr)(i:Nat):Prop:=
 ((i=0/\IsZip h z TI TO .none/\∃u v,IsPair h TO u v)\/∃c f e,Bq h z TI TO c f/\h.get? c=some e/\c≠d/\c∉[z,TO,a,b])/\IsPair h TI (.ref a) (.ref b)/\h.IsListIter a l i/\h.IsListIter b m i
theorem EI.keep{d z TI TO g j m:Addr}(q:EI h d z TI TO g j l m i)(n:d∉[z,TI,TO,g,j])(k:∀b o,b≠d->h.get? b=some o->M.get? b=some o):EI M d z TI TO g j l m i:=by
 obtain⟨q1,q2,q3,q4⟩:=q;simp only[Qp,QB,or_false,not_or]at n;obtain⟨n1,n2,n3,n4,n5⟩:=n;refine⟨?_,k _ _ (Ne.symm n2) q2,q3.at λo e=>k _ _ (Ne.symm n4) e,q4.at λo e=>k _ _ (Ne.symm n5) e⟩;rcases q1 with⟨e,a,u,v,b⟩|⟨c,f,r,a,b,p,s⟩
 ·exact .inl ⟨e,k _ _ (Ne.symm n1) a,u,v,k _ _ (Ne.symm n3) b⟩
 ·exact .inr ⟨c,f,r,k _ _ (Ne.symm n1) a,k _ _ p b,p,s⟩
theorem uO{d z TI TO i j k l:Addr}{xs:Array Value}{x y:Value}{Q:cv->Shared->Prop}(D:ZipApart z TI TO i j k l)(q:EI s.heap d z TI TO i j k l n)(V:d<s.heap.objs.size)
  (G:s.heap.IsList k xs) (H:s.heap.IsList l J) (I:xs[n]? =some x) (K:J[n]? =some y)
  (L:∀M,EI M d z TI TO i j k l (n+1)->IsPair M s.heap.objs.size x y->(∀e o,e∉[z,TO,i,j]->s.heap.get? e=some o->M.get? e=some o)->Q (some (.ref s.heap.objs.size)) {s with heap:=M}):
  wpAny (model P w) A (pyNext (.ref z)) Q E s:=by
 obtain⟨q1,q2,q3,q4⟩:=q;have Z9:i<s.heap.objs.size:=by obtain⟨_,e,_⟩:=q3;exact QA e
 have Z_:j<s.heap.objs.size:=by obtain⟨_,e,_⟩:=q4;exact QA e
 rcases q1 with⟨rfl,a,u,v,b⟩|⟨c,f,oc,a,b,e1,N⟩
 ·have Z':=QA a;have p:=QA b;refine wpAny_pyNext_zip_item D a q2 b q3 q4 G H I K λM r R t C T a6 h=>L M ⟨.inr ⟨_,false,_,r,T,dq V,?_⟩,h _ _ D.TIz D.TITO D.TIi1 D.TIi2 q2,t,C⟩ T λe o g q=>?_
  ·simp only[Qp,QB,or_false,not_or];exact⟨dq Z',dq p,dq Z9,dq Z_⟩
  ·simp only[Qp,QB,or_false,not_or]at g;exact h _ _ g.1 g.2.1 g.2.2.1 g.2.2.2 q
 ·refine vI D a b q2 q3 q4 G H I K λM r R t C h=>?_;have m:=N;simp only[Qp,QB,or_false,not_or]at m;refine L M ⟨.inr ⟨c,true,oc,r,h _ _ m.1 m.2.2.1 m.2.2.2 b,e1,N⟩,h _ _ D.TIz D.TIi1 D.TIi2 q2,R,t⟩ C λe o g q=>?_;simp only[Qp,QB,or_false,not_or]at g;exact h _ _ g.1 g.2.2.1 g.2.2.2 q
inductive lj (H:Hp):Nat->V->V->Prop
 |str (n:Nat) (z:Str):lj H n (.str z) (.str z)
 |tup {n:Nat} {a b:Addr} {xs J:bY}:H a=some (.tup xs)->H b=some (.tup J)->xs.length=J.length->(∀i(h:i<xs.length)(M:i<J.length),lj H n xs[i] J[i])->lj H (n+1) (.ref a) (.ref b)
theorem lj.Lx(I:Inv X B Z H s){x y:V}(h:lj H n x y):∀(A:Around)(u v:Value),A.units+n<cLine->RelV x u->RelV y v->SeqAt.EqAt A s u v true:=by
 induction h with
 |str n z=>
  intro A u v k c d;obtain⟨t,rfl⟩:=c;obtain⟨t',rfl⟩:=d;have:=mD (A:=A) (s:=s) z t z t';rw[beq_self_eq_true]at this;exact this
 | @tup n a b xs J ea eb hl _ ih=>
  intro A u v k c d;cases c;cases d;by_cases mh:a=b
  ·subst mh;exact nq _
  ·obtain⟨i1,r1,p1,_⟩:=I.tuple (ak.of ea);obtain⟨i2,r2,p2,_⟩:=I.tuple (ak.of eb);have o:=r1.length;have p:=r2.length;have:=pj (A:=A) (e:=λ_=>true) p1 p2 (by lia) λj f g=>by
    have i:j<xs.length:=by simp at f;lia
    have g2:j<J.length:=by simp at g;lia
    obtain⟨w1,e1,q1⟩:=r1.get (Qa i);obtain⟨w2,e2,q2⟩:=r2.get (Qa g2);have l:i1.toArray[j]=w1:=by rw[Qa (by simpa using f)]at e1;simpa using e1
    have m:i2.toArray[j]=w2:=by rw[Qa (by simpa using g)]at e2;simpa using e2
    rw[l,m];exact ih j i g2 A.in1 w1 w2 (by rw[gZ];lia) q1 q2
   have e:((List.range (min i1.toArray.size i2.toArray.size)).all (λ_=>true)&&i1.toArray.size==i2.toArray.size)=true:=by
    simp;lia
   rw[e]at this;exact ox mh this
theorem lj.kids(h:lj H (n+1) (.ref a) (.ref b)):∃xs J,H a=some (.tup xs)/\H b=some (.tup J)/\xs.length=J.length/\∀i(h:i<xs.length)(M:i<J.length),lj H n xs[i] J[i]:=by
 cases h with
 |tup ea eb hl h=>exact⟨_,_,ea,eb,hl,h⟩
theorem lj.all(I:Inv X B Z H s){xs J:bY}{a b:cq}(l:xs.length=J.length)(f:∀i(h:i<xs.length)(M:i<J.length),lj H n xs[i] J[i])(r1:bg xs a)(r2:bg J b)(m:A.units+n+1<cLine):
  ∀j(c:j<a.toArray.size)(d:j<b.toArray.size),SeqAt.EqAt A.in1 s a.toArray[j] b.toArray[j] ((λ_=>true) j):=λj c d=>by
 have o:=r1.length;have p:=r2.length;have e:j<xs.length:=by simp at c;lia
 have g2:j<J.length:=by simp at d;lia
 obtain⟨w1,e1,q1⟩:=r1.get (Qa e);obtain⟨w2,e2,q2⟩:=r2.get (Qa g2);have g:a.toArray[j]=w1:=by rw[Qa (by simpa using c)]at e1;simpa using e1
 have k:b.toArray[j]=w2:=by rw[Qa (by simpa using d)]at e2;simpa using e2
 rw[g,k];exact(f j e g2).Lx I A.in1 w1 w2 (by rw[gZ];lia) q1 q2
def qr(c:Bool):R2:=λx y H Q=>∃n a b,n<=50/\x=.ref a/\y=.ref b/\lj H (n+1) x y/\Q (.bl c) H
theorem QZ(g:X.A.units+100<cLine):di X (compareOp .NotEq) (qr false):=by
 intro c s i H x y v u Q I d f h;obtain⟨n,a,b,hn,rfl,rfl,hd,q⟩:=h;cases d;cases f;obtain⟨xs,J,ea,eb,hl,hk⟩:=hd.kids;obtain⟨i1,r1,p1,_⟩:=I.tuple (ak.of ea);obtain⟨i2,r2,p2,_⟩:=I.tuple (ak.of eb);have j:=r1.length;have k:=r2.length;have e:(!((List.range (min i1.toArray.size i2.toArray.size)).all (λ_=>true)&&i1.toArray.size==i2.toArray.size))=false:=by
  simp;lia
 refine SeqAt.RcNeAt.tuples (A:=X.A) (e:=λ_=>true) p1 p2 (by lia) (lj.all I hl hk r1 r2 (by lia)) _ _ _ _ ?_;rw[e];exact⟨.bl false,H,I,rfl,q⟩
theorem wr{x c:V}(e:H a=some (.tup [x]))(d:H b=some (.tup [c]))(h:lj H n x c):lj H (n+1) (.ref a) (.ref b):=.tup e d rfl λi f g=>by
 match i,f with
 |0,_=>exact h
theorem IA{x c y d:V}(e:H a=some (.tup [x,y]))(f:H b=some (.tup [c,d]))(h:lj H n x c)(g:lj H n y d):lj H (n+1) (.ref a) (.ref b):=.tup e f rfl λi j _=>by
 match i,j with
 |0,_=>exact h
 |1,_=>exact g
theorem vk{x c y d z f:V}(e:H a=some (.tup [x,y,z]))(g:H b=some (.tup [c,d,f]))(h:lj H n x c)(j:lj H n y d)(k:lj H n z f):lj H (n+1) (.ref a) (.ref b):=.tup e g rfl λi l _=>by
 match i,l with
 |0,_=>exact h
 |1,_=>exact j
 |2,_=>exact k
theorem HV.IB{v g:V}{h:Hd}(q:HV H v h)(d:HV H g h):∃a b,v=.ref a/\g=.ref b/\lj H 3 v g:=by
 cases q with
 |one e=>cases d with|one e'=>exact⟨_,_,rfl,rfl,wr e e' (.str _ _)⟩
 |as e=>cases d with|as e'=>exact⟨_,_,rfl,rfl,IA e e' (.str _ _) (.str _ _)⟩
 |way e=>cases d with|way e'=>exact⟨_,_,rfl,rfl,vk e e' (.str _ _) (.str _ _) (.str _ _)⟩
 |prs e f p=>
  cases d with
  |prs e' f' p'=>
   refine⟨_,_,rfl,rfl,IA e e' (.str _ _) (.tup f f' (by rw[p.len,p'.len]) λi j k=>?_)⟩;have l:=p.len;obtain⟨c,q1,q2⟩:=p.at_ i j (by lia)
   obtain⟨c',Di,Gq⟩:=p'.at_ i k (by lia)
   rw[q1,Di];exact IA q2 Gq (.str _ _) (.str _ _)
theorem RV.IB{H:Hp}{a b:Addr}{xs J:bY}{F:List aj}(h:RV H xs F)(M:RV H J F)(e:H a=some (.tup xs))(f:H b=some (.tup J)):lj H 5 (.ref a) (.ref b):=by
 refine .tup e f (by rw[h.len,M.len]) λi g j=>?_;have k:=h.len;obtain⟨c,v,q1,q2,q3⟩:=h.at_ i g (by lia)
 obtain⟨c',v',Di,Gq,q3'⟩:=M.at_ i j (by lia)
 obtain⟨_,_,_,_,d⟩:=q3.IB q3';rw[q1,Di];exact IA q2 Gq (.str _ _) d
def Hd.Ag:Hd->aU
 | .prs _ ps=>ps.map (·.1)
 |_=>[]
structure vm(H:Hp)(ns ws:aU)(v:V)(P:Option Str->Prop):Prop where
 ex:∃h,HV H v h/\h.ok ns/\P h.nx/\∀z∈h.Ag,z∈ws
section
variable{v:V}{P:Option Str->Prop}
theorem vm.tk{U:Hp}(h:vm H ns ws v P)(s:Tk H U):vm U ns ws v P:=let ⟨d,Y,h2⟩:=h.ex;⟨d,Y.tk s,h2⟩
theorem vm.imp{a:Option Str->Prop}(h:vm H ns ws v P)(f:∀o,P o->a o):vm H ns ws v a:=let ⟨d,Y,h2,h3,h4⟩:=h.ex;⟨d,Y,h2,f _ h3,h4⟩
theorem DL{y:Str}(e:H b=some (.tup [.str "as",.str y]))(a:ce y=true)(c:y∈ns)(d:P (some y)):vm H ns ws (.ref b) P:=⟨.as y,.as e,⟨a,c⟩,d,(λ_ h=>nomatch h)⟩
theorem J1(e:H b=some (.tup [.str "none"]))(a:P none):vm H ns ws (.ref b) P:=⟨.one "none",.one e,.inr rfl,a,(λ_ h=>nomatch h)⟩
theorem re(e:H b=some (.tup [.str "all"]))(a:P none):vm H ns ws (.ref b) P:=⟨.one "all",.one e,.inl rfl,a,(λ_ h=>nomatch h)⟩
theorem DC{y:Str}(e:H b=some (.tup [.str "way",.str x,.str y]))(a:ce x=true)(c:ce y=true)(d:x∈ns)(f:y∈ns)(g:P none):vm H ns ws (.ref b) P:=⟨.way x y,.way e,⟨a,c,d,f⟩,g,(λ_ h=>nomatch h)⟩
theorem vW{s:Str}{c:Addr}{xs:bY}{a:List (Str×Str)}(hs:s="box"\/s="pick")(e:H b=some (.tup [.str s,.ref c]))(d:H c=some (.tup xs))(f:xs.length<=10)(h:QX H ns xs a)(g:∀q∈a,q.1∈ws)(i:P none):vm H ns ws (.ref b) P:=
 ⟨.prs s a,.prs e d ⟨h.len,h.at_⟩,⟨hs,h.nm,h.Dg,by rw[<- h.len];exact f⟩,i,λz j=>by obtain⟨q,hq,rfl⟩:=Z2.mp j;exact g q hq⟩
end
theorem Q2 {y:Str} (e:H b=some (.tup [.str x,.str y])) (a:Wd x) (c:Wd y):TB H (.ref b) 1 411:=
 (TB.tup (k:=0) (n:=202) e λv hv=>by
  simp only [Qp,QB,or_false] at hv
  rcases hv with rfl | rfl
  ·exact TB.str a
  ·exact TB.str c).mono (by lia) (by simp)
theorem HV.tb{ws:aU}{v:V}{h:Hd}(q:HV H v h)(ok:h.ok ns)(a:∀n∈ns,Wd n)(g:∀z∈h.Ag,Wd z):TB H v 3 8273:=by
 cases q with
 |one e=>
  refine(TB.tup (k:=0) (n:=202) e λv hv=>?_).mono (by lia) (by simp);rw[zO.mp hv];rcases ok with rfl|rfl<;>exact TB.str (fX (by decide) (by decide))
 |as e=>exact(Q2 e (fX (by decide) (by decide)) (a _ ok.2)).mono (by lia) (by lia)
 |way e=>
  refine(TB.tup (k:=0) (n:=202) e λv hv=>?_).mono (by lia) (by simp);simp only[Qp,QB,or_false]at hv;rcases hv with rfl|rfl|rfl
  ·exact TB.str (fX (by decide) (by decide))
  ·exact TB.str (a _ ok.2.2.1)
  ·exact TB.str (a _ ok.2.2.2)
 | @prs b c s xs ps e e' p=>
  have l:=ok.2.2.2;have m:=p.len;refine(TB.tup (k:=2) (n:=4133) e λv hv=>?_).mono (by lia) (by simp);simp only[Qp,QB,or_false]at hv;rcases hv with rfl|rfl
  ·rcases ok.1 with rfl|rfl<;>exact(TB.str (fX (by decide) (by decide))).mono (by lia) (by lia)
  ·refine(TB.tup (k:=1) (n:=411) e' λx j=>?_).mono (by lia) (by lia);obtain⟨i,hi,rfl⟩:=Qi j;have d:i<ps.length:=by lia
   obtain⟨c',q1,q2⟩:=p.at_ i hi d
   rw[q1];have f:ps[i]∈ps:=Qj d;exact Q2 q2 (g _ (Z2.mpr ⟨_,f,rfl⟩)) (a _ (ok.2.1 _ f).2.2)
theorem qX(a:Str):vj a a=false:=by
 unfold vj;exact Qx (List.lt_irrefl _)
def Dj(a:aU)(n:Str)(o:Option Str):Prop:=∀y,o=some y->∃(i j:Nat),i<j/\a[i]? =some y/\a[j]? =some n
structure rh(H:Hp)(ns ws:aU)(rs:cw):Prop where
 sub:∀r∈rs,r.1∈ns
 hd:∀r∈rs,vm H ns ws r.2 (Dj ns r.1)
theorem rh.tk{H U:Hp}{a ws:aU}{b:cw}(h:rh H a ws b)(s:Tk H U):rh U a ws b:=⟨h.sub,λr c=>(h.hd r c).tk s⟩
theorem rh.perm{c a:cw}(h:rh H ns ws c)(p:∀r∈a,r∈c):rh H ns ws a:=⟨λr b=>h.sub r (p r b),λr b=>h.hd r (p r b)⟩
theorem rh.add{a:cw}(h:rh H ns ws a){n:Str}{v:V}(b:n∈ns)(c:vm H ns ws v (Dj ns n)):rh H ns ws ((n,v)::a):=by
 refine⟨λr hr=>?_,λr hr=>?_⟩<;>rcases Qp.mp hr with rfl|hr
 ·exact b
 ·exact h.sub r hr
 ·exact c
 ·exact h.hd r hr
structure RT(H:Hp)(a:Addr)(xs:bY)(F:List aj)(ns ws:aU):Prop where
 at_:H a=some (.tup xs)
 rv:RV H xs F
 nm:(F.map (·.1)).Perm ns
 nd:ns.Nodup
 ok:QY ns F
 wd:∀n∈ns,Wd n
 ah:∀r∈F,Dj ns r.1 r.2.nx
 ww:∀r∈F,∀z∈r.2.Ag,z∈ws
 pos:1<=ns.length
 few:ns.length<=14
section
variable{xs:bY}{F:List aj}
theorem RT.tk(h:RT H a xs F ns ws)(s:Tk H U):RT U a xs F ns ws:=⟨s _ _ h.at_,h.rv.tk s,h.nm,h.nd,h.ok,h.wd,h.ah,h.ww,h.pos,h.few⟩
theorem RT.rl(h:RT H a xs F ns ws):F.length=ns.length:=by have:=h.nm.length_eq;simpa using this
theorem RT.mj(h:RT H a xs F ns ws):(F.map (·.1)).Nodup:=by rw[h.nm.nodup_iff];exact h.nd
theorem RT.of{c:cw}(e:H a=some (.tup xs))(l:ky H xs (cf c))(q:(c.map (·.1)).Perm ns)(s:ns.Nodup)(m:∀n∈ns,ce n=true/\Wd n)(j:1<=ns.length)(k:ns.length<=14)(g:rh H ns ws c):∃F,RT H a xs F ns ws:=by
 have t:∀i:Fin c.length,∃hd:Hd,HV H c[i.val].2 hd/\hd.ok ns/\Dj ns c[i.val].1 hd.nx/\∀z∈hd.Ag,z∈ws:=λi=>(g.hd _ (Qj i.isLt)).ex;obtain⟨f,hf⟩:=lp t;have u:xs.length=c.length:=by have:=l.1;simpa using this
 have w:(List.ofFn λi:Fin c.length=>((c[i.val].1,f i):aj)).map (·.1)=c.map (·.1):=by
  apply ga
  ·simp
  ·intro i o x;simp
 have d:∀r∈(List.ofFn λi:Fin c.length=>((c[i.val].1,f i):aj)),∃i:Fin c.length,r=(c[i.val].1,f i):=λr h=>by
  obtain⟨i,hi,rfl⟩:=Qi h;exact⟨⟨i,by simpa using hi⟩,by simp⟩
 refine⟨List.ofFn λi=>(c[i.val].1,f i),e,⟨by simp[u],λi o x=>?_⟩,by rw[w];exact q,s,λr h=>?_,λn y=>(m n y).2,λr h=>?_,λr h=>?_,j,k⟩
 ·have p:i<c.length:=by lia
  obtain⟨b,e1,e2⟩:=l.2 i (by simpa using p);rw[Qa o]at e1;refine⟨b,c[i].2,QE e1,?_,?_⟩
  ·simpa[cf,kV]using e2
  ·simpa using(hf ⟨i,p⟩).1
 ·obtain⟨i,rfl⟩:=d r h;exact⟨(m _ (g.sub _ (Qj i.isLt))).1,(hf i).2.1⟩
 ·obtain⟨i,rfl⟩:=d r h;exact(hf i).2.2.1
 ·obtain⟨i,rfl⟩:=d r h;exact(hf i).2.2.2
end
section
variable{xs J:bY}{F Dk:List aj}{ws':aU}{f g:Str->Str}
theorem RT.pairs(h:RT H a xs F ns ws):∃rs:cw,ky H xs (cf rs)/\rs.map (·.1)=F.map (·.1)/\rs.length=F.length/\∀i(d:i<rs.length)(c:i<F.length),HV H rs[i].2 F[i].2:=by
 have e:=h.rv.len;have g:∀i:Fin F.length,∃v:V,(∃b,xs[i.val]? =some (.ref b)/\H b=some (.tup [.str F[i.val].1,v]))/\HV H v F[i.val].2:=λi=>by
  obtain⟨b,v,q1,q2,q3⟩:=h.rv.at_ i.val (by have:=i.isLt;lia) i.isLt
  exact⟨v,⟨b,by rw[Qa (by have:=i.isLt;lia),q1],q2⟩,q3⟩
 obtain⟨f,hf⟩:=lp g;refine⟨List.ofFn λi=>(F[i.val].1,f i),⟨by simp[e],λi j=>?_⟩,?_,by simp,λi d c=>?_⟩
 ·have k:i<F.length:=by simpa using j
  obtain⟨b,q1,q2⟩:=(hf ⟨i,k⟩).1;exact⟨b,q1,by simpa[cf,kV]using q2⟩
 ·apply ga
  ·simp
  ·intro i d c;simp
 ·simpa using(hf ⟨i,c⟩).2
def au(F:List aj)(x:Str):Hd:=((F.find? λr=>decide (r.1=x)).map (·.2)).getD (.one "")
def jf(F:List aj)(x:Str):Option Str:=(au F x).nx
theorem dX(a:(F.map (·.1)).Nodup){r:aj}(b:r∈F):au F r.1=r.2:=by
 obtain⟨i,hi,rfl⟩:=Qi b;have:F.find? (λr=>decide (r.1=F[i].1))=some F[i]:=by
  rw[qf];refine⟨by simp,i,hi,rfl,λj c=>?_⟩;have d:(F.map (·.1))[j]'(by simp;lia)≠(F.map (·.1))[i]'(by simpa using hi):=uW.mp a j i (by simp;lia) (by simpa using hi) c;simpa using d
 unfold au;rw[this];rfl
theorem HV.asV{v:V}{h:Hd}(q:HV H v h)(ok:h.ok ns):Dd H v h.nx:=by
 cases q with
 |one e=>exact⟨_,rfl,.inl ⟨_,_,e,by rcases ok with rfl|rfl<;>decide,rfl⟩⟩
 |as e=>exact⟨_,rfl,.inr ⟨_,e,rfl⟩⟩
 |way e=>exact⟨_,rfl,.inl ⟨_,_,e,by decide,rfl⟩⟩
 |prs e e' p=>exact⟨_,rfl,.inl ⟨_,_,e,by rcases ok.1 with rfl|rfl<;>decide,rfl⟩⟩
theorem RT.good(h:RT H a xs F ns ws)(o:∀z∈ws,Wd z):∃rs,ug H a xs rs (jf F) (λn=>ns.idxOf n)/\rs.map (·.1)=F.map (·.1)/\rs.length=F.length/\∀x v,x∈ns->a_ (dictOf (cf rs)) (.inr x)=some v->HV H v (au F x):=by
 obtain⟨rs,ps,nm,rl,hv⟩:=h.pairs;have w:=h.rl;have A:=h.few;have C:=h.pos;have nd:(rs.map (·.1)).Nodup:=by rw[nm];exact h.mj
 have f:∀n,n∈ns↔n∈rs.map (·.1):=λn=>by rw[nm];exact h.nm.mem_iff.symm
 have d:∀r∈rs,∃b∈F,r.1=b.1/\HV H r.2 b.2:=λr c=>by
  obtain⟨i,hi,rfl⟩:=Qi c;have k:i<F.length:=by lia
  refine⟨F[i],Qj k,?_,hv i hi k⟩;have:(rs.map (·.1))[i]'(by simpa using hi)=(F.map (·.1))[i]'(by simpa using k):=by simp only[nm]
  simpa using this
 have g:ug H a xs rs (jf F) (λn=>ns.idxOf n):=by
  refine⟨h.at_,ps,nd,by lia,by lia,λr c=>?_,λr c y l=>?_,λr c=>?_,λr c=>?_⟩
  ·obtain⟨b,ia,e,v⟩:=d r c;unfold jf;rw[e,dX h.mj ia];exact v.asV (h.ok b ia).2
  ·obtain⟨b,ia,e,v⟩:=d r c;unfold jf at l;rw[e,dX h.mj ia]at l;obtain⟨i,j,ye,Y,h2⟩:=h.ah b ia y l;refine⟨(f y).mp (QD Y),?_⟩;show ns.idxOf y<ns.idxOf r.1;rw[e,pF h.nd Y,pF h.nd h2];exact ye
  ·have:=List.idxOf_lt_length_of_mem ((f r.1).mpr (Z2.mpr ⟨r,c,rfl⟩));show ns.idxOf r.1<=_
   lia
  ·obtain⟨b,ia,e,v⟩:=d r c;refine⟨h.wd _ ((f r.1).mpr (Z2.mpr ⟨r,c,rfl⟩)),v.tb (ws:=ws) (h.ok b ia).2 h.wd λz p=>o z (h.ww b ia z p)⟩
 refine⟨rs,g,nm,rl,λx v s t=>?_⟩;obtain⟨v',m,e⟩:=g.get ((f x).mp s);rw[t]at e;cases e;obtain⟨b,ia,e,q⟩:=d _ m;have u:x=b.1:=e;rw[u,dX h.mj ia];exact q
end
def Hd.bh:Hd->List (aU×Str)
 | .way x y=>[(["from"],x),(["to"],y)]
 | .prs s ps=>ps.map λp=>([if s="box" then"part" else"case",p.1],p.2)
 |_=>[]
theorem wU:∀{h:Hd},h.ok ns->∀m∈h.bh,m.2∈ns
 | .one _,_,_,hm=>nomatch hm
 | .as _,_,_,hm=>nomatch hm
 | .way x y,ok,m,hm=>by
  simp only[Hd.bh,Qp,QB,or_false]at hm;rcases hm with rfl|rfl
  ·exact ok.2.2.1
  ·exact ok.2.2.2
 | .prs s ps,ok,m,hm=>by
  obtain⟨p,hp,rfl⟩:=Z2.mp hm;exact(ok.2.1 p hp).2.2
structure MV(H:Hp)(xs:bY)(ms:List (aU×Str)):Prop where
 len:xs.length=ms.length
 at_:∀i(h:i<xs.length)(M:i<ms.length),∃c b,xs[i]=.ref c/\H c=some (.tup [.ref b,.str ms[i].2])/\H b=some (.tup (ms[i].1.map V.str))
theorem MV.tk{xs:bY}(h:MV H xs ms)(s:Tk H U):MV U xs ms:=⟨h.len,λi a b=>let ⟨c,d,Y,h2,h3⟩:=h.at_ i a b;⟨c,d,Y,s _ _ h2,s _ _ h3⟩⟩
theorem MV.nil:MV H [] []:=⟨rfl,λi h=>absurd h (by simp)⟩
theorem MV.snoc{xs:bY}(h:MV H xs ms){c:Addr}{m:aU×Str}(d:H c=some (.tup [.ref b,.str m.2]))(f:H b=some (.tup (m.1.map V.str))):MV H (xs++[.ref c]) (ms++[m]):=by
 have a:=h.len;refine⟨by simp[a],λi g j=>?_⟩;by_cases av:i<xs.length
 ·rw[Qe av,Qe (by lia)];exact h.at_ i av (by lia)
 ·have e:i=xs.length:=by simp at g;lia
  subst e;rw[Qf (Qz _),Qf (by lia)];simp only[du,a,uJ];exact⟨c,b,rfl,d,f⟩
def b7(F:List aj)(x:Str):Str:=ip (jf F) F.length x
def az(F:List aj)(x:Str):List (aU×Str):=(au F (b7 F x)).bh.map λm=>(m.1,b7 F m.2)
theorem RT.Bp{H:Hp}{a:Addr}{xs:bY}{F:List aj}{b ws:aU}(rt:RT H a xs F b ws)(d:∀z∈ws,Wd z){x:Str}(f:x∈b):b7 F x∈b/\(au F (b7 F x)).nx=none/\(au F (b7 F x)).ok b:=by
 obtain⟨rs,g,nm,rl,hv⟩:=rt.good d;have c:∀z,z∈b↔z∈rs.map (·.1):=λz=>by rw[nm];exact rt.nm.mem_iff.symm
 obtain⟨Y,h2⟩:=g.Bp ((c x).mp f);rw[rl]at Y h2;refine⟨(c _).mpr Y,h2,?_⟩;have h:b7 F x∈F.map (·.1):=by rw[<- nm];exact Y
 obtain⟨r,hr,e⟩:=Z2.mp h;rw[<- e,dX rt.mj hr];exact(rt.ok r hr).2
structure Gr(K:Q0)(t:Addr×Obj×bY):Prop where
 lk:K.lookup t.1=some t.2.1
 ok:∃(its:cq)(n:Nat),t.2.1.cls=.type "tuple"/\t.2.1.dict=none/\t.2.1.data=.seq its.toArray n/\bg t.2.2 its/\t.2.2.length<=sizeLine
def without(K:Q0)(as:cx):Q0:=K.filter λp=> !as.contains p.1
theorem dL{as:cx}{b:Addr}:∀{K:Q0},(without K as).lookup b=if as.contains b=true then none else K.lookup b
 | []=>by unfold without;simp
 |(c,o)::K=>by
  have ih:=dL (as:=as) (b:=b) (K:=K);unfold without at ih⊢;rw[pi];by_cases hc:as.contains c=true
  ·have a:¬(!as.contains (c,o).1)=true:=by show ¬(!as.contains c)=true;rw[hc];decide
   rw[if_neg a,ih];by_cases hb:as.contains b=true
   ·rw[if_pos hb,if_pos hb]
   ·have n:(b==c)=false:=by
     cases e:b==c with
     |false=>rfl
     |true=>rw[eq_of_beq e]at hb;exact absurd hc hb
    rw[if_neg hb,if_neg hb,ge,n]
  ·have a:(!as.contains (c,o).1)=true:=by
    show(!as.contains c)=true;cases q:as.contains c with
    |true=>exact absurd q hc
    |false=>rfl
   rw[if_pos a,ge,ge,ih];cases e:b==c with
   |true=>
    have:¬as.contains b=true:=by rw[eq_of_beq e];exact hc
    show some o=if as.contains b=true then none else some o
    rw[if_neg this]
   |false=>rfl
def Q4(H:Hp):Prop:=∀b,H b=none\/∃o u,H b=some (.af o u)
def lq(ts:List (Addr×Obj×bY))(G:Hp):Hp:=λb=>match ts.find? λt=>decide (t.1=b)with
 |some t=>some (.af t.2.1 (.tup t.2.2))
 |none=>G b
theorem si{ts:List (Addr×Obj×bY)}{G:Hp}{t:Addr×Obj×bY}(h:t∈ts)(b:(ts.map (·.1)).Nodup):lq ts G t.1=some (.af t.2.1 (.tup t.2.2)):=by
 induction ts with
 |nil=>cases h
 |cons a ts ih=>
  unfold lq;rw[gV];rw[yV,uY]at b;by_cases e:a.1=t.1
  ·rw[Qw e];rcases Qp.mp h with rfl|h
   ·rfl
   ·exact absurd (Z2.mpr ⟨t,h,e.symm⟩) b.1
  ·rw[Qx e];rcases Qp.mp h with rfl|h
   ·exact absurd rfl e
   ·exact ih h b.2
theorem fA{ts:List (Addr×Obj×bY)}{G:Hp}:(∃t∈ts,t.1=b/\lq ts G b=some (.af t.2.1 (.tup t.2.2)))\/((∀t∈ts,t.1≠b)/\lq ts G b=G b):=by
 unfold lq;cases q:ts.find? λt=>decide (t.1=b)with
 |some t=>
  have a:=mu q;have c:=List.find?_some q;exact .inl ⟨t,a,Qt c,rfl⟩
 |none=>
  refine .inr ⟨λt d e=>?_,rfl⟩;have:=Qa4.mp q t d;simp[e]at this
theorem Bf{K:Q0}{I:Str->cv}{CX:zy}{k:Nat}{L:Addr}{c:Shared}{vs:cq}{p:List Int}{ts:List (Addr×Obj×bY)}
  (A:∀t∈ts,Gr K t) (nd:(ts.map (·.1)).Nodup)
  (N:K.In c.heap) (Q5:c.heap.Ns mainGlobals mg) (g:c.heap.Ns builtinsNs I) (Q:∀x:Str,x≠"__name__"->I x=bootBuiltins x) (R:c.heap.NoLimit) (hg:c.gens=#[])
  (y:c.heap.get? a=some {cls:=.type "list",data:=.seq vs.toArray}) (hi:IntsAre vs p) (hl:p.length<=sizeLine) (hr:f_ k callerA)
  (F:∀base:Heap,(without K (ts.map (·.1))).In base->base.Ns mainGlobals mg->se P w (without K (ts.map (·.1))) mg base CX k L fd [x] sp) (T:∀(s:Shared)(u:Value),BindsTo s fd ⟨[u],[]⟩ [(x,u)])
  (B7:∀H:Hp,Q4 H->(∀t∈ts,H t.1=some (.af t.2.1 (.tup t.2.2)))->ai (without K (ts.map (·.1))) H a (p.map V.int)->sp [.ref a] H (λv _=>v=.bl true) λ_ _ _=>False)
  (ab:∀H e s',CX [] H c (λ_ _ _=>False) e s'->False):
  codeAny (model P w) callerA (.call (.ref L) ⟨[.ref a],[]⟩) (λr s'=>r=.ok (.ret (.bool true))/\OldK c.heap s'.heap/\s'.os=c.os/\AllBare s'.gens) c:=by
 have rv:=pJ hi;have ag:=hi.length;have Ly:∀t∈ts,c.heap.get? t.1=some t.2.1:=λt f=>N _ _ (A t f).lk;have Q6:∀t∈ts,t.1≠a:=λt f e=>by
  obtain⟨its,n,Y,_⟩:=(A t f).ok;have:=Ly t f;rw[e,y]at this;rw[<- QE this]at Y;injection Y with h2;exact absurd h2 (by decide)
 have i:∀G:Hp,(∀b,G b≠none->b=a)->(G a≠none->K.lookup a=none)->(∀b,G b=none\/∃o u,G b=some (.af o u))->ai (without K (ts.map (·.1))) (lq ts G) a (p.map V.int)->(∀u,G a=some u->∀H,br P w H c.heap a u)->
   codeAny (model P w) callerA (.call (.ref L) ⟨[.ref a],[]⟩) (λr s'=>r=.ok (.ret (.bool true))/\OldK c.heap s'.heap/\s'.os=c.os/\AllBare s'.gens) c:=by
  intro G hG hK hF hS hO;have qt:∀b,lq ts G b≠none->b=a\/∃t∈ts,t.1=b:=λb q=>by
   rcases fA (ts:=ts) (G:=G) (b:=b)with⟨t,f,e,_⟩|⟨_,e⟩
   ·exact .inr ⟨t,f,e⟩
   ·rw[e]at q;exact .inl (hG b q)
  have af:Q4 (lq ts G):=λb=>by
   rcases fA (ts:=ts) (G:=G) (b:=b)with⟨t,f,e,q⟩|⟨_,q⟩
   ·exact .inr ⟨_,_,q⟩
   ·rw[q];exact hF b
  have hok:fq P w (lq ts G) c.heap:=λb u q=>by
   rcases fA (ts:=ts) (G:=G) (b:=b)with⟨t,f,e,j⟩|⟨_,j⟩
   ·rw[j]at q;cases q;obtain⟨its,n,Y,h2,h3,h4,h5⟩:=(A t f).ok;have l:=Ly t f;rw[e]at l;exact⟨l,⟨h5,λo z=>by rw[l]at z;cases z;exact h2⟩,its,h4,t.2.1,l,Y,n,h3⟩
   ·rw[j]at q;have e:=hG b (by rw[q];simp);subst e;exact hO u q _
  have Q7:∀{b:Addr}{o:Obj},c.heap.get? b=some o->lq ts G b=none->(A_ c.heap (lq ts G)).get? b=some o:=λe n=>VQ e n;have F1:∀{b:Addr}{o:Obj}{C:Array DictEntry}{D:Nat},c.heap.get? b=some o->o.data=.dict C D->lq ts G b=none:=fun{b o C D}e d=>by
   cases q:lq ts G b with
   |none=>rfl
   |some u=>
    rcases qt b (by rw[q];simp)with z|⟨t,f,z⟩
    ·subst z;rw[y]at e;cases e;cases d
    ·have l:=Ly t f;rw[z,e]at l;cases l;obtain⟨its,n,Y,h2,h3,_⟩:=(A t f).ok;rw[d]at h3;cases h3
  have E:∀{b:Addr}{m:Str->cv},c.heap.Ns b m->(A_ c.heap (lq ts G)).Ns b m:=fun{b m} ⟨o,C,D,e,d,r⟩=>⟨o,C,D,Q7 e (F1 e d),d,r⟩
  have Q8:(without K (ts.map (·.1))).In (A_ c.heap (lq ts G)):=λb o e=>by
   rw[dL]at e;by_cases hc:(ts.map (·.1)).contains b=true
   ·rw[if_pos hc]at e;cases e
   ·rw[if_neg hc]at e;refine Q7 (N b o e) ?_;cases q:lq ts G b with
    |none=>rfl
    |some u=>
     rcases fA (ts:=ts) (G:=G) (b:=b)with⟨t,f,z,_⟩|⟨_,j⟩
     ·exact absurd (by rw[List.contains_iff_mem];exact Z2.mpr ⟨t,f,z⟩) hc
     ·rw[j]at q;have z:=hG b (by rw[q];simp);subst z;rw[hK (by rw[q];simp)]at e;cases e
  have hM:Mod (without K (ts.map (·.1))) mg (A_ c.heap (lq ts G)):=⟨Q8,E Q5,⟨I,E g,Q⟩,let ⟨mc,Y,h2⟩:=R;⟨mc,E Y,h2⟩⟩
  have e0:C5 P w (without K (ts.map (·.1))) mg (A_ c.heap (lq ts G)) callerA [] c (lq ts G):=⟨rfl,hM,λb o e=>VR e,Nat.le_of_eq (zZ _ _),trivial,λb g=>absurd (show b∈([]:cx)from g) (by simp),hok,.of_eq hg⟩
  refine codeAny_mono ((F _ Q8 (E Q5)).run callerA [] c (lq ts G) ⟨[.ref a],[]⟩ [.ref a] [.ref a] _ _ hr e0 (T c (.ref a)) (.cons rfl .nil) (B7 (lq ts G) af (λt f=>si f nd) hS)) λr s' h=>?_;cases r with
  |error e=>exact(ab _ e s' h).elim
  |ok fl=>
   cases fl with
   |next=>exact False.elim h
   |brk=>exact False.elim h
   |cont=>exact False.elim h
   |ret u=>
    obtain⟨v,U,os,bare,un,Lz,r',q⟩:=h;have j:v=.bl true:=q;subst j;obtain rfl:u=Value.bool true:=r';refine⟨rfl,OldK.of_keep λb o e=>?_,os,bare⟩;cases q:lq ts G b with
    |none=>exact un.keep b o e q (by intro z;exact absurd (show b∈([]:cx)from z) (by simp)) (by simp)
    |some u=>
     rcases af b with z|⟨ob,u',z⟩
     ·rw[q]at z;cases z
     ·have z2:=un.xu b ob _ z;obtain⟨e1,_⟩:=hok b _ z;obtain⟨e2,_⟩:=Lz b _ z2;rw[e]at e1;cases e1;exact e2
 have ah:¬(ts.map (·.1)).contains a=true:=λh=>by
  rw[List.contains_iff_mem]at h;obtain⟨t,f,e⟩:=Z2.mp h;exact Q6 t f e
 have al:∀G:Hp,lq ts G a=G a:=λG=>by
  rcases fA (ts:=ts) (G:=G) (b:=a)with⟨t,f,e,_⟩|⟨_,q⟩
  ·exact absurd e (Q6 t f)
  ·exact q
 cases hk:K.lookup a with
 |some o=>
  have e:=N a o hk;rw[y]at e;cases e;exact i (λ_=>none) (λb z=>absurd rfl z) (λz=>absurd rfl z) (λ_=>.inl rfl) (.inr ⟨_,vs.toArray,_,by rw[dL,if_neg ah];exact hk,rfl,rfl,rfl,by rw[wV,ag];exact hl,by simpa using rv⟩) λu z=>by cases z
 |none=>
  refine i (λb=>if b=a then some (.af {cls:=.type "list",data:=.seq vs.toArray} (.lst (p.map V.int)))else none) (λb z=>?_) (λ_=>hk) (λb=>?_) (.inl (.inr ⟨{cls:=.type "list",data:=.seq vs.toArray},by rw[al];exact if_pos rfl⟩)) λu z H=>?_
  ·by_cases g:b=a
   ·exact g
   ·exact absurd (if_neg g) z
  ·by_cases g:b=a
   ·exact .inr ⟨_,_,if_pos g⟩
   ·exact .inl (if_neg g)
  ·have z':=(if_pos rfl).symm.trans z;cases z';exact⟨y,by rw[Ql];exact hl,vs,_,rv,y⟩
def cr(b:Str->cv)(x:Str):Addr:=match b x with
 |some (.ref a)=>a
 |_=>0
theorem IO(h:mg x=some (.ref a)):RelV (.ref (cr mg x)) (.ref a):=by
 unfold cr;rw[h];exact rfl
def Kn(a:Str->cv)(H:Hp)(x:Str)(J:bY):Prop:=∃o,H (cr a x)=some (.af o (.tup J))
theorem Kn.same{J:bY}(h:Kn mg H x J)(s:ae H U):Kn mg U x J:=let ⟨o,e⟩:=h;⟨o,s _ _ e⟩
theorem Kn.rd{J:bY}(h:Kn mg H x J):bj H (cr mg x) J:=.inr h
theorem bj.same{J:bY}(h:bj H b J)(s:ae H U):bj U b J:=h.imp (λe=>s _ _ e) fun⟨o,e⟩=>⟨o,s _ _ e⟩
structure SV(H:Hp)(xs:bY)(ss:List aU):Prop where
 len:xs.length=ss.length
 at_:∀i(h:i<xs.length)(M:i<ss.length),∃b,xs[i]=.ref b/\bj H b (ss[i].map V.str)
theorem SV.keep{xs:bY}(h:SV H xs ss)(s:∀b J,bj H b J->bj U b J):SV U xs ss:=⟨h.len,λi a b=>let ⟨c,Y,h2⟩:=h.at_ i a b;⟨c,Y,s _ _ h2⟩⟩
theorem SV.nil:SV H [] []:=⟨rfl,λi h=>absurd h (by simp)⟩
theorem SV.snoc{xs:bY}(h:SV H xs ss){m:aU}(e:bj H b (m.map V.str)):SV H (xs++[.ref b]) (ss++[m]):=by
 have a:=h.len;refine⟨by simp[a],λi c f=>?_⟩;by_cases av:i<xs.length
 ·rw[Qe av,Qe (by lia)];exact h.at_ i av (by lia)
 ·have d:i=xs.length:=by simp at c;lia
  subst d;rw[Qf (Qz _),Qf (by lia)];simp only[du,a,uJ];exact⟨b,rfl,e⟩
section
variable{iter kx vx:Expr}{pos:Pos}{tk tw:TE}
def Q9 (own:aU) (idx:cm) (k:TI) (g:TG) (l:TC) (n o:TE):TE:=λZ H Q=>k Z H λJ H1=>∀ D,H1 D=none->∃ W:Nat->Nat->St->Hp->Prop,(∃ m,W 0 m (Ac own idx Z) (upd H1 D (.dT [])))/\∀ i m f H,W i m f H->
 (J.stop i H/\Q (.ref D) H)\/(J.go i H/\∃ N:St->Hp->Prop,(∀ c U,N c U->∃ h,h < m/\W (i+1) h c U)/\∀ x U,J.qx i H x U->g x f U λa H2=>l a H2 λb j=>
  if b=true then n a j λx p=>o a p λy e=>∃ kvs d b,x=.ref b/\bj e b (d.map kV)/\e D=some (.dT kvs)/\kvs.length < sizeLine/\N a (upd e D (.dT (ci kvs d y))) else N a j)
theorem Jb(S:'m')(hc:X.calm=true)(hu:X.A.units<cLine)(hi:PI X tg iter wi)
  (hg:∀f C i H0 fp j,PG (cy X N' sc f C i H0 fp j) tg g) (ht:∀f C i H0 fp j,Ad (cy X N' sc f C i H0 fp j) ifs tc) (he:∀f C i H0 fp j,PE (cy X N' sc f C i H0 fp j) kx tk) (hv:∀f C i H0 fp j,PE (cy X N' sc f C i H0 fp j) vx tw)
  (hs:∀x,foldedSetIterable iter X.env x=pure x:=by intro _;rfl):PE X (.DictComp kx vx [⟨tg,iter,ifs,0⟩] sc pos) (Q9 own idx wi g tc tk tw):=by
 intro B s Z H Q I h;obtain⟨f,uf,c1,c2⟩:=S.closure I.ok;show wpAny _ X.A (comprehension (.DictComp kx vx [⟨tg,iter,ifs,0⟩] sc pos) sc X.env _ newDict false (eval iter X.env)) _ _ s;refine wpAny_comprehension_free (use:=none) rfl hs uf S.kind S.names (ay (hi B s Z H _ I h) λv s1 Y=>ay Y λud s2 L=>?_);refine mU (Q:=Q) (B:=B) (Z:=Z) (RR:=λP C=>compPost 'a' X.A X.xe none (EP X B Z Q) P C) (ob:=PV) (sel:=λenv D s K=>wpAny 'a' X.A (eval kx env) (λT p=>wpAny 'a' X.A (eval vx env) (λvv r=>wpAny 'a' X.A (dictSet D T vv) (λ_ t=>K t) jm r) jm p) jm s) (o0:=.dT []) (el:=λD G H K=>tk G H λx H4=>tw G H4 λy V=>∃d a b,x=.ref b/\bj V b (a.map kV)/\V D=some (.dT d)/\d.length<sizeLine/\K (upd V D (.dT (ci d a y)))) S c1 c2 hc (hob:=rfl)
  (λit D env R s I turn n h=>PU I turn n h) (λh k=>ay h λ_ _ h=>ay h λ_ _ h=>ay h λ_ _ h=>k _ h) (λ_ _ _ _ _=>codeAny_compStart_dict) hg ht (λf C i H0 fp j B s G H D N I q=>?_) (λQ E h=>wpAny_newObj_type h)
  (λU I H h e=>⟨dm _,beq_eq_false_iff_ne.mpr (Ne.symm (yU I.big)),[],.nil,_,#[],0,e,⟨rfl,rfl,rfl⟩,rfl,rfl,ij⟩) L ?_
 ·refine ay (he f C i H0 fp j _ s G H _ I q) ?_;rintro T s8 ⟨x8,H8,I8,r8,q8⟩;refine ay (hv f C i H0 fp j _ s8 G H8 _ I8 q8) ?_;rintro yv s9 ⟨y9,H9,I9,r9,d,a,b9,ek,eb,Ey,hz,n9⟩;subst ek;cases(show T=Value.ref b9 from r8);obtain⟨z,hd,xs,rel,dd⟩:=KP I9.hok Ey;have C_:xs.length<=sizeLine:=by rw[<- Paired.length rel];exact z
  have fh:(ci d a y9).length<=sizeLine:=by have:=bU d a y9;lia
  refine wpAny_dictSet_heap (hsz:=C_) hu (j9 I9.hok eb) dd λM jl hs=>?_;obtain⟨q,es,ep,hq,L,h3,h4,_,h5⟩:=jl;exact⟨_,dW (t':=s9.toks+(tupleKind (cz X.prog X.w)).draws a) (ob:=.dT (ci d a y9)) I9 (by rw[Ey];exact True.intro) hs ⟨q,hq⟩ ⟨fh,hd,_,(rel.put a eb r9).keeps λc J l=>l.upd λu hu z=>by subst z;rcases l with l|⟨_,l⟩<;>(rw[Ey]at l;cases l),q,es,ep,hq,L,h3,h4,h5⟩,n9⟩
 ·intro D C U s' I' q ⟨a1,a2,a3,a4,a5,m,a6⟩;exact⟨m,a6,λM sb=>⟨.ref D,U,I'.turned (t':=s'.toks) (λb o hb e=>(sb.2 b hb).trans e) a1 (Ne.symm (Ne.symm a2)) (.inr a3) a4 a5,rfl,q⟩⟩
theorem Fs(S:'m')(d:X.calm=true)(e:X.A.units<cLine)(f:SI X tg iter wi)
  (i:∀a C b H0 fp c,SG (cy X N' sc a C b H0 fp c) tg g) (j:∀a C b H0 fp c,SC (cy X N' sc a C b H0 fp c) ifs tc) (k:∀a C b H0 fp c,SE (cy X N' sc a C b H0 fp c) kx tk) (hv:∀a C b H0 fp c,SE (cy X N' sc a C b H0 fp c) vx tw)
  (hs:∀x,foldedSetIterable iter X.env x=pure x:=by intro _;rfl):SE X (.DictComp kx vx [⟨tg,iter,ifs,0⟩] sc pos) (Q9 own idx wi g tc tk tw):=
 ⟨Jb S d e f.h (λq r s t u v=>(i q r s t u v).h) (λq r s t u v=>(j q r s t u v).h) (λq r s t u v=>(k q r s t u v).h) (λq r s t u v=>(hv q r s t u v).h) hs⟩
end
def Dm(K:Q0)(a:Str->cv)(x q:Str)(st:Stmt)(b c:aU)(C:Addr):Prop:=
 a x=some (.ref C)/\vf K C/\(∀f∈c,AJ K C f)/\∃(f:Addr)(fd:FuncData),Mk K C f/\Bj K "__init__" q st f fd/\Binds K fd b []
def Dn(P:Program)(w:World)(K:Q0)(a:Str->cv)(base:Heap)(k:Nat)(x:Str)(C:Addr)(b:aU)(c:Sp):Prop:=
 a x=some (.ref C)/\∃(f:Addr)(fd:FuncData),Mk K C f/\se P w K a base Aa k f fd b c/\Binds K fd b []
section
variable{o value:Expr}{tv:TE}{t:TA}{f:Str}{pos p:Pos}{k:Nat}
theorem cT(K:Q0)(a:SE X e te)(h:X.K=K:=by rfl)(b:attributeBase e f X.env (eval e X.env)=eval e X.env:=by rfl):SE X (.Attribute e f pos) (O5 K te f):=by subst h;exact⟨W' a.h b⟩
theorem lN(K:Q0)(a:SE X o ta)(hv:SE X value tv)(h:X.K=K:=by rfl)(hs:swapsWith value (some (.Attribute o f pos')) pos.line X.env=pure false:=by rfl):SS X (.Assign [.Attribute o f pos'] value pos) (HW K ta tv f):=by subst h;exact⟨Xa a.h hv.h hs⟩
theorem xa(F:Dn X.prog X.w X.K X.mg X.base k x C ps sp)(a:f_ (k+1) X.A)(c:SA X (e::es) t)(d:Gl X x:=by rfl)(g:db x:=by decide)
  (i:eH X e es:=by rfl) (j:eJ X pos es:=by rfl):
  SE X (.Call (.Name x p) (e::es) [] pos) (HX C sp [] E0 t):=by
 obtain⟨m,f,fd,M,G,b⟩:=F;exact⟨Xi M G a d m b .nil F8 c.h g i j⟩
end
theorem Dm.gw {K:Q0} {q:Str} {st:Stmt} {e:aU} {k:Nat} (F:Dm K mg x q st ps e C) (S:fj N ps (b_ st)) (d:∀ vs H Q E,sp vs H Q E->vs.length=ps.length)
  (g:∀ (f:Addr) (c:Value) (A:Around) (a:List Env) (s:Shared) (H:Hp) (vs:bY) (Q:VK) (E:XK),f_ k (A.deeper (envOfC q (b_ st) s.heap.objs.size f c))->sp vs H Q E->
   ∃ t,SB (AK Aa P w K mg base N q (b_ st) f c A a s H E).B3 (l_ st) t/\t {nx:=λ_ U=>Q .ao U,rt:=Q} (start N vs) H):Dn P w K mg base (k+1) x C ps sp:=by
 obtain ⟨m,_,_,f,i,M,j,b⟩:=F
 exact ⟨m,f,i,M,j.ok S d λc A a s H vs Q E l h=>let ⟨t,Y,h2⟩:=g f c A a s H vs Q E l h;⟨t,Y.h,h2⟩,b⟩
theorem Inv.aax{kvs:de}(I:Inv X B Z H s)(h:Rd H a (.dT kvs)):∃o,Inv X B Z (upd H a (.af o (.dT kvs))) s:=by
 rcases h with h|⟨o,h⟩
 ·have f:=(show br X.prog X.w H s.heap a (.dT kvs)from I.hok a _ h)
  obtain⟨z,hd,xs,rel,o,es,ep,Y,h2,h3,h4,h5⟩:=f;refine⟨o,I.write (x:=a) (e:=a) (M:=s.heap) (t':=s.toks) (o:=.af o (.dT kvs)) (by rw[h];exact True.intro) (.inl rfl) (λb u _ q=>q) ⟨o,Y⟩ ⟨Y,z,hd,xs,?_,o,es,ep,Y,h2,h3,h4,h5⟩⟩;exact(show KT H kvs xs from rel).keeps λc g d=>d.upd λu i z=>by subst z;rcases d with d|⟨_,d⟩<;>(rw[h]at d;cases d)
 ·exact⟨o,by rw[jV h];exact I⟩
def wa(b:TE):TE:=λZ H Q=>b Z H λx H1=>∃a,x=.ref a/\((∃kvs,Rd H1 a (.dK kvs)/\∀o,Q x (upd H1 a 'h'))\/∃kvs,Rd H1 a (.dT kvs)/\∀o,Q x (upd H1 a (.af o (.dT kvs))))
theorem mT(i:SE X e te):SE X e (wa te):=by
 constructor;intro b s j H Q I h;refine ay (i.h b s j H _ I h) ?_;rintro v k ⟨x,l,f,g,a,m,q⟩;rcases q with⟨c,d,q⟩|⟨c,d,q⟩
 ·obtain⟨o,es,ep,hd,I2,ho⟩:=f.freeze d;exact⟨x,_,I2,g,q o⟩
 ·obtain⟨o,I2⟩:=f.aax d;exact⟨x,_,I2,g,q o⟩
def valAt(kvs:ca)(i:Nat):V:=((kvs[i]?).map λa=>a.2).getD .ao
def Gs(a:Addr)(o:Obj)(kvs:ca):It:=⟨λi H=>H a=some 'h'/\i<kvs.length,λi H x U=>EB (jn kvs i) (valAt kvs i) H x U,λi H=>H a=some 'h'/\kvs.length=i⟩
theorem lB(kvs:ca):ED (Gs a o kvs) (λH=>H a=some 'h') kvs.length (jn kvs) (valAt kvs):=λH b=>⟨λi c=>⟨⟨b,c⟩,λx d h=>h⟩,b,rfl⟩
theorem rL{kvs:ca}(r:KV kvs vs):∀{i:Nat}{p:Key×V},kvs[i]? =some p->∃q,vs[i]? =some q/\q.1=p.1/\RelV p.2 q.2:=by
 intro i
 induction r generalizing i with
 |nil=>intro p h;simp at h
 |cons a t ih=>
  intro p h;cases i with
  |zero=>simp at h;subst h;exact⟨_,by simp,a.1.symm,a.2⟩
  |succ i=>simp at h;simpa using ih h
theorem uN{K:Q0}{k:Nat}{m:Pos}{kvs:ca}(ID:a≠it)(u:∃es,o.data=.dict es ep):
  dk P w K (.Tuple A8 k m) (Gs a o kvs) [it] it (λi h=>∃ok ov,IsItemIter h it a i kvs.length ep ok ov)where
 mem:=by simp
 obj:=λi h st b c=>by
  have e:b=it:=by simpa using c
  subst e;obtain⟨ok,ov,he⟩:=st;exact⟨_,he,λv z=>by
   have C:Data.fields _=Data.cell v:=z;cases C⟩
 keep:=λi h g st k=>let ⟨ok,ov,he⟩:=st;⟨ok,ov,k it (by simp) _ he⟩
 item:=by
  intro X n p r x i d s y H E I j st t;subst n p r;obtain⟨ok,ov,he⟩:=st;obtain⟨hq,hi⟩:=t;obtain⟨e,z,hd,vs,rel,ob,es,p_,Y,h2,h3,h4⟩:=(show br X.prog X.w H s.heap a 'h'from I.hok a _ hq)
  obtain⟨es',fu⟩:=u;rw[e]at Y;cases Y;rw[fu]at h3;injection h3 with iu iw
  subst iu iw;obtain⟨q,mz,qh,Dp⟩:=rL rel (Qa hi);have l:=rel.len;obtain⟨qk,qv⟩:=q;refine wpAny_pyNext_items_item (knd:=cz X.prog X.w) (kvs:=vs) (ep:=ep) (ok:=ok) (ov:=ov) (by rw[<- l];exact he) ⟨o,es',e,h2,fu,h4⟩ mz λf g D G L N Q=>?_;have R:RelV (jn kvs i) f:=by
   unfold jn;rw[Qa hi];show RelV (kV kvs[i].1) f;have T:qk=kvs[i].1:=qh;rw[<- T];exact oG D
  have V:RelV (valAt kvs i) qv:=by
   unfold valAt;rw[Qa hi];exact Dp
  have I1:Inv X d y (upd H s.heap.objs.size (.tup [jn kvs i,valAt kvs i])) {s with heap:=g}:=I.Ir (t':=s.toks) j (λb o c e=>Q b o (λz=>c (by simp[z])) e) (Qz _) (jR R V L);refine⟨_,rfl,wpAny_letOwnedTupleGo_items (s:={s with heap:=g}) G λDc Gu sb=>?_⟩;have av:it≠s.heap.objs.size:=yU (QA he);obtain⟨f0,f1,f2,f3,f4,f5⟩:=j it (by simp);have A:upd H s.heap.objs.size (.tup [jn kvs i,valAt kvs i]) it=none:=by rw[aB av];exact f0
  refine⟨.ref s.heap.objs.size,_,I1.turned (t':=s.toks) (λb o c q=>(sb.2 b c).trans q) A f1 f3 f4 f5,rfl,⟨_,rfl,I.hok.fresh (Qz _),rfl⟩,⟨_,_,by rw[l];exact Gu⟩,λb c=>?_⟩;have e:b=it:=by simpa using c
  subst e;exact A
 done:=by
  intro X n p r x i d s y H E I j st t;subst n p r;obtain⟨ok,ov,he⟩:=st;obtain⟨hq,hi⟩:=t;obtain⟨e,z,hd,vs,rel,ob,es,p_,Y,h2,h3,h4⟩:=(show br X.prog X.w H s.heap a 'h'from I.hok a _ hq)
  obtain⟨es',fu⟩:=u;rw[e]at Y;cases Y;rw[fu]at h3;injection h3 with iu iw
  subst iu iw;have l:=rel.len;obtain⟨f0,f1,f2,f3,f4,f5⟩:=j it (by simp);exact wpAny_pyNext_items_end (knd:=cz X.prog X.w) (kvs:=vs) (ep:=ep) (ok:=ok) (ov:=ov) (I.ok.hd x) (by rw[<- l];exact he) ⟨o,es',e,h2,fu,h4⟩ (by simp;lia) λg eb=>⟨rfl,I.turned (t':=s.toks) (λb o c e=>eb b o c e) f0 f1 f3 f4 f5⟩
 self:=λ_ _ _ _ _ st h=>let ⟨_,_,he⟩:=st;PySem.W.kcp_self he h
section
variable{k:Nat}{wm:Pos}{o:Expr}
def sn(b:TE):TI:=λZ H R=>b Z H λx H1=>∃a kvs,x=.ref a/\((∃o,H1 a=some 'h'/\R (Gs a o kvs) H1)\/(H1 a=some (.dK kvs)/\∀o,R (Gs a o kvs) (upd H1 a 'h')))
theorem oK(n:SE X o to)(p:attributeBase o "items" X.env (eval o X.env)=eval o X.env:=by rfl)(r:(apos.endLine==cpos.line)=true:=by rfl):
  SI X (.Tuple A8 k wm) (.Call (.Attribute o "items" apos) [] [] cpos) (sn to):=by
 constructor;intro c s g H R I h;refine wpAny_Call_method0_late p r (ay (n.h c s g H _ I h) ?_);rintro v d ⟨x,t,l,u,a,kvs,y,A⟩;subst y;cases u;obtain⟨o,f,I2,LB,q⟩:∃(o:Obj)(f:Hp),Inv X c g f d/\f a=some 'h'/\R (Gs a o kvs) f:=by
  rcases A with⟨o,e,q⟩|⟨e,q⟩
  ·exact⟨o,t,l,e,q⟩
  ·obtain⟨o,_,_,_,I2,_⟩:=l.freeze (.inl e);exact⟨o,_,I2,aA,q o⟩
 obtain⟨e,z,yd,vs,rel,ob,es,ep,Y,h2,hd,h4⟩:=(show br X.prog X.w _ d.heap a 'h'from I2.hok a _ LB)
 rw[e]at Y;cases Y;have C:=rel.len;have m:d.TypeIs (.ref a) "dict":=⟨o,e,h2.1⟩
 refine⟨"dict","dict.items",kz,py,PySem.F.type_dict_items,m,λb i=>by cases i;exact⟨o,e,h2.2.1⟩,Calls.callWith_builtin rfl (ng ?_)⟩;refine call_meetsIn py m PySem.F.entry_dict_items (PySem.F.args_dict_items_1 _) (meets_dict_items (cz X.prog X.w) a yd) ⟨⟨vs,o,es,ep,e,h2,hd,h4⟩,?_⟩;have j:Inv X c g f {d with heap:=d.heap.push {cls:=.type "dict_items",data:=.fields #[.ref a]}}:=I2.kept (t':=d.toks) λb o e=>Qc _ e;refine wpAny_pyIter_items (knd:=cz X.prog X.w) (kvs:=vs) (ep:=ep) ⟨_,Qd _ rfl,rfl,rfl⟩ ⟨o,es,Qc _ e,h2,hd,h4⟩ ?_;have D:a≠(d.heap.push {cls:=.type "dict_items",data:=.fields #[.ref a]}).objs.size:=by
  rw[ko];exact yU (fy (QA e))
 refine⟨_,[(d.heap.push {cls:=.type "dict_items",data:=.fields #[.ref a]}).objs.size],_,_,_,rfl,j.kept (t':=d.toks) λb o e=>Qc _ e,uN (kvs:=kvs) (a:=a) (o:=o) D ⟨es,hd⟩,⟨.none,.none,by rw[C];exact Qd _ rfl⟩,λb i=>?_,q⟩;have e:b=(d.heap.push {cls:=.type "dict_items",data:=.fields #[.ref a]}).objs.size:=by simpa using i
 subst e;exact j.wj (Qz _) (j.hok.fresh (Qz _))
end
end L2
namespace PySem
end PySem
namespace L2
open PySem PySem.Spec PyProof.Rows
theorem bj.inj{xs J:bY}(h:bj H a xs)(M:bj H a J):xs=J:=by
 rcases h with h|⟨o,h⟩<;>rcases M with M|⟨b,M⟩<;>(rw[h]at M;cases M)<;>rfl
theorem nO{xs J:aU}(h:xs.map V.str=J.map V.str):xs=J:=by
 induction xs generalizing J with
 |nil=>cases J with
  |nil=>rfl
  |cons y J=>simp at h
 |cons x xs ih=>cases J with
  |nil=>simp at h
  |cons y J=>
   simp only[yV,k6,V.str.injEq]at h;rw[h.1,ih h.2]
theorem uV(xs J:aU):((List.range (min xs.length J.length)).all (λj=>xs.getD j ""==J.getD j "")&&xs.length==J.length)=decide (xs=J):=by
 by_cases h:xs=J
 ·subst h;simp
 ·rw[Qx h,Bool.and_eq_false_iff];by_cases hl:xs.length=J.length
  ·left;rw[Bool.eq_false_iff];intro a;apply h;refine ga hl λi b c=>?_;have:=Qbc.mp a i (by simp;lia);simpa[Qb,Qa b,Qa c]using this
  ·right;simpa using hl
theorem xG(I:Inv X B Z H s){xs J:aU}(c:bj H a (xs.map V.str))(d:bj H b (J.map V.str))(o:A.units+2<cLine):SeqAt.EqAt A s (.ref a) (.ref b) (decide (xs=J)):=by
 by_cases mh:a=b
 ·subst mh;have e:xs=J:=nO (c.inj d);rw[Qw e];exact nq _
 ·obtain⟨i1,r1,p1,_⟩:=I.tuple (.inl c);obtain⟨i2,r2,p2,_⟩:=I.tuple (.inl d);have f:=r1.length;have g:=r2.length;rw[Ql]at f g;have:=pj (A:=A) (e:=λj=>xs.getD j ""==J.getD j "") p1 p2 (by lia) λj h g2=>by
   have k:j<xs.length:=by simp at h;lia
   have l:j<J.length:=by simp at g2;lia
   obtain⟨w1,e1,q1⟩:=r1.get (i:=j) (x:=.str xs[j]) (by simp[k]);obtain⟨w2,e2,q2⟩:=r2.get (i:=j) (x:=.str J[j]) (by simp[l]);have m:i1.toArray[j]=w1:=by rw[Qa (by simpa using h)]at e1;simpa using e1
   have n:i2.toArray[j]=w2:=by rw[Qa (by simpa using g2)]at e2;simpa using e2
   rw[m,n];obtain⟨t,rfl⟩:=q1;obtain⟨t',rfl⟩:=q2;have:=mD (A:=A.in1) (s:=s) xs[j] t J[j] t';simpa[Qb,Qa k,Qa l]using this
  have e:((List.range (min i1.toArray.size i2.toArray.size)).all (λj=>xs.getD j ""==J.getD j "")&&i1.toArray.size==i2.toArray.size)=decide (xs=J):=by
   rw[<- uV xs J];simp only[wV,<- f,<- g]
  rw[e]at this;exact ox mh this
theorem jO{a:Expr}{n:Str}{b:Pos}{t:TA}(c:SE X (.Attribute a n b) te)(d:SA X es t):SA X (.Attribute a n b::es) (ik te t):=⟨dQ c.h d.h⟩
theorem Ds{K:Q0}{b:Array Value}{c:Array cv}{xs:bY}(d:K.lookup a=some ⟨.type "tuple",none,.seq b n,c⟩)(e:bg xs b.toList)(f:xs.length<=sizeLine):Gr K (a,⟨.type "tuple",none,.seq b n,c⟩,xs):=
 ⟨d,b.toList,n,rfl,rfl,by simp,e,f⟩
theorem wJ{K:Q0}{as:cx}(x:K.In h):(without K as).In h:=λa o e=>by
 rw[dL]at e;by_cases hc:as.contains a=true
 ·rw[if_pos hc]at e;cases e
 ·rw[if_neg hc]at e;exact x a o e
end L2
set_option autoImplicit false
namespace L2
open PySem PySem.Spec PySem.W PyProof.Rows
def LC:Data->Bool
 | .freed=>false
 |_=>true
def Dq:Nat->List Obj->Frag
 |_,[]=>[]
 |n,o::os=>if LC o.data then(n,o)::Dq (n+1) os else Dq (n+1) os
def LD(h:Heap):Frag:=Dq 0 h.objs.toList
theorem gX:∀{os:List Obj}{n a:Nat}{o:Obj},(Dq n os).lookup a=some o->n<=a/\os[a-n]? =some o/\LC o.data=true
 | [],n,a,o,h=>by simp[Dq]at h
 |x::os,n,a,o,h=>by
  unfold Dq at h;have next:(Dq (n+1) os).lookup a=some o->n<=a/\(x::os)[a-n]? =some o/\LC o.data=true:=λh=>by
   obtain⟨Y,h2,h3⟩:=gX h;refine⟨by lia,?_,h3⟩;obtain⟨k,hk⟩:∃k,a-n=k+1:=⟨a-n-1,by lia⟩
   rw[hk,List.getElem?_cons_succ,<- h2];congr 1;lia
  split at h
  ·rename_i b
   rw[ge]at h;split at h
   ·rename_i e
    obtain rfl:a=n:=by simpa using e
    cases h;exact⟨Qz _,by simp,b⟩
   ·exact next h
  ·exact next h
theorem uR(h:Heap):(LD h).In h:=λa o e=>by
 obtain⟨_,h2,h3⟩:=gX e;have b:h.objs[a]? =some o:=by rw[<- md];simpa using h2
 unfold Heap.get?;rw[b];obtain⟨c,d,dt,sl⟩:=o;cases dt<;>first|rfl|cases h3
def Ai{α:Type}(look:Frag->α)(want:World->α):Hook where
 α:=α
 obs s:=look (LD s.heap)
 val:=want
 says w h:=∃K:Frag,K.In h/\look K=want w
 of:=λw s e=>⟨LD s.heap,uR _,e⟩
 keeps:=λw h M ⟨K,x,e⟩ k=>⟨K,λa o l=>k a o (x a o l),e⟩
theorem Et{p q:Program}{loose:aU}{Xt:Shared->Bool}{Yf:Shared->α}{Ya:World->α}{N:Nat}{b:Bool}(a:String)
  (c:∀w:World,(openEnds treeTable p (w.withFollow a false) N).map (λs=>(openSeen q loose (importedModules p.main.body) Xt b s,Yf s))=some (openGood q loose,Ya (w.withFollow a false)))
  (d:∀w:World,(openEnds treeTable p (w.withFollow a true) N).map (λs=>(openSeen q loose (importedModules p.main.body) Xt b s,Yf s))=some (openGood q loose,Ya (w.withFollow a true))):LeftO p q loose Xt Yf Ya N b:=λw=>by
 have e:=World.withFollow_self w a;cases hb:w.params.followText a<;>rw[hb]at e
 ·have:=c w;rw[e]at this;exact this
 ·have:=d w;rw[e]at this;exact this
abbrev Cj:=Str×Str×Arguments×FuncBody×Scope×Addr×List (Str×Addr)×Value×Addr×Bool
def gs(K:Frag)(q:Str):Option cv->Option Cj
 |some (some (.ref f))=>(match K.lookup f with
  |some ⟨_,_,.func fd,_⟩=>some (fd.name,fd.qualname,fd.params,fd.body,fd.scope,fd.globals,fd.closure,fd.defaults,fd.builtins,codeIn K fd.code q)
  |_=>none)
 |_=>none
def Ck(x q:Str)(st:Stmt):Cj:=(x,q,sf st,.stmts (l_ st),b_ st,mainGlobals,[],.none,builtinsNs,true)
def Cm(K:Frag):List (Str×Stmt)->List (Option Cj)
 | []=>[]
 |x::l=>gs K x.1 (nsIn K mainGlobals x.1)::Cm K l
def Cn:List (Str×Stmt)->List (Option Cj)
 | []=>[]
 |x::l=>some (Ck x.1 x.1 x.2)::Cn l
def IE(K:Frag)(x:Str):cp:=match nsIn K mainGlobals x with
 |some (some v)=>Bb v
 |_=>none
def IF(K:Frag):cw->List cp
 | []=>[]
 |x::l=>IE K x.1::IF K l
def IG:cw->List cp
 | []=>[]
 |x::l=>some x.2::IG l
abbrev EJ:=Value×Option Addr×List cp
def II:cq->List cp
 | []=>[]
 |v::l=>Bb v::II l
def IJ:bY->List cp
 | []=>[]
 |v::l=>some v::IJ l
def Gw(K:Frag):Value->Option EJ
 | .ref a=>(match K.lookup a with
  |some ⟨c,d,.seq it _,_⟩=>some (c,d,II it.toList)
  |_=>none)
 |_=>none
def Bs(xs:bY):EJ:=(.type "tuple",none,IJ xs)
def Gx(K:Frag)(x:Str):Option EJ:=match nsIn K mainGlobals x with
 |some (some v)=>Gw K v
 |_=>none
def Co(K:Frag):List (Str×bY)->List (Option EJ)
 | []=>[]
 |x::l=>Gx K x.1::Co K l
def Cp:List (Str×bY)->List (Option EJ)
 | []=>[]
 |x::l=>some (Bs x.2)::Cp l
def EK(K:Frag):aU->Bool
 | []=>true
 |x::l=>(match nsIn K mainGlobals x with|some none=>true|_=>false)&&EK K l
section
variable{K:Frag}
theorem i9{v:Value}{x:V}(e:Bb v=some x):RelV x v:=by
 cases v<;>first|(cases e;first|rfl|exact⟨_,rfl⟩)|cases e
theorem pG:∀{O:cq}{xs:bY},II O=IJ xs->bg xs O
 | [],[],_=>.nil
 | [],_::_,e=>by cases e
 |_::_,[],e=>by cases e
 |u::O,x::xs,e=>by
  have a:=fa (show Bb u::II O=some x::IJ xs from e);exact .cons (i9 a.1) (pG a.2)
theorem rQ{q:Str}{st:Stmt}{v:Option cv}(e:gs K q v=some (Ck x q st)):∃f fd,v=some (some (.ref f))/\Bj K x q st f fd:=by
 unfold gs at e;split at e
 ·rename_i f
  split at e
  ·rename_i c d fd g a
   have e:=QE e;unfold Ck at e;obtain⟨n,qn,ps,b,sc,gl,cl,df,kd,doc,pm,an,cd,ct,bt⟩:=fd;simp only[mr]at e;obtain⟨rfl,rfl,rfl,rfl,rfl,rfl,rfl,rfl,rfl,hc⟩:=e;refine⟨f,_,rfl,Yo a hc ?_⟩;unfold keepIn;simp only[a]
  ·cases e
 ·cases e
theorem xD:∀{l:List (Str×Stmt)},Cm K l=Cn l->∀(i:Nat){x:Str}{st:Stmt},l[i]? =some (x,st)->gs K x (nsIn K mainGlobals x)=some (Ck x x st)
 |y::l,e,0,x,st,h=>by cases h;exact(fa e).1
 |y::l,e,i+1,x,st,h=>xD (fa e).2 i (by simpa using h)
theorem rU(X:K.In h)(G:h.Ns mainGlobals mg){l:List (Str×Stmt)}(e:Cm K l=Cn l)(i:Nat){st:Stmt}(b:l[i]? =some (x,st))
  (c:∀(kV a d:Value)(g:Option Addr)(j ct:Value)(O:cq),O.length=ps.length->bindArgs (fnOf x x (sf st) (l_ st) (b_ st) .none kV a d g j ct) ⟨O,[]⟩=pure (ps.zip O)):gu K mg x st ps:=by
 obtain⟨f,fd,e1,F⟩:=rQ (xD e i b);exact⟨f,fd,F,mg_of X G e1,F.binds c⟩
variable{st:Stmt}{l:List (Str×Stmt)}{p0 p1 p2 p3 p4 p5 p6:Str}
theorem wq(h:O.length=n+1):∃a t,O=a::t/\t.length=n:=by
 cases O with
 |nil=>cases h
 |cons a t=>exact⟨a,t,rfl,by simpa using h⟩
theorem Dr(X:K.In h)(G:h.Ns mainGlobals mg)(e:Cm K l=Cn l)(i:Nat)(m:l[i]? =some (x,st):=by rfl)
  (o:∀(kV j p:Value)(q:Option Addr)(r ct k:Value),bindArgs (fnOf x x (sf st) (l_ st) (b_ st) .none kV j p q r ct) ⟨[k],[]⟩=pure [(p0,k)]:=by intros;rfl):gu K mg x st [p0]:=
 rU X G e i m λa b c d f g t s=>by
  obtain⟨k,EL,rfl,ig⟩:=wq (n:=0) s;obtain rfl:=QS ig;exact o ..
theorem su(X:K.In h)(G:h.Ns mainGlobals mg)(e:Cm K l=Cn l)(i:Nat)(o:l[i]? =some (x,st):=by rfl)
  (p:∀(kV j q:Value)(r:Option Addr)(s ct k m:Value),bindArgs (fnOf x x (sf st) (l_ st) (b_ st) .none kV j q r s ct) ⟨[k,m],[]⟩=pure [(p0,k),(p1,m)]:=by intros;rfl):gu K mg x st [p0,p1]:=
 rU X G e i o λa b c d f g u t=>by
  obtain⟨k,EL,rfl,ig⟩:=wq (n:=1) t;obtain⟨m,Gy,rfl,je⟩:=wq (n:=0) ig;obtain rfl:=QS je;exact p ..
theorem Q_(X:K.In h)(G:h.Ns mainGlobals mg)(e:Cm K l=Cn l)(i:Nat)(p:l[i]? =some (x,st):=by rfl)
  (q:∀(kV j r:Value)(s:Option Addr)(t ct k m o:Value),bindArgs (fnOf x x (sf st) (l_ st) (b_ st) .none kV j r s t ct) ⟨[k,m,o],[]⟩=pure [(p0,k),(p1,m),(p2,o)]:=by intros;rfl):gu K mg x st [p0,p1,p2]:=
 rU X G e i p λa b c d f g w u=>by
  obtain⟨k,EL,rfl,ig⟩:=wq (n:=2) u;obtain⟨m,Gy,rfl,je⟩:=wq (n:=1) ig;obtain⟨o,g_,rfl,Bg⟩:=wq (n:=0) je;obtain rfl:=QS Bg;exact q ..
theorem sg(X:K.In h)(G:h.Ns mainGlobals mg)(e:Cm K l=Cn l)(i:Nat)(q:l[i]? =some (x,st):=by rfl)
  (r:∀(kV j s:Value)(t:Option Addr)(u ct k m o p:Value),bindArgs (fnOf x x (sf st) (l_ st) (b_ st) .none kV j s t u ct) ⟨[k,m,o,p],[]⟩=pure [(p0,k),(p1,m),(p2,o),(p3,p)]:=by intros;rfl):gu K mg x st [p0,p1,p2,p3]:=
 rU X G e i q λa b c d f g y w=>by
  obtain⟨k,EL,rfl,ig⟩:=wq (n:=3) w;obtain⟨m,Gy,rfl,je⟩:=wq (n:=2) ig;obtain⟨o,g_,rfl,Bg⟩:=wq (n:=1) je;obtain⟨p,oq,rfl,hl3⟩:=wq (n:=0) Bg;obtain rfl:=QS hl3;exact r ..
theorem Ch(X:K.In h)(G:h.Ns mainGlobals mg){v:V}(e:IE K x=some v):∃u,mg x=some u/\RelV v u:=by
 unfold IE at e;split at e
 ·rename_i u a;exact⟨u,mg_of X G a,i9 e⟩
 ·cases e
theorem sZ:∀{l:cw},IF K l=IG l->∀(i:Nat){x:Str}{v:V},l[i]? =some (x,v)->IE K x=some v
 |y::l,e,0,x,st,h=>by cases h;exact(fa e).1
 |y::l,e,i+1,x,st,h=>sZ (fa e).2 i (by simpa using h)
theorem vl(X:K.In h)(G:h.Ns mainGlobals mg){l:cw}(e:IF K l=IG l)(i:Nat){v:V}(a:l[i]? =some (x,v):=by rfl):∃u,mg x=some u/\RelV v u:=Ch X G (sZ e i a)
theorem tP{v:Value}{xs:bY}(e:Gw K v=some (Bs xs)):∃(a:Addr)(b:Array Value)(n:Nat)(f:Array cv),v=.ref a/\K.lookup a=some ⟨.type "tuple",none,.seq b n,f⟩/\bg xs b.toList:=by
 unfold Gw at e;split at e
 ·rename_i a
  split at e
  ·rename_i c d b n g h
   have e:=QE e;unfold Bs at e;simp only[mr]at e;obtain⟨rfl,rfl,e3⟩:=e;exact⟨a,b,n,g,rfl,h,pG e3⟩
  ·cases e
 ·cases e
theorem jK{xs:bY}(e:Gx K x=some (Bs xs)):∃(a:Addr)(b:Array Value)(n:Nat)(c:Array cv),nsIn K mainGlobals x=some (some (.ref a))/\K.lookup a=some ⟨.type "tuple",none,.seq b n,c⟩/\bg xs b.toList:=by
 unfold Gx at e;split at e
 ·rename_i u d
  obtain⟨a,b,n,c,rfl,Y,h2⟩:=tP e;exact⟨a,b,n,c,d,Y,h2⟩
 ·cases e
theorem oJ:∀{l:List (Str×bY)},Co K l=Cp l->∀(i:Nat){x:Str}{v:bY},l[i]? =some (x,v)->Gx K x=some (Bs v)
 |y::l,e,0,x,st,h=>by cases h;exact(fa e).1
 |y::l,e,i+1,x,st,h=>oJ (fa e).2 i (by simpa using h)
theorem Ra{b:Array Value}{d:Option Addr}{c:Array cv}{xs:bY}(e:K.lookup a=some ⟨.type "tuple",d,.seq b n,c⟩)(hv:bg xs b.toList)(hz:xs.length<=sizeLine)(H:Hp):ak K H a xs:=
 .inr ⟨_,b,n,e,rfl,rfl,by have:=hv.length;simp at this;lia,hv⟩
theorem tu(X:K.In h)(G:h.Ns mainGlobals mg){l:List (Str×bY)}(e:Co K l=Cp l)(i:Nat){v:bY}(b:l[i]? =some (x,v):=by rfl)(hz:v.length<=sizeLine:=by decide):∃a,mg x=some (.ref a)/\∀H,ak K H a v:=by
 obtain⟨a,it,n,sq,Y,h2,h3⟩:=jK (oJ e i b);exact⟨a,mg_of X G Y,Ra h2 h3 hz⟩
theorem sK:∀{l:aU},EK K l=true->∀(i:Nat){x:Str},l[i]? =some x->nsIn K mainGlobals x=some none
 |y::l,e,0,x,h=>by
  cases h;unfold EK at e;rw[Qax]at e;have e:=e.1;split at e
  ·assumption
  ·cases e
 |y::l,e,i+1,x,h=>by
  unfold EK at e;rw[Qax]at e;exact sK e.2 i (by simpa using h)
theorem nn(X:K.In h)(G:h.Ns mainGlobals mg){l:aU}(e:EK K l=true)(i:Nat)(a:l[i]? =some x:=by rfl):mg x=none:=mg_none_of X G (sK e i a)
end
inductive EM where
 |v (x:cp)
 |t (x:Option EJ)
abbrev IK:=Value×Option Addr×Nat×Bool×List (Int×cp×EM)
def Gz(K:Frag)(v:Value):EM:=match v with
 | .ref _=>.t (Gw K v)
 |_=>.v (Bb v)
def GA(K:Frag):List DictEntry->List (Int×cp×EM)
 | []=>[]
 |e::l=>(e.hash,Bb e.key,Gz K e.val)::GA K l
def IL(K:Frag)(x:Str):Option IK:=match nsIn K mainGlobals x with
 |some (some (.ref a))=>(match K.lookup a with
  |some ⟨c,d,.dict es _,sl⟩=>some (c,d,sl.size,a==sysModules,GA K es.toList)
  |_=>none)
 |_=>none
abbrev wu:=Str×(V ⊕ bY)
def EN(w:World):List wu->List (Int×cp×EM)
 | []=>[]
 |(k,.inl v)::l=>(A9 w (.inr k),some (.str k),.v (some v))::EN w l
 |(k,.inr v)::l=>(A9 w (.inr k),some (.str k),.t (some (Bs v)))::EN w l
def IM(w:World)(l:List wu):IK:=(.type "dict",none,0,false,EN w l)
def LF(K:Frag):List (Str×List wu)->List (Option IK)
 | []=>[]
 |x::l=>IL K x.1::LF K l
def LG(w:World):List (Str×List wu)->List (Option IK)
 | []=>[]
 |x::l=>some (IM w x.2)::LG w l
def Cq(K:Frag):List wu->bY->Prop
 | [],[]=>True
 |(_,.inl v)::l,u::O=>u=v/\Cq K l O
 |(_,.inr xs)::l,u::O=>(∃a,u=.ref a/\∀H,ak K H a xs)/\Cq K l O
 |_,_=>False
def LH:List wu->bY->ca
 |e::l,u::O=>(.inr e.1,u)::LH l O
 |_,_=>[]
def GB:List wu->Bool
 | []=>true
 |(_,.inl _)::l=>GB l
 |(_,.inr xs)::l=>decide (xs.length<=1000)&&GB l
section
variable{K:Frag}
theorem kT:∀{l:List wu},GB l=true->∀e∈l,∀xs,e.2=.inr xs->xs.length<=sizeLine
 |(_,.inl _)::l,h,e,he,xs,hx=>by
  rcases Qp.mp he with rfl|he
  ·cases hx
  ·exact kT (l:=l) h e he xs hx
 |(_,.inr J)::l,h,e,he,xs,hx=>by
  unfold GB at h;rw[Qax,decide_eq_true_iff]at h;rcases Qp.mp he with rfl|he
  ·cases hx;exact jU h.1 (by decide)
  ·exact kT (l:=l) h.2 e he xs hx
theorem Rb{k:Str}{v:V}{l:List wu}{O:bY}(e:Cq K ((k,.inl v)::l) O):∃vs,O=v::vs/\Cq K l vs:=by
 cases O with
 |nil=>exact False.elim e
 |cons u vs=>obtain⟨rfl,r⟩:=(show u=v/\Cq K l vs from e);exact⟨vs,rfl,r⟩
theorem HF{O:bY}(e:Cq K [] O):O=[]:=by
 cases O with
 |nil=>rfl
 |cons u vs=>exact False.elim e
theorem qZ:∀{l:List wu}{es:List DictEntry},GA K es=EN w l->(∀e∈l,∀xs,e.2=.inr xs->xs.length<=sizeLine)->∃(O:bY)(vs:List (Key×Value)),Cq K l O/\(∀P,Pairs (cz P w) es vs)/\(∀P,∀e∈es,∃k,(cz P w).is k e.key=true/\e.hash=(cz P w).hash k)/\KV (LH l O) vs/\vs.map (·.1)=l.map (λe=>.inr e.1)
 | [],[],_,_=>⟨[],[],trivial,λ_=>.nil,(λ_ _ h=>nomatch h),.nil,rfl⟩
 | [],_::_,e,_=>by cases e
 |(_,.inl _)::_,[],e,_=>by cases e
 |(_,.inr _)::_,[],e,_=>by cases e
 |(k,.inl v)::l,d::es,e,hz=>by
  have b:=fa (show(d.hash,Bb d.key,Gz K d.val)::GA K es=(A9 w (.inr k),some (.str k),.v (some v))::EN w l from e);obtain⟨O,vs,Y,h2,h3,h4,h5⟩:=qZ b.2 λx g=>hz x (Qh _ g);have c:=b.1;simp only[mr]at c;obtain⟨q1,q2,q3⟩:=c;obtain⟨t,q2⟩:=i9 q2;have i:RelV v d.val:=by
   unfold Gz at q3;split at q3
   ·cases q3
   ·exact i9 (EM.v.inj q3)
  have f:∀P,(cz P w).is (.inr k) d.key=true:=λP=>by rw[q2];exact fN P w k t
  refine⟨v::O,(.inr k,d.val)::vs,⟨rfl,Y⟩,λP=>.cons (kv:=((Sum.inr k,d.val):Key×Value)) (f P) rfl (h2 P),λP y hy=>?_,.cons ⟨rfl,i⟩ h4,by simp[h5]⟩;rcases Qp.mp hy with rfl|hy
  ·exact⟨.inr k,f P,q1⟩
  ·exact h3 P y hy
 |(k,.inr xs)::l,d::es,e,hz=>by
  have b:=fa (show(d.hash,Bb d.key,Gz K d.val)::GA K es=(A9 w (.inr k),some (.str k),.t (some (Bs xs)))::EN w l from e);obtain⟨O,vs,Y,h2,h3,h4,h5⟩:=qZ b.2 λx g=>hz x (Qh _ g);have c:=b.1;simp only[mr]at c;obtain⟨q1,q2,q3⟩:=c;obtain⟨t,q2⟩:=i9 q2;have i:Gw K d.val=some (Bs xs):=by
   unfold Gz at q3;split at q3
   ·exact EM.t.inj q3
   ·cases q3
  obtain⟨a,it,n,sq,q5,q6,q7⟩:=tP i;have f:∀P,(cz P w).is (.inr k) d.key=true:=λP=>by rw[q2];exact fN P w k t
  refine⟨.ref a::O,(.inr k,d.val)::vs,⟨⟨a,rfl,Ra q6 q7 (hz _ (yS ..) xs rfl)⟩,Y⟩,λP=>.cons (kv:=((Sum.inr k,d.val):Key×Value)) (f P) rfl (h2 P),λP y hy=>?_,.cons ⟨rfl,by rw[q5];rfl⟩ h4,by simp[h5]⟩;rcases Qp.mp hy with rfl|hy
  ·exact⟨.inr k,f P,q1⟩
  ·exact h3 P y hy
theorem ti{l:List wu}(X:K.In h)(G:h.Ns mainGlobals mg)(e:IL K x=some (IM w l))(f:GB l=true)(g:(l.map (·.1)).Nodup):∃(a:Addr)(O:bY),mg x=some (.ref a)/\Cq K l O/\KD w K a (LH l O):=by
 have i:=kT f;unfold IL at e;split at e
 ·rename_i a j
  split at e
  ·rename_i c d k m p n
   have e:=QE e;unfold IM at e;simp only[mr]at e;obtain⟨rfl,rfl,e3,e4,e5⟩:=e;obtain⟨O,vs,Y,h2,h3,h4,h5⟩:=qZ e5 i;refine⟨a,O,mg_of X G j,Y,λP=>⟨_,k,m,vs,n,e4,⟨rfl,rfl,Array.eq_empty_of_size_eq_zero e3⟩,rfl,λy o=>h3 P y (by simpa using o),h2 P,?_,h4⟩⟩;rw[h5];have:l.map (λe=>(Sum.inr e.1:Key))=(l.map (·.1)).map Sum.inr:=by simp
   rw[this];exact List.Pairwise.map _ (λa b q c=>q (eh c)) g
  ·cases e
 ·cases e
theorem sQ:∀{l:List (Str×List wu)},LF K l=LG w l->∀(i:Nat){x:Str}{v:List wu},l[i]? =some (x,v)->IL K x=some (IM w v)
 |y::l,e,0,x,st,h=>by cases h;exact(fa e).1
 |y::l,e,i+1,x,st,h=>sQ (fa e).2 i (by simpa using h)
end
abbrev Rc:aU:=["type","isinstance","issubclass","getattr","hasattr"]
theorem Iy{l:OpenLaw}{p:Program}(c:l.prog=p)
 (d:sreFenced p.main=true) (e:((moduleNames p.main.body).isEmpty||lookedIntoSs (moduleNames p.main.body) p.main.body)=true)
 (f:namesResolve p=true) (g:p.boundNames.all (λn=> !worldNames.contains n)=true)
 (h:noRoadLSs {strict:= !(importedModules p.main.body).all cThrough.contains,foot:=none,bare:=(["vars","dir","locals"]:aU).filter (readsOut p p.main.body)} p.main.body=true)
 (i:(namesMeet p p.main.body λ_ n=>attrL n)=true)
 (j:l.row.toRowW.solid=true) (a:l.row.pre.litsOk=true)
 (k:p.boundNames.contains l.name=true) (m:(!startupNames.contains l.name)=true)
 (o:decide (l.foot<=(behindTheImports p).length)=true)
 (r:l.footing.all footLine=true) (s:noClassBlock p l.footing=true)
 (t:l.most.all (λn=>decide (63<=n))=true) (u:l.bound.all (λn=>decide (2^63<=n))=true)
 (w:noRoadLSs {strict:=true,foot:=some l.bound',writes:=l.writes,may:=l.may} l.footing=true)
 (x:defStands l.about l.above=true) (y:l.namesIt=true) (z:Rc.all (λn=>l.about !=[n])=true)
 (A:l.bound'.all (λn=> !builtinNamed n||l.about==[n]|| !l.reads n)=true)
 (C:(!l.writes||(p.main.body.flatMap importedNames).all λn=> !l.reads n)=true)
 (D:(p.main.body.flatMap importedNames).all (λn=> !l.reads n||(drawsOf n p.main.body).all λb=>b.2 !=("attrgetter":Str)&&b.2 !=("methodcaller":Str))=true)
 (E:namesMeet p l.footing (λsc n=>(!Rc.contains n||sc.names.lookup n==some .globalImplicit)&&(l.may !=some n||sc.kind==.module||sc.names.lookup n==some .globalImplicit))=true)
 (G:l.own.contains l.name=true) (H:(l.own.eraseDups.length==l.own.length)=true) (I:l.own.all (λn=> !builtinNamed n)=true)
 (K:namesMeet p l.above (λ_ n=> !l.own.contains n)=true) (L:(namesMeet p l.footing λsc n=>sc.kind==.module||sc.names.lookup n !=some .globalExplicit)=true):l.wellSaid=true:=by
 subst c;have q:l.row.wellSaid=true:=by
  unfold OpenRow.wellSaid OpenRow.partSaid looksOpen;exact look_both (look_both (look_both (look_both (look_both (look_both (look_both (look_both (look_both (look_both (look_both (look_both (look_both (look_both (look_both (look_both (look_both (look_both (look_both (look_both d e) f) g) h) i) rfl) rfl) rfl) rfl) rfl) rfl) j) a) rfl) rfl) rfl) rfl) rfl) k) m
 unfold OpenLaw.wellSaid;rw[q,o,r,s,t,u,w,x,y,z,A,C,D,E,G,H,I,K,L];rfl
theorem FR {l:OpenLaw} {k:Nat} {q:Program} {loose:aU} {d:DefRec} {look:Frag->α} {want:World->α}
  (D:l.most=some n) (j:n<=sizeLine) (E:d.params.defaults=[]) (I:f_ k callerA)
  (F:∀ (w:World) (c:Str->cv) (e:Addr) (h:Heap) (K:Frag),K.In h->look K=want w->h.Ns mainGlobals c->c d.name=some (.ref e)->
   ∃ (ts:List (Addr×Obj×bY)) (m:FuncData) (p:Sp),(∀ t∈ts,Gr K t)/\(ts.map (·.1)).Nodup/\(∀ (s:Shared) (u:Value),BindsTo s m ⟨[u],[]⟩ [(x,u)])/\
    (∀ base:Heap,(without K (ts.map (·.1))).In base->base.Ns mainGlobals c->se l.prog w (without K (ts.map (·.1))) c base Aa k e m [x] p)/\
    (∀ (H:Hp) (a:Addr) (i:List Int),i.length<=n->(∀ t∈ts,H t.1=some (.af t.2.1 (.tup t.2.2)))->ai (without K (ts.map (·.1))) H a (i.map V.int)->p [.ref a] H (λv _=>v=.bl true) λ_ _ _=>False)):
  WalkO q loose XP (Ai look want).says l.row.toRowW d [] (λf vs=>PySem.call f vs):=by
 refine Po.tX D E λw r y c mb e o pm cd L a vs i G Y ho hd ve N P Q A R=>?_
 obtain ⟨K,C,hl⟩:=Y
 obtain ⟨ts,m,p,Ah,nd,hb,hF,B7⟩:=F w c e _ K C hl G.T.g N
 exact Bf Ah nd C G.T.g G.T.b G.T.builtins G.T.nolimit R P Q (jU A j) I hF hb (λH _ ht hS=>B7 H a i A ht hS) λ_ _ _ z=>z
def yz(K:Frag):List (Str×bY)->cx
 | []=>[]
 |x::l=>(match nsIn K mainGlobals x.1 with|some (some (.ref a))=>a|_=>0)::yz K l
def LI:List (Str×bY)->Bool
 | []=>true
 |x::l=>decide (x.2.length<=1000)&&LI l
section
variable{K:Frag}
theorem Rf(X:K.In h)(G:h.Ns mainGlobals mg):∀{l:List (Str×bY)},Co K l=Cp l->LI l=true->∃ts:List (Addr×Obj×bY),ts.map (·.1)=yz K l/\(∀t∈ts,Gr K t)/\∀(i:Nat)(x:Str)(xs:bY),l[i]? =some (x,xs)->∃t∈ts,t.1=cr mg x/\t.2.2=xs
 | [],_,_=>⟨[],rfl,(λt ht=>nomatch ht),λi x xs e=>by simp at e⟩
 |y::l,e,hs=>by
  have b:=fa (show Gx K y.1::Co K l=some (Bs y.2)::Cp l from e);unfold LI at hs;rw[Qax,decide_eq_true_iff]at hs;obtain⟨ts,Y,h2,h3⟩:=Rf X G b.2 hs.2;obtain⟨a,it,n,sq,g1,g2,g3⟩:=jK b.1;have d:=mg_of X G g1;refine⟨(a,⟨.type "tuple",none,.seq it n,sq⟩,y.2)::ts,?_,λt ht=>?_,λi x xs c=>?_⟩
  ·unfold yz;rw[g1,yV,Y]
  ·rcases Qp.mp ht with rfl|ht
   ·exact Ds g2 g3 (jU hs.1 (by decide))
   ·exact h2 t ht
  ·cases i with
   |zero=>
    cases c;refine⟨_,yS ..,?_,rfl⟩;show a=cr mg _;unfold cr;rw[d]
   |succ i=>
    obtain⟨t,ht,r⟩:=h3 i x xs (by simpa using c);exact⟨t,Qh _ ht,r⟩
theorem Rg{ts:List (Addr×Obj×bY)}{xs:bY}(h:∃t∈ts,t.1=cr mg x/\t.2.2=xs)(a:∀t∈ts,H t.1=some (.af t.2.1 (.tup t.2.2))):Kn mg H x xs:=by
 obtain⟨t,ht,e1,e2⟩:=h;exact⟨t.2.1,by rw[<- e1,<- e2];exact a t ht⟩
theorem xT(X:K.In h)(G:h.Ns mainGlobals mg){l:List (Str×bY)}(e:Co K l=Cp l)(i:Nat){xs:bY}(b:l[i]? =some (x,xs):=by rfl):∃u,mg x=some u/\RelV (.ref (cr mg x)) u:=by
 obtain⟨a,it,n,sq,Y,h2,h3⟩:=jK (oJ e i b);exact⟨.ref a,mg_of X G Y,IO (mg_of X G Y)⟩
end
structure Bt where
 x:Str
 q:Str
 st:Stmt
 fs:aU
abbrev LJ:=Option Cj×Option cv×Bool
def IP(K:Frag)(C:Addr):aU->Bool
 | []=>true
 |f::l=>(match findIn K (.ref C) f with|some none=>true|_=>false)&&IP K C l
def hY(K:Frag)(c:Bt)(C:Addr):LJ:=(gs K c.q (findIn K (.ref C) "__init__"),findIn K (.ref C) "__setattr__",
 plainGet K C Str.empty&&(hasDictIn K C&&(plainOver K C&&(makesIn K C&&(keepIn K (.ref C)&&((match findIn K (.ref C) "__init__" with|some (some v)=>isFn K v|_=>false)&&IP K C c.fs))))))
def EO(K:Frag):List Bt->List (Option LJ)
 | []=>[]
 |c::l=>(match nsIn K mainGlobals c.x with|some (some (.ref C))=>some (hY K c C)|_=>none)::EO K l
def EQ:List Bt->List (Option LJ)
 | []=>[]
 |c::l=>some (some (Ck "__init__" c.q c.st),some (some (.builtin "object.__setattr__")),true)::EQ l
section
variable{K:Frag}
theorem lP:∀{C:Addr}{l:aU},IP K C l=true->∀f∈l,AJ K C f
 |C,f::l,e,g,hg=>by
  unfold IP at e;rw[Qax]at e;rcases Qp.mp hg with rfl|hg
  ·have a:=e.1;split at a
   ·assumption
   ·cases a
  ·exact lP e.2 g hg
theorem xO:∀{l:List Bt},EO K l=EQ l->∀(i:Nat){c:Bt},l[i]? =some c->∃C,nsIn K mainGlobals c.x=some (some (.ref C))/\hY K c C=(some (Ck "__init__" c.q c.st),some (some (.builtin "object.__setattr__")),true)
 |y::l,e,0,c,h=>by
  cases h;have a:=(fa e).1;split at a
  ·rename_i C b
   exact⟨C,b,QE a⟩
  ·cases a
 |y::l,e,i+1,c,h=>xO (fa e).2 i (by simpa using h)
theorem Rh(X:K.In h)(G:h.Ns mainGlobals mg){l:List Bt}(e:EO K l=EQ l)(i:Nat){q:Str}{st:Stmt}{b:aU}(d:l[i]? =some ⟨x,q,st,b⟩)
  (g:∀(kV a j:Value)(k:Option Addr)(m ct:Value)(O:cq),O.length=ps.length->bindArgs (fnOf "__init__" q (sf st) (l_ st) (b_ st) .none kV a j k m ct) ⟨O,[]⟩=pure (ps.zip O)):Dm K mg x q st ps b (cr mg x):=by
 obtain⟨C,hn,hc⟩:=xO e i d;have c:=mg_of X G hn;have n:cr mg x=C:=by unfold cr;rw[c]
 unfold hY at hc;simp only[mr,Qax]at hc;obtain⟨c1,c2,c3,c4,c5,c6,c7,c8,c9⟩:=hc;obtain⟨f,fd,e1,F⟩:=rQ c1;rw[e1]at c8;rw[n];exact⟨c,⟨c3,c4,c5,c2⟩,lP c9,f,fd,⟨c6,e1,c8,c7⟩,F,F.binds g⟩
theorem vi(X:K.In h)(G:h.Ns mainGlobals mg){l:List Bt}(e:EO K l=EQ l)(i:Nat){q n o:Str}{st:Stmt}{p:aU}(r:l[i]? =some ⟨x,q,st,p⟩:=by rfl)
  (s:∀(kV j t:Value)(u:Option Addr)(w ct k m:Value),bindArgs (fnOf "__init__" q (sf st) (l_ st) (b_ st) .none kV j t u w ct) ⟨[k,m],[]⟩=pure [(n,k),(o,m)]:=by intros;rfl):Dm K mg x q st [n,o] p (cr mg x):=
 Rh X G e i r λa b c d f g y z=>by
  match y,z with
  | [k,m],_=>exact s ..
end
end L2
namespace L2
end L2
namespace L2
open PySem PySem.SetTable
def IQ(mask:Nat)(p:Probe):Probe:=if p.more > 0 then{p with j:=p.j+1,more:=p.more-1}else{p with j:=(leap mask p.i p.perturb).1,more:=runEnd mask (leap mask p.i p.perturb).1-(leap mask p.i p.perturb).1,i:=(leap mask p.i p.perturb).1,perturb:=(leap mask p.i p.perturb).2}
def FC(mask:Nat)(q:Nat×Nat):Probe:={j:=q.1,more:=runEnd mask q.1-q.1,i:=q.1,perturb:=q.2,dummy:=none}
def st(mask:Nat)(h:Int):Nat->Probe
 |0=>FC mask (bits h % (mask+1),bits h)
 |n+1=>IQ mask (st mask h n)
section
variable{mask:Nat}{h:Int}
theorem pN(i:Nat):runEnd mask i-i<=9/\(i<=mask->i+(runEnd mask i-i)<=mask):=by
 unfold runEnd;split<;>lia
theorem Ri:∀n,(st mask h n).j+(st mask h n).more<=mask
 |0=>(pN _).2 (Nat.le_of_lt_succ (Nat.mod_lt _ (Nat.succ_pos _)))
 |n+1=>by
  have ih:=Ri n;show(IQ mask (st mask h n)).j+(IQ mask (st mask h n)).more<=mask;unfold IQ;split
  ·simp only;lia
  ·exact(pN _).2 (Nat.le_of_lt_succ (Nat.mod_lt _ (Nat.succ_pos _)))
end
theorem lL:∀{l m:cm},l.Nodup->(∀x∈l,x∈m)->l.length<=m.length
 | [],m,_,_=>dm _
 |a::l,m,nd,hs=>by
  obtain⟨Y,h2⟩:=uY.mp nd;have b:=hs a (yS ..);have:l.length<=(m.erase a).length:=lL h2 λx c=>(List.mem_erase_of_ne (show x≠a from λe=>Y (by rw[<- e];exact c))).mpr (hs x (Qh _ c));rw[List.length_erase_of_mem b]at this;have:=List.length_pos_of_mem b;simp only[dV];lia
def Ow(owner:Array (Option Nat))(j:Nat):Prop:=(owner.getD j (some 0)).isNone=false
structure Rj(mask:Nat)(owner:Array (Option Nat))(hs:List Int):Prop where
 sz:owner.size=mask+1
 lt:∀j k:Nat,owner[j]? =some (some k)->k<hs.length
 inj:∀j j' k:Nat,owner[j]? =some (some k)->owner[j']? =some (some k)->j=j'
 reach:∀k(h:k<hs.length),∃n,owner[(st mask hs[k] n).j]? =some (some k)/\∀m,m<n->Ow owner (st mask hs[k] m).j
def ER(mask:Nat)(owner:Array (Option Nat)):List (Nat×Nat):=(List.range (mask+1)).filterMap λj=>(owner.getD j none).map (j,·)
section
variable{mask:Nat}{owner:Array (Option Nat)}{hs:List Int}
theorem jQ(hz:owner.size=mask+1){p:Nat×Nat}:p∈ER mask owner↔p.1<=mask/\owner[p.1]? =some (some p.2):=by
 unfold ER;rw[List.mem_filterMap];constructor
 ·rintro⟨j,hj,e⟩;have b:j<owner.size:=by have:=Qag.mp hj;lia
  have a:owner.getD j none=owner[j]:=by simp[Array.getD,b]
  rw[a]at e;cases hx:owner[j]with
  |none=>rw[hx]at e;cases e
  |some k=>
   rw[hx]at e;cases e;exact⟨by show j<=mask;lia,by show owner[j]? =_;rw[Array.getElem?_eq_getElem b,hx]⟩
 ·rintro⟨Y,h2⟩;obtain⟨h3,h4⟩:=Array.getElem?_eq_some_iff.mp h2;refine⟨p.1,Qag.mpr (by lia),?_⟩;have a:owner.getD p.1 none=owner[p.1]:=by simp[Array.getD,h3]
  rw[a,h4];rfl
theorem Rk{f:Nat->Option Nat}:∀l:cm,l.Pairwise (· < ·)->((l.filterMap λj=>(f j).map (j,·)).map (·.1)).Pairwise (· < ·)/\∀x∈(l.filterMap λj=>(f j).map (j,·)).map (·.1),x∈l
 | [],_=>⟨.nil,λ_ h=>nomatch h⟩
 |a::l,h=>by
  obtain⟨Y,h2⟩:=Qbj.mp h;obtain⟨i1,i2⟩:=Rk (f:=f) l h2;cases e:f a with
  |none=>
   simp only[nz,e,Option.map_none];exact⟨i1,λx hx=>Qh _ (i2 x hx)⟩
  |some k=>
   simp only[nz,e,ln,yV];refine⟨Qbj.mpr ⟨λx hx=>Y x (i2 x hx),i1⟩,λx hx=>?_⟩;rcases Qp.mp hx with rfl|hx
   ·exact yS ..
   ·exact Qh _ (i2 x hx)
theorem HI:((ER mask owner).map (·.1)).Pairwise (· < ·):=(Rk (f:=λj=>owner.getD j none) _ List.pairwise_lt_range).1
theorem Rj.len(I:Rj mask owner hs):(ER mask owner).length=hs.length:=by
 have g:((ER mask owner).map (·.2)).Nodup:=by
  have f:=HI (mask:=mask) (owner:=owner);rw[uT]at f;refine uT.mpr (f.imp_of_mem fun{a b}i k s e=>?_);have:=I.inj a.1 b.1 a.2 ((jQ I.sz).mp i).2 (by rw[e];exact((jQ I.sz).mp k).2)
  lia
 have o:=lL g (m:=List.range hs.length) λx c=>by
  obtain⟨p,hp,rfl⟩:=Z2.mp c;exact Qag.mpr (I.lt _ _ ((jQ I.sz).mp hp).2)
 have q:=lL (l:=List.range hs.length) (m:=(ER mask owner).map (·.2)) List.nodup_range λx c=>by
  have d:=Qag.mp c;obtain⟨n,e1,_⟩:=I.reach x d;have r:(st mask hs[x] n).j<=mask:=by have:=Ri (mask:=mask) (h:=hs[x]) n;lia
  exact Z2.mpr ⟨((st mask hs[x] n).j,x),(jQ I.sz).mpr ⟨r,e1⟩,rfl⟩
 simp at o q
 lia
end
end L2
namespace L2
open PySem PySem.Spec PyProof.Rows
theorem LK {J:It} {ok:Hp->Prop} {f:Nat->V} {r s:TE} {j:St} {D:Addr} {Q:Hp->Prop} (w:AR J ok n f) (h:Nat->St->Hp->Prop) (h0:h 0 j H0)
  (hok:∀ i c H,i<=n->h i c H->ok H)
  (hs:∀ i c H,i < n->h i c H->g (f i) c H λa H2=>tc a H2 λb k=>if b=true then r a k λx q=>s a q λy l=>∃ kvs d,x=kV d/\l D=some (.dK kvs)/\kvs.length < sizeLine/\h (i+1) a (upd l D (.dK (ci kvs d y))) else h (i+1) a k)
  (z:∀ c H,h n c H->Q H):∃ W:Nat->Nat->St->Hp->Prop,(∃ m,W 0 m j H0)/\∀ i m c H,W i m c H->
   (J.stop i H/\Q H)\/(J.go i H/\∃ N:St->Hp->Prop,(∀ o U,N o U->∃ t,t < m/\W (i+1) t o U)/\∀ x U,J.qx i H x U->g x c U λa H2=>tc a H2 λb k=>
    if b=true then r a k λx q=>s a q λy l=>∃ kvs d,x=kV d/\l D=some (.dK kvs)/\kvs.length < sizeLine/\N a (upd l D (.dK (ci kvs d y))) else N a k):=by
 refine ⟨λi m c H=>m=n - i/\i<=n/\h i c H,⟨n,by simp,dm _,h0⟩,?_⟩
 rintro i m c H ⟨rfl,A,p⟩
 obtain ⟨u,C⟩:=w H (hok i c H A p)
 by_cases av:i < n
 ·refine .inr ⟨(u i av).1,h (i+1),λE U G=>⟨n - (i+1),by lia,rfl,av,G⟩,λx U y=>?_⟩
  obtain ⟨e,I⟩:=(u i av).2 x U y
  subst e I
  exact hs i c _ av p
 ·have e:i=n:=by lia
  subst e
  exact .inl ⟨C,z c H p⟩
theorem rN {K:Q0} {J:It} {ok:Hp->Prop} {j k:Nat->V} {a b:Nat} {u w:TE} {l:St} {D:Addr} {Q:Hp->Prop} (C:ED J ok n j k) (h:Nat->St->Hp->Prop) (h0:h 0 l H0)
  (hok:∀ i d H,i<=n->h i d H->ok H)
  (hs:∀ i d H T,i < n->h i d H->H T=none->tc ((d.set a (some (j i))).set b (some (k i))) (upd H T (.tup [j i,k i])) λc o=>if c=true then u ((d.set a (some (j i))).set b (some (k i))) o λx t=>w ((d.set a (some (j i))).set b (some (k i))) t λy q=>
   ∃ kvs f,x=kV f/\q D=some (.dK kvs)/\kvs.length < sizeLine/\h (i+1) ((d.set a (some (j i))).set b (some (k i))) (upd q D (.dK (ci kvs f y))) else h (i+1) ((d.set a (some (j i))).set b (some (k i))) o)
  (E:∀ d H,h n d H->Q H):∃ W:Nat->Nat->St->Hp->Prop,(∃ m,W 0 m l H0)/\∀ i m d H,W i m d H->
   (J.stop i H/\Q H)\/(J.go i H/\∃ N:St->Hp->Prop,(∀ r U,N r U->∃ z,z < m/\W (i+1) z r U)/\∀ x U,J.qx i H x U->g2 K a b x d U λg H2=>tc g H2 λb o=>
    if b=true then u g o λx t=>w g t λy q=>∃ kvs f,x=kV f/\q D=some (.dK kvs)/\kvs.length < sizeLine/\N g (upd q D (.dK (ci kvs f y))) else N g o):=by
 refine ⟨λi m s H=>m=n - i/\i<=n/\h i s H,⟨n,by simp,dm _,h0⟩,?_⟩
 rintro i m s H ⟨rfl,G,p⟩
 obtain ⟨A,I⟩:=C H (hok i s H G p)
 by_cases av:i < n
 ·refine .inr ⟨(A i av).1,h (i+1),λL U P=>⟨n - (i+1),by lia,rfl,av,P⟩,λx U y=>?_⟩
  obtain ⟨T,rfl,R,rfl⟩:=(A i av).2 x U y
  exact fI aA (hs i s _ T av p R)
 ·have e:i=n:=by lia
  subst e
  exact .inl ⟨I,E s H p⟩
theorem sk {K:Q0} {J:It} {ok:Hp->Prop} {j k:Nat->V} {a b:Nat} {u w:TE} {o:St} {D:Addr} {Q:Hp->Prop} (E:ED J ok n j k) (h:Nat->St->Hp->Prop) (h0:h 0 o H0)
  (hok:∀ i d H,i<=n->h i d H->ok H)
  (hs:∀ i d H T,i < n->h i d H->H T=none->tc ((d.set a (some (j i))).set b (some (k i))) (upd H T (.tup [j i,k i])) λc q=>if c=true then u ((d.set a (some (j i))).set b (some (k i))) q λx t=>w ((d.set a (some (j i))).set b (some (k i))) t λy l=>
   ∃ kvs f z,x=.ref z/\bj l z (f.map kV)/\l D=some (.dT kvs)/\kvs.length < sizeLine/\h (i+1) ((d.set a (some (j i))).set b (some (k i))) (upd l D (.dT (ci kvs f y))) else h (i+1) ((d.set a (some (j i))).set b (some (k i))) q)
  (G:∀ d H,h n d H->Q H):∃ W:Nat->Nat->St->Hp->Prop,(∃ m,W 0 m o H0)/\∀ i m d H,W i m d H->
   (J.stop i H/\Q H)\/(J.go i H/\∃ N:St->Hp->Prop,(∀ r U,N r U->∃ A,A < m/\W (i+1) A r U)/\∀ x U,J.qx i H x U->g2 K a b x d U λg H2=>tc g H2 λb q=>
    if b=true then u g q λx t=>w g t λy l=>∃ kvs f b,x=.ref b/\bj l b (f.map kV)/\l D=some (.dT kvs)/\kvs.length < sizeLine/\N g (upd l D (.dT (ci kvs f y))) else N g q):=by
 refine ⟨λi m s H=>m=n - i/\i<=n/\h i s H,⟨n,by simp,dm _,h0⟩,?_⟩
 rintro i m s H ⟨rfl,I,p⟩
 obtain ⟨C,L⟩:=E H (hok i s H I p)
 by_cases av:i < n
 ·refine .inr ⟨(C i av).1,h (i+1),λP U R=>⟨n - (i+1),by lia,rfl,av,R⟩,λx U y=>?_⟩
  obtain ⟨T,rfl,hT,rfl⟩:=(C i av).2 x U y
  exact fI aA (hs i s _ T av p hT)
 ·have e:i=n:=by lia
  subst e
  exact .inl ⟨L,G s H p⟩
theorem xB [DecidableEq κ]{kvs:List (κ×V)}(a:(kvs.map (·.1)).Nodup)(h:i<kvs.length):ci (kvs.take i) kvs[i].1 kvs[i].2=kvs.take (i+1):=by
 rw[L2.cA _ (by
  cases e:a_ (kvs.take i) kvs[i].1 with
  |none=>rfl
  |some v=>
   have:=gH e;obtain⟨p,hp,q⟩:=Z2.mp this;obtain⟨j,hj,rfl⟩:=Qi hp;have b:j<i:=by simp at hj;lia
   rw[io]at q;have:=uW.mp a j i (by simp;lia) (by simpa using h) b;simp only[Qr]at this;exact absurd q this),Qs,Qa h]
 rfl
theorem gP [DecidableEq κ]{kvs:List (κ×V)}(a:(kvs.map (·.1)).Nodup){k:κ}{v:V}(h:(k,v)∈kvs):a_ kvs k=some v:=by
 induction kvs with
 |nil=>cases h
 |cons p r ih=>
  rw[yV,uY]at a;rcases Qp.mp h with e|h
  ·rw[<- e,cH rfl]
  ·have b:¬p.1=k:=λe=>a.1 (Z2.mpr ⟨_,h,e.symm⟩);rw[cK b];exact ih a.2 h
theorem bj.put{D:Addr}{J:bY}{o u:HO}(r:bj H b J)(a:H D=some o)(c:∀xs,o≠.tup xs)(d:∀q xs,o≠.af q (.tup xs)):bj (L2.upd H D u) b J:=r.upd λv hv z=>by
 subst z;rcases r with r|⟨q,r⟩
 ·rw[a]at r;cases r;exact c _ rfl
 ·rw[a]at r;cases r;exact d _ _ rfl
def j_(F:List aj):ca:=F.map λr=>(.inr r.1,.str (b7 F r.1))
def vo:Hd->aU
 | .as y=>[y]
 | .way x y=>[x,y]
 | .prs _ ps=>ps.map (·.2)
 |_=>[]
def qi(F:List aj)(h:Hd):de:=h.bh.map λm=>(m.1.map (Sum.inr:Str->Key),.str (b7 F m.2))
theorem sE{xs J:aU}(h:xs.map (Sum.inr:Str->Key)=J.map Sum.inr):xs=J:=by
 induction xs generalizing J with
 |nil=>cases J with
  |nil=>rfl
  |cons y J=>simp at h
 |cons x xs ih=>cases J with
  |nil=>simp at h
  |cons y J=>
   simp only[yV,k6,Sum.inr.injEq]at h;rw[h.1,ih h.2]
theorem qP{F:List aj}{h:Hd}(a:(h.bh.map (·.1)).Nodup):((qi F h).map (·.1)).Nodup:=by
 have e:(qi F h).map (·.1)=(h.bh.map (·.1)).map λm=>m.map (Sum.inr:Str->Key):=by simp[qi,Qn,QC]
 rw[e];exact uT.mpr (a.imp λh e=>h (sE e))
theorem Iw{h:Hd}(i:Nat)(a:i<h.bh.length):(vo h)[i]? =some h.bh[i].2:=by
 cases h with
 |one s=>cases a
 |as y=>cases a
 |way x y=>
  match i,a with
  |0,_=>rfl
  |1,_=>rfl
 |prs s ps=>
  have b:i<ps.length:=by simpa[Hd.bh]using a
  simp[vo,Hd.bh,Qa b]
theorem Ki{h:Hd}:h.bh.length<=(vo h).length:=by
 cases h<;>simp[vo,Hd.bh]
theorem rP{h:Hd}(ok:h.ok ns):h.bh.length<=10:=by
 cases h with
 |one s=>simp[Hd.bh]
 |as y=>simp[Hd.bh]
 |way x y=>simp[Hd.bh]
 |prs s ps=>simpa[Hd.bh]using ok.2.2.2
theorem lD:∀{ws:aU},rising ws=true->ws.Pairwise (λa b=>vj a b=true)
 | [],_=>.nil
 | [_],_=>List.pairwise_singleton _ _
 |a::b::r,h=>by
  have d:vj a b=true/\rising (b::r)=true:=by simpa[rising]using h
  have ih:=lD d.2;refine Qbj.mpr ⟨λc hc=>?_,ih⟩;rcases Qp.mp hc with rfl|hc
  ·exact d.1
  ·exact sL d.1 ((Qbj.mp ih).1 c hc)
theorem rG(h:rising ws=true):ws.Nodup:=(lD h).imp fun{x y}h e=>by rw[e,qX]at h;cases h
theorem wP{h:Hd}(ok:h.ok ns):(h.bh.map (·.1)).Nodup:=by
 cases h with
 |one s=>exact ij
 |as y=>exact ij
 |way x y=>exact(by decide+kernel:(([["from"],["to"]]:List aU)).Nodup)
 |prs s ps=>
  have a:=rG ok.2.2.1;have e:(Hd.prs s ps).bh.map (·.1)=(ps.map (·.1)).map λw=>([if s="box" then"part" else"case",w]:aU):=by simp[Hd.bh,Qn,QC]
  rw[e];exact uT.mpr (a.imp λh e=>h (by simpa using e))
theorem qE{F:List aj}(a:(F.map (·.1)).Nodup)(b:x∈F.map (·.1)):a_ (j_ F) (.inr x)=some (.str (b7 F x)):=by
 obtain⟨r,hr,rfl⟩:=Z2.mp b;refine gP ?_ (Z2.mpr ⟨r,hr,rfl⟩);have e:(j_ F).map (·.1)=(F.map (·.1)).map (Sum.inr:Str->Key):=by simp[j_,Qn,QC]
 rw[e];exact uT.mpr (a.imp λh e=>h (eh e))
theorem IR(m:aU):(m.map (Sum.inr:Str->Key)).map kV=m.map V.str:=by simp[Qn,QC,kV]
def bx(F:List aj):List aj:=F.filter λr=>r.2.nx.isNone
structure DV(R:Hp->V->aj->Prop)(H:Hp)(kvs:ca)(rs:List aj):Prop where
 len:kvs.length=rs.length
 at_:∀i(h:i<kvs.length)(M:i<rs.length),kvs[i].1=.inr rs[i].1/\R H kvs[i].2 rs[i]
theorem DV.keep{R:Hp->V->aj->Prop}{kvs:ca}(h:DV R H kvs rs)(s:∀v r,R H v r->R U v r):DV R U kvs rs:=⟨h.len,λi a b=>⟨(h.at_ i a b).1,s _ _ (h.at_ i a b).2⟩⟩
theorem DV.nil{R:Hp->V->aj->Prop}:DV R H [] []:=⟨rfl,λi h=>absurd h (by simp)⟩
theorem DV.snoc{R:Hp->V->aj->Prop}{kvs:ca}(h:DV R H kvs rs){v:V}{r:aj}(e:R H v r):DV R H (kvs++[((Sum.inr r.1:Key),v)]) (rs++[r]):=by
 have a:=h.len;refine⟨by simp[a],λi b d=>?_⟩;by_cases av:i<kvs.length
 ·rw[Qe av,Qe (by lia)];exact h.at_ i av (by lia)
 ·have c:i=kvs.length:=by simp at b;lia
  subst c;rw[Qf (Qz _),Qf (by lia)];simp only[du,a,uJ,true_and];exact e
theorem DV.keys{R:Hp->V->aj->Prop}{kvs:ca}(h:DV R H kvs rs):kvs.map (·.1)=rs.map λr=>(.inr r.1:Key):=by
 have a:=h.len;refine ga (by simpa using a) λi b c=>?_;simp only[Qr];exact(h.at_ i (by simpa using b) (by simpa using c)).1
theorem DV.put{R:Hp->V->aj->Prop}{kvs:ca}(h:DV R H kvs rs){r:aj}{v:V}(n:r.1∉rs.map (·.1)):ci kvs (.inr r.1) v=kvs++[(.inr r.1,v)]:=by
 refine L2.cA _ ?_;cases e:a_ kvs (.inr r.1)with
 |none=>rfl
 |some u=>
  have:=gH e;rw[h.keys]at this;obtain⟨r',ia,e'⟩:=Z2.mp this;exact absurd (Z2.mpr ⟨r',ia,eh e'⟩) n
theorem DV.get{R:Hp->V->aj->Prop}{kvs:ca}(h:DV R H kvs rs)(a:(rs.map (·.1)).Nodup){r:aj}(b:r∈rs):∃v,a_ kvs (.inr r.1)=some v/\R H v r:=by
 obtain⟨i,hi,rfl⟩:=Qi b;have c:=h.len;obtain⟨Y,h2⟩:=h.at_ i (by lia) hi
 refine⟨kvs[i].2,gP ?_ (k:=(Sum.inr rs[i].1:Key)) (v:=kvs[i].2) ?_,h2⟩
 ·rw[h.keys];exact uT.mpr ((uT.mp a).imp λh e=>h (eh e))
 ·rw[<- Y];exact Qj (by lia)
def Hd.fg:Hd->Str
 | .one s=>s
 | .as _=>"as"
 | .way _ _=>"way"
 | .prs s _=>s
theorem HV.fg{H:Hp}{v:V}{h:Hd}(q:HV H v h):∃b J,v=.ref b/\H b=some (.tup (.str h.fg::J)):=by
 cases q with
 |one e=>exact⟨_,_,rfl,e⟩
 |as e=>exact⟨_,_,rfl,e⟩
 |way e=>exact⟨_,_,rfl,e⟩
 |prs e _ _=>exact⟨_,_,rfl,e⟩
theorem Rl{h:Hd}(ok:h.ok ns):(h.fg="as")=(h.nx.isNone=false):=by
 cases h with
 |one s=>rcases ok with rfl|rfl<;>simp[Hd.fg,Hd.nx]<;>decide+kernel
 |as y=>simp[Hd.fg,Hd.nx]
 |way x y=>simp[Hd.fg,Hd.nx];decide+kernel
 |prs s ps=>rcases ok.1 with rfl|rfl<;>simp[Hd.fg,Hd.nx]<;>decide+kernel
def RH:Hp->V->aj->Prop:=λH v r=>HV H v r.2
def RM:Hp->V->aj->Prop:=λH v r=>∃b c O,v=.ref b/\H b=some (.tup [.str r.2.fg,.ref c])/\H c=some (.tup O)/\SV H O (r.2.bh.map (·.1))
def RO(F:List aj):Hp->V->aj->Prop:=λH v r=>∃m o,v=.ref m/\H m=some (.af o (.dT (qi F r.2)))
structure IS(H:Hp)(F:List aj)(fs:cw):Prop where
 rws:∃d o,fs.lookup ("rows":Str)=some (V.ref d)/\H d=some (.af o (.dK (j_ F)))
 hds:∃d o k,fs.lookup ("heads":Str)=some (V.ref d)/\H d=some (.af o (.dK k))/\DV RH H k (bx F)
 mks:∃d o k,fs.lookup ("marks":Str)=some (V.ref d)/\H d=some (.af o (.dK k))/\DV RM H k (bx F)
 bh:∃d o k,fs.lookup ("moves":Str)=some (V.ref d)/\H d=some (.af o (.dK k))/\DV (RO F) H k (bx F)
def AV(H:Hp)(C x:Addr)(F:List aj):Prop:=∃dx fs,H x=some (.ins C dx fs)/\IS H F fs
def Sx(x:Addr)(H U:Hp):Prop:=∀b o,b≠x->H b=some o->U b=some o
theorem Sx.trans{x:Addr}{d e:Hp}(a:Sx x H d)(b:Sx x d e):Sx x H e:=λc o n h=>b c o n (a c o n h)
theorem ae.sx{x:Addr}{b:Hp}(a:ae H b):Sx x H b:=λc o _ h=>a c o h
theorem Sx.upd{x:Addr}{H:Hp}{o:HO}:Sx x H (upd H x o):=λc u n h=>by rw[aB n];exact h
theorem Sx.tk{x:Addr}(s:Sx x H U)(n:∀J,H x≠some (.tup J)):Tk H U:=λb J e=>s b _ (λz=>n J (by rw[<- z];exact e)) e
theorem Sx.af{x b:Addr}{H U:Hp}{q:Obj}{u:HO}(s:Sx x H U)(n:∀q u,H x≠some (.af q u))(e:H b=some (.af q u)):U b=some (.af q u):=s b _ (λz=>n q u (by rw[<- z];exact e)) e
theorem HV.same{v:V}{h:Hd}(q:HV H v h)(s:ae H U):HV U v h:=q.tk s.ts
theorem g7{K:Q0}{b:TE}{f:Str}{v:TS}(h:b Z H λy H1=>ta Z H1 λx H2=>∃a C dx fs,x=.ref a/\H2 a=some (.ins C dx fs)/\vf K C/\AJ K C f/\fs.length<1000/\v D Z (upd H2 a (.ins C dx (cj f y fs)))):CW (HW K ta b f) v D Z H:=h
def jo(F:List aj)(e:Str)(s:aU):Option Str:=((az F e).find? λm=>decide (m.1=s)).map (·.2)
def gg(F:List aj)(a:aU)(e:Str):Prop:=e∈a/\b7 F e=e
def jr(F:List aj)(e:Str):de:=(az F e).map λm=>(m.1.map Sum.inr,.str m.2)
section
variable{xs:bY}{F:List aj}
theorem RT.stay(rt:RT H a xs F ns ws)(b:∀z∈ws,Wd z)(c:x∈ns):gg F ns (b7 F x):=by
 obtain⟨Y,h2,_⟩:=rt.Bp b c;exact⟨Y,dB _ h2⟩
theorem RT.yf(rt:RT H a xs F ns ws)(b:∀z∈ws,Wd z){e:Str}(h:gg F ns e):(e,au F e)∈bx F/\(au F e).ok ns:=by
 obtain⟨Y,h2,h3⟩:=rt.Bp b h.1;rw[h.2]at Y h2 h3;have c:e∈F.map (·.1):=rt.nm.mem_iff.mpr Y;obtain⟨r,hr,rfl⟩:=Z2.mp c;have d:=dX rt.mj hr;refine⟨Qab.mpr ⟨?_,?_⟩,h3⟩
 ·rw[d];exact hr
 ·show(au F r.1).nx.isNone=true;rw[h2];rfl
theorem RT.jo(rt:RT H a xs F ns ws)(b:∀z∈ws,Wd z){e c:Str}{s:aU}(h:gg F ns e)(m:L2.jo F e s=some c):gg F ns c:=by
 unfold L2.jo at m;obtain⟨p,hp,rfl⟩:=QaH.mp m;have d:=mu hp;unfold az at d;obtain⟨q,hq,rfl⟩:=Z2.mp d;rw[h.2]at hq;exact rt.stay b (wU (rt.yf b h).2 _ hq)
theorem RT.Bu(rt:RT H a xs F ns ws):((bx F).map (·.1)).Nodup:=rt.mj.sublist (List.filter_sublist.map _)
theorem RT.Bv(rt:RT H a xs F ns ws)(b:∀z∈ws,Wd z)(h:x∈ns):((jr F x).map (·.1)).Nodup:=by
 have c:=(rt.Bp b h).2.2;have e:(jr F x).map (·.1)=((au F (b7 F x)).bh.map (·.1)).map λm=>m.map (Sum.inr:Str->Key):=by simp[jr,az,Qn,QC]
 rw[e];exact uT.mpr ((wP c).imp λh e=>h (sE e))
theorem RT.Cr(rt:RT H a xs F ns ws)(b:∀z∈ws,Wd z)(h:x∈ns):(az F x).length<=10:=by
 have:=rP (rt.Bp b h).2.2;unfold az;simpa using this
end
theorem IS.same{H U:Hp}{F:List aj}{e:cw}(n:IS H F e)(s:ae H U):IS U F e:=by
 obtain⟨⟨d1,o1,a1,a2⟩,⟨d2,o2,k2,b1,b2,b3⟩,⟨d3,o3,k3,c1,c2,c3⟩,⟨d4,o4,k4,e1,e2,e3⟩⟩:=n;exact⟨⟨d1,o1,a1,s _ _ a2⟩,⟨d2,o2,k2,b1,s _ _ b2,b3.keep λv r h=>HV.tk s.ts h⟩,⟨d3,o3,k3,c1,s _ _ c2,c3.keep λv r ⟨b,c,f,a,d,g,i⟩=>⟨b,c,f,a,s _ _ d,s _ _ g,i.keep λb j r=>r.same s⟩⟩,⟨d4,o4,k4,e1,s _ _ e2,e3.keep λv r ⟨m,o,a,d⟩=>⟨m,o,a,s _ _ d⟩⟩⟩
theorem AV.same{H U:Hp}{C x:Addr}{F:List aj}(n:AV H C x F)(s:ae H U):AV U C x F:=let ⟨dx,fs,e,f⟩:=n;⟨dx,fs,s _ _ e,f.same s⟩
def IT(K:Q0):R2:=λx y H Q=>∃a b xs J,x=.ref a/\y=.ref b/\ak K H a xs/\ak K H b J/\xs.length+J.length<=sizeLine/\(xs=[]->Q (.ref b) H)/\
 (xs≠[]->J=[]->Q (.ref a) H)/\(xs≠[]->J≠[]->∀p,H p=none->Q (.ref p) (upd H p (.tup (xs++J))))
theorem rO(K:Q0)(h:X.K=K:=by rfl):di X (binaryOp .Add) (IT K):=by
 subst h;intro c s f H x y v u Q I d e h;obtain⟨a,b,xs,J,rfl,rfl,ha,hb,hz,q0,q1,q2⟩:=h;by_cases hx:xs=[]
 ·cases d;cases e;obtain⟨its,r1,p1,_⟩:=I.tuple ha;obtain⟨its2,r2,p2,_⟩:=I.tuple hb;have g:its=[]:=r1.HZ.mpr hx;obtain⟨⟨cls,dd,data,sl⟩,ho,hc,n,hd⟩:=id p1;obtain⟨⟨O9,B8,data2,B9⟩,AL,qy,n2,hd2⟩:=id p2;simp only at hc hd qy hd2;subst hc hd qy hd2;exact concat_meets ⟨_,ho,rfl⟩ ⟨_,AL,rfl⟩ noFill_tuple_add seq_tuple_add PySem.F.slot_tuple_add PySem.F.entry_tuple_add (PySem.F.args_tuple_add_2 _ _)
   (tuple_addW0 a b its.toArray its2.toArray n n2 dd B8 sl B9 (by simp[g])) ⟨ho,AL,⟨.ref b,H,I,rfl,q0 hx⟩⟩
 ·exact Xy c s f H _ _ v u Q I d e ⟨a,b,xs,J,rfl,rfl,ha,hb,hx,hz,q1 hx,q2 hx⟩
theorem LL{K:Q0}{xs J:bY}{Q:VK}(c:H a=some (.tup xs))(d:H b=some (.tup J))(hz:xs.length+J.length<=sizeLine)(h:∀p U,ae H U->U p=some (.tup (xs++J))->Q (.ref p) U):IT K (.ref a) (.ref b) H Q:=by
 refine⟨a,b,xs,J,rfl,rfl,ak.of c,ak.of d,hz,λe=>?_,λ_ e=>?_,λ_ _ p f=>?_⟩
 ·subst e;exact h b H (ae.refl _) d
 ·subst e;exact h a H (ae.refl _) (by rw[QR];exact c)
 ·exact h p _ (ae.upd f _) aA
theorem SV.append{xs J:bY}{ts:List aU}(h:SV H xs ss)(M:SV H J ts):SV H (xs++J) (ss++ts):=by
 have a:=h.len;have b:=M.len;refine⟨by simp[a,b],λi c d=>?_⟩;by_cases av:i<xs.length
 ·rw[Qe av,Qe (by lia)];exact h.at_ i av (by lia)
 ·rw[Qf (by lia),Qf (by lia)];have:=M.at_ (i-xs.length) (by simp at c;lia) (by simp at d;lia)
  simpa[a]using this
theorem SV.one{H:Hp}{b:Addr}{m:aU}(e:bj H b (m.map V.str)):SV H [.ref b] [m]:=SV.nil.snoc e
theorem SV.same{H U:Hp}{xs:bY}{a:List aU}(h:SV H xs a)(s:ae H U):SV U xs a:=h.keep λ_ _ r=>r.same s
theorem kC{k:Nat}(a:f_ k A):A.units+20<cLine:=by have:=a.un;lia
section
variable{d:Addr}{od:Obj}{es:Array DictEntry}{ok ov:Value}{Q:cv->Shared->Prop}
theorem zK {a:DictEntry} (k:IsItemIter s.heap it d i n ep ok ov) (C:s.heap.get? d=some od) (D:od.data=.dict es ep) (V:es.size=n) (r:es[i]? =some a)
  (hQ:∀ M,IsItemIterOut M it d (i+1) n ep a.key a.val s.heap.objs.size->M.get? s.heap.objs.size=some {cls:=.type "tuple",data:=.seq #[a.key,a.val]}->
   (∀ b o,b≠it->'l'->M.get? b=some o)->Q (some (.ref s.heap.objs.size)) {s with heap:=M}):wpAny (model P w) A (pyNext (.ref it)) Q E s:=by
 obtain ⟨h,g,l,m,p⟩:=s
 have j:Shared.TypeIs ⟨h,g,l,m,p⟩ (.ref it) "dict_itemiterator":=⟨_,k,rfl⟩
 have av:i < es.size:=(Array.getElem?_eq_some_iff.mp r).1
 have ab:es[i]=a:=(Array.getElem?_eq_some_iff.mp r).2
 have t:Builtin.Dict_items.ownsTuple "dict_itemiterator"=true:=by decide
 have uh:¬(Value.ref d==Value.none)=true:=λhz=>vU hz
 unfold pyNext
 refine QT (wpAny_attempt (wpAny_callSpecial?_slot (name:=Str.ofString "__next__") j F.slot_dict_itemiterator_next (wpAny_call_entry F.slot_dict_itemiterator_next j F.entry_dict_itemiterator_next ?_ (F.args_dict_itemiterator_next_1 _))))
 refine QT (QU (QT (QT ?_)))
 first
  | refine QT (wpAny_typeNameOfWhole_itemiter j (QU (QT (wpAny_fieldsOf k rfl ?_))))
  | refine QT (wpAny_typeNameOf_itemiter j (QU (QT (wpAny_fieldsOf k rfl ?_))))
 simp only [t,if_true]
 show wpAny _ _ (if (Value.ref d==Value.none)=true then _ else _) _ _ _
 rw [if_neg uh]
 refine QT (QU (QT (wpAny_dictEntries C D ?_)))
 rw [if_neg (by rw [V];simp)]
 refine QT (QU (QT (wpAny_dictEpoch C D ?_)))
 rw [if_neg (by simp)]
 refine QU ?_
 simp only [show ¬((i:Int) < 0) by lia,if_false,mx,r]
 refine QT ?_
 first
  | refine QT (wpAny_typeNameOfWhole_itemiter j (QU (QT (wpAny_isOneOf_itemiter j ?_))))
  | refine QT (wpAny_typeNameOf_itemiter j (QU (QT (wpAny_isOneOf_itemiter j ?_))))
 show wpAny _ _ (setField (.ref it) 3 (rawInt ((i:Int)+1)) >>=_) _ _ ⟨h,g,l,m,p⟩
 refine QT (wpAny_setField_rec k (by simp) λc b1 c1=>?_)
 have G:Heap.SameBut it h c:=c1
 have H:IsItemIter c it d (i+1) n ep ok ov:=by
  have e:((i+1:Nat):Int)=(i:Int)+1:=by lia
  unfold IsItemIter;rw [e];simpa [rawInt] using b1
 have I:Shared.TypeIs ⟨c,g,l,m,p⟩ (.ref it) "dict_itemiterator":=⟨_,H,rfl⟩
 refine QT (wpAny_holding (QT (wpAny_isOneOf_itemiter I (QT (wpAny_isOneOf_itemiter I ?_)))))
 show wpAny _ _ (Builtin.Dict_items.pairFromOwner (.ref it) 6 a.key a.val) _ _ ⟨c,g,l,m,p⟩
 unfold Builtin.Dict_items.pairFromOwner
 refine QT (wpAny_newTuple ?_)
 have K:c.objs.size=h.objs.size:=G.1
 have il:it < h.objs.size:=QA k
 have q:IsItemIter (c.push {cls:=.type "tuple",data:=.seq #[a.key,a.val]}) it d (i+1) n ep ok ov:=Qc _ H
 have L:(c.push {cls:=.type "tuple",data:=.seq #[a.key,a.val]}).get? h.objs.size=some {cls:=.type "tuple",data:=.seq #[a.key,a.val]}:=by rw [<- K];exact Qd _ rfl
 have N:∀ b o,b≠it->h.get? b=some o->(c.push {cls:=.type "tuple",data:=.seq #[a.key,a.val]}).get? b=some o:=λb o f e=>Qc _ (G.extBut b o f e)
 show wpAny _ _ (Builtin.Dict_items.ownedTupleIsFree (.ref it) >>=_) _ _ ⟨c.push {cls:=.type "tuple",data:=.seq #[a.key,a.val]},g,l,m,p⟩
 rw [K]
 generalize c.push {cls:=.type "tuple",data:=.seq #[a.key,a.val]}=k2 at q L N
 refine QT ?_
 unfold Builtin.Dict_items.ownedTupleIsFree
 refine QT (wpAny_field q rfl (x:=.none) rfl (QU ?_))
 simp only [if_true]
 refine QT (wpAny_field q rfl (x:=ok) rfl (QT (wpAny_field q rfl (x:=ov) rfl (QT (wpAny_setField_rec q (by simp) λk3 b3 c3=>?_)))))
 have u:IsItemIter k3 it d (i+1) n ep a.key ov:=b3
 refine QT (wpAny_setField_rec u (by simp) λk4 b4 c4=>?_)
 have y:IsItemIter k4 it d (i+1) n ep a.key a.val:=b4
 refine QT (wpAny_setField_rec y (by simp) λk5 b5 c5=>?_)
 have z:IsItemIterOut k5 it d (i+1) n ep a.key a.val h.objs.size:=b5
 refine QT (wpAny_setField_rec z (by simp) λR b6 c6=>?_)
 have T:∀ b o,b≠it->k2.get? b=some o->R.get? b=some o:=λb o f e=>c6.extBut b o f (c5.extBut b o f (c4.extBut b o f (c3.extBut b o f e)))
 exact QT (wpAny_letGo (QU (QU ⟨_,rfl,QU (hQ R b6 (T _ _ (dq il) L) λb o f e=>T b o f (N b o f e))⟩)))
theorem AT(j:A.handled=none)(e:IsItemIter s.heap it d i n ep ok ov)(g:s.heap.get? d=some od)(h:od.data=.dict es ep)(k:es.size=n)(r:n<=i)
  (l:∀M,Heap.ExtBut it s.heap M->Q none {s with heap:=M}):wpAny (model P w) A (pyNext (.ref it)) Q E s:=by
 have c:s.TypeIs (.ref it) "dict_itemiterator":=⟨_,e,rfl⟩
 have f:Builtin.Dict_items.ownsTuple "dict_itemiterator"=true:=by decide
 have o:es.size<=i:=by lia
 have p:¬(Value.ref d==Value.none)=true:=λq=>vU q;unfold pyNext;refine QT (wpAny_attempt (wpAny_callSpecial?_slot (name:=Str.ofString "__next__") c F.slot_dict_itemiterator_next (wpAny_call_entry F.slot_dict_itemiterator_next c F.entry_dict_itemiterator_next ?_ (F.args_dict_itemiterator_next_1 _))));refine QT (QU (QT (QT ?_)))
 first
  |refine QT (wpAny_typeNameOfWhole_itemiter c (QU (QT (wpAny_fieldsOf e rfl ?_))))
  |refine QT (wpAny_typeNameOf_itemiter c (QU (QT (wpAny_fieldsOf e rfl ?_))))
 simp only[f,if_true];show wpAny _ _ (if(Value.ref d==Value.none)=true then _ else _) _ _ _;rw[if_neg p];refine QT (QU (QT (wpAny_dictEntries g h ?_)));rw[if_neg (by rw[k];simp)];refine QT (QU (QT (wpAny_dictEpoch g h ?_)));rw[if_neg (by simp)];refine QU ?_;simp only[show ¬((i:Int)<0)by lia,if_false,mx,Array.getElem?_eq_none o];refine QT ?_
 first
  |refine QT (wpAny_typeNameOfWhole_itemiter c (QU ?_))
  |refine QT (wpAny_typeNameOf_itemiter c (QU ?_))
 show wpAny _ _ (setField (.ref it) 2 .none >>=_) _ _ s;refine QT (wpAny_setField e rfl (by simp) ?_);show wpAny _ _ (newExc (.type "StopIteration") [] >>=_) _ _ _;refine QT ?_;simp only[newExc,newTuple];refine QT (wpAny_newObj_type (QT (m:=firstArgMember _ _) (wpAny_of_eq (a:=Value.none) (by first|rfl|(simp only[firstArgMember];rfl)) (wpAny_newObj_type ?_ (by size_fits)))) (by size_fits));simp only[raiseNew];refine QT (wpAny_handled ?_);rw[show A.in1.handled=none from j];refine QT (QU (wpAny_throw ?_));refine QT (wpAny_isInstance (T:="StopIteration") (b:=true) ⟨_,Qd _ rfl,rfl⟩ isSubtype_stop ?_);exact QU (l _ (((ke ..).extBut.push _).push _))
end
def GC(a:Addr)(o:Obj)(kvs:de):It:=⟨λi H=>H a=some (.af o (.dT kvs))/\i<kvs.length,λi H x U=>∃b c,kvs[i]? =some c/\bj H b (c.1.map kV)/\EB (.ref b) c.2 H x U,λi H=>H a=some (.af o (.dT kvs))/\kvs.length=i⟩
theorem Ro{kvs:de}(r:KT H kvs xs):∀{i:Nat}{p:fe×V},kvs[i]? =some p->∃q,xs[i]? =some q/\bj H q.2.1 (p.1.map kV)/\RelV p.2 q.2.2:=by
 intro i
 induction r generalizing i with
 |nil=>intro p h;simp at h
 |cons a t ih=>
  intro p h;cases i with
  |zero=>simp at h;subst h;exact⟨_,by simp,a.2.1,a.2.2⟩
  |succ i=>simp at h;simpa using ih h
theorem tN{K:Q0}{k:Nat}{l:Pos}{kvs:de}(ID:a≠it)(x:∃es,o.data=.dict es ep):
  dk P w K (.Tuple A8 k l) (GC a o kvs) [it] it (λi h=>∃ok ov,IsItemIter h it a i kvs.length ep ok ov)where
 mem:=by simp
 obj:=λi h st b c=>by
  have e:b=it:=by simpa using c
  subst e;obtain⟨ok,ov,he⟩:=st;exact⟨_,he,λv z=>by
   have D:Data.fields _=Data.cell v:=z;cases D⟩
 keep:=λi h g st k=>let ⟨ok,ov,he⟩:=st;⟨ok,ov,k it (by simp) _ he⟩
 item:=by
  intro X m p r y i d s A H E I j st t;subst m p r;obtain⟨ok,ov,he⟩:=st;obtain⟨hq,hi⟩:=t;obtain⟨e,z,hd,xs,rel,ob,es,p_,Y,h2,h3,h4,h5⟩:=(show br X.prog X.w H s.heap a (.af o (.dT kvs))from I.hok a _ hq)
  obtain⟨es',fu⟩:=x;rw[e]at Y;cases Y;rw[fu]at h3;injection h3 with iu iw
  subst iu iw;obtain⟨q,mz,qh,Dp⟩:=Ro rel (Qa hi);have u:=Paired.length rel;have f:es'.size=kvs.length:=by rw[<- gT,h4,Ql];exact u.symm
  have G:es'[i]? =some (entryOfKey (tupleKind (cz X.prog X.w)) q):=by rw[<- md,h4,Qq,mz];rfl
  refine zK (n:=kvs.length) he e fu f G λg L N Q=>?_;have R:RelV (.ref q.2.1) (entryOfKey (tupleKind (cz X.prog X.w)) q).key:=rfl;have T:RelV kvs[i].2 (entryOfKey (tupleKind (cz X.prog X.w)) q).val:=Dp;have V:Inv X d A (upd H s.heap.objs.size (.tup [.ref q.2.1,kvs[i].2])) {s with heap:=g}:=I.Ir (t':=s.toks) j (λb o c e=>Q b o (λz=>c (by simp[z])) e) (Qz _) (jR R T N);refine⟨_,rfl,wpAny_letOwnedTupleGo_items (s:={s with heap:=g}) L λDc Gu sb=>?_⟩;have av:it≠s.heap.objs.size:=yU (QA he);obtain⟨f0,f1,f2,f3,f4,f5⟩:=j it (by simp);have C:upd H s.heap.objs.size (.tup [.ref q.2.1,kvs[i].2]) it=none:=by rw[aB av];exact f0
  refine⟨.ref s.heap.objs.size,_,V.turned (t':=s.toks) (λb o c q=>(sb.2 b c).trans q) C f1 f3 f4 f5,rfl,⟨q.2.1,kvs[i],Qa hi,qh,_,rfl,I.hok.fresh (Qz _),rfl⟩,⟨_,_,Gu⟩,λb c=>?_⟩;have e:b=it:=by simpa using c
  subst e;exact C
 done:=by
  intro X m p r y i d s A H E I j st t;subst m p r;obtain⟨ok,ov,he⟩:=st;obtain⟨hq,hi⟩:=t;obtain⟨e,z,hd,xs,rel,ob,es,p_,Y,h2,h3,h4,h5⟩:=(show br X.prog X.w H s.heap a (.af o (.dT kvs))from I.hok a _ hq)
  obtain⟨es',fu⟩:=x;rw[e]at Y;cases Y;rw[fu]at h3;injection h3 with iu iw
  subst iu iw;have u:=Paired.length rel;have f:es'.size=kvs.length:=by rw[<- gT,h4,Ql];exact u.symm
  obtain⟨f0,f1,f2,f3,f4,f5⟩:=j it (by simp);exact AT (n:=kvs.length) (I.ok.hd y) he e fu f (by lia) λg eb=>⟨rfl,I.turned (t':=s.toks) (λb o c e=>eb b o c e) f0 f1 f3 f4 f5⟩
 self:=λ_ _ _ _ _ st h=>let ⟨_,_,he⟩:=st;PySem.W.kcp_self he h
section
variable{k:Nat}{wm:Pos}{o:Expr}
theorem mJ{v d:Addr}{b:Obj}{es:Array DictEntry}(hv:s.heap.IsItemsView v d)(c:s.heap.get? d=some b)(e:b.data=.dict es ep)
  (f:Q (.ref s.heap.objs.size) {s with heap:=s.heap.push {cls:=.type "dict_itemiterator",data:=.fields #[.none,.bool false,.ref d,.int 0 0,.int es.size 0,.int ep 0,.none,.none]}}):wpAny (model P w) A (pyIter (.ref v)) Q E s:=by
 obtain⟨ov,LO,hcv,LP⟩:=id hv;have a:Builtin.Dict_items.ownsTuple "dict_itemiterator"=true:=by decide
 refine wpAny_pyIter_slot hv.typeIs F.slot_dict_items_iter (wpAny_call_entry F.slot_dict_items_iter hv.typeIs F.entry_dict_items_iter ?_ (F.args_dict_items_iter_1 _));unfold Builtin.«dict_items.__iter__»;refine QT (QU (QT ?_));unfold Builtin.Dict_items.dictOf;refine QT (wpAny_field LO LP (x:=.ref d) rfl (QU (QT ?_)));unfold Builtin.Dict_items.newIterator;refine QT (wpAny_dictEntries c e (QT (wpAny_dictEpoch c e ?_)));simp only[a,if_true];refine wpAny_newObj_type (QU ⟨_,rfl,"dict_itemiterator",_,⟨_,Qd _ rfl,rfl⟩,F.slot_dict_itemiterator_next.lookup,?_⟩) (by simp only[sizeOk,Builtin.Dict_items.ownedTupleFields,wV,Qk,dV,nS,QM];lia);simpa[rawInt,Builtin.Dict_items.ownedTupleFields]using f
theorem nR(d:Addr)(a:(d==sysModules)=false):
  MeetsIn P w (Builtin.«dict.items» ⟨[.ref d],[]⟩) (λ_ R s=>s.TypeIs (.ref d) "dict"/\R (.ok (.ret (.ref s.heap.objs.size))) {s with heap:=s.heap.push {cls:=.type "dict_items",data:=.fields #[.ref d]}}):=
 .of_wp λA R s ⟨b,h⟩=>by
  unfold Builtin.«dict.items» Builtin.Dict.noArgs;refine QT (QT (wpAny_notOrdered_dict b ?_));show wpAny _ _ (pure d) _ _ s;refine QU ?_;show wpAny _ _ (Builtin.Dict.showsAll d >>=_) _ _ s;unfold Builtin.Dict.showsAll;rw[if_neg (λc=>vU (a.symm.trans c))];exact QT (QU (QT (wpAny_newObj_type (QU ⟨_,rfl,h⟩))))
def GM(b:TE):TI:=λZ H R=>b Z H λx H1=>∃a kvs o,x=.ref a/\H1 a=some (.af o (.dT kvs))/\R (GC a o kvs) H1
theorem qB(n:SE X o to)(p:attributeBase o "items" X.env (eval o X.env)=eval o X.env:=by rfl)(r:(apos.endLine==cpos.line)=true:=by rfl):
  SI X (.Tuple A8 k wm) (.Call (.Attribute o "items" apos) [] [] cpos) (GM to):=by
 constructor;intro d s l H R I h;refine wpAny_Call_method0_late p r (ay (n.h d s l H _ I h) ?_);rintro v c ⟨x,t,m,u,a,kvs,o,y,A,q⟩;subst y;cases u;obtain⟨e,z,yd,xs,rel,ob,es,ep,Y,h2,hd,h4,h5⟩:=(show br X.prog X.w _ c.heap a (.af o (.dT kvs))from m.hok a _ A)
 rw[e]at Y;cases Y;have C:=Paired.length rel;have f:es.size=kvs.length:=by rw[<- gT,h4,Ql];exact C.symm
 have g:c.TypeIs (.ref a) "dict":=⟨o,e,h2.1⟩
 refine⟨"dict","dict.items",kz,py,PySem.F.type_dict_items,g,λb i=>by cases i;exact⟨o,e,h2.2.1⟩,Calls.callWith_builtin rfl (ng ?_)⟩;refine call_meetsIn py g PySem.F.entry_dict_items (PySem.F.args_dict_items_1 _) (nR a yd) ⟨g,?_⟩;have j:Inv X d l t {c with heap:=c.heap.push {cls:=.type "dict_items",data:=.fields #[.ref a]}}:=m.kept (t':=c.toks) λb o e=>Qc _ e;refine mJ (es:=es) (ep:=ep) ⟨_,Qd _ rfl,rfl,rfl⟩ (Qc _ e) hd ?_;have D:a≠(c.heap.push {cls:=.type "dict_items",data:=.fields #[.ref a]}).objs.size:=by
  rw[ko];exact yU (fy (QA e))
 refine⟨_,[(c.heap.push {cls:=.type "dict_items",data:=.fields #[.ref a]}).objs.size],_,_,_,rfl,j.kept (t':=c.toks) λb o e=>Qc _ e,tN (kvs:=kvs) (a:=a) (o:=o) D ⟨es,hd⟩,⟨.none,.none,by rw[<- f];exact Qd _ rfl⟩,λb i=>?_,q⟩;have e:b=(c.heap.push {cls:=.type "dict_items",data:=.fields #[.ref a]}).objs.size:=by simpa using i
 subst e;exact j.wj (Qz _) (j.hok.fresh (Qz _))
end
def GD(a:Addr)(o:Obj)(kvs:ca):It:=⟨λi H=>H a=some 'h'/\i<kvs.length,λi H x U=>U=H/\x=valAt kvs i,λi H=>H a=some 'h'/\kvs.length=i⟩
theorem sy(kvs:ca):AR (GD a o kvs) (λH=>H a=some 'h') kvs.length (valAt kvs):=λH b=>⟨λi c=>⟨⟨b,c⟩,λx d h=>h⟩,b,rfl⟩
theorem Da{K:Q0}{kvs:ca}(y:∃es,o.data=.dict es ep):dk P w K tg (GD a o kvs) [it] it (λi h=>h.IsValIter it a i kvs.length ep)where
 mem:=by simp
 obj:=λi h st b g=>by
  have e:b=it:=by simpa using g
  subst e;obtain⟨o,e,c,d⟩:=st;exact⟨o,e,λv z=>by rw[d]at z;cases z⟩
 keep:=λi h j st k=>let ⟨o,e,r⟩:=st;⟨o,k it (by simp) o e,r⟩
 item:=by
  intro X n p t A i f s C H E I l st u;subst n p t;obtain⟨hq,hi⟩:=u;obtain⟨e,z,hd,vs,rel,ob,es,p_,Y,h2,h3,h4⟩:=(show br X.prog X.w H s.heap a 'h'from I.hok a _ hq)
  obtain⟨es',fu⟩:=y;rw[e]at Y;cases Y;rw[fu]at h3;injection h3 with iu iw
  subst iu iw;obtain⟨q,mz,qh,Dp⟩:=rL rel (Qa hi);have m:=rel.len;obtain⟨f0,f1,f2,f3,f4,f5⟩:=l it (by simp);obtain⟨qk,qv⟩:=q;refine wpAny_pyNext_values_item (knd:=cz X.prog X.w) (kvs:=vs) (ep:=ep) (by rw[<- m];exact st) ⟨o,es',e,h2,fu,h4⟩ mz λj x G=>?_;have L:Inv X f C H {s with heap:=j}:=I.turned (t':=s.toks) (λb o g e=>(G.2 b g).trans e) f0 f1 f3 f4 f5;have D:j.IsValIter it a (i+1) kvs.length ep:=by rw[m];exact x
  obtain⟨o3,e3,c3,d3⟩:=id D;refine⟨qv,rfl,lU (s:={s with heap:=j}) e3 c3 d3 (by decide) ⟨valAt kvs i,H,L,?_,⟨rfl,rfl⟩,D,λb g=>(l b g).1⟩⟩;unfold valAt;rw[Qa hi];exact Dp
 done:=by
  intro X n p t A i f s C H E I l st u;subst n p t;obtain⟨hq,hi⟩:=u;obtain⟨e,z,hd,vs,rel,ob,es,p_,Y,h2,h3,h4⟩:=(show br X.prog X.w H s.heap a 'h'from I.hok a _ hq)
  obtain⟨es',fu⟩:=y;rw[e]at Y;cases Y;rw[fu]at h3;injection h3 with iu iw
  subst iu iw;have m:=rel.len;obtain⟨f0,f1,f2,f3,f4,f5⟩:=l it (by simp);exact wpAny_pyNext_values_end (knd:=cz X.prog X.w) (kvs:=vs) (ep:=ep) (I.ok.hd A) (by rw[<- m];exact st) ⟨o,es',e,h2,fu,h4⟩ (by simp;lia) λj N=>⟨rfl,I.turned (t':=s.toks) (λb o g e=>N b o g e) f0 f1 f3 f4 f5⟩
 self:=λ_ _ _ _ _ st h=>wpAny_pyIter_valiter st h
section
variable{o:Expr}
def Kj(b:TE):TI:=λZ H R=>b Z H λx H1=>∃a kvs,x=.ref a/\((∃o,H1 a=some 'h'/\R (GD a o kvs) H1)\/(H1 a=some (.dK kvs)/\∀o,R (GD a o kvs) (upd H1 a 'h')))
theorem FK(m:SE X o to)(n:attributeBase o "values" X.env (eval o X.env)=eval o X.env:=by rfl)(p:(apos.endLine==cpos.line)=true:=by rfl):
  SI X tg (.Call (.Attribute o "values" apos) [] [] cpos) (Kj to):=by
 constructor;intro c s g H R I h;refine wpAny_Call_method0_late n p (ay (m.h c s g H _ I h) ?_);rintro v d ⟨x,r,k,t,a,kvs,u,y⟩;subst u;cases t;obtain⟨o,f,I2,LB,q⟩:∃(o:Obj)(f:Hp),Inv X c g f d/\f a=some 'h'/\R (GD a o kvs) f:=by
  rcases y with⟨o,e,q⟩|⟨e,q⟩
  ·exact⟨o,r,k,e,q⟩
  ·obtain⟨o,_,_,_,I2,_⟩:=k.freeze (.inl e);exact⟨o,_,I2,aA,q o⟩
 obtain⟨e,z,yd,vs,rel,ob,es,ep,Y,h2,hd,h4⟩:=(show br X.prog X.w _ d.heap a 'h'from I2.hok a _ LB)
 rw[e]at Y;cases Y;have A:=rel.len;have l:d.TypeIs (.ref a) "dict":=⟨o,e,h2.1⟩
 refine⟨"dict","dict.values",kz,nh,PySem.F.type_dict_values,l,λb i=>by cases i;exact⟨o,e,h2.2.1⟩,Calls.callWith_builtin rfl (ng ?_)⟩;refine call_meetsIn nh l PySem.F.entry_dict_values (PySem.F.args_dict_values_1 _) (meets_dict_values (cz X.prog X.w) a yd) ⟨⟨vs,o,es,ep,e,h2,hd,h4⟩,?_⟩;have j:Inv X c g f {d with heap:='k'}:=I2.kept (t':=d.toks) λb o e=>Qc _ e;refine wpAny_pyIter_values (knd:=cz X.prog X.w) (kvs:=vs) (ep:=ep) ⟨_,Qd _ rfl,rfl,rfl⟩ ⟨o,es,Qc _ e,h2,hd,h4⟩ ?_;refine⟨_,[('k').objs.size],_,_,_,rfl,j.kept (t':=d.toks) λb o e=>Qc _ e,Da (kvs:=kvs) (a:=a) (o:=o) ⟨es,hd⟩,by rw[A];exact⟨_,Qd _ rfl,rfl,rfl⟩,λb i=>?_,q⟩;have e:b=('k').objs.size:=by simpa using i
 subst e;exact j.wj (Qz _) (j.hok.fresh (Qz _))
end
def Rp(K:Q0):bY->Hp->VK->Prop:=λxs H Q=>match xs with
 | [.ref p]=>∃a:List Bool,ai K H p (a.map V.bl)/\Q (.bl (a.any id)) H
 |_=>False
theorem zQ(K:Q0)(g:X.calm=true)(h:X.K=K:=by rfl):n_ X (.builtin "any") (Rp K):=by
 subst h;intro c s t H w x Q I r h;unfold Rp at h;split at h
 ·next p=>
  obtain⟨bs,hq,q⟩:=h;obtain⟨u,rfl,ru⟩:=r.one;cases ru;obtain⟨its,rv,pl,hz⟩:=I.list hq;have e:=nN rv;subst e;have j:p<s.heap.objs.size:=by obtain⟨_,e,_⟩:=pl.isList;exact QA e
  refine call_any_walk (wpAny_pyIter_list pl.isList ?_);refine⟨s.heap.objs.size,[s.heap.objs.size,p],[s.heap.objs.size],(bs.map Value.bool).toArray.size,_,_,λi=>(bs[i]?).getD false,rfl,Walks.list (A:=X.A.in1) (I.ok.hd g) _ p (yU j) _,
   ⟨⟨_,Qd _ rfl,rfl,rfl⟩,pl.isList.push _⟩,λi v y z C k d=>?_,λD l m=>?_⟩
  ·have a:(bs.map Value.bool)[i]? =some v:=by simpa using k
   rw[Qq]at a;cases eb:bs[i]? with
   |none=>rw[eb]at a;cases a
   |some b=>
    rw[eb]at a;cases a;simp only[eb,Option.getD_some]at d;exact wpAny_truthy_bool d
  ·have e:((List.range (bs.map Value.bool).toArray.size).any λi=>(bs[i]?).getD false)=bs.any id:=by
    rw[wV,Ql];rw[jc,QaO,QaO];constructor
    ·rintro⟨i,hi,h⟩;have f:=Qag.mp hi;exact⟨_,Qj f,by simpa[Qa f]using h⟩
    ·rintro⟨b,hb,h⟩;obtain⟨i,hi,rfl⟩:=Qi hb;exact⟨i,Qag.mpr hi,by simpa[Qa hi]using h⟩
   rw[e];refine⟨.bl (bs.any id),H,I.kept (t':=l) λb o e=>m b o (λn=>?_) (Qc _ e),rfl,q⟩;rw[zO.mp n]at e;exact ft _ (QA e)
 ·exact h.elim
theorem o6{K:Q0}{ad:Addr}{kvs:de}{a b:Nat}{j:TS}(d:Nat->St->Hp->Prop)(h0:d 0 Z H)(hok:∀i n H,i<=kvs.length->d i n H->H ad=some (.af o (.dT kvs)))
  (hs:∀i Z H T c,(h:i<kvs.length)->d i Z H->H T=none->bj H c (kvs[i].1.map kV)->j {D with nx:=d (i+1),ct:=d (i+1),bk:=D.nx} ((Z.set a (some (.ref c))).set b (some kvs[i].2)) (upd H T (.tup [.ref c,kvs[i].2]))) (q:∀Z H,d kvs.length Z H->D.nx Z H):
  ∃W:Nat->Nat->St->Hp->Prop,(∃m,W 0 m Z H)/\∀i m Z H,W i m Z H->
   ((GC ad o kvs).stop i H/\D.nx Z H)\/((GC ad o kvs).go i H/\∃N:St->Hp->Prop,(∀f U,N f U->∃k,k<m/\W (i+1) k f U)/\∀x U,(GC ad o kvs).qx i H x U->g2 K a b x Z U λg H2=>j {D with nx:=N,ct:=N,bk:=D.nx} g H2):=by
 refine⟨λi m Z H=>m=kvs.length-i/\i<=kvs.length/\d i Z H,⟨kvs.length,by simp,dm _,h0⟩,?_⟩;rintro i m Z H ⟨rfl,r,p⟩;have l:=hok i Z H r p;by_cases av:i<kvs.length
 ·refine .inr ⟨⟨l,av⟩,d (i+1),λf U s=>⟨kvs.length-(i+1),by lia,rfl,av,s⟩,λx U y=>?_⟩;obtain⟨c,kv,IU,rd,T,rfl,hT,rfl⟩:=y;have e:kv=kvs[i]:=by rw[Qa av]at IU;exact(QE IU).symm
  subst e;exact fI aA (hs i Z _ T c av p hT rd)
 ·have e:i=kvs.length:=by lia
  subst e;exact .inl ⟨⟨l,rfl⟩,q Z H p⟩
theorem lK{F:List aj}{e:Str}(h:b7 F e=e):qi F (au F e)=jr F e:=by
 unfold qi jr az;rw[h,Qn];rfl
theorem Paired.at{c:Type}{R:α->c->Prop}{xs:List α}{J:List c}(h:Paired R xs J):∀i(b:i<xs.length)(d:i<J.length),R xs[i] J[i]:=by
 induction h with
 |nil=>intro i b;exact absurd b (by simp)
 |cons a _ ih=>
  intro i b d;cases i with
  |zero=>exact a
  |succ i=>exact ih i (by simpa using b) (by simpa using d)
theorem dz.same{H U:Hp}{a:Addr}{y:V}{r:cp}(g:dz H a y r)(s:ae H U):dz U a y r:=by
 rcases g with⟨c,k,d,e,f⟩|⟨c,k,b,d,e,f,h⟩
 ·exact .inl ⟨c,k,d.same s,e,f⟩
 ·exact .inr ⟨c,k,b,d.same s,e,f.same s,h⟩
section
variable{d:Addr}{od:Obj}{es:Array DictEntry}{Q:cv->Shared->Prop}
theorem qF{c:DictEntry}(a:s.heap.IsValIter it d i n ep)(f:s.heap.get? d=some od)(g:od.data=.dict es ep)(k:es.size=n)(l:es[i]? =some c)
  (m:∀M,M.IsValIter it d (i+1) n ep->Heap.SameBut it s.heap M->Q (some c.val) {s with heap:=M}):wpAny (model P w) A (pyNext (.ref it)) Q E s:=by
 obtain⟨o,ho,hc,hd⟩:=id a;have e:Builtin.Dict_items.ownsTuple "dict_valueiterator"=false:=by decide
 have p:¬(Value.ref d==Value.none)=true:=λq=>vU q;unfold pyNext;refine QT (wpAny_attempt (wpAny_callSpecial?_slot (name:=Str.ofString "__next__") a.typeIs F.slot_dict_valueiterator_next (wpAny_call_entry F.slot_dict_valueiterator_next a.typeIs F.entry_dict_valueiterator_next ?_ (F.args_dict_valueiterator_next_1 _))));refine QT (QU (QT (QT ?_)))
 first
  |refine QT (wpAny_typeNameOfWhole_valiter a.typeIs (QU (QT (wpAny_fieldsOf ho hd ?_))))
  |refine QT (wpAny_typeNameOf_valiter a.typeIs (QU (QT (wpAny_fieldsOf ho hd ?_))))
 simp only[e,fi,if_false];show wpAny _ _ (if(Value.ref d==Value.none)=true then _ else _) _ _ s;rw[if_neg p];refine QT (QU (QT (wpAny_dictEntries f g ?_)));rw[if_neg (by rw[k];simp)];refine QT (QU (QT (wpAny_dictEpoch f g ?_)));rw[if_neg (by simp)];refine QU ?_;simp only[show ¬((i:Int)<0)by lia,if_false,mx,l];refine QT ?_
 first
  |refine QT (wpAny_typeNameOfWhole_valiter a.typeIs (QU (QT (wpAny_isOneOf_valiter a.typeIs ?_))))
  |refine QT (wpAny_typeNameOf_valiter a.typeIs (QU (QT (wpAny_isOneOf_valiter a.typeIs ?_))))
 show wpAny _ _ (setField (.ref it) 1 (rawInt ((i:Int)+1)) >>=_) _ _ s;refine QT (wpAny_setField ho hd (by simp) ?_);have b:(s.heap.update it (Obj.mapFields (·.setIfInBounds 1 (rawInt ((i:Int)+1))))).IsValIter it d (i+1) n ep:=⟨_,ll _ ho (Obj.isFreed_of_fields (Obj.data_mapFields hd _)),(Obj.cls_mapFields ..).trans hc,by rw[Obj.data_mapFields hd];simp[rawInt]⟩
 have h:Heap.SameBut it s.heap (s.heap.update it (Obj.mapFields (·.setIfInBounds 1 (rawInt ((i:Int)+1))))):=ke ..;generalize s.heap.update it (Obj.mapFields (·.setIfInBounds 1 (rawInt ((i:Int)+1))))=j at b h;refine QT (wpAny_holding (QT (wpAny_isOneOf_valiter (s:={s with heap:=j}) b.typeIs (QT (wpAny_isOneOf_valiter (s:={s with heap:=j}) b.typeIs ?_)))));show wpAny _ _ (pure c.val) _ _ _;exact QU (QU ⟨_,rfl,QU (m _ b h)⟩)
theorem t8(h:A.handled=none)(c:s.heap.IsValIter it d i n ep)(f:s.heap.get? d=some od)(g:od.data=.dict es ep)(j:es.size=n)(r:n<=i)
  (k:∀M,Heap.ExtBut it s.heap M->Q none {s with heap:=M}):wpAny (model P w) A (pyNext (.ref it)) Q E s:=by
 obtain⟨o,ho,hc,hd⟩:=id c;have e:Builtin.Dict_items.ownsTuple "dict_valueiterator"=false:=by decide
 have l:¬(Value.ref d==Value.none)=true:=λp=>vU p;have q:es.size<=i:=by lia
 unfold pyNext;refine QT (wpAny_attempt (wpAny_callSpecial?_slot (name:=Str.ofString "__next__") c.typeIs F.slot_dict_valueiterator_next (wpAny_call_entry F.slot_dict_valueiterator_next c.typeIs F.entry_dict_valueiterator_next ?_ (F.args_dict_valueiterator_next_1 _))));refine QT (QU (QT (QT ?_)))
 first
  |refine QT (wpAny_typeNameOfWhole_valiter c.typeIs (QU (QT (wpAny_fieldsOf ho hd ?_))))
  |refine QT (wpAny_typeNameOf_valiter c.typeIs (QU (QT (wpAny_fieldsOf ho hd ?_))))
 simp only[e,fi,if_false];show wpAny _ _ (if(Value.ref d==Value.none)=true then _ else _) _ _ s;rw[if_neg l];refine QT (QU (QT (wpAny_dictEntries f g ?_)));rw[if_neg (by rw[j];simp)];refine QT (QU (QT (wpAny_dictEpoch f g ?_)));rw[if_neg (by simp)];refine QU ?_;simp only[show ¬((i:Int)<0)by lia,if_false,mx,Array.getElem?_eq_none q];refine QT ?_
 first
  |refine QT (wpAny_typeNameOfWhole_valiter c.typeIs (QU ?_))
  |refine QT (wpAny_typeNameOf_valiter c.typeIs (QU ?_))
 show wpAny _ _ (setField (.ref it) 0 .none >>=_) _ _ s;refine QT (wpAny_setField ho hd (by simp) ?_);show wpAny _ _ (newExc (.type "StopIteration") [] >>=_) _ _ _;refine QT ?_;simp only[newExc,newTuple];refine QT (wpAny_newObj_type (QT (m:=firstArgMember _ _) (wpAny_of_eq (a:=Value.none) (by first|rfl|(simp only[firstArgMember];rfl)) (wpAny_newObj_type ?_ (by size_fits)))) (by size_fits));simp only[raiseNew];refine QT (wpAny_handled ?_);rw[show A.in1.handled=none from h];refine QT (QU (wpAny_throw ?_));refine QT (wpAny_isInstance (T:="StopIteration") (b:=true) ⟨_,Qd _ rfl,rfl⟩ isSubtype_stop ?_);exact QU (k _ (((ke ..).extBut.push _).push _))
end
def Ct(kvs:de)(i:Nat):V:=((kvs[i]?).map λa=>a.2).getD .ao
def LQ(a:Addr)(o:Obj)(kvs:de):It:=⟨λi H=>H a=some (.af o (.dT kvs))/\i<kvs.length,λi H x U=>U=H/\x=Ct kvs i,λi H=>H a=some (.af o (.dT kvs))/\kvs.length=i⟩
theorem pH(kvs:de):AR (LQ a o kvs) (λH=>H a=some (.af o (.dT kvs))) kvs.length (Ct kvs):=λH b=>⟨λi c=>⟨⟨b,c⟩,λx d h=>h⟩,b,rfl⟩
theorem vH{K:Q0}{kvs:de}(C:∃es,o.data=.dict es ep):dk P w K tg (LQ a o kvs) [it] it (λi h=>h.IsValIter it a i kvs.length ep)where
 mem:=by simp
 obj:=λi h st b g=>by
  have e:b=it:=by simpa using g
  subst e;obtain⟨o,e,c,d⟩:=st;exact⟨o,e,λv z=>by rw[d]at z;cases z⟩
 keep:=λi h m st k=>let ⟨o,e,r⟩:=st;⟨o,k it (by simp) o e,r⟩
 item:=by
  intro X t u x D i f s G H E I p st y;subst t u x;obtain⟨hq,hi⟩:=y;obtain⟨e,z,hd,xs,rel,ob,es,p_,Y,h2,h3,h4,h5⟩:=(show br X.prog X.w H s.heap a (.af o (.dT kvs))from I.hok a _ hq)
  obtain⟨es',fu⟩:=C;rw[e]at Y;cases Y;rw[fu]at h3;injection h3 with iu iw
  subst iu iw;obtain⟨q,mz,qh,Dp⟩:=Ro rel (Qa hi);have A:=Paired.length rel;have j:es'.size=kvs.length:=by rw[<- gT,h4,Ql];exact A.symm
  have L:es'[i]? =some (entryOfKey (tupleKind (cz X.prog X.w)) q):=by rw[<- md,h4,Qq,mz];rfl
  obtain⟨f0,f1,f2,f3,f4,f5⟩:=p it (by simp);refine qF (n:=kvs.length) st e fu j L λm l N=>?_;have Q:Inv X f G H {s with heap:=m}:=I.turned (t':=s.toks) (λb o g e=>(N.2 b g).trans e) f0 f1 f3 f4 f5;obtain⟨o3,e3,c3,d3⟩:=id l;refine⟨_,rfl,lU (s:={s with heap:=m}) e3 c3 d3 (by decide) ⟨Ct kvs i,H,Q,?_,⟨rfl,rfl⟩,l,λb g=>(p b g).1⟩⟩;unfold Ct;rw[Qa hi];exact Dp
 done:=by
  intro X t u x D i f s G H E I p st y;subst t u x;obtain⟨hq,hi⟩:=y;obtain⟨e,z,hd,xs,rel,ob,es,p_,Y,h2,h3,h4,h5⟩:=(show br X.prog X.w H s.heap a (.af o (.dT kvs))from I.hok a _ hq)
  obtain⟨es',fu⟩:=C;rw[e]at Y;cases Y;rw[fu]at h3;injection h3 with iu iw
  subst iu iw;have A:=Paired.length rel;have j:es'.size=kvs.length:=by rw[<- gT,h4,Ql];exact A.symm
  obtain⟨f0,f1,f2,f3,f4,f5⟩:=p it (by simp);exact t8 (n:=kvs.length) (I.ok.hd D) st e fu j (by lia) λm R=>⟨rfl,I.turned (t':=s.toks) (λb o g e=>R b o g e) f0 f1 f3 f4 f5⟩
 self:=λ_ _ _ _ _ st h=>wpAny_pyIter_valiter st h
section
variable{o:Expr}
theorem hU{v d:Addr}{b:Obj}{es:Array DictEntry}(hv:s.heap.IsValuesView v d)(c:s.heap.get? d=some b)(e:b.data=.dict es ep)
  (f:Q (.ref s.heap.objs.size) {s with heap:=s.heap.push {cls:=.type "dict_valueiterator",data:=.fields #[.ref d,.int 0 0,.int es.size 0,.int ep 0]}}):wpAny (model P w) A (pyIter (.ref v)) Q E s:=by
 obtain⟨ov,LO,hcv,LP⟩:=id hv;have a:Builtin.Dict_items.ownsTuple "dict_valueiterator"=false:=by decide
 refine wpAny_pyIter_slot hv.typeIs F.slot_dict_values_iter (wpAny_call_entry F.slot_dict_values_iter hv.typeIs F.entry_dict_values_iter ?_ (F.args_dict_values_iter_1 _));unfold Builtin.«dict_values.__iter__»;refine QT (QU (QT ?_));unfold Builtin.Dict_items.dictOf;refine QT (wpAny_field LO LP (x:=.ref d) rfl (QU (QT ?_)));unfold Builtin.Dict_items.newIterator;refine QT (wpAny_dictEntries c e (QT (wpAny_dictEpoch c e ?_)));simp only[a,fi,if_false];refine wpAny_newObj_type (QU ⟨_,rfl,"dict_valueiterator",_,⟨_,Qd _ rfl,rfl⟩,F.slot_dict_valueiterator_next.lookup,?_⟩);simpa[rawInt]using f
theorem iS(d:Addr)(a:(d==sysModules)=false):
  MeetsIn P w (Builtin.«dict.values» ⟨[.ref d],[]⟩) (λ_ R s=>s.TypeIs (.ref d) "dict"/\R (.ok (.ret (.ref s.heap.objs.size))) {s with heap:=s.heap.push {cls:=.type "dict_values",data:=.fields #[.ref d]}}):=
 .of_wp λA R s ⟨b,h⟩=>by
  refine QT ?_;unfold Builtin.Dict.noArgs;refine QT (wpAny_notOrdered_dict b ?_);show wpAny _ _ (pure d) _ _ s;refine QU ?_;show wpAny _ _ (Builtin.Dict.showsAll d >>=_) _ _ s;unfold Builtin.Dict.showsAll;rw[if_neg (λc=>vU (a.symm.trans c))];exact QT (QU (QT (wpAny_newObj_type (QU ⟨_,rfl,h⟩))))
def tz(b:TE):TI:=λZ H R=>b Z H λx H1=>∃a kvs o,x=.ref a/\H1 a=some (.af o (.dT kvs))/\R (LQ a o kvs) H1
theorem sH(m:SE X o to)(n:attributeBase o "values" X.env (eval o X.env)=eval o X.env:=by rfl)(p:(apos.endLine==cpos.line)=true:=by rfl):
  SI X tg (.Call (.Attribute o "values" apos) [] [] cpos) (tz to):=by
 constructor;intro c s k H R I h;refine wpAny_Call_method0_late n p (ay (m.h c s k H _ I h) ?_);rintro v d ⟨x,r,l,t,a,kvs,o,u,y,q⟩;subst u;cases t;obtain⟨e,z,yd,xs,rel,ob,es,ep,Y,h2,hd,h4,h5⟩:=(show br X.prog X.w _ d.heap a (.af o (.dT kvs))from l.hok a _ y)
 rw[e]at Y;cases Y;have A:=Paired.length rel;have f:es.size=kvs.length:=by rw[<- gT,h4,Ql];exact A.symm
 have g:d.TypeIs (.ref a) "dict":=⟨o,e,h2.1⟩
 refine⟨"dict","dict.values",kz,nh,PySem.F.type_dict_values,g,λb i=>by cases i;exact⟨o,e,h2.2.1⟩,Calls.callWith_builtin rfl (ng ?_)⟩;refine call_meetsIn nh g PySem.F.entry_dict_values (PySem.F.args_dict_values_1 _) (iS a yd) ⟨g,?_⟩;have j:Inv X c k r {d with heap:='k'}:=l.kept (t':=d.toks) λb o e=>Qc _ e;refine hU (es:=es) (ep:=ep) ⟨_,Qd _ rfl,rfl,rfl⟩ (Qc _ e) hd ?_;refine⟨_,[('k').objs.size],_,_,_,rfl,j.kept (t':=d.toks) λb o e=>Qc _ e,vH (kvs:=kvs) (a:=a) (o:=o) ⟨es,hd⟩,by rw[<- f];exact⟨_,Qd _ rfl,rfl,rfl⟩,λb i=>?_,q⟩;have e:b=('k').objs.size:=by simpa using i
 subst e;exact j.wj (Qz _) (j.hok.fresh (Qz _))
end
abbrev Road:=List aU
def Rq(F:List aj):Nat->Str->List (Road×Str)
 |0,e=>[([],e)]
 |n+1,e=>(az F e).flatMap λm=>(Rq F n m.2).map λq=>(m.1::q.1,q.2)
def oy(F:List aj)(n:Nat)(e:Str):List Road:=(Rq F n e).map (·.1)
section
variable{xs:bY}{F:List aj}
theorem RT.LU(rt:RT H a xs F ns ws)(d:∀z∈ws,Wd z){e:Str}(f:gg F ns e){m:aU×Str}(hm:m∈az F e):L2.jo F e m.1=some m.2/\gg F ns m.2:=by
 have c:=rt.Bv d f.1;have g:L2.jo F e m.1=some m.2:=by
  unfold L2.jo;have i:(jr F e).map (·.1)=((az F e).map (·.1)).map λm=>m.map (Sum.inr:Str->Key):=by simp[jr,Qn,QC]
  rw[i]at c;have b:((az F e).map (·.1)).Nodup:=(uT.mp c).imp λh z=>h (congrArg _ z);clear i c
  revert hm b
  generalize az F e=L;intro hm b
  induction L with
  |nil=>cases hm
  |cons x l ih=>
   rw[yV,uY]at b;rcases Qp.mp hm with rfl|hm
   ·simp[gV]
   ·have j:¬x.1=m.1:=λz=>b.1 (by rw[z];exact Z2.mpr ⟨m,hm,rfl⟩);rw[gV,Qx j];exact ih hm b.2
 exact⟨g,rt.jo d f g⟩
end
structure FL(H:Hp)(O:bY)(F:List (Road×Str)):Prop where
 len:O.length=F.length
 at_:∀i(h:i<O.length)(M:i<F.length),∃c b xs,O[i]=.ref c/\H c=some (.tup [.ref b,.str F[i].2])/\H b=some (.tup xs)/\SV H xs F[i].1
theorem FL.keep{H U:Hp}{O:bY}{F:List (Road×Str)}(h:FL H O F)(s:Tk H U)(e:∀b J,bj H b J->bj U b J):FL U O F:=⟨h.len,λi a b=>let ⟨c,d,xs,Y,h2,h3,h4⟩:=h.at_ i a b;⟨c,d,xs,Y,s _ _ h2,s _ _ h3,h4.keep e⟩⟩
theorem FL.same{H U:Hp}{O:bY}{F:List (Road×Str)}(h:FL H O F)(s:ae H U):FL U O F:=h.keep s.ts λ_ _ r=>r.same s
theorem FL.nil:FL H [] []:=⟨rfl,λi h=>absurd h (by simp)⟩
theorem FL.snoc{O:bY}{F:List (Road×Str)}(h:FL H O F){c:Addr}{xs:bY}{q:Road×Str}(d:H c=some (.tup [.ref b,.str q.2]))(e:H b=some (.tup xs))(f:SV H xs q.1):FL H (O++[.ref c]) (F++[q]):=by
 have a:=h.len;refine⟨by simp[a],λi g k=>?_⟩;by_cases av:i<O.length
 ·rw[Qe av,Qe (by lia)];exact h.at_ i av (by lia)
 ·have j:i=O.length:=by simp at g;lia
  subst j;rw[Qf (Qz _),Qf (by lia)];simp only[du,a,uJ];exact⟨c,b,xs,rfl,d,e,f⟩
theorem yF{a:Type}(f:α->List a)(l:List α)(i:Nat)(h:i<l.length):(l.take (i+1)).flatMap f=(l.take i).flatMap f++f l[i]:=by
 rw[Qs,Qa h,Option.toList_some,List.flatMap_append];simp only[np,List.flatMap_nil,QR]
section
variable{pos:Pos}
theorem rK{op:Operator}{a:FP}(b:X.N.Nodup)(c:X.N[i]? =some x)(d:Loc X.env.scope x)(f:SE X e te)(g:Kw X op a)(j:ib X x:=by first|exact .inl rfl|exact .inr rfl|assumption):
  SS X (.AugAssign (.Name x pos') op e pos) (OY i te a):=⟨Wr b c d f.h g j⟩
theorem GG(K:Q0){o:Expr}{id:String}{r:V->bY->Hp->VK->Prop}(a:PlainAttrs T)(slot:Slot T name id)(b:typeOf (.builtin id)=pure (.type "method_descriptor"))(c:Es X id r)(d:SE X o to)(h:X.K=K:=by rfl)
  (e:attributeBase o name X.env (eval o X.env)=eval o X.env:=by rfl) (f:(apos.endLine==cpos.line)=true:=by rfl):SE X (.Call (.Attribute o name apos) [] [] cpos) (Pc K T r to):=by
 subst h;exact⟨XO a slot b c d.h e f⟩
def HY(K:Q0)(a:TE):TT:=λZ H Q=>a Z H λx U=>∃k,KC K x U k/\Q k U
theorem FV(K:Q0){a:Expr}(c:SE X a ta)(h:X.K=K:=by rfl)(d:∀b,isTrue a X.env b=(do let v <- b;standAt a.pos;holding [v] (truthy v)):=by intro _;rfl):ST X a (HY K ta):=by
 subst h;exact⟨WZ c.h d⟩
theorem jI{c d:Type}{R:c->d->Prop}:∀{l:List c}{m:List d},l.length=m.length->(∀i(h:i<l.length)(M:i<m.length),R l[i] m[i])->Paired R l m
 | [],[],_,_=>.nil
 |a::l,b::m,hl,h=>.cons (h 0 (by simp) (by simp)) (jI (by simpa using hl) λi e f=>by
   have:=h (i+1) (by simpa using e) (by simpa using f);simpa using this)
 | [],_::_,hl,_=>absurd hl (by simp)
 |_::_,[],hl,_=>absurd hl (by simp)
def xi:bY->Hp->VK->Prop:=λxs H Q=>∃a kvs,xs=[.ref a]/\Rd H a (.dK kvs)/\∀l,H l=none->Q (.ref l) (upd H l (.lst (kvs.map λb=>kV b.1)))
theorem pQ(n:X.calm=true):n_ X (.type "list") xi:=by
 intro l s K H xs L Q I r h;obtain⟨a,kvs,rfl,hq,q⟩:=h;obtain⟨u,rfl,rx⟩:=vals1 r;cases rx;obtain⟨z,hd,vs,rel,dd⟩:=lW I.hok hq;obtain⟨ep,wx⟩:=dd.dictAt;have N:=rel.length;refine PySem.W.kdl_call (PySem.W.kdl_dict (knd:=cz X.prog X.w) (kvs:=vs) (ep:=ep) hd) (I.ok.hd n) wx (by lia) λo A b C c D d=>?_;have E:bg (kvs.map λf=>kV f.1) b.toList:=by
  obtain⟨n1,n2⟩:=d;have g:(kvs.map λf=>kV f.1).length=b.toList.length:=by
   have:=gT (xs:=b);rw[Ql];lia
  refine jI g λi m G=>?_;obtain⟨k,x,hx,c⟩:=n2 i b.toList[i] (by rw[<- md,Qa G]);rw[Ql]at m;obtain⟨q,lh,he,_⟩:=rL rel (i:=i) (p:=kvs[i]) (Qa m);rw[hx]at lh;cases lh;rw[Qr,<- he];rcases bH c with⟨j,t,rfl,e⟩|⟨y,t,rfl,e⟩|⟨rfl,e⟩<;>(rw[e];first|exact rfl|exact⟨t,rfl⟩)
 refine⟨.ref s.heap.objs.size,_,I.laid (t':=A) c (Qz _) (show br X.prog X.w _ o _ (.lst _)from⟨by rw[Ql];exact z,b.toList,C,E,by simpa using D⟩),rfl,q _ (I.hok.fresh (Qz _))⟩
end
abbrev kc:=List (Str×Option (Str×aU))
def jg(b:Str)(a:kc)(c:List (aU×Str)):kc:=c.foldl (λa m=>if m.2∈a.map (·.1)then a else a++[(m.2,some (b,m.1))]) a
def bu(F:List aj)(f:Str):Nat->kc
 |0=>[(f,none)]
 |i+1=>match(bu F f i)[i]? with
  |none=>bu F f i
  |some c=>jg c.1 (bu F f i) (az F c.1)
theorem fG(a:Str)(b:kc)(c:List (aU×Str))(m:aU×Str):jg a b (c++[m])=if m.2∈(jg a b c).map (·.1)then jg a b c else jg a b c++[(m.2,some (a,m.1))]:=by
 unfold jg;rw[ma];rfl
structure BI(F:List aj)(ns:aU)(i:Nat)(cb:kc):Prop where
 nd:(cb.map (·.1)).Nodup
 en:∀c∈cb,gg F ns c.1
 cl:∀j c,j<i->cb[j]? =some c->∀m∈az F c.1,m.2∈cb.map (·.1)
theorem BI.snoc{F:List aj}{d:kc}(h:BI F ns i d)(p:i<=d.length){e:Str}{x:Option (Str×aU)}(g:gg F ns e)(k:e∉d.map (·.1)):BI F ns i (d++[(e,x)]):=by
 refine⟨?_,λc hc=>?_,λj c l hc m n=>?_⟩
 ·rw[Qm,QaA];refine⟨h.nd,by simp,λa o b f=>?_⟩;rw[yV,List.map_nil,zO]at f;subst f;exact λz=>k (z▸o)
 ·rcases zH.mp hc with hc|hc
  ·exact h.en c hc
  ·rw[zO.mp hc];exact g
 ·rw[Qg (by lia)]at hc;rw[Qm];exact zH.mpr (.inl (h.cl j c l hc m n))
theorem dO:∀{l m:aU},l.Nodup->(∀x∈l,x∈m)->l.length<=m.length
 | [],m,_,_=>dm _
 |a::l,m,nd,h=>by
  have b:=h a yS;have d:=dO (l:=l) (m:=m.erase a) (uY.mp nd).2 λx c=>(List.mem_erase_of_ne (show x≠a from λz=>(uY.mp nd).1 (by rw[<- z];exact c))).mpr (h x (Qh _ c));rw[List.length_erase_of_mem b]at d;have e:=List.length_pos_of_mem b;rw[dV]
  lia
theorem BI.few{F:List aj}{a:kc}(h:BI F ns i a):a.length<=ns.length:=by
 have:=dO (m:=ns) h.nd λx b=>by
  obtain⟨c,hc,rfl⟩:=Z2.mp b;exact(h.en c hc).1
 simpa using this
def ES(H:Hp)(v:V):Option (Str×aU)->Prop
 |none=>v=.ao
 |some q=>∃t b,v=.ref t/\H t=some (.tup [.str q.1,.ref b])/\bj H b (q.2.map V.str)
theorem ES.keep{v:V}{o:Option (Str×aU)}(h:ES H v o)(s:Tk H U)(a:∀b J,bj H b J->bj U b J):ES U v o:=by
 cases o with
 |none=>exact h
 |some q=>
  obtain⟨t,b,Y,h2,h3⟩:=h;exact⟨t,b,Y,s _ _ h2,a _ _ h3⟩
def lu(H:Hp)(kvs:ca)(b:kc):Prop:=Paired (fun(a:Key×V)(c:Str×Option (Str×aU))=>a.1=.inr c.1/\ES H a.2 c.2) kvs b
theorem lu.keep{H U:Hp}{kvs:ca}{c:kc}(h:lu H kvs c)(s:Tk H U)(d:∀b J,bj H b J->bj U b J):lu U kvs c:=by
 unfold lu at*
 induction h with
 |nil=>exact .nil
 |cons a _ ih=>exact .cons ⟨a.1,a.2.keep s d⟩ ih
theorem lu.same{H U:Hp}{kvs:ca}{a:kc}(h:lu H kvs a)(s:ae H U):lu U kvs a:=h.keep s.ts λ_ _ r=>r.same s
theorem lu.snoc{kvs:ca}{b:kc}(h:lu H kvs b){e:Str}{v:V}{o:Option (Str×aU)}(q:ES H v o):lu H (kvs++[(.inr e,v)]) (b++[(e,o)]):=by
 unfold lu at*
 induction h with
 |nil=>exact .cons ⟨rfl,q⟩ .nil
 |cons a _ ih=>exact .cons a ih
theorem lu.keys{kvs:ca}{b:kc}(h:lu H kvs b):kvs.map (·.1)=b.map λc=>(.inr c.1:Key):=by
 unfold lu at*
 induction h with
 |nil=>rfl
 |cons a _ ih=>rw[yV,yV,a.1,ih]
theorem lu.GH{kvs:ca}{a:kc}(h:lu H kvs a)(e:Str):(a_ kvs (.inr e)).isSome=decide (e∈a.map (·.1)):=by
 have b:=h.keys;rw[jc,<- cQ,QaO,decide_eq_true_iff];constructor
 ·rintro⟨kv,Y,h2⟩;have:kv.1∈kvs.map (·.1):=Z2.mpr ⟨kv,Y,rfl⟩;rw[b,Qt h2]at this;obtain⟨c,hc,e'⟩:=Z2.mp this;exact Z2.mpr ⟨c,hc,eh e'⟩
 ·intro d;obtain⟨c,hc,rfl⟩:=Z2.mp d;have:(.inr c.1:Key)∈kvs.map (·.1):=by rw[b];exact Z2.mpr ⟨c,hc,rfl⟩
  obtain⟨kv,Y,h2⟩:=Z2.mp this;exact⟨kv,Y,Qw h2⟩
section
variable{iter kx vx:Expr}{pos:Pos}{tk tw:TE}
theorem IV{y:Str}{k c:Pos}(S:'m')(P:X.calm=true)(R:SI X tg iter wi)
  (T:∀d C f H0 fp j,SG (cy X N' sc d C f H0 fp j) tg g) (V:∀d C f H0 fp j,SC (cy X N' sc d C f H0 fp j) ifs tc) (he:∀d C f H0 fp j,SE (cy X N' sc d C f H0 fp j) kx tk) (hv:∀d C f H0 fp j,SE (cy X N' sc d C f H0 fp j) vx tw)
  (hN:X.N.Nodup) (Gd:X.N[i]? =some y) (E:X.env.scope.names.lookup y=some .local)
  (Ge:swapsWith (.DictComp kx vx [⟨tg,iter,ifs,0⟩] sc pos) (some (.Name y k)) c.line X.env=pure true:=by rfl)
  (hs:∀x,foldedSetIterable iter X.env x=pure x:=by intro _;rfl):SS X (.Assign [.Name y k] (.DictComp kx vx [⟨tg,iter,ifs,0⟩] sc pos) c) (zu (Lg own idx wi g tc tk tw) (jj i)):=by
 constructor;intro B s Z H D I h;obtain⟨d,uf,c1,c2⟩:=S.closure I.ok;rw[exec_Assign_Name_used _ _ _ _ Ge];refine QT (wpAny_standAt (QT ?_));show wpAny _ X.A (do let _ <- comprehension (.DictComp kx vx [⟨tg,iter,ifs,0⟩] sc pos) sc X.env _ newDict false (eval iter X.env) (some (assign (.Name y k) X.env))) _ _ s;refine QT (wpAny_mono (wpAny_comprehension_free (use:=some (assign (.Name y k) X.env)) (Q:=λ_ l=>SP X B D .next l) rfl hs uf S.kind S.names
  (ay (R.h B s Z H _ I h) λv s1 Y=>ay Y λud s2 h2=>?_)) (λ_ l hq=>QU (QU hq)) λ_ _ e=>e)
 refine m5 (Q:=λx H1=>jj i x Z H1 D.nx) (B:=B) (Z:=Z) (RR:=λn C=>compPost 'a' X.A X.xe (some (assign (.Name y k) X.env)) (λ_ l=>SP X B D .next l) n C) S c1 c2 P (λq r s t u v=>(T q r s t u v).h) (λq r s t u v=>(V q r s t u v).h) (λq r s t u v=>(he q r s t u v).h) (λq r s t u v=>(hv q r s t u v).h) h2 ?_;intro G C U l I' q ⟨a1,K,a3,L,a5,m,a6⟩;show wpAny _ X.A (assign (.Name y k) X.env (.ref G)) _ _ _;refine wpAny_assign_Name (lA (v:=.ref G) I' hN Gd (.inl E) rfl ?_ (.inr E));rintro p K5 ⟨a,sb,ha⟩;have K6:C≠a:=by
  rcases ha with z|z
  ·rw[z];exact K
  ·exact Ne.symm (L _ _ z)
 refine⟨m,a6.sameBut sb K6,λM Ew=>⟨_,U,K5.turned (t':=p.toks) (λb o hb e=>(Ew.2 b hb).trans e) a1 K (.inr a3) L a5,q⟩⟩
end
structure SL(H:Hp)(O:bY)(ss:List (aU×Str)):Prop where
 len:O.length=ss.length
 at_:∀i(h:i<O.length)(M:i<ss.length),∃c b,O[i]=.ref c/\H c=some (.tup [.ref b,.str ss[i].2])/\bj H b (ss[i].1.map V.str)
theorem SL.nil:SL H [] []:=⟨rfl,λi h=>absurd h (by simp)⟩
theorem SL.keep{O:bY}{e:List (aU×Str)}(h:SL H O e)(s:Tk H U)(f:∀b J,bj H b J->bj U b J):SL U O e:=⟨h.len,λi a b=>by
 obtain⟨c,d,Y,h2,h3⟩:=h.at_ i a b
 exact⟨c,d,Y,s _ _ h2,f _ _ h3⟩⟩
theorem SL.snoc{O:bY}{a:List (aU×Str)}(h:SL H O a){c:Addr}(e:H c=some (.tup [.ref b,.str q.2]))(f:bj H b (q.1.map V.str)):SL H (O++[.ref c]) (a++[q]):=by
 have d:=h.len;refine⟨by simp[d],λi g k=>?_⟩;by_cases av:i<O.length
 ·rw[Qe av,Qe (by lia)];exact h.at_ i av (by lia)
 ·have j:i=O.length:=by simp at g;lia
  subst j;rw[Qf (Qz _),Qf (by lia)];simp only[du,d,uJ];exact⟨c,b,rfl,e,f⟩
structure jp(H0 H:Hp)(kvs:ca)(R:aU)(f:Str->List (aU×Str)):Prop where
 len:kvs.length=R.length
 at_:∀i(h:i<kvs.length)(M:i<R.length),kvs[i].1=.inr R[i]/\∃l O,kvs[i].2=.ref l/\H0 l=none/\H l=some (.lst O)/\SL H O (f R[i])
 inj:∀i j(hi:i<kvs.length)(hj:j<kvs.length),kvs[i].2=kvs[j].2->i=j
theorem jp.keys{kvs:ca}{R:aU}(h:jp H0 H kvs R f):kvs.map (·.1)=R.map (Sum.inr:Str->Key):=by
 have c:=h.len;refine ga (by simp[c]) λi a b=>?_;rw[Ql]at a b;rw[Qr,Qr];exact(h.at_ i a b).1
theorem jp.same{c H U:Hp}{kvs:ca}{R:aU}{f:Str->List (aU×Str)}(h:jp c H kvs R f)(s:ae H U):jp c U kvs R f:=⟨h.len,λi a b=>by
 obtain⟨Y,l,O,h2,h3,h4,h5⟩:=h.at_ i a b
 exact⟨Y,l,O,h2,h3,s _ _ h4,h5.keep s.ts λ_ _ r=>r.same s⟩,h.inj⟩
theorem jp.off{kvs:ca}{R:aU}(h:jp H0 H kvs R f){D:Addr}{o u:HO}(c:H D=some o)(d:∀xs,o≠.tup xs)(e:∀q xs,o≠.af q (.tup xs))(g:∀xs,o≠.lst xs):jp H0 (upd H D u) kvs R f:=⟨h.len,λi a b=>by
 obtain⟨Y,l,O,h2,h3,h4,h5⟩:=h.at_ i a b
 refine⟨Y,l,O,h2,h3,?_,h5.keep ((Tk.refl).set c d) λj k r=>r.put c d e⟩;rw[aB λz=>?_]
 ·exact h4
 ·rw[z,c]at h4;exact g O (QE h4),h.inj⟩
theorem jp.put{kvs:ca}{R:aU}(h:jp H0 H kvs R f){e:Str}(g:H0 l=none)(k:H l=some (.lst []))(b:∀i(c:i<kvs.length),kvs[i].2≠.ref l)(m:f e=[]):jp H0 H (kvs++[(.inr e,.ref l)]) (R++[e]) f:=by
 have d:=h.len;refine⟨by simp[d],λi n s=>?_,λi j c o a=>?_⟩
 ·by_cases av:i<kvs.length
  ·rw[Qe av,Qe (by lia)];exact h.at_ i av (by lia)
  ·have p:i=kvs.length:=by simp at n;lia
   subst p;rw[Qf (Qz _),Qf (by lia)];simp only[du,d,uJ];exact⟨trivial,l,[],rfl,g,k,by rw[m];exact SL.nil⟩
 ·simp only[Qk,dV,nS]at c o;by_cases av:i<kvs.length<;>by_cases wz:j<kvs.length
  ·rw[Qe av,Qe wz]at a;exact h.inj i j av wz a
  ·have q:j=kvs.length:=by lia
   subst q;rw[Qe av,Qf (Qz _)]at a;simp only[du,uJ]at a;exact absurd a (b i av)
  ·have r:i=kvs.length:=by lia
   subst r;rw[Qe wz,Qf (Qz _)]at a;simp only[du,uJ]at a;exact absurd a.symm (b j wz)
  ·lia
theorem jp.push{kvs:ca}{R:aU}{a:Str->List (aU×Str)}(h:jp H0 H kvs R f)(p:R.Nodup){k:Nat}(r:k<kvs.length)(A:k<R.length){c:Addr}{O:bY}(hv:kvs[k].2=.ref l)(d:H l=some (.lst O))(s:H c=some (.tup [.ref b,.str q.2]))(t:bj H b (q.1.map V.str))
  (u:a R[k]=f R[k]++[q]) (w:∀e,e≠R[k]->a e=f e):jp H0 (upd H l (.lst (O++[.ref c]))) kvs R a:=by
 have g:Tk H (upd H l (.lst (O++[.ref c]))):=(Tk.refl).set d 'n';have j:∀m n,bj H m n->bj (upd H l (.lst (O++[.ref c]))) m n:=λm n h=>h.put d ('n') (λ_ _ z=>nomatch z);refine⟨h.len,λi o x=>?_,h.inj⟩;obtain⟨g1,l',qj,g2,g3,g4,g5⟩:=h.at_ i o x
 by_cases w_:i=k
 ·subst w_;rw[hv]at g2;cases g2;rw[d]at g4;cases g4;exact⟨g1,l,O++[.ref c],hv,g3,aA,by rw[u];exact(g5.keep g j).snoc (g _ _ s) (j _ _ t)⟩
 ·have y:l'≠l:=λz=>w_ (h.inj i k o r (by rw[g2,hv,z]));refine⟨g1,l',qj,g2,g3,by rw[aB y];exact g4,?_⟩;rw[w _ λz=>w_ ((jk p).mp z)];exact g5.keep g j
def Aj(F:List aj)(r e:Str)(a:List (aU×Str)):List (aU×Str):=(a.filter λm=>decide (m.2=e)).map λm=>(m.1,r)
def kg(F:List aj)(R:aU)(e:Str):List (aU×Str):=R.flatMap λr=>Aj F r e (az F r)
theorem uL(F:List aj)(r e:Str)(a:List (aU×Str)):(Aj F r e a).length<=a.length:=by
 unfold Aj;rw[Ql];exact mf _ _
theorem nM(F:List aj)(e:Str)(B:Nat):∀R:aU,(∀r∈R,(az F r).length<=B)->(kg F R e).length<=R.length*B
 | [],_=>by simp[kg]
 |r::R,h=>by
  have a:=nM F e B R λx b=>h x (Qh _ b);have c:=h r yS;have d:=uL F r e (az F r);unfold kg at a⊢;rw[np,Qk,dV,Nat.succ_mul]
  lia
def zm(F:List aj)(e:Str)(k:Nat):Prop:=oy F k e≠[]/\oy F (k+1) e=[]
def pb(hs:List (Str×Nat))(a:aU)(y:Str):Bool:=decide (y∈hs.map (·.1))&& !decide (y∈a)
structure HJ(F:List aj)(R:aU)(x:Str)(p:Str->Bool)(cnt:Str->Int)(S:List (aU×Str))(un:Str->Int)(hs:List (Str×Nat))(wt:aU):Prop where
 nd:(hs.map (·.1)).Nodup
 sub:∀y∈hs.map (·.1),y∈R
 wn:wt.Nodup
 ws:∀y∈wt,y∈hs.map (·.1)
 pp:∀y,pb hs wt y=(p y||decide (y=x))
 un_:∀r∈R,un r=cnt r-(S.countP (λq=>decide (q.2=r)):Int)
 z:∀r∈R,r∈hs.map (·.1)↔un r=0
 snd:∀q∈hs,zm F q.1 q.2
theorem HJ.skip{F:List aj}{R:aU}{p:Str->Bool}{cnt a:Str->Int}{S:List (aU×Str)}{hs:List (Str×Nat)}{c:aU}(h:HJ F R x p cnt S a hs c)(g:1<=a q.2)(d:a q.2-1≠0):HJ F R x p cnt (S++[q]) (λy=>if y=q.2 then a y-1 else a y) hs c:=by
 refine⟨h.nd,h.sub,h.wn,h.ws,h.pp,λr b=>?_,λr b=>?_,h.snd⟩
 ·have:=h.un_ r b;rw[List.countP_append];by_cases e:r=q.2
  ·subst e;simp;lia
  ·have f:q.2≠r:=λz=>e z.symm;simp[e,f];lia
 ·have:=h.z r b;by_cases e:r=q.2
  ·subst e;simp only[if_true];constructor
   ·intro z;have:=this.mp z;lia
   ·intro z;exact absurd z d
  ·simp only[e,if_false];exact this
def hv(hs:List (Str×Nat))(y:Str):Nat:=((hs.find? λq=>decide (q.1=y)).map (·.2)).getD 0
def yg:Hp->List (Addr×HO)->Hp
 |H,[]=>H
 |H,(a,o)::r=>yg (upd H a o) r
theorem fq.add{o:HO}(x:fq P w H h)(f:H a=none)(d:br P w (upd H a o) h a o):fq P w (upd H a o) h:=λb u e=>by
 by_cases hb:b=a
 ·subst hb;rw[aA]at e;cases e;exact d
 ·rw[aB hb]at e;exact(x b u e).stay (λc v _ q=>q) (λc q=>by rw[aB (aO q f)];exact q) λc i q=>q.upd λu g=>aO g f
theorem kW:∀(r:List (Addr×HO))(H:Hp),(∀q∈r,H q.1=none)->(r.map (·.1)).Nodup->ae H (yg H r)
 | [],H,_,_=>ae.refl _
 |(a,o)::r,H,hn,nd=>by
  have c:H a=none:=hn _ yS;rw[yV,uY]at nd;refine(ae.upd c o).trans (kW r _ (λq b=>?_) nd.2);rw[aB λz=>nd.1 (Z2.mpr ⟨q,b,z⟩)];exact hn q (Qh _ b)
theorem nW:∀(r:List (Addr×HO))(H:Hp)(b:Addr),b∉r.map (·.1)->yg H r b=H b
 | [],H,b,_=>rfl
 |(a,o)::r,H,b,hb=>by
  rw[yV,Qp,not_or]at hb;show yg (upd H a o) r b=_;rw[nW r _ b hb.2,aB hb.1]
theorem rW:∀(r:List (Addr×HO))(H:Hp),(r.map (·.1)).Nodup->∀q∈r,yg H r q.1=some q.2
 |(a,o)::r,H,nd,q,hq=>by
  rw[yV,uY]at nd;show yg (upd H a o) r q.1=_;rcases Qp.mp hq with rfl|hq
  ·rw[nW r _ _ nd.1,aA]
  ·exact rW r _ nd.2 q hq
theorem fq.yg:∀(r:List (Addr×HO))(H:Hp),fq P w H h->(∀q∈r,H q.1=none)->(r.map (·.1)).Nodup->(∀q∈r,∀U,br P w U h q.1 q.2)->fq P w (yg H r) h
 | [],H,x,_,_,_=>x
 |(a,o)::r,H,x,hn,nd,new=>by
  rw[yV,uY]at nd;refine fq.yg r _ (x.add (hn _ yS) (new _ yS _)) (λq b=>?_) nd.2 λq b=>new q (Qh _ b);rw[aB λz=>nd.1 (Z2.mpr ⟨q,b,z⟩)];exact hn q (Qh _ b)
theorem Inv.yg{t':Nat}(I:Inv X B Z H s)(k:∀b u,s.heap.get? b=some u->M.get? b=some u)(r:List (Addr×HO))(d:∀q∈r,s.heap.objs.size<=q.1)(e:(r.map (·.1)).Nodup)(a:∀q∈r,∀U,br X.prog X.w U M q.1 q.2):
  Inv X B Z (L2.yg H r) {s with heap:=M,toks:=t'}:=by
 have f:∀q∈r,H q.1=none:=λq g=>I.hok.fresh (d q g);have c:=kW r H f e;refine I.un ⟨λb u q _ _ _=>k b u q,λb u q _ _ _=>⟨u.slots,k b u q⟩,λb u q n _=>?_,λb u q _=>⟨u,k b u q⟩,λb h q=>c _ _ q,λb u h q=>c _ _ q,λb i q=>⟨#[],by rw[c _ _ q];simp⟩⟩ (fq.yg r H (I.hok.kept k) f e a);rw[nW r H b λz=>?_]
 ·exact n
 ·obtain⟨q',Y,h2⟩:=Z2.mp z;have:=d q' Y;rw[h2]at this;exact ft _ (jB (QA q) this)
section
variable{o f:Expr}{td ty tx:TE}
def Cu(c ty d:TE):TE:=λZ H Q=>c Z H λx H1=>∃a,x=.ref a/\KU H1 a/\ty Z H1 λy H2=>d Z H2 λz b=>∃kvs k,b a=some (.dK kvs)/\y=kV k/\kvs.length<sizeLine/\
 (∀v,a_ kvs k=some v->Q v b)/\(a_ kvs k=none->Q z (upd b a (.dK (kvs++[(k,z)]))))
theorem pW(E:SE X o td)(i:SE X e ty)(G:SE X f tx)(m:M2 X o "setdefault" apos e f cpos):SE X (.Call (.Attribute o "setdefault" apos) [e,f] [] cpos) (Cu td ty tx):=by
 constructor;intro b s j H Q I h;refine wpAny_Call_method m.base m.few m.line kz oa PySem.F.type_dict_setdefault (ay (E.h b s j H _ I h) ?_);rintro u K ⟨x,L,p,N,a,P,d,R⟩;subst P;obtain rfl:u=Value.ref a:=N;obtain⟨t1,t2,_⟩:=Pn p d;refine⟨t1,t2,?_⟩;rw[m.trees];refine Calls.callWith_builtin rfl (Calls.evalArgs_plain (Calls.spliced_cons (ay (i.h b K j L _ p R) λiv T ⟨y,V,I2,ry,q2⟩=>
  Calls.spliced_cons (ay (G.h b T j V _ I2 q2) λfv s3 ⟨z,r,l,t,kvs,k,A,ey,av,g1,g2⟩=>Calls.spliced_nil ?_))))
 subst ey;obtain⟨z',hd,vs,rel,dd⟩:=pE l.hok A;have hz:vs.length<=sizeLine:=by rw[<- rel.length];exact z'
 have c:=rel.val k;refine call_meetsIn oa dd.typeIs PySem.F.entry_dict_setdefault (pz _ _ _) (kt_meets_setdefault (cz X.prog X.w) a (h9 ry) hd fv) ⟨vs,dd,hz,λv hv=>?_,λhn M C hs=>?_⟩
 ·rw[hv]at c;cases g:a_ kvs k with
  |none=>rw[g]at c;exact(show False from c).elim
  |some v'=>
   rw[g]at c;exact⟨v',r,l.tok _,c,g1 v' g⟩
 ·rw[hn]at c;have g:a_ kvs k=none:=by
   cases g:a_ kvs k with
   |none=>rfl
   |some v'=>rw[g]at c;exact(show False from c).elim
  have n:=cA (kvs:=kvs) (k:=k) z g;have hl:(ci kvs k z).length<=sizeLine:=by have:=bU kvs k z;lia
  have i:∃q,M.get? a=some q:=let ⟨q,_,_,hq,_⟩:=C;⟨q,hq⟩
  have D:=dW (t':=s3.toks+1) l (by rw[A];exact True.intro) hs i (lJ (U:=upd r a (.dK (ci kvs k z))) hl hd (rel.put k t) C);rw[n]at D;exact⟨z,_,D,t,g2 g⟩
end
abbrev LR:=List (Str×Road)
def yh(a:LR)(r:Str):Road:=((a.find? λq=>decide (q.1=r)).map (·.2)).getD []
def LV(a:LR):Option (Str×aU)->Road
 |none=>[]
 |some q=>yh a q.1++[q.2]
def jh(b:kc):LR:=b.foldl (λa c=>a++[(c.1,LV a c.2)]) []
theorem tG(a:kc)(c:Str×Option (Str×aU)):jh (a++[c])=jh a++[(c.1,LV (jh a) c.2)]:=by
 unfold jh;rw[ma];rfl
theorem cJ{p:List α->Prop}(h0:p [])(hs:∀l a,p l->p (l++[a]))(l:List α):p l:=by
 rw[<- List.reverse_reverse l]
 induction l.reverse with
 |nil=>exact h0
 |cons a r ih=>rw[List.reverse_cons];exact hs _ _ ih
theorem dF(b:kc):(jh b).map (·.1)=b.map (·.1):=by
 induction b using cJ with
 |h0=>rfl
 |hs l a ih=>rw[tG,Qm,Qm,ih];rfl
def ly(H:Hp)(kvs:ca)(b:LR):Prop:=Paired (fun(a:Key×V)(q:Str×Road)=>a.1=.inr q.1/\∃t xs,a.2=.ref t/\H t=some (.tup xs)/\SV H xs q.2) kvs b
theorem ly.keep{H U:Hp}{kvs:ca}{c:LR}(h:ly H kvs c)(s:Tk H U)(d:∀b J,bj H b J->bj U b J):ly U kvs c:=by
 unfold ly at*
 induction h with
 |nil=>exact .nil
 |cons a _ ih=>
  obtain⟨Y,t,xs,h2,h3,h4⟩:=a;exact .cons ⟨Y,t,xs,h2,s _ _ h3,h4.keep d⟩ ih
theorem ly.same{H U:Hp}{kvs:ca}{a:LR}(h:ly H kvs a)(s:ae H U):ly U kvs a:=h.keep s.ts λ_ _ r=>r.same s
theorem ly.snoc{kvs:ca}{b:LR}(h:ly H kvs b){e:Str}{r:Road}{t:Addr}{xs:bY}(c:H t=some (.tup xs))(d:SV H xs r):ly H (kvs++[(.inr e,.ref t)]) (b++[(e,r)]):=by
 unfold ly at*
 induction h with
 |nil=>exact .cons ⟨rfl,t,xs,rfl,c,d⟩ .nil
 |cons a _ ih=>exact .cons a ih
theorem ly.keys{kvs:ca}{b:LR}(h:ly H kvs b):kvs.map (·.1)=(b.map (·.1)).map (Sum.inr:Str->Key):=by
 unfold ly at*
 induction h with
 |nil=>rfl
 |cons a _ ih=>rw[yV,yV,yV,a.1,ih]
theorem ly.GH{kvs:ca}{a:LR}(h:ly H kvs a)(e:Str):(a_ kvs (.inr e)).isSome=decide (e∈a.map (·.1)):=by
 have b:=h.keys;rw[jc,<- cQ,QaO,decide_eq_true_iff];constructor
 ·rintro⟨kv,Y,h2⟩;have:kv.1∈kvs.map (·.1):=Z2.mpr ⟨kv,Y,rfl⟩;rw[b,Qt h2]at this;obtain⟨c,hc,e'⟩:=Z2.mp this;rw[<- eh e'];exact hc
 ·intro d;have:(.inr e:Key)∈kvs.map (·.1):=by rw[b];exact Z2.mpr ⟨e,d,rfl⟩
  obtain⟨kv,Y,h2⟩:=Z2.mp this;exact⟨kv,Y,Qw h2⟩
def Ak(A:Around)(s:Shared)(y x:Value)(b:Bool):Prop:=
 ∀(prog:Program)(w:World)(E:Value->Shared->Prop)(Q:Value->Shared->Prop),Q (.bool b) s->wpAny 'f' A (richCompare .Lt y x) Q E s
theorem vV (l b:Addr) (f a:Array Value) (n D:Nat) (dd E:Option Addr) (G H:Array cv) (e:Nat->Bool) (j:Nat) (c:Bool):
  Meets (Builtin.«tuple.__lt__» ⟨[.ref l,.ref b],[]⟩)
   (λA R s=>s.heap.get? l=some {cls:=.type "tuple",dict:=dd,data:=.seq f n,slots:=G}/\s.heap.get? b=some {cls:=.type "tuple",dict:=E,data:=.seq a D,slots:=H}/\
    (∃ (q:j < f.size) (r:j < a.size),(∀ i (g1:i < f.size) (g2:i < a.size),i<=j->SeqAt.EqAt A.in1 s f[i] a[i] (e i))/\(∀ i,i < j->e i=true)/\e j=false/\Ak A.in1 s f[j] a[j] c)/\
    R (.ok (.ret (.bool c))) s):=
 .of_wp λk w A R s h=>by
  obtain ⟨I,g,d,K,L⟩:=s;obtain ⟨N,P,⟨Iz,Rt,Q,T,V,hc⟩,h⟩:=h
  have f2:=AutoSeq1.sub_tuple_tuple
  have t:(f.toList.zip a.toList).length=min f.size a.size:=by simp
  wp_walk using wpAny_loadPart' N,wpAny_loadPart' P,wpAny_forIn_list _ (λm b p=>b.1=none/\p=⟨I,g,d,K,L⟩/\∃ i,m=(f.toList.zip a.toList).drop i/\i<=j) _
  case turn=>
   rintro ⟨y,x⟩ m b p ⟨LX,rfl,i,o,u⟩
   have z:i < (f.toList.zip a.toList).length:=by
    rcases Nat.lt_or_ge i (f.toList.zip a.toList).length with M | M
    ·exact M
    ·rw [List.drop_of_length_le M] at o;cases o
   have C:i < min f.size a.size:=t▸z
   have q:i < f.size:=jB C (Nat.min_le_left _ _)
   have r:i < a.size:=jB C (Nat.min_le_right _ _)
   rw [QN z] at o
   injection o with Rv abc
   have hy:y=f[i]:=by have:=congrArg Prod.fst Rv;simpa using this
   have hx:x=a[i]:=by have:=congrArg Prod.snd Rv;simpa using this
   subst hy hx
   refine QT (Q i q r u k w _ _ ?_)
   by_cases ye:i=j
   ·subst ye
    rw [V]
    rw [if_pos (by rfl)]
    refine QT (wpAny_rule (QT (hc k w _ _ ?_)))
    wp_walk
    exact ⟨_,rfl,h⟩
   ·rw [T i (by lia)]
    wp_walk
    exact ⟨rfl,rfl,i+1,abc,by lia⟩
  case fin=>
   rintro ⟨b1,b2⟩ p ⟨LX,rfl,i,o,u⟩
   exfalso
   rcases Nat.lt_or_ge i (f.toList.zip a.toList).length with M | M
   ·rw [QN M] at o;cases o
   ·rw [t] at M;lia
  case h=>
   exact ⟨rfl,rfl,0,rfl,by lia⟩
theorem Ak.tuples{d a:Array Value}{e:Nat->Bool}{c:Bool}(g:s.heap.IsTuple l d)(k:s.heap.IsTuple b a)(m:A.units<cLine)(o:j<d.size)(p:j<a.size)
  (q:∀i(y:i<d.size)(g2:i<a.size),i<=j->SeqAt.EqAt A.in1 s d[i] a[i] (e i)) (r:∀i,i<j->e i=true) (t:e j=false) (u:Ak A.in1 s d[j] a[j] c):Ak A s (.ref l) (.ref b) c:=λf w E Q h=>by
 obtain⟨⟨cls,dd,data,sl⟩,ho,uf,n,hd⟩:=id g;obtain⟨⟨O9,B8,data2,B9⟩,AL,qy,n2,hd2⟩:=id k;simp only at uf hd qy hd2;subst uf hd qy hd2;exact richCompare_meets_room (op:=.Lt) ⟨_,ho,rfl⟩ ⟨_,AL,rfl⟩ F.slot_tuple_lt F.entry_tuple_lt (F.args_tuple_lt_2 _ _) (vV l b d a n n2 dd B8 sl B9 e j c)
  ⟨ho,AL,⟨o,p,q,r,t,u⟩,show Value.bool c≠Value.notImplemented/\Q (.bool c) s from⟨(λx=>nomatch x),h⟩⟩ m
def um(xs J:aU):Prop:=∃j,∃(Y:j<xs.length)(h2:j<J.length),(∀i(a:i<xs.length)(g2:i<J.length),i<j->xs[i]=J[i])/\xs[j]≠J[j]/\decide (J[j].cps.toList<xs[j].cps.toList)=false
def ou(r q:Road):Prop:=∃j,∃(Y:j<r.length)(h2:j<q.length),(∀i(a:i<r.length)(g2:i<q.length),i<j->r[i]=q[i])/\r[j]≠q[j]/\um r[j] q[j]
theorem Ak.str{A:Around}{s:Shared}(i j:Str)(t t':Tok):Ak A s (.str i t) (.str j t') (decide (i.cps.toList<j.cps.toList)):=λa w E Q h=>lt_str h
theorem GQ(I:Inv X B Z H s){xs J:aU}(n:bj H a (xs.map V.str))(o:bj H b (J.map V.str))(p:um xs J)(u:A.units+2<cLine):Ak A s (.ref b) (.ref a) false:=by
 obtain⟨j,j1,j2,Bh,ir,hl⟩:=p;obtain⟨i1,r1,p1,_⟩:=I.tuple (.inl n);obtain⟨i2,r2,p2,_⟩:=I.tuple (.inl o);have q:=r1.length;have r:=r2.length;rw[Ql]at q r;have f:∀i(g:i<i1.toArray.size)(k:i<xs.length),∃t,i1.toArray[i]=.str xs[i] t:=λi g k=>by
  obtain⟨w1,e1,q1⟩:=r1.get (i:=i) (x:=.str xs[i]) (by simp[k]);obtain⟨t,rfl⟩:=q1;exact⟨t,by rw[Qa (by simpa using g)]at e1;simpa using e1⟩
 have h:∀i(g:i<i2.toArray.size)(k:i<J.length),∃t,i2.toArray[i]=.str J[i] t:=λi g k=>by
  obtain⟨w1,e1,q1⟩:=r2.get (i:=i) (x:=.str J[i]) (by simp[k]);obtain⟨t,rfl⟩:=q1;exact⟨t,by rw[Qa (by simpa using g)]at e1;simpa using e1⟩
 refine Ak.tuples (e:=λi=>J.getD i ""==xs.getD i "") (j:=j) p2 p1 (by lia) (by simp;lia) (by simp;lia) (λi l g2 m=>?_) (λi m=>?_) ?_ ?_
 ·have c:i<xs.length:=by simp at g2;lia
  have d:i<J.length:=by simp at l;lia
  obtain⟨t1,e1⟩:=f i g2 c;obtain⟨t2,e2⟩:=h i l d;rw[e1,e2];have:=mD (A:=A.in1) (s:=s) J[i] t2 xs[i] t1;simpa[Qb,Qa c,Qa d]using this
 ·have c:i<xs.length:=by lia
  have d:i<J.length:=by lia
  simp[Qb,Qa c,Qa d,Bh i c d m]
 ·simp[Qb,Qa j1,Qa j2,Ne.symm ir]
 ·obtain⟨t1,e1⟩:=f j (by simp;lia) j1;obtain⟨t2,e2⟩:=h j (by simp;lia) j2;rw[e1,e2,<- hl];exact Ak.str _ _ _ _
theorem xb(I:Inv X B Z H s){xs J:bY}{r q:Road}(t:H a=some (.tup xs))(u:H b=some (.tup J))(h:SV H xs r)(l:SV H J q)(w:ou r q)(x:A.units+4<cLine):Ak A s (.ref b) (.ref a) false:=by
 obtain⟨j,j1,j2,Bh,ir,hl⟩:=w;obtain⟨i1,r1,p1,_⟩:=I.tuple (ak.of t);obtain⟨i2,r2,p2,_⟩:=I.tuple (ak.of u);have y:=r1.length;have z:=r2.length;have C:=h.len;have D:=l.len;have m:∀i(g:i<i1.toArray.size)(k:i<r.length),∃c,i1.toArray[i]=.ref c/\bj H c (r[i].map V.str):=λi g k=>by
  obtain⟨c,e1,d⟩:=h.at_ i (by lia) k
  obtain⟨w1,f1,q1⟩:=r1.get (Qa (show i<xs.length by lia));rw[e1]at q1;cases q1;exact⟨c,by rw[Qa (by simpa using g)]at f1;simpa using f1,d⟩
 have n:∀i(g:i<i2.toArray.size)(k:i<q.length),∃c,i2.toArray[i]=.ref c/\bj H c (q[i].map V.str):=λi g k=>by
  obtain⟨c,e1,d⟩:=l.at_ i (by lia) k
  obtain⟨w1,f1,q1⟩:=r2.get (Qa (show i<J.length by lia));rw[e1]at q1;cases q1;exact⟨c,by rw[Qa (by simpa using g)]at f1;simpa using f1,d⟩
 refine Ak.tuples (e:=λi=>decide (q.getD i []=r.getD i [])) (j:=j) p2 p1 (by lia) (by simp;lia) (by simp;lia) (λi o g2 p=>?_) (λi p=>?_) ?_ ?_
 ·have d:i<r.length:=by simp at g2;lia
  have f:i<q.length:=by simp at o;lia
  obtain⟨c1,e1,t1⟩:=m i g2 d;obtain⟨c2,e2,t2⟩:=n i o f;rw[e1,e2];have:=xG I t2 t1 (A:=A.in1) (by rw[gZ];lia);simpa[Qb,Qa d,Qa f]using this
 ·have d:i<r.length:=by lia
  have f:i<q.length:=by lia
  simp[Qb,Qa d,Qa f,Bh i d f p]
 ·simp[Qb,Qa j1,Qa j2,Ne.symm ir]
 ·obtain⟨c1,e1,t1⟩:=m j (by simp;lia) j1;obtain⟨c2,e2,t2⟩:=n j (by simp;lia) j2;rw[e1,e2];exact GQ I t1 t2 hl (A:=A.in1) (by rw[gZ];lia)
theorem Fn(I:Inv X B Z H s){xs J:bY}{r q:Road}(n:H a=some (.tup xs))(h:H b=some (.tup J))(l:SV H xs r)(m:SV H J q)(p:ou r q)(y:A.units+4<cLine):SeqAt.EqAt A s (.ref b) (.ref a) false:=by
 obtain⟨j,j1,j2,Bh,ir,hl⟩:=p;obtain⟨i1,r1,p1,_⟩:=I.tuple (ak.of n);obtain⟨i2,r2,p2,_⟩:=I.tuple (ak.of h);have C:=r1.length;have D:=r2.length;have E:=l.len;have G:=m.len;have t:b≠a:=λz=>by
  subst z;rw[n]at h;cases h;obtain⟨c,e1,d⟩:=l.at_ j (by lia) j1
  obtain⟨c',e2,f⟩:=m.at_ j (by lia) j2
  rw[e1]at e2;cases e2;exact ir (nO (d.inj f))
 have u:∀i(g:i<i1.toArray.size)(k:i<r.length),∃c,i1.toArray[i]=.ref c/\bj H c (r[i].map V.str):=λi g k=>by
  obtain⟨c,e1,d⟩:=l.at_ i (by lia) k
  obtain⟨w1,f1,q1⟩:=r1.get (Qa (show i<xs.length by lia));rw[e1]at q1;cases q1;exact⟨c,by rw[Qa (by simpa using g)]at f1;simpa using f1,d⟩
 have w:∀i(g:i<i2.toArray.size)(k:i<q.length),∃c,i2.toArray[i]=.ref c/\bj H c (q[i].map V.str):=λi g k=>by
  obtain⟨c,e1,d⟩:=m.at_ i (by lia) k
  obtain⟨w1,f1,q1⟩:=r2.get (Qa (show i<J.length by lia));rw[e1]at q1;cases q1;exact⟨c,by rw[Qa (by simpa using g)]at f1;simpa using f1,d⟩
 have:=pj (A:=A) (e:=λi=>decide (q.getD i []=r.getD i [])) p2 p1 (by lia) λi o g2=>by
  have d:i<r.length:=by simp at g2;lia
  have f:i<q.length:=by simp at o;lia
  obtain⟨c1,e1,t1⟩:=u i g2 d;obtain⟨c2,e2,t2⟩:=w i o f;rw[e1,e2];have:=xG I t2 t1 (A:=A.in1) (by rw[gZ];lia);simpa[Qb,Qa d,Qa f]using this
 have e:((List.range (min i2.toArray.size i1.toArray.size)).all (λi=>decide (q.getD i []=r.getD i []))&&i2.toArray.size==i1.toArray.size)=false:=by
  have x:(List.range (min i2.toArray.size i1.toArray.size)).all (λi=>decide (q.getD i []=r.getD i []))=false:=by
   rw[List.all_eq_false];refine⟨j,Qag.mpr (by simp;lia),?_⟩;simp[Qb,Qa j1,Qa j2,Ne.symm ir]
  rw[x];rfl
 rw[e]at this;exact ox t this
end L2
namespace L2
open PySem PySem.Spec PyProof.Rows PySem.W
theorem Rw{a:Nat->Nat->(Bool->Shared->Prop)->Shared->Prop}{N:Nat}{s:Shared}{G:Nat->Shared->Prop}(b:∀k,1<=k->k<N->∀C:Bool->Shared->Prop,C false s->a k (k-1) C s)(d:G N s):
  ∀f m,1<=m->m+f=N->(kas_asc (List.toArray (List.range N)) f m).kasWp a G s
 |0,m,Y,h=>by
  have:m=N:=by lia
  subst this;exact d
 |f+1,m,Y,h=>by
  have e:(List.toArray (List.range N)).getD m 0=m:=by simp[Array.getD,show m<N by lia]
  have g:(List.toArray (List.range N)).getD (m-1) 0=m-1:=by simp[Array.getD,show m-1<N by lia]
  show(KasT.ask ((List.toArray (List.range N)).getD m 0) ((List.toArray (List.range N)).getD (m-1) 0) λc=>if c=true then .ret m else kas_asc (List.toArray (List.range N)) f (m+1)).kasWp a G s;rw[e,g];exact b m Y (by lia) _ (Rw b d f (m+1) (by lia) (by lia))
theorem pP{R:Value->Value->Prop}:∀a:cq,(∀v∈a,∃f,R v f)->∃fs,Paired R a fs
 | [],_=>⟨[],.nil⟩
 |v::a,h=>by
  obtain⟨f,hf⟩:=h v yS;obtain⟨fs,hfs⟩:=pP a λb hv=>h b (Qh _ hv);exact⟨f::fs,.cons hf hfs⟩
theorem vE{vs b:cq}(p:Paired (λv f=>∃a o xs n,v=Value.ref a/\h.get? a=some o/\o.cls=Value.type "tuple"/\o.data=.seq xs n/\xs[0]? =some f) vs b):KatTups h vs b:=by
 induction p with
 |nil=>trivial
 |cons a _ ih=>exact⟨a,ih⟩
theorem w9{c:Type}{R d:α->c->Prop}(h:∀a b,R a b->d a b){l:List α}{m:List c}(p:Paired R l m):Paired d l m:=by
 induction p with
 |nil=>exact .nil
 |cons a _ ih=>exact .cons (h _ _ a) ih
theorem qO{c:Type}{R:α->c->Prop}{P:c->Prop}(h:∀a b,R a b->P b){l:List α}{m:List c}(p:Paired R l m):∀b∈m,P b:=by
 induction p with
 |nil=>intro b hb;cases hb
 |cons a _ ih=>
  intro b hb;rcases Qp.mp hb with rfl|hb
  ·exact h _ _ a
  ·exact ih b hb
end L2
namespace L2
open PySem PySem.Spec PyProof.Rows
def dd(seen:aU):List (Road×Str)->LR
 | []=>[]
 |q::P=>if q.2∈seen then dd seen P else(q.2,q.1)::dd (seen++[q.2]) P
theorem xP(s:aU)(q:Road×Str)(P:List (Road×Str)):dd s (q::P)=if q.2∈s then dd s P else(q.2,q.1)::dd (s++[q.2]) P:=rfl
theorem iO(N:List (Road×Str)):∀(P:List (Road×Str))(s:aU),dd s (P++N)=dd s P++dd (s++(dd s P).map (·.1)) N
 | [],s=>by simp[dd]
 |q::P,s=>by
  rw[hE,xP,xP];by_cases h:q.2∈s
  ·rw[if_pos h,if_pos h];exact iO N P s
  ·rw[if_neg h,if_neg h,iO N P,hE,yV];simp[QQ]
theorem Ev{a x:LR}{e:Str}(h:e∈a.map (·.1)):yh (a++x) e=yh a e:=by
 unfold yh;rw[List.find?_append];cases hf:a.find? λq=>decide (q.1=e)with
 |none=>
  obtain⟨q,Y,h2⟩:=Z2.mp h;have:=Qa4.mp hf q Y;simp[h2]at this
 |some q=>rfl
theorem pT{a:Str}{b:kc}(d:a∈b.map (·.1))(c:List (aU×Str)):jh (jg a b c)=jh b++dd (b.map (·.1)) (c.map λm=>(yh (jh b) a++[m.1],m.2)):=by
 induction c using cJ with
 |h0=>simp[jg,dd]
 |hs l m ih=>
  have e:(jg a b l).map (·.1)=b.map (·.1)++(dd (b.map (·.1)) (l.map λm=>(yh (jh b) a++[m.1],m.2))).map (·.1):=by
   rw[<- dF (jg a b l),ih,Qm,dF]
  rw[fG,Qm,iO,<- QQ,<- ih,<- e];show _=_++dd _ [(yh (jh b) a++[m.1],m.2)];unfold dd;by_cases h:m.2∈(jg a b l).map (·.1)
  ·rw[if_pos h,if_pos h];simp[dd]
  ·rw[if_neg h,if_neg h,tG];have f:yh (jh (jg a b l)) a=yh (jh b) a:=by
    rw[ih];exact Ev (by rw[dF];exact d)
   show jh (jg a b l)++[(m.2,yh (jh (jg a b l)) a++[m.1])]=_;rw[f];simp[dd]
theorem GF{a:LR}(b:(a.map (·.1)).Nodup){e:Str}{r:Road}(h:(e,r)∈a):yh a e=r:=by
 induction a with
 |nil=>cases h
 |cons q l ih=>
  rw[yV,uY]at b;unfold yh;rw[gV];by_cases hq:q.1=e
  ·rw[Qw hq];rcases Qp.mp h with h|h
   ·rw[<- h];rfl
   ·exact absurd (Z2.mpr ⟨_,h,hq.symm⟩) b.1
  ·rw[Qx hq];rcases Qp.mp h with h|h
   ·rw[<- h]at hq;exact absurd rfl hq
   ·exact ih b.2 h
structure QI(F:List aj)(f:Str)(i:Nat)(found:LR)(P:List (Road×Str)):Prop where
 fd:found=(jh (bu F f i)).take i
 pd:dd (found.map (·.1)) P=(jh (bu F f i)).drop i
theorem QI.start(F:List aj)(f:Str):QI F f 0 [] [([],f)]:=⟨by simp,by simp[dd,bu,jh,LV]⟩
theorem QI.old{F:List aj}{f:Str}{a:LR}{q:Road×Str}{P:List (Road×Str)}(h:QI F f i a (q::P))(b:q.2∈a.map (·.1)):QI F f i a P:=by
 refine⟨h.fd,?_⟩;have:=h.pd;unfold dd at this;rw[if_pos b]at this;exact this
theorem QI.new{F:List aj}{f:Str}{a:LR}{q:Road×Str}{P:List (Road×Str)}(n:((bu F f i).map (·.1)).Nodup)(h:QI F f i a (q::P))(o:q.2∉a.map (·.1)):i<(bu F f i).length/\QI F f (i+1) (a++[(q.2,q.1)]) (P++(az F q.2).map λm=>(q.1++[m.1],m.2)):=by
 have b:=h.pd;unfold dd at b;rw[if_neg o]at b;have u:(jh (bu F f i)).length=(bu F f i).length:=by have:=congrArg List.length (dF (bu F f i));simpa using this
 have d:i<(jh (bu F f i)).length:=by
  rcases Nat.lt_or_ge i (jh (bu F f i)).length with M|M
  ·exact M
  ·rw[List.drop_of_length_le M]at b;cases b
 rw[QN d]at b;injection b with Dv F5;have e:i<(bu F f i).length:=by lia
 have g:(bu F f i)[i].1=q.2:=by
  have p:((jh (bu F f i)).map (·.1))[i]'(by rw[Ql];exact d)=q.2:=by rw[Qr,<- Dv]
  have r:=dF (bu F f i);have j:((bu F f i).map (·.1))[i]'(by rw[Ql];exact e)=q.2:=by
   rw[<- p];congr 1;exact r.symm
  rw[Qr]at j;exact j
 have k:bu F f (i+1)=jg q.2 (bu F f i) (az F q.2):=by
  show(match(bu F f i)[i]? with|none=>bu F f i|some c=>jg c.1 (bu F f i) (az F c.1))=_;rw[Qa e];dsimp only;rw[g]
 have l:q.2∈(bu F f i).map (·.1):=by rw[<- g];exact Z2.mpr ⟨_,Qj e,rfl⟩
 have s:yh (jh (bu F f i)) q.2=q.1:=GF (by rw[dF];exact n) (by rw[Dv];exact Qj d);refine⟨e,?_,?_⟩
 ·rw[k,pT l,List.take_append_of_le_length (by lia),Qs,Qa d,<- Dv,h.fd];rfl
 ·rw[k,pT l,s,List.drop_append_of_le_length (by lia),iO,Qm,yV,List.map_nil,F5];congr 1;congr 1;rw[<- F5,<- dF (bu F f i)];have t:(jh (bu F f i))=(jh (bu F f i)).take i++((jh (bu F f i))[i]::(jh (bu F f i)).drop (i+1)):=by
   rw[<- QN d,List.take_append_drop]
  rw[F5,h.fd]
  conv=>rhs;rw[t]
  rw[Qm,yV,<- Dv];simp
theorem uM{a b:Str}(h:vj a b=true):a≠b/\decide (b.cps.toList<a.cps.toList)=false:=by
 unfold vj at h;have c:=Qt h;refine⟨λz=>?_,Qx λd=>?_⟩
 ·subst z;exact List.lt_irrefl _ c
 ·exact List.lt_irrefl _ (List.lt_trans c d)
theorem um.ne{xs J:aU}(h:um xs J):xs≠J:=λz=>by
 subst z;obtain⟨j,Y,h2,_,h3,_⟩:=h;exact h3 rfl
theorem GV(w:Str){a b:Str}(h:vj a b=true):um [w,a] [w,b]:=by
 obtain⟨Y,h2⟩:=uM h;refine⟨1,by simp,by simp,λi c g2 d=>?_,Y,h2⟩;have:i=0:=by lia
 subst this;rfl
theorem za:um ["from"] ["to"]:=⟨0,by simp,by simp,λi b g2 a=>absurd a (by lia),by decide,by decide⟩
theorem ou.ext{r q:Road}(h:ou r q)(s t:aU):ou (r++[s]) (q++[t]):=by
 obtain⟨j,Y,h2,hp,hn,hs⟩:=h;refine⟨j,by simp;lia,by simp;lia,λi b g2 a=>?_,?_,?_⟩
 ·rw[Qe (by lia),Qe (by lia)];exact hp i (by lia) (by lia) a
 ·rw[Qe Y,Qe h2];exact hn
 ·rw[Qe Y,Qe h2];exact hs
theorem ou.step(r:Road){s t:aU}(h:um s t):ou (r++[s]) (r++[t]):=by
 refine⟨r.length,by simp,by simp,λi b g2 a=>?_,?_,?_⟩
 ·rw[Qe a,Qe a]
 ·simp only[Qf (Qz _),du,uJ];exact h.ne
 ·simp only[Qf (Qz _),du,uJ];exact h
theorem uD:∀{h:Hd},h.ok ns->h.bh.Pairwise λm b=>um m.1 b.1
 | .one _,_=>.nil
 | .as _,_=>.nil
 | .way x y,_=>by
  show List.Pairwise _ [((["from"]:aU),x),(["to"],y)];exact .cons (λm a=>by rw[zO.mp a];exact za) (.cons (λm a=>nomatch a) .nil)
 | .prs s ps,ok=>by
  show List.Pairwise _ (ps.map λp=>(([if s="box" then"part" else"case",p.1]:aU),p.2));rw[uT];have:=lD ok.2.2.1;rw[uT]at this;exact this.imp λh=>GV _ h
theorem RT.abl{xs:bY}{F:List aj}(rt:RT H a xs F ns ws)(b:∀z∈ws,Wd z)(c:x∈ns):(az F x).Pairwise λm d=>um m.1 d.1:=by
 unfold az;rw[uT];exact uD (rt.Bp b c).2.2
theorem Db{F:List (Road×Str)}{q:Road×Str}(b:F.Pairwise λp a=>ou p.1 a.1)(c:∀p∈F,∃r s,p.1=r++[s]/\ou r q.1)(d:ms.Pairwise λm f=>um m.1 f.1):(F++ms.map λm=>(q.1++[m.1],m.2)).Pairwise λp a=>ou p.1 a.1:=by
 rw[List.pairwise_append];refine⟨b,?_,λp g a i=>?_⟩
 ·rw[uT];exact d.imp λh=>ou.step _ h
 ·obtain⟨m,_,rfl⟩:=Z2.mp i;obtain⟨r,s,e,h⟩:=c p g;rw[e];exact h.ext _ _
theorem Bi{F:List aj}{a:Str}(e:List (aU×Str)):∀{d:kc},(d.map (·.1)).Nodup->(∀c∈d,gg F ns c.1)->(∀m∈e,gg F ns m.2)->((jg a d e).map (·.1)).Nodup/\∀c∈jg a d e,gg F ns c.1:=by
 induction e using cJ with
 |h0=>exact λf g _=>⟨f,g⟩
 |hs l m ih=>
  intro d f g h;obtain⟨g1,g2⟩:=ih f g λk n=>h k (zH.mpr (.inl n));rw[fG];split
  ·exact⟨g1,g2⟩
  ·next hn=>
   have b:=BI.snoc (x:=some (a,m.1)) (i:=0) ⟨g1,g2,λj c o=>absurd o (by lia)⟩ (dm _) (h m (zH.mpr (.inr (by simp)))) hn;exact⟨b.nd,b.en⟩
theorem RT.Rz{H:Hp}{a:Addr}{xs:bY}{F:List aj}{b ws:aU}(rt:RT H a xs F b ws)(e:∀z∈ws,Wd z){f:Str}(g:gg F b f):∀i,((bu F f i).map (·.1)).Nodup/\∀c∈bu F f i,gg F b c.1
 |0=>⟨by simp[bu],λc d=>by rw[zO.mp d];exact g⟩
 |i+1=>by
  obtain⟨Y,h2⟩:=RT.Rz rt e g i;show(List.map (λc:Str×Option (Str×aU)=>c.1) (match(bu F f i)[i]? with|none=>bu F f i|some c=>jg c.1 (bu F f i) (az F c.1))).Nodup/\∀c∈(match(bu F f i)[i]? with|none=>bu F f i|some c=>jg c.1 (bu F f i) (az F c.1)),gg F b c.1;cases d:(bu F f i)[i]? with
  |none=>exact⟨Y,h2⟩
  |some c=>exact Bi _ Y h2 λm h=>(rt.LU e (h2 c (QD d)) h).2
theorem jD{F:List aj}{f:Str}{i:Nat}(h:(bu F f i).length=i):∀k,bu F f (i+k)=bu F f i
 |0=>rfl
 |k+1=>by
  have ih:=jD h k;show(match(bu F f (i+k))[i+k]? with|none=>bu F f (i+k)|some c=>jg c.1 (bu F f (i+k)) (az F c.1))=_;rw[ih,pc (by lia)]
theorem pZ{F:List aj}{f:Str}(a:(bu F f i).length=i)(b:(bu F f j).length=j):i=j:=by
 rcases Nat.le_total i j with h|h
 ·have:=jD a (j-i);rw[show i+(j-i)=j by lia]at this;rw[this,a]at b;exact b
 ·have:=jD b (i-j);rw[show j+(i-j)=i by lia]at this;rw[this,b]at a;exact a.symm
theorem QI.fin{F:List aj}{f:Str}{a:LR}(h:QI F f i a [])(d:a.length=i):(bu F f i).length=i/\a=jh (bu F f i):=by
 have e:(jh (bu F f i)).length=(bu F f i).length:=by have:=congrArg List.length (dF (bu F f i));simpa using this
 have c:=congrArg List.length h.fd;have b:([]:LR).length=_:=congrArg List.length h.pd;rw[u9]at c;rw[List.length_drop]at b;simp only[nS]at b;have:(bu F f i).length=i:=by lia
 exact⟨this,by rw[h.fd,iT (by lia)]⟩
end L2
namespace L2
open PySem PySem.Spec PyProof.Rows PySem.W
end L2
namespace L2
open PySem PySem.Spec PyProof.Rows
inductive Th where
 |pick (w:Str) (t:Th)
 |box (ps:List (Str×Th))
theorem ro{b:Type}{a:List (α×b)}(c:(a.map (·.1)).Nodup){z:α}{t t':b}(h:(z,t)∈a)(M:(z,t')∈a):t=t':=by
 obtain⟨i,hi,e⟩:=Qi h;obtain⟨j,hj,e'⟩:=Qi M;have d:i=j:=by
  refine(jk (h₀:=by simpa using hi) (h₁:=by simpa using hj) c).mp ?_;simp[e,e']
 subst d;rw[e]at e';exact(h1 e').2
structure PD(R:V->Th->Prop)(ws:aU)(kvs:ca):Prop where
 all:∀q∈kvs,∃z t,q.1=.inr z/\z∈ws/\R q.2 t
 nd:(kvs.map (·.1)).Nodup
section
variable{R R':V->Th->Prop}{kvs kvs':ca}
theorem PD.len(h:PD R ws kvs):kvs.length<=ws.length:=by
 have c:∀q:Key×V,∃z:Str,q∈kvs->q.1=.inr z/\z∈ws:=λq=>by
  by_cases hq:q∈kvs
  ·obtain⟨z,t,Y,h2,_⟩:=h.all q hq;exact⟨z,λ_=>⟨Y,h2⟩⟩
  ·exact⟨"",λz=>absurd z hq⟩
 obtain⟨f,hf⟩:=lp c;have:=dO (l:=kvs.map f) (m:=ws) ?_ ?_
 ·simpa using this
 ·refine uT.mpr ((uT.mp h.nd).imp_of_mem fun{a b}d g i e=>i ?_);rw[(hf a d).1,(hf b g).1,e]
 ·intro z j;obtain⟨q,hq,rfl⟩:=Z2.mp j;exact(hf q hq).2
end
theorem iE [DecidableEq κ]{kvs:List (κ×V)}{k:κ}:(a_ kvs k).isSome=true↔k∈kvs.map (·.1):=by
 rw[<- cQ,QaO];constructor
 ·rintro⟨p,hp,h⟩;exact Z2.mpr ⟨p,hp,Qt h⟩
 ·intro h;obtain⟨p,hp,rfl⟩:=Z2.mp h;exact⟨p,hp,Qw rfl⟩
theorem ak.Dw{K:Q0}{xs:bY}(h:bj H a xs):ak K H a xs:=.inl h
theorem He{s:Str}{A B:Prop}(a:s≠z->A)(b:s=z->B):if(true^^decide (V.str s=V.str z))=true then A else B:=by
 by_cases h:s=z
 ·rw[Qw (congrArg V.str h)];exact b h
 ·rw[Qx λe=>h (V.str.inj e)];exact a h
theorem Go{s z:Int}{A B:Prop}(a:s=z->A)(b:s≠z->B):if(false^^decide (V.int s=V.int z))=true then A else B:=by
 by_cases h:s=z
 ·rw[Qw (congrArg V.int h)];exact a h
 ·rw[Qx λe=>h (V.int.inj e)];exact b h
def ki(F:List aj)(b:aU):Prop:=∃H a xs ws,RT H a xs F b ws/\∀z∈ws,Wd z
section
variable{F:List aj}
theorem RT.xf{xs:bY}(rt:RT H a xs F ns ws)(b:∀z∈ws,Wd z):ki F ns:=⟨H,a,xs,ws,rt,b⟩
theorem ki.stay(g:ki F ns){x:Str}(a:x∈ns):gg F ns (b7 F x):=let ⟨_,_,_,_,rt,hw⟩:=g;rt.stay hw a
theorem ki.yf(g:ki F ns){e:Str}(h:gg F ns e):(e,au F e)∈bx F/\(au F e).ok ns:=let ⟨_,_,_,_,rt,hw⟩:=g;rt.yf hw h
theorem ki.jo(g:ki F ns){e a:Str}{s:aU}(h:gg F ns e)(m:L2.jo F e s=some a):gg F ns a:=let ⟨_,_,_,_,rt,hw⟩:=g;rt.jo hw h m
theorem ki.few(g:ki F ns):ns.length<=14:=let ⟨_,_,_,_,rt,hw⟩:=g;rt.few
theorem ki.Bu(g:ki F ns):((bx F).map (·.1)).Nodup:=let ⟨_,_,_,_,rt,hw⟩:=g;rt.Bu
theorem ki.mj(g:ki F ns):(F.map (·.1)).Nodup:=let ⟨_,_,_,_,rt,hw⟩:=g;rt.mj
theorem ki.nm(g:ki F ns)(x:Str):x∈F.map (·.1)↔x∈ns:=let ⟨_,_,_,_,rt,hw⟩:=g;rt.nm.mem_iff
theorem ki.ao(g:ki F ns)(x:Str):x∈(bx F).map (·.1)↔gg F ns x:=by
 constructor
 ·intro h;obtain⟨r,hr,rfl⟩:=Z2.mp h;obtain⟨Y,h2⟩:=Qab.mp hr;refine⟨(g.nm _).mp (Z2.mpr ⟨r,Y,rfl⟩),dB _ ?_⟩;show(au F r.1).nx=none;rw[dX g.mj Y];simpa using h2
 ·intro h;exact Z2.mpr ⟨_,(g.yf h).1,rfl⟩
end
def stH(h:Hd):List aU:=h.bh.map (·.1)
def Dy(H:Hp)(b:Addr)(h:Hd):Prop:=∃c O,H b=some (.tup [.str h.fg,.ref c])/\H c=some (.tup O)/\SV H O (stH h)
theorem Dy.same{H U:Hp}{b:Addr}{h:Hd}(m:Dy H b h)(s:ae H U):Dy U b h:=let ⟨c,O,e1,e2,e3⟩:=m;⟨c,O,s _ _ e1,s _ _ e2,e3.same s⟩
structure IW(K:Q0)(mg:Str->cv)(H:Hp)(n:Addr)(F:List aj)(ns:aU):Prop where
 at_:∃dx fs d1 d3 d4,H n=some (.ins (cr mg "Net") dx fs)/\fs.lookup ("rows":Str)=some (V.ref d1)/\fs.lookup ("marks":Str)=some (V.ref d3)/\fs.lookup ("moves":Str)=some (V.ref d4)/\
  (∀x,x∈ns->dz H d1 (.str x) (some (.str (b7 F x))))/\
  (∀e,gg F ns e->∃b,dz H d3 (.str e) (some (.ref b))/\Dy H b (au F e))/\(∀e,¬gg F ns e->dz H d3 (.str e) none)/\
  (∀e,gg F ns e->∃m o,dz H d4 (.str e) (some (.ref m))/\H m=some (.af o (.dT (jr F e))))
theorem IW.same{K:Q0}{c:Str->cv}{H U:Hp}{n:Addr}{F:List aj}{d:aU}(h:IW K c H n F d)(s:ae H U):IW K c U n F d:=by
 obtain⟨dx,fs,d1,d3,d4,h0,Y,h2,h3,h4,h5,h6,h7⟩:=h.at_
 exact⟨dx,fs,d1,d3,d4,s _ _ h0,Y,h2,h3,λx f=>(h4 x f).same s,λe a=>let ⟨b,q1,q2⟩:=h5 e a;⟨b,q1.same s,q2.same s⟩,λe a=>(h6 e a).same s,λe a=>let ⟨m,o,q1,q2⟩:=h7 e a;⟨m,o,q1.same s,s _ _ q2⟩⟩
theorem AV.RA{K:Q0}{n:Addr}{F:List aj}(h:AV H (cr mg "Net") n F)(g:ki F ns):IW K mg H n F ns:=by
 obtain⟨dx,fs,en,⟨⟨d1,o1,a1,a2⟩,_,⟨d3,o3,k3,c1,c2,c3⟩,⟨d4,o4,k4,e1,e2,e3⟩⟩⟩:=h;refine⟨dx,fs,d1,d3,d4,en,a1,c1,e1,λx d=>?_,λe a=>?_,λe a=>?_,λe a=>?_⟩
 ·rw[<- qE g.mj ((g.nm x).mpr d)];exact dz.rd (k:=Sum.inr x) (.inr ⟨o1,a2⟩)
 ·obtain⟨v,Y,b,c,O,rfl,h2,h3,h4⟩:=c3.get g.Bu (g.yf a).1;exact⟨b,by rw[<- Y];exact dz.rd (k:=Sum.inr e) (.inr ⟨o3,c2⟩),c,O,h2,h3,h4⟩
 ·have f:a_ k3 (.inr e)=none:=by
   cases hv:a_ k3 (.inr e)with
   |none=>rfl
   |some u=>
    have:=gH hv;rw[c3.keys]at this;obtain⟨r,hr,e'⟩:=Z2.mp this;exact absurd ((g.ao e).mp (Z2.mpr ⟨r,hr,eh e'⟩)) a
  rw[<- f];exact dz.rd (k:=Sum.inr e) (.inr ⟨o3,c2⟩)
 ·obtain⟨v,Y,m,o,rfl,h2⟩:=e3.get g.Bu (g.yf a).1;refine⟨m,o,by rw[<- Y];exact dz.rd (k:=Sum.inr e) (.inr ⟨o4,e2⟩),?_⟩;rw[lK a.2]at h2;exact h2
theorem lC{F:List aj}{e:Str}{s:aU}(a:b7 F e=e)(hs:s∈stH (au F e)):∃b,jo F e s=some b:=by
 unfold jo az;rw[a];obtain⟨m,hm,rfl⟩:=Z2.mp hs;cases hf:List.find? (λc:aU×Str=>decide (c.1=m.1)) ((au F e).bh.map λm=>(m.1,b7 F m.2))with
 |some q=>exact⟨q.2,rfl⟩
 |none=>
  have:=Qa4.mp hf (m.1,b7 F m.2) (Z2.mpr ⟨m,hm,rfl⟩);simp at this
theorem lO{F:List aj}{e:Str}(a:b7 F e=e):(az F e).map (·.1)=stH (au F e):=by unfold az stH;rw[a];simp[Qn,QC]
theorem pU{F:List aj}{e:Str}(b:((az F e).map (·.1)).Nodup){m:aU×Str}(a:m∈az F e):jo F e m.1=some m.2:=by
 unfold jo;cases hf:(az F e).find? (λc=>decide (c.1=m.1))with
 |none=>
  have:=Qa4.mp hf m a;simp at this
 |some q=>
  have d:=mu hf;have f:q.1=m.1:=by simpa using List.find?_some hf
  have g:(m.1,q.2)∈az F e:=by rw[<- f];exact d
  exact congrArg some (ro b g (show(m.1,m.2)∈az F e from a))
theorem ki.Bv{F:List aj}(g:ki F ns){e:Str}(a:gg F ns e):((az F e).map (·.1)).Nodup:=by
 rw[lO a.2];exact wP (g.yf a).2
theorem j0{b:Type}[DecidableEq b]:∀{l m:List b},l.Nodup->(∀x∈l,x∈m)->l.length<=m.length
 | [],m,_,_=>dm _
 |a::l,m,nd,h=>by
  have c:=h a yS;have e:=j0 (l:=l) (m:=m.erase a) (uY.mp nd).2 λx d=>(List.mem_erase_of_ne (show x≠a from λz=>(uY.mp nd).1 (by rw[<- z];exact d))).mpr (h x (Qh _ d));rw[List.length_erase_of_mem c]at e;have f:=List.length_pos_of_mem c;rw[dV]
  lia
inductive Tv where
 |s (z:Str)
 |i (n:Int)
 |t (l:List Tv)
def TD(H:Hp):Nat->V->Tv->Prop
 |_,.str z,.s z'=>z=z'
 |_,.int k,.i j=>k=j
 |n+1,.ref a,.t ds=>∃xs,bj H a xs/\xs.length=ds.length/\∀j(h:j<xs.length)(M:j<ds.length),TD H n xs[j] ds[j]
 |_,_,_=>False
structure uo(H:Hp)(n:Nat)(xs:bY)(ds:List Tv):Prop where
 len:xs.length=ds.length
 at_:∀j(h:j<xs.length)(M:j<ds.length),TD H n xs[j] ds[j]
theorem TD.str{n:Nat}{z:Str}:TD H n (.str z) (.s z):=by cases n<;>rfl
theorem TD.int{n:Nat}{z:Int}:TD H n (.int z) (.i z):=by cases n<;>rfl
theorem TD.tup{n:Nat}{a:Addr}{xs:bY}{ds:List Tv}(h:bj H a xs)(t:uo H n xs ds):TD H (n+1) (.ref a) (.t ds):=⟨xs,h,t.len,t.at_⟩
theorem uo.nil:uo H n [] []:=⟨rfl,λi h=>absurd h (by simp)⟩
theorem uo.cons{n:Nat}{x:V}{d:Tv}{xs:bY}{ds:List Tv}(h:TD H n x d)(t:uo H n xs ds):uo H n (x::xs) (d::ds):=⟨by simp[t.len],λi a b=>by
 cases i with
 |zero=>exact h
 |succ i=>exact t.at_ i (by simpa using a) (by simpa using b)⟩
theorem TD.AW{d:Tv}(h:TD H n (.ref a) d):∃m ds xs,n=m+1/\d=.t ds/\bj H a xs/\uo H m xs ds:=by
 cases n with
 |zero=>cases d<;>exact h.elim
 |succ n=>
  cases d with
  |t ds=>obtain⟨xs,Y,h2,h3⟩:=h;exact⟨n,ds,xs,rfl,rfl,Y,h2,h3⟩
  |_=>exact h.elim
theorem TD.Al{d:Tv}(h:TD H n (.str z) d):d=.s z:=by
 cases n<;>(cases d with
  |s z'=>exact congrArg Tv.s (show z=z' from h).symm
  |_=>exact h.elim)
theorem TD.Am{z:Int}{d:Tv}(h:TD H n (.int z) d):d=.i z:=by
 cases n<;>(cases d with
  |i z'=>exact congrArg Tv.i (show z=z' from h).symm
  |_=>exact h.elim)
theorem TD.v{n:Nat}{v:V}{d:Tv}(h:TD H n v d):(∃z,v=.str z)\/(∃z,v=.int z)\/∃a,v=.ref a:=by
 cases n<;>(cases v<;>first|exact .inl ⟨_,rfl⟩|exact .inr (.inl ⟨_,rfl⟩)|exact .inr (.inr ⟨_,rfl⟩)|(cases d<;>exact h.elim))
theorem TD.det:∀{n m:Nat}{v:V}{d e:Tv},TD H n v d->TD H m v e->d=e
 |0,m,v,d,e,h,M=>by
  rcases h.v with⟨z,rfl⟩|⟨z,rfl⟩|⟨a,rfl⟩
  ·rw[h.Al,M.Al]
  ·rw[h.Am,M.Am]
  ·obtain⟨_,_,_,z,_⟩:=h.AW;cases z
 |n+1,m,v,d,e,h,M=>by
  rcases h.v with⟨z,rfl⟩|⟨z,rfl⟩|⟨a,rfl⟩
  ·rw[h.Al,M.Al]
  ·rw[h.Am,M.Am]
  ·obtain⟨m1,ds,xs,e1,rfl,r1,t1⟩:=h.AW;obtain⟨m2,es,J,e2,rfl,r2,t2⟩:=M.AW;cases e1;have:=r1.inj r2;subst this;have f:=t1.len;have g:=t2.len;congr 1;refine ga (by lia) λi b c=>?_;exact TD.det (t1.at_ i (by lia) b) (t2.at_ i (by lia) c)
theorem kG{ds es:List Tv}{e:Nat->Bool}(c:ds.length=es.length)(h:∀j(a:j<ds.length)(b:j<es.length),e j=true↔ds[j]=es[j]):(List.range ds.length).all e=true↔ds=es:=by
 rw[Qbc];constructor
 ·intro d;exact ga c λi a b=>(h i a b).mp (d i (Qag.mpr a))
 ·rintro rfl j f;have:=Qag.mp f;exact(h j this this).mpr rfl
theorem TD.Lx(I:Inv X B Z H s):∀{n:Nat}{m:Nat}{x y:V}{d e:Tv},TD H n x d->TD H m y e->∃k:Bool,(k=true↔d=e)/\∀(A:Around)(u v:Value),A.units+n<cLine->RelV x u->RelV y v->SeqAt.EqAt A s u v k:=by
 intro n
 induction n with
 |zero=>
  intro m x y d e h g;rcases h.v with⟨z,rfl⟩|⟨z,rfl⟩|⟨a,rfl⟩
  ·obtain rfl:=h.Al;rcases g.v with⟨i,rfl⟩|⟨i,rfl⟩|⟨b,rfl⟩
   ·obtain rfl:=g.Al;exact⟨z==i,by simp,λA u v l c f=>by obtain⟨t,rfl⟩:=c;obtain⟨t',rfl⟩:=f;exact mD z t i t'⟩
   ·obtain rfl:=g.Am;exact⟨false,by simp,λA u v l c f=>by obtain⟨t,rfl⟩:=c;obtain⟨t',rfl⟩:=f;exact SeqAt.EqAt.str_int z t i t'⟩
   ·obtain⟨_,ds,xs,rfl,rfl,r1,_⟩:=g.AW;refine⟨false,by simp,λA u v l c f=>?_⟩;obtain⟨t,rfl⟩:=c;cases f;obtain⟨i1,_,p1,_⟩:=I.tuple (ak.Dw r1);exact SeqAt.EqAt.str_tuple z t p1 (by lia)
  ·obtain rfl:=h.Am;rcases g.v with⟨i,rfl⟩|⟨i,rfl⟩|⟨b,rfl⟩
   ·obtain rfl:=g.Al;exact⟨false,by simp,λA u v l c f=>by obtain⟨t,rfl⟩:=c;obtain⟨t',rfl⟩:=f;exact SeqAt.EqAt.int_str z t i t'⟩
   ·obtain rfl:=g.Am;exact⟨z==i,by simp,λA u v l c f=>by obtain⟨t,rfl⟩:=c;obtain⟨t',rfl⟩:=f;exact SeqAt.EqAt.int_int z t i t'⟩
   ·obtain⟨_,ds,xs,rfl,rfl,r1,_⟩:=g.AW;refine⟨false,by simp,λA u v l c f=>?_⟩;obtain⟨t,rfl⟩:=c;cases f;obtain⟨i1,_,p1,_⟩:=I.tuple (ak.Dw r1);exact SeqAt.EqAt.int_tuple z t p1 (by lia)
  ·obtain⟨_,_,_,z,_⟩:=h.AW;cases z
 |succ n ih=>
  intro m x y d e h g;rcases h.v with⟨z,rfl⟩|⟨z,rfl⟩|⟨a,rfl⟩
  ·obtain⟨k,o,p⟩:=ih (m:=m) (TD.str (n:=n) (z:=z)) g;rw[h.Al];exact⟨k,o,λA u v l=>p A u v (by lia)⟩
  ·obtain⟨k,o,p⟩:=ih (m:=m) (TD.int (n:=n) (z:=z)) g;rw[h.Am];exact⟨k,o,λA u v l=>p A u v (by lia)⟩
  ·obtain⟨n',ds,xs,e1,rfl,r1,t1⟩:=h.AW;cases e1;rcases g.v with⟨i,rfl⟩|⟨i,rfl⟩|⟨b,rfl⟩
   ·obtain rfl:=g.Al;refine⟨false,by simp,λA u v l c f=>?_⟩;obtain⟨t,rfl⟩:=f;cases c;obtain⟨i1,_,p1,_⟩:=I.tuple (ak.Dw r1);exact SeqAt.EqAt.tuple_str i t p1 (by lia)
   ·obtain rfl:=g.Am;refine⟨false,by simp,λA u v l c f=>?_⟩;obtain⟨t,rfl⟩:=f;cases c;obtain⟨i1,_,p1,_⟩:=I.tuple (ak.Dw r1);exact SeqAt.EqAt.tuple_int i t p1 (by lia)
   ·obtain⟨m',es,J,rfl,rfl,r2,t2⟩:=g.AW;by_cases mh:a=b
    ·subst mh;refine⟨true,⟨λ_=>TD.det h g,λ_=>rfl⟩,λA u v l c f=>?_⟩;cases c;cases f;exact nq _
    ·obtain⟨i1,v1,p1,_⟩:=I.tuple (ak.Dw r1);obtain⟨i2,v2,p2,_⟩:=I.tuple (ak.Dw r2);have Q:=v1.length;have R:=v2.length;have T:=t1.len;have k2:=t2.len;have D:∀j:Nat,∃k:Bool,∀(o:j<ds.length)(p:j<es.length),(k=true↔ds[j]=es[j])/\∀(A:Around)(u v:Value),A.units+n<cLine->RelV (xs[j]'(by lia)) u->RelV (J[j]'(by lia)) v->SeqAt.EqAt A s u v k:=λj=>by
      by_cases hj:j<ds.length/\j<es.length
      ·obtain⟨k,q1,q2⟩:=ih (t1.at_ j (by lia) hj.1) (t2.at_ j (by lia) hj.2);exact⟨k,λ_ _=>⟨q1,q2⟩⟩
      ·exact⟨false,λo p=>absurd ⟨o,p⟩ hj⟩
     obtain⟨ev,An⟩:=lp D;refine⟨(List.range (min i1.toArray.size i2.toArray.size)).all ev&&i1.toArray.size==i2.toArray.size,?_,λA u v l c f=>?_⟩
     ·have E:i1.toArray.size=ds.length:=by simp;lia
      have G:i2.toArray.size=es.length:=by simp;lia
      rw[E,G,im];constructor
      ·rintro⟨q1,q2⟩;have r:ds.length=es.length:=by simpa using q2
       rw[<- r,Nat.min_self]at q1;exact congrArg Tv.t ((kG r λj o p=>(An j o p).1).mp q1)
      ·intro q;have w:ds=es:=by injection q
       have r:ds.length=es.length:=by rw[w]
       refine⟨?_,by simp[r]⟩;rw[<- r,Nat.min_self];exact(kG r λj o p=>(An j o p).1).mpr w
     ·cases c;cases f;refine ox mh (pj (A:=A) (e:=ev) p1 p2 (by lia) λj C g2=>?_);have K:j<ds.length:=by simp at C;lia
      have L:j<es.length:=by simp at g2;lia
      obtain⟨w1,f1,q1⟩:=v1.get (Qa (show j<xs.length by lia));obtain⟨w2,f2,q2⟩:=v2.get (Qa (show j<J.length by lia));have N:i1.toArray[j]=w1:=by rw[Qa (by simpa using C)]at f1;simpa using f1
      have P:i2.toArray[j]=w2:=by rw[Qa (by simpa using g2)]at f2;simpa using f2
      rw[N,P];exact(An j K L).2 A.in1 w1 w2 (by rw[gZ];lia) q1 q2
theorem uo.eqs(I:Inv X B Z H s){m:Nat}{xs J:bY}{ds es:List Tv}(f:uo H n xs ds)(g:uo H m J es):∃ev:Nat->Bool,(∀j(a:j<ds.length)(b:j<es.length),ev j=true↔ds[j]=es[j])/\∀(c d:cq),bg xs c->bg J d->∀(A:Around),A.units+n+1<cLine->∀(j:Nat)(a:j<c.toArray.size)(b:j<d.toArray.size),SeqAt.EqAt A.in1 s c.toArray[j] d.toArray[j] (ev j):=by
 have t:=f.len;have w:=g.len;have l:∀j:Nat,∃e:Bool,∀(a:j<ds.length)(b:j<es.length),(e=true↔ds[j]=es[j])/\∀(A:Around)(u v:Value),A.units+n<cLine->RelV (xs[j]'(by lia)) u->RelV (J[j]'(by lia)) v->SeqAt.EqAt A s u v e:=λj=>by
  by_cases hj:j<ds.length/\j<es.length
  ·obtain⟨e,q1,q2⟩:=TD.Lx I (f.at_ j (by lia) hj.1) (g.at_ j (by lia) hj.2);exact⟨e,λ_ _=>⟨q1,q2⟩⟩
  ·exact⟨false,λa b=>absurd ⟨a,b⟩ hj⟩
 obtain⟨ev,An⟩:=lp l;refine⟨ev,λj a b=>(An j a b).1,λc d h i A x j k g2=>?_⟩;have y:=h.length;have z:=i.length;have o:j<ds.length:=by simp at k;lia
 have p:j<es.length:=by simp at g2;lia
 obtain⟨w1,f1,q1⟩:=h.get (Qa (show j<xs.length by lia));obtain⟨w2,f2,q2⟩:=i.get (Qa (show j<J.length by lia));have q:c.toArray[j]=w1:=by rw[Qa (by simpa using k)]at f1;simpa using f1
 have r:d.toArray[j]=w2:=by rw[Qa (by simpa using g2)]at f2;simpa using f2
 rw[q,r];exact(An j o p).2 A.in1 w1 w2 (by rw[gZ];lia) q1 q2
theorem us{ds es:List Tv}{b c:Nat}{ev:Nat->Bool}(d:b=ds.length)(e:c=es.length)(f:∀j(d:j<ds.length)(e:j<es.length),ev j=true↔ds[j]=es[j]):((List.range (min b c)).all ev&&b==c)=true↔Tv.t ds=.t es:=by
 subst d e;rw[im];constructor
 ·rintro⟨q1,q2⟩;have a:ds.length=es.length:=by simpa using q2
  rw[<- a,Nat.min_self]at q1;exact congrArg Tv.t ((kG a f).mp q1)
 ·intro q;have g:ds=es:=by injection q
  have a:ds.length=es.length:=by rw[g]
  refine⟨?_,by simp[a]⟩;rw[<- a,Nat.min_self];exact(kG a f).mpr g
def A5(K:Q0)(d:Bool):R2:=λx y H Q=>∃n m a b xs J ds es,n<=60/\x=.ref a/\y=.ref b/\ai K H a xs/\ai K H b J/\uo H n xs ds/\uo H m J es/\∀c:Bool,(c=true↔ds=es)->Q (.bl (d^^c)) H
theorem qR(K:Q0)(k:X.A.units+100<cLine)(f:X.K=K:=by rfl):di X (compareOp .NotEq) (A5 K true):=by
 subst f;intro c s l H x y v u Q I g i h;obtain⟨n,m,a,b,xs,J,ds,es,hn,rfl,rfl,Y,h2,t1,t2,q⟩:=h;cases g;cases i;obtain⟨i1,v1,p1,_⟩:=I.list Y;obtain⟨i2,v2,p2,_⟩:=I.list h2;have o:=v1.length;have p:=v2.length;have r:=t1.len;have t:=t2.len;obtain⟨ev,e1,e2⟩:=uo.eqs I t1 t2;have d:i1.toArray.size=ds.length:=by simp;lia
 have j:i2.toArray.size=es.length:=by simp;lia
 by_cases hl:ds.length=es.length
 ·refine SeqAt.RcNeAt.lists (A:=X.A) (e:=ev) p1.isList p2.isList (by lia) (by lia) (e2 i1 i2 v1 v2 X.A (by lia)) _ _ _ _ ?_;rw[d];exact⟨.bl _,H,I,rfl,by have:=q _ (kG hl e1);rw[Bool.true_xor]at this;exact this⟩
 ·refine SeqAt.RcNeAt.lists_lengths (A:=X.A) p1.isList p2.isList (by rw[d,j];simpa using hl) (by lia) _ _ _ _ ?_;exact⟨.bl _,H,I,rfl,by have:=q false ⟨(λz=>nomatch z),λz=>absurd (congrArg List.length z) hl⟩;rw[Bool.true_xor]at this;exact this⟩
section
variable{pos:Pos}
theorem xM:SE X (.Dict [] [] pos) Pj:=⟨Yi⟩
end
abbrev Tg:=Str×Str
def jt(t:Tg):fe:=[.inr t.1,.inr t.2]
theorem tf{t u:Tg}(h:jt t=jt u):t=u:=by
 obtain⟨a,b⟩:=t;obtain⟨a',b'⟩:=u;simp only[jt,k6,Sum.inr.injEq,and_true]at h;obtain⟨rfl,rfl⟩:=h;rfl
theorem Fa{t:Tg}{ts:List Tg}:jt t∈ts.map jt↔t∈ts:=by
 constructor
 ·intro h;obtain⟨u,hu,e⟩:=Z2.mp h;rw[<- tf e];exact hu
 ·intro h;exact Z2.mpr ⟨t,h,rfl⟩
abbrev AF:=Tg->Option Tg
inductive ow (f:AF):Tg->Tg->Prop where
 |top {x:Tg} (h:f x=none):ow f x x
 |up {x u r:Tg} (h:f x=some u) (t:ow f u r):ow f x r
theorem ow.abx{f:AF}{x r a:Tg}(h:ow f x r)(M:ow f x a):r=a:=by
 induction h with
 |top h=>
  cases M with
  |top _=>rfl
  |up Y _=>rw[h]at Y;cases Y
 |up Y _ ih=>
  cases M with
  |top h=>rw[h]at Y;cases Y
  |up h2 t=>rw[Y]at h2;cases h2;exact ih t
def IX(f:AF)(n:Nat):Prop:=∃ρ:Tg->Nat,(∀x y,f x=some y->ρ x<ρ y)/\∀x,ρ x<=n
theorem rp{f:AF}(a:IX f n)(x:Tg):∃r,ow f x r:=by
 obtain⟨ρ,p1,p2⟩:=a;have:∀m x,n-ρ x<=m->∃r,ow f x r:=by
  intro m
  induction m with
  |zero=>
   intro x b;cases h:f x with
   |none=>exact⟨x,.top h⟩
   |some u=>have c:=p1 _ _ h;have d:=p2 u;lia
  |succ m ih=>
   intro x b;cases h:f x with
   |none=>exact⟨x,.top h⟩
   |some u=>
    have c:=p1 _ _ h;have d:=p2 u;obtain⟨r,hr⟩:=ih u (by lia);exact⟨r,.up h hr⟩
 exact this _ x (Qz _)
theorem cC:∀{l m:List α},l.Nodup->(∀x∈l,x∈m)->l.length<=m.length:=by
 classical
 intro l m a b;exact @j0 α (Classical.typeDecidableEq α) l m a b
theorem RB {K : Q0} {M D : Addr} {O : bY} {e : List (aU × Str)} {g : Hp} {Q : Hp -> Prop} (E : g M = some (.lst O)) (o : MV g O e) (p : g D = none) (G : e.length <= 1000)
    (I : ∀ a U, ae g U -> U D = some (.lst a) -> SV U a (e.map (·.1)) -> Q U) : ∃ W : Nat -> Nat -> St -> Hp -> Prop, (∃ m, W 0 m [none] (upd g D (.lst []))) /\ ∀ i m f H, W i m f H ->
      ((Ej K M).stop i H /\ Q H) \/ ((Ej K M).go i H /\ ∃ N : St -> Hp -> Prop, (∀ h U, N h U -> ∃ q, q < m /\ W (i + 1) q h U) /\ ∀ x U, (Ej K M).qx i H x U -> jj 0 x f U λd H2 => Ce d H2 λb t =>
        if b = true then jy (AQ K) (tV 0) (tC (V.int 0)) d t λy u => ∃ xs, u D = some (.lst xs) /\ xs.length < sizeLine /\ N d (upd u D (.lst (xs ++ [y]))) else N d t) := by
  have L : sizeLine = 16777216 := QM
  have P := o.len
  refine fW (bI O) (λi f U => ∃ (n : cp) (a : bY), f = [n] /\ U D = some (.lst a) /\ SV U a ((e.take i).map (·.1)) /\ ae g U) ⟨none, [], rfl, aA, SV.nil, ae.upd p _⟩ (by rintro i f U _ ⟨_, _, _, _, _, s⟩; exact ai.of (s _ _ E)) ?_ ?_
  · rintro i f w A ⟨n, a, rfl, l, j, k⟩
    have C : i < e.length := by lia
    obtain ⟨c, b, R, T, e3⟩ := o.at_ i A C
    have eg : O.getD i .ao = .ref c := by rw [Qb, Qa A, R]; rfl
    rw [eg]
    have Ao : e.take (i + 1) = e.take i ++ [e[i]] := by rw [Qs, Qa C]; rfl
    have RC : a.length <= 1000 := by have := j.len; rw [this, Ql, u9]; lia
    refine ⟨_, _, .inr (ak.of (k _ _ T)), aK _ _, a, l, by lia, _, a ++ [.ref b], rfl, aA, ?_, k.put p⟩
    rw [Ao, Qm]
    exact (j.snoc (.inl (k _ _ e3))).keep λb J r => r.put l (λ_ z => nomatch z) (λ_ _ z => nomatch z)
  · rintro f w ⟨n, a, rfl, l, j, k⟩
    rw [P, Qo] at j
    exact I a w k l j
abbrev Pr:=Str×Str
def y_(r1 r2:List aj)(p:Pr)(s:aU):Pr:=((jo r1 p.1 s).getD "",(jo r2 p.2 s).getD "")
def nc(r1 r2:List aj)(p:Pr):Prop:=(au r1 p.1).fg=(au r2 p.2).fg/\stH (au r1 p.1)=stH (au r2 p.2)
structure Dz(r1 r2:List aj)(n1 n2:aU)(p:Pr):Prop where
 a:gg r1 n1 p.1
 b:gg r2 n2 p.2
def lf(a:Str):Tg:=("left",a)
def rg(a:Str):Tg:=("right",a)
theorem Dz.behind{c d:aU}(f:ki r1 c)(g2:ki r2 d){p:Pr}(h:Dz r1 r2 c d p)(m:nc r1 r2 p){s:aU}(e:s∈stH (au r1 p.1)):Dz r1 r2 c d (y_ r1 r2 p s):=by
 obtain⟨e1,m1⟩:=lC h.a.2 e;obtain⟨e2,m2⟩:=lC h.b.2 (by rw[<- m.2];exact e);refine⟨?_,?_⟩
 ·show gg r1 c ((jo r1 p.1 s).getD "");rw[m1];exact f.jo h.a m1
 ·show gg r2 d ((jo r2 p.2 s).getD "");rw[m2];exact g2.jo h.b m2
def EU(r1 r2:List aj)(p:Pr):List (aU×Pr):=(stH (au r1 p.1)).map λs=>(s,y_ r1 r2 p s)
def DB(s:aU):Tv:=.t (s.map Tv.s)
def gr(h:Hd):Tv:=.t [.s h.fg,.t ((stH h).map DB)]
theorem sC{H:Hp}{n:Nat}:∀s:aU,uo H n (s.map V.str) (s.map Tv.s)
 | []=>.nil
 |z::s=>.cons TD.str (sC s)
theorem SV.LY{O:bY}(h:SV H O ss):uo H 1 O (ss.map DB):=by
 have a:=h.len;refine⟨by simpa using a,λi c d=>?_⟩;obtain⟨b,e1,e2⟩:=h.at_ i c (by lia)
 rw[e1,Qr];exact TD.tup e2 (sC _)
theorem Dy.td{h:Hd}(m:Dy H b h):TD H 3 (.ref b) (gr h):=by
 obtain⟨c,O,e1,e2,e3⟩:=m;refine TD.tup (.inl e1) (.cons TD.str (.cons (TD.tup (.inl e2) e3.LY) .nil))
theorem Gv{xs J:aU}(h:xs.map Tv.s=J.map Tv.s):xs=J:=by
 induction xs generalizing J with
 |nil=>cases J with
  |nil=>rfl
  |cons y J=>simp at h
 |cons x xs ih=>cases J with
  |nil=>simp at h
  |cons y J=>
   simp only[yV,k6,Tv.s.injEq]at h;rw[h.1,ih h.2]
theorem oZ{xs J:List aU}(h:xs.map DB=J.map DB):xs=J:=by
 induction xs generalizing J with
 |nil=>cases J with
  |nil=>rfl
  |cons y J=>simp at h
 |cons x xs ih=>cases J with
  |nil=>simp at h
  |cons y J=>
   simp only[yV,k6,DB,Tv.t.injEq]at h;rw[Gv h.1,ih h.2]
theorem RD{h M:Hd}:(gr h=gr M)↔h.fg=M.fg/\stH h=stH M:=by
 unfold gr;constructor
 ·intro e;have a:[Tv.s h.fg,Tv.t ((stH h).map DB)]=[Tv.s M.fg,Tv.t ((stH M).map DB)]:=by injection e
  simp only[k6,Tv.s.injEq,Tv.t.injEq,and_true]at a;exact⟨a.1,oZ a.2⟩
 ·rintro⟨e1,e2⟩;rw[e1,e2]
inductive Cg (E:Tg->Tg->Prop):Tg->Tg->Prop where
 |refl (x:Tg):Cg E x x
 |base {x y:Tg} (h:E x y):Cg E x y
 |symm {x y:Tg} (h:Cg E x y):Cg E y x
 |trans {x y z:Tg} (h:Cg E x y) (M:Cg E y z):Cg E x z
theorem Cg.mono{E a:Tg->Tg->Prop}(k:∀x y,E x y->a x y){x y:Tg}(h:Cg E x y):Cg a x y:=by
 induction h with
 |refl x=>exact .refl x
 |base h=>exact .base (k _ _ h)
 |symm _ ih=>exact .symm ih
 |trans _ _ i1 i2=>exact .trans i1 i2
abbrev EV:=List (Pr×Option (Nat×aU))
def EW(a:cm)(st:EV)(i:Nat)(x y:Tg):Prop:=∃k c,k∈a/\k<i/\st[k]? =some c/\x=lf c.1.1/\y=rg c.1.2
def sh(r1:List aj)(st:EV)(o d:Option (Nat×aU)):Prop:=match o,d with
 |none,_=>True
 |some (j,s),some (j',s')=>j<j'\/(j=j'/\∃c,st[j]? =some c/\∃a b:Nat,a<b/\(stH (au r1 c.1.1))[a]? =some s/\(stH (au r1 c.1.1))[b]? =some s')
 |some _,none=>False
structure GI(r1 r2:List aj)(n1 n2:aU)(i:Nat)(st:EV)(un:cm)(f:AF)(n:Nat):Prop where
 ok:∀c∈st,Dz r1 r2 n1 n2 c.1
 tr:∀(k:Nat)(c:Pr×Option (Nat×aU))(j:Nat)(s:aU),st[k]? =some c->c.2=some (j,s)->j<k/\j<i/\j∈un/\∃c',st[j]? =some c'/\s∈stH (au r1 c'.1.1)/\y_ r1 r2 c'.1 s=c.1
 od:∀(k k':Nat)(c c':Pr×Option (Nat×aU)),k<k'->st[k]? =some c->st[k']? =some c'->sh r1 st c.2 c'.2
 me:∀j c,j<i->st[j]? =some c->nc r1 r2 c.1/\(j∈un->∀s∈stH (au r1 c.1.1),∃(k:Nat)(c':Pr×Option (Nat×aU)),st[k]? =some c'/\c'.2=some (j,s))/\(j∉un->Cg (EW un st j) (lf c.1.1) (rg c.1.2))
 cn:∀x y r,ow f x r->ow f y r->Cg (EW un st i) x y
 ul:∀k∈un,k<i
 few:st.length<=1+10*n
 RE:IX f n
 zn:∀(k:Nat)(c:Pr×Option (Nat×aU)),st[k]? =some c->c.2=none->k=0
theorem EW.mono{b d:cm}{st a:EV}{e:Nat}(f:∀k∈b,k∈d)(g:∀(k:Nat)(c:Pr×Option (Nat×aU)),st[k]? =some c->a[k]? =some c)(j:i<=e){x y:Tg}(h:EW b st i x y):EW d a e x y:=by
 obtain⟨k,c,q1,q2,q3,q4⟩:=h;exact⟨k,c,f _ q1,by lia,g _ _ q3,q4⟩
theorem nB{f b:AF}(a:IX f n)(h:∀z r,ow f z r->ow b z r){x r:Tg}(c:ow b x r):ow f x r:=by
 obtain⟨r0,h0⟩:=rp a x;rw[c.abx (h _ _ h0)];exact h0
theorem GI.skip{p t:aU}{st:EV}{b:cm}{f a:AF}(h:GI r1 r2 p t i st b f n){c:Pr×Option (Nat×aU)}(w:st[i]? =some c)(me:nc r1 r2 c.1)(ac:IX a n)(u:∀z r,ow f z r->ow a z r){r:Tg}(A:ow a (lf c.1.1) r)(C:ow a (rg c.1.2) r):GI r1 r2 p t (i+1) st b a n:=by
 have cn:∀x y r,ow a x r->ow a y r->Cg (EW b st i) x y:=λx y r d g=>h.cn x y r (nB h.RE u d) (nB h.RE u g);refine⟨h.ok,λk l j s m e=>?_,h.od,λj l D o=>?_,λx y r d g=>?_,λk m=>by have:=h.ul k m;lia,h.few,ac,h.zn⟩
 ·obtain⟨a1,a2,a3⟩:=h.tr k l j s m e;exact⟨a1,by lia,a3⟩
 ·by_cases GJ:j=i
  ·subst GJ;rw[w]at o;cases o;exact⟨me,λz=>by have:=h.ul _ z;lia,λ_=>cn _ _ _ A C⟩
  ·exact h.me j l (by lia) o
 ·exact(cn x y r d g).mono λx y q=>q.mono (λ_ h=>h) (λ_ _ h=>h) (by lia)
theorem GI.start{i l:aU}{p:Pr}(m:Dz r1 r2 i l p):GI r1 r2 i l 0 [(p,none)] [] (λ_=>none) 0:=by
 have one:∀(k:Nat)(c:Pr×Option (Nat×aU)),([(p,none)]:EV)[k]? =some c->k=0/\c=(p,none):=λk c d=>by
  cases k with
  |zero=>exact⟨rfl,by simpa using d.symm⟩
  |succ k=>simp at d
 refine⟨λc n=>by rw[zO.mp n];exact m,λk c j s d e=>?_,λk o c q u f g=>?_,λj c t=>absurd t (by lia),λx y r f g=>?_,λk d=>absurd d (by simp),by simp,⟨λ_=>0,λx y h=>(nomatch h),λ_=>Qz _⟩,λk c d _=>(one k c d).1⟩
 ·rw[(one k c d).2]at e;cases e
 ·have a:=(one k c f).1;have b:=(one o q g).1;lia
 ·cases f with
  |top _=>cases g with
   |top _=>exact .refl _
   |up h _=>cases h
  |up h _=>cases h
def Bw(r1 r2:List aj)(x:Tg):Hd:=if x.1="left" then au r1 x.2 else au r2 x.2
def RI(r1 r2:List aj)(x:Tg)(s:aU):Tg:=(x.1,(if x.1="left" then jo r1 x.2 s else jo r2 x.2 s).getD "")
def AX:cm->cm->Prop
 |a::as,b::bs=>a<b\/(a=b/\AX as bs)
 |_,_=>False
def yi(w v:cm):Prop:=w.length<v.length\/(w.length=v.length/\AX w v)
theorem tI:∀w:cm,¬AX w w
 | []=>id
 |a::as=>λh=>h.elim (λh=>ft _ h) λh=>tI as h.2
theorem nU:∀{w v u:cm},AX w v->AX v u->AX w u
 |a::as,b::bs,c::cs,h,d=>by
  rcases h with h|⟨rfl,h⟩
  ·rcases d with d|⟨rfl,_⟩
   ·exact .inl (by lia)
   ·exact .inl h
  ·rcases d with d|⟨rfl,d⟩
   ·exact .inl d
   ·exact .inr ⟨rfl,nU h d⟩
 | [],_,_,h,_=>h.elim
 |_::_,[],_,h,_=>h.elim
 |_::_,_::_,[],_,d=>d.elim
theorem pD:∀{w v:cm}(a b:Nat),w.length=v.length->AX w v->AX (w++[a]) (v++[b])
 |a::as,b::bs,x,y,hl,h=>by
  rcases h with h|⟨rfl,h⟩
  ·exact .inl h
  ·exact .inr ⟨rfl,pD x y (by simpa using hl) h⟩
 | [],_,_,_,_,h=>h.elim
 |_::_,[],_,_,_,h=>h.elim
theorem qD:∀(w:cm){a b:Nat},a<b->AX (w++[a]) (w++[b])
 | [],_,_,h=>.inl h
 |x::w,_,_,h=>.inr ⟨rfl,qD w h⟩
theorem fJ(w:cm):¬yi w w:=λh=>h.elim (λh=>ft _ h) λh=>tI w h.2
theorem bR{w v u:cm}(h:yi w v)(M:yi v u):yi w u:=by
 rcases h with h|⟨h,a⟩
 ·rcases M with M|⟨M,_⟩
  ·exact .inl (by lia)
  ·exact .inl (by lia)
 ·rcases M with M|⟨M,b⟩
  ·exact .inl (by lia)
  ·exact .inr ⟨by lia,nU a b⟩
def DE(w v:cm):Prop:=w=v\/yi w v
theorem zX{w v u:cm}(h:DE w v)(M:DE v u):DE w u:=by
 rcases h with rfl|h
 ·exact M
 ·rcases M with rfl|M
  ·exact .inr h
  ·exact .inr (bR h M)
theorem oO{w v:cm}(a b:Nat)(h:yi w v):yi (w++[a]) (v++[b]):=by
 rcases h with h|⟨h,c⟩
 ·exact .inl (by simp;lia)
 ·exact .inr ⟨by simp[h],pD a b h c⟩
theorem Kb{w v:cm}(a:Nat)(h:DE w v):DE (w++[a]) (v++[a]):=by
 rcases h with rfl|h
 ·exact .inl rfl
 ·exact .inr (oO a a h)
theorem oH(w:cm)(a:Nat):yi w (w++[a]):=.inl (by simp)
section
variable{N Lb:Type}(nx:N->List (Lb×N))
def ii:N->cm->Option N
 |n,[]=>some n
 |n,k::ks=>match(nx n)[k]? with
  |some q=>ii q.2 ks
  |none=>none
def ja:N->cm->List Lb
 |_,[]=>[]
 |n,k::ks=>match(nx n)[k]? with
  |some q=>q.1::ja q.2 ks
  |none=>[]
theorem jH:∀(n:N)(w v:cm),ii nx n (w++v)=(ii nx n w).bind λm=>ii nx m v
 |n,[],v=>rfl
 |n,k::ks,v=>by
  show(match(nx n)[k]? with|some q=>ii nx q.2 (ks++v)|none=>none)=(match(nx n)[k]? with|some q=>ii nx q.2 ks|none=>none).bind _;cases(nx n)[k]? with
  |none=>rfl
  |some q=>exact jH q.2 ks v
theorem ri{n m:N}{w:cm}(h:ii nx n w=some m)(k:Nat):ii nx n (w++[k])=((nx m)[k]?).map (·.2):=by
 rw[jH,h];show(match(nx m)[k]? with|some q=>some q.2|none=>none)=_;cases(nx m)[k]?<;>rfl
theorem sV:∀{n m:N}{w:cm},ii nx n w=some m->∀{k:Nat}{q:Lb×N},(nx m)[k]? =some q->ja nx n (w++[k])=ja nx n w++[q.1]
 |n,m,[],h,k,q,hk=>by
  cases h;show(match(nx n)[k]? with|some q=>q.1::ja nx q.2 []|none=>[])=_;rw[hk];rfl
 |n,m,k'::ks,h,k,q,hk=>by
  have a:(match(nx n)[k']? with|some q=>ii nx q.2 ks|none=>none)=some m:=h;show(match(nx n)[k']? with|some q=>q.1::ja nx q.2 (ks++[k])|none=>[])=(match(nx n)[k']? with|some q=>q.1::ja nx q.2 ks|none=>[])++[q.1];cases e:(nx n)[k']? with
  |none=>rw[e]at a;cases a
  |some q'=>
   rw[e]at a;show q'.1::ja nx q'.2 (ks++[k])=(q'.1::ja nx q'.2 ks)++[q.1];rw[sV a hk];rfl
structure BW(n0:N)(i:Nat)(st:List (N×cm)):Prop where
 z:st[0]? =some (n0,[])
 go:∀c∈st,ii nx n0 c.2=some c.1
 up:∀(k k':Nat)(c c':N×cm),k<k'->st[k]? =some c->st[k']? =some c'->yi c.2 c'.2
 cl:∀(k:Nat)(c:N×cm),k<i->st[k]? =some c->∀(p:Nat)(q:Lb×N),(nx c.1)[p]? =some q->∃c'∈st,c'.1=q.2/\DE c'.2 (c.2++[p])
variable{nx}
theorem BW.least{s:N}{st:List (N×cm)}(b:BW nx s i st){ie:N->Prop}(C:∀(k:Nat)(c:N×cm),k<i->st[k]? =some c->¬ie c.1){w:cm}{m:N}(D:ii nx s w=some m)(E:ie m):(∀c,st[i]? =some c->¬yi w c.2)/\(st.length=i->False):=by
 -- ag1 way RJ ag2 ahead of HQ one at place i ag3 to a place RJ is ag4 to,by a way not later
 have p:∀(v:cm)(m:N),ii nx s v=some m->((∃c,st[i]? =some c/\yi v c.2)\/st.length=i)->∃c∈st,c.1=m/\DE c.2 v:=by
  intro v
  induction hv:v.length generalizing v with
  |zero=>
   intro m j _;obtain rfl:=QS hv;cases j;exact⟨_,QD b.z,rfl,.inl rfl⟩
  |succ n ih=>
   intro m j G;obtain⟨u,a,rfl⟩:∃u a,v=u++[a]:=⟨v.dropLast,v.getLast (by intro e;rw[e]at hv;cases hv),(List.dropLast_concat_getLast _).symm⟩
   have H:u.length=n:=by simpa using hv
   rw[jH]at j;cases LZ:ii nx s u with
   |none=>rw[LZ]at j;cases j
   |some m'=>
    rw[LZ]at j;have t:(match(nx m')[a]? with|some q=>ii nx q.2 []|none=>none)=some m:=j;cases eq:(nx m')[a]? with
    |none=>rw[eq]at t;cases t
    |some q=>
     rw[eq]at t;have x:q.2=m:=by cases t;rfl
     obtain⟨c,l,e1,e2⟩:=ih u H m' LZ (G.imp (by rintro⟨c,Y,d⟩;exact⟨c,Y,bR (oH u a) d⟩) id);obtain⟨k,r,ek⟩:=Qi l;have hk?:st[k]? =some c:=by rw[Qa r,ek]
     have y:k<i:=by
      rcases G with⟨f,Y,d⟩|Y
      ·rcases Nat.lt_trichotomy k i with h|h|h
       ·exact h
       ·subst h;rw[hk?]at Y;cases Y;have:=bR (oH u a) d;rcases e2 with e2|e2
        ·rw[e2]at this;exact absurd this (fJ _)
        ·exact absurd (bR e2 this) (fJ _)
       ·have g:=b.up i k f c h Y hk?;have:=bR (oH u a) d;rcases e2 with e2|e2
        ·rw[e2]at g;exact absurd (bR this g) (fJ _)
        ·exact absurd (bR e2 (bR this g)) (fJ _)
      ·lia
     obtain⟨f,Y,d,g⟩:=b.cl k c y hk? a q (by rw[e1];exact eq);exact⟨f,Y,d.trans x,zX g (Kb a e2)⟩
 constructor
 ·intro c l o;obtain⟨f,Y,d,g⟩:=p w m D (.inl ⟨c,l,o⟩);obtain⟨k,r,ek⟩:=Qi Y;have hk?:st[k]? =some f:=by rw[Qa r,ek]
  have y:k<i:=by
   rcases Nat.lt_trichotomy k i with h|h|h
   ·exact h
   ·subst h;rw[hk?]at l;cases l;rcases g with e2|e2
    ·rw[e2]at o;exact absurd o (fJ _)
    ·exact absurd (bR e2 o) (fJ _)
   ·have A:=b.up i k c f h l hk?;rcases g with e2|e2
    ·rw[e2]at A;exact absurd (bR o A) (fJ _)
    ·exact absurd (bR e2 (bR o A)) (fJ _)
  exact C k f y hk? (by rw[d];exact E)
 ·intro I;obtain⟨f,Y,d,g⟩:=p w m D (.inr I);obtain⟨k,r,ek⟩:=Qi Y;exact C k f (by lia) (by rw[Qa r,ek]) (by rw[d];exact E)
def RK(nx:N->List (Lb×N))(ie:N->Prop)(a:N)(w:cm):Prop:=(∃m,ii nx a w=some m/\ie m)/\∀v m,ii nx a v=some m->ie m->¬yi v w
end
section
variable{N Lb:Type}{nx:N->List (Lb×N)}
def kj(nx:N->List (Lb×N))(c:N×cm):List (N×cm):=(List.range (nx c.1).length).filterMap λp=>((nx c.1)[p]?).map λq=>(q.2,c.2++[p])
theorem wZ{b c:Type}(f:b->Option c)(g:b->c):∀l:List b,(∀x∈l,f x=some (g x))->l.filterMap f=l.map g
 | [],_=>rfl
 |a::l,h=>by
  rw[nz,h a yS,yV,wZ f g l λx d=>h x (Qh _ d)]
theorem eP(c:N×cm)(p:Nat):(kj nx c)[p]? =((nx c.1)[p]?).map λq=>(q.2,c.2++[p]):=by
 unfold kj;by_cases hn:(nx c.1).length=0
 ·have:nx c.1=[]:=QS hn;rw[this];rfl
 ·have a:Lb×N:=(nx c.1)[0]'(by lia);rw[wZ _ (λp=>(((nx c.1).getD p a).2,c.2++[p])) _ λx d=>by
   have b:=Qag.mp d;rw[Qa b,Qb,Qa b];rfl]
  rw[Qq];by_cases hp:p<(nx c.1).length
  ·rw[Qa (by simpa using hp),Qa hp,List.getElem_range];show some (((nx c.1).getD p a).2,c.2++[p])=some _;rw[Qb,Qa hp];rfl
  ·rw[pc (by simpa using hp),pc (by lia)];rfl
theorem zD(c:N×cm):(kj nx c).length=(nx c.1).length:=by
 have d:∀p,p<(kj nx c).length↔p<(nx c.1).length:=λp=>by
  have:=eP (nx:=nx) c p;constructor
  ·intro h;rw[Qa h]at this;cases hq:(nx c.1)[p]? with
   |none=>rw[hq]at this;cases this
   |some q=>exact(yE.mp hq).1
  ·intro h;rw[Qa h]at this;exact(yE.mp this).1
 have a:=(d (nx c.1).length).mp;have b:=(d (kj nx c).length).mpr;by_cases x:(nx c.1).length<(kj nx c).length
 ·exact absurd (a x) (ft _)
 ·by_cases y:(kj nx c).length<(nx c.1).length
  ·exact absurd (b y) (ft _)
  ·lia
structure LS(nx:N->List (Lb×N))(n0:N)(i:Nat)(st:List (N×cm))(ms:List N):Prop where
 bw:BW nx n0 i st
 pr:∀d∈st,d.2=[]\/∃(k':Nat)(d':N×cm)(p:Nat),k'<i/\st[k']? =some d'/\d.2=d'.2++[p]
 ex:∀t∈ms,∃(k:Nat)(c:N×cm),k<i/\st[k]? =some c/\c.1=t/\∀(p:Nat)(q:Lb×N),(nx t)[p]? =some q->(q.2,c.2++[p])∈st
theorem LS.start(e:N):LS nx e 0 [(e,[])] []:=by
 have one:∀(k:Nat)(c:N×cm),([(e,[])]:List (N×cm))[k]? =some c->k=0/\c=(e,[]):=λk c f=>by
  cases k with
  |zero=>exact⟨rfl,by simpa using f.symm⟩
  |succ k=>simp at f
 refine⟨⟨rfl,λc g=>by rw[zO.mp g];rfl,λk h c i o j l=>?_,λk c f=>absurd f (by lia)⟩,λd m=>by rw[zO.mp m];exact .inl rfl,λt n=>nomatch n⟩;have a:=(one k c j).1;have b:=(one h i l).1;lia
theorem LS.old{e:N}{st:List (N×cm)}{b:List N}(h:LS nx e i st b){c:N×cm}(f:st[i]? =some c)(j:c.1∈b):LS nx e (i+1) st b:=by
 obtain⟨k0,c0,a1,a2,a3,a4⟩:=h.ex c.1 j;refine⟨⟨h.bw.z,h.bw.go,h.bw.up,λk d n a p q g=>?_⟩,λd a=>?_,λt l=>?_⟩
 ·by_cases Bx:k=i
  ·subst Bx;rw[f]at a;cases a;exact⟨_,a4 p q g,rfl,.inr (oO p p (h.bw.up k0 k c0 c a1 a2 f))⟩
  ·exact h.bw.cl k d (by lia) a p q g
 ·exact(h.pr d a).imp id fun⟨m,d',p,q1,q2,q3⟩=>⟨m,d',p,by lia,q2,q3⟩
 ·obtain⟨k,c',b1,b2⟩:=h.ex t l;exact⟨k,c',by lia,b2⟩
theorem LS.expand{u:N}{st:List (N×cm)}{y:List N}(h:LS nx u i st y){c:N×cm}(l:st[i]? =some c):LS nx u (i+1) (st++kj nx c) (y++[c.1]):=by
 have P:=(yE.mp l).1;have up:∀(k:Nat)(d:N×cm),st[k]? =some d->(st++kj nx c)[k]? =some d:=λk d q=>by
  have:=(yE.mp q).1;rw[Qg this];exact q
 have n:∀(k:Nat)(d:N×cm),(st++kj nx c)[k]? =some d->st[k]? =some d\/(st.length<=k/\∃q,(nx c.1)[k-st.length]? =some q/\d=(q.2,c.2++[k-st.length])):=λk d q=>by
  by_cases s:k<st.length
  ·rw[Qg s]at q;exact .inl q
  ·rw[nT (by lia),eP]at q;obtain⟨e,g,f⟩:=QaH.mp q;exact .inr ⟨by lia,e,g,f.symm⟩
 have o:∀d∈st,d∈st++kj nx c:=λd hd=>zH.mpr (.inl hd);have r:∀(p:Nat)(q:Lb×N),(nx c.1)[p]? =some q->(q.2,c.2++[p])∈st++kj nx c:=λp q m=>by
  refine zH.mpr (.inr (QD (i:=p) ?_));rw[eP,m];rfl
 have old:∀d∈st,∀a,yi d.2 (c.2++[a]):=λd hd a=>by
  rcases h.pr d hd with C|⟨j,w,p,g,f,D⟩
  ·rw[C];exact .inl (by simp)
  ·rw[D];exact oO p a (h.bw.up j i w c g f l)
 have E:=h.bw.go c (QD l);refine⟨⟨up _ _ h.bw.z,λd hd=>?_,λk j a b G H A=>?_,λk d s hd p q m=>?_⟩,λd hd=>?_,λt ht=>?_⟩
 ·obtain⟨k,s,ek⟩:=Qi hd;rcases n k d (by rw[Qa s,ek])with q|⟨_,q,g,f⟩
  ·exact h.bw.go d (QD q)
  ·rw[f];show ii nx u (c.2++[k-st.length])=some q.2;rw[ri nx E,g];rfl
 ·rcases n k a H with q|⟨I,q,g,f⟩
  ·rcases n j b A with e|⟨K,e,L,x⟩
   ·exact h.bw.up k j a b G q e
   ·rw[x];exact old a (QD q) _
  ·rcases n j b A with e|⟨K,e,L,x⟩
   ·have:=(yE.mp e).1;lia
   ·rw[f,x];exact .inr ⟨by simp,qD _ (by lia)⟩
 ·by_cases Bx:k=i
  ·subst Bx;rw[up _ _ l]at hd;cases hd;exact⟨_,r p q m,rfl,.inl rfl⟩
  ·rcases n k d hd with e|⟨I,_⟩
   ·obtain⟨d2,a1,a2,a3⟩:=h.bw.cl k d (by lia) e p q m;exact⟨d2,o _ a1,a2,a3⟩
   ·lia
 ·rcases zH.mp hd with hd|hd
  ·exact(h.pr d hd).imp id fun⟨j,w,p,q1,q2,q3⟩=>⟨j,w,p,by lia,up _ _ q2,q3⟩
  ·obtain⟨p,hp,ep⟩:=Qi hd;have:=eP (nx:=nx) c p;rw[Qa hp,ep]at this;obtain⟨e,g,f⟩:=QaH.mp this.symm;exact .inr ⟨i,c,p,by lia,up _ _ l,by rw[<- f]⟩
 ·rcases zH.mp ht with ht|ht
  ·obtain⟨k,c',b1,b2,b3,b4⟩:=h.ex t ht;exact⟨k,c',by lia,up _ _ b2,b3,λp q m=>o _ (b4 p q m)⟩
  ·rw[zO.mp ht];exact⟨i,c,by lia,up _ _ l,rfl,r⟩
end
theorem Jg{h:Hd}(ok:h.ok ns):(stH h).Pairwise um:=by
 unfold stH;exact uT.mpr (uD ok)
theorem xE{N:Type}{nx:N->List (aU×N)}(e:∀n,(nx n).Pairwise λa b=>um a.1 b.1):∀{w v:cm}{n m f:N},ii nx n w=some m->ii nx n v=some f->AX w v->ou (ja nx n w) (ja nx n v)
 |a::as,b::bs,n,m,f,h,M,c=>by
  rw[ii.eq_2]at h M;cases ea:(nx n)[a]? with
  |none=>rw[ea]at h;simp at h
  |some q=>
   cases eb:(nx n)[b]? with
   |none=>rw[eb]at M;simp at M
   |some q'=>
    rw[ea]at h;rw[eb]at M;dsimp only at h M;have k:ja nx n (a::as)=q.1::ja nx q.2 as:=by
     rw[ja.eq_2,ea]
    have l:ja nx n (b::bs)=q'.1::ja nx q'.2 bs:=by
     rw[ja.eq_2,eb]
    rw[k,l];rcases c with c|⟨rfl,c⟩
    ·obtain⟨ha,ea'⟩:=yE.mp ea;obtain⟨hb,eb'⟩:=yE.mp eb;have d:=uW.mp (e n) a b ha hb c;rw[ea',eb']at d;exact⟨0,by simp,by simp,λi _ _ g=>absurd g (by lia),d.ne,d⟩
    ·rw[ea]at eb;cases eb;obtain⟨j,j1,j2,q1,q2,q3⟩:=xE e h M c;refine⟨j+1,by simp;lia,by simp;lia,λi o g2 g=>?_,by simpa using q2,by simpa using q3⟩;cases i with
     |zero=>rfl
     |succ i=>simpa using q1 i (by simpa using o) (by simpa using g2) (by lia)
 | [],_,_,_,_,_,_,h=>h.elim
 |_::_,[],_,_,_,_,_,h=>h.elim
open Classical in
noncomputable def jb(r1 r2:List aj)(p:Pr):List (aU×Pr):=if nc r1 r2 p then EU r1 r2 p else[]
def EY(r1 r2:List aj)(p:Pr):Prop:=¬nc r1 r2 p
section
variable{m1 m2:aU}{p p0 m:Pr}
theorem kJ(h:nc r1 r2 p):jb r1 r2 p=EU r1 r2 p:=if_pos h
theorem rR(r1 r2:List aj)(p:Pr)(a:Nat):(EU r1 r2 p)[a]? =((stH (au r1 p.1))[a]?).map λs=>(s,y_ r1 r2 p s):=by unfold EU;rw[Qq]
def Cv(r1 r2:List aj):Nat->Tg->Tg->Prop
 |0,x,y=>(Bw r1 r2 x).fg=(Bw r1 r2 y).fg/\stH (Bw r1 r2 x)=stH (Bw r1 r2 y)
 |n+1,x,y=>((Bw r1 r2 x).fg=(Bw r1 r2 y).fg/\stH (Bw r1 r2 x)=stH (Bw r1 r2 y))/\∀s∈stH (Bw r1 r2 x),Cv r1 r2 n (RI r1 r2 x s) (RI r1 r2 y s)
theorem Cv.symm:∀{n:Nat}{x y:Tg},Cv r1 r2 n x y->Cv r1 r2 n y x
 |0,_,_,h=>⟨h.1.symm,h.2.symm⟩
 |n+1,_,_,h=>⟨⟨h.1.1.symm,h.1.2.symm⟩,λs a=>(h.2 s (by rw[h.1.2];exact a)).symm⟩
theorem Cv.trans:∀{n:Nat}{x y z:Tg},Cv r1 r2 n x y->Cv r1 r2 n y z->Cv r1 r2 n x z
 |0,_,_,_,h,M=>⟨h.1.trans M.1,h.2.trans M.2⟩
 |n+1,_,_,_,h,M=>⟨⟨h.1.1.trans M.1.1,h.1.2.trans M.1.2⟩,λs a=>(h.2 s a).trans (M.2 s (by rw[<- h.1.2];exact a))⟩
theorem sY{N a:Type}(nx:N->List (a×N))(n:N)(k:Nat)(ks:cm):ii nx n (k::ks)=match(nx n)[k]? with|some q=>ii nx q.2 ks|none=>none:=rfl
end
structure BG{N:Type}(nx:N->List (aU×N))(ie Ok:N->Prop)(f:N)(i:Nat)(st:List (N×cm))(ms:List N)(D E:List (N×cm))(len:Nat):Prop where
 ls:LS nx f i st ms
 nb:∀(k:Nat)(c:N×cm),k<i->st[k]? =some c->¬ie c.1
 ok:∀d∈st,Ok d.1
 nd:ms.Nodup
 mo:∀t∈ms,Ok t
 il:i<=st.length
 qu:st.drop i=D++E
 dl:∀d∈D,d.2.length=len
 nl:∀d∈E,d.2.length=len+1
section
variable{N:Type}{nx:N->List (aU×N)}{ie Ok:N->Prop}{f:N}{st:List (N×cm)}{ms:List N}{D E:List (N×cm)}{len:Nat}{d:N×cm}
theorem BG.start(b:Ok f):BG nx ie Ok f 0 [(f,[])] [] [(f,[])] [] 0:=by
 refine⟨LS.start f,?_,?_,List.Pairwise.nil,?_,dm _,rfl,?_,?_⟩
 ·intro k c g;lia
 ·intro d a;rw[zO.mp a];exact b
 ·intro t e;cases e
 ·intro d a;rw[zO.mp a];rfl
 ·intro d a;cases a
theorem BG.head(h:BG nx ie Ok f i st ms (d::D) E len):st[i]? =some d:=by
 have:=congrArg (λl=>l[0]?) h.qu;simpa using this
theorem BG.DF(h:BG nx ie Ok f i st ms (d::D) E len):Ok d.1:=h.ok d (QD h.head)
theorem BG.L0(h:BG nx ie Ok f i st ms (d::D) E len):ii nx f d.2=some d.1:=h.ls.bw.go d (QD h.head)
theorem BG.next(h:BG nx ie Ok f i st ms (d::D) E len):st.drop (i+1)=D++E/\i+1<=st.length:=by
 refine⟨?_,(yE.mp h.head).1⟩;rw[<- List.drop_drop,h.qu];rfl
theorem BG.Cw(h:BG nx ie Ok f i st ms (d::D) E len)(b:¬ie d.1):∀(k:Nat)(c:N×cm),k<i+1->st[k]? =some c->¬ie c.1:=λk c e a=>by
 by_cases Bx:k=i
 ·subst Bx;rw[h.head]at a;cases a;exact b
 ·exact h.nb k c (by lia) a
theorem BG.bad(h:BG nx ie Ok f i st ms (d::D) E len)(a:ie d.1):RK nx ie f d.2:=
 ⟨⟨d.1,h.L0,a⟩,λv m hv b=>(h.ls.bw.least (ie:=ie) h.nb hv b).1 d h.head⟩
theorem BG.fin(h:BG nx ie Ok f i st ms [] [] len):∀w m,ii nx f w=some m->¬ie m:=λw m b c=>by
 refine(h.ls.bw.least (ie:=ie) h.nb b c).2 ?_;have d:=h.il;have a:=congrArg List.length h.qu;rw[List.length_drop]at a;simp at a
 lia
theorem BG.old(h:BG nx ie Ok f i st ms (d::D) E len)(a:¬ie d.1)(b:d.1∈ms):BG nx ie Ok f (i+1) st ms D E len:=
 ⟨h.ls.old h.head b,h.Cw a,h.ok,h.nd,h.mo,h.next.2,h.next.1,λd c=>h.dl d (Qh _ c),h.nl⟩
theorem RL{c k:N×cm}(a:k∈kj nx c):∃p q,(nx c.1)[p]? =some q/\k=(q.2,c.2++[p]):=by
 obtain⟨p,hp,ep⟩:=Qi a;have:=eP (nx:=nx) c p;rw[Qa hp,ep]at this;obtain⟨q,Y,h2⟩:=QaH.mp this.symm;exact⟨p,q,Y,h2.symm⟩
theorem BG.expand(h:BG nx ie Ok f i st ms (d::D) E len)(j:∀q∈nx d.1,Ok q.2)(e:¬ie d.1)(l:d.1∉ms):BG nx ie Ok f (i+1) (st++kj nx d) (ms++[d.1]) D (E++kj nx d) len:=by
 obtain⟨n1,n2⟩:=h.next
 have g:=h.DF;refine⟨h.ls.expand h.head,λk c m hc=>?_,λc hc=>?_,?_,λt ht=>?_,by rw[Qk];lia,?_,λd g=>h.dl d (Qh _ g),λc hc=>?_⟩
 ·rw[Qg (by lia)]at hc;exact h.Cw e k c m hc
 ·rcases zH.mp hc with hc|hc
  ·exact h.ok c hc
  ·obtain⟨p,q,Y,rfl⟩:=RL hc;exact j q (QD Y)
 ·rw[QaA];exact⟨h.nd,by simp,λa n b e=>by rw[zO.mp e];exact λz=>l (by rw[<- z];exact n)⟩
 ·rcases zH.mp ht with ht|ht
  ·exact h.mo t ht
  ·rw[zO.mp ht];exact g
 ·rw[List.drop_append_of_le_length n2,n1,QQ]
 ·rcases zH.mp hc with hc|hc
  ·exact h.nl c hc
  ·obtain⟨p,q,Y,rfl⟩:=RL hc;show(d.2++[p]).length=len+1;rw[Qk,h.dl d yS];rfl
theorem BG.turn(h:BG nx ie Ok f i st ms [] E len):BG nx ie Ok f i st ms E [] (len+1):=
 ⟨h.ls,h.nb,h.ok,h.nd,h.mo,h.il,by rw[h.qu];simp,h.nl,λd a=>nomatch a⟩
theorem BG.rise(h:BG nx ie Ok f i st ms [] E len)(l:∀t,(nx t).Pairwise λa b=>um a.1 b.1)(j:Nat)(d:j+1<E.length):ou (ja nx f E[j].2) (ja nx f E[j+1].2):=by
 have e:=h.qu;rw[iQ]at e;have c:∀k(g:k<E.length),st[i+k]? =some E[k]:=λk g=>by
  rw[<- List.getElem?_drop,e,Qa g]
 have a:=c j (by lia)
 have b:=c (j+1) d
 have lt:=h.ls.bw.up _ _ _ _ (by lia) a b;have m:=h.nl _ (Qj (show j<E.length by lia));have n:=h.nl _ (Qj d);refine xE l (h.ls.bw.go _ (QD a)) (h.ls.bw.go _ (QD b)) ?_;rcases lt with lt|lt
 ·lia
 ·exact lt.2
theorem uQ{c:N×cm}(b:ii nx f c.2=some c.1){p:Nat}{q:aU×N}(a:(nx c.1)[p]? =some q)(h:p<(kj nx c).length):(kj nx c)[p]=(q.2,c.2++[p])/\ja nx f (c.2++[p])=ja nx f c.2++[q.1]:=by
 refine⟨?_,sV _ b a⟩;have:=eP (nx:=nx) c p;rw[a,Qa h]at this;exact QE this
theorem xK{N b:Type}{nx:N->List (b×N)}:∀{w:cm}{n m:N},ii nx n w=some m->(ja nx n w).length=w.length
 | [],n,m,h=>by cases h;rfl
 |a::as,n,m,h=>by
  rw[ii.eq_2]at h;cases ea:(nx n)[a]? with
  |none=>rw[ea]at h;simp at h
  |some q=>
   rw[ea]at h;rw[ja.eq_2,ea];show(ja nx q.2 as).length+1=as.length+1;rw[xK h]
end
theorem RT.abH{xs:bY}{F:List aj}(rt:RT H a xs F ns ws)(x:Str):(stH (au F x)).Pairwise um:=by
 unfold au;cases hf:F.find? λr=>decide (r.1=x)with
 |none=>exact List.Pairwise.nil
 |some r=>
  have b:=mu hf;exact Jg (rt.ok r b).2
theorem zt(c:∀x,(stH (au r1 x)).Pairwise um)(p:Pr):(jb r1 r2 p).Pairwise λa b=>um a.1 b.1:=by
 by_cases h:nc r1 r2 p
 ·rw[kJ h];unfold EU;rw[uT];exact c _
 ·unfold jb;rw[if_neg h];exact List.Pairwise.nil
abbrev BP(r1 r2:List aj)(a b:aU):=BG (jb r1 r2) (EY r1 r2) (Dz r1 r2 a b)
theorem oA{c d:aU}{f:Pr}{e:Nat}{st D E:List (Pr×cm)}{g:List Pr}(h:BP r1 r2 c d f i st g D E e)(j:ki r1 c)(g2:ki r2 d):g.length<=200:=by
 have k:=j.few;have l:=g2.few;have:=j0 (m:=c.flatMap λa=>d.map λb=>((a,b):Pr)) h.nd λx n=>by
  have o:=h.mo x n;exact Qbs.mpr ⟨x.1,o.a.1,Z2.mpr ⟨x.2,o.b.1,rfl⟩⟩
 rw[List.length_flatMap]at this;simp only[Ql,List.map_const',List.sum_replicate_nat]at this;have p:c.length*d.length<=14*14:=Nat.mul_le_mul k l
 lia
structure ni(r1 r2:List aj)(f:Pr)(H:Hp)(O:bY)(D:List (Pr×cm)):Prop where
 len:O.length=D.length
 at_:∀i(h:i<O.length)(M:i<D.length),∃c b J,O[i]=.ref c/\H c=some (.tup [.ref b,.str D[i].1.1,.str D[i].1.2])/\H b=some (.tup J)/\SV H J (ja (jb r1 r2) f D[i].2)
section
variable{f:Pr}{O:bY}{D:List (Pr×cm)}
theorem ni.keep(h:ni r1 r2 f H O D)(s:Tk H U)(e:∀b J,bj H b J->bj U b J):ni r1 r2 f U O D:=⟨h.len,λi a b=>let ⟨c,d,J,Y,h2,h3,h4⟩:=h.at_ i a b;⟨c,d,J,Y,s _ _ h2,s _ _ h3,h4.keep e⟩⟩
theorem ni.same(h:ni r1 r2 f H O D)(s:ae H U):ni r1 r2 f U O D:=h.keep s.ts λb a r=>r.same s
theorem ni.nil:ni r1 r2 f H [] []:=⟨rfl,λi h=>absurd h (by simp)⟩
theorem ni.snoc(h:ni r1 r2 f H O D){c:Addr}{J:bY}{p:Pr×cm}(d:H c=some (.tup [.ref b,.str p.1.1,.str p.1.2]))(e:H b=some (.tup J))(g:SV H J (ja (jb r1 r2) f p.2)):ni r1 r2 f H (O++[.ref c]) (D++[p]):=by
 have a:=h.len;refine⟨by simp[a],λi j g2=>?_⟩;by_cases av:i<O.length
 ·rw[Qe av,Qe (by lia)];exact h.at_ i av (by lia)
 ·have k:i=O.length:=by simp at j;lia
  subst k;rw[Qf (Qz _),Qf (by lia)];simp only[du,a,uJ];exact⟨c,b,J,rfl,d,e,g⟩
end
def Aq(H:Hp)(F:Addr)(a:List Pr):Prop:=∃kvs:de,H F=some (.dT kvs)/\kvs.map (·.1)=a.map jt
theorem Aq.same{F:Addr}{a:List Pr}(h:Aq H F a)(s:ae H U):Aq U F a:=let ⟨kvs,e,k⟩:=h;⟨kvs,s _ _ e,k⟩
end L2
namespace L2
open PySem PySem.Spec PySem.W PyProof.Rows
def By(K:Frag)(a:Str->cv)(x m q:Str)(st:Stmt)(b:aU):Prop:=∃(f:Addr)(fd:FuncData),FW K (cr a x) m f/\Bj K m q st f fd/\Binds K fd b []
def yj(P:Program)(w:World)(K:Frag)(b:Str->cv)(base:Heap)(k:Nat)(C:Addr)(m:Str)(a:aU)(c:Sp):Prop:=
 ∃(f:Addr)(fd:FuncData),FW K C m f/\se P w K b base Aa k f fd a c/\Binds K fd a []
section
variable{o:Expr}{t:TA}{m:Str}{pos p:Pos}{k:Nat}
theorem l9 (F:yj X.prog X.w X.K X.mg X.base k C m ps sp) (c:vf X.K C) (a:f_ k X.A) (d:SE X o ta) (g:SA X (e::es) t)
  (i:eH X e es:=by rfl) (j:eJ X pos es:=by rfl)
  (l:eval (.Call (.Attribute o m apos) (e::es) [] pos) X.env=(do
   let ov <- eval o X.env
   standAt apos.atName
   let (f,first) <- holding [ov] (getMethod ov m pl)
   callWith pos f first (backTo pos (starEach (e::es) X.env)) (backToKw pos (keywordEach [] X.env))):=by rfl):SE X (.Call (.Attribute o m apos) (e::es) [] pos) (F0 C m sp [] E0 ta t):=by
 obtain ⟨f,n,M,G,b⟩:=F
 exact ⟨Xg d.h c M G a b .nil F8 g.h i j l⟩
theorem Kk (F:yj X.prog X.w X.K X.mg X.base k C m ps sp) (c:vf X.K C) (a:f_ k X.A) (d:SE X o ta)
  (e:eval (.Call (.Attribute o m apos) [] [] pos) X.env=(do
   let ov <- eval o X.env
   standAt apos.atName
   let (f,first) <- holding [ov] (getMethod ov m pl)
   callWith pos f first (backTo pos (starEach [] X.env)) (backToKw pos (keywordEach [] X.env))):=by rfl):SE X (.Call (.Attribute o m apos) [] [] pos) (F0 C m sp [] E0 ta qc):=by
 obtain ⟨f,g,M,G,b⟩:=F
 exact ⟨Xh d.h c M G a b .nil F8 e⟩
theorem sw(F:Dn X.prog X.w X.K X.mg X.base k x C ps sp)(a:f_ (k+1) X.A)(c:Gl X x:=by rfl)(d:db x:=by decide):
  SE X (.Call (.Name x p) [] [] pos) (HX C sp [] E0 qc):=by
 obtain⟨m,f,fd,M,G,b⟩:=F;exact⟨Xj M G a c m b .nil F8 d⟩
theorem RN{o i:Expr}{a ty:TE}{b:Pos}(c:SE X o a)(d:SE X i ty):SS X (.Delete [.Subscript o i b] pos) (Pg a ty):=⟨Yg c.h d.h⟩
end
theorem By.gw {K:Frag} {m q:Str} {st:Stmt} {k:Nat} (F:By K mg x m q st ps) (S:fj N ps (b_ st)) (d:∀ vs H Q E,sp vs H Q E->vs.length=ps.length)
  (e:∀ (f:Addr) (c:Value) (A:Around) (a:List Env) (s:Shared) (H:Hp) (vs:bY) (Q:VK) (E:XK),f_ k (A.deeper (envOfC q (b_ st) s.heap.objs.size f c))->sp vs H Q E->
   ∃ t,SB (AK Aa P w K mg base N q (b_ st) f c A a s H E).B3 (l_ st) t/\t {nx:=λ_ U=>Q .ao U,rt:=Q} (start N vs) H):yj P w K mg base (k+1) (cr mg x) m ps sp:=by
 obtain ⟨f,g,M,i,b⟩:=F
 exact ⟨f,g,M,i.ok S d λc A a s H vs Q E j h=>let ⟨t,Y,h2⟩:=e f c A a s H vs Q E j h;⟨t,Y.h,h2⟩,b⟩
structure BA where
 x:Str
 m:Str
 q:Str
 st:Stmt
def L3(K:Frag)(c:BA):Option (Option Cj×Bool):=match nsIn K mainGlobals c.x with
 |some (some (.ref C))=>some (gs K c.q (findIn K (.ref C) c.m),match findIn K (.ref C) c.m with|some (some v)=>isFn K v&&keepIn K v|_=>false)
 |_=>none
def EZ(K:Frag):List BA->List (Option (Option Cj×Bool))
 | []=>[]
 |c::l=>L3 K c::EZ K l
def E2:List BA->List (Option (Option Cj×Bool))
 | []=>[]
 |c::l=>some (some (Ck c.m c.q c.st),true)::E2 l
section
variable{K:Frag}
theorem xI:∀{l:List BA},EZ K l=E2 l->∀(i:Nat){c:BA},l[i]? =some c->L3 K c=some (some (Ck c.m c.q c.st),true)
 |y::l,e,0,c,h=>by cases h;exact(fa e).1
 |y::l,e,i+1,c,h=>xI (fa e).2 i (by simpa using h)
theorem RP(X:K.In h)(G:h.Ns mainGlobals mg){l:List BA}(e:EZ K l=E2 l)(i:Nat){m q:Str}{st:Stmt}(c:l[i]? =some ⟨x,m,q,st⟩)
  (d:∀(kV b g:Value)(j:Option Addr)(k ct:Value)(O:cq),O.length=ps.length->bindArgs (fnOf m q (sf st) (l_ st) (b_ st) .none kV b g j k ct) ⟨O,[]⟩=pure (ps.zip O)):By K mg x m q st ps:=by
 have a:=xI e i c;unfold L3 at a;split at a
 ·rename_i C n
  have o:=mg_of X G n;have p:cr mg x=C:=by unfold cr;rw[o]
  have a:=QE a;simp only[mr]at a;obtain⟨c1,c2⟩:=a;obtain⟨f,fd,e1,F⟩:=rQ c1;rw[e1]at c2;simp only[Qax]at c2;exact⟨f,fd,by rw[p];exact⟨e1,c2.1,c2.2⟩,F,F.binds d⟩
 ·cases a
theorem Bz(X:K.In h)(G:h.Ns mainGlobals mg){l:List BA}(e:EZ K l=E2 l)(i:Nat){m q o:Str}{st:Stmt}(p:l[i]? =some ⟨x,m,q,st⟩:=by rfl)
  (r:∀(kV j s:Value)(t:Option Addr)(u ct k:Value),bindArgs (fnOf m q (sf st) (l_ st) (b_ st) .none kV j s t u ct) ⟨[k],[]⟩=pure [(o,k)]:=by intros;rfl):By K mg x m q st [o]:=
 RP X G e i p λa b c d f g y w=>by
  obtain⟨k,EL,rfl,ig⟩:=wq (n:=0) w;obtain rfl:=QS ig;exact r ..
theorem L4(X:K.In h)(G:h.Ns mainGlobals mg){l:List BA}(e:EZ K l=E2 l)(i:Nat){m q p r:Str}{st:Stmt}(s:l[i]? =some ⟨x,m,q,st⟩:=by rfl)
  (t:∀(kV j u:Value)(w:Option Addr)(y ct k o:Value),bindArgs (fnOf m q (sf st) (l_ st) (b_ st) .none kV j u w y ct) ⟨[k,o],[]⟩=pure [(p,k),(r,o)]:=by intros;rfl):By K mg x m q st [p,r]:=
 RP X G e i s λa b c d f g A z=>by
  obtain⟨k,EL,rfl,ig⟩:=wq (n:=1) z;obtain⟨o,Gy,rfl,je⟩:=wq (n:=0) ig;obtain rfl:=QS je;exact t ..
theorem t0(X:K.In h)(G:h.Ns mainGlobals mg){l:List Bt}(e:EO K l=EQ l)(i:Nat){q m:Str}{st:Stmt}{o:aU}(p:l[i]? =some ⟨x,q,st,o⟩:=by rfl)
  (r:∀(kV j s:Value)(t:Option Addr)(u ct k:Value),bindArgs (fnOf "__init__" q (sf st) (l_ st) (b_ st) .none kV j s t u ct) ⟨[k],[]⟩=pure [(m,k)]:=by intros;rfl):Dm K mg x q st [m] o (cr mg x):=
 Rh X G e i p λa b c d f g y w=>by
  obtain⟨k,EL,rfl,ig⟩:=wq (n:=0) w;obtain rfl:=QS ig;exact r ..
end
end L2
namespace L2
open PySem PySem.Spec PyProof.Rows
section
variable{K:Type}[DecidableEq K]{knd:HeapKind prog w K}
theorem fH{d:Addr}{xs:List (K×Addr×Value)}{k:K}{dflt:Value}(c:knd.room A)(b:knd.is s.heap k a)(i:s.heap.DictOfH knd d xs)
  (l:∀p,atKey xs k=some p->Q p.2 {s with toks:=s.toks+knd.draws k})
  (m:atKey xs k=none->∀M,M.DictOfH knd d (xs++[(k,a,dflt)])->Heap.SameBut d s.heap M->Q dflt {s with heap:=M,toks:=s.toks+knd.draws k})
  (hsz:xs.length<=sizeLine):wpAny 'f' A (dictSetDefault d (.ref a) dflt) Q E s:=by
 obtain⟨o,es,ep,ho,hc,hd,he,RQ,hn⟩:=i;unfold dictSetDefault
 try with_reducible refine wpAny_holding ?_
 refine QT (knd.pyHash c b (QT (wpAny_dictFind_heap (s:={s with toks:=s.toks+knd.draws k}) c b ho hd he RQ hn ?_ ?_)))
 ·intro f;have n:k∉xs.map (·.1):=not_mem_keys_of_get f;refine QT (wpAny_rule (QT (wpAny_updateDictKeys (hz:=by have e:=size_of_entries he;lia) (s:={s with toks:=s.toks+knd.draws k}) ho hd (QU (m (atKey_none_of_get f) _ ⟨_,_,ep+1,ll _ ho (Obj.isFreed_of_dict (Obj.data_mapDictKeys hd _)),
   hc.mapDictKeys _,Obj.data_mapDictKeys hd _,?_,?_,?_⟩ (ke ..))))))
  ·simp[he,entryOfKey]
  ·intro x hx;rcases zH.mp hx with hx|hx
   ·exact knd.keeps (RQ x hx) ho hd (ke ..)
   ·simp only[zO]at hx;subst hx;exact knd.keeps b ho hd (ke ..)
  ·rw[Qm,QaA];refine⟨hn,by simp,?_⟩;intro x hx y g;simp only[yV,List.map_nil,zO]at g;subst g;exact λe=>n (e▸hx)
 ·intro j p h;refine QT (wpAny_dictEntries (s:={s with toks:=s.toks+knd.draws k}) ho hd ?_);rw[entry_at he j,h];exact QT (wpAny_rule (QU (l p (atKey_of_get hn h))))
theorem fP(knd:HeapKind prog w K)(d a:Addr)(c:(d==sysModules)=false)(dflt:Value):
  MeetsIn prog w (Builtin.«dict.setdefault» ⟨[.ref d,.ref a,dflt],[]⟩) (λA R s=>knd.room A.in1/\∃k xs,knd.is s.heap k a/\s.heap.DictOfH knd d xs/\xs.length<=sizeLine/\
   (∀p,atKey xs k=some p->R (.ok (.ret p.2)) {s with toks:=s.toks+knd.draws k})/\
   (atKey xs k=none->∀M,M.DictOfH knd d (xs++[(k,a,dflt)])->Heap.SameBut d s.heap M->R (.ok (.ret dflt)) {s with heap:=M,toks:=s.toks+knd.draws k})):=
 .of_wp λA R s ⟨e,k,xs,f,b,g,h,i⟩=>by
  unfold Builtin.«dict.setdefault»;refine QT ?_;unfold Builtin.Dict.keyAndDefault;refine QT (wpAny_notOrdered_dict b.typeIs ?_);show wpAny _ _ (pure (d,Value.ref a,some dflt)) _ _ s;refine QU ?_;show wpAny _ _ (if(d==sysModules)=true then _ else(dictSetDefault d (.ref a) dflt >>=_)) _ _ s;rw[if_neg (by rw[c];exact vU)];exact QT (fH e f b (λp j=>QU ⟨p.2,rfl,h p j⟩) (λl M m n=>QU ⟨dflt,rfl,i l M m n⟩) g)
end
section
variable{o f:Expr}{td ty tx:TE}
def GT(d ty e:TE):TE:=λZ H Q=>d Z H λx H1=>∃a,x=.ref a/\KU H1 a/\ty Z H1 λy H2=>e Z H2 λz c=>∃kvs k b,c a=some (.dT kvs)/\y=.ref b/\bj c b (k.map kV)/\kvs.length<sizeLine/\
 (∀v,a_ kvs k=some v->Q v c)/\(a_ kvs k=none->Q z (upd c a (.dT (kvs++[(k,z)]))))
theorem RS:∀{kvs:de}{xs:List (fe×Addr×Value)},KT H kvs xs->∀k,(a_ kvs k=none/\atKey xs k=none)\/∃v p,a_ kvs k=some v/\atKey xs k=some p/\RelV v p.2:=by
 intro kvs xs r
 induction r with
 |nil=>intro k;exact .inl ⟨rfl,rfl⟩
 | @cons q x qs xs hq t ih=>
  intro k;obtain⟨Y,h2,h3⟩:=hq;by_cases hk:q.1=k
  ·refine .inr ⟨q.2,x.2,?_,?_,h3⟩
   ·unfold a_;simp[hk]
   ·unfold atKey;rw[pu (by simp[<- Y,hk])];rfl
  ·rcases ih k with⟨a,b⟩|⟨v,p,a,b,c⟩
   ·refine .inl ⟨?_,?_⟩
    ·unfold a_ at a⊢;rw[km (by simpa using hk)];exact a
    ·unfold atKey at b⊢;rw[km (by simpa[<- Y]using hk)];exact b
   ·refine .inr ⟨v,p,?_,?_,c⟩
    ·unfold a_ at a⊢;rw[km (by simpa using hk)];exact a
    ·unfold atKey at b⊢;rw[km (by simpa[<- Y]using hk)];exact b
theorem zN(K:X.A.units+1<cLine)(ho:SE X o td)(he:SE X e ty)(hf:SE X f tx)(m:M2 X o "setdefault" apos e f cpos):SE X (.Call (.Attribute o "setdefault" apos) [e,f] [] cpos) (GT td ty tx):=by
 constructor;intro i s t H Q I h;refine wpAny_Call_method m.base m.few m.line kz oa PySem.F.type_dict_setdefault (ay (ho.h i s t H _ I h) ?_);rintro u s1 ⟨x,H1,L,rx,a,ex,d,n⟩;subst ex;obtain rfl:u=Value.ref a:=rx;obtain⟨t1,t2,_⟩:=Pn L d;refine⟨t1,t2,?_⟩;rw[m.trees];refine Calls.callWith_builtin rfl (Calls.evalArgs_plain (Calls.spliced_cons (ay (he.h i s1 t H1 _ L n) λiv s2 ⟨y,H2,I2,ry,j⟩=>
  Calls.spliced_cons (ay (hf.h i s2 t H2 _ I2 j) λN s3 ⟨z,C,r,P,g,k,b,D,ey,R,av,g1,g2⟩=>Calls.spliced_nil ?_))))
 subst ey;obtain rfl:iv=Value.ref b:=ry;obtain⟨z',hd,xs,rel,dd⟩:=KP r.hok D;have hz:xs.length<=sizeLine:=by rw[<- Paired.length rel];exact z'
 refine call_meetsIn oa dd.typeIs PySem.F.entry_dict_setdefault (pz _ _ _) (fP (tupleKind (cz X.prog X.w)) a b hd N) ⟨?_,k,xs,j9 r.hok R,dd,hz,λp T=>?_,λV M jl hs=>?_⟩
 ·exact tupleKind_room_in1 K
 ·rcases RS rel k with⟨_,q⟩|⟨v,p',n,j,q3⟩
  ·rw[T]at q;cases q
  ·rw[T]at j;cases j;exact⟨v,C,r.tok _,q3,g1 v n⟩
 ·have hk:a_ g k=none:=by
   rcases RS rel k with⟨q,_⟩|⟨v,p',n,j,q3⟩
   ·exact q
   ·rw[V]at j;cases j
  obtain⟨q,es,ep,hq,h2,h3,h4,_,h5⟩:=jl;have hl:(g++[(k,z)]).length<=sizeLine:=by simp;lia
  have E:KT (upd C a (.dT (g++[(k,z)]))) (g++[(k,z)]) (xs++[(k,b,N)]):=by
   have r1:=rel.put k R P;rw[L2.cA _ hk,storedH_new V]at r1;refine r1.keeps λc J l=>l.upd λu K z=>?_;subst z;rcases l with l|⟨_,l⟩<;>(rw[D]at l;cases l)
  have G:br X.prog X.w (upd C a (.dT (g++[(k,z)]))) M a (.dT (g++[(k,z)])):=⟨hl,hd,_,E,q,es,ep,hq,h2,h3,h4,h5⟩
  exact⟨z,_,dW r (by rw[D];exact True.intro) hs ⟨q,hq⟩ G,P,g2 hk⟩
theorem FZ{a:Pos}:SS X (.Return none a) OW:=⟨Wi⟩
end
noncomputable instance KB:DecidableEq Tv:=Classical.typeDecidableEq Tv
def HT(h:Heap):Nat->Value->Tv->Prop
 |_,v,.s z=>∃t,v=.str z t
 |_,v,.i z=>∃t,v=.int z t
 |n+1,v,.t ds=>∃a b,v=.ref a/\h.IsTuple a b/\b.size=ds.length/\∀j(Y:j<b.size)(h2:j<ds.length),HT h n b[j] ds[j]
 |0,_,.t _=>False
def Ar(w:World):Nat->Tv->Int
 |_,.s z=>A9 w (.inr z)
 |_,.i z=>A9 w (.inl z)
 |n+1,.t ds=>reduceHash (Builtin.Tuple.tupleHashOf (ds.map (Ar w n)))
 |0,.t _=>0
def Cy:Nat->Tv->Nat
 |_,.s _=>1
 |_,.i _=>1
 |n+1,.t ds=>(ds.map (Cy n)).sum+1
 |0,.t _=>0
theorem HT.inj : ∀ {n : Nat} {v : Value} {x y : Tv}, HT h n v x -> HT h n v y -> x = y
  | n, v, .s z, y, d, b => by
    have d : ∃ t, v = .str z t := by cases n <;> exact d
    obtain ⟨t, rfl⟩ := d
    cases y with
    | s z' => have b : ∃ c, Value.str z t = .str z' c := by cases n <;> exact b
              obtain ⟨c, e⟩ := b; cases e; rfl
    | i z' => have b : ∃ c, Value.str z t = .int z' c := by cases n <;> exact b
              obtain ⟨c, e⟩ := b; cases e
    | t ds => cases n with
      | zero => exact b.elim
      | succ n => obtain ⟨a, _, e, _⟩ := b; cases e
  | n, v, .i z, y, d, b => by
    have d : ∃ t, v = .int z t := by cases n <;> exact d
    obtain ⟨t, rfl⟩ := d
    cases y with
    | s z' => have b : ∃ c, Value.int z t = .str z' c := by cases n <;> exact b
              obtain ⟨c, e⟩ := b; cases e
    | i z' => have b : ∃ c, Value.int z t = .int z' c := by cases n <;> exact b
              obtain ⟨c, e⟩ := b; cases e; rfl
    | t ds => cases n with
      | zero => exact b.elim
      | succ n => obtain ⟨a, _, e, _⟩ := b; cases e
  | 0, v, .t ds, y, d, b => d.elim
  | n + 1, v, .t ds, y, d, b => by
    obtain ⟨a, g, rfl, r, E, l⟩ := d
    cases y with
    | s z' => obtain ⟨c, e⟩ := (show ∃ c, Value.ref a = .str z' c from b); cases e
    | i z' => obtain ⟨c, e⟩ := (show ∃ c, Value.ref a = .int z' c from b); cases e
    | t es =>
      obtain ⟨G, f, e, u, H, m⟩ := b
      cases e
      obtain ⟨o, w, I, k, A⟩ := r
      obtain ⟨K, p, g2, L, q⟩ := u
      rw [w] at p; cases p
      rw [A] at q; cases q
      congr 1
      exact ga (by lia) λj C D => HT.inj (l j (by lia) C) (m j (by lia) D)
theorem HT.keeps:∀{n:Nat}{v:Value}{d:Tv},HT h n v d->∀{x:Addr}{o:Obj}{es:Array DictEntry}{ep:Nat},h.get? x=some o->o.data=.dict es ep->Heap.SameBut x h M->HT M n v d
 |n,v,.s z,hx,_,_,_,_,_,_,_=>by cases n<;>exact hx
 |n,v,.i z,hx,_,_,_,_,_,_,_=>by cases n<;>exact hx
 |0,v,.t ds,hx,_,_,_,_,_,_,_=>hx.elim
 |n+1,v,.t ds,hx,x,o,es,ep,ho,hd,hs=>by
  obtain⟨a,items,rfl,⟨q,Y,h2,k,h3⟩,sz,at_⟩:=hx;have b:a≠x:=λe=>by rw[e,ho]at Y;cases Y;rw[hd]at h3;cases h3
  exact⟨a,items,rfl,⟨q,(hs.2 a b).trans Y,h2,k,h3⟩,sz,λj c f=>(at_ j c f).keeps ho hd hs⟩
theorem HT.hash(prog:Program):∀{n:Nat}{v:Value}{d:Tv}{A:Around}{E:Value->Shared->Prop}{s:Shared}{Q:Int->Shared->Prop},A.units+n<cLine->HT s.heap n v d->Q (Ar w n d) {s with toks:=s.toks+Cy n d}->wpAny 'f' A (pyHash v) Q E s
 |n,v,.s z,A,E,s,Q,hu,c,h=>by
  have c:∃t,v=.str z t:=by cases n<;>exact c
  obtain⟨t,rfl⟩:=c;have h:Q (A9 w (.inr z)) {s with toks:=s.toks+1}:=by cases n<;>exact h
  exact(cz prog w).pyHash (fN prog w z t) h
 |n,v,.i z,A,E,s,Q,hu,c,h=>by
  have c:∃t,v=.int z t:=by cases n<;>exact c
  obtain⟨t,rfl⟩:=c;have h:Q (A9 w (.inl z)) {s with toks:=s.toks+1}:=by cases n<;>exact h
  exact(cz prog w).pyHash (k:=.inl z) (by show BZ (.inl z) (.int z t)=true;simp[BZ,Value.isInt]) h
 |0,v,.t ds,_,_,_,_,_,c,_=>c.elim
 |n+1,v,.t ds,A,E,s,Q,hu,c,h=>by
  obtain⟨a,items,rfl,⟨o,Y,h2,k,h3⟩,sz,at_⟩:=c;have g:s.TypeIs (.ref a) "tuple":=⟨o,Y,h2⟩
  unfold pyHash
  first|unfold pyHashByItsType|skip
  first|refine QT (wpAny_cRoomFor_or (.inr (by lia)) ?_)|skip
  refine QT (wpAny_specialOf g F.slot_tuple_hash.lookup ?_);show wpAny _ _ (if(some (Value.builtin "tuple.__hash__")==some Value.none)=true then _ else _) Q E s;rw[if_neg (by rw[beq_builtin_none];exact vU)];refine QT (wpAny_specialOf g F.slot_tuple_hash.lookup ?_);show wpAny _ _ (callSpecialIfBoundUnlessNone? (.ref a) "__hash__" _ >>=_) Q E s;refine QT (wpAny_callSpecialIfBoundUnlessNone?_slot g F.slot_tuple_hash (wpAny_call_entry F.slot_tuple_hash g F.entry_tuple_hash ?_ (F.args_tuple_hash_1 _)));show wpAny _ _ (Builtin.Tuple.tupleItemsOf (.ref a) >>=_) _ _ s;refine QT (wpAny_tupleItemsOf Y h3 ?_);refine QT ?_;rw[<- Array.forIn_toList];refine wpAny_forIn_list _
   (λf(b:Array Int)m=>∃i,i<=ds.length/\f=items.toList.drop i/\b.toList=(ds.take i).map (Ar w n)/\m={s with toks:=s.toks+((ds.take i).map (Cy n)).sum})
   _ ?_ ?_ _ _ ⟨0,dm _,rfl,rfl,by simp⟩
  ·rintro x f b m ⟨i,y,e,l,rfl⟩;have r:i<items.toList.length:=by
    by_cases z:i<items.toList.length
    ·exact z
    ·rw[List.drop_eq_nil_of_le (by lia)]at e;cases e
   rw[QN r]at e;obtain⟨rfl,rfl⟩:=fa e;have p:i<items.size:=by simpa using r
   have q:i<ds.length:=by lia
   have C:=at_ i p q
   have u:ds.take (i+1)=ds.take i++[ds[i]]:=by rw[Qs,Qa q];rfl
   refine QT (HT.hash prog (n:=n) (d:=ds[i]) (by rw[gZ];lia) (by simpa using C) ?_);have fin:∃j,j<=ds.length/\items.toList.drop (i+1)=items.toList.drop j/\(b.push (Ar w n ds[i])).toList=(ds.take j).map (Ar w n)/\({s with toks:=s.toks+((ds.take i).map (Cy n)).sum+Cy n ds[i]}:Shared)={s with toks:=s.toks+((ds.take j).map (Cy n)).sum}:=⟨i+1,q,rfl,by rw[u,Qm,Array.toList_push,l];rfl,by rw[u,Qm,List.sum_append,<- Nat.add_assoc];rfl⟩
   first
    |exact QU fin
    |exact QT (QU (QU fin))
  ·rintro b m ⟨i,y,e,l,rfl⟩;have D:i=ds.length:=by
    have:=congrArg List.length e;simp at this
    lia
   subst D;rw[Qo]at l⊢;show wpAny _ _ (retInt (Builtin.Tuple.tupleHashOf b.toList)) _ _ _;rw[l];refine wpAny_ret_mkInt ?_;show wpAny _ _ (if(decide (-(2:Int)^63<=Builtin.Tuple.tupleHashOf (ds.map (Ar w n)))&&decide (Builtin.Tuple.tupleHashOf (ds.map (Ar w n))<2^63))=true then _ else _) Q E _;have h:Q (reduceHash (Builtin.Tuple.tupleHashOf (ds.map (Ar w n)))) {s with toks:=s.toks+((ds.map (Cy n)).sum+1)}:=h;unfold reduceHash at h;by_cases e:(decide (-(2:Int)^63<=Builtin.Tuple.tupleHashOf (ds.map (Ar w n)))&&decide (Builtin.Tuple.tupleHashOf (ds.map (Ar w n))<2^63))=true
   ·rw[if_pos e];rw[if_pos e]at h;exact QU (by simpa[Nat.add_assoc]using h)
   ·rw[if_neg e];rw[if_neg e]at h;exact QT (wpAny_rule (QU (by simpa[Nat.add_assoc]using h)))
theorem HT.eq:∀{n:Nat}{u v:Value}{x y:Tv}{A:Around}{s:Shared},A.units+n<cLine->HT s.heap n u x->HT s.heap n v y->SeqAt.EqAt A s u v (decide (x=y))
 |n,u,v,.s z,y,A,s,hu,f,d=>by
  have f:∃t,u=.str z t:=by cases n<;>exact f
  obtain⟨t,rfl⟩:=f;cases y with
  |s z'=>
   have d:∃c,v=.str z' c:=by cases n<;>exact d
   obtain⟨c,rfl⟩:=d;have e:decide ((Tv.s z)=.s z')=(z==z'):=by by_cases q:z=z'<;>simp[q]
   rw[e];exact mD z t z' c
  |i z'=>
   have d:∃c,v=.int z' c:=by cases n<;>exact d
   obtain⟨c,rfl⟩:=d;have e:decide ((Tv.s z)=.i z')=false:=by simp
   rw[e];exact SeqAt.EqAt.str_int z t z' c
  |t es=>cases n with
   |zero=>exact d.elim
   |succ n=>
    obtain⟨a,items,rfl,it,_⟩:=d;have e:decide ((Tv.s z)=.t es)=false:=by simp
    rw[e];exact SeqAt.EqAt.str_tuple z t it (by lia)
 |n,u,v,.i z,y,A,s,hu,f,d=>by
  have f:∃t,u=.int z t:=by cases n<;>exact f
  obtain⟨t,rfl⟩:=f;cases y with
  |s z'=>
   have d:∃c,v=.str z' c:=by cases n<;>exact d
   obtain⟨c,rfl⟩:=d;have e:decide ((Tv.i z)=.s z')=false:=by simp
   rw[e];exact SeqAt.EqAt.int_str z t z' c
  |i z'=>
   have d:∃c,v=.int z' c:=by cases n<;>exact d
   obtain⟨c,rfl⟩:=d;have e:decide ((Tv.i z)=.i z')=(z==z'):=by by_cases q:z=z'<;>simp[q]
   rw[e];exact SeqAt.EqAt.int_int z t z' c
  |t es=>cases n with
   |zero=>exact d.elim
   |succ n=>
    obtain⟨a,items,rfl,it,_⟩:=d;have e:decide ((Tv.i z)=.t es)=false:=by simp
    rw[e];exact SeqAt.EqAt.int_tuple z t it (by lia)
 |0,_,_,.t ds,_,_,_,_,f,_=>f.elim
 |n+1,u,v,.t ds,y,A,s,hu,f,d=>by
  obtain⟨a,items,rfl,it,sz,at_⟩:=f;cases y with
  |s z'=>
   obtain⟨c,rfl⟩:=(show ∃c,v=.str z' c from d)
   have e:decide ((Tv.t ds)=.s z')=false:=by simp
   rw[e];exact SeqAt.EqAt.tuple_str z' c it (by lia)
  |i z'=>
   obtain⟨c,rfl⟩:=(show ∃c,v=.int z' c from d)
   have e:decide ((Tv.t ds)=.i z')=false:=by simp
   rw[e];exact SeqAt.EqAt.tuple_int z' c it (by lia)
  |t es=>
   have m:=d;obtain⟨b,items',rfl,Ga,RU,at'⟩:=d;by_cases mh:a=b
   ·subst mh;have e:Tv.t ds=.t es:=HT.inj (h:=s.heap) (n:=n+1) ⟨a,items,rfl,it,sz,at_⟩ m;rw[Qw e];exact nq _
   ·have o:∀j(k:j<items.size)(l:j<items'.size),SeqAt.EqAt A.in1 s items[j] items'[j] (decide (ds[j]? =es[j]?)):=λj k l=>by
     have:=HT.eq (A:=A.in1) (by rw[gZ];lia) (at_ j k (by lia)) (at' j l (by lia));have e:decide (ds[j]? =es[j]?)=decide (ds[j]'(by lia)=es[j]'(by lia)):=by
      rw[Qa (show j<ds.length by lia),Qa (show j<es.length by lia)];simp
     rw[e];exact this
    have r:=ox mh (pj (A:=A) (e:=λj=>decide (ds[j]? =es[j]?)) it Ga (by lia) o);have e:((List.range (min items.size items'.size)).all (λj=>decide (ds[j]? =es[j]?))&&items.size==items'.size)=decide (Tv.t ds=.t es):=by
     rw[sz,RU];have g:=us (ds:=ds) (es:=es) (ev:=λj=>decide (ds[j]? =es[j]?)) rfl rfl λj k l=>by
      rw[Qa k,Qa l];simp
     by_cases q:Tv.t ds=.t es
     ·rw[Qw q];exact g.mpr q
     ·rw[Qx q];cases hb:((List.range (min ds.length es.length)).all (λj=>decide (ds[j]? =es[j]?))&&ds.length==es.length)with
      |false=>rfl
      |true=>exact absurd (g.mp hb) q
    rw[<- e];exact r
theorem HT.quiet:∀{n m:Nat}{v:Value}{d:Tv}{A:Around}{E:Value->Shared->Prop}{s:Shared}{Q:Bool->Shared->Prop},n<=m->HT s.heap n v d->Q true s->wpAny 'f' A (eqIsQuiet m v) Q E s
 |n,m,v,.s z,A,E,s,Q,hm,b,h=>by
  have b:∃t,v=.str z t:=by cases n<;>exact b
  obtain⟨t,rfl⟩:=b;rw[eqIsQuiet_byValue _ rfl];exact QU h
 |n,m,v,.i z,A,E,s,Q,hm,b,h=>by
  have b:∃t,v=.int z t:=by cases n<;>exact b
  obtain⟨t,rfl⟩:=b;rw[eqIsQuiet_byValue _ rfl];exact QU h
 |0,_,_,.t ds,_,_,_,_,_,b,_=>b.elim
 |n+1,m,v,.t ds,A,E,s,Q,hm,b,h=>by
  obtain⟨a,items,rfl,⟨o,Y,h2,k,h3⟩,sz,at_⟩:=b;have l:s.TypeIs (.ref a) "tuple":=⟨o,Y,h2⟩
  obtain⟨m,rfl⟩:∃q,m=q+1:=⟨m-1,by lia⟩
  unfold eqIsQuiet;refine QT (wpAny_specialOf l F.slot_tuple_eq.lookup ?_);show wpAny _ _ (isInstance (.ref a) (.type "tuple") >>=_) _ _ s;refine QT (wpAny_isInstance l isSubtype_tuple_tuple ?_);simp only[Bool.not_true,fi,if_false];refine QT (wpAny_seqItems Y h3 ?_);refine QT ?_;show wpAny _ _ (forIn items _ _) _ _ s;rw[<- Array.forIn_toList];refine wpAny_forIn_list _ (λc r e=>r.1=none/\e=s/\∀u∈c,∃d,HT s.heap n u d) _ ?_ ?_ _ _ ⟨rfl,rfl,λu x=>?_⟩
  ·rintro u c r e ⟨f,rfl,p⟩;obtain⟨d,hd⟩:=p u yS;refine QT (HT.quiet (n:=n) (by lia) hd ?_);simp only[Bool.not_true,fi,if_false];exact QU ⟨rfl,rfl,λu g=>p u (Qh _ g)⟩
  ·rintro⟨r1,r2⟩ e ⟨f,rfl,_⟩;simp only at f;subst f;exact QU h
  ·obtain⟨j,hj,rfl⟩:=Qi x;have y:j<items.size:=by simpa using hj
   exact⟨_,by simpa using at_ j y (by lia)⟩
noncomputable def GL(prog:Program)(w:World):HeapKind prog w Tv where
 is:=λh d a=>HT h 3 (.ref a) d
 hash:=Ar w 3
 draws:=Cy 3
 room:=λA=>A.units+3<cLine
 inj:=λhx hy=>hx.inj hy
 keeps:=λx ho hd hs=>x.keeps ho hd hs
 pyHash:=λhu hk h=>HT.hash _ hu hk h
 eqBool:=λhu hx hy h=>HT.eq hu hx hy _ _ _ _ h
 quiet:=λhk h=>HT.quiet (by decide) hk h
abbrev vp:=List (Tv×Addr×Addr)
def oz(xs:vp):List (Tv×Addr×Value):=xs.map λx=>(x.1,x.2.1,.ref x.2.2)
def GN(P:Program)(w:World)(a:Addr)(xs:vp)(h:Heap):Prop:=xs.length<=sizeLine/\(a==sysModules)=false/\∃o es ep,h.get? a=some o/\o.ExactDict/\o.data=.dict es ep/\es.toList=(oz xs).map (entryOfKey (GL P w))/\(xs.map (·.1)).Nodup
theorem GN.keep{xs:vp}{b c:Heap}(h:GN P w a xs b)(k:∀o,b.get? a=some o->c.get? a=some o):GN P w a xs c:=
 let ⟨z,y,o,es,ep,q,r⟩:=h;⟨z,y,o,es,ep,k _ q,r⟩
abbrev iy(P:Program)(w:World)(a:Addr)(xs:vp):HO:=.ext (GN P w a xs)
structure E3(P:Program)(w:World)(H:Hp)(a:Addr)(xs:vp):Prop where
 at_:H a=some (iy P w a xs)
 ks:∀p∈xs,TD H 3 (.ref p.2.1) p.1
section
variable{xs:vp}
theorem L8(e:GN P w a xs h):br P w H h a (iy P w a xs):=⟨e,(let ⟨_,_,o,_,_,ho,_⟩:=e;⟨o,ho⟩),λb c x k=>x.keep k⟩
theorem TD.ht(I:Inv X B Z H s):∀{n:Nat}{x:V}{d:Tv}{v:Value},TD H n x d->RelV x v->HT s.heap n v d:=by
 intro n
 induction n with
 |zero=>
  intro x d v h r;rcases h.v with⟨z,rfl⟩|⟨z,rfl⟩|⟨a,rfl⟩
  ·obtain rfl:=h.Al;exact r
  ·obtain rfl:=h.Am;exact r
  ·obtain⟨_,_,_,z,_⟩:=h.AW;cases z
 |succ n ih=>
  intro x d v h r;rcases h.v with⟨z,rfl⟩|⟨z,rfl⟩|⟨a,rfl⟩
  ·obtain rfl:=h.Al;exact r
  ·obtain rfl:=h.Am;exact r
  ·obtain⟨n',ds,xs,e1,rfl,r1,t1⟩:=h.AW;cases e1;obtain⟨its,v1,p1,_⟩:=I.tuple (ak.Dw r1);obtain rfl:v=Value.ref a:=r;have f:=v1.length;have g:=t1.len;refine⟨a,its.toArray,rfl,p1,by simp;lia,λj b c=>?_⟩;obtain⟨w1,f1,q1⟩:=v1.get (Qa (show j<xs.length by lia));have e:its.toArray[j]=w1:=by rw[Qa (by simpa using b)]at f1;simpa using f1
   rw[e];exact ih (t1.at_ j (by lia) c) q1
theorem E3.real(h:E3 X.prog X.w H a xs)(I:Inv X B Z H s):xs.length<=sizeLine/\(a==sysModules)=false/\s.heap.DictOfH (GL X.prog X.w) a (oz xs):=by
 obtain⟨z,y,o,es,ep,Y,h2,h3,h4,h5⟩:=(show br X.prog X.w H s.heap a (iy X.prog X.w a xs)from I.hok a _ h.at_).1;refine⟨z,y,o,es,ep,Y,h2,h3,h4,λx b=>?_,by simpa[oz,Qn,QC]using h5⟩;obtain⟨p,hp,rfl⟩:=Z2.mp b;exact TD.ht I (h.ks p hp) (v:=.ref p.2.1) rfl
def Ec(P:Program)(w:World):TE:=λ_ H Q=>∀D,H D=none->Q (.ref D) (upd H D (iy P w D []))
theorem Jn{b:Pos}(P:Program)(w:World)(d:X.prog=P:=by rfl)(e:X.w=w:=by rfl):SE X (.Dict [] [] b) (Ec P w):=by
 subst d e;constructor;intro c s g H Q I h;refine wpAny_Dict_empty ⟨.ref s.heap.objs.size,_,I.laid (a:=s.heap.objs.size) (o:=iy X.prog X.w s.heap.objs.size []) (t':=s.toks) (λ_ _ q=>Qc _ q) (Qz _) ?_,rfl,h _ (I.hok.fresh (Qz _))⟩;have f:=tH (P:=X.prog) (w:=X.w) (H:=H) s.heap I.big;obtain⟨_,hy,_,_,o,es,ep,Y,h2,h3,h4,h5⟩:=f;obtain⟨_,hd2⟩:=Heap.DictOfH.new (knd:=GL X.prog X.w) s.heap;obtain⟨L_,ep2,g1,g2,g3,g4,g5,g6⟩:=hd2;exact L8 ⟨dm _,hy,_,L_,ep2,g1,g2,g3,g4,by simp⟩
variable{o f:Expr}{td ty tx:TE}
def uj(P:Program)(w:World)(e ty f:TE):TE:=λZ H Q=>e Z H λx H1=>∃a,x=.ref a/\(∃xs,E3 P w H1 a xs)/\ty Z H1 λy H2=>f Z H2 λz c=>∃xs d b l,E3 P w c a xs/\y=.ref b/\z=.ref l/\TD c 3 (.ref b) d/\xs.length<sizeLine/\
 (∀p∈xs,p.1=d->Q (.ref p.2.2) c)/\(d∉xs.map (·.1)->Q (.ref l) (upd c a (iy P w a (xs++[(d,b,l)]))))
theorem RX{xs:vp}{d:Tv}:(d∉xs.map (·.1)/\atKey (oz xs) d=none)\/∃p∈xs,p.1=d/\atKey (oz xs) d=some (p.2.1,.ref p.2.2):=by
 induction xs with
 |nil=>exact .inl ⟨by simp,rfl⟩
 |cons x xs ih=>
  by_cases hx:x.1=d
  ·refine .inr ⟨x,yS,hx,?_⟩;unfold atKey oz;rw[yV,pu (by simpa using hx)];rfl
  ·have e:atKey (oz (x::xs)) d=atKey (oz xs) d:=by
    unfold atKey oz;rw[yV,km (by simpa using hx)]
   rw[e];rcases ih with⟨a,b⟩|⟨p,a,b,c⟩
   ·exact .inl ⟨by simp only[yV,Qp,not_or];exact⟨λz=>hx z.symm,a⟩,b⟩
   ·exact .inr ⟨p,Qh _ a,b,c⟩
theorem yG(P:Program)(w:World)(hu:X.A.units+10<cLine)(N:SE X o td)(R:SE X e ty)(T:SE X f tx)(m:M2 X o "setdefault" apos e f cpos)(V:X.prog=P:=by rfl)(hw:X.w=w:=by rfl):SE X (.Call (.Attribute o "setdefault" apos) [e,f] [] cpos) (uj P w td ty tx):=by
 subst V hw;constructor;intro c s n H Q I h;refine wpAny_Call_method m.base m.few m.line kz oa PySem.F.type_dict_setdefault (ay (N.h c s n H _ I h) ?_);rintro u s1 ⟨x,H1,D,rx,a,ex,⟨Bl,d0⟩,i⟩;subst ex;obtain rfl:u=Value.ref a:=rx;obtain⟨_,_,RY⟩:=d0.real D;refine⟨RY.typeIs,(λb hb=>by cases hb;obtain⟨o,es,ep,Y,h2,_⟩:=RY;exact⟨o,Y,h2.2.1⟩),?_⟩;rw[m.trees];refine Calls.callWith_builtin rfl (Calls.evalArgs_plain (Calls.spliced_cons (ay (R.h c s1 n H1 _ D i) λiv s2 ⟨y,H2,I2,ry,j⟩=>
  Calls.spliced_cons (ay (T.h c s2 n H2 _ I2 j) λfv s3 ⟨z,E,k,rz,xs,d,b,l,G,ey,ez,r,av,g1,g2⟩=>Calls.spliced_nil ?_))))
 subst ey ez;obtain rfl:iv=Value.ref b:=ry;obtain rfl:fv=Value.ref l:=rz;obtain⟨z',hd,dd⟩:=G.real k;have hz:(oz xs).length<=sizeLine:=by simpa[oz]using z'
 refine call_meetsIn oa dd.typeIs PySem.F.entry_dict_setdefault (pz _ _ _) (fP (GL X.prog X.w) a b hd (.ref l)) ⟨?_,d,oz xs,TD.ht k r rfl,dd,hz,λp K=>?_,λhn M jl hs=>?_⟩
 ·show(Around.in1 _).units+3<cLine;simp only[gZ];lia
 ·rcases RX (xs:=xs) (d:=d)with⟨_,q⟩|⟨t,i,j,g⟩
  ·rw[K]at q;cases q
  ·rw[K]at g;cases g;exact⟨.ref t.2.2,E,k.tok _,rfl,g1 t i j⟩
 ·have hk:d∉xs.map (·.1):=by
   rcases RX (xs:=xs) (d:=d)with⟨q,_⟩|⟨t,i,j,g⟩
   ·exact q
   ·rw[hn]at g;cases g
  obtain⟨q,es,ep,hq,h2,h3,h4,_,h5⟩:=jl;have L:oz (xs++[(d,b,l)])=oz xs++[(d,b,.ref l)]:=by simp[oz]
  have C:br X.prog X.w (upd E a (iy X.prog X.w a (xs++[(d,b,l)]))) M a (iy X.prog X.w a (xs++[(d,b,l)])):=L8 ⟨by simp;lia,hd,q,es,ep,hq,h2,h3,by rw[L];exact h4,by
   rw[<- L]at h5;simpa[oz,Qn,QC]using h5⟩
  exact⟨.ref l,_,dW k (by rw[G.at_];exact True.intro) hs ⟨q,hq⟩ C,rfl,g2 hk⟩
def Gg(P:Program)(w:World)(b:TE):TE:=λZ H Q=>b Z H λx H1=>∃a xs,x=.ref a/\H1 a=some (iy P w a xs)/\∀o,Q x (upd H1 a (.af o (iy P w a xs)))
theorem ut(P:Program)(w:World)(k:SE X e te)(l:X.prog=P:=by rfl)(m:X.w=w:=by rfl):SE X e (Gg P w te):=by
 subst l m;constructor;intro c s n H Q I h;refine ay (k.h c s n H _ I h) ?_;rintro v d ⟨x,p,f,r,a,g,t,i,q⟩;have j:=(show br X.prog X.w p d.heap a (iy X.prog X.w a g)from f.hok a _ i)
 obtain⟨o,ho⟩:=j.2.1;exact⟨x,_,f.write (x:=a) (e:=a) (M:=d.heap) (t':=d.toks) (o:=.af o (iy X.prog X.w a g)) (by rw[i];exact True.intro) (.inl rfl) (λb u _ q=>q) ⟨o,ho⟩ ⟨ho,L8 j.1⟩,r,q o⟩
end
def E4(xs:vp)(i:Nat):V:=((xs[i]?).map λx=>V.ref x.2.2).getD .ao
def Ma(P:Program)(w:World)(a:Addr)(o:Obj)(xs:vp):It:=⟨λi H=>H a=some (.af o (iy P w a xs))/\i<xs.length,λi H x U=>U=H/\x=E4 xs i,λi H=>H a=some (.af o (iy P w a xs))/\xs.length=i⟩
theorem yR(xs:vp):AR (Ma P w a o xs) (λH=>H a=some (.af o (iy P w a xs))) xs.length (E4 xs):=λH b=>⟨λi c=>⟨⟨b,c⟩,λx d h=>h⟩,b,rfl⟩
theorem wI{K:Q0}{xs:vp}(y:∃es,o.data=.dict es ep):dk P w K tg (Ma P w a o xs) [it] it (λi h=>h.IsValIter it a i xs.length ep)where
 mem:=by simp
 obj:=λi h st b g=>by
  have e:b=it:=by simpa using g
  subst e;obtain⟨o,e,c,d⟩:=st;exact⟨o,e,λv z=>by rw[d]at z;cases z⟩
 keep:=λi h m st k=>let ⟨o,e,r⟩:=st;⟨o,k it (by simp) o e,r⟩
 item:=by
  intro X q t u A i f s C H E I p st x;subst q t u;obtain⟨hq,hi⟩:=x;obtain⟨e,⟨z,hd,ob,es,p_,Y,h2,h3,h4,h5⟩,_⟩:=(show br X.prog X.w H s.heap a (.af o (iy X.prog X.w a xs))from I.hok a _ hq)
  obtain⟨es',fu⟩:=y;rw[e]at Y;cases Y;rw[fu]at h3;injection h3 with iu iw
  subst iu iw;have j:es'.size=xs.length:=by rw[<- gT,h4,Ql];simp[oz]
  have D:es'[i]? =some (entryOfKey (GL X.prog X.w) (xs[i].1,xs[i].2.1,.ref xs[i].2.2)):=by
   rw[<- md,h4,Qq];unfold oz;rw[Qq,Qa hi];rfl
  obtain⟨f0,f1,f2,f3,f4,f5⟩:=p it (by simp);refine qF (n:=xs.length) st e fu j D λm l G=>?_;have L:Inv X f C H {s with heap:=m}:=I.turned (t':=s.toks) (λb o g e=>(G.2 b g).trans e) f0 f1 f3 f4 f5;obtain⟨o3,e3,c3,d3⟩:=id l;refine⟨_,rfl,lU (s:={s with heap:=m}) e3 c3 d3 (by decide) ⟨E4 xs i,H,L,?_,⟨rfl,rfl⟩,l,λb g=>(p b g).1⟩⟩;unfold E4;rw[Qa hi];rfl
 done:=by
  intro X q t u A i f s C H E I p st x;subst q t u;obtain⟨hq,hi⟩:=x;obtain⟨e,⟨z,hd,ob,es,p_,Y,h2,h3,h4,h5⟩,_⟩:=(show br X.prog X.w H s.heap a (.af o (iy X.prog X.w a xs))from I.hok a _ hq)
  obtain⟨es',fu⟩:=y;rw[e]at Y;cases Y;rw[fu]at h3;injection h3 with iu iw
  subst iu iw;have j:es'.size=xs.length:=by rw[<- gT,h4,Ql];simp[oz]
  obtain⟨f0,f1,f2,f3,f4,f5⟩:=p it (by simp);exact t8 (n:=xs.length) (I.ok.hd A) st e fu j (by lia) λm N=>⟨rfl,I.turned (t':=s.toks) (λb o g e=>N b o g e) f0 f1 f3 f4 f5⟩
 self:=λ_ _ _ _ _ st h=>wpAny_pyIter_valiter st h
section
variable{o:Expr}
def AG(P:Program)(w:World)(b:TE):TI:=λZ H R=>b Z H λx H1=>∃a xs o,x=.ref a/\H1 a=some (.af o (iy P w a xs))/\R (Ma P w a o xs) H1
theorem Du(P:Program)(w:World)(m:SE X o to)(n:X.prog=P:=by rfl)(p:X.w=w:=by rfl)(r:attributeBase o "values" X.env (eval o X.env)=eval o X.env:=by rfl)(t:(apos.endLine==cpos.line)=true:=by rfl):
  SI X tg (.Call (.Attribute o "values" apos) [] [] cpos) (AG P w to):=by
 subst n p;constructor;intro c s k H R I h;refine wpAny_Call_method0_late r t (ay (m.h c s k H _ I h) ?_);rintro v d ⟨x,u,l,y,a,xs,o,A,C,q⟩;subst A;cases y;obtain⟨e,⟨z,yd,ob,es,ep,Y,h2,hd,h4,h5⟩,_⟩:=(show br X.prog X.w _ d.heap a (.af o (iy X.prog X.w a xs))from l.hok a _ C)
 rw[e]at Y;cases Y;have f:es.size=xs.length:=by rw[<- gT,h4,Ql];simp[oz]
 have g:d.TypeIs (.ref a) "dict":=⟨o,e,h2.1⟩
 refine⟨"dict","dict.values",kz,nh,PySem.F.type_dict_values,g,λb i=>by cases i;exact⟨o,e,h2.2.1⟩,Calls.callWith_builtin rfl (ng ?_)⟩;refine call_meetsIn nh g PySem.F.entry_dict_values (PySem.F.args_dict_values_1 _) (iS a yd) ⟨g,?_⟩;have j:Inv X c k u {d with heap:='k'}:=l.kept (t':=d.toks) λb o e=>Qc _ e;refine hU (es:=es) (ep:=ep) ⟨_,Qd _ rfl,rfl,rfl⟩ (Qc _ e) hd ?_;refine⟨_,[('k').objs.size],_,_,_,rfl,j.kept (t':=d.toks) λb o e=>Qc _ e,wI (xs:=xs) (a:=a) (o:=o) ⟨es,hd⟩,by rw[<- f];exact⟨_,Qd _ rfl,rfl,rfl⟩,λb i=>?_,q⟩;have e:b=('k').objs.size:=by simpa using i
 subst e;exact j.wj (Qz _) (j.hok.fresh (Qz _))
end
def qm(r1 r2:List aj):Nat->Pr->Prop
 |0,p=>nc r1 r2 p
 |n+1,p=>nc r1 r2 p/\∀s∈stH (au r1 p.1),qm r1 r2 n (y_ r1 r2 p s)
def d_(r1 r2:List aj)(p:Pr):Prop:=∀v m,ii (jb r1 r2) p v=some m->¬EY r1 r2 m
section
variable{r3:List aj}{p p0 m:Pr}{a b c:Str}
theorem qm.top:∀{n:Nat}{p:Pr},qm r1 r2 n p->nc r1 r2 p
 |0,_,h=>h
 |_+1,_,h=>h.1
theorem nc.symm(h:nc r1 r2 (a,b)):nc r2 r1 (b,a):=⟨h.1.symm,h.2.symm⟩
theorem qm.refl:∀(n:Nat)(a:Str),qm r1 r1 n (a,a)
 |0,_=>⟨rfl,rfl⟩
 |n+1,a=>⟨⟨rfl,rfl⟩,λs _=>qm.refl n _⟩
theorem qm.symm:∀{n:Nat}{a b:Str},qm r1 r2 n (a,b)->qm r2 r1 n (b,a)
 |0,_,_,h=>nc.symm h
 |n+1,a,b,h=>⟨h.1.symm,λs c=>(h.2 s (by rw[h.1.2];exact c)).symm⟩
theorem qm.trans:∀{n:Nat}{a b c:Str},qm r1 r2 n (a,b)->qm r2 r3 n (b,c)->qm r1 r3 n (a,c)
 |0,_,_,_,h,M=>⟨h.1.trans M.1,h.2.trans M.2⟩
 |n+1,a,b,c,h,M=>⟨⟨h.1.1.trans M.1.1,h.1.2.trans M.1.2⟩,λs d=>(h.2 s d).trans (M.2 s (by
   have:=h.1.2;rw[<- show stH (au r1 a)=stH (au r2 b)from this];exact d))⟩
theorem m9:∀{n:Nat}{p:Pr},(∀r m,r.length<=n->ii (jb r1 r2) p r=some m->nc r1 r2 m)->qm r1 r2 n p
 |0,p,h=>h [] p (Qz _) rfl
 |n+1,p,h=>by
  have b:=h [] p (dm _) rfl;refine⟨b,λs c=>?_⟩;obtain⟨a,ha,ea⟩:=Qi c;refine m9 λr m e d=>h (a::r) m (by simp;lia) ?_;rw[sY,kJ b,rR,Qa ha,ea];exact d
theorem lZ:∀{n:Nat}{p:Pr},qm r1 r2 n p->∀{r:cm}{m:Pr},r.length<=n->ii (jb r1 r2) p r=some m->nc r1 r2 m
 |n,p,h,[],m,_,hg=>by cases hg;exact h.top
 |n+1,p,h,a::r,m,hl,hg=>by
  have b:=h.top;rw[sY,kJ b,rR]at hg;cases hs:(stH (au r1 p.1))[a]? with
  |none=>rw[hs]at hg;cases hg
  |some s=>
   rw[hs]at hg;exact lZ (h.2 s (QD hs)) (by simpa using hl) hg
 |0,p,h,a::r,m,hl,hg=>absurd hl (by simp)
theorem eZ:d_ r1 r2 p↔∀n,qm r1 r2 n p:=
 ⟨λh n=>m9 λr m _ a=>px (h r m a),λh v m a b=>b (lZ (h v.length) (Qz _) a)⟩
theorem d_.symm(h:d_ r1 r2 (a,b)):d_ r2 r1 (b,a):=eZ.mpr λn=>(eZ.mp h n).symm
theorem d_.trans(h:d_ r1 r2 (a,b))(M:d_ r2 r3 (b,c)):d_ r1 r3 (a,c):=eZ.mpr λn=>(eZ.mp h n).trans (eZ.mp M n)
theorem d_.refl:d_ r1 r1 (a,a):=eZ.mpr λn=>qm.refl n a
theorem d_.me(h:d_ r1 r2 p):nc r1 r2 p:=eZ.mp h 0
theorem d_.kid(h:d_ r1 r2 p){s:aU}(hs:s∈stH (au r1 p.1)):d_ r1 r2 (y_ r1 r2 p s):=eZ.mpr λn=>(eZ.mp h (n+1)).2 s hs
end
def E5(y a:Str):Prop:=a=y++"q"\/a=y++"r"
def E6:Hd->Hd->Prop
 | .one s,.one s'=>s'=s
 | .as y,.as y'=>E5 y y'
 | .way x y,.way x' y'=>E5 x x'/\E5 y y'
 | .prs s ps,.prs s' qs=>s'=s/\qs.length=ps.length/\∀j(Y:j<qs.length)(h2:j<ps.length),qs[j].1=ps[j].1/\E5 ps[j].2 qs[j].2
 |_,_=>False
theorem E6.nx:∀{h M:Hd},E6 h M->(h.nx=none/\M.nx=none)\/∃y a,h.nx=some y/\M.nx=some a/\E5 y a
 | .one _,.one _,_=>.inl ⟨rfl,rfl⟩
 | .as y,.as a,t=>.inr ⟨y,a,rfl,rfl,t⟩
 | .way _ _,.way _ _,_=>.inl ⟨rfl,rfl⟩
 | .prs _ _,.prs _ _,_=>.inl ⟨rfl,rfl⟩
theorem E6.fg:∀{h M:Hd},E6 h M->h.fg=M.fg
 | .one _,.one _,t=>by cases t;rfl
 | .as _,.as _,_=>rfl
 | .way _ _,.way _ _,_=>rfl
 | .prs _ _,.prs _ _,t=>by obtain⟨rfl,_⟩:=t;rfl
theorem E6.bh{h M:Hd}(t:E6 h M):M.bh.length=h.bh.length/\∀j(a:j<M.bh.length)(b:j<h.bh.length),M.bh[j].1=h.bh[j].1/\E5 h.bh[j].2 M.bh[j].2:=by
 cases h with
 |one s=>cases M with
  |one s'=>exact⟨rfl,λj a=>absurd a (by simp[Hd.bh])⟩
  |as _=>exact t.elim
  |way _ _=>exact t.elim
  |prs _ _=>exact t.elim
 |as y=>cases M with
  |as y'=>exact⟨rfl,λj a=>absurd a (by simp[Hd.bh])⟩
  |one _=>exact t.elim
  |way _ _=>exact t.elim
  |prs _ _=>exact t.elim
 |way x y=>cases M with
  |way x' y'=>
   refine⟨rfl,λj a b=>?_⟩;have c:j<2:=a
   match j,c with
   |0,_=>exact⟨rfl,t.1⟩
   |1,_=>exact⟨rfl,t.2⟩
  |one _=>exact t.elim
  |as _=>exact t.elim
  |prs _ _=>exact t.elim
 |prs s ps=>cases M with
  |prs s' qs=>
   obtain⟨rfl,hl,ht⟩:=t;refine⟨by simp[Hd.bh,hl],λj a b=>?_⟩;have:=ht j (by simpa[Hd.bh]using a) (by simpa[Hd.bh]using b);simp only[Hd.bh,Qr];exact⟨by rw[this.1],this.2⟩
  |one _=>exact t.elim
  |as _=>exact t.elim
  |way _ _=>exact t.elim
def dl(F:List aj)(a:Str)(s:aU):Str:=(jo F a s).getD ""
theorem vw(r1 r2:List aj)(a b:Str)(s:aU):y_ r1 r2 (a,b) s=(dl r1 a s,dl r2 b s):=rfl
structure BB(F:List aj)(R:aU)(num:Str->Nat)(wt:cm):Prop where
 co:∀a∈R,∀b∈R,d_ F F (a,b)->num a=num b
 me:∀a∈R,∀b∈R,num a=num b->nc F F (a,b)
 st:∀a∈R,∀b∈R,num a=num b->∀s∈stH (au F a),num (dl F a s)=num (dl F b s)\/num (dl F a s)∈wt\/num (dl F b s)∈wt
structure xg(F:List aj)(R:aU)(num:Str->Nat)(wt:cm)(W:aU)(dn:List aU):Prop where
 co:∀a∈R,∀b∈R,d_ F F (a,b)->num a=num b
 me:∀a∈R,∀b∈R,num a=num b->nc F F (a,b)
 st:∀a∈R,∀b∈R,num a=num b->∀s∈stH (au F a),num (dl F a s)=num (dl F b s)\/num (dl F a s)∈wt\/num (dl F b s)∈wt\/(s∉dn/\¬(dl F a s∈W↔dl F b s∈W))
 un:∀a∈R,∀b∈R,num a=num b->(a∈W↔b∈W)
 sd:∀s∈dn,∀a∈R,∀b∈R,num a=num b->s∈stH (au F a)->(dl F a s∈W↔dl F b s∈W)
section
variable{F:List aj}{R W:aU}{wt e_:cm}{dn:List aU}
def E7(F:List aj)(R:aU):Prop:=∀a∈R,∀s∈stH (au F a),dl F a s∈R
theorem BB.done(h:BB F R num [])(i:E7 F R){a b:Str}(c:a∈R)(d:b∈R):num a=num b↔d_ F F (a,b):=by
 refine⟨λe=>?_,h.co a c b d⟩;have g:∀n a b,a∈R->b∈R->num a=num b->qm F F n (a,b):=by
  intro n
  induction n with
  |zero=>exact λa b c d e=>h.me a c b d e
  |succ n ih=>
   intro a b c d e;have j:=h.me a c b d e;refine⟨j,λs f=>?_⟩;have f:s∈stH (au F a):=f;have k:s∈stH (au F b):=by rw[<- show stH (au F a)=stH (au F b)from j.2];exact f
   rw[vw];refine ih _ _ (i a c s f) (i b d s k) ?_;rcases h.st a c b d e s f with z|z|z
   ·exact z
   ·cases z
   ·cases z
 exact eZ.mpr λn=>g n a b c d e
theorem BB.take{at_:Nat}(h:BB F R num wt)(i:∀k∈wt,k∈e_\/k=at_)(c:∀x∈R,(x∈W↔num x=at_))(j:E7 F R):xg F R num e_ W []:=by
 refine⟨h.co,h.me,λa d b f e s g=>?_,λa d b f e=>by rw[c a d,c b f,e],λs g=>nomatch g⟩;have n:s∈stH (au F b):=by rw[<- show stH (au F a)=stH (au F b)from(h.me a d b f e).2];exact g
 have l:=j a d s g;have m:=j b f s n;by_cases hx:num (dl F a s)=num (dl F b s)
 ·exact .inl hx
 rcases h.st a d b f e s g with z|z|z
 ·exact .inl z
 ·rcases i _ z with z|z
  ·exact .inr (.inl z)
  ·refine .inr (.inr (.inr ⟨by simp,λq=>hx ?_⟩));rw[c _ l,c _ m]at q;rw[z,q.mp z]
 ·rcases i _ z with z|z
  ·exact .inr (.inr (.inl z))
  ·refine .inr (.inr (.inr ⟨by simp,λq=>hx ?_⟩));rw[c _ l,c _ m]at q;rw[z,q.mpr z]
open Classical in
noncomputable def vq(num:Str->Nat)(l:aU)(a:Nat)(x:Str):Nat:=if x∈l then a else num x
theorem xg.split(h:xg F R num wt W dn){l:aU}{k c:Nat}(o:∀x∈l,x∈R/\num x=k)(cl:∀a∈l,∀b∈R,d_ F F (a,b)->b∈l)(t:∀x∈R,num x≠c)(u:E7 F R)(D:∀j∈wt,j∈e_)(E:k∈wt->c∈e_)(y:c∈e_\/k∈e_):xg F R (vq num l c) e_ W dn:=by
 have n:∀{x},x∈l->vq num l c x=c:=fun{x}q=>if_pos q;have d:∀{x},x∉l->vq num l c x=num x:=fun{x}q=>if_neg q;have m:∀a∈R,∀b∈R,vq num l c a=vq num l c b->num a=num b/\(a∈l↔b∈l):=λa f b g e=>by
  by_cases Y:a∈l
  ·rw[n Y]at e;by_cases i:b∈l
   ·exact⟨(o a Y).2.trans (o b i).2.symm,⟨λ_=>i,λ_=>Y⟩⟩
   ·rw[d i]at e;exact absurd e.symm (t b g)
  ·rw[d Y]at e;by_cases i:b∈l
   ·rw[n i]at e;exact absurd e (t a f)
   ·rw[d i]at e;exact⟨e,⟨λz=>absurd z Y,λz=>absurd z i⟩⟩
 -- a number RJ ag7 ag8 on ag9
 have A:∀x∈R,num x∈wt->vq num l c x∈e_:=λx q C=>by
  by_cases Y:x∈l
  ·rw[n Y];exact E (by rw[<- (o x Y).2];exact C)
  ·rw[d Y];exact D _ C
 refine⟨λa f b g r=>?_,λa f b g e=>h.me a f b g (m a f b g e).1,λa f b g e s p=>?_,λa f b g e=>h.un a f b g (m a f b g e).1,λs p a f b g e=>h.sd s p a f b g (m a f b g e).1⟩
 ·by_cases Y:a∈l
  ·rw[n Y,n (cl a Y b g r)]
  ·have i:b∉l:=λz=>Y (cl b z a f r.symm);rw[d Y,d i];exact h.co a f b g r
 ·obtain⟨e0,_⟩:=m a f b g e;have G:s∈stH (au F b):=by rw[<- show stH (au F a)=stH (au F b)from(h.me a f b g e0).2];exact p
  have H:=u a f s p;have I:=u b g s G;rcases h.st a f b g e0 s p with z|z|z|z
  ·by_cases Y:dl F a s∈l
   ·by_cases i:dl F b s∈l
    ·exact .inl (by rw[n Y,n i])
    ·rw[n Y,d i];have:num (dl F b s)=k:=by rw[<- z];exact(o _ Y).2
     rcases y with w|w
     ·exact .inr (.inl w)
     ·exact .inr (.inr (.inl (by rw[this];exact w)))
   ·by_cases i:dl F b s∈l
    ·rw[d Y,n i];have:num (dl F a s)=k:=by rw[z];exact(o _ i).2
     rcases y with w|w
     ·exact .inr (.inr (.inl w))
     ·exact .inr (.inl (by rw[this];exact w))
    ·exact .inl (by rw[d Y,d i];exact z)
  ·exact .inr (.inl (A _ H z))
  ·exact .inr (.inr (.inl (A _ I z)))
  ·exact .inr (.inr (.inr z))
theorem xg.next(h:xg F R num wt W dn){s:aU}(hs:∀a∈R,∀b∈R,num a=num b->s∈stH (au F a)->(dl F a s∈W↔dl F b s∈W)):xg F R num wt W (dn++[s]):=by
 refine⟨h.co,h.me,λa c b d e t f=>?_,h.un,λt f a c b d e g=>?_⟩
 ·by_cases Ah:t=s
  ·subst Ah;rcases h.st a c b d e t f with z|z|z|z
   ·exact .inl z
   ·exact .inr (.inl z)
   ·exact .inr (.inr (.inl z))
   ·exact absurd (hs a c b d e f) z.2
  ·rcases h.st a c b d e t f with z|z|z|z
   ·exact .inl z
   ·exact .inr (.inl z)
   ·exact .inr (.inr (.inl z))
   ·refine .inr (.inr (.inr ⟨λq=>?_,z.2⟩));rcases zH.mp q with q|q
    ·exact z.1 q
    ·exact Ah (zO.mp q)
 ·rcases zH.mp f with q|q
  ·exact h.sd t q a c b d e g
  ·rw[zO.mp q]at g⊢;exact hs a c b d e g
theorem xg.fin(h:xg F R num wt W dn)(all:∀a∈R,∀s∈stH (au F a),dl F a s∈W->s∈dn):BB F R num wt:=by
 refine⟨h.co,h.me,λa c b d e s f=>?_⟩;have i:s∈stH (au F b):=by rw[<- show stH (au F a)=stH (au F b)from(h.me a c b d e).2];exact f
 rcases h.st a c b d e s f with z|z|z|⟨g,j⟩
 ·exact .inl z
 ·exact .inr (.inl z)
 ·exact .inr (.inr z)
 ·exact absurd ⟨λq=>absurd (all a c s f q) g,λq=>absurd (all b d s i q) g⟩ j
end
theorem Inv.ab1{kvs:ca}(I:Inv X B Z H s)(h:H a=some 'h')(h0:∀o u,X.H₀ a≠some (.af o u)):Inv X B Z (upd H a (.dK kvs)) s:=by
 have d:∀b,H b=none->b≠a:=λb n z=>by rw[z,h]at n;cases n
 have nn:∀b u,H b=some u->(∀v,u≠.af o v)->b≠a:=λb u q n z=>by rw[z,h]at q;cases q;exact n _ rfl
 refine⟨I.ok,I.os,I.bare,⟨I.base.keep,I.base.slot,λb f q n i=>?_,I.base.there,λb g q=>?_,λb f u q=>?_,λb j q=>?_⟩,I.loc,I.cell,?_,λx c e=>?_,λp k=>?_,?_,I.len⟩
 ·have:=I.base.free b f q n i;rw[aB (d b this)];exact this
 ·have:=I.base.tups b g q;rw[aB (nn b _ this λv z=>nomatch z)];exact this
 ·have:=I.base.xu b f u q;by_cases hb:b=a
  ·subst hb;exact absurd q (h0 _ _)
  ·rw[aB hb];exact this
 ·obtain⟨more,this⟩:=I.base.yq b j q;exact⟨more,by rw[aB (nn b _ this λv z=>nomatch z)];exact this⟩
 ·rw[aB (d _ I.free)];exact I.free
 ·have:=I.zk x c e;rw[aB (d _ this)];exact this
 ·obtain⟨p1,p2,p3⟩:=I.pin p k;exact⟨p1,by rw[aB (d _ p2)];exact p2,p3⟩
 ·intro b u q;by_cases hb:b=a
  ·subst hb;rw[aA]at q;cases q;exact(I.hok b _ h).2
  ·rw[aB hb]at q;exact(I.hok b u q).stay (λc v _ r=>r) (λc r=>by rw[aB (nn c _ r λv z=>nomatch z)];exact r) λc g r=>r.upd λ_ _ z=>by
    subst z;rcases r with r|⟨_,r⟩<;>(rw[h]at r;cases r)
def IH(b:Hp)(c:TE):TE:=λZ H Q=>∃a o kvs,H a=some 'h'/\(∀o u,b a≠some (.af o u))/\c Z (upd H a (.dK kvs)) Q
theorem Ix(c:Hp)(d:SE X e te)(f:X.H₀=c:=by rfl):SE X e (IH c te):=by
 subst f;constructor;intro b s g H Q I ⟨a,o,i,j,k,q⟩;exact d.h b s g _ _ (I.ab1 j k) q
structure IY(C:Addr)(H:Hp)(p lm dn lw dw:Addr):Prop where
 ex:∃(dx:Addr)(fs:cw),H p=some (.ins C dx fs)/\fs.lookup ("members":Str)=some (.ref lm)/\fs.lookup ("number":Str)=some (.ref dn)/\fs.lookup ("waiting":Str)=some (.ref lw)/\fs.lookup ("waits":Str)=some (.ref dw)/\∀m∈(["begin","put_off","take_waiting","part"]:aU),fs.lookup m=none
def fb(k:Nat):V:=.int (k:Int)
structure kq(C:Addr)(H0 H:Hp)(p lm dn lw dw:Addr)(ms:cx)(mem:List aU)(kn:ca)(wt:cm)(kw:ca):Prop where
 f:IY C H p lm dn lw dw
 m:H lm=some (.lst (ms.map V.ref))
 ml:ms.length=mem.length
 d:∀i(h:i<ms.length)(M:i<mem.length),∃kvs,H ms[i]=some (.dK kvs)/\kvs.map (·.1)=mem[i].map Sum.inr
 n:H dn=some (.dK kn)
 w:H lw=some (.lst (wt.map fb))
 ws:H dw=some (.dK kw)
 BC:∀k:Nat,(a_ kw (.inl (k:Int))).isSome=true↔k∈wt
 wn:wt.Nodup
 kl:kw.length<=wt.length
 nd:([p,lm,dn,lw,dw]++ms).Nodup
 fr:∀a∈[p,lm,dn,lw,dw]++ms,H0 a=none
 sm:ae H0 H
section
variable{lm dn lw dw:Addr}{ms:cx}{kn:ca}{wt:cm}{kw:ca}
theorem kq.keep(h:kq C H0 H p lm dn lw dw ms mem kn wt kw)(k:∀b∈[p,lm,dn,lw,dw]++ms,∀o,H b=some o->U b=some o)(s:ae H0 U):kq C H0 U p lm dn lw dw ms mem kn wt kw:=by
 obtain⟨dx,fs,f1,f2⟩:=h.f.ex;exact⟨⟨dx,fs,k p (by simp) _ f1,f2⟩,k lm (by simp) _ h.m,h.ml,λi a b=>let ⟨kvs,e1,e2⟩:=h.d i a b;⟨kvs,k _ (by simp) _ e1,e2⟩,k dn (by simp) _ h.n,k lw (by simp) _ h.w,k dw (by simp) _ h.ws,h.BC,h.wn,h.kl,h.nd,h.fr,s⟩
theorem kq.same(h:kq C H0 H p lm dn lw dw ms mem kn wt kw)(s:ae H U):kq C H0 U p lm dn lw dw ms mem kn wt kw:=h.keep (λb _ o e=>s b o e) (h.sm.trans s)
end
def qo(F:aU)(l:aU):aU:=l.filter λx=>decide (x∉F)
theorem zS{kvs:ca}{l:aU}(h:kvs.map (·.1)=l.map Sum.inr):(vh kvs (.inr x)).map (·.1)=(l.filter λy=>decide (y≠x)).map Sum.inr:=by
 unfold vh
 induction kvs generalizing l with
 |nil=>cases l with
  |nil=>rfl
  |cons _ _=>simp at h
 |cons q kvs ih=>cases l with
  |nil=>simp at h
  |cons y l=>
   simp only[yV,k6]at h;by_cases hy:y=x
   ·rw[List.filter_cons_of_neg (by simp[h.1,hy]),List.filter_cons_of_neg (by simp[hy])];exact ih h.2
   ·rw[List.filter_cons_of_pos (by simp[h.1,hy]),List.filter_cons_of_pos (by simp[hy]),yV,yV,ih h.2,h.1]
theorem uX(F l:aU)(x:Str):(qo F l).filter (λy=>decide (y≠x))=qo (F++[x]) l:=by
 unfold qo;rw[List.filter_filter];congr 1;funext y;by_cases Y:y=x<;>by_cases h2:y∈F<;>simp[Y,h2]
structure DG(R:aU)(num:Str->Nat)(mem:List aU):Prop where
 nd:∀(i:Nat)(l:aU),mem[i]? =some l->l.Nodup/\l≠[]
 mm:∀(i:Nat)(l:aU),mem[i]? =some l->∀x,x∈l↔(x∈R/\num x=i)
 lt:∀x∈R,num x<mem.length
section
variable{R:aU}
theorem DG.few(h:DG R num mem):mem.length<=R.length:=by
 have d:∀i,i<mem.length->∃x,x∈R/\num x=i:=λi b=>by
  have e:=Qa b;obtain⟨_,ne⟩:=h.nd i _ e;obtain⟨x,a⟩:=List.exists_mem_of_ne_nil _ ne;exact⟨x,(h.mm i _ e x).mp a⟩
 have g:∀i:Fin mem.length,∃x,x∈R/\num x=i.val:=λi=>d i.val i.isLt;obtain⟨f,hf⟩:=lp g;have:=cC (l:=(List.finRange mem.length).map f) (m:=R) ?_ ?_
 ·simpa using this
 ·refine uT.mpr ((uW.mpr λi j b n o=>?_));intro e;have c:=(hf ((List.finRange mem.length)[i])).2;have k:=(hf ((List.finRange mem.length)[j])).2;rw[e,k]at c;simp at c
  lia
 ·intro x a;obtain⟨i,_,rfl⟩:=Z2.mp a;exact(hf i).1
theorem pA{F l:aU}:x∈qo F l↔x∈l/\x∉F:=by unfold qo;rw[Qab];simp
theorem DG.split(h:DG R num mem){a l:aU}{k:Nat}(g:mem[k]? =some l)(s:∀x∈a,x∈l)(t:a.Nodup)(r:a≠[])(w:a.length≠l.length):DG R (vq num a mem.length) (mem.set k (qo a l)++[a]):=by
 obtain⟨GP,ekl⟩:=yE.mp g;have p:∀{x},x∈a->vq num a mem.length x=mem.length:=fun{x}b=>if_pos b;have c:∀{x},x∉a->vq num a mem.length x=num x:=fun{x}b=>if_neg b;have u:∀x∈a,x∈R/\num x=k:=λx b=>(h.mm k l g x).mp (s x b);have j:∀i m,(mem.set k (qo a l)++[a])[i]? =some m->(i=mem.length/\m=a)\/(i=k/\m=qo a l)\/(i≠k/\i<mem.length/\mem[i]? =some m):=λi m e=>by
  by_cases n:i<mem.length
  ·rw[Qg (by simpa using n)]at e;by_cases o:i=k
   ·subst o;rw[List.getElem?_set_self (by simpa using n)]at e;exact .inr (.inl ⟨rfl,(QE e).symm⟩)
   ·rw[List.getElem?_set_ne (Ne.symm o)]at e;exact .inr (.inr ⟨o,n,e⟩)
  ·rw[nT (by simpa using n),lv]at e;have:i-mem.length=0:=by
    by_cases z:i-mem.length=0
    ·exact z
    ·rw[pc (by simp;lia)]at e;cases e
   rw[this]at e;exact .inl ⟨by lia,by simpa using e.symm⟩
 refine⟨λi m e=>?_,λi m e x=>?_,λx b=>?_⟩
 ·rcases j i m e with⟨_,rfl⟩|⟨_,rfl⟩|⟨_,_,e⟩
  ·exact⟨t,r⟩
  ·refine⟨(h.nd k l g).1.sublist List.filter_sublist,λz=>w ?_⟩;have f:=cC t s;have d:=cC (h.nd k l g).1 (m:=a) λx b=>px λq=>by
    have:x∈qo a l:=pA.mpr ⟨b,q⟩;rw[z]at this;cases this
   lia
  ·exact h.nd i m e
 ·rcases j i m e with⟨rfl,rfl⟩|⟨rfl,rfl⟩|⟨o,n,e⟩
  ·constructor
   ·exact λb=>⟨(u x b).1,p b⟩
   ·rintro⟨b,hn⟩;refine px λq=>?_;rw[c q]at hn;have:=h.lt x b
    lia
  ·rw[pA,h.mm i l g x];constructor
   ·rintro⟨⟨f,d⟩,h3⟩;exact⟨f,by rw[c h3];exact d⟩
   ·rintro⟨f,d⟩;by_cases q:x∈a
    ·rw[p q]at d;lia
    ·rw[c q]at d;exact⟨⟨f,d⟩,q⟩
  ·rw[h.mm i m e x];constructor
   ·rintro⟨f,d⟩;have:x∉a:=λq=>o (by rw[<- d];exact(u x q).2);exact⟨f,by rw[c this];exact d⟩
   ·rintro⟨f,d⟩;by_cases q:x∈a
    ·rw[p q]at d;lia
    ·rw[c q]at d;exact⟨f,d⟩
 ·rw[Qk,lv,kb];by_cases q:x∈a
  ·rw[p q];lia
  ·rw[c q];have:=h.lt x b;lia
end
section
variable[DecidableEq κ]
def xh(L:List (κ×aU))(k:κ)(x:Str):List (κ×aU):=if k∈L.map (·.1)then L.map λq=>if q.1=k then(q.1,q.2++[x])else q else L++[(k,[x])]
def mq(a:List (κ×Str)):List (κ×aU):=a.foldl (λL q=>xh L q.1 q.2) []
theorem mV(a:List (κ×Str))(q:κ×Str):mq (a++[q])=xh (mq a) q.1 q.2:=by unfold mq;rw[ma];rfl
theorem pR(L:List (κ×aU))(k:κ)(x:Str):(xh L k x).map (·.1)=if k∈L.map (·.1)then L.map (·.1)else L.map (·.1)++[k]:=by
 unfold xh;split
 ·rw[Qn];refine List.map_congr_left λq _=>?_;show(if q.1=k then(q.1,q.2++[x])else q).1=q.1;split<;>rfl
 ·rw[Qm];rfl
structure ur(ps:List (κ×Str))(L:List (κ×aU)):Prop where
 nd:(L.map (·.1)).Nodup
 ev:∀q∈L,q.2=(ps.filter λp=>decide (p.1=q.1)).map (·.2)
 ks:∀k,k∈L.map (·.1)↔k∈ps.map (·.1)
theorem ur.snoc{g:List (κ×Str)}{L:List (κ×aU)}(h:ur g L)(k:κ)(x:Str):ur (g++[(k,x)]) (xh L k x):=by
 have j:∀c,c∈(xh L k x).map (·.1)↔c∈L.map (·.1)\/c=k:=λc=>by
  rw[pR];split
  ·exact⟨.inl,λz=>z.elim id λz=>by rw[z];assumption⟩
  ·rw[zH,zO]
 refine⟨?_,λq d=>?_,λc=>?_⟩
 ·rw[pR];split
  ·exact h.nd
  ·rename_i f
   exact QaA.mpr ⟨h.nd,by simp,λa l b i e=>f (by rw[zO]at i;rw[<- i,<- e];exact l)⟩
 ·rw[List.filter_append,Qm];unfold xh at d;split at d
  ·obtain⟨q0,Y,rfl⟩:=Z2.mp d;have:=h.ev q0 Y;by_cases e:q0.1=k
   ·rw[if_pos e];dsimp only;rw[<- this];simp[e]
   ·rw[if_neg e,<- this];simp[Ne.symm e]
  ·rename_i f
   rcases zH.mp d with Y|Y
   ·have:q.1≠k:=λz=>f (by rw[<- z];exact List.mem_map_of_mem Y);rw[<- h.ev q Y];simp[Ne.symm this]
   ·rw[zO.mp Y];have:g.filter (λp=>decide (p.1=k))=[]:=List.filter_eq_nil_iff.mpr λp m=>by
     intro z;exact f ((h.ks k).mpr (Z2.mpr ⟨p,m,Qt z⟩))
    dsimp only;rw[this];simp
 ·rw[j,h.ks,Qm,zH];simp
theorem BD(a:List (κ×Str)):ur a (mq a):=by
 have:∀(b a:List (κ×Str))(L:List (κ×aU)),ur a L->ur (a++b) (b.foldl (λL q=>xh L q.1 q.2) L):=by
  intro b
  induction b with
  |nil=>intro a L h;simpa using h
  |cons q b ih=>intro a L h;have:=ih _ _ (h.snoc q.1 q.2);rwa [QQ]at this
 exact this a [] [] ⟨ij,(λ_ h=>nomatch h),λ_=>by simp⟩
theorem ur.ne{a:List (κ×Str)}{L:List (κ×aU)}(h:ur a L){q:κ×aU}(b:q∈L):q.2≠[]:=by
 rw[h.ev q b];obtain⟨p,hp,e⟩:=Z2.mp ((h.ks q.1).mp (List.mem_map_of_mem b));intro z;have:p.2∈(a.filter λp=>decide (p.1=q.1)).map (·.2):=List.mem_map_of_mem (Qab.mpr ⟨hp,by simpa using e⟩);rw[z]at this;cases this
theorem ur.len{a:List (κ×Str)}{L:List (κ×aU)}(h:ur a L):L.length<=a.length:=by
 have:=cC h.nd λk b=>(h.ks k).mp b;simpa using this
theorem ur.lens{a:List (κ×Str)}{L:List (κ×aU)}(h:ur a L){q:κ×aU}(b:q∈L):q.2.length<=a.length:=by
 rw[h.ev q b,Ql];exact mf _ _
structure jq{κ':Type}(f:κ->κ')(H0 H:Hp)(kvs:List (κ'×V))(L:List (κ×aU)):Prop where
 len:kvs.length=L.length
 at_:∀i(h:i<kvs.length)(M:i<L.length),kvs[i].1=f L[i].1/\∃l,kvs[i].2=.ref l/\H0 l=none/\H l=some (.lst (L[i].2.map V.str))
 inj:∀i j(hi:i<kvs.length)(hj:j<kvs.length),kvs[i].2=kvs[j].2->i=j
variable{κ':Type}[DecidableEq κ']{f:κ->κ'}{kvs:List (κ'×V)}{L:List (κ×aU)}
theorem jq.nil:jq f H0 H ([]:List (κ'×V)) ([]:List (κ×aU)):=⟨rfl,λi h=>absurd h (by simp),λi j h=>absurd h (by simp)⟩
theorem jq.keys(h:jq f H0 H kvs L):kvs.map (·.1)=L.map λq=>f q.1:=by
 have c:=h.len;refine ga (by simp[c]) λi a b=>?_;rw[Ql]at a b;rw[Qr,Qr];exact(h.at_ i a b).1
theorem jq.keep(h:jq f H0 H kvs L)(s:∀l xs,H0 l=none->H l=some (.lst xs)->U l=some (.lst xs)):jq f H0 U kvs L:=⟨h.len,λi a b=>by
 obtain⟨Y,l,h2,h3,h4⟩:=h.at_ i a b
 exact⟨Y,l,h2,h3,s _ _ h3 h4⟩,h.inj⟩
theorem jq.old(h:jq f H0 H kvs L)(g:∀a b,f a=f b->a=b)(m:(L.map (·.1)).Nodup){k:κ}{v:V}(hv:a_ kvs (f k)=some v)(x:Str):∃l xs,v=.ref l/\H0 l=none/\H l=some (.lst xs)/\(∃q∈L,xs=q.2.map V.str)/\jq f H0 (upd H l (.lst (xs++[.str x]))) kvs (xh L k x):=by
 have o:=h.len;have r:(kvs.map (·.1)).Nodup:=by
  rw[h.keys];have:(L.map λq=>f q.1)=(L.map (·.1)).map f:=by rw[Qn];rfl
  rw[this];exact uT.mpr (m.imp λn e=>n (g _ _ e))
 obtain⟨p,hp,e⟩:=Z2.mp (gH hv);obtain⟨i,hi,ei⟩:=Qi hp;have c:i<L.length:=by lia
 obtain⟨g1,l,g2,g3,g4⟩:=h.at_ i hi c
 have d:L[i].1=k:=g _ _ (by rw[<- g1,ei,e]);have s:v=.ref l:=by
  have:=gP r (k:=f k) (v:=p.2) (by rw[<- e];exact hp);rw[hv]at this;rw[<- g2,ei];exact QE this
 refine⟨l,_,s,g3,g4,⟨_,Qj c,rfl⟩,?_⟩;have t:k∈L.map (·.1):=by rw[<- d];exact List.mem_map_of_mem (Qj c)
 have u:xh L k x=L.map λq=>if q.1=k then(q.1,q.2++[x])else q:=by unfold xh;rw[if_pos t]
 rw[u];refine⟨by simp[o],λj a b=>?_,h.inj⟩;rw[Ql]at b;rw[Qr];obtain⟨q1,l',q2,q3,q4⟩:=h.at_ j a b
 by_cases hj:j=i
 ·subst hj;rw[if_pos d];rw[g2]at q2;cases q2;exact⟨g1,l,g2,g3,by rw[aA];simp⟩
 ·have:L[j].1≠k:=λz=>hj (by
   have w:(L.map (·.1))[j]'(by simpa using b)=(L.map (·.1))[i]'(by simpa using c):=by rw[Qr,Qr,z,d]
   exact(jk m).mp w)
  rw[if_neg this];refine⟨q1,l',q2,q3,?_⟩;rw[aB λz=>hj (h.inj j i a hi (by rw[q2,g2,z]))];exact q4
theorem jq.new(h:jq f H0 H kvs L){k:κ}(hv:a_ kvs (f k)=none)(x:Str){z:Addr}(c:H0 z=none)(d:H z=none)(hz:U z=some (.lst [.str x]))(s:∀l xs,H0 l=none->H l=some (.lst xs)->U l=some (.lst xs)):jq f H0 U (kvs++[(f k,.ref z)]) (xh L k x):=by
 have n:=h.len;have g:k∉L.map (·.1):=λg=>by
  have:f k∈kvs.map (·.1):=by
   rw[h.keys];obtain⟨q,m,o⟩:=Z2.mp g;exact Z2.mpr ⟨q,m,by rw[o]⟩
  have:=iE.mpr this;rw[hv]at this;cases this
 have r:xh L k x=L++[(k,[x])]:=by unfold xh;rw[if_neg g]
 rw[r];have p:∀i(b:i<kvs.length),kvs[i].2≠.ref z:=λi b e=>by
  obtain⟨_,l,g2,_,g4⟩:=h.at_ i b (by lia)
  rw[e]at g2;cases g2;rw[d]at g4;cases g4
 refine⟨by simp[n],λi m o=>?_,λi j b t a=>?_⟩
 ·by_cases av:i<kvs.length
  ·rw[Qe av,Qe (by lia)];exact(h.keep s).at_ i av (by lia)
  ·have u:i=kvs.length:=by simp at m;lia
   subst u;rw[Qf (Qz _),Qf (by lia)];simp only[du,n,uJ];exact⟨trivial,z,rfl,c,hz⟩
 ·simp only[Qk,dV,nS]at b t;by_cases av:i<kvs.length<;>by_cases wz:j<kvs.length
  ·rw[Qe av,Qe wz]at a;exact h.inj i j av wz a
  ·have w:j=kvs.length:=by lia
   subst w;rw[Qe av,Qf (Qz _)]at a;simp only[du,uJ]at a;exact absurd a (p i av)
  ·have y:i=kvs.length:=by lia
   subst y;rw[Qe wz,Qf (Qz _)]at a;simp only[du,uJ]at a;exact absurd a.symm (p j wz)
  ·lia
end
structure vt(R rs:aU)(num dj:Str->Nat)(ks:cm):Prop where
 un:∀x∈R,num x∉ks->dj x=num x
 eq:∀a∈R,∀b∈R,dj a=dj b->num a=num b/\(num a∈ks->(a∈rs↔b∈rs))
section
variable{R rs many:aU}{dj:Str->Nat}{ks:cm}{k new:Nat}
theorem vt.nil:vt R rs num num []:=⟨λ_ _ _=>rfl,λ_ _ _ _ e=>⟨e,λh=>nomatch h⟩⟩
theorem vt.at_(h:vt R rs num dj ks)(b:k∉ks){y:Str}(c:y∈R)(a:num y=k)(d:x∈R):dj x=k↔num x=k:=by
 have f:dj y=k:=by rw[h.un y c (by rw[a];exact b),a]
 constructor
 ·intro e;rw[<- a];exact(h.eq x d y c (by rw[e,f])).1
 ·intro e;rw[h.un x d (by rw[e];exact b),e]
theorem vt.keep(h:vt R rs num dj ks)(g:k∉ks)(all:∀x∈R,num x=k->x∈rs):vt R rs num dj (ks++[k]):=by
 refine⟨λx f n=>h.un x f λz=>n (zH.mpr (.inl z)),λa c b d e=>?_⟩;obtain⟨Y,h2⟩:=h.eq a c b d e;refine⟨Y,λz=>?_⟩;rcases zH.mp z with z|z
 ·exact h2 z
 ·rw[zO]at z;exact⟨λ_=>all b d (by rw[<- Y,z]),λ_=>all a c z⟩
theorem vt.split(h:vt R rs num dj ks)(o:k∉ks)(d:∀x,x∈many↔x∈rs/\num x=k)(g:∀x∈R,dj x≠new):vt R rs num (vq dj many new) (ks++[k]):=by
 have i:∀{x},x∈many->vq dj many new x=new:=fun{x}f=>if_pos f;have c:∀{x},x∉many->vq dj many new x=dj x:=fun{x}f=>if_neg f;refine⟨λx f n=>?_,λa j b l e=>?_⟩
 ·have m:num x≠k:=λz=>n (by rw[z];simp);rw[c λz=>m ((d x).mp z).2];exact h.un x f λz=>n (zH.mpr (.inl z))
 ·by_cases Y:a∈many
  ·rw[i Y]at e;by_cases h2:b∈many
   ·exact⟨((d a).mp Y).2.trans ((d b).mp h2).2.symm,λ_=>⟨λ_=>((d b).mp h2).1,λ_=>((d a).mp Y).1⟩⟩
   ·rw[c h2]at e;exact absurd e.symm (g b l)
  ·rw[c Y]at e;by_cases h2:b∈many
   ·rw[i h2]at e;exact absurd e (g a j)
   ·rw[c h2]at e;obtain⟨g1,g2⟩:=h.eq a j b l e;refine⟨g1,λz=>?_⟩;rcases zH.mp z with z|z
    ·exact g2 z
    ·rw[zO]at z;exact⟨λq=>absurd ((d a).mpr ⟨q,z⟩) Y,λq=>absurd ((d b).mpr ⟨q,by rw[<- g1,z]⟩) h2⟩
theorem vt.fin(h:vt R rs num dj ks)(all:∀x∈rs,num x∈ks){a b:Str}(c:a∈R)(d:b∈R)(e:dj a=dj b):a∈rs↔b∈rs:=by
 obtain⟨Y,h2⟩:=h.eq a c b d e;constructor
 ·exact λz=>(h2 (all a z)).mp z
 ·exact λz=>(h2 (by rw[Y];exact all b z)).mpr z
end
structure qp(lm dn lw dw:Addr)(AZ ms:cx)(H U:Hp):Prop where
 kp:∀b o,b∉[lm,dn,lw,dw]++AZ->H b=some o->U b=some o
 nw:∀b∈ms,b∈AZ\/H b=none
 th:∀b,U b=none->H b=none
section
variable{lm dn lw dw:Addr}{AZ ms R0 ee:cx}{H1 H2:Hp}
theorem qp.same(s:ae H U):qp lm dn lw dw ms ms H U:=⟨λb o _ e=>s b o e,λb h=>.inl h,λb e=>s.free e⟩
theorem qp.trans(h:qp lm dn lw dw AZ R0 H H1)(M:qp lm dn lw dw R0 ee H1 H2):qp lm dn lw dw AZ ee H H2:=by
 refine⟨λb o n e=>M.kp b o (λz=>?_) (h.kp b o n e),λb a=>?_,λb e=>h.th b (M.th b e)⟩
 ·rcases zH.mp z with z|z
  ·exact n (zH.mpr (.inl z))
  ·rcases h.nw b z with q|q
   ·exact n (zH.mpr (.inr q))
   ·rw[q]at e;cases e
 ·rcases M.nw b a with q|q
  ·exact h.nw b q
  ·exact .inr (h.th b q)
structure vy(C:Addr)(H0 H:Hp)(p lm dn lw dw:Addr)(R:aU)(num:Str->Nat)(wt:cm)(ms:cx)(mem:List aU)(kn kw:ca):Prop where
 s:kq C H0 H p lm dn lw dw ms mem kn wt kw
 n:DG R num mem
 v:∀x∈R,a_ kn (.inr x)=some (fb (num x))
 kl:kn.length<=900
 wl:∀i∈wt,i<mem.length
variable{R:aU}{wt:cm}{kn kw:ca}
theorem vy.same(h:vy C H0 H p lm dn lw dw R num wt ms mem kn kw)(s:ae H U):vy C H0 U p lm dn lw dw R num wt ms mem kn kw:=⟨h.s.same s,h.n,h.v,h.kl,h.wl⟩
theorem vy.wb(h:vy C H0 H p lm dn lw dw R num wt ms mem kn kw):wt.length<=mem.length:=by
 have:=cC h.s.wn (m:=List.range mem.length) λi a=>Qag.mpr (h.wl i a);simpa using this
theorem kq.off(h:kq C H0 H p lm dn lw dw ms mem kn wt kw){o:HO}(a:H b=some o)(c:∀kvs,o≠.dK kvs)(e:b≠lm)(f:b≠lw):b∉[lm,dn,lw,dw]++ms:=by
 intro z;rcases zH.mp z with z|z
 ·simp only[Qp,QB,or_false]at z;rcases z with z|z|z|z
  ·exact e z
  ·rw[z,h.n]at a;exact c _ (QE a).symm
  ·exact f z
  ·rw[z,h.ws]at a;exact c _ (QE a).symm
 ·obtain⟨i,hi,rfl⟩:=Qi z;obtain⟨kvs,g1,_⟩:=h.d i hi (by rw[<- h.ml];exact hi);rw[g1]at a;exact c _ (QE a).symm
theorem qp.of(a:kq C H0 U p lm dn lw dw ms mem kn wt kw){d:Addr}(g:ms=AZ++[d])(h:H d=none)(c:∀b o,b∉[lm,dn,lw,dw]++AZ->H b=some o->U b=some o):qp lm dn lw dw AZ ms H U:=by
 subst g;refine⟨c,λb j=>?_,λb e=>?_⟩
 ·rcases zH.mp j with z|z
  ·exact .inl z
  ·rw[zO.mp z];exact .inr h
 ·cases eb:H b with
  |none=>rfl
  |some o=>
   exfalso;by_cases n:b∈[lm,dn,lw,dw]++AZ
   ·rcases zH.mp n with z|z
    ·simp only[Qp,QB,or_false]at z;rcases z with z|z|z|z
     ·rw[z,a.m]at e;cases e
     ·rw[z,a.n]at e;cases e
     ·rw[z,a.w]at e;cases e
     ·rw[z,a.ws]at e;cases e
    ·obtain⟨i,hi,rfl⟩:=Qi z;have f:i<(AZ++[d]).length:=by simp;lia
     obtain⟨kvs,g1,_⟩:=a.d i f (by rw[<- a.ml];exact f);rw[Qe hi]at g1;rw[e]at g1;cases g1
   ·rw[c b o n eb]at e;cases e
end
section
variable{lm dn lw dw d:Addr}{ms:cx}{F:List aj}{R W rs many l:aU}{R1:Str->Nat}{wt e_ ks:cm}{kn fc kw k_:ca}{k:Nat}{dn':List aU}{s:aU}
theorem vy.split(z:vy C H0 H p lm dn lw dw R num wt ms mem kn kw)(a:mem[j]? =some l)(b:∀x∈many,x∈l)(c:many.Nodup)(e:many≠[])(f:many.length≠l.length)(g:kq C H0 U p lm dn lw dw (ms++[d]) (mem.set j (qo many l)++[many]) fc e_ k_)
  (hv:∀x,a_ fc (.inr x)=if x∈many then some (fb mem.length)else a_ kn (.inr x)) (k:fc.length=kn.length) (m:∀i∈e_,i∈wt\/i=mem.length\/i=j):vy C H0 U p lm dn lw dw R (vq num many mem.length) e_ (ms++[d]) (mem.set j (qo many l)++[many]) fc k_:=by
 refine⟨g,z.n.split a b c e f,λx o=>?_,by rw[k];exact z.kl,λi r=>?_⟩
 ·rw[hv x];by_cases h:x∈many
  ·rw[if_pos h,show vq num many mem.length x=mem.length from if_pos h]
  ·rw[if_neg h,show vq num many mem.length x=num x from if_neg h];exact z.v x o
 ·rw[Qk,lv,kb];obtain⟨IZ,_⟩:=yE.mp a;rcases m i r with q|q|q
  ·have:=z.wl i q;lia
  ·lia
  ·lia
theorem xg.cl(h:xg F R num wt W dn')(n:vt R rs R1 num ks)(d:∀x,x∈many↔x∈rs/\R1 x=k)(f:∀x,x∈rs↔x∈R/\s∈stH (au F x)/\dl F x s∈W)(g:E7 F R):∀a∈many,∀b∈R,d_ F F (a,b)->b∈many:=by
 intro a o b c i;obtain⟨Y,h2⟩:=(d a).mp o;obtain⟨aR,Mf,aW⟩:=(f a).mp Y;have e:=h.co a aR b c i;have j:s∈stH (au F b):=by rw[<- show stH (au F a)=stH (au F b)from(h.me a aR b c e).2];exact Mf
 refine(d b).mpr ⟨(f b).mpr ⟨c,j,?_⟩,by rw[<- (n.eq a aR b c e).1];exact h2⟩;have p:d_ F F (dl F a s,dl F b s):=i.kid (s:=s) Mf;have l:=g a aR s Mf;have m:=g b c s j;exact(h.un _ l _ m (h.co _ l _ m p)).mp aW
structure DH(F:List aj)(R:aU):Prop where
 nd:R.Nodup
 few:R.length<=14
 on:∀a∈R,∀s e,(s,e)∈az F a↔s∈stH (au F a)/\dl F a s=e
 ndo:∀a∈R,((az F a).map (·.1)).Nodup
 fo:∀a∈R,(az F a).length<=100
 rc:E7 F R
def mw(F:List aj)(R W:aU):List (aU×Str):=W.flatMap (kg F R)
theorem kE:q∈kg F R x↔q.2∈R/\(q.1,x)∈az F q.2:=by
 unfold kg Aj;rw[Qbs];constructor
 ·rintro⟨r,Y,h2⟩;obtain⟨m,h3,rfl⟩:=Z2.mp h2;obtain⟨h4,h5⟩:=Qab.mp h3;have:=Qt h5;subst this;exact⟨Y,h4⟩
 ·rintro⟨Y,h2⟩;exact⟨q.2,Y,Z2.mpr ⟨(q.1,x),Qab.mpr ⟨h2,by simp⟩,rfl⟩⟩
theorem kU(h:DH F R):q∈mw F R W↔q.2∈R/\q.1∈stH (au F q.2)/\dl F q.2 q.1∈W:=by
 unfold mw;rw[Qbs];constructor
 ·rintro⟨x,hx,hq⟩;obtain⟨Y,h2⟩:=kE.mp hq;obtain⟨h3,h4⟩:=(h.on _ Y _ _).mp h2;exact⟨Y,h3,by rw[h4];exact hx⟩
 ·rintro⟨Y,h2,h3⟩;exact⟨_,h3,kE.mpr ⟨Y,(h.on _ Y _ _).mpr ⟨h2,rfl⟩⟩⟩
theorem Ia(h:DH F R)(f:W.Nodup):(mw F R W).Nodup:=by
 unfold mw;refine List.pairwise_flatMap.mpr ⟨λx _=>?_,f.imp fun{x y}n p c q d e=>?_⟩
 ·unfold kg;refine List.pairwise_flatMap.mpr ⟨λr g=>?_,h.nd.imp fun{a b}n p c q d e=>?_⟩
  ·unfold Aj;refine uT.mpr (List.Pairwise.filter _ ((uT.mp (h.ndo r g)).imp fun{a b}n e=>n ?_));exact(h1 e).1
  ·unfold Aj at c d;obtain⟨_,_,rfl⟩:=Z2.mp c;obtain⟨_,_,rfl⟩:=Z2.mp d;exact n (h1 e).2
 ·subst e;obtain⟨Y,h2⟩:=kE.mp c;obtain⟨_,h3⟩:=kE.mp d;exact n (((h.on _ Y _ _).mp h2).2.symm.trans ((h.on _ Y _ _).mp h3).2)
theorem qC(h:DH F R):∀W:aU,(mw F R W).length<=W.length*1400
 | []=>by simp[mw]
 |x::W=>by
  have a:=qC h W;have b:=nM F x 100 R h.fo;have c:R.length*100<=14*100:=Nat.mul_le_mul_right _ h.few;unfold mw at a⊢;rw[np,Qk,dV,Nat.succ_mul]
  lia
theorem DH.led(h:DH F R)(f:W.Nodup){q:aU×aU}(g:q∈mq (mw F R W)):q.2.Nodup/\q.2.length<=R.length/\∀x,x∈q.2↔x∈R/\q.1∈stH (au F x)/\dl F x q.1∈W:=by
 have ev:=(BD (mw F R W)).ev q g;have c:∀x,x∈q.2↔x∈R/\q.1∈stH (au F x)/\dl F x q.1∈W:=λx=>by
  rw[ev,Z2];constructor
  ·rintro⟨p,hp,rfl⟩;obtain⟨Y,h2⟩:=Qab.mp hp;have:=Qt h2;rw[<- this];exact(kU h).mp Y
  ·exact λz=>⟨(q.1,x),Qab.mpr ⟨(kU h).mpr z,by simp⟩,rfl⟩
 have d:q.2.Nodup:=by
  rw[ev];refine uT.mpr ?_;refine List.Pairwise.imp_of_mem (fun{a b}i j n e=>n ?_) ((Ia h f).filter _);have k:=Qt (Qab.mp i).2;have l:=Qt (Qab.mp j).2;exact Prod.ext (k.trans l.symm) e
 exact⟨d,cC d λx m=>((c x).mp m).1,c⟩
theorem Ae(c:rs.Nodup)(g:Str->Nat){q:Nat×aU}(d:q∈mq (rs.map λa=>(g a,a))):q.2.Nodup/\q.2.length<=rs.length/\∀x,x∈q.2↔x∈rs/\g x=q.1:=by
 have ev:=(BD (rs.map λa=>(g a,a))).ev q d;have b:q.2=rs.filter λa=>decide (g a=q.1):=by
  rw[ev,List.filter_map,Qn];exact(List.map_id' _)
 refine⟨by rw[b];exact c.filter _,by rw[b];exact mf _ _,λx=>?_⟩;rw[b,Qab];simp
end
section
variable{Hs:Hp}{xs:bY}{F:List aj}{R:aU}
theorem RT.ab'(rt:RT H a xs F ns ws)(f:∀z∈ws,Wd z)(i:R.Nodup)(c:∀e∈R,gg F ns e)(k:∀e∈R,∀m∈az F e,m.2∈R):DH F R:=by
 have g:=rt.xf f;have j:∀a∈R,∀s e,(s,e)∈az F a↔s∈stH (au F a)/\dl F a s=e:=λa b s e=>by
  have d:=c a b;constructor
  ·intro h;refine⟨by rw[<- lO d.2];exact Z2.mpr ⟨_,h,rfl⟩,?_⟩;unfold dl;rw[pU (g.Bv d) h];rfl
  ·rintro⟨Y,rfl⟩;rw[<- lO d.2]at Y;obtain⟨m,hm,rfl⟩:=Z2.mp Y;unfold dl;rw[pU (g.Bv d) hm];exact hm
 refine⟨i,jU (cC i λx l=>(c x l).1) rt.few,j,λa b=>g.Bv (c a b),λa b=>jU (rt.Cr f (c a b).1) (by decide),λa b s n=>?_⟩;exact k a b (s,dl F a s) ((j a b _ _).mpr ⟨n,rfl⟩)
theorem jp.R3{kvs:ca}{g j:Addr}{ul q:bY}(h:jp Hs H kvs R f)(m:H g=some (.lst ul))(n:H j=some (.lst q))(r:Hs g≠none)(s:Hs j≠none)(k:∀b o,H b=some o->(∀kv,o≠.dK kv)->b≠g->b≠j->U b=some o):jp Hs U kvs R f:=by
 refine⟨h.len,λi a b=>?_,h.inj⟩;obtain⟨g1,l,O,g2,g3,g4,g5⟩:=h.at_ i a b
 have p:∀c d,H c=some (.tup d)->U c=some (.tup d):=λc d e=>k c _ e ('n') (λz=>by rw[z,m]at e;cases e) (λz=>by rw[z,n]at e;cases e);refine⟨g1,l,O,g2,g3,k l _ g4 ('n') (λz=>r (by rw[<- z];exact g3)) (λz=>s (by rw[<- z];exact g3)),g5.keep p λc d e=>?_⟩;rcases e with e|⟨u,e⟩
 ·exact .inl (p _ _ e)
 ·exact .inr ⟨u,k c _ e ('n') (λz=>by rw[z,m]at e;cases e) (λz=>by rw[z,n]at e;cases e)⟩
noncomputable def A0(F:List aj)(L:List (Tv×aU))(x:Str):Nat:=(L.map (·.1)).idxOf (gr (au F x))
variable{L:List (Tv×aU)}
theorem xc(c:R.Nodup){q:Tv×aU}(d:q∈mq (R.map λa=>(gr (au F a),a))):q.2.Nodup/\q.2.length<=R.length/\∀x,x∈q.2↔x∈R/\gr (au F x)=q.1:=by
 have ev:=(BD (R.map λa=>(gr (au F a),a))).ev q d;have b:q.2=R.filter λa=>decide (gr (au F a)=q.1):=by
  rw[ev,List.filter_map,Qn];exact(List.map_id' _)
 refine⟨by rw[b];exact c.filter _,by rw[b];exact mf _ _,λx=>?_⟩;rw[b,Qab];simp
theorem mM(b:ur (R.map λa=>(gr (au F a),a)) L)(c:i<L.length)(e:gr (au F x)=L[i].1):A0 F L x=i:=by
 unfold A0;rw[e];have:=b.nd.idxOf_getElem i (by simpa using c);rw[Qr]at this;exact this
theorem iM(b:ur (R.map λa=>(gr (au F a),a)) L)(d:x∈R):∃(h:A0 F L x<L.length),gr (au F x)=(L[A0 F L x]).1:=by
 have:gr (au F x)∈L.map (·.1):=(b.ks _).mpr (Z2.mpr ⟨_,Z2.mpr ⟨x,d,rfl⟩,rfl⟩);obtain⟨q,hq,e⟩:=Z2.mp this;obtain⟨i,hi,rfl⟩:=Qi hq;have c:=mM b hi e.symm;have h:A0 F L x<L.length:=by rw[c];exact hi
 refine⟨h,?_⟩;simp only[c];exact e.symm
theorem yC(j:R.Nodup)(c:ur (R.map λa=>(gr (au F a),a)) L)(f:∀q∈L,q.2.Nodup/\q.2.length<=R.length/\∀x,x∈q.2↔x∈R/\gr (au F x)=q.1):DG R (A0 F L) (L.map (·.2)):=by
 have b:∀i l,(L.map (·.2))[i]? =some l->∃h:i<L.length,L[i].2=l:=λi l e=>by
  rw[Qq]at e;cases h:L[i]? with
  |none=>rw[h]at e;cases e
  |some q=>
   obtain⟨hi,eq⟩:=yE.mp h;rw[h]at e;exact⟨hi,by rw[eq];exact QE e⟩
 refine⟨λi l e=>?_,λi l e x=>?_,λx g=>?_⟩
 ·obtain⟨hi,rfl⟩:=b i l e;exact⟨(f _ (Qj hi)).1,c.ne (Qj hi)⟩
 ·obtain⟨hi,rfl⟩:=b i l e;rw[(f _ (Qj hi)).2.2 x];constructor
  ·exact fun⟨d,h2⟩=>⟨d,mM c hi h2⟩
  ·rintro⟨d,rfl⟩;exact⟨d,(iM c d).2⟩
 ·rw[Ql];exact(iM c g).1
theorem yN(d:ur (R.map λa=>(gr (au F a),a)) L)(g:E7 F R):BB F R (A0 F L) (List.range L.length):=by
 refine⟨λa c b f h=>?_,λa c b f e=>?_,λa c b f e s i=>.inr (.inl (Qag.mpr (iM d (g a c s i)).1))⟩
 ·have:gr (au F a)=gr (au F b):=RD.mpr h.me;unfold A0;rw[this]
 ·obtain⟨Y,e1⟩:=iM d c;obtain⟨h2,e2⟩:=iM d f;refine RD.mp ?_;rw[e1,e2];simp only[e]
end
noncomputable instance Kt:DecidableEq (Str->Prop):=Classical.typeDecidableEq _
theorem uS:typeLookup (.type "zip") "__len__"=pure none:=by rw[typeLookup_type,builtinLookup_eq_fast];kernel_rfl
theorem uK:typeLookup (.type "zip") "__length_hint__"=pure none:=by rw[typeLookup_type,builtinLookup_eq_fast];kernel_rfl
structure DI(h:Heap)(lo:Addr)(xs J:Array Value)(as:cx)(i:Nat):Prop where
 len:as.length=i
 nd:as.Nodup
 at_:∀j(hj:j<as.length),∃x y,xs[j]? =some x/\J[j]? =some y/\IsPair h as[j] x y/\lo<=as[j]
theorem DI.keep{lo:Addr}{xs:Array Value}{as:cx}(q:DI h lo xs J as i)(k:∀b o,lo<=b->h.get? b=some o->M.get? b=some o):DI M lo xs J as i:=
 ⟨q.len,q.nd,λj a=>let ⟨x,y,Y,h2,h3,h4⟩:=q.at_ j a;⟨x,y,Y,h2,k _ _ h4 h3,h4⟩⟩
def DJ(as:cx)(c:Nat):Obj:={cls:=.type "list",dict:=none,data:=.seq (as.map Value.ref).toArray c,slots:=#[]}
theorem rF{S z TI TO g n m lo:Addr}{xs:Array Value}(hA:A.handled=none)(D:ZipApart z TI TO g n l m)(hn:xs.size=J.size)(hz:xs.size<=sizeLine)(hS:S∉[z,TI,TO,g,n])(V:S≠l)(ab:S≠m)(ml:l∉[z,TO,g,n])(mm:m∉[z,TO,g,n])(Pp:∀b∈[S,z,TO,g,n],b<lo)(res:Value):
  ∀(k i:Nat)(s:Shared)(as:cx)(c:Nat),xs.size-i=k->i<=xs.size->EI s.heap S z TI TO g n l m i->s.heap.IsList l xs->s.heap.IsList m J->s.heap.get? S=some (DJ as c)->DI s.heap lo xs J as i->lo<=s.heap.objs.size->
   (∀M L c',(∀b o,b∉[S,z,TO,g,n]->'l'->M.get? b=some o)->M.get? S=some (DJ L c')->DI M lo xs J L xs.size->R (.ok (.ret res)) {s with heap:=M})->
   codeAny (model P w) A (.builtin "list.extend.loop" ⟨[.ref S,.ref z,res],[]⟩) R s:=by
 have Mg:=hS;simp only[Qp,QB,or_false,not_or]at Mg;obtain⟨n1,n2,n3,n4,n5⟩:=Mg;have R4:S∉[z,TO,g,n]:=by simp only[Qp,QB,or_false,not_or];exact⟨n1,n3,n4,n5⟩
 have N:∀b,b∉[S,z,TO,g,n]->b≠S/\b∉[z,TO,g,n]:=λb h=>by
  rw[Qp,not_or]at h;exact h
 have E:∀b,lo<=b->b≠S/\b∉[z,TO,g,n]:=λb h=>N b λq=>absurd (Pp b q) (Nat.not_lt.mpr h);intro k
 induction k with
 |zero=>
  intro i s as c p hi st G g2 Q t H hR;have gb:i=xs.size:=by lia
  subst gb;refine codeAny_builtin F.entry_extend_loop ?_;rw[lc F.plain_extend_loop _];show wpAny _ A.in1 (pyNext (.ref z) >>=_) _ _ s;obtain⟨q1,q2,q3,q4⟩:=st;have fin:∀M,(∀b o,b∉[z,TO,g,n]->s.heap.get? b=some o->M.get? b=some o)->R (.ok (.ret res)) {s with heap:=M}:=λM p=>
   hR M as c (λb o d e=>p b o (N b d).2 e) (p _ _ R4 Q) (t.keep λb o T e=>p b o (E b T).2 e)
  rcases q1 with⟨e,a,u,v,b⟩|⟨c',f,oc,a,b,e1,e2⟩
  ·refine QT (wpAny_pyNext_zip_end (by simp[hA]) D a q2 b q3 q4 G g2 (.inl (by simp)) λM p=>?_);exact QU (fin M λb o d e=>by
    simp only[Qp,QB,or_false,not_or]at d;exact p b o d.1 d.2.1 d.2.2.1 d.2.2.2 e)
  ·refine QT (yW (by simp[hA]) D a b q2 q3 G (by simp) λM p=>?_);exact QU (fin M λb o d e=>by
    simp only[Qp,QB,or_false,not_or]at d;exact p b o d.1 d.2.2.1 e)
 |succ k ih=>
  intro i s as c p hi st G g2 Q t H hR;have av:i<xs.size:=by lia
  have R5:i<J.size:=by lia
  refine codeAny_builtin F.entry_extend_loop ?_;rw[lc F.plain_extend_loop _];show wpAny _ A.in1 (pyNext (.ref z) >>=_) _ _ s;refine QT (uO D st (QA Q) G g2 (x:=xs[i]) (y:=J[i]) (by simp[av]) (by simp[R5]) λM af Mh I=>?_);have R6:=I _ _ R4 Q;show wpAny _ A.in1 (updateSeq S (·.push (.ref s.heap.objs.size)) >>=_) _ _ _;refine QT ?_;have C:∀b o,b≠S->M.get? b=some o->(M.update S (Obj.mapSeq (·.push (.ref s.heap.objs.size)))).get? b=some o:=λb o d e=>(og _ _ (Ne.symm d)).trans e;have ep:(as.map Value.ref).toArray.push (.ref s.heap.objs.size)=((as++[s.heap.objs.size]).map Value.ref).toArray:=by simp
  obtain⟨c2,ec⟩:∃c2,Obj.mapSeq (·.push (.ref s.heap.objs.size)) (DJ as c)=DJ (as++[s.heap.objs.size]) c2:=by
   unfold DJ;rw[<- ep];exact⟨_,rfl⟩
  have ag:(M.update S (Obj.mapSeq (·.push (.ref s.heap.objs.size)))).get? S=some (DJ (as++[s.heap.objs.size]) c2):=by
   rw[<- ec];exact ll _ R6 rfl
  have K:((as.map Value.ref).toArray).size=i:=by simp[t.len]
  have ah:=QA Mh;refine wpAny_updateSeq (s:={s with heap:=M}) R6 rfl (QU ⟨plainId_quiet F.plain_extend_loop _,ih (i+1) {s with heap:=M.update S (Obj.mapSeq (·.push (.ref s.heap.objs.size)))} (as++[s.heap.objs.size]) _ (by lia) av (af.keep hS C) ?_ ?_ ag ?_ ?_ λh2 L c' f2 e2 a2=>?_⟩) (by rw[K];lia) (by show((as.map Value.ref).toArray.push _).size<=sizeLine+1;rw[Array.size_push,K];lia)
  ·obtain⟨o,e,r⟩:=G;exact⟨o,C _ _ V.symm (I _ _ ml e),r⟩
  ·obtain⟨o,e,r⟩:=g2;exact⟨o,C _ _ ab.symm (I _ _ mm e),r⟩
  ·refine⟨by simp[t.len],?_,λj hj=>?_⟩
   ·refine QaA.mpr ⟨t.nd,by simp,λa ha b T e=>?_⟩;rw[zO]at T;obtain⟨j,hj,rfl⟩:=Qi ha;obtain⟨x,y,_,_,h3,_⟩:=t.at_ j hj
    have:=QA h3;rw[e,T]at this;exact ft _ this
   ·by_cases R7:j<as.length
    ·rw[Qe R7];obtain⟨x,y,Y,h2,h3,h4⟩:=t.at_ j R7
     exact⟨x,y,Y,h2,C _ _ (E _ h4).1 (I _ _ (E _ h4).2 h3),h4⟩
    ·have ej:j=as.length:=by simp at hj;lia
     subst ej;rw[Qf (Qz _)];simp only[du,uJ];exact⟨xs[i],J[i],by simp[t.len,av],by simp[t.len,R5],C _ _ (E _ H).1 Mh,H⟩
  ·have:=QA (C _ _ (E _ H).1 Mh);exact jU H (Nat.le_of_lt this)
  ·refine hR h2 L c' (λb o d e=>f2 b o d ?_) e2 a2;exact C _ _ (N b d).1 (I _ _ (N b d).2 e)
theorem u7{z TI TO c d m:Addr}{xs:Array Value}{Q:cq->Shared->Prop}(N:A.handled=none)(D:ZipApart z TI TO c d l m)(R:xs.size=J.size)(hz:xs.size<=sizeLine)(f:IsZip s.heap z TI TO .none)(p:IsPair s.heap TI (.ref c) (.ref d))(t:IsPair s.heap TO .none .none)(u:s.heap.IsListIter c l 0)(g2:s.heap.IsListIter d m 0)(x:s.heap.IsList l xs)(y:s.heap.IsList m J)(T:l∉[z,TO,c,d])(V:m∉[z,TO,c,d])
  (hQ:∀M as,(∀b o,b∉[z,TO,c,d]->'l'->M.get? b=some o)->DI M ('i') xs J as xs.size->Q (as.map Value.ref) {s with heap:=M}):wpAny (model P w) A (collect (.ref z)) Q E s:=by
 have l1:l<s.heap.objs.size:=by obtain⟨_,e,_⟩:=x;exact QA e
 have l2:m<s.heap.objs.size:=by obtain⟨_,e,_⟩:=y;exact QA e
 have C:c<s.heap.objs.size:=by obtain⟨_,e,_⟩:=u;exact QA e
 have G:d<s.heap.objs.size:=by obtain⟨_,e,_⟩:=g2;exact QA e
 have g:z<s.heap.objs.size:=QA f;have b4:TI<s.heap.objs.size:=QA p;have H:TO<s.heap.objs.size:=QA t;unfold collect;refine QT (wpAny_runValue (codeAny_builtin F.entry_proto_collect ?_));rw[lc F.plain_proto_collect _];show wpAny _ A.in1 (newList [] >>=λl=>again (.builtin "list.__iadd__" ⟨[l,.ref z],[]⟩)) _ _ s;refine QT (wpAny_newObj_type ?_);refine QU ⟨plainId_quiet F.plain_list_iadd _,codeAny_builtin F.entry_list_iadd ?_⟩;rw[lc F.plain_list_iadd _];have h:∀b o,'l'->(s.heap.push {cls:=.type "list",data:=.seq ([]:cq).toArray}).get? b=some o:=λb o e=>Qc _ e;have i:({s with heap:=s.heap.push {cls:=.type "list",data:=.seq ([]:cq).toArray}}:Shared).TypeIs (.ref z) "zip":=⟨_,h _ _ f,rfl⟩
 show wpAny _ A.in1 (Builtin.List.listExtendWith (.ref s.heap.objs.size) (.ref z) (.ref s.heap.objs.size)) _ _ _;unfold Builtin.List.listExtendWith;refine QT (wpAny_typeOf i ?_);have Y:Builtin.List.listSameRef (.ref s.heap.objs.size) (.ref z)=false:=by simp[Builtin.List.listSameRef,dq g]
 have h2:(Value.type "zip"==Value.type "list")=false:=by decide
 have h3:(Value.type "zip"==Value.type "tuple")=false:=by decide
 simp only[Y,h2,h3,Bool.or_false,fi,if_false];refine QT (wpAny_pyIter_zip (h _ _ f) ?_);refine QT (wpAny_holding ?_);unfold Builtin.List.listLengthHint;refine QT (wpAny_specialOf i uS ?_);show wpAny _ A.in1 (specialOf (Value.ref z) (Str.ofString "__length_hint__") >>=_) _ _ _;refine QT (wpAny_specialOf i uK ?_);refine QU ?_;show wpAny _ A.in1 (rule "list.extend.makes-room" >>=λ_=>Builtin.List.listTouch (.ref s.heap.objs.size) >>=λ_=>
  again (.builtin "list.extend.loop" ⟨[.ref s.heap.objs.size,.ref z,.ref s.heap.objs.size],[]⟩)) _ _ _
 refine QT (wpAny_rule ?_);have I:(s.heap.push {cls:=.type "list",data:=.seq ([]:cq).toArray}).get? s.heap.objs.size=some {cls:=.type "list",data:=.seq ([]:cq).toArray}:=Qd _ rfl;refine QT ?_;show wpAny _ A.in1 (updateSeq s.heap.objs.size (·.push .none) >>=λ_=>updateSeq s.heap.objs.size (·.pop)) _ _ _;refine QT (wpAny_updateSeq I rfl ?_);have K:=ll (Obj.mapSeq (·.push Value.none)) I rfl;refine wpAny_updateSeq K rfl ?_;have k:=ll (Obj.mapSeq (·.pop)) K rfl;have a:∀b o,'l'->
   (((s.heap.push {cls:=.type "list",data:=.seq ([]:cq).toArray}).update s.heap.objs.size (Obj.mapSeq (·.push Value.none))).update s.heap.objs.size (Obj.mapSeq (·.pop))).get? b=some o:=
  λb o e=>(og _ _ (dq (QA e))).trans ((og _ _ (dq (QA e))).trans (h b o e))
 generalize(((s.heap.push {cls:=.type "list",data:=.seq ([]:cq).toArray}).update s.heap.objs.size (Obj.mapSeq (·.push Value.none))).update s.heap.objs.size (Obj.mapSeq (·.pop)))=hp at k a;have n:'i'<=hp.objs.size:=QA k;refine QU ⟨plainId_quiet F.plain_extend_loop _,rF (lo:='i') (xs:=xs) (J:=J) (by simpa using N) D R hz ?_ (dq l1) (dq l2) T V ?_ _ xs.size 0 {s with heap:=hp} [] _ rfl (dm _) ⟨.inl ⟨rfl,a _ _ f,_,_,a _ _ t⟩,a _ _ p,u.at λo e=>a _ _ e,g2.at λo e=>a _ _ e⟩ (let ⟨o,e,r⟩:=x;⟨o,a _ _ e,r⟩) (let ⟨o,e,r⟩:=y;⟨o,a _ _ e,r⟩) k ⟨rfl,ij,λj hj=>absurd hj (by simp)⟩ n λM E9 c' f2 e2 a2=>?_⟩
 ·simp only[Qp,QB,or_false,not_or];exact⟨dq g,dq b4,dq H,dq C,dq G⟩
 ·intro b L;simp only[Qp,QB,or_false]at L;rcases L with rfl|rfl|rfl|rfl|rfl
  ·exact Nat.lt_succ_self _
  ·exact fy g
  ·exact fy H
  ·exact fy C
  ·exact fy G
 ·show wpAny _ A (load s.heap.objs.size >>=_) _ _ _;refine QT (wpAny_load e2 ?_);refine QU ?_;have:=hQ M E9 (λb o nb e=>f2 b o (λq=>?_) (a b o e)) a2
  ·simpa[DJ]using this
  ·rcases Qp.mp q with q|q
   ·have:=QA e;rw[q]at this;exact ft _ this
   ·exact nb q
theorem nH{z TI TO e f m:Addr}{xs:Array Value}(i:A.handled=none)(D:ZipApart z TI TO e f l m)(j:xs.size=J.size)(hz:xs.size<=sizeLine)(g:IsZip s.heap z TI TO .none)(k:IsPair s.heap TI (.ref e) (.ref f))(n:IsPair s.heap TO .none .none)(p:s.heap.IsListIter e l 0)(g2:s.heap.IsListIter f m 0)(q:s.heap.IsList l xs)(r:s.heap.IsList m J)(t:l∉[z,TO,e,f])(u:m∉[z,TO,e,f])
  (x:∀M as,(∀b o,b∉[z,TO,e,f]->'l'->M.get? b=some o)->DI M ('i') xs J as xs.size->Q (.ref M.objs.size) {s with heap:=M.push {cls:=.type "tuple",data:=.seq (as.map Value.ref).toArray}}):wpAny (model P w) A (call (.type "tuple") [.ref z]) Q E s:=by
 refine callType_codes (Q₁:=λd a=>a.TypeIs d "tuple"/\Q d a) F.called_tuple (F.typeCall_tuple_1 _) F.entry_object_init ?_ λd a c=>?_
 ·refine codeAny_of_tree ?_;show wpAny _ (Around.in1 _) (do checkBuiltinCall "tuple.__new__" ⟨[.type "tuple",.ref z],[]⟩;again (.builtin "tuple.__new__" ⟨[.type "tuple",.ref z],[]⟩)) _ _ s;refine QT (wpAny_of_eq (F.newCall_tuple_1 _) (QU ⟨plainId_quiet F.plain_tuple_new _,codeAny_builtin F.entry_tuple_new ?_⟩));rw[lc F.plain_tuple_new _];have y:=sub_tuple_self;have C:=init_tuple_lookup;have G:=madeHere_tuple;have H:s.TypeIs (.ref z) "zip":=⟨_,g,rfl⟩
  wp_walk using wpAny_typeOf H,u7 (by simpa using i) D j hz g k n p g2 q r t u
  intro M as I h;show wpAny _ _ (Builtin.Tuple.tupleExact (as.map Value.ref).toArray >>=λv=>ret v) _ _ _;unfold Builtin.Tuple.tupleExact;refine QT (wpAny_newObj_type ?_ (by show(as.map Value.ref).toArray.size<=sizeLine;simp only[wV,Ql];rw[h.len];exact hz));refine QU ?_;exact⟨⟨_,Qd _ rfl,rfl⟩,x M as I h⟩
 ·exact⟨c.1,F.args_object_init_2 d _,object_init_meets F.called_tuple.init.lookup F.called_tuple.made (by decide) P w A.in1 _ a ⟨c.1,rfl,c.2⟩⟩
structure ys(H:Hp)(O xs J:bY):Prop where
 len:O.length=xs.length
 at_:∀i(h:i<O.length)(Y:i<xs.length)(h2:i<J.length),∃c,O[i]=.ref c/\H c=some (.tup [xs[i],J[i]])
def wT(a:TA):TE:=λZ H Q=>a Z H λvs H1=>∃l m xs J,vs=[.ref l,.ref m]/\H1 l=some (.lst xs)/\H1 m=some (.lst J)/\xs.length=J.length/\∀T O U,H1 T=none->ae H1 U->U T=some (.tup O)->ys U O xs J->Q (.ref T) U
theorem xv {a b : Expr} {ta : TA} {p u P L : Pos} (g : X.calm = true) (hg : Gl X "tuple") (hm : X.mg "tuple" = none) (R : Gl X "zip") (GR : X.mg "zip" = none) (ha : SA X [a, b] ta) (hs : starEach [a, b] X.env = [(false, eval a X.env), (false, eval b X.env)] := by rfl) (ku : starEach [b] X.env = [(false, eval b X.env)] := by rfl) (R_ : starEach [Expr.Call (.Name "zip" u) [a, b] [] L] X.env = [(false, eval (.Call (.Name "zip" u) [a, b] [] L) X.env)] := by rfl) :
    SE X (.Call (.Name "tuple" p) [.Call (.Name "zip" u) [a, b] [] L] [] P) (wT ta) := by
  constructor
  intro A s0 Z H Q T h
  refine wpAny_Call_Name_kw (iC T hg hm boot_tuple ?_)
  refine oj ?_ R_ rfl
  rw [R_]
  refine Calls.spliced_cons ?_
  refine Call_ (iC T R GR boot_zip (oj (ay (ha.h L A s0 Z H _ T h) λO s ⟨vs, H1, I, r1, q1⟩ => ?_) (by rw [hs, ku]) (by rw [ku]; rfl)))
  obtain ⟨l, m, t, C, e, hl, uq, GP, q⟩ := q1
  subst e
  obtain ⟨u1, u2, rfl, Iu, Lm⟩ := r1.two
  cases Iu
  cases Lm
  obtain ⟨ab, rv, pl, hz⟩ := I.list (ai.of hl)
  obtain ⟨E, AU, EC, Gh⟩ := I.list (ai.of uq)
  have e1 := rv.length
  have e2 := AU.length
  have l1 : l < s.heap.objs.size := by obtain ⟨_, e, _⟩ := pl.isList; exact QA e
  have l2 : m < s.heap.objs.size := by obtain ⟨_, e, _⟩ := EC.isList; exact QA e
  refine call_zip_2 pl.isList EC.isList λG gz DK E_ g1 g2 af Ja => Calls.spliced_nil ?_
  have D := lM l1 l2
  have up : ∀ {c : Addr} {zs : Array Value}, s.heap.IsList c zs -> G.IsList c zs := λ⟨o, e, r⟩ => ⟨o, Ja _ _ e, r⟩
  have n : ∀ c, c < s.heap.objs.size -> c ∉ [s.heap.objs.size + 4, s.heap.objs.size + 3, s.heap.objs.size, s.heap.objs.size + 1] := λc g => by
    simp only [Qp, QB, or_false, not_or]
    exact ⟨yU (jB g (Nat.le_add_right _ _)), yU (jB g (Nat.le_add_right _ _)), yU g, yU (jB g (Nat.le_add_right _ _))⟩
  refine nH (s := { s with heap := G }) (I.ok.hd g) D (by simp; lia) (by simp; lia) gz DK E_ g1 g2 (up pl.isList) (up EC.isList) (n l l1) (n m l2) λk d hk N => ?_
  have K : ∀ b o, s.heap.get? b = some o -> (k.push { cls := .type "tuple", data := .seq (d.map Value.ref).toArray }).get? b = some o := λb o e => Qc _ (hk b o (n b (QA e)) (Ja b o e))
  have al : d.length = t.length := by have := N.len; simp at this; lia
  have low : ∀ c ∈ d, s.heap.objs.size <= c /\ c < k.objs.size := λc g => by
    obtain ⟨j, hj, rfl⟩ := Qi g
    obtain ⟨x, y, _, _, h3, h4⟩ := N.at_ j hj
    refine ⟨jU ?_ h4, QA h3⟩
    show s.heap.objs.size <= G.objs.size + 1
    lia
  have Fb : s.heap.objs.size <= k.objs.size := by
    have := QA (hk _ _ (λz => ?_) DK)
    · exact jU (Nat.le_add_right _ 2) (Nat.le_of_lt this)
    · simp only [Qp, QB, or_false] at z
      rcases z with z | z | z | z
      · exact absurd z (by simp)
      · exact absurd z (by simp)
      · exact absurd z (by simp)
      · exact absurd z (by simp)
  have Sa : (d.zip ((t.zip C).map λq => HO.tup [q.1, q.2])).map (·.1) = d := by rw [List.map_fst_zip]; rw [Ql, List.length_zip]; lia
  have nd : (((k.objs.size, HO.tup (d.map V.ref)) :: d.zip ((t.zip C).map λq => HO.tup [q.1, q.2])).map (·.1)).Nodup := by
    rw [yV, Sa, uY]
    exact ⟨λz => ft _ (low _ z).2, N.nd⟩
  have f : ∀ q ∈ (k.objs.size, HO.tup (d.map V.ref)) :: d.zip ((t.zip C).map λq => HO.tup [q.1, q.2]), s.heap.objs.size <= q.1 := λq hq => by
    rcases Qp.mp hq with rfl | hq
    · exact Fb
    · have : q.1 ∈ d := by rw [<- Sa]; exact Z2.mpr ⟨q, hq, rfl⟩
      exact (low _ this).1
  have I4 := Inv.yg (t' := s.toks) I K _ f nd (λq hq U => by
    rcases Qp.mp hq with rfl | hq
    · refine (show br X.prog X.w U _ _ (.tup _) from ⟨⟨by rw [Ql]; lia, B0.new rfl rfl⟩, d.map Value.ref, ?_, IsTup.new _ _⟩)
      exact jI (by simp) λi G h2 => by simp only [Qr]; rfl
    · obtain ⟨i, hi, rfl⟩ := Qi hq
      have gp : i < d.length /\ i < t.length /\ i < C.length := by
        rw [List.length_zip, Ql, List.length_zip] at hi; lia
      obtain ⟨x, y, f1, f2, f3, _⟩ := N.at_ i gp.1
      obtain ⟨w1, k1, p1⟩ := rv.get (Qa gp.2.1)
      obtain ⟨w2, k2, u⟩ := AU.get (Qa gp.2.2)
      rw [List.getElem_zip, Qr, List.getElem_zip]
      have ex : x = w1 := by have : ab[i]? = some x := by simpa using f1
                             rw [k1] at this; exact (QE this).symm
      have ey : y = w2 := by have : E[i]? = some y := by simpa using f2
                             rw [k2] at this; exact (QE this).symm
      subst ex ey
      exact jR p1 u (Qc _ f3))
  refine ⟨.ref k.objs.size, _, I4, rfl, q k.objs.size (d.map V.ref) _ ?_ ?_ ?_ ?_⟩
  · exact I.hok.fresh Fb
  · exact kW _ _ (λq hq => I.hok.fresh (f q hq)) nd
  · exact rW _ _ nd (k.objs.size, .tup (d.map V.ref)) yS
  · refine ⟨by simp [al], λi hi G h2 => ?_⟩
    have ag : i < d.length := by lia
    refine ⟨d[i], by rw [Qr], ?_⟩
    refine rW _ _ nd (d[i], .tup [t[i], C[i]]) (Qh _ ?_)
    refine List.mem_iff_getElem.mpr ⟨i, by rw [List.length_zip, Ql, List.length_zip]; lia, ?_⟩
    rw [List.getElem_zip, Qr, List.getElem_zip]
end L2
namespace L2
open PySem PySem.Spec PyProof.Rows PySem.W
theorem pM:∀(Mj n r:Nat),r<=1->minRun' Mj n r<=n+r
 |0,n,r,h=>by
  have:minRun' 0 n r=n+r:=rfl
  lia
 |Mj+1,n,r,h=>by
  rw[minRun'_succ];split
  ·exact Qz _
  ·rename_i a
   have:=pM Mj (n / 2) (max r (n % 2)) (by lia)
   lia
theorem FX{κ:SortKind}{b:Array Keyed}{Q:Unit->SortSt->Shared->Prop}(x:2<=n)(q:∀k,1<=k->k<n->∀C:Bool->Shared->Prop,C false s->kas_cmp prog w A κ b k (k-1) C s)
  (t:∀c:SortSt,arrOf c=Array.map (kas_item b) (List.range n).toArray->failedOf c=none->Q () c s):kasC 'f' A E sortRuns' Q (kas_st κ b (List.range n).toArray) s:=by
 obtain⟨r,rfl⟩:∃r,n=r+2:=⟨n-2,by lia⟩
 have f:(arrOf (kas_st κ b (List.range (r+2)).toArray)).size=r+2:=by
  show(Array.map (kas_item b) (List.range (r+2)).toArray).size=r+2;simp
 have g:minRun' (r+2) (r+2) 0<=r+2:=by have:=pM (r+2) (r+2) 0 (by lia);lia
 rw[sortRuns'_eq];unfold kasC;rw[StateT.run_bind];refine QT (wpAny_of_eq (a:=(kas_st κ b (List.range (r+2)).toArray,kas_st κ b (List.range (r+2)).toArray)) rfl ?_);dsimp only;rw[f];generalize minRun' (r+2) (r+2) 0=u at g;rw[StateT.run_bind];refine QT ?_;rw[Std.Legacy.Range.forIn_eq_forIn_range'];have l:List.range' ({stop:=r+2,step_pos:=Nat.zero_lt_one}:Std.Legacy.Range).start ({stop:=r+2,step_pos:=Nat.zero_lt_one}:Std.Legacy.Range).size ({stop:=r+2,step_pos:=Nat.zero_lt_one}:Std.Legacy.Range).step=0::1::List.range' 2 r:=by
  simp[Std.Legacy.Range.size,List.range'_succ]
 rw[l,oo];dsimp only;rw[if_neg (by lia:¬(0≥r+2)),bind_assoc,StateT.run_bind];have y:(List.range (r+2)).toArray.size=r+2:=by simp
 have i:wpAny 'f' A ((countRun' 0 (r+2)).run (kas_st κ b (List.range (r+2)).toArray)) (λa d=>a=(some (r+2),kas_st κ b (List.range (r+2)).toArray)/\d=s) E s:=by
  refine kas_count_ (p:=(List.range (r+2)).toArray) (nrem:=r+2) (G:=λm d=>m=(r+2,(List.range (r+2)).toArray)/\d=s) (Q:=λo c d=>(o,c)=(some (r+2),kas_st κ b (List.range (r+2)).toArray)/\d=s) (by lia) (by lia) ?_ ?_
  ·rintro m z d _ _ _ ⟨h,rfl⟩;cases h;exact⟨rfl,rfl⟩
  ·unfold kas_count;rw[KasT.kasWp_bind];refine Rw q ?_ (r+2-1) 1 (Qz _) (by lia);rw[if_pos (by simp)];exact⟨rfl,rfl⟩
 refine QT (wpAny_mono i (λa d h=>?_) (λ_ _ e=>e));obtain⟨rfl,rfl⟩:=h;dsimp only;rw[if_neg (by lia:¬(r+2<u)),bind_assoc,StateT.run_bind];refine QT (wpAny_of_eq (a:=(kas_st κ b (List.range (r+2)).toArray,kas_st κ b (List.range (r+2)).toArray)) rfl ?_);dsimp only;have j:(pendingOf (kas_st κ b (List.range (r+2)).toArray)).back?=none:=rfl;simp only[j];rw[bind_assoc,StateT.run_bind];refine QT (wpAny_of_eq (a:=((),setPending (kas_st κ b (List.range (r+2)).toArray) #[(0,r+2,0)])) rfl ?_);rw[pure_bind];dsimp only;rw[oo];dsimp only;rw[if_pos (by lia:0+(r+2)≥r+2),pure_bind];dsimp only;rw[StateT.run_pure];refine QU ?_;dsimp only;rw[StateT.run_bind];refine QT ?_;rw[Std.Legacy.Range.forIn_eq_forIn_range',l,oo,bind_assoc,StateT.run_bind];refine QT (wpAny_of_eq (a:=(setPending (kas_st κ b (List.range (r+2)).toArray) #[(0,r+2,0)],setPending (kas_st κ b (List.range (r+2)).toArray) #[(0,r+2,0)])) rfl ?_);dsimp only;rw[if_pos (show(pendingOf (setPending (kas_st κ b (List.range (r+2)).toArray) #[(0,r+2,0)])).size<=1 from Qz 1),pure_bind];dsimp only;rw[StateT.run_pure];refine QU ?_;dsimp only;rw[StateT.run_pure];exact QU (t _ rfl rfl)
theorem oT{vs:cq}{κ:SortKind}{P:PySem.Fin->Shared->Prop}(l:s.heap.get? a=some (seqObj "list" vs.toArray n))(Ml:vs.length<=100000)
  (G:2<=vs.length->∀M:Heap,(∀b o,b≠a->'l'->M.get? b=some o)->∀Q:SortKind->Shared->Prop,Q κ {s with heap:=M}->wpAny 'f' A (keyKind' vs.toArray) Q (λ_ _=>False) {s with heap:=M})
  (H:∀M:Heap,(∀b o,b≠a->'l'->M.get? b=some o)->∀k,1<=k->k<vs.length->∀C:Bool->Shared->Prop,C false {s with heap:=M}->wpAny 'f' A (keyLt' κ (vs.getD k Value.none) (vs.getD (k-1) Value.none)) C (λ_ _=>False) {s with heap:=M})
  (h:P (.done (.ret .none)) {s with heap:=sortedHeap s.heap a vs vs.toArray}):
  wpAny 'f' A (Builtin.«list.sort» ⟨[.ref a],[]⟩) P E s:=by
 rw[list_sort_plain];have u:a<s.heap.objs.size:=QA l;refine QT (listItems_at l rfl ?_);refine QT (listUpdate_at l rfl ?_);obtain⟨p,Sd⟩:∃p,(s.heap.update a (Obj.mapSeq λ_=>#[])).get? a=some (seqObj "list" #[] p):=⟨_,get?_update_seq l (λ_=>#[])⟩
 refine QT (seqEpoch_at Sd rfl ?_);refine QT (wpAny_newTuple ?_);refine QT (wpAny_newList ?_);refine wpAny_holding ?_;have m:('c').get? a=some (seqObj "list" #[] p):=by
  rw[Heap.get?_push_ne _ _ _ (by rw[size_push',Heap.size_update];exact yU (fy u)),Heap.get?_push_ne _ _ _ (by rw[Heap.size_update];exact yU u)];exact Sd
 have f:∀b o,b≠a->'l'->('c').get? b=some o:=λb o I e=>
  Qc _ (Qc _ ((og _ _ (Ne.symm I)).trans e))
 show wpAny 'f' A _ P E {s with heap:='c'};dsimp only;have q:vs.toArray.size=vs.length:=by simp
 by_cases g:vs.toArray.size<2
 ·rw[if_pos g,if_pos g];refine QT (QU ?_);rw[StateT.run_pure];refine QT (QU ?_);dsimp only;refine QT (seqEpoch_at m rfl ?_);refine QT (listUpdate_at m rfl ?_ (hsz2:=by rw[Array.size_map];show(pairsOf vs).size<=_;rw[pairsOf_size,QM];lia));simp only[bne_self_eq_false,fi,if_false];refine QU ?_;have K:(vs.toArray.zip vs.toArray).map (·.2)=vs.toArray:=by
   apply Array.toList_inj.mp;simp[Array.toList_zip,List.map_snd_zip]
  show P (.done (.ret .none)) {s with heap:=sortedHeap s.heap a vs ((vs.toArray.zip vs.toArray).map (·.2))};rw[K];exact h
 ·rw[if_neg g,if_neg g];have y:2<=vs.length:=by lia
  refine QT (wpAny_mono (G y _ f (λc j=>c=κ/\j={s with heap:='c'}) ⟨rfl,rfl⟩) (λc s0 L=>?_) λ_ _ x=>x.elim);obtain⟨rfl,rfl⟩:=L;have t:wpAny 'f' A (sortRuns'.run (SortSt.mk' c (vs.toArray.zip vs.toArray) #[] 7 none)) (λr j=>arrOf r.2=(List.toArray (List.range vs.length)).map (kas_item (vs.toArray.zip vs.toArray))/\failedOf r.2=none/\j={s with heap:='c'}) E {s with heap:='c'}:=by
   have N:SortSt.mk' c (vs.toArray.zip vs.toArray) #[] 7 none=kas_st c (vs.toArray.zip vs.toArray) (List.range vs.length).toArray:=by
    unfold kas_st;have:=kas_range (vs.toArray.zip vs.toArray);rw[show(vs.toArray.zip vs.toArray).size=vs.length by simp]at this;rw[this]
   rw[N];refine FX (Q:=λ_ d j=>arrOf d=(List.toArray (List.range vs.length)).map (kas_item (vs.toArray.zip vs.toArray))/\failedOf d=none/\j={s with heap:='c'}) y (λk R T C V=>?_) λd z g=>⟨z,g,rfl⟩
   rw[<- kat_ask_eq (ks:=vs) (vs:=vs) rfl];exact H _ f k R T C V
  refine QT (wpAny_mono t ?_ λ_ _ e=>e);rintro⟨⟨⟩,d⟩ j ⟨har,hf,rfl⟩;dsimp only;have D:(arrOf d).map (·.2)=vs.toArray:=by
   rw[kat_snds rfl har];congr 1;refine ga (by simp) λi z g=>?_;simp[Qb,Qa g]
  refine QT (seqEpoch_at m rfl ?_);refine QT (listUpdate_at m rfl ?_ (hsz2:=by rw[D,q,QM];lia));rw[hf,D];simp only[bne_self_eq_false,fi,if_false];exact QU h
theorem vN{vs:cq}{κ:SortKind}(i:s.heap.IsList l vs.toArray)(j:vs.length<=100000)
  (n:2<=vs.length->∀M:Heap,(∀b o,'l'->M.get? b=some o)->∀Q:SortKind->Shared->Prop,Q κ {s with heap:=M}->wpAny 'f' A.in1.in1 (keyKind' vs.toArray) Q (λ_ _=>False) {s with heap:=M})
  (p:∀M:Heap,(∀b o,'l'->M.get? b=some o)->∀k,1<=k->k<vs.length->∀C:Bool->Shared->Prop,C false {s with heap:=M}->wpAny 'f' A.in1.in1 (keyLt' κ (vs.getD k Value.none) (vs.getD (k-1) Value.none)) C (λ_ _=>False) {s with heap:=M})
  (h:Q (.ref ('i')) {s with heap:=sortedAll s.heap vs vs.toArray}):
  wpAny 'f' A (call (.builtin "sorted") [.ref l]) Q E s:=by
 refine Calls.call_function_entry kind_sorted plain_sorted entry_sorted (args_sorted1 _) ?_;unfold Builtin.«sorted»;refine QT (m:=checkCount "sorted" 1 1 _) (QU ?_);refine QT (collect_list i ?_);refine QT (wpAny_newList ?_);have c:((s.heap.push (seqObj "list" #[] 0)).update s.heap.objs.size (Obj.mapSeq (· ++vs.toArray))).objs.size='i':=by
  rw[Heap.size_update,size_push']
 have g:(((s.heap.push (seqObj "list" #[] 0)).update s.heap.objs.size (Obj.mapSeq (· ++vs.toArray))).push (seqObj "list" vs.toArray 0)).get? ('i')=some (seqObj "list" vs.toArray 0):=by
  rw[<- c];exact Qd _ rfl
 have a:∀b o,'l'->b≠'i'/\(((s.heap.push (seqObj "list" #[] 0)).update s.heap.objs.size (Obj.mapSeq (· ++vs.toArray))).push (seqObj "list" vs.toArray 0)).get? b=some o:=λb o q=>by
  have d:b<s.heap.objs.size:=QA q;refine⟨yU (fy d),?_⟩;rw[Heap.get?_push_ne _ _ _ (by rw[c];exact yU (fy d)),Heap.get?_update_ne _ _ _ _ (yU d),Heap.get?_push_ne _ _ _ (yU d)];exact q
 show wpAny _ _ _ _ _ {s with heap:=((s.heap.push (seqObj "list" #[] 0)).update s.heap.objs.size (Obj.mapSeq (· ++vs.toArray))).push (seqObj "list" vs.toArray 0)};rw[c];refine QT (wpAny_holding (wpAny_call_entry slot_list_sort ⟨_,g,rfl⟩ entry_list_sort (oT (κ:=κ) g j (λr M f Q t=>?_) (λM f k u x C y=>?_) ⟨_,rfl,?_⟩) (args_list_sort _)))
 ·exact n r M (λb o e=>f b o (a b o e).1 (a b o e).2) Q t
 ·exact p M (λb o e=>f b o (a b o e).1 (a b o e).2) k u x C y
 ·exact QU ⟨_,rfl,h⟩
abbrev D3:=List aU
structure FG(H:Hp)(O:bY)(F:List D3):Prop where
 len:O.length=F.length
 at_:∀i(h:i<O.length)(M:i<F.length),∃c b J rest,O[i]=.ref c/\H c=some (.tup (.ref b::rest))/\H b=some (.tup J)/\SV H J F[i]
def wy:bY->Hp->VK->Prop:=λxs H Q=>∃l O F,xs=[.ref l]/\H l=some (.lst O)/\O.length<=100000/\FG H O F/\(∀i(h:i+1<F.length),ou F[i] F[i+1])/\∀L,H L=none->Q (.ref L) (upd H L (.lst O))
theorem jN(hu:X.A.units+20<cLine):n_ X (.builtin "sorted") wy:=by
 intro j s D H x qj Q I r h;obtain⟨l,O,F,rfl,hl,Ml,fl,Dg,q⟩:=h;obtain⟨u,rfl,ru⟩:=r.one;cases ru;obtain⟨its,rv,pl,hz⟩:=I.list (ai.of hl);have fh:=rv.length;have L:=fl.len;have g:∀i(E:i<its.length)(y:i<F.length),∃c b d o n t,its[i]=.ref c/\s.heap.get? c=some o/\o.cls=.type "tuple"/\o.data=.seq (Value.ref b::t).toArray n/\H b=some (.tup d)/\SV H d F[i]:=λi E y=>by
  obtain⟨c,b,d,rest,e1,e2,e3,e4⟩:=fl.at_ i (by lia) y
  obtain⟨w1,f1,q1⟩:=rv.get (Qa (show i<O.length by lia));rw[e1]at q1;cases q1;rw[Qa E]at f1;obtain⟨i2,r2,p2,_⟩:=I.tuple (ak.of e2);cases r2 with
  |cons ra rb=>
   cases ra;obtain⟨o,g1,g2,n,g3⟩:=p2;exact⟨c,b,d,o,n,_,QE f1,g1,g2,g3,e3,e4⟩
 refine vN (κ:=tuples' false) pl.isList (by lia) (λy m p Q' N=>?_) (λm p k k1 V C hC=>?_) ?_
 ·have w:Inv X j D H {s with heap:=m}:=I.kept (t':=s.toks) p;obtain⟨fs,Mn⟩:=pP (R:=λv f=>(∃a o x n,v=Value.ref a/\m.get? a=some o/\o.cls=Value.type "tuple"/\o.data=.seq x n/\x[0]? =some f)/\∃b d,f=Value.ref b/\H b=some (.tup d)) its λv hv=>by
   obtain⟨i,hi,rfl⟩:=Qi hv;obtain⟨c,b,d,o,n,t,g0,g1,g2,g3,g4,g5⟩:=g i hi (by lia);exact⟨.ref b,⟨c,o,_,n,g0,p _ _ g1,g2,g3,by simp⟩,b,d,rfl,g4⟩
  have ab:=Paired.length Mn;refine kat_kind (s:={s with heap:=m}) (T:=.type "tuple") (vE (w9 (λ_ _ h=>h.1) Mn)) (by lia) (λv hv=>?_) (by decide) N;obtain⟨b,d,rfl,hb⟩:=qO (P:=λf=>∃b d,f=Value.ref b/\H b=some (.tup d)) (λ_ _ h=>h.2) Mn v hv;obtain⟨i2,r2,⟨o,g1,g2,_⟩,_⟩:=w.tuple (ak.of hb);exact λA' af E' s' k' q'=>wpAny_typeOf ⟨o,k' _ _ g1,g2⟩ q'
 ·have w:Inv X j D H {s with heap:=m}:=I.kept (t':=s.toks) p;obtain⟨c,b,d,o,n,t,g0,g1,g2,g3,g4,g5⟩:=g k (by lia) (by lia);obtain⟨c',b',Lo,o',n',rr',g0',zb,CA,g3',Sf,Sg⟩:=g (k-1) (by lia) (by lia);have ek:its.getD k Value.none=.ref c:=by rw[Qb,Qa V,g0];rfl
  have z:its.getD (k-1) Value.none=.ref c':=by rw[Qb,Qa (by lia),g0'];rfl
  rw[ek,z];have G:ou (F[k-1]'(by lia)) (F[k]'(by lia)):=by
   have:=Dg (k-1) (by lia);have e:k-1+1=k:=by lia
   simp only[e]at this;exact this
  refine kat_lt (s:={s with heap:=m}) (p _ _ g1) g3 (p _ _ zb) g3' ?_;have K:X.A.in1.in1.units+4<cLine:=by rw[gZ,gZ];lia
  show KatLex _ _ _ _ _ _ ((Value.ref b,Value.ref b')::t.zip rr') 0 _;refine kat_cons (Fn w Sf g4 Sg g5 G K _ _ _ _ (kat_no (kat_one _ _ ?_)));exact xb w Sf g4 Sg g5 G K _ _ _ _ hC
 ·obtain⟨e,he⟩:=sortedAll_at s.heap its its.toArray;have hf:H ('i')=none:=I.hok.fresh (lb _);refine⟨.ref ('i'),_,I.laid (t':=s.toks) (a:='i') (o:=.lst O) (λb o eo=>sortedAll_old eo) (lb _) ?_,rfl,q _ hf⟩;exact⟨by lia,its,e,rv,he⟩
end L2
namespace L2
open PySem PySem.Spec PyProof.Rows
theorem zr(b:Scope)(a:aU)(h:sc.kind=.function/\(∀y∈sc.names,y.2≠.cell)/\(∀y∈sc.names,y.2=.local->sc.names.lookup y.1=some .local)/\(∀y∈sc.names,y.2=.free->(b.names.lookup y.1=some .cell\/b.names.lookup y.1=some .free))/\(∀j∈idx,sc.names.lookup (a.getD j "")=some .free/\j<a.length)/\N'=own++idx.map (λj=>a.getD j "")):q_ b a sc own idx N':=⟨h.1,h.2.1,h.2.2.1,h.2.2.2.1,h.2.2.2.2.1,h.2.2.2.2.2⟩
theorem bN{P:aU}(h:sc.kind=.function/\sc.isCoroutine=false/\sc.isGenerator=false/\N.Nodup/\N.take P.length=P/\(∀x∈P,sc.names.lookup x=some .local\/sc.names.lookup x=some .cell)/\∀y∈sc.names,y.2≠.free):fj N P sc:=⟨h.1,h.2.1,h.2.2.1,h.2.2.2.1,h.2.2.2.2.1,h.2.2.2.2.2.1,h.2.2.2.2.2.2⟩
section
variable{a b o i0 iter elt:Expr}{tb td ty:TE}{t:TA}{pos p:Pos}{Ab:Scope}{P:aU}{tt:TC}
theorem aQ(K:Q0)(c:SE X a ta)(d:SE X b tb)(hs:KH b:=by exact λ_ _=>rfl)(h:X.K=K:=by rfl):SE X (.Subscript a b pos) (jy (AQ K) ta tb):=Zr (Zd K h) c d hs
theorem bK(a:X.A.units+1<cLine)(b:SE X o td)(c:SE X i0 ty)(hs:F6 i0:=by exact λ_ _=>rfl):SE X (.Subscript o i0 pos) (KQ td ty):=Zq a b c hs
theorem bL(i:Nat)(a:X.N.Nodup)(b:X.N[i]? =some x:=by rfl)(c:Loc X.env.scope x:=by first|exact Or.inl rfl|exact Or.inr rfl)(d:ib X x:=by first|exact .inl rfl|exact .inr rfl|assumption):SG X (.Name x pos) (jj i):=PM a b c d
theorem bD(i:Nat)(a:X.N.Nodup:=by first|(dsimp only[cy];decide+kernel)|(dsimp only[cy];assumption))(b:X.N[i]? =some x:=by rfl)(c:Loc X.env.scope x:=by first|exact Or.inl rfl|exact Or.inr rfl)(d:ib X x:=by first|exact .inl rfl|exact .inr rfl|assumption):SG X (.Name x pos) (jj i):=PM a b c d
theorem aJ(i:Nat)(a:X.N.Nodup)(b:SE X e te)(c:X.N[i]? =some x:=by rfl)(d:Loc X.env.scope x:=by first|exact Or.inl rfl|exact Or.inr rfl)(hs:swapsWith e (some (.Name x pos')) pos.line X.env=pure false:=by rfl)(f:ib X x:=by first|exact .inl rfl|exact .inr rfl|assumption):
  SS X (.Assign [.Name x pos'] e pos) (zu te (jj i)):=Zu a c d b hs f
theorem aT{k:Nat}(F:bq X.prog X.w X.K X.mg X.base j x ps sp)(a:f_ k X.A)(b:SA X (e::es) t)(c:j<=k:=by first|decide|lia)(d:Gl X x:=by rfl)(f:db x:=by decide)
  (g:eH X e es:=by rfl) (h:eJ X pos es:=by rfl):
  SE X (.Call (.Name x p) (e::es) [] pos) (En sp [] E0 t):=Zs F (a.mono c) b d f g h
theorem bJ{id:String}{r:bY->Hp->VK->Prop}(a:n_ X (.builtin id) r)(b:X.mg x=none)(hv:bootBuiltins x=some (.builtin id))(c:SA X (e::es) t)(d:Gl X x:=by rfl)(f:x≠"__name__":=by decide)(g:db x:=by decide)
  (h:eH X e es:=by rfl) (i:eJ X pos es:=by rfl):SE X (.Call (.Name x p) (e::es) [] pos) (yt r t):=Zt a d b hv c f g h i
theorem fQ{r:bY->Hp->VK->Prop}(a:n_ X (.type T) r)(b:X.mg x=none)(hv:bootBuiltins x=some (.type T))(c:SA X (e::es) t)(d:Gl X x:=by rfl)(f:x≠"__name__":=by decide)(g:db x:=by decide)
  (h:eH X e es:=by rfl) (i:eJ X pos es:=by rfl):SE X (.Call (.Name x p) (e::es) [] pos) (yt r t):=Zy a d b hv c f g h i
theorem Hk(c:di X (compareOp op) r)(d:SE X a ta)(e:SE X b tb)(f:behindInMarks op b=false:=by first|exact O4 _|rfl):SE X (.Compare a [op] [b] pos) (jy r ta tb):=Zj c d e f
theorem aP(c:di X (compareOp op) r)(d:SE X a ta)(e:SE X b tb)(f:behindInMarks op b=false:=by first|exact O4 _|rfl):ST X (.Compare a [op] [b] pos) (Ek (jy r ta tb)):=Zk c d e f
theorem cL{a:Scope}{b:aU}(S:fj N P Ab)(h:sc.kind=.function/\(∀y∈sc.names,y.2≠.cell)/\(∀y∈sc.names,y.2=.local->sc.names.lookup y.1=some .local)/\(∀y∈sc.names,y.2=.free->(Ab.names.lookup y.1=some .cell\/Ab.names.lookup y.1=some .free))/\(∀j∈idx,sc.names.lookup (N.getD j "")=some .free/\j<N.length)/\N'=own++idx.map (λj=>N.getD j ""):=by decide+kernel)(c:a=Ab:=by rfl)(d:b=N:=by rfl):q_ a b sc own idx N':=by subst c d;exact zr a b h
theorem gW(own:aU)(idx:cm)(N':aU)(S:'m')(d:SI X tg iter wi)
  (e:∀a C b H0 fp c,SG (cy X N' sc a C b H0 fp c) tg g) (f:∀a C b H0 fp c,SE (cy X N' sc a C b H0 fp c) elt te) (h:X.calm=true:=by rfl)
  (hs:∀x,foldedSetIterable iter X.env x=pure x:=by intro _;rfl):SE X (.ListComp elt [⟨tg,iter,[],0⟩] sc pos) (Bk own idx wi g Ce te):=PP S h d e (λ_ _ _ _ _ _=>gY) f hs
end
abbrev aa(a:Addr):cp:=some (.ref a)
abbrev iq(n:Int):cp:=some (.int n)
abbrev cg(z:Str):cp:=some (.str z)
abbrev be(xs:bY):Option HO:=some (.lst xs)
abbrev ff(xs:bY):Option HO:=some (.tup xs)
abbrev eu(kvs:ca):Option HO:=some (.dK kvs)
theorem o_:0<=sizeLine:=by decide
theorem BE:1<=sizeLine:=by decide
theorem jd:2<=sizeLine:=by decide
theorem Jc:3<=sizeLine:=by decide
theorem Ap:4<=sizeLine:=by decide
theorem cX{xs:bY}{v:V}(h:i<xs.length)(e:xs[i]=v):xs.getD i .ao=v:=by rw[Qb,Qa h,e];rfl
theorem mO{l:List α}(h:i<l.length):l.take (i+1)=l.take i++[l[i]]:=by rw[Qs,Qa h];rfl
theorem d5{k:Nat}(r:f_ k A):A.units+1<cLine/\A.units<cLine/\sizeLine=16777216:=⟨dD r,Qy (dD r),QM⟩
theorem Si(c:Nat)(h:97<=c/\c<123):EA.cps.toList[c-97]? =some c:=by
 have:∀d:Fin 26,EA.cps.toList[d.val]? =some (97+d.val):=by decide+kernel
 have:=this ⟨c-97,by lia⟩;rw[this];congr 1;simp;lia
section
def Mr(a:Bool)(c l:Addr)(k:Nat)(h:Heap):Prop:=if a then IsTupIter h c l k else h.IsListIter c l k
theorem Mr.at_{a:Bool}{c:Addr}{k:Nat}(x:Mr a c l k h)(q:∀o,h.get? c=some o->M.get? c=some o):Mr a c l k M:=by
 cases a
 ·obtain⟨o,ho,r⟩:=x;exact⟨o,q o ho,r⟩
 ·obtain⟨o,ho,r⟩:=x;exact⟨o,q o ho,r⟩
variable{t1 t2:Bool}{z TI TO c1 c2 l1 l2:Addr}{k1 k2:Nat}{xs:Array Value}{x y a b:Value}
end
end L2
namespace L2
open PySem PySem.Spec PyProof.Rows HT
end L2
namespace L2
open PySem PySem.Spec PyProof.Rows
open AutoSeq1 (wpAny_loadPart')
def Dt.is1(z:Str):Dt->Bool
 | .tup [.str y]=>y==z
 |_=>false
def Ms(h:Dt):Dt:=if h.is1 "hole" then .tup [.str "all"]else h
def Jd:Dt->Dt| .tup [a,h]=>.tup [a,Ms h]|d=>d
theorem DD.Mt{x y:V}{c d:Dt}(e:H b=some (.tup [x,y]))(f:DD H x c)(g:DD H y d):DD H (.ref b) (.tup [c,d]):=.tup e rfl (by simp) λi a b=>by
 match i,a with
 |0,_=>exact f
 |1,_=>exact g
theorem DD.Mu{x:V}{c:Dt}(e:H b=some (.tup [x]))(d:DD H x c):DD H (.ref b) (.tup [c]):=.tup e rfl (by simp) λi a b=>by
 match i,a with
 |0,_=>exact d
def Sj(d e:Hp)(ws:bY)(ds:List Dt):Prop:=∀j(h:j<ws.length)(M:j<ds.length),∃c f hv dx a,ws[j]=.ref c/\e c=some (.tup [f,hv])/\ds[j]=.tup [dx,a]/\DD d f dx/\(DD d hv (Ms a)\/∃b,hv=.ref b/\e b=some (.tup [.str "all"])/\Ms a=.tup [.str "all"])
theorem Sj.dd{e a:Hp}{ws:bY}{ds:List Dt}(f:Sj e a ws ds)(s:ae e a)(j:Nat)(h:j<ws.length)(M:j<ds.length):DD a ws[j] (Jd ds[j]):=by
 obtain⟨c,x1,hv,dx,dy,q1,q2,q3,q4,d⟩:=f j h M;rw[q1,q3];refine DD.Mt q2 (q4.same s) ?_;rcases d with d|⟨b,rfl,g,i⟩
 ·exact d.same s
 ·rw[i];exact DD.Mu g (.str (by decide))
def Sk(H U:Hp)(v:V)(d:Dt):Prop:=DD H v (Jd d)\/∃c a b dx,v=.ref c/\U c=some (.tup [a,.ref b])/\U b=some (.tup [.str "all"])/\DD H a dx/\Jd d=.tup [dx,.tup [.str "all"]]
theorem Sk.dd{v:V}(h:Sk H U v d)(s:ae H U):DD U v (Jd d):=by
 rcases h with h|⟨c,i,b,j,rfl,a,e,f,g⟩
 ·exact h.same s
 ·rw[g];exact DD.Mt a (f.same s) (DD.Mu e (.str (by decide)))
def Hd.BF:Hd->Bool| .one s=>s=="hole" |_=>false
def Hd.isW:Hd->Bool| .way _ _=>true|_=>false
def Hd.Je(h:Hd):Hd:=if h.BF then .one "all" else h
def Sl(r:aj):aj:=(r.1,r.2.Je)
structure TH(H:Hp)(a:Addr)(xs:bY)(F:List aj)(ns ws:aU):Prop where
 at_:H a=some (.tup xs)
 rv:RV H xs F
 nm:(F.map (·.1)).Perm ns
 nd:ns.Nodup
 ok:QY ns (F.map Sl)
 wd:∀n∈ns,Wd n
 ah:∀r∈F,Dj ns r.1 r.2.nx
 ww:∀r∈F,∀z∈r.2.Ag,z∈ws
 pos:1<=ns.length
 few:ns.length<=10
 nw:∀r∈F,r.2.isW=false
 hl:F.countP (λr=>r.2.BF)<=6
section
variable{xs:bY}{F:List aj}
theorem TH.rl(h:TH H a xs F ns ws):F.length=ns.length:=by have:=h.nm.length_eq;simpa using this
theorem HV.jl{v:V}{h:Hd}(q:HV H v h)(ok:h.Je.ok ns):DD H v h.dt:=by
 cases e:h.BF with
 |false=>
  have:h.Je=h:=by unfold Hd.Je;rw[e];rfl
  rw[this]at ok;exact(q.tx ok).dd
 |true=>
  cases q with
  | @one b s e1=>
   have:s="hole":=eq_of_beq e;subst this;exact DD.Mu e1 (.str (by decide))
  |_=>cases e
theorem TH.dd(h:TH H a xs F ns ws):DD H (.ref a) (.tup (F.map Z3)):=by
 have j:=h.rl;have few:=h.few;have e:=h.rv.len;refine .tup h.at_ (by simp[e]) (by lia) λi f g=>?_
 have d:i<F.length:=by simpa using g
 obtain⟨b,v,q1,q2,q3⟩:=h.rv.at_ i f d
 obtain⟨m1,m2⟩:=h.ok (Sl F[i]) (Z2.mpr ⟨_,Qj d,rfl⟩);have c:ce F[i].1=true:=m1;rw[q1];simp only[Qr];exact DD.Mt q2 (.str (by have:=gQ c;lia)) (q3.jl m2)
end
end L2
namespace L2
open PySem PySem.Spec PyProof.Rows
open AutoSeq1 (wpAny_loadPart')
mutual
def Dt.oc:Dt->Nat
 | .str _=>0
 | .ic=>1
 | .tup ds=>Sn ds
def Sn:List Dt->Nat
 | []=>0
 |d::r=>d.oc+Sn r
end
mutual
def Dt.dep:Dt->Nat
 | .str _=>0
 | .ic=>0
 | .tup ds=>So ds+1
def So:List Dt->Nat
 | []=>0
 |d::r=>max d.dep (So r)
end
end L2
namespace L2
open PySem PySem.Spec PyProof.Rows
mutual
def Dt.cn:Dt->Nat
 | .str _=>1
 | .ic=>1
 | .tup ds=>Sq ds+1
def Sq:List Dt->Nat
 | []=>0
 |d::r=>d.cn+Sq r
end
structure DX(P:Addr->Prop)(H:Hp)(m:Bool)(v:V)(d:Dt)(k c:Nat):Prop where
 ex:∃p,DA P H m v p d/\p.depth<=k/\p.shown.length+2<=220*c/\p.showable=true/\d.cn<=c/\d.dep<=k
section
variable{P:Addr->Prop}{m:Bool}{v:V}{k k' c c':Nat}
theorem DX.dd(h:DX P H m v d k c):DD H v d:=let ⟨p,Y,_⟩:=h.ex;Y.dd
end
structure PX(H:Hp)(v:V)(d:Dt)(k c:Nat):Prop where
 ex:∃p,TX H v d/\Bo H v p/\p.depth<=k/\p.shown.length+2<=220*c/\p.showable=true/\d.cn<=c/\d.dep<=k/\d.oc=0
section
variable{v:V}{k k' c c':Nat}
theorem PX.dd(h:PX H v d k c):DD H v d:=let ⟨_,Y,_⟩:=h.ex;Y.dd
inductive GS (H:Hp) (k:Nat):bY->List Dt->Nat->Prop
 |nil:GS H k [] [] 0
 |cons {v:V} {d:Dt} {c:Nat} {vs:bY} {ds:List Dt} {cs:Nat}:PX H v d k c->GS H k vs ds cs->GS H k (v::vs) (d::ds) (c+cs)
theorem GS.len{vs:bY}{ds:List Dt}{a:Nat}(h:GS H k vs ds a):vs.length=ds.length:=by
 induction h with
 |nil=>rfl
 |cons _ _ ih=>simp[ih]
end
theorem tR{k:Nat}(a:f_ k A):A.units+100<cLine:=by have:=a.un;lia
section
variable{KT:Type}[DecidableEq KT]{knd:KeyKind P w KT}{d:Addr}{kvs:List (KT×Value)}
theorem tm{k:KT}{v:Value}(a:s.heap.IsKeyIter it d i kvs.length ep)(g:s.heap.DictAt knd d kvs ep)(b:kvs[i]? =some (k,v))
  (h:∀u M,knd.is k u=true->M.IsKeyIter it d (i+1) kvs.length ep->Heap.SameBut it s.heap M->Q u {s with heap:=M}):wpAny (model P w) A (Builtin.SmallTypes.nextOf (.ref it)) Q E s:=by
 obtain⟨o,e1,e2,e3⟩:=id a;obtain⟨q,es,f1,f2,f3,f4,f5,f6⟩:=id g;have j:es.size=kvs.length:=by rw[<- f5.length];simp
 have l:=(yE.mp b).1;have c:i<es.size:=by lia
 unfold Builtin.SmallTypes.nextOf;refine QT (wpAny_callSpecial?_slot (name:=Str.ofString "__next__") a.typeIs F.slot_dict_keyiterator_next (wpAny_call_entry F.slot_dict_keyiterator_next a.typeIs F.entry_dict_keyiterator_next ?_ (F.args_dict_keyiterator_next_1 _)));refine QT (QU (QT (QT (QT (wpAny_typeNameOfWhole_keyiter a.typeIs (QU (QT (wpAny_fieldsOf e1 e3 ?_))))))));simp only[(by decide:Builtin.Dict_items.ownsTuple "dict_keyiterator"=false),fi,if_false];refine wpAny_ite_false (by rfl) (QT (QU (QT (wpAny_dictEntries f1 f3 (wpAny_ite_false (by rw[j];simp) (QT (QU (QT (wpAny_dictEpoch f1 f3 (wpAny_ite_false (by simp) (QU ?_)))))))))));dsimp only;rw[show(if(i:Int)<0 then none else es[(i:Int).toNat]?)=some es[i]by rw[if_neg (by lia)];simp[c]];dsimp only;have f:(s.heap.update it (Obj.mapFields (·.setIfInBounds 1 (rawInt ((i:Int)+1))))).IsKeyIter it d (i+1) kvs.length ep:=⟨_,ll _ e1 (Obj.isFreed_of_fields (Obj.data_mapFields e3 _)),(Obj.cls_mapFields ..).trans e2,by rw[Obj.data_mapFields e3];simp[rawInt]⟩
 refine QT (QT (wpAny_typeNameOfWhole_keyiter a.typeIs (QU (QT (wpAny_isOneOf_keyiter a.typeIs (QT (wpAny_setField e1 e3 (by simp[Builtin.Dict_items.ownsTuple]) (QT (wpAny_holding (QT (wpAny_isOneOf_keyiter (s:={s with heap:=s.heap.update it (Obj.mapFields (·.setIfInBounds 1 (rawInt ((i:Int)+1))))}) f.typeIs ?_)))))))))));exact QU (QU ⟨_,rfl,QU (h _ _ (f5.get? (e:=es[i]) (by simp[c]) b).1 f (ke ..))⟩)
theorem Cs(f:A.handled=none)(b:s.heap.IsKeyIter it d kvs.length kvs.length ep)(g:s.heap.DictAt knd d kvs ep)
  (h:∀M e,Heap.ExtBut it s.heap M->(∃o,M.get? e=some o/\o.cls=.type "StopIteration")->E (.ref e) {s with heap:=M}):wpAny (model P w) A (Builtin.SmallTypes.nextOf (.ref it)) Q E s:=by
 obtain⟨o,e1,e2,e3⟩:=id b;obtain⟨q,es,f1,f2,f3,f4,f5,f6⟩:=id g;have c:es.size=kvs.length:=by rw[<- f5.length];simp
 unfold Builtin.SmallTypes.nextOf;refine QT (wpAny_callSpecial?_slot (name:=Str.ofString "__next__") b.typeIs F.slot_dict_keyiterator_next (wpAny_call_entry F.slot_dict_keyiterator_next b.typeIs F.entry_dict_keyiterator_next ?_ (F.args_dict_keyiterator_next_1 _)));refine QT (QU (QT (QT (QT (wpAny_typeNameOfWhole_keyiter b.typeIs (QU (QT (wpAny_fieldsOf e1 e3 ?_))))))));simp only[(by decide:Builtin.Dict_items.ownsTuple "dict_keyiterator"=false),fi,if_false];refine wpAny_ite_false (by rfl) (QT (QU (QT (wpAny_dictEntries f1 f3 (wpAny_ite_false (by rw[c];simp) (QT (QU (QT (wpAny_dictEpoch f1 f3 (wpAny_ite_false (by simp) (QU ?_)))))))))));dsimp only;rw[show(if(kvs.length:Int)<0 then none else es[(kvs.length:Int).toNat]?)=none by rw[if_neg (by lia)];simp[c]];dsimp only;refine QT (QT (wpAny_typeNameOfWhole_keyiter b.typeIs (QU (QT (wpAny_setField e1 e3 (by simp[Builtin.Dict_items.ownsTuple]) ?_)))));simp only[newExc,newTuple];refine QT (QT (wpAny_newObj_type (QT (m:=firstArgMember _ _) (wpAny_of_eq (a:=Value.none) (by first|rfl|(simp only[firstArgMember];rfl)) (wpAny_newObj_type ?_ (by size_fits)))) (by size_fits)));simp only[raiseNew];refine QT (wpAny_handled ?_);rw[show A.in1.handled=none from f];exact QT (QU (wpAny_throw (h _ _ (((ke ..).extBut.push _).push _) ⟨_,Qd _ rfl,rfl⟩)))
theorem nY(c:A.handled=none)(f:d≠it):Draws P w A it [it,d] kvs.length (λi v=>∃k x,kvs[i]? =some (k,x)/\knd.is k v=true) (λi h=>h.IsKeyIter it d i kvs.length ep/\h.DictAt knd d kvs ep)where
 live:=λ_ _ st=>let ⟨o,ho,_⟩:=st.1;⟨o,ho⟩
 frame:=λ_ _ _ st k=>⟨st.1.at λo e=>k it (by simp) o e,let ⟨o,es,e,r⟩:=st.2;⟨o,es,k d (by simp) o e,r⟩⟩
 item:=λi s Q E a st g=>tm st.1 st.2 (Qa a) λu j l m b=>g u j s.toks ⟨_,_,Qa a,l⟩ ⟨m,st.2.extBut b.extBut f⟩ b
 done:=λs Q E st n=>Cs c st.1 st.2 n
end
def Mv(a:Addr)(o:Obj)(kvs:ca):It:=⟨λi H=>H a=some 'h'/\i<kvs.length,λi H x U=>EB (.int i) (jn kvs i) H x U,λi H=>H a=some 'h'/\kvs.length=i⟩
theorem B1(kvs:ca):ED (Mv a o kvs) (λH=>H a=some 'h') kvs.length (λi=>.int i) (jn kvs):=λH b=>⟨λi c=>⟨⟨b,c⟩,λx d h=>h⟩,b,rfl⟩
theorem BM{K:Q0}{k:Nat}{r:Pos}{e:Addr}{kvs:ca}(N:∃es,o.data=.dict es ep)(m:e≠it)(t:e≠a)(Q:a≠it):
  dk P w K (.Tuple A8 k r) (Mv a o kvs) [e,it] e (λi h=>(∃g,IsEnum h e it i g)/\h.IsKeyIter it a i kvs.length ep)where
 mem:=by simp
 obj:=λi h st b f=>by
  obtain⟨⟨g,l⟩,q,hq,c,d⟩:=st;simp only[Qp,List.not_mem_nil,or_false]at f;rcases f with rfl|rfl
  ·exact⟨_,l,λv z=>by have z':Data.fields _=Data.cell v:=z;cases z'⟩
  ·exact⟨q,hq,λv z=>by rw[d]at z;cases z⟩
 keep:=λi h p st k=>⟨st.1.imp λg l=>k e (by simp) _ l,st.2.at λo x=>k it (by simp) o x⟩
 item:=by
  intro X y A C D i j s R H E I n st G;subst y A C;obtain⟨⟨g,l⟩,hit⟩:=st;obtain⟨hq,hi⟩:=G;obtain⟨e0,z,hd,vs,rel,ob,es,p_,Y,h2,h3,h4⟩:=(show br X.prog X.w H s.heap a 'h'from I.hok a _ hq)
  obtain⟨es',fu⟩:=N;rw[e0]at Y;cases Y;rw[fu]at h3;injection h3 with iu iw
  subst iu iw;have T:=rel.len;refine wpAny_pyNext_enum_itemD (nY (knd:=cz X.prog X.w) (kvs:=vs) (ep:=ep) (I.ok.hd D) Q) l ⟨by rw[<- T];exact hit,o,es',e0,h2,fu,h4⟩ (by lia) m (by simp[m,t]) λu p L hu ho GK hT ab hk=>?_;obtain⟨k',x',Ja,hk2⟩:=hu;obtain⟨q,mz,qh⟩:=Qu rel (Qa hi);rw[Ja]at mz;cases mz;have ru:RelV (jn kvs i) u:=by
   unfold jn;rw[Qa hi];show RelV (kV kvs[i].1) u;rw[<- qh];exact oG hk2
  have I1:Inv X j R (upd H s.heap.objs.size (.tup [.int i,jn kvs i])) {s with heap:=p,toks:=L+1}:=I.Ir n (λb o f e=>hk b o (λz=>f (by simp[z])) (λz=>f (by simp[z])) e) (Qz _) (jR ⟨_,rfl⟩ ru hT);refine⟨_,rfl,wpAny_letOwnedTupleGo_enum (s:={s with heap:=p,toks:=L+1}) ho λDc Gu V=>?_⟩;have av:∀b∈[e,it],b≠s.heap.objs.size:=λb f z=>by
   simp only[Qp,List.not_mem_nil,or_false]at f;rcases f with rfl|rfl
   ·exact yU (QA l) z
   ·obtain⟨_,q,_⟩:=hit;exact yU (QA q) z
  have Bm:∀b∈[e,it],wg X j (upd H s.heap.objs.size (.tup [.int i,jn kvs i])) b:=λb f=>⟨by rw[aB (av b f)];exact(n b f).1,(n b f).2⟩
  obtain⟨f0,f1,f2,f3,f4,f5⟩:=Bm e (by simp);exact⟨.ref s.heap.objs.size,_,I1.turned (t':=L+1) (λb o f q=>(V.2 b f).trans q) f0 f1 f3 f4 f5,rfl,⟨_,rfl,I.hok.fresh (Qz _),rfl⟩,⟨⟨u,by simpa using Gu⟩,by rw[T];exact GK.1.at λo q=>(V.2 it m.symm).trans q⟩,λb f=>(Bm b f).1⟩
 done:=by
  intro X y A C D i j s R H E I n st G;subst y A C;obtain⟨⟨g,l⟩,hit⟩:=st;obtain⟨hq,rfl⟩:=G;obtain⟨e0,z,hd,vs,rel,ob,es,p_,Y,h2,h3,h4⟩:=(show br X.prog X.w H s.heap a 'h'from I.hok a _ hq)
  obtain⟨es',fu⟩:=N;rw[e0]at Y;cases Y;rw[fu]at h3;injection h3 with iu iw
  subst iu iw;exact wpAny_pyNext_enum_endD (nY (knd:=cz X.prog X.w) (kvs:=vs) (ep:=ep) (I.ok.hd D) Q) l ⟨by rw[<- rel.len];exact hit,o,es',e0,h2,fu,h4⟩ λp eb=>⟨rfl,I.PY (t':=s.toks) n λb o f q=>eb b o (λz=>f (by simp[z])) q⟩
 self:=λ_ _ _ _ _ st h=>let ⟨⟨_,l⟩,_⟩:=st;wpAny_pyIter_enum l h
theorem yP{knd:KeyKind P w Key}{d:Addr}{kvs:List (Key×Value)}(i:(d==sysModules)=false)(a:s.heap.DictAt knd d kvs ep)
  (h:∀M,IsEnum M ('i') s.heap.objs.size 0 .none->M.IsKeyIter s.heap.objs.size d 0 kvs.length ep->(∀b o,'l'->M.get? b=some o)->Q (.ref ('i')) {s with heap:=M}):
  wpAny (model P w) A (call (.type "enumerate") [.ref d]) Q E s:=by
 refine callType_newIn F.called_enumerate (by decide) (F.typeCall_enumerate_1 _) (F.newCall_enumerate_1 _) (λf=>F.args_object_init_2 f _) F.entry_enumerate_new
  (S:=λ_ R s=>s.heap.DictAt knd d kvs ep/\∀M,IsEnum M ('i') s.heap.objs.size 0 .none->M.IsKeyIter s.heap.objs.size d 0 kvs.length ep->(∀b o,'l'->M.get? b=some o)->R (.ok (.ret (.ref ('i')))) {s with heap:=M}) (.of_wp λA R s q=>?_) ⟨a,λM j g2 l=>⟨⟨_,j,rfl⟩,h M j g2 l⟩⟩
 obtain⟨hp,g,dr,tk,os⟩:=s;obtain⟨a,q⟩:=q;have m:=sub_enumerate;have fin:R (.ok (.ret (.ref (hp.push {cls:=.type "dict_keyiterator",data:=.fields #[.ref d,.int 0 0,.int kvs.length 0,.int ep 0]}).objs.size))) ⟨(hp.push {cls:=.type "dict_keyiterator",data:=.fields #[.ref d,.int 0 0,.int kvs.length 0,.int ep 0]}).push {cls:=.type "enumerate",data:=.fields #[.none,.bool false,.ref hp.objs.size,rawInt 0,.none,.none]},g,dr,tk,os⟩:=by
  have k:=ko hp {cls:=.type "dict_keyiterator",data:=.fields #[.ref d,.int 0 0,.int kvs.length 0,.int ep 0]};rw[k];refine q _ ?_ ⟨_,Qc _ (Qd _ rfl),rfl,rfl⟩ λb o e=>Qc _ (Qc _ e);have:=Qd (hp.push {cls:=.type "dict_keyiterator",data:=.fields #[.ref d,.int 0 0,.int kvs.length 0,.int ep 0]}) (o:={cls:=.type "enumerate",data:=.fields #[.none,.bool false,.ref hp.objs.size,rawInt 0,.none,.none]}) rfl;rw[k]at this;exact this
 wp_walk
 refine wpAny_stack_any λst=>QU ?_;split
 ·rename_i c _ _ _ _ _
  cases(c==Value.type "enumerate")<;>(wp_walk using wpAny_pyIter_dict i a;exact⟨_,rfl,fin⟩)
 ·wp_walk using wpAny_pyIter_dict i a
  exact⟨_,rfl,fin⟩
section
variable{k:Nat}{wm p pos:Pos}{a:Expr}{ta:TA}
def C2(b:TA):TI:=λZ H R=>b Z H λvs H1=>∃a kvs,vs=[.ref a]/\Rd H1 a (.dK kvs)/\∀o,R (Mv a o kvs) (upd H1 a 'h')
theorem Dx(m:Gl X "enumerate")(n:X.mg "enumerate"=none)(t:SA X [a] ta)(hs:starEach [a] X.env=[(false,eval a X.env)]:=by rfl):SI X (.Tuple A8 k wm) (.Call (.Name "enumerate" p) [a] [] pos) (C2 ta):=by
 constructor;intro c s u H R I h;refine Call_ (iC I m n boot_enumerate (oj (ay (t.h pos c s u H _ I h) ?_) hs rfl));rintro D d ⟨g,E,x,y,A⟩;obtain⟨a,kvs,e,hr,q⟩:=A;subst e;cases y with
 |cons r rr=>
  cases rr;cases r;obtain⟨o,es,ep,hd,I2,ho⟩:=x.freeze hr;obtain⟨e,z,yd,g,rel,ob,es',p_,Y,h2,h3,h4⟩:=(show br X.prog X.w _ d.heap a (.af o (.dK kvs))from I2.hok a _ aA)
  rw[e]at Y;cases Y;rw[hd]at h3;injection h3 with iu iw
  subst iu iw;have i:=QA e;refine yP (knd:=cz X.prog X.w) (kvs:=g) (ep:=ep) yd ⟨o,es,e,h2,hd,h4⟩ λG j f C=>wpAny_pyIter_enum j ?_;refine⟨d.heap.objs.size+1,[d.heap.objs.size+1,d.heap.objs.size],_,_,_,rfl,I2.kept (t':=d.toks) C,BM (kvs:=kvs) (a:=a) (o:=o) ⟨es,hd⟩ (Nat.succ_ne_self _) (dq (fy i)) (yU i),⟨⟨_,j⟩,by rw[rel.len];exact f⟩,λb l=>?_,q o⟩;simp only[Qp,List.not_mem_nil,or_false]at l;rcases l with rfl|rfl
  ·exact I2.wj (lb _) (I2.hok.fresh (lb _))
  ·exact I2.wj (Qz _) (I2.hok.fresh (Qz _))
end
def h_(k:Nat):Str:=⟨#[107,97+k]⟩
theorem mL{a b:Nat}(h:h_ a=h_ b):a=b:=by
 have c:=congrArg (λs:Str=>s.cps.toList) h;simp only[h_,k6,true_and,and_true]at c
 lia
def vz:Hd->aU->Hd
 | .one s,_=>.one s
 | .as y,_=>.as y
 | .way _ _,os=>.way (os.getD 0 "") (os.getD 1 "")
 | .prs s ps,os=>.prs s ((ps.map (·.1)).zip os)
section
variable{h:Hd}{os Ss:aU}
theorem xA(c:os.length=h.bh.length):(vz h os).bh=(stH h).zip os:=by
 cases h with
 |one s=>rfl
 |as y=>rfl
 |way x y=>
  obtain⟨a,r,rfl⟩:=pv (l:=os) (by rw[c];exact Nat.succ_pos _);obtain⟨b,r,rfl⟩:=pv (l:=r) (by simp[Hd.bh]at c;lia);rfl
 |prs s ps=>
  simp only[vz,Hd.bh,stH,Qn];rw[List.zip_map_left,List.zip_map_left,Qn];rfl
theorem Hn(a:os.length=h.bh.length):stH (vz h os)=stH h:=by
 have:(stH h).length=h.bh.length:=by simp[stH]
 rw[stH,xA a,List.map_fst_zip (by lia)]
theorem zi:(vz h os).fg=h.fg:=by cases h<;>rfl
theorem Su(a:h.nx=none):(vz h os).nx=none:=by cases h<;>first|rfl|cases a
theorem xt(a:os.length=h.bh.length):(vz h os).Ag=h.Ag:=by
 cases h with
 |prs s ps=>exact List.map_fst_zip (by simp[Hd.bh]at a;simp;lia)
 |_=>rfl
theorem xm:vz h (h.bh.map (·.2))=h:=by
 cases h with
 |prs s ps=>
  simp only[vz,Hd.bh,Qn];congr 1;rw[show((λx:aU×Str=>x.2)∘λp:Str×Str=>([if s="box" then"part" else"case",p.1],p.2))=λp=>p.2 from rfl];exact(List.zip_of_prod rfl rfl).symm
 |_=>rfl
theorem wf(a:h.nx=none):(vo h).length=h.bh.length:=by
 cases h with
 |as y=>cases a
 |prs s ps=>simp[vo,Hd.bh]
 |_=>rfl
theorem GU(ok:h.ok ns)(i:h.nx=none)(f:os.length=h.bh.length)(g:∀o∈os,ce o=true/\o∈Ss):(vz h os).ok Ss:=by
 cases h with
 |one s=>exact ok
 |as y=>cases i
 |way x y=>
  obtain⟨a,r,rfl⟩:=pv (l:=os) (by rw[f];exact Nat.succ_pos _);obtain⟨b,r,rfl⟩:=pv (l:=r) (by simp[Hd.bh]at f;lia);have c:=g a (by simp);have d:=g b (by simp);exact⟨c.1,d.1,c.2,d.2⟩
 |prs s ps=>
  have k:ps.length=os.length:=by simp[Hd.bh]at f;lia
  refine⟨ok.1,λp j=>?_,?_,?_⟩
  ·obtain⟨c,d⟩:=List.of_mem_zip (a:=p.1) (b:=p.2) j;obtain⟨q,hq,e⟩:=Z2.mp c;exact⟨by rw[<- e];exact(ok.2.1 q hq).1,g _ d⟩
  ·rw[List.map_fst_zip (by simp;lia)];exact ok.2.2.1
  ·have:=ok.2.2.2;simp;lia
end
section
variable(F:List aj)
open Classical in
noncomputable def aq(L:aU):aU:=L.foldl (λb e=>if ∃a∈b,d_ F F (a,e)then b else b++[e]) []
open Classical in
noncomputable def zc(b:aU)(e:Str):Nat:=b.findIdx λa=>decide (d_ F F (a,e))
noncomputable def cN(a:aU)(e:Str):Str:=h_ (zc F a e)
noncomputable def Fc(b:aU)(a:Str):aj:=(cN F b a,vz (au F a) ((az F a).map λm=>cN F b m.2))
noncomputable def c_(L:aU):List aj:=(aq F L).map (Fc F (aq F L))
end
structure BH(F:List aj)(L fs:aU):Prop where
 sub:∀a∈fs,a∈L
 Fd:∀e∈L,∃a∈fs,d_ F F (a,e)
 ap:fs.Pairwise λa b=>¬d_ F F (a,b)
section
variable{F:List aj}{L fs:aU}
open Classical in
theorem fZ(L:aU)(e:Str):aq F (L++[e])=if ∃a∈aq F L,d_ F F (a,e)then aq F L else aq F L++[e]:=by
 unfold aq;rw[ma];rfl
theorem pe(L:aU):BH F L (aq F L):=by
 induction L using cJ with
 |h0=>exact⟨λ_ h=>(nomatch h),λ_ h=>(nomatch h),List.Pairwise.nil⟩
 |hs L e ih=>
  rw[fZ];split
  ·rename_i f
   refine⟨λa d=>zH.mpr (.inl (ih.sub a d)),λx c=>?_,ih.ap⟩;rcases zH.mp c with h|h
   ·exact ih.Fd x h
   ·rw[zO.mp h];exact f
  ·rename_i f
   refine⟨λa d=>?_,λx c=>?_,?_⟩
   ·rcases zH.mp d with h|h
    ·exact zH.mpr (.inl (ih.sub a h))
    ·exact zH.mpr (.inr h)
   ·rcases zH.mp c with h|h
    ·obtain⟨a,Y,h2⟩:=ih.Fd x h;exact⟨a,zH.mpr (.inl Y),h2⟩
    ·rw[zO.mp h];exact⟨e,by simp,d_.refl⟩
   ·refine List.pairwise_append.mpr ⟨ih.ap,by simp,λa d b g=>?_⟩;rw[zO.mp g];exact λz=>f ⟨a,d,z⟩
theorem tW(e:Str)(L:aU):∃r,aq F (e::L)=e::r:=by
 induction L using cJ with
 |h0=>exact⟨[],by simp[aq]⟩
 |hs L x ih=>
  obtain⟨r,hr⟩:=ih;rw[<- hE,fZ];split
  ·exact⟨r,hr⟩
  ·exact⟨r++[x],by rw[hr];rfl⟩
theorem uU(h:BH F L fs){e:Str}(b:e∈L):zc F fs e<fs.length:=by
 obtain⟨a,Y,h2⟩:=h.Fd e b;exact List.findIdx_lt_length_of_exists ⟨a,Y,by simpa using h2⟩
theorem qS{e:Str}(a:zc F fs e<fs.length):d_ F F (fs[zc F fs e],e):=by
 have:=List.findIdx_getElem (w:=a);exact Qt (inst:=Classical.propDecidable _) this
theorem iL{a e:Str}(h:d_ F F (a,e)):zc F fs a=zc F fs e:=by
 unfold zc;congr 1;funext x;have:d_ F F (x,a)↔d_ F F (x,e):=⟨λq=>q.trans h,λq=>q.trans h.symm⟩
 simp[this]
theorem uw(h:BH F L fs)(a:i<fs.length):zc F fs fs[i]=i:=by
 unfold zc;rw[List.findIdx_eq a];refine⟨by simpa using d_.refl,λj b=>?_⟩;have:=uW.mp h.ap j i (by lia) a b;simpa using this
theorem mR(h:BH F L fs)(a:i<fs.length):cN F fs fs[i]=h_ i:=by rw[cN,uw h a]
theorem wX(h:BH F L fs){a e:Str}(c:a∈L)(d:e∈L):cN F fs a=cN F fs e↔d_ F F (a,e):=by
 refine⟨λq=>?_,λq=>by rw[cN,cN,iL q]⟩;have b:=qS (uU h c);have f:=qS (uU h d);have g:zc F fs a=zc F fs e:=mL q;simp only[g]at b;exact b.symm.trans f
theorem wK(h:BH F L fs):fs.map (cN F fs)=(List.range fs.length).map h_:=by
 refine ga (by simp) λi a b=>?_;rw[Ql]at a;rw[Qr,Qr,List.getElem_range,mR h a]
theorem Mw(h:BH F L fs){e:Str}(b:e∈L):cN F fs e∈fs.map (cN F fs):=by
 have a:=uU h b;exact Z2.mpr ⟨fs[zc F fs e],Qj a,by rw[cN,cN,iL (qS a)]⟩
theorem k7:(c_ F L).map (·.1)=(aq F L).map (cN F (aq F L)):=by
 rw[c_,Qn];rfl
theorem Sv(n:Nat):((List.range n).map h_).Nodup:=uT.mpr (List.nodup_range.imp λh e=>h (mL e))
theorem Sw:((c_ F L).map (·.1)).Nodup:=by rw[k7,wK (pe L)];exact Sv _
end
section
variable{F:List aj}{L:aU}
structure nj(F:List aj)(ns L:aU):Prop where
 g:ki F ns
 en:∀e∈L,gg F ns e
 cl:∀e∈L,∀m∈az F e,m.2∈L
theorem nj.hd(C:nj F ns L){e:Str}(a:e∈L):(au F e).ok ns/\(au F e).nx=none:=by
 obtain⟨Y,h2⟩:=C.g.yf (C.en e a);refine⟨h2,?_⟩;have:=(Qab.mp Y).2;simpa using this
theorem nj.ol(C:nj F ns L){e:Str}(a:e∈L)(c:Str->Str):((az F e).map λm=>c m.2).length=(au F e).bh.length:=by
 unfold az;rw[(C.en e a).2];simp
theorem xW{a:Str}(b:a∈aq F L):au (c_ F L) (cN F (aq F L) a)=vz (au F a) ((az F a).map λm=>cN F (aq F L) m.2):=dX Sw (Z2.mpr ⟨a,b,rfl⟩)
theorem Sy(C:nj F ns L)(y:Str):jf (c_ F L) y=none:=by
 unfold jf au;cases hf:(c_ F L).find? (λr=>decide (r.1=y))with
 |none=>rfl
 |some r=>
  obtain⟨a,ha,rfl⟩:=Z2.mp (mu hf);exact Su (C.hd ((pe L).sub a ha)).2
theorem oE(C:nj F ns L)(y:Str):b7 (c_ F L) y=y:=dB _ (Sy C y)
theorem Sz(C:nj F ns L){a:Str}(b:a∈aq F L):az (c_ F L) (cN F (aq F L) a)=(az F a).map λm=>(m.1,cN F (aq F L) m.2):=by
 have c:=(pe L).sub a b;have d:=lO (C.en a c).2
 conv=>lhs;unfold az
 rw[oE C,xW b,xA (C.ol c _),<- d,List.zip_map_left,List.zip_map_right,Qn,Qn];refine ga (by simp) λi e f=>?_;simp[oE C]
theorem F2(C:nj F ns L){a e:Str}(d:a∈L)(f:e∈L)(h:d_ F F (a,e)){c:Str->Str}(p:∀x y,d_ F F (x,y)->c x=c y):((az F a).map λm=>(m.1,c m.2))=(az F e).map λm=>(m.1,c m.2):=by
 have j:=lO (C.en a d).2;have q:=lO (C.en e f).2;have r:stH (au F a)=stH (au F e):=h.me.2;have l:(az F a).map (·.1)=(az F e).map (·.1):=by rw[j,q,r]
 have t:(az F a).length=(az F e).length:=by simpa using congrArg List.length l
 refine ga (by simpa using t) λi b n=>?_;rw[Ql]at b n;rw[Qr,Qr];have o:(az F a)[i].1=(az F e)[i].1:=by
  have:=List.getElem_of_eq l (i:=i) (by simpa using b);simpa using this
 have u:=pU (C.g.Bv (C.en a d)) (Qj b);have w:=pU (C.g.Bv (C.en e f)) (Qj n);have k:=h.kid (s:=(az F a)[i].1) (by rw[<- j];exact Z2.mpr ⟨_,Qj b,rfl⟩);unfold y_ at k;rw[u]at k;rw[o,w]at k;have z:c (az F a)[i].2=c (az F e)[i].2:=p _ _ k;rw[o,z]
theorem SD(C:nj F ns L){e:Str}(b:e∈L):az (c_ F L) (cN F (aq F L) e)=(az F e).map λm=>(m.1,cN F (aq F L) m.2):=by
 obtain⟨a,Y,h2⟩:=(pe (F:=F) L).Fd e b;have c:∀x y,d_ F F (x,y)->cN F (aq F L) x=cN F (aq F L) y:=λx y h=>by rw[cN,cN,iL h]
 rw[<- c a e h2,Sz C Y,F2 C ((pe L).sub a Y) b h2 c]
theorem SH(C:nj F ns L){e:Str}(b:e∈L):nc F (c_ F L) (e,cN F (aq F L) e):=by
 obtain⟨a,Y,h2⟩:=(pe (F:=F) L).Fd e b;have c:cN F (aq F L) a=cN F (aq F L) e:=by rw[cN,cN,iL h2]
 have d:=(pe L).sub a Y;rw[<- c];refine⟨?_,?_⟩
 ·show(au F e).fg=_;rw[xW Y,zi];exact h2.me.1.symm
 ·show stH (au F e)=_;rw[xW Y,Hn (C.ol d _)];exact h2.me.2.symm
theorem I0(C:nj F ns L){e:Str}(a:e∈L)(s:aU):jo (c_ F L) (cN F (aq F L) e) s=(jo F e s).map (cN F (aq F L)):=by
 unfold jo;rw[SD C a,List.find?_map];simp only[Option.map_map,QC]
theorem SJ(C:nj F ns L):∀(n:Nat){e:Str},e∈L->qm F (c_ F L) n (e,cN F (aq F L) e)
 |0,e,he=>SH C he
 |n+1,e,he=>⟨SH C he,λs a=>by
   obtain⟨e',Y⟩:=lC (C.en e he).2 a;have b:e'∈L:=by
    unfold jo at Y;obtain⟨m,hm,rfl⟩:=QaH.mp Y;exact C.cl e he m (mu hm)
   have:=SJ C n b;unfold y_;rw[I0 C he,Y];exact this⟩
theorem Mx(C:nj F ns L){e:Str}(a:e∈L):d_ F (c_ F L) (e,cN F (aq F L) e):=eZ.mpr λn=>SJ C n a
theorem SK(C:nj F ns L){a b:Str}(c:a∈L)(d:b∈L)(h:d_ (c_ F L) (c_ F L) (cN F (aq F L) a,cN F (aq F L) b)):cN F (aq F L) a=cN F (aq F L) b:=
 (wX (pe L) c d).mpr (((Mx C c).trans h).trans (Mx C d).symm)
end
def gf(L ks:aU):aU:=ks.foldl (λL k=>if k∈L then L else L++[k]) L
section
variable{L ks:aU}{c:Str->Str}
theorem fY(L ks:aU)(k:Str):gf L (ks++[k])=if k∈gf L ks then gf L ks else gf L ks++[k]:=by
 unfold gf;rw[ma];rfl
theorem kD(L ks a:aU):gf L (ks++a)=gf (gf L ks) a:=by unfold gf;rw[ma]
theorem iJ:x∈gf L ks↔x∈L\/x∈ks:=by
 induction ks using cJ with
 |h0=>simp[gf]
 |hs l k ih=>
  rw[fY];split
  ·rename_i a
   rw[ih,zH,zO];constructor
   ·rintro(h|h)<;>simp[h]
   ·rintro(h|h|rfl)
    ·exact .inl h
    ·exact .inr h
    ·exact ih.mp a
  ·rw[zH,ih,zH,or_assoc]
theorem rC(h:∀k∈ks,k∈L):gf L ks=L:=by
 induction ks using cJ with
 |h0=>rfl
 |hs l k ih=>
  have:=ih λx a=>h x (zH.mpr (.inl a));rw[fY,this,if_pos (h k (by simp))]
theorem qU(L ks:aU):∃r,gf L ks=L++r:=by
 induction ks using cJ with
 |h0=>exact⟨[],by simp[gf]⟩
 |hs l k ih=>
  obtain⟨r,hr⟩:=ih;rw[fY];split
  ·exact⟨r,hr⟩
  ·exact⟨r++[k],by rw[hr,QQ]⟩
theorem IC(L ks:aU):gf [] ((gf L ks).map c)=gf (gf [] (L.map c)) (ks.map c):=by
 induction ks using cJ with
 |h0=>rfl
 |hs l k ih=>
  rw[fY,Qm,kD,<- ih];split
  ·rename_i b
   refine(rC λx a=>?_).symm;rw[hJ,zO]at a;rw[a];exact iJ.mpr (.inr (Z2.mpr ⟨k,b,rfl⟩))
  ·rw[Qm,kD]
end
def bc(F:List aj)(f:Str)(i:Nat):aU:=(bu F f i).map (·.1)
theorem rY(a:Str)(c:kc)(b:List (aU×Str)):(jg a c b).map (·.1)=gf (c.map (·.1)) (b.map (·.2)):=by
 induction b using cJ with
 |h0=>rfl
 |hs l m ih=>
  rw[fG,Qm,hJ,fY,<- ih];split
  ·rfl
  ·rw[Qm];rfl
theorem sI{F:List aj}{f:Str}(h:(bc F f i).length<=i):bc F f (i+1)=bc F f i:=by
 show List.map _ (match(bu F f i)[i]? with|none=>bu F f i|some c=>jg c.1 (bu F f i) (az F c.1))=_;rw[pc (by simpa[bc]using h)];rfl
theorem nQ{F:List aj}{f:Str}{e:Str}(h:(bc F f i)[i]? =some e):bc F f (i+1)=gf (bc F f i) ((az F e).map (·.2)):=by
 rw[bc,Qq]at h;obtain⟨c,hc,rfl⟩:=QaH.mp h;show List.map _ (match(bu F f i)[i]? with|none=>bu F f i|some c=>jg c.1 (bu F f i) (az F c.1))=_;rw[hc];exact rY _ _ _
section
variable{f:Str}{c:Str->Str}{S:Str->Prop}
theorem SN(s:S f)(t:∀e,S e->∀m∈az r1 e,S m.2)(n:∀e,S e->(az r2 (c e)).map (·.2)=(az r1 e).map λm=>c m.2):∀i,(∀e∈bc r1 f i,S e)/\(∀j e,j<i->(bc r1 f i)[j]? =some e->∀m∈az r1 e,m.2∈bc r1 f i)/\
  gf [] ((bc r1 f i).map c)=bc r2 (c f) (gf [] (((bc r1 f i).take i).map c)).length
 |0=>⟨λe g=>by rw[zO.mp (show e∈[f]from g)];exact s,λj e d=>absurd d (by lia),rfl⟩
 |i+1=>by
  obtain⟨Y,h2,h3⟩:=SN s t n i;rcases Nat.lt_or_ge i (bc r1 f i).length with hi|hi
  ·have a:=Qa hi;have u:=Qj hi;have o:(bc r1 f i).take (i+1)=(bc r1 f i).take i++[(bc r1 f i)[i]]:=by rw[Qs,a];rfl
   generalize(bc r1 f i)[i]=e at a u o;have g:=Y e u;have y:=nQ a;obtain⟨r,hr⟩:=qU (bc r1 f i) ((az r1 e).map (·.2));rw[y];refine⟨λx a=>?_,λj x d a m b=>?_,?_⟩
   ·rcases iJ.mp a with h|h
    ·exact Y x h
    ·obtain⟨m,b,rfl⟩:=Z2.mp h;exact t e g m b
   ·rw[hr,Qg (by lia)]at a;by_cases GJ:j<i
    ·exact iJ.mpr (.inl (h2 j x GJ a m b))
    ·rw[show j=i by lia,‹(bc r1 f i)[i]? =some e›]at a;cases a;exact iJ.mpr (.inr (Z2.mpr ⟨m,b,rfl⟩))
   ·have p:(gf (bc r1 f i) ((az r1 e).map (·.2))).take (i+1)=(bc r1 f i).take i++[e]:=by rw[hr,List.take_append_of_le_length (by lia),o]
    rw[p,IC,Qn,show((c∘λm:aU×Str=>m.2))=λm=>c m.2 from rfl,<- n e g,Qm,kD,hJ];have z:gf [] ((bc r1 f i).map c)=gf (gf (gf [] (((bc r1 f i).take i).map c)) [c e]) (((bc r1 f i).drop (i+1)).map c):=by
     rw[<- kD,<- kD,<- hJ,<- Qm,<- Qm,<- QQ,<- o,List.take_append_drop]
    by_cases hc:c e∈gf [] (((bc r1 f i).take i).map c)
    ·have:gf (gf [] (((bc r1 f i).take i).map c)) [c e]=gf [] (((bc r1 f i).take i).map c):=rC λk l=>by rw[zO.mp l];exact hc
     rw[this,<- h3];refine rC λk l=>?_;rcases iJ.mp hc with h|h
     ·cases h
     obtain⟨x,hx',ex⟩:=Z2.mp h;obtain⟨j,d,ej⟩:=Qi hx';rw[u9]at d;rw[io]at ej;have q:=Y x (pf hx');rw[<- ex,n x q]at l;obtain⟨m,b,rfl⟩:=Z2.mp l;exact iJ.mpr (.inr (Z2.mpr ⟨m.2,h2 j x (by lia) (by rw[Qa (by lia),ej]) m b,rfl⟩))
    ·have w:gf (gf [] (((bc r1 f i).take i).map c)) [c e]=gf [] (((bc r1 f i).take i).map c)++[c e]:=by
      show(if c e∈_ then _ else _)=_;rw[if_neg hc]
     rw[w,Qk,kb];have A:(bc r2 (c f) (gf [] (((bc r1 f i).take i).map c)).length)[(gf [] (((bc r1 f i).take i).map c)).length]? =some (c e):=by
      rw[<- h3,z,w];obtain⟨r',ia⟩:=qU (gf [] (((bc r1 f i).take i).map c)++[c e]) (((bc r1 f i).drop (i+1)).map c);rw[ia,QQ,nT (Qz _),du];rfl
     rw[nQ A,h3]
  ·rw[sI hi];rw[iT hi]at h3;rw[iT (by lia)];exact⟨Y,λj e d a=>h2 j e (by have:=(yE.mp a).1;lia) a,h3⟩
theorem wh(a:S f)(b:∀e,S e->∀m∈az r1 e,S m.2)(d:∀e,S e->(az r2 (c e)).map (·.2)=(az r1 e).map λm=>c m.2)(g:(bc r1 f i).length=i):bc r2 (c f) (gf [] ((bc r1 f i).map c)).length=gf [] ((bc r1 f i).map c):=by
 have h:=(SN a b d i).2.2;rw[iT (by lia)]at h;exact h.symm
end
section
variable{F:List aj}{L:aU}
theorem xl(L:aU):∀b,(∀e∈b,e∈L)->gf [] (b.map (cN F (aq F L)))=(aq F b).map (cN F (aq F L)):=by
 intro b
 induction b using cJ with
 |h0=>intro _;rfl
 |hs l e ih=>
  intro h;have d:=ih λx f=>h x (zH.mpr (.inl f));have g:=h e (by simp);rw[Qm,hJ,fY,d,fZ];have c:cN F (aq F L) e∈(aq F l).map (cN F (aq F L))↔∃a∈aq F l,d_ F F (a,e):=by
   rw[Z2];exact exists_congr λa=>and_congr_right λi=>wX (pe L) (h a (zH.mpr (.inl ((pe l).sub a i)))) g
  by_cases q:∃a∈aq F l,d_ F F (a,e)
  ·rw[if_pos q,if_pos (c.mpr q)]
  ·rw[if_neg q,if_neg λz=>q (c.mp z),Qm];rfl
theorem FM{f:Str}(C:nj F ns (bc F f i))(a:f∈bc F f i)(b:(bc F f i).length=i):bc (c_ F (bc F f i)) (cN F (aq F (bc F f i)) f) (aq F (bc F f i)).length=(aq F (bc F f i)).map (cN F (aq F (bc F f i))):=by
 have h:=wh (r1:=F) (r2:=c_ F (bc F f i)) (S:=(· ∈bc F f i)) (c:=cN F (aq F (bc F f i))) a C.cl (λe d=>by rw[SD C d,Qn];rfl) b;rw[xl _ _ λ_ h=>h]at h;simpa using h
theorem F3:∀(L:aU),L.Pairwise (λa b=>¬d_ F F (a,b))->aq F L=L:=by
 intro L
 induction L using cJ with
 |h0=>intro _;rfl
 |hs l e ih=>
  intro h;obtain⟨Y,_,h2⟩:=List.pairwise_append.mp h;rw[fZ,ih Y,if_neg];rintro⟨a,ha,hn⟩;exact h2 a ha e (by simp) hn
theorem xz(C:nj F ns L):c_ (c_ F L) ((aq F L).map (cN F (aq F L)))=c_ F L:=by
 have I:=pe (F:=F) L;have e:aq (c_ F L) ((aq F L).map (cN F (aq F L)))=(aq F L).map (cN F (aq F L)):=by
  refine F3 _ (uW.mpr λi j b d n=>?_);rw[Ql]at b d;rw[Qr,Qr];intro z;have:=SK C (I.sub _ (Qj b)) (I.sub _ (Qj d)) z;rw[mR I b,mR I d]at this;have:=mL this
  lia
 have f:∀y∈(aq F L).map (cN F (aq F L)),cN (c_ F L) ((aq F L).map (cN F (aq F L))) y=y:=λy h=>by
  obtain⟨i,b,rfl⟩:=Qi h;have:=pe (F:=c_ F L) ((aq F L).map (cN F (aq F L)));rw[e]at this;rw[mR this b];rw[Ql]at b;rw[Qr,mR I b]
 conv=>lhs;unfold c_
 rw[show(aq F L).map (Fc F (aq F L))=c_ F L from rfl,e,Qn]
 conv=>rhs;unfold c_
 refine List.map_congr_left λa c=>?_;have k:=I.sub a c;show(cN _ _ _,vz _ _)=(cN _ _ _,vz _ _);rw[f _ (Z2.mpr ⟨a,c,rfl⟩)];congr 1;have l:((az (c_ F L) (cN F (aq F L) a)).map λm=>cN (c_ F L) ((aq F L).map (cN F (aq F L))) m.2)=(au (c_ F L) (cN F (aq F L) a)).bh.map (·.2):=by
  rw[show(au (c_ F L) (cN F (aq F L) a)).bh=az (c_ F L) (cN F (aq F L) a)by
   conv=>rhs;unfold az
   rw[oE C];simp[oE C]]
  refine List.map_congr_left λm g=>f _ ?_;rw[Sz C c]at g;obtain⟨q,hq,rfl⟩:=Z2.mp g;exact Mw I (C.cl a k q hq)
 rw[l,xm,xW c]
end
section
variable{T:Addr}{xs J:bY}{F:List aj}{L:aU}
theorem tj{k:Nat}(h:k<26):ce (h_ k)=true/\Wd (h_ k):=by
 have:∀k:Fin 26,ce (h_ k.val)=true/\(h_ k.val).length<=20/\∀c∈(h_ k.val).cps.toList,c<128:=by decide+kernel
 exact this ⟨k,h⟩
theorem nj.few(C:nj F ns L)(c:L.Nodup):(aq F L).length<=14:=by
 have a:=dO (l:=aq F L) (m:=ns) ((pe L).ap.imp λh e=>h (by rw[e];exact d_.refl)) λx b=>(C.en x ((pe L).sub x b)).1;exact jU a C.g.few
theorem RT.least(rt:RT H a xs F ns ws)(C:nj F ns L)(j:L.Nodup)(l:L≠[])(e:U T=some (.tup J))(n:RV U J (c_ F L)):RT U T J (c_ F L) ((aq F L).map (cN F (aq F L))) ws:=by
 have I:=pe (F:=F) L;have few:=C.few j;have f:∀x∈(aq F L).map (cN F (aq F L)),ce x=true/\Wd x:=λx d=>by
  rw[wK I]at d;obtain⟨k,hk,rfl⟩:=Z2.mp d;exact tj (by have:=Qag.mp hk;lia)
 refine⟨e,n,by rw[k7],by rw[<- k7];exact Sw,λr c=>?_,λx d=>(f x d).2,λr c y h=>?_,λr c z i=>?_,?_,by simpa using few⟩
 ·obtain⟨b,hb,rfl⟩:=Z2.mp c;obtain⟨Y,h2⟩:=C.hd (I.sub b hb);refine⟨(f _ (Z2.mpr ⟨b,hb,rfl⟩)).1,GU Y h2 (C.ol (I.sub b hb) _) λo p=>?_⟩;obtain⟨m,hm,rfl⟩:=Z2.mp p;have:=Mw I (C.cl b (I.sub b hb) m hm);exact⟨(f _ this).1,this⟩
 ·obtain⟨b,hb,rfl⟩:=Z2.mp c;have:(Fc F (aq F L) b).2.nx=none:=Su (C.hd (I.sub b hb)).2;rw[this]at h;cases h
 ·obtain⟨b,hb,rfl⟩:=Z2.mp c;have q:(Fc F (aq F L) b).2.Ag=(au F b).Ag:=xt (C.ol (I.sub b hb) _);rw[q]at i;obtain⟨Y,_⟩:=C.g.yf (C.en b (I.sub b hb));exact rt.ww _ (Qab.mp Y).1 z i
 ·obtain⟨x,r,rfl⟩:=List.exists_cons_of_ne_nil l;obtain⟨r',ia⟩:=tW (F:=F) x r;rw[ia];simp
end
theorem rX(F:List aj)(f:Str):∀i,∃r,bc F f i=f::r
 |0=>⟨[],rfl⟩
 |i+1=>by
  obtain⟨r,hr⟩:=rX F f i;cases hx:(bc F f i)[i]? with
  |none=>exact⟨r,by rw[sI (List.getElem?_eq_none_iff.mp hx),hr]⟩
  |some e=>
   obtain⟨r',ia⟩:=qU (bc F f i) ((az F e).map (·.2));exact⟨r++r',by rw[nQ hx,ia,hr];rfl⟩
theorem wk{F:List aj}{f:Str}:cN F (aq F (bc F f i)) f="ka":=by
 obtain⟨r,hr⟩:=rX F f i;rw[hr];obtain⟨r',ia⟩:=tW (F:=F) f r;have I:=pe (F:=F) (f::r);rw[ia]at I⊢;exact mR I (i:=0) (by simp)
def iz(num:Str->Nat)(b:aU):ca:=b.map λa=>(Sum.inl (num a:Int),.str a)
def xj(num:Str->Nat)(c:Str->Str)(b:aU):ca:=b.map λa=>(Sum.inl (num a:Int),.str (c a))
section
variable{F:List aj}{L fs:aU}
theorem Ee(h:(Sum.inl (n:Int):Key)∈(iz num fs).map (·.1)):∃a∈fs,num a=n:=by
 rw[iz,Qn]at h;obtain⟨a,ha,e⟩:=Z2.mp h;exact⟨a,ha,Int.ofNat.inj (KI.i.inj (Sum.inl.inj e))⟩
theorem rM(I:BH F L fs)(f:∀a∈L,∀b∈L,num a=num b↔d_ F F (a,b)):((iz num fs).map (·.1)).Nodup:=by
 rw[iz,Qn];refine uT.mpr (uW.mpr λi j c d g e=>?_);exact uW.mp I.ap i j c d g ((f _ (I.sub _ (Qj c)) _ (I.sub _ (Qj d))).mp (Int.ofNat.inj (KI.i.inj (Sum.inl.inj e))))
theorem At{c:Str->Str}:(xj num c fs).map (·.1)=(iz num fs).map (·.1):=by simp[xj,iz]
theorem xp(I:BH F L fs)(d:∀a∈L,∀b∈L,num a=num b↔d_ F F (a,b))(f:((xj num (cN F fs) fs).map (·.1)).Nodup){e:Str}(c:e∈L):a_ (xj num (cN F fs) fs) (.inl (num e:Int))=some (.str (cN F fs e)):=by
 obtain⟨a,ha,nb⟩:=I.Fd e c;refine gP f (Z2.mpr ⟨a,ha,?_⟩);rw[(d a (I.sub a ha) e c).mpr nb,(wX I (I.sub a ha) c).mpr nb]
end
end L2
set_option maxHeartbeats 400000
--ahi 14
--SEE
namespace T1
inductive X2{a b:Type}(P:a->b->Prop):Prop
 |mk q r:P q r->X2 P
inductive X3{a b c:Type}(P:a->b->c->Prop):Prop
 |mk q r s:P q r s->X3 P
inductive X4{a b c d:Type}(P:a->b->c->d->Prop):Prop
 |mk q r s t:P q r s t->X4 P
inductive X5{a b c d e:Type}(P:a->b->c->d->e->Prop):Prop
 |mk q r s t u:P q r s t u->X5 P
inductive X6{a b c d e f:Type}(P:a->b->c->d->e->f->Prop):Prop
 |mk q r s t u v:P q r s t u v->X6 P
inductive X7{a b c d e f g:Type}(P:a->b->c->d->e->f->g->Prop):Prop
 |mk q r s t u v w:P q r s t u v w->X7 P
inductive X9{a b c d e f g h i:Type}(P:a->b->c->d->e->f->g->h->i->Prop):Prop
 |mk q r s t u v w x y:P q r s t u v w x y->X9 P
inductive SQ{a b c d e f g h i j:Type}(P:a->b->c->d->e->f->g->h->i->j->Prop):Prop
 |mk q r s t u v w x y z:P q r s t u v w x y z->SQ P
inductive SR{a b c d e f g h i j k:Type}(P:a->b->c->d->e->f->g->h->i->j->k->Prop):Prop
 |mk q r s t u v w x y z A:P q r s t u v w x y z A->SR P
inductive Jf{a b c d e f g h i j k l:Type}(P:a->b->c->d->e->f->g->h->i->j->k->l->Prop):Prop
 |mk q r s t u v w x y z A B:P q r s t u v w x y z A B->Jf P
inductive SX{a b c d e f g h i j k l m n:Type}(P:a->b->c->d->e->f->g->h->i->j->k->l->m->n->Prop):Prop
 |mk q r s t u v w x y z A B C D:P q r s t u v w x y z A B C D->SX P
inductive SY{a b c d e f g h i j k l m n o:Type}(P:a->b->c->d->e->f->g->h->i->j->k->l->m->n->o->Prop):Prop
 |mk q r s t u v w x y z A B C D E:P q r s t u v w x y z A B C D E->SY P
open PySem L2
def top(i:Nat):Stmt:=PySem.Challenge.pw_coilkind_k27_least_tellings.main.body.getD i (.Pass ⟨0,0,0,0⟩)
abbrev jL:Stmt:=top 3
abbrev kX:Stmt:=top 4
abbrev iZ:Stmt:=top 5
abbrev i8:Stmt:=top 6
abbrev iW:Stmt:=top 12
abbrev iY:Stmt:=top 13
abbrev lG:Stmt:=top 14
abbrev e9:Stmt:=top 17
abbrev gK:Stmt:=top 18
abbrev lE:Stmt:=top 19
abbrev lI:Stmt:=top 21
abbrev qT:Stmt:=top 22
abbrev j8:Stmt:=top 24
abbrev iX:Stmt:=top 25
abbrev gG:Stmt:=top 26
abbrev hV:Stmt:=top 27
abbrev jM:Stmt:=top 28
abbrev fU:Stmt:=top 29
abbrev kR:Stmt:=top 30
abbrev eB:Stmt:=top 31
abbrev jJ:Stmt:=top 32
abbrev eX:Stmt:=top 35
abbrev eA:Stmt:=top 36
abbrev mY:Stmt:=top 37
abbrev fT:Stmt:=top 38
abbrev kK:Stmt:=top 39
abbrev nZ:Stmt:=top 40
abbrev j7:Stmt:=cZ (top 11) 0
abbrev fF:Stmt:=cZ (top 16) 0
abbrev dY:Stmt:=cZ (top 16) 1
abbrev dJ:Stmt:=cZ (top 16) 2
abbrev cD:Stmt:=cZ (top 16) 3
abbrev fE:Stmt:=cZ (top 16) 4
abbrev pw:=PySem.Challenge.pw_coilkind_k27_least_tellings
abbrev zj:=PySem.Challenge.rw_coilkind_k27_least_tellings
def view:Program:={pw with main:={pw.main with body:=([0,2,3,4,5,6,8,9,10,11,12,13,14,16,17,18,19,21,22,24,25,26,27,28,29,30,31,32,33,34,35,36,37,38,39,40]:cm).filterMap λi=>pw.main.body[i]?}}
def qq:List (Str×Stmt):=[⟨"heads_of",jL⟩,⟨"rows_of",kX⟩,⟨"names_in",iZ⟩,⟨"head_with",i8⟩,⟨"steps_in",iW⟩,⟨"moves_in",iY⟩,⟨"reached",lG⟩,⟨"class_numbers",e9⟩,⟨"sources_of",gK⟩,⟨"part_by",lE⟩,⟨"name_of",lI⟩,⟨"least",qT⟩,⟨"_law_fill",j8⟩,⟨"_law_next",iX⟩,⟨"_law_turned",gG⟩,⟨"_law_words",hV⟩,⟨"_law_head",jM⟩,⟨"_law_telling",fU⟩,⟨"_law_any",kR⟩,⟨"_law_twin_head",eB⟩,⟨"_law_twin",jJ⟩,⟨"_law_row_here",eX⟩,⟨"_law_head_here",eA⟩,⟨"_law_on",mY⟩,⟨"_law_parting",fT⟩,⟨"_law_met",kK⟩,⟨"law",nZ⟩]
def gt:cw:=[⟨"LETTERS",.str "abcdefghijklmnopqrstuvwxyz"⟩]
def tups:List (Str×bY):=[⟨"WORDED",[.str "box",.str "pick"]⟩]
def VE:List (Str×List wu):=[⟨"STEP_WORDS",[⟨"box",.inl (.str "part")⟩,⟨"pick",.inl (.str "case")⟩]⟩]
def ub:aU:=["len","isinstance","all","range","list","tuple","dict","sorted","enumerate","zip","any"]
def qt:List (Str×bY):=[⟨"FROM",[.str "from"]⟩,⟨"TO",[.str "to"]⟩]
def VF:List Bt:=[⟨"Net","Net.__init__",j7,["rows","heads","marks","moves"]⟩,⟨"Parting","Parting.__init__",fF,["members","number","waiting","waits"]⟩]
def VG:List BA:=[⟨"Parting","begin","Parting.begin",dY⟩,⟨"Parting","put_off","Parting.put_off",dJ⟩,⟨"Parting","take_waiting","Parting.take_waiting",cD⟩,⟨"Parting","part","Parting.part",fE⟩]
def look(K:Q0):=(Cm (without K (yz K qt)) qq,IF (without K (yz K qt)) gt,Co (without K (yz K qt)) tups,LF (without K (yz K qt)) VE,EK (without K (yz K qt)) ub,Co K qt,decide (yz K qt).Nodup,EO (without K (yz K qt)) VF,EZ (without K (yz K qt)) VG)
def want(w:World):=(Cn qq,IG gt,Cp tups,LG w VE,true,Cp qt,true,EQ VF,E2 VG)
theorem agx(w:World):(PySem.W.openEnds treeTable pw (w.withFollow "special-get-raises" false) 3250).map (λs=>(PySem.W.openSeen view ["STEP_WORDS"] (PySem.importedModules pw.main.body) (λs=>PySem.W.xlAt view [] s&&PySem.W.recOk [] s) true s,(Ai look want).obs s))=some (PySem.W.openGood view ["STEP_WORDS"],(Ai look want).val (w.withFollow "special-get-raises" false)):=by kernel_rfl
theorem agy(w:World):(PySem.W.openEnds treeTable pw (w.withFollow "special-get-raises" true) 3250).map (λs=>(PySem.W.openSeen view ["STEP_WORDS"] (PySem.importedModules pw.main.body) (λs=>PySem.W.xlAt view [] s&&PySem.W.recOk [] s) true s,(Ai look want).obs s))=some (PySem.W.openGood view ["STEP_WORDS"],(Ai look want).val (w.withFollow "special-get-raises" true)):=by kernel_rfl
def CP:DefRec:=⟨"law",sf nZ,l_ nZ,b_ nZ,(match nZ with| .FunctionDef _ _ _ _ _ _ _ _ _ p=>p|_=>⟨0,0,0,0⟩)⟩
theorem hdef:PySem.W.defOf view zj.row.name=some (CP,[]):=by kernel_rfl
theorem hprog:zj.row.prog.theDef zj.row.name=some (CP.params,CP.body,CP.scope):=by kernel_rfl
theorem hkw:PySem.W.kwWritten? CP.params.kwonlyargs CP.params.kw_defaults=some []:=by kernel_rfl
theorem hok:(PySem.W.chainsOk view&&PySem.W.opensWell zj.row.prog&&(PySem.W.frees zj.row.toRowW&&zj.row.within.isEmpty))=true:=by kernel_rfl
theorem hbare:zj.row.prog.bare:=⟨rfl,rfl,rfl,rfl,rfl,by decide+kernel⟩
theorem agG:zj.row.toRowW.promised:=by w_witness2
theorem said:zj.wellSaid=true:=by
 refine Iy (p:=pw) rfl ?_ ?_ ?_ ?_ ?_ ?_ ?_ ?_ ?_ ?_ ?_ ?_ ?_ ?_ ?_ ?_ ?_ ?_ ?_ ?_ ?_ ?_ ?_ ?_ ?_ ?_ ?_ ?_<;>kernel_rfl
structure Txt(K:Q0)(mg:Str->cv)(w:World):Prop where
 ph:mg "len"=none
 kF:mg "isinstance"=none
 adf:mg "all"=none
 mP:mg "range"=none
 qJ:mg "list"=none
 dI:mg "tuple"=none
 S0:mg "dict"=none
 tO:mg "sorted"=none
 uC:mg "enumerate"=none
 MA:mg "zip"=none
 adg:mg "any"=none
 eQ:∃u,mg "LETTERS"=some u/\RelV (.str "abcdefghijklmnopqrstuvwxyz") u
 uE:∃a,mg "WORDED"=some (.ref a)/\∀H,ak K H a [.str "box",.str "pick"]
 vT:∃u,mg "FROM"=some u/\RelV (.ref (cr mg "FROM")) u
 MB:∃u,mg "TO"=some u/\RelV (.ref (cr mg "TO")) u
 kH:∃a,mg "STEP_WORDS"=some (.ref a)/\KD w K a [(.inr "box",.str "part"),(.inr "pick",.str "case")]
 wQ:gu K mg "heads_of" jL ["T"]
 yA:gu K mg "rows_of" kX ["T"]
 wM:gu K mg "names_in" iZ ["head"]
 tF:gu K mg "head_with" i8 ["head","names"]
 wC:gu K mg "steps_in" iW ["head"]
 vQ:gu K mg "moves_in" iY ["head","rows"]
 a05:gu K mg "reached" lG ["net","first"]
 mE:gu K mg "class_numbers" e9 ["net","rows"]
 rA:gu K mg "sources_of" gK ["net","rows"]
 zU:gu K mg "part_by" lE ["parting","sources","at"]
 yJ:gu K mg "name_of" lI ["k"]
 a2e:gu K mg "least" qT ["T","x"]
 wE:gu K mg "_law_fill" j8 ["_law_cell","_law_at"]
 wH:gu K mg "_law_next" iX ["_law_pen","_law_many"]
 qQ:gu K mg "_law_turned" gG ["_law_pen","_law_some"]
 uI:gu K mg "_law_words" hV ["_law_pen"]
 vZ:gu K mg "_law_head" jM ["_law_pen","_law_names","_law_ahead"]
 oR:gu K mg "_law_telling" fU ["_law_pen","_law_most"]
 a06:gu K mg "_law_any" kR ["_law_pen","_law_told"]
 mG:gu K mg "_law_twin_head" eB ["_law_pen","_law_here"]
 vK:gu K mg "_law_twin" jJ ["_law_pen","_law_told"]
 nX:gu K mg "_law_row_here" eX ["_law_told","_law_name"]
 mB:gu K mg "_law_head_here" eA ["_law_told","_law_name"]
 a15:gu K mg "_law_on" mY ["_law_told","_law_name"]
 oY:gu K mg "_law_parting" fT ["_law_told","_law_name","_law_other","_law_twin_name"]
 zI:gu K mg "_law_met" kK ["_law_told","_law_name"]
 S1:gu K mg "law" nZ ["script"]
 Au:Dm K mg "Net" "Net.__init__" j7 ["self","T"] ["rows","heads","marks","moves"] (cr mg "Net")
 bG:Dm K mg "Parting" "Parting.__init__" fF ["self"] ["members","number","waiting","waits"] 'j'
 adl:By K mg "Parting" "begin" "Parting.begin" dY ["self","rows"]
 adm:By K mg "Parting" "put_off" "Parting.put_off" dJ ["self","at"]
 adn:By K mg "Parting" "take_waiting" "Parting.take_waiting" cD ["self"]
 ado:By K mg "Parting" "part" "Parting.part" fE ["self","rows"]
theorem fL:fj ["self","T"] ["self","T"] (b_ j7):='d'
theorem mI:fj ["self"] ["self"] (b_ fF):='d'
theorem cU:fj ["self","rows","at","row"] ["self","rows"] (b_ dY):='d'
theorem jC:fj ["self","at"] ["self","at"] (b_ dJ):='d'
theorem d9:fj ["self","at"] ["self"] (b_ cD):='d'
theorem cI:fj ["self","rows","at","staying","row","new"] ["self","rows"] (b_ fE):='d'
theorem lV:fj ["T"] ["T"] (b_ jL):='d'
theorem dN:fj ["T","heads","rows","name","row"] ["T"] (b_ kX):='d'
theorem m7:fj ["head"] ["head"] (b_ iZ):='d'
theorem jP:fj ["head","names"] ["head","names"] (b_ i8):='d'
theorem m8:fj ["head"] ["head"] (b_ iW):='d'
theorem m6:fj ["head","rows"] ["head","rows"] (b_ iY):='d'
theorem cS:fj ["net","first","come_by","waiting","at","row","step","end"] ["net","first"] (b_ lG):='d'
theorem bP:fj ["net","rows","parting","by_marks","row","many","sources"] ["net","rows"] (b_ e9):='d'
theorem cM:fj ["net","rows","sources","row","step","end"] ["net","rows"] (b_ gK):='d'
theorem cE:fj ["parting","sources","at","leading","end","step","row","rows","touched","many"] ["parting","sources","at"] (b_ lE):='d'
theorem gU:fj ["k","signs"] ["k"] (b_ lI):='d'
theorem bX:fj ["T","x","net","met","number","firsts","row","called","rows","at","ends"] ["T","x"] (b_ qT):='d'
theorem hX:fj ["_law_cell","_law_at","_law_x"] ["_law_cell","_law_at"] (b_ j8):='d'
theorem dA:fj ["_law_pen","_law_many","_law_at","_law_cell","_law_found"] ["_law_pen","_law_many"] (b_ iX):='d'
theorem fS:fj ["_law_pen","_law_some","_law_left","_law_found"] ["_law_pen","_law_some"] (b_ gG):='d'
theorem k8:fj ["_law_pen"] ["_law_pen"] (b_ hV):='d'
theorem fM:fj ["_law_pen","_law_names","_law_ahead","_law_way","_law_one"] ["_law_pen","_law_names","_law_ahead"] (b_ jM):='d'
theorem cR:fj ["_law_pen","_law_most","_law_size","_law_names","_law_rows","_law_k"] ["_law_pen","_law_most"] (b_ fU):='d'
theorem vR:fj ["_law_pen","_law_told"] ["_law_pen","_law_told"] (b_ kR):='d'
theorem dM:fj ["_law_pen","_law_here"] ["_law_pen","_law_here"] (b_ eB):='d'
theorem fO:fj ["_law_pen","_law_told","_law_rows","_law_name","_law_here"] ["_law_pen","_law_told"] (b_ jJ):='d'
theorem dZ:fj ["_law_told","_law_name","_law_rows"] ["_law_told","_law_name"] (b_ eX):='d'
theorem kP:fj ["_law_told","_law_name"] ["_law_told","_law_name"] (b_ eA):='d'
theorem cV:fj ["_law_told","_law_name","_law_here","_law_found"] ["_law_told","_law_name"] (b_ mY):='d'
theorem aS:fj ["_law_told","_law_name","_law_other","_law_twin_name","_law_layer","_law_met","_law_later","_law_road","_law_a","_law_b","_law_ones","_law_others","_law_one","_law_two_here"] ["_law_told","_law_name","_law_other","_law_twin_name"] (b_ fT):='d'
theorem cG:fj ["_law_told","_law_name","_law_layer","_law_found","_law_later","_law_road","_law_here","_law_step","_law_other"] ["_law_told","_law_name"] (b_ kK):='d'
theorem dG:fj ["script","_law_pen","_law_k","_law_told","_law_name","_law_found","_law_names","_law_at","_law_one"] ["script"] (b_ nZ):='d'
def uk(K:Q0)(b:Str->cv)(w:World):Prop:=∃a:List (Addr×Obj×bY),(∀t∈a,Gr K t)/\(a.map (·.1)).Nodup/\Txt (without K (a.map (·.1))) b w/\∀H:Hp,(∀t∈a,H t.1=some (.af t.2.1 (.tup t.2.2)))->Kn b H "FROM" [.str "from"]/\Kn b H "TO" [.str "to"]
section
variable{K:Q0}
inductive MC (vs:bY)(H:Hp)(Q:VK)(bz:XK):Prop
 |mk (c t:Int):vs=[.int c,.int t]->0<=t/\t<1000000000->(∀r:Int,Q (.int r) H)->MC vs H Q bz
theorem tU(T:Txt K mg w):bq P w K mg base 1 "_law_fill" ["_law_cell","_law_at"] MC:=by
 refine T.wE.gw hX ?_ ?_
 ·rintro _ _ _ _ ⟨c,t,rfl,_⟩;rfl
 ·rintro f j A a s H l Q E m ⟨c,t,rfl,⟨n,e⟩,k⟩;refine⟨_,(aE (dE (aP Px (zv 0) (bW YX aH aH)) (aF (aZ (zv 0))) bM)
   (aE (aJ 2 hX.nd (bW dR (bW bS (bW bS (bW eI (bW dR (zv 0) aH) aH) (bW eI (zv 1) aH)) aH) aH))
   (aE (aJ 2 hX.nd (bW dR (bW bS (bW bS (bW eI (zv 2) (zv 2)) (bW eI aH (zv 2))) (zv 1)) aH))
   (aF (aZ (bW bS (bW eI (zv 2) aH) (bW dR (bW bS (bW eI (zv 2) (zv 2)) (bW eI aH (zv 1))) aH))))))),?_⟩
  refine⟨⟨by decide,by decide,by decide⟩,_,rfl,F9 (λg=>k _) (λg=>?_)⟩;refine⟨by decide,.inl ⟨?_,?_⟩,.inl ⟨by lia,by lia⟩,by decide,?_⟩
  ·have:=Int.emod_nonneg c (show(2147483647:Int)≠0 by decide);lia
  ·have:=ot c (show(0:Int)<2147483647 by decide);lia
  generalize b:(c % 2147483647*48271+t*69621+11) % 2147483629=x;have o:0<=x:=by rw[<- b];exact Int.emod_nonneg _ (by decide)
  have h:x<2147483629:=by rw[<- b];exact ot _ (by decide)
  refine⟨.inl ⟨by lia,by lia⟩,.inl ⟨by decide,by decide⟩,by decide,?_⟩;generalize d:(x*x+48271*x+t) % 2147483587=y;have p:0<=y:=by rw[<- d];exact Int.emod_nonneg _ (by decide)
  have i:y<2147483587:=by rw[<- d];exact ot _ (by decide)
  exact⟨.inl ⟨by lia,by lia⟩,.inl ⟨by lia,by lia⟩,.inl ⟨by decide,by decide⟩,by decide,k _⟩
inductive S3 (K:Q0)(vs:bY)(H:Hp)(Q:VK)(bz:XK):Prop
 |mk (p a:Addr) (ns:List Int) (m t x:Int):vs=[.ref p,.int m]->H p=be [.ref a,.int t,.int x]->(∀o,ai K (upd H p o) a (ns.map V.int))->ai K H a (ns.map V.int)->0<=t/\t<1000000->0<m/\m<1073741824->(∀r t' x':Int,0<=r->r<m->0<=t'->t'<=t+1->Q (.int r) (upd H p (.lst [.ref a,.int t',.int x'])))->S3 K vs H Q bz
theorem GW(x y z:α):qe [x,y,z] 0=some x:=rfl
theorem B2(x y z:α):qe [x,y,z] 1=some y:=rfl
theorem MD(x y z:α):qe [x,y,z] 2=some z:=rfl
theorem t9(T:Txt K mg w):bq P w K mg base 2 "_law_next" ["_law_pen","_law_many"] (S3 K):=by
 refine T.wH.gw dA ?_ ?_
 ·rintro _ _ _ _ ⟨p,a,b,m,t,x,rfl,_⟩;rfl
 ·rintro f bf A n s H vs Q E hr ⟨p,a,b,m,t,x,rfl,g,Mg,i,⟨q,ab⟩,⟨u,GX⟩,k⟩;refine⟨_,(aE (dE (aP o7 (aQ K (zv 0) aH) (zv 1)) (aE (aJ 2 dA.nd (aQ K (zv 0) aH))
   (aE (aJ 3 dA.nd aH)
   (aE (dE (aP o7 (zv 2) (bJ (aY K) T.ph dv (aN (aQ K (zv 0) aH) aC))) (aF (aJ 3 dA.nd (aQ K (aQ K (zv 0) aH) (zv 2)))) (aF (dE (aP Pw (bJ (aY K) T.ph dv (aN (aQ K (zv 0) aH) aC)) aH) (aF (aJ 3 dA.nd (bW bS (bW dR (aQ K (aQ K (zv 0) aH) (bW dR (bW eI (zv 2) aH) (bJ (aY K) T.ph dv (aN (aQ K (zv 0) aH) aC)))) aH) (bW eI (zv 2) aH)))) bM)))
   (aE (Le (bW bS (zv 2) aH) (Lf (zv 0) aH oQ))
   (aF (Le (aT (tU T) hr (aD (zv 3) (aD (zv 2) aC))) (Lf (zv 0) aH oQ))))))) bM)
   (aE (aJ 4 dA.nd (bW dR (aQ K (zv 0) aH) (zv 1)))
   (aE (Le (bW xU (aQ K (zv 0) aH) (zv 1)) (Lf (zv 0) aH oQ))
   (aF (aZ (zv 4)))))),?_⟩
  refine aL (λd h=>X4 fun(L N:cp)(j l:Int)=>d=[aa p,iq m,L,N,none]/\h p=be [.ref a,.int j,.int l]/\(h=H\/∃o,h=upd H p o)/\0<=j/\j<=t+1) ?_ ?_
  ·intro nx R;refine⟨_,.int x,.inl (ai.of g),MD _ _ _,_,rfl,F9 (λhk=>?_) (λhk=>?_)⟩
   ·refine aI ⟨_,.int t,.inl (ai.of g),B2 _ _ _,?_⟩;refine pL ?_;refine aL (λd h=>h=H/\∃c:Int,d=[aa p,iq m,iq t,iq c,none]) ?_ ?_
    ·intro Ff y;refine⟨_,.ref a,.inl (ai.of g),GW _ _ _,.inl ⟨_,.inl i,_,rfl,F9 (λz=>?_) (λz=>?_)⟩⟩
     ·obtain⟨c,sr,qy⟩:=oI (b.map V.int) t q (by have:=Qt z;lia);have C:t.toNat<b.length:=by
       have:=Qt z;rw[Ql]at this;lia
      have D:c=.int (b[t.toNat]):=by
       rw[Qq,Qa C]at sr;exact(QE sr).symm
      subst D;exact⟨_,.ref a,.inl (ai.of g),GW _ _ _,_,_,.inl i,qy,y _ _ ⟨rfl,_,rfl⟩⟩
     ·refine⟨_,.ref a,.inl (ai.of g),GW _ _ _,.inl ⟨_,.inl i,_,rfl,F9 (λBg=>?_) (λBg=>?_)⟩⟩
      ·have G:=Qt Bg;have af:0<(b.map V.int).length:=by lia
       have e0:=Int.emod_nonneg (t*7) (show((b.map V.int).length:Int)≠0 by lia);have e1:=ot (t*7) (show(0:Int)<(b.map V.int).length by lia);obtain⟨c,sr,qy⟩:=oI (b.map V.int) (t*7 % ((b.map V.int).length:Int)) e0 e1;have C:(t*7 % ((b.map V.int).length:Int)).toNat<b.length:=by
        have e2:(b.map V.int).length=b.length:=Ql _
        lia
       have D:c=.int (b[(t*7 % ((b.map V.int).length:Int)).toNat]):=by
        rw[Qq,Qa C]at sr;exact(QE sr).symm
       subst D;refine⟨_,.ref a,.inl (ai.of g),GW _ _ _,.inl ⟨by lia,by lia⟩,_,.ref a,.inl (ai.of g),GW _ _ _,.inl ⟨_,.inl i,G,_,_,.inl i,qy,by decide,.inl ⟨by lia,by lia⟩,y _ _ ⟨rfl,_,rfl⟩⟩⟩
      ·exact y _ _ ⟨rfl,0,rfl⟩
    ·rintro d h ⟨rfl,c,rfl⟩;refine⟨p,_,1,1,rfl,rfl,g,rfl,?_⟩;refine⟨c,t,rfl,⟨q,by lia⟩,λr=>?_⟩;refine⟨p,_,2,2,rfl,rfl,aA,rfl,?_⟩;rw[iK];exact R _ _ ⟨_,_,t+1,r,rfl,aA,.inr ⟨_,rfl⟩,by lia,by lia⟩
   ·exact R _ _ ⟨none,none,t,x,rfl,g,.inl rfl,q,by lia⟩
  ·rintro d h ⟨L,N,j,l,rfl,I,h2,h3,h4⟩;refine⟨_,.int l,.inl (ai.of I),MD _ _ _,u,?_⟩;refine⟨_,.int l,.inl (ai.of I),MD _ _ _,⟨u,GX⟩,p,_,2,2,rfl,rfl,I,rfl,?_⟩;have e:∀o,upd h p o=upd H p o:=λo=>by
    rcases h2 with rfl|⟨o',rfl⟩
    ·rfl
    ·exact iK
   rw[e];exact k _ j _ (Int.emod_nonneg _ (by lia)) (ot _ u) h3 h4
structure dc(K:Q0)(H0 H:Hp)(p:Addr)(t:Nat):Prop where
 ex:∃(a:Addr)(ns:List Int)(u x:Int),H p=some (.lst [.ref a,.int u,.int x])/\(∀U,Sm p p H0 U->ai K U a (ns.map V.int))/\0<=u/\u<=(t:Int)
 sm:Sm p p H0 H
section
variable{D:Addr}{t u:Nat}{o:HO}
theorem dc.mono(h:dc K H0 H p t)(l:t<=u):dc K H0 H p u:=by
 obtain⟨a,ns,y,x,Y,h2,h3,h4⟩:=h.ex;exact⟨⟨a,ns,y,x,Y,h2,h3,by lia⟩,h.sm⟩
theorem dc.same(h:dc K H0 H p t)(s:ae H U):dc K H0 U p t:=by
 obtain⟨a,ns,y,x,Y,h2⟩:=h.ex;exact⟨⟨a,ns,y,x,s _ _ Y,h2⟩,h.sm.trans s.sm⟩
theorem dc.ne(h:dc K H0 H p t)(a:H D=none):D≠p:=λe=>by
 obtain⟨_,_,_,_,z,_⟩:=h.ex;rw[<- e,a]at z;cases z
theorem dc.free(h:dc K H0 H p t)(a:H D=none):H0 D=none:=h.sm.free a (h.ne a) (h.ne a)
theorem dc.put(h:dc K H0 H p t)(b:D≠p)(c:H0 D=none):dc K H0 (upd H D o) p t:=by
 obtain⟨a,ns,y,x,e1,e2⟩:=h.ex;exact⟨⟨a,ns,y,x,by rw[aB b.symm];exact e1,e2⟩,h.sm.upd c⟩
theorem dc.ts(h:dc K H0 H p t)(s:Sm p p H U):Tk H U:=λb a e=>by
 obtain⟨_,_,_,_,z,_⟩:=h.ex;have n:b≠p:=λq=>by rw[q,z]at e;cases e
 exact s _ _ e n n
end
inductive A1 (K:Q0)(vs:bY)(H:Hp)(Q:VK)(bz:XK):Prop
 |mk (H0:Hp) (p:Addr) (m:Int) (t:Nat):vs=[.ref p,.int m]->dc K H0 H p t->0<m/\m<1073741824->t<900000->(∀(r:Int)(U:Hp),0<=r->r<m->dc K H0 U p (t+1)->Sm p p H U->Q (.int r) U)->A1 K vs H Q bz
theorem Fm(h:j<n):Bc n (j:Int)=some j:=by
 unfold Bc;rw[if_pos (by lia),if_pos (by lia)];simp
theorem nL{a:Type}:∀{ls:List a}{i:Nat}(h:i<ls.length),(ls[i]::ls.eraseIdx i).Perm ls
 |x::r,0,_=>List.Perm.refl _
 |x::r,i+1,h=>by
  have ih:=nL (ls:=r) (i:=i) (by simpa using h);exact(List.Perm.swap _ _ _).trans (ih.cons x)
theorem cF(T:Txt K mg w):bq P w K mg base 2 "_law_next" ["_law_pen","_law_many"] (A1 K):=(t9 T).imp λl H Q E h=>by
 obtain⟨H0,p,m,t,rfl,hn,hm,ht,k⟩:=h;obtain⟨a,ns,u,x,Y,h2,h3,h4⟩:=hn.ex;have c:∀o,Sm p p H (upd H p o):=λo b u d n _=>by rw[aB n];exact d
 refine⟨p,a,ns,m,u,x,rfl,Y,λo=>h2 _ (hn.sm.trans (c o)),h2 _ hn.sm,⟨h3,by lia⟩,hm,λr e f g i j q=>?_⟩;exact k r _ g i ⟨⟨a,ns,e,f,aA,h2,j,by push_cast;lia⟩,hn.sm.trans (c _)⟩ (c _)
inductive Jh (K:Q0)(vs:bY)(H:Hp)(Q:VK)(bz:XK):Prop
 |mk (H0:Hp) (p a:Addr) (xs:bY) (t:Nat):vs=[.ref p,.ref a]->dc K H0 H p t->t+100<900000->ai K H a xs\/ak K H a xs->xs.length<=100->(∀(L:Addr)(J:bY)(U:Hp),H L=none->U L=be J->J.Perm xs->dc K H0 U p (t+100)->Sm p p H U->Q (.ref L) U)->Jh K vs H Q bz
theorem iR(T:Txt K mg w):bq P w K mg base 3 "_law_turned" ["_law_pen","_law_some"] (Jh K):=by
 refine T.qQ.gw fS ?_ ?_
 ·rintro _ _ _ _ ⟨y,p,a,l,t,rfl,_⟩;rfl
 ·rintro f bf A ab s H vs Q E hr ⟨y,p,a,l,t,rfl,z,ht,ha,hx,k⟩;obtain⟨hu,gk,hsz⟩:=d5 hr;refine⟨_,(aE (aJ 2 fS.nd (fQ (qA K) T.qJ pk (aD (zv 1) aC)))
   (aE (aJ 3 fS.nd (bV aC))
   (aE (fK PassesOwn.never (aP (oP gk) (zv 2) (bV aC)) (aF (bZ (jG K QJ QK QL bF (zv 3) (aV (jG K QJ PySem.F.slot_list_pop PySem.F.type_list_pop XX (zv 2) (aV (aT (cF T) hr (aD (zv 0) (aV (bJ (aY K) T.ph dv (aD (zv 2) aC)) aC))) aC)) aC)))))
   (aF (aZ (zv 3)))))),?_⟩
  refine aI ⟨a,l,rfl,ha,λn L=>?_⟩;refine aI ⟨o_,λj C=>?_⟩;have D:=ae.upd L (.lst l);have s2:=ae.upd C (.lst []);have e0:n≠p:=z.ne L;have e1:j≠p:=(z.same D).ne C;have S4:n≠j:=aO aA C;have f0:=z.free L;have f1:=(z.same D).free C;have g0:upd (upd H n (.lst l)) j (.lst []) n=be l:=s2 _ _ aA;have g1:upd (upd H n (.lst l)) j (.lst []) j=be []:=aA;have G:=(z.same D).same s2;have A2:Sm p p H (upd (upd H n (.lst l)) j (.lst [])):=(D.trans s2).sm
  (try dsimp only)
  generalize upd (upd H n (.lst l)) j (.lst [])=H2 at g0 g1 G A2;have ME:H n=none:=L;have S5:H j=none:=D.free C;refine aL (λg o=>∃e,g=[aa p,aa a,aa n,aa j]/\o j=be e/\e.Perm l/\dc K y o p (t+100)/\Sm p p H o) ?_ ?_
  ·intro nx ck;refine⟨λm g o=>X2 fun(d e:bY)=>g=[aa p,aa a,aa n,aa j]/\o n=be d/\o j=be e/\d.length=m/\(e++d).Perm l/\dc K y o p (t+e.length)/\Sm p p H o,⟨l.length,l,[],rfl,g0,g1,rfl,by simp,G,A2⟩,?_⟩;rintro m g H3 ⟨d,e,rfl,q0,N,q2,u,R,q5⟩;have ag:e.length+d.length=l.length:=by have:=u.length_eq;rw[Qk]at this;exact this
   refine⟨o_,λb V=>⟨aO q0 V,d,(ae.upd V _) _ _ q0,aA,_,rfl,gy (λc=>?_) (λc=>?_)⟩⟩
   ·have q:=ae.upd V (.lst []);have S6:=R.same q;have EX:=q _ _ q0;have Di:=q _ _ N;have S7:=q5.trans q.sm;generalize upd H3 b (.lst [])=H4 at S6 EX Di S7;have ah:0<d.length:=by
     cases d with
     |nil=>exact absurd c (by decide)
     |cons x r=>simp
    refine⟨λg I=>∃m',m'<m/\X2 fun(d e:bY)=>g=[aa p,aa a,aa n,aa j]/\I n=be d/\I j=be e/\d.length=m'/\(e++d).Perm l/\dc K y I p (t+e.length)/\Sm p p H I,λg I h=>h,?_⟩;refine⟨.inl ⟨rfl,e,ai.of Di⟩,.inl ⟨rfl,d,ai.of EX⟩,.inl ⟨d,.inl (ai.of EX),y,p,_,_,rfl,S6,⟨by lia,by lia⟩,by lia,λr H5 r0 r1 rj ju=>?_⟩⟩;obtain⟨i,rfl⟩:∃i:Nat,r=(i:Int):=⟨r.toNat,by lia⟩
    have hi:i<d.length:=by lia
    have p0:=ju _ _ EX e0 e0;have p1:=ju _ _ Di e1 e1;refine⟨n,d,(i:Int),i,d[i],rfl,rfl,p0,by lia,by lia,(qK (Fm hi)).1,Qa hi,j,e,d[i],rfl,rfl,by rw[aB S4.symm];exact p1,by lia,d.length-1,by lia,d.eraseIdx i,e++[d[i]],rfl,by rw[aB S4];exact aA,aA,?_,?_,?_,(S7.trans ju).upd ME |>.upd S5⟩
    ·rw[List.length_eraseIdx,if_pos hi]
    ·rw[QQ];exact((nL hi).append_left e).trans u
    ·rw[Qk];exact(rj.put e0 f0).put e1 f1
   ·have af:d=[]:=by
     cases d with
     |nil=>rfl
     |cons x r=>exact absurd c (by simp)
    subst af;rw[QR]at u;have q:=ae.upd V (.lst []);exact ck _ _ ⟨e,rfl,q _ _ N,u,(R.same q).mono (by have:=u.length_eq;lia),q5.trans q.sm⟩
  ·rintro g o ⟨e,rfl,N,q2,u,R⟩;exact k j e o S5 N q2 u R
def DN:aU:=["a","ab","b","ba"]
def GY:aU:=["case","from","part","to"]
def WW:aU:=DN++GY
theorem S8:∀z∈WW,ce z=true/\Wd z:=λz a=>by
 simp only[WW,DN,GY,hE,iQ,Qp,QB,or_false]at a;rcases a with rfl|rfl|rfl|rfl|rfl|rfl|rfl|rfl<;>exact⟨by decide+kernel,fX (by decide) (by decide)⟩
structure WN(os:aU):Prop where
 Dg:rising os=true
 len:os.length<=4
 ww:∀z∈os,z∈WW
theorem pwA:DN.Pairwise λa b=>vj a b=true:=by decide+kernel
theorem pwB:GY.Pairwise λa b=>vj a b=true:=by decide+kernel
theorem WN.of{b os:aU}(c:b=DN\/b=GY)(s:os.Sublist b):WN os:=by
 rcases c with rfl|rfl
 ·exact⟨gI (pwA.sublist s),s.length_le,λz a=>zH.mpr (.inl (s.subset a))⟩
 ·exact⟨gI (pwB.sublist s),s.length_le,λz a=>zH.mpr (.inr (s.subset a))⟩
inductive MF (K:Q0)(vs:bY)(H:Hp)(Q:VK)(bz:XK):Prop
 |mk (H0:Hp) (p:Addr) (t:Nat):vs=[.ref p]->dc K H0 H p t->t+5<900000->(∀(L:Addr)(os:aU)(U:Hp),H L=none->U L=be (os.map V.str)->WN os->dc K H0 U p (t+5)->Sm p p H U->Q (.ref L) U)->MF K vs H Q bz
theorem qM(T:Txt K mg w):bq P w K mg base 3 "_law_words" ["_law_pen"] (MF K):=by
 refine T.uI.gw k8 ?_ ?_
 ·rintro _ _ _ _ ⟨j,p,t,rfl,_⟩;rfl
 ·rintro f bf A y s H vs Q E R ⟨j,p,t,rfl,hn,ht,k⟩;obtain⟨hu,gk,hsz⟩:=d5 R;refine⟨_,(aF (aZ (PP (own:=["_law_word"]) (idx:=[0]) (N':=["_law_word","_law_pen"]) (cL k8) rfl (jF K (bV (aG bA (aG bA (aG bA (aG bA aC)))))) (λ_ _ _ _ _ _=>(bD 0)) (λ_ _ _ _ _ _=>(PN (aP (fC gk) (aT (cF T) R (aD (zv 1) (aG aH aC))) aH))) (λ_ _ _ _ _ _=>(zv 0))))),?_⟩;refine⟨Ap,λS je=>?_⟩;have C:=ae.upd je (.lst [V.str "a",V.str "ab",V.str "b",V.str "ba"]);have S9:upd H S (.lst [V.str "a",V.str "ab",V.str "b",V.str "ba"]) S=be (DN.map V.str):=aA;have l:=(hn.same C).mono (u:=t+1) (by lia);have eS:S≠p:=hn.ne je;generalize upd H S (.lst [V.str "a",V.str "ab",V.str "b",V.str "ba"])=H4 at C S9 l⊢;obtain⟨a,hb,gS⟩:∃a:aU,(a=DN\/a=GY)/\H4 S=be (a.map V.str):=⟨DN,.inl rfl,S9⟩
  have ab:a.length=4:=by rcases hb with rfl|rfl<;>rfl
  have Ji:Sm p p H H4:=C.sm;refine Or.inl ⟨⟨_,ai.of gS⟩,λD d=>?_⟩;have g:D≠p:=l.ne d;have Jj:D≠S:=λe=>by rw[e,gS]at d;cases d
  have fD:j D=none:=l.free d;have G:H D=none:=Ji.free d g g;refine fW (bI (a.map V.str)) (λi m h=>X2 fun(v:cp)(b:aU)=>m=[v,aa p]/\h D=be (b.map V.str)/\b.Sublist (a.take i)/\h S=be (a.map V.str)/\dc K j h p (t+1+i)/\Sm p p H h)
   ⟨none,[],rfl,aA,List.Sublist.refl _,by rw[aB Jj.symm];exact gS,l.same (ae.upd d _),Ji.upd G⟩ (by rintro i m h _ ⟨_,_,_,_,_,q,_⟩;exact ai.of q) ?_ ?_
  ·rintro i m H5 I ⟨v,b,rfl,L,c,q4,n,o⟩;rw[Ql]at I;rw[iB a i I];have N:a.take (i+1)=a.take i++[a.getD i ""]:=by
    rw[Qs,Qb,Qa I];rfl
   generalize a.getD i ""=z at N;have BF:b.length<=i:=by have:=c.length_le;simp at this;lia
   refine⟨j,p,2,t+1+i,rfl,n,⟨by decide,by decide⟩,by lia,λr H6 r0 r1 S_ x=>?_⟩;refine⟨rfl,_,rfl,?_⟩;have g4:=x _ _ q4 eS eS;have g1:=x _ _ L g g;refine gy (λ_=>?_) (λ_=>?_)
   ·exact⟨_,g1,by rw[Ql];exact Yp (by lia),_,b++[z],rfl,by rw[aA,Qm];rfl,by rw[N];exact c.append (List.Sublist.refl _),by rw[aB Jj.symm];exact g4,S_.put g fD,(o.trans x).upd G⟩
   ·exact⟨_,b,rfl,g1,by rw[N];exact c.trans (List.sublist_append_left _ _),g4,S_,o.trans x⟩
  ·rintro m H5 ⟨v,b,rfl,L,c,q4,n,o⟩;rw[Ql]at c n;rw[Qo]at c;exact k D b H5 G L (WN.of hb c) (n.mono (by lia)) o
structure uv(H:Hp)(l:Addr)(ss:aU):Prop where
 e:H l=some (.lst (ss.map V.str))
 ne:ss≠[]
 few:ss.length<=60
 wd:∀z∈ss,Wd z
theorem Tc{t:Nat}{b:aU}(h:uv H l b)(c:dc K H0 H p t):l≠p:=λq=>by
 obtain⟨_,_,_,_,z,_⟩:=c.ex;have e:=h.e;have ne:=h.ne;rw[q,z]at e;cases b with
 |nil=>exact ne rfl
 |cons a r=>cases e
theorem uv.nx{t:Nat}{a:aU}(h:uv H l a)(b:dc K H0 H p t)(s:Sm p p H U):uv U l a:=⟨s _ _ h.e (Tc h b) (Tc h b),h.ne,h.few,h.wd⟩
theorem uv.same{a:aU}(h:uv H l a)(s:ae H U):uv U l a:=⟨s _ _ h.e,h.ne,h.few,h.wd⟩
theorem uv.at{H:Hp}{l:Addr}{a:aU}(h:uv H l a)(r:Int)(h0:0<=r)(b:r<a.length):∃z,qe (a.map V.str) r=some (.str z)/\a[r.toNat]? =some z/\Wd z:=by
 obtain⟨c,sr,qy⟩:=oI (a.map V.str) r h0 (by rw[Ql];exact b);rw[Qq]at sr;cases e:a[r.toNat]? with
 |none=>rw[e]at sr;cases sr
 |some z=>
  rw[e]at sr;cases sr;exact⟨z,qy,rfl,h.wd z (QD e)⟩
theorem uv.pos{a:aU}(h:uv H l a):0<a.length:=List.length_pos_iff.mpr h.ne
def Hm(a:aU)(k:Nat)(o:Option Str):Prop:=∀y,o=some y->∃i,i<k/\a[i]? =some y
inductive MG (K:Q0)(vs:bY)(H:Hp)(Q:VK)(bz:XK):Prop
 |mk (H0:Hp) (p nm:Addr) (k t:Nat) (ns:aU):vs=[.ref p,.ref nm,.int (k:Int)]->dc K H0 H p t->t+20<900000->uv H nm ns->(∀z∈ns,ce z=true)->k<=ns.length->(∀(v:V)(U:Hp),vm U ns WW v (Hm ns k)->dc K H0 U p (t+20)->Sm p p H U->Q v U)->MG K vs H Q bz
theorem sG(T:Txt K mg w):bq P w K mg base 4 "_law_head" ["_law_pen","_law_names","_law_ahead"] (MG K):=by
 refine T.vZ.gw fM ?_ ?_
 ·rintro _ _ _ _ ⟨o,p,nm,k,t,ns,rfl,_⟩;rfl
 ·rintro f bf A ab s H vs Q E hr ⟨o,p,nm,ka,t,ns,rfl,hn,ht,tn,Jk,hk,k⟩;obtain⟨hu,gk,hsz⟩:=d5 hr;have ao:=tn.pos;have ap:=tn.few;refine⟨_,(aE (aJ 3 fM.nd (aT (cF T) hr (aD (zv 0) (aG aH aC))))
   (aE (dE (aP o7 (zv 3) aH) (aF (aZ (aQ K (bV (bC (bE (aG bA aC)) (bC (bE (aG bA aC)) aC))) (zv 3)))) bM)
   (aE (dE (Zm (aP (fC gk) (zv 3) aH) (Zl (aP Pw (zv 2) aH))).pt (aF (aZ (bE (aG bA (aN (aQ K (zv 1) (aT (cF T) hr (aD (zv 0) (aD (zv 2) aC)))) aC))))) bM)
   (aE (dE (aP o7 (zv 3) aH) (aE (aJ 4 fM.nd (aQ K (zv 1) (aT (cF T) hr (aD (zv 0) (aV (bJ (aY K) T.ph dv (aD (zv 1) aC)) aC)))))
   (aF (aZ (bE (aG bA (aD (zv 4) (aN (aQ K (zv 1) (aT (cF T) hr (aD (zv 0) (aV (bJ (aY K) T.ph dv (aD (zv 1) aC)) aC)))) aC))))))) bM)
   (aF (aZ (bE (aN (aQ K (bV (aG bA (aG bA aC))) (bW dR (zv 3) aH)) (aV (fQ (dC K) T.dI QH (d6 (gW ["_law_word"] [0,1] ["_law_word","_law_pen","_law_names"] (cL fM) (jF K (aT (qM T) hr (aD (zv 0) aC))) (λ_ _ _ _ _ _=>(bD 0)) (λ_ _ _ _ _ _=>(bE (aD (zv 0) (aN (aQ K (zv 2) (aT (cF T) hr (aD (zv 1) (aV (bJ (aY K) T.ph dv (aD (zv 2) aC)) aC)))) aC))))) aC)) aC))))))))),?_⟩
  refine aI ⟨o,p,10,t,rfl,hn,⟨by decide,by decide⟩,by lia,λu H1 w0 w1 d xn=>?_⟩;have Jl:=tn.nx hn xn;refine aL (λa U=>a=[aa p,aa nm,iq (ka:Int),iq u,none]/\H1=U) ?_ ?_
  ·intro nx ck;refine⟨_,rfl,gy (λc1=>?_) (λc1=>ck _ _ ⟨rfl,rfl⟩)⟩;have LM:u<2:=Qt c1;refine⟨BE,λC mz=>⟨BE,λq2 qh=>⟨jd,λO hO=>?_⟩⟩⟩;have s1:=ae.upd mz (.tup [.str "all"]);have s2:=ae.upd qh (.tup [.str "none"]);have s3:=ae.upd hO (.lst [.ref C,.ref q2]);have sA:=(s1.trans s2).trans s3;have g1:=s3 _ _ (s2 _ _ (aA:upd H1 C (.tup [.str "all"]) C=ff [.str "all"]));have g2:=s3 _ _ (aA:upd (upd H1 C (.tup [.str "all"])) q2 (.tup [.str "none"]) q2=ff [.str "none"]);rcases(show u=0\/u=1 by lia)with rfl|rfl
   ·exact⟨_,.ref C,.inl (ai.of aA),rfl,k _ _ (re g1 (λ_ h=>nomatch h)) ((d.same sA).mono (by lia)) (xn.trans sA.sm)⟩
   ·exact⟨_,.ref q2,.inl (ai.of aA),rfl,k _ _ (J1 g2 (λ_ h=>nomatch h)) ((d.same sA).mono (by lia)) (xn.trans sA.sm)⟩
  rintro a U ⟨rfl,rfl⟩;refine aL (λa U=>a=[aa p,aa nm,iq (ka:Int),iq u,none]/\H1=U) ?_ ?_
  ·intro nx ck;refine⟨rfl,_,rfl,gy (λh2=>⟨_,rfl,gy (λh3=>?_) (λ_=>ck _ _ ⟨rfl,rfl⟩)⟩) (λh2=>gy (λc=>absurd c (by decide)) λ_=>ck _ _ ⟨rfl,rfl⟩)⟩;have ar:(0:Int)<(ka:Int):=Qt h3;refine⟨o,p,(ka:Int),_,rfl,d,⟨by lia,by lia⟩,by lia,λr H2 r0 r1 G A2=>?_⟩;have DO:=Jl.nx d A2;obtain⟨y,MH,Fi,hyw⟩:=DO.at r r0 (by lia);refine⟨_,_,.inl (ai.of DO.e),MH,jd,λc hc=>?_⟩;refine k _ _ (DL aA (Jk _ (QD Fi)) (QD Fi) (λy' e=>?_)) ((G.same (ae.upd hc _)).mono (by lia)) ((xn.trans A2).trans (ae.upd hc _).sm);cases e;exact⟨r.toNat,by lia,Fi⟩
  rintro a U ⟨rfl,rfl⟩;refine aL (λa U=>a=[aa p,aa nm,iq (ka:Int),iq u,none]/\H1=U) ?_ ?_
  ·intro nx ck;refine⟨_,rfl,gy (λc1=>?_) (λc1=>ck _ _ ⟨rfl,rfl⟩)⟩;refine aI (.inl ⟨_,.inl (ai.of Jl.e),o,p,_,_,rfl,d,⟨by rw[Ql];lia,by rw[Ql];lia⟩,by lia,λr H2 r0 r1 G A2=>?_⟩);rw[Ql]at r1;have DO:=Jl.nx d A2;obtain⟨x,hxa,Td,hxw⟩:=DO.at r r0 r1;refine⟨_,_,.inl (ai.of DO.e),hxa,.inl ⟨_,.inl (ai.of DO.e),o,p,_,_,rfl,G,⟨by rw[Ql];lia,by rw[Ql];lia⟩,by lia,λr2 I b0 b1 ux t_=>?_⟩⟩;rw[Ql]at b1;have GZ:=DO.nx G t_;obtain⟨y,MH,Fi,hyw⟩:=GZ.at r2 b0 b1;refine⟨_,_,.inl (ai.of GZ.e),MH,Jc,λb j=>?_⟩;exact k _ _ (DC aA (Jk _ (QD Td)) (Jk _ (QD Fi)) (QD Td) (QD Fi) (λ_ h=>nomatch h)) ((ux.same (ae.upd j _)).mono (by lia)) (((xn.trans A2).trans t_).trans (ae.upd j _).sm)
  rintro a U ⟨rfl,rfl⟩;refine⟨jd,λO hO=>?_⟩;have sO:=ae.upd hO (.lst [.str "box",.str "pick"]);have gO:upd H1 O (.lst [.str "box",.str "pick"]) O=be [.str "box",.str "pick"]:=aA;have Jm:=d.same sO;have Te:=Jl.same sO;have Ti:=xn.trans sO.sm
  (try dsimp only)
  generalize upd H1 O (.lst [.str "box",.str "pick"])=H2 at sO gO Jm Te Ti;obtain⟨so,wx,hso⟩:∃so:Str,qe [V.str "box",V.str "pick"] (u % 2)=cg so/\(so="box"\/so="pick"):=by
   rcases(show u % 2=0\/u % 2=1 by lia)with e|e
   ·rw[e];exact⟨"box",rfl,.inl rfl⟩
   ·rw[e];exact⟨"pick",rfl,.inr rfl⟩
  refine⟨(show(0:Int)<2 by decide),_,_,.inl (ai.of gO),wx,o,p,_,rfl,Jm,by lia,λD l I Av C wn q5 t_=>?_⟩;have q6:Sm p p H I:=Ti.trans t_;have GZ:=Te.nx Jm t_;have BF:=wn.len;have uu:D≠p:=Jm.ne Av;refine Or.inl ⟨⟨_,ai.of C⟩,λm L=>?_⟩;have G0:m≠p:=q5.ne L;have Tj:m≠D:=λe=>by rw[e,C]at L;cases L
  have Tn:H m=none:=q6.free L G0 G0;have f2:o m=none:=q5.free L;have af:m≠nm:=λe=>by rw[e,GZ.e]at L;cases L
  refine fW (bI (l.map V.str)) (λi τ I=>X3 fun(v:cp)(g:bY)(N:cw)=>τ=[v,aa p,aa nm]/\I m=be g/\ky I g (cf N)/\N.map (·.1)=l.take i/\(∀r∈N,∃y,r.2=.str y/\y∈ns/\Wd y)/\I D=be (l.map V.str)/\dc K o I p (t+1+5+i)/\Sm p p H I/\uv I nm ns)
   ⟨none,[],[],rfl,aA,kL,rfl,(λ_ h=>nomatch h),by rw[aB Tj.symm];exact C,(q5.same (ae.upd L _)).mono (by lia),q6.upd Tn,GZ.same (ae.upd L _)⟩ (by rintro i τ H2 _ ⟨_,_,_,_,_,_,_,_,q,_⟩;exact ai.of q) ?_ ?_
  ·rintro i τ H4 hi ⟨v,g,N,rfl,r1,r2,CB,r3,r4,r5,r6,DP⟩;rw[Ql]at hi;rw[iB l i hi];have Fg:l.take (i+1)=l.take i++[l.getD i ""]:=by
    rw[Qs,Qb,Qa hi];rfl
   generalize l.getD i ""=z at Fg;have Dl:N.length=i:=by have:=congrArg List.length CB;simp at this;lia
   have Br:g.length=i:=by have:=r2.1;simp at this;lia
   refine .inl ⟨_,.inl (ai.of DP.e),o,p,_,t+1+5+i,rfl,r5,⟨by rw[Ql];lia,by rw[Ql];lia⟩,by lia,λr H5 a0 a1 ag CC=>?_⟩;rw[Ql]at a1;have zd:=DP.nx r5 CC;obtain⟨n,hna,Fj,MI⟩:=zd.at r a0 a1;refine⟨_,_,.inl (ai.of zd.e),hna,jd,λb j=>?_⟩;have g1:=CC _ _ r1 G0 G0;have g4:=CC _ _ r4 uu uu;have MJ:m≠b:=aO g1 j;have ah:D≠b:=aO g4 j;have G1:Tk H4 H5:=r5.ts CC;have ze:Tk H4 (upd (upd H5 b (.tup [.str z,.str n])) m (.lst (g++[.ref b]))):=(G1.trans (ae.upd j _).ts).set (by rw[aB MJ];exact g1) (by intro _ z;cases z);have al:upd (upd H5 b (.tup [.str z,.str n])) m (.lst (g++[.ref b])) b=ff [.str z,.str n]:=by rw[aB MJ.symm];exact aA
   have am:uv (upd (upd H5 b (.tup [.str z,.str n])) m (.lst (g++[.ref b]))) nm ns:=⟨by rw[aB af.symm];exact(ae.upd j _) _ _ zd.e,zd.ne,zd.few,zd.wd⟩
   refine⟨g,by rw[aB MJ];exact g1,by lia,_,g++[.ref b],N++[(z,.str n)],rfl,aA,jA (r2.ts ze) al,by rw[Qm,CB,Fg];rfl,λR ia=>?_,by rw[aB Tj.symm,aB ah];exact g4,((ag.same (ae.upd j _)).put G0 f2),((r6.trans CC).trans (ae.upd j _).sm).upd Tn,am⟩;rcases zH.mp ia with hx|hx
   ·exact r3 R hx
   ·rw[zO.mp hx];exact⟨n,rfl,QD Fj,MI⟩
  ·rintro τ H4 ⟨v,g,N,rfl,r1,r2,CB,r3,r4,r5,r6,DP⟩;rw[Ql]at CB r5;rw[Qo]at CB;have Dl:N.length=l.length:=by rw[<- CB,Ql]
   have Br:g.length=l.length:=by have:=r2.1;simp at this;lia
   refine⟨m,g,rfl,.inl ⟨ai.of r1,λc hc=>⟨jd,λb j=>?_⟩⟩⟩;have s5:=ae.upd hc (.tup g);have s6:=ae.upd j (.tup [.str so,.ref c]);have gc:=s6 _ _ (aA:upd H4 c (.tup g) c=ff g);have oi:∀R∈N,R.1∈l:=λR ia=>by rw[<- CB];exact Z2.mpr ⟨R,ia,rfl⟩
   have tk:=s5.ts.trans s6.ts;have an:=Z1 (r2.ts tk) (λR ia=>(S8 _ (wn.ww _ (oi R ia))).1) (λR ia=>by obtain⟨y,e1,e2,_⟩:=r3 R ia;exact⟨y,e1,e2,Jk y e2⟩) (by rw[CB];exact wn.Dg);exact k _ _ (vW hso aA gc (by lia) an (λq hq=>by obtain⟨q',lh,rfl⟩:=Z2.mp hq;exact wn.ww _ (oi q' lh)) (λ_ h=>nomatch h)) ((r5.same (s5.trans s6)).mono (by lia)) (r6.trans (s5.trans s6).sm)
def N8:aU:=["x","xa","xb","y","ya","z","ka","kb"]
theorem tY:∀z∈N8,ce z=true/\Wd z:=λz a=>by
 simp only[N8,Qp,QB,or_false]at a;rcases a with rfl|rfl|rfl|rfl|rfl|rfl|rfl|rfl<;>exact⟨by decide+kernel,fX (by decide) (by decide)⟩
theorem AO:N8.Nodup:=by decide+kernel
theorem yK{J:bY}{l:aU}(h:J.Perm (l.map V.str)):∃zs:aU,zs.Perm l/\J=zs.map V.str:=by
 refine⟨J.map Dh,?_,?_⟩
 ·have:=h.map Dh;rw[Qn]at this;have e:(Dh∘V.str)=(id:Str->Str):=rfl;rw[e,List.map_id]at this;exact this
 ·rw[Qn];have:∀y∈J,(V.str∘Dh) y=y:=λy a=>by
   obtain⟨z,_,rfl⟩:=Z2.mp (h.mem_iff.mp a);rfl
  rw[List.map_congr_left this,List.map_id']
theorem rZ{e:Type}{R:α->e->Prop}{xs J:List α}(p:J.Perm xs):∀{d:List e},Paired R xs d->∃c,c.Perm d/\Paired R J c:=by
 induction p with
 |nil=>intro d h;cases h;exact⟨[],.refl _,.nil⟩
 |cons x p ih=>
  intro d h;cases h with
  |cons a b=>
   obtain⟨c,q1,q2⟩:=ih b;exact⟨_::c,q1.cons _,.cons a q2⟩
 |swap x y l=>
  intro d h;cases h with
  |cons a h=>
   cases h with
   |cons b h=>exact⟨_::_::_,.swap _ _ _,.cons b (.cons a h)⟩
 |trans p1 p2 ih1 ih2=>
  intro d h;obtain⟨r1,a1,b1⟩:=ih2 h;obtain⟨r2,a2,b2⟩:=ih1 b1;exact⟨r2,a2.trans a1,b2⟩
theorem jW{c d e:Type}{R:c->d->Prop}{g:e->d}:∀{xs:List c}{f:List e},Paired R xs (f.map g)->Paired (λx r=>R x (g r)) xs f
 | [],[],.nil=>.nil
 |_::_,_::_,.cons a b=>.cons a (jW b)
theorem o5{c d e:Type}{R:c->d->Prop}{g:e->d}:∀{xs:List c}{f:List e},Paired (λx r=>R x (g r)) xs f->Paired R xs (f.map g)
 | [],[],.nil=>.nil
 |_::_,_::_,.cons a b=>.cons a (o5 b)
theorem nJ{xs J:bY}{b:cw}(h:ky H xs (cf b))(p:J.Perm xs):∃a,a.Perm b/\ky H J (cf a):=by
 obtain⟨a,q1,q2⟩:=rZ p (jW (gA.mp h));exact⟨a,q1,gA.mpr (o5 q2)⟩
inductive MK (K:Q0)(vs:bY)(H:Hp)(Q:VK)(bz:XK):Prop
 |mk (H0:Hp) (p:Addr) (most:Int) (t:Nat):vs=[.ref p,.int most]->dc K H0 H p t->t+600<900000->1<=most/\most<=8->(∀(a:Addr)(xs:bY)(F:List aj)(ns:aU)(U:Hp),RT U a xs F ns WW->(ns.length:Int)<=most->(∀n∈ns,n∈N8)->dc K H0 U p (t+600)->Sm p p H U->Q (.ref a) U)->MK K vs H Q bz
theorem oC(T:Txt K mg w):bq P w K mg base 5 "_law_telling" ["_law_pen","_law_most"] (MK K):=by
 refine T.oR.gw cR ?_ ?_
 ·rintro _ _ _ _ ⟨u,p,j,t,rfl,_⟩;rfl
 ·rintro f bf A ab s H vs Q E hr ⟨u,p,j,t,rfl,D,ht,⟨GX,GR⟩,k⟩;obtain⟨hu,gk,hsz⟩:=d5 hr;refine⟨_,(aE (aJ 2 cR.nd (bW bS aH (aT (cF T) hr (aD (zv 0) (aD (zv 1) aC)))))
   (aE (aJ 3 cR.nd (iG (yY K) (aT (iR T) hr (aD (zv 0) (Zi (bV (aG bA (aG bA (aG bA (aG bA (aG bA (aG bA (aG bA (aG bA aC))))))))) aC))) iH (iI (zv 2))))
   (aE (aJ 4 cR.nd (bV aC))
   (aE (cO PassesOwn.never rfl (jY (by rfl) T.mP (aD (zv 2) aC)) (bL 5 cR.nd) (aF (bZ (jG K QJ QK QL bF (zv 4) (bC (bE (aN (aQ K (zv 3) (zv 5)) (aV (aT (sG T) hr (aD (zv 0) (aD (zv 3) (aD (zv 5) aC)))) aC))) aC)))))
   (aF (aZ (fQ (dC K) T.dI QH (aV (aT (iR T) hr (aD (zv 0) (aD (zv 4) aC))) aC)))))))),?_⟩
  refine aI ⟨u,p,j,t,rfl,D,⟨by lia,by lia⟩,by lia,λr H1 r0 r1 af xn=>?_⟩;obtain⟨b,rfl⟩:∃i:Nat,r=(i:Int):=⟨r.toNat,by lia⟩
  refine aI ⟨(show 8<=sizeLine by decide),λl1 je=>?_⟩;have s1:=ae.upd je (.lst (N8.map V.str));have g1:upd H1 l1 (.lst (N8.map V.str)) l1=be (N8.map V.str):=aA;have ag:=af.same s1;have A2:=xn.trans s1.sm;refine⟨u,p,l1,N8.map V.str,_,rfl,ag,by lia,.inl (ai.of g1),(by decide),λL J H2 hL gL pm ux t_=>?_⟩;obtain⟨zs,ML,rfl⟩:=yK pm;have Ji:=A2.trans t_;have MM:zs.length=8:=ML.length_eq;refine⟨1+(b:Int),rfl,Or.inr (Or.inl ⟨L,zs.map V.str,rfl,ai.of gL,λN hN=>?_⟩)⟩;have ah:qd (zs.map V.str) none (some (1+(b:Int)))=(zs.take (1+b)).map V.str:=by
   rw[show(1+(b:Int))=((1+b:Nat):Int)by lia,vG,List.map_take]
  rw[ah];have sN:=ae.upd hN (.lst ((zs.take (1+b)).map V.str));have gN:upd H2 N (.lst ((zs.take (1+b)).map V.str)) N=be ((zs.take (1+b)).map V.str):=aA;have tq:=ux.same sN;have MN:=Ji.trans sN.sm;generalize upd H2 N (.lst ((zs.take (1+b)).map V.str))=H3 at sN gN tq MN;have MO:(zs.take (1+b)).length=1+b:=by rw[u9];lia
  have G2:∀n∈zs.take (1+b),n∈N8:=λn D=>ML.mem_iff.mp (pf D);have To:(zs.take (1+b)).Nodup:=(ML.nodup_iff.mpr AO).sublist (List.take_sublist _ _);generalize zs.take (1+b)=g at gN MO G2 To;have tn:uv H3 N g:=⟨gN,by intro e;rw[e]at MO;simp at MO;lia,by lia,λn D=>(tY n (G2 n D)).2⟩
  refine aI ⟨o_,λR hR=>?_⟩;have BK:R≠p:=tq.ne hR;have al:R≠N:=λe=>by rw[e,gN]at hR;cases hR
  have G3:H R=none:=MN.free hR BK BK;have fR:u R=none:=tq.free hR;have sR:=ae.upd hR (.lst []);refine aL (λm q=>X3 fun(G:cp)(d:bY)(l:cw)=>m=[aa p,iq j,iq (1+(b:Int)),aa N,aa R,G]/\q R=be d/\ky q d (cf l)/\l.map (·.1)=g/\rh q g WW l/\dc K u q p (t+101+20*8)/\Sm p p H q) ?_ ?_
  ·intro nx ck;refine⟨1+(b:Int),rfl,by lia,by lia,cB (iN 0 (1+(b:Int)).toNat) (λi m q=>X3 fun(G:cp)(d:bY)(l:cw)=>m=[aa p,iq j,iq (1+(b:Int)),aa N,aa R,G]/\q R=be d/\ky q d (cf l)/\l.map (·.1)=g.take i/\rh q g WW l/\uv q N g/\dc K u q p (t+101+20*i)/\Sm p p H q)
    ⟨none,[],[],rfl,aA,kL,rfl,⟨(λ_ h=>nomatch h),(λ_ h=>nomatch h)⟩,tn.same sR,(tq.same sR).mono (by lia),MN.trans sR.sm⟩ (λ_ _ _ _ _=>True.intro) ?_ ?_⟩
   ·rintro i m H4 hi ⟨G,d,l,rfl,q1,I,x,q4,DP,C,q7⟩;have gp:i<g.length:=by lia
    have e0:(0+(i:Int))=(i:Int):=by lia
    rw[e0];have Fj:g[i]? =some g[i]:=Qa gp;have Tp:g[i]∈g:=Qj gp;generalize g[i]=nm at Fj Tp;have Br:d.length=i:=by
     have Y:=I.1;have h2:=congrArg List.length x;simp at Y h2
     lia
    refine⟨.inl ⟨rfl,_,ai.of q1⟩,_,.str nm,.inl (ai.of DP.e),dP (by rw[Qq,Fj];rfl),u,p,N,i,_,g,rfl,C,by lia,DP,(λz hz=>(tY z (G2 z hz)).1),by lia,λhv H5 hg rj ju=>⟨jd,λc hc=>?_⟩⟩;have g4:H5 R=be d:=ju _ _ q1 BK BK;have zd:=DP.nx C ju;have MP:R≠c:=aO g4 hc;refine⟨R,d,.ref c,rfl,rfl,by rw[aB MP];exact g4,by lia,?_⟩;have Fk:Tk H5 (upd (upd H5 c (.tup [.str nm,hv])) R (.lst (d++[.ref c]))):=((ae.upd hc _).ts).set (by rw[aB MP];exact g4) (by intro _ z;cases z);have am:upd (upd H5 c (.tup [.str nm,hv])) R (.lst (d++[.ref c])) c=ff [.str nm,hv]:=by rw[aB MP.symm];exact aA
    have Tq:=(C.ts ju).trans Fk;refine⟨_,d++[.ref c],l++[(nm,hv)],rfl,aA,jA (I.ts Tq) am,?_,?_,⟨by rw[aB al.symm,aB (aO zd.e hc)];exact zd.e,zd.ne,zd.few,zd.wd⟩,((rj.same (ae.upd hc _)).put BK fR).mono (by lia),((q7.trans ju).trans (ae.upd hc _).sm).upd G3⟩
    ·rw[Qm,x,Qs,Fj];rfl
    ·have:=((q4.tk Tq).add (n:=nm) (v:=hv) Tp ((hg.tk Fk).imp λo h y e=>by obtain⟨i',Y,h2⟩:=h y e;exact⟨i',i,Y,h2,Fj⟩))
     exact this.perm λr hr=>by
      rcases zH.mp hr with hr|hr
      ·exact Qh _ hr
      ·rw[zO.mp hr];exact yS
   ·rintro m q ⟨G,d,l,rfl,q1,I,x,q4,q5,C,q7⟩;have en:(1+(b:Int)).toNat=g.length:=by lia
    rw[en,Qo]at x;exact ck _ _ ⟨G,d,l,rfl,q1,I,x,q4,C.mono (by lia),q7⟩
  ·rintro m H4 ⟨G,d,l,rfl,q1,I,x,q4,C,q7⟩;have Dl:l.length=g.length:=by rw[<- x,Ql]
   have Br:d.length=l.length:=by have:=I.1;simpa using this
   refine⟨u,p,R,d,_,rfl,C,by lia,.inl (ai.of q1),by lia,λL2 J H5 MQ MR MS rj ju=>⟨L2,J,rfl,.inl ⟨ai.of MR,λa ha=>?_⟩⟩⟩;have s6:=ae.upd ha (.tup J);have ze:=(C.ts ju).trans s6.ts;obtain⟨rs',pr,pa⟩:=nJ (I.ts ze) MS;obtain⟨F,rt⟩:=RT.of aA pa (by rw[<- x];exact pr.map _) To (λn D=>tY n (G2 n D)) (by lia) (by lia) ((q4.tk ze).perm λr hr=>pr.mem_iff.mp hr);exact k a _ F g _ rt (by lia) G2 ((rj.same s6).mono (by lia)) ((q7.trans ju).trans s6.sm)
theorem MT{a:cw}(i:Nat)(h:i<(cf a).length)(M:i<a.length):(cf a)[i]=(Sum.inr a[i].1,a[i].2):=by simp[cf]
def Tr(H:Hp)(a:Addr)(xs:bY)(b:cw):Prop:=H a=some (.tup xs)/\ky H xs (cf b)/\b.length<=1000
inductive MU (vs:bY)(H:Hp)(Q:VK)(bz:XK):Prop
 |mk (a:Addr) (xs:bY) (rs:cw):vs=[.ref a]->Tr H a xs rs->(∀d,H d=none->Q (.ref d) (upd H d (.dK (dictOf (cf rs)))))->MU vs H Q bz
theorem uB(T:Txt K mg w):bq P w K mg base 1 "heads_of" ["T"] MU:=by
 refine T.wQ.gw lV ?_ ?_
 ·rintro _ _ _ _ ⟨a,c,d,rfl,_⟩;rfl
 ·rintro f V A q s H vs Q E hr ⟨a,c,d,rfl,⟨t,u,fh⟩,k⟩;refine⟨_,(aF (aZ (yD (own:=["name","head"]) (idx:=[]) (N':=["name","head"]) (cL lV) rfl (jF K (zv 0)) 'b' (λ_ _ _ _ _ _=>gY) (λ_ _ _ _ _ _=>(zv 0)) (λ_ _ _ _ _ _=>(zv 1))))),?_⟩;refine Or.inr ⟨⟨c,ak.of t⟩,λD z=>?_⟩;have J:=dU (K:=K) (a:=a) c;have I:sizeLine=16777216:=QM;have Br:c.length=d.length:=by have:=u.1;simpa using this
  have C:∀o,ae H (upd H D o):=λo=>ae.upd z o;refine⟨λi m G g=>m=c.length-i/\i<=c.length/\(X2 λj l=>G=[j,l])/\g=upd H D (.dK (dictOf ((cf d).take i))),⟨_,rfl,dm _,⟨none,none,rfl⟩,rfl⟩,?_⟩;rintro i m G g ⟨rfl,hi,⟨j,l,rfl⟩,rfl⟩;obtain⟨k1,k2⟩:=J _ (show ak K (upd H D _) a c from ak.of (C _ _ _ t));by_cases av:i<c.length
  ·have r:i<d.length:=by lia
   have p:i<(cf d).length:=by simpa using r
   refine .inr ⟨(k1 i av).1,λh g=>(X2 λj l=>h=[j,l])/\g=upd H D (.dK (dictOf ((cf d).take (i+1)))),λh g ⟨L,N⟩=>⟨c.length-(i+1),by lia,rfl,av,L,N⟩,λx g y=>?_⟩;obtain⟨e,e2⟩:=(k1 i av).2 x g y;subst e e2;obtain⟨b,EE,Gj⟩:=u.2 i p;rw[MT i p r]at Gj;have R:c.getD i .ao=.ref b:=by rw[Qb,EE];rfl
   show B5 K 2 _ (c.getD i .ao) _ _ _;rw[R];refine⟨b,_,rfl,ak.of (C _ _ _ Gj),rfl,_,_,rfl,_,_,rfl,rfl,?_⟩;refine⟨dictOf ((cf d).take i),.inr d[i].1,rfl,aA,?_,⟨_,_,rfl⟩,?_⟩
   ·have:=jE ((cf d).take i);rw[u9]at this
    lia
   ·rw[iK,lR (cf d) i p,MT i p r]
  ·have e:i=c.length:=by lia
   subst e;refine .inl ⟨k2,?_⟩;rw[iT (by simp;lia)];exact k D z
theorem ui{xs:bY}{b:cw}{nx:Str->Option Str}{c:Str->Nat}(g:ug H a xs b nx c):Tr H a xs b:=⟨g.at_,g.ps,by have:=g.len;lia⟩
inductive G4 (vs:bY)(H:Hp)(Q:VK)(bz:XK):Prop
 |mk (a:Addr) (xs:bY) (rs:cw) (nx:Str->Option Str) (ρ:Str->Nat) (x:Str):vs=[.ref a,.str x]->ug H a xs rs nx ρ->x∈rs.map (·.1)->(∀U,ae H U->Q (.str (ip nx rs.length x)) U)->G4 vs H Q bz
inductive Jo (vs:bY)(H:Hp)(Q:VK)(bz:XK):Prop
 |mk (a:Addr) (xs:bY) (rs:cw) (nx:Str->Option Str) (ρ:Str->Nat) (x:Str):vs=[.ref a,.str x]->ug H a xs rs nx ρ->x∈rs.map (·.1)->(∀v U,ae H U->a_ (dictOf (cf rs)) (.inr (ip nx rs.length x))=some v->Q v U)->Jo vs H Q bz
inductive MW (K:Q0)(vs:bY)(H:Hp)(Q:VK)(bz:XK):Prop
 |mk (H0:Hp) (p a:Addr) (t:Nat) (xs:bY) (F:List aj) (ns ws:aU):vs=[.ref p,.ref a]->dc K H0 H p t->t<900000->RT H a xs F ns ws->(∀(n:Str)(U:Hp),n∈ns->dc K H0 U p (t+1)->Sm p p H U->Q (.str n) U)->MW K vs H Q bz
theorem vB(T:Txt K mg w):bq P w K mg base 3 "_law_any" ["_law_pen","_law_told"] (MW K):=by
 refine T.a06.gw vR ?_ ?_
 ·rintro _ _ _ _ ⟨j,p,a,t,l,d,q,u,rfl,_⟩;rfl
 ·rintro f y A e s H z Q E m ⟨j,p,a,t,l,d,q,u,rfl,n,C,c,k⟩;obtain⟨hu,gk,hsz⟩:=d5 m;have D:=c.rl;have G:=c.rv.len;have pos:=c.pos;have few:=c.few;refine⟨_,(aF (aZ (aQ K (aQ K (zv 1) (aT (cF T) m (aD (zv 0) (aV (bJ (aY K) T.ph dv (aD (zv 1) aC)) aC)))) aH))),?_⟩;refine .inl ⟨_,.inr (ak.of c.at_),j,p,_,t,rfl,n,⟨by lia,by lia⟩,by lia,λr x I L g o=>?_⟩;obtain⟨i,rfl⟩:∃i:Nat,r=(i:Int):=⟨r.toNat,by lia⟩
  have h:=c.tk (n.ts o);obtain⟨b,v,q1,q2,q3⟩:=h.rv.at_ i (by lia) (by lia)
  refine⟨l,.ref b,.inr (ak.of h.at_),dP (by rw[Qa (by lia),q1]),_,_,.inr (ak.of q2),aK _ _,k _ x (h.nm.mem_iff.mp (Z2.mpr ⟨_,Qj (by lia),rfl⟩)) g o⟩
theorem e8(T:Txt K mg w):bq P w K mg base 1 "_law_row_here" ["_law_told","_law_name"] G4:=by
 refine T.nX.gw dZ ?_ ?_
 ·rintro _ _ _ _ ⟨a,u,c,i,j,x,rfl,_⟩;rfl
 ·rintro f bf A p s H vs Q E R ⟨a,u,c,i,j,x,rfl,g,hx,k⟩;have q:=dD R;have gk:=Qy q;refine⟨_,(aE (aJ 2 dZ.nd (fQ (k9 rfl) T.S0 PyProof.Rows.boot_dict (aD (zv 0) aC)))
   (aE (fK PassesOwn.never (aP (fC gk) (aQ K (bK q (zv 2) (zv 1)) aH) bA) (aF (aJ 1 dZ.nd (aQ K (bK q (zv 2) (zv 1)) aH))))
   (aF (aZ (zv 1))))),?_⟩
  have ab:sizeLine=16777216:=QM;have Tt:=g.len;refine aI ⟨a,u,cf c,rfl,g.at_,g.ps,(by simp;lia),λd hd=>?_⟩;have C:ae H (upd H d (.dK (dictOf (cf c)))):=ae.upd hd _;have l:=g.ts C.ts;refine⟨λm D G=>G=upd H d (.dK (dictOf (cf c)))/\∃y,D=[aa a,cg y,aa d]/\y∈c.map (·.1)/\ip i c.length y=ip i c.length x/\m=j y,⟨_,rfl,x,rfl,hx,rfl,rfl⟩,?_⟩;rintro m D G ⟨rfl,y,rfl,I,L,rfl⟩;obtain⟨v,hv,wo⟩:=l.get I;have r:dz (upd H d (.dK (dictOf (cf c)))) d (.str y) (some v):=by
   rw[<- wo];exact dz.k (k:=Sum.inr y) aA
  obtain⟨b,rfl,hb⟩:=l.as _ hv;rcases hb with⟨z,J,n,h2,o⟩|⟨z,n,o⟩
  ·refine⟨d,_,rfl,r,_,.str z,.inr (ak.of n),aK _ _,rfl,_,rfl,?_⟩;rw[QF,Qx (λe=>h2 (V.str.inj e))];refine ue ?_;have e2:ip i c.length y=y:=dB _ o;have:=k _ C;rw[<- L,e2]at this;exact this
  ·refine⟨d,_,rfl,r,_,.str "as",.inr (ak.of n),aK _ _,rfl,_,rfl,?_⟩;refine Eu ?_;obtain⟨i1,i2⟩:=l.jz _ hv z o;refine⟨λt BJ=>∃N,N<j y/\BJ=upd H d (.dK (dictOf (cf c)))/\∃y,t=[aa a,cg y,aa d]/\y∈c.map (·.1)/\ip i c.length y=ip i c.length x/\N=j y,λ_ _ h=>h,?_⟩;refine⟨d,_,rfl,r,_,.str z,.inr (ak.of n),rfl,_,i2,rfl,z,rfl,i1,?_,rfl⟩;rw[<- L];exact l.P7 I o
theorem gC(T:Txt K mg w):bq P w K mg base 2 "_law_head_here" ["_law_told","_law_name"] Jo:=by
 refine T.mB.gw kP ?_ ?_
 ·rintro _ _ _ _ ⟨a,c,b,e,i,x,rfl,_⟩;rfl
 ·rintro f r A h s H t Q E j ⟨a,c,b,e,i,x,rfl,g,l,k⟩;have o:=dD j;have p:sizeLine=16777216:=QM;have u:=g.len;refine⟨_,(aF (aZ (bK o (fQ (k9 rfl) T.S0 PyProof.Rows.boot_dict (aD (zv 0) aC)) (aT (e8 T) j (aD (zv 0) (aD (zv 1) aC)))))),?_⟩;refine⟨a,c,cf b,rfl,g.at_,g.ps,(by simp;lia),λd q=>?_⟩;have m:ae H (upd H d (.dK (dictOf (cf b)))):=ae.upd q _;refine⟨a,c,b,e,i,x,rfl,g.ts m.ts,l,λy n=>?_⟩;obtain⟨v,hv,wo⟩:=g.get (g.Bp l).1;refine⟨d,v,rfl,?_,k v _ (m.trans n) wo⟩;rw[<- wo];exact dz.k (k:=Sum.inr (ip e b.length x)) (n _ _ aA)
inductive Jp (vs:bY)(H:Hp)(Q:VK)(bz:XK):Prop
 |mk (a:Addr) (xs:bY) (F:List aj) (ns ws:aU) (x:Str):vs=[.ref a,.str x]->RT H a xs F ns ws->(∀z∈ws,Wd z)->x∈ns->(∀(L:Addr)(O:bY)(U:Hp),H L=none->ae H U->U L=be O->MV U O (az F x)->Q (.ref L) U)->Jp vs H Q bz
theorem pC(T:Txt K mg w):bq P w K mg base 3 "_law_on" ["_law_told","_law_name"] Jp:=by
 refine T.a15.gw cV ?_ ?_
 ·rintro _ _ _ _ ⟨a,xs,j,ns,ws,x,rfl,_⟩;rfl
 ·rintro f bf A af s H vs Q E hr ⟨a,xs,j,ns,ws,x,rfl,rt,hw,hx,k⟩;obtain⟨hu,gk,hsz⟩:=d5 hr;obtain⟨rs,g,nm,rl,wo⟩:=rt.good hw;have hm:∀z,z∈ns↔z∈rs.map (·.1):=λz=>by rw[nm];exact rt.nm.mem_iff.symm
  obtain⟨e1,e2,e3⟩:=rt.Bp hw hx;have few:=rt.few;refine⟨_,(aE (aJ 2 cV.nd (aT (gC T) hr (aD (zv 0) (aD (zv 1) aC))))
   (aE (dE (aP (fC gk) (aQ K (zv 2) aH) bA) (aF (aJ 3 cV.nd (bV (bC (bE (bC (bE (aG bA aC)) (aN (aQ K (zv 2) aH) aC))) (bC (bE (bC (bE (aG bA aC)) (aN (aQ K (zv 2) aH) aC))) aC))))) (aF (dE (aP (fC gk) (aQ K (zv 2) aH) bA) (aF (Io (i:=3) (own:=["_law_word","_law_other"]) (idx:=[]) (N':=["_law_word","_law_other"]) (cL cV) rfl (jF K (aQ K (zv 2) aH)) 'b' (λ_ _ _ _ _ _=>gY) (λ_ _ _ _ _ _=>(bE (bC (bE (aG bA (aD (zv 0) aC))) (aD (zv 1) aC)))) cV.nd rfl rfl)) (aF (dE (aP (fC gk) (aQ K (zv 2) aH) bA) (aF (Io (i:=3) (own:=["_law_word","_law_other"]) (idx:=[]) (N':=["_law_word","_law_other"]) (cL cV) rfl (jF K (aQ K (zv 2) aH)) 'b' (λ_ _ _ _ _ _=>gY) (λ_ _ _ _ _ _=>(bE (bC (bE (aG bA (aD (zv 0) aC))) (aD (zv 1) aC)))) cV.nd rfl rfl)) (aF (aJ 3 cV.nd (bV aC))))))))
   (aF (aZ (gW ["_law_step","_law_other"] [0] ["_law_step","_law_other","_law_told"] (cL cV) (jF K (zv 3)) 'b' (λ_ _ _ _ _ _=>(bE (aD (zv 0) (aV (aT (e8 T) hr (aD (zv 2) (aD (zv 1) aC))) aC))))))))),?_⟩
  refine aI ⟨a,xs,rs,_,_,x,rfl,g,(hm x).mp hx,λv H1 s1 hv=>?_⟩;have Tu:HV H v (au j (b7 j x)):=wo _ v e1 (by rw[rl]at hv;exact hv);have hq:=Tu.tk s1.ts;have eo:az j x=(au j (b7 j x)).bh.map λm=>(m.1,b7 j m.2):=rfl;generalize au j (b7 j x)=h at e2 e3 hq eo;clear Tu wo hv;have jz:=wU e3;refine aL (λab q=>X2 fun(F:Addr)(O:bY)=>ab=[aa a,cg x,some v,aa F]/\q F=be O/\MV q O h.bh/\ae H q/\h.bh.length<=10) ?_ ?_
  ·intro nx ck;cases hq with
   | @one b s e=>
    have nd:∀z:Str,z∈(["way","box","pick"]:aU)->(s==z)=false:=λz hz=>by
     simp only[Qp,QB,or_false]at hz;rcases e3 with rfl|rfl<;>rcases hz with rfl|rfl|rfl<;>decide+kernel
    refine⟨_,.str s,.inr (ak.of e),aK _ _,rfl,_,rfl,gy (λc=>?_) (λ_=>⟨_,.str s,.inr (ak.of e),aK _ _,rfl,_,rfl,gy (λc=>?_) (λ_=>⟨_,.str s,.inr (ak.of e),aK _ _,rfl,_,rfl,gy (λc=>?_) (λ_=>⟨o_,λF hF=>ck _ _ ⟨F,[],rfl,aA,MV.nil,s1.trans (ae.upd hF _),by show 0<=10;decide⟩⟩)⟩)⟩)⟩
    ·rw[QF,dH,nd "way" (by simp)]at c;cases c
    ·rw[QF,dH,nd "box" (by simp)]at c;cases c
    ·rw[QF,dH,nd "pick" (by simp)]at c;cases c
   | @as b y e=>cases e2
   | @way b y z e=>
    refine⟨_,.str "way",.inr (ak.of e),aK _ _,rfl,_,rfl,gy (λ_=>?_) (λc=>absurd c (by simp))⟩;refine⟨BE,λo Y=>?_⟩;have t1:=ae.upd Y (.tup [.str "from"]);refine⟨_,.str y,.inr (ak.of (t1 _ _ e)),rfl,jd,λt h2=>?_⟩;have t2:=ae.upd h2 (.tup [.ref o,.str y]);refine⟨BE,λc3 h3=>?_⟩;have t3:=ae.upd h3 (.tup [.str "to"]);refine⟨_,.str z,.inr (ak.of (t3 _ _ (t2 _ _ (t1 _ _ e)))),rfl,jd,λc4 h4=>?_⟩;have t4:=ae.upd h4 (.tup [.ref c3,.str z]);refine⟨jd,λF hF=>?_⟩;have t5:=ae.upd hF (.lst [.ref t,.ref c4]);have g1:=t5 _ _ (t4 _ _ (t3 _ _ (t2 _ _ (aA:upd H1 o (.tup [.str "from"]) o=ff [.str "from"]))));have g2:=t5 _ _ (t4 _ _ (t3 _ _ (aA:upd (upd H1 o (.tup [.str "from"])) t (.tup [.ref o,.str y]) t=_)));have g3:=t5 _ _ (t4 _ _ (aA:upd (upd (upd H1 o (.tup [.str "from"])) t (.tup [.ref o,.str y])) c3 (.tup [.str "to"]) c3=_));have g4:=t5 _ _ (aA:upd (upd (upd (upd H1 o (.tup [.str "from"])) t (.tup [.ref o,.str y])) c3 (.tup [.str "to"])) c4 (.tup [.ref c3,.str z]) c4=_);exact ck _ _ ⟨F,[.ref t,.ref c4],rfl,aA,(MV.nil.snoc (m:=(["from"],y)) g2 g1).snoc (m:=(["to"],z)) g4 g3,s1.trans (t1.trans (t2.trans (t3.trans (t4.trans t5)))),by show 2<=10;decide⟩
   | @prs b c s J ps e ec hp=>
    have gj:=hp.len;have N:∀(r:Str)(D:Ends),D.nx=nx->(r=if s="box" then("part":Str)else("case":Str))->zu (Bk ["_law_word","_law_other"] [] (iD K (jy (AQ K) (tV 2) (tC (V.int 1)))) (B5 K 2 (zq (jj 0) (zq (jj 1) Eh))) Ce (Em (ik (Em (ik (tC (V.str r)) (ik (tV 0) qc))) (ik (tV 1) qc)))) (jj 3) D [aa a,cg x,aa b,none] H1:=by
     intro r D ag ah;refine⟨_,.ref c,.inr (ak.of e),rfl,Or.inr ⟨⟨J,ak.of ec⟩,λL hL=>?_⟩⟩;refine fW (dU J) (λi G q=>X3 fun(v0 v1:cp)(l:bY)=>G=[v0,v1]/\q L=be l/\MV q l ((ps.take i).map λp=>([r,p.1],p.2))/\ae H1 q) ⟨none,none,[],rfl,aA,MV.nil,ae.upd hL _⟩ (by rintro i G q _ ⟨_,_,_,_,_,_,s⟩;exact ak.of (s _ _ ec)) ?_ ?_
     ·rintro i G R hi ⟨v0,v1,l,rfl,q1,u,C⟩;have xo:i<ps.length:=by lia
      have al:=e3.2.2.2;obtain⟨d,r1,r2⟩:=hp.at_ i hi xo
      have eg:J.getD i .ao=.ref d:=cX hi r1;rw[eg];refine fI (C _ _ r2) ?_;have MM:l.length=i:=by have:=u.len;simp at this;lia
      refine⟨jd,λo Y=>⟨jd,λt h2=>?_⟩⟩;have t1:=ae.upd Y (.tup [.str r,.str ps[i].1]);have t2:=ae.upd h2 (.tup [.ref o,.str ps[i].2]);have g1:=t2 _ _ (aA:upd R o (.tup [.str r,.str ps[i].1]) o=ff [.str r,.str ps[i].1]);have g2:upd (upd R o (.tup [.str r,.str ps[i].1])) t (.tup [.ref o,.str ps[i].2]) t=ff [.ref o,.str ps[i].2]:=aA
      (try dsimp only)
      have I:=t1.trans t2;generalize upd (upd R o (.tup [.str r,.str ps[i].1])) t (.tup [.ref o,.str ps[i].2])=H5 at I g1 g2;have gD:=I _ _ q1;have tk:Tk H5 (upd H5 L (.lst (l++[.ref t]))):=(Tk.refl).set gD (by intro _ z;cases z);refine⟨l,gD,by lia,_,_,l++[.ref t],rfl,aA,?_,(C.trans I).put hL⟩;have et:(ps.take (i+1)).map (λp=>(([r,p.1],p.2):aU×Str))=(ps.take i).map (λp=>(([r,p.1],p.2):aU×Str))++[([r,ps[i].1],ps[i].2)]:=by
       rw[Qs,Qa xo,Qm];rfl
      rw[et];exact(u.tk (I.ts.trans tk)).snoc (m:=([r,ps[i].1],ps[i].2)) (tk _ _ g2) (tk _ _ g1)
     ·rintro G R ⟨v0,v1,l,rfl,q1,u,C⟩;rw[gj,Qo]at u;show D.nx _ R;rw[ag];refine ck _ _ ⟨L,l,rfl,q1,?_,s1.trans C,by show(ps.map _).length<=10;rw[Ql];exact e3.2.2.2⟩;rw[ah]at u;exact u
    rcases e3.1 with rfl|rfl
    ·refine⟨_,.str "box",.inr (ak.of e),aK _ _,rfl,_,rfl,gy (λc=>?_) (λ_=>⟨_,.str "box",.inr (ak.of e),aK _ _,rfl,_,rfl,gy (λ_=>N "part" _ rfl rfl) (λc=>absurd c (by simp))⟩)⟩;rw[QF,dH]at c;exact absurd c (by decide+kernel)
    ·refine⟨_,.str "pick",.inr (ak.of e),aK _ _,rfl,_,rfl,gy (λc=>?_) (λ_=>⟨_,.str "pick",.inr (ak.of e),aK _ _,rfl,_,rfl,gy (λc=>?_) (λ_=>⟨_,.str "pick",.inr (ak.of e),aK _ _,rfl,_,rfl,gy (λ_=>N "case" _ rfl (by decide+kernel)) (λc=>absurd c (by simp))⟩)⟩)⟩
     ·rw[QF,dH]at c;exact absurd c (by decide+kernel)
     ·rw[QF,dH]at c;exact absurd c (by decide+kernel)
  rintro ab H2 ⟨F,O,rfl,gF,mv,s2,ml⟩;have uy:=rt.tk s2.ts;have g2:=g.ts s2.ts;have ul:=mv.len;refine Or.inl ⟨⟨O,ai.of gF⟩,λD hD=>?_⟩;refine fW (bI O) (λi G q=>X3 fun(v0 v1:cp)(l:bY)=>G=[v0,v1,aa a]/\q D=be l/\MV q l ((h.bh.take i).map λm=>(m.1,b7 j m.2))/\ae H2 q) ⟨none,none,[],rfl,aA,MV.nil,ae.upd hD _⟩ (by rintro i G q _ ⟨_,_,_,_,_,_,s⟩;exact ai.of (s _ _ gF)) ?_ ?_
  ·rintro i G R hi ⟨v0,v1,l,rfl,q1,u,C⟩;have ET:i<h.bh.length:=by lia
   obtain⟨c,b,r1,r2,r3⟩:=mv.at_ i hi ET
   have eg:O.getD i .ao=.ref c:=cX hi r1;rw[eg];have BL:h.bh[i]∈h.bh:=Qj ET;refine fI (C _ _ r2) ?_;have MM:l.length=i:=by have:=u.len;simp at this;lia
   refine⟨a,xs,rs,_,_,h.bh[i].2,rfl,g2.ts C.ts,(hm _).mp (jz _ BL),λH4 s4=>⟨jd,λd hd=>?_⟩⟩;have s5:=ae.upd hd (.tup [.ref b,.str (ip (jf j) rs.length h.bh[i].2)]);have gd:upd H4 d (.tup [.ref b,.str (ip (jf j) rs.length h.bh[i].2)]) d=ff [.ref b,.str (ip (jf j) rs.length h.bh[i].2)]:=aA
   (try dsimp only)
   generalize upd H4 d (.tup [.ref b,.str (ip (jf j) rs.length h.bh[i].2)])=H5 at s5 gd;rw[rl]at gd;have I:=s4.trans s5;have gD:=I _ _ q1;have tk:Tk H5 (upd H5 D (.lst (l++[.ref d]))):=(Tk.refl).set gD (by intro _ z;cases z);refine⟨l,gD,by lia,_,_,l++[.ref d],rfl,aA,?_,(C.trans I).put hD⟩;have et:(h.bh.take (i+1)).map (λm=>(m.1,b7 j m.2))=(h.bh.take i).map (λm=>(m.1,b7 j m.2))++[(h.bh[i].1,b7 j h.bh[i].2)]:=by
    rw[Qs,Qa ET,Qm];rfl
   rw[et];exact(u.tk (I.ts.trans tk)).snoc (tk _ _ gd) (tk _ _ (I _ _ (C _ _ r3)))
  ·rintro G R ⟨v0,v1,l,rfl,q1,u,C⟩;rw[ul,Qo,<- eo]at u;exact k D l R (s2.free hD) (s2.trans C) q1 u
theorem C9{Q:VK}{v:V}(e:Z[i]? =some (some v))(h:Q v H):tV i Z H Q:=by
 unfold tV;rw[e];exact h
theorem cA{kvs:ca}{k:Key}{v:V}(h:∀kv∈kvs,kv.1≠k):ci kvs k v=kvs++[(k,v)]:=by
 unfold ci;rw[if_neg];intro e;rw[QaO]at e;obtain⟨kv,hk,e⟩:=e;exact h kv hk (Qt e)
inductive MY (vs:bY)(H:Hp)(Q:VK)(bz:XK):Prop
 |mk (a:Addr) (xs:bY) (F:List aj) (ns ws:aU):vs=[.ref a]->RT H a xs F ns ws->(∀z∈ws,Wd z)->(∀(d:Addr)(U:Hp),H d=none->ae H U->U d=eu (j_ F)->Q (.ref d) U)->MY vs H Q bz
theorem vY(T:Txt K mg w):bq P w K mg base 2 "rows_of" ["T"] MY:=by
 refine T.yA.gw dN ?_ ?_
 ·rintro _ _ _ _ ⟨a,xs,c,C,ws,rfl,_⟩;rfl
 ·rintro f bf A N s H vs Q E hr ⟨a,xs,c,C,ws,rfl,D,hw,k⟩;obtain⟨hu,gk,hsz⟩:=d5 hr;obtain⟨rs,g,nm,rl,wo⟩:=D.good hw;refine⟨_,(aE (aJ 1 dN.nd (aT (uB T) hr (aD (zv 0) aC)))
   (aE (aJ 2 dN.nd kQ)
   (aE (cO PassesOwn.never rfl (xQ (zv 1)) (bL 3 dN.nd) (aE (aJ 4 dN.nd (zv 3))
   (aE (fK PassesOwn.never (aP (fC gk) (aQ K (bK hu (zv 1) (zv 4)) aH) bA) (aF (aJ 4 dN.nd (aQ K (bK hu (zv 1) (zv 4)) aH))))
   (aF (lF hu (zv 2) (zv 3) (zv 4) rfl)))))
   (aF (aZ (zv 2)))))),?_⟩
  refine aI ⟨a,xs,rs,rfl,ui g,λd hd=>?_⟩;have ab:((cf rs).map (·.1)).Nodup:=by
   have e:(cf rs).map (·.1)=(rs.map (·.1)).map (Sum.inr:Str->Key):=by simp[cf,Qn,QC]
   rw[e];exact uT.mpr (g.nd.imp λh e=>h (eh e))
  have Tt:=g.len;have ed:=jS _ ab
  (try dsimp only)
  have s1:ae H (upd H d (.dK (dictOf (cf rs)))):=ae.upd hd _;refine aI λR hR=>?_;have MZ:R≠d:=λe=>by rw[e,aA]at hR;cases hR
  have G3:H R=none:=s1.free hR;refine aL (λl n=>X2 fun(p q:cp)=>l=[aa a,aa d,aa R,p,q]/\n R=eu (j_ c)/\ae H n) ?_ ?_
  ·intro nx ck;refine⟨d,dictOf (cf rs),rfl,.inl (by rw[aB MZ.symm];exact aA),λo=>?_⟩;refine cB (tJ (dictOf (cf rs))) (λi l n=>X2 fun(p q:cp)=>l=[aa a,aa d,aa R,p,q]/\n d=some (.af o (.dK (dictOf (cf rs))))/\n R=eu ((j_ c).take i)/\ae H n)
    ⟨none,none,rfl,aA,by rw[aB MZ,aA];rfl,(((s1.put G3)).put hd)⟩ (by rintro i l n _ ⟨_,_,_,h,_⟩;exact h) ?_ ?_
   ·rintro i l H3 hi ⟨p,q,rfl,q1,r,t⟩;have u:i<rs.length:=by have:=jE (cf rs);simp at this;lia
    have M0:i<c.length:=by lia
    have ek:jn (dictOf (cf rs)) i=.str rs[i].1:=by
     unfold jn;rw[ed,Qa (by simpa using u),MT i (by simpa using u) u];rfl
    have en:rs[i].1=c[i].1:=by
     have:(rs.map (·.1))[i]'(by simpa using u)=(c.map (·.1))[i]'(by simpa using M0):=by simp only[nm]
     simpa using this
    rw[ek];have hx:rs[i].1∈rs.map (·.1):=Z2.mpr ⟨_,Qj u,rfl⟩;generalize rs[i].1=x at en hx;have G:=g.ts t.ts;refine aI (C9 (v:=.str x) rfl ?_);refine aL (λl n=>n=H3/\l=[aa a,aa d,aa R,cg x,cg (ip (jf c) rs.length x)]) ?_ ?_
    ·intro Ff DM;refine⟨λm Z n=>n=H3/\∃y,Z=[aa a,aa d,aa R,cg x,cg y]/\y∈rs.map (·.1)/\ip (jf c) rs.length y=ip (jf c) rs.length x/\m=C.idxOf y,⟨_,rfl,x,rfl,hx,rfl,rfl⟩,?_⟩;rintro m Z n ⟨rfl,y,rfl,hy,he,rfl⟩;obtain⟨v,hv,wo⟩:=G.get hy;have DQ:dz n d (.str y) (some v):=by
      rw[<- wo];exact dz.rd (k:=Sum.inr y) (.inr ⟨o,q1⟩)
     obtain⟨b,rfl,hb⟩:=G.as _ hv;rcases hb with⟨z,J,I,h2,L⟩|⟨z,I,L⟩
     ·refine⟨d,_,rfl,DQ,_,.str z,.inr (ak.of I),aK _ _,rfl,_,rfl,?_⟩;rw[QF,Qx (λe=>h2 (V.str.inj e))];refine ue ?_;have e2:ip (jf c) rs.length y=y:=dB _ L;refine DM _ _ ⟨rfl,?_⟩;rw[<- he,e2]
     ·refine⟨d,_,rfl,DQ,_,.str "as",.inr (ak.of I),aK _ _,rfl,_,rfl,?_⟩;refine Eu ?_;obtain⟨i1,i2⟩:=G.jz _ hv z L;refine⟨λl BJ=>∃m',m'<C.idxOf y/\BJ=n/\∃y,l=[aa a,aa d,aa R,cg x,cg y]/\y∈rs.map (·.1)/\ip (jf c) rs.length y=ip (jf c) rs.length x/\m'=C.idxOf y,λ_ _ h=>h,?_⟩;refine⟨d,_,rfl,DQ,_,.str z,.inr (ak.of I),rfl,_,i2,rfl,z,rfl,i1,?_,rfl⟩;rw[<- he];exact G.P7 hy L
    ·rintro l n ⟨rfl,rfl⟩;have fh:((j_ c).take i).length<=14:=by have:=D.few;have:=D.rl;simp[j_];lia
     have ag:ci ((j_ c).take i) (.inr x) (.str (ip (jf c) rs.length x))=(j_ c).take (i+1):=by
      rw[cA,Qs,Qa (by simpa[j_]using M0)]
      ·simp[j_,en,b7,rl]
      ·intro kv IU e;obtain⟨j,hj,rfl⟩:=Qi IU;have vn:j<i:=by simp at hj;lia
       rw[io]at e;simp only[j_,Qr]at e;have e':c[j].1=c[i].1:=by rw[<- en];exact eh e
       have nd:=D.mj;have:=uW.mp nd j i (by simp;lia) (by simpa using M0) vn;simp at this;exact this e'
     refine⟨R,_,rfl,yu.k (k:=Sum.inr x) r (by lia),?_⟩;rw[ag];exact⟨_,_,rfl,by rw[aB MZ.symm];exact q1,aA,t.put G3⟩
   ·rintro l n ⟨p,q,rfl,q1,r,t⟩;have e:(dictOf (cf rs)).length=(j_ c).length:=by rw[ed];simp[j_,rl]
    rw[e,Qo]at r;exact ck _ _ ⟨p,q,rfl,r,t⟩
  ·rintro l n ⟨p,q,rfl,r,t⟩;exact k R n G3 t r
inductive M3 (vs:bY)(H:Hp)(Q:VK)(bz:XK):Prop
 |mk (x:V) (h:Hd) (ns:aU):vs=[x]->HV H x h->h.ok ns->(∀L U,H L=none->U L=be ((vo h).map V.str)->ae H U->Q (.ref L) U)->M3 vs H Q bz
theorem qN(T:Txt K mg w):bq P w K mg base 1 "names_in" ["head"] M3:=by
 refine T.wM.gw m7 ?_ ?_
 ·rintro _ _ _ _ ⟨x,h,ns,rfl,_⟩;rfl
 ·rintro f bf A t s H vs Q E hr ⟨x,h,ns,rfl,hv,hok,k⟩;have ab:sizeLine=16777216:=QM;refine⟨_,(aE (dE (aP (qV K) (aQ K (zv 0) aH) (PJ K T.uE) rfl) (aF (aZ (gW ["word","x"] [] ["word","x"] (cL m7) (jF K (aQ K (zv 0) aH)) 'b' (λ_ _ _ _ _ _=>(zv 1))))) bM)
   (aF (aZ (fQ (qA K) T.qJ pk (aN (iG (yY K) (zv 0) (iI aH) iH) aC))))),?_⟩
  have fin:∀(b:Addr)(z:Str)(a:aU),H b=ff (.str z::a.map V.str)->vo h=a->∀D:Ends,D.rt=Q->CY (yt (Lj K) (ik (Er (λx j g H Q=>Cf x j g H Q\/Ca K x j g H Q\/B_ K x j g H Q) (tV 0) (Ep (tC (V.int 1))) Eo) qc)) D [aa b] H:=by
   intro b z a e u D m;refine⟨1,rfl,Or.inr (Or.inr ⟨b,_,rfl,ak.of e,?_,λp1 Dv=>⟨p1,_,rfl,.inr (ak.of aA),λL hL=>?_⟩⟩)⟩
   ·intro⟨Y,_⟩;have:HT.cu (V.str z::a.map V.str).length 0 (some ((1:Nat):Int))=0:=Y;rw[HT.qI]at this;simp at this
   ·have s1:=(ae.upd Dv (.tup (qd (V.str z::a.map V.str) (some 1) none))).trans (ae.upd hL (.lst (qd (V.str z::a.map V.str) (some 1) none)));rw[m];refine k L _ ((ae.upd Dv _).free hL) ?_ s1;rw[aA];have o:qd (V.str z::a.map V.str) (some 1) none=a.map V.str:=by
     have:=tT (V.str z::a.map V.str) 1;exact this
    rw[o,u]
  have C:∀(b:Addr)(z:Str)(a:aU),H b=ff (.str z::a.map V.str)->(z=="box")=false->(z=="pick")=false->vo h=a->CW (Ef (Ek (jy (Ie K false) (jy (AQ K) (tV 0) (tC (V.int 0))) (Ih K [V.str "box",V.str "pick"]))) (CY (Bk ["word","x"] [] (iD K (jy (AQ K) (tV 0) (tC (V.int 1)))) (B5 K 2 (zq (jj 0) (zq (jj 1) Eh))) Ce (tV 1))) Ku) (CY (yt (Lj K) (ik (Er (λx j g H Q=>Cf x j g H Q\/Ca K x j g H Q\/B_ K x j g H Q) (tV 0) (Ep (tC (V.int 1))) Eo) qc))) {nx:=λx U=>Q V.ao U,rt:=Q} [aa b] H:=λb z a e n1 n2 u=>by
   refine⟨_,.str z,.inr (ak.of e),aK _ _,?_⟩;intro aW G;refine⟨_,.inr G,rfl,rfl,_,rfl,?_⟩;have I:(false^^Be (.str z) [V.str "box",V.str "pick"])=false:=by
    rw[QF,show([V.str "box",V.str "pick"]:bY)=(["box","pick"]:aU).map V.str from rfl,jZ];refine Qx λhm=>?_;simp only[Qp,QB,or_false]at hm;rcases hm with rfl|rfl
    ·simp at n1
    ·simp at n2
   rw[I];exact ue (fin b z a e u _ rfl)
  cases hv with
  | @one b s e=>exact C b s [] e (by rcases hok with rfl|rfl<;>decide+kernel) (by rcases hok with rfl|rfl<;>decide+kernel) rfl
  | @as b y e=>exact C b "as" [y] e (by decide+kernel) (by decide+kernel) rfl
  | @way b y z e=>exact C b "way" [y,z] e (by decide+kernel) (by decide+kernel) rfl
  | @prs b c s a ps e o hp=>
   refine⟨_,.str s,.inr (ak.of e),aK _ _,?_⟩;intro aW G;refine⟨_,.inr G,rfl,rfl,_,rfl,?_⟩;have I:(false^^Be (.str s) [V.str "box",V.str "pick"])=true:=by
    rw[QF,show([V.str "box",V.str "pick"]:bY)=(["box","pick"]:aU).map V.str from rfl,jZ];refine Qw ?_;rcases hok.1 with rfl|rfl<;>simp
   rw[I];refine Eu ?_;have gj:=hp.len;have Gp:=hok.2.2.2;refine⟨_,.ref c,.inr (ak.of e),rfl,Or.inr ⟨⟨a,ak.of o⟩,λD m=>?_⟩⟩;refine fW (dU a) (λi p l=>l D=be (((ps.take i).map (·.2)).map V.str)/\ae H l/\X2 λN R=>p=[N,R]) ⟨aA,ae.upd m _,none,none,rfl⟩ (λi p l _ h=>ak.of (h.2.1 _ _ o)) ?_ ?_
   ·rintro i p l g ⟨q,r,N,R,rfl⟩;have xo:i<ps.length:=by lia
    obtain⟨d,e1,e2⟩:=hp.at_ i g xo
    have eg:a.getD i .ao=.ref d:=cX g e1;rw[eg];refine fI (r _ _ e2) ?_;refine⟨_,q,by simp;lia,?_,(r.put m),_,_,rfl⟩;rw[aA,Qs,Qa xo,Qm,Qm];rfl
   ·rintro p l ⟨q,r,N,R,rfl⟩;rw[gj,Qo]at q;exact k D l m q r
def zf(s:Str):Str:=if s="box" then"part" else"case"
inductive Jq (mg:Str->cv)(vs:bY)(H:Hp)(Q:VK)(bz:XK):Prop
 |mk (x:V) (h:Hd) (ns:aU):vs=[x]->HV H x h->h.ok ns->Kn mg H "FROM" [.str "from"]->Kn mg H "TO" [.str "to"]->(∀(L:Addr)(O:bY)(U:Hp),H L=none->U L=be O->SV U O (h.bh.map (·.1))->ae H U->Q (.ref L) U)->Jq mg vs H Q bz
theorem lQ(T:Txt K mg w):bq P w K mg base 1 "steps_in" ["head"] (Jq mg):=by
 refine T.wC.gw m8 ?_ ?_
 ·rintro _ _ _ _ ⟨x,h,ns,rfl,_⟩;rfl
 ·rintro f bf A I s H vs Q E hr ⟨x,h,ns,rfl,hv,hok,kf,kt,k⟩;have gk:=Qy (dD hr);have ab:sizeLine=16777216:=QM;refine⟨_,(aE (dE (aP (fC gk) (aQ K (zv 0) aH) bA) (aF (aZ (bV (aD (tE T.vT) (aD (tE T.MB) aC))))) bM)
   (aE (dE (ZQ T.kH (aQ K (zv 0) aH)) (aF (aZ (gW ["word","x"] [0] ["word","x","head"] (cL m8) (jF K (aQ K (zv 0) aH)) 'b' (λ_ _ _ _ _ _=>(bE (aN (ZS T.kH (aQ K (zv 2) aH) (λ_ _=>rfl)) (aD (zv 0) aC))))))) bM)
   (aF (aZ (bV aC))))),?_⟩
  cases hv with
  | @one b s e=>
   refine⟨_,.str s,.inr (ak.of e),aK _ _,rfl,_,rfl,gy (λc=>?_) (λ_=>⟨_,.str s,.inr (ak.of e),aK _ _,Sum.inr s,rfl,_,rfl,gy (λc=>?_) (λ_=>⟨o_,λL a=>k L [] _ a aA SV.nil (ae.upd a _)⟩)⟩)⟩
   ·rw[QF,dH]at c;rcases hok with rfl|rfl<;>exact absurd c (by decide+kernel)
   ·rcases hok with rfl|rfl<;>exact absurd c (by decide+kernel)
  | @as b y e=>
   refine⟨_,.str "as",.inr (ak.of e),aK _ _,rfl,_,rfl,gy (λc=>?_) (λ_=>⟨_,.str "as",.inr (ak.of e),aK _ _,Sum.inr "as",rfl,_,rfl,gy (λc=>?_) (λ_=>⟨o_,λL a=>k L [] _ a aA SV.nil (ae.upd a _)⟩)⟩)⟩
   ·rw[QF,dH]at c;exact absurd c (by decide+kernel)
   ·exact absurd c (by decide+kernel)
  | @way b y z e=>
   refine⟨_,.str "way",.inr (ak.of e),aK _ _,rfl,_,rfl,gy (λ_=>?_) (λc=>absurd c (by simp))⟩;refine⟨jd,λL a=>k L _ _ a aA ?_ (ae.upd a _)⟩;exact(SV.nil.snoc (m:=["from"]) (kf.same (ae.upd a _)).rd).snoc (m:=["to"]) (kt.same (ae.upd a _)).rd
  | @prs b c s l ps e ec hp=>
   have gj:=hp.len;have Gp:=hok.2.2.2;obtain⟨n1,n2,n3⟩:(s=="way")=false/\(a_ [((Sum.inr "box":Key),V.str "part"),(Sum.inr "pick",V.str "case")] (Sum.inr s)).isSome=true/\a_ [((Sum.inr "box":Key),V.str "part"),(Sum.inr "pick",V.str "case")] (Sum.inr s)=some (.str (zf s)):=by
    rcases hok.1 with rfl|rfl<;>exact⟨by decide+kernel,by decide+kernel,by decide+kernel⟩
   refine⟨_,.str s,.inr (ak.of e),aK _ _,rfl,_,rfl,gy (λc=>?_) (λ_=>⟨_,.str s,.inr (ak.of e),aK _ _,Sum.inr s,rfl,_,rfl,gy (λ_=>?_) (λc=>?_)⟩)⟩
   ·rw[QF,dH,n1]at c;cases c
   ·refine⟨_,.ref c,.inr (ak.of e),rfl,Or.inr ⟨⟨l,ak.of ec⟩,λD N=>?_⟩⟩;refine fW (dU l) (λi C g=>X3 fun(R v1:cp)(j:bY)=>C=[R,v1,aa b]/\g D=be j/\SV g j ((ps.take i).map λp=>[zf s,p.1])/\ae H g) ⟨none,none,[],rfl,aA,SV.nil,ae.upd N _⟩ (by rintro i C g _ ⟨_,_,_,_,_,_,s⟩;exact ak.of (s _ _ ec)) ?_ ?_
    ·rintro i C g hi ⟨R,v1,j,rfl,q1,o,q⟩;have xo:i<ps.length:=by lia
     obtain⟨d,r1,r2⟩:=hp.at_ i hi xo
     have eg:l.getD i .ao=.ref d:=cX hi r1;rw[eg];refine fI (q _ _ r2) ?_;have MM:j.length=i:=by have:=o.len;simp at this;lia
     refine⟨_,.str s,.inr (ak.of (q _ _ e)),aK _ _,Sum.inr s,_,rfl,n3,jd,λt Y=>?_⟩;have G:=ae.upd Y (.tup [.str (zf s),.str ps[i].1]);have g1:upd g t (.tup [.str (zf s),.str ps[i].1]) t=ff [.str (zf s),.str ps[i].1]:=aA
     (try dsimp only)
     generalize upd g t (.tup [.str (zf s),.str ps[i].1])=H5 at G g1;have gD:=G _ _ q1;have kp:∀b l,bj H5 b l->bj (upd H5 D (.lst (j++[.ref t]))) b l:=λb l r=>r.upd λu hu z=>by
      subst z;rcases r with r|⟨_,r⟩<;>(rw[gD]at r;cases r)
     refine⟨j,gD,by lia,_,_,j++[.ref t],rfl,aA,?_,(q.trans G).put N⟩;have et:(ps.take (i+1)).map (λp=>([zf s,p.1]:aU))=(ps.take i).map (λp=>([zf s,p.1]:aU))++[[zf s,ps[i].1]]:=by
      rw[Qs,Qa xo,Qm];rfl
     rw[et];exact((o.keep λb l r=>r.same G).keep kp).snoc (m:=[zf s,ps[i].1]) (kp _ _ (.inl g1))
    ·rintro C g ⟨R,v1,j,rfl,q1,o,q⟩;rw[gj,Qo]at o;refine k D j g N q1 ?_ q;have em:(Hd.prs s ps).bh.map (·.1)=ps.map λp=>([zf s,p.1]:aU):=by
      simp[Hd.bh,zf,Qn,QC]
     rw[em];exact o
   ·rw[n2]at c;cases c
inductive M5 (mg:Str->cv)(vs:bY)(H:Hp)(Q:VK)(bz:XK):Prop
 |mk (x:V) (h:Hd) (ns:aU) (F:List aj) (d:Addr):vs=[x,.ref d]->HV H x h->h.ok ns->Kn mg H "FROM" [.str "from"]->Kn mg H "TO" [.str "to"]->Rd H d (.dK (j_ F))->(∀z∈ns,z∈F.map (·.1))->(F.map (·.1)).Nodup->(∀(m:Addr)(U:Hp),H m=none->U m=some (.dT (qi F h))->ae H U->Q (.ref m) U)->M5 mg vs H Q bz
theorem sP(T:Txt K mg w):bq P w K mg base 2 "moves_in" ["head","rows"] (M5 mg):=by
 refine T.vQ.gw m6 ?_ ?_
 ·rintro _ _ _ _ ⟨x,h,l,F,d,rfl,_⟩;rfl
 ·rintro f bf A r s H vs Q E t ⟨x,h,l,F,d,rfl,hv,hok,kf,kt,hd,gb,nd,k⟩;obtain⟨hu,gk,hsz⟩:=d5 t;have ab:=rP hok;refine⟨_,(aF (aZ (Fs (own:=["step","x"]) (idx:=[1]) (N':=["step","x","rows"]) (cL m6) rfl gk (xX K (by rfl) T.MA (aV (aT (lQ T) t (aD (zv 0) aC)) (aV (aT (qN T) t (aD (zv 0) aC)) aC))) 'b' (λ_ _ _ _ _ _=>gY) (λ_ _ _ _ _ _=>(zv 0)) (λ_ _ _ _ _ _=>(bK hu (zv 2) (zv 1)))))),?_⟩;refine⟨x,h,l,rfl,hv,hok,kf,kt,λL e H1 hL N R m=>⟨x,h,l,rfl,hv.tk m.ts,hok,λM H2 hM eM c=>?_⟩⟩;have u:=R.len;rw[Ql]at u;refine⟨L,M,e,(vo h).map V.str,rfl,ai.of (c _ _ N),ai.of eM,λD y=>?_⟩;have Av:H D=none:=(m.trans c).free y;have mn:min e.length ((vo h).map V.str).length=h.bh.length:=by have:=Ki (h:=h);simp;lia
  have z:=qP (F:=F) (wP hok);have ml:(qi F h).length=h.bh.length:=by simp[qi]
  refine sk (xJ e ((vo h).map V.str)) (λi o a=>X2 fun(C G:cp)=>o=[C,G,aa d]/\a D=some (.dT ((qi F h).take i))/\ae H2 a) ⟨none,none,rfl,aA,ae.upd y _⟩ (by rintro i o a _ ⟨_,_,_,_,s⟩;exact⟨ai.of (s _ _ (c _ _ N)),ai.of (s _ _ eM)⟩) ?_ ?_
  ·rintro i o a T p ⟨C,G,rfl,q,g⟩ hT;rw[mn]at p;have Tw:i<e.length:=by lia
   obtain⟨b,e1,e2⟩:=R.at_ i Tw (by simpa using p)
   have g1:e.getD i .ao=.ref b:=cX Tw e1;have CA:((vo h).map V.str).getD i .ao=.str h.bh[i].2:=by rw[Qb,Qq,Iw i p];rfl
   rw[g1,CA];have j:=ae.upd hT (.tup [.ref b,.str h.bh[i].2]);generalize upd a T (.tup [.ref b,.str h.bh[i].2])=H5 at j;have hz:h.bh[i].2∈l:=wU hok _ (Qj p);have I:Rd H5 d (.dK (j_ F)):=hd.same (((m.trans c).trans g).trans j);refine⟨d,.str (b7 F h.bh[i].2),rfl,by rw[<- qE nd (gb _ hz)];exact dz.rd (k:=Sum.inr h.bh[i].2) I,?_⟩;have er:bj H5 b (h.bh[i].1.map V.str):=by
    have:=(e2.same ((c.trans g).trans j))
    simpa using this
   have L7:i<(qi F h).length:=by lia
   have em:(qi F h)[i]=(h.bh[i].1.map Sum.inr,.str (b7 F h.bh[i].2)):=by simp[qi]
   refine⟨(qi F h).take i,(qi F h)[i].1,b,rfl,by rw[em,IR];exact er,j _ _ q,by simp;lia,_,_,rfl,?_,?_⟩
   ·have:=xB z L7;rw[em]at this⊢;rw[this];exact aA
   ·exact(g.trans j).put y
  ·rintro o a ⟨C,G,rfl,q,g⟩;rw[mn,<- ml,Qo]at q;exact k D a Av q ((m.trans c).trans g)
inductive M6 (mg:Str->cv)(vs:bY)(H:Hp)(Q:VK)(bz:XK):Prop
 |mk (x dx a:Addr) (xs:bY) (F:List aj) (ns ws:aU):vs=[.ref x,.ref a]->H x=some (.ins (cr mg "Net") dx [])->RT H a xs F ns ws->(∀z∈ws,Wd z)->Kn mg H "FROM" [.str "from"]->Kn mg H "TO" [.str "to"]->(∀U,AV U (cr mg "Net") x F->Sx x H U->Q .ao U)->M6 mg vs H Q bz
theorem Gi{f g:Str}{u v:V}(n:Nat):(cj f u (cj g v [])).length<1000:=by
 have b:=bO f u (cj g v []);have a:=bO g v [];simp at a
 lia
theorem pX{K:Q0}{b:TE}{f:Str}(h:b Z H λy H1=>ta Z H1 λx H2=>∃a C dx fs,x=.ref a/\H2 a=some (.ins C dx fs)/\vf K C/\AJ K C f/\fs.length<1000/\D.nx Z (upd H2 a (.ins C dx (cj f y fs)))):HW K ta b f D Z H:=h
set_option maxHeartbeats 1000000 in
theorem Gf(T:Txt K mg w):Dn P w K mg base 4 "Net" (cr mg "Net") ["self","T"] (M6 mg):=by
 have cl:=T.Au.2.1;have na:=T.Au.2.2.1;refine T.Au.gw fL (λvs H Q E h=>?_) (λf bf A ag s H vs Q E hr h=>?_)
 ·obtain⟨x,dx,a,xs,F,ns,ws,rfl,_⟩:=h;rfl
 ·obtain⟨x,dx,a,xs,F,ns,ws,rfl,hx,rt,hw,kf,kt,k⟩:=h;obtain⟨hu,gk,hsz⟩:=d5 hr;have mj:=rt.mj;have Dl:=rt.rl;have few:=rt.few;have aw:(bx F).length<=14:=by have:=mf (λr:aj=>r.2.nx.isNone) F;unfold bx;lia
  have Bu:((bx F).map (·.1)).Nodup:=(mj.sublist (List.filter_sublist.map _))
  refine⟨_,(aE (lN K (zv 0) (mT (aT (vY T) hr (aD (zv 1) aC))))
   (aE (lN K (zv 0) (mT (yD (own:=["name","head"]) (idx:=[]) (N':=["name","head"]) (cL fL) rfl (jF K (zv 1)) 'b' (λ_ _ _ _ _ _=>(PN (aP (oP gk) (aQ K (zv 1) aH) bA))) (λ_ _ _ _ _ _=>(zv 0)) (λ_ _ _ _ _ _=>(zv 1)))))
   (aE (lN K (zv 0) (mT (yD (own:=["row","head"]) (idx:=[]) (N':=["row","head"]) (cL fL) rfl (oK (cT K (zv 0))) 'b' (λ_ _ _ _ _ _=>gY) (λ_ _ _ _ _ _=>(zv 0)) (λ_ _ _ _ _ _=>(bE (aN (aQ K (zv 1) aH) (aV (fQ (dC K) T.dI QH (aV (aT (lQ T) hr (aD (zv 1) aC)) aC)) aC)))))))
   (aF (lN K (zv 0) (mT (yD (own:=["row","head"]) (idx:=[0]) (N':=["row","head","self"]) (cL fL) rfl (oK (cT K (zv 0))) 'b' (λ_ _ _ _ _ _=>gY) (λ_ _ _ _ _ _=>(zv 0)) (λ_ _ _ _ _ _=>(mT (aT (sP T) hr (aD (zv 1) (jO (cT K (zv 2)) aC)))))))))))),?_⟩
  generalize hC:cr mg "Net"=C at*;refine g7 ⟨a,xs,F,ns,ws,rfl,rt,hw,λp H1 Jr s1 e1=>⟨p,rfl,.inl ⟨_,.inl e1,λo1=>?_⟩⟩⟩;have r_:p≠x:=λz=>by rw[z,hx]at Jr;cases Jr
  refine⟨x,C,dx,[],rfl,by rw[aB r_.symm];exact s1 _ _ hx,cl,na "rows" (by simp),by simp,?_⟩;have M7:Sx x H (upd (upd H1 p (.af o1 (.dK (j_ F)))) x (.ins C dx (cj "rows" (.ref p) []))):=((s1.put Jr).sx).trans Sx.upd;have g1:upd (upd H1 p (.af o1 (.dK (j_ F)))) x (.ins C dx (cj "rows" (.ref p) [])) p=some (.af o1 (.dK (j_ F))):=by rw[aB r_];exact aA
  have gx:upd (upd H1 p (.af o1 (.dK (j_ F)))) x (.ins C dx (cj "rows" (.ref p) [])) x=some (.ins C dx (cj "rows" (.ref p) [])):=aA;generalize upd (upd H1 p (.af o1 (.dK (j_ F)))) x (.ins C dx (cj "rows" (.ref p) []))=H2 at M7 g1 gx⊢;have nt:∀J,H x≠ff J:=λJ z=>by rw[hx]at z;cases z
  have nf:∀q u,H x≠some (.af q u):=λq u z=>by rw[hx]at z;cases z
  have uy:=rt.tk (M7.tk nt);clear e1 s1 Jr H1
  -- heads
  refine g7 (Or.inr ⟨⟨xs,ak.of uy.at_⟩,λD hD=>?_⟩);have G5:D≠x:=λz=>by rw[z,gx]at hD;cases hD
  refine LK (dU xs) (λi τ H3=>X3 fun(v0 v1:cp)(d:ca)=>τ=[v0,v1]/\H3 D=eu d/\DV RH H3 d (bx (F.take i))/\ae H2 H3) ⟨none,none,[],rfl,aA,DV.nil,ae.upd hD _⟩ (by rintro i τ H3 _ ⟨_,_,_,_,_,_,s⟩;exact ak.of (s _ _ uy.at_)) ?_ ?_
  ·rintro i τ H3 hi ⟨v0,v1,d,rfl,I,G,g⟩;have rq:i<F.length:=by have:=uy.rv.len;lia
   obtain⟨b,v,r1,r2,r3⟩:=uy.rv.at_ i hi rq
   have eg:xs.getD i .ao=.ref b:=cX hi r1;rw[eg];refine fI (g _ _ r2) ?_;have ab:=r3.same g;obtain⟨c,J,rfl,hc⟩:=ab.fg;have hok:=(uy.ok F[i] (Qj rq)).2;have et:F.take (i+1)=F.take i++[F[i]]:=mO rq;have kl:d.length<sizeLine:=by
    have Y:=G.len;have h2:=mf (λr:aj=>r.2.nx.isNone) (F.take i);unfold bx at Y;simp at h2
    lia
   refine⟨_,.str F[i].2.fg,.inr (ak.of hc),aK _ _,rfl,_,rfl,gy (λc1=>?_) (λc1=>?_)⟩
   ·have hn:F[i].2.nx.isNone=true:=by
     cases e:F[i].2.nx.isNone with
     |true=>rfl
     |false=>
      have:=(Rl hok).symm▸e;rw[this]at c1;simp at c1
    have en:bx (F.take (i+1))=bx (F.take i)++[F[i]]:=by
     rw[et];unfold bx;rw[List.filter_append,pi,if_pos hn];rfl
    have L5:F[i].1∉(bx (F.take i)).map (·.1):=λhm=>by
     obtain⟨r,hr,e⟩:=Z2.mp hm;have ia:=(Qab.mp hr).1;obtain⟨j,hj,rfl⟩:=Qi ia;have vn:j<i:=by simp at hj;lia
     rw[io]at e;have:=uW.mp mj j i (by simp;lia) (by simpa using rq) vn;simp only[Qr]at this;exact this e
    refine⟨d,.inr F[i].1,rfl,I,kl,_,_,d++[(.inr F[i].1,.ref c)],rfl,?_,?_,g.put hD⟩
    ·rw[G.put L5];exact aA
    ·rw[en];exact(G.snoc (show RH H3 (.ref c) F[i]from ab)).keep λv r h=>HV.tk ((Tk.refl).set I λxs z=>nomatch z) h
   ·have hn:F[i].2.nx.isNone=false:=by
     have e:F[i].2.fg="as":=by
      have:decide (V.str F[i].2.fg=V.str "as")=true:=by simpa using c1
      exact V.str.inj (Qt this)
     exact(Rl hok)▸e
    have en:bx (F.take (i+1))=bx (F.take i):=by
     rw[et];unfold bx;rw[List.filter_append,pi,if_neg (by rw[hn];decide)];simp
    exact⟨_,_,d,rfl,I,by rw[en];exact G,g⟩
  ·rintro τ H3 ⟨v0,v1,N,rfl,I,G,g⟩;rw[uy.rv.len,Qo]at G;refine⟨D,rfl,.inl ⟨N,.inl I,λo2=>?_⟩⟩;refine⟨x,C,dx,_,rfl,by rw[aB G5.symm];exact g _ _ gx,cl,na "heads" (by simp),by simp[cj],?_⟩;have GO:p≠D:=λz=>by rw[z,hD]at g1;cases g1
   have M8:Sx x H2 (upd (upd H3 D (.af o2 (.dK N))) x (.ins C dx (cj "heads" (.ref D) (cj "rows" (.ref p) [])))):=((g.put hD:ae _ _) |> ae.sx).trans Sx.upd;have g2:upd (upd H3 D (.af o2 (.dK N))) x (.ins C dx (cj "heads" (.ref D) (cj "rows" (.ref p) []))) D=some (.af o2 (.dK N)):=by rw[aB G5];exact aA
   have CD:upd (upd H3 D (.af o2 (.dK N))) x (.ins C dx (cj "heads" (.ref D) (cj "rows" (.ref p) []))) x=some (.ins C dx (cj "heads" (.ref D) (cj "rows" (.ref p) []))):=aA;have Fl:DV RH (upd (upd H3 D (.af o2 (.dK N))) x (.ins C dx (cj "heads" (.ref D) (cj "rows" (.ref p) [])))) N (bx F):=G.keep λv r h=>HV.tk (((Tk.refl).set I λxs z=>nomatch z).set (by rw[aB G5.symm];exact g _ _ gx) λxs z=>by cases z) h;generalize upd (upd H3 D (.af o2 (.dK N))) x (.ins C dx (cj "heads" (.ref D) (cj "rows" (.ref p) [])))=H4 at M8 g2 CD Fl⊢;have zb:H4 p=some (.af o1 (.dK (j_ F))):=M8 _ _ r_ g1;have M9:=M7.trans M8;have M_:Kn mg H4 "FROM" [.str "from"]:=let ⟨o,e⟩:=kf;⟨o,M9.af nf e⟩
   have Na:Kn mg H4 "TO" [.str "to"]:=let ⟨o,e⟩:=kt;⟨o,M9.af nf e⟩
   have Tz:=Fl.len;have TF:∀i(h:i<(bx F).length),((bx F)[i]).2.ok ns:=λi h=>(rt.ok _ (Qab.mp (Qj h)).1).2;have TJ:∀i(h:i<(bx F).length),jn N i=.str (bx F)[i].1:=λi h=>by
    unfold jn;rw[Qa (by lia)];show kV N[i].1=_;rw[(Fl.at_ i (by lia) h).1];rfl
   have ah:∀i(h:i<(bx F).length),HV H4 (valAt N i) (bx F)[i].2:=λi h=>by
    unfold valAt;rw[Qa (by lia)];exact(Fl.at_ i (by lia) h).2
   have Js:∀i(h:i<(bx F).length),(bx F)[i].1∉((bx F).take i).map (·.1):=λi h hm=>by
    obtain⟨r,hr,e⟩:=Z2.mp hm;obtain⟨j,hj,rfl⟩:=Qi hr;have vn:j<i:=by simp at hj;lia
    rw[io]at e;have:=uW.mp Bu j i (by simp;lia) (by simpa using h) vn;simp only[Qr]at this;exact this e
   have TL:∀i(h:i<(bx F).length),(bx F).take (i+1)=(bx F).take i++[(bx F)[i]]:=λi h=>by rw[Qs,Qa h];rfl
   clear I G g hD uy
   -- marks
   refine g7 ⟨x,C,dx,_,.ref D,rfl,CD,cl,na "heads" (by simp),by rw[bT,if_pos rfl],D,N,rfl,.inl ⟨o2,g2,λR DR=>?_⟩⟩;have G6:R≠x:=λz=>by rw[z,CD]at DR;cases DR
   refine rN (lB N) (λi τ H5=>X3 fun(v0 v1:cp)(d:ca)=>τ=[v0,v1]/\H5 R=eu d/\DV RM H5 d ((bx F).take i)/\ae H4 H5) ⟨none,none,[],rfl,aA,DV.nil,ae.upd DR _⟩ (by rintro i τ H5 _ ⟨_,_,_,_,_,_,s⟩;exact s _ _ g2) ?_ ?_
   ·rintro i τ H5 T5 hi ⟨v0,v1,d,rfl,I,G,g⟩ hT;have gb:i<(bx F).length:=by lia
    rw[TJ i gb];have hv:=ah i gb;generalize valAt N i=v at hv;have t1:=ae.upd hT (.tup [.str (bx F)[i].1,v]);generalize upd H5 T5 (.tup [.str (bx F)[i].1,v])=H6 at t1;have TM:=hv.same (g.trans t1);obtain⟨c,J,rfl,hc⟩:=TM.fg;refine⟨_,.str (bx F)[i].2.fg,.inr (ak.of hc),aK _ _,.ref c,(bx F)[i].2,ns,rfl,TM,TF i gb,M_.same (g.trans t1),Na.same (g.trans t1),λL O H7 hL eL sv s7=>?_⟩;refine⟨L,O,rfl,.inl ⟨ai.of eL,λl hl=>⟨jd,λt ht=>?_⟩⟩⟩;have s8:=(s7.trans (ae.upd hl (.tup O))).trans (ae.upd ht (.tup [.str (bx F)[i].2.fg,.ref l]));have el:upd (upd H7 l (.tup O)) t (.tup [.str (bx F)[i].2.fg,.ref l]) l=ff O:=ae.upd ht _ _ _ aA;have et:upd (upd H7 l (.tup O)) t (.tup [.str (bx F)[i].2.fg,.ref l]) t=ff [.str (bx F)[i].2.fg,.ref l]:=aA;have TN:SV (upd (upd H7 l (.tup O)) t (.tup [.str (bx F)[i].2.fg,.ref l])) O ((bx F)[i].2.bh.map (·.1)):=sv.keep λb J r=>r.same ((ae.upd hl _).trans (ae.upd ht _))
    (try dsimp only)
    generalize upd (upd H7 l (.tup O)) t (.tup [.str (bx F)[i].2.fg,.ref l])=H8 at s8 el et TN;have g3:=(t1.trans s8) _ _ I;have kl:d.length<sizeLine:=by have Y:=G.len;simp at Y;lia
    have kp:Tk H8 (upd H8 R (.dK (d++[(.inr (bx F)[i].1,.ref t)]))):=(Tk.refl).set g3 λxs z=>nomatch z;refine⟨d,.inr (bx F)[i].1,rfl,g3,kl,_,_,d++[(.inr (bx F)[i].1,.ref t)],rfl,?_,?_,((g.trans t1).trans s8).put DR⟩
    ·rw[G.put (Js i gb)];exact aA
    ·rw[TL i gb,G.put (Js i gb)];have kr:∀b J,bj H8 b J->bj (upd H8 R (.dK (d++[(.inr (bx F)[i].1,.ref t)]))) b J:=λb J r=>r.put g3 ('n') λ_ _ z=>nomatch z;refine((G.keep λv r ⟨b,c,O,e1,e2,e3,e4⟩=>⟨b,c,O,e1,(t1.trans s8) _ _ e2,(t1.trans s8) _ _ e3,e4.keep λb J r=>r.same (t1.trans s8)⟩:DV RM H8 d _).snoc (show RM H8 (.ref t) (bx F)[i]from⟨t,l,O,rfl,et,el,TN⟩)).keep λv r ⟨b,c,O,e1,e2,e3,e4⟩=>⟨b,c,O,e1,kp _ _ e2,kp _ _ e3,e4.keep kr⟩
   ·rintro τ H5 ⟨v0,v1,k3,rfl,I,G,g⟩;rw[Tz,Qo]at G;refine⟨R,rfl,.inl ⟨k3,.inl I,λo3=>?_⟩⟩;refine⟨x,C,dx,_,rfl,by rw[aB G6.symm];exact g _ _ CD,cl,na "marks" (by simp),Gi 2,?_⟩;have ax:p≠R:=λz=>by rw[z,DR]at zb;cases zb
    have a1:D≠R:=λz=>by rw[z,DR]at g2;cases g2
    generalize TQ:cj "marks" (.ref R) (cj "heads" (.ref D) (cj "rows" (.ref p) []))=jv;have lk:∀y:Str,jv.lookup y=if y="marks" then aa R else if y="heads" then aa D else if y="rows" then aa p else none:=λy=>by rw[<- TQ,bT,bT,bT];rfl
    have fl:jv.length<=3:=by rw[<- TQ];have Y:=bO "marks" (.ref R) (cj "heads" (.ref D) (cj "rows" (.ref p) []));have h2:=bO "heads" (.ref D) (cj "rows" (.ref p) []);have h3:=bO "rows" (.ref p) [];simp at h3;lia
    have DS:Sx x H4 (upd (upd H5 R (.af o3 (.dK k3))) x (.ins C dx jv)):=((g.put DR:ae _ _) |> ae.sx).trans Sx.upd;have g3:upd (upd H5 R (.af o3 (.dK k3))) x (.ins C dx jv) R=some (.af o3 (.dK k3)):=by rw[aB G6];exact aA
    have CF:upd (upd H5 R (.af o3 (.dK k3))) x (.ins C dx jv) x=some (.ins C dx jv):=aA;have CG:Tk H5 (upd (upd H5 R (.af o3 (.dK k3))) x (.ins C dx jv)):=((Tk.refl).set I λxs z=>nomatch z).set (by rw[aB G6.symm];exact g _ _ CD) λxs z=>by cases z
    have TR:∀b J,bj H5 b J->bj (upd (upd H5 R (.af o3 (.dK k3))) x (.ins C dx jv)) b J:=λb J r=>(r.put I ('n') λ_ _ z=>nomatch z).put (by rw[aB G6.symm];exact g _ _ CD) (λ_ z=>by cases z) λ_ _ z=>by cases z
    have TU:DV RM (upd (upd H5 R (.af o3 (.dK k3))) x (.ins C dx jv)) k3 (bx F):=G.keep λv r ⟨b,c,O,e1,e2,e3,e4⟩=>⟨b,c,O,e1,CG _ _ e2,CG _ _ e3,e4.keep TR⟩
    have Nb:DV RH (upd (upd H5 R (.af o3 (.dK k3))) x (.ins C dx jv)) N (bx F):=Fl.keep λv r h=>HV.tk ((g.ts).trans CG) h;generalize upd (upd H5 R (.af o3 (.dK k3))) x (.ins C dx jv)=H6 at DS g3 CF TU Nb⊢;have Jt:H6 p=some (.af o1 (.dK (j_ F))):=DS _ _ r_ zb;have G7:H6 D=some (.af o2 (.dK N)):=DS _ _ G5 g2;have al:Kn mg H6 "FROM" [.str "from"]:=let ⟨o,e⟩:=M_;⟨o,DS.af (λq u z=>by rw[CD]at z;cases z) e⟩
    have am:Kn mg H6 "TO" [.str "to"]:=let ⟨o,e⟩:=Na;⟨o,DS.af (λq u z=>by rw[CD]at z;cases z) e⟩
    have an:∀i(h:i<(bx F).length),HV H6 (valAt N i) (bx F)[i].2:=λi h=>by
     unfold valAt;rw[Qa (by lia)];exact(Nb.at_ i (by lia) h).2
    have ap:=M9.trans DS;have ar:∀z∈ns,z∈F.map (·.1):=λz hz=>rt.nm.mem_iff.mpr hz;clear I G g CG TR Fl DS
    -- moves
    refine pX ⟨x,C,dx,jv,.ref D,rfl,CF,cl,na "heads" (by simp),by rw[lk,if_neg (by decide+kernel),if_pos rfl],D,N,rfl,.inl ⟨o2,G7,λD4 CH=>?_⟩⟩;have Ju:D4≠x:=λz=>by rw[z,CF]at CH;cases CH
    refine rN (lB N) (λi τ H7=>X3 fun(v0 v1:cp)(d:ca)=>τ=[v0,v1,aa x]/\H7 D4=eu d/\DV (RO F) H7 d ((bx F).take i)/\ae H6 H7) ⟨none,none,[],rfl,aA,DV.nil,ae.upd CH _⟩ (by rintro i τ H5 _ ⟨_,_,_,_,_,_,s⟩;exact s _ _ G7) ?_ ?_
    ·rintro i τ H7 T7 hi ⟨v0,v1,d,rfl,I,G,g⟩ hT;have gb:i<(bx F).length:=by lia
     rw[TJ i gb];have hv:=an i gb;generalize valAt N i=v at hv;have t1:=ae.upd hT (.tup [.str (bx F)[i].1,v]);generalize upd H7 T7 (.tup [.str (bx F)[i].1,v])=H8 at t1;have q4:=g.trans t1;refine⟨x,C,dx,jv,.ref p,rfl,q4 _ _ CF,cl,na "rows" (by simp),by rw[lk,if_neg (by decide+kernel),if_neg (by decide+kernel),if_pos rfl],?_⟩;refine⟨v,(bx F)[i].2,ns,F,p,rfl,hv.same q4,TF i gb,al.same q4,am.same q4,.inr ⟨o1,q4 _ _ Jt⟩,ar,mj,λm H9 hm em s9=>⟨m,rfl,.inr ⟨_,.inl em,λo=>?_⟩⟩⟩;have a2:D4≠m:=λz=>by
      have:=t1 _ _ I;rw[z,hm]at this;cases this
     have gm:ae H8 (upd H9 m (.af o (.dT (qi F (bx F)[i].2)))):=s9.put hm;have TV:upd H9 m (.af o (.dT (qi F (bx F)[i].2))) m=some (.af o (.dT (qi F (bx F)[i].2))):=aA;generalize upd H9 m (.af o (.dT (qi F (bx F)[i].2)))=uz at gm TV;have TY:=(t1.trans gm) _ _ I;have kl:d.length<sizeLine:=by have Y:=G.len;simp at Y;lia
     refine⟨d,.inr (bx F)[i].1,rfl,TY,kl,_,_,d++[(.inr (bx F)[i].1,.ref m)],rfl,?_,?_,(q4.trans gm).put CH⟩
     ·rw[G.put (Js i gb)];exact aA
     ·rw[TL i gb,G.put (Js i gb)];refine((G.keep λv r ⟨m',o',e1,e2⟩=>⟨m',o',e1,(t1.trans gm) _ _ e2⟩:DV (RO F) uz d _).snoc (show RO F uz (.ref m) (bx F)[i]from⟨m,o,rfl,TV⟩)).keep λv r ⟨m',o',e1,e2⟩=>⟨m',o',e1,?_⟩
      rw[aB (λz=>by rw[z,TY]at e2;cases e2)];exact e2
    ·rintro τ H7 ⟨v0,v1,k4,rfl,I,G,g⟩;rw[Tz,Qo]at G;refine⟨D4,rfl,.inl ⟨k4,.inl I,λo4=>?_⟩⟩;refine⟨x,C,dx,jv,rfl,by rw[aB Ju.symm];exact g _ _ CF,cl,na "moves" (by simp),by lia,?_⟩;have a3:p≠D4:=λz=>by rw[z,CH]at Jt;cases Jt
     have a4:D≠D4:=λz=>by rw[z,CH]at G7;cases G7
     have a5:R≠D4:=λz=>by rw[z,CH]at g3;cases g3
     have s7:Sx x H6 (upd (upd H7 D4 (.af o4 (.dK k4))) x (.ins C dx (cj "moves" (.ref D4) jv))):=((g.put CH:ae _ _) |> ae.sx).trans Sx.upd;have Nc:Tk H7 (upd (upd H7 D4 (.af o4 (.dK k4))) x (.ins C dx (cj "moves" (.ref D4) jv))):=((Tk.refl).set I λxs z=>nomatch z).set (by rw[aB Ju.symm];exact g _ _ CF) λxs z=>by cases z
     have as:∀b J,bj H7 b J->bj (upd (upd H7 D4 (.af o4 (.dK k4))) x (.ins C dx (cj "moves" (.ref D4) jv))) b J:=λb J r=>(r.put I ('n') λ_ _ z=>nomatch z).put (by rw[aB Ju.symm];exact g _ _ CF) (λ_ z=>by cases z) λ_ _ z=>by cases z
     have av:∀b q u,H7 b=some (.af q u)->upd (upd H7 D4 (.af o4 (.dK k4))) x (.ins C dx (cj "moves" (.ref D4) jv)) b=some (.af q u):=λb q u e=>by
      rw[aB (λz=>by rw[z,g _ _ CF]at e;cases e),aB (λz=>by rw[z,I]at e;cases e)];exact e
     have l4:∀y:Str,(cj "moves" (.ref D4) jv).lookup y=if y="moves" then aa D4 else jv.lookup y:=λy=>bT _ _ _ _
     refine k _ ⟨dx,cj "moves" (.ref D4) jv,aA,⟨⟨p,o1,?_,s7 _ _ r_ Jt⟩,⟨D,o2,N,?_,s7 _ _ G5 G7,Nb.keep λv r h=>HV.tk (g.ts.trans Nc) h⟩,⟨R,o3,k3,?_,s7 _ _ G6 g3,TU.keep λv r ⟨b,c,O,e1,e2,e3,e4⟩=>⟨b,c,O,e1,Nc _ _ (g _ _ e2),Nc _ _ (g _ _ e3),e4.keep λb J r=>as _ _ (r.same g)⟩⟩,⟨D4,o4,k4,?_,?_,G.keep λv r ⟨m,o,e1,e2⟩=>⟨m,o,e1,av _ _ _ e2⟩⟩⟩⟩ (ap.trans s7)
     ·rw[l4,if_neg (by decide+kernel),lk,if_neg (by decide+kernel),if_neg (by decide+kernel),if_pos rfl]
     ·rw[l4,if_neg (by decide+kernel),lk,if_neg (by decide+kernel),if_pos rfl]
     ·rw[l4,if_neg (by decide+kernel),lk,if_pos rfl]
     ·rw[l4,if_pos rfl]
     ·rw[aB Ju];exact aA
def da(a:aU):aU:=a.flatMap λn=>[n++"q",n++"r"]
theorem eO:z∈da ns↔∃n∈ns,z=n++"q"\/z=n++"r":=by
 unfold da;rw[Qbs];constructor
 ·rintro⟨n,hn,h⟩;simp only[Qp,QB,or_false]at h;exact⟨n,hn,h⟩
 ·rintro⟨n,hn,h⟩;exact⟨n,hn,by simpa using h⟩
theorem TZ:∀z∈da N8,ce z=true/\Wd z:=by
 have b:(da N8).all (λz=>ce z&&decide (z.length<=20)&&z.cps.toList.all (λc=>decide (c<128)))=true:=by decide+kernel
 intro z d;have a:=Qbc.mp b z d;simp only[im,decide_eq_true_eq]at a;exact⟨a.1.1,a.1.2,λc e=>Qt (Qbc.mp a.2 c e)⟩
theorem qL(a:aU):(da a).length=2*a.length:=by
 unfold da
 induction a with
 |nil=>rfl
 |cons n a ih=>rw[np,Qk,ih];simp;lia
theorem T6(a:aU)(i:Nat)(h:i<a.length):(da a)[2*i]? =some (a[i]++"q")/\(da a)[2*i+1]? =some (a[i]++"r"):=by
 unfold da
 induction a generalizing i with
 |nil=>simp at h
 |cons n a ih=>
  rw[np];cases i with
  |zero=>exact⟨rfl,rfl⟩
  |succ i=>
   have:=ih i (by simpa using h);rw[show 2*(i+1)=2*i+2 by lia,show 2*i+2+1=2*i+1+2 by lia];simpa using this
theorem Cd(h:ns.Nodup)(g:∀n∈ns,n∈N8):(da ns).Nodup:=by
 have i:∀a∈N8,∀b∈N8,∀c∈(["q","r"]:aU),∀d∈(["q","r"]:aU),a++c=b++d->a=b/\c=d:=by decide+kernel
 unfold da
 induction ns with
 |nil=>exact ij
 |cons n ns ih=>
  rw[uY]at h;rw[np,QaA];refine⟨?_,ih h.2 λm j=>g m (Qh _ j),λa k b hb e=>?_⟩
  ·have:=i n (g n yS) n (g n yS) "q" (by simp) "r" (by simp);simp only[uY,zO,List.not_mem_nil,not_false_eq_true,ij,and_true];exact λz=>absurd (this z).2 (by decide+kernel)
  ·obtain⟨m,j,hb⟩:=Qbs.mp hb;subst e;simp only[Qp,QB,or_false]at k hb;have f:∀c∈(["q","r"]:aU),∀d∈(["q","r"]:aU),n++c=m++d->False:=λc l d o e=>by
    have:=(i n (g n yS) m (g m (Qh _ j)) c l d o e).1;rw[this]at h;exact h.1 j
   rcases k with rfl|rfl<;>rcases hb with hb|hb
   ·exact f "q" (by simp) "q" (by simp) hb
   ·exact f "q" (by simp) "r" (by simp) hb
   ·exact f "r" (by simp) "q" (by simp) hb
   ·exact f "r" (by simp) "r" (by simp) hb
inductive Jv (K:Q0)(vs:bY)(H:Hp)(Q:VK)(bz:XK):Prop
 |mk (H0:Hp) (p:Addr) (v:V) (h:Hd) (t:Nat) (ns:aU):vs=[.ref p,v]->dc K H0 H p t->t+20<900000->HV H v h->h.ok ns->(∀n∈ns,n∈N8)->(∀z∈h.Ag,z∈WW)->(∀(v':V)(M:Hd)(U:Hp),HV U v' M->M.ok (da ns)->(∀y',M.nx=some y'->∃y,h.nx=some y/\(y'=y++"q"\/y'=y++"r"))->(∀z∈M.Ag,z∈WW)->dc K H0 U p (t+20)->Sm p p H U->Q v' U)->Jv K vs H Q bz
theorem T_(i:Nat)(h:i<2):∃c,qe (("qr":Str).cps.toList) (i:Int)=some c/\((⟨#[c]⟩:Str)="q"\/(⟨#[c]⟩:Str)="r"):=by
 match i,h with
 |0,_=>exact⟨113,rfl,.inl rfl⟩
 |1,_=>exact⟨114,rfl,.inr rfl⟩
set_option maxHeartbeats 2000000 in
theorem lH(T:Txt K mg w):bq P w K mg base 3 "_law_twin_head" ["_law_pen","_law_here"] (Jv K):=by
 refine T.mG.gw dM ?_ ?_
 ·rintro _ _ _ _ ⟨H0,p,v,h,t,ns,rfl,_⟩;rfl
 ·rintro f bf A af s H vs Q E hr ⟨H0,p,v,h,t,ns,rfl,hn,ht,hv,hok,h8,Jw,k⟩;obtain⟨hu,gk,hsz⟩:=d5 hr;have Jx:∀z∈ns,z.length<=8:=λz a=>gQ (tY z (h8 z a)).1;have DF:∀z∈da ns,ce z=true:=λz a=>by
   obtain⟨n,hn,h⟩:=eO.mp a;exact(TZ z (eO.mpr ⟨n,h8 n hn,h⟩)).1
  refine⟨_,(aE (dE (aP (qV K) (aQ K (zv 1) aH) (bE (aG bA (aG bA aC))) rfl) (aF (aZ (zv 1))) bM)
   (aE (dE (aP (qV K) (aQ K (zv 1) aH) (bE (aG bA (aG bA aC))) rfl) (aF (aZ (bW (rO K) (iG (yY K) (zv 1) iH (iI aH)) (fQ (dC K) T.dI QH (d6 (gW ["_law_name"] [0] ["_law_name","_law_pen"] (cL dM) (jF K (iG (yY K) (zv 1) (iI aH) iH)) (λ_ _ _ _ _ _=>(bD 0)) (λ_ _ _ _ _ _=>(bW bS (zv 0) (aQ K bA (aT (cF T) hr (aD (zv 1) (aG aH aC))))))) aC))))) bM)
   (aF (aZ (bE (aN (aQ K (zv 1) aH) (aV (fQ (dC K) T.dI QH (d6 (gW ["_law_word","_law_name"] [0] ["_law_word","_law_name","_law_pen"] (cL dM) (jF K (aQ K (zv 1) aH)) 'b' (λ_ _ _ _ _ _=>(bE (aD (zv 0) (fV (bW bS (zv 1) (aQ K bA (aT (cF T) hr (aD (zv 2) (aG aH aC))))) aC))))) aC)) aC))))))),?_⟩
  /- HQ first two m -/
  have m:∀(b:Addr)(z:Str)(d:bY)(A B:TS)(D:Ends)(l1 l2:Str),H b=ff (.str z::d)->((z∈([l1,l2]:aU))->∀g,ae H g->A D [aa p,aa b] g)->((z∉([l1,l2]:aU))->∀g,ae H g->B D [aa p,aa b] g)->
    ∀g,ae H g->Ef (Ek (jy (Ie K false) (jy (AQ K) (tV 1) (tC (V.int 0))) (Em (ik (tC (V.str l1)) (ik (tC (V.str l2)) qc))))) A B D [aa p,aa b] g:=by
   intro b z d A B D l1 l2 e hA hB g l;refine⟨_,.str z,.inr (ak.of (l _ _ e)),aK _ _,jd,λT1 DT=>⟨[.str l1,.str l2],.inr (ak.of aA),rfl,rfl,_,rfl,?_⟩⟩;show if(false^^Be (.str z) (([l1,l2]:aU).map V.str))=true then _ else _
   rw[jZ,QF];by_cases a:z∈([l1,l2]:aU)
   ·rw[Qw a];exact Eu (hA a _ (l.trans (ae.upd DT _)))
   ·rw[Qx a];exact ue (hB a _ (l.trans (ae.upd DT _)))
  have ab:∀(b:Addr)(z0:Str)(d:aU),H b=ff (.str z0::d.map V.str)->(d.length=1\/d.length=2)->(∀y∈d,y.length<=8)->(∀(pp:Addr)(o:aU)(u:Hp),u pp=ff (.str z0::o.map V.str)->o.length=d.length->(∀i(R:i<o.length)(I:i<d.length),o[i]=d[i]++"q"\/o[i]=d[i]++"r")->dc K H0 u p (t+20)->Sm p p H u->Q (.ref pp) u)->
    ∀g,ae H g->CY (jy (IT K) (Er (λx lo C H Q=>Cf x lo C H Q\/(Ca K x lo C H Q\/B_ K x lo C H Q)) (tV 1) Eo (Ep (tC (V.int 1)))) (yt (Li K) (ik (Bk ["_law_name"] [0] (iD K (Er (λx lo C H Q=>Cf x lo C H Q\/(Ca K x lo C H Q\/B_ K x lo C H Q)) (tV 1) (Ep (tC (V.int 1))) Eo)) (jj 0) Ce (jy Ic (tV 0) (jy (AQ K) (tC (V.str "qr")) (En (A1 K) [] E0 (ik (tV 1) (ik (tC (V.int 2)) qc)))))) qc))) {nx:=λ_ u=>Q .ao u,rt:=Q} [aa p,aa b] g:=by
   intro b z0 d e hl ag kk g l;have e1:=l _ _ e;have el:(V.str z0::d.map V.str).length=d.length+1:=by simp
   refine⟨1,rfl,Or.inr (Or.inr ⟨b,_,rfl,ak.of e1,?_,λN hN=>?_⟩)⟩
   ·rw[el];rcases hl with h|h<;>(rw[h];decide)
   have ec:qd (V.str z0::d.map V.str) none (some 1)=[.str z0]:=(vG _ 1).trans rfl;rw[ec];have s2:=l.trans (ae.upd hN (.tup [.str z0]));have f2:upd g N (.tup [.str z0]) N=ff [.str z0]:=aA
   (try dsimp only)
   generalize upd g N (.tup [.str z0])=H2 at s2 f2⊢;refine⟨1,rfl,Or.inr (Or.inr ⟨b,_,rfl,ak.of (s2 _ _ e),?_,λM hM=>?_⟩)⟩
   ·rw[el];rcases hl with h|h<;>(rw[h];decide)
   have ah:qd (V.str z0::d.map V.str) (some 1) none=d.map V.str:=(tT _ 1).trans rfl;rw[ah];have s3:=s2.trans (ae.upd hM (.tup (d.map V.str)));have f3:upd H2 M (.tup (d.map V.str)) M=ff (d.map V.str):=aA;have Ua:=(ae.upd hM (.tup (d.map V.str))) _ _ f2;generalize upd H2 M (.tup (d.map V.str))=H3 at s3 f3 Ua⊢;refine Or.inr ⟨⟨_,ak.of f3⟩,λD L=>?_⟩;have ux:=hn.same s3;have uu:D≠p:=ux.ne L;have fD:=ux.free L;have Av:H D=none:=s3.free L;refine fW (dU (d.map V.str)) (λi τ u=>X2 fun(v0:cp)(o:aU)=>τ=[v0,aa p]/\u D=be (o.map V.str)/\o.length=i/\(∀j(R:j<o.length)(I:j<d.length),o[j]=d[j]++"q"\/o[j]=d[j]++"r")/\dc K H0 u p (t+i)/\Sm p p H u/\Tk H3 u)
    ⟨none,[],rfl,aA,rfl,λj h=>absurd h (by simp),ux.same (ae.upd L _),(s3.trans (ae.upd L _)).sm,(ae.upd L _).ts⟩ (by rintro i τ u _ ⟨_,_,_,_,_,_,_,_,tk⟩;exact ak.of (tk _ _ f3)) ?_ ?_
   ·rintro i τ H4 C ⟨v0,o,rfl,q1,q2,q3,q4,q5,q6⟩;rw[Ql]at C;rw[iB d i C];have ey:d.getD i ""=d[i]:=by rw[Qb,Qa C];rfl
    rw[ey];have hy:=ag _ (Qj C);refine⟨H0,p,2,t+i,rfl,q4,⟨by decide,by decide⟩,by lia,λr H5 r0 r1 rj ju=>?_⟩;obtain⟨j,rfl⟩:∃j:Nat,r=(j:Int):=⟨r.toNat,by lia⟩
    obtain⟨c,sr,qy⟩:=T_ j (by lia);refine⟨jd,c,sr,⟨by show d[i].length+1<=sizeLine;lia,?_⟩⟩;have g1:=ju _ _ q1 uu uu;have al:Tk H4 (upd H5 D (.lst (o.map V.str++[.str (d[i]++⟨#[c]⟩)]))):=(q4.ts ju).trans (Tk.refl.set g1 ('n'));refine⟨_,g1,by simp;lia,_,o++[d[i]++⟨#[c]⟩],rfl,by rw[aA,Qm];rfl,by simp[q2],λj' R I=>?_,rj.put uu fD,(q5.trans ju).upd Av,q6.trans al⟩;by_cases hj:j'<o.length
    ·rw[Qe hj];exact q3 j' hj I
    ·have ej:j'=o.length:=by simp at R;lia
     subst ej;rw[Qf (Qz _)];simp only[du,uJ];subst q2;rcases qy with h|h
     ·rw[h];exact .inl rfl
     ·rw[h];exact .inr rfl
   ·rintro τ H4 ⟨v0,o,rfl,q1,q2,q3,q4,q5,q6⟩;rw[Ql]at q2 q4;refine⟨D,_,rfl,.inl ⟨ai.of q1,λN2 Nd=>?_⟩⟩;have s5:=ae.upd Nd (.tup (o.map V.str));have f5:upd H4 N2 (.tup (o.map V.str)) N2=ff (o.map V.str):=aA
    (try dsimp only)
    generalize upd H4 N2 (.tup (o.map V.str))=H5 at s5 f5⊢;refine LL (s5 _ _ (q6 _ _ Ua)) f5 (by simp;lia) λpp H6 s6 e6=>?_;exact kk pp o H6 e6 q2 q3 (((q4.same s5).same s6).mono (by lia)) ((q5.trans s5.sm).trans s6.sm)
  cases hv with
  | @one b z e=>
   refine m b z [] _ _ _ "all" "none" e (λa g l=>?_) (λa g l=>?_) H (ae.refl _)
   ·exact k (.ref b) (.one z) g (.one (l _ _ e)) hok (λy h=>nomatch h) (λ_ h=>nomatch h) ((hn.same l).mono (by lia)) l.sm
   ·exact absurd (by rcases hok with rfl|rfl<;>simp) a
  | @as b y e=>
   refine m b "as" [.str y] _ _ _ "all" "none" e (λa g l=>absurd a (by decide+kernel)) (λa g l=>?_) H (ae.refl _);refine m b "as" [.str y] _ _ _ "way" "as" e (λa g l=>?_) (λa g l=>absurd (by simp) a) g l;refine ab b "as" [y] e (.inl rfl) (λz a=>by rw[zO.mp a];exact Jx _ hok.2) (λpp o u e' hl a FO Nf=>?_) g l
   match o,hl with
   | [y'],_=>
    have h0:=a 0 (by simp) (by simp);have hm:y'∈da ns:=eO.mpr ⟨y,hok.2,h0⟩;exact k (.ref pp) (.as y') u (.as e') ⟨DF _ hm,hm⟩ (λy2 I=>by cases I;exact⟨y,rfl,h0⟩) (λ_ h=>nomatch h) FO Nf
  | @way b x y e=>
   refine m b "way" [.str x,.str y] _ _ _ "all" "none" e (λa g l=>absurd a (by decide+kernel)) (λa g l=>?_) H (ae.refl _);refine m b "way" [.str x,.str y] _ _ _ "way" "as" e (λa g l=>?_) (λa g l=>absurd (by simp) a) g l;refine ab b "way" [x,y] e (.inr rfl) (λz a=>?_) (λpp o u e' hl a FO Nf=>?_) g l
   ·simp only[Qp,QB,or_false]at a;rcases a with rfl|rfl
    ·exact Jx _ hok.2.2.1
    ·exact Jx _ hok.2.2.2
   match o,hl with
   | [x',y'],_=>
    have h0:=a 0 (by simp) (by simp);have R:=a 1 (by simp) (by simp);have Fe:x'∈da ns:=eO.mpr ⟨x,hok.2.2.1,h0⟩;have GX:y'∈da ns:=eO.mpr ⟨y,hok.2.2.2,R⟩;exact k (.ref pp) (.way x' y') u (.way e') ⟨DF _ Fe,DF _ GX,Fe,GX⟩ (λy2 I=>nomatch I) (λ_ h=>nomatch h) FO Nf
  | @prs b c s0 d ps e ec hp=>
   have Ub:s0∉(["all","none"]:aU)/\s0∉(["way","as"]:aU):=by rcases hok.1 with rfl|rfl<;>decide+kernel
   refine m b s0 [.ref c] _ _ _ "all" "none" e (λa g l=>absurd a Ub.1) (λa g l=>?_) H (ae.refl _);refine m b s0 [.ref c] _ _ _ "way" "as" e (λa g l=>absurd a Ub.2) (λa g l=>?_) g l;have gj:=hp.len;obtain⟨hs,Fb,aeb,Gp⟩:=hok;refine⟨_,.str s0,.inr (ak.of (l _ _ e)),aK _ _,_,.ref c,.inr (ak.of (l _ _ e)),rfl,Or.inr ⟨⟨d,ak.of (l _ _ ec)⟩,λD L=>?_⟩⟩;have ux:=hn.same l;have uu:D≠p:=ux.ne L;have fD:=ux.free L;have Av:H D=none:=l.free L;refine fW (dU d) (λi τ u=>X4 fun(v0 v1:cp)(O:bY)(G:List (Str×Str))=>τ=[v0,v1,aa p]/\u D=be O/\Gn u O G/\G.length=i/\(∀j(R:j<G.length)(I:j<ps.length),G[j].1=ps[j].1/\(G[j].2=ps[j].2++"q"\/G[j].2=ps[j].2++"r"))/\dc K H0 u p (t+i)/\Sm p p H u/\Tk g u)
    ⟨none,none,[],[],rfl,aA,⟨rfl,λi h=>absurd h (by simp)⟩,rfl,λj h=>absurd h (by simp),ux.same (ae.upd L _),(l.trans (ae.upd L _)).sm,(ae.upd L _).ts⟩ (by rintro i τ u _ ⟨_,_,_,_,_,_,_,_,_,_,_,tk⟩;exact ak.of (tk _ _ (l _ _ ec))) ?_ ?_
   ·rintro i τ H4 C ⟨v0,v1,O,G,rfl,q1,q2,q3,q4,q5,q6,q7⟩;have xo:i<ps.length:=by lia
    obtain⟨d0,r1,r2⟩:=hp.at_ i C xo
    have eg:d.getD i .ao=.ref d0:=cX C r1;rw[eg];have hy:=Jx _ (Fb _ (Qj xo)).2.2;refine fI (q7 _ _ (l _ _ r2)) ?_;refine⟨H0,p,2,t+i,rfl,q5,⟨by decide,by decide⟩,by lia,λr H5 r0 Iu rj ju=>?_⟩;obtain⟨j,rfl⟩:∃j:Nat,r=(j:Int):=⟨r.toNat,by lia⟩
    obtain⟨c',sr,qy⟩:=T_ j (by lia);refine⟨jd,c',sr,⟨by show ps[i].2.length+1<=sizeLine;lia,jd,λT8 A3=>?_⟩⟩;have g1:=ju _ _ q1 uu uu;have s8:=ae.upd A3 (.tup [.str ps[i].1,.str (ps[i].2++⟨#[c']⟩)]);have f8:upd H5 T8 (.tup [.str ps[i].1,.str (ps[i].2++⟨#[c']⟩)]) T8=ff [.str ps[i].1,.str (ps[i].2++⟨#[c']⟩)]:=aA;have g8:=s8 _ _ g1;have Uc:=rj.same s8;have Ud:=(q6.trans ju).trans s8.sm (p:=p) (w:=p);have Fk:Tk H4 (upd H5 T8 (.tup [.str ps[i].1,.str (ps[i].2++⟨#[c']⟩)])):=(q5.ts ju).trans s8.ts
    (try dsimp only)
    generalize upd H5 T8 (.tup [.str ps[i].1,.str (ps[i].2++⟨#[c']⟩)])=H6 at s8 f8 g8 Uc Ud Fk⊢;have G8:Tk H6 (upd H6 D (.lst (O++[.ref T8]))):=Tk.refl.set g8 (λ_ z=>nomatch z);have ul:=q2.len;refine⟨O,g8,by lia,_,_,O++[.ref T8],G++[(ps[i].1,ps[i].2++⟨#[c']⟩)],rfl,aA,?_,by simp[q3],λj' R I=>?_,Uc.put uu fD,Ud.upd Av,(q7.trans Fk).trans G8⟩
    ·have Gq:=q2.tk (Fk.trans G8);refine⟨by simp[ul],λi' R I=>?_⟩;by_cases gp:i'<O.length
     ·rw[Qe gp,Qe (by lia)];exact Gq.at_ i' gp (by lia)
     ·have ei:i'=O.length:=by simp at R;lia
      subst ei;rw[Qf (Qz _),Qf (by lia)];simp only[du,ul,uJ];exact⟨T8,rfl,G8 _ _ f8⟩
    ·by_cases hj:j'<G.length
     ·rw[Qe hj];exact q4 j' hj I
     ·have ej:j'=G.length:=by simp at R;lia
      subst ej;rw[Qf (Qz _)];simp only[du,uJ];subst q3;rcases qy with h|h
      ·rw[h];exact⟨rfl,.inl rfl⟩
      ·rw[h];exact⟨rfl,.inr rfl⟩
   ·rintro τ H4 ⟨v0,v1,O,G,rfl,q1,q2,q3,q4,q5,q6,q7⟩;rw[gj]at q3 q5;refine⟨D,_,rfl,.inl ⟨ai.of q1,λN2 Nd=>⟨jd,λN3 am=>?_⟩⟩⟩;have s5:=ae.upd Nd (.tup O);have f5:upd H4 N2 (.tup O) N2=ff O:=aA;have s6:=ae.upd am (.tup [.str s0,.ref N2]);have Ng:=s5.trans s6;have Ue:G.map (·.1)=ps.map (·.1):=by
     refine ga (by simp;lia) λi R I=>?_;simp only[Qr];exact(q4 i (by simpa using R) (by simpa using I)).1
    refine k (.ref N3) (.prs s0 G) _ (.prs aA (s6 _ _ f5) (q2.tk Ng.ts)) ⟨hs,λq hq=>?_,by rw[Ue];exact aeb,by lia⟩ (λy h=>nomatch h) (λz a=>?_) ((q5.same Ng).mono (by lia)) (q6.trans Ng.sm)
    ·obtain⟨i,C,rfl⟩:=Qi hq;obtain⟨g1,g2⟩:=q4 i C (by lia);have Ug:=Fb _ (Qj (show i<ps.length by lia));have hm:G[i].2∈da ns:=eO.mpr ⟨_,Ug.2.2,g2⟩;exact⟨by rw[g1];exact Ug.1,DF _ hm,hm⟩
    ·have:z∈ps.map (·.1):=by rw[<- Ue];exact a
     exact Jw z this
inductive Nh (K:Q0)(vs:bY)(H:Hp)(Q:VK)(bz:XK):Prop
 |mk (H0:Hp) (p a:Addr) (t:Nat) (xs:bY) (F:List aj) (ns:aU):vs=[.ref p,.ref a]->dc K H0 H p t->t+600<900000->RT H a xs F ns WW->(∀n∈ns,n∈N8)->ns.length<=7->(∀(b:Addr)(J:bY)(Dk:List aj)(U:Hp),RT U b J Dk (da ns) WW->dc K H0 U p (t+600)->Sm p p H U->Q (.ref b) U)->Nh K vs H Q bz
theorem Hc{l m:aU}(h:l.Perm m):(da l).Perm (da m):=h.flatMap_right _
theorem Fh(l:aU)(n:Str):da (l++[n])=da l++[n++"q",n++"r"]:=by simp[da]
theorem wD {a:cw} (h:rh H ns ws a) {n:Str} {v:V} (b:n∈ns) (c:vm H ns ws v (Dj ns n)):rh H ns ws (a++[(n,v)]):=
 (h.add b c).perm λr hr=>by
  rcases zH.mp hr with hr | hr
  ·exact Qh _ hr
  ·rw [zO.mp hr];exact yS
set_option maxHeartbeats 2000000 in
theorem tZ(T:Txt K mg w):bq P w K mg base 4 "_law_twin" ["_law_pen","_law_told"] (Nh K):=by
 refine T.vK.gw fO ?_ ?_
 ·rintro _ _ _ _ ⟨N,p,a,t,xs,d,l,rfl,_⟩;rfl
 ·rintro f bf A ab s H vs Q E hr ⟨N,p,a,t,xs,d,l,rfl,G,ht,o,h8,h5,k⟩;obtain⟨hu,gk,hsz⟩:=d5 hr;have Dl:=o.rl;have Br:=o.rv.len;have af:∀z∈da l,ce z=true/\Wd z:=λz hz=>by
   obtain⟨n,G,h⟩:=eO.mp hz;exact TZ z (eO.mpr ⟨n,h8 n G,h⟩)
  refine⟨_,(aE (aJ 2 fO.nd (bV aC))
   (aE (cO PassesOwn.never rfl (jF K (zv 1)) (cW K (n:=2) rfl (aM (bL 3 fO.nd) (aM (bL 4 fO.nd) bQ))) (aE (bZ (jG K QJ QK QL bF (zv 2) (bC (bE (fV (bW bS (zv 3) bA) (aV (aT (lH T) hr (aD (zv 0) (aD (zv 4) aC))) aC))) aC)))
   (aF (bZ (jG K QJ QK QL bF (zv 2) (bC (bE (fV (bW bS (zv 3) bA) (aV (aT (lH T) hr (aD (zv 0) (aD (zv 4) aC))) aC))) aC))))))
   (aF (aZ (fQ (dC K) T.dI QH (aV (aT (iR T) hr (aD (zv 0) (aD (zv 2) aC))) aC)))))),?_⟩
  refine aI ⟨o_,λR hR=>?_⟩;have BK:R≠p:=G.ne hR;have fR:=G.free hR;refine aL (λm q=>X4 fun(v3 v4:cp)(j:bY)(g:cw)=>m=[aa p,aa a,aa R,v3,v4]/\q R=be j/\ky q j (cf g)/\g.map (·.1)=da (d.map (·.1))/\rh q (da l) WW g/\dc K N q p (t+300)/\Sm p p H q) ?_ ?_
  ·intro nx ck;refine .inr ⟨⟨xs,ak.of (ae.upd hR _ _ _ o.at_)⟩,?_⟩;refine cB (dU xs) (λi m q=>X4 fun(v3 v4:cp)(j:bY)(g:cw)=>m=[aa p,aa a,aa R,v3,v4]/\q R=be j/\ky q j (cf g)/\g.map (·.1)=da ((d.map (·.1)).take i)/\rh q (da l) WW g/\dc K N q p (t+40*i)/\Sm p p H q)
    ⟨none,none,[],[],rfl,aA,kL,rfl,⟨(λ_ h=>nomatch h),(λ_ h=>nomatch h)⟩,G.same (ae.upd hR _),(ae.upd hR _).sm⟩ (by rintro i m q _ ⟨_,_,_,_,_,_,_,_,_,_,s⟩;exact ak.of (G.ts s _ _ o.at_)) ?_ ?_
   ·rintro i m H1 hi ⟨v3,v4,j,g,rfl,q1,q2,I,q4,q5,q6⟩;have rq:i<d.length:=by lia
    obtain⟨rb,hv,r1,r2,r3⟩:=o.rv.at_ i hi rq
    have eg:xs.getD i .ao=.ref rb:=cX hi r1;rw[eg];have oi:d[i]∈d:=Qj rq;have Ni:d[i].1∈l:=o.nm.mem_iff.mp (Z2.mpr ⟨_,oi,rfl⟩);have hok:=(o.ok _ oi).2;have Jw:=o.ww _ oi;have Uh:=o.ah _ oi;have Jy:(d.map (·.1)).take (i+1)=(d.map (·.1)).take i++[d[i].1]:=by
     rw[Qs,Qq,Qa rq];rfl
    have ag:g.length=2*i:=by
     have Y:=congrArg List.length I;rw[qL,Ql,u9,Ql]at Y
     lia
    generalize d[i]=al at r2 r3 Ni hok Jw Uh Jy;obtain⟨nm,hd⟩:=al;have nl:nm.length<=8:=gQ (tY _ (h8 _ Ni)).1;have am:=G.ts q6;refine fI (am _ _ r2) ?_;have RC:j.length=g.length:=by have:=q2.1;simpa using this
    /- Wy holds of a new head -/
    have an:∀(c:Str)(M:Hd),(c="q"\/c="r")->(∀y',M.nx=some y'->∃y,hd.nx=some y/\(y'=y++"q"\/y'=y++"r"))->Dj (da l) (nm++c) M.nx:=λc M hc ck y' e'=>by
     obtain⟨y,e1,e2⟩:=ck y' e';obtain⟨i1,j1,ye,g1,g2⟩:=Uh y e1;have ap:i1<l.length:=(yE.mp g1).1;have Iz:j1<l.length:=(yE.mp g2).1;have ei:l[i1]=y:=(yE.mp g1).2;have ej:l[j1]=nm:=(yE.mp g2).2;obtain⟨a1,a2⟩:=T6 l i1 ap;obtain⟨b1,b2⟩:=T6 l j1 Iz;rw[ei]at a1 a2;rw[ej]at b1 b2;rcases e2 with rfl|rfl<;>rcases hc with rfl|rfl
     ·exact⟨2*i1,2*j1,by lia,a1,b1⟩
     ·exact⟨2*i1,2*j1+1,by lia,a1,b2⟩
     ·exact⟨2*i1+1,2*j1,by lia,a2,b1⟩
     ·exact⟨2*i1+1,2*j1+1,by lia,a2,b2⟩
    have L:∀(c:Str)(hc:c="q"\/c="r")(D:Ends)(x:Hp)(j:bY)(g:cw)(tt:Nat),x R=be j->ky x j (cf g)->rh x (da l) WW g->dc K N x p tt->Sm p p H x->j.length<=30->tt+20<900000->
      (∀(qj:bY)(C:V)(u:Hp),u R=be qj->ky u qj (cf (g++[(nm++c,C)]))->rh u (da l) WW (g++[(nm++c,C)])->qj.length=j.length+1->dc K N u p (tt+20)->Sm p p H u->D.nx [aa p,aa a,aa R,cg nm,some hv] u)->
      HL (H_ K "list" Pd (tV 2) (ik (Em (ik (jy Ic (tV 3) (tC (V.str c))) (ik (En (Jv K) [] E0 (ik (tV 0) (ik (tV 4) qc))) qc))) qc)) D [aa p,aa a,aa R,cg nm,some hv] x:=by
     intro c hc D x j g tt z1 z2 z3 z4 z5 z6 z7 kk;have uf:c.length=1:=by rcases hc with rfl|rfl<;>rfl
     refine⟨.inl ⟨rfl,_,ai.of z1⟩,⟨by lia,?_⟩⟩;refine⟨N,p,hv,hd,tt,l,rfl,z4,z7,r3.tk (G.ts z5),hok,h8,Jw,λC M u FU Lz DM ar ux t_=>⟨jd,λcc HH=>?_⟩⟩;have g3:=t_ _ _ z1 BK BK;have s4:=ae.upd HH (.tup [.str (nm++c),C]);have f4:upd u cc (.tup [.str (nm++c),C]) cc=ff [.str (nm++c),C]:=aA;have g4:=s4 _ _ g3;have tq:=ux.same s4;have CC:=(z5.trans t_).trans s4.sm (p:=p) (w:=p);have G1:Tk x (upd u cc (.tup [.str (nm++c),C])):=(z4.ts t_).trans s4.ts;have Ui:=FU.tk s4.ts
     (try dsimp only)
     generalize upd u cc (.tup [.str (nm++c),C])=H4 at s4 f4 g4 tq CC G1 Ui⊢;have ze:Tk H4 (upd H4 R (.lst (j++[.ref cc]))):=Tk.refl.set g4 ('n');refine⟨R,j,.ref cc,rfl,rfl,g4,by lia,kk (j++[.ref cc]) C _ aA (jA (z2.ts (G1.trans ze)) (ze _ _ f4)) (wD (z3.tk (G1.trans ze)) (eO.mpr ⟨nm,Ni,by rcases hc with rfl|rfl<;>simp⟩) ⟨M,Ui.tk ze,Lz,an c M hc DM,ar⟩) (by simp) (tq.put BK fR) (CC.upd hR)⟩
    refine L "q" (.inl rfl) _ H1 j g _ q1 q2 q4 q5 q6 (by lia) (by lia) (λGy v1 x a1 a2 a3 a4 a5 a6=>?_);refine L "r" (.inr rfl) _ x Gy _ _ a1 a2 a3 a5 a6 (by lia) (by lia) (λg_ v2 u b1 b2 b3 b4 b5 b6=>?_);refine⟨_,_,g_,g++[(nm++"q",v1)]++[(nm++"r",v2)],rfl,b1,b2,?_,b3,b5.mono (by lia),b6⟩;rw[Jy,Fh,Qm,Qm,I];simp
   ·rintro m H1 ⟨v3,v4,j,g,rfl,q1,q2,I,q4,q5,q6⟩;have e:(d.map (·.1)).take xs.length=d.map (·.1):=by rw[Br,<- Ql (f:=λr:aj=>r.1),Qo]
    rw[e]at I;exact ck _ _ ⟨v3,v4,j,g,rfl,q1,q2,I,q4,q5.mono (by lia),q6⟩
  ·rintro m H1 ⟨v3,v4,j,g,rfl,q1,q2,I,q4,q5,q6⟩;have QV:=qL l;have ag:g.length=2*l.length:=by
    have Y:=congrArg List.length I;rw[qL,Ql,Ql]at Y
    lia
   have RC:j.length=g.length:=by have:=q2.1;simpa using this
   have pos:=o.pos;refine⟨N,p,R,j,_,rfl,q5,by lia,.inl (ai.of q1),by lia,λL2 J H5 MQ MR MS rj ju=>⟨L2,J,rfl,.inl ⟨ai.of MR,λb hb=>?_⟩⟩⟩;have s6:=ae.upd hb (.tup J);have ze:=(q5.ts ju).trans s6.ts;obtain⟨rs',pr,pa⟩:=nJ (q2.ts ze) MS;obtain⟨Dk,uy⟩:=RT.of aA pa ((pr.map _).trans (by rw[I];exact Hc o.nm)) (Cd o.nd h8) af (by lia) (by lia) ((q4.tk ze).perm λr hr=>pr.mem_iff.mp hr);exact k b _ Dk _ uy ((rj.same s6).mono (by lia)) ((q6.trans ju).trans s6.sm)
theorem xk{K:Q0}{k:Nat}{T:Addr}{a b c:V}{Q:St->Hp->Prop}(h:ak K H T [a,b,c])(q:Q (((Z.set i (some a)).set j (some b)).set k (some c)) H):B5 K 3 (zq (jj i) (zq (jj j) (zq (jj k) Eh))) (.ref T) Z H Q:=
 ⟨T,_,rfl,h,rfl,_,_,rfl,_,_,rfl,_,_,rfl,rfl,q⟩
inductive Nj (vs:bY)(H:Hp)(Q:VK)(bz:XK):Prop
 |mk (a b:Addr) (xs J:bY) (r1 r2:List aj) (m1 m2 ws G9:aU) (x y:Str):vs=[.ref a,.str x,.ref b,.str y]->RT H a xs r1 m1 ws->RT H b J r2 m2 G9->(∀z∈ws,Wd z)->(∀z∈G9,Wd z)->x∈m1->y∈m2->(∀U,ae H U->(∀w m,ii (jb r1 r2) (b7 r1 x,b7 r2 y) w=some m->¬EY r1 r2 m)->Q .ao U)->(∀(R:Addr)(O:bY)(w:cm)(U:Hp),ae H U->U R=ff O->SV U O (ja (jb r1 r2) (b7 r1 x,b7 r2 y) w)->RK (jb r1 r2) (EY r1 r2) (b7 r1 x,b7 r2 y) w->Q (.ref R) U)->Nj vs H Q bz
set_option maxHeartbeats 4000000 in
theorem nV(T:Txt K mg w):bq P w K mg base 5 "_law_parting" ["_law_told","_law_name","_law_other","_law_twin_name"] Nj:=by
 refine T.oY.gw aS ?_ ?_
 ·rintro _ _ _ _ ⟨a,b,xs,J,k,r2,m1,m2,ws,G9,x,y,rfl,_⟩;rfl
 ·rintro f bf A ab s H vs Q E hr ⟨a,b,xs,J,k,r2,m1,m2,ws,G9,x,y,rfl,rt,uy,hw,Jz,hx,hy,kN,kB⟩;have hu:=dD hr;have gk:=Qy (dD hr);have DU:=kC hr;have Fo:=tR hr;have bm:sizeLine=16777216:=QM;have BN:=rt.xf hw;have xf:=uy.xf Jz;have Dg:=zt (r2:=r2) rt.abH;obtain⟨rs,g,nm,rl,wo⟩:=rt.good hw;have hm:∀z,z∈rs.map (·.1)↔z∈m1:=λz=>by rw[nm];exact rt.nm.mem_iff
  obtain⟨DW,g2,nm2,Uj,aen⟩:=uy.good Jz;have GR:∀z,z∈DW.map (·.1)↔z∈m2:=λz=>by rw[nm2];exact uy.nm.mem_iff
  refine⟨_,(aE (aJ 4 aS.nd (bV (bC (bE (bC (bE aC) (aV (aT (e8 T) hr (aD (zv 0) (aD (zv 1) aC))) (aV (aT (e8 T) hr (aD (zv 2) (aD (zv 3) aC))) aC)))) aC)))
   (aE (aJ 5 aS.nd xM)
   (aE (fK PassesOwn.never (aP (oP gk) (zv 4) (bV aC)) (aE (aJ 6 aS.nd (bV aC))
   (aE (cO PassesOwn.never rfl (jF K (zv 4)) (cW K (n:=3) rfl (aM (bL 7 aS.nd) (aM (bL 8 aS.nd) (aM (bL 9 aS.nd) bQ)))) (aE (aJ 10 aS.nd (aT (pC T) hr (aD (zv 0) (aD (zv 8) aC))))
   (aE (aJ 11 aS.nd (aT (pC T) hr (aD (zv 2) (aD (zv 9) aC))))
   (aE (dE (aP (oP gk) (aQ K (aT (gC T) hr (aD (zv 0) (aD (zv 8) aC))) aH) (aQ K (aT (gC T) hr (aD (zv 2) (aD (zv 9) aC))) aH)) (aF (aZ (zv 7))) bM)
   (aE (dE (aP (qR K Fo) (gW ["_law_one"] [] ["_law_one"] (cL aS) (jF K (zv 10)) (λ_ _ _ _ _ _=>(bD 0)) (λ_ _ _ _ _ _=>(aQ K (zv 0) aH))) (gW ["_law_one"] [] ["_law_one"] (cL aS) (jF K (zv 11)) (λ_ _ _ _ _ _=>(bD 0)) (λ_ _ _ _ _ _=>(aQ K (zv 0) aH)))) (aF (aZ (zv 7))) bM)
   (aF (dE (aP (kI hu) (bE (aD (zv 8) (aD (zv 9) aC))) (zv 5) rfl) (aE (lF hu (zv 5) (bE (aD (zv 8) (aD (zv 9) aC))) oS rfl)
   (aF (cO PassesOwn.never rfl (xX K (by rfl) T.MA (aD (zv 10) (aD (zv 11) aC))) (cW K (n:=2) rfl (aM (bL 12 aS.nd) (aM (bL 13 aS.nd) bQ))) (aF (bZ (jG K QJ QK QL bF (zv 6) (bC (bE (fV (bW (rO K) (zv 7) (iG (yY K) (zv 12) iH (iI aH))) (aN (aQ K (zv 12) aH) (aN (aQ K (zv 13) aH) aC)))) aC))))))) bM)))))))
   (aF (aJ 4 aS.nd (bJ (jN DU) T.tO PyProof.Rows.boot_sorted (aD (zv 6) aC)))))))
   (aF (aZ xN))))),?_⟩
  have Uk:Dz k r2 m1 m2 (b7 k x,b7 r2 y):=⟨BN.stay hx,xf.stay hy⟩
  generalize JA:((b7 k x,b7 r2 y):Pr)=o at kN kB Uk;refine aI ⟨o_,λT0 JB=>?_⟩;have u0:=ae.upd JB (.tup []);have x0:upd H T0 (.tup []) T0=ff []:=aA
  (try dsimp only)
  generalize upd H T0 (.tup [])=J0 at u0 x0⊢;refine⟨a,xs,rs,_,_,x,rfl,g.ts u0.ts,(hm x).mpr hx,λJ1 u1=>?_⟩;refine⟨b,J,DW,_,_,y,rfl,g2.ts (u0.trans u1).ts,(GR y).mpr hy,λJ2 u2=>⟨Jc,λT1 DT=>⟨BE,λLa Fp=>?_⟩⟩⟩;have u4:=ae.upd DT (.tup [.ref T0,.str (ip (jf k) rs.length x),.str (ip (jf r2) DW.length y)]);have x4:upd J2 T1 (.tup [.ref T0,.str (ip (jf k) rs.length x),.str (ip (jf r2) DW.length y)]) T1=ff [.ref T0,.str o.1,.str o.2]:=by rw[<- JA,rl,Uj];exact aA
  generalize upd J2 T1 (.tup [.ref T0,.str (ip (jf k) rs.length x),.str (ip (jf r2) DW.length y)])=J4 at u4 x4 Fp⊢;have u5:=ae.upd Fp (.lst [.ref T1]);have x5:upd J4 La (.lst [.ref T1]) La=be [.ref T1]:=aA;generalize upd J4 La (.lst [.ref T1])=J5 at u5 x5⊢;have BO:ae H J5:=(((u0.trans u1).trans u2).trans u4).trans u5;have Ul:ni k r2 o J5 [.ref T1] [(o,[])]:=ni.nil.snoc (p:=(o,[])) (u5 _ _ x4) ((((u1.trans u2).trans u4).trans u5) _ _ x0) SV.nil;refine aI λF hF=>?_;have u6:=ae.upd hF (.dT []);have x6:Aq (upd J5 F (.dT [])) F []:=⟨[],aA,rfl⟩
  have Nk:H F=none:=BO.free hF
  (try dsimp only)
  generalize upd J5 F (.dT [])=J6 at u6 x6⊢;have af:=BO.trans u6;have ag:BP k r2 m1 m2 o 0 [(o,[])] [] [(o,[])] [] 0:=BG.start Uk;have ah:=Ul.same u6;have al:=u6 _ _ x5;clear u0 u1 u2 u4 u5 u6 x0 x4 x5 BO Ul JB DT Fp hF;refine aL (λl r=>ae H r/\∀w m,ii (jb k r2) o w=some m->¬EY k r2 m) ?_ ?_
  ·intro nx ck;refine⟨λmm l r=>SY fun(v6 v7 v8 v9 C G V nu:cp)(Lr:Addr)(O:bY)(D st:List (Pr×cm))(ms:List Pr)(i len:Nat)=>l=[aa a,cg x,aa b,cg y,aa Lr,aa F,v6,v7,v8,v9,C,G,V,nu]/\Aq r F ms/\r Lr=be O/\ni k r2 o r O D/\BP k r2 m1 m2 o i st ms D [] len/\len+mm<=900/\ae H r/\(mm=2*(200-ms.length)+if D=[]then 0 else 1),
    ⟨_,none,none,none,none,none,none,none,none,La,[.ref T1],[(o,[])],_,[],0,0,rfl,x6,al,ah,ag,by simp,af,rfl⟩,?_⟩
   rintro mm l H5 ⟨v6,v7,v8,v9,C,G,V,nu,Lr,O,D,st,ms,i,len,rfl,q1,q3,q4,q5,q9,Ax,rfl⟩;have Ay:=q4.len;refine⟨o_,λl0 ig=>?_⟩;have w1:=ae.upd ig (.lst []);have w2:upd H5 l0 (.lst []) l0=be []:=aA;have Nl:Lr≠l0:=λz=>by rw[<- z,q3]at ig;cases ig
   generalize upd H5 l0 (.lst [])=H6 at w1 w2⊢;refine⟨Nl,O,w1 _ _ q3,w2,_,rfl,gy (λc=>?_) (λc=>?_)⟩
   ·have hP:D≠[]:=λz=>by
     rw[z]at Ay;rw[QS Ay]at c;simp at c
    rw[if_neg hP]at q9⊢;have q1:=q1.same w1;have q3:=w1 _ _ q3;have q4:=q4.same w1;have Ax:=Ax.trans w1;have bn:=oA q5 BN xf;refine⟨λl r=>SX fun(v6 v7 v8 v9 C G V nu:cp)(Lr:Addr)(O:bY)(D2 jx:List (Pr×cm))(I:List Pr)(i2:Nat)=>l=[aa a,cg x,aa b,cg y,aa Lr,aa F,v6,v7,v8,v9,C,G,V,nu]/\Aq r F I/\r Lr=be O/\ni k r2 o r O D2/\BP k r2 m1 m2 o i2 jx I D2 [] (len+1)/\D2.length<=10*(I.length-ms.length)/\ms.length<=I.length/\ae H r,?_,?_⟩
    ·rintro l r ⟨v6,v7,v8,v9,C,G,V,nu,Lr,O,D2,jx,I,i2,rfl,z1,z2,z3,z4,z5,z6,z7⟩;have Um:=oA z4 BN xf;have BL:(2*(200-I.length)+if D2=[]then 0 else 1)<2*(200-ms.length)+1:=by
      by_cases h0:I.length=ms.length
      ·have:D2=[]:=QS (by lia);rw[if_pos this];lia
      ·split<;>lia
     exact⟨_,BL,v6,v7,v8,v9,C,G,V,nu,Lr,O,D2,jx,I,i2,len+1,rfl,z1,z2,z3,z4,by lia,z7,rfl⟩
    refine aI ⟨o_,λR yk=>?_⟩;have w3:=ae.upd yk (.lst []);have w4:upd H6 R (.lst []) R=be []:=aA;have Nm:H R=none:=Ax.free yk;obtain⟨kvs,e1,e2⟩:=q1;have G_:R≠F:=λz=>by rw[z,e1]at yk;cases yk
    have Nn:R≠Lr:=λz=>by rw[z,q3]at yk;cases yk
    have Np:F≠Lr:=λz=>by rw[z,q3]at e1;cases e1
    have q1:Aq H6 F ms:=⟨kvs,e1,e2⟩
    (try dsimp only)
    generalize upd H6 R (.lst [])=H7 at w3 w4⊢;refine aL (λl r=>Jf fun(v7 v8 v9 C G V nu:cp)(g_:bY)(N jx:List (Pr×cm))(I:List Pr)(i2:Nat)=>l=[aa a,cg x,aa b,cg y,aa Lr,aa F,aa R,v7,v8,v9,C,G,V,nu]/\Aq r F I/\r R=be g_/\ni k r2 o r g_ N/\BP k r2 m1 m2 o i2 jx I [] N len/\N.length<=10*(I.length-ms.length)/\ms.length<=I.length/\ae H r) ?_ ?_
    ·intro r_ jw;refine .inl ⟨⟨O,ai.of (w3 _ _ q3)⟩,?_⟩;refine cB (bI O) (λj l r=>Jf fun(v7 v8 v9 C G V nu:cp)(g_:bY)(N jx:List (Pr×cm))(I:List Pr)(i2:Nat)=>l=[aa a,cg x,aa b,cg y,aa Lr,aa F,aa R,v7,v8,v9,C,G,V,nu]/\Aq r F I/\r R=be g_/\ni k r2 o r g_ N/\BP k r2 m1 m2 o i2 jx I (D.drop j) N len/\N.length<=10*(I.length-ms.length)/\ms.length<=I.length/\r Lr=be O/\ni k r2 o r O D/\ae H r)
      ⟨v7,v8,v9,C,G,V,nu,[],[],st,ms,i,rfl,q1.same w3,w4,ni.nil,by simpa using q5,by simp,Qz _,w3 _ _ q3,q4.same w3,Ax.trans w3⟩ (by rintro j l r _ ⟨_,_,_,_,_,_,_,_,_,_,_,_,_,_,_,_,_,_,_,h,_⟩;exact ai.of h) ?_ ?_
     ·rintro j l H8 hj ⟨v7,v8,v9,C,G,V,nu,g_,N,jx,I,i2,rfl,z1,z2,z3,z4,z5,z6,z7,z8,z9⟩;have CI:j<D.length:=by lia
      obtain⟨c,bb,yy,c1,c2,c3,c4⟩:=z8.at_ j hj CI
      have eg:O.getD j .ao=.ref c:=cX hj c1;rw[eg];rw[QN CI]at z4;generalize D[j]=d at c2 c4 z4;have to:=z4.DF;have am:ip (jf k) rs.length d.1.1=d.1.1:=by rw[rl];exact to.a.2
      have an:ip (jf r2) DW.length d.1.2=d.1.2:=by rw[Uj];exact to.b.2
      have Nq:=lO to.a.2;have Nr:=lO to.b.2;have GO:=BN.Bv to.a;have ap:=xf.Bv to.b;have bp:=rt.Cr hw to.a.1;have bs:=uy.Cr Jz to.b.1;refine xk (ak.of c2) ?_
      (try dsimp only)
      refine aI ⟨a,xs,k,m1,ws,d.1.1,rfl,rt.tk z9.ts,hw,to.a.1,λM1 u1 H9 Nt t3 Uo Nu=>?_⟩;have y9:=z9.trans t3
      (try dsimp only)
      refine aI ⟨b,J,r2,m2,G9,d.1.2,rfl,uy.tk y9.ts,Jz,to.b.1,λM2 u2 uz Nv t4 Up Nx=>?_⟩;have Hf:=y9.trans t4;have Ny:=t3.trans t4;have Uq:=t4 _ _ Uo;have Ur:=Nu.tk t4.ts;have ar:M1≠R:=λz=>by rw[z,z2]at Nt;cases Nt
      have as:M2≠R:=λz=>by rw[z,t3 _ _ z2]at Nv;cases Nv
      (try dsimp only)
      refine aL (λl r=>(au k d.1.1).fg=(au r2 d.1.2).fg/\ae uz r/\l=[aa a,cg x,aa b,cg y,aa Lr,aa F,aa R,aa bb,some (.str d.1.1),some (.str d.1.2),aa M1,aa M2,V,nu]) ?_ ?_
      ·intro Hg Az;refine⟨a,xs,rs,_,_,d.1.1,rfl,g.ts Hf.ts,(hm _).mpr to.a.1,λva Ha sa Us=>?_⟩;rw[am]at Us;obtain⟨ba,ya,rfl,ea⟩:=((wo _ va to.a.1 Us).same (Hf.trans sa)).fg;refine⟨_,_,.inr (ak.of ea),aK _ _,?_⟩;refine⟨b,J,DW,_,_,d.1.2,rfl,g2.ts (Hf.trans sa).ts,(GR _).mpr to.b.1,λvb Hb sb Ut=>?_⟩;rw[an]at Ut;obtain⟨bb',yb,rfl,eb⟩:=((aen _ vb to.b.1 Ut).same ((Hf.trans sa).trans sb)).fg;have Uu:=sa.trans sb;refine⟨_,_,.inr (ak.of eb),aK _ _,rfl,_,rfl,He (λcs=>?_) (λcs=>?_)⟩
       ·have tt:=Ny.trans Uu;exact kB bb yy d.2 Hb (z9.trans tt) (tt _ _ c3) (c4.same tt) (z4.bad λme=>cs me.1)
       ·exact Az _ _ ⟨cs,Uu,rfl⟩
      rintro l xq ⟨av,t5,rfl⟩;have Nz:=Ny.trans t5;have JC:=t5 _ _ Uq;have JD:=t5 _ _ Up;have NB:=Ur.tk t5.ts;have NC:=Nx.tk t5.ts;refine aL (λl r=>stH (au k d.1.1)=stH (au r2 d.1.2)/\ae xq r/\l=[aa a,cg x,aa b,cg y,aa Lr,aa F,aa R,aa bb,some (.str d.1.1),some (.str d.1.2),aa M1,aa M2,V,nu]) ?_ ?_
      ·intro Hg Az;refine .inl ⟨⟨u1,ai.of JC⟩,λD1 aw=>RB JC NB aw (by lia) λw1 yn t6 JE ax=>?_⟩;refine .inl ⟨⟨u2,ai.of (t6 _ _ JD)⟩,λD2 Aw=>RB (t6 _ _ JD) (NC.tk t6.ts) Aw (by lia) λw2 xr t7 zg a1=>?_⟩;refine⟨1,1,D1,D2,w1,w2,_,_,by decide,rfl,rfl,ai.of (t7 _ _ JE),ai.of zg,(ax.same t7).LY,a1.LY,λbo Fq=>⟨_,rfl,?_⟩⟩;rw[Nq,Nr]at Fq;have Uv:bo=true↔stH (au k d.1.1)=stH (au r2 d.1.2):=by rw[Fq];exact⟨oZ,λe=>by rw[e]⟩
       refine gy (λc=>?_) (λc=>?_)
       ·have tt:=Nz.trans (t6.trans t7);exact kB bb yy d.2 xr (z9.trans tt) (tt _ _ c3) (c4.same tt) (z4.bad λme=>by rw[Uv.mpr me.2]at c;cases c)
       ·exact Az _ _ ⟨Uv.mp (by cases bo<;>first|rfl|cases c),t6.trans t7,rfl⟩
      rintro l yn ⟨JF,t6,rfl⟩;have BQ:=Nz.trans t6;have me:nc k r2 d.1:=⟨av,JF⟩
      have Uw:¬EY k r2 d.1:=λz=>z me;have y1:=z1.same BQ;have y2:=BQ _ _ z2;have y3:=z3.same BQ;have y7:=BQ _ _ z7;have y8:=z8.same BQ;have y9:=z9.trans BQ;have d3:=BQ _ _ c3;have d4:=c4.same BQ;have f1:=t6 _ _ JC;have f2:=t6 _ _ JD;have zb:=NB.tk t6.ts;have CA:=NC.tk t6.ts;have l1:=Nu.len;have l2:=Nx.len;clear c2 c3 c4 z1 z2 z3 z7 z8 z9 t3 t4 t5 t6 Ny Nz BQ Hf Uo Up Uq JC JD Nu Nx Ur NB NC Nt Nv;obtain⟨fz,k1,k2⟩:=y1;have u_:(a_ fz (jt d.1)).isSome=true↔d.1∈I:=by
       rw[iE,k2];exact Fa
      have kl:fz.length=I.length:=by have:=congrArg List.length k2;simpa using this
      have Um:=oA z4 BN xf;refine⟨jd,λqa Ux=>?_⟩;have sq:=ae.upd Ux (.tup [.str d.1.1,.str d.1.2]);have eq:upd yn qa (.tup [.str d.1.1,.str d.1.2]) qa=ff ((jt d.1).map kV):=aA;generalize upd yn qa (.tup [.str d.1.1,.str d.1.2])=xr at sq eq⊢;refine⟨F,a_ fz (jt d.1),rfl,dz.t (sq _ _ k1) eq,_,rfl,gy (λcc=>?_) (λcc=>?_)⟩
      ·have qz:d.1∉I:=λz=>by
        rw[u_.mpr z]at cc;cases cc
       have DY:a_ fz (jt d.1)=none:=by
        cases hv:a_ fz (jt d.1)with
        |none=>rfl
        |some v=>exact absurd (u_.mp (by rw[hv];rfl)) qz
       have zx:BP k r2 m1 m2 o (i2+1) (jx++kj (jb k r2) d) (I++[d.1]) (D.drop (j+1)) (N++kj (jb k r2) d) len:=z4.expand (λq hq=>by
        rw[kJ me]at hq;obtain⟨s,hs,rfl⟩:=Z2.mp hq;exact to.behind BN xf me hs) Uw qz
       have a2:=oA zx BN xf;rw[Qk]at a2;have Uy:(az k d.1.1).length=(stH (au k d.1.1)).length:=by rw[<- Nq,Ql]
       have bt:(az r2 d.1.2).length=(stH (au k d.1.1)).length:=by rw[JF,<- Nr,Ql]
       have a3:(jb k r2 d.1).length=(az k d.1.1).length:=by rw[kJ me,Uy];simp[EU]
       have bv:(jb k r2 d.1).length<=10:=by
        have:=rP (BN.yf to.a).2;rw[a3,Uy];simpa[stH]using this
       refine aL (λl r=>∃qb,l=[aa a,cg x,aa b,cg y,aa Lr,aa F,aa R,aa bb,some (.str d.1.1),some (.str d.1.2),aa M1,aa M2,V,nu]/\xr qb=none/\r=upd (upd xr qb (.tup ((jt d.1).map kV))) F (.dT (fz++[(jt d.1,.bl true)]))) (λHg Az=>⟨jd,λqb Hh=>⟨F,_,rfl,yu.t (ae.upd Hh _ _ _ (sq _ _ k1)) (show upd xr qb (.tup [.str d.1.1,.str d.1.2]) qb=ff ((jt d.1).map kV)from aA) (by lia),Az _ _ ⟨qb,rfl,Hh,by rw[L2.cA _ DY];rfl⟩⟩⟩) ?_;rintro l yo ⟨qb,rfl,Hh,rfl⟩;have A4:=sq.trans (ae.upd Hh (.tup ((jt d.1).map kV)));generalize upd xr qb (.tup ((jt d.1).map kV))=BR at A4⊢;have ND:=A4 _ _ k1;have tk:Tk yn (upd BR F (.dT (fz++[(jt d.1,.bl true)]))):=A4.ts.trans ((Tk.refl).set ND 'n');have i_:∀b' J,bj yn b' J->bj (upd BR F (.dT (fz++[(jt d.1,.bl true)]))) b' J:=λb' J h=>(h.same A4).put ND ('n') (λ_ _ z=>nomatch z);have p1:Aq (upd BR F (.dT (fz++[(jt d.1,.bl true)]))) F (I++[d.1]):=⟨_,aA,by rw[Qm,Qm,k2];rfl⟩
       have p2:upd BR F (.dT (fz++[(jt d.1,.bl true)])) R=be g_:=by rw[aB G_];exact A4 _ _ y2
       have p3:=y3.keep tk i_;have p7:upd BR F (.dT (fz++[(jt d.1,.bl true)])) Lr=be O:=by rw[aB Np.symm];exact A4 _ _ y7
       have p8:=y8.keep tk i_;have p9:ae H (upd BR F (.dT (fz++[(jt d.1,.bl true)]))):=(y9.trans A4).put Nk;have g3:=tk _ _ d3;have g4:=d4.keep i_;have a4:M1≠F:=λz=>by rw[z,k1]at f1;cases f1
       have a5:M2≠F:=λz=>by rw[z,k1]at f2;cases f2
       have v_:upd BR F (.dT (fz++[(jt d.1,.bl true)])) M1=be u1:=by rw[aB a4];exact A4 _ _ f1
       have NE:upd BR F (.dT (fz++[(jt d.1,.bl true)])) M2=be u2:=by rw[aB a5];exact A4 _ _ f2
       have Uz:=zb.tk tk;have UA:=CA.tk tk;generalize upd BR F (.dT (fz++[(jt d.1,.bl true)]))=bw at p1 p2 p3 p7 p8 p9 v_ NE Uz UA g3 g4⊢;clear tk i_ y2 y3 y7 y8 y9 d3 d4 k1 ND sq A4 f1 f2 zb CA eq Ux Hh;have bz:=zD (nx:=jb k r2) d;have b3:=g4.len;have Yn:(ja (jb k r2) o d.2).length<=900:=by
        have Y:=z4.dl d yS;have h2:=xK z4.L0
        lia
       refine⟨M1,M2,u1,u2,rfl,ai.of v_,ai.of NE,?_⟩;refine tK (xJ u1 u2) (λt l r=>X3 fun(V nu:cp)(oq:bY)=>l=[aa a,cg x,aa b,cg y,aa Lr,aa F,aa R,aa bb,some (.str d.1.1),some (.str d.1.2),aa M1,aa M2,V,nu]/\r R=be oq/\ni k r2 o r oq (N++(kj (jb k r2) d).take t)/\Aq r F (I++[d.1])/\r Lr=be O/\ni k r2 o r O D/\r bb=ff yy/\SV r yy (ja (jb k r2) o d.2)/\ae H r/\r M1=be u1/\r M2=be u2/\MV r u1 (az k d.1.1)/\MV r u2 (az r2 d.1.2))
        ⟨V,nu,g_,rfl,p2,by simpa using p3,p1,p7,p8,g3,g4,p9,v_,NE,Uz,UA⟩ (by rintro t l r _ ⟨_,_,_,_,_,_,_,_,_,_,_,_,h,M,_⟩;exact⟨ai.of h,ai.of M⟩) ?_ ?_
       ·rintro t l UB TT ht ⟨a6,a7,oq,rfl,x1,x2,x3,x5,x6,x7,x8,x9,JG,Ft,UC,UD⟩ Hi;have j1:t<u1.length:=by lia
        have j2:t<u2.length:=by lia
        have UE:t<(az k d.1.1).length:=by lia
        have UG:t<(az r2 d.1.2).length:=by lia
        have NF:t<(jb k r2 d.1).length:=by lia
        have FY:t<(kj (jb k r2) d).length:=by lia
        obtain⟨c1,b1,n1,n2,n3⟩:=UC.at_ t j1 UE
        obtain⟨c2,b2,o1,o2,o3⟩:=UD.at_ t j2 UG
        have a8:u1.getD t .ao=.ref c1:=cX j1 n1;have NG:u2.getD t .ao=.ref c2:=cX j2 o1;rw[a8,NG];have js:t<(stH (au k d.1.1)).length:=by lia
        have b4:t<(stH (au r2 d.1.2)).length:=by rw[<- JF];exact js
        have UH:(stH (au k d.1.1))[t]=(az k d.1.1)[t].1:=by simp only[<- Nq,Qr]
        have L_:(stH (au r2 d.1.2))[t]=(az r2 d.1.2)[t].1:=by simp only[<- Nr,Qr]
        have zg:(az k d.1.1)[t].1=(az r2 d.1.2)[t].1:=by rw[<- UH,<- L_];simp only[JF]
        have UI:=pU GO (Qj UE);have UJ:=pU ap (Qj UG);have a9:(jb k r2 d.1)[t]? =some ((az k d.1.1)[t].1,y_ k r2 d.1 (az k d.1.1)[t].1):=by
         rw[kJ me,rR,Qa js,UH];rfl
        have NH:=x2.len;rw[Qk,u9]at NH;obtain⟨NI,UK⟩:=uQ z4.L0 a9 FY;rw[show(kj (jb k r2) d).take (t+1)=(kj (jb k r2) d).take t++[(kj (jb k r2) d)[t]]by rw[Qs,Qa FY];rfl,<- QQ];generalize(az k d.1.1)[t]=mm at n2 n3 zg UI NI UK;generalize(az r2 d.1.2)[t]=Fv at o2 o3 zg UJ;have bd:y_ k r2 d.1 mm.1=(mm.2,Fv.2):=by
         unfold y_;rw[UI,zg,UJ];rfl
        rw[bd]at NI;have JH:=ae.upd Hi (.tup [.ref c1,.ref c2])
        (try dsimp only)
        generalize upd UB TT (.tup [.ref c1,.ref c2])=CJ at JH⊢;refine⟨.inl ⟨rfl,_,ai.of (JH _ _ x1)⟩,?_⟩;have bh:∀Q:VK,(∀p,CJ p=none->Q (.ref p) (upd CJ p (.tup [.ref b1])))->(Cf (.ref c1) none (some 1) CJ Q\/Ca K (.ref c1) none (some 1) CJ Q\/B_ K (.ref c1) none (some 1) CJ Q):=λQ q=>.inr (.inr ⟨c1,_,rfl,ak.of (JH _ _ n2),(by rintro⟨_,z⟩;exact absurd z (show ¬HT.cu 2 2 (some 1)=2 by decide)),q⟩);refine⟨1,rfl,bh _ λT8 A3=>?_⟩;have UL:=ae.upd A3 (.tup [.ref b1]);have UM:upd CJ T8 (.tup [.ref b1]) T8=ff [.ref b1]:=aA;show IT K (.ref bb) (.ref T8) (upd CJ T8 (.tup [.ref b1])) _;generalize upd CJ T8 (.tup [.ref b1])=b5 at UL UM;have UN:=JH.trans UL;have b6:=x8.len;refine LL (UN _ _ x7) UM (by simp;lia) λfr UO bi bk=>?_;have sA:=UN.trans bi;refine⟨_,_,.inr (ak.of (sA _ _ n2)),rfl,_,_,.inr (ak.of (sA _ _ o2)),rfl,Jc,λT9 NJ=>?_⟩;have NK:=ae.upd NJ (.tup [.ref fr,.str mm.2,.str Fv.2]);have UP:upd UO T9 (.tup [.ref fr,.str mm.2,.str Fv.2]) T9=ff [.ref fr,.str mm.2,.str Fv.2]:=aA;generalize upd UO T9 (.tup [.ref fr,.str mm.2,.str Fv.2])=JI at NK UP;have sB:=sA.trans NK;have NL:=sB _ _ x1;have tk:Tk JI (upd JI R (.lst (oq++[.ref T9]))):=(Tk.refl).set NL 'n';have i_:∀b' J,bj JI b' J->bj (upd JI R (.lst (oq++[.ref T9]))) b' J:=λb' J h=>h.put NL ('n') (λ_ _ z=>nomatch z);obtain⟨kv3,f1,f2⟩:=x3;refine⟨R,oq,.ref T9,rfl,rfl,NL,by lia,_,_,oq++[.ref T9],rfl,aA,?_,⟨kv3,by rw[aB G_.symm];exact sB _ _ f1,f2⟩,by rw[aB Nn.symm];exact sB _ _ x5,(x6.same sB).keep tk i_,tk _ _ (sB _ _ x7),(x8.same sB).keep i_,(x9.trans sB).put Nm,by rw[aB ar];exact sB _ _ JG,by rw[aB as];exact sB _ _ Ft,(UC.tk sB.ts).tk tk,(UD.tk sB.ts).tk tk⟩;rw[NI];refine((x2.same sB).keep tk i_).snoc (p:=((mm.2,Fv.2),d.2++[t])) (tk _ _ UP) (tk _ _ (NK _ _ bk)) ?_;show SV _ _ (ja (jb k r2) o (d.2++[t]));rw[UK];exact SV.keep ((x8.same sB).append (SV.one (.inl (sB _ _ n3)))) i_
       ·rintro l UB ⟨a6,a7,oq,rfl,x1,x2,x3,x5,x6,x7,x8,x9,_⟩;rw[show min u1.length u2.length=(kj (jb k r2) d).length by lia,Qo]at x2;refine⟨_,_,_,_,_,_,_,oq,_,_,_,_,rfl,x3,x1,x2,zx,?_,?_,x5,x6,x9⟩
        ·rw[Qk,Qk,kb];lia
        ·rw[Qk];lia
      ·have gb:d.1∈I:=u_.mp (by cases hz:(a_ fz (jt d.1)).isSome with|true=>rfl|false=>rw[hz]at cc;cases cc);exact⟨_,_,_,_,_,_,_,g_,N,jx,I,_,rfl,⟨fz,sq _ _ k1,k2⟩,sq _ _ y2,y3.same sq,z4.old Uw gb,z5,z6,sq _ _ y7,y8.same sq,y9.trans sq⟩
     ·rintro l H8 ⟨v7,v8,v9,C,G,V,nu,g_,N,jx,I,i2,rfl,z1,z2,z3,z4,z5,z6,z7,z8,z9⟩;rw[Ay,List.drop_length]at z4;exact jw _ _ ⟨v7,v8,v9,C,G,V,nu,g_,N,jx,I,i2,rfl,z1,z2,z3,z4,z5,z6,z9⟩
    ·rintro l H8 ⟨v7,v8,v9,C,G,V,nu,g_,N,jx,I,i2,rfl,z1,z2,z3,z4,z5,z6,z7⟩;have nl:=z3.len;have Um:=oA z4 BN xf;refine⟨R,g_,N.map λd=>ja (jb k r2) o d.2,rfl,z2,by lia,⟨by simp[nl],λj Y h2=>?_⟩,λj hj=>?_,λL hL=>?_⟩
     ·obtain⟨c,bb,yy,c1,c2,c3,c4⟩:=z3.at_ j Y (by lia)
      exact⟨c,bb,yy,_,c1,c2,c3,by rw[Qr];exact c4⟩
     ·rw[Qr,Qr];exact z4.rise Dg j (by simpa using hj)
     ·have w5:=ae.upd hL (.lst g_);exact⟨_,_,_,_,_,_,_,_,L,g_,N,jx,I,i2,rfl,z1.same w5,aA,z3.same w5,z4.turn,z5,z6,z7.trans w5⟩
   ·have hP:D=[]:=by
     cases O with
     |nil=>exact QS (by simpa using Ay.symm)
     |cons u O=>simp at c
    subst hP;exact ck _ _ ⟨Ax.trans w1,q5.fin⟩
  ·rintro l H5 ⟨q1,q2⟩;exact kN H5 q1 q2
theorem bB(l:List α)(i:Nat)(h:i<l.length):l.take (i+1)=l.take i++[l[i]]:=mO h
inductive NN (mg:Str->cv)(vs:bY)(H:Hp)(Q:VK)(bz:XK):Prop
 |mk (n r a:Addr) (xs:bY) (F:List aj) (ns ws R:aU):vs=[.ref n,.ref r]->AV H (cr mg "Net") n F->RT H a xs F ns ws->(∀z∈ws,Wd z)->H r=be (R.map V.str)->R.Nodup->(∀e∈R,gg F ns e)->(∀e∈R,∀m∈az F e,m.2∈R)->(∀(D:Addr)(kvs:ca)(U:Hp),H D=none->ae H U->U D=eu kvs->jp H U kvs R (kg F R)->Q (.ref D) U)->NN mg vs H Q bz
set_option maxHeartbeats 2000000 in
theorem oV(T:Txt K mg w):bq P w K mg base 2 "sources_of" ["net","rows"] (NN mg):=by
 have cl:=T.Au.2.1;have na:=T.Au.2.2.1;refine T.rA.gw cM ?_ ?_
 ·rintro _ _ _ _ ⟨n,r,a,xs,b,ns,ws,R,rfl,_⟩;rfl
 ·rintro f bf A ab s H vs Q E hr ⟨n,r,a,xs,b,ns,ws,R,rfl,AA,rt,hw,hR,BS,DZ,E8,k⟩;obtain⟨hu,gk,hsz⟩:=d5 hr;have few:=rt.few;have UQ:R.length<=ns.length:=dO BS λx hx=>(DZ x hx).1;obtain⟨dx,fs,en,⟨_,_,_,⟨d4,o4,k4,e1,e2,e3⟩⟩⟩:=AA;generalize cr mg "Net"=C at*;have look:∀e,gg b ns e->X2 λm o=>dz H d4 (.str e) (some (.ref m))/\H m=some (.af o (.dT (jr b e))):=λe he=>by
   obtain⟨v,Y,m,o,rfl,h2⟩:=e3.get rt.Bu (rt.yf hw he).1;refine⟨m,o,by rw[<- Y];exact dz.rd (k:=Sum.inr e) (.inr ⟨o4,e2⟩),?_⟩;rw[lK he.2]at h2;exact h2
  refine⟨_,(aE (IV (i:=2) (own:=["row"]) (idx:=[]) (N':=["row"]) (cL cM) rfl (jF K (zv 1)) (λ_ _ _ _ _ _=>(bD 0)) (λ_ _ _ _ _ _=>gY) (λ_ _ _ _ _ _=>(zv 0)) (λ_ _ _ _ _ _=>(bV aC)) cM.nd rfl rfl)
   (aE (cO PassesOwn.never rfl (jF K (zv 1)) (bL 3 cM.nd) (aF (cO PassesOwn.never rfl (qB (bK hu (cT K (zv 0)) (zv 3))) (cW K (n:=2) rfl (aM (bL 4 cM.nd) (aM (bL 5 cM.nd) bQ))) (aF (bZ (jG K QJ QK QL bF (bK hu (zv 2) (zv 5)) (bC (bE (aD (zv 4) (aD (zv 3) aC))) aC)))))))
   (aF (aZ (zv 2))))),?_⟩
  refine aI (.inl ⟨⟨_,ai.of hR⟩,λD hD=>?_⟩);have rD:r≠D:=λz=>by rw[<- z,hR]at hD;cases hD
  have kn:∀{t:Hp}{c:ca}{g:Str->List (aU×Str)}{S:aU},jp H t c S g->S.Nodup->(c.map (·.1)).Nodup:=λh nd=>by
   rw[h.keys];exact uT.mpr (nd.imp λh e=>h (eh e))
  refine LK (bI (R.map V.str)) (λi τ L=>X2 fun(v0:cp)(c:ca)=>τ=[v0]/\L D=eu c/\jp H L c (R.take i) (λ_=>[])/\ae H L) ⟨none,[],rfl,aA,⟨rfl,λi h=>absurd h (by simp),λi j h=>absurd h (by simp)⟩,ae.upd hD _⟩ (by rintro i τ L _ ⟨_,_,_,_,_,s⟩;exact ai.of (s _ _ hR)) ?_ ?_
  ·rintro i τ L hi ⟨v0,c,rfl,q1,G,q3⟩;have Fw:i<R.length:=by simpa using hi
   have eg:(R.map V.str).getD i .ao=.str R[i]:=by rw[Qb,Qq,Qa Fw];rfl
   rw[eg];have ql:=G.len;rw[u9]at ql;refine⟨o_,λl hl=>⟨c,.inr R[i],rfl,ae.upd hl _ _ _ q1,by lia,_,c++[(.inr R[i],.ref l)],rfl,?_,?_,(q3.trans (ae.upd hl _)).put hD⟩⟩
   ·rw[L2.cA]
    ·exact aA
    ·have qz:R[i]∉R.take i:=λhx=>by
      obtain⟨j,hj,e⟩:=Qi hx;rw[u9]at hj;rw[io]at e;have:=(jk BS).mp e
      lia
     cases ez:a_ c (.inr R[i])with
     |none=>rfl
     |some v=>
      have:=gH ez;rw[G.keys]at this;obtain⟨x,hx,e⟩:=Z2.mp this;rw[eh e]at hx;exact absurd hx qz
   ·rw[bB R i Fw];have s2:=ae.upd hl (.lst []);have ig:H l=none:=q3.free hl;have d2:=s2 _ _ q1;have l2:upd L l (.lst []) l=be []:=aA;refine((G.same s2).put ig l2 (λj hj z=>?_) rfl).off d2 ('n') (λ_ _ z=>nomatch z) ('n');obtain⟨_,l',qj,g2,_,g4,_⟩:=G.at_ j hj (by rw[u9];lia)
    rw[g2]at z;rw[V.ref.inj z,hl]at g4;cases g4
  ·rintro τ L ⟨v0,c,rfl,q1,G,q3⟩;rw[Ql,Qo]at G;have kl:=G.len;have D0:=kn G BS;refine aL (λp t=>X3 fun(N u y:cp)=>p=[aa n,aa r,aa D,N,u,y]/\t D=eu c/\jp H t c R (kg b R)/\ae H t) ?_ ?_
   ·intro nx ck;refine .inl ⟨⟨_,ai.of (q3 _ _ hR)⟩,?_⟩;refine cB (bI (R.map V.str)) (λi p t=>X3 fun(N u y:cp)=>p=[aa n,aa r,aa D,N,u,y]/\t D=eu c/\jp H t c R (kg b (R.take i))/\ae H t)
     ⟨none,none,none,rfl,q1,G,q3⟩ (by rintro i p t _ ⟨_,_,_,_,_,_,s⟩;exact ai.of (s _ _ hR)) ?_ ?_
    ·rintro i p H3 hi ⟨N,u,y,rfl,p1,p2,I⟩;have Fw:i<R.length:=by simpa using hi
     have eg:(R.map V.str).getD i .ao=.str R[i]:=by rw[Qb,Qq,Qa Fw];rfl
     rw[eg];have oi:=Qj Fw;have UR:kg b (R.take (i+1))=λe=>kg b (R.take i) e++Aj b R[i] e (az b R[i]):=by
      funext e;unfold kg;rw[yF _ _ i Fw]
     rw[UR];generalize R[i]=d at oi UR;have Fx:=DZ _ oi;obtain⟨m,om,l1,l2⟩:=look _ Fx;have oe:(jr b d).length=(az b d).length:=by simp[jr]
     refine⟨n,C,dx,fs,.ref d4,rfl,I _ _ en,cl,na "moves" (by simp),e1,d4,.ref m,rfl,l1.same I,m,jr b d,om,rfl,I _ _ l2,?_⟩;refine o6 (λj p t=>X2 fun(u y:cp)=>p=[aa n,aa r,aa D,cg d,u,y]/\t D=eu c/\jp H t c R (λe=>kg b (R.take i) e++Aj b d e ((az b d).take j))/\ae H t)
      ⟨u,y,rfl,p1,by simpa[Aj]using p2,I⟩ (by rintro j p t _ ⟨_,_,_,_,_,s⟩;exact s _ _ l2) ?_ ?_
     ·rintro j p H4 TT cc hj ⟨w4,w5,rfl,g1,g2,g3⟩ Hi rd;have CK:j<(az b d).length:=by lia
      have eo:(jr b d)[j]=((az b d)[j].1.map Sum.inr,.str (az b d)[j].2):=by simp[jr]
      rw[eo]at rd⊢;rw[IR]at rd;have Ao:=bB _ j CK;have gb:=E8 _ oi _ (Qj CK);rw[Ao];have ah:=rt.Cr hw Fx.1;generalize(az b d)[j]=mm at rd gb Ao⊢;have gm:=ae.upd Hi (.tup [.ref cc,.str mm.2])
      (try dsimp only)
      generalize upd H4 TT (.tup [.ref cc,.str mm.2])=H5 at gm;obtain⟨q,hq,eq⟩:=Qi gb;have CA:=g2.same gm;obtain⟨k1,l,O,k2,k3,Hj,k5⟩:=CA.at_ q (by lia) hq
      have gv:a_ c (.inr mm.2)=some (.ref l):=by
       rw[<- k2];refine gP D0 ?_;have:c[q]'(by lia)=(.inr mm.2,(c[q]'(by lia)).2):=by rw[<- eq,<- k1]
       rw[<- this];exact Qj _
      have zb:=gm _ _ g1;have ag:l≠D:=λz=>by rw[z,zb]at Hj;cases Hj
      have Ay:O.length<sizeLine:=by
       have Y:=k5.len;have h2:=nM b (R[q]'hq) 100 (R.take i) λr hr=>by have:=rt.Cr hw (DZ r (pf hr)).1;lia
       have h3:=uL b d (R[q]'hq) ((az b d).take j);rw[Qk]at Y;rw[u9]at h2 h3;have h4:min i R.length*100<=14*100:=Nat.mul_le_mul_right _ (by lia)
       lia
      have dg:=dz.k (k:=Sum.inr mm.2) zb;rw[gv]at dg;refine⟨D,.ref l,rfl,dg,.inl ⟨rfl,_,ai.of Hj⟩,jd,λT8 A3=>?_⟩;have lz:=ae.upd A3 (.tup [.ref cc,.str d]);have JE:upd H5 T8 (.tup [.ref cc,.str d]) T8=ff [.ref cc,.str d]:=aA
      (try dsimp only)
      generalize upd H5 T8 (.tup [.ref cc,.str d])=H6 at lz JE;refine⟨l,O,.ref T8,rfl,rfl,lz _ _ Hj,Ay,_,_,rfl,by rw[aB ag.symm];exact lz _ _ zb,?_,((g3.trans gm).trans lz).put k3⟩;refine(CA.same lz).push (q:=(mm.1,d)) BS (by lia) hq k2 (lz _ _ Hj) JE (rd.same (gm.trans lz)) ?_ ?_
      ·rw[eq];simp[Aj]
      ·intro e he;rw[eq]at he;simp[Aj,Ne.symm he]
     ·rintro p H4 ⟨w4,w5,rfl,g1,g2,g3⟩;rw[oe,Qo]at g2;exact⟨_,_,_,rfl,g1,g2,g3⟩
    ·rintro p H3 ⟨N,u,y,rfl,p1,p2,I⟩;rw[Ql,Qo]at p2;exact ck _ _ ⟨N,u,y,rfl,p1,p2,I⟩
   ·rintro p H3 ⟨N,u,y,rfl,p1,p2,I⟩;exact k D c H3 hD I p1 p2
inductive NO (mg:Str->cv)(vs:bY)(H:Hp)(Q:VK)(bz:XK):Prop
 |mk (x dx:Addr):vs=[.ref x]->H x=some (.ins 'j' dx [])->(∀(H0 U:Hp)(lm dn lw dw:Addr),(∀b,b≠x->H0 b=H b)->H0 x=none->Sx x H U->kq 'j' H0 U x lm dn lw dw [] [] [] [] []->Q .ao U)->NO mg vs H Q bz
set_option maxHeartbeats 1000000 in
theorem uP(T:Txt K mg w):Dn P w K mg base 1 "Parting" 'j' ["self"] (NO mg):=by
 have cl:=T.bG.2.1;have na:=T.bG.2.2.1;refine T.bG.gw mI (λvs H Q E h=>?_) (λf bf A ab s H vs Q E hr h=>?_)
 ·obtain⟨x,dx,rfl,_⟩:=h;rfl
 ·obtain⟨x,dx,rfl,hx,k⟩:=h;have hu:=dD hr;refine⟨_,(aE (lN K (zv 0) (bV aC))
   (aE (lN K (zv 0) kQ)
   (aE (lN K (zv 0) (bV aC))
   (aF (lN K (zv 0) kQ))))),?_⟩
  generalize hC:cr mg "Parting"=C at*;have l:∀{f g:Str}{v:V}{L:cw},g≠f->(cj f v L).lookup g=L.lookup g:=fun{f g v L}n=>by rw[bT,if_neg n]
  have ne:∀{f:Str}{v:V}{L:cw},(cj f v L).lookup f=some v:=fun{f v L}=>by rw[bT,if_pos rfl]
  refine g7 ⟨o_,λd D6=>?_⟩;have D:d≠x:=λz=>by rw[z,hx]at D6;cases D6
  refine⟨x,C,dx,[],rfl,by rw[aB D.symm];exact hx,cl,na "members" (by simp),by simp,?_⟩;generalize Bm:cj "members" (.ref d) []=t;have a1:upd (upd H d (.lst [])) x (.ins C dx t) d=be []:=by rw[aB D];exact aA
  have x1:upd (upd H d (.lst [])) x (.ins C dx t) x=some (.ins C dx t):=aA;have s1:Sx x H (upd (upd H d (.lst [])) x (.ins C dx t)):=((ae.upd D6 _).sx).trans Sx.upd;have l1:t.length<=1:=by rw[<- Bm];exact bO _ _ []
  generalize upd (upd H d (.lst [])) x (.ins C dx t)=N at a1 x1 s1⊢;refine g7 λa R=>?_;have G:a≠x:=λz=>by rw[z,x1]at R;cases R
  have m2:d≠a:=λz=>by rw[<- z,a1]at R;cases R
  refine⟨x,C,dx,t,rfl,by rw[aB G.symm];exact x1,cl,na "number" (by simp),by lia,?_⟩;generalize JJ:cj "number" (.ref a) t=p;have a2:upd (upd N a (.dK [])) x (.ins C dx p) d=be []:=by rw[aB D,aB m2];exact a1
  have b2:upd (upd N a (.dK [])) x (.ins C dx p) a=eu []:=by rw[aB G];exact aA
  have x2:upd (upd N a (.dK [])) x (.ins C dx p) x=some (.ins C dx p):=aA;have s2:Sx x N (upd (upd N a (.dK [])) x (.ins C dx p)):=((ae.upd R _).sx).trans Sx.upd;have l2:p.length<=2:=by rw[<- JJ];have:=bO "number" (.ref a) t;lia
  generalize upd (upd N a (.dK [])) x (.ins C dx p)=I at a2 b2 x2 s2⊢;refine g7 ⟨o_,λc u=>?_⟩;have n3:c≠x:=λz=>by rw[z,x2]at u;cases u
  have m3:d≠c:=λz=>by rw[<- z,a2]at u;cases u
  have o3:a≠c:=λz=>by rw[<- z,b2]at u;cases u
  refine⟨x,C,dx,p,rfl,by rw[aB n3.symm];exact x2,cl,na "waiting" (by simp),by lia,?_⟩;generalize Hl:cj "waiting" (.ref c) p=q;have a3:upd (upd I c (.lst [])) x (.ins C dx q) d=be []:=by rw[aB D,aB m3];exact a2
  have b3:upd (upd I c (.lst [])) x (.ins C dx q) a=eu []:=by rw[aB G,aB o3];exact b2
  have c3:upd (upd I c (.lst [])) x (.ins C dx q) c=be []:=by rw[aB n3];exact aA
  have x3:upd (upd I c (.lst [])) x (.ins C dx q) x=some (.ins C dx q):=aA;have s3:Sx x I (upd (upd I c (.lst [])) x (.ins C dx q)):=((ae.upd u _).sx).trans Sx.upd;have l3:q.length<=3:=by rw[<- Hl];have:=bO "waiting" (.ref c) p;lia
  generalize upd (upd I c (.lst [])) x (.ins C dx q)=H3 at a3 b3 c3 x3 s3⊢;refine pX λy r=>?_;have n4:y≠x:=λz=>by rw[z,x3]at r;cases r
  have m4:d≠y:=λz=>by rw[<- z,a3]at r;cases r
  have o4:a≠y:=λz=>by rw[<- z,b3]at r;cases r
  have q4:c≠y:=λz=>by rw[<- z,c3]at r;cases r
  refine⟨x,C,dx,q,rfl,by rw[aB n4.symm];exact x3,cl,na "waits" (by simp),by lia,?_⟩;generalize Ho:cj "waits" (.ref y) q=f4;have s4:Sx x H3 (upd (upd H3 y (.dK [])) x (.ins C dx f4)):=((ae.upd r _).sx).trans Sx.upd;have sA:=((s1.trans s2).trans s3).trans s4;have fx:∀{b:Addr}{J:Hp},Sx x H J->b≠x->J b=none->H b=none:=fun{b J}sx nb j=>by
   cases e:H b with
   |none=>rfl
   |some o=>rw[sx b o nb e]at j;cases j
  have hd:H a=none:=fx s1 G R;have af:H c=none:=fx (s1.trans s2) n3 u;have GK:H y=none:=fx ((s1.trans s2).trans s3) n4 r;refine k (λb=>if b=x then none else H b) _ d a c y (λb j=>if_neg j) (if_pos rfl) sA ⟨⟨dx,f4,aA,?_,?_,?_,?_,?_⟩,by rw[aB D,aB m4];exact a3,rfl,λi h=>absurd h (by simp),by rw[aB G,aB o4];exact b3,by rw[aB n3,aB q4];exact c3,by rw[aB n4];exact aA,λk=>by simp[a_],ij,by simp,?_,λb j=>?_,λb o e=>?_⟩
  ·rw[<- Ho,l (by decide+kernel),<- Hl,l (by decide+kernel),<- JJ,l (by decide+kernel),<- Bm,ne]
  ·rw[<- Ho,l (by decide+kernel),<- Hl,l (by decide+kernel),<- JJ,ne]
  ·rw[<- Ho,l (by decide+kernel),<- Hl,ne]
  ·rw[<- Ho,ne]
  ·intro m hm;have:m≠"waits"/\m≠"waiting"/\m≠"number"/\m≠"members":=by
    have h4:∀m∈(["begin","put_off","take_waiting","part"]:aU),m≠"waits"/\m≠"waiting"/\m≠"number"/\m≠"members":=by decide+kernel
    exact h4 m hm
   rw[<- Ho,l this.1,<- Hl,l this.2.1,<- JJ,l this.2.2.1,<- Bm,l this.2.2.2];rfl
  ·simp only[QR,uY,Qp,QB,or_false,not_or,ij,and_true,not_false_eq_true];exact⟨⟨D.symm,G.symm,n3.symm,n4.symm⟩,⟨m2,m3,m4⟩,⟨o3,o4⟩,q4⟩
  ·simp only[QR,Qp,QB,or_false]at j;rcases j with rfl|rfl|rfl|rfl|rfl
   ·exact if_pos rfl
   ·rw[if_neg D];exact D6
   ·rw[if_neg G];exact hd
   ·rw[if_neg n3];exact af
   ·rw[if_neg n4];exact GK
  ·by_cases j:b=x
   ·rw[if_pos j]at e;cases e
   ·rw[if_neg j]at e;exact sA b o j e
inductive Hq (mg:Str->cv)(vs:bY)(H:Hp)(Q:VK)(bz:XK):Prop
 |mk (H0:Hp) (p lm dn lw dw:Addr) (ms:cx) (mem:List aU) (kn:ca) (wt:cm) (kw:ca) (j:Nat):vs=[.ref p,fb j]->kq 'j' H0 H p lm dn lw dw ms mem kn wt kw->j∉wt->wt.length<=1000->(∀(k_:ca)(U:Hp),kq 'j' H0 U p lm dn lw dw ms mem kn (wt++[j]) k_->(∀b o,b≠lw->b≠dw->H b=some o->U b=some o)->Q .ao U)->Hq mg vs H Q bz
set_option maxHeartbeats 1000000 in
theorem fB(T:Txt K mg w):yj P w K mg base 1 'j' "put_off" ["self","at"] (Hq mg):=by
 have l:=T.bG.2.1;have q:=T.bG.2.2.1;refine T.adm.gw jC (λt H Q E h=>?_) (λf V A g s H t Q E u h=>?_)
 ·obtain⟨H0,p,lm,dn,lw,dw,ms,mem,kn,wt,kw,j,rfl,_⟩:=h;rfl
 ·obtain⟨H0,p,lm,dn,lw,dw,ms,mem,kn,wt,kw,j,rfl,pt,hj,hl,k⟩:=h;have x:=dD u;have y:sizeLine=16777216:=QM;obtain⟨dx,fs,f1,f2,f3,f4,f5,f6⟩:=pt.f.ex;refine⟨_,(aE (bZ (jG K QJ QK QL bF (cT K (zv 0)) (aD (zv 1) aC)))
   (aF (lF x (cT K (zv 0)) (zv 1) oS rfl))),?_⟩
  have nd:=pt.nd;simp only[hE,iQ,uY,Qp,not_or]at nd;obtain⟨⟨p1,p2,p3,p4,p5⟩,⟨q1,q2,q3,q4⟩,⟨r1,r2,r3⟩,⟨t1,t2⟩,u1,u2⟩:=nd;have kl:=pt.kl;have C:a_ kw (.inl (j:Int))=none:=by
   cases hv:a_ kw (.inl (j:Int))with
   |none=>rfl
   |some v=>exact absurd ((pt.BC j).mp (by rw[hv];rfl)) hj
  refine aL (λc D=>c=[aa p,some (fb j)]/\D=upd H lw (.lst (wt.map fb++[fb j]))) (λnx G=>⟨p,_,dx,fs,_,rfl,f1,l,q "waiting" (by simp),f4,.inl ⟨rfl,_,ai.of pt.w⟩,lw,_,fb j,rfl,rfl,pt.w,by simp;lia,G _ _ ⟨rfl,rfl⟩⟩) ?_;rintro c H1 ⟨rfl,rfl⟩;have fin:kq 'j' H0 (upd (upd H lw (.lst (wt.map fb++[fb j]))) dw (.dK (ci kw (.inl (j:Int)) (.bl true)))) p lm dn lw dw ms mem kn (wt++[j]) (ci kw (.inl (j:Int)) (.bl true)):=by
   have r:∀i(h:i<ms.length),ms[i]≠lw/\ms[i]≠dw:=λi h=>⟨λz=>t2 (by rw[<- z];exact Qj h),λz=>u1 (by rw[<- z];exact Qj h)⟩
   refine⟨⟨dx,fs,by rw[aB p4,aB p3];exact f1,f2,f3,f4,f5,f6⟩,by rw[aB q3,aB q2];exact pt.m,pt.ml,λi a b=>?_,by rw[aB r2,aB r1];exact pt.n,by rw[aB t1,Qm];exact aA,aA,λk=>?_,?_,?_,pt.nd,pt.fr,(pt.sm.put (pt.fr lw (by simp))).put (pt.fr dw (by simp))⟩
   ·obtain⟨kvs,e1,e2⟩:=pt.d i a b;exact⟨kvs,by rw[aB (r i a).2,aB (r i a).1];exact e1,e2⟩
   ·rw[mS,zH,zO,<- pt.BC k];by_cases hk:k=j
    ·subst hk;simp
    ·rw[if_neg (by intro z;have z:=KI.i.inj (Sum.inl.inj z);lia)];constructor
     ·exact λh=>.inl h
     ·exact λh=>h.elim id λz=>absurd z hk
   ·rw[QaA];exact⟨pt.wn,by simp,λa I b L=>by rw[zO.mp L];exact λz=>hj (by rw[<- z];exact I)⟩
   ·rw[L2.cA _ C];simp;lia
  exact⟨p,_,dx,fs,_,rfl,by rw[aB p3];exact f1,l,q "waits" (by simp),f5,dw,_,rfl,yu.k (k:=.inl (j:Int)) (by rw[aB (Ne.symm t1)];exact pt.ws) (by lia),k _ _ fin λb o N R e=>by rw[aB R,aB N];exact e⟩
inductive NP (mg:Str->cv)(vs:bY)(H:Hp)(Q:VK)(bz:XK):Prop
 |mk (H0:Hp) (p lm dn lw dw:Addr) (ms:cx) (mem:List aU) (kn:ca) (wt:cm) (kw:ca) (j:Nat):vs=[.ref p]->kq 'j' H0 H p lm dn lw dw ms mem kn (wt++[j]) kw->(∀(k_:ca)(U:Hp),kq 'j' H0 U p lm dn lw dw ms mem kn wt k_->(∀b o,b≠lw->b≠dw->H b=some o->U b=some o)->Q (fb j) U)->NP mg vs H Q bz
theorem yT [DecidableEq κ]{kvs:List (κ×V)}{k a:κ}:a_ (vh kvs k) a=if a=k then none else a_ kvs a:=by
 unfold a_ vh
 induction kvs with
 |nil=>simp
 |cons q kvs ih=>
  by_cases Y:q.1=k
  ·rw[List.filter_cons_of_neg (by simp[Y]),ih];by_cases h2:a=k
   ·rw[if_pos h2,if_pos h2]
   ·rw[if_neg h2,if_neg h2,km (by simp;rw[Y];exact λz=>h2 z.symm)]
  ·rw[List.filter_cons_of_pos (by simp[Y])];by_cases h3:q.1=a
   ·rw[pu (by simp[h3]),pu (by simp[h3]),if_neg (by rw[<- h3];exact Y)]
   ·rw[km (by simp[h3]),km (by simp[h3]),ih]
theorem wv [DecidableEq κ]{kvs:List (κ×V)}{k:κ}(h:(a_ kvs k).isSome=true):(vh kvs k).length<kvs.length:=by
 unfold vh;rw[List.length_filter_lt_length_iff_exists];rw[iE]at h;obtain⟨q,hq,e⟩:=Z2.mp h;exact⟨q,hq,by simp[e]⟩
set_option maxHeartbeats 1000000 in
theorem gE(T:Txt K mg w):yj P w K mg base 1 'j' "take_waiting" ["self"] (NP mg):=by
 have q:=T.bG.2.1;have r:=T.bG.2.2.1;refine T.adn.gw d9 (λu H Q E h=>?_) (λf N A g s H u Q E x h=>?_)
 ·obtain⟨H0,p,lm,dn,lw,dw,ms,mem,kn,wt,kw,j,rfl,_⟩:=h;rfl
 ·obtain⟨H0,p,lm,dn,lw,dw,ms,mem,kn,wt,kw,j,rfl,pt,k⟩:=h;have R:=dD x;have y:sizeLine=16777216:=QM;obtain⟨dx,fs,f1,f2,f3,f4,f5,f6⟩:=pt.f.ex;refine⟨_,(aE (aJ 1 d9.nd (GG K QJ PySem.F.slot_list_pop PySem.F.type_list_pop XT (cT K (zv 0))))
   (aE (RN (cT K (zv 0)) (zv 1))
   (aF (aZ (zv 1))))),?_⟩
  have nd:=pt.nd;simp only[hE,iQ,uY,Qp,not_or]at nd;obtain⟨⟨p1,p2,p3,p4,p5⟩,⟨q1,q2,q3,q4⟩,⟨r1,r2,r3⟩,⟨t1,t2⟩,u1,u2⟩:=nd;have pw:=pt.w;rw[Qm,hJ]at pw;have l:j∉wt:=by
   have:=pt.wn;rw[QaA]at this;exact λz=>this.2.2 j z j (by simp) rfl
  refine aI ⟨p,_,dx,fs,_,rfl,f1,q,r "waiting" (by simp),f4,.inl ⟨rfl,_,ai.of pt.w⟩,lw,_,fb j,rfl,rfl,pw,by simp,?_⟩;rw[List.dropLast_concat]
  (try dsimp only)
  have fin:kq 'j' H0 (upd (upd H lw (.lst (wt.map fb))) dw (.dK (vh kw (.inl (j:Int))))) p lm dn lw dw ms mem kn wt (vh kw (.inl (j:Int))):=by
   have t:∀i(h:i<ms.length),ms[i]≠lw/\ms[i]≠dw:=λi h=>⟨λz=>t2 (by rw[<- z];exact Qj h),λz=>u1 (by rw[<- z];exact Qj h)⟩
   refine⟨⟨dx,fs,by rw[aB p4,aB p3];exact f1,f2,f3,f4,f5,f6⟩,by rw[aB q3,aB q2];exact pt.m,pt.ml,λi a b=>?_,by rw[aB r2,aB r1];exact pt.n,by rw[aB t1];exact aA,aA,λk=>?_,?_,?_,pt.nd,pt.fr,(pt.sm.put (pt.fr lw (by simp))).put (pt.fr dw (by simp))⟩
   ·obtain⟨kvs,e1,e2⟩:=pt.d i a b;exact⟨kvs,by rw[aB (t i a).2,aB (t i a).1];exact e1,e2⟩
   ·rw[yT];have:=pt.BC k;rw[zH,zO]at this;by_cases hk:k=j
    ·subst hk;rw[if_pos rfl];exact⟨(λz=>nomatch z),(λz=>absurd z l)⟩
    ·rw[if_neg (by intro z;have z:=KI.i.inj (Sum.inl.inj z);lia),this];exact⟨λz=>z.elim id λz=>absurd z hk,.inl⟩
   ·have:=pt.wn;rw[QaA]at this;exact this.1
   ·have C:=pt.kl;have V:=wv (kvs:=kw) (k:=.inl (j:Int)) ((pt.BC j).mpr (by simp));rw[Qk,kb]at C
    lia
  refine aL (λc D=>c=[aa p,some (fb j)]/\D=upd (upd H lw (.lst (wt.map fb))) dw (.dK (vh kw (.inl (j:Int))))) (λnx G=>⟨p,_,dx,fs,_,rfl,by rw[aB p3];exact f1,q,r "waits" (by simp),f5,dw,kw,.inl (j:Int),rfl,by rw[aB (Ne.symm t1)];exact pt.ws,rfl,(pt.BC j).mpr (by simp),G _ _ ⟨rfl,rfl⟩⟩) ?_;rintro c H1 ⟨rfl,rfl⟩;exact k _ _ fin λb o I L e=>by rw[aB L,aB I];exact e
inductive JK (mg:Str->cv)(vs:bY)(H:Hp)(Q:VK)(bz:XK):Prop
 |mk (H0:Hp) (p lm dn lw dw r:Addr) (ms:cx) (mem:List aU) (kn:ca) (wt:cm) (kw:ca) (F:aU):vs=[.ref p,.ref r]->kq 'j' H0 H p lm dn lw dw ms mem kn wt kw->H r=be (F.map V.str)->r≠lm->F.Nodup->F.length<=100->mem.length<=1000->kn.length<=1000->(∀(d:Addr)(fc:ca)(U:Hp),H d=none->kq 'j' H0 U p lm dn lw dw (ms++[d]) (mem++[F]) fc wt kw->(∀x,a_ fc (.inr x)=if x∈F then some (fb mem.length)else a_ kn (.inr x))->fc.length<=kn.length+F.length->((∀x∈F,(a_ kn (.inr x)).isSome=true)->fc.length=kn.length)->(∀b o,b≠lm->b≠dn->H b=some o->U b=some o)->Q (fb mem.length) U)->JK mg vs H Q bz
theorem GE [DecidableEq κ]{kvs:List (κ×V)}{k:κ}{v:V}(h:(a_ kvs k).isSome=true):(ci kvs k v).length=kvs.length:=by
 have a:(kvs.any λb=>decide (b.1=k))=true:=by rw[cQ];exact h
 unfold ci;rw[if_pos a,Ql]
set_option maxHeartbeats 1000000 in
theorem g9(T:Txt K mg w):yj P w K mg base 1 'j' "begin" ["self","rows"] (JK mg):=by
 have R:=T.bG.2.1;have na:=T.bG.2.2.1;refine T.adl.gw cU (λvs H Q E h=>?_) (λf bf A ab s H vs Q E hr h=>?_)
 ·obtain⟨H0,p,lm,dn,lw,dw,r,ms,mem,kn,wt,kw,F,rfl,_⟩:=h;rfl
 ·obtain⟨H0,p,lm,dn,lw,dw,r,ms,mem,kn,wt,kw,F,rfl,pt,wc,nr,mj,fr,fm,fk,k⟩:=h;have hu:=dD hr;have am:sizeLine=16777216:=QM;obtain⟨dx,fs,f1,f2,f3,f4,f5,f6⟩:=pt.f.ex;have ml:=pt.ml;refine⟨_,(aE (aJ 2 cU.nd (bJ (aY K) T.ph dv (jO (cT K (zv 0)) aC)))
   (aE (bZ (jG K QJ QK QL bF (cT K (zv 0)) (sW (yD (own:=["row"]) (idx:=[]) (N':=["row"]) (cL cU) rfl (jF K (zv 1)) (λ_ _ _ _ _ _=>(bD 0)) (λ_ _ _ _ _ _=>gY) (λ_ _ _ _ _ _=>(zv 0)) (λ_ _ _ _ _ _=>oS)) aC)))
   (aE (cO PassesOwn.never rfl (jF K (zv 1)) (bL 3 cU.nd) (aF (lF hu (cT K (zv 0)) (zv 3) (zv 2) rfl)))
   (aF (aZ (zv 2)))))),?_⟩
  have nd:=pt.nd;simp only[hE,iQ,uY,Qp,not_or]at nd;obtain⟨⟨p1,p2,p3,p4,p5⟩,⟨q1,q2,q3,q4⟩,⟨r1,r2,r3⟩,⟨t1,t2⟩,u1,u2⟩:=nd;have af:r≠dn:=λz=>by rw[z,pt.n]at wc;cases wc
  refine aI ⟨p,_,dx,fs,_,rfl,f1,R,na "members" (by simp),f2,.inl ⟨_,.inl (ai.of pt.m),?_⟩⟩;rw[Ql,ml]
  (try dsimp only)
  refine aL (λg C=>X3 fun(d:Addr)(u:Hp)(c:ca)=>g=[aa p,aa r,some (fb mem.length),none]/\H d=none/\ae H u/\u d=eu c/\c.map (·.1)=F.map Sum.inr/\C=upd u lm (.lst (ms.map V.ref++[.ref d]))) ?_ ?_
  ·intro nx ck;refine⟨p,_,dx,fs,_,rfl,f1,R,na "members" (by simp),f2,.inl ⟨rfl,_,ai.of pt.m⟩,.inl ⟨⟨_,ai.of wc⟩,λD hD=>?_⟩⟩;refine LK (bI (F.map V.str)) (λi N C=>X2 fun(v0:cp)(c:ca)=>N=[v0]/\C D=eu c/\c.map (·.1)=(F.take i).map Sum.inr/\ae H C) ⟨none,[],rfl,aA,rfl,ae.upd hD _⟩ (by rintro i N C _ ⟨_,_,_,_,_,s⟩;exact ai.of (s _ _ wc)) ?_ ?_
   ·rintro i N u q ⟨v0,c,rfl,y,g2,G⟩;rw[Ql]at q;have eg:(F.map V.str).getD i .ao=.str F[i]:=by rw[Qb,Qq,Qa q];rfl
    rw[eg];have kl:c.length=min i F.length:=by have:=congrArg List.length g2;simpa using this
    have qz:a_ c (.inr F[i])=none:=by
     cases hv:a_ c (.inr F[i])with
     |none=>rfl
     |some v=>
      have:(Sum.inr F[i]:Key)∈c.map (·.1):=by rw[<- iE,hv];rfl
      rw[g2]at this;obtain⟨x,hx,e⟩:=Z2.mp this;have e:x=F[i]:=eh e;subst e;obtain⟨j,hj,ej⟩:=Qi hx;rw[io]at ej;have Rt:j<i:=by simp at hj;lia
      exact absurd ((jk mj).mp ej) (by lia)
    refine⟨c,.inr F[i],rfl,y,by lia,_,_,rfl,aA,?_,G.put hD⟩;rw[L2.cA _ qz,Qm,g2,Qs,Qa q,Qm];rfl
   ·rintro N u ⟨v0,c,rfl,y,g2,G⟩;rw[Ql,Qo]at g2;exact⟨lm,_,.ref D,rfl,rfl,G _ _ pt.m,by simp;lia,ck _ _ ⟨D,u,c,rfl,hD,G,y,g2,rfl⟩⟩
  rintro g H2 ⟨d,u,c,rfl,t,s1,e1,e2,rfl⟩;have US:d≠lm:=λz=>by rw[z,pt.m]at t;cases t
  have UT:d≠dn:=λz=>by rw[z,pt.n]at t;cases t
  have dp:d≠p:=λz=>by rw[z,f1]at t;cases t
  have ag:d≠lw:=λz=>by rw[z,pt.w]at t;cases t
  have ah:d≠dw:=λz=>by rw[z,pt.ws]at t;cases t
  have al:d∉ms:=λz=>by
   obtain⟨i,q,ei⟩:=Qi z;obtain⟨kv,Y,_⟩:=pt.d i q (by lia);rw[ei,t]at Y;cases Y
  have an:d≠r:=λz=>by rw[z,wc]at t;cases t
  have I:∀b o,b≠lm->H b=some o->upd u lm (.lst (ms.map V.ref++[.ref d])) b=some o:=λb o nb e=>by rw[aB nb];exact s1 _ _ e
  have m1:upd u lm (.lst (ms.map V.ref++[.ref d])) lm=be ((ms++[d]).map V.ref):=by rw[Qm];exact aA
  have d1:upd u lm (.lst (ms.map V.ref++[.ref d])) d=eu c:=by rw[aB US];exact e1
  have xn:ae H0 (upd u lm (.lst (ms.map V.ref++[.ref d]))):=(pt.sm.trans s1).put (pt.fr lm (by simp));generalize upd u lm (.lst (ms.map V.ref++[.ref d]))=H2 at I m1 d1 xn;refine aL (λg C=>X2 fun(L:cp)(l:ca)=>g=[some (.ref p),some (.ref r),some (fb mem.length),L]/\C=upd H2 dn (.dK l)/\(∀x,a_ l (.inr x)=if x∈F then some (fb mem.length)else a_ kn (.inr x))/\l.length<=kn.length+F.length/\((∀x∈F,(a_ kn (.inr x)).isSome=true)->l.length=kn.length)) ?_ ?_
  ·intro nx ck;refine .inl ⟨⟨_,ai.of (I _ _ nr wc)⟩,?_⟩;refine cB (bI (F.map V.str)) (λi g C=>X2 fun(L:cp)(l:ca)=>g=[some (.ref p),some (.ref r),some (fb mem.length),L]/\C=upd H2 dn (.dK l)/\(∀x,a_ l (.inr x)=if x∈F.take i then some (fb mem.length)else a_ kn (.inr x))/\l.length<=kn.length+i/\((∀x∈F,(a_ kn (.inr x)).isSome=true)->l.length=kn.length))
    ⟨none,kn,rfl,by rw[jV (I _ _ (Ne.symm q1) pt.n)],λx=>by simp,by lia,λ_=>rfl⟩ (by rintro i g C _ ⟨_,_,_,h,_⟩;(rw[h];exact ai.of (by rw[aB af];exact I _ _ nr wc))) ?_ ?_
   ·rintro i g H3 q ⟨L,l,rfl,rfl,y,g2,G⟩;rw[Ql]at q;have eg:(F.map V.str).getD i .ao=.str F[i]:=by rw[Qb,Qq,Qa q];rfl
    rw[eg];refine⟨p,_,dx,fs,_,rfl,by rw[aB p2];exact I _ _ p1 f1,R,na "number" (by simp),f3,dn,_,rfl,yu.k (k:=.inr F[i]) aA (by lia),_,ci l (.inr F[i]) (fb mem.length),rfl,by rw[iK],λx=>?_,?_,λhh=>?_⟩
    ·have tk:F.take (i+1)=F.take i++[F[i]]:=mO q;rw[mS,y,tk];by_cases hx:x=F[i]
     ·subst hx;rw[if_pos rfl,if_pos (zH.mpr (.inr yS))]
     ·rw[if_neg (λz=>hx (eh z))];by_cases hm:x∈F.take i
      ·rw[if_pos hm,if_pos (zH.mpr (.inl hm))]
      ·rw[if_neg hm,if_neg λz=>(zH.mp z).elim hm λz=>hx (zO.mp z)]
    ·have:=bU l (.inr F[i]) (fb mem.length);lia
    ·rw[GE ?_,G hh];rw[y];split
     ·rfl
     ·exact hh _ (Qj q)
   ·rintro g H3 ⟨L,l,rfl,rfl,y,g2,G⟩;rw[Ql]at y g2;rw[Qo]at y;exact ck _ _ ⟨L,l,rfl,rfl,y,g2,G⟩
  rintro g H3 ⟨L,l,rfl,rfl,y,g2,G⟩;have CL:∀i(h:i<ms.length),ms[i]≠lm/\ms[i]≠dn:=λi h=>⟨λz=>q4 (by rw[<- z];exact Qj h),λz=>r3 (by rw[<- z];exact Qj h)⟩
  refine k d l _ t ⟨⟨dx,fs,by rw[aB p2];exact I _ _ p1 f1,f2,f3,f4,f5,f6⟩,by rw[aB q1];exact m1,by simp[ml],λi a b=>?_,aA,by rw[aB (Ne.symm r1)];exact I _ _ (Ne.symm q2) pt.w,by rw[aB (Ne.symm r2)];exact I _ _ (Ne.symm q3) pt.ws,pt.BC,pt.wn,pt.kl,?_,λb hb=>?_,xn.put (pt.fr dn (by simp))⟩ y g2 G λb o Hr D7 e=>by rw[aB D7];exact I _ _ Hr e
  ·by_cases q:i<ms.length
   ·rw[Qe q,Qe (by lia)];obtain⟨kv,Y,h2⟩:=pt.d i q (by lia);exact⟨kv,by rw[aB (CL i q).2];exact I _ _ (CL i q).1 Y,h2⟩
   ·have gp:i=ms.length:=by simp at a;lia
    subst gp;rw[Qf (Qz _),Qf (by lia)];simp only[du,ml,uJ];exact⟨c,by rw[aB UT];exact d1,e2⟩
  ·rw[<- QQ,QaA];refine⟨pt.nd,by simp,λa ha b hb=>?_⟩;rw[zO.mp hb];rintro rfl;simp only[hE,iQ,Qp]at ha;rcases ha with z|z|z|z|z|z
   ·exact dp z
   ·exact US z
   ·exact UT z
   ·exact ag z
   ·exact ah z
   ·exact al z
  ·rw[<- QQ]at hb;rcases zH.mp hb with hb|hb
   ·exact pt.fr b hb
   ·rw[zO.mp hb];exact pt.sm.free t
inductive NQ (mg:Str->cv)(vs:bY)(H:Hp)(Q:VK)(bz:XK):Prop
 |mk (H0:Hp) (p lm dn lw dw r:Addr) (ms:cx) (mem:List aU) (kn:ca) (wt:cm) (kw:ca) (x0:Str) (rs:aU) (j:Nat) (l:aU):vs=[.ref p,.ref r]->kq 'j' H0 H p lm dn lw dw ms mem kn wt kw->H r=be ((x0::rs).map V.str)->r≠lm->r≠lw->(x0::rs).Nodup->(x0::rs).length<=100->mem.length<=900->kn.length<=900->wt.length<=900->a_ kn (.inr x0)=some (fb j)->mem[j]? =some l->l.Nodup->(∀x∈x0::rs,x∈l)->(∀x∈x0::rs,(a_ kn (.inr x)).isSome=true)->(∀i∈wt,i<mem.length)->((x0::rs).length=l.length->Q .ao H)->(∀(d:Addr)(fc:ca)(e_:cm)(k_:ca)(U:Hp),(x0::rs).length≠l.length->H d=none->kq 'j' H0 U p lm dn lw dw (ms++[d]) (mem.set j (qo (x0::rs) l)++[x0::rs]) fc e_ k_->(∀x,a_ fc (.inr x)=if x∈x0::rs then some (fb mem.length)else a_ kn (.inr x))->fc.length=kn.length->(∀i∈wt,i∈e_)->(j∈wt->mem.length∈e_)->(mem.length∈e_\/j∈e_)->e_.length=wt.length+1->(∀i∈e_,i∈wt\/i=mem.length\/i=j)->(∀b o,b∉[lm,dn,lw,dw]++ms->H b=some o->U b=some o)->Q .ao U)->NQ mg vs H Q bz
set_option maxHeartbeats 2000000 in
theorem mF(T:Txt K mg w):yj P w K mg base 2 'j' "part" ["self","rows"] (NQ mg):=by
 have eE:yj P w K mg base 1 'j' "begin" ["self","rows"] (JK mg):=g9 T;have cP:yj P w K mg base 1 'j' "put_off" ["self","at"] (Hq mg):=fB T;have cl:=T.bG.2.1;have AD:=cl;have na:=T.bG.2.2.1;refine T.ado.gw cI (λvs H Q E h=>?_) (λf bf A ab s H vs Q E hr h=>?_)
 ·obtain⟨H0,p,lm,dn,lw,dw,r,ms,mem,kn,wt,kw,x0,rs,j,l,rfl,_⟩:=h;rfl
 ·obtain⟨H0,p,lm,dn,lw,dw,r,ms,mem,kn,wt,kw,x0,rs,j,l,rfl,pt,wc,UU,nrw,mj,fr,fm,fk,fw,S2,hj,ndl,gb,JL,NR,kA,kB⟩:=h;obtain⟨hu,gk,hsz⟩:=d5 hr;obtain⟨dx,fs,f1,f2,f3,f4,f5,f6⟩:=pt.f.ex;have ml:=pt.ml;obtain⟨IZ,ejl⟩:=yE.mp hj;refine⟨_,(aE (aJ 2 cI.nd (bK hu (cT K (zv 0)) (aQ K (zv 1) aH)))
   (aE (aJ 3 cI.nd (aQ K (cT K (zv 0)) (zv 2)))
   (aE (dE (aP (fC gk) (bJ (aY K) T.ph dv (aD (zv 1) aC)) (bJ (aY K) T.ph dv (aD (zv 3) aC))) (aF FZ) bM)
   (aE (cO PassesOwn.never rfl (jF K (zv 1)) (bL 4 cI.nd) (aF (RN (zv 3) (zv 4))))
   (aE (aJ 5 cI.nd (l9 eE AD (hr.mono (by decide)) (zv 0) (aD (zv 1) aC)))
   (aF (dE (Im (aP (ZU hu) (zv 2) (cT K (zv 0)) rfl) (xV (aP YY (bJ (aY K) T.ph dv (aD (zv 1) aC)) (bJ (aY K) T.ph dv (aD (zv 3) aC))))).pt (aF (bZ (l9 cP AD (hr.mono (by decide)) (zv 0) (aD (zv 5) aC)))) (aF (bZ (l9 cP AD (hr.mono (by decide)) (zv 0) (aD (zv 2) aC))))))))))),?_⟩
  have nd:=pt.nd;simp only[hE,iQ,uY,Qp,not_or]at nd;obtain⟨⟨p1,p2,p3,p4,p5⟩,⟨q1,q2,q3,q4⟩,⟨r1,r2,r3⟩,⟨t1,t2⟩,u1,u2⟩:=nd;obtain⟨kvs,g1,g2⟩:=pt.d j (by lia) IZ;rw[ejl]at g2;generalize hS:ms[j]'(by lia)=S at g1;have BU:S∈ms:=by rw[<- hS];exact Qj _
  have C:p≠S/\lm≠S/\dn≠S/\lw≠S/\dw≠S/\r≠S:=⟨λz=>p5 (by rw[z];exact BU),λz=>q4 (by rw[z];exact BU),λz=>r3 (by rw[z];exact BU),λz=>t2 (by rw[z];exact BU),λz=>u1 (by rw[z];exact BU),λz=>by rw[z,g1]at wc;cases wc⟩
  have NS:kvs.length=l.length:=by have:=congrArg List.length g2;simpa using this
  refine aI ⟨p,_,dx,fs,_,rfl,f1,cl,na "number" (by simp),f3,_,_,.inl (ai.of wc),aK _ _,dn,_,rfl,by have:=dz.k (k:=.inr x0) pt.n;rw[S2]at this;exact this,?_⟩
  (try dsimp only)
  have wx:(ms.map V.ref)[j]? =aa S:=by rw[Qq,Qa (by lia),hS];rfl
  refine aI ⟨p,_,dx,fs,_,rfl,f1,cl,na "members" (by simp),f2,_,_,.inl (ai.of pt.m),dP wx,?_⟩
  (try dsimp only)
  refine aL (λt L=>(x0::rs).length≠l.length/\t=[aa p,aa r,some (fb j),aa S,none,none]/\L=H) ?_ ?_
  ·intro nx ck;refine .inl ⟨_,.inl (ai.of wc),.inr ⟨kvs,.inl g1,rfl,_,rfl,?_⟩⟩;refine Go (λc=>?_) (λc=>ck _ _ ⟨λz=>c ?_,rfl,rfl⟩)
   ·have c:((((x0::rs).map V.str).length:Nat):Int)=(kvs.length:Nat):=c;rw[Ql,NS]at c;exact kA (by exact_mod_cast c)
   ·show((((x0::rs).map V.str).length:Nat):Int)=(kvs.length:Nat);rw[Ql,NS,z]
  rintro t y ⟨ir,rfl,rfl⟩;refine aL (λt L=>X2 fun(G:cp)(g:ca)=>t=[aa p,aa r,some (fb j),aa S,G,none]/\L=upd y S (.dK g)/\g.map (·.1)=(qo (x0::rs) l).map Sum.inr) ?_ ?_
  ·intro nx ck;refine .inl ⟨⟨_,ai.of wc⟩,?_⟩;refine cB (bI ((x0::rs).map V.str)) (λi t L=>X2 fun(G:cp)(g:ca)=>t=[aa p,aa r,some (fb j),aa S,G,none]/\L=upd y S (.dK g)/\g.map (·.1)=(qo ((x0::rs).take i) l).map Sum.inr)
    ⟨none,kvs,rfl,by rw[jV g1],by rw[g2];congr 1;unfold qo;exact(List.filter_eq_self.mpr λx _=>by simp).symm⟩ (by rintro i t L _ ⟨_,_,_,h,_⟩;(rw[h];exact ai.of (by rw[aB C.2.2.2.2.2];exact wc))) ?_ ?_
   ·rintro i t H2 u ⟨G,g,rfl,rfl,N⟩;rw[Ql]at u;have eg:((x0::rs).map V.str).getD i .ao=.str (x0::rs)[i]:=by rw[Qb,Qq,Qa u];rfl
    rw[eg];have hm:=gb _ (Qj u);have af:(x0::rs)[i]∉(x0::rs).take i:=λz=>by
     obtain⟨q,hq,eq⟩:=Qi z;rw[io]at eq;have qh:q<i:=by simp at hq;lia
     exact absurd ((jk mj).mp eq) (by lia)
    have tk:(x0::rs).take (i+1)=(x0::rs).take i++[(x0::rs)[i]]:=mO u;have hs:(a_ g (.inr (x0::rs)[i])).isSome=true:=by
     rw[iE,N];exact Z2.mpr ⟨_,Qab.mpr ⟨hm,by simpa using af⟩,rfl⟩
    generalize(x0::rs)[i]=x at tk hs;refine⟨S,g,.inr x,rfl,aA,rfl,hs,_,vh g (.inr x),rfl,by rw[iK],?_⟩;rw[zS N,tk,uX]
   ·rintro t H2 ⟨G,g,rfl,rfl,N⟩;rw[Ql,Qo]at N;exact ck _ _ ⟨G,g,rfl,rfl,N⟩
  rintro t H2 ⟨G,g,rfl,rfl,N⟩;have am:g.length=(qo (x0::rs) l).length:=by have:=congrArg List.length N;simpa using this
  have JM:kq 'j' H0 (upd y S (.dK g)) p lm dn lw dw ms (mem.set j (qo (x0::rs) l)) kn wt kw:=by
   refine⟨⟨dx,fs,by rw[aB C.1];exact f1,f2,f3,f4,f5,f6⟩,by rw[aB C.2.1];exact pt.m,by simp[ml],λi a b=>?_,by rw[aB C.2.2.1];exact pt.n,by rw[aB C.2.2.2.1];exact pt.w,by rw[aB C.2.2.2.2.1];exact pt.ws,pt.BC,pt.wn,pt.kl,pt.nd,pt.fr,pt.sm.put (pt.fr S (by simp[BU]))⟩;rw[lv]at b;by_cases u:i=j
   ·subst u;rw[hS,List.getElem_set_self];exact⟨g,aA,N⟩
   ·rw[List.getElem_set_ne (Ne.symm u)];obtain⟨kv,Y,h2⟩:=pt.d i a b;have:ms[i]≠S:=λz=>by
     rw[<- hS]at z;exact u ((jk u2).mp z)
    exact⟨kv,by rw[aB this];exact Y,h2⟩
  have Ht:upd y S (.dK g) r=be ((x0::rs).map V.str):=by rw[aB C.2.2.2.2.2];exact wc
  have K2:∀b o,b≠S->y b=some o->upd y S (.dK g) b=some o:=λb o nb e=>by rw[aB nb];exact e
  have NT:upd y S (.dK g) S=eu g:=aA;have dS:∀d,upd y S (.dK g) d=none->y d=none:=λd R=>by
   by_cases NU:d=S
   ·rw[NU,aA]at R;cases R
   ·rw[aB NU]at R;exact R
  generalize upd y S (.dK g)=H2 at JM Ht K2 NT dS;have ag:(mem.set j (qo (x0::rs) l)).length=mem.length:=by simp
  obtain⟨dx2,fs2,Y,h2,h3,h4,h5,h6⟩:=JM.f.ex;refine aI ⟨p,dx2,fs2,rfl,Y,h6 "begin" (by simp),H0,p,lm,dn,lw,dw,r,ms,_,kn,wt,kw,x0::rs,rfl,JM,Ht,UU,mj,fr,by lia,by lia,λd fc H3 R JN k1 k2 k3 k4=>?_⟩;rw[ag]at k1⊢;have k3:=k3 JL;have NU:d≠S:=λz=>by rw[z,NT]at R;cases R
  obtain⟨JO,jv,i1,i2,i3,i4,i5,i6⟩:=JN.f.ex;have ah:H3 r=be ((x0::rs).map V.str):=k4 _ _ UU (λz=>by rw[z,JM.n]at Ht;cases Ht) Ht;have al:H3 S=eu g:=k4 _ _ C.2.1.symm C.2.2.1.symm NT;have fin:∀(I:cm)(k_:ca)(H4:Hp),kq 'j' H0 H4 p lm dn lw dw (ms++[d]) (mem.set j (qo (x0::rs) l)++[x0::rs]) fc I k_->(∀b o,b≠lw->b≠dw->H3 b=some o->H4 b=some o)->(∀i∈wt,i∈I)->(j∈wt->mem.length∈I)->(mem.length∈I\/j∈I)->I.length=wt.length+1->(∀i∈I,i∈wt\/i=mem.length\/i=j)->Q .ao H4:=λI k_ H4 NV Gc w1 w2 w3 w4 w5=>by
   refine kB d fc I k_ H4 ir (dS d R) NV k1 k3 w1 w2 w3 w4 w5 λb o nb e=>?_;simp only[hE,iQ,Qp,not_or]at nb;obtain⟨b1,b2,b3,b4,b5⟩:=nb;exact Gc b o b3 b4 (k4 b o b1 b2 (K2 b o (λz=>b5 (by rw[z];exact BU)) e))
  have MI:mem.length∉wt:=λz=>absurd (NR _ z) (by lia);have put:∀(i:Nat),(i=mem.length\/(i=j/\j∉wt))->(j∈wt->i=mem.length)->∀{D:Ends},D.nx=(λ_ L=>Q .ao L)->∀{te:TE},(∀Qv,(Qv:VK) (fb i) H3->te [aa p,aa r,some (fb j),aa S,G,some (fb mem.length)] H3 Qv)->HL (F0 'j' "put_off" (Hq mg) [] E0 (tV 0) (ik te qc)) D [aa p,aa r,some (fb j),aa S,G,some (fb mem.length)] H3:=by
   intro i u ye D hD te NW;refine⟨p,JO,jv,rfl,i1,i6 "put_off" (by simp),NW _ ⟨H0,p,lm,dn,lw,dw,ms++[d],_,fc,wt,kw,i,rfl,JN,?_,by lia,λk_ H4 NV Gc=>?_⟩⟩
   ·rcases u with rfl|⟨rfl,h⟩
    ·exact MI
    ·exact h
   ·rw[hD];refine fin _ k_ H4 NV Gc (λi u=>zH.mpr (.inl u)) (λh=>zH.mpr (.inr (by simp[ye h]))) ?_ (by simp) (λi' gp=>?_)
    ·rcases u with rfl|⟨rfl,h⟩
     ·exact .inl (by simp)
     ·exact .inr (by simp)
    ·rcases zH.mp gp with z|z
     ·exact .inl z
     ·rw[zO.mp z];rcases u with rfl|⟨rfl,h⟩
      ·exact .inr (.inl rfl)
      ·exact .inr (.inr rfl)
  refine⟨p,_,JO,jv,_,rfl,i1,cl,na "waits" (by simp),i5,dw,_,rfl,dz.k (k:=.inl (j:Int)) JN.ws,_,rfl,?_⟩;refine gy (λc=>?_) (λc=>?_)
  ·exact put mem.length (.inl rfl) (λ_=>rfl) rfl (λQv h=>h)
  ·have UW:j∉wt:=λz=>by
    rw[(JN.BC j).mpr z]at c;cases c
   refine .inl ⟨_,.inl (ai.of ah),.inr ⟨g,.inl al,_,rfl,?_⟩⟩;refine gy (λc2=>?_) (λc2=>?_)
   ·exact put mem.length (.inl rfl) (λ_=>rfl) rfl (λQv h=>h)
   ·exact put j (.inr ⟨rfl,UW⟩) (λz=>absurd z UW) rfl (λQv h=>h)
inductive NX (mg:Str->cv)(vs:bY)(H:Hp)(Q:VK)(bz:XK):Prop
 |mk (H0 Hs:Hp) (p lm dn lw dw D:Addr) (ms:cx) (mem:List aU) (kn:ca) (wt:cm) (kw kvs:ca) (at_:Nat) (W:aU) (F:List aj) (R:aU) (num:Str->Nat):vs=[.ref p,.ref D,fb at_]->vy 'j' H0 H p lm dn lw dw R num wt ms mem kn kw->mem[at_]? =some W->H D=eu kvs->D∉ms->jp Hs H kvs R (kg F R)->DH F R->xg F R num wt W []->(∀(dj:Str->Nat)(e_:cm)(yp:cx)(mem':List aU)(fc k_:ca)(U:Hp),vy 'j' H0 U p lm dn lw dw R dj e_ yp mem' fc k_->BB F R dj e_->qp lm dn lw dw ms yp H U->e_.length+mem.length=wt.length+mem'.length->mem.length<=mem'.length->Q .ao U)->NX mg vs H Q bz
set_option maxHeartbeats 2000000 in
theorem vD(T:Txt K mg w):bq P w K mg base 3 "part_by" ["parting","sources","at"] (NX mg):=by
 have nE:yj P w K mg base 2 'j' "part" ["self","rows"] (NQ mg):=mF T;have cl:=T.bG.2.1;have AD:=cl;have na:=T.bG.2.2.1;refine T.zU.gw cE ?_ ?_
 ·rintro _ _ _ _ ⟨H0,Hs,p,lm,dn,lw,dw,D,ms,ah,kn,wt,kw,ag,at_,W,g,R,num,rfl,_⟩;rfl
 ·rintro f bf A an s H vs Q E hr ⟨H0,Hs,p,lm,dn,lw,dw,D,ms,ah,kn,wt,kw,ag,at_,W,g,R,num,rfl,z0,wx,hD,nD,al,lo,pp,k⟩;obtain⟨hu,gk,hsz⟩:=d5 hr;have UQ:=lo.few;obtain⟨dx,fs,f1,f2,f3,f4,f5,f6⟩:=z0.s.f.ex;have ml:=z0.s.ml;obtain⟨hal,eal⟩:=yE.mp wx;obtain⟨wN,wne⟩:=z0.n.nd _ _ wx;have wR:∀x∈W,x∈R:=λx I=>((z0.n.mm _ _ wx x).mp I).1;have bp:W.length<=R.length:=cC wN wR;refine⟨_,(aE (aJ 3 cE.nd xM)
   (aE (cO PassesOwn.never rfl (xQ (aQ K (cT K (zv 0)) (zv 2))) (bL 4 cE.nd) (aF (cO PassesOwn.never rfl (jF K (bK hu (zv 1) (zv 4))) (cW K (n:=2) rfl (aM (bL 5 cE.nd) (aM (bL 6 cE.nd) bQ))) (aF (bZ (jG K QJ QK QL bF (zN hu (zv 3) (zv 5) (bV aC) ⟨rfl,rfl,rfl,rfl⟩) (aD (zv 6) aC)))))))
   (aF (cO PassesOwn.never rfl (sH (mT (Ix H (zv 3)))) (bL 7 cE.nd) (aE (aJ 8 cE.nd kQ)
   (aE (cO PassesOwn.never rfl (jF K (zv 7)) (bL 6 cE.nd) (aF (bZ (jG K QJ QK QL bF (pW (zv 8) (bK hu (cT K (zv 0)) (zv 6)) (bV aC) ⟨rfl,rfl,rfl,rfl⟩) (aD (zv 6) aC)))))
   (aF (cO PassesOwn.never rfl (FK (mT (zv 8))) (bL 9 cE.nd) (aF (bZ (l9 nE AD (hr.mono (by decide)) (zv 0) (aD (zv 9) aC)))))))))))),?_⟩
  obtain⟨kS,g1,g2⟩:=z0.s.d at_ (by lia) hal
  rw[eal]at g2;generalize hS:ms[at_]'(by lia)=S at g1;have BU:S∈ms:=by rw[<- hS];exact Qj _
  have Jj:D≠S:=λz=>nD (by rw[z];exact BU);have ap:kS.length=W.length:=by have:=congrArg List.length g2;simpa using this
  have Mc:(ms.map V.ref)[at_]? =aa S:=by rw[Qq,Qa (by lia),hS];rfl
  refine aI λF hF=>?_;have NY:F≠S:=λz=>by rw[z,g1]at hF;cases hF
  have sF:=ae.upd hF (.dT []);have gF:upd H F (.dT []) F=some (.dT []):=aA;have gN:∀b,b≠F->H b=none->upd H F (.dT []) b=none:=λb n e=>by rw[aB n];exact e
  (try dsimp only)
  generalize upd H F (.dT [])=Ha at sF gF gN
  let fk:aU->fe:=λs=>s.map Sum.inr
  have ar:∀a b,fk a=fk b->a=b:=λa b e=>(List.map_inj_right (λx y h=>eh h)).mp e;refine aL (λr t=>X5 fun(v4 v5 v6:cp)(o:Obj)(C:de)=>r=[aa p,aa D,some (fb at_),aa F,v4,v5,v6,none,none,none]/\t S=some (.af o (.dK kS))/\t F=some (.dT C)/\jq fk H t C (mq (mw g R W))/\∀b u,b≠S->H b=some u->t b=some u) ?_ ?_
  ·intro nx ck;refine⟨p,_,dx,fs,_,rfl,sF _ _ f1,cl,na "members" (by simp),f2,_,_,.inl (ai.of (sF _ _ z0.s.m)),dP Mc,S,kS,rfl,.inl (sF _ _ g1),λo=>?_⟩;have UX:jp Hs (upd Ha S (.af o (.dK kS))) ag R (kg g R):=(al.same sF).off (sF _ _ g1) ('n') (λ_ _ z=>nomatch z) ('n');have b1:upd Ha S (.af o (.dK kS)) S=some (.af o (.dK kS)):=aA;have b2:upd Ha S (.af o (.dK kS)) F=some (.dT []):=by rw[aB NY];exact gF
   have b3:upd Ha S (.af o (.dK kS)) D=eu ag:=by rw[aB Jj];exact sF _ _ hD
   have b4:∀b u,b≠S->H b=some u->upd Ha S (.af o (.dK kS)) b=some u:=λb u n e=>by rw[aB n];exact sF _ _ e
   have b5:∀b,upd Ha S (.af o (.dK kS)) b=none->H b=none:=λb e=>by
    by_cases n:b=S
    ·rw[n,b1]at e;cases e
    ·rw[aB n]at e;exact sF.free e
   have b6:∀b,b≠F->H b=none->upd Ha S (.af o (.dK kS)) b=none:=λb n e=>by
    rw[aB λz=>by rw[z,g1]at e;cases e];exact gN b n e
   generalize upd Ha S (.af o (.dK kS))=Hb at UX b1 b2 b3 b4 b5 b6;have nl:∀{l:Addr}{xs:bY}{t:Hp}{C:de},t F=some (.dT C)->t S=some (.af o (.dK kS))->t l=be xs->l≠F/\l≠S:=λY h2 h3=>⟨(λz=>by rw[z,Y]at h3;cases h3),(λz=>by rw[z,h2]at h3;cases h3)⟩
   have bs:W.length<=14:=by lia
   refine cB (tJ kS) (λi r t=>X4 fun(v4 v5 v6:cp)(C:de)=>r=[aa p,aa D,some (fb at_),aa F,v4,v5,v6,none,none,none]/\t S=some (.af o (.dK kS))/\t F=some (.dT C)/\jq fk H t C (mq (mw g R (W.take i)))/\∀b u,b≠F->Hb b=some u->t b=some u)
    ⟨none,none,none,[],rfl,b1,b2,jq.nil,λb u _ e=>e⟩ (by rintro i r t _ ⟨_,_,_,_,_,h,_⟩;exact h) ?_ ?_
   ·rintro i r t hi ⟨v4,v5,v6,C,rfl,c1,c2,c3,c4⟩;have NZ:i<W.length:=by lia
    have ek:jn kS i=.str W[i]:=by
     unfold jn;rw[Qa hi];have:(kS.map (·.1))[i]'(by simpa using hi)=(W.map Sum.inr)[i]'(by simpa using NZ):=by simp only[g2]
     rw[Qr,Qr]at this;show kV kS[i].1=_;rw[this];rfl
    rw[ek];have eW:=bB W i NZ;have UY:=wR _ (Qj NZ);have fh:=qC lo (W.take (i+1));have av:(W.take (i+1)).length<=14:=by rw[u9];lia
    rw[eW]at fh⊢;generalize W[i]=x at eW UY fh;have as:∀U:aU,mw g R (U++[x])=mw g R U++kg g R x:=λU=>by unfold mw;rw[List.flatMap_append];simp
    rw[as]at fh⊢;have fh:(mw g R (W.take i)++kg g R x).length<=14*1400:=jU fh (Nat.mul_le_mul_right _ (by rw[<- eW];exact av));obtain⟨q,hq,eq⟩:=Qi UY;have sl:=al.len;obtain⟨k1,l,O,k2,_,k4,k5⟩:=UX.at_ q (by lia) hq
    rw[eq]at k5;have aw:(ag.map (·.1)).Nodup:=by
     rw[al.keys];exact uT.mpr (lo.nd.imp λh e=>h (eh e))
    have gv:a_ ag (.inr x)=some (.ref l):=by
     rw[<- k2];refine gP aw ?_;have:ag[q]'(by lia)=(.inr x,(ag[q]'(by lia)).2):=by rw[<- eq,<- k1]
     rw[<- this];exact Qj _
    have ax:D≠F:=λz=>by rw[z,b2]at b3;cases b3
    have dg:=dz.k (k:=Sum.inr x) (c4 _ _ ax b3);rw[gv]at dg;have Fy:l≠F:=λz=>by rw[z,b2]at k4;cases k4
    refine⟨D,.ref l,rfl,dg,.inl ⟨⟨_,ai.of (c4 _ _ Fy k4)⟩,?_⟩⟩;have ul:=k5.len;refine cB (bI O) (λj r t=>X3 fun(v5 v6:cp)(C:de)=>r=[aa p,aa D,some (fb at_),aa F,cg x,v5,v6,none,none,none]/\t S=some (.af o (.dK kS))/\t F=some (.dT C)/\jq fk H t C (mq (mw g R (W.take i)++(kg g R x).take j))/\∀b u,b≠F->Hb b=some u->t b=some u)
     ⟨v5,v6,C,rfl,c1,c2,by simpa using c3,c4⟩ (by rintro j r t _ ⟨_,_,_,_,_,_,_,h⟩;exact ai.of (h _ _ Fy k4)) ?_ ?_
    ·rintro j r H5 hj ⟨w5,w6,C,rfl,d1,d2,d3,d4⟩;have UZ:j<(kg g R x).length:=by lia
     obtain⟨c,b,e1,e2,e3⟩:=k5.at_ j hj UZ
     have eg:O.getD j .ao=.ref c:=cX hj e1;rw[eg];have es:=bB _ j UZ;have wz:(mw g R (W.take i)++(kg g R x).take j).length<=14*1400:=by rw[Qk,u9]at*;lia
     rw[es,<- QQ,mV];generalize Fb:mw g R (W.take i)++(kg g R x).take j=ps at d3 wz;generalize(kg g R x)[j]=sa at e2 e3;have a5:c≠F:=λz=>by rw[z,b2]at e2;cases e2
     have gi:=BD ps;have a6:=d4 _ _ a5 e2;have a7:bj H5 b (sa.1.map V.str):=by
      rcases e3 with e|⟨u,e⟩
      ·exact .inl (d4 _ _ (λz=>by rw[z,b2]at e;cases e) e)
      ·exact .inr ⟨u,d4 _ _ (λz=>by rw[z,b2]at e;cases e) e⟩
     have f0:∀l,H5 l=none->H l=none:=λl e=>by
      cases el:H l with
      |none=>rfl
      |some u=>
       have n1:l≠S:=λz=>by rw[z,d1]at e;cases e
       have n2:l≠F:=λz=>by rw[z,d2]at e;cases e
       rw[d4 l u n2 (b4 l u n1 el)]at e;cases e
     have U0:C.length<=14*1400:=by rw[d3.len];exact jU gi.len wz
     refine⟨c,[.ref b,.str sa.2],rfl,ak.of a6,rfl,_,_,rfl,_,_,rfl,rfl,F,rfl,.inr ⟨C,.inl d2⟩,o_,λl hl=>?_⟩;have s6:=ae.upd hl (.lst []);have l6:upd H5 l (.lst []) l=be []:=aA;have n6:∀b,b≠l->H5 b=none->upd H5 l (.lst []) b=none:=λb n e=>by rw[aB n];exact e
     (try dsimp only)
     generalize upd H5 l (.lst [])=H6 at s6 l6 n6;have Fy:l≠F:=λz=>by rw[z,d2]at hl;cases hl
     have a8:l≠S:=λz=>by rw[z,d1]at hl;cases hl
     refine⟨C,fk sa.1,b,s6 _ _ d2,rfl,by rw[IR];exact a7.same s6,by lia,λv hv=>?_,λhv=>?_⟩
     ·obtain⟨l',xs,rfl,Y,h2,⟨q,hq,rfl⟩,h3⟩:=(d3.keep λl xs _ e=>s6 _ _ e).old ar gi.nd hv sa.2;obtain⟨m1,m2⟩:=nl (s6 _ _ d2) (s6 _ _ d1) h2;have:=gi.lens hq;refine⟨.inl ⟨rfl,_,ai.of h2⟩,l',_,_,rfl,rfl,h2,by rw[Ql];lia,_,_,C,rfl,by rw[aB m2.symm];exact s6 _ _ d1,by rw[aB m1.symm];exact s6 _ _ d2,h3,λb' u n e=>?_⟩;rw[aB λz=>by rw[z,b6 l' m1 Y]at e;cases e];exact s6 _ _ (d4 b' u n e)
     ·have l7:upd H6 F (.dT (C++[(fk sa.1,.ref l)])) l=be []:=by rw[aB Fy];exact l6
      refine⟨.inl ⟨rfl,_,ai.of l7⟩,l,_,_,rfl,rfl,l7,by simp;lia,_,_,C++[(fk sa.1,.ref l)],rfl,?_,?_,?_,λb' u n e=>?_⟩
      ·rw[aB a8.symm,aB NY.symm];exact s6 _ _ d1
      ·rw[aB Fy.symm,aA]
      ·refine d3.new hv sa.2 (f0 l hl) hl aA λl' xs _ e=>?_;rw[aB (λz=>by rw[z,hl]at e;cases e),aB (nl d2 d1 e).1];exact s6 _ _ e
      ·rw[aB (λz=>by rw[z,b6 l Fy (f0 l hl)]at e;cases e),aB n];exact s6 _ _ (d4 b' u n e)
    ·rintro r H5 ⟨w5,w6,C,rfl,d1,d2,d3,d4⟩;rw[ul,Qo]at d3;exact⟨_,_,_,C,rfl,d1,d2,d3,d4⟩
   ·rintro r t ⟨v4,v5,v6,C,rfl,c1,c2,c3,c4⟩;rw[ap,Qo]at c3;exact ck _ _ ⟨v4,v5,v6,o,C,rfl,c1,c2,c3,λb u n e=>c4 b u (λz=>by rw[z,hF]at e;cases e) (b4 b u n e)⟩
  rintro r H1 ⟨v4,v5,v6,o,C,rfl,a1,a2,a3,a4⟩;have sT:ae H (upd H1 S (.dK kS)):=λb u e=>by
   by_cases n:b=S
   ·subst n;rw[aA,<- g1];exact e
   ·rw[aB n];exact a4 b u n e
  have t2:upd H1 S (.dK kS) F=some (.dT C):=by rw[aB NY];exact a2
  have t3:jq fk H (upd H1 S (.dK kS)) C (mq (mw g R W)):=a3.keep λl xs _ e=>by
   rw[aB λz=>by rw[z,a1]at e;cases e];exact e
  refine⟨S,o,kS,a1,(λo u=>by rw[g1];exact λz=>nomatch z),F,rfl,.inr ⟨C,.inl t2,λoF=>⟨F,C,oF,rfl,aA,?_⟩⟩⟩;have sU:ae H (upd (upd H1 S (.dK kS)) F (.af oF (.dT C))):=sT.put hF;have uF:upd (upd H1 S (.dK kS)) F (.af oF (.dT C)) F=some (.af oF (.dT C)):=aA;have uG:jq fk H (upd (upd H1 S (.dK kS)) F (.af oF (.dT C))) C (mq (mw g R W)):=t3.keep λl xs _ e=>by
   rw[aB λz=>by rw[z,t2]at e;cases e];exact e
  generalize upd (upd H1 S (.dK kS)) F (.af oF (.dT C))=H2 at sU uF uG;have gi:=BD (mw g R W);generalize hL:mq (mw g R W)=L at uG gi;have led:∀q∈L,q.2.Nodup/\q.2.length<=R.length/\∀x,x∈q.2↔x∈R/\q.1∈stH (au g x)/\dl g x q.1∈W:=λq hq=>lo.led wN (by rw[hL];exact hq);have U0:=uG.len;have z2:=z0.same sU;have JP:∀{l:Addr},H l=none->l≠lm/\l≠lw:=λe=>⟨(λz=>by rw[z,z0.s.m]at e;cases e),(λz=>by rw[z,z0.s.w]at e;cases e)⟩
  have a9:F∉[lm,dn,lw,dw]++ms:=z2.s.off uF ('n') (JP hF).1 (JP hF).2;refine cB (pH C) (λi r t=>SQ fun(v6 v7 v8 v9:cp)(dj:Str->Nat)(e_:cm)(yp:cx)(ab:List aU)(fc k_:ca)=>r=[aa p,aa D,some (fb at_),aa F,v4,v5,v6,v7,v8,v9]/\vy 'j' H0 t p lm dn lw dw R dj e_ yp ab fc k_/\xg g R dj e_ W ((L.take i).map (·.1))/\qp lm dn lw dw ms yp H2 t/\e_.length+ah.length=wt.length+ab.length/\ah.length<=ab.length)
   ⟨v6,none,none,none,num,wt,ms,ah,kn,kw,rfl,z2,pp,qp.same (ae.refl _),rfl,Qz _⟩ (by rintro i r t _ ⟨_,_,_,_,_,_,_,_,_,_,_,_,_,fr,_⟩;exact fr.kp _ _ a9 uF) ?_ ?_
  ·rintro i r H3 hi ⟨v6,v7,v8,v9,dj,e_,yp,ab,fc,k_,rfl,z3,p3,zw,cn,mo⟩;have Cz:i<L.length:=by lia
   obtain⟨_,lr,e1,e2,e3⟩:=uG.at_ i hi Cz
   have ev:Ct C i=.ref lr:=by unfold Ct;rw[Qa hi,ln,e1];rfl
   rw[ev];have e4:=zw.kp _ _ (z2.s.off e3 ('n') (JP e2).1 (JP e2).2) e3;have Jy:=bB L i Cz;obtain⟨rn,rl,rm⟩:=led _ (Qj Cz);rw[Jy,Qm,hJ];generalize L[i]=q at e4 rn rl rm;obtain⟨s,rs⟩:=q;dsimp only at e4 rn rl rm;obtain⟨JO,jv,i1,i2,i3,i4,i5,i6⟩:=z3.s.f.ex;have U1:∀x∈rs,x∈R:=λx I=>((rm x).mp I).1
   let fn:Nat->Key:=λn=>Sum.inl (n:Int)
   have ba:∀a b,fn a=fn b->a=b:=λa b e=>Int.ofNat.inj (KI.i.inj (Sum.inl.inj e));refine aI λB hB=>?_;have sB:=ae.upd hB (.dK []);have gB:upd H3 B (.dK []) B=eu []:=aA
   (try dsimp only)
   generalize upd H3 B (.dK [])=H4 at sB gB;refine aL (λr t=>X2 fun(v6:cp)(N:ca)=>r=[aa p,aa D,some (fb at_),aa F,v4,v5,v6,aa lr,aa B,v9]/\t B=eu N/\jq fn H3 t N (mq (rs.map λa=>(dj a,a)))/\ae H3 t) ?_ ?_
   ·intro nx ck;refine .inl ⟨⟨_,ai.of (sB _ _ e4)⟩,?_⟩;refine cB (bI (rs.map V.str)) (λj r t=>X2 fun(v6:cp)(N:ca)=>r=[aa p,aa D,some (fb at_),aa F,v4,v5,v6,aa lr,aa B,v9]/\t B=eu N/\jq fn H3 t N (mq ((rs.take j).map λa=>(dj a,a)))/\ae H3 t)
     ⟨v6,[],rfl,gB,jq.nil,sB⟩ (by rintro j r t _ ⟨_,_,_,_,_,s⟩;exact ai.of (s _ _ e4)) ?_ ?_
    ·rintro j r H5 hj ⟨w6,N,rfl,d1,d2,d3⟩;rw[Ql]at hj;have eg:(rs.map V.str).getD j .ao=.str rs[j]:=by rw[Qb,Qq,Qa hj];rfl
     rw[eg,bB rs j hj,Qm,hJ,mV];have Hu:=U1 _ (Qj hj);generalize rs[j]=x at Hu;have BV:=BD ((rs.take j).map λa=>(dj a,a));have je:((rs.take j).map λa=>(dj a,a)).length<=14:=by rw[Ql,u9];lia
     generalize(rs.take j).map (λa=>(dj a,a))=ps at d2 BV je;have U3:N.length<=14:=by rw[d2.len];exact jU BV.len je
     have dg:=dz.k (k:=.inr x) z3.s.n;rw[z3.v x Hu]at dg;refine⟨B,rfl,.inl ⟨N,.inl d1⟩,p,_,JO,jv,_,rfl,d3 _ _ i1,cl,na "number" (by simp),i3,dn,_,rfl,dg.same d3,o_,λl hl=>?_⟩;have s6:=ae.upd hl (.lst []);have l6:upd H5 l (.lst []) l=be []:=aA
     (try dsimp only)
     generalize upd H5 l (.lst [])=H6 at s6 l6;have U4:l≠B:=λz=>by rw[z,d1]at hl;cases hl
     refine⟨N,fn (dj x),s6 _ _ d1,rfl,by lia,λv hv=>?_,λhv=>?_⟩
     ·obtain⟨l',xs,rfl,Y,h2,⟨q,hq,rfl⟩,h3⟩:=(d2.keep λl xs _ e=>s6 _ _ e).old ba BV.nd hv x;have m1:l'≠B:=λz=>by rw[z,s6 _ _ d1]at h2;cases h2
      have:=BV.lens hq;exact⟨.inl ⟨rfl,_,ai.of h2⟩,l',_,_,rfl,rfl,h2,by rw[Ql];lia,_,N,rfl,by rw[aB m1.symm];exact s6 _ _ d1,h3,(d3.trans s6).put Y⟩
     ·have l7:upd H6 B (.dK (N++[(fn (dj x),.ref l)])) l=be []:=by rw[aB U4];exact l6
      refine⟨.inl ⟨rfl,_,ai.of l7⟩,l,_,_,rfl,rfl,l7,by simp;lia,_,N++[(fn (dj x),.ref l)],rfl,?_,?_,((d3.trans s6).put hB).put (d3.free hl)⟩
      ·rw[aB U4.symm,aA]
      ·refine d2.new hv x (d3.free hl) hl aA λl' xs _ e=>?_;rw[aB (λz=>by rw[z,hl]at e;cases e),aB (λz=>by rw[z,d1]at e;cases e)];exact s6 _ _ e
    ·rintro r H5 ⟨w6,N,rfl,d1,d2,d3⟩;rw[Ql,Qo]at d2;exact ck _ _ ⟨w6,N,rfl,d1,d2,d3⟩
   rintro r H5 ⟨w6,N,rfl,d1,d2,d3⟩;refine⟨B,rfl,.inl ⟨N,.inl d1,λoB=>⟨B,N,rfl,.inl ⟨oB,aA,?_⟩⟩⟩⟩;have s5:ae H3 (upd H5 B (.af oB (.dK N))):=d3.put hB;have u1:upd H5 B (.af oB (.dK N)) B=some (.af oB (.dK N)):=aA;have u2:jq fn H3 (upd H5 B (.af oB (.dK N))) N (mq (rs.map λa=>(dj a,a))):=d2.keep λl xs _ e=>by
    rw[aB λz=>by rw[z,d1]at e;cases e];exact e
   generalize upd H5 B (.af oB (.dK N))=H6 at s5 u1 u2;have BV:=BD (rs.map λa=>(dj a,a));have gn:∀q∈mq (rs.map λa=>(dj a,a)),q.2.Nodup/\q.2.length<=rs.length/\∀x,x∈q.2↔x∈rs/\dj x=q.1:=λq hq=>Ae rn dj hq;generalize mq (rs.map λa=>(dj a,a))=G at u2 BV gn;have U3:=u2.len;have z6:=z3.same s5;have Fz:∀{l:Addr},H3 l=none->l≠lm/\l≠lw:=λe=>⟨(λz=>by rw[z,z3.s.m]at e;cases e),(λz=>by rw[z,z3.s.w]at e;cases e)⟩
   have bb:B∉[lm,dn,lw,dw]++yp:=z6.s.off u1 ('n') (Fz hB).1 (Fz hB).2;refine cB (sy N) (λj r t=>X7 fun(v9:cp)(BX:Str->Nat)(CM:cm)(ee:cx)(zh:List aU)(FA CN:ca)=>r=[aa p,aa D,some (fb at_),aa F,v4,v5,w6,aa lr,aa B,v9]/\vy 'j' H0 t p lm dn lw dw R BX CM ee zh FA CN/\xg g R BX CM W ((L.take i).map (·.1))/\vt R rs dj BX ((G.take j).map (·.1))/\qp lm dn lw dw yp ee H6 t/\CM.length+ah.length=wt.length+zh.length/\ah.length<=zh.length)
    ⟨v9,dj,e_,yp,ab,fc,k_,rfl,z6,p3,vt.nil,qp.same (ae.refl _),cn,mo⟩ (by rintro j r t _ ⟨_,_,_,_,_,_,_,_,_,_,_,fr,_⟩;exact fr.kp _ _ bb u1) ?_ ?_
   ·rintro j r H7 hj ⟨y9,BX,CM,ee,zh,FA,CN,rfl,z7,p7,tc,FD,N1,N4⟩;have Hv:j<G.length:=by lia
    obtain⟨_,la,r1,r2,r3⟩:=u2.at_ j hj Hv
    have ev:valAt N j=.ref la:=by unfold valAt;rw[Qa hj,ln,r1];rfl
    rw[ev];have r4:=FD.kp _ _ (z6.s.off r3 ('n') (Fz r2).1 (Fz r2).2) r3;have bd:=bB G j Hv;obtain⟨mn,U5,mm⟩:=gn _ (Qj Hv);have JQ:=BV.ne (Qj Hv);have D0:G[j].1∉(G.take j).map (·.1):=λhm=>by
     obtain⟨q,hq,e⟩:=Z2.mp hm;obtain⟨j',vn,rfl⟩:=Qi hq;have Rt:j'<j:=by simp at vn;lia
     rw[io]at e;have:(G.map (·.1))[j']'(by simp;lia)=(G.map (·.1))[j]'(by simpa using Hv):=by rw[Qr,Qr];exact e
     exact absurd ((jk BV.nd).mp this) (by lia)
    rw[bd,Qm,hJ];generalize G[j]=q at r4 mn U5 mm JQ D0;obtain⟨kk,many⟩:=q;dsimp only at r4 mn U5 mm JQ D0⊢;have FE:∀x∈many,x∈R/\dj x=kk:=λx I=>⟨U1 x ((mm x).mp I).1,((mm x).mp I).2⟩
    obtain⟨x0,rest,rfl⟩:=List.exists_cons_of_ne_nil JQ;obtain⟨N5,x0k⟩:=FE x0 (by simp);have am:∀x∈R,(BX x=kk↔dj x=kk):=λx I=>tc.at_ D0 N5 x0k I
    have JR:∀x∈x0::rest,BX x=kk:=λx I=>(am x (FE x I).1).mpr (FE x I).2;have GP:kk<zh.length:=by rw[<- JR x0 (by simp)];exact z7.n.lt x0 N5
    have Hw:zh[kk]? =some zh[kk]:=Qa GP;generalize zh[kk]=l2 at Hw;obtain⟨l2n,_⟩:=z7.n.nd _ _ Hw;have U6:=z7.n.mm _ _ Hw;have gb:∀x∈x0::rest,x∈l2:=λx I=>(U6 x).mpr ⟨(FE x I).1,JR x I⟩;obtain⟨Hx,Hy,j1,j2,j3,j4,j5,j6⟩:=z7.s.f.ex;have bt:=z7.n.few;have bv:=z7.wb;have bw:qp lm dn lw dw ms ee H2 H7:=zw.trans ((qp.same s5).trans FD);refine⟨p,Hx,Hy,rfl,j1,j6 "part" (by simp),H0,p,lm,dn,lw,dw,la,ee,zh,FA,CM,CN,x0,rest,kk,l2,rfl,z7.s,r4,(Fz r2).1,(Fz r2).2,mn,by lia,by lia,z7.kl,by lia,by rw[z7.v x0 N5,JR x0 (by simp)],Hw,l2n,gb,λx I=>by rw[z7.v x (FE x I).1];rfl,z7.wl,λbz=>?_,λd bh bi bk H8 ir hd U7 bl bm w1 w2 w3 w4 w5 kp=>?_⟩
    ·refine⟨_,BX,CM,ee,zh,FA,CN,rfl,z7,p7,tc.keep D0 λx I e=>?_,FD,N1,N4⟩;have bn:x∈l2:=(U6 x).mpr ⟨I,(am x I).mpr e⟩;refine((mm x).mp (px λn=>?_)).1;have:(x::x0::rest).length<=l2.length:=cC (uY.mpr ⟨n,mn⟩) λy hy=>by
      rcases Qp.mp hy with h|h
      ·rw[h];exact bn
      ·exact gb y h
     rw[dV]at this
     lia
    ·have z8:=z7.split Hw gb mn JQ ir U7 bl bm w5;have bo:qp lm dn lw dw ee (ee++[d]) H7 H8:=qp.of U7 rfl hd kp;refine⟨_,_,bi,_,_,bh,bk,rfl,z8,?_,tc.split D0 mm λx I=>yU (z7.n.lt x I),FD.trans bo,by simp only[Qk,lv,kb];lia,by simp only[Qk,lv,kb];lia⟩;exact p7.split (k:=kk) (λx I=>⟨(FE x I).1,JR x I⟩) (p7.cl tc mm rm lo.rc) (λx I=>yU (z7.n.lt x I)) lo.rc w1 w2 w3
   ·rintro r H7 ⟨y9,BX,CM,ee,zh,FA,CN,rfl,z7,p7,tc,FD,N1,N4⟩;rw[U3,Qo]at tc;refine⟨_,_,_,_,BX,CM,ee,zh,FA,CN,rfl,z7,p7.next λa ha b hb e hs=>?_,zw.trans ((qp.same s5).trans FD),N1,N4⟩;have ku:s∈stH (au g b):=by rw[<- show stH (au g a)=stH (au g b)from(p7.me a ha b hb e).2];exact hs
    have:=tc.fin (λx I=>(BV.ks _).mpr (Z2.mpr ⟨(dj x,x),Z2.mpr ⟨x,I,rfl⟩,rfl⟩)) ha hb e;rw[rm,rm]at this;exact⟨λh=>(this.mp ⟨ha,hs,h⟩).2.2,λh=>(this.mpr ⟨hb,ku,h⟩).2.2⟩
  ·rintro r H3 ⟨v6,v7,v8,v9,dj,e_,yp,ab,fc,k_,rfl,z3,p3,zw,cn,mo⟩;rw[U0,Qo]at p3;refine k dj e_ yp ab fc k_ H3 z3 (p3.fin λa ha s hs hd=>?_) ((qp.same sU).trans zw) cn mo;exact(gi.ks s).mpr (Z2.mpr ⟨(s,a),(kU lo).mpr ⟨ha,hs,hd⟩,rfl⟩)
inductive N6 (mg:Str->cv)(vs:bY)(H:Hp)(Q:VK)(bz:XK):Prop
 |mk (n r a:Addr) (xs:bY) (F:List aj) (ns ws R:aU):vs=[.ref n,.ref r]->AV H (cr mg "Net") n F->RT H a xs F ns ws->(∀z∈ws,Wd z)->H r=be (R.map V.str)->R.Nodup->(∀e∈R,gg F ns e)->(∀e∈R,∀m∈az F e,m.2∈R)->(∀(D:Addr)(kn:ca)(num:Str->Nat)(U:Hp),ae H U->U D=some (.dK kn)->(∀x∈R,a_ kn (.inr x)=some (fb (num x)))->(∀a∈R,∀b∈R,num a=num b↔d_ F F (a,b))->Q (.ref D) U)->N6 mg vs H Q bz
set_option maxHeartbeats 2000000 in
theorem kO(T:Txt K mg w):bq P w K mg base 4 "class_numbers" ["net","rows"] (N6 mg):=by
 have eE:yj P w K mg base 1 'j' "begin" ["self","rows"] (JK mg):=g9 T;have cP:yj P w K mg base 1 'j' "put_off" ["self","at"] (Hq mg):=fB T;have gJ:yj P w K mg base 1 'j' "take_waiting" ["self"] (NP mg):=gE T;have AD:=T.bG.2.1;have U8:=T.bG.2.2.1;have cl:=T.Au.2.1;have na:=T.Au.2.2.1;refine T.mE.gw bP ?_ ?_
 ·rintro _ _ _ _ ⟨n,r,a,xs,g,ns,ws,R,rfl,_⟩;rfl
 ·rintro f bf A ah s H vs Q E hr ⟨n,r,a,xs,g,ns,ws,R,rfl,AA,rt,hw,hR,BS,DZ,E8,k⟩;have hu:=dD hr;have gk:=Qy (dD hr);have DU:=kC hr;have al:=Nat.lt_of_le_of_lt (Nat.add_le_add_left (by decide:10<=20) _) DU;have a8:sizeLine=16777216:=QM;have lo:=rt.ab' hw BS DZ E8;have UQ:=lo.few;obtain⟨nx,N7,d1,d3,d4,y0,y1,y2,y3,y4,y5,y6,y7⟩:=(AA.RA (K:=K) (rt.xf hw)).at_
  refine⟨_,(aE (aJ 2 bP.nd (sw (uP T) (hr.mono (by decide))))
   (aE (aJ 3 bP.nd (Jn P w))
   (aE (cO PassesOwn.never rfl (jF K (zv 1)) (bL 4 bP.nd) (aF (bZ (jG K QJ QK QL bF (yG P w al (zv 3) (bK hu (cT K (zv 0)) (zv 4)) (bV aC) ⟨rfl,rfl,rfl,rfl⟩) (aD (zv 4) aC)))))
   (aE (cO PassesOwn.never rfl (Du P w (ut P w (zv 3))) (bL 5 bP.nd) (aF (bZ (l9 cP AD (hr.mono (by decide)) (zv 2) (aV (l9 eE AD (hr.mono (by decide)) (zv 2) (aD (zv 5) aC)) aC)))))
   (aE (aJ 6 bP.nd (aT (oV T) hr (aD (zv 0) (aD (zv 1) aC))))
   (aE (fK PassesOwn.never (FV K (cT K (zv 2))) (aF (bZ (aT (vD T) hr (aD (zv 2) (aD (zv 6) (aV (Kk gJ AD (hr.mono (by decide)) (zv 2)) aC)))))))
   (aF (aZ (cT K (zv 2)))))))))),?_⟩
  refine aI λp dx hp am ne=>?_;refine⟨p,dx,rfl,aA,λH0 H2 lm dn lw dw q1 q2 sx pt=>⟨rfl,?_⟩⟩;have N9:ae H H0:=λb o e=>by
   have nb:b≠p:=λz=>by rw[z,hp]at e;cases e
   have D7:b≠dx:=λz=>by rw[z,am]at e;cases e
   rw[q1 b nb,aB nb,aB D7];exact e
  clear q1 q2 sx
  (try dsimp only)
  refine aI λM hM=>?_;have sM:=ae.upd hM (iy P w M []);have gM:upd H2 M (iy P w M []) M=some (iy P w M []):=aA
  (try dsimp only)
  generalize upd H2 M (iy P w M [])=H3 at sM gM;have N_:ae H H2:=N9.trans pt.sm
  let fk:vp->List (Tv×V):=λxs=>xs.map λx=>(x.1,V.ref x.2.2)
  have an:∀xs:vp,(fk xs).map (·.1)=xs.map (·.1):=λxs=>by simp[fk,Qn,QC]
  refine aL (λt I=>X2 fun(v4:cp)(y:vp)=>t=[aa n,aa r,aa p,aa M,v4,none,none]/\I M=some (iy P w M y)/\jq (λd:Tv=>d) H2 I (fk y) (mq (R.map λa=>(gr (au g a),a)))/\ae H2 I) ?_ ?_
  ·intro Ff ck;refine .inl ⟨⟨_,ai.of (sM _ _ (N_ _ _ hR))⟩,?_⟩;refine cB (bI (R.map V.str)) (λj t I=>X2 fun(v4:cp)(y:vp)=>t=[aa n,aa r,aa p,aa M,v4,none,none]/\I M=some (iy P w M y)/\(∀p∈y,∃h,p.1=gr h/\Dy H p.2.1 h)/\jq (λd:Tv=>d) H2 I (fk y) (mq ((R.take j).map λa=>(gr (au g a),a)))/\ae H2 I)
    ⟨none,[],rfl,gM,(λ_ h=>nomatch h),jq.nil,sM⟩ (by rintro j t I _ ⟨_,_,_,_,_,_,s⟩;exact ai.of (s _ _ (N_ _ _ hR))) ?_ ?_
   ·rintro j t H5 hj ⟨w4,y,rfl,e1,e2,e3,e4⟩;rw[Ql]at hj;have eg:(R.map V.str).getD j .ao=.str R[j]:=by rw[Qb,Qq,Qa hj];rfl
    rw[eg,bB R j hj,Qm,hJ,mV];have Hu:=Qj hj;generalize R[j]=x at Hu;have gi:=BD ((R.take j).map λa=>(gr (au g a),a));have je:((R.take j).map λa=>(gr (au g a),a)).length<=14:=by rw[Ql,u9];lia
    generalize(R.take j).map (λa=>(gr (au g a),a))=ps at e3 gi je;have Oa:y.length<=14:=by have Y:=e3.len;rw[Ql]at Y;rw[Y];exact jU gi.len je
    obtain⟨b,z1,z2⟩:=y5 x (DZ x Hu);have BO:=N_.trans e4;have ap:E3 P w H5 M y:=⟨e1,λq hq=>by
     obtain⟨h,z3,z4⟩:=e2 q hq;rw[z3];exact(z4.same BO).td⟩
    refine⟨M,rfl,⟨y,ap⟩,n,_,nx,N7,_,rfl,BO _ _ y0,cl,na "marks" (by simp),y2,d3,_,rfl,z1.same BO,o_,λl hl=>?_⟩;have s6:=ae.upd hl (.lst []);have l6:upd H5 l (.lst []) l=be []:=aA
    (try dsimp only)
    generalize upd H5 l (.lst [])=H6 at s6 l6;have U9:l≠M:=λz=>by rw[z,e1]at hl;cases hl
    have ar:E3 P w H6 M y:=⟨s6 _ _ e1,λq hq=>by
     obtain⟨h,z3,z4⟩:=e2 q hq;rw[z3];exact(z4.same (BO.trans s6)).td⟩
    have as:((fk y).map (·.1)).Nodup:=by
     rw[e3.keys];exact gi.nd
    refine⟨y,gr (au g x),b,l,ar,rfl,rfl,(z2.same (BO.trans s6)).td,by lia,λq hq eq=>?_,λhv=>?_⟩
    ·have hv:a_ (fk y) (gr (au g x))=some (.ref q.2.2):=gP as (by rw[<- eq];exact Z2.mpr ⟨q,hq,rfl⟩);obtain⟨l',O,ev,Y,h2,⟨q',lh,rfl⟩,h3⟩:=(e3.keep λl xs _ e=>s6 _ _ e).old (f:=λd:Tv=>d) (λ_ _ z=>z) gi.nd hv x;have m1:l'≠M:=λz=>by rw[z,s6 _ _ e1]at h2;cases h2
     have:=gi.lens lh;rw[ev];exact⟨.inl ⟨rfl,_,ai.of h2⟩,l',_,_,rfl,rfl,h2,by rw[Ql];lia,_,y,rfl,by rw[aB m1.symm];exact s6 _ _ e1,e2,h3,(e4.trans s6).put Y⟩
    ·have FU:a_ (fk y) (gr (au g x))=none:=by
      cases hz:a_ (fk y) (gr (au g x))with
      |none=>rfl
      |some u=>exact absurd (by rw[<- an];exact gH hz) hv
     have l7:upd H6 M (iy P w M (y++[(gr (au g x),b,l)])) l=be []:=by rw[aB U9];exact l6
     refine⟨.inl ⟨rfl,_,ai.of l7⟩,l,_,_,rfl,rfl,l7,by simp;lia,_,y++[(gr (au g x),b,l)],rfl,?_,λq hq=>?_,?_,((e4.trans s6).put hM).put (e4.free hl)⟩
     ·rw[aB U9.symm,aA]
     ·rcases zH.mp hq with hq|hq
      ·exact e2 q hq
      ·rw[zO.mp hq];exact⟨_,rfl,z2⟩
     ·have ef:fk (y++[(gr (au g x),b,l)])=fk y++[(gr (au g x),.ref l)]:=by simp[fk]
      rw[ef];refine e3.new FU x (e4.free hl) hl aA λl' xs _ e=>?_;rw[aB (λz=>by rw[z,hl]at e;cases e),aB (λz=>by rw[z,e1]at e;cases e)];exact s6 _ _ e
   ·rintro t H5 ⟨w4,y,rfl,e1,e2,e3,e4⟩;rw[Ql,Qo]at e3;exact ck _ _ ⟨w4,y,rfl,e1,e3,e4⟩
  rintro t H5 ⟨w4,y,rfl,e1,e3,e4⟩;have gi:=BD (R.map λa=>(gr (au g a),a));have gq:∀q∈mq (R.map λa=>(gr (au g a),a)),q.2.Nodup/\q.2.length<=R.length/\∀x,x∈q.2↔x∈R/\gr (au g x)=q.1:=λq hq=>xc BS hq;generalize mq (R.map λa=>(gr (au g a),a))=L at e3 gi gq;have Ll:L.length<=14:=by have:=gi.len;rw[Ql]at this;lia
  have Oa:y.length=L.length:=by have:=e3.len;rwa [Ql]at this
  refine aL (λt I=>X4 fun(v5:cp)(G:cx)(N kw:ca)=>t=[aa n,aa r,aa p,aa M,w4,v5,none]/\vy 'j' H0 I p lm dn lw dw R (A0 g L) (List.range L.length) G (L.map (·.2)) N kw) ?_ ?_
  ·intro Ff ck;refine⟨M,y,rfl,e1,λo=>⟨M,y,o,rfl,aA,?_⟩⟩;have s5:ae H2 (upd H5 M (.af o (iy P w M y))):=e4.put hM;have u1:upd H5 M (.af o (iy P w M y)) M=some (.af o (iy P w M y)):=aA;have u2:jq (λd:Tv=>d) H2 (upd H5 M (.af o (iy P w M y))) (fk y) L:=e3.keep λl xs _ e=>by
    rw[aB λz=>by rw[z,e1]at e;cases e];exact e
   generalize upd H5 M (.af o (iy P w M y))=H6 at s5 u1 u2;have ab:∀{b:Addr},H2 b=none->b∉[lm,dn,lw,dw]:=fun{b}e z=>by
    simp only[Qp,QB,or_false]at z;rcases z with z|z|z|z
    ·rw[z,pt.m]at e;cases e
    ·rw[z,pt.n]at e;cases e
    ·rw[z,pt.w]at e;cases e
    ·rw[z,pt.ws]at e;cases e
   refine cB (yR y) (λj t I=>X4 fun(v5:cp)(G:cx)(N kw:ca)=>t=[some (.ref n),some (.ref r),some (.ref p),some (.ref M),w4,v5,none]/\kq 'j' H0 I p lm dn lw dw G ((L.take j).map (·.2)) N (List.range j) kw/\N.length<=14*j/\(∀i(hi:i<L.length),i<j->∀x∈L[i].2,a_ N (.inr x)=some (fb i))/\∀b o,b∉[lm,dn,lw,dw]->H6 b=some o->I b=some o)
    ⟨none,[],[],[],rfl,pt.same s5,by simp,(λi hi h=>absurd h (by lia)),λb o _ e=>e⟩ (by rintro j t I _ ⟨_,_,_,_,_,_,_,_,fr⟩;exact fr _ _ (ab hM) u1) ?_ ?_
   ·rintro j t H7 hj ⟨v5,G,N,kw,rfl,p7,c7,n7,f7⟩;have JS:j<L.length:=by lia
    have av:j<(fk y).length:=by simp[fk];lia
    obtain⟨_,la,r1,r2,r3⟩:=u2.at_ j av JS
    have ev:E4 y j=.ref la:=by
     unfold E4;rw[Qa hj];rw[<- r1];simp[fk]
    rw[ev];have Ob:=ab r2;have r4:=f7 _ _ Ob r3;obtain⟨mn,ml,mm⟩:=gq _ (Qj JS);obtain⟨Hx,Hy,j1,j2,j3,j4,j5,j6⟩:=p7.f.ex;simp only[Qp,QB,or_false,not_or]at Ob;have aw:((L.take j).map (·.2)).length=j:=by rw[Ql,u9];lia
    refine⟨p,Hx,Hy,rfl,j1,j6 "put_off" (by simp),p,Hx,Hy,rfl,j1,j6 "begin" (by simp),H0,p,lm,dn,lw,dw,la,G,_,N,List.range j,kw,L[j].2,rfl,p7,r4,Ob.1,mn,by lia,by lia,by lia,λd U_ H8 hd p8 v8 l8 _ f8=>?_⟩;rw[aw]at v8⊢;refine⟨H0,p,lm,dn,lw,dw,_,_,U_,List.range j,kw,j,rfl,p8,by simp,by simp;lia,λax H9 p9 f9=>⟨aa la,G++[d],U_,ax,rfl,?_,by lia,λi hi ye x hx=>?_,λb o nb e=>?_⟩⟩
    ·rw[bB L j JS,Qm,hJ,List.range_succ];exact p9
    ·rw[v8 x];by_cases U':i=j
     ·subst U';rw[if_pos hx]
     ·rw[if_neg λhz=>?_]
      ·exact n7 i hi (by lia) x hx
      ·have k1:=((gq _ (Qj hi)).2.2 x).mp hx;have k2:=(mm x).mp hz;exact U' ((mM gi hi k1.2).symm.trans (mM gi JS k2.2))
    ·have Cw:=nb;simp only[Qp,QB,or_false,not_or]at Cw;exact f9 b o Cw.2.2.1 Cw.2.2.2 (f8 b o Cw.1 Cw.2.1 (f7 b o nb e))
   ·rintro t H7 ⟨v5,G,N,kw,rfl,p7,c7,n7,f7⟩;rw[Oa,Qo]at p7;rw[Oa]at c7 n7;refine ck _ _ ⟨v5,G,N,kw,rfl,p7,yC BS gi gq,λx hx=>?_,by lia,λi hi=>by rw[Ql];exact Qag.mp hi⟩;obtain⟨Y,h2⟩:=iM gi hx;exact n7 _ Y Y x (((gq _ (Qj Y)).2.2 x).mpr ⟨hx,h2⟩)
  rintro t H7 ⟨v5,G,N,kw,rfl,z7⟩;have Oc:=yN gi lo.rc;have Va:(List.range L.length).length=(L.map (·.2)).length:=by simp
  generalize A0 g L=num at z7 Oc;generalize List.range L.length=wt at z7 Oc Va;generalize L.map (·.2)=C at z7 Va;have JT:ae H H7:=N9.trans z7.s.sm;obtain⟨Od,Oe,en,nf⟩:=AA;have a1:AV H7 (cr mg "Net") n g:=⟨Od,Oe,JT _ _ en,nf.same JT⟩
  refine aI ⟨n,r,a,xs,g,ns,ws,R,rfl,a1,rt.tk JT.ts,hw,JT _ _ hR,BS,DZ,E8,λD ks H8 hD s8 gD a2=>?_⟩
  (try dsimp only)
  have a3:D∉[p,lm,dn,lw,dw]++G:=λz=>by
   obtain⟨Hx,Hy,j1,_⟩:=z7.s.f.ex;rcases zH.mp z with z|z
   ·simp only[Qp,QB,or_false]at z;rcases z with z|z|z|z|z
    ·rw[z,j1]at hD;cases hD
    ·rw[z,z7.s.m]at hD;cases hD
    ·rw[z,z7.s.n]at hD;cases hD
    ·rw[z,z7.s.w]at hD;cases hD
    ·rw[z,z7.s.ws]at hD;cases hD
   ·obtain⟨i,hi,rfl⟩:=Qi z;obtain⟨kv,g1,_⟩:=z7.s.d i hi (by rw[<- z7.s.ml];exact hi);rw[g1]at hD;cases hD
  have D6:H7 lm≠none:=by rw[z7.s.m];exact λz=>nomatch z
  have AB:H7 lw≠none:=by rw[z7.s.w];exact λz=>nomatch z
  refine aL (λt I=>X5 fun(num:Str->Nat)(G:cx)(C:List aU)(N kw:ca)=>t=[aa n,aa r,aa p,aa M,w4,v5,aa D]/\vy 'j' H0 I p lm dn lw dw R num [] G C N kw/\BB g R num []) ?_ ?_
  ·intro Ff ck;refine⟨λmm t I=>X6 fun(num:Str->Nat)(wt:cm)(G:cx)(C:List aU)(N kw:ca)=>t=[aa n,aa r,aa p,aa M,w4,v5,aa D]/\vy 'j' H0 I p lm dn lw dw R num wt G C N kw/\BB g R num wt/\I D=eu ks/\D∉[p,lm,dn,lw,dw]++G/\jp H7 I ks R (kg g R)/\mm=2*(R.length-C.length)+wt.length,
    ⟨_,num,wt,G,C,N,kw,rfl,z7.same s8,Oc,gD,a3,a2,rfl⟩,?_⟩
   rintro mm t H9 ⟨num,wt,G,C,N,kw,rfl,z9,JU,a4,CO,a5,rfl⟩;obtain⟨JV,JW,j1,j2,j3,j4,j5,j6⟩:=z9.s.f.ex;refine⟨p,_,JV,JW,_,rfl,j1,AD,U8 "waiting" (by simp),j4,_,.inl ⟨_,ai.of z9.s.w,rfl⟩,?_⟩;refine gy (λc=>?_) (λc=>?_)
   ·have ir:wt≠[]:=λz=>by rw[z]at c;cases c
    obtain⟨JX,j,rfl⟩:X2 λJX j=>wt=JX++[j]:=⟨_,_,(List.dropLast_concat_getLast ir).symm⟩
    have BY:j<C.length:=z9.wl j (by simp);have Of:C[j]? =some C[j]:=Qa BY;generalize C[j]=W at Of;simp only[zH,Qp,QB,or_false,not_or]at CO;refine⟨_,λt I h=>h,?_⟩;refine⟨p,JV,JW,rfl,j1,j6 "take_waiting" (by simp),H0,p,lm,dn,lw,dw,G,C,N,JX,kw,j,rfl,z9.s,λk_ uz v_ Vb=>?_⟩;have Vc:jp H7 uz ks R (kg g R):=a5.R3 z9.s.m z9.s.w D6 AB λb o e nk n1 n2=>Vb b o n2 (λz=>by rw[z,z9.s.ws]at e;exact nk _ (QE e).symm) e;have Og:=Vb D _ CO.1.2.2.2.1 CO.1.2.2.2.2 a4;refine⟨H0,H7,p,lm,dn,lw,dw,D,G,C,N,JX,k_,ks,j,W,g,R,num,rfl,⟨v_,z9.n,z9.v,z9.kl,λi hi=>z9.wl i (zH.mpr (.inl hi))⟩,Of,Og,CO.2,Vc,lo,JU.take (at_:=j) (λi hi=>?_) (λx hx=>?_) lo.rc,λdj e_ yp ag fc CN xq A6 a6 Oh cn mo=>?_⟩
    ·rcases zH.mp hi with h|h
     ·exact .inl h
     ·exact .inr (zO.mp h)
    ·rw[z9.n.mm _ _ Of x];exact⟨λh=>h.2,λh=>⟨hx,h⟩⟩
    ·have a7:D∉[lm,dn,lw,dw]++G:=by
      simp only[zH,Qp,QB,or_false,not_or];exact⟨CO.1.2,CO.2⟩
     have few:=A6.n.few;refine⟨_,?_,dj,e_,yp,ag,fc,CN,rfl,A6,a6,Oh.kp D _ a7 Og,λz=>?_,Vc.R3 v_.m v_.w D6 AB λb o e nk n1 n2=>Oh.kp b o (v_.off e nk n1 n2) e,rfl⟩
     ·rw[Qk,kb];lia
     ·rcases zH.mp z with z|z
      ·simp only[Qp,QB,or_false]at z;exact absurd z (by simp only[not_or];exact CO.1)
      ·rcases Oh.nw D z with q|q
       ·exact CO.2 q
       ·rw[Og]at q;cases q
   ·have NR:wt=[]:=by
     cases wt with
     |nil=>rfl
     |cons _ _=>simp at c
    subst NR;exact ck _ _ ⟨num,G,C,N,kw,rfl,z9,JU⟩
  ·rintro t H9 ⟨num,G,C,N,kw,rfl,z9,JU⟩;obtain⟨JV,JW,j1,j2,j3,j4,j5,j6⟩:=z9.s.f.ex;exact⟨p,_,JV,JW,_,rfl,j1,AD,U8 "number" (by simp),j3,k dn N num H9 (N9.trans z9.s.sm) z9.s.n z9.v λa ha b hb=>JU.done lo.rc ha hb⟩
inductive Oi (mg:Str->cv)(vs:bY)(H:Hp)(Q:VK)(bz:XK):Prop
 |mk (n a:Addr) (xs:bY) (F:List aj) (ns ws:aU) (f:Str):vs=[.ref n,.str f]->AV H (cr mg "Net") n F->RT H a xs F ns ws->(∀z∈ws,Wd z)->gg F ns f->(∀(D:Addr)(kvs:ca)(i:Nat)(cb:kc)(U:Hp),H D=none->ae H U->U D=eu kvs->lu U kvs cb->BI F ns i cb->cb.length=i->cb=bu F f i->f∈cb.map (·.1)->Q (.ref D) U)->Oi mg vs H Q bz
set_option maxHeartbeats 2000000 in
theorem vC(T:Txt K mg w):bq P w K mg base 2 "reached" ["net","first"] (Oi mg):=by
 have cl:=T.Au.2.1;have na:=T.Au.2.2.1;refine T.a05.gw cS ?_ ?_
 ·rintro _ _ _ _ ⟨n,a,xs,b,ns,ws,f,rfl,_⟩;rfl
 ·rintro f bf A ab s H vs Q E hr ⟨n,a,xs,b,ns,ws,d,rfl,AA,rt,hw,hf,k⟩;obtain⟨hu,gk,hsz⟩:=d5 hr;have few:=rt.few;obtain⟨dx,fs,en,⟨_,_,_,⟨d4,o4,k4,e1,e2,e3⟩⟩⟩:=AA;generalize cr mg "Net"=C at*;have look:∀e,gg b ns e->X2 λm o=>dz H d4 (.str e) (some (.ref m))/\H m=some (.af o (.dT (jr b e))):=λe he=>by
   obtain⟨v,Y,m,o,rfl,h2⟩:=e3.get rt.Bu (rt.yf hw he).1;refine⟨m,o,by rw[<- Y];exact dz.rd (k:=Sum.inr e) (.inr ⟨o4,e2⟩),?_⟩;rw[lK he.2]at h2;exact h2
  refine⟨_,(aE (aJ 2 cS.nd (Zp (Zo (zv 1) xN Zn) rfl rfl (by simp) (by decide)))
   (aE (aJ 3 cS.nd (bV (aD (zv 1) aC)))
   (aE (aJ 4 cS.nd aH)
   (aE (fK PassesOwn.never (aP o7 (zv 4) (bJ (aY K) T.ph dv (aD (zv 3) aC))) (aE (aJ 5 cS.nd (aQ K (zv 3) (zv 4)))
   (aE (cO PassesOwn.never rfl (qB (bK hu (cT K (zv 0)) (zv 5))) (cW K (n:=2) rfl (aM (bL 6 cS.nd) (aM (bL 7 cS.nd) bQ))) (aF (dE (aP (kI hu) (zv 7) (zv 2) rfl) (aE (lF hu (zv 2) (zv 7) (bE (aD (zv 5) (aD (zv 6) aC))) rfl)
   (aF (bZ (jG K QJ QK QL bF (zv 3) (aD (zv 7) aC))))) bM)))
   (aF (rK (i:=4) cS.nd rfl (Or.inl rfl) aH Wu)))))
   (aF (aZ (zv 2))))))),?_⟩
  refine aI λD hD=>?_;have s1:=ae.upd hD (.dK []);refine⟨aA,[(.inr d,.ao)],rfl,(show 1<=15 by decide),?_⟩;have z1:upd (upd H D (.dK [])) D (.dK (Cc [] [(.inr d,.ao)])) D=eu [(.inr d,.ao)]:=aA;have s2:ae H (upd (upd H D (.dK [])) D (.dK (Cc [] [(.inr d,.ao)]))):=s1.put hD;generalize upd (upd H D (.dK [])) D (.dK (Cc [] [(.inr d,.ao)]))=H2 at z1 s2⊢;refine aI ⟨BE,λW hW=>?_⟩;have t2:=ae.upd hW (.lst [.str d]);have z2:upd H2 W (.lst [.str d]) W=be [.str d]:=aA;have Vd:W≠D:=λz=>by rw[z,z1]at hW;cases hW
  have Ve:=t2 _ _ z1;have ag:H W=none:=s2.free hW;generalize upd H2 W (.lst [.str d])=H3 at t2 z2 Ve⊢;have s3:=s2.trans t2;refine pL ?_;have b0:BI b ns 0 [(d,none)]:=⟨by simp,λc hc=>by rw[zO.mp hc];exact hf,λj c hj=>absurd hj (by lia)⟩
  refine aL (λp u=>X6 fun(v5 y G:cp)(i:Nat)(l:ca)(q:kc)=>p=[aa n,cg d,aa D,aa W,iq (i:Int),v5,y,G]/\u D=eu l/\lu u l q/\BI b ns i q/\q.length=i/\q=bu b d i/\d∈q.map (·.1)/\ae H u) ?_ ?_
  ·intro nx ck;refine⟨λr p u=>X6 fun(v5 y G:cp)(i:Nat)(l:ca)(q:kc)=>p=[aa n,cg d,aa D,aa W,iq (i:Int),v5,y,G]/\u D=eu l/\u W=be (q.map λc=>.str c.1)/\lu u l q/\BI b ns i q/\i<=q.length/\q=bu b d i/\d∈q.map (·.1)/\ae H u/\r=20-i,
    ⟨20,none,none,none,0,_,[(d,none)],rfl,Ve,z2,.cons ⟨rfl,rfl⟩ .nil,b0,by simp,rfl,by simp,s3,rfl⟩,?_⟩
   rintro r p H4 ⟨v5,y,G,i,l,q,rfl,q1,q2,q3,q4,q5,q6,q7,q8,rfl⟩;refine .inl ⟨_,.inl (ai.of q2),_,rfl,gy (λc=>?_) (λc=>?_)⟩
   ·have hi:i<q.length:=by have:=Qt c;simp at this;lia
    have am:=q4.few;refine⟨λp u=>X5 fun(v5 y G:cp)(l:ca)(q:kc)=>p=[aa n,cg d,aa D,aa W,iq ((i+1:Nat):Int),v5,y,G]/\u D=eu l/\u W=be (q.map λc=>.str c.1)/\lu u l q/\BI b ns (i+1) q/\i+1<=q.length/\q=bu b d (i+1)/\d∈q.map (·.1)/\ae H u,?_,?_⟩
    ·rintro p u ⟨v5,y,G,l,q,rfl,p1,p2,N,R,p5,p6,p7,p8⟩;exact⟨20-(i+1),by lia,v5,y,G,i+1,l,q,rfl,p1,p2,N,R,p5,p6,p7,p8,rfl⟩
    have JY:q[i]? =some q[i]:=Qa hi;have Fx:=q4.en _ (Qj hi);have EE:bu b d (i+1)=jg q[i].1 q (az b q[i].1):=by
     show(match(bu b d i)[i]? with|none=>bu b d i|some c=>jg c.1 (bu b d i) (az b c.1))=_;rw[<- q6,JY]
    have wx:(q.map λc=>V.str c.1)[i]? =some (.str q[i].1):=by rw[Qq,JY];rfl
    generalize q[i]=x at JY Fx EE wx;refine aI ⟨_,.str x.1,.inl (ai.of q2),dP wx,?_⟩;obtain⟨m,om,l1,l2⟩:=look _ Fx;have oe:(jr b x.1).length=(az b x.1).length:=by simp[jr]
    refine aL (λp u=>X4 fun(y G:cp)(l:ca)(t:kc)=>p=[aa n,cg d,aa D,aa W,iq (i:Int),some (.str x.1),y,G]/\u D=eu l/\u W=be (t.map λc=>.str c.1)/\lu u l t/\BI b ns (i+1) t/\i<t.length/\t=jg x.1 q (az b x.1)/\d∈t.map (·.1)/\ae H u) ?_ ?_
    ·intro r_ jw;refine⟨n,C,dx,fs,.ref d4,rfl,q8 _ _ en,cl,na "moves" (by simp),e1,d4,.ref m,rfl,l1.same q8,m,jr b x.1,om,rfl,q8 _ _ l2,?_⟩;refine o6 (λj p u=>X4 fun(y G:cp)(l:ca)(t:kc)=>p=[aa n,cg d,aa D,aa W,iq (i:Int),some (.str x.1),y,G]/\u D=eu l/\u W=be (t.map λc=>.str c.1)/\lu u l t/\BI b ns i t/\i<t.length/\t=jg x.1 q ((az b x.1).take j)/\t[i]? =some x/\(∀m∈(az b x.1).take j,m.2∈t.map (·.1))/\d∈t.map (·.1)/\ae H u)
      ⟨y,G,l,q,rfl,q1,q2,q3,q4,hi,rfl,JY,λm hm=>absurd hm (by simp),q7,q8⟩ (by rintro j p u _ ⟨_,_,_,_,_,_,_,_,_,_,_,_,_,_,s⟩;exact s _ _ l2) ?_ ?_
     ·rintro j p H5 TT cc hj ⟨w6,w7,g,t,rfl,p1,p2,N,R,p5,p6,p7,p8,p9,v_⟩ Hi rd;have CK:j<(az b x.1).length:=by lia
      have eo:(jr b x.1)[j]=((az b x.1)[j].1.map Sum.inr,.str (az b x.1)[j].2):=by simp[jr]
      rw[eo]at rd⊢;rw[IR]at rd;have Ao:=bB _ j CK;obtain⟨_,he⟩:=rt.LU hw Fx (Qj CK);rw[Ao];generalize(az b x.1)[j]=r at rd he Ao⊢;have gm:=ae.upd Hi (.tup [.ref cc,.str r.2])
      (try dsimp only)
      generalize upd H5 TT (.tup [.ref cc,.str r.2])=H6 at gm;have JZ:=gm _ _ p1;have Vf:=gm _ _ p2;have Vg:=N.same gm;have an:=R.few;have kl:g.length=t.length:=Paired.length N;refine⟨D,a_ g (.inr r.2),rfl,dz.k (k:=Sum.inr r.2) JZ,_,rfl,gy (λc=>?_) (λc=>?_)⟩
      ·have qz:r.2∉t.map (·.1):=by
        have Y:=N.GH r.2;intro z;rw[Y,Qw z]at c;simp at c
       have DY:a_ g (.inr r.2)=none:=by
        have Y:=N.GH r.2;rw[Qx qz]at Y;cases hv:a_ g (.inr r.2)with
        |none=>rfl
        |some v=>rw[hv]at Y;cases Y
       refine aL (λp u=>X2 λI L=>p=[aa n,cg d,aa D,aa W,iq (i:Int),some (.str x.1),aa cc,some (.str r.2)]/\ae H6 L/\L I=ff [.str x.1,.ref cc]/\u=upd L D (.dK (g++[(.inr r.2,.ref I)]))) ?_ ?_
       ·intro Hg Az;refine⟨jd,λI A3=>⟨D,_,rfl,yu.k (k:=Sum.inr r.2) (ae.upd A3 _ _ _ JZ) (by lia),Az _ _ ⟨I,_,rfl,ae.upd A3 _,aA,by rw[L2.cA _ DY]⟩⟩⟩
       ·rintro p H8 ⟨I,L,rfl,s7,e7,rfl⟩;have d7:=s7 _ _ JZ;have ah:=s7 _ _ Vf;have tk:Tk L (upd L D (.dK (g++[(.inr r.2,.ref I)]))):=(Tk.refl).set d7 'n';have i_:∀b' J,bj L b' J->bj (upd L D (.dK (g++[(.inr r.2,.ref I)]))) b' J:=λb' J h=>h.put d7 ('n') (λ_ _ z=>nomatch z);have r8:lu (upd L D (.dK (g++[(.inr r.2,.ref I)]))) (g++[(.inr r.2,.ref I)]) (t++[(r.2,some (x.1,r.1))]):=((Vg.same s7).keep tk i_).snoc (show ES _ _ (some (x.1,r.1))from⟨I,cc,rfl,tk _ _ e7,i_ _ _ (rd.same (gm.trans s7))⟩);have w8:upd L D (.dK (g++[(.inr r.2,.ref I)])) W=be (t.map λc=>.str c.1):=by rw[aB Vd];exact ah
        have d8:upd L D (.dK (g++[(.inr r.2,.ref I)])) D=eu (g++[(.inr r.2,.ref I)]):=aA;have Vh:ae H (upd L D (.dK (g++[(.inr r.2,.ref I)]))):=((v_.trans gm).trans s7).put hD;generalize upd L D (.dK (g++[(.inr r.2,.ref I)]))=H8 at tk i_ r8 w8 d8 Vh⊢;have G8:Tk H8 (upd H8 W (.lst ((t.map λc=>V.str c.1)++[.str r.2]))):=(Tk.refl).set w8 'n';have al:∀b' J,bj H8 b' J->bj (upd H8 W (.lst ((t.map λc=>V.str c.1)++[.str r.2]))) b' J:=λb' J h=>h.put w8 ('n') (λ_ _ z=>nomatch z);refine⟨.inl ⟨rfl,_,ai.of w8⟩,W,_,.str r.2,rfl,rfl,w8,by simp;lia,_,_,_,t++[(r.2,some (x.1,r.1))],rfl,by rw[aB Vd.symm];exact d8,?_,r8.keep G8 al,R.snoc (by lia) he qz,by simp;lia,?_,?_,?_,?_,Vh.put ag⟩
        ·rw[Qm];exact aA
        ·rw[fG,<- p6,if_neg qz]
        ·rw[Qg p5];exact p7
        ·intro m' uq;rw[Qm];rcases zH.mp uq with h|h
         ·exact zH.mpr (.inl (p8 m' h))
         ·rw[zO.mp h];exact zH.mpr (.inr (by simp))
        ·rw[Qm];exact zH.mpr (.inl p9)
      ·have gb:r.2∈t.map (·.1):=by
        have Y:=N.GH r.2;by_cases z:r.2∈t.map (·.1)
        ·exact z
        ·rw[Y,Qx z]at c;simp at c
       refine⟨_,_,g,t,rfl,JZ,Vf,Vg,R,p5,?_,p7,?_,p9,v_.trans gm⟩
       ·rw[fG,<- p6,if_pos gb]
       ·intro m' uq;rcases zH.mp uq with h|h
        ·exact p8 m' h
        ·rw[zO.mp h];exact gb
     ·rintro p H5 ⟨w6,w7,g,t,rfl,p1,p2,N,R,p5,p6,p7,p8,p9,v_⟩;rw[oe,Qo]at p6 p8;refine jw _ _ ⟨w6,w7,g,t,rfl,p1,p2,N,⟨R.nd,R.en,λj c hj hc=>?_⟩,p5,p6,p9,v_⟩;by_cases GJ:j=i
      ·subst GJ;rw[p7]at hc;cases hc;exact p8
      ·exact R.cl j c (by lia) hc
    ·rintro p H5 ⟨w6,w7,g,t,rfl,p1,p2,N,R,p5,p6,p9,v_⟩;exact⟨.int (i:Int),rfl,(i:Int),1,rfl,rfl,_,_,_,g,t,rfl,p1,p2,N,R,p5,by rw[EE];exact p6,p9,v_⟩
   ·have hi:q.length=i:=by have:=of_decide_eq_false c;simp at this;lia
    exact ck _ _ ⟨v5,y,G,i,l,q,rfl,q1,q3,q4,hi,q6,q7,q8⟩
  ·rintro p H4 ⟨v5,y,G,i,l,q,rfl,q1,q3,q4,q5,q6,q7,q8⟩;exact k D l i q H4 hD q8 q1 q3 q4 q5 q6 q7
theorem IN{O:bY}{F:List (Road×Str)}(h:FL H O F):FG H O (F.map (·.1)):=⟨by rw[h.len,Ql],λi d a=>by
 rw[Ql]at a;obtain⟨c,b,J,e1,e2,e3,e4⟩:=h.at_ i d a
 exact⟨c,b,J,_,e1,e2,e3,by rw[Qr];exact e4⟩⟩
inductive Oj (vs:bY)(H:Hp)(Q:VK)(bz:XK):Prop
 |mk (a:Addr) (xs:bY) (F:List aj) (ns ws:aU) (x:Str):vs=[.ref a,.str x]->RT H a xs F ns ws->(∀z∈ws,Wd z)->gg F ns x->(∀(L:Addr)(i:Nat)(U:Hp),H L=none->ae H U->U L=be ((bc F x i).map V.str)->(bc F x i).length=i->Q (.ref L) U)->Oj vs H Q bz
set_option maxHeartbeats 4000000 in
theorem vM(T:Txt K mg w):bq P w K mg base 4 "_law_met" ["_law_told","_law_name"] Oj:=by
 refine T.zI.gw cG ?_ ?_
 ·rintro _ _ _ _ ⟨a,xs,o,ns,ws,x,rfl,_⟩;rfl
 ·rintro f bf A af s H vs Q E hr ⟨a,xs,o,ns,ws,e0,rfl,rt,hw,qw,k⟩;have hu:=dD hr;have gk:=Qy (dD hr);have DU:=kC hr;have aw:sizeLine=16777216:=QM;have few:=rt.few;have ag:∀e,e∈ns->(az o e).length<=10:=λe he=>rt.Cr hw he;refine⟨_,(aE (aJ 2 cG.nd (bV (bC (bE (bC (bE aC) (aD (zv 1) aC))) aC)))
   (aE (aJ 3 cG.nd kQ)
   (aE (fK PassesOwn.never (aP (oP gk) (zv 2) (bV aC)) (aE (aJ 4 cG.nd (bV aC))
   (aE (cO PassesOwn.never rfl (jF K (zv 2)) (cW K (n:=2) rfl (aM (bL 5 cG.nd) (aM (bL 6 cG.nd) bQ))) (aF (dE (aP (kI hu) (zv 6) (zv 3) rfl) (aE (lF hu (zv 3) (zv 6) (zv 5) rfl)
   (aF (cO PassesOwn.never rfl (jF K (aT (pC T) hr (aD (zv 0) (aD (zv 6) aC)))) (cW K (n:=2) rfl (aM (bL 7 cG.nd) (aM (bL 8 cG.nd) bQ))) (aF (bZ (jG K QJ QK QL bF (zv 4) (bC (bE (fV (bW (rO K) (zv 5) (bE (aD (zv 7) aC))) (aD (zv 8) aC))) aC))))))) bM)))
   (aF (aJ 2 cG.nd (bJ (jN DU) T.tO PyProof.Rows.boot_sorted (aD (zv 4) aC)))))))
   (aF (aZ (fQ (pQ rfl) T.qJ pk (aD (zv 3) aC))))))),?_⟩
  refine aI ⟨o_,λT0 JB=>?_⟩;have u0:=ae.upd JB (.tup []);have x0:upd H T0 (.tup []) T0=ff []:=aA;generalize upd H T0 (.tup [])=J0 at u0 x0⊢;refine⟨jd,λT1 DT=>⟨BE,λLa Fp=>?_⟩⟩;have u2:=ae.upd DT (.tup [.ref T0,.str e0]);have x2:upd J0 T1 (.tup [.ref T0,.str e0]) T1=ff [.ref T0,.str e0]:=aA;generalize upd J0 T1 (.tup [.ref T0,.str e0])=J2 at u2 x2 Fp⊢;have u3:=ae.upd Fp (.lst [.ref T1]);have x3:upd J2 La (.lst [.ref T1]) La=be [.ref T1]:=aA;generalize upd J2 La (.lst [.ref T1])=J3 at u3 x3⊢;have Vi:ae H J3:=(u0.trans u2).trans u3;have ME:FL J3 [.ref T1] [([],e0)]:=FL.nil.snoc (q:=([],e0)) (u3 _ _ x2) ((u2.trans u3) _ _ x0) SV.nil;refine aI λF hF=>?_;have u4:=ae.upd hF (.dK []);have x4:upd J3 F (.dK []) F=eu []:=aA;have Nk:H F=none:=Vi.free hF;generalize upd J3 F (.dK [])=J4 at u4 x4⊢;have ah:=Vi.trans u4;refine aL (λr D=>X9 fun(v2 v4 v5 v6 I R:cp)(C:ca)(g:LR)(i:Nat)=>r=[aa a,cg e0,v2,aa F,v4,v5,v6,I,R]/\D F=eu C/\ly D C g/\QI o e0 i g []/\g.length=i/\ae H D) ?_ ?_
  ·intro nx ck;refine⟨λmm r D=>Jf fun(v4 v5 v6 I R:cp)(Lr:Addr)(O:bY)(P:List (Road×Str))(C:ca)(g:LR)(i len:Nat)=>r=[aa a,cg e0,aa Lr,aa F,v4,v5,v6,I,R]/\D F=eu C/\ly D C g/\D Lr=be O/\FL D O P/\QI o e0 i g P/\g.length=i/\(P.Pairwise λp p'=>ou p.1 p'.1)/\(∀q∈P,gg o ns q.2/\q.1.length=len)/\len+mm<=100/\i<=14/\ae H D/\(mm=2*(20-i)+if P=[]then 0 else 1),
    ⟨_,none,none,none,none,none,La,[.ref T1],[([],e0)],[],[],0,0,rfl,x4,.nil,u4 _ _ x3,ME.same u4,QI.start o e0,rfl,List.pairwise_singleton _ _,λq hq=>by rw[zO.mp hq];exact⟨qw,rfl⟩,by simp,by lia,ah,rfl⟩,?_⟩
   rintro mm r H5 ⟨v4,v5,v6,I,R,Lr,O,P,C,g,i,len,rfl,q1,q2,q3,q4,q5,q6,q7,q8,q9,al,Ax,rfl⟩;have Ay:=q4.len;refine⟨o_,λl0 ig=>?_⟩;have w1:=ae.upd ig (.lst []);have w2:upd H5 l0 (.lst []) l0=be []:=aA;have Nl:Lr≠l0:=λz=>by rw[<- z,q3]at ig;cases ig
   generalize upd H5 l0 (.lst [])=H6 at w1 w2⊢;refine⟨Nl,O,w1 _ _ q3,w2,_,rfl,gy (λc=>?_) (λc=>?_)⟩
   ·have hP:P≠[]:=λz=>by
     rw[z]at Ay;rw[QS Ay]at c;simp at c
    rw[if_neg hP]at q9⊢;have q1:=w1 _ _ q1;have q2:=q2.same w1;have q3:=w1 _ _ q3;have q4:=q4.same w1;have Ax:=Ax.trans w1;refine⟨λr D=>SR fun(v4 v5 v6 I R:cp)(Lr:Addr)(O:bY)(P:List (Road×Str))(C:ca)(g:LR)(G:Nat)=>r=[aa a,cg e0,aa Lr,aa F,v4,v5,v6,I,R]/\D F=eu C/\ly D C g/\D Lr=be O/\FL D O P/\QI o e0 G g P/\g.length=G/\(P.Pairwise λp p'=>ou p.1 p'.1)/\(∀q∈P,gg o ns q.2/\q.1.length=len+1)/\P.length<=10*(G-i)/\i<=G/\G<=14/\ae H D,?_,?_⟩
    ·rintro r D ⟨v4,v5,v6,I,R,Lr,O,P2,C,g,G,rfl,z1,z2,z3,z4,z5,z6,z7,z8,z9,FF,A6,D8⟩;have BL:(2*(20-G)+if P2=[]then 0 else 1)<2*(20-i)+1:=by
      by_cases h0:G=i
      ·have:P2=[]:=QS (by lia);rw[if_pos this];lia
      ·split<;>lia
     exact⟨_,BL,v4,v5,v6,I,R,Lr,O,P2,C,g,G,len+1,rfl,z1,z2,z3,z4,z5,z6,z7,z8,by lia,A6,D8,rfl⟩
    refine aI ⟨o_,λLt yk=>?_⟩;have w3:=ae.upd yk (.lst []);have w4:upd H6 Lt (.lst []) Lt=be []:=aA;have Nm:H Lt=none:=Ax.free yk;have G_:Lt≠F:=λz=>by rw[z,q1]at yk;cases yk
    have Nn:Lt≠Lr:=λz=>by rw[z,q3]at yk;cases yk
    have Np:F≠Lr:=λz=>by rw[z,q3]at q1;cases q1
    generalize upd H6 Lt (.lst [])=H7 at w3 w4⊢;refine aL (λr D=>X9 fun(v5 v6 I R:cp)(g_:bY)(N:List (Road×Str))(C:ca)(g:LR)(G:Nat)=>r=[aa a,cg e0,aa Lr,aa F,aa Lt,v5,v6,I,R]/\D F=eu C/\ly D C g/\D Lt=be g_/\FL D g_ N/\QI o e0 G g N/\g.length=G/\(N.Pairwise λp p'=>ou p.1 p'.1)/\(∀p∈N,gg o ns p.2/\p.1.length=len+1)/\N.length<=10*(G-i)/\i<=G/\G<=14/\ae H D) ?_ ?_
    ·intro r_ jw;refine .inl ⟨⟨O,ai.of (w3 _ _ q3)⟩,?_⟩;refine cB (bI O) (λj r D=>X9 fun(v5 v6 I R:cp)(g_:bY)(N:List (Road×Str))(C:ca)(g:LR)(G:Nat)=>r=[aa a,cg e0,aa Lr,aa F,aa Lt,v5,v6,I,R]/\D F=eu C/\ly D C g/\D Lt=be g_/\FL D g_ N/\QI o e0 G g (P.drop j++N)/\g.length=G/\(N.Pairwise λp p'=>ou p.1 p'.1)/\(∀p∈N,(gg o ns p.2/\p.1.length=len+1)/\∃q'∈P.take j,∃s,p.1=q'.1++[s])/\N.length<=10*(G-i)/\i<=G/\G<=14/\D Lr=be O/\FL D O P/\ae H D)
      ⟨v5,v6,I,R,[],[],C,g,i,rfl,w3 _ _ q1,q2.same w3,w4,FL.nil,by simpa using q5,q6,.nil,(λp hp=>nomatch hp),by simp,Qz _,al,w3 _ _ q3,q4.same w3,Ax.trans w3⟩ (by rintro j r D _ ⟨_,_,_,_,_,_,_,_,_,_,_,_,_,_,_,_,_,_,_,_,_,h,_⟩;exact ai.of h) ?_ ?_
     ·rintro j r H8 hj ⟨v5,v6,I,R,g_,N,V,AE,G,rfl,z1,z2,z3,z4,z5,z6,z7,z8,z9,FF,A6,D8,J7,J8⟩;have CI:j<P.length:=by lia
      obtain⟨c,b,J,c1,c2,c3,c4⟩:=J7.at_ j hj CI
      have eg:O.getD j .ao=.ref c:=cX hj c1;rw[eg];rw[QN CI,hE]at z5;obtain⟨Hz,Vj⟩:=q8 _ (Qj CI);have am:=bB P j CI;have Vk:∀q'∈P.take j,ou q'.1 P[j].1:=λq' lh=>by
       obtain⟨i',gp,e'⟩:=Qi lh;rw[u9]at gp;rw[io]at e';rw[<- e'];exact uW.mp q7 i' j (by lia) CI (by lia)
      rw[am];generalize P[j]=q at c2 c4 z5 Hz Vj Vk;refine fI c2 ?_;have u_:(a_ V (.inr q.2)).isSome=decide (q.2∈AE.map (·.1)):=z2.GH q.2;have NS:V.length=G:=by rw[<- z6];exact Paired.length z2
      refine⟨F,a_ V (.inr q.2),rfl,dz.k (k:=Sum.inr q.2) z1,_,rfl,gy (λcc=>?_) (λcc=>?_)⟩
      ·have qz:q.2∉AE.map (·.1):=λz=>by
        rw[u_,Qw z]at cc;simp at cc
       have DY:a_ V (.inr q.2)=none:=by
        rw[Qx qz]at u_;cases hv:a_ V (.inr q.2)with
        |none=>rfl
        |some v=>rw[hv]at u_;cases u_
       obtain⟨Vl,ben⟩:=rt.Rz hw qw G;obtain⟨av,qn⟩:=QI.new Vl z5 qz;have i7:G+1<=14:=by
        have Y:=dO Vl (m:=ns) λy hy=>by
         obtain⟨c',xw,rfl⟩:=Z2.mp hy;exact(ben c' xw).1
        rw[Ql]at Y
        lia
       have o8:=ag _ Hz.1;have an:=rt.abl hw Hz.1;refine aL (λr D=>r=[aa a,cg e0,aa Lr,aa F,aa Lt,aa b,some (.str q.2),I,R]/\D=upd H8 F (.dK (V++[(.inr q.2,.ref b)]))) (λHg Az=>⟨F,_,rfl,yu.k (k:=Sum.inr q.2) z1 (by lia),Az _ _ ⟨rfl,by rw[L2.cA _ DY]⟩⟩) ?_;rintro r H9 ⟨rfl,rfl⟩;have tk:Tk H8 (upd H8 F (.dK (V++[(.inr q.2,.ref b)]))):=(Tk.refl).set z1 'n';have i_:∀b' J,bj H8 b' J->bj (upd H8 F (.dK (V++[(.inr q.2,.ref b)]))) b' J:=λb' J h=>h.put z1 ('n') (λ_ _ z=>nomatch z);have y1:upd H8 F (.dK (V++[(.inr q.2,.ref b)])) F=eu (V++[(.inr q.2,.ref b)]):=aA;have y2:ly (upd H8 F (.dK (V++[(.inr q.2,.ref b)]))) (V++[(.inr q.2,.ref b)]) (AE++[(q.2,q.1)]):=(z2.keep tk i_).snoc (tk _ _ c3) (c4.keep i_);have y3:upd H8 F (.dK (V++[(.inr q.2,.ref b)])) Lt=be g_:=by rw[aB G_];exact z3
       have y4:=z4.keep tk i_;have y5:upd H8 F (.dK (V++[(.inr q.2,.ref b)])) Lr=be O:=by rw[aB Np.symm];exact D8
       have y6:=J7.keep tk i_;have y7:=tk _ _ c3;have y8:=c4.keep i_;have y9:ae H (upd H8 F (.dK (V++[(.inr q.2,.ref b)]))):=J8.put Nk;generalize upd H8 F (.dK (V++[(.inr q.2,.ref b)]))=H9 at y1 y2 y3 y4 y5 y6 y7 y8 y9⊢;clear tk i_;refine⟨a,xs,o,ns,ws,q.2,rfl,rt.tk y9.ts,hw,Hz.1,λL ms uz hL gm eL mv=>.inl ⟨⟨ms,ai.of eL⟩,?_⟩⟩;have ml:=mv.len;have ap:L≠Lt:=λz=>by rw[z,y3]at hL;cases hL
       refine cB (bI ms) (λt r D=>X3 fun(I R:cp)(oq:bY)=>r=[aa a,cg e0,aa Lr,aa F,aa Lt,aa b,some (.str q.2),I,R]/\D Lt=be oq/\FL D oq (N++((az o q.2).take t).map λm=>(q.1++[m.1],m.2))/\D F=eu (V++[(.inr q.2,.ref b)])/\ly D (V++[(.inr q.2,.ref b)]) (AE++[(q.2,q.1)])/\D Lr=be O/\FL D O P/\D b=ff J/\SV D J q.1/\ae H D/\D L=be ms/\Tk uz D)
        ⟨I,R,g_,rfl,gm _ _ y3,by simpa using y4.same gm,gm _ _ y1,y2.same gm,gm _ _ y5,y6.same gm,gm _ _ y7,y8.same gm,y9.trans gm,eL,Tk.refl⟩ (by rintro t r D _ ⟨_,_,_,_,_,_,_,_,_,_,_,_,_,h,_⟩;exact ai.of h) ?_ ?_
       ·rintro t r xq ht ⟨I,R,oq,rfl,x1,x2,x3,x4,x5,x6,x7,x8,x9,JG,Ft⟩;have NF:t<(az o q.2).length:=by lia
        obtain⟨d,bb,m1,m2,m3⟩:=mv.at_ t ht NF
        have NG:ms.getD t .ao=.ref d:=cX ht m1;rw[NG];have NH:=x2.len;rw[Qk,Ql,u9]at NH;have ar:=bB _ t NF;rw[ar,Qm,<- QQ];generalize(az o q.2)[t]=mm at m2 m3;refine fI (Ft _ _ m2) ?_;have ax:=x8.len;refine⟨.inl ⟨rfl,_,ai.of x1⟩,BE,λT8 A3=>?_⟩;have ab:=ae.upd A3 (.tup [.ref bb]);have zg:upd xq T8 (.tup [.ref bb]) T8=ff [.ref bb]:=aA
        (try dsimp only)
        generalize upd xq T8 (.tup [.ref bb])=yn at ab zg;refine LL (ab _ _ x7) zg (by simp;lia) λfr xr A7 as=>⟨jd,λT9 NJ=>?_⟩
        have ua:=ae.upd NJ (.tup [.ref fr,.str mm.2]);have HA:upd xr T9 (.tup [.ref fr,.str mm.2]) T9=ff [.ref fr,.str mm.2]:=aA;generalize upd xr T9 (.tup [.ref fr,.str mm.2])=yo at ua HA;have sA:=(ab.trans A7).trans ua;have Ol:=sA _ _ x1;have tk:Tk yo (upd yo Lt (.lst (oq++[.ref T9]))):=(Tk.refl).set Ol 'n';have i_:∀b' J,bj yo b' J->bj (upd yo Lt (.lst (oq++[.ref T9]))) b' J:=λb' J h=>h.put Ol ('n') (λ_ _ z=>nomatch z);refine⟨Lt,oq,.ref T9,rfl,rfl,Ol,by lia,_,_,oq++[.ref T9],rfl,aA,?_,by rw[aB G_.symm];exact sA _ _ x3,(x4.same sA).keep tk i_,by rw[aB Nn.symm];exact sA _ _ x5,(x6.same sA).keep tk i_,tk _ _ (sA _ _ x7),(x8.same sA).keep i_,(x9.trans sA).put Nm,by rw[aB ap];exact sA _ _ JG,(Ft.trans sA.ts).trans tk⟩;refine((x2.same sA).keep tk i_).snoc (q:=(q.1++[mm.1],mm.2)) (tk _ _ HA) (tk _ _ (ua _ _ as)) (SV.keep ?_ i_);exact(x8.same sA).append (SV.one (.inl ((Ft.trans sA.ts) _ _ m3)))
       ·rintro r xq ⟨I,R,oq,rfl,x1,x2,x3,x4,x5,x6,x7,x8,x9,JG,Ft⟩;rw[ml,Qo]at x2;refine⟨_,_,_,_,oq,_,_,_,G+1,rfl,x3,x4,x1,x2,by rw[<- QQ];exact qn,by simp[z6],Db z7 (λp hp=>?_) an,λp hp=>?_,?_,by lia,i7,x5,x6,x9⟩
        ·obtain⟨_,q',lh,s',e'⟩:=z8 p hp;exact⟨q'.1,s',e',Vk q' lh⟩
        ·rcases zH.mp hp with h|h
         ·obtain⟨g1,q',lh,s',e'⟩:=z8 p h;exact⟨g1,q',zH.mpr (.inl lh),s',e'⟩
         ·obtain⟨m,uq,rfl⟩:=Z2.mp h;exact⟨⟨(rt.LU hw Hz uq).2,by simp[Vj]⟩,q,zH.mpr (.inr (by simp)),m.1,rfl⟩
        ·rw[Qk,Ql];lia
      ·have gb:q.2∈AE.map (·.1):=by
        by_cases z:q.2∈AE.map (·.1)
        ·exact z
        ·rw[u_,Qx z]at cc;simp at cc
       exact⟨_,_,_,_,g_,N,V,AE,G,rfl,z1,z2,z3,z4,z5.old gb,z6,z7,λp hp=>by obtain⟨g1,q',lh,s',e'⟩:=z8 p hp;exact⟨g1,q',zH.mpr (.inl lh),s',e'⟩,z9,FF,A6,D8,J7,J8⟩
     ·rintro r H8 ⟨v5,v6,I,R,g_,N,V,AE,G,rfl,z1,z2,z3,z4,z5,z6,z7,z8,z9,FF,A6,D8,J7,J8⟩;rw[Ay,List.drop_length,iQ]at z5;exact jw _ _ ⟨v5,v6,I,R,g_,N,V,AE,G,rfl,z1,z2,z3,z4,z5,z6,z7,λp hp=>(z8 p hp).1,z9,FF,A6,J8⟩
    ·rintro r H8 ⟨v5,v6,I,R,g_,N,V,AE,G,rfl,z1,z2,z3,z4,z5,z6,z7,z8,z9,FF,A6,D8⟩;have nl:=z4.len;refine⟨Lt,g_,N.map (·.1),rfl,z3,by lia,IN z4,λj hj=>?_,λL hL=>?_⟩
     ·rw[Ql]at hj;rw[Qr,Qr];exact uW.mp z7 j (j+1) (by lia) hj (by lia)
     ·have w5:=ae.upd hL (.lst g_);exact⟨_,_,_,_,_,L,g_,N,V,AE,G,rfl,w5 _ _ z1,z2.same w5,aA,z4.same w5,z5,z6,z7,z8,z9,FF,A6,D8.trans w5⟩
   ·have hP:P=[]:=by
     cases O with
     |nil=>exact QS (by simpa using Ay.symm)
     |cons u O=>simp at c
    subst hP;exact ck _ _ ⟨_,v4,v5,v6,I,R,C,g,i,rfl,w1 _ _ q1,q2.same w1,q5,q6,Ax.trans w1⟩
  ·rintro r H5 ⟨v2,v4,v5,v6,I,R,C,g,i,rfl,q1,q2,q3,q4,q5⟩;obtain⟨hl,hfd⟩:=q3.fin q4;refine⟨F,C,rfl,.inl q1,λl Vm=>?_⟩;refine k l i _ (q5.free Vm) (q5.trans (ae.upd Vm _)) ?_ (by rw[bc,Ql];exact hl);rw[aA,bc,<- dF,<- hfd,show(C.map λkv=>kV kv.1)=(C.map (·.1)).map kV by rw[Qn];rfl,q2.keys,Qn,Qn,Qn];rfl
inductive Om (mg:Str->cv)(vs:bY)(H:Hp)(Q:VK)(bz:XK):Prop
 |mk (a:Addr) (xs:bY) (F:List aj) (ns ws:aU) (x:Str):vs=[.ref a,.str x]->RT H a xs F ns ws->(∀z∈ws,Wd z)->x∈ns->Kn mg H "FROM" [.str "from"]->Kn mg H "TO" [.str "to"]->(∀(T:Addr)(J:bY)(i:Nat)(U:Hp),H T=none->ae H U->(bc F (b7 F x) i).length=i->nj F ns (bc F (b7 F x) i)->(bc F (b7 F x) i).Nodup->b7 F x∈bc F (b7 F x) i->RT U T J (c_ F (bc F (b7 F x) i)) ((aq F (bc F (b7 F x) i)).map (cN F (aq F (bc F (b7 F x) i)))) ws->Q (.ref T) U)->Om mg vs H Q bz
inductive Oo (vs:bY)(H:Hp)(Q:VK)(bz:XK):Prop
 |mk (n:Nat):vs=[.int n]->n<26->Q (.str (h_ n)) H->Oo vs H Q bz
theorem FB(n:Nat):qe EA.cps.toList ((n:Int) % 26)=some (97+n % 26):=by
 have h:=Si (97+n % 26) (by lia);rw[show 97+n % 26-97=n % 26 by lia]at h;have:=dP h;rw[show((n:Int) % 26)=((n % 26:Nat):Int)by lia];exact this
inductive Oq (vs:bY)(H:Hp)(Q:VK)(bz:XK):Prop
 |mk (x:V) (h:Hd) (ns:aU) (b:Addr) (os:aU):vs=[x,.ref b]->HV H x h->h.ok ns->h.nx=none->H b=be (os.map V.str)->os.length=(vo h).length->os.length<=100->(∀T U,H T=none->ae H U->HV U (.ref T) (vz h os)->Q (.ref T) U)->Oq vs H Q bz
theorem wF(T:Txt K mg w):bq P w K mg base 1 "name_of" ["k"] Oo:=by
 refine T.yJ.gw gU ?_ ?_
 ·rintro _ _ _ _ ⟨n,rfl,_⟩;rfl
 ·rintro f i A a s H j Q E l ⟨n,rfl,g,k⟩;refine⟨_,(aE (aJ 1 gU.nd (aQ K (tE T.eQ) (bW dR (zv 0) (bJ (aY K) T.ph dv (aD (tE T.eQ) aC)))))
   (aE (fK PassesOwn.never (aP Px (zv 0) (bJ (aY K) T.ph dv (aD (tE T.eQ) aC))) (aE (aJ 0 gU.nd (bW xU (zv 0) (bJ (aY K) T.ph dv (aD (tE T.eQ) aC))))
   (aF (aJ 1 gU.nd (bW bS (aQ K (tE T.eQ) (bW dR (zv 0) (bJ (aY K) T.ph dv (aD (tE T.eQ) aC)))) (zv 1))))))
   (aF (aZ (bW bS bA (zv 1)))))),?_⟩
  have b:EA.length<=sizeLine:=by decide
  refine⟨b,(show(0:Int)<26 by decide),b,_,FB n,?_⟩;refine⟨λm c d=>d=H/\c=[iq (n:Nat),some (.str ⟨#[97+n % 26]⟩)],⟨0,rfl,rfl⟩,?_⟩;rintro m c d ⟨rfl,rfl⟩;refine⟨b,_,rfl,F9 (λh=>?_) (λ_=>?_)⟩
  ·have:(26:Int)<=(n:Int):=Qt h
   lia
  ·refine⟨by show 1+1<=sizeLine;decide,?_⟩;have e:("k":Str)++(⟨#[97+n % 26]⟩:Str)=h_ n:=by
    rw[Nat.mod_eq_of_lt g];rfl
   rw[e];exact k
theorem qW(T:Txt K mg w):bq P w K mg base 1 "head_with" ["head","names"] Oq:=by
 refine T.tF.gw jP ?_ ?_
 ·rintro _ _ _ _ ⟨x,h,ns,b,g,rfl,_⟩;rfl
 ·rintro f bf A u s H vs Q E hr ⟨x,h,ns,b,g,rfl,hv,hok,ck,hb,C,fo,k⟩;have hu:=dD hr;have ab:sizeLine=16777216:=QM;refine⟨_,(aE (dE (aP (qV K) (aQ K (zv 0) aH) (PJ K T.uE) rfl) (aF (aZ (bE (aN (aQ K (zv 0) aH) (aV (xv rfl (by rfl) T.dI (by rfl) T.MA (d6 (gW ["word","x"] [] ["word","x"] (cL jP) (jF K (aQ K (zv 0) aH)) 'b' (λ_ _ _ _ _ _=>(zv 0))) (aD (zv 1) aC))) aC))))) bM)
   (aF (aZ (fQ (dC K) T.dI QH (fV (bW bS (bV (aN (aQ K (zv 0) aH) aC)) (zv 1)) aC))))),?_⟩
  have G:∀z:Str,(false^^Be (.str z) [V.str "box",V.str "pick"])=decide (z="box"\/z="pick"):=λz=>by
   rw[QF,show([V.str "box",V.str "pick"]:bY)=(["box","pick"]:aU).map V.str from rfl,jZ];simp
  have fin:∀(a:Addr)(z:Str)(j:bY),H a=ff (.str z::j)->∀{D:Ends},D.rt=Q->(∀T p,p T=ff (.str z::g.map V.str)->HV p (.ref T) (vz h g))->CY (yt (Li K) (ik (jy Ic (KG (ik (jy (AQ K) (tV 0) (tC (V.int 0))) qc)) (tV 1)) qc)) D [aa a,aa b] H:=by
   intro a z j e D q hh;refine⟨_,.str z,.inr (ak.of e),aK _ _,BE,λL1 I=>?_⟩;have L:=ae.upd I (.lst [.str z]);refine⟨_,_,aA,L _ _ hb,by simp;lia,λL2 MQ=>?_⟩;have s2:=ae.upd MQ (.lst ([V.str z]++g.map V.str));refine⟨L2,_,rfl,.inl ⟨ai.of aA,λT hT=>?_⟩⟩;have s3:=ae.upd hT (.tup ([V.str z]++g.map V.str));rw[q];exact k T _ ((L.trans s2).free hT) ((L.trans s2).trans s3) (hh T _ aA)
  cases hv with
  | @one a s e=>
   refine⟨_,.str s,.inr (ak.of e),aK _ _,λaW m=>⟨_,.inr m,rfl,rfl,_,rfl,?_⟩⟩;rw[G,Qx (by rcases hok with rfl|rfl<;>decide+kernel)];have ho:g=[]:=List.length_eq_zero_iff.mp C;subst ho;exact ue (fin a s [] e rfl λT p e=>.one e)
  |as e=>cases ck
  | @way a y z e=>
   refine⟨_,.str "way",.inr (ak.of e),aK _ _,λaW m=>⟨_,.inr m,rfl,rfl,_,rfl,?_⟩⟩;rw[G,Qx (by decide+kernel)];refine ue (fin a "way" _ e rfl λT p e=>?_)
   match g,C,e with
   | [o1,o2],_,e=>exact .way e
  | @prs a c s j ps e ec hp=>
   refine⟨_,.str s,.inr (ak.of e),aK _ _,λaW m=>⟨_,.inr m,rfl,rfl,_,rfl,?_⟩⟩;rw[G,Qw hok.1];refine Eu ?_;have gj:=hp.len;have Gp:=hok.2.2.2;refine⟨_,.str s,.inr (ak.of e),aK _ _,_,.ref c,.inr (ak.of e),rfl,Or.inr ⟨⟨j,ak.of ec⟩,λD q=>?_⟩⟩;refine fW (dU j) (λi r o=>o D=be (((ps.take i).map (·.1)).map V.str)/\ae H o/\X2 λN R=>r=[N,R]) ⟨aA,ae.upd q _,none,none,rfl⟩ (λi r o _ h=>ak.of (h.2.1 _ _ ec)) ?_ ?_
   ·rintro i r o hi ⟨t,l,N,R,rfl⟩;have xo:i<ps.length:=by lia
    obtain⟨d,e1,e2⟩:=hp.at_ i hi xo
    have eg:j.getD i .ao=.ref d:=cX hi e1;rw[eg];refine fI (l _ _ e2) ?_;refine⟨_,t,by simp;lia,?_,(l.put q),_,_,rfl⟩;rw[aA,bB ps i xo,Qm,Qm];rfl
   ·rintro r o ⟨t,l,N,R,rfl⟩;rw[gj,Qo]at t;have Vn:g.length=ps.length:=by rw[C];simp[vo]
    refine⟨D,b,_,_,rfl,t,l _ _ hb,by simp[Vn],λT2 O H4 HB s4 e4 zp=>⟨jd,λT3 D9=>?_⟩⟩;have s5:=ae.upd D9 (.tup [.str s,.ref T2]);refine k T3 _ ((l.trans s4).free D9) ((l.trans s4).trans s5) ?_;refine .prs aA (s5 _ _ e4) ⟨by rw[zp.len];simp[Vn],λi Y h2=>?_⟩;have je:=zp.len;rw[Ql,Ql]at je;obtain⟨cc,z1,z2⟩:=zp.at_ i Y (by simp;lia) (by simp;lia)
    refine⟨cc,z1,?_⟩;have:=s5 _ _ z2;simpa using this
set_option maxHeartbeats 4000000 in
theorem qg(T:Txt K mg w):bq P w K mg base 6 "least" ["T","x"] (Om mg):=by
 have cl:=T.Au.2.1;have na:=T.Au.2.2.1;refine T.a2e.gw bX ?_ ?_
 ·rintro _ _ _ _ ⟨a,xs,F,ns,ws,x,rfl,_⟩;rfl
 ·rintro f bf A al s H vs Q E hr ⟨a,xs,F,ns,ws,x,rfl,rt,hw,hx,kf,kt,k⟩;have hu:=dD hr;have gk:=Qy (dD hr);have DU:=kC hr;have a3:sizeLine=16777216:=QM;have few:=rt.few;have g:=rt.xf hw;refine⟨_,(aE (aJ 2 bX.nd (xa (Gf T) (hr.mono (by decide)) (aD (zv 0) aC)))
   (aE (aJ 3 bX.nd (fQ (pQ rfl) T.qJ pk (aV (aT (vC T) hr (aD (zv 2) (aN (bK hu (cT K (zv 2)) (zv 1)) aC))) aC)))
   (aE (aJ 4 bX.nd (aT (kO T) hr (aD (zv 2) (aD (zv 3) aC))))
   (aE (aJ 5 bX.nd kQ)
   (aE (cO PassesOwn.never rfl (jF K (zv 3)) (bL 6 bX.nd) (aF (bZ (pW (zv 5) (bK hu (zv 4) (zv 6)) (zv 6) ⟨rfl,rfl,rfl,rfl⟩))))
   (aE (aJ 7 bX.nd (yD (own:=["k","at"]) (idx:=[]) (N':=["k","at"]) (cL bX) rfl (Dx (by rfl) T.uC (aD (zv 5) aC)) 'b' (λ_ _ _ _ _ _=>gY) (λ_ _ _ _ _ _=>(zv 1)) (λ_ _ _ _ _ _=>(aT (wF T) hr (aD (zv 0) aC)))))
   (aE (aJ 8 bX.nd (bV aC))
   (aE (cO PassesOwn.never rfl (oK (zv 5)) (cW K (n:=2) rfl (aM (bL 9 bX.nd) (aM (bL 6 bX.nd) bQ))) (aE (Io (i:=10) (own:=["end"]) (idx:=[4,7]) (N':=["end","number","called"]) (cL bX) rfl (sH (bK hu (cT K (zv 2)) (zv 6))) (λ_ _ _ _ _ _=>(bD 0)) (λ_ _ _ _ _ _=>gY) (λ_ _ _ _ _ _=>(bK hu (zv 2) (bK hu (zv 1) (zv 0)))) bX.nd rfl rfl)
   (aF (bZ (jG K QJ QK QL bF (zv 8) (bC (bE (aN (bK hu (zv 7) (zv 9)) (aV (aT (qW T) hr (aN (bK hu (cT K (zv 2)) (zv 6)) (aD (zv 10) aC))) aC))) aC))))))
   (aF (aZ (fQ (dC K) T.dI QH (aD (zv 8) aC)))))))))))),?_⟩
  refine aI λn dn hn uh ne=>?_;have s0:ae H (upd (upd H dn (.own n)) n (.ins (cr mg "Net") dn [])):=(ae.upd uh _).trans (ae.upd (by rw[aB ne.symm];exact hn) _);refine⟨n,dn,a,xs,F,ns,ws,rfl,aA,rt.tk s0.ts,hw,kf.same s0,kt.same s0,λH2 AA sx=>⟨rfl,?_⟩⟩;have s2:ae H H2:=λb o e=>sx b o (λz=>by rw[z,hn]at e;cases e) (s0 b o e);clear sx s0;have qw:=g.stay hx;have nv:=AA.RA (K:=K) g;obtain⟨nx,N7,d1,d3,d4,y0,y1,y2,y3,y4,_⟩:=nv.at_
  (try dsimp only)
  refine aI ⟨n,cr mg "Net",nx,N7,.ref d1,rfl,y0,cl,na "rows" (by simp),y1,d1,_,rfl,y4 x hx,n,a,xs,F,ns,ws,b7 F x,rfl,AA,rt.tk s2.ts,hw,qw,λD ab i cb H3 hD s3 eD Vo bi fh hb JA=>⟨D,ab,rfl,.inl eD,λl hl=>?_⟩⟩;have hL:bc F (b7 F x) i=cb.map (·.1):=by rw[hb];rfl
  have ag:(bc F (b7 F x) i).length=i:=by rw[hL,Ql];exact fh
  have C:nj F ns (bc F (b7 F x) i):=⟨g,λe he=>by
    rw[hL]at he;obtain⟨c,hc,rfl⟩:=Z2.mp he;exact bi.en c hc,λe he m y=>by
    rw[hL]at he⊢;obtain⟨c,hc,rfl⟩:=Z2.mp he;obtain⟨j,t,e⟩:=Qi hc;exact bi.cl j c (by lia) (by rw[Qa t,e]) m y⟩
  have D_:(bc F (b7 F x) i).Nodup:=by rw[hL];exact bi.nd
  have f0:b7 F x∈bc F (b7 F x) i:=by rw[hL];exact JA
  have k0:=λT J p Y h2 h3=>k T J i p Y h2 ag C D_ f0 h3;have am:=bi.few;have an:(bc F (b7 F x) i).length<=14:=by rw[hL,Ql];lia
  have Vp:(ab.map λkv=>kV kv.1)=(bc F (b7 F x) i).map V.str:=by
   rw[hL,show(ab.map λkv=>kV kv.1)=(ab.map (·.1)).map kV by rw[Qn];rfl,Vo.keys,Qn,Qn];rfl
  rw[Vp];generalize bc F (b7 F x) i=L at C D_ f0 k0 an⊢;have s4:=ae.upd hl (.lst (L.map V.str));have l4:upd H3 l (.lst (L.map V.str)) l=be (L.map V.str):=aA;generalize upd H3 l (.lst (L.map V.str))=H4 at s4 l4;have Ou:=s3.trans s4;clear k hb hL ag bi Vo eD am Vp fh JA hD
  (try dsimp only)
  refine aI ⟨n,l,a,xs,F,ns,ws,L,rfl,AA.same Ou,rt.tk (s2.trans Ou).ts,hw,l4,D_,C.en,C.cl,λD5 kn num H5 s5 Ov JL As=>?_⟩;have J9:=Ou.trans s5;have l5:=s5 _ _ l4
  (try dsimp only)
  refine aI λB hB=>?_;have sB:=ae.upd hB (.dK []);have gB:upd H5 B (.dK []) B=eu []:=aA;have a4:H2 B=none:=J9.free hB;have a5:D5≠B:=λz=>by rw[<- z,Ov]at hB;cases hB
  generalize upd H5 B (.dK [])=H6 at sB gB;have I:=pe (F:=F) L;have a6:=C.few D_
  (try dsimp only)
  refine aL (λd p=>∃u:cp,d=[aa a,cg x,aa n,aa l,aa D5,aa B,u,none,none,none,none]/\p B=eu (iz num (aq F L))/\ae H5 p) ?_ ?_
  ·intro r_ jw;refine .inl ⟨⟨_,ai.of (sB _ _ l5)⟩,?_⟩;refine cB (bI (L.map V.str)) (λj d p=>∃u:cp,d=[aa a,cg x,aa n,aa l,aa D5,aa B,u,none,none,none,none]/\p B=eu (iz num (aq F (L.take j)))/\ae H5 p)
    ⟨none,rfl,gB,sB⟩ (by rintro j d p _ ⟨_,_,_,s⟩;exact ai.of (s _ _ l5)) ?_ ?_
   ·rintro j d H7 t ⟨u,rfl,q1,q2⟩;rw[Ql]at t;have eg:(L.map V.str).getD j .ao=.str L[j]:=by rw[Qb,Qq,Qa t];rfl
    have y:=Qj t;have Ao:=bB L j t;rw[eg,Ao];have tl:=(pe (F:=F) (L.take j)).sub;have a7:(aq F (L.take j)).length<=14:=by
     have:=dO (l:=aq F (L.take j)) (m:=L) ((pe (L.take j)).ap.imp λh e=>h (by rw[e];exact d_.refl)) λx hx=>pf (tl x hx)
     lia
    generalize L[j]=e at y;have dg:=dz.k (k:=.inr e) Ov;rw[JL e y]at dg;have gb:∀a∈aq F (L.take j),a∈L:=λa ha=>pf (tl a ha);refine⟨B,rfl,.inl ⟨_,.inl q1⟩,D5,_,rfl,dg.same q2,_,.inl (num e:Int),q1,rfl,by rw[iz,Ql];lia,λv hv=>⟨_,rfl,?_,q2⟩,λhv=>⟨_,rfl,?_,q2.put hB⟩⟩
    ·rw[fZ,if_pos,q1];obtain⟨a',Ea,ea⟩:=Ee (gH hv);exact⟨a',Ea,(As _ (gb a' Ea) _ y).mp ea⟩
    ·rw[fZ,if_neg,aA,iz,iz,Qm]
     ·rfl
     ·rintro⟨a',Ea,nb⟩;refine Yq hv (Z2.mpr ⟨_,Z2.mpr ⟨a',Ea,rfl⟩,?_⟩);show(Sum.inl (num a':Int):Key)=_;rw[(As _ (gb a' Ea) _ y).mpr nb]
   ·rintro d H7 ⟨u,rfl,q1,q2⟩;rw[Ql,Qo]at q1;exact jw _ _ ⟨u,rfl,q1,q2⟩
  rintro d H7 ⟨u,rfl,q1,s7⟩;have ar:((iz num (aq F L)).map (·.1)).Nodup:=rM I As;have Vq:((xj num (cN F (aq F L)) (aq F L)).map (·.1)).Nodup:=by rw[At];exact ar
  refine aL (λd p=>X2 fun(q:Addr)(o:Obj)=>d=[aa a,cg x,aa n,aa l,aa D5,aa B,u,aa q,none,none,none]/\p B=some (.af o (.dK (iz num (aq F L))))/\p q=eu (xj num (cN F (aq F L)) (aq F L))/\H5 q=none/\q≠B/\ae H5 p) ?_ ?_
  ·intro r_ jw;refine⟨B,_,rfl,.inl q1,λo q Eb=>?_⟩;have s8:ae H5 (upd H7 B (.af o (.dK (iz num (aq F L))))):=s7.put hB;have b8:upd H7 B (.af o (.dK (iz num (aq F L)))) B=some (.af o (.dK (iz num (aq F L)))):=aA;generalize upd H7 B (.af o (.dK (iz num (aq F L))))=H8 at s8 b8 Eb;have nC:q≠B:=λz=>by rw[z,b8]at Eb;cases Eb
   have s9:=ae.upd Eb (.dK []);refine rN (B1 (iz num (aq F L))) (λj τ p=>X2 λv0 v1=>τ=[v0,v1]/\p q=some (.dK ((xj num (cN F (aq F L)) (aq F L)).take j))/\ae H8 p)
    ⟨none,none,rfl,aA,s9⟩ (by rintro j τ p _ ⟨_,_,_,_,s⟩;exact s _ _ b8) ?_ ?_
   ·rintro j τ p T2 t ⟨v0,v1,rfl,p1,p2⟩ HB;rw[iz,Ql]at t;have gm:=ae.upd HB (.tup [.int (j:Int),jn (iz num (aq F L)) j]);have eK:jn (iz num (aq F L)) j=.int (num (aq F L)[j]:Int):=by unfold jn iz;rw[Qq,Qa t];rfl
    have as:j<(xj num (cN F (aq F L)) (aq F L)).length:=by rw[xj,Ql];exact t
    have pa:=xB Vq as;have ej:(xj num (cN F (aq F L)) (aq F L))[j]=((Sum.inl (KI.i (num (aq F L)[j]:Int)):Key),V.str (h_ j)):=by simp only[xj,Qr];rw[mR I t]
    rw[ej]at pa;dsimp only at pa⊢;rw[eK]at gm⊢;refine⟨j,rfl,by lia,_,.inl (KI.i _),rfl,gm _ _ p1,by rw[u9];lia,_,_,rfl,?_,?_⟩
    ·rw[pa];exact aA
    ·exact(p2.trans gm).put Eb
   ·rintro τ p ⟨v0,v1,rfl,p1,p2⟩;rw[iT (by simp[iz,xj])]at p1;exact jw _ _ ⟨q,o,rfl,p2 _ _ b8,p1,s8.free Eb,nC,s8.trans p2⟩
  rintro d H8 ⟨q,o,rfl,b8,c8,Eb,nC,s8⟩;refine aI ⟨o_,λR hR=>?_⟩;have s9:=ae.upd hR (.lst []);have r9:upd H8 R (.lst []) R=be []:=aA;have av:H5 R=none:=s8.free hR;have aw:R≠B:=λz=>by rw[z,b8]at hR;cases hR
  have ax:R≠q:=λz=>by rw[z,c8]at hR;cases hR
  generalize upd H8 R (.lst [])=H9 at s9 r9
  (try dsimp only)
  refine aL (λd p=>X4 fun(u v9 N:cp)(G:bY)=>d=[aa a,cg x,aa n,aa l,aa D5,aa B,u,aa q,aa R,v9,N]/\p R=be G/\RV p G (c_ F L)/\ae H5 p) ?_ ?_
  ·intro r_ jw;refine⟨B,_,rfl,.inl ⟨o,s9 _ _ b8,?_⟩⟩;have look:∀{p:Hp},p q=some (.dK (xj num (cN F (aq F L)) (aq F L)))->∀e∈L,dz p q (.int (num e:Int)) (some (.str (cN F (aq F L) e))):=fun{p}h e he=>by
    have:=dz.k (k:=.inl (num e:Int)) h;rw[xp I As Vq he]at this;exact this
   obtain⟨Od,Oe,en,nf⟩:=id AA;obtain⟨dh,oh,kh,hh1,hh2,hh3⟩:=nf.hds;refine tK (lB (iz num (aq F L))) (λj d p=>X4 fun(u v9 N:cp)(G:bY)=>d=[aa a,cg x,aa n,aa l,aa D5,aa B,u,aa q,aa R,v9,N]/\p R=be G/\RV p G ((c_ F L).take j)/\p q=eu (xj num (cN F (aq F L)) (aq F L))/\p B=some (.af o (.dK (iz num (aq F L))))/\ae H5 p)
    ⟨u,none,none,[],rfl,r9,RV.nil,s9 _ _ c8,s9 _ _ b8,s8.trans s9⟩ (by rintro j d p _ ⟨_,_,_,_,_,_,_,_,h,_⟩;exact h) ?_ ?_
   ·rintro j d uz T2 t ⟨u,v9,N,G,rfl,p1,p2,p3,p4,p5⟩ HB;rw[iz,Ql]at t;have eK:jn (iz num (aq F L)) j=.int (num (aq F L)[j]:Int):=by unfold jn iz;rw[Qq,Qa t];rfl
    have eV:valAt (iz num (aq F L)) j=.str (aq F L)[j]:=by unfold valAt iz;rw[Qq,Qa t];rfl
    rw[eK,eV];have y:=I.sub _ (Qj t);have ul:=p2.len;have Ao:(c_ F L).take (j+1)=(c_ F L).take j++[Fc F (aq F L) (aq F L)[j]]:=by
     have IZ:j<(c_ F L).length:=by rw[c_,Ql];exact t
     rw[bB _ j IZ];simp[c_]
    rw[Ao];have a8:G.length<=14:=by rw[ul,u9,c_,Ql];lia
    generalize(aq F L)[j]=e at y;have lz:=ae.upd HB (.tup [.int (num e:Int),.str e])
    (try dsimp only)
    generalize upd uz T2 (.tup [.int (num e:Int),.str e])=xq at lz;have p1:=lz _ _ p1;have p2:=p2.tk lz.ts;have p3:=lz _ _ p3;have p4:=lz _ _ p4;have p5:=p5.trans lz;have Vr:=J9.trans p5;obtain⟨Ff,af8,d1',d3',d4',z0,z1,z2,z3,z4,z5,z6,z7⟩:=(nv.same Vr).at_
    obtain⟨m,om,w1,w2⟩:=z7 e (C.en e y);refine aL (λd p=>∃(E1:Addr),d=[aa a,cg x,aa n,aa l,aa D5,aa B,cg e,aa q,aa R,iq (num e:Int),aa E1]/\p E1=be (((az F e).map λm=>cN F (aq F L) m.2).map V.str)/\ae xq p) ?_ ?_
    ·intro Hg Az;refine⟨n,_,Ff,af8,_,rfl,z0,cl,na "moves" (by simp),z3,d4',_,rfl,w1,m,_,om,rfl,w2,λE1 Vs=>?_⟩;refine fW (pH (jr F e)) (λi τ p=>∃v0,τ=[v0,aa D5,aa q]/\p E1=some (.lst ((((az F e).take i).map λm=>cN F (aq F L) m.2).map V.str))/\ae xq p)
      ⟨none,rfl,aA,ae.upd Vs _⟩ (by rintro i τ p _ ⟨_,_,_,s⟩;exact s _ _ w2) ?_ ?_
     ·rintro i τ yn hi ⟨v0,rfl,t1,t2⟩;have Ox:i<(az F e).length:=by simpa[jr]using hi
      have ev:Ct (jr F e) i=.str (az F e)[i].2:=by unfold Ct jr;rw[Qq,Qa Ox];rfl
      have BL:=C.cl e y _ (Qj Ox);have of:=rt.Cr hw (C.en e y).1;rw[ev,bB _ i Ox,Qm,Qm];generalize(az F e)[i]=mm at BL;have dg:=dz.k (k:=.inr mm.2) Ov;rw[JL _ BL]at dg;refine⟨D5,_,rfl,dg.same (p5.trans t2),q,_,rfl,look (t2 _ _ p3) _ BL,_,t1,by simp;lia,_,rfl,aA,t2.put Vs⟩
     ·rintro τ yn ⟨v0,rfl,t1,t2⟩;rw[show(jr F e).length=(az F e).length by simp[jr],Qo]at t1;exact Az _ _ ⟨E1,rfl,t1,t2⟩
    rintro d yn ⟨E1,rfl,t1,t2⟩;obtain⟨hv,Ln,ah⟩:=hh3.get g.Bu (C.g.yf (C.en e y)).1;have ah:HV H2 hv (au F e):=ah;have Oz:=Vr.trans t2;have gh:dz yn dh (.str e) (some hv):=by
     rw[<- Ln];exact dz.rd (k:=Sum.inr e) (.inr ⟨oh,Oz _ _ hh2⟩)
    obtain⟨ok1,Vt⟩:=C.hd y;have ol:=C.ol y (cN F (aq F L));refine⟨.inl ⟨rfl,_,ai.of (t2 _ _ p1)⟩,q,_,rfl,look (t2 _ _ p3) e y,n,_,Od,Oe,_,rfl,Oz _ _ en,cl,na "heads" (by simp),hh1,dh,_,rfl,gh,hv,au F e,ns,E1,_,rfl,ah.tk Oz.ts,ok1,Vt,t1,by rw[ol,wf Vt],by have:=rt.Cr hw (C.en e y).1;rw[Ql];lia,λT3 xr D9 A7 a1=>⟨jd,λT4 a2=>?_⟩⟩;have ua:=ae.upd a2 (.tup [.str (cN F (aq F L) e),.ref T3]);have HA:upd xr T4 (.tup [.str (cN F (aq F L) e),.ref T3]) T4=ff [.str (cN F (aq F L) e),.ref T3]:=aA;generalize upd xr T4 (.tup [.str (cN F (aq F L) e),.ref T3])=yo at ua HA;have sA:=(t2.trans A7).trans ua;have Vu:=sA _ _ p1;have tk:Tk yo (upd yo R (.lst (G++[.ref T4]))):=(Tk.refl).set Vu 'n';refine⟨R,G,.ref T4,rfl,rfl,Vu,by lia,_,_,_,G++[.ref T4],rfl,aA,?_,by rw[aB ax.symm];exact sA _ _ p3,by rw[aB aw.symm];exact sA _ _ p4,(p5.trans sA).put av⟩;exact((p2.tk sA.ts).tk tk).snoc (r:=Fc F (aq F L) e) (tk _ _ HA) ((a1.tk ua.ts).tk tk)
   ·rintro d uz ⟨u,v9,N,G,rfl,p1,p2,p3,p4,p5⟩;rw[iT (by simp[c_,iz])]at p2;exact jw _ _ ⟨u,v9,N,G,rfl,p1,p2,p5⟩
  rintro d uz ⟨u,v9,N,G,rfl,p1,p2,p5⟩;refine⟨R,G,rfl,.inl ⟨ai.of p1,λT3 D9=>?_⟩⟩;have lz:=ae.upd D9 (.tup G);have sF:=(s2.trans (J9.trans p5)).trans lz;exact k0 T3 G _ ((s2.trans (J9.trans p5)).free D9) sF (rt.least C D_ (List.ne_nil_of_mem f0) aA (p2.tk lz.ts))
inductive J_ (K:Q0)(mg:Str->cv)(vs:bY)(H:Hp)(Q:VK)(bz:XK):Prop
 |mk (a:Addr) (ns:List Int):vs=[.ref a]->ai K H a (ns.map V.int)->ns.length<=63->Kn mg H "FROM" [.str "from"]/\Kn mg H "TO" [.str "to"]->(∀U,Q (.bl true) U)->J_ K mg vs H Q bz
theorem tp{b:List Int}(hs:ai K H a (b.map V.int))(c:H p=none):dc K H (upd H p (.lst [.ref a,.int 0,.int 0])) p 0:=by
 refine⟨⟨a,b,0,0,aA,λd sm=>?_,by lia,by lia⟩,(ae.upd c _).sm⟩;rcases hs with h|h
 ·refine .inl ?_;have n:a≠p:=λz=>by rcases h with h|⟨o,h⟩<;>(rw[z,c]at h;cases h)
  exact h.imp (λe=>sm _ _ e n n) fun⟨o,e⟩=>⟨o,sm _ _ e n n⟩
 ·exact .inr h
theorem Kn.J'{t:Nat}{J:bY}(h:Kn mg H0 x J)(a:H0 p=none)(b:dc K H0 H p t):Kn mg H x J:=by
 obtain⟨o,e⟩:=h;have n:cr mg x≠p:=λz=>by rw[z,a]at e;cases e
 exact⟨o,b.sm _ _ e n n⟩
set_option maxHeartbeats 4000000 in
theorem vu(T:Txt K mg w):bq P w K mg base 14 "law" ["script"] (J_ K mg):=by
 refine T.S1.gw dG ?_ ?_
 ·rintro _ _ _ _ ⟨a,ns,rfl,_⟩;rfl
 ·rintro f bf A ar s H vs Q E hr ⟨sc,av,rfl,aw,bs,⟨kf,kt⟩,k⟩;have hu:=dD hr;have gk:=Qy (dD hr);have DU:=kC hr;have Fo:=tR hr;have bt:sizeLine=16777216:=QM;have hw:∀z∈WW,Wd z:=λz hz=>(S8 z hz).2;refine⟨_,(aE (aJ 1 dG.nd (bV (aD (zv 0) (aG aH (aG aH aC)))))
   (aE (cO PassesOwn.never rfl (jY (by rfl) T.mP (aG aH aC)) (bL 2 dG.nd) (aE (aJ 3 dG.nd (aT (oC T) hr (aD (zv 1) (aG aH aC))))
   (aE (dE (aP (fC gk) (aT (cF T) hr (aD (zv 1) (aG aH aC))) aH) (aF (aJ 3 dG.nd (aT (tZ T) hr (aD (zv 1) (aV (aT (oC T) hr (aD (zv 1) (aG aH aC))) aC))))) bM)
   (aE (aJ 4 dG.nd (aT (vB T) hr (aD (zv 1) (aD (zv 3) aC))))
   (aE (aJ 5 dG.nd (aT (qg T) hr (aD (zv 3) (aD (zv 4) aC))))
   (aE (dE (Im (PL (Ld (bJ pK T.kF PyProof.Rows.boot_isinstance (aD (zv 5) (aD (PK (v:=.ty "tuple") (by rfl) T.dI QH rfl) aC))))) (xV (PL (Ld (bJ (zF K rfl) T.adf PyProof.Rows.boot_all (d6 (gW ["_law_row"] [] ["_law_row"] (cL dG) (jF K (zv 5)) (λ_ _ _ _ _ _=>(bD 0)) (λ_ _ _ _ _ _=>(bJ pK T.kF PyProof.Rows.boot_isinstance (aD (zv 0) (aD (PK (v:=.ty "tuple") (by rfl) T.dI QH rfl) aC))))) aC)))))).pt (aF (aZ oS)) bM)
   (aE (Io (i:=6) (own:=["_law_at"]) (idx:=[]) (N':=["_law_at"]) (cL dG) rfl (jY (by rfl) T.mP (aV (bJ (aY K) T.ph dv (aD (zv 5) aC)) aC)) (λ_ _ _ _ _ _=>(bD 0)) (λ_ _ _ _ _ _=>gY) (λ_ _ _ _ _ _=>(bW bS bA (aQ K bA (zv 0)))) dG.nd rfl rfl)
   (aE (dE (aP (qR K Fo) (gW ["_law_row"] [] ["_law_row"] (cL dG) (jF K (zv 5)) (λ_ _ _ _ _ _=>(bD 0)) (λ_ _ _ _ _ _=>(aQ K (zv 0) aH))) (zv 6)) (aF (aZ oS)) bM)
   (aE (dE (Im (Ld (bJ (zQ K rfl) T.adg PyProof.Rows.boot_any (d6 (gW ["_law_row"] [] ["_law_row"] (cL dG) (jF K (zv 5)) (λ_ _ _ _ _ _=>(bD 0)) (λ_ _ _ _ _ _=>(Hk (fC gk) (aQ K (aQ K (zv 0) aH) aH) bA))) aC))) (xV (aP (qR K Fo) (aT (vM T) hr (aD (zv 5) (aG bA aC))) (zv 6)))).pt (aF (aZ oS)) bM)
   (aE (cO PassesOwn.never rfl (jY (by rfl) T.mP (aV (bJ (aY K) T.ph dv (aD (zv 6) aC)) aC)) (bL 7 dG.nd) (aF (cO PassesOwn.never rfl (jF K (iG (yY K) (zv 6) iH (iI (zv 7)))) (bL 8 dG.nd) (aF (dE (aP ZA (aT (nV T) hr (aD (zv 5) (aD (zv 8) (aD (zv 5) (aN (aQ K (zv 6) (zv 7)) aC))))) xN) (aF (aZ oS)) bM)))))
   (aE (dE (aP ZC (aT (nV T) hr (aD (zv 3) (aD (zv 4) (aD (zv 5) (aG bA aC))))) xN) (aF (aZ oS)) bM)
   (aF (dE (Im (aP (QZ Fo) (aT (qg T) hr (aD (zv 3) (aD (zv 4) aC))) (zv 5)) (xV (aP (QZ Fo) (aT (qg T) hr (aD (zv 5) (aG bA aC))) (zv 5)))).pt (aF (aZ oS)) bM)))))))))))))
   (aF (aZ oS)))),?_⟩
  refine aI ⟨Jc,λp hp=>?_⟩;have Vv:=tp aw hp
  (try dsimp only)
  generalize upd H p (.lst [.ref sc,.int 0,.int 0])=H1 at Vv;refine aL (λd e=>True) ?_ (λd e _=>k e);intro nx ck;refine⟨4,rfl,by decide,by decide,?_⟩;refine cB (iN 0 4) (λi d e=>X7 λv2 v3 v4 v5 v6 v7 u=>d=[aa sc,aa p,v2,v3,v4,v5,v6,v7,u]/\dc K H e p (i*1901))
   ⟨none,none,none,none,none,none,none,rfl,Vv⟩ (λ_ _ _ _ _=>trivial) ?_ (λd e _=>ck _ _ trivial)
  rintro i d H2 hi ⟨v2,v3,v4,v5,v6,v7,u,rfl,ax⟩;have bv:i<4:=hi;refine aI ⟨H,p,7,i*1901,rfl,ax,by lia,⟨by decide,by decide⟩,λa0 Bl am a2 H3 a3 ig bw ux t_=>?_⟩
  (try dsimp only)
  refine aL (λd e=>X4 fun(a:Addr)(xs:bY)(F:List aj)(ns:aU)=>d=[aa sc,aa p,iq (0+(i:Int)),aa a,v4,v5,v6,v7,u]/\RT e a xs F ns WW/\dc K H e p (i*1901+1900)) ?_ ?_
  ·intro r_ jw;refine⟨H,p,2,_,rfl,ux,⟨by decide,by decide⟩,by lia,λr H5 r0 r1 rj ju=>⟨rfl,_,rfl,gy (λc=>?_) (λc=>?_)⟩⟩
   ·refine⟨H,p,4,_,rfl,rj,by lia,⟨by decide,by decide⟩,λa1 a4 a5 a6 H6 a7 je a8 a9 bz=>?_⟩;refine⟨H,p,a1,_,a4,a5,a6,rfl,a9,by lia,a7,a8,by lia,λb g Dk H7 ba bb b1=>?_⟩;exact jw _ _ ⟨b,g,Dk,_,rfl,ba,bb.mono (by lia)⟩
   ·exact jw _ _ ⟨a0,Bl,am,a2,rfl,a3.tk (ux.ts ju),rj.mono (by lia)⟩
  rintro d H4 ⟨a,xs,F,ns,rfl,rt,tq⟩;have M_:=Kn.J' kf hp tq;have Na:=Kn.J' kt hp tq;refine aI ⟨H,p,a,_,xs,F,ns,WW,rfl,tq,by lia,rt,λx H5 hx rj ju=>?_⟩;have OA:=Kn.J' kf hp rj;have CG:=Kn.J' kt hp rj;have OB:=rt.tk (tq.ts ju)
  (try dsimp only)
  refine aI ⟨a,xs,F,ns,WW,x,rfl,OB,hw,hx,OA,CG,λG g q H6 b2 s6 ql C D_ f0 rf=>?_⟩;have I:=pe (F:=F) (bc F (b7 F x) q);have al:=FM C f0 ql;have c0:cN F (aq F (bc F (b7 F x) q)) (b7 F x)=("ka":Str):=wk;have few:=C.few D_;have bd:=wK I;have Vw:=xz C;have Ka:("ka":Str)∈(aq F (bc F (b7 F x) q)).map (cN F (aq F (bc F (b7 F x) q))):=by rw[<- c0];exact Mw I f0
  have Vx:=Mx C f0;have ap:∀y∈(aq F (bc F (b7 F x) q)).map (cN F (aq F (bc F (b7 F x) q))),∀z∈(aq F (bc F (b7 F x) q)).map (cN F (aq F (bc F (b7 F x) q))),d_ (c_ F (bc F (b7 F x) q)) (c_ F (bc F (b7 F x) q)) (y,z)->y=z:=λy hy z hz h=>by
   obtain⟨a',Ea,rfl⟩:=Z2.mp hy;obtain⟨b',LX,rfl⟩:=Z2.mp hz;exact SK C (I.sub a' Ea) (I.sub b' LX) h
  have ab:=oE C;have bh:=Sy C;have bi:(c_ F (bc F (b7 F x) q)).length=(aq F (bc F (b7 F x) q)).length:=by rw[c_,Ql]
  have OC:(c_ F (bc F (b7 F x) q)).map (·.1)=(aq F (bc F (b7 F x) q)).map (cN F (aq F (bc F (b7 F x) q))):=k7;rw[c0]at al Vx;rw[bd]at al Ka ap OC Vw rf;have an:∀n,(bc F (b7 F x) n).length=n->bc F (b7 F x) n=bc F (b7 F x) q:=λn h=>by
   have:n=q:=pZ (F:=F) (f:=b7 F x) (by simpa[bc]using h) (by simpa[bc]using ql);rw[this]
  generalize hm:(aq F (bc F (b7 F x) q)).length=m at*;have bk:∀n,c_ F (bc F (b7 F x) q)=c_ F (bc F (b7 F x) n)\/(bc F (b7 F x) n).length≠n:=λn=>by
   by_cases h:(bc F (b7 F x) n).length=n
   ·exact .inl (by rw[an n h])
   ·exact .inr h
  generalize c_ F (bc F (b7 F x) q)=lr at*;have Vy:∀n,(bc lr "ka" n).length=n->bc lr "ka" n=(List.range m).map h_:=λn h=>by
   have:n=m:=pZ (F:=lr) (f:="ka") (by simpa[bc]using h) (by have:=congrArg List.length al;simpa[bc]using this);rw[this,al]
  have yl:=rf.rv.len;have ym:g.length=m:=by rw[yl,bi]
  have OD:∀(te:TE)(af:bY)(s0 s1 s2 s3 s4 v6 v7 u:cp)(H0:Hp)(Q:VK),af.length=m->ae H6 H0->(∀j(hj:j<g.length)(ho:j<af.length)e,ae H0 e->∀Q':VK,Q' af[j] e->te [some g[j]] e Q')->(∀D e,ae H0 e->e D=be af->Q (.ref D) e)->
    Bk ["_law_row"] [] (iD K (tV 5)) (jj 0) Ce te [s0,s1,s2,s3,s4,aa G,v6,v7,u] H0 Q:=by
   intro te af s0 s1 s2 s3 s4 v6 v7 u H0 Q ho Vz NW hq;refine .inr ⟨⟨g,ak.of (Vz _ _ rf.at_)⟩,λD hD=>?_⟩;refine fW (dU g) (λj τ e=>∃v0,τ=[v0]/\e D=be (af.take j)/\ae H0 e) ⟨none,rfl,aA,ae.upd hD _⟩ (by rintro j τ e _ ⟨_,_,_,s⟩;exact ak.of (s _ _ (Vz _ _ rf.at_))) ?_ ?_
   ·rintro j τ e hj ⟨v0,rfl,o,t⟩;have CK:j<af.length:=by lia
    have eg:g.getD j .ao=g[j]:=cX hj rfl;rw[eg,bB af j CK];refine NW j hj CK e t _ ⟨_,o,by rw[u9];lia,_,rfl,aA,t.put hD⟩
   ·rintro τ e ⟨v0,rfl,o,t⟩;rw[iT (by lia)]at o;exact hq D e t o
  have ah:∀j(hj:j<g.length)e,ae H6 e->X2 λb v=>g[j]=.ref b/\e b=ff [.str (h_ j),v]/\X3 λc O s=>v=.ref c/\e c=ff (.str s::O)/\s≠"as":=λj hj e s=>by
   obtain⟨b,v,o,t,e3⟩:=rf.rv.at_ j hj (by lia)
   have BY:j<lr.length:=by lia
   have en:lr[j].1=h_ j:=by
    have:=List.getElem_of_eq OC (i:=j) (by simpa using BY);simpa using this
   obtain⟨c,O,ec,e4⟩:=e3.fg;refine⟨b,v,o,by rw[<- en];exact s _ _ t,c,O,_,ec,s _ _ e4,λz=>?_⟩;have Y:jf lr lr[j].1=none:=bh _;rw[jf,dX (by rw[OC];exact Sv m) (Qj BY)]at Y;have h2:=(rf.ok _ (Qj BY)).2;generalize lr[j].2=hd at z Y h2;cases hd with
   |one s=>rcases h2 with rfl|rfl<;>exact absurd z (by decide)
   |as y=>cases Y
   |way y y'=>exact absurd (show("way":Str)="as" from z) (by decide+kernel)
   |prs s ps=>
    have z':s="as":=z;rcases h2.1 with h|h<;>exact absurd (h.symm.trans z') (by decide+kernel)
  (try dsimp only)
  refine aL (λd e=>d=[aa sc,aa p,iq (0+(i:Int)),aa a,cg x,aa G,v6,v7,u]/\ae H6 e) ?_ ?_
  ·intro r_ jw;refine⟨by decide,"tuple",by show Ex H6 (.ref G)=_;simp[Ex,rf.at_],_,rfl,ue ?_⟩;dsimp only[Kr,tB,yt,ik];refine OD _ (List.replicate m (.bl true)) _ _ _ _ _ _ _ _ _ _ (by simp) (ae.refl _) (λj hj ho e sj Q' hq=>?_) λD e sD eD=>?_
   ·obtain⟨b,v,o,t,_⟩:=ah j hj e sj;rw[o];refine⟨by decide,"tuple",by show Ex e (.ref b)=_;simp[Ex,t],?_⟩;rw[List.getElem_replicate]at hq;exact hq
   ·refine⟨List.replicate m true,ai.of (by rw[eD];simp),_,rfl,?_⟩;rw[show(!(List.replicate m true).all id)=false by simp];exact ue (jw _ _ ⟨rfl,sD⟩)
  rintro d H7 ⟨rfl,s7⟩;refine aL (λd e=>∃N,d=[aa sc,aa p,iq (0+(i:Int)),aa a,cg x,aa G,aa N,v7,u]/\ae H6 e/\e N=be (((List.range m).map h_).map V.str)) ?_ ?_
  ·intro r_ jw;refine .inl ⟨g,.inr (ak.of (s7 _ _ rf.at_)),(g.length:Int),rfl,by lia,by lia,λD hD=>?_⟩;refine fW (iN 0 (Int.toNat (g.length:Int))) (λj τ e=>∃v0,τ=[v0]/\e D=be (((List.range j).map h_).map V.str)/\ae H7 e) ⟨none,rfl,aA,ae.upd hD _⟩ (λ_ _ _ _ _=>trivial) ?_ ?_
   ·rintro j τ e hj ⟨v0,rfl,o,t⟩;have vn:j<26:=by lia
    refine⟨by decide,97+j,?_,by show 1+1<=sizeLine;decide,_,o,by simp;lia,_,rfl,?_,t.put hD⟩
    ·have h:=Si (97+j) (by lia);rw[show 97+j-97=j by lia]at h;rw[show(0:Int)+(j:Int)=(j:Int)by lia];exact dP h
    ·rw[aA,List.range_succ,Qm,Qm];rfl
   ·rintro τ e ⟨v0,rfl,o,t⟩;rw[show(Int.toNat (g.length:Int))=m by lia]at o;exact jw _ _ ⟨D,rfl,s7.trans t,o⟩
  rintro d H8 ⟨N,rfl,s8,eN⟩;have Kc:∀{e:Hp},uo e 1 (((List.range m).map h_).map V.str) (((List.range m).map h_).map Tv.s):=⟨by simp,λj Y h2=>by simp[TD]⟩
  refine aL (λd e=>d=[aa sc,aa p,iq (0+(i:Int)),aa a,cg x,aa G,aa N,v7,u]/\ae H8 e) ?_ ?_
  ·intro r_ jw;dsimp only[Ef,Ek,jy];refine OD _ (((List.range m).map h_).map V.str) _ _ _ _ _ _ _ _ _ _ (by simp) s8 (λj hj ho e sj Q' hq=>?_) λD e sD eD=>?_
   ·obtain⟨b,v,o,t,_⟩:=ah j hj e (s8.trans sj);rw[o];refine⟨_,_,.inr (ak.of t),aK _ _,?_⟩;simpa using hq
   ·refine⟨1,1,D,N,_,_,_,_,by decide,rfl,rfl,ai.of eD,ai.of (sD _ _ eN),Kc,Kc,λbo Fq=>⟨_,rfl,?_⟩⟩;rw[Fq.mpr rfl];exact ue (jw _ _ ⟨rfl,sD⟩)
  rintro d H9 ⟨rfl,s9⟩;have Kd:=s8.trans s9;refine aL (λd e=>d=[aa sc,aa p,iq (0+(i:Int)),aa a,cg x,aa G,aa N,v7,u]/\ae H9 e) ?_ ?_
  ·intro r_ jw;dsimp only[Ef,Kq,tB,yt,ik];refine OD _ (List.replicate m (.bl false)) _ _ _ _ _ _ _ _ _ _ (by simp) Kd (λj hj ho e sj Q' hq=>?_) λD e sD eD=>?_
   ·obtain⟨b,v,o,t,c,O,z,rfl,e3,e4⟩:=ah j hj e (Kd.trans sj);rw[o];refine⟨_,_,.inr (ak.of t),rfl,_,_,.inr (ak.of e3),aK _ _,rfl,?_⟩;rw[show(false^^decide (V.str z=V.str "as"))=false by simp[e4]];simpa using hq
   ·refine⟨List.replicate m false,ai.of (by rw[eD];simp),_,rfl,?_⟩;rw[show(List.replicate m false).any id=false by simp];refine ue ⟨G,g,lr,_,WW,"ka",rfl,rf.tk (Kd.trans sD).ts,hw,⟨Ka,ab _⟩,λL i' uz hL gm eL gp=>?_⟩;rw[Vy i' gp]at eL;refine⟨1,1,L,N,_,_,_,_,by decide,rfl,rfl,ai.of eL,ai.of (gm _ _ (sD _ _ (s9 _ _ eN))),Kc,Kc,λbo Fq=>⟨_,rfl,?_⟩⟩;rw[Fq.mpr rfl];exact ue (jw _ _ ⟨rfl,sD.trans gm⟩)
  rintro d uz ⟨rfl,gm⟩;have VA:=Kd.trans gm;have OE:=gm _ _ (s9 _ _ eN);refine aL (λd e=>X2 λv7 u=>d=[aa sc,aa p,iq (0+(i:Int)),aa a,cg x,aa G,aa N,v7,u]/\ae uz e) ?_ ?_
  ·intro r_ jw;refine .inl ⟨_,.inl (ai.of OE),_,rfl,by simp<;>lia,by simp<;>lia,?_⟩;refine cB (iN 0 _) (λj d e=>X2 λv7 u=>d=[aa sc,aa p,iq (0+(i:Int)),aa a,cg x,aa G,aa N,v7,u]/\ae uz e) ⟨v7,u,rfl,ae.refl _⟩ (λ_ _ _ _ _=>trivial) ?_ (λd e h=>jw _ _ h);rintro j d xq hj ⟨w7,w8,rfl,lz⟩;have BY:j<m:=by simp at hj;lia
   refine⟨_,rfl,Or.inr (Or.inl ⟨N,_,rfl,ai.of (lz _ _ OE),λS hS=>?_⟩)⟩;have ag:=ae.upd hS (.lst (qd (((List.range m).map h_).map V.str) none (some (0+(j:Int)))));have zg:upd xq S (.lst (qd (((List.range m).map h_).map V.str) none (some (0+(j:Int))))) S=be (((List.range j).map h_).map V.str):=by rw[aA,show(0:Int)+(j:Int)=(j:Int)by lia,vG,<- List.map_take,<- List.map_take,List.take_range,Nat.min_eq_left (by lia)]
   generalize upd xq S (.lst (qd (((List.range m).map h_).map V.str) none (some (0+(j:Int)))))=yn at ag zg;refine .inl ⟨⟨_,ai.of zg⟩,?_⟩;refine cB (bI (((List.range j).map h_).map V.str)) (λl d e=>∃u,d=[aa sc,aa p,iq (0+(i:Int)),aa a,cg x,aa G,aa N,iq (0+(j:Int)),u]/\ae yn e) ⟨w8,rfl,ae.refl _⟩ (by rintro l d e _ ⟨_,_,s⟩;exact ai.of (s _ _ zg)) ?_ (by rintro d e ⟨_,Y,h2⟩;exact⟨_,_,Y,lz.trans (ag.trans h2)⟩);rintro l d xr hl ⟨u8,rfl,A7⟩;have wz:l<j:=by simpa using hl
   have eg:(((List.range j).map h_).map V.str).getD l .ao=.str (h_ l):=by rw[Qb,Qq,Qq,List.getElem?_range wz];rfl
   rw[eg];have sN:=lz.trans (ag.trans A7);have VB:=rf.tk (VA.trans sN).ts;have Ke:∀k,k<m->h_ k∈(List.range m).map h_:=λk hk=>Z2.mpr ⟨k,Qag.mpr hk,rfl⟩;refine⟨_,_,.inl (ai.of (sN _ _ OE)),(show qe _ (0+(j:Int))=cg (h_ j)from ?_),G,G,g,g,lr,lr,_,_,WW,WW,h_ l,h_ j,rfl,VB,VB,hw,hw,Ke l (by lia),Ke j BY,λyo ua h0=>?_,λR O w yo ua o sv lw=>?_⟩
   ·rw[show(0:Int)+(j:Int)=(j:Int)by lia];exact dP (by rw[Qq,Qq,List.getElem?_range BY];rfl)
   ·exfalso;rw[ab,ab]at h0;have:=mL (ap _ (Ke l (by lia)) _ (Ke j BY) h0)
    lia
   ·exact⟨_,rfl,ue ⟨_,rfl,A7.trans ua⟩⟩
  rintro d xq ⟨w7,w8,rfl,lz⟩;have HC:=VA.trans lz;have VC:=s6.trans HC;have bm:=OB.tk VC.ts;have bn:=rf.tk HC.ts;refine aL (λd e=>d=[aa sc,aa p,iq (0+(i:Int)),aa a,cg x,aa G,aa N,w7,w8]/\ae xq e) ?_ ?_
  ·intro r_ jw;refine⟨a,G,xs,g,F,lr,ns,_,WW,WW,x,"ka",rfl,bm,bn,hw,hw,hx,Ka,λyo ua h0=>?_,λR O w yo ua o sv lw=>?_⟩
   ·exact⟨_,rfl,ue (jw _ _ ⟨rfl,ua⟩)⟩
   ·exfalso;rw[ab]at lw;obtain⟨⟨mm,Y,h2⟩,_⟩:=lw;exact Vx _ _ Y h2
  rintro d yn ⟨rfl,ag⟩;have OF:=VC.trans ag;refine⟨a,xs,F,ns,WW,x,rfl,OB.tk OF.ts,hw,hx,OA.same OF,CG.same OF,λT2 b3 q2 xr HB A7 bp _ _ _ OG=>?_⟩;have t:=(bk q2).resolve_right λz=>z bp;rw[<- t]at OG;refine⟨4,T2,G,by decide,rfl,rfl,RV.IB OG.rv (rf.rv.tk ((HC.trans ag).trans A7).ts) OG.at_ (((HC.trans ag).trans A7) _ _ rf.at_),_,rfl,ue ?_⟩;have Kf:=(HC.trans ag).trans A7;have OH:=s6.trans Kf;refine⟨G,g,lr,_,WW,"ka",rfl,rf.tk Kf.ts,hw,Ka,OA.same OH,CG.same OH,λT3 b4 q3 yo D9 ua VD _ _ _ Kg=>?_⟩;rw[ab]at VD Kg;rw[Vy q3 VD,Vw]at Kg;refine⟨4,T3,G,by decide,rfl,rfl,RV.IB Kg.rv (rf.rv.tk (Kf.trans ua).ts) Kg.at_ ((Kf.trans ua) _ _ rf.at_),_,rfl,ue ?_⟩;exact⟨_,_,_,_,_,_,_,rfl,(rj.same (OH.trans ua)).mono (by lia)⟩
end
theorem Bn{K:Q0}(X:K.In h)(G:h.Ns mainGlobals mg)(e:look K=want w):uk K mg w:=by
 obtain⟨eF,e⟩:=h1 e;obtain⟨eV,e⟩:=h1 e;obtain⟨eT,e⟩:=h1 e;obtain⟨eD,e⟩:=h1 e;obtain⟨eN,e⟩:=h1 e;obtain⟨eR,e⟩:=h1 e;obtain⟨eU,e⟩:=h1 e;obtain⟨eC,e⟩:=h1 e;have b:=e;obtain⟨ts,r1,r2,r3⟩:=Rf X G eR rfl;have a:=wJ (as:=yz K qt) X;have d:=xT X G eR 0 (x:="FROM") rfl;have f:=xT X G eR 1 (x:="TO") rfl;obtain⟨agA,aie,agB,agC,rE⟩:=ti a G (sQ eD 0 (x:="STEP_WORDS") rfl) rfl (by decide+kernel);obtain⟨aif,rfl,agD⟩:=Rb agC;obtain⟨aih,rfl,agE⟩:=Rb agD;obtain rfl:=HF agE;refine⟨ts,r2,by rw[r1];exact Qt eU,?_,λH c=>⟨Rg (r3 0 "FROM" _ rfl) c,Rg (r3 1 "TO" _ rfl) c⟩⟩;rw[r1];exact⟨nn a G eN 0,
  nn a G eN 1,
  nn a G eN 2,
  nn a G eN 3,
  nn a G eN 4,
  nn a G eN 5,
  nn a G eN 6,
  nn a G eN 7,
  nn a G eN 8,
  nn a G eN 9,
  nn a G eN 10,
  vl a G eV 0,
  tu a G eT 0,
  d,
  f,
  ⟨agA,agB,rE⟩,
  Dr a G eF 0,
  Dr a G eF 1,
  Dr a G eF 2,
  su a G eF 3,
  Dr a G eF 4,
  su a G eF 5,
  su a G eF 6,
  su a G eF 7,
  su a G eF 8,
  Q_ a G eF 9,
  Dr a G eF 10,
  su a G eF 11,
  su a G eF 12,
  su a G eF 13,
  su a G eF 14,
  Dr a G eF 15,
  Q_ a G eF 16,
  su a G eF 17,
  su a G eF 18,
  su a G eF 19,
  su a G eF 20,
  su a G eF 21,
  su a G eF 22,
  su a G eF 23,
  sg a G eF 24,
  su a G eF 25,
  Dr a G eF 26,
  vi a G eC 0,
  t0 a G eC 1,
  L4 a G b 0,
  L4 a G b 1,
  Bz a G b 2,
  L4 a G b 3⟩
theorem walk:PySem.W.WalkO view ["STEP_WORDS"] XP (Ai look want).says zj.row.toRowW CP [] (λf vs=>PySem.call f vs):=
 FR (l:=zj) (n:=63) (k:=14) (x:="script") rfl (by decide) rfl ⟨rfl,by decide,by decide,rfl⟩ λw d q h K X e G g=>by
  obtain⟨ts,Ah,nd,T,hk⟩:=Bn X G e;obtain⟨f,fd,Fu,m,b⟩:=T.S1;rw[show CP.name="law" from rfl,m]at g;cases g;refine⟨ts,fd,J_ (without K (ts.map (·.1))) d,Ah,nd,λs u=>?_,λc r t=>?_,λH a i j o p=>⟨a,i,rfl,p,j,hk H o,λ_=>rfl⟩⟩
  ·obtain⟨oc,od,kV,doc,pm,an,bf,ct,vg,rfl,lk,ve⟩:=Fu.ex;exact .of_eq rfl
  ·obtain⟨f',fd',G',m',k',b',oc',od',aik,VH⟩:=(vu T:bq zj.prog w (without K (ts.map (·.1))) d c 14 "law" ["script"] (J_ (without K (ts.map (·.1))) d))
   rw[m]at m';cases m';have e:fd=fd':=by
    obtain⟨oc,od,kV,doc,pm,an,bf,ct,vg,e1,lk,ve⟩:=Fu.ex;rw[lk]at VH;have:=QE VH;injection this with _ _ h3 _;injection h3
   rw[e];exact G'
end T1
open PySem PySem.W PyProof.Rows L2
set_option maxRecDepth 100000 in
set_option maxHeartbeats 0 in
theorem PySem.Challenge.cw_coilkind_k27_least_tellings_holds : PySem.Challenge.rw_coilkind_k27_least_tellings.Holds := by
 refine PySem.W.holds_law T1.said λsaid=>?_;exact PySem.W.holds_open (q:=T1.view) (loose:=["STEP_WORDS"]) (Xt:=λs=>xlAt T1.view [] s&&recOk [] s) (XP:=XL T1.view []) (Yf:=(Ai T1.look T1.want).obs) (Ya:=(Ai T1.look T1.want).val) (YP:=(Ai T1.look T1.want).says) (N:=3250)
  (Et "special-get-raises" T1.agx T1.agy) (Ai T1.look T1.want).of (Ai T1.look T1.want).keeps (λs e=>xl_of s (Qax.mp e).1) XL.keeps T1.hdef T1.hprog T1.hkw (λs e=>recFacts_of (Qax.mp e).2) rfl (by assumption) T1.hok T1.hbare T1.agG T1.walk
