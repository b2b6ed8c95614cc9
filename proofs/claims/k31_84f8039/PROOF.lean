import PyProof.Rows.All
import Wide.All
import OpenK.AllK
import Wide.FinOn
import Lean
import PyProof.EqAt
import PyProof.EqKinds
import PyProof.TupleCall
import PyProof.DictCompW
import PyProof.AutoListH
import PyProof.EnumMake
import PyProof.ZipIter
import PyProof.AttrMissSeq
import KE.KDictOf
import PyProof.ReprLen
import PyProof.StrLawsRepr
import KE.KUnpackStar
import PyProof.DictWalks
import PyProof.Rows.DictUnroll
import PyProof.Rows.Range3
import PyProof.Rows.ChunkEnd
import PyProof.Rows.ChunkLeaf
import PyProof.StrCalls2
import PyProof.StrLawsTight
import PyProof.StrLawsChain
import PyProof.Rows.StrSplitJoin
import PyProof.Conv_int_bool
import PyProof.Rows.TupMore
import PyProof.StrLawsIn
import PyProof.Rows.StrCut
import PyProof.StrCalls
import PyProof.CallFns
import PyProof.FString5
import PyProof.NsCount
import PyProof.Rows.SetFrom
import PyProof.SetRoads
import KE.KRevIter
import PyProof.CollectIter
import PyProof.TupleOfGen
import KE.KItemsList
import PyProof.NeKinds
import PyProof.DictItems
import KE.KPairComp
import PyProof.DictValues
import PyProof.SumWalk
import PyProof.ConsumeWalk
import PyProof.SumAny
import PyProof.FactsAll.range_2
import PyProof.WalksMore
import PyProof.MinMaxWalk
import PyProof.SeqI3
import KE.KDictList
import KE.KDictLaws
import PyProof.SetKind
import PyProof.TupleKey
import PyProof.IsRules
import KE.KSortTup
import KE.KSetDisp
import KE.KStrOpen
import PyProof.NeData
import PyProof.Draws
import PySem.Challenge.RW_coilkind_k31_whole_taken_apart
set_option Elab.async false
set_option linter.all false
set_option maxRecDepth 100000
section
open PySem PySem.Spec PyProof.Rows
abbrev Qa := @List.getElem?_eq_getElem
abbrev Qb := @List.getD_eq_getElem?_getD
abbrev Qc := @Heap.get?_push_of_some
abbrev Qd := @Heap.get?_push_size
abbrev Qe := @List.getElem_append_left
abbrev Qf := @List.getElem_append_right
abbrev Qg := @List.getElem?_append_left
abbrev Qh := @List.mem_cons_of_mem
abbrev Qi := @List.getElem_of_mem
abbrev Qj := @List.getElem_mem
abbrev Qk := @List.length_append
abbrev Ql := @List.length_map
abbrev Qm := @List.map_append
abbrev Qn := @List.map_map
abbrev Qo := @List.take_length
abbrev Qp := @List.mem_cons
abbrev Qq := @List.getElem?_map
abbrev Qr := @List.getElem_map
abbrev Qs := @List.take_add_one
abbrev Qt := @of_decide_eq_true
abbrev Qw := @decide_eq_true
abbrev Qx := @decide_eq_false
abbrev Qy := @Nat.lt_of_succ_lt
abbrev Qz := @Nat.le_refl
abbrev QA := @Heap.lt_size
abbrev QB := @List.mem_nil_iff
abbrev QC := @Function.comp_def
abbrev QD := @List.mem_of_getElem?
abbrev QE := @Option.some.inj
abbrev QF := @Bool.false_xor
abbrev QH := @PyProof.Rows.boot_tuple
abbrev QJ := @PySem.F.plainAttrs_list
abbrev QK := @PySem.F.slot_list_append
abbrev QL := @PySem.F.type_list_append
abbrev QM := @sizeLine_eq
abbrev QQ := @List.append_assoc
abbrev QR := @List.append_nil
abbrev QS := @List.eq_nil_of_length_eq_zero
abbrev QT := @wpAny_bind
abbrev QU := @wpAny_pure
abbrev Q0 := PySem.W.Frag
end
variable{prog P:PySem.Program}{w:PySem.World}{A:PySem.Around}{E Q:PySem.Value->PySem.Shared->Prop}{s:PySem.Shared}{us:List PySem.Value}{u:PySem.Value}{a b it p C l c:PySem.Addr}{o:PySem.Obj}{h M base:PySem.Heap}{α κ:Type}{x name z:PySem.Str}{B:List (PySem.Addr×PySem.Obj)}{t' i j n ep:Nat}{ch fp:List PySem.Addr}{N ns ps own N' ws:List PySem.Str}{e tg iter:PySem.Expr}{op:PySem.CmpOp}{es ifs yo:List PySem.Expr}{pos' Bk apos cpos:PySem.Pos}{body:List PySem.Stmt}{f:PySem.Str->List (List PySem.Str×PySem.Str)}{mA mg:PySem.Str->Option PySem.Value}{pl:PySem.Sem Bool}{R:PySem.Result->PySem.Shared->Prop}{kw:List (PySem.Str×PySem.Value)}{env:PySem.Env}{fd:PySem.FuncData}{F:PySem.Scope}{T:String}{vs ys:Array PySem.Value}{XP:(PySem.Str->Option PySem.Value)->PySem.Heap->Prop}{idx:List Nat}{G:Array PySem.GenState->Array PySem.GenState->Prop}{ss mem:List (List PySem.Str)}{q:List PySem.Str×PySem.Str}{J:PySem.Str->Nat}{tp:Bool}
section
open PySem PySem.Spec PyProof.Rows
abbrev Yy:=@List.mem_map
abbrev W3:=@List.mem_append
abbrev qI:=@List.mem_singleton
abbrev yH:=@Bool.false_ne_true
abbrev yJ:=@List.size_toArray
abbrev yT:=@Nat.ne_of_lt
abbrev xA:=@List.map_cons
abbrev xX:=@List.mem_cons_self
abbrev wW:=@List.pairwise_map
abbrev uI:=@List.getElem_cons_zero
abbrev u6:=@List.getElem?_eq_some_iff
abbrev jK:=@List.nodup_cons
abbrev jZ:=@Nat.lt_of_lt_of_le
abbrev Qaa:=@List.length_take
abbrev Qab:=@List.take_of_length_le
abbrev Qac:=@List.pairwise_iff_getElem
abbrev Qad:=@List.mem_filter
abbrev Qae:=@PySem.boot_len
abbrev Qaf:=@List.length_cons
abbrev Qag:=@Nat.le_trans
abbrev Qah:=@Nat.ne_of_gt
abbrev Qai:=@Array.length_toList
abbrev Qaj:=@Nat.zero_le
abbrev Qak:=@Bool.false_eq_true
abbrev Qal:=@List.lookup_cons
abbrev Qam:=@List.ext_getElem
abbrev Qan:=@List.cons.inj
abbrev Qao:=@List.map_singleton
abbrev Qap:=@List.mem_append_right
abbrev Qaq:=@Nat.lt_succ_of_lt
abbrev Qar:=@Nat.sub_self
abbrev Qas:=@Sum.inr.inj
abbrev Qat:=@Heap.SameBut.update
abbrev Qau:=@PyProof.Rows.callWith_type1
abbrev Qav:=@PySem.F.plainAttrs_dict
abbrev Qaw:=@List.mem_range
abbrev Qax:=@List.find?_cons
abbrev Qay:=@Bool.and_eq_true_iff
abbrev Qaz:=@List.exists_cons_of_length_pos
abbrev QaA:=@Option.map_eq_some_iff
abbrev QaB:=@List.find?_cons_of_neg
abbrev QaC:=@Heap.get?_update_self
abbrev QaD:=@List.length_singleton
abbrev QaE:=@PySem.F.slot_dict_setdefault
abbrev QaF:=@List.getElem?_append_right
abbrev QaG:=@List.getElem_take
abbrev QaH:=@List.nodup_append
abbrev QaI:=@List.mem_of_find?_eq_some
abbrev QaJ:=@Array.getElem?_toList
abbrev QaK:=@List.length_filter_le
abbrev QaL:=@List.getElem_inj
abbrev QaM:=@Bool.and_eq_true
abbrev QaN:=@PySem.F.slot_dict_values
abbrev QaO:=@Int.toNat_natCast
abbrev QaP:=@List.filterMap_cons
abbrev QaQ:=@PySem.mem_of_lookup
abbrev QaR:=@List.cons_append
abbrev QaS:=@Heap.size_push
abbrev QaT:=@Prod.mk.inj
abbrev QaU:=@Nat.lt_irrefl
abbrev QaV:=@Classical.axiomOfChoice
abbrev QaW:=@PySem.evalArgs_none
abbrev QaX:=@List.nodup_nil
abbrev QaY:=@Heap.get?_update_other
abbrev QaZ:=@List.length_set
abbrev Qa0:=@Option.map_some
abbrev Qa1:=@List.cons.injEq
abbrev Qa2:=@List.foldl_append
abbrev Qa3:=@Classical.byContradiction
abbrev Qa4:=@Around.under_plainId
abbrev Qa5:=@List.mem_of_mem_take
abbrev Qa6:=@List.any_eq_true
abbrev Qa7:=@List.getElem_zip
abbrev Qa8:=@List.not_mem_nil
abbrev Qa9:=@PySem.F.slot_dict_items
abbrev Qba:=@Prod.mk.injEq
abbrev Qbb:=@Bool.eq_iff_iff
abbrev Qbc:=@List.find?_eq_none
abbrev Qbd:=@List.find?_eq_some_iff_getElem
abbrev Qbe:=@List.pairwise_cons
abbrev Qbf:=@PySem.F.args_dict_setdefault_3
abbrev Qbg:=@List.length_zip
abbrev Qbh:=@List.getElem_of_eq
abbrev Qbi:=@Int.emod_lt_of_pos
abbrev Qbj:=@List.nil_append
abbrev Qbk:=@Nat.le_succ
abbrev Qbl:=@List.find?_cons_of_pos
abbrev Qbm:=@List.filter_cons
abbrev Qbn:=@Around.in1_units
abbrev Qbo:=List Str
abbrev Qbp:=List Value
abbrev Qbq:=List Addr
abbrev Qbr:=Option Value
abbrev Qbs:=List Nat
end
namespace L2
open PySem PySem.Spec PyProof.Rows
inductive KI where
 |i (n:Int)
 |no
 deriving DecidableEq
instance:Coe Int KI:=⟨KI.i⟩
abbrev Key:=Sum KI Str
end L2
variable{xs:List (List L2.Key×PySem.Addr×PySem.Value)}
namespace L2
open PySem PySem.Spec PyProof.Rows
def R8:Value->Bool
 | .none=>true
 |_=>false
def Bl:Key->Value->Bool
 | .inl (.i k),v=>Value.isInt k v
 | .inl .no,v=>R8 v
 | .inr x,v=>Value.isStrOf x v
def AE(w:World):Key->Int
 | .inl (.i k)=>hashInt k
 | .inl .no=>4238894112
 | .inr x=>hashStr w x
theorem bG:∀{k:Key}{v:Value},Bl k v=true->(∃i t,k=Sum.inl (KI.i i)/\v=Value.int i t)\/(∃x t,k=Sum.inr x/\v=Value.str x t)\/(k=Sum.inl KI.no/\v=Value.none)
 | .inl (.i i),v,h=>by
  obtain⟨t,e⟩:=Value.isInt_shape (k:=i) (v:=v) h;exact .inl ⟨i,t,rfl,e⟩
 | .inl .no,v,h=>by
  cases v<;>first|exact .inr (.inr ⟨rfl,rfl⟩)|(exact nomatch(show false=true from h))
 | .inr x,v,h=>by
  obtain⟨t,e⟩:=Value.isStrOf_shape (x:=x) (v:=v) h;exact .inr (.inl ⟨x,t,rfl,e⟩)
theorem yC(i:Int)(t:Tok):Bl (.inl (KI.i i)) (.int i t)=true:=by simp[Bl,Value.isInt]
theorem wM(x:Str)(t:Tok):Bl (.inr x) (.str x t)=true:=by simp[Bl,Value.isStrOf]
theorem R9{Q:Int->Shared->Prop}(h:Q 4238894112 {s with toks:=s.toks+1}):wpAny (model prog w) A (PySem.pyHash .none) Q E s:=
 PySem.W.pyHash_slot (T:="NoneType") rfl PySem.F.slot_NoneType_hash PySem.F.entry_NoneType_hash (PySem.F.args_NoneType_hash_1 _) (beq_builtin_none _) (.inl rfl) (QT (QU (QT (wpAny_mkInt (QU ⟨_,_,rfl,h⟩)))))
theorem R_(a b:Int):decide ((Sum.inl (KI.i a):Key)=Sum.inl (KI.i b))=(a==b):=by
 by_cases e:a=b
 ·subst e;simp
 ·have h:¬(Sum.inl (KI.i a):Key)=Sum.inl (KI.i b):=λq=>e (KI.i.inj (Sum.inl.inj q));rw[Qx h];exact(beq_eq_false_iff_ne.mpr e).symm
theorem Sa(a b:Str):decide ((Sum.inr a:Key)=Sum.inr b)=decide (a=b):=by
 by_cases e:a=b
 ·subst e;simp
 ·have h:¬(Sum.inr a:Key)=Sum.inr b:=λq=>e (Qas q);rw[Qx h,Qx e]
theorem yW(a:KI)(b:Str):decide ((Sum.inl a:Key)=Sum.inr b)=false:=Qx (λq=>nomatch q)
theorem Mw(a:Str)(b:KI):decide ((Sum.inr a:Key)=Sum.inl b)=false:=Qx (λq=>nomatch q)
theorem Sb(a:Int):decide ((Sum.inl (KI.i a):Key)=Sum.inl KI.no)=false:=Qx (λq=>nomatch q)
theorem Sd(a:Int):decide ((Sum.inl KI.no:Key)=Sum.inl (KI.i a))=false:=Qx (λq=>nomatch q)
def c_(prog:Program)(w:World):PySem.KeyKind prog w Key where
 is:=Bl
 hash:=AE w
 inj:=λv a b ha hb=>by
  rcases bG ha with⟨i,t,rfl,rfl⟩|⟨x,t,rfl,rfl⟩|⟨rfl,rfl⟩<;>rcases bG hb with⟨j,u,rfl,e⟩|⟨y,u,rfl,e⟩|⟨rfl,e⟩<;>first|rfl|(injection e with e1 _;rw[e1];done)|exact nomatch e
 byValue:=λk v h=>by
  rcases bG h with⟨i,t,rfl,rfl⟩|⟨x,t,rfl,rfl⟩|⟨rfl,rfl⟩<;>rfl
 pyHash:=λhv h=>by
  rcases bG hv with⟨i,t,rfl,rfl⟩|⟨x,t,rfl,rfl⟩|⟨rfl,rfl⟩
  ·exact wpAny_pyHash_int h
  ·exact wpAny_pyHash_str h
  ·exact R9 h
 eqBool:=λhu hv h=>by
  rcases bG hu with⟨i,t,rfl,rfl⟩|⟨x,t,rfl,rfl⟩|⟨rfl,rfl⟩
  ·rcases bG hv with⟨j,u,rfl,rfl⟩|⟨y,u,rfl,rfl⟩|⟨rfl,rfl⟩
   ·rw[R_]at h;exact wpAny_eqBool_int h
   ·rw[yW]at h;exact SeqAt.EqAt.int_str i t y u _ _ _ _ h
   ·rw[Sb]at h;exact SeqAt.EqAt.int_none i t _ _ _ _ h
  ·rcases bG hv with⟨j,u,rfl,rfl⟩|⟨y,u,rfl,rfl⟩|⟨rfl,rfl⟩
   ·rw[Mw]at h;exact SeqAt.EqAt.str_int x t j u _ _ _ _ h
   ·rw[Sa]at h;exact wpAny_eqBool_str h
   ·rw[Mw]at h;exact SeqAt.EqAt.str_none x t _ _ _ _ h
  ·rcases bG hv with⟨j,u,rfl,rfl⟩|⟨y,u,rfl,rfl⟩|⟨rfl,rfl⟩
   ·rw[Sd]at h;exact SeqAt.EqAt.none_int j u _ _ _ _ h
   ·rw[yW]at h;exact SeqAt.EqAt.none_str y u _ _ _ _ h
   ·exact SeqAt.EqAt.same _ _ _ _ _ (by simpa using h)
 «strs»:=λk x t v h=>by
  rcases bG h with⟨i,u,rfl,e⟩|⟨y,u,rfl,e⟩|⟨rfl,e⟩
  ·exact nomatch e
  ·injection e with e1 _;subst e1;cases v<;>rfl
  ·exact nomatch e
theorem t7(prog:Program)(w:World)(i:Int)(t:Tok):(c_ prog w).is (.inl (KI.i i)) (.int i t)=true:=yC i t
theorem fE(prog:Program)(w:World)(x:Str)(t:Tok):(c_ prog w).is (.inr x) (.str x t)=true:=wM x t
inductive V where
 |aq|bl (b:Bool)|int (i:Int)|str (x:Str)|qp (b:Array UInt8)|Gy (b:UInt64)|ref (a:Addr)|ty (n:String)
 deriving DecidableEq
abbrev Qbu:=List (List Key×V)
abbrev Qbv:=List (Key×V)
abbrev Qbw:=List (Str×V)
abbrev Qby:=List V
abbrev Qbz:=Option V
def RelV:V->Value->Prop
 | .aq,u=>u=Value.none
 | .bl b,u=>u=Value.bool b
 | .int i,u=>∃t,u=Value.int i t
 | .str x,u=>∃t,u=Value.str x t
 | .qp b,u=>∃t,u=Value.bytes b t
 | .Gy b,u=>∃t,u=Value.float b t
 | .ref a,u=>u=Value.ref a
 | .ty n,u=>u=Value.type n
abbrev bg:Qby->Qbp->Prop:=Paired RelV
theorem bg.length{xs:Qby}{us:Qbp}(r:bg xs us):xs.length=us.length:=Paired.length r
theorem bg.get:∀{xs:Qby}{us:Qbp}{i:Nat}{x:V},bg xs us->xs[i]? =some x->∃u,us[i]? =some u/\RelV x u
 |_,_,_,_,.nil,e=>by simp at e
 |_,_,0,_,.cons r _,e=>by simp at e;subst e;exact⟨_,rfl,r⟩
 |_,_,i+1,x,.cons _ t,e=>by
  obtain⟨u,O,Y⟩:=bg.get (i:=i) (x:=x) t (by simpa using e);exact⟨u,by simpa using O,Y⟩
theorem bg.set{x:V}{u:Value}(r:RelV x u):∀{xs:Qby}{us:Qbp}(i:Nat),bg xs us->bg (xs.set i x) (us.set i u)
 |_,_,_,.nil=>.nil
 |_,_,0,.cons _ t=>.cons r t
 |_,_,i+1,.cons q t=>.cons q (bg.set r i t)
theorem bg.append:∀{xs ys:Qby}{us ws:Qbp},bg xs us->bg ys ws->bg (xs++ys) (us++ws)
 |_,_,_,_,.nil,s=>s
 |_,_,_,_,.cons r t,s=>.cons r (bg.append t s)
theorem bg.take:∀{xs:Qby}{us:Qbp}(n:Nat),bg xs us->bg (xs.take n) (us.take n)
 |_,_,0,_=>.nil
 |_,_,_+1,.nil=>.nil
 |_,_,n+1,.cons r t=>.cons r (bg.take n t)
theorem bg.drop:∀{xs:Qby}{us:Qbp}(n:Nat),bg xs us->bg (xs.drop n) (us.drop n)
 |_,_,0,r=>r
 |_,_,_+1,.nil=>.nil
 |_,_,n+1,.cons _ t=>bg.drop n t
def nq:Qbz->Qbr->Prop
 |some v,some u=>RelV v u
 |none,none=>True
 |_,_=>False
def KV{a:Type}:List (a×V)->List (a×Value)->Prop:=Paired fun(p:a×V)(q:a×Value)=>p.1=q.1/\RelV p.2 q.2
def kV:Key->V
 | .inl (.i i)=>.int i
 | .inl .no=>.aq
 | .inr x=>.str x
inductive HO where
  |lst (xs:Qby)
  |tup (xs:Qby)
  |dK (kvs:Qbv)|dT (kvs:Qbu)
  |set (S:Int->Bool) (n:Nat)
  |ins (C dx:Addr) (fs:Qbw)
  |own (x:Addr)
  |xd (fs:Qbw)
  |met (f x:Addr)
  |IU (lo hi:Int)
  |af (o:Obj) (u:HO)
  |Cc (ps:Array Value)
  |ext (φ:Heap->Prop)
abbrev Hp:=Addr->Option HO
end L2
variable{H U H0:L2.Hp}
namespace L2
open PySem PySem.Spec PyProof.Rows
def upd(H:Hp)(a:Addr)(o:HO):Hp:=λb=>if b=a then some o else H b
theorem aA{o:HO}:upd H a o a=some o:=by unfold upd;rw[if_pos rfl]
theorem aB{o:HO}(h:b≠a):upd H a o b=H b:=by unfold upd;rw[if_neg h]
theorem j0{o u:HO}:upd (upd H a o) a u=upd H a u:=by
 funext b;unfold upd;split<;>rfl
theorem aN{o:HO}(h:H a=some o)(M:H b=none):a≠b:=by
 intro e;subst e;rw[h]at M;cases M
def Bm(h:Heap)(a:Addr):Prop:=∀o,h.get? a=some o->o.dict=none
theorem Bm.new{ob:Obj}(h0:ob.isFreed=false)(a:ob.dict=none):Bm (h.push ob) h.objs.size:=λo q=>by rw[Qd _ h0]at q;cases q;exact a
def cf(H:Hp)(b:Addr)(ys:Qby):Prop:=H b=some (.tup ys)\/∃o,H b=some (.af o (.tup ys))
theorem cf.upd{H:Hp}{b a:Addr}{ys:Qby}{o:HO}(r:cf H b ys)(c:∀u,H b=some u->b≠a):cf (L2.upd H a o) b ys:=by
 rcases r with r|⟨d,r⟩
 ·exact .inl (by rw[aB (c _ r)];exact r)
 ·exact .inr ⟨d,by rw[aB (c _ r)];exact r⟩
section
variable(P:Program)(w:World)
def bx(H:Hp)(h:Heap)(a:Addr):HO->Prop
 | .lst xs=>xs.length<=sizeLine/\∃(b:Qbp)(n:Nat),bg xs b/\h.get? a=some {cls:=.type "list",data:=.seq b.toArray n}
 | .tup xs=>(xs.length<=sizeLine/\Bm h a)/\∃b:Qbp,bg xs b/\IsTup h a b.toArray
 | .dK kvs=>kvs.length<=sizeLine/\(a==sysModules)=false/\∃vs,KV kvs vs/\h.DictOf (c_ P w) a vs
 | .dT kvs=>kvs.length<=sizeLine/\(a==sysModules)=false/\∃xs:List (List Key×Addr×Value),
   Paired (fun(p:List Key×V)(q:List Key×Addr×Value)=>p.1=q.1/\cf H q.2.1 (p.1.map kV)/\RelV p.2 q.2.2) kvs xs/\
   ∃o es ep,h.get? a=some o/\o.ExactDict/\o.data=.dict es ep/\es.toList=xs.map (entryOfKey (tupleKind (c_ P w)))/\(xs.map (·.1)).Nodup
 | .set S n=>h.SetOf (intKind P w) a S n
 | .ins C dx fs=>H dx=some (.own a)/\fs.length<=1000/\dx≠a/\h.get? a=some (PySem.W.instObj C dx)/\
   ∃mA,h.Ns1 dx mA/\(∀f,nq (fs.lookup f) (mA f))/\PySem.Within mA (fs.map (·.1))
 | .own _=>∃o,h.get? a=some o
 | .xd fs=>∃mA,h.Ns1 a mA/\∀f,nq (fs.lookup f) (mA f)
 | .IU lo hi=>∃t u v,h.get? a=some {cls:=.type "range",data:=.fields #[.int lo t,.int hi u,.int 1 v]}
 | .af o u=>h.get? a=some o/\bx H h a u
 | .Cc ps=>h.get? a=some {cls:=.none,data:=.fields ps}
 | .met f x=>h.get? a=some (PySem.W.methodObj (.ref f) (.ref x))
 | .ext φ=>φ h/\(∃o,h.get? a=some o)/\∀O Y:Heap,φ O->(∀o,O.get? a=some o->Y.get? a=some o)->φ Y
def fg(H:Hp)(h:Heap):Prop:=∀a o,H a=some o->bx P w H h a o
end
section
variable{o:HO}
theorem bx.lt(x:bx P w H h a o):a<h.objs.size:=by
 cases o with
 |lst xs=>obtain⟨_,_,_,_,e⟩:=x;exact QA e
 |tup xs=>obtain⟨_,_,_,p⟩:=x;exact p.lt
 |dK kvs=>obtain⟨_,_,_,_,o,_,_,e,_⟩:=x;exact QA e
 |dT kvs=>obtain⟨_,_,_,_,o,_,_,e,_⟩:=x;exact QA e
 |set S n=>obtain⟨o,_,_,_,e,_⟩:=x;exact QA e
 |ins C dx fs=>obtain⟨_,_,_,e,_⟩:=x;exact QA e
 |own y=>obtain⟨_,e⟩:=x;exact QA e
 |xd fs=>obtain⟨_,⟨_,_,_,e,_⟩,_⟩:=x;exact QA e
 |IU lo hi=>obtain⟨_,_,_,e⟩:=x;exact QA e
 |af ob u=>obtain⟨e,_⟩:=x;exact QA e
 |Cc ps=>exact QA (show h.get? a=some _ from x)
 |met f y=>exact QA (show h.get? a=some _ from x)
 |ext φ=>obtain⟨_,⟨_,e⟩,_⟩:=x;exact QA e
theorem Paired.IV{e g:Type}{F G:e->g->Prop}:∀{c:List e}{d:List g},Paired F c d->(∀a b,F a b->G a b)->Paired G c d
 |_,_,.nil,_=>.nil
 |_,_,.cons r t,f=>.cons (f _ _ r) (Paired.IV t f)
theorem bx.stay(x:bx P w H h a o)(k:∀b u,(b=a\/H b=some (.own a))->h.get? b=some u->M.get? b=some u)
  (g:∀b,H b=some (.own a)->U b=some (.own a)) (i:∀b xs,cf H b xs->cf U b xs):bx P w U M a o:=by
 induction o with
 |lst xs=>obtain⟨z,its,n,r,e⟩:=x;exact⟨z,its,n,r,k _ _ (.inl rfl) e⟩
 |tup xs=>obtain⟨⟨z,nd⟩,its,r,ob,e,c⟩:=x;exact⟨⟨z,λo q=>by rw[k _ _ (.inl rfl) e]at q;cases q;exact nd _ e⟩,its,r,ob,k _ _ (.inl rfl) e,c⟩
 |dK kvs=>obtain⟨z,y,vs,r,ob,es,ep,e,c⟩:=x;exact⟨z,y,vs,r,ob,es,ep,k _ _ (.inl rfl) e,c⟩
 |dT kvs=>
  obtain⟨z,y,xs,r,ob,es,ep,e,c⟩:=x;exact⟨z,y,xs,Paired.IV r λp q z=>⟨z.1,i _ _ z.2.1,z.2.2⟩,ob,es,ep,k _ _ (.inl rfl) e,c⟩
 |set S n=>obtain⟨ob,es,ep,t,e,c⟩:=x;exact⟨ob,es,ep,t,k _ _ (.inl rfl) e,c⟩
 |ins C dx fs=>
  obtain⟨d,z,ne,e,mA,⟨od,es,ep,e2,c⟩,r⟩:=x;exact⟨g _ d,z,ne,k _ _ (.inl rfl) e,mA,⟨od,es,ep,k _ _ (.inr d) e2,c⟩,r⟩
 |own y=>obtain⟨ob,e⟩:=x;exact⟨ob,k _ _ (.inl rfl) e⟩
 |xd fs=>obtain⟨mA,⟨od,es,ep,e,c⟩,r⟩:=x;exact⟨mA,⟨od,es,ep,k _ _ (.inl rfl) e,c⟩,r⟩
 |IU lo hi=>obtain⟨t,u,v,e⟩:=x;exact⟨t,u,v,k _ _ (.inl rfl) e⟩
 |af ob u ih=>obtain⟨e,q⟩:=x;exact⟨k _ _ (.inl rfl) e,ih q⟩
 |Cc ps=>
  have e:h.get? a=some {cls:=.none,data:=.fields ps}:=x;show M.get? a=some {cls:=.none,data:=.fields ps};exact k a _ (.inl rfl) e
 |met f y=>
  have e:h.get? a=some (PySem.W.methodObj (.ref f) (.ref y)):=x;show M.get? a=some (PySem.W.methodObj (.ref f) (.ref y));exact k a _ (.inl rfl) e
 |ext φ=>obtain⟨p,⟨o,e⟩,st⟩:=x;exact⟨st _ _ p λo q=>k _ _ (.inl rfl) q,⟨o,k _ _ (.inl rfl) e⟩,st⟩
theorem fg.lt(x:fg P w H h)(e:H a=some o):a<h.objs.size:=(x a o e).lt
theorem fg.fresh(x:fg P w H h)(e:h.objs.size<=a):H a=none:=by
 cases q:H a with
 |none=>rfl
 |some u=>exact absurd (jZ (x.lt q) e) (QaU _)
theorem fg.kept(x:fg P w H h)(k:∀b u,h.get? b=some u->M.get? b=some u):fg P w H M:=λa o e=>
 (x a o e).stay (λb u _ q=>k b u q) (λ_ q=>q) λ_ _ q=>q
theorem fg.laid(x:fg P w H h)(k:∀b u,h.get? b=some u->M.get? b=some u)(g:h.objs.size<=a)(d:bx P w (upd H a o) M a o):fg P w (upd H a o) M:=λb u e=>by
 have f:=x.fresh g;by_cases hb:b=a
 ·subst hb;rw[aA]at e;cases e;exact d
 ·rw[aB hb]at e;exact(x b u e).stay (λc v _ q=>k c v q) (λc q=>by rw[aB (aN q f)];exact q) λc j q=>q.upd λu i=>aN i f
end
def Rd(H:Hp)(a:Addr)(u:HO):Prop:=H a=some u\/∃o,H a=some (.af o u)
theorem Rd.ok{u:HO}(r:Rd H a u)(x:fg P w H h):bx P w H h a u:=by
 rcases r with r|⟨o,r⟩
 ·exact x a u r
 ·obtain⟨_,q⟩:=x a _ r;exact q
def ER:Option HO->Prop
 |some (.lst _)=>True
 |some (.dK _)=>True
 |some (.dT _)=>True
 |some (.set _ _)=>True
 |some (.ins _ _ _)=>True
 |some (.ext _)=>True
 |_=>False
section
variable{x e:Addr}{o':HO}
theorem fg.write(ok:fg P w H h)(a:ER (H x))(g:e=x\/H e=some (.own x))(k:∀b u,b≠e->h.get? b=some u->M.get? b=some u)(l:∃u,M.get? e=some u)
  (d:bx P w (upd H x o') M x o'):fg P w (upd H x o') M:=λb u q=>by
 have i:∀c y,H c=some (.own y)->c≠x:=λc y r z=>by subst z;rw[r]at a;exact a
 have m:∀c f,H c=some (.tup f)->c≠x:=λc f r z=>by subst z;rw[r]at a;exact a
 by_cases hb:b=x
 ·subst hb;rw[aA]at q;cases q;exact d
 ·rw[aB hb]at q;by_cases Cd:b=e
  ·have j:H b=some (.own x):=by
    rcases g with z|z
    ·exact absurd (Cd.trans z) hb
    ·rw[Cd];exact z
   rw[q]at j;cases j;obtain⟨v,hv⟩:=l;exact⟨v,by rw[Cd];exact hv⟩
  ·refine(ok b u q).stay (λc v hc r=>k c v ?_ r) (λc r=>by rw[aB (i c b r)];exact r) λc f r=>r.upd λ_ _ z=>by
    subst z;rcases r with r|⟨_,r⟩<;>(rw[r]at a;exact a)
   rcases hc with rfl|hc
   ·exact Cd
   ·rintro rfl;rcases g with z|z
    ·exact i c b hc z
    ·rw[hc]at z;cases z;exact hb rfl
end
structure Un(fs ex:Qbq)(H U:Hp)(h M:Heap):Prop where
 keep:∀b o,h.get? b=some o->H b=none->b∉fs->b∉ex->M.get? b=some o
 slot:∀b o,h.get? b=some o->H b=none->b∈fs->b∉ex->∃sl,M.get? b=some {o with slots:=sl}
 free:∀b o,h.get? b=some o->H b=none->b∉ex->U b=none
 there:∀b o,h.get? b=some o->b∉ex->∃o',M.get? b=some o'
 tups:∀b xs,H b=some (.tup xs)->U b=some (.tup xs)
 vy:∀b o u,H b=some (.af o u)->U b=some (.af o u)
 xq:∀b ps,H b=some (.Cc ps)->∃more,U b=some (.Cc (ps++more))
section
variable{fs Se ex ex':Qbq}{H1 H2:Hp}{O Y:Heap}{x e:Addr}{o:HO}
theorem Un.any(u:Un fs ex H H1 h O){ob:Obj}(q:h.get? b=some ob)(n:H b=none)(a:b∉ex):∃c,O.get? b=some {ob with slots:=c}:=by
 by_cases hb:b∈fs
 ·exact u.slot b ob q n hb a
 ·exact⟨ob.slots,u.keep b ob q n hb a⟩
theorem Un.trans(a:Un fs ex H H1 h O)(b:Un fs ex H1 H2 O Y):Un fs ex H H2 h Y where
 keep:=λc ob q n hc hx=>b.keep c ob (a.keep c ob q n hc hx) (a.free c ob q n hx) hc hx
 slot:=λc ob q n hc hx=>by
  obtain⟨sl,e1⟩:=a.slot c ob q n hc hx;obtain⟨IW,e2⟩:=b.slot c _ e1 (a.free c ob q n hx) hc hx;exact⟨IW,e2⟩
 free:=λc ob q n hx=>by
  obtain⟨o',e1⟩:=a.there c ob q hx;exact b.free c o' e1 (a.free c ob q n hx) hx
 there:=λc ob q hx=>by
  obtain⟨o',e1⟩:=a.there c ob q hx;exact b.there c o' e1 hx
 tups:=λc xs q=>b.tups c xs (a.tups c xs q)
 vy:=λc ob xs q=>b.vy c ob xs (a.vy c ob xs q)
 xq:=λc ps q=>by
  obtain⟨m1,e1⟩:=a.xq c ps q;obtain⟨m2,e2⟩:=b.xq c _ e1;exact⟨m1++m2,by rw[e2,Array.append_assoc]⟩
theorem Un.kept(k:∀b u,h.get? b=some u->M.get? b=some u):Un fs ex H H h M:=
 ⟨λb a q _ _ _=>k b a q,λb a q _ _ _=>⟨a.slots,k b a q⟩,λ_ _ _ n _=>n,λb a q _=>⟨a,k b a q⟩,λ_ _ q=>q,λ_ _ _ q=>q,λ_ c q=>⟨#[],by rw[q];simp⟩⟩
theorem Un.refl:Un fs ex H H h h:=Un.kept λ_ _ q=>q
theorem Un.laid(k:∀b u,h.get? b=some u->M.get? b=some u)(hp:h.objs.size<=a)(hn:H a=none):Un fs ex H (upd H a o) h M where
 keep:=λb u q _ _ _=>k b u q
 slot:=λb u q _ _ _=>⟨u.slots,k b u q⟩
 free:=λb u q n _=>by rw[aB (yT (jZ (QA q) hp))];exact n
 there:=λb u q _=>⟨u,k b u q⟩
 tups:=λb xs q=>by rw[aB (aN q hn)];exact q
 vy:=λb u xs q=>by rw[aB (aN q hn)];exact q
 xq:=λb ps q=>⟨#[],by rw[aB (aN q hn),q];simp⟩
theorem Un.write(a:ER (H x))(g:e=x\/H e=some (.own x))(k:∀b u,b≠e->h.get? b=some u->M.get? b=some u)(i:∃u,M.get? e=some u):Un fs ex H (upd H x o) h M:=by
 have d:∀b,H b=none->b≠x:=λb n z=>by subst z;rw[n]at a;exact a
 have f:∀b,H b=none->b≠e:=λb n z=>by
  subst z;rcases g with r|r
  ·exact d b n r
  ·rw[n]at r;cases r
 have c:∀b u,H b=some u->¬ER (some u)->b≠x:=λb u q j z=>by subst z;rw[q]at a;exact j a
 refine⟨λb u q n _ _=>k b u (f b n) q,λb u q n _ _=>⟨u.slots,k b u (f b n) q⟩,λb u q n _=>by rw[aB (d b n)];exact n,λb u q _=>?_,
  λb l q=>by rw[aB (c b _ q λz=>z)];exact q,λb u l q=>by rw[aB (c b _ q λz=>z)];exact q,λb m q=>⟨#[],by rw[aB (c b _ q λz=>z),q];simp⟩⟩
 by_cases Cd:b=e
 ·subst Cd;exact i
 ·exact⟨u,k b u Cd q⟩
end
def o_(h:Heap)(H:Hp):Qbq:=(List.range h.objs.size).filter λa=>(H a).isSome
def AG(h:Heap)(H:Hp):Heap:=PySem.W.hideAll h (o_ h H)
theorem xI(h:Heap)(H:Hp):(AG h H).objs.size=h.objs.size:=PySem.W.hideAll_size _ _
theorem zP(e:h.get? b=some o)(n:H b=none):(AG h H).get? b=some o:=
 PySem.W.hideAll_get _ e λa=>by
  have q:(H b).isSome=true:=(Qad.mp a).2;rw[n]at q;simp at q
theorem Sf(e:(AG h H).get? b=some o):h.get? b=some o/\H b=none:=by
 have a:h.get? b=some o:=PySem.W.of_hideAll (o_ h H) e;refine⟨a,?_⟩;cases q:H b with
 |none=>rfl
 |some x=>
  have c:b∈o_ h H:=Qad.mpr ⟨Qaw.mpr (QA a),by simp[q]⟩;have z:(AG h H).get? b=none:=PySem.W.hideAll_none (o_ h H) c;rw[z]at e;cases e
structure Mod(K:Q0)(mg:Str->Qbr)(base:Heap):Prop where
 ES:K.In base
 glob:base.Ns mainGlobals mg
 blt:∃mb,base.Ns builtinsNs mb/\∀x:Str,x≠"__name__"->mb x=bootBuiltins x
 nolimit:base.NoLimit
structure Cx where
 prog:Program
 w:World
 K:Q0
 mg:Str->Qbr
 base:Heap
 A:Around
 N:Qbo
 s₀:Shared
 H₀:Hp
 env:Env
 outer:List Env
 stack:List Env
 ex:Qbq
 fn:Str->Bool
 calm:Bool
 pn:List (Addr×Obj)
 xe:Value->Shared->Prop
abbrev QbB(X:Cx)(e:Expr)(es:List Expr):Prop:=starEach (e::es) X.env=(false,eval e X.env)::starEach es X.env
abbrev QbC(X:Cx)(p:Pos)(es:List Expr):Prop:=(backTo p (starEach es X.env)).any (·.1)=false
abbrev QbD(X:Cx)(x:Str):Prop:=X.fn x=true\/X.env.scope.names.lookup x=some .local
abbrev QbE(x:Str):Prop:=(x==("__debug__":Str))=false
end L2
variable{X:L2.Cx}
namespace L2
open PySem PySem.Spec PyProof.Rows
def sf(l:List Env):Qbq:=l.filterMap (·.frame)
abbrev Cx.fs(X:Cx):Qbq:=sf X.outer
def Dz(a:Scope)(x:Str):Prop:=a.names.lookup x=some .local\/a.names.lookup x=some .cell\/a.names.lookup x=some .free
def Loc(a:Scope)(x:Str):Prop:=a.names.lookup x=some .local\/a.names.lookup x=some .cell
def Look(env:Env)(h:Heap)(m:Str->Qbr)(x:Str)(u:Value):Prop:=
 (env.kindOf x=some .local/\m x=some u)\/((env.kindOf x=some .cell\/env.kindOf x=some .free)/\∃c,env.cells.lookup x=some c/\h.IsCell c (some u))
structure Cx.Ok(X:Cx):Prop where
 mod:Mod X.K X.mg X.base
 kind:X.env.scope.kind=.function
 glob:X.env.globals=mainGlobals
 blt:X.env.builtins=builtinsNs
 above:X.s₀.heap.objs.size<=X.env.locals
 inj:∀x y c,X.env.cells.lookup x=some c->X.env.cells.lookup y=some c->x=y
 has:∀x,(X.env.kindOf x=some .cell\/X.env.kindOf x=some .free)->∃c,X.env.cells.lookup x=some c
 ET:∀x c,X.fn x=true->X.env.cells.lookup x=some c->X.s₀.heap.objs.size<=c
 hd:X.calm=true->X.A.handled=none
 frames:X.A.frames=some X.stack
 Gz:X.stack=X.outer\/(X.stack=X.env::X.outer/\X.env.frame=some X.env.locals)
 My:∀b∈X.ex,b≠X.env.locals/\∀x c,X.env.cells.lookup x=some c->c≠b
 bs:∀b o,X.base.get? b=some o->X.s₀.heap.get? b=some o/\X.H₀ b=none
 AH:X.base.objs.size<=X.s₀.heap.objs.size
 EU:∀b o,X.base.get? b=some o->b∉X.ex
 GA:∀b∈X.ex,b∉X.fs
 xr:X.s₀.heap.FunFrames X.base X.outer
 Ce:∀b∈X.fs,X.H₀ b=none
structure Inv(X:Cx)(B:List (Addr×Obj))(Z:List Qbz)(H:Hp)(s:Shared):Prop where
 ok:X.Ok
 os:s.os=X.s₀.os
 bare:AllBare s.gens
 base:Un X.fs X.ex X.H₀ H X.s₀.heap s.heap
 loc:∃m,s.heap.Ns X.env.locals m/\∀(i:Nat)(x:Str)(v:V),X.N[i]? =some x->Z[i]? =some (some v)->Dz X.env.scope x->∃u,RelV v u/\Look X.env s.heap m x u
 cell:∀x c,X.env.cells.lookup x=some c->∃v,s.heap.IsCell c v
 free:H X.env.locals=none
 yp:∀x c,X.env.cells.lookup x=some c->H c=none
 pin:∀p∈X.pn++B,s.heap.get? p.1=some p.2/\H p.1=none/\p.1≠X.env.locals/\p.1∉X.fs/\∀v,p.2.data≠.cell v
 hok:fg X.prog X.w H s.heap
 len:Z.length=X.N.length
section
variable{Z:List Qbz}
theorem Cx.Ok.Sg(ok:X.Ok)(e:X.base.get? b=some o):b∉X.fs:=λa=>by
 have:=(ok.xr.mem a).1;rw[e]at this;cases this
theorem Inv.bs(I:Inv X B Z H s):∀b o,X.base.get? b=some o->s.heap.get? b=some o/\H b=none:=λb o e=>
 ⟨I.base.keep b o (I.ok.bs b o e).1 (I.ok.bs b o e).2 (I.ok.Sg e) (I.ok.EU b o e),I.base.free b o (I.ok.bs b o e).1 (I.ok.bs b o e).2 (I.ok.EU b o e)⟩
theorem Inv.bk(I:Inv X B Z H s):∀b o,X.base.get? b=some o->s.heap.get? b=some o:=λb o e=>(I.bs b o e).1
theorem Inv.mod(I:Inv X B Z H s):Mod X.K X.mg X.base:=I.ok.mod
theorem Inv.qt(I:Inv X B Z H s):X.K.In s.heap:=I.ok.mod.ES.keeps I.bk
theorem Inv.lt(I:Inv X B Z H s):X.env.locals<s.heap.objs.size:=let ⟨_,hn,_⟩:=I.loc;hn.lt
theorem Inv.sz(I:Inv X B Z H s):X.s₀.heap.objs.size<=s.heap.objs.size:=Qag I.ok.above (Nat.le_of_lt I.lt)
theorem Inv.Sh(I:Inv X B Z H s)(h:s.heap.objs.size<=a):a∉X.fs:=λb=>by
 obtain⟨_,o,ho,_⟩:=I.ok.xr.mem b;exact absurd (jZ (QA ho) (Qag I.sz h)) (QaU _)
theorem Inv.Cf(I:Inv X B Z H s):∀x c,X.env.cells.lookup x=some c->c≠X.env.locals:=λx c e z=>by
 obtain⟨v,o,ho,hd⟩:=I.cell x c e;obtain⟨m,⟨o',es,ep,yq,IX,_⟩,_⟩:=I.loc;rw[z,yq]at ho;cases ho;rw[IX]at hd;cases hd
theorem Inv.xr(I:Inv X B Z H s):s.heap.FunFrames X.base X.outer:=by
 have all:∀(l:List Env),(∀b∈sf l,b∈X.fs)->X.s₀.heap.FunFrames X.base l->s.heap.FunFrames X.base l:=by
  intro l
  induction l with
  |nil=>intro _ _;trivial
  |cons env r ih=>
   intro d f;obtain⟨hk,⟨L,o,hf,hn,ho,hd⟩,hr⟩:=f;have a:L∈X.fs:=d L (by unfold sf;rw[QaP,hf];exact xX);obtain⟨sl,e⟩:=I.base.slot L o ho (I.ok.Ce L a) a λz=>I.ok.GA L z a;exact⟨hk,⟨L,_,hf,hn,e,hd⟩,ih (λb c=>d b (by unfold sf;rw[QaP,hf];exact Qh _ c)) hr⟩
 exact all X.outer (λ_ c=>c) I.ok.xr
theorem Inv.stack(I:Inv X B Z H s):s.heap.FunFrames X.base X.stack:=by
 rcases I.ok.Gz with e|⟨e,a⟩
 ·rw[e];exact I.xr
 ·rw[e];obtain⟨m,hn,_⟩:=I.loc;refine .cons (by rw[I.ok.kind];decide) a hn ?_ I.xr;exact Heap.get?_none_of_le (Qag I.ok.AH I.ok.above)
theorem Inv.EV(I:Inv X B Z H s):∀b∈sf X.stack,b∈X.env.locals::X.fs:=λb a=>by
 rcases I.ok.Gz with e|⟨e,c⟩
 ·rw[e]at a;exact Qh _ a
 ·rw[e]at a;unfold sf at a;rw[QaP,c]at a;exact a
theorem Inv.Mz(I:Inv X B Z H s):∀b∈sf X.stack,H b=none:=λb hb=>by
 rcases Qp.mp (I.EV b hb)with e|hb
 ·rw[e];exact I.free
 ·obtain⟨_,o,ho,_⟩:=I.ok.xr.mem hb;exact I.base.free b o ho (I.ok.Ce b hb) λz=>I.ok.GA b z hb
theorem Inv.step{g':Array GenState}{d':Drawn}(I:Inv X B Z H s)
  (t:∀b∈ch,(b∈X.ex\/X.s₀.heap.objs.size<=b)/\b≠X.env.locals/\(∀x c,X.env.cells.lookup x=some c->c≠b)/\∀p∈X.pn++B,p.1≠b)
  (keep:∀b o,b≠X.env.locals->b∉X.fs->b∉ch->s.heap.get? b=some o->H b=none->M.get? b=some o)
  (slot:∀b o,b≠X.env.locals->b∈X.fs->b∉ch->s.heap.get? b=some o->H b=none->∃D,M.get? b=some {o with slots:=D}) (free:∀b o,b∉ch->s.heap.get? b=some o->H b=none->U b=none)
  (there:∀b o,b∉ch->s.heap.get? b=some o->∃o',M.get? b=some o')
  (tups:∀b xs,H b=some (.tup xs)->U b=some (.tup xs)) (vy:∀b o u,H b=some (.af o u)->U b=some (.af o u)) (xq:∀b ps,H b=some (.Cc ps)->∃more,U b=some (.Cc (ps++more)))
  (ns:∀m,s.heap.Ns X.env.locals m->M.Ns X.env.locals m) (hok:fg X.prog X.w U M) (L:AllBare g'):
  Inv X B Z U {s with heap:=M,gens:=g',drawn:=d',toks:=t'}:=by
 have G:∀b o,X.s₀.heap.get? b=some o->b≠X.env.locals:=λb o e=>yT (jZ (QA e) I.ok.above);have C:∀b o,X.s₀.heap.get? b=some o->b∉X.ex->b∉ch:=λb o e a h=>by
  rcases(t b h).1 with z|z
  ·exact a z
  ·exact absurd (jZ (QA e) z) (QaU _)
 have f:∀x c,X.env.cells.lookup x=some c->∀v,s.heap.IsCell c v->M.IsCell c v:=λx c e v ⟨o,j,E⟩=>by
  have y:c∉ch:=λz=>(t c z).2.2.1 x c e rfl;by_cases hc:c∈X.fs
  ·obtain⟨D,q⟩:=slot c o (I.Cf x c e) hc y j (I.yp x c e);exact⟨_,q,E⟩
  ·exact⟨o,keep c o (I.Cf x c e) hc y j (I.yp x c e),E⟩
 refine⟨I.ok,I.os,L,⟨λb o e n h a=>?_,λb o e n h a=>?_,λb o e n a=>?_,λb o e a=>?_,λb xs e=>tups b xs (I.base.tups b xs e),λb o xs e=>vy b o xs (I.base.vy b o xs e),λb ps e=>?_⟩,?_,λx c e=>?_,?_,λx c e=>?_,λp K=>?_,hok,I.len⟩
 ·exact keep b o (G b o e) h (C b o e a) (I.base.keep b o e n h a) (I.base.free b o e n a)
 ·obtain⟨D,g⟩:=I.base.slot b o e n h a;obtain⟨IW,A⟩:=slot b _ (G b o e) h (C b o e a) g (I.base.free b o e n a);exact⟨IW,A⟩
 ·obtain⟨o',g⟩:=I.base.there b o e a;exact free b o' (C b o e a) g (I.base.free b o e n a)
 ·obtain⟨o',g⟩:=I.base.there b o e a;exact there b o' (C b o e a) g
 ·obtain⟨m1,g⟩:=I.base.xq b ps e;obtain⟨m2,A⟩:=xq b _ g;exact⟨m1++m2,by rw[A,Array.append_assoc]⟩
 ·obtain⟨m,hn,hl⟩:=I.loc;refine⟨m,ns m hn,λi x v g A N=>?_⟩;obtain⟨u,r,l⟩:=hl i x v g A N;refine⟨u,r,?_⟩;rcases l with l|⟨k,c,e,z⟩
  ·exact .inl l
  ·exact .inr ⟨k,c,e,f x c e _ z⟩
 ·obtain⟨v,z⟩:=I.cell x c e;exact⟨v,f x c e v z⟩
 ·obtain⟨m,⟨o,_,_,j,_⟩,_⟩:=I.loc;exact free _ o (λz=>(t _ z).2.1 rfl) j I.free
 ·obtain⟨v,o,j,E⟩:=I.cell x c e;exact free c o (λz=>(t c z).2.2.1 x c e rfl) j (I.yp x c e)
 ·obtain⟨e,n,ne,nf,d⟩:=I.pin p K;have y:p.1∉ch:=λz=>(t p.1 z).2.2.2 p K rfl;exact⟨keep p.1 p.2 ne nf y e n,free p.1 p.2 y e n,ne,nf,d⟩
theorem Inv.un(I:Inv X B Z H s)(u:Un X.fs [] H U s.heap M)(hok:fg X.prog X.w U M):Inv X B Z U {s with heap:=M,toks:=t'}:=by
 obtain⟨m,⟨o,es,ep,ho,r⟩,_⟩:=id I.loc;obtain⟨sl,hL⟩:=u.any ho I.free (by simp);exact I.step (g':=s.gens) (d':=s.drawn) (ch:=[]) (λ_ z=>nomatch z) (λb o _ a _ e n=>u.keep b o e n a (by simp)) (λb o _ a _ e n=>u.slot b o e n a (by simp)) (λb o _ e n=>u.free b o e n (by simp)) (λb o _ e=>u.there b o e (by simp)) u.tups u.vy u.xq (λd c=>by
  obtain⟨o',es',nu,yq,r'⟩:=c;rw[ho]at yq;cases yq;exact⟨_,es',nu,hL,r'⟩) hok I.bare
theorem Inv.call{g':Array GenState}{d':Drawn}(I:Inv X B Z H s)(u:Un (sf X.stack) ch H U s.heap M)(hok:fg X.prog X.w U M)(g:AllBare g')
  (f:∀b∈ch,(b∈X.ex\/X.s₀.heap.objs.size<=b)/\b≠X.env.locals/\(∀x c,X.env.cells.lookup x=some c->c≠b)/\∀p∈X.pn++B,p.1≠b):
  Inv X B Z U {s with heap:=M,gens:=g',drawn:=d',toks:=t'}:=by
 obtain⟨m,⟨o,es,ep,ho,r⟩,_⟩:=id I.loc;obtain⟨sl,d⟩:=u.any ho I.free λz=>(f _ z).2.1 rfl;exact I.step (ch:=ch) f (λb o d h a e n=>u.keep b o e n (λz=>(Qp.mp (I.EV b z)).elim d h) a) (λb o _ _ a e n=>u.any e n a) (λb o a e n=>u.free b o e n a) (λb o a e=>u.there b o e a) u.tups u.vy u.xq (λj i=>by
  obtain⟨o',es',nu,yq,r'⟩:=i;rw[ho]at yq;cases yq;exact⟨_,es',nu,d,r'⟩) hok g
theorem Inv.turned(I:Inv X B Z H s)(k:∀b o,b≠it->s.heap.get? b=some o->M.get? b=some o)(g:H it=none)(d:it≠X.env.locals)
  (h:it∈X.ex\/X.s₀.heap.objs.size<=it) (i:∀x c,X.env.cells.lookup x=some c->c≠it) (j:∀p∈X.pn++B,p.1≠it):Inv X B Z H {s with heap:=M,toks:=t'}:=by
 have f:∀b u,H b=some u->b≠it:=λb u e z=>by rw[z,g]at e;cases e
 refine I.step (g':=s.gens) (d':=s.drawn) (ch:=[it]) (λb l=>?_) (λb o _ _ a e _=>k b o (λz=>a (by simp[z])) e) (λb o _ _ a e _=>⟨o.slots,k b o (λz=>a (by simp[z])) e⟩) (λ_ _ _ _ n=>n)
  (λb o a e=>⟨o,k b o (λz=>a (by simp[z])) e⟩) (λ_ _ e=>e) (λ_ _ _ e=>e) (λb w e=>⟨#[],by rw[e];simp⟩) (λm t=>?_) (λb u e=>?_) I.bare
 ·have e:b=it:=by simpa using l
  subst e;exact⟨h,d,i,j⟩
 ·obtain⟨o,es,ep,ho,r⟩:=t;exact⟨o,es,ep,k _ o (Ne.symm d) ho,r⟩
 ·refine(I.hok b u e).stay (λc v a q=>k c v ?_ q) (λ_ q=>q) λ_ _ q=>q;rcases a with z|z
  ·rw[z];exact f b u e
  ·exact f c _ z
theorem Inv.tok(I:Inv X B Z H s)(t:Nat):Inv X B Z H {s with toks:=t}:=I.un (M:=s.heap) (t':=t) Un.refl I.hok
theorem Inv.kept{t':Nat}(I:Inv X B Z H s)(k:∀b u,s.heap.get? b=some u->M.get? b=some u):Inv X B Z H {s with heap:=M,toks:=t'}:=I.un (Un.kept k) (I.hok.kept k)
theorem Inv.laid{a:Addr}{o:HO}{t':Nat}(I:Inv X B Z H s)(k:∀b u,s.heap.get? b=some u->M.get? b=some u)(c:s.heap.objs.size<=a)(d:bx X.prog X.w (upd H a o) M a o):
  Inv X B Z (upd H a o) {s with heap:=M,toks:=t'}:=I.un (Un.laid k c (I.hok.fresh c)) (I.hok.laid k c d)
theorem Inv.write{x e:Addr}{o:HO}{t':Nat}(I:Inv X B Z H s)(c:ER (H x))(d:e=x\/H e=some (.own x))(k:∀b u,b≠e->s.heap.get? b=some u->M.get? b=some u)(f:∃u,M.get? e=some u)
  (a:bx X.prog X.w (upd H x o) M x o):Inv X B Z (upd H x o) {s with heap:=M,toks:=t'}:=I.un (Un.write c d k f) (I.hok.write c d k f a)
theorem Inv.MC{a:List (Addr×Obj)}(I:Inv X B Z H s)(h:∀p∈a,s.heap.get? p.1=some p.2/\H p.1=none/\p.1≠X.env.locals/\p.1∉X.fs/\∀v,p.2.data≠.cell v):Inv X a Z H s:=
 ⟨I.ok,I.os,I.bare,I.base,I.loc,I.cell,I.free,I.yp,λp b=>(W3.mp b).elim (λz=>I.pin p (List.mem_append_left _ z)) (h p),I.hok,I.len⟩
theorem rZ(c:N.Nodup)(a:N[i]? =some x)(b:N[j]? =some x):i=j:=by
 obtain⟨O,e1⟩:=u6.mp a;obtain⟨Y,e2⟩:=u6.mp b;exact(QaL c).mp (e1.trans e2.symm)
theorem kG{M:Model}{v:V}{Q:Unit->Shared->Prop}(I:Inv X B Z H s)(hN:X.N.Nodup)(hi:X.N[i]? =some x)(t:Loc X.env.scope x)(r:RelV v u)
  (h:∀s',Inv X B (Z.set i (some v)) H s'->(∃a,Heap.SameBut a s.heap s'.heap/\(a=X.env.locals\/X.env.cells.lookup x=some a))->Q () s') (hf:QbD X x:=by first|exact .inl rfl|exact .inr rfl|assumption):wpAny M A (storeName X.env x u) Q E s:=by
 obtain⟨m,hn,hl⟩:=id I.loc;have Si:(X.env.scope.kind==.class||(X.env.scope.kind==.module&&X.env.locals !=X.env.globals))=false:=by rw[I.ok.kind];rfl
 have ME:i<Z.length:=by rw[I.len];exact(u6.mp hi).1
 have Cf:=I.Cf;have g:∀{a:Addr}{G:Heap},(∃o,s.heap.get? a=some o/\H a=none)->Heap.SameBut a s.heap G->fg X.prog X.w H G:=fun{a G}ha f b ob e=>by
  obtain⟨_,_,MF⟩:=ha;refine(I.hok b ob e).stay (λc K hc q=>(f.2 c ?_).trans q) (λ_ q=>q) λ_ _ q=>q;rintro rfl;rcases hc with rfl|hc
  ·rw[MF]at e;cases e
  ·rw[MF]at hc;cases hc
 rcases t with hk|hk
 ·refine wpAny_storeName_local hk hn (λG Sj f=>?_) Si;obtain⟨oL,_,_,Sk,_⟩:=id hn;refine h _ ⟨I.ok,I.os,I.bare,⟨λb o e n D t=>?_,λb o e n D t=>?_,I.base.free,λb o e t=>?_,I.base.tups,I.base.vy,I.base.xq⟩,⟨_,Sj,λj y P l C R=>?_⟩,λy c e=>?_,I.free,I.yp,λp T=>?_,g ⟨oL,Sk,I.free⟩ f,by simpa using I.len⟩ ⟨_,f,.inl rfl⟩
  ·exact(f.2 b (yT (jZ (QA e) I.ok.above))).trans (I.base.keep b o e n D t)
  ·obtain⟨sl,l⟩:=I.base.slot b o e n D t;exact⟨sl,(f.2 b (yT (jZ (QA e) I.ok.above))).trans l⟩
  ·obtain⟨o',l⟩:=I.base.there b o e t;exact⟨o',(f.2 b (yT (jZ (QA e) I.ok.above))).trans l⟩
  ·by_cases hj:j=i
   ·subst hj;rw[hi]at l;cases l;rw[List.getElem?_set_self ME]at C;cases C;exact⟨u,r,.inl ⟨hk,by simp⟩⟩
   ·rw[List.getElem?_set_ne (Ne.symm hj)]at C;obtain⟨u',r',q⟩:=hl j y P l C R;refine⟨u',r',?_⟩;rcases q with⟨k,e⟩|⟨k,c,e,z⟩
    ·refine .inl ⟨k,?_⟩;have:y≠x:=λe=>hj (rZ hN l (e▸hi));simp[this,e]
    ·exact .inr ⟨k,c,e,z.sameBut f (Cf y c e)⟩
  ·obtain⟨K,z⟩:=I.cell y c e;exact⟨K,z.sameBut f (Cf y c e)⟩
  ·obtain⟨e,n,ne,nf,d⟩:=I.pin p T;exact⟨(f.2 p.1 ne).trans e,n,ne,nf,d⟩
 ·have IY:X.fn x=true:=by
   rcases hf with z|z
   ·exact z
   ·rw[z]at hk;cases hk
  obtain⟨c,hc⟩:=I.ok.has x (.inl hk);obtain⟨K,z⟩:=I.cell x c hc;refine wpAny_storeName_cell I.ok.kind hk hc z (λG yt f=>?_);obtain⟨oc,MG,Sl⟩:=id z;refine h {s with heap:=G} ⟨I.ok,I.os,I.bare,⟨λb o e n D t=>?_,λb o e n D t=>?_,I.base.free,λb o e t=>?_,I.base.tups,I.base.vy,I.base.xq⟩,⟨m,hn.sameBut f (Ne.symm (Cf x c hc)),λj y P l C R=>?_⟩,λy L e=>?_,I.free,I.yp,λp T=>?_,g ⟨oc,MG,I.yp x c hc⟩ f,by simpa using I.len⟩ ⟨c,f,.inr hc⟩
  ·exact(f.2 b (yT (jZ (QA e) (I.ok.ET x c IY hc)))).trans (I.base.keep b o e n D t)
  ·obtain⟨sl,l⟩:=I.base.slot b o e n D t;exact⟨sl,(f.2 b (yT (jZ (QA e) (I.ok.ET x c IY hc)))).trans l⟩
  ·obtain⟨o',l⟩:=I.base.there b o e t;exact⟨o',(f.2 b (yT (jZ (QA e) (I.ok.ET x c IY hc)))).trans l⟩
  ·by_cases hj:j=i
   ·subst hj;rw[hi]at l;cases l;rw[List.getElem?_set_self ME]at C;cases C;exact⟨u,r,.inr ⟨.inl hk,c,hc,yt⟩⟩
   ·rw[List.getElem?_set_ne (Ne.symm hj)]at C;obtain⟨u',r',q⟩:=hl j y P l C R;refine⟨u',r',?_⟩;rcases q with q|⟨k,L,e,z'⟩
    ·exact .inl q
    ·refine .inr ⟨k,L,e,z'.sameBut f ?_⟩;rintro rfl;exact hj (rZ hN l (I.ok.inj _ _ _ e hc▸hi))
  ·by_cases MH:L=c
   ·subst MH;exact⟨_,yt⟩
   ·obtain⟨w2,z2⟩:=I.cell y L e;exact⟨w2,z2.sameBut f MH⟩
  ·obtain⟨e,n,ne,nf,d⟩:=I.pin p T;refine⟨(f.2 p.1 ?_).trans e,n,ne,nf,d⟩;intro q;rw[q,MG]at e;have q':oc=p.2:=QE e;exact d K (by rw[<- q'];exact Sl)
theorem nF{M:Model}{v:V}{Q:Unit->Shared->Prop}(I:Inv X B Z H s)(a:X.N.Nodup)(hi:X.N[i]? =some x)(b:Loc X.env.scope x)(r:RelV v u)
  (h:∀s',Inv X B (Z.set i (some v)) H s'->Q () s') (c:QbD X x:=by first|exact .inl rfl|exact .inr rfl|assumption):wpAny M A (storeName X.env x u) Q E s:=
 kG I a hi b r (λs' d _=>h s' d) c
theorem Inv.Sn{a:Shared}(I:Inv X B Z H s)(d:a.os=s.os)(u:Un (sf X.stack) ch H U s.heap a.heap)(hok:fg X.prog X.w U a.heap)(f:AllBare a.gens)
  (g:∀b∈ch,(b∈X.ex\/X.s₀.heap.objs.size<=b)/\b≠X.env.locals/\(∀x c,X.env.cells.lookup x=some c->c≠b)/\∀p∈X.pn++B,p.1≠b):Inv X B Z U a:=by
 obtain⟨M,g',d',t',o'⟩:=a;have e:o'=s.os:=d;subst e;exact I.call (g':=g') (t':=t') (d':=d') u hok f g
end
abbrev XK:=Value->Option Addr->Hp->Prop
abbrev St:=List Qbz
end L2
variable{Z:L2.St}
namespace L2
open PySem PySem.Spec PyProof.Rows
abbrev VK:=V->Hp->Prop
abbrev TE:=St->Hp->VK->Prop
end L2
variable{ta te to:L2.TE}{uu:List (L2.TE×L2.TE)}
namespace L2
open PySem PySem.Spec PyProof.Rows
abbrev TT:=St->Hp->(Bool->Hp->Prop)->Prop
abbrev TA:=St->Hp->(Qby->Hp->Prop)->Prop
structure Ends where
 nx:St->Hp->Prop
 rt:VK
 bk:St->Hp->Prop:=λ_ _=>False
 ct:St->Hp->Prop:=λ_ _=>False
abbrev TS:=Ends->St->Hp->Prop
def EP(X:Cx)(B:List (Addr×Obj))(Z:St)(Q:VK)(u:Value)(a:Shared):Prop:=∃v U,Inv X B Z U a/\RelV v u/\Q v U
def TP(X:Cx)(B:List (Addr×Obj))(Z:St)(Q:Bool->Hp->Prop)(b:Bool)(a:Shared):Prop:=∃U,Inv X B Z U a/\Q b U
def AP(X:Cx)(B:List (Addr×Obj))(Z:St)(Q:Qby->Hp->Prop)(us:Qbp)(a:Shared):Prop:=∃vs U,Inv X B Z U a/\bg vs us/\Q vs U
def SP(X:Cx)(B:List (Addr×Obj))(D:Ends)(f:Flow)(b:Shared):Prop:=
 match f with
 | .next=>∃a U,Inv X B a U b/\D.nx a U
 | .brk=>∃a U,Inv X B a U b/\D.bk a U
 | .cont=>∃a U,Inv X B a U b/\D.ct a U
 | .ret u=>∃v a U,Inv X B a U b/\RelV v u/\D.rt v U
def PE(X:Cx)(e:Expr)(t:TE):Prop:=
 ∀(B:List (Addr×Obj))(s:Shared)(Z:St)(H:Hp)(Q:VK),Inv X B Z H s->t Z H Q->wpAny (model X.prog X.w) X.A (eval e X.env) (EP X B Z Q) X.xe s
def PT(X:Cx)(e:Expr)(t:TT):Prop:=
 ∀(B:List (Addr×Obj))(s:Shared)(Z:St)(H:Hp)(Q:Bool->Hp->Prop),Inv X B Z H s->t Z H Q->wpAny (model X.prog X.w) X.A (isTrue e X.env (eval e X.env)) (TP X B Z Q) X.xe s
def PW(X:Cx)(e:Expr)(t:TT):Prop:=
 ∀(a:Sem Value)(B:List (Addr×Obj))(s:Shared)(Z:St)(H:Hp)(Q:Bool->Hp->Prop),Inv X B Z H s->t Z H Q->wpAny (model X.prog X.w) X.A (isTrue e X.env a) (TP X B Z Q) X.xe s
theorem PW.pt{t:TT}(h:PW X e t):PT X e t:=h _
def PA(X:Cx)(es:List Expr)(t:TA):Prop:=
 ∀(pos:Pos)(B:List (Addr×Obj))(s:Shared)(Z:St)(H:Hp)(Q:Qby->Hp->Prop),Inv X B Z H s->t Z H Q->wpAny (model X.prog X.w) X.A (spliced (backTo pos (starEach es X.env))) (AP X B Z Q) X.xe s
def PS(X:Cx)(st:Stmt)(t:TS):Prop:=
 ∀(B:List (Addr×Obj))(s:Shared)(Z:St)(H:Hp)(D:Ends),Inv X B Z H s->t D Z H->wpAny (model X.prog X.w) X.A (exec st X.env) (SP X B D) X.xe s
def sr(X:Cx)(st:List Stmt)(t:TS):Prop:=
 ∀(B:List (Addr×Obj))(s:Shared)(Z:St)(H:Hp)(D:Ends),Inv X B Z H s->t D Z H->wpAny (model X.prog X.w) X.A (execs st X.env) (SP X B D) X.xe s
theorem av{t:Sem α}{Q b:α->Shared->Prop}{M:Model}(h:wpAny M A t Q E s)(c:∀a s,Q a s->b a s):wpAny M A t b E s:=wpAny_mono h c λ_ _ x=>x
section
def So(i:Nat):TE:=λZ H Q=>∃v,Z[i]? =some (some v)/\Q v H
def tC(v:V):TE:=λ_ H Q=>Q v H
theorem Sq{d:Pos}(k:X.N[i]? =some x)(hv:Dz X.env.scope x)(f:QbE x:=by decide)(n:(x==("__classdict__":Str))=false:=by decide):PE X (.Name x d) (So i):=by
 intro b s o H Q I h;obtain⟨v,e,h⟩:=h;obtain⟨m,hn,hl⟩:=I.loc;obtain⟨u,r,l⟩:=hl i x v k e hv;have a:EP X b o Q u s:=⟨v,H,I,r,h⟩
 rcases l with⟨hk,p⟩|⟨hk,c,g,j⟩
 ·exact wpAny_Name (wpAny_loadName_local I.ok.kind hk hn p a) f
 ·rcases hk with hk|hk
  ·exact wpAny_Name (wpAny_loadName_cell I.ok.kind hk g j a) f
  ·exact wpAny_Name (wpAny_loadName_free I.ok.kind hk g j a n) f
theorem Ss{i j pos}:PE X (.Constant (.int i) j pos) (tC (.int i)):=λ_ _ _ H _ I h=>wpAny_Constant_int ⟨.int i,H,I.tok _,⟨_,rfl⟩,h⟩
theorem Su{b j pos}:PE X (.Constant (.bool b) j pos) (tC (.bl b)):=λ_ _ _ H _ I h=>Constant_bool ⟨.bl b,H,I,rfl,h⟩
theorem Sv{j pos}:PE X (.Constant .none j pos) (tC .aq):=λ_ _ _ H _ I h=>Constant_none ⟨.aq,H,I,rfl,h⟩
theorem Sw{x j pos}:PE X (.Constant (.str x) j pos) (tC (.str x)):=λ_ _ _ H _ I h=>Calls.Constant_str ⟨.str x,H,I.tok _,⟨_,rfl⟩,h⟩
def Gl(X:Cx)(x:Str):Prop:=X.env.kindOf x=some .globalImplicit
theorem lO{a:Pos}(I:Inv X B Z H s)(b:Gl X x)(c:X.mg x=some u)(h:Q u s)
  (d:QbE x:=by decide):wpAny (model X.prog X.w) X.A (eval (.Name x a) X.env) Q E s:=
 Calls.Name_function_global I.ok.kind b (Calls.loadGlobal_global (by rw[I.ok.glob];exact I.mod.glob.keeps I.bk) c h) d
theorem gE{a:Pos}(I:Inv X B Z H s)(b:Gl X x)(c:X.mg x=none)(hv:bootBuiltins x=some u)(h:Q u s)
  (d:x≠"__name__":=by decide) (e:QbE x:=by decide):wpAny (model X.prog X.w) X.A (eval (.Name x a) X.env) Q E s:=by
 obtain⟨mb,O,Y⟩:=I.mod.blt;exact Calls.Name_function_global I.ok.kind b (Calls.loadGlobal_builtin (by rw[I.ok.glob];exact I.mod.glob.keeps I.bk) c (by rw[I.ok.blt];exact O.keeps I.bk) ((Y x d).trans hv) h) e
theorem lT{v:V}{a:Pos}(b:Gl X x)(c:X.mg x=some u)(r:RelV v u)(d:QbE x:=by decide):PE X (.Name x a) (tC v):=
 λ_ _ _ H _ I h=>lO I b c ⟨v,H,I,r,h⟩ d
variable{a b:Expr}{tb:TE}{pos:Pos}
def PC(X:Cx)(e:CmpOp)(a b:Expr)(t:TE):Prop:=
 ∀(B:List (Addr×Obj))(s:Shared)(Z:St)(H:Hp)(Q:VK),Inv X B Z H s->t Z H Q->
  wpAny (model X.prog X.w) X.A (eval a X.env) (λv c=>wpAny (model X.prog X.w) X.A (eval b X.env) (λu d=>wpAny (model X.prog X.w) X.A (compareOp e v u) (EP X B Z Q) X.xe d) X.xe c) X.xe s
def tB(t:TE):TT:=λZ H Q=>t Z H λx H1=>∃c,x=.bl c/\Q c H1
theorem Sy{t:TE}(h:PC X op a b t)(f:behindInMarks op b=false:=by first|exact ac7 _ (by decide) (by decide)|rfl):PT X (.Compare a [op] [b] pos) (tB t):=by
 intro e s g H Q I i;refine wpAny_isTrue_Compare1 (av (h e s g H _ I i) λv o f=>av f λu p j=>av j λc r ⟨x,k,l,m,n⟩=>?_) f;obtain⟨d,rfl,q⟩:=n;cases m;exact wpAny_truthy_bool ⟨k,l,q⟩
theorem Sz{t:TE}(h:PE X e t)(c:∀a,isTrue e X.env a=(do let v <- a;standAt e.pos;holding [v] (truthy v)):=by intro _;rfl):PT X e (tB t):=by
 intro b s f H Q I g;refine isTrue_plain (av (h b s f H _ I g) ?_) (c _);rintro v m ⟨x,i,j,k,l⟩;obtain⟨d,rfl,q⟩:=l;cases k;exact wpAny_truthy_bool ⟨i,j,q⟩
variable{tA Aa:TT}{rest:List Expr}
def MI(t u:TT):TT:=λZ H Q=>t Z H λc H1=>if c=true then u Z H1 Q else Q false H1
def MJ(t u:TT):TT:=λZ H Q=>t Z H λc H1=>if c=true then Q true H1 else u Z H1 Q
theorem SD(d:PT X a tA):PW X (.BoolOp .And [a] pos) tA:=by
 intro g b s f H Q I h;refine isTrue_and (av (d b s f H Q I h) λc i e=>?_);cases c with
 |true=>exact isTrue_and_nil e
 |false=>exact e
theorem SH(d:PT X a tA):PW X (.BoolOp .Or [a] pos) tA:=by
 intro g b s f H Q I h;refine isTrue_or (av (d b s f H Q I h) λc i e=>?_);cases c with
 |false=>exact isTrue_or_nil e
 |true=>exact e
theorem SJ(j:PT X a tA)(k:PW X (.BoolOp .And (b::rest) pos) Aa):PW X (.BoolOp .And (a::b::rest) pos) (MI tA Aa):=by
 intro l d s e H Q I h;refine isTrue_and (av (j d s e H _ I h) ?_);rintro c m ⟨f,g,i⟩;cases c with
 |true=>exact k l d m e f Q g i
 |false=>exact⟨f,g,i⟩
theorem SK(j:PT X a tA)(k:PW X (.BoolOp .Or (b::rest) pos) Aa):PW X (.BoolOp .Or (a::b::rest) pos) (MJ tA Aa):=by
 intro l d s e H Q I h;refine isTrue_or (av (j d s e H _ I h) ?_);rintro c m ⟨f,g,i⟩;cases c with
 |true=>exact⟨f,g,i⟩
 |false=>exact k l d m e f Q g i
def MK(t:TT)(a b:TE):TE:=λZ H Q=>t Z H λc H1=>if c=true then a Z H1 Q else b Z H1 Q
theorem SM{c:Expr}(l:PT X c tA)(m:PE X a ta)(n:PE X b tb):PE X (.IfExp c a b pos) (MK tA ta tb):=by
 intro e s f H Q I h;refine wpAny_IfExp (av (l e s f H _ I h) ?_);rintro d g ⟨i,j,k⟩;cases d with
 |true=>exact m e g f i Q j k
 |false=>exact n e g f i Q j k
end
def ao(K:Q0)(H:Hp)(a:Addr)(xs:Qby):Prop:=
 Rd H a (.lst xs)\/
  ∃(o:Obj)(b:Array Value)(n:Nat),K.lookup a=some o/\o.cls=.type "list"/\o.dict=none/\o.data=.seq b n/\b.size<=sizeLine/\bg xs b.toList
def ay(K:Q0)(H:Hp)(a:Addr)(xs:Qby):Prop:=
 Rd H a (.tup xs)\/
  ∃(o:Obj)(b:Array Value)(n:Nat),K.lookup a=some o/\o.cls=.type "tuple"/\o.data=.seq b n/\b.size<=sizeLine/\bg xs b.toList
def AI:Value->Qbz
 | .none=>some .aq
 | .bool b=>some (.bl b)
 | .int i _=>some (.int i)
 | .str x _=>some (.str x)
 | .bytes b _=>some (.qp b)
 | .float b _=>some (.Gy b)
 | .ref a=>some (.ref a)
 | .type n=>some (.ty n)
 |_=>none
theorem RelV.abs{x:V}(r:RelV x u):AI u=some x:=by
 cases x with
 |aq=>cases r;rfl
 |bl _=>cases r;rfl
 |int _=>obtain⟨t,rfl⟩:=r;rfl
 |str _=>obtain⟨t,rfl⟩:=r;rfl
 |qp _=>obtain⟨t,rfl⟩:=r;rfl
 |Gy _=>obtain⟨t,rfl⟩:=r;rfl
 |ref _=>cases r;rfl
 |ty _=>cases r;rfl
theorem RelV.inj{x y:V}(r:RelV x u)(q:RelV y u):x=y:=QE (r.abs.symm.trans q.abs)
theorem bg.inj:∀{xs ys:Qby}{us:Qbp},bg xs us->bg ys us->xs=ys
 |_,_,_,.nil,.nil=>rfl
 |_,_,_,.cons r t,.cons r' t'=>by rw[r.inj r',bg.inj t t']
section
variable{xs ys:Qby}
theorem ao.of{K:Q0}(h:H a=some (.lst xs)):ao K H a xs:=.inl (.inl h)
theorem ay.of{K:Q0}(h:H a=some (.tup xs)):ay K H a xs:=.inl (.inl h)
theorem Inv.list(I:Inv X B Z H s)(h:ao X.K H a xs):∃b:Qbp,bg xs b/\PlainL s.heap a b.toArray/\xs.length<=sizeLine:=by
 rcases h with h|⟨o,b,n,c,d,f,g,i,r⟩
 ·obtain⟨z,b,n,r,e⟩:=h.ok I.hok;exact⟨b,r,⟨_,n,e,rfl,rfl,rfl⟩,z⟩
 ·refine⟨b.toList,r,⟨o,n,I.qt a o c,d,f,by simpa using g⟩,?_⟩;have e:=r.length;simp only[Qai]at e
  lia
theorem Inv.tuple(I:Inv X B Z H s)(h:ay X.K H a xs):∃b:Qbp,bg xs b/\IsTup s.heap a b.toArray/\xs.length<=sizeLine:=by
 rcases h with h|⟨o,b,n,c,d,f,g,r⟩
 ·obtain⟨⟨z,_⟩,b,r,p⟩:=h.ok I.hok;exact⟨b,r,p,z⟩
 ·refine⟨b.toList,r,⟨o,I.qt a o c,d,n,by simpa using f⟩,?_⟩;have e:=r.length;simp only[Qai]at e
  lia
theorem Inv.IZ(I:Inv X B Z H s)(h:ao X.K H a xs)(M:ao X.K H a ys):xs=ys:=by
 obtain⟨its,r,⟨o,n,e,_,_,d⟩,_⟩:=I.list h;obtain⟨its',r',⟨o',n',e',_,_,d'⟩,_⟩:=I.list M;rw[e]at e';cases e';rw[d]at d';injection d' with d1 _;have:its=its':=by simpa using congrArg Array.toList d1
 subst this;exact r.inj r'
theorem Inv.SN(I:Inv X B Z H s)(h:ay X.K H a xs)(M:ay X.K H a ys):xs=ys:=by
 obtain⟨its,r,⟨o,e,_,n,d⟩,_⟩:=I.tuple h;obtain⟨its',r',⟨o',e',_,n',d'⟩,_⟩:=I.tuple M;rw[e]at e';cases e';rw[d]at d';injection d' with d1 _;have:its=its':=by simpa using congrArg Array.toList d1
 subst this;exact r.inj r'
end
abbrev Cx.Ab(X:Cx)(E:Value->Shared->Prop):Cx:={X with xe:=E}
abbrev Cx.Bo(X:Cx):Cx:=X.Ab λ_ _=>False
theorem Cx.Ok.Ab{X:Cx}(ok:X.Ok)(E:Value->Shared->Prop):(X.Ab E).Ok:=
 ⟨ok.mod,ok.kind,ok.glob,ok.blt,ok.above,ok.inj,ok.has,ok.ET,ok.hd,ok.frames,ok.Gz,ok.My,ok.bs,ok.AH,ok.EU,ok.GA,ok.xr,ok.Ce⟩
theorem Cx.Ok.Bp(ok:(X.Ab E).Ok):X.Ok:=
 ⟨ok.mod,ok.kind,ok.glob,ok.blt,ok.above,ok.inj,ok.has,ok.ET,ok.hd,ok.frames,ok.Gz,ok.My,ok.bs,ok.AH,ok.EU,ok.GA,ok.xr,ok.Ce⟩
theorem Inv.Ab(I:Inv X B Z H s)(E:Value->Shared->Prop):Inv (X.Ab E) B Z H s:=⟨I.ok.Ab E,I.os,I.bare,I.base,I.loc,I.cell,I.free,I.yp,I.pin,I.hok,I.len⟩
theorem Inv.Bp(I:Inv (X.Ab E) B Z H s):Inv X B Z H s:=⟨I.ok.Bp,I.os,I.bare,I.base,I.loc,I.cell,I.free,I.yp,I.pin,I.hok,I.len⟩
theorem SP.Bp{D:Ends}{f:Flow}{a:Shared}(h:SP (X.Ab E) B D f a):SP X B D f a:=by
 cases f with
 |next=>obtain⟨σ',U,I,q⟩:=h;exact⟨σ',U,I.Bp,q⟩
 |brk=>obtain⟨σ',U,I,q⟩:=h;exact⟨σ',U,I.Bp,q⟩
 |cont=>obtain⟨σ',U,I,q⟩:=h;exact⟨σ',U,I.Bp,q⟩
 |ret u=>obtain⟨v,σ',U,I,r,q⟩:=h;exact⟨v,σ',U,I.Bp,r,q⟩
theorem sr.Bo{st:List Stmt}{t:TS}(h:sr X.Bo st t):sr X st t:=λa s b H D I c=>
 wpAny_mono (h a s b H D (I.Ab _) c) (λ_ _ q=>q.Bp) λ_ _ z=>False.elim z
section
variable{st:Stmt}{rest:List Stmt}{t u:TS}{pos:Pos}
def I_:TS:=λD Z H=>D.nx Z H
def Bq(t u:TS):TS:=λD Z H=>t {D with nx:=u D} Z H
theorem SQ:sr X [] I_:=λ_ _ a H _ I h=>wpAny_execs_nil ⟨a,H,I,h⟩
theorem SR(b:PS X st t)(c:sr X rest u):sr X (st::rest) (Bq t u):=by
 intro a s d H D I h;refine wpAny_execs_cons (av (b a s d H {D with nx:=u D} I h) λf e q=>?_);cases f with
 |next=>
  obtain⟨σ',U,I',q⟩:=q;exact c a e σ' U D I' q
 |ret v=>exact q
 |brk=>exact q
 |cont=>exact q
theorem SX(b:PS X st t):sr X [st] t:=by
 intro a s c H D I h;refine wpAny_execs_cons (av (b a s c H D I h) λf d q=>?_);cases f with
 |next=>exact wpAny_execs_nil q
 |ret v=>exact q
 |brk=>exact q
 |cont=>exact q
theorem Inv.quiet(I:Inv X B Z H s):interactive X.env=false:=by simp[interactive,I.ok.kind]
def GD(a:TE):TS:=λD Z H=>a Z H λ_ H1=>D.nx Z H1
theorem SY(c:PE X e te)(hs:swapsWith e none pos.line X.env=pure false:=by rfl):PS X (.Expr e pos) (GD te):=by
 intro a s b H D I h;exact wpAny_Expr_any (av (c a s b H _ I h) λv i ⟨x,d,f,j,g⟩=>⟨b,d,f,g⟩) I.quiet hs
def DB(a:TE):TS:=λD Z H=>a Z H D.rt
theorem S1(c:PE X e te):PS X (.Return (some e) pos) (DB te):=by
 intro a s b H D I h;exact wpAny_Return_some (av (c a s b H _ I h) λv j ⟨x,d,f,g,i⟩=>⟨x,b,d,f,g,i⟩)
def ML:TS:=λD _ H=>D.rt .aq H
theorem S2:PS X (.Return none pos) ML:=λ_ _ a H _ I h=>wpAny_Return_none ⟨.aq,a,H,I,rfl,h⟩
def GF(c:TT)(t u:TS):TS:=λD Z H=>c Z H λb H1=>if b=true then t D Z H1 else u D Z H1
theorem S3{c:Expr}{a b:List Stmt}{g:TT}(m:PT X c g)(n:sr X a t)(o:sr X b u):PS X (.If c a b pos) (GF g t u):=by
 intro e s f H D I h;refine wpAny_If (av (m e s f H _ I h) ?_);rintro d i ⟨j,k,l⟩;cases d with
 |true=>exact n e i f j D k l
 |false=>exact o e i f j D k l
end
abbrev TG:=V->St->Hp->(St->Hp->Prop)->Prop
abbrev yu:=Qby->St->Hp->(St->Hp->Prop)->Prop
def PG(X:Cx)(a:Expr)(t:TG):Prop:=
 ∀(B:List (Addr×Obj))(s:Shared)(Z:St)(H:Hp)(v:V)(u:Value)(Q:St->Hp->Prop),Inv X B Z H s->RelV v u->t v Z H Q->
  wpAny (model X.prog X.w) X.A (assign a X.env u) (λ_ s'=>∃b U,Inv X B b U s'/\Q b U) X.xe s
def DC(X:Cx)(ts:List Expr)(t:yu):Prop:=
 ∀(B:List (Addr×Obj))(s:Shared)(Z:St)(H:Hp)(vs:Qby)(us:Qbp)(Q:St->Hp->Prop),Inv X B Z H s->bg vs us->t vs Z H Q->
  wpAny (model X.prog X.w) X.A (assignInOrder ((assignEach ts X.env).map (·.2)) us) (λ_ s'=>∃a U,Inv X B a U s'/\Q a U) X.xe s
abbrev GG:=V->V->V->Hp->(Hp->Prop)->Prop
def Ja(X:Cx)(t:GG):Prop:=
 ∀(B:List (Addr×Obj))(s:Shared)(Z:St)(H:Hp)(o i v:V)(ov a u:Value)(Q:Hp->Prop),Inv X B Z H s->RelV o ov->RelV i a->RelV v u->t o i v H Q->
  wpAny (model X.prog X.w) X.A (setItem ov a u) (λ_ s'=>∃U,Inv X B Z U s'/\Q U) X.xe s
abbrev EW:=V->V->Hp->VK->Prop
def Jb(X:Cx)(a:Operator)(t:EW):Prop:=
 ∀(B:List (Addr×Obj))(s:Shared)(Z:St)(H:Hp)(x y:V)(v u:Value)(Q:VK),Inv X B Z H s->RelV x v->RelV y u->t x y H Q->
  wpAny (model X.prog X.w) X.A (inplaceOp a v u) (EP X B Z Q) X.xe s
section
variable{pos:Pos}
def n_(i:Nat):TG:=λv Z H Q=>Q (Z.set i (some v)) H
theorem S4(b:X.N.Nodup)(hi:X.N[i]? =some x)(c:Loc X.env.scope x)(d:QbD X x:=by first|exact .inl rfl|exact .inr rfl|assumption):PG X (.Name x pos) (n_ i):=by
 intro a s f H v u Q I r h;exact wpAny_assign_Name (nF I b hi c r (λg e=>⟨_,H,e,h⟩) d)
def GH:yu:=λvs Z H Q=>vs=[]/\Q Z H
def DE(t:TG)(u:yu):yu:=λvs Z H Q=>∃v r,vs=v::r/\t v Z H λa U=>u r a U Q
theorem S5:DC X [] GH:=by
 intro a s b H c d Q I r h;obtain⟨e,h⟩:=h;subst e;cases r;exact assignInOrder_nil ⟨b,H,I,h⟩
theorem zD{t:TG}{u:yu}(c:PG X e t)(d:DC X es u)
  (hs:(assignEach (e::es) X.env).map (·.2)=assign e X.env::(assignEach es X.env).map (·.2):=by rfl):DC X (e::es) (DE t u):=by
 intro a s f H l m Q I r h;obtain⟨v,vr,e1,h⟩:=h;subst e1;cases r with
 |cons r rr=>
  rw[hs];refine assignInOrder_cons (av (c a s f H _ _ _ I r h) ?_);rintro _ g ⟨b,i,j,k⟩;exact d a g b i _ _ Q j rr k
def DF(K:Q0)(n:Nat)(t:yu):TG:=λv Z H Q=>∃a xs,v=.ref a/\ay K H a xs/\xs.length=n/\t xs Z H Q
theorem S6{k:Nat}{t:yu}(g:X.calm=true)(h:DC X es t)
  (i:(assignEach es X.env).length=n:=by rfl) (j:(assignEach es X.env).findIdx? (·.1)=none:=by rfl):PG X (.Tuple es k pos) (DF X.K n t):=by
 intro c s f H v u Q I r d;obtain⟨a,xs,e1,hq,hl,d⟩:=d;subst e1;cases r;obtain⟨its,rv,ht,hz⟩:=I.tuple hq;refine assign_Tuple_tuple (I.ok.hd g) ht (by simp[i,<- hl,rv.length]) j λl m=>?_;have p:Inv X c f H {s with heap:=l}:=I.kept (t':=s.toks) λb o e=>m b o (yT (QA e)) e;exact h c _ f H xs _ Q p (by simpa using rv) d
def MM(a b:TE)(t:GG):TG:=λv Z H Q=>a Z H λo H1=>b Z H1 λi H2=>t o i v H2 λc=>Q Z c
theorem S7 {o i:Expr} {d:TE} {t:GG} (e:PE X o to) (hi:PE X i d) (hs:Ja X t)
  (f:∀ v,assign (.Subscript o i pos) X.env v=(do
   let ov <- holding [v] (eval o X.env)
   let b <- holding [v,ov] (eval i X.env)
   standAt pos
   holding [v,ov,b] (setItem ov b v)
   release [v,ov,b] []):=by intro _;rfl):PG X (.Subscript o i pos) (MM to d t):=by
 intro a s c H v u Q I r h
 rw [f]
 refine QT (wpAny_holding (av (e a s c H _ I h) ?_))
 rintro ov g ⟨x,j,k,l,m⟩
 refine QT (wpAny_holding (av (hi a g c j _ k m) ?_))
 rintro b n ⟨y,p,q,w,z⟩
 refine QT (wpAny_standAt (QT (wpAny_holding (av (hs a n c p x y v ov b u _ q l w r z) ?_))))
 rintro _ E ⟨A,C,D⟩
 exact wpAny_release ⟨c,A,C,D⟩
def Ac(a:TE)(g:TG):TS:=λD Z H=>a Z H λx H1=>g x Z H1 D.nx
theorem S8{g:TG}(c:PE X e te)(d:PG X tg g)(hs:swapsWithSole [tg] e pos.line X.env=pure false:=by rfl)(f:swappedStores [tg] e X.env=pure none:=by rfl)
  (i:(assignEach [tg] X.env).map (·.2)=[assign tg X.env]:=by rfl):PS X (.Assign [tg] e pos) (Ac te g):=by
 intro a s b H D I h;refine wpAny_Assign_stores (av (c a s b H _ I h) ?_) hs f;rintro v j ⟨x,k,l,m,n⟩;rw[i];exact av (d a j b k x v _ l m n) λ_ o q=>q
theorem S9(b:X.N.Nodup)(hi:X.N[i]? =some x)(c:Loc X.env.scope x)(d:PE X e te)(hs:swapsWith e (some (.Name x pos')) pos.line X.env=pure false:=by rfl)(f:QbD X x:=by first|exact .inl rfl|exact .inr rfl|assumption):
  PS X (.Assign [.Name x pos'] e pos) (Ac te (n_ i)):=by
 intro a s g H D I h;refine wpAny_Assign_Name (av (d a s g H _ I h) ?_) hs;rintro v o ⟨y,j,k,l,m⟩;exact nF k b hi c l (λp n=>⟨_,j,n,m⟩) f
def MN(i:Nat)(a:TE)(b:EW):TS:=λD Z H=>∃x,Z[i]? =some (some x)/\a Z H λy H1=>b x y H1 λz H2=>D.nx (Z.set i (some z)) H2
theorem S_{f:Operator}{j:EW}(p:X.N.Nodup)(hi:X.N[i]? =some x)(g:Loc X.env.scope x)(q:PE X e te)(t:Jb X f j)(C:QbD X x:=by first|exact .inl rfl|exact .inr rfl|assumption):
  PS X (.AugAssign (.Name x pos') f e pos) (MN i te j):=by
 intro a s n H D I h;obtain⟨v,e1,h⟩:=h;obtain⟨m,hn,hl⟩:=I.loc;have E:Dz X.env.scope x:=by rcases g with k|k;exact .inl k;exact .inr (.inl k)
 obtain⟨u,r,l⟩:=hl i x v hi e1 E;refine wpAny_AugAssign_Name ?_;have o:wpAny (model X.prog X.w) X.A (eval e X.env) (λw b=>wpAny (model X.prog X.w) X.A (inplaceOp f u w) (λr d=>wpAny (model X.prog X.w) X.A (storeName X.env x r) (λ_=>SP X a D .next) X.xe d) X.xe b) X.xe s:=by
  refine av (q a s n H _ I h) ?_;rintro w G ⟨y,K,L,P,Q⟩;refine av (t a G n K v y u w _ L r P Q) ?_;rintro z s2 ⟨zv,R,T,V,q2⟩;exact nF T p hi g V (λs3 I3=>⟨_,R,I3,q2⟩) C
 rcases l with⟨hk,hm⟩|⟨hk,c,hc,GC⟩
 ·exact wpAny_loadName_local I.ok.kind hk hn hm o
 ·rcases hk with hk|hk
  ·exact wpAny_loadName_cell I.ok.kind hk hc GC o
  ·rcases g with k|k
   ·have:X.env.scope.names.lookup x=some .free:=hk;rw[k]at this;cases this
   ·have:X.env.scope.names.lookup x=some .free:=hk;rw[k]at this;cases this
def Td(f:Int->Int->Int):EW:=λx y H Q=>∃i j,x=.int i/\y=.int j/\Q (.int (f i j)) H
theorem Te:Jb X .Add (Td λi j=>i+j):=by
 intro a s d H x y v u Q I b c h;obtain⟨i,j,e1,e2,q⟩:=h;subst e1;subst e2;obtain⟨t,rfl⟩:=b;obtain⟨t',rfl⟩:=c;exact iadd_int ⟨.int _,H,I.tok _,⟨_,rfl⟩,q⟩
def MO(c:TT)(e:TS):TS:=λD Z H=>∃W:Nat->St->Hp->Prop,(∃m,W m Z H)/\∀m Z H,W m Z H->
 c Z H λb H1=>if b=true then ∃N:St->Hp->Prop,(∀a U,N a U->∃d,d<m/\W d a U)/\e {D with nx:=N,ct:=N,bk:=D.nx} Z H1 else D.nx Z H1
theorem zO{c:Expr}{j:TT}{k:TS}(l:PassesOwn (model X.prog X.w) X.A X.env X.xe)(r:PT X c j)(t:sr X body k):PS X (.While c body [] pos) (MO j k):=by
 intro a s u H D I h;obtain⟨W,⟨m0,w0⟩,turn⟩:=h;refine wpAny_While (codeAny_whileLoop (λn x=>∃e m,Inv X a e m x/\W n e m) ?_ m0 ⟨u,H,I,w0⟩);rintro n y ⟨d,o,z,C⟩;refine wpAny_passesOwn l (av (r a y d o _ z (turn n d o C)) ?_);rintro b E ⟨p,q,g⟩;cases b with
 |true=>
  obtain⟨N,hN,g⟩:=g;rw[if_pos rfl];refine wpAny_passesOwn l (av (t a E d p _ q g) λf G i=>?_);cases f with
  |next=>
   obtain⟨σ3,H3,I3,n3⟩:=i;obtain⟨m',hm,w3⟩:=hN σ3 H3 n3;exact⟨m',hm,σ3,H3,I3,w3⟩
  |cont=>
   obtain⟨σ3,H3,I3,n3⟩:=i;obtain⟨m',hm,w3⟩:=hN σ3 H3 n3;exact⟨m',hm,σ3,H3,I3,w3⟩
  |brk=>exact i
  |ret v=>exact i
 |false=>
  rw[if_neg yH];exact wpAny_execs_nil ⟨d,p,q,g⟩
end
structure It where
 go:Nat->Hp->Prop
 pe:Nat->Hp->V->Hp->Prop
 stop:Nat->Hp->Prop
def uv(X:Cx)(B:List (Addr×Obj))(H:Hp)(b:Addr):Prop:=
 H b=none/\b≠X.env.locals/\b∉X.fs/\(b∈X.ex\/X.s₀.heap.objs.size<=b)/\(∀x c,X.env.cells.lookup x=some c->c≠b)/\∀p∈X.pn++B,p.1≠b
theorem Inv.sy(I:Inv X B Z H s)(a:s.heap.objs.size<=b)(d:U b=none):uv X B U b:=by
 refine⟨d,Qah (jZ I.lt a),I.Sh a,.inr (Qag I.sz a),λx c e z=>?_,λp f z=>?_⟩
 ·obtain⟨v,q⟩:=I.cell x c e;exact absurd (jZ q.lt (by rw[z];exact a)) (QaU _)
 ·exact absurd (jZ (QA (I.pin p f).1) (by rw[z];exact a)) (QaU _)
structure Turn(P:Program)(w:World)(K:Q0)(tg:Expr)(J:It)(fp:Qbq)(it:Addr)(tn:Nat->Heap->Prop):Prop where
 mem:it∈fp
 obj:∀i h,tn i h->∀b∈fp,∃o,h.get? b=some o/\∀v,o.data≠.cell v
 keep:∀i h M,tn i h->(∀b∈fp,∀o,h.get? b=some o->M.get? b=some o)->tn i M
 item:∀(X:Cx),X.prog=P->X.w=w->X.K=K->X.calm=true->∀(i:Nat)(B:List (Addr×Obj))(s:Shared)(Z:St)(H:Hp)(E:Value->Shared->Prop),Inv X B Z H s->(∀b∈fp,uv X B H b)->tn i s.heap->J.go i H->
  wpAny (model P w) X.A (pyNext (.ref it)) (λr s1=>∃u,r=some u/\
   wpAny (model P w) X.A (letOwnedTupleGo tg (.ref it) u) (λ_ s2=>∃x U,Inv X B Z U s2/\RelV x u/\J.pe i H x U/\tn (i+1) s2.heap/\∀b∈fp,U b=none) E s1) E s
 done:∀(X:Cx),X.prog=P->X.w=w->X.K=K->X.calm=true->∀(i:Nat)(B:List (Addr×Obj))(s:Shared)(Z:St)(H:Hp)(E:Value->Shared->Prop),Inv X B Z H s->(∀b∈fp,uv X B H b)->tn i s.heap->J.stop i H->
  wpAny (model P w) X.A (pyNext (.ref it)) (λr s1=>r=none/\Inv X B Z H s1) E s
 self:∀(A:Around)(i:Nat)(s:Shared)(Q:Value->Shared->Prop)(E:Value->Shared->Prop),tn i s.heap->Q (.ref it) s->wpAny (model P w) A (pyIter (.ref it)) Q E s
abbrev TI:=St->Hp->(It->Hp->Prop)->Prop
def DG(X:Cx)(B:List (Addr×Obj))(Z:St)(d:Expr)(R:It->Hp->Prop)(e:Value)(a:Shared):Prop:=
 ∃(it:Addr)(fp:Qbq)(c:Nat->Heap->Prop)(J:It)(U:Hp),e=.ref it/\Inv X B Z U a/\Turn X.prog X.w X.K d J fp it c/\c 0 a.heap/\(∀b∈fp,uv X B U b)/\R J U
def PI(X:Cx)(b a:Expr)(c:TI):Prop:=
 ∀(B:List (Addr×Obj))(s:Shared)(Z:St)(H:Hp)(R:It->Hp->Prop),Inv X B Z H s->c Z H R->
  wpAny (model X.prog X.w) X.A (eval a X.env) (λv d=>wpAny (model X.prog X.w) X.A (pyIter v) (DG X B Z b R) X.xe d) X.xe s
theorem kR {M : Model} {A : Around} {E : Value -> Shared -> Prop} {s : Shared} {b : Expr} {c : Addr} {u : Value} {o : Obj} {n : String} {vs : Array Value} {Q : Unit -> Shared -> Prop} (d : s.heap.get? c = some o) (e : o.cls = .type n) (f : o.data = .fields vs)
    (g : ["enumerate", "zip", "dict_itemiterator", "dict_reverseitemiterator", "odict_iterator", "itertools.zip_longest", "itertools.pairwise"].contains n = false) (a : Q () s) : wpAny M A (letOwnedTupleGo b (.ref c) u) Q E s := by
  unfold letOwnedTupleGo
  cases b <;> first
    | exact QU a
    | (cases u <;> first
        | exact QU a
        | (refine QT (wpAny_load d ?_)
           rw [e, f]
           show wpAny M A (if (["enumerate", "zip", "dict_itemiterator", "dict_reverseitemiterator", "odict_iterator", "itertools.zip_longest", "itertools.pairwise"].contains n && vs[0]? == some (rawInt _)) = true then _ else _) Q E s
           rw [if_neg (by intro h; rw [g, Bool.false_and] at h; cases h)]
           exact QU a))
def Jc(K:Q0)(a:Addr):It:=
 ⟨λi H=>∃xs x,ao K H a xs/\xs[i]? =some x,λi H x U=>U=H/\∀xs,ao K H a xs->xs[i]? =some x,λi H=>∃xs,ao K H a xs/\xs.length<=i⟩
def Jd(K:Q0)(a:Addr):It:=
 ⟨λi H=>∃xs x,ay K H a xs/\xs[i]? =some x,λi H x U=>U=H/\∀xs,ay K H a xs->xs[i]? =some x,λi H=>∃xs,ay K H a xs/\xs.length<=i⟩
def GI(lo:Int)(n:Nat):It:=⟨λi _=>i<n,λi H x U=>U=H/\x=.int (lo+i),λi _=>n<=i⟩
theorem yQ{K:Q0}(a g:Addr):Turn P w K tg (Jc K a) [g] g (λi h=>h.IsListIter g a i)where
 mem:=by simp
 obj:=λi h st b j=>by
  have e:b=g:=by simpa using j
  subst e;obtain⟨o,e,c,d⟩:=st;exact⟨o,e,λv z=>by rw[d]at z;cases z⟩
 keep:=λi h m st k=>st.at λo e=>k g (by simp) o e
 item:=by
  intro X q r t A i f s C H E I n st y;subst q r t;obtain⟨xs,x,hq,hx⟩:=y;obtain⟨its,rv,p,hz⟩:=I.list hq;obtain⟨u,hu,ru⟩:=rv.get hx;obtain⟨f0,f1,f2,f3,f4,f5⟩:=n g (by simp);refine wpAny_pyNext_list_item st p.isList (x:=u) (by simpa using hu) λm l D=>?_;have G:Inv X f C H {s with heap:=m}:=I.turned (t':=s.toks) (λb o j e=>(D.2 b j).trans e) f0 f1 f3 f4 f5;obtain⟨o,e,c,d⟩:=id l;exact⟨u,rfl,kR (s:={s with heap:=m}) e c d (by decide) ⟨x,H,G,ru,⟨rfl,λQ L=>by rw[I.IZ L hq];exact hx⟩,l,λb j=>(n b j).1⟩⟩
 done:=by
  intro X q r t A i f s C H E I n st y;subst q r t;obtain⟨xs,hq,hx⟩:=y;obtain⟨its,rv,p,hz⟩:=I.list hq;obtain⟨f0,f1,f2,f3,f4,f5⟩:=n g (by simp);have R:=rv.length;exact wpAny_pyNext_list_end (I.ok.hd A) st p.isList (by simp;lia) λm N=>⟨rfl,I.turned (t':=s.toks) (λb o j e=>N b o j e) f0 f1 f3 f4 f5⟩
 self:=λ_ _ _ _ _ st h=>wpAny_pyIter_listiter st h
theorem uP{K:Q0}(a g:Addr):Turn P w K tg (Jd K a) [g] g (λi h=>h.IsTupleIter g a i)where
 mem:=by simp
 obj:=λi h st b j=>by
  have e:b=g:=by simpa using j
  subst e;obtain⟨o,e,c,d⟩:=st;exact⟨o,e,λv z=>by rw[d]at z;cases z⟩
 keep:=λi h m st k=>st.at λo e=>k g (by simp) o e
 item:=by
  intro X q r t A i f s C H E I n st y;subst q r t;obtain⟨xs,x,hq,hx⟩:=y;obtain⟨its,rv,p,hz⟩:=I.tuple hq;obtain⟨u,hu,ru⟩:=rv.get hx;obtain⟨f0,f1,f2,f3,f4,f5⟩:=n g (by simp);refine wpAny_pyNext_tuple_item st (show s.heap.IsTuple a its.toArray from p) (x:=u) (by simpa using hu) λm l D=>?_;have G:Inv X f C H {s with heap:=m}:=I.turned (t':=s.toks) (λb o j e=>(D.2 b j).trans e) f0 f1 f3 f4 f5;obtain⟨o,e,c,d⟩:=id l;exact⟨u,rfl,kR (s:={s with heap:=m}) e c d (by decide) ⟨x,H,G,ru,⟨rfl,λQ L=>by rw[I.SN L hq];exact hx⟩,l,λb j=>(n b j).1⟩⟩
 done:=by
  intro X q r t A i f s C H E I n st y;subst q r t;obtain⟨xs,hq,hx⟩:=y;obtain⟨its,rv,p,hz⟩:=I.tuple hq;obtain⟨f0,f1,f2,f3,f4,f5⟩:=n g (by simp);have R:=rv.length;exact wpAny_pyNext_tuple_end (I.ok.hd A) st (show s.heap.IsTuple a its.toArray from p) (by simp;lia) λm N=>⟨rfl,I.turned (t':=s.toks) (λb o j e=>N b o j e) f0 f1 f3 f4 f5⟩
 self:=λ_ _ _ _ _ st h=>wpAny_pyIter_tupleiter st h
theorem uR{K:Q0}(a:Addr)(lo:Int)(n:Nat):Turn P w K tg (GI lo n) [a] a (λi h=>IsRangeIter h a (lo+(i:Nat)*1) ((n:Int)-(i:Nat)) 1)where
 mem:=by simp
 obj:=λi h st b d=>by
  have e:b=a:=by simpa using d
  subst e;exact⟨_,st,λv z=>by
   have y:Data.fields _=Data.cell v:=z;cases y⟩
 keep:=λi h g st k=>k a (by simp) _ st
 item:=by
  intro X l m p q i c s u H E I j st r;subst l m p;obtain⟨f0,f1,f2,f3,f4,f5⟩:=j a (by simp);have W:=Walks.range (prog:=X.prog) (w:=X.w) (I.ok.hd q) a lo 1 n;refine W.item i s _ _ r st λv g x hv f A=>?_;obtain⟨t,rfl⟩:=hv;have C:Inv X c u H {s with heap:=g,toks:=x}:=I.turned (λb o d e=>A b o (by simpa using d) e) f0 f1 f3 f4 f5;refine⟨_,rfl,kR (s:={s with heap:=g,toks:=x}) (n:="range_iterator") f rfl rfl (by decide) ⟨.int (lo+i),H,C,⟨t,?_⟩,⟨rfl,rfl⟩,f,λb d=>(j b d).1⟩⟩;rw[Int.mul_one]
 done:=by
  intro X l m p q i c s u H E I j st r;subst l m p;obtain⟨f0,f1,f2,f3,f4,f5⟩:=j a (by simp);exact wpAny_pyNext_range_end (I.ok.hd q) st (by have:n<=i:=r;lia) λg D=>⟨rfl,I.turned (t':=s.toks) (λb o d e=>D b o d e) f0 f1 f3 f4 f5⟩
 self:=λ_ _ _ _ _ st h=>wpAny_pyIter_rangeiter st h
theorem Tf{R:It->Hp->Prop}{lo hi:Int}{t u v:Tok}{a:Nat}(I:Inv X B Z H s)(d: -(2^62)<=lo)(f:lo<2^62)(g: -(2^62)<=hi)(h:hi<2^62)
  (q:R (GI lo (hi-lo).toNat) H):wpAny (model X.prog X.w) X.A (pyIter (.ref s.heap.objs.size)) (DG X B Z tg R) E {s with heap:=s.heap.push {cls:=.type "range",data:=.fields #[.int lo t,.int hi u,.int 1 v]},toks:=a}:=by
 refine wpAny_pyIter_range (IsRange.new ..) (small_one d f g h) ?_;have c:Inv X B Z H {s with heap:=s.heap.push {cls:=.type "range",data:=.fields #[.int lo t,.int hi u,.int 1 v]},toks:=a}:=I.kept λb o e=>Qc _ e;refine⟨(s.heap.push {cls:=.type "range",data:=.fields #[.int lo t,.int hi u,.int 1 v]}).objs.size,[(s.heap.push {cls:=.type "range",data:=.fields #[.int lo t,.int hi u,.int 1 v]}).objs.size],_,_,H,rfl,
  c.kept (t':=a) λb o e=>Qc _ e,uR _ lo (hi-lo).toNat,?_,λb i=>?_,q⟩
 ·have j:lo+((0:Nat):Int)*1=lo:=by simp
  have k:(((hi-lo).toNat:Nat):Int)-((0:Nat):Int)=Builtin.Range.rangeSize lo hi 1:=by rw[rangeSize_one];split<;>lia
  show IsRangeIter _ _ (lo+((0:Nat):Int)*1) ((((hi-lo).toNat:Nat):Int)-((0:Nat):Int)) 1;rw[j,k];exact Qd _ rfl
 ·have e:b=(s.heap.push {cls:=.type "range",data:=.fields #[.int lo t,.int hi u,.int 1 v]}).objs.size:=by simpa using i
  subst e;exact c.sy (Qz _) (c.hok.fresh (Qz _))
def MP(a:TA):TI:=λZ H R=>a Z H λvs H1=>∃j:Int,vs=[.int j]/\ -(2^62)<=j/\j<2^62/\R (GI 0 j.toNat) H1
theorem wX{a:Expr}{f:TA}{p b:Pos}(g:Gl X "range")(i:X.mg "range"=none)(k:PA X [a] f)(hs:starEach [a] X.env=[(false,eval a X.env)]:=by rfl):PI X tg (.Call (.Name "range" p) [a] [] b) (MP f):=by
 intro c s l H R I h;refine Call_ (gE I g i boot_range (Qau (av (k b c s l H _ I h) ?_) hs rfl));rintro o u ⟨w,x,m,n,d⟩;obtain⟨j,e,d,q2,q⟩:=d;subst e;cases n with
 |cons r rr=>
  cases rr;obtain⟨t,rfl⟩:=r;exact call_range_1 (Tf m (by lia) (by lia) d q2 (by simpa using q))
def MQ(d:TI)(g:TG)(e:TS):TS:=λD Z H=>d Z H λJ H1=>∃W:Nat->Nat->St->Hp->Prop,(∃m,W 0 m Z H1)/\∀i m Z H,W i m Z H->
 (J.stop i H/\D.nx Z H)\/(J.go i H/\∃N:St->Hp->Prop,(∀a U,N a U->∃c,c<m/\W (i+1) c a U)/\∀x U,J.pe i H x U->g x Z U λb H2=>e {D with nx:=N,ct:=N,bk:=D.nx} b H2)
def EX(a:Qbq)(h:Heap):List (Addr×Obj):=a.filterMap λb=>(h.get? b).map λo=>(b,o)
theorem fT(a:b∈fp)(e:h.get? b=some o):(b,o)∈EX fp h:=List.mem_filterMap.mpr ⟨b,a,by rw[e];rfl⟩
theorem xC{p:Addr×Obj}(a:p∈EX fp h):p.1∈fp/\h.get? p.1=some p.2:=by
 obtain⟨b,hb,e⟩:=List.mem_filterMap.mp a;cases q:h.get? b with
 |none=>rw[q]at e;cases e
 |some o=>
  rw[q]at e;have c:(b,o)=p:=QE e;subst c;exact⟨hb,q⟩
theorem Inv.pinned(I:Inv X B Z H s)(a:∀b∈fp,uv X B H b)(c:∀b∈fp,∃o,s.heap.get? b=some o/\∀v,o.data≠.cell v):Inv X (B++EX fp s.heap) Z H s:=
 I.MC λp f=>(W3.mp f).elim (λz=>I.pin p (Qap _ z)) λz=>by
  obtain⟨hb,e⟩:=xC z;obtain⟨f0,f1,f2,_⟩:=a p.1 hb;obtain⟨o,e',d⟩:=c p.1 hb;rw[e]at e';cases e';exact⟨e,f0,f1,f2,d⟩
theorem Inv.GJ{pl:List (Addr×Obj)}(I:Inv X (B++pl) Z H s):Inv X B Z H s:=I.MC λp a=>I.pin p (Qap _ (List.mem_append_left _ a))
theorem Ti{wi:TI}{g:TG}{tb:TS}{L:Pos}(C:PassesOwn (model X.prog X.w) X.A X.env X.xe)(hc:X.calm=true)(hi:PI X tg iter wi)(hg:PG X tg g)(j:sr X body tb)
  (hs:∀x,foldedSetIterable iter X.env x=pure x:=by intro _;rfl):PS X (.For tg iter body [] L) (MQ wi g tb):=by
 intro a s Z H D I h;refine wpAny_For (av (hi a s Z H _ I h) λv s1 O=>av O λqw s2 Y=>?_) hs;obtain⟨it,fp,tn,J,H2,e,I2,T,Ad,f2,W,⟨m0,w0⟩,turn⟩:=Y;subst e
 -- ac8 stays true of MR ac9 objects through MR loop
 have P:∀{y:Hp},(∀b∈fp,y b=none)->∀b∈fp,uv X a y b:=λhn b j=>⟨hn b j,(f2 b j).2⟩
 refine codeAny_forLoop_any (λn s'=>∃i k y,Inv X a k y s'/\tn i s'.heap/\(∀b∈fp,y b=none)/\W i n k y) ?_ m0 ⟨0,Z,H2,I2,Ad,λb j=>(f2 b j).1,w0⟩;rintro n s3 ⟨i,l,K,I3,EY,yw,w3⟩;rcases turn i n l K w3 with⟨stop,qn⟩|⟨go,N,hN,E⟩
 ·refine wpAny_passesOwn C (av (T.done X rfl rfl rfl hc i a s3 l K X.xe I3 (P yw) EY stop) ?_);rintro r s4 ⟨Q,I4⟩;subst Q;exact wpAny_execs_nil ⟨l,K,I4,qn⟩
 ·refine wpAny_passesOwn C (av (T.item X rfl rfl rfl hc i a s3 l K X.xe I3 (P yw) EY go) ?_);rintro r s4 ⟨u,Q,h4⟩;subst Q;refine wpAny_passesOwn C (av h4 ?_);rintro _ s5 ⟨x,H5,I5,r5,y5,R,Je⟩;have Jf:=I5.pinned (P Je) (T.obj _ _ R);refine wpAny_passesOwn C (av (hg _ s5 l H5 x u _ Jf r5 (E x H5 y5)) ?_);rintro _ s6 ⟨V,H6,I6,q6⟩;refine wpAny_passesOwn C (av (j _ s6 V H6 _ I6 q6) λf s7 z=>?_);have p:∀{c:St}{q:Hp},Inv X (a++EX fp s5.heap) c q s7->N c q->∃m,m<n/\∃i k y,Inv X a k y s7/\tn i s7.heap/\(∀b∈fp,y b=none)/\W i m k y:=fun{c q}t G=>by
   obtain⟨m',hm,w7⟩:=hN c q G;refine⟨m',hm,i+1,c,q,t.GJ,T.keep _ _ _ R λb j o e=>(t.pin (b,o) (Qap _ (Qap _ (fT j e)))).1,λb j=>?_,w7⟩;obtain⟨o,e,d⟩:=T.obj _ _ R b j;exact(t.pin (b,o) (Qap _ (Qap _ (fT j e)))).2.1
  cases f with
  |next=>obtain⟨c,q,t,G⟩:=z;exact p t G
  |cont=>obtain⟨c,q,t,G⟩:=z;exact p t G
  |brk=>obtain⟨c,q,t,z⟩:=z;exact⟨c,q,t.GJ,z⟩
  |ret v=>obtain⟨x7,c,q,t,r7,z⟩:=z;exact⟨x7,c,q,t.GJ,r7,z⟩
abbrev R2:=V->V->Hp->VK->Prop
def dj(X:Cx)(f:Value->Value->Sem Value)(r:R2):Prop:=
 ∀(B:List (Addr×Obj))(s:Shared)(Z:St)(H:Hp)(x y:V)(v u:Value)(Q:VK),Inv X B Z H s->RelV x v->RelV y u->r x y H Q->
  wpAny (model X.prog X.w) X.A (f v u) (EP X B Z Q) X.xe s
def GK(X:Cx)(f:Value->Sem Value)(r:V->Hp->VK->Prop):Prop:=
 ∀(B:List (Addr×Obj))(s:Shared)(Z:St)(H:Hp)(x:V)(v:Value)(Q:VK),Inv X B Z H s->RelV x v->r x H Q->
  wpAny (model X.prog X.w) X.A (f v) (EP X B Z Q) X.xe s
def ux(X:Cx)(f:Value)(r:Qby->Hp->VK->Prop):Prop:=
 ∀(B:List (Addr×Obj))(s:Shared)(Z:St)(H:Hp)(xs:Qby)(us:Qbp)(Q:VK),Inv X B Z H s->bg xs us->r xs H Q->
  wpAny (model X.prog X.w) X.A (call f us) (EP X B Z Q) X.xe s
def Tn(X:Cx)(r:V->Hp->(Bool->Hp->Prop)->Prop):Prop:=
 ∀(B:List (Addr×Obj))(s:Shared)(Z:St)(H:Hp)(x:V)(v:Value)(Q:Bool->Hp->Prop),Inv X B Z H s->RelV x v->r x H Q->
  wpAny (model X.prog X.w) X.A (truthy v) (TP X B Z Q) X.xe s
def l_(r:R2)(a b:TE):TE:=λZ H Q=>a Z H λx H1=>b Z H1 λy H2=>r x y H2 Q
def MS(r:V->Hp->VK->Prop)(a:TE):TE:=λZ H Q=>a Z H λx H1=>r x H1 Q
def rI(C:Int->Int->Prop)(g:Int->Int->V):R2:=λx y H Q=>∃i j,x=.int i/\y=.int j/\C i j/\Q (g i j) H
def Cm(g:Int->Int->V):R2:=λx y H Q=>∃i j,x=.int i/\y=.int j/\Q (g i j) H
def rU(g:Int->V):V->Hp->VK->Prop:=λx H Q=>∃i,x=.int i/\Q (g i) H
section
variable{a b c:Expr}{tb tc:TE}{pos:Pos}
theorem Jg(e:PE X a ta)(g:PE X b tb){R:V->V->Hp->Prop}(I:Inv X B Z H s)
  (h:ta Z H λx H1=>tb Z H1 λy H2=>R x y H2) {Q:Value->Shared->Prop} {f:Value->Value->Sem Value}
  (i:∀v u s2 x y H2,Inv X B Z H2 s2->RelV x v->RelV y u->R x y H2->wpAny (model X.prog X.w) X.A (f v u) Q X.xe s2):
  wpAny (model X.prog X.w) X.A (eval a X.env) (λv c=>wpAny (model X.prog X.w) X.A (eval b X.env) (λu d=>wpAny (model X.prog X.w) X.A (f v u) Q X.xe d) X.xe c) X.xe s:=by
 refine av (e B s Z H _ I h) ?_;rintro v j ⟨x,H1,k,l,m⟩;refine av (g B j Z H1 _ k m) ?_;rintro u s2 ⟨y,H2,n,o,p⟩;exact i v u s2 x y H2 n l o p
theorem To{d:Operator}{r:R2}(e:dj X (binaryOp d) r)(f:PE X a ta)(g:PE X b tb):PE X (.BinOp a d b pos) (l_ r ta tb):=by
 intro c s i H Q I h;exact wpAny_BinOp (Jg f g I h λv u j x y k l m n q=>e c j i k x y v u Q l m n q)
theorem Tp{c:UnaryOp}{r:V->Hp->VK->Prop}(e:GK X (unaryOp c) r)(f:PE X a ta):PE X (.UnaryOp c a pos) (MS r ta):=by
 intro b s d H Q I h;exact UnaryOp_ (av (f b s d H _ I h) λv g ⟨x,i,j,k,l⟩=>e b g d i x v Q j k l)
theorem GL{f:Value->Value->Sem Value}{C:Int->Int->Prop}{g:Int->Int->Int}
  (rule:∀(i j:Int)(t u:Tok)(s:Shared)(Q:Value->Shared->Prop)(E:Value->Shared->Prop),C i j->Q (.int (g i j) s.toks) {s with toks:=s.toks+1}->wpAny (model X.prog X.w) X.A (f (.int i t) (.int j u)) Q E s):
  dj X f (rI C λi j=>.int (g i j)):=by
 intro a s d H x y v u Q I b c h;obtain⟨i,j,rfl,rfl,hc,q⟩:=h;obtain⟨t,rfl⟩:=b;obtain⟨t',rfl⟩:=c;exact rule i j t t' s _ _ hc ⟨.int (g i j),H,I.tok _,⟨_,rfl⟩,q⟩
theorem Tq{f:Value->Value->Sem Value}{g:Int->Int->Int}
  (rule:∀(i j:Int)(t u:Tok)(s:Shared)(Q:Value->Shared->Prop)(E:Value->Shared->Prop),Q (.int (g i j) s.toks) {s with toks:=s.toks+1}->wpAny (model X.prog X.w) X.A (f (.int i t) (.int j u)) Q E s):
  dj X f (Cm λi j=>.int (g i j)):=by
 intro a s d H x y v u Q I b c h;obtain⟨i,j,rfl,rfl,q⟩:=h;obtain⟨t,rfl⟩:=b;obtain⟨t',rfl⟩:=c;exact rule i j t t' s _ _ ⟨.int (g i j),H,I.tok _,⟨_,rfl⟩,q⟩
theorem GN{f:Value->Value->Sem Value}{g:Int->Int->Bool}
  (rule:∀(i j:Int)(t u:Tok)(s:Shared)(Q:Value->Shared->Prop)(E:Value->Shared->Prop),Q (.bool (g i j)) s->wpAny (model X.prog X.w) X.A (f (.int i t) (.int j u)) Q E s):
  dj X f (Cm λi j=>.bl (g i j)):=by
 intro a s d H x y v u Q I b c h;obtain⟨i,j,rfl,rfl,q⟩:=h;obtain⟨t,rfl⟩:=b;obtain⟨t',rfl⟩:=c;exact rule i j t t' s _ _ ⟨.bl (g i j),H,I,rfl,q⟩
def Tr(i j:Int):Prop:=0<j/\j<1073741824
def MT(i j:Int):Prop:=0<=j/\j<=1000000/\i.natAbs<2^64
def GO(i j:Int):Prop:=(-(2^64)<i/\i<2^64)\/(-(2^64)<j/\j<2^64)
theorem GO.ok{i j:Int}(h:GO i j):IntMulOk i j:=by
 rcases h with⟨a,b⟩|⟨a,b⟩
 ·exact .of_left (intBits_le_64 a b)
 ·exact .of_right (intBits_le_64 a b)
theorem Tt:dj X (binaryOp .Add) (Cm λi j=>.int (i+j)):=Tq λ_ _ _ _ _ _ _ q=>add_int q
theorem Tu:dj X (binaryOp .Mult) (rI GO λi j=>.int (i*j)):=GL λ_ _ _ _ _ _ _ a q=>mul_int q a.ok
theorem Tw:dj X (binaryOp .FloorDiv) (rI Tr λi j=>.int (i / j)):=GL λi j _ _ _ _ _ a q=>by
 have b:(0:Int)<j:=a.1;have c:j<1073741824:=a.2;exact floordiv_int (by lia) (by rw[Int.fdiv_eq_ediv_of_nonneg i (by lia)];exact q) (.inl (PyProof.noPylong_small (by lia)))
theorem Tz:dj X (binaryOp .Mod) (rI (λ_ j=>0<j) λi j=>.int (i % j)):=GL λi j _ _ _ _ _ a q=>by
 have b:(0:Int)<j:=a;exact mod_int' (by lia) (by rw[Int.fmod_eq_emod_of_nonneg i (by lia)];exact q)
theorem TF:dj X (binaryOp .Pow) (rI MT λi j=>.int (i^j.toNat)):=GL λ_ _ _ _ _ _ _ a q=>pow_int_small a.1 a.2.1 a.2.2 q
theorem TJ{f:Value->Sem Value}{g:Int->Int}
  (rule:∀(i:Int)(t:Tok)(s:Shared)(Q:Value->Shared->Prop)(E:Value->Shared->Prop),Q (.int (g i) s.toks) {s with toks:=s.toks+1}->wpAny (model X.prog X.w) X.A (f (.int i t)) Q E s):
  GK X f (rU λi=>.int (g i)):=by
 intro a s c H x v Q I b h;obtain⟨i,rfl,q⟩:=h;obtain⟨t,rfl⟩:=b;exact rule i t s _ _ ⟨.int (g i),H,I.tok _,⟨_,rfl⟩,q⟩
theorem TL:GK X (unaryOp .USub) (rU λi=>.int (-i)):=TJ λ_ _ _ _ _ q=>neg_int q
end
def EZ:V->V->Bool
 | .aq,.aq=>true| .aq,.int _=>true| .int _,.aq=>true| .aq,.bl _=>true| .bl _,.aq=>true| .aq,.str _=>true| .str _,.aq=>true
 | .int _,.int _=>true| .bl _,.bl _=>true| .str _,.str _=>true| .qp _,.qp _=>true
 | .int _,.str _=>true| .str _,.int _=>true| .bl _,.str _=>true| .str _,.bl _=>true
 |_,_=>false
def TM:R2:=λx y H Q=>EZ x y=true/\Q (.bl (decide (x=y))) H
def TN:R2:=λx y H Q=>EZ x y=true/\Q (.bl (!decide (x=y))) H
theorem vL{i j:Int}:decide (V.int i=V.int j)=(i==j):=by
 rw[Qbb];simp
theorem zJ{i j:Bool}:decide (V.bl i=V.bl j)=(i==j):=by
 rw[Qbb];simp
theorem vQ{i j:Str}:decide (V.str i=V.str j)=(i==j):=by
 rw[Qbb];simp
theorem vV{i j:Array UInt8}:decide (V.qp i=V.qp j)=(i.toList==j.toList):=by
 rw[Qbb];cases i;cases j;simp
section
variable{a b c:Expr}{tb tc:TE}{pos:Pos}
theorem aZ{Q:VK}{k a:Bool}(I:Inv X B Z H s)(q:Q (.bl k) H)(e:k=a):EP X B Z Q (.bool a) s:=by
 subst e;exact⟨.bl k,H,I,rfl,q⟩
theorem TQ:dj X (compareOp .Eq) TM:=by
 intro c s d H x y v u Q I b a h;obtain⟨hs,q⟩:=h;cases x with
 |aq=>
  cases b;cases y with
  |aq=>cases a;exact PySem.EqNone.eq_none_none (aZ I q (by simp))
  |bl j=>cases a;exact PySem.EqNone.eq_none_bool (aZ I q (by simp))
  |int j=>obtain⟨t',rfl⟩:=a;exact PySem.EqNone.eq_none_int (aZ I q (by simp))
  |str j=>obtain⟨t',rfl⟩:=a;exact PySem.EqNone.eq_none_str (aZ I q (by simp))
  |_=>exact absurd (show false=true from hs) yH
 |bl i=>
  cases b;cases y with
  |aq=>cases a;exact PySem.EqNone.eq_bool_none (aZ I q (by simp))
  |bl j=>cases a;exact eq_bool (aZ I q zJ)
  |str j=>obtain⟨t',rfl⟩:=a;exact PySem.EqMixed.eq_bool_str (aZ I q (by simp))
  |_=>exact absurd (show false=true from hs) yH
 |int i=>
  obtain⟨t,rfl⟩:=b;cases y with
  |aq=>cases a;exact PySem.EqNone.eq_int_none (aZ I q (by simp))
  |int j=>obtain⟨t',rfl⟩:=a;exact eq_int (aZ I q vL)
  |str j=>obtain⟨t',rfl⟩:=a;exact PySem.EqMixed.eq_int_str (aZ I q (by simp))
  |_=>exact absurd (show false=true from hs) yH
 |str i=>
  obtain⟨t,rfl⟩:=b;cases y with
  |aq=>cases a;exact PySem.EqNone.eq_str_none (aZ I q (by simp))
  |bl j=>cases a;exact PySem.EqMixed.eq_str_bool (aZ I q (by simp))
  |int j=>obtain⟨t',rfl⟩:=a;exact PySem.EqMixed.eq_str_int (aZ I q (by simp))
  |str j=>obtain⟨t',rfl⟩:=a;exact eq_str (aZ I q vQ)
  |_=>exact absurd (show false=true from hs) yH
 |qp i=>
  obtain⟨t,rfl⟩:=b;cases y with
  |qp j=>obtain⟨t',rfl⟩:=a;exact PySem.W.eq_bytes (aZ I q vV)
  |_=>exact absurd (show false=true from hs) yH
 |_=>cases y<;>exact absurd (show false=true from hs) yH
theorem TR:dj X (compareOp .NotEq) TN:=by
 intro c s d H x y v u Q I b a h;obtain⟨hs,q⟩:=h;cases x with
 |aq=>
  cases b;cases y with
  |aq=>cases a;exact PySem.EqNone.ne_none_none (aZ I q (by simp))
  |bl j=>cases a;exact PySem.EqNone.ne_none_bool (aZ I q (by simp))
  |int j=>obtain⟨t',rfl⟩:=a;exact PySem.EqNone.ne_none_int (aZ I q (by simp))
  |str j=>obtain⟨t',rfl⟩:=a;exact PySem.EqNone.ne_none_str (aZ I q (by simp))
  |_=>exact absurd (show false=true from hs) yH
 |bl i=>
  cases b;cases y with
  |aq=>cases a;exact PySem.EqNone.ne_bool_none (aZ I q (by simp))
  |bl j=>cases a;exact ne_bool (aZ I q (congrArg not zJ))
  |str j=>obtain⟨t',rfl⟩:=a;exact PySem.EqMixed.ne_bool_str (aZ I q (by simp))
  |_=>exact absurd (show false=true from hs) yH
 |int i=>
  obtain⟨t,rfl⟩:=b;cases y with
  |aq=>cases a;exact PySem.EqNone.ne_int_none (aZ I q (by simp))
  |int j=>obtain⟨t',rfl⟩:=a;exact ne_int (aZ I q (congrArg not vL))
  |str j=>obtain⟨t',rfl⟩:=a;exact PySem.EqMixed.ne_int_str (aZ I q (by simp))
  |_=>exact absurd (show false=true from hs) yH
 |str i=>
  obtain⟨t,rfl⟩:=b;cases y with
  |aq=>cases a;exact PySem.EqNone.ne_str_none (aZ I q (by simp))
  |bl j=>cases a;exact PySem.EqMixed.ne_str_bool (aZ I q (by simp))
  |int j=>obtain⟨t',rfl⟩:=a;exact PySem.EqMixed.ne_str_int (aZ I q (by simp))
  |str j=>obtain⟨t',rfl⟩:=a;exact ne_str (aZ I q (congrArg not vQ))
  |_=>exact absurd (show false=true from hs) yH
 |qp i=>
  obtain⟨t,rfl⟩:=b;cases y with
  |qp j=>obtain⟨t',rfl⟩:=a;exact PySem.W.ne_bytes (aZ I q (congrArg not vV))
  |_=>exact absurd (show false=true from hs) yH
 |_=>cases y<;>exact absurd (show false=true from hs) yH
theorem TU:dj X (compareOp .Lt) (Cm λi j=>.bl (decide (i<j))):=GN λ_ _ _ _ _ _ _ q=>lt_int q
theorem TV:dj X (compareOp .LtE) (Cm λi j=>.bl (decide (i<=j))):=GN λ_ _ _ _ _ _ _ q=>le_int q
theorem TY:dj X (compareOp .Gt) (Cm λi j=>.bl (decide (j<i))):=GN λ_ _ _ _ _ _ _ q=>gt_int q
theorem TZ:dj X (compareOp .GtE) (Cm λi j=>.bl (decide (j<=i))):=GN λ_ _ _ _ _ _ _ q=>ge_int q
theorem x9:dj X (compareOp .Lt) (λx y H Q=>∃i j,x=.str i/\y=.str j/\Q (.bl (decide (i.cps.toList<j.cps.toList))) H):=by
 intro a s d H x y v u Q I b c h;obtain⟨i,j,rfl,rfl,q⟩:=h;obtain⟨t,rfl⟩:=b;obtain⟨t',rfl⟩:=c;exact lt_str (aZ I q rfl)
theorem xQ:dj X (compareOp .In) (λx y H Q=>∃i j,x=.str i/\y=.str j/\Q (.bl (!(Builtin.Str.occurrences j i 0 j.length 1).isEmpty)) H):=by
 intro a s d H x y v u Q I b c h;obtain⟨i,j,rfl,rfl,q⟩:=h;obtain⟨t,rfl⟩:=b;obtain⟨t',rfl⟩:=c;exact in_str (aZ I q rfl)
theorem MU(b:Expr)(h:op≠.In:=by decide)(a:op≠.NotIn:=by decide):behindInMarks op b=false:=by
 have c:(op==CmpOp.In)=false:=by cases op<;>first|rfl|exact absurd rfl h
 have d:(op==CmpOp.NotIn)=false:=by cases op<;>first|rfl|exact absurd rfl a
 cases b<;>simp[behindInMarks,c,d]
theorem T6{r:R2}(d:dj X (compareOp op) r)(e:PE X a ta)(f:PE X b tb)(g:behindInMarks op b=false):PE X (.Compare a [op] [b] pos) (l_ r ta tb):=by
 intro c s i H Q I h;exact wpAny_Compare1 (Jg e f I h λv u j x y k l m n q=>d c j i k x y v u Q l m n q) g
def E2(t:TE):TT:=λZ H Q=>t Z H λx U=>∃k,x=.bl k/\Q k U
theorem T9{r:R2}(g:dj X (compareOp op) r)(i:PE X a ta)(j:PE X b tb)(l:behindInMarks op b=false):PT X (.Compare a [op] [b] pos) (E2 (l_ r ta tb)):=by
 intro d s f H Q I h;refine wpAny_isTrue_Compare1 (av (i d s f H _ I h) λv m ⟨x,n,o,p,q⟩=>av (j d m f n _ o q) λu t ⟨y,w,A,C,D⟩=>
  av (g d t f w x y v u _ A p C D) λc N ⟨z,E,G,K,k,e,L⟩=>?_) l
 subst e;cases K;exact wpAny_truthy_bool ⟨E,G,L⟩
def Jh(K:Q0)(x:V)(H:Hp)(k:Bool):Prop:=
 match x with
 | .aq=>k=false
 | .bl b=>k=b
 | .int i=>k=(i !=0)
 | .str y=>y.length<=sizeLine/\k=((y.length:Int) !=0)
 | .qp y=>y.size<=sizeLine/\k=((y.size:Int) !=0)
 | .ref p=>(∃xs,ao K H p xs/\k= !xs.isEmpty)\/(∃xs,ay K H p xs/\k= !xs.isEmpty)\/∃kvs,H p=some (.dK kvs)/\k= !kvs.isEmpty
 |_=>False
theorem tT{kvs:List (κ×V)}{vs:List (κ×Value)}(r:KV kvs vs):(!vs.isEmpty)= !kvs.isEmpty:=by
 cases r<;>rfl
theorem nK{xs:Qby}{a:Qbp}(r:bg xs a):(!a.toArray.isEmpty)= !xs.isEmpty:=by
 cases r<;>simp
theorem DH:(sizeLine:Nat)<2^63:=by rw[QM];decide
theorem T_:Tn X (λx H Q=>∃k,Jh X.K x H k/\Q k H):=by
 intro l s o H x v Q I f h;obtain⟨k,e,q⟩:=h;have u:=DH;have z:sizeLine=16777216:=QM;cases x with
 |aq=>
  cases f;have a:k=false:=e;subst a;exact truthy_none ⟨H,I,q⟩
 |bl b=>
  cases f;have a:k=b:=e;subst a;exact wpAny_truthy_bool ⟨H,I,q⟩
 |int i=>
  obtain⟨t,rfl⟩:=f;have a:k=(i !=0):=e;subst a;exact PySem.P.truthy_int ⟨H,I,q⟩
 |str y=>
  obtain⟨t,rfl⟩:=f;obtain⟨hy,a⟩:y.length<=sizeLine/\k=((y.length:Int) !=0):=e;subst a;exact PySem.P.truthy_str (by lia) ⟨H,I.tok _,q⟩
 |qp y=>
  obtain⟨t,rfl⟩:=f;obtain⟨hy,a⟩:y.size<=sizeLine/\k=((y.size:Int) !=0):=e;subst a;exact PySem.W.truthy_bytes (by lia) ⟨H,I.tok _,q⟩
 |ref p=>
  cases f;have a:(∃d,ao X.K H p d/\k= !d.isEmpty)\/(∃d,ay X.K H p d/\k= !d.isEmpty)\/∃c,H p=some (.dK c)/\k= !c.isEmpty:=e;rcases a with⟨d,g,a⟩|⟨d,g,a⟩|⟨c,g,a⟩
  ·subst a;obtain⟨its,r,pl,hz⟩:=I.list g;have n:=r.length;exact wpAny_truthy_list pl.isList (by simp only[yJ];lia) ⟨H,I.tok _,by rw[nK r];exact q⟩
  ·subst a;obtain⟨its,r,pl,hz⟩:=I.tuple g;have n:=r.length;exact truthy_tuple pl (by simp only[yJ];lia) ⟨H,I.tok _,by rw[nK r];exact q⟩
  ·subst a;obtain⟨hz,hS,j,r,m⟩:c.length<=sizeLine/\(p==sysModules)=false/\∃j,KV c j/\s.heap.DictOf (c_ X.prog X.w) p j:=I.hok p _ g;have n:c.length=j.length:=Paired.length r;exact wpAny_truthy_dict hS m (by lia) ⟨H,I.tok _,by rw[tT r];exact q⟩
 |_=>exact(show False from e).elim
theorem Ua(d:PE X a ta)(e:∀b,isTrue a X.env b=(do let v <- b;standAt a.pos;holding [v] (truthy v))):
  PT X a (λZ H Q=>ta Z H λx U=>∃k,Jh X.K x U k/\Q k U):=by
 intro c s Z H Q I h;exact isTrue_plain (av (d c s Z H _ I h) λv f ⟨x,g,i,j,l⟩=>T_ c f Z g x v Q i j l) (e _)
theorem uN:dj X (binaryOp .Add) (λx y H Q=>∃i j,x=.str i/\y=.str j/\i.length+j.length<=sizeLine/\Q (.str (i++j)) H):=by
 intro a s e H x y v u Q I b c h;obtain⟨i,j,rfl,rfl,hz,q⟩:=h;obtain⟨t,rfl⟩:=b;obtain⟨d,rfl⟩:=c;exact add_str (λd f=>⟨.str (i++j),H,I.tok _,⟨_,rfl⟩,q⟩) hz
theorem vals1{x:V}(r:bg [x] us):∃u,us=[u]/\RelV x u:=by
 cases r with
 |cons r1 r2=>cases r2;exact⟨_,rfl,r1⟩
def Ub(K:Q0)(x:V)(H:Hp)(n:Nat):Prop:=
 match x with
 | .str y=>y.length<=sizeLine/\n=y.length
 | .qp y=>y.size<=sizeLine/\n=y.size
 | .ref p=>(∃xs,ao K H p xs/\n=xs.length)\/∃xs,ay K H p xs/\n=xs.length
 |_=>False
theorem mO:ux X (.builtin "len") (λxs H Q=>∃x n,xs=[x]/\Ub X.K x H n/\Q (.int n) H):=by
 intro d s f H xs g Q I r h;obtain⟨x,n,rfl,e,q⟩:=h;obtain⟨u,rfl,rx⟩:=vals1 r;have i:=DH;have j:sizeLine=16777216:=QM;cases x with
 |str y=>
  obtain⟨t,rfl⟩:=rx;obtain⟨hy,a⟩:y.length<=sizeLine/\n=y.length:=e;subst a;exact len_str (by lia) ⟨.int _,H,I.tok _,⟨_,rfl⟩,q⟩
 |qp y=>
  obtain⟨t,rfl⟩:=rx;obtain⟨hy,a⟩:y.size<=sizeLine/\n=y.size:=e;subst a;exact PySem.W.len_bytes (by lia) ⟨.int _,H,I.tok _,⟨_,rfl⟩,q⟩
 |ref p=>
  cases rx;have a:(∃xs,ao X.K H p xs/\n=xs.length)\/∃xs,ay X.K H p xs/\n=xs.length:=e;rcases a with⟨xs,b,a⟩|⟨xs,b,a⟩
  ·subst a;obtain⟨its,r',pl,hz⟩:=I.list b;have c:=r'.length;exact Calls.call_len_list pl.isList (by simp only[yJ];lia) ⟨.int xs.length,H,I.tok _,⟨_,by simp only[yJ];rw[c]⟩,q⟩
  ·subst a;obtain⟨its,r',pl,hz⟩:=I.tuple b;have c:=r'.length;exact len_tuple pl (by simp only[yJ];lia) ⟨.int xs.length,H,I.tok _,⟨_,by simp only[yJ];rw[c]⟩,q⟩
 |_=>exact(show False from e).elim
end
structure Cn(h:Heap)(x dx C:Addr)(mA:Str->Qbr):Prop where
 obj:h.get? x=some (PySem.W.instObj C dx)
 ns:h.Ns1 dx mA
 ne:dx≠x
theorem x6{b:Addr}(n:h.Ns1 b mA):∃od,h.get? b=some od/\∀name,PySem.W.lookIn name od=some (mA name):=by
 obtain⟨o,es,ep,ho,hd,hk,_,hm⟩:=n;refine⟨o,ho,λname=>?_⟩;have e:=hm name;unfold nsFind findBy at e;rw[<- Array.find?_toList]at e;unfold PySem.W.lookIn;rw[hd];dsimp only;split
 ·rename_i y q
  rw[q]at e;exact congrArg some e
 ·rename_i q
  rw[q]at e;have a:es.toList.any (·.refKey)=false:=by
   rw[List.any_eq_false];intro y c;obtain⟨z,t,Co⟩:=hk y (Array.mem_toList_iff.mp c);simp[DictEntry.refKey,Co]
  have d:¬es.toList.any (·.refKey)=true:=by rw[a];exact yH
  rw[if_neg d];exact congrArg some e
theorem Cn.look{x a:Addr}(I:Cn h x a C mA):∃od,PySem.W.InstAt h x (PySem.W.instObj C a) C (some od)/\∀name,PySem.W.lookIn name od=some (mA name):=
 let ⟨od,ho,hl⟩:=x6 I.ns
 ⟨od,⟨I.obj,rfl,rfl,ho⟩,hl⟩
section
variable{K:Q0}{x dx f:Addr}{v:Value}
theorem Uc{a:Bool}(X:K.In s.heap)(I:Cn s.heap x dx C mA)(b:PySem.W.plainGet K C name=true)(c:PySem.W.hasDictIn K C=true)
  (d:PySem.W.findIn K (.ref C) name=some none) (hv:mA name=some v) (e:PySem.W.handedIn v=true) (h:Q v {s with toks:=s.toks+1}):
  wpAny (model prog w) A (getAttr (.ref x) name a) Q E s:=by
 obtain⟨od,J,hl⟩:=I.look;exact PySem.W.get_value X J (PySem.W.plainGet_of b).1 (PySem.W.findObj_own c d rfl (by rw[hl,hv])) e h
theorem Ud{Q:Value×Qbp->Shared->Prop}(X:K.In s.heap)(I:Cn s.heap x dx C mA)(a:PySem.W.plainGet K C name=true)
  (b:PySem.W.findIn K (.ref C) name=some (some (.ref f))) (c:PySem.W.isFn K (.ref f)=true) (hv:mA name=none) (h:Q (.ref f,[.ref x]) s):
  wpAny (model prog w) A (getMethod (.ref x) name pl) Q E s:=by
 obtain⟨od,J,hl⟩:=I.look;exact PySem.W.method_fn X J (PySem.W.plainGet_of a).1 (PySem.W.plainGet_of a).2 b (beq_iff_eq.mp c) (by show(PySem.W.lookIn name od).map (·.isSome)=some false;rw[hl,hv];rfl) h
theorem Ue{Q:Unit->Shared->Prop}(X:K.In s.heap)(I:Cn s.heap x dx C mA)
  (hs:PySem.W.findIn K (.ref C) "__setattr__"=some (some (.builtin "object.__setattr__"))) (e:PySem.W.plainOver K C=true) (f:PySem.W.takerIn K C name=some none) (g:PySem.W.hasDictIn K C=true)
  (i:PySem.Within mA ns) (hsz:ns.length<=sizeLine)
  (h:∀M,Cn M x dx C (λy=>if y=name then some v else mA y)->Heap.SameBut dx s.heap M->Q () {s with heap:=M,toks:=s.toks+2}):
  wpAny (model prog w) A (setAttr (.ref x) name v) Q E s:=by
 obtain⟨od,J,hl⟩:=I.look;refine PySem.W.set_plain X J hs (PySem.W.osa_open (s:={s with toks:=s.toks+1}) (r:=none) X J e f λb=>?_);obtain⟨cd,hc,IX⟩:=PySem.W.any_some g;have j:s.heap.get? x=some ⟨.ref C,some dx,.plain,#[]⟩:=I.obj;refine QT (QU (QT (QT (wpAny_loadPart j (QT (PySem.W.Looks.here (s:={s with toks:=s.toks+1}) (PySem.W.looks_clsIn X hc) ?_))))));rw[IX];refine QU (a:=some dx) (QT (QU (QT ?_)));refine wpAny_nsSet1 (s:={s with toks:=s.toks+1}) I.ns λM c d=>?_;obtain⟨oD,esD,epD,Ug,Uh,Ui⟩:=c.count (PySem.Within.cons name v i);refine QT (wpAny_lookBehind Ug (by rw[Uh];exact pastItsLine_dict (Qag Ui (by rw[Qaf];lia))) ?_);exact QU (h _ ⟨(d.2 _ (Ne.symm I.ne)).trans I.obj,c,I.ne⟩ d)
theorem Uj {vs:Qbp} (X:K.In s.heap) (a:PySem.W.makesIn K C=true)
  (hi:PySem.W.findIn K (.ref C) "__init__"=some (some (.ref f))) (b:PySem.W.typeIn K (.ref f)=some (.type "function"))
  (h:codeAny (model prog w) (A.under (.builtin "type.__call__" ⟨.ref C::vs,kw⟩)) (.call (.ref f) ⟨.ref (s.heap.objs.size+1)::vs,kw⟩) (PySem.W.InitBack (s.heap.objs.size+1) R)
   {s with heap:=(s.heap.push PySem.W.emptyDict).push (PySem.W.instObj C s.heap.objs.size)}):
  codeAny (model prog w) A (.call (.ref C) ⟨vs,kw⟩) R s:=by
 obtain ⟨c,g,d,t,e⟩:=s
 exact PySem.W.make_core (PySem.W.makes_of X a) (PySem.W.looks_findIn X hi) (λself=>PySem.W.bind_fn X self b) (.inl rfl) h
end
def cj(f:Str)(v:V):Qbw->Qbw
 | []=>[(f,v)]
 |(g,x)::r=>if g=f then(g,v)::r else(g,x)::cj f v r
theorem bQ(f g:Str)(v:V):∀fs:Qbw,(cj f v fs).lookup g=if g=f then some v else fs.lookup g
 | []=>by
  show List.lookup g [(f,v)]=_;by_cases h:g=f
  ·have a:(g==f)=true:=beq_iff_eq.mpr h;simp only[List.lookup,a,if_pos h]
  ·have a:(g==f)=false:=beq_eq_false_iff_ne.mpr h;simp only[List.lookup,a,if_neg h]
 |(k,x)::r=>by
  have ih:=bQ f g v r;rw[show cj f v ((k,x)::r)=(if k=f then(k,v)::r else(k,x)::cj f v r)from rfl];by_cases hk:k=f
  ·rw[if_pos hk];by_cases h:g=k
   ·have a:(g==k)=true:=beq_iff_eq.mpr h;simp only[List.lookup,a,if_pos (h.trans hk)]
   ·have a:(g==k)=false:=beq_eq_false_iff_ne.mpr h;simp only[List.lookup,a,if_neg (λe:g=f=>h (e.trans hk.symm))]
  ·rw[if_neg hk];by_cases h:g=k
   ·have a:(g==k)=true:=beq_iff_eq.mpr h;simp only[List.lookup,a,if_neg (λe:g=f=>hk (h.symm.trans e))]
   ·have a:(g==k)=false:=beq_eq_false_iff_ne.mpr h;simp only[List.lookup,a];exact ih
theorem jT(f:Str)(v:V):∀fs:Qbw,f∈(cj f v fs).map (·.1)/\∀g,g∈fs.map (·.1)->g∈(cj f v fs).map (·.1)
 | []=>⟨by simp[cj],λg h=>by simp at h⟩
 |(k,x)::r=>by
  obtain⟨i1,i2⟩:=jT f v r;rw[show cj f v ((k,x)::r)=(if k=f then(k,v)::r else(k,x)::cj f v r)from rfl];by_cases hk:k=f
  ·rw[if_pos hk];subst hk;exact⟨by simp,λg h=>by simpa using h⟩
  ·rw[if_neg hk];refine⟨?_,λg h=>?_⟩
   ·rw[xA];exact Qh _ i1
   ·rw[xA]at h⊢;rcases Qp.mp h with e|e
    ·exact Qp.mpr (.inl e)
    ·exact Qh _ (i2 g e)
theorem bL(f:Str)(v:V):∀fs:Qbw,(cj f v fs).length<=fs.length+1
 | []=>by simp[cj]
 |(k,x)::r=>by
  have ih:=bL f v r;rw[show cj f v ((k,x)::r)=(if k=f then(k,v)::r else(k,x)::cj f v r)from rfl];by_cases hk:k=f
  ·rw[if_pos hk,Qaf,Qaf];lia
  ·rw[if_neg hk,Qaf,Qaf];lia
theorem nq.some_of{v:V}{o:Qbr}(r:nq (some v) o):∃u,o=some u/\RelV v u:=by
 cases o with
 |none=>exact(show False from r).elim
 |some u=>exact⟨u,rfl,r⟩
theorem nq.none_of{o:Qbr}(r:nq none o):o=none:=by
 cases o with
 |none=>rfl
 |some u=>exact(show False from r).elim
theorem yD{v:V}(r:RelV v u):PySem.W.handedIn u=true:=by
 cases v with
 |aq=>cases(show u=Value.none from r);rfl
 |bl b=>cases(show u=Value.bool b from r);rfl
 |int i=>obtain⟨t,e⟩:=(show ∃t,u=Value.int i t from r);cases e;rfl
 |str x=>obtain⟨t,e⟩:=(show ∃t,u=Value.str x t from r);cases e;rfl
 |qp b=>obtain⟨t,e⟩:=(show ∃t,u=Value.bytes b t from r);cases e;rfl
 |Gy b=>obtain⟨t,e⟩:=(show ∃t,u=Value.float b t from r);cases e;rfl
 |ref a=>cases(show u=Value.ref a from r);rfl
 |ty n=>cases(show u=Value.type n from r);rfl
section
variable{dx:Addr}{fs Se:Qbw}
theorem qX(hok:fg P w H h)(e:H a=some (.ins C dx fs)):∃mA,Cn h a dx C mA/\(∀f,nq (fs.lookup f) (mA f))/\PySem.Within mA (fs.map (·.1))/\fs.length<=1000/\H dx=some (.own a):=by
 obtain⟨d,z,ne,ob,mA,n,r,q⟩:=(show bx P w H h a (.ins C dx fs)from hok a _ e)
 exact⟨mA,⟨ob,n,ne⟩,r,q,z,d⟩
end
structure uy(K:Q0)(C:Addr):Prop where
 pg:PySem.W.plainGet K C Str.empty=true
 hd:PySem.W.hasDictIn K C=true
 po:PySem.W.plainOver K C=true
 sa:PySem.W.findIn K (.ref C) "__setattr__"=some (some (.builtin "object.__setattr__"))
theorem uy.get{K:Q0}(c:uy K C)(f:Str):PySem.W.plainGet K C f=true:=c.pg
def Ae(K:Q0)(C:Addr)(f:Str):Prop:=PySem.W.findIn K (.ref C) f=some none
theorem Ae.Uk{K:Q0}{f:Str}(n:Ae K C f):PySem.W.takerIn K C f=some none:=by
 unfold PySem.W.takerIn;rw[show PySem.W.findIn K (.ref C) f=some none from n];rfl
structure E3(K:Q0)(C:Addr)(m:Str)(f:Addr):Prop where
 at_:PySem.W.findIn K (.ref C) m=some (some (.ref f))
 fn:PySem.W.isFn K (.ref f)=true
 kp:PySem.W.keepIn K (.ref f)=true
section
variable{dx:Addr}{fs:Qbw}{f:Str}{v:V}
theorem uT{b:Bool}(I:Inv X B Z H s)(e:H a=some (.ins C dx fs))(c:uy X.K C)(n:Ae X.K C f)(l:fs.lookup f=some v)
  (h:∀u s',Inv X B Z H s'->RelV v u->Q u s'):wpAny (model X.prog X.w) A (getAttr (.ref a) f b) Q E s:=by
 obtain⟨mA,O,r,_,_,_⟩:=qX I.hok e;obtain⟨u,hu,ru⟩:=nq.some_of (v:=v) (o:=mA f) (by rw[<- l];exact r f);exact Uc I.qt O (c.get f) c.hd n hu (yD ru) (h u _ (I.tok _) ru)
theorem m8{m:Str}{g:Addr}{Q:Value×Qbp->Shared->Prop}(I:Inv X B Z H s)(e:H a=some (.ins C dx fs))(c:uy X.K C)(k:E3 X.K C m g)(l:fs.lookup m=none)
  (h:Q (.ref g,[.ref a]) s):wpAny (model X.prog X.w) A (getMethod (.ref a) m pl) Q E s:=by
 obtain⟨mA,O,r,_,_,_⟩:=qX I.hok e;have b:mA m=none:=nq.none_of (by rw[<- l];exact r m);exact Ud I.qt O (c.get m) k.at_ k.fn b h
theorem tL{y:V}{Q:Unit->Shared->Prop}(I:Inv X B Z H s)(e:H a=some (.ins C dx fs))(c:uy X.K C)(n:Ae X.K C f)(t:fs.length<1000)(i:RelV y u)
  (h:∀s',Inv X B Z (upd H a (.ins C dx (cj f y fs))) s'->Q () s'):wpAny (model X.prog X.w) A (setAttr (.ref a) f u) Q E s:=by
 obtain⟨mA,O,r,wi,_,ho⟩:=qX I.hok e;have j:(fs.map (·.1)).length<=sizeLine:=by rw[Ql,QM];lia
 refine Ue I.qt O c.sa c.po n.Uk c.hd wi j λk d l=>h _ ?_;have hd:∃o,k.get? dx=some o:=let ⟨o,_,_,e',_⟩:=d.ns;⟨o,e'⟩
 refine I.write (x:=a) (e:=dx) (by rw[e];exact True.intro) (.inr ho) (λb q m z=>(l.2 b m).trans z) hd ?_;refine⟨by rw[aB O.ne];exact ho,?_,O.ne,d.obj,_,d.ns,λg=>?_,λg p=>?_⟩
 ·have:=bL f y fs;lia
 ·show nq ((cj f y fs).lookup g) (if g=f then some u else mA g);rw[bQ];by_cases q:g=f
  ·rw[if_pos q,if_pos q];exact i
  ·rw[if_neg q,if_neg q];exact r g
 ·by_cases q:g=f
  ·rw[q];exact(jT f y fs).1
  ·refine(jT f y fs).2 g (wi g λz=>p ?_);show(if g=f then some u else mA g)=none;rw[if_neg q];exact z
theorem Inv.made(I:Inv X B Z H s):Inv X B Z (upd (upd H s.heap.objs.size (.own (s.heap.objs.size+1))) (s.heap.objs.size+1) (.ins C s.heap.objs.size []))
  {s with heap:=(s.heap.push PySem.W.emptyDict).push (PySem.W.instObj C s.heap.objs.size)}:=by
 have c:(s.heap.push PySem.W.emptyDict).get? s.heap.objs.size=some PySem.W.emptyDict:=Qd s.heap rfl;have f:((s.heap.push PySem.W.emptyDict).push (PySem.W.instObj C s.heap.objs.size)).get? (s.heap.objs.size+1)=some (PySem.W.instObj C s.heap.objs.size):=by
  have:=Qd (s.heap.push PySem.W.emptyDict) (o:=PySem.W.instObj C s.heap.objs.size) rfl
  rwa [QaS]at this
 have g:(s.heap.push PySem.W.emptyDict).Ns s.heap.objs.size (λ_=>none):=⟨PySem.W.emptyDict,#[],_,c,rfl,(λe h=>absurd h (by simp)),λ_=>rfl⟩
 have i:=I.laid (a:=s.heap.objs.size) (o:=.own (s.heap.objs.size+1)) (M:=s.heap.push PySem.W.emptyDict) (t':=s.toks) (λb u q=>Qc _ q) (Qz _) ⟨_,c⟩;refine i.laid (a:=s.heap.objs.size+1) (o:=.ins C s.heap.objs.size []) (t':=s.toks) (λb u q=>Qc _ q) (Nat.le_of_eq (QaS _ _)) ?_;have d:s.heap.objs.size≠s.heap.objs.size+1:=yT (Nat.lt_succ_self _);refine⟨by rw[aB d,aA],Qaj _,d,f,λ_=>none,(Heap.Ns1.of_empty g).at λo q=>Qc _ q,λ_=>True.intro,λy j=>absurd rfl j⟩
theorem Ul{f:Str}{b:Pos}(c:attributeBase e f env (eval e env)=eval e env)
  (h:wpAny (model prog w) A (eval e env) (λo a=>wpAny (model prog w) A (getAttr o f true) Q E a) E s):wpAny (model prog w) A (eval (.Attribute e f b) env) Q E s:=
 Attribute_any_ h (by rw[arm_eval_Attribute,c])
end
def MV(K:Q0)(b:TE)(f:Str):TE:=λZ H Q=>b Z H λx H1=>∃a C dx fs v,x=.ref a/\H1 a=some (.ins C dx fs)/\uy K C/\Ae K C f/\fs.lookup f=some v/\Q v H1
def GP(K:Q0)(b c:TE)(f:Str):TS:=λD Z H=>c Z H λy H1=>b Z H1 λx H2=>∃a C dx fs,x=.ref a/\H2 a=some (.ins C dx fs)/\uy K C/\Ae K C f/\fs.length<1000/\
 D.nx Z (upd H2 a (.ins C dx (cj f y fs)))
section
variable{o value:Expr}{f:Str}{pos:Pos}{tv:TE}
theorem Um(d:PE X e ta)(g:attributeBase e f X.env (eval e X.env)=eval e X.env):PE X (.Attribute e f pos) (MV X.K ta f):=by
 intro b s i H Q I h;refine Ul g (av (d b s i H _ I h) ?_);rintro u w ⟨x,j,k,m,a,C,y,z,v,o,p,c,n,l,q⟩;subst o;obtain rfl:u=Value.ref a:=m;exact uT k p c n l λA D r t=>⟨v,j,r,t,q⟩
theorem Uo(e:PE X o ta)(hv:PE X value tv)(hs:swapsWith value (some (.Attribute o f pos')) pos.line X.env=pure false):PS X (.Assign [.Attribute o f pos'] value pos) (GP X.K ta tv f):=by
 intro b s d H D I h;refine plainObj_wpAny_Assign_Attribute (av (hv b s d H _ I h) ?_) hs;rintro u g ⟨y,i,j,k,q⟩;refine av (e b g d i _ j q) ?_;rintro m E ⟨x,G,p,r,a,C,L,N,t,w,c,n,l,z⟩;subst t;obtain rfl:m=Value.ref a:=r;exact tL p w c n l k λP A=>⟨d,_,A,z⟩
end
structure gb(k:Nat)(A:Around):Prop where
 hd:A.handled=none
 dp:A.depth+3*k+5<recursionLimit
 un:A.units+16*k+200<cLine
 gd:A.guards=some []
theorem gb.mono{k:Nat}(r:gb k A)(h:j<=k):gb j A:=⟨r.hd,by have:=r.dp;lia,by have:=r.un;lia,r.gd⟩
theorem gb.deeper{k:Nat}{A:Around}(r:gb (k+1) A)(env:Env):gb k (A.deeper env):=
 ⟨r.hd,by have:=r.dp;show A.depth+1+3*k+5<_;lia,by have:=r.un;show A.units+3+16*k+200<_;lia,r.gd⟩
theorem tS:(A.under (.builtin "type.__call__" ⟨.ref C::us,kw⟩)).depth=A.depth+1:=by
 first|rfl|simp[Around.under,Code.weight,Code.isCreation,Code.isGuard,Code.isCaller,Code.frames,Code.isFrame,guardIds]
theorem tH:(A.under (.builtin "type.__call__" ⟨.ref C::us,kw⟩)).units=A.units+1:=by
 first|rfl|simp[Around.under,Code.cUnits,Code.frames,Code.isFrame]
theorem rC(h:A.guards=some []):(A.under (.builtin "type.__call__" ⟨.ref C::us,kw⟩)).guards=some []:=by
 first|exact h|(simp[Around.under,pushGuards,Code.guards,Code.isGuard,guardIds,h])
theorem gb.make{k:Nat}(r:gb (k+1) A)(C:Addr)(us:Qbp)(a:List (Str×Value)):gb k (A.under (.builtin "type.__call__" ⟨.ref C::us,a⟩)):=
 ⟨r.hd,by have:=r.dp;rw[tS];lia,by have:=r.un;rw[tH];lia,rC r.gd⟩
theorem gb.depth{k:Nat}{A:Around}(r:gb k A):A.depth<recursionLimit:=by have:=r.dp;lia
theorem gb.units{k:Nat}{A:Around}(r:gb k A):A.units+64<cLine:=by have:=r.un;lia
def qf:TA:=λ_ H Q=>Q [] H
def kc(a:TE)(b:TA):TA:=λZ H Q=>a Z H λx H1=>b Z H1 λxs H2=>Q (x::xs) H2
section
variable{t:TA}{pos:Pos}
theorem Up:PA X [] qf:=λ_ _ _ _ H Q I h=>Calls.spliced_nil ⟨[],H,I,.nil,h⟩
theorem dI(d:PE X e te)(f:PA X es t)(hs:QbB X e es:=by rfl):PA X (e::es) (kc te t):=by
 intro b a s c H Q I h;rw[hs];show wpAny _ _ (spliced ((false,eval e X.env)::backTo b (starEach es X.env))) _ _ s;refine Calls.spliced_cons (av (d a s c H _ I h) ?_);rintro u g ⟨x,i,j,k,l⟩;exact av (f b a g c i _ j l) λr w ⟨m,n,o,p,q⟩=>⟨x::m,n,o,.cons k p,q⟩
def Jj(t:TA):TE:=λZ H Q=>t Z H λxs H1=>xs.length<=sizeLine/\∀p,H1 p=none->Q (.ref p) (upd H1 p (.tup xs))
def GQ(t:TA):TE:=λZ H Q=>t Z H λxs H1=>xs.length<=sizeLine/\∀p,H1 p=none->Q (.ref p) (upd H1 p (.lst xs))
theorem Uq{x1}(h:PA X es t):PE X (.Tuple es x1 pos) (Jj t):=by
 intro a s g H Q I i;refine wpAny_Tuple_spliced (av (h pos a s g H _ I i) λj c ⟨k,d,f,r,z,q⟩=>⟨by rw[<- r.length];exact z,?_⟩);have l:d c.heap.objs.size=none:=f.hok.fresh (Qz _);refine⟨.ref c.heap.objs.size,upd d c.heap.objs.size (.tup k),f.laid (t':=c.toks) (λb u e=>Qc _ e) (Qz _) ?_,rfl,q _ l⟩;exact⟨⟨z,Bm.new rfl rfl⟩,j,r,⟨_,Qd _ rfl,rfl,_,rfl⟩⟩
theorem Ur(h:PA X es t):PE X (.List es pos) (GQ t):=by
 intro a s g H Q I i;refine wpAny_List_spliced (av (h pos a s g H _ I i) λj c ⟨k,d,f,r,z,q⟩=>⟨by rw[<- r.length];exact z,?_⟩);have l:d c.heap.objs.size=none:=f.hok.fresh (Qz _);refine⟨.ref c.heap.objs.size,upd d c.heap.objs.size (.lst k),f.laid (t':=c.toks) (λb u e=>Qc _ e) (Qz _) ?_,rfl,q _ l⟩;exact⟨z,j,0,r,Qd _ rfl⟩
end
abbrev Sp:=Qby->Hp->VK->XK->Prop
abbrev yx:=List Env->Hp->Shared->XK->Value->Shared->Prop
structure Cp(P:Program)(w:World)(K:Q0)(mg:Str->Qbr)(base:Heap)(A:Around)(outer:List Env)(s:Shared)(H:Hp):Prop where
 frames:A.frames=some outer
 mod:Mod K mg base
 bs:∀b o,base.get? b=some o->s.heap.get? b=some o/\H b=none
 AH:base.objs.size<=s.heap.objs.size
 xr:s.heap.FunFrames base outer
 Ce:∀b∈sf outer,H b=none
 hok:fg P w H s.heap
 bare:AllBare s.gens
def CE(a:List Env)(P:Program)(w:World)(H:Hp)(s:Shared)(Q:VK)(u:Value)(b:Shared):Prop:=
 ∃v U,b.os=s.os/\AllBare b.gens/\Un (sf a) [] H U s.heap b.heap/\fg P w U b.heap/\RelV v u/\Q v U
def CR(c:yx)(a:List Env)(P:Program)(w:World)(H:Hp)(s:Shared)(Q:VK)(E:XK)(r:Result)(b:Shared):Prop:=
 match r with
 | .ok (.ret u)=>CE a P w H s Q u b
 | .ok _=>False
 | .error e=>c a H s E e b
structure qg(P:Program)(w:World)(K:Q0)(mg:Str->Qbr)(base:Heap)(CX:yx)(k:Nat)(f:Addr)(fd:FuncData)(ps:Qbo)(sp:Sp):Prop where
 len:∀vs H Q E,sp vs H Q E->vs.length=ps.length
 run:∀(A:Around)(outer:List Env)(s:Shared)(H:Hp)(args:Args)(us:Qbp)(vs:Qby)(Q:VK)(E:XK),gb k A->Cp P w K mg base A outer s H->BindsTo s fd args (ps.zip us)->bg vs us->sp vs H Q E->
  codeAny (model P w) A (.call (.ref f) args) (CR CX outer P w H s Q E) s
theorem qg.imp{K:Q0}{b:yx}{k:Nat}{f:Addr}{c d:Sp}(F:qg P w K mg base b k f fd ps c)
  (h:∀vs H Q E,d vs H Q E->c vs H Q E):qg P w K mg base b k f fd ps d:=
 ⟨λvs H Q E q=>F.len vs H Q E (h _ _ _ _ q),λA a s H args e vs Q E g i j hv l=>F.run A a s H args e vs Q E g i j hv (h _ _ _ _ l)⟩
theorem Cp.make{K:Q0}{a:List Env}(e:Cp P w K mg base A a s H)(C:Addr)(us:Qbp)(b:List (Str×Value)):
  Cp P w K mg base (A.under (.builtin "type.__call__" ⟨.ref C::us,b⟩)) a s H:=⟨by first|exact e.frames|(simpa[Around.under,Code.envs,Code.isFrame,pushEnvs]using e.frames),e.mod,e.bs,e.AH,e.xr,e.Ce,e.hok,e.bare⟩
section
variable{s':Shared}
theorem Inv.MW(I:Inv X B Z H s):Cp X.prog X.w X.K X.mg X.base X.A X.stack s H:=
 ⟨I.ok.frames,I.ok.mod,I.bs,Qag I.ok.AH I.sz,I.stack,I.Mz,I.hok,I.bare⟩
theorem Inv.after{Q:VK}(I:Inv X B Z H s)(h:CE X.stack X.prog X.w H s Q u s'):EP X B Z Q u s':=by
 obtain⟨v,U,os,bare,un,hok,r,q⟩:=h;obtain⟨hh,g,d,t,Us⟩:=s';obtain rfl:Us=s.os:=os;exact⟨v,U,I.call (M:=hh) (g':=g) (d':=d) (t':=t) (ch:=[]) un hok bare (λb z=>absurd z (by simp)),r,q⟩
end
def E5(a:Sp)(b:Qby)(E:XK)(t:TA):TE:=λZ H Q=>t Z H λvs H1=>a (vs++b) H1 Q E
def E6(C:Addr)(m:Str)(b:Sp)(c:Qby)(E:XK)(d:TE)(t:TA):TE:=λZ H Q=>d Z H λx H1=>∃a dx fs,x=.ref a/\H1 a=some (.ins C dx fs)/\fs.lookup m=none/\
 t Z H1 λvs H2=>b (x::(vs++c)) H2 Q E
def GR(C:Addr)(a:Sp)(b:Qby)(E:XK)(t:TA):TE:=λZ H Q=>t Z H λvs H1=>∀x dx,H1 x=none->H1 dx=none->dx≠x->
 a (.ref x::(vs++b)) (upd (upd H1 dx (.own x)) x (.ins C dx [])) (λv H2=>v=.aq/\Q (.ref x) H2) E
def Binds(K:Q0)(b:FuncData)(a:Qbo)(ds:Qbp):Prop:=
 ∀(s:Shared)(us:Qbp),K.In s.heap->(us++ds).length=a.length->BindsTo s b ⟨us,[]⟩ (a.zip (us++ds))
theorem Binds.all{K:Q0}(h:∀us:Qbp,us.length=ps.length->bindArgs fd ⟨us,[]⟩=pure (ps.zip us)):Binds K fd ps []:=λs us _ a=>by
 rw[QR]at a⊢;exact .of_eq (h us a)
def Br(a:yx)(X:Cx)(E:XK):Prop:=∀(B:List (Addr×Obj))(Z:St)(H:Hp)(s:Shared)(e:Value)(s':Shared),Inv X B Z H s->a X.stack H s E e s'->X.xe e s'
section
variable{CX:yx}{k:Nat}{f:Addr}{sp:Sp}{kg:Qby}{ds:Qbp}{E:XK}{m:Str}{p pos:Pos}{o:Expr}{t:TA}
theorem tW{Q:VK}{vs:Qby}(F:qg X.prog X.w X.K X.mg X.base CX k f fd ps sp)(c:gb k X.A)(d:Binds X.K fd ps ds)(g:bg kg ds)(i:Br CX X E)
  (I:Inv X B Z H s) (r:bg vs us) (h:sp (vs++kg) H Q E):wpAny (model X.prog X.w) X.A (call (.ref f) us) (EP X B Z Q) X.xe s:=by
 have b:bg (vs++kg) (us++ds):=r.append g;have j:(us++ds).length=ps.length:=by rw[<- b.length];exact F.len _ _ _ _ h
 refine wpAny_call (codeAny_mono (F.run X.A X.stack s H ⟨us,[]⟩ (us++ds) (vs++kg) Q E c I.MW (d s us I.qt j) b h) λr l a=>?_);cases r with
 |error e=>exact i B Z H s e l I a
 |ok fl=>
  cases fl with
  |ret u=>exact I.after a
  |next=>exact False.elim a
  |brk=>exact False.elim a
  |cont=>exact False.elim a
theorem Ut(F:qg X.prog X.w X.K X.mg X.base CX k f fd ps sp)(c:gb k X.A)(d:Gl X x)(g:X.mg x=some (.ref f))(i:PySem.W.keepIn X.K (.ref f)=true)(j:Binds X.K fd ps ds)(l:bg kg ds)(m:Br CX X E)
  (n:PA X (e::es) t) (o:QbE x:=by decide) (u:QbB X e es:=by rfl) (y:QbC X pos es:=by rfl):
  PE X (.Call (.Name x p) (e::es) [] pos) (E5 sp kg E t):=by
 intro a s z H Q I h;refine wpAny_Call_Name_kw (lO I d g ?_ o);refine PySem.W.callWith_K (h₀:=X.base) I.ok.mod.ES i (av (n pos a s z H _ I h) ?_) u y;rintro C D ⟨G,L,b,r,q⟩;refine⟨b.qt,?_⟩;exact tW F c j l m b r q
theorem Uu (n:PE X o ta) (c:uy X.K C) (d:E3 X.K C m f) (F:qg X.prog X.w X.K X.mg X.base CX k f fd ps sp) (p:gb k X.A) (y:Binds X.K fd ps ds) (z:bg kg ds) (D:Br CX X E) (G:PA X (e::es) t)
  (L:QbB X e es:=by rfl) (N:QbC X pos es:=by rfl)
  (P:eval (.Call (.Attribute o m apos) (e::es) [] pos) X.env=(do
   let ov <- eval o X.env
   standAt apos.atName
   let (f,first) <- holding [ov] (getMethod ov m pl)
   callWith pos f first (backTo pos (starEach (e::es) X.env)) (backToKw pos (keywordEach [] X.env))):=by rfl):
  PE X (.Call (.Attribute o m apos) (e::es) [] pos) (E6 C m sp kg E ta t):=by
 intro b s g H Q I h
 refine PySem.W.methodCall_KW (pl:=pl) (av (n b s g H _ I h) ?_) P
 rintro u R ⟨x,T,i,V,a,dx,fs,ex,ea,l,q⟩
 subst ex
 obtain rfl:u=Value.ref a:=V
 refine m8 i ea c d l ?_
 refine PySem.W.callWith_K (first:=[.ref a]) (h₀:=X.base) I.ok.mod.ES d.kp (av (G pos b R g T _ i q) ?_) L N
 rintro us s2 ⟨vs,H2,j,r,q2⟩
 refine ⟨j.qt,?_⟩
 exact tW (us:=.ref a::us) (vs:=.ref a::vs) F p y z D j (.cons rfl r) q2
theorem Uv (g:PE X o ta) (c:uy X.K C) (e:E3 X.K C m f) (F:qg X.prog X.w X.K X.mg X.base CX k f fd ps sp) (i:gb k X.A) (j:Binds X.K fd ps ds) (n:bg kg ds) (p:Br CX X E)
  (r:eval (.Call (.Attribute o m apos) [] [] pos) X.env=(do
   let ov <- eval o X.env
   standAt apos.atName
   let (f,first) <- holding [ov] (getMethod ov m pl)
   callWith pos f first (backTo pos (starEach [] X.env)) (backToKw pos (keywordEach [] X.env))):=by rfl):
  PE X (.Call (.Attribute o m apos) [] [] pos) (E6 C m sp kg E ta qf):=by
 intro b s t H Q I h
 refine PySem.W.methodCall_KW (pl:=pl) (av (g b s t H _ I h) ?_) r
 rintro u G ⟨x,L,d,y,a,N,P,z,D,l,q⟩
 subst z
 obtain rfl:u=Value.ref a:=y
 refine m8 d D c e l ?_
 exact PySem.W.callWith_K0 (first:=[.ref a]) d.qt e.kp (tW (us:=[.ref a]) (vs:=[.ref a]) F i j n p d (.cons rfl .nil) q)
structure Mk(K:Q0)(C f:Addr):Prop where
 makes:PySem.W.makesIn K C=true
 init:PySem.W.findIn K (.ref C) "__init__"=some (some (.ref f))
 fn:PySem.W.isFn K (.ref f)=true
 kp:PySem.W.keepIn K (.ref C)=true
theorem sE{Q:VK}{vs:Qby}(M:Mk X.K C f)(F:qg X.prog X.w X.K X.mg X.base CX k f fd ps sp)(g:gb (k+1) X.A)(i:Binds X.K fd ps ds)(j:bg kg ds)
  (l:Br CX X E) (I:Inv X B Z H s) (r:bg vs us)
  (h:∀x dx,H x=none->H dx=none->dx≠x->sp (.ref x::(vs++kg)) (upd (upd H dx (.own x)) x (.ins C dx [])) (λv H2=>v=.aq/\Q (.ref x) H2) E):
  wpAny (model X.prog X.w) X.A (call (.ref C) us) (EP X B Z Q) X.xe s:=by
 have c:=h (s.heap.objs.size+1) s.heap.objs.size (I.hok.fresh (Qbk _)) (I.hok.fresh (Qz _)) (yT (Nat.lt_succ_self _));have b:=Inv.made (C:=C) I;have d:bg (V.ref (s.heap.objs.size+1)::(vs++kg)) (Value.ref (s.heap.objs.size+1)::(us++ds)):=.cons rfl (r.append j);have m:(Value.ref (s.heap.objs.size+1)::us++ds).length=ps.length:=by
  have e:=d.length;rw[F.len _ _ _ _ c]at e;exact e.symm
 refine wpAny_call (Uj (f:=f) I.qt M.makes M.init (beq_iff_eq.mp M.fn) (codeAny_mono (F.run _ X.stack _ _ ⟨Value.ref (s.heap.objs.size+1)::us,[]⟩ (Value.ref (s.heap.objs.size+1)::(us++ds)) _ _ E (g.make C us [])
  (b.MW.make C us []) (i _ (Value.ref (s.heap.objs.size+1)::us) b.qt m) d c) λr n a=>?_))
 cases r with
 |error e=>exact l B Z _ _ e n b a
 |ok fl=>
  cases fl with
  |ret u=>
   obtain⟨v,U,I3,rv,ev,q3⟩:=b.after a;subst ev;exact⟨rv,⟨V.ref (s.heap.objs.size+1),U,I3,rfl,q3⟩⟩
  |next=>exact False.elim a
  |brk=>exact False.elim a
  |cont=>exact False.elim a
theorem Uw(M:Mk X.K C f)(F:qg X.prog X.w X.K X.mg X.base CX k f fd ps sp)(c:gb (k+1) X.A)(d:Gl X x)(g:X.mg x=some (.ref C))(i:Binds X.K fd ps ds)(j:bg kg ds)(l:Br CX X E)
  (m:PA X (e::es) t) (n:QbE x:=by decide) (o:QbB X e es:=by rfl) (u:QbC X pos es:=by rfl):
  PE X (.Call (.Name x p) (e::es) [] pos) (GR C sp kg E t):=by
 intro a s y H Q I h;refine wpAny_Call_Name_kw (lO I d g ?_ n);refine PySem.W.callWith_K (h₀:=X.base) I.ok.mod.ES M.kp (av (m pos a s y H _ I h) ?_) o u;rintro z D ⟨G,L,b,r,q⟩;refine⟨b.qt,?_⟩;exact sE M F c i j l b r q
theorem zT(M:Mk X.K C f)(F:qg X.prog X.w X.K X.mg X.base CX k f fd ps sp)(b:gb (k+1) X.A)(c:Gl X x)(d:X.mg x=some (.ref C))(e:Binds X.K fd ps ds)(g:bg kg ds)(i:Br CX X E)
  (j:QbE x:=by decide):PE X (.Call (.Name x p) [] [] pos) (GR C sp kg E qf):=by
 intro a s l H Q I h;refine wpAny_Call_Name_kw (lO I c d ?_ j);exact PySem.W.callWith_K0 I.qt M.kp (sE (us:=[]) M F b e g i I .nil h)
end
structure fc(N P:Qbo)(F:Scope):Prop where
 kind:F.kind=.function
 co:F.isCoroutine=false
 gen:F.isGenerator=false
 nd:N.Nodup
 pre:N.take P.length=P
 MX:∀x∈P,F.names.lookup x=some .local\/F.names.lookup x=some .cell
 Ux:∀y∈F.names,y.2≠.free
theorem pF{kindOf:Str->Option NameKind}{x:Str}:∀{a:List (Str×Value)}{m:Str->Qbr},(∀v,(x,v)∉a)->bindL kindOf a m x=m x
 | [],_,_=>rfl
 |(n,v)::r,m,h=>by
  unfold bindL;rw[pF λw b=>h w (Qh _ b)];split
  ·have:x≠n:=by rintro rfl;exact h v xX
   simp[this]
  ·rfl
theorem pD{kindOf:Str->Option NameKind}{x:Str}:∀{a:List (Str×Value)}{m:Str->Qbr},(∀v,(x,v)∉a)->bindC kindOf a m x=m x
 | [],_,_=>rfl
 |(n,v)::r,m,h=>by
  unfold bindC;rw[pD λw b=>h w (Qh _ b)];split
  ·rfl
  ·have:x≠n:=by rintro rfl;exact h v xX
   simp[this]
theorem oR{kindOf:Str->Option NameKind}{x:Str}{v:Value}:∀{P:Qbo}{vs:Qbp}{i:Nat}{m:Str->Qbr},P.Nodup->P[i]? =some x->vs[i]? =some v->kindOf x=some .local->
  bindL kindOf (P.zip vs) m x=some v
 | [],_,_,_,_,h,_,_=>by simp at h
 |_::_,[],_,_,_,_,h,_=>by simp at h
 |p::P,w::vs,0,m,nd,O,Y,hk=>by
  simp at O Y;subst O;subst Y;show bindL kindOf ((p,w)::P.zip vs) m p=_;unfold bindL;rw[pF λv hv=>(jK.mp nd).1 (List.of_mem_zip hv).1,if_pos hk];simp
 |p::P,w::vs,i+1,m,nd,O,Y,hk=>by
  show bindL kindOf ((p,w)::P.zip vs) m x=_;unfold bindL;exact oR (i:=i) (jK.mp nd).2 (by simpa using O) (by simpa using Y) hk
theorem pN{kindOf:Str->Option NameKind}{x:Str}{v:Value}:∀{P:Qbo}{vs:Qbp}{i:Nat}{m:Str->Qbr},P.Nodup->P[i]? =some x->vs[i]? =some v->kindOf x≠some .local->
  bindC kindOf (P.zip vs) m x=some v
 | [],_,_,_,_,h,_,_=>by simp at h
 |_::_,[],_,_,_,_,h,_=>by simp at h
 |p::P,w::vs,0,m,nd,O,Y,hk=>by
  simp at O Y;subst O;subst Y;show bindC kindOf ((p,w)::P.zip vs) m p=_;unfold bindC;rw[pD λv hv=>(jK.mp nd).1 (List.of_mem_zip hv).1,if_neg hk];simp
 |p::P,w::vs,i+1,m,nd,O,Y,hk=>by
  show bindC kindOf ((p,w)::P.zip vs) m x=_;unfold bindC;exact pN (i:=i) (jK.mp nd).2 (by simpa using O) (by simpa using Y) hk
def start(N:Qbo)(vs:Qby):St:=vs.map some++List.replicate (N.length-vs.length) none
def Af(CX:yx)(P:Program)(w:World)(K:Q0)(mg:Str->Qbr)(base:Heap)(N:Qbo)(qual:Str)(scope:Scope)(f:Addr)(cd:Value)(A:Around)(outer:List Env)(s:Shared)(H:Hp)(E:XK):Cx where
 prog:=P
 w:=w
 K:=K
 mg:=mg
 base:=base
 A:=A.deeper (envOfC qual scope s.heap.objs.size f cd)
 N:=N
 s₀:=s
 H₀:=H
 env:=envOfC qual scope s.heap.objs.size f cd
 outer:=outer
 stack:=envOfC qual scope s.heap.objs.size f cd::outer
 ex:=[]
 calm:=true
 fn:=λ_=>true
 pn:=[]
 xe:=λe s'=>wpAny (model P w) (A.deeper (envOfC qual scope s.heap.objs.size f cd)) (leaving (envOfC qual scope s.heap.objs.size f cd) e) (λ_ s''=>CX outer H s E e s'') (λe' s''=>CX outer H s E e' s'') s'
theorem rV(h:F.names.lookup x=some .cell):∃c,(cellsFrom n F.names []).lookup x=some c:=by
 have q:=PySem.W.cellsFrom_some F.names n [] (.inl h);exact Option.isSome_iff_exists.mp q
theorem wQ{G:yx}{K:Q0}{g:Str}{scope:Scope}{f:Addr}{o:Value}{d:List Env}{I:Shared}{E:XK}{vs:Qby}
  (S:fc N ps scope) (Q:A.handled=none) (l:Cp P w K mg base A d s H) (T:vs.length=ps.length) (r:bg vs us)
  (x:InCallC s s.heap.objs.size (bindL (envOfC g scope s.heap.objs.size f o).kindOf (ps.zip us) λ_=>none) (cellsFrom (s.heap.objs.size+1) scope.names []) (bindC (envOfC g scope s.heap.objs.size f o).kindOf (ps.zip us) λ_=>none) I):
  Inv (Af G P w K mg base N g scope f o A d s H E) [] (start N vs) H I:=by
 have V:ps.length<=N.length:=by have:=congrArg List.length S.pre;rw[Qaa]at this;lia
 obtain⟨t,tk,rfl,hk⟩:=x.done;have D:∀b:Addr,b∉(Af G P w K mg base N g scope f o A d s H E).ex:=λb z=>absurd (show b∈([]:Qbq)from z) (by simp);refine⟨⟨l.mod,S.kind,rfl,rfl,Qz _,λy z c t j=>?_,λy hy=>?_,λy c _ h=>?_,λ_=>Q,Around.frames_deeper l.frames,.inr ⟨rfl,rfl⟩,λb z=>absurd z (D b),l.bs,l.AH,λb _ _=>D b,λb z=>absurd z (D b),l.xr,l.Ce⟩,
  rfl,l.bare,Un.kept hk,⟨_,x.toInCall.ns,λi y v t j h3=>?_⟩,λy c h=>⟨_,x.cell y c h⟩,l.hok.fresh (Qz _),λy c h=>?_,λp m=>absurd (show p∈([]:List (Addr×Obj))from m) (by simp),l.hok.kept hk,?_⟩
 ·exact name_of_addr x.apart (QaQ t) (QaQ j)
 ·have hy:scope.names.lookup y=some .cell\/scope.names.lookup y=some .free:=hy;rcases hy with hy|hy
  ·exact rV hy
  ·exact absurd rfl (S.Ux _ (QaQ hy))
 ·exact Nat.le_of_lt (x.above y c (QaQ h))
 ·have C:i<vs.length:=by
   unfold start at j;by_cases C:i<vs.length
   ·exact C
   ·rw[QaF (by simpa using C)]at j;rw[List.getElem?_replicate]at j;split at j<;>cases j
  have R:vs[i]? =some v:=by
   unfold start at j;rw[Qg (by simpa using C),Qq]at j;cases e:vs[i]? with
   |none=>rw[e]at j;cases j
   |some a=>rw[e]at j;cases j;rfl
  obtain⟨u,hu,rv⟩:=r.get R;have m:ps[i]? =some y:=by
   rw[<- S.pre,List.getElem?_take_of_lt (by lia)];exact t
  have L:ps.Nodup:=by rw[<- S.pre];exact S.nd.sublist (List.take_sublist _ _)
  refine⟨u,rv,?_⟩;rcases S.MX y (QD m)with k|k
  ·exact .inl ⟨k,oR L m hu k⟩
  ·obtain⟨c,e⟩:=rV (n:=s.heap.objs.size+1) k;refine .inr ⟨.inl k,c,e,?_⟩;have q:=x.cell y c e;rw[pN L m hu (by show scope.names.lookup y≠_;rw[k];decide)]at q;exact q
 ·exact l.hok.fresh (Nat.le_of_lt (x.above y c (QaQ h)))
 ·unfold start;show _=N.length;rw[Qk,Ql,List.length_replicate]
  lia
theorem Uy {z:yx} {K:Q0} {k:Nat} {f:Addr} {c:Str} {d:Arguments} {scope:Scope} {dV kV j pm h ct oc:Value} {an od:Option Addr}
  {tq:Array Qbr} {N C:Qbo} {D:Sp} (lk:K.lookup f=some ⟨oc,od,.func (PySem.W.fnOf name c d body scope dV kV j pm an h ct),tq⟩) (su:PySem.W.codeIn K h c=true) (S:fc N C scope)
  (l:∀ vs H Q E,D vs H Q E->vs.length=C.length)
  (yy:∀ (A:Around) (a:List Env) (s:Shared) (H:Hp) (vs:Qby) (Q:VK) (E:XK),gb k (A.deeper (envOfC c scope s.heap.objs.size f h))->D vs H Q E->
   ∃ t,sr (Af z P w K mg base N c scope f h A a s H E) body t/\t {nx:=λ_ U=>Q .aq U,rt:=Q} (start N vs) H):
  qg P w K mg base z (k+1) f (PySem.W.fnOf name c d body scope dV kV j pm an h ct) C D:=by
 refine ⟨l,λA a s H args us vs Q E G m hb r Bs=>?_⟩
 have hl:=l _ _ _ _ Bs
 have KX:K.In s.heap:=m.mod.ES.keeps λb o e=>(m.bs b o e).1
 have L:s.heap.NoLimit:=m.mod.nolimit.keeps λb o e=>(m.bs b o e).1
 have Uz:∀ y∈C.zip us,scope.names.lookup y.1=some .local\/(scope.names.lookup y.1=some .cell/\((cellsFrom (s.heap.objs.size+1) scope.names []).lookup y.1).isSome=true):=λ⟨n,v⟩ hy=>by
  rcases S.MX n (List.of_mem_zip hy).1 with q | q
  ·exact .inl q
  ·exact .inr ⟨q,PySem.W.cellsFrom_some _ _ _ (.inl q)⟩
 refine codeAny_call_function G.depth (KX _ _ lk) rfl S.co S.gen rfl (PySem.W.codeRec_of KX su) (hb _ _ _ _ ?_)
 refine wpAny_newFunctionEnv_cells S.kind Uz λab he s1 x=>?_
 subst he
 refine ⟨L.keeps x.toInCall.keep,codeAny_func ?_⟩
 obtain ⟨t,ht,hq⟩:=yy A a s H vs Q E (G.deeper _) Bs
 have I:Inv (Af z P w K mg base N c scope f h A a s H E) [] (start N vs) H s1:=wQ S G.hd m hl r x
 refine wpAny_mono (ht [] s1 (start N vs) H _ I hq) (λfl R i=>?_) λe R i=>i
 have p:∀ {g:St} {U:Hp} {v:V} {u:Value},Inv (Af z P w K mg base N c scope f h A a s H E) [] g U R->RelV v u->Q v U->CE a P w H s Q u R:=
  λ{g U v u} J T q=>⟨v,U,J.os,J.bare,J.base,J.hok,T,q⟩
 cases fl with
 | ret u=>
  obtain ⟨v,g,U,J,T,q⟩:=i
  exact p J T q
 | next=>
  obtain ⟨g,U,J,q⟩:=i
  exact p (v:=V.aq) (u:=Value.none) J rfl q
 | brk=>
  obtain ⟨_,_,_,q⟩:=i
  exact False.elim q
 | cont=>
  obtain ⟨_,_,_,q⟩:=i
  exact False.elim q
section
variable{p pos:Pos}{t:TA}{id:String}{r:Qby->Hp->VK->Prop}
def yz(r:Qby->Hp->VK->Prop)(t:TA):TE:=λZ H Q=>t Z H λvs H1=>r vs H1 Q
theorem zZ(c:ux X (.builtin id) r)(d:Gl X x)(f:X.mg x=none)(hv:bootBuiltins x=some (.builtin id))(g:PA X (e::es) t)(i:x≠"__name__":=by decide)(j:QbE x:=by decide)
  (k:QbB X e es:=by rfl) (l:QbC X pos es:=by rfl):PE X (.Call (.Name x p) (e::es) [] pos) (yz r t):=by
 intro a s b H Q I h;refine wpAny_Call_Name_kw (gE I d f hv ?_ i j);exact PyProof.Rows.callWith_builtin1 (av (g pos a s b H _ I h) λm n ⟨o,q,u,w,y⟩=>c a n b q o m Q u w y) k l
theorem xF(c:ux X (.type T) r)(d:Gl X x)(f:X.mg x=none)(hv:bootBuiltins x=some (.type T))(g:PA X (e::es) t)(i:x≠"__name__":=by decide)(j:QbE x:=by decide)
  (k:QbB X e es:=by rfl) (l:QbC X pos es:=by rfl):PE X (.Call (.Name x p) (e::es) [] pos) (yz r t):=by
 intro a s b H Q I h;refine wpAny_Call_Name_kw (gE I d f hv ?_ i j);exact Qau (av (g pos a s b H _ I h) λm n ⟨o,q,u,w,y⟩=>c a n b q o m Q u w y) k l
end
end L2
namespace HT
open PySem PyProof.Rows
theorem UA{t:Addr}{vs ws:Qbp}(a:IsTup s.heap t vs.toArray)(c:IsTup s.heap b ws.toArray)(hv:vs≠[])
  (d:ws=[]->Q (.ref t) s) (f:ws≠[]->Q (.ref s.heap.objs.size) {s with heap:=s.heap.push {cls:=.type "tuple",data:=.seq (vs++ws).toArray}})
  (hsz:vs.length+ws.length<=sizeLine):wpAny (model prog w) A (binaryOp .Add (.ref t) (.ref b)) Q E s:=by
 obtain⟨⟨cls,dd,data,sl⟩,ho,hc,n,hd⟩:=id a;obtain⟨⟨UB,GS,data2,GU⟩,Cq,y_,n2,hd2⟩:=id c;simp only at hc hd y_ hd2;subst hc hd y_ hd2;have e:vs.toArray++ws.toArray=(vs++ws).toArray:=by simp
 by_cases hw:ws=[]
 ·exact concat_meets ⟨_,ho,rfl⟩ ⟨_,Cq,rfl⟩ noFill_tuple_add seq_tuple_add PySem.F.slot_tuple_add PySem.F.entry_tuple_add (PySem.F.args_tuple_add_2 _ _)
   (tuple_addW1 t b vs.toArray ws.toArray n n2 dd GS sl GU (by simpa using hv) (by simp[hw])) ⟨ho,Cq,d hw⟩
 ·refine concat_meets ⟨_,ho,rfl⟩ ⟨_,Cq,rfl⟩ noFill_tuple_add seq_tuple_add PySem.F.slot_tuple_add PySem.F.entry_tuple_add (PySem.F.args_tuple_add_2 _ _)
   (tuple_addW2 t b vs.toArray ws.toArray n n2 dd GS sl GU (by simpa using hv) (by simpa using hw) (by rw[yJ,yJ];exact hsz)) ⟨ho,Cq,?_⟩
  rw[e];exact f hw
def cu(n d:Nat):Option Int->Nat
 |none=>d
 |some v=>if v<0 then(v+(n:Int)).toNat else min v.toNat n
theorem sJ(n d:Nat):cu n d none=d:=rfl
theorem qH(n d k:Nat):cu n d (some (k:Int))=min k n:=by
 show(if(k:Int)<0 then((k:Int)+(n:Int)).toNat else min (k:Int).toNat n)=min k n;rw[if_neg (by lia),QaO]
theorem UC(n d:Nat)(a:d<=n)(o:Option Int):cu n d o<=n:=by
 cases o with
 |none=>exact a
 |some v=>
  show(if v<0 then(v+(n:Int)).toNat else min v.toNat n)<=n;by_cases hv:v<0
  ·rw[if_pos hv];lia
  ·rw[if_neg hv];exact Nat.min_le_right _ _
theorem wA(v:Int)(n d:Nat):(if v<0 then max (v+(n:Int)) 0 else min v (n:Int))=((cu n d (some v):Nat):Int):=by
 show(if v<0 then max (v+(n:Int)) 0 else min v (n:Int))=(((if v<0 then(v+(n:Int)).toNat else min v.toNat n):Nat):Int);by_cases hv:v<0
 ·simp only[if_pos hv];lia
 ·simp only[if_neg hv];lia
theorem tU(lo hi:Option Int)(n:Nat):Builtin.Slice.sliceAdjust lo hi 1 (n:Int)=(((cu n 0 lo:Nat):Int),((cu n n hi:Nat):Int)):=by
 have a:¬((1:Int)<0):=by lia
 unfold Builtin.Slice.sliceAdjust;simp only[a,if_false];refine Prod.ext ?_ ?_
 ·cases lo with
  |none=>rfl
  |some v=>exact wA v n 0
 ·cases hi with
  |none=>rfl
  |some v=>exact wA v n n
theorem uJ(i j:Nat):Builtin.Slice.slicePlaces (i:Int) (j:Int) 1=j-i:=by
 unfold Builtin.Slice.slicePlaces;have a:(1:Int) > 0:=by lia
 simp only[a,if_true,Int.ediv_one];split<;>lia
theorem mI{v:Value}{o:Option Int}{Q:Option Int->Shared->Prop}(p:IsPart v o)(h:Q o s):wpAny (model prog w) A (Builtin.Slice.slicePartIndex v) Q E s:=by
 cases p with
 |none=>exact slicePart_none h
 |int i t=>exact slicePart_int h
theorem jP{b:Addr}{vl a:Value}{lo hi:Option Int}{Q:Int×Int×Nat->Shared->Prop}(hs:s.heap.IsSliceOf b vl a .none)(pl:IsPart vl lo)(c:IsPart a hi)
  (h:Q (((cu n 0 lo:Nat):Int),1,cu n n hi-cu n 0 lo) s):wpAny (model prog w) A (Builtin.Slice.sliceApplied (.ref b) (pure (n:Int))) Q E s:=by
 obtain⟨os,Cr,MZ,hds⟩:=id hs;unfold Builtin.Slice.sliceApplied Builtin.Slice.sliceFields;refine QT (QT (wpAny_field Cr hds (x:=vl) rfl (QT (wpAny_field Cr hds (x:=a) rfl (QT (wpAny_field Cr hds (x:=.none) rfl (QU ?_)))))));refine QT (slicePart_none ?_);show wpAny _ _ (if((1:Int)==0)=true then _ else _) _ _ s;rw[if_neg (by decide)];refine QT (mI pl (QT (mI c (QT (QU ?_)))));show wpAny _ _ (match Builtin.Slice.sliceAdjust lo hi 1 (n:Int)with|(lo,hi)=>pure (lo,(1:Int),Builtin.Slice.slicePlaces lo hi 1)) _ _ s;rw[tU lo hi n];show wpAny _ _ (pure (((cu n 0 lo:Nat):Int),(1:Int),Builtin.Slice.slicePlaces ((cu n 0 lo:Nat):Int) ((cu n n hi:Nat):Int) 1)) _ _ s;rw[uJ];exact QU h
theorem zF(xs:Array Value)(i k:Nat):((List.range k).filterMap fun(m:Nat)=>xs[((i:Int)+(m:Int)*1).toNat]?).toArray=((xs.toList.drop i).take k).toArray:=by
 have e:(fun(m:Nat)=>xs[((i:Int)+(m:Int)*1).toNat]?)=λm=>xs[i+m]?:=by
  funext m;have:((i:Int)+(m:Int)*1).toNat=i+m:=by lia
  rw[this]
 rw[e];have:=pick_run xs i k;rw[List.filterMap_map]at this;have a:((λx=>xs[x]?)∘λx=>i+x)=λm=>xs[i+m]?:=rfl;rw[a]at this;rw[this]
theorem jE{t d:Addr}{a:Array Value}{vl e:Value}{lo hi:Option Int}(b:IsTup s.heap t a)(hs:s.heap.IsSliceOf d vl e .none)(pl:IsPart vl lo)(f:IsPart e hi)
  (g:¬(cu a.size 0 lo=0/\cu a.size a.size hi=a.size))
  (h:Q (.ref s.heap.objs.size) {s with heap:=s.heap.push {cls:=.type "tuple",data:=.seq ((a.toList.drop (cu a.size 0 lo)).take (cu a.size a.size hi-cu a.size 0 lo)).toArray}})
  (hsz:a.size<=sizeLine):wpAny (model prog w) A (getItem (.ref t) (.ref d)) Q E s:=by
 have c:sizeOk (.seq ((a.toList.drop (cu a.size 0 lo)).take (cu a.size a.size hi-cu a.size 0 lo)).toArray):=by
  show((a.toList.drop (cu a.size 0 lo)).take (cu a.size a.size hi-cu a.size 0 lo)).toArray.size<=sizeLine;rw[yJ,Qaa,List.length_drop,Qai]
  lia
 have k:cu a.size a.size hi<=a.size:=UC _ _ (Qz _) hi;obtain⟨os,Cr,MZ,hds⟩:=id hs;have i:s.TypeIs (.ref d) "slice":=⟨os,Cr,MZ⟩
 unfold getItem
 try with_reducible refine wpAny_holding ?_
 first|refine QT (QU ?_)|skip
 refine QT (wpAny_sequenceKey b.typeIs (by decide) ?_);refine QT (wpAny_callSpecial?_slot (name:=Str.ofString "__getitem__") b.typeIs PyProof.Rows.slot_tuple_getitem
  (wpAny_call_entry PyProof.Rows.slot_tuple_getitem b.typeIs entry_tuple_getitem ?_ (args_tuple_getitem _ _)))
 show wpAny _ _ (Builtin.Tuple.tupleItemsOf (.ref t) >>=_) _ _ s;refine QT (tupleItemsOf_ b ?_);refine QT (wpAny_typeOf i ?_);rw[if_pos (by decide)];refine QT (jP hs pl f ?_);have j:¬((((cu a.size 0 lo:Nat):Int)==0&&(1:Int)==1&&(cu a.size a.size hi-cu a.size 0 lo)==a.size)=true):=by
  intro q;rw[QaM,QaM]at q;have l:((cu a.size 0 lo:Nat):Int)=0:=eq_of_beq q.1.1;have n:cu a.size a.size hi-cu a.size 0 lo=a.size:=eq_of_beq q.2;exact g ⟨by lia,by lia⟩
 show wpAny _ _ (if(((cu a.size 0 lo:Nat):Int)==0&&(1:Int)==1&&(cu a.size a.size hi-cu a.size 0 lo)==a.size)=true then _ else _) _ _ s;rw[if_neg j,zF]
 first
  |exact QT (m:=Builtin.Tuple.tupleExact _) (wpAny_newObj_type (QU ⟨_,rfl,QU h⟩) c)
  |exact QT (m:=Builtin.Tuple.tupleExact _) (wpAny_newObj_type (QT (QU (QU ⟨_,rfl,QU h⟩))) c)
  |exact QT (QT (m:=Builtin.Tuple.tupleExact _) (wpAny_newObj_type (QU (QU ⟨_,rfl,QU h⟩)) c))
  |exact QT (QT (m:=Builtin.Tuple.tupleExact _) (wpAny_newObj_type (QU ⟨_,rfl,QU h⟩) c))
end HT
namespace L2
open PySem PySem.Spec PyProof.Rows
abbrev TO:=St->Hp->(Option Int->Hp->Prop)->Prop
def PO(X:Cx)(e:Option Expr)(t:TO):Prop:=
 ∀(B:List (Addr×Obj))(s:Shared)(Z:St)(H:Hp)(Q:Option Int->Hp->Prop),Inv X B Z H s->t Z H Q->
  wpAny (model X.prog X.w) X.A (evalPart e X.env) (λu s'=>∃o U,Inv X B Z U s'/\IsPart u o/\Q o U) X.xe s
def DI:TO:=λ_ H Q=>Q none H
def DJ(t:TE):TO:=λZ H Q=>t Z H λx H1=>∃i,x=.int i/\Q (some i) H1
section
variable{lo hi:Option Expr}{tl th:TO}{pos p2:Pos}
theorem UE:PO X none DI:=by
 intro a s b H Q I h;rw[evalPart_none];exact QU ⟨none,H,I,.none,h⟩
theorem UG(h:PE X e te):PO X (some e) (DJ te):=by
 intro a s b H Q I c;rw[evalPart_some];refine av (h a s b H _ I c) ?_;rintro u k ⟨x,d,f,g,j⟩;obtain⟨i,rfl,q⟩:=j;obtain⟨t,rfl⟩:=g;exact⟨some i,d,f,.int i t,q⟩
def zb(X:Cx)(r:V->Option Int->Option Int->Hp->VK->Prop):Prop:=
 ∀(B:List (Addr×Obj))(s:Shared)(Z:St)(H:Hp)(x:V)(v vl a:Value)(lo hi:Option Int)(b:Addr)(Q:VK),Inv X B Z H s->RelV x v->s.heap.IsSliceOf b vl a .none->IsPart vl lo->IsPart a hi->r x lo hi H Q->
  ∃T id,typeLookup (.type T) "__getitem__"=pure (some (.builtin id))/\s.TypeIs v T/\wpAny (model X.prog X.w) X.A (getItem v (.ref b)) (EP X B Z Q) X.xe s
theorem zb.or{r b:V->Option Int->Option Int->Hp->VK->Prop}(h:zb X r)(M:zb X b):zb X (λx lo hi H Q=>r x lo hi H Q\/b x lo hi H Q):=by
 intro a s c H x v vl d lo hi e Q I f g i j q;rcases q with q|q
 ·exact h a s c H x v vl d lo hi e Q I f g i j q
 ·exact M a s c H x v vl d lo hi e Q I f g i j q
def DK(r:V->Option Int->Option Int->Hp->VK->Prop)(a:TE)(b c:TO):TE:=λZ H Q=>a Z H λx H1=>b Z H1 λl H2=>c Z H2 λu d=>r x l u d Q
theorem UH{r:V->Option Int->Option Int->Hp->VK->Prop}(i:zb X r)(j:PE X e te)(k:PO X lo tl)(m:PO X hi th):PE X (.Subscript e (.Slice lo hi none p2) pos) (DK r te tl th):=by
 intro a s d H Q I h;refine Subscript_ (av (j a s d H _ I h) ?_);rintro v n ⟨x,o,p,t,y⟩;refine wpAny_Slice (av (k a n d o _ p y) ?_);rintro vl z ⟨l,C,D,E,G⟩;refine av (m a z d C _ D G) ?_;rintro f c ⟨u,g,K,L,N⟩;rw[evalPart_none];refine QU ?_;have P:Inv X a d g {c with heap:=c.heap.push {cls:=.type "slice",data:=.fields #[vl,f,.none]}}:=K.kept (t':=c.toks) λb R q=>Qc _ q;obtain⟨T,id,hT,ht,hg⟩:=i a {c with heap:=c.heap.push {cls:=.type "slice",data:=.fields #[vl,f,.none]}} d g x v vl f l u c.heap.objs.size Q P t (Heap.IsSliceOf.new ..) E L N;show wpAny (model X.prog X.w) X.A (subscriptTail e (.Slice lo hi none p2) v (.ref c.heap.objs.size)) (EP X a d Q) X.xe {c with heap:=c.heap.push {cls:=.type "slice",data:=.fields #[vl,f,.none]}};exact tail_any (ops:=[.ref c.heap.objs.size,v]) ht hT hg (by with_unfolding_all rfl)
def qx(xs:Qby)(lo hi:Option Int):Qby:=(xs.drop (HT.cu xs.length 0 lo)).take (HT.cu xs.length xs.length hi-HT.cu xs.length 0 lo)
theorem lA(xs:Qby)(lo hi:Option Int):(qx xs lo hi).length<=xs.length:=by
 unfold qx;rw[Qaa,List.length_drop]
 lia
def Cs(K:Q0):V->Option Int->Option Int->Hp->VK->Prop:=λx lo hi H Q=>∃a xs,x=.ref a/\ay K H a xs/\
 ¬(HT.cu xs.length 0 lo=0/\HT.cu xs.length xs.length hi=xs.length)/\∀p,H p=none->Q (.ref p) (upd H p (.tup (qx xs lo hi)))
theorem UI:zb X (Cs X.K):=by
 intro f s l H x v vl m c d n Q I g i j k h;obtain⟨a,xs,rfl,hx,hw,q⟩:=h;cases g;obtain⟨its,r,ht,hz⟩:=I.tuple hx;have e:its.toArray.size=xs.length:=by rw[yJ];exact r.length.symm
 refine⟨"tuple",_,PyProof.Rows.slot_tuple_getitem.lookup,ht.typeIs,?_⟩;refine HT.jE ht i j k (by rw[e];exact hw) ?_ (by rw[e];exact hz);rw[e];refine⟨.ref s.heap.objs.size,_,I.laid (t':=s.toks) (o:=.tup (qx xs c d)) (λb p q=>Qc _ q) (Qz _) ?_,rfl,q _ (I.hok.fresh (Qz _))⟩;exact⟨⟨Qag (lA xs c d) hz,Bm.new rfl rfl⟩,_,(r.drop (HT.cu xs.length 0 c)).take (HT.cu xs.length xs.length d-HT.cu xs.length 0 c),IsTup.new _ _⟩
def M0(K:Q0):R2:=λx y H Q=>∃a b xs ys,x=.ref a/\y=.ref b/\ay K H a xs/\ay K H b ys/\xs≠[]/\xs.length+ys.length<=sizeLine/\
 (ys=[]->Q (.ref a) H)/\(ys≠[]->∀p,H p=none->Q (.ref p) (upd H p (.tup (xs++ys))))
theorem bg.GW{xs:Qby}(r:bg xs us):us=[]↔xs=[]:=by
 cases r with
 |nil=>simp
 |cons _ _=>simp
theorem wH:dj X (binaryOp .Add) (M0 X.K):=by
 intro c s f H x y v u Q I d e h;obtain⟨a,b,xs,ys,rfl,rfl,ha,hb,hx,hz,q1,q2⟩:=h;cases d;cases e;obtain⟨its,r1,p1,_⟩:=I.tuple ha;obtain⟨its2,r2,p2,_⟩:=I.tuple hb;refine HT.UA p1 p2 (λz=>hx (r1.GW.mp z)) (λz=>⟨.ref a,H,I,rfl,q1 (r2.GW.mp z)⟩) (λz=>?_) (by rw[<- r1.length,<- r2.length];exact hz);refine⟨.ref s.heap.objs.size,_,I.laid (t':=s.toks) (o:=.tup (xs++ys)) (λb g q=>Qc _ q) (Qz _) ?_,rfl,q2 (λw=>z (r2.GW.mpr w)) _ (I.hok.fresh (Qz _))⟩;exact⟨⟨by rw[Qk];exact hz,Bm.new rfl rfl⟩,_,r1.append r2,IsTup.new _ _⟩
end
def AJ(n:Nat)(i:Int):Option Nat:=if 0<=i then(if i<n then some i.toNat else none)else if -(n:Int)<=i then some (i+n).toNat else none
def ph{a:Type}(xs:List a)(i:Int):Option a:=(AJ xs.length i).bind λj=>xs[j]?
theorem qA{i:Int}(h:AJ n i=some j):seqIndex? i n=some j/\j<n/\ -(n:Int)<=i/\i<n:=by
 unfold AJ at h;by_cases h0:0<=i
 ·rw[if_pos h0]at h;by_cases O:i<n
  ·rw[if_pos O]at h;have e:i.toNat=j:=QE h;exact⟨by rw[seqIndex_of h0 O,e],by lia,by lia,O⟩
  ·rw[if_neg O]at h;cases h
 ·rw[if_neg h0]at h;by_cases O: -(n:Int)<=i
  ·rw[if_pos O]at h;have e:(i+n).toNat=j:=QE h;exact⟨by rw[seqIndex_neg (by lia) O,e],by lia,O,by lia⟩
  ·rw[if_neg O]at h;cases h
theorem qK{xs:List α}{i:Int}{v:α}(h:ph xs i=some v):∃j,seqIndex? i xs.length=some j/\xs[j]? =some v/\j<xs.length/\ -(xs.length:Int)<=i/\i<xs.length:=by
 unfold ph at h;cases e:AJ xs.length i with
 |none=>rw[e]at h;cases h
 |some j=>
  rw[e]at h;obtain⟨O,Y,h3,h4⟩:=qA e;exact⟨j,O,h,Y,h3,h4⟩
theorem fF{xs:List α}{v:α}(h:xs[j]? =some v):ph xs (j:Int)=some v:=by
 have a:j<xs.length:=(u6.mp h).1;have e:AJ xs.length (j:Int)=some j:=by
  unfold AJ;rw[if_pos (by lia),if_pos (by lia)];simp
 unfold ph;rw[e];exact h
def Jk(b:Expr):Prop:=∀o i,subscripted b false o i=operate [o,i] (getItem o i)
def Ct(X:Cx)(r:R2):Prop:=
 ∀(value a:Expr)(B:List (Addr×Obj))(s:Shared)(Z:St)(H:Hp)(x y:V)(v u:Value)(Q:VK),Inv X B Z H s->RelV x v->RelV y u->r x y H Q->
  subscripted a false v u=operate [v,u] (getItem v u)->wpAny (model X.prog X.w) X.A (subscriptTail value a v u) (EP X B Z Q) X.xe s
def Jl(X:Cx)(id:String)(r:V->Qby->Hp->VK->Prop):Prop:=
 ∀(B:List (Addr×Obj))(s:Shared)(Z:St)(H:Hp)(x:V)(xs:Qby)(v:Value)(us:Qbp)(Q:VK),Inv X B Z H s->RelV x v->bg xs us->r x xs H Q->
  wpAny (model X.prog X.w) X.A (call (.builtin id) (v::us)) (EP X B Z Q) X.xe s
section
variable{a b:Expr}{tb:TE}{pos:Pos}
theorem UJ{r:R2}(d:Ct X r)(e:PE X a ta)(f:PE X b tb)(hs:Jk b):PE X (.Subscript a b pos) (l_ r ta tb):=by
 intro c s g H Q I h;exact Subscript_ (Jg e f I h λv u i x y j k l m q=>d a b c i g j x y v u Q k l m q (hs _ _))
def UK(K:Q0):R2:=λx y H Q=>∃p xs i v,x=.ref p/\y=.int i/\ao K H p xs/\ph xs i=some v/\Q v H
def UL(K:Q0):R2:=λx y H Q=>∃p xs i v,x=.ref p/\y=.int i/\ay K H p xs/\ph xs i=some v/\Q v H
def UM:R2:=λx y H Q=>∃z i c,x=.str z/\y=.int i/\z.length<=sizeLine/\ph z.cps.toList i=some c/\Q (.str ⟨#[c]⟩) H
theorem UN:Ct X (UK X.K):=by
 intro c d a s f H x y v u Q I k l h g;obtain⟨p,xs,i,z,rfl,rfl,hq,he,q⟩:=h;cases k;obtain⟨t,rfl⟩:=l;obtain⟨its,r,pl,hz⟩:=I.list hq;obtain⟨j,O,Y,h3,h4,h5⟩:=qK he;obtain⟨w,ew,vz⟩:=r.get Y;have m:=r.length;have o:=DH;have b:EP X a f Q w s:=⟨z,H,I,vz,q⟩
 by_cases h0:0<=i
 ·have e:i.toNat=j:=by
   rw[seqIndex_of h0 h5]at O;exact QE O
  exact item_listR pl.isList h0 (by lia) (by rw[e];simpa using ew) b g
 ·have e:(i+(its.toArray.size:Int)).toNat=j:=by
   rw[seqIndex_neg (by lia) h4]at O;rw[yJ,<- m];exact QE O
  exact subscriptTail_builtinR (x:=w) pl.isList.typeIs slot_list_getitem.lookup
   (wpAny_getItem_list_neg (Q:=λr n=>r=w/\EP X a f Q r n) pl.isList (by lia) (by rw[yJ]<;>lia) (by lia) (by rw[e];simpa using ew) ⟨rfl,b⟩) g
theorem UO:Ct X (UL X.K):=by
 intro b c a s e H x y v u Q I f g h k;obtain⟨p,xs,i,z,rfl,rfl,hq,he,q⟩:=h;cases f;obtain⟨t,rfl⟩:=g;obtain⟨its,r,pl,hz⟩:=I.tuple hq;obtain⟨j,O,Y,h3,h4,h5⟩:=qK he;obtain⟨w,ew,vz⟩:=r.get Y;have l:=r.length;have n:=DH;have d:EP X a e Q w s:=⟨z,H,I,vz,q⟩
 exact subscriptTail_builtinR (x:=w) pl.typeIs slot_tuple_getitem.lookup
  (getItem_tuple (j:=j) (Q:=λr m=>r=w/\EP X a e Q r m) pl (by lia) (by lia) (by rw[yJ,<- l];exact O) (by simpa using ew) ⟨rfl,d⟩) k
theorem UP:Ct X UM:=by
 intro a b d s n H x y v u Q I e f h g;obtain⟨z,i,c,rfl,rfl,hz,he,q⟩:=h;obtain⟨t,rfl⟩:=e;obtain⟨t',rfl⟩:=f;obtain⟨j,O,Y,h3,h4,h5⟩:=qK he;have k:z.cps.toList.length=z.length:=by simp[Str.length]
 rw[k]at O h4 h5;have o:=DH;exact tail_any (typeIs_str s z t) slot_str_getitem.lookup (getItem_str (c:=c) (by
  have l:decide (i< -(2^63:Int))=false:=Qx (by lia);have m:decide (i≥2^63)=false:=Qx (by lia);rw[l,m,Bool.or_false]) (by rw[O];simpa using Y) ⟨.str ⟨#[c]⟩,H,I.tok _,⟨_,rfl⟩,q⟩) g
theorem uO(a:Qbp)(n j:Nat)(u:Value):Obj.mapSeq (·.setIfInBounds j u) {cls:=.type "list",data:=.seq a.toArray n}={cls:=.type "list",data:=.seq (a.set j u).toArray n}:=by
 simp[Obj.mapSeq]
theorem Inv.lst{B:List (Addr×Obj)}{Z:St}{H:Hp}{s:Shared}{p:Addr}{xs:Qby}(I:Inv X B Z H s)(h:H p=some (.lst xs)):
  ∃(a:Qbp)(n:Nat),bg xs a/\s.heap.get? p=some {cls:=.type "list",data:=.seq a.toArray n}/\xs.length<=sizeLine:=by
 obtain⟨z,a,n,r,e⟩:=I.hok p _ h;exact⟨a,n,r,e,z⟩
theorem Inv.UQ{xs ys:Qby}{a its':Qbp}{c:Nat}{f:Obj->Obj}(I:Inv X B Z H s)(h:H p=some (.lst xs))
  (g:s.heap.get? p=some {cls:=.type "list",data:=.seq a.toArray n}) (d:f {cls:=.type "list",data:=.seq a.toArray n}={cls:=.type "list",data:=.seq its'.toArray c}) (r:bg ys its') (hz:ys.length<=sizeLine) (t:Nat):
  Inv X B Z (upd H p (.lst ys)) {s with heap:=s.heap.update p f,toks:=t}:=by
 have e:(s.heap.update p f).get? p=some {cls:=.type "list",data:=.seq its'.toArray c}:=by
  rw[QaC f g (by rw[d]<;>rfl),d]
 refine I.write (x:=p) (e:=p) (by rw[h];trivial) (.inl rfl) (λb u i q=>(QaY _ _ (Ne.symm i)).trans q) ⟨_,e⟩ ?_;exact⟨hz,its',c,r,e⟩
def UR:V->V->V->Hp->(Hp->Prop)->Prop:=λo i v H Q=>∃p xs k j,o=.ref p/\i=.int k/\H p=some (.lst xs)/\AJ xs.length k=some j/\Q (upd H p (.lst (xs.set j v)))
theorem mK:Ja X UR:=by
 intro a s e H o i v m w u Q I f g l h;obtain⟨p,xs,k,j,rfl,rfl,hp,hj,q⟩:=h;cases f;obtain⟨t,rfl⟩:=g;obtain⟨its,n,r,ho,hz⟩:=I.lst hp;obtain⟨O,Y,h3,h4⟩:=qA hj;have b:=r.length;have x:=DH;have d:Inv X a e (upd H p (.lst (xs.set j v))) {s with heap:=s.heap.update p (Obj.mapSeq (·.setIfInBounds j u))}:=
  I.UQ hp ho (uO its n j u) (r.set l j) (by rw[QaZ];exact hz) s.toks
 by_cases h0:0<=k
 ·have c:k.toNat=j:=by
   rw[seqIndex_of h0 h4]at O;exact QE O
  exact PySem.W.ki_setAt ho h0 (by lia) (by rw[yJ,<- b];exact h4) (by rw[c];exact⟨_,d,q⟩)
 ·have c:(k+(its.toArray.size:Int)).toNat=j:=by
   rw[seqIndex_neg (by lia) h3]at O;rw[yJ,<- b];exact QE O
  exact PySem.W.ki_setBack ho (by lia) (by rw[yJ,<- b];exact h3) (by lia) (by rw[c];exact⟨_,d,q⟩)
theorem pR(lo hi:Option Int)(n:Nat):(sliceBounds lo hi none n).1=((HT.cu n 0 lo:Nat):Int)/\(sliceBounds lo hi none n).2.1=((HT.cu n n hi:Nat):Int)/\(sliceBounds lo hi none n).2.2=1:=by
 refine⟨?_,?_,rfl⟩
 ·cases lo with
  |none=>simp[sliceBounds,HT.cu]
  |some i=>
   simp only[sliceBounds,HT.cu,Option.getD_none,show(1:Int) > 0 by decide,if_true];by_cases h:i<0
   ·simp only[h,if_true]<;>lia
   ·simp only[h,if_false]<;>lia
 ·cases hi with
  |none=>simp[sliceBounds,HT.cu]
  |some i=>
   simp only[sliceBounds,HT.cu,Option.getD_none,show(1:Int) > 0 by decide,if_true];by_cases h:i<0
   ·simp only[h,if_true]<;>lia
   ·simp only[h,if_false]<;>lia
theorem o7(a:Qbp)(lo hi:Option Int):slicePick a.toArray lo hi none=((a.drop (HT.cu a.length 0 lo)).take (HT.cu a.length a.length hi-HT.cu a.length 0 lo)).toArray:=by
 obtain⟨O,Y,h3⟩:=pR lo hi a.toArray.size;unfold slicePick;rw[O,Y,h3];simp only[sliceRange_one,pick_run,yJ]<;>rfl
def Cu(K:Q0):V->Option Int->Option Int->Hp->VK->Prop:=λx lo hi H Q=>∃a xs,x=.ref a/\ao K H a xs/\∀p,H p=none->Q (.ref p) (upd H p (.lst (qx xs lo hi)))
theorem US:zb X (Cu X.K):=by
 intro e s l H x v vl m c d n Q I f g i j h;obtain⟨a,xs,rfl,hx,q⟩:=h;cases f;obtain⟨its,r,ht,hz⟩:=I.list hx;have k:=r.length;refine⟨"list",_,slot_list_getitem.lookup,ht.isList.typeIs,?_⟩;refine wpAny_getItem_list_slice ht.isList g i j .none (by simp) ?_ (by rw[yJ]<;>lia);rw[o7,<- k];refine⟨.ref s.heap.objs.size,_,I.laid (t':=s.toks) (o:=.lst (qx xs c d)) (λb p q=>Qc _ q) (Qz _) ?_,rfl,q _ (I.hok.fresh (Qz _))⟩;exact⟨Qag (lA xs c d) hz,_,0,(r.drop (HT.cu xs.length 0 c)).take (HT.cu xs.length xs.length d-HT.cu xs.length 0 c),Qd _ rfl⟩
def Ag:V->Bool
 | .aq=>true
 | .bl _=>true
 | .int _=>true
 | .str _=>true
 |_=>false
def Bt:V->V->Bool
 | .aq,.aq=>true
 | .bl a,.bl b=>a==b
 | .bl a,.int b=>(if a then 1 else 0)==b
 | .int a,.bl b=>a==(if b then 1 else 0)
 | .int a,.int b=>a==b
 | .str a,.str b=>a==b
 |_,_=>false
theorem UT{y x:V}{v:Value}(d:RelV y u)(c:RelV x v)(f:Ag y=true)(e:Ag x=true):SeqAt.EqAt A s u v (Bt y x):=by
 cases y with
 |aq=>
  cases d;cases x with
  |aq=>cases c;exact SeqAt.EqAt.same _
  |bl b=>cases c;exact SeqAt.EqAt.none_bool b
  |int b=>obtain⟨t,rfl⟩:=c;exact SeqAt.EqAt.none_int b t
  |str b=>obtain⟨t,rfl⟩:=c;exact SeqAt.EqAt.none_str b t
  |_=>exact absurd (show false=true from e) yH
 |bl a=>
  cases d;cases x with
  |aq=>cases c;exact SeqAt.EqAt.bool_none a
  |bl b=>cases c;exact SeqAt.EqAt.bool_bool a b
  |int b=>obtain⟨t,rfl⟩:=c;exact SeqAt.EqAt.bool_int a b t
  |str b=>obtain⟨t,rfl⟩:=c;exact SeqAt.EqAt.bool_str a b t
  |_=>exact absurd (show false=true from e) yH
 |int a=>
  obtain⟨t',rfl⟩:=d;cases x with
  |aq=>cases c;exact SeqAt.EqAt.int_none a t'
  |bl b=>cases c;exact SeqAt.EqAt.int_bool a t' b
  |int b=>obtain⟨t,rfl⟩:=c;exact SeqAt.EqAt.int_int a t' b t
  |str b=>obtain⟨t,rfl⟩:=c;exact SeqAt.EqAt.int_str a t' b t
  |_=>exact absurd (show false=true from e) yH
 |str a=>
  obtain⟨t',rfl⟩:=d;cases x with
  |aq=>cases c;exact SeqAt.EqAt.str_none a t'
  |bl b=>cases c;exact SeqAt.EqAt.str_bool a t' b
  |int b=>obtain⟨t,rfl⟩:=c;exact SeqAt.EqAt.str_int a t' b t
  |str b=>obtain⟨t,rfl⟩:=c;exact SeqAt.EqAt.str_str a t' b t
  |_=>exact absurd (show false=true from e) yH
 |_=>exact absurd (show false=true from f) yH
def AK(x:V)(u:Value):Bool:=match u with
 | .none=>Bt .aq x
 | .bool b=>Bt (.bl b) x
 | .int i _=>Bt (.int i) x
 | .str z _=>Bt (.str z) x
 |_=>false
theorem M1{x y:V}(r:RelV y u)(f:Ag y=true):AK x u=Bt y x:=by
 cases y with
 |aq=>cases r;rfl
 |bl b=>cases r;rfl
 |int i=>obtain⟨t,rfl⟩:=r;rfl
 |str z=>obtain⟨t,rfl⟩:=r;rfl
 |_=>exact absurd (show false=true from f) yH
theorem qV{x:V}:∀{xs:Qby}{us:Qbp},bg xs us->xs.all Ag=true->us.any (AK x)=xs.any λy=>Bt y x
 |_,_,.nil,_=>rfl
 |y::xs,u::us,.cons r t,f=>by
  rw[List.all_cons,QaM]at f;rw[List.any_cons,List.any_cons,M1 r f.1,qV t f.2]
theorem mS{A:Around}{s:Shared}{x:V}{v:Value}(a:RelV x v)(b:Ag x=true):∀{xs:Qby}{us:Qbp},bg xs us->xs.all Ag=true->∀u∈us,SeqAt.EqAt A s u v (AK x u)
 |_,_,.nil,_=>λu hu=>by cases hu
 |y::xs,u::us,.cons r t,f=>λc hu=>by
  rw[List.all_cons,QaM]at f;rcases Qp.mp hu with rfl|hu
  ·rw[M1 r f.1];exact UT r a f.1 b
  ·exact mS a b t f.2 c hu
def Ah(x:V)(xs:Qby):Bool:=xs.any λy=>Bt y x
def UU(K:Q0)(a:Bool):R2:=λx y H Q=>∃p xs,y=.ref p/\(ao K H p xs\/ay K H p xs)/\Ag x=true/\xs.all Ag=true/\Q (.bl (if a then !Ah x xs else Ah x xs)) H
theorem wP:dj X (compareOp .In) (UU X.K false):=by
 intro b s e H x y v u Q I c d h;obtain⟨p,xs,rfl,hq,fx,fs,q⟩:=h;cases d;rcases hq with hq|hq
 ·obtain⟨its,r,pl,hz⟩:=I.list hq;refine SeqAt.in_listAt (AK x) pl.isList (λw a=>mS c fx r fs w (by simpa using a)) ⟨.bl _,H,I,rfl,?_⟩;rw[show its.toArray.any (AK x)=its.any (AK x)by simp,qV r fs];exact q
 ·obtain⟨its,r,pl,hz⟩:=I.tuple hq;refine SeqAt.in_tupleAt (AK x) pl (λw a=>mS c fx r fs w (by simpa using a)) ⟨.bl _,H,I,rfl,?_⟩;rw[show its.toArray.any (AK x)=its.any (AK x)by simp,qV r fs];exact q
theorem pP:ux X (.type "list") (λxs H Q=>∃p ys,xs=[.ref p]/\(ao X.K H p ys\/ay X.K H p ys)/\∀l,H l=none->Q (.ref l) (upd H l (.lst ys))):=by
 intro g s t H xs y Q I r h;obtain⟨p,ys,rfl,hq,q⟩:=h;obtain⟨u,rfl,rx⟩:=vals1 r;cases rx;have i:∀(a:Qbp),bg ys a->ys.length<=sizeLine->∀(c:Heap)(d:Nat),(∀b m,s.heap.get? b=some m->c.get? b=some m)->
   c.get? s.heap.objs.size=some {cls:=.type "list",dict:=none,data:=.seq a.toArray d,slots:=#[]}->EP X g t Q (.ref s.heap.objs.size) {s with heap:=c}:=λa f j c d k e=>
  ⟨.ref s.heap.objs.size,_,I.laid (t':=s.toks) k (Qz _) (show bx X.prog X.w _ c _ (.lst ys)from⟨j,a,d,f,e⟩),rfl,q _ (I.hok.fresh (Qz _))⟩
 rcases hq with hq|hq
 ·obtain⟨a,f,pl,j⟩:=I.list hq;have x:=f.length;obtain⟨o,ho,hc,n,hd⟩:=pl.isList;exact call_list_seq p (.inl rfl) ho hc hd (λc d k e=>i a f j c d k e) (by simp only[yJ]<;>lia)
 ·obtain⟨a,f,pl,j⟩:=I.tuple hq;have x:=f.length;obtain⟨o,ho,hc,n,hd⟩:=pl;exact call_list_seq p (.inr rfl) ho hc hd (λc d k e=>i a f j c d k e) (by simp only[yJ]<;>lia)
theorem oE:ux X (.type "tuple") (λxs H Q=>∃p ys,xs=[.ref p]/\((ao X.K H p ys/\∀l,H l=none->Q (.ref l) (upd H l (.tup ys)))\/(ay X.K H p ys/\Q (.ref p) H))):=by
 intro a s f H xs k Q I r h;obtain⟨p,ys,rfl,h⟩:=h;obtain⟨u,rfl,rx⟩:=vals1 r;cases rx;rcases h with⟨d,q⟩|⟨d,q⟩
 ·obtain⟨its,r',pl,hz⟩:=I.list d;have m:=r'.length;refine call_tuple_list pl.isList (λc i=>?_) (by simp only[yJ]<;>lia);have g:Inv X a f H {s with heap:=c}:=I.kept (t':=s.toks) i;have j:Inv X a f (upd H c.objs.size (.tup ys)) {s with heap:=c.push {cls:=.type "tuple",data:=.seq its.toArray}}:=
   g.laid (t':=s.toks) (λb o e=>Qc _ e) (Qz _) (show bx X.prog X.w _ _ _ (.tup ys)from⟨⟨hz,Bm.new rfl rfl⟩,its,r',IsTup.new _ _⟩)
  exact⟨.ref c.objs.size,_,j,rfl,q _ (g.hok.fresh (Qz _))⟩
 ·obtain⟨its,r',pl,hz⟩:=I.tuple d;exact call_tuple_same pl ⟨.ref p,H,I,rfl,q⟩
def Jm(K:Q0)(T:String)(x:V)(H:Hp):Prop:=match x with
 | .str _=>T="str"
 | .int _=>T="int"
 | .ref p=>(T="list"/\∃xs,ao K H p xs)\/(T="tuple"/\∃o,K.lookup p=some o/\o.cls=.type "tuple"/\o.dict=none)\/
   (T="dict"/\((∃kvs,H p=some (.dK kvs))\/∃kvs,H p=some (.dT kvs)))\/(T="set"/\∃S n,H p=some (.set S n))
 |_=>False
theorem M3{x:V}{v:Value}(I:Inv X B Z H s)(r:RelV x v)(ty:Jm X.K T x H):
  s.TypeIs v T/\∀a,v=.ref a->∃ob,s.heap.get? a=some ob/\ob.dict=none:=by
 cases x with
 |str z=>
  obtain⟨t,rfl⟩:=r;cases(show T="str" from ty);exact⟨typeIs_str s z t,λ_ e=>nomatch e⟩
 |int i=>
  obtain⟨t,rfl⟩:=r;cases(show T="int" from ty);exact⟨typeIs_int s i t,λ_ e=>nomatch e⟩
 |ref p=>
  cases r;rcases ty with⟨rfl,k,h⟩|⟨rfl,o,b,j,d⟩|⟨rfl,b⟩|⟨rfl,S,n,b⟩
  ·obtain⟨its,_,pl,_⟩:=I.list h;refine⟨pl.isList.typeIs,λa e=>?_⟩;cases e;obtain⟨o,n,e,c,d,_⟩:=pl;exact⟨o,e,d⟩
  ·refine⟨⟨o,I.qt p o b,j⟩,λa e=>?_⟩;cases e;exact⟨o,I.qt _ o b,d⟩
  ·have z:∃o,s.heap.get? p=some o/\o.ExactDict:=by
    rcases b with⟨f,b⟩|⟨f,b⟩
    ·obtain⟨_,_,_,_,o,_,_,e,ex,_⟩:=I.hok p _ b;exact⟨o,e,ex⟩
    ·obtain⟨_,_,_,_,o,_,_,e,ex,_⟩:=I.hok p _ b;exact⟨o,e,ex⟩
   obtain⟨o,e,ex⟩:=z;refine⟨⟨o,e,ex.1⟩,λa g=>?_⟩;cases g;exact⟨o,e,ex.2.1⟩
  ·obtain⟨o,_,_,_,e,ex,_⟩:=I.hok p _ b;refine⟨⟨o,e,ex.1⟩,λa g=>?_⟩;cases g;exact⟨o,e,ex.2.1⟩
 |_=>exact False.elim ty
def M4(K:Q0)(T:String)(r:V->Qby->Hp->VK->Prop)(a:TE):TE:=λZ H Q=>a Z H λx H1=>Jm K T x H1/\r x [] H1 Q
def GX(K:Q0)(T:String)(r:V->Qby->Hp->VK->Prop)(a:TE)(t:TA):TE:=λZ H Q=>a Z H λx H1=>Jm K T x H1/\t Z H1 λxs H2=>r x xs H2 Q
variable{o:Expr}{t:TA}{id:String}{r:V->Qby->Hp->VK->Prop}
theorem UW(e:PlainAttrs T)(slot:Slot T name id)(f:typeOf (.builtin id)=pure (.type "method_descriptor"))(g:Jl X id r)(i:PE X o to)
  (j:attributeBase o name X.env (eval o X.env)=eval o X.env:=by rfl) (k:(apos.endLine==cpos.line)=true:=by rfl):PE X (.Call (.Attribute o name apos) [] [] cpos) (M4 X.K T r to):=by
 intro a s b H Q I h;refine wpAny_Call_method0_late j k (av (i a s b H _ I h) ?_);rintro v l ⟨x,m,c,d,n,p⟩;obtain⟨O,Y⟩:=M3 c d n;exact⟨T,id,e,slot,f,O,Y,Calls.callWith_builtin rfl (QaW (g a l b m x [] v [] Q c d .nil p))⟩
theorem UX (g:PlainAttrs T) (slot:Slot T name id) (i:typeOf (.builtin id)=pure (.type "method_descriptor")) (j:Jl X id r) (k:PE X o to) (l:PA X (e::es) t)
  (m:attributeBase o name X.env (eval o X.env)=eval o X.env:=by rfl)
  (n:((backTo cpos (starEach (e::es) X.env)).all (λx=> !x.1)&&(backToKw cpos (keywordEach [] X.env)).all (λx=>x.1.isSome)
   &&decide ((e::es).length+([]:List Keyword).length+(if ([]:List Keyword).isEmpty then 0 else 1) < 30))=true:=by rfl)
  (p:(apos.endLine==cpos.line)=true:=by rfl) (hs:QbB X e es:=by rfl) (q:QbC X cpos es:=by rfl):
  PE X (.Call (.Attribute o name apos) (e::es) [] cpos) (GX X.K T r to t):=by
 intro a s b H Q I h
 refine wpAny_Call_method_late m n p rfl (av (k a s b H _ I h) ?_)
 rintro v u ⟨x,w,c,d,y,z⟩
 obtain ⟨A,C⟩:=M3 c d y
 refine ⟨T,id,g,slot,i,A,C,?_⟩
 have f:=l cpos a u b w _ c z
 rw [hs] at f ⊢
 refine Calls.callWith_builtin (by show (false||(backTo cpos (starEach es X.env)).any (·.1))=false;rw [q]<;>rfl) (Calls.evalArgs_plain ?_)
 exact av f λD E ⟨G,L,N,P,R⟩=>j a E b L x G v D Q N d P R
/- xs.append(e),list.index on a ade tuple .. are Jl facts of 06m -/
end
def Cv(X:Cx)(id:String)(r:V->Qby->Hp->VK->Prop):Prop:=
 ∀(B:List (Addr×Obj))(s:Shared)(Z:St)(H:Hp)(x:V)(xs:Qby)(v:Value)(us:Qbp)(Q:VK),Inv X B Z H s->RelV x v->bg xs us->r x xs H Q->
  wpAny (model X.prog X.w) X.A (call (.builtin id) (v::us)) (EP X B Z Q) X.xe s
theorem bg.one{x:V}{us:Qbp}(h:bg [x] us):∃u,us=[u]/\RelV x u:=by
 cases h with
 |cons r t=>
  cases t;exact⟨_,rfl,r⟩
theorem bg.two{x y:V}(h:bg [x,y] us):∃u v,us=[u,v]/\RelV x u/\RelV y v:=by
 cases h with
 |cons r t=>
  cases t with
  |cons q t=>
   cases t;exact⟨_,_,rfl,r,q⟩
theorem bg.zero:∀{us:Qbp},bg [] us->us=[]
 |_,.nil=>rfl
theorem bg.dropLast{xs:Qby}{us:Qbp}(h:bg xs us):bg xs.dropLast us.dropLast:=by
 induction h with
 |nil=>exact .nil
 |cons r t ih=>
  cases t with
  |nil=>exact .nil
  |cons q t'=>exact .cons r ih
theorem bg.eraseIdx:∀{xs:Qby}{us:Qbp}(i:Nat),bg xs us->bg (xs.eraseIdx i) (us.eraseIdx i)
 |_,_,_,.nil=>.nil
 |_,_,0,.cons _ t=>t
 |_,_,i+1,.cons r t=>.cons r (bg.eraseIdx i t)
theorem vB(l:List α):l.eraseIdx (l.length-1)=l.dropLast:=by
 induction l with
 |nil=>rfl
 |cons a r ih=>
  cases r with
  |nil=>rfl
  |cons b r=>
   have e:(a::b::r).length-1=((b::r).length-1)+1:=by
    have c:(a::b::r).length=r.length+2:=rfl;have d:(b::r).length=r.length+1:=rfl
    lia
   rw[e,List.eraseIdx_cons_succ,ih]
   all_goals rfl
theorem pM{a:Type}:∀(l:List a)(i:Nat),(l.eraseIdx i).length<=l.length
 | [],_=>Qz _
 |_::_,0=>Qbk _
 |_::r,i+1=>Nat.succ_le_succ (pM r i)
section
variable{xs ys zs:Qby}
theorem Inv.GY{a its':Qbp}{f:Array Value->Array Value}(I:Inv X B Z H s)(b:H l=some (.lst xs))
  (e:s.heap.get? l=some {cls:=.type "list",data:=.seq a.toArray n}) (c:f a.toArray=its'.toArray) (hv:bg ys its') (hz:ys.length<=sizeLine):
  Inv X B Z (upd H l (.lst ys)) {s with heap:=s.heap.update l (Obj.mapSeq f),toks:=t'}:=by
 have q:=PySem.IsL.update e f;rw[c]at q;refine I.write (x:=l) (e:=l) (by rw[b];exact trivial) (.inl rfl) (λh u d g=>(QaY s.heap (Obj.mapSeq f) (Ne.symm d)).trans g) ⟨_,q⟩ ?_;exact⟨hz,its',_,hv,q⟩
theorem Inv.UY{a:Qbp}(I:Inv X B Z H s)(hv:bg ys a)(hz:ys.length<=sizeLine):
  Inv X B Z (upd H s.heap.objs.size (.lst ys)) {s with heap:=s.heap.push {cls:=.type "list",data:=.seq a.toArray},toks:=t'}:=
 I.laid (λ_ _ q=>Qc _ q) (Qz _) ⟨hz,a,0,hv,Qd _ rfl⟩
theorem Inv.fresh(I:Inv X B Z H s):H s.heap.objs.size=none:=I.hok.fresh (Qz _)
theorem Inv.Cw(I:Inv X B Z H s)(b:H l=some (.lst xs)):xs.length<=sizeLine/\∃(a:Qbp)(n:Nat),bg xs a/\xs.length=a.length/\s.heap.get? l=some {cls:=.type "list",data:=.seq a.toArray n}:=by
 obtain⟨z,a,n,r,e⟩:=I.hok l _ b;exact⟨z,a,n,r,r.length,e⟩
theorem UZ(h:n<=sizeLine):Builtin.List.listTooLong n=false:=by
 unfold Builtin.List.listTooLong;exact Qx (by lia)
end
def M5:V->Qby->Hp->VK->Prop:=λx vs H Q=>∃l xs y,x=.ref l/\vs=[y]/\H l=some (.lst xs)/\xs.length<sizeLine/\Q .aq (upd H l (.lst (xs++[y])))
theorem bE:Cv X "list.append" M5:=by
 intro a s d H x f v g Q I b c h;obtain⟨l,xs,y,rfl,rfl,hH,hz,q⟩:=h;cases b;obtain⟨u,rfl,ru⟩:=c.one;obtain⟨z,its,n,r,hl,e⟩:=I.Cw hH;refine call_meets F.slot_list_append ⟨_,e,rfl⟩ F.entry_list_append (F.args_list_append_2 _ _) (PySem.list_append l its.toArray n u (by rw[yJ];lia)) ⟨e,?_⟩;refine⟨.aq,_,I.GY (its':=its++[u]) hH e (by simp) (r.append (.cons ru .nil)) ?_,rfl,q⟩;rw[Qk,QaD]
 lia
def U0:V->Qby->Hp->VK->Prop:=λx vs H Q=>∃l b xs zs,x=.ref l/\vs=[.ref b]/\H l=some (.lst xs)/\H b=some (.lst zs)/\xs.length+zs.length<=sizeLine/\Q .aq (upd H l (.lst (xs++zs)))
theorem xN:Cv X "list.extend" U0:=by
 intro c s i H x j v k Q I d f h;obtain⟨l,b,xs,zs,rfl,rfl,hH,hB,hz,q⟩:=h;cases d;obtain⟨u,rfl,ru⟩:=f.one;cases ru;obtain⟨z,its,n,r,hl,e⟩:=I.Cw hH;obtain⟨z2,its2,n2,r2,Cy,e2⟩:=I.Cw hB;have a:its.toArray.size+its2.toArray.size<=sizeLine:=by rw[yJ,yJ];lia
 have g:¬(!its.toArray.isEmpty&&Builtin.List.listTooLong (its.toArray.size+its2.toArray.size))=true:=by
  rw[UZ a,Bool.and_false];exact yH
 refine call_meets F.slot_list_extend ⟨_,e,rfl⟩ F.entry_list_extend (F.args_list_extend_2 _ _)
  (AutoSeq1.list_extend_list_list_0 l its.toArray n b its2.toArray n2 g (by rw[yJ];lia) (by lia)) ⟨e,e2,?_⟩
 refine⟨.aq,_,I.GY (its':=its++its2) hH e (by simp) (r.append r2) ?_,rfl,q⟩;rw[Qk]
 lia
def U3:V->Qby->Hp->VK->Prop:=λx vs H Q=>∃l xs y,x=.ref l/\vs=[]/\H l=some (.lst xs)/\xs[xs.length-1]? =some y/\Q y (upd H l (.lst xs.dropLast))
theorem U4:Cv X "list.pop" U3:=by
 intro a s g H x i v j Q I b c h;obtain⟨l,xs,y,rfl,rfl,hH,hy,q⟩:=h;cases b;have d:=c.zero;subst d;obtain⟨z,its,n,r,hl,e⟩:=I.Cw hH;obtain⟨u,hu,ru⟩:=r.get hy;have f:its.toArray[its.toArray.size-1]? =some u:=by
  show its.toArray[its.length-1]? =some u;rw[<- QaJ,<- hl];exact hu
 refine call_meets F.slot_list_pop ⟨_,e,rfl⟩ F.entry_list_pop (F.args_list_pop_1 _) (MeetsSeq.list_pop_last l its.toArray n u f (by rw[yJ];lia)) ⟨e,?_⟩;refine⟨y,_,I.GY (its':=its.dropLast) hH e ?_ r.dropLast ?_,ru,q⟩
 ·show its.toArray.eraseIdxIfInBounds (its.toArray.size-1)=its.dropLast.toArray;rw[yJ,List.eraseIdxIfInBounds_toArray,vB]
 ·rw[List.length_dropLast]
  lia
def U6:V->Qby->Hp->VK->Prop:=λx vs H Q=>∃l xs i k y,x=.ref l/\vs=[.int i]/\H l=some (.lst xs)/\ -(2^63)<=i/\i<2^63/\seqIndex? i xs.length=some k/\xs[k]? =some y/\Q y (upd H l (.lst (xs.eraseIdx k)))
theorem U7:Cv X "list.pop" U6:=by
 intro a s d H x f v g Q I b c h;obtain⟨l,xs,i,k,y,rfl,rfl,hH,O,Y,hk,hy,q⟩:=h;cases b;obtain⟨u,rfl,ru⟩:=c.one;obtain⟨t,rfl⟩:=ru;obtain⟨z,its,n,r,hl,e⟩:=I.Cw hH;obtain⟨w,hw,vz⟩:=r.get hy;refine call_meets F.slot_list_pop ⟨_,e,rfl⟩ F.entry_list_pop (F.args_list_pop_2 _ _)
  (MeetsSeq.list_pop_at l its.toArray n i t k w (fitsIndex_both O Y) (by rw[yJ,<- hl];exact hk) (by rw[<- QaJ];exact hw) (by rw[yJ];lia)) ⟨e,?_⟩
 refine⟨y,_,I.GY (its':=its.eraseIdx k) hH e ?_ (r.eraseIdx k) ?_,vz,q⟩
 ·show its.toArray.eraseIdxIfInBounds k=(its.eraseIdx k).toArray;rw[List.eraseIdxIfInBounds_toArray]
 ·have:=pM xs k
  lia
def U8:R2:=λx y H Q=>∃l b xs zs,x=.ref l/\y=.ref b/\H l=some (.lst xs)/\H b=some (.lst zs)/\xs.length+zs.length<=sizeLine/\∀p,H p=none->Q (.ref p) (upd H p (.lst (xs++zs)))
theorem U9:dj X (binaryOp .Add) U8:=by
 intro a s g H x y v u Q I c d h;obtain⟨l,b,xs,zs,rfl,rfl,hH,hB,hz,q⟩:=h;cases c;cases d;obtain⟨z,its,n,r,hl,e⟩:=I.Cw hH;obtain⟨z2,its2,n2,r2,Cy,e2⟩:=I.Cw hB;refine PySem.P.add_list e e2 ?_ (by rw[yJ,yJ];lia);have f:its.toArray++its2.toArray=(its++its2).toArray:=by simp
 rw[f];exact⟨.ref _,_,I.UY (t':=s.toks) (r.append r2) (by rw[Qk];lia),rfl,q _ I.fresh⟩
section
variable[DecidableEq κ]
def a_(kvs:List (κ×V))(k:κ):Qbz:=(kvs.find? λa=>decide (a.1=k)).map (·.2)
def putK(kvs:List (κ×V))(k:κ)(v:V):List (κ×V):=
 if(kvs.any λa=>decide (a.1=k))=true then kvs.map (λa=>if a.1=k then(a.1,v)else a)else kvs++[(k,v)]
def t_(kvs:List (κ×V))(k:κ):List (κ×V):=kvs.filter λa=>decide (a.1≠k)
theorem cC{p:κ×V}{r:List (κ×V)}{k:κ}(e:p.1=k):a_ (p::r) k=some p.2:=by simp[a_,Qax,e]
theorem cD{p:κ×V}{r:List (κ×V)}{k:κ}(e:¬p.1=k):a_ (p::r) k=a_ r k:=by simp[a_,Qax,e]
theorem cS(k:κ):∀kvs:List (κ×V),(kvs.any λkv=>decide (kv.1=k))=(a_ kvs k).isSome
 | []=>rfl
 |p::r=>by
  rw[List.any_cons];by_cases e:p.1=k
  ·simp only[cC e,Qw e,Bool.true_or,Option.isSome_some]
  ·rw[cD e,Qx e,Bool.false_or];exact cS k r
theorem sL(k j:κ)(y:V):∀kvs:List (κ×V),a_ (kvs.map λkv=>if kv.1=k then(kv.1,y)else kv) j=(a_ kvs j).map λx=>if j=k then y else x
 | []=>rfl
 |p::r=>by
  have ih:=sL k j y r;rw[xA];by_cases h:p.1=k
  ·rw[if_pos h];by_cases e:p.1=j
   ·rw[cC (p:=(p.1,y)) e,cC e,Qa0,if_pos (e.symm.trans h)]
   ·rw[cD (p:=(p.1,y)) e,cD e,ih]
  ·rw[if_neg h];by_cases e:p.1=j
   ·rw[cC (p:=p) e,cC e,Qa0,if_neg (λz=>h (e.trans z))]
   ·rw[cD (p:=p) e,cD e,ih]
theorem jN(k j:κ)(y:V):∀kvs:List (κ×V),a_ kvs k=none->a_ (kvs++[(k,y)]) j=if j=k then some y else a_ kvs j
 | [],_=>by
  by_cases e:k=j
  ·rw[if_pos e.symm];exact cC (p:=(k,y)) e
  ·rw[if_neg (λz=>e z.symm)];exact cD (p:=(k,y)) e
 |p::r,hn=>by
  rw[QaR];have a:¬p.1=k:=λz=>by rw[cC z]at hn;cases hn
  rw[cD a]at hn;have ih:=jN k j y r hn;by_cases e:p.1=j
  ·rw[cC e,cC e,if_neg (λz=>a (e.trans z))]
  ·rw[cD e,cD e,ih]
theorem nO(kvs:List (κ×V))(k j:κ)(y:V):a_ (putK kvs k y) j=if j=k then some y else a_ kvs j:=by
 unfold putK;by_cases a:(kvs.any λb=>decide (b.1=k))=true
 ·rw[if_pos a,sL];rw[cS]at a;by_cases e:j=k
  ·obtain⟨x,hx⟩:=Option.isSome_iff_exists.mp a;rw[if_pos e,e,hx,Qa0,if_pos rfl]
  ·rw[if_neg e];cases a_ kvs j with
   |none=>rfl
   |some x=>rw[Qa0,if_neg e]
 ·rw[if_neg a];refine jN k j y kvs ?_;rw[cS]at a;cases q:a_ kvs k with
  |none=>rfl
  |some x=>rw[q]at a;exact(a rfl).elim
theorem bW(kvs:List (κ×V))(k:κ)(v:V):(putK kvs k v).length<=kvs.length+1:=by
 unfold putK;split
 ·rw[Ql];lia
 ·rw[Qk,Qaf,List.length_nil];lia
theorem cO{kvs:List (κ×V)}{k:κ}(v:V)(h:a_ kvs k=none):putK kvs k v=kvs++[(k,v)]:=by
 unfold putK;rw[cS,h];exact if_neg (by decide)
theorem nq.CA{o:Qbz}{u:Qbr}(r:nq o u):o.isSome=u.isSome:=by
 cases o with
 |none=>cases u with
  |none=>rfl
  |some _=>exact(show False from r).elim
 |some _=>cases u with
  |none=>exact(show False from r).elim
  |some _=>rfl
theorem nq.getD{o:Qbz}{u:Qbr}{d:V}{d':Value}(r:nq o u)(a:RelV d d'):RelV (o.getD d) (u.getD d'):=by
 cases o with
 |none=>cases u with
  |none=>exact a
  |some _=>exact(show False from r).elim
 |some _=>cases u with
  |none=>exact(show False from r).elim
  |some _=>exact r
theorem KV.val{kvs:List (κ×V)}{vs:List (κ×Value)}(r:KV kvs vs)(k:κ):nq (a_ kvs k) (valueAt vs k):=by
 unfold KV at r
 induction r with
 |nil=>exact True.intro
 | @cons p q ps qs h t ih=>
  obtain⟨O,Y⟩:=h;by_cases e:p.1=k
  ·have a:q.1=k:=O.symm.trans e;have b:valueAt (q::qs) k=some q.2:=by simp[valueAt,Qax,a]
   rw[cC e,b];exact Y
  ·have a:¬q.1=k:=λz=>e (O.trans z);have b:valueAt (q::qs) k=valueAt qs k:=by simp[valueAt,Qax,a]
   rw[cD e,b];exact ih
theorem KV.any{kvs:List (κ×V)}{vs:List (κ×Value)}(r:KV kvs vs)(k:κ):(kvs.any λkv=>decide (kv.1=k))=vs.any λkv=>decide (kv.1=k):=by
 unfold KV at r
 induction r with
 |nil=>rfl
 |cons h t ih=>rw[List.any_cons,List.any_cons,ih,h.1]
theorem KV.repl{kvs:List (κ×V)}{vs:List (κ×Value)}(r:KV kvs vs)(k:κ){y:V}(a:RelV y u):
  KV (kvs.map λkv=>if kv.1=k then(kv.1,y)else kv) (vs.map λkv=>if kv.1=k then(kv.1,u)else kv):=by
 unfold KV at r⊢
 induction r with
 |nil=>exact .nil
 | @cons p q ps qs h t ih=>
  rw[xA,xA];refine .cons ?_ ih;obtain⟨O,Y⟩:=h;by_cases e:p.1=k
  ·rw[if_pos e,if_pos (O.symm.trans e)];exact⟨O,a⟩
  ·rw[if_neg e,if_neg (λz=>e (O.trans z))];exact⟨O,Y⟩
theorem KV.put{kvs:List (κ×V)}{vs:List (κ×Value)}(r:KV kvs vs)(k:κ){y:V}(a:RelV y u):KV (putK kvs k y) (stored vs k u):=by
 unfold putK stored;rw[r.any k];by_cases e:(vs.any λb=>decide (b.1=k))=true
 ·rw[if_pos e,if_pos e];exact r.repl k a
 ·rw[if_neg e,if_neg e];exact Paired.snoc r ⟨rfl,a⟩
theorem KV.drop{kvs:List (κ×V)}{vs:List (κ×Value)}(r:KV kvs vs)(k:κ):KV (t_ kvs k) (without vs k):=by
 unfold KV at r⊢;unfold t_ without
 induction r with
 |nil=>exact .nil
 | @cons p q ps qs h t ih=>
  obtain⟨O,Y⟩:=h;rw[Qbm,Qbm];by_cases e:p.1=k
  ·have a:¬decide (p.1≠k)=true:=by simp[e]
   have b:¬decide (q.1≠k)=true:=by simp[O.symm.trans e]
   rw[if_neg a,if_neg b];exact ih
  ·have c:¬q.1=k:=λz=>e (O.trans z);have a:decide (p.1≠k)=true:=by simp[e]
   have b:decide (q.1≠k)=true:=by simp[c]
   rw[if_pos a,if_pos b];exact .cons ⟨O,Y⟩ ih
theorem KV.length{kvs:List (κ×V)}{vs:List (κ×Value)}(r:KV kvs vs):kvs.length=vs.length:=Paired.length r
theorem U_(kvs:List (κ×V))(k:κ):(t_ kvs k).length<=kvs.length:=QaK _ _
end
theorem gX{k:Key}(r:RelV (kV k) u):(c_ P w).is k u=true:=by
 cases k with
 |inl k=>cases k with
  |i i=>obtain⟨t,e⟩:=(show ∃t,u=Value.int i t from r);subst e;exact t7 P w i t
  |no=>obtain rfl:u=Value.none:=r;rfl
 |inr x=>obtain⟨t,e⟩:=(show ∃t,u=Value.str x t from r);subst e;exact fE P w x t
theorem oS{P:Program}{w:World}:∀{ks:List Key}{us:Qbp},bg (ks.map kV) us->ItemsAre (c_ P w) ks us
 | [],_,r=>by rw[List.map_nil]at r;cases r;exact .nil
 |k::ks,_,r=>by
  rw[xA]at r;cases r with
  |cons h t=>exact .cons (gX h) (oS t)
abbrev KT(H:Hp):Qbu->List (List Key×Addr×Value)->Prop:=Paired λp q=>p.1=q.1/\cf H q.2.1 (p.1.map kV)/\RelV p.2 q.2.2
theorem KT.val{kvs:Qbu}(r:KT H kvs xs)(k:List Key):nq (a_ kvs k) ((atKey xs k).map (·.2)):=by
 induction r with
 |nil=>exact True.intro
 | @cons p q ps qs h t ih=>
  obtain⟨O,_,Y⟩:=h;by_cases e:p.1=k
  ·have a:q.1=k:=O.symm.trans e;have b:atKey (q::qs) k=some q.2:=by simp[atKey,Qax,a]
   rw[cC e,b];exact Y
  ·have a:¬q.1=k:=λz=>e (O.trans z);have b:atKey (q::qs) k=atKey qs k:=by simp[atKey,Qax,a]
   rw[cD e,b];exact ih
theorem KT.repl{kvs:Qbu}(r:KT H kvs xs)(k:List Key){y:V}(a:RelV y u):
  KT H (kvs.map λkv=>if kv.1=k then(kv.1,y)else kv) (xs.map (putAt k u)):=by
 induction r with
 |nil=>exact .nil
 | @cons p q ps qs h t ih=>
  rw[xA,xA];refine .cons ?_ ih;obtain⟨O,Y,h3⟩:=h;unfold putAt;by_cases e:p.1=k
  ·rw[if_pos e,if_pos (O.symm.trans e)];exact⟨O,Y,a⟩
  ·rw[if_neg e,if_neg (λz=>e (O.trans z))];exact⟨O,Y,h3⟩
theorem KT.put{kvs:Qbu}(r:KT H kvs xs)(k:List Key){y:V}(c:cf H b (k.map kV))(a:RelV y u):
  KT H (putK kvs k y) (storedH xs k b u):=by
 have e:(kvs.any λd=>decide (d.1=k))=(atKey xs k).isSome:=by
  rw[cS,(r.val k).CA,Option.isSome_map]
 unfold putK storedH;rw[e];by_cases q:(atKey xs k).isSome=true
 ·rw[if_pos q,if_pos q];exact r.repl k a
 ·rw[if_neg q,if_neg q];exact Paired.snoc r ⟨rfl,c,a⟩
theorem KT.keeps{kvs:Qbu}(r:KT H kvs xs)(a:∀b ys,cf H b ys->cf U b ys):KT U kvs xs:=
 Paired.IV r λ_ _ z=>⟨z.1,a _ _ z.2.1,z.2.2⟩
theorem M6{u:HO}(ok:fg P w H h)(e:Rd H a u):bx P w H h a u:=e.ok ok
theorem kQ{kvs:Qbv}(ok:fg P w H h)(e:Rd H a (.dK kvs)):kvs.length<=sizeLine/\(a==sysModules)=false/\∃vs,KV kvs vs/\h.DictOf (c_ P w) a vs:=
 show bx P w H h a (.dK kvs)from M6 ok e
theorem rT{kvs:Qbv}(ok:fg P w H h)(e:H a=some (.dK kvs)):kvs.length<=sizeLine/\(a==sysModules)=false/\∃vs,KV kvs vs/\h.DictOf (c_ P w) a vs:=kQ ok (.inl e)
theorem iV{ks:List Key}(ok:fg P w H h)(e:cf H a (ks.map kV)):(tupleKind (c_ P w)).is h ks a:=by
 have b:bx P w H h a (.tup (ks.map kV)):=by
  rcases e with e|⟨_,e⟩
  ·exact ok a _ e
  ·exact(ok a _ e).2
 obtain⟨_,its,r,o,O,Y,n,h3⟩:=b;exact⟨o,its.toArray,n,O,Y,h3,by simpa using oS r⟩
theorem oM{kvs:Qbu}(ok:fg P w H h)(e:Rd H a (.dT kvs)):kvs.length<=sizeLine/\(a==sysModules)=false/\
  ∃xs,KT H kvs xs/\h.DictOfH (tupleKind (c_ P w)) a xs:=by
 obtain⟨z,y,xs,r,o,es,ep,O,Y,h3,h4,h5⟩:=(show bx P w H h a (.dT kvs)from M6 ok e)
 refine⟨z,y,xs,r,o,es,ep,O,Y,h3,h4,λx hx=>?_,h5⟩;have all:∀{l:Qbu}{m:List (List Key×Addr×Value)},KT H l m->∀x∈m,(tupleKind (c_ P w)).is h x.1 x.2.1:=by
  intro l m q
  induction q with
  |nil=>intro x hx;exact nomatch hx
  | @cons p q ps qs hq t ih=>
   intro x hx;rcases Qp.mp hx with e|hx
   ·subst e;exact iV ok (by rw[<- hq.1];exact hq.2.1)
   ·exact ih x hx
 exact all r x hx
theorem Jo{kvs:Qbu}(ok:fg P w H h)(e:H a=some (.dT kvs)):kvs.length<=sizeLine/\(a==sysModules)=false/\
  ∃xs,KT H kvs xs/\h.DictOfH (tupleKind (c_ P w)) a xs:=oM ok (.inl e)
def dc(H:Hp)(a:Addr)(y:V)(r:Qbz):Prop:=
 (∃kvs k,Rd H a (.dK kvs)/\y=kV k/\r=a_ kvs k)\/∃kvs k b,Rd H a (.dT kvs)/\y=.ref b/\cf H b (k.map kV)/\r=a_ kvs k
def Bu(H:Hp)(a:Addr)(y v:V)(U:Hp):Prop:=
 (∃kvs k,H a=some (.dK kvs)/\y=kV k/\kvs.length<sizeLine/\U=upd H a (.dK (putK kvs k v)))\/
 ∃kvs k b,H a=some (.dT kvs)/\y=.ref b/\cf H b (k.map kV)/\kvs.length<sizeLine/\U=upd H a (.dT (putK kvs k v))
theorem dc.k{H:Hp}{a:Addr}{kvs:Qbv}{k:Key}(e:H a=some (.dK kvs)):dc H a (kV k) (a_ kvs k):=.inl ⟨kvs,k,.inl e,rfl,rfl⟩
theorem Bu.k{H:Hp}{a:Addr}{kvs:Qbv}{k:Key}{v:V}(e:H a=some (.dK kvs))(b:kvs.length<sizeLine):Bu H a (kV k) v (upd H a (.dK (putK kvs k v))):=.inl ⟨kvs,k,e,rfl,b,rfl⟩
section
variable{y v:V}{r:Value}{o:Qbz}
theorem Inv.big(I:Inv X B Z H s):sysModules<s.heap.objs.size:=by
 have h:mainGlobals<s.heap.objs.size:=(I.mod.glob.keeps I.bk).lt;exact Nat.lt_trans (by decide) h
theorem yF(j:A.units+1<cLine)(I:Inv X B Z H s)(g:dc H a y (some v))(i:RelV y u)(h:∀c s',Inv X B Z H s'->RelV v c->Q c s'):
  wpAny (model X.prog X.w) A (getItem (.ref a) u) Q E s:=by
 rcases g with⟨d,k,e,f,l⟩|⟨d,k,b,e,f,m,l⟩
 ·subst f;obtain⟨z,hd,vs,rel,dd⟩:=kQ I.hok e;obtain⟨c,hw,vz⟩:=nq.some_of (v:=v) (o:=valueAt vs k) (by rw[l];exact rel.val k);exact wpAny_getItem_of (gX i) dd.mapOf hw (h c _ (I.tok _) vz)
 ·subst f;cases(show u=Value.ref b from i);obtain⟨z,hd,xs,rel,dd⟩:=oM I.hok e;obtain⟨c,hw,vz⟩:=nq.some_of (v:=v) (o:=(atKey xs k).map (·.2)) (by rw[l];exact rel.val k);obtain⟨p,hp,U'⟩:=QaA.mp hw;refine wpAny_getItem_heap (tupleKind_room_in1 j) (iV I.hok m) dd hp ?_;rw[U'];exact h c _ (I.tok _) vz
theorem Va(i:A.units+1<cLine)(I:Inv X B Z H s)(g:dc H a y o)(f:RelV y u)(h:∀s',Inv X B Z H s'->Q (.bool o.isSome) s'):
  wpAny (model X.prog X.w) A (compareOp .In u (.ref a)) Q E s:=by
 rcases g with⟨c,k,e,d,l⟩|⟨c,k,b,e,d,j,l⟩
 ·subst d;obtain⟨z,hd,vs,rel,dd⟩:=kQ I.hok e;refine wpAny_in_of (gX f) hd dd.mapOf ?_;rw[<- (rel.val k).CA,<- l];exact h _ (I.tok _)
 ·subst d;cases(show u=Value.ref b from f);obtain⟨z,hd,xs,rel,dd⟩:=oM I.hok e;refine wpAny_in_heap (tupleKind_room_in1 i) (iV I.hok j) hd dd ?_;have q:=(rel.val k).CA;rw[Option.isSome_map]at q;rw[<- q,<- l];exact h _ (I.tok _)
theorem Vb(i:A.units+1<cLine)(I:Inv X B Z H s)(g:dc H a y o)(f:RelV y u)(h:∀s',Inv X B Z H s'->Q (.bool (!o.isSome)) s'):
  wpAny (model X.prog X.w) A (compareOp .NotIn u (.ref a)) Q E s:=by
 rcases g with⟨c,k,e,d,l⟩|⟨c,k,b,e,d,j,l⟩
 ·subst d;obtain⟨z,hd,vs,rel,dd⟩:=kQ I.hok e;refine wpAny_notIn_of (gX f) hd dd.mapOf ?_;rw[<- (rel.val k).CA,<- l];exact h _ (I.tok _)
 ·subst d;cases(show u=Value.ref b from f);obtain⟨z,hd,xs,rel,dd⟩:=oM I.hok e;refine wpAny_notIn_heap (tupleKind_room_in1 i) (iV I.hok j) hd dd ?_;have q:=(rel.val k).CA;rw[Option.isSome_map]at q;rw[<- q,<- l];exact h _ (I.tok _)
theorem dX{ob:HO}(I:Inv X B Z H s)(d:ER (H a))(hs:Heap.SameBut a s.heap M)(f:∃q,M.get? a=some q)(c:bx X.prog X.w (upd H a ob) M a ob):
  Inv X B Z (upd H a ob) {s with heap:=M,toks:=t'}:=
 I.write (x:=a) (e:=a) d (.inl rfl) (λb q g z=>(hs.2 b g).trans z) f c
theorem mY{kvs:Qbv}{vs:List (Key×Value)}(z:kvs.length<=sizeLine)(c:(a==sysModules)=false)(b:KV kvs vs)(dd:M.DictOf (c_ P w) a vs):
  bx P w U M a (.dK kvs):=⟨z,c,vs,b,dd⟩
theorem xK{Q:Unit->Shared->Prop}(t:A.units+1<cLine)(I:Inv X B Z H s)(g:Bu H a y v U)(x:RelV y u)(C:RelV v r)(h:∀s',Inv X B Z U s'->Q () s'):
  wpAny (model X.prog X.w) A (setItem (.ref a) u r) Q E s:=by
 rcases g with⟨d,k,e,j,l,m⟩|⟨d,k,b,e,j,D,l,m⟩
 ·subst j m;obtain⟨z,hd,vs,rel,dd⟩:=rT I.hok e;have n:vs.length<=sizeLine:=by rw[<- rel.length];exact z
  have o:(putK d k v).length<=sizeLine:=by have:=bW d k v;lia
  refine wpAny_setItem_pairs (hsz:=n) (gX x) dd λG i p=>h _ ?_;have K:∃q,G.get? a=some q:=let ⟨q,_,_,hq,_⟩:=i;⟨q,hq⟩
  exact dX I (by rw[e];exact True.intro) p K (mY o hd (rel.put k C) i)
 ·subst j m;cases(show u=Value.ref b from x);obtain⟨z,hd,xs,rel,dd⟩:=Jo I.hok e;have n:xs.length<=sizeLine:=by rw[<- Paired.length rel];exact z
  have o:(putK d k v).length<=sizeLine:=by have:=bW d k v;lia
  refine wpAny_setItem_heap (hsz:=n) (tupleKind_room_in1 t) (iV I.hok D) dd λG i p=>h _ ?_;obtain⟨q,es,ep,hq,Y,h3,h4,_,h5⟩:=i;refine dX I (by rw[e];exact True.intro) p ⟨q,hq⟩ ⟨o,hd,_,(rel.put k D C).keeps λc L f=>?_,q,es,ep,hq,Y,h3,h4,h5⟩;refine f.upd λu t z=>?_;subst z;rcases f with f|⟨_,f⟩<;>(rw[e]at f;cases f)
end
section
variable{kvs:Qbv}{k:Key}
theorem xL{Q:Unit->Shared->Prop}(I:Inv X B Z H s)(e:H a=some (.dK kvs))(c:RelV (kV k) u)(l:(a_ kvs k).isSome=true)(h:∀s',Inv X B Z (upd H a (.dK (t_ kvs k))) s'->Q () s'):
  wpAny (model X.prog X.w) A (delItem (.ref a) u) Q E s:=by
 obtain⟨z,hd,vs,rel,dd⟩:=rT I.hok e;refine wpAny_delItem_slot dd.typeIs (by decide) PySem.F.slot_dict_delitem
  (call_meetsIn PySem.F.slot_dict_delitem dd.typeIs PySem.F.entry_dict_delitem (PySem.F.args_dict_delitem_2 _ _) (meets_dict_delitem_pairs (c_ X.prog X.w) a (gX c)) ⟨vs,dd,by rw[<- rel.length];exact z,by rw[<- (rel.val k).CA];exact l,λd b f=>h _ ?_⟩)
 have g:∃q,d.get? a=some q:=let ⟨q,_,_,hq,_⟩:=b;⟨q,hq⟩
 exact dX I (by rw[e];exact True.intro) f g (mY (Qag (U_ kvs k) z) hd (rel.drop k) b)
theorem Vc(I:Inv X B Z H s)(e:Rd H a (.dK kvs))(h:∀t s',Inv X B Z H s'->Q (.int kvs.length t) s'):wpAny (model X.prog X.w) A (call (.builtin "len") [.ref a]) Q E s:=by
 obtain⟨z,hd,vs,rel,dd⟩:=kQ I.hok e;refine call_len_dict hd dd (by rw[<- rel.length];rw[QM]at z;lia) ?_;rw[<- rel.length];exact h _ _ (I.tok _)
end
def E_(i:Expr):Prop:=∀ov a,subscripted i false ov a=operate [ov,a] (getItem ov a)
theorem vR{b a:Expr}{l:Pos}{id:String}
  (m:typeLookup (.type T) "__getitem__"=pure (some (.builtin id))) (hs:E_ a)
  (h:wpAny (model prog w) A (eval b env) (λo e=>wpAny (model prog w) A (eval a env) (λi c=>c.TypeIs o T/\wpAny (model prog w) A (getItem o i) Q E c) E e) E s):
  wpAny (model prog w) A (eval (.Subscript b a l) env) Q E s:=by
 refine Subscript_ (wpAny_mono h (λo e j=>wpAny_mono j (λi c d=>?_) λ_ _ x=>x) λ_ _ x=>x);obtain⟨hT,d⟩:=d;unfold subscriptTail;refine QT ?_;rw[getitemInPython_of_ne hT.not_modules];refine QT (wpAny_specialOf hT m ?_);have g:wpAny (model prog w) A (subscripted a false o i) (λr f=>wpAny (model prog w) A (letTemporaryGo b o r >>=λ_=>pure r) Q E f) E c:=by
  rw[hs o i];exact wpAny_operating (wpAny_mono d (λr f k=>QT (wpAny_letTemporaryGo (QU k))) λ_ _ x=>x)
 first
  |exact QU (QT g)
  |exact QT (QU (QT g))
  |exact QT g
theorem rG{y:V}{o:Qbz}(I:Inv X B Z H s)(g:dc H a y o):s.TypeIs (.ref a) "dict":=by
 rcases g with⟨c,k,e,_,_⟩|⟨c,k,b,e,_,_,_⟩
 ·obtain⟨_,_,vs,_,dd⟩:=kQ I.hok e;exact dd.typeIs
 ·obtain⟨_,_,xs,_,dd⟩:=oM I.hok e;exact dd.typeIs
def Jp(b ty:TE):TE:=λZ H Q=>b Z H λx H1=>ty Z H1 λy H2=>∃a v,x=.ref a/\dc H2 a y (some v)/\Q v H2
def M7(c ty d:TE):TS:=λD Z H=>d Z H λv H1=>c Z H1 λx H2=>ty Z H2 λy e=>∃a b,x=.ref a/\Bu e a y v b/\D.nx Z b
def M8(b ty:TE):TS:=λD Z H=>b Z H λx H1=>ty Z H1 λy H2=>∃a kvs k,x=.ref a/\H2 a=some (.dK kvs)/\y=kV k/\(a_ kvs k).isSome=true/\D.nx Z (upd H2 a (.dK (t_ kvs k)))
section
variable{o i value:Expr}{pos:Pos}{td ty tv:TE}
theorem Vd(e:X.A.units+1<cLine)(f:PE X o td)(hi:PE X i ty)(hs:E_ i):PE X (.Subscript o i pos) (Jp td ty):=by
 intro b s c H Q I h;refine vR PySem.F.slot_dict_getitem.lookup hs (av (f b s c H _ I h) ?_);rintro u j ⟨x,k,l,m,n⟩;refine av (hi b j c k _ l n) ?_;rintro C D ⟨y,p,d,q,a,v,r,g,t⟩;subst r;obtain rfl:u=Value.ref a:=m;exact⟨rG d g,yF e d g q λE G w z=>⟨v,p,w,z,t⟩⟩
theorem Ve(d:X.A.units+1<cLine)(e:PE X o td)(hi:PE X i ty)(hv:PE X value tv)(hs:swapsWith value (some (.Subscript o i pos')) pos.line X.env=pure false):
  PS X (.Assign [.Subscript o i pos'] value pos) (M7 td ty tv):=by
 intro b s c H D I h;refine wpAny_Assign_Subscript (av (hv b s c H _ I h) ?_) hs;rintro r f ⟨v,j,k,l,m⟩;refine av (e b f c j _ k m) ?_;rintro u n ⟨x,p,q,t,w⟩;refine av (hi b n c p _ q w) ?_;rintro N P ⟨y,Q,z,C,a,E,G,g,K⟩;subst G;obtain rfl:u=Value.ref a:=t;exact xK d z g C l λR L=>⟨c,E,L,K⟩
theorem Vf(d:PE X o td)(hi:PE X i ty):PS X (.Delete [.Subscript o i Bk] pos) (M8 td ty):=by
 intro b s c H D I h;refine wpAny_Delete (wpAny_deleteEach_cons (wpAny_delete_Subscript (av (d b s c H _ I h) ?_)));rintro u f ⟨x,g,j,m,n⟩;refine av (hi b f c g _ j n) ?_;rintro C E ⟨y,G,p,q,a,r,k,t,e,w,l,z⟩;subst t w;obtain rfl:u=Value.ref a:=m;exact xL p e q l λK A=>wpAny_deleteEach_nil ⟨c,_,A,z⟩
end
theorem rA(h:Heap)(a:sysModules<h.objs.size):bx P w H (h.push {cls:=.type "dict",data:=.dict #[]}) h.objs.size (.dK []):=
 ⟨Qaj _,beq_eq_false_iff_ne.mpr (Ne.symm (yT a)),[],.nil,Heap.DictOf.new h⟩
theorem rL(h:Heap)(a:sysModules<h.objs.size):bx P w H (h.push {cls:=.type "dict",data:=.dict #[]}) h.objs.size (.dT []):=
 ⟨Qaj _,beq_eq_false_iff_ne.mpr (Ne.symm (yT a)),[],.nil,_,#[],0,Qd _ rfl,⟨rfl,rfl,rfl⟩,rfl,rfl,QaX⟩
def M9:TE:=λ_ H Q=>∀p,H p=none->Q (.ref p) (upd H p (.dK []))
def M_:TE:=λ_ H Q=>∀p,H p=none->Q (.ref p) (upd H p (.dT []))
section
variable{pos:Pos}
theorem zW:PE X (.Dict [] [] pos) M9:=λb s c H Q I h=>
 wpAny_Dict_empty ⟨.ref s.heap.objs.size,_,I.laid (a:=s.heap.objs.size) (o:=.dK []) (t':=s.toks) (λ_ _ q=>Qc _ q) (Qz _) (rA s.heap I.big),rfl,h _ (I.hok.fresh (Qz _))⟩
theorem Vg:PE X (.Dict [] [] pos) M_:=λb s c H Q I h=>
 wpAny_Dict_empty ⟨.ref s.heap.objs.size,_,I.laid (a:=s.heap.objs.size) (o:=.dT []) (t':=s.toks) (λ_ _ q=>Qc _ q) (Qz _) (rL s.heap I.big),rfl,h _ (I.hok.fresh (Qz _))⟩
end
def Jq:List (TE×TE)->St->Hp->(List (V×V)->Hp->Prop)->Prop
 | [],_,H,Q=>Q [] H
 |(tk,tv)::r,Z,H,Q=>tk Z H λx H1=>tv Z H1 λy H2=>Jq r Z H2 λps a=>Q ((x,y)::ps) a
abbrev VV:List (V×V)->List (Value×Value)->Prop:=Paired λp q=>RelV p.1 q.1/\RelV p.2 q.2
def Fb(X:Cx)(c:Pos)(b:List (Option Expr))(a:List Expr)(d:List (TE×TE)):Prop:=
 ∀(B:List (Addr×Obj))(s:Shared)(Z:St)(H:Hp)(Q:List (V×V)->Hp->Prop),Inv X B Z H s->Jq d Z H Q->
  wpAny (model X.prog X.w) X.A (evalPairs (pairTrees b a X.env c)) (λvs s'=>∃ps U,Inv X B Z U s'/\VV ps vs/\Q ps U) X.xe s
theorem Vh{a:Pos}:Fb X a [] [] []:=λb s c H Q I h=>pairTrees_nil_walk ⟨[],H,I,.nil,h⟩
theorem Vi{b:Pos}{k v:Expr}{ks:List (Option Expr)}{vs:List Expr}{e f:TE}(g:PE X k e)(hv:PE X v f)(i:Fb X b ks vs uu):
  Fb X b (some k::ks) (v::vs) ((e,f)::uu):=λa s c H Q I h=>
 pairTrees_cons_walk (av (g a s c H _ I h) λu j ⟨x,l,m,n,o⟩=>av (hv a j c l _ m o) λE p ⟨y,q,r,t,w⟩=>
  av (i a p c q _ r w) λG K ⟨z,A,C,d,D⟩=>⟨(x,y)::z,A,C,.cons ⟨n,t⟩ d,D⟩)
def Bv(kvs more:Qbv):Qbv:=more.foldl (λa b=>putK a b.1 b.2) kvs
theorem KV.merge:∀{more:Qbv}{a:List (Key×Value)}{kvs:Qbv}{vs:List (Key×Value)},KV more a->KV kvs vs->KV (Bv kvs more) (merged vs a):=by
 intro more a kvs vs r;unfold KV at r
 induction r generalizing kvs vs with
 |nil=>intro q;exact q
 | @cons p q ps qs h t ih=>
  intro b;have e:KV (putK kvs p.1 p.2) (stored vs q.1 q.2):=by
   have:=b.put p.1 h.2;rw[<- h.1];exact this
  exact ih e
theorem iA:∀(more kvs:Qbv),(Bv kvs more).length<=kvs.length+more.length
 | [],kvs=>by show kvs.length<=kvs.length+0;lia
 |p::r,kvs=>by
  have a:=iA r (putK kvs p.1 p.2);have b:=bW kvs p.1 p.2;show(Bv (putK kvs p.1 p.2) r).length<=_;rw[Qaf];lia
theorem mE{P:Program}{w:World}:∀{kvs:Qbv}{ws:List (Value×Value)},VV (kvs.map λkv=>(kV kv.1,kv.2)) ws->∃rs,Carries (c_ P w) ws rs/\KV kvs rs
 | [],_,r=>by rw[List.map_nil]at r;cases r;exact⟨[],True.intro,.nil⟩
 |p::kvs,_,r=>by
  rw[xA]at r;cases r with
  | @cons a b as bs h t=>
   obtain⟨rs,c,q⟩:=mE (P:=P) (w:=w) t;obtain⟨b1,b2⟩:=b;exact⟨(p.1,b2)::rs,⟨gX h.1,rfl,c⟩,.cons ⟨rfl,h.2⟩ q⟩
def Na(b:List (TE×TE)):TE:=λZ H Q=>∀p,H p=none->Jq b Z (upd H p (.dK [])) λps H2=>H2 p=some (.dK [])/\∃kvs:Qbv,ps=kvs.map (λa=>(kV a.1,a.2))/\kvs.length<=15/\Q (.ref p) (upd H2 p (.dK (Bv [] kvs)))
theorem Vj{f:Pos}{b:List (Option Expr)}{d:List Expr}(h:Fb X f b d uu)(m:b.all (·.isSome)=true)(n:b.length=d.length)(h0:b≠[])
  (p:b.length<=15):PE X (.Dict b d f) (Na uu):=by
 intro g s r H Q I q;have t:=I.hok.fresh (Qz s.heap.objs.size);have u:=I.laid (a:=s.heap.objs.size) (o:=.dK []) (M:=s.heap.push {cls:=.type "dict",data:=.dict #[]}) (t':=s.toks) (λ_ _ q=>Qc _ q) (Qz _) (rA s.heap I.big);refine wpAny_Dict_walk (knd:=c_ X.prog X.w) m n h0 p (av (h g _ r _ _ u (q _ t)) ?_);rintro G K ⟨L,N,k,j,e,i,x,lk,y⟩;subst x;obtain⟨rs,c,rk⟩:=mE (P:=X.prog) (w:=X.w) j;obtain⟨z,hd,vs0,r0,dd⟩:=rT k.hok e;cases r0;refine⟨rs,c,dd,λM l A=>⟨.ref s.heap.objs.size,_,?_,rfl,y⟩⟩;have C:(Bv [] i).length<=sizeLine:=by
  have D:=iA i [];rw[List.length_nil]at D;rw[QM];lia
 have E:∃q,M.get? s.heap.objs.size=some q:=let ⟨q,_,_,hq,_⟩:=l;⟨q,hq⟩
 exact dX k (by rw[e];exact True.intro) A E (mY C hd (rk.merge .nil) l)
structure M2(X:Cx)(o:Expr)(m:Str)(apos:Pos)(e f:Expr)(cpos:Pos):Prop where
 base:attributeBase o m X.env (eval o X.env)=eval o X.env
 few:((backTo cpos (starEach [e,f] X.env)).all (λx=> !x.1)&&(backToKw cpos (keywordEach [] X.env)).all (λx=>x.1.isSome)
  &&decide (([e,f]:List Expr).length+([]:List Keyword).length+(if([]:List Keyword).isEmpty then 0 else 1)<30))=true
 line:(apos.endLine==cpos.line)=true
 trees:backTo cpos (starEach [e,f] X.env)=[(false,eval e X.env),(false,eval f X.env)]
def Js(H:Hp)(a:Addr):Prop:=(∃kvs,Rd H a (.dK kvs))\/∃kvs,Rd H a (.dT kvs)
theorem Nb(I:Inv X B Z H s)(d:Js H a):
  s.TypeIs (.ref a) "dict"/\(∀b,Value.ref a=.ref b->∃ob,s.heap.get? b=some ob/\ob.dict=none)/\(a==sysModules)=false:=by
 rcases d with⟨c,e⟩|⟨c,e⟩
 ·obtain⟨_,hd,vs,_,dd⟩:=kQ I.hok e;refine⟨dd.typeIs,λb q=>?_,hd⟩;cases q;obtain⟨ob,_,_,O,Y,_⟩:=dd;exact⟨ob,O,Y.2.1⟩
 ·obtain⟨_,hd,xs,_,dd⟩:=oM I.hok e;refine⟨dd.typeIs,λb q=>?_,hd⟩;cases q;obtain⟨ob,_,_,O,Y,_⟩:=dd;exact⟨ob,O,Y.2.1⟩
end L2
namespace Nc
open PySem PySem.W PySem.Calls PyProof.Rows
theorem lM{P:Params}:∀(ns:List Int)(vs:Qbp),WellAll P h vs (ns.map WData.int)->IntsAre vs ns:=by
 intro ns
 induction ns with
 |nil=>
  intro vs w;rw[List.map_nil]at w;cases w;exact .nil
 |cons n ns ih=>
  intro vs w;rw[xA]at w;cases w with
  |cons a b=>
   cases a;exact .cons _ _ (ih _ b)
theorem wO{l:OpenLaw}(g:l.most=some n){P:Params}{args:List WData}{vals:Qbp}
  (e:l.row.toRowW.claim.pre args=true) (i:WellAll P h vals args):
  ∃a vs ns,vals=[Value.ref a]/\args=[WData.list (ns.map WData.int)]/\h.get? a=some {cls:=.type "list",data:=.seq vs.toArray}/\IntsAre vs ns/\ns.length<=n:=by
 have j:WShape.hasAll [] args [.list .int]=true:=(pre_splitW e).1;have f:l.pre.holds [] {args:=args}=true:=(pre_splitW e).2;obtain⟨d,r,rfl,O,Y⟩:=hasAllW_cons j;obtain rfl:=hasAllW_nil Y;obtain⟨xs,rfl,h3⟩:=hasW_list O;obtain⟨ns,rfl⟩:=items_int h3;have k:ns.length<=n:=by
  unfold OpenLaw.pre at f;have b:(WTm.not (.lt (.lit (.int (n:Int))) (.len (.arg 0)))).holds [] {args:=[.list (ns.map .int)]}=true:=by
   have b:=(holds_andW f).1;rw[g]at b;exact b
  have c:=condW_of b (w_not (w_lt w_lit (w_len_list (w_arg rfl))));rw[Ql]at c;refine Nat.le_of_not_lt λq=>?_;have m:(n:Int)<((ns.length:Nat):Int):=by lia
  first
   |(rw[Qw m]at c;exact absurd c (by decide))
   |(simp at c;lia)
 cases i with
 |cons w1 w2=>
  cases w2;cases w1 with
  |list ho Bw=>exact⟨_,_,ns,rfl,rfl,ho,lM ns _ Bw,k⟩
theorem yL(l:OpenLaw)(args:List WData):l.row.toRowW.claim.post args (.bool true) args=true:=
 postW_of (r:=l.row.toRowW) (X:=(true==true))
  (show WShape.has [] (.bool true) .bool=true by first|rfl|decide|simp[WShape.has,WShape.arms,WShape.armsAll])
  (show(WTm.eq .res (.lit (.bool true))).value [] {args:=args,res:=some (.bool true),after:=args}=some (.bool (true==true))from w_eq_bool (w_res rfl) w_lit) rfl
theorem rW {l:OpenLaw} {q:Program} {loose:Qbo} {YP:World->Heap->Prop} {d:DefRec}
  (p:l.most=some n) (s:d.params.defaults=[])
  (call:∀ (w:World) (c b:Shared) (h j:Str->Qbr) (g:Addr) (o:Obj) (k i e:Value) (a:Addr) (vs:Qbp) (ns:List Int),
   Ground q loose [] XP w c h j b.heap->YP w b.heap->
   b.heap.get? g=some o->o.data=.func (docDef d.name d.params d.body d.scope k i e)->b.heap.CodeRec i d.name->h d.name=some (.ref g)->
   b.heap.get? a=some {cls:=.type "list",data:=.seq vs.toArray}->IntsAre vs ns->ns.length<=n->b.gens=#[]->
   codeAny (model l.prog w) callerA (.call (.ref g) ⟨[.ref a],[]⟩) (λr s'=>r=.ok (.ret (.bool true))/\OldK b.heap s'.heap/\s'.os=b.os/\AllBare s'.gens) b):
  WalkO q loose XP YP l.row.toRowW d [] (λf vs=>PySem.call f vs):=by
 intro w c b h j G Y g o k i e t kV u x y m z A args vals V C D E H Nd
 obtain rfl:t=.none:=Dflts.none m s
 obtain rfl:kV=.none:=Dflts.noKw m
 obtain ⟨a,vs,ns,rfl,rfl,I,K,L⟩:=wO p C H
 refine enter_call (codeAny_mono (call w c b h j g o k i e a vs ns G Y u (fd_plain x) y z I K L A) λr s' N=>?_)
 obtain ⟨rfl,P,Q,R⟩:=N
 exact ⟨.inl ⟨.bool true,.bool true,[],rfl,λ_=>rfl,.bool true,yL l _,λ_=>⟨List.Pairwise.nil,λ_ T=>(nomatch T)⟩⟩,P,Q,R⟩
end Nc
namespace L2
open PySem PySem.Spec PyProof.Rows
theorem oP:∀{vs:Qbp}{ns:List Int},IntsAre vs ns->bg (ns.map V.int) vs
 |_,_,.nil=>.nil
 |_,_,.cons n t h=>.cons ⟨t,rfl⟩ (oP h)
def inClass(s:Stmt)(j:Nat):Stmt:=match s with
 | .ClassDef _ _ _ body _ _ _ _ _ _ _=>body.getD j (.Pass ⟨0,0,0,0⟩)
 |_=>.Pass ⟨0,0,0,0⟩
def qy(s:Stmt):Arguments:=match s with
 | .FunctionDef _ a _ _ _ _ _ _ _ _=>a
 |_=>{posonlyargs:=[],args:=[],vararg:=none,kwonlyargs:=[],kw_defaults:=[],kwarg:=none,defaults:=[]}
def mh(s:Stmt):List Stmt:=match s with
 | .FunctionDef _ _ b _ _ _ _ _ _ _=>b
 |_=>[]
def cg(s:Stmt):Scope:=match s with
 | .FunctionDef _ _ _ _ _ _ F _ _ _=>F
 |_=>{kind:=.function,names:=[],isGenerator:=false,isCoroutine:=false}
abbrev zc:yx:=λ_ _ _ _ _ _=>False
abbrev E0:XK:=λ_ _ _=>False
theorem Fc:Br zc X E0:=λ_ _ _ _ _ _ _ h=>h.elim
structure AM(K:Q0)(x qual:Str)(st:Stmt)(f:Addr)(fd:FuncData):Prop where
 ex:∃(oc:Value)(od:Option Addr)(kV doc pm:Value)(an:Option Addr)(bc ct:Value)(tq:Array Qbr),
  fd=PySem.W.fnOf x qual (qy st) (mh st) (cg st) .none kV doc pm an bc ct/\K.lookup f=some ⟨oc,od,.func fd,tq⟩/\PySem.W.codeIn K bc qual=true
 kp:PySem.W.keepIn K (.ref f)=true
section
variable{K:Q0}
theorem AM.ok {b:Str} {st:Stmt} {f:Addr} {k:Nat} {d:Sp} (F:AM K x b st f fd) (S:fc N ps (cg st)) (e:∀ vs H Q E,d vs H Q E->vs.length=ps.length)
  (g:∀ (c:Value) (A:Around) (a:List Env) (s:Shared) (H:Hp) (vs:Qby) (Q:VK) (E:XK),gb k (A.deeper (envOfC b (cg st) s.heap.objs.size f c))->d vs H Q E->
   ∃ t,sr (Af zc P w K mg base N b (cg st) f c A a s H E).Bo (mh st) t/\t {nx:=λ_ U=>Q .aq U,rt:=Q} (start N vs) H):qg P w K mg base zc (k+1) f fd ps d:=by
 obtain ⟨n,o,kV,i,p,r,c,u,y,rfl,lk,j⟩:=F.ex
 refine Uy lk j S e λA a s H vs Q E l m=>?_
 obtain ⟨t,h,q⟩:=g c A a s H vs Q E l m
 exact ⟨t,h.Bo,q⟩
theorem AM.binds{a:Str}{st:Stmt}{f:Addr}(F:AM K x a st f fd)
  (h:∀(kV b c:Value)(d:Option Addr)(e ct:Value)(us:Qbp),us.length=ps.length->bindArgs (PySem.W.fnOf x a (qy st) (mh st) (cg st) .none kV b c d e ct) ⟨us,[]⟩=pure (ps.zip us)):Binds K fd ps []:=by
 obtain⟨oc,od,kV,b,c,d,e,ct,tq,rfl,lk,su⟩:=F.ex;exact .all (h kV b c d e ct)
theorem Vl{a:Str}{st:Stmt}{f:Addr}{h:Value}{i e:Option Addr}{j:Array Qbr}{kV b g d ct:Value}(l:K.lookup f=some ⟨h,i,.func (PySem.W.fnOf x a (qy st) (mh st) (cg st) .none kV b g e d ct),j⟩)
  (c:PySem.W.codeIn K d a=true) (k:PySem.W.keepIn K (.ref f)=true):AM K x a st f (PySem.W.fnOf x a (qy st) (mh st) (cg st) .none kV b g e d ct):=⟨⟨h,i,kV,b,g,e,d,ct,j,rfl,l,c⟩,k⟩
end
theorem cW{k:Nat}(a:gb k A):A.units+1<cLine:=Nat.lt_of_le_of_lt (Nat.add_le_add_left (by decide:1<=64) _) a.units
theorem Vm(h:n<=1000):n<sizeLine:=Nat.lt_of_le_of_lt h (by decide)
theorem xw{A B:Prop}(h:B):if false=true then A else B:=by
 rw[if_neg yH];exact h
theorem CB{A B:Prop}(h:A):if true=true then A else B:=by
 rw[if_pos rfl];exact h
theorem DM{c A B:Prop}[Decidable c](a:c->A)(b:¬c->B):if c then A else B:=by
 by_cases h:c
 ·rw[if_pos h];exact a h
 ·rw[if_neg h];exact b h
def ae(H U:Hp):Prop:=∀b o,H b=some o->U b=some o
theorem ae.refl(H:Hp):ae H H:=λ_ _ h=>h
theorem ae.trans{d e:Hp}(a:ae H d)(b:ae d e):ae H e:=λc o h=>b c o (a c o h)
theorem ae.free(e:ae H U)(h:U l=Option.none):H l=Option.none:=by
 cases q:H l with
 |none=>rfl
 |some o=>
  rw[e l o q]at h;cases h
section
variable[DecidableEq κ]
theorem Vn{kvs:List (κ×V)}{k:κ}(h:a_ kvs k=none):¬k∈kvs.map (·.1):=by
 intro m;obtain⟨p,hp,e⟩:=Yy.mp m;have q:(kvs.any λa=>decide (a.1=k))=true:=Qa6.mpr ⟨p,hp,Qw e⟩;rw[cS,h]at q;exact absurd q (by simp)
theorem fY{kvs:List (κ×V)}{k:κ}{v:V}(h:a_ kvs k=some v):k∈kvs.map (·.1):=by
 have q:(kvs.any λa=>decide (a.1=k))=true:=by
  rw[cS,h]
  all_goals rfl
 obtain⟨p,hp,e⟩:=Qa6.mp q;exact Yy.mpr ⟨p,hp,Qt e⟩
end
theorem iM{env:Env}:∀(names:List (Str×NameKind))(a:List (Str×Addr)),
  (∀y∈names,y.2=.free->∃c,env.cells.lookup y.1=some c)->(∀x c,a.lookup x=some c->env.cells.lookup x=some c)->
  ∃b,(forIn names a fun(x:Str×NameKind)j=>(if(x.2==NameKind.free)=true then(do let c <- cellOf env x.1;pure (ForInStep.yield ((x.1,c)::j)))else pure (ForInStep.yield j):Sem (ForInStep (List (Str×Addr)))))=pure b/\
   (∀x c,b.lookup x=some c->env.cells.lookup x=some c)/\(∀y∈names,y.2=.free->∃c,b.lookup y.1=some c)/\(∀x c,a.lookup x=some c->∃c,b.lookup x=some c)
 | [],a,_,ha=>⟨a,rfl,ha,(λ_ h=>nomatch h),λx c h=>⟨c,h⟩⟩
 |(n,k)::r,a,h,ha=>by
  rw[List.forIn_cons];by_cases hk:k=.free
  ·obtain⟨c,hc⟩:=h (n,k) xX hk;have l:cellOf env n=pure c:=by unfold cellOf;rw[show env.cells.lookup n=some c from hc]
   have m:∀x d,((n,c)::a).lookup x=some d->env.cells.lookup x=some d:=λx d f=>by
    rw[Qal]at f;cases e:x==n with
    |true=>rw[e]at f;cases f;rw[eq_of_beq e];exact hc
    |false=>rw[e]at f;exact ha x d f
   obtain⟨b,e,O,Y,h3⟩:=iM r ((n,c)::a) (λy hy=>h y (Qh _ hy)) m;refine⟨b,?_,O,λy hy g=>?_,λx d f=>?_⟩
   ·have i:(k==NameKind.free)=true:=by rw[hk];rfl
    simp only[i,if_true,l,pure_bind];exact e
   ·rcases Qp.mp hy with z|hy
    ·rw[z];exact h3 n c (by simp[Qal])
    ·exact Y y hy g
   ·cases e2:x==n with
    |true=>exact h3 x c (by simp[Qal,e2])
    |false=>exact h3 x d (by simp[Qal,e2,f])
  ·have i:(k==NameKind.free)=false:=by simpa using hk
   obtain⟨b,e,O,Y,h3⟩:=iM r a (λy hy=>h y (Qh _ hy)) ha;refine⟨b,?_,O,λy hy g=>?_,h3⟩
   ·simp only[i,Qak,if_false,pure_bind];exact e
   ·rcases Qp.mp hy with z|hy
    ·rw[z]at g;exact absurd g hk
    ·exact Y y hy g
theorem tY(h:∀y∈F.names,y.2=.free->∃c,env.cells.lookup y.1=some c):
  ∃a,closureFor F env=pure a/\(∀x c,a.lookup x=some c->env.cells.lookup x=some c)/\(∀y∈F.names,y.2=.free->∃c,a.lookup y.1=some c):=by
 obtain⟨a,e,O,Y,_⟩:=iM (env:=env) F.names [] h (λ_ _ h=>nomatch h);refine⟨a,?_,O,Y⟩;unfold closureFor;have d:(forIn F.names ([]:List (Str×Addr)) fun(x:Str×NameKind)b=>(if(x.2==NameKind.free)=true then(do let c <- cellOf env x.1;pure (ForInStep.yield ((x.1,c)::b)))else pure (ForInStep.yield b):Sem (ForInStep (List (Str×Addr))))) >>=(λb=>(pure b:Sem _))=pure a:=by rw[e];rfl
 exact d
theorem dU{env:Env}:∀{names:List (Str×NameKind)}{x:Str},names.lookup x=some .free->
  (names.map fun(n,k)=>if(k==NameKind.free&&env.scope.kind==.function&&env.kindOf n==some .cell)then(n,NameKind.cell)else(n,k)).lookup x=some .cell\/
  (names.map fun(n,k)=>if(k==NameKind.free&&env.scope.kind==.function&&env.kindOf n==some .cell)then(n,NameKind.cell)else(n,k)).lookup x=some .free
 | [],_,h=>by simp at h
 |(n,k)::r,x,h=>by
  have ih:=@dU env r x;show List.lookup x ((if(k==NameKind.free&&env.scope.kind==.function&&env.kindOf n==some .cell)=true then(n,NameKind.cell)else(n,k))::_)=_\/List.lookup x ((if(k==NameKind.free&&env.scope.kind==.function&&env.kindOf n==some .cell)=true then(n,NameKind.cell)else(n,k))::_)=_;cases hx:x==n with
  |true=>
   simp only[Qal,hx]at h;cases h;by_cases hc:(NameKind.free==NameKind.free&&env.scope.kind==.function&&env.kindOf n==some .cell)=true
   ·rw[if_pos hc];simp[Qal,hx]
   ·rw[if_neg hc];simp[Qal,hx]
  |false=>
   simp only[Qal,hx]at h;by_cases hc:(k==NameKind.free&&env.scope.kind==.function&&env.kindOf n==some .cell)=true
   ·rw[if_pos hc];simp only[Qal,hx];exact ih h
   ·rw[if_neg hc];simp only[Qal,hx];exact ih h
theorem kZ{names:List (Str×NameKind)}{k:NameKind}
  (h:(names.map fun(n,k)=>if(k==NameKind.free&&env.scope.kind==.function&&env.kindOf n==some .cell)then(n,NameKind.cell)else(n,k)).lookup x=some k) (a:k=.cell\/k=.free) (b:∀y∈names,y.2≠.cell):(x,NameKind.free)∈names:=by
 have c:=QaQ h;obtain⟨⟨n,k'⟩,O,Y⟩:=Yy.mp c;dsimp only at Y;split at Y
 ·next hh=>
  cases Y;have:k'=.free:=by
   simp only[QaM,beq_iff_eq]at hh;exact hh.1.1
  rw[<- this];exact O
 ·cases Y;rcases a with z|z
  ·exact absurd z (b _ O)
  ·rw[<- z];exact O
abbrev cy(X:Cx)(N':Qbo)(F:Scope)(cl:List (Str×Addr))(C:Addr)(s3:Shared)(H0:Hp)(fp:Qbq)(pn:List (Addr×Obj)):Cx where
 prog:=X.prog
 w:=X.w
 K:=X.K
 mg:=X.mg
 base:=X.base
 A:=X.A
 N:=N'
 s₀:=s3
 H₀:=H0
 env:=compEnvC F cl C X.env
 outer:=X.stack
 stack:=X.stack
 ex:=fp
 fn:=λ_=>false
 calm:=X.calm
 pn:=pn
 xe:=λ_ _=>False
structure pq(zd:Scope)(oN:Qbo)(F:Scope)(own:Qbo)(idx:Qbs)(N':Qbo):Prop where
 kind:F.kind=.function
 cell:∀y∈F.names,y.2≠.cell
 names:∀y∈F.names,y.2=.local->F.names.lookup y.1=some .local
 free:∀y∈F.names,y.2=.free->(zd.names.lookup y.1=some .cell\/zd.names.lookup y.1=some .free)
 seen:∀j∈idx,F.names.lookup (oN.getD j "")=some .free/\j<oN.length
 nn:N'=own++idx.map (λj=>oN.getD j "")
def ze(own:Qbo)(idx:Qbs)(Z:St):St:=List.replicate own.length none++idx.map λj=>(Z[j]?).join
section
variable{H2:Hp}{s2:Shared}
theorem Vp{A:List (Str×Addr)}{t:Heap}{ob:Obj}{g:HO}{t4:Nat}(S:pq X.env.scope X.N F own idx N')(I:Inv X B Z H2 s2)(G:∀b∈fp,uv X B H2 b)(Fd:∀b∈fp,∃o,s2.heap.get? b=some o)
  (c1:∀x c,A.lookup x=some c->X.env.cells.lookup x=some c) (c2:∀y∈F.names,y.2=.free->∃c,A.lookup y.1=some c) (hob:ob.isFreed=false)
  (hD:∀(H:Hp)(h:Heap),h.get? s2.heap.objs.size=some ob->bx X.prog X.w H h s2.heap.objs.size g)
  (ns:t.Ns (s2.heap.push ob).objs.size (λx=>([]:List (Str×Value)).reverse.lookup x)) (K:∀b o,(s2.heap.push ob).get? b=some o->t.get? b=some o):
  Inv (cy X N' F A (s2.heap.push ob).objs.size {s2 with heap:=s2.heap.push ob} (upd H2 s2.heap.objs.size g) fp (X.pn++B)) [] (ze own idx Z) (upd H2 s2.heap.objs.size g) {s2 with heap:=t,toks:=t4}:=by
 have a:(s2.heap.push ob).objs.size=s2.heap.objs.size+1:=QaS _ _;have Jx:H2 s2.heap.objs.size=none:=I.hok.fresh (Qz _);have L:∀b o,s2.heap.get? b=some o->(s2.heap.push ob).get? b=some o:=λb o e=>Qc _ e;have C:∀b o,s2.heap.get? b=some o->t.get? b=some o:=λb o e=>K b o (L b o e);have Vq:∀b o,s2.heap.get? b=some o->b≠s2.heap.objs.size:=λb o e=>yT (QA e);have D:∀b o,s2.heap.get? b=some o->H2 b=none->upd H2 s2.heap.objs.size g b=none:=λb o e n=>by rw[aB (Vq b o e)];exact n
 have Vr:∀b∈sf X.stack,∃o,s2.heap.get? b=some o:=λb f=>by
  obtain⟨_,o,g,_⟩:=I.stack.mem f;exact⟨o,g⟩
 have Vs:∀x c,A.lookup x=some c->∃o,s2.heap.get? c=some o:=λx c e=>by
  obtain⟨v,o,g,_⟩:=I.cell x c (c1 x c e);exact⟨o,g⟩
 have eD:(s2.heap.push ob).get? s2.heap.objs.size=some ob:=Qd s2.heap hob;have Vt:fg X.prog X.w (upd H2 s2.heap.objs.size g) t:=I.hok.laid C (Qz _) (hD _ _ (K _ _ eD));refine⟨⟨I.ok.mod,S.kind,I.ok.glob,I.ok.blt,Qz _,λx y c P l=>I.ok.inj x y c (c1 x c P) (c1 y c l),λx hx=>?_,(λx c hx _=>nomatch hx),I.ok.hd,I.ok.frames,.inl rfl,λb f=>⟨?_,λx c e=>?_⟩,λb o e=>⟨?_,?_⟩,?_,λb o e f=>?_,λb f=>?_,?_,λb f=>?_⟩,
  rfl,I.bare,Un.kept K,⟨_,ns,λi x v P l h3=>?_⟩,λx c e=>?_,?_,λx c e=>?_,λp hp=>?_,Vt,?_⟩
 ·rcases hx with hx|hx
  ·exact c2 (x,.free) (kZ hx (.inl rfl) S.cell) rfl
  ·exact c2 (x,.free) (kZ hx (.inr rfl) S.cell) rfl
 ·obtain⟨o,e⟩:=Fd b f;have:=QA e;show b≠(s2.heap.push ob).objs.size;rw[a];exact yT (Qaq this)
 ·exact(G b f).2.2.2.2.1 x c (c1 x c e)
 ·exact L b o (I.bk b o e)
 ·exact D b o (I.bk b o e) (I.bs b o e).2
 ·show X.base.objs.size<=(s2.heap.push ob).objs.size;have:=Qag I.ok.AH I.sz;rw[a];lia
 ·obtain⟨f0,f1,f2,f3,f4,f5⟩:=G b f;rcases f3 with z|z
  ·exact I.ok.EU b o e z
  ·exact absurd (QA e) (Nat.not_lt.mpr (Qag I.ok.AH z))
 ·obtain⟨f0,f1,f2,f3,f4,f5⟩:=G b f;intro z;rcases Qp.mp (I.EV b z)with z|z
  ·exact f1 z
  ·exact f2 z
 ·exact Heap.FunFrames.of_keeps (λb o e _=>⟨o,L b o e,rfl⟩) I.stack
 ·obtain⟨o,e⟩:=Vr b f;exact D b o e (I.Mz b f)
 ·unfold ze at l;by_cases hi:i<own.length
  ·rw[Qg (by simpa using hi),List.getElem?_replicate,if_pos hi]at l;cases l
  ·rw[QaF (by simpa using hi),List.length_replicate,Qq]at l;have s:N'[i]? =some x:=P;rw[S.nn,QaF (by simpa using hi),Qq]at s;cases ej:idx[i-own.length]? with
   |none=>rw[ej]at s;cases s
   |some j=>
    rw[ej]at s l;obtain⟨Vu,jw⟩:=S.seen j (QD ej);have hx:X.N[j]? =some x:=by
     have:X.N.getD j ""=x:=QE s;rw[<- this,Qb,Qa jw];rfl
    have hv:Z[j]? =some (some v):=by
     have E:(Z[j]?).join=some v:=QE l;cases q:Z[j]? with
     |none=>rw[q]at E;cases E
     |some w=>rw[q]at E;exact congrArg some E
    have T:F.names.lookup x=some .free:=by
     have:X.N.getD j ""=x:=QE s;rw[<- this];exact Vu
    have Q:(x,NameKind.free)∈F.names:=QaQ T;obtain⟨m,hn,hl⟩:=I.loc;have Vv:Dz X.env.scope x:=by
     rcases S.free _ Q rfl with z|z
     ·exact .inr (.inl z)
     ·exact .inr (.inr z)
    obtain⟨u,r,lk⟩:=hl j x v hx hv Vv;refine⟨u,r,?_⟩;rcases lk with⟨k,_⟩|⟨k,c,e,z⟩
    ·rcases S.free _ Q rfl with q|q
     ·have R:X.env.kindOf x=some .cell:=q;rw[R]at k;cases k
     ·have R:X.env.kindOf x=some .free:=q;rw[R]at k;cases k
    ·obtain⟨c',yt⟩:=c2 (x,.free) Q rfl;have V:=c1 x c' yt;rw[e]at V;cases V;refine .inr ⟨?_,c,yt,?_⟩
     ·rcases dU (env:=X.env) T with q|q
      ·exact .inl q
      ·exact .inr q
     ·obtain⟨o,yq,hd⟩:=z;exact⟨o,C c o yq,hd⟩
 ·obtain⟨v,o,yq,hd⟩:=I.cell x c (c1 x c e);exact⟨v,o,C c o yq,hd⟩
 ·show upd H2 s2.heap.objs.size g (s2.heap.push ob).objs.size=none;rw[aB (by rw[a];exact Qah (Nat.lt_succ_self _))];exact I.hok.fresh (by rw[a];lia)
 ·obtain⟨o,e1⟩:=Vs x c e;exact D c o e1 (I.yp x c (c1 x c e))
 ·have Vw:p∈X.pn++B:=by simpa using hp
  obtain⟨e,n,ne,nf,d⟩:=I.pin p Vw;refine⟨C _ _ e,D _ _ e n,?_,λz=>?_,d⟩
  ·have:=QA e;show p.1≠(s2.heap.push ob).objs.size;rw[a];exact yT (Qaq this)
  ·rcases Qp.mp (I.EV p.1 z)with z|z
   ·exact ne z
   ·exact nf z
 ·show(ze own idx Z).length=N'.length;rw[S.nn];unfold ze;simp
theorem yB{g:List (Str×Addr)}{ob:Obj}{f:HO}{h:St}{d:Shared}(I:Inv X B Z H2 s2)(i:∀b∈fp,uv X B H2 b)(hob:ob.isFreed=false)
  (J:Inv (cy X N' F g (s2.heap.push ob).objs.size {s2 with heap:=s2.heap.push ob} (upd H2 s2.heap.objs.size f) fp (X.pn++B)) [] h U d):
  Inv X B Z U d/\U (s2.heap.push ob).objs.size=none/\(s2.heap.push ob).objs.size≠X.env.locals/\X.s₀.heap.objs.size<=(s2.heap.push ob).objs.size/\
   (∀x c,X.env.cells.lookup x=some c->c≠(s2.heap.push ob).objs.size)/\(∀p∈X.pn++B,p.1≠(s2.heap.push ob).objs.size)/\∃m,d.heap.Ns (s2.heap.push ob).objs.size m:=by
 have a:(s2.heap.push ob).objs.size=s2.heap.objs.size+1:=QaS _ _;have j:Un (sf X.stack) fp H2 (upd H2 s2.heap.objs.size f) s2.heap (s2.heap.push ob):=Un.laid (λb o e=>Qc _ e) (Qz _) (I.hok.fresh (Qz _));have k:Un (sf X.stack) fp (upd H2 s2.heap.objs.size f) U (s2.heap.push ob) d.heap:=J.base;have l:d.os=s2.os:=J.os;refine⟨I.Sn l (j.trans k) J.hok J.bare λb n=>?_,J.free,?_,?_,λx c e z=>?_,λp r z=>?_,let ⟨m,hn,_⟩:=J.loc;⟨m,hn⟩⟩
 ·obtain⟨f0,f1,f2,f3,f4,f5⟩:=i b n;exact⟨f3,f1,f4,f5⟩
 ·rw[a];exact Qah (Qaq I.lt)
 ·have:=I.sz;rw[a];lia
 ·obtain⟨v,q⟩:=I.cell x c e;have:=q.lt;rw[z,a]at this;exact absurd this (Nat.not_lt.mpr (Qbk _))
 ·have:=QA (I.pin p r).1;rw[z,a]at this;exact absurd this (Nat.not_lt.mpr (Qbk _))
end
abbrev jf:Value->Shared->Prop:=λ_ _=>False
theorem Vx {l a:Expr} {scope:Scope} {p:Pos} {z o:Value} (I:Nat->Shared->Prop)
  (q:∀ n s,I n s->wpAny (model prog w) A (pyNext z) (λr b=>match r with
   | none=>R (.ok .next) b
   | some v=>wpAny (model prog w) A (letOwnedTupleGo a z v) (λ_ C=>wpAny (model prog w) A (assign a env v) (λ_ f=>
     wpAny (model prog w) A (forIn ifs true λc r=>if r=true then do let ok <- isTrue c env (eval c env);pure (ForInStep.yield ok) else pure (ForInStep.yield r)) (λok d=>
      if ok=true then wpAny (model prog w) A (eval l env) (λx g=>
       wpAny (model prog w) A (call (.builtin "list.append") [o,x]) (λ_ i=>∃ m,m < n/\I m i) jf g) jf d
      else ∃ m,m < n/\I m d) jf f) jf C) jf b) jf s)
  (n:Nat) (h:I n s):
  codeAny (model prog w) A (.compLoop (.ListComp l [⟨a,iter,ifs,0⟩] scope p) 0 z o env) R s:=by
 refine codeAny_loop rfl I (λn s D=>?_) n h
 show wpAny _ A ((compTurn (.ListComp l [⟨a,iter,ifs,0⟩] scope p) 0 z o env).onRaise (λx=>do noteFrame x env;theTreesLotGoes x)) _ _ s
 refine wpAny_noted ?_
 rw [compTurn_list]
 refine QT (wpAny_standAt (QT (wpAny_mono (q n s D) (λr b j=>?_) λ_ _ e=>e.elim)))
 cases r with
 | none=>exact QU j
 | some v=>
  refine QT (wpAny_mono j (λ_ C E=>?_) λ_ _ e=>e.elim)
  refine QT (wpAny_mono E (λ_ f t=>QT (wpAny_mono t (λok d k=>?_) λ_ _ e=>e.elim)) λ_ _ e=>e.elim)
  cases ok with
  | false=>exact QU ⟨rfl,k⟩
  | true=>
   exact QT (QT (wpAny_mono k (λx g u=>QT (wpAny_mono u (λ_ i y=>QU (QU ⟨rfl,y⟩)) λ_ _ e=>e.elim)) λ_ _ e=>e.elim))
abbrev TC:=St->Hp->(Bool->Hp->Prop)->Prop
def zf(X:Cx)(a:List Expr)(t:TC):Prop:=
 ∀(B:List (Addr×Obj))(s:Shared)(Z:St)(H:Hp)(Q:Bool->Hp->Prop),Inv X B Z H s->t Z H Q->
  wpAny (model X.prog X.w) X.A (forIn a true λc r=>if r=true then do let ok <- isTrue c X.env (eval c X.env);pure (ForInStep.yield ok)else pure (ForInStep.yield r)) (TP X B Z Q) X.xe s
def Fe:TC:=λ_ H Q=>Q true H
theorem Vy:zf X [] Fe:=λa s b H Q I h=>QU ⟨H,I,h⟩
theorem Vz{c:Expr}{t:TT}(h:PT X c t):zf X [c] t:=λa s b H Q I d=>wpAny_tests_one (h a s b H Q I d)
def CD (own:Qbo) (idx:Qbs) (j:TI) (g:TG) (k:TC) (l:TE):TE:=λZ H Q=>j Z H λJ H1=>∀ D,H1 D=none->∃ W:Nat->Nat->St->Hp->Prop,(∃ m,W 0 m (ze own idx Z) (upd H1 D (.lst [])))/\∀ i m d H,W i m d H->
 (J.stop i H/\Q (.ref D) H)\/(J.go i H/\∃ N:St->Hp->Prop,(∀ c U,N c U->∃ e,e < m/\W (i+1) e c U)/\∀ x U,J.pe i H x U->g x d U λa H2=>k a H2 λb f=>
  if b=true then l a f λy h=>∃ xs,h D=some (.lst xs)/\xs.length < sizeLine/\N a (upd h D (.lst (xs++[y]))) else N a f)
section
variable{elt:Expr}{pos:Pos}{wi:TI}{g:TG}{tc:TC}
abbrev VA:Obj:={cls:=.type "list",dict:=none,data:=.seq ([]:Qbp).toArray}
def VB (X:Cx) (f h:Expr) (g:List Expr) (sel:Env->Addr->Shared->(Shared->Prop)->Prop):Prop:=
 ∀ (it:Value) (D:Addr) (env:Env) (R:Result->Shared->Prop) (s:Shared) (I:Nat->Shared->Prop),
  (∀ n s,I n s->wpAny (model X.prog X.w) X.A (pyNext it) (λr a=>match r with
   | none=>R (.ok .next) a
   | some v=>wpAny (model X.prog X.w) X.A (letOwnedTupleGo h it v) (λ_ i=>wpAny (model X.prog X.w) X.A (assign h env v) (λ_ d=>
     wpAny (model X.prog X.w) X.A (forIn g true λc r=>if r=true then do let ok <- isTrue c env (eval c env);pure (ForInStep.yield ok) else pure (ForInStep.yield r)) (λok b=>
      if ok=true then sel env D b (λe=>∃ m,m < n/\I m e) else ∃ m,m < n/\I m b) jf d) jf i) jf a) jf s)->
  ∀ n,I n s->codeAny (model X.prog X.w) X.A (.compLoop f 0 it (.ref D) env) R s
theorem m7 (S:pq X.env.scope X.N F own idx N') {f:List (Str×Addr)} (c1:∀ x c,f.lookup x=some c->X.env.cells.lookup x=some c) (c2:∀ y∈F.names,y.2=.free->∃ c,f.lookup y.1=some c) (hc:X.calm=true)
  {l:Expr} {ob:Obj} {o0:HO} {mk:Sem Value} {sel:Env->Addr->Shared->(Shared->Prop)->Prop} (el:Addr->St->Hp->(Hp->Prop)->Prop) (hob:ob.isFreed=false) (L:VB X l tg ifs sel)
  (al:∀ {env D s} {K K':Shared->Prop},sel env D s K->(∀ s',K s'->K' s')->sel env D s K')
  (qu:∀ it q env R s,codeAny (model X.prog X.w) X.A (.compLoop l 0 it q env) R s->wpAny (model X.prog X.w) X.A (pyIter it) (λFf s'=>codeAny (model X.prog X.w) X.A (.compLoop l 0 Ff q env) R s') (notedBy (model X.prog X.w) X.A env λx s'=>R (.error x) s') s->
   codeAny (model X.prog X.w) X.A (.compStart l 0 it q env) R s)
  (hg:∀ f C s3 H0 fp pn,PG (cy X N' F f C s3 H0 fp pn) tg g) (ht:∀ f C s3 H0 fp pn,zf (cy X N' F f C s3 H0 fp pn) ifs tc)
  (he:∀ f C s3 H0 fp pn B s t H D N,Inv (cy X N' F f C s3 H0 fp pn) B t H s->el D t H N->sel (cy X N' F f C s3 H0 fp pn).env D s λs'=>∃ U,Inv (cy X N' F f C s3 H0 fp pn) B t U s'/\N U)
  {B:List (Addr×Obj)} {Z:St} {Q:VK} {qw:Value} {a:Shared} {RR:Value->Addr->Result->Shared->Prop} {E:Value->Shared->Prop}
  (VC:∀ Q E,Q (.ref a.heap.objs.size) {a with heap:=a.heap.push ob}->wpAny (model X.prog X.w) X.A mk Q E a)
  (VD:∀ U,Inv X B Z U a->∀ (H:Hp) (h:Heap),h.get? a.heap.objs.size=some ob->bx X.prog X.w H h a.heap.objs.size o0)
  (hI:DG X B Z tg (λJ H1=>∀ D,H1 D=none->∃ W:Nat->Nat->St->Hp->Prop,(∃ m,W 0 m (ze own idx Z) (upd H1 D o0))/\∀ i m t H,W i m t H->
   (J.stop i H/\Q (.ref D) H)\/(J.go i H/\∃ N:St->Hp->Prop,(∀ G U,N G U->∃ m',m' < m/\W (i+1) m' G U)/\∀ x U,J.pe i H x U->g x t U λab H2=>tc ab H2 λb H3=>if b=true then el D ab H3 (N ab) else N ab H3)) qw a)
  (Fg:∀ D C U s',Inv X B Z U s'->Q (.ref D) U->(U C=none/\C≠X.env.locals/\X.s₀.heap.objs.size<=C/\(∀ x c,X.env.cells.lookup x=some c->c≠C)/\(∀ p∈X.pn++B,p.1≠C)/\∃ m,s'.heap.Ns C m)->RR (.ref D) C (.ok .next) s'):
  wpAny (model X.prog X.w) X.A mk (λq am=>wpAny (model X.prog X.w) X.A (newFunctionEnv F X.env.globals f [] X.env.qual none .none (some X.env)) (λag an=>
   codeAny (model X.prog X.w) X.A (.compStart l 0 qw q {ag with scope:=relabel F X.env}) (RR q ag.locals) an) E am) E a:=by
 obtain ⟨it,fp,tn,J,H2,rfl,I,T,Ad,f2,ap⟩:=hI
 refine VC _ _ (wpAny_newFunctionEnv S.cell (by intro y hy;simp at hy) (λh4 ns sb=>?_) S.kind)
 dsimp only at ns sb ⊢
 have fr:H2 a.heap.objs.size=none:=I.hok.fresh (Qz _)
 obtain ⟨W,⟨m0,w0⟩,aq⟩:=ap _ fr
 have Fd:∀ b∈fp,∃ o,a.heap.get? b=some o:=λb j=>let ⟨o,e,_⟩:=T.obj _ _ Ad b j;⟨o,e⟩
 have DP:∀ b o,(a.heap.push ob).get? b=some o->h4.get? b=some o:=λb o e=>(sb.2 b (yT (QA e))).trans (Qc _ e)
 have VE:=VD _ I
 have I4:Inv (cy X N' F f (a.heap.push ob).objs.size {a with heap:=a.heap.push ob} (upd H2 a.heap.objs.size o0) fp (X.pn++B)) [] (ze own idx Z) (upd H2 a.heap.objs.size o0) {a with heap:=h4,toks:=a.toks+([]:List (Str×Value)).length}:=
  Vp S I f2 Fd c1 c2 hob VE ns DP
 -- MR adi own context
 generalize k:cy X N' F f (a.heap.push ob).objs.size {a with heap:=a.heap.push ob} (upd H2 a.heap.objs.size o0) fp (X.pn++B)=Y at I4
 have VF:PG Y tg g:=by rw [<- k];exact hg _ _ _ _ _ _
 have VG:zf Y ifs tc:=by rw [<- k];exact ht _ _ _ _ _ _
 have VH:∀ B s t H D N,Inv Y B t H s->el D t H N->sel Y.env D s λs'=>∃ U,Inv Y B t U s'/\N U:=by rw [<- k];exact he _ _ _ _ _ _
 have pY:Y.prog=X.prog:=by rw [<- k]
 have wY:Y.w=X.w:=by rw [<- k]
 have KY:Y.K=X.K:=by rw [<- k]
 have AY:Y.A=X.A:=by rw [<- k]
 have cY:Y.calm=true:=by rw [<- k];exact hc
 have xY:Y.xe=λ_ _=>False:=by rw [<- k]
 have eY:Y.env=compEnvC F f (a.heap.push ob).objs.size X.env:=by rw [<- k]
 have VI:Y.ex=fp:=by rw [<- k]
 have VJ:Y.fs=sf X.stack:=by rw [<- k]
 have VL:Y.pn=X.pn++B:=by rw [<- k]
 have Ci:∀ {U:Hp},(∀ b∈fp,U b=none)->∀ b∈fp,uv Y [] U b:=λhn b j=>by
  obtain ⟨f0,f1,f3,f4,f5,f6⟩:=f2 b j
  refine ⟨hn b j,?_,?_,.inl (by rw [VI];exact j),λx c e=>?_,λp hp=>?_⟩
  ·obtain ⟨o,e⟩:=Fd b j
   have:=QA e
   rw [eY]
   show b≠(a.heap.push ob).objs.size
   rw [QaS];exact yT (Qaq this)
  ·rw [VJ]
   intro z
   rcases Qp.mp (I.EV b z) with z | z
   ·exact f1 z
   ·exact f3 z
  ·rw [eY] at e
   exact f5 x c (c1 x c e)
  ·rw [VL,QR] at hp
   exact f6 p hp
 have Ng:tn 0 h4:=T.keep _ _ _ Ad λb j o e=>DP b o (Qc _ e)
 have Fi:∀ b∈fp,upd H2 a.heap.objs.size o0 b=none:=λb j=>by
  obtain ⟨o,e⟩:=Fd b j
  rw [aB (yT (QA e))]
  exact (f2 b j).1
 have ah:codeAny (model X.prog X.w) X.A (.compLoop l 0 (.ref it) (.ref a.heap.objs.size) (compEnvC F f (a.heap.push ob).objs.size X.env))
   (RR (.ref a.heap.objs.size) (a.heap.push ob).objs.size) {a with heap:=h4,toks:=a.toks+([]:List (Str×Value)).length}:=by
  refine L _ _ _ _ _ (λn s'=>∃ i t U,Inv Y [] t U s'/\tn i s'.heap/\(∀ b∈fp,U b=none)/\W i n t U) ?_ m0 ⟨0,_,_,I4,Ng,Fi,w0⟩
  rintro n s3 ⟨i,af,H3,I3,EY,yw,w3⟩
  rcases aq i n af H3 w3 with ⟨stop,qn⟩ | ⟨go,N,hN,ar⟩
  ·have h:=T.done Y pY wY KY cY i [] s3 af H3 jf I3 (Ci yw) EY stop
   rw [AY] at h
   refine av h ?_
   rintro r s4 ⟨hr,VM⟩
   subst hr
   have J4:=VM
   rw [<- k] at J4
   obtain ⟨b1,b2⟩:=yB I f2 hob J4
   exact Fg _ _ _ _ b1 qn b2
  ·have h:=T.item Y pY wY KY cY i [] s3 af H3 jf I3 (Ci yw) EY go
   rw [AY] at h
   refine av h ?_
   rintro r s4 ⟨u,hr,VN⟩
   subst hr
   refine av VN ?_
   rintro _ s5 ⟨x,H5,I5,r5,y5,Ck,Je⟩
   have Jf:=I5.pinned (Ci Je) (T.obj _ _ Ck)
   have g5:=VF _ s5 af H5 x u _ Jf r5 (ar x H5 y5)
   rw [pY,wY,AY,xY,eY] at g5
   refine av g5 ?_
   rintro _ s6 ⟨as,H6,I6,q6⟩
   have t6:=VG _ s6 as H6 _ I6 q6
   rw [pY,wY,AY,xY,eY] at t6
   refine av t6 ?_
   rintro ok s7 ⟨H7,I7,q7⟩
   have P:∀ {V:St} {H8:Hp} {s8:Shared},Inv Y ([]++EX fp s5.heap) V H8 s8->N V H8->∃ m,m < n/\∃ i G U,Inv Y [] G U s8/\tn i s8.heap/\(∀ b∈fp,U b=none)/\W i m G U:=λ{V H8 s8} I8 n8=>by
    obtain ⟨m',hm,w8⟩:=hN V H8 n8
    refine ⟨m',hm,i+1,V,H8,I8.GJ,T.keep _ _ _ Ck λb j o e=>(I8.pin (b,o) (Qap _ (Qap _ (fT j e)))).1,λb j=>?_,w8⟩
    obtain ⟨o,e,d⟩:=T.obj _ _ Ck b j
    exact (I8.pin (b,o) (Qap _ (Qap _ (fT j e)))).2.1
   cases ok with
   | false=>
    rw [if_neg (by decide)] at q7 ⊢
    exact P I7 q7
   | true=>
    rw [if_pos rfl] at q7 ⊢
    have e7:=VH _ s7 as H7 a.heap.objs.size _ I7 q7
    rw [eY] at e7
    exact al e7 λs8 ⟨H8,I8,n8⟩=>P I8 n8
 exact qu _ _ _ _ _ ah (T.self _ 0 _ _ _ Ng ah)
theorem nJ (S:pq X.env.scope X.N F own idx N') {a:List (Str×Addr)} (c1:∀ x c,a.lookup x=some c->X.env.cells.lookup x=some c) (c2:∀ y∈F.names,y.2=.free->∃ c,a.lookup y.1=some c) (hc:X.calm=true)
  (hg:∀ a C j H0 fp pn,PG (cy X N' F a C j H0 fp pn) tg g) (ht:∀ a C j H0 fp pn,zf (cy X N' F a C j H0 fp pn) ifs tc) (he:∀ a C j H0 fp pn,PE (cy X N' F a C j H0 fp pn) elt te)
  {B:List (Addr×Obj)} {Z:St} {Q:VK} {P:Value} {T:Shared} {RR:Value->Addr->Result->Shared->Prop} {E:Value->Shared->Prop}
  (hI:DG X B Z tg (λJ H1=>∀ D,H1 D=none->∃ W:Nat->Nat->St->Hp->Prop,(∃ m,W 0 m (ze own idx Z) (upd H1 D (.lst [])))/\∀ i m o H,W i m o H->
   (J.stop i H/\Q (.ref D) H)\/(J.go i H/\∃ N:St->Hp->Prop,(∀ r U,N r U->∃ V,V < m/\W (i+1) V r U)/\∀ x U,J.pe i H x U->g x o U λf H2=>tc f H2 λb H3=>
    if b=true then te f H3 λy t=>∃ xs,t D=some (.lst xs)/\xs.length < sizeLine/\N f (upd t D (.lst (xs++[y]))) else N f H3)) P T)
  (Fg:∀ D C U s',Inv X B Z U s'->Q (.ref D) U->(U C=none/\C≠X.env.locals/\X.s₀.heap.objs.size<=C/\(∀ x c,X.env.cells.lookup x=some c->c≠C)/\(∀ p∈X.pn++B,p.1≠C)/\∃ m,s'.heap.Ns C m)->RR (.ref D) C (.ok .next) s'):
  wpAny (model X.prog X.w) X.A (newList []) (λu z=>wpAny (model X.prog X.w) X.A (newFunctionEnv F X.env.globals a [] X.env.qual none .none (some X.env)) (λl d=>
   codeAny (model X.prog X.w) X.A (.compStart (.ListComp elt [⟨tg,iter,ifs,0⟩] F pos) 0 P u {l with scope:=relabel F X.env}) (RR u l.locals) d) E z) E T:=by
 refine m7 (ob:=VA) (sel:=λenv D s K=>wpAny (model X.prog X.w) X.A (eval elt env) (λx d=>wpAny (model X.prog X.w) X.A (call (.builtin "list.append") [.ref D,x]) (λ_ G=>K G) jf d) jf s) (o0:=.lst []) (el:=λD o H K=>te o H λy t=>∃ xs,t D=some (.lst xs)/\xs.length < sizeLine/\K (upd t D (.lst (xs++[y])))) S c1 c2 hc (hob:=rfl)
  (λit D env R s I L n h=>Vx I L n h) (λh k=>av h λ_ _ h=>av h λ_ _ h=>k _ h) (λ_ _ _ _ _=>codeAny_compStart_list) hg ht (λa C j H0 fp pn B s o H D N I q=>?_) (λQ E h=>wpAny_newObj_type h) (λU I H h e=>⟨Qaj _,[],_,.nil,e⟩) hI Fg
 refine av (he a C j H0 fp pn _ s o H _ I q) ?_
 rintro yv s8 ⟨y,H8,I8,r8,xs,VO,hz,n8⟩
 exact av (bE (X:=cy X N' F a C j H0 fp pn) _ s8 o H8 (.ref D) [y] (.ref D) [yv] (λv U=>N U) I8 rfl (.cons r8 .nil) ⟨_,xs,y,rfl,rfl,VO,hz,n8⟩) λ_ s9 ⟨_,H9,I9,_,n9⟩=>⟨H9,I9,n9⟩
theorem pq.closure(S:pq X.env.scope X.N F own idx N')(ok:X.Ok):∃a,closureFor F X.env=pure a/\(∀x c,a.lookup x=some c->X.env.cells.lookup x=some c)/\(∀y∈F.names,y.2=.free->∃c,a.lookup y.1=some c):=
 tY λy b d=>ok.has _ (S.free y b d)
theorem VP(S:pq X.env.scope X.N F own idx N')(i:X.calm=true)(hi:PI X tg iter wi)
  (j:∀a C c H0 fp d,PG (cy X N' F a C c H0 fp d) tg g) (k:∀a C c H0 fp d,zf (cy X N' F a C c H0 fp d) ifs tc) (l:∀a C c H0 fp d,PE (cy X N' F a C c H0 fp d) elt te)
  (hs:∀x,foldedSetIterable iter X.env x=pure x:=by intro _;rfl):PE X (.ListComp elt [⟨tg,iter,ifs,0⟩] F pos) (CD own idx wi g tc te):=by
 intro B s Z H Q I h;obtain⟨a,AN,c1,c2⟩:=S.closure I.ok;rw[eval_ListComp];refine wpAny_comprehension_free (use:=none) rfl hs AN S.kind S.names (av (hi B s Z H _ I h) λv T n=>av n λV s2 p=>?_);refine nJ (Q:=Q) (B:=B) (Z:=Z) (RR:=λf C=>compPost (model X.prog X.w) X.A X.xe none (EP X B Z Q) f C) S c1 c2 i j k l p ?_;intro D C r t u q ⟨y,z,E,G,K,m,L⟩;exact⟨m,L,λM P=>⟨.ref D,r,u.turned (t':=t.toks) (λb o R e=>(P.2 b R).trans e) y (Ne.symm (Ne.symm z)) (.inr E) G K,rfl,q⟩⟩
theorem VQ{y:Str}{d c:Pos}(S:pq X.env.scope X.N F own idx N')(G:X.calm=true)(hi:PI X tg iter wi)
  (K:∀f C j H0 fp k,PG (cy X N' F f C j H0 fp k) tg g) (L:∀f C j H0 fp k,zf (cy X N' F f C j H0 fp k) ifs tc) (P:∀f C j H0 fp k,PE (cy X N' F f C j H0 fp k) elt te)
  (R:X.N.Nodup) (T:X.N[i]? =some y) (r:X.env.scope.names.lookup y=some .local)
  (V:swapsWith (.ListComp elt [⟨tg,iter,ifs,0⟩] F pos) (some (.Name y d)) c.line X.env=pure true:=by rfl)
  (hs:∀x,foldedSetIterable iter X.env x=pure x:=by intro _;rfl):PS X (.Assign [.Name y d] (.ListComp elt [⟨tg,iter,ifs,0⟩] F pos) c) (Ac (CD own idx wi g tc te) (n_ i)):=by
 intro B s Z H D I h;obtain⟨f,AN,c1,c2⟩:=S.closure I.ok;rw[exec_Assign_Name_used _ _ _ _ V];refine QT (wpAny_standAt (QT ?_));show wpAny _ X.A (do let _ <- comprehension (.ListComp elt [⟨tg,iter,ifs,0⟩] F pos) F X.env _ (newList []) false (eval iter X.env) (some (assign (.Name y d) X.env))) _ _ s;refine QT (wpAny_mono (wpAny_comprehension_free (use:=some (assign (.Name y d) X.env)) (Q:=λ_ l=>SP X B D .next l) rfl hs AN S.kind S.names
  (av (hi B s Z H _ I h) λv s1 O=>av O λqw s2 Y=>?_)) (λ_ l hq=>QU (QU hq)) λ_ _ e=>e)
 refine nJ (Q:=λx H1=>n_ i x Z H1 D.nx) (B:=B) (Z:=Z) (RR:=λn C=>compPost (model X.prog X.w) X.A X.xe (some (assign (.Name y d) X.env)) (λ_ l=>SP X B D .next l) n C) S c1 c2 G K L P Y ?_;intro t C U l I' q ⟨a1,u,a3,E,a5,m,a6⟩;show wpAny _ X.A (assign (.Name y d) X.env (.ref t)) _ _ _;refine wpAny_assign_Name (kG (v:=.ref t) I' R T (.inl r) rfl ?_ (.inr r));rintro p Jz ⟨a,sb,ha⟩;have JA:C≠a:=by
  rcases ha with z|z
  ·rw[z];exact u
  ·exact Ne.symm (E _ _ z)
 refine⟨m,a6.sameBut sb JA,λM DP=>⟨_,U,Jz.turned (t':=p.toks) (λb o hb e=>(DP.2 b hb).trans e) a1 u (.inr a3) E a5,q⟩⟩
end
def tV(i:Nat):TE:=λZ H Q=>match Z[i]? with|some (some v)=>Q v H|_=>False
theorem VR(i:Nat){b:Pos}(c:X.N[i]? =some x:=by rfl)(hv:Dz X.env.scope x:=by first|exact Or.inl rfl|exact Or.inr (Or.inl rfl)|exact Or.inr (Or.inr rfl))(d:QbE x:=by decide)(f:(x==("__classdict__":Str))=false:=by decide):PE X (.Name x b) (tV i):=by
 intro a s g H Q I h;refine Sq c hv d f a s g H Q I ?_;unfold tV at h;split at h
 ·next v e=>exact⟨v,e,h⟩
 ·exact h.elim
def G1:R2:=λx y H Q=>match x,y with
 | .int i,.int j=>Q (.int (i+j)) H
 | .str i,.str j=>i.length+j.length<=sizeLine/\Q (.str (i++j)) H
 | .ref l,.ref b=>(∃xs zs,H l=some (.lst xs)/\H b=some (.lst zs)/\xs.length+zs.length<=sizeLine/\∀p,H p=none->Q (.ref p) (upd H p (.lst (xs++zs))))
 |_,_=>False
theorem bH:dj X (binaryOp .Add) G1:=by
 intro a s b H x y v u Q I c d h;cases x<;>cases y<;>first
  |exact(show False from h).elim
  |exact Tt a s b H _ _ v u Q I c d ⟨_,_,rfl,rfl,h⟩
  |exact uN a s b H _ _ v u Q I c d ⟨_,_,rfl,rfl,h.1,h.2⟩
  |(obtain⟨xs,zs,O,Y,h3,h4⟩:=h;exact U9 a s b H _ _ v u Q I c d ⟨_,_,xs,zs,rfl,rfl,O,Y,h3,h4⟩)
def VS:R2:=λx y H Q=>match x,y with| .int i,.int j=>GO i j/\Q (.int (i*j)) H|_,_=>False
theorem dW:dj X (binaryOp .Mult) VS:=by
 intro a s b H x y v u Q I c d h;cases x<;>cases y<;>first
  |exact(show False from h).elim
  |exact Tu a s b H _ _ v u Q I c d ⟨_,_,rfl,rfl,h.1,h.2⟩
def VT:R2:=λx y H Q=>match x,y with| .int i,.int j=>0<j/\Q (.int (i % j)) H|_,_=>False
theorem dJ:dj X (binaryOp .Mod) VT:=by
 intro a s b H x y v u Q I c d h;cases x<;>cases y<;>first
  |exact(show False from h).elim
  |exact Tz a s b H _ _ v u Q I c d ⟨_,_,rfl,rfl,h.1,h.2⟩
def VU:R2:=λx y H Q=>match x,y with| .int i,.int j=>(0<j/\j<1073741824)/\Q (.int (i / j)) H|_,_=>False
theorem vM:dj X (binaryOp .FloorDiv) VU:=by
 intro a s b H x y v u Q I c d h;cases x<;>cases y<;>first
  |exact(show False from h).elim
  |exact Tw a s b H _ _ v u Q I c d ⟨_,_,rfl,rfl,h.1,h.2⟩
def VW:R2:=λx y H Q=>match x,y with| .int i,.int j=>MT i j/\Q (.int (i^j.toNat)) H|_,_=>False
theorem VX:dj X (binaryOp .Pow) VW:=by
 intro a s b H x y v u Q I c d h;cases x<;>cases y<;>first
  |exact(show False from h).elim
  |exact TF a s b H _ _ v u Q I c d ⟨_,_,rfl,rfl,h.1,h.2⟩
def JB(p:Int->Int->Bool):R2:=λx y H Q=>match x,y with| .int i,.int j=>Q (.bl (p i j)) H|_,_=>False
theorem qM:dj X (compareOp .Gt) (JB λi j=>decide (j<i)):=by
 intro a s b H x y v u Q I c d h;cases x<;>cases y<;>first
  |exact(show False from h).elim
  |exact TY a s b H _ _ v u Q I c d ⟨_,_,rfl,rfl,h⟩
theorem Nh:dj X (compareOp .GtE) (JB λi j=>decide (j<=i)):=by
 intro a s b H x y v u Q I c d h;cases x<;>cases y<;>first
  |exact(show False from h).elim
  |exact TZ a s b H _ _ v u Q I c d ⟨_,_,rfl,rfl,h⟩
theorem VY:dj X (compareOp .LtE) (JB λi j=>decide (i<=j)):=by
 intro a s b H x y v u Q I c d h;cases x<;>cases y<;>first
  |exact(show False from h).elim
  |exact TV a s b H _ _ v u Q I c d ⟨_,_,rfl,rfl,h⟩
def VZ:R2:=λx y H Q=>match x,y with
 | .int i,.int j=>Q (.bl (decide (i<j))) H
 | .str i,.str j=>Q (.bl (decide (i.cps.toList<j.cps.toList))) H
 |_,_=>False
theorem nQ:dj X (compareOp .Lt) VZ:=by
 intro a s b H x y v u Q I c d h;cases x<;>cases y<;>first
  |exact(show False from h).elim
  |exact TU a s b H _ _ v u Q I c d ⟨_,_,rfl,rfl,h⟩
  |exact x9 a s b H _ _ v u Q I c d ⟨_,_,rfl,rfl,h⟩
def Ni(n:Bool):R2:=λx y H Q=>match x,y with
 | .ref a,.ref b=>a≠b/\∃xs,H a=some (.lst xs)/\H b=some (.lst [])/\Q (.bl (n^^xs.isEmpty)) H
 |x,y=>EZ x y=true/\Q (.bl (n^^decide (x=y))) H
theorem V0{xs:Qby}(c:A.units<cLine)(I:Inv X B Z H s)(h:H a=some (.lst xs))(j:H b=some (.lst []))(l:a≠b)
  (q:∀tk,Q (.bool xs.isEmpty) {s with toks:=tk}) (d:Q (.bool xs.isEmpty) s):wpAny (model X.prog X.w) A (compareOp .Eq (.ref a) (.ref b)) Q E s:=by
 obtain⟨_,its,n,r1,e1⟩:=(show bx X.prog X.w H s.heap a (.lst xs)from I.hok a _ h)
 obtain⟨_,its2,n2,r2,e2⟩:=(show bx X.prog X.w H s.heap b (.lst [])from I.hok b _ j)
 cases r2;have f:s.heap.IsList a its.toArray:=⟨_,e1,rfl,_,rfl⟩
 have g:s.heap.IsList b (#[]:Array Value):=⟨_,e2,rfl,_,rfl⟩
 cases r1 with
 |nil=>
  exact SeqAt.eq_listAt (e:=λ_=>true) f g rfl c (λi k=>absurd k (by simp)) (by simpa using d)
 |cons z t=>
  exact SeqAt.eq_list_lengthsAt f g (by simp) c (by simpa using d)
theorem iO(f:X.A.units<cLine):dj X (compareOp .Eq) (Ni false):=by
 intro c s g H x y v u Q I d e h;have i:(∀a b,x=.ref a->y=.ref b->False)->EZ x y=true/\Q (.bl (false^^decide (x=y))) H:=λj=>by
  cases x<;>cases y<;>first
   |exact(j _ _ rfl rfl).elim
   |exact h
 by_cases hr:∃a b,x=.ref a/\y=.ref b
 ·obtain⟨a,b,rfl,rfl⟩:=hr;obtain⟨uz,xs,O,Y,q⟩:=h;cases d;cases e;exact V0 f I O Y uz (λk=>⟨.bl xs.isEmpty,H,I.tok k,rfl,by simpa using q⟩) ⟨.bl xs.isEmpty,H,I,rfl,by simpa using q⟩
 ·obtain⟨O,Y⟩:=i λa b l m=>hr ⟨a,b,l,m⟩;exact TQ c s g H x y v u Q I d e ⟨O,by simpa using Y⟩
theorem V1{xs:Qby}(c:A.units<cLine)(I:Inv X B Z H s)(h:H a=some (.lst xs))(j:H b=some (.lst []))
  (d:Q (.bool (!xs.isEmpty)) s):wpAny (model X.prog X.w) A (compareOp .NotEq (.ref a) (.ref b)) Q E s:=by
 obtain⟨_,its,n,r1,e1⟩:=(show bx X.prog X.w H s.heap a (.lst xs)from I.hok a _ h)
 obtain⟨_,its2,n2,r2,e2⟩:=(show bx X.prog X.w H s.heap b (.lst [])from I.hok b _ j)
 cases r2;have f:s.heap.IsList a its.toArray:=⟨_,e1,rfl,_,rfl⟩
 have g:s.heap.IsList b (#[]:Array Value):=⟨_,e2,rfl,_,rfl⟩
 cases r1 with
 |nil=>
  exact SeqAt.RcNeAt.lists (e:=λ_=>true) f g rfl c (λi k=>absurd k (by simp)) _ _ _ _ (by simpa using d)
 |cons z t=>
  exact SeqAt.RcNeAt.lists_lengths f g (by simp) c _ _ _ _ (by simpa using d)
theorem Nj(f:X.A.units<cLine):dj X (compareOp .NotEq) (Ni true):=by
 intro c s g H x y v u Q I d e h;have i:(∀a b,x=.ref a->y=.ref b->False)->EZ x y=true/\Q (.bl (true^^decide (x=y))) H:=λj=>by
  cases x<;>cases y<;>first
   |exact(j _ _ rfl rfl).elim
   |exact h
 by_cases hr:∃a b,x=.ref a/\y=.ref b
 ·obtain⟨a,b,rfl,rfl⟩:=hr;obtain⟨uz,xs,O,Y,q⟩:=h;cases d;cases e;exact V1 f I O Y ⟨.bl (!xs.isEmpty),H,I,rfl,by simpa using q⟩
 ·obtain⟨O,Y⟩:=i λa b k l=>hr ⟨a,b,k,l⟩;exact TR c s g H x y v u Q I d e ⟨O,by simpa using Y⟩
def CF(K:Q0):R2:=λx y H Q=>match x,y with
 | .ref p,.int i=>∃xs v,(ao K H p xs\/ay K H p xs)/\ph xs i=some v/\Q v H
 | .str z,.int i=>z.length<=sizeLine/\∃c,ph z.cps.toList i=some c/\Q (.str ⟨#[c]⟩) H
 |_,_=>False
theorem V2 : Ct X (CF X.K) := by
  intro e f a s g H x y v u Q I i j h k
  cases x <;> cases y <;> first
    | exact (show False from h).elim
    | (obtain ⟨l, w, O | O, b, d⟩ := h
       · exact UN e f a s g H _ _ v u Q I i j ⟨_, l, _, w, rfl, rfl, O, b, d⟩ k
       · exact UO e f a s g H _ _ v u Q I i j ⟨_, l, _, w, rfl, rfl, O, b, d⟩ k)
    | (obtain ⟨O, c, b, d⟩ := h; exact UP e f a s g H _ _ v u Q I i j ⟨_, _, c, rfl, rfl, O, b, d⟩ k)
def G2(K:Q0)(n:Bool):R2:=λx y H Q=>match y with
 | .str j=>∃i,x=.str i/\Q (.bl (n^^(!(Builtin.Str.occurrences j i 0 j.length 1).isEmpty))) H
 | .ref p=>∃xs,(ao K H p xs\/ay K H p xs)/\Ag x=true/\xs.all Ag=true/\Q (.bl (n^^Ah x xs)) H
 |_=>False
theorem V3:dj X (compareOp .In) (G2 X.K false):=by
 intro a s b H x y v u Q I c d h;cases y<;>first
  |exact(show False from h).elim
  |(obtain⟨i,rfl,Y⟩:=h;exact xQ a s b H _ _ v u Q I c d ⟨i,_,rfl,rfl,by simpa using Y⟩)
  |(obtain⟨xs,O,Y,h3,h4⟩:=h;exact wP a s b H _ _ v u Q I c d ⟨_,xs,rfl,O,Y,h3,by simpa using h4⟩)
def JC(K:Q0):Qby->Hp->VK->Prop:=λxs H Q=>match xs with
 | [.str y]=>y.length<=sizeLine/\Q (.int y.length) H
 | [.ref p]=>(∃ys,(ao K H p ys\/ay K H p ys)/\Q (.int ys.length) H)\/(∃kvs,Rd H p (.dK kvs)/\Q (.int kvs.length) H)
 |_=>False
theorem yU:ux X (.builtin "len") (JC X.K):=by
 intro a s b H g c Q I r h;unfold JC at h;split at h
 ·exact mO a s b H _ c Q I r ⟨_,_,rfl,⟨h.1,rfl⟩,h.2⟩
 ·rcases h with⟨e,O|O,q⟩|⟨d,O,q⟩
  ·exact mO a s b H _ c Q I r ⟨_,_,rfl,.inl ⟨e,O,rfl⟩,q⟩
  ·exact mO a s b H _ c Q I r ⟨_,_,rfl,.inr ⟨e,O,rfl⟩,q⟩
  ·obtain⟨u,rfl,ru⟩:=vals1 r;cases ru;exact Vc I O λt i f=>⟨.int d.length,H,f,⟨t,rfl⟩,q⟩
 ·exact h.elim
def CG:V->Option Int->Option Int->Hp->VK->Prop:=λx lo hi H Q=>∃z,x=.str z/\z.length<=sizeLine/\Q (.str (Txt.slice z lo hi)) H
theorem V4:zb X CG:=by
 intro a s d H x v vl n e f r Q I g i j m h;obtain⟨z,rfl,hz,q⟩:=h;obtain⟨t,rfl⟩:=(show ∃t,v=Value.str z t from g)
 refine⟨"str",_,F.slot_str_getitem.lookup,typeIs_str _ _ _,?_⟩;have b:∀{w:Value}{o:Option Int},IsPart w o->∃l:Option (Int×Tok),w=partValue l/\l.map (·.1)=o:=fun{w o}p=>by
  cases p with
  |none=>exact⟨none,rfl,rfl⟩
  |int k t=>exact⟨some (k,t),rfl,rfl⟩
 obtain⟨l,e1,e2⟩:=b j;obtain⟨u,e3,e4⟩:=b m;subst e1 e3;obtain⟨o,ho,hc,hd⟩:=i;refine wpAny_getItem_str_slice (l:=l) (u:=u) (st:=none) ⟨o,ho,hc,hd⟩ rfl ?_;refine post_val_or_str ⟨Qag (Txt.slice_le z _ _) hz,λc k=>?_⟩;show EP X a d Q (.str (Txt.slice z (l.map (·.1)) (u.map (·.1))) c) _;rw[e2,e4];exact⟨.str (Txt.slice z e f),H,I.tok k,⟨c,rfl⟩,q⟩
def JD(z:Str):It:=⟨λi _=>i<z.cps.size,λi H x U=>U=H/\∃c,z.cps[i]? =some c/\x=.str ⟨#[c]⟩,λi _=>z.cps.size=i⟩
theorem uW{K:Q0}{St:Nat->Heap->Prop}(W:∀C:Around,C.handled=none->Walks P w C it [it] [it] z.cps.size (SignAt z) St)
  (L:∀(A:Around)(i:Nat)(s:Shared)(Q:Value->Shared->Prop)(E:Value->Shared->Prop),St i s.heap->Q (.ref it) s->wpAny (model P w) A (pyIter (.ref it)) Q E s)
  (D:∀i h,St i h->∃o n vs,h.get? it=some o/\o.cls=.type n/\o.data=.fields vs/\["enumerate","zip","dict_itemiterator","dict_reverseitemiterator","odict_iterator","itertools.zip_longest","itertools.pairwise"].contains n=false):Turn P w K tg (JD z) [it] it St where
 mem:=by simp
 obj:=λi h st b f=>by
  have e:b=it:=by simpa using f
  subst e;obtain⟨o,n,vs,e,c,d,_⟩:=D i h st;exact⟨o,e,λv z=>by rw[d]at z;cases z⟩
 keep:=λi h j st k=>(W {} rfl).frame _ _ _ st k
 item:=by
  intro X m p q r i a s G H E I l st u;subst m p q;obtain⟨f0,f1,f2,f3,f4,f5⟩:=l it (by simp);refine(W X.A (I.ok.hd r)).item i s _ _ u st λv j x hv g y=>?_;obtain⟨c,t,v_,rfl⟩:=hv;have N:Inv X a G H {s with heap:=j,toks:=x}:=I.turned (λb o f e=>y b o (by simpa using f) e) f0 f1 f3 f4 f5;obtain⟨o,n,vs,e,c',d,nn⟩:=D _ _ g;exact⟨_,rfl,kR (s:={s with heap:=j,toks:=x}) e c' d nn ⟨.str ⟨#[c]⟩,H,N,⟨t,rfl⟩,⟨rfl,c,v_,rfl⟩,g,λb f=>(l b f).1⟩⟩
 done:=by
  intro X m p q r i a s G H E I l st u;subst m p q;obtain⟨f0,f1,f2,f3,f4,f5⟩:=l it (by simp);have e:z.cps.size=i:=u;subst e;exact(W X.A (I.ok.hd r)).done s _ _ st λj x y=>⟨rfl,I.turned (λb o f e=>y b o (by simpa using f) e) f0 f1 f3 f4 f5⟩
 self:=L
def bq(P:Program)(w:World)(K:Q0)(a:Str->Qbr)(base:Heap)(k:Nat)(x:Str)(b:Qbo)(c:Sp):Prop:=
 ∃(f:Addr)(fd:FuncData),qg P w K a base zc k f fd b c/\a x=some (.ref f)/\PySem.W.keepIn K (.ref f)=true/\Binds K fd b []/\∃(d:Value)(od:Option Addr)(e:Array Qbr),K.lookup f=some ⟨d,od,.func fd,e⟩
section
variable{k:Nat}{sp:Sp}{p pos:Pos}{t:TA}
theorem V5(F:bq X.prog X.w X.K X.mg X.base k x ps sp)(a:gb k X.A)(c:PA X (e::es) t)(d:Gl X x:=by rfl)(g:QbE x:=by decide)
  (h:QbB X e es:=by rfl) (i:QbC X pos es:=by rfl):
  PE X (.Call (.Name x p) (e::es) [] pos) (E5 sp [] E0 t):=by
 obtain⟨f,fd,G,V6,kp,b,_⟩:=F;exact Ut G a d V6 kp b .nil Fc c g h i
end
def iD(K:Q0)(b:TE):TI:=λZ H R=>b Z H λx H1=>match x with
 | .ref a=>((∃xs,ao K H1 a xs)/\R (Jc K a) H1)\/((∃xs,ay K H1 a xs)/\R (Jd K a) H1)
 | .str z=>R (JD z) H1
 |_=>False
theorem V7{l:Expr}{G:TE}(P:PE X l G):PI X tg l (iD X.K G):=by
 intro j s L H R I h;refine av (P j s L H _ I h) ?_;rintro v f ⟨x,r,g,N,y⟩;cases x with
 |ref a=>
  cases N;rcases y with⟨⟨T,C⟩,q⟩|⟨⟨T,C⟩,q⟩
  ·obtain⟨its,rv,p,hz⟩:=g.list C;refine wpAny_pyIter_list p.isList ?_;refine⟨f.heap.objs.size,[f.heap.objs.size],_,_,r,rfl,g.kept (t':=f.toks) λb o e=>Qc _ e,yQ a _,⟨_,Qd _ rfl,rfl,rfl⟩,λb k=>?_,q⟩;have e:b=f.heap.objs.size:=by simpa using k
   subst e;exact g.sy (Qz _) (g.hok.fresh (Qz _))
  ·obtain⟨its,rv,p,hz⟩:=g.tuple C;refine wpAny_pyIter_tuple (show f.heap.IsTuple a its.toArray from p) ?_;refine⟨f.heap.objs.size,[f.heap.objs.size],_,_,r,rfl,g.kept (t':=f.toks) λb o e=>Qc _ e,uP a _,⟨_,Qd _ rfl,rfl,rfl⟩,λb k=>?_,q⟩;have e:b=f.heap.objs.size:=by simpa using k
   subst e;exact g.sy (Qz _) (g.hok.fresh (Qz _))
 |str z=>
  obtain⟨t,rfl⟩:=(show ∃t,v=Value.str z t from N)
  have q:R (JD z) r:=y;have m:∀(o:Obj)(n:String)(W:∀u:Around,u.handled=none->Walks X.prog X.w u f.heap.objs.size [f.heap.objs.size] [f.heap.objs.size] z.cps.size (SignAt z) (λi h=>h.IsStrIter f.heap.objs.size n z t i)),
    (∀(A:Around)(i:Nat)(s:Shared)(Q:Value->Shared->Prop)(E:Value->Shared->Prop),s.heap.IsStrIter f.heap.objs.size n z t i->Q (.ref f.heap.objs.size) s->wpAny (model X.prog X.w) A (pyIter (.ref f.heap.objs.size)) Q E s)->
    ["enumerate","zip","dict_itemiterator","dict_reverseitemiterator","odict_iterator","itertools.zip_longest","itertools.pairwise"].contains n=false->
    (f.heap.push o).IsStrIter f.heap.objs.size n z t 0->DG X j L tg R (.ref f.heap.objs.size) {f with heap:=f.heap.push o}:=by
   intro o n W V hn st;refine⟨f.heap.objs.size,[f.heap.objs.size],_,_,r,rfl,g.kept (t':=f.toks) λb o e=>Qc _ e,uW W V (λi h st=>?_),st,λb k=>?_,q⟩
   ·obtain⟨o,e,c,d⟩:=st;exact⟨o,n,_,e,c,d,hn⟩
   ·have e:b=f.heap.objs.size:=by simpa using k
    subst e;exact g.sy (Qz _) (g.hok.fresh (Qz _))
  cases ha:z.cps.all (· <128)
  ·exact wpAny_pyIter_wide ha (m _ _ (λu D=>Walks.strWide D _ z t) (λA i s Q E st h=>wpAny_pyIter_striter_wide st h) (by decide) ⟨_,Qd _ rfl,rfl,rfl⟩)
  ·exact wpAny_pyIter_ascii ha (m _ _ (λu D=>Walks.strAscii D _ z t) (λA i s Q E st h=>wpAny_pyIter_striter_ascii st h) (by decide) ⟨_,Qd _ rfl,rfl,rfl⟩)
 |_=>exact(show False from y).elim
def Ai(J:It)(ok:Hp->Prop)(n:Nat)(a:Nat->V):Prop:=
 ∀H,ok H->(∀i,i<n->J.go i H/\∀x U,J.pe i H x U->U=H/\x=a i)/\J.stop n H
theorem bI{K:Q0}(xs:Qby):Ai (Jc K a) (λH=>ao K H a xs) xs.length (λi=>xs.getD i .aq):=λH b=>
 ⟨λi c=>⟨⟨xs,xs[i],b,by simp[c]⟩,λx d ⟨e,y⟩=>⟨e,by
  have:=y xs b;show x=xs.getD i V.aq;rw[Qb,this];rfl⟩⟩,⟨xs,b,Qz _⟩⟩
theorem dE{K:Q0}(xs:Qby):Ai (Jd K a) (λH=>ay K H a xs) xs.length (λi=>xs.getD i .aq):=λH b=>
 ⟨λi c=>⟨⟨xs,xs[i],b,by simp[c]⟩,λx d ⟨e,y⟩=>⟨e,by
  have:=y xs b;show x=xs.getD i V.aq;rw[Qb,this];rfl⟩⟩,⟨xs,b,Qz _⟩⟩
theorem pE(lo:Int)(n:Nat):Ai (GI lo n) (λ_=>True) n (λi=>.int (lo+i)):=λH _=>
 ⟨λi a=>⟨a,λx b ⟨e,y⟩=>⟨e,y⟩⟩,Qz _⟩
theorem gA {J:It} {ok:Hp->Prop} {d:Nat->V} {g:TG} {o:TC} {h:St} {D:Addr} {Q:Hp->Prop} (s:Ai J ok n d) (f:Nat->St->Hp->Prop) (h0:f 0 h H0)
  (hok:∀ i c H,i<=n->f i c H->ok H)
  (hs:∀ i c H,i < n->f i c H->g (d i) c H λa H2=>o a H2 λb j=>if b=true then te a j λy k=>∃ xs,k D=some (.lst xs)/\xs.length < sizeLine/\f (i+1) a (upd k D (.lst (xs++[y]))) else f (i+1) a j)
  (t:∀ c H,f n c H->Q H):∃ W:Nat->Nat->St->Hp->Prop,(∃ m,W 0 m h H0)/\∀ i m c H,W i m c H->
   (J.stop i H/\Q H)\/(J.go i H/\∃ N:St->Hp->Prop,(∀ l U,N l U->∃ q,q < m/\W (i+1) q l U)/\∀ x U,J.pe i H x U->g x c U λa H2=>o a H2 λb j=>
    if b=true then te a j λy k=>∃ xs,k D=some (.lst xs)/\xs.length < sizeLine/\N a (upd k D (.lst (xs++[y]))) else N a j):=by
 refine ⟨λi m c H=>m=n - i/\i<=n/\f i c H,⟨n,by simp,Qaj _,h0⟩,?_⟩
 rintro i m c H ⟨rfl,u,p⟩
 obtain ⟨r,w⟩:=s H (hok i c H u p)
 by_cases be:i < n
 ·refine .inr ⟨(r i be).1,f (i+1),λz U A=>⟨n - (i+1),by lia,rfl,be,A⟩,λx U y=>?_⟩
  obtain ⟨e,C⟩:=(r i be).2 x U y
  subst e C
  exact hs i c _ be p
 ·have e:i=n:=by lia
  subst e
  exact .inl ⟨w,t c H p⟩
theorem cA{J:It}{ok:Hp->Prop}{a:Nat->V}{g:TG}{f:TS}{D:Ends}(j:Ai J ok n a)(b:Nat->St->Hp->Prop)(h0:b 0 Z H)(hok:∀i k H,i<=n->b i k H->ok H)
  (hs:∀i Z H,i<n->b i Z H->g (a i) Z H λc H2=>f {D with nx:=b (i+1),ct:=b (i+1),bk:=D.nx} c H2) (l:∀Z H,b n Z H->D.nx Z H):
  ∃W:Nat->Nat->St->Hp->Prop,(∃m,W 0 m Z H)/\∀i m Z H,W i m Z H->
   (J.stop i H/\D.nx Z H)\/(J.go i H/\∃N:St->Hp->Prop,(∀d U,N d U->∃h,h<m/\W (i+1) h d U)/\∀x U,J.pe i H x U->g x Z U λc H2=>f {D with nx:=N,ct:=N,bk:=D.nx} c H2):=by
 refine⟨λi m Z H=>m=n-i/\i<=n/\b i Z H,⟨n,by simp,Qaj _,h0⟩,?_⟩;rintro i m Z H ⟨rfl,o,p⟩;obtain⟨k1,k2⟩:=j H (hok i Z H o p);by_cases be:i<n
 ·refine .inr ⟨(k1 i be).1,b (i+1),λd U q=>⟨n-(i+1),by lia,rfl,be,q⟩,λx U y=>?_⟩;obtain⟨e,e2⟩:=(k1 i be).2 x U y;subst e e2;exact hs i Z _ be p
 ·have e:i=n:=by lia
  subst e;exact .inl ⟨k2,l Z H p⟩
def gu(K:Q0)(a:Str->Qbr)(x:Str)(st:Stmt)(b:Qbo):Prop:=∃(f:Addr)(fd:FuncData),AM K x x st f fd/\a x=some (.ref f)/\Binds K fd b []
theorem gu.ok {P:Program} {w:World} {K:Q0} {d:Str->Qbr} {base:Heap} {x:Str} {st:Stmt} {N c:Qbo} {k:Nat} {e:Sp} (F:gu K d x st c) (S:fc N c (cg st)) (g:∀ vs H Q E,e vs H Q E->vs.length=c.length)
  (j:∀ (f:Addr) (i:Value) (A:Around) (a:List Env) (s:Shared) (H:Hp) (vs:Qby) (Q:VK) (E:XK),gb k (A.deeper (envOfC x (cg st) s.heap.objs.size f i))->e vs H Q E->
   ∃ t,sr (Af zc P w K d base N x (cg st) f i A a s H E).Bo (mh st) t/\t {nx:=λ_ U=>Q .aq U,rt:=Q} (start N vs) H):bq P w K d base (k+1) x c e:=by
 obtain ⟨f,l,h,m,b⟩:=F
 exact ⟨f,l,h.ok S g (j f),m,h.kp,b,let ⟨oc,od,_,_,_,_,_,_,tq,_,lk,_⟩:=h.ex;⟨oc,od,tq,lk⟩⟩
section
variable{pos:Pos}
theorem V8{v:V}(h:∃u,X.mg x=some u/\RelV v u)(a:Gl X x:=by rfl)(b:QbE x:=by decide):PE X (.Name x pos) (tC v):=by
 obtain⟨u,O,Y⟩:=h;exact lT a O Y b
def G3(K:Q0)(xs:Qby):TE:=λ_ H Q=>∀a,ay K H a xs->Q (.ref a) H
theorem V9{xs:Qby}(h:∃a,X.mg x=some (.ref a)/\∀H,ay X.K H a xs)(c:Gl X x:=by rfl)(d:QbE x:=by decide):PE X (.Name x pos) (G3 X.K xs):=by
 obtain⟨a,O,Y⟩:=h;intro b s e H Q I q;exact lT (v:=.ref a) c O rfl d b s e H Q I (q a (Y H))
theorem V_:zb X (λx lo hi H Q=>CG x lo hi H Q\/(Cu X.K x lo hi H Q\/Cs X.K x lo hi H Q)):=V4.or (US.or UI)
end
section
variable(K:Q0)
theorem Wa(h:X.K=K:=by rfl):Ct X (CF K):=by rw[<- h];exact V2
theorem qP(h:X.K=K:=by rfl):dj X (compareOp .In) (G2 K false):=by rw[<- h];exact V3
theorem aQ(h:X.K=K:=by rfl):ux X (.builtin "len") (JC K):=by rw[<- h];exact yU
theorem G4(h:X.K=K:=by rfl):zb X (λx lo hi H Q=>CG x lo hi H Q\/(Cu K x lo hi H Q\/Cs K x lo hi H Q)):=by rw[<- h];exact V_
theorem Wb{l:Expr}{a:TE}(b:PE X l a)(h:X.K=K:=by rfl):PI X tg l (iD K a):=by rw[<- h];exact V7 b
theorem Wc{b:Pos}{xs:Qby}(c:∃a,X.mg x=some (.ref a)/\∀H,ay K H a xs)(h:X.K=K:=by rfl)(d:Gl X x:=by rfl)(e:QbE x:=by decide):PE X (.Name x b) (G3 K xs):=by
 subst h;exact V9 c d e
theorem We{k:Nat}{t:yu}{a:Pos}(b:X.calm=true)(c:DC X es t)(h:X.K=K:=by rfl)
  (d:(assignEach es X.env).length=n:=by rfl) (e:(assignEach es X.env).findIdx? (·.1)=none:=by rfl):PG X (.Tuple es k a) (DF K n t):=by
 subst h;exact S6 b c d e
theorem Wf {id:String} {r:V->Qby->Hp->VK->Prop} {o:Expr} {t:TA} (a:PlainAttrs T) (slot:Slot T name id) (b:typeOf (.builtin id)=pure (.type "method_descriptor")) (c:Cv X id r) (d:PE X o to) (f:PA X (e::es) t) (h:X.K=K:=by rfl)
  (g:attributeBase o name X.env (eval o X.env)=eval o X.env:=by rfl)
  (i:((backTo cpos (starEach (e::es) X.env)).all (λx=> !x.1)&&(backToKw cpos (keywordEach [] X.env)).all (λx=>x.1.isSome)
   &&decide ((e::es).length+([]:List Keyword).length+(if ([]:List Keyword).isEmpty then 0 else 1) < 30))=true:=by rfl)
  (j:(apos.endLine==cpos.line)=true:=by rfl) (hs:QbB X e es:=by rfl) (k:QbC X cpos es:=by rfl):
  PE X (.Call (.Attribute o name apos) (e::es) [] cpos) (GX K T r to t):=by
 subst h;exact UX a slot b c d f g i j hs k
end
structure SE(X:Cx)(e:Expr)(t:TE):Prop where
 h:PE X e t
structure ST(X:Cx)(e:Expr)(t:TT):Prop where
 h:PT X e t
structure SW(X:Cx)(e:Expr)(t:TT):Prop where
 h:PW X e t
structure SA(X:Cx)(es:List Expr)(t:TA):Prop where
 h:PA X es t
structure SS(X:Cx)(s:Stmt)(t:TS):Prop where
 h:PS X s t
structure SB(X:Cx)(s:List Stmt)(t:TS):Prop where
 h:sr X s t
structure SG(X:Cx)(e:Expr)(t:TG):Prop where
 h:PG X e t
structure G5(X:Cx)(e:List Expr)(t:yu):Prop where
 h:DC X e t
structure SI(X:Cx)(tg e:Expr)(t:TI):Prop where
 h:PI X tg e t
structure SC(X:Cx)(e:List Expr)(t:TC):Prop where
 h:zf X e t
structure SO(X:Cx)(e:Option Expr)(t:TO):Prop where
 h:PO X e t
structure G6(X:Cx)(pos:Pos)(keys:List (Option Expr))(values:List Expr)(uu:List (TE×TE)):Prop where
 h:Fb X pos keys values uu
section
variable{t:TA}{c:Const}{ku:Pos}{n:Str}{CH:List Expr}{f0 a0 b0 c0:Expr}{Nl:List Keyword}{o0:Operator}{ks0:List (Option Expr)}{G7:List Comprehension}{G8:Scope}{u0:UnaryOp}{bo0:BoolOp}{adl:List CmpOp}
theorem aC:SA X [] qf:=⟨Up⟩
theorem aG(a:SE X (.Constant c j ku) te)(b:SA X es t):SA X (.Constant c j ku::es) (kc te t):=⟨dI a.h b.h⟩
theorem aD(a:SE X (.Name n ku) te)(b:SA X es t):SA X (.Name n ku::es) (kc te t):=⟨dI a.h b.h⟩
theorem Wg(a:SE X (.List CH ku) te)(b:SA X es t):SA X (.List CH ku::es) (kc te t):=⟨dI a.h b.h⟩
theorem cM(a:SE X (.Tuple CH j ku) te)(b:SA X es t):SA X (.Tuple CH j ku::es) (kc te t):=⟨dI a.h b.h⟩
theorem aS(a:SE X (.Call f0 CH Nl ku) te)(b:SA X es t):SA X (.Call f0 CH Nl ku::es) (kc te t):=⟨dI a.h b.h⟩
theorem dM(a:SE X (.BinOp a0 o0 b0 ku) te)(b:SA X es t):SA X (.BinOp a0 o0 b0 ku::es) (kc te t):=⟨dI a.h b.h⟩
theorem aL(a:SE X (.Subscript a0 b0 ku) te)(b:SA X es t):SA X (.Subscript a0 b0 ku::es) (kc te t):=⟨dI a.h b.h⟩
theorem dN(a:SE X (.ListComp a0 G7 G8 ku) te)(b:SA X es t):SA X (.ListComp a0 G7 G8 ku::es) (kc te t):=⟨dI a.h b.h⟩
theorem rE(a:SE X (.DictComp a0 b0 G7 G8 ku) te)(b:SA X es t):SA X (.DictComp a0 b0 G7 G8 ku::es) (kc te t):=⟨dI a.h b.h⟩
end
section
variable{a b c o i value lo hi elt:Expr}{tb tc td ty tv:TE}{t:TA}{pos p p2 ku:Pos}
theorem zv(i:Nat){a:Pos}(b:X.N[i]? =some x:=by rfl)(hv:Dz X.env.scope x:=by first|exact Or.inl rfl|exact Or.inr (Or.inl rfl)|exact Or.inr (Or.inr rfl))(c:QbE x:=by decide)(d:(x==("__classdict__":Str))=false:=by decide):SE X (.Name x a) (tV i):=⟨VR i b hv c d⟩
theorem rB{v:V}(h:∃u,X.mg x=some u/\RelV v u)(a:Gl X x:=by rfl)(b:QbE x:=by decide):SE X (.Name x pos) (tC v):=⟨V8 h a b⟩
theorem JG(K:Q0){xs:Qby}(b:∃a,X.mg x=some (.ref a)/\∀H,ay K H a xs)(h:X.K=K:=by rfl)(c:Gl X x:=by rfl)(d:QbE x:=by decide):SE X (.Name x pos) (G3 K xs):=⟨Wc K b h c d⟩
theorem Nm{j}:SE X (.Constant .none j pos) (tC .aq):=⟨Sv⟩
theorem uB{b:Bool}{j}:SE X (.Constant (.bool b) j pos) (tC (.bl b)):=⟨Su⟩
theorem aJ{i:Int}{j}:SE X (.Constant (.int i) j pos) (tC (.int i)):=⟨Ss⟩
theorem bK{j}:SE X (.Constant (.str x) j pos) (tC (.str x)):=⟨Sw⟩
theorem bP{c:Operator}{r:R2}(d:dj X (binaryOp c) r)(e:SE X a ta)(f:SE X b tb):SE X (.BinOp a c b pos) (l_ r ta tb):=⟨To d e.h f.h⟩
theorem Wh{b:UnaryOp}{r:V->Hp->VK->Prop}(c:GK X (unaryOp b) r)(d:SE X a ta):SE X (.UnaryOp b a pos) (MS r ta):=⟨Tp c d.h⟩
theorem Wi{r:R2}(c:dj X (compareOp op) r)(d:SE X a ta)(e:SE X b tb)(f:behindInMarks op b=false):SE X (.Compare a [op] [b] pos) (l_ r ta tb):=⟨T6 c d.h e.h f⟩
theorem Wj{r:R2}(c:dj X (compareOp op) r)(d:SE X a ta)(e:SE X b tb)(f:behindInMarks op b=false):ST X (.Compare a [op] [b] pos) (E2 (l_ r ta tb)):=⟨T9 c d.h e.h f⟩
theorem Nn(h:SE X e te)(b:∀a,isTrue e X.env a=(do let v <- a;standAt e.pos;holding [v] (truthy v)):=by intro _;rfl):ST X e (tB te):=⟨Sz h.h b⟩
theorem Wk{b:TT}(c:ST X a b):SW X (.BoolOp .And [a] pos) b:=⟨SD c.h⟩
theorem Wl{b:TT}(c:ST X a b):SW X (.BoolOp .Or [a] pos) b:=⟨SH c.h⟩
theorem Wm{d e:TT}{c:List Expr}(f:ST X a d)(g:SW X (.BoolOp .And (b::c) pos) e):SW X (.BoolOp .And (a::b::c) pos) (MI d e):=⟨SJ f.h g.h⟩
theorem Wn{d e:TT}{c:List Expr}(f:ST X a d)(g:SW X (.BoolOp .Or (b::c) pos) e):SW X (.BoolOp .Or (a::b::c) pos) (MJ d e):=⟨SK f.h g.h⟩
theorem SW.pt{a:TT}(h:SW X e a):ST X e a:=⟨h.h.pt⟩
theorem cE(h:SA X es t):SE X (.List es pos) (GQ t):=⟨Ur h.h⟩
theorem cF{x1}(h:SA X es t):SE X (.Tuple es x1 pos) (Jj t):=⟨Uq h.h⟩
theorem mJ:SE X (.Dict [] [] pos) M9:=⟨zW⟩
theorem Wo:G6 X pos [] [] []:=⟨Vh⟩
theorem Wp{ks:List (Option Expr)}{vs:List Expr}{c d:TE}(e:SE X a c)(hv:SE X b d)(f:G6 X pos ks vs uu):G6 X pos (some a::ks) (b::vs) ((c,d)::uu):=⟨Vi e.h hv.h f.h⟩
theorem Wq{a:List (Option Expr)}{b:List Expr}(h:G6 X pos a b uu)(c:a.all (·.isSome)=true)(d:a.length=b.length)(h0:a≠[])(e:a.length<=15):SE X (.Dict a b pos) (Na uu):=⟨Vj h.h c d h0 e⟩
theorem vY{d:TT}(e:ST X c d)(f:SE X a ta)(g:SE X b tb):SE X (.IfExp c a b pos) (MK d ta tb):=⟨SM e.h f.h g.h⟩
theorem lW:SO X none DI:=⟨UE⟩
theorem lU(h:SE X e te):SO X (some e) (DJ te):=⟨UG h.h⟩
theorem lS{r:V->Option Int->Option Int->Hp->VK->Prop}{l u:Option Expr}{a b:TO}(c:zb X r)(d:SE X e te)(f:SO X l a)(g:SO X u b):SE X (.Subscript e (.Slice l u none p2) pos) (DK r te a b):=⟨UH c d.h f.h g.h⟩
theorem Wr(a:X.A.units+1<cLine)(b:SE X o td)(hi:SE X i ty)(hs:E_ i):SE X (.Subscript o i pos) (Jp td ty):=⟨Vd a b.h hi.h hs⟩
theorem Ws{r:R2}(c:Ct X r)(d:SE X a ta)(e:SE X b tb)(hs:Jk b):SE X (.Subscript a b pos) (l_ r ta tb):=⟨UJ c d.h e.h hs⟩
theorem Wt{k:Nat}{a:Sp}(F:bq X.prog X.w X.K X.mg X.base k x ps a)(b:gb k X.A)(c:SA X (e::es) t)(d:Gl X x:=by rfl)(f:QbE x:=by decide)
  (g:QbB X e es:=by rfl) (i:QbC X pos es:=by rfl):
  SE X (.Call (.Name x p) (e::es) [] pos) (E5 a [] E0 t):=⟨V5 F b c.h d f g i⟩
theorem Wu{id:String}{r:Qby->Hp->VK->Prop}(a:ux X (.builtin id) r)(b:Gl X x)(c:X.mg x=none)(hv:bootBuiltins x=some (.builtin id))(d:SA X (e::es) t)(f:x≠"__name__":=by decide)(g:QbE x:=by decide)
  (i:QbB X e es:=by rfl) (j:QbC X pos es:=by rfl):SE X (.Call (.Name x p) (e::es) [] pos) (yz r t):=⟨zZ a b c hv d.h f g i j⟩
theorem i8 (K:Q0) {id:String} {r:V->Qby->Hp->VK->Prop} (a:PlainAttrs T) (slot:Slot T name id) (b:typeOf (.builtin id)=pure (.type "method_descriptor")) (c:Cv X id r) (d:SE X o to) (f:SA X (e::es) t) (h:X.K=K:=by rfl)
  (g:attributeBase o name X.env (eval o X.env)=eval o X.env:=by rfl)
  (i:((backTo cpos (starEach (e::es) X.env)).all (λx=> !x.1)&&(backToKw cpos (keywordEach [] X.env)).all (λx=>x.1.isSome)
   &&decide ((e::es).length+([]:List Keyword).length+(if ([]:List Keyword).isEmpty then 0 else 1) < 30))=true:=by rfl)
  (j:(apos.endLine==cpos.line)=true:=by rfl) (hs:QbB X e es:=by rfl) (k:QbC X cpos es:=by rfl):
  SE X (.Call (.Attribute o name apos) (e::es) [] cpos) (GX K T r to t):=⟨Wf K a slot b c d.h f.h h g i j hs k⟩
theorem cJ:SB X [] I_:=⟨SQ⟩
theorem aF{st:Stmt}{u:TS}(a:SS X st u):SB X [st] u:=⟨SX a.h⟩
theorem aE{st:Stmt}{a:List Stmt}{u v:TS}(b:SS X st u)(c:SB X a v):SB X (st::a) (Bq u v):=⟨SR b.h c.h⟩
theorem bA(a:SE X e te):SS X (.Return (some e) pos) (DB te):=⟨S1 a.h⟩
theorem bR(a:SE X e te)(hs:swapsWith e none pos.line X.env=pure false:=by rfl):SS X (.Expr e pos) (GD te):=⟨SY a.h hs⟩
theorem eX{a b:List Stmt}{d:TT}{u v:TS}(e:ST X c d)(f:SB X a u)(g:SB X b v):SS X (.If c a b pos) (GF d u v):=⟨S3 e.h f.h g.h⟩
theorem cR{a:TI}{g:TG}{u:TS}(b:PassesOwn (model X.prog X.w) X.A X.env X.xe)(c:X.calm=true)(hi:SI X tg iter a)(d:SG X tg g)(e:SB X body u)(hs:∀x,foldedSetIterable iter X.env x=pure x:=by intro _;rfl):SS X (.For tg iter body [] pos) (MQ a g u):=⟨Ti b c hi.h d.h e.h hs⟩
theorem hZ{a:TT}{u:TS}(b:PassesOwn (model X.prog X.w) X.A X.env X.xe)(d:ST X c a)(e:SB X body u):SS X (.While c body [] pos) (MO a u):=⟨zO b d.h e.h⟩
theorem Wv{i:Nat}(a:X.N.Nodup)(hi:X.N[i]? =some x)(b:Loc X.env.scope x)(c:SE X e te)(hs:swapsWith e (some (.Name x pos')) pos.line X.env=pure false:=by rfl)(d:QbD X x:=by first|exact .inl rfl|exact .inr rfl|assumption):
  SS X (.Assign [.Name x pos'] e pos) (Ac te (n_ i)):=⟨S9 a hi b c.h hs d⟩
theorem qF(a:X.A.units+1<cLine)(b:SE X o td)(hi:SE X i ty)(hv:SE X value tv)(hs:swapsWith value (some (.Subscript o i pos')) pos.line X.env=pure false):SS X (.Assign [.Subscript o i pos'] value pos) (M7 td ty tv):=⟨Ve a b.h hi.h hv.h hs⟩
theorem zH{g:TG}(a:SE X e te)(b:SG X tg g)(hs:swapsWithSole [tg] e pos.line X.env=pure false:=by rfl)(c:swappedStores [tg] e X.env=pure none:=by rfl)
  (d:(assignEach [tg] X.env).map (·.2)=[assign tg X.env]:=by rfl):SS X (.Assign [tg] e pos) (Ac te g):=⟨S8 a.h b.h hs c d⟩
theorem Np{i:Nat}(a:X.N.Nodup)(hi:X.N[i]? =some x)(b:Loc X.env.scope x)(c:QbD X x:=by first|exact .inl rfl|exact .inr rfl|assumption):SG X (.Name x pos) (n_ i):=⟨S4 a hi b c⟩
theorem bS:G5 X [] GH:=⟨S5⟩
theorem aK{g:TG}{u:yu}(a:SG X e g)(b:G5 X es u)(hs:(assignEach (e::es) X.env).map (·.2)=assign e X.env::(assignEach es X.env).map (·.2):=by rfl):G5 X (e::es) (DE g u):=⟨zD a.h b.h hs⟩
theorem cT(K:Q0){k:Nat}{u:yu}(a:X.calm=true)(b:G5 X es u)(h:X.K=K:=by rfl)
  (c:(assignEach es X.env).length=n:=by rfl) (d:(assignEach es X.env).findIdx? (·.1)=none:=by rfl):SG X (.Tuple es k pos) (DF K n u):=⟨We K a b.h h c d⟩
theorem JH {u:GG} (b:SE X o td) (hi:SE X i ty) (hs:Ja X u)
  (c:∀ v,assign (.Subscript o i pos) X.env v=(do
   let ov <- holding [v] (eval o X.env)
   let a <- holding [v,ov] (eval i X.env)
   standAt pos
   holding [v,ov,a] (setItem ov a v)
   release [v,ov,a] []):=by intro _;rfl):SG X (.Subscript o i pos) (MM td ty u):=⟨S7 b.h hi.h hs c⟩
theorem rX(b:Gl X "range")(c:X.mg "range"=none)(d:SA X [a] t)(hs:starEach [a] X.env=[(false,eval a X.env)]:=by rfl):SI X tg (.Call (.Name "range" p) [a] [] pos) (MP t):=⟨wX b c d.h hs⟩
theorem jX(K:Q0)(a:SE X e te)(h:X.K=K:=by rfl):SI X tg e (iD K te):=⟨Wb K a.h h⟩
theorem g9:SC X [] Fe:=⟨Vy⟩
theorem Nq{a:TT}(h:ST X c a):SC X [c] a:=⟨Vz h.h⟩
theorem JI{d:TI}{g:TG}{e:TC}(S:pq X.env.scope X.N F own idx N')(f:X.calm=true)(hi:SI X tg iter d)
  (i:∀a C b H0 fp c,SG (cy X N' F a C b H0 fp c) tg g) (j:∀a C b H0 fp c,SC (cy X N' F a C b H0 fp c) ifs e) (k:∀a C b H0 fp c,SE (cy X N' F a C b H0 fp c) elt te)
  (hs:∀x,foldedSetIterable iter X.env x=pure x:=by intro _;rfl):SE X (.ListComp elt [⟨tg,iter,ifs,0⟩] F pos) (CD own idx d g e te):=
 ⟨VP S f hi.h (λq r s t u v=>(i q r s t u v).h) (λq r s t u v=>(j q r s t u v).h) (λq r s t u v=>(k q r s t u v).h) hs⟩
theorem Nr{e:TI}{g:TG}{f:TC}{i:Nat}{y:Str}{j a:Pos}(S:pq X.env.scope X.N F own idx N')(k:X.calm=true)(hi:SI X tg iter e)
  (l:∀b C c H0 fp d,SG (cy X N' F b C c H0 fp d) tg g) (m:∀b C c H0 fp d,SC (cy X N' F b C c H0 fp d) ifs f) (n:∀b C c H0 fp d,SE (cy X N' F b C c H0 fp d) elt te)
  (o:X.N.Nodup) (p:X.N[i]? =some y) (w:X.env.scope.names.lookup y=some .local)
  (z:swapsWith (.ListComp elt [⟨tg,iter,ifs,0⟩] F pos) (some (.Name y j)) a.line X.env=pure true:=by rfl)
  (hs:∀x,foldedSetIterable iter X.env x=pure x:=by intro _;rfl):SS X (.Assign [.Name y j] (.ListComp elt [⟨tg,iter,ifs,0⟩] F pos) a) (Ac (CD own idx e g f te) (n_ i)):=
 ⟨VQ S k hi.h (λq r s t u v=>(l q r s t u v).h) (λq r s t u v=>(m q r s t u v).h) (λq r s t u v=>(n q r s t u v).h) o p w z hs⟩
end
theorem gu.gw {K:Q0} {st:Stmt} {k:Nat} {c:Sp} (F:gu K mg x st ps) (S:fc N ps (cg st)) (d:∀ vs H Q E,c vs H Q E->vs.length=ps.length)
  (e:∀ (f:Addr) (b:Value) (A:Around) (a:List Env) (s:Shared) (H:Hp) (vs:Qby) (Q:VK) (E:XK),gb k (A.deeper (envOfC x (cg st) s.heap.objs.size f b))->c vs H Q E->
   ∃ t,SB (Af zc P w K mg base N x (cg st) f b A a s H E).Bo (mh st) t/\t {nx:=λ_ U=>Q .aq U,rt:=Q} (start N vs) H):bq P w K mg base (k+1) x ps c:=
 F.ok S d λf b A a s H vs Q E g h=>let ⟨t,O,Y⟩:=e f b A a s H vs Q E g h;⟨t,O.h,Y⟩
theorem Nt {C E a:Expr} {scope:Scope} {o:Pos} {z:Value} {D:Addr} (I:Nat->Shared->Prop)
  (p:∀ n s,I n s->wpAny (model prog w) A (pyNext z) (λr d=>match r with
   | none=>R (.ok .next) d
   | some v=>wpAny (model prog w) A (letOwnedTupleGo a z v) (λ_ G=>wpAny (model prog w) A (assign a env v) (λ_ f=>
     wpAny (model prog w) A (forIn ifs true λc r=>if r=true then do let ok <- isTrue c env (eval c env);pure (ForInStep.yield ok) else pure (ForInStep.yield r)) (λok e=>
      if ok=true then wpAny (model prog w) A (eval C env) (λkv g=>wpAny (model prog w) A (eval E env) (λH i=>
       wpAny (model prog w) A (dictSet D kv H) (λ_ j=>∃ m,m < n/\I m j) jf i) jf g) jf e
      else ∃ m,m < n/\I m e) jf f) jf G) jf d) jf s)
  (n:Nat) (h:I n s):
  codeAny (model prog w) A (.compLoop (.DictComp C E [⟨a,iter,ifs,0⟩] scope o) 0 z (.ref D) env) R s:=by
 refine codeAny_loop rfl I (λn s K=>?_) n h
 show wpAny _ A ((compTurn (.DictComp C E [⟨a,iter,ifs,0⟩] scope o) 0 z (.ref D) env).onRaise (λx=>do noteFrame x env;theTreesLotGoes x)) _ _ s
 refine wpAny_noted ?_
 rw [compTurn_dict]
 refine QT (wpAny_standAt (QT (wpAny_mono (p n s K) (λr d k=>?_) λ_ _ b=>b.elim)))
 cases r with
 | none=>exact QU k
 | some v=>
  refine QT (wpAny_mono k (λ_ G L=>?_) λ_ _ b=>b.elim)
  refine QT (wpAny_mono L (λ_ f q=>QT (wpAny_mono q (λok e l=>?_) λ_ _ b=>b.elim)) λ_ _ b=>b.elim)
  cases ok with
  | false=>exact QU ⟨rfl,l⟩
  | true=>
   exact QT (QT (wpAny_mono l (λkv g t=>QT (wpAny_holding (wpAny_mono t (λH i u=>QT (wpAny_standAt (wpAny_holding (wpAny_mono u (λ_ j y=>QU ⟨rfl,y⟩) λ_ _ b=>b.elim)))) λ_ _ b=>b.elim))) λ_ _ b=>b.elim))
section
variable{kx vx:Expr}{pos:Pos}{wi:TI}{g:TG}{tc:TC}{tk tw:TE}
abbrev Nu:Obj:={cls:=.type "dict",data:=.dict #[]}
def JJ (own:Qbo) (idx:Qbs) (k:TI) (g:TG) (l:TC) (n o:TE):TE:=λZ H Q=>k Z H λJ H1=>∀ D,H1 D=none->∃ W:Nat->Nat->St->Hp->Prop,(∃ m,W 0 m (ze own idx Z) (upd H1 D (.dK [])))/\∀ i m e H,W i m e H->
 (J.stop i H/\Q (.ref D) H)\/(J.go i H/\∃ N:St->Hp->Prop,(∀ c U,N c U->∃ f,f < m/\W (i+1) f c U)/\∀ x U,J.pe i H x U->g x e U λa H2=>l a H2 λb h=>
  if b=true then n a h λx p=>o a p λy j=>∃ kvs d,x=kV d/\j D=some (.dK kvs)/\kvs.length < sizeLine/\N a (upd j D (.dK (putK kvs d y))) else N a h)
theorem kW (S:pq X.env.scope X.N F own idx N') {d:List (Str×Addr)} (c1:∀ x c,d.lookup x=some c->X.env.cells.lookup x=some c) (c2:∀ y∈F.names,y.2=.free->∃ c,d.lookup y.1=some c) (hc:X.calm=true)
  (hg:∀ d C l H0 fp pn,PG (cy X N' F d C l H0 fp pn) tg g) (ht:∀ d C l H0 fp pn,zf (cy X N' F d C l H0 fp pn) ifs tc) (he:∀ d C l H0 fp pn,PE (cy X N' F d C l H0 fp pn) kx tk) (hv:∀ d C l H0 fp pn,PE (cy X N' F d C l H0 fp pn) vx tw)
  {B:List (Addr×Obj)} {Z:St} {Q:VK} {qw:Value} {s2:Shared} {RR:Value->Addr->Result->Shared->Prop} {E:Value->Shared->Prop}
  (hI:DG X B Z tg (λJ H1=>∀ D,H1 D=none->∃ W:Nat->Nat->St->Hp->Prop,(∃ m,W 0 m (ze own idx Z) (upd H1 D (.dK [])))/\∀ i m r H,W i m r H->
   (J.stop i H/\Q (.ref D) H)\/(J.go i H/\∃ N:St->Hp->Prop,(∀ u U,N u U->∃ m',m' < m/\W (i+1) m' u U)/\∀ x U,J.pe i H x U->g x r U λf H2=>tc f H2 λb H3=>
    if b=true then tk f H3 λx H4=>tw f H4 λy G=>∃ kvs a,x=kV a/\G D=some (.dK kvs)/\kvs.length < sizeLine/\N f (upd G D (.dK (putK kvs a y))) else N f H3)) qw s2)
  (Fg:∀ D C U s',Inv X B Z U s'->Q (.ref D) U->(U C=none/\C≠X.env.locals/\X.s₀.heap.objs.size<=C/\(∀ x c,X.env.cells.lookup x=some c->c≠C)/\(∀ p∈X.pn++B,p.1≠C)/\∃ m,s'.heap.Ns C m)->RR (.ref D) C (.ok .next) s'):
  wpAny (model X.prog X.w) X.A newDict (λL P=>wpAny (model X.prog X.w) X.A (newFunctionEnv F X.env.globals d [] X.env.qual none .none (some X.env)) (λt j=>
   codeAny (model X.prog X.w) X.A (.compStart (.DictComp kx vx [⟨tg,iter,ifs,0⟩] F pos) 0 qw L {t with scope:=relabel F X.env}) (RR L t.locals) j) E P) E s2:=by
 refine m7 (ob:=Nu) (sel:=λenv D s K=>wpAny (model X.prog X.w) X.A (eval kx env) (λkv j=>wpAny (model X.prog X.w) X.A (eval vx env) (λvv T=>wpAny (model X.prog X.w) X.A (dictSet D kv vv) (λ_ V=>K V) jf T) jf j) jf s) (o0:=.dK []) (el:=λD r H K=>tk r H λx H4=>tw r H4 λy G=>∃ kvs a,x=kV a/\G D=some (.dK kvs)/\kvs.length < sizeLine/\K (upd G D (.dK (putK kvs a y)))) S c1 c2 hc (hob:=rfl)
  (λit D env R s I ab n h=>Nt I ab n h) (λh k=>av h λ_ _ h=>av h λ_ _ h=>av h λ_ _ h=>k _ h) (λ_ _ _ _ _=>codeAny_compStart_dict) hg ht (λd C l H0 fp pn B s r H D N I q=>?_) (λQ E h=>wpAny_newObj_type h)
  (λU I H h e=>⟨Qaj _,beq_eq_false_iff_ne.mpr (Ne.symm (yT I.big)),[],.nil,(Heap.DictOf.new s2.heap).at λo eo=>by rw [Qd _ rfl] at eo;cases eo;exact e⟩) hI Fg
 refine av (he d C l H0 fp pn _ s r H _ I q) ?_
 rintro kv s8 ⟨x8,H8,I8,r8,q8⟩
 refine av (hv d C l H0 fp pn _ s8 r H8 _ I8 q8) ?_
 rintro yv s9 ⟨y9,H9,I9,r9,kvs,a,ek,DQ,hz,n9⟩
 subst ek
 obtain ⟨z,hd,vs,af,dd⟩:=rT I9.hok DQ
 have Fl:vs.length<=sizeLine:=by rw [<- af.length];exact z
 have f_:(putK kvs a y9).length<=sizeLine:=by have:=bW kvs a y9;lia
 refine wpAny_dictSet_pairs (hsz:=Fl) (gX r8) dd λM jx hs=>?_
 have Ww:∃ q,M.get? D=some q:=let ⟨q,_,_,hq,_⟩:=jx;⟨q,hq⟩
 exact ⟨_,dX (t':=s9.toks+1) (ob:=.dK (putK kvs a y9)) I9 (by rw [DQ];exact True.intro) hs Ww (mY f_ hd (af.put a r9) jx),n9⟩
theorem Wx(S:pq X.env.scope X.N F own idx N')(i:X.calm=true)(hi:PI X tg iter wi)
  (j:∀a C c H0 fp d,PG (cy X N' F a C c H0 fp d) tg g) (k:∀a C c H0 fp d,zf (cy X N' F a C c H0 fp d) ifs tc) (l:∀a C c H0 fp d,PE (cy X N' F a C c H0 fp d) kx tk) (hv:∀a C c H0 fp d,PE (cy X N' F a C c H0 fp d) vx tw)
  (hs:∀x,foldedSetIterable iter X.env x=pure x:=by intro _;rfl):PE X (.DictComp kx vx [⟨tg,iter,ifs,0⟩] F pos) (JJ own idx wi g tc tk tw):=by
 intro B s Z H Q I h;obtain⟨a,AN,c1,c2⟩:=S.closure I.ok;show wpAny _ X.A (comprehension (.DictComp kx vx [⟨tg,iter,ifs,0⟩] F pos) F X.env _ newDict false (eval iter X.env)) _ _ s;refine wpAny_comprehension_free (use:=none) rfl hs AN S.kind S.names (av (hi B s Z H _ I h) λv T n=>av n λV s2 p=>?_);refine kW (Q:=Q) (B:=B) (Z:=Z) (RR:=λf C=>compPost (model X.prog X.w) X.A X.xe none (EP X B Z Q) f C) S c1 c2 i j k l hv p ?_;intro D C r t u q ⟨y,z,E,G,K,m,L⟩;exact⟨m,L,λM P=>⟨.ref D,r,u.turned (t':=t.toks) (λb o R e=>(P.2 b R).trans e) y (Ne.symm (Ne.symm z)) (.inr E) G K,rfl,q⟩⟩
theorem u5(S:pq X.env.scope X.N F own idx N')(d:X.calm=true)(hi:SI X tg iter wi)
  (e:∀a C b H0 fp c,SG (cy X N' F a C b H0 fp c) tg g) (f:∀a C b H0 fp c,SC (cy X N' F a C b H0 fp c) ifs tc) (i:∀a C b H0 fp c,SE (cy X N' F a C b H0 fp c) kx tk) (hv:∀a C b H0 fp c,SE (cy X N' F a C b H0 fp c) vx tw)
  (hs:∀x,foldedSetIterable iter X.env x=pure x:=by intro _;rfl):SE X (.DictComp kx vx [⟨tg,iter,ifs,0⟩] F pos) (JJ own idx wi g tc tk tw):=
 ⟨Wx S d hi.h (λq r s t u v=>(e q r s t u v).h) (λq r s t u v=>(f q r s t u v).h) (λq r s t u v=>(i q r s t u v).h) (λq r s t u v=>(hv q r s t u v).h) hs⟩
end
theorem ae.upd{H:Hp}{a:Addr}(h:H a=none)(o:HO):ae H (upd H a o):=λb u q=>by rw[aB (aN q h)];exact q
theorem jq{c:Bool}{A B:Prop}(a:c=true->A)(b:c=false->B):if c=true then A else B:=by
 cases c with
 |true=>exact CB (a rfl)
 |false=>exact xw (b rfl)
theorem aM{t u:TS}{D:Ends}(mid:St->Hp->Prop)(b:∀nx:St->Hp->Prop,(∀a U,mid a U->nx a U)->t {D with nx:=nx} Z H)(c:∀a U,mid a U->u D a U):Bq t u D Z H:=b (u D) c
theorem aO(x:α)(xs:List α):ph (x::xs) 0=some x:=fF (j:=0) rfl
theorem mP(xs:List α)(i:Int)(h0:0<=i)(b:i<xs.length):∃c,xs[i.toNat]? =some c/\ph xs i=some c:=by
 have a:i.toNat<xs.length:=by lia
 refine⟨xs[i.toNat],by simp[a],?_⟩;have:=fF (xs:=xs) (j:=i.toNat) (v:=xs[i.toNat]) (by simp[a]);rw[<- this];congr 1
 lia
theorem kU(ns:Qbo)(i:Nat)(h:i<ns.length):(ns.map V.str).getD i .aq=.str (ns.getD i ""):=by
 simp[Qb,h]
abbrev Wy(w:Addr)(m t:Int):Qbv:=[(.inr "mixed",.int m),(.inr "turn",.int t),(.inr "wide",.ref w)]
structure Bx(H:Hp)(p w:Addr)(t:Nat):Prop where
 ex:∃(m c:Int)(ws:List Int),H p=some (.dK (Wy w m c))/\H w=some (.lst (ws.map V.int))/\(0<=m/\m<2147483629)/\0<=c/\c<=(t:Int)
def Sm(p w:Addr)(H U:Hp):Prop:=∀b o,H b=some o->b≠p->b≠w->U b=some o
theorem Sm.trans{w:Addr}{d e:Hp}(a:Sm p w H d)(b:Sm p w d e):Sm p w H e:=λc o h f g=>b c o (a c o h f g) f g
theorem ae.sm{w:Addr}{b:Hp}(a:ae H b):Sm p w H b:=λc o h _ _=>a c o h
theorem Bx.same{w:Addr}{t:Nat}(h:Bx H p w t)(s:ae H U):Bx U p w t:=by
 obtain⟨m,c,ws,O,Y,r⟩:=h.ex;exact⟨m,c,ws,s _ _ O,s _ _ Y,r⟩
theorem Sm.free{w:Addr}(s:Sm p w H U)(h:U l=none)(a:l≠p)(b:l≠w):H l=none:=by
 cases q:H l with
 |none=>rfl
 |some o=>rw[s l o q a b]at h;cases h
theorem Bx.upd{H:Hp}{p w D:Addr}{t:Nat}{o:HO}(h:Bx H p w t)(a:D≠p)(b:D≠w):Bx (upd H D o) p w t:=by
 obtain⟨m,c,ws,e1,e2,r⟩:=h.ex;exact⟨m,c,ws,by rw[aB a.symm];exact e1,by rw[aB b.symm];exact e2,r⟩
theorem Sm.upd{p w D:Addr}{H U:Hp}{o:HO}(s:Sm p w H U)(h:H D=none):Sm p w H (upd U D o):=λb u a c d=>by rw[aB (aN a h)];exact s b u a c d
def G9(p w:Addr)(H:Hp):V->Prop
 | .aq=>True
 | .bl _=>True
 | .int _=>True
 | .str z=>z.length<=100000
 | .ref a=>a≠p/\a≠w/\((∃xs,H a=some (.lst xs))\/(∃xs,H a=some (.tup xs))\/∃kvs,H a=some (.dK kvs))
 |_=>False
theorem G9.sm{w:Addr}{x:V}(h:G9 p w H x)(s:Sm p w H U):G9 p w U x:=by
 cases x with
 |ref a=>
  obtain⟨O,Y,h3⟩:=h;refine⟨O,Y,?_⟩;rcases h3 with⟨b,e⟩|⟨b,e⟩|⟨b,e⟩
  ·exact .inl ⟨b,s _ _ e O Y⟩
  ·exact .inr (.inl ⟨b,s _ _ e O Y⟩)
  ·exact .inr (.inr ⟨b,s _ _ e O Y⟩)
 |_=>exact h
structure DR(p w:Addr)(t:Nat)(H:Hp)(xs:Qby):Prop where
 Wz:Bx H p w t
 all:∀x∈xs,G9 p w H x
section
variable{w:Addr}{t u:Nat}{xs ys:Qby}
theorem DR.sm(g:DR p w t H xs)(a:Bx U p w u)(s:Sm p w H U):DR p w u U xs:=⟨a,λx b=>(g.all x b).sm s⟩
theorem DR.upd{q:Addr}{o:HO}(g:DR p w t H xs)(h:H q=none):DR p w t (upd H q o) xs:=g.sm (g.Wz.same (ae.upd h o)) (ae.upd h o).sm
end
section
variable{p pos:Pos}{t:TA}
theorem WA{r:Qby->Hp->VK->Prop}(a:ux X (.type T) r)(b:Gl X x)(c:X.mg x=none)(hv:bootBuiltins x=some (.type T))(d:SA X (e::es) t)(f:x≠"__name__":=by decide)(g:QbE x:=by decide)
  (i:QbB X e es:=by rfl) (j:QbC X pos es:=by rfl):SE X (.Call (.Name x p) (e::es) [] pos) (yz r t):=⟨xF a b c hv d.h f g i j⟩
def G_(K:Q0):Qby->Hp->VK->Prop:=λxs H Q=>∃p ys,xs=[.ref p]/\((ao K H p ys/\∀l,H l=none->Q (.ref l) (upd H l (.tup ys)))\/(ay K H p ys/\Q (.ref p) H))
def JK(K:Q0):Qby->Hp->VK->Prop:=λxs H Q=>∃p ys,xs=[.ref p]/\(ao K H p ys\/ay K H p ys)/\∀l,H l=none->Q (.ref l) (upd H l (.lst ys))
theorem cG(K:Q0)(h:X.K=K:=by rfl):ux X (.type "tuple") (G_ K):=by subst h;exact oE
theorem pC(K:Q0)(h:X.K=K:=by rfl):ux X (.type "list") (JK K):=by subst h;exact pP
end
mutual
inductive xx (H:Hp):V->PyData->Prop
 |aq:xx H .aq .none
 |bl (b:Bool):xx H (.bl b) (.bool b)
 |int (i:Int):xx H (.int i) (.int i)
 |str (z:Str):xx H (.str z) (.str z)
 |tup {a:Addr} {xs:Qby} {ds:List PyData}:H a=some (.tup xs)->xy H xs ds->xx H (.ref a) (.tuple ds)
 |lst {a:Addr} {xs:Qby} {ds:List PyData}:H a=some (.lst xs)->xy H xs ds->xx H (.ref a) (.list ds)
inductive xy (H:Hp):Qby->List PyData->Prop
 |nil:xy H [] []
 |cons {x:V} {d:PyData} {xs:Qby} {ds:List PyData}:xx H x d->xy H xs ds->xy H (x::xs) (d::ds)
end
mutual
theorem xx.same{H U:Hp}(s:ae H U):∀{x:V}{d:PyData},xx H x d->xx U x d
 |_,_,.aq=>.aq
 |_,_,.bl b=>.bl b
 |_,_,.int i=>.int i
 |_,_,.str z=>.str z
 |_,_,.tup e r=>.tup (s _ _ e) (xy.same s r)
 |_,_,.lst e r=>.lst (s _ _ e) (xy.same s r)
theorem xy.same{H U:Hp}(s:ae H U):∀{xs:Qby}{ds:List PyData},xy H xs ds->xy U xs ds
 |_,_,.nil=>.nil
 |_,_,.cons a r=>.cons (xx.same s a) (xy.same s r)
end
mutual
theorem WB{P:Program}{w:World}{H:Hp}{h:Heap}(ok:fg P w H h):∀{x:V}{d:PyData}{u:Value},xx H x d->RelV x u->∃as,Reads h u d as
 |_,_,_,.aq,r=>by cases(show _=Value.none from r);exact⟨[],.none⟩
 |_,_,_,.bl b,r=>by cases(show _=Value.bool b from r);exact⟨[],.bool b⟩
 |_,_,_,.int i,r=>by obtain⟨t,rfl⟩:=(show ∃t,_=Value.int i t from r);exact⟨[],.int i t⟩
 |_,_,_,.str z,r=>by obtain⟨t,rfl⟩:=(show ∃t,_=Value.str z t from r);exact⟨[],.str z t⟩
 |_,_,_,.tup (a:=a) (xs:=xs) e l,r=>by
  cases(show _=Value.ref a from r);obtain⟨_,its,rv,o,ho,hc,n,hd⟩:=(show bx P w H h a (.tup xs)from ok a _ e)
  obtain⟨as,ra⟩:=gG ok l rv;exact⟨as,.tuple ho hc hd (by simpa using ra)⟩
 |_,_,_,.lst (a:=a) (xs:=xs) e l,r=>by
  cases(show _=Value.ref a from r);obtain⟨_,its,n,rv,ho⟩:=(show bx P w H h a (.lst xs)from ok a _ e)
  obtain⟨as,ra⟩:=gG ok l rv;exact⟨a::as,.list ho rfl rfl (by simpa using ra)⟩
theorem gG{P:Program}{w:World}{H:Hp}{h:Heap}(ok:fg P w H h):∀{xs:Qby}{ds:List PyData}{us:Qbp},xy H xs ds->bg xs us->∃as,ReadsAll h us ds as
 |_,_,_,.nil,.nil=>⟨[],.nil⟩
 |_,_,_,.cons a l,.cons r rs=>by
  obtain⟨as,ra⟩:=WB ok a r;obtain⟨bs,rb⟩:=gG ok l rs;exact⟨as++bs,.cons ra rb⟩
end
abbrev CI:Str:="abcdefghijklmnopqrstuvwxyz"
abbrev WC:Qbo:=["all","none","way","box","pick"]
def WD(c:Nat):Bool:= !(Builtin.Str.occurrences CI ⟨#[c]⟩ 0 CI.length 1).isEmpty
def isName(z:Str):Bool:=decide (1<=z.length)&&decide (z.length<=8)&& !(WC.any λy=>y==z)&&z.cps.toList.all WD
theorem m9{i j:Str}:(decide (V.str i=V.str j))=(i==j):=by
 by_cases h:i=j
 ·subst h;simp
 ·rw[Qx (λe=>h (V.str.inj e))];exact(beq_eq_false_iff_ne.mpr h).symm
theorem ae.put{o:HO}(s:ae H0 U)(h:H0 p=none):ae H0 (L2.upd U p o):=λb u q=>by rw[aB (aN q h)];exact s b u q
theorem aH{u:TS}{D:Ends}(h:te Z H λx H1=>u D (Z.set i (some x)) H1):Bq (Ac te (n_ i)) u D Z H:=h
theorem pA{v:V}{u:TS}{D:Ends}(h:u D (Z.set i (some v)) H):Bq (Ac (tC v) (n_ i)) u D Z H:=h
theorem Inv.Fo{T:Addr}{o:HO}(I:Inv X B Z H s)(g:∀b∈ch,uv X B H b)(k:∀b o,b∉ch->s.heap.get? b=some o->M.get? b=some o)
  (i:s.heap.objs.size<=T) (h:bx X.prog X.w (upd H T o) M T o):Inv X B Z (upd H T o) {s with heap:=M,toks:=t'}:=by
 have f:H T=none:=I.hok.fresh i;have p:∀b j,s.heap.get? b=some j->b≠T:=λb j e=>yT (jZ (QA e) i);have l:∀b u,H b=some u->b∉ch:=λb u e d=>by rw[(g b d).1]at e;cases e
 refine I.step (g':=s.gens) (d':=s.drawn) (ch:=ch) (λb d=>?_) (λb o _ _ a e _=>k b o a e) (λb o _ _ a e _=>⟨o.slots,k b o a e⟩) (λb o a e n=>by rw[aB (p b o e)];exact n)
  (λb o a e=>⟨o,k b o a e⟩) (λb t e=>by rw[aB (aN e f)];exact e) (λb o u e=>by rw[aB (aN e f)];exact e) (λb A e=>⟨#[],by rw[aB (aN e f),e];simp⟩) (λm x=>?_) (λb u e=>?_) I.bare
 ·obtain⟨f0,f1,f2,f3,f4,f5⟩:=g b d;exact⟨f3,f1,f4,f5⟩
 ·obtain⟨o,es,ep,ho,r⟩:=x;exact⟨o,es,ep,k _ o (λz=>(g _ z).2.1 rfl) ho,r⟩
 ·by_cases d:b=T
  ·subst d;rw[aA]at e;cases e;exact h
  ·rw[aB d]at e;refine(I.hok b u e).stay (λc v a q=>k c v ?_ q) (λc q=>by rw[aB (aN q f)];exact q) λc t q=>q.upd λC y=>aN y f;rcases a with z|z
   ·rw[z];exact l b u e
   ·exact l c _ z
theorem Inv.JL(I:Inv X B Z H s)(d:∀b∈ch,uv X B H b)(k:∀b o,b∉ch->s.heap.get? b=some o->M.get? b=some o):Inv X B Z H {s with heap:=M,toks:=t'}:=by
 have g:∀b u,H b=some u->b∉ch:=λb u e f=>by rw[(d b f).1]at e;cases e
 refine I.step (g':=s.gens) (d':=s.drawn) (ch:=ch) (λb f=>?_) (λb o _ _ a e _=>k b o a e) (λb o _ _ a e _=>⟨o.slots,k b o a e⟩) (λb o a e n=>n)
  (λb o a e=>⟨o,k b o a e⟩) (λb h e=>e) (λb o u e=>e) (λb j e=>⟨#[],by rw[e];simp⟩) (λm i=>?_) (λb u e=>?_) I.bare
 ·obtain⟨f0,f1,f2,f3,f4,f5⟩:=d b f;exact⟨f3,f1,f4,f5⟩
 ·obtain⟨o,es,ep,ho,r⟩:=i;exact⟨o,es,ep,k _ o (λz=>(d _ z).2.1 rfl) ho,r⟩
 ·refine(I.hok b u e).stay (λc v a q=>k c v ?_ q) (λc q=>q) λc h q=>q;rcases a with z|z
  ·rw[z];exact g b u e
  ·exact g c _ z
abbrev CJ(a b:V):Hp->V->Hp->Prop:=λH x U=>∃T,x=.ref T/\H T=none/\U=upd H T (.tup [a,b])
theorem hV{T:Addr}{c d:V}{a b:Value}(r1:RelV c a)(r2:RelV d b)(e:h.get? T=some {cls:=.type "tuple",data:=.seq #[a,b]}):bx P w H h T (.tup [c,d]):=
 ⟨⟨show 2<=sizeLine by decide,λo q=>by rw[e]at q;cases q;rfl⟩,[a,b],.cons r1 (.cons r2 .nil),_,e,rfl,_,rfl⟩
theorem kN{l m:Nat}(a:l<n)(b:m<n):ZipApart (n+4) (n+2) (n+3) n (n+1) l m:=by
 constructor<;>(show(_:Nat)≠_)<;>lia
def JM(K : Q0)(a b : Addr) : It :=
  ⟨λi H => ∃xs ys x y, ao K H a xs /\ ao K H b ys /\ xs[i]? = some x /\ ys[i]? = some y, λi H x U => ∃c d, (∀xs, ao K H a xs -> xs[i]? = some c) /\ (∀ys, ao K H b ys -> ys[i]? = some d) /\ CJ c d H x U,
   λi H => ∃xs ys, ao K H a xs /\ ao K H b ys /\ (xs.length <= i \/ ys.length <= i)⟩
abbrev WE(z TI TO c d a b:Addr)(i:Nat)(h:Heap):Prop:=IsZip h z TI TO .none/\IsPair h TI (.ref c) (.ref d)/\(∃u v,IsPair h TO u v)/\h.IsListIter c a i/\h.IsListIter d b i
theorem zY{K:Q0}{k:Nat}{L:Pos}(z TI TO m n a b:Addr)(D:ZipApart z TI TO m n a b):Turn P w K (.Tuple yo k L) (JM K a b) [z,TI,TO,m,n] z (WE z TI TO m n a b)where
 mem:=by simp
 obj:=λi h st c l=>by
  obtain⟨hz,wc,⟨u,v,Aj⟩,⟨o1,e1,c1,d1⟩,o2,e2,c2,d2⟩:=st;simp only[Qp,QB,or_false]at l;rcases l with rfl|rfl|rfl|rfl|rfl
  ·exact⟨_,hz,λv z=>by have g:Data.fields _=Data.cell v:=z;cases g⟩
  ·exact⟨_,wc,λv z=>by have g:Data.seq _ _=Data.cell v:=z;cases g⟩
  ·exact⟨_,Aj,λv z=>by have g:Data.seq _ _=Data.cell v:=z;cases g⟩
  ·exact⟨_,e1,λv z=>by rw[d1]at z;cases z⟩
  ·exact⟨_,e2,λv z=>by rw[d2]at z;cases z⟩
 keep:=λi h t st k=>by
  obtain⟨hz,wc,⟨u,v,Aj⟩,O,Y⟩:=st;exact⟨k z (by simp) _ hz,k TI (by simp) _ wc,⟨u,v,k TO (by simp) _ Aj⟩,O.at λo x=>k m (by simp) o x,Y.at λo x=>k n (by simp) o x⟩
 item:=by
  intro X N Q R l i j s Z H E I A st T;subst N Q R;obtain⟨hz,wc,⟨u0,v0,Aj⟩,O,Y⟩:=st;obtain⟨xs,V,x,y,mi,oq,hx,C⟩:=T;obtain⟨its,rv,p,Fl⟩:=I.list mi;obtain⟨its2,Ak,p2,JN⟩:=I.list oq;obtain⟨u,hu,ru⟩:=rv.get hx;obtain⟨u2,WG,WH⟩:=Ak.get C;refine wpAny_pyNext_zip_item D hz wc Aj O Y p.isList p2.isList (x:=u) (y:=u2) (by simpa using hu) (by simpa using WG) λt a1 a2 a3 a4 a5 a6 G=>?_;have I1:Inv X j Z (upd H s.heap.objs.size (.tup [x,y])) {s with heap:=t,toks:=s.toks}:=I.Fo (t':=s.toks) A (λb o d e=>G b o (λz=>d (by simp[z])) (λz=>d (by simp[z])) (λz=>d (by simp[z])) (λz=>d (by simp[z])) e) (Qz _) (hV ru WH a5);refine⟨_,rfl,wpAny_letOwnedTupleGo_zip (s:={s with heap:=t}) a1 λBy WI r=>?_⟩;have be:∀b∈[z,TI,TO,m,n],b≠s.heap.objs.size:=λc l g=>by
   simp only[Qp,QB,or_false]at l;obtain⟨o1,e1,_⟩:=O;obtain⟨o2,e2,_⟩:=Y;rcases l with rfl|rfl|rfl|rfl|rfl
   ·exact yT (QA hz) g
   ·exact yT (QA wc) g
   ·exact yT (QA Aj) g
   ·exact yT (QA e1) g
   ·exact yT (QA e2) g
  have x_:∀b∈[z,TI,TO,m,n],uv X j (upd H s.heap.objs.size (.tup [x,y])) b:=λb d=>by
   obtain⟨f0,f⟩:=A b d;exact⟨by rw[aB (be b d)];exact f0,f⟩
  obtain⟨f0,f1,f2,f3,f4,f5⟩:=x_ z (by simp);refine⟨.ref s.heap.objs.size,_,I1.turned (t':=s.toks) (λb o d q=>(r.2 b d).trans q) f0 f1 f3 f4 f5,rfl,⟨x,y,λV C=>by rw[I.IZ C mi];exact hx,λV Cz=>by rw[I.IZ Cz oq];exact C,_,rfl,I.hok.fresh (Qz _),rfl⟩,?_,λb d=>(x_ b d).1⟩;refine⟨WI,(r.2 _ D.TIz).trans (G _ _ D.TIz D.TITO D.TIi1 D.TIi2 wc),⟨_,_,(r.2 _ D.TOz).trans a2⟩,a3.at λo q=>(r.2 _ D.i1z).trans q,a4.at λo q=>(r.2 _ D.i2z).trans q⟩
 done:=by
  intro X N Q R l i j s Z H E I A st T;subst N Q R;obtain⟨hz,wc,⟨u0,v0,Aj⟩,O,Y⟩:=st;obtain⟨xs,V,mi,oq,hx⟩:=T;obtain⟨its,rv,p,Fl⟩:=I.list mi;obtain⟨its2,Ak,p2,JN⟩:=I.list oq;have hl:=rv.length;have Cy:=Ak.length;refine wpAny_pyNext_zip_end (I.ok.hd l) D hz wc Aj O Y p.isList p2.isList ?_ λt G=>⟨rfl,I.JL (t':=s.toks) A λb o d q=>G b o (λz=>d (by simp[z])) (λz=>d (by simp[z])) (λz=>d (by simp[z])) (λz=>d (by simp[z])) q⟩
  rcases hx with hx|hx
  ·exact .inl (by simp;lia)
  ·exact .inr (by simp;lia)
 self:=λ_ _ _ _ _ st h=>wpAny_pyIter_zip st.1 h
section
variable{k:Nat}{p pos:Pos}{a b:Expr}{ta:TA}
def Nv(K:Q0)(a:TA):TI:=λZ H R=>a Z H λvs H1=>∃l m xs ys,vs=[.ref l,.ref m]/\ao K H1 l xs/\ao K H1 m ys/\R (JM K l m) H1
theorem WJ(r:Gl X "zip")(t:X.mg "zip"=none)(u:PA X [a,b] ta)(hs:starEach [a,b] X.env=[(false,eval a X.env),(false,eval b X.env)]:=by rfl)(i:starEach [b] X.env=[(false,eval b X.env)]:=by rfl):
  PI X (.Tuple yo k Bk) (.Call (.Name "zip" p) [a,b] [] pos) (Nv X.K ta):=by
 intro d s j H R I h;refine Call_ (gE I r t boot_zip (Qau (av (u pos d s j H _ I h) λus c ⟨vs,n,f,w,z⟩=>?_) (by rw[hs,i]) (by rw[i];rfl)));obtain⟨l,m,xs,ys,e,mi,oq,q⟩:=z;subst e;obtain⟨u1,u2,rfl,JO,JP⟩:=w.two;cases JO;cases JP;obtain⟨its,rv,pl,g⟩:=f.list mi;obtain⟨its2,Ak,DS,JN⟩:=f.list oq;have A:l<c.heap.objs.size:=by obtain⟨_,e,_⟩:=pl.isList;exact QA e
 have C:m<c.heap.objs.size:=by obtain⟨_,e,_⟩:=DS.isList;exact QA e
 refine call_zip_2 pl.isList DS.isList λD g E G L N P Q=>wpAny_pyIter_zip g ?_;have T:Inv X d j n {c with heap:=D}:=f.kept (t':=c.toks) Q;have ne:∀{x y:Nat},x<y->x≠y:=λh=>yT h;have V:∀{x y:Nat},y<x->x≠y:=λh=>Qah h;refine⟨c.heap.objs.size+4,[c.heap.objs.size+4,c.heap.objs.size+2,c.heap.objs.size+3,c.heap.objs.size,c.heap.objs.size+1],_,_,n,rfl,T,zY _ _ _ _ _ l m ?_,⟨g,E,⟨_,_,G⟩,L,N⟩,λb o=>?_,q⟩
 ·exact kN A C
 ·simp only[Qp,QB,or_false]at o;rcases o with rfl|rfl|rfl|rfl|rfl<;>exact f.sy (by simp) (f.hok.fresh (by simp))
theorem WK(K:Q0)(c:Gl X "zip")(d:X.mg "zip"=none)(e:SA X [a,b] ta)(h:X.K=K:=by rfl)(hs:starEach [a,b] X.env=[(false,eval a X.env),(false,eval b X.env)]:=by rfl)(f:starEach [b] X.env=[(false,eval b X.env)]:=by rfl):
  SI X (.Tuple yo k Bk) (.Call (.Name "zip" p) [a,b] [] pos) (Nv K ta):=by subst h;exact⟨WJ c d e.h hs f⟩
end
def BA(J:It)(ok:Hp->Prop)(n:Nat)(a b:Nat->V):Prop:=
 ∀H,ok H->(∀i,i<n->J.go i H/\∀x U,J.pe i H x U->CJ (a i) (b i) H x U)/\J.stop n H
theorem WL{K:Q0}(xs ys:Qby):BA (JM K a b) (λH=>ao K H a xs/\ao K H b ys) (min xs.length ys.length) (λi=>xs.getD i .aq) (λi=>ys.getD i .aq):=λH c=>
 ⟨λi l=>⟨⟨xs,ys,xs[i]'(by lia),ys[i]'(by lia),c.1,c.2,by simp,by simp⟩,λx e ⟨f,g,h,d,y⟩=>by
  have j:xs.getD i V.aq=f:=by rw[Qb,h xs c.1];rfl
  have k:ys.getD i V.aq=g:=by rw[Qb,d ys c.2];rfl
  show CJ (xs.getD i .aq) (ys.getD i .aq) H x e;rw[j,k];exact y⟩,⟨xs,ys,c.1,c.2,by lia⟩⟩
abbrev g2(K:Q0)(a b:Nat):TG:=DF K 2 (DE (n_ a) (DE (n_ b) GH))
theorem eI{K:Q0}{a b:Nat}{T:Addr}{c d:V}{Q:St->Hp->Prop}(h:H T=some (.tup [c,d]))(q:Q ((Z.set a (some c)).set b (some d)) H):g2 K a b (.ref T) Z H Q:=
 ⟨T,_,rfl,ay.of h,rfl,_,_,rfl,_,_,rfl,rfl,q⟩
theorem WM{K:Q0}{J:It}{ok:Hp->Prop}{f g:Nat->V}{a b:Nat}{j:TS}{D:Ends}(l:BA J ok n f g)(c:Nat->St->Hp->Prop)(h0:c 0 Z H)(hok:∀i o H,i<=n->c i o H->ok H)
  (hs:∀i Z H T,i<n->c i Z H->H T=none->j {D with nx:=c (i+1),ct:=c (i+1),bk:=D.nx} ((Z.set a (some (f i))).set b (some (g i))) (upd H T (.tup [f i,g i]))) (q:∀Z H,c n Z H->D.nx Z H):
  ∃W:Nat->Nat->St->Hp->Prop,(∃m,W 0 m Z H)/\∀i m Z H,W i m Z H->
   (J.stop i H/\D.nx Z H)\/(J.go i H/\∃N:St->Hp->Prop,(∀d U,N d U->∃k,k<m/\W (i+1) k d U)/\∀x U,J.pe i H x U->g2 K a b x Z U λh H2=>j {D with nx:=N,ct:=N,bk:=D.nx} h H2):=by
 refine⟨λi m Z H=>m=n-i/\i<=n/\c i Z H,⟨n,by simp,Qaj _,h0⟩,?_⟩;rintro i m Z H ⟨rfl,r,p⟩;obtain⟨k1,k2⟩:=l H (hok i Z H r p);by_cases be:i<n
 ·refine .inr ⟨(k1 i be).1,c (i+1),λd U s=>⟨n-(i+1),by lia,rfl,be,s⟩,λx U y=>?_⟩;obtain⟨T,rfl,hT,rfl⟩:=(k1 i be).2 x U y;exact eI aA (hs i Z _ T be p hT)
 ·have e:i=n:=by lia
  subst e;exact .inl ⟨k2,q Z H p⟩
end L2
namespace PySem
end PySem
namespace PySem.F
end PySem.F
namespace L2
open PySem PySem.Spec PyProof.Rows
def p_(H:Hp)(ys:Qby)(a:Qbv):Prop:=ys.length=a.length/\∀i(h:i<a.length),∃b,ys[i]? =some (.ref b)/\H b=some (.tup [kV a[i].1,a[i].2])
def dictOf(a:Qbv):Qbv:=a.foldl (λkvs r=>putK kvs r.1 r.2) []
theorem rM(a:Qbv):∀kvs:Qbv,(a.foldl (λkvs r=>putK kvs r.1 r.2) kvs).length<=kvs.length+a.length:=by
 induction a with
 |nil=>intro kvs;exact Qz _
 |cons r a ih=>
  intro kvs;have b:=ih (putK kvs r.1 r.2);have c:=bW kvs r.1 r.2;rw[List.foldl_cons,Qaf]
  lia
theorem o6(a:Qbv):(dictOf a).length<=a.length:=by have:=rM a [];simpa[dictOf]using this
theorem rS(a:Qbv)(i:Nat)(h:i<a.length):dictOf (a.take (i+1))=putK (dictOf (a.take i)) a[i].1 a[i].2:=by
 unfold dictOf;rw[Qs,Qa h,Option.toList_some,Qa2];rfl
def Tk(H U:Hp):Prop:=∀b xs,H b=some (.tup xs)->U b=some (.tup xs)
theorem Tk.refl:Tk H H:=λ_ _ h=>h
theorem Tk.trans{d e:Hp}(a:Tk H d)(b:Tk d e):Tk H e:=λc f h=>b c f (a c f h)
theorem ae.ts(s:ae H U):Tk H U:=λb a h=>s b _ h
theorem Tk.upd{H U:Hp}{a:Addr}{o:HO}(s:Tk H U)(h:U a=none):Tk H (L2.upd U a o):=λb c e=>by rw[aB (aN (s b c e) h)];exact s b c e
theorem Tk.set{o c:HO}(s:Tk H U)(h:U a=some o)(d:∀xs,o≠.tup xs):Tk H (L2.upd U a c):=λb xs e=>by
 rw[aB (λz=>by rw[z]at e;have:=s a xs e;rw[h]at this;cases this;exact d _ rfl)];exact s b xs e
inductive AO (H:Hp):V->PyData->Prop
 |str (z:Str):AO H (.str z) (.str z)
 |tup {a:Addr} {xs:Qby} {ds:List PyData}:H a=some (.tup xs)->xs.length=ds.length->(∀i(h:i<xs.length)(M:i<ds.length),AO H xs[i] ds[i])->AO H (.ref a) (.tuple ds)
theorem AO.ts(s:Tk H U){v:V}{d:PyData}(h:AO H v d):AO U v d:=by
 induction h with
 |str z=>exact .str z
 |tup e hl _ ih=>exact .tup (s _ _ e) hl ih
theorem gY:∀{ds:List PyData},(∀d∈ds,d.showable=true)->PyData.showableAll ds=true
 | [],_=>by simp[PyData.showableAll]
 |d::ds,h=>by simp[PyData.showableAll,h d xX,gY λx a=>h x (Qh _ a)]
theorem iB:∀{ds:List PyData},(∀d∈ds,d.hasDict=false)->PyData.hasDictAll ds=false
 | [],_=>by simp[PyData.hasDictAll]
 |d::ds,h=>by simp[PyData.hasDictAll,h d xX,iB λx a=>h x (Qh _ a)]
theorem lD{k:Nat}:∀{ds:List PyData},(∀d∈ds,d.depth<=k)->PyData.depthAll ds<=k
 | [],_=>by simp[PyData.depthAll]
 |d::ds,h=>by
  have b:=h d xX;have c:=lD (ds:=ds) λx a=>h x (Qh _ a);simp[PyData.depthAll];lia
theorem zM{n:Nat}:∀{ts:Qbo},(∀t∈ts,t.length<=n)->(ts.map (·.length)).sum<=ts.length*n
 | [],_=>by simp
 |t::ts,h=>by
  have b:=h t xX;have c:=zM (ts:=ts) λx a=>h x (Qh _ a);rw[xA,List.sum_cons,Qaf,Nat.add_mul];lia
def TB(H:Hp)(v:V)(k n:Nat):Prop:=∃d,AO H v d/\d.depth<=k/\d.shown.length<=n/\d.showable=true/\d.hasDict=false
def Wd(z:Str):Prop:=z.length<=20/\∀c∈z.cps.toList,c<128
theorem TB.mono{v:V}{k a b:Nat}(h:TB H v k n)(c:k<=a)(e:n<=b):TB H v a b:=by
 obtain⟨d,O,Y,h3,h4,h5⟩:=h;exact⟨d,O,by lia,by lia,h4,h5⟩
theorem TB.ts{H U:Hp}(s:Tk H U){v:V}{k n:Nat}(h:TB H v k n):TB U v k n:=by
 obtain⟨d,O,Y⟩:=h;exact⟨d,O.ts s,Y⟩
theorem TB.str{H:Hp}{z:Str}(h:Wd z):TB H (.str z) 0 202:=by
 refine⟨.str z,.str z,by simp[PyData.depth],?_,by simp[PyData.showable],by simp[PyData.hasDict]⟩;show(PyData.str z).shown.length<=202;simp only[PyData.shown];have:=StrLaws.reprText_len z (λc a=>jZ (h.2 c a) (by decide));have:=h.1
 lia
theorem TB.tup{H:Hp}{a:Addr}{xs:Qby}{k n:Nat}(e:H a=some (.tup xs))(h:∀x∈xs,TB H x k n):TB H (.ref a) (k+1) (xs.length*(n+2)+3):=by
 have o:∀i:Fin xs.length,∃d,AO H xs[i.val] d/\d.depth<=k/\d.shown.length<=n/\d.showable=true/\d.hasDict=false:=λi=>h _ (Qj i.isLt);obtain⟨f,hf⟩:=QaV o;have c:∀d∈List.ofFn f,d.depth<=k/\d.shown.length<=n/\d.showable=true/\d.hasDict=false:=λd b=>by
  obtain⟨i,rfl⟩:=List.mem_ofFn.mp b;exact(hf i).2
 refine⟨.tuple (List.ofFn f),.tup e (by simp) λi g j=>?_,?_,?_,?_,?_⟩
 ·have:=(hf ⟨i,g⟩).1;simpa using this
 ·simp only[PyData.depth];have:=lD (λd b=>(c d b).1)
  lia
 ·simp only[PyData.shown];have g:=tupleText_len_le (PyData.shownAll (List.ofFn f));have l:PyData.shownAll (List.ofFn f)=(List.ofFn f).map PyData.shown:=shownAll_eq_map _;have j:((PyData.shownAll (List.ofFn f)).map (·.length)).sum<=(PyData.shownAll (List.ofFn f)).length*n:=zM λt m=>by
   rw[l]at m;obtain⟨d,b,rfl⟩:=Yy.mp m;exact(c d b).2.1
  have p:(PyData.shownAll (List.ofFn f)).length=xs.length:=by rw[l];simp
  rw[p]at g j;rw[Nat.mul_add];lia
 ·simp only[PyData.showable];exact gY λd b=>(c d b).2.2.1
 ·simp only[PyData.hasDict];exact iB λd b=>(c d b).2.2.2
theorem lE(a:Qbv):(a.map (·.1)).Nodup->∀i(h:i<a.length),a_ (dictOf a) a[i].1=some a[i].2:=by
 have gen:∀(a:Qbv)(b:Qbv),(a.map (·.1)).Nodup->∀k,a_ (a.foldl (λb r=>putK b r.1 r.2) b) k=((a.find? λr=>decide (r.1=k)).map (·.2)).or (a_ b k):=by
  intro a
  induction a with
  |nil=>intro b _ k;simp
  |cons r a ih=>
   intro b c k;rw[xA,jK]at c;rw[List.foldl_cons,ih _ c.2,nO];by_cases e:r.1=k
   ·have:a.find? (λr=>decide (r.1=k))=none:=by
     rw[Qbc];intro x d z;have f:=Qt z;exact c.1 (Yy.mpr ⟨x,d,by rw[f,e]⟩)
    rw[this,Qax,if_pos e.symm];simp[e]
   ·rw[if_neg (λz=>e z.symm),Qax];simp[e]
 intro c i h;unfold dictOf;rw[gen a [] c];have:a.find? (λr=>decide (r.1=a[i].1))=some a[i]:=by
  rw[Qbd];refine⟨by simp,i,h,rfl,λj g=>?_⟩;have l:(a.map (·.1))[j]'(by simp;lia)≠(a.map (·.1))[i]'(by simpa using h):=λz=>by
   exact(Qac.mp c j i (by simp;lia) (by simpa using h) g) z
  simpa using l
 rw[this];rfl
abbrev ck(a:Qbw):Qbv:=a.map λr=>(Sum.inr r.1,r.2)
def CK(H:Hp)(v:V)(o:Option Str):Prop:=∃b,v=.ref b/\((∃s ys,H b=some (.tup (.str s::ys))/\s≠"as"/\o=none)\/∃x,H b=some (.tup [.str "as",.str x])/\o=some x)
theorem CK.ts(s:Tk H U){v:V}{o:Option Str}(h:CK H v o):CK U v o:=by
 obtain⟨b,e,h⟩:=h;refine⟨b,e,?_⟩;rcases h with⟨z,d,a,c⟩|⟨x,a,c⟩
 ·exact .inl ⟨z,d,s _ _ a,c⟩
 ·exact .inr ⟨x,s _ _ a,c⟩
structure qz(H:Hp)(a:Addr)(xs:Qby)(rs:Qbw)(nx:Str->Option Str)(ρ:Str->Nat):Prop where
 at_:H a=some (.tup xs)
 ps:p_ H xs (ck rs)
 nd:(rs.map (·.1)).Nodup
 len:rs.length<=300
 pos:0<rs.length
 as:∀r∈rs,CK H r.2 (nx r.1)
 jl:∀r∈rs,∀y,nx r.1=some y->y∈rs.map (·.1)/\ρ y<ρ r.1
 rk:∀r∈rs,ρ r.1<=rs.length
 tb:∀r∈rs,Wd r.1/\TB H r.2 3 8273
theorem p_.ts{ys:Qby}{a:Qbv}(p:p_ H ys a)(s:Tk H U):p_ U ys a:=⟨p.1,λi h=>let ⟨b,e1,e2⟩:=p.2 i h;⟨b,e1,s _ _ e2⟩⟩
section
variable{xs:Qby}{rs:Qbw}{nx:Str->Option Str}{ρ:Str->Nat}
theorem qz.ts(g:qz H a xs rs nx ρ)(s:Tk H U):qz U a xs rs nx ρ:=
 ⟨s _ _ g.at_,g.ps.ts s,g.nd,g.len,g.pos,λr b=>(g.as r b).ts s,g.jl,g.rk,λr b=>⟨(g.tb r b).1,(g.tb r b).2.ts s⟩⟩
theorem m5(h:(rs.map (·.1)).Nodup):((ck rs).map (·.1)).Nodup:=by
 have e:(ck rs).map (·.1)=(rs.map (·.1)).map (Sum.inr:Str->Key):=by simp[ck,Qn,QC]
 rw[e];exact List.Pairwise.map _ (λa b c z=>c (Qas z)) h
theorem qz.get(g:qz H a xs rs nx ρ)(b:x∈rs.map (·.1)):∃v,(x,v)∈rs/\a_ (dictOf (ck rs)) (.inr x)=some v:=by
 obtain⟨r,hr,rfl⟩:=Yy.mp b;obtain⟨i,hi,rfl⟩:=Qi hr;refine⟨rs[i].2,hr,?_⟩;have:=lE (ck rs) (m5 g.nd) i (by simpa using hi);simpa using this
def AQ(nx:Str->Option Str)(x:Str):Str:=(nx x).getD x
def qi(nx:Str->Option Str):Nat->Str->Str
 |0,x=>x
 |n+1,x=>qi nx n (AQ nx x)
theorem xW(n:Nat):∀x,qi nx (n+1) x=AQ nx (qi nx n x):=by
 induction n with
 |zero=>intro x;rfl
 |succ n ih=>intro x;rw[qi,ih];rfl
theorem cH(n:Nat)(h:nx x=none):qi nx n x=x:=by
 induction n with
 |zero=>rfl
 |succ n ih=>rw[qi];rw[show AQ nx x=x by simp[AQ,h]];exact ih
theorem qz.run(g:qz H a xs rs nx ρ):∀(n:Nat)(x:Str),x∈rs.map (·.1)->ρ x<=n->qi nx n x∈rs.map (·.1)/\nx (qi nx n x)=none/\qi nx (n+1) x=qi nx n x:=by
 intro n
 induction n with
 |zero=>
  intro x b c;obtain⟨r,ff,rfl⟩:=Yy.mp b;cases e:nx r.1 with
  |none=>exact⟨b,e,cH 1 e⟩
  |some y=>have:=(g.jl r ff y e).2;lia
 |succ n ih=>
  intro x b c;obtain⟨r,ff,rfl⟩:=Yy.mp b;cases e:nx r.1 with
  |none=>
   rw[cH _ e,cH _ e];exact⟨b,e,rfl⟩
  |some y=>
   have d:AQ nx r.1=y:=by simp[AQ,e]
   obtain⟨O,Y⟩:=g.jl r ff y e;have:=ih y O (by lia);rw[qi,qi,d];exact this
def mj(nx:Str->Option Str)(n:Nat)(x:Str):Str:=qi nx n x
theorem qz.AR(g:qz H a xs rs nx ρ)(b:x∈rs.map (·.1)):mj nx rs.length x∈rs.map (·.1)/\nx (mj nx rs.length x)=none:=by
 obtain⟨r,hr,rfl⟩:=Yy.mp b;obtain⟨O,Y,_⟩:=g.run rs.length r.1 b (g.rk r hr);exact⟨O,Y⟩
theorem qz.JR(g:qz H a xs rs nx ρ){y:Str}(b:x∈rs.map (·.1))(e:nx x=some y):mj nx rs.length y=mj nx rs.length x:=by
 obtain⟨r,hr,rfl⟩:=Yy.mp b;obtain⟨O,Y,h3⟩:=g.run rs.length r.1 b (g.rk r hr);have c:AQ nx r.1=y:=by simp[AQ,e]
 rw[qi,c]at h3;exact h3
end
theorem rJ(xs:Qby)(k:Nat):qx xs (some (k:Int)) none=xs.drop k:=by
 unfold qx;rw[HT.qH,HT.sJ];by_cases h:k<=xs.length
 ·rw[Nat.min_eq_left h];exact Qab (by simp)
 ·rw[Nat.min_eq_right (by lia)];simp[List.drop_eq_nil_of_le (show xs.length<=k by lia)]
theorem zC(xs:Qby)(k:Nat):qx xs none (some (k:Int))=xs.take k:=by
 unfold qx;rw[HT.qH,HT.sJ];simp
theorem xM{l:List α}(h:l.Nodup){x:α}(hi:l[i]? =some x)(c:l[j]? =some x):i=j:=by
 obtain⟨a,e1⟩:=u6.mp hi;obtain⟨b,e2⟩:=u6.mp c;rcases Nat.lt_trichotomy i j with z|z|z
 ·exact((Qac.mp h i j a b z) (e1.trans e2.symm)).elim
 ·exact z
 ·exact((Qac.mp h j i b a z) (e2.trans e1.symm)).elim
theorem pL [BEq α][LawfulBEq α]{l:List α}(h:l.Nodup){x:α}(hi:l[i]? =some x):l.idxOf x=i:=by
 have a:x∈l:=QD hi;have b:l.idxOf x<l.length:=List.idxOf_lt_length_of_mem a;have c:l[l.idxOf x]? =some x:=by rw[Qa b,List.getElem_idxOf]
 exact xM h c hi
open Classical in
theorem eE(a:z.length<=20)(b:∀c∈z.cps.toList,c<128):Wd z:=⟨a,b⟩
section
variable{β:Type}{R:α->β->Prop}
theorem m6:∀{xs b:List α}{ys c:List β},Paired R xs ys->Paired R b c->Paired R (xs++b) (ys++c)
 |_,_,_,_,.nil,h=>h
 |_,_,_,_,.cons a r,h=>.cons a (m6 r h)
theorem Nz:∀{xs:List α}{ys:List β},xs.length=ys.length->(∀i(h:i<xs.length)(M:i<ys.length),R xs[i] ys[i])->Paired R xs ys
 | [],[],_,_=>.nil
 |x::xs,y::ys,hl,h=>.cons (h 0 (by simp) (by simp)) (Nz (by simpa using hl) λi a b=>h (i+1) (by simpa using a) (by simpa using b))
theorem wE:∀{xs:List α}{ys:List β},Paired R xs ys->xs.length=ys.length/\∀i(h:i<xs.length)(M:i<ys.length),R xs[i] ys[i]
 |_,_,.nil=>⟨rfl,λi h=>absurd h (by simp)⟩
 |_,_,.cons a r=>by
  obtain⟨O,Y⟩:=wE r;refine⟨by simp[O],λi h M=>?_⟩;cases i with
  |zero=>exact a
  |succ i=>exact Y i (by simpa using h) (by simpa using M)
end
def PR(H:Hp)(x:V)(r:Key×V):Prop:=∃b,x=.ref b/\H b=some (.tup [kV r.1,r.2])
theorem fN{xs:Qby}{c:Qbv}:p_ H xs c↔Paired (PR H) xs c:=by
 constructor
 ·rintro⟨hl,h⟩;refine Nz hl λi d a=>?_;obtain⟨b,e1,e2⟩:=h i a;rw[Qa d]at e1;exact⟨b,QE e1,e2⟩
 ·intro h;obtain⟨hl,M⟩:=wE h;refine⟨hl,λi a=>?_⟩;obtain⟨b,e1,e2⟩:=M i (by lia) a;exact⟨b,by rw[Qa (by lia),e1],e2⟩
section
variable{xs:Qby}{rs:Qbw}
theorem qR(a b:Qbw):ck (a++b)=ck a++ck b:=by simp[ck]
theorem pG:p_ H [] (ck []):=fN.mpr .nil
theorem o5(h:p_ H xs (ck rs)){n:Str}{v:V}(e:H b=some (.tup [.str n,v])):p_ H (xs++[.ref b]) (ck (rs++[(n,v)])):=by
 rw[qR];exact fN.mpr (m6 (fN.mp h) (.cons ⟨b,rfl,e⟩ .nil))
end
def KD(w:World)(K:Q0)(a:Addr)(kvs:Qbv):Prop:=∀P:Program,∃(o:Obj)(es:Array DictEntry)(ep:Nat)(vs:List (Key×Value)),K.lookup a=some o/\(a==sysModules)=false/\o.ExactDict/\o.data=.dict es ep/\KeysOf (c_ P w) es/\Pairs (c_ P w) es.toList vs/\(vs.map (·.1)).Nodup/\KV kvs vs
section
variable{kvs:Qbv}
theorem KD.of(h:KD X.w X.K a kvs)(I:Inv X B Z H s):(a==sysModules)=false/\∃vs,KV kvs vs/\s.heap.DictOf (c_ X.prog X.w) a vs:=by
 obtain⟨o,es,ep,vs,O,Y,h3,h4,h5,h6,h7,h8⟩:=h X.prog;exact⟨Y,vs,h8,o,es,ep,I.qt a o O,h3,h4,h5,h6,h7⟩
variable{pos p:Pos}
def NB(kvs:Qbv)(a:TE):TE:=λZ H Q=>a Z H λy H1=>∃k,y=kV k/\Q (.bl (a_ kvs k).isSome) H1
theorem WO{K:Q0}(g:∃a,X.mg x=some (.ref a)/\KD w K a kvs)(i:PE X e te)(j:X.w=w)(l:X.K=K)(m:Gl X x)(n:QbE x):PC X .In e (.Name x p) (NB kvs te):=by
 subst j l;obtain⟨a,hm,kd⟩:=g;intro b s c H Q I h;refine av (i b s c H _ I h) ?_;rintro L o ⟨y,d,q,r,k,t,A⟩;subst t;refine av (lT (v:=.ref a) m hm rfl n b o c d (λv C=>v=.ref a/\C=d) q ⟨rfl,rfl⟩) λu N ⟨z,P,f,D,E,G⟩=>?_;subst E G;cases D;obtain⟨O,vs,rel,dd⟩:=kd.of f;refine wpAny_in_of (gX r) O dd.mapOf ?_;rw[<- (rel.val k).CA];exact⟨.bl _,_,f.tok _,rfl,A⟩
theorem WQ{K:Q0}(b:∃a,X.mg x=some (.ref a)/\KD w K a kvs)(c:SE X e te)(d:X.w=w:=by rfl)(f:X.K=K:=by rfl)(g:Gl X x:=by rfl)(i:QbE x:=by decide):ST X (.Compare e [.In] [.Name x p] pos) (tB (NB kvs te)):=⟨Sy (WO b c.h d f g i) rfl⟩
def WR(kvs:Qbv)(a:TE):TE:=λZ H Q=>a Z H λy H1=>∃k v,y=kV k/\a_ kvs k=some v/\Q v H1
theorem WS{K:Q0}(g:∃a,X.mg x=some (.ref a)/\KD w K a kvs)(i:SE X e te)(hs:E_ e)(c:X.w=w:=by rfl)(j:X.K=K:=by rfl)(l:Gl X x:=by rfl)(m:QbE x:=by decide):SE X (.Subscript (.Name x p) e pos) (WR kvs te):=by
 subst c j;obtain⟨a,hm,kd⟩:=g;constructor;intro b s d H Q I h;refine vR PySem.F.slot_dict_getitem.lookup hs (av (lT (v:=.ref a) l hm rfl m b s d H (λv n=>v=.ref a/\n=H) I ⟨rfl,rfl⟩) λu r ⟨z,N,t,A,C,D⟩=>?_);subst C D;cases A;refine av (i.h b r d _ _ t h) ?_;rintro P R ⟨y,T,f,E,k,v,G,L,q⟩;subst G;obtain⟨O,vs,rel,dd⟩:=kd.of f;obtain⟨w',c,vz⟩:=nq.some_of (v:=v) (o:=valueAt vs k) (by rw[<- L];exact rel.val k);exact⟨dd.typeIs,wpAny_getItem_of (gX E) dd.mapOf c ⟨v,_,f.tok _,vz,q⟩⟩
end
def jg(kvs:Qbv)(i:Nat):V:=((kvs[i]?).map λa=>kV a.1).getD .aq
def JS(a:Addr)(o:Obj)(kvs:Qbv):It:=⟨λi H=>H a=some (.af o (.dK kvs))/\i<kvs.length,λi H x U=>U=H/\x=jg kvs i,λi H=>H a=some (.af o (.dK kvs))/\kvs.length=i⟩
theorem tD(kvs:Qbv):Ai (JS a o kvs) (λH=>H a=some (.af o (.dK kvs))) kvs.length (jg kvs):=λH b=>⟨λi c=>⟨⟨b,c⟩,λx d h=>h⟩,b,rfl⟩
theorem NC{kvs:Qbv}{vs:List (Key×Value)}(r:KV kvs vs):∀{i:Nat}{p:Key×V},kvs[i]? =some p->∃q,vs[i]? =some q/\q.1=p.1:=by
 intro i
 induction r generalizing i with
 |nil=>intro p h;simp at h
 |cons a t ih=>
  intro p h;cases i with
  |zero=>simp at h;subst h;exact⟨_,by simp,a.1.symm⟩
  |succ i=>simp at h;simpa using ih h
theorem nL{k:Key}(h:(c_ P w).is k u=true):RelV (kV k) u:=by
 rcases bG h with⟨i,t,rfl,rfl⟩|⟨x,t,rfl,rfl⟩|⟨rfl,rfl⟩
 ·exact⟨t,rfl⟩
 ·exact⟨t,rfl⟩
 ·rfl
theorem KV.len{kvs:Qbv}{vs:List (Key×Value)}(r:KV kvs vs):kvs.length=vs.length:=Paired.length r
theorem xZ{K:Q0}{kvs:Qbv}(y:∃es,o.data=.dict es ep):Turn P w K tg (JS a o kvs) [it] it (λi h=>h.IsKeyIter it a i kvs.length ep)where
 mem:=by simp
 obj:=λi h st b g=>by
  have e:b=it:=by simpa using g
  subst e;obtain⟨o,e,c,d⟩:=st;exact⟨o,e,λv z=>by rw[d]at z;cases z⟩
 keep:=λi h j st k=>st.at λo e=>k it (by simp) o e
 item:=by
  intro X p r t A i f s C H E I m st u;subst p r t;obtain⟨hq,hi⟩:=u;obtain⟨e,z,hd,vs,rel,ob,es,nu,O,Y,h3,h4⟩:=(show bx X.prog X.w H s.heap a (.af o (.dK kvs))from I.hok a _ hq)
  obtain⟨es',fh⟩:=y;rw[e]at O;cases O;rw[fh]at h3;injection h3 with ii ik
  subst ii ik;obtain⟨q,mi,oq⟩:=NC rel (Qa hi);have n:=rel.len;obtain⟨f0,f1,f2,f3,f4,f5⟩:=m it (by simp);obtain⟨qk,qv⟩:=q;refine wpAny_pyNext_dict_item (knd:=c_ X.prog X.w) (kvs:=vs) (ep:=ep) (by rw[<- n];exact st) ⟨o,es',e,Y,fh,h4⟩ mi λl j G x L=>?_;have N:Inv X f C H {s with heap:=j}:=I.turned (t':=s.toks) (λb o g e=>(L.2 b g).trans e) f0 f1 f3 f4 f5;have D:j.IsKeyIter it a (i+1) kvs.length ep:=by rw[n];exact x
  obtain⟨o3,e3,c3,d3⟩:=id D;refine⟨l,rfl,kR (s:={s with heap:=j}) e3 c3 d3 (by decide) ⟨jg kvs i,H,N,?_,⟨rfl,rfl⟩,D,λb g=>(m b g).1⟩⟩;unfold jg;rw[Qa hi];show RelV (kV kvs[i].1) l;have Q:qk=kvs[i].1:=oq;rw[<- Q];exact nL G
 done:=by
  intro X p r t A i f s C H E I m st u;subst p r t;obtain⟨hq,hi⟩:=u;obtain⟨e,z,hd,vs,rel,ob,es,nu,O,Y,h3,h4⟩:=(show bx X.prog X.w H s.heap a (.af o (.dK kvs))from I.hok a _ hq)
  obtain⟨es',fh⟩:=y;rw[e]at O;cases O;rw[fh]at h3;injection h3 with ii ik
  subst ii ik;have n:=rel.len;obtain⟨f0,f1,f2,f3,f4,f5⟩:=m it (by simp);exact wpAny_pyNext_dict_end (knd:=c_ X.prog X.w) (kvs:=vs) (ep:=ep) (I.ok.hd A) (by rw[<- n];exact st) ⟨o,es',e,Y,fh,h4⟩ (by simp;lia) λj R=>⟨rfl,I.turned (t':=s.toks) (λb o g e=>R b o g e) f0 f1 f3 f4 f5⟩
 self:=λ_ _ _ _ _ st h=>wpAny_pyIter_keyiter st h
theorem jF{o:HO}(h:H a=some o):upd H a o=H:=by
 funext b;unfold upd;by_cases e:b=a
 ·rw[if_pos e,e,h]
 ·rw[if_neg e]
theorem Inv.freeze{kvs:Qbv}(I:Inv X B Z H s)(h:Rd H a (.dK kvs)):∃o es ep,o.data=.dict es ep/\Inv X B Z (upd H a (.af o (.dK kvs))) s/\s.heap.get? a=some o:=by
 rcases h with h|⟨o,h⟩
 ·have c:=(show bx X.prog X.w H s.heap a (.dK kvs)from I.hok a _ h)
  obtain⟨z,hd,vs,rel,o,es,ep,O,Y,h3,h4⟩:=c;have d:=I.write (x:=a) (e:=a) (M:=s.heap) (t':=s.toks) (o:=.af o (.dK kvs)) (by rw[h];exact True.intro) (.inl rfl) (λb u _ q=>q) ⟨o,O⟩ ⟨O,z,hd,vs,rel,o,es,ep,O,Y,h3,h4⟩;exact⟨o,es,ep,h3,d,O⟩
 ·obtain⟨e,z,hd,vs,rel,ob,es,ep,O,Y,h3,h4⟩:=(show bx X.prog X.w H s.heap a (.af o (.dK kvs))from I.hok a _ h)
  rw[e]at O;cases O;exact⟨o,es,ep,h3,by rw[jF h];exact I,e⟩
def WT(b:TE):TI:=λZ H R=>b Z H λx H1=>∃a kvs,x=.ref a/\Rd H1 a (.dK kvs)/\∀o,R (JS a o kvs) (upd H1 a (.af o (.dK kvs)))
theorem wI(f:SE X e te):SI X tg e (WT te):=by
 constructor;intro c s g H R I h;refine av (f.h c s g H _ I h) ?_;rintro v d ⟨x,p,i,j,a,kvs,k,l,q⟩;subst k;cases j;obtain⟨o,es,ep,hd,I2,ho⟩:=i.freeze l;obtain⟨e,z,we,vs,rel,ob,es',nu,O,Y,h3,h4⟩:=(show bx X.prog X.w _ d.heap a (.af o (.dK kvs))from I2.hok a _ aA)
 rw[e]at O;cases O;rw[hd]at h3;injection h3 with ii ik
 subst ii ik;refine wpAny_pyIter_dict (knd:=c_ X.prog X.w) (kvs:=vs) (ep:=ep) we ⟨o,es,e,Y,hd,h4⟩ ?_;have m:=rel.len;refine⟨d.heap.objs.size,[d.heap.objs.size],_,_,_,rfl,I2.kept (t':=d.toks) λb o e=>Qc _ e,xZ (kvs:=kvs) (a:=a) (o:=o) ⟨es,hd⟩,by rw[m];exact⟨_,Qd _ rfl,rfl,rfl⟩,λb n=>?_,q o⟩;have e:b=d.heap.objs.size:=by simpa using n
 subst e;exact I2.sy (Qz _) (I2.hok.fresh (Qz _))
def ND(n:Bool):R2:=λy x H Q=>∃a o,x=.ref a/\dc H a y o/\Q (.bl (n^^o.isSome)) H
theorem WU(c:X.A.units+1<cLine):dj X (compareOp .In) (ND false):=by
 intro b s i H x y v u Q I d e h;obtain⟨a,o,rfl,g,q⟩:=h;cases e;exact Va c I g d λj f=>⟨.bl o.isSome,H,f,rfl,by simpa using q⟩
theorem pB(c:X.A.units+1<cLine):dj X (compareOp .NotIn) (ND true):=by
 intro b s i H x y v u Q I d e h;obtain⟨a,o,rfl,g,q⟩:=h;cases e;exact Vb c I g d λj f=>⟨.bl (!o.isSome),H,f,rfl,by simpa using q⟩
theorem dc.rd{kvs:Qbv}{k:Key}(e:Rd H a (.dK kvs)):dc H a (kV k) (a_ kvs k):=.inl ⟨kvs,k,e,rfl,rfl⟩
inductive Dt where
 |str (z:Str)
 |tup (ds:List Dt)
 |g_
inductive DD (H:Hp):V->Dt->Prop
 |str {z:Str} (h:z.length<=100000):DD H (.str z) (.str z)
 |tup {a:Addr} {xs:Qby} {ds:List Dt}:H a=some (.tup xs)->xs.length=ds.length->xs.length<=1000->(∀i(h:i<xs.length)(M:i<ds.length),DD H xs[i] ds[i])->DD H (.ref a) (.tup ds)
 |aq:DD H .aq .g_
 |bl (b:Bool):DD H (.bl b) .g_
 |int (i:Int):DD H (.int i) .g_
 |lst {a:Addr} {xs:Qby}:H a=some (.lst xs)->DD H (.ref a) .g_
 |dct {a:Addr} {kvs:Qbv}:H a=some (.dK kvs)->DD H (.ref a) .g_
theorem DD.same(s:ae H U){v:V}{d:Dt}(h:DD H v d):DD U v d:=by
 induction h with
 |str h=>exact .str h
 |tup e hl hn _ ih=>exact .tup (s _ _ e) hl hn ih
 |aq=>exact .aq
 |bl b=>exact .bl b
 |int i=>exact .int i
 |lst e=>exact .lst (s _ _ e)
 |dct e=>exact .dct (s _ _ e)
def DT:Dt->Bool| .str z=>isName z|_=>false
def pairD:Dt->Bool| .tup [a,b]=>DT a&&DT b|_=>false
def NE:Dt->Str| .tup (.str z::_)=>z|_=>""
def zg(a b:Str):Bool:=decide (a.cps.toList<b.cps.toList)
def rising:Qbo->Bool
 |a::b::r=>zg a b&&rising (b::r)
 |_=>true
def JU:Dt->Bool| .tup ps=>ps.all pairD&&rising (ps.map NE)|_=>false
def DU(s:Str):Bool:=s=="box"||s=="pick"
def Fq(s:Str):Option Nat:=if s=="all" then some 0 else if s=="none" then some 0 else if s=="way" then some 2 else if s=="as" then some 1 else none
def headD:Dt->Bool
 | .tup (.str s::rest)=>if DU s then(match rest with| [p]=>JU p|_=>false)else match Fq s with|some n=>decide (rest.length=n)&&rest.all DT|none=>false
 |_=>false
theorem bq.imp{P:Program}{w:World}{K:Q0}{a:Str->Qbr}{base:Heap}{k:Nat}{x:Str}{b:Qbo}{c d:Sp}(F:bq P w K a base k x b c)(h:∀vs H Q E,d vs H Q E->c vs H Q E):bq P w K a base k x b d:=by
 obtain⟨f,fd,G,r⟩:=F;exact⟨f,fd,G.imp h,r⟩
theorem iX(b:Qbv):(b.map (·.1)).Nodup->dictOf b=b:=by
 have gen:∀(b a:Qbv),(b.map (·.1)).Nodup->(∀r∈b,a_ a r.1=none)->b.foldl (λa r=>putK a r.1 r.2) a=a++b:=by
  intro b
  induction b with
  |nil=>intro a _ _;simp
  |cons r b ih=>
   intro a c d;rw[xA,jK]at c;rw[List.foldl_cons,cO _ (d r xX),ih _ c.2 λx f=>?_]
   ·simp
   ·rw[jN _ _ _ _ (d r xX),if_neg (λe=>c.1 (Yy.mpr ⟨x,f,e⟩))];exact d x (Qh _ f)
 intro c;have:=gen b [] c (λ_ _=>rfl);simpa[dictOf]using this
theorem yI{v:V}{d:Dt}(h:DD H v d)(a:DT d=true):∃z,v=.str z/\d=.str z/\isName z=true:=by
 cases h with
 |str _=>exact⟨_,rfl,rfl,a⟩
 |tup _ _ _ _=>exact Bool.noConfusion a
 |aq=>exact Bool.noConfusion a
 |bl _=>exact Bool.noConfusion a
 |int _=>exact Bool.noConfusion a
 |lst _=>exact Bool.noConfusion a
 |dct _=>exact Bool.noConfusion a
def WV:Dt->Dt| .tup (_::h::_)=>h|_=>.g_
def Ft:Dt->Option Str| .tup [.str s,.str x]=>if s=="as" then some x else none|_=>none
def CL(ds:List Dt):List (Str×Dt):=ds.map λd=>(NE d,WV d)
def JV(a:List (Str×Dt))(n:Str):Option Str:=(a.find? λr=>decide (r.1=n)).bind λr=>Ft r.2
theorem Rd.same{u:HO}(r:Rd H a u)(s:ae H U):Rd U a u:=by
 rcases r with r|⟨o,r⟩
 ·exact .inl (s _ _ r)
 ·exact .inr ⟨o,s _ _ r⟩
theorem zB(z:Str)(ds:List Dt):headD (.tup (.str z::ds))=if DU z then(match ds with| [p]=>JU p|_=>false)else match Fq z with|some n=>decide (ds.length=n)&&ds.all DT|none=>false:=rfl
theorem zX{v:V}{d:Dt}(h:DD H v d)(b:headD d=true):∃a z xs ds,v=.ref a/\d=.tup (.str z::ds)/\H a=some (.tup (.str z::xs))/\xs.length=ds.length/\xs.length<1000/\(∀i(h:i<xs.length)(M:i<ds.length),DD H xs[i] ds[i])/\
  ((DU z=true/\∃p,ds=[p]/\JU p=true)\/(DU z=false/\∃n,Fq z=some n/\ds.length=n/\ds.all DT=true)):=by
 cases h with
 | @tup a xs ds e hl hn hds=>
  match ds,hl,b,hds with
  | .str z::ds,hl,b,hds=>
   match xs,hl,e,hn,hds with
   |x0::xs,hl,e,hn,hds=>
    have c:=hds 0 (by simp) (by simp);simp only[uI]at c;cases c;refine⟨a,z,xs,ds,rfl,rfl,e,by simpa using hl,by simp at hn;lia,λi h M=>hds (i+1) (by simpa using h) (by simpa using M),?_⟩;rw[zB]at b;cases hw:DU z with
    |true=>
     rw[hw]at b;simp only[if_true]at b
     match ds,b with
     | [p],b=>exact .inl ⟨rfl,p,rfl,b⟩
    |false=>
     rw[hw]at b;simp only[Qak,if_false]at b;cases hb:Fq z with
     |none=>rw[hb]at b;exact Bool.noConfusion b
     |some n=>
      rw[hb]at b;simp only[QaM,decide_eq_true_eq]at b;exact .inr ⟨rfl,n,rfl,b.1,b.2⟩
  | .tup _::_,_,b,_=>exact Bool.noConfusion b
  | .g_::_,_,b,_=>exact Bool.noConfusion b
  | [],_,b,_=>exact Bool.noConfusion b
 |str _=>exact Bool.noConfusion b
 |aq=>exact Bool.noConfusion b
 |bl _=>exact Bool.noConfusion b
 |int _=>exact Bool.noConfusion b
 |lst _=>exact Bool.noConfusion b
 |dct _=>exact Bool.noConfusion b
theorem yS:DU "as"=false:=by decide
theorem WX{v:V}{d:Dt}(h:DD H v d)(i:headD d=true):CK H v (Ft d):=by
 obtain⟨a,z,xs,ds,rfl,rfl,e,hl,hn,hds,hc⟩:=zX h i;refine⟨a,rfl,?_⟩;by_cases hz:z="as"
 ·subst hz;rcases hc with⟨f,_⟩|⟨_,n,g,j,b⟩
  ·rw[yS]at f;cases f
  ·have c:n=1:=by
    have:Fq "as"=some 1:=by decide
    rw[this]at g;cases g;rfl
   subst c
   match ds,j,hl,b,hds with
   | [d1],_,hl,b,hds=>
    match xs,hl,e,hds with
    | [x1],_,e,hds=>
     simp only[List.all_cons,List.all_nil,Bool.and_true]at b;obtain⟨y,q1,q2,_⟩:=yI (hds 0 (by simp) (by simp)) b;simp only[uI]at q1;subst q1 q2;exact .inr ⟨y,e,by simp[Ft]⟩
 ·refine .inl ⟨z,xs,e,hz,?_⟩;have k:(z==Str.ofString "as")=false:=by simpa using hz
  unfold Ft;split
  ·next s x JX=>
   injection JX with JX;injection JX with O _;injection O with O;rw[<- O,if_neg (by rw[k];exact yH)]
  ·rfl
structure DW(H:Hp)(xs:Qby)(ds:List Dt)(rs:Qbw)(hs:List Dt):Prop where
 l1:rs.length=ds.length
 l2:hs.length=ds.length
 ps:p_ H xs (ck rs)
 dd:∀i(h:i<ds.length)(O:i<rs.length)(Y:i<hs.length),ds[i]=.tup [.str rs[i].1,hs[i]]/\DD H rs[i].2 hs[i]/\headD hs[i]=true/\isName rs[i].1=true
section
variable{xs:Qby}{ds:List Dt}{rs:Qbw}{hs:List Dt}
theorem DW.rows(R:DW H xs ds rs hs)(h:i<ds.length)(a:i<rs.length)(b:i<hs.length):(CL ds)[i]? =some (rs[i].1,hs[i]):=by
 unfold CL;rw[Qq,Qa h,(R.dd i h a b).1];rfl
theorem lL(n:Str)(h:n∉rs.map (·.1)):a_ (ck rs) (.inr n)=none:=by
 unfold a_;rw[Qbc.mpr]
 ·rfl
 ·intro p a e;obtain⟨r,hr,rfl⟩:=Yy.mp a;exact h (Yy.mpr ⟨r,hr,Qas (Qt e)⟩)
theorem oH(a:(rs.map (·.1)).Nodup)(h:i<rs.length):a_ (ck rs) (.inr rs[i].1)=some rs[i].2:=by
 have:=lE (ck rs) (m5 a) i (by simpa using h);rw[iX _ (m5 a)]at this;simpa using this
theorem DW.nx(R:DW H xs ds rs hs)(b:(rs.map (·.1)).Nodup)(a:i<rs.length)(c:i<hs.length):JV (CL ds) rs[i].1=Ft hs[i]:=by
 have h:i<ds.length:=by have:=R.l1;lia
 unfold JV;have:(CL ds).find? (λr=>decide (r.1=rs[i].1))=some (rs[i].1,hs[i]):=by
  rw[Qbd];have g:(CL ds).length=ds.length:=by unfold CL;simp
  refine⟨by simp,i,by lia,?_,λj d=>?_⟩
  ·have:=R.rows h a c;rw[Qa (by lia)]at this;exact QE this
  ·have e:j<rs.length:=by lia
   have:=R.rows (i:=j) (by lia) e (by lia);rw[Qa (by lia)]at this;rw[QE this];have f:(rs.map (·.1))[j]'(by simp;lia)≠(rs.map (·.1))[i]'(by simpa using a):=λz=>(Qac.mp b j i (by simp;lia) (by simpa using a) d) z;simpa using f
 rw[this];rfl
theorem DW.has(R:DW H xs ds rs hs)(a:(rs.map (·.1)).Nodup)(n:Str)(v:V)(hv:a_ (ck rs) (.inr n)=some v):CK H v (JV (CL ds) n):=by
 by_cases h:n∈rs.map (·.1)
 ·obtain⟨r,hr,rfl⟩:=Yy.mp h;obtain⟨i,hi,rfl⟩:=Qi hr;rw[oH a hi]at hv;cases hv;have b:i<hs.length:=by have:=R.l1;have:=R.l2;lia
  rw[R.nx a hi b];obtain⟨_,q1,q2,_⟩:=R.dd i (by have:=R.l1;lia) hi b;exact WX q1 q2
 ·rw[lL n h]at hv;cases hv
end
inductive TX (H:Hp):V->Dt->Prop
 |str {z:Str} (h:z.length<=100000):TX H (.str z) (.str z)
 |tup {a:Addr} {xs:Qby} {ds:List Dt}:H a=some (.tup xs)->xs.length=ds.length->xs.length<=1000->(∀i(h:i<xs.length)(M:i<ds.length),TX H xs[i] ds[i])->TX H (.ref a) (.tup ds)
theorem TX.dd{v:V}{d:Dt}(h:TX H v d):DD H v d:=by
 induction h with
 |str h=>exact .str h
 |tup e hl hn _ ih=>exact .tup e hl hn ih
theorem W0{x:V}{d:Dt}(e:H a=some (.tup [x]))(h:TX H x d):TX H (.ref a) (.tup [d]):=.tup e rfl (by simp) λi b c=>by
 match i,b with
 |0,_=>exact h
theorem qJ{x y:V}{d d':Dt}(e:H a=some (.tup [x,y]))(h:TX H x d)(M:TX H y d'):TX H (.ref a) (.tup [d,d']):=.tup e rfl (by simp) λi b c=>by
 match i,b with
 |0,_=>exact h
 |1,_=>exact M
theorem W1{x y z:V}{d d' b:Dt}(e:H a=some (.tup [x,y,z]))(h:TX H x d)(M:TX H y d')(c:TX H z b):TX H (.ref a) (.tup [d,d',b]):=.tup e rfl (by simp) λi f g=>by
 match i,f with
 |0,_=>exact h
 |1,_=>exact M
 |2,_=>exact c
theorem fZ(h:isName z=true):z.length<=8:=by
 unfold isName at h;simp only[QaM,decide_eq_true_eq]at h;exact h.1.1.2
theorem jC(h:isName z=true):TX H (.str z) (.str z):=.str (by have:=fZ h;lia)
theorem pZ(h:z.length<=100):TX H (.str z) (.str z):=.str (by lia)
section
variable{P:Option Str->Prop}
structure NG(H:Hp)(ns:Qbo)(xs:Qby)(ps:List (Str×Str)):Prop where
 len:xs.length=ps.length
 at_:∀i(h:i<xs.length)(M:i<ps.length),∃c,xs[i]=.ref c/\H c=some (.tup [.str ps[i].1,.str ps[i].2])
 nm:∀p∈ps,isName p.1=true/\isName p.2=true/\p.2∈ns
 JY:rising (ps.map (·.1))=true
end
theorem sV{a b c:Str}(d:zg a b=true)(e:zg b c=true):zg a c=true:=by
 unfold zg at*;exact Qw (List.lt_trans (Qt d) (Qt e))
theorem j8:∀{ws:Qbo},ws.Pairwise (λa b=>zg a b=true)->rising ws=true
 | [],_=>rfl
 | [_],_=>rfl
 |a::b::r,h=>by
  rw[Qbe]at h;rw[rising,h.1 b xX,j8 h.2];rfl
def CM:V->Str
 | .str z=>z
 |_=>""
theorem W2{xs:Qby}{a:Qbw}(b:p_ H xs (ck a))(e:∀r∈a,isName r.1=true)(c:∀r∈a,∃y,r.2=.str y/\y∈ns/\isName y=true)(f:rising (a.map (·.1))=true):NG H ns xs (a.map λq=>(q.1,CM q.2)):=by
 have j:xs.length=a.length:=by have:=b.1;simpa using this
 refine⟨by simp;lia,λi g k=>?_,λq h=>?_,?_⟩
 ·have d:i<a.length:=by lia
  obtain⟨c',e1,e2⟩:=b.2 i (by simpa using d);rw[Qa g]at e1;refine⟨c',QE e1,?_⟩;obtain⟨y,ey,_⟩:=c _ (Qj d);simp only[Qr];rw[ey];have:H c'=some (.tup [.str a[i].1,a[i].2]):=by simpa[ck,kV]using e2
  rw[ey]at this;exact this
 ·obtain⟨q',s_,rfl⟩:=Yy.mp h;obtain⟨y,ey,my,ny⟩:=c q' s_;refine⟨e q' s_,?_,?_⟩
  ·show isName (CM q'.2)=true;rw[ey];exact ny
  ·show CM q'.2∈ns;rw[ey];exact my
 ·rw[Qn];exact f
theorem mW{b c:Type}{f g:b->Option c}:∀{l:List b},(∀x∈l,f x=g x)->l.filterMap f=l.filterMap g
 | [],_=>rfl
 |a::l,h=>by rw[QaP,QaP,h a xX,mW λx d=>h x (Qh _ d)]
theorem W4(xs:Array Value):((List.range xs.size).filterMap fun(k:Nat)=>xs[(((xs.size:Int)-1)+(k:Int)*(-1)).toNat]?)=xs.toList.reverse:=by
 have e:((List.range xs.size).filterMap fun(k:Nat)=>xs[(((xs.size:Int)-1)+(k:Int)*(-1)).toNat]?)=(List.range xs.size).map λk=>xs.toList.reverse.getD k .none:=by
  rw[<- List.filterMap_eq_map];refine mW λk c=>?_;have d:=Qaw.mp c;have f:(((xs.size:Int)-1)+(k:Int)*(-1)).toNat=xs.size-1-k:=by lia
  rw[f];have b:xs.size-1-k<xs.size:=by lia
  have a:k<xs.toList.reverse.length:=by simp;exact d
  show _=some (xs.toList.reverse.getD k .none);rw[Qb,Qa a,List.getElem_reverse];simp[b]
 rw[e];refine Qam (by simp) λi b a=>?_;rw[Qr,List.getElem_range,Qb,Qa a];rfl
section
variable{st:Expr}{ts:TE}{p2 pos:Pos}
theorem bg.rev:∀{xs:Qby}{us:Qbp},bg xs us->bg xs.reverse us.reverse
 |_,_,.nil=>.nil
 |_,_,.cons r rr=>by
  rw[List.reverse_cons,List.reverse_cons];exact(bg.rev rr).append (.cons r .nil)
end
inductive Hd where
 |one (s:Str)
 |as (y:Str)
 |way (x y:Str)
 |prs (s:Str) (ps:List (Str×Str))
def Hd.nx:Hd->Option Str
 | .as y=>some y
 |_=>none
def Hd.ok(ns:Qbo):Hd->Prop
 | .one s=>s="all"\/s="none"
 | .as y=>isName y=true/\y∈ns
 | .way x y=>isName x=true/\isName y=true/\x∈ns/\y∈ns
 | .prs s ps=>(s="box"\/s="pick")/\(∀p∈ps,isName p.1=true/\isName p.2=true/\p.2∈ns)/\rising (ps.map (·.1))=true/\ps.length<=10
structure BB(H:Hp)(xs:Qby)(ps:List (Str×Str)):Prop where
 len:xs.length=ps.length
 at_:∀i(h:i<xs.length)(M:i<ps.length),∃c,xs[i]=.ref c/\H c=some (.tup [.str ps[i].1,.str ps[i].2])
theorem BB.tk{xs:Qby}{d:List (Str×Str)}(h:BB H xs d)(s:Tk H U):BB U xs d:=⟨h.len,λi a b=>let ⟨c,O,Y⟩:=h.at_ i a b;⟨c,O,s _ _ Y⟩⟩
inductive HV (H:Hp):V->Hd->Prop
 |one {b:Addr} {s:Str}:H b=some (.tup [.str s])->HV H (.ref b) (.one s)
 |as {b:Addr} {y:Str}:H b=some (.tup [.str "as",.str y])->HV H (.ref b) (.as y)
 |way {b:Addr} {x y:Str}:H b=some (.tup [.str "way",.str x,.str y])->HV H (.ref b) (.way x y)
 |prs {b c:Addr} {s:Str} {xs:Qby} {ps:List (Str×Str)}:H b=some (.tup [.str s,.ref c])->H c=some (.tup xs)->BB H xs ps->HV H (.ref b) (.prs s ps)
theorem HV.tk{H U:Hp}(s:Tk H U){v:V}{h:Hd}(q:HV H v h):HV U v h:=by
 cases q with
 |one e=>exact .one (s _ _ e)
 |as e=>exact .as (s _ _ e)
 |way e=>exact .way (s _ _ e)
 |prs e e' p=>exact .prs (s _ _ e) (s _ _ e') (p.tk s)
def Hd.dt:Hd->Dt
 | .one s=>.tup [.str s]
 | .as y=>.tup [.str "as",.str y]
 | .way x y=>.tup [.str "way",.str x,.str y]
 | .prs s ps=>.tup [.str s,.tup (ps.map λp=>.tup [.str p.1,.str p.2])]
theorem HV.tx{v:V}{h:Hd}(q:HV H v h)(ok:h.ok ns):TX H v h.dt:=by
 cases q with
 |one e=>exact W0 e (pZ (by rcases ok with rfl|rfl<;>decide))
 |as e=>exact qJ e (pZ (by decide)) (jC ok.1)
 |way e=>exact W1 e (pZ (by decide)) (jC ok.1) (jC ok.2.1)
 | @prs b c s xs ps e e' p=>
  have g:=ok.2.2.2;have j:=p.len;refine qJ e (pZ (by rcases ok.1 with rfl|rfl<;>decide)) (.tup e' (by simp[p.len]) (by lia) λi d f=>?_);have a:i<ps.length:=by simpa using f
  obtain⟨c',q1,q2⟩:=p.at_ i d a
  obtain⟨m1,m2,_⟩:=ok.2.1 _ (Qj a);rw[q1];simp only[Qr];exact qJ q2 (jC m1) (jC m2)
abbrev aj:=Str×Hd
end L2
variable{tA:L2.TT}{D:L2.Ends}{g:L2.TG}{wi:L2.TI}{r:L2.R2}{t:L2.TA}{sp:L2.Sp}{tc:L2.TC}{d:L2.Dt}{rs r1 r2:List L2.aj}
namespace L2
open PySem PySem.Spec PyProof.Rows
structure RV(H:Hp)(xs:Qby)(rows:List aj):Prop where
 len:xs.length=rows.length
 at_:∀i(h:i<xs.length)(M:i<rows.length),∃b v,xs[i]=.ref b/\H b=some (.tup [.str rows[i].1,v])/\HV H v rows[i].2
theorem RV.tk{H U:Hp}{xs:Qby}{rows:List aj}(h:RV H xs rows)(s:Tk H U):RV U xs rows:=⟨h.len,λi a b=>let ⟨c,v,O,Y,h3⟩:=h.at_ i a b;⟨c,v,O,s _ _ Y,h3.tk s⟩⟩
theorem RV.nil:RV H [] []:=⟨rfl,λi h=>absurd h (by simp)⟩
theorem RV.snoc{xs:Qby}{rows:List aj}(h:RV H xs rows){v:V}{r:aj}(e:H b=some (.tup [.str r.1,v]))(hv:HV H v r.2):RV H (xs++[.ref b]) (rows++[r]):=by
 have a:=h.len;refine⟨by simp[a],λi c f=>?_⟩;by_cases be:i<xs.length
 ·rw[Qe be,Qe (by lia)];exact h.at_ i be (by lia)
 ·have d:i=xs.length:=by simp at c;lia
  subst d;rw[Qf (Qz _),Qf (by lia)];simp only[Qar,uI,a];exact⟨b,v,rfl,e,hv⟩
theorem RV.rev{xs:Qby}{rows:List aj}(h:RV H xs rows):RV H xs.reverse rows.reverse:=by
 have a:=h.len;refine⟨by simp[a],λi c d=>?_⟩;rw[List.getElem_reverse,List.getElem_reverse];simp only[List.length_reverse]at c d;obtain⟨b,v,q1,q2,q3⟩:=h.at_ (xs.length-1-i) (by lia) (by lia)
 refine⟨b,v,q1,?_⟩;simp only[a]at q2 q3;exact⟨q2,q3⟩
def W5(r:aj):Dt:=.tup [.str r.1,r.2.dt]
def NH(ns:Qbo)(rows:List aj):Prop:=∀r∈rows,isName r.1=true/\r.2.ok ns
def Hd.pre:Hd->Qbo
 | .one s=>[s]
 | .as _=>[]
 | .way _ _=>["way"]
 | .prs s _=>[s]
inductive DA (P:Addr->Prop) (H:Hp):Bool->V->PyData->Dt->Prop
 |str {m:Bool} {z:Str} (h:z.length<=100000):DA P H m (.str z) (.str z) (.str z)
 |aq {m:Bool}:DA P H m .aq .none .g_
 |bl {m:Bool} (b:Bool):DA P H m (.bl b) (.bool b) .g_
 |int {m:Bool} (i:Int):DA P H m (.int i) (.int i) .g_
 |tup {m:Bool} {a:Addr} {xs:Qby} {ps:List PyData} {ds:List Dt}:P a->H a=some (.tup xs)->xs.length=ps.length->xs.length=ds.length->xs.length<=1000->(∀i(h:i<xs.length)(M:i<ps.length)(By:i<ds.length),DA P H m xs[i] ps[i] ds[i])->DA P H m (.ref a) (.tuple ps) (.tup ds)
 |lst {a:Addr} {xs:Qby} {ps:List PyData} {ds:List Dt}:P a->H a=some (.lst xs)->xs.length=ps.length->xs.length=ds.length->(∀i(h:i<xs.length)(M:i<ps.length)(By:i<ds.length),DA P H true xs[i] ps[i] ds[i])->DA P H true (.ref a) (.list ps) .g_
 |W6 {a:Addr}:P a->H a=some (.dK [])->DA P H false (.ref a) (.dict []) .g_
 |W7 {a:Addr} {z:Str} {x:V} {p:PyData} {d:Dt}:P a->H a=some (.dK [(.inr z,x)])->DA P H false x p d->DA P H false (.ref a) (.dict [(.str z,p)]) .g_
theorem DA.dd{P:Addr->Prop}{m:Bool}{v:V}{p:PyData}(h:DA P H m v p d):DD H v d:=by
 induction h with
 |str h=>exact .str h
 |aq=>exact .aq
 |bl b=>exact .bl b
 |int i=>exact .int i
 |tup _ e O Y h3 _ ih=>exact .tup e Y h3 λi a b=>ih i a (by lia) b
 |lst _ e O Y _ ih=>exact .lst e
 |W6 _ e=>exact .dct e
 |W7 _ e _ ih=>exact .dct e
theorem gP(y:Str)(b:Qbo):Ah (.str y) (b.map V.str)=decide (y∈b):=by
 rw[Qbb,decide_eq_true_iff];unfold Ah;rw[List.any_map,Qa6];constructor
 ·rintro⟨a,ha,e⟩;have c:(a==y)=true:=e;rw[<- eq_of_beq c];exact ha
 ·intro h;exact⟨y,h,(beq_self_eq_true y:(y==y)=true)⟩
abbrev AS(h:Heap)(z TI TO c:Addr)(f:Bool):Prop:=h.get? z=some {cls:=.type "zip",dict:=none,data:=.fields #[rawInt c,.bool f,.bool false,.ref TI,.ref TO],slots:=#[]}
theorem vP{z TI TO:Addr}{f:Bool}{d:Obj}{Q:Bool->Shared->Prop}(a:AS s.heap z TI TO c f)(e:s.heap.get? c=some d)(b:∀M,AS M z TI TO c true->Heap.SameBut z s.heap M->Q false {s with heap:=M}):
  wpAny (model P w) A (Builtin.SmallTypes.ownedTupleIsFree (.ref z)) Q E s:=by
 unfold Builtin.SmallTypes.ownedTupleIsFree;refine QT (wpAny_field a rfl (x:=rawInt c) rfl ?_);show wpAny _ _ (loadIfAlive (Int.toNat (c:Int)) >>=_) _ _ _;rw[QaO];refine QT (PySem.W.kdx_alive e ?_);simp only[Option.isNone_some,Qak,if_false];refine QT (wpAny_field a rfl (x:=.bool f) rfl ?_);cases f with
 |true=>
  rw[if_neg (show ¬((Value.bool true !=Value.bool true)=true)by decide)];exact QU (b _ a (Heap.SameBut.refl _ _))
 |false=>
  rw[if_pos (show(Value.bool false !=Value.bool true)=true by decide)];refine QT (wpAny_setField_rec a (by simp) λi g h=>QU (b _ g h))
theorem W8{z TI TO a b g h:Addr}{f:Bool}{H:Obj}{xs:Array Value}{x y:Value}(D:ZipApart z TI TO a b g h)(l:AS s.heap z TI TO c f)(I:s.heap.get? c=some H)(K:IsPair s.heap TI (.ref a) (.ref b))
  (L:s.heap.IsListIter a g n) (g2:s.heap.IsListIter b h n) (N:s.heap.IsList g xs) (R:s.heap.IsList h ys) (T:xs[n]? =some x) (V:ys[n]? =some y)
  (hQ:∀M,AS M z TI TO c true->M.IsListIter a g (n+1)->M.IsListIter b h (n+1)->IsPair M s.heap.objs.size x y->(∀e o,e≠z->e≠a->e≠b->s.heap.get? e=some o->M.get? e=some o)->Q (.ref s.heap.objs.size) {s with heap:=M}):
  wpAny (model P w) A (Builtin.«zip.__next__» ⟨[.ref z],[]⟩) (λm s'=>∃v,m=.done (.ret v)/\Q v s') E s:=by
 show wpAny _ _ (field (.ref z) 2 >>=_) _ _ s;refine QT (wpAny_field l rfl (x:=.bool false) rfl ?_);show wpAny _ _ (field (.ref z) 3 >>=_) _ _ s;refine QT (wpAny_field l rfl (x:=.ref TI) rfl ?_);refine QT (wpAny_seqItems K rfl ?_);show wpAny _ _ (Builtin.SmallTypes.ownedTupleIsFree (.ref z) >>=_) _ _ s;refine QT (vP l I λj z1 i=>?_);simp only[Qak,if_false];refine QT ?_;rw[<- Array.forIn_toList];simp only[List.forIn_cons,List.forIn_nil];have u1:j.IsListIter a g n:=L.extBut i.extBut D.i1z;have v1:j.IsList g xs:=N.extBut i.extBut D.l1z;refine QT (QT (wpAny_holding ?_));show wpAny _ _ (Builtin.SmallTypes.nextOf (.ref a) >>=_) _ _ {s with heap:=j};refine QT (wpAny_nextOf_list_item u1 v1 T λp a2 k=>QU (QU ?_));have u2:p.IsListIter b h n:=(g2.extBut i.extBut D.i2z).extBut k.extBut D.i12.symm;have v2:p.IsList h ys:=(R.extBut i.extBut D.l2z).extBut k.extBut D.l2i1;refine QT (QT (wpAny_holding ?_));show wpAny _ _ (Builtin.SmallTypes.nextOf (.ref b) >>=_) _ _ {s with heap:=p};refine QT (wpAny_nextOf_list_item u2 v2 V λd a3 r=>QU (QU (QU ?_)));refine QT ?_;show wpAny _ _ (newTuple [x,y]) _ _ {s with heap:=d};refine wpAny_newTuple (QU ⟨_,rfl,?_⟩) (show 2<=sizeLine by decide);have W9:d.objs.size=s.heap.objs.size:=by rw[r.1,k.1,i.1]
 have C:∀e o,e≠a->e≠b->j.get? e=some o->d.get? e=some o:=λe o t u q=>r.extBut _ _ u (k.extBut _ _ t q);show Q (.ref d.objs.size) {s with heap:=d.push {cls:=.type "tuple",data:=.seq #[x,y]}};have G:IsPair (d.push {cls:=.type "tuple",data:=.seq #[x,y]}) d.objs.size x y:=Qd _ rfl;rw[W9]at G⊢;exact hQ _ (Qc _ (C _ _ D.i1z.symm D.i2z.symm z1)) ((a2.extBut r.extBut D.i12).at λo q=>Qc _ q) (a3.at λo q=>Qc _ q) G λe o q0 t u q=>Qc _ (C e o t u (i.extBut _ _ q0 q))
theorem W_{z TI TO a i b j:Addr}{f:Bool}{k:Obj}{xs:Array Value}{Q:Fin->Shared->Prop}(l:A.handled=none)(D:ZipApart z TI TO a i b j)(g:AS s.heap z TI TO c f)(m:s.heap.get? c=some k)(p:IsPair s.heap TI (.ref a) (.ref i))
  (r:s.heap.IsListIter a b n) (t:s.heap.IsList b xs) (u:xs[n]? =none)
  (y:∀M e,(∀d o,d≠z->d≠a->s.heap.get? d=some o->M.get? d=some o)->(∃o,M.get? e=some o/\o.cls=.type "StopIteration")->E (.ref e) {s with heap:=M}):
  wpAny (model P w) A (Builtin.«zip.__next__» ⟨[.ref z],[]⟩) Q E s:=by
 show wpAny _ _ (field (.ref z) 2 >>=_) _ _ s;refine QT (wpAny_field g rfl (x:=.bool false) rfl ?_);show wpAny _ _ (field (.ref z) 3 >>=_) _ _ s;refine QT (wpAny_field g rfl (x:=.ref TI) rfl ?_);refine QT (wpAny_seqItems p rfl ?_);show wpAny _ _ (Builtin.SmallTypes.ownedTupleIsFree (.ref z) >>=_) _ _ s;refine QT (vP g m λC N h=>?_);simp only[Qak,if_false];refine QT ?_;rw[<- Array.forIn_toList];simp only[List.forIn_cons,List.forIn_nil];refine QT (QT (wpAny_holding ?_));show wpAny _ _ (Builtin.SmallTypes.nextOf (.ref a) >>=_) _ _ {s with heap:=C};exact QT (wpAny_nextOf_list_end l (r.extBut h.extBut D.i1z) (t.extBut h.extBut D.l1z) u λG e H I=>y G e (λd o K L q=>H _ _ L (h.extBut _ _ K q)) I)
theorem vH{z TI TO a b d g:Addr}{f:Bool}{j:Obj}{xs:Array Value}{x y:Value}{Q:Qbr->Shared->Prop}(D:ZipApart z TI TO a b d g)(h:AS s.heap z TI TO c f)(k:s.heap.get? c=some j)(l:IsPair s.heap TI (.ref a) (.ref b))
  (m:s.heap.IsListIter a d n) (g2:s.heap.IsListIter b g n) (p:s.heap.IsList d xs) (q:s.heap.IsList g ys) (r:xs[n]? =some x) (t:ys[n]? =some y)
  (u:∀M,AS M z TI TO c true->M.IsListIter a d (n+1)->M.IsListIter b g (n+1)->IsPair M s.heap.objs.size x y->(∀e o,e≠z->e≠a->e≠b->s.heap.get? e=some o->M.get? e=some o)->Q (some (.ref s.heap.objs.size)) {s with heap:=M}):
  wpAny (model P w) A (pyNext (.ref z)) Q E s:=by
 have i:s.TypeIs (.ref z) "zip":=⟨_,h,rfl⟩
 unfold pyNext;exact QT (wpAny_attempt (wpAny_callSpecial?_slot (name:=Str.ofString "__next__") i F.slot_zip_next (wpAny_call_entry F.slot_zip_next i F.entry_zip_next (W8 D h k l m g2 p q r t λM C G H I K=>QU (u M C G H I K)) (F.args_zip_next_1 _))))
theorem xH{z TI TO a h g k:Addr}{f:Bool}{l:Obj}{xs:Array Value}{Q:Qbr->Shared->Prop}(m:A.handled=none)(D:ZipApart z TI TO a h g k)(i:AS s.heap z TI TO c f)(p:s.heap.get? c=some l)(q:IsPair s.heap TI (.ref a) (.ref h))
  (r:s.heap.IsListIter a g n) (t:s.heap.IsList g xs) (u:xs[n]? =none)
  (x:∀M,(∀d o,d≠z->d≠a->s.heap.get? d=some o->M.get? d=some o)->Q none {s with heap:=M}):
  wpAny (model P w) A (pyNext (.ref z)) Q E s:=by
 have j:s.TypeIs (.ref z) "zip":=⟨_,i,rfl⟩
 unfold pyNext;refine QT (wpAny_attempt (wpAny_callSpecial?_slot (name:=Str.ofString "__next__") j F.slot_zip_next (wpAny_call_entry F.slot_zip_next j F.entry_zip_next (W_ m D i p q r t u λM e y ⟨o,C,G⟩=>?_) (F.args_zip_next_1 _))));exact QT (wpAny_isInstance (T:="StopIteration") (b:=true) ⟨o,C,G⟩ isSubtype_stop (QU (x _ y)))
def DZ(h:Heap)(d z TI TO a b l m:Addr)(i:Nat):Prop:=
 ((i=0/\IsZip h z TI TO .none/\∃u v,IsPair h TO u v)\/∃c f e,AS h z TI TO c f/\h.get? c=some e/\c≠d/\c∉[z,TO,a,b])/\IsPair h TI (.ref a) (.ref b)/\h.IsListIter a l i/\h.IsListIter b m i
theorem DZ.keep{d z TI TO g j m:Addr}(q:DZ h d z TI TO g j l m i)(n:d∉[z,TI,TO,g,j])(k:∀b o,b≠d->h.get? b=some o->M.get? b=some o):DZ M d z TI TO g j l m i:=by
 obtain⟨q1,q2,q3,q4⟩:=q;simp only[Qp,QB,or_false,not_or]at n;obtain⟨n1,n2,n3,n4,n5⟩:=n;refine⟨?_,k _ _ (Ne.symm n2) q2,q3.at λo e=>k _ _ (Ne.symm n4) e,q4.at λo e=>k _ _ (Ne.symm n5) e⟩;rcases q1 with⟨e,a,u,v,b⟩|⟨c,f,r,a,b,p,s⟩
 ·exact .inl ⟨e,k _ _ (Ne.symm n1) a,u,v,k _ _ (Ne.symm n3) b⟩
 ·exact .inr ⟨c,f,r,k _ _ (Ne.symm n1) a,k _ _ p b,p,s⟩
theorem uQ{d z TI TO i j k l:Addr}{xs:Array Value}{x y:Value}{Q:Qbr->Shared->Prop}(D:ZipApart z TI TO i j k l)(q:DZ s.heap d z TI TO i j k l n)(T:d<s.heap.objs.size)
  (C:s.heap.IsList k xs) (G:s.heap.IsList l ys) (H:xs[n]? =some x) (I:ys[n]? =some y)
  (K:∀M,DZ M d z TI TO i j k l (n+1)->IsPair M s.heap.objs.size x y->(∀e o,e∉[z,TO,i,j]->s.heap.get? e=some o->M.get? e=some o)->Q (some (.ref s.heap.objs.size)) {s with heap:=M}):
  wpAny (model P w) A (pyNext (.ref z)) Q E s:=by
 obtain⟨q1,q2,q3,q4⟩:=q;have V:i<s.heap.objs.size:=by obtain⟨_,e,_⟩:=q3;exact QA e
 have Xa:j<s.heap.objs.size:=by obtain⟨_,e,_⟩:=q4;exact QA e
 rcases q1 with⟨rfl,a,u,v,b⟩|⟨c,f,oc,a,b,e1,L⟩
 ·have Xb:=QA a;have Xc:=QA b;refine wpAny_pyNext_zip_item D a q2 b q3 q4 C G H I λM p N r t R a6 h=>K M ⟨.inr ⟨_,false,_,p,R,Qah T,?_⟩,h _ _ D.TIz D.TITO D.TIi1 D.TIi2 q2,r,t⟩ R λe o g q=>?_
  ·simp only[Qp,QB,or_false,not_or];exact⟨Qah Xb,Qah Xc,Qah V,Qah Xa⟩
  ·simp only[Qp,QB,or_false,not_or]at g;exact h _ _ g.1 g.2.1 g.2.2.1 g.2.2.2 q
 ·refine vH D a b q2 q3 q4 C G H I λM p N r t h=>?_;have m:=L;simp only[Qp,QB,or_false,not_or]at m;refine K M ⟨.inr ⟨c,true,oc,p,h _ _ m.1 m.2.2.1 m.2.2.2 b,e1,L⟩,h _ _ D.TIz D.TIi1 D.TIi2 q2,N,r⟩ t λe o g q=>?_;simp only[Qp,QB,or_false,not_or]at g;exact h _ _ g.1 g.2.2.1 g.2.2.2 q
inductive jy (H:Hp):Nat->V->V->Prop
 |str (n:Nat) (z:Str):jy H n (.str z) (.str z)
 |tup {n:Nat} {a b:Addr} {xs ys:Qby}:H a=some (.tup xs)->H b=some (.tup ys)->xs.length=ys.length->(∀i(h:i<xs.length)(M:i<ys.length),jy H n xs[i] ys[i])->jy H (n+1) (.ref a) (.ref b)
theorem jy.Xd(I:Inv X B Z H s){x y:V}(h:jy H n x y):∀(A:Around)(u v:Value),A.units+n<cLine->RelV x u->RelV y v->SeqAt.EqAt A s u v true:=by
 induction h with
 |str n z=>
  intro A u v k c d;obtain⟨t,rfl⟩:=c;obtain⟨t',rfl⟩:=d;have:=SeqAt.EqAt.str_str (A:=A) (s:=s) z t z t';rw[beq_self_eq_true]at this;exact this
 | @tup n a b xs ys ea eb hl _ ih=>
  intro A u v k c d;cases c;cases d;by_cases uz:a=b
  ·subst uz;exact SeqAt.EqAt.same _
  ·obtain⟨i1,r1,p1,_⟩:=I.tuple (ay.of ea);obtain⟨i2,r2,p2,_⟩:=I.tuple (ay.of eb);have o:=r1.length;have p:=r2.length;have:=SeqAt.RcAt.tuples (A:=A) (e:=λ_=>true) p1 p2 (by lia) λj f g=>by
    have i:j<xs.length:=by simp at f;lia
    have g2:j<ys.length:=by simp at g;lia
    obtain⟨w1,e1,q1⟩:=r1.get (Qa i);obtain⟨w2,e2,q2⟩:=r2.get (Qa g2);have l:i1.toArray[j]=w1:=by rw[Qa (by simpa using f)]at e1;simpa using e1
    have m:i2.toArray[j]=w2:=by rw[Qa (by simpa using g)]at e2;simpa using e2
    rw[l,m];exact ih j i g2 A.in1 w1 w2 (by rw[Qbn];lia) q1 q2
   have e:((List.range (min i1.toArray.size i2.toArray.size)).all (λ_=>true)&&i1.toArray.size==i2.toArray.size)=true:=by
    simp;lia
   rw[e]at this;exact SeqAt.EqAt.of_refs uz this
theorem jy.kids(h:jy H (n+1) (.ref a) (.ref b)):∃xs ys,H a=some (.tup xs)/\H b=some (.tup ys)/\xs.length=ys.length/\∀i(h:i<xs.length)(M:i<ys.length),jy H n xs[i] ys[i]:=by
 cases h with
 |tup ea eb hl h=>exact⟨_,_,ea,eb,hl,h⟩
theorem jy.all(I:Inv X B Z H s){xs ys:Qby}{a b:Qbp}(l:xs.length=ys.length)(f:∀i(h:i<xs.length)(M:i<ys.length),jy H n xs[i] ys[i])(r1:bg xs a)(r2:bg ys b)(m:A.units+n+1<cLine):
  ∀j(c:j<a.toArray.size)(d:j<b.toArray.size),SeqAt.EqAt A.in1 s a.toArray[j] b.toArray[j] ((λ_=>true) j):=λj c d=>by
 have o:=r1.length;have p:=r2.length;have e:j<xs.length:=by simp at c;lia
 have g2:j<ys.length:=by simp at d;lia
 obtain⟨w1,e1,q1⟩:=r1.get (Qa e);obtain⟨w2,e2,q2⟩:=r2.get (Qa g2);have g:a.toArray[j]=w1:=by rw[Qa (by simpa using c)]at e1;simpa using e1
 have k:b.toArray[j]=w2:=by rw[Qa (by simpa using d)]at e2;simpa using e2
 rw[g,k];exact(f j e g2).Xd I A.in1 w1 w2 (by rw[Qbn];lia) q1 q2
def Xe(c:Bool):R2:=λx y H Q=>∃n a b,n<=50/\x=.ref a/\y=.ref b/\jy H (n+1) x y/\Q (.bl c) H
theorem vG(g:X.A.units+100<cLine):dj X (compareOp .NotEq) (Xe false):=by
 intro c s i H x y v u Q I d f h;obtain⟨n,a,b,hn,rfl,rfl,hd,q⟩:=h;cases d;cases f;obtain⟨xs,ys,ea,eb,hl,hk⟩:=hd.kids;obtain⟨i1,r1,p1,_⟩:=I.tuple (ay.of ea);obtain⟨i2,r2,p2,_⟩:=I.tuple (ay.of eb);have j:=r1.length;have k:=r2.length;have e:(!((List.range (min i1.toArray.size i2.toArray.size)).all (λ_=>true)&&i1.toArray.size==i2.toArray.size))=false:=by
  simp;lia
 refine SeqAt.RcNeAt.tuples (A:=X.A) (e:=λ_=>true) p1 p2 (by lia) (jy.all I hl hk r1 r2 (by lia)) _ _ _ _ ?_;rw[e];exact⟨.bl false,H,I,rfl,q⟩
theorem Xf(K:Q0)(h:X.K=K:=by rfl):dj X (binaryOp .Add) (M0 K):=by subst h;exact wH
theorem Xg{x c:V}(e:H a=some (.tup [x]))(d:H b=some (.tup [c]))(h:jy H n x c):jy H (n+1) (.ref a) (.ref b):=.tup e d rfl λi f g=>by
 match i,f with
 |0,_=>exact h
theorem Hg{x c y d:V}(e:H a=some (.tup [x,y]))(f:H b=some (.tup [c,d]))(h:jy H n x c)(g:jy H n y d):jy H (n+1) (.ref a) (.ref b):=.tup e f rfl λi j _=>by
 match i,j with
 |0,_=>exact h
 |1,_=>exact g
theorem Xh{x c y d z f:V}(e:H a=some (.tup [x,y,z]))(g:H b=some (.tup [c,d,f]))(h:jy H n x c)(j:jy H n y d)(k:jy H n z f):jy H (n+1) (.ref a) (.ref b):=.tup e g rfl λi l _=>by
 match i,l with
 |0,_=>exact h
 |1,_=>exact j
 |2,_=>exact k
theorem HV.JZ{v g:V}{h:Hd}(q:HV H v h)(d:HV H g h):∃a b,v=.ref a/\g=.ref b/\jy H 3 v g:=by
 cases q with
 |one e=>cases d with|one e'=>exact⟨_,_,rfl,rfl,Xg e e' (.str _ _)⟩
 |as e=>cases d with|as e'=>exact⟨_,_,rfl,rfl,Hg e e' (.str _ _) (.str _ _)⟩
 |way e=>cases d with|way e'=>exact⟨_,_,rfl,rfl,Xh e e' (.str _ _) (.str _ _) (.str _ _)⟩
 |prs e f p=>
  cases d with
  |prs e' f' p'=>
   refine⟨_,_,rfl,rfl,Hg e e' (.str _ _) (.tup f f' (by rw[p.len,p'.len]) λi j k=>?_)⟩;have l:=p.len;obtain⟨c,q1,q2⟩:=p.at_ i j (by lia)
   obtain⟨c',ud,D0⟩:=p'.at_ i k (by lia)
   rw[q1,ud];exact Hg q2 D0 (.str _ _) (.str _ _)
theorem RV.JZ{H:Hp}{a b:Addr}{xs ys:Qby}{rows:List aj}(h:RV H xs rows)(M:RV H ys rows)(e:H a=some (.tup xs))(f:H b=some (.tup ys)):jy H 5 (.ref a) (.ref b):=by
 refine .tup e f (by rw[h.len,M.len]) λi g j=>?_;have k:=h.len;obtain⟨c,v,q1,q2,q3⟩:=h.at_ i g (by lia)
 obtain⟨c',v',ud,D0,Xi⟩:=M.at_ i j (by lia)
 obtain⟨_,_,_,_,d⟩:=q3.JZ Xi;rw[q1,ud];exact Hg q2 D0 (.str _ _) d
def Hd.qa:Hd->Qbo
 | .prs _ ps=>ps.map (·.1)
 |_=>[]
structure u_(H:Hp)(ns ws:Qbo)(v:V)(P:Option Str->Prop):Prop where
 ex:∃h,HV H v h/\h.ok ns/\P h.nx/\∀z∈h.qa,z∈ws
section
variable{v:V}{P:Option Str->Prop}
theorem u_.tk{U:Hp}(h:u_ H ns ws v P)(s:Tk H U):u_ U ns ws v P:=let ⟨d,O,Y⟩:=h.ex;⟨d,O.tk s,Y⟩
theorem u_.imp{a:Option Str->Prop}(h:u_ H ns ws v P)(f:∀o,P o->a o):u_ H ns ws v a:=let ⟨d,O,Y,h3,h4⟩:=h.ex;⟨d,O,Y,f _ h3,h4⟩
theorem Xj{y:Str}(e:H b=some (.tup [.str "as",.str y]))(a:isName y=true)(c:y∈ns)(d:P (some y)):u_ H ns ws (.ref b) P:=⟨.as y,.as e,⟨a,c⟩,d,(λ_ h=>nomatch h)⟩
theorem zR(e:H b=some (.tup [.str "none"]))(a:P none):u_ H ns ws (.ref b) P:=⟨.one "none",.one e,.inr rfl,a,(λ_ h=>nomatch h)⟩
theorem Xk(e:H b=some (.tup [.str "all"]))(a:P none):u_ H ns ws (.ref b) P:=⟨.one "all",.one e,.inl rfl,a,(λ_ h=>nomatch h)⟩
theorem Xl{y:Str}(e:H b=some (.tup [.str "way",.str x,.str y]))(a:isName x=true)(c:isName y=true)(d:x∈ns)(f:y∈ns)(g:P none):u_ H ns ws (.ref b) P:=⟨.way x y,.way e,⟨a,c,d,f⟩,g,(λ_ h=>nomatch h)⟩
theorem tN{s:Str}{xs:Qby}{a:List (Str×Str)}(hs:s="box"\/s="pick")(e:H b=some (.tup [.str s,.ref c]))(d:H c=some (.tup xs))(f:xs.length<=10)(h:NG H ns xs a)(g:∀q∈a,q.1∈ws)(i:P none):u_ H ns ws (.ref b) P:=
 ⟨.prs s a,.prs e d ⟨h.len,h.at_⟩,⟨hs,h.nm,h.JY,by rw[<- h.len];exact f⟩,i,λz j=>by obtain⟨q,hq,rfl⟩:=Yy.mp j;exact g q hq⟩
end
theorem NI {y:Str} (e:H b=some (.tup [.str x,.str y])) (a:Wd x) (c:Wd y):TB H (.ref b) 1 411:=
 (TB.tup (k:=0) (n:=202) e λv hv=>by
  simp only [Qp,QB,or_false] at hv
  rcases hv with rfl | rfl
  ·exact TB.str a
  ·exact TB.str c).mono (by lia) (by simp)
theorem HV.tb{ws:Qbo}{v:V}{h:Hd}(q:HV H v h)(ok:h.ok ns)(a:∀n∈ns,Wd n)(g:∀z∈h.qa,Wd z):TB H v 3 8273:=by
 cases q with
 |one e=>
  refine(TB.tup (k:=0) (n:=202) e λv hv=>?_).mono (by lia) (by simp);rw[qI.mp hv];rcases ok with rfl|rfl<;>exact TB.str (eE (by decide) (by decide))
 |as e=>exact(NI e (eE (by decide) (by decide)) (a _ ok.2)).mono (by lia) (by lia)
 |way e=>
  refine(TB.tup (k:=0) (n:=202) e λv hv=>?_).mono (by lia) (by simp);simp only[Qp,QB,or_false]at hv;rcases hv with rfl|rfl|rfl
  ·exact TB.str (eE (by decide) (by decide))
  ·exact TB.str (a _ ok.2.2.1)
  ·exact TB.str (a _ ok.2.2.2)
 | @prs b c s xs ps e e' p=>
  have l:=ok.2.2.2;have m:=p.len;refine(TB.tup (k:=2) (n:=4133) e λv hv=>?_).mono (by lia) (by simp);simp only[Qp,QB,or_false]at hv;rcases hv with rfl|rfl
  ·rcases ok.1 with rfl|rfl<;>exact(TB.str (eE (by decide) (by decide))).mono (by lia) (by lia)
  ·refine(TB.tup (k:=1) (n:=411) e' λx j=>?_).mono (by lia) (by lia);obtain⟨i,hi,rfl⟩:=Qi j;have d:i<ps.length:=by lia
   obtain⟨c',q1,q2⟩:=p.at_ i hi d
   rw[q1];have f:ps[i]∈ps:=Qj d;exact NI q2 (g _ (Yy.mpr ⟨_,f,rfl⟩)) (a _ (ok.2.1 _ f).2.2)
def Hd.qb(f g:Str->Str):Hd->Hd
 | .one s=>.one s
 | .as y=>.as (f y)
 | .way x y=>.way (f x) (f y)
 | .prs s ps=>.prs s (ps.map λp=>(g p.1,f p.2))
def ic(f g:Str->Str)(r:aj):aj:=(f r.1,r.2.qb f g)
theorem Hd.Hh(f g:Str->Str)(h:Hd):(h.qb f g).nx=h.nx.map f:=by cases h<;>rfl
theorem qO(a:Str):zg a a=false:=by
 unfold zg;exact Qx (List.lt_irrefl _)
theorem Hd.NJ{b:Qbo}{f g:Str->Str}{h:Hd}(ok:h.ok ns)(c:∀z∈h.qa,z∈ws)(a:∀x∈ns,f x∈b/\isName (f x)=true)(d:∀z∈ws,isName (g z)=true)(e:∀os:Qbo,(∀z∈os,z∈ws)->rising os=true->rising (os.map g)=true):(h.qb f g).ok b:=by
 cases h with
 |one s=>exact ok
 |as y=>exact⟨(a _ ok.2).2,(a _ ok.2).1⟩
 |way x y=>exact⟨(a _ ok.2.2.1).2,(a _ ok.2.2.2).2,(a _ ok.2.2.1).1,(a _ ok.2.2.2).1⟩
 |prs s ps=>
  refine⟨ok.1,λp i=>?_,?_,by rw[Ql];exact ok.2.2.2⟩
  ·obtain⟨q,hq,rfl⟩:=Yy.mp i;obtain⟨_,_,m⟩:=ok.2.1 q hq;exact⟨d _ (c _ (Yy.mpr ⟨q,hq,rfl⟩)),(a _ m).2,(a _ m).1⟩
  ·rw[Qn];have j:∀z∈ps.map (λq:Str×Str=>q.1),z∈ws:=c;have:=e (ps.map λq:Str×Str=>q.1) j ok.2.2.1;rw[Qn]at this;exact this
theorem Hd.NK{b:Qbo}{f g:Str->Str}{h:Hd}(c:∀z∈h.qa,z∈ws)(d:∀z∈ws,g z∈b):∀z∈(h.qb f g).qa,z∈b:=by
 cases h with
 |prs s ps=>
  intro z a;simp only[Hd.qb,Hd.qa,Qn]at a;obtain⟨q,hq,rfl⟩:=Yy.mp a;exact d _ (c _ (Yy.mpr ⟨q,hq,rfl⟩))
 |_=>intro z a;exact nomatch a
def Fw(ns:Qbo)(n:Str)(o:Option Str):Prop:=∀y,o=some y->∃(i j:Nat),i<j/\ns[i]? =some y/\ns[j]? =some n
structure ya(H:Hp)(ns ws:Qbo)(rs:Qbw):Prop where
 sub:∀r∈rs,r.1∈ns
 hd:∀r∈rs,u_ H ns ws r.2 (Fw ns r.1)
theorem ya.tk{H U:Hp}{ns ws:Qbo}{a:Qbw}(h:ya H ns ws a)(s:Tk H U):ya U ns ws a:=⟨h.sub,λr b=>(h.hd r b).tk s⟩
theorem ya.perm{c a:Qbw}(h:ya H ns ws c)(p:∀r∈a,r∈c):ya H ns ws a:=⟨λr b=>h.sub r (p r b),λr b=>h.hd r (p r b)⟩
theorem ya.add{a:Qbw}(h:ya H ns ws a){n:Str}{v:V}(b:n∈ns)(c:u_ H ns ws v (Fw ns n)):ya H ns ws ((n,v)::a):=by
 refine⟨λr hr=>?_,λr hr=>?_⟩<;>rcases Qp.mp hr with rfl|hr
 ·exact b
 ·exact h.sub r hr
 ·exact c
 ·exact h.hd r hr
structure RT(H:Hp)(a:Addr)(xs:Qby)(rows:List aj)(ns ws:Qbo):Prop where
 at_:H a=some (.tup xs)
 rv:RV H xs rows
 nm:(rows.map (·.1)).Perm ns
 nd:ns.Nodup
 ok:NH ns rows
 wd:∀n∈ns,Wd n
 ah:∀r∈rows,Fw ns r.1 r.2.nx
 ww:∀r∈rows,∀z∈r.2.qa,z∈ws
 pos:1<=ns.length
 few:ns.length<=30
section
variable{xs:Qby}{rows:List aj}
theorem RT.tk(h:RT H a xs rows ns ws)(s:Tk H U):RT U a xs rows ns ws:=⟨s _ _ h.at_,h.rv.tk s,h.nm,h.nd,h.ok,h.wd,h.ah,h.ww,h.pos,h.few⟩
theorem RT.rl(h:RT H a xs rows ns ws):rows.length=ns.length:=by have:=h.nm.length_eq;simpa using this
theorem RT.ia(h:RT H a xs rows ns ws):(rows.map (·.1)).Nodup:=by rw[h.nm.nodup_iff];exact h.nd
theorem RT.of{c:Qbw}(e:H a=some (.tup xs))(l:p_ H xs (ck c))(q:(c.map (·.1)).Perm ns)(s:ns.Nodup)(m:∀n∈ns,isName n=true/\Wd n)(j:1<=ns.length)(k:ns.length<=30)(g:ya H ns ws c):∃rows,RT H a xs rows ns ws:=by
 have t:∀i:Fin c.length,∃hd:Hd,HV H c[i.val].2 hd/\hd.ok ns/\Fw ns c[i.val].1 hd.nx/\∀z∈hd.qa,z∈ws:=λi=>(g.hd _ (Qj i.isLt)).ex;obtain⟨f,hf⟩:=QaV t;have u:xs.length=c.length:=by have:=l.1;simpa using this
 have w:(List.ofFn λi:Fin c.length=>((c[i.val].1,f i):aj)).map (·.1)=c.map (·.1):=by
  apply Qam
  ·simp
  ·intro i o x;simp
 have d:∀r∈(List.ofFn λi:Fin c.length=>((c[i.val].1,f i):aj)),∃i:Fin c.length,r=(c[i.val].1,f i):=λr h=>by
  obtain⟨i,hi,rfl⟩:=Qi h;exact⟨⟨i,by simpa using hi⟩,by simp⟩
 refine⟨List.ofFn λi=>(c[i.val].1,f i),e,⟨by simp[u],λi o x=>?_⟩,by rw[w];exact q,s,λr h=>?_,λn y=>(m n y).2,λr h=>?_,λr h=>?_,j,k⟩
 ·have p:i<c.length:=by lia
  obtain⟨b,e1,e2⟩:=l.2 i (by simpa using p);rw[Qa o]at e1;refine⟨b,c[i].2,QE e1,?_,?_⟩
  ·simpa[ck,kV]using e2
  ·simpa using(hf ⟨i,p⟩).1
 ·obtain⟨i,rfl⟩:=d r h;exact⟨(m _ (g.sub _ (Qj i.isLt))).1,(hf i).2.1⟩
 ·obtain⟨i,rfl⟩:=d r h;exact(hf i).2.2.1
 ·obtain⟨i,rfl⟩:=d r h;exact(hf i).2.2.2
end
section
variable{xs ys:Qby}{rows AU:List aj}{Fv:Qbo}{f g:Str->Str}
theorem RT.pairs(h:RT H a xs rows ns ws):∃rs:Qbw,p_ H xs (ck rs)/\rs.map (·.1)=rows.map (·.1)/\rs.length=rows.length/\∀i(d:i<rs.length)(c:i<rows.length),HV H rs[i].2 rows[i].2:=by
 have e:=h.rv.len;have g:∀i:Fin rows.length,∃v:V,(∃b,xs[i.val]? =some (.ref b)/\H b=some (.tup [.str rows[i.val].1,v]))/\HV H v rows[i.val].2:=λi=>by
  obtain⟨b,v,q1,q2,q3⟩:=h.rv.at_ i.val (by have:=i.isLt;lia) i.isLt
  exact⟨v,⟨b,by rw[Qa (by have:=i.isLt;lia),q1],q2⟩,q3⟩
 obtain⟨f,hf⟩:=QaV g;refine⟨List.ofFn λi=>(rows[i.val].1,f i),⟨by simp[e],λi j=>?_⟩,?_,by simp,λi d c=>?_⟩
 ·have k:i<rows.length:=by simpa using j
  obtain⟨b,q1,q2⟩:=(hf ⟨i,k⟩).1;exact⟨b,q1,by simpa[ck,kV]using q2⟩
 ·apply Qam
  ·simp
  ·intro i d c;simp
 ·simpa using(hf ⟨i,c⟩).2
def ai(rows:List aj)(x:Str):Hd:=((rows.find? λr=>decide (r.1=x)).map (·.2)).getD (.one "")
def jb(rows:List aj)(x:Str):Option Str:=(ai rows x).nx
theorem bN(a:(rows.map (·.1)).Nodup){r:aj}(b:r∈rows):ai rows r.1=r.2:=by
 obtain⟨i,hi,rfl⟩:=Qi b;have:rows.find? (λr=>decide (r.1=rows[i].1))=some rows[i]:=by
  rw[Qbd];refine⟨by simp,i,hi,rfl,λj c=>?_⟩;have d:(rows.map (·.1))[j]'(by simp;lia)≠(rows.map (·.1))[i]'(by simpa using hi):=Qac.mp a j i (by simp;lia) (by simpa using hi) c;simpa using d
 unfold ai;rw[this];rfl
theorem HV.Xm{v:V}{h:Hd}(q:HV H v h)(ok:h.ok ns):CK H v h.nx:=by
 cases q with
 |one e=>exact⟨_,rfl,.inl ⟨_,_,e,by rcases ok with rfl|rfl<;>decide,rfl⟩⟩
 |as e=>exact⟨_,rfl,.inr ⟨_,e,rfl⟩⟩
 |way e=>exact⟨_,rfl,.inl ⟨_,_,e,by decide,rfl⟩⟩
 |prs e e' p=>exact⟨_,rfl,.inl ⟨_,_,e,by rcases ok.1 with rfl|rfl<;>decide,rfl⟩⟩
theorem RT.good(h:RT H a xs rows ns ws)(o:∀z∈ws,Wd z):∃rs,qz H a xs rs (jb rows) (λn=>ns.idxOf n)/\rs.map (·.1)=rows.map (·.1)/\rs.length=rows.length/\∀x v,x∈ns->a_ (dictOf (ck rs)) (.inr x)=some v->HV H v (ai rows x):=by
 obtain⟨rs,ps,nm,rl,hv⟩:=h.pairs;have w:=h.rl;have A:=h.few;have C:=h.pos;have nd:(rs.map (·.1)).Nodup:=by rw[nm];exact h.ia
 have f:∀n,n∈ns↔n∈rs.map (·.1):=λn=>by rw[nm];exact h.nm.mem_iff.symm
 have d:∀r∈rs,∃b∈rows,r.1=b.1/\HV H r.2 b.2:=λr c=>by
  obtain⟨i,hi,rfl⟩:=Qi c;have k:i<rows.length:=by lia
  refine⟨rows[i],Qj k,?_,hv i hi k⟩;have:(rs.map (·.1))[i]'(by simpa using hi)=(rows.map (·.1))[i]'(by simpa using k):=by simp only[nm]
  simpa using this
 have g:qz H a xs rs (jb rows) (λn=>ns.idxOf n):=by
  refine⟨h.at_,ps,nd,by lia,by lia,λr c=>?_,λr c y l=>?_,λr c=>?_,λr c=>?_⟩
  ·obtain⟨b,ff,e,v⟩:=d r c;unfold jb;rw[e,bN h.ia ff];exact v.Xm (h.ok b ff).2
  ·obtain⟨b,ff,e,v⟩:=d r c;unfold jb at l;rw[e,bN h.ia ff]at l;obtain⟨i,j,vc,O,Y⟩:=h.ah b ff y l;refine⟨(f y).mp (QD O),?_⟩;show ns.idxOf y<ns.idxOf r.1;rw[e,pL h.nd O,pL h.nd Y];exact vc
  ·have:=List.idxOf_lt_length_of_mem ((f r.1).mpr (Yy.mpr ⟨r,c,rfl⟩));show ns.idxOf r.1<=_
   lia
  ·obtain⟨b,ff,e,v⟩:=d r c;refine⟨h.wd _ ((f r.1).mpr (Yy.mpr ⟨r,c,rfl⟩)),v.tb (ws:=ws) (h.ok b ff).2 h.wd λz p=>o z (h.ww b ff z p)⟩
 refine⟨rs,g,nm,rl,λx v s t=>?_⟩;obtain⟨v',m,e⟩:=g.get ((f x).mp s);rw[t]at e;cases e;obtain⟨b,ff,e,q⟩:=d _ m;have u:x=b.1:=e;rw[u,bN h.ia ff];exact q
theorem RT.qb(h:RT H a xs rows ns ws)(w:AU.Perm (rows.map (ic f g)))(e:H b=some (.tup ys))(C:RV H ys AU)(D:∀x∈ns,∀y∈ns,f x=f y->x=y)(p:∀x∈ns,isName (f x)=true/\Wd (f x))(A:∀z∈ws,isName (g z)=true/\g z∈Fv)
  (l:∀os:Qbo,(∀z∈os,z∈ws)->rising os=true->rising (os.map g)=true):RT H b ys AU (ns.map f) Fv:=by
 have d:∀r∈AU,∃c∈rows,ic f g c=r:=λr l=>Yy.mp (w.mem_iff.mp l);have E:∀r∈rows,r.1∈ns:=λr l=>h.nm.mem_iff.mp (Yy.mpr ⟨r,l,rfl⟩);refine⟨e,C,?_,?_,λr o=>?_,λn q=>?_,λr o y s=>?_,λr o=>?_,by rw[Ql];exact h.pos,by rw[Ql];exact h.few⟩
 ·refine(w.map (·.1)).trans ?_;rw[Qn];have t:rows.map ((λr:aj=>r.1)∘ic f g)=(rows.map (·.1)).map f:=by rw[Qn];rfl
  rw[t];exact h.nm.map f
 ·rw[List.Nodup,wW];exact h.nd.imp_of_mem fun{x y}k s q e=>q (D x k y s e)
 ·obtain⟨c,m,rfl⟩:=d r o;refine⟨(p _ (E c m)).1,Hd.NJ (h.ok c m).2 (h.ww c m) (λx k=>⟨Yy.mpr ⟨x,k,rfl⟩,(p x k).1⟩) (λz u=>(A z u).1) l⟩
 ·obtain⟨x,k,rfl⟩:=Yy.mp q;exact(p x k).2
 ·obtain⟨c,m,rfl⟩:=d r o;have G:(c.2.nx).map f=some y:=by rw[<- Hd.Hh f g];exact s
  obtain⟨y',t,rfl⟩:=QaA.mp G;obtain⟨i,j,vc,O,Y⟩:=h.ah c m y' t;exact⟨i,j,vc,by rw[Qq,O];rfl,by rw[Qq,Y];rfl⟩
 ·obtain⟨c,m,rfl⟩:=d r o;exact Hd.NK (h.ww c m) λz u=>(A z u).2
theorem Xo(h:RT H a xs rows ns ws)(b:AU.Perm (rows.map (ic f g)))(c:(AU.map (·.1)).Nodup)(d:x∈ns):ai AU (f x)=(ai rows x).qb f g:=by
 obtain⟨r,hr,rfl⟩:=Yy.mp (h.nm.mem_iff.mpr d);have e:ic f g r∈AU:=b.mem_iff.mpr (Yy.mpr ⟨r,hr,rfl⟩);have:=bN c e;rw[bN h.ia hr];exact this
end
theorem BB.snoc{xs:Qby}{a:List (Str×Str)}(h:BB H xs a){y:Str}(e:H c=some (.tup [.str x,.str y])):BB H (xs++[.ref c]) (a++[(x,y)]):=by
 have b:=h.len;refine⟨by simp[b],λi d g=>?_⟩;by_cases be:i<xs.length
 ·rw[Qe be,Qe (by lia)];exact h.at_ i be (by lia)
 ·have f:i=xs.length:=by simp at d;lia
  subst f;rw[Qf (Qz _),Qf (by lia)];simp only[Qar,uI,b];exact⟨c,rfl,e⟩
def Hd.bf:Hd->List (Qbo×Str)
 | .way x y=>[(["from"],x),(["to"],y)]
 | .prs s ps=>ps.map λp=>([if s="box" then"part" else"case",p.1],p.2)
 |_=>[]
theorem u4:∀{h:Hd},h.ok ns->∀m∈h.bf,m.2∈ns
 | .one _,_,_,hm=>nomatch hm
 | .as _,_,_,hm=>nomatch hm
 | .way x y,ok,m,hm=>by
  simp only[Hd.bf,Qp,QB,or_false]at hm;rcases hm with rfl|rfl
  ·exact ok.2.2.1
  ·exact ok.2.2.2
 | .prs s ps,ok,m,hm=>by
  obtain⟨p,hp,rfl⟩:=Yy.mp hm;exact(ok.2.1 p hp).2.2
def endOf(rows:List aj)(x:Str):Str:=mj (jb rows) rows.length x
def ak(rows:List aj)(x:Str):List (Qbo×Str):=(ai rows (endOf rows x)).bf.map λm=>(m.1,endOf rows m.2)
theorem RT.AR{H:Hp}{a:Addr}{xs:Qby}{rows:List aj}{ns ws:Qbo}(rt:RT H a xs rows ns ws)(c:∀z∈ws,Wd z){x:Str}(d:x∈ns):endOf rows x∈ns/\(ai rows (endOf rows x)).nx=none/\(ai rows (endOf rows x)).ok ns:=by
 obtain⟨rs,g,nm,rl,hv⟩:=rt.good c;have b:∀z,z∈ns↔z∈rs.map (·.1):=λz=>by rw[nm];exact rt.nm.mem_iff.symm
 obtain⟨O,Y⟩:=g.AR ((b x).mp d);rw[rl]at O Y;refine⟨(b _).mpr O,Y,?_⟩;have f:endOf rows x∈rows.map (·.1):=by rw[<- nm];exact O
 obtain⟨r,hr,e⟩:=Yy.mp f;rw[<- e,bN rt.ia hr];exact(rt.ok r hr).2
structure Fx(K:Q0)(t:Addr×Obj×Qby):Prop where
 lk:K.lookup t.1=some t.2.1
 ok:∃(its:Qbp)(n:Nat),t.2.1.cls=.type "tuple"/\t.2.1.dict=none/\t.2.1.data=.seq its.toArray n/\bg t.2.2 its/\t.2.2.length<=sizeLine
def without(K:Q0)(as:Qbq):Q0:=K.filter λp=> !as.contains p.1
theorem dB{as:Qbq}{b:Addr}:∀{K:Q0},(without K as).lookup b=if as.contains b=true then none else K.lookup b
 | []=>by unfold without;simp
 |(c,o)::K=>by
  have ih:=dB (as:=as) (b:=b) (K:=K);unfold without at ih⊢;rw[Qbm];by_cases hc:as.contains c=true
  ·have a:¬(!as.contains (c,o).1)=true:=by show ¬(!as.contains c)=true;rw[hc];decide
   rw[if_neg a,ih];by_cases hb:as.contains b=true
   ·rw[if_pos hb,if_pos hb]
   ·have n:(b==c)=false:=by
     cases e:b==c with
     |false=>rfl
     |true=>rw[eq_of_beq e]at hb;exact absurd hc hb
    rw[if_neg hb,if_neg hb,Qal,n]
  ·have a:(!as.contains (c,o).1)=true:=by
    show(!as.contains c)=true;cases q:as.contains c with
    |true=>exact absurd q hc
    |false=>rfl
   rw[if_pos a,Qal,Qal,ih];cases e:b==c with
   |true=>
    have:¬as.contains b=true:=by rw[eq_of_beq e];exact hc
    show some o=if as.contains b=true then none else some o
    rw[if_neg this]
   |false=>rfl
def NN(H:Hp):Prop:=∀b,H b=none\/∃o u,H b=some (.af o u)
def ki(ts:List (Addr×Obj×Qby))(G:Hp):Hp:=λb=>match ts.find? λt=>decide (t.1=b)with
 |some t=>some (.af t.2.1 (.tup t.2.2))
 |none=>G b
theorem yZ{ts:List (Addr×Obj×Qby)}{G:Hp}{t:Addr×Obj×Qby}(h:t∈ts)(b:(ts.map (·.1)).Nodup):ki ts G t.1=some (.af t.2.1 (.tup t.2.2)):=by
 induction ts with
 |nil=>cases h
 |cons a ts ih=>
  unfold ki;rw[Qax];rw[xA,jK]at b;by_cases e:a.1=t.1
  ·rw[Qw e];rcases Qp.mp h with rfl|h
   ·rfl
   ·exact absurd (Yy.mpr ⟨t,h,e.symm⟩) b.1
  ·rw[Qx e];rcases Qp.mp h with rfl|h
   ·exact absurd rfl e
   ·exact ih h b.2
theorem eG{ts:List (Addr×Obj×Qby)}{G:Hp}:(∃t∈ts,t.1=b/\ki ts G b=some (.af t.2.1 (.tup t.2.2)))\/((∀t∈ts,t.1≠b)/\ki ts G b=G b):=by
 unfold ki;cases q:ts.find? λt=>decide (t.1=b)with
 |some t=>
  have a:=QaI q;have c:=List.find?_some q;exact .inl ⟨t,a,Qt c,rfl⟩
 |none=>
  refine .inr ⟨λt d e=>?_,rfl⟩;have:=Qbc.mp q t d;simp[e]at this
theorem xS{K:Q0}{E:Str->Qbr}{R:yx}{k:Nat}{I:Addr}{c:Shared}{vs:Qbp}{ns:List Int}{ts:List (Addr×Obj×Qby)}
  (y:∀t∈ts,Fx K t) (nd:(ts.map (·.1)).Nodup)
  (L:K.In c.heap) (T:c.heap.Ns mainGlobals mg) (g:c.heap.Ns builtinsNs E) (Xq:∀x:Str,x≠"__name__"->E x=bootBuiltins x) (Xr:c.heap.NoLimit) (hg:c.gens=#[])
  (p:c.heap.get? a=some {cls:=.type "list",data:=.seq vs.toArray}) (hi:IntsAre vs ns) (hl:ns.length<=sizeLine) (hr:gb k callerA)
  (F:∀base:Heap,(without K (ts.map (·.1))).In base->base.Ns mainGlobals mg->qg P w (without K (ts.map (·.1))) mg base R k I fd [x] sp) (Xs:∀(s:Shared)(u:Value),BindsTo s fd ⟨[u],[]⟩ [(x,u)])
  (Bs:∀H:Hp,NN H->(∀t∈ts,H t.1=some (.af t.2.1 (.tup t.2.2)))->ao (without K (ts.map (·.1))) H a (ns.map V.int)->sp [.ref a] H (λv _=>v=.bl true) λ_ _ _=>False)
  (Xu:∀H e s',R [] H c (λ_ _ _=>False) e s'->False):
  codeAny (model P w) callerA (.call (.ref I) ⟨[.ref a],[]⟩) (λr s'=>r=.ok (.ret (.bool true))/\OldK c.heap s'.heap/\s'.os=c.os/\AllBare s'.gens) c:=by
 have rv:=oP hi;have Xv:=hi.length;have N:∀t∈ts,c.heap.get? t.1=some t.2.1:=λt f=>L _ _ (y t f).lk;have NP:∀t∈ts,t.1≠a:=λt f e=>by
  obtain⟨its,n,O,_⟩:=(y t f).ok;have:=N t f;rw[e,p]at this;rw[<- QE this]at O;injection O with Y;exact absurd Y (by decide)
 have i:∀G:Hp,(∀b,G b≠none->b=a)->(G a≠none->K.lookup a=none)->(∀b,G b=none\/∃o u,G b=some (.af o u))->ao (without K (ts.map (·.1))) (ki ts G) a (ns.map V.int)->(∀u,G a=some u->∀H,bx P w H c.heap a u)->
   codeAny (model P w) callerA (.call (.ref I) ⟨[.ref a],[]⟩) (λr s'=>r=.ok (.ret (.bool true))/\OldK c.heap s'.heap/\s'.os=c.os/\AllBare s'.gens) c:=by
  intro G Q hK hF hS hO;have o_:∀b,ki ts G b≠none->b=a\/∃t∈ts,t.1=b:=λb q=>by
   rcases eG (ts:=ts) (G:=G) (b:=b)with⟨t,f,e,_⟩|⟨_,e⟩
   ·exact .inr ⟨t,f,e⟩
   ·rw[e]at q;exact .inl (Q b q)
  have af:NN (ki ts G):=λb=>by
   rcases eG (ts:=ts) (G:=G) (b:=b)with⟨t,f,e,q⟩|⟨_,q⟩
   ·exact .inr ⟨_,_,q⟩
   ·rw[q];exact hF b
  have hok:fg P w (ki ts G) c.heap:=λb u q=>by
   rcases eG (ts:=ts) (G:=G) (b:=b)with⟨t,f,e,j⟩|⟨_,j⟩
   ·rw[j]at q;cases q;obtain⟨its,n,O,Y,h3,h4,h5⟩:=(y t f).ok;have l:=N t f;rw[e]at l;exact⟨l,⟨h5,λo z=>by rw[l]at z;cases z;exact Y⟩,its,h4,t.2.1,l,O,n,h3⟩
   ·rw[j]at q;have e:=Q b (by rw[q];simp);subst e;exact hO u q _
  have NQ:∀{b:Addr}{o:Obj},c.heap.get? b=some o->ki ts G b=none->(AG c.heap (ki ts G)).get? b=some o:=λe n=>zP e n;have E7:∀{b:Addr}{o:Obj}{A:Array DictEntry}{C:Nat},c.heap.get? b=some o->o.data=.dict A C->ki ts G b=none:=fun{b o A C}e d=>by
   cases q:ki ts G b with
   |none=>rfl
   |some u=>
    rcases o_ b (by rw[q];simp)with z|⟨t,f,z⟩
    ·subst z;rw[p]at e;cases e;cases d
    ·have l:=N t f;rw[z,e]at l;cases l;obtain⟨its,n,O,Y,h3,_⟩:=(y t f).ok;rw[d]at h3;cases h3
  have D:∀{b:Addr}{m:Str->Qbr},c.heap.Ns b m->(AG c.heap (ki ts G)).Ns b m:=fun{b m} ⟨o,A,C,e,d,r⟩=>⟨o,A,C,NQ e (E7 e d),d,r⟩
  have NR:(without K (ts.map (·.1))).In (AG c.heap (ki ts G)):=λb o e=>by
   rw[dB]at e;by_cases hc:(ts.map (·.1)).contains b=true
   ·rw[if_pos hc]at e;cases e
   ·rw[if_neg hc]at e;refine NQ (L b o e) ?_;cases q:ki ts G b with
    |none=>rfl
    |some u=>
     rcases eG (ts:=ts) (G:=G) (b:=b)with⟨t,f,z,_⟩|⟨_,j⟩
     ·exact absurd (by rw[List.contains_iff_mem];exact Yy.mpr ⟨t,f,z⟩) hc
     ·rw[j]at q;have z:=Q b (by rw[q];simp);subst z;rw[hK (by rw[q];simp)]at e;cases e
  have hM:Mod (without K (ts.map (·.1))) mg (AG c.heap (ki ts G)):=⟨NR,D T,⟨E,D g,Xq⟩,let ⟨mc,O,Y⟩:=Xr;⟨mc,D O,Y⟩⟩
  have e0:Cp P w (without K (ts.map (·.1))) mg (AG c.heap (ki ts G)) callerA [] c (ki ts G):=⟨rfl,hM,λb o e=>Sf e,Nat.le_of_eq (xI _ _),trivial,λb g=>absurd (show b∈([]:Qbq)from g) (by simp),hok,.of_eq hg⟩
  refine codeAny_mono ((F _ NR (D T)).run callerA [] c (ki ts G) ⟨[.ref a],[]⟩ [.ref a] [.ref a] _ _ hr e0 (Xs c (.ref a)) (.cons rfl .nil) (Bs (ki ts G) af (λt f=>yZ f nd) hS)) λr s' h=>?_;cases r with
  |error e=>exact(Xu _ e s' h).elim
  |ok fl=>
   cases fl with
   |next=>exact False.elim h
   |brk=>exact False.elim h
   |cont=>exact False.elim h
   |ret u=>
    obtain⟨v,U,os,bare,un,Xw,r',q⟩:=h;have j:v=.bl true:=q;subst j;obtain rfl:u=Value.bool true:=r';refine⟨rfl,OldK.of_keep λb o e=>?_,os,bare⟩;cases q:ki ts G b with
    |none=>exact un.keep b o e q (by intro z;exact absurd (show b∈([]:Qbq)from z) (by simp)) (by simp)
    |some u=>
     rcases af b with z|⟨ob,u',z⟩
     ·rw[q]at z;cases z
     ·have z2:=un.vy b ob _ z;obtain⟨e1,_⟩:=hok b _ z;obtain⟨e2,_⟩:=Xw b _ z2;rw[e]at e1;cases e1;exact e2
 have Xx:¬(ts.map (·.1)).contains a=true:=λh=>by
  rw[List.contains_iff_mem]at h;obtain⟨t,f,e⟩:=Yy.mp h;exact NP t f e
 have Xy:∀G:Hp,ki ts G a=G a:=λG=>by
  rcases eG (ts:=ts) (G:=G) (b:=a)with⟨t,f,e,_⟩|⟨_,q⟩
  ·exact absurd e (NP t f)
  ·exact q
 cases hk:K.lookup a with
 |some o=>
  have e:=L a o hk;rw[p]at e;cases e;exact i (λ_=>none) (λb z=>absurd rfl z) (λz=>absurd rfl z) (λ_=>.inl rfl) (.inr ⟨_,vs.toArray,_,by rw[dB,if_neg Xx];exact hk,rfl,rfl,rfl,by rw[yJ,Xv];exact hl,by simpa using rv⟩) λu z=>by cases z
 |none=>
  refine i (λb=>if b=a then some (.af {cls:=.type "list",data:=.seq vs.toArray} (.lst (ns.map V.int)))else none) (λb z=>?_) (λ_=>hk) (λb=>?_) (.inl (.inr ⟨{cls:=.type "list",data:=.seq vs.toArray},by rw[Xy];exact if_pos rfl⟩)) λu z H=>?_
  ·by_cases g:b=a
   ·exact g
   ·exact absurd (if_neg g) z
  ·by_cases g:b=a
   ·exact .inr ⟨_,_,if_pos g⟩
   ·exact .inl (if_neg g)
  ·have z':=(if_pos rfl).symm.trans z;cases z';exact⟨p,by rw[Ql];exact hl,vs,_,rv,p⟩
def adr(b:Str->Qbr)(x:Str):Addr:=match b x with
 |some (.ref a)=>a
 |_=>0
theorem Xz(h:mg x=some (.ref a)):RelV (.ref (adr mg x)) (.ref a):=by
 unfold adr;rw[h];exact rfl
def Kn(a:Str->Qbr)(H:Hp)(x:Str)(ys:Qby):Prop:=∃o,H (adr a x)=some (.af o (.tup ys))
theorem Kn.same{ys:Qby}(h:Kn mg H x ys)(s:ae H U):Kn mg U x ys:=let ⟨o,e⟩:=h;⟨o,s _ _ e⟩
theorem Kn.rd{ys:Qby}(h:Kn mg H x ys):cf H (adr mg x) ys:=.inr h
theorem cf.same{ys:Qby}(h:cf H b ys)(s:ae H U):cf U b ys:=h.imp (λe=>s _ _ e) fun⟨o,e⟩=>⟨o,s _ _ e⟩
structure SV(H:Hp)(xs:Qby)(ss:List Qbo):Prop where
 len:xs.length=ss.length
 at_:∀i(h:i<xs.length)(M:i<ss.length),∃b,xs[i]=.ref b/\cf H b (ss[i].map V.str)
theorem SV.keep{xs:Qby}(h:SV H xs ss)(s:∀b ys,cf H b ys->cf U b ys):SV U xs ss:=⟨h.len,λi a b=>let ⟨c,O,Y⟩:=h.at_ i a b;⟨c,O,s _ _ Y⟩⟩
theorem SV.nil:SV H [] []:=⟨rfl,λi h=>absurd h (by simp)⟩
theorem SV.snoc{xs:Qby}(h:SV H xs ss){m:Qbo}(e:cf H b (m.map V.str)):SV H (xs++[.ref b]) (ss++[m]):=by
 have a:=h.len;refine⟨by simp[a],λi c f=>?_⟩;by_cases be:i<xs.length
 ·rw[Qe be,Qe (by lia)];exact h.at_ i be (by lia)
 ·have d:i=xs.length:=by simp at c;lia
  subst d;rw[Qf (Qz _),Qf (by lia)];simp only[Qar,a,uI];exact⟨b,rfl,e⟩
section
variable{kx vx:Expr}{pos:Pos}{tk tw:TE}
def NS (own:Qbo) (idx:Qbs) (k:TI) (g:TG) (l:TC) (n o:TE):TE:=λZ H Q=>k Z H λJ H1=>∀ D,H1 D=none->∃ W:Nat->Nat->St->Hp->Prop,(∃ m,W 0 m (ze own idx Z) (upd H1 D (.dT [])))/\∀ i m f H,W i m f H->
 (J.stop i H/\Q (.ref D) H)\/(J.go i H/\∃ N:St->Hp->Prop,(∀ c U,N c U->∃ h,h < m/\W (i+1) h c U)/\∀ x U,J.pe i H x U->g x f U λa H2=>l a H2 λb j=>
  if b=true then n a j λx p=>o a p λy e=>∃ kvs d b,x=.ref b/\cf e b (d.map kV)/\e D=some (.dT kvs)/\kvs.length < sizeLine/\N a (upd e D (.dT (putK kvs d y))) else N a j)
theorem XA(S:pq X.env.scope X.N F own idx N')(hc:X.calm=true)(hu:X.A.units<cLine)(hi:PI X tg iter wi)
  (hg:∀f C i H0 fp j,PG (cy X N' F f C i H0 fp j) tg g) (ht:∀f C i H0 fp j,zf (cy X N' F f C i H0 fp j) ifs tc) (he:∀f C i H0 fp j,PE (cy X N' F f C i H0 fp j) kx tk) (hv:∀f C i H0 fp j,PE (cy X N' F f C i H0 fp j) vx tw)
  (hs:∀x,foldedSetIterable iter X.env x=pure x:=by intro _;rfl):PE X (.DictComp kx vx [⟨tg,iter,ifs,0⟩] F pos) (NS own idx wi g tc tk tw):=by
 intro B s Z H Q I h;obtain⟨f,AN,c1,c2⟩:=S.closure I.ok;show wpAny _ X.A (comprehension (.DictComp kx vx [⟨tg,iter,ifs,0⟩] F pos) F X.env _ newDict false (eval iter X.env)) _ _ s;refine wpAny_comprehension_free (use:=none) rfl hs AN S.kind S.names (av (hi B s Z H _ I h) λv s1 O=>av O λqw s2 P=>?_);refine m7 (Q:=Q) (B:=B) (Z:=Z) (RR:=λT C=>compPost (model X.prog X.w) X.A X.xe none (EP X B Z Q) T C) (ob:=Nu) (sel:=λenv D s K=>wpAny (model X.prog X.w) X.A (eval kx env) (λV p=>wpAny (model X.prog X.w) X.A (eval vx env) (λvv r=>wpAny (model X.prog X.w) X.A (dictSet D V vv) (λ_ t=>K t) jf r) jf p) jf s) (o0:=.dT []) (el:=λD G H K=>tk G H λx H4=>tw G H4 λy H5=>∃d a b,x=.ref b/\cf H5 b (a.map kV)/\H5 D=some (.dT d)/\d.length<sizeLine/\K (upd H5 D (.dT (putK d a y)))) S c1 c2 hc (hob:=rfl)
  (λit D env R s I L n h=>Nt I L n h) (λh k=>av h λ_ _ h=>av h λ_ _ h=>av h λ_ _ h=>k _ h) (λ_ _ _ _ _=>codeAny_compStart_dict) hg ht (λf C i H0 fp j B s G H D N I q=>?_) (λQ E h=>wpAny_newObj_type h)
  (λU I H h e=>⟨Qaj _,beq_eq_false_iff_ne.mpr (Ne.symm (yT I.big)),[],.nil,_,#[],0,e,⟨rfl,rfl,rfl⟩,rfl,rfl,QaX⟩) P ?_
 ·refine av (he f C i H0 fp j _ s G H _ I q) ?_;rintro V s8 ⟨x8,H8,I8,r8,q8⟩;refine av (hv f C i H0 fp j _ s8 G H8 _ I8 q8) ?_;rintro yv s9 ⟨y9,H9,I9,r9,d,a,b9,ek,eb,DQ,hz,n9⟩;subst ek;cases(show V=Value.ref b9 from r8);obtain⟨z,hd,xs,rel,dd⟩:=Jo I9.hok DQ;have Fl:xs.length<=sizeLine:=by rw[<- Paired.length rel];exact z
  have f_:(putK d a y9).length<=sizeLine:=by have:=bW d a y9;lia
  refine wpAny_dictSet_heap (hsz:=Fl) hu (iV I9.hok eb) dd λM jx hs=>?_;obtain⟨q,es,ep,hq,P,h3,h4,_,h5⟩:=jx;exact⟨_,dX (t':=s9.toks+(tupleKind (c_ X.prog X.w)).draws a) (ob:=.dT (putK d a y9)) I9 (by rw[DQ];exact True.intro) hs ⟨q,hq⟩ ⟨f_,hd,_,(rel.put a eb r9).keeps λc ys l=>l.upd λu hu z=>by subst z;rcases l with l|⟨_,l⟩<;>(rw[DQ]at l;cases l),q,es,ep,hq,P,h3,h4,h5⟩,n9⟩
 ·intro D C U s' I' q ⟨a1,a2,a3,a4,a5,m,a6⟩;exact⟨m,a6,λM sb=>⟨.ref D,U,I'.turned (t':=s'.toks) (λb o hb e=>(sb.2 b hb).trans e) a1 (Ne.symm (Ne.symm a2)) (.inr a3) a4 a5,rfl,q⟩⟩
theorem XC(S:pq X.env.scope X.N F own idx N')(d:X.calm=true)(e:X.A.units<cLine)(hi:SI X tg iter wi)
  (f:∀a C b H0 fp c,SG (cy X N' F a C b H0 fp c) tg g) (i:∀a C b H0 fp c,SC (cy X N' F a C b H0 fp c) ifs tc) (j:∀a C b H0 fp c,SE (cy X N' F a C b H0 fp c) kx tk) (hv:∀a C b H0 fp c,SE (cy X N' F a C b H0 fp c) vx tw)
  (hs:∀x,foldedSetIterable iter X.env x=pure x:=by intro _;rfl):SE X (.DictComp kx vx [⟨tg,iter,ifs,0⟩] F pos) (NS own idx wi g tc tk tw):=
 ⟨XA S d e hi.h (λq r s t u v=>(f q r s t u v).h) (λq r s t u v=>(i q r s t u v).h) (λq r s t u v=>(j q r s t u v).h) (λq r s t u v=>(hv q r s t u v).h) hs⟩
end
def CO(K:Q0)(a:Str->Qbr)(x q:Str)(st:Stmt)(b c:Qbo)(C:Addr):Prop:=
 a x=some (.ref C)/\uy K C/\(∀f∈c,Ae K C f)/\∃(f:Addr)(fd:FuncData),Mk K C f/\AM K "__init__" q st f fd/\Binds K fd b []
def BC(P:Program)(w:World)(K:Q0)(a:Str->Qbr)(base:Heap)(k:Nat)(x:Str)(C:Addr)(b:Qbo)(c:Sp):Prop:=
 a x=some (.ref C)/\∃(f:Addr)(fd:FuncData),Mk K C f/\qg P w K a base zc k f fd b c/\Binds K fd b []
section
variable{o value:Expr}{tv:TE}{f:Str}{pos p:Pos}{k:Nat}
theorem bV(K:Q0)(a:SE X e te)(h:X.K=K:=by rfl)(b:attributeBase e f X.env (eval e X.env)=eval e X.env:=by rfl):SE X (.Attribute e f pos) (MV K te f):=by subst h;exact⟨Um a.h b⟩
theorem kO(K:Q0)(a:SE X o ta)(hv:SE X value tv)(h:X.K=K:=by rfl)(hs:swapsWith value (some (.Attribute o f pos')) pos.line X.env=pure false:=by rfl):SS X (.Assign [.Attribute o f pos'] value pos) (GP K ta tv f):=by subst h;exact⟨Uo a.h hv.h hs⟩
theorem NT(F:BC X.prog X.w X.K X.mg X.base k x C ps sp)(a:gb (k+1) X.A)(c:SA X (e::es) t)(d:Gl X x:=by rfl)(g:QbE x:=by decide)
  (i:QbB X e es:=by rfl) (j:QbC X pos es:=by rfl):
  SE X (.Call (.Name x p) (e::es) [] pos) (GR C sp [] E0 t):=by
 obtain⟨m,f,fd,M,G,b⟩:=F;exact⟨Uw M G a d m b .nil Fc c.h g i j⟩
end
theorem CO.gw {K:Q0} {q:Str} {st:Stmt} {e:Qbo} {k:Nat} (F:CO K mg x q st ps e C) (S:fc N ps (cg st)) (d:∀ vs H Q E,sp vs H Q E->vs.length=ps.length)
  (g:∀ (f:Addr) (c:Value) (A:Around) (a:List Env) (s:Shared) (H:Hp) (vs:Qby) (Q:VK) (E:XK),gb k (A.deeper (envOfC q (cg st) s.heap.objs.size f c))->sp vs H Q E->
   ∃ t,SB (Af zc P w K mg base N q (cg st) f c A a s H E).Bo (mh st) t/\t {nx:=λ_ U=>Q .aq U,rt:=Q} (start N vs) H):BC P w K mg base (k+1) x C ps sp:=by
 obtain ⟨m,_,_,f,i,M,j,b⟩:=F
 exact ⟨m,f,i,M,j.ok S d λc A a s H vs Q E l h=>let ⟨t,O,Y⟩:=g f c A a s H vs Q E l h;⟨t,O.h,Y⟩,b⟩
theorem Inv.XD{kvs:Qbu}(I:Inv X B Z H s)(h:Rd H a (.dT kvs)):∃o,Inv X B Z (upd H a (.af o (.dT kvs))) s:=by
 rcases h with h|⟨o,h⟩
 ·have f:=(show bx X.prog X.w H s.heap a (.dT kvs)from I.hok a _ h)
  obtain⟨z,hd,xs,rel,o,es,ep,O,Y,h3,h4,h5⟩:=f;refine⟨o,I.write (x:=a) (e:=a) (M:=s.heap) (t':=s.toks) (o:=.af o (.dT kvs)) (by rw[h];exact True.intro) (.inl rfl) (λb u _ q=>q) ⟨o,O⟩ ⟨O,z,hd,xs,?_,o,es,ep,O,Y,h3,h4,h5⟩⟩;exact(show KT H kvs xs from rel).keeps λc g d=>d.upd λu i z=>by subst z;rcases d with d|⟨_,d⟩<;>(rw[h]at d;cases d)
 ·exact⟨o,by rw[jF h];exact I⟩
def XE(b:TE):TE:=λZ H Q=>b Z H λx H1=>∃a,x=.ref a/\((∃kvs,Rd H1 a (.dK kvs)/\∀o,Q x (upd H1 a (.af o (.dK kvs))))\/∃kvs,Rd H1 a (.dT kvs)/\∀o,Q x (upd H1 a (.af o (.dT kvs))))
theorem mT(i:SE X e te):SE X e (XE te):=by
 constructor;intro b s j H Q I h;refine av (i.h b s j H _ I h) ?_;rintro v k ⟨x,l,f,g,a,m,q⟩;rcases q with⟨c,d,q⟩|⟨c,d,q⟩
 ·obtain⟨o,es,ep,hd,I2,ho⟩:=f.freeze d;exact⟨x,_,I2,g,q o⟩
 ·obtain⟨o,I2⟩:=f.XD d;exact⟨x,_,I2,g,q o⟩
def valAt(kvs:Qbv)(i:Nat):V:=((kvs[i]?).map λa=>a.2).getD .aq
def Fy(a:Addr)(o:Obj)(kvs:Qbv):It:=⟨λi H=>H a=some (.af o (.dK kvs))/\i<kvs.length,λi H x U=>CJ (jg kvs i) (valAt kvs i) H x U,λi H=>H a=some (.af o (.dK kvs))/\kvs.length=i⟩
theorem jO(kvs:Qbv):BA (Fy a o kvs) (λH=>H a=some (.af o (.dK kvs))) kvs.length (jg kvs) (valAt kvs):=λH b=>⟨λi c=>⟨⟨b,c⟩,λx d h=>h⟩,b,rfl⟩
theorem qG{kvs:Qbv}{vs:List (Key×Value)}(r:KV kvs vs):∀{i:Nat}{p:Key×V},kvs[i]? =some p->∃q,vs[i]? =some q/\q.1=p.1/\RelV p.2 q.2:=by
 intro i
 induction r generalizing i with
 |nil=>intro p h;simp at h
 |cons a t ih=>
  intro p h;cases i with
  |zero=>simp at h;subst h;exact⟨_,by simp,a.1.symm,a.2⟩
  |succ i=>simp at h;simpa using ih h
theorem vA{K:Q0}{k:Nat}{m:Pos}{kvs:Qbv}(CP:a≠it)(u:∃es,o.data=.dict es ep):
  Turn P w K (.Tuple yo k m) (Fy a o kvs) [it] it (λi h=>∃ok ov,IsItemIter h it a i kvs.length ep ok ov)where
 mem:=by simp
 obj:=λi h st b c=>by
  have e:b=it:=by simpa using c
  subst e;obtain⟨ok,ov,he⟩:=st;exact⟨_,he,λv z=>by
   have C:Data.fields _=Data.cell v:=z;cases C⟩
 keep:=λi h g st k=>let ⟨ok,ov,he⟩:=st;⟨ok,ov,k it (by simp) _ he⟩
 item:=by
  intro X n p r x i d s y H E I j st t;subst n p r;obtain⟨ok,ov,he⟩:=st;obtain⟨hq,hi⟩:=t;obtain⟨e,z,hd,vs,rel,ob,es,nu,O,Y,h3,h4⟩:=(show bx X.prog X.w H s.heap a (.af o (.dK kvs))from I.hok a _ hq)
  obtain⟨es',fh⟩:=u;rw[e]at O;cases O;rw[fh]at h3;injection h3 with ii ik
  subst ii ik;obtain⟨q,mi,oq,CQ⟩:=qG rel (Qa hi);have l:=rel.len;obtain⟨qk,qv⟩:=q;refine wpAny_pyNext_items_item (knd:=c_ X.prog X.w) (kvs:=vs) (ep:=ep) (ok:=ok) (ov:=ov) (by rw[<- l];exact he) ⟨o,es',e,Y,fh,h4⟩ mi λf g D G L N Q=>?_;have R:RelV (jg kvs i) f:=by
   unfold jg;rw[Qa hi];show RelV (kV kvs[i].1) f;have T:qk=kvs[i].1:=oq;rw[<- T];exact nL D
  have V:RelV (valAt kvs i) qv:=by
   unfold valAt;rw[Qa hi];exact CQ
  have I1:Inv X d y (upd H s.heap.objs.size (.tup [jg kvs i,valAt kvs i])) {s with heap:=g}:=I.Fo (t':=s.toks) j (λb o c e=>Q b o (λz=>c (by simp[z])) e) (Qz _) (hV R V L);refine⟨_,rfl,wpAny_letOwnedTupleGo_items (s:={s with heap:=g}) G λBy CS sb=>?_⟩;have be:it≠s.heap.objs.size:=yT (QA he);obtain⟨f0,f1,f2,f3,f4,f5⟩:=j it (by simp);have A:upd H s.heap.objs.size (.tup [jg kvs i,valAt kvs i]) it=none:=by rw[aB be];exact f0
  refine⟨.ref s.heap.objs.size,_,I1.turned (t':=s.toks) (λb o c q=>(sb.2 b c).trans q) A f1 f3 f4 f5,rfl,⟨_,rfl,I.hok.fresh (Qz _),rfl⟩,⟨_,_,by rw[l];exact CS⟩,λb c=>?_⟩;have e:b=it:=by simpa using c
  subst e;exact A
 done:=by
  intro X n p r x i d s y H E I j st t;subst n p r;obtain⟨ok,ov,he⟩:=st;obtain⟨hq,hi⟩:=t;obtain⟨e,z,hd,vs,rel,ob,es,nu,O,Y,h3,h4⟩:=(show bx X.prog X.w H s.heap a (.af o (.dK kvs))from I.hok a _ hq)
  obtain⟨es',fh⟩:=u;rw[e]at O;cases O;rw[fh]at h3;injection h3 with ii ik
  subst ii ik;have l:=rel.len;obtain⟨f0,f1,f2,f3,f4,f5⟩:=j it (by simp);exact wpAny_pyNext_items_end (knd:=c_ X.prog X.w) (kvs:=vs) (ep:=ep) (ok:=ok) (ov:=ov) (I.ok.hd x) (by rw[<- l];exact he) ⟨o,es',e,Y,fh,h4⟩ (by simp;lia) λg eb=>⟨rfl,I.turned (t':=s.toks) (λb o c e=>eb b o c e) f0 f1 f3 f4 f5⟩
 self:=λ_ _ _ _ _ st h=>let ⟨_,_,he⟩:=st;PySem.W.kcp_self he h
section
variable{k:Nat}{o:Expr}
def XF(b:TE):TI:=λZ H R=>b Z H λx H1=>∃a kvs,x=.ref a/\((∃o,H1 a=some (.af o (.dK kvs))/\R (Fy a o kvs) H1)\/(H1 a=some (.dK kvs)/\∀o,R (Fy a o kvs) (upd H1 a (.af o (.dK kvs)))))
theorem lX(n:SE X o to)(p:attributeBase o "items" X.env (eval o X.env)=eval o X.env:=by rfl)(r:(apos.endLine==cpos.line)=true:=by rfl):
  SI X (.Tuple yo k Bk) (.Call (.Attribute o "items" apos) [] [] cpos) (XF to):=by
 constructor;intro c s g H R I h;refine wpAny_Call_method0_late p r (av (n.h c s g H _ I h) ?_);rintro v d ⟨x,t,l,u,a,kvs,y,A⟩;subst y;cases u;obtain⟨o,f,I2,J3,q⟩:∃(o:Obj)(f:Hp),Inv X c g f d/\f a=some (.af o (.dK kvs))/\R (Fy a o kvs) f:=by
  rcases A with⟨o,e,q⟩|⟨e,q⟩
  ·exact⟨o,t,l,e,q⟩
  ·obtain⟨o,_,_,_,I2,_⟩:=l.freeze (.inl e);exact⟨o,_,I2,aA,q o⟩
 obtain⟨e,z,we,vs,rel,ob,es,ep,O,Y,hd,h4⟩:=(show bx X.prog X.w _ d.heap a (.af o (.dK kvs))from I2.hok a _ J3)
 rw[e]at O;cases O;have C:=rel.len;have m:d.TypeIs (.ref a) "dict":=⟨o,e,Y.1⟩
 refine⟨"dict","dict.items",Qav,Qa9,PySem.F.type_dict_items,m,λb i=>by cases i;exact⟨o,e,Y.2.1⟩,Calls.callWith_builtin rfl (QaW ?_)⟩;refine call_meetsIn Qa9 m PySem.F.entry_dict_items (PySem.F.args_dict_items_1 _) (meets_dict_items (c_ X.prog X.w) a we) ⟨⟨vs,o,es,ep,e,Y,hd,h4⟩,?_⟩;have j:Inv X c g f {d with heap:=d.heap.push {cls:=.type "dict_items",data:=.fields #[.ref a]}}:=I2.kept (t':=d.toks) λb o e=>Qc _ e;refine wpAny_pyIter_items (knd:=c_ X.prog X.w) (kvs:=vs) (ep:=ep) ⟨_,Qd _ rfl,rfl,rfl⟩ ⟨o,es,Qc _ e,Y,hd,h4⟩ ?_;have D:a≠(d.heap.push {cls:=.type "dict_items",data:=.fields #[.ref a]}).objs.size:=by
  rw[QaS];exact yT (Qaq (QA e))
 refine⟨_,[(d.heap.push {cls:=.type "dict_items",data:=.fields #[.ref a]}).objs.size],_,_,_,rfl,j.kept (t':=d.toks) λb o e=>Qc _ e,vA (kvs:=kvs) (a:=a) (o:=o) D ⟨es,hd⟩,⟨.none,.none,by rw[C];exact Qd _ rfl⟩,λb i=>?_,q⟩;have e:b=(d.heap.push {cls:=.type "dict_items",data:=.fields #[.ref a]}).objs.size:=by simpa using i
 subst e;exact j.sy (Qz _) (j.hok.fresh (Qz _))
end
end L2
namespace PySem
end PySem
namespace L2
open PySem PySem.Spec PyProof.Rows
theorem jH{a:Expr}{n:Str}{b:Pos}(c:SE X (.Attribute a n b) te)(d:SA X es t):SA X (.Attribute a n b::es) (kc te t):=⟨dI c.h d.h⟩
theorem XG{K:Q0}{b:Array Value}{c:Array Qbr}{xs:Qby}(d:K.lookup a=some ⟨.type "tuple",none,.seq b n,c⟩)(e:bg xs b.toList)(f:xs.length<=sizeLine):Fx K (a,⟨.type "tuple",none,.seq b n,c⟩,xs):=
 ⟨d,b.toList,n,rfl,rfl,by simp,e,f⟩
theorem vD{K:Q0}{as:Qbq}(x:K.In h):(without K as).In h:=λa o e=>by
 rw[dB]at e;by_cases hc:as.contains a=true
 ·rw[if_pos hc]at e;cases e
 ·rw[if_neg hc]at e;exact x a o e
end L2
set_option autoImplicit false
namespace L2
open PySem PySem.Spec PySem.W PyProof.Rows
def J5:Data->Bool
 | .freed=>false
 |_=>true
def CT:Nat->List Obj->Frag
 |_,[]=>[]
 |n,o::os=>if J5 o.data then(n,o)::CT (n+1) os else CT (n+1) os
def J6(h:Heap):Frag:=CT 0 h.objs.toList
theorem gC:∀{os:List Obj}{n a:Nat}{o:Obj},(CT n os).lookup a=some o->n<=a/\os[a-n]? =some o/\J5 o.data=true
 | [],n,a,o,h=>by simp[CT]at h
 |x::os,n,a,o,h=>by
  unfold CT at h;have next:(CT (n+1) os).lookup a=some o->n<=a/\(x::os)[a-n]? =some o/\J5 o.data=true:=λh=>by
   obtain⟨O,Y,h3⟩:=gC h;refine⟨by lia,?_,h3⟩;obtain⟨k,hk⟩:∃k,a-n=k+1:=⟨a-n-1,by lia⟩
   rw[hk,List.getElem?_cons_succ,<- Y];congr 1;lia
  split at h
  ·rename_i b
   rw[Qal]at h;split at h
   ·rename_i e
    obtain rfl:a=n:=by simpa using e
    cases h;exact⟨Qz _,by simp,b⟩
   ·exact next h
  ·exact next h
theorem tX(h:Heap):(J6 h).In h:=λa o e=>by
 obtain⟨_,Y,h3⟩:=gC e;have b:h.objs[a]? =some o:=by rw[<- QaJ];simpa using Y
 unfold Heap.get?;rw[b];obtain⟨c,d,dt,sl⟩:=o;cases dt<;>first|rfl|cases h3
def zj{α:Type}(look:Frag->α)(want:World->α):Hook where
 α:=α
 obs s:=look (J6 s.heap)
 val:=want
 says w h:=∃K:Frag,K.In h/\look K=want w
 of:=λw s e=>⟨J6 s.heap,tX _,e⟩
 keeps:=λw h M ⟨K,x,e⟩ k=>⟨K,λa o l=>k a o (x a o l),e⟩
theorem XH{p q:Program}{loose:Qbo}{Xt:Shared->Bool}{Yf:Shared->α}{Ya:World->α}{N:Nat}{b:Bool}(a:String)
  (c:∀w:World,(openEnds treeTable p (w.withFollow a false) N).map (λs=>(openSeen q loose (importedModules p.main.body) Xt b s,Yf s))=some (openGood q loose,Ya (w.withFollow a false)))
  (d:∀w:World,(openEnds treeTable p (w.withFollow a true) N).map (λs=>(openSeen q loose (importedModules p.main.body) Xt b s,Yf s))=some (openGood q loose,Ya (w.withFollow a true))):LeftO p q loose Xt Yf Ya N b:=λw=>by
 have e:=World.withFollow_self w a;cases hb:w.params.followText a<;>rw[hb]at e
 ·have:=c w;rw[e]at this;exact this
 ·have:=d w;rw[e]at this;exact this
abbrev BD:=Str×Str×Arguments×FuncBody×Scope×Addr×List (Str×Addr)×Value×Addr×Bool
def fnAt(K:Frag)(q:Str):Option Qbr->Option BD
 |some (some (.ref f))=>(match K.lookup f with
  |some ⟨_,_,.func fd,_⟩=>some (fd.name,fd.qualname,fd.params,fd.body,fd.scope,fd.globals,fd.closure,fd.defaults,fd.builtins,codeIn K fd.code q)
  |_=>none)
 |_=>none
def BE(x q:Str)(st:Stmt):BD:=(x,q,qy st,.stmts (mh st),cg st,mainGlobals,[],.none,builtinsNs,true)
def CU(K:Frag):List (Str×Stmt)->List (Option BD)
 | []=>[]
 |x::l=>fnAt K x.1 (nsIn K mainGlobals x.1)::CU K l
def CV:List (Str×Stmt)->List (Option BD)
 | []=>[]
 |x::l=>some (BE x.1 x.1 x.2)::CV l
def Hj(K:Frag)(x:Str):Qbz:=match nsIn K mainGlobals x with
 |some (some v)=>AI v
 |_=>none
def Hl(K:Frag):Qbw->List Qbz
 | []=>[]
 |x::l=>Hj K x.1::Hl K l
def Ho:Qbw->List Qbz
 | []=>[]
 |x::l=>some x.2::Ho l
abbrev D7:=Value×Option Addr×List Qbz
def Hq:Qbp->List Qbz
 | []=>[]
 |v::l=>AI v::Hq l
def Hr:Qby->List Qbz
 | []=>[]
 |v::l=>some v::Hr l
def FA(K:Frag):Value->Option D7
 | .ref a=>(match K.lookup a with
  |some ⟨c,d,.seq it _,_⟩=>some (c,d,Hq it.toList)
  |_=>none)
 |_=>none
def AV(xs:Qby):D7:=(.type "tuple",none,Hr xs)
def FD(K:Frag)(x:Str):Option D7:=match nsIn K mainGlobals x with
 |some (some v)=>FA K v
 |_=>none
def BF(K:Frag):List (Str×Qby)->List (Option D7)
 | []=>[]
 |x::l=>FD K x.1::BF K l
def BG:List (Str×Qby)->List (Option D7)
 | []=>[]
 |x::l=>some (AV x.2)::BG l
def D8(K:Frag):Qbo->Bool
 | []=>true
 |x::l=>(match nsIn K mainGlobals x with|some none=>true|_=>false)&&D8 K l
section
variable{K:Frag}
theorem gW{v:Value}{x:V}(e:AI v=some x):RelV x v:=by
 cases v<;>first|(cases e;first|rfl|exact⟨_,rfl⟩)|cases e
theorem pO:∀{us:Qbp}{xs:Qby},Hq us=Hr xs->bg xs us
 | [],[],_=>.nil
 | [],_::_,e=>by cases e
 |_::_,[],e=>by cases e
 |u::us,x::xs,e=>by
  have a:=Qan (show AI u::Hq us=some x::Hr xs from e);exact .cons (gW a.1) (pO a.2)
theorem qD{q:Str}{st:Stmt}{v:Option Qbr}(e:fnAt K q v=some (BE x q st)):∃f fd,v=some (some (.ref f))/\AM K x q st f fd:=by
 unfold fnAt at e;split at e
 ·rename_i f
  split at e
  ·rename_i c d fd g a
   have e:=QE e;unfold BE at e;obtain⟨n,qn,ps,b,F,gl,cl,df,kd,doc,pm,an,cd,ct,bt⟩:=fd;simp only[Qba]at e;obtain⟨rfl,rfl,rfl,rfl,rfl,rfl,rfl,rfl,rfl,hc⟩:=e;refine⟨f,_,rfl,Vl a hc ?_⟩;unfold keepIn;simp only[a]
  ·cases e
 ·cases e
theorem vS:∀{l:List (Str×Stmt)},CU K l=CV l->∀(i:Nat){x:Str}{st:Stmt},l[i]? =some (x,st)->fnAt K x (nsIn K mainGlobals x)=some (BE x x st)
 |y::l,e,0,x,st,h=>by cases h;exact(Qan e).1
 |y::l,e,i+1,x,st,h=>vS (Qan e).2 i (by simpa using h)
theorem tI(X:K.In h)(G:h.Ns mainGlobals mg){l:List (Str×Stmt)}(e:CU K l=CV l)(i:Nat){st:Stmt}(hi:l[i]? =some (x,st))
  (b:∀(kV a c:Value)(d:Option Addr)(g ct:Value)(us:Qbp),us.length=ps.length->bindArgs (fnOf x x (qy st) (mh st) (cg st) .none kV a c d g ct) ⟨us,[]⟩=pure (ps.zip us)):gu K mg x st ps:=by
 obtain⟨f,fd,e1,F⟩:=qD (vS e i hi);exact⟨f,fd,F,mg_of X G e1,F.binds b⟩
variable{st:Stmt}{l:List (Str×Stmt)}{p0 p1 p2 p3 p4 p5 p6:Str}
theorem Am(h:us.length=n+1):∃a t,us=a::t/\t.length=n:=by
 cases us with
 |nil=>cases h
 |cons a t=>exact⟨a,t,rfl,by simpa using h⟩
theorem BH(X:K.In h)(G:h.Ns mainGlobals mg)(e:CU K l=CV l)(i:Nat)(hi:l[i]? =some (x,st):=by rfl)
  (m:∀(kV j o:Value)(p:Option Addr)(q ct k:Value),bindArgs (fnOf x x (qy st) (mh st) (cg st) .none kV j o p q ct) ⟨[k],[]⟩=pure [(p0,k)]:=by intros;rfl):gu K mg x st [p0]:=
 tI X G e i hi λa b c d f g s r=>by
  obtain⟨k,FE,rfl,jr⟩:=Am (n:=0) r;obtain rfl:=QS jr;exact m ..
theorem q_(X:K.In h)(G:h.Ns mainGlobals mg)(e:CU K l=CV l)(i:Nat)(hi:l[i]? =some (x,st):=by rfl)
  (o:∀(kV j p:Value)(q:Option Addr)(r ct k m:Value),bindArgs (fnOf x x (qy st) (mh st) (cg st) .none kV j p q r ct) ⟨[k,m],[]⟩=pure [(p0,k),(p1,m)]:=by intros;rfl):gu K mg x st [p0,p1]:=
 tI X G e i hi λa b c d f g t s=>by
  obtain⟨k,FE,rfl,jr⟩:=Am (n:=1) s;obtain⟨m,NU,rfl,jz⟩:=Am (n:=0) jr;obtain rfl:=QS jz;exact o ..
theorem J7(X:K.In h)(G:h.Ns mainGlobals mg)(e:CU K l=CV l)(i:Nat)(hi:l[i]? =some (x,st):=by rfl)
  (p:∀(kV j q:Value)(r:Option Addr)(s ct k m o:Value),bindArgs (fnOf x x (qy st) (mh st) (cg st) .none kV j q r s ct) ⟨[k,m,o],[]⟩=pure [(p0,k),(p1,m),(p2,o)]:=by intros;rfl):gu K mg x st [p0,p1,p2]:=
 tI X G e i hi λa b c d f g u t=>by
  obtain⟨k,FE,rfl,jr⟩:=Am (n:=2) t;obtain⟨m,NU,rfl,jz⟩:=Am (n:=1) jr;obtain⟨o,AW,rfl,Cy⟩:=Am (n:=0) jz;obtain rfl:=QS Cy;exact p ..
theorem XI(X:K.In h)(G:h.Ns mainGlobals mg){v:V}(e:Hj K x=some v):∃u,mg x=some u/\RelV v u:=by
 unfold Hj at e;split at e
 ·rename_i u a;exact⟨u,mg_of X G a,gW e⟩
 ·cases e
theorem rQ:∀{l:Qbw},Hl K l=Ho l->∀(i:Nat){x:Str}{v:V},l[i]? =some (x,v)->Hj K x=some v
 |y::l,e,0,x,st,h=>by cases h;exact(Qan e).1
 |y::l,e,i+1,x,st,h=>rQ (Qan e).2 i (by simpa using h)
theorem vl(X:K.In h)(G:h.Ns mainGlobals mg){l:Qbw}(e:Hl K l=Ho l)(i:Nat){v:V}(hi:l[i]? =some (x,v):=by rfl):∃u,mg x=some u/\RelV v u:=XI X G (rQ e i hi)
theorem sS{v:Value}{xs:Qby}(e:FA K v=some (AV xs)):∃(a:Addr)(b:Array Value)(n:Nat)(f:Array Qbr),v=.ref a/\K.lookup a=some ⟨.type "tuple",none,.seq b n,f⟩/\bg xs b.toList:=by
 unfold FA at e;split at e
 ·rename_i a
  split at e
  ·rename_i c d b n g h
   have e:=QE e;unfold AV at e;simp only[Qba]at e;obtain⟨rfl,rfl,e3⟩:=e;exact⟨a,b,n,g,rfl,h,pO e3⟩
  ·cases e
 ·cases e
theorem iU{xs:Qby}(e:FD K x=some (AV xs)):∃(a:Addr)(b:Array Value)(n:Nat)(c:Array Qbr),nsIn K mainGlobals x=some (some (.ref a))/\K.lookup a=some ⟨.type "tuple",none,.seq b n,c⟩/\bg xs b.toList:=by
 unfold FD at e;split at e
 ·rename_i u d
  obtain⟨a,b,n,c,rfl,O,Y⟩:=sS e;exact⟨a,b,n,c,d,O,Y⟩
 ·cases e
theorem nG:∀{l:List (Str×Qby)},BF K l=BG l->∀(i:Nat){x:Str}{v:Qby},l[i]? =some (x,v)->FD K x=some (AV v)
 |y::l,e,0,x,st,h=>by cases h;exact(Qan e).1
 |y::l,e,i+1,x,st,h=>nG (Qan e).2 i (by simpa using h)
theorem zV{b:Array Value}{d:Option Addr}{c:Array Qbr}{xs:Qby}(e:K.lookup a=some ⟨.type "tuple",d,.seq b n,c⟩)(hv:bg xs b.toList)(hz:xs.length<=sizeLine)(H:Hp):ay K H a xs:=
 .inr ⟨_,b,n,e,rfl,rfl,by have:=hv.length;simp at this;lia,hv⟩
theorem tu(X:K.In h)(G:h.Ns mainGlobals mg){l:List (Str×Qby)}(e:BF K l=BG l)(i:Nat){v:Qby}(hi:l[i]? =some (x,v):=by rfl)(hz:v.length<=sizeLine:=by decide):∃a,mg x=some (.ref a)/\∀H,ay K H a v:=by
 obtain⟨a,it,n,sq,O,Y,h3⟩:=iU (nG e i hi);exact⟨a,mg_of X G O,zV Y h3 hz⟩
theorem rF:∀{l:Qbo},D8 K l=true->∀(i:Nat){x:Str},l[i]? =some x->nsIn K mainGlobals x=some none
 |y::l,e,0,x,h=>by
  cases h;unfold D8 at e;rw[Qay]at e;have e:=e.1;split at e
  ·assumption
  ·cases e
 |y::l,e,i+1,x,h=>by
  unfold D8 at e;rw[Qay]at e;exact rF e.2 i (by simpa using h)
theorem nn(X:K.In h)(G:h.Ns mainGlobals mg){l:Qbo}(e:D8 K l=true)(i:Nat)(hi:l[i]? =some x:=by rfl):mg x=none:=mg_none_of X G (rF e i hi)
end
inductive D9 where
 |v (x:Qbz)
 |t (x:Option D7)
abbrev Ht:=Value×Option Addr×Nat×Bool×List (Int×Qbz×D9)
def FF(K:Frag)(v:Value):D9:=match v with
 | .ref _=>.t (FA K v)
 |_=>.v (AI v)
def FG(K:Frag):List DictEntry->List (Int×Qbz×D9)
 | []=>[]
 |e::l=>(e.hash,AI e.key,FF K e.val)::FG K l
def Hu(K:Frag)(x:Str):Option Ht:=match nsIn K mainGlobals x with
 |some (some (.ref a))=>(match K.lookup a with
  |some ⟨c,d,.dict es _,sl⟩=>some (c,d,sl.size,a==sysModules,FG K es.toList)
  |_=>none)
 |_=>none
abbrev vd:=Str×(V ⊕ Qby)
def D_(w:World):List vd->List (Int×Qbz×D9)
 | []=>[]
 |(k,.inl v)::l=>(AE w (.inr k),some (.str k),.v (some v))::D_ w l
 |(k,.inr v)::l=>(AE w (.inr k),some (.str k),.t (some (AV v)))::D_ w l
def Hv(w:World)(l:List vd):Ht:=(.type "dict",none,0,false,D_ w l)
def J8(K:Frag):List (Str×List vd)->List (Option Ht)
 | []=>[]
 |x::l=>Hu K x.1::J8 K l
def J9(w:World):List (Str×List vd)->List (Option Ht)
 | []=>[]
 |x::l=>some (Hv w x.2)::J9 w l
def BJ(K:Frag):List vd->Qby->Prop
 | [],[]=>True
 |(_,.inl v)::l,u::us=>u=v/\BJ K l us
 |(_,.inr xs)::l,u::us=>(∃a,u=.ref a/\∀H,ay K H a xs)/\BJ K l us
 |_,_=>False
def J_:List vd->Qby->Qbv
 |e::l,u::us=>(.inr e.1,u)::J_ l us
 |_,_=>[]
def FH:List vd->Bool
 | []=>true
 |(_,.inl _)::l=>FH l
 |(_,.inr xs)::l=>decide (xs.length<=1000)&&FH l
section
variable{K:Frag}
theorem kL:∀{l:List vd},FH l=true->∀e∈l,∀xs,e.2=.inr xs->xs.length<=sizeLine
 |(_,.inl _)::l,h,e,he,xs,hx=>by
  rcases Qp.mp he with rfl|he
  ·cases hx
  ·exact kL (l:=l) h e he xs hx
 |(_,.inr ys)::l,h,e,he,xs,hx=>by
  unfold FH at h;rw[Qay,decide_eq_true_iff]at h;rcases Qp.mp he with rfl|he
  ·cases hx;exact Qag h.1 (by decide)
  ·exact kL (l:=l) h.2 e he xs hx
theorem NV{k:Str}{v:V}{l:List vd}{us:Qby}(e:BJ K ((k,.inl v)::l) us):∃vs,us=v::vs/\BJ K l vs:=by
 cases us with
 |nil=>exact False.elim e
 |cons u vs=>obtain⟨rfl,r⟩:=(show u=v/\BJ K l vs from e);exact⟨vs,rfl,r⟩
theorem XJ{us:Qby}(e:BJ K [] us):us=[]:=by
 cases us with
 |nil=>rfl
 |cons u vs=>exact False.elim e
theorem pQ:∀{l:List vd}{es:List DictEntry},FG K es=D_ w l->(∀e∈l,∀xs,e.2=.inr xs->xs.length<=sizeLine)->∃(us:Qby)(vs:List (Key×Value)),BJ K l us/\(∀P,Pairs (c_ P w) es vs)/\(∀P,∀e∈es,∃k,(c_ P w).is k e.key=true/\e.hash=(c_ P w).hash k)/\KV (J_ l us) vs/\vs.map (·.1)=l.map (λe=>.inr e.1)
 | [],[],_,_=>⟨[],[],trivial,λ_=>.nil,(λ_ _ h=>nomatch h),.nil,rfl⟩
 | [],_::_,e,_=>by cases e
 |(_,.inl _)::_,[],e,_=>by cases e
 |(_,.inr _)::_,[],e,_=>by cases e
 |(k,.inl v)::l,d::es,e,hz=>by
  have b:=Qan (show(d.hash,AI d.key,FF K d.val)::FG K es=(AE w (.inr k),some (.str k),.v (some v))::D_ w l from e);obtain⟨us,vs,O,Y,h3,h4,h5⟩:=pQ b.2 λx g=>hz x (Qh _ g);have c:=b.1;simp only[Qba]at c;obtain⟨q1,q2,q3⟩:=c;obtain⟨t,q2⟩:=gW q2;have i:RelV v d.val:=by
   unfold FF at q3;split at q3
   ·cases q3
   ·exact gW (D9.v.inj q3)
  have f:∀P,(c_ P w).is (.inr k) d.key=true:=λP=>by rw[q2];exact fE P w k t
  refine⟨v::us,(.inr k,d.val)::vs,⟨rfl,O⟩,λP=>.cons (kv:=((Sum.inr k,d.val):Key×Value)) (f P) rfl (Y P),λP y hy=>?_,.cons ⟨rfl,i⟩ h4,by simp[h5]⟩;rcases Qp.mp hy with rfl|hy
  ·exact⟨.inr k,f P,q1⟩
  ·exact h3 P y hy
 |(k,.inr xs)::l,d::es,e,hz=>by
  have b:=Qan (show(d.hash,AI d.key,FF K d.val)::FG K es=(AE w (.inr k),some (.str k),.t (some (AV xs)))::D_ w l from e);obtain⟨us,vs,O,Y,h3,h4,h5⟩:=pQ b.2 λx g=>hz x (Qh _ g);have c:=b.1;simp only[Qba]at c;obtain⟨q1,q2,q3⟩:=c;obtain⟨t,q2⟩:=gW q2;have i:FA K d.val=some (AV xs):=by
   unfold FF at q3;split at q3
   ·exact D9.t.inj q3
   ·cases q3
  obtain⟨a,it,n,sq,q5,q6,q7⟩:=sS i;have f:∀P,(c_ P w).is (.inr k) d.key=true:=λP=>by rw[q2];exact fE P w k t
  refine⟨.ref a::us,(.inr k,d.val)::vs,⟨⟨a,rfl,zV q6 q7 (hz _ (xX ..) xs rfl)⟩,O⟩,λP=>.cons (kv:=((Sum.inr k,d.val):Key×Value)) (f P) rfl (Y P),λP y hy=>?_,.cons ⟨rfl,by rw[q5];rfl⟩ h4,by simp[h5]⟩;rcases Qp.mp hy with rfl|hy
  ·exact⟨.inr k,f P,q1⟩
  ·exact h3 P y hy
theorem XM{l:List vd}(X:K.In h)(G:h.Ns mainGlobals mg)(e:Hu K x=some (Hv w l))(f:FH l=true)(g:(l.map (·.1)).Nodup):∃(a:Addr)(us:Qby),mg x=some (.ref a)/\BJ K l us/\KD w K a (J_ l us):=by
 have i:=kL f;unfold Hu at e;split at e
 ·rename_i a j
  split at e
  ·rename_i c d k m p n
   have e:=QE e;unfold Hv at e;simp only[Qba]at e;obtain⟨rfl,rfl,e3,e4,e5⟩:=e;obtain⟨us,vs,O,Y,h3,h4,h5⟩:=pQ e5 i;refine⟨a,us,mg_of X G j,O,λP=>⟨_,k,m,vs,n,e4,⟨rfl,rfl,Array.eq_empty_of_size_eq_zero e3⟩,rfl,λy o=>h3 P y (by simpa using o),Y P,?_,h4⟩⟩;rw[h5];have:l.map (λe=>(Sum.inr e.1:Key))=(l.map (·.1)).map Sum.inr:=by simp
   rw[this];exact List.Pairwise.map _ (λa b q c=>q (Qas c)) g
  ·cases e
 ·cases e
theorem t9:∀{l:List (Str×List vd)},J8 K l=J9 w l->∀(i:Nat){x:Str}{v:List vd},l[i]? =some (x,v)->Hu K x=some (Hv w v)
 |y::l,e,0,x,st,h=>by cases h;exact(Qan e).1
 |y::l,e,i+1,x,st,h=>t9 (Qan e).2 i (by simpa using h)
end
abbrev NW:Qbo:=["type","isinstance","issubclass","getattr","hasattr"]
theorem XN{l:OpenLaw}{p:Program}(b:l.prog=p)
 (c:sreFenced p.main=true) (d:((moduleNames p.main.body).isEmpty||lookedIntoSs (moduleNames p.main.body) p.main.body)=true)
 (e:namesResolve p=true) (f:p.boundNames.all (λn=> !worldNames.contains n)=true)
 (g:noRoadLSs {strict:= !(importedModules p.main.body).all cThrough.contains,foot:=none,bare:=(["vars","dir","locals"]:Qbo).filter (readsOut p p.main.body)} p.main.body=true)
 (h:(namesMeet p p.main.body λ_ n=>attrL n)=true)
 (i:l.row.toRowW.solid=true) (j:l.row.pre.litsOk=true)
 (k:p.boundNames.contains l.name=true) (m:(!startupNames.contains l.name)=true)
 (o:decide (l.foot<=(behindTheImports p).length)=true)
 (r:l.footing.all footLine=true) (s:noClassBlock p l.footing=true)
 (t:l.most.all (λn=>decide (63<=n))=true) (u:l.bound.all (λn=>decide (2^63<=n))=true)
 (w:noRoadLSs {strict:=true,foot:=some l.bound',writes:=l.writes,may:=l.may} l.footing=true)
 (x:defStands l.about l.above=true) (y:l.namesIt=true) (z:NW.all (λn=>l.about !=[n])=true)
 (A:l.bound'.all (λn=> !builtinNamed n||l.about==[n]|| !l.reads n)=true)
 (C:(!l.writes||(p.main.body.flatMap importedNames).all λn=> !l.reads n)=true)
 (D:(p.main.body.flatMap importedNames).all (λn=> !l.reads n||(drawsOf n p.main.body).all λa=>a.2 !=("attrgetter":Str)&&a.2 !=("methodcaller":Str))=true)
 (c1:namesMeet p l.footing (λF n=>(!NW.contains n||F.names.lookup n==some .globalImplicit)&&(l.may !=some n||F.kind==.module||F.names.lookup n==some .globalImplicit))=true)
 (c2:l.own.contains l.name=true) (E:(l.own.eraseDups.length==l.own.length)=true) (G:l.own.all (λn=> !builtinNamed n)=true)
 (H:namesMeet p l.above (λ_ n=> !l.own.contains n)=true) (I:(namesMeet p l.footing λF n=>F.kind==.module||F.names.lookup n !=some .globalExplicit)=true):l.wellSaid=true:=by
 subst b;have q:l.row.wellSaid=true:=by
  unfold OpenRow.wellSaid OpenRow.partSaid looksOpen;exact look_both (look_both (look_both (look_both (look_both (look_both (look_both (look_both (look_both (look_both (look_both (look_both (look_both (look_both (look_both (look_both (look_both (look_both (look_both (look_both c d) e) f) g) h) rfl) rfl) rfl) rfl) rfl) rfl) i) j) rfl) rfl) rfl) rfl) rfl) k) m
 unfold OpenLaw.wellSaid;rw[q,o,r,s,t,u,w,x,y,z,A,C,D,c1,c2,E,G,H,I];rfl
theorem XQ {l:OpenLaw} {k:Nat} {q:Program} {loose:Qbo} {d:DefRec} {look:Frag->α} {want:World->α}
  (C:l.most=some n) (i:n<=sizeLine) (D:d.params.defaults=[]) (E:gb k callerA)
  (F:∀ (w:World) (c:Str->Qbr) (e:Addr) (h:Heap) (K:Frag),K.In h->look K=want w->h.Ns mainGlobals c->c d.name=some (.ref e)->
   ∃ (ts:List (Addr×Obj×Qby)) (j:FuncData) (m:Sp),(∀ t∈ts,Fx K t)/\(ts.map (·.1)).Nodup/\(∀ (s:Shared) (u:Value),BindsTo s j ⟨[u],[]⟩ [(x,u)])/\
    (∀ base:Heap,(without K (ts.map (·.1))).In base->base.Ns mainGlobals c->qg l.prog w (without K (ts.map (·.1))) c base zc k e j [x] m)/\
    (∀ (H:Hp) (a:Addr) (ns:List Int),ns.length<=n->(∀ t∈ts,H t.1=some (.af t.2.1 (.tup t.2.2)))->ao (without K (ts.map (·.1))) H a (ns.map V.int)->m [.ref a] H (λv _=>v=.bl true) λ_ _ _=>False)):
  WalkO q loose XP (zj look want).says l.row.toRowW d [] (λf vs=>PySem.call f vs):=by
 refine Nc.rW C D λw p r c mb e o pm cd I a vs ns G Y ho hd su L N P y Q=>?_
 obtain ⟨K,A,R⟩:=Y
 obtain ⟨ts,j,m,zh,nd,hb,hF,Bs⟩:=F w c e _ K A R G.T.g L
 exact xS zh nd A G.T.g G.T.b G.T.builtins G.T.nolimit Q N P (Qag y i) E hF hb (λH _ ht hS=>Bs H a ns y ht hS) λ_ _ _ z=>z
def yb(K:Frag):List (Str×Qby)->Qbq
 | []=>[]
 |x::l=>(match nsIn K mainGlobals x.1 with|some (some (.ref a))=>a|_=>0)::yb K l
def J':List (Str×Qby)->Bool
 | []=>true
 |x::l=>decide (x.2.length<=1000)&&J' l
section
variable{K:Frag}
theorem NX(X:K.In h)(G:h.Ns mainGlobals mg):∀{l:List (Str×Qby)},BF K l=BG l->J' l=true->∃ts:List (Addr×Obj×Qby),ts.map (·.1)=yb K l/\(∀t∈ts,Fx K t)/\∀(i:Nat)(x:Str)(xs:Qby),l[i]? =some (x,xs)->∃t∈ts,t.1=adr mg x/\t.2.2=xs
 | [],_,_=>⟨[],rfl,(λt ht=>nomatch ht),λi x xs e=>by simp at e⟩
 |y::l,e,hs=>by
  have b:=Qan (show FD K y.1::BF K l=some (AV y.2)::BG l from e);unfold J' at hs;rw[Qay,decide_eq_true_iff]at hs;obtain⟨ts,O,Y,h3⟩:=NX X G b.2 hs.2;obtain⟨a,it,n,sq,g1,g2,g3⟩:=iU b.1;have d:=mg_of X G g1;refine⟨(a,⟨.type "tuple",none,.seq it n,sq⟩,y.2)::ts,?_,λt ht=>?_,λi x xs c=>?_⟩
  ·unfold yb;rw[g1,xA,O]
  ·rcases Qp.mp ht with rfl|ht
   ·exact XG g2 g3 (Qag hs.1 (by decide))
   ·exact Y t ht
  ·cases i with
   |zero=>
    cases c;refine⟨_,xX ..,?_,rfl⟩;show a=adr mg _;unfold adr;rw[d]
   |succ i=>
    obtain⟨t,ht,r⟩:=h3 i x xs (by simpa using c);exact⟨t,Qh _ ht,r⟩
theorem NY{ts:List (Addr×Obj×Qby)}{xs:Qby}(h:∃t∈ts,t.1=adr mg x/\t.2.2=xs)(a:∀t∈ts,H t.1=some (.af t.2.1 (.tup t.2.2))):Kn mg H x xs:=by
 obtain⟨t,ht,e1,e2⟩:=h;exact⟨t.2.1,by rw[<- e1,<- e2];exact a t ht⟩
theorem vZ(X:K.In h)(G:h.Ns mainGlobals mg){l:List (Str×Qby)}(e:BF K l=BG l)(i:Nat){xs:Qby}(hi:l[i]? =some (x,xs):=by rfl):∃u,mg x=some u/\RelV (.ref (adr mg x)) u:=by
 obtain⟨a,it,n,sq,O,Y,h3⟩:=iU (nG e i hi);exact⟨.ref a,mg_of X G O,Xz (mg_of X G O)⟩
end
structure AX where
 x:Str
 q:Str
 st:Stmt
 fs:Qbo
abbrev Ka:=Option BD×Option Qbr×Bool
def Hw(K:Frag)(C:Addr):Qbo->Bool
 | []=>true
 |f::l=>(match findIn K (.ref C) f with|some none=>true|_=>false)&&Hw K C l
def clsAt(K:Frag)(c:AX)(C:Addr):Ka:=(fnAt K c.q (findIn K (.ref C) "__init__"),findIn K (.ref C) "__setattr__",
 plainGet K C Str.empty&&(hasDictIn K C&&(plainOver K C&&(makesIn K C&&(keepIn K (.ref C)&&((match findIn K (.ref C) "__init__" with|some (some v)=>isFn K v|_=>false)&&Hw K C c.fs))))))
def Ea(K:Frag):List AX->List (Option Ka)
 | []=>[]
 |c::l=>(match nsIn K mainGlobals c.x with|some (some (.ref C))=>some (clsAt K c C)|_=>none)::Ea K l
def Eb:List AX->List (Option Ka)
 | []=>[]
 |c::l=>some (some (BE "__init__" c.q c.st),some (some (.builtin "object.__setattr__")),true)::Eb l
section
variable{K:Frag}
theorem l9:∀{C:Addr}{l:Qbo},Hw K C l=true->∀f∈l,Ae K C f
 |C,f::l,e,g,hg=>by
  unfold Hw at e;rw[Qay]at e;rcases Qp.mp hg with rfl|hg
  ·have a:=e.1;split at a
   ·assumption
   ·cases a
  ·exact l9 e.2 g hg
theorem wC:∀{l:List AX},Ea K l=Eb l->∀(i:Nat){c:AX},l[i]? =some c->∃C,nsIn K mainGlobals c.x=some (some (.ref C))/\clsAt K c C=(some (BE "__init__" c.q c.st),some (some (.builtin "object.__setattr__")),true)
 |y::l,e,0,c,h=>by
  cases h;have a:=(Qan e).1;split at a
  ·rename_i C b
   exact⟨C,b,QE a⟩
  ·cases a
 |y::l,e,i+1,c,h=>wC (Qan e).2 i (by simpa using h)
theorem NZ(X:K.In h)(G:h.Ns mainGlobals mg){l:List AX}(e:Ea K l=Eb l)(i:Nat){q:Str}{st:Stmt}{b:Qbo}(hi:l[i]? =some ⟨x,q,st,b⟩)
  (d:∀(kV a g:Value)(j:Option Addr)(k ct:Value)(us:Qbp),us.length=ps.length->bindArgs (fnOf "__init__" q (qy st) (mh st) (cg st) .none kV a g j k ct) ⟨us,[]⟩=pure (ps.zip us)):CO K mg x q st ps b (adr mg x):=by
 obtain⟨C,hn,hc⟩:=wC e i hi;have c:=mg_of X G hn;have m:adr mg x=C:=by unfold adr;rw[c]
 unfold clsAt at hc;simp only[Qba,Qay]at hc;obtain⟨c1,c2,c3,c4,c5,c6,c7,c8,c9⟩:=hc;obtain⟨f,fd,e1,F⟩:=qD c1;rw[e1]at c8;rw[m];exact⟨c,⟨c3,c4,c5,c2⟩,l9 c9,f,fd,⟨c6,e1,c8,c7⟩,F,F.binds d⟩
theorem XR(X:K.In h)(G:h.Ns mainGlobals mg){l:List AX}(e:Ea K l=Eb l)(i:Nat){q n o:Str}{st:Stmt}{p:Qbo}(hi:l[i]? =some ⟨x,q,st,p⟩:=by rfl)
  (r:∀(kV j s:Value)(t:Option Addr)(u ct k m:Value),bindArgs (fnOf "__init__" q (qy st) (mh st) (cg st) .none kV j s t u ct) ⟨[k,m],[]⟩=pure [(n,k),(o,m)]:=by intros;rfl):CO K mg x q st [n,o] p (adr mg x):=
 NZ X G e i hi λa b c d f g w y=>by
  match w,y with
  | [k,m],_=>exact r ..
end
end L2
namespace L2
open PySem PySem.Spec PyProof.Rows
theorem zQ {J:It} {ok:Hp->Prop} {f:Nat->V} {r s:TE} {j:St} {D:Addr} {Q:Hp->Prop} (w:Ai J ok n f) (h:Nat->St->Hp->Prop) (h0:h 0 j H0)
  (hok:∀ i c H,i<=n->h i c H->ok H)
  (hs:∀ i c H,i < n->h i c H->g (f i) c H λa H2=>tc a H2 λb k=>if b=true then r a k λx q=>s a q λy l=>∃ kvs d,x=kV d/\l D=some (.dK kvs)/\kvs.length < sizeLine/\h (i+1) a (upd l D (.dK (putK kvs d y))) else h (i+1) a k)
  (z:∀ c H,h n c H->Q H):∃ W:Nat->Nat->St->Hp->Prop,(∃ m,W 0 m j H0)/\∀ i m c H,W i m c H->
   (J.stop i H/\Q H)\/(J.go i H/\∃ N:St->Hp->Prop,(∀ o U,N o U->∃ t,t < m/\W (i+1) t o U)/\∀ x U,J.pe i H x U->g x c U λa H2=>tc a H2 λb k=>
    if b=true then r a k λx q=>s a q λy l=>∃ kvs d,x=kV d/\l D=some (.dK kvs)/\kvs.length < sizeLine/\N a (upd l D (.dK (putK kvs d y))) else N a k):=by
 refine ⟨λi m c H=>m=n - i/\i<=n/\h i c H,⟨n,by simp,Qaj _,h0⟩,?_⟩
 rintro i m c H ⟨rfl,A,p⟩
 obtain ⟨u,C⟩:=w H (hok i c H A p)
 by_cases be:i < n
 ·refine .inr ⟨(u i be).1,h (i+1),λE U G=>⟨n - (i+1),by lia,rfl,be,G⟩,λx U y=>?_⟩
  obtain ⟨e,I⟩:=(u i be).2 x U y
  subst e I
  exact hs i c _ be p
 ·have e:i=n:=by lia
  subst e
  exact .inl ⟨C,z c H p⟩
theorem qY {K:Q0} {J:It} {ok:Hp->Prop} {j k:Nat->V} {a b:Nat} {u w:TE} {l:St} {D:Addr} {Q:Hp->Prop} (C:BA J ok n j k) (h:Nat->St->Hp->Prop) (h0:h 0 l H0)
  (hok:∀ i d H,i<=n->h i d H->ok H)
  (hs:∀ i d H T,i < n->h i d H->H T=none->tc ((d.set a (some (j i))).set b (some (k i))) (upd H T (.tup [j i,k i])) λc o=>if c=true then u ((d.set a (some (j i))).set b (some (k i))) o λx t=>w ((d.set a (some (j i))).set b (some (k i))) t λy q=>
   ∃ kvs f,x=kV f/\q D=some (.dK kvs)/\kvs.length < sizeLine/\h (i+1) ((d.set a (some (j i))).set b (some (k i))) (upd q D (.dK (putK kvs f y))) else h (i+1) ((d.set a (some (j i))).set b (some (k i))) o)
  (E:∀ d H,h n d H->Q H):∃ W:Nat->Nat->St->Hp->Prop,(∃ m,W 0 m l H0)/\∀ i m d H,W i m d H->
   (J.stop i H/\Q H)\/(J.go i H/\∃ N:St->Hp->Prop,(∀ r U,N r U->∃ z,z < m/\W (i+1) z r U)/\∀ x U,J.pe i H x U->g2 K a b x d U λg H2=>tc g H2 λb o=>
    if b=true then u g o λx t=>w g t λy q=>∃ kvs f,x=kV f/\q D=some (.dK kvs)/\kvs.length < sizeLine/\N g (upd q D (.dK (putK kvs f y))) else N g o):=by
 refine ⟨λi m s H=>m=n - i/\i<=n/\h i s H,⟨n,by simp,Qaj _,h0⟩,?_⟩
 rintro i m s H ⟨rfl,G,p⟩
 obtain ⟨A,I⟩:=C H (hok i s H G p)
 by_cases be:i < n
 ·refine .inr ⟨(A i be).1,h (i+1),λL U P=>⟨n - (i+1),by lia,rfl,be,P⟩,λx U y=>?_⟩
  obtain ⟨T,rfl,R,rfl⟩:=(A i be).2 x U y
  exact eI aA (hs i s _ T be p R)
 ·have e:i=n:=by lia
  subst e
  exact .inl ⟨I,E s H p⟩
theorem XS {K:Q0} {J:It} {ok:Hp->Prop} {j k:Nat->V} {a b:Nat} {u w:TE} {o:St} {D:Addr} {Q:Hp->Prop} (E:BA J ok n j k) (h:Nat->St->Hp->Prop) (h0:h 0 o H0)
  (hok:∀ i d H,i<=n->h i d H->ok H)
  (hs:∀ i d H T,i < n->h i d H->H T=none->tc ((d.set a (some (j i))).set b (some (k i))) (upd H T (.tup [j i,k i])) λc q=>if c=true then u ((d.set a (some (j i))).set b (some (k i))) q λx t=>w ((d.set a (some (j i))).set b (some (k i))) t λy l=>
   ∃ kvs f z,x=.ref z/\cf l z (f.map kV)/\l D=some (.dT kvs)/\kvs.length < sizeLine/\h (i+1) ((d.set a (some (j i))).set b (some (k i))) (upd l D (.dT (putK kvs f y))) else h (i+1) ((d.set a (some (j i))).set b (some (k i))) q)
  (G:∀ d H,h n d H->Q H):∃ W:Nat->Nat->St->Hp->Prop,(∃ m,W 0 m o H0)/\∀ i m d H,W i m d H->
   (J.stop i H/\Q H)\/(J.go i H/\∃ N:St->Hp->Prop,(∀ r U,N r U->∃ A,A < m/\W (i+1) A r U)/\∀ x U,J.pe i H x U->g2 K a b x d U λg H2=>tc g H2 λb q=>
    if b=true then u g q λx t=>w g t λy l=>∃ kvs f b,x=.ref b/\cf l b (f.map kV)/\l D=some (.dT kvs)/\kvs.length < sizeLine/\N g (upd l D (.dT (putK kvs f y))) else N g q):=by
 refine ⟨λi m s H=>m=n - i/\i<=n/\h i s H,⟨n,by simp,Qaj _,h0⟩,?_⟩
 rintro i m s H ⟨rfl,I,p⟩
 obtain ⟨C,L⟩:=E H (hok i s H I p)
 by_cases be:i < n
 ·refine .inr ⟨(C i be).1,h (i+1),λP U R=>⟨n - (i+1),by lia,rfl,be,R⟩,λx U y=>?_⟩
  obtain ⟨T,rfl,hT,rfl⟩:=(C i be).2 x U y
  exact eI aA (hs i s _ T be p hT)
 ·have e:i=n:=by lia
  subst e
  exact .inl ⟨L,G s H p⟩
theorem pT [DecidableEq κ]{kvs:List (κ×V)}(a:(kvs.map (·.1)).Nodup)(h:i<kvs.length):putK (kvs.take i) kvs[i].1 kvs[i].2=kvs.take (i+1):=by
 rw[L2.cO _ (by
  cases e:a_ (kvs.take i) kvs[i].1 with
  |none=>rfl
  |some v=>
   have:=fY e;obtain⟨p,hp,q⟩:=Yy.mp this;obtain⟨j,hj,rfl⟩:=Qi hp;have b:j<i:=by simp at hj;lia
   rw[QaG]at q;have:=Qac.mp a j i (by simp;lia) (by simpa using h) b;simp only[Qr]at this;exact absurd q this),Qs,Qa h]
 rfl
theorem fA [DecidableEq κ]{kvs:List (κ×V)}(a:(kvs.map (·.1)).Nodup){k:κ}{v:V}(h:(k,v)∈kvs):a_ kvs k=some v:=by
 induction kvs with
 |nil=>cases h
 |cons p r ih=>
  rw[xA,jK]at a;rcases Qp.mp h with e|h
  ·rw[<- e,cC rfl]
  ·have b:¬p.1=k:=λe=>a.1 (Yy.mpr ⟨_,h,e.symm⟩);rw[cD b];exact ih a.2 h
theorem cf.put{D:Addr}{ys:Qby}{o u:HO}(r:cf H b ys)(a:H D=some o)(c:∀xs,o≠.tup xs)(d:∀q xs,o≠.af q (.tup xs)):cf (L2.upd H D u) b ys:=r.upd λv hv z=>by
 subst z;rcases r with r|⟨q,r⟩
 ·rw[a]at r;cases r;exact c _ rfl
 ·rw[a]at r;cases r;exact d _ _ rfl
def jt(rows:List aj):Qbv:=rows.map λr=>(.inr r.1,.str (endOf rows r.1))
def ie:Hd->Qbo
 | .as y=>[y]
 | .way x y=>[x,y]
 | .prs _ ps=>ps.map (·.2)
 |_=>[]
def ky(rows:List aj)(h:Hd):Qbu:=h.bf.map λm=>(m.1.map (Sum.inr:Str->Key),.str (endOf rows m.2))
theorem nM{xs ys:Qbo}(h:xs.map (Sum.inr:Str->Key)=ys.map Sum.inr):xs=ys:=by
 induction xs generalizing ys with
 |nil=>cases ys with
  |nil=>rfl
  |cons y ys=>simp at h
 |cons x xs ih=>cases ys with
  |nil=>simp at h
  |cons y ys=>
   simp only[xA,Qa1,Sum.inr.injEq]at h;rw[h.1,ih h.2]
theorem qN{rows:List aj}{h:Hd}(a:(h.bf.map (·.1)).Nodup):((ky rows h).map (·.1)).Nodup:=by
 have e:(ky rows h).map (·.1)=(h.bf.map (·.1)).map λm=>m.map (Sum.inr:Str->Key):=by simp[ky,Qn,QC]
 rw[e];exact wW.mpr (a.imp λh e=>h (nM e))
theorem XT{h:Hd}(i:Nat)(hi:i<h.bf.length):(ie h)[i]? =some h.bf[i].2:=by
 cases h with
 |one s=>cases hi
 |as y=>cases hi
 |way x y=>
  match i,hi with
  |0,_=>rfl
  |1,_=>rfl
 |prs s ps=>
  have a:i<ps.length:=by simpa[Hd.bf]using hi
  simp[ie,Hd.bf,Qa a]
theorem XU{h:Hd}:h.bf.length<=(ie h).length:=by
 cases h<;>simp[ie,Hd.bf]
theorem qL{h:Hd}(ok:h.ok ns):h.bf.length<=10:=by
 cases h with
 |one s=>simp[Hd.bf]
 |as y=>simp[Hd.bf]
 |way x y=>simp[Hd.bf]
 |prs s ps=>simpa[Hd.bf]using ok.2.2.2
theorem oX:∀{ws:Qbo},rising ws=true->ws.Pairwise (λa b=>zg a b=true)
 | [],_=>.nil
 | [_],_=>List.pairwise_singleton _ _
 |a::b::r,h=>by
  have d:zg a b=true/\rising (b::r)=true:=by simpa[rising]using h
  have ih:=oX d.2;refine Qbe.mpr ⟨λc hc=>?_,ih⟩;rcases Qp.mp hc with rfl|hc
  ·exact d.1
  ·exact sV d.1 ((Qbe.mp ih).1 c hc)
theorem jA(h:rising ws=true):ws.Nodup:=(oX h).imp fun{x y}h e=>by rw[e,qO]at h;cases h
theorem vI{h:Hd}(ok:h.ok ns):(h.bf.map (·.1)).Nodup:=by
 cases h with
 |one s=>exact QaX
 |as y=>exact QaX
 |way x y=>exact(by decide+kernel:(([["from"],["to"]]:List Qbo)).Nodup)
 |prs s ps=>
  have a:=jA ok.2.2.1;have e:(Hd.prs s ps).bf.map (·.1)=(ps.map (·.1)).map λw=>([if s="box" then"part" else"case",w]:Qbo):=by simp[Hd.bf,Qn,QC]
  rw[e];exact wW.mpr (a.imp λh e=>h (by simpa using e))
theorem kC{rows:List aj}(a:(rows.map (·.1)).Nodup)(b:x∈rows.map (·.1)):a_ (jt rows) (.inr x)=some (.str (endOf rows x)):=by
 obtain⟨r,hr,rfl⟩:=Yy.mp b;refine fA ?_ (Yy.mpr ⟨r,hr,rfl⟩);have e:(jt rows).map (·.1)=(rows.map (·.1)).map (Sum.inr:Str->Key):=by simp[jt,Qn,QC]
 rw[e];exact wW.mpr (a.imp λh e=>h (Qas e))
theorem FI(m:Qbo):(m.map (Sum.inr:Str->Key)).map kV=m.map V.str:=by simp[Qn,QC,kV]
def bz(rows:List aj):List aj:=rows.filter λr=>r.2.nx.isNone
structure DV(R:Hp->V->aj->Prop)(H:Hp)(kvs:Qbv)(rs:List aj):Prop where
 len:kvs.length=rs.length
 at_:∀i(h:i<kvs.length)(M:i<rs.length),kvs[i].1=.inr rs[i].1/\R H kvs[i].2 rs[i]
theorem DV.keep{R:Hp->V->aj->Prop}{kvs:Qbv}(h:DV R H kvs rs)(s:∀v r,R H v r->R U v r):DV R U kvs rs:=⟨h.len,λi a b=>⟨(h.at_ i a b).1,s _ _ (h.at_ i a b).2⟩⟩
theorem DV.nil{R:Hp->V->aj->Prop}:DV R H [] []:=⟨rfl,λi h=>absurd h (by simp)⟩
theorem DV.snoc{R:Hp->V->aj->Prop}{kvs:Qbv}(h:DV R H kvs rs){v:V}{r:aj}(e:R H v r):DV R H (kvs++[((Sum.inr r.1:Key),v)]) (rs++[r]):=by
 have a:=h.len;refine⟨by simp[a],λi b d=>?_⟩;by_cases be:i<kvs.length
 ·rw[Qe be,Qe (by lia)];exact h.at_ i be (by lia)
 ·have c:i=kvs.length:=by simp at b;lia
  subst c;rw[Qf (Qz _),Qf (by lia)];simp only[Qar,a,uI,true_and];exact e
theorem DV.keys{R:Hp->V->aj->Prop}{kvs:Qbv}(h:DV R H kvs rs):kvs.map (·.1)=rs.map λr=>(.inr r.1:Key):=by
 have a:=h.len;refine Qam (by simpa using a) λi b c=>?_;simp only[Qr];exact(h.at_ i (by simpa using b) (by simpa using c)).1
theorem DV.put{R:Hp->V->aj->Prop}{kvs:Qbv}(h:DV R H kvs rs){r:aj}{v:V}(n:r.1∉rs.map (·.1)):putK kvs (.inr r.1) v=kvs++[(.inr r.1,v)]:=by
 refine L2.cO _ ?_;cases e:a_ kvs (.inr r.1)with
 |none=>rfl
 |some u=>
  have:=fY e;rw[h.keys]at this;obtain⟨r',ff,e'⟩:=Yy.mp this;exact absurd (Yy.mpr ⟨r',ff,Qas e'⟩) n
theorem DV.get{R:Hp->V->aj->Prop}{kvs:Qbv}(h:DV R H kvs rs)(a:(rs.map (·.1)).Nodup){r:aj}(b:r∈rs):∃v,a_ kvs (.inr r.1)=some v/\R H v r:=by
 obtain⟨i,hi,rfl⟩:=Qi b;have c:=h.len;obtain⟨O,Y⟩:=h.at_ i (by lia) hi
 refine⟨kvs[i].2,fA ?_ (k:=(Sum.inr rs[i].1:Key)) (v:=kvs[i].2) ?_,Y⟩
 ·rw[h.keys];exact wW.mpr ((wW.mp a).imp λh e=>h (Qas e))
 ·rw[<- O];exact Qj (by lia)
def Hd.bj:Hd->Str
 | .one s=>s
 | .as _=>"as"
 | .way _ _=>"way"
 | .prs s _=>s
theorem HV.bj{H:Hp}{v:V}{h:Hd}(q:HV H v h):∃b ys,v=.ref b/\H b=some (.tup (.str h.bj::ys)):=by
 cases q with
 |one e=>exact⟨_,_,rfl,e⟩
 |as e=>exact⟨_,_,rfl,e⟩
 |way e=>exact⟨_,_,rfl,e⟩
 |prs e _ _=>exact⟨_,_,rfl,e⟩
theorem zI{h:Hd}(ok:h.ok ns):(h.bj="as")=(h.nx.isNone=false):=by
 cases h with
 |one s=>rcases ok with rfl|rfl<;>simp[Hd.bj,Hd.nx]<;>decide+kernel
 |as y=>simp[Hd.bj,Hd.nx]
 |way x y=>simp[Hd.bj,Hd.nx];decide+kernel
 |prs s ps=>rcases ok.1 with rfl|rfl<;>simp[Hd.bj,Hd.nx]<;>decide+kernel
def RH:Hp->V->aj->Prop:=λH v r=>HV H v r.2
def RM:Hp->V->aj->Prop:=λH v r=>∃b c us,v=.ref b/\H b=some (.tup [.str r.2.bj,.ref c])/\H c=some (.tup us)/\SV H us (r.2.bf.map (·.1))
def RO(rows:List aj):Hp->V->aj->Prop:=λH v r=>∃m o,v=.ref m/\H m=some (.af o (.dT (ky rows r.2)))
structure Hx(H:Hp)(rows:List aj)(fs:Qbw):Prop where
 rws:∃d o,fs.lookup ("rows":Str)=some (V.ref d)/\H d=some (.af o (.dK (jt rows)))
 hds:∃d o k,fs.lookup ("heads":Str)=some (V.ref d)/\H d=some (.af o (.dK k))/\DV RH H k (bz rows)
 mks:∃d o k,fs.lookup ("marks":Str)=some (V.ref d)/\H d=some (.af o (.dK k))/\DV RM H k (bz rows)
 bf:∃d o k,fs.lookup ("moves":Str)=some (V.ref d)/\H d=some (.af o (.dK k))/\DV (RO rows) H k (bz rows)
def An(H:Hp)(C x:Addr)(rows:List aj):Prop:=∃dx fs,H x=some (.ins C dx fs)/\Hx H rows fs
def Sx(x:Addr)(H U:Hp):Prop:=∀b o,b≠x->H b=some o->U b=some o
theorem Sx.trans{x:Addr}{d e:Hp}(a:Sx x H d)(b:Sx x d e):Sx x H e:=λc o n h=>b c o n (a c o n h)
theorem ae.sx{x:Addr}{b:Hp}(a:ae H b):Sx x H b:=λc o _ h=>a c o h
theorem Sx.upd{x:Addr}{H:Hp}{o:HO}:Sx x H (upd H x o):=λc u n h=>by rw[aB n];exact h
theorem Sx.tk{x:Addr}(s:Sx x H U)(n:∀ys,H x≠some (.tup ys)):Tk H U:=λb ys e=>s b _ (λz=>n ys (by rw[<- z];exact e)) e
theorem Sx.af{x b:Addr}{H U:Hp}{q:Obj}{u:HO}(s:Sx x H U)(n:∀q u,H x≠some (.af q u))(e:H b=some (.af q u)):U b=some (.af q u):=s b _ (λz=>n q u (by rw[<- z];exact e)) e
theorem HV.same{v:V}{h:Hd}(q:HV H v h)(s:ae H U):HV U v h:=q.tk s.ts
theorem fK{K:Q0}{b:TE}{f:Str}{v:TS}(h:b Z H λy H1=>ta Z H1 λx H2=>∃a C dx fs,x=.ref a/\H2 a=some (.ins C dx fs)/\uy K C/\Ae K C f/\fs.length<1000/\v D Z (upd H2 a (.ins C dx (cj f y fs)))):Bq (GP K ta b f) v D Z H:=h
def fq(rows:List aj)(e:Str)(s:Qbo):Option Str:=((ak rows e).find? λm=>decide (m.1=s)).map (·.2)
def zk(rows:List aj):Str->List Qbo->Option Str
 |e,[]=>some e
 |e,s::r=>match fq rows e s with
  |some e'=>zk rows e' r
  |none=>none
def Hy:Option Str->V
 |some z=>.str z
 |none=>.aq
def gj(rows:List aj)(ns:Qbo)(e:Str):Prop:=e∈ns/\endOf rows e=e
theorem uS(rows:List aj)(e:Str)(s:Qbo)(a:endOf rows e=e):a_ (ky rows (ai rows e)) (s.map Sum.inr)=(fq rows e s).map V.str:=by
 unfold a_ ky fq ak;rw[a]
 induction (ai rows e).bf with
 |nil=>rfl
 |cons m ms ih=>
  simp only[xA,Qax];by_cases h:m.1=s
  ·rw[Qw h,Qw (congrArg _ h)];rfl
  ·rw[Qx h,Qx λz=>h (nM z)];exact ih
def jm(rows:List aj)(e:Str):Qbu:=(ak rows e).map λm=>(m.1.map Sum.inr,.str m.2)
section
variable{xs:Qby}{rows:List aj}
theorem RT.stay(rt:RT H a xs rows ns ws)(b:∀z∈ws,Wd z)(c:x∈ns):gj rows ns (endOf rows x):=by
 obtain⟨O,Y,_⟩:=rt.AR b c;exact⟨O,cH _ Y⟩
theorem RT.rf(rt:RT H a xs rows ns ws)(b:∀z∈ws,Wd z){e:Str}(h:gj rows ns e):(e,ai rows e)∈bz rows/\(ai rows e).ok ns:=by
 obtain⟨O,Y,h3⟩:=rt.AR b h.1;rw[h.2]at O Y h3;have c:e∈rows.map (·.1):=rt.nm.mem_iff.mpr O;obtain⟨r,hr,rfl⟩:=Yy.mp c;have d:=bN rt.ia hr;refine⟨Qad.mpr ⟨?_,?_⟩,h3⟩
 ·rw[d];exact hr
 ·show(ai rows r.1).nx.isNone=true;rw[Y];rfl
theorem RT.fq(rt:RT H a xs rows ns ws)(b:∀z∈ws,Wd z){e c:Str}{s:Qbo}(h:gj rows ns e)(m:L2.fq rows e s=some c):gj rows ns c:=by
 unfold L2.fq at m;obtain⟨p,hp,rfl⟩:=QaA.mp m;have d:=QaI hp;unfold ak at d;obtain⟨q,hq,rfl⟩:=Yy.mp d;rw[h.2]at hq;exact rt.stay b (u4 (rt.rf b h).2 _ hq)
theorem RT.Ao(rt:RT H a xs rows ns ws):((bz rows).map (·.1)).Nodup:=rt.ia.sublist (List.filter_sublist.map _)
theorem RT.wj(rt:RT H a xs rows ns ws)(b:∀z∈ws,Wd z)(h:x∈ns):((jm rows x).map (·.1)).Nodup:=by
 have c:=(rt.AR b h).2.2;have e:(jm rows x).map (·.1)=((ai rows (endOf rows x)).bf.map (·.1)).map λm=>m.map (Sum.inr:Str->Key):=by simp[jm,ak,Qn,QC]
 rw[e];exact wW.mpr ((vI c).imp λh e=>h (nM e))
theorem RT.FJ(rt:RT H a xs rows ns ws)(b:∀z∈ws,Wd z)(h:x∈ns):(ak rows x).length<=10:=by
 have:=qL (rt.AR b h).2.2;unfold ak;simpa using this
end
theorem Hx.same{H U:Hp}{rows:List aj}{e:Qbw}(n:Hx H rows e)(s:ae H U):Hx U rows e:=by
 obtain⟨⟨d1,o1,a1,a2⟩,⟨d2,o2,k2,b1,b2,b3⟩,⟨d3,o3,k3,c1,c2,c3⟩,⟨d4,o4,k4,e1,e2,e3⟩⟩:=n;exact⟨⟨d1,o1,a1,s _ _ a2⟩,⟨d2,o2,k2,b1,s _ _ b2,b3.keep λv r h=>HV.tk s.ts h⟩,⟨d3,o3,k3,c1,s _ _ c2,c3.keep λv r ⟨b,c,f,a,d,g,i⟩=>⟨b,c,f,a,s _ _ d,s _ _ g,i.keep λb j r=>r.same s⟩⟩,⟨d4,o4,k4,e1,s _ _ e2,e3.keep λv r ⟨m,o,a,d⟩=>⟨m,o,a,s _ _ d⟩⟩⟩
theorem An.same{H U:Hp}{C x:Addr}{rows:List aj}(n:An H C x rows)(s:ae H U):An U C x rows:=let ⟨dx,fs,e,f⟩:=n;⟨dx,fs,s _ _ e,f.same s⟩
def Kc(K:Q0):R2:=λx y H Q=>∃a b xs ys,x=.ref a/\y=.ref b/\ay K H a xs/\ay K H b ys/\xs.length+ys.length<=sizeLine/\(xs=[]->Q (.ref b) H)/\
 (xs≠[]->ys=[]->Q (.ref a) H)/\(xs≠[]->ys≠[]->∀p,H p=none->Q (.ref p) (upd H p (.tup (xs++ys))))
theorem XW(K:Q0)(h:X.K=K:=by rfl):dj X (binaryOp .Add) (Kc K):=by
 subst h;intro c s f H x y v u Q I d e h;obtain⟨a,b,xs,ys,rfl,rfl,ha,hb,hz,q0,q1,q2⟩:=h;by_cases hx:xs=[]
 ·cases d;cases e;obtain⟨its,r1,p1,_⟩:=I.tuple ha;obtain⟨its2,r2,p2,_⟩:=I.tuple hb;have g:its=[]:=r1.GW.mpr hx;obtain⟨⟨cls,dd,data,sl⟩,ho,hc,n,hd⟩:=id p1;obtain⟨⟨UB,GS,data2,GU⟩,Cq,y_,n2,hd2⟩:=id p2;simp only at hc hd y_ hd2;subst hc hd y_ hd2;exact concat_meets ⟨_,ho,rfl⟩ ⟨_,Cq,rfl⟩ noFill_tuple_add seq_tuple_add PySem.F.slot_tuple_add PySem.F.entry_tuple_add (PySem.F.args_tuple_add_2 _ _)
   (tuple_addW0 a b its.toArray its2.toArray n n2 dd GS sl GU (by simp[g])) ⟨ho,Cq,⟨.ref b,H,I,rfl,q0 hx⟩⟩
 ·exact wH c s f H _ _ v u Q I d e ⟨a,b,xs,ys,rfl,rfl,ha,hb,hx,hz,q1 hx,q2 hx⟩
theorem XX{K:Q0}{xs ys:Qby}{Q:VK}(c:H a=some (.tup xs))(d:H b=some (.tup ys))(hz:xs.length+ys.length<=sizeLine)(h:∀p U,ae H U->U p=some (.tup (xs++ys))->Q (.ref p) U):Kc K (.ref a) (.ref b) H Q:=by
 refine⟨a,b,xs,ys,rfl,rfl,ay.of c,ay.of d,hz,λe=>?_,λ_ e=>?_,λ_ _ p f=>?_⟩
 ·subst e;exact h b H (ae.refl _) d
 ·subst e;exact h a H (ae.refl _) (by rw[QR];exact c)
 ·exact h p _ (ae.upd f _) aA
theorem SV.same{H U:Hp}{xs:Qby}{a:List Qbo}(h:SV H xs a)(s:ae H U):SV U xs a:=h.keep λ_ _ r=>r.same s
theorem qC{k:Nat}(a:gb k A):A.units+20<cLine:=by have:=a.un;lia
section
variable{d:Addr}{od:Obj}{es:Array DictEntry}{ok ov:Value}{Q:Qbr->Shared->Prop}
theorem yO {a:DictEntry} (k:IsItemIter s.heap it d i n ep ok ov) (u:s.heap.get? d=some od) (y:od.data=.dict es ep) (N:es.size=n) (r:es[i]? =some a)
  (R:∀ M,IsItemIterOut M it d (i+1) n ep a.key a.val s.heap.objs.size->M.get? s.heap.objs.size=some {cls:=.type "tuple",data:=.seq #[a.key,a.val]}->
   (∀ b o,b≠it->s.heap.get? b=some o->M.get? b=some o)->Q (some (.ref s.heap.objs.size)) {s with heap:=M}):wpAny (model P w) A (pyNext (.ref it)) Q E s:=by
 obtain ⟨h,g,l,m,p⟩:=s
 have j:Shared.TypeIs ⟨h,g,l,m,p⟩ (.ref it) "dict_itemiterator":=⟨_,k,rfl⟩
 have be:i < es.size:=(Array.getElem?_eq_some_iff.mp r).1
 have T:es[i]=a:=(Array.getElem?_eq_some_iff.mp r).2
 have t:Builtin.Dict_items.ownsTuple "dict_itemiterator"=true:=by decide
 have V:¬(Value.ref d==Value.none)=true:=λhz=>yH hz
 unfold pyNext
 refine QT (wpAny_attempt (wpAny_callSpecial?_slot (name:=Str.ofString "__next__") j F.slot_dict_itemiterator_next (wpAny_call_entry F.slot_dict_itemiterator_next j F.entry_dict_itemiterator_next ?_ (F.args_dict_itemiterator_next_1 _))))
 refine QT (QU (QT (QT ?_)))
 first
  | refine QT (wpAny_typeNameOfWhole_itemiter j (QU (QT (wpAny_fieldsOf k rfl ?_))))
  | refine QT (wpAny_typeNameOf_itemiter j (QU (QT (wpAny_fieldsOf k rfl ?_))))
 simp only [t,if_true]
 show wpAny _ _ (if (Value.ref d==Value.none)=true then _ else _) _ _ _
 rw [if_neg V]
 refine QT (QU (QT (wpAny_dictEntries u y ?_)))
 rw [if_neg (by rw [N];simp)]
 refine QT (QU (QT (wpAny_dictEpoch u y ?_)))
 rw [if_neg (by simp)]
 refine QU ?_
 simp only [show ¬((i:Int) < 0) by lia,if_false,QaO,r]
 refine QT ?_
 first
  | refine QT (wpAny_typeNameOfWhole_itemiter j (QU (QT (wpAny_isOneOf_itemiter j ?_))))
  | refine QT (wpAny_typeNameOf_itemiter j (QU (QT (wpAny_isOneOf_itemiter j ?_))))
 show wpAny _ _ (setField (.ref it) 3 (rawInt ((i:Int)+1)) >>=_) _ _ ⟨h,g,l,m,p⟩
 refine QT (wpAny_setField_rec k (by simp) λc b1 c1=>?_)
 have z:Heap.SameBut it h c:=c1
 have C:IsItemIter c it d (i+1) n ep ok ov:=by
  have e:((i+1:Nat):Int)=(i:Int)+1:=by lia
  unfold IsItemIter;rw [e];simpa [rawInt] using b1
 have D:Shared.TypeIs ⟨c,g,l,m,p⟩ (.ref it) "dict_itemiterator":=⟨_,C,rfl⟩
 refine QT (wpAny_holding (QT (wpAny_isOneOf_itemiter D (QT (wpAny_isOneOf_itemiter D ?_)))))
 show wpAny _ _ (Builtin.Dict_items.pairFromOwner (.ref it) 6 a.key a.val) _ _ ⟨c,g,l,m,p⟩
 unfold Builtin.Dict_items.pairFromOwner
 refine QT (wpAny_newTuple ?_)
 have G:c.objs.size=h.objs.size:=z.1
 have il:it < h.objs.size:=QA k
 have q:IsItemIter (c.push {cls:=.type "tuple",data:=.seq #[a.key,a.val]}) it d (i+1) n ep ok ov:=Qc _ C
 have H:(c.push {cls:=.type "tuple",data:=.seq #[a.key,a.val]}).get? h.objs.size=some {cls:=.type "tuple",data:=.seq #[a.key,a.val]}:=by rw [<- G];exact Qd _ rfl
 have I:∀ b o,b≠it->h.get? b=some o->(c.push {cls:=.type "tuple",data:=.seq #[a.key,a.val]}).get? b=some o:=λb o f e=>Qc _ (z.extBut b o f e)
 show wpAny _ _ (Builtin.Dict_items.ownedTupleIsFree (.ref it) >>=_) _ _ ⟨c.push {cls:=.type "tuple",data:=.seq #[a.key,a.val]},g,l,m,p⟩
 rw [G]
 generalize c.push {cls:=.type "tuple",data:=.seq #[a.key,a.val]}=k2 at q H I
 refine QT ?_
 unfold Builtin.Dict_items.ownedTupleIsFree
 refine QT (wpAny_field q rfl (x:=.none) rfl (QU ?_))
 simp only [if_true]
 refine QT (wpAny_field q rfl (x:=ok) rfl (QT (wpAny_field q rfl (x:=ov) rfl (QT (wpAny_setField_rec q (by simp) λk3 b3 c3=>?_)))))
 have XY:IsItemIter k3 it d (i+1) n ep a.key ov:=b3
 refine QT (wpAny_setField_rec XY (by simp) λk4 b4 c4=>?_)
 have XZ:IsItemIter k4 it d (i+1) n ep a.key a.val:=b4
 refine QT (wpAny_setField_rec XZ (by simp) λk5 b5 c5=>?_)
 have X0:IsItemIterOut k5 it d (i+1) n ep a.key a.val h.objs.size:=b5
 refine QT (wpAny_setField_rec X0 (by simp) λK b6 c6=>?_)
 have L:∀ b o,b≠it->k2.get? b=some o->K.get? b=some o:=λb o f e=>c6.extBut b o f (c5.extBut b o f (c4.extBut b o f (c3.extBut b o f e)))
 exact QT (wpAny_letGo (QU (QU ⟨_,rfl,QU (R K b6 (L _ _ (Qah il) H) λb o f e=>L b o f (I b o f e))⟩)))
theorem X8(j:A.handled=none)(e:IsItemIter s.heap it d i n ep ok ov)(g:s.heap.get? d=some od)(h:od.data=.dict es ep)(k:es.size=n)(r:n<=i)
  (l:∀M,Heap.ExtBut it s.heap M->Q none {s with heap:=M}):wpAny (model P w) A (pyNext (.ref it)) Q E s:=by
 have c:s.TypeIs (.ref it) "dict_itemiterator":=⟨_,e,rfl⟩
 have f:Builtin.Dict_items.ownsTuple "dict_itemiterator"=true:=by decide
 have o:es.size<=i:=by lia
 have p:¬(Value.ref d==Value.none)=true:=λq=>yH q;unfold pyNext;refine QT (wpAny_attempt (wpAny_callSpecial?_slot (name:=Str.ofString "__next__") c F.slot_dict_itemiterator_next (wpAny_call_entry F.slot_dict_itemiterator_next c F.entry_dict_itemiterator_next ?_ (F.args_dict_itemiterator_next_1 _))));refine QT (QU (QT (QT ?_)))
 first
  |refine QT (wpAny_typeNameOfWhole_itemiter c (QU (QT (wpAny_fieldsOf e rfl ?_))))
  |refine QT (wpAny_typeNameOf_itemiter c (QU (QT (wpAny_fieldsOf e rfl ?_))))
 simp only[f,if_true];show wpAny _ _ (if(Value.ref d==Value.none)=true then _ else _) _ _ _;rw[if_neg p];refine QT (QU (QT (wpAny_dictEntries g h ?_)));rw[if_neg (by rw[k];simp)];refine QT (QU (QT (wpAny_dictEpoch g h ?_)));rw[if_neg (by simp)];refine QU ?_;simp only[show ¬((i:Int)<0)by lia,if_false,QaO,Array.getElem?_eq_none o];refine QT ?_
 first
  |refine QT (wpAny_typeNameOfWhole_itemiter c (QU ?_))
  |refine QT (wpAny_typeNameOf_itemiter c (QU ?_))
 show wpAny _ _ (setField (.ref it) 2 .none >>=_) _ _ s;refine QT (wpAny_setField e rfl (by simp) ?_);show wpAny _ _ (newExc (.type "StopIteration") [] >>=_) _ _ _;refine QT ?_;simp only[newExc,newTuple];refine QT (wpAny_newObj_type (QT (m:=firstArgMember _ _) (wpAny_of_eq (a:=Value.none) (by first|rfl|(simp only[firstArgMember];rfl)) (wpAny_newObj_type ?_ (by size_fits)))) (by size_fits));simp only[raiseNew];refine QT (wpAny_handled ?_);rw[show A.in1.handled=none from j];refine QT (QU (wpAny_throw ?_));refine QT (wpAny_isInstance (T:="StopIteration") (b:=true) ⟨_,Qd _ rfl,rfl⟩ isSubtype_stop ?_);exact QU (l _ (((Qat ..).extBut.push _).push _))
end
def FL(a:Addr)(o:Obj)(kvs:Qbu):It:=⟨λi H=>H a=some (.af o (.dT kvs))/\i<kvs.length,λi H x U=>∃b c,kvs[i]? =some c/\cf H b (c.1.map kV)/\CJ (.ref b) c.2 H x U,λi H=>H a=some (.af o (.dT kvs))/\kvs.length=i⟩
theorem N4{kvs:Qbu}(r:KT H kvs xs):∀{i:Nat}{p:List Key×V},kvs[i]? =some p->∃q,xs[i]? =some q/\cf H q.2.1 (p.1.map kV)/\RelV p.2 q.2.2:=by
 intro i
 induction r generalizing i with
 |nil=>intro p h;simp at h
 |cons a t ih=>
  intro p h;cases i with
  |zero=>simp at h;subst h;exact⟨_,by simp,a.2.1,a.2.2⟩
  |succ i=>simp at h;simpa using ih h
theorem tE{K:Q0}{k:Nat}{l:Pos}{kvs:Qbu}(CP:a≠it)(x:∃es,o.data=.dict es ep):
  Turn P w K (.Tuple yo k l) (FL a o kvs) [it] it (λi h=>∃ok ov,IsItemIter h it a i kvs.length ep ok ov)where
 mem:=by simp
 obj:=λi h st b c=>by
  have e:b=it:=by simpa using c
  subst e;obtain⟨ok,ov,he⟩:=st;exact⟨_,he,λv z=>by
   have D:Data.fields _=Data.cell v:=z;cases D⟩
 keep:=λi h g st k=>let ⟨ok,ov,he⟩:=st;⟨ok,ov,k it (by simp) _ he⟩
 item:=by
  intro X m p r y i d s A H E I j st t;subst m p r;obtain⟨ok,ov,he⟩:=st;obtain⟨hq,hi⟩:=t;obtain⟨e,z,hd,xs,rel,ob,es,nu,O,Y,h3,h4,h5⟩:=(show bx X.prog X.w H s.heap a (.af o (.dT kvs))from I.hok a _ hq)
  obtain⟨es',fh⟩:=x;rw[e]at O;cases O;rw[fh]at h3;injection h3 with ii ik
  subst ii ik;obtain⟨q,mi,oq,CQ⟩:=N4 rel (Qa hi);have u:=Paired.length rel;have f:es'.size=kvs.length:=by rw[<- Qai,h4,Ql];exact u.symm
  have G:es'[i]? =some (entryOfKey (tupleKind (c_ X.prog X.w)) q):=by rw[<- QaJ,h4,Qq,mi];rfl
  refine yO (n:=kvs.length) he e fh f G λg L N Q=>?_;have R:RelV (.ref q.2.1) (entryOfKey (tupleKind (c_ X.prog X.w)) q).key:=rfl;have T:RelV kvs[i].2 (entryOfKey (tupleKind (c_ X.prog X.w)) q).val:=CQ;have V:Inv X d A (upd H s.heap.objs.size (.tup [.ref q.2.1,kvs[i].2])) {s with heap:=g}:=I.Fo (t':=s.toks) j (λb o c e=>Q b o (λz=>c (by simp[z])) e) (Qz _) (hV R T N);refine⟨_,rfl,wpAny_letOwnedTupleGo_items (s:={s with heap:=g}) L λBy CS sb=>?_⟩;have be:it≠s.heap.objs.size:=yT (QA he);obtain⟨f0,f1,f2,f3,f4,f5⟩:=j it (by simp);have C:upd H s.heap.objs.size (.tup [.ref q.2.1,kvs[i].2]) it=none:=by rw[aB be];exact f0
  refine⟨.ref s.heap.objs.size,_,V.turned (t':=s.toks) (λb o c q=>(sb.2 b c).trans q) C f1 f3 f4 f5,rfl,⟨q.2.1,kvs[i],Qa hi,oq,_,rfl,I.hok.fresh (Qz _),rfl⟩,⟨_,_,CS⟩,λb c=>?_⟩;have e:b=it:=by simpa using c
  subst e;exact C
 done:=by
  intro X m p r y i d s A H E I j st t;subst m p r;obtain⟨ok,ov,he⟩:=st;obtain⟨hq,hi⟩:=t;obtain⟨e,z,hd,xs,rel,ob,es,nu,O,Y,h3,h4,h5⟩:=(show bx X.prog X.w H s.heap a (.af o (.dT kvs))from I.hok a _ hq)
  obtain⟨es',fh⟩:=x;rw[e]at O;cases O;rw[fh]at h3;injection h3 with ii ik
  subst ii ik;have u:=Paired.length rel;have f:es'.size=kvs.length:=by rw[<- Qai,h4,Ql];exact u.symm
  obtain⟨f0,f1,f2,f3,f4,f5⟩:=j it (by simp);exact X8 (n:=kvs.length) (I.ok.hd y) he e fh f (by lia) λg eb=>⟨rfl,I.turned (t':=s.toks) (λb o c e=>eb b o c e) f0 f1 f3 f4 f5⟩
 self:=λ_ _ _ _ _ st h=>let ⟨_,_,he⟩:=st;PySem.W.kcp_self he h
section
variable{k:Nat}{o:Expr}
theorem lJ{v d:Addr}{b:Obj}{es:Array DictEntry}(hv:s.heap.IsItemsView v d)(c:s.heap.get? d=some b)(e:b.data=.dict es ep)
  (f:Q (.ref s.heap.objs.size) {s with heap:=s.heap.push {cls:=.type "dict_itemiterator",data:=.fields #[.none,.bool false,.ref d,.int 0 0,.int es.size 0,.int ep 0,.none,.none]}}):wpAny (model P w) A (pyIter (.ref v)) Q E s:=by
 obtain⟨ov,Kg,X9,Kh⟩:=id hv;have a:Builtin.Dict_items.ownsTuple "dict_itemiterator"=true:=by decide
 refine wpAny_pyIter_slot hv.typeIs F.slot_dict_items_iter (wpAny_call_entry F.slot_dict_items_iter hv.typeIs F.entry_dict_items_iter ?_ (F.args_dict_items_iter_1 _));unfold Builtin.«dict_items.__iter__»;refine QT (QU (QT ?_));unfold Builtin.Dict_items.dictOf;refine QT (wpAny_field Kg Kh (x:=.ref d) rfl (QU (QT ?_)));unfold Builtin.Dict_items.newIterator;refine QT (wpAny_dictEntries c e (QT (wpAny_dictEpoch c e ?_)));simp only[a,if_true];refine wpAny_newObj_type (QU ⟨_,rfl,"dict_itemiterator",_,⟨_,Qd _ rfl,rfl⟩,F.slot_dict_itemiterator_next.lookup,?_⟩) (by simp only[sizeOk,Builtin.Dict_items.ownedTupleFields,yJ,Qk,Qaf,List.length_nil,QM];lia);simpa[rawInt,Builtin.Dict_items.ownedTupleFields]using f
theorem nU(d:Addr)(a:(d==sysModules)=false):
  MeetsIn P w (Builtin.«dict.items» ⟨[.ref d],[]⟩) (λ_ R s=>s.TypeIs (.ref d) "dict"/\R (.ok (.ret (.ref s.heap.objs.size))) {s with heap:=s.heap.push {cls:=.type "dict_items",data:=.fields #[.ref d]}}):=
 .of_wp λA R s ⟨b,h⟩=>by
  unfold Builtin.«dict.items» Builtin.Dict.noArgs;refine QT (QT (wpAny_notOrdered_dict b ?_));show wpAny _ _ (pure d) _ _ s;refine QU ?_;show wpAny _ _ (Builtin.Dict.showsAll d >>=_) _ _ s;unfold Builtin.Dict.showsAll;rw[if_neg (λc=>yH (a.symm.trans c))];exact QT (QU (QT (wpAny_newObj_type (QU ⟨_,rfl,h⟩))))
def X_(b:TE):TI:=λZ H R=>b Z H λx H1=>∃a kvs o,x=.ref a/\H1 a=some (.af o (.dT kvs))/\R (FL a o kvs) H1
theorem pK(n:SE X o to)(p:attributeBase o "items" X.env (eval o X.env)=eval o X.env:=by rfl)(r:(apos.endLine==cpos.line)=true:=by rfl):
  SI X (.Tuple yo k Bk) (.Call (.Attribute o "items" apos) [] [] cpos) (X_ to):=by
 constructor;intro d s l H R I h;refine wpAny_Call_method0_late p r (av (n.h d s l H _ I h) ?_);rintro v c ⟨x,t,m,u,a,kvs,o,y,A,q⟩;subst y;cases u;obtain⟨e,z,we,xs,rel,ob,es,ep,O,Y,hd,h4,h5⟩:=(show bx X.prog X.w _ c.heap a (.af o (.dT kvs))from m.hok a _ A)
 rw[e]at O;cases O;have C:=Paired.length rel;have f:es.size=kvs.length:=by rw[<- Qai,h4,Ql];exact C.symm
 have g:c.TypeIs (.ref a) "dict":=⟨o,e,Y.1⟩
 refine⟨"dict","dict.items",Qav,Qa9,PySem.F.type_dict_items,g,λb i=>by cases i;exact⟨o,e,Y.2.1⟩,Calls.callWith_builtin rfl (QaW ?_)⟩;refine call_meetsIn Qa9 g PySem.F.entry_dict_items (PySem.F.args_dict_items_1 _) (nU a we) ⟨g,?_⟩;have j:Inv X d l t {c with heap:=c.heap.push {cls:=.type "dict_items",data:=.fields #[.ref a]}}:=m.kept (t':=c.toks) λb o e=>Qc _ e;refine lJ (es:=es) (ep:=ep) ⟨_,Qd _ rfl,rfl,rfl⟩ (Qc _ e) hd ?_;have D:a≠(c.heap.push {cls:=.type "dict_items",data:=.fields #[.ref a]}).objs.size:=by
  rw[QaS];exact yT (Qaq (QA e))
 refine⟨_,[(c.heap.push {cls:=.type "dict_items",data:=.fields #[.ref a]}).objs.size],_,_,_,rfl,j.kept (t':=c.toks) λb o e=>Qc _ e,tE (kvs:=kvs) (a:=a) (o:=o) D ⟨es,hd⟩,⟨.none,.none,by rw[<- f];exact Qd _ rfl⟩,λb i=>?_,q⟩;have e:b=(c.heap.push {cls:=.type "dict_items",data:=.fields #[.ref a]}).objs.size:=by simpa using i
 subst e;exact j.sy (Qz _) (j.hok.fresh (Qz _))
end
def FN(a:Addr)(o:Obj)(kvs:Qbv):It:=⟨λi H=>H a=some (.af o (.dK kvs))/\i<kvs.length,λi H x U=>U=H/\x=valAt kvs i,λi H=>H a=some (.af o (.dK kvs))/\kvs.length=i⟩
theorem Yb(kvs:Qbv):Ai (FN a o kvs) (λH=>H a=some (.af o (.dK kvs))) kvs.length (valAt kvs):=λH b=>⟨λi c=>⟨⟨b,c⟩,λx d h=>h⟩,b,rfl⟩
theorem xU{K:Q0}{kvs:Qbv}(y:∃es,o.data=.dict es ep):Turn P w K tg (FN a o kvs) [it] it (λi h=>h.IsValIter it a i kvs.length ep)where
 mem:=by simp
 obj:=λi h st b g=>by
  have e:b=it:=by simpa using g
  subst e;obtain⟨o,e,c,d⟩:=st;exact⟨o,e,λv z=>by rw[d]at z;cases z⟩
 keep:=λi h j st k=>let ⟨o,e,r⟩:=st;⟨o,k it (by simp) o e,r⟩
 item:=by
  intro X n p t A i f s C H E I l st u;subst n p t;obtain⟨hq,hi⟩:=u;obtain⟨e,z,hd,vs,rel,ob,es,nu,O,Y,h3,h4⟩:=(show bx X.prog X.w H s.heap a (.af o (.dK kvs))from I.hok a _ hq)
  obtain⟨es',fh⟩:=y;rw[e]at O;cases O;rw[fh]at h3;injection h3 with ii ik
  subst ii ik;obtain⟨q,mi,oq,CQ⟩:=qG rel (Qa hi);have m:=rel.len;obtain⟨f0,f1,f2,f3,f4,f5⟩:=l it (by simp);obtain⟨qk,qv⟩:=q;refine wpAny_pyNext_values_item (knd:=c_ X.prog X.w) (kvs:=vs) (ep:=ep) (by rw[<- m];exact st) ⟨o,es',e,Y,fh,h4⟩ mi λj x G=>?_;have L:Inv X f C H {s with heap:=j}:=I.turned (t':=s.toks) (λb o g e=>(G.2 b g).trans e) f0 f1 f3 f4 f5;have D:j.IsValIter it a (i+1) kvs.length ep:=by rw[m];exact x
  obtain⟨o3,e3,c3,d3⟩:=id D;refine⟨qv,rfl,kR (s:={s with heap:=j}) e3 c3 d3 (by decide) ⟨valAt kvs i,H,L,?_,⟨rfl,rfl⟩,D,λb g=>(l b g).1⟩⟩;unfold valAt;rw[Qa hi];exact CQ
 done:=by
  intro X n p t A i f s C H E I l st u;subst n p t;obtain⟨hq,hi⟩:=u;obtain⟨e,z,hd,vs,rel,ob,es,nu,O,Y,h3,h4⟩:=(show bx X.prog X.w H s.heap a (.af o (.dK kvs))from I.hok a _ hq)
  obtain⟨es',fh⟩:=y;rw[e]at O;cases O;rw[fh]at h3;injection h3 with ii ik
  subst ii ik;have m:=rel.len;obtain⟨f0,f1,f2,f3,f4,f5⟩:=l it (by simp);exact wpAny_pyNext_values_end (knd:=c_ X.prog X.w) (kvs:=vs) (ep:=ep) (I.ok.hd A) (by rw[<- m];exact st) ⟨o,es',e,Y,fh,h4⟩ (by simp;lia) λj N=>⟨rfl,I.turned (t':=s.toks) (λb o g e=>N b o g e) f0 f1 f3 f4 f5⟩
 self:=λ_ _ _ _ _ st h=>wpAny_pyIter_valiter st h
section
variable{o:Expr}
def Yc(b:TE):TI:=λZ H R=>b Z H λx H1=>∃a kvs,x=.ref a/\((∃o,H1 a=some (.af o (.dK kvs))/\R (FN a o kvs) H1)\/(H1 a=some (.dK kvs)/\∀o,R (FN a o kvs) (upd H1 a (.af o (.dK kvs)))))
theorem Yd(m:SE X o to)(n:attributeBase o "values" X.env (eval o X.env)=eval o X.env:=by rfl)(p:(apos.endLine==cpos.line)=true:=by rfl):
  SI X tg (.Call (.Attribute o "values" apos) [] [] cpos) (Yc to):=by
 constructor;intro c s g H R I h;refine wpAny_Call_method0_late n p (av (m.h c s g H _ I h) ?_);rintro v d ⟨x,r,k,t,a,kvs,u,y⟩;subst u;cases t;obtain⟨o,f,I2,J3,q⟩:∃(o:Obj)(f:Hp),Inv X c g f d/\f a=some (.af o (.dK kvs))/\R (FN a o kvs) f:=by
  rcases y with⟨o,e,q⟩|⟨e,q⟩
  ·exact⟨o,r,k,e,q⟩
  ·obtain⟨o,_,_,_,I2,_⟩:=k.freeze (.inl e);exact⟨o,_,I2,aA,q o⟩
 obtain⟨e,z,we,vs,rel,ob,es,ep,O,Y,hd,h4⟩:=(show bx X.prog X.w _ d.heap a (.af o (.dK kvs))from I2.hok a _ J3)
 rw[e]at O;cases O;have A:=rel.len;have l:d.TypeIs (.ref a) "dict":=⟨o,e,Y.1⟩
 refine⟨"dict","dict.values",Qav,QaN,PySem.F.type_dict_values,l,λb i=>by cases i;exact⟨o,e,Y.2.1⟩,Calls.callWith_builtin rfl (QaW ?_)⟩;refine call_meetsIn QaN l PySem.F.entry_dict_values (PySem.F.args_dict_values_1 _) (meets_dict_values (c_ X.prog X.w) a we) ⟨⟨vs,o,es,ep,e,Y,hd,h4⟩,?_⟩;have j:Inv X c g f {d with heap:=d.heap.push {cls:=.type "dict_values",data:=.fields #[.ref a]}}:=I2.kept (t':=d.toks) λb o e=>Qc _ e;refine wpAny_pyIter_values (knd:=c_ X.prog X.w) (kvs:=vs) (ep:=ep) ⟨_,Qd _ rfl,rfl,rfl⟩ ⟨o,es,Qc _ e,Y,hd,h4⟩ ?_;refine⟨_,[(d.heap.push {cls:=.type "dict_values",data:=.fields #[.ref a]}).objs.size],_,_,_,rfl,j.kept (t':=d.toks) λb o e=>Qc _ e,xU (kvs:=kvs) (a:=a) (o:=o) ⟨es,hd⟩,by rw[A];exact⟨_,Qd _ rfl,rfl,rfl⟩,λb i=>?_,q⟩;have e:b=(d.heap.push {cls:=.type "dict_values",data:=.fields #[.ref a]}).objs.size:=by simpa using i
 subst e;exact j.sy (Qz _) (j.hok.fresh (Qz _))
end
theorem mQ{K:Q0}{ad:Addr}{kvs:Qbu}{a b:Nat}{j:TS}(d:Nat->St->Hp->Prop)(h0:d 0 Z H)(hok:∀i n H,i<=kvs.length->d i n H->H ad=some (.af o (.dT kvs)))
  (hs:∀i Z H T c,(h:i<kvs.length)->d i Z H->H T=none->cf H c (kvs[i].1.map kV)->j {D with nx:=d (i+1),ct:=d (i+1),bk:=D.nx} ((Z.set a (some (.ref c))).set b (some kvs[i].2)) (upd H T (.tup [.ref c,kvs[i].2]))) (q:∀Z H,d kvs.length Z H->D.nx Z H):
  ∃W:Nat->Nat->St->Hp->Prop,(∃m,W 0 m Z H)/\∀i m Z H,W i m Z H->
   ((FL ad o kvs).stop i H/\D.nx Z H)\/((FL ad o kvs).go i H/\∃N:St->Hp->Prop,(∀f U,N f U->∃k,k<m/\W (i+1) k f U)/\∀x U,(FL ad o kvs).pe i H x U->g2 K a b x Z U λg H2=>j {D with nx:=N,ct:=N,bk:=D.nx} g H2):=by
 refine⟨λi m Z H=>m=kvs.length-i/\i<=kvs.length/\d i Z H,⟨kvs.length,by simp,Qaj _,h0⟩,?_⟩;rintro i m Z H ⟨rfl,r,p⟩;have l:=hok i Z H r p;by_cases be:i<kvs.length
 ·refine .inr ⟨⟨l,be⟩,d (i+1),λf U s=>⟨kvs.length-(i+1),by lia,rfl,be,s⟩,λx U y=>?_⟩;obtain⟨c,kv,Hz,rd,T,rfl,hT,rfl⟩:=y;have e:kv=kvs[i]:=by rw[Qa be]at Hz;exact(QE Hz).symm
  subst e;exact eI aA (hs i Z _ T c be p hT rd)
 ·have e:i=kvs.length:=by lia
  subst e;exact .inl ⟨⟨l,rfl⟩,q Z H p⟩
theorem kH{rows:List aj}{e:Str}(h:endOf rows e=e):ky rows (ai rows e)=jm rows e:=by
 unfold ky jm ak;rw[h,Qn];rfl
theorem Paired.at{c:Type}{R:α->c->Prop}{xs:List α}{ys:List c}(h:Paired R xs ys):∀i(b:i<xs.length)(d:i<ys.length),R xs[i] ys[i]:=by
 induction h with
 |nil=>intro i b;exact absurd b (by simp)
 |cons a _ ih=>
  intro i b d;cases i with
  |zero=>exact a
  |succ i=>exact ih i (by simpa using b) (by simpa using d)
theorem dc.same{H U:Hp}{a:Addr}{y:V}{r:Qbz}(g:dc H a y r)(s:ae H U):dc U a y r:=by
 rcases g with⟨c,k,d,e,f⟩|⟨c,k,b,d,e,f,h⟩
 ·exact .inl ⟨c,k,d.same s,e,f⟩
 ·exact .inr ⟨c,k,b,d.same s,e,f.same s,h⟩
section
variable{d:Addr}{od:Obj}{es:Array DictEntry}{Q:Qbr->Shared->Prop}
theorem pH{c:DictEntry}(a:s.heap.IsValIter it d i n ep)(f:s.heap.get? d=some od)(g:od.data=.dict es ep)(k:es.size=n)(l:es[i]? =some c)
  (m:∀M,M.IsValIter it d (i+1) n ep->Heap.SameBut it s.heap M->Q (some c.val) {s with heap:=M}):wpAny (model P w) A (pyNext (.ref it)) Q E s:=by
 obtain⟨o,ho,hc,hd⟩:=id a;have e:Builtin.Dict_items.ownsTuple "dict_valueiterator"=false:=by decide
 have p:¬(Value.ref d==Value.none)=true:=λq=>yH q;unfold pyNext;refine QT (wpAny_attempt (wpAny_callSpecial?_slot (name:=Str.ofString "__next__") a.typeIs F.slot_dict_valueiterator_next (wpAny_call_entry F.slot_dict_valueiterator_next a.typeIs F.entry_dict_valueiterator_next ?_ (F.args_dict_valueiterator_next_1 _))));refine QT (QU (QT (QT ?_)))
 first
  |refine QT (wpAny_typeNameOfWhole_valiter a.typeIs (QU (QT (wpAny_fieldsOf ho hd ?_))))
  |refine QT (wpAny_typeNameOf_valiter a.typeIs (QU (QT (wpAny_fieldsOf ho hd ?_))))
 simp only[e,Qak,if_false];show wpAny _ _ (if(Value.ref d==Value.none)=true then _ else _) _ _ s;rw[if_neg p];refine QT (QU (QT (wpAny_dictEntries f g ?_)));rw[if_neg (by rw[k];simp)];refine QT (QU (QT (wpAny_dictEpoch f g ?_)));rw[if_neg (by simp)];refine QU ?_;simp only[show ¬((i:Int)<0)by lia,if_false,QaO,l];refine QT ?_
 first
  |refine QT (wpAny_typeNameOfWhole_valiter a.typeIs (QU (QT (wpAny_isOneOf_valiter a.typeIs ?_))))
  |refine QT (wpAny_typeNameOf_valiter a.typeIs (QU (QT (wpAny_isOneOf_valiter a.typeIs ?_))))
 show wpAny _ _ (setField (.ref it) 1 (rawInt ((i:Int)+1)) >>=_) _ _ s;refine QT (wpAny_setField ho hd (by simp) ?_);have b:(s.heap.update it (Obj.mapFields (·.setIfInBounds 1 (rawInt ((i:Int)+1))))).IsValIter it d (i+1) n ep:=⟨_,QaC _ ho (Obj.isFreed_of_fields (Obj.data_mapFields hd _)),(Obj.cls_mapFields ..).trans hc,by rw[Obj.data_mapFields hd];simp[rawInt]⟩
 have h:Heap.SameBut it s.heap (s.heap.update it (Obj.mapFields (·.setIfInBounds 1 (rawInt ((i:Int)+1))))):=Qat ..;generalize s.heap.update it (Obj.mapFields (·.setIfInBounds 1 (rawInt ((i:Int)+1))))=j at b h;refine QT (wpAny_holding (QT (wpAny_isOneOf_valiter (s:={s with heap:=j}) b.typeIs (QT (wpAny_isOneOf_valiter (s:={s with heap:=j}) b.typeIs ?_)))));show wpAny _ _ (pure c.val) _ _ _;exact QU (QU ⟨_,rfl,QU (m _ b h)⟩)
theorem sG(h:A.handled=none)(c:s.heap.IsValIter it d i n ep)(f:s.heap.get? d=some od)(g:od.data=.dict es ep)(j:es.size=n)(r:n<=i)
  (k:∀M,Heap.ExtBut it s.heap M->Q none {s with heap:=M}):wpAny (model P w) A (pyNext (.ref it)) Q E s:=by
 obtain⟨o,ho,hc,hd⟩:=id c;have e:Builtin.Dict_items.ownsTuple "dict_valueiterator"=false:=by decide
 have l:¬(Value.ref d==Value.none)=true:=λp=>yH p;have q:es.size<=i:=by lia
 unfold pyNext;refine QT (wpAny_attempt (wpAny_callSpecial?_slot (name:=Str.ofString "__next__") c.typeIs F.slot_dict_valueiterator_next (wpAny_call_entry F.slot_dict_valueiterator_next c.typeIs F.entry_dict_valueiterator_next ?_ (F.args_dict_valueiterator_next_1 _))));refine QT (QU (QT (QT ?_)))
 first
  |refine QT (wpAny_typeNameOfWhole_valiter c.typeIs (QU (QT (wpAny_fieldsOf ho hd ?_))))
  |refine QT (wpAny_typeNameOf_valiter c.typeIs (QU (QT (wpAny_fieldsOf ho hd ?_))))
 simp only[e,Qak,if_false];show wpAny _ _ (if(Value.ref d==Value.none)=true then _ else _) _ _ s;rw[if_neg l];refine QT (QU (QT (wpAny_dictEntries f g ?_)));rw[if_neg (by rw[j];simp)];refine QT (QU (QT (wpAny_dictEpoch f g ?_)));rw[if_neg (by simp)];refine QU ?_;simp only[show ¬((i:Int)<0)by lia,if_false,QaO,Array.getElem?_eq_none q];refine QT ?_
 first
  |refine QT (wpAny_typeNameOfWhole_valiter c.typeIs (QU ?_))
  |refine QT (wpAny_typeNameOf_valiter c.typeIs (QU ?_))
 show wpAny _ _ (setField (.ref it) 0 .none >>=_) _ _ s;refine QT (wpAny_setField ho hd (by simp) ?_);show wpAny _ _ (newExc (.type "StopIteration") [] >>=_) _ _ _;refine QT ?_;simp only[newExc,newTuple];refine QT (wpAny_newObj_type (QT (m:=firstArgMember _ _) (wpAny_of_eq (a:=Value.none) (by first|rfl|(simp only[firstArgMember];rfl)) (wpAny_newObj_type ?_ (by size_fits)))) (by size_fits));simp only[raiseNew];refine QT (wpAny_handled ?_);rw[show A.in1.handled=none from h];refine QT (QU (wpAny_throw ?_));refine QT (wpAny_isInstance (T:="StopIteration") (b:=true) ⟨_,Qd _ rfl,rfl⟩ isSubtype_stop ?_);exact QU (k _ (((Qat ..).extBut.push _).push _))
end
def BK(kvs:Qbu)(i:Nat):V:=((kvs[i]?).map λa=>a.2).getD .aq
def Km(a:Addr)(o:Obj)(kvs:Qbu):It:=⟨λi H=>H a=some (.af o (.dT kvs))/\i<kvs.length,λi H x U=>U=H/\x=BK kvs i,λi H=>H a=some (.af o (.dT kvs))/\kvs.length=i⟩
theorem oY(kvs:Qbu):Ai (Km a o kvs) (λH=>H a=some (.af o (.dT kvs))) kvs.length (BK kvs):=λH b=>⟨λi c=>⟨⟨b,c⟩,λx d h=>h⟩,b,rfl⟩
theorem vK{K:Q0}{kvs:Qbu}(C:∃es,o.data=.dict es ep):Turn P w K tg (Km a o kvs) [it] it (λi h=>h.IsValIter it a i kvs.length ep)where
 mem:=by simp
 obj:=λi h st b g=>by
  have e:b=it:=by simpa using g
  subst e;obtain⟨o,e,c,d⟩:=st;exact⟨o,e,λv z=>by rw[d]at z;cases z⟩
 keep:=λi h m st k=>let ⟨o,e,r⟩:=st;⟨o,k it (by simp) o e,r⟩
 item:=by
  intro X t u x D i f s G H E I p st y;subst t u x;obtain⟨hq,hi⟩:=y;obtain⟨e,z,hd,xs,rel,ob,es,nu,O,Y,h3,h4,h5⟩:=(show bx X.prog X.w H s.heap a (.af o (.dT kvs))from I.hok a _ hq)
  obtain⟨es',fh⟩:=C;rw[e]at O;cases O;rw[fh]at h3;injection h3 with ii ik
  subst ii ik;obtain⟨q,mi,oq,CQ⟩:=N4 rel (Qa hi);have A:=Paired.length rel;have j:es'.size=kvs.length:=by rw[<- Qai,h4,Ql];exact A.symm
  have L:es'[i]? =some (entryOfKey (tupleKind (c_ X.prog X.w)) q):=by rw[<- QaJ,h4,Qq,mi];rfl
  obtain⟨f0,f1,f2,f3,f4,f5⟩:=p it (by simp);refine pH (n:=kvs.length) st e fh j L λm l N=>?_;have Q:Inv X f G H {s with heap:=m}:=I.turned (t':=s.toks) (λb o g e=>(N.2 b g).trans e) f0 f1 f3 f4 f5;obtain⟨o3,e3,c3,d3⟩:=id l;refine⟨_,rfl,kR (s:={s with heap:=m}) e3 c3 d3 (by decide) ⟨BK kvs i,H,Q,?_,⟨rfl,rfl⟩,l,λb g=>(p b g).1⟩⟩;unfold BK;rw[Qa hi];exact CQ
 done:=by
  intro X t u x D i f s G H E I p st y;subst t u x;obtain⟨hq,hi⟩:=y;obtain⟨e,z,hd,xs,rel,ob,es,nu,O,Y,h3,h4,h5⟩:=(show bx X.prog X.w H s.heap a (.af o (.dT kvs))from I.hok a _ hq)
  obtain⟨es',fh⟩:=C;rw[e]at O;cases O;rw[fh]at h3;injection h3 with ii ik
  subst ii ik;have A:=Paired.length rel;have j:es'.size=kvs.length:=by rw[<- Qai,h4,Ql];exact A.symm
  obtain⟨f0,f1,f2,f3,f4,f5⟩:=p it (by simp);exact sG (n:=kvs.length) (I.ok.hd D) st e fh j (by lia) λm R=>⟨rfl,I.turned (t':=s.toks) (λb o g e=>R b o g e) f0 f1 f3 f4 f5⟩
 self:=λ_ _ _ _ _ st h=>wpAny_pyIter_valiter st h
section
variable{o:Expr}
theorem gR{v d:Addr}{b:Obj}{es:Array DictEntry}(hv:s.heap.IsValuesView v d)(c:s.heap.get? d=some b)(e:b.data=.dict es ep)
  (f:Q (.ref s.heap.objs.size) {s with heap:=s.heap.push {cls:=.type "dict_valueiterator",data:=.fields #[.ref d,.int 0 0,.int es.size 0,.int ep 0]}}):wpAny (model P w) A (pyIter (.ref v)) Q E s:=by
 obtain⟨ov,Kg,X9,Kh⟩:=id hv;have a:Builtin.Dict_items.ownsTuple "dict_valueiterator"=false:=by decide
 refine wpAny_pyIter_slot hv.typeIs F.slot_dict_values_iter (wpAny_call_entry F.slot_dict_values_iter hv.typeIs F.entry_dict_values_iter ?_ (F.args_dict_values_iter_1 _));unfold Builtin.«dict_values.__iter__»;refine QT (QU (QT ?_));unfold Builtin.Dict_items.dictOf;refine QT (wpAny_field Kg Kh (x:=.ref d) rfl (QU (QT ?_)));unfold Builtin.Dict_items.newIterator;refine QT (wpAny_dictEntries c e (QT (wpAny_dictEpoch c e ?_)));simp only[a,Qak,if_false];refine wpAny_newObj_type (QU ⟨_,rfl,"dict_valueiterator",_,⟨_,Qd _ rfl,rfl⟩,F.slot_dict_valueiterator_next.lookup,?_⟩);simpa[rawInt]using f
theorem i9(d:Addr)(a:(d==sysModules)=false):
  MeetsIn P w (Builtin.«dict.values» ⟨[.ref d],[]⟩) (λ_ R s=>s.TypeIs (.ref d) "dict"/\R (.ok (.ret (.ref s.heap.objs.size))) {s with heap:=s.heap.push {cls:=.type "dict_values",data:=.fields #[.ref d]}}):=
 .of_wp λA R s ⟨b,h⟩=>by
  refine QT ?_;unfold Builtin.Dict.noArgs;refine QT (wpAny_notOrdered_dict b ?_);show wpAny _ _ (pure d) _ _ s;refine QU ?_;show wpAny _ _ (Builtin.Dict.showsAll d >>=_) _ _ s;unfold Builtin.Dict.showsAll;rw[if_neg (λc=>yH (a.symm.trans c))];exact QT (QU (QT (wpAny_newObj_type (QU ⟨_,rfl,h⟩))))
def Ye(b:TE):TI:=λZ H R=>b Z H λx H1=>∃a kvs o,x=.ref a/\H1 a=some (.af o (.dT kvs))/\R (Km a o kvs) H1
theorem tF(m:SE X o to)(n:attributeBase o "values" X.env (eval o X.env)=eval o X.env:=by rfl)(p:(apos.endLine==cpos.line)=true:=by rfl):
  SI X tg (.Call (.Attribute o "values" apos) [] [] cpos) (Ye to):=by
 constructor;intro c s k H R I h;refine wpAny_Call_method0_late n p (av (m.h c s k H _ I h) ?_);rintro v d ⟨x,r,l,t,a,kvs,o,u,y,q⟩;subst u;cases t;obtain⟨e,z,we,xs,rel,ob,es,ep,O,Y,hd,h4,h5⟩:=(show bx X.prog X.w _ d.heap a (.af o (.dT kvs))from l.hok a _ y)
 rw[e]at O;cases O;have A:=Paired.length rel;have f:es.size=kvs.length:=by rw[<- Qai,h4,Ql];exact A.symm
 have g:d.TypeIs (.ref a) "dict":=⟨o,e,Y.1⟩
 refine⟨"dict","dict.values",Qav,QaN,PySem.F.type_dict_values,g,λb i=>by cases i;exact⟨o,e,Y.2.1⟩,Calls.callWith_builtin rfl (QaW ?_)⟩;refine call_meetsIn QaN g PySem.F.entry_dict_values (PySem.F.args_dict_values_1 _) (i9 a we) ⟨g,?_⟩;have j:Inv X c k r {d with heap:=d.heap.push {cls:=.type "dict_values",data:=.fields #[.ref a]}}:=l.kept (t':=d.toks) λb o e=>Qc _ e;refine gR (es:=es) (ep:=ep) ⟨_,Qd _ rfl,rfl,rfl⟩ (Qc _ e) hd ?_;refine⟨_,[(d.heap.push {cls:=.type "dict_values",data:=.fields #[.ref a]}).objs.size],_,_,_,rfl,j.kept (t':=d.toks) λb o e=>Qc _ e,vK (kvs:=kvs) (a:=a) (o:=o) ⟨es,hd⟩,by rw[<- f];exact⟨_,Qd _ rfl,rfl,rfl⟩,λb i=>?_,q⟩;have e:b=(d.heap.push {cls:=.type "dict_values",data:=.fields #[.ref a]}).objs.size:=by simpa using i
 subst e;exact j.sy (Qz _) (j.hok.fresh (Qz _))
end
abbrev Road:=List Qbo
def N5(rows:List aj):Nat->Str->List (Road×Str)
 |0,e=>[([],e)]
 |n+1,e=>(ak rows e).flatMap λm=>(N5 rows n m.2).map λq=>(m.1::q.1,q.2)
def allR(rows:List aj)(n:Nat)(e:Str):List Road:=(N5 rows n e).map (·.1)
section
variable{xs:Qby}{rows:List aj}
theorem RT.Yg(rt:RT H a xs rows ns ws)(d:∀z∈ws,Wd z){e:Str}(f:gj rows ns e){m:Qbo×Str}(hm:m∈ak rows e):L2.fq rows e m.1=some m.2/\gj rows ns m.2:=by
 have c:=rt.wj d f.1;have g:L2.fq rows e m.1=some m.2:=by
  unfold L2.fq;have i:(jm rows e).map (·.1)=((ak rows e).map (·.1)).map λm=>m.map (Sum.inr:Str->Key):=by simp[jm,Qn,QC]
  rw[i]at c;have b:((ak rows e).map (·.1)).Nodup:=(wW.mp c).imp λh z=>h (congrArg _ z);clear i c
  revert hm b
  generalize ak rows e=L;intro hm b
  induction L with
  |nil=>cases hm
  |cons x l ih=>
   rw[xA,jK]at b;rcases Qp.mp hm with rfl|hm
   ·simp[Qax]
   ·have j:¬x.1=m.1:=λz=>b.1 (by rw[z];exact Yy.mpr ⟨m,hm,rfl⟩);rw[Qax,Qx j];exact ih hm b.2
 exact⟨g,rt.fq d f g⟩
end
theorem xR{a:Type}(f:α->List a)(l:List α)(i:Nat)(h:i<l.length):(l.take (i+1)).flatMap f=(l.take i).flatMap f++f l[i]:=by
 rw[Qs,Qa h,Option.toList_some,List.flatMap_append];simp only[List.flatMap_cons,List.flatMap_nil,QR]
section
variable{pos:Pos}
theorem Yh{a:Operator}{b:EW}(c:X.N.Nodup)(hi:X.N[i]? =some x)(d:Loc X.env.scope x)(f:SE X e te)(g:Jb X a b)(j:QbD X x:=by first|exact .inl rfl|exact .inr rfl|assumption):
  SS X (.AugAssign (.Name x pos') a e pos) (MN i te b):=⟨S_ c hi d f.h g j⟩
theorem Yi(K:Q0){o:Expr}{id:String}{r:V->Qby->Hp->VK->Prop}(a:PlainAttrs T)(slot:Slot T name id)(b:typeOf (.builtin id)=pure (.type "method_descriptor"))(c:Cv X id r)(d:SE X o to)(h:X.K=K:=by rfl)
  (e:attributeBase o name X.env (eval o X.env)=eval o X.env:=by rfl) (f:(apos.endLine==cpos.line)=true:=by rfl):SE X (.Call (.Attribute o name apos) [] [] cpos) (M4 K T r to):=by
 subst h;exact⟨UW a slot b c d.h e f⟩
def Yj(K:Q0)(a:TE):TT:=λZ H Q=>a Z H λx U=>∃k,Jh K x U k/\Q k U
theorem Yk(K:Q0){a:Expr}(c:SE X a ta)(h:X.K=K:=by rfl)(d:∀b,isTrue a X.env b=(do let v <- b;standAt a.pos;holding [v] (truthy v)):=by intro _;rfl):ST X a (Yj K ta):=by
 subst h;exact⟨Ua c.h d⟩
theorem iG{c d:Type}{R:c->d->Prop}:∀{l:List c}{m:List d},l.length=m.length->(∀i(h:i<l.length)(M:i<m.length),R l[i] m[i])->Paired R l m
 | [],[],_,_=>.nil
 |a::l,b::m,hl,h=>.cons (h 0 (by simp) (by simp)) (iG (by simpa using hl) λi e f=>by
   have:=h (i+1) (by simpa using e) (by simpa using f);simpa using this)
 | [],_::_,hl,_=>absurd hl (by simp)
 |_::_,[],hl,_=>absurd hl (by simp)
def Yl:Qby->Hp->VK->Prop:=λxs H Q=>∃a kvs,xs=[.ref a]/\Rd H a (.dK kvs)/\∀l,H l=none->Q (.ref l) (upd H l (.lst (kvs.map λb=>kV b.1)))
theorem xD(l:X.calm=true):ux X (.type "list") Yl:=by
 intro f s K H xs L Q I r h;obtain⟨a,kvs,rfl,hq,q⟩:=h;obtain⟨u,rfl,rx⟩:=vals1 r;cases rx;obtain⟨z,hd,vs,rel,dd⟩:=kQ I.hok hq;obtain⟨ep,yc⟩:=dd.dictAt;have N:=rel.length;refine PySem.W.kdl_call (PySem.W.kdl_dict (knd:=c_ X.prog X.w) (kvs:=vs) (ep:=ep) hd) (I.ok.hd l) yc (by lia) λm n b o c A C=>?_;have D:bg (kvs.map λd=>kV d.1) b.toList:=by
  obtain⟨n1,n2⟩:=C;have E:(kvs.map λd=>kV d.1).length=b.toList.length:=by
   have:=Qai (xs:=b);rw[Ql];lia
  refine iG E λi g G=>?_;obtain⟨k,x,hx,c⟩:=n2 i b.toList[i] (by rw[<- QaJ,Qa G]);rw[Ql]at g;obtain⟨q,s_,he,_⟩:=qG rel (i:=i) (p:=kvs[i]) (Qa g);rw[hx]at s_;cases s_;rw[Qr,<- he];rcases bG c with⟨j,t,rfl,e⟩|⟨y,t,rfl,e⟩|⟨rfl,e⟩<;>(rw[e];first|exact rfl|exact⟨t,rfl⟩)
 refine⟨.ref s.heap.objs.size,_,I.laid (t':=n) c (Qz _) (show bx X.prog X.w _ m _ (.lst _)from⟨by rw[Ql];exact z,b.toList,o,D,by simpa using A⟩),rfl,q _ (I.hok.fresh (Qz _))⟩
end
abbrev mq:=List (Str×Option (Str×Qbo))
def vf(b:Str)(a:mq)(c:List (Qbo×Str)):mq:=c.foldl (λa m=>if m.2∈a.map (·.1)then a else a++[(m.2,some (b,m.1))]) a
def iy(rows:List aj)(f:Str):Nat->mq
 |0=>[(f,none)]
 |i+1=>match(iy rows f i)[i]? with
  |none=>iy rows f i
  |some c=>vf c.1 (iy rows f i) (ak rows c.1)
theorem iJ(a:Str)(b:mq)(c:List (Qbo×Str))(m:Qbo×Str):vf a b (c++[m])=if m.2∈(vf a b c).map (·.1)then vf a b c else vf a b c++[(m.2,some (a,m.1))]:=by
 unfold vf;rw[Qa2];rfl
structure BI(rows:List aj)(ns:Qbo)(i:Nat)(cb:mq):Prop where
 nd:(cb.map (·.1)).Nodup
 en:∀c∈cb,gj rows ns c.1
 cl:∀j c,j<i->cb[j]? =some c->∀m∈ak rows c.1,m.2∈cb.map (·.1)
theorem BI.snoc{rows:List aj}{d:mq}(h:BI rows ns i d)(hi:i<=d.length){e:Str}{x:Option (Str×Qbo)}(g:gj rows ns e)(k:e∉d.map (·.1)):BI rows ns i (d++[(e,x)]):=by
 refine⟨?_,λc hc=>?_,λj c l hc m n=>?_⟩
 ·rw[Qm,QaH];refine⟨h.nd,by simp,λa o b f=>?_⟩;rw[xA,List.map_nil,qI]at f;subst f;exact λz=>k (z▸o)
 ·rcases W3.mp hc with hc|hc
  ·exact h.en c hc
  ·rw[qI.mp hc];exact g
 ·rw[Qg (by lia)]at hc;rw[Qm];exact W3.mpr (.inl (h.cl j c l hc m n))
theorem cZ:∀{l m:Qbo},l.Nodup->(∀x∈l,x∈m)->l.length<=m.length
 | [],m,_,_=>Qaj _
 |a::l,m,nd,h=>by
  have b:=h a xX;have d:=cZ (l:=l) (m:=m.erase a) (jK.mp nd).2 λx c=>(List.mem_erase_of_ne (show x≠a from λz=>(jK.mp nd).1 (by rw[<- z];exact c))).mpr (h x (Qh _ c));rw[List.length_erase_of_mem b]at d;have e:=List.length_pos_of_mem b;rw[Qaf]
  lia
theorem BI.few{rows:List aj}{a:mq}(h:BI rows ns i a):a.length<=ns.length:=by
 have:=cZ (m:=ns) h.nd λx b=>by
  obtain⟨c,hc,rfl⟩:=Yy.mp b;exact(h.en c hc).1
 simpa using this
def Ec(H:Hp)(v:V):Option (Str×Qbo)->Prop
 |none=>v=.aq
 |some q=>∃t b,v=.ref t/\H t=some (.tup [.str q.1,.ref b])/\cf H b (q.2.map V.str)
theorem Ec.keep{v:V}{o:Option (Str×Qbo)}(h:Ec H v o)(s:Tk H U)(a:∀b ys,cf H b ys->cf U b ys):Ec U v o:=by
 cases o with
 |none=>exact h
 |some q=>
  obtain⟨t,b,O,Y,h3⟩:=h;exact⟨t,b,O,s _ _ Y,a _ _ h3⟩
def ko(H:Hp)(kvs:Qbv)(b:mq):Prop:=Paired (fun(a:Key×V)(c:Str×Option (Str×Qbo))=>a.1=.inr c.1/\Ec H a.2 c.2) kvs b
theorem ko.keep{H U:Hp}{kvs:Qbv}{c:mq}(h:ko H kvs c)(s:Tk H U)(d:∀b ys,cf H b ys->cf U b ys):ko U kvs c:=by
 unfold ko at*
 induction h with
 |nil=>exact .nil
 |cons a _ ih=>exact .cons ⟨a.1,a.2.keep s d⟩ ih
theorem ko.same{H U:Hp}{kvs:Qbv}{a:mq}(h:ko H kvs a)(s:ae H U):ko U kvs a:=h.keep s.ts λ_ _ r=>r.same s
theorem ko.snoc{kvs:Qbv}{b:mq}(h:ko H kvs b){e:Str}{v:V}{o:Option (Str×Qbo)}(q:Ec H v o):ko H (kvs++[(.inr e,v)]) (b++[(e,o)]):=by
 unfold ko at*
 induction h with
 |nil=>exact .cons ⟨rfl,q⟩ .nil
 |cons a _ ih=>exact .cons a ih
theorem ko.keys{kvs:Qbv}{b:mq}(h:ko H kvs b):kvs.map (·.1)=b.map λc=>(.inr c.1:Key):=by
 unfold ko at*
 induction h with
 |nil=>rfl
 |cons a _ ih=>rw[xA,xA,a.1,ih]
theorem ko.Ko{kvs:Qbv}{a:mq}(h:ko H kvs a)(e:Str):(a_ kvs (.inr e)).isSome=decide (e∈a.map (·.1)):=by
 have b:=h.keys;rw[Qbb,<- cS,Qa6,decide_eq_true_iff];constructor
 ·rintro⟨kv,O,Y⟩;have:kv.1∈kvs.map (·.1):=Yy.mpr ⟨kv,O,rfl⟩;rw[b,Qt Y]at this;obtain⟨c,hc,e'⟩:=Yy.mp this;exact Yy.mpr ⟨c,hc,Qas e'⟩
 ·intro d;obtain⟨c,hc,rfl⟩:=Yy.mp d;have:(.inr c.1:Key)∈kvs.map (·.1):=by rw[b];exact Yy.mpr ⟨c,hc,rfl⟩
  obtain⟨kv,O,Y⟩:=Yy.mp this;exact⟨kv,O,Qw Y⟩
section
variable{kx vx:Expr}{pos:Pos}{tk tw:TE}
theorem Yo{y:Str}{k c:Pos}(S:pq X.env.scope X.N F own idx N')(P:X.calm=true)(hi:SI X tg iter wi)
  (R:∀d C f H0 fp j,SG (cy X N' F d C f H0 fp j) tg g) (T:∀d C f H0 fp j,SC (cy X N' F d C f H0 fp j) ifs tc) (V:∀d C f H0 fp j,SE (cy X N' F d C f H0 fp j) kx tk) (hv:∀d C f H0 fp j,SE (cy X N' F d C f H0 fp j) vx tw)
  (hN:X.N.Nodup) (Fj:X.N[i]? =some y) (E:X.env.scope.names.lookup y=some .local)
  (Fk:swapsWith (.DictComp kx vx [⟨tg,iter,ifs,0⟩] F pos) (some (.Name y k)) c.line X.env=pure true:=by rfl)
  (hs:∀x,foldedSetIterable iter X.env x=pure x:=by intro _;rfl):SS X (.Assign [.Name y k] (.DictComp kx vx [⟨tg,iter,ifs,0⟩] F pos) c) (Ac (JJ own idx wi g tc tk tw) (n_ i)):=by
 constructor;intro B s Z H D I h;obtain⟨d,AN,c1,c2⟩:=S.closure I.ok;rw[exec_Assign_Name_used _ _ _ _ Fk];refine QT (wpAny_standAt (QT ?_));show wpAny _ X.A (do let _ <- comprehension (.DictComp kx vx [⟨tg,iter,ifs,0⟩] F pos) F X.env _ newDict false (eval iter X.env) (some (assign (.Name y k) X.env))) _ _ s;refine QT (wpAny_mono (wpAny_comprehension_free (use:=some (assign (.Name y k) X.env)) (Q:=λ_ l=>SP X B D .next l) rfl hs AN S.kind S.names
  (av (hi.h B s Z H _ I h) λv s1 O=>av O λqw s2 Y=>?_)) (λ_ l hq=>QU (QU hq)) λ_ _ e=>e)
 refine kW (Q:=λx H1=>n_ i x Z H1 D.nx) (B:=B) (Z:=Z) (RR:=λn C=>compPost (model X.prog X.w) X.A X.xe (some (assign (.Name y k) X.env)) (λ_ l=>SP X B D .next l) n C) S c1 c2 P (λq r s t u v=>(R q r s t u v).h) (λq r s t u v=>(T q r s t u v).h) (λq r s t u v=>(V q r s t u v).h) (λq r s t u v=>(hv q r s t u v).h) Y ?_;intro G C U l I' q ⟨a1,K,a3,L,a5,m,a6⟩;show wpAny _ X.A (assign (.Name y k) X.env (.ref G)) _ _ _;refine wpAny_assign_Name (kG (v:=.ref G) I' hN Fj (.inl E) rfl ?_ (.inr E));rintro p Jz ⟨a,sb,ha⟩;have JA:C≠a:=by
  rcases ha with z|z
  ·rw[z];exact K
  ·exact Ne.symm (L _ _ z)
 refine⟨m,a6.sameBut sb JA,λM DP=>⟨_,U,Jz.turned (t':=p.toks) (λb o hb e=>(DP.2 b hb).trans e) a1 K (.inr a3) L a5,q⟩⟩
end
structure SL(H:Hp)(us:Qby)(ss:List (Qbo×Str)):Prop where
 len:us.length=ss.length
 at_:∀i(h:i<us.length)(M:i<ss.length),∃c b,us[i]=.ref c/\H c=some (.tup [.ref b,.str ss[i].2])/\cf H b (ss[i].1.map V.str)
theorem SL.nil:SL H [] []:=⟨rfl,λi h=>absurd h (by simp)⟩
theorem SL.keep{us:Qby}{e:List (Qbo×Str)}(h:SL H us e)(s:Tk H U)(f:∀b ys,cf H b ys->cf U b ys):SL U us e:=⟨h.len,λi a b=>by
 obtain⟨c,d,O,Y,h3⟩:=h.at_ i a b
 exact⟨c,d,O,s _ _ Y,f _ _ h3⟩⟩
theorem SL.snoc{us:Qby}{a:List (Qbo×Str)}(h:SL H us a)(e:H c=some (.tup [.ref b,.str q.2]))(f:cf H b (q.1.map V.str)):SL H (us++[.ref c]) (a++[q]):=by
 have d:=h.len;refine⟨by simp[d],λi g k=>?_⟩;by_cases be:i<us.length
 ·rw[Qe be,Qe (by lia)];exact h.at_ i be (by lia)
 ·have j:i=us.length:=by simp at g;lia
  subst j;rw[Qf (Qz _),Qf (by lia)];simp only[Qar,d,uI];exact⟨c,b,rfl,e,f⟩
structure jh(H0 H:Hp)(kvs:Qbv)(R:Qbo)(f:Str->List (Qbo×Str)):Prop where
 len:kvs.length=R.length
 at_:∀i(h:i<kvs.length)(M:i<R.length),kvs[i].1=.inr R[i]/\∃l us,kvs[i].2=.ref l/\H0 l=none/\H l=some (.lst us)/\SL H us (f R[i])
 inj:∀i j(hi:i<kvs.length)(hj:j<kvs.length),kvs[i].2=kvs[j].2->i=j
theorem jh.keys{kvs:Qbv}{R:Qbo}(h:jh H0 H kvs R f):kvs.map (·.1)=R.map (Sum.inr:Str->Key):=by
 have c:=h.len;refine Qam (by simp[c]) λi a b=>?_;rw[Ql]at a b;rw[Qr,Qr];exact(h.at_ i a b).1
theorem jh.same{c H U:Hp}{kvs:Qbv}{R:Qbo}{f:Str->List (Qbo×Str)}(h:jh c H kvs R f)(s:ae H U):jh c U kvs R f:=⟨h.len,λi a b=>by
 obtain⟨O,l,us,Y,h3,h4,h5⟩:=h.at_ i a b
 exact⟨O,l,us,Y,h3,s _ _ h4,h5.keep s.ts λ_ _ r=>r.same s⟩,h.inj⟩
theorem jh.off{kvs:Qbv}{R:Qbo}(h:jh H0 H kvs R f){D:Addr}{o u:HO}(c:H D=some o)(d:∀xs,o≠.tup xs)(e:∀q xs,o≠.af q (.tup xs))(g:∀xs,o≠.lst xs):jh H0 (upd H D u) kvs R f:=⟨h.len,λi a b=>by
 obtain⟨O,l,us,Y,h3,h4,h5⟩:=h.at_ i a b
 refine⟨O,l,us,Y,h3,?_,h5.keep ((Tk.refl).set c d) λj k r=>r.put c d e⟩;rw[aB λz=>?_]
 ·exact h4
 ·rw[z,c]at h4;exact g us (QE h4),h.inj⟩
theorem jh.put{kvs:Qbv}{R:Qbo}(h:jh H0 H kvs R f){e:Str}(d:H0 l=none)(g:H l=some (.lst []))(b:∀i(hi:i<kvs.length),kvs[i].2≠.ref l)(k:f e=[]):jh H0 H (kvs++[(.inr e,.ref l)]) (R++[e]) f:=by
 have c:=h.len;refine⟨by simp[c],λi m r=>?_,λi j hi n a=>?_⟩
 ·by_cases be:i<kvs.length
  ·rw[Qe be,Qe (by lia)];exact h.at_ i be (by lia)
  ·have o:i=kvs.length:=by simp at m;lia
   subst o;rw[Qf (Qz _),Qf (by lia)];simp only[Qar,c,uI];exact⟨trivial,l,[],rfl,d,g,by rw[k];exact SL.nil⟩
 ·simp only[Qk,Qaf,List.length_nil]at hi n;by_cases be:i<kvs.length<;>by_cases yd:j<kvs.length
  ·rw[Qe be,Qe yd]at a;exact h.inj i j be yd a
  ·have p:j=kvs.length:=by lia
   subst p;rw[Qe be,Qf (Qz _)]at a;simp only[Qar,uI]at a;exact absurd a (b i be)
  ·have q:i=kvs.length:=by lia
   subst q;rw[Qe yd,Qf (Qz _)]at a;simp only[Qar,uI]at a;exact absurd a.symm (b j yd)
  ·lia
theorem jh.push{kvs:Qbv}{R:Qbo}{a:Str->List (Qbo×Str)}(h:jh H0 H kvs R f)(p:R.Nodup){k:Nat}(r:k<kvs.length)(A:k<R.length){us:Qby}(hv:kvs[k].2=.ref l)(d:H l=some (.lst us))(s:H c=some (.tup [.ref b,.str q.2]))(t:cf H b (q.1.map V.str))
  (u:a R[k]=f R[k]++[q]) (w:∀e,e≠R[k]->a e=f e):jh H0 (upd H l (.lst (us++[.ref c]))) kvs R a:=by
 have g:Tk H (upd H l (.lst (us++[.ref c]))):=(Tk.refl).set d λ_ z=>nomatch z;have j:∀m n,cf H m n->cf (upd H l (.lst (us++[.ref c]))) m n:=λm n h=>h.put d (λ_ z=>nomatch z) (λ_ _ z=>nomatch z);refine⟨h.len,λi o x=>?_,h.inj⟩;obtain⟨g1,l',d_,g2,g3,g4,g5⟩:=h.at_ i o x
 by_cases qd:i=k
 ·subst qd;rw[hv]at g2;cases g2;rw[d]at g4;cases g4;exact⟨g1,l,us++[.ref c],hv,g3,aA,by rw[u];exact(g5.keep g j).snoc (g _ _ s) (j _ _ t)⟩
 ·have y:l'≠l:=λz=>qd (h.inj i k o r (by rw[g2,hv,z]));refine⟨g1,l',d_,g2,g3,by rw[aB y];exact g4,?_⟩;rw[w _ λz=>qd ((QaL p).mp z)];exact g5.keep g j
def zm(rows:List aj)(r e:Str)(a:List (Qbo×Str)):List (Qbo×Str):=(a.filter λm=>decide (m.2=e)).map λm=>(m.1,r)
def ju(rows:List aj)(R:Qbo)(e:Str):List (Qbo×Str):=R.flatMap λr=>zm rows r e (ak rows r)
theorem rK(rows:List aj)(r e:Str)(a:List (Qbo×Str)):(zm rows r e a).length<=a.length:=by
 unfold zm;rw[Ql];exact QaK _ _
theorem mM(rows:List aj)(e:Str)(B:Nat):∀R:Qbo,(∀r∈R,(ak rows r).length<=B)->(ju rows R e).length<=R.length*B
 | [],_=>by simp[ju]
 |r::R,h=>by
  have a:=mM rows e B R λx b=>h x (Qh _ b);have c:=h r xX;have d:=rK rows r e (ak rows r);unfold ju at a⊢;rw[List.flatMap_cons,Qk,Qaf,Nat.succ_mul]
  lia
def Yp(rows:List aj)(e:Str)(k:Nat):Prop:=allR rows k e≠[]/\allR rows (k+1) e=[]
def pb(hs:List (Str×Nat))(a:Qbo)(y:Str):Bool:=decide (y∈hs.map (·.1))&& !decide (y∈a)
structure HJ(rows:List aj)(R:Qbo)(x:Str)(p:Str->Bool)(cnt:Str->Int)(S:List (Qbo×Str))(un:Str->Int)(hs:List (Str×Nat))(wt:Qbo):Prop where
 nd:(hs.map (·.1)).Nodup
 sub:∀y∈hs.map (·.1),y∈R
 wn:wt.Nodup
 ws:∀y∈wt,y∈hs.map (·.1)
 pp:∀y,pb hs wt y=(p y||decide (y=x))
 Yq:∀r∈R,un r=cnt r-(S.countP (λq=>decide (q.2=r)):Int)
 z:∀r∈R,r∈hs.map (·.1)↔un r=0
 snd:∀q∈hs,Yp rows q.1 q.2
theorem HJ.skip{rows:List aj}{R:Qbo}{p:Str->Bool}{cnt a:Str->Int}{S:List (Qbo×Str)}{hs:List (Str×Nat)}{c:Qbo}(h:HJ rows R x p cnt S a hs c)(g:1<=a q.2)(d:a q.2-1≠0):HJ rows R x p cnt (S++[q]) (λy=>if y=q.2 then a y-1 else a y) hs c:=by
 refine⟨h.nd,h.sub,h.wn,h.ws,h.pp,λr b=>?_,λr b=>?_,h.snd⟩
 ·have:=h.Yq r b;rw[List.countP_append];by_cases e:r=q.2
  ·subst e;simp;lia
  ·have f:q.2≠r:=λz=>e z.symm;simp[e,f];lia
 ·have:=h.z r b;by_cases e:r=q.2
  ·subst e;simp only[if_true];constructor
   ·intro z;have:=this.mp z;lia
   ·intro z;exact absurd z d
  ·simp only[e,if_false];exact this
def hv(hs:List (Str×Nat))(y:Str):Nat:=((hs.find? λq=>decide (q.1=y)).map (·.2)).getD 0
def wm:Hp->List (Addr×HO)->Hp
 |H,[]=>H
 |H,(a,o)::r=>wm (upd H a o) r
theorem fg.add{o:HO}(x:fg P w H h)(f:H a=none)(d:bx P w (upd H a o) h a o):fg P w (upd H a o) h:=λb u e=>by
 by_cases hb:b=a
 ·subst hb;rw[aA]at e;cases e;exact d
 ·rw[aB hb]at e;exact(x b u e).stay (λc v _ q=>q) (λc q=>by rw[aB (aN q f)];exact q) λc i q=>q.upd λu g=>aN g f
theorem kF:∀(r:List (Addr×HO))(H:Hp),(∀q∈r,H q.1=none)->(r.map (·.1)).Nodup->ae H (wm H r)
 | [],H,_,_=>ae.refl _
 |(a,o)::r,H,hn,nd=>by
  have c:H a=none:=hn _ xX;rw[xA,jK]at nd;refine(ae.upd c o).trans (kF r _ (λq b=>?_) nd.2);rw[aB λz=>nd.1 (Yy.mpr ⟨q,b,z⟩)];exact hn q (Qh _ b)
theorem mG:∀(r:List (Addr×HO))(H:Hp)(b:Addr),b∉r.map (·.1)->wm H r b=H b
 | [],H,b,_=>rfl
 |(a,o)::r,H,b,hb=>by
  rw[xA,Qp,not_or]at hb;show wm (upd H a o) r b=_;rw[mG r _ b hb.2,aB hb.1]
theorem qE:∀(r:List (Addr×HO))(H:Hp),(r.map (·.1)).Nodup->∀q∈r,wm H r q.1=some q.2
 |(a,o)::r,H,nd,q,hq=>by
  rw[xA,jK]at nd;show wm (upd H a o) r q.1=_;rcases Qp.mp hq with rfl|hq
  ·rw[mG r _ _ nd.1,aA]
  ·exact qE r _ nd.2 q hq
theorem fg.wm:∀(r:List (Addr×HO))(H:Hp),fg P w H h->(∀q∈r,H q.1=none)->(r.map (·.1)).Nodup->(∀q∈r,∀U,bx P w U h q.1 q.2)->fg P w (wm H r) h
 | [],H,x,_,_,_=>x
 |(a,o)::r,H,x,hn,nd,new=>by
  rw[xA,jK]at nd;refine fg.wm r _ (x.add (hn _ xX) (new _ xX _)) (λq b=>?_) nd.2 λq b=>new q (Qh _ b);rw[aB λz=>nd.1 (Yy.mpr ⟨q,b,z⟩)];exact hn q (Qh _ b)
theorem Inv.wm{t':Nat}(I:Inv X B Z H s)(k:∀b u,s.heap.get? b=some u->M.get? b=some u)(r:List (Addr×HO))(d:∀q∈r,s.heap.objs.size<=q.1)(e:(r.map (·.1)).Nodup)(a:∀q∈r,∀U,bx X.prog X.w U M q.1 q.2):
  Inv X B Z (L2.wm H r) {s with heap:=M,toks:=t'}:=by
 have f:∀q∈r,H q.1=none:=λq g=>I.hok.fresh (d q g);have c:=kF r H f e;refine I.un ⟨λb u q _ _ _=>k b u q,λb u q _ _ _=>⟨u.slots,k b u q⟩,λb u q n _=>?_,λb u q _=>⟨u,k b u q⟩,λb h q=>c _ _ q,λb u h q=>c _ _ q,λb i q=>⟨#[],by rw[c _ _ q];simp⟩⟩ (fg.wm r H (I.hok.kept k) f e a);rw[mG r H b λz=>?_]
 ·exact n
 ·obtain⟨q',O,Y⟩:=Yy.mp z;have:=d q' O;rw[Y]at this;exact QaU _ (jZ (QA q) this)
section
variable{o f:Expr}{td ty tx:TE}
def Yr(c ty d:TE):TE:=λZ H Q=>c Z H λx H1=>∃a,x=.ref a/\Js H1 a/\ty Z H1 λy H2=>d Z H2 λz b=>∃kvs k,b a=some (.dK kvs)/\y=kV k/\kvs.length<sizeLine/\
 (∀v,a_ kvs k=some v->Q v b)/\(a_ kvs k=none->Q z (upd b a (.dK (kvs++[(k,z)]))))
theorem oW(D:SE X o td)(i:SE X e ty)(E:SE X f tx)(m:M2 X o "setdefault" apos e f cpos):SE X (.Call (.Attribute o "setdefault" apos) [e,f] [] cpos) (Yr td ty tx):=by
 constructor;intro b s j H Q I h;refine wpAny_Call_method m.base m.few m.line Qav QaE PySem.F.type_dict_setdefault (av (D.h b s j H _ I h) ?_);rintro u G ⟨x,K,n,L,a,N,d,P⟩;subst N;obtain rfl:u=Value.ref a:=L;obtain⟨t1,t2,_⟩:=Nb n d;refine⟨t1,t2,?_⟩;rw[m.trees];refine Calls.callWith_builtin rfl (Calls.evalArgs_plain (Calls.spliced_cons (av (i.h b G j K _ n P) λiv R ⟨y,T,V,ry,q2⟩=>
  Calls.spliced_cons (av (E.h b R j T _ V q2) λfv s3 ⟨z,p,l,r,kvs,k,t,ey,be,g1,g2⟩=>Calls.spliced_nil ?_))))
 subst ey;obtain⟨z',hd,vs,rel,dd⟩:=rT l.hok t;have hz:vs.length<=sizeLine:=by rw[<- rel.length];exact z'
 have c:=rel.val k;refine call_meetsIn QaE dd.typeIs PySem.F.entry_dict_setdefault (Qbf _ _ _) (kt_meets_setdefault (c_ X.prog X.w) a (gX ry) hd fv) ⟨vs,dd,hz,λv hv=>?_,λhn M A hs=>?_⟩
 ·rw[hv]at c;cases g:a_ kvs k with
  |none=>rw[g]at c;exact(show False from c).elim
  |some v'=>
   rw[g]at c;exact⟨v',p,l.tok _,c,g1 v' g⟩
 ·rw[hn]at c;have g:a_ kvs k=none:=by
   cases g:a_ kvs k with
   |none=>rfl
   |some v'=>rw[g]at c;exact(show False from c).elim
  have Ys:=cO (kvs:=kvs) (k:=k) z g;have hl:(putK kvs k z).length<=sizeLine:=by have:=bW kvs k z;lia
  have i:∃q,M.get? a=some q:=let ⟨q,_,_,hq,_⟩:=A;⟨q,hq⟩
  have C:=dX (t':=s3.toks+1) l (by rw[t];exact True.intro) hs i (mY (U:=upd p a (.dK (putK kvs k z))) hl hd (rel.put k r) A);rw[Ys]at C;exact⟨z,_,C,r,g2 g⟩
end
end L2
namespace L2
open PySem PySem.Spec PySem.W PyProof.Rows
def A0(K:Frag)(a:Str->Qbr)(x m q:Str)(st:Stmt)(b:Qbo):Prop:=∃(f:Addr)(fd:FuncData),E3 K (adr a x) m f/\AM K m q st f fd/\Binds K fd b []
def wo(P:Program)(w:World)(K:Frag)(b:Str->Qbr)(base:Heap)(k:Nat)(C:Addr)(m:Str)(a:Qbo)(c:Sp):Prop:=
 ∃(f:Addr)(fd:FuncData),E3 K C m f/\qg P w K b base zc k f fd a c/\Binds K fd a []
section
variable{o:Expr}{m:Str}{pos p:Pos}{k:Nat}
theorem jW (F:wo X.prog X.w X.K X.mg X.base k C m ps sp) (c:uy X.K C) (a:gb k X.A) (d:SE X o ta) (g:SA X (e::es) t)
  (i:QbB X e es:=by rfl) (j:QbC X pos es:=by rfl)
  (l:eval (.Call (.Attribute o m apos) (e::es) [] pos) X.env=(do
   let ov <- eval o X.env
   standAt apos.atName
   let (f,first) <- holding [ov] (getMethod ov m pl)
   callWith pos f first (backTo pos (starEach (e::es) X.env)) (backToKw pos (keywordEach [] X.env))):=by rfl):SE X (.Call (.Attribute o m apos) (e::es) [] pos) (E6 C m sp [] E0 ta t):=by
 obtain ⟨f,n,M,G,b⟩:=F
 exact ⟨Uu d.h c M G a b .nil Fc g.h i j l⟩
theorem Yt (F:wo X.prog X.w X.K X.mg X.base k C m ps sp) (c:uy X.K C) (a:gb k X.A) (d:SE X o ta)
  (e:eval (.Call (.Attribute o m apos) [] [] pos) X.env=(do
   let ov <- eval o X.env
   standAt apos.atName
   let (f,first) <- holding [ov] (getMethod ov m pl)
   callWith pos f first (backTo pos (starEach [] X.env)) (backToKw pos (keywordEach [] X.env))):=by rfl):SE X (.Call (.Attribute o m apos) [] [] pos) (E6 C m sp [] E0 ta qf):=by
 obtain ⟨f,g,M,G,b⟩:=F
 exact ⟨Uv d.h c M G a b .nil Fc e⟩
theorem Yu(F:BC X.prog X.w X.K X.mg X.base k x C ps sp)(a:gb (k+1) X.A)(c:Gl X x:=by rfl)(d:QbE x:=by decide):
  SE X (.Call (.Name x p) [] [] pos) (GR C sp [] E0 qf):=by
 obtain⟨m,f,fd,M,G,b⟩:=F;exact⟨zT M G a c m b .nil Fc d⟩
theorem N7{o i:Expr}{a ty:TE}(b:SE X o a)(hi:SE X i ty):SS X (.Delete [.Subscript o i Bk] pos) (M8 a ty):=⟨Vf b.h hi.h⟩
end
theorem A0.gw {K:Frag} {m q:Str} {st:Stmt} {k:Nat} (F:A0 K mg x m q st ps) (S:fc N ps (cg st)) (d:∀ vs H Q E,sp vs H Q E->vs.length=ps.length)
  (e:∀ (f:Addr) (c:Value) (A:Around) (a:List Env) (s:Shared) (H:Hp) (vs:Qby) (Q:VK) (E:XK),gb k (A.deeper (envOfC q (cg st) s.heap.objs.size f c))->sp vs H Q E->
   ∃ t,SB (Af zc P w K mg base N q (cg st) f c A a s H E).Bo (mh st) t/\t {nx:=λ_ U=>Q .aq U,rt:=Q} (start N vs) H):wo P w K mg base (k+1) (adr mg x) m ps sp:=by
 obtain ⟨f,g,M,i,b⟩:=F
 exact ⟨f,g,M,i.ok S d λc A a s H vs Q E j h=>let ⟨t,O,Y⟩:=e f c A a s H vs Q E j h;⟨t,O.h,Y⟩,b⟩
structure A3 where
 x:Str
 m:Str
 q:Str
 st:Stmt
def Kp(K:Frag)(c:A3):Option (Option BD×Bool):=match nsIn K mainGlobals c.x with
 |some (some (.ref C))=>some (fnAt K c.q (findIn K (.ref C) c.m),match findIn K (.ref C) c.m with|some (some v)=>isFn K v&&keepIn K v|_=>false)
 |_=>none
def Ed(K:Frag):List A3->List (Option (Option BD×Bool))
 | []=>[]
 |c::l=>Kp K c::Ed K l
def Ef:List A3->List (Option (Option BD×Bool))
 | []=>[]
 |c::l=>some (some (BE c.m c.q c.st),true)::Ef l
section
variable{K:Frag}
theorem wB:∀{l:List A3},Ed K l=Ef l->∀(i:Nat){c:A3},l[i]? =some c->Kp K c=some (some (BE c.m c.q c.st),true)
 |y::l,e,0,c,h=>by cases h;exact(Qan e).1
 |y::l,e,i+1,c,h=>wB (Qan e).2 i (by simpa using h)
theorem N9(X:K.In h)(G:h.Ns mainGlobals mg){l:List A3}(e:Ed K l=Ef l)(i:Nat){m q:Str}{st:Stmt}(hi:l[i]? =some ⟨x,m,q,st⟩)
  (c:∀(kV b d:Value)(g:Option Addr)(j ct:Value)(us:Qbp),us.length=ps.length->bindArgs (fnOf m q (qy st) (mh st) (cg st) .none kV b d g j ct) ⟨us,[]⟩=pure (ps.zip us)):A0 K mg x m q st ps:=by
 have a:=wB e i hi;unfold Kp at a;split at a
 ·rename_i C k
  have n:=mg_of X G k;have o:adr mg x=C:=by unfold adr;rw[n]
  have a:=QE a;simp only[Qba]at a;obtain⟨c1,c2⟩:=a;obtain⟨f,fd,e1,F⟩:=qD c1;rw[e1]at c2;simp only[Qay]at c2;exact⟨f,fd,by rw[o];exact⟨e1,c2.1,c2.2⟩,F,F.binds c⟩
 ·cases a
theorem Yv(X:K.In h)(G:h.Ns mainGlobals mg){l:List A3}(e:Ed K l=Ef l)(i:Nat){m q o:Str}{st:Stmt}(hi:l[i]? =some ⟨x,m,q,st⟩:=by rfl)
  (p:∀(kV j r:Value)(s:Option Addr)(t ct k:Value),bindArgs (fnOf m q (qy st) (mh st) (cg st) .none kV j r s t ct) ⟨[k],[]⟩=pure [(o,k)]:=by intros;rfl):A0 K mg x m q st [o]:=
 N9 X G e i hi λa b c d f g w u=>by
  obtain⟨k,FE,rfl,jr⟩:=Am (n:=0) u;obtain rfl:=QS jr;exact p ..
theorem Kq(X:K.In h)(G:h.Ns mainGlobals mg){l:List A3}(e:Ed K l=Ef l)(i:Nat){m q p r:Str}{st:Stmt}(hi:l[i]? =some ⟨x,m,q,st⟩:=by rfl)
  (s:∀(kV j t:Value)(u:Option Addr)(w ct k o:Value),bindArgs (fnOf m q (qy st) (mh st) (cg st) .none kV j t u w ct) ⟨[k,o],[]⟩=pure [(p,k),(r,o)]:=by intros;rfl):A0 K mg x m q st [p,r]:=
 N9 X G e i hi λa b c d f g z y=>by
  obtain⟨k,FE,rfl,jr⟩:=Am (n:=1) y;obtain⟨o,NU,rfl,jz⟩:=Am (n:=0) jr;obtain rfl:=QS jz;exact s ..
theorem Yw(X:K.In h)(G:h.Ns mainGlobals mg){l:List AX}(e:Ea K l=Eb l)(i:Nat){q m:Str}{st:Stmt}{o:Qbo}(hi:l[i]? =some ⟨x,q,st,o⟩:=by rfl)
  (p:∀(kV j r:Value)(s:Option Addr)(t ct k:Value),bindArgs (fnOf "__init__" q (qy st) (mh st) (cg st) .none kV j r s t ct) ⟨[k],[]⟩=pure [(m,k)]:=by intros;rfl):CO K mg x q st [m] o (adr mg x):=
 NZ X G e i hi λa b c d f g w u=>by
  obtain⟨k,FE,rfl,jr⟩:=Am (n:=0) u;obtain rfl:=QS jr;exact p ..
end
end L2
namespace L2
end L2
namespace L2
open PySem PySem.SetTable
def HA(mask:Nat)(p:Probe):Probe:=if p.more > 0 then{p with j:=p.j+1,more:=p.more-1}else{p with j:=(leap mask p.i p.perturb).1,more:=runEnd mask (leap mask p.i p.perturb).1-(leap mask p.i p.perturb).1,i:=(leap mask p.i p.perturb).1,perturb:=(leap mask p.i p.perturb).2}
def Yx(mask:Nat)(q:Nat×Nat):Probe:={j:=q.1,more:=runEnd mask q.1-q.1,i:=q.1,perturb:=q.2,dummy:=none}
def st(mask:Nat)(h:Int):Nat->Probe
 |0=>Yx mask (bits h % (mask+1),bits h)
 |n+1=>HA mask (st mask h n)
section
variable{mask:Nat}{h:Int}
theorem oZ(i:Nat):runEnd mask i-i<=9/\(i<=mask->i+(runEnd mask i-i)<=mask):=by
 unfold runEnd;split<;>lia
theorem N_:∀n,(st mask h n).j+(st mask h n).more<=mask
 |0=>(oZ _).2 (Nat.le_of_lt_succ (Nat.mod_lt _ (Nat.succ_pos _)))
 |n+1=>by
  have ih:=N_ n;show(HA mask (st mask h n)).j+(HA mask (st mask h n)).more<=mask;unfold HA;split
  ·simp only;lia
  ·exact(oZ _).2 (Nat.le_of_lt_succ (Nat.mod_lt _ (Nat.succ_pos _)))
end
theorem k7:∀{l m:Qbs},l.Nodup->(∀x∈l,x∈m)->l.length<=m.length
 | [],m,_,_=>Qaj _
 |a::l,m,nd,hs=>by
  obtain⟨O,Y⟩:=jK.mp nd;have b:=hs a (xX ..);have:l.length<=(m.erase a).length:=k7 Y λx c=>(List.mem_erase_of_ne (show x≠a from λe=>O (by rw[<- e];exact c))).mpr (hs x (Qh _ c));rw[List.length_erase_of_mem b]at this;have:=List.length_pos_of_mem b;simp only[Qaf];lia
def Ow(owner:Array (Option Nat))(j:Nat):Prop:=(owner.getD j (some 0)).isNone=false
structure Oa(mask:Nat)(owner:Array (Option Nat))(hs:List Int):Prop where
 sz:owner.size=mask+1
 lt:∀j k:Nat,owner[j]? =some (some k)->k<hs.length
 inj:∀j j' k:Nat,owner[j]? =some (some k)->owner[j']? =some (some k)->j=j'
 reach:∀k(h:k<hs.length),∃n,owner[(st mask hs[k] n).j]? =some (some k)/\∀m,m<n->Ow owner (st mask hs[k] m).j
def Eg(mask:Nat)(owner:Array (Option Nat)):List (Nat×Nat):=(List.range (mask+1)).filterMap λj=>(owner.getD j none).map (j,·)
section
variable{mask:Nat}{owner:Array (Option Nat)}{hs:List Int}
theorem jJ(hz:owner.size=mask+1){p:Nat×Nat}:p∈Eg mask owner↔p.1<=mask/\owner[p.1]? =some (some p.2):=by
 unfold Eg;rw[List.mem_filterMap];constructor
 ·rintro⟨j,hj,e⟩;have b:j<owner.size:=by have:=Qaw.mp hj;lia
  have a:owner.getD j none=owner[j]:=by simp[Array.getD,b]
  rw[a]at e;cases hx:owner[j]with
  |none=>rw[hx]at e;cases e
  |some k=>
   rw[hx]at e;cases e;exact⟨by show j<=mask;lia,by show owner[j]? =_;rw[Array.getElem?_eq_getElem b,hx]⟩
 ·rintro⟨O,Y⟩;obtain⟨h3,h4⟩:=Array.getElem?_eq_some_iff.mp Y;refine⟨p.1,Qaw.mpr (by lia),?_⟩;have a:owner.getD p.1 none=owner[p.1]:=by simp[Array.getD,h3]
  rw[a,h4];rfl
theorem Ob{f:Nat->Option Nat}:∀l:Qbs,l.Pairwise (· < ·)->((l.filterMap λj=>(f j).map (j,·)).map (·.1)).Pairwise (· < ·)/\∀x∈(l.filterMap λj=>(f j).map (j,·)).map (·.1),x∈l
 | [],_=>⟨.nil,λ_ h=>nomatch h⟩
 |a::l,h=>by
  obtain⟨O,Y⟩:=Qbe.mp h;obtain⟨i1,i2⟩:=Ob (f:=f) l Y;cases e:f a with
  |none=>
   simp only[QaP,e,Option.map_none];exact⟨i1,λx hx=>Qh _ (i2 x hx)⟩
  |some k=>
   simp only[QaP,e,Qa0,xA];refine⟨Qbe.mpr ⟨λx hx=>O x (i2 x hx),i1⟩,λx hx=>?_⟩;rcases Qp.mp hx with rfl|hx
   ·exact xX ..
   ·exact Qh _ (i2 x hx)
theorem zG:((Eg mask owner).map (·.1)).Pairwise (· < ·):=(Ob (f:=λj=>owner.getD j none) _ List.pairwise_lt_range).1
theorem Oa.len(I:Oa mask owner hs):(Eg mask owner).length=hs.length:=by
 have f:((Eg mask owner).map (·.2)).Nodup:=by
  have d:=zG (mask:=mask) (owner:=owner);rw[wW]at d;refine wW.mpr (d.imp_of_mem fun{a b}g i s e=>?_);have:=I.inj a.1 b.1 a.2 ((jJ I.sz).mp g).2 (by rw[e];exact((jJ I.sz).mp i).2)
  lia
 have k:=k7 f (m:=List.range hs.length) λx c=>by
  obtain⟨p,hp,rfl⟩:=Yy.mp c;exact Qaw.mpr (I.lt _ _ ((jJ I.sz).mp hp).2)
 have o:=k7 (l:=List.range hs.length) (m:=(Eg mask owner).map (·.2)) List.nodup_range λx c=>by
  have q:=Qaw.mp c;obtain⟨n,e1,_⟩:=I.reach x q;have r:(st mask hs[x] n).j<=mask:=by have:=N_ (mask:=mask) (h:=hs[x]) n;lia
  exact Yy.mpr ⟨((st mask hs[x] n).j,x),(jJ I.sz).mpr ⟨r,e1⟩,rfl⟩
 simp at k o
 lia
end
end L2
namespace L2
open PySem PySem.Spec PyProof.Rows
abbrev LR:=List (Str×Road)
def Yz(a:LR)(r:Str):Road:=((a.find? λq=>decide (q.1=r)).map (·.2)).getD []
def Oc(a:LR):Option (Str×Qbo)->Road
 |none=>[]
 |some q=>Yz a q.1++[q.2]
def Kr(b:mq):LR:=b.foldl (λa c=>a++[(c.1,Oc a c.2)]) []
theorem dD{p:List α->Prop}(h0:p [])(hs:∀l a,p l->p (l++[a]))(l:List α):p l:=by
 rw[<- List.reverse_reverse l]
 induction l.reverse with
 |nil=>exact h0
 |cons a r ih=>rw[List.reverse_cons];exact hs _ _ ih
end L2
namespace L2
open PySem PySem.Spec PyProof.Rows PySem.W
end L2
namespace L2
open PySem PySem.Spec PyProof.Rows
def dd(seen:Qbo):List (Road×Str)->LR
 | []=>[]
 |q::P=>if q.2∈seen then dd seen P else(q.2,q.1)::dd (seen++[q.2]) P
structure QI(rows:List aj)(f:Str)(i:Nat)(found:LR)(P:List (Road×Str)):Prop where
 fd:found=(Kr (iy rows f i)).take i
 pd:dd (found.map (·.1)) P=(Kr (iy rows f i)).drop i
theorem QI.start(rows:List aj)(f:Str):QI rows f 0 [] [([],f)]:=⟨by simp,by simp[dd,iy,Kr,Oc]⟩
theorem iK{rows:List aj}{f:Str}{i:Nat}(h:(iy rows f i).length=i):∀k,iy rows f (i+k)=iy rows f i
 |0=>rfl
 |k+1=>by
  have ih:=iK h k;show(match(iy rows f (i+k))[i+k]? with|none=>iy rows f (i+k)|some c=>vf c.1 (iy rows f (i+k)) (ak rows c.1))=_;rw[ih,List.getElem?_eq_none (by lia)]
theorem xV{rows:List aj}{f:Str}(hi:(iy rows f i).length=i)(a:(iy rows f j).length=j):i=j:=by
 rcases Nat.le_total i j with h|h
 ·have:=iK hi (j-i);rw[show i+(j-i)=j by lia]at this;rw[this,hi]at a;exact a
 ·have:=iK a (i-j);rw[show j+(i-j)=i by lia]at this;rw[this,a]at hi;exact hi.symm
end L2
namespace L2
open PySem PySem.Spec PyProof.Rows PySem.W
end L2
namespace L2
open PySem PySem.Spec PyProof.Rows
inductive Th where
 |pick (w:Str) (t:Th)
 |box (ps:List (Str×Th))
theorem YA{b:Type}{a:List (α×b)}(c:(a.map (·.1)).Nodup){z:α}{t t':b}(h:(z,t)∈a)(M:(z,t')∈a):t=t':=by
 obtain⟨i,hi,e⟩:=Qi h;obtain⟨j,hj,e'⟩:=Qi M;have d:i=j:=by
  refine(QaL (h₀:=by simpa using hi) (h₁:=by simpa using hj) c).mp ?_;simp[e,e']
 subst d;rw[e]at e';exact(QaT e').2
structure PD(R:V->Th->Prop)(ws:Qbo)(kvs:Qbv):Prop where
 all:∀q∈kvs,∃z t,q.1=.inr z/\z∈ws/\R q.2 t
 nd:(kvs.map (·.1)).Nodup
section
variable{R R':V->Th->Prop}{kvs kvs':Qbv}
theorem PD.len(h:PD R ws kvs):kvs.length<=ws.length:=by
 have c:∀q:Key×V,∃z:Str,q∈kvs->q.1=.inr z/\z∈ws:=λq=>by
  by_cases hq:q∈kvs
  ·obtain⟨z,t,O,Y,_⟩:=h.all q hq;exact⟨z,λ_=>⟨O,Y⟩⟩
  ·exact⟨"",λz=>absurd z hq⟩
 obtain⟨f,hf⟩:=QaV c;have:=cZ (l:=kvs.map f) (m:=ws) ?_ ?_
 ·simpa using this
 ·refine wW.mpr ((wW.mp h.nd).imp_of_mem fun{a b}d g i e=>i ?_);rw[(hf a d).1,(hf b g).1,e]
 ·intro z j;obtain⟨q,hq,rfl⟩:=Yy.mp j;exact(hf q hq).2
end
theorem jL [DecidableEq κ]{kvs:List (κ×V)}{k:κ}:(a_ kvs k).isSome=true↔k∈kvs.map (·.1):=by
 rw[<- cS,Qa6];constructor
 ·rintro⟨p,hp,h⟩;exact Yy.mpr ⟨p,hp,Qt h⟩
 ·intro h;obtain⟨p,hp,rfl⟩:=Yy.mp h;exact⟨p,hp,Qw rfl⟩
theorem ay.Od{K:Q0}{xs:Qby}(h:cf H a xs):ay K H a xs:=.inl h
theorem YB{s z:Int}{A B:Prop}(a:s=z->A)(b:s≠z->B):if(false^^decide (V.int s=V.int z))=true then A else B:=by
 by_cases h:s=z
 ·rw[Qw (congrArg V.int h)];exact a h
 ·rw[Qx λe=>h (V.int.inj e)];exact b h
def ip(rows:List aj)(ns:Qbo):Prop:=∃H a xs ws,RT H a xs rows ns ws/\∀z∈ws,Wd z
section
variable{rows:List aj}
theorem RT.CW{xs:Qby}(rt:RT H a xs rows ns ws)(b:∀z∈ws,Wd z):ip rows ns:=⟨H,a,xs,ws,rt,b⟩
theorem ip.stay(g:ip rows ns){x:Str}(a:x∈ns):gj rows ns (endOf rows x):=let ⟨_,_,_,_,rt,hw⟩:=g;rt.stay hw a
theorem ip.rf(g:ip rows ns){e:Str}(h:gj rows ns e):(e,ai rows e)∈bz rows/\(ai rows e).ok ns:=let ⟨_,_,_,_,rt,hw⟩:=g;rt.rf hw h
theorem ip.fq(g:ip rows ns){e a:Str}{s:Qbo}(h:gj rows ns e)(m:L2.fq rows e s=some a):gj rows ns a:=let ⟨_,_,_,_,rt,hw⟩:=g;rt.fq hw h m
theorem ip.few(g:ip rows ns):ns.length<=30:=let ⟨_,_,_,_,rt,hw⟩:=g;rt.few
theorem ip.Ao(g:ip rows ns):((bz rows).map (·.1)).Nodup:=let ⟨_,_,_,_,rt,hw⟩:=g;rt.Ao
theorem ip.ia(g:ip rows ns):(rows.map (·.1)).Nodup:=let ⟨_,_,_,_,rt,hw⟩:=g;rt.ia
theorem ip.nm(g:ip rows ns)(x:Str):x∈rows.map (·.1)↔x∈ns:=let ⟨_,_,_,_,rt,hw⟩:=g;rt.nm.mem_iff
theorem ip.aq(g:ip rows ns)(x:Str):x∈(bz rows).map (·.1)↔gj rows ns x:=by
 constructor
 ·intro h;obtain⟨r,hr,rfl⟩:=Yy.mp h;obtain⟨O,Y⟩:=Qad.mp hr;refine⟨(g.nm _).mp (Yy.mpr ⟨r,O,rfl⟩),cH _ ?_⟩;show(ai rows r.1).nx=none;rw[bN g.ia O];simpa using Y
 ·intro h;exact Yy.mpr ⟨_,(g.rf h).1,rfl⟩
end
def stH(h:Hd):List Qbo:=h.bf.map (·.1)
def CY(H:Hp)(b:Addr)(h:Hd):Prop:=∃c us,H b=some (.tup [.str h.bj,.ref c])/\H c=some (.tup us)/\SV H us (stH h)
theorem CY.same{H U:Hp}{b:Addr}{h:Hd}(m:CY H b h)(s:ae H U):CY U b h:=let ⟨c,us,e1,e2,e3⟩:=m;⟨c,us,s _ _ e1,s _ _ e2,e3.same s⟩
structure HB(K:Q0)(mg:Str->Qbr)(H:Hp)(n:Addr)(rows:List aj)(ns:Qbo):Prop where
 at_:∃dx fs d1 d3 d4,H n=some (.ins (adr mg "Net") dx fs)/\fs.lookup ("rows":Str)=some (V.ref d1)/\fs.lookup ("marks":Str)=some (V.ref d3)/\fs.lookup ("moves":Str)=some (V.ref d4)/\
  (∀x,x∈ns->dc H d1 (.str x) (some (.str (endOf rows x))))/\
  (∀e,gj rows ns e->∃b,dc H d3 (.str e) (some (.ref b))/\CY H b (ai rows e))/\(∀e,¬gj rows ns e->dc H d3 (.str e) none)/\
  (∀e,gj rows ns e->∃m o,dc H d4 (.str e) (some (.ref m))/\H m=some (.af o (.dT (jm rows e))))
theorem HB.same{K:Q0}{c:Str->Qbr}{H U:Hp}{n:Addr}{rows:List aj}{ns:Qbo}(h:HB K c H n rows ns)(s:ae H U):HB K c U n rows ns:=by
 obtain⟨dx,fs,d1,d3,d4,h0,O,Y,h3,h4,h5,h6,h7⟩:=h.at_
 exact⟨dx,fs,d1,d3,d4,s _ _ h0,O,Y,h3,λx d=>(h4 x d).same s,λe a=>let ⟨b,q1,q2⟩:=h5 e a;⟨b,q1.same s,q2.same s⟩,λe a=>(h6 e a).same s,λe a=>let ⟨m,o,q1,q2⟩:=h7 e a;⟨m,o,q1.same s,s _ _ q2⟩⟩
theorem An.Oe{K:Q0}{n:Addr}{rows:List aj}(h:An H (adr mg "Net") n rows)(g:ip rows ns):HB K mg H n rows ns:=by
 obtain⟨dx,fs,en,⟨⟨d1,o1,a1,a2⟩,_,⟨d3,o3,k3,c1,c2,c3⟩,⟨d4,o4,k4,e1,e2,e3⟩⟩⟩:=h;refine⟨dx,fs,d1,d3,d4,en,a1,c1,e1,λx d=>?_,λe a=>?_,λe a=>?_,λe a=>?_⟩
 ·rw[<- kC g.ia ((g.nm x).mpr d)];exact dc.rd (k:=Sum.inr x) (.inr ⟨o1,a2⟩)
 ·obtain⟨v,O,b,c,us,rfl,Y,h3,h4⟩:=c3.get g.Ao (g.rf a).1;exact⟨b,by rw[<- O];exact dc.rd (k:=Sum.inr e) (.inr ⟨o3,c2⟩),c,us,Y,h3,h4⟩
 ·have f:a_ k3 (.inr e)=none:=by
   cases hv:a_ k3 (.inr e)with
   |none=>rfl
   |some u=>
    have:=fY hv;rw[c3.keys]at this;obtain⟨r,hr,e'⟩:=Yy.mp this;exact absurd ((g.aq e).mp (Yy.mpr ⟨r,hr,Qas e'⟩)) a
  rw[<- f];exact dc.rd (k:=Sum.inr e) (.inr ⟨o3,c2⟩)
 ·obtain⟨v,O,m,o,rfl,Y⟩:=e3.get g.Ao (g.rf a).1;refine⟨m,o,by rw[<- O];exact dc.rd (k:=Sum.inr e) (.inr ⟨o4,e2⟩),?_⟩;rw[kH a.2]at Y;exact Y
theorem jR{rows:List aj}{e:Str}{s:Qbo}(a:endOf rows e=e)(hs:s∈stH (ai rows e)):∃b,fq rows e s=some b:=by
 unfold fq ak;rw[a];obtain⟨m,hm,rfl⟩:=Yy.mp hs;cases hf:List.find? (λc:Qbo×Str=>decide (c.1=m.1)) ((ai rows e).bf.map λm=>(m.1,endOf rows m.2))with
 |some q=>exact⟨q.2,rfl⟩
 |none=>
  have:=Qbc.mp hf (m.1,endOf rows m.2) (Yy.mpr ⟨m,hm,rfl⟩);simp at this
theorem gZ{rows:List aj}{e:Str}(a:endOf rows e=e):(ak rows e).map (·.1)=stH (ai rows e):=by unfold ak stH;rw[a];simp[Qn,QC]
theorem iC{rows:List aj}{e:Str}(b:((ak rows e).map (·.1)).Nodup){m:Qbo×Str}(a:m∈ak rows e):fq rows e m.1=some m.2:=by
 unfold fq;cases hf:(ak rows e).find? (λc=>decide (c.1=m.1))with
 |none=>
  have:=Qbc.mp hf m a;simp at this
 |some q=>
  have d:=QaI hf;have f:q.1=m.1:=by simpa using List.find?_some hf
  have g:(m.1,q.2)∈ak rows e:=by rw[<- f];exact d
  exact congrArg some (YA b g (show(m.1,m.2)∈ak rows e from a))
theorem ip.wj{rows:List aj}(g:ip rows ns){e:Str}(a:gj rows ns e):((ak rows e).map (·.1)).Nodup:=by
 rw[gZ a.2];exact vI (g.rf a).2
theorem mD{b:Type}[DecidableEq b]:∀{l m:List b},l.Nodup->(∀x∈l,x∈m)->l.length<=m.length
 | [],m,_,_=>Qaj _
 |a::l,m,nd,h=>by
  have c:=h a xX;have e:=mD (l:=l) (m:=m.erase a) (jK.mp nd).2 λx d=>(List.mem_erase_of_ne (show x≠a from λz=>(jK.mp nd).1 (by rw[<- z];exact d))).mpr (h x (Qh _ d));rw[List.length_erase_of_mem c]at e;have f:=List.length_pos_of_mem c;rw[Qaf]
  lia
section
variable{K:Type}[DecidableEq K]{knd:HeapKind prog w K}
theorem eZ{d:Addr}{xs:List (K×Addr×Value)}{k:K}{dflt:Value}(c:knd.room A)(b:knd.is s.heap k a)(i:s.heap.DictOfH knd d xs)
  (l:∀p,atKey xs k=some p->Q p.2 {s with toks:=s.toks+knd.draws k})
  (m:atKey xs k=none->∀M,M.DictOfH knd d (xs++[(k,a,dflt)])->Heap.SameBut d s.heap M->Q dflt {s with heap:=M,toks:=s.toks+knd.draws k})
  (hsz:xs.length<=sizeLine):wpAny (model prog w) A (dictSetDefault d (.ref a) dflt) Q E s:=by
 obtain⟨o,es,ep,ho,hc,hd,he,Of,hn⟩:=i;unfold dictSetDefault
 try with_reducible refine wpAny_holding ?_
 refine QT (knd.pyHash c b (QT (wpAny_dictFind_heap (s:={s with toks:=s.toks+knd.draws k}) c b ho hd he Of hn ?_ ?_)))
 ·intro f;have n:k∉xs.map (·.1):=not_mem_keys_of_get f;refine QT (wpAny_rule (QT (wpAny_updateDictKeys (hz:=by have e:=size_of_entries he;lia) (s:={s with toks:=s.toks+knd.draws k}) ho hd (QU (m (atKey_none_of_get f) _ ⟨_,_,ep+1,QaC _ ho (Obj.isFreed_of_dict (Obj.data_mapDictKeys hd _)),
   hc.mapDictKeys _,Obj.data_mapDictKeys hd _,?_,?_,?_⟩ (Qat ..))))))
  ·simp[he,entryOfKey]
  ·intro x hx;rcases W3.mp hx with hx|hx
   ·exact knd.keeps (Of x hx) ho hd (Qat ..)
   ·simp only[qI]at hx;subst hx;exact knd.keeps b ho hd (Qat ..)
  ·rw[Qm,QaH];refine⟨hn,by simp,?_⟩;intro x hx y g;simp only[xA,List.map_nil,qI]at g;subst g;exact λe=>n (e▸hx)
 ·intro j p h;refine QT (wpAny_dictEntries (s:={s with toks:=s.toks+knd.draws k}) ho hd ?_);rw[entry_at he j,h];exact QT (wpAny_rule (QU (l p (atKey_of_get hn h))))
theorem fG(knd:HeapKind prog w K)(d a:Addr)(c:(d==sysModules)=false)(dflt:Value):
  MeetsIn prog w (Builtin.«dict.setdefault» ⟨[.ref d,.ref a,dflt],[]⟩) (λA R s=>knd.room A.in1/\∃k xs,knd.is s.heap k a/\s.heap.DictOfH knd d xs/\xs.length<=sizeLine/\
   (∀p,atKey xs k=some p->R (.ok (.ret p.2)) {s with toks:=s.toks+knd.draws k})/\
   (atKey xs k=none->∀M,M.DictOfH knd d (xs++[(k,a,dflt)])->Heap.SameBut d s.heap M->R (.ok (.ret dflt)) {s with heap:=M,toks:=s.toks+knd.draws k})):=
 .of_wp λA R s ⟨e,k,xs,f,b,g,h,i⟩=>by
  unfold Builtin.«dict.setdefault»;refine QT ?_;unfold Builtin.Dict.keyAndDefault;refine QT (wpAny_notOrdered_dict b.typeIs ?_);show wpAny _ _ (pure (d,Value.ref a,some dflt)) _ _ s;refine QU ?_;show wpAny _ _ (if(d==sysModules)=true then _ else(dictSetDefault d (.ref a) dflt >>=_)) _ _ s;rw[if_neg (by rw[c];exact yH)];exact QT (eZ e f b (λp j=>QU ⟨p.2,rfl,h p j⟩) (λl M m n=>QU ⟨dflt,rfl,i l M m n⟩) g)
end
section
variable{o f:Expr}{td ty tx:TE}
def YC(d ty e:TE):TE:=λZ H Q=>d Z H λx H1=>∃a,x=.ref a/\Js H1 a/\ty Z H1 λy H2=>e Z H2 λz c=>∃kvs k b,c a=some (.dT kvs)/\y=.ref b/\cf c b (k.map kV)/\kvs.length<sizeLine/\
 (∀v,a_ kvs k=some v->Q v c)/\(a_ kvs k=none->Q z (upd c a (.dT (kvs++[(k,z)]))))
theorem Og:∀{kvs:Qbu}{xs:List (List Key×Addr×Value)},KT H kvs xs->∀k,(a_ kvs k=none/\atKey xs k=none)\/∃v p,a_ kvs k=some v/\atKey xs k=some p/\RelV v p.2:=by
 intro kvs xs r
 induction r with
 |nil=>intro k;exact .inl ⟨rfl,rfl⟩
 | @cons q x qs xs hq t ih=>
  intro k;obtain⟨O,Y,h3⟩:=hq;by_cases hk:q.1=k
  ·refine .inr ⟨q.2,x.2,?_,?_,h3⟩
   ·unfold a_;simp[hk]
   ·unfold atKey;rw[Qbl (by simp[<- O,hk])];rfl
  ·rcases ih k with⟨a,b⟩|⟨v,p,a,b,c⟩
   ·refine .inl ⟨?_,?_⟩
    ·unfold a_ at a⊢;rw[QaB (by simpa using hk)];exact a
    ·unfold atKey at b⊢;rw[QaB (by simpa[<- O]using hk)];exact b
   ·refine .inr ⟨v,p,?_,?_,c⟩
    ·unfold a_ at a⊢;rw[QaB (by simpa using hk)];exact a
    ·unfold atKey at b⊢;rw[QaB (by simpa[<- O]using hk)];exact b
theorem y8(G:X.A.units+1<cLine)(ho:SE X o td)(he:SE X e ty)(hf:SE X f tx)(m:M2 X o "setdefault" apos e f cpos):SE X (.Call (.Attribute o "setdefault" apos) [e,f] [] cpos) (YC td ty tx):=by
 constructor;intro i s t H Q I h;refine wpAny_Call_method m.base m.few m.line Qav QaE PySem.F.type_dict_setdefault (av (ho.h i s t H _ I h) ?_);rintro u s1 ⟨x,H1,K,rx,a,ex,d,n⟩;subst ex;obtain rfl:u=Value.ref a:=rx;obtain⟨t1,t2,_⟩:=Nb K d;refine⟨t1,t2,?_⟩;rw[m.trees];refine Calls.callWith_builtin rfl (Calls.evalArgs_plain (Calls.spliced_cons (av (he.h i s1 t H1 _ K n) λiv s2 ⟨y,H2,I2,ry,j⟩=>
  Calls.spliced_cons (av (hf.h i s2 t H2 _ I2 j) λL s3 ⟨z,C,r,N,g,k,b,D,ey,P,be,g1,g2⟩=>Calls.spliced_nil ?_))))
 subst ey;obtain rfl:iv=Value.ref b:=ry;obtain⟨z',hd,xs,rel,dd⟩:=Jo r.hok D;have hz:xs.length<=sizeLine:=by rw[<- Paired.length rel];exact z'
 refine call_meetsIn QaE dd.typeIs PySem.F.entry_dict_setdefault (Qbf _ _ _) (fG (tupleKind (c_ X.prog X.w)) a b hd L) ⟨?_,k,xs,iV r.hok P,dd,hz,λp R=>?_,λT M jx hs=>?_⟩
 ·exact tupleKind_room_in1 G
 ·rcases Og rel k with⟨_,q⟩|⟨v,p',n,j,V⟩
  ·rw[R]at q;cases q
  ·rw[R]at j;cases j;exact⟨v,C,r.tok _,V,g1 v n⟩
 ·have hk:a_ g k=none:=by
   rcases Og rel k with⟨q,_⟩|⟨v,p',n,j,V⟩
   ·exact q
   ·rw[T]at j;cases j
  obtain⟨q,es,ep,hq,Y,h3,h4,_,h5⟩:=jx;have hl:(g++[(k,z)]).length<=sizeLine:=by simp;lia
  have YD:KT (upd C a (.dT (g++[(k,z)]))) (g++[(k,z)]) (xs++[(k,b,L)]):=by
   have r1:=rel.put k P N;rw[L2.cO _ hk,storedH_new T]at r1;refine r1.keeps λc ys l=>l.upd λu G z=>?_;subst z;rcases l with l|⟨_,l⟩<;>(rw[D]at l;cases l)
  have E:bx X.prog X.w (upd C a (.dT (g++[(k,z)]))) M a (.dT (g++[(k,z)])):=⟨hl,hd,_,YD,q,es,ep,hq,Y,h3,h4,h5⟩
  exact⟨z,_,dX r (by rw[D];exact True.intro) hs ⟨q,hq⟩ E,N,g2 hk⟩
theorem YE{a:Pos}:SS X (.Return none a) ML:=⟨S2⟩
end
inductive Tv where
 |s (z:Str)
 |i (n:Int)
 |t (l:List Tv)
def TD(H:Hp):Nat->V->Tv->Prop
 |_,.str z,.s z'=>z=z'
 |_,.int k,.i j=>k=j
 |n+1,.ref a,.t ds=>∃xs,cf H a xs/\xs.length=ds.length/\∀j(h:j<xs.length)(M:j<ds.length),TD H n xs[j] ds[j]
 |_,_,_=>False
structure A5(H:Hp)(n:Nat)(xs:Qby)(ds:List Tv):Prop where
 len:xs.length=ds.length
 at_:∀j(h:j<xs.length)(M:j<ds.length),TD H n xs[j] ds[j]
theorem TD.str{n:Nat}{z:Str}:TD H n (.str z) (.s z):=by cases n<;>rfl
theorem TD.tup{n:Nat}{a:Addr}{xs:Qby}{ds:List Tv}(h:cf H a xs)(t:A5 H n xs ds):TD H (n+1) (.ref a) (.t ds):=⟨xs,h,t.len,t.at_⟩
theorem A5.nil:A5 H n [] []:=⟨rfl,λi h=>absurd h (by simp)⟩
theorem A5.cons{n:Nat}{x:V}{d:Tv}{xs:Qby}{ds:List Tv}(h:TD H n x d)(t:A5 H n xs ds):A5 H n (x::xs) (d::ds):=⟨by simp[t.len],λi a b=>by
 cases i with
 |zero=>exact h
 |succ i=>exact t.at_ i (by simpa using a) (by simpa using b)⟩
theorem TD.Oh{d:Tv}(h:TD H n (.ref a) d):∃m ds xs,n=m+1/\d=.t ds/\cf H a xs/\A5 H m xs ds:=by
 cases n with
 |zero=>cases d<;>exact h.elim
 |succ n=>
  cases d with
  |t ds=>obtain⟨xs,O,Y,h3⟩:=h;exact⟨n,ds,xs,rfl,rfl,O,Y,h3⟩
  |_=>exact h.elim
theorem TD.Oi{d:Tv}(h:TD H n (.str z) d):d=.s z:=by
 cases n<;>(cases d with
  |s z'=>exact congrArg Tv.s (show z=z' from h).symm
  |_=>exact h.elim)
theorem TD.Oj{z:Int}{d:Tv}(h:TD H n (.int z) d):d=.i z:=by
 cases n<;>(cases d with
  |i z'=>exact congrArg Tv.i (show z=z' from h).symm
  |_=>exact h.elim)
theorem TD.v{n:Nat}{v:V}{d:Tv}(h:TD H n v d):(∃z,v=.str z)\/(∃z,v=.int z)\/∃a,v=.ref a:=by
 cases n<;>(cases v<;>first|exact .inl ⟨_,rfl⟩|exact .inr (.inl ⟨_,rfl⟩)|exact .inr (.inr ⟨_,rfl⟩)|(cases d<;>exact h.elim))
theorem wL{ds es:List Tv}{e:Nat->Bool}(c:ds.length=es.length)(h:∀j(a:j<ds.length)(b:j<es.length),e j=true↔ds[j]=es[j]):(List.range ds.length).all e=true↔ds=es:=by
 rw[List.all_eq_true];constructor
 ·intro d;exact Qam c λi a b=>(h i a b).mp (d i (Qaw.mpr a))
 ·rintro rfl j f;have:=Qaw.mp f;exact(h j this this).mpr rfl
theorem YF{ds es:List Tv}{b c:Nat}{ev:Nat->Bool}(d:b=ds.length)(e:c=es.length)(f:∀j(d:j<ds.length)(e:j<es.length),ev j=true↔ds[j]=es[j]):((List.range (min b c)).all ev&&b==c)=true↔Tv.t ds=.t es:=by
 subst d e;rw[QaM];constructor
 ·rintro⟨q1,q2⟩;have a:ds.length=es.length:=by simpa using q2
  rw[<- a,Nat.min_self]at q1;exact congrArg Tv.t ((wL a f).mp q1)
 ·intro q;have g:ds=es:=by injection q
  have a:ds.length=es.length:=by rw[g]
  refine⟨?_,by simp[a]⟩;rw[<- a,Nat.min_self];exact(wL a f).mpr g
noncomputable instance adq:DecidableEq Tv:=Classical.typeDecidableEq Tv
def HT(h:Heap):Nat->Value->Tv->Prop
 |_,v,.s z=>∃t,v=.str z t
 |_,v,.i z=>∃t,v=.int z t
 |n+1,v,.t ds=>∃a b,v=.ref a/\h.IsTuple a b/\b.size=ds.length/\∀j(O:j<b.size)(Y:j<ds.length),HT h n b[j] ds[j]
 |0,_,.t _=>False
def zo(w:World):Nat->Tv->Int
 |_,.s z=>AE w (.inr z)
 |_,.i z=>AE w (.inl z)
 |n+1,.t ds=>reduceHash (Builtin.Tuple.tupleHashOf (ds.map (zo w n)))
 |0,.t _=>0
def BO:Nat->Tv->Nat
 |_,.s _=>1
 |_,.i _=>1
 |n+1,.t ds=>(ds.map (BO n)).sum+1
 |0,.t _=>0
theorem HT.inj : ∀ {n : Nat} {v : Value} {x y : Tv}, HT h n v x -> HT h n v y -> x = y
  | n, v, .s z, y, d, b => by
    have d : ∃ t, v = .str z t := by cases n <;> exact d
    obtain ⟨t, rfl⟩ := d
    cases y with
    | s z' => have b : ∃ c, Value.str z t = .str z' c := by cases n <;> exact b
              obtain ⟨c, e⟩ := b; cases e; rfl
    | i z' => have b : ∃ c, Value.str z t = .int z' c := by cases n <;> exact b
              obtain ⟨c, e⟩ := b; cases e
    | t ds => cases n with
      | zero => exact b.elim
      | succ n => obtain ⟨a, _, e, _⟩ := b; cases e
  | n, v, .i z, y, d, b => by
    have d : ∃ t, v = .int z t := by cases n <;> exact d
    obtain ⟨t, rfl⟩ := d
    cases y with
    | s z' => have b : ∃ c, Value.int z t = .str z' c := by cases n <;> exact b
              obtain ⟨c, e⟩ := b; cases e
    | i z' => have b : ∃ c, Value.int z t = .int z' c := by cases n <;> exact b
              obtain ⟨c, e⟩ := b; cases e; rfl
    | t ds => cases n with
      | zero => exact b.elim
      | succ n => obtain ⟨a, _, e, _⟩ := b; cases e
  | 0, v, .t ds, y, d, b => d.elim
  | n + 1, v, .t ds, y, d, b => by
    obtain ⟨a, g, rfl, r, E, l⟩ := d
    cases y with
    | s z' => obtain ⟨c, e⟩ := (show ∃ c, Value.ref a = .str z' c from b); cases e
    | i z' => obtain ⟨c, e⟩ := (show ∃ c, Value.ref a = .int z' c from b); cases e
    | t es =>
      obtain ⟨G, f, e, u, H, m⟩ := b
      cases e
      obtain ⟨o, w, I, k, A⟩ := r
      obtain ⟨K, p, g2, L, q⟩ := u
      rw [w] at p; cases p
      rw [A] at q; cases q
      congr 1
      exact Qam (by lia) λj C D => HT.inj (l j (by lia) C) (m j (by lia) D)
theorem HT.keeps:∀{n:Nat}{v:Value}{d:Tv},HT h n v d->∀{x:Addr}{o:Obj}{es:Array DictEntry}{ep:Nat},h.get? x=some o->o.data=.dict es ep->Heap.SameBut x h M->HT M n v d
 |n,v,.s z,hx,_,_,_,_,_,_,_=>by cases n<;>exact hx
 |n,v,.i z,hx,_,_,_,_,_,_,_=>by cases n<;>exact hx
 |0,v,.t ds,hx,_,_,_,_,_,_,_=>hx.elim
 |n+1,v,.t ds,hx,x,o,es,ep,ho,hd,hs=>by
  obtain⟨a,items,rfl,⟨q,O,Y,k,h3⟩,sz,at_⟩:=hx;have b:a≠x:=λe=>by rw[e,ho]at O;cases O;rw[hd]at h3;cases h3
  exact⟨a,items,rfl,⟨q,(hs.2 a b).trans O,Y,k,h3⟩,sz,λj c f=>(at_ j c f).keeps ho hd hs⟩
theorem HT.hash(prog:Program):∀{n:Nat}{v:Value}{d:Tv}{A:Around}{E:Value->Shared->Prop}{s:Shared}{Q:Int->Shared->Prop},A.units+n<cLine->HT s.heap n v d->Q (zo w n d) {s with toks:=s.toks+BO n d}->wpAny (model prog w) A (pyHash v) Q E s
 |n,v,.s z,A,E,s,Q,hu,c,h=>by
  have c:∃t,v=.str z t:=by cases n<;>exact c
  obtain⟨t,rfl⟩:=c;have h:Q (AE w (.inr z)) {s with toks:=s.toks+1}:=by cases n<;>exact h
  exact(c_ prog w).pyHash (fE prog w z t) h
 |n,v,.i z,A,E,s,Q,hu,c,h=>by
  have c:∃t,v=.int z t:=by cases n<;>exact c
  obtain⟨t,rfl⟩:=c;have h:Q (AE w (.inl z)) {s with toks:=s.toks+1}:=by cases n<;>exact h
  exact(c_ prog w).pyHash (k:=.inl z) (by show Bl (.inl z) (.int z t)=true;simp[Bl,Value.isInt]) h
 |0,v,.t ds,_,_,_,_,_,c,_=>c.elim
 |n+1,v,.t ds,A,E,s,Q,hu,c,h=>by
  obtain⟨a,items,rfl,⟨o,O,Y,k,h3⟩,sz,at_⟩:=c;have l:s.TypeIs (.ref a) "tuple":=⟨o,O,Y⟩
  unfold pyHash
  first|unfold pyHashByItsType|skip
  first|refine QT (wpAny_cRoomFor_or (.inr (by lia)) ?_)|skip
  refine QT (wpAny_specialOf l F.slot_tuple_hash.lookup ?_);show wpAny _ _ (if(some (Value.builtin "tuple.__hash__")==some Value.none)=true then _ else _) Q E s;rw[if_neg (by rw[beq_builtin_none];exact yH)];refine QT (wpAny_specialOf l F.slot_tuple_hash.lookup ?_);show wpAny _ _ (callSpecialIfBoundUnlessNone? (.ref a) "__hash__" _ >>=_) Q E s;refine QT (wpAny_callSpecialIfBoundUnlessNone?_slot l F.slot_tuple_hash (wpAny_call_entry F.slot_tuple_hash l F.entry_tuple_hash ?_ (F.args_tuple_hash_1 _)));show wpAny _ _ (Builtin.Tuple.tupleItemsOf (.ref a) >>=_) _ _ s;refine QT (wpAny_tupleItemsOf O h3 ?_);refine QT ?_;rw[<- Array.forIn_toList];refine wpAny_forIn_list _
   (λf(b:Array Int)p=>∃i,i<=ds.length/\f=items.toList.drop i/\b.toList=(ds.take i).map (zo w n)/\p={s with toks:=s.toks+((ds.take i).map (BO n)).sum})
   _ ?_ ?_ _ _ ⟨0,Qaj _,rfl,rfl,by simp⟩
  ·rintro x f b p ⟨i,C,e,m,rfl⟩;have u:i<items.toList.length:=by
    by_cases z:i<items.toList.length
    ·exact z
    ·rw[List.drop_eq_nil_of_le (by lia)]at e;cases e
   rw[List.drop_eq_getElem_cons u]at e;obtain⟨rfl,rfl⟩:=Qan e;have q:i<items.size:=by simpa using u
   have r:i<ds.length:=by lia
   have D:=at_ i q r
   have y:ds.take (i+1)=ds.take i++[ds[i]]:=by rw[Qs,Qa r];rfl
   refine QT (HT.hash prog (n:=n) (d:=ds[i]) (by rw[Qbn];lia) (by simpa using D) ?_);have g:∃j,j<=ds.length/\items.toList.drop (i+1)=items.toList.drop j/\(b.push (zo w n ds[i])).toList=(ds.take j).map (zo w n)/\({s with toks:=s.toks+((ds.take i).map (BO n)).sum+BO n ds[i]}:Shared)={s with toks:=s.toks+((ds.take j).map (BO n)).sum}:=⟨i+1,r,rfl,by rw[y,Qm,Array.toList_push,m];rfl,by rw[y,Qm,List.sum_append,<- Nat.add_assoc];rfl⟩
   first
    |exact QU g
    |exact QT (QU (QU g))
  ·rintro b p ⟨i,C,e,m,rfl⟩;have G:i=ds.length:=by
    have:=congrArg List.length e;simp at this
    lia
   subst G;rw[Qo]at m⊢;show wpAny _ _ (retInt (Builtin.Tuple.tupleHashOf b.toList)) _ _ _;rw[m];refine wpAny_ret_mkInt ?_;show wpAny _ _ (if(decide (-(2:Int)^63<=Builtin.Tuple.tupleHashOf (ds.map (zo w n)))&&decide (Builtin.Tuple.tupleHashOf (ds.map (zo w n))<2^63))=true then _ else _) Q E _;have h:Q (reduceHash (Builtin.Tuple.tupleHashOf (ds.map (zo w n)))) {s with toks:=s.toks+((ds.map (BO n)).sum+1)}:=h;unfold reduceHash at h;by_cases e:(decide (-(2:Int)^63<=Builtin.Tuple.tupleHashOf (ds.map (zo w n)))&&decide (Builtin.Tuple.tupleHashOf (ds.map (zo w n))<2^63))=true
   ·rw[if_pos e];rw[if_pos e]at h;exact QU (by simpa[Nat.add_assoc]using h)
   ·rw[if_neg e];rw[if_neg e]at h;exact QT (wpAny_rule (QU (by simpa[Nat.add_assoc]using h)))
theorem HT.eq:∀{n:Nat}{u v:Value}{x y:Tv}{A:Around}{s:Shared},A.units+n<cLine->HT s.heap n u x->HT s.heap n v y->SeqAt.EqAt A s u v (decide (x=y))
 |n,u,v,.s z,y,A,s,hu,f,d=>by
  have f:∃t,u=.str z t:=by cases n<;>exact f
  obtain⟨t,rfl⟩:=f;cases y with
  |s z'=>
   have d:∃c,v=.str z' c:=by cases n<;>exact d
   obtain⟨c,rfl⟩:=d;have e:decide ((Tv.s z)=.s z')=(z==z'):=by by_cases q:z=z'<;>simp[q]
   rw[e];exact SeqAt.EqAt.str_str z t z' c
  |i z'=>
   have d:∃c,v=.int z' c:=by cases n<;>exact d
   obtain⟨c,rfl⟩:=d;have e:decide ((Tv.s z)=.i z')=false:=by simp
   rw[e];exact SeqAt.EqAt.str_int z t z' c
  |t es=>cases n with
   |zero=>exact d.elim
   |succ n=>
    obtain⟨a,items,rfl,it,_⟩:=d;have e:decide ((Tv.s z)=.t es)=false:=by simp
    rw[e];exact SeqAt.EqAt.str_tuple z t it (by lia)
 |n,u,v,.i z,y,A,s,hu,f,d=>by
  have f:∃t,u=.int z t:=by cases n<;>exact f
  obtain⟨t,rfl⟩:=f;cases y with
  |s z'=>
   have d:∃c,v=.str z' c:=by cases n<;>exact d
   obtain⟨c,rfl⟩:=d;have e:decide ((Tv.i z)=.s z')=false:=by simp
   rw[e];exact SeqAt.EqAt.int_str z t z' c
  |i z'=>
   have d:∃c,v=.int z' c:=by cases n<;>exact d
   obtain⟨c,rfl⟩:=d;have e:decide ((Tv.i z)=.i z')=(z==z'):=by by_cases q:z=z'<;>simp[q]
   rw[e];exact SeqAt.EqAt.int_int z t z' c
  |t es=>cases n with
   |zero=>exact d.elim
   |succ n=>
    obtain⟨a,items,rfl,it,_⟩:=d;have e:decide ((Tv.i z)=.t es)=false:=by simp
    rw[e];exact SeqAt.EqAt.int_tuple z t it (by lia)
 |0,_,_,.t ds,_,_,_,_,f,_=>f.elim
 |n+1,u,v,.t ds,y,A,s,hu,f,d=>by
  obtain⟨a,items,rfl,it,sz,at_⟩:=f;cases y with
  |s z'=>
   obtain⟨c,rfl⟩:=(show ∃c,v=.str z' c from d)
   have e:decide ((Tv.t ds)=.s z')=false:=by simp
   rw[e];exact SeqAt.EqAt.tuple_str z' c it (by lia)
  |i z'=>
   obtain⟨c,rfl⟩:=(show ∃c,v=.int z' c from d)
   have e:decide ((Tv.t ds)=.i z')=false:=by simp
   rw[e];exact SeqAt.EqAt.tuple_int z' c it (by lia)
  |t es=>
   have m:=d;obtain⟨b,items',rfl,Ff,Ol,at'⟩:=d;by_cases uz:a=b
   ·subst uz;have e:Tv.t ds=.t es:=HT.inj (h:=s.heap) (n:=n+1) ⟨a,items,rfl,it,sz,at_⟩ m;rw[Qw e];exact SeqAt.EqAt.same _
   ·have o:∀j(k:j<items.size)(l:j<items'.size),SeqAt.EqAt A.in1 s items[j] items'[j] (decide (ds[j]? =es[j]?)):=λj k l=>by
     have:=HT.eq (A:=A.in1) (by rw[Qbn];lia) (at_ j k (by lia)) (at' j l (by lia));have e:decide (ds[j]? =es[j]?)=decide (ds[j]'(by lia)=es[j]'(by lia)):=by
      rw[Qa (show j<ds.length by lia),Qa (show j<es.length by lia)];simp
     rw[e];exact this
    have r:=SeqAt.EqAt.of_refs uz (SeqAt.RcAt.tuples (A:=A) (e:=λj=>decide (ds[j]? =es[j]?)) it Ff (by lia) o);have e:((List.range (min items.size items'.size)).all (λj=>decide (ds[j]? =es[j]?))&&items.size==items'.size)=decide (Tv.t ds=.t es):=by
     rw[sz,Ol];have g:=YF (ds:=ds) (es:=es) (ev:=λj=>decide (ds[j]? =es[j]?)) rfl rfl λj k l=>by
      rw[Qa k,Qa l];simp
     by_cases q:Tv.t ds=.t es
     ·rw[Qw q];exact g.mpr q
     ·rw[Qx q];cases hb:((List.range (min ds.length es.length)).all (λj=>decide (ds[j]? =es[j]?))&&ds.length==es.length)with
      |false=>rfl
      |true=>exact absurd (g.mp hb) q
    rw[<- e];exact r
theorem HT.quiet:∀{n m:Nat}{v:Value}{d:Tv}{A:Around}{E:Value->Shared->Prop}{s:Shared}{Q:Bool->Shared->Prop},n<=m->HT s.heap n v d->Q true s->wpAny (model prog w) A (eqIsQuiet m v) Q E s
 |n,m,v,.s z,A,E,s,Q,hm,b,h=>by
  have b:∃t,v=.str z t:=by cases n<;>exact b
  obtain⟨t,rfl⟩:=b;rw[eqIsQuiet_byValue _ rfl];exact QU h
 |n,m,v,.i z,A,E,s,Q,hm,b,h=>by
  have b:∃t,v=.int z t:=by cases n<;>exact b
  obtain⟨t,rfl⟩:=b;rw[eqIsQuiet_byValue _ rfl];exact QU h
 |0,_,_,.t ds,_,_,_,_,_,b,_=>b.elim
 |n+1,m,v,.t ds,A,E,s,Q,hm,b,h=>by
  obtain⟨a,items,rfl,⟨o,O,Y,k,h3⟩,sz,at_⟩:=b;have g:s.TypeIs (.ref a) "tuple":=⟨o,O,Y⟩
  obtain⟨m,rfl⟩:∃p,m=p+1:=⟨m-1,by lia⟩
  unfold eqIsQuiet;refine QT (wpAny_specialOf g F.slot_tuple_eq.lookup ?_);show wpAny _ _ (isInstance (.ref a) (.type "tuple") >>=_) _ _ s;refine QT (wpAny_isInstance g isSubtype_tuple_tuple ?_);simp only[Bool.not_true,Qak,if_false];refine QT (wpAny_seqItems O h3 ?_);refine QT ?_;show wpAny _ _ (forIn items _ _) _ _ s;rw[<- Array.forIn_toList];refine wpAny_forIn_list _ (λc r e=>r.1=none/\e=s/\∀u∈c,∃d,HT s.heap n u d) _ ?_ ?_ _ _ ⟨rfl,rfl,λu q=>?_⟩
  ·rintro u c r e ⟨f,rfl,l⟩;obtain⟨d,hd⟩:=l u xX;refine QT (HT.quiet (n:=n) (by lia) hd ?_);simp only[Bool.not_true,Qak,if_false];exact QU ⟨rfl,rfl,λu x=>l u (Qh _ x)⟩
  ·rintro⟨r1,r2⟩ e ⟨f,rfl,_⟩;simp only at f;subst f;exact QU h
  ·obtain⟨j,hj,rfl⟩:=Qi q;have y:j<items.size:=by simpa using hj
   exact⟨_,by simpa using at_ j y (by lia)⟩
noncomputable def FQ(prog:Program)(w:World):HeapKind prog w Tv where
 is:=λh d a=>HT h 3 (.ref a) d
 hash:=zo w 3
 draws:=BO 3
 room:=λA=>A.units+3<cLine
 inj:=λhx hy=>hx.inj hy
 keeps:=λx ho hd hs=>x.keeps ho hd hs
 pyHash:=λhu hk h=>HT.hash _ hu hk h
 eqBool:=λhu hx hy h=>HT.eq hu hx hy _ _ _ _ h
 quiet:=λhk h=>HT.quiet (by decide) hk h
section
variable{pos:Pos}
theorem YG:SE X (.Dict [] [] pos) M_:=⟨Vg⟩
end
abbrev ue:=List (Tv×Addr×Addr)
def mz(xs:ue):List (Tv×Addr×Value):=xs.map λx=>(x.1,x.2.1,.ref x.2.2)
def FS(P:Program)(w:World)(a:Addr)(xs:ue)(h:Heap):Prop:=xs.length<=sizeLine/\(a==sysModules)=false/\∃o es ep,h.get? a=some o/\o.ExactDict/\o.data=.dict es ep/\es.toList=(mz xs).map (entryOfKey (FQ P w))/\(xs.map (·.1)).Nodup
theorem FS.keep{xs:ue}{b c:Heap}(h:FS P w a xs b)(k:∀o,b.get? a=some o->c.get? a=some o):FS P w a xs c:=
 let ⟨z,y,o,es,ep,q,r⟩:=h;⟨z,y,o,es,ep,k _ q,r⟩
abbrev iq(P:Program)(w:World)(a:Addr)(xs:ue):HO:=.ext (FS P w a xs)
structure Eh(P:Program)(w:World)(H:Hp)(a:Addr)(xs:ue):Prop where
 at_:H a=some (iq P w a xs)
 ks:∀p∈xs,TD H 3 (.ref p.2.1) p.1
section
variable{xs:ue}
theorem Kw(e:FS P w a xs h):bx P w H h a (iq P w a xs):=⟨e,(let ⟨_,_,o,_,_,ho,_⟩:=e;⟨o,ho⟩),λb c x k=>x.keep k⟩
theorem TD.ht(I:Inv X B Z H s):∀{n:Nat}{x:V}{d:Tv}{v:Value},TD H n x d->RelV x v->HT s.heap n v d:=by
 intro n
 induction n with
 |zero=>
  intro x d v h r;rcases h.v with⟨z,rfl⟩|⟨z,rfl⟩|⟨a,rfl⟩
  ·obtain rfl:=h.Oi;exact r
  ·obtain rfl:=h.Oj;exact r
  ·obtain⟨_,_,_,z,_⟩:=h.Oh;cases z
 |succ n ih=>
  intro x d v h r;rcases h.v with⟨z,rfl⟩|⟨z,rfl⟩|⟨a,rfl⟩
  ·obtain rfl:=h.Oi;exact r
  ·obtain rfl:=h.Oj;exact r
  ·obtain⟨n',ds,xs,e1,rfl,r1,t1⟩:=h.Oh;cases e1;obtain⟨its,v1,p1,_⟩:=I.tuple (ay.Od r1);obtain rfl:v=Value.ref a:=r;have f:=v1.length;have g:=t1.len;refine⟨a,its.toArray,rfl,p1,by simp;lia,λj b c=>?_⟩;obtain⟨w1,f1,q1⟩:=v1.get (Qa (show j<xs.length by lia));have e:its.toArray[j]=w1:=by rw[Qa (by simpa using b)]at f1;simpa using f1
   rw[e];exact ih (t1.at_ j (by lia) c) q1
theorem Eh.real(h:Eh X.prog X.w H a xs)(I:Inv X B Z H s):xs.length<=sizeLine/\(a==sysModules)=false/\s.heap.DictOfH (FQ X.prog X.w) a (mz xs):=by
 obtain⟨z,y,o,es,ep,O,Y,h3,h4,h5⟩:=(show bx X.prog X.w H s.heap a (iq X.prog X.w a xs)from I.hok a _ h.at_).1;refine⟨z,y,o,es,ep,O,Y,h3,h4,λx b=>?_,by simpa[mz,Qn,QC]using h5⟩;obtain⟨p,hp,rfl⟩:=Yy.mp b;exact TD.ht I (h.ks p hp) (v:=.ref p.2.1) rfl
def YH(P:Program)(w:World):TE:=λ_ H Q=>∀D,H D=none->Q (.ref D) (upd H D (iq P w D []))
theorem YI{b:Pos}(P:Program)(w:World)(d:X.prog=P:=by rfl)(e:X.w=w:=by rfl):SE X (.Dict [] [] b) (YH P w):=by
 subst d e;constructor;intro c s g H Q I h;refine wpAny_Dict_empty ⟨.ref s.heap.objs.size,_,I.laid (a:=s.heap.objs.size) (o:=iq X.prog X.w s.heap.objs.size []) (t':=s.toks) (λ_ _ q=>Qc _ q) (Qz _) ?_,rfl,h _ (I.hok.fresh (Qz _))⟩;have f:=rL (P:=X.prog) (w:=X.w) (H:=H) s.heap I.big;obtain⟨_,hy,_,_,o,es,ep,O,Y,h3,h4,h5⟩:=f;obtain⟨_,hd2⟩:=Heap.DictOfH.new (knd:=FQ X.prog X.w) s.heap;obtain⟨YJ,YK,g1,g2,g3,g4,g5,g6⟩:=hd2;exact Kw ⟨Qaj _,hy,_,YJ,YK,g1,g2,g3,g4,by simp⟩
variable{o f:Expr}{td ty tx:TE}
def YL(P:Program)(w:World)(e ty f:TE):TE:=λZ H Q=>e Z H λx H1=>∃a,x=.ref a/\(∃xs,Eh P w H1 a xs)/\ty Z H1 λy H2=>f Z H2 λz c=>∃xs d b l,Eh P w c a xs/\y=.ref b/\z=.ref l/\TD c 3 (.ref b) d/\xs.length<sizeLine/\
 (∀p∈xs,p.1=d->Q (.ref p.2.2) c)/\(d∉xs.map (·.1)->Q (.ref l) (upd c a (iq P w a (xs++[(d,b,l)]))))
theorem Oo{xs:ue}{d:Tv}:(d∉xs.map (·.1)/\atKey (mz xs) d=none)\/∃p∈xs,p.1=d/\atKey (mz xs) d=some (p.2.1,.ref p.2.2):=by
 induction xs with
 |nil=>exact .inl ⟨by simp,rfl⟩
 |cons x xs ih=>
  by_cases hx:x.1=d
  ·refine .inr ⟨x,xX,hx,?_⟩;unfold atKey mz;rw[xA,Qbl (by simpa using hx)];rfl
  ·have e:atKey (mz (x::xs)) d=atKey (mz xs) d:=by
    unfold atKey mz;rw[xA,QaB (by simpa using hx)]
   rw[e];rcases ih with⟨a,b⟩|⟨p,a,b,c⟩
   ·exact .inl ⟨by simp only[xA,Qp,not_or];exact⟨λz=>hx z.symm,a⟩,b⟩
   ·exact .inr ⟨p,Qh _ a,b,c⟩
theorem yM(P:Program)(w:World)(hu:X.A.units+10<cLine)(L:SE X o td)(N:SE X e ty)(R:SE X f tx)(m:M2 X o "setdefault" apos e f cpos)(T:X.prog=P:=by rfl)(V:X.w=w:=by rfl):SE X (.Call (.Attribute o "setdefault" apos) [e,f] [] cpos) (YL P w td ty tx):=by
 subst T V;constructor;intro c s n H Q I h;refine wpAny_Call_method m.base m.few m.line Qav QaE PySem.F.type_dict_setdefault (av (L.h c s n H _ I h) ?_);rintro u s1 ⟨x,H1,C,rx,a,ex,⟨CH,d0⟩,i⟩;subst ex;obtain rfl:u=Value.ref a:=rx;obtain⟨_,_,Oq⟩:=d0.real C;refine⟨Oq.typeIs,(λb hb=>by cases hb;obtain⟨o,es,ep,O,Y,_⟩:=Oq;exact⟨o,O,Y.2.1⟩),?_⟩;rw[m.trees];refine Calls.callWith_builtin rfl (Calls.evalArgs_plain (Calls.spliced_cons (av (N.h c s1 n H1 _ C i) λiv s2 ⟨y,H2,I2,ry,j⟩=>
  Calls.spliced_cons (av (R.h c s2 n H2 _ I2 j) λfv s3 ⟨z,D,k,rz,xs,d,b,l,E,ey,ez,YM,be,g1,g2⟩=>Calls.spliced_nil ?_))))
 subst ey ez;obtain rfl:iv=Value.ref b:=ry;obtain rfl:fv=Value.ref l:=rz;obtain⟨z',hd,dd⟩:=E.real k;have hz:(mz xs).length<=sizeLine:=by simpa[mz]using z'
 refine call_meetsIn QaE dd.typeIs PySem.F.entry_dict_setdefault (Qbf _ _ _) (fG (FQ X.prog X.w) a b hd (.ref l)) ⟨?_,d,mz xs,TD.ht k YM rfl,dd,hz,λp G=>?_,λhn M jx hs=>?_⟩
 ·show(Around.in1 _).units+3<cLine;simp only[Qbn];lia
 ·rcases Oo (xs:=xs) (d:=d)with⟨_,q⟩|⟨r,i,j,g⟩
  ·rw[G]at q;cases q
  ·rw[G]at g;cases g;exact⟨.ref r.2.2,D,k.tok _,rfl,g1 r i j⟩
 ·have hk:d∉xs.map (·.1):=by
   rcases Oo (xs:=xs) (d:=d)with⟨q,_⟩|⟨r,i,j,g⟩
   ·exact q
   ·rw[hn]at g;cases g
  obtain⟨q,es,ep,hq,Y,h3,h4,_,h5⟩:=jx;have K:mz (xs++[(d,b,l)])=mz xs++[(d,b,.ref l)]:=by simp[mz]
  have t:bx X.prog X.w (upd D a (iq X.prog X.w a (xs++[(d,b,l)]))) M a (iq X.prog X.w a (xs++[(d,b,l)])):=Kw ⟨by simp;lia,hd,q,es,ep,hq,Y,h3,by rw[K];exact h4,by
   rw[<- K]at h5;simpa[mz,Qn,QC]using h5⟩
  exact⟨.ref l,_,dX k (by rw[E.at_];exact True.intro) hs ⟨q,hq⟩ t,rfl,g2 hk⟩
def YN(P:Program)(w:World)(b:TE):TE:=λZ H Q=>b Z H λx H1=>∃a xs,x=.ref a/\H1 a=some (iq P w a xs)/\∀o,Q x (upd H1 a (.af o (iq P w a xs)))
theorem YO(P:Program)(w:World)(k:SE X e te)(l:X.prog=P:=by rfl)(m:X.w=w:=by rfl):SE X e (YN P w te):=by
 subst l m;constructor;intro c s n H Q I h;refine av (k.h c s n H _ I h) ?_;rintro v d ⟨x,p,f,r,a,g,t,i,q⟩;have j:=(show bx X.prog X.w p d.heap a (iq X.prog X.w a g)from f.hok a _ i)
 obtain⟨o,ho⟩:=j.2.1;exact⟨x,_,f.write (x:=a) (e:=a) (M:=d.heap) (t':=d.toks) (o:=.af o (iq X.prog X.w a g)) (by rw[i];exact True.intro) (.inl rfl) (λb u _ q=>q) ⟨o,ho⟩ ⟨ho,Kw j.1⟩,r,q o⟩
end
def Ei(xs:ue)(i:Nat):V:=((xs[i]?).map λx=>V.ref x.2.2).getD .aq
def Kx(P:Program)(w:World)(a:Addr)(o:Obj)(xs:ue):It:=⟨λi H=>H a=some (.af o (iq P w a xs))/\i<xs.length,λi H x U=>U=H/\x=Ei xs i,λi H=>H a=some (.af o (iq P w a xs))/\xs.length=i⟩
theorem xB(xs:ue):Ai (Kx P w a o xs) (λH=>H a=some (.af o (iq P w a xs))) xs.length (Ei xs):=λH b=>⟨λi c=>⟨⟨b,c⟩,λx d h=>h⟩,b,rfl⟩
theorem uH{K:Q0}{xs:ue}(y:∃es,o.data=.dict es ep):Turn P w K tg (Kx P w a o xs) [it] it (λi h=>h.IsValIter it a i xs.length ep)where
 mem:=by simp
 obj:=λi h st b g=>by
  have e:b=it:=by simpa using g
  subst e;obtain⟨o,e,c,d⟩:=st;exact⟨o,e,λv z=>by rw[d]at z;cases z⟩
 keep:=λi h m st k=>let ⟨o,e,r⟩:=st;⟨o,k it (by simp) o e,r⟩
 item:=by
  intro X q t u A i f s C H E I p st x;subst q t u;obtain⟨hq,hi⟩:=x;obtain⟨e,⟨z,hd,ob,es,nu,O,Y,h3,h4,h5⟩,_⟩:=(show bx X.prog X.w H s.heap a (.af o (iq X.prog X.w a xs))from I.hok a _ hq)
  obtain⟨es',fh⟩:=y;rw[e]at O;cases O;rw[fh]at h3;injection h3 with ii ik
  subst ii ik;have j:es'.size=xs.length:=by rw[<- Qai,h4,Ql];simp[mz]
  have D:es'[i]? =some (entryOfKey (FQ X.prog X.w) (xs[i].1,xs[i].2.1,.ref xs[i].2.2)):=by
   rw[<- QaJ,h4,Qq];unfold mz;rw[Qq,Qa hi];rfl
  obtain⟨f0,f1,f2,f3,f4,f5⟩:=p it (by simp);refine pH (n:=xs.length) st e fh j D λm l G=>?_;have L:Inv X f C H {s with heap:=m}:=I.turned (t':=s.toks) (λb o g e=>(G.2 b g).trans e) f0 f1 f3 f4 f5;obtain⟨o3,e3,c3,d3⟩:=id l;refine⟨_,rfl,kR (s:={s with heap:=m}) e3 c3 d3 (by decide) ⟨Ei xs i,H,L,?_,⟨rfl,rfl⟩,l,λb g=>(p b g).1⟩⟩;unfold Ei;rw[Qa hi];rfl
 done:=by
  intro X q t u A i f s C H E I p st x;subst q t u;obtain⟨hq,hi⟩:=x;obtain⟨e,⟨z,hd,ob,es,nu,O,Y,h3,h4,h5⟩,_⟩:=(show bx X.prog X.w H s.heap a (.af o (iq X.prog X.w a xs))from I.hok a _ hq)
  obtain⟨es',fh⟩:=y;rw[e]at O;cases O;rw[fh]at h3;injection h3 with ii ik
  subst ii ik;have j:es'.size=xs.length:=by rw[<- Qai,h4,Ql];simp[mz]
  obtain⟨f0,f1,f2,f3,f4,f5⟩:=p it (by simp);exact sG (n:=xs.length) (I.ok.hd A) st e fh j (by lia) λm N=>⟨rfl,I.turned (t':=s.toks) (λb o g e=>N b o g e) f0 f1 f3 f4 f5⟩
 self:=λ_ _ _ _ _ st h=>wpAny_pyIter_valiter st h
section
variable{o:Expr}
def YQ(P:Program)(w:World)(b:TE):TI:=λZ H R=>b Z H λx H1=>∃a xs o,x=.ref a/\H1 a=some (.af o (iq P w a xs))/\R (Kx P w a o xs) H1
theorem YR(P:Program)(w:World)(m:SE X o to)(n:X.prog=P:=by rfl)(p:X.w=w:=by rfl)(r:attributeBase o "values" X.env (eval o X.env)=eval o X.env:=by rfl)(t:(apos.endLine==cpos.line)=true:=by rfl):
  SI X tg (.Call (.Attribute o "values" apos) [] [] cpos) (YQ P w to):=by
 subst n p;constructor;intro c s k H R I h;refine wpAny_Call_method0_late r t (av (m.h c s k H _ I h) ?_);rintro v d ⟨x,u,l,y,a,xs,o,A,C,q⟩;subst A;cases y;obtain⟨e,⟨z,we,ob,es,ep,O,Y,hd,h4,h5⟩,_⟩:=(show bx X.prog X.w _ d.heap a (.af o (iq X.prog X.w a xs))from l.hok a _ C)
 rw[e]at O;cases O;have f:es.size=xs.length:=by rw[<- Qai,h4,Ql];simp[mz]
 have g:d.TypeIs (.ref a) "dict":=⟨o,e,Y.1⟩
 refine⟨"dict","dict.values",Qav,QaN,PySem.F.type_dict_values,g,λb i=>by cases i;exact⟨o,e,Y.2.1⟩,Calls.callWith_builtin rfl (QaW ?_)⟩;refine call_meetsIn QaN g PySem.F.entry_dict_values (PySem.F.args_dict_values_1 _) (i9 a we) ⟨g,?_⟩;have j:Inv X c k u {d with heap:=d.heap.push {cls:=.type "dict_values",data:=.fields #[.ref a]}}:=l.kept (t':=d.toks) λb o e=>Qc _ e;refine gR (es:=es) (ep:=ep) ⟨_,Qd _ rfl,rfl,rfl⟩ (Qc _ e) hd ?_;refine⟨_,[(d.heap.push {cls:=.type "dict_values",data:=.fields #[.ref a]}).objs.size],_,_,_,rfl,j.kept (t':=d.toks) λb o e=>Qc _ e,uH (xs:=xs) (a:=a) (o:=o) ⟨es,hd⟩,by rw[<- f];exact⟨_,Qd _ rfl,rfl,rfl⟩,λb i=>?_,q⟩;have e:b=(d.heap.push {cls:=.type "dict_values",data:=.fields #[.ref a]}).objs.size:=by simpa using i
 subst e;exact j.sy (Qz _) (j.hok.fresh (Qz _))
end
abbrev Tg:=Str×Str
abbrev AF:=Tg->Option Tg
inductive nc (f:AF):Tg->Tg->Prop where
 |top {x:Tg} (h:f x=none):nc f x x
 |up {x u r:Tg} (h:f x=some u) (t:nc f u r):nc f x r
theorem nc.YS{f:AF}{x r a:Tg}(h:nc f x r)(M:nc f x a):r=a:=by
 induction h with
 |top h=>
  cases M with
  |top _=>rfl
  |up O _=>rw[h]at O;cases O
 |up O _ ih=>
  cases M with
  |top h=>rw[h]at O;cases O
  |up Y t=>rw[O]at Y;cases Y;exact ih t
def HE(f:AF)(n:Nat):Prop:=∃ρ:Tg->Nat,(∀x y,f x=some y->ρ x<ρ y)/\∀x,ρ x<=n
theorem YT{f:AF}(a:HE f n)(x:Tg):∃r,nc f x r:=by
 obtain⟨ρ,p1,p2⟩:=a;have:∀m x,n-ρ x<=m->∃r,nc f x r:=by
  intro m
  induction m with
  |zero=>
   intro x b;cases h:f x with
   |none=>exact⟨x,.top h⟩
   |some u=>have c:=p1 _ _ h;have d:=p2 u;lia
  |succ m ih=>
   intro x b;cases h:f x with
   |none=>exact⟨x,.top h⟩
   |some u=>
    have c:=p1 _ _ h;have d:=p2 u;obtain⟨r,hr⟩:=ih u (by lia);exact⟨r,.up h hr⟩
 exact this _ x (Qz _)
theorem bY:∀{l m:List α},l.Nodup->(∀x∈l,x∈m)->l.length<=m.length:=by
 classical
 intro l m a b;exact @mD α (Classical.typeDecidableEq α) l m a b
abbrev Pr:=Str×Str
def wq(r1 r2:List aj)(p:Pr)(s:Qbo):Pr:=((fq r1 p.1 s).getD "",(fq r2 p.2 s).getD "")
def ng(r1 r2:List aj)(p:Pr):Prop:=(ai r1 p.1).bj=(ai r2 p.2).bj/\stH (ai r1 p.1)=stH (ai r2 p.2)
structure Ot(r1 r2:List aj)(n1 n2:Qbo)(p:Pr):Prop where
 a:gj r1 n1 p.1
 b:gj r2 n2 p.2
def lf(a:Str):Tg:=("left",a)
def rg(a:Str):Tg:=("right",a)
def HF(r1 r2:List aj)(p:Pr):List (Qbo×Pr):=(stH (ai r1 p.1)).map λs=>(s,wq r1 r2 p s)
def CZ(s:Qbo):Tv:=.t (s.map Tv.s)
def gm(h:Hd):Tv:=.t [.s h.bj,.t ((stH h).map CZ)]
theorem tG{H:Hp}{n:Nat}:∀s:Qbo,A5 H n (s.map V.str) (s.map Tv.s)
 | []=>.nil
 |z::s=>.cons TD.str (tG s)
theorem SV.YU{us:Qby}(h:SV H us ss):A5 H 1 us (ss.map CZ):=by
 have a:=h.len;refine⟨by simpa using a,λi c d=>?_⟩;obtain⟨b,e1,e2⟩:=h.at_ i c (by lia)
 rw[e1,Qr];exact TD.tup e2 (tG _)
theorem CY.td{h:Hd}(m:CY H b h):TD H 3 (.ref b) (gm h):=by
 obtain⟨c,us,e1,e2,e3⟩:=m;refine TD.tup (.inl e1) (.cons TD.str (.cons (TD.tup (.inl e2) e3.YU) .nil))
theorem zU{xs ys:Qbo}(h:xs.map Tv.s=ys.map Tv.s):xs=ys:=by
 induction xs generalizing ys with
 |nil=>cases ys with
  |nil=>rfl
  |cons y ys=>simp at h
 |cons x xs ih=>cases ys with
  |nil=>simp at h
  |cons y ys=>
   simp only[xA,Qa1,Tv.s.injEq]at h;rw[h.1,ih h.2]
theorem wS{xs ys:List Qbo}(h:xs.map CZ=ys.map CZ):xs=ys:=by
 induction xs generalizing ys with
 |nil=>cases ys with
  |nil=>rfl
  |cons y ys=>simp at h
 |cons x xs ih=>cases ys with
  |nil=>simp at h
  |cons y ys=>
   simp only[xA,Qa1,CZ,Tv.t.injEq]at h;rw[zU h.1,ih h.2]
theorem Ou{h M:Hd}:(gm h=gm M)↔h.bj=M.bj/\stH h=stH M:=by
 unfold gm;constructor
 ·intro e;have a:[Tv.s h.bj,Tv.t ((stH h).map CZ)]=[Tv.s M.bj,Tv.t ((stH M).map CZ)]:=by injection e
  simp only[Qa1,Tv.s.injEq,Tv.t.injEq,and_true]at a;exact⟨a.1,wS a.2⟩
 ·rintro⟨e1,e2⟩;rw[e1,e2]
inductive Cg (E:Tg->Tg->Prop):Tg->Tg->Prop where
 |refl (x:Tg):Cg E x x
 |base {x y:Tg} (h:E x y):Cg E x y
 |symm {x y:Tg} (h:Cg E x y):Cg E y x
 |trans {x y z:Tg} (h:Cg E x y) (M:Cg E y z):Cg E x z
theorem Cg.mono{E a:Tg->Tg->Prop}(k:∀x y,E x y->a x y){x y:Tg}(h:Cg E x y):Cg a x y:=by
 induction h with
 |refl x=>exact .refl x
 |base h=>exact .base (k _ _ h)
 |symm _ ih=>exact .symm ih
 |trans _ _ i1 i2=>exact .trans i1 i2
abbrev Ej:=List (Pr×Option (Nat×Qbo))
def Ek(a:Qbs)(st:Ej)(i:Nat)(x y:Tg):Prop:=∃k c,k∈a/\k<i/\st[k]? =some c/\x=lf c.1.1/\y=rg c.1.2
def YV(r1:List aj)(st:Ej)(o d:Option (Nat×Qbo)):Prop:=match o,d with
 |none,_=>True
 |some (j,s),some (j',s')=>j<j'\/(j=j'/\∃c,st[j]? =some c/\∃a b:Nat,a<b/\(stH (ai r1 c.1.1))[a]? =some s/\(stH (ai r1 c.1.1))[b]? =some s')
 |some _,none=>False
structure FT(r1 r2:List aj)(n1 n2:Qbo)(i:Nat)(st:Ej)(un:Qbs)(f:AF)(n:Nat):Prop where
 ok:∀c∈st,Ot r1 r2 n1 n2 c.1
 tr:∀(k:Nat)(c:Pr×Option (Nat×Qbo))(j:Nat)(s:Qbo),st[k]? =some c->c.2=some (j,s)->j<k/\j<i/\j∈un/\∃c',st[j]? =some c'/\s∈stH (ai r1 c'.1.1)/\wq r1 r2 c'.1 s=c.1
 od:∀(k k':Nat)(c c':Pr×Option (Nat×Qbo)),k<k'->st[k]? =some c->st[k']? =some c'->YV r1 st c.2 c'.2
 me:∀j c,j<i->st[j]? =some c->ng r1 r2 c.1/\(j∈un->∀s∈stH (ai r1 c.1.1),∃(k:Nat)(c':Pr×Option (Nat×Qbo)),st[k]? =some c'/\c'.2=some (j,s))/\(j∉un->Cg (Ek un st j) (lf c.1.1) (rg c.1.2))
 cn:∀x y r,nc f x r->nc f y r->Cg (Ek un st i) x y
 ul:∀k∈un,k<i
 few:st.length<=1+10*n
 Ov:HE f n
 zn:∀(k:Nat)(c:Pr×Option (Nat×Qbo)),st[k]? =some c->c.2=none->k=0
theorem Ek.mono{b d:Qbs}{st a:Ej}{e:Nat}(f:∀k∈b,k∈d)(g:∀(k:Nat)(c:Pr×Option (Nat×Qbo)),st[k]? =some c->a[k]? =some c)(j:i<=e){x y:Tg}(h:Ek b st i x y):Ek d a e x y:=by
 obtain⟨k,c,q1,q2,q3,q4⟩:=h;exact⟨k,c,f _ q1,by lia,g _ _ q3,q4⟩
theorem nX{f b:AF}(a:HE f n)(h:∀z r,nc f z r->nc b z r){x r:Tg}(c:nc b x r):nc f x r:=by
 obtain⟨r0,h0⟩:=YT a x;rw[c.YS (h _ _ h0)];exact h0
theorem FT.skip{p t:Qbo}{st:Ej}{b:Qbs}{f a:AF}(h:FT r1 r2 p t i st b f n){c:Pr×Option (Nat×Qbo)}(w:st[i]? =some c)(me:ng r1 r2 c.1)(ac:HE a n)(u:∀z r,nc f z r->nc a z r){r:Tg}(A:nc a (lf c.1.1) r)(C:nc a (rg c.1.2) r):FT r1 r2 p t (i+1) st b a n:=by
 have cn:∀x y r,nc a x r->nc a y r->Cg (Ek b st i) x y:=λx y r d g=>h.cn x y r (nX h.Ov u d) (nX h.Ov u g);refine⟨h.ok,λk l j s m e=>?_,h.od,λj l D o=>?_,λx y r d g=>?_,λk m=>by have:=h.ul k m;lia,h.few,ac,h.zn⟩
 ·obtain⟨a1,a2,a3⟩:=h.tr k l j s m e;exact⟨a1,by lia,a3⟩
 ·by_cases FU:j=i
  ·subst FU;rw[w]at o;cases o;exact⟨me,λz=>by have:=h.ul _ z;lia,λ_=>cn _ _ _ A C⟩
  ·exact h.me j l (by lia) o
 ·exact(cn x y r d g).mono λx y q=>q.mono (λ_ h=>h) (λ_ _ h=>h) (by lia)
theorem FT.start{i l:Qbo}{p:Pr}(m:Ot r1 r2 i l p):FT r1 r2 i l 0 [(p,none)] [] (λ_=>none) 0:=by
 have one:∀(k:Nat)(c:Pr×Option (Nat×Qbo)),([(p,none)]:Ej)[k]? =some c->k=0/\c=(p,none):=λk c d=>by
  cases k with
  |zero=>exact⟨rfl,by simpa using d.symm⟩
  |succ k=>simp at d
 refine⟨λc n=>by rw[qI.mp n];exact m,λk c j s d e=>?_,λk o c q u f g=>?_,λj c t=>absurd t (by lia),λx y r f g=>?_,λk d=>absurd d (by simp),by simp,⟨λ_=>0,λx y h=>(nomatch h),λ_=>Qz _⟩,λk c d _=>(one k c d).1⟩
 ·rw[(one k c d).2]at e;cases e
 ·have a:=(one k c f).1;have b:=(one o q g).1;lia
 ·cases f with
  |top _=>cases g with
   |top _=>exact .refl _
   |up h _=>cases h
  |up h _=>cases h
def A6(r1 r2:List aj)(x:Tg):Hd:=if x.1="left" then ai r1 x.2 else ai r2 x.2
def Oz(r1 r2:List aj)(x:Tg)(s:Qbo):Tg:=(x.1,(if x.1="left" then fq r1 x.2 s else fq r2 x.2 s).getD "")
def OA:Qbs->Qbs->Prop
 |a::as,b::bs=>a<b\/(a=b/\OA as bs)
 |_,_=>False
def OB(w v:Qbs):Prop:=w.length<v.length\/(w.length=v.length/\OA w v)
def YX(w v:Qbs):Prop:=w=v\/OB w v
section
variable{N Lb:Type}(nx:N->List (Lb×N))
def C3:N->Qbs->Option N
 |n,[]=>some n
 |n,k::ks=>match(nx n)[k]? with
  |some q=>C3 q.2 ks
  |none=>none
structure BW(n0:N)(i:Nat)(st:List (N×Qbs)):Prop where
 z:st[0]? =some (n0,[])
 go:∀c∈st,C3 nx n0 c.2=some c.1
 up:∀(k k':Nat)(c c':N×Qbs),k<k'->st[k]? =some c->st[k']? =some c'->OB c.2 c'.2
 cl:∀(k:Nat)(c:N×Qbs),k<i->st[k]? =some c->∀(p:Nat)(q:Lb×N),(nx c.1)[p]? =some q->∃c'∈st,c'.1=q.2/\YX c'.2 (c.2++[p])
variable{nx}
end
section
variable{N Lb:Type}{nx:N->List (Lb×N)}
structure LS(nx:N->List (Lb×N))(n0:N)(i:Nat)(st:List (N×Qbs))(ms:List N):Prop where
 bw:BW nx n0 i st
 pr:∀d∈st,d.2=[]\/∃(k':Nat)(d':N×Qbs)(p:Nat),k'<i/\st[k']? =some d'/\d.2=d'.2++[p]
 ex:∀t∈ms,∃(k:Nat)(c:N×Qbs),k<i/\st[k]? =some c/\c.1=t/\∀(p:Nat)(q:Lb×N),(nx t)[p]? =some q->(q.2,c.2++[p])∈st
theorem LS.start(e:N):LS nx e 0 [(e,[])] []:=by
 have one:∀(k:Nat)(c:N×Qbs),([(e,[])]:List (N×Qbs))[k]? =some c->k=0/\c=(e,[]):=λk c f=>by
  cases k with
  |zero=>exact⟨rfl,by simpa using f.symm⟩
  |succ k=>simp at f
 refine⟨⟨rfl,λc g=>by rw[qI.mp g];rfl,λk h c i o j l=>?_,λk c f=>absurd f (by lia)⟩,λd m=>by rw[qI.mp m];exact .inl rfl,λt n=>nomatch n⟩;have a:=(one k c j).1;have b:=(one h i l).1;lia
end
open Classical in
noncomputable def HG(r1 r2:List aj)(p:Pr):List (Qbo×Pr):=if ng r1 r2 p then HF r1 r2 p else[]
def YY(r1 r2:List aj)(p:Pr):Prop:=¬ng r1 r2 p
section
variable{m1 m2:Qbo}{p p0 m:Pr}
theorem OC(h:ng r1 r2 p):HG r1 r2 p=HF r1 r2 p:=if_pos h
theorem wK(r1 r2:List aj)(p:Pr)(a:Nat):(HF r1 r2 p)[a]? =((stH (ai r1 p.1))[a]?).map λs=>(s,wq r1 r2 p s):=by unfold HF;rw[Qq]
def BP(r1 r2:List aj):Nat->Tg->Tg->Prop
 |0,x,y=>(A6 r1 r2 x).bj=(A6 r1 r2 y).bj/\stH (A6 r1 r2 x)=stH (A6 r1 r2 y)
 |n+1,x,y=>((A6 r1 r2 x).bj=(A6 r1 r2 y).bj/\stH (A6 r1 r2 x)=stH (A6 r1 r2 y))/\∀s∈stH (A6 r1 r2 x),BP r1 r2 n (Oz r1 r2 x s) (Oz r1 r2 y s)
theorem BP.symm:∀{n:Nat}{x y:Tg},BP r1 r2 n x y->BP r1 r2 n y x
 |0,_,_,h=>⟨h.1.symm,h.2.symm⟩
 |n+1,_,_,h=>⟨⟨h.1.1.symm,h.1.2.symm⟩,λs a=>(h.2 s (by rw[h.1.2];exact a)).symm⟩
theorem BP.trans:∀{n:Nat}{x y z:Tg},BP r1 r2 n x y->BP r1 r2 n y z->BP r1 r2 n x z
 |0,_,_,_,h,M=>⟨h.1.trans M.1,h.2.trans M.2⟩
 |n+1,_,_,_,h,M=>⟨⟨h.1.1.trans M.1.1,h.1.2.trans M.1.2⟩,λs a=>(h.2 s a).trans (M.2 s (by rw[<- h.1.2];exact a))⟩
theorem rP{N a:Type}(nx:N->List (a×N))(n:N)(k:Nat)(ks:Qbs):C3 nx n (k::ks)=match(nx n)[k]? with|some q=>C3 nx q.2 ks|none=>none:=rfl
end
def mr(r1 r2:List aj):Nat->Pr->Prop
 |0,p=>ng r1 r2 p
 |n+1,p=>ng r1 r2 p/\∀s∈stH (ai r1 p.1),mr r1 r2 n (wq r1 r2 p s)
def bu(r1 r2:List aj)(p:Pr):Prop:=∀v m,C3 (HG r1 r2) p v=some m->¬YY r1 r2 m
section
variable{r3:List aj}{p p0 m:Pr}{a b c:Str}
theorem mr.top:∀{n:Nat}{p:Pr},mr r1 r2 n p->ng r1 r2 p
 |0,_,h=>h
 |_+1,_,h=>h.1
theorem ng.symm(h:ng r1 r2 (a,b)):ng r2 r1 (b,a):=⟨h.1.symm,h.2.symm⟩
theorem mr.refl:∀(n:Nat)(a:Str),mr r1 r1 n (a,a)
 |0,_=>⟨rfl,rfl⟩
 |n+1,a=>⟨⟨rfl,rfl⟩,λs _=>mr.refl n _⟩
theorem mr.symm:∀{n:Nat}{a b:Str},mr r1 r2 n (a,b)->mr r2 r1 n (b,a)
 |0,_,_,h=>ng.symm h
 |n+1,a,b,h=>⟨h.1.symm,λs c=>(h.2 s (by rw[h.1.2];exact c)).symm⟩
theorem mr.trans:∀{n:Nat}{a b c:Str},mr r1 r2 n (a,b)->mr r2 r3 n (b,c)->mr r1 r3 n (a,c)
 |0,_,_,_,h,M=>⟨h.1.trans M.1,h.2.trans M.2⟩
 |n+1,a,b,c,h,M=>⟨⟨h.1.1.trans M.1.1,h.1.2.trans M.1.2⟩,λs d=>(h.2 s d).trans (M.2 s (by
   have:=h.1.2;rw[<- show stH (ai r1 a)=stH (ai r2 b)from this];exact d))⟩
theorem kP:∀{n:Nat}{p:Pr},(∀r m,r.length<=n->C3 (HG r1 r2) p r=some m->ng r1 r2 m)->mr r1 r2 n p
 |0,p,h=>h [] p (Qz _) rfl
 |n+1,p,h=>by
  have b:=h [] p (Qaj _) rfl;refine⟨b,λs c=>?_⟩;obtain⟨a,ha,ea⟩:=Qi c;refine kP λr m e d=>h (a::r) m (by simp;lia) ?_;rw[rP,OC b,wK,Qa ha,ea];exact d
theorem kT:∀{n:Nat}{p:Pr},mr r1 r2 n p->∀{r:Qbs}{m:Pr},r.length<=n->C3 (HG r1 r2) p r=some m->ng r1 r2 m
 |n,p,h,[],m,_,hg=>by cases hg;exact h.top
 |n+1,p,h,a::r,m,hl,hg=>by
  have b:=h.top;rw[rP,OC b,wK]at hg;cases hs:(stH (ai r1 p.1))[a]? with
  |none=>rw[hs]at hg;cases hg
  |some s=>
   rw[hs]at hg;exact kT (h.2 s (QD hs)) (by simpa using hl) hg
 |0,p,h,a::r,m,hl,hg=>absurd hl (by simp)
theorem d9:bu r1 r2 p↔∀n,mr r1 r2 n p:=
 ⟨λh n=>kP λr m _ a=>Qa3 (h r m a),λh v m a b=>b (kT (h v.length) (Qz _) a)⟩
theorem bu.symm(h:bu r1 r2 (a,b)):bu r2 r1 (b,a):=d9.mpr λn=>(d9.mp h n).symm
theorem bu.trans(h:bu r1 r2 (a,b))(M:bu r2 r3 (b,c)):bu r1 r3 (a,c):=d9.mpr λn=>(d9.mp h n).trans (d9.mp M n)
theorem bu.refl:bu r1 r1 (a,a):=d9.mpr λn=>mr.refl n a
theorem bu.me(h:bu r1 r2 p):ng r1 r2 p:=d9.mp h 0
theorem bu.kid(h:bu r1 r2 p){s:Qbo}(hs:s∈stH (ai r1 p.1)):bu r1 r2 (wq r1 r2 p s):=d9.mpr λn=>(d9.mp h (n+1)).2 s hs
end
def El(y a:Str):Prop:=a=y++"q"\/a=y++"r"
def Em:Hd->Hd->Prop
 | .one s,.one s'=>s'=s
 | .as y,.as y'=>El y y'
 | .way x y,.way x' y'=>El x x'/\El y y'
 | .prs s ps,.prs s' qs=>s'=s/\qs.length=ps.length/\∀j(O:j<qs.length)(Y:j<ps.length),qs[j].1=ps[j].1/\El ps[j].2 qs[j].2
 |_,_=>False
theorem Em.nx:∀{h M:Hd},Em h M->(h.nx=none/\M.nx=none)\/∃y a,h.nx=some y/\M.nx=some a/\El y a
 | .one _,.one _,_=>.inl ⟨rfl,rfl⟩
 | .as y,.as a,t=>.inr ⟨y,a,rfl,rfl,t⟩
 | .way _ _,.way _ _,_=>.inl ⟨rfl,rfl⟩
 | .prs _ _,.prs _ _,_=>.inl ⟨rfl,rfl⟩
theorem Em.bj:∀{h M:Hd},Em h M->h.bj=M.bj
 | .one _,.one _,t=>by cases t;rfl
 | .as _,.as _,_=>rfl
 | .way _ _,.way _ _,_=>rfl
 | .prs _ _,.prs _ _,t=>by obtain⟨rfl,_⟩:=t;rfl
theorem Em.bf{h M:Hd}(t:Em h M):M.bf.length=h.bf.length/\∀j(a:j<M.bf.length)(b:j<h.bf.length),M.bf[j].1=h.bf[j].1/\El h.bf[j].2 M.bf[j].2:=by
 cases h with
 |one s=>cases M with
  |one s'=>exact⟨rfl,λj a=>absurd a (by simp[Hd.bf])⟩
  |as _=>exact t.elim
  |way _ _=>exact t.elim
  |prs _ _=>exact t.elim
 |as y=>cases M with
  |as y'=>exact⟨rfl,λj a=>absurd a (by simp[Hd.bf])⟩
  |one _=>exact t.elim
  |way _ _=>exact t.elim
  |prs _ _=>exact t.elim
 |way x y=>cases M with
  |way x' y'=>
   refine⟨rfl,λj a b=>?_⟩;have c:j<2:=a
   match j,c with
   |0,_=>exact⟨rfl,t.1⟩
   |1,_=>exact⟨rfl,t.2⟩
  |one _=>exact t.elim
  |as _=>exact t.elim
  |prs _ _=>exact t.elim
 |prs s ps=>cases M with
  |prs s' qs=>
   obtain⟨rfl,hl,ht⟩:=t;refine⟨by simp[Hd.bf,hl],λj a b=>?_⟩;have:=ht j (by simpa[Hd.bf]using a) (by simpa[Hd.bf]using b);simp only[Hd.bf,Qr];exact⟨by rw[this.1],this.2⟩
  |one _=>exact t.elim
  |as _=>exact t.elim
  |way _ _=>exact t.elim
section
variable{rows AU:List aj}
theorem ip.HH(g:ip rows ns)(a:x∈ns):(x,ai rows x)∈rows:=by
 obtain⟨_,_,_,_,rt,_⟩:=g;obtain⟨r,hr,rfl⟩:=Yy.mp (rt.nm.mem_iff.mpr a);rw[bN rt.ia hr];exact hr
theorem ip.step(g:ip rows ns)(c:x∈ns):(jb rows x=none->endOf rows x=x)/\∀y,jb rows x=some y->y∈ns/\endOf rows y=endOf rows x:=by
 obtain⟨H,a,xs,ws,rt,hw⟩:=g;obtain⟨rs,g,nm,rl,hv⟩:=rt.good hw;have b:∀z,z∈rs.map (·.1)↔z∈ns:=λz=>by rw[nm];exact rt.nm.mem_iff
 constructor
 ·intro e;exact cH _ e
 ·intro y e;have d:=g.JR ((b x).mpr c) e;rw[rl]at d;refine⟨?_,d⟩;obtain⟨r,hr,rfl⟩:=Yy.mp ((b x).mpr c);exact(b y).mp (g.jl r hr y e).1
variable{Aq:Qbo}
end
def dl(rows:List aj)(a:Str)(s:Qbo):Str:=(fq rows a s).getD ""
theorem YZ(r1 r2:List aj)(a b:Str)(s:Qbo):wq r1 r2 (a,b) s=(dl r1 a s,dl r2 b s):=rfl
structure A7(rows:List aj)(R:Qbo)(J:Str->Nat)(wt:Qbs):Prop where
 co:∀a∈R,∀b∈R,bu rows rows (a,b)->J a=J b
 me:∀a∈R,∀b∈R,J a=J b->ng rows rows (a,b)
 st:∀a∈R,∀b∈R,J a=J b->∀s∈stH (ai rows a),J (dl rows a s)=J (dl rows b s)\/J (dl rows a s)∈wt\/J (dl rows b s)∈wt
structure vg(rows:List aj)(R:Qbo)(J:Str->Nat)(wt:Qbs)(W:Qbo)(dn:List Qbo):Prop where
 co:∀a∈R,∀b∈R,bu rows rows (a,b)->J a=J b
 me:∀a∈R,∀b∈R,J a=J b->ng rows rows (a,b)
 st:∀a∈R,∀b∈R,J a=J b->∀s∈stH (ai rows a),J (dl rows a s)=J (dl rows b s)\/J (dl rows a s)∈wt\/J (dl rows b s)∈wt\/(s∉dn/\¬(dl rows a s∈W↔dl rows b s∈W))
 un:∀a∈R,∀b∈R,J a=J b->(a∈W↔b∈W)
 sd:∀s∈dn,∀a∈R,∀b∈R,J a=J b->s∈stH (ai rows a)->(dl rows a s∈W↔dl rows b s∈W)
section
variable{rows:List aj}{R W:Qbo}{wt ee:Qbs}{dn:List Qbo}
def En(rows:List aj)(R:Qbo):Prop:=∀a∈R,∀s∈stH (ai rows a),dl rows a s∈R
theorem A7.done(h:A7 rows R J [])(i:En rows R){a b:Str}(c:a∈R)(d:b∈R):J a=J b↔bu rows rows (a,b):=by
 refine⟨λe=>?_,h.co a c b d⟩;have g:∀n a b,a∈R->b∈R->J a=J b->mr rows rows n (a,b):=by
  intro n
  induction n with
  |zero=>exact λa b c d e=>h.me a c b d e
  |succ n ih=>
   intro a b c d e;have j:=h.me a c b d e;refine⟨j,λs f=>?_⟩;have f:s∈stH (ai rows a):=f;have k:s∈stH (ai rows b):=by rw[<- show stH (ai rows a)=stH (ai rows b)from j.2];exact f
   rw[YZ];refine ih _ _ (i a c s f) (i b d s k) ?_;rcases h.st a c b d e s f with z|z|z
   ·exact z
   ·cases z
   ·cases z
 exact d9.mpr λn=>g n a b c d e
theorem A7.take{at_:Nat}(h:A7 rows R J wt)(i:∀k∈wt,k∈ee\/k=at_)(c:∀x∈R,(x∈W↔J x=at_))(j:En rows R):vg rows R J ee W []:=by
 refine⟨h.co,h.me,λa d b f e s g=>?_,λa d b f e=>by rw[c a d,c b f,e],λs g=>nomatch g⟩;have n:s∈stH (ai rows b):=by rw[<- show stH (ai rows a)=stH (ai rows b)from(h.me a d b f e).2];exact g
 have l:=j a d s g;have m:=j b f s n;by_cases hx:J (dl rows a s)=J (dl rows b s)
 ·exact .inl hx
 rcases h.st a d b f e s g with z|z|z
 ·exact .inl z
 ·rcases i _ z with z|z
  ·exact .inr (.inl z)
  ·refine .inr (.inr (.inr ⟨by simp,λq=>hx ?_⟩));rw[c _ l,c _ m]at q;rw[z,q.mp z]
 ·rcases i _ z with z|z
  ·exact .inr (.inr (.inl z))
  ·refine .inr (.inr (.inr ⟨by simp,λq=>hx ?_⟩));rw[c _ l,c _ m]at q;rw[z,q.mpr z]
open Classical in
noncomputable def uf(J:Str->Nat)(l:Qbo)(a:Nat)(x:Str):Nat:=if x∈l then a else J x
theorem vg.split(h:vg rows R J wt W dn){l:Qbo}{k c:Nat}(o:∀x∈l,x∈R/\J x=k)(cl:∀a∈l,∀b∈R,bu rows rows (a,b)->b∈l)(t:∀x∈R,J x≠c)(u:En rows R)(D:∀j∈wt,j∈ee)(E:k∈wt->c∈ee)(y:c∈ee\/k∈ee):vg rows R (uf J l c) ee W dn:=by
 have n:∀{x},x∈l->uf J l c x=c:=fun{x}q=>if_pos q;have d:∀{x},x∉l->uf J l c x=J x:=fun{x}q=>if_neg q;have m:∀a∈R,∀b∈R,uf J l c a=uf J l c b->J a=J b/\(a∈l↔b∈l):=λa f b g e=>by
  by_cases O:a∈l
  ·rw[n O]at e;by_cases i:b∈l
   ·exact⟨(o a O).2.trans (o b i).2.symm,⟨λ_=>i,λ_=>O⟩⟩
   ·rw[d i]at e;exact absurd e.symm (t b g)
  ·rw[d O]at e;by_cases i:b∈l
   ·rw[n i]at e;exact absurd e (t a f)
   ·rw[d i]at e;exact⟨e,⟨λz=>absurd z O,λz=>absurd z i⟩⟩
 -- a number ads adt adu on adw
 have A:∀x∈R,J x∈wt->uf J l c x∈ee:=λx q C=>by
  by_cases O:x∈l
  ·rw[n O];exact E (by rw[<- (o x O).2];exact C)
  ·rw[d O];exact D _ C
 refine⟨λa f b g r=>?_,λa f b g e=>h.me a f b g (m a f b g e).1,λa f b g e s p=>?_,λa f b g e=>h.un a f b g (m a f b g e).1,λs p a f b g e=>h.sd s p a f b g (m a f b g e).1⟩
 ·by_cases O:a∈l
  ·rw[n O,n (cl a O b g r)]
  ·have i:b∉l:=λz=>O (cl b z a f r.symm);rw[d O,d i];exact h.co a f b g r
 ·obtain⟨e0,_⟩:=m a f b g e;have G:s∈stH (ai rows b):=by rw[<- show stH (ai rows a)=stH (ai rows b)from(h.me a f b g e0).2];exact p
  have H:=u a f s p;have I:=u b g s G;rcases h.st a f b g e0 s p with z|z|z|z
  ·by_cases O:dl rows a s∈l
   ·by_cases i:dl rows b s∈l
    ·exact .inl (by rw[n O,n i])
    ·rw[n O,d i];have:J (dl rows b s)=k:=by rw[<- z];exact(o _ O).2
     rcases y with w|w
     ·exact .inr (.inl w)
     ·exact .inr (.inr (.inl (by rw[this];exact w)))
   ·by_cases i:dl rows b s∈l
    ·rw[d O,n i];have:J (dl rows a s)=k:=by rw[z];exact(o _ i).2
     rcases y with w|w
     ·exact .inr (.inr (.inl w))
     ·exact .inr (.inl (by rw[this];exact w))
    ·exact .inl (by rw[d O,d i];exact z)
  ·exact .inr (.inl (A _ H z))
  ·exact .inr (.inr (.inl (A _ I z)))
  ·exact .inr (.inr (.inr z))
theorem vg.next(h:vg rows R J wt W dn){s:Qbo}(hs:∀a∈R,∀b∈R,J a=J b->s∈stH (ai rows a)->(dl rows a s∈W↔dl rows b s∈W)):vg rows R J wt W (dn++[s]):=by
 refine⟨h.co,h.me,λa c b d e t f=>?_,h.un,λt f a c b d e g=>?_⟩
 ·by_cases zh:t=s
  ·subst zh;rcases h.st a c b d e t f with z|z|z|z
   ·exact .inl z
   ·exact .inr (.inl z)
   ·exact .inr (.inr (.inl z))
   ·exact absurd (hs a c b d e f) z.2
  ·rcases h.st a c b d e t f with z|z|z|z
   ·exact .inl z
   ·exact .inr (.inl z)
   ·exact .inr (.inr (.inl z))
   ·refine .inr (.inr (.inr ⟨λq=>?_,z.2⟩));rcases W3.mp q with q|q
    ·exact z.1 q
    ·exact zh (qI.mp q)
 ·rcases W3.mp f with q|q
  ·exact h.sd t q a c b d e g
  ·rw[qI.mp q]at g⊢;exact hs a c b d e g
theorem vg.fin(h:vg rows R J wt W dn)(all:∀a∈R,∀s∈stH (ai rows a),dl rows a s∈W->s∈dn):A7 rows R J wt:=by
 refine⟨h.co,h.me,λa c b d e s f=>?_⟩;have i:s∈stH (ai rows b):=by rw[<- show stH (ai rows a)=stH (ai rows b)from(h.me a c b d e).2];exact f
 rcases h.st a c b d e s f with z|z|z|⟨g,j⟩
 ·exact .inl z
 ·exact .inr (.inl z)
 ·exact .inr (.inr z)
 ·exact absurd ⟨λq=>absurd (all a c s f q) g,λq=>absurd (all b d s i q) g⟩ j
end
theorem Inv.Y0{kvs:Qbv}(I:Inv X B Z H s)(h:H a=some (.af o (.dK kvs)))(h0:∀o u,X.H₀ a≠some (.af o u)):Inv X B Z (upd H a (.dK kvs)) s:=by
 have d:∀b,H b=none->b≠a:=λb n z=>by rw[z,h]at n;cases n
 have nn:∀b u,H b=some u->(∀v,u≠.af o v)->b≠a:=λb u q n z=>by rw[z,h]at q;cases q;exact n _ rfl
 refine⟨I.ok,I.os,I.bare,⟨I.base.keep,I.base.slot,λb f q n i=>?_,I.base.there,λb g q=>?_,λb f u q=>?_,λb j q=>?_⟩,I.loc,I.cell,?_,λx c e=>?_,λp k=>?_,?_,I.len⟩
 ·have:=I.base.free b f q n i;rw[aB (d b this)];exact this
 ·have:=I.base.tups b g q;rw[aB (nn b _ this λv z=>nomatch z)];exact this
 ·have:=I.base.vy b f u q;by_cases hb:b=a
  ·subst hb;exact absurd q (h0 _ _)
  ·rw[aB hb];exact this
 ·obtain⟨more,this⟩:=I.base.xq b j q;exact⟨more,by rw[aB (nn b _ this λv z=>nomatch z)];exact this⟩
 ·rw[aB (d _ I.free)];exact I.free
 ·have:=I.yp x c e;rw[aB (d _ this)];exact this
 ·obtain⟨p1,p2,p3⟩:=I.pin p k;exact⟨p1,by rw[aB (d _ p2)];exact p2,p3⟩
 ·intro b u q;by_cases hb:b=a
  ·subst hb;rw[aA]at q;cases q;exact(I.hok b _ h).2
  ·rw[aB hb]at q;exact(I.hok b u q).stay (λc v _ r=>r) (λc r=>by rw[aB (nn c _ r λv z=>nomatch z)];exact r) λc g r=>r.upd λ_ _ z=>by
    subst z;rcases r with r|⟨_,r⟩<;>(rw[h]at r;cases r)
def Y3(b:Hp)(c:TE):TE:=λZ H Q=>∃a o kvs,H a=some (.af o (.dK kvs))/\(∀o u,b a≠some (.af o u))/\c Z (upd H a (.dK kvs)) Q
theorem Y4(c:Hp)(d:SE X e te)(f:X.H₀=c:=by rfl):SE X e (Y3 c te):=by
 subst f;constructor;intro b s g H Q I ⟨a,o,i,j,k,q⟩;exact d.h b s g _ _ (I.Y0 j k) q
structure Y5(C:Addr)(H:Hp)(p lm dn lw dw:Addr):Prop where
 ex:∃(dx:Addr)(fs:Qbw),H p=some (.ins C dx fs)/\fs.lookup ("members":Str)=some (.ref lm)/\fs.lookup ("number":Str)=some (.ref dn)/\fs.lookup ("waiting":Str)=some (.ref lw)/\fs.lookup ("waits":Str)=some (.ref dw)/\∀m∈(["begin","put_off","take_waiting","part"]:Qbo),fs.lookup m=none
def eu(k:Nat):V:=.int (k:Int)
structure jv(C:Addr)(H0 H:Hp)(p lm dn lw dw:Addr)(ms:Qbq)(mem:List Qbo)(kn:Qbv)(wt:Qbs)(kw:Qbv):Prop where
 f:Y5 C H p lm dn lw dw
 m:H lm=some (.lst (ms.map V.ref))
 ml:ms.length=mem.length
 d:∀i(h:i<ms.length)(M:i<mem.length),∃kvs,H ms[i]=some (.dK kvs)/\kvs.map (·.1)=mem[i].map Sum.inr
 n:H dn=some (.dK kn)
 w:H lw=some (.lst (wt.map eu))
 ws:H dw=some (.dK kw)
 A8:∀k:Nat,(a_ kw (.inl (k:Int))).isSome=true↔k∈wt
 wn:wt.Nodup
 kl:kw.length<=wt.length
 nd:([p,lm,dn,lw,dw]++ms).Nodup
 fr:∀a∈[p,lm,dn,lw,dw]++ms,H0 a=none
 sm:ae H0 H
section
variable{lm dn lw dw:Addr}{ms:Qbq}{kn:Qbv}{wt:Qbs}{kw:Qbv}
theorem jv.keep(h:jv C H0 H p lm dn lw dw ms mem kn wt kw)(k:∀b∈[p,lm,dn,lw,dw]++ms,∀o,H b=some o->U b=some o)(s:ae H0 U):jv C H0 U p lm dn lw dw ms mem kn wt kw:=by
 obtain⟨dx,fs,f1,f2⟩:=h.f.ex;exact⟨⟨dx,fs,k p (by simp) _ f1,f2⟩,k lm (by simp) _ h.m,h.ml,λi a b=>let ⟨kvs,e1,e2⟩:=h.d i a b;⟨kvs,k _ (by simp) _ e1,e2⟩,k dn (by simp) _ h.n,k lw (by simp) _ h.w,k dw (by simp) _ h.ws,h.A8,h.wn,h.kl,h.nd,h.fr,s⟩
theorem jv.same(h:jv C H0 H p lm dn lw dw ms mem kn wt kw)(s:ae H U):jv C H0 U p lm dn lw dw ms mem kn wt kw:=h.keep (λb _ o e=>s b o e) (h.sm.trans s)
end
def ou(rows:Qbo)(l:Qbo):Qbo:=l.filter λx=>decide (x∉rows)
theorem wU{kvs:Qbv}{l:Qbo}(h:kvs.map (·.1)=l.map Sum.inr):(t_ kvs (.inr x)).map (·.1)=(l.filter λy=>decide (y≠x)).map Sum.inr:=by
 unfold t_
 induction kvs generalizing l with
 |nil=>cases l with
  |nil=>rfl
  |cons _ _=>simp at h
 |cons q kvs ih=>cases l with
  |nil=>simp at h
  |cons y l=>
   simp only[xA,Qa1]at h;by_cases hy:y=x
   ·rw[List.filter_cons_of_neg (by simp[h.1,hy]),List.filter_cons_of_neg (by simp[hy])];exact ih h.2
   ·rw[List.filter_cons_of_pos (by simp[h.1,hy]),List.filter_cons_of_pos (by simp[hy]),xA,xA,ih h.2,h.1]
theorem uX(rows l:Qbo)(x:Str):(ou rows l).filter (λy=>decide (y≠x))=ou (rows++[x]) l:=by
 unfold ou;rw[List.filter_filter];congr 1;funext y;by_cases O:y=x<;>by_cases Y:y∈rows<;>simp[O,Y]
structure C4(R:Qbo)(J:Str->Nat)(mem:List Qbo):Prop where
 nd:∀(i:Nat)(l:Qbo),mem[i]? =some l->l.Nodup/\l≠[]
 mm:∀(i:Nat)(l:Qbo),mem[i]? =some l->∀x,x∈l↔(x∈R/\J x=i)
 lt:∀x∈R,J x<mem.length
section
variable{R:Qbo}
theorem C4.few(h:C4 R J mem):mem.length<=R.length:=by
 have d:∀i,i<mem.length->∃x,x∈R/\J x=i:=λi b=>by
  have e:=Qa b;obtain⟨_,ne⟩:=h.nd i _ e;obtain⟨x,a⟩:=List.exists_mem_of_ne_nil _ ne;exact⟨x,(h.mm i _ e x).mp a⟩
 have g:∀i:Fin mem.length,∃x,x∈R/\J x=i.val:=λi=>d i.val i.isLt;obtain⟨f,hf⟩:=QaV g;have:=bY (l:=(List.finRange mem.length).map f) (m:=R) ?_ ?_
 ·simpa using this
 ·refine wW.mpr ((Qac.mpr λi j b n o=>?_));intro e;have c:=(hf ((List.finRange mem.length)[i])).2;have k:=(hf ((List.finRange mem.length)[j])).2;rw[e,k]at c;simp at c
  lia
 ·intro x a;obtain⟨i,_,rfl⟩:=Yy.mp a;exact(hf i).1
theorem oO{rows l:Qbo}:x∈ou rows l↔x∈l/\x∉rows:=by unfold ou;rw[Qad];simp
theorem C4.split(h:C4 R J mem){a l:Qbo}{k:Nat}(g:mem[k]? =some l)(s:∀x∈a,x∈l)(t:a.Nodup)(r:a≠[])(w:a.length≠l.length):C4 R (uf J a mem.length) (mem.set k (ou a l)++[a]):=by
 obtain⟨FW,ekl⟩:=u6.mp g;have p:∀{x},x∈a->uf J a mem.length x=mem.length:=fun{x}b=>if_pos b;have c:∀{x},x∉a->uf J a mem.length x=J x:=fun{x}b=>if_neg b;have u:∀x∈a,x∈R/\J x=k:=λx b=>(h.mm k l g x).mp (s x b);have j:∀i m,(mem.set k (ou a l)++[a])[i]? =some m->(i=mem.length/\m=a)\/(i=k/\m=ou a l)\/(i≠k/\i<mem.length/\mem[i]? =some m):=λi m e=>by
  by_cases n:i<mem.length
  ·rw[Qg (by simpa using n)]at e;by_cases o:i=k
   ·subst o;rw[List.getElem?_set_self (by simpa using n)]at e;exact .inr (.inl ⟨rfl,(QE e).symm⟩)
   ·rw[List.getElem?_set_ne (Ne.symm o)]at e;exact .inr (.inr ⟨o,n,e⟩)
  ·rw[QaF (by simpa using n),QaZ]at e;have:i-mem.length=0:=by
    by_cases z:i-mem.length=0
    ·exact z
    ·rw[List.getElem?_eq_none (by simp;lia)]at e;cases e
   rw[this]at e;exact .inl ⟨by lia,by simpa using e.symm⟩
 refine⟨λi m e=>?_,λi m e x=>?_,λx b=>?_⟩
 ·rcases j i m e with⟨_,rfl⟩|⟨_,rfl⟩|⟨_,_,e⟩
  ·exact⟨t,r⟩
  ·refine⟨(h.nd k l g).1.sublist List.filter_sublist,λz=>w ?_⟩;have f:=bY t s;have d:=bY (h.nd k l g).1 (m:=a) λx b=>Qa3 λq=>by
    have:x∈ou a l:=oO.mpr ⟨b,q⟩;rw[z]at this;cases this
   lia
  ·exact h.nd i m e
 ·rcases j i m e with⟨rfl,rfl⟩|⟨rfl,rfl⟩|⟨o,n,e⟩
  ·constructor
   ·exact λb=>⟨(u x b).1,p b⟩
   ·rintro⟨b,hn⟩;refine Qa3 λq=>?_;rw[c q]at hn;have:=h.lt x b
    lia
  ·rw[oO,h.mm i l g x];constructor
   ·rintro⟨⟨f,d⟩,h3⟩;exact⟨f,by rw[c h3];exact d⟩
   ·rintro⟨f,d⟩;by_cases q:x∈a
    ·rw[p q]at d;lia
    ·rw[c q]at d;exact⟨⟨f,d⟩,q⟩
  ·rw[h.mm i m e x];constructor
   ·rintro⟨f,d⟩;have:x∉a:=λq=>o (by rw[<- d];exact(u x q).2);exact⟨f,by rw[c this];exact d⟩
   ·rintro⟨f,d⟩;by_cases q:x∈a
    ·rw[p q]at d;lia
    ·rw[c q]at d;exact⟨f,d⟩
 ·rw[Qk,QaZ,QaD];by_cases q:x∈a
  ·rw[p q];lia
  ·rw[c q];have:=h.lt x b;lia
end
section
variable[DecidableEq κ]
def vh(L:List (κ×Qbo))(k:κ)(x:Str):List (κ×Qbo):=if k∈L.map (·.1)then L.map λq=>if q.1=k then(q.1,q.2++[x])else q else L++[(k,[x])]
def k_(a:List (κ×Str)):List (κ×Qbo):=a.foldl (λL q=>vh L q.1 q.2) []
theorem lZ(a:List (κ×Str))(q:κ×Str):k_ (a++[q])=vh (k_ a) q.1 q.2:=by unfold k_;rw[Qa2];rfl
theorem oJ(L:List (κ×Qbo))(k:κ)(x:Str):(vh L k x).map (·.1)=if k∈L.map (·.1)then L.map (·.1)else L.map (·.1)++[k]:=by
 unfold vh;split
 ·rw[Qn];refine List.map_congr_left λq _=>?_;show(if q.1=k then(q.1,q.2++[x])else q).1=q.1;split<;>rfl
 ·rw[Qm];rfl
structure rj(ps:List (κ×Str))(L:List (κ×Qbo)):Prop where
 nd:(L.map (·.1)).Nodup
 ev:∀q∈L,q.2=(ps.filter λp=>decide (p.1=q.1)).map (·.2)
 ks:∀k,k∈L.map (·.1)↔k∈ps.map (·.1)
theorem rj.snoc{g:List (κ×Str)}{L:List (κ×Qbo)}(h:rj g L)(k:κ)(x:Str):rj (g++[(k,x)]) (vh L k x):=by
 have j:∀c,c∈(vh L k x).map (·.1)↔c∈L.map (·.1)\/c=k:=λc=>by
  rw[oJ];split
  ·exact⟨.inl,λz=>z.elim id λz=>by rw[z];assumption⟩
  ·rw[W3,qI]
 refine⟨?_,λq d=>?_,λc=>?_⟩
 ·rw[oJ];split
  ·exact h.nd
  ·rename_i f
   exact QaH.mpr ⟨h.nd,by simp,λa l b i e=>f (by rw[qI]at i;rw[<- i,<- e];exact l)⟩
 ·rw[List.filter_append,Qm];unfold vh at d;split at d
  ·obtain⟨q0,O,rfl⟩:=Yy.mp d;have:=h.ev q0 O;by_cases e:q0.1=k
   ·rw[if_pos e];dsimp only;rw[<- this];simp[e]
   ·rw[if_neg e,<- this];simp[Ne.symm e]
  ·rename_i f
   rcases W3.mp d with O|O
   ·have:q.1≠k:=λz=>f (by rw[<- z];exact List.mem_map_of_mem O);rw[<- h.ev q O];simp[Ne.symm this]
   ·rw[qI.mp O];have:g.filter (λp=>decide (p.1=k))=[]:=List.filter_eq_nil_iff.mpr λp m=>by
     intro z;exact f ((h.ks k).mpr (Yy.mpr ⟨p,m,Qt z⟩))
    dsimp only;rw[this];simp
 ·rw[j,h.ks,Qm,W3];simp
theorem A9(a:List (κ×Str)):rj a (k_ a):=by
 have:∀(b a:List (κ×Str))(L:List (κ×Qbo)),rj a L->rj (a++b) (b.foldl (λL q=>vh L q.1 q.2) L):=by
  intro b
  induction b with
  |nil=>intro a L h;simpa using h
  |cons q b ih=>intro a L h;have:=ih _ _ (h.snoc q.1 q.2);rwa [QQ]at this
 exact this a [] [] ⟨QaX,(λ_ h=>nomatch h),λ_=>by simp⟩
theorem rj.ne{a:List (κ×Str)}{L:List (κ×Qbo)}(h:rj a L){q:κ×Qbo}(b:q∈L):q.2≠[]:=by
 rw[h.ev q b];obtain⟨p,hp,e⟩:=Yy.mp ((h.ks q.1).mp (List.mem_map_of_mem b));intro z;have:p.2∈(a.filter λp=>decide (p.1=q.1)).map (·.2):=List.mem_map_of_mem (Qad.mpr ⟨hp,by simpa using e⟩);rw[z]at this;cases this
theorem rj.len{a:List (κ×Str)}{L:List (κ×Qbo)}(h:rj a L):L.length<=a.length:=by
 have:=bY h.nd λk b=>(h.ks k).mp b;simpa using this
theorem rj.lens{a:List (κ×Str)}{L:List (κ×Qbo)}(h:rj a L){q:κ×Qbo}(b:q∈L):q.2.length<=a.length:=by
 rw[h.ev q b,Ql];exact QaK _ _
structure ji{κ':Type}(f:κ->κ')(H0 H:Hp)(kvs:List (κ'×V))(L:List (κ×Qbo)):Prop where
 len:kvs.length=L.length
 at_:∀i(h:i<kvs.length)(M:i<L.length),kvs[i].1=f L[i].1/\∃l,kvs[i].2=.ref l/\H0 l=none/\H l=some (.lst (L[i].2.map V.str))
 inj:∀i j(hi:i<kvs.length)(hj:j<kvs.length),kvs[i].2=kvs[j].2->i=j
variable{κ':Type}[DecidableEq κ']{f:κ->κ'}{kvs:List (κ'×V)}{L:List (κ×Qbo)}
theorem ji.nil:ji f H0 H ([]:List (κ'×V)) ([]:List (κ×Qbo)):=⟨rfl,λi h=>absurd h (by simp),λi j h=>absurd h (by simp)⟩
theorem ji.keys(h:ji f H0 H kvs L):kvs.map (·.1)=L.map λq=>f q.1:=by
 have c:=h.len;refine Qam (by simp[c]) λi a b=>?_;rw[Ql]at a b;rw[Qr,Qr];exact(h.at_ i a b).1
theorem ji.keep(h:ji f H0 H kvs L)(s:∀l xs,H0 l=none->H l=some (.lst xs)->U l=some (.lst xs)):ji f H0 U kvs L:=⟨h.len,λi a b=>by
 obtain⟨O,l,Y,h3,h4⟩:=h.at_ i a b
 exact⟨O,l,Y,h3,s _ _ h3 h4⟩,h.inj⟩
theorem ji.old(h:ji f H0 H kvs L)(g:∀a b,f a=f b->a=b)(m:(L.map (·.1)).Nodup){k:κ}{v:V}(hv:a_ kvs (f k)=some v)(x:Str):∃l xs,v=.ref l/\H0 l=none/\H l=some (.lst xs)/\(∃q∈L,xs=q.2.map V.str)/\ji f H0 (upd H l (.lst (xs++[.str x]))) kvs (vh L k x):=by
 have o:=h.len;have r:(kvs.map (·.1)).Nodup:=by
  rw[h.keys];have:(L.map λq=>f q.1)=(L.map (·.1)).map f:=by rw[Qn];rfl
  rw[this];exact wW.mpr (m.imp λn e=>n (g _ _ e))
 obtain⟨p,hp,e⟩:=Yy.mp (fY hv);obtain⟨i,hi,ei⟩:=Qi hp;have c:i<L.length:=by lia
 obtain⟨g1,l,g2,g3,g4⟩:=h.at_ i hi c
 have d:L[i].1=k:=g _ _ (by rw[<- g1,ei,e]);have s:v=.ref l:=by
  have:=fA r (k:=f k) (v:=p.2) (by rw[<- e];exact hp);rw[hv]at this;rw[<- g2,ei];exact QE this
 refine⟨l,_,s,g3,g4,⟨_,Qj c,rfl⟩,?_⟩;have t:k∈L.map (·.1):=by rw[<- d];exact List.mem_map_of_mem (Qj c)
 have u:vh L k x=L.map λq=>if q.1=k then(q.1,q.2++[x])else q:=by unfold vh;rw[if_pos t]
 rw[u];refine⟨by simp[o],λj a b=>?_,h.inj⟩;rw[Ql]at b;rw[Qr];obtain⟨q1,l',q2,q3,q4⟩:=h.at_ j a b
 by_cases hj:j=i
 ·subst hj;rw[if_pos d];rw[g2]at q2;cases q2;exact⟨g1,l,g2,g3,by rw[aA];simp⟩
 ·have:L[j].1≠k:=λz=>hj (by
   have w:(L.map (·.1))[j]'(by simpa using b)=(L.map (·.1))[i]'(by simpa using c):=by rw[Qr,Qr,z,d]
   exact(QaL m).mp w)
  rw[if_neg this];refine⟨q1,l',q2,q3,?_⟩;rw[aB λz=>hj (h.inj j i a hi (by rw[q2,g2,z]))];exact q4
theorem ji.new(h:ji f H0 H kvs L){k:κ}(hv:a_ kvs (f k)=none)(x:Str){z:Addr}(o:H0 z=none)(p:H z=none)(hz:U z=some (.lst [.str x]))(s:∀l xs,H0 l=none->H l=some (.lst xs)->U l=some (.lst xs)):ji f H0 U (kvs++[(f k,.ref z)]) (vh L k x):=by
 have g:=h.len;have c:k∉L.map (·.1):=λc=>by
  have:f k∈kvs.map (·.1):=by
   rw[h.keys];obtain⟨q,d,m⟩:=Yy.mp c;exact Yy.mpr ⟨q,d,by rw[m]⟩
  have:=jL.mpr this;rw[hv]at this;cases this
 have r:vh L k x=L++[(k,[x])]:=by unfold vh;rw[if_neg c]
 rw[r];have n:∀i(b:i<kvs.length),kvs[i].2≠.ref z:=λi b e=>by
  obtain⟨_,l,g2,_,g4⟩:=h.at_ i b (by lia)
  rw[e]at g2;cases g2;rw[p]at g4;cases g4
 refine⟨by simp[g],λi d m=>?_,λi j b t a=>?_⟩
 ·by_cases be:i<kvs.length
  ·rw[Qe be,Qe (by lia)];exact(h.keep s).at_ i be (by lia)
  ·have u:i=kvs.length:=by simp at d;lia
   subst u;rw[Qf (Qz _),Qf (by lia)];simp only[Qar,g,uI];exact⟨trivial,z,rfl,o,hz⟩
 ·simp only[Qk,Qaf,List.length_nil]at b t;by_cases be:i<kvs.length<;>by_cases yd:j<kvs.length
  ·rw[Qe be,Qe yd]at a;exact h.inj i j be yd a
  ·have w:j=kvs.length:=by lia
   subst w;rw[Qe be,Qf (Qz _)]at a;simp only[Qar,uI]at a;exact absurd a (n i be)
  ·have y:i=kvs.length:=by lia
   subst y;rw[Qe yd,Qf (Qz _)]at a;simp only[Qar,uI]at a;exact absurd a.symm (n j yd)
  ·lia
end
structure ug(R rs:Qbo)(J di:Str->Nat)(ks:Qbs):Prop where
 un:∀x∈R,J x∉ks->di x=J x
 eq:∀a∈R,∀b∈R,di a=di b->J a=J b/\(J a∈ks->(a∈rs↔b∈rs))
section
variable{R rs many:Qbo}{di:Str->Nat}{ks:Qbs}{k new:Nat}
theorem ug.nil:ug R rs J J []:=⟨λ_ _ _=>rfl,λ_ _ _ _ e=>⟨e,λh=>nomatch h⟩⟩
theorem ug.at_(h:ug R rs J di ks)(b:k∉ks){y:Str}(c:y∈R)(a:J y=k)(d:x∈R):di x=k↔J x=k:=by
 have f:di y=k:=by rw[h.un y c (by rw[a];exact b),a]
 constructor
 ·intro e;rw[<- a];exact(h.eq x d y c (by rw[e,f])).1
 ·intro e;rw[h.un x d (by rw[e];exact b),e]
theorem ug.keep(h:ug R rs J di ks)(g:k∉ks)(all:∀x∈R,J x=k->x∈rs):ug R rs J di (ks++[k]):=by
 refine⟨λx f n=>h.un x f λz=>n (W3.mpr (.inl z)),λa c b d e=>?_⟩;obtain⟨O,Y⟩:=h.eq a c b d e;refine⟨O,λz=>?_⟩;rcases W3.mp z with z|z
 ·exact Y z
 ·rw[qI]at z;exact⟨λ_=>all b d (by rw[<- O,z]),λ_=>all a c z⟩
theorem ug.split(h:ug R rs J di ks)(o:k∉ks)(d:∀x,x∈many↔x∈rs/\J x=k)(g:∀x∈R,di x≠new):ug R rs J (uf di many new) (ks++[k]):=by
 have i:∀{x},x∈many->uf di many new x=new:=fun{x}f=>if_pos f;have c:∀{x},x∉many->uf di many new x=di x:=fun{x}f=>if_neg f;refine⟨λx f n=>?_,λa j b l e=>?_⟩
 ·have m:J x≠k:=λz=>n (by rw[z];simp);rw[c λz=>m ((d x).mp z).2];exact h.un x f λz=>n (W3.mpr (.inl z))
 ·by_cases O:a∈many
  ·rw[i O]at e;by_cases Y:b∈many
   ·exact⟨((d a).mp O).2.trans ((d b).mp Y).2.symm,λ_=>⟨λ_=>((d b).mp Y).1,λ_=>((d a).mp O).1⟩⟩
   ·rw[c Y]at e;exact absurd e.symm (g b l)
  ·rw[c O]at e;by_cases Y:b∈many
   ·rw[i Y]at e;exact absurd e (g a j)
   ·rw[c Y]at e;obtain⟨g1,g2⟩:=h.eq a j b l e;refine⟨g1,λz=>?_⟩;rcases W3.mp z with z|z
    ·exact g2 z
    ·rw[qI]at z;exact⟨λq=>absurd ((d a).mpr ⟨q,z⟩) O,λq=>absurd ((d b).mpr ⟨q,by rw[<- g1,z]⟩) Y⟩
theorem ug.fin(h:ug R rs J di ks)(all:∀x∈rs,J x∈ks){a b:Str}(c:a∈R)(d:b∈R)(e:di a=di b):a∈rs↔b∈rs:=by
 obtain⟨O,Y⟩:=h.eq a c b d e;constructor
 ·exact λz=>(Y (all a z)).mp z
 ·exact λz=>(Y (by rw[O];exact all b z)).mpr z
end
structure ow(lm dn lw dw:Addr)(Ar ms:Qbq)(H U:Hp):Prop where
 kp:∀b o,b∉[lm,dn,lw,dw]++Ar->H b=some o->U b=some o
 nw:∀b∈ms,b∈Ar\/H b=none
 th:∀b,U b=none->H b=none
section
variable{lm dn lw dw:Addr}{Ar ms OE wu:Qbq}{H1 H2:Hp}
theorem ow.same(s:ae H U):ow lm dn lw dw ms ms H U:=⟨λb o _ e=>s b o e,λb h=>.inl h,λb e=>s.free e⟩
theorem ow.trans(h:ow lm dn lw dw Ar OE H H1)(M:ow lm dn lw dw OE wu H1 H2):ow lm dn lw dw Ar wu H H2:=by
 refine⟨λb o n e=>M.kp b o (λz=>?_) (h.kp b o n e),λb a=>?_,λb e=>h.th b (M.th b e)⟩
 ·rcases W3.mp z with z|z
  ·exact n (W3.mpr (.inl z))
  ·rcases h.nw b z with q|q
   ·exact n (W3.mpr (.inr q))
   ·rw[q]at e;cases e
 ·rcases M.nw b a with q|q
  ·exact h.nw b q
  ·exact .inr (h.th b q)
structure uh(C:Addr)(H0 H:Hp)(p lm dn lw dw:Addr)(R:Qbo)(J:Str->Nat)(wt:Qbs)(ms:Qbq)(mem:List Qbo)(kn kw:Qbv):Prop where
 s:jv C H0 H p lm dn lw dw ms mem kn wt kw
 n:C4 R J mem
 v:∀x∈R,a_ kn (.inr x)=some (eu (J x))
 kl:kn.length<=900
 wl:∀i∈wt,i<mem.length
variable{R:Qbo}{wt:Qbs}{kn kw:Qbv}
theorem uh.same(h:uh C H0 H p lm dn lw dw R J wt ms mem kn kw)(s:ae H U):uh C H0 U p lm dn lw dw R J wt ms mem kn kw:=⟨h.s.same s,h.n,h.v,h.kl,h.wl⟩
theorem uh.wb(h:uh C H0 H p lm dn lw dw R J wt ms mem kn kw):wt.length<=mem.length:=by
 have:=bY h.s.wn (m:=List.range mem.length) λi a=>Qaw.mpr (h.wl i a);simpa using this
theorem jv.off(h:jv C H0 H p lm dn lw dw ms mem kn wt kw){o:HO}(a:H b=some o)(c:∀kvs,o≠.dK kvs)(e:b≠lm)(f:b≠lw):b∉[lm,dn,lw,dw]++ms:=by
 intro z;rcases W3.mp z with z|z
 ·simp only[Qp,QB,or_false]at z;rcases z with z|z|z|z
  ·exact e z
  ·rw[z,h.n]at a;exact c _ (QE a).symm
  ·exact f z
  ·rw[z,h.ws]at a;exact c _ (QE a).symm
 ·obtain⟨i,hi,rfl⟩:=Qi z;obtain⟨kvs,g1,_⟩:=h.d i hi (by rw[<- h.ml];exact hi);rw[g1]at a;exact c _ (QE a).symm
theorem ow.of(a:jv C H0 U p lm dn lw dw ms mem kn wt kw){d:Addr}(g:ms=Ar++[d])(h:H d=none)(c:∀b o,b∉[lm,dn,lw,dw]++Ar->H b=some o->U b=some o):ow lm dn lw dw Ar ms H U:=by
 subst g;refine⟨c,λb j=>?_,λb e=>?_⟩
 ·rcases W3.mp j with z|z
  ·exact .inl z
  ·rw[qI.mp z];exact .inr h
 ·cases eb:H b with
  |none=>rfl
  |some o=>
   exfalso;by_cases n:b∈[lm,dn,lw,dw]++Ar
   ·rcases W3.mp n with z|z
    ·simp only[Qp,QB,or_false]at z;rcases z with z|z|z|z
     ·rw[z,a.m]at e;cases e
     ·rw[z,a.n]at e;cases e
     ·rw[z,a.w]at e;cases e
     ·rw[z,a.ws]at e;cases e
    ·obtain⟨i,hi,rfl⟩:=Qi z;have f:i<(Ar++[d]).length:=by simp;lia
     obtain⟨kvs,g1,_⟩:=a.d i f (by rw[<- a.ml];exact f);rw[Qe hi]at g1;rw[e]at g1;cases g1
   ·rw[c b o n eb]at e;cases e
end
section
variable{lm dn lw dw d:Addr}{ms:Qbq}{rows:List aj}{R W rs many l:Qbo}{OF:Str->Nat}{wt ee ks:Qbs}{kn e_ kw j_:Qbv}{k:Nat}{Y8:List Qbo}{s:Qbo}
theorem uh.split(z:uh C H0 H p lm dn lw dw R J wt ms mem kn kw)(a:mem[j]? =some l)(b:∀x∈many,x∈l)(c:many.Nodup)(e:many≠[])(f:many.length≠l.length)(g:jv C H0 U p lm dn lw dw (ms++[d]) (mem.set j (ou many l)++[many]) e_ ee j_)
  (hv:∀x,a_ e_ (.inr x)=if x∈many then some (eu mem.length)else a_ kn (.inr x)) (k:e_.length=kn.length) (m:∀i∈ee,i∈wt\/i=mem.length\/i=j):uh C H0 U p lm dn lw dw R (uf J many mem.length) ee (ms++[d]) (mem.set j (ou many l)++[many]) e_ j_:=by
 refine⟨g,z.n.split a b c e f,λx o=>?_,by rw[k];exact z.kl,λi r=>?_⟩
 ·rw[hv x];by_cases h:x∈many
  ·rw[if_pos h,show uf J many mem.length x=mem.length from if_pos h]
  ·rw[if_neg h,show uf J many mem.length x=J x from if_neg h];exact z.v x o
 ·rw[Qk,QaZ,QaD];obtain⟨Ep,_⟩:=u6.mp a;rcases m i r with q|q|q
  ·have:=z.wl i q;lia
  ·lia
  ·lia
theorem vg.cl(h:vg rows R J wt W Y8)(n:ug R rs OF J ks)(d:∀x,x∈many↔x∈rs/\OF x=k)(f:∀x,x∈rs↔x∈R/\s∈stH (ai rows x)/\dl rows x s∈W)(g:En rows R):∀a∈many,∀b∈R,bu rows rows (a,b)->b∈many:=by
 intro a o b c i;obtain⟨O,Y⟩:=(d a).mp o;obtain⟨aR,KA,aW⟩:=(f a).mp O;have e:=h.co a aR b c i;have j:s∈stH (ai rows b):=by rw[<- show stH (ai rows a)=stH (ai rows b)from(h.me a aR b c e).2];exact KA
 refine(d b).mpr ⟨(f b).mpr ⟨c,j,?_⟩,by rw[<- (n.eq a aR b c e).1];exact Y⟩;have p:bu rows rows (dl rows a s,dl rows b s):=i.kid (s:=s) KA;have l:=g a aR s KA;have m:=g b c s j;exact(h.un _ l _ m (h.co _ l _ m p)).mp aW
structure C5(rows:List aj)(R:Qbo):Prop where
 nd:R.Nodup
 few:R.length<=30
 on:∀a∈R,∀s e,(s,e)∈ak rows a↔s∈stH (ai rows a)/\dl rows a s=e
 Y9:∀a∈R,((ak rows a).map (·.1)).Nodup
 fo:∀a∈R,(ak rows a).length<=100
 rc:En rows R
def lg(rows:List aj)(R W:Qbo):List (Qbo×Str):=W.flatMap (ju rows R)
theorem iY:q∈ju rows R x↔q.2∈R/\(q.1,x)∈ak rows q.2:=by
 unfold ju zm;rw[List.mem_flatMap];constructor
 ·rintro⟨r,O,Y⟩;obtain⟨m,h3,rfl⟩:=Yy.mp Y;obtain⟨h4,h5⟩:=Qad.mp h3;have:=Qt h5;subst this;exact⟨O,h4⟩
 ·rintro⟨O,Y⟩;exact⟨q.2,O,Yy.mpr ⟨(q.1,x),Qad.mpr ⟨Y,by simp⟩,rfl⟩⟩
theorem jU(h:C5 rows R):q∈lg rows R W↔q.2∈R/\q.1∈stH (ai rows q.2)/\dl rows q.2 q.1∈W:=by
 unfold lg;rw[List.mem_flatMap];constructor
 ·rintro⟨x,hx,hq⟩;obtain⟨O,Y⟩:=iY.mp hq;obtain⟨h3,h4⟩:=(h.on _ O _ _).mp Y;exact⟨O,h3,by rw[h4];exact hx⟩
 ·rintro⟨O,Y,h3⟩;exact⟨_,h3,iY.mpr ⟨O,(h.on _ O _ _).mpr ⟨Y,rfl⟩⟩⟩
theorem zA(h:C5 rows R)(f:W.Nodup):(lg rows R W).Nodup:=by
 unfold lg;refine List.pairwise_flatMap.mpr ⟨λx _=>?_,f.imp fun{x y}n p c q d e=>?_⟩
 ·unfold ju;refine List.pairwise_flatMap.mpr ⟨λr g=>?_,h.nd.imp fun{a b}n p c q d e=>?_⟩
  ·unfold zm;refine wW.mpr (List.Pairwise.filter _ ((wW.mp (h.Y9 r g)).imp fun{a b}n e=>n ?_));exact(QaT e).1
  ·unfold zm at c d;obtain⟨_,_,rfl⟩:=Yy.mp c;obtain⟨_,_,rfl⟩:=Yy.mp d;exact n (QaT e).2
 ·subst e;obtain⟨O,Y⟩:=iY.mp c;obtain⟨_,h3⟩:=iY.mp d;exact n (((h.on _ O _ _).mp Y).2.symm.trans ((h.on _ O _ _).mp h3).2)
theorem oU(h:C5 rows R):∀W:Qbo,(lg rows R W).length<=W.length*3000
 | []=>by simp[lg]
 |x::W=>by
  have a:=oU h W;have b:=mM rows x 100 R h.fo;have c:R.length*100<=30*100:=Nat.mul_le_mul_right _ h.few;unfold lg at a⊢;rw[List.flatMap_cons,Qk,Qaf,Nat.succ_mul]
  lia
theorem C5.led(h:C5 rows R)(f:W.Nodup){q:Qbo×Qbo}(g:q∈k_ (lg rows R W)):q.2.Nodup/\q.2.length<=R.length/\∀x,x∈q.2↔x∈R/\q.1∈stH (ai rows x)/\dl rows x q.1∈W:=by
 have ev:=(A9 (lg rows R W)).ev q g;have c:∀x,x∈q.2↔x∈R/\q.1∈stH (ai rows x)/\dl rows x q.1∈W:=λx=>by
  rw[ev,Yy];constructor
  ·rintro⟨p,hp,rfl⟩;obtain⟨O,Y⟩:=Qad.mp hp;have:=Qt Y;rw[<- this];exact(jU h).mp O
  ·exact λz=>⟨(q.1,x),Qad.mpr ⟨(jU h).mpr z,by simp⟩,rfl⟩
 have d:q.2.Nodup:=by
  rw[ev];refine wW.mpr ?_;refine List.Pairwise.imp_of_mem (fun{a b}i j n e=>n ?_) ((zA h f).filter _);have k:=Qt (Qad.mp i).2;have l:=Qt (Qad.mp j).2;exact Prod.ext (k.trans l.symm) e
 exact⟨d,bY d λx m=>((c x).mp m).1,c⟩
theorem Y_(c:rs.Nodup)(g:Str->Nat){q:Nat×Qbo}(d:q∈k_ (rs.map λa=>(g a,a))):q.2.Nodup/\q.2.length<=rs.length/\∀x,x∈q.2↔x∈rs/\g x=q.1:=by
 have ev:=(A9 (rs.map λa=>(g a,a))).ev q d;have b:q.2=rs.filter λa=>decide (g a=q.1):=by
  rw[ev,List.filter_map,Qn];exact(List.map_id' _)
 refine⟨by rw[b];exact c.filter _,by rw[b];exact QaK _ _,λx=>?_⟩;rw[b,Qad];simp
end
section
variable{Hs:Hp}{xs:Qby}{rows:List aj}{R:Qbo}
theorem RT.Za(rt:RT H a xs rows ns ws)(f:∀z∈ws,Wd z)(i:R.Nodup)(c:∀e∈R,gj rows ns e)(k:∀e∈R,∀m∈ak rows e,m.2∈R):C5 rows R:=by
 have g:=rt.CW f;have j:∀a∈R,∀s e,(s,e)∈ak rows a↔s∈stH (ai rows a)/\dl rows a s=e:=λa b s e=>by
  have d:=c a b;constructor
  ·intro h;refine⟨by rw[<- gZ d.2];exact Yy.mpr ⟨_,h,rfl⟩,?_⟩;unfold dl;rw[iC (g.wj d) h];rfl
  ·rintro⟨O,rfl⟩;rw[<- gZ d.2]at O;obtain⟨m,hm,rfl⟩:=Yy.mp O;unfold dl;rw[iC (g.wj d) hm];exact hm
 refine⟨i,Qag (bY i λx l=>(c x l).1) rt.few,j,λa b=>g.wj (c a b),λa b=>Qag (rt.FJ f (c a b).1) (by decide),λa b s n=>?_⟩;exact k a b (s,dl rows a s) ((j a b _ _).mpr ⟨n,rfl⟩)
theorem jh.OH{kvs:Qbv}{g j:Addr}{ul q:Qby}(h:jh Hs H kvs R f)(m:H g=some (.lst ul))(n:H j=some (.lst q))(r:Hs g≠none)(s:Hs j≠none)(k:∀b o,H b=some o->(∀kv,o≠.dK kv)->b≠g->b≠j->U b=some o):jh Hs U kvs R f:=by
 refine⟨h.len,λi a b=>?_,h.inj⟩;obtain⟨g1,l,us,g2,g3,g4,g5⟩:=h.at_ i a b
 have p:∀c d,H c=some (.tup d)->U c=some (.tup d):=λc d e=>k c _ e (λ_ z=>nomatch z) (λz=>by rw[z,m]at e;cases e) (λz=>by rw[z,n]at e;cases e);refine⟨g1,l,us,g2,g3,k l _ g4 (λ_ z=>nomatch z) (λz=>r (by rw[<- z];exact g3)) (λz=>s (by rw[<- z];exact g3)),g5.keep p λc d e=>?_⟩;rcases e with e|⟨u,e⟩
 ·exact .inl (p _ _ e)
 ·exact .inr ⟨u,k c _ e (λ_ z=>nomatch z) (λz=>by rw[z,m]at e;cases e) (λz=>by rw[z,n]at e;cases e)⟩
noncomputable def As(rows:List aj)(L:List (Tv×Qbo))(x:Str):Nat:=(L.map (·.1)).idxOf (gm (ai rows x))
variable{L:List (Tv×Qbo)}
theorem Zb(c:R.Nodup){q:Tv×Qbo}(d:q∈k_ (R.map λa=>(gm (ai rows a),a))):q.2.Nodup/\q.2.length<=R.length/\∀x,x∈q.2↔x∈R/\gm (ai rows x)=q.1:=by
 have ev:=(A9 (R.map λa=>(gm (ai rows a),a))).ev q d;have b:q.2=R.filter λa=>decide (gm (ai rows a)=q.1):=by
  rw[ev,List.filter_map,Qn];exact(List.map_id' _)
 refine⟨by rw[b];exact c.filter _,by rw[b];exact QaK _ _,λx=>?_⟩;rw[b,Qad];simp
theorem lR(b:rj (R.map λa=>(gm (ai rows a),a)) L)(hi:i<L.length)(e:gm (ai rows x)=L[i].1):As rows L x=i:=by
 unfold As;rw[e];have:=b.nd.idxOf_getElem i (by simpa using hi);rw[Qr]at this;exact this
theorem hU(b:rj (R.map λa=>(gm (ai rows a),a)) L)(d:x∈R):∃(h:As rows L x<L.length),gm (ai rows x)=(L[As rows L x]).1:=by
 have:gm (ai rows x)∈L.map (·.1):=(b.ks _).mpr (Yy.mpr ⟨_,Yy.mpr ⟨x,d,rfl⟩,rfl⟩);obtain⟨q,hq,e⟩:=Yy.mp this;obtain⟨i,hi,rfl⟩:=Qi hq;have c:=lR b hi e.symm;have h:As rows L x<L.length:=by rw[c];exact hi
 refine⟨h,?_⟩;simp only[c];exact e.symm
theorem yK(j:R.Nodup)(c:rj (R.map λa=>(gm (ai rows a),a)) L)(f:∀q∈L,q.2.Nodup/\q.2.length<=R.length/\∀x,x∈q.2↔x∈R/\gm (ai rows x)=q.1):C4 R (As rows L) (L.map (·.2)):=by
 have b:∀i l,(L.map (·.2))[i]? =some l->∃h:i<L.length,L[i].2=l:=λi l e=>by
  rw[Qq]at e;cases h:L[i]? with
  |none=>rw[h]at e;cases e
  |some q=>
   obtain⟨hi,eq⟩:=u6.mp h;rw[h]at e;exact⟨hi,by rw[eq];exact QE e⟩
 refine⟨λi l e=>?_,λi l e x=>?_,λx g=>?_⟩
 ·obtain⟨hi,rfl⟩:=b i l e;exact⟨(f _ (Qj hi)).1,c.ne (Qj hi)⟩
 ·obtain⟨hi,rfl⟩:=b i l e;rw[(f _ (Qj hi)).2.2 x];constructor
  ·exact fun⟨d,Y⟩=>⟨d,lR c hi Y⟩
  ·rintro⟨d,rfl⟩;exact⟨d,(hU c d).2⟩
 ·rw[Ql];exact(hU c g).1
theorem wZ(d:rj (R.map λa=>(gm (ai rows a),a)) L)(g:En rows R):A7 rows R (As rows L) (List.range L.length):=by
 refine⟨λa c b f h=>?_,λa c b f e=>?_,λa c b f e s i=>.inr (.inl (Qaw.mpr (hU d (g a c s i)).1))⟩
 ·have:gm (ai rows a)=gm (ai rows b):=Ou.mpr h.me;unfold As;rw[this]
 ·obtain⟨O,e1⟩:=hU d c;obtain⟨Y,e2⟩:=hU d f;refine Ou.mp ?_;rw[e1,e2];simp only[e]
end
noncomputable instance ady:DecidableEq (Str->Prop):=Classical.typeDecidableEq _
theorem vJ:typeLookup (.type "zip") "__len__"=pure none:=by rw[typeLookup_type,builtinLookup_eq_fast];kernel_rfl
theorem sK:typeLookup (.type "zip") "__length_hint__"=pure none:=by rw[typeLookup_type,builtinLookup_eq_fast];kernel_rfl
structure C6(h:Heap)(lo:Addr)(xs ys:Array Value)(as:Qbq)(i:Nat):Prop where
 len:as.length=i
 nd:as.Nodup
 at_:∀j(hj:j<as.length),∃x y,xs[j]? =some x/\ys[j]? =some y/\IsPair h as[j] x y/\lo<=as[j]
theorem C6.keep{lo:Addr}{xs:Array Value}{as:Qbq}(q:C6 h lo xs ys as i)(k:∀b o,lo<=b->h.get? b=some o->M.get? b=some o):C6 M lo xs ys as i:=
 ⟨q.len,q.nd,λj a=>let ⟨x,y,O,Y,h3,h4⟩:=q.at_ j a;⟨x,y,O,Y,k _ _ h4 h3,h4⟩⟩
def C7(as:Qbq)(c:Nat):Obj:={cls:=.type "list",dict:=none,data:=.seq (as.map Value.ref).toArray c,slots:=#[]}
theorem qQ{S z TI TO g n m lo:Addr}{xs:Array Value}(hA:A.handled=none)(D:ZipApart z TI TO g n l m)(hn:xs.size<=ys.size)(hz:xs.size<=sizeLine)(hS:S∉[z,TI,TO,g,n])(Zc:S≠l)(Zd:S≠m)(ml:l∉[z,TO,g,n])(mm:m∉[z,TO,g,n])(Nd:∀b∈[S,z,TO,g,n],b<lo)(res:Value):
  ∀(k i:Nat)(s:Shared)(as:Qbq)(c:Nat),xs.size-i=k->i<=xs.size->DZ s.heap S z TI TO g n l m i->s.heap.IsList l xs->s.heap.IsList m ys->s.heap.get? S=some (C7 as c)->C6 s.heap lo xs ys as i->lo<=s.heap.objs.size->
   (∀M N c',(∀b o,b∉[S,z,TO,g,n]->s.heap.get? b=some o->M.get? b=some o)->M.get? S=some (C7 N c')->C6 M lo xs ys N xs.size->R (.ok (.ret res)) {s with heap:=M})->
   codeAny (model P w) A (.builtin "list.extend.loop" ⟨[.ref S,.ref z,res],[]⟩) R s:=by
 have KC:=hS;simp only[Qp,QB,or_false,not_or]at KC;obtain⟨n1,n2,n3,n4,n5⟩:=KC;have OI:S∉[z,TO,g,n]:=by simp only[Qp,QB,or_false,not_or];exact⟨n1,n3,n4,n5⟩
 have Q:∀b,b∉[S,z,TO,g,n]->b≠S/\b∉[z,TO,g,n]:=λb h=>by
  rw[Qp,not_or]at h;exact h
 have E:∀b,lo<=b->b≠S/\b∉[z,TO,g,n]:=λb h=>Q b λq=>absurd (Nd b q) (Nat.not_lt.mpr h);intro k
 induction k with
 |zero=>
  intro i s as c p hi st G g2 T t H hR;have h_:i=xs.size:=by lia
  subst h_;refine codeAny_builtin F.entry_extend_loop ?_;rw[Qa4 F.plain_extend_loop _];show wpAny _ A.in1 (pyNext (.ref z) >>=_) _ _ s;obtain⟨q1,q2,q3,q4⟩:=st;have I:∀M,(∀b o,b∉[z,TO,g,n]->s.heap.get? b=some o->M.get? b=some o)->R (.ok (.ret res)) {s with heap:=M}:=λM p=>
   hR M as c (λb o d e=>p b o (Q b d).2 e) (p _ _ OI T) (t.keep λb o V e=>p b o (E b V).2 e)
  rcases q1 with⟨e,a,u,v,b⟩|⟨c',f,oc,a,b,e1,e2⟩
  ·refine QT (wpAny_pyNext_zip_end (by simp[hA]) D a q2 b q3 q4 G g2 (.inl (by simp)) λM p=>?_);exact QU (I M λb o d e=>by
    simp only[Qp,QB,or_false,not_or]at d;exact p b o d.1 d.2.1 d.2.2.1 d.2.2.2 e)
  ·refine QT (xH (by simp[hA]) D a b q2 q3 G (by simp) λM p=>?_);exact QU (I M λb o d e=>by
    simp only[Qp,QB,or_false,not_or]at d;exact p b o d.1 d.2.2.1 e)
 |succ k ih=>
  intro i s as c p hi st G g2 T t H hR;have be:i<xs.size:=by lia
  have OJ:i<ys.size:=by lia
  refine codeAny_builtin F.entry_extend_loop ?_;rw[Qa4 F.plain_extend_loop _];show wpAny _ A.in1 (pyNext (.ref z) >>=_) _ _ s;refine QT (uQ D st (QA T) G g2 (x:=xs[i]) (y:=ys[i]) (by simp[be]) (by simp[OJ]) λM ab KG K=>?_);have OL:=K _ _ OI T;show wpAny _ A.in1 (updateSeq S (·.push (.ref s.heap.objs.size)) >>=_) _ _ _;refine QT ?_;have C:∀b o,b≠S->M.get? b=some o->(M.update S (Obj.mapSeq (·.push (.ref s.heap.objs.size)))).get? b=some o:=λb o d e=>(QaY _ _ (Ne.symm d)).trans e;have ep:(as.map Value.ref).toArray.push (.ref s.heap.objs.size)=((as++[s.heap.objs.size]).map Value.ref).toArray:=by simp
  obtain⟨c2,ec⟩:∃c2,Obj.mapSeq (·.push (.ref s.heap.objs.size)) (C7 as c)=C7 (as++[s.heap.objs.size]) c2:=by
   unfold C7;rw[<- ep];exact⟨_,rfl⟩
  have Ze:(M.update S (Obj.mapSeq (·.push (.ref s.heap.objs.size)))).get? S=some (C7 (as++[s.heap.objs.size]) c2):=by
   rw[<- ec];exact QaC _ OL rfl
  have L:((as.map Value.ref).toArray).size=i:=by simp[t.len]
  have af:=QA KG;refine wpAny_updateSeq (s:={s with heap:=M}) OL rfl (QU ⟨plainId_quiet F.plain_extend_loop _,ih (i+1) {s with heap:=M.update S (Obj.mapSeq (·.push (.ref s.heap.objs.size)))} (as++[s.heap.objs.size]) _ (by lia) be (ab.keep hS C) ?_ ?_ Ze ?_ ?_ λY N c' f2 e2 a2=>?_⟩) (by rw[L];lia) (by show((as.map Value.ref).toArray.push _).size<=sizeLine+1;rw[Array.size_push,L];lia)
  ·obtain⟨o,e,r⟩:=G;exact⟨o,C _ _ Zc.symm (K _ _ ml e),r⟩
  ·obtain⟨o,e,r⟩:=g2;exact⟨o,C _ _ Zd.symm (K _ _ mm e),r⟩
  ·refine⟨by simp[t.len],?_,λj hj=>?_⟩
   ·refine QaH.mpr ⟨t.nd,by simp,λa ha b V e=>?_⟩;rw[qI]at V;obtain⟨j,hj,rfl⟩:=Qi ha;obtain⟨x,y,_,_,h3,_⟩:=t.at_ j hj
    have:=QA h3;rw[e,V]at this;exact QaU _ this
   ·by_cases OM:j<as.length
    ·rw[Qe OM];obtain⟨x,y,O,Y,h3,h4⟩:=t.at_ j OM
     exact⟨x,y,O,Y,C _ _ (E _ h4).1 (K _ _ (E _ h4).2 h3),h4⟩
    ·have ej:j=as.length:=by simp at hj;lia
     subst ej;rw[Qf (Qz _)];simp only[Qar,uI];exact⟨xs[i],ys[i],by simp[t.len,be],by simp[t.len,OJ],C _ _ (E _ H).1 KG,H⟩
  ·have:=QA (C _ _ (E _ H).1 KG);exact Qag H (Nat.le_of_lt this)
  ·refine hR Y N c' (λb o d e=>f2 b o d ?_) e2 a2;exact C _ _ (Q b d).1 (K _ _ (Q b d).2 e)
theorem rR{z TI TO c d m:Addr}{xs:Array Value}{Q:Qbp->Shared->Prop}(L:A.handled=none)(D:ZipApart z TI TO c d l m)(N:xs.size<=ys.size)(hz:xs.size<=sizeLine)(f:IsZip s.heap z TI TO .none)(n:IsPair s.heap TI (.ref c) (.ref d))(p:IsPair s.heap TO .none .none)(t:s.heap.IsListIter c l 0)(g2:s.heap.IsListIter d m 0)(u:s.heap.IsList l xs)(x:s.heap.IsList m ys)(R:l∉[z,TO,c,d])(T:m∉[z,TO,c,d])
  (V:∀M as,(∀b o,b∉[z,TO,c,d]->s.heap.get? b=some o->M.get? b=some o)->C6 M (s.heap.objs.size+1) xs ys as xs.size->Q (as.map Value.ref) {s with heap:=M}):wpAny (model P w) A (collect (.ref z)) Q E s:=by
 have l1:l<s.heap.objs.size:=by obtain⟨_,e,_⟩:=u;exact QA e
 have l2:m<s.heap.objs.size:=by obtain⟨_,e,_⟩:=x;exact QA e
 have y:c<s.heap.objs.size:=by obtain⟨_,e,_⟩:=t;exact QA e
 have C:d<s.heap.objs.size:=by obtain⟨_,e,_⟩:=g2;exact QA e
 have g:z<s.heap.objs.size:=QA f;have b4:TI<s.heap.objs.size:=QA n;have G:TO<s.heap.objs.size:=QA p;unfold collect;refine QT (wpAny_runValue (codeAny_builtin F.entry_proto_collect ?_));rw[Qa4 F.plain_proto_collect _];show wpAny _ A.in1 (newList [] >>=λl=>again (.builtin "list.__iadd__" ⟨[l,.ref z],[]⟩)) _ _ s;refine QT (wpAny_newObj_type ?_);refine QU ⟨plainId_quiet F.plain_list_iadd _,codeAny_builtin F.entry_list_iadd ?_⟩;rw[Qa4 F.plain_list_iadd _];have h:∀b o,s.heap.get? b=some o->(s.heap.push {cls:=.type "list",data:=.seq ([]:Qbp).toArray}).get? b=some o:=λb o e=>Qc _ e;have i:({s with heap:=s.heap.push {cls:=.type "list",data:=.seq ([]:Qbp).toArray}}:Shared).TypeIs (.ref z) "zip":=⟨_,h _ _ f,rfl⟩
 show wpAny _ A.in1 (Builtin.List.listExtendWith (.ref s.heap.objs.size) (.ref z) (.ref s.heap.objs.size)) _ _ _;unfold Builtin.List.listExtendWith;refine QT (wpAny_typeOf i ?_);have O:Builtin.List.listSameRef (.ref s.heap.objs.size) (.ref z)=false:=by simp[Builtin.List.listSameRef,Qah g]
 have Y:(Value.type "zip"==Value.type "list")=false:=by decide
 have h3:(Value.type "zip"==Value.type "tuple")=false:=by decide
 simp only[O,Y,h3,Bool.or_false,Qak,if_false];refine QT (wpAny_pyIter_zip (h _ _ f) ?_);refine QT (wpAny_holding ?_);unfold Builtin.List.listLengthHint;refine QT (wpAny_specialOf i vJ ?_);show wpAny _ A.in1 (specialOf (Value.ref z) (Str.ofString "__length_hint__") >>=_) _ _ _;refine QT (wpAny_specialOf i sK ?_);refine QU ?_;show wpAny _ A.in1 (rule "list.extend.makes-room" >>=λ_=>Builtin.List.listTouch (.ref s.heap.objs.size) >>=λ_=>
  again (.builtin "list.extend.loop" ⟨[.ref s.heap.objs.size,.ref z,.ref s.heap.objs.size],[]⟩)) _ _ _
 refine QT (wpAny_rule ?_);have H:(s.heap.push {cls:=.type "list",data:=.seq ([]:Qbp).toArray}).get? s.heap.objs.size=some {cls:=.type "list",data:=.seq ([]:Qbp).toArray}:=Qd _ rfl;refine QT ?_;show wpAny _ A.in1 (updateSeq s.heap.objs.size (·.push .none) >>=λ_=>updateSeq s.heap.objs.size (·.pop)) _ _ _;refine QT (wpAny_updateSeq H rfl ?_);have I:=QaC (Obj.mapSeq (·.push Value.none)) H rfl;refine wpAny_updateSeq I rfl ?_;have k:=QaC (Obj.mapSeq (·.pop)) I rfl;have a:∀b o,s.heap.get? b=some o->
   (((s.heap.push {cls:=.type "list",data:=.seq ([]:Qbp).toArray}).update s.heap.objs.size (Obj.mapSeq (·.push Value.none))).update s.heap.objs.size (Obj.mapSeq (·.pop))).get? b=some o:=
  λb o e=>(QaY _ _ (Qah (QA e))).trans ((QaY _ _ (Qah (QA e))).trans (h b o e))
 generalize(((s.heap.push {cls:=.type "list",data:=.seq ([]:Qbp).toArray}).update s.heap.objs.size (Obj.mapSeq (·.push Value.none))).update s.heap.objs.size (Obj.mapSeq (·.pop)))=hp at k a;have Zf:s.heap.objs.size+1<=hp.objs.size:=QA k;refine QU ⟨plainId_quiet F.plain_extend_loop _,qQ (lo:=s.heap.objs.size+1) (xs:=xs) (ys:=ys) (by simpa using L) D N hz ?_ (Qah l1) (Qah l2) R T ?_ _ xs.size 0 {s with heap:=hp} [] _ rfl (Qaj _) ⟨.inl ⟨rfl,a _ _ f,_,_,a _ _ p⟩,a _ _ n,t.at λo e=>a _ _ e,g2.at λo e=>a _ _ e⟩ (let ⟨o,e,r⟩:=u;⟨o,a _ _ e,r⟩) (let ⟨o,e,r⟩:=x;⟨o,a _ _ e,r⟩) k ⟨rfl,QaX,λj hj=>absurd hj (by simp)⟩ Zf λM Es c' f2 e2 a2=>?_⟩
 ·simp only[Qp,QB,or_false,not_or];exact⟨Qah g,Qah b4,Qah G,Qah y,Qah C⟩
 ·intro b K;simp only[Qp,QB,or_false]at K;rcases K with rfl|rfl|rfl|rfl|rfl
  ·exact Nat.lt_succ_self _
  ·exact Qaq g
  ·exact Qaq G
  ·exact Qaq y
  ·exact Qaq C
 ·show wpAny _ A (load s.heap.objs.size >>=_) _ _ _;refine QT (wpAny_load e2 ?_);refine QU ?_;have:=V M Es (λb o nb e=>f2 b o (λq=>?_) (a b o e)) a2
  ·simpa[C7]using this
  ·rcases Qp.mp q with q|q
   ·have:=QA e;rw[q]at this;exact QaU _ this
   ·exact nb q
theorem mR{z TI TO e f m:Addr}{xs:Array Value}(i:A.handled=none)(D:ZipApart z TI TO e f l m)(j:xs.size<=ys.size)(hz:xs.size<=sizeLine)(g:IsZip s.heap z TI TO .none)(k:IsPair s.heap TI (.ref e) (.ref f))(n:IsPair s.heap TO .none .none)(p:s.heap.IsListIter e l 0)(g2:s.heap.IsListIter f m 0)(q:s.heap.IsList l xs)(r:s.heap.IsList m ys)(t:l∉[z,TO,e,f])(u:m∉[z,TO,e,f])
  (x:∀M as,(∀b o,b∉[z,TO,e,f]->s.heap.get? b=some o->M.get? b=some o)->C6 M (s.heap.objs.size+1) xs ys as xs.size->Q (.ref M.objs.size) {s with heap:=M.push {cls:=.type "tuple",data:=.seq (as.map Value.ref).toArray}}):wpAny (model P w) A (call (.type "tuple") [.ref z]) Q E s:=by
 refine callType_codes (Q₁:=λd a=>a.TypeIs d "tuple"/\Q d a) F.called_tuple (F.typeCall_tuple_1 _) F.entry_object_init ?_ λd a c=>?_
 ·refine codeAny_of_tree ?_;show wpAny _ (Around.in1 _) (do checkBuiltinCall "tuple.__new__" ⟨[.type "tuple",.ref z],[]⟩;again (.builtin "tuple.__new__" ⟨[.type "tuple",.ref z],[]⟩)) _ _ s;refine QT (wpAny_of_eq (F.newCall_tuple_1 _) (QU ⟨plainId_quiet F.plain_tuple_new _,codeAny_builtin F.entry_tuple_new ?_⟩));rw[Qa4 F.plain_tuple_new _];have I:=sub_tuple_self;have y:=init_tuple_lookup;have C:=madeHere_tuple;have G:s.TypeIs (.ref z) "zip":=⟨_,g,rfl⟩
  wp_walk using wpAny_typeOf G,rR (by simpa using i) D j hz g k n p g2 q r t u
  intro M as H h;show wpAny _ _ (Builtin.Tuple.tupleExact (as.map Value.ref).toArray >>=λv=>ret v) _ _ _;unfold Builtin.Tuple.tupleExact;refine QT (wpAny_newObj_type ?_ (by show(as.map Value.ref).toArray.size<=sizeLine;simp only[yJ,Ql];rw[h.len];exact hz));refine QU ?_;exact⟨⟨_,Qd _ rfl,rfl⟩,x M as H h⟩
 ·exact⟨c.1,F.args_object_init_2 d _,object_init_meets F.called_tuple.init.lookup F.called_tuple.made (by decide) P w A.in1 _ a ⟨c.1,rfl,c.2⟩⟩
structure Zg(H:Hp)(us xs ys:Qby):Prop where
 len:us.length=xs.length
 at_:∀i(h:i<us.length)(O:i<xs.length)(Y:i<ys.length),∃c,us[i]=.ref c/\H c=some (.tup [xs[i],ys[i]])
def Zh(a:TA):TE:=λZ H Q=>a Z H λvs H1=>∃l m xs ys,vs=[.ref l,.ref m]/\H1 l=some (.lst xs)/\H1 m=some (.lst ys)/\xs.length=ys.length/\∀T us U,H1 T=none->ae H1 U->U T=some (.tup us)->Zg U us xs ys->Q (.ref T) U
theorem zK {a b : Expr} {ta : TA} {p u P L : Pos} (g : X.calm = true) (hg : Gl X "tuple") (hm : X.mg "tuple" = none) (Zi : Gl X "zip") (OQ : X.mg "zip" = none) (ha : SA X [a, b] ta) (hs : starEach [a, b] X.env = [(false, eval a X.env), (false, eval b X.env)] := by rfl) (jw : starEach [b] X.env = [(false, eval b X.env)] := by rfl) (OR : starEach [Expr.Call (.Name "zip" u) [a, b] [] L] X.env = [(false, eval (.Call (.Name "zip" u) [a, b] [] L) X.env)] := by rfl) :
    SE X (.Call (.Name "tuple" p) [.Call (.Name "zip" u) [a, b] [] L] [] P) (Zh ta) := by
  constructor
  intro A s0 Z H Q R h
  refine wpAny_Call_Name_kw (gE R hg hm boot_tuple ?_)
  refine Qau ?_ OR rfl
  rw [OR]
  refine Calls.spliced_cons ?_
  refine Call_ (gE R Zi OQ boot_zip (Qau (av (ha.h L A s0 Z H _ R h) λus s ⟨vs, H1, I, r1, q1⟩ => ?_) (by rw [hs, jw]) (by rw [jw]; rfl)))
  obtain ⟨l, m, t, C, e, hl, rh, FW, q⟩ := q1
  subst e
  obtain ⟨u1, u2, rfl, JO, JP⟩ := r1.two
  cases JO
  cases JP
  obtain ⟨T, rv, pl, hz⟩ := I.list (ao.of hl)
  obtain ⟨E, Ak, DS, JN⟩ := I.list (ao.of rh)
  have e1 := rv.length
  have e2 := Ak.length
  have l1 : l < s.heap.objs.size := by obtain ⟨_, e, _⟩ := pl.isList; exact QA e
  have l2 : m < s.heap.objs.size := by obtain ⟨_, e, _⟩ := DS.isList; exact QA e
  refine call_zip_2 pl.isList DS.isList λG gz C8 Et g1 g2 ab HL => Calls.spliced_nil ?_
  have D := kN l1 l2
  have up : ∀ {c : Addr} {zs : Array Value}, s.heap.IsList c zs -> G.IsList c zs := λ⟨o, e, r⟩ => ⟨o, HL _ _ e, r⟩
  have n : ∀ c, c < s.heap.objs.size -> c ∉ [s.heap.objs.size + 4, s.heap.objs.size + 3, s.heap.objs.size, s.heap.objs.size + 1] := λc g => by
    simp only [Qp, QB, or_false, not_or]
    exact ⟨yT (jZ g (Nat.le_add_right _ _)), yT (jZ g (Nat.le_add_right _ _)), yT g, yT (jZ g (Nat.le_add_right _ _))⟩
  refine mR (s := { s with heap := G }) (I.ok.hd g) D (by simp; lia) (by simp; lia) gz C8 Et g1 g2 (up pl.isList) (up DS.isList) (n l l1) (n m l2) λk d hk N => ?_
  have K : ∀ b o, s.heap.get? b = some o -> (k.push { cls := .type "tuple", data := .seq (d.map Value.ref).toArray }).get? b = some o := λb o e => Qc _ (hk b o (n b (QA e)) (HL b o e))
  have al : d.length = t.length := by have := N.len; simp at this; lia
  have low : ∀ c ∈ d, s.heap.objs.size <= c /\ c < k.objs.size := λc g => by
    obtain ⟨j, hj, rfl⟩ := Qi g
    obtain ⟨x, y, _, _, h3, h4⟩ := N.at_ j hj
    refine ⟨Qag ?_ h4, QA h3⟩
    show s.heap.objs.size <= G.objs.size + 1
    lia
  have FZ : s.heap.objs.size <= k.objs.size := by
    have := QA (hk _ _ (λz => ?_) C8)
    · exact Qag (Nat.le_add_right _ 2) (Nat.le_of_lt this)
    · simp only [Qp, QB, or_false] at z
      rcases z with z | z | z | z
      · exact absurd z (by simp)
      · exact absurd z (by simp)
      · exact absurd z (by simp)
      · exact absurd z (by simp)
  have OS : (d.zip ((t.zip C).map λq => HO.tup [q.1, q.2])).map (·.1) = d := by rw [List.map_fst_zip]; rw [Ql, Qbg]; lia
  have nd : (((k.objs.size, HO.tup (d.map V.ref)) :: d.zip ((t.zip C).map λq => HO.tup [q.1, q.2])).map (·.1)).Nodup := by
    rw [xA, OS, jK]
    exact ⟨λz => QaU _ (low _ z).2, N.nd⟩
  have f : ∀ q ∈ (k.objs.size, HO.tup (d.map V.ref)) :: d.zip ((t.zip C).map λq => HO.tup [q.1, q.2]), s.heap.objs.size <= q.1 := λq hq => by
    rcases Qp.mp hq with rfl | hq
    · exact FZ
    · have : q.1 ∈ d := by rw [<- OS]; exact Yy.mpr ⟨q, hq, rfl⟩
      exact (low _ this).1
  have I4 := Inv.wm (t' := s.toks) I K _ f nd (λq hq U => by
    rcases Qp.mp hq with rfl | hq
    · refine (show bx X.prog X.w U _ _ (.tup _) from ⟨⟨by rw [Ql]; lia, Bm.new rfl rfl⟩, d.map Value.ref, ?_, IsTup.new _ _⟩)
      exact iG (by simp) λi G Y => by simp only [Qr]; rfl
    · obtain ⟨i, hi, rfl⟩ := Qi hq
      have ja : i < d.length /\ i < t.length /\ i < C.length := by
        rw [Qbg, Ql, Qbg] at hi; lia
      obtain ⟨x, y, f1, f2, f3, _⟩ := N.at_ i ja.1
      obtain ⟨w1, k1, p1⟩ := rv.get (Qa ja.2.1)
      obtain ⟨w2, k2, u⟩ := Ak.get (Qa ja.2.2)
      rw [Qa7, Qr, Qa7]
      have ex : x = w1 := by have : T[i]? = some x := by simpa using f1
                             rw [k1] at this; exact (QE this).symm
      have ey : y = w2 := by have : E[i]? = some y := by simpa using f2
                             rw [k2] at this; exact (QE this).symm
      subst ex ey
      exact hV p1 u (Qc _ f3))
  refine ⟨.ref k.objs.size, _, I4, rfl, q k.objs.size (d.map V.ref) _ ?_ ?_ ?_ ?_⟩
  · exact I.hok.fresh FZ
  · exact kF _ _ (λq hq => I.hok.fresh (f q hq)) nd
  · exact qE _ _ nd (k.objs.size, .tup (d.map V.ref)) xX
  · refine ⟨by simp [al], λi hi G Y => ?_⟩
    have af : i < d.length := by lia
    refine ⟨d[i], by rw [Qr], ?_⟩
    refine qE _ _ nd (d[i], .tup [t[i], C[i]]) (Qh _ ?_)
    refine List.mem_iff_getElem.mpr ⟨i, by rw [Qbg, Ql, Qbg]; lia, ?_⟩
    rw [Qa7, Qr, Qa7]
end L2
namespace L2
open PySem PySem.Spec PyProof.Rows PySem.W
end L2
namespace L2
open PySem PySem.Spec PyProof.Rows
theorem Zj(b:Scope)(a:Qbo)(h:F.kind=.function/\(∀y∈F.names,y.2≠.cell)/\(∀y∈F.names,y.2=.local->F.names.lookup y.1=some .local)/\(∀y∈F.names,y.2=.free->(b.names.lookup y.1=some .cell\/b.names.lookup y.1=some .free))/\(∀j∈idx,F.names.lookup (a.getD j "")=some .free/\j<a.length)/\N'=own++idx.map (λj=>a.getD j "")):pq b a F own idx N':=⟨h.1,h.2.1,h.2.2.1,h.2.2.2.1,h.2.2.2.2.1,h.2.2.2.2.2⟩
theorem bJ{P:Qbo}(h:F.kind=.function/\F.isCoroutine=false/\F.isGenerator=false/\N.Nodup/\N.take P.length=P/\(∀x∈P,F.names.lookup x=some .local\/F.names.lookup x=some .cell)/\∀y∈F.names,y.2≠.free):fc N P F:=⟨h.1,h.2.1,h.2.2.1,h.2.2.2.1,h.2.2.2.2.1,h.2.2.2.2.2.1,h.2.2.2.2.2.2⟩
section
variable{a b o i0 elt:Expr}{tb td ty:TE}{pos p:Pos}{zd:Scope}{P:Qbo}{tt:TC}
theorem aV(K:Q0)(c:SE X a ta)(d:SE X b tb)(hs:Jk b:=by exact λ_ _=>rfl)(h:X.K=K:=by rfl):SE X (.Subscript a b pos) (l_ (CF K) ta tb):=Ws (Wa K h) c d hs
theorem aY(a:X.A.units+1<cLine)(b:SE X o td)(hi:SE X i0 ty)(hs:E_ i0:=by exact λ_ _=>rfl):SE X (.Subscript o i0 pos) (Jp td ty):=Wr a b hi hs
theorem bT(i:Nat)(a:X.N.Nodup)(hi:X.N[i]? =some x:=by rfl)(b:Loc X.env.scope x:=by first|exact Or.inl rfl|exact Or.inr rfl)(c:QbD X x:=by first|exact .inl rfl|exact .inr rfl|assumption):SG X (.Name x pos) (n_ i):=Np a hi b c
theorem bF(i:Nat)(a:X.N.Nodup:=by first|(dsimp only[cy];decide+kernel)|(dsimp only[cy];assumption))(hi:X.N[i]? =some x:=by rfl)(b:Loc X.env.scope x:=by first|exact Or.inl rfl|exact Or.inr rfl)(c:QbD X x:=by first|exact .inl rfl|exact .inr rfl|assumption):SG X (.Name x pos) (n_ i):=Np a hi b c
theorem aI(i:Nat)(a:X.N.Nodup)(b:SE X e te)(hi:X.N[i]? =some x:=by rfl)(c:Loc X.env.scope x:=by first|exact Or.inl rfl|exact Or.inr rfl)(hs:swapsWith e (some (.Name x pos')) pos.line X.env=pure false:=by rfl)(d:QbD X x:=by first|exact .inl rfl|exact .inr rfl|assumption):
  SS X (.Assign [.Name x pos'] e pos) (Ac te (n_ i)):=Wv a hi c b hs d
theorem aT{k:Nat}(F:bq X.prog X.w X.K X.mg X.base j x ps sp)(a:gb k X.A)(b:SA X (e::es) t)(c:j<=k:=by first|decide|lia)(d:Gl X x:=by rfl)(f:QbE x:=by decide)
  (g:QbB X e es:=by rfl) (h:QbC X pos es:=by rfl):
  SE X (.Call (.Name x p) (e::es) [] pos) (E5 sp [] E0 t):=Wt F (a.mono c) b d f g h
theorem bO{id:String}{r:Qby->Hp->VK->Prop}(a:ux X (.builtin id) r)(b:X.mg x=none)(hv:bootBuiltins x=some (.builtin id))(c:SA X (e::es) t)(d:Gl X x:=by rfl)(f:x≠"__name__":=by decide)(g:QbE x:=by decide)
  (h:QbB X e es:=by rfl) (i:QbC X pos es:=by rfl):SE X (.Call (.Name x p) (e::es) [] pos) (yz r t):=Wu a d b hv c f g h i
theorem fL{r:Qby->Hp->VK->Prop}(a:ux X (.type T) r)(b:X.mg x=none)(hv:bootBuiltins x=some (.type T))(c:SA X (e::es) t)(d:Gl X x:=by rfl)(f:x≠"__name__":=by decide)(g:QbE x:=by decide)
  (h:QbB X e es:=by rfl) (i:QbC X pos es:=by rfl):SE X (.Call (.Name x p) (e::es) [] pos) (yz r t):=WA a d b hv c f g h i
theorem Zk(c:dj X (compareOp op) r)(d:SE X a ta)(e:SE X b tb)(f:behindInMarks op b=false:=by first|exact MU _|rfl):SE X (.Compare a [op] [b] pos) (l_ r ta tb):=Wi c d e f
theorem aU(c:dj X (compareOp op) r)(d:SE X a ta)(e:SE X b tb)(f:behindInMarks op b=false:=by first|exact MU _|rfl):ST X (.Compare a [op] [b] pos) (E2 (l_ r ta tb)):=Wj c d e f
theorem d6{a:Scope}{b:Qbo}(S:fc N P zd)(h:F.kind=.function/\(∀y∈F.names,y.2≠.cell)/\(∀y∈F.names,y.2=.local->F.names.lookup y.1=some .local)/\(∀y∈F.names,y.2=.free->(zd.names.lookup y.1=some .cell\/zd.names.lookup y.1=some .free))/\(∀j∈idx,F.names.lookup (N.getD j "")=some .free/\j<N.length)/\N'=own++idx.map (λj=>N.getD j ""):=by decide+kernel)(c:a=zd:=by rfl)(d:b=N:=by rfl):pq a b F own idx N':=by subst c d;exact Zj a b h
theorem kY(own:Qbo)(idx:Qbs)(N':Qbo)(S:pq X.env.scope X.N F own idx N')(hi:SI X tg iter wi)
  (d:∀a C b H0 fp c,SG (cy X N' F a C b H0 fp c) tg g) (e:∀a C b H0 fp c,SE (cy X N' F a C b H0 fp c) elt te) (f:X.calm=true:=by rfl)
  (hs:∀x,foldedSetIterable iter X.env x=pure x:=by intro _;rfl):SE X (.ListComp elt [⟨tg,iter,[],0⟩] F pos) (CD own idx wi g Fe te):=JI S f hi d (λ_ _ _ _ _ _=>g9) e hs
end
abbrev aa(a:Addr):Qbz:=some (.ref a)
abbrev gy(n:Int):Qbz:=some (.int n)
abbrev fb(z:Str):Qbz:=some (.str z)
abbrev bh(xs:Qby):Option HO:=some (.lst xs)
abbrev ig(xs:Qby):Option HO:=some (.tup xs)
abbrev gf(kvs:Qbv):Option HO:=some (.dK kvs)
theorem rq:0<=sizeLine:=by decide
theorem BR:1<=sizeLine:=by decide
theorem kq:2<=sizeLine:=by decide
theorem OT:3<=sizeLine:=by decide
theorem Zl:4<=sizeLine:=by decide
theorem cV{xs:Qby}{v:V}(h:i<xs.length)(e:xs[i]=v):xs.getD i .aq=v:=by rw[Qb,Qa h,e];rfl
theorem lP{l:List α}(h:i<l.length):l.take (i+1)=l.take i++[l[i]]:=by rw[Qs,Qa h];rfl
theorem dF{k:Nat}(r:gb k A):A.units+1<cLine/\A.units<cLine/\sizeLine=16777216:=⟨cW r,Qy (cW r),QM⟩
theorem xE(xs:Array Value):slicePick xs none none (some (-1))=xs.toList.reverse.toArray:=by
 unfold slicePick;congr 1;rw[<- W4 xs];show(sliceRange ((xs.size:Int)-1) (-1) (-1)).filterMap (xs[·]?)=_;unfold sliceRange;simp only[show ¬((-1:Int) > 0)by decide,if_false];rw[List.filterMap_map];have e:(if(xs.size:Int)-1 > -1 then(((xs.size:Int)-1)-(-1)-(-1)-1) / (- -1)else 0).toNat=xs.size:=by
  have a:(- -1:Int)=1:=rfl;rw[a,Int.ediv_one];split<;>lia
 rw[e];refine mW λk c=>?_;show xs[((xs.size:Int)-1+ -1*(k:Int)).toNat]? =_;have b:((xs.size:Int)-1+ -1*(k:Int))=((xs.size:Int)-1+(k:Int)* -1):=by lia
 rw[b]
section
variable{st:Expr}{ts:TE}{p2 pos:Pos}
def Zm(K:Q0)(b ts:TE):TE:=λZ H Q=>b Z H λx H1=>ts Z H1 λy H2=>y=.int (-1)/\∃a xs,x=.ref a/\ao K H2 a xs/\∀p,H2 p=none->Q (.ref p) (upd H2 p (.lst xs.reverse))
theorem Zn(K:Q0)(j:SE X e te)(hs:SE X st ts)(k:X.K=K:=by rfl):SE X (.Subscript e (.Slice none none (some st) p2) pos) (Zm K te ts):=by
 subst k;constructor;intro c s f H Q I h;refine Subscript_ (av (j.h c s f H _ I h) ?_);rintro v l ⟨x,m,n,p,z⟩;refine wpAny_Slice ?_;rw[evalPart_none];refine QU ?_;refine QU ?_;rw[evalPart_some];refine av (hs.h c l f m _ n z) ?_;rintro u d ⟨y,C,D,E,G,a,L,N,P,q⟩;subst G N;obtain⟨tk,rfl⟩:=(show ∃t,u=Value.int (-1) t from E)
 cases p;have g:Inv X c f C {d with heap:=d.heap.push {cls:=.type "slice",data:=.fields #[.none,.none,.int (-1) tk]}}:=D.kept (t':=d.toks) λb R q=>Qc _ q;obtain⟨its,r,pl,hz⟩:=g.list P;have i:=pl.isList;show wpAny (model X.prog X.w) X.A (subscriptTail e (.Slice none none (some st) p2) (.ref a) (.ref d.heap.objs.size)) (EP X c f Q) X.xe {d with heap:=d.heap.push {cls:=.type "slice",data:=.fields #[.none,.none,.int (-1) tk]}};refine tail_any (ops:=[.ref a,.ref d.heap.objs.size]) i.typeIs list_getitem_lookup (wpAny_getItem_list_slice (lo:=none) (hi:=none) (st:=some (-1)) i (Heap.IsSliceOf.new ..) .none .none (.int _ _) (by simp) ?_ (by have:=r.length;simp;lia)) (by with_unfolding_all rfl);rw[xE];refine⟨.ref _,_,g.laid (t':=d.toks) (o:=.lst L.reverse) (λb R q=>Qc _ q) (Qz _) ?_,rfl,q _ (g.hok.fresh (Qz _))⟩;exact⟨by simpa using hz,its.reverse,0,bg.rev r,Qd _ rfl⟩
end
theorem Zo(c:Nat)(h:97<=c/\c<123):CI.cps.toList[c-97]? =some c:=by
 have:∀d:Fin 26,CI.cps.toList[d.val]? =some (97+d.val):=by decide+kernel
 have:=this ⟨c-97,by lia⟩;rw[this];congr 1;simp;lia
section
def SrcAt(tp:Bool)(l:Addr)(vs:Array Value)(h:Heap):Prop:=if tp then IsTup h l vs else h.IsList l vs
def ye(tp:Bool)(c l:Addr)(k:Nat)(h:Heap):Prop:=if tp then IsTupIter h c l k else h.IsListIter c l k
theorem SrcAt.ext(x:SrcAt tp l vs h)(e:Heap.ExtBut b h M)(n:l≠b):SrcAt tp l vs M:=by
 cases tp
 ·exact Heap.IsList.extBut x e n
 ·exact IsTup.extBut x e n
theorem ye.at_{k:Nat}(x:ye tp c l k h)(q:∀o,h.get? c=some o->M.get? c=some o):ye tp c l k M:=by
 cases tp
 ·obtain⟨o,ho,r⟩:=x;exact⟨o,q o ho,r⟩
 ·obtain⟨o,ho,r⟩:=x;exact⟨o,q o ho,r⟩
theorem ye.obj{k:Nat}(x:ye tp c l k h):∃o,h.get? c=some o/\∀v,o.data≠.cell v:=by
 cases tp
 ·obtain⟨o,ho,_,d⟩:=x;exact⟨o,ho,λv z=>by rw[d]at z;cases z⟩
 ·obtain⟨o,ho,_,d⟩:=x;exact⟨o,ho,λv z=>by rw[d]at z;cases z⟩
theorem SrcAt.lt(x:SrcAt tp l vs h):l<h.objs.size:=by
 cases tp<;>(obtain⟨o,ho,_⟩:=x;exact QA ho)
theorem Zp{t:Addr}{x:Value}(a:IsTupIter s.heap c t i)(b:IsTup s.heap t vs)(d:vs[i]? =some x)
  (q:∀g,IsTupIter g c t (i+1)->Heap.SameBut c s.heap g->Q x {s with heap:=g}):wpAny (model P w) A (Builtin.SmallTypes.nextOf (.ref c)) Q E s:=by
 obtain⟨ob,e1,e2,e3⟩:=id a;obtain⟨ot,f1,_,m,f3⟩:=b;unfold Builtin.SmallTypes.nextOf;refine QT (wpAny_callSpecial?_slot (name:=Str.ofString "__next__") a.typeIs slot_tupleiter_next (wpAny_call_entry slot_tupleiter_next a.typeIs entry_tupleiter_next ?_ (args_tupleiter_next _)));show wpAny _ _ (field (.ref c) 0 >>=_) _ _ s;refine QT (wpAny_field e1 e3 (x:=.ref t) rfl ?_);show wpAny _ _ (if(Value.ref t==Value.none)=true then _ else _) _ _ s;rw[if_neg (by exact yH)];show wpAny _ _ (field (.ref c) 1 >>=_) _ _ s;refine QT (wpAny_field e1 e3 (x:=.int i 0) rfl ?_);show wpAny _ _ (seqItems? (.ref t) >>=_) _ _ s;refine QT (wpAny_seqItems f1 f3 ?_);simp only[QaO,d];refine QT (wpAny_setField e1 e3 (by simp) (QU ⟨x,rfl,QU (q _ ⟨_,QaC _ e1 (Obj.isFreed_of_fields (Obj.data_mapFields e3 _)),(Obj.cls_mapFields ..).trans e2,?_⟩ (Qat ..))⟩));rw[Obj.data_mapFields e3];simp[rawInt]
theorem Zq{t:Addr}(d:A.handled=none)(b:IsTupIter s.heap c t i)(f:IsTup s.heap t vs)(h:vs[i]? =none)
  (q:∀g e,Heap.ExtBut c s.heap g->(∃o,g.get? e=some o/\o.cls=.type "StopIteration")->E (.ref e) {s with heap:=g}):wpAny (model P w) A (Builtin.SmallTypes.nextOf (.ref c)) Q E s:=by
 obtain⟨ob,e1,e2,e3⟩:=id b;obtain⟨ot,f1,_,m,f3⟩:=f;unfold Builtin.SmallTypes.nextOf;refine QT (wpAny_callSpecial?_slot (name:=Str.ofString "__next__") b.typeIs slot_tupleiter_next (wpAny_call_entry slot_tupleiter_next b.typeIs entry_tupleiter_next ?_ (args_tupleiter_next _)));show wpAny _ _ (field (.ref c) 0 >>=_) _ _ s;refine QT (wpAny_field e1 e3 (x:=.ref t) rfl ?_);show wpAny _ _ (if(Value.ref t==Value.none)=true then _ else _) _ _ s;rw[if_neg (by exact yH)];show wpAny _ _ (field (.ref c) 1 >>=_) _ _ s;refine QT (wpAny_field e1 e3 (x:=.int i 0) rfl ?_);show wpAny _ _ (seqItems? (.ref t) >>=_) _ _ s;refine QT (wpAny_seqItems f1 f3 ?_);simp only[QaO,h];refine QT (wpAny_rule (QT (wpAny_setField e1 e3 (by simp) ?_)));show wpAny _ _ (newExc (.type "StopIteration") [] >>=_) _ _ _;refine QT ?_;simp only[newExc,newTuple];refine QT (wpAny_newObj_type ?_ (by size_fits));refine QT (m:=firstArgMember _ _) (wpAny_of_eq (a:=.none) (by first|rfl|(simp only[firstArgMember];rfl)) ?_);refine wpAny_newObj_type ?_ (by size_fits);simp only[raiseNew];refine QT (wpAny_handled ?_)
 first|rw[show A.in1.handled=none by exact d]|rw[d]
 exact QT (QU (wpAny_throw (q _ _ (((Qat ..).extBut.push _).push _) ⟨_,Qd _ rfl,rfl⟩)))
theorem Zr{x:Value}(a:ye tp c l i s.heap)(hs:SrcAt tp l vs s.heap)(b:vs[i]? =some x)
  (q:∀g,ye tp c l (i+1) g->Heap.SameBut c s.heap g->Q x {s with heap:=g}):wpAny (model P w) A (Builtin.SmallTypes.nextOf (.ref c)) Q E s:=by
 cases tp
 ·exact wpAny_nextOf_list_item a hs b q
 ·exact Zp a hs b q
theorem Zs(a:A.handled=none)(b:ye tp c l i s.heap)(hs:SrcAt tp l vs s.heap)(d:vs[i]? =none)
  (q:∀g e,Heap.ExtBut c s.heap g->(∃o,g.get? e=some o/\o.cls=.type "StopIteration")->E (.ref e) {s with heap:=g}):wpAny (model P w) A (Builtin.SmallTypes.nextOf (.ref c)) Q E s:=by
 cases tp
 ·exact wpAny_nextOf_list_end a b hs d q
 ·exact Zq a b hs d q
variable{t1 t2:Bool}{z TI TO c1 c2 l1 l2:Addr}{k1 k2:Nat}{xs:Array Value}{x y a b:Value}
end
end L2
namespace L2
open PySem PySem.Spec PyProof.Rows HT
end L2
namespace L2
open PySem PySem.Spec PyProof.Rows
open AutoSeq1 (wpAny_loadPart')
def Dt.Zt(z:Str):Dt->Bool
 | .tup [.str y]=>y==z
 |_=>false
def KN(h:Dt):Dt:=if h.Zt "hole" then .tup [.str "all"]else h
def HM:Dt->Dt| .tup [a,h]=>.tup [a,KN h]|d=>d
theorem DD.KO{x y:V}{c d:Dt}(e:H b=some (.tup [x,y]))(f:DD H x c)(g:DD H y d):DD H (.ref b) (.tup [c,d]):=.tup e rfl (by simp) λi a b=>by
 match i,a with
 |0,_=>exact f
 |1,_=>exact g
theorem DD.KP{x:V}{c:Dt}(e:H b=some (.tup [x]))(d:DD H x c):DD H (.ref b) (.tup [c]):=.tup e rfl (by simp) λi a b=>by
 match i,a with
 |0,_=>exact d
def OU(d e:Hp)(ws:Qby)(ds:List Dt):Prop:=∀j(h:j<ws.length)(M:j<ds.length),∃c f hv dx a,ws[j]=.ref c/\e c=some (.tup [f,hv])/\ds[j]=.tup [dx,a]/\DD d f dx/\(DD d hv (KN a)\/∃b,hv=.ref b/\e b=some (.tup [.str "all"])/\KN a=.tup [.str "all"])
theorem OU.dd{e a:Hp}{ws:Qby}{ds:List Dt}(f:OU e a ws ds)(s:ae e a)(j:Nat)(h:j<ws.length)(M:j<ds.length):DD a ws[j] (HM ds[j]):=by
 obtain⟨c,x1,hv,dx,dy,q1,q2,q3,q4,d⟩:=f j h M;rw[q1,q3];refine DD.KO q2 (q4.same s) ?_;rcases d with d|⟨b,rfl,g,i⟩
 ·exact d.same s
 ·rw[i];exact DD.KP g (.str (by decide))
def OV(H U:Hp)(v:V)(d:Dt):Prop:=DD H v (HM d)\/∃c a b dx,v=.ref c/\U c=some (.tup [a,.ref b])/\U b=some (.tup [.str "all"])/\DD H a dx/\HM d=.tup [dx,.tup [.str "all"]]
theorem OV.dd{v:V}(h:OV H U v d)(s:ae H U):DD U v (HM d):=by
 rcases h with h|⟨c,i,b,j,rfl,a,e,f,g⟩
 ·exact h.same s
 ·rw[g];exact DD.KO a (f.same s) (DD.KP e (.str (by decide)))
def Hd.Au:Hd->Bool| .one s=>s=="hole" |_=>false
def Hd.Zu:Hd->Bool| .way _ _=>true|_=>false
def Hd.HN(h:Hd):Hd:=if h.Au then .one "all" else h
def OW(r:aj):aj:=(r.1,r.2.HN)
structure TH(H:Hp)(a:Addr)(xs:Qby)(rows:List aj)(ns ws:Qbo):Prop where
 at_:H a=some (.tup xs)
 rv:RV H xs rows
 nm:(rows.map (·.1)).Perm ns
 nd:ns.Nodup
 ok:NH ns (rows.map OW)
 wd:∀n∈ns,Wd n
 ah:∀r∈rows,Fw ns r.1 r.2.nx
 ww:∀r∈rows,∀z∈r.2.qa,z∈ws
 pos:1<=ns.length
 few:ns.length<=10
 nw:∀r∈rows,r.2.Zu=false
 hl:rows.countP (λr=>r.2.Au)<=6
section
variable{xs:Qby}{rows:List aj}
theorem TH.rl(h:TH H a xs rows ns ws):rows.length=ns.length:=by have:=h.nm.length_eq;simpa using this
theorem HV.jx{v:V}{h:Hd}(q:HV H v h)(ok:h.HN.ok ns):DD H v h.dt:=by
 cases e:h.Au with
 |false=>
  have:h.HN=h:=by unfold Hd.HN;rw[e];rfl
  rw[this]at ok;exact(q.tx ok).dd
 |true=>
  cases q with
  | @one b s e1=>
   have:s="hole":=eq_of_beq e;subst this;exact DD.KP e1 (.str (by decide))
  |_=>cases e
theorem TH.dd(h:TH H a xs rows ns ws):DD H (.ref a) (.tup (rows.map W5)):=by
 have j:=h.rl;have few:=h.few;have d:=h.rv.len;refine .tup h.at_ (by simp[d]) (by lia) λi e f=>?_
 have c:i<rows.length:=by simpa using f
 obtain⟨b,v,q1,q2,q3⟩:=h.rv.at_ i e c
 obtain⟨m1,m2⟩:=h.ok (OW rows[i]) (Yy.mpr ⟨_,Qj c,rfl⟩);have g:isName rows[i].1=true:=m1;rw[q1];simp only[Qr];exact DD.KO q2 (.str (by have:=fZ g;lia)) (q3.jx m2)
end
end L2
namespace L2
open PySem PySem.Spec PyProof.Rows
open AutoSeq1 (wpAny_loadPart')
mutual
def Dt.oc:Dt->Nat
 | .str _=>0
 | .g_=>1
 | .tup ds=>OX ds
def OX:List Dt->Nat
 | []=>0
 |d::r=>d.oc+OX r
end
mutual
def Dt.dep:Dt->Nat
 | .str _=>0
 | .g_=>0
 | .tup ds=>OY ds+1
def OY:List Dt->Nat
 | []=>0
 |d::r=>max d.dep (OY r)
end
end L2
namespace L2
open PySem PySem.Spec PyProof.Rows
mutual
def Dt.cn:Dt->Nat
 | .str _=>1
 | .g_=>1
 | .tup ds=>OZ ds+1
def OZ:List Dt->Nat
 | []=>0
 |d::r=>d.cn+OZ r
end
structure DX(P:Addr->Prop)(H:Hp)(m:Bool)(v:V)(d:Dt)(k c:Nat):Prop where
 ex:∃p,DA P H m v p d/\p.depth<=k/\p.shown.length+2<=220*c/\p.showable=true/\d.cn<=c/\d.dep<=k
section
variable{P:Addr->Prop}{m:Bool}{v:V}{k k' c c':Nat}
theorem DX.dd(h:DX P H m v d k c):DD H v d:=let ⟨p,O,_⟩:=h.ex;O.dd
end
structure PX(H:Hp)(v:V)(d:Dt)(k c:Nat):Prop where
 ex:∃p,TX H v d/\AO H v p/\p.depth<=k/\p.shown.length+2<=220*c/\p.showable=true/\d.cn<=c/\d.dep<=k/\d.oc=0
section
variable{v:V}{k k' c c':Nat}
theorem PX.dd(h:PX H v d k c):DD H v d:=let ⟨_,O,_⟩:=h.ex;O.dd
inductive F0 (H:Hp) (k:Nat):Qby->List Dt->Nat->Prop
 |nil:F0 H k [] [] 0
 |cons {v:V} {d:Dt} {c:Nat} {vs:Qby} {ds:List Dt} {cs:Nat}:PX H v d k c->F0 H k vs ds cs->F0 H k (v::vs) (d::ds) (c+cs)
theorem F0.len{vs:Qby}{ds:List Dt}{a:Nat}(h:F0 H k vs ds a):vs.length=ds.length:=by
 induction h with
 |nil=>rfl
 |cons _ _ ih=>simp[ih]
end
theorem Zw{k:Nat}(a:gb k A):A.units+100<cLine:=by have:=a.un;lia
section
variable{KT:Type}[DecidableEq KT]{knd:KeyKind P w KT}{d:Addr}{kvs:List (KT×Value)}
theorem Zx{k:KT}{v:Value}(a:s.heap.IsKeyIter it d i kvs.length ep)(g:s.heap.DictAt knd d kvs ep)(b:kvs[i]? =some (k,v))
  (h:∀u M,knd.is k u=true->M.IsKeyIter it d (i+1) kvs.length ep->Heap.SameBut it s.heap M->Q u {s with heap:=M}):wpAny (model P w) A (Builtin.SmallTypes.nextOf (.ref it)) Q E s:=by
 obtain⟨o,e1,e2,e3⟩:=id a;obtain⟨q,es,f1,f2,f3,f4,f5,f6⟩:=id g;have j:es.size=kvs.length:=by rw[<- f5.length];simp
 have l:=(u6.mp b).1;have c:i<es.size:=by lia
 unfold Builtin.SmallTypes.nextOf;refine QT (wpAny_callSpecial?_slot (name:=Str.ofString "__next__") a.typeIs F.slot_dict_keyiterator_next (wpAny_call_entry F.slot_dict_keyiterator_next a.typeIs F.entry_dict_keyiterator_next ?_ (F.args_dict_keyiterator_next_1 _)));refine QT (QU (QT (QT (QT (wpAny_typeNameOfWhole_keyiter a.typeIs (QU (QT (wpAny_fieldsOf e1 e3 ?_))))))));simp only[(by decide:Builtin.Dict_items.ownsTuple "dict_keyiterator"=false),Qak,if_false];refine wpAny_ite_false (by rfl) (QT (QU (QT (wpAny_dictEntries f1 f3 (wpAny_ite_false (by rw[j];simp) (QT (QU (QT (wpAny_dictEpoch f1 f3 (wpAny_ite_false (by simp) (QU ?_)))))))))));dsimp only;rw[show(if(i:Int)<0 then none else es[(i:Int).toNat]?)=some es[i]by rw[if_neg (by lia)];simp[c]];dsimp only;have f:(s.heap.update it (Obj.mapFields (·.setIfInBounds 1 (rawInt ((i:Int)+1))))).IsKeyIter it d (i+1) kvs.length ep:=⟨_,QaC _ e1 (Obj.isFreed_of_fields (Obj.data_mapFields e3 _)),(Obj.cls_mapFields ..).trans e2,by rw[Obj.data_mapFields e3];simp[rawInt]⟩
 refine QT (QT (wpAny_typeNameOfWhole_keyiter a.typeIs (QU (QT (wpAny_isOneOf_keyiter a.typeIs (QT (wpAny_setField e1 e3 (by simp[Builtin.Dict_items.ownsTuple]) (QT (wpAny_holding (QT (wpAny_isOneOf_keyiter (s:={s with heap:=s.heap.update it (Obj.mapFields (·.setIfInBounds 1 (rawInt ((i:Int)+1))))}) f.typeIs ?_)))))))))));exact QU (QU ⟨_,rfl,QU (h _ _ (f5.get? (e:=es[i]) (by simp[c]) b).1 f (Qat ..))⟩)
theorem Zy(f:A.handled=none)(b:s.heap.IsKeyIter it d kvs.length kvs.length ep)(g:s.heap.DictAt knd d kvs ep)
  (h:∀M e,Heap.ExtBut it s.heap M->(∃o,M.get? e=some o/\o.cls=.type "StopIteration")->E (.ref e) {s with heap:=M}):wpAny (model P w) A (Builtin.SmallTypes.nextOf (.ref it)) Q E s:=by
 obtain⟨o,e1,e2,e3⟩:=id b;obtain⟨q,es,f1,f2,f3,f4,f5,f6⟩:=id g;have c:es.size=kvs.length:=by rw[<- f5.length];simp
 unfold Builtin.SmallTypes.nextOf;refine QT (wpAny_callSpecial?_slot (name:=Str.ofString "__next__") b.typeIs F.slot_dict_keyiterator_next (wpAny_call_entry F.slot_dict_keyiterator_next b.typeIs F.entry_dict_keyiterator_next ?_ (F.args_dict_keyiterator_next_1 _)));refine QT (QU (QT (QT (QT (wpAny_typeNameOfWhole_keyiter b.typeIs (QU (QT (wpAny_fieldsOf e1 e3 ?_))))))));simp only[(by decide:Builtin.Dict_items.ownsTuple "dict_keyiterator"=false),Qak,if_false];refine wpAny_ite_false (by rfl) (QT (QU (QT (wpAny_dictEntries f1 f3 (wpAny_ite_false (by rw[c];simp) (QT (QU (QT (wpAny_dictEpoch f1 f3 (wpAny_ite_false (by simp) (QU ?_)))))))))));dsimp only;rw[show(if(kvs.length:Int)<0 then none else es[(kvs.length:Int).toNat]?)=none by rw[if_neg (by lia)];simp[c]];dsimp only;refine QT (QT (wpAny_typeNameOfWhole_keyiter b.typeIs (QU (QT (wpAny_setField e1 e3 (by simp[Builtin.Dict_items.ownsTuple]) ?_)))));simp only[newExc,newTuple];refine QT (QT (wpAny_newObj_type (QT (m:=firstArgMember _ _) (wpAny_of_eq (a:=Value.none) (by first|rfl|(simp only[firstArgMember];rfl)) (wpAny_newObj_type ?_ (by size_fits)))) (by size_fits)));simp only[raiseNew];refine QT (wpAny_handled ?_);rw[show A.in1.handled=none from f];exact QT (QU (wpAny_throw (h _ _ (((Qat ..).extBut.push _).push _) ⟨_,Qd _ rfl,rfl⟩)))
theorem mX(c:A.handled=none)(f:d≠it):Draws P w A it [it,d] kvs.length (λi v=>∃k x,kvs[i]? =some (k,x)/\knd.is k v=true) (λi h=>h.IsKeyIter it d i kvs.length ep/\h.DictAt knd d kvs ep)where
 live:=λ_ _ st=>let ⟨o,ho,_⟩:=st.1;⟨o,ho⟩
 frame:=λ_ _ _ st k=>⟨st.1.at λo e=>k it (by simp) o e,let ⟨o,es,e,r⟩:=st.2;⟨o,es,k d (by simp) o e,r⟩⟩
 item:=λi s Q E a st g=>Zx st.1 st.2 (Qa a) λu j l m b=>g u j s.toks ⟨_,_,Qa a,l⟩ ⟨m,st.2.extBut b.extBut f⟩ b
 done:=λs Q E st n=>Zy c st.1 st.2 n
end
def KQ(a:Addr)(o:Obj)(kvs:Qbv):It:=⟨λi H=>H a=some (.af o (.dK kvs))/\i<kvs.length,λi H x U=>CJ (.int i) (jg kvs i) H x U,λi H=>H a=some (.af o (.dK kvs))/\kvs.length=i⟩
theorem Zz(kvs:Qbv):BA (KQ a o kvs) (λH=>H a=some (.af o (.dK kvs))) kvs.length (λi=>.int i) (jg kvs):=λH b=>⟨λi c=>⟨⟨b,c⟩,λx d h=>h⟩,b,rfl⟩
theorem ZA{K:Q0}{k:Nat}{r:Pos}{e:Addr}{kvs:Qbv}(L:∃es,o.data=.dict es ep)(m:e≠it)(KR:e≠a)(N:a≠it):
  Turn P w K (.Tuple yo k r) (KQ a o kvs) [e,it] e (λi h=>(∃g,IsEnum h e it i g)/\h.IsKeyIter it a i kvs.length ep)where
 mem:=by simp
 obj:=λi h st b f=>by
  obtain⟨⟨g,l⟩,q,hq,c,d⟩:=st;simp only[Qp,Qa8,or_false]at f;rcases f with rfl|rfl
  ·exact⟨_,l,λv z=>by have z':Data.fields _=Data.cell v:=z;cases z'⟩
  ·exact⟨q,hq,λv z=>by rw[d]at z;cases z⟩
 keep:=λi h p st k=>⟨st.1.imp λg l=>k e (by simp) _ l,st.2.at λo x=>k it (by simp) o x⟩
 item:=by
  intro X t y A C i j s Q H E I n st D;subst t y A;obtain⟨⟨g,l⟩,hit⟩:=st;obtain⟨hq,hi⟩:=D;obtain⟨e0,z,hd,vs,rel,ob,es,nu,O,Y,h3,h4⟩:=(show bx X.prog X.w H s.heap a (.af o (.dK kvs))from I.hok a _ hq)
  obtain⟨es',fh⟩:=L;rw[e0]at O;cases O;rw[fh]at h3;injection h3 with ii ik
  subst ii ik;have R:=rel.len;refine wpAny_pyNext_enum_itemD (mX (knd:=c_ X.prog X.w) (kvs:=vs) (ep:=ep) (I.ok.hd C) N) l ⟨by rw[<- R];exact hit,o,es',e0,Y,fh,h4⟩ (by lia) m (by simp[m,KR]) λu p G hu ho A4 hT ab hk=>?_;obtain⟨k',x',HL,ZC⟩:=hu;obtain⟨q,mi,oq⟩:=NC rel (Qa hi);rw[HL]at mi;cases mi;have ru:RelV (jg kvs i) u:=by
   unfold jg;rw[Qa hi];show RelV (kV kvs[i].1) u;rw[<- oq];exact nL ZC
  have I1:Inv X j Q (upd H s.heap.objs.size (.tup [.int i,jg kvs i])) {s with heap:=p,toks:=G+1}:=I.Fo n (λb o f e=>hk b o (λz=>f (by simp[z])) (λz=>f (by simp[z])) e) (Qz _) (hV ⟨_,rfl⟩ ru hT);refine⟨_,rfl,wpAny_letOwnedTupleGo_enum (s:={s with heap:=p,toks:=G+1}) ho λBy CS T=>?_⟩;have be:∀b∈[e,it],b≠s.heap.objs.size:=λb f z=>by
   simp only[Qp,Qa8,or_false]at f;rcases f with rfl|rfl
   ·exact yT (QA l) z
   ·obtain⟨_,q,_⟩:=hit;exact yT (QA q) z
  have V:∀b∈[e,it],uv X j (upd H s.heap.objs.size (.tup [.int i,jg kvs i])) b:=λb f=>⟨by rw[aB (be b f)];exact(n b f).1,(n b f).2⟩
  obtain⟨f0,f1,f2,f3,f4,f5⟩:=V e (by simp);exact⟨.ref s.heap.objs.size,_,I1.turned (t':=G+1) (λb o f q=>(T.2 b f).trans q) f0 f1 f3 f4 f5,rfl,⟨_,rfl,I.hok.fresh (Qz _),rfl⟩,⟨⟨u,by simpa using CS⟩,by rw[R];exact A4.1.at λo q=>(T.2 it m.symm).trans q⟩,λb f=>(V b f).1⟩
 done:=by
  intro X t y A C i j s Q H E I n st D;subst t y A;obtain⟨⟨g,l⟩,hit⟩:=st;obtain⟨hq,rfl⟩:=D;obtain⟨e0,z,hd,vs,rel,ob,es,nu,O,Y,h3,h4⟩:=(show bx X.prog X.w H s.heap a (.af o (.dK kvs))from I.hok a _ hq)
  obtain⟨es',fh⟩:=L;rw[e0]at O;cases O;rw[fh]at h3;injection h3 with ii ik
  subst ii ik;exact wpAny_pyNext_enum_endD (mX (knd:=c_ X.prog X.w) (kvs:=vs) (ep:=ep) (I.ok.hd C) N) l ⟨by rw[<- rel.len];exact hit,o,es',e0,Y,fh,h4⟩ λp eb=>⟨rfl,I.JL (t':=s.toks) n λb o f q=>eb b o (λz=>f (by simp[z])) q⟩
 self:=λ_ _ _ _ _ st h=>let ⟨⟨_,l⟩,_⟩:=st;wpAny_pyIter_enum l h
theorem wT{knd:KeyKind P w Key}{d:Addr}{kvs:List (Key×Value)}(j:(d==sysModules)=false)(f:s.heap.DictAt knd d kvs ep)
  (h:∀M,IsEnum M (s.heap.objs.size+1) s.heap.objs.size 0 .none->M.IsKeyIter s.heap.objs.size d 0 kvs.length ep->(∀b o,s.heap.get? b=some o->M.get? b=some o)->Q (.ref (s.heap.objs.size+1)) {s with heap:=M}):
  wpAny (model P w) A (call (.type "enumerate") [.ref d]) Q E s:=by
 refine callType_newIn F.called_enumerate (by decide) (F.typeCall_enumerate_1 _) (F.newCall_enumerate_1 _) (λi=>F.args_object_init_2 i _) F.entry_enumerate_new
  (S:=λ_ R s=>s.heap.DictAt knd d kvs ep/\∀M,IsEnum M (s.heap.objs.size+1) s.heap.objs.size 0 .none->M.IsKeyIter s.heap.objs.size d 0 kvs.length ep->(∀b o,s.heap.get? b=some o->M.get? b=some o)->R (.ok (.ret (.ref (s.heap.objs.size+1)))) {s with heap:=M}) (.of_wp λA R s q=>?_) ⟨f,λM k g2 m=>⟨⟨_,k,rfl⟩,h M k g2 m⟩⟩
 obtain⟨hp,g,dr,tk,os⟩:=s;obtain⟨f,q⟩:=q;have n:=sub_enumerate;have a:R (.ok (.ret (.ref (hp.push {cls:=.type "dict_keyiterator",data:=.fields #[.ref d,.int 0 0,.int kvs.length 0,.int ep 0]}).objs.size))) ⟨(hp.push {cls:=.type "dict_keyiterator",data:=.fields #[.ref d,.int 0 0,.int kvs.length 0,.int ep 0]}).push {cls:=.type "enumerate",data:=.fields #[.none,.bool false,.ref hp.objs.size,rawInt 0,.none,.none]},g,dr,tk,os⟩:=by
  have l:=QaS hp {cls:=.type "dict_keyiterator",data:=.fields #[.ref d,.int 0 0,.int kvs.length 0,.int ep 0]};rw[l];refine q _ ?_ ⟨_,Qc _ (Qd _ rfl),rfl,rfl⟩ λb o e=>Qc _ (Qc _ e);have:=Qd (hp.push {cls:=.type "dict_keyiterator",data:=.fields #[.ref d,.int 0 0,.int kvs.length 0,.int ep 0]}) (o:={cls:=.type "enumerate",data:=.fields #[.none,.bool false,.ref hp.objs.size,rawInt 0,.none,.none]}) rfl;rw[l]at this;exact this
 wp_walk
 refine wpAny_stack_any λst=>QU ?_;split
 ·rename_i c _ _ _ _ _
  cases(c==Value.type "enumerate")<;>(wp_walk using wpAny_pyIter_dict j f;exact⟨_,rfl,a⟩)
 ·wp_walk using wpAny_pyIter_dict j f
  exact⟨_,rfl,a⟩
section
variable{k:Nat}{p pos:Pos}{a:Expr}{ta:TA}
def ZD(b:TA):TI:=λZ H R=>b Z H λvs H1=>∃a kvs,vs=[.ref a]/\Rd H1 a (.dK kvs)/\∀o,R (KQ a o kvs) (upd H1 a (.af o (.dK kvs)))
theorem xP(m:Gl X "enumerate")(n:X.mg "enumerate"=none)(t:SA X [a] ta)(hs:starEach [a] X.env=[(false,eval a X.env)]:=by rfl):SI X (.Tuple yo k Bk) (.Call (.Name "enumerate" p) [a] [] pos) (ZD ta):=by
 constructor;intro c s u H R I h;refine Call_ (gE I m n boot_enumerate (Qau (av (t.h pos c s u H _ I h) ?_) hs rfl));rintro D d ⟨g,E,x,y,A⟩;obtain⟨a,kvs,e,hr,q⟩:=A;subst e;cases y with
 |cons r rr=>
  cases rr;cases r;obtain⟨o,es,ep,hd,I2,ho⟩:=x.freeze hr;obtain⟨e,z,we,g,rel,ob,es',nu,O,Y,h3,h4⟩:=(show bx X.prog X.w _ d.heap a (.af o (.dK kvs))from I2.hok a _ aA)
  rw[e]at O;cases O;rw[hd]at h3;injection h3 with ii ik
  subst ii ik;have i:=QA e;refine wT (knd:=c_ X.prog X.w) (kvs:=g) (ep:=ep) we ⟨o,es,e,Y,hd,h4⟩ λG j f C=>wpAny_pyIter_enum j ?_;refine⟨d.heap.objs.size+1,[d.heap.objs.size+1,d.heap.objs.size],_,_,_,rfl,I2.kept (t':=d.toks) C,ZA (kvs:=kvs) (a:=a) (o:=o) ⟨es,hd⟩ (Nat.succ_ne_self _) (Qah (Qaq i)) (yT i),⟨⟨_,j⟩,by rw[rel.len];exact f⟩,λb l=>?_,q o⟩;simp only[Qp,Qa8,or_false]at l;rcases l with rfl|rfl
  ·exact I2.sy (Qbk _) (I2.hok.fresh (Qbk _))
  ·exact I2.sy (Qz _) (I2.hok.fresh (Qz _))
end
def br(k:Nat):Str:=if k<26 then⟨#[107,97+k]⟩else⟨#[107,98,97+(k-26)]⟩
theorem nV{k:Nat}(h:k<26):br k=⟨#[107,97+k]⟩:=if_pos h
theorem mF{k:Nat}(h:26<=k):br k=⟨#[107,98,97+(k-26)]⟩:=if_neg (by lia)
theorem lQ{a b:Nat}(h:br a=br b):a=b:=by
 have c:=congrArg (λs:Str=>s.cps.toList) h;by_cases ha:a<26<;>by_cases hb:b<26
 ·rw[nV ha,nV hb]at c;simp only[Qa1,true_and,and_true]at c
  lia
 ·rw[nV ha,mF (by lia)]at c;simp at c
 ·rw[nV hb,mF (by lia)]at c;simp at c
 ·rw[mF (by lia),mF (by lia)]at c;simp only[Qa1,true_and,and_true]at c
  lia
def lh:Hd->Qbo->Hd
 | .one s,_=>.one s
 | .as y,_=>.as y
 | .way _ _,os=>.way (os.getD 0 "") (os.getD 1 "")
 | .prs s ps,os=>.prs s ((ps.map (·.1)).zip os)
section
variable{h:Hd}{os Al:Qbo}
theorem qS(c:os.length=h.bf.length):(lh h os).bf=(stH h).zip os:=by
 cases h with
 |one s=>rfl
 |as y=>rfl
 |way x y=>
  obtain⟨a,r,rfl⟩:=Qaz (l:=os) (by rw[c];exact Nat.succ_pos _);obtain⟨b,r,rfl⟩:=Qaz (l:=r) (by simp[Hd.bf]at c;lia);rfl
 |prs s ps=>
  simp only[lh,Hd.bf,stH,Qn];rw[List.zip_map_left,List.zip_map_left,Qn];rfl
theorem O0(a:os.length=h.bf.length):stH (lh h os)=stH h:=by
 have:(stH h).length=h.bf.length:=by simp[stH]
 rw[stH,qS a,List.map_fst_zip (by lia)]
theorem vX:(lh h os).bj=h.bj:=by cases h<;>rfl
theorem pU(a:h.nx=none):(lh h os).nx=none:=by cases h<;>first|rfl|cases a
theorem vT(a:os.length=h.bf.length):(lh h os).qa=h.qa:=by
 cases h with
 |prs s ps=>exact List.map_fst_zip (by simp[Hd.bf]at a;simp;lia)
 |_=>rfl
theorem yX(a:h.nx=none):(ie h).length=h.bf.length:=by
 cases h with
 |as y=>cases a
 |prs s ps=>simp[ie,Hd.bf]
 |_=>rfl
theorem yY(ok:h.ok ns)(i:h.nx=none)(f:os.length=h.bf.length)(g:∀o∈os,isName o=true/\o∈Al):(lh h os).ok Al:=by
 cases h with
 |one s=>exact ok
 |as y=>cases i
 |way x y=>
  obtain⟨a,r,rfl⟩:=Qaz (l:=os) (by rw[f];exact Nat.succ_pos _);obtain⟨b,r,rfl⟩:=Qaz (l:=r) (by simp[Hd.bf]at f;lia);have c:=g a (by simp);have d:=g b (by simp);exact⟨c.1,d.1,c.2,d.2⟩
 |prs s ps=>
  have k:ps.length=os.length:=by simp[Hd.bf]at f;lia
  refine⟨ok.1,λp j=>?_,?_,?_⟩
  ·obtain⟨c,d⟩:=List.of_mem_zip (a:=p.1) (b:=p.2) j;obtain⟨q,hq,e⟩:=Yy.mp c;exact⟨by rw[<- e];exact(ok.2.1 q hq).1,g _ d⟩
  ·rw[List.map_fst_zip (by simp;lia)];exact ok.2.2.1
  ·have:=ok.2.2.2;simp;lia
end
section
variable(rows:List aj)
open Classical in
noncomputable def au(L:Qbo):Qbo:=L.foldl (λb e=>if ∃a∈b,bu rows rows (a,e)then b else b++[e]) []
open Classical in
noncomputable def yf(b:Qbo)(e:Str):Nat:=b.findIdx λa=>decide (bu rows rows (a,e))
noncomputable def cN(a:Qbo)(e:Str):Str:=br (yf rows a e)
noncomputable def C9(b:Qbo)(a:Str):aj:=(cN rows b a,lh (ai rows a) ((ak rows a).map λm=>cN rows b m.2))
noncomputable def cz(L:Qbo):List aj:=(au rows L).map (C9 rows (au rows L))
end
structure A_(rows:List aj)(L fs:Qbo):Prop where
 sub:∀a∈fs,a∈L
 Eu:∀e∈L,∃a∈fs,bu rows rows (a,e)
 ap:fs.Pairwise λa b=>¬bu rows rows (a,b)
section
variable{rows:List aj}{L fs:Qbo}
open Classical in
theorem fP(L:Qbo)(e:Str):au rows (L++[e])=if ∃a∈au rows L,bu rows rows (a,e)then au rows L else au rows L++[e]:=by
 unfold au;rw[Qa2];rfl
theorem lq(L:Qbo):A_ rows L (au rows L):=by
 induction L using dD with
 |h0=>exact⟨λ_ h=>(nomatch h),λ_ h=>(nomatch h),List.Pairwise.nil⟩
 |hs L e ih=>
  rw[fP];split
  ·rename_i d
   refine⟨λa c=>W3.mpr (.inl (ih.sub a c)),λx f=>?_,ih.ap⟩;rcases W3.mp f with h|h
   ·exact ih.Eu x h
   ·rw[qI.mp h];exact d
  ·rename_i d
   refine⟨λa c=>?_,λx f=>?_,?_⟩
   ·rcases W3.mp c with h|h
    ·exact W3.mpr (.inl (ih.sub a h))
    ·exact W3.mpr (.inr h)
   ·rcases W3.mp f with h|h
    ·obtain⟨a,O,Y⟩:=ih.Eu x h;exact⟨a,W3.mpr (.inl O),Y⟩
    ·rw[qI.mp h];exact⟨e,by simp,bu.refl⟩
   ·refine List.pairwise_append.mpr ⟨ih.ap,by simp,λa c b g=>?_⟩;rw[qI.mp g];exact λz=>d ⟨a,c,z⟩
theorem nH(e:Str)(L:Qbo):∃r,au rows (e::L)=e::r:=by
 induction L using dD with
 |h0=>exact⟨[],by simp[au]⟩
 |hs L x ih=>
  obtain⟨r,hr⟩:=ih;rw[<- QaR,fP];split
  ·exact⟨r,hr⟩
  ·exact⟨r++[x],by rw[hr];rfl⟩
theorem q9(h:A_ rows L fs){e:Str}(b:e∈L):yf rows fs e<fs.length:=by
 obtain⟨a,O,Y⟩:=h.Eu e b;exact List.findIdx_lt_length_of_exists ⟨a,O,by simpa using Y⟩
theorem lV{e:Str}(hi:yf rows fs e<fs.length):bu rows rows (fs[yf rows fs e],e):=by
 have:=List.findIdx_getElem (w:=hi);exact Qt (inst:=Classical.propDecidable _) this
theorem hX{a e:Str}(h:bu rows rows (a,e)):yf rows fs a=yf rows fs e:=by
 unfold yf;congr 1;funext x;have:bu rows rows (x,a)↔bu rows rows (x,e):=⟨λq=>q.trans h,λq=>q.trans h.symm⟩
 simp[this]
theorem ZE(h:A_ rows L fs)(hi:i<fs.length):yf rows fs fs[i]=i:=by
 unfold yf;rw[List.findIdx_eq hi];refine⟨by simpa using bu.refl,λj a=>?_⟩;have:=Qac.mp h.ap j i (by lia) hi a;simpa using this
theorem sI(h:A_ rows L fs)(hi:i<fs.length):cN rows fs fs[i]=br i:=by rw[cN,ZE h hi]
theorem nP(h:A_ rows L fs){a e:Str}(c:a∈L)(d:e∈L):cN rows fs a=cN rows fs e↔bu rows rows (a,e):=by
 refine⟨λq=>?_,λq=>by rw[cN,cN,hX q]⟩;have b:=lV (q9 h c);have f:=lV (q9 h d);have g:yf rows fs a=yf rows fs e:=lQ q;simp only[g]at b;exact b.symm.trans f
theorem uK(h:A_ rows L fs):fs.map (cN rows fs)=(List.range fs.length).map br:=by
 refine Qam (by simp) λi a b=>?_;rw[Ql]at a;rw[Qr,Qr,List.getElem_range,sI h a]
theorem O1(h:A_ rows L fs){e:Str}(b:e∈L):cN rows fs e∈fs.map (cN rows fs):=by
 have a:=q9 h b;exact Yy.mpr ⟨fs[yf rows fs e],Qj a,by rw[cN,cN,hX (lV a)]⟩
theorem mZ:(cz rows L).map (·.1)=(au rows L).map (cN rows (au rows L)):=by
 rw[cz,Qn];rfl
theorem ZF(n:Nat):((List.range n).map br).Nodup:=wW.mpr (List.nodup_range.imp λh e=>h (lQ e))
theorem O2:((cz rows L).map (·.1)).Nodup:=by rw[mZ,uK (lq L)];exact ZF _
end
section
variable{rows:List aj}{L:Qbo}
structure jc(rows:List aj)(ns L:Qbo):Prop where
 g:ip rows ns
 en:∀e∈L,gj rows ns e
 cl:∀e∈L,∀m∈ak rows e,m.2∈L
theorem jc.hd(C:jc rows ns L){e:Str}(a:e∈L):(ai rows e).ok ns/\(ai rows e).nx=none:=by
 obtain⟨O,Y⟩:=C.g.rf (C.en e a);refine⟨Y,?_⟩;have:=(Qad.mp O).2;simpa using this
theorem jc.ol(C:jc rows ns L){e:Str}(a:e∈L)(c:Str->Str):((ak rows e).map λm=>c m.2).length=(ai rows e).bf.length:=by
 unfold ak;rw[(C.en e a).2];simp
theorem KS{a:Str}(b:a∈au rows L):ai (cz rows L) (cN rows (au rows L) a)=lh (ai rows a) ((ak rows a).map λm=>cN rows (au rows L) m.2):=bN O2 (Yy.mpr ⟨a,b,rfl⟩)
theorem ZG(C:jc rows ns L)(y:Str):jb (cz rows L) y=none:=by
 unfold jb ai;cases hf:(cz rows L).find? (λr=>decide (r.1=y))with
 |none=>rfl
 |some r=>
  obtain⟨a,ha,rfl⟩:=Yy.mp (QaI hf);exact pU (C.hd ((lq L).sub a ha)).2
theorem uM(C:jc rows ns L)(y:Str):endOf (cz rows L) y=y:=cH _ (ZG C y)
theorem ZH(C:jc rows ns L){a:Str}(b:a∈au rows L):ak (cz rows L) (cN rows (au rows L) a)=(ak rows a).map λm=>(m.1,cN rows (au rows L) m.2):=by
 have c:=(lq L).sub a b;have d:=gZ (C.en a c).2
 conv=>lhs;unfold ak
 rw[uM C,KS b,qS (C.ol c _),<- d,List.zip_map_left,List.zip_map_right,Qn,Qn];refine Qam (by simp) λi e f=>?_;simp[uM C]
theorem ZI(C:jc rows ns L){a e:Str}(d:a∈L)(f:e∈L)(h:bu rows rows (a,e)){c:Str->Str}(p:∀x y,bu rows rows (x,y)->c x=c y):((ak rows a).map λm=>(m.1,c m.2))=(ak rows e).map λm=>(m.1,c m.2):=by
 have j:=gZ (C.en a d).2;have q:=gZ (C.en e f).2;have r:stH (ai rows a)=stH (ai rows e):=h.me.2;have l:(ak rows a).map (·.1)=(ak rows e).map (·.1):=by rw[j,q,r]
 have t:(ak rows a).length=(ak rows e).length:=by simpa using congrArg List.length l
 refine Qam (by simpa using t) λi b n=>?_;rw[Ql]at b n;rw[Qr,Qr];have o:(ak rows a)[i].1=(ak rows e)[i].1:=by
  have:=Qbh l (i:=i) (by simpa using b);simpa using this
 have u:=iC (C.g.wj (C.en a d)) (Qj b);have w:=iC (C.g.wj (C.en e f)) (Qj n);have k:=h.kid (s:=(ak rows a)[i].1) (by rw[<- j];exact Yy.mpr ⟨_,Qj b,rfl⟩);unfold wq at k;rw[u]at k;rw[o,w]at k;have z:c (ak rows a)[i].2=c (ak rows e)[i].2:=p _ _ k;rw[o,z]
theorem tR(C:jc rows ns L){e:Str}(b:e∈L):ak (cz rows L) (cN rows (au rows L) e)=(ak rows e).map λm=>(m.1,cN rows (au rows L) m.2):=by
 obtain⟨a,O,Y⟩:=(lq (rows:=rows) L).Eu e b;have c:∀x y,bu rows rows (x,y)->cN rows (au rows L) x=cN rows (au rows L) y:=λx y h=>by rw[cN,cN,hX h]
 rw[<- c a e Y,ZH C O,ZI C ((lq L).sub a O) b Y c]
theorem O3(C:jc rows ns L){e:Str}(b:e∈L):ng rows (cz rows L) (e,cN rows (au rows L) e):=by
 obtain⟨a,O,Y⟩:=(lq (rows:=rows) L).Eu e b;have c:cN rows (au rows L) a=cN rows (au rows L) e:=by rw[cN,cN,hX Y]
 have d:=(lq L).sub a O;rw[<- c];refine⟨?_,?_⟩
 ·show(ai rows e).bj=_;rw[KS O,vX];exact Y.me.1.symm
 ·show stH (ai rows e)=_;rw[KS O,O0 (C.ol d _)];exact Y.me.2.symm
theorem ZJ(C:jc rows ns L){e:Str}(a:e∈L)(s:Qbo):fq (cz rows L) (cN rows (au rows L) e) s=(fq rows e s).map (cN rows (au rows L)):=by
 unfold fq;rw[tR C a,List.find?_map];simp only[Option.map_map,QC]
theorem O4(C:jc rows ns L):∀(n:Nat){e:Str},e∈L->mr rows (cz rows L) n (e,cN rows (au rows L) e)
 |0,e,he=>O3 C he
 |n+1,e,he=>⟨O3 C he,λs a=>by
   obtain⟨e',O⟩:=jR (C.en e he).2 a;have b:e'∈L:=by
    unfold fq at O;obtain⟨m,hm,rfl⟩:=QaA.mp O;exact C.cl e he m (QaI hm)
   have:=O4 C n b;unfold wq;rw[ZJ C he,O];exact this⟩
theorem ZK(C:jc rows ns L){e:Str}(a:e∈L):bu rows (cz rows L) (e,cN rows (au rows L) e):=d9.mpr λn=>O4 C n a
end
def fu(L ks:Qbo):Qbo:=ks.foldl (λL k=>if k∈L then L else L++[k]) L
section
variable{L ks:Qbo}{c:Str->Str}
theorem eJ(L ks:Qbo)(k:Str):fu L (ks++[k])=if k∈fu L ks then fu L ks else fu L ks++[k]:=by
 unfold fu;rw[Qa2];rfl
theorem iZ(L ks a:Qbo):fu L (ks++a)=fu (fu L ks) a:=by unfold fu;rw[Qa2]
theorem i7:x∈fu L ks↔x∈L\/x∈ks:=by
 induction ks using dD with
 |h0=>simp[fu]
 |hs l k ih=>
  rw[eJ];split
  ·rename_i a
   rw[ih,W3,qI];constructor
   ·rintro(h|h)<;>simp[h]
   ·rintro(h|h|rfl)
    ·exact .inl h
    ·exact .inr h
    ·exact ih.mp a
  ·rw[W3,ih,W3,or_assoc]
theorem qU(h:∀k∈ks,k∈L):fu L ks=L:=by
 induction ks using dD with
 |h0=>rfl
 |hs l k ih=>
  have:=ih λx a=>h x (W3.mpr (.inl a));rw[eJ,this,if_pos (h k (by simp))]
theorem pW(L ks:Qbo):∃r,fu L ks=L++r:=by
 induction ks using dD with
 |h0=>exact⟨[],by simp[fu]⟩
 |hs l k ih=>
  obtain⟨r,hr⟩:=ih;rw[eJ];split
  ·exact⟨r,hr⟩
  ·exact⟨r++[k],by rw[hr,QQ]⟩
theorem ZL(L ks:Qbo):fu [] ((fu L ks).map c)=fu (fu [] (L.map c)) (ks.map c):=by
 induction ks using dD with
 |h0=>rfl
 |hs l k ih=>
  rw[eJ,Qm,iZ,<- ih];split
  ·rename_i b
   refine(qU λx a=>?_).symm;rw[Qao,qI]at a;rw[a];exact i7.mpr (.inr (Yy.mpr ⟨k,b,rfl⟩))
  ·rw[Qm,iZ]
end
def az(rows:List aj)(f:Str)(i:Nat):Qbo:=(iy rows f i).map (·.1)
theorem rH(a:Str)(c:mq)(b:List (Qbo×Str)):(vf a c b).map (·.1)=fu (c.map (·.1)) (b.map (·.2)):=by
 induction b using dD with
 |h0=>rfl
 |hs l m ih=>
  rw[iJ,Qm,Qao,eJ,<- ih];split
  ·rfl
  ·rw[Qm];rfl
theorem sY{rows:List aj}{f:Str}(h:(az rows f i).length<=i):az rows f (i+1)=az rows f i:=by
 show List.map _ (match(iy rows f i)[i]? with|none=>iy rows f i|some c=>vf c.1 (iy rows f i) (ak rows c.1))=_;rw[List.getElem?_eq_none (by simpa[az]using h)];rfl
theorem mL{rows:List aj}{f:Str}{e:Str}(h:(az rows f i)[i]? =some e):az rows f (i+1)=fu (az rows f i) ((ak rows e).map (·.2)):=by
 rw[az,Qq]at h;obtain⟨c,hc,rfl⟩:=QaA.mp h;show List.map _ (match(iy rows f i)[i]? with|none=>iy rows f i|some c=>vf c.1 (iy rows f i) (ak rows c.1))=_;rw[hc];exact rH _ _ _
section
variable{f:Str}{c:Str->Str}{S:Str->Prop}
theorem uC(p:S f)(q:∀e,S e->∀m∈ak r1 e,S m.2)(n:∀e,S e->(ak r2 (c e)).map (·.2)=(ak r1 e).map λm=>c m.2):∀i,(∀e∈az r1 f i,S e)/\(∀j e,j<i->(az r1 f i)[j]? =some e->∀m∈ak r1 e,m.2∈az r1 f i)/\
  fu [] ((az r1 f i).map c)=az r2 (c f) (fu [] (((az r1 f i).take i).map c)).length
 |0=>⟨λe g=>by rw[qI.mp (show e∈[f]from g)];exact p,λj e d=>absurd d (by lia),rfl⟩
 |i+1=>by
  obtain⟨O,Y,h3⟩:=uC p q n i;rcases Nat.lt_or_ge i (az r1 f i).length with hi|hi
  ·have a:=Qa hi;have s:=Qj hi;have o:(az r1 f i).take (i+1)=(az r1 f i).take i++[(az r1 f i)[i]]:=by rw[Qs,a];rfl
   generalize(az r1 f i)[i]=e at a s o;have g:=O e s;have u:=mL a;obtain⟨r,hr⟩:=pW (az r1 f i) ((ak r1 e).map (·.2));rw[u];refine⟨λx a=>?_,λj x d a m b=>?_,?_⟩
   ·rcases i7.mp a with h|h
    ·exact O x h
    ·obtain⟨m,b,rfl⟩:=Yy.mp h;exact q e g m b
   ·rw[hr,Qg (by lia)]at a;by_cases FU:j<i
    ·exact i7.mpr (.inl (Y j x FU a m b))
    ·rw[show j=i by lia,‹(az r1 f i)[i]? =some e›]at a;cases a;exact i7.mpr (.inr (Yy.mpr ⟨m,b,rfl⟩))
   ·have w:(fu (az r1 f i) ((ak r1 e).map (·.2))).take (i+1)=(az r1 f i).take i++[e]:=by rw[hr,List.take_append_of_le_length (by lia),o]
    rw[w,ZL,Qn,show((c∘λm:Qbo×Str=>m.2))=λm=>c m.2 from rfl,<- n e g,Qm,iZ,Qao];have y:fu [] ((az r1 f i).map c)=fu (fu (fu [] (((az r1 f i).take i).map c)) [c e]) (((az r1 f i).drop (i+1)).map c):=by
     rw[<- iZ,<- iZ,<- Qao,<- Qm,<- Qm,<- QQ,<- o,List.take_append_drop]
    by_cases hc:c e∈fu [] (((az r1 f i).take i).map c)
    ·have:fu (fu [] (((az r1 f i).take i).map c)) [c e]=fu [] (((az r1 f i).take i).map c):=qU λk l=>by rw[qI.mp l];exact hc
     rw[this,<- h3];refine qU λk l=>?_;rcases i7.mp hc with h|h
     ·cases h
     obtain⟨x,BN,ex⟩:=Yy.mp h;obtain⟨j,d,ej⟩:=Qi BN;rw[Qaa]at d;rw[QaG]at ej;have z:=O x (Qa5 BN);rw[<- ex,n x z]at l;obtain⟨m,b,rfl⟩:=Yy.mp l;exact i7.mpr (.inr (Yy.mpr ⟨m.2,Y j x (by lia) (by rw[Qa (by lia),ej]) m b,rfl⟩))
    ·have t:fu (fu [] (((az r1 f i).take i).map c)) [c e]=fu [] (((az r1 f i).take i).map c)++[c e]:=by
      show(if c e∈_ then _ else _)=_;rw[if_neg hc]
     rw[t,Qk,QaD];have A:(az r2 (c f) (fu [] (((az r1 f i).take i).map c)).length)[(fu [] (((az r1 f i).take i).map c)).length]? =some (c e):=by
      rw[<- h3,y,t];obtain⟨r',ff⟩:=pW (fu [] (((az r1 f i).take i).map c)++[c e]) (((az r1 f i).drop (i+1)).map c);rw[ff,QQ,QaF (Qz _),Qar];rfl
     rw[mL A,h3]
  ·rw[sY hi];rw[Qab hi]at h3;rw[Qab (by lia)];exact⟨O,λj e d a=>Y j e (by have:=(u6.mp a).1;lia) a,h3⟩
theorem O6(a:S f)(b:∀e,S e->∀m∈ak r1 e,S m.2)(d:∀e,S e->(ak r2 (c e)).map (·.2)=(ak r1 e).map λm=>c m.2){i:Nat}(hi:(az r1 f i).length=i):az r2 (c f) (fu [] ((az r1 f i).map c)).length=fu [] ((az r1 f i).map c):=by
 have h:=(uC a b d i).2.2;rw[Qab (by lia)]at h;exact h.symm
end
section
variable{rows:List aj}{L:Qbo}
theorem ZO(L:Qbo):∀b,(∀e∈b,e∈L)->fu [] (b.map (cN rows (au rows L)))=(au rows b).map (cN rows (au rows L)):=by
 intro b
 induction b using dD with
 |h0=>intro _;rfl
 |hs l e ih=>
  intro h;have d:=ih λx f=>h x (W3.mpr (.inl f));have g:=h e (by simp);rw[Qm,Qao,eJ,d,fP];have c:cN rows (au rows L) e∈(au rows l).map (cN rows (au rows L))↔∃a∈au rows l,bu rows rows (a,e):=by
   rw[Yy];exact exists_congr λa=>and_congr_right λi=>nP (lq L) (h a (W3.mpr (.inl ((lq l).sub a i)))) g
  by_cases q:∃a∈au rows l,bu rows rows (a,e)
  ·rw[if_pos q,if_pos (c.mpr q)]
  ·rw[if_neg q,if_neg λz=>q (c.mp z),Qm];rfl
theorem ZP{f:Str}(C:jc rows ns (az rows f i))(a:f∈az rows f i)(hi:(az rows f i).length=i):az (cz rows (az rows f i)) (cN rows (au rows (az rows f i)) f) (au rows (az rows f i)).length=(au rows (az rows f i)).map (cN rows (au rows (az rows f i))):=by
 have h:=O6 (r1:=rows) (r2:=cz rows (az rows f i)) (S:=(· ∈az rows f i)) (c:=cN rows (au rows (az rows f i))) a C.cl (λe b=>by rw[tR C b,Qn];rfl) hi;rw[ZO _ _ λ_ h=>h]at h;simpa using h
end
section
variable{T:Addr}{xs ys:Qby}{rows:List aj}{L:Qbo}
theorem uV{k:Nat}(h:k<52):isName (br k)=true/\Wd (br k):=by
 have:∀k:Fin 52,isName (br k.val)=true/\(br k.val).length<=20/\∀c∈(br k.val).cps.toList,c<128:=by decide+kernel
 exact this ⟨k,h⟩
theorem jc.few(C:jc rows ns L)(c:L.Nodup):(au rows L).length<=30:=by
 have a:=cZ (l:=au rows L) (m:=ns) ((lq L).ap.imp λh e=>h (by rw[e];exact bu.refl)) λx b=>(C.en x ((lq L).sub x b)).1;exact Qag a C.g.few
theorem RT.least(rt:RT H a xs rows ns ws)(C:jc rows ns L)(j:L.Nodup)(l:L≠[])(e:U T=some (.tup ys))(n:RV U ys (cz rows L)):RT U T ys (cz rows L) ((au rows L).map (cN rows (au rows L))) ws:=by
 have I:=lq (rows:=rows) L;have few:=C.few j;have f:∀x∈(au rows L).map (cN rows (au rows L)),isName x=true/\Wd x:=λx d=>by
  rw[uK I]at d;obtain⟨k,hk,rfl⟩:=Yy.mp d;exact uV (by have:=Qaw.mp hk;lia)
 refine⟨e,n,by rw[mZ],by rw[<- mZ];exact O2,λr c=>?_,λx d=>(f x d).2,λr c y h=>?_,λr c z i=>?_,?_,by simpa using few⟩
 ·obtain⟨b,hb,rfl⟩:=Yy.mp c;obtain⟨O,Y⟩:=C.hd (I.sub b hb);refine⟨(f _ (Yy.mpr ⟨b,hb,rfl⟩)).1,yY O Y (C.ol (I.sub b hb) _) λo p=>?_⟩;obtain⟨m,hm,rfl⟩:=Yy.mp p;have:=O1 I (C.cl b (I.sub b hb) m hm);exact⟨(f _ this).1,this⟩
 ·obtain⟨b,hb,rfl⟩:=Yy.mp c;have:(C9 rows (au rows L) b).2.nx=none:=pU (C.hd (I.sub b hb)).2;rw[this]at h;cases h
 ·obtain⟨b,hb,rfl⟩:=Yy.mp c;have q:(C9 rows (au rows L) b).2.qa=(ai rows b).qa:=vT (C.ol (I.sub b hb) _);rw[q]at i;obtain⟨O,_⟩:=C.g.rf (C.en b (I.sub b hb));exact rt.ww _ (Qad.mp O).1 z i
 ·obtain⟨x,r,rfl⟩:=List.exists_cons_of_ne_nil l;obtain⟨r',ff⟩:=nH (rows:=rows) x r;rw[ff];simp
end
theorem nY(rows:List aj)(f:Str):∀i,∃r,az rows f i=f::r
 |0=>⟨[],rfl⟩
 |i+1=>by
  obtain⟨r,hr⟩:=nY rows f i;cases hx:(az rows f i)[i]? with
  |none=>exact⟨r,by rw[sY (List.getElem?_eq_none_iff.mp hx),hr]⟩
  |some e=>
   obtain⟨r',ff⟩:=pW (az rows f i) ((ak rows e).map (·.2));exact⟨r++r',by rw[mL hx,ff,hr];rfl⟩
theorem ZQ{rows:List aj}{f:Str}:cN rows (au rows (az rows f i)) f="ka":=by
 obtain⟨r,hr⟩:=nY rows f i;rw[hr];obtain⟨r',ff⟩:=nH (rows:=rows) f r;have I:=lq (rows:=rows) (f::r);rw[ff]at I⊢;exact sI I (i:=0) (by simp)
def ir(J:Str->Nat)(b:Qbo):Qbv:=b.map λa=>(Sum.inl (J a:Int),.str a)
def vm(J:Str->Nat)(c:Str->Str)(b:Qbo):Qbv:=b.map λa=>(Sum.inl (J a:Int),.str (c a))
section
variable{rows:List aj}{L fs:Qbo}
theorem ZR(h:(Sum.inl (n:Int):Key)∈(ir J fs).map (·.1)):∃a∈fs,J a=n:=by
 rw[ir,Qn]at h;obtain⟨a,ha,e⟩:=Yy.mp h;exact⟨a,ha,Int.ofNat.inj (KI.i.inj (Sum.inl.inj e))⟩
theorem ZS(I:A_ rows L fs)(f:∀a∈L,∀b∈L,J a=J b↔bu rows rows (a,b)):((ir J fs).map (·.1)).Nodup:=by
 rw[ir,Qn];refine wW.mpr (Qac.mpr λi j c d g e=>?_);exact Qac.mp I.ap i j c d g ((f _ (I.sub _ (Qj c)) _ (I.sub _ (Qj d))).mp (Int.ofNat.inj (KI.i.inj (Sum.inl.inj e))))
theorem zS{c:Str->Str}:(vm J c fs).map (·.1)=(ir J fs).map (·.1):=by simp[vm,ir]
theorem ZT(I:A_ rows L fs)(d:∀a∈L,∀b∈L,J a=J b↔bu rows rows (a,b))(f:((vm J (cN rows fs) fs).map (·.1)).Nodup){e:Str}(c:e∈L):a_ (vm J (cN rows fs) fs) (.inl (J e:Int))=some (.str (cN rows fs e)):=by
 obtain⟨a,ha,nb⟩:=I.Eu e c;refine fA f (Yy.mpr ⟨a,ha,?_⟩);rw[(d a (I.sub a ha) e c).mpr nb,(nP I (I.sub a ha) c).mpr nb]
end
theorem zE{h M:Hd}{j os:Qbo}(ok:h.ok ns)(d:M.ok j)(n:h.nx=none)(g:M.nx=none)(c:h.bj=M.bj)(k:stH h=stH M):lh h os=lh M os:=by
 have f:∀{s:Str},(s="all"\/s="none")->(s="way"\/s="box"\/s="pick")->False:=fun{s}a b=>by
  rcases a with rfl|rfl<;>rcases b with b|b|b<;>exact absurd b (by decide+kernel)
 have i:∀{s:Str},(s="box"\/s="pick")->s="way"->False:=fun{s}a b=>by
  subst b;rcases a with a|a<;>exact absurd a (by decide+kernel)
 cases h with
 |as y=>cases n
 |one s=>
  cases M with
  |as y=>cases g
  |one s'=>have e:s=s':=c;rw[e]
  |way x y=>exact(f ok (.inl c)).elim
  |prs s' ps=>have e:s=s':=c;subst e;exact(f ok (.inr d.1)).elim
 |way x y=>
  cases M with
  |as y=>cases g
  |one s'=>exact(f d (.inl c.symm)).elim
  |way x y=>rfl
  |prs s' ps=>exact(i d.1 c.symm).elim
 |prs s ps=>
  cases M with
  |as y=>cases g
  |one s'=>have e:s=s':=c;subst e;exact(f d (.inr ok.1)).elim
  |way x y=>exact(i ok.1 c).elim
  |prs s' ps'=>
   have e:s=s':=c;subst e;have q:=congrArg (List.map λt:Qbo=>t.getD 1 "") k;have q:ps.map (·.1)=ps'.map (·.1):=by simpa[stH,Hd.bf,QC]using q
   show Hd.prs s _=Hd.prs s _;rw[q]
section
variable{n1 n2 L1 KU:Qbo}
theorem O8(d:jc r1 n1 L1)(e:jc r2 n2 KU){a b:Str}(f:a∈L1)(j:b∈KU)(h:bu r1 r2 (a,b)){c1 c2:Str->Str}(q:∀x y,x∈L1->y∈KU->bu r1 r2 (x,y)->c1 x=c2 y):((ak r1 a).map λm=>(m.1,c1 m.2))=(ak r2 b).map λm=>(m.1,c2 m.2):=by
 have n:=gZ (d.en a f).2;have r:=gZ (e.en b j).2;have t:stH (ai r1 a)=stH (ai r2 b):=h.me.2;have o:(ak r1 a).map (·.1)=(ak r2 b).map (·.1):=by rw[n,r,t]
 have u:(ak r1 a).length=(ak r2 b).length:=by simpa using congrArg List.length o
 refine Qam (by simpa using u) λi c l=>?_;rw[Ql]at c l;rw[Qr,Qr];have p:(ak r1 a)[i].1=(ak r2 b)[i].1:=by
  have:=Qbh o (i:=i) (by simpa using c);simpa using this
 have w:=iC (d.g.wj (d.en a f)) (Qj c);have z:=iC (e.g.wj (e.en b j)) (Qj l);have k:=h.kid (s:=(ak r1 a)[i].1) (by rw[<- n];exact Yy.mpr ⟨_,Qj c,rfl⟩);unfold wq at k;rw[w]at k;rw[p,z]at k;have A:c1 (ak r1 a)[i].2=c2 (ak r2 b)[i].2:=q _ _ (d.cl a f _ (Qj c)) (e.cl b j _ (Qj l)) k;rw[p,A]
theorem zN{c:Str->Str}{L:Qbo}(g:∀a∈L,∀b∈L,c a=c b↔bu r1 r1 (a,b)):∀d,(∀e∈d,e∈L)->fu [] (d.map c)=(au r1 d).map c:=by
 intro d
 induction d using dD with
 |h0=>intro _;rfl
 |hs l e ih=>
  intro h;have i:=ih λx j=>h x (W3.mpr (.inl j));have k:=h e (by simp);rw[Qm,Qao,eJ,i,fP];have f:c e∈(au r1 l).map c↔∃a∈au r1 l,bu r1 r1 (a,e):=by
   rw[Yy];exact exists_congr λa=>and_congr_right λm=>g a (h a (W3.mpr (.inl ((lq l).sub a m)))) e k
  by_cases q:∃a∈au r1 l,bu r1 r1 (a,e)
  ·rw[if_pos q,if_pos (f.mpr q)]
  ·rw[if_neg q,if_neg λz=>q (f.mp z),Qm];rfl
open Classical in
theorem ZU{o p:Str}{u z:Nat}(A:jc r1 n1 (az r1 o u))(C:jc r2 n2 (az r2 p z))(O:(az r1 o u).length=u)(Y:(az r2 p z).length=z)(m1:o∈az r1 o u)(L:p∈az r2 p z)(h:bu r1 r2 (o,p)):cz r1 (az r1 o u)=cz r2 (az r2 p z):=by
 have H:=ZP C L Y;have hf:=@O6 r1 (cz r2 (az r2 p z));generalize N:az r1 o u=j at*;generalize az r2 p z=d at*;have I:=lq (rows:=r1) j;have E:=lq (rows:=r2) d
 let c:Str->Str:=λa=>if q:∃b,b∈d/\bu r1 r2 (a,b)then cN r2 (au r2 d) q.choose else""
 have D:∀a b,b∈d->bu r1 r2 (a,b)->c a=cN r2 (au r2 d) b:=λa b r l=>by
  have q:∃b,b∈d/\bu r1 r2 (a,b):=⟨b,r,l⟩
  show(if q:∃b,b∈d/\bu r1 r2 (a,b)then cN r2 (au r2 d) q.choose else"")=_;rw[dif_pos q];obtain⟨k1,k2⟩:=q.choose_spec;exact(nP E k1 r).mpr (k2.symm.trans l)
 have cl:∀e,(e∈j/\∃b∈d,bu r1 r2 (e,b))->∀m∈ak r1 e,m.2∈j/\∃b∈d,bu r1 r2 (m.2,b):=λe ⟨w,b,r,l⟩ m P=>by
  refine⟨A.cl e w m P,?_⟩;have V:m.1∈stH (ai r1 e):=by rw[<- gZ (A.en e w).2];exact Yy.mpr ⟨m,P,rfl⟩
  have k:=l.kid (s:=m.1) V;have jw:m.1∈stH (ai r2 b):=by rw[<- show stH (ai r1 e)=stH (ai r2 b)from l.me.2];exact V
  obtain⟨b',Bb⟩:=jR (C.en b r).2 jw;unfold wq at k;rw[iC (A.g.wj (A.en e w)) P]at k;rw[Bb]at k;refine⟨b',?_,k⟩;unfold fq at Bb;obtain⟨m',rh,rfl⟩:=QaA.mp Bb;exact C.cl b r m' (QaI rh)
 have S0:o∈j/\∃b∈d,bu r1 r2 (o,b):=⟨m1,p,L,h⟩
 have BS:∀e,(e∈j/\∃b∈d,bu r1 r2 (e,b))->(ak (cz r2 d) (c e)).map (·.2)=(ak r1 e).map λm=>c m.2:=λe ⟨w,b,r,l⟩=>by
  have q:=O8 A C w r l (c1:=c) (c2:=cN r2 (au r2 d)) λx y _ Q n=>D x y Q n;rw[D e b r l,tR C r,<- q,Qn];rfl
 have t:=hf (S:=λe=>e∈j/\∃b∈d,bu r1 r2 (e,b)) (c:=c) (f:=o) S0 cl BS (i:=u) (by rw[N];exact O);have all:∀e∈j,e∈j/\∃b∈d,bu r1 r2 (e,b):=by
  have:=(uC (r1:=r1) (r2:=cz r2 d) (S:=λe=>e∈j/\∃b∈d,bu r1 r2 (e,b)) (c:=c) (f:=o) S0 cl BS u).1;rw[N]at this;exact this
 rw[N]at t;have O9:∀a∈j,∀b∈j,c a=c b↔bu r1 r1 (a,b):=λa ha b r=>by
  obtain⟨_,a',BU,na⟩:=all a ha;obtain⟨_,b',Bb,l⟩:=all b r;rw[D a a' BU na,D b b' Bb l,nP E BU Bb];exact⟨λq=>(na.trans q).trans l.symm,λq=>(na.symm.trans q).trans l⟩
 rw[zN O9 j λ_ h=>h,D o p L h]at t;have lu:((au r1 j).map c).length=(au r2 d).length:=by
  refine xV (rows:=cz r2 d) (f:=cN r2 (au r2 d) p) ?_ ?_
  ·simpa[az]using congrArg List.length t
  ·simpa[az]using congrArg List.length H
 rw[lu,H,uK E]at t;have ml:(au r1 j).length=(au r2 d).length:=by simpa using lu
 have O_:∀i(G:i<(au r1 j).length),c (au r1 j)[i]=br i:=λi G=>by
  have:=Qbh t.symm (i:=i) (by simpa using G);simpa using this
 have c1:∀e∈j,c e=cN r1 (au r1 j) e:=λe w=>by
  have G:=q9 I w;have l:=lV G;rw[cN,<- O_ _ G];exact(O9 _ w _ (I.sub _ (Qj G))).mpr l.symm
 unfold cz;refine Qam (by simpa using ml) λi K g2=>?_;rw[Ql]at K g2;rw[Qr,Qr];have R:=I.sub _ (Qj K);have T:=E.sub _ (Qj g2);have e1:=sI I K;have e2:=sI E g2;have e3:=O_ i K;generalize(au r1 j)[i]=a at*;generalize(au r2 d)[i]=b at*;have l:bu r1 r2 (a,b):=by
  obtain⟨_,b',Bb,n⟩:=all a R;have e4:=D a b' Bb n;rw[e3,<- e2]at e4;exact n.trans ((nP E Bb T).mp e4.symm)
 have q:=O8 A C R T l (c1:=cN r1 (au r1 j)) (c2:=cN r2 (au r2 d)) λx y hx Q n=>by rw[<- c1 x hx,D x y Q n]
 have q2:=congrArg (List.map (·.2)) q;rw[Qn,Qn]at q2;obtain⟨o1,x1⟩:=A.hd R;obtain⟨o2,x2⟩:=C.hd T;unfold C9;rw[e1,e2];refine congrArg (Prod.mk _) ?_;have q3:((ak r1 a).map λm=>cN r1 (au r1 j) m.2)=(ak r2 b).map λm=>cN r2 (au r2 d) m.2:=q2;rw[q3];exact zE o1 o2 x1 x2 l.me.1 l.me.2
theorem jc.Pa(C:jc r1 n1 L1):(au r1 L1).length<=n1.length:=
 cZ (l:=au r1 L1) (m:=n1) ((lq L1).ap.imp λh e=>h (by rw[e];exact bu.refl)) λx a=>(C.en x ((lq L1).sub x a)).1
end
def HR:Hd->Qbo->Hd
 | .as _,os=>.as (os.getD 0 "")
 |h,os=>lh h os
theorem ZV{h:Hd}{os:Qbo}(a:h.nx=none):HR h os=lh h os:=by cases h<;>first|rfl|cases a
theorem ZW(g:Str->Str)(h:Hd):HR h ((ie h).map g)=h.qb g id:=by
 cases h with
 |prs s ps=>
  show Hd.prs s _=Hd.prs s _;congr 1;simp only[ie,Qn];rw[List.zip_map'];rfl
 |_=>rfl
theorem wD(g:Str->Str)(h:Hd):(h.qb g id).bj=h.bj:=by cases h<;>rfl
theorem wJ(g:Str->Str)(h:Hd):(h.qb g id).bf=h.bf.map λm=>(m.1,g m.2):=by
 cases h with
 |prs s ps=>simp[Hd.qb,Hd.bf,QC]
 |_=>rfl
theorem Pb(g:Str->Str)(h:Hd):stH (h.qb g id)=stH h:=by unfold stH;rw[wJ,Qn];rfl
section
variable{Aq:Qbo}{g:Str->Str}
structure wx(r1 r2:List aj)(ns Aq:Qbo)(g:Str->Str):Prop where
 g1:ip r1 ns
 g2:ip r2 Aq
 mem:∀y∈ns,g y∈Aq
 hd:∀y∈ns,ai r2 (g y)=(ai r1 y).qb g id
theorem wx.end_(R:wx r1 r2 ns Aq g)(b:x∈ns):endOf r2 (g x)=g (endOf r1 x):=by
 have k:∀n,qi (jb r1) n x∈ns/\endOf r2 (g (qi (jb r1) n x))=endOf r2 (g x):=by
  intro n
  induction n with
  |zero=>exact⟨b,rfl⟩
  |succ n ih=>
   rw[xW];obtain⟨i1,i2⟩:=ih;generalize qi (jb r1) n x=y at i1 i2;unfold AQ;cases a:jb r1 y with
   |none=>exact⟨i1,i2⟩
   |some z=>
    refine⟨((R.g1.step i1).2 z a).1,?_⟩;have:jb r2 (g y)=some (g z):=by unfold jb at a⊢;rw[R.hd y i1,Hd.Hh,a];rfl
    show endOf r2 (g z)=_;rw[((R.g2.step (R.mem y i1)).2 _ this).2,i2]
 obtain⟨k1,k2⟩:=k r1.length;have e:gj r1 ns (endOf r1 x):=R.g1.stay b;have a:jb r2 (g (endOf r1 x))=none:=by
  have c:=(R.g1.rf e).1;have d:(ai r1 (endOf r1 x)).nx=none:=by simpa using(Qad.mp c).2
  unfold jb;rw[R.hd _ e.1,Hd.Hh,d];rfl
 rw[<- k2];exact(R.g2.step (R.mem _ e.1)).1 a
theorem wx.en(R:wx r1 r2 ns Aq g){e:Str}(a:gj r1 ns e):gj r2 Aq (g e):=⟨R.mem e a.1,by rw[R.end_ a.1,a.2]⟩
theorem wx.on(R:wx r1 r2 ns Aq g){e:Str}(a:gj r1 ns e):ak r2 (g e)=(ak r1 e).map λm=>(m.1,g m.2):=by
 unfold ak;rw[(R.en a).2,a.2,R.hd e a.1,wJ,Qn,Qn];refine List.map_congr_left λm b=>?_;have:=u4 (R.g1.rf a).2 m b;show(m.1,endOf r2 (g m.2))=_;rw[R.end_ this];rfl
theorem wx.ag(R:wx r1 r2 ns Aq g):∀(n:Nat){e:Str},gj r1 ns e->mr r1 r2 n (e,g e)
 |0,e,he=>⟨by show(ai r1 e).bj=_;rw[R.hd e he.1,wD],by show stH (ai r1 e)=_;rw[R.hd e he.1,Pb]⟩
 |n+1,e,he=>⟨⟨by show(ai r1 e).bj=_;rw[R.hd e he.1,wD],by show stH (ai r1 e)=_;rw[R.hd e he.1,Pb]⟩,λs a=>by
   obtain⟨e',O⟩:=jR he.2 a;have b:=R.g1.fq he O;have:=R.ag n b;unfold wq;have c:fq r2 (g e) s=some (g e'):=by
    unfold fq at O⊢;rw[R.on he,List.find?_map,Option.map_map];obtain⟨m,hm,rfl⟩:=QaA.mp O;rw[show(λm:Qbo×Str=>decide (m.1=s))∘(λm:Qbo×Str=>(m.1,g m.2))=λm=>decide (m.1=s)from rfl,hm];rfl
   show mr r1 r2 n ((fq r1 e s).getD "",(fq r2 (g e) s).getD "");rw[O,c];exact this⟩
theorem wx.nb(R:wx r1 r2 ns Aq g){e:Str}(a:gj r1 ns e):bu r1 r2 (e,g e):=d9.mpr λn=>R.ag n a
theorem bu.up{p:Pr}(m:ng r1 r2 p)(h:∀s∈stH (ai r1 p.1),bu r1 r2 (wq r1 r2 p s)):bu r1 r2 p:=d9.mpr λn=>by
 cases n with
 |zero=>exact m
 |succ n=>exact⟨m,λs a=>d9.mp (h s a) n⟩
end
def gp(rows:List aj)(st:Nat)(x:Str):Str:=br (st+(rows.map (·.1)).idxOf x)
structure Kd where
 a:Addr
 xs:Qby
 rows:List aj
 ns:Qbo
def qe:Nat->List Kd->List aj
 |_,[]=>[]
 |s,k::ks=>k.rows.map (ic (gp k.rows s) id)++qe (s+k.rows.length) ks
def um:Nat->List Kd->Qbo
 |_,[]=>[]
 |s,k::ks=>k.ns.map (gp k.rows s)++um (s+k.rows.length) ks
def fz:Nat->List Kd->Qbo
 |_,[]=>[]
 |s,k::ks=>br s::fz (s+k.rows.length) ks
def iz:List Kd->Nat
 | []=>0
 |k::ks=>k.rows.length+iz ks
def i_(h:Hd)(ks:List Kd):List aj:=(br 0,lh h (fz 1 ks))::qe 1 ks
def yg(ks:List Kd):Qbo:=br 0::um 1 ks
section
variable{rows:List aj}{xs:Qby}{s st:Nat}{ks:List Kd}{k:Kd}{h:Hd}
theorem dL:∀(ks:List Kd)(s:Nat),(fz s ks).length=ks.length
 | [],_=>rfl
 |k::ks,s=>by simp[fz,dL ks]
theorem pV(a:(rows.map (·.1)).Nodup)(hi:i<rows.length):gp rows st rows[i].1=br (st+i):=by
 unfold gp;have:(rows.map (·.1)).idxOf rows[i].1=i:=by
  have:=List.Nodup.idxOf_getElem a i (by simpa using hi);simpa using this
 rw[this]
theorem yE(a:(rows.map (·.1)).Nodup):(rows.map (ic (gp rows st) id)).map (·.1)=(List.range rows.length).map λj=>br (st+j):=by
 refine Qam (by simp) λi b d=>?_;have c:i<rows.length:=by simpa using b
 simp only[Qr,List.getElem_range,ic];exact pV a c
def qo(H:Hp)(ks:List Kd){ws:Qbo}:Prop:=∀k∈ks,RT H k.a k.xs k.rows k.ns ws
theorem gU(a:qo (ws:=ws) H ks):∀s,(qe s ks).map (·.1)=(List.range (iz ks)).map λj=>br (s+j):=by
 induction ks with
 |nil=>intro s;rfl
 |cons k ks ih=>
  intro s;have b:=(a k (by simp)).ia;unfold qe iz;rw[Qm,yE b,ih (λc d=>a c (by simp[d])),List.range_add,Qm,Qn];congr 1;refine List.map_congr_left λj _=>?_;show br (s+k.rows.length+j)=br (s+(k.rows.length+j));rw[Nat.add_assoc]
theorem fW(a:qo (ws:=ws) H ks):∀s,((qe s ks).map (·.1)).Perm (um s ks):=by
 induction ks with
 |nil=>intro s;exact List.Perm.refl _
 |cons k ks ih=>
  intro s;have r:=a k (by simp);unfold qe um;rw[Qm];refine List.Perm.append ?_ (ih (λb c=>a b (by simp[c])) _);have:(k.rows.map (ic (gp k.rows s) id)).map (·.1)=(k.rows.map (·.1)).map (gp k.rows s):=by simp[ic,QC]
  rw[this];exact r.nm.map _
theorem pX(c:qo (ws:=ws) H ks):((i_ h ks).map (·.1)).Nodup:=by
 unfold i_;rw[xA,gU c,jK];refine⟨λq=>?_,wW.mpr (List.nodup_range.imp λn e=>n (by have:=lQ e;lia))⟩;obtain⟨j,_,e⟩:=Yy.mp q;have:=lQ (a:=1+j) (b:=0) e
 lia
theorem ZX(a:qo (ws:=ws) H ks){s:Nat}(b:x∈um s ks):∃j,j<iz ks/\x=br (s+j):=by
 have:=(fW a s).mem_iff.mpr b;rw[gU a]at this;obtain⟨j,hj,rfl⟩:=Yy.mp this;exact⟨j,Qaw.mp hj,rfl⟩
theorem ZY(a:qo (ws:=ws) H ks):(yg ks).Nodup:=by
 have p:=(fW a 1).cons (br 0);exact(p.nodup_iff).mp (pX (h:=.one "") a)
theorem jG:∀{ks:List Kd}{s:Nat}{r:aj},r∈qe s ks->∃(i:Nat)(k:Kd)(a:Nat),ks[i]? =some k/\r∈k.rows.map (ic (gp k.rows a) id)/\(∀x∈k.ns,gp k.rows a x∈um s ks)/\(∃A B,um s ks=A++k.ns.map (gp k.rows a)++B)
 |k::ks,s,r,h=>by
  unfold qe at h;rcases W3.mp h with h|h
  ·exact⟨0,k,s,rfl,h,λx b=>W3.mpr (.inl (Yy.mpr ⟨x,b,rfl⟩)),[],um (s+k.rows.length) ks,by simp[um]⟩
  ·obtain⟨i,k',a,O,Y,h3,A,B,h4⟩:=jG h;exact⟨i+1,k',a,O,Y,λx b=>W3.mpr (.inr (h3 x b)),k.ns.map (gp k.rows s)++A,B,by unfold um;rw[h4];simp⟩
theorem ZZ(a:qo (ws:=ws) H ks):∀{s:Nat}{x:Str},x∈fz s ks->x∈um s ks:=by
 induction ks with
 |nil=>intro s x h;cases h
 |cons k ks ih=>
  intro s x h;have r:=a k (by simp);unfold fz at h;unfold um;rcases Qp.mp h with rfl|h
  ·have b:0<k.rows.length:=by rw[r.rl];exact r.pos
   refine W3.mpr (.inl (Yy.mpr ⟨k.rows[0].1,r.nm.mem_iff.mp (Yy.mpr ⟨_,Qj b,rfl⟩),?_⟩));exact pV (st:=s) r.ia b
  ·exact W3.mpr (.inr (ih (λc d=>a c (by simp[d])) h))
theorem Z0(a:qo (ws:=ws) H ks)(s:Nat):(um s ks).length=iz ks:=by
 have:=(fW a s).length_eq;rw[gU a]at this;simpa using this.symm
theorem Z1{u:Qbo}{T:Addr}{ys:Qby}(b:qo (ws:=ws) H ks)(ok:h.ok u)(l:h.nx=none)(w:∀z∈h.qa,z∈ws)(C:ks.length=h.bf.length)(D:1+iz ks<=30)(e:U T=some (.tup ys))(E:RV U ys (i_ h ks)):RT U T ys (i_ h ks) (yg ks) ws:=by
 have d:∀x∈yg ks,isName x=true/\Wd x:=λx hx=>by
  rcases Qp.mp hx with rfl|hx
  ·exact uV (by decide)
  ·obtain⟨j,hj,rfl⟩:=ZX b hx;exact uV (by lia)
 have n:(fz 1 ks).length=h.bf.length:=by rw[dL,C]
 refine⟨e,E,(fW b 1).cons (br 0),ZY b,λr hr=>?_,λx hx=>(d x hx).2,λr hr y f=>?_,λr hr z a=>?_,by simp[yg],by
  show(um 1 ks).length+1<=30;rw[Z0 b];lia⟩
 ·rcases Qp.mp hr with rfl|hr
  ·refine⟨(d _ (by simp[yg])).1,yY ok l n λo G=>?_⟩;have:=Qh (br 0) (ZZ b G);exact⟨(d _ this).1,this⟩
  ·obtain⟨i,k,s',O,Y,h3,_⟩:=jG hr;obtain⟨r',m,rfl⟩:=Yy.mp Y;have c:=b k (QD O);have I:r'.1∈k.ns:=c.nm.mem_iff.mp (Yy.mpr ⟨r',m,rfl⟩);refine⟨(d _ (Qh _ (h3 _ I))).1,Hd.NJ (g:=id) (ws:=r'.2.qa) (c.ok r' m).2 (λz a=>a) (λx hx=>⟨Qh _ (h3 x hx),(d _ (Qh _ (h3 x hx))).1⟩) (λz a=>?_) (λL _ hr=>by simpa using hr)⟩;have hok:=(c.ok r' m).2
   revert a hok
   cases r'.2 with
   |prs s ps=>
    intro a hok;obtain⟨p,hp,rfl⟩:=Yy.mp a;exact(hok.2.1 p hp).1
   |_=>intro a;cases a
 ·rcases Qp.mp hr with rfl|hr
  ·rw[show(lh h (fz 1 ks)).nx=none from pU l]at f;cases f
  ·obtain⟨i,k,s',O,Y,h3,A,B,h4⟩:=jG hr;obtain⟨r',m,rfl⟩:=Yy.mp Y;have c:=b k (QD O);have K:(r'.2.nx).map (gp k.rows s')=some y:=by rw[<- Hd.Hh (gp k.rows s') id];exact f
   obtain⟨y',e1,rfl⟩:=QaA.mp K;obtain⟨i,j,vc,g1,g2⟩:=c.ah r' m y' e1;have t:∀(i:Nat)(x:Str),k.ns[i]? =some x->(yg ks)[A.length+i+1]? =some (gp k.rows s' x):=λi x q=>by
    unfold yg;rw[h4,List.getElem?_cons_succ,QQ,QaF (by lia),show A.length+i-A.length=i by lia,Qg (by
     have:=(u6.mp q).1;simpa using this),Qq,q]
    rfl
   exact⟨_,_,by lia,t i _ g1,t j _ g2⟩
 ·rcases Qp.mp hr with rfl|hr
  ·exact w z (by rw[<- vT n];exact a)
  ·obtain⟨i,k,s',O,Y,_⟩:=jG hr;obtain⟨r',m,rfl⟩:=Yy.mp Y;have c:=b k (QD O);exact Hd.NK (g:=id) (ws:=ws) (c.ww r' m) (λz a=>a) z a
theorem Z2(c:qo (ws:=ws) H ks):∀{i s:Nat}{k:Kd},ks[i]? =some k->∃s',(fz s ks)[i]? =some (br s')/\(∀r∈k.rows.map (ic (gp k.rows s') id),r∈qe s ks)/\∀x∈k.ns,gp k.rows s' x∈um s ks:=by
 induction ks with
 |nil=>intro i s k h;simp at h
 |cons k0 ks ih=>
  intro i s k h;cases i with
  |zero=>
   simp at h;subst h;exact⟨s,rfl,λr a=>W3.mpr (.inl a),λx b=>W3.mpr (.inl (Yy.mpr ⟨x,b,rfl⟩))⟩
  |succ i=>
   obtain⟨s',O,Y,h3⟩:=ih (λd e=>c d (by simp[e])) (s:=s+k0.rows.length) (by simpa using h);exact⟨s',by simpa[fz]using O,λr a=>W3.mpr (.inr (Y r a)),λx b=>W3.mpr (.inr (h3 x b))⟩
theorem Z3{B:List aj}{nb:Qbo}{a:Nat}(b:ip k.rows k.ns)(c:ip B nb)(d:∀r∈k.rows.map (ic (gp k.rows a) id),r∈B)(e:∀x∈k.ns,gp k.rows a x∈nb):wx k.rows B k.ns nb (gp k.rows a):=
 ⟨b,c,e,λy f=>bN (r:=ic (gp k.rows a) id (y,ai k.rows y)) c.ia (d _ (Yy.mpr ⟨_,b.HH f,rfl⟩))⟩
end
theorem oV:∀(ks:List Kd)(k:Kd),iz (ks++[k])=iz ks+k.rows.length
 | [],k=>by simp[iz]
 |k0::ks,k=>by simp[iz,oV ks k];lia
theorem mH:∀(ks:List Kd)(k:Kd)(s:Nat),qe s (ks++[k])=qe s ks++k.rows.map (ic (gp k.rows (s+iz ks)) id)
 | [],k,s=>by simp[qe,iz]
 |k0::ks,k,s=>by
  show k0.rows.map _++qe (s+k0.rows.length) (ks++[k])=(k0.rows.map _++qe (s+k0.rows.length) ks)++_;rw[mH ks k,QQ];show _=_++(_++k.rows.map (ic (gp k.rows (s+(k0.rows.length+iz ks))) id));rw[Nat.add_assoc]
theorem pI:∀(ks:List Kd)(k:Kd)(s:Nat),fz s (ks++[k])=fz s ks++[br (s+iz ks)]
 | [],k,s=>by simp[fz,iz]
 |k0::ks,k,s=>by
  show br s::fz (s+k0.rows.length) (ks++[k])=br s::(fz (s+k0.rows.length) ks++[br (s+(k0.rows.length+iz ks))]);rw[pI ks k,Nat.add_assoc]
theorem kK:∀(ks:List Kd)(s:Nat),(qe s ks).length=iz ks
 | [],s=>rfl
 |k::ks,s=>by simp[qe,iz,kK ks]
theorem pJ:∀(ks:List Kd)(j:Nat),iz (ks.take j)<=iz ks
 | [],j=>by simp[iz]
 |k::ks,0=>by simp[iz]
 |k::ks,j+1=>by
  have:=pJ ks j;simp only[List.take_succ_cons,iz]
  lia
def BV(H:Hp)(us:Qby)(ks:List Kd):Hd->Prop
 | .prs _ ps=>us.length=ks.length/\∀i(_:i<us.length)(_:i<ps.length)(_:i<ks.length),∃c,us[i]=.ref c/\H c=some (.tup [.str ps[i].1,.ref ks[i].a])
 |_=>us=ks.map λk=>.ref k.a
theorem vO{h:Hd}{ks:List Kd}(a:qo (ws:=ws) H ks)(b:h.nx=none):endOf (i_ h ks) (br 0)=br 0:=by
 refine cH _ ?_;unfold jb;rw[show ai (i_ h ks) (br 0)=lh h (fz 1 ks)from bN (r:=(br 0,lh h (fz 1 ks))) (pX a) (by simp[i_])];exact pU b
theorem Z4{h:Hd}{ks:List Kd}{rows:List aj}{f:Str}(c:qo (ws:=ws) H ks)(D:∀z∈ws,Wd z)(g:ip rows ns)(d:gj rows ns f)(a:ai rows f=h)(E:ks.length=(ak rows f).length){nb:Qbo}(n:ip (i_ h ks) nb)(o:∀x∈yg ks,x∈nb)
  (G:∀i(O:i<(ak rows f).length)(Y:i<ks.length),∃x,x∈ks[i].ns/\ks[i].rows[0]?.map (·.1)=some x/\endOf ks[i].rows x=x/\bu rows ks[i].rows ((ak rows f)[i].2,x)):bu rows (i_ h ks) (f,br 0):=by
 have I:h.nx=none:=by
  have:=(Qad.mp (g.rf d).1).2;rw[<- a];simpa using this
 have ol:(ak rows f).length=h.bf.length:=by unfold ak;rw[d.2,a];simp
 have j:(fz 1 ks).length=h.bf.length:=by rw[dL,E,ol]
 have k:ai (i_ h ks) (br 0)=lh h (fz 1 ks):=bN (r:=(br 0,lh h (fz 1 ks))) (pX c) (by simp[i_]);have p:=vO (h:=h) c I;have K:ng rows (i_ h ks) (f,br 0):=⟨by show(ai rows f).bj=_;rw[k,vX,a],by show stH (ai rows f)=_;rw[k,O0 j,a]⟩
 have L:gj (i_ h ks) nb (br 0):=⟨o _ (by simp[yg]),p⟩
 have t:ak (i_ h ks) (br 0)=((stH h).zip (fz 1 ks)).map λm=>(m.1,endOf (i_ h ks) m.2):=by unfold ak;rw[p,k,qS j]
 have b:=gZ d.2;rw[a]at b;refine bu.up K λs N=>?_;have P:s∈(ak rows f).map (·.1):=by rw[b,<- a];exact N
 obtain⟨m,hm,rfl⟩:=Yy.mp P;obtain⟨i,hi,rfl⟩:=Qi hm;have l:i<ks.length:=by lia
 obtain⟨x,x1,x2,x3,x4⟩:=G i hi l;have e:=c ks[i] (Qj l);obtain⟨s',p1,p2,p3⟩:=Z2 c (s:=1) (Qa l);have R:=Z3 (B:=i_ h ks) (nb:=nb) (e.CW D) n (λr Q=>Qh _ (p2 r Q)) λy T=>o _ (Qh _ (p3 y T));have u:gp ks[i].rows s' x=br s':=by
  have w:0<ks[i].rows.length:=by rw[e.rl];exact e.pos
  rw[Qa w]at x2;have:ks[i].rows[0].1=x:=by simpa using x2
  rw[<- this];exact pV (st:=s') e.ia w
 have A:=x4.trans (R.nb ⟨x1,x3⟩);rw[u]at A;have V:i<(ak (i_ h ks) (br 0)).length:=by rw[t,Ql,Qbg,j,<- ol,<- b,Ql];lia
 have fi:i<(fz 1 ks).length:=by lia
 have si:i<(stH h).length:=by rw[<- b,Ql];exact hi
 have Z6:(ak (i_ h ks) (br 0))[i]=((stH h)[i],br s'):=by
  have q:(ak (i_ h ks) (br 0))[i]=((stH h)[i],endOf (i_ h ks) (fz 1 ks)[i]):=by simp only[t,Qr,Qa7]
  have q2:(fz 1 ks)[i]=br s':=by rw[Qa fi]at p1;exact QE p1
  rw[q,q2,<- u,R.end_ x1,x3]
 have es:(stH h)[i]=(ak rows f)[i].1:=by
  have:=Qbh b (i:=i) (by simpa using hi);simpa using this.symm
 unfold wq;rw[iC (g.wj d) (Qj hi)];have C:=iC (n.wj L) (Qj V);rw[Z6]at C;rw[<- es];show bu _ _ (_,(L2.fq (i_ h ks) (br 0) (stH h)[i]).getD "");rw[show L2.fq (i_ h ks) (br 0) (stH h)[i]=some (br s')from C];exact A
theorem RV.app{xs ys:Qby}(h:RV H xs r1)(M:RV H ys r2):RV H (xs++ys) (r1++r2):=by
 have a:=h.len;have b:=M.len;refine⟨by simp[a,b],λi c g2=>?_⟩;by_cases hi:i<xs.length
 ·rw[Qe hi,Qe (by lia)];exact h.at_ i hi (by lia)
 ·rw[Qf (by lia),Qf (by lia)];simp only[a];exact M.at_ (i-r1.length) (by simp at c;lia) (by simp at g2;lia)
section
variable{d:Addr}
theorem oK(b:A.handled=none)(c:d≠it):Draws P w A it [it,d] vs.size (λi v=>vs[i]? =some v) (λi h=>ye true it d i h/\SrcAt true d vs h)where
 live:=λ_ _ st=>let ⟨o,ho,_⟩:=st.1.obj;⟨o,ho⟩
 frame:=λ_ _ _ st k=>⟨st.1.at_ λo e=>k it (by simp) o e,let ⟨o,e,r⟩:=(show IsTup _ d vs from st.2);⟨o,k d (by simp) o e,r⟩⟩
 item:=λi s Q E a st f=>Zr st.1 st.2 (Array.getElem?_eq_getElem a) λg m e=>f _ g s.toks (Array.getElem?_eq_getElem a) ⟨m,st.2.ext e.extBut c⟩ e
 done:=λs Q E st j=>Zs b st.1 st.2 (by simp) λg e x y=>j g e x y
theorem Z7(a:IsTup s.heap d vs)
  (h:∀M,IsEnum M (s.heap.objs.size+1) s.heap.objs.size 0 .none->ye true s.heap.objs.size d 0 M->(∀b o,s.heap.get? b=some o->M.get? b=some o)->Q (.ref (s.heap.objs.size+1)) {s with heap:=M}):
  wpAny (model P w) A (call (.type "enumerate") [.ref d]) Q E s:=by
 refine callType_newIn F.called_enumerate (by decide) (F.typeCall_enumerate_1 _) (F.newCall_enumerate_1 _) (λi=>F.args_object_init_2 i _) F.entry_enumerate_new
  (S:=λ_ R s=>IsTup s.heap d vs/\∀M,IsEnum M (s.heap.objs.size+1) s.heap.objs.size 0 .none->ye true s.heap.objs.size d 0 M->(∀b o,s.heap.get? b=some o->M.get? b=some o)->R (.ok (.ret (.ref (s.heap.objs.size+1)))) {s with heap:=M}) (.of_wp λA R s q=>?_) ⟨a,λM j g2 l=>⟨⟨_,j,rfl⟩,h M j g2 l⟩⟩
 obtain⟨hp,g,dr,tk,os⟩:=s;obtain⟨a,q⟩:=q;have a:Heap.IsTuple hp d vs:=a;have m:=sub_enumerate;have f:R (.ok (.ret (.ref (hp.push {cls:=.type "tuple_iterator",data:=.fields #[.ref d,.int 0 0]}).objs.size))) ⟨(hp.push {cls:=.type "tuple_iterator",data:=.fields #[.ref d,.int 0 0]}).push {cls:=.type "enumerate",data:=.fields #[.none,.bool false,.ref hp.objs.size,rawInt 0,.none,.none]},g,dr,tk,os⟩:=by
  have k:=QaS hp {cls:=.type "tuple_iterator",data:=.fields #[.ref d,.int 0 0]};rw[k];refine q _ ?_ ⟨_,Qc _ (Qd _ rfl),rfl,rfl⟩ λb o e=>Qc _ (Qc _ e);have:=Qd (hp.push {cls:=.type "tuple_iterator",data:=.fields #[.ref d,.int 0 0]}) (o:={cls:=.type "enumerate",data:=.fields #[.none,.bool false,.ref hp.objs.size,rawInt 0,.none,.none]}) rfl;rw[k]at this;exact this
 wp_walk
 refine wpAny_stack_any λst=>QU ?_;split
 ·rename_i c _ _ _ _ _
  cases(c==Value.type "enumerate")<;>(wp_walk using wpAny_pyIter_tuple a;exact⟨_,rfl,f⟩)
 ·wp_walk using wpAny_pyIter_tuple a
  exact⟨_,rfl,f⟩
end
def KW(a:Addr)(xs:Qby):It:=⟨λi H=>H a=some (.tup xs)/\i<xs.length,λi H x U=>CJ (.int i) (xs.getD i .aq) H x U,λi H=>H a=some (.tup xs)/\xs.length=i⟩
theorem Z8(xs:Qby):BA (KW a xs) (λH=>H a=some (.tup xs)) xs.length (λi=>.int i) (λi=>xs.getD i .aq):=λH b=>⟨λi c=>⟨⟨b,c⟩,λx d h=>h⟩,b,rfl⟩
theorem Z9{K:Q0}{k:Nat}{p:Pos}{e:Addr}{xs:Qby}(j:e≠it)(T:e≠a)(G:a≠it):
  Turn P w K (.Tuple yo k p) (KW a xs) [e,it] e (λi h=>(∃d,IsEnum h e it i d)/\ye true it a i h)where
 mem:=by simp
 obj:=λi h st b c=>by
  obtain⟨⟨d,g⟩,l⟩:=st;simp only[Qp,Qa8,or_false]at c;rcases c with rfl|rfl
  ·exact⟨_,g,λv z=>by have V:Data.fields _=Data.cell v:=z;cases V⟩
  ·exact l.obj
 keep:=λi h n st k=>⟨st.1.imp λd g=>k e (by simp) _ g,st.2.at_ λo x=>k it (by simp) o x⟩
 item:=by
  intro X r t y l i f s L H E I m st A;subst r t y;obtain⟨⟨d,g⟩,hit⟩:=st;obtain⟨hq,hi⟩:=A;obtain⟨its,rel,Ew,_⟩:=I.tuple (ay.of hq);have hl:=rel.length;obtain⟨u0,iu,C⟩:=rel.get (Qa hi);refine wpAny_pyNext_enum_itemD (oK (vs:=its.toArray) (I.ok.hd l) G) g ⟨hit,Ew⟩ (by simp;lia) j (by simp[j,T]) λu n D hu ho A4 hT ab hk=>?_;have N:its[i]? =some u:=by simpa using hu
  rw[iu]at N;cases N;have eg:xs.getD i .aq=xs[i]:=by rw[Qb,Qa hi];rfl
  have C:RelV (xs.getD i .aq) u0:=by rw[eg];exact C
  have I1:Inv X f L (upd H s.heap.objs.size (.tup [.int i,xs.getD i .aq])) {s with heap:=n,toks:=D+1}:=I.Fo m (λb o c e=>hk b o (λz=>c (by simp[z])) (λz=>c (by simp[z])) e) (Qz _) (hV ⟨_,rfl⟩ C hT);refine⟨_,rfl,wpAny_letOwnedTupleGo_enum (s:={s with heap:=n,toks:=D+1}) ho λBy CS Q=>?_⟩;have be:∀b∈[e,it],b≠s.heap.objs.size:=λb c z=>by
   simp only[Qp,Qa8,or_false]at c;rcases c with rfl|rfl
   ·exact yT (QA g) z
   ·obtain⟨_,q,_⟩:=hit.obj;exact yT (QA q) z
  have R:∀b∈[e,it],uv X f (upd H s.heap.objs.size (.tup [.int i,xs.getD i .aq])) b:=λb c=>⟨by rw[aB (be b c)];exact(m b c).1,(m b c).2⟩
  obtain⟨f0,f1,f2,f3,f4,f5⟩:=R e (by simp);exact⟨.ref s.heap.objs.size,_,I1.turned (t':=D+1) (λb o c q=>(Q.2 b c).trans q) f0 f1 f3 f4 f5,rfl,⟨_,rfl,I.hok.fresh (Qz _),rfl⟩,⟨⟨u0,by simpa using CS⟩,A4.1.at_ λo q=>(Q.2 it j.symm).trans q⟩,λb c=>(R b c).1⟩
 done:=by
  intro X r t y l i f s L H E I m st A;subst r t y;obtain⟨⟨d,g⟩,hit⟩:=st;obtain⟨hq,rfl⟩:=A;obtain⟨its,rel,Ew,_⟩:=I.tuple (ay.of hq);have hl:=rel.length;exact wpAny_pyNext_enum_endD (oK (vs:=its.toArray) (I.ok.hd l) G) g ⟨by rw[show its.toArray.size=xs.length by simp;lia];exact hit,Ew⟩ λn eb=>⟨rfl,I.JL (t':=s.toks) m λb o c q=>eb b o (λz=>c (by simp[z])) q⟩
 self:=λ_ _ _ _ _ st h=>let ⟨⟨_,g⟩,_⟩:=st;wpAny_pyIter_enum g h
section
variable{k:Nat}{p pos:Pos}{a:Expr}{ta:TA}
def Z_(b:TA):TI:=λZ H R=>b Z H λvs H1=>∃a xs,vs=[.ref a]/\H1 a=some (.tup xs)/\R (KW a xs) H1
theorem zL(m:Gl X "enumerate")(n:X.mg "enumerate"=none)(o:SA X [a] ta)(hs:starEach [a] X.env=[(false,eval a X.env)]:=by rfl):SI X (.Tuple yo k Bk) (.Call (.Name "enumerate" p) [a] [] pos) (Z_ ta):=by
 constructor;intro d s t H R I h;refine Call_ (gE I m n boot_enumerate (Qau (av (o.h pos d s t H _ I h) ?_) hs rfl));rintro y f ⟨z,A,c,u,w⟩;obtain⟨a,xs,e,hr,q⟩:=w;subst e;cases u with
 |cons r rr=>
  cases rr;cases r;obtain⟨its,rel,Ew,_⟩:=c.tuple (ay.of hr);have i:a<f.heap.objs.size:=SrcAt.lt (tp:=true) Ew;refine Z7 Ew λC j g x=>wpAny_pyIter_enum j ?_;refine⟨f.heap.objs.size+1,[f.heap.objs.size+1,f.heap.objs.size],_,_,_,rfl,c.kept (t':=f.toks) x,Z9 (xs:=xs) (a:=a) (Nat.succ_ne_self _) (Qah (Qaq i)) (yT i),⟨⟨_,j⟩,g⟩,λb l=>?_,q⟩;simp only[Qp,Qa8,or_false]at l;rcases l with rfl|rfl
  ·exact c.sy (Qbk _) (c.hok.fresh (Qbk _))
  ·exact c.sy (Qz _) (c.hok.fresh (Qz _))
end
theorem Z' {J:It} {ok:Hp->Prop} {s t:Nat->V} {u w:TE} {j:St} {D:Addr} {Q:Hp->Prop} (C:BA J ok n s t) (h:Nat->St->Hp->Prop) (h0:h 0 j H0)
  (hok:∀ i f H,i<=n->h i f H->ok H)
  (hs:∀ i f H T,i < n->h i f H->H T=none->g (.ref T) f (upd H T (.tup [s i,t i])) λa H2=>tc a H2 λc k=>if c=true then u a k λx r=>w a r λy l=>
   ∃ kvs d,x=kV d/\l D=some (.dK kvs)/\kvs.length < sizeLine/\h (i+1) a (upd l D (.dK (putK kvs d y))) else h (i+1) a k)
  (E:∀ f H,h n f H->Q H):∃ W:Nat->Nat->St->Hp->Prop,(∃ m,W 0 m j H0)/\∀ i m f H,W i m f H->
   (J.stop i H/\Q H)\/(J.go i H/\∃ N:St->Hp->Prop,(∀ o U,N o U->∃ z,z < m/\W (i+1) z o U)/\∀ x U,J.pe i H x U->g x f U λa H2=>tc a H2 λb k=>
    if b=true then u a k λx r=>w a r λy l=>∃ kvs d,x=kV d/\l D=some (.dK kvs)/\kvs.length < sizeLine/\N a (upd l D (.dK (putK kvs d y))) else N a k):=by
 refine ⟨λi m q H=>m=n - i/\i<=n/\h i q H,⟨n,by simp,Qaj _,h0⟩,?_⟩
 rintro i m q H ⟨rfl,G,p⟩
 obtain ⟨A,I⟩:=C H (hok i q H G p)
 by_cases be:i < n
 ·refine .inr ⟨(A i be).1,h (i+1),λK U L=>⟨n - (i+1),by lia,rfl,be,L⟩,λx U y=>?_⟩
  obtain ⟨T,rfl,P,rfl⟩:=(A i be).2 x U y
  exact hs i q _ T be p P
 ·have e:i=n:=by lia
  subst e
  exact .inl ⟨I,E q H p⟩
end L2
set_option maxHeartbeats 400000
--adE 14
--SEE
namespace T1
inductive X2{a b:Type}(P:a->b->Prop):Prop
 |mk q r:P q r->X2 P
inductive X3{a b c:Type}(P:a->b->c->Prop):Prop
 |mk q r s:P q r s->X3 P
inductive X4{a b c d:Type}(P:a->b->c->d->Prop):Prop
 |mk q r s t:P q r s t->X4 P
inductive X5{a b c d e:Type}(P:a->b->c->d->e->Prop):Prop
 |mk q r s t u:P q r s t u->X5 P
inductive X6{a b c d e f:Type}(P:a->b->c->d->e->f->Prop):Prop
 |mk q r s t u v:P q r s t u v->X6 P
inductive X7{a b c d e f g:Type}(P:a->b->c->d->e->f->g->Prop):Prop
 |mk q r s t u v w:P q r s t u v w->X7 P
inductive KZ{a b c d e f g h i j:Type}(P:a->b->c->d->e->f->g->h->i->j->Prop):Prop
 |mk q r s t u v w x y z:P q r s t u v w x y z->KZ P
open PySem L2
def top(i:Nat):Stmt:=PySem.Challenge.pw_coilkind_k31_whole_taken_apart.main.body.getD i (.Pass ⟨0,0,0,0⟩)
abbrev nN:Stmt:=top 3
abbrev kE:Stmt:=top 4
abbrev iI:Stmt:=top 5
abbrev k9:Stmt:=top 6
abbrev iH:Stmt:=top 7
abbrev h9:Stmt:=top 8
abbrev iS:Stmt:=top 14
abbrev nZ:Stmt:=top 15
abbrev iN:Stmt:=top 16
abbrev iR:Stmt:=top 17
abbrev kJ:Stmt:=top 18
abbrev dO:Stmt:=top 21
abbrev g7:Stmt:=top 22
abbrev kD:Stmt:=top 23
abbrev jV:Stmt:=top 25
abbrev qZ:Stmt:=top 26
abbrev dZ:Stmt:=top 27
abbrev jS:Stmt:=top 28
abbrev iQ:Stmt:=top 30
abbrev iP:Stmt:=top 31
abbrev fV:Stmt:=top 32
abbrev gK:Stmt:=top 33
abbrev iL:Stmt:=top 34
abbrev fJ:Stmt:=top 35
abbrev jY:Stmt:=top 36
abbrev fH:Stmt:=top 40
abbrev nA:Stmt:=top 41
abbrev iT:Stmt:=inClass (top 13) 0
abbrev eO:Stmt:=inClass (top 20) 0
abbrev dR:Stmt:=inClass (top 20) 1
abbrev dC:Stmt:=inClass (top 20) 2
abbrev bX:Stmt:=inClass (top 20) 3
abbrev eP:Stmt:=inClass (top 20) 4
abbrev pw:=PySem.Challenge.pw_coilkind_k31_whole_taken_apart
abbrev yn:=PySem.Challenge.rw_coilkind_k31_whole_taken_apart
def view:Program:={pw with main:={pw.main with body:=([0,2,3,4,5,6,7,8,10,11,12,13,14,15,16,17,18,20,21,22,23,25,26,27,28,30,31,32,33,34,35,36,37,38,39,40,41]:Qbs).filterMap λi=>pw.main.body[i]?}}
def fns:List (Str×Stmt):=[⟨"row_of",nN⟩,⟨"head_of",kE⟩,⟨"heads_of",iI⟩,⟨"rows_of",k9⟩,⟨"names_in",iH⟩,⟨"head_with",h9⟩,⟨"steps_of",iS⟩,⟨"end_of",nZ⟩,⟨"steps_in",iN⟩,⟨"moves_in",iR⟩,⟨"reached",kJ⟩,⟨"class_numbers",dO⟩,⟨"sources_of",g7⟩,⟨"part_by",kD⟩,⟨"name_of",jV⟩,⟨"least",qZ⟩,⟨"put_together",dZ⟩,⟨"renamed",jS⟩,⟨"_law_fill",iQ⟩,⟨"_law_next",iP⟩,⟨"_law_turned",fV⟩,⟨"_law_words",gK⟩,⟨"_law_head",iL⟩,⟨"_law_telling",fJ⟩,⟨"_law_any",jY⟩,⟨"_law_renamed",fH⟩,⟨"law",nA⟩]
def vals:Qbw:=[⟨"LETTERS",.str "abcdefghijklmnopqrstuvwxyz"⟩]
def tups:List (Str×Qby):=[⟨"WORDED",[.str "box",.str "pick"]⟩]
def R4:List (Str×List vd):=[⟨"STEP_WORDS",[⟨"box",.inl (.str "part")⟩,⟨"pick",.inl (.str "case")⟩]⟩]
def acU:Qbo:=["len","range","list","tuple","dict","enumerate","zip"]
def o_:List (Str×Qby):=[⟨"FROM",[.str "from"]⟩,⟨"TO",[.str "to"]⟩]
def R5:List AX:=[⟨"Net","Net.__init__",iT,["rows","heads","marks","moves"]⟩,⟨"Parting","Parting.__init__",eO,["members","number","waiting","waits"]⟩]
def R6:List A3:=[⟨"Parting","begin","Parting.begin",dR⟩,⟨"Parting","put_off","Parting.put_off",dC⟩,⟨"Parting","take_waiting","Parting.take_waiting",bX⟩,⟨"Parting","part","Parting.part",eP⟩]
def look(K:Q0):=(CU (without K (yb K o_)) fns,Hl (without K (yb K o_)) vals,BF (without K (yb K o_)) tups,J8 (without K (yb K o_)) R4,D8 (without K (yb K o_)) acU,BF K o_,decide (yb K o_).Nodup,Ea (without K (yb K o_)) R5,Ed (without K (yb K o_)) R6)
def want(w:World):=(CV fns,Ho vals,BG tups,J9 w R4,true,BG o_,true,Eb R5,Ef R6)
theorem acV(w:World):(PySem.W.openEnds treeTable pw (w.withFollow "special-get-raises" false) 3320).map (λs=>(PySem.W.openSeen view ["STEP_WORDS"] (PySem.importedModules pw.main.body) (λs=>PySem.W.xlAt view [] s&&PySem.W.recOk [] s) true s,(zj look want).obs s))=some (PySem.W.openGood view ["STEP_WORDS"],(zj look want).val (w.withFollow "special-get-raises" false)):=by kernel_rfl
theorem acW(w:World):(PySem.W.openEnds treeTable pw (w.withFollow "special-get-raises" true) 3320).map (λs=>(PySem.W.openSeen view ["STEP_WORDS"] (PySem.importedModules pw.main.body) (λs=>PySem.W.xlAt view [] s&&PySem.W.recOk [] s) true s,(zj look want).obs s))=some (PySem.W.openGood view ["STEP_WORDS"],(zj look want).val (w.withFollow "special-get-raises" true)):=by kernel_rfl
def Cb:DefRec:=⟨"law",qy nA,mh nA,cg nA,(match nA with| .FunctionDef _ _ _ _ _ _ _ _ _ p=>p|_=>⟨0,0,0,0⟩)⟩
theorem hdef:PySem.W.defOf view yn.row.name=some (Cb,[]):=by kernel_rfl
theorem hprog:yn.row.prog.theDef yn.row.name=some (Cb.params,Cb.body,Cb.scope):=by kernel_rfl
theorem hkw:PySem.W.kwWritten? Cb.params.kwonlyargs Cb.params.kw_defaults=some []:=by kernel_rfl
theorem hok:(PySem.W.chainsOk view&&PySem.W.opensWell yn.row.prog&&(PySem.W.frees yn.row.toRowW&&yn.row.within.isEmpty))=true:=by kernel_rfl
theorem hbare:yn.row.prog.bare:=⟨rfl,rfl,rfl,rfl,rfl,by decide+kernel⟩
theorem ac4:yn.row.toRowW.promised:=by w_witness2
theorem said:yn.wellSaid=true:=by
 refine XN (p:=pw) rfl ?_ ?_ ?_ ?_ ?_ ?_ ?_ ?_ ?_ ?_ ?_ ?_ ?_ ?_ ?_ ?_ ?_ ?_ ?_ ?_ ?_ ?_ ?_ ?_ ?_ ?_ ?_ ?_<;>kernel_rfl
structure Txt(K:Q0)(mg:Str->Qbr)(w:World):Prop where
 ly:mg "len"=none
 wG:mg "range"=none
 u9:mg "list"=none
 cU:mg "tuple"=none
 a4m:mg "dict"=none
 lB:mg "enumerate"=none
 K0:mg "zip"=none
 dY:∃u,mg "LETTERS"=some u/\RelV (.str "abcdefghijklmnopqrstuvwxyz") u
 nI:∃a,mg "WORDED"=some (.ref a)/\∀H,ay K H a [.str "box",.str "pick"]
 tO:∃u,mg "FROM"=some u/\RelV (.ref (adr mg "FROM")) u
 K1:∃u,mg "TO"=some u/\RelV (.ref (adr mg "TO")) u
 jI:∃a,mg "STEP_WORDS"=some (.ref a)/\KD w K a [(.inr "box",.str "part"),(.inr "pick",.str "case")]
 a13:gu K mg "row_of" nN ["T","x"]
 xJ:gu K mg "head_of" kE ["T","x"]
 uL:gu K mg "heads_of" iI ["T"]
 yA:gu K mg "rows_of" k9 ["T"]
 vC:gu K mg "names_in" iH ["head"]
 rY:gu K mg "head_with" h9 ["head","names"]
 uU:gu K mg "steps_of" iS ["T","x"]
 a11:gu K mg "end_of" nZ ["T","x","road"]
 vF:gu K mg "steps_in" iN ["head"]
 uY:gu K mg "moves_in" iR ["head","rows"]
 xO:gu K mg "reached" kJ ["net","first"]
 lG:gu K mg "class_numbers" dO ["net","rows"]
 pS:gu K mg "sources_of" g7 ["net","rows"]
 xG:gu K mg "part_by" kD ["parting","sources","at"]
 xT:gu K mg "name_of" jV ["k"]
 a1V:gu K mg "least" qZ ["T","x"]
 mC:gu K mg "put_together" dZ ["sort","kinds"]
 yR:gu K mg "renamed" jS ["T","start"]
 u7:gu K mg "_law_fill" iQ ["_law_cell","_law_at"]
 tM:gu K mg "_law_next" iP ["_law_pen","_law_many"]
 qW:gu K mg "_law_turned" fV ["_law_pen","_law_some"]
 t5:gu K mg "_law_words" gK ["_law_pen"]
 tQ:gu K mg "_law_head" iL ["_law_pen","_law_names","_law_ahead"]
 o8:gu K mg "_law_telling" fJ ["_law_pen","_law_most"]
 yP:gu K mg "_law_any" jY ["_law_pen","_law_told"]
 o9:gu K mg "_law_renamed" fH ["_law_told"]
 Pe:gu K mg "law" nA ["script"]
 wz:CO K mg "Net" "Net.__init__" iT ["self","T"] ["rows","heads","marks","moves"] (adr mg "Net")
 bC:CO K mg "Parting" "Parting.__init__" eO ["self"] ["members","number","waiting","waits"] (adr mg "Parting")
 aad:A0 K mg "Parting" "begin" "Parting.begin" dR ["self","rows"]
 aae:A0 K mg "Parting" "put_off" "Parting.put_off" dC ["self","at"]
 aaf:A0 K mg "Parting" "take_waiting" "Parting.take_waiting" bX ["self"]
 aag:A0 K mg "Parting" "part" "Parting.part" eP ["self","rows"]
theorem fB:fc ["self","T"] ["self","T"] (cg iT):=bJ (by decide+kernel)
theorem lK:fc ["self"] ["self"] (cg eO):=bJ (by decide+kernel)
theorem cQ:fc ["self","rows","at","row"] ["self","rows"] (cg dR):=bJ (by decide+kernel)
theorem iW:fc ["self","at"] ["self","at"] (cg dC):=bJ (by decide+kernel)
theorem d5:fc ["self","at"] ["self"] (cg bX):=bJ (by decide+kernel)
theorem cB:fc ["self","rows","at","staying","row","new"] ["self","rows"] (cg eP):=bJ (by decide+kernel)
theorem jQ:fc ["T","x","heads"] ["T","x"] (cg nN):=bJ (by decide+kernel)
theorem u8:fc ["T","x"] ["T","x"] (cg kE):=bJ (by decide+kernel)
theorem kM:fc ["T"] ["T"] (cg iI):=bJ (by decide+kernel)
theorem dH:fc ["T","heads","rows","name","row"] ["T"] (cg k9):=bJ (by decide+kernel)
theorem lF:fc ["head"] ["head"] (cg iH):=bJ (by decide+kernel)
theorem jD:fc ["head","names"] ["head","names"] (cg h9):=bJ (by decide+kernel)
theorem sC:fc ["T","x"] ["T","x"] (cg iS):=bJ (by decide+kernel)
theorem fQ:fc ["T","x","road","net","row","step"] ["T","x","road"] (cg nZ):=bJ (by decide+kernel)
theorem lC:fc ["head"] ["head"] (cg iN):=bJ (by decide+kernel)
theorem kX:fc ["head","rows"] ["head","rows"] (cg iR):=bJ (by decide+kernel)
theorem cL:fc ["net","first","come_by","waiting","at","row","step","end"] ["net","first"] (cg kJ):=bJ (by decide+kernel)
theorem bM:fc ["net","rows","parting","by_marks","row","many","sources"] ["net","rows"] (cg dO):=bJ (by decide+kernel)
theorem cI:fc ["net","rows","sources","row","step","end"] ["net","rows"] (cg g7):=bJ (by decide+kernel)
theorem bZ:fc ["parting","sources","at","leading","end","step","row","rows","touched","many"] ["parting","sources","at"] (cg kD):=bJ (by decide+kernel)
theorem g8:fc ["k","signs"] ["k"] (cg jV):=bJ (by decide+kernel)
theorem bU:fc ["T","x","net","met","number","firsts","row","called","rows","at","ends"] ["T","x"] (cg qZ):=bJ (by decide+kernel)
theorem aX:fc ["sort","kinds","worded","tellings","rows","firsts","T","start","head"] ["sort","kinds"] (cg dZ):=bJ (by decide+kernel)
theorem fU:fc ["T","start","called"] ["T","start"] (cg jS):=bJ (by decide+kernel)
theorem gH:fc ["_law_cell","_law_at","_law_x"] ["_law_cell","_law_at"] (cg iQ):=bJ (by decide+kernel)
theorem cX:fc ["_law_pen","_law_many","_law_at","_law_cell","_law_found"] ["_law_pen","_law_many"] (cg iP):=bJ (by decide+kernel)
theorem fI:fc ["_law_pen","_law_some","_law_left","_law_found"] ["_law_pen","_law_some"] (cg fV):=bJ (by decide+kernel)
theorem j9:fc ["_law_pen"] ["_law_pen"] (cg gK):=bJ (by decide+kernel)
theorem fC:fc ["_law_pen","_law_names","_law_ahead","_law_way","_law_one"] ["_law_pen","_law_names","_law_ahead"] (cg iL):=bJ (by decide+kernel)
theorem cP:fc ["_law_pen","_law_most","_law_size","_law_names","_law_rows","_law_k"] ["_law_pen","_law_most"] (cg fJ):=bJ (by decide+kernel)
theorem uZ:fc ["_law_pen","_law_told"] ["_law_pen","_law_told"] (cg jY):=bJ (by decide+kernel)
theorem bB:fc ["_law_told","_law_found","_law_name","_law_here","_law_pairs"] ["_law_told"] (cg fH):=bJ (by decide+kernel)
theorem dQ:fc ["script","_law_pen","_law_k","_law_told","_law_name","_law_due","_law_sort","_law_kinds","_law_step","_law_kind","_law_row","_law_here"] ["script"] (cg nA):=bJ (by decide+kernel)
def aah(K:Q0)(a:Str->Qbr)(w:World):Prop:=∃ts:List (Addr×Obj×Qby),(∀t∈ts,Fx K t)/\(ts.map (·.1)).Nodup/\Txt (without K (ts.map (·.1))) a w/\∀H:Hp,(∀t∈ts,H t.1=some (.af t.2.1 (.tup t.2.2)))->Kn a H "FROM" [.str "from"]/\Kn a H "TO" [.str "to"]
section
variable{K:Q0}
inductive K2 (vs:Qby)(H:Hp)(Q:VK)(b_:XK):Prop
 |mk (c t:Int):vs=[.int c,.int t]->0<=t/\t<1000000000->(∀r:Int,Q (.int r) H)->K2 vs H Q b_
theorem sW(T:Txt K mg w):bq P w K mg base 1 "_law_fill" ["_law_cell","_law_at"] K2:=by
 refine T.u7.gw gH ?_ ?_
 ·rintro _ _ _ _ ⟨c,t,rfl,_⟩;rfl
 ·rintro f j A a s H l Q E m ⟨c,t,rfl,⟨n,e⟩,k⟩;refine⟨_,(aE (eX (aU Nh (zv 0) (bP VX aJ aJ)) (aF (bA (zv 0))) cJ)
   (aE (aI 2 gH.nd (bP dJ (bP bH (bP bH (bP dW (bP dJ (zv 0) aJ) aJ) (bP dW (zv 1) aJ)) aJ) aJ))
   (aE (aI 2 gH.nd (bP dJ (bP bH (bP bH (bP dW (zv 2) (zv 2)) (bP dW aJ (zv 2))) (zv 1)) aJ))
   (aF (bA (bP bH (bP dW (zv 2) aJ) (bP dJ (bP bH (bP dW (zv 2) (zv 2)) (bP dW aJ (zv 1))) aJ))))))),?_⟩
  refine⟨⟨by decide,by decide,by decide⟩,_,rfl,DM (λg=>k _) (λg=>?_)⟩;refine⟨by decide,.inl ⟨?_,?_⟩,.inl ⟨by lia,by lia⟩,by decide,?_⟩
  ·have:=Int.emod_nonneg c (show(2147483647:Int)≠0 by decide);lia
  ·have:=Qbi c (show(0:Int)<2147483647 by decide);lia
  generalize b:(c % 2147483647*48271+t*69621+11) % 2147483629=x;have o:0<=x:=by rw[<- b];exact Int.emod_nonneg _ (by decide)
  have h:x<2147483629:=by rw[<- b];exact Qbi _ (by decide)
  refine⟨.inl ⟨by lia,by lia⟩,.inl ⟨by decide,by decide⟩,by decide,?_⟩;generalize d:(x*x+48271*x+t) % 2147483587=y;have p:0<=y:=by rw[<- d];exact Int.emod_nonneg _ (by decide)
  have i:y<2147483587:=by rw[<- d];exact Qbi _ (by decide)
  exact⟨.inl ⟨by lia,by lia⟩,.inl ⟨by lia,by lia⟩,.inl ⟨by decide,by decide⟩,by decide,k _⟩
inductive Pg (K:Q0)(vs:Qby)(H:Hp)(Q:VK)(b_:XK):Prop
 |mk (p a:Addr) (ns:List Int) (m t x:Int):vs=[.ref p,.int m]->H p=bh [.ref a,.int t,.int x]->(∀o,ao K (upd H p o) a (ns.map V.int))->ao K H a (ns.map V.int)->0<=t/\t<1000000->0<m/\m<1073741824->(∀r t' x':Int,0<=r->r<m->0<=t'->t'<=t+1->Q (.int r) (upd H p (.lst [.ref a,.int t',.int x'])))->Pg K vs H Q b_
theorem F1(x y z:α):ph [x,y,z] 0=some x:=rfl
theorem aaj(x y z:α):ph [x,y,z] 1=some y:=rfl
theorem K3(x y z:α):ph [x,y,z] 2=some z:=rfl
theorem sQ(T:Txt K mg w):bq P w K mg base 2 "_law_next" ["_law_pen","_law_many"] (Pg K):=by
 refine T.tM.gw cX ?_ ?_
 ·rintro _ _ _ _ ⟨p,a,b,m,t,x,rfl,_⟩;rfl
 ·rintro f bc A n s H vs Q E hr ⟨p,a,b,m,t,x,rfl,g,KC,i,⟨q,ab⟩,⟨u,Ph⟩,k⟩;refine⟨_,(aE (eX (aU nQ (aV K (zv 0) aJ) (zv 1)) (aE (aI 2 cX.nd (aV K (zv 0) aJ))
   (aE (aI 3 cX.nd aJ)
   (aE (eX (aU nQ (zv 2) (bO (aQ K) T.ly Qae (aL (aV K (zv 0) aJ) aC))) (aF (aI 3 cX.nd (aV K (aV K (zv 0) aJ) (zv 2)))) (aF (eX (aU qM (bO (aQ K) T.ly Qae (aL (aV K (zv 0) aJ) aC)) aJ) (aF (aI 3 cX.nd (bP bH (bP dJ (aV K (aV K (zv 0) aJ) (bP dJ (bP dW (zv 2) aJ) (bO (aQ K) T.ly Qae (aL (aV K (zv 0) aJ) aC)))) aJ) (bP dW (zv 2) aJ)))) cJ)))
   (aE (zH (bP bH (zv 2) aJ) (JH (zv 0) aJ mK))
   (aF (zH (aT (sW T) hr (aD (zv 3) (aD (zv 2) aC))) (JH (zv 0) aJ mK))))))) cJ)
   (aE (aI 4 cX.nd (bP dJ (aV K (zv 0) aJ) (zv 1)))
   (aE (zH (bP vM (aV K (zv 0) aJ) (zv 1)) (JH (zv 0) aJ mK))
   (aF (bA (zv 4)))))),?_⟩
  refine aM (λd h=>X4 fun(L N:Qbz)(j l:Int)=>d=[aa p,gy m,L,N,none]/\h p=bh [.ref a,.int j,.int l]/\(h=H\/∃o,h=upd H p o)/\0<=j/\j<=t+1) ?_ ?_
  ·intro nx R;refine⟨_,.int x,.inl (ao.of g),K3 _ _ _,_,rfl,DM (λhk=>?_) (λhk=>?_)⟩
   ·refine aH ⟨_,.int t,.inl (ao.of g),aaj _ _ _,?_⟩;refine pA ?_;refine aM (λd h=>h=H/\∃c:Int,d=[aa p,gy m,gy t,gy c,none]) ?_ ?_
    ·intro C_ y;refine⟨_,.ref a,.inl (ao.of g),F1 _ _ _,.inl ⟨_,.inl i,_,rfl,DM (λz=>?_) (λz=>?_)⟩⟩
     ·obtain⟨c,v_,y_⟩:=mP (b.map V.int) t q (by have:=Qt z;lia);have C:t.toNat<b.length:=by
       have:=Qt z;rw[Ql]at this;lia
      have D:c=.int (b[t.toNat]):=by
       rw[Qq,Qa C]at v_;exact(QE v_).symm
      subst D;exact⟨_,.ref a,.inl (ao.of g),F1 _ _ _,_,_,.inl i,y_,y _ _ ⟨rfl,_,rfl⟩⟩
     ·refine⟨_,.ref a,.inl (ao.of g),F1 _ _ _,.inl ⟨_,.inl i,_,rfl,DM (λCy=>?_) (λCy=>?_)⟩⟩
      ·have G:=Qt Cy;have af:0<(b.map V.int).length:=by lia
       have e0:=Int.emod_nonneg (t*7) (show((b.map V.int).length:Int)≠0 by lia);have e1:=Qbi (t*7) (show(0:Int)<(b.map V.int).length by lia);obtain⟨c,v_,y_⟩:=mP (b.map V.int) (t*7 % ((b.map V.int).length:Int)) e0 e1;have C:(t*7 % ((b.map V.int).length:Int)).toNat<b.length:=by
        have e2:(b.map V.int).length=b.length:=Ql _
        lia
       have D:c=.int (b[(t*7 % ((b.map V.int).length:Int)).toNat]):=by
        rw[Qq,Qa C]at v_;exact(QE v_).symm
       subst D;refine⟨_,.ref a,.inl (ao.of g),F1 _ _ _,.inl ⟨by lia,by lia⟩,_,.ref a,.inl (ao.of g),F1 _ _ _,.inl ⟨_,.inl i,G,_,_,.inl i,y_,by decide,.inl ⟨by lia,by lia⟩,y _ _ ⟨rfl,_,rfl⟩⟩⟩
      ·exact y _ _ ⟨rfl,0,rfl⟩
    ·rintro d h ⟨rfl,c,rfl⟩;refine⟨p,_,1,1,rfl,rfl,g,rfl,?_⟩;refine⟨c,t,rfl,⟨q,by lia⟩,λr=>?_⟩;refine⟨p,_,2,2,rfl,rfl,aA,rfl,?_⟩;rw[j0];exact R _ _ ⟨_,_,t+1,r,rfl,aA,.inr ⟨_,rfl⟩,by lia,by lia⟩
   ·exact R _ _ ⟨none,none,t,x,rfl,g,.inl rfl,q,by lia⟩
  ·rintro d h ⟨L,N,j,l,rfl,I,Y,h3,h4⟩;refine⟨_,.int l,.inl (ao.of I),K3 _ _ _,u,?_⟩;refine⟨_,.int l,.inl (ao.of I),K3 _ _ _,⟨u,Ph⟩,p,_,2,2,rfl,rfl,I,rfl,?_⟩;have e:∀o,upd h p o=upd H p o:=λo=>by
    rcases Y with rfl|⟨o',rfl⟩
    ·rfl
    ·exact j0
   rw[e];exact k _ j _ (Int.emod_nonneg _ (by lia)) (Qbi _ u) h3 h4
structure gg(K:Q0)(H0 H:Hp)(p:Addr)(t:Nat):Prop where
 ex:∃(a:Addr)(ns:List Int)(u x:Int),H p=some (.lst [.ref a,.int u,.int x])/\(∀U,Sm p p H0 U->ao K U a (ns.map V.int))/\0<=u/\u<=(t:Int)
 sm:Sm p p H0 H
section
variable{D:Addr}{t u:Nat}{o:HO}
theorem gg.mono(h:gg K H0 H p t)(l:t<=u):gg K H0 H p u:=by
 obtain⟨a,ns,y,x,O,Y,h3,h4⟩:=h.ex;exact⟨⟨a,ns,y,x,O,Y,h3,by lia⟩,h.sm⟩
theorem gg.same(h:gg K H0 H p t)(s:ae H U):gg K H0 U p t:=by
 obtain⟨a,ns,y,x,O,Y⟩:=h.ex;exact⟨⟨a,ns,y,x,s _ _ O,Y⟩,h.sm.trans s.sm⟩
theorem gg.ne(h:gg K H0 H p t)(a:H D=none):D≠p:=λe=>by
 obtain⟨_,_,_,_,z,_⟩:=h.ex;rw[<- e,a]at z;cases z
theorem gg.free(h:gg K H0 H p t)(a:H D=none):H0 D=none:=h.sm.free a (h.ne a) (h.ne a)
theorem gg.put(h:gg K H0 H p t)(b:D≠p)(c:H0 D=none):gg K H0 (upd H D o) p t:=by
 obtain⟨a,ns,y,x,e1,e2⟩:=h.ex;exact⟨⟨a,ns,y,x,by rw[aB b.symm];exact e1,e2⟩,h.sm.upd c⟩
theorem gg.ts(h:gg K H0 H p t)(s:Sm p p H U):Tk H U:=λb a e=>by
 obtain⟨_,_,_,_,z,_⟩:=h.ex;have n:b≠p:=λq=>by rw[q,z]at e;cases e
 exact s _ _ e n n
end
inductive Dd (K:Q0)(vs:Qby)(H:Hp)(Q:VK)(b_:XK):Prop
 |mk (H0:Hp) (p:Addr) (m:Int) (t:Nat):vs=[.ref p,.int m]->gg K H0 H p t->0<m/\m<1073741824->t<900000->(∀(r:Int)(U:Hp),0<=r->r<m->gg K H0 U p (t+1)->Sm p p H U->Q (.int r) U)->Dd K vs H Q b_
theorem a28(h:j<n):AJ n (j:Int)=some j:=by
 unfold AJ;rw[if_pos (by lia),if_pos (by lia)];simp
theorem lY{a:Type}:∀{ls:List a}{i:Nat}(h:i<ls.length),(ls[i]::ls.eraseIdx i).Perm ls
 |x::r,0,_=>List.Perm.refl _
 |x::r,i+1,h=>by
  have ih:=lY (ls:=r) (i:=i) (by simpa using h);exact(List.Perm.swap _ _ _).trans (ih.cons x)
theorem dA(T:Txt K mg w):bq P w K mg base 2 "_law_next" ["_law_pen","_law_many"] (Dd K):=(sQ T).imp λl H Q E h=>by
 obtain⟨H0,p,m,t,rfl,hn,hm,ht,k⟩:=h;obtain⟨a,ns,u,x,O,Y,h3,h4⟩:=hn.ex;have c:∀o,Sm p p H (upd H p o):=λo b u d n _=>by rw[aB n];exact d
 refine⟨p,a,ns,m,u,x,rfl,O,λo=>Y _ (hn.sm.trans (c o)),Y _ hn.sm,⟨h3,by lia⟩,hm,λr e f g i j q=>?_⟩;exact k r _ g i ⟨⟨a,ns,e,f,aA,Y,j,by push_cast;lia⟩,hn.sm.trans (c _)⟩ (c _)
inductive K5 (K:Q0)(vs:Qby)(H:Hp)(Q:VK)(b_:XK):Prop
 |mk (H0:Hp) (p a:Addr) (xs:Qby) (t:Nat):vs=[.ref p,.ref a]->gg K H0 H p t->t+100<900000->ao K H a xs\/ay K H a xs->xs.length<=100->(∀(L:Addr)(ys:Qby)(U:Hp),H L=none->U L=bh ys->ys.Perm xs->gg K H0 U p (t+100)->Sm p p H U->Q (.ref L) U)->K5 K vs H Q b_
theorem oC(T:Txt K mg w):bq P w K mg base 3 "_law_turned" ["_law_pen","_law_some"] (K5 K):=by
 refine T.qW.gw fI ?_ ?_
 ·rintro _ _ _ _ ⟨y,p,a,l,t,rfl,_⟩;rfl
 ·rintro f bc A ab s H vs Q E hr ⟨y,p,a,l,t,rfl,z,ht,ha,hx,k⟩;obtain⟨hu,iu,hsz⟩:=dF hr;refine⟨_,(aE (aI 2 fI.nd (fL (pC K) T.u9 PyProof.Rows.boot_list (aD (zv 1) aC)))
   (aE (aI 3 fI.nd (cE aC))
   (aE (hZ PassesOwn.never (aU (Nj iu) (zv 2) (cE aC)) (aF (bR (i8 K QJ QK QL bE (zv 3) (aS (i8 K QJ PySem.F.slot_list_pop PySem.F.type_list_pop U7 (zv 2) (aS (aT (dA T) hr (aD (zv 0) (aS (bO (aQ K) T.ly Qae (aD (zv 2) aC)) aC))) aC)) aC)))))
   (aF (bA (zv 3)))))),?_⟩
  refine aH ⟨a,l,rfl,ha,λn L=>?_⟩;refine aH ⟨rq,λj C=>?_⟩;have D:=ae.upd L (.lst l);have s2:=ae.upd C (.lst []);have e0:n≠p:=z.ne L;have e1:j≠p:=(z.same D).ne C;have Pj:n≠j:=aN aA C;have f0:=z.free L;have f1:=(z.same D).free C;have g0:upd (upd H n (.lst l)) j (.lst []) n=bh l:=s2 _ _ aA;have g1:upd (upd H n (.lst l)) j (.lst []) j=bh []:=aA;have G:=(z.same D).same s2;have Aw:Sm p p H (upd (upd H n (.lst l)) j (.lst [])):=(D.trans s2).sm
  (try dsimp only)
  generalize upd (upd H n (.lst l)) j (.lst [])=H2 at g0 g1 G Aw;have af:H n=none:=L;have Pk:H j=none:=D.free C;refine aM (λg o=>∃e,g=[aa p,aa a,aa n,aa j]/\o j=bh e/\e.Perm l/\gg K y o p (t+100)/\Sm p p H o) ?_ ?_
  ·intro nx dz;refine⟨λm g o=>X2 fun(d e:Qby)=>g=[aa p,aa a,aa n,aa j]/\o n=bh d/\o j=bh e/\d.length=m/\(e++d).Perm l/\gg K y o p (t+e.length)/\Sm p p H o,⟨l.length,l,[],rfl,g0,g1,rfl,by simp,G,Aw⟩,?_⟩;rintro m g H3 ⟨d,e,rfl,q0,N,q2,u,R,q5⟩;have ah:e.length+d.length=l.length:=by have:=u.length_eq;rw[Qk]at this;exact this
   refine⟨rq,λb V=>⟨aN q0 V,d,(ae.upd V _) _ _ q0,aA,_,rfl,jq (λc=>?_) (λc=>?_)⟩⟩
   ·have q:=ae.upd V (.lst []);have Pn:=R.same q;have HU:=q _ _ q0;have ud:=q _ _ N;have Po:=q5.trans q.sm;generalize upd H3 b (.lst [])=H4 at Pn HU ud Po;have al:0<d.length:=by
     cases d with
     |nil=>exact absurd c (by decide)
     |cons x r=>simp
    refine⟨λg I=>∃m',m'<m/\X2 fun(d e:Qby)=>g=[aa p,aa a,aa n,aa j]/\I n=bh d/\I j=bh e/\d.length=m'/\(e++d).Perm l/\gg K y I p (t+e.length)/\Sm p p H I,λg I h=>h,?_⟩;refine⟨.inl ⟨rfl,e,ao.of ud⟩,.inl ⟨rfl,d,ao.of HU⟩,.inl ⟨d,.inl (ao.of HU),y,p,_,_,rfl,Pn,⟨by lia,by lia⟩,by lia,λr H5 r0 r1 Bc w_=>?_⟩⟩;obtain⟨i,rfl⟩:∃i:Nat,r=(i:Int):=⟨r.toNat,by lia⟩
    have hi:i<d.length:=by lia
    have p0:=w_ _ _ HU e0 e0;have p1:=w_ _ _ ud e1 e1;refine⟨n,d,(i:Int),i,d[i],rfl,rfl,p0,by lia,by lia,(qA (a28 hi)).1,Qa hi,j,e,d[i],rfl,rfl,by rw[aB Pj.symm];exact p1,by lia,d.length-1,by lia,d.eraseIdx i,e++[d[i]],rfl,by rw[aB Pj];exact aA,aA,?_,?_,?_,(Po.trans w_).upd af |>.upd Pk⟩
    ·rw[List.length_eraseIdx,if_pos hi]
    ·rw[QQ];exact((lY hi).append_left e).trans u
    ·rw[Qk];exact(Bc.put e0 f0).put e1 f1
   ·have ag:d=[]:=by
     cases d with
     |nil=>rfl
     |cons x r=>exact absurd c (by simp)
    subst ag;rw[QR]at u;have q:=ae.upd V (.lst []);exact dz _ _ ⟨e,rfl,q _ _ N,u,(R.same q).mono (by have:=u.length_eq;lia),q5.trans q.sm⟩
  ·rintro g o ⟨e,rfl,N,q2,u,R⟩;exact k j e o Pk N q2 u R
def De:Qbo:=["a","ab","b","ba"]
def WW:Qbo:=De
theorem K6:∀z∈WW,isName z=true/\Wd z:=λz a=>by
 simp only[WW,De,Qp,QB,or_false]at a;rcases a with rfl|rfl|rfl|rfl<;>exact⟨by decide+kernel,eE (by decide) (by decide)⟩
structure WN(os:Qbo):Prop where
 JY:rising os=true
 len:os.length<=4
 ww:∀z∈os,z∈WW
theorem pwA:De.Pairwise λa b=>zg a b=true:=by decide+kernel
theorem WN.of{b os:Qbo}(a:b=De)(s:os.Sublist b):WN os:=by
 subst a;exact⟨j8 (pwA.sublist s),s.length_le,λz c=>s.subset c⟩
inductive K7 (K:Q0)(vs:Qby)(H:Hp)(Q:VK)(b_:XK):Prop
 |mk (H0:Hp) (p:Addr) (t:Nat):vs=[.ref p]->gg K H0 H p t->t+5<900000->(∀(L:Addr)(os:Qbo)(U:Hp),H L=none->U L=bh (os.map V.str)->WN os->gg K H0 U p (t+5)->Sm p p H U->Q (.ref L) U)->K7 K vs H Q b_
theorem qT(T:Txt K mg w):bq P w K mg base 3 "_law_words" ["_law_pen"] (K7 K):=by
 refine T.t5.gw j9 ?_ ?_
 ·rintro _ _ _ _ ⟨j,p,t,rfl,_⟩;rfl
 ·rintro f bc A y s H vs Q E R ⟨j,p,t,rfl,hn,ht,k⟩;obtain⟨hu,iu,hsz⟩:=dF R;refine⟨_,(aF (bA (JI (own:=["_law_word"]) (idx:=[0]) (N':=["_law_word","_law_pen"]) (d6 j9) rfl (jX K (cE (aG bK (aG bK (aG bK (aG bK aC)))))) (λ_ _ _ _ _ _=>(bF 0)) (λ_ _ _ _ _ _=>(Nq (aU (iO iu) (aT (dA T) R (aD (zv 1) (aG aJ aC))) aJ))) (λ_ _ _ _ _ _=>(zv 0))))),?_⟩;refine⟨Zl,λS jz=>?_⟩;have C:=ae.upd jz (.lst [V.str "a",V.str "ab",V.str "b",V.str "ba"]);have Pp:upd H S (.lst [V.str "a",V.str "ab",V.str "b",V.str "ba"]) S=bh (De.map V.str):=aA;have l:=(hn.same C).mono (u:=t+1) (by lia);have eS:S≠p:=hn.ne jz;generalize upd H S (.lst [V.str "a",V.str "ab",V.str "b",V.str "ba"])=H4 at C Pp l⊢;obtain⟨a,hb,gS⟩:∃a:Qbo,a=De/\H4 S=bh (a.map V.str):=⟨De,rfl,Pp⟩
  have ab:a.length=4:=by rw[hb];rfl
  have HW:Sm p p H H4:=C.sm;refine Or.inl ⟨⟨_,ao.of gS⟩,λD d=>?_⟩;have g:D≠p:=l.ne d;have HX:D≠S:=λe=>by rw[e,gS]at d;cases d
  have fD:j D=none:=l.free d;have G:H D=none:=HW.free d g g;refine gA (bI (a.map V.str)) (λi m h=>X2 fun(v:Qbz)(b:Qbo)=>m=[v,aa p]/\h D=bh (b.map V.str)/\b.Sublist (a.take i)/\h S=bh (a.map V.str)/\gg K j h p (t+1+i)/\Sm p p H h)
   ⟨none,[],rfl,aA,List.Sublist.refl _,by rw[aB HX.symm];exact gS,l.same (ae.upd d _),HW.upd G⟩ (by rintro i m h _ ⟨_,_,_,_,_,q,_⟩;exact ao.of q) ?_ ?_
  ·rintro i m H5 I ⟨v,b,rfl,L,c,q4,n,o⟩;rw[Ql]at I;rw[kU a i I];have N:a.take (i+1)=a.take i++[a.getD i ""]:=by
    rw[Qs,Qb,Qa I];rfl
   generalize a.getD i ""=z at N;have Au:b.length<=i:=by have:=c.length_le;simp at this;lia
   refine⟨j,p,2,t+1+i,rfl,n,⟨by decide,by decide⟩,by lia,λr H6 r0 r1 Pq x=>?_⟩;refine⟨rfl,_,rfl,?_⟩;have g4:=x _ _ q4 eS eS;have g1:=x _ _ L g g;refine jq (λ_=>?_) (λ_=>?_)
   ·exact⟨_,g1,by rw[Ql];exact Vm (by lia),_,b++[z],rfl,by rw[aA,Qm];rfl,by rw[N];exact c.append (List.Sublist.refl _),by rw[aB HX.symm];exact g4,Pq.put g fD,(o.trans x).upd G⟩
   ·exact⟨_,b,rfl,g1,by rw[N];exact c.trans (List.sublist_append_left _ _),g4,Pq,o.trans x⟩
  ·rintro m H5 ⟨v,b,rfl,L,c,q4,n,o⟩;rw[Ql]at c n;rw[Qo]at c;exact k D b H5 G L (WN.of hb c) (n.mono (by lia)) o
structure r_(H:Hp)(l:Addr)(ss:Qbo):Prop where
 e:H l=some (.lst (ss.map V.str))
 ne:ss≠[]
 few:ss.length<=60
 wd:∀z∈ss,Wd z
theorem Pu{t:Nat}{b:Qbo}(h:r_ H l b)(c:gg K H0 H p t):l≠p:=λq=>by
 obtain⟨_,_,_,_,z,_⟩:=c.ex;have e:=h.e;have ne:=h.ne;rw[q,z]at e;cases b with
 |nil=>exact ne rfl
 |cons a r=>cases e
theorem r_.nx{t:Nat}{a:Qbo}(h:r_ H l a)(b:gg K H0 H p t)(s:Sm p p H U):r_ U l a:=⟨s _ _ h.e (Pu h b) (Pu h b),h.ne,h.few,h.wd⟩
theorem r_.same{a:Qbo}(h:r_ H l a)(s:ae H U):r_ U l a:=⟨s _ _ h.e,h.ne,h.few,h.wd⟩
theorem r_.at{H:Hp}{l:Addr}{a:Qbo}(h:r_ H l a)(r:Int)(h0:0<=r)(b:r<a.length):∃z,ph (a.map V.str) r=some (.str z)/\a[r.toNat]? =some z/\Wd z:=by
 obtain⟨c,v_,y_⟩:=mP (a.map V.str) r h0 (by rw[Ql];exact b);rw[Qq]at v_;cases e:a[r.toNat]? with
 |none=>rw[e]at v_;cases v_
 |some z=>
  rw[e]at v_;cases v_;exact⟨z,y_,rfl,h.wd z (QD e)⟩
theorem r_.pos{a:Qbo}(h:r_ H l a):0<a.length:=List.length_pos_iff.mpr h.ne
def AhK(ns:Qbo)(k:Nat)(o:Option Str):Prop:=∀y,o=some y->∃i,i<k/\ns[i]? =some y
inductive K8 (K:Q0)(vs:Qby)(H:Hp)(Q:VK)(b_:XK):Prop
 |mk (H0:Hp) (p nm:Addr) (k t:Nat) (ns:Qbo):vs=[.ref p,.ref nm,.int (k:Int)]->gg K H0 H p t->t+20<900000->r_ H nm ns->(∀z∈ns,isName z=true)->k<=ns.length->(∀(v:V)(U:Hp),u_ U ns WW v (AhK ns k)->gg K H0 U p (t+20)->Sm p p H U->Q v U)->K8 K vs H Q b_
theorem rO(T:Txt K mg w):bq P w K mg base 4 "_law_head" ["_law_pen","_law_names","_law_ahead"] (K8 K):=by
 refine T.tQ.gw fC ?_ ?_
 ·rintro _ _ _ _ ⟨o,p,nm,k,t,ns,rfl,_⟩;rfl
 ·rintro f bc A ab s H vs Q E hr ⟨o,p,nm,ka,t,ns,rfl,hn,ht,tn,HY,hk,k⟩;obtain⟨hu,iu,hsz⟩:=dF hr;have aq:=tn.pos;have ar:=tn.few;refine⟨_,(aE (aI 3 fC.nd (aT (dA T) hr (aD (zv 0) (aG aJ aC))))
   (aE (eX (aU nQ (zv 3) aJ) (aF (bA (aV K (cE (cM (cF (aG bK aC)) (cM (cF (aG bK aC)) aC))) (zv 3)))) cJ)
   (aE (eX (Wm (aU (iO iu) (zv 3) aJ) (Wk (aU qM (zv 2) aJ))).pt (aF (bA (cF (aG bK (aL (aV K (zv 1) (aT (dA T) hr (aD (zv 0) (aD (zv 2) aC)))) aC))))) cJ)
   (aE (eX (aU nQ (zv 3) aJ) (aE (aI 4 fC.nd (aV K (zv 1) (aT (dA T) hr (aD (zv 0) (aS (bO (aQ K) T.ly Qae (aD (zv 1) aC)) aC)))))
   (aF (bA (cF (aG bK (aD (zv 4) (aL (aV K (zv 1) (aT (dA T) hr (aD (zv 0) (aS (bO (aQ K) T.ly Qae (aD (zv 1) aC)) aC)))) aC))))))) cJ)
   (aF (bA (cF (aL (aV K (cE (aG bK (aG bK aC))) (bP dJ (zv 3) aJ)) (aS (fL (cG K) T.cU QH (dN (kY ["_law_word"] [0,1] ["_law_word","_law_pen","_law_names"] (d6 fC) (jX K (aT (qT T) hr (aD (zv 0) aC))) (λ_ _ _ _ _ _=>(bF 0)) (λ_ _ _ _ _ _=>(cF (aD (zv 0) (aL (aV K (zv 2) (aT (dA T) hr (aD (zv 1) (aS (bO (aQ K) T.ly Qae (aD (zv 2) aC)) aC)))) aC))))) aC)) aC))))))))),?_⟩
  refine aH ⟨o,p,10,t,rfl,hn,⟨by decide,by decide⟩,by lia,λu H1 w0 w1 d vn=>?_⟩;have HZ:=tn.nx hn vn;refine aM (λa U=>a=[aa p,aa nm,gy (ka:Int),gy u,none]/\H1=U) ?_ ?_
  ·intro nx dz;refine⟨_,rfl,jq (λc1=>?_) (λc1=>dz _ _ ⟨rfl,rfl⟩)⟩;have Ke:u<2:=Qt c1;refine⟨BR,λC mi=>⟨BR,λq2 oq=>⟨kq,λO hO=>?_⟩⟩⟩;have s1:=ae.upd mi (.tup [.str "all"]);have s2:=ae.upd oq (.tup [.str "none"]);have s3:=ae.upd hO (.lst [.ref C,.ref q2]);have sA:=(s1.trans s2).trans s3;have g1:=s3 _ _ (s2 _ _ (aA:upd H1 C (.tup [.str "all"]) C=ig [.str "all"]));have g2:=s3 _ _ (aA:upd (upd H1 C (.tup [.str "all"])) q2 (.tup [.str "none"]) q2=ig [.str "none"]);rcases(show u=0\/u=1 by lia)with rfl|rfl
   ·exact⟨_,.ref C,.inl (ao.of aA),rfl,k _ _ (Xk g1 (λ_ h=>nomatch h)) ((d.same sA).mono (by lia)) (vn.trans sA.sm)⟩
   ·exact⟨_,.ref q2,.inl (ao.of aA),rfl,k _ _ (zR g2 (λ_ h=>nomatch h)) ((d.same sA).mono (by lia)) (vn.trans sA.sm)⟩
  rintro a U ⟨rfl,rfl⟩;refine aM (λa U=>a=[aa p,aa nm,gy (ka:Int),gy u,none]/\H1=U) ?_ ?_
  ·intro nx dz;refine⟨rfl,_,rfl,jq (λY=>⟨_,rfl,jq (λh3=>?_) (λ_=>dz _ _ ⟨rfl,rfl⟩)⟩) (λY=>jq (λc=>absurd c (by decide)) λ_=>dz _ _ ⟨rfl,rfl⟩)⟩;have as:(0:Int)<(ka:Int):=Qt h3;refine⟨o,p,(ka:Int),_,rfl,d,⟨by lia,by lia⟩,by lia,λr H2 r0 r1 G Aw=>?_⟩;have Dg:=HZ.nx d Aw;obtain⟨y,K9,Ey,hyw⟩:=Dg.at r r0 (by lia);refine⟨_,_,.inl (ao.of Dg.e),K9,kq,λc hc=>?_⟩;refine k _ _ (Xj aA (HY _ (QD Ey)) (QD Ey) (λy' e=>?_)) ((G.same (ae.upd hc _)).mono (by lia)) ((vn.trans Aw).trans (ae.upd hc _).sm);cases e;exact⟨r.toNat,by lia,Ey⟩
  rintro a U ⟨rfl,rfl⟩;refine aM (λa U=>a=[aa p,aa nm,gy (ka:Int),gy u,none]/\H1=U) ?_ ?_
  ·intro nx dz;refine⟨_,rfl,jq (λc1=>?_) (λc1=>dz _ _ ⟨rfl,rfl⟩)⟩;refine aH (.inl ⟨_,.inl (ao.of HZ.e),o,p,_,_,rfl,d,⟨by rw[Ql];lia,by rw[Ql];lia⟩,by lia,λr H2 r0 r1 G Aw=>?_⟩);rw[Ql]at r1;have Dg:=HZ.nx d Aw;obtain⟨x,hxa,Pw,hxw⟩:=Dg.at r r0 r1;refine⟨_,_,.inl (ao.of Dg.e),hxa,.inl ⟨_,.inl (ao.of Dg.e),o,p,_,_,rfl,G,⟨by rw[Ql];lia,by rw[Ql];lia⟩,by lia,λr2 I b0 b1 Ez xf=>?_⟩⟩;rw[Ql]at b1;have F2:=Dg.nx G xf;obtain⟨y,K9,Ey,hyw⟩:=F2.at r2 b0 b1;refine⟨_,_,.inl (ao.of F2.e),K9,OT,λb j=>?_⟩;exact k _ _ (Xl aA (HY _ (QD Pw)) (HY _ (QD Ey)) (QD Pw) (QD Ey) (λ_ h=>nomatch h)) ((Ez.same (ae.upd j _)).mono (by lia)) (((vn.trans Aw).trans xf).trans (ae.upd j _).sm)
  rintro a U ⟨rfl,rfl⟩;refine⟨kq,λO hO=>?_⟩;have sO:=ae.upd hO (.lst [.str "box",.str "pick"]);have gO:upd H1 O (.lst [.str "box",.str "pick"]) O=bh [.str "box",.str "pick"]:=aA;have H_:=d.same sO;have Px:=HZ.same sO;have Py:=vn.trans sO.sm
  (try dsimp only)
  generalize upd H1 O (.lst [.str "box",.str "pick"])=H2 at sO gO H_ Px Py;obtain⟨so,yc,hso⟩:∃so:Str,ph [V.str "box",V.str "pick"] (u % 2)=fb so/\(so="box"\/so="pick"):=by
   rcases(show u % 2=0\/u % 2=1 by lia)with e|e
   ·rw[e];exact⟨"box",rfl,.inl rfl⟩
   ·rw[e];exact⟨"pick",rfl,.inr rfl⟩
  refine⟨(show(0:Int)<2 by decide),_,_,.inl (ao.of gO),yc,o,p,_,rfl,H_,by lia,λD l I Df C wn q5 xf=>?_⟩;have q6:Sm p p H I:=Py.trans xf;have F2:=Px.nx H_ xf;have Au:=wn.len;have BY:D≠p:=H_.ne Df;refine Or.inl ⟨⟨_,ao.of C⟩,λm L=>?_⟩;have F3:m≠p:=q5.ne L;have Pz:m≠D:=λe=>by rw[e,C]at L;cases L
  have PB:H m=none:=q6.free L F3 F3;have f2:o m=none:=q5.free L;have af:m≠nm:=λe=>by rw[e,F2.e]at L;cases L
  refine gA (bI (l.map V.str)) (λi τ I=>X3 fun(v:Qbz)(g:Qby)(N:Qbw)=>τ=[v,aa p,aa nm]/\I m=bh g/\p_ I g (ck N)/\N.map (·.1)=l.take i/\(∀r∈N,∃y,r.2=.str y/\y∈ns/\Wd y)/\I D=bh (l.map V.str)/\gg K o I p (t+1+5+i)/\Sm p p H I/\r_ I nm ns)
   ⟨none,[],[],rfl,aA,pG,rfl,(λ_ h=>nomatch h),by rw[aB Pz.symm];exact C,(q5.same (ae.upd L _)).mono (by lia),q6.upd PB,F2.same (ae.upd L _)⟩ (by rintro i τ H2 _ ⟨_,_,_,_,_,_,_,_,q,_⟩;exact ao.of q) ?_ ?_
  ·rintro i τ H4 hi ⟨v,g,N,rfl,r1,r2,BZ,r3,r4,r5,r6,Dh⟩;rw[Ql]at hi;rw[kU l i hi];have Ex:l.take (i+1)=l.take i++[l.getD i ""]:=by
    rw[Qs,Qb,Qa hi];rfl
   generalize l.getD i ""=z at Ex;have D6:N.length=i:=by have:=congrArg List.length BZ;simp at this;lia
   have CN:g.length=i:=by have:=r2.1;simp at this;lia
   refine .inl ⟨_,.inl (ao.of Dh.e),o,p,_,t+1+5+i,rfl,r5,⟨by rw[Ql];lia,by rw[Ql];lia⟩,by lia,λr H5 a0 a1 ag F4=>?_⟩;rw[Ql]at a1;have yi:=Dh.nx r5 F4;obtain⟨n,hna,EA,K_⟩:=yi.at r a0 a1;refine⟨_,_,.inl (ao.of yi.e),hna,kq,λb j=>?_⟩;have g1:=F4 _ _ r1 F3 F3;have g4:=F4 _ _ r4 BY BY;have La:m≠b:=aN g1 j;have ah:D≠b:=aN g4 j;have al:Tk H4 H5:=r5.ts F4;have B0:Tk H4 (upd (upd H5 b (.tup [.str z,.str n])) m (.lst (g++[.ref b]))):=(al.trans (ae.upd j _).ts).set (by rw[aB La];exact g1) (by intro _ z;cases z);have am:upd (upd H5 b (.tup [.str z,.str n])) m (.lst (g++[.ref b])) b=ig [.str z,.str n]:=by rw[aB La.symm];exact aA
   have an:r_ (upd (upd H5 b (.tup [.str z,.str n])) m (.lst (g++[.ref b]))) nm ns:=⟨by rw[aB af.symm];exact(ae.upd j _) _ _ yi.e,yi.ne,yi.few,yi.wd⟩
   refine⟨g,by rw[aB La];exact g1,by lia,_,g++[.ref b],N++[(z,.str n)],rfl,aA,o5 (r2.ts B0) am,by rw[Qm,BZ,Ex];rfl,λR ff=>?_,by rw[aB Pz.symm,aB ah];exact g4,((ag.same (ae.upd j _)).put F3 f2),((r6.trans F4).trans (ae.upd j _).sm).upd PB,an⟩;rcases W3.mp ff with hx|hx
   ·exact r3 R hx
   ·rw[qI.mp hx];exact⟨n,rfl,QD EA,K_⟩
  ·rintro τ H4 ⟨v,g,N,rfl,r1,r2,BZ,r3,r4,r5,r6,Dh⟩;rw[Ql]at BZ r5;rw[Qo]at BZ;have D6:N.length=l.length:=by rw[<- BZ,Ql]
   have CN:g.length=l.length:=by have:=r2.1;simp at this;lia
   refine⟨m,g,rfl,.inl ⟨ao.of r1,λc hc=>⟨kq,λb j=>?_⟩⟩⟩;have s5:=ae.upd hc (.tup g);have s6:=ae.upd j (.tup [.str so,.ref c]);have gc:=s6 _ _ (aA:upd H4 c (.tup g) c=ig g);have uc:∀R∈N,R.1∈l:=λR ff=>by rw[<- BZ];exact Yy.mpr ⟨R,ff,rfl⟩
   have tk:=s5.ts.trans s6.ts;have ap:=W2 (r2.ts tk) (λR ff=>(K6 _ (wn.ww _ (uc R ff))).1) (λR ff=>by obtain⟨y,e1,e2,_⟩:=r3 R ff;exact⟨y,e1,e2,HY y e2⟩) (by rw[BZ];exact wn.JY);exact k _ _ (tN hso aA gc (by lia) ap (λq hq=>by obtain⟨q',s_,rfl⟩:=Yy.mp hq;exact wn.ww _ (uc q' s_)) (λ_ h=>nomatch h)) ((r5.same (s5.trans s6)).mono (by lia)) (r6.trans (s5.trans s6).sm)
def N8:Qbo:=["x","xa","xb","y","ya","z","ka","kb"]
theorem oQ:∀z∈N8,isName z=true/\Wd z:=λz a=>by
 simp only[N8,Qp,QB,or_false]at a;rcases a with rfl|rfl|rfl|rfl|rfl|rfl|rfl|rfl<;>exact⟨by decide+kernel,eE (by decide) (by decide)⟩
theorem a4F:N8.Nodup:=by decide+kernel
theorem wV{ys:Qby}{l:Qbo}(h:ys.Perm (l.map V.str)):∃zs:Qbo,zs.Perm l/\ys=zs.map V.str:=by
 refine⟨ys.map CM,?_,?_⟩
 ·have:=h.map CM;rw[Qn]at this;have e:(CM∘V.str)=(id:Str->Str):=rfl;rw[e,List.map_id]at this;exact this
 ·rw[Qn];have:∀y∈ys,(V.str∘CM) y=y:=λy a=>by
   obtain⟨z,_,rfl⟩:=Yy.mp (h.mem_iff.mp a);rfl
  rw[List.map_congr_left this,List.map_id']
theorem sZ{e:Type}{R:α->e->Prop}{xs ys:List α}(p:ys.Perm xs):∀{d:List e},Paired R xs d->∃c,c.Perm d/\Paired R ys c:=by
 induction p with
 |nil=>intro d h;cases h;exact⟨[],.refl _,.nil⟩
 |cons x p ih=>
  intro d h;cases h with
  |cons a b=>
   obtain⟨c,q1,q2⟩:=ih b;exact⟨_::c,q1.cons _,.cons a q2⟩
 |swap x y l=>
  intro d h;cases h with
  |cons a h=>
   cases h with
   |cons b h=>exact⟨_::_::_,.swap _ _ _,.cons b (.cons a h)⟩
 |trans p1 p2 ih1 ih2=>
  intro d h;obtain⟨r1,a1,b1⟩:=ih2 h;obtain⟨r2,a2,b2⟩:=ih1 b1;exact⟨r2,a2.trans a1,b2⟩
theorem jB{c d e:Type}{R:c->d->Prop}{g:e->d}:∀{xs:List c}{f:List e},Paired R xs (f.map g)->Paired (λx r=>R x (g r)) xs f
 | [],[],.nil=>.nil
 |_::_,_::_,.cons a b=>.cons a (jB b)
theorem mV{c d e:Type}{R:c->d->Prop}{g:e->d}:∀{xs:List c}{f:List e},Paired (λx r=>R x (g r)) xs f->Paired R xs (f.map g)
 | [],[],.nil=>.nil
 |_::_,_::_,.cons a b=>.cons a (mV b)
theorem uE{xs ys:Qby}{b:Qbw}(h:p_ H xs (ck b))(p:ys.Perm xs):∃a,a.Perm b/\p_ H ys (ck a):=by
 obtain⟨a,q1,q2⟩:=sZ p (jB (fN.mp h));exact⟨a,q1,fN.mpr (mV q2)⟩
inductive Lc (K:Q0)(vs:Qby)(H:Hp)(Q:VK)(b_:XK):Prop
 |mk (H0:Hp) (p:Addr) (most:Int) (t:Nat):vs=[.ref p,.int most]->gg K H0 H p t->t+600<900000->1<=most/\most<=8->(∀(a:Addr)(xs:Qby)(rows:List aj)(ns:Qbo)(U:Hp),RT U a xs rows ns WW->(ns.length:Int)<=most->(∀n∈ns,n∈N8)->gg K H0 U p (t+600)->Sm p p H U->Q (.ref a) U)->Lc K vs H Q b_
theorem nE(T:Txt K mg w):bq P w K mg base 5 "_law_telling" ["_law_pen","_law_most"] (Lc K):=by
 refine T.o8.gw cP ?_ ?_
 ·rintro _ _ _ _ ⟨u,p,j,t,rfl,_⟩;rfl
 ·rintro f bc A ab s H vs Q E hr ⟨u,p,j,t,rfl,D,ht,⟨Ph,OQ⟩,k⟩;obtain⟨hu,iu,hsz⟩:=dF hr;refine⟨_,(aE (aI 2 cP.nd (bP bH aJ (aT (dA T) hr (aD (zv 0) (aD (zv 1) aC)))))
   (aE (aI 3 cP.nd (lS (G4 K) (aT (oC T) hr (aD (zv 0) (Wg (cE (aG bK (aG bK (aG bK (aG bK (aG bK (aG bK (aG bK (aG bK aC))))))))) aC))) lW (lU (zv 2))))
   (aE (aI 4 cP.nd (cE aC))
   (aE (cR PassesOwn.never rfl (rX (by rfl) T.wG (aD (zv 2) aC)) (bT 5 cP.nd) (aF (bR (i8 K QJ QK QL bE (zv 4) (cM (cF (aL (aV K (zv 3) (zv 5)) (aS (aT (rO T) hr (aD (zv 0) (aD (zv 3) (aD (zv 5) aC)))) aC))) aC)))))
   (aF (bA (fL (cG K) T.cU QH (aS (aT (oC T) hr (aD (zv 0) (aD (zv 4) aC))) aC)))))))),?_⟩
  refine aH ⟨u,p,j,t,rfl,D,⟨by lia,by lia⟩,by lia,λr H1 r0 r1 af vn=>?_⟩;obtain⟨b,rfl⟩:∃i:Nat,r=(i:Int):=⟨r.toNat,by lia⟩
  refine aH ⟨(show 8<=sizeLine by decide),λl1 jz=>?_⟩;have s1:=ae.upd jz (.lst (N8.map V.str));have g1:upd H1 l1 (.lst (N8.map V.str)) l1=bh (N8.map V.str):=aA;have ag:=af.same s1;have Aw:=vn.trans s1.sm;refine⟨u,p,l1,N8.map V.str,_,rfl,ag,by lia,.inl (ao.of g1),(by decide),λL ys H2 hL gL pm Ez xf=>?_⟩;obtain⟨zs,Ld,rfl⟩:=wV pm;have HW:=Aw.trans xf;have aq:zs.length=8:=Ld.length_eq;refine⟨1+(b:Int),rfl,Or.inr (Or.inl ⟨L,zs.map V.str,rfl,ao.of gL,λN hN=>?_⟩)⟩;have ah:qx (zs.map V.str) none (some (1+(b:Int)))=(zs.take (1+b)).map V.str:=by
   rw[show(1+(b:Int))=((1+b:Nat):Int)by lia,zC,List.map_take]
  rw[ah];have sN:=ae.upd hN (.lst ((zs.take (1+b)).map V.str));have gN:upd H2 N (.lst ((zs.take (1+b)).map V.str)) N=bh ((zs.take (1+b)).map V.str):=aA;have Bd:=Ez.same sN;have Le:=HW.trans sN.sm;generalize upd H2 N (.lst ((zs.take (1+b)).map V.str))=H3 at sN gN Bd Le;have Lf:(zs.take (1+b)).length=1+b:=by rw[Qaa];lia
  have zq:∀n∈zs.take (1+b),n∈N8:=λn D=>Ld.mem_iff.mp (Qa5 D);have PF:(zs.take (1+b)).Nodup:=(Ld.nodup_iff.mpr a4F).sublist (List.take_sublist _ _);generalize zs.take (1+b)=g at gN Lf zq PF;have tn:r_ H3 N g:=⟨gN,by intro e;rw[e]at Lf;simp at Lf;lia,by lia,λn D=>(oQ n (zq n D)).2⟩
  refine aH ⟨rq,λR hR=>?_⟩;have F5:R≠p:=Bd.ne hR;have al:R≠N:=λe=>by rw[e,gN]at hR;cases hR
  have F6:H R=none:=Le.free hR F5 F5;have fR:u R=none:=Bd.free hR;have sR:=ae.upd hR (.lst []);refine aM (λm q=>X3 fun(G:Qbz)(d:Qby)(l:Qbw)=>m=[aa p,gy j,gy (1+(b:Int)),aa N,aa R,G]/\q R=bh d/\p_ q d (ck l)/\l.map (·.1)=g/\ya q g WW l/\gg K u q p (t+101+20*8)/\Sm p p H q) ?_ ?_
  ·intro nx dz;refine⟨1+(b:Int),rfl,by lia,by lia,cA (pE 0 (1+(b:Int)).toNat) (λi m q=>X3 fun(G:Qbz)(d:Qby)(l:Qbw)=>m=[aa p,gy j,gy (1+(b:Int)),aa N,aa R,G]/\q R=bh d/\p_ q d (ck l)/\l.map (·.1)=g.take i/\ya q g WW l/\r_ q N g/\gg K u q p (t+101+20*i)/\Sm p p H q)
    ⟨none,[],[],rfl,aA,pG,rfl,⟨(λ_ h=>nomatch h),(λ_ h=>nomatch h)⟩,tn.same sR,(Bd.same sR).mono (by lia),Le.trans sR.sm⟩ (λ_ _ _ _ _=>True.intro) ?_ ?_⟩
   ·rintro i m H4 hi ⟨G,d,l,rfl,q1,I,x,q4,Dh,C,q7⟩;have ja:i<g.length:=by lia
    have e0:(0+(i:Int))=(i:Int):=by lia
    rw[e0];have EA:g[i]? =some g[i]:=Qa ja;have PJ:g[i]∈g:=Qj ja;generalize g[i]=nm at EA PJ;have CN:d.length=i:=by
     have O:=I.1;have Y:=congrArg List.length x;simp at O Y
     lia
    refine⟨.inl ⟨rfl,_,ao.of q1⟩,_,.str nm,.inl (ao.of Dh.e),fF (by rw[Qq,EA];rfl),u,p,N,i,_,g,rfl,C,by lia,Dh,(λz hz=>(oQ z (zq z hz)).1),by lia,λhv H5 hg Bc w_=>⟨kq,λc hc=>?_⟩⟩;have g4:H5 R=bh d:=w_ _ _ q1 F5 F5;have yi:=Dh.nx C w_;have Lg:R≠c:=aN g4 hc;refine⟨R,d,.ref c,rfl,rfl,by rw[aB Lg];exact g4,by lia,?_⟩;have PK:Tk H5 (upd (upd H5 c (.tup [.str nm,hv])) R (.lst (d++[.ref c]))):=((ae.upd hc _).ts).set (by rw[aB Lg];exact g4) (by intro _ z;cases z);have am:upd (upd H5 c (.tup [.str nm,hv])) R (.lst (d++[.ref c])) c=ig [.str nm,hv]:=by rw[aB Lg.symm];exact aA
    have PL:=(C.ts w_).trans PK;refine⟨_,d++[.ref c],l++[(nm,hv)],rfl,aA,o5 (I.ts PL) am,?_,?_,⟨by rw[aB al.symm,aB (aN yi.e hc)];exact yi.e,yi.ne,yi.few,yi.wd⟩,((Bc.same (ae.upd hc _)).put F5 fR).mono (by lia),((q7.trans w_).trans (ae.upd hc _).sm).upd F6⟩
    ·rw[Qm,x,Qs,EA];rfl
    ·have:=((q4.tk PL).add (n:=nm) (v:=hv) PJ ((hg.tk PK).imp λo h y e=>by obtain⟨i',O,Y⟩:=h y e;exact⟨i',i,O,Y,EA⟩))
     exact this.perm λr hr=>by
      rcases W3.mp hr with hr|hr
      ·exact Qh _ hr
      ·rw[qI.mp hr];exact xX
   ·rintro m q ⟨G,d,l,rfl,q1,I,x,q4,q5,C,q7⟩;have en:(1+(b:Int)).toNat=g.length:=by lia
    rw[en,Qo]at x;exact dz _ _ ⟨G,d,l,rfl,q1,I,x,q4,C.mono (by lia),q7⟩
  ·rintro m H4 ⟨G,d,l,rfl,q1,I,x,q4,C,q7⟩;have D6:l.length=g.length:=by rw[<- x,Ql]
   have CN:d.length=l.length:=by have:=I.1;simpa using this
   refine⟨u,p,R,d,_,rfl,C,by lia,.inl (ao.of q1),by lia,λL2 ys H5 EB an ap Bc w_=>⟨L2,ys,rfl,.inl ⟨ao.of an,λa ha=>?_⟩⟩⟩;have s6:=ae.upd ha (.tup ys);have B0:=(C.ts w_).trans s6.ts;obtain⟨rs',pr,pa⟩:=uE (I.ts B0) ap;obtain⟨rows,rt⟩:=RT.of aA pa (by rw[<- x];exact pr.map _) PF (λn D=>oQ n (zq n D)) (by lia) (by lia) ((q4.tk B0).perm λr hr=>pr.mem_iff.mp hr);exact k a _ rows g _ rt (by lia) zq ((Bc.same s6).mono (by lia)) ((q7.trans w_).trans s6.sm)
theorem Lh{a:Qbw}(i:Nat)(h:i<(ck a).length)(M:i<a.length):(ck a)[i]=(Sum.inr a[i].1,a[i].2):=by simp[ck]
def PM(H:Hp)(a:Addr)(xs:Qby)(b:Qbw):Prop:=H a=some (.tup xs)/\p_ H xs (ck b)/\b.length<=1000
inductive F7 (vs:Qby)(H:Hp)(Q:VK)(b_:XK):Prop
 |mk (a:Addr) (xs:Qby) (rs:Qbw):vs=[.ref a]->PM H a xs rs->(∀d,H d=none->Q (.ref d) (upd H d (.dK (dictOf (ck rs)))))->F7 vs H Q b_
theorem gI(T:Txt K mg w):bq P w K mg base 1 "heads_of" ["T"] F7:=by
 refine T.uL.gw kM ?_ ?_
 ·rintro _ _ _ _ ⟨a,c,d,rfl,_⟩;rfl
 ·rintro f V A q s H vs Q E hr ⟨a,c,d,rfl,⟨t,u,f_⟩,k⟩;refine⟨_,(aF (bA (u5 (own:=["name","head"]) (idx:=[]) (N':=["name","head"]) (d6 kM) rfl (jX K (zv 0)) (λ_ _ _ _ _ _=>(cT K (n:=2) rfl (aK (bF 0) (aK (bF 1) bS)))) (λ_ _ _ _ _ _=>g9) (λ_ _ _ _ _ _=>(zv 0)) (λ_ _ _ _ _ _=>(zv 1))))),?_⟩;refine Or.inr ⟨⟨c,ay.of t⟩,λD z=>?_⟩;have J:=dE (K:=K) (a:=a) c;have I:sizeLine=16777216:=QM;have CN:c.length=d.length:=by have:=u.1;simpa using this
  have C:∀o,ae H (upd H D o):=λo=>ae.upd z o;refine⟨λi m G g=>m=c.length-i/\i<=c.length/\(X2 λj l=>G=[j,l])/\g=upd H D (.dK (dictOf ((ck d).take i))),⟨_,rfl,Qaj _,⟨none,none,rfl⟩,rfl⟩,?_⟩;rintro i m G g ⟨rfl,hi,⟨j,l,rfl⟩,rfl⟩;obtain⟨k1,k2⟩:=J _ (show ay K (upd H D _) a c from ay.of (C _ _ _ t));by_cases be:i<c.length
  ·have r:i<d.length:=by lia
   have p:i<(ck d).length:=by simpa using r
   refine .inr ⟨(k1 i be).1,λh g=>(X2 λj l=>h=[j,l])/\g=upd H D (.dK (dictOf ((ck d).take (i+1)))),λh g ⟨L,N⟩=>⟨c.length-(i+1),by lia,rfl,be,L,N⟩,λx g y=>?_⟩;obtain⟨e,e2⟩:=(k1 i be).2 x g y;subst e e2;obtain⟨b,Ia,PN⟩:=u.2 i p;rw[Lh i p r]at PN;have R:c.getD i .aq=.ref b:=by rw[Qb,Ia];rfl
   show DF K 2 _ (c.getD i .aq) _ _ _;rw[R];refine⟨b,_,rfl,ay.of (C _ _ _ PN),rfl,_,_,rfl,_,_,rfl,rfl,?_⟩;refine⟨dictOf ((ck d).take i),.inr d[i].1,rfl,aA,?_,⟨_,_,rfl⟩,?_⟩
   ·have:=o6 ((ck d).take i);rw[Qaa]at this
    lia
   ·rw[j0,rS (ck d) i p,Lh i p r]
  ·have e:i=c.length:=by lia
   subst e;refine .inl ⟨k2,?_⟩;rw[Qab (by simp;lia)];exact k D z
theorem Li{xs:Qby}{b:Qbw}{nx:Str->Option Str}{c:Str->Nat}(g:qz H a xs b nx c):PM H a xs b:=⟨g.at_,g.ps,by have:=g.len;lia⟩
inductive Lj (vs:Qby)(H:Hp)(Q:VK)(b_:XK):Prop
 |mk (a:Addr) (xs:Qby) (rs:Qbw) (nx:Str->Option Str) (ρ:Str->Nat) (x:Str):vs=[.ref a,.str x]->qz H a xs rs nx ρ->x∈rs.map (·.1)->(∀U,ae H U->Q (.str (mj nx rs.length x)) U)->Lj vs H Q b_
theorem yN(T:Txt K mg w):bq P w K mg base 2 "row_of" ["T","x"] Lj:=by
 refine T.a13.gw jQ ?_ ?_
 ·rintro _ _ _ _ ⟨a,u,c,i,j,x,rfl,_⟩;rfl
 ·rintro f bc A p s H vs Q E C ⟨a,u,c,i,j,x,rfl,g,hx,k⟩;have q:=cW C;have iu:=Qy q;refine⟨_,(aE (aI 2 jQ.nd (aT (gI T) C (aD (zv 0) aC)))
   (aE (hZ PassesOwn.never (aU (iO iu) (aV K (aY q (zv 2) (zv 1)) aJ) bK) (aF (aI 1 jQ.nd (aV K (aY q (zv 2) (zv 1)) aJ))))
   (aF (bA (zv 1))))),?_⟩
  refine aH ⟨a,u,c,rfl,Li g,λd hd=>?_⟩;have D:ae H (upd H d (.dK (dictOf (ck c)))):=ae.upd hd _;have l:=g.ts D.ts;refine⟨λm G I=>I=upd H d (.dK (dictOf (ck c)))/\∃y,G=[aa a,fb y,aa d]/\y∈c.map (·.1)/\mj i c.length y=mj i c.length x/\m=j y,⟨_,rfl,x,rfl,hx,rfl,rfl⟩,?_⟩;rintro m G I ⟨rfl,y,rfl,L,N,rfl⟩;obtain⟨v,hv,wg⟩:=l.get L;have r:dc (upd H d (.dK (dictOf (ck c)))) d (.str y) (some v):=by
   rw[<- wg];exact dc.k (k:=Sum.inr y) aA
  obtain⟨b,rfl,hb⟩:=l.as _ hv;rcases hb with⟨z,ys,n,Y,o⟩|⟨z,n,o⟩
  ·refine⟨d,_,rfl,r,_,.str z,.inr (ay.of n),aO _ _,rfl,_,rfl,?_⟩;rw[QF,Qx (λe=>Y (V.str.inj e))];refine xw ?_;have e2:mj i c.length y=y:=cH _ o;have:=k _ D;rw[<- N,e2]at this;exact this
  ·refine⟨d,_,rfl,r,_,.str "as",.inr (ay.of n),aO _ _,rfl,_,rfl,?_⟩;refine CB ?_;obtain⟨i1,i2⟩:=l.jl _ hv z o;refine⟨λt yh=>∃R,R<j y/\yh=upd H d (.dK (dictOf (ck c)))/\∃y,t=[aa a,fb y,aa d]/\y∈c.map (·.1)/\mj i c.length y=mj i c.length x/\R=j y,λ_ _ h=>h,?_⟩;refine⟨d,_,rfl,r,_,.str z,.inr (ay.of n),rfl,_,i2,rfl,z,rfl,i1,?_,rfl⟩;rw[<- N];exact l.JR L o
inductive Ib (vs:Qby)(H:Hp)(Q:VK)(b_:XK):Prop
 |mk (a:Addr) (xs:Qby) (rs:Qbw) (nx:Str->Option Str) (ρ:Str->Nat) (x:Str):vs=[.ref a,.str x]->qz H a xs rs nx ρ->x∈rs.map (·.1)->(∀v U,ae H U->a_ (dictOf (ck rs)) (.inr (mj nx rs.length x))=some v->Q v U)->Ib vs H Q b_
theorem nR(T:Txt K mg w):bq P w K mg base 3 "head_of" ["T","x"] Ib:=by
 refine T.xJ.gw u8 ?_ ?_
 ·rintro _ _ _ _ ⟨a,c,b,e,j,x,rfl,_⟩;rfl
 ·rintro f q A h s H r Q E i ⟨a,c,b,e,j,x,rfl,g,l,k⟩;have o:=cW i;refine⟨_,(aF (bA (aY o (aT (gI T) i (aD (zv 0) aC)) (aT (yN T) i (aD (zv 0) (aD (zv 1) aC)))))),?_⟩;refine⟨a,c,b,rfl,Li g,λd p=>?_⟩;have m:ae H (upd H d (.dK (dictOf (ck b)))):=ae.upd p _;refine⟨a,c,b,e,j,x,rfl,g.ts m.ts,l,λt n=>?_⟩;obtain⟨v,hv,wg⟩:=g.get (g.AR l).1;refine⟨d,v,rfl,?_,k v _ (m.trans n) wg⟩;rw[<- wg];exact dc.k (k:=Sum.inr (mj e b.length x)) (n _ _ aA)
inductive Lk (K:Q0)(vs:Qby)(H:Hp)(Q:VK)(b_:XK):Prop
 |mk (H0:Hp) (p a:Addr) (t:Nat) (xs:Qby) (rows:List aj) (ns ws:Qbo):vs=[.ref p,.ref a]->gg K H0 H p t->t<900000->RT H a xs rows ns ws->(∀(n:Str)(U:Hp),n∈ns->gg K H0 U p (t+1)->Sm p p H U->Q (.str n) U)->Lk K vs H Q b_
theorem tJ(T:Txt K mg w):bq P w K mg base 3 "_law_any" ["_law_pen","_law_told"] (Lk K):=by
 refine T.yP.gw uZ ?_ ?_
 ·rintro _ _ _ _ ⟨j,p,a,t,l,d,q,u,rfl,_⟩;rfl
 ·rintro f y A e s H z Q E m ⟨j,p,a,t,l,d,q,u,rfl,n,C,c,k⟩;obtain⟨hu,iu,hsz⟩:=dF m;have D:=c.rl;have G:=c.rv.len;have pos:=c.pos;have few:=c.few;refine⟨_,(aF (bA (aV K (aV K (zv 1) (aT (dA T) m (aD (zv 0) (aS (bO (aQ K) T.ly Qae (aD (zv 1) aC)) aC)))) aJ))),?_⟩;refine .inl ⟨_,.inr (ay.of c.at_),j,p,_,t,rfl,n,⟨by lia,by lia⟩,by lia,λr x I L g o=>?_⟩;obtain⟨i,rfl⟩:∃i:Nat,r=(i:Int):=⟨r.toNat,by lia⟩
  have h:=c.tk (n.ts o);obtain⟨b,v,q1,q2,q3⟩:=h.rv.at_ i (by lia) (by lia)
  refine⟨l,.ref b,.inr (ay.of h.at_),fF (by rw[Qa (by lia),q1]),_,_,.inr (ay.of q2),aO _ _,k _ x (h.nm.mem_iff.mp (Yy.mpr ⟨_,Qj (by lia),rfl⟩)) g o⟩
theorem a4J{Q:VK}{v:V}(e:Z[i]? =some (some v))(h:Q v H):tV i Z H Q:=by
 unfold tV;rw[e];exact h
theorem cO{kvs:Qbv}{k:Key}{v:V}(h:∀kv∈kvs,kv.1≠k):putK kvs k v=kvs++[(k,v)]:=by
 unfold putK;rw[if_neg];intro e;rw[Qa6]at e;obtain⟨kv,hk,e⟩:=e;exact h kv hk (Qt e)
inductive Lm (vs:Qby)(H:Hp)(Q:VK)(b_:XK):Prop
 |mk (a:Addr) (xs:Qby) (rows:List aj) (ns ws:Qbo):vs=[.ref a]->RT H a xs rows ns ws->(∀z∈ws,Wd z)->(∀(d:Addr)(U:Hp),H d=none->ae H U->U d=gf (jt rows)->Q (.ref d) U)->Lm vs H Q b_
theorem uA(T:Txt K mg w):bq P w K mg base 2 "rows_of" ["T"] Lm:=by
 refine T.yA.gw dH ?_ ?_
 ·rintro _ _ _ _ ⟨a,xs,c,C,ws,rfl,_⟩;rfl
 ·rintro f bc A N s H vs Q E hr ⟨a,xs,c,C,ws,rfl,D,hw,k⟩;obtain⟨hu,iu,hsz⟩:=dF hr;obtain⟨rs,g,nm,rl,wg⟩:=D.good hw;refine⟨_,(aE (aI 1 dH.nd (aT (gI T) hr (aD (zv 0) aC)))
   (aE (aI 2 dH.nd mJ)
   (aE (cR PassesOwn.never rfl (wI (zv 1)) (bT 3 dH.nd) (aE (aI 4 dH.nd (zv 3))
   (aE (hZ PassesOwn.never (aU (iO iu) (aV K (aY hu (zv 1) (zv 4)) aJ) bK) (aF (aI 4 dH.nd (aV K (aY hu (zv 1) (zv 4)) aJ))))
   (aF (qF hu (zv 2) (zv 3) (zv 4) rfl)))))
   (aF (bA (zv 2)))))),?_⟩
  refine aH ⟨a,xs,rs,rfl,Li g,λd hd=>?_⟩;have ab:((ck rs).map (·.1)).Nodup:=by
   have e:(ck rs).map (·.1)=(rs.map (·.1)).map (Sum.inr:Str->Key):=by simp[ck,Qn,QC]
   rw[e];exact wW.mpr (g.nd.imp λh e=>h (Qas e))
  have ah:=g.len;have ed:=iX _ ab
  (try dsimp only)
  have s1:ae H (upd H d (.dK (dictOf (ck rs)))):=ae.upd hd _;refine aH λR hR=>?_;have Ln:R≠d:=λe=>by rw[e,aA]at hR;cases hR
  have F6:H R=none:=s1.free hR;refine aM (λl n=>X2 fun(p q:Qbz)=>l=[aa a,aa d,aa R,p,q]/\n R=gf (jt c)/\ae H n) ?_ ?_
  ·intro nx dz;refine⟨d,dictOf (ck rs),rfl,.inl (by rw[aB Ln.symm];exact aA),λo=>?_⟩;refine cA (tD (dictOf (ck rs))) (λi l n=>X2 fun(p q:Qbz)=>l=[aa a,aa d,aa R,p,q]/\n d=some (.af o (.dK (dictOf (ck rs))))/\n R=gf ((jt c).take i)/\ae H n)
    ⟨none,none,rfl,aA,by rw[aB Ln,aA];rfl,(((s1.put F6)).put hd)⟩ (by rintro i l n _ ⟨_,_,_,h,_⟩;exact h) ?_ ?_
   ·rintro i l H3 hi ⟨p,q,rfl,q1,r,t⟩;have u:i<rs.length:=by have:=o6 (ck rs);simp at this;lia
    have Lo:i<c.length:=by lia
    have ek:jg (dictOf (ck rs)) i=.str rs[i].1:=by
     unfold jg;rw[ed,Qa (by simpa using u),Lh i (by simpa using u) u];rfl
    have en:rs[i].1=c[i].1:=by
     have:(rs.map (·.1))[i]'(by simpa using u)=(c.map (·.1))[i]'(by simpa using Lo):=by simp only[nm]
     simpa using this
    rw[ek];have hx:rs[i].1∈rs.map (·.1):=Yy.mpr ⟨_,Qj u,rfl⟩;generalize rs[i].1=x at en hx;have G:=g.ts t.ts;refine aH (a4J (v:=.str x) rfl ?_);refine aM (λl n=>n=H3/\l=[aa a,aa d,aa R,fb x,fb (mj (jb c) rs.length x)]) ?_ ?_
    ·intro C_ Dc;refine⟨λm Z n=>n=H3/\∃y,Z=[aa a,aa d,aa R,fb x,fb y]/\y∈rs.map (·.1)/\mj (jb c) rs.length y=mj (jb c) rs.length x/\m=C.idxOf y,⟨_,rfl,x,rfl,hx,rfl,rfl⟩,?_⟩;rintro m Z n ⟨rfl,y,rfl,hy,he,rfl⟩;obtain⟨v,hv,wg⟩:=G.get hy;have Di:dc n d (.str y) (some v):=by
      rw[<- wg];exact dc.rd (k:=Sum.inr y) (.inr ⟨o,q1⟩)
     obtain⟨b,rfl,hb⟩:=G.as _ hv;rcases hb with⟨z,ys,I,Y,L⟩|⟨z,I,L⟩
     ·refine⟨d,_,rfl,Di,_,.str z,.inr (ay.of I),aO _ _,rfl,_,rfl,?_⟩;rw[QF,Qx (λe=>Y (V.str.inj e))];refine xw ?_;have e2:mj (jb c) rs.length y=y:=cH _ L;refine Dc _ _ ⟨rfl,?_⟩;rw[<- he,e2]
     ·refine⟨d,_,rfl,Di,_,.str "as",.inr (ay.of I),aO _ _,rfl,_,rfl,?_⟩;refine CB ?_;obtain⟨i1,i2⟩:=G.jl _ hv z L;refine⟨λl yh=>∃m',m'<C.idxOf y/\yh=n/\∃y,l=[aa a,aa d,aa R,fb x,fb y]/\y∈rs.map (·.1)/\mj (jb c) rs.length y=mj (jb c) rs.length x/\m'=C.idxOf y,λ_ _ h=>h,?_⟩;refine⟨d,_,rfl,Di,_,.str z,.inr (ay.of I),rfl,_,i2,rfl,z,rfl,i1,?_,rfl⟩;rw[<- he];exact G.JR hy L
    ·rintro l n ⟨rfl,rfl⟩;have f_:((jt c).take i).length<=30:=by have:=D.few;have:=D.rl;simp[jt];lia
     have ag:putK ((jt c).take i) (.inr x) (.str (mj (jb c) rs.length x))=(jt c).take (i+1):=by
      rw[cO,Qs,Qa (by simpa[jt]using Lo)]
      ·simp[jt,en,endOf,rl]
      ·intro kv Hz e;obtain⟨j,hj,rfl⟩:=Qi Hz;have ve:j<i:=by simp at hj;lia
       rw[QaG]at e;simp only[jt,Qr]at e;have e':c[j].1=c[i].1:=by rw[<- en];exact Qas e
       have nd:=D.ia;have:=Qac.mp nd j i (by simp;lia) (by simpa using Lo) ve;simp at this;exact this e'
     refine⟨R,_,rfl,Bu.k (k:=Sum.inr x) r (by lia),?_⟩;rw[ag];exact⟨_,_,rfl,by rw[aB Ln.symm];exact q1,aA,t.put F6⟩
   ·rintro l n ⟨p,q,rfl,q1,r,t⟩;have e:(dictOf (ck rs)).length=(jt c).length:=by rw[ed];simp[jt,rl]
    rw[e,Qo]at r;exact dz _ _ ⟨p,q,rfl,r,t⟩
  ·rintro l n ⟨p,q,rfl,r,t⟩;exact k R n F6 t r
inductive Ic (vs:Qby)(H:Hp)(Q:VK)(b_:XK):Prop
 |mk (x:V) (h:Hd) (ns:Qbo):vs=[x]->HV H x h->h.ok ns->(∀L U,H L=none->U L=bh ((ie h).map V.str)->ae H U->Q (.ref L) U)->Ic vs H Q b_
theorem j7(T:Txt K mg w):bq P w K mg base 1 "names_in" ["head"] Ic:=by
 refine T.vC.gw lF ?_ ?_
 ·rintro _ _ _ _ ⟨x,h,ns,rfl,_⟩;rfl
 ·rintro f bc A t s H vs Q E hr ⟨x,h,ns,rfl,hv,hok,k⟩;have ab:sizeLine=16777216:=QM;refine⟨_,(aE (eX (aU (qP K) (aV K (zv 0) aJ) (JG K T.nI) rfl) (aF (bA (kY ["word","x"] [] ["word","x"] (d6 lF) (jX K (aV K (zv 0) aJ)) (λ_ _ _ _ _ _=>(cT K (n:=2) rfl (aK (bF 0) (aK (bF 1) bS)))) (λ_ _ _ _ _ _=>(zv 1))))) cJ)
   (aF (bA (fL (pC K) T.u9 PyProof.Rows.boot_list (aL (lS (G4 K) (zv 0) (lU aJ) lW) aC))))),?_⟩
  have u:∀(b:Addr)(z:Str)(a:Qbo),H b=ig (.str z::a.map V.str)->ie h=a->∀D:Ends,D.rt=Q->DB (yz (JK K) (kc (DK (λx j g H Q=>CG x j g H Q\/Cu K x j g H Q\/Cs K x j g H Q) (tV 0) (DJ (tC (V.int 1))) DI) qf)) D [aa b] H:=by
   intro b z a e C D m;refine⟨1,rfl,Or.inr (Or.inr ⟨b,_,rfl,ay.of e,?_,λp1 PP=>⟨p1,_,rfl,.inr (ay.of aA),λL hL=>?_⟩⟩)⟩
   ·intro⟨O,_⟩;have:HT.cu (V.str z::a.map V.str).length 0 (some ((1:Nat):Int))=0:=O;rw[HT.qH]at this;simp at this
   ·have s1:=(ae.upd PP (.tup (qx (V.str z::a.map V.str) (some 1) none))).trans (ae.upd hL (.lst (qx (V.str z::a.map V.str) (some 1) none)));rw[m];refine k L _ ((ae.upd PP _).free hL) ?_ s1;rw[aA];have o:qx (V.str z::a.map V.str) (some 1) none=a.map V.str:=by
     have:=rJ (V.str z::a.map V.str) 1;exact this
    rw[o,C]
  have G:∀(b:Addr)(z:Str)(a:Qbo),H b=ig (.str z::a.map V.str)->(z=="box")=false->(z=="pick")=false->ie h=a->Bq (GF (E2 (l_ (G2 K false) (l_ (CF K) (tV 0) (tC (V.int 0))) (G3 K [V.str "box",V.str "pick"]))) (DB (CD ["word","x"] [] (iD K (l_ (CF K) (tV 0) (tC (V.int 1)))) (DF K 2 (DE (n_ 0) (DE (n_ 1) GH))) Fe (tV 1))) I_) (DB (yz (JK K) (kc (DK (λx j g H Q=>CG x j g H Q\/Cu K x j g H Q\/Cs K x j g H Q) (tV 0) (DJ (tC (V.int 1))) DI) qf))) {nx:=λx U=>Q V.aq U,rt:=Q} [aa b] H:=λb z a e n1 n2 C=>by
   refine⟨_,.str z,.inr (ay.of e),aO _ _,?_⟩;intro aW I;refine⟨_,.inr I,rfl,rfl,_,rfl,?_⟩;have N:(false^^Ah (.str z) [V.str "box",V.str "pick"])=false:=by
    rw[QF,show([V.str "box",V.str "pick"]:Qby)=(["box","pick"]:Qbo).map V.str from rfl,gP];refine Qx λhm=>?_;simp only[Qp,QB,or_false]at hm;rcases hm with rfl|rfl
    ·simp at n1
    ·simp at n2
   rw[N];exact xw (u b z a e C _ rfl)
  cases hv with
  | @one b s e=>exact G b s [] e (by rcases hok with rfl|rfl<;>decide+kernel) (by rcases hok with rfl|rfl<;>decide+kernel) rfl
  | @as b y e=>exact G b "as" [y] e (by decide+kernel) (by decide+kernel) rfl
  | @way b y z e=>exact G b "way" [y,z] e (by decide+kernel) (by decide+kernel) rfl
  | @prs b c s a ps e o hp=>
   refine⟨_,.str s,.inr (ay.of e),aO _ _,?_⟩;intro aW I;refine⟨_,.inr I,rfl,rfl,_,rfl,?_⟩;have N:(false^^Ah (.str s) [V.str "box",V.str "pick"])=true:=by
    rw[QF,show([V.str "box",V.str "pick"]:Qby)=(["box","pick"]:Qbo).map V.str from rfl,gP];refine Qw ?_;rcases hok.1 with rfl|rfl<;>simp
   rw[N];refine CB ?_;have gr:=hp.len;have DY:=hok.2.2.2;refine⟨_,.ref c,.inr (ay.of e),rfl,Or.inr ⟨⟨a,ay.of o⟩,λD m=>?_⟩⟩;refine gA (dE a) (λi p l=>l D=bh (((ps.take i).map (·.2)).map V.str)/\ae H l/\X2 λR v2=>p=[R,v2]) ⟨aA,ae.upd m _,none,none,rfl⟩ (λi p l _ h=>ay.of (h.2.1 _ _ o)) ?_ ?_
   ·rintro i p l g ⟨q,r,R,v2,rfl⟩;have yj:i<ps.length:=by lia
    obtain⟨d,e1,e2⟩:=hp.at_ i g yj
    have eg:a.getD i .aq=.ref d:=cV g e1;rw[eg];refine eI (r _ _ e2) ?_;refine⟨_,q,by simp;lia,?_,(r.put m),_,_,rfl⟩;rw[aA,Qs,Qa yj,Qm,Qm];rfl
   ·rintro p l ⟨q,r,R,v2,rfl⟩;rw[gr,Qo]at q;exact k D l m q r
def yk(s:Str):Str:=if s="box" then"part" else"case"
inductive F8 (mg:Str->Qbr)(vs:Qby)(H:Hp)(Q:VK)(b_:XK):Prop
 |mk (x:V) (h:Hd) (ns:Qbo):vs=[x]->HV H x h->h.ok ns->Kn mg H "FROM" [.str "from"]->Kn mg H "TO" [.str "to"]->(∀(L:Addr)(us:Qby)(U:Hp),H L=none->U L=bh us->SV U us (h.bf.map (·.1))->ae H U->Q (.ref L) U)->F8 mg vs H Q b_
theorem gQ(T:Txt K mg w):bq P w K mg base 1 "steps_in" ["head"] (F8 mg):=by
 refine T.vF.gw lC ?_ ?_
 ·rintro _ _ _ _ ⟨x,h,ns,rfl,_⟩;rfl
 ·rintro f bc A I s H vs Q E hr ⟨x,h,ns,rfl,hv,hok,kf,kt,k⟩;have iu:=Qy (cW hr);have ab:sizeLine=16777216:=QM;refine⟨_,(aE (eX (aU (iO iu) (aV K (zv 0) aJ) bK) (aF (bA (cE (aD (rB T.tO) (aD (rB T.K1) aC))))) cJ)
   (aE (eX (WQ T.jI (aV K (zv 0) aJ)) (aF (bA (kY ["word","x"] [0] ["word","x","head"] (d6 lC) (jX K (aV K (zv 0) aJ)) (λ_ _ _ _ _ _=>(cT K (n:=2) rfl (aK (bF 0) (aK (bF 1) bS)))) (λ_ _ _ _ _ _=>(cF (aL (WS T.jI (aV K (zv 2) aJ) (λ_ _=>rfl)) (aD (zv 0) aC))))))) cJ)
   (aF (bA (cE aC))))),?_⟩
  cases hv with
  | @one b s e=>
   refine⟨_,.str s,.inr (ay.of e),aO _ _,rfl,_,rfl,jq (λc=>?_) (λ_=>⟨_,.str s,.inr (ay.of e),aO _ _,Sum.inr s,rfl,_,rfl,jq (λc=>?_) (λ_=>⟨rq,λL a=>k L [] _ a aA SV.nil (ae.upd a _)⟩)⟩)⟩
   ·rw[QF,m9]at c;rcases hok with rfl|rfl<;>exact absurd c (by decide+kernel)
   ·rcases hok with rfl|rfl<;>exact absurd c (by decide+kernel)
  | @as b y e=>
   refine⟨_,.str "as",.inr (ay.of e),aO _ _,rfl,_,rfl,jq (λc=>?_) (λ_=>⟨_,.str "as",.inr (ay.of e),aO _ _,Sum.inr "as",rfl,_,rfl,jq (λc=>?_) (λ_=>⟨rq,λL a=>k L [] _ a aA SV.nil (ae.upd a _)⟩)⟩)⟩
   ·rw[QF,m9]at c;exact absurd c (by decide+kernel)
   ·exact absurd c (by decide+kernel)
  | @way b y z e=>
   refine⟨_,.str "way",.inr (ay.of e),aO _ _,rfl,_,rfl,jq (λ_=>?_) (λc=>absurd c (by simp))⟩;refine⟨kq,λL a=>k L _ _ a aA ?_ (ae.upd a _)⟩;exact(SV.nil.snoc (m:=["from"]) (kf.same (ae.upd a _)).rd).snoc (m:=["to"]) (kt.same (ae.upd a _)).rd
  | @prs b c s l ps e ec hp=>
   have gr:=hp.len;have DY:=hok.2.2.2;obtain⟨n1,n2,n3⟩:(s=="way")=false/\(a_ [((Sum.inr "box":Key),V.str "part"),(Sum.inr "pick",V.str "case")] (Sum.inr s)).isSome=true/\a_ [((Sum.inr "box":Key),V.str "part"),(Sum.inr "pick",V.str "case")] (Sum.inr s)=some (.str (yk s)):=by
    rcases hok.1 with rfl|rfl<;>exact⟨by decide+kernel,by decide+kernel,by decide+kernel⟩
   refine⟨_,.str s,.inr (ay.of e),aO _ _,rfl,_,rfl,jq (λc=>?_) (λ_=>⟨_,.str s,.inr (ay.of e),aO _ _,Sum.inr s,rfl,_,rfl,jq (λ_=>?_) (λc=>?_)⟩)⟩
   ·rw[QF,m9,n1]at c;cases c
   ·refine⟨_,.ref c,.inr (ay.of e),rfl,Or.inr ⟨⟨l,ay.of ec⟩,λD N=>?_⟩⟩;refine gA (dE l) (λi C g=>X3 fun(R v1:Qbz)(j:Qby)=>C=[R,v1,aa b]/\g D=bh j/\SV g j ((ps.take i).map λp=>[yk s,p.1])/\ae H g) ⟨none,none,[],rfl,aA,SV.nil,ae.upd N _⟩ (by rintro i C g _ ⟨_,_,_,_,_,_,s⟩;exact ay.of (s _ _ ec)) ?_ ?_
    ·rintro i C g hi ⟨R,v1,j,rfl,q1,o,q⟩;have yj:i<ps.length:=by lia
     obtain⟨d,r1,r2⟩:=hp.at_ i hi yj
     have eg:l.getD i .aq=.ref d:=cV hi r1;rw[eg];refine eI (q _ _ r2) ?_;have af:j.length=i:=by have:=o.len;simp at this;lia
     refine⟨_,.str s,.inr (ay.of (q _ _ e)),aO _ _,Sum.inr s,_,rfl,n3,kq,λt O=>?_⟩;have G:=ae.upd O (.tup [.str (yk s),.str ps[i].1]);have g1:upd g t (.tup [.str (yk s),.str ps[i].1]) t=ig [.str (yk s),.str ps[i].1]:=aA
     (try dsimp only)
     generalize upd g t (.tup [.str (yk s),.str ps[i].1])=H5 at G g1;have gD:=G _ _ q1;have kp:∀b l,cf H5 b l->cf (upd H5 D (.lst (j++[.ref t]))) b l:=λb l r=>r.upd λu hu z=>by
      subst z;rcases r with r|⟨_,r⟩<;>(rw[gD]at r;cases r)
     refine⟨j,gD,by lia,_,_,j++[.ref t],rfl,aA,?_,(q.trans G).put N⟩;have et:(ps.take (i+1)).map (λp=>([yk s,p.1]:Qbo))=(ps.take i).map (λp=>([yk s,p.1]:Qbo))++[[yk s,ps[i].1]]:=by
      rw[Qs,Qa yj,Qm];rfl
     rw[et];exact((o.keep λb l r=>r.same G).keep kp).snoc (m:=[yk s,ps[i].1]) (kp _ _ (.inl g1))
    ·rintro C g ⟨R,v1,j,rfl,q1,o,q⟩;rw[gr,Qo]at o;refine k D j g N q1 ?_ q;have em:(Hd.prs s ps).bf.map (·.1)=ps.map λp=>([yk s,p.1]:Qbo):=by
      simp[Hd.bf,yk,Qn,QC]
     rw[em];exact o
   ·rw[n2]at c;cases c
inductive Lq (mg:Str->Qbr)(vs:Qby)(H:Hp)(Q:VK)(b_:XK):Prop
 |mk (x:V) (h:Hd) (ns:Qbo) (rows:List aj) (d:Addr):vs=[x,.ref d]->HV H x h->h.ok ns->Kn mg H "FROM" [.str "from"]->Kn mg H "TO" [.str "to"]->Rd H d (.dK (jt rows))->(∀z∈ns,z∈rows.map (·.1))->(rows.map (·.1)).Nodup->(∀(m:Addr)(U:Hp),H m=none->U m=some (.dT (ky rows h))->ae H U->Q (.ref m) U)->Lq mg vs H Q b_
theorem sX(T:Txt K mg w):bq P w K mg base 2 "moves_in" ["head","rows"] (Lq mg):=by
 refine T.uY.gw kX ?_ ?_
 ·rintro _ _ _ _ ⟨x,h,l,rows,d,rfl,_⟩;rfl
 ·rintro f bc A r s H vs Q E t ⟨x,h,l,rows,d,rfl,hv,hok,kf,kt,hd,h_,nd,k⟩;obtain⟨hu,iu,hsz⟩:=dF t;have ab:=qL hok;refine⟨_,(aF (bA (XC (own:=["step","x"]) (idx:=[1]) (N':=["step","x","rows"]) (d6 kX) rfl iu (WK K (by rfl) T.K0 (aS (aT (gQ T) t (aD (zv 0) aC)) (aS (aT (j7 T) t (aD (zv 0) aC)) aC))) (λ_ _ _ _ _ _=>(cT K (n:=2) rfl (aK (bF 0) (aK (bF 1) bS)))) (λ_ _ _ _ _ _=>g9) (λ_ _ _ _ _ _=>(zv 0)) (λ_ _ _ _ _ _=>(aY hu (zv 2) (zv 1)))))),?_⟩;refine⟨x,h,l,rfl,hv,hok,kf,kt,λL e H1 hL N R m=>⟨x,h,l,rfl,hv.tk m.ts,hok,λM H2 hM eM c=>?_⟩⟩;have u:=R.len;rw[Ql]at u;refine⟨L,M,e,(ie h).map V.str,rfl,ao.of (c _ _ N),ao.of eM,λD y=>?_⟩;have Df:H D=none:=(m.trans c).free y;have mn:min e.length ((ie h).map V.str).length=h.bf.length:=by have:=XU (h:=h);simp;lia
  have z:=qN (rows:=rows) (vI hok);have ml:(ky rows h).length=h.bf.length:=by simp[ky]
  refine XS (WL e ((ie h).map V.str)) (λi o a=>X2 fun(C G:Qbz)=>o=[C,G,aa d]/\a D=some (.dT ((ky rows h).take i))/\ae H2 a) ⟨none,none,rfl,aA,ae.upd y _⟩ (by rintro i o a _ ⟨_,_,_,_,s⟩;exact⟨ao.of (s _ _ (c _ _ N)),ao.of (s _ _ eM)⟩) ?_ ?_
  ·rintro i o a T p ⟨C,G,rfl,q,g⟩ hT;rw[mn]at p;have PU:i<e.length:=by lia
   obtain⟨b,e1,e2⟩:=R.at_ i PU (by simpa using p)
   have g1:e.getD i .aq=.ref b:=cV PU e1;have Ie:((ie h).map V.str).getD i .aq=.str h.bf[i].2:=by rw[Qb,Qq,XT i p];rfl
   rw[g1,Ie];have j:=ae.upd hT (.tup [.ref b,.str h.bf[i].2]);generalize upd a T (.tup [.ref b,.str h.bf[i].2])=H5 at j;have hz:h.bf[i].2∈l:=u4 hok _ (Qj p);have I:Rd H5 d (.dK (jt rows)):=hd.same (((m.trans c).trans g).trans j);refine⟨d,.str (endOf rows h.bf[i].2),rfl,by rw[<- kC nd (h_ _ hz)];exact dc.rd (k:=Sum.inr h.bf[i].2) I,?_⟩;have er:cf H5 b (h.bf[i].1.map V.str):=by
    have:=(e2.same ((c.trans g).trans j))
    simpa using this
   have Kv:i<(ky rows h).length:=by lia
   have em:(ky rows h)[i]=(h.bf[i].1.map Sum.inr,.str (endOf rows h.bf[i].2)):=by simp[ky]
   refine⟨(ky rows h).take i,(ky rows h)[i].1,b,rfl,by rw[em,FI];exact er,j _ _ q,by simp;lia,_,_,rfl,?_,?_⟩
   ·have:=pT z Kv;rw[em]at this⊢;rw[this];exact aA
   ·exact(g.trans j).put y
  ·rintro o a ⟨C,G,rfl,q,g⟩;rw[mn,<- ml,Qo]at q;exact k D a Df q ((m.trans c).trans g)
inductive Ig (mg:Str->Qbr)(vs:Qby)(H:Hp)(Q:VK)(b_:XK):Prop
 |mk (x dx a:Addr) (xs:Qby) (rows:List aj) (ns ws:Qbo):vs=[.ref x,.ref a]->H x=some (.ins (adr mg "Net") dx [])->RT H a xs rows ns ws->(∀z∈ws,Wd z)->Kn mg H "FROM" [.str "from"]->Kn mg H "TO" [.str "to"]->(∀U,An U (adr mg "Net") x rows->Sx x H U->Q .aq U)->Ig mg vs H Q b_
theorem aaQ{f g:Str}{u v:V}(n:Nat):(cj f u (cj g v [])).length<1000:=by
 have b:=bL f u (cj g v []);have a:=bL g v [];simp at a
 lia
theorem oT{K:Q0}{b:TE}{f:Str}(h:b Z H λy H1=>ta Z H1 λx H2=>∃a C dx fs,x=.ref a/\H2 a=some (.ins C dx fs)/\uy K C/\Ae K C f/\fs.length<1000/\D.nx Z (upd H2 a (.ins C dx (cj f y fs)))):GP K ta b f D Z H:=h
set_option maxHeartbeats 1000000 in
theorem PV(T:Txt K mg w):BC P w K mg base 4 "Net" (adr mg "Net") ["self","T"] (Ig mg):=by
 have cl:=T.wz.2.1;have na:=T.wz.2.2.1;refine T.wz.gw fB (λvs H Q E h=>?_) (λf bc A ag s H vs Q E hr h=>?_)
 ·obtain⟨x,dx,a,xs,rows,ns,ws,rfl,_⟩:=h;rfl
 ·obtain⟨x,dx,a,xs,rows,ns,ws,rfl,hx,rt,hw,kf,kt,k⟩:=h;obtain⟨hu,iu,hsz⟩:=dF hr;have ia:=rt.ia;have D6:=rt.rl;have few:=rt.few;have ax:(bz rows).length<=30:=by have:=QaK (λr:aj=>r.2.nx.isNone) rows;unfold bz;lia
  have Ao:((bz rows).map (·.1)).Nodup:=(ia.sublist (List.filter_sublist.map _))
  refine⟨_,(aE (kO K (zv 0) (mT (aT (uA T) hr (aD (zv 1) aC))))
   (aE (kO K (zv 0) (mT (u5 (own:=["name","head"]) (idx:=[]) (N':=["name","head"]) (d6 fB) rfl (jX K (zv 1)) (λ_ _ _ _ _ _=>(cT K (n:=2) rfl (aK (bF 0) (aK (bF 1) bS)))) (λ_ _ _ _ _ _=>(Nq (aU (Nj iu) (aV K (zv 1) aJ) bK))) (λ_ _ _ _ _ _=>(zv 0)) (λ_ _ _ _ _ _=>(zv 1)))))
   (aE (kO K (zv 0) (mT (u5 (own:=["row","head"]) (idx:=[]) (N':=["row","head"]) (d6 fB) rfl (lX (bV K (zv 0))) (λ_ _ _ _ _ _=>(cT K (n:=2) rfl (aK (bF 0) (aK (bF 1) bS)))) (λ_ _ _ _ _ _=>g9) (λ_ _ _ _ _ _=>(zv 0)) (λ_ _ _ _ _ _=>(cF (aL (aV K (zv 1) aJ) (aS (fL (cG K) T.cU QH (aS (aT (gQ T) hr (aD (zv 1) aC)) aC)) aC)))))))
   (aF (kO K (zv 0) (mT (u5 (own:=["row","head"]) (idx:=[0]) (N':=["row","head","self"]) (d6 fB) rfl (lX (bV K (zv 0))) (λ_ _ _ _ _ _=>(cT K (n:=2) rfl (aK (bF 0) (aK (bF 1) bS)))) (λ_ _ _ _ _ _=>g9) (λ_ _ _ _ _ _=>(zv 0)) (λ_ _ _ _ _ _=>(mT (aT (sX T) hr (aD (zv 1) (jH (bV K (zv 2)) aC)))))))))))),?_⟩
  generalize hC:adr mg "Net"=C at*;refine fK ⟨a,xs,rows,ns,ws,rfl,rt,hw,λp H1 Ih s1 e1=>⟨p,rfl,.inl ⟨_,.inl e1,λo1=>?_⟩⟩⟩;have oz:p≠x:=λz=>by rw[z,hx]at Ih;cases Ih
  refine⟨x,C,dx,[],rfl,by rw[aB oz.symm];exact s1 _ _ hx,cl,na "rows" (by simp),by simp,?_⟩;have Lr:Sx x H (upd (upd H1 p (.af o1 (.dK (jt rows)))) x (.ins C dx (cj "rows" (.ref p) []))):=((s1.put Ih).sx).trans Sx.upd;have g1:upd (upd H1 p (.af o1 (.dK (jt rows)))) x (.ins C dx (cj "rows" (.ref p) [])) p=some (.af o1 (.dK (jt rows))):=by rw[aB oz];exact aA
  have gx:upd (upd H1 p (.af o1 (.dK (jt rows)))) x (.ins C dx (cj "rows" (.ref p) [])) x=some (.ins C dx (cj "rows" (.ref p) [])):=aA;generalize upd (upd H1 p (.af o1 (.dK (jt rows)))) x (.ins C dx (cj "rows" (.ref p) []))=H2 at Lr g1 gx⊢;have nt:∀ys,H x≠ig ys:=λys z=>by rw[hx]at z;cases z
  have nf:∀q u,H x≠some (.af q u):=λq u z=>by rw[hx]at z;cases z
  have Ax:=rt.tk (Lr.tk nt);clear e1 s1 Ih H1
  -- heads
  refine fK (Or.inr ⟨⟨xs,ay.of Ax.at_⟩,λD hD=>?_⟩);have F9:D≠x:=λz=>by rw[z,gx]at hD;cases hD
  refine zQ (dE xs) (λi τ H3=>X3 fun(v0 v1:Qbz)(d:Qbv)=>τ=[v0,v1]/\H3 D=gf d/\DV RH H3 d (bz (rows.take i))/\ae H2 H3) ⟨none,none,[],rfl,aA,DV.nil,ae.upd hD _⟩ (by rintro i τ H3 _ ⟨_,_,_,_,_,_,s⟩;exact ay.of (s _ _ Ax.at_)) ?_ ?_
  ·rintro i τ H3 hi ⟨v0,v1,d,rfl,I,G,g⟩;have vo:i<rows.length:=by have:=Ax.rv.len;lia
   obtain⟨b,v,r1,r2,r3⟩:=Ax.rv.at_ i hi vo
   have eg:xs.getD i .aq=.ref b:=cV hi r1;rw[eg];refine eI (g _ _ r2) ?_;have ab:=r3.same g;obtain⟨c,ys,rfl,hc⟩:=ab.bj;have hok:=(Ax.ok rows[i] (Qj vo)).2;have et:rows.take (i+1)=rows.take i++[rows[i]]:=lP vo;have kl:d.length<sizeLine:=by
    have O:=G.len;have Y:=QaK (λr:aj=>r.2.nx.isNone) (rows.take i);unfold bz at O;simp at Y
    lia
   refine⟨_,.str rows[i].2.bj,.inr (ay.of hc),aO _ _,rfl,_,rfl,jq (λc1=>?_) (λc1=>?_)⟩
   ·have hn:rows[i].2.nx.isNone=true:=by
     cases e:rows[i].2.nx.isNone with
     |true=>rfl
     |false=>
      have:=(zI hok).symm▸e;rw[this]at c1;simp at c1
    have en:bz (rows.take (i+1))=bz (rows.take i)++[rows[i]]:=by
     rw[et];unfold bz;rw[List.filter_append,Qbm,if_pos hn];rfl
    have Ks:rows[i].1∉(bz (rows.take i)).map (·.1):=λhm=>by
     obtain⟨r,hr,e⟩:=Yy.mp hm;have ff:=(Qad.mp hr).1;obtain⟨j,hj,rfl⟩:=Qi ff;have ve:j<i:=by simp at hj;lia
     rw[QaG]at e;have:=Qac.mp ia j i (by simp;lia) (by simpa using vo) ve;simp only[Qr]at this;exact this e
    refine⟨d,.inr rows[i].1,rfl,I,kl,_,_,d++[(.inr rows[i].1,.ref c)],rfl,?_,?_,g.put hD⟩
    ·rw[G.put Ks];exact aA
    ·rw[en];exact(G.snoc (show RH H3 (.ref c) rows[i]from ab)).keep λv r h=>HV.tk ((Tk.refl).set I λxs z=>nomatch z) h
   ·have hn:rows[i].2.nx.isNone=false:=by
     have e:rows[i].2.bj="as":=by
      have:decide (V.str rows[i].2.bj=V.str "as")=true:=by simpa using c1
      exact V.str.inj (Qt this)
     exact(zI hok)▸e
    have en:bz (rows.take (i+1))=bz (rows.take i):=by
     rw[et];unfold bz;rw[List.filter_append,Qbm,if_neg (by rw[hn];decide)];simp
    exact⟨_,_,d,rfl,I,by rw[en];exact G,g⟩
  ·rintro τ H3 ⟨v0,v1,N,rfl,I,G,g⟩;rw[Ax.rv.len,Qo]at G;refine⟨D,rfl,.inl ⟨N,.inl I,λo2=>?_⟩⟩;refine⟨x,C,dx,_,rfl,by rw[aB F9.symm];exact g _ _ gx,cl,na "heads" (by simp),by simp[cj],?_⟩;have Eo:p≠D:=λz=>by rw[z,hD]at g1;cases g1
   have Ls:Sx x H2 (upd (upd H3 D (.af o2 (.dK N))) x (.ins C dx (cj "heads" (.ref D) (cj "rows" (.ref p) [])))):=((g.put hD:ae _ _) |> ae.sx).trans Sx.upd;have g2:upd (upd H3 D (.af o2 (.dK N))) x (.ins C dx (cj "heads" (.ref D) (cj "rows" (.ref p) []))) D=some (.af o2 (.dK N)):=by rw[aB F9];exact aA
   have B3:upd (upd H3 D (.af o2 (.dK N))) x (.ins C dx (cj "heads" (.ref D) (cj "rows" (.ref p) []))) x=some (.ins C dx (cj "heads" (.ref D) (cj "rows" (.ref p) []))):=aA;have EC:DV RH (upd (upd H3 D (.af o2 (.dK N))) x (.ins C dx (cj "heads" (.ref D) (cj "rows" (.ref p) [])))) N (bz rows):=G.keep λv r h=>HV.tk (((Tk.refl).set I λxs z=>nomatch z).set (by rw[aB F9.symm];exact g _ _ gx) λxs z=>by cases z) h;generalize upd (upd H3 D (.af o2 (.dK N))) x (.ins C dx (cj "heads" (.ref D) (cj "rows" (.ref p) [])))=H4 at Ls g2 B3 EC⊢;have Dj:H4 p=some (.af o1 (.dK (jt rows))):=Ls _ _ oz g1;have Lu:=Lr.trans Ls;have PY:Kn mg H4 "FROM" [.str "from"]:=let ⟨o,e⟩:=kf;⟨o,Lu.af nf e⟩
   have PZ:Kn mg H4 "TO" [.str "to"]:=let ⟨o,e⟩:=kt;⟨o,Lu.af nf e⟩
   have P0:=EC.len;have P1:∀i(h:i<(bz rows).length),((bz rows)[i]).2.ok ns:=λi h=>(rt.ok _ (Qad.mp (Qj h)).1).2;have P4:∀i(h:i<(bz rows).length),jg N i=.str (bz rows)[i].1:=λi h=>by
    unfold jg;rw[Qa (by lia)];show kV N[i].1=_;rw[(EC.at_ i (by lia) h).1];rfl
   have ah:∀i(h:i<(bz rows).length),HV H4 (valAt N i) (bz rows)[i].2:=λi h=>by
    unfold valAt;rw[Qa (by lia)];exact(EC.at_ i (by lia) h).2
   have Ii:∀i(h:i<(bz rows).length),(bz rows)[i].1∉((bz rows).take i).map (·.1):=λi h hm=>by
    obtain⟨r,hr,e⟩:=Yy.mp hm;obtain⟨j,hj,rfl⟩:=Qi hr;have ve:j<i:=by simp at hj;lia
    rw[QaG]at e;have:=Qac.mp Ao j i (by simp;lia) (by simpa using h) ve;simp only[Qr]at this;exact this e
   have P5:∀i(h:i<(bz rows).length),(bz rows).take (i+1)=(bz rows).take i++[(bz rows)[i]]:=λi h=>by rw[Qs,Qa h];rfl
   clear I G g hD Ax
   -- marks
   refine fK ⟨x,C,dx,_,.ref D,rfl,B3,cl,na "heads" (by simp),by rw[bQ,if_pos rfl],D,N,rfl,.inl ⟨o2,g2,λR Ay=>?_⟩⟩;have F_:R≠x:=λz=>by rw[z,B3]at Ay;cases Ay
   refine qY (jO N) (λi τ H5=>X3 fun(v0 v1:Qbz)(d:Qbv)=>τ=[v0,v1]/\H5 R=gf d/\DV RM H5 d ((bz rows).take i)/\ae H4 H5) ⟨none,none,[],rfl,aA,DV.nil,ae.upd Ay _⟩ (by rintro i τ H5 _ ⟨_,_,_,_,_,_,s⟩;exact s _ _ g2) ?_ ?_
   ·rintro i τ H5 T5 hi ⟨v0,v1,d,rfl,I,G,g⟩ hT;have h_:i<(bz rows).length:=by lia
    rw[P4 i h_];have hv:=ah i h_;generalize valAt N i=v at hv;have t1:=ae.upd hT (.tup [.str (bz rows)[i].1,v]);generalize upd H5 T5 (.tup [.str (bz rows)[i].1,v])=H6 at t1;have P6:=hv.same (g.trans t1);obtain⟨c,ys,rfl,hc⟩:=P6.bj;refine⟨_,.str (bz rows)[i].2.bj,.inr (ay.of hc),aO _ _,.ref c,(bz rows)[i].2,ns,rfl,P6,P1 i h_,PY.same (g.trans t1),PZ.same (g.trans t1),λL us H7 hL eL sv s7=>?_⟩;refine⟨L,us,rfl,.inl ⟨ao.of eL,λl hl=>⟨kq,λt ht=>?_⟩⟩⟩;have s8:=(s7.trans (ae.upd hl (.tup us))).trans (ae.upd ht (.tup [.str (bz rows)[i].2.bj,.ref l]));have el:upd (upd H7 l (.tup us)) t (.tup [.str (bz rows)[i].2.bj,.ref l]) l=ig us:=ae.upd ht _ _ _ aA;have et:upd (upd H7 l (.tup us)) t (.tup [.str (bz rows)[i].2.bj,.ref l]) t=ig [.str (bz rows)[i].2.bj,.ref l]:=aA;have P7:SV (upd (upd H7 l (.tup us)) t (.tup [.str (bz rows)[i].2.bj,.ref l])) us ((bz rows)[i].2.bf.map (·.1)):=sv.keep λb ys r=>r.same ((ae.upd hl _).trans (ae.upd ht _))
    (try dsimp only)
    generalize upd (upd H7 l (.tup us)) t (.tup [.str (bz rows)[i].2.bj,.ref l])=H8 at s8 el et P7;have g3:=(t1.trans s8) _ _ I;have kl:d.length<sizeLine:=by have O:=G.len;simp at O;lia
    have kp:Tk H8 (upd H8 R (.dK (d++[(.inr (bz rows)[i].1,.ref t)]))):=(Tk.refl).set g3 λxs z=>nomatch z;refine⟨d,.inr (bz rows)[i].1,rfl,g3,kl,_,_,d++[(.inr (bz rows)[i].1,.ref t)],rfl,?_,?_,((g.trans t1).trans s8).put Ay⟩
    ·rw[G.put (Ii i h_)];exact aA
    ·rw[P5 i h_,G.put (Ii i h_)];have kr:∀b ys,cf H8 b ys->cf (upd H8 R (.dK (d++[(.inr (bz rows)[i].1,.ref t)]))) b ys:=λb ys r=>r.put g3 (λ_ z=>nomatch z) λ_ _ z=>nomatch z;refine((G.keep λv r ⟨b,c,us,e1,e2,e3,e4⟩=>⟨b,c,us,e1,(t1.trans s8) _ _ e2,(t1.trans s8) _ _ e3,e4.keep λb ys r=>r.same (t1.trans s8)⟩:DV RM H8 d _).snoc (show RM H8 (.ref t) (bz rows)[i]from⟨t,l,us,rfl,et,el,P7⟩)).keep λv r ⟨b,c,us,e1,e2,e3,e4⟩=>⟨b,c,us,e1,kp _ _ e2,kp _ _ e3,e4.keep kr⟩
   ·rintro τ H5 ⟨v0,v1,k3,rfl,I,G,g⟩;rw[P0,Qo]at G;refine⟨R,rfl,.inl ⟨k3,.inl I,λo3=>?_⟩⟩;refine⟨x,C,dx,_,rfl,by rw[aB F_.symm];exact g _ _ B3,cl,na "marks" (by simp),aaQ 2,?_⟩;have a1:p≠R:=λz=>by rw[z,Ay]at Dj;cases Dj
    have a2:D≠R:=λz=>by rw[z,Ay]at g2;cases g2
    generalize P8:cj "marks" (.ref R) (cj "heads" (.ref D) (cj "rows" (.ref p) []))=jn;have lk:∀y:Str,jn.lookup y=if y="marks" then aa R else if y="heads" then aa D else if y="rows" then aa p else none:=λy=>by rw[<- P8,bQ,bQ,bQ];rfl
    have fl:jn.length<=3:=by rw[<- P8];have O:=bL "marks" (.ref R) (cj "heads" (.ref D) (cj "rows" (.ref p) []));have Y:=bL "heads" (.ref D) (cj "rows" (.ref p) []);have h3:=bL "rows" (.ref p) [];simp at h3;lia
    have Dk:Sx x H4 (upd (upd H5 R (.af o3 (.dK k3))) x (.ins C dx jn)):=((g.put Ay:ae _ _) |> ae.sx).trans Sx.upd;have g3:upd (upd H5 R (.af o3 (.dK k3))) x (.ins C dx jn) R=some (.af o3 (.dK k3)):=by rw[aB F_];exact aA
    have B4:upd (upd H5 R (.af o3 (.dK k3))) x (.ins C dx jn) x=some (.ins C dx jn):=aA;have uo:Tk H5 (upd (upd H5 R (.af o3 (.dK k3))) x (.ins C dx jn)):=((Tk.refl).set I λxs z=>nomatch z).set (by rw[aB F_.symm];exact g _ _ B3) λxs z=>by cases z
    have P9:∀b ys,cf H5 b ys->cf (upd (upd H5 R (.af o3 (.dK k3))) x (.ins C dx jn)) b ys:=λb ys r=>(r.put I (λ_ z=>nomatch z) λ_ _ z=>nomatch z).put (by rw[aB F_.symm];exact g _ _ B3) (λ_ z=>by cases z) λ_ _ z=>by cases z
    have P_:DV RM (upd (upd H5 R (.af o3 (.dK k3))) x (.ins C dx jn)) k3 (bz rows):=G.keep λv r ⟨b,c,us,e1,e2,e3,e4⟩=>⟨b,c,us,e1,uo _ _ e2,uo _ _ e3,e4.keep P9⟩
    have Lv:DV RH (upd (upd H5 R (.af o3 (.dK k3))) x (.ins C dx jn)) N (bz rows):=EC.keep λv r h=>HV.tk ((g.ts).trans uo) h;generalize upd (upd H5 R (.af o3 (.dK k3))) x (.ins C dx jn)=H6 at Dk g3 B4 P_ Lv⊢;have Ij:H6 p=some (.af o1 (.dK (jt rows))):=Dk _ _ oz Dj;have Ga:H6 D=some (.af o2 (.dK N)):=Dk _ _ F9 g2;have al:Kn mg H6 "FROM" [.str "from"]:=let ⟨o,e⟩:=PY;⟨o,Dk.af (λq u z=>by rw[B3]at z;cases z) e⟩
    have am:Kn mg H6 "TO" [.str "to"]:=let ⟨o,e⟩:=PZ;⟨o,Dk.af (λq u z=>by rw[B3]at z;cases z) e⟩
    have an:∀i(h:i<(bz rows).length),HV H6 (valAt N i) (bz rows)[i].2:=λi h=>by
     unfold valAt;rw[Qa (by lia)];exact(Lv.at_ i (by lia) h).2
    have ap:=Lu.trans Dk;have ar:∀z∈ns,z∈rows.map (·.1):=λz hz=>rt.nm.mem_iff.mpr hz;clear I G g uo P9 EC Dk
    -- moves
    refine oT ⟨x,C,dx,jn,.ref D,rfl,B4,cl,na "heads" (by simp),by rw[lk,if_neg (by decide+kernel),if_pos rfl],D,N,rfl,.inl ⟨o2,Ga,λD4 B5=>?_⟩⟩;have Ik:D4≠x:=λz=>by rw[z,B4]at B5;cases B5
    refine qY (jO N) (λi τ H7=>X3 fun(v0 v1:Qbz)(d:Qbv)=>τ=[v0,v1,aa x]/\H7 D4=gf d/\DV (RO rows) H7 d ((bz rows).take i)/\ae H6 H7) ⟨none,none,[],rfl,aA,DV.nil,ae.upd B5 _⟩ (by rintro i τ H5 _ ⟨_,_,_,_,_,_,s⟩;exact s _ _ Ga) ?_ ?_
    ·rintro i τ H7 T7 hi ⟨v0,v1,d,rfl,I,G,g⟩ hT;have h_:i<(bz rows).length:=by lia
     rw[P4 i h_];have hv:=an i h_;generalize valAt N i=v at hv;have t1:=ae.upd hT (.tup [.str (bz rows)[i].1,v]);generalize upd H7 T7 (.tup [.str (bz rows)[i].1,v])=H8 at t1;have q4:=g.trans t1;refine⟨x,C,dx,jn,.ref p,rfl,q4 _ _ B4,cl,na "rows" (by simp),by rw[lk,if_neg (by decide+kernel),if_neg (by decide+kernel),if_pos rfl],?_⟩;refine⟨v,(bz rows)[i].2,ns,rows,p,rfl,hv.same q4,P1 i h_,al.same q4,am.same q4,.inr ⟨o1,q4 _ _ Ij⟩,ar,ia,λm H9 hm em s9=>⟨m,rfl,.inr ⟨_,.inl em,λo=>?_⟩⟩⟩;have a3:D4≠m:=λz=>by
      have:=t1 _ _ I;rw[z,hm]at this;cases this
     have jd:ae H8 (upd H9 m (.af o (.dT (ky rows (bz rows)[i].2)))):=s9.put hm;have Qu:upd H9 m (.af o (.dT (ky rows (bz rows)[i].2))) m=some (.af o (.dT (ky rows (bz rows)[i].2))):=aA;generalize upd H9 m (.af o (.dT (ky rows (bz rows)[i].2)))=uq at jd Qu;have QG:=(t1.trans jd) _ _ I;have kl:d.length<sizeLine:=by have O:=G.len;simp at O;lia
     refine⟨d,.inr (bz rows)[i].1,rfl,QG,kl,_,_,d++[(.inr (bz rows)[i].1,.ref m)],rfl,?_,?_,(q4.trans jd).put B5⟩
     ·rw[G.put (Ii i h_)];exact aA
     ·rw[P5 i h_,G.put (Ii i h_)];refine((G.keep λv r ⟨m',o',e1,e2⟩=>⟨m',o',e1,(t1.trans jd) _ _ e2⟩:DV (RO rows) uq d _).snoc (show RO rows uq (.ref m) (bz rows)[i]from⟨m,o,rfl,Qu⟩)).keep λv r ⟨m',o',e1,e2⟩=>⟨m',o',e1,?_⟩
      rw[aB (λz=>by rw[z,QG]at e2;cases e2)];exact e2
    ·rintro τ H7 ⟨v0,v1,k4,rfl,I,G,g⟩;rw[P0,Qo]at G;refine⟨D4,rfl,.inl ⟨k4,.inl I,λo4=>?_⟩⟩;refine⟨x,C,dx,jn,rfl,by rw[aB Ik.symm];exact g _ _ B4,cl,na "moves" (by simp),by lia,?_⟩;have a4:p≠D4:=λz=>by rw[z,B5]at Ij;cases Ij
     have a5:D≠D4:=λz=>by rw[z,B5]at Ga;cases Ga
     have a6:R≠D4:=λz=>by rw[z,B5]at g3;cases g3
     have s7:Sx x H6 (upd (upd H7 D4 (.af o4 (.dK k4))) x (.ins C dx (cj "moves" (.ref D4) jn))):=((g.put B5:ae _ _) |> ae.sx).trans Sx.upd;have Lw:Tk H7 (upd (upd H7 D4 (.af o4 (.dK k4))) x (.ins C dx (cj "moves" (.ref D4) jn))):=((Tk.refl).set I λxs z=>nomatch z).set (by rw[aB Ik.symm];exact g _ _ B4) λxs z=>by cases z
     have as:∀b ys,cf H7 b ys->cf (upd (upd H7 D4 (.af o4 (.dK k4))) x (.ins C dx (cj "moves" (.ref D4) jn))) b ys:=λb ys r=>(r.put I (λ_ z=>nomatch z) λ_ _ z=>nomatch z).put (by rw[aB Ik.symm];exact g _ _ B4) (λ_ z=>by cases z) λ_ _ z=>by cases z
     have aw:∀b q u,H7 b=some (.af q u)->upd (upd H7 D4 (.af o4 (.dK k4))) x (.ins C dx (cj "moves" (.ref D4) jn)) b=some (.af q u):=λb q u e=>by
      rw[aB (λz=>by rw[z,g _ _ B4]at e;cases e),aB (λz=>by rw[z,I]at e;cases e)];exact e
     have l4:∀y:Str,(cj "moves" (.ref D4) jn).lookup y=if y="moves" then aa D4 else jn.lookup y:=λy=>bQ _ _ _ _
     refine k _ ⟨dx,cj "moves" (.ref D4) jn,aA,⟨⟨p,o1,?_,s7 _ _ oz Ij⟩,⟨D,o2,N,?_,s7 _ _ F9 Ga,Lv.keep λv r h=>HV.tk (g.ts.trans Lw) h⟩,⟨R,o3,k3,?_,s7 _ _ F_ g3,P_.keep λv r ⟨b,c,us,e1,e2,e3,e4⟩=>⟨b,c,us,e1,Lw _ _ (g _ _ e2),Lw _ _ (g _ _ e3),e4.keep λb ys r=>as _ _ (r.same g)⟩⟩,⟨D4,o4,k4,?_,?_,G.keep λv r ⟨m,o,e1,e2⟩=>⟨m,o,e1,aw _ _ _ e2⟩⟩⟩⟩ (ap.trans s7)
     ·rw[l4,if_neg (by decide+kernel),lk,if_neg (by decide+kernel),if_neg (by decide+kernel),if_pos rfl]
     ·rw[l4,if_neg (by decide+kernel),lk,if_neg (by decide+kernel),if_pos rfl]
     ·rw[l4,if_neg (by decide+kernel),lk,if_pos rfl]
     ·rw[l4,if_pos rfl]
     ·rw[aB Ik];exact aA
inductive Lx (mg:Str->Qbr)(vs:Qby)(H:Hp)(Q:VK)(b_:XK):Prop
 |mk (a r:Addr) (xs us:Qby) (rows:List aj) (ns ws:Qbo) (x:Str) (road:List Qbo):vs=[.ref a,.str x,.ref r]->RT H a xs rows ns ws->(∀z∈ws,Wd z)->x∈ns->Kn mg H "FROM" [.str "from"]->Kn mg H "TO" [.str "to"]->H r=ig us->SV H us road->(∀U,ae H U->Q (Hy (zk rows (endOf rows x) road)) U)->Lx mg vs H Q b_
theorem yG(T:Txt K mg w):bq P w K mg base 6 "end_of" ["T","x","road"] (Lx mg):=by
 have Ly:BC P w K mg base 4 "Net" (adr mg "Net") ["self","T"] (Ig mg):=PV T;have cl:=T.wz.2.1;have na:=T.wz.2.2.1;refine T.a11.gw fQ ?_ ?_
 ·rintro _ _ _ _ ⟨a,r,xs,R,d,ns,ws,x,j,rfl,_⟩;rfl
 ·rintro f bc A ab s H vs Q E hr ⟨a,r,xs,R,d,ns,ws,x,j,rfl,y,hw,hx,kf,kt,ni,sv,k⟩;have I:=cW hr;have iu:=Qy (cW hr);refine⟨_,(aE (aI 3 fQ.nd (NT Ly (hr.mono (by decide)) (aD (zv 0) aC)))
   (aE (aI 4 fQ.nd (aY I (bV K (zv 3)) (zv 1)))
   (aE (cR PassesOwn.never rfl (jX K (zv 2)) (bT 5 fQ.nd) (aE (eX (aU (pB I) (zv 5) (aY I (bV K (zv 3)) (zv 4)) rfl) (aF (bA Nm)) cJ)
   (aF (aI 4 fQ.nd (aY I (aY I (bV K (zv 3)) (zv 4)) (zv 5))))))
   (aF (bA (zv 4)))))),?_⟩
  refine aH λn dn hn qc ne=>?_;have s0:ae H (upd (upd H dn (.own n)) n (.ins (adr mg "Net") dn [])):=(ae.upd qc _).trans (ae.upd (by rw[aB ne.symm];exact hn) _);refine⟨n,dn,a,xs,d,ns,ws,rfl,aA,y.tk s0.ts,hw,kf.same s0,kt.same s0,λL xg sx=>⟨rfl,?_⟩⟩;have N:ae H L:=λb o e=>sx b o (λz=>by rw[z,hn]at e;cases e) (s0 b o e);obtain⟨dx,fs,en,⟨⟨d1,o1,a1,a2⟩,_,_,⟨d4,o4,k4,e1,e2,e3⟩⟩⟩:=xg;generalize adr mg "Net"=C at*;refine aH ⟨n,C,dx,fs,.ref d1,rfl,en,cl,na "rows" (by simp),a1,d1,.str (endOf d x),rfl,?_,?_⟩
  ·rw[<- kC y.ia (y.nm.mem_iff.mpr hx)];exact dc.rd (k:=Sum.inr x) (.inr ⟨o1,a2⟩)
  have look:∀e,gj d ns e->X2 λm o=>dc L d4 (.str e) (some (.ref m))/\L m=some (.af o (.dT (ky d (ai d e)))):=λe G=>by
   obtain⟨v,O,m,o,rfl,Y⟩:=e3.get y.Ao (y.rf hw G).1;exact⟨m,o,by rw[<- O];exact dc.rd (k:=Sum.inr e) (.inr ⟨o4,e2⟩),Y⟩
  have qu:=y.stay hw hx;have ag:=sv.keep λb ys h=>h.same N;have hl:=sv.len;refine aM (λl p=>X2 λD e=>l=[aa a,fb x,aa r,aa n,fb e,D]/\zk d (endOf d x) j=some e/\p=L) ?_ ?_
  ·intro nx dz;refine Or.inr ⟨⟨R,ay.of (N _ _ ni)⟩,?_⟩;refine cA (dE R) (λi l p=>X2 λD e=>l=[aa a,fb x,aa r,aa n,fb e,D]/\zk d (endOf d x) j=zk d e (j.drop i)/\gj d ns e/\p=L) ⟨none,endOf d x,rfl,rfl,qu,rfl⟩ (by rintro i l p _ ⟨_,_,_,_,_,h⟩;(rw[h];exact ay.of (N _ _ ni))) ?_ ?_
   ·rintro i l p hi ⟨D,e,rfl,g,G,rfl⟩;obtain⟨b,q1,q2⟩:=ag.at_ i hi (by lia)
    have eg:R.getD i .aq=.ref b:=cV hi q1;rw[eg];obtain⟨m,o,l1,l2⟩:=look e G;have ed:j.drop i=j[i]'(by lia)::j.drop (i+1):=List.drop_eq_getElem_cons (by lia);have dg:dc p m (.ref b) ((L2.fq d e (j[i]'(by lia))).map V.str):=by
     rw[<- uS d e _ G.2];exact .inr ⟨_,_,b,.inr ⟨o,l2⟩,rfl,by rw[FI];exact q2,rfl⟩
    rw[ed]at g;refine aM (λl H1=>(∃t,L2.fq d e (j[i]'(by lia))=some t)/\H1=p/\l=[aa a,fb x,aa r,aa n,fb e,aa b]) ?_ ?_
    ·intro C_ Dc;refine⟨n,C,dx,fs,.ref d4,rfl,en,cl,na "moves" (by simp),e1,d4,.ref m,rfl,l1,m,_,rfl,dg,_,rfl,jq (λc=>?_) (λc=>?_)⟩
     ·cases u:L2.fq d e (j[i]'(by lia))with
      |some t=>rw[u]at c;simp at c
      |none=>
       have:Hy (zk d (endOf d x) j)=.aq:=by rw[g];unfold zk;rw[u];rfl
       rw[<- this];exact k p N
     ·cases u:L2.fq d e (j[i]'(by lia))with
      |some t=>exact Dc _ _ ⟨⟨t,u⟩,rfl,rfl⟩
      |none=>rw[u]at c;simp at c
    ·rintro l H1 ⟨⟨t,u⟩,rfl,rfl⟩;rw[u]at dg;refine⟨n,C,dx,fs,.ref d4,rfl,en,cl,na "moves" (by simp),e1,d4,.ref m,rfl,l1,m,.str t,rfl,dg,?_⟩;refine⟨_,t,rfl,?_,y.fq hw G u,rfl⟩;rw[g];show(match L2.fq d e _ with|some t=>zk d t _|none=>none)=_;rw[u]
   ·rintro l p ⟨D,e,rfl,g,G,rfl⟩;refine dz _ _ ⟨D,e,rfl,?_,rfl⟩;rw[g,hl,List.drop_length];rfl
  ·rintro l p ⟨D,e,rfl,g,rfl⟩;have:Hy (zk d (endOf d x) j)=.str e:=by rw[g];rfl
   have q:=k _ N;rw[this]at q;exact q
inductive Lz (mg:Str->Qbr)(vs:Qby)(H:Hp)(Q:VK)(b_:XK):Prop
 |mk (a:Addr) (xs:Qby) (rows:List aj) (ns ws:Qbo) (x:Str):vs=[.ref a,.str x]->RT H a xs rows ns ws->(∀z∈ws,Wd z)->x∈ns->Kn mg H "FROM" [.str "from"]->Kn mg H "TO" [.str "to"]->(∀(L:Addr)(us:Qby)(U:Hp),H L=none->ae H U->U L=bh us->SV U us ((ak rows x).map (·.1))->Q (.ref L) U)->Lz mg vs H Q b_
theorem rN(T:Txt K mg w):bq P w K mg base 4 "steps_of" ["T","x"] (Lz mg):=by
 refine T.uU.gw sC ?_ ?_
 ·rintro _ _ _ _ ⟨a,l,b,d,p,x,rfl,_⟩;rfl
 ·rintro f N A h s H R Q E m ⟨a,l,b,d,p,x,rfl,i,n,o,q,r,k⟩;obtain⟨rs,g,nm,rl,wg⟩:=i.good n;have t:∀z,z∈d↔z∈rs.map (·.1):=λz=>by rw[nm];exact i.nm.mem_iff.symm
  obtain⟨e1,e2,e3⟩:=i.AR n o;refine⟨_,(aF (bA (aT (gQ T) m (aS (aT (nR T) m (aD (zv 0) (aD (zv 1) aC))) aC)))),?_⟩;refine⟨a,l,rs,_,_,x,rfl,g,(t x).mp o,λv V c hv=>?_⟩;have j:HV H v (ai b (endOf b x)):=wg _ v e1 (by rw[rl]at hv;exact hv);refine⟨v,_,d,rfl,j.same c,e3,q.same c,r.same c,λL u y C D G I=>?_⟩;have e:(ak b x).map (·.1)=(ai b (endOf b x)).bf.map (·.1):=by simp[ak,Qn,QC]
  exact k L u y (c.free C) (c.trans I) D (by rw[e];exact G)
theorem aP(l:List α)(i:Nat)(h:i<l.length):l.take (i+1)=l.take i++[l[i]]:=lP h
inductive LA (mg:Str->Qbr)(vs:Qby)(H:Hp)(Q:VK)(b_:XK):Prop
 |mk (n r a:Addr) (xs:Qby) (rows:List aj) (ns ws R:Qbo):vs=[.ref n,.ref r]->An H (adr mg "Net") n rows->RT H a xs rows ns ws->(∀z∈ws,Wd z)->H r=bh (R.map V.str)->R.Nodup->(∀e∈R,gj rows ns e)->(∀e∈R,∀m∈ak rows e,m.2∈R)->(∀(D:Addr)(kvs:Qbv)(U:Hp),H D=none->ae H U->U D=gf kvs->jh H U kvs R (ju rows R)->Q (.ref D) U)->LA mg vs H Q b_
set_option maxHeartbeats 2000000 in
theorem oI(T:Txt K mg w):bq P w K mg base 2 "sources_of" ["net","rows"] (LA mg):=by
 have cl:=T.wz.2.1;have na:=T.wz.2.2.1;refine T.pS.gw cI ?_ ?_
 ·rintro _ _ _ _ ⟨n,r,a,xs,b,ns,ws,R,rfl,_⟩;rfl
 ·rintro f bc A ab s H vs Q E hr ⟨n,r,a,xs,b,ns,ws,R,rfl,xg,rt,hw,hR,Bf,Dl,Er,k⟩;obtain⟨hu,iu,hsz⟩:=dF hr;have few:=rt.few;have QN:R.length<=ns.length:=cZ Bf λx hx=>(Dl x hx).1;obtain⟨dx,fs,en,⟨_,_,_,⟨d4,o4,k4,e1,e2,e3⟩⟩⟩:=xg;generalize adr mg "Net"=C at*;have look:∀e,gj b ns e->X2 λm o=>dc H d4 (.str e) (some (.ref m))/\H m=some (.af o (.dT (jm b e))):=λe he=>by
   obtain⟨v,O,m,o,rfl,Y⟩:=e3.get rt.Ao (rt.rf hw he).1;refine⟨m,o,by rw[<- O];exact dc.rd (k:=Sum.inr e) (.inr ⟨o4,e2⟩),?_⟩;rw[kH he.2]at Y;exact Y
  refine⟨_,(aE (Yo (i:=2) (own:=["row"]) (idx:=[]) (N':=["row"]) (d6 cI) rfl (jX K (zv 1)) (λ_ _ _ _ _ _=>(bF 0)) (λ_ _ _ _ _ _=>g9) (λ_ _ _ _ _ _=>(zv 0)) (λ_ _ _ _ _ _=>(cE aC)) cI.nd rfl rfl)
   (aE (cR PassesOwn.never rfl (jX K (zv 1)) (bT 3 cI.nd) (aF (cR PassesOwn.never rfl (pK (aY hu (bV K (zv 0)) (zv 3))) (cT K (n:=2) rfl (aK (bT 4 cI.nd) (aK (bT 5 cI.nd) bS))) (aF (bR (i8 K QJ QK QL bE (aY hu (zv 2) (zv 5)) (cM (cF (aD (zv 4) (aD (zv 3) aC))) aC)))))))
   (aF (bA (zv 2))))),?_⟩
  refine aH (.inl ⟨⟨_,ao.of hR⟩,λD hD=>?_⟩);have rD:r≠D:=λz=>by rw[<- z,hR]at hD;cases hD
  have kn:∀{t:Hp}{c:Qbv}{g:Str->List (Qbo×Str)}{S:Qbo},jh H t c S g->S.Nodup->(c.map (·.1)).Nodup:=λh nd=>by
   rw[h.keys];exact wW.mpr (nd.imp λh e=>h (Qas e))
  refine zQ (bI (R.map V.str)) (λi τ L=>X2 fun(v0:Qbz)(c:Qbv)=>τ=[v0]/\L D=gf c/\jh H L c (R.take i) (λ_=>[])/\ae H L) ⟨none,[],rfl,aA,⟨rfl,λi h=>absurd h (by simp),λi j h=>absurd h (by simp)⟩,ae.upd hD _⟩ (by rintro i τ L _ ⟨_,_,_,_,_,s⟩;exact ao.of (s _ _ hR)) ?_ ?_
  ·rintro i τ L hi ⟨v0,c,rfl,q1,G,q3⟩;have ED:i<R.length:=by simpa using hi
   have eg:(R.map V.str).getD i .aq=.str R[i]:=by rw[Qb,Qq,Qa ED];rfl
   rw[eg];have ql:=G.len;rw[Qaa]at ql;refine⟨rq,λl hl=>⟨c,.inr R[i],rfl,ae.upd hl _ _ _ q1,by lia,_,c++[(.inr R[i],.ref l)],rfl,?_,?_,(q3.trans (ae.upd hl _)).put hD⟩⟩
   ·rw[L2.cO]
    ·exact aA
    ·have xu:R[i]∉R.take i:=λhx=>by
      obtain⟨j,hj,e⟩:=Qi hx;rw[Qaa]at hj;rw[QaG]at e;have:=(QaL Bf).mp e
      lia
     cases ez:a_ c (.inr R[i])with
     |none=>rfl
     |some v=>
      have:=fY ez;rw[G.keys]at this;obtain⟨x,hx,e⟩:=Yy.mp this;rw[Qas e]at hx;exact absurd hx xu
   ·rw[aP R i ED];have s2:=ae.upd hl (.lst []);have jr:H l=none:=q3.free hl;have d2:=s2 _ _ q1;have l2:upd L l (.lst []) l=bh []:=aA;refine((G.same s2).put jr l2 (λj hj z=>?_) rfl).off d2 (λ_ z=>nomatch z) (λ_ _ z=>nomatch z) (λ_ z=>nomatch z);obtain⟨_,l',d_,g2,_,g4,_⟩:=G.at_ j hj (by rw[Qaa];lia)
    rw[g2]at z;rw[V.ref.inj z,hl]at g4;cases g4
  ·rintro τ L ⟨v0,c,rfl,q1,G,q3⟩;rw[Ql,Qo]at G;have kl:=G.len;have Dm:=kn G Bf;refine aM (λp t=>X3 fun(N u y:Qbz)=>p=[aa n,aa r,aa D,N,u,y]/\t D=gf c/\jh H t c R (ju b R)/\ae H t) ?_ ?_
   ·intro nx dz;refine .inl ⟨⟨_,ao.of (q3 _ _ hR)⟩,?_⟩;refine cA (bI (R.map V.str)) (λi p t=>X3 fun(N u y:Qbz)=>p=[aa n,aa r,aa D,N,u,y]/\t D=gf c/\jh H t c R (ju b (R.take i))/\ae H t)
     ⟨none,none,none,rfl,q1,G,q3⟩ (by rintro i p t _ ⟨_,_,_,_,_,_,s⟩;exact ao.of (s _ _ hR)) ?_ ?_
    ·rintro i p H3 hi ⟨N,u,y,rfl,p1,p2,I⟩;have ED:i<R.length:=by simpa using hi
     have eg:(R.map V.str).getD i .aq=.str R[i]:=by rw[Qb,Qq,Qa ED];rfl
     rw[eg];have uc:=Qj ED;have QO:ju b (R.take (i+1))=λe=>ju b (R.take i) e++zm b R[i] e (ak b R[i]):=by
      funext e;unfold ju;rw[xR _ _ i ED]
     rw[QO];generalize R[i]=d at uc QO;have EE:=Dl _ uc;obtain⟨m,om,l1,l2⟩:=look _ EE;have oe:(jm b d).length=(ak b d).length:=by simp[jm]
     refine⟨n,C,dx,fs,.ref d4,rfl,I _ _ en,cl,na "moves" (by simp),e1,d4,.ref m,rfl,l1.same I,m,jm b d,om,rfl,I _ _ l2,?_⟩;refine mQ (λj p t=>X2 fun(u y:Qbz)=>p=[aa n,aa r,aa D,fb d,u,y]/\t D=gf c/\jh H t c R (λe=>ju b (R.take i) e++zm b d e ((ak b d).take j))/\ae H t)
      ⟨u,y,rfl,p1,by simpa[zm]using p2,I⟩ (by rintro j p t _ ⟨_,_,_,_,_,s⟩;exact s _ _ l2) ?_ ?_
     ·rintro j p H4 TT cc hj ⟨w4,w5,rfl,g1,g2,g3⟩ LB rd;have Az:j<(ak b d).length:=by lia
      have eo:(jm b d)[j]=((ak b d)[j].1.map Sum.inr,.str (ak b d)[j].2):=by simp[jm]
      rw[eo]at rd⊢;rw[FI]at rd;have vp:=aP _ j Az;have h_:=Er _ uc _ (Qj Az);rw[vp];have al:=rt.FJ hw EE.1;generalize(ak b d)[j]=mm at rd h_ vp⊢;have jd:=ae.upd LB (.tup [.ref cc,.str mm.2])
      (try dsimp only)
      generalize upd H4 TT (.tup [.ref cc,.str mm.2])=H5 at jd;obtain⟨q,hq,eq⟩:=Qi h_;have Ie:=g2.same jd;obtain⟨k1,l,us,k2,k3,Gb,k5⟩:=Ie.at_ q (by lia) hq
      have gv:a_ c (.inr mm.2)=some (.ref l):=by
       rw[<- k2];refine fA Dm ?_;have:c[q]'(by lia)=(.inr mm.2,(c[q]'(by lia)).2):=by rw[<- eq,<- k1]
       rw[<- this];exact Qj _
      have Dj:=jd _ _ g1;have ag:l≠D:=λz=>by rw[z,Dj]at Gb;cases Gb
      have ah:us.length<sizeLine:=by
       have O:=k5.len;have Y:=mM b (R[q]'hq) 100 (R.take i) λr hr=>by have:=rt.FJ hw (Dl r (Qa5 hr)).1;lia
       have h3:=rK b d (R[q]'hq) ((ak b d).take j);rw[Qk]at O;rw[Qaa]at Y h3;have h4:min i R.length*100<=30*100:=Nat.mul_le_mul_right _ (by lia)
       lia
      have dg:=dc.k (k:=Sum.inr mm.2) Dj;rw[gv]at dg;refine⟨D,.ref l,rfl,dg,.inl ⟨rfl,_,ao.of Gb⟩,kq,λT8 Il=>?_⟩;have jo:=ae.upd Il (.tup [.ref cc,.str d]);have QV:upd H5 T8 (.tup [.ref cc,.str d]) T8=ig [.ref cc,.str d]:=aA
      (try dsimp only)
      generalize upd H5 T8 (.tup [.ref cc,.str d])=H6 at jo QV;refine⟨l,us,.ref T8,rfl,rfl,jo _ _ Gb,ah,_,_,rfl,by rw[aB ag.symm];exact jo _ _ Dj,?_,((g3.trans jd).trans jo).put k3⟩;refine(Ie.same jo).push (q:=(mm.1,d)) Bf (by lia) hq k2 (jo _ _ Gb) QV (rd.same (jd.trans jo)) ?_ ?_
      ·rw[eq];simp[zm]
      ·intro e he;rw[eq]at he;simp[zm,Ne.symm he]
     ·rintro p H4 ⟨w4,w5,rfl,g1,g2,g3⟩;rw[oe,Qo]at g2;exact⟨_,_,_,rfl,g1,g2,g3⟩
    ·rintro p H3 ⟨N,u,y,rfl,p1,p2,I⟩;rw[Ql,Qo]at p2;exact dz _ _ ⟨N,u,y,rfl,p1,p2,I⟩
   ·rintro p H3 ⟨N,u,y,rfl,p1,p2,I⟩;exact k D c H3 hD I p1 p2
inductive LC (mg:Str->Qbr)(vs:Qby)(H:Hp)(Q:VK)(b_:XK):Prop
 |mk (x dx:Addr):vs=[.ref x]->H x=some (.ins (adr mg "Parting") dx [])->(∀(H0 U:Hp)(lm dn lw dw:Addr),(∀b,b≠x->H0 b=H b)->H0 x=none->Sx x H U->jv (adr mg "Parting") H0 U x lm dn lw dw [] [] [] [] []->Q .aq U)->LC mg vs H Q b_
set_option maxHeartbeats 1000000 in
theorem vE(T:Txt K mg w):BC P w K mg base 1 "Parting" (adr mg "Parting") ["self"] (LC mg):=by
 have cl:=T.bC.2.1;have na:=T.bC.2.2.1;refine T.bC.gw lK (λvs H Q E h=>?_) (λf bc A ab s H vs Q E hr h=>?_)
 ·obtain⟨x,dx,rfl,_⟩:=h;rfl
 ·obtain⟨x,dx,rfl,hx,k⟩:=h;have hu:=cW hr;refine⟨_,(aE (kO K (zv 0) (cE aC))
   (aE (kO K (zv 0) mJ)
   (aE (kO K (zv 0) (cE aC))
   (aF (kO K (zv 0) mJ))))),?_⟩
  generalize hC:adr mg "Parting"=C at*;have l:∀{f g:Str}{v:V}{L:Qbw},g≠f->(cj f v L).lookup g=L.lookup g:=fun{f g v L}n=>by rw[bQ,if_neg n]
  have ne:∀{f:Str}{v:V}{L:Qbw},(cj f v L).lookup f=some v:=fun{f v L}=>by rw[bQ,if_pos rfl]
  refine fK ⟨rq,λd Dn=>?_⟩;have D:d≠x:=λz=>by rw[z,hx]at Dn;cases Dn
  refine⟨x,C,dx,[],rfl,by rw[aB D.symm];exact hx,cl,na "members" (by simp),by simp,?_⟩;generalize x_:cj "members" (.ref d) []=t;have a1:upd (upd H d (.lst [])) x (.ins C dx t) d=bh []:=by rw[aB D];exact aA
  have x1:upd (upd H d (.lst [])) x (.ins C dx t) x=some (.ins C dx t):=aA;have s1:Sx x H (upd (upd H d (.lst [])) x (.ins C dx t)):=((ae.upd Dn _).sx).trans Sx.upd;have l1:t.length<=1:=by rw[<- x_];exact bL _ _ []
  generalize upd (upd H d (.lst [])) x (.ins C dx t)=N at a1 x1 s1⊢;refine fK λa R=>?_;have G:a≠x:=λz=>by rw[z,x1]at R;cases R
  have m2:d≠a:=λz=>by rw[<- z,a1]at R;cases R
  refine⟨x,C,dx,t,rfl,by rw[aB G.symm];exact x1,cl,na "number" (by simp),by lia,?_⟩;generalize Im:cj "number" (.ref a) t=p;have a2:upd (upd N a (.dK [])) x (.ins C dx p) d=bh []:=by rw[aB D,aB m2];exact a1
  have b2:upd (upd N a (.dK [])) x (.ins C dx p) a=gf []:=by rw[aB G];exact aA
  have x2:upd (upd N a (.dK [])) x (.ins C dx p) x=some (.ins C dx p):=aA;have s2:Sx x N (upd (upd N a (.dK [])) x (.ins C dx p)):=((ae.upd R _).sx).trans Sx.upd;have l2:p.length<=2:=by rw[<- Im];have:=bL "number" (.ref a) t;lia
  generalize upd (upd N a (.dK [])) x (.ins C dx p)=I at a2 b2 x2 s2⊢;refine fK ⟨rq,λc u=>?_⟩;have n3:c≠x:=λz=>by rw[z,x2]at u;cases u
  have m3:d≠c:=λz=>by rw[<- z,a2]at u;cases u
  have o3:a≠c:=λz=>by rw[<- z,b2]at u;cases u
  refine⟨x,C,dx,p,rfl,by rw[aB n3.symm];exact x2,cl,na "waiting" (by simp),by lia,?_⟩;generalize Gc:cj "waiting" (.ref c) p=q;have a3:upd (upd I c (.lst [])) x (.ins C dx q) d=bh []:=by rw[aB D,aB m3];exact a2
  have b3:upd (upd I c (.lst [])) x (.ins C dx q) a=gf []:=by rw[aB G,aB o3];exact b2
  have c3:upd (upd I c (.lst [])) x (.ins C dx q) c=bh []:=by rw[aB n3];exact aA
  have x3:upd (upd I c (.lst [])) x (.ins C dx q) x=some (.ins C dx q):=aA;have s3:Sx x I (upd (upd I c (.lst [])) x (.ins C dx q)):=((ae.upd u _).sx).trans Sx.upd;have l3:q.length<=3:=by rw[<- Gc];have:=bL "waiting" (.ref c) p;lia
  generalize upd (upd I c (.lst [])) x (.ins C dx q)=H3 at a3 b3 c3 x3 s3⊢;refine oT λy r=>?_;have n4:y≠x:=λz=>by rw[z,x3]at r;cases r
  have m4:d≠y:=λz=>by rw[<- z,a3]at r;cases r
  have o4:a≠y:=λz=>by rw[<- z,b3]at r;cases r
  have q4:c≠y:=λz=>by rw[<- z,c3]at r;cases r
  refine⟨x,C,dx,q,rfl,by rw[aB n4.symm];exact x3,cl,na "waits" (by simp),by lia,?_⟩;generalize Gd:cj "waits" (.ref y) q=f4;have s4:Sx x H3 (upd (upd H3 y (.dK [])) x (.ins C dx f4)):=((ae.upd r _).sx).trans Sx.upd;have sA:=((s1.trans s2).trans s3).trans s4;have fx:∀{b:Addr}{J:Hp},Sx x H J->b≠x->J b=none->H b=none:=fun{b J}sx nb j=>by
   cases e:H b with
   |none=>rfl
   |some o=>rw[sx b o nb e]at j;cases j
  have hd:H a=none:=fx s1 G R;have J0:H c=none:=fx (s1.trans s2) n3 u;have A4:H y=none:=fx ((s1.trans s2).trans s3) n4 r;refine k (λb=>if b=x then none else H b) _ d a c y (λb j=>if_neg j) (if_pos rfl) sA ⟨⟨dx,f4,aA,?_,?_,?_,?_,?_⟩,by rw[aB D,aB m4];exact a3,rfl,λi h=>absurd h (by simp),by rw[aB G,aB o4];exact b3,by rw[aB n3,aB q4];exact c3,by rw[aB n4];exact aA,λk=>by simp[a_],QaX,by simp,?_,λb j=>?_,λb o e=>?_⟩
  ·rw[<- Gd,l (by decide+kernel),<- Gc,l (by decide+kernel),<- Im,l (by decide+kernel),<- x_,ne]
  ·rw[<- Gd,l (by decide+kernel),<- Gc,l (by decide+kernel),<- Im,ne]
  ·rw[<- Gd,l (by decide+kernel),<- Gc,ne]
  ·rw[<- Gd,ne]
  ·intro m hm;have:m≠"waits"/\m≠"waiting"/\m≠"number"/\m≠"members":=by
    have h4:∀m∈(["begin","put_off","take_waiting","part"]:Qbo),m≠"waits"/\m≠"waiting"/\m≠"number"/\m≠"members":=by decide+kernel
    exact h4 m hm
   rw[<- Gd,l this.1,<- Gc,l this.2.1,<- Im,l this.2.2.1,<- x_,l this.2.2.2];rfl
  ·simp only[QR,jK,Qp,QB,or_false,not_or,QaX,and_true,not_false_eq_true];exact⟨⟨D.symm,G.symm,n3.symm,n4.symm⟩,⟨m2,m3,m4⟩,⟨o3,o4⟩,q4⟩
  ·simp only[QR,Qp,QB,or_false]at j;rcases j with rfl|rfl|rfl|rfl|rfl
   ·exact if_pos rfl
   ·rw[if_neg D];exact Dn
   ·rw[if_neg G];exact hd
   ·rw[if_neg n3];exact J0
   ·rw[if_neg n4];exact A4
  ·by_cases j:b=x
   ·rw[if_pos j]at e;cases e
   ·rw[if_neg j]at e;exact sA b o j e
inductive Ge (mg:Str->Qbr)(vs:Qby)(H:Hp)(Q:VK)(b_:XK):Prop
 |mk (H0:Hp) (p lm dn lw dw:Addr) (ms:Qbq) (mem:List Qbo) (kn:Qbv) (wt:Qbs) (kw:Qbv) (j:Nat):vs=[.ref p,eu j]->jv (adr mg "Parting") H0 H p lm dn lw dw ms mem kn wt kw->j∉wt->wt.length<=1000->(∀(j_:Qbv)(U:Hp),jv (adr mg "Parting") H0 U p lm dn lw dw ms mem kn (wt++[j]) j_->(∀b o,b≠lw->b≠dw->H b=some o->U b=some o)->Q .aq U)->Ge mg vs H Q b_
set_option maxHeartbeats 1000000 in
theorem e8(T:Txt K mg w):wo P w K mg base 1 (adr mg "Parting") "put_off" ["self","at"] (Ge mg):=by
 have q:=T.bC.2.1;have r:=T.bC.2.2.1;refine T.aae.gw iW (λu H Q E h=>?_) (λf bc A g s H u Q E x h=>?_)
 ·obtain⟨H0,p,lm,dn,lw,dw,ms,mem,kn,wt,kw,j,rfl,_⟩:=h;rfl
 ·obtain⟨H0,p,lm,dn,lw,dw,ms,mem,kn,wt,kw,j,rfl,pt,hj,hl,k⟩:=h;have y:=cW x;have C:sizeLine=16777216:=QM;obtain⟨dx,fs,f1,f2,f3,f4,f5,f6⟩:=pt.f.ex;refine⟨_,(aE (bR (i8 K QJ QK QL bE (bV K (zv 0)) (aD (zv 1) aC)))
   (aF (qF y (bV K (zv 0)) (zv 1) uB rfl))),?_⟩
  have nd:=pt.nd;simp only[QaR,Qbj,jK,Qp,not_or]at nd;obtain⟨⟨p1,p2,p3,p4,p5⟩,⟨q1,q2,q3,q4⟩,⟨r1,r2,r3⟩,⟨t1,t2⟩,u1,u2⟩:=nd;have kl:=pt.kl;have D:a_ kw (.inl (j:Int))=none:=by
   cases hv:a_ kw (.inl (j:Int))with
   |none=>rfl
   |some v=>exact absurd ((pt.A8 j).mp (by rw[hv];rfl)) hj
  refine aM (λc G=>c=[aa p,some (eu j)]/\G=upd H lw (.lst (wt.map eu++[eu j]))) (λnx I=>⟨p,_,dx,fs,_,rfl,f1,q,r "waiting" (by simp),f4,.inl ⟨rfl,_,ao.of pt.w⟩,lw,_,eu j,rfl,rfl,pt.w,by simp;lia,I _ _ ⟨rfl,rfl⟩⟩) ?_;rintro c H1 ⟨rfl,rfl⟩;have l:jv (adr mg "Parting") H0 (upd (upd H lw (.lst (wt.map eu++[eu j]))) dw (.dK (putK kw (.inl (j:Int)) (.bl true)))) p lm dn lw dw ms mem kn (wt++[j]) (putK kw (.inl (j:Int)) (.bl true)):=by
   have t:∀i(h:i<ms.length),ms[i]≠lw/\ms[i]≠dw:=λi h=>⟨λz=>t2 (by rw[<- z];exact Qj h),λz=>u1 (by rw[<- z];exact Qj h)⟩
   refine⟨⟨dx,fs,by rw[aB p4,aB p3];exact f1,f2,f3,f4,f5,f6⟩,by rw[aB q3,aB q2];exact pt.m,pt.ml,λi a b=>?_,by rw[aB r2,aB r1];exact pt.n,by rw[aB t1,Qm];exact aA,aA,λk=>?_,?_,?_,pt.nd,pt.fr,(pt.sm.put (pt.fr lw (by simp))).put (pt.fr dw (by simp))⟩
   ·obtain⟨kvs,e1,e2⟩:=pt.d i a b;exact⟨kvs,by rw[aB (t i a).2,aB (t i a).1];exact e1,e2⟩
   ·rw[nO,W3,qI,<- pt.A8 k];by_cases hk:k=j
    ·subst hk;simp
    ·rw[if_neg (by intro z;have z:=KI.i.inj (Sum.inl.inj z);lia)];constructor
     ·exact λh=>.inl h
     ·exact λh=>h.elim id λz=>absurd z hk
   ·rw[QaH];exact⟨pt.wn,by simp,λa L b N=>by rw[qI.mp N];exact λz=>hj (by rw[<- z];exact L)⟩
   ·rw[L2.cO _ D];simp;lia
  exact⟨p,_,dx,fs,_,rfl,by rw[aB p3];exact f1,q,r "waits" (by simp),f5,dw,_,rfl,Bu.k (k:=.inl (j:Int)) (by rw[aB (Ne.symm t1)];exact pt.ws) (by lia),k _ _ l λb o R V e=>by rw[aB V,aB R];exact e⟩
inductive LF (mg:Str->Qbr)(vs:Qby)(H:Hp)(Q:VK)(b_:XK):Prop
 |mk (H0:Hp) (p lm dn lw dw:Addr) (ms:Qbq) (mem:List Qbo) (kn:Qbv) (wt:Qbs) (kw:Qbv) (j:Nat):vs=[.ref p]->jv (adr mg "Parting") H0 H p lm dn lw dw ms mem kn (wt++[j]) kw->(∀(j_:Qbv)(U:Hp),jv (adr mg "Parting") H0 U p lm dn lw dw ms mem kn wt j_->(∀b o,b≠lw->b≠dw->H b=some o->U b=some o)->Q (eu j) U)->LF mg vs H Q b_
theorem x5 [DecidableEq κ]{kvs:List (κ×V)}{k a:κ}:a_ (t_ kvs k) a=if a=k then none else a_ kvs a:=by
 unfold a_ t_
 induction kvs with
 |nil=>simp
 |cons q kvs ih=>
  by_cases O:q.1=k
  ·rw[List.filter_cons_of_neg (by simp[O]),ih];by_cases Y:a=k
   ·rw[if_pos Y,if_pos Y]
   ·rw[if_neg Y,if_neg Y,QaB (by simp;rw[O];exact λz=>Y z.symm)]
  ·rw[List.filter_cons_of_pos (by simp[O])];by_cases h3:q.1=a
   ·rw[Qbl (by simp[h3]),Qbl (by simp[h3]),if_neg (by rw[<- h3];exact O)]
   ·rw[QaB (by simp[h3]),QaB (by simp[h3]),ih]
theorem a18 [DecidableEq κ]{kvs:List (κ×V)}{k:κ}(h:(a_ kvs k).isSome=true):(t_ kvs k).length<kvs.length:=by
 unfold t_;rw[List.length_filter_lt_length_iff_exists];rw[jL]at h;obtain⟨q,hq,e⟩:=Yy.mp h;exact⟨q,hq,by simp[e]⟩
set_option maxHeartbeats 1000000 in
theorem fO(T:Txt K mg w):wo P w K mg base 1 (adr mg "Parting") "take_waiting" ["self"] (LF mg):=by
 have r:=T.bC.2.1;have t:=T.bC.2.2.1;refine T.aaf.gw d5 (λx H Q E h=>?_) (λf R A g s H x Q E y h=>?_)
 ·obtain⟨H0,p,lm,dn,lw,dw,ms,mem,kn,wt,kw,j,rfl,_⟩:=h;rfl
 ·obtain⟨H0,p,lm,dn,lw,dw,ms,mem,kn,wt,kw,j,rfl,pt,k⟩:=h;have V:=cW y;have C:sizeLine=16777216:=QM;obtain⟨dx,fs,f1,f2,f3,f4,f5,f6⟩:=pt.f.ex;refine⟨_,(aE (aI 1 d5.nd (Yi K QJ PySem.F.slot_list_pop PySem.F.type_list_pop U4 (bV K (zv 0))))
   (aE (N7 (bV K (zv 0)) (zv 1))
   (aF (bA (zv 1))))),?_⟩
  have nd:=pt.nd;simp only[QaR,Qbj,jK,Qp,not_or]at nd;obtain⟨⟨p1,p2,p3,p4,p5⟩,⟨q1,q2,q3,q4⟩,⟨r1,r2,r3⟩,⟨t1,t2⟩,u1,u2⟩:=nd;have pw:=pt.w;rw[Qm,Qao]at pw;have l:j∉wt:=by
   have:=pt.wn;rw[QaH]at this;exact λz=>this.2.2 j z j (by simp) rfl
  refine aH ⟨p,_,dx,fs,_,rfl,f1,r,t "waiting" (by simp),f4,.inl ⟨rfl,_,ao.of pt.w⟩,lw,_,eu j,rfl,rfl,pw,by simp,?_⟩;rw[List.dropLast_concat]
  (try dsimp only)
  have q:jv (adr mg "Parting") H0 (upd (upd H lw (.lst (wt.map eu))) dw (.dK (t_ kw (.inl (j:Int))))) p lm dn lw dw ms mem kn wt (t_ kw (.inl (j:Int))):=by
   have u:∀i(h:i<ms.length),ms[i]≠lw/\ms[i]≠dw:=λi h=>⟨λz=>t2 (by rw[<- z];exact Qj h),λz=>u1 (by rw[<- z];exact Qj h)⟩
   refine⟨⟨dx,fs,by rw[aB p4,aB p3];exact f1,f2,f3,f4,f5,f6⟩,by rw[aB q3,aB q2];exact pt.m,pt.ml,λi a b=>?_,by rw[aB r2,aB r1];exact pt.n,by rw[aB t1];exact aA,aA,λk=>?_,?_,?_,pt.nd,pt.fr,(pt.sm.put (pt.fr lw (by simp))).put (pt.fr dw (by simp))⟩
   ·obtain⟨kvs,e1,e2⟩:=pt.d i a b;exact⟨kvs,by rw[aB (u i a).2,aB (u i a).1];exact e1,e2⟩
   ·rw[x5];have:=pt.A8 k;rw[W3,qI]at this;by_cases hk:k=j
    ·subst hk;rw[if_pos rfl];exact⟨(λz=>nomatch z),(λz=>absurd z l)⟩
    ·rw[if_neg (by intro z;have z:=KI.i.inj (Sum.inl.inj z);lia),this];exact⟨λz=>z.elim id λz=>absurd z hk,.inl⟩
   ·have:=pt.wn;rw[QaH]at this;exact this.1
   ·have D:=pt.kl;have Y:=a18 (kvs:=kw) (k:=.inl (j:Int)) ((pt.A8 j).mpr (by simp));rw[Qk,QaD]at D
    lia
  refine aM (λc G=>c=[aa p,some (eu j)]/\G=upd (upd H lw (.lst (wt.map eu))) dw (.dK (t_ kw (.inl (j:Int))))) (λnx I=>⟨p,_,dx,fs,_,rfl,by rw[aB p3];exact f1,r,t "waits" (by simp),f5,dw,kw,.inl (j:Int),rfl,by rw[aB (Ne.symm t1)];exact pt.ws,rfl,(pt.A8 j).mpr (by simp),I _ _ ⟨rfl,rfl⟩⟩) ?_;rintro c H1 ⟨rfl,rfl⟩;exact k _ _ q λb o L N e=>by rw[aB N,aB L];exact e
inductive Io (mg:Str->Qbr)(vs:Qby)(H:Hp)(Q:VK)(b_:XK):Prop
 |mk (H0:Hp) (p lm dn lw dw r:Addr) (ms:Qbq) (mem:List Qbo) (kn:Qbv) (wt:Qbs) (kw:Qbv) (rows:Qbo):vs=[.ref p,.ref r]->jv (adr mg "Parting") H0 H p lm dn lw dw ms mem kn wt kw->H r=bh (rows.map V.str)->r≠lm->rows.Nodup->rows.length<=100->mem.length<=1000->kn.length<=1000->(∀(d:Addr)(e_:Qbv)(U:Hp),H d=none->jv (adr mg "Parting") H0 U p lm dn lw dw (ms++[d]) (mem++[rows]) e_ wt kw->(∀x,a_ e_ (.inr x)=if x∈rows then some (eu mem.length)else a_ kn (.inr x))->e_.length<=kn.length+rows.length->((∀x∈rows,(a_ kn (.inr x)).isSome=true)->e_.length=kn.length)->(∀b o,b≠lm->b≠dn->H b=some o->U b=some o)->Q (eu mem.length) U)->Io mg vs H Q b_
theorem a0u [DecidableEq κ]{kvs:List (κ×V)}{k:κ}{v:V}(h:(a_ kvs k).isSome=true):(putK kvs k v).length=kvs.length:=by
 have a:(kvs.any λb=>decide (b.1=k))=true:=by rw[cS];exact h
 unfold putK;rw[if_pos a,Ql]
set_option maxHeartbeats 1000000 in
theorem fM(T:Txt K mg w):wo P w K mg base 1 (adr mg "Parting") "begin" ["self","rows"] (Io mg):=by
 have R:=T.bC.2.1;have na:=T.bC.2.2.1;refine T.aad.gw cQ (λvs H Q E h=>?_) (λf bc A ab s H vs Q E hr h=>?_)
 ·obtain⟨H0,p,lm,dn,lw,dw,r,ms,mem,kn,wt,kw,rows,rfl,_⟩:=h;rfl
 ·obtain⟨H0,p,lm,dn,lw,dw,r,ms,mem,kn,wt,kw,rows,rfl,pt,ni,nr,ia,fr,fm,fk,k⟩:=h;have hu:=cW hr;have am:sizeLine=16777216:=QM;obtain⟨dx,fs,f1,f2,f3,f4,f5,f6⟩:=pt.f.ex;have ml:=pt.ml;refine⟨_,(aE (aI 2 cQ.nd (bO (aQ K) T.ly Qae (jH (bV K (zv 0)) aC)))
   (aE (bR (i8 K QJ QK QL bE (bV K (zv 0)) (rE (u5 (own:=["row"]) (idx:=[]) (N':=["row"]) (d6 cQ) rfl (jX K (zv 1)) (λ_ _ _ _ _ _=>(bF 0)) (λ_ _ _ _ _ _=>g9) (λ_ _ _ _ _ _=>(zv 0)) (λ_ _ _ _ _ _=>uB)) aC)))
   (aE (cR PassesOwn.never rfl (jX K (zv 1)) (bT 3 cQ.nd) (aF (qF hu (bV K (zv 0)) (zv 3) (zv 2) rfl)))
   (aF (bA (zv 2)))))),?_⟩
  have nd:=pt.nd;simp only[QaR,Qbj,jK,Qp,not_or]at nd;obtain⟨⟨p1,p2,p3,p4,p5⟩,⟨q1,q2,q3,q4⟩,⟨r1,r2,r3⟩,⟨t1,t2⟩,u1,u2⟩:=nd;have af:r≠dn:=λz=>by rw[z,pt.n]at ni;cases ni
  refine aH ⟨p,_,dx,fs,_,rfl,f1,R,na "members" (by simp),f2,.inl ⟨_,.inl (ao.of pt.m),?_⟩⟩;rw[Ql,ml]
  (try dsimp only)
  refine aM (λg C=>X3 fun(d:Addr)(u:Hp)(c:Qbv)=>g=[aa p,aa r,some (eu mem.length),none]/\H d=none/\ae H u/\u d=gf c/\c.map (·.1)=rows.map Sum.inr/\C=upd u lm (.lst (ms.map V.ref++[.ref d]))) ?_ ?_
  ·intro nx dz;refine⟨p,_,dx,fs,_,rfl,f1,R,na "members" (by simp),f2,.inl ⟨rfl,_,ao.of pt.m⟩,.inl ⟨⟨_,ao.of ni⟩,λD hD=>?_⟩⟩;refine zQ (bI (rows.map V.str)) (λi N C=>X2 fun(v0:Qbz)(c:Qbv)=>N=[v0]/\C D=gf c/\c.map (·.1)=(rows.take i).map Sum.inr/\ae H C) ⟨none,[],rfl,aA,rfl,ae.upd hD _⟩ (by rintro i N C _ ⟨_,_,_,_,_,s⟩;exact ao.of (s _ _ ni)) ?_ ?_
   ·rintro i N u q ⟨v0,c,rfl,y,g2,G⟩;rw[Ql]at q;have eg:(rows.map V.str).getD i .aq=.str rows[i]:=by rw[Qb,Qq,Qa q];rfl
    rw[eg];have kl:c.length=min i rows.length:=by have:=congrArg List.length g2;simpa using this
    have xu:a_ c (.inr rows[i])=none:=by
     cases hv:a_ c (.inr rows[i])with
     |none=>rfl
     |some v=>
      have:(Sum.inr rows[i]:Key)∈c.map (·.1):=by rw[<- jL,hv];rfl
      rw[g2]at this;obtain⟨x,hx,e⟩:=Yy.mp this;have e:x=rows[i]:=Qas e;subst e;obtain⟨j,hj,ej⟩:=Qi hx;rw[QaG]at ej;have an:j<i:=by simp at hj;lia
      exact absurd ((QaL ia).mp ej) (by lia)
    refine⟨c,.inr rows[i],rfl,y,by lia,_,_,rfl,aA,?_,G.put hD⟩;rw[L2.cO _ xu,Qm,g2,Qs,Qa q,Qm];rfl
   ·rintro N u ⟨v0,c,rfl,y,g2,G⟩;rw[Ql,Qo]at g2;exact⟨lm,_,.ref D,rfl,rfl,G _ _ pt.m,by simp;lia,dz _ _ ⟨D,u,c,rfl,hD,G,y,g2,rfl⟩⟩
  rintro g H2 ⟨d,u,c,rfl,t,s1,e1,e2,rfl⟩;have QW:d≠lm:=λz=>by rw[z,pt.m]at t;cases t
  have QX:d≠dn:=λz=>by rw[z,pt.n]at t;cases t
  have dp:d≠p:=λz=>by rw[z,f1]at t;cases t
  have ag:d≠lw:=λz=>by rw[z,pt.w]at t;cases t
  have ah:d≠dw:=λz=>by rw[z,pt.ws]at t;cases t
  have al:d∉ms:=λz=>by
   obtain⟨i,q,ei⟩:=Qi z;obtain⟨kv,O,_⟩:=pt.d i q (by lia);rw[ei,t]at O;cases O
  have ap:d≠r:=λz=>by rw[z,ni]at t;cases t
  have I:∀b o,b≠lm->H b=some o->upd u lm (.lst (ms.map V.ref++[.ref d])) b=some o:=λb o nb e=>by rw[aB nb];exact s1 _ _ e
  have m1:upd u lm (.lst (ms.map V.ref++[.ref d])) lm=bh ((ms++[d]).map V.ref):=by rw[Qm];exact aA
  have d1:upd u lm (.lst (ms.map V.ref++[.ref d])) d=gf c:=by rw[aB QW];exact e1
  have vn:ae H0 (upd u lm (.lst (ms.map V.ref++[.ref d]))):=(pt.sm.trans s1).put (pt.fr lm (by simp));generalize upd u lm (.lst (ms.map V.ref++[.ref d]))=H2 at I m1 d1 vn;refine aM (λg C=>X2 fun(L:Qbz)(l:Qbv)=>g=[some (.ref p),some (.ref r),some (eu mem.length),L]/\C=upd H2 dn (.dK l)/\(∀x,a_ l (.inr x)=if x∈rows then some (eu mem.length)else a_ kn (.inr x))/\l.length<=kn.length+rows.length/\((∀x∈rows,(a_ kn (.inr x)).isSome=true)->l.length=kn.length)) ?_ ?_
  ·intro nx dz;refine .inl ⟨⟨_,ao.of (I _ _ nr ni)⟩,?_⟩;refine cA (bI (rows.map V.str)) (λi g C=>X2 fun(L:Qbz)(l:Qbv)=>g=[some (.ref p),some (.ref r),some (eu mem.length),L]/\C=upd H2 dn (.dK l)/\(∀x,a_ l (.inr x)=if x∈rows.take i then some (eu mem.length)else a_ kn (.inr x))/\l.length<=kn.length+i/\((∀x∈rows,(a_ kn (.inr x)).isSome=true)->l.length=kn.length))
    ⟨none,kn,rfl,by rw[jF (I _ _ (Ne.symm q1) pt.n)],λx=>by simp,by lia,λ_=>rfl⟩ (by rintro i g C _ ⟨_,_,_,h,_⟩;(rw[h];exact ao.of (by rw[aB af];exact I _ _ nr ni))) ?_ ?_
   ·rintro i g H3 q ⟨L,l,rfl,rfl,y,g2,G⟩;rw[Ql]at q;have eg:(rows.map V.str).getD i .aq=.str rows[i]:=by rw[Qb,Qq,Qa q];rfl
    rw[eg];refine⟨p,_,dx,fs,_,rfl,by rw[aB p2];exact I _ _ p1 f1,R,na "number" (by simp),f3,dn,_,rfl,Bu.k (k:=.inr rows[i]) aA (by lia),_,putK l (.inr rows[i]) (eu mem.length),rfl,by rw[j0],λx=>?_,?_,λhh=>?_⟩
    ·have tk:rows.take (i+1)=rows.take i++[rows[i]]:=lP q;rw[nO,y,tk];by_cases hx:x=rows[i]
     ·subst hx;rw[if_pos rfl,if_pos (W3.mpr (.inr xX))]
     ·rw[if_neg (λz=>hx (Qas z))];by_cases hm:x∈rows.take i
      ·rw[if_pos hm,if_pos (W3.mpr (.inl hm))]
      ·rw[if_neg hm,if_neg λz=>(W3.mp z).elim hm λz=>hx (qI.mp z)]
    ·have:=bW l (.inr rows[i]) (eu mem.length);lia
    ·rw[a0u ?_,G hh];rw[y];split
     ·rfl
     ·exact hh _ (Qj q)
   ·rintro g H3 ⟨L,l,rfl,rfl,y,g2,G⟩;rw[Ql]at y g2;rw[Qo]at y;exact dz _ _ ⟨L,l,rfl,rfl,y,g2,G⟩
  rintro g H3 ⟨L,l,rfl,rfl,y,g2,G⟩;have B6:∀i(h:i<ms.length),ms[i]≠lm/\ms[i]≠dn:=λi h=>⟨λz=>q4 (by rw[<- z];exact Qj h),λz=>r3 (by rw[<- z];exact Qj h)⟩
  refine k d l _ t ⟨⟨dx,fs,by rw[aB p2];exact I _ _ p1 f1,f2,f3,f4,f5,f6⟩,by rw[aB q1];exact m1,by simp[ml],λi a b=>?_,aA,by rw[aB (Ne.symm r1)];exact I _ _ (Ne.symm q2) pt.w,by rw[aB (Ne.symm r2)];exact I _ _ (Ne.symm q3) pt.ws,pt.A8,pt.wn,pt.kl,?_,λb hb=>?_,vn.put (pt.fr dn (by simp))⟩ y g2 G λb o Gf Av e=>by rw[aB Av];exact I _ _ Gf e
  ·by_cases q:i<ms.length
   ·rw[Qe q,Qe (by lia)];obtain⟨kv,O,Y⟩:=pt.d i q (by lia);exact⟨kv,by rw[aB (B6 i q).2];exact I _ _ (B6 i q).1 O,Y⟩
   ·have ja:i=ms.length:=by simp at a;lia
    subst ja;rw[Qf (Qz _),Qf (by lia)];simp only[Qar,ml,uI];exact⟨c,by rw[aB QX];exact d1,e2⟩
  ·rw[<- QQ,QaH];refine⟨pt.nd,by simp,λa ha b hb=>?_⟩;rw[qI.mp hb];rintro rfl;simp only[QaR,Qbj,Qp]at ha;rcases ha with z|z|z|z|z|z
   ·exact dp z
   ·exact QW z
   ·exact QX z
   ·exact ag z
   ·exact ah z
   ·exact al z
  ·rw[<- QQ]at hb;rcases W3.mp hb with hb|hb
   ·exact pt.fr b hb
   ·rw[qI.mp hb];exact pt.sm.free t
inductive LG (mg:Str->Qbr)(vs:Qby)(H:Hp)(Q:VK)(b_:XK):Prop
 |mk (H0:Hp) (p lm dn lw dw r:Addr) (ms:Qbq) (mem:List Qbo) (kn:Qbv) (wt:Qbs) (kw:Qbv) (x0:Str) (rs:Qbo) (j:Nat) (l:Qbo):vs=[.ref p,.ref r]->jv (adr mg "Parting") H0 H p lm dn lw dw ms mem kn wt kw->H r=bh ((x0::rs).map V.str)->r≠lm->r≠lw->(x0::rs).Nodup->(x0::rs).length<=100->mem.length<=900->kn.length<=900->wt.length<=900->a_ kn (.inr x0)=some (eu j)->mem[j]? =some l->l.Nodup->(∀x∈x0::rs,x∈l)->(∀x∈x0::rs,(a_ kn (.inr x)).isSome=true)->(∀i∈wt,i<mem.length)->((x0::rs).length=l.length->Q .aq H)->(∀(d:Addr)(e_:Qbv)(ee:Qbs)(j_:Qbv)(U:Hp),(x0::rs).length≠l.length->H d=none->jv (adr mg "Parting") H0 U p lm dn lw dw (ms++[d]) (mem.set j (ou (x0::rs) l)++[x0::rs]) e_ ee j_->(∀x,a_ e_ (.inr x)=if x∈x0::rs then some (eu mem.length)else a_ kn (.inr x))->e_.length=kn.length->(∀i∈wt,i∈ee)->(j∈wt->mem.length∈ee)->(mem.length∈ee\/j∈ee)->ee.length=wt.length+1->(∀i∈ee,i∈wt\/i=mem.length\/i=j)->(∀b o,b∉[lm,dn,lw,dw]++ms->H b=some o->U b=some o)->Q .aq U)->LG mg vs H Q b_
set_option maxHeartbeats 2000000 in
theorem lI(T:Txt K mg w):wo P w K mg base 2 (adr mg "Parting") "part" ["self","rows"] (LG mg):=by
 have dP:wo P w K mg base 1 (adr mg "Parting") "begin" ["self","rows"] (Io mg):=fM T;have cK:wo P w K mg base 1 (adr mg "Parting") "put_off" ["self","at"] (Ge mg):=e8 T;have cl:=T.bC.2.1;have zw:=cl;have na:=T.bC.2.2.1;refine T.aag.gw cB (λvs H Q E h=>?_) (λf bc A ab s H vs Q E hr h=>?_)
 ·obtain⟨H0,p,lm,dn,lw,dw,r,ms,mem,kn,wt,kw,x0,rs,j,l,rfl,_⟩:=h;rfl
 ·obtain⟨H0,p,lm,dn,lw,dw,r,ms,mem,kn,wt,kw,x0,rs,j,l,rfl,pt,ni,QY,nrw,ia,fr,fm,fk,fw,Pf,hj,ndl,h_,Ip,LH,kA,kB⟩:=h;obtain⟨hu,iu,hsz⟩:=dF hr;obtain⟨dx,fs,f1,f2,f3,f4,f5,f6⟩:=pt.f.ex;have ml:=pt.ml;obtain⟨Ep,ejl⟩:=u6.mp hj;refine⟨_,(aE (aI 2 cB.nd (aY hu (bV K (zv 0)) (aV K (zv 1) aJ)))
   (aE (aI 3 cB.nd (aV K (bV K (zv 0)) (zv 2)))
   (aE (eX (aU (iO iu) (bO (aQ K) T.ly Qae (aD (zv 1) aC)) (bO (aQ K) T.ly Qae (aD (zv 3) aC))) (aF YE) cJ)
   (aE (cR PassesOwn.never rfl (jX K (zv 1)) (bT 4 cB.nd) (aF (N7 (zv 3) (zv 4))))
   (aE (aI 5 cB.nd (jW dP zw (hr.mono (by decide)) (zv 0) (aD (zv 1) aC)))
   (aF (eX (Wn (aU (WU hu) (zv 2) (bV K (zv 0)) rfl) (Wl (aU VY (bO (aQ K) T.ly Qae (aD (zv 1) aC)) (bO (aQ K) T.ly Qae (aD (zv 3) aC))))).pt (aF (bR (jW cK zw (hr.mono (by decide)) (zv 0) (aD (zv 5) aC)))) (aF (bR (jW cK zw (hr.mono (by decide)) (zv 0) (aD (zv 2) aC))))))))))),?_⟩
  have nd:=pt.nd;simp only[QaR,Qbj,jK,Qp,not_or]at nd;obtain⟨⟨p1,p2,p3,p4,p5⟩,⟨q1,q2,q3,q4⟩,⟨r1,r2,r3⟩,⟨t1,t2⟩,u1,u2⟩:=nd;obtain⟨kvs,g1,g2⟩:=pt.d j (by lia) Ep;rw[ejl]at g2;generalize hS:ms[j]'(by lia)=S at g1;have Bg:S∈ms:=by rw[<- hS];exact Qj _
  have C:p≠S/\lm≠S/\dn≠S/\lw≠S/\dw≠S/\r≠S:=⟨λz=>p5 (by rw[z];exact Bg),λz=>q4 (by rw[z];exact Bg),λz=>r3 (by rw[z];exact Bg),λz=>t2 (by rw[z];exact Bg),λz=>u1 (by rw[z];exact Bg),λz=>by rw[z,g1]at ni;cases ni⟩
  have QZ:kvs.length=l.length:=by have:=congrArg List.length g2;simpa using this
  refine aH ⟨p,_,dx,fs,_,rfl,f1,cl,na "number" (by simp),f3,_,_,.inl (ao.of ni),aO _ _,dn,_,rfl,by have:=dc.k (k:=.inr x0) pt.n;rw[Pf]at this;exact this,?_⟩
  (try dsimp only)
  have yc:(ms.map V.ref)[j]? =aa S:=by rw[Qq,Qa (by lia),hS];rfl
  refine aH ⟨p,_,dx,fs,_,rfl,f1,cl,na "members" (by simp),f2,_,_,.inl (ao.of pt.m),fF yc,?_⟩
  (try dsimp only)
  refine aM (λt L=>(x0::rs).length≠l.length/\t=[aa p,aa r,some (eu j),aa S,none,none]/\L=H) ?_ ?_
  ·intro nx dz;refine .inl ⟨_,.inl (ao.of ni),.inr ⟨kvs,.inl g1,rfl,_,rfl,?_⟩⟩;refine YB (λc=>?_) (λc=>dz _ _ ⟨λz=>c ?_,rfl,rfl⟩)
   ·have c:((((x0::rs).map V.str).length:Nat):Int)=(kvs.length:Nat):=c;rw[Ql,QZ]at c;exact kA (by exact_mod_cast c)
   ·show((((x0::rs).map V.str).length:Nat):Int)=(kvs.length:Nat);rw[Ql,QZ,z]
  rintro t y ⟨jk,rfl,rfl⟩;refine aM (λt L=>X2 fun(G:Qbz)(g:Qbv)=>t=[aa p,aa r,some (eu j),aa S,G,none]/\L=upd y S (.dK g)/\g.map (·.1)=(ou (x0::rs) l).map Sum.inr) ?_ ?_
  ·intro nx dz;refine .inl ⟨⟨_,ao.of ni⟩,?_⟩;refine cA (bI ((x0::rs).map V.str)) (λi t L=>X2 fun(G:Qbz)(g:Qbv)=>t=[aa p,aa r,some (eu j),aa S,G,none]/\L=upd y S (.dK g)/\g.map (·.1)=(ou ((x0::rs).take i) l).map Sum.inr)
    ⟨none,kvs,rfl,by rw[jF g1],by rw[g2];congr 1;unfold ou;exact(List.filter_eq_self.mpr λx _=>by simp).symm⟩ (by rintro i t L _ ⟨_,_,_,h,_⟩;(rw[h];exact ao.of (by rw[aB C.2.2.2.2.2];exact ni))) ?_ ?_
   ·rintro i t H2 u ⟨G,g,rfl,rfl,N⟩;rw[Ql]at u;have eg:((x0::rs).map V.str).getD i .aq=.str (x0::rs)[i]:=by rw[Qb,Qq,Qa u];rfl
    rw[eg];have hm:=h_ _ (Qj u);have af:(x0::rs)[i]∉(x0::rs).take i:=λz=>by
     obtain⟨q,hq,eq⟩:=Qi z;rw[QaG]at eq;have oq:q<i:=by simp at hq;lia
     exact absurd ((QaL ia).mp eq) (by lia)
    have tk:(x0::rs).take (i+1)=(x0::rs).take i++[(x0::rs)[i]]:=lP u;have hs:(a_ g (.inr (x0::rs)[i])).isSome=true:=by
     rw[jL,N];exact Yy.mpr ⟨_,Qad.mpr ⟨hm,by simpa using af⟩,rfl⟩
    generalize(x0::rs)[i]=x at tk hs;refine⟨S,g,.inr x,rfl,aA,rfl,hs,_,t_ g (.inr x),rfl,by rw[j0],?_⟩;rw[wU N,tk,uX]
   ·rintro t H2 ⟨G,g,rfl,rfl,N⟩;rw[Ql,Qo]at N;exact dz _ _ ⟨G,g,rfl,rfl,N⟩
  rintro t H2 ⟨G,g,rfl,rfl,N⟩;have ap:g.length=(ou (x0::rs) l).length:=by have:=congrArg List.length N;simpa using this
  have Iq:jv (adr mg "Parting") H0 (upd y S (.dK g)) p lm dn lw dw ms (mem.set j (ou (x0::rs) l)) kn wt kw:=by
   refine⟨⟨dx,fs,by rw[aB C.1];exact f1,f2,f3,f4,f5,f6⟩,by rw[aB C.2.1];exact pt.m,by simp[ml],λi a b=>?_,by rw[aB C.2.2.1];exact pt.n,by rw[aB C.2.2.2.1];exact pt.w,by rw[aB C.2.2.2.2.1];exact pt.ws,pt.A8,pt.wn,pt.kl,pt.nd,pt.fr,pt.sm.put (pt.fr S (by simp[Bg]))⟩;rw[QaZ]at b;by_cases u:i=j
   ·subst u;rw[hS,List.getElem_set_self];exact⟨g,aA,N⟩
   ·rw[List.getElem_set_ne (Ne.symm u)];obtain⟨kv,O,Y⟩:=pt.d i a b;have:ms[i]≠S:=λz=>by
     rw[<- hS]at z;exact u ((QaL u2).mp z)
    exact⟨kv,by rw[aB this];exact O,Y⟩
  have Gg:upd y S (.dK g) r=bh ((x0::rs).map V.str):=by rw[aB C.2.2.2.2.2];exact ni
  have Jx:∀b o,b≠S->y b=some o->upd y S (.dK g) b=some o:=λb o nb e=>by rw[aB nb];exact e
  have LI:upd y S (.dK g) S=gf g:=aA;have dS:∀d,upd y S (.dK g) d=none->y d=none:=λd R=>by
   by_cases LJ:d=S
   ·rw[LJ,aA]at R;cases R
   ·rw[aB LJ]at R;exact R
  generalize upd y S (.dK g)=H2 at Iq Gg Jx LI dS;have ag:(mem.set j (ou (x0::rs) l)).length=mem.length:=by simp
  obtain⟨dx2,fs2,O,Y,h3,h4,h5,h6⟩:=Iq.f.ex;refine aH ⟨p,dx2,fs2,rfl,O,h6 "begin" (by simp),H0,p,lm,dn,lw,dw,r,ms,_,kn,wt,kw,x0::rs,rfl,Iq,Gg,QY,ia,fr,by lia,by lia,λd e_ H3 R Ir k1 k2 k3 k4=>?_⟩;rw[ag]at k1⊢;have k3:=k3 Ip;have LJ:d≠S:=λz=>by rw[z,LI]at R;cases R
  obtain⟨Iu,jn,i1,i2,i3,i4,i5,i6⟩:=Ir.f.ex;have ah:H3 r=bh ((x0::rs).map V.str):=k4 _ _ QY (λz=>by rw[z,Iq.n]at Gg;cases Gg) Gg;have al:H3 S=gf g:=k4 _ _ C.2.1.symm C.2.2.1.symm LI;have am:∀(I:Qbs)(j_:Qbv)(H4:Hp),jv (adr mg "Parting") H0 H4 p lm dn lw dw (ms++[d]) (mem.set j (ou (x0::rs) l)++[x0::rs]) e_ I j_->(∀b o,b≠lw->b≠dw->H3 b=some o->H4 b=some o)->(∀i∈wt,i∈I)->(j∈wt->mem.length∈I)->(mem.length∈I\/j∈I)->I.length=wt.length+1->(∀i∈I,i∈wt\/i=mem.length\/i=j)->Q .aq H4:=λI j_ H4 LK Fi w1 w2 w3 w4 w5=>by
   refine kB d e_ I j_ H4 jk (dS d R) LK k1 k3 w1 w2 w3 w4 w5 λb o nb e=>?_;simp only[QaR,Qbj,Qp,not_or]at nb;obtain⟨b1,b2,b3,b4,b5⟩:=nb;exact Fi b o b3 b4 (k4 b o b1 b2 (Jx b o (λz=>b5 (by rw[z];exact Bg)) e))
  have K_:mem.length∉wt:=λz=>absurd (LH _ z) (by lia);have put:∀(i:Nat),(i=mem.length\/(i=j/\j∉wt))->(j∈wt->i=mem.length)->∀{D:Ends},D.nx=(λ_ L=>Q .aq L)->∀{te:TE},(∀Qv,(Qv:VK) (eu i) H3->te [aa p,aa r,some (eu j),aa S,G,some (eu mem.length)] H3 Qv)->GD (E6 (adr mg "Parting") "put_off" (Ge mg) [] E0 (tV 0) (kc te qf)) D [aa p,aa r,some (eu j),aa S,G,some (eu mem.length)] H3:=by
   intro i u vc D hD te an;refine⟨p,Iu,jn,rfl,i1,i6 "put_off" (by simp),an _ ⟨H0,p,lm,dn,lw,dw,ms++[d],_,e_,wt,kw,i,rfl,Ir,?_,by lia,λj_ H4 LK Fi=>?_⟩⟩
   ·rcases u with rfl|⟨rfl,h⟩
    ·exact K_
    ·exact h
   ·rw[hD];refine am _ j_ H4 LK Fi (λi u=>W3.mpr (.inl u)) (λh=>W3.mpr (.inr (by simp[vc h]))) ?_ (by simp) (λi' ja=>?_)
    ·rcases u with rfl|⟨rfl,h⟩
     ·exact .inl (by simp)
     ·exact .inr (by simp)
    ·rcases W3.mp ja with z|z
     ·exact .inl z
     ·rw[qI.mp z];rcases u with rfl|⟨rfl,h⟩
      ·exact .inr (.inl rfl)
      ·exact .inr (.inr rfl)
  refine⟨p,_,Iu,jn,_,rfl,i1,cl,na "waits" (by simp),i5,dw,_,rfl,dc.k (k:=.inl (j:Int)) Ir.ws,_,rfl,?_⟩;refine jq (λc=>?_) (λc=>?_)
  ·exact put mem.length (.inl rfl) (λ_=>rfl) rfl (λQv h=>h)
  ·have Q2:j∉wt:=λz=>by
    rw[(Ir.A8 j).mpr z]at c;cases c
   refine .inl ⟨_,.inl (ao.of ah),.inr ⟨g,.inl al,_,rfl,?_⟩⟩;refine jq (λc2=>?_) (λc2=>?_)
   ·exact put mem.length (.inl rfl) (λ_=>rfl) rfl (λQv h=>h)
   ·exact put j (.inr ⟨rfl,Q2⟩) (λz=>absurd z Q2) rfl (λQv h=>h)
inductive LL (mg:Str->Qbr)(vs:Qby)(H:Hp)(Q:VK)(b_:XK):Prop
 |mk (H0 Hs:Hp) (p lm dn lw dw D:Addr) (ms:Qbq) (mem:List Qbo) (kn:Qbv) (wt:Qbs) (kw kvs:Qbv) (at_:Nat) (W:Qbo) (rows:List aj) (R:Qbo) (J:Str->Nat):vs=[.ref p,.ref D,eu at_]->uh (adr mg "Parting") H0 H p lm dn lw dw R J wt ms mem kn kw->mem[at_]? =some W->H D=gf kvs->D∉ms->jh Hs H kvs R (ju rows R)->C5 rows R->vg rows R J wt W []->(∀(di:Str->Nat)(ee:Qbs)(xh:Qbq)(mem':List Qbo)(e_ j_:Qbv)(U:Hp),uh (adr mg "Parting") H0 U p lm dn lw dw R di ee xh mem' e_ j_->A7 rows R di ee->ow lm dn lw dw ms xh H U->ee.length+mem.length=wt.length+mem'.length->mem.length<=mem'.length->Q .aq U)->LL mg vs H Q b_
set_option maxHeartbeats 2000000 in
theorem uD(T:Txt K mg w):bq P w K mg base 3 "part_by" ["parting","sources","at"] (LL mg):=by
 have mU:wo P w K mg base 2 (adr mg "Parting") "part" ["self","rows"] (LG mg):=lI T;have cl:=T.bC.2.1;have zw:=cl;have na:=T.bC.2.2.1;refine T.xG.gw bZ ?_ ?_
 ·rintro _ _ _ _ ⟨H0,Hs,p,lm,dn,lw,dw,D,ms,ah,kn,wt,kw,ag,at_,W,g,R,J,rfl,_⟩;rfl
 ·rintro f bc A an s H vs Q E hr ⟨H0,Hs,p,lm,dn,lw,dw,D,ms,ah,kn,wt,kw,ag,at_,W,g,R,J,rfl,z0,yc,hD,nD,al,lo,pp,k⟩;obtain⟨hu,iu,hsz⟩:=dF hr;have QN:=lo.few;obtain⟨dx,fs,f1,f2,f3,f4,f5,f6⟩:=z0.s.f.ex;have ml:=z0.s.ml;obtain⟨hal,eal⟩:=u6.mp yc;obtain⟨wN,wne⟩:=z0.n.nd _ _ yc;have wR:∀x∈W,x∈R:=λx I=>((z0.n.mm _ _ yc x).mp I).1;have bo:W.length<=R.length:=bY wN wR;refine⟨_,(aE (aI 3 bZ.nd YG)
   (aE (cR PassesOwn.never rfl (wI (aV K (bV K (zv 0)) (zv 2))) (bT 4 bZ.nd) (aF (cR PassesOwn.never rfl (jX K (aY hu (zv 1) (zv 4))) (cT K (n:=2) rfl (aK (bT 5 bZ.nd) (aK (bT 6 bZ.nd) bS))) (aF (bR (i8 K QJ QK QL bE (y8 hu (zv 3) (zv 5) (cE aC) ⟨rfl,rfl,rfl,rfl⟩) (aD (zv 6) aC)))))))
   (aF (cR PassesOwn.never rfl (tF (mT (Y4 H (zv 3)))) (bT 7 bZ.nd) (aE (aI 8 bZ.nd mJ)
   (aE (cR PassesOwn.never rfl (jX K (zv 7)) (bT 6 bZ.nd) (aF (bR (i8 K QJ QK QL bE (oW (zv 8) (aY hu (bV K (zv 0)) (zv 6)) (cE aC) ⟨rfl,rfl,rfl,rfl⟩) (aD (zv 6) aC)))))
   (aF (cR PassesOwn.never rfl (Yd (mT (zv 8))) (bT 9 bZ.nd) (aF (bR (jW mU zw (hr.mono (by decide)) (zv 0) (aD (zv 9) aC)))))))))))),?_⟩
  obtain⟨kS,g1,g2⟩:=z0.s.d at_ (by lia) hal
  rw[eal]at g2;generalize hS:ms[at_]'(by lia)=S at g1;have Bg:S∈ms:=by rw[<- hS];exact Qj _
  have HX:D≠S:=λz=>nD (by rw[z];exact Bg);have ap:kS.length=W.length:=by have:=congrArg List.length g2;simpa using this
  have Kz:(ms.map V.ref)[at_]? =aa S:=by rw[Qq,Qa (by lia),hS];rfl
  refine aH λF hF=>?_;have LM:F≠S:=λz=>by rw[z,g1]at hF;cases hF
  have sF:=ae.upd hF (.dT []);have gF:upd H F (.dT []) F=some (.dT []):=aA;have gN:∀b,b≠F->H b=none->upd H F (.dT []) b=none:=λb n e=>by rw[aB n];exact e
  (try dsimp only)
  generalize upd H F (.dT [])=Ha at sF gF gN
  let fk:Qbo->List Key:=λs=>s.map Sum.inr
  have ar:∀a b,fk a=fk b->a=b:=λa b e=>(List.map_inj_right (λx y h=>Qas h)).mp e;refine aM (λr t=>X5 fun(v4 v5 v6:Qbz)(o:Obj)(C:Qbu)=>r=[aa p,aa D,some (eu at_),aa F,v4,v5,v6,none,none,none]/\t S=some (.af o (.dK kS))/\t F=some (.dT C)/\ji fk H t C (k_ (lg g R W))/\∀b u,b≠S->H b=some u->t b=some u) ?_ ?_
  ·intro nx dz;refine⟨p,_,dx,fs,_,rfl,sF _ _ f1,cl,na "members" (by simp),f2,_,_,.inl (ao.of (sF _ _ z0.s.m)),fF Kz,S,kS,rfl,.inl (sF _ _ g1),λo=>?_⟩;have Q3:jh Hs (upd Ha S (.af o (.dK kS))) ag R (ju g R):=(al.same sF).off (sF _ _ g1) (λ_ z=>nomatch z) (λ_ _ z=>nomatch z) (λ_ z=>nomatch z);have b1:upd Ha S (.af o (.dK kS)) S=some (.af o (.dK kS)):=aA;have b2:upd Ha S (.af o (.dK kS)) F=some (.dT []):=by rw[aB LM];exact gF
   have b3:upd Ha S (.af o (.dK kS)) D=gf ag:=by rw[aB HX];exact sF _ _ hD
   have b4:∀b u,b≠S->H b=some u->upd Ha S (.af o (.dK kS)) b=some u:=λb u n e=>by rw[aB n];exact sF _ _ e
   have b5:∀b,upd Ha S (.af o (.dK kS)) b=none->H b=none:=λb e=>by
    by_cases n:b=S
    ·rw[n,b1]at e;cases e
    ·rw[aB n]at e;exact sF.free e
   have b6:∀b,b≠F->H b=none->upd Ha S (.af o (.dK kS)) b=none:=λb n e=>by
    rw[aB λz=>by rw[z,g1]at e;cases e];exact gN b n e
   generalize upd Ha S (.af o (.dK kS))=Hb at Q3 b1 b2 b3 b4 b5 b6;have nl:∀{l:Addr}{xs:Qby}{t:Hp}{C:Qbu},t F=some (.dT C)->t S=some (.af o (.dK kS))->t l=bh xs->l≠F/\l≠S:=λO Y h3=>⟨(λz=>by rw[z,O]at h3;cases h3),(λz=>by rw[z,Y]at h3;cases h3)⟩
   have bp:W.length<=30:=by lia
   refine cA (tD kS) (λi r t=>X4 fun(v4 v5 v6:Qbz)(C:Qbu)=>r=[aa p,aa D,some (eu at_),aa F,v4,v5,v6,none,none,none]/\t S=some (.af o (.dK kS))/\t F=some (.dT C)/\ji fk H t C (k_ (lg g R (W.take i)))/\∀b u,b≠F->Hb b=some u->t b=some u)
    ⟨none,none,none,[],rfl,b1,b2,ji.nil,λb u _ e=>e⟩ (by rintro i r t _ ⟨_,_,_,_,_,h,_⟩;exact h) ?_ ?_
   ·rintro i r t hi ⟨v4,v5,v6,C,rfl,c1,c2,c3,c4⟩;have LN:i<W.length:=by lia
    have ek:jg kS i=.str W[i]:=by
     unfold jg;rw[Qa hi];have:(kS.map (·.1))[i]'(by simpa using hi)=(W.map Sum.inr)[i]'(by simpa using LN):=by simp only[g2]
     rw[Qr,Qr]at this;show kV kS[i].1=_;rw[this];rfl
    rw[ek];have eW:=aP W i LN;have Q4:=wR _ (Qj LN);have f_:=oU lo (W.take (i+1));have be:(W.take (i+1)).length<=30:=by rw[Qaa];lia
    rw[eW]at f_⊢;generalize W[i]=x at eW Q4 f_;have as:∀U:Qbo,lg g R (U++[x])=lg g R U++ju g R x:=λU=>by unfold lg;rw[List.flatMap_append];simp
    rw[as]at f_⊢;have f_:(lg g R (W.take i)++ju g R x).length<=30*3000:=Qag f_ (Nat.mul_le_mul_right _ (by rw[<- eW];exact be));obtain⟨q,hq,eq⟩:=Qi Q4;have sl:=al.len;obtain⟨k1,l,us,k2,_,k4,k5⟩:=Q3.at_ q (by lia) hq
    rw[eq]at k5;have aw:(ag.map (·.1)).Nodup:=by
     rw[al.keys];exact wW.mpr (lo.nd.imp λh e=>h (Qas e))
    have gv:a_ ag (.inr x)=some (.ref l):=by
     rw[<- k2];refine fA aw ?_;have:ag[q]'(by lia)=(.inr x,(ag[q]'(by lia)).2):=by rw[<- eq,<- k1]
     rw[<- this];exact Qj _
    have ax:D≠F:=λz=>by rw[z,b2]at b3;cases b3
    have dg:=dc.k (k:=Sum.inr x) (c4 _ _ ax b3);rw[gv]at dg;have EF:l≠F:=λz=>by rw[z,b2]at k4;cases k4
    refine⟨D,.ref l,rfl,dg,.inl ⟨⟨_,ao.of (c4 _ _ EF k4)⟩,?_⟩⟩;have ul:=k5.len;refine cA (bI us) (λj r t=>X3 fun(v5 v6:Qbz)(C:Qbu)=>r=[aa p,aa D,some (eu at_),aa F,fb x,v5,v6,none,none,none]/\t S=some (.af o (.dK kS))/\t F=some (.dT C)/\ji fk H t C (k_ (lg g R (W.take i)++(ju g R x).take j))/\∀b u,b≠F->Hb b=some u->t b=some u)
     ⟨v5,v6,C,rfl,c1,c2,by simpa using c3,c4⟩ (by rintro j r t _ ⟨_,_,_,_,_,_,_,h⟩;exact ao.of (h _ _ EF k4)) ?_ ?_
    ·rintro j r H5 hj ⟨w5,w6,C,rfl,d1,d2,d3,d4⟩;have LO:j<(ju g R x).length:=by lia
     obtain⟨c,b,e1,e2,e3⟩:=k5.at_ j hj LO
     have eg:us.getD j .aq=.ref c:=cV hj e1;rw[eg];have es:=aP _ j LO;have yd:(lg g R (W.take i)++(ju g R x).take j).length<=30*3000:=by rw[Qk,Qaa]at*;lia
     rw[es,<- QQ,lZ];generalize FZ:lg g R (W.take i)++(ju g R x).take j=ps at d3 yd;generalize(ju g R x)[j]=sa at e2 e3;have a5:c≠F:=λz=>by rw[z,b2]at e2;cases e2
     have gi:=A9 ps;have a6:=d4 _ _ a5 e2;have Iv:cf H5 b (sa.1.map V.str):=by
      rcases e3 with e|⟨u,e⟩
      ·exact .inl (d4 _ _ (λz=>by rw[z,b2]at e;cases e) e)
      ·exact .inr ⟨u,d4 _ _ (λz=>by rw[z,b2]at e;cases e) e⟩
     have f0:∀l,H5 l=none->H l=none:=λl e=>by
      cases el:H l with
      |none=>rfl
      |some u=>
       have n1:l≠S:=λz=>by rw[z,d1]at e;cases e
       have n2:l≠F:=λz=>by rw[z,d2]at e;cases e
       rw[d4 l u n2 (b4 l u n1 el)]at e;cases e
     have Q5:C.length<=30*3000:=by rw[d3.len];exact Qag gi.len yd
     refine⟨c,[.ref b,.str sa.2],rfl,ay.of a6,rfl,_,_,rfl,_,_,rfl,rfl,F,rfl,.inr ⟨C,.inl d2⟩,rq,λl hl=>?_⟩;have s6:=ae.upd hl (.lst []);have l6:upd H5 l (.lst []) l=bh []:=aA;have n6:∀b,b≠l->H5 b=none->upd H5 l (.lst []) b=none:=λb n e=>by rw[aB n];exact e
     (try dsimp only)
     generalize upd H5 l (.lst [])=H6 at s6 l6 n6;have EF:l≠F:=λz=>by rw[z,d2]at hl;cases hl
     have a7:l≠S:=λz=>by rw[z,d1]at hl;cases hl
     refine⟨C,fk sa.1,b,s6 _ _ d2,rfl,by rw[FI];exact Iv.same s6,by lia,λv hv=>?_,λhv=>?_⟩
     ·obtain⟨l',xs,rfl,O,Y,⟨q,hq,rfl⟩,h3⟩:=(d3.keep λl xs _ e=>s6 _ _ e).old ar gi.nd hv sa.2;obtain⟨m1,m2⟩:=nl (s6 _ _ d2) (s6 _ _ d1) Y;have:=gi.lens hq;refine⟨.inl ⟨rfl,_,ao.of Y⟩,l',_,_,rfl,rfl,Y,by rw[Ql];lia,_,_,C,rfl,by rw[aB m2.symm];exact s6 _ _ d1,by rw[aB m1.symm];exact s6 _ _ d2,h3,λb' u n e=>?_⟩;rw[aB λz=>by rw[z,b6 l' m1 O]at e;cases e];exact s6 _ _ (d4 b' u n e)
     ·have l7:upd H6 F (.dT (C++[(fk sa.1,.ref l)])) l=bh []:=by rw[aB EF];exact l6
      refine⟨.inl ⟨rfl,_,ao.of l7⟩,l,_,_,rfl,rfl,l7,by simp;lia,_,_,C++[(fk sa.1,.ref l)],rfl,?_,?_,?_,λb' u n e=>?_⟩
      ·rw[aB a7.symm,aB LM.symm];exact s6 _ _ d1
      ·rw[aB EF.symm,aA]
      ·refine d3.new hv sa.2 (f0 l hl) hl aA λl' xs _ e=>?_;rw[aB (λz=>by rw[z,hl]at e;cases e),aB (nl d2 d1 e).1];exact s6 _ _ e
      ·rw[aB (λz=>by rw[z,b6 l EF (f0 l hl)]at e;cases e),aB n];exact s6 _ _ (d4 b' u n e)
    ·rintro r H5 ⟨w5,w6,C,rfl,d1,d2,d3,d4⟩;rw[ul,Qo]at d3;exact⟨_,_,_,C,rfl,d1,d2,d3,d4⟩
   ·rintro r t ⟨v4,v5,v6,C,rfl,c1,c2,c3,c4⟩;rw[ap,Qo]at c3;exact dz _ _ ⟨v4,v5,v6,o,C,rfl,c1,c2,c3,λb u n e=>c4 b u (λz=>by rw[z,hF]at e;cases e) (b4 b u n e)⟩
  rintro r H1 ⟨v4,v5,v6,o,C,rfl,a1,a2,a3,a4⟩;have sT:ae H (upd H1 S (.dK kS)):=λb u e=>by
   by_cases n:b=S
   ·subst n;rw[aA,<- g1];exact e
   ·rw[aB n];exact a4 b u n e
  have t2:upd H1 S (.dK kS) F=some (.dT C):=by rw[aB LM];exact a2
  have t3:ji fk H (upd H1 S (.dK kS)) C (k_ (lg g R W)):=a3.keep λl xs _ e=>by
   rw[aB λz=>by rw[z,a1]at e;cases e];exact e
  refine⟨S,o,kS,a1,(λo u=>by rw[g1];exact λz=>nomatch z),F,rfl,.inr ⟨C,.inl t2,λoF=>⟨F,C,oF,rfl,aA,?_⟩⟩⟩;have sU:ae H (upd (upd H1 S (.dK kS)) F (.af oF (.dT C))):=sT.put hF;have uF:upd (upd H1 S (.dK kS)) F (.af oF (.dT C)) F=some (.af oF (.dT C)):=aA;have uG:ji fk H (upd (upd H1 S (.dK kS)) F (.af oF (.dT C))) C (k_ (lg g R W)):=t3.keep λl xs _ e=>by
   rw[aB λz=>by rw[z,t2]at e;cases e];exact e
  generalize upd (upd H1 S (.dK kS)) F (.af oF (.dT C))=H2 at sU uF uG;have gi:=A9 (lg g R W);generalize hL:k_ (lg g R W)=L at uG gi;have led:∀q∈L,q.2.Nodup/\q.2.length<=R.length/\∀x,x∈q.2↔x∈R/\q.1∈stH (ai g x)/\dl g x q.1∈W:=λq hq=>lo.led wN (by rw[hL];exact hq);have Q5:=uG.len;have z2:=z0.same sU;have Iw:∀{l:Addr},H l=none->l≠lm/\l≠lw:=λe=>⟨(λz=>by rw[z,z0.s.m]at e;cases e),(λz=>by rw[z,z0.s.w]at e;cases e)⟩
  have a8:F∉[lm,dn,lw,dw]++ms:=z2.s.off uF (λ_ z=>nomatch z) (Iw hF).1 (Iw hF).2;refine cA (oY C) (λi r t=>KZ fun(v6 v7 v8 v9:Qbz)(di:Str->Nat)(ee:Qbs)(xh:Qbq)(ab:List Qbo)(e_ j_:Qbv)=>r=[aa p,aa D,some (eu at_),aa F,v4,v5,v6,v7,v8,v9]/\uh (adr mg "Parting") H0 t p lm dn lw dw R di ee xh ab e_ j_/\vg g R di ee W ((L.take i).map (·.1))/\ow lm dn lw dw ms xh H2 t/\ee.length+ah.length=wt.length+ab.length/\ah.length<=ab.length)
   ⟨v6,none,none,none,J,wt,ms,ah,kn,kw,rfl,z2,pp,ow.same (ae.refl _),rfl,Qz _⟩ (by rintro i r t _ ⟨_,_,_,_,_,_,_,_,_,_,_,_,_,fr,_⟩;exact fr.kp _ _ a8 uF) ?_ ?_
  ·rintro i r H3 hi ⟨v6,v7,v8,v9,di,ee,xh,ab,e_,j_,rfl,z3,p3,yw,cn,mo⟩;have BQ:i<L.length:=by lia
   obtain⟨_,lr,e1,e2,e3⟩:=uG.at_ i hi BQ
   have ev:BK C i=.ref lr:=by unfold BK;rw[Qa hi,Qa0,e1];rfl
   rw[ev];have e4:=yw.kp _ _ (z2.s.off e3 (λ_ z=>nomatch z) (Iw e2).1 (Iw e2).2) e3;have a9:=aP L i BQ;obtain⟨rn,rl,rm⟩:=led _ (Qj BQ);rw[a9,Qm,Qao];generalize L[i]=q at e4 rn rl rm;obtain⟨s,rs⟩:=q
   (try dsimp only at e4 rn rl rm)
   obtain⟨Iu,jn,i1,i2,i3,i4,i5,i6⟩:=z3.s.f.ex;have Q6:∀x∈rs,x∈R:=λx I=>((rm x).mp I).1
   let fn:Nat->Key:=λn=>Sum.inl (n:Int)
   have ba:∀a b,fn a=fn b->a=b:=λa b e=>Int.ofNat.inj (KI.i.inj (Sum.inl.inj e));refine aH λB hB=>?_;have sB:=ae.upd hB (.dK []);have gB:upd H3 B (.dK []) B=gf []:=aA
   (try dsimp only)
   generalize upd H3 B (.dK [])=H4 at sB gB;refine aM (λr t=>X2 fun(v6:Qbz)(N:Qbv)=>r=[aa p,aa D,some (eu at_),aa F,v4,v5,v6,aa lr,aa B,v9]/\t B=gf N/\ji fn H3 t N (k_ (rs.map λa=>(di a,a)))/\ae H3 t) ?_ ?_
   ·intro nx dz;refine .inl ⟨⟨_,ao.of (sB _ _ e4)⟩,?_⟩;refine cA (bI (rs.map V.str)) (λj r t=>X2 fun(v6:Qbz)(N:Qbv)=>r=[aa p,aa D,some (eu at_),aa F,v4,v5,v6,aa lr,aa B,v9]/\t B=gf N/\ji fn H3 t N (k_ ((rs.take j).map λa=>(di a,a)))/\ae H3 t)
     ⟨v6,[],rfl,gB,ji.nil,sB⟩ (by rintro j r t _ ⟨_,_,_,_,_,s⟩;exact ao.of (s _ _ e4)) ?_ ?_
    ·rintro j r H5 hj ⟨w6,N,rfl,d1,d2,d3⟩;rw[Ql]at hj;have eg:(rs.map V.str).getD j .aq=.str rs[j]:=by rw[Qb,Qq,Qa hj];rfl
     rw[eg,aP rs j hj,Qm,Qao,lZ];have Gh:=Q6 _ (Qj hj);generalize rs[j]=x at Gh;have Bh:=A9 ((rs.take j).map λa=>(di a,a));have jz:((rs.take j).map λa=>(di a,a)).length<=30:=by rw[Ql,Qaa];lia
     generalize(rs.take j).map (λa=>(di a,a))=ps at d2 Bh jz;have Q7:N.length<=30:=by rw[d2.len];exact Qag Bh.len jz
     have dg:=dc.k (k:=.inr x) z3.s.n;rw[z3.v x Gh]at dg;refine⟨B,rfl,.inl ⟨N,.inl d1⟩,p,_,Iu,jn,_,rfl,d3 _ _ i1,cl,na "number" (by simp),i3,dn,_,rfl,dg.same d3,rq,λl hl=>?_⟩;have s6:=ae.upd hl (.lst []);have l6:upd H5 l (.lst []) l=bh []:=aA
     (try dsimp only)
     generalize upd H5 l (.lst [])=H6 at s6 l6;have Q8:l≠B:=λz=>by rw[z,d1]at hl;cases hl
     refine⟨N,fn (di x),s6 _ _ d1,rfl,by lia,λv hv=>?_,λhv=>?_⟩
     ·obtain⟨l',xs,rfl,O,Y,⟨q,hq,rfl⟩,h3⟩:=(d2.keep λl xs _ e=>s6 _ _ e).old ba Bh.nd hv x;have m1:l'≠B:=λz=>by rw[z,s6 _ _ d1]at Y;cases Y
      have:=Bh.lens hq;exact⟨.inl ⟨rfl,_,ao.of Y⟩,l',_,_,rfl,rfl,Y,by rw[Ql];lia,_,N,rfl,by rw[aB m1.symm];exact s6 _ _ d1,h3,(d3.trans s6).put O⟩
     ·have l7:upd H6 B (.dK (N++[(fn (di x),.ref l)])) l=bh []:=by rw[aB Q8];exact l6
      refine⟨.inl ⟨rfl,_,ao.of l7⟩,l,_,_,rfl,rfl,l7,by simp;lia,_,N++[(fn (di x),.ref l)],rfl,?_,?_,((d3.trans s6).put hB).put (d3.free hl)⟩
      ·rw[aB Q8.symm,aA]
      ·refine d2.new hv x (d3.free hl) hl aA λl' xs _ e=>?_;rw[aB (λz=>by rw[z,hl]at e;cases e),aB (λz=>by rw[z,d1]at e;cases e)];exact s6 _ _ e
    ·rintro r H5 ⟨w6,N,rfl,d1,d2,d3⟩;rw[Ql,Qo]at d2;exact dz _ _ ⟨w6,N,rfl,d1,d2,d3⟩
   rintro r H5 ⟨w6,N,rfl,d1,d2,d3⟩;refine⟨B,rfl,.inl ⟨N,.inl d1,λoB=>⟨B,N,rfl,.inl ⟨oB,aA,?_⟩⟩⟩⟩;have s5:ae H3 (upd H5 B (.af oB (.dK N))):=d3.put hB;have u1:upd H5 B (.af oB (.dK N)) B=some (.af oB (.dK N)):=aA;have u2:ji fn H3 (upd H5 B (.af oB (.dK N))) N (k_ (rs.map λa=>(di a,a))):=d2.keep λl xs _ e=>by
    rw[aB λz=>by rw[z,d1]at e;cases e];exact e
   generalize upd H5 B (.af oB (.dK N))=H6 at s5 u1 u2;have Bh:=A9 (rs.map λa=>(di a,a));have gn:∀q∈k_ (rs.map λa=>(di a,a)),q.2.Nodup/\q.2.length<=rs.length/\∀x,x∈q.2↔x∈rs/\di x=q.1:=λq hq=>Y_ rn di hq;generalize k_ (rs.map λa=>(di a,a))=G at u2 Bh gn;have Q7:=u2.len;have z6:=z3.same s5;have EG:∀{l:Addr},H3 l=none->l≠lm/\l≠lw:=λe=>⟨(λz=>by rw[z,z3.s.m]at e;cases e),(λz=>by rw[z,z3.s.w]at e;cases e)⟩
   have bb:B∉[lm,dn,lw,dw]++xh:=z6.s.off u1 (λ_ z=>nomatch z) (EG hB).1 (EG hB).2;refine cA (Yb N) (λj r t=>X7 fun(v9:Qbz)(Bj:Str->Nat)(B7:Qbs)(wu:Qbq)(ym:List Qbo)(EH B8:Qbv)=>r=[aa p,aa D,some (eu at_),aa F,v4,v5,w6,aa lr,aa B,v9]/\uh (adr mg "Parting") H0 t p lm dn lw dw R Bj B7 wu ym EH B8/\vg g R Bj B7 W ((L.take i).map (·.1))/\ug R rs di Bj ((G.take j).map (·.1))/\ow lm dn lw dw xh wu H6 t/\B7.length+ah.length=wt.length+ym.length/\ah.length<=ym.length)
    ⟨v9,di,ee,xh,ab,e_,j_,rfl,z6,p3,ug.nil,ow.same (ae.refl _),cn,mo⟩ (by rintro j r t _ ⟨_,_,_,_,_,_,_,_,_,_,_,fr,_⟩;exact fr.kp _ _ bb u1) ?_ ?_
   ·rintro j r H7 hj ⟨y9,Bj,B7,wu,ym,EH,B8,rfl,z7,p7,tc,EI,LP,LQ⟩;have Gi:j<G.length:=by lia
    obtain⟨_,la,r1,r2,r3⟩:=u2.at_ j hj Gi
    have ev:valAt N j=.ref la:=by unfold valAt;rw[Qa hj,Qa0,r1];rfl
    rw[ev];have r4:=EI.kp _ _ (z6.s.off r3 (λ_ z=>nomatch z) (EG r2).1 (EG r2).2) r3;have bd:=aP G j Gi;obtain⟨mn,Q9,mm⟩:=gn _ (Qj Gi);have Iz:=Bh.ne (Qj Gi);have Dm:G[j].1∉(G.take j).map (·.1):=λhm=>by
     obtain⟨q,hq,e⟩:=Yy.mp hm;obtain⟨j',ve,rfl⟩:=Qi hq;have bs:j'<j:=by simp at ve;lia
     rw[QaG]at e;have:(G.map (·.1))[j']'(by simp;lia)=(G.map (·.1))[j]'(by simpa using Gi):=by rw[Qr,Qr];exact e
     exact absurd ((QaL Bh.nd).mp this) (by lia)
    rw[bd,Qm,Qao];generalize G[j]=q at r4 mn Q9 mm Iz Dm;obtain⟨kk,many⟩:=q
    (try dsimp only at r4 mn Q9 mm Iz Dm⊢)
    have EJ:∀x∈many,x∈R/\di x=kk:=λx I=>⟨Q6 x ((mm x).mp I).1,((mm x).mp I).2⟩
    obtain⟨x0,rest,rfl⟩:=List.exists_cons_of_ne_nil Iz;obtain⟨LU,x0k⟩:=EJ x0 (by simp);have am:∀x∈R,(Bj x=kk↔di x=kk):=λx I=>tc.at_ Dm LU x0k I
    have IA:∀x∈x0::rest,Bj x=kk:=λx I=>(am x (EJ x I).1).mpr (EJ x I).2;have FW:kk<ym.length:=by rw[<- IA x0 (by simp)];exact z7.n.lt x0 LU
    have Gj:ym[kk]? =some ym[kk]:=Qa FW;generalize ym[kk]=l2 at Gj;obtain⟨l2n,_⟩:=z7.n.nd _ _ Gj;have Q_:=z7.n.mm _ _ Gj;have h_:∀x∈x0::rest,x∈l2:=λx I=>(Q_ x).mpr ⟨(EJ x I).1,IA x I⟩;obtain⟨Gk,Gm,j1,j2,j3,j4,j5,j6⟩:=z7.s.f.ex;have bt:=z7.n.few;have bv:=z7.wb;have bw:ow lm dn lw dw ms wu H2 H7:=yw.trans ((ow.same s5).trans EI);refine⟨p,Gk,Gm,rfl,j1,j6 "part" (by simp),H0,p,lm,dn,lw,dw,la,wu,ym,EH,B7,B8,x0,rest,kk,l2,rfl,z7.s,r4,(EG r2).1,(EG r2).2,mn,by lia,by lia,z7.kl,by lia,by rw[z7.v x0 LU,IA x0 (by simp)],Gj,l2n,h_,λx I=>by rw[z7.v x (EJ x I).1];rfl,z7.wl,λb7=>?_,λd bf bi bj H8 jk hd Ra bk bl w1 w2 w3 w4 w5 kp=>?_⟩
    ·refine⟨_,Bj,B7,wu,ym,EH,B8,rfl,z7,p7,tc.keep Dm λx I e=>?_,EI,LP,LQ⟩;have bm:x∈l2:=(Q_ x).mpr ⟨I,(am x I).mpr e⟩;refine((mm x).mp (Qa3 λn=>?_)).1;have:(x::x0::rest).length<=l2.length:=bY (jK.mpr ⟨n,mn⟩) λy hy=>by
      rcases Qp.mp hy with h|h
      ·rw[h];exact bm
      ·exact h_ y h
     rw[Qaf]at this
     lia
    ·have z8:=z7.split Gj h_ mn Iz jk Ra bk bl w5;have bn:ow lm dn lw dw wu (wu++[d]) H7 H8:=ow.of Ra rfl hd kp;refine⟨_,_,bi,_,_,bf,bj,rfl,z8,?_,tc.split Dm mm λx I=>yT (z7.n.lt x I),EI.trans bn,by simp only[Qk,QaZ,QaD];lia,by simp only[Qk,QaZ,QaD];lia⟩;exact p7.split (k:=kk) (λx I=>⟨(EJ x I).1,IA x I⟩) (p7.cl tc mm rm lo.rc) (λx I=>yT (z7.n.lt x I)) lo.rc w1 w2 w3
   ·rintro r H7 ⟨y9,Bj,B7,wu,ym,EH,B8,rfl,z7,p7,tc,EI,LP,LQ⟩;rw[Q7,Qo]at tc;refine⟨_,_,_,_,Bj,B7,wu,ym,EH,B8,rfl,z7,p7.next λa ha b hb e hs=>?_,yw.trans ((ow.same s5).trans EI),LP,LQ⟩;have jw:s∈stH (ai g b):=by rw[<- show stH (ai g a)=stH (ai g b)from(p7.me a ha b hb e).2];exact hs
    have:=tc.fin (λx I=>(Bh.ks _).mpr (Yy.mpr ⟨(di x,x),Yy.mpr ⟨x,I,rfl⟩,rfl⟩)) ha hb e;rw[rm,rm]at this;exact⟨λh=>(this.mp ⟨ha,hs,h⟩).2.2,λh=>(this.mpr ⟨hb,jw,h⟩).2.2⟩
  ·rintro r H3 ⟨v6,v7,v8,v9,di,ee,xh,ab,e_,j_,rfl,z3,p3,yw,cn,mo⟩;rw[Q5,Qo]at p3;refine k di ee xh ab e_ j_ H3 z3 (p3.fin λa ha s hs hd=>?_) ((ow.same sU).trans yw) cn mo;exact(gi.ks s).mpr (Yy.mpr ⟨(s,a),(jU lo).mpr ⟨ha,hs,hd⟩,rfl⟩)
inductive LV (mg:Str->Qbr)(vs:Qby)(H:Hp)(Q:VK)(b_:XK):Prop
 |mk (n r a:Addr) (xs:Qby) (rows:List aj) (ns ws R:Qbo):vs=[.ref n,.ref r]->An H (adr mg "Net") n rows->RT H a xs rows ns ws->(∀z∈ws,Wd z)->H r=bh (R.map V.str)->R.Nodup->(∀e∈R,gj rows ns e)->(∀e∈R,∀m∈ak rows e,m.2∈R)->(∀(D:Addr)(kn:Qbv)(J:Str->Nat)(U:Hp),ae H U->U D=some (.dK kn)->(∀x∈R,a_ kn (.inr x)=some (eu (J x)))->(∀a∈R,∀b∈R,J a=J b↔bu rows rows (a,b))->Q (.ref D) U)->LV mg vs H Q b_
set_option maxHeartbeats 2000000 in
theorem kI(T:Txt K mg w):bq P w K mg base 4 "class_numbers" ["net","rows"] (LV mg):=by
 have dP:wo P w K mg base 1 (adr mg "Parting") "begin" ["self","rows"] (Io mg):=fM T;have cK:wo P w K mg base 1 (adr mg "Parting") "put_off" ["self","at"] (Ge mg):=e8 T;have fX:wo P w K mg base 1 (adr mg "Parting") "take_waiting" ["self"] (LF mg):=fO T;have zw:=T.bC.2.1;have Rb:=T.bC.2.2.1;have cl:=T.wz.2.1;have na:=T.wz.2.2.1;refine T.lG.gw bM ?_ ?_
 ·rintro _ _ _ _ ⟨n,r,a,xs,g,ns,ws,R,rfl,_⟩;rfl
 ·rintro f bc A ah s H vs Q E hr ⟨n,r,a,xs,g,ns,ws,R,rfl,xg,rt,hw,hR,Bf,Dl,Er,k⟩;have hu:=cW hr;have iu:=Qy (cW hr);have LW:=qC hr;have al:=Nat.lt_of_le_of_lt (Nat.add_le_add_left (by decide:10<=20) _) LW;have ba:sizeLine=16777216:=QM;have lo:=rt.Za hw Bf Dl Er;have QN:=lo.few;obtain⟨nx,LX,d1,d3,d4,y0,y1,y2,y3,y4,y5,y6,y7⟩:=(xg.Oe (K:=K) (rt.CW hw)).at_
  refine⟨_,(aE (aI 2 bM.nd (Yu (vE T) (hr.mono (by decide))))
   (aE (aI 3 bM.nd (YI P w))
   (aE (cR PassesOwn.never rfl (jX K (zv 1)) (bT 4 bM.nd) (aF (bR (i8 K QJ QK QL bE (yM P w al (zv 3) (aY hu (bV K (zv 0)) (zv 4)) (cE aC) ⟨rfl,rfl,rfl,rfl⟩) (aD (zv 4) aC)))))
   (aE (cR PassesOwn.never rfl (YR P w (YO P w (zv 3))) (bT 5 bM.nd) (aF (bR (jW cK zw (hr.mono (by decide)) (zv 2) (aS (jW dP zw (hr.mono (by decide)) (zv 2) (aD (zv 5) aC)) aC)))))
   (aE (aI 6 bM.nd (aT (oI T) hr (aD (zv 0) (aD (zv 1) aC))))
   (aE (hZ PassesOwn.never (Yk K (bV K (zv 2))) (aF (bR (aT (uD T) hr (aD (zv 2) (aD (zv 6) (aS (Yt fX zw (hr.mono (by decide)) (zv 2)) aC)))))))
   (aF (bA (bV K (zv 2)))))))))),?_⟩
  refine aH λp dx hp am ne=>?_;refine⟨p,dx,rfl,aA,λH0 H2 lm dn lw dw q1 q2 sx pt=>⟨rfl,?_⟩⟩;have LY:ae H H0:=λb o e=>by
   have nb:b≠p:=λz=>by rw[z,hp]at e;cases e
   have Av:b≠dx:=λz=>by rw[z,am]at e;cases e
   rw[q1 b nb,aB nb,aB Av];exact e
  clear q1 q2 sx
  (try dsimp only)
  refine aH λM hM=>?_;have sM:=ae.upd hM (iq P w M []);have gM:upd H2 M (iq P w M []) M=some (iq P w M []):=aA
  (try dsimp only)
  generalize upd H2 M (iq P w M [])=H3 at sM gM;have LZ:ae H H2:=LY.trans pt.sm
  let fk:ue->List (Tv×V):=λxs=>xs.map λx=>(x.1,V.ref x.2.2)
  have an:∀xs:ue,(fk xs).map (·.1)=xs.map (·.1):=λxs=>by simp[fk,Qn,QC]
  refine aM (λt I=>X2 fun(v4:Qbz)(y:ue)=>t=[aa n,aa r,aa p,aa M,v4,none,none]/\I M=some (iq P w M y)/\ji (λd:Tv=>d) H2 I (fk y) (k_ (R.map λa=>(gm (ai g a),a)))/\ae H2 I) ?_ ?_
  ·intro C_ dz;refine .inl ⟨⟨_,ao.of (sM _ _ (LZ _ _ hR))⟩,?_⟩;refine cA (bI (R.map V.str)) (λj t I=>X2 fun(v4:Qbz)(y:ue)=>t=[aa n,aa r,aa p,aa M,v4,none,none]/\I M=some (iq P w M y)/\(∀p∈y,∃h,p.1=gm h/\CY H p.2.1 h)/\ji (λd:Tv=>d) H2 I (fk y) (k_ ((R.take j).map λa=>(gm (ai g a),a)))/\ae H2 I)
    ⟨none,[],rfl,gM,(λ_ h=>nomatch h),ji.nil,sM⟩ (by rintro j t I _ ⟨_,_,_,_,_,_,s⟩;exact ao.of (s _ _ (LZ _ _ hR))) ?_ ?_
   ·rintro j t H5 hj ⟨w4,y,rfl,e1,e2,e3,e4⟩;rw[Ql]at hj;have eg:(R.map V.str).getD j .aq=.str R[j]:=by rw[Qb,Qq,Qa hj];rfl
    rw[eg,aP R j hj,Qm,Qao,lZ];have Gh:=Qj hj;generalize R[j]=x at Gh;have gi:=A9 ((R.take j).map λa=>(gm (ai g a),a));have jz:((R.take j).map λa=>(gm (ai g a),a)).length<=30:=by rw[Ql,Qaa];lia
    generalize(R.take j).map (λa=>(gm (ai g a),a))=ps at e3 gi jz;have L3:y.length<=30:=by have O:=e3.len;rw[Ql]at O;rw[O];exact Qag gi.len jz
    obtain⟨b,z1,z2⟩:=y5 x (Dl x Gh);have Gn:=LZ.trans e4;have ap:Eh P w H5 M y:=⟨e1,λq hq=>by
     obtain⟨h,z3,z4⟩:=e2 q hq;rw[z3];exact(z4.same Gn).td⟩
    refine⟨M,rfl,⟨y,ap⟩,n,_,nx,LX,_,rfl,Gn _ _ y0,cl,na "marks" (by simp),y2,d3,_,rfl,z1.same Gn,rq,λl hl=>?_⟩;have s6:=ae.upd hl (.lst []);have l6:upd H5 l (.lst []) l=bh []:=aA
    (try dsimp only)
    generalize upd H5 l (.lst [])=H6 at s6 l6;have Rc:l≠M:=λz=>by rw[z,e1]at hl;cases hl
    have ar:Eh P w H6 M y:=⟨s6 _ _ e1,λq hq=>by
     obtain⟨h,z3,z4⟩:=e2 q hq;rw[z3];exact(z4.same (Gn.trans s6)).td⟩
    have as:((fk y).map (·.1)).Nodup:=by
     rw[e3.keys];exact gi.nd
    refine⟨y,gm (ai g x),b,l,ar,rfl,rfl,(z2.same (Gn.trans s6)).td,by lia,λq hq eq=>?_,λhv=>?_⟩
    ·have hv:a_ (fk y) (gm (ai g x))=some (.ref q.2.2):=fA as (by rw[<- eq];exact Yy.mpr ⟨q,hq,rfl⟩);obtain⟨l',us,ev,O,Y,⟨q',s_,rfl⟩,h3⟩:=(e3.keep λl xs _ e=>s6 _ _ e).old (f:=λd:Tv=>d) (λ_ _ z=>z) gi.nd hv x;have m1:l'≠M:=λz=>by rw[z,s6 _ _ e1]at Y;cases Y
     have:=gi.lens s_;rw[ev];exact⟨.inl ⟨rfl,_,ao.of Y⟩,l',_,_,rfl,rfl,Y,by rw[Ql];lia,_,y,rfl,by rw[aB m1.symm];exact s6 _ _ e1,e2,h3,(e4.trans s6).put O⟩
    ·have Ji:a_ (fk y) (gm (ai g x))=none:=by
      cases hz:a_ (fk y) (gm (ai g x))with
      |none=>rfl
      |some u=>exact absurd (by rw[<- an];exact fY hz) hv
     have l7:upd H6 M (iq P w M (y++[(gm (ai g x),b,l)])) l=bh []:=by rw[aB Rc];exact l6
     refine⟨.inl ⟨rfl,_,ao.of l7⟩,l,_,_,rfl,rfl,l7,by simp;lia,_,y++[(gm (ai g x),b,l)],rfl,?_,λq hq=>?_,?_,((e4.trans s6).put hM).put (e4.free hl)⟩
     ·rw[aB Rc.symm,aA]
     ·rcases W3.mp hq with hq|hq
      ·exact e2 q hq
      ·rw[qI.mp hq];exact⟨_,rfl,z2⟩
     ·have ef:fk (y++[(gm (ai g x),b,l)])=fk y++[(gm (ai g x),.ref l)]:=by simp[fk]
      rw[ef];refine e3.new Ji x (e4.free hl) hl aA λl' xs _ e=>?_;rw[aB (λz=>by rw[z,hl]at e;cases e),aB (λz=>by rw[z,e1]at e;cases e)];exact s6 _ _ e
   ·rintro t H5 ⟨w4,y,rfl,e1,e2,e3,e4⟩;rw[Ql,Qo]at e3;exact dz _ _ ⟨w4,y,rfl,e1,e3,e4⟩
  rintro t H5 ⟨w4,y,rfl,e1,e3,e4⟩;have gi:=A9 (R.map λa=>(gm (ai g a),a));have gq:∀q∈k_ (R.map λa=>(gm (ai g a),a)),q.2.Nodup/\q.2.length<=R.length/\∀x,x∈q.2↔x∈R/\gm (ai g x)=q.1:=λq hq=>Zb Bf hq;generalize k_ (R.map λa=>(gm (ai g a),a))=L at e3 gi gq;have Ll:L.length<=30:=by have:=gi.len;rw[Ql]at this;lia
  have L3:y.length=L.length:=by have:=e3.len;rwa [Ql]at this
  refine aM (λt I=>X4 fun(v5:Qbz)(G:Qbq)(N kw:Qbv)=>t=[aa n,aa r,aa p,aa M,w4,v5,none]/\uh (adr mg "Parting") H0 I p lm dn lw dw R (As g L) (List.range L.length) G (L.map (·.2)) N kw) ?_ ?_
  ·intro C_ dz;refine⟨M,y,rfl,e1,λo=>⟨M,y,o,rfl,aA,?_⟩⟩;have s5:ae H2 (upd H5 M (.af o (iq P w M y))):=e4.put hM;have u1:upd H5 M (.af o (iq P w M y)) M=some (.af o (iq P w M y)):=aA;have u2:ji (λd:Tv=>d) H2 (upd H5 M (.af o (iq P w M y))) (fk y) L:=e3.keep λl xs _ e=>by
    rw[aB λz=>by rw[z,e1]at e;cases e];exact e
   generalize upd H5 M (.af o (iq P w M y))=H6 at s5 u1 u2;have ab:∀{b:Addr},H2 b=none->b∉[lm,dn,lw,dw]:=fun{b}e z=>by
    simp only[Qp,QB,or_false]at z;rcases z with z|z|z|z
    ·rw[z,pt.m]at e;cases e
    ·rw[z,pt.n]at e;cases e
    ·rw[z,pt.w]at e;cases e
    ·rw[z,pt.ws]at e;cases e
   refine cA (xB y) (λj t I=>X4 fun(v5:Qbz)(G:Qbq)(N kw:Qbv)=>t=[some (.ref n),some (.ref r),some (.ref p),some (.ref M),w4,v5,none]/\jv (adr mg "Parting") H0 I p lm dn lw dw G ((L.take j).map (·.2)) N (List.range j) kw/\N.length<=30*j/\(∀i(hi:i<L.length),i<j->∀x∈L[i].2,a_ N (.inr x)=some (eu i))/\∀b o,b∉[lm,dn,lw,dw]->H6 b=some o->I b=some o)
    ⟨none,[],[],[],rfl,pt.same s5,by simp,(λi hi h=>absurd h (by lia)),λb o _ e=>e⟩ (by rintro j t I _ ⟨_,_,_,_,_,_,_,_,fr⟩;exact fr _ _ (ab hM) u1) ?_ ?_
   ·rintro j t H7 hj ⟨v5,G,N,kw,rfl,p7,c7,n7,f7⟩;have IB:j<L.length:=by lia
    have aw:j<(fk y).length:=by simp[fk];lia
    obtain⟨_,la,r1,r2,r3⟩:=u2.at_ j aw IB
    have ev:Ei y j=.ref la:=by
     unfold Ei;rw[Qa hj];rw[<- r1];simp[fk]
    rw[ev];have L4:=ab r2;have r4:=f7 _ _ L4 r3;obtain⟨mn,ml,mm⟩:=gq _ (Qj IB);obtain⟨Gk,Gm,j1,j2,j3,j4,j5,j6⟩:=p7.f.ex;simp only[Qp,QB,or_false,not_or]at L4;have ax:((L.take j).map (·.2)).length=j:=by rw[Ql,Qaa];lia
    refine⟨p,Gk,Gm,rfl,j1,j6 "put_off" (by simp),p,Gk,Gm,rfl,j1,j6 "begin" (by simp),H0,p,lm,dn,lw,dw,la,G,_,N,List.range j,kw,L[j].2,rfl,p7,r4,L4.1,mn,by lia,by lia,by lia,λd Rf H8 hd p8 v8 l8 _ f8=>?_⟩;rw[ax]at v8⊢;refine⟨H0,p,lm,dn,lw,dw,_,_,Rf,List.range j,kw,j,rfl,p8,by simp,by simp;lia,λa1 H9 p9 f9=>⟨aa la,G++[d],Rf,a1,rfl,?_,by lia,λi hi vc x hx=>?_,λb o nb e=>?_⟩⟩
    ·rw[aP L j IB,Qm,Qao,List.range_succ];exact p9
    ·rw[v8 x];by_cases Rg:i=j
     ·subst Rg;rw[if_pos hx]
     ·rw[if_neg λhz=>?_]
      ·exact n7 i hi (by lia) x hx
      ·have k1:=((gq _ (Qj hi)).2.2 x).mp hx;have k2:=(mm x).mp hz;exact Rg ((lR gi hi k1.2).symm.trans (lR gi IB k2.2))
    ·have Gp:=nb;simp only[Qp,QB,or_false,not_or]at Gp;exact f9 b o Gp.2.2.1 Gp.2.2.2 (f8 b o Gp.1 Gp.2.1 (f7 b o nb e))
   ·rintro t H7 ⟨v5,G,N,kw,rfl,p7,c7,n7,f7⟩;rw[L3,Qo]at p7;rw[L3]at c7 n7;refine dz _ _ ⟨v5,G,N,kw,rfl,p7,yK Bf gi gq,λx hx=>?_,by lia,λi hi=>by rw[Ql];exact Qaw.mp hi⟩;obtain⟨O,Y⟩:=hU gi hx;exact n7 _ O O x (((gq _ (Qj O)).2.2 x).mpr ⟨hx,Y⟩)
  rintro t H7 ⟨v5,G,N,kw,rfl,z7⟩;have L5:=wZ gi lo.rc;have Rh:(List.range L.length).length=(L.map (·.2)).length:=by simp
  generalize As g L=J at z7 L5;generalize List.range L.length=wt at z7 L5 Rh;generalize L.map (·.2)=C at z7 Rh;have IC:ae H H7:=LY.trans z7.s.sm;obtain⟨L6,L7,en,nf⟩:=xg;have a2:An H7 (adr mg "Net") n g:=⟨L6,L7,IC _ _ en,nf.same IC⟩
  refine aH ⟨n,r,a,xs,g,ns,ws,R,rfl,a2,rt.tk IC.ts,hw,IC _ _ hR,Bf,Dl,Er,λD ks H8 hD s8 gD a3=>?_⟩
  (try dsimp only)
  have a4:D∉[p,lm,dn,lw,dw]++G:=λz=>by
   obtain⟨Gk,Gm,j1,_⟩:=z7.s.f.ex;rcases W3.mp z with z|z
   ·simp only[Qp,QB,or_false]at z;rcases z with z|z|z|z|z
    ·rw[z,j1]at hD;cases hD
    ·rw[z,z7.s.m]at hD;cases hD
    ·rw[z,z7.s.n]at hD;cases hD
    ·rw[z,z7.s.w]at hD;cases hD
    ·rw[z,z7.s.ws]at hD;cases hD
   ·obtain⟨i,hi,rfl⟩:=Qi z;obtain⟨kv,g1,_⟩:=z7.s.d i hi (by rw[<- z7.s.ml];exact hi);rw[g1]at hD;cases hD
  have Dn:H7 lm≠none:=by rw[z7.s.m];exact λz=>nomatch z
  have zu:H7 lw≠none:=by rw[z7.s.w];exact λz=>nomatch z
  refine aM (λt I=>X5 fun(J:Str->Nat)(G:Qbq)(C:List Qbo)(N kw:Qbv)=>t=[aa n,aa r,aa p,aa M,w4,v5,aa D]/\uh (adr mg "Parting") H0 I p lm dn lw dw R J [] G C N kw/\A7 g R J []) ?_ ?_
  ·intro C_ dz;refine⟨λmm t I=>X6 fun(J:Str->Nat)(wt:Qbs)(G:Qbq)(C:List Qbo)(N kw:Qbv)=>t=[aa n,aa r,aa p,aa M,w4,v5,aa D]/\uh (adr mg "Parting") H0 I p lm dn lw dw R J wt G C N kw/\A7 g R J wt/\I D=gf ks/\D∉[p,lm,dn,lw,dw]++G/\jh H7 I ks R (ju g R)/\mm=2*(R.length-C.length)+wt.length,
    ⟨_,J,wt,G,C,N,kw,rfl,z7.same s8,L5,gD,a4,a3,rfl⟩,?_⟩
   rintro mm t H9 ⟨J,wt,G,C,N,kw,rfl,z9,ID,a5,B9,a6,rfl⟩;obtain⟨IE,IF,j1,j2,j3,j4,j5,j6⟩:=z9.s.f.ex;refine⟨p,_,IE,IF,_,rfl,j1,zw,Rb "waiting" (by simp),j4,_,.inl ⟨_,ao.of z9.s.w,rfl⟩,?_⟩;refine jq (λc=>?_) (λc=>?_)
   ·have jk:wt≠[]:=λz=>by rw[z]at c;cases c
    obtain⟨IG,j,rfl⟩:X2 λIG j=>wt=IG++[j]:=⟨_,_,(List.dropLast_concat_getLast jk).symm⟩
    have a7:j<C.length:=z9.wl j (by simp);have L8:C[j]? =some C[j]:=Qa a7;generalize C[j]=W at L8;simp only[W3,Qp,QB,or_false,not_or]at B9;refine⟨_,λt I h=>h,?_⟩;refine⟨p,IE,IF,rfl,j1,j6 "take_waiting" (by simp),H0,p,lm,dn,lw,dw,G,C,N,IG,kw,j,rfl,z9.s,λj_ uq zx Ri=>?_⟩;have Rj:jh H7 uq ks R (ju g R):=a6.OH z9.s.m z9.s.w Dn zu λb o e nk n1 n2=>Ri b o n2 (λz=>by rw[z,z9.s.ws]at e;exact nk _ (QE e).symm) e;have L_:=Ri D _ B9.1.2.2.2.1 B9.1.2.2.2.2 a5;refine⟨H0,H7,p,lm,dn,lw,dw,D,G,C,N,IG,j_,ks,j,W,g,R,J,rfl,⟨zx,z9.n,z9.v,z9.kl,λi hi=>z9.wl i (W3.mpr (.inl hi))⟩,L8,L_,B9.2,Rj,lo,ID.take (at_:=j) (λi hi=>?_) (λx hx=>?_) lo.rc,λdi ee xh ag e_ B8 AB Rk a8 Ma cn mo=>?_⟩
    ·rcases W3.mp hi with h|h
     ·exact .inl h
     ·exact .inr (qI.mp h)
    ·rw[z9.n.mm _ _ L8 x];exact⟨λh=>h.2,λh=>⟨hx,h⟩⟩
    ·have a9:D∉[lm,dn,lw,dw]++G:=by
      simp only[W3,Qp,QB,or_false,not_or];exact⟨B9.1.2,B9.2⟩
     have few:=Rk.n.few;refine⟨_,?_,di,ee,xh,ag,e_,B8,rfl,Rk,a8,Ma.kp D _ a9 L_,λz=>?_,Rj.OH zx.m zx.w Dn zu λb o e nk n1 n2=>Ma.kp b o (zx.off e nk n1 n2) e,rfl⟩
     ·rw[Qk,QaD];lia
     ·rcases W3.mp z with z|z
      ·simp only[Qp,QB,or_false]at z;exact absurd z (by simp only[not_or];exact B9.1)
      ·rcases Ma.nw D z with q|q
       ·exact B9.2 q
       ·rw[L_]at q;cases q
   ·have LH:wt=[]:=by
     cases wt with
     |nil=>rfl
     |cons _ _=>simp at c
    subst LH;exact dz _ _ ⟨J,G,C,N,kw,rfl,z9,ID⟩
  ·rintro t H9 ⟨J,G,C,N,kw,rfl,z9,ID⟩;obtain⟨IE,IF,j1,j2,j3,j4,j5,j6⟩:=z9.s.f.ex;exact⟨p,_,IE,IF,_,rfl,j1,zw,Rb "number" (by simp),j3,k dn N J H9 (LY.trans z9.s.sm) z9.s.n z9.v λa ha b hb=>ID.done lo.rc ha hb⟩
inductive Mb (mg:Str->Qbr)(vs:Qby)(H:Hp)(Q:VK)(b_:XK):Prop
 |mk (n a:Addr) (xs:Qby) (rows:List aj) (ns ws:Qbo) (f:Str):vs=[.ref n,.str f]->An H (adr mg "Net") n rows->RT H a xs rows ns ws->(∀z∈ws,Wd z)->gj rows ns f->(∀(D:Addr)(kvs:Qbv)(i:Nat)(cb:mq)(U:Hp),H D=none->ae H U->U D=gf kvs->ko U kvs cb->BI rows ns i cb->cb.length=i->cb=iy rows f i->f∈cb.map (·.1)->Q (.ref D) U)->Mb mg vs H Q b_
set_option maxHeartbeats 2000000 in
theorem u3(T:Txt K mg w):bq P w K mg base 2 "reached" ["net","first"] (Mb mg):=by
 have cl:=T.wz.2.1;have na:=T.wz.2.2.1;refine T.xO.gw cL ?_ ?_
 ·rintro _ _ _ _ ⟨n,a,xs,b,ns,ws,f,rfl,_⟩;rfl
 ·rintro f bc A ab s H vs Q E hr ⟨n,a,xs,b,ns,ws,d,rfl,xg,rt,hw,hf,k⟩;obtain⟨hu,iu,hsz⟩:=dF hr;have few:=rt.few;obtain⟨dx,fs,en,⟨_,_,_,⟨d4,o4,k4,e1,e2,e3⟩⟩⟩:=xg;generalize adr mg "Net"=C at*;have look:∀e,gj b ns e->X2 λm o=>dc H d4 (.str e) (some (.ref m))/\H m=some (.af o (.dT (jm b e))):=λe he=>by
   obtain⟨v,O,m,o,rfl,Y⟩:=e3.get rt.Ao (rt.rf hw he).1;refine⟨m,o,by rw[<- O];exact dc.rd (k:=Sum.inr e) (.inr ⟨o4,e2⟩),?_⟩;rw[kH he.2]at Y;exact Y
  refine⟨_,(aE (aI 2 cL.nd (Wq (Wp (zv 1) Nm Wo) rfl rfl (by simp) (by decide)))
   (aE (aI 3 cL.nd (cE (aD (zv 1) aC)))
   (aE (aI 4 cL.nd aJ)
   (aE (hZ PassesOwn.never (aU nQ (zv 4) (bO (aQ K) T.ly Qae (aD (zv 3) aC))) (aE (aI 5 cL.nd (aV K (zv 3) (zv 4)))
   (aE (cR PassesOwn.never rfl (pK (aY hu (bV K (zv 0)) (zv 5))) (cT K (n:=2) rfl (aK (bT 6 cL.nd) (aK (bT 7 cL.nd) bS))) (aF (eX (aU (pB hu) (zv 7) (zv 2) rfl) (aE (qF hu (zv 2) (zv 7) (cF (aD (zv 5) (aD (zv 6) aC))) rfl)
   (aF (bR (i8 K QJ QK QL bE (zv 3) (aD (zv 7) aC))))) cJ)))
   (aF (Yh (i:=4) cL.nd rfl (Or.inl rfl) aJ Te)))))
   (aF (bA (zv 2))))))),?_⟩
  refine aH λD hD=>?_;have s1:=ae.upd hD (.dK []);refine⟨aA,[(.inr d,.aq)],rfl,(show 1<=15 by decide),?_⟩;have z1:upd (upd H D (.dK [])) D (.dK (Bv [] [(.inr d,.aq)])) D=gf [(.inr d,.aq)]:=aA;have s2:ae H (upd (upd H D (.dK [])) D (.dK (Bv [] [(.inr d,.aq)]))):=s1.put hD;generalize upd (upd H D (.dK [])) D (.dK (Bv [] [(.inr d,.aq)]))=H2 at z1 s2⊢;refine aH ⟨BR,λW hW=>?_⟩;have t2:=ae.upd hW (.lst [.str d]);have z2:upd H2 W (.lst [.str d]) W=bh [.str d]:=aA;have Rl:W≠D:=λz=>by rw[z,z1]at hW;cases hW
  have Rm:=t2 _ _ z1;have ag:H W=none:=s2.free hW;generalize upd H2 W (.lst [.str d])=H3 at t2 z2 Rm⊢;have s3:=s2.trans t2;refine pA ?_;have b0:BI b ns 0 [(d,none)]:=⟨by simp,λc hc=>by rw[qI.mp hc];exact hf,λj c hj=>absurd hj (by lia)⟩
  refine aM (λp u=>X6 fun(v5 y G:Qbz)(i:Nat)(l:Qbv)(q:mq)=>p=[aa n,fb d,aa D,aa W,gy (i:Int),v5,y,G]/\u D=gf l/\ko u l q/\BI b ns i q/\q.length=i/\q=iy b d i/\d∈q.map (·.1)/\ae H u) ?_ ?_
  ·intro nx dz;refine⟨λr p u=>X6 fun(v5 y G:Qbz)(i:Nat)(l:Qbv)(q:mq)=>p=[aa n,fb d,aa D,aa W,gy (i:Int),v5,y,G]/\u D=gf l/\u W=bh (q.map λc=>.str c.1)/\ko u l q/\BI b ns i q/\i<=q.length/\q=iy b d i/\d∈q.map (·.1)/\ae H u/\r=40-i,
    ⟨40,none,none,none,0,_,[(d,none)],rfl,Rm,z2,.cons ⟨rfl,rfl⟩ .nil,b0,by simp,rfl,by simp,s3,rfl⟩,?_⟩
   rintro r p H4 ⟨v5,y,G,i,l,q,rfl,q1,q2,q3,q4,q5,q6,q7,q8,rfl⟩;refine .inl ⟨_,.inl (ao.of q2),_,rfl,jq (λc=>?_) (λc=>?_)⟩
   ·have hi:i<q.length:=by have:=Qt c;simp at this;lia
    have an:=q4.few;refine⟨λp u=>X5 fun(v5 y G:Qbz)(l:Qbv)(q:mq)=>p=[aa n,fb d,aa D,aa W,gy ((i+1:Nat):Int),v5,y,G]/\u D=gf l/\u W=bh (q.map λc=>.str c.1)/\ko u l q/\BI b ns (i+1) q/\i+1<=q.length/\q=iy b d (i+1)/\d∈q.map (·.1)/\ae H u,?_,?_⟩
    ·rintro p u ⟨v5,y,G,l,q,rfl,p1,p2,N,R,p5,p6,p7,p8⟩;exact⟨40-(i+1),by lia,v5,y,G,i+1,l,q,rfl,p1,p2,N,R,p5,p6,p7,p8,rfl⟩
    have II:q[i]? =some q[i]:=Qa hi;have EE:=q4.en _ (Qj hi);have Ia:iy b d (i+1)=vf q[i].1 q (ak b q[i].1):=by
     show(match(iy b d i)[i]? with|none=>iy b d i|some c=>vf c.1 (iy b d i) (ak b c.1))=_;rw[<- q6,II]
    have yc:(q.map λc=>V.str c.1)[i]? =some (.str q[i].1):=by rw[Qq,II];rfl
    generalize q[i]=x at II EE Ia yc;refine aH ⟨_,.str x.1,.inl (ao.of q2),fF yc,?_⟩;obtain⟨m,om,l1,l2⟩:=look _ EE;have oe:(jm b x.1).length=(ak b x.1).length:=by simp[jm]
    refine aM (λp u=>X4 fun(y G:Qbz)(l:Qbv)(t:mq)=>p=[aa n,fb d,aa D,aa W,gy (i:Int),some (.str x.1),y,G]/\u D=gf l/\u W=bh (t.map λc=>.str c.1)/\ko u l t/\BI b ns (i+1) t/\i<t.length/\t=vf x.1 q (ak b x.1)/\d∈t.map (·.1)/\ae H u) ?_ ?_
    ·intro oz jj;refine⟨n,C,dx,fs,.ref d4,rfl,q8 _ _ en,cl,na "moves" (by simp),e1,d4,.ref m,rfl,l1.same q8,m,jm b x.1,om,rfl,q8 _ _ l2,?_⟩;refine mQ (λj p u=>X4 fun(y G:Qbz)(l:Qbv)(t:mq)=>p=[aa n,fb d,aa D,aa W,gy (i:Int),some (.str x.1),y,G]/\u D=gf l/\u W=bh (t.map λc=>.str c.1)/\ko u l t/\BI b ns i t/\i<t.length/\t=vf x.1 q ((ak b x.1).take j)/\t[i]? =some x/\(∀m∈(ak b x.1).take j,m.2∈t.map (·.1))/\d∈t.map (·.1)/\ae H u)
      ⟨y,G,l,q,rfl,q1,q2,q3,q4,hi,rfl,II,λm hm=>absurd hm (by simp),q7,q8⟩ (by rintro j p u _ ⟨_,_,_,_,_,_,_,_,_,_,_,_,_,_,s⟩;exact s _ _ l2) ?_ ?_
     ·rintro j p H5 TT cc hj ⟨w6,w7,g,t,rfl,p1,p2,N,R,p5,p6,p7,p8,p9,zx⟩ LB rd;have Az:j<(ak b x.1).length:=by lia
      have eo:(jm b x.1)[j]=((ak b x.1)[j].1.map Sum.inr,.str (ak b x.1)[j].2):=by simp[jm]
      rw[eo]at rd⊢;rw[FI]at rd;have vp:=aP _ j Az;obtain⟨_,he⟩:=rt.Yg hw EE (Qj Az);rw[vp];generalize(ak b x.1)[j]=r at rd he vp⊢;have jd:=ae.upd LB (.tup [.ref cc,.str r.2])
      (try dsimp only)
      generalize upd H5 TT (.tup [.ref cc,.str r.2])=H6 at jd;have IJ:=jd _ _ p1;have Rn:=jd _ _ p2;have Ro:=N.same jd;have ap:=R.few;have kl:g.length=t.length:=Paired.length N;refine⟨D,a_ g (.inr r.2),rfl,dc.k (k:=Sum.inr r.2) IJ,_,rfl,jq (λc=>?_) (λc=>?_)⟩
      ·have xu:r.2∉t.map (·.1):=by
        have O:=N.Ko r.2;intro z;rw[O,Qw z]at c;simp at c
       have LD:a_ g (.inr r.2)=none:=by
        have O:=N.Ko r.2;rw[Qx xu]at O;cases hv:a_ g (.inr r.2)with
        |none=>rfl
        |some v=>rw[hv]at O;cases O
       refine aM (λp u=>X2 λI L=>p=[aa n,fb d,aa D,aa W,gy (i:Int),some (.str x.1),aa cc,some (.str r.2)]/\ae H6 L/\L I=ig [.str x.1,.ref cc]/\u=upd L D (.dK (g++[(.inr r.2,.ref I)]))) ?_ ?_
       ·intro Mc Dp;refine⟨kq,λI Il=>⟨D,_,rfl,Bu.k (k:=Sum.inr r.2) (ae.upd Il _ _ _ IJ) (by lia),Dp _ _ ⟨I,_,rfl,ae.upd Il _,aA,by rw[L2.cO _ LD]⟩⟩⟩
       ·rintro p H8 ⟨I,L,rfl,s7,e7,rfl⟩;have d7:=s7 _ _ IJ;have ah:=s7 _ _ Rn;have tk:Tk L (upd L D (.dK (g++[(.inr r.2,.ref I)]))):=(Tk.refl).set d7 λ_ z=>nomatch z;have AZ:∀b' ys,cf L b' ys->cf (upd L D (.dK (g++[(.inr r.2,.ref I)]))) b' ys:=λb' ys h=>h.put d7 (λ_ z=>nomatch z) (λ_ _ z=>nomatch z);have r8:ko (upd L D (.dK (g++[(.inr r.2,.ref I)]))) (g++[(.inr r.2,.ref I)]) (t++[(r.2,some (x.1,r.1))]):=((Ro.same s7).keep tk AZ).snoc (show Ec _ _ (some (x.1,r.1))from⟨I,cc,rfl,tk _ _ e7,AZ _ _ (rd.same (jd.trans s7))⟩);have w8:upd L D (.dK (g++[(.inr r.2,.ref I)])) W=bh (t.map λc=>.str c.1):=by rw[aB Rl];exact ah
        have d8:upd L D (.dK (g++[(.inr r.2,.ref I)])) D=gf (g++[(.inr r.2,.ref I)]):=aA;have Rp:ae H (upd L D (.dK (g++[(.inr r.2,.ref I)]))):=((zx.trans jd).trans s7).put hD;generalize upd L D (.dK (g++[(.inr r.2,.ref I)]))=H8 at tk AZ r8 w8 d8 Rp⊢;have al:Tk H8 (upd H8 W (.lst ((t.map λc=>V.str c.1)++[.str r.2]))):=(Tk.refl).set w8 λ_ z=>nomatch z;have am:∀b' ys,cf H8 b' ys->cf (upd H8 W (.lst ((t.map λc=>V.str c.1)++[.str r.2]))) b' ys:=λb' ys h=>h.put w8 (λ_ z=>nomatch z) (λ_ _ z=>nomatch z);refine⟨.inl ⟨rfl,_,ao.of w8⟩,W,_,.str r.2,rfl,rfl,w8,by simp;lia,_,_,_,t++[(r.2,some (x.1,r.1))],rfl,by rw[aB Rl.symm];exact d8,?_,r8.keep al am,R.snoc (by lia) he xu,by simp;lia,?_,?_,?_,?_,Rp.put ag⟩
        ·rw[Qm];exact aA
        ·rw[iJ,<- p6,if_neg xu]
        ·rw[Qg p5];exact p7
        ·intro m' rh;rw[Qm];rcases W3.mp rh with h|h
         ·exact W3.mpr (.inl (p8 m' h))
         ·rw[qI.mp h];exact W3.mpr (.inr (by simp))
        ·rw[Qm];exact W3.mpr (.inl p9)
      ·have h_:r.2∈t.map (·.1):=by
        have O:=N.Ko r.2;by_cases z:r.2∈t.map (·.1)
        ·exact z
        ·rw[O,Qx z]at c;simp at c
       refine⟨_,_,g,t,rfl,IJ,Rn,Ro,R,p5,?_,p7,?_,p9,zx.trans jd⟩
       ·rw[iJ,<- p6,if_pos h_]
       ·intro m' rh;rcases W3.mp rh with h|h
        ·exact p8 m' h
        ·rw[qI.mp h];exact h_
     ·rintro p H5 ⟨w6,w7,g,t,rfl,p1,p2,N,R,p5,p6,p7,p8,p9,zx⟩;rw[oe,Qo]at p6 p8;refine jj _ _ ⟨w6,w7,g,t,rfl,p1,p2,N,⟨R.nd,R.en,λj c hj hc=>?_⟩,p5,p6,p9,zx⟩;by_cases FU:j=i
      ·subst FU;rw[p7]at hc;cases hc;exact p8
      ·exact R.cl j c (by lia) hc
    ·rintro p H5 ⟨w6,w7,g,t,rfl,p1,p2,N,R,p5,p6,p9,zx⟩;exact⟨.int (i:Int),rfl,(i:Int),1,rfl,rfl,_,_,_,g,t,rfl,p1,p2,N,R,p5,by rw[Ia];exact p6,p9,zx⟩
   ·have hi:q.length=i:=by have:=of_decide_eq_false c;simp at this;lia
    exact dz _ _ ⟨v5,y,G,i,l,q,rfl,q1,q3,q4,hi,q6,q7,q8⟩
  ·rintro p H4 ⟨v5,y,G,i,l,q,rfl,q1,q3,q4,q5,q6,q7,q8⟩;exact k D l i q H4 hD q8 q1 q3 q4 q5 q6 q7
inductive IK (mg:Str->Qbr)(vs:Qby)(H:Hp)(Q:VK)(b_:XK):Prop
 |mk (a:Addr) (xs:Qby) (rows:List aj) (ns ws:Qbo) (x:Str):vs=[.ref a,.str x]->RT H a xs rows ns ws->(∀z∈ws,Wd z)->x∈ns->Kn mg H "FROM" [.str "from"]->Kn mg H "TO" [.str "to"]->(∀(T:Addr)(ys:Qby)(i:Nat)(U:Hp),H T=none->ae H U->(az rows (endOf rows x) i).length=i->jc rows ns (az rows (endOf rows x) i)->(az rows (endOf rows x) i).Nodup->endOf rows x∈az rows (endOf rows x) i->RT U T ys (cz rows (az rows (endOf rows x) i)) ((au rows (az rows (endOf rows x) i)).map (cN rows (au rows (az rows (endOf rows x) i)))) ws->Q (.ref T) U)->IK mg vs H Q b_
inductive EK (vs:Qby)(H:Hp)(Q:VK)(b_:XK):Prop
 |mk (n:Nat):vs=[.int n]->n<52->Q (.str (br n)) H->EK vs H Q b_
theorem Rq(n:Nat):ph CI.cps.toList ((n:Int) % 26)=some (97+n % 26):=by
 have h:=Zo (97+n % 26) (by lia);rw[show 97+n % 26-97=n % 26 by lia]at h;have:=fF h;rw[show((n:Int) % 26)=((n % 26:Nat):Int)by lia];exact this
inductive IL (vs:Qby)(H:Hp)(Q:VK)(b_:XK):Prop
 |mk (x:V) (h:Hd) (ns:Qbo) (b:Addr) (os:Qbo):vs=[x,.ref b]->HV H x h->h.ok ns->H b=bh (os.map V.str)->os.length=(ie h).length->os.length<=100->(∀T U,H T=none->ae H U->HV U (.ref T) (HR h os)->Q (.ref T) U)->IL vs H Q b_
theorem iF(T:Txt K mg w):bq P w K mg base 1 "name_of" ["k"] EK:=by
 refine T.xT.gw g8 ?_ ?_
 ·rintro _ _ _ _ ⟨n,rfl,_⟩;rfl
 ·rintro f u A g s H x Q E y ⟨n,rfl,z,k⟩;refine⟨_,(aE (aI 1 g8.nd (aV K (rB T.dY) (bP dJ (zv 0) (bO (aQ K) T.ly Qae (aD (rB T.dY) aC)))))
   (aE (hZ PassesOwn.never (aU Nh (zv 0) (bO (aQ K) T.ly Qae (aD (rB T.dY) aC))) (aE (aI 0 g8.nd (bP vM (zv 0) (bO (aQ K) T.ly Qae (aD (rB T.dY) aC))))
   (aF (aI 1 g8.nd (bP bH (aV K (rB T.dY) (bP dJ (zv 0) (bO (aQ K) T.ly Qae (aD (rB T.dY) aC)))) (zv 1))))))
   (aF (bA (bP bH bK (zv 1)))))),?_⟩
  have a:CI.length<=sizeLine:=by decide
  have o:(2:Nat)<=sizeLine:=by decide
  have t:(3:Nat)<=sizeLine:=by decide
  refine⟨a,(show(0:Int)<26 by decide),a,_,Rq n,?_⟩;refine⟨λm i j=>j=H/\((m=1/\i=[gy (n:Nat),some (.str ⟨#[97+n % 26]⟩)])\/(26<=n/\i=[gy (1:Nat),some (.str ⟨#[98,97+n % 26]⟩)])),⟨1,rfl,.inl ⟨rfl,rfl⟩⟩,?_⟩;rintro m i j ⟨rfl,⟨rfl,rfl⟩|⟨l,rfl⟩⟩
  ·refine⟨a,_,rfl,DM (λb=>?_) (λb=>?_)⟩
   ·have d:26<=n:=by have:(26:Int)<=(n:Int):=Qt b;lia
    refine⟨λc p=>p=j/\26<=n/\c=[gy (1:Nat),some (.str ⟨#[98,97+n % 26]⟩)],λc p h=>⟨0,Nat.zero_lt_one,h.1,.inr h.2⟩,?_⟩;have r:(n:Int) / 26=((1:Nat):Int):=by lia
    refine⟨a,(show(0:Int)<26/\(26:Int)<1073741824 by decide),a,(show(0:Int)<26 by decide),a,98,?_,?_⟩
    ·show ph CI.cps.toList ((n:Int) / 26 % 26)=some 98;rw[r];exact Rq 1
    ·refine⟨o,rfl,d,?_⟩;show[some (V.int ((n:Int) / 26)),_]=_;rw[r];rfl
   ·have d:n<26:=by
     have:¬(26:Int)<=n:=λq=>b (Qw q)
     lia
    refine⟨o,?_⟩;have e:("k":Str)++(⟨#[97+n % 26]⟩:Str)=br n:=by
     rw[Nat.mod_eq_of_lt d,nV d];rfl
    rw[e];exact k
  ·refine⟨a,_,rfl,DM (λb=>absurd (show decide ((26:Int)<=((1:Nat):Int))=true from b) (by decide)) (λ_=>?_)⟩;refine⟨t,?_⟩;have e:("k":Str)++(⟨#[98,97+n % 26]⟩:Str)=br n:=by
    rw[mF l,show n % 26=n-26 by lia];rfl
   rw[e];exact k
theorem jM(T:Txt K mg w):bq P w K mg base 1 "head_with" ["head","names"] IL:=by
 refine T.rY.gw jD ?_ ?_
 ·rintro _ _ _ _ ⟨x,h,ns,b,g,rfl,_⟩;rfl
 ·rintro f bc A I s H vs Q E hr ⟨x,h,ns,b,g,rfl,hv,hok,hb,r,fo,k⟩;have hu:=cW hr;have ab:sizeLine=16777216:=QM;refine⟨_,(aE (eX (aU (qP K) (aV K (zv 0) aJ) (JG K T.nI) rfl) (aF (bA (cF (aL (aV K (zv 0) aJ) (aS (zK rfl (by rfl) T.cU (by rfl) T.K0 (dN (kY ["word","x"] [] ["word","x"] (d6 jD) (jX K (aV K (zv 0) aJ)) (λ_ _ _ _ _ _=>(cT K (n:=2) rfl (aK (bF 0) (aK (bF 1) bS)))) (λ_ _ _ _ _ _=>(zv 0))) (aD (zv 1) aC))) aC))))) cJ)
   (aF (bA (fL (cG K) T.cU QH (dM (bP bH (cE (aL (aV K (zv 0) aJ) aC)) (zv 1)) aC))))),?_⟩
  have t:∀z:Str,(false^^Ah (.str z) [V.str "box",V.str "pick"])=decide (z="box"\/z="pick"):=λz=>by
   rw[QF,show([V.str "box",V.str "pick"]:Qby)=(["box","pick"]:Qbo).map V.str from rfl,gP];simp
  have j:∀(a:Addr)(z:Str)(m:Qby),H a=ig (.str z::m)->∀{D:Ends},D.rt=Q->(∀T p,p T=ig (.str z::g.map V.str)->HV p (.ref T) (HR h g))->DB (yz (G_ K) (kc (l_ G1 (GQ (kc (l_ (CF K) (tV 0) (tC (V.int 0))) qf)) (tV 1)) qf)) D [aa a,aa b] H:=by
   intro a z m e D u hh;refine⟨_,.str z,.inr (ay.of e),aO _ _,BR,λL1 Ba=>?_⟩;have L:=ae.upd Ba (.lst [.str z]);refine⟨_,_,aA,L _ _ hb,by simp;lia,λL2 EB=>?_⟩;have s2:=ae.upd EB (.lst ([V.str z]++g.map V.str));refine⟨L2,_,rfl,.inl ⟨ao.of aA,λT hT=>?_⟩⟩;have s3:=ae.upd hT (.tup ([V.str z]++g.map V.str));rw[u];exact k T _ ((L.trans s2).free hT) ((L.trans s2).trans s3) (hh T _ aA)
  cases hv with
  | @one a s e=>
   refine⟨_,.str s,.inr (ay.of e),aO _ _,λN l=>⟨_,.inr l,rfl,rfl,_,rfl,?_⟩⟩;rw[t,Qx (by rcases hok with rfl|rfl<;>decide+kernel)];have ho:g=[]:=List.length_eq_zero_iff.mp r;subst ho;exact xw (j a s [] e rfl λT p e=>.one e)
  | @as a y e=>
   refine⟨_,.str "as",.inr (ay.of e),aO _ _,λN l=>⟨_,.inr l,rfl,rfl,_,rfl,?_⟩⟩;rw[t,Qx (by decide+kernel)];refine xw (j a "as" _ e rfl λT p e=>?_)
   match g,r,e with
   | [o1],_,e=>exact .as e
  | @way a y z e=>
   refine⟨_,.str "way",.inr (ay.of e),aO _ _,λN l=>⟨_,.inr l,rfl,rfl,_,rfl,?_⟩⟩;rw[t,Qx (by decide+kernel)];refine xw (j a "way" _ e rfl λT p e=>?_)
   match g,r,e with
   | [o1,o2],_,e=>exact .way e
  | @prs a c s m ps e ec hp=>
   refine⟨_,.str s,.inr (ay.of e),aO _ _,λN l=>⟨_,.inr l,rfl,rfl,_,rfl,?_⟩⟩;rw[t,Qw hok.1];refine CB ?_;have gr:=hp.len;have DY:=hok.2.2.2;refine⟨_,.str s,.inr (ay.of e),aO _ _,_,.ref c,.inr (ay.of e),rfl,Or.inr ⟨⟨m,ay.of ec⟩,λD u=>?_⟩⟩;refine gA (dE m) (λi C q=>q D=bh (((ps.take i).map (·.1)).map V.str)/\ae H q/\X2 λR v2=>C=[R,v2]) ⟨aA,ae.upd u _,none,none,rfl⟩ (λi C q _ h=>ay.of (h.2.1 _ _ ec)) ?_ ?_
   ·rintro i C q hi ⟨G,o,R,v2,rfl⟩;have yj:i<ps.length:=by lia
    obtain⟨d,e1,e2⟩:=hp.at_ i hi yj
    have eg:m.getD i .aq=.ref d:=cV hi e1;rw[eg];refine eI (o _ _ e2) ?_;refine⟨_,G,by simp;lia,?_,(o.put u),_,_,rfl⟩;rw[aA,aP ps i yj,Qm,Qm];rfl
   ·rintro C q ⟨G,o,R,v2,rfl⟩;rw[gr,Qo]at G;have Rr:g.length=ps.length:=by rw[r];simp[ie]
    refine⟨D,b,_,_,rfl,G,o _ _ hb,by simp[Rr],λT2 us H4 vq s4 e4 zp=>⟨kq,λT3 zy=>?_⟩⟩;have s5:=ae.upd zy (.tup [.str s,.ref T2]);refine k T3 _ ((o.trans s4).free zy) ((o.trans s4).trans s5) ?_;refine .prs aA (s5 _ _ e4) ⟨by rw[zp.len];simp[Rr],λi O Y=>?_⟩;have jz:=zp.len;rw[Ql,Ql]at jz;obtain⟨cc,z1,z2⟩:=zp.at_ i O (by simp;lia) (by simp;lia)
    refine⟨cc,z1,?_⟩;have:=s5 _ _ z2;simpa using this
set_option maxHeartbeats 4000000 in
theorem sP(T:Txt K mg w):bq P w K mg base 6 "least" ["T","x"] (IK mg):=by
 have cl:=T.wz.2.1;have na:=T.wz.2.2.1;refine T.a1V.gw bU ?_ ?_
 ·rintro _ _ _ _ ⟨a,xs,rows,ns,ws,x,rfl,_⟩;rfl
 ·rintro f bc A am s H vs Q E hr ⟨a,xs,rows,ns,ws,x,rfl,rt,hw,hx,kf,kt,k⟩;have hu:=cW hr;have iu:=Qy (cW hr);have LW:=qC hr;have a3:sizeLine=16777216:=QM;have few:=rt.few;have g:=rt.CW hw;refine⟨_,(aE (aI 2 bU.nd (NT (PV T) (hr.mono (by decide)) (aD (zv 0) aC)))
   (aE (aI 3 bU.nd (fL (xD rfl) T.u9 PyProof.Rows.boot_list (aS (aT (u3 T) hr (aD (zv 2) (aL (aY hu (bV K (zv 2)) (zv 1)) aC))) aC)))
   (aE (aI 4 bU.nd (aT (kI T) hr (aD (zv 2) (aD (zv 3) aC))))
   (aE (aI 5 bU.nd mJ)
   (aE (cR PassesOwn.never rfl (jX K (zv 3)) (bT 6 bU.nd) (aF (bR (oW (zv 5) (aY hu (zv 4) (zv 6)) (zv 6) ⟨rfl,rfl,rfl,rfl⟩))))
   (aE (aI 7 bU.nd (u5 (own:=["k","at"]) (idx:=[]) (N':=["k","at"]) (d6 bU) rfl (xP (by rfl) T.lB (aD (zv 5) aC)) (λ_ _ _ _ _ _=>(cT K (n:=2) rfl (aK (bF 0) (aK (bF 1) bS)))) (λ_ _ _ _ _ _=>g9) (λ_ _ _ _ _ _=>(zv 1)) (λ_ _ _ _ _ _=>(aT (iF T) hr (aD (zv 0) aC)))))
   (aE (aI 8 bU.nd (cE aC))
   (aE (cR PassesOwn.never rfl (lX (zv 5)) (cT K (n:=2) rfl (aK (bT 9 bU.nd) (aK (bT 6 bU.nd) bS))) (aE (Nr (i:=10) (own:=["end"]) (idx:=[4,7]) (N':=["end","number","called"]) (d6 bU) rfl (tF (aY hu (bV K (zv 2)) (zv 6))) (λ_ _ _ _ _ _=>(bF 0)) (λ_ _ _ _ _ _=>g9) (λ_ _ _ _ _ _=>(aY hu (zv 2) (aY hu (zv 1) (zv 0)))) bU.nd rfl rfl)
   (aF (bR (i8 K QJ QK QL bE (zv 8) (cM (cF (aL (aY hu (zv 7) (zv 9)) (aS (aT (jM T) hr (aL (aY hu (bV K (zv 2)) (zv 6)) (aD (zv 10) aC))) aC))) aC))))))
   (aF (bA (fL (cG K) T.cU QH (aD (zv 8) aC)))))))))))),?_⟩
  refine aH λn dn hn qc ne=>?_;have s0:ae H (upd (upd H dn (.own n)) n (.ins (adr mg "Net") dn [])):=(ae.upd qc _).trans (ae.upd (by rw[aB ne.symm];exact hn) _);refine⟨n,dn,a,xs,rows,ns,ws,rfl,aA,rt.tk s0.ts,hw,kf.same s0,kt.same s0,λH2 xg sx=>⟨rfl,?_⟩⟩;have s2:ae H H2:=λb o e=>sx b o (λz=>by rw[z,hn]at e;cases e) (s0 b o e);clear sx s0;have qu:=g.stay hx;have nv:=xg.Oe (K:=K) g;obtain⟨nx,LX,d1,d3,d4,y0,y1,y2,y3,y4,_⟩:=nv.at_
  (try dsimp only)
  refine aH ⟨n,adr mg "Net",nx,LX,.ref d1,rfl,y0,cl,na "rows" (by simp),y1,d1,_,rfl,y4 x hx,n,a,xs,rows,ns,ws,endOf rows x,rfl,xg,rt.tk s2.ts,hw,qu,λD ag i cb H3 hD s3 eD Rt bi f_ hb Ru=>⟨D,ag,rfl,.inl eD,λl hl=>?_⟩⟩;have hL:az rows (endOf rows x) i=cb.map (·.1):=by rw[hb];rfl
  have ah:(az rows (endOf rows x) i).length=i:=by rw[hL,Ql];exact f_
  have C:jc rows ns (az rows (endOf rows x) i):=⟨g,λe he=>by
    rw[hL]at he;obtain⟨c,hc,rfl⟩:=Yy.mp he;exact bi.en c hc,λe he m G=>by
    rw[hL]at he⊢;obtain⟨c,hc,rfl⟩:=Yy.mp he;obtain⟨j,u,e⟩:=Qi hc;exact bi.cl j c (by lia) (by rw[Qa u,e]) m G⟩
  have EM:(az rows (endOf rows x) i).Nodup:=by rw[hL];exact bi.nd
  have f0:endOf rows x∈az rows (endOf rows x) i:=by rw[hL];exact Ru
  have k0:=λT ys p O Y h3=>k T ys i p O Y ah C EM f0 h3;have an:=bi.few;have ar:(az rows (endOf rows x) i).length<=30:=by rw[hL,Ql];lia
  have Rv:(ag.map λkv=>kV kv.1)=(az rows (endOf rows x) i).map V.str:=by
   rw[hL,show(ag.map λkv=>kV kv.1)=(ag.map (·.1)).map kV by rw[Qn];rfl,Rt.keys,Qn,Qn];rfl
  rw[Rv];generalize az rows (endOf rows x) i=L at C EM f0 k0 ar⊢;have s4:=ae.upd hl (.lst (L.map V.str));have l4:upd H3 l (.lst (L.map V.str)) l=bh (L.map V.str):=aA;generalize upd H3 l (.lst (L.map V.str))=H4 at s4 l4;have Me:=s3.trans s4;clear k hb hL ah bi Rt eD an Rv f_ Ru hD
  (try dsimp only)
  refine aH ⟨n,l,a,xs,rows,ns,ws,L,rfl,xg.same Me,rt.tk (s2.trans Me).ts,hw,l4,EM,C.en,C.cl,λD5 kn J H5 s5 Mf Ip vj=>?_⟩;have Dq:=Me.trans s5;have l5:=s5 _ _ l4
  (try dsimp only)
  refine aH λB hB=>?_;have sB:=ae.upd hB (.dK []);have gB:upd H5 B (.dK []) B=gf []:=aA;have a4:H2 B=none:=Dq.free hB;have a5:D5≠B:=λz=>by rw[<- z,Mf]at hB;cases hB
  generalize upd H5 B (.dK [])=H6 at sB gB;have I:=lq (rows:=rows) L;have a6:=C.few EM
  (try dsimp only)
  refine aM (λd p=>∃y:Qbz,d=[aa a,fb x,aa n,aa l,aa D5,aa B,y,none,none,none,none]/\p B=gf (ir J (au rows L))/\ae H5 p) ?_ ?_
  ·intro oz jj;refine .inl ⟨⟨_,ao.of (sB _ _ l5)⟩,?_⟩;refine cA (bI (L.map V.str)) (λj d p=>∃y:Qbz,d=[aa a,fb x,aa n,aa l,aa D5,aa B,y,none,none,none,none]/\p B=gf (ir J (au rows (L.take j)))/\ae H5 p)
    ⟨none,rfl,gB,sB⟩ (by rintro j d p _ ⟨_,_,_,s⟩;exact ao.of (s _ _ l5)) ?_ ?_
   ·rintro j d H7 u ⟨y,rfl,q1,q2⟩;rw[Ql]at u;have eg:(L.map V.str).getD j .aq=.str L[j]:=by rw[Qb,Qq,Qa u];rfl
    have G:=Qj u;have vp:=aP L j u;rw[eg,vp];have tl:=(lq (rows:=rows) (L.take j)).sub;have a7:(au rows (L.take j)).length<=30:=by
     have:=cZ (l:=au rows (L.take j)) (m:=L) ((lq (L.take j)).ap.imp λh e=>h (by rw[e];exact bu.refl)) λx hx=>Qa5 (tl x hx)
     lia
    generalize L[j]=e at G;have dg:=dc.k (k:=.inr e) Mf;rw[Ip e G]at dg;have h_:∀a∈au rows (L.take j),a∈L:=λa ha=>Qa5 (tl a ha);refine⟨B,rfl,.inl ⟨_,.inl q1⟩,D5,_,rfl,dg.same q2,_,.inl (J e:Int),q1,rfl,by rw[ir,Ql];lia,λv hv=>⟨_,rfl,?_,q2⟩,λhv=>⟨_,rfl,?_,q2.put hB⟩⟩
    ·rw[fP,if_pos,q1];obtain⟨a',BU,ea⟩:=ZR (fY hv);exact⟨a',BU,(vj _ (h_ a' BU) _ G).mp ea⟩
    ·rw[fP,if_neg,aA,ir,ir,Qm]
     ·rfl
     ·rintro⟨a',BU,nb⟩;refine Vn hv (Yy.mpr ⟨_,Yy.mpr ⟨a',BU,rfl⟩,?_⟩);show(Sum.inl (J a':Int):Key)=_;rw[(vj _ (h_ a' BU) _ G).mpr nb]
   ·rintro d H7 ⟨y,rfl,q1,q2⟩;rw[Ql,Qo]at q1;exact jj _ _ ⟨y,rfl,q1,q2⟩
  rintro d H7 ⟨y,rfl,q1,s7⟩;have as:((ir J (au rows L)).map (·.1)).Nodup:=ZS I vj;have Rw:((vm J (cN rows (au rows L)) (au rows L)).map (·.1)).Nodup:=by rw[zS];exact as
  refine aM (λd p=>X2 fun(t:Addr)(o:Obj)=>d=[aa a,fb x,aa n,aa l,aa D5,aa B,y,aa t,none,none,none]/\p B=some (.af o (.dK (ir J (au rows L))))/\p t=gf (vm J (cN rows (au rows L)) (au rows L))/\H5 t=none/\t≠B/\ae H5 p) ?_ ?_
  ·intro oz jj;refine⟨B,_,rfl,.inl q1,λo t Dr=>?_⟩;have s8:ae H5 (upd H7 B (.af o (.dK (ir J (au rows L))))):=s7.put hB;have b8:upd H7 B (.af o (.dK (ir J (au rows L)))) B=some (.af o (.dK (ir J (au rows L)))):=aA;generalize upd H7 B (.af o (.dK (ir J (au rows L))))=H8 at s8 b8 Dr;have nC:t≠B:=λz=>by rw[z,b8]at Dr;cases Dr
   have s9:=ae.upd Dr (.dK []);refine qY (Zz (ir J (au rows L))) (λj τ p=>X2 λv0 v1=>τ=[v0,v1]/\p t=some (.dK ((vm J (cN rows (au rows L)) (au rows L)).take j))/\ae H8 p)
    ⟨none,none,rfl,aA,s9⟩ (by rintro j τ p _ ⟨_,_,_,_,s⟩;exact s _ _ b8) ?_ ?_
   ·rintro j τ p T2 u ⟨v0,v1,rfl,p1,p2⟩ vq;rw[ir,Ql]at u;have jd:=ae.upd vq (.tup [.int (j:Int),jg (ir J (au rows L)) j]);have eK:jg (ir J (au rows L)) j=.int (J (au rows L)[j]:Int):=by unfold jg ir;rw[Qq,Qa u];rfl
    have Mg:j<(vm J (cN rows (au rows L)) (au rows L)).length:=by rw[vm,Ql];exact u
    have pa:=pT Rw Mg;have ej:(vm J (cN rows (au rows L)) (au rows L))[j]=((Sum.inl (KI.i (J (au rows L)[j]:Int)):Key),V.str (br j)):=by simp only[vm,Qr];rw[sI I u]
    rw[ej]at pa
    (try dsimp only at pa⊢)
    rw[eK]at jd⊢;refine⟨j,rfl,by lia,_,.inl (KI.i _),rfl,jd _ _ p1,by rw[Qaa];lia,_,_,rfl,?_,?_⟩
    ·rw[pa];exact aA
    ·exact(p2.trans jd).put Dr
   ·rintro τ p ⟨v0,v1,rfl,p1,p2⟩;rw[Qab (by simp[ir,vm])]at p1;exact jj _ _ ⟨t,o,rfl,p2 _ _ b8,p1,s8.free Dr,nC,s8.trans p2⟩
  rintro d H8 ⟨t,o,rfl,b8,c8,Dr,nC,s8⟩;refine aH ⟨rq,λR hR=>?_⟩;have s9:=ae.upd hR (.lst []);have r9:upd H8 R (.lst []) R=bh []:=aA;have aw:H5 R=none:=s8.free hR;have ax:R≠B:=λz=>by rw[z,b8]at hR;cases hR
  have a1:R≠t:=λz=>by rw[z,c8]at hR;cases hR
  generalize upd H8 R (.lst [])=H9 at s9 r9
  (try dsimp only)
  refine aM (λd p=>X4 fun(y v9 ab:Qbz)(N:Qby)=>d=[aa a,fb x,aa n,aa l,aa D5,aa B,y,aa t,aa R,v9,ab]/\p R=bh N/\RV p N (cz rows L)/\ae H5 p) ?_ ?_
  ·intro oz jj;refine⟨B,_,rfl,.inl ⟨o,s9 _ _ b8,?_⟩⟩;have look:∀{p:Hp},p t=some (.dK (vm J (cN rows (au rows L)) (au rows L)))->∀e∈L,dc p t (.int (J e:Int)) (some (.str (cN rows (au rows L) e))):=fun{p}h e he=>by
    have:=dc.k (k:=.inl (J e:Int)) h;rw[ZT I vj Rw he]at this;exact this
   obtain⟨L6,L7,en,nf⟩:=id xg;obtain⟨dh,oh,kh,hh1,hh2,hh3⟩:=nf.hds;refine WM (jO (ir J (au rows L))) (λj d p=>X4 fun(y v9 ab:Qbz)(N:Qby)=>d=[aa a,fb x,aa n,aa l,aa D5,aa B,y,aa t,aa R,v9,ab]/\p R=bh N/\RV p N ((cz rows L).take j)/\p t=gf (vm J (cN rows (au rows L)) (au rows L))/\p B=some (.af o (.dK (ir J (au rows L))))/\ae H5 p)
    ⟨y,none,none,[],rfl,r9,RV.nil,s9 _ _ c8,s9 _ _ b8,s8.trans s9⟩ (by rintro j d p _ ⟨_,_,_,_,_,_,_,_,h,_⟩;exact h) ?_ ?_
   ·rintro j d uq T2 u ⟨y,v9,ab,N,rfl,p1,p2,p3,p4,p5⟩ vq;rw[ir,Ql]at u;have eK:jg (ir J (au rows L)) j=.int (J (au rows L)[j]:Int):=by unfold jg ir;rw[Qq,Qa u];rfl
    have eV:valAt (ir J (au rows L)) j=.str (au rows L)[j]:=by unfold valAt ir;rw[Qq,Qa u];rfl
    rw[eK,eV];have G:=I.sub _ (Qj u);have ul:=p2.len;have vp:(cz rows L).take (j+1)=(cz rows L).take j++[C9 rows (au rows L) (au rows L)[j]]:=by
     have Ep:j<(cz rows L).length:=by rw[cz,Ql];exact u
     rw[aP _ j Ep];simp[cz]
    rw[vp];have a8:N.length<=30:=by rw[ul,Qaa,cz,Ql];lia
    generalize(au rows L)[j]=e at G;have jo:=ae.upd vq (.tup [.int (J e:Int),.str e])
    (try dsimp only)
    generalize upd uq T2 (.tup [.int (J e:Int),.str e])=AB at jo;have p1:=jo _ _ p1;have p2:=p2.tk jo.ts;have p3:=jo _ _ p3;have p4:=jo _ _ p4;have p5:=p5.trans jo;have Rx:=Dq.trans p5;obtain⟨C_,ab9,d1',d3',d4',z0,z1,z2,z3,z4,z5,z6,z7⟩:=(nv.same Rx).at_
    obtain⟨m,om,w1,w2⟩:=z7 e (C.en e G);refine aM (λd p=>∃(E1:Addr),d=[aa a,fb x,aa n,aa l,aa D5,aa B,fb e,aa t,aa R,gy (J e:Int),aa E1]/\p E1=bh (((ak rows e).map λm=>cN rows (au rows L) m.2).map V.str)/\ae AB p) ?_ ?_
    ·intro Mc Dp;refine⟨n,_,C_,ab9,_,rfl,z0,cl,na "moves" (by simp),z3,d4',_,rfl,w1,m,_,om,rfl,w2,λE1 Ry=>?_⟩;refine gA (oY (jm rows e)) (λi τ p=>∃v0,τ=[v0,aa D5,aa t]/\p E1=some (.lst ((((ak rows e).take i).map λm=>cN rows (au rows L) m.2).map V.str))/\ae AB p)
      ⟨none,rfl,aA,ae.upd Ry _⟩ (by rintro i τ p _ ⟨_,_,_,s⟩;exact s _ _ w2) ?_ ?_
     ·rintro i τ Ds hi ⟨v0,rfl,t1,t2⟩;have Mh:i<(ak rows e).length:=by simpa[jm]using hi
      have ev:BK (jm rows e) i=.str (ak rows e)[i].2:=by unfold BK jm;rw[Qq,Qa Mh];rfl
      have Mi:=C.cl e G _ (Qj Mh);have of:=rt.FJ hw (C.en e G).1;rw[ev,aP _ i Mh,Qm,Qm];generalize(ak rows e)[i]=mm at Mi;have dg:=dc.k (k:=.inr mm.2) Mf;rw[Ip _ Mi]at dg;refine⟨D5,_,rfl,dg.same (p5.trans t2),t,_,rfl,look (t2 _ _ p3) _ Mi,_,t1,by simp;lia,_,rfl,aA,t2.put Ry⟩
     ·rintro τ Ds ⟨v0,rfl,t1,t2⟩;rw[show(jm rows e).length=(ak rows e).length by simp[jm],Qo]at t1;exact Dp _ _ ⟨E1,rfl,t1,t2⟩
    rintro d Ds ⟨E1,rfl,t1,t2⟩;obtain⟨hv,JQ,al⟩:=hh3.get g.Ao (C.g.rf (C.en e G)).1;have al:HV H2 hv (ai rows e):=al;have Mj:=Rx.trans t2;have gh:dc Ds dh (.str e) (some hv):=by
     rw[<- JQ];exact dc.rd (k:=Sum.inr e) (.inr ⟨oh,Mj _ _ hh2⟩)
    obtain⟨ok1,Rz⟩:=C.hd G;have ol:=C.ol G (cN rows (au rows L));refine⟨.inl ⟨rfl,_,ao.of (t2 _ _ p1)⟩,t,_,rfl,look (t2 _ _ p3) e G,n,_,L6,L7,_,rfl,Mj _ _ en,cl,na "heads" (by simp),hh1,dh,_,rfl,gh,hv,ai rows e,ns,E1,_,rfl,al.tk Mj.ts,ok1,t1,by rw[ol,yX Rz],by have:=rt.FJ hw (C.en e G).1;rw[Ql];lia,λT3 xj zy vt a2=>⟨kq,λT4 Du=>?_⟩⟩;have nj:=ae.upd Du (.tup [.str (cN rows (au rows L) e),.ref T3]);have RA:upd xj T4 (.tup [.str (cN rows (au rows L) e),.ref T3]) T4=ig [.str (cN rows (au rows L) e),.ref T3]:=aA;generalize upd xj T4 (.tup [.str (cN rows (au rows L) e),.ref T3])=lz at nj RA;have sA:=(t2.trans vt).trans nj;have RB:=sA _ _ p1;have tk:Tk lz (upd lz R (.lst (N++[.ref T4]))):=(Tk.refl).set RB λ_ z=>nomatch z;refine⟨R,N,.ref T4,rfl,rfl,RB,by lia,_,_,_,N++[.ref T4],rfl,aA,?_,by rw[aB a1.symm];exact sA _ _ p3,by rw[aB ax.symm];exact sA _ _ p4,(p5.trans sA).put aw⟩;exact((p2.tk sA.ts).tk tk).snoc (r:=C9 rows (au rows L) e) (tk _ _ RA) ((HV.tk nj.ts (show HV _ _ (C9 rows (au rows L) e).2 from by have q:=a2;rw[ZV Rz]at q;exact q)).tk tk)
   ·rintro d uq ⟨y,v9,ab,N,rfl,p1,p2,p3,p4,p5⟩;rw[Qab (by simp[cz,ir])]at p2;exact jj _ _ ⟨y,v9,ab,N,rfl,p1,p2,p5⟩
  rintro d uq ⟨y,v9,ab,N,rfl,p1,p2,p5⟩;refine⟨R,N,rfl,.inl ⟨ao.of p1,λT3 zy=>?_⟩⟩;have jo:=ae.upd zy (.tup N);have sF:=(s2.trans (Dq.trans p5)).trans jo;exact k0 T3 N _ ((s2.trans (Dq.trans p5)).free zy) sF (rt.least C EM (List.ne_nil_of_mem f0) aA (p2.tk jo.ts))
inductive IM (K:Q0)(mg:Str->Qbr)(vs:Qby)(H:Hp)(Q:VK)(b_:XK):Prop
 |mk (a:Addr) (ns:List Int):vs=[.ref a]->ao K H a (ns.map V.int)->ns.length<=63->Kn mg H "FROM" [.str "from"]/\Kn mg H "TO" [.str "to"]->(∀U,Q (.bl true) U)->IM K mg vs H Q b_
theorem a0M{ns:List Int}(hs:ao K H a (ns.map V.int))(b:H p=none):gg K H (upd H p (.lst [.ref a,.int 0,.int 0])) p 0:=by
 refine⟨⟨a,ns,0,0,aA,λc sm=>?_,by lia,by lia⟩,(ae.upd b _).sm⟩;rcases hs with h|h
 ·refine .inl ?_;have n:a≠p:=λz=>by rcases h with h|⟨o,h⟩<;>(rw[z,b]at h;cases h)
  exact h.imp (λe=>sm _ _ e n n) fun⟨o,e⟩=>⟨o,sm _ _ e n n⟩
 ·exact .inr h
theorem Kn.RC{t:Nat}{ys:Qby}(h:Kn mg H0 x ys)(a:H0 p=none)(b:gg K H0 H p t):Kn mg H x ys:=by
 obtain⟨o,e⟩:=h;have n:adr mg x≠p:=λz=>by rw[z,a]at e;cases e
 exact⟨o,b.sm _ _ e n n⟩
theorem a33:∀{h:Hd},h.ok ns->∀x∈ie h,x∈ns
 | .one _,_,_,hm=>nomatch hm
 | .as y,ok,x,hm=>by rw[qI.mp hm];exact ok.2
 | .way y z,ok,x,hm=>by
  simp only[ie,Qp,QB,or_false]at hm;rcases hm with rfl|rfl
  ·exact ok.2.2.1
  ·exact ok.2.2.2
 | .prs s ps,ok,x,hm=>by
  obtain⟨p,hp,rfl⟩:=Yy.mp hm;exact(ok.2.1 p hp).2.2
theorem a1P:∀{h:Hd},h.ok ns->(ie h).length<=10
 | .one _,_=>by simp[ie]
 | .as y,_=>by simp[ie]
 | .way y z,_=>by simp[ie]
 | .prs s ps,ok=>by simpa[ie]using ok.2.2.2
def zz(rows:List aj)(st:Nat):Qbv:=rows.map λr=>(.inr r.1,.str (gp rows st r.1))
theorem vW{rows:List aj}{st:Nat}(a:(rows.map (·.1)).Nodup):((zz rows st).map (·.1)).Nodup:=by
 have:(zz rows st).map (·.1)=(rows.map (·.1)).map (Sum.inr:Str->Key):=by simp[zz,QC]
 rw[this];exact wW.mpr (a.imp λh e=>h (Qas e))
theorem yV{rows:List aj}{st:Nat}(a:(rows.map (·.1)).Nodup)(b:x∈rows.map (·.1)):a_ (zz rows st) (.inr x)=some (.str (gp rows st x)):=by
 obtain⟨r,hr,rfl⟩:=Yy.mp b;exact fA (vW a) (Yy.mpr ⟨r,hr,rfl⟩)
inductive Ml (vs:Qby)(H:Hp)(Q:VK)(b_:XK):Prop
 |mk (a:Addr) (xs:Qby) (rows:List aj) (ns ws:Qbo) (st:Nat):vs=[.ref a,.int (st:Int)]->RT H a xs rows ns ws->st+rows.length<=52->(∀(L:Addr)(us:Qby)(U:Hp),H L=none->ae H U->U L=bh us->RV U us (rows.map (ic (gp rows st) id))->Q (.ref L) U)->Ml vs H Q b_
set_option maxHeartbeats 4000000 in
theorem tK(T:Txt K mg w):bq P w K mg base 2 "renamed" ["T","start"] Ml:=by
 refine T.yR.gw fU ?_ ?_
 ·rintro _ _ _ _ ⟨a,G,c,N,ws,st,rfl,_⟩;rfl
 ·rintro f bc A af s H vs Q E hr ⟨a,G,c,N,ws,st,rfl,g,qu,k⟩;have hu:=cW hr;have ah:sizeLine=16777216:=QM;have nd:=g.ia;have xl:=g.rv.len;refine⟨_,(aE (aI 2 fU.nd (u5 (own:=["k","name","head"]) (idx:=[1]) (N':=["k","name","head","start"]) (d6 fU) rfl (zL (by rfl) T.lB (aD (zv 0) aC)) (λ_ _ _ _ _ _=>(cT K (n:=2) rfl (aK (bF 0) (aK (cT K (n:=2) rfl (aK (bF 1) (aK (bF 2) bS))) bS)))) (λ_ _ _ _ _ _=>g9) (λ_ _ _ _ _ _=>(zv 1)) (λ_ _ _ _ _ _=>(aT (iF T) hr (dM (bP bH (zv 3) (zv 0)) aC)))))
   (aF (bA (kY ["name","head"] [2] ["name","head","called"] (d6 fU) (jX K (zv 0)) (λ_ _ _ _ _ _=>(cT K (n:=2) rfl (aK (bF 0) (aK (bF 1) bS)))) (λ_ _ _ _ _ _=>(cF (aL (aY hu (zv 2) (zv 0)) (aS (aT (jM T) hr (aD (zv 1) (dN (JI (own:=["x"]) (idx:=[2]) (N':=["x","called"]) (⟨rfl,by decide+kernel,by decide+kernel,(by intro y hy hf;simp only[Qp,QB,or_false]at hy;(repeat' (first|(rcases hy with rfl|hy)|subst hy));all_goals (first|(cases hf;done)|exact Or.inr rfl|exact Or.inl rfl)),(show ∀j∈([2]:Qbs),(Scope.names _).lookup ((["name","head","called"]:Qbo).getD j "")=some NameKind.free/\j<(["name","head","called"]:Qbo).length by decide+kernel),rfl⟩) rfl (jX K (aT (j7 T) hr (aD (zv 1) aC))) (λ_ _ _ _ _ _=>(bF 0)) (λ_ _ _ _ _ _=>g9) (λ_ _ _ _ _ _=>(aY hu (zv 1) (zv 0)))) aC))) aC)))))))),?_⟩
  refine aM (λab d=>∃C,ab=[aa a,gy (st:Int),aa C]/\d C=gf (zz c st)/\ae H d) ?_ ?_
  ·intro oz jj;refine⟨a,G,rfl,g.at_,λD t=>?_⟩;have s0:=ae.upd t (.dK []);refine Z' (Z8 G) (λj e d=>X3 λl I v2=>e=[l,I,v2,gy (st:Int)]/\d D=gf ((zz c st).take j)/\ae H d) ⟨none,none,none,rfl,aA,s0⟩ (by rintro j e d _ ⟨_,_,_,_,_,s⟩;exact s _ _ g.at_) ?_ ?_
   ·rintro j e d T2 hj ⟨l,I,v2,rfl,m,o⟩ vq;have u:j<c.length:=by lia
    obtain⟨b,v,e1,e2,e3⟩:=g.rv.at_ j hj u
    have eg:G.getD j .aq=.ref b:=cV hj e1;rw[eg];have s3:=o.trans (ae.upd vq (.tup [.int j,.ref b]));refine⟨T2,_,rfl,ay.of aA,rfl,_,_,rfl,_,_,rfl,?_⟩;refine eI (s3 _ _ e2) ⟨rfl,?_⟩;have p:=(ae.upd vq (.tup [.int j,.ref b])) _ _ m;generalize upd d T2 (.tup [.int j,.ref b])=H3 at s3 p;have Mg:j<(zz c st).length:=by simpa[zz]using u
    have pa:=pT (vW (st:=st) nd) Mg;have ej:(zz c st)[j]=((Sum.inr c[j].1:Key),V.str (br (st+j))):=by simp only[zz,Qr];rw[pV nd u]
    rw[ej]at pa;refine⟨st+j,rfl,by lia,_,.inr c[j].1,rfl,p,by rw[Qaa];lia,_,_,_,rfl,?_,s3.put t⟩;rw[aA];exact congrArg (λz=>some (HO.dK z)) pa
   ·rintro e d ⟨l,I,v2,rfl,m,o⟩;rw[Qab (by simp[zz];lia)]at m;exact jj _ _ ⟨D,rfl,m,o⟩
  rintro ab H1 ⟨C,rfl,c1,s1⟩;refine .inr ⟨⟨G,ay.of (s1 _ _ g.at_)⟩,λD t=>?_⟩;have al:D≠C:=λz=>by rw[z,c1]at t;cases t
  refine gA (dE G) (λj e d=>X3 λl I q=>e=[l,I,aa C]/\d D=bh q/\RV d q ((c.map (ic (gp c st) id)).take j)/\ae H1 d) ⟨none,none,[],rfl,aA,RV.nil,ae.upd t _⟩ (by rintro j e d _ ⟨_,_,_,_,_,_,s⟩;exact ay.of ((s1.trans s) _ _ g.at_)) ?_ ?_
  ·rintro j e d hj ⟨l,I,q,rfl,m,o,p⟩;have u:j<c.length:=by lia
   obtain⟨b,v,e1,e2,e3⟩:=g.rv.at_ j hj u
   have eg:G.getD j .aq=.ref b:=cV hj e1;rw[eg];have RD:=s1.trans p;refine eI (RD _ _ e2) ?_;have ok:=g.ok _ (Qj u);have look:∀{d:Hp}{x:Str},ae H1 d->x∈N->dc d C (.str x) (some (.str (gp c st x))):=fun{d}{x}h hx=>by
    have:=dc.k (k:=.inr x) (h _ _ c1);rw[yV nd (g.nm.mem_iff.mpr hx)]at this;exact this
   have mn:c[j].1∈N:=g.nm.mem_iff.mp (Yy.mpr ⟨_,Qj u,rfl⟩);have ul:=o.len;have RE:q.length<=52:=by rw[ul,Qaa];lia
   have vp:(c.map (ic (gp c st) id)).take (j+1)=(c.map (ic (gp c st) id)).take j++[ic (gp c st) id c[j]]:=by
    rw[aP _ j (by simpa using u)];simp
   rw[vp];have Iv:=e3.same RD;have ag:∀x∈ie c[j].2,x∈N:=a33 ok.2;have am:(ie c[j].2).length<=10:=a1P ok.2;generalize c[j]=r at*;refine⟨C,_,rfl,look p mn,v,r.2,N,rfl,Iv,ok.2,λL H4 hL eL s4=>.inl ⟨⟨_,ao.of eL⟩,λD3 Ay=>?_⟩⟩;have nj:=p.trans s4;refine gA (bI ((ie r.2).map V.str)) (λi e d=>∃l,e=[l,aa C]/\d D3=some (.lst ((((ie r.2).map (gp c st)).take i).map V.str))/\ae H4 d) ⟨none,rfl,aA,ae.upd Ay _⟩ (by rintro i e d _ ⟨_,_,_,s⟩;exact ao.of (s _ _ eL)) ?_ ?_
   ·rintro i e H5 hi ⟨l,rfl,p1,R⟩;have ja:i<(ie r.2).length:=by simpa using hi
    have eg:((ie r.2).map V.str).getD i .aq=.str (ie r.2)[i]:=by rw[Qb,Qq,Qa ja];rfl
    rw[eg];refine⟨C,_,rfl,look (nj.trans R) (ag _ (Qj ja)),_,p1,by simp;lia,_,rfl,?_,R.put Ay⟩;rw[aA,aP _ i (by simpa using ja),Qm,Qr];rfl
   ·rintro e H5 ⟨l,rfl,p1,R⟩;rw[Qab (by simp)]at p1;have RG:=nj.trans R;refine⟨v,r.2,N,D3,(ie r.2).map (gp c st),rfl,Iv.same (s4.trans R),ok.2,p1,by simp,by simp;lia,λT3 H6 zy s6 hv=>⟨kq,λT4 Du=>?_⟩⟩;rw[ZW]at hv;have s7:=ae.upd Du (.tup [.str (gp c st r.1),.ref T3]);have sA:=((s4.trans R).trans s6).trans s7;refine⟨q,sA _ _ m,by lia,_,_,q++[.ref T4],rfl,aA,?_,(p.trans sA).put t⟩;have tk:Tk (upd H6 T4 (.tup [.str (gp c st r.1),.ref T3])) (upd (upd H6 T4 (.tup [.str (gp c st r.1),.ref T3])) D (.lst (q++[.ref T4]))):=(Tk.refl).set (sA _ _ m) λ_ z=>nomatch z;exact((o.tk sA.ts).tk tk).snoc (r:=ic (gp c st) id r) (tk _ _ aA) ((hv.tk s7.ts).tk tk)
  ·rintro e d ⟨l,I,q,rfl,m,o,p⟩;rw[Qab (by simp;lia)]at o;exact k D q d (s1.free t) (s1.trans p) m o
inductive Mm (mg:Str->Qbr)(vs:Qby)(H:Hp)(Q:VK)(b_:XK):Prop
 |mk (l:Addr) (us:Qby) (h:Hd) (n0 ws:Qbo) (ks:List Kd):vs=[.str h.bj,.ref l]->h.ok n0->h.nx=none->(∀z∈h.qa,z∈ws)->ks.length=h.bf.length->qo (ws:=ws) H ks->(∀z∈ws,Wd z)->1+iz ks<=30->H l=bh us->BV H us ks h->Kn mg H "FROM" [.str "from"]->Kn mg H "TO" [.str "to"]->(∀(T:Addr)(ys:Qby)(i:Nat)(U:Hp),H T=none->ae H U->(az (i_ h ks) (br 0) i).length=i->jc (i_ h ks) (yg ks) (az (i_ h ks) (br 0) i)->br 0∈az (i_ h ks) (br 0) i->U T=ig ys->RV U ys (cz (i_ h ks) (az (i_ h ks) (br 0) i))->Q (.ref T) U)->Mm mg vs H Q b_
set_option maxHeartbeats 4000000 in
theorem lH(T:Txt K mg w):bq P w K mg base 7 "put_together" ["sort","kinds"] (Mm mg):=by
 refine T.mC.gw aX ?_ ?_
 ·rintro _ _ _ _ ⟨l,us,h,n0,ws,b,rfl,_⟩;rfl
 ·rintro f bc A af s H vs Q E hr ⟨l,us,h,n0,ws,b,rfl,hok,hn,ag,hl,hk,hw,ah,jr,pv,kf,kt,k⟩;have hu:=cW hr;have ap:sizeLine=16777216:=QM;have pl:h.bf.length<=10:=qL hok;refine⟨_,(aE (aI 2 aX.nd (Zk (qP K) (zv 0) (JG K T.nI) rfl))
   (aE (aI 3 aX.nd (vY (Nn (zv 2)) (kY ["word","kind"] [] ["word","kind"] (d6 aX) (jX K (zv 1)) (λ_ _ _ _ _ _=>(cT K (n:=2) rfl (aK (bF 0) (aK (bF 1) bS)))) (λ_ _ _ _ _ _=>(zv 1))) (zv 1)))
   (aE (aI 4 aX.nd (cE aC))
   (aE (aI 5 aX.nd (cE aC))
   (aE (cR PassesOwn.never rfl (jX K (zv 3)) (bT 6 aX.nd) (aE (aI 7 aX.nd (bP bH (bO (aQ K) T.ly Qae (aD (zv 4) aC)) aJ))
   (aE (bR (i8 K QJ QK QL bE (zv 5) (aS (aT (iF T) hr (aD (zv 7) aC)) aC)))
   (aF (bR (i8 K QJ PySem.F.slot_list_extend PySem.F.type_list_extend xN (zv 4) (aS (aT (tK T) hr (aD (zv 6) (aD (zv 7) aC))) aC)))))))
   (aE (aI 8 aX.nd (vY (Nn (zv 2)) (cF (aD (zv 0) (aS (zK rfl (by rfl) T.cU (by rfl) T.K0 (dN (kY ["word","kind"] [] ["word","kind"] (d6 aX) (jX K (zv 1)) (λ_ _ _ _ _ _=>(cT K (n:=2) rfl (aK (bF 0) (aK (bF 1) bS)))) (λ_ _ _ _ _ _=>(zv 0))) (aD (zv 5) aC))) aC))) (fL (cG K) T.cU QH (dM (bP bH (cE (aD (zv 0) aC)) (zv 5)) aC))))
   (aF (bA (aT (sP T) hr (aS (fL (cG K) T.cU QH (dM (bP bH (cE (cM (cF (aS (aT (iF T) hr (aG aJ aC)) (aD (zv 8) aC))) aC)) (zv 4)) aC)) (aS (aT (iF T) hr (aG aJ aC)) aC))))))))))),?_⟩
  have EL:∀z:Str,(false^^Ah (.str z) [V.str "box",V.str "pick"])=decide (z="box"\/z="pick"):=λz=>by
   rw[QF,show([V.str "box",V.str "pick"]:Qby)=(["box","pick"]:Qbo).map V.str from rfl,gP];simp
  refine aH λaW hW=>⟨_,.inr hW,rfl,rfl,?_⟩
  rw[EL];refine aM (λg d=>∃N,g=[some (.str h.bj),aa l,some (.bl (decide (h.bj="box"\/h.bj="pick"))),aa N,none,none,none,none,none]/\d N=bh (b.map λk=>V.ref k.a)/\ae H d) ?_ ?_
  ·intro oz jj;refine⟨_,rfl,jq (λc=>?_) (λc=>?_)⟩
   ·have hs:=Qt c;cases h with
    |as y=>cases hn
    |one s=>rcases hok with rfl|rfl<;>rcases hs with z|z<;>exact absurd z (by decide+kernel)
    |way x y=>rcases hs with z|z<;>exact absurd (show("way":Str)=_ from z) (by decide+kernel)
    |prs s ps=>
     obtain⟨ul,ua⟩:=pv;have kl:b.length=ps.length:=by simpa[Hd.bf]using hl
     refine .inl ⟨⟨us,ao.of jr⟩,λD hD=>?_⟩;refine gA (bI us) (λj τ d=>X2 λv0 v1=>τ=[v0,v1]/\d D=bh ((b.take j).map λk=>V.ref k.a)/\ae H d) ⟨none,none,rfl,aA,ae.upd hD _⟩ (by rintro j τ d _ ⟨_,_,_,_,s⟩;exact ao.of (s _ _ jr)) ?_ ?_
     ·rintro j τ d hj ⟨v0,v1,rfl,t,p⟩;have Dv:j<b.length:=by lia
      obtain⟨c,e1,e2⟩:=ua j hj (by lia) Dv;have eg:us.getD j .aq=.ref c:=cV hj e1;rw[eg];refine eI (p _ _ e2) ⟨_,t,by simp;lia,_,_,rfl,?_,p.put hD⟩;rw[aA,aP b j Dv,Qm];rfl
     ·rintro τ d ⟨v0,v1,rfl,t,p⟩;rw[Qab (by lia)]at t;exact jj _ _ ⟨D,rfl,t,p⟩
   ·have hs:=of_decide_eq_false c;have e:us=b.map λk=>V.ref k.a:=by
     cases h with
     |prs s ps=>exact absurd hok.1 hs
     |_=>exact pv
    exact jj _ _ ⟨l,rfl,by rw[<- e];exact jr,ae.refl _⟩
  rintro g H1 ⟨N,rfl,t1,s1⟩;refine aH ⟨rq,λR hR=>?_⟩;have s2:=ae.upd hR (.lst []);have r2:upd H1 R (.lst []) R=bh []:=aA
  (try dsimp only)
  generalize upd H1 R (.lst [])=H2 at s2 r2⊢;refine aH ⟨rq,λF hF=>?_⟩;have RI:F≠R:=λz=>by rw[z,r2]at hF;cases hF
  have s3:=ae.upd hF (.lst []);have f3:upd H2 F (.lst []) F=bh []:=aA;have r3:=s3 _ _ r2;have al:H1 F=none:=s2.free hF
  (try dsimp only)
  generalize upd H2 F (.lst [])=H3 at s3 f3 r3⊢;have vt:=s2.trans s3;refine aM (λg d=>X3 λG I o=>g=[some (.str h.bj),aa l,some (.bl (decide (h.bj="box"\/h.bj="pick"))),aa N,aa R,aa F,G,I,none]/\d R=bh o/\RV d o (qe 1 b)/\d F=bh ((fz 1 b).map V.str)/\ae H1 d) ?_ ?_
  ·intro oz jj;refine .inl ⟨⟨_,ao.of (vt _ _ t1)⟩,?_⟩;refine cA (bI (b.map λk=>V.ref k.a)) (λj g d=>X3 λG I o=>g=[some (.str h.bj),aa l,some (.bl (decide (h.bj="box"\/h.bj="pick"))),aa N,aa R,aa F,G,I,none]/\d R=bh o/\RV d o (qe 1 (b.take j))/\d F=bh ((fz 1 (b.take j)).map V.str)/\ae H1 d)
    ⟨none,none,[],rfl,r3,RV.nil,f3,vt⟩ (by rintro j g d _ ⟨_,_,_,_,_,_,_,s⟩;exact ao.of (s _ _ t1)) ?_ ?_
   ·rintro j g u hj ⟨G,I,o,rfl,t,p,q3,q4⟩;have Dv:j<b.length:=by simpa using hj
    have eg:(b.map λk=>V.ref k.a).getD j .aq=.ref b[j].a:=by rw[Qb,Qq,Qa Dv];rfl
    rw[eg,aP b j Dv,mH,pI];have rt:=(hk b[j] (Qj Dv)).tk (s1.trans q4).ts;have tt:=pJ b (j+1);rw[aP b j Dv,oV]at tt;have ul:=p.len;rw[kK]at ul;have fl:=dL (b.take j) 1;have ar:(b.take j).length<=10:=by rw[Qaa];lia
    generalize b[j]=kd at*;generalize iz (b.take j)=m at*;refine aH (.inl ⟨o,.inl (ao.of t),?_⟩);show Bq (GD (GX K "list" M5 (tV 5) (kc (E5 EK [] E0 (kc (tV 7) qf)) qf))) _ _ [some (.str h.bj),aa l,some (.bl (decide (h.bj="box"\/h.bj="pick"))),aa N,aa R,aa F,some (.ref kd.a),gy ((o.length:Int)+1),none] _;rw[show((o.length:Int)+1)=((1+m:Nat):Int)by lia];refine⟨.inl ⟨rfl,_,ao.of q3⟩,1+m,rfl,by lia,F,_,.str (br (1+m)),rfl,rfl,q3,by simp;lia,?_⟩;have am:R≠F:=λz=>RI z.symm;have s5:ae H1 (upd u F (.lst ((fz 1 (b.take j)).map V.str++[.str (br (1+m))]))):=q4.put al;have B0:Tk u (upd u F (.lst ((fz 1 (b.take j)).map V.str++[.str (br (1+m))]))):=(Tk.refl).set q3 λ_ z=>nomatch z;have f5:upd u F (.lst ((fz 1 (b.take j)).map V.str++[.str (br (1+m))])) F=bh ((fz 1 (b.take j)).map V.str++[.str (br (1+m))]):=aA;have r5:upd u F (.lst ((fz 1 (b.take j)).map V.str++[.str (br (1+m))])) R=bh o:=by rw[aB am];exact t
    generalize upd u F (.lst ((fz 1 (b.take j)).map V.str++[.str (br (1+m))]))=H5 at s5 B0 f5 r5;refine⟨.inl ⟨rfl,_,ao.of r5⟩,kd.a,kd.xs,kd.rows,kd.ns,ws,1+m,rfl,rt.tk B0,by lia,λL AW H6 hL s6 eL Ak=>?_⟩;have an:=Ak.len;rw[Ql]at an;have RJ:Tk H6 (upd H6 R (.lst (o++AW))):=(Tk.refl).set (s6 _ _ r5) λ_ z=>nomatch z;refine⟨R,L,o,AW,rfl,rfl,s6 _ _ r5,eL,by lia,_,_,o++AW,rfl,aA,(((p.tk B0).tk s6.ts).tk RJ).app (Ak.tk RJ),?_,(s5.trans s6).put hR⟩;rw[aB RI,Qm];exact s6 _ _ f5
   ·rintro g u ⟨G,I,o,rfl,t,p,q3,q4⟩;rw[Ql,Qo]at p q3;exact jj _ _ ⟨G,I,o,rfl,t,p,q3,q4⟩
  rintro g u ⟨G,I,o,rfl,t,p,q3,q4⟩;have aw:=hk;have fl:(fz 1 b).length=h.bf.length:=by rw[dL,hl]
  refine aM (λg d=>∃hv,g=[some (.str h.bj),aa l,some (.bl (decide (h.bj="box"\/h.bj="pick"))),aa N,aa R,aa F,G,I,some hv]/\HV d hv (lh h (fz 1 b))/\ae u d) ?_ ?_
  ·intro oz jj;have RK:=(s1.trans q4) _ _ jr;refine⟨_,rfl,jq (λc=>?_) (λc=>?_)⟩
   ·have hs:=Qt c;cases h with
    |as y=>cases hn
    |one s=>rcases hok with rfl|rfl<;>rcases hs with z|z<;>exact absurd z (by decide+kernel)
    |way x y=>rcases hs with z|z<;>exact absurd (show("way":Str)=_ from z) (by decide+kernel)
    |prs s ps=>
     obtain⟨ul,ua⟩:=pv;have kl:b.length=ps.length:=by simpa[Hd.bf]using hl
     refine .inl ⟨⟨us,ao.of RK⟩,λD hD=>?_⟩;refine gA (bI us) (λj τ d=>X2 λv0 v1=>τ=[v0,v1]/\d D=bh (((ps.take j).map (·.1)).map V.str)/\ae u d) ⟨none,none,rfl,aA,ae.upd hD _⟩ (by rintro j τ d _ ⟨_,_,_,_,s⟩;exact ao.of (s _ _ RK)) ?_ ?_
     ·rintro j τ d hj ⟨v0,v1,rfl,p1,p2⟩;have RL:j<ps.length:=by lia
      obtain⟨c,e1,e2⟩:=ua j hj RL (by lia);have eg:us.getD j .aq=.ref c:=cV hj e1;rw[eg];refine eI ((s1.trans (q4.trans p2)) _ _ e2) ⟨_,p1,by simp;lia,_,_,rfl,?_,p2.put hD⟩;rw[aA,aP ps j RL,Qm,Qm];rfl
     ·rintro τ d ⟨v0,v1,rfl,p1,p2⟩;rw[Qab (by lia)]at p1;refine⟨D,F,_,_,rfl,p1,p2 _ _ q3,by simp[dL];lia,λT2 AW H6 vq s6 e6 zp=>⟨kq,λT3 zy=>?_⟩⟩;have s7:=ae.upd zy (.tup [.str s,.ref T2]);refine jj _ _ ⟨.ref T3,rfl,?_,(p2.trans s6).trans s7⟩;have zl:=zp.len;rw[Ql,Ql]at zl;refine .prs aA (s7 _ _ e6) ⟨by simp[dL];lia,λi O Y=>?_⟩;obtain⟨cc,z1,z2⟩:=zp.at_ i O (by simp;lia) (by simp[dL];lia)
      refine⟨cc,z1,?_⟩;have q:=s7 _ _ z2;simp only[Qr]at q;simp only[Qa7,Qr];exact q
   ·have hs:=of_decide_eq_false c;have ab:∀(z:Str)(os:Qbo),h.bj=z->fz 1 b=os->(∀T d,d T=ig (.str z::os.map V.str)->HV d (.ref T) (lh h (fz 1 b)))->os.length<=10->yz (G_ K) (kc (l_ G1 (GQ (kc (tV 0) qf)) (tV 5)) qf) [some (.str h.bj),aa l,some (.bl (decide (h.bj="box"\/h.bj="pick"))),aa N,aa R,aa F,G,I,none] u λx H1=>oz [some (.str h.bj),aa l,some (.bl (decide (h.bj="box"\/h.bj="pick"))),aa N,aa R,aa F,G,I,some x] H1:=by
     intro z os ez eo hh DY;refine⟨BR,λL1 Ba=>?_⟩;have s1:=ae.upd Ba (.lst [.str h.bj]);refine⟨_,_,aA,s1 _ _ q3,by simp[eo];lia,λL2 EB=>?_⟩;have s2:=ae.upd EB (.lst ([V.str h.bj]++(fz 1 b).map V.str));refine⟨L2,_,rfl,.inl ⟨ao.of aA,λT hT=>?_⟩⟩;have s3:=ae.upd hT (.tup ([V.str h.bj]++(fz 1 b).map V.str));exact jj _ _ ⟨.ref T,rfl,hh T _ (by rw[aA,ez,eo];rfl),(s1.trans s2).trans s3⟩
    cases h with
    |as y=>cases hn
    |one s=>
     have e:fz 1 b=[]:=List.length_eq_zero_iff.mp (by rw[fl];rfl);exact ab s [] rfl e (λT d e=>.one e) (by simp)
    |way x y=>
     obtain⟨o1,r,e⟩:=Qaz (l:=fz 1 b) (by rw[fl];exact Nat.succ_pos _);obtain⟨o2,r2,rfl⟩:=Qaz (l:=r) (by rw[e]at fl;simp[Hd.bf]at fl;lia);have e0:r2=[]:=by rw[e]at fl;simpa[Hd.bf]using fl
     subst e0;exact ab "way" [o1,o2] rfl e (λT d e'=>by rw[e];exact .way e') (by simp)
    |prs s ps=>exact absurd hok.1 hs
  rintro g H5 ⟨hv,rfl,Gq,s5⟩;have ud:=s5 _ _ t;have RG:=q4.trans s5;refine⟨0,rfl,by decide,kq,λT1 B_=>?_⟩;have a1:=ae.upd B_ (.tup [.str (br 0),hv]);refine⟨BR,λL1 Ba=>?_⟩;have a2:=ae.upd Ba (.lst [.ref T1]);refine⟨_,_,aA,(a1.trans a2) _ _ ud,by have:=p.len;rw[kK]at this;simp;lia,λL2 EB=>?_⟩;have a3:=ae.upd EB (.lst ([V.ref T1]++o));refine⟨L2,_,rfl,.inl ⟨ao.of aA,λT2 vq=>?_⟩⟩;have a4:=ae.upd vq (.tup ([V.ref T1]++o));have RN:=(a2.trans a3).trans a4;have Mn:=a1.trans RN;have sH:=s1.trans (RG.trans Mn);refine⟨0,rfl,by decide,T2,_,i_ h b,yg b,ws,br 0,rfl,Z1 hk hok hn ag hl ah aA (RV.app (RV.nil.snoc (r:=(br 0,lh h (fz 1 b))) (RN _ _ aA) (Gq.tk Mn.ts)) (p.tk (s5.trans Mn).ts)),hw,by simp[yg],kf.same sH,kt.same sH,λT ys i d hT s6 len C nd f0 rt=>?_⟩;rw[vO hk hn]at len C f0 rt;exact k T ys i d (sH.free hT) (sH.trans s6) len C f0 rt.at_ rt.rv
def vN(x:Str):Str:=("v":Str)++x
theorem a4c:∀z∈N8,isName (vN z)=true/\Wd (vN z):=by
 have b:N8.all (λz=>isName (vN z)&&decide ((vN z).length<=20)&&(vN z).cps.toList.all (λc=>decide (c<128)))=true:=by decide+kernel
 intro z d;have a:=List.all_eq_true.mp b z d;simp only[QaM,decide_eq_true_eq]at a;exact⟨a.1.1,a.1.2,λc e=>Qt (List.all_eq_true.mp a.2 c e)⟩
theorem a3m:∀x∈N8,∀y∈N8,vN x=vN y->x=y:=by decide+kernel
inductive Mp (vs:Qby)(H:Hp)(Q:VK)(b_:XK):Prop
 |mk (a:Addr) (xs:Qby) (rows:List aj) (ns:Qbo):vs=[.ref a]->RT H a xs rows ns WW->(∀n∈ns,n∈N8)->(∀(b:Addr)(ys:Qby)(U:Hp),ae H U->RT U b ys (rows.map (ic vN id)).reverse (ns.map vN) WW->Q (.ref b) U)->Mp vs H Q b_
set_option maxHeartbeats 4000000 in
theorem mN(T:Txt K mg w):bq P w K mg base 1 "_law_renamed" ["_law_told"] Mp:=by
 refine T.o9.gw bB ?_ ?_
 ·rintro _ _ _ _ ⟨a,xs,m,ns,rfl,_⟩;rfl
 ·rintro f bc A ag s H vs Q E hr ⟨a,xs,m,ns,rfl,rt,h8,k⟩;obtain⟨hu,iu,hsz⟩:=dF hr;have few:=rt.few;have rl:=rt.rl;have xl:=rt.rv.len;have Gr:∀z∈ns,z.length<=8:=λz t=>fZ (oQ z (h8 z t)).1;refine⟨_,(aE (aI 1 bB.nd (cE aC))
   (aE (cR PassesOwn.never rfl (jX K (zv 0)) (cT K (n:=2) rfl (aK (bT 2 bB.nd) (aK (bT 3 bB.nd) bS))) (aE (eX (aU (qP K) (aV K (zv 3) aJ) (cF (aG bK (aG bK aC))) rfl) (aF (aI 3 bB.nd (bP (XW K) (lS (G4 K) (zv 3) lW (lU aJ)) (fL (cG K) T.cU QH (dN (kY ["_law_other"] [] ["_law_other"] (d6 bB) (jX K (lS (G4 K) (zv 3) (lU aJ) lW)) (λ_ _ _ _ _ _=>(bF 0)) (λ_ _ _ _ _ _=>(bP bH bK (zv 0)))) aC))))) (aF (eX (aU qM (bO (aQ K) T.ly Qae (aD (zv 3) aC)) aJ) (aE (Nr (i:=4) (own:=["_law_word","_law_other"]) (idx:=[]) (N':=["_law_word","_law_other"]) (d6 bB) rfl (jX K (aV K (zv 3) aJ)) (λ_ _ _ _ _ _=>(cT K (n:=2) rfl (aK (bF 0) (aK (bF 1) bS)))) (λ_ _ _ _ _ _=>g9) (λ_ _ _ _ _ _=>(cF (aD (zv 0) (dM (bP bH bK (zv 1)) aC)))) bB.nd rfl rfl)
   (aF (aI 3 bB.nd (cF (aL (aV K (zv 3) aJ) (aS (fL (cG K) T.cU QH (aD (zv 4) aC)) aC)))))) cJ)))
   (aF (bR (i8 K QJ QK QL bE (zv 1) (cM (cF (dM (bP bH bK (zv 2)) (aD (zv 3) aC))) aC))))))
   (aF (bA (fL (cG K) T.cU QH (aL (Zn K (zv 1) (Wh TL aJ)) aC)))))),?_⟩
  refine aH ⟨rq,λR hR=>?_⟩;have s0:=ae.upd hR (.lst []);have r0:upd H R (.lst []) R=bh []:=aA
  (try dsimp only)
  generalize upd H R (.lst [])=H0 at s0 r0⊢;refine aM (λG q=>X4 λv2 v3 v4 o=>G=[aa a,aa R,v2,v3,v4]/\q R=bh o/\RV q o (m.map (ic vN id))/\ae H q) ?_ ?_
  ·intro oz jj;refine .inr ⟨⟨xs,ay.of (s0 _ _ rt.at_)⟩,?_⟩;refine cA (dE xs) (λj G q=>X4 λv2 v3 v4 o=>G=[aa a,aa R,v2,v3,v4]/\q R=bh o/\RV q o ((m.map (ic vN id)).take j)/\ae H q) ⟨none,none,none,[],rfl,r0,RV.nil,s0⟩ (by rintro j G q _ ⟨_,_,_,_,_,_,_,s⟩;exact ay.of (s _ _ rt.at_)) ?_ ?_
   ·rintro j G H1 hj ⟨v2,v3,v4,o,rfl,L,I,q3⟩;have xn:j<m.length:=by lia
    obtain⟨b,v,e1,e2,e3⟩:=rt.rv.at_ j hj xn
    have eg:xs.getD j .aq=.ref b:=cV hj e1;rw[eg];have vp:(m.map (ic vN id)).take (j+1)=(m.map (ic vN id)).take j++[ic vN id m[j]]:=by
     rw[aP _ j (by simpa using xn)];simp
    rw[vp];have ul:=I.len;have RE:o.length<=30:=by rw[ul,Qaa];lia
    have ok:=(rt.ok _ (Qj xn)).2;have mn:m[j].1∈ns:=rt.nm.mem_iff.mp (Yy.mpr ⟨_,Qj xn,rfl⟩);have nl:=Gr _ mn;have e3:=e3.same q3;have e2:=q3 _ _ e2;generalize m[j]=r at*;obtain⟨nm,h⟩:=r;have nl:nm.length<=8:=nl;refine eI e2 ?_;refine aM (λG q=>X2 λv4 hv=>G=[aa a,aa R,fb nm,some hv,v4]/\HV q hv (h.qb vN id)/\ae H1 q) ?_ ?_
    ·intro Mc Dp;clear k I vp;have ab:∀(c:Addr)(z:Str)(l:Qby)(A B:TS)(D:Ends),H1 c=ig (.str z::l)->((z∈(["way","as"]:Qbo))->∀u,ae H1 u->A D [aa a,aa R,fb nm,aa c,v4] u)->((z∉(["way","as"]:Qbo))->∀u,ae H1 u->B D [aa a,aa R,fb nm,aa c,v4] u)->
       GF (E2 (l_ (G2 K false) (l_ (CF K) (tV 3) (tC (V.int 0))) (Jj (kc (tC (V.str "way")) (kc (tC (V.str "as")) qf))))) A B D [aa a,aa R,fb nm,aa c,v4] H1:=by
      intro c z l A B D e hA hB;refine⟨_,.str z,.inr (ay.of e),aO _ _,kq,λT1 B_=>⟨[.str "way",.str "as"],.inr (ay.of aA),rfl,rfl,_,rfl,?_⟩⟩;show if(false^^Ah (.str z) (([("way":Str),"as"]:Qbo).map V.str))=true then _ else _
      rw[gP,QF];by_cases t:z∈(["way","as"]:Qbo)
      ·rw[Qw t];exact CB (hA t _ (ae.upd B_ _))
      ·rw[Qx t];exact xw (hB t _ (ae.upd B_ _))
     have af:∀(c:Addr)(z0:Str)(l:Qbo),H1 c=ig (.str z0::l.map V.str)->(l.length=1\/l.length=2)->(∀y∈l,y.length<=8)->(∀(pp:Addr)(q:Hp),q pp=ig (.str z0::(l.map vN).map V.str)->HV q (.ref pp) (h.qb vN id))->
       ∀u,ae H1 u->l_ (Kc K) (DK (λx lo hi H Q=>CG x lo hi H Q\/(Cu K x lo hi H Q\/Cs K x lo hi H Q)) (tV 3) DI (DJ (tC (V.int 1)))) (yz (G_ K) (kc (CD ["_law_other"] [] (iD K (DK (λx lo hi H Q=>CG x lo hi H Q\/(Cu K x lo hi H Q\/Cs K x lo hi H Q)) (tV 3) (DJ (tC (V.int 1))) DI)) (n_ 0) Fe (l_ G1 (tC (V.str "v")) (tV 0))) qf)) [aa a,aa R,fb nm,aa c,v4] u λx q=>Mc [aa a,aa R,fb nm,some x,v4] q:=by
      intro c z0 l e hl ah kk u s1;have e1:=s1 _ _ e;have el:(V.str z0::l.map V.str).length=l.length+1:=by simp
      refine⟨1,rfl,Or.inr (Or.inr ⟨c,_,rfl,ay.of e1,?_,λN hN=>?_⟩)⟩
      ·rw[el];rcases hl with h|h<;>(rw[h];decide)
      have ec:qx (V.str z0::l.map V.str) none (some 1)=[.str z0]:=(zC _ 1).trans rfl;rw[ec];have C:=s1.trans (ae.upd hN (.tup [.str z0]));have f2:upd u N (.tup [.str z0]) N=ig [.str z0]:=aA;generalize upd u N (.tup [.str z0])=H3 at C f2⊢;refine⟨1,rfl,Or.inr (Or.inr ⟨c,_,rfl,ay.of (C _ _ e),?_,λM hM=>?_⟩)⟩
      ·rw[el];rcases hl with h|h<;>(rw[h];decide)
      have al:qx (V.str z0::l.map V.str) (some 1) none=l.map V.str:=(rJ _ 1).trans rfl;rw[al];have Mq:=ae.upd hM (.tup (l.map V.str));have s3:=C.trans Mq;have f3:upd H3 M (.tup (l.map V.str)) M=ig (l.map V.str):=aA;have RP:=Mq _ _ f2;generalize upd H3 M (.tup (l.map V.str))=H4 at s3 Mq f3 RP⊢;refine Or.inr ⟨⟨_,ay.of f3⟩,λD hD=>?_⟩;refine gA (dE (l.map V.str)) (λi τ q=>∃v0,τ=[v0]/\q D=bh (((l.map vN).take i).map V.str)/\ae H4 q) ⟨none,rfl,aA,ae.upd hD _⟩ (by rintro i τ q _ ⟨_,_,_,s⟩;exact ay.of (s _ _ f3)) ?_ ?_
      ·rintro i τ H5 hi ⟨v0,rfl,L,I⟩;rw[Ql]at hi;have eg:(l.map V.str).getD i .aq=.str l[i]:=by rw[Qb,Qq,Qa hi];rfl
       rw[eg];have hy:=ah _ (Qj hi);refine⟨by show 1+l[i].length<=sizeLine;lia,_,L,by simp;lia,_,rfl,?_,I.put hD⟩;rw[aA,aP _ i (by simpa using hi),Qm,Qr];rfl
      ·rintro τ H5 ⟨v0,rfl,L,I⟩;rw[Qab (by simp)]at L;refine⟨D,_,rfl,.inl ⟨ao.of L,λN2 am=>?_⟩⟩;have s5:=ae.upd am (.tup ((l.map vN).map V.str));have f5:upd H5 N2 (.tup ((l.map vN).map V.str)) N2=ig ((l.map vN).map V.str):=aA;generalize upd H5 N2 (.tup ((l.map vN).map V.str))=H6 at s5 f5⊢;refine XX (s5 _ _ (I _ _ RP)) f5 (by simp;lia) λpp H7 s6 e6=>?_;exact Dp _ _ ⟨v4,.ref pp,rfl,kk pp H7 e6,(((s3.trans I).trans s5).trans s6)⟩
     cases e3 with
     | @one c z e=>
      refine ab c z [] _ _ _ e (λt u C=>?_) (λt u C=>?_)
      ·rcases ok with rfl|rfl<;>exact absurd t (by decide+kernel)
      ·refine .inl ⟨_,.inr (ay.of (C _ _ e)),?_⟩;exact⟨_,rfl,xw (Dp _ _ ⟨v4,_,rfl,.one (C _ _ e),C⟩)⟩
     | @as c y e=>
      refine ab c "as" [.str y] _ _ _ e (λt u C=>?_) (λt u C=>absurd (by simp) t);exact af c "as" [y] e (.inl rfl) (λz t=>by rw[qI.mp t];exact Gr _ ok.2) (λpp q e'=>.as e') u C
     | @way c x y e=>
      refine ab c "way" [.str x,.str y] _ _ _ e (λt u C=>?_) (λt u C=>absurd (by simp) t);refine af c "way" [x,y] e (.inr rfl) (λz t=>?_) (λpp q e'=>.way e') u C;simp only[Qp,QB,or_false]at t;rcases t with rfl|rfl
      ·exact Gr _ ok.2.2.1
      ·exact Gr _ ok.2.2.2
     | @prs c d s0 l ps e ec hp=>
      refine ab c s0 [.ref d] _ _ _ e (λt u C=>?_) (λt u C=>?_)
      ·rcases ok.1 with rfl|rfl<;>exact absurd t (by decide+kernel)
      have gr:=hp.len;obtain⟨hs,FZ,aen,DY⟩:=ok;refine .inl ⟨_,.inr (ay.of (C _ _ e)),_,rfl,CB ?_⟩;refine⟨_,.ref d,.inr (ay.of (C _ _ e)),rfl,Or.inr ⟨⟨l,ay.of (C _ _ ec)⟩,λD hD=>?_⟩⟩;refine gA (dE l) (λi τ q=>X3 fun(v0 v1:Qbz)(o:Qby)=>τ=[v0,v1]/\q D=bh o/\BB q o ((ps.map λp=>(p.1,vN p.2)).take i)/\ae u q) ⟨none,none,[],rfl,aA,⟨rfl,λi h=>absurd h (by simp)⟩,ae.upd hD _⟩ (by rintro i τ q _ ⟨_,_,_,_,_,_,s⟩;exact ay.of ((C.trans s) _ _ ec)) ?_ ?_
      ·rintro i τ H5 hi ⟨v0,v1,o,rfl,L,I,q3⟩;have yj:i<ps.length:=by lia
       obtain⟨d0,r1,r2⟩:=hp.at_ i hi yj
       have eg:l.getD i .aq=.ref d0:=cV hi r1;rw[eg];have hy:=Gr _ (FZ _ (Qj yj)).2.2;refine eI ((C.trans q3) _ _ r2) ?_;refine⟨by show 1+ps[i].2.length<=sizeLine;lia,kq,λT3 zy=>?_⟩;have s6:=ae.upd zy (.tup [.str ps[i].1,.str (vN ps[i].2)]);have ul:=I.len;have RE:o.length<=10:=by rw[ul,Qaa];simp;lia
       have tk:Tk (upd H5 T3 (.tup [.str ps[i].1,.str (vN ps[i].2)])) (upd (upd H5 T3 (.tup [.str ps[i].1,.str (vN ps[i].2)])) D (.lst (o++[.ref T3]))):=(Tk.refl).set (s6 _ _ L) λ_ z=>nomatch z;refine⟨o,s6 _ _ L,by lia,_,_,o++[.ref T3],rfl,aA,?_,(q3.trans s6).put hD⟩;rw[aP _ i (by simpa using yj),Qr];exact((I.tk s6.ts).tk tk).snoc (tk _ _ aA)
      ·rintro τ H5 ⟨v0,v1,o,rfl,L,I,q3⟩;rw[Qab (by simp;lia)]at I;have Dq:=C.trans q3;refine⟨_,.str s0,.inr (ay.of (Dq _ _ e)),aO _ _,D,o,rfl,.inl ⟨ao.of L,λT2 vq=>⟨kq,λT4 Du=>?_⟩⟩⟩;have s6:=ae.upd vq (.tup o);have s7:=ae.upd Du (.tup [.str s0,.ref T2]);exact Dp _ _ ⟨_,.ref T4,rfl,.prs aA (s7 _ _ aA) (I.tk (s6.trans s7).ts),(Dq.trans s6).trans s7⟩
    rintro G H5 ⟨ar,hv,rfl,Gq,s5⟩;refine⟨.inl ⟨rfl,_,ao.of (s5 _ _ L)⟩,by show 1+nm.length<=sizeLine;lia,kq,λT4 Du=>?_⟩;have s6:=ae.upd Du (.tup [.str (vN nm),hv]);have tk:Tk (upd H5 T4 (.tup [.str (vN nm),hv])) (upd (upd H5 T4 (.tup [.str (vN nm),hv])) R (.lst (o++[.ref T4]))):=(Tk.refl).set ((s5.trans s6) _ _ L) λ_ z=>nomatch z;refine⟨R,o,.ref T4,rfl,rfl,(s5.trans s6) _ _ L,by lia,_,_,_,o++[.ref T4],rfl,aA,?_,(q3.trans (s5.trans s6)).put hR⟩;exact((I.tk (s5.trans s6).ts).tk tk).snoc (r:=ic vN id (nm,h)) (tk _ _ aA) ((Gq.tk s6.ts).tk tk)
   ·rintro G H1 ⟨v2,v3,v4,o,rfl,L,I,q3⟩;rw[Qab (by simp;lia)]at I;exact jj _ _ ⟨v2,v3,v4,o,rfl,L,I,q3⟩
  rintro G H1 ⟨v2,v3,v4,o,rfl,L,I,q3⟩;refine⟨1,rfl,rfl,R,o,rfl,ao.of L,λR2 an=>?_⟩;refine⟨R2,_,rfl,.inl ⟨ao.of aA,λT2 vq=>?_⟩⟩;have s4:=(ae.upd an (.lst o.reverse)).trans (ae.upd vq (.tup o.reverse));refine k T2 o.reverse _ (q3.trans s4) ?_;have ap:=rt.tk (q3.trans s4).ts;refine ap.qb (f:=vN) (g:=id) (List.reverse_perm _) aA (I.rev.tk s4.ts) (λx hx y hy e=>a3m x (h8 x hx) y (h8 y hy) e) (λx hx=>a4c x (h8 x hx)) (λz t=>⟨(K6 z t).1,t⟩) (λos _ hr=>by simpa using hr)
structure EN(rows:List aj)(ns:Qbo)(e:Str)(k:Kd):Prop where
 mem:br 0∈k.ns
 hd:k.rows[0]?.map (·.1)=some (br 0)
 en:endOf k.rows (br 0)=br 0
 nb:bu rows k.rows (e,br 0)
 few:k.rows.length<=ns.length
theorem kdOf{rows:List aj}{e:Str}{T:Addr}{ys:Qby}(C:jc rows ns (az rows e i))(b:e∈az rows e i):EN rows ns e ⟨T,ys,cz rows (az rows e i),(au rows (az rows e i)).map (cN rows (au rows (az rows e i)))⟩:=by
 have a:cN rows (au rows (az rows e i)) e=br 0:=by rw[ZQ];rfl
 obtain⟨r,hr⟩:=nY rows e i;obtain⟨r',ff⟩:=nH (rows:=rows) e r;have c:au rows (az rows e i)=e::r':=by rw[hr,ff]
 refine⟨?_,?_,uM C _,?_,?_⟩
 ·rw[<- a];exact O1 (lq _) b
 ·show(cz rows (az rows e i))[0]?.map (·.1)=_;unfold cz;rw[Qq,show(au rows (az rows e i))[0]? =some e by rw[c];rfl];exact congrArg some a
 ·have:=ZK C b;rw[a]at this;exact this
 ·show(cz rows (az rows e i)).length<=_;rw[cz,Ql];exact C.Pa
theorem a1K{d:Qbo}{h:Hd}(ok:h.ok ns)(hs:∀y∈ns,y∈d):h.ok d:=by
 cases h with
 |one s=>exact ok
 |as y=>exact⟨ok.1,hs _ ok.2⟩
 |way y z=>exact⟨ok.1,ok.2.1,hs _ ok.2.2.1,hs _ ok.2.2.2⟩
 |prs s ps=>exact⟨ok.1,λp e=>let ⟨a,b,c⟩:=ok.2.1 p e;⟨a,b,hs _ c⟩,ok.2.2⟩
theorem a37(h:Hd):h.qb id id=h:=by
 cases h with
 |prs s ps=>simp[Hd.qb]
 |_=>rfl
theorem a0H{h:Hd}:BV H [] [] h:=by
 cases h<;>first|rfl|exact⟨rfl,λi h=>absurd h (by simp)⟩
theorem vU{us:Qby}{ks:List Kd}{h:Hd}(q:BV H us ks h)(s:Tk H U):BV U us ks h:=by
 cases h with
 |prs z ps=>exact⟨q.1,λi a b d=>let ⟨c,e1,e2⟩:=q.2 i a b d;⟨c,e1,s _ _ e2⟩⟩
 |_=>exact q
theorem wF{rows:List aj}{ns:Qbo}{n:Nat}:∀{ks:List Kd},(∀k∈ks,k.rows.length<=n)->iz ks<=n*ks.length
 | [],_=>by simp[iz]
 |k::ks,h=>by
  have c:=h k (by simp);have d:=wF (rows:=rows) (ns:=ns) (ks:=ks) λa b=>h a (by simp[b]);simp only[iz,Qaf,Nat.mul_succ]
  lia
theorem a1h{rows:List aj}{h:Hd}(ok:h.ok ns)(a:∀z∈h.qa,z∈WW):h.bf.length<=4:=by
 cases h with
 |prs s ps=>
  have b:=jA ok.2.2.1;have:=cZ b (m:=WW) λx c=>a x c;have d:WW.length=4:=by decide
  simpa[Hd.bf,d]using this
 |_=>simp[Hd.bf]
set_option maxHeartbeats 8000000 in
theorem a3s(T:Txt K mg w):bq P w K mg base 14 "law" ["script"] (IM K mg):=by
 refine T.Pe.gw dQ ?_ ?_
 ·rintro _ _ _ _ ⟨a,ns,rfl,_⟩;rfl
 ·rintro f bc A am s H vs Q E hr ⟨F,an,rfl,ap,bi,⟨kf,kt⟩,k⟩;have hu:=cW hr;have iu:=Qy (cW hr);have LW:=qC hr;have Mr:=Zw hr;have bk:sizeLine=16777216:=QM;have hw:∀z∈WW,Wd z:=λz hz=>(K6 z hz).2;refine⟨_,(aE (aI 1 dQ.nd (cE (aD (zv 0) (aG aJ (aG aJ aC)))))
   (aE (cR PassesOwn.never rfl (rX (by rfl) T.wG (aG aJ aC)) (bT 2 dQ.nd) (aE (aI 3 dQ.nd (aT (nE T) hr (aD (zv 1) (aG aJ aC))))
   (aE (aI 4 dQ.nd (aT (tJ T) hr (aD (zv 1) (aD (zv 3) aC))))
   (aE (aI 5 dQ.nd (aT (sP T) hr (aD (zv 3) (aD (zv 4) aC))))
   (aE (aI 6 dQ.nd (aV K (aT (nR T) hr (aD (zv 3) (aD (zv 4) aC))) aJ))
   (aE (aI 7 dQ.nd (cE aC))
   (aE (cR PassesOwn.never rfl (jX K (aT (rN T) hr (aD (zv 3) (aD (zv 4) aC)))) (bT 8 dQ.nd) (aE (aI 9 dQ.nd (aT (sP T) hr (aD (zv 3) (aS (aT (yG T) hr (aD (zv 3) (aD (zv 4) (cM (cF (aD (zv 8) aC)) aC)))) aC))))
   (aF (eX (aU (iO iu) (zv 6) bK) (aF (bR (i8 K QJ QK QL bE (zv 7) (aD (zv 9) aC)))) (aF (bR (i8 K QJ QK QL bE (zv 7) (cM (cF (aL (aV K (zv 8) aJ) (aD (zv 9) aC))) aC))))))))
   (aE (eX (aU (vG Mr) (aT (lH T) hr (aD (zv 6) (aD (zv 7) aC))) (zv 5)) (aF (bA uB)) cJ)
   (aE (eX (aU (vG Mr) (aT (sP T) hr (aS (aT (mN T) hr (aD (zv 3) aC)) (dM (bP bH bK (zv 4)) aC))) (zv 5)) (aF (bA uB)) cJ)
   (aE (eX (aU (vG Mr) (aT (sP T) hr (dM (bP (Xf K) (cF (cM (cF (aG bK (cM (cF (aG bK (aD (zv 4) aC))) aC))) aC)) (zv 3)) (aG bK aC))) (zv 5)) (aF (bA uB)) cJ)
   (aF (cR PassesOwn.never rfl (jX K (zv 5)) (cT K (n:=2) rfl (aK (bT 10 dQ.nd) (aK (bT 11 dQ.nd) bS))) (aF (eX (aU qM (bO (aQ K) T.ly Qae (aS (aT (sP T) hr (aD (zv 5) (aD (zv 10) aC))) aC)) (bO (aQ K) T.ly Qae (aD (zv 5) aC))) (aF (bA uB)) cJ))))))))))))))
   (aF (bA uB)))),?_⟩
  refine aH ⟨OT,λp hp=>?_⟩;have RQ:=a0M ap hp
  (try dsimp only)
  generalize upd H p (.lst [.ref F,.int 0,.int 0])=H1 at RQ;refine aM (λo G=>True) ?_ (λo G _=>k G);intro nx dz;refine⟨4,rfl,by decide,by decide,?_⟩;refine cA (pE 0 4) (λi o G=>KZ λv2 v3 v4 v5 v6 v7 v8 v9 ab af=>o=[aa F,aa p,v2,v3,v4,v5,v6,v7,v8,v9,ab,af]/\gg K H G p (i*1901))
   ⟨none,none,none,none,none,none,none,none,none,none,rfl,RQ⟩ (λ_ _ _ _ _=>trivial) ?_ (λo G _=>dz _ _ trivial)
  rintro i o H2 hi ⟨v2,v3,v4,v5,v6,v7,v8,v9,ab,af,rfl,ar⟩;have bl:i<4:=hi;refine aH ⟨H,p,7,i*1901,rfl,ar,by lia,⟨by decide,by decide⟩,λa xs rows ns H3 rt bm h8 Ez xf=>?_⟩;refine aH ⟨H,p,a,_,xs,rows,ns,WW,rfl,Ez,by lia,rt,λx H5 hx Bc w_=>?_⟩;have AD:=Kn.RC kf hp Bc;have uo:=Kn.RC kt hp Bc;have N:=rt.tk (Ez.ts w_);have g:=N.CW hw;have hf:=g.stay hx
  (try dsimp only)
  refine aH ⟨a,xs,rows,ns,WW,x,rfl,N,hw,hx,AD,uo,λT0 Dw q0 H6 bn s6 l0 C0 EM f0 EO=>?_⟩;have N:=N.tk s6.ts;have AD:=AD.same s6;have uo:=uo.same s6;have aw:=Bc.same s6;obtain⟨rs,gt,nm,rl,wg⟩:=N.good hw;have hm:∀z,z∈ns↔z∈rs.map (·.1):=λz=>by rw[nm];exact N.nm.mem_iff.symm
  obtain⟨z1,z2,z3⟩:=N.AR hw hx;generalize Gs:endOf rows x=d at*;have hf:gj rows ns d:=hf;have L0:∀{j:Nat}{B:List aj}{nB:Qbo}{f2:Str},jc B nB (az B f2 j)->(az B f2 j).length=j->f2∈az B f2 j->bu rows B (d,f2)->cz B (az B f2 j)=cz rows (az rows d q0):=λC l m n=>(ZU C0 C l0 l f0 m n).symm
  (try dsimp only)
  refine aH ⟨a,xs,rs,_,_,x,rfl,gt,(hm x).mp hx,λv H7 s7 hv=>?_⟩;have Ms:=s7;have Gq:HV H6 v (ai rows d):=by
   have e:mj (jb rows) rs.length x=d:=by rw[rl];exact Gs
   rw[e]at hv;exact wg d v z1 hv
  obtain⟨cv,cys,rfl,ecv⟩:=Gq.bj;refine⟨_,.str (ai rows d).bj,.inr (ay.of (Ms _ _ ecv)),aO _ _,?_⟩;refine aH ⟨rq,λI RS=>?_⟩;have s8:=ae.upd RS (.lst []);have k8:upd H7 I (.lst []) I=bh []:=aA
  (try dsimp only)
  generalize upd H7 I (.lst [])=H8 at s8 k8⊢;have IP:=Ms.trans s8;have ax:H6 I=none:=Ms.free RS;have bo:(ai rows d).bf.length<=4:=a1h (rows:=rows) z3 λz hz=>N.ww _ (g.HH z1) z hz;have IQ:(ak rows d).length=(ai rows d).bf.length:=by unfold ak;rw[hf.2];simp
  have BX:=gZ hf.2;refine aM (λo G=>X4 λv8 v9 us ks=>o=[aa F,aa p,gy (0+(i:Int)),aa a,fb x,aa T0,some (.str (ai rows d).bj),aa I,v8,v9,ab,af]/\G I=bh us/\BV G us ks (ai rows d)/\ks.length=(ak rows d).length/\qo (ws:=WW) G ks/\(∀j(O:j<ks.length)(Y:j<(ak rows d).length),EN rows ns (ak rows d)[j].2 ks[j])/\ae H6 G) ?_ ?_
  ·intro oz jj;have e1:ak rows x=ak rows d:=by unfold ak;rw[Gs,hf.2]
   refine⟨a,xs,rows,ns,WW,x,rfl,N.tk IP.ts,hw,hx,AD.same IP,uo.same IP,λL us H9 hL s9 eL sv=>.inl ⟨⟨us,ao.of eL⟩,?_⟩⟩;rw[e1]at sv;have a1:=sv.len;rw[Ql]at a1;have a2:=IP.trans s9;refine cA (bI us) (λj o G=>X4 λv8 v9 d_ ks=>o=[aa F,aa p,gy (0+(i:Int)),aa a,fb x,aa T0,some (.str (ai rows d).bj),aa I,v8,v9,ab,af]/\G I=bh d_/\BV G d_ ks (ai rows d)/\d_.length=j/\ks.length=j/\qo (ws:=WW) G ks/\(∀j(O:j<ks.length)(Y:j<(ak rows d).length),EN rows ns (ak rows d)[j].2 ks[j])/\G L=bh us/\SV G us ((ak rows d).map (·.1))/\ae H6 G)
    ⟨v8,v9,[],[],rfl,s9 _ _ k8,a0H,rfl,rfl,(λk h=>nomatch h),(λj h=>absurd h (by simp)),eL,sv,a2⟩ (by rintro j o G _ ⟨_,_,_,_,_,_,_,_,_,_,_,s,_⟩;exact ao.of s) ?_ ?_
   ·rintro j o uq hj ⟨w8,w9,d_,ks,rfl,q1,q2,q3,q4,q5,q6,q7,al,q8⟩;have Az:j<(ak rows d).length:=by lia
    obtain⟨sb,b1,b2⟩:=al.at_ j hj (by simpa using Az)
    have eg:us.getD j .aq=.ref sb:=cV hj b1;rw[eg];rw[Qr]at b2;have mm:=Qj Az;have mv:=iC (g.wj hf) mm;have RU:gj rows ns (ak rows d)[j].2:=g.fq hf mv;have sj:(ak rows d)[j].1=(stH (ai rows d))[j]'(by rw[<- BX];simpa using Az):=by
     have:=Qbh BX (i:=j) (by simpa using Az);simpa using this
    have kj:∀k,EN rows ns (ak rows d)[j].2 k->∀i(O:i<(ks++[k]).length)(Y:i<(ak rows d).length),EN rows ns (ak rows d)[i].2 (ks++[k])[i]:=λk hk i O Y=>by
     by_cases hi:i<ks.length
     ·rw[Qe hi];exact q6 i hi Y
     ·have ei:i=j:=by simp at O;lia
      subst ei;rw[Qf (by lia)];simp only[q4,Qar,uI];exact hk
    refine aH ⟨BR,λr ni=>?_⟩;have jo:=ae.upd ni (.tup [.ref sb]);have RW:upd uq r (.tup [.ref sb]) r=ig [.ref sb]:=aA;generalize upd uq r (.tup [.ref sb])=AB at jo RW;have IR:=q8.trans jo;refine⟨a,r,xs,[.ref sb],rows,ns,WW,x,[(ak rows d)[j].1],rfl,N.tk IR.ts,hw,hx,AD.same IR,uo.same IR,RW,⟨rfl,λi O Y=>?_⟩,λDs ag=>?_⟩
    ·have:i=0:=by simp at O;lia
     subst this;exact⟨sb,rfl,b2.same jo⟩
    have eo:Hy (zk rows (endOf rows x) [(ak rows d)[j].1])=.str (ak rows d)[j].2:=by
     rw[Gs];unfold zk;rw[mv];rfl
    rw[eo];have Mt:=IR.trans ag;refine⟨a,xs,rows,ns,WW,(ak rows d)[j].2,rfl,N.tk Mt.ts,hw,RU.1,AD.same Mt,uo.same Mt,λTj IS ij xj bp vt lj Cj bs fj Mu=>?_⟩;rw[RU.2]at lj Cj fj Mu;have kd:=kdOf (T:=Tj) (ys:=IS) Cj fj;have bt:RT xj (Kd.mk Tj IS (cz rows (az rows (ak rows d)[j].2 ij)) ((au rows (az rows (ak rows d)[j].2 ij)).map (cN rows (au rows (az rows (ak rows d)[j].2 ij))))).a IS (cz rows (az rows (ak rows d)[j].2 ij)) _ WW:=Mu;generalize RX:(Kd.mk Tj IS (cz rows (az rows (ak rows d)[j].2 ij)) ((au rows (az rows (ak rows d)[j].2 ij)).map (cN rows (au rows (az rows (ak rows d)[j].2 ij)))))=ur at*;have rk:RT xj ur.a ur.xs ur.rows ur.ns WW:=by rw[<- RX];exact Mu
    have eT:Tj=ur.a:=by rw[<- RX]
    rw[eT];have Ca:=(jo.trans ag).trans vt;have ud:=Ca _ _ q1;have all:∀G,ae xj G->qo (ws:=WW) G (ks++[ur]):=λG s k hk=>by
     rcases W3.mp hk with h|h
     ·exact(q5 k h).tk (Ca.trans s).ts
     ·rw[qI.mp h];exact rk.tk s.ts
    have a3:∀G,Tk xj G->qo (ws:=WW) G (ks++[ur]):=λG s k hk=>by
     rcases W3.mp hk with h|h
     ·exact((q5 k h).tk Ca.ts).tk s
     ·rw[qI.mp h];exact rk.tk s
    have bv:d_.length<=4:=by lia
    have a4:L≠I:=λz=>by rw[z,s9 _ _ k8]at eL;rw[z]at hL;rw[k8]at hL;cases hL
    have a5:=al.same Ca;have a6:=Ca _ _ q7;have a7:=q8.trans Ca;have D0:=vU q2 Ca.ts;have RY:=b2.same Ca;have end_:∀(lz:Hp)(u:V),ae xj lz->(∀EQ,Tk lz EQ->BV EQ (d_++[u]) (ks++[ur]) (ai rows d))->X4 λv8 v9 AW Gu=>([aa F,aa p,gy (0+(i:Int)),aa a,fb x,aa T0,some (.str (ai rows d).bj),aa I,aa sb,some (.ref ur.a),ab,af]:St)=[aa F,aa p,gy (0+(i:Int)),aa a,fb x,aa T0,some (.str (ai rows d).bj),aa I,v8,v9,ab,af]/\upd lz I (.lst (d_++[u])) I=bh AW/\BV (upd lz I (.lst (d_++[u]))) AW Gu (ai rows d)/\AW.length=j+1/\Gu.length=j+1/\qo (ws:=WW) (upd lz I (.lst (d_++[u]))) Gu/\(∀j(O:j<Gu.length)(Y:j<(ak rows d).length),EN rows ns (ak rows d)[j].2 Gu[j])/\upd lz I (.lst (d_++[u])) L=bh us/\SV (upd lz I (.lst (d_++[u]))) us ((ak rows d).map (·.1))/\ae H6 (upd lz I (.lst (d_++[u]))):=λlz u nj hp=>by
     have RZ:=nj _ _ ud;have tk:Tk lz (upd lz I (.lst (d_++[u]))):=(Tk.refl).set RZ λ_ z=>nomatch z;have AZ:∀b' ys,cf lz b' ys->cf (upd lz I (.lst (d_++[u]))) b' ys:=λb' ys h=>h.put RZ (λ_ z=>nomatch z) (λ_ _ z=>nomatch z);exact⟨_,_,d_++[u],ks++[ur],rfl,aA,hp _ tk,by simp[q3],by simp[q4],a3 _ (nj.ts.trans tk),kj _ kd,by rw[aB a4];exact nj _ _ a6,(a5.same nj).keep AZ,(a7.trans nj).put ax⟩
    refine⟨rfl,_,rfl,jq (λc=>?_) (λc=>?_)⟩
    ·refine⟨.inl ⟨rfl,_,ao.of ud⟩,I,d_,.ref ur.a,rfl,rfl,ud,by lia,?_⟩;refine end_ xj _ (ae.refl _) λEQ t=>?_;have hs:(ai rows d).bj="way":=by simpa using c
     cases hh:ai rows d with
     |prs s ps=>
      rw[hh]at hs z3;have hs:s="way":=hs;rcases z3.1 with z|z<;>exact absurd (z.symm.trans hs) (by decide+kernel)
     |_=>
      rw[hh]at q2;have q2:d_=ks.map λk=>V.ref k.a:=q2;show d_++_=_;rw[q2,Qm];rfl
    ·have hs:(ai rows d).bj≠"way":=by simpa using c
     obtain⟨s,ps,hh⟩:X2 λs ps=>ai rows d=.prs s ps:=by
      cases hh:ai rows d with
      |one s=>
       rw[hh]at IQ;have o0:(ak rows d).length=0:=IQ
       lia
      |as y=>rw[hh]at z2;cases z2
      |way y z=>rw[hh]at hs;exact absurd rfl hs
      |prs s ps=>exact⟨s,ps,rfl⟩
     have LO:j<ps.length:=by
      rw[hh]at IQ;have:(ak rows d).length=ps.length:=by rw[IQ];simp[Hd.bf]
      lia
     have es:(ak rows d)[j].1=([if s="box" then"part" else"case",ps[j].1]:Qbo):=by
      rw[sj];simp only[hh,stH,Hd.bf,Qr]
     rw[es]at RY;refine⟨.inl ⟨rfl,_,ao.of ud⟩,_,.str ps[j].1,.inr (ay.Od RY),rfl,kq,λc hc=>?_⟩;have nj:=ae.upd hc (.tup [.str ps[j].1,.ref ur.a]);have Gv:upd xj c (.tup [.str ps[j].1,.ref ur.a]) c=ig [.str ps[j].1,.ref ur.a]:=aA;generalize upd xj c (.tup [.str ps[j].1,.ref ur.a])=lz at nj Gv;refine⟨I,d_,.ref c,rfl,rfl,nj _ _ ud,by lia,?_⟩;refine end_ lz _ nj λEQ t=>?_;rw[hh]at D0;have a8:=vU D0 (nj.ts.trans t);rw[hh];refine⟨by simp[q3,q4],λi O Y h3=>?_⟩;by_cases hi:i<d_.length
     ·rw[Qe hi,Qe (by lia)];exact a8.2 i hi Y (by lia)
     ·have ei:i=j:=by simp at O;lia
      subst ei;refine⟨c,?_,?_⟩
      ·rw[Qf (by lia)];simp only[q3,Qar,uI]
      ·rw[Qf (by lia)];simp only[q4,Qar,uI];exact t _ _ Gv
   ·rintro o uq ⟨w8,w9,d_,ks,rfl,q1,q2,q3,q4,q5,q6,_,_,q8⟩;exact jj _ _ ⟨w8,w9,d_,ks,rfl,q1,q2,by lia,q5,q6,q8⟩
  rintro o H9 ⟨v8,v9,us,ks,rfl,q1,q2,q3,q4,q5,q6⟩;have a9:∀z∈(ai rows d).qa,z∈WW:=λz hz=>N.ww _ (g.HH z1) z hz;have e7:(ai rows d).nx=none:=z2;have few:1+iz ks<=30:=by
   have:=wF (rows:=rows) (ns:=ns) (n:=7) (ks:=ks) λk hk=>by
    obtain⟨j,hj,rfl⟩:=Qi hk;have:=(q5 j hj (by lia)).few
    lia
   have:7*ks.length<=7*4:=Nat.mul_le_mul_left _ (by lia)
   lia
  have dq:∀(T1:Addr)(xo:Qby)(G:Hp),ae H6 G->G T1=ig xo->RV G xo (cz rows (az rows d q0))->jy G 5 (.ref T1) (.ref T0):=λT1 xo G s e rv=>RV.JZ rv (EO.rv.tk s.ts) e (s _ _ EO.at_);refine aM (λo G=>o=[aa F,aa p,gy (0+(i:Int)),aa a,fb x,aa T0,some (.str (ai rows d).bj),aa I,v8,v9,ab,af]/\ae H6 G) ?_ ?_
  ·intro oz jj;refine⟨I,us,ai rows d,ns,WW,ks,rfl,z3,e7,a9,by lia,q4,hw,few,q1,q2,AD.same q6,uo.same q6,λT1 xo i1 uq B_ jd l1 C1 f1 e1 R0=>?_⟩;rw[L0 C1 l1 f1 (Z4 q4 hw g hf rfl q3 C1.g (λ_ h=>h) λj O Y=>let k:=q5 j Y O;⟨_,k.mem,k.hd,k.en,k.nb⟩)]at R0;exact⟨4,T1,T0,by decide,rfl,rfl,dq T1 xo uq (q6.trans jd) e1 R0,_,rfl,xw (jj _ _ ⟨rfl,q6.trans jd⟩)⟩
  rintro o uq ⟨rfl,jd⟩;refine aM (λo G=>o=[aa F,aa p,gy (0+(i:Int)),aa a,fb x,aa T0,some (.str (ai rows d).bj),aa I,v8,v9,ab,af]/\ae H6 G) ?_ ?_
  ·intro oz jj;refine⟨a,xs,rows,ns,rfl,N.tk jd.ts,h8,λb ys AB jo Mv=>?_⟩;have bw:x.length<=8:=fZ (oQ x (h8 x hx)).1;have IT:=jd.trans jo;refine⟨by show 1+x.length<=sizeLine;lia,b,ys,(rows.map (ic vN id)).reverse,ns.map vN,WW,vN x,rfl,Mv,hw,Yy.mpr ⟨x,hx,rfl⟩,AD.same IT,uo.same IT,λT1 xo i1 Ds B_ ag l1 C1 Eo f1 se=>?_⟩;have R:wx rows (rows.map (ic vN id)).reverse ns (ns.map vN) vN:=⟨g,Mv.CW hw,λy hy=>Yy.mpr ⟨y,hy,rfl⟩,λy hy=>Xo N (List.reverse_perm _) Mv.ia hy⟩
   have ev:endOf (rows.map (ic vN id)).reverse (vN x)=vN d:=by rw[R.end_ hx,Gs]
   rw[ev]at l1 C1 f1 se;rw[L0 C1 l1 f1 (R.nb hf)]at se;exact⟨4,T1,T0,by decide,rfl,rfl,dq T1 xo Ds (IT.trans ag) se.at_ se.rv,_,rfl,xw (jj _ _ ⟨rfl,IT.trans ag⟩)⟩
  rintro o AB ⟨rfl,jo⟩;refine aM (λo G=>o=[aa F,aa p,gy (0+(i:Int)),aa a,fb x,aa T0,some (.str (ai rows d).bj),aa I,v8,v9,ab,af]/\ae H6 G) ?_ ?_
  ·intro oz jj;refine⟨kq,λA hA=>⟨kq,λB hB=>⟨BR,λC hC=>?_⟩⟩⟩;have c1:=ae.upd hA (.tup [.str "as",.str x]);have c2:=ae.upd hB (.tup [.str "vv",.ref A]);have c3:=ae.upd hC (.tup [.ref B]);have eA:upd AB A (.tup [.str "as",.str x]) A=ig [.str "as",.str x]:=aA;have eB:upd (upd AB A (.tup [.str "as",.str x])) B (.tup [.str "vv",.ref A]) B=ig [.str "vv",.ref A]:=aA;have eC:upd (upd (upd AB A (.tup [.str "as",.str x])) B (.tup [.str "vv",.ref A])) C (.tup [.ref B]) C=ig [.ref B]:=aA;have eA:=c3 _ _ (c2 _ _ eA);have eB:=c3 _ _ eB;have R1:=(c1.trans c2).trans c3;generalize upd (upd (upd AB A (.tup [.str "as",.str x])) B (.tup [.str "vv",.ref A])) C (.tup [.ref B])=lz at eA eB eC R1;have Gv:=jo.trans R1;have xl:=N.rv.len;have b4:=N.rl;have fw:=N.few;have ps:=N.pos;refine⟨C,a,[.ref B],xs,rfl,rfl,ay.of eC,ay.of (Gv _ _ N.at_),by simp,by simp;lia,λz=>absurd z (λz=>by rw[z]at xl;simp at xl;lia),λ_ D hD=>?_⟩;have c5:=ae.upd hD (.tup ([.ref B]++xs));have eD:upd lz D (.tup ([.ref B]++xs)) D=ig ([.ref B]++xs):=aA;generalize upd lz D (.tup ([.ref B]++xs))=EQ at c5 eD;have Gw:=Gv.trans c5;have nv:("vv":Str)∉ns:=λz=>absurd (h8 _ z) (by decide+kernel);have Ax:RT EQ D ([.ref B]++xs) (("vv",Hd.as x)::rows) (ns++[("vv":Str)]) WW:=by
    refine⟨eD,RV.app (RV.nil.snoc (r:=("vv",Hd.as x)) (c5 _ _ eB) (.as (c5 _ _ eA))) (N.rv.tk Gw.ts),?_,?_,λr hr=>?_,λn hn=>?_,λr hr y hy=>?_,λr hr=>?_,by simp,by simp;lia⟩
    ·exact((List.Perm.cons _ N.nm).trans (List.perm_append_singleton _ _).symm)
    ·exact QaH.mpr ⟨N.nd,by simp,λu hu v hv e=>nv (by rw[qI.mp hv]at e;rw[<- e];exact hu)⟩
    ·rcases Qp.mp hr with rfl|hr
     ·exact⟨(show isName ("vv":Str)=true by decide+kernel),(oQ x (h8 x hx)).1,W3.mpr (.inl hx)⟩
     ·obtain⟨o1,o2⟩:=N.ok r hr;exact⟨o1,a1K o2 λy hy=>W3.mpr (.inl hy)⟩
    ·rcases W3.mp hn with h|h
     ·exact N.wd n h
     ·rw[qI.mp h];exact eE (by decide) (by decide)
    ·rcases Qp.mp hr with rfl|hr
     ·cases hy;obtain⟨i,hi,rfl⟩:=Qi hx;exact⟨i,ns.length,hi,by rw[Qg hi,Qa hi],by simp⟩
     ·obtain⟨i,j,vc,g1,g2⟩:=N.ah r hr y hy;have up:∀{i:Nat}{z:Str},ns[i]? =some z->(ns++[("vv":Str)])[i]? =some z:=fun{i}{z}q=>by rw[Qg (u6.mp q).1,q]
      exact⟨i,j,vc,up g1,up g2⟩
    ·rcases Qp.mp hr with rfl|hr
     ·exact λz h=>nomatch h
     ·exact N.ww r hr
   refine⟨D,_,("vv",Hd.as x)::rows,ns++[("vv":Str)],WW,"vv",rfl,Ax,hw,by simp,AD.same Gw,uo.same Gw,λT1 xo i1 ba B_ R3 l1 C1 Eo f1 se=>?_⟩;have g2:=Ax.CW hw;have R:wx rows (("vv",Hd.as x)::rows) ns (ns++[("vv":Str)]) id:=⟨g,g2,λy hy=>W3.mpr (.inl hy),λy hy=>by
    have:=bN (r:=(y,ai rows y)) g2.ia (Qh _ (g.HH hy));show ai _ y=_;rw[show ai (("vv",Hd.as x)::rows) y=ai rows y from this,a37]⟩
   have ev:endOf (("vv",Hd.as x)::rows) "vv"=d:=by
    have hv:jb (("vv",Hd.as x)::rows) "vv"=some x:=by
     unfold jb;rw[show ai (("vv",Hd.as x)::rows) "vv"=Hd.as x from bN (r:=("vv",Hd.as x)) g2.ia (by simp)];rfl
    rw[<- ((g2.step (x:="vv") (by simp)).2 x hv).2];have:=R.end_ hx;rw[Gs]at this;exact this
   rw[ev]at l1 C1 f1 se;rw[L0 C1 l1 f1 (R.nb hf)]at se;exact⟨4,T1,T0,by decide,rfl,rfl,dq T1 xo ba (Gw.trans R3) se.at_ se.rv,_,rfl,xw (jj _ _ ⟨rfl,Gw.trans R3⟩)⟩
  rintro o Ds ⟨rfl,ag⟩;have bb:=EO.tk ag.ts;refine .inr ⟨⟨Dw,ay.of bb.at_⟩,?_⟩;refine cA (dE Dw) (λj o G=>X2 λab af=>o=[aa F,aa p,gy (0+(i:Int)),aa a,fb x,aa T0,some (.str (ai rows d).bj),aa I,v8,v9,ab,af]/\ae H6 G) ⟨ab,af,rfl,ag⟩ (by rintro j o G _ ⟨_,_,_,s⟩;exact ay.of (s _ _ EO.at_)) ?_ ?_
  ·rintro j o xj hj ⟨bd,be,rfl,vt⟩;have Gx:=EO.tk vt.ts;have yl:=Gx.rv.len;obtain⟨b,v,b1,b2,b3⟩:=Gx.rv.at_ j hj (by lia)
   have eg:Dw.getD j .aq=.ref b:=cV hj b1;rw[eg];refine eI b2 ?_;have Ep:j<(cz rows (az rows d q0)).length:=by lia
   have mn:(cz rows (az rows d q0))[j].1∈(au rows (az rows d q0)).map (cN rows (au rows (az rows d q0))):=Gx.nm.mem_iff.mp (Yy.mpr ⟨_,Qj Ep,rfl⟩);refine⟨T0,Dw,_,_,WW,_,rfl,Gx,hw,mn,AD.same vt,uo.same vt,λT1 xo i1 lz B_ nj l1 C1 Eo f1 se=>?_⟩;have O:=se.rv.len;rw[cz,Ql]at O;have Y:=C1.Pa;have h3:=Gx.rl;have h4:(cz rows (az rows d q0)).length=(au rows (az rows d q0)).length:=by rw[cz,Ql]
   have h5:xo.length<=Dw.length:=by rw[Ql]at Y;lia
   refine .inl ⟨xo,.inr (ay.of se.at_),.inl ⟨Dw,.inr (ay.of ((vt.trans nj) _ _ EO.at_)),_,rfl,jq (λc=>?_) (λc=>?_)⟩⟩
   ·have c':decide ((Dw.length:Int)<(xo.length:Int))=true:=c;exact absurd (Qt c') (by lia)
   ·exact⟨_,_,rfl,vt.trans nj⟩
  ·rintro o xj ⟨bd,be,rfl,vt⟩;exact⟨_,_,_,_,_,_,_,_,_,_,rfl,(aw.same vt).mono (by lia)⟩
end
theorem a2L{K:Q0}(X:K.In h)(G:h.Ns mainGlobals mg)(e:look K=want w):aah K mg w:=by
 obtain⟨eF,e⟩:=QaT e;obtain⟨eV,e⟩:=QaT e;obtain⟨eT,e⟩:=QaT e;obtain⟨eD,e⟩:=QaT e;obtain⟨eN,e⟩:=QaT e;obtain⟨eR,e⟩:=QaT e;obtain⟨eU,e⟩:=QaT e;obtain⟨eC,e⟩:=QaT e;have b:=e;obtain⟨ts,r1,r2,r3⟩:=NX X G eR rfl;have a:=vD (as:=yb K o_) X;have d:=vZ X G eR 0 (x:="FROM") rfl;have f:=vZ X G eR 1 (x:="TO") rfl;obtain⟨acY,aeB,acZ,ac0,qB⟩:=XM a G (t9 eD 0 (x:="STEP_WORDS") rfl) rfl (by decide+kernel);obtain⟨aeC,rfl,ac1⟩:=NV ac0;obtain⟨aeD,rfl,ac2⟩:=NV ac1;obtain rfl:=XJ ac2;refine⟨ts,r2,by rw[r1];exact Qt eU,?_,λH c=>⟨NY (r3 0 "FROM" _ rfl) c,NY (r3 1 "TO" _ rfl) c⟩⟩;rw[r1];exact⟨nn a G eN 0,
  nn a G eN 1,
  nn a G eN 2,
  nn a G eN 3,
  nn a G eN 4,
  nn a G eN 5,
  nn a G eN 6,
  vl a G eV 0,
  tu a G eT 0,
  d,
  f,
  ⟨acY,acZ,qB⟩,
  q_ a G eF 0,
  q_ a G eF 1,
  BH a G eF 2,
  BH a G eF 3,
  BH a G eF 4,
  q_ a G eF 5,
  q_ a G eF 6,
  J7 a G eF 7,
  BH a G eF 8,
  q_ a G eF 9,
  q_ a G eF 10,
  q_ a G eF 11,
  q_ a G eF 12,
  J7 a G eF 13,
  BH a G eF 14,
  q_ a G eF 15,
  q_ a G eF 16,
  q_ a G eF 17,
  q_ a G eF 18,
  q_ a G eF 19,
  q_ a G eF 20,
  BH a G eF 21,
  J7 a G eF 22,
  q_ a G eF 23,
  q_ a G eF 24,
  BH a G eF 25,
  BH a G eF 26,
  XR a G eC 0,
  Yw a G eC 1,
  Kq a G b 0,
  Kq a G b 1,
  Yv a G b 2,
  Kq a G b 3⟩
theorem walk:PySem.W.WalkO view ["STEP_WORDS"] XP (zj look want).says yn.row.toRowW Cb [] (λf vs=>PySem.call f vs):=
 XQ (l:=yn) (n:=63) (k:=14) (x:="script") rfl (by decide) rfl ⟨rfl,by decide,by decide,rfl⟩ λw d q h K X e G g=>by
  obtain⟨ts,zh,nd,T,hk⟩:=a2L X G e;obtain⟨f,fd,Fu,m,b⟩:=T.Pe;rw[show Cb.name="law" from rfl,m]at g;cases g;refine⟨ts,fd,IM (without K (ts.map (·.1))) d,zh,nd,λs u=>?_,λc r t=>?_,λH a i j o p=>⟨a,i,rfl,p,j,hk H o,λ_=>rfl⟩⟩
  ·obtain⟨oc,od,kV,doc,pm,an,bc,ct,tq,rfl,lk,su⟩:=Fu.ex;exact .of_eq rfl
  ·obtain⟨f',fd',G',m',k',b',oc',od',aeG,R7⟩:=(a3s T:bq yn.prog w (without K (ts.map (·.1))) d c 14 "law" ["script"] (IM (without K (ts.map (·.1))) d))
   rw[m]at m';cases m';have e:fd=fd':=by
    obtain⟨oc,od,kV,doc,pm,an,bc,ct,tq,e1,lk,su⟩:=Fu.ex;rw[lk]at R7;have:=QE R7;injection this with _ _ h3 _;injection h3
   rw[e];exact G'
end T1
open PySem PySem.W PyProof.Rows L2
set_option maxRecDepth 100000 in
set_option maxHeartbeats 0 in
theorem PySem.Challenge.cw_coilkind_k31_whole_taken_apart_holds : PySem.Challenge.rw_coilkind_k31_whole_taken_apart.Holds := by
 refine PySem.W.holds_law T1.said λsaid=>?_;exact PySem.W.holds_open (q:=T1.view) (loose:=["STEP_WORDS"]) (Xt:=λs=>xlAt T1.view [] s&&recOk [] s) (XP:=XL T1.view []) (Yf:=(zj T1.look T1.want).obs) (Ya:=(zj T1.look T1.want).val) (YP:=(zj T1.look T1.want).says) (N:=3320)
  (XH "special-get-raises" T1.acV T1.acW) (zj T1.look T1.want).of (zj T1.look T1.want).keeps (λs e=>xl_of s (Qay.mp e).1) XL.keeps T1.hdef T1.hprog T1.hkw (λs e=>recFacts_of (Qay.mp e).2) rfl (by assumption) T1.hok T1.hbare T1.ac4 T1.walk
