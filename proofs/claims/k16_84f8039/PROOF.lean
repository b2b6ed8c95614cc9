import PyProof.Rows.All
import Wide.All
import OpenK.AllK
import Wide.FinOn
import Lean
import PyProof.EqAt
import PyProof.EqKinds
import PyProof.TupleCall
import PyProof.DictCompW
import PyProof.AutoListH
import PyProof.EnumMake
import PyProof.ZipIter
import PyProof.AttrMissSeq
import KE.KDictOf
import PyProof.ReprLen
import PyProof.StrLawsRepr
import KE.KUnpackStar
import PyProof.DictWalks
import PyProof.Rows.DictUnroll
import PyProof.Rows.Range3
import PyProof.Rows.ChunkEnd
import PyProof.Rows.ChunkLeaf
import PyProof.StrCalls2
import PyProof.StrLawsTight
import PyProof.StrLawsChain
import PyProof.Rows.StrSplitJoin
import PyProof.Conv_int_bool
import PyProof.Rows.TupMore
import KE.KItemsList
import PyProof.NeKinds
import PyProof.Rows.SetFrom
import PyProof.SetRoads
import KE.KRevIter
import PyProof.CollectIter
import PyProof.TupleOfGen
import PyProof.StrLawsIn
import PyProof.Rows.StrCut
import PyProof.StrCalls
import PyProof.CallFns
import PyProof.FString5
import PyProof.NsCount
import PyProof.DictItems
import KE.KPairComp
import PyProof.DictValues
import PyProof.SumWalk
import PyProof.ConsumeWalk
import PyProof.SumAny
import PyProof.FactsAll.range_2
import PyProof.WalksMore
import PyProof.MinMaxWalk
import PyProof.SeqI3
import KE.KDictList
import KE.KDictLaws
import KE.KSortTup
import PySem.Challenge.RW_coilkind_k16_rows_met
set_option Elab.async false
set_option linter.all false
set_option maxRecDepth 100000
namespace L2
open PySem PySem.Spec PyProof.Rows
abbrev Key := Sum Int Str
def keyIs : Key → Value → Bool
  | .inl k, v => Value.isInt k v
  | .inr x, v => Value.isStrOf x v
def keyH (w : World) : Key → Int
  | .inl k => hashInt k
  | .inr x => hashStr w x
theorem keyIs_shape : ∀ {k : Key} {v : Value}, keyIs k v = true → (∃ i t, k = Sum.inl i ∧ v = Value.int i t) ∨ (∃ x t, k = Sum.inr x ∧ v = Value.str x t)
  | .inl i, v, h => by
    obtain ⟨t, e⟩ := Value.isInt_shape (k := i) (v := v) h
    exact .inl ⟨i, t, rfl, e⟩
  | .inr x, v, h => by
    obtain ⟨t, e⟩ := Value.isStrOf_shape (x := x) (v := v) h
    exact .inr ⟨x, t, rfl, e⟩
theorem keyIs_int (i : Int) (t : Tok) : keyIs (.inl i) (.int i t) = true := by simp [keyIs, Value.isInt]
theorem keyIs_str (x : Str) (t : Tok) : keyIs (.inr x) (.str x t) = true := by simp [keyIs, Value.isStrOf]
theorem key_ll (a b : Int) : decide ((Sum.inl a : Key) = Sum.inl b) = (a == b) := by
  by_cases e : a = b
  · subst e; simp
  · have h : ¬ (Sum.inl a : Key) = Sum.inl b := fun q => e (Sum.inl.inj q)
    rw [decide_eq_false h]
    exact (beq_eq_false_iff_ne.mpr e).symm
theorem key_rr (a b : Str) : decide ((Sum.inr a : Key) = Sum.inr b) = decide (a = b) := by
  by_cases e : a = b
  · subst e; simp
  · have h : ¬ (Sum.inr a : Key) = Sum.inr b := fun q => e (Sum.inr.inj q)
    rw [decide_eq_false h, decide_eq_false e]
theorem key_lr (a : Int) (b : Str) : decide ((Sum.inl a : Key) = Sum.inr b) = false := decide_eq_false (fun q => nomatch q)
theorem key_rl (a : Str) (b : Int) : decide ((Sum.inr a : Key) = Sum.inl b) = false := decide_eq_false (fun q => nomatch q)
def mixKind (prog : Program) (w : World) : PySem.KeyKind prog w Key where
  is := keyIs
  hash := keyH w
  inj := fun v a b ha hb => by
    rcases keyIs_shape ha with ⟨i, t, rfl, rfl⟩ | ⟨x, t, rfl, rfl⟩
    · rcases keyIs_shape hb with ⟨j, u, rfl, e⟩ | ⟨y, u, rfl, e⟩
      · injection e with e1 _; rw [e1]
      · exact nomatch e
    · rcases keyIs_shape hb with ⟨j, u, rfl, e⟩ | ⟨y, u, rfl, e⟩
      · exact nomatch e
      · injection e with e1 _; rw [e1]
  byValue := fun k v h => by
    rcases keyIs_shape h with ⟨i, t, rfl, rfl⟩ | ⟨x, t, rfl, rfl⟩ <;> rfl
  pyHash := fun hv h => by
    rcases keyIs_shape hv with ⟨i, t, rfl, rfl⟩ | ⟨x, t, rfl, rfl⟩
    · exact wpAny_pyHash_int h
    · exact wpAny_pyHash_str h
  eqBool := fun hu hv h => by
    rcases keyIs_shape hu with ⟨i, t, rfl, rfl⟩ | ⟨x, t, rfl, rfl⟩
    · rcases keyIs_shape hv with ⟨j, u, rfl, rfl⟩ | ⟨y, u, rfl, rfl⟩
      · rw [key_ll] at h; exact wpAny_eqBool_int h
      · rw [key_lr] at h; exact SeqAt.EqAt.int_str i t y u _ _ _ _ h
    · rcases keyIs_shape hv with ⟨j, u, rfl, rfl⟩ | ⟨y, u, rfl, rfl⟩
      · rw [key_rl] at h; exact SeqAt.EqAt.str_int x t j u _ _ _ _ h
      · rw [key_rr] at h; exact wpAny_eqBool_str h
  «strs» := fun k x t v h => by
    rcases keyIs_shape h with ⟨i, u, rfl, e⟩ | ⟨y, u, rfl, e⟩
    · exact nomatch e
    · injection e with e1 _
      subst e1
      cases v <;> rfl
theorem mixKind_int (prog : Program) (w : World) (i : Int) (t : Tok) : (mixKind prog w).is (.inl i) (.int i t) = true := keyIs_int i t
theorem mixKind_str (prog : Program) (w : World) (x : Str) (t : Tok) : (mixKind prog w).is (.inr x) (.str x t) = true := keyIs_str x t
end L2
namespace L2
open PySem PySem.Spec PyProof.Rows
inductive V where
  | non | bl (b : Bool) | int (i : Int) | str (x : Str) | byt (b : Array UInt8) | flt (b : UInt64) | ref (a : Addr) | ty (n : String)
  deriving DecidableEq
def RelV : V → Value → Prop
  | .non, u => u = Value.none
  | .bl b, u => u = Value.bool b
  | .int i, u => ∃ t, u = Value.int i t
  | .str x, u => ∃ t, u = Value.str x t
  | .byt b, u => ∃ t, u = Value.bytes b t
  | .flt b, u => ∃ t, u = Value.float b t
  | .ref a, u => u = Value.ref a
  | .ty n, u => u = Value.type n
abbrev Vals : List V → List Value → Prop := Paired RelV
theorem Vals.length {xs : List V} {us : List Value} (r : Vals xs us) : xs.length = us.length := Paired.length r
theorem Vals.get : ∀ {xs : List V} {us : List Value} {i : Nat} {x : V}, Vals xs us → xs[i]? = some x → ∃ u, us[i]? = some u ∧ RelV x u
  | _, _, _, _, .nil, e => by simp at e
  | _, _, 0, _, .cons r _, e => by simp at e; subst e; exact ⟨_, rfl, r⟩
  | _, _, i + 1, x, .cons _ t, e => by
    obtain ⟨u, h1, h2⟩ := Vals.get (i := i) (x := x) t (by simpa using e)
    exact ⟨u, by simpa using h1, h2⟩
theorem Vals.set {x : V} {u : Value} (r : RelV x u) : ∀ {xs : List V} {us : List Value} (i : Nat), Vals xs us → Vals (xs.set i x) (us.set i u)
  | _, _, _, .nil => .nil
  | _, _, 0, .cons _ t => .cons r t
  | _, _, i + 1, .cons q t => .cons q (Vals.set r i t)
theorem Vals.append : ∀ {xs ys : List V} {us ws : List Value}, Vals xs us → Vals ys ws → Vals (xs ++ ys) (us ++ ws)
  | _, _, _, _, .nil, s => s
  | _, _, _, _, .cons r t, s => .cons r (Vals.append t s)
theorem Vals.take : ∀ {xs : List V} {us : List Value} (n : Nat), Vals xs us → Vals (xs.take n) (us.take n)
  | _, _, 0, _ => .nil
  | _, _, _ + 1, .nil => .nil
  | _, _, n + 1, .cons r t => .cons r (Vals.take n t)
theorem Vals.drop : ∀ {xs : List V} {us : List Value} (n : Nat), Vals xs us → Vals (xs.drop n) (us.drop n)
  | _, _, 0, r => r
  | _, _, _ + 1, .nil => .nil
  | _, _, n + 1, .cons _ t => Vals.drop n t
def RelO : Option V → Option Value → Prop
  | some v, some u => RelV v u
  | none, none => True
  | _, _ => False
def KV {κ : Type} : List (κ × V) → List (κ × Value) → Prop := Paired fun (p : κ × V) (q : κ × Value) => p.1 = q.1 ∧ RelV p.2 q.2
def kV : Key → V
  | .inl i => .int i
  | .inr x => .str x
inductive HO where
    | lst (xs : List V)
    | tup (xs : List V)
    | dK (kvs : List (Key × V)) | dT (kvs : List (List Key × V))
    | set (S : Int → Bool) (n : Nat)
    | ins (C dx : Addr) (fs : List (Str × V))
    | own (x : Addr)
    | xd (fs : List (Str × V))
    | met (f x : Addr)
    | rng (lo hi : Int)
    | frz (o : Obj) (u : HO)
    | tbl (ps : Array Value)
    | ext (φ : Heap → Prop)
abbrev Hp := Addr → Option HO
def upd (H : Hp) (a : Addr) (o : HO) : Hp := fun b => if b = a then some o else H b
theorem upd_same {H : Hp} {a : Addr} {o : HO} : upd H a o a = some o := by unfold upd; rw [if_pos rfl]
theorem upd_ne {H : Hp} {a b : Addr} {o : HO} (h : b ≠ a) : upd H a o b = H b := by unfold upd; rw [if_neg h]
theorem upd_upd {H : Hp} {a : Addr} {o u : HO} : upd (upd H a o) a u = upd H a u := by
  funext b; unfold upd; split <;> rfl
theorem ne_of {H : Hp} {a b : Addr} {o u : HO} (h : H a = some o) (h' : H b = some u) (d : o ≠ u) : a ≠ b := by
  intro e; subst e; rw [h] at h'; exact d (Option.some.inj h')
theorem ne_of_none {H : Hp} {a b : Addr} {o : HO} (h : H a = some o) (h' : H b = none) : a ≠ b := by
  intro e; subst e; rw [h] at h'; cases h'
def NoDct (h : Heap) (a : Addr) : Prop := ∀ o, h.get? a = some o → o.dict = none
theorem NoDct.new {h : Heap} {ob : Obj} (h0 : ob.isFreed = false) (hd : ob.dict = none) : NoDct (h.push ob) h.objs.size := fun o q => by rw [Heap.get?_push_size _ h0] at q; cases q; exact hd
def RdT (H : Hp) (b : Addr) (ys : List V) : Prop := H b = some (.tup ys) ∨ ∃ o, H b = some (.frz o (.tup ys))
theorem RdT.upd {H : Hp} {b a : Addr} {ys : List V} {o : HO} (r : RdT H b ys) (ne : ∀ u, H b = some u → b ≠ a) : RdT (L2.upd H a o) b ys := by
  rcases r with r | ⟨ob, r⟩
  · exact .inl (by rw [upd_ne (ne _ r)]; exact r)
  · exact .inr ⟨ob, by rw [upd_ne (ne _ r)]; exact r⟩
section
variable (P : Program) (w : World)
def ObjOk (H : Hp) (h : Heap) (a : Addr) : HO → Prop
  | .lst xs => xs.length ≤ sizeLine ∧ ∃ (its : List Value) (n : Nat), Vals xs its ∧ h.get? a = some { cls := .type "list", data := .seq its.toArray n }
  | .tup xs => (xs.length ≤ sizeLine ∧ NoDct h a) ∧ ∃ its : List Value, Vals xs its ∧ IsTup h a its.toArray
  | .dK kvs => kvs.length ≤ sizeLine ∧ (a == sysModules) = false ∧ ∃ vs, KV kvs vs ∧ h.DictOf (mixKind P w) a vs
  | .dT kvs => kvs.length ≤ sizeLine ∧ (a == sysModules) = false ∧ ∃ xs : List (List Key × Addr × Value),
      Paired (fun (p : List Key × V) (q : List Key × Addr × Value) => p.1 = q.1 ∧ RdT H q.2.1 (p.1.map kV) ∧ RelV p.2 q.2.2) kvs xs ∧
      ∃ o es ep, h.get? a = some o ∧ o.ExactDict ∧ o.data = .dict es ep ∧ es.toList = xs.map (entryOfKey (tupleKind (mixKind P w))) ∧ (xs.map (·.1)).Nodup
  | .set S n => h.SetOf (intKind P w) a S n
  | .ins C dx fs => H dx = some (.own a) ∧ fs.length ≤ 1000 ∧ dx ≠ a ∧ h.get? a = some (PySem.W.instObj C dx) ∧
      ∃ mA, h.Ns1 dx mA ∧ (∀ f, RelO (fs.lookup f) (mA f)) ∧ PySem.Within mA (fs.map (·.1))
  | .own _ => ∃ o, h.get? a = some o
  | .xd fs => ∃ mA, h.Ns1 a mA ∧ ∀ f, RelO (fs.lookup f) (mA f)
  | .rng lo hi => ∃ t u v, h.get? a = some { cls := .type "range", data := .fields #[.int lo t, .int hi u, .int 1 v] }
  | .frz o u => h.get? a = some o ∧ ObjOk H h a u
  | .tbl ps => h.get? a = some { cls := .none, data := .fields ps }
  | .met f x => h.get? a = some (PySem.W.methodObj (.ref f) (.ref x))
  | .ext φ => φ h ∧ (∃ o, h.get? a = some o) ∧ ∀ h1 h2 : Heap, φ h1 → (∀ o, h1.get? a = some o → h2.get? a = some o) → φ h2
def HOk (H : Hp) (h : Heap) : Prop := ∀ a o, H a = some o → ObjOk P w H h a o
end
section
variable {P : Program} {w : World} {H H' : Hp} {h h' : Heap} {a : Addr} {o : HO}
theorem ObjOk.lt (x : ObjOk P w H h a o) : a < h.objs.size := by
  cases o with
  | lst xs => obtain ⟨_, _, _, _, e⟩ := x; exact Heap.lt_size e
  | tup xs => obtain ⟨_, _, _, p⟩ := x; exact p.lt
  | dK kvs => obtain ⟨_, _, _, _, o, _, _, e, _⟩ := x; exact Heap.lt_size e
  | dT kvs => obtain ⟨_, _, _, _, o, _, _, e, _⟩ := x; exact Heap.lt_size e
  | set S n => obtain ⟨o, _, _, _, e, _⟩ := x; exact Heap.lt_size e
  | ins C dx fs => obtain ⟨_, _, _, e, _⟩ := x; exact Heap.lt_size e
  | own y => obtain ⟨_, e⟩ := x; exact Heap.lt_size e
  | xd fs => obtain ⟨_, ⟨_, _, _, e, _⟩, _⟩ := x; exact Heap.lt_size e
  | rng lo hi => obtain ⟨_, _, _, e⟩ := x; exact Heap.lt_size e
  | frz ob u => obtain ⟨e, _⟩ := x; exact Heap.lt_size e
  | tbl ps => exact Heap.lt_size (show h.get? a = some _ from x)
  | met f y => exact Heap.lt_size (show h.get? a = some _ from x)
  | ext φ => obtain ⟨_, ⟨_, e⟩, _⟩ := x; exact Heap.lt_size e
theorem Paired.mapP {α β : Type} {F G : α → β → Prop} : ∀ {l₁ : List α} {l₂ : List β}, Paired F l₁ l₂ → (∀ a b, F a b → G a b) → Paired G l₁ l₂
  | _, _, .nil, _ => .nil
  | _, _, .cons r t, f => .cons (f _ _ r) (Paired.mapP t f)
theorem ObjOk.stay (x : ObjOk P w H h a o) (k : ∀ b u, (b = a ∨ H b = some (.own a)) → h.get? b = some u → h'.get? b = some u)
    (ho : ∀ b, H b = some (.own a) → H' b = some (.own a)) (ht : ∀ b xs, RdT H b xs → RdT H' b xs) : ObjOk P w H' h' a o := by
  induction o with
  | lst xs => obtain ⟨z, its, n, r, e⟩ := x; exact ⟨z, its, n, r, k _ _ (.inl rfl) e⟩
  | tup xs => obtain ⟨⟨z, nd⟩, its, r, ob, e, c⟩ := x; exact ⟨⟨z, fun o q => by rw [k _ _ (.inl rfl) e] at q; cases q; exact nd _ e⟩, its, r, ob, k _ _ (.inl rfl) e, c⟩
  | dK kvs => obtain ⟨z, y, vs, r, ob, es, ep, e, c⟩ := x; exact ⟨z, y, vs, r, ob, es, ep, k _ _ (.inl rfl) e, c⟩
  | dT kvs =>
    obtain ⟨z, y, xs, r, ob, es, ep, e, c⟩ := x
    exact ⟨z, y, xs, Paired.mapP r fun p q z => ⟨z.1, ht _ _ z.2.1, z.2.2⟩, ob, es, ep, k _ _ (.inl rfl) e, c⟩
  | set S n => obtain ⟨ob, es, ep, t, e, c⟩ := x; exact ⟨ob, es, ep, t, k _ _ (.inl rfl) e, c⟩
  | ins C dx fs =>
    obtain ⟨d, z, ne, e, mA, ⟨od, es, ep, e2, c⟩, r⟩ := x
    exact ⟨ho _ d, z, ne, k _ _ (.inl rfl) e, mA, ⟨od, es, ep, k _ _ (.inr d) e2, c⟩, r⟩
  | own y => obtain ⟨ob, e⟩ := x; exact ⟨ob, k _ _ (.inl rfl) e⟩
  | xd fs => obtain ⟨mA, ⟨od, es, ep, e, c⟩, r⟩ := x; exact ⟨mA, ⟨od, es, ep, k _ _ (.inl rfl) e, c⟩, r⟩
  | rng lo hi => obtain ⟨t, u, v, e⟩ := x; exact ⟨t, u, v, k _ _ (.inl rfl) e⟩
  | frz ob u ih => obtain ⟨e, q⟩ := x; exact ⟨k _ _ (.inl rfl) e, ih q⟩
  | tbl ps =>
    have e : h.get? a = some { cls := .none, data := .fields ps } := x
    show h'.get? a = some { cls := .none, data := .fields ps }
    exact k a _ (.inl rfl) e
  | met f y =>
    have e : h.get? a = some (PySem.W.methodObj (.ref f) (.ref y)) := x
    show h'.get? a = some (PySem.W.methodObj (.ref f) (.ref y))
    exact k a _ (.inl rfl) e
  | ext φ => obtain ⟨p, ⟨o, e⟩, st⟩ := x; exact ⟨st _ _ p fun o q => k _ _ (.inl rfl) q, ⟨o, k _ _ (.inl rfl) e⟩, st⟩
theorem HOk.lt (x : HOk P w H h) (e : H a = some o) : a < h.objs.size := (x a o e).lt
theorem HOk.fresh (x : HOk P w H h) (e : h.objs.size ≤ a) : H a = none := by
  cases q : H a with
  | none => rfl
  | some u => exact absurd (Nat.lt_of_lt_of_le (x.lt q) e) (Nat.lt_irrefl _)
theorem HOk.kept (x : HOk P w H h) (k : ∀ b u, h.get? b = some u → h'.get? b = some u) : HOk P w H h' := fun a o e =>
  (x a o e).stay (fun b u _ q => k b u q) (fun _ q => q) fun _ _ q => q
theorem HOk.laid (x : HOk P w H h) (k : ∀ b u, h.get? b = some u → h'.get? b = some u) (hp : h.objs.size ≤ a) (new : ObjOk P w (upd H a o) h' a o) : HOk P w (upd H a o) h' := fun b u e => by
  have hn := x.fresh hp
  by_cases hb : b = a
  · subst hb; rw [upd_same] at e; cases e; exact new
  · rw [upd_ne hb] at e
    exact (x b u e).stay (fun c v _ q => k c v q) (fun c q => by rw [upd_ne (ne_of_none q hn)]; exact q) fun c xs q => q.upd fun u hu => ne_of_none hu hn
end
def Rd (H : Hp) (a : Addr) (u : HO) : Prop := H a = some u ∨ ∃ o, H a = some (.frz o u)
theorem Rd.of {H : Hp} {a : Addr} {u : HO} (h : H a = some u) : Rd H a u := .inl h
theorem Rd.ok {P : Program} {w : World} {H : Hp} {h : Heap} {a : Addr} {u : HO} (r : Rd H a u) (x : HOk P w H h) : ObjOk P w H h a u := by
  rcases r with r | ⟨o, r⟩
  · exact x a u r
  · obtain ⟨_, q⟩ := x a _ r
    exact q
def Mut : Option HO → Prop
  | some (.lst _) => True
  | some (.dK _) => True
  | some (.dT _) => True
  | some (.set _ _) => True
  | some (.ins _ _ _) => True
  | some (.ext _) => True
  | _ => False
section
variable {P : Program} {w : World} {H : Hp} {h h' : Heap} {x e : Addr} {o' : HO}
theorem HOk.write (ok : HOk P w H h) (mu : Mut (H x)) (he : e = x ∨ H e = some (.own x)) (k : ∀ b u, b ≠ e → h.get? b = some u → h'.get? b = some u) (heo : ∃ u, h'.get? e = some u)
    (new : ObjOk P w (upd H x o') h' x o') : HOk P w (upd H x o') h' := fun b u q => by
  have nown : ∀ c y, H c = some (.own y) → c ≠ x := fun c y r z => by subst z; rw [r] at mu; exact mu
  have ntup : ∀ c xs, H c = some (.tup xs) → c ≠ x := fun c xs r z => by subst z; rw [r] at mu; exact mu
  by_cases hb : b = x
  · subst hb; rw [upd_same] at q; cases q; exact new
  · rw [upd_ne hb] at q
    by_cases hbe : b = e
    · have q' : H b = some (.own x) := by
        rcases he with z | z
        · exact absurd (hbe.trans z) hb
        · rw [hbe]; exact z
      rw [q] at q'; cases q'
      obtain ⟨v, hv⟩ := heo
      exact ⟨v, by rw [hbe]; exact hv⟩
    · refine (ok b u q).stay (fun c v hc r => k c v ?_ r) (fun c r => by rw [upd_ne (nown c b r)]; exact r) fun c xs r => r.upd fun _ _ z => by
        subst z
        rcases r with r | ⟨_, r⟩ <;> (rw [r] at mu; exact mu)
      rcases hc with rfl | hc
      · exact hbe
      · rintro rfl
        rcases he with z | z
        · exact nown c b hc z
        · rw [hc] at z; cases z; exact hb rfl
end
structure Un (fs ex : List Addr) (H H' : Hp) (h h' : Heap) : Prop where
  keep : ∀ b o, h.get? b = some o → H b = none → b ∉ fs → b ∉ ex → h'.get? b = some o
  slot : ∀ b o, h.get? b = some o → H b = none → b ∈ fs → b ∉ ex → ∃ sl, h'.get? b = some { o with slots := sl }
  free : ∀ b o, h.get? b = some o → H b = none → b ∉ ex → H' b = none
  there : ∀ b o, h.get? b = some o → b ∉ ex → ∃ o', h'.get? b = some o'
  tups : ∀ b xs, H b = some (.tup xs) → H' b = some (.tup xs)
  frzs : ∀ b o u, H b = some (.frz o u) → H' b = some (.frz o u)
  tbls : ∀ b ps, H b = some (.tbl ps) → ∃ more, H' b = some (.tbl (ps ++ more))
section
variable {fs fs' ex ex' : List Addr} {H H1 H2 : Hp} {h h1 h2 h' : Heap} {a x e : Addr} {o : HO}
theorem Un.any (u : Un fs ex H H1 h h1) {b : Addr} {ob : Obj} (q : h.get? b = some ob) (n : H b = none) (hx : b ∉ ex) : ∃ sl, h1.get? b = some { ob with slots := sl } := by
  by_cases hb : b ∈ fs
  · exact u.slot b ob q n hb hx
  · exact ⟨ob.slots, u.keep b ob q n hb hx⟩
theorem Un.trans (a : Un fs ex H H1 h h1) (b : Un fs ex H1 H2 h1 h2) : Un fs ex H H2 h h2 where
  keep := fun c ob q n hc hx => b.keep c ob (a.keep c ob q n hc hx) (a.free c ob q n hx) hc hx
  slot := fun c ob q n hc hx => by
    obtain ⟨sl, e1⟩ := a.slot c ob q n hc hx
    obtain ⟨sl', e2⟩ := b.slot c _ e1 (a.free c ob q n hx) hc hx
    exact ⟨sl', e2⟩
  free := fun c ob q n hx => by
    obtain ⟨o', e1⟩ := a.there c ob q hx
    exact b.free c o' e1 (a.free c ob q n hx) hx
  there := fun c ob q hx => by
    obtain ⟨o', e1⟩ := a.there c ob q hx
    exact b.there c o' e1 hx
  tups := fun c xs q => b.tups c xs (a.tups c xs q)
  frzs := fun c ob xs q => b.frzs c ob xs (a.frzs c ob xs q)
  tbls := fun c ps q => by
    obtain ⟨m1, e1⟩ := a.tbls c ps q
    obtain ⟨m2, e2⟩ := b.tbls c _ e1
    exact ⟨m1 ++ m2, by rw [e2, Array.append_assoc]⟩
theorem Un.kept (k : ∀ b u, h.get? b = some u → h'.get? b = some u) : Un fs ex H H h h' :=
  ⟨fun b ob q _ _ _ => k b ob q, fun b ob q _ _ _ => ⟨ob.slots, k b ob q⟩, fun _ _ _ n _ => n, fun b ob q _ => ⟨ob, k b ob q⟩, fun _ _ q => q, fun _ _ _ q => q, fun _ ps q => ⟨#[], by rw [q]; simp⟩⟩
theorem Un.refl : Un fs ex H H h h := Un.kept fun _ _ q => q
theorem Un.laid (k : ∀ b u, h.get? b = some u → h'.get? b = some u) (hp : h.objs.size ≤ a) (hn : H a = none) : Un fs ex H (upd H a o) h h' where
  keep := fun b u q _ _ _ => k b u q
  slot := fun b u q _ _ _ => ⟨u.slots, k b u q⟩
  free := fun b u q n _ => by rw [upd_ne (Nat.ne_of_lt (Nat.lt_of_lt_of_le (Heap.lt_size q) hp))]; exact n
  there := fun b u q _ => ⟨u, k b u q⟩
  tups := fun b xs q => by rw [upd_ne (ne_of_none q hn)]; exact q
  frzs := fun b u xs q => by rw [upd_ne (ne_of_none q hn)]; exact q
  tbls := fun b ps q => ⟨#[], by rw [upd_ne (ne_of_none q hn), q]; simp⟩
theorem Un.write (mu : Mut (H x)) (he : e = x ∨ H e = some (.own x)) (k : ∀ b u, b ≠ e → h.get? b = some u → h'.get? b = some u) (heo : ∃ u, h'.get? e = some u) : Un fs ex H (upd H x o) h h' := by
  have hx : ∀ b, H b = none → b ≠ x := fun b n z => by subst z; rw [n] at mu; exact mu
  have hb : ∀ b, H b = none → b ≠ e := fun b n z => by
    subst z
    rcases he with r | r
    · exact hx b n r
    · rw [n] at r; cases r
  have hm : ∀ b u, H b = some u → ¬ Mut (some u) → b ≠ x := fun b u q nm z => by subst z; rw [q] at mu; exact nm mu
  refine ⟨fun b u q n _ _ => k b u (hb b n) q, fun b u q n _ _ => ⟨u.slots, k b u (hb b n) q⟩, fun b u q n _ => by rw [upd_ne (hx b n)]; exact n, fun b u q _ => ?_,
    fun b xs q => by rw [upd_ne (hm b _ q fun z => z)]; exact q, fun b u xs q => by rw [upd_ne (hm b _ q fun z => z)]; exact q, fun b ps q => ⟨#[], by rw [upd_ne (hm b _ q fun z => z), q]; simp⟩⟩
  by_cases hbe : b = e
  · subst hbe; exact heo
  · exact ⟨u, k b u hbe q⟩
theorem Un.mono (u : Un fs ex H H1 h h1) (hs : ∀ b ∈ fs, b ∈ fs') (hx : ∀ b ∈ ex, b ∈ ex') : Un fs' ex' H H1 h h1 :=
  ⟨fun b ob q n hb he => u.keep b ob q n (fun z => hb (hs b z)) fun z => he (hx b z), fun _ _ q n _ he => u.any q n fun z => he (hx _ z), fun b ob q n he => u.free b ob q n fun z => he (hx b z), fun b ob q he => u.there b ob q fun z => he (hx b z), u.tups, u.frzs, u.tbls⟩
end
def trk (h : Heap) (H : Hp) : List Addr := (List.range h.objs.size).filter fun a => (H a).isSome
def hidT (h : Heap) (H : Hp) : Heap := PySem.W.hideAll h (trk h H)
theorem hidT_size (h : Heap) (H : Hp) : (hidT h H).objs.size = h.objs.size := PySem.W.hideAll_size _ _
theorem hidT_get {h : Heap} {H : Hp} {b : Addr} {o : Obj} (e : h.get? b = some o) (n : H b = none) : (hidT h H).get? b = some o :=
  PySem.W.hideAll_get _ e fun hm => by
    have q : (H b).isSome = true := (List.mem_filter.mp hm).2
    rw [n] at q; simp at q
theorem of_hidT {h : Heap} {H : Hp} {b : Addr} {o : Obj} (e : (hidT h H).get? b = some o) : h.get? b = some o ∧ H b = none := by
  have e' : h.get? b = some o := PySem.W.of_hideAll (trk h H) e
  refine ⟨e', ?_⟩
  cases q : H b with
  | none => rfl
  | some x =>
    have hm : b ∈ trk h H := List.mem_filter.mpr ⟨List.mem_range.mpr (Heap.lt_size e'), by simp [q]⟩
    have z : (hidT h H).get? b = none := PySem.W.hideAll_none (trk h H) hm
    rw [z] at e; cases e
def allNews (g h : Heap) (L : Addr) : List (Addr × Obj) := (List.range h.objs.size).filterMap fun a => if a = L ∨ (g.get? a).isSome = true then none else (h.get? a).map fun o => (a, o)
def rest (g h : Heap) (L d : Addr) : List (Addr × Obj) := (allNews g h L).filter fun p => decide (p.1 ≠ d)
end L2
namespace L2
open PySem PySem.Spec PyProof.Rows
structure Mod (K : PySem.W.Frag) (mg : Str → Option Value) (base : Heap) : Prop where
  kin : K.In base
  glob : base.Ns mainGlobals mg
  blt : ∃ mb, base.Ns builtinsNs mb ∧ ∀ x : Str, x ≠ "__name__" → mb x = bootBuiltins x
  nolimit : base.NoLimit
structure Cx where
  prog : Program
  w : World
  K : PySem.W.Frag
  mg : Str → Option Value
  base : Heap
  A : Around
  N : List Str
  s₀ : Shared
  H₀ : Hp
  env : Env
  outer : List Env
  stack : List Env
  ex : List Addr
  fn : Str → Bool
  calm : Bool
  pn : List (Addr × Obj)
  xe : Value → Shared → Prop
def frs (l : List Env) : List Addr := l.filterMap (·.frame)
abbrev Cx.fs (X : Cx) : List Addr := frs X.outer
def Vis (sc : Scope) (x : Str) : Prop := sc.names.lookup x = some .local ∨ sc.names.lookup x = some .cell ∨ sc.names.lookup x = some .free
def Loc (sc : Scope) (x : Str) : Prop := sc.names.lookup x = some .local ∨ sc.names.lookup x = some .cell
def Look (env : Env) (h : Heap) (m : Str → Option Value) (x : Str) (u : Value) : Prop :=
  (env.kindOf x = some .local ∧ m x = some u) ∨ ((env.kindOf x = some .cell ∨ env.kindOf x = some .free) ∧ ∃ c, env.cells.lookup x = some c ∧ h.IsCell c (some u))
structure Cx.Ok (X : Cx) : Prop where
  mod : Mod X.K X.mg X.base
  kind : X.env.scope.kind = .function
  glob : X.env.globals = mainGlobals
  blt : X.env.builtins = builtinsNs
  above : X.s₀.heap.objs.size ≤ X.env.locals
  inj : ∀ x y c, X.env.cells.lookup x = some c → X.env.cells.lookup y = some c → x = y
  has : ∀ x, (X.env.kindOf x = some .cell ∨ X.env.kindOf x = some .free) → ∃ c, X.env.cells.lookup x = some c
  cab : ∀ x c, X.fn x = true → X.env.cells.lookup x = some c → X.s₀.heap.objs.size ≤ c
  hd : X.calm = true → X.A.handled = none
  frames : X.A.frames = some X.stack
  stk : X.stack = X.outer ∨ (X.stack = X.env :: X.outer ∧ X.env.frame = some X.env.locals)
  exf : ∀ b ∈ X.ex, b ≠ X.env.locals ∧ ∀ x c, X.env.cells.lookup x = some c → c ≠ b
  bs : ∀ b o, X.base.get? b = some o → X.s₀.heap.get? b = some o ∧ X.H₀ b = none
  bsz : X.base.objs.size ≤ X.s₀.heap.objs.size
  noex : ∀ b o, X.base.get? b = some o → b ∉ X.ex
  exfs : ∀ b ∈ X.ex, b ∉ X.fs
  funs : X.s₀.heap.FunFrames X.base X.outer
  frf : ∀ b ∈ X.fs, X.H₀ b = none
structure Inv (X : Cx) (pins : List (Addr × Obj)) (σ : List (Option V)) (H : Hp) (s : Shared) : Prop where
  ok : X.Ok
  os : s.os = X.s₀.os
  bare : AllBare s.gens
  base : Un X.fs X.ex X.H₀ H X.s₀.heap s.heap
  loc : ∃ m, s.heap.Ns X.env.locals m ∧ ∀ (i : Nat) (x : Str) (v : V), X.N[i]? = some x → σ[i]? = some (some v) → Vis X.env.scope x → ∃ u, RelV v u ∧ Look X.env s.heap m x u
  cell : ∀ x c, X.env.cells.lookup x = some c → ∃ v, s.heap.IsCell c v
  free : H X.env.locals = none
  freeC : ∀ x c, X.env.cells.lookup x = some c → H c = none
  pin : ∀ p ∈ X.pn ++ pins, s.heap.get? p.1 = some p.2 ∧ H p.1 = none ∧ p.1 ≠ X.env.locals ∧ p.1 ∉ X.fs ∧ ∀ v, p.2.data ≠ .cell v
  hok : HOk X.prog X.w H s.heap
  len : σ.length = X.N.length
section
variable {X : Cx} {pins : List (Addr × Obj)} {σ : List (Option V)} {H H' : Hp} {s : Shared} {h' : Heap}
theorem Cx.Ok.nofr (ok : X.Ok) {b : Addr} {o : Obj} (e : X.base.get? b = some o) : b ∉ X.fs := fun hb => by
  have := (ok.funs.mem hb).1
  rw [e] at this; cases this
theorem Inv.bs (I : Inv X pins σ H s) : ∀ b o, X.base.get? b = some o → s.heap.get? b = some o ∧ H b = none := fun b o e =>
  ⟨I.base.keep b o (I.ok.bs b o e).1 (I.ok.bs b o e).2 (I.ok.nofr e) (I.ok.noex b o e), I.base.free b o (I.ok.bs b o e).1 (I.ok.bs b o e).2 (I.ok.noex b o e)⟩
theorem Inv.bk (I : Inv X pins σ H s) : ∀ b o, X.base.get? b = some o → s.heap.get? b = some o := fun b o e => (I.bs b o e).1
theorem Inv.mod (I : Inv X pins σ H s) : Mod X.K X.mg X.base := I.ok.mod
theorem Inv.kIn (I : Inv X pins σ H s) : X.K.In s.heap := I.ok.mod.kin.keeps I.bk
theorem Inv.nolimit (I : Inv X pins σ H s) : s.heap.NoLimit := I.ok.mod.nolimit.keeps I.bk
theorem Inv.fr (I : Inv X pins σ H s) : ∃ m, Fr X.base X.env.locals s.heap m :=
  let ⟨m, hn, _⟩ := I.loc
  ⟨m, hn, I.bk, Nat.le_trans I.ok.bsz I.ok.above⟩
theorem Inv.lt (I : Inv X pins σ H s) : X.env.locals < s.heap.objs.size := let ⟨_, hn, _⟩ := I.loc; hn.lt
theorem Inv.sz (I : Inv X pins σ H s) : X.s₀.heap.objs.size ≤ s.heap.objs.size := Nat.le_trans I.ok.above (Nat.le_of_lt I.lt)
theorem Inv.nofs (I : Inv X pins σ H s) {a : Addr} (h : s.heap.objs.size ≤ a) : a ∉ X.fs := fun hb => by
  obtain ⟨_, o, ho, _⟩ := I.ok.funs.mem hb
  exact absurd (Nat.lt_of_lt_of_le (Heap.lt_size ho) (Nat.le_trans I.sz h)) (Nat.lt_irrefl _)
theorem Inv.cne (I : Inv X pins σ H s) : ∀ x c, X.env.cells.lookup x = some c → c ≠ X.env.locals := fun x c e z => by
  obtain ⟨v, o, ho, hd⟩ := I.cell x c e
  obtain ⟨m, ⟨o', es, ep, ho', hd', _⟩, _⟩ := I.loc
  rw [z, ho'] at ho; cases ho; rw [hd'] at hd; cases hd
theorem Inv.funs (I : Inv X pins σ H s) : s.heap.FunFrames X.base X.outer := by
  have all : ∀ (l : List Env), (∀ b ∈ frs l, b ∈ X.fs) → X.s₀.heap.FunFrames X.base l → s.heap.FunFrames X.base l := by
    intro l
    induction l with
    | nil => intro _ _; trivial
    | cons env r ih =>
      intro hs hl
      obtain ⟨hk, ⟨L, o, hf, hn, ho, hd⟩, hr⟩ := hl
      have hL : L ∈ X.fs := hs L (by unfold frs; rw [List.filterMap_cons, hf]; exact List.mem_cons_self)
      obtain ⟨sl, e⟩ := I.base.slot L o ho (I.ok.frf L hL) hL fun z => I.ok.exfs L z hL
      exact ⟨hk, ⟨L, _, hf, hn, e, hd⟩, ih (fun b hb => hs b (by unfold frs; rw [List.filterMap_cons, hf]; exact List.mem_cons_of_mem _ hb)) hr⟩
  exact all X.outer (fun _ hb => hb) I.ok.funs
theorem Inv.stack (I : Inv X pins σ H s) : s.heap.FunFrames X.base X.stack := by
  rcases I.ok.stk with e | ⟨e, hf⟩
  · rw [e]; exact I.funs
  · rw [e]
    obtain ⟨m, hn, _⟩ := I.loc
    refine .cons (by rw [I.ok.kind]; decide) hf hn ?_ I.funs
    exact Heap.get?_none_of_le (Nat.le_trans I.ok.bsz I.ok.above)
theorem Inv.stkSub (I : Inv X pins σ H s) : ∀ b ∈ frs X.stack, b ∈ X.env.locals :: X.fs := fun b hb => by
  rcases I.ok.stk with e | ⟨e, hf⟩
  · rw [e] at hb; exact List.mem_cons_of_mem _ hb
  · rw [e] at hb
    unfold frs at hb
    rw [List.filterMap_cons, hf] at hb
    exact hb
theorem Inv.stkFree (I : Inv X pins σ H s) : ∀ b ∈ frs X.stack, H b = none := fun b hb => by
  rcases List.mem_cons.mp (I.stkSub b hb) with e | hb
  · rw [e]; exact I.free
  · obtain ⟨_, o, ho, _⟩ := I.ok.funs.mem hb
    exact I.base.free b o ho (I.ok.frf b hb) fun z => I.ok.exfs b z hb
theorem Inv.step {g' : Array GenState} {t' : Nat} {d' : Drawn} {ch : List Addr} (I : Inv X pins σ H s)
    (hch : ∀ b ∈ ch, (b ∈ X.ex ∨ X.s₀.heap.objs.size ≤ b) ∧ b ≠ X.env.locals ∧ (∀ x c, X.env.cells.lookup x = some c → c ≠ b) ∧ ∀ p ∈ X.pn ++ pins, p.1 ≠ b)
    (keep : ∀ b o, b ≠ X.env.locals → b ∉ X.fs → b ∉ ch → s.heap.get? b = some o → H b = none → h'.get? b = some o)
    (slot : ∀ b o, b ≠ X.env.locals → b ∈ X.fs → b ∉ ch → s.heap.get? b = some o → H b = none → ∃ sl, h'.get? b = some { o with slots := sl }) (free : ∀ b o, b ∉ ch → s.heap.get? b = some o → H b = none → H' b = none)
    (there : ∀ b o, b ∉ ch → s.heap.get? b = some o → ∃ o', h'.get? b = some o')
    (tups : ∀ b xs, H b = some (.tup xs) → H' b = some (.tup xs)) (frzs : ∀ b o u, H b = some (.frz o u) → H' b = some (.frz o u)) (tbls : ∀ b ps, H b = some (.tbl ps) → ∃ more, H' b = some (.tbl (ps ++ more)))
    (ns : ∀ m, s.heap.Ns X.env.locals m → h'.Ns X.env.locals m) (hok : HOk X.prog X.w H' h') (hg : AllBare g') :
    Inv X pins σ H' { s with heap := h', gens := g', drawn := d', toks := t' } := by
  have neL : ∀ b o, X.s₀.heap.get? b = some o → b ≠ X.env.locals := fun b o e => Nat.ne_of_lt (Nat.lt_of_lt_of_le (Heap.lt_size e) I.ok.above)
  have neC : ∀ b o, X.s₀.heap.get? b = some o → b ∉ X.ex → b ∉ ch := fun b o e hx hb => by
    rcases (hch b hb).1 with z | z
    · exact hx z
    · exact absurd (Nat.lt_of_lt_of_le (Heap.lt_size e) z) (Nat.lt_irrefl _)
  have cellK : ∀ x c, X.env.cells.lookup x = some c → ∀ v, s.heap.IsCell c v → h'.IsCell c v := fun x c e v ⟨o, ho, hd⟩ => by
    have nch : c ∉ ch := fun z => (hch c z).2.2.1 x c e rfl
    by_cases hc : c ∈ X.fs
    · obtain ⟨sl, q⟩ := slot c o (I.cne x c e) hc nch ho (I.freeC x c e)
      exact ⟨_, q, hd⟩
    · exact ⟨o, keep c o (I.cne x c e) hc nch ho (I.freeC x c e), hd⟩
  refine ⟨I.ok, I.os, hg, ⟨fun b o e n hb hx => ?_, fun b o e n hb hx => ?_, fun b o e n hx => ?_, fun b o e hx => ?_, fun b xs e => tups b xs (I.base.tups b xs e), fun b o xs e => frzs b o xs (I.base.frzs b o xs e), fun b ps e => ?_⟩, ?_, fun x c e => ?_, ?_, fun x c e => ?_, fun p hp => ?_, hok, I.len⟩
  · exact keep b o (neL b o e) hb (neC b o e hx) (I.base.keep b o e n hb hx) (I.base.free b o e n hx)
  · obtain ⟨sl, e1⟩ := I.base.slot b o e n hb hx
    obtain ⟨sl', e2⟩ := slot b _ (neL b o e) hb (neC b o e hx) e1 (I.base.free b o e n hx)
    exact ⟨sl', e2⟩
  · obtain ⟨o', e1⟩ := I.base.there b o e hx
    exact free b o' (neC b o e hx) e1 (I.base.free b o e n hx)
  · obtain ⟨o', e1⟩ := I.base.there b o e hx
    exact there b o' (neC b o e hx) e1
  · obtain ⟨m1, e1⟩ := I.base.tbls b ps e
    obtain ⟨m2, e2⟩ := tbls b _ e1
    exact ⟨m1 ++ m2, by rw [e2, Array.append_assoc]⟩
  · obtain ⟨m, hn, hl⟩ := I.loc
    refine ⟨m, ns m hn, fun i x v e1 e2 e3 => ?_⟩
    obtain ⟨u, r, l⟩ := hl i x v e1 e2 e3
    refine ⟨u, r, ?_⟩
    rcases l with l | ⟨k, c, e, z⟩
    · exact .inl l
    · exact .inr ⟨k, c, e, cellK x c e _ z⟩
  · obtain ⟨v, z⟩ := I.cell x c e
    exact ⟨v, cellK x c e v z⟩
  · obtain ⟨m, ⟨o, _, _, ho, _⟩, _⟩ := I.loc
    exact free _ o (fun z => (hch _ z).2.1 rfl) ho I.free
  · obtain ⟨v, o, ho, hd⟩ := I.cell x c e
    exact free c o (fun z => (hch c z).2.2.1 x c e rfl) ho (I.freeC x c e)
  · obtain ⟨e, n, ne, nf, d⟩ := I.pin p hp
    have nch : p.1 ∉ ch := fun z => (hch p.1 z).2.2.2 p hp rfl
    exact ⟨keep p.1 p.2 ne nf nch e n, free p.1 p.2 nch e n, ne, nf, d⟩
theorem Inv.un {t' : Nat} (I : Inv X pins σ H s) (u : Un X.fs [] H H' s.heap h') (hok : HOk X.prog X.w H' h') : Inv X pins σ H' { s with heap := h', toks := t' } := by
  obtain ⟨m, ⟨o, es, ep, ho, r⟩, _⟩ := id I.loc
  obtain ⟨sl, hL⟩ := u.any ho I.free (by simp)
  exact I.step (g' := s.gens) (d' := s.drawn) (ch := []) (fun _ z => nomatch z) (fun b o _ hb _ e n => u.keep b o e n hb (by simp)) (fun b o _ hb _ e n => u.slot b o e n hb (by simp)) (fun b o _ e n => u.free b o e n (by simp)) (fun b o _ e => u.there b o e (by simp)) u.tups u.frzs u.tbls (fun m' hm => by
    obtain ⟨o', es', ep', ho', r'⟩ := hm
    rw [ho] at ho'; cases ho'
    exact ⟨_, es', ep', hL, r'⟩) hok I.bare
theorem Inv.call {g' : Array GenState} {t' : Nat} {d' : Drawn} {ch : List Addr} (I : Inv X pins σ H s) (u : Un (frs X.stack) ch H H' s.heap h') (hok : HOk X.prog X.w H' h') (hg : AllBare g')
    (hch : ∀ b ∈ ch, (b ∈ X.ex ∨ X.s₀.heap.objs.size ≤ b) ∧ b ≠ X.env.locals ∧ (∀ x c, X.env.cells.lookup x = some c → c ≠ b) ∧ ∀ p ∈ X.pn ++ pins, p.1 ≠ b) :
    Inv X pins σ H' { s with heap := h', gens := g', drawn := d', toks := t' } := by
  obtain ⟨m, ⟨o, es, ep, ho, r⟩, _⟩ := id I.loc
  obtain ⟨sl, hL⟩ := u.any ho I.free fun z => (hch _ z).2.1 rfl
  exact I.step (ch := ch) hch (fun b o hL hb hc e n => u.keep b o e n (fun z => (List.mem_cons.mp (I.stkSub b z)).elim hL hb) hc) (fun b o _ _ hc e n => u.any e n hc) (fun b o hc e n => u.free b o e n hc) (fun b o hc e => u.there b o e hc) u.tups u.frzs u.tbls (fun m' hm => by
    obtain ⟨o', es', ep', ho', r'⟩ := hm
    rw [ho] at ho'; cases ho'
    exact ⟨_, es', ep', hL, r'⟩) hok hg
theorem Inv.turned {t' : Nat} {it : Addr} (I : Inv X pins σ H s) (k : ∀ b o, b ≠ it → s.heap.get? b = some o → h'.get? b = some o) (hn : H it = none) (hL : it ≠ X.env.locals)
    (h1 : it ∈ X.ex ∨ X.s₀.heap.objs.size ≤ it) (h2 : ∀ x c, X.env.cells.lookup x = some c → c ≠ it) (h3 : ∀ p ∈ X.pn ++ pins, p.1 ≠ it) : Inv X pins σ H { s with heap := h', toks := t' } := by
  have nit : ∀ b u, H b = some u → b ≠ it := fun b u e z => by rw [z, hn] at e; cases e
  refine I.step (g' := s.gens) (d' := s.drawn) (ch := [it]) (fun b hb => ?_) (fun b o _ _ hc e _ => k b o (fun z => hc (by simp [z])) e) (fun b o _ _ hc e _ => ⟨o.slots, k b o (fun z => hc (by simp [z])) e⟩) (fun _ _ _ _ n => n)
    (fun b o hc e => ⟨o, k b o (fun z => hc (by simp [z])) e⟩) (fun _ _ e => e) (fun _ _ _ e => e) (fun b ps e => ⟨#[], by rw [e]; simp⟩) (fun m hm => ?_) (fun b u e => ?_) I.bare
  · have e : b = it := by simpa using hb
    subst e
    exact ⟨h1, hL, h2, h3⟩
  · obtain ⟨o, es, ep, ho, r⟩ := hm
    exact ⟨o, es, ep, k _ o (Ne.symm hL) ho, r⟩
  · refine (I.hok b u e).stay (fun c v hc q => k c v ?_ q) (fun _ q => q) fun _ _ q => q
    rcases hc with z | z
    · rw [z]; exact nit b u e
    · exact nit c _ z
theorem Inv.tok (I : Inv X pins σ H s) (t : Nat) : Inv X pins σ H { s with toks := t } := I.un (h' := s.heap) (t' := t) Un.refl I.hok
theorem Inv.kept {t' : Nat} (I : Inv X pins σ H s) (k : ∀ b u, s.heap.get? b = some u → h'.get? b = some u) : Inv X pins σ H { s with heap := h', toks := t' } := I.un (Un.kept k) (I.hok.kept k)
theorem Inv.laid {a : Addr} {o : HO} {t' : Nat} (I : Inv X pins σ H s) (k : ∀ b u, s.heap.get? b = some u → h'.get? b = some u) (hp : s.heap.objs.size ≤ a) (new : ObjOk X.prog X.w (upd H a o) h' a o) :
    Inv X pins σ (upd H a o) { s with heap := h', toks := t' } := I.un (Un.laid k hp (I.hok.fresh hp)) (I.hok.laid k hp new)
theorem Inv.write {x e : Addr} {o : HO} {t' : Nat} (I : Inv X pins σ H s) (mu : Mut (H x)) (he : e = x ∨ H e = some (.own x)) (k : ∀ b u, b ≠ e → s.heap.get? b = some u → h'.get? b = some u) (heo : ∃ u, h'.get? e = some u)
    (new : ObjOk X.prog X.w (upd H x o) h' x o) : Inv X pins σ (upd H x o) { s with heap := h', toks := t' } := I.un (Un.write mu he k heo) (I.hok.write mu he k heo new)
theorem Inv.pins_of {pins' : List (Addr × Obj)} (I : Inv X pins σ H s) (h : ∀ p ∈ pins', s.heap.get? p.1 = some p.2 ∧ H p.1 = none ∧ p.1 ≠ X.env.locals ∧ p.1 ∉ X.fs ∧ ∀ v, p.2.data ≠ .cell v) : Inv X pins' σ H s :=
  ⟨I.ok, I.os, I.bare, I.base, I.loc, I.cell, I.free, I.freeC, fun p hp => (List.mem_append.mp hp).elim (fun z => I.pin p (List.mem_append_left _ z)) (h p), I.hok, I.len⟩
theorem nodup_ix {N : List Str} (hN : N.Nodup) {i j : Nat} {x : Str} (a : N[i]? = some x) (b : N[j]? = some x) : i = j := by
  obtain ⟨h1, e1⟩ := List.getElem?_eq_some_iff.mp a
  obtain ⟨h2, e2⟩ := List.getElem?_eq_some_iff.mp b
  exact (List.getElem_inj hN).mp (e1.trans e2.symm)
theorem store_ok2 {M : Model} {A : Around} {E : Value → Shared → Prop} {i : Nat} {x : Str} {v : V} {u : Value} {Q : Unit → Shared → Prop} (I : Inv X pins σ H s) (hN : X.N.Nodup) (hi : X.N[i]? = some x) (hx : Loc X.env.scope x) (r : RelV v u)
    (h : ∀ s', Inv X pins (σ.set i (some v)) H s' → (∃ a, Heap.SameBut a s.heap s'.heap ∧ (a = X.env.locals ∨ X.env.cells.lookup x = some a)) → Q () s') (hf : X.fn x = true ∨ X.env.scope.names.lookup x = some .local := by first | exact .inl rfl | exact .inr rfl | assumption) : wpAny M A (storeName X.env x u) Q E s := by
  obtain ⟨m, hn, hl⟩ := id I.loc
  have hcls : (X.env.scope.kind == .class || (X.env.scope.kind == .module && X.env.locals != X.env.globals)) = false := by rw [I.ok.kind]; rfl
  have hiσ : i < σ.length := by rw [I.len]; exact (List.getElem?_eq_some_iff.mp hi).1
  have cne := I.cne
  have tracked : ∀ {a : Addr} {h' : Heap}, (∃ o, s.heap.get? a = some o ∧ H a = none) → Heap.SameBut a s.heap h' → HOk X.prog X.w H h' := fun {a h'} ha hs b ob e => by
    obtain ⟨_, _, hfree⟩ := ha
    refine (I.hok b ob e).stay (fun c w' hc q => (hs.2 c ?_).trans q) (fun _ q => q) fun _ _ q => q
    rintro rfl
    rcases hc with rfl | hc
    · rw [hfree] at e; cases e
    · rw [hfree] at hc; cases hc
  rcases hx with hk | hk
  · refine wpAny_storeName_local hk hn (fun h' hn' hs => ?_) hcls
    obtain ⟨oL, _, _, hoL, _⟩ := id hn
    refine h _ ⟨I.ok, I.os, I.bare, ⟨fun b o e n hb hx => ?_, fun b o e n hb hx => ?_, I.base.free, fun b o e hx => ?_, I.base.tups, I.base.frzs, I.base.tbls⟩, ⟨_, hn', fun j y v' e1 e2 e3 => ?_⟩, fun y c e => ?_, I.free, I.freeC, fun p hp => ?_, tracked ⟨oL, hoL, I.free⟩ hs, by simpa using I.len⟩ ⟨_, hs, .inl rfl⟩
    · exact (hs.2 b (Nat.ne_of_lt (Nat.lt_of_lt_of_le (Heap.lt_size e) I.ok.above))).trans (I.base.keep b o e n hb hx)
    · obtain ⟨sl, e1⟩ := I.base.slot b o e n hb hx
      exact ⟨sl, (hs.2 b (Nat.ne_of_lt (Nat.lt_of_lt_of_le (Heap.lt_size e) I.ok.above))).trans e1⟩
    · obtain ⟨o', e1⟩ := I.base.there b o e hx
      exact ⟨o', (hs.2 b (Nat.ne_of_lt (Nat.lt_of_lt_of_le (Heap.lt_size e) I.ok.above))).trans e1⟩
    · by_cases hj : j = i
      · subst hj
        rw [hi] at e1; cases e1
        rw [List.getElem?_set_self hiσ] at e2
        cases e2
        exact ⟨u, r, .inl ⟨hk, by simp⟩⟩
      · rw [List.getElem?_set_ne (Ne.symm hj)] at e2
        obtain ⟨u', r', q⟩ := hl j y v' e1 e2 e3
        refine ⟨u', r', ?_⟩
        rcases q with ⟨k, e⟩ | ⟨k, c, e, z⟩
        · refine .inl ⟨k, ?_⟩
          have : y ≠ x := fun e => hj (nodup_ix hN e1 (e ▸ hi))
          simp [this, e]
        · exact .inr ⟨k, c, e, z.sameBut hs (cne y c e)⟩
    · obtain ⟨w', z⟩ := I.cell y c e
      exact ⟨w', z.sameBut hs (cne y c e)⟩
    · obtain ⟨e, n, ne, nf, d⟩ := I.pin p hp
      exact ⟨(hs.2 p.1 ne).trans e, n, ne, nf, d⟩
  · have hfn : X.fn x = true := by
      rcases hf with z | z
      · exact z
      · rw [z] at hk; cases hk
    obtain ⟨c, hc⟩ := I.ok.has x (.inl hk)
    obtain ⟨w', z⟩ := I.cell x c hc
    refine wpAny_storeName_cell I.ok.kind hk hc z (fun h' hc' hs => ?_)
    obtain ⟨oc, hoc, hocd⟩ := id z
    refine h { s with heap := h' } ⟨I.ok, I.os, I.bare, ⟨fun b o e n hb hx => ?_, fun b o e n hb hx => ?_, I.base.free, fun b o e hx => ?_, I.base.tups, I.base.frzs, I.base.tbls⟩, ⟨m, hn.sameBut hs (Ne.symm (cne x c hc)), fun j y v' e1 e2 e3 => ?_⟩, fun y c' e => ?_, I.free, I.freeC, fun p hp => ?_, tracked ⟨oc, hoc, I.freeC x c hc⟩ hs, by simpa using I.len⟩ ⟨c, hs, .inr hc⟩
    · exact (hs.2 b (Nat.ne_of_lt (Nat.lt_of_lt_of_le (Heap.lt_size e) (I.ok.cab x c hfn hc)))).trans (I.base.keep b o e n hb hx)
    · obtain ⟨sl, e1⟩ := I.base.slot b o e n hb hx
      exact ⟨sl, (hs.2 b (Nat.ne_of_lt (Nat.lt_of_lt_of_le (Heap.lt_size e) (I.ok.cab x c hfn hc)))).trans e1⟩
    · obtain ⟨o', e1⟩ := I.base.there b o e hx
      exact ⟨o', (hs.2 b (Nat.ne_of_lt (Nat.lt_of_lt_of_le (Heap.lt_size e) (I.ok.cab x c hfn hc)))).trans e1⟩
    · by_cases hj : j = i
      · subst hj
        rw [hi] at e1; cases e1
        rw [List.getElem?_set_self hiσ] at e2
        cases e2
        exact ⟨u, r, .inr ⟨.inl hk, c, hc, hc'⟩⟩
      · rw [List.getElem?_set_ne (Ne.symm hj)] at e2
        obtain ⟨u', r', q⟩ := hl j y v' e1 e2 e3
        refine ⟨u', r', ?_⟩
        rcases q with q | ⟨k, c', e, z'⟩
        · exact .inl q
        · refine .inr ⟨k, c', e, z'.sameBut hs ?_⟩
          rintro rfl
          exact hj (nodup_ix hN e1 (I.ok.inj _ _ _ e hc ▸ hi))
    · by_cases hcc : c' = c
      · subst hcc; exact ⟨_, hc'⟩
      · obtain ⟨w2, z2⟩ := I.cell y c' e
        exact ⟨w2, z2.sameBut hs hcc⟩
    · obtain ⟨e, n, ne, nf, d⟩ := I.pin p hp
      refine ⟨(hs.2 p.1 ?_).trans e, n, ne, nf, d⟩
      intro q
      rw [q, hoc] at e
      have q' : oc = p.2 := Option.some.inj e
      exact d w' (by rw [← q']; exact hocd)
theorem store_ok {M : Model} {A : Around} {E : Value → Shared → Prop} {i : Nat} {x : Str} {v : V} {u : Value} {Q : Unit → Shared → Prop} (I : Inv X pins σ H s) (hN : X.N.Nodup) (hi : X.N[i]? = some x) (hx : Loc X.env.scope x) (r : RelV v u)
    (h : ∀ s', Inv X pins (σ.set i (some v)) H s' → Q () s') (hf : X.fn x = true ∨ X.env.scope.names.lookup x = some .local := by first | exact .inl rfl | exact .inr rfl | assumption) : wpAny M A (storeName X.env x u) Q E s :=
  store_ok2 I hN hi hx r (fun s' I' _ => h s' I') hf
theorem Inv.call' {s' : Shared} {ch : List Addr} (I : Inv X pins σ H s) (ho : s'.os = s.os) (u : Un (frs X.stack) ch H H' s.heap s'.heap) (hok : HOk X.prog X.w H' s'.heap) (hg : AllBare s'.gens)
    (hch : ∀ b ∈ ch, (b ∈ X.ex ∨ X.s₀.heap.objs.size ≤ b) ∧ b ≠ X.env.locals ∧ (∀ x c, X.env.cells.lookup x = some c → c ≠ b) ∧ ∀ p ∈ X.pn ++ pins, p.1 ≠ b) : Inv X pins σ H' s' := by
  obtain ⟨h', g', d', t', o'⟩ := s'
  have e : o' = s.os := ho
  subst e
  exact I.call (g' := g') (t' := t') (d' := d') u hok hg hch
end
abbrev XK := Value → Option Addr → Hp → Prop
abbrev St := List (Option V)
abbrev VK := V → Hp → Prop
abbrev TE := St → Hp → VK → Prop
abbrev TT := St → Hp → (Bool → Hp → Prop) → Prop
abbrev TA := St → Hp → (List V → Hp → Prop) → Prop
structure Ends where
  nx : St → Hp → Prop
  rt : VK
  bk : St → Hp → Prop := fun _ _ => False
  ct : St → Hp → Prop := fun _ _ => False
abbrev TS := Ends → St → Hp → Prop
def EP (X : Cx) (pins : List (Addr × Obj)) (σ : St) (Q : VK) (u : Value) (s' : Shared) : Prop := ∃ v H', Inv X pins σ H' s' ∧ RelV v u ∧ Q v H'
def TP (X : Cx) (pins : List (Addr × Obj)) (σ : St) (Q : Bool → Hp → Prop) (b : Bool) (s' : Shared) : Prop := ∃ H', Inv X pins σ H' s' ∧ Q b H'
def AP (X : Cx) (pins : List (Addr × Obj)) (σ : St) (Q : List V → Hp → Prop) (us : List Value) (s' : Shared) : Prop := ∃ vs H', Inv X pins σ H' s' ∧ Vals vs us ∧ Q vs H'
def SP (X : Cx) (pins : List (Addr × Obj)) (D : Ends) (f : Flow) (s' : Shared) : Prop :=
  match f with
  | .next => ∃ σ' H', Inv X pins σ' H' s' ∧ D.nx σ' H'
  | .brk => ∃ σ' H', Inv X pins σ' H' s' ∧ D.bk σ' H'
  | .cont => ∃ σ' H', Inv X pins σ' H' s' ∧ D.ct σ' H'
  | .ret u => ∃ v σ' H', Inv X pins σ' H' s' ∧ RelV v u ∧ D.rt v H'
def PE (X : Cx) (e : Expr) (t : TE) : Prop :=
  ∀ (pins : List (Addr × Obj)) (s : Shared) (σ : St) (H : Hp) (Q : VK), Inv X pins σ H s → t σ H Q → wpAny (model X.prog X.w) X.A (eval e X.env) (EP X pins σ Q) X.xe s
def PT (X : Cx) (e : Expr) (t : TT) : Prop :=
  ∀ (pins : List (Addr × Obj)) (s : Shared) (σ : St) (H : Hp) (Q : Bool → Hp → Prop), Inv X pins σ H s → t σ H Q → wpAny (model X.prog X.w) X.A (isTrue e X.env (eval e X.env)) (TP X pins σ Q) X.xe s
def PW (X : Cx) (e : Expr) (t : TT) : Prop :=
  ∀ (whole : Sem Value) (pins : List (Addr × Obj)) (s : Shared) (σ : St) (H : Hp) (Q : Bool → Hp → Prop), Inv X pins σ H s → t σ H Q → wpAny (model X.prog X.w) X.A (isTrue e X.env whole) (TP X pins σ Q) X.xe s
theorem PW.pt {X : Cx} {e : Expr} {t : TT} (h : PW X e t) : PT X e t := h _
def PA (X : Cx) (es : List Expr) (t : TA) : Prop :=
  ∀ (pos : Pos) (pins : List (Addr × Obj)) (s : Shared) (σ : St) (H : Hp) (Q : List V → Hp → Prop), Inv X pins σ H s → t σ H Q → wpAny (model X.prog X.w) X.A (spliced (backTo pos (starEach es X.env))) (AP X pins σ Q) X.xe s
def PS (X : Cx) (st : Stmt) (t : TS) : Prop :=
  ∀ (pins : List (Addr × Obj)) (s : Shared) (σ : St) (H : Hp) (D : Ends), Inv X pins σ H s → t D σ H → wpAny (model X.prog X.w) X.A (exec st X.env) (SP X pins D) X.xe s
def PSs (X : Cx) (st : List Stmt) (t : TS) : Prop :=
  ∀ (pins : List (Addr × Obj)) (s : Shared) (σ : St) (H : Hp) (D : Ends), Inv X pins σ H s → t D σ H → wpAny (model X.prog X.w) X.A (execs st X.env) (SP X pins D) X.xe s
theorem thn {α : Type} {t : Sem α} {Q Q' : α → Shared → Prop} {M : Model} {A : Around} {E : Value → Shared → Prop} {s : Shared} (h : wpAny M A t Q E s) (hQ : ∀ a s, Q a s → Q' a s) : wpAny M A t Q' E s := wpAny_mono h hQ fun _ _ x => x
end L2
namespace L2
open PySem PySem.Spec PyProof.Rows
section
variable {X : Cx}
def tVar (i : Nat) : TE := fun σ H Q => ∃ v, σ[i]? = some (some v) ∧ Q v H
def tC (v : V) : TE := fun _ H Q => Q v H
theorem pe_var {i : Nat} {x : Str} {pos : Pos} (hN : X.N[i]? = some x) (hv : Vis X.env.scope x) (hd : (x == ("__debug__" : Str)) = false := by decide) (hcd : (x == ("__classdict__" : Str)) = false := by decide) : PE X (.Name x pos) (tVar i) := by
  intro pins s σ H Q I h
  obtain ⟨v, e, h⟩ := h
  obtain ⟨m, hn, hl⟩ := I.loc
  obtain ⟨u, r, l⟩ := hl i x v hN e hv
  have fin : EP X pins σ Q u s := ⟨v, H, I, r, h⟩
  rcases l with ⟨hk, hm⟩ | ⟨hk, c, hc, hcell⟩
  · exact wpAny_Name (wpAny_loadName_local I.ok.kind hk hn hm fin) hd
  · rcases hk with hk | hk
    · exact wpAny_Name (wpAny_loadName_cell I.ok.kind hk hc hcell fin) hd
    · exact wpAny_Name (wpAny_loadName_free I.ok.kind hk hc hcell fin hcd) hd
theorem pe_int {i j pos} : PE X (.Constant (.int i) j pos) (tC (.int i)) := fun _ _ _ H _ I h => wpAny_Constant_int ⟨.int i, H, I.tok _, ⟨_, rfl⟩, h⟩
theorem pe_bl {b j pos} : PE X (.Constant (.bool b) j pos) (tC (.bl b)) := fun _ _ _ H _ I h => Constant_bool ⟨.bl b, H, I, rfl, h⟩
theorem pe_non {j pos} : PE X (.Constant .none j pos) (tC .non) := fun _ _ _ H _ I h => Constant_none ⟨.non, H, I, rfl, h⟩
theorem pe_str {x j pos} : PE X (.Constant (.str x) j pos) (tC (.str x)) := fun _ _ _ H _ I h => Calls.Constant_str ⟨.str x, H, I.tok _, ⟨_, rfl⟩, h⟩
def Gl (X : Cx) (x : Str) : Prop := X.env.kindOf x = some .globalImplicit
theorem ld_glob {E : Value → Shared → Prop} {pins : List (Addr × Obj)} {s : Shared} {σ : St} {H : Hp} {x : Str} {u : Value} {pos : Pos} {Q : Value → Shared → Prop} (I : Inv X pins σ H s) (hg : Gl X x) (hm : X.mg x = some u) (h : Q u s)
    (hd : (x == ("__debug__" : Str)) = false := by decide) : wpAny (model X.prog X.w) X.A (eval (.Name x pos) X.env) Q E s :=
  Calls.Name_function_global I.ok.kind hg (Calls.loadGlobal_global (by rw [I.ok.glob]; exact I.mod.glob.keeps I.bk) hm h) hd
theorem ld_blt {E : Value → Shared → Prop} {pins : List (Addr × Obj)} {s : Shared} {σ : St} {H : Hp} {x : Str} {u : Value} {pos : Pos} {Q : Value → Shared → Prop} (I : Inv X pins σ H s) (hg : Gl X x) (hm : X.mg x = none) (hv : bootBuiltins x = some u) (h : Q u s)
    (hn : x ≠ "__name__" := by decide) (hd : (x == ("__debug__" : Str)) = false := by decide) : wpAny (model X.prog X.w) X.A (eval (.Name x pos) X.env) Q E s := by
  obtain ⟨mb, h1, h2⟩ := I.mod.blt
  exact Calls.Name_function_global I.ok.kind hg (Calls.loadGlobal_builtin (by rw [I.ok.glob]; exact I.mod.glob.keeps I.bk) hm (by rw [I.ok.blt]; exact h1.keeps I.bk) ((h2 x hn).trans hv) h) hd
theorem pe_glob {x : Str} {v : V} {u : Value} {pos : Pos} (hg : Gl X x) (hm : X.mg x = some u) (r : RelV v u) (hd : (x == ("__debug__" : Str)) = false := by decide) : PE X (.Name x pos) (tC v) :=
  fun _ _ _ H _ I h => ld_glob I hg hm ⟨v, H, I, r, h⟩ hd
theorem pe_bltn {x : Str} {v : V} {u : Value} {pos : Pos} (hg : Gl X x) (hm : X.mg x = none) (hv : bootBuiltins x = some u) (r : RelV v u) (hn : x ≠ "__name__" := by decide) (hd : (x == ("__debug__" : Str)) = false := by decide) : PE X (.Name x pos) (tC v) :=
  fun _ _ _ H _ I h => ld_blt I hg hm hv ⟨v, H, I, r, h⟩ hn hd
variable {a b : Expr} {ta tb : TE} {pos : Pos}
def PC (X : Cx) (op : CmpOp) (a b : Expr) (t : TE) : Prop :=
  ∀ (pins : List (Addr × Obj)) (s : Shared) (σ : St) (H : Hp) (Q : VK), Inv X pins σ H s → t σ H Q →
    wpAny (model X.prog X.w) X.A (eval a X.env) (fun v s₁ => wpAny (model X.prog X.w) X.A (eval b X.env) (fun u s₂ => wpAny (model X.prog X.w) X.A (compareOp op v u) (EP X pins σ Q) X.xe s₂) X.xe s₁) X.xe s
theorem nobehind (b : Expr) {op : CmpOp} (h : op ≠ .In) (h2 : op ≠ .NotIn) : behindInMarks op b = false := by
  have e1 : (op == CmpOp.In) = false := by cases op <;> first | rfl | exact absurd rfl h
  have e2 : (op == CmpOp.NotIn) = false := by cases op <;> first | rfl | exact absurd rfl h2
  cases b <;> simp [behindInMarks, e1, e2]
def tB (t : TE) : TT := fun σ H Q => t σ H fun x H1 => ∃ c, x = .bl c ∧ Q c H1
theorem pt_cmp {op : CmpOp} {t : TE} (h : PC X op a b t) (h1 : behindInMarks op b = false := by first | exact nobehind _ (by decide) (by decide) | rfl) : PT X (.Compare a [op] [b] pos) (tB t) := by
  intro pins s σ H Q I hw
  refine wpAny_isTrue_Compare1 (thn (h pins s σ H _ I hw) fun v s1 h1 => thn h1 fun u s2 h2 => thn h2 fun c s3 ⟨x, H1, I1, r1, q1⟩ => ?_) h1
  obtain ⟨d, rfl, q⟩ := q1
  cases r1
  exact wpAny_truthy_bool ⟨H1, I1, q⟩
theorem pt_val {e : Expr} {t : TE} (h : PE X e t) (he : ∀ whole, isTrue e X.env whole = (do let v ← whole; standAt e.pos; holding [v] (truthy v)) := by intro _; rfl) : PT X e (tB t) := by
  intro pins s σ H Q I hw
  refine isTrue_plain (thn (h pins s σ H _ I hw) fun v s1 ⟨x, H1, I1, r1, q1⟩ => ?_) (he _)
  obtain ⟨d, rfl, q⟩ := q1
  cases r1
  exact wpAny_truthy_bool ⟨H1, I1, q⟩
variable {tA tB' : TT} {rest : List Expr}
def tAnd (t u : TT) : TT := fun σ H Q => t σ H fun c H1 => if c = true then u σ H1 Q else Q false H1
def tOr (t u : TT) : TT := fun σ H Q => t σ H fun c H1 => if c = true then Q true H1 else u σ H1 Q
def tNot (t : TT) : TT := fun σ H Q => t σ H fun c H1 => Q (!c) H1
theorem pw_and1 (ha : PT X a tA) : PW X (.BoolOp .And [a] pos) tA := by
  intro wh pins s σ H Q I h
  refine isTrue_and (thn (ha pins s σ H Q I h) fun c s1 e => ?_)
  cases c with
  | true => exact isTrue_and_nil e
  | false => exact e
theorem pw_or1 (ha : PT X a tA) : PW X (.BoolOp .Or [a] pos) tA := by
  intro wh pins s σ H Q I h
  refine isTrue_or (thn (ha pins s σ H Q I h) fun c s1 e => ?_)
  cases c with
  | false => exact isTrue_or_nil e
  | true => exact e
theorem pw_and (ha : PT X a tA) (hb : PW X (.BoolOp .And (b :: rest) pos) tB') : PW X (.BoolOp .And (a :: b :: rest) pos) (tAnd tA tB') := by
  intro wh pins s σ H Q I h
  refine isTrue_and (thn (ha pins s σ H _ I h) ?_)
  rintro c s1 ⟨H1, I1, q1⟩
  cases c with
  | true => exact hb wh pins s1 σ H1 Q I1 q1
  | false => exact ⟨H1, I1, q1⟩
theorem pw_or (ha : PT X a tA) (hb : PW X (.BoolOp .Or (b :: rest) pos) tB') : PW X (.BoolOp .Or (a :: b :: rest) pos) (tOr tA tB') := by
  intro wh pins s σ H Q I h
  refine isTrue_or (thn (ha pins s σ H _ I h) ?_)
  rintro c s1 ⟨H1, I1, q1⟩
  cases c with
  | true => exact ⟨H1, I1, q1⟩
  | false => exact hb wh pins s1 σ H1 Q I1 q1
theorem pt_not (ha : PT X a tA) : PT X (.UnaryOp .Not a pos) (tNot tA) := by
  intro pins s σ H Q I h
  exact isTrue_not (ha pins s σ H (fun c H1 => Q (!c) H1) I h)
end
end L2
namespace L2
open PySem PySem.Spec PyProof.Rows
def SqL (K : PySem.W.Frag) (H : Hp) (a : Addr) (xs : List V) : Prop :=
  Rd H a (.lst xs) ∨
    ∃ (o : Obj) (its : Array Value) (n : Nat), K.lookup a = some o ∧ o.cls = .type "list" ∧ o.dict = none ∧ o.data = .seq its n ∧ its.size ≤ sizeLine ∧ Vals xs its.toList
def SqT (K : PySem.W.Frag) (H : Hp) (a : Addr) (xs : List V) : Prop :=
  Rd H a (.tup xs) ∨
    ∃ (o : Obj) (its : Array Value) (n : Nat), K.lookup a = some o ∧ o.cls = .type "tuple" ∧ o.data = .seq its n ∧ its.size ≤ sizeLine ∧ Vals xs its.toList
def absV : Value → Option V
  | .none => some .non
  | .bool b => some (.bl b)
  | .int i _ => some (.int i)
  | .str x _ => some (.str x)
  | .bytes b _ => some (.byt b)
  | .float b _ => some (.flt b)
  | .ref a => some (.ref a)
  | .type n => some (.ty n)
  | _ => none
theorem RelV.abs {x : V} {u : Value} (r : RelV x u) : absV u = some x := by
  cases x with
  | non => cases r; rfl
  | bl _ => cases r; rfl
  | int _ => obtain ⟨t, rfl⟩ := r; rfl
  | str _ => obtain ⟨t, rfl⟩ := r; rfl
  | byt _ => obtain ⟨t, rfl⟩ := r; rfl
  | flt _ => obtain ⟨t, rfl⟩ := r; rfl
  | ref _ => cases r; rfl
  | ty _ => cases r; rfl
theorem RelV.inj {x y : V} {u : Value} (r : RelV x u) (q : RelV y u) : x = y := Option.some.inj (r.abs.symm.trans q.abs)
theorem Vals.inj : ∀ {xs ys : List V} {us : List Value}, Vals xs us → Vals ys us → xs = ys
  | _, _, _, .nil, .nil => rfl
  | _, _, _, .cons r t, .cons r' t' => by rw [r.inj r', Vals.inj t t']
section
variable {X : Cx} {pins : List (Addr × Obj)} {σ : St} {H : Hp} {s : Shared} {a : Addr} {xs ys : List V}
theorem SqL.of {K : PySem.W.Frag} (h : H a = some (.lst xs)) : SqL K H a xs := .inl (.inl h)
theorem SqT.of {K : PySem.W.Frag} (h : H a = some (.tup xs)) : SqT K H a xs := .inl (.inl h)
theorem Inv.list (I : Inv X pins σ H s) (h : SqL X.K H a xs) : ∃ its : List Value, Vals xs its ∧ PlainL s.heap a its.toArray ∧ xs.length ≤ sizeLine := by
  rcases h with h | ⟨o, its, n, hk, hc, hd, hs, hz, r⟩
  · obtain ⟨z, its, n, r, e⟩ := h.ok I.hok
    exact ⟨its, r, ⟨_, n, e, rfl, rfl, rfl⟩, z⟩
  · refine ⟨its.toList, r, ⟨o, n, I.kIn a o hk, hc, hd, by simpa using hs⟩, ?_⟩
    have e := r.length
    simp only [Array.length_toList] at e
    omega
theorem Inv.tuple (I : Inv X pins σ H s) (h : SqT X.K H a xs) : ∃ its : List Value, Vals xs its ∧ IsTup s.heap a its.toArray ∧ xs.length ≤ sizeLine := by
  rcases h with h | ⟨o, its, n, hk, hc, hs, hz, r⟩
  · obtain ⟨⟨z, _⟩, its, r, p⟩ := h.ok I.hok
    exact ⟨its, r, p, z⟩
  · refine ⟨its.toList, r, ⟨o, I.kIn a o hk, hc, n, by simpa using hs⟩, ?_⟩
    have e := r.length
    simp only [Array.length_toList] at e
    omega
theorem Inv.list_inj (I : Inv X pins σ H s) (h : SqL X.K H a xs) (h' : SqL X.K H a ys) : xs = ys := by
  obtain ⟨its, r, ⟨o, n, e, _, _, d⟩, _⟩ := I.list h
  obtain ⟨its', r', ⟨o', n', e', _, _, d'⟩, _⟩ := I.list h'
  rw [e] at e'; cases e'
  rw [d] at d'
  injection d' with d1 _
  have : its = its' := by simpa using congrArg Array.toList d1
  subst this
  exact r.inj r'
theorem Inv.tuple_inj (I : Inv X pins σ H s) (h : SqT X.K H a xs) (h' : SqT X.K H a ys) : xs = ys := by
  obtain ⟨its, r, ⟨o, e, _, n, d⟩, _⟩ := I.tuple h
  obtain ⟨its', r', ⟨o', e', _, n', d'⟩, _⟩ := I.tuple h'
  rw [e] at e'; cases e'
  rw [d] at d'
  injection d' with d1 _
  have : its = its' := by simpa using congrArg Array.toList d1
  subst this
  exact r.inj r'
end
abbrev Cx.wish (X : Cx) (E : Value → Shared → Prop) : Cx := { X with xe := E }
abbrev Cx.nox (X : Cx) : Cx := X.wish fun _ _ => False
theorem Cx.Ok.wish {X : Cx} (ok : X.Ok) (E : Value → Shared → Prop) : (X.wish E).Ok :=
  ⟨ok.mod, ok.kind, ok.glob, ok.blt, ok.above, ok.inj, ok.has, ok.cab, ok.hd, ok.frames, ok.stk, ok.exf, ok.bs, ok.bsz, ok.noex, ok.exfs, ok.funs, ok.frf⟩
theorem Cx.Ok.unwish {X : Cx} {E : Value → Shared → Prop} (ok : (X.wish E).Ok) : X.Ok :=
  ⟨ok.mod, ok.kind, ok.glob, ok.blt, ok.above, ok.inj, ok.has, ok.cab, ok.hd, ok.frames, ok.stk, ok.exf, ok.bs, ok.bsz, ok.noex, ok.exfs, ok.funs, ok.frf⟩
section
variable {X : Cx} {pins : List (Addr × Obj)} {σ : St} {H : Hp} {s : Shared} {E : Value → Shared → Prop}
theorem Inv.wish (I : Inv X pins σ H s) (E : Value → Shared → Prop) : Inv (X.wish E) pins σ H s := ⟨I.ok.wish E, I.os, I.bare, I.base, I.loc, I.cell, I.free, I.freeC, I.pin, I.hok, I.len⟩
theorem Inv.unwish (I : Inv (X.wish E) pins σ H s) : Inv X pins σ H s := ⟨I.ok.unwish, I.os, I.bare, I.base, I.loc, I.cell, I.free, I.freeC, I.pin, I.hok, I.len⟩
theorem SP.unwish {D : Ends} {f : Flow} {s' : Shared} (h : SP (X.wish E) pins D f s') : SP X pins D f s' := by
  cases f with
  | next => obtain ⟨σ', H', I, q⟩ := h; exact ⟨σ', H', I.unwish, q⟩
  | brk => obtain ⟨σ', H', I, q⟩ := h; exact ⟨σ', H', I.unwish, q⟩
  | cont => obtain ⟨σ', H', I, q⟩ := h; exact ⟨σ', H', I.unwish, q⟩
  | ret u => obtain ⟨v, σ', H', I, r, q⟩ := h; exact ⟨v, σ', H', I.unwish, r, q⟩
theorem PE.nox {e : Expr} {t : TE} (h : PE X.nox e t) : PE X e t := fun pins s σ H Q I hw =>
  wpAny_mono (h pins s σ H Q (I.wish _) hw) (by rintro _ _ ⟨v, H', I', r, q⟩; exact ⟨v, H', I'.unwish, r, q⟩) fun _ _ z => False.elim z
theorem PT.nox {e : Expr} {t : TT} (h : PT X.nox e t) : PT X e t := fun pins s σ H Q I hw =>
  wpAny_mono (h pins s σ H Q (I.wish _) hw) (by rintro _ _ ⟨H', I', q⟩; exact ⟨H', I'.unwish, q⟩) fun _ _ z => False.elim z
theorem PSs.nox {st : List Stmt} {t : TS} (h : PSs X.nox st t) : PSs X st t := fun pins s σ H D I hw =>
  wpAny_mono (h pins s σ H D (I.wish _) hw) (fun _ _ q => q.unwish) fun _ _ z => False.elim z
end
section
variable {X : Cx} {st : Stmt} {rest : List Stmt} {t u : TS} {e : Expr} {te : TE} {pos : Pos}
def tNext : TS := fun D σ H => D.nx σ H
def tSeq (t u : TS) : TS := fun D σ H => t { D with nx := u D } σ H
theorem pss_nil : PSs X [] tNext := fun _ _ σ H _ I h => wpAny_execs_nil ⟨σ, H, I, h⟩
theorem pss_cons (h1 : PS X st t) (h2 : PSs X rest u) : PSs X (st :: rest) (tSeq t u) := by
  intro pins s σ H D I h
  refine wpAny_execs_cons (thn (h1 pins s σ H { D with nx := u D } I h) fun f s1 q => ?_)
  cases f with
  | next =>
    obtain ⟨σ', H', I', q⟩ := q
    exact h2 pins s1 σ' H' D I' q
  | ret v => exact q
  | brk => exact q
  | cont => exact q
theorem pss_one (h1 : PS X st t) : PSs X [st] t := by
  intro pins s σ H D I h
  refine wpAny_execs_cons (thn (h1 pins s σ H D I h) fun f s1 q => ?_)
  cases f with
  | next => exact wpAny_execs_nil q
  | ret v => exact q
  | brk => exact q
  | cont => exact q
theorem Inv.quiet {pins : List (Addr × Obj)} {σ : St} {H : Hp} {s : Shared} (I : Inv X pins σ H s) : interactive X.env = false := by simp [interactive, I.ok.kind]
def tDrop (te : TE) : TS := fun D σ H => te σ H fun _ H1 => D.nx σ H1
theorem ps_expr (he : PE X e te) (hs : swapsWith e none pos.line X.env = pure false := by rfl) : PS X (.Expr e pos) (tDrop te) := by
  intro pins s σ H D I h
  exact wpAny_Expr_any (thn (he pins s σ H _ I h) fun v s1 ⟨x, H1, I1, r1, q1⟩ => ⟨σ, H1, I1, q1⟩) I.quiet hs
def tRet (te : TE) : TS := fun D σ H => te σ H D.rt
theorem ps_ret (he : PE X e te) : PS X (.Return (some e) pos) (tRet te) := by
  intro pins s σ H D I h
  exact wpAny_Return_some (thn (he pins s σ H _ I h) fun v s1 ⟨x, H1, I1, r1, q1⟩ => ⟨x, σ, H1, I1, r1, q1⟩)
def tIfS (c : TT) (t u : TS) : TS := fun D σ H => c σ H fun b H1 => if b = true then t D σ H1 else u D σ H1
theorem ps_if {c : Expr} {a b : List Stmt} {tc : TT} (hc : PT X c tc) (ha : PSs X a t) (hb : PSs X b u) : PS X (.If c a b pos) (tIfS tc t u) := by
  intro pins s σ H D I h
  refine wpAny_If (thn (hc pins s σ H _ I h) ?_)
  rintro d s1 ⟨H1, I1, q1⟩
  cases d with
  | true => exact ha pins s1 σ H1 D I1 q1
  | false => exact hb pins s1 σ H1 D I1 q1
end
abbrev TG := V → St → Hp → (St → Hp → Prop) → Prop
abbrev TGs := List V → St → Hp → (St → Hp → Prop) → Prop
def PG (X : Cx) (target : Expr) (t : TG) : Prop :=
  ∀ (pins : List (Addr × Obj)) (s : Shared) (σ : St) (H : Hp) (v : V) (u : Value) (Q : St → Hp → Prop), Inv X pins σ H s → RelV v u → t v σ H Q →
    wpAny (model X.prog X.w) X.A (assign target X.env u) (fun _ s' => ∃ σ' H', Inv X pins σ' H' s' ∧ Q σ' H') X.xe s
def PGs (X : Cx) (ts : List Expr) (t : TGs) : Prop :=
  ∀ (pins : List (Addr × Obj)) (s : Shared) (σ : St) (H : Hp) (vs : List V) (us : List Value) (Q : St → Hp → Prop), Inv X pins σ H s → Vals vs us → t vs σ H Q →
    wpAny (model X.prog X.w) X.A (assignInOrder ((assignEach ts X.env).map (·.2)) us) (fun _ s' => ∃ σ' H', Inv X pins σ' H' s' ∧ Q σ' H') X.xe s
abbrev TSet := V → V → V → Hp → (Hp → Prop) → Prop
def PSet (X : Cx) (t : TSet) : Prop :=
  ∀ (pins : List (Addr × Obj)) (s : Shared) (σ : St) (H : Hp) (o i v : V) (ov iv u : Value) (Q : Hp → Prop), Inv X pins σ H s → RelV o ov → RelV i iv → RelV v u → t o i v H Q →
    wpAny (model X.prog X.w) X.A (setItem ov iv u) (fun _ s' => ∃ H', Inv X pins σ H' s' ∧ Q H') X.xe s
abbrev TIp := V → V → Hp → VK → Prop
def PIp (X : Cx) (op : Operator) (t : TIp) : Prop :=
  ∀ (pins : List (Addr × Obj)) (s : Shared) (σ : St) (H : Hp) (x y : V) (v u : Value) (Q : VK), Inv X pins σ H s → RelV x v → RelV y u → t x y H Q →
    wpAny (model X.prog X.w) X.A (inplaceOp op v u) (EP X pins σ Q) X.xe s
section
variable {X : Cx} {pos : Pos}
def gName (i : Nat) : TG := fun v σ H Q => Q (σ.set i (some v)) H
theorem pg_name {i : Nat} {x : Str} (hN : X.N.Nodup) (hi : X.N[i]? = some x) (hx : Loc X.env.scope x) (hf : X.fn x = true ∨ X.env.scope.names.lookup x = some .local := by first | exact .inl rfl | exact .inr rfl | assumption) : PG X (.Name x pos) (gName i) := by
  intro pins s σ H v u Q I r h
  exact wpAny_assign_Name (store_ok I hN hi hx r (fun s' I' => ⟨_, H, I', h⟩) hf)
def gNil : TGs := fun vs σ H Q => vs = [] ∧ Q σ H
def gCons (t : TG) (u : TGs) : TGs := fun vs σ H Q => ∃ v r, vs = v :: r ∧ t v σ H fun σ' H' => u r σ' H' Q
theorem pgs_nil : PGs X [] gNil := by
  intro pins s σ H vs us Q I r h
  obtain ⟨e, h⟩ := h
  subst e
  cases r
  exact assignInOrder_nil ⟨σ, H, I, h⟩
theorem pgs_cons {e : Expr} {es : List Expr} {t : TG} {u : TGs} (h1 : PG X e t) (h2 : PGs X es u)
    (hs : (assignEach (e :: es) X.env).map (·.2) = assign e X.env :: (assignEach es X.env).map (·.2) := by rfl) : PGs X (e :: es) (gCons t u) := by
  intro pins s σ H vs us Q I r h
  obtain ⟨v, vr, e1, h⟩ := h
  subst e1
  cases r with
  | cons r rr =>
    rw [hs]
    refine assignInOrder_cons (thn (h1 pins s σ H _ _ _ I r h) ?_)
    rintro _ s1 ⟨σ1, H1, I1, q1⟩
    exact h2 pins s1 σ1 H1 _ _ Q I1 rr q1
def gTup (K : PySem.W.Frag) (n : Nat) (t : TGs) : TG := fun v σ H Q => ∃ a xs, v = .ref a ∧ SqT K H a xs ∧ xs.length = n ∧ t xs σ H Q
theorem pg_tup {es : List Expr} {k : Nat} {t : TGs} {n : Nat} (hc : X.calm = true) (h : PGs X es t)
    (hn : (assignEach es X.env).length = n := by rfl) (hst : (assignEach es X.env).findIdx? (·.1) = none := by rfl) : PG X (.Tuple es k pos) (gTup X.K n t) := by
  intro pins s σ H v u Q I r hw
  obtain ⟨a, xs, e1, hq, hl, hw⟩ := hw
  subst e1
  cases r
  obtain ⟨its, rv, ht, hz⟩ := I.tuple hq
  refine assign_Tuple_tuple (I.ok.hd hc) ht (by simp [hn, ← hl, rv.length]) hst fun h' hx => ?_
  have I1 : Inv X pins σ H { s with heap := h' } := I.kept (t' := s.toks) fun b o e => hx b o (Nat.ne_of_lt (Heap.lt_size e)) e
  exact h pins _ σ H xs _ Q I1 (by simpa using rv) hw
def gSub (to ti : TE) (t : TSet) : TG := fun v σ H Q => to σ H fun o H1 => ti σ H1 fun i H2 => t o i v H2 fun H3 => Q σ H3
theorem pg_sub {o i : Expr} {to ti : TE} {t : TSet} (ho : PE X o to) (hi : PE X i ti) (hs : PSet X t)
    (ha : ∀ v, assign (.Subscript o i pos) X.env v = (do
      let ov ← holding [v] (eval o X.env)
      let iv ← holding [v, ov] (eval i X.env)
      standAt pos
      holding [v, ov, iv] (setItem ov iv v)
      release [v, ov, iv] []) := by intro _; rfl) : PG X (.Subscript o i pos) (gSub to ti t) := by
  intro pins s σ H v u Q I r h
  rw [ha]
  refine wpAny_bind (wpAny_holding (thn (ho pins s σ H _ I h) ?_))
  rintro ov s1 ⟨x, H1, I1, r1, q1⟩
  refine wpAny_bind (wpAny_holding (thn (hi pins s1 σ H1 _ I1 q1) ?_))
  rintro iv s2 ⟨y, H2, I2, r2, q2⟩
  refine wpAny_bind (wpAny_standAt (wpAny_bind (wpAny_holding (thn (hs pins s2 σ H2 x y v ov iv u _ I2 r1 r2 r q2) ?_))))
  rintro _ s3 ⟨H3, I3, q3⟩
  exact wpAny_release ⟨σ, H3, I3, q3⟩
def tAsg (te : TE) (g : TG) : TS := fun D σ H => te σ H fun x H1 => g x σ H1 D.nx
theorem ps_asg {tg e : Expr} {te : TE} {g : TG} (he : PE X e te) (hg : PG X tg g) (hs : swapsWithSole [tg] e pos.line X.env = pure false := by rfl) (hw : swappedStores [tg] e X.env = pure none := by rfl)
    (h1 : (assignEach [tg] X.env).map (·.2) = [assign tg X.env] := by rfl) : PS X (.Assign [tg] e pos) (tAsg te g) := by
  intro pins s σ H D I h
  refine wpAny_Assign_stores (thn (he pins s σ H _ I h) fun v s1 ⟨x, H1, I1, r1, q1⟩ => ?_) hs hw
  rw [h1]
  exact thn (hg pins s1 σ H1 x v _ I1 r1 q1) fun _ s2 q => q
theorem ps_set {i : Nat} {x : Str} {e : Expr} {te : TE} {pos' : Pos} (hN : X.N.Nodup) (hi : X.N[i]? = some x) (hx : Loc X.env.scope x) (he : PE X e te) (hs : swapsWith e (some (.Name x pos')) pos.line X.env = pure false := by rfl) (hf : X.fn x = true ∨ X.env.scope.names.lookup x = some .local := by first | exact .inl rfl | exact .inr rfl | assumption) :
    PS X (.Assign [.Name x pos'] e pos) (tAsg te (gName i)) := by
  intro pins s σ H D I h
  refine wpAny_Assign_Name (thn (he pins s σ H _ I h) fun v s1 ⟨y, H1, I1, r1, q1⟩ => ?_) hs
  exact store_ok I1 hN hi hx r1 (fun s2 I2 => ⟨_, H1, I2, q1⟩) hf
def tAug (i : Nat) (te : TE) (ti : TIp) : TS := fun D σ H => ∃ x, σ[i]? = some (some x) ∧ te σ H fun y H1 => ti x y H1 fun z H2 => D.nx (σ.set i (some z)) H2
theorem ps_aug {i : Nat} {x : Str} {e : Expr} {te : TE} {op : Operator} {ti : TIp} {pos' : Pos} (hN : X.N.Nodup) (hi : X.N[i]? = some x) (hx : Loc X.env.scope x) (he : PE X e te) (ho : PIp X op ti) (hf : X.fn x = true ∨ X.env.scope.names.lookup x = some .local := by first | exact .inl rfl | exact .inr rfl | assumption) :
    PS X (.AugAssign (.Name x pos') op e pos) (tAug i te ti) := by
  intro pins s σ H D I h
  obtain ⟨v, e1, h⟩ := h
  obtain ⟨m, hn, hl⟩ := I.loc
  have vis : Vis X.env.scope x := by rcases hx with k | k; exact .inl k; exact .inr (.inl k)
  obtain ⟨u, r, l⟩ := hl i x v hi e1 vis
  refine wpAny_AugAssign_Name ?_
  have go : wpAny (model X.prog X.w) X.A (eval e X.env) (fun w s₂ => wpAny (model X.prog X.w) X.A (inplaceOp op u w) (fun r s₃ => wpAny (model X.prog X.w) X.A (storeName X.env x r) (fun _ => SP X pins D .next) X.xe s₃) X.xe s₂) X.xe s := by
    refine thn (he pins s σ H _ I h) ?_
    rintro w s1 ⟨y, H1, I1, r1, q1⟩
    refine thn (ho pins s1 σ H1 v y u w _ I1 r r1 q1) ?_
    rintro z s2 ⟨zv, H2, I2, r2, q2⟩
    exact store_ok I2 hN hi hx r2 (fun s3 I3 => ⟨_, H2, I3, q2⟩) hf
  rcases l with ⟨hk, hm⟩ | ⟨hk, c, hc, hcell⟩
  · exact wpAny_loadName_local I.ok.kind hk hn hm go
  · rcases hk with hk | hk
    · exact wpAny_loadName_cell I.ok.kind hk hc hcell go
    · rcases hx with k | k
      · have : X.env.scope.names.lookup x = some .free := hk
        rw [k] at this; cases this
      · have : X.env.scope.names.lookup x = some .free := hk
        rw [k] at this; cases this
def ipI (f : Int → Int → Int) : TIp := fun x y H Q => ∃ i j, x = .int i ∧ y = .int j ∧ Q (.int (f i j)) H
theorem ip_add : PIp X .Add (ipI fun i j => i + j) := by
  intro pins s σ H x y v u Q I r1 r2 h
  obtain ⟨i, j, e1, e2, q⟩ := h
  subst e1; subst e2
  obtain ⟨t, rfl⟩ := r1
  obtain ⟨t', rfl⟩ := r2
  exact iadd_int ⟨.int _, H, I.tok _, ⟨_, rfl⟩, q⟩
end
section
variable {X : Cx} {pos : Pos}
def tWhile (c : TT) (tb : TS) : TS := fun D σ H => ∃ W : Nat → St → Hp → Prop, (∃ m, W m σ H) ∧ ∀ m σ H, W m σ H →
  c σ H fun b H1 => if b = true then ∃ N : St → Hp → Prop, (∀ σ' H', N σ' H' → ∃ m', m' < m ∧ W m' σ' H') ∧ tb { D with nx := N, ct := N, bk := D.nx } σ H1 else D.nx σ H1
theorem ps_while {c : Expr} {body : List Stmt} {tc : TT} {tb : TS} (hp : PassesOwn (model X.prog X.w) X.A X.env X.xe) (hc : PT X c tc) (hb : PSs X body tb) : PS X (.While c body [] pos) (tWhile tc tb) := by
  intro pins s σ H D I h
  obtain ⟨W, ⟨m0, w0⟩, turn⟩ := h
  refine wpAny_While (codeAny_whileLoop (fun n s' => ∃ σ' H', Inv X pins σ' H' s' ∧ W n σ' H') ?_ m0 ⟨σ, H, I, w0⟩)
  rintro n s1 ⟨σ1, H1, I1, w1⟩
  refine wpAny_passesOwn hp (thn (hc pins s1 σ1 H1 _ I1 (turn n σ1 H1 w1)) ?_)
  rintro b s2 ⟨H2, I2, q2⟩
  cases b with
  | true =>
    obtain ⟨N, hN, q2⟩ := q2
    rw [if_pos rfl]
    refine wpAny_passesOwn hp (thn (hb pins s2 σ1 H2 _ I2 q2) fun f s3 q3 => ?_)
    cases f with
    | next =>
      obtain ⟨σ3, H3, I3, n3⟩ := q3
      obtain ⟨m', hm, w3⟩ := hN σ3 H3 n3
      exact ⟨m', hm, σ3, H3, I3, w3⟩
    | cont =>
      obtain ⟨σ3, H3, I3, n3⟩ := q3
      obtain ⟨m', hm, w3⟩ := hN σ3 H3 n3
      exact ⟨m', hm, σ3, H3, I3, w3⟩
    | brk => exact q3
    | ret v => exact q3
  | false =>
    rw [if_neg Bool.false_ne_true]
    exact wpAny_execs_nil ⟨σ1, H2, I2, q2⟩
end
structure It where
  go : Nat → Hp → Prop
  yld : Nat → Hp → V → Hp → Prop
  stop : Nat → Hp → Prop
def FpOk (X : Cx) (pins : List (Addr × Obj)) (H : Hp) (b : Addr) : Prop :=
  H b = none ∧ b ≠ X.env.locals ∧ b ∉ X.fs ∧ (b ∈ X.ex ∨ X.s₀.heap.objs.size ≤ b) ∧ (∀ x c, X.env.cells.lookup x = some c → c ≠ b) ∧ ∀ p ∈ X.pn ++ pins, p.1 ≠ b
theorem Inv.fpOk {X : Cx} {pins : List (Addr × Obj)} {σ : St} {H H' : Hp} {s : Shared} {b : Addr} (I : Inv X pins σ H s) (hb : s.heap.objs.size ≤ b) (hn : H' b = none) : FpOk X pins H' b := by
  refine ⟨hn, Nat.ne_of_gt (Nat.lt_of_lt_of_le I.lt hb), I.nofs hb, .inr (Nat.le_trans I.sz hb), fun x c e z => ?_, fun p hp z => ?_⟩
  · obtain ⟨v, q⟩ := I.cell x c e
    exact absurd (Nat.lt_of_lt_of_le q.lt (by rw [z]; exact hb)) (Nat.lt_irrefl _)
  · exact absurd (Nat.lt_of_lt_of_le (Heap.lt_size (I.pin p hp).1) (by rw [z]; exact hb)) (Nat.lt_irrefl _)
structure Turn (P : Program) (w : World) (K : PySem.W.Frag) (tg : Expr) (J : It) (fp : List Addr) (it : Addr) (tn : Nat → Heap → Prop) : Prop where
  mem : it ∈ fp
  obj : ∀ i h, tn i h → ∀ b ∈ fp, ∃ o, h.get? b = some o ∧ ∀ v, o.data ≠ .cell v
  keep : ∀ i h h', tn i h → (∀ b ∈ fp, ∀ o, h.get? b = some o → h'.get? b = some o) → tn i h'
  item : ∀ (X : Cx), X.prog = P → X.w = w → X.K = K → X.calm = true → ∀ (i : Nat) (pins : List (Addr × Obj)) (s : Shared) (σ : St) (H : Hp) (E : Value → Shared → Prop), Inv X pins σ H s → (∀ b ∈ fp, FpOk X pins H b) → tn i s.heap → J.go i H →
    wpAny (model P w) X.A (pyNext (.ref it)) (fun r s1 => ∃ u, r = some u ∧
      wpAny (model P w) X.A (letOwnedTupleGo tg (.ref it) u) (fun _ s2 => ∃ x H', Inv X pins σ H' s2 ∧ RelV x u ∧ J.yld i H x H' ∧ tn (i + 1) s2.heap ∧ ∀ b ∈ fp, H' b = none) E s1) E s
  done : ∀ (X : Cx), X.prog = P → X.w = w → X.K = K → X.calm = true → ∀ (i : Nat) (pins : List (Addr × Obj)) (s : Shared) (σ : St) (H : Hp) (E : Value → Shared → Prop), Inv X pins σ H s → (∀ b ∈ fp, FpOk X pins H b) → tn i s.heap → J.stop i H →
    wpAny (model P w) X.A (pyNext (.ref it)) (fun r s1 => r = none ∧ Inv X pins σ H s1) E s
  self : ∀ (A : Around) (i : Nat) (s : Shared) (Q : Value → Shared → Prop) (E : Value → Shared → Prop), tn i s.heap → Q (.ref it) s → wpAny (model P w) A (pyIter (.ref it)) Q E s
abbrev TI := St → Hp → (It → Hp → Prop) → Prop
def PIE (X : Cx) (pins : List (Addr × Obj)) (σ : St) (tg : Expr) (R : It → Hp → Prop) (itv : Value) (s2 : Shared) : Prop :=
  ∃ (it : Addr) (fp : List Addr) (tn : Nat → Heap → Prop) (J : It) (H' : Hp), itv = .ref it ∧ Inv X pins σ H' s2 ∧ Turn X.prog X.w X.K tg J fp it tn ∧ tn 0 s2.heap ∧ (∀ b ∈ fp, FpOk X pins H' b) ∧ R J H'
def PI (X : Cx) (tg iter : Expr) (wi : TI) : Prop :=
  ∀ (pins : List (Addr × Obj)) (s : Shared) (σ : St) (H : Hp) (R : It → Hp → Prop), Inv X pins σ H s → wi σ H R →
    wpAny (model X.prog X.w) X.A (eval iter X.env) (fun v s1 => wpAny (model X.prog X.w) X.A (pyIter v) (PIE X pins σ tg R) X.xe s1) X.xe s
theorem go_of {M : Model} {A : Around} {E : Value → Shared → Prop} {s : Shared} {tg : Expr} {it : Addr} {u : Value} {o : Obj} {n : String} {vs : Array Value} {Q : Unit → Shared → Prop} (ho : s.heap.get? it = some o) (hc : o.cls = .type n) (hd : o.data = .fields vs)
    (hn : ["enumerate", "zip", "dict_itemiterator", "dict_reverseitemiterator", "odict_iterator", "itertools.zip_longest", "itertools.pairwise"].contains n = false) (hQ : Q () s) : wpAny M A (letOwnedTupleGo tg (.ref it) u) Q E s := by
  unfold letOwnedTupleGo
  cases tg <;> first
    | exact wpAny_pure hQ
    | (cases u <;> first
        | exact wpAny_pure hQ
        | (refine wpAny_bind (wpAny_load ho ?_)
           rw [hc, hd]
           show wpAny M A (if (["enumerate", "zip", "dict_itemiterator", "dict_reverseitemiterator", "odict_iterator", "itertools.zip_longest", "itertools.pairwise"].contains n && vs[0]? == some (rawInt _)) = true then _ else _) Q E s
           rw [if_neg (by intro h; rw [hn, Bool.false_and] at h; cases h)]
           exact wpAny_pure hQ))
def Itl (K : PySem.W.Frag) (a : Addr) : It :=
  ⟨fun i H => ∃ xs x, SqL K H a xs ∧ xs[i]? = some x, fun i H x H' => H' = H ∧ ∀ xs, SqL K H a xs → xs[i]? = some x, fun i H => ∃ xs, SqL K H a xs ∧ xs.length ≤ i⟩
def Itt (K : PySem.W.Frag) (a : Addr) : It :=
  ⟨fun i H => ∃ xs x, SqT K H a xs ∧ xs[i]? = some x, fun i H x H' => H' = H ∧ ∀ xs, SqT K H a xs → xs[i]? = some x, fun i H => ∃ xs, SqT K H a xs ∧ xs.length ≤ i⟩
def Itr (lo : Int) (n : Nat) : It := ⟨fun i _ => i < n, fun i H x H' => H' = H ∧ x = .int (lo + i), fun i _ => n ≤ i⟩
theorem turn_list {P : Program} {w : World} {K : PySem.W.Frag} {tg : Expr} (a it : Addr) : Turn P w K tg (Itl K a) [it] it (fun i h => h.IsListIter it a i) where
  mem := by simp
  obj := fun i h st b hb => by
    have e : b = it := by simpa using hb
    subst e
    obtain ⟨o, e, c, d⟩ := st
    exact ⟨o, e, fun v z => by rw [d] at z; cases z⟩
  keep := fun i h h' st k => st.at fun o e => k it (by simp) o e
  item := by
    intro X hP hw hK hc i pins s σ H E I hf st hg
    subst hP hw hK
    obtain ⟨xs, x, hq, hx⟩ := hg
    obtain ⟨its, rv, p, hz⟩ := I.list hq
    obtain ⟨u, hu, ru⟩ := rv.get hx
    obtain ⟨f0, f1, f2, f3, f4, f5⟩ := hf it (by simp)
    refine wpAny_pyNext_list_item st p.isList (x := u) (by simpa using hu) fun h' st' sb => ?_
    have I1 : Inv X pins σ H { s with heap := h' } := I.turned (t' := s.toks) (fun b o hb e => (sb.2 b hb).trans e) f0 f1 f3 f4 f5
    obtain ⟨o, e, c, d⟩ := id st'
    exact ⟨u, rfl, go_of (s := { s with heap := h' }) e c d (by decide) ⟨x, H, I1, ru, ⟨rfl, fun ys hy => by rw [I.list_inj hy hq]; exact hx⟩, st', fun b hb => (hf b hb).1⟩⟩
  done := by
    intro X hP hw hK hc i pins s σ H E I hf st hg
    subst hP hw hK
    obtain ⟨xs, hq, hx⟩ := hg
    obtain ⟨its, rv, p, hz⟩ := I.list hq
    obtain ⟨f0, f1, f2, f3, f4, f5⟩ := hf it (by simp)
    have hl := rv.length
    exact wpAny_pyNext_list_end (I.ok.hd hc) st p.isList (by simp; omega) fun h' eb => ⟨rfl, I.turned (t' := s.toks) (fun b o hb e => eb b o hb e) f0 f1 f3 f4 f5⟩
  self := fun _ _ _ _ _ st h => wpAny_pyIter_listiter st h
theorem turn_tuple {P : Program} {w : World} {K : PySem.W.Frag} {tg : Expr} (a it : Addr) : Turn P w K tg (Itt K a) [it] it (fun i h => h.IsTupleIter it a i) where
  mem := by simp
  obj := fun i h st b hb => by
    have e : b = it := by simpa using hb
    subst e
    obtain ⟨o, e, c, d⟩ := st
    exact ⟨o, e, fun v z => by rw [d] at z; cases z⟩
  keep := fun i h h' st k => st.at fun o e => k it (by simp) o e
  item := by
    intro X hP hw hK hc i pins s σ H E I hf st hg
    subst hP hw hK
    obtain ⟨xs, x, hq, hx⟩ := hg
    obtain ⟨its, rv, p, hz⟩ := I.tuple hq
    obtain ⟨u, hu, ru⟩ := rv.get hx
    obtain ⟨f0, f1, f2, f3, f4, f5⟩ := hf it (by simp)
    refine wpAny_pyNext_tuple_item st (show s.heap.IsTuple a its.toArray from p) (x := u) (by simpa using hu) fun h' st' sb => ?_
    have I1 : Inv X pins σ H { s with heap := h' } := I.turned (t' := s.toks) (fun b o hb e => (sb.2 b hb).trans e) f0 f1 f3 f4 f5
    obtain ⟨o, e, c, d⟩ := id st'
    exact ⟨u, rfl, go_of (s := { s with heap := h' }) e c d (by decide) ⟨x, H, I1, ru, ⟨rfl, fun ys hy => by rw [I.tuple_inj hy hq]; exact hx⟩, st', fun b hb => (hf b hb).1⟩⟩
  done := by
    intro X hP hw hK hc i pins s σ H E I hf st hg
    subst hP hw hK
    obtain ⟨xs, hq, hx⟩ := hg
    obtain ⟨its, rv, p, hz⟩ := I.tuple hq
    obtain ⟨f0, f1, f2, f3, f4, f5⟩ := hf it (by simp)
    have hl := rv.length
    exact wpAny_pyNext_tuple_end (I.ok.hd hc) st (show s.heap.IsTuple a its.toArray from p) (by simp; omega) fun h' eb => ⟨rfl, I.turned (t' := s.toks) (fun b o hb e => eb b o hb e) f0 f1 f3 f4 f5⟩
  self := fun _ _ _ _ _ st h => wpAny_pyIter_tupleiter st h
theorem turn_range {P : Program} {w : World} {K : PySem.W.Frag} {tg : Expr} (it : Addr) (lo : Int) (n : Nat) : Turn P w K tg (Itr lo n) [it] it (fun i h => IsRangeIter h it (lo + (i : Nat) * 1) ((n : Int) - (i : Nat)) 1) where
  mem := by simp
  obj := fun i h st b hb => by
    have e : b = it := by simpa using hb
    subst e
    exact ⟨_, st, fun v z => by
      have z' : Data.fields _ = Data.cell v := z
      cases z'⟩
  keep := fun i h h' st k => k it (by simp) _ st
  item := by
    intro X hP hw hK hc i pins s σ H E I hf st hg
    subst hP hw hK
    obtain ⟨f0, f1, f2, f3, f4, f5⟩ := hf it (by simp)
    have W := Walks.range (prog := X.prog) (w := X.w) (I.ok.hd hc) it lo 1 n
    refine W.item i s _ _ hg st fun v h' tk hv st' kk => ?_
    obtain ⟨t, rfl⟩ := hv
    have I1 : Inv X pins σ H { s with heap := h', toks := tk } := I.turned (fun b o hb e => kk b o (by simpa using hb) e) f0 f1 f3 f4 f5
    refine ⟨_, rfl, go_of (s := { s with heap := h', toks := tk }) (n := "range_iterator") st' rfl rfl (by decide) ⟨.int (lo + i), H, I1, ⟨t, ?_⟩, ⟨rfl, rfl⟩, st', fun b hb => (hf b hb).1⟩⟩
    rw [Int.mul_one]
  done := by
    intro X hP hw hK hc i pins s σ H E I hf st hg
    subst hP hw hK
    obtain ⟨f0, f1, f2, f3, f4, f5⟩ := hf it (by simp)
    exact wpAny_pyNext_range_end (I.ok.hd hc) st (by have : n ≤ i := hg; omega) fun h' eb => ⟨rfl, I.turned (t' := s.toks) (fun b o hb e => eb b o hb e) f0 f1 f3 f4 f5⟩
  self := fun _ _ _ _ _ st h => wpAny_pyIter_rangeiter st h
end L2
namespace L2
open PySem PySem.Spec PyProof.Rows
section
variable {X : Cx} {tg : Expr}
theorem range_it {pins : List (Addr × Obj)} {σ : St} {H : Hp} {s : Shared} {R : It → Hp → Prop} {E : Value → Shared → Prop} {lo hi : Int} {t u v : Tok} {tk : Nat} (I : Inv X pins σ H s) (h1 : -(2 ^ 62) ≤ lo) (h2 : lo < 2 ^ 62) (h3 : -(2 ^ 62) ≤ hi) (h4 : hi < 2 ^ 62)
    (q : R (Itr lo (hi - lo).toNat) H) : wpAny (model X.prog X.w) X.A (pyIter (.ref s.heap.objs.size)) (PIE X pins σ tg R) E { s with heap := s.heap.push { cls := .type "range", data := .fields #[.int lo t, .int hi u, .int 1 v] }, toks := tk } := by
  refine wpAny_pyIter_range (IsRange.new ..) (small_one h1 h2 h3 h4) ?_
  have I1 : Inv X pins σ H { s with heap := s.heap.push { cls := .type "range", data := .fields #[.int lo t, .int hi u, .int 1 v] }, toks := tk } := I.kept fun b o e => Heap.get?_push_of_some _ e
  refine ⟨(s.heap.push { cls := .type "range", data := .fields #[.int lo t, .int hi u, .int 1 v] }).objs.size, [(s.heap.push { cls := .type "range", data := .fields #[.int lo t, .int hi u, .int 1 v] }).objs.size], _, _, H, rfl,
    I1.kept (t' := tk) fun b o e => Heap.get?_push_of_some _ e, turn_range _ lo (hi - lo).toNat, ?_, fun b hb => ?_, q⟩
  · have e1 : lo + ((0 : Nat) : Int) * 1 = lo := by simp
    have e2 : (((hi - lo).toNat : Nat) : Int) - ((0 : Nat) : Int) = Builtin.Range.rangeSize lo hi 1 := by rw [rangeSize_one]; split <;> omega
    show IsRangeIter _ _ (lo + ((0 : Nat) : Int) * 1) ((((hi - lo).toNat : Nat) : Int) - ((0 : Nat) : Int)) 1
    rw [e1, e2]
    exact Heap.get?_push_size _ rfl
  · have e : b = (s.heap.push { cls := .type "range", data := .fields #[.int lo t, .int hi u, .int 1 v] }).objs.size := by simpa using hb
    subst e
    exact I1.fpOk (Nat.le_refl _) (I1.hok.fresh (Nat.le_refl _))
def iRng1 (ta : TA) : TI := fun σ H R => ta σ H fun vs H1 => ∃ j : Int, vs = [.int j] ∧ -(2 ^ 62) ≤ j ∧ j < 2 ^ 62 ∧ R (Itr 0 j.toNat) H1
theorem pi_range1 {a : Expr} {ta : TA} {p pos : Pos} (hg : Gl X "range") (hm : X.mg "range" = none) (ha : PA X [a] ta) (hs : starEach [a] X.env = [(false, eval a X.env)] := by rfl) : PI X tg (.Call (.Name "range" p) [a] [] pos) (iRng1 ta) := by
  intro pins s σ H R I h
  refine Call_ (ld_blt I hg hm boot_range (PyProof.Rows.callWith_type1 (thn (ha pos pins s σ H _ I h) fun us s1 ⟨vs, H1, I1, r1, q1⟩ => ?_) hs rfl))
  obtain ⟨j, e, q1, q2, q⟩ := q1
  subst e
  cases r1 with
  | cons r rr =>
    cases rr
    obtain ⟨t, rfl⟩ := r
    exact call_range_1 (range_it I1 (by omega) (by omega) q1 q2 (by simpa using q))
def tFor (wi : TI) (g : TG) (tb : TS) : TS := fun D σ H => wi σ H fun J H1 => ∃ W : Nat → Nat → St → Hp → Prop, (∃ m, W 0 m σ H1) ∧ ∀ i m σ H, W i m σ H →
  (J.stop i H ∧ D.nx σ H) ∨ (J.go i H ∧ ∃ N : St → Hp → Prop, (∀ σ' H', N σ' H' → ∃ m', m' < m ∧ W (i + 1) m' σ' H') ∧ ∀ x H', J.yld i H x H' → g x σ H' fun σ2 H2 => tb { D with nx := N, ct := N, bk := D.nx } σ2 H2)
def pinsAt (fp : List Addr) (h : Heap) : List (Addr × Obj) := fp.filterMap fun b => (h.get? b).map fun o => (b, o)
theorem mem_pinsAt {fp : List Addr} {h : Heap} {b : Addr} {o : Obj} (hb : b ∈ fp) (e : h.get? b = some o) : (b, o) ∈ pinsAt fp h := List.mem_filterMap.mpr ⟨b, hb, by rw [e]; rfl⟩
theorem of_pinsAt {fp : List Addr} {h : Heap} {p : Addr × Obj} (hp : p ∈ pinsAt fp h) : p.1 ∈ fp ∧ h.get? p.1 = some p.2 := by
  obtain ⟨b, hb, e⟩ := List.mem_filterMap.mp hp
  cases q : h.get? b with
  | none => rw [q] at e; cases e
  | some o =>
    rw [q] at e
    have e' : (b, o) = p := Option.some.inj e
    subst e'
    exact ⟨hb, q⟩
theorem Inv.pinned {pins : List (Addr × Obj)} {σ : St} {H : Hp} {s : Shared} {fp : List Addr} (I : Inv X pins σ H s) (hf : ∀ b ∈ fp, FpOk X pins H b) (ho : ∀ b ∈ fp, ∃ o, s.heap.get? b = some o ∧ ∀ v, o.data ≠ .cell v) : Inv X (pins ++ pinsAt fp s.heap) σ H s :=
  I.pins_of fun p hp => (List.mem_append.mp hp).elim (fun z => I.pin p (List.mem_append_right _ z)) fun z => by
    obtain ⟨hb, e⟩ := of_pinsAt z
    obtain ⟨f0, f1, f2, _⟩ := hf p.1 hb
    obtain ⟨o, e', d⟩ := ho p.1 hb
    rw [e] at e'; cases e'
    exact ⟨e, f0, f1, f2, d⟩
theorem Inv.unpinned {pins pl : List (Addr × Obj)} {σ : St} {H : Hp} {s : Shared} (I : Inv X (pins ++ pl) σ H s) : Inv X pins σ H s := I.pins_of fun p hp => I.pin p (List.mem_append_right _ (List.mem_append_left _ hp))
theorem ps_for {iter : Expr} {body : List Stmt} {wi : TI} {g : TG} {tb : TS} {pos : Pos} (hp : PassesOwn (model X.prog X.w) X.A X.env X.xe) (hc : X.calm = true) (hi : PI X tg iter wi) (hg : PG X tg g) (hb : PSs X body tb)
    (hs : ∀ x, foldedSetIterable iter X.env x = pure x := by intro _; rfl) : PS X (.For tg iter body [] pos) (tFor wi g tb) := by
  intro pins s σ H D I h
  refine wpAny_For (thn (hi pins s σ H _ I h) fun v s1 h1 => thn h1 fun itv s2 h2 => ?_) hs
  obtain ⟨it, fp, tn, J, H2, e, I2, T, st2, f2, W, ⟨m0, w0⟩, turn⟩ := h2
  subst e
  -- what stays true of the iterator's objects through the loop
  have stat : ∀ {H' : Hp}, (∀ b ∈ fp, H' b = none) → ∀ b ∈ fp, FpOk X pins H' b := fun hn b hb => ⟨hn b hb, (f2 b hb).2⟩
  refine codeAny_forLoop_any (fun n s' => ∃ i σ' H', Inv X pins σ' H' s' ∧ tn i s'.heap ∧ (∀ b ∈ fp, H' b = none) ∧ W i n σ' H') ?_ m0 ⟨0, σ, H2, I2, st2, fun b hb => (f2 b hb).1, w0⟩
  rintro n s3 ⟨i, σ3, H3, I3, st3, fr3, w3⟩
  rcases turn i n σ3 H3 w3 with ⟨stop, qn⟩ | ⟨go, N, hN, step⟩
  · refine wpAny_passesOwn hp (thn (T.done X rfl rfl rfl hc i pins s3 σ3 H3 X.xe I3 (stat fr3) st3 stop) ?_)
    rintro r s4 ⟨hr, I4⟩
    subst hr
    exact wpAny_execs_nil ⟨σ3, H3, I4, qn⟩
  · refine wpAny_passesOwn hp (thn (T.item X rfl rfl rfl hc i pins s3 σ3 H3 X.xe I3 (stat fr3) st3 go) ?_)
    rintro r s4 ⟨u, hr, h4⟩
    subst hr
    refine wpAny_passesOwn hp (thn h4 ?_)
    rintro _ s5 ⟨x, H5, I5, r5, y5, st5, fr5⟩
    have I5' := I5.pinned (stat fr5) (T.obj _ _ st5)
    refine wpAny_passesOwn hp (thn (hg _ s5 σ3 H5 x u _ I5' r5 (step x H5 y5)) ?_)
    rintro _ s6 ⟨σ6, H6, I6, q6⟩
    refine wpAny_passesOwn hp (thn (hb _ s6 σ6 H6 _ I6 q6) fun f s7 q7 => ?_)
    have again : ∀ {σ7 : St} {H7 : Hp}, Inv X (pins ++ pinsAt fp s5.heap) σ7 H7 s7 → N σ7 H7 → ∃ m, m < n ∧ ∃ i σ' H', Inv X pins σ' H' s7 ∧ tn i s7.heap ∧ (∀ b ∈ fp, H' b = none) ∧ W i m σ' H' := fun {σ7 H7} I7 n7 => by
      obtain ⟨m', hm, w7⟩ := hN σ7 H7 n7
      refine ⟨m', hm, i + 1, σ7, H7, I7.unpinned, T.keep _ _ _ st5 fun b hb o e => (I7.pin (b, o) (List.mem_append_right _ (List.mem_append_right _ (mem_pinsAt hb e)))).1, fun b hb => ?_, w7⟩
      obtain ⟨o, e, d⟩ := T.obj _ _ st5 b hb
      exact (I7.pin (b, o) (List.mem_append_right _ (List.mem_append_right _ (mem_pinsAt hb e)))).2.1
    cases f with
    | next => obtain ⟨σ7, H7, I7, n7⟩ := q7; exact again I7 n7
    | cont => obtain ⟨σ7, H7, I7, n7⟩ := q7; exact again I7 n7
    | brk => obtain ⟨σ7, H7, I7, q7⟩ := q7; exact ⟨σ7, H7, I7.unpinned, q7⟩
    | ret v => obtain ⟨x7, σ7, H7, I7, r7, q7⟩ := q7; exact ⟨x7, σ7, H7, I7.unpinned, r7, q7⟩
end
end L2
namespace L2
open PySem PySem.Spec PyProof.Rows
abbrev R2 := V → V → Hp → VK → Prop
def OpR (X : Cx) (f : Value → Value → Sem Value) (r : R2) : Prop :=
  ∀ (pins : List (Addr × Obj)) (s : Shared) (σ : St) (H : Hp) (x y : V) (v u : Value) (Q : VK), Inv X pins σ H s → RelV x v → RelV y u → r x y H Q →
    wpAny (model X.prog X.w) X.A (f v u) (EP X pins σ Q) X.xe s
def CallR (X : Cx) (f : Value) (r : List V → Hp → VK → Prop) : Prop :=
  ∀ (pins : List (Addr × Obj)) (s : Shared) (σ : St) (H : Hp) (xs : List V) (us : List Value) (Q : VK), Inv X pins σ H s → Vals xs us → r xs H Q →
    wpAny (model X.prog X.w) X.A (call f us) (EP X pins σ Q) X.xe s
def tOp (r : R2) (ta tb : TE) : TE := fun σ H Q => ta σ H fun x H1 => tb σ H1 fun y H2 => r x y H2 Q
def rI (C : Int → Int → Prop) (g : Int → Int → V) : R2 := fun x y H Q => ∃ i j, x = .int i ∧ y = .int j ∧ C i j ∧ Q (g i j) H
def rI0 (g : Int → Int → V) : R2 := fun x y H Q => ∃ i j, x = .int i ∧ y = .int j ∧ Q (g i j) H
section
variable {X : Cx} {a b c : Expr} {ta tb tc : TE} {pos : Pos}
theorem binT (ha : PE X a ta) (hb : PE X b tb) {pins : List (Addr × Obj)} {s : Shared} {σ : St} {H : Hp} {R : V → V → Hp → Prop} (I : Inv X pins σ H s)
    (h : ta σ H fun x H1 => tb σ H1 fun y H2 => R x y H2) {Q : Value → Shared → Prop} {f : Value → Value → Sem Value}
    (hf : ∀ v u s2 x y H2, Inv X pins σ H2 s2 → RelV x v → RelV y u → R x y H2 → wpAny (model X.prog X.w) X.A (f v u) Q X.xe s2) :
    wpAny (model X.prog X.w) X.A (eval a X.env) (fun v s₁ => wpAny (model X.prog X.w) X.A (eval b X.env) (fun u s₂ => wpAny (model X.prog X.w) X.A (f v u) Q X.xe s₂) X.xe s₁) X.xe s := by
  refine thn (ha pins s σ H _ I h) ?_
  rintro v s1 ⟨x, H1, I1, r1, q1⟩
  refine thn (hb pins s1 σ H1 _ I1 q1) ?_
  rintro u s2 ⟨y, H2, I2, r2, q2⟩
  exact hf v u s2 x y H2 I2 r1 r2 q2
theorem pe_op {op : Operator} {r : R2} (ho : OpR X (binaryOp op) r) (ha : PE X a ta) (hb : PE X b tb) : PE X (.BinOp a op b pos) (tOp r ta tb) := by
  intro pins s σ H Q I h
  exact wpAny_BinOp (binT ha hb I h fun v u s2 x y H2 I2 rx ry q => ho pins s2 σ H2 x y v u Q I2 rx ry q)
theorem opI {f : Value → Value → Sem Value} {C : Int → Int → Prop} {g : Int → Int → Int}
    (rule : ∀ (i j : Int) (t u : Tok) (s : Shared) (Q : Value → Shared → Prop) (E : Value → Shared → Prop), C i j → Q (.int (g i j) s.toks) { s with toks := s.toks + 1 } → wpAny (model X.prog X.w) X.A (f (.int i t) (.int j u)) Q E s) :
    OpR X f (rI C fun i j => .int (g i j)) := by
  intro pins s σ H x y v u Q I rx ry h
  obtain ⟨i, j, rfl, rfl, hc, q⟩ := h
  obtain ⟨t, rfl⟩ := rx
  obtain ⟨t', rfl⟩ := ry
  exact rule i j t t' s _ _ hc ⟨.int (g i j), H, I.tok _, ⟨_, rfl⟩, q⟩
theorem opI0 {f : Value → Value → Sem Value} {g : Int → Int → Int}
    (rule : ∀ (i j : Int) (t u : Tok) (s : Shared) (Q : Value → Shared → Prop) (E : Value → Shared → Prop), Q (.int (g i j) s.toks) { s with toks := s.toks + 1 } → wpAny (model X.prog X.w) X.A (f (.int i t) (.int j u)) Q E s) :
    OpR X f (rI0 fun i j => .int (g i j)) := by
  intro pins s σ H x y v u Q I rx ry h
  obtain ⟨i, j, rfl, rfl, q⟩ := h
  obtain ⟨t, rfl⟩ := rx
  obtain ⟨t', rfl⟩ := ry
  exact rule i j t t' s _ _ ⟨.int (g i j), H, I.tok _, ⟨_, rfl⟩, q⟩
theorem opB0 {f : Value → Value → Sem Value} {g : Int → Int → Bool}
    (rule : ∀ (i j : Int) (t u : Tok) (s : Shared) (Q : Value → Shared → Prop) (E : Value → Shared → Prop), Q (.bool (g i j)) s → wpAny (model X.prog X.w) X.A (f (.int i t) (.int j u)) Q E s) :
    OpR X f (rI0 fun i j => .bl (g i j)) := by
  intro pins s σ H x y v u Q I rx ry h
  obtain ⟨i, j, rfl, rfl, q⟩ := h
  obtain ⟨t, rfl⟩ := rx
  obtain ⟨t', rfl⟩ := ry
  exact rule i j t t' s _ _ ⟨.bl (g i j), H, I, rfl, q⟩
def CDiv (i j : Int) : Prop := 0 < j ∧ j < 1073741824
def CPow (i j : Int) : Prop := 0 ≤ j ∧ j ≤ 1000000 ∧ i.natAbs < 2 ^ 64
def CMul (i j : Int) : Prop := (-(2 ^ 64) < i ∧ i < 2 ^ 64) ∨ (-(2 ^ 64) < j ∧ j < 2 ^ 64)
theorem CMul.ok {i j : Int} (h : CMul i j) : IntMulOk i j := by
  rcases h with ⟨h1, h2⟩ | ⟨h1, h2⟩
  · exact .of_left (intBits_le_64 h1 h2)
  · exact .of_right (intBits_le_64 h1 h2)
theorem op_add : OpR X (binaryOp .Add) (rI0 fun i j => .int (i + j)) := opI0 fun _ _ _ _ _ _ _ q => add_int q
theorem op_mul : OpR X (binaryOp .Mult) (rI CMul fun i j => .int (i * j)) := opI fun _ _ _ _ _ _ _ hc q => mul_int q hc.ok
theorem op_fdiv : OpR X (binaryOp .FloorDiv) (rI CDiv fun i j => .int (i / j)) := opI fun i j _ _ _ _ _ hc q => by
  have h1 : (0 : Int) < j := hc.1
  have h2 : j < 1073741824 := hc.2
  exact floordiv_int (by omega) (by rw [Int.fdiv_eq_ediv_of_nonneg i (by omega)]; exact q) (.inl (PyProof.noPylong_small (by omega)))
theorem op_mod : OpR X (binaryOp .Mod) (rI (fun _ j => 0 < j) fun i j => .int (i % j)) := opI fun i j _ _ _ _ _ hc q => by
  have h1 : (0 : Int) < j := hc
  exact mod_int' (by omega) (by rw [Int.fmod_eq_emod_of_nonneg i (by omega)]; exact q)
theorem op_pow : OpR X (binaryOp .Pow) (rI CPow fun i j => .int (i ^ j.toNat)) := opI fun _ _ _ _ _ _ _ hc q => pow_int_small hc.1 hc.2.1 hc.2.2 q
end
def scal : V → V → Bool
  | .non, .non => true | .non, .int _ => true | .int _, .non => true | .non, .bl _ => true | .bl _, .non => true | .non, .str _ => true | .str _, .non => true
  | .int _, .int _ => true | .bl _, .bl _ => true | .str _, .str _ => true | .byt _, .byt _ => true
  | .int _, .str _ => true | .str _, .int _ => true | .bl _, .str _ => true | .str _, .bl _ => true
  | _, _ => false
def rEq : R2 := fun x y H Q => scal x y = true ∧ Q (.bl (decide (x = y))) H
def rNe : R2 := fun x y H Q => scal x y = true ∧ Q (.bl (!decide (x = y))) H
theorem dec_int {i j : Int} : decide (V.int i = V.int j) = (i == j) := by
  rw [Bool.eq_iff_iff]
  simp
theorem dec_bl {i j : Bool} : decide (V.bl i = V.bl j) = (i == j) := by
  rw [Bool.eq_iff_iff]
  simp
theorem dec_str {i j : Str} : decide (V.str i = V.str j) = (i == j) := by
  rw [Bool.eq_iff_iff]
  simp
theorem dec_byt {i j : Array UInt8} : decide (V.byt i = V.byt j) = (i.toList == j.toList) := by
  rw [Bool.eq_iff_iff]
  cases i
  cases j
  simp
section
variable {X : Cx} {a b c : Expr} {ta tb tc : TE} {pos : Pos}
theorem fin_bl {pins : List (Addr × Obj)} {σ : St} {H : Hp} {s : Shared} {Q : VK} {k k' : Bool} (I : Inv X pins σ H s) (q : Q (.bl k) H) (e : k = k') : EP X pins σ Q (.bool k') s := by
  subst e
  exact ⟨.bl k, H, I, rfl, q⟩
theorem op_eq : OpR X (compareOp .Eq) rEq := by
  intro pins s σ H x y v u Q I rx ry h
  obtain ⟨hs, q⟩ := h
  cases x with
  | non =>
    cases rx
    cases y with
    | non => cases ry; exact PySem.EqNone.eq_none_none (fin_bl I q (by simp))
    | bl j => cases ry; exact PySem.EqNone.eq_none_bool (fin_bl I q (by simp))
    | int j => obtain ⟨t', rfl⟩ := ry; exact PySem.EqNone.eq_none_int (fin_bl I q (by simp))
    | str j => obtain ⟨t', rfl⟩ := ry; exact PySem.EqNone.eq_none_str (fin_bl I q (by simp))
    | _ => exact absurd (show false = true from hs) Bool.false_ne_true
  | bl i =>
    cases rx
    cases y with
    | non => cases ry; exact PySem.EqNone.eq_bool_none (fin_bl I q (by simp))
    | bl j => cases ry; exact eq_bool (fin_bl I q dec_bl)
    | str j => obtain ⟨t', rfl⟩ := ry; exact PySem.EqMixed.eq_bool_str (fin_bl I q (by simp))
    | _ => exact absurd (show false = true from hs) Bool.false_ne_true
  | int i =>
    obtain ⟨t, rfl⟩ := rx
    cases y with
    | non => cases ry; exact PySem.EqNone.eq_int_none (fin_bl I q (by simp))
    | int j => obtain ⟨t', rfl⟩ := ry; exact eq_int (fin_bl I q dec_int)
    | str j => obtain ⟨t', rfl⟩ := ry; exact PySem.EqMixed.eq_int_str (fin_bl I q (by simp))
    | _ => exact absurd (show false = true from hs) Bool.false_ne_true
  | str i =>
    obtain ⟨t, rfl⟩ := rx
    cases y with
    | non => cases ry; exact PySem.EqNone.eq_str_none (fin_bl I q (by simp))
    | bl j => cases ry; exact PySem.EqMixed.eq_str_bool (fin_bl I q (by simp))
    | int j => obtain ⟨t', rfl⟩ := ry; exact PySem.EqMixed.eq_str_int (fin_bl I q (by simp))
    | str j => obtain ⟨t', rfl⟩ := ry; exact eq_str (fin_bl I q dec_str)
    | _ => exact absurd (show false = true from hs) Bool.false_ne_true
  | byt i =>
    obtain ⟨t, rfl⟩ := rx
    cases y with
    | byt j => obtain ⟨t', rfl⟩ := ry; exact PySem.W.eq_bytes (fin_bl I q dec_byt)
    | _ => exact absurd (show false = true from hs) Bool.false_ne_true
  | _ => cases y <;> exact absurd (show false = true from hs) Bool.false_ne_true
theorem op_ne : OpR X (compareOp .NotEq) rNe := by
  intro pins s σ H x y v u Q I rx ry h
  obtain ⟨hs, q⟩ := h
  cases x with
  | non =>
    cases rx
    cases y with
    | non => cases ry; exact PySem.EqNone.ne_none_none (fin_bl I q (by simp))
    | bl j => cases ry; exact PySem.EqNone.ne_none_bool (fin_bl I q (by simp))
    | int j => obtain ⟨t', rfl⟩ := ry; exact PySem.EqNone.ne_none_int (fin_bl I q (by simp))
    | str j => obtain ⟨t', rfl⟩ := ry; exact PySem.EqNone.ne_none_str (fin_bl I q (by simp))
    | _ => exact absurd (show false = true from hs) Bool.false_ne_true
  | bl i =>
    cases rx
    cases y with
    | non => cases ry; exact PySem.EqNone.ne_bool_none (fin_bl I q (by simp))
    | bl j => cases ry; exact ne_bool (fin_bl I q (congrArg not dec_bl))
    | str j => obtain ⟨t', rfl⟩ := ry; exact PySem.EqMixed.ne_bool_str (fin_bl I q (by simp))
    | _ => exact absurd (show false = true from hs) Bool.false_ne_true
  | int i =>
    obtain ⟨t, rfl⟩ := rx
    cases y with
    | non => cases ry; exact PySem.EqNone.ne_int_none (fin_bl I q (by simp))
    | int j => obtain ⟨t', rfl⟩ := ry; exact ne_int (fin_bl I q (congrArg not dec_int))
    | str j => obtain ⟨t', rfl⟩ := ry; exact PySem.EqMixed.ne_int_str (fin_bl I q (by simp))
    | _ => exact absurd (show false = true from hs) Bool.false_ne_true
  | str i =>
    obtain ⟨t, rfl⟩ := rx
    cases y with
    | non => cases ry; exact PySem.EqNone.ne_str_none (fin_bl I q (by simp))
    | bl j => cases ry; exact PySem.EqMixed.ne_str_bool (fin_bl I q (by simp))
    | int j => obtain ⟨t', rfl⟩ := ry; exact PySem.EqMixed.ne_str_int (fin_bl I q (by simp))
    | str j => obtain ⟨t', rfl⟩ := ry; exact ne_str (fin_bl I q (congrArg not dec_str))
    | _ => exact absurd (show false = true from hs) Bool.false_ne_true
  | byt i =>
    obtain ⟨t, rfl⟩ := rx
    cases y with
    | byt j => obtain ⟨t', rfl⟩ := ry; exact PySem.W.ne_bytes (fin_bl I q (congrArg not dec_byt))
    | _ => exact absurd (show false = true from hs) Bool.false_ne_true
  | _ => cases y <;> exact absurd (show false = true from hs) Bool.false_ne_true
theorem op_lt : OpR X (compareOp .Lt) (rI0 fun i j => .bl (decide (i < j))) := opB0 fun _ _ _ _ _ _ _ q => lt_int q
theorem op_gt : OpR X (compareOp .Gt) (rI0 fun i j => .bl (decide (j < i))) := opB0 fun _ _ _ _ _ _ _ q => gt_int q
theorem op_ge : OpR X (compareOp .GtE) (rI0 fun i j => .bl (decide (j ≤ i))) := opB0 fun _ _ _ _ _ _ _ q => ge_int q
theorem op_lt_str : OpR X (compareOp .Lt) (fun x y H Q => ∃ i j, x = .str i ∧ y = .str j ∧ Q (.bl (decide (i.cps.toList < j.cps.toList))) H) := by
  intro pins s σ H x y v u Q I rx ry h
  obtain ⟨i, j, rfl, rfl, q⟩ := h
  obtain ⟨t, rfl⟩ := rx
  obtain ⟨t', rfl⟩ := ry
  exact lt_str (fin_bl I q rfl)
theorem op_in_str : OpR X (compareOp .In) (fun x y H Q => ∃ i j, x = .str i ∧ y = .str j ∧ Q (.bl (!(Builtin.Str.occurrences j i 0 j.length 1).isEmpty)) H) := by
  intro pins s σ H x y v u Q I rx ry h
  obtain ⟨i, j, rfl, rfl, q⟩ := h
  obtain ⟨t, rfl⟩ := rx
  obtain ⟨t', rfl⟩ := ry
  exact in_str (fin_bl I q rfl)
theorem op_isN : OpR X (compareOp .Is) (fun x y H Q => y = .non ∧ Q (.bl (decide (x = .non))) H) := by
  intro pins s σ H x y v u Q I rx ry h
  obtain ⟨rfl, q⟩ := h
  cases ry
  refine is_none_gen (fin_bl I q ?_)
  cases x <;> first
    | (cases rx; rfl)
    | (obtain ⟨t, rfl⟩ := rx; rfl)
theorem OpR.or {f : Value → Value → Sem Value} {r r' : R2} (h : OpR X f r) (h' : OpR X f r') : OpR X f (fun x y H Q => r x y H Q ∨ r' x y H Q) := by
  intro pins s σ H x y v u Q I rx ry q
  rcases q with q | q
  · exact h pins s σ H x y v u Q I rx ry q
  · exact h' pins s σ H x y v u Q I rx ry q
theorem nomark (b : Expr) {op : CmpOp} (h : op ≠ .In := by decide) (h2 : op ≠ .NotIn := by decide) : behindInMarks op b = false := by
  have e1 : (op == CmpOp.In) = false := by cases op <;> first | rfl | exact absurd rfl h
  have e2 : (op == CmpOp.NotIn) = false := by cases op <;> first | rfl | exact absurd rfl h2
  cases b <;> simp [behindInMarks, e1, e2]
theorem pe_cmpR {op : CmpOp} {r : R2} (ho : OpR X (compareOp op) r) (ha : PE X a ta) (hb : PE X b tb) (hm : behindInMarks op b = false) : PE X (.Compare a [op] [b] pos) (tOp r ta tb) := by
  intro pins s σ H Q I h
  exact wpAny_Compare1 (binT ha hb I h fun v u s2 x y H2 I2 rx ry q => ho pins s2 σ H2 x y v u Q I2 rx ry q) hm
def tTest (t : TE) : TT := fun σ H Q => t σ H fun x H' => ∃ k, x = .bl k ∧ Q k H'
theorem pt_cmpR {op : CmpOp} {r : R2} (ho : OpR X (compareOp op) r) (ha : PE X a ta) (hb : PE X b tb) (hm : behindInMarks op b = false) : PT X (.Compare a [op] [b] pos) (tTest (tOp r ta tb)) := by
  intro pins s σ H Q I h
  refine wpAny_isTrue_Compare1 (thn (ha pins s σ H _ I h) fun v s1 ⟨x, H1, I1, r1, q1⟩ => thn (hb pins s1 σ H1 _ I1 q1) fun u s2 ⟨y, H2, I2, r2, q2⟩ =>
    thn (ho pins s2 σ H2 x y v u _ I2 r1 r2 q2) fun c s3 ⟨z, H3, I3, r3, k, e, q3⟩ => ?_) hm
  subst e
  cases r3
  exact wpAny_truthy_bool ⟨H3, I3, q3⟩
theorem line63 : (sizeLine : Nat) < 2 ^ 63 := by rw [sizeLine_eq]; decide
theorem op_add_str : OpR X (binaryOp .Add) (fun x y H Q => ∃ i j, x = .str i ∧ y = .str j ∧ i.length + j.length ≤ sizeLine ∧ Q (.str (i ++ j)) H) := by
  intro pins s σ H x y v u Q I rx ry h
  obtain ⟨i, j, rfl, rfl, hz, q⟩ := h
  obtain ⟨t, rfl⟩ := rx
  obtain ⟨t', rfl⟩ := ry
  exact add_str (fun t' tk => ⟨.str (i ++ j), H, I.tok _, ⟨_, rfl⟩, q⟩) hz
theorem vals1 {x : V} {us : List Value} (r : Vals [x] us) : ∃ u, us = [u] ∧ RelV x u := by
  cases r with
  | cons r1 r2 => cases r2; exact ⟨_, rfl, r1⟩
def LenV (K : PySem.W.Frag) (x : V) (H : Hp) (n : Nat) : Prop :=
  match x with
  | .str y => y.length ≤ sizeLine ∧ n = y.length
  | .byt y => y.size ≤ sizeLine ∧ n = y.size
  | .ref p => (∃ xs, SqL K H p xs ∧ n = xs.length) ∨ ∃ xs, SqT K H p xs ∧ n = xs.length
  | _ => False
theorem call_len : CallR X (.builtin "len") (fun xs H Q => ∃ x n, xs = [x] ∧ LenV X.K x H n ∧ Q (.int n) H) := by
  intro pins s σ H xs us Q I r h
  obtain ⟨x, n, rfl, e, q⟩ := h
  obtain ⟨u, rfl, rx⟩ := vals1 r
  have hl := line63
  have hs : sizeLine = 16777216 := sizeLine_eq
  cases x with
  | str y =>
    obtain ⟨t, rfl⟩ := rx
    obtain ⟨hy, e'⟩ : y.length ≤ sizeLine ∧ n = y.length := e
    subst e'
    exact len_str (by omega) ⟨.int _, H, I.tok _, ⟨_, rfl⟩, q⟩
  | byt y =>
    obtain ⟨t, rfl⟩ := rx
    obtain ⟨hy, e'⟩ : y.size ≤ sizeLine ∧ n = y.size := e
    subst e'
    exact PySem.W.len_bytes (by omega) ⟨.int _, H, I.tok _, ⟨_, rfl⟩, q⟩
  | ref p =>
    cases rx
    have e' : (∃ xs, SqL X.K H p xs ∧ n = xs.length) ∨ ∃ xs, SqT X.K H p xs ∧ n = xs.length := e
    rcases e' with ⟨xs, hx, e'⟩ | ⟨xs, hx, e'⟩
    · subst e'
      obtain ⟨its, r', pl, hz⟩ := I.list hx
      have hlen := r'.length
      exact Calls.call_len_list pl.isList (by simp only [List.size_toArray]; omega) ⟨.int xs.length, H, I.tok _, ⟨_, by simp only [List.size_toArray]; rw [hlen]⟩, q⟩
    · subst e'
      obtain ⟨its, r', pl, hz⟩ := I.tuple hx
      have hlen := r'.length
      exact len_tuple pl (by simp only [List.size_toArray]; omega) ⟨.int xs.length, H, I.tok _, ⟨_, by simp only [List.size_toArray]; rw [hlen]⟩, q⟩
  | _ => exact (show False from e).elim
end
end L2
namespace L2
open PySem PySem.Spec PyProof.Rows
structure ObjM (h : Heap) (x dx C : Addr) (mA : Str → Option Value) : Prop where
  obj : h.get? x = some (PySem.W.instObj C dx)
  ns : h.Ns1 dx mA
  ne : dx ≠ x
theorem lookIn_ns {h : Heap} {dx : Addr} {mA : Str → Option Value} (n : h.Ns1 dx mA) : ∃ od, h.get? dx = some od ∧ ∀ name, PySem.W.lookIn name od = some (mA name) := by
  obtain ⟨o, es, ep, ho, hd, hk, _, hm⟩ := n
  refine ⟨o, ho, fun name => ?_⟩
  have e := hm name
  unfold nsFind findBy at e
  rw [← Array.find?_toList] at e
  unfold PySem.W.lookIn
  rw [hd]
  dsimp only
  split
  · rename_i y q
    rw [q] at e
    exact congrArg some e
  · rename_i q
    rw [q] at e
    have a : es.toList.any (·.refKey) = false := by
      rw [List.any_eq_false]
      intro y hy
      obtain ⟨z, t, hkey⟩ := hk y (Array.mem_toList_iff.mp hy)
      simp [DictEntry.refKey, hkey]
    have a' : ¬ es.toList.any (·.refKey) = true := by rw [a]; exact Bool.false_ne_true
    rw [if_neg a']
    exact congrArg some e
theorem ObjM.look {h : Heap} {x dx C : Addr} {mA : Str → Option Value} (I : ObjM h x dx C mA) : ∃ od, PySem.W.InstAt h x (PySem.W.instObj C dx) C (some od) ∧ ∀ name, PySem.W.lookIn name od = some (mA name) :=
  let ⟨od, ho, hl⟩ := lookIn_ns I.ns
  ⟨od, ⟨I.obj, rfl, rfl, ho⟩, hl⟩
section
variable {prog : Program} {w : World} {A : Around} {E : Value → Shared → Prop} {s : Shared} {K : PySem.W.Frag} {x dx C f : Addr} {mA : Str → Option Value} {name : Str} {v : Value}
theorem get_map {expr : Bool} {Q : Value → Shared → Prop} (X : K.In s.heap) (I : ObjM s.heap x dx C mA) (hg : PySem.W.plainGet K C name = true) (hh : PySem.W.hasDictIn K C = true)
    (ha : PySem.W.findIn K (.ref C) name = some none) (hv : mA name = some v) (hv' : PySem.W.handedIn v = true) (h : Q v { s with toks := s.toks + 1 }) :
    wpAny (model prog w) A (getAttr (.ref x) name expr) Q E s := by
  obtain ⟨od, J, hl⟩ := I.look
  exact PySem.W.get_value X J (PySem.W.plainGet_of hg).1 (PySem.W.findObj_own hh ha rfl (by rw [hl, hv])) hv' h
theorem set_map {ns : List Str} {Q : Unit → Shared → Prop} (X : K.In s.heap) (I : ObjM s.heap x dx C mA)
    (hs : PySem.W.findIn K (.ref C) "__setattr__" = some (some (.builtin "object.__setattr__"))) (hp : PySem.W.plainOver K C = true) (ht : PySem.W.takerIn K C name = some none) (hh : PySem.W.hasDictIn K C = true)
    (hw : PySem.Within mA ns) (hsz : ns.length ≤ sizeLine)
    (h : ∀ h', ObjM h' x dx C (fun y => if y = name then some v else mA y) → Heap.SameBut dx s.heap h' → Q () { s with heap := h', toks := s.toks + 2 }) :
    wpAny (model prog w) A (setAttr (.ref x) name v) Q E s := by
  obtain ⟨od, J, hl⟩ := I.look
  refine PySem.W.set_plain X J hs (PySem.W.osa_open (s := { s with toks := s.toks + 1 }) (r := none) X J hp ht fun b => ?_)
  obtain ⟨cd, hc, hd'⟩ := PySem.W.any_some hh
  have hx : s.heap.get? x = some ⟨.ref C, some dx, .plain, #[]⟩ := I.obj
  refine wpAny_bind (wpAny_pure (wpAny_bind (wpAny_bind (wpAny_loadPart hx (wpAny_bind (PySem.W.Looks.here (s := { s with toks := s.toks + 1 }) (PySem.W.looks_clsIn X hc) ?_))))))
  rw [hd']
  refine wpAny_pure (a := some dx) (wpAny_bind (wpAny_pure (wpAny_bind ?_)))
  refine wpAny_nsSet1 (s := { s with toks := s.toks + 1 }) I.ns fun h' hn2 hs2 => ?_
  obtain ⟨oD, esD, epD, hoD, hdD, hcD⟩ := hn2.count (PySem.Within.cons name v hw)
  refine wpAny_bind (wpAny_lookBehind hoD (by rw [hdD]; exact pastItsLine_dict (Nat.le_trans hcD (by rw [List.length_cons]; omega))) ?_)
  exact wpAny_pure (h _ ⟨(hs2.2 _ (Ne.symm I.ne)).trans I.obj, hn2, I.ne⟩ hs2)
theorem make_map {R : Result → Shared → Prop} {vs : List Value} {kw : List (Str × Value)} (X : K.In s.heap) (hm : PySem.W.makesIn K C = true)
    (hi : PySem.W.findIn K (.ref C) "__init__" = some (some (.ref f))) (hf : PySem.W.typeIn K (.ref f) = some (.type "function"))
    (h : codeAny (model prog w) (A.under (.builtin "type.__call__" ⟨.ref C :: vs, kw⟩)) (.call (.ref f) ⟨.ref (s.heap.objs.size + 1) :: vs, kw⟩) (PySem.W.InitBack (s.heap.objs.size + 1) R)
      { s with heap := (s.heap.push PySem.W.emptyDict).push (PySem.W.instObj C s.heap.objs.size) }) :
    codeAny (model prog w) A (.call (.ref C) ⟨vs, kw⟩) R s := by
  obtain ⟨hh, g, d, t, os⟩ := s
  exact PySem.W.make_core (PySem.W.makes_of X hm) (PySem.W.looks_findIn X hi) (fun self => PySem.W.bind_fn X self hf) (.inl rfl) h
end
def putF (f : Str) (v : V) : List (Str × V) → List (Str × V)
  | [] => [(f, v)]
  | (g, x) :: r => if g = f then (g, v) :: r else (g, x) :: putF f v r
theorem lookup_putF (f g : Str) (v : V) : ∀ fs : List (Str × V), (putF f v fs).lookup g = if g = f then some v else fs.lookup g
  | [] => by
    show List.lookup g [(f, v)] = _
    by_cases h : g = f
    · have hb : (g == f) = true := beq_iff_eq.mpr h
      simp only [List.lookup, hb, if_pos h]
    · have hb : (g == f) = false := beq_eq_false_iff_ne.mpr h
      simp only [List.lookup, hb, if_neg h]
  | (k, x) :: r => by
    have ih := lookup_putF f g v r
    rw [show putF f v ((k, x) :: r) = (if k = f then (k, v) :: r else (k, x) :: putF f v r) from rfl]
    by_cases hk : k = f
    · rw [if_pos hk]
      by_cases h : g = k
      · have hb : (g == k) = true := beq_iff_eq.mpr h
        simp only [List.lookup, hb, if_pos (h.trans hk)]
      · have hb : (g == k) = false := beq_eq_false_iff_ne.mpr h
        simp only [List.lookup, hb, if_neg (fun e : g = f => h (e.trans hk.symm))]
    · rw [if_neg hk]
      by_cases h : g = k
      · have hb : (g == k) = true := beq_iff_eq.mpr h
        simp only [List.lookup, hb, if_neg (fun e : g = f => hk (h.symm.trans e))]
      · have hb : (g == k) = false := beq_eq_false_iff_ne.mpr h
        simp only [List.lookup, hb]
        exact ih
theorem keys_putF (f : Str) (v : V) : ∀ fs : List (Str × V), f ∈ (putF f v fs).map (·.1) ∧ ∀ g, g ∈ fs.map (·.1) → g ∈ (putF f v fs).map (·.1)
  | [] => ⟨by simp [putF], fun g h => by simp at h⟩
  | (k, x) :: r => by
    obtain ⟨i1, i2⟩ := keys_putF f v r
    rw [show putF f v ((k, x) :: r) = (if k = f then (k, v) :: r else (k, x) :: putF f v r) from rfl]
    by_cases hk : k = f
    · rw [if_pos hk]
      subst hk
      exact ⟨by simp, fun g h => by simpa using h⟩
    · rw [if_neg hk]
      refine ⟨?_, fun g h => ?_⟩
      · rw [List.map_cons]
        exact List.mem_cons_of_mem _ i1
      · rw [List.map_cons] at h ⊢
        rcases List.mem_cons.mp h with e | e
        · exact List.mem_cons.mpr (.inl e)
        · exact List.mem_cons_of_mem _ (i2 g e)
theorem length_putF (f : Str) (v : V) : ∀ fs : List (Str × V), (putF f v fs).length ≤ fs.length + 1
  | [] => by simp [putF]
  | (k, x) :: r => by
    have ih := length_putF f v r
    rw [show putF f v ((k, x) :: r) = (if k = f then (k, v) :: r else (k, x) :: putF f v r) from rfl]
    by_cases hk : k = f
    · rw [if_pos hk, List.length_cons, List.length_cons]; omega
    · rw [if_neg hk, List.length_cons, List.length_cons]; omega
theorem RelO.some_of {v : V} {o : Option Value} (r : RelO (some v) o) : ∃ u, o = some u ∧ RelV v u := by
  cases o with
  | none => exact (show False from r).elim
  | some u => exact ⟨u, rfl, r⟩
theorem handed_of {v : V} {u : Value} (r : RelV v u) : PySem.W.handedIn u = true := by
  cases v with
  | non => cases (show u = Value.none from r); rfl
  | bl b => cases (show u = Value.bool b from r); rfl
  | int i => obtain ⟨t, e⟩ := (show ∃ t, u = Value.int i t from r); cases e; rfl
  | str x => obtain ⟨t, e⟩ := (show ∃ t, u = Value.str x t from r); cases e; rfl
  | byt b => obtain ⟨t, e⟩ := (show ∃ t, u = Value.bytes b t from r); cases e; rfl
  | flt b => obtain ⟨t, e⟩ := (show ∃ t, u = Value.float b t from r); cases e; rfl
  | ref a => cases (show u = Value.ref a from r); rfl
  | ty n => cases (show u = Value.type n from r); rfl
section
variable {P : Program} {w : World} {H H' : Hp} {h h' : Heap} {a C dx : Addr} {fs fs' : List (Str × V)}
theorem ins_get (hok : HOk P w H h) (e : H a = some (.ins C dx fs)) : ∃ mA, ObjM h a dx C mA ∧ (∀ f, RelO (fs.lookup f) (mA f)) ∧ PySem.Within mA (fs.map (·.1)) ∧ fs.length ≤ 1000 ∧ H dx = some (.own a) := by
  obtain ⟨d, z, ne, ob, mA, n, r, q⟩ := (show ObjOk P w H h a (.ins C dx fs) from hok a _ e)
  exact ⟨mA, ⟨ob, n, ne⟩, r, q, z, d⟩
end
structure Cls (K : PySem.W.Frag) (C : Addr) : Prop where
  pg : PySem.W.plainGet K C Str.empty = true
  hd : PySem.W.hasDictIn K C = true
  po : PySem.W.plainOver K C = true
  sa : PySem.W.findIn K (.ref C) "__setattr__" = some (some (.builtin "object.__setattr__"))
theorem Cls.get {K : PySem.W.Frag} {C : Addr} (c : Cls K C) (f : Str) : PySem.W.plainGet K C f = true := c.pg
def NoAttr (K : PySem.W.Frag) (C : Addr) (f : Str) : Prop := PySem.W.findIn K (.ref C) f = some none
theorem NoAttr.taker {K : PySem.W.Frag} {C : Addr} {f : Str} (n : NoAttr K C f) : PySem.W.takerIn K C f = some none := by
  unfold PySem.W.takerIn
  rw [show PySem.W.findIn K (.ref C) f = some none from n]
  rfl
structure Con (K : PySem.W.Frag) (C : Addr) (f : Str) (v : V) (u : Value) : Prop where
  at_ : PySem.W.findIn K (.ref C) f = some (some u)
  rel : RelV v u
  get : PySem.W.specialIn K u "__get__" = some none
  cp : PySem.W.copiedNames.contains f = false
structure Meth (K : PySem.W.Frag) (C : Addr) (m : Str) (f : Addr) : Prop where
  at_ : PySem.W.findIn K (.ref C) m = some (some (.ref f))
  fn : PySem.W.isFn K (.ref f) = true
  kp : PySem.W.keepIn K (.ref f) = true
section
variable {X : Cx} {pins : List (Addr × Obj)} {σ : St} {H : Hp} {s : Shared} {a C dx : Addr} {fs : List (Str × V)} {f : Str} {v : V} {A : Around} {E : Value → Shared → Prop}
theorem getattr_ok {b : Bool} {Q : Value → Shared → Prop} (I : Inv X pins σ H s) (e : H a = some (.ins C dx fs)) (c : Cls X.K C) (n : NoAttr X.K C f) (l : fs.lookup f = some v)
    (h : ∀ u s', Inv X pins σ H s' → RelV v u → Q u s') : wpAny (model X.prog X.w) A (getAttr (.ref a) f b) Q E s := by
  obtain ⟨mA, O, r, _, _, _⟩ := ins_get I.hok e
  obtain ⟨u, hu, ru⟩ := RelO.some_of (v := v) (o := mA f) (by rw [← l]; exact r f)
  exact get_map I.kIn O (c.get f) c.hd n hu (handed_of ru) (h u _ (I.tok _) ru)
theorem setattr_ok {y : V} {u : Value} {Q : Unit → Shared → Prop} (I : Inv X pins σ H s) (e : H a = some (.ins C dx fs)) (c : Cls X.K C) (n : NoAttr X.K C f) (hl : fs.length < 1000) (ry : RelV y u)
    (h : ∀ s', Inv X pins σ (upd H a (.ins C dx (putF f y fs))) s' → Q () s') : wpAny (model X.prog X.w) A (setAttr (.ref a) f u) Q E s := by
  obtain ⟨mA, O, r, wi, _, ho⟩ := ins_get I.hok e
  have hz : (fs.map (·.1)).length ≤ sizeLine := by rw [List.length_map, sizeLine_eq]; omega
  refine set_map I.kIn O c.sa c.po n.taker c.hd wi hz fun h' O' sb => h _ ?_
  have hd : ∃ o, h'.get? dx = some o := let ⟨o, _, _, e', _⟩ := O'.ns; ⟨o, e'⟩
  refine I.write (x := a) (e := dx) (by rw [e]; exact True.intro) (.inr ho) (fun b q hb z => (sb.2 b hb).trans z) hd ?_
  refine ⟨by rw [upd_ne O.ne]; exact ho, ?_, O.ne, O'.obj, _, O'.ns, fun g => ?_, fun g hg => ?_⟩
  · have := length_putF f y fs; omega
  · show RelO ((putF f y fs).lookup g) (if g = f then some u else mA g)
    rw [lookup_putF]
    by_cases q : g = f
    · rw [if_pos q, if_pos q]; exact ry
    · rw [if_neg q, if_neg q]; exact r g
  · by_cases q : g = f
    · rw [q]; exact (keys_putF f y fs).1
    · refine (keys_putF f y fs).2 g (wi g fun z => hg ?_)
      show (if g = f then some u else mA g) = none
      rw [if_neg q]; exact z
theorem Inv.made (I : Inv X pins σ H s) : Inv X pins σ (upd (upd H s.heap.objs.size (.own (s.heap.objs.size + 1))) (s.heap.objs.size + 1) (.ins C s.heap.objs.size []))
    { s with heap := (s.heap.push PySem.W.emptyDict).push (PySem.W.instObj C s.heap.objs.size) } := by
  have e1 : (s.heap.push PySem.W.emptyDict).get? s.heap.objs.size = some PySem.W.emptyDict := Heap.get?_push_size s.heap rfl
  have e2 : ((s.heap.push PySem.W.emptyDict).push (PySem.W.instObj C s.heap.objs.size)).get? (s.heap.objs.size + 1) = some (PySem.W.instObj C s.heap.objs.size) := by
    have := Heap.get?_push_size (s.heap.push PySem.W.emptyDict) (o := PySem.W.instObj C s.heap.objs.size) rfl
    rwa [Heap.size_push] at this
  have e3 : (s.heap.push PySem.W.emptyDict).Ns s.heap.objs.size (fun _ => none) := ⟨PySem.W.emptyDict, #[], _, e1, rfl, (fun e he => absurd he (by simp)), fun _ => rfl⟩
  have I1 := I.laid (a := s.heap.objs.size) (o := .own (s.heap.objs.size + 1)) (h' := s.heap.push PySem.W.emptyDict) (t' := s.toks) (fun b u q => Heap.get?_push_of_some _ q) (Nat.le_refl _) ⟨_, e1⟩
  refine I1.laid (a := s.heap.objs.size + 1) (o := .ins C s.heap.objs.size []) (t' := s.toks) (fun b u q => Heap.get?_push_of_some _ q) (Nat.le_of_eq (Heap.size_push _ _)) ?_
  have ne : s.heap.objs.size ≠ s.heap.objs.size + 1 := Nat.ne_of_lt (Nat.lt_succ_self _)
  refine ⟨by rw [upd_ne ne, upd_same], Nat.zero_le _, ne, e2, fun _ => none, (Heap.Ns1.of_empty e3).at fun o q => Heap.get?_push_of_some _ q, fun _ => True.intro, fun y hy => absurd rfl hy⟩
theorem attr_of {prog : Program} {w : World} {env : Env} {e : Expr} {f : Str} {pos : Pos} {s : Shared} {Q : Value → Shared → Prop} (hb : attributeBase e f env (eval e env) = eval e env)
    (h : wpAny (model prog w) A (eval e env) (fun o s₁ => wpAny (model prog w) A (getAttr o f true) Q E s₁) E s) : wpAny (model prog w) A (eval (.Attribute e f pos) env) Q E s :=
  Attribute_any_ h (by rw [arm_eval_Attribute, hb])
end
def tFld (K : PySem.W.Frag) (ta : TE) (f : Str) : TE := fun σ H Q => ta σ H fun x H1 => ∃ a C dx fs v, x = .ref a ∧ H1 a = some (.ins C dx fs) ∧ Cls K C ∧ NoAttr K C f ∧ fs.lookup f = some v ∧ Q v H1
def sFld (K : PySem.W.Frag) (ta tv : TE) (f : Str) : TS := fun D σ H => tv σ H fun y H1 => ta σ H1 fun x H2 => ∃ a C dx fs, x = .ref a ∧ H2 a = some (.ins C dx fs) ∧ Cls K C ∧ NoAttr K C f ∧ fs.length < 1000 ∧
  D.nx σ (upd H2 a (.ins C dx (putF f y fs)))
section
variable {X : Cx} {o e value : Expr} {f : Str} {pos pos' tpos : Pos} {ta tv : TE}
theorem pe_fld (he : PE X e ta) (hb : attributeBase e f X.env (eval e X.env) = eval e X.env) : PE X (.Attribute e f pos) (tFld X.K ta f) := by
  intro pins s σ H Q I h
  refine attr_of hb (thn (he pins s σ H _ I h) ?_)
  rintro u s1 ⟨x, H1, I1, rx, a, C, dx, fs, v, ex, ea, c, n, l, q⟩
  subst ex
  obtain rfl : u = Value.ref a := rx
  exact getattr_ok I1 ea c n l fun u' s2 I2 ru => ⟨v, H1, I2, ru, q⟩
theorem ps_fld (ha : PE X o ta) (hv : PE X value tv) (hs : swapsWith value (some (.Attribute o f pos')) pos.line X.env = pure false) : PS X (.Assign [.Attribute o f pos'] value pos) (sFld X.K ta tv f) := by
  intro pins s σ H D I h
  refine plainObj_wpAny_Assign_Attribute (thn (hv pins s σ H _ I h) fun u s1 ⟨y, H1, I1, ry, q⟩ => thn (ha pins s1 σ H1 _ I1 q) fun ov s2 ⟨x, H2, I2, rx, a, C, dx, fs, ex, ea, c, n, l, q2⟩ => ?_) hs
  subst ex
  obtain rfl : ov = Value.ref a := rx
  exact setattr_ok I2 ea c n l ry fun s3 I3 => ⟨σ, _, I3, q2⟩
end
section
variable {X : Cx} {pins : List (Addr × Obj)} {σ : St} {H : Hp} {s : Shared} {A : Around} {E : Value → Shared → Prop} {Q : Value → Shared → Prop} {c : Value} {b : Bool}
inductive TyOf (K : PySem.W.Frag) (H : Hp) : V → Value → Prop where
  | non : TyOf K H .non (.type "NoneType")
  | bl (x : Bool) : TyOf K H (.bl x) (.type "bool")
  | int (i : Int) : TyOf K H (.int i) (.type "int")
  | str (x : Str) : TyOf K H (.str x) (.type "str")
  | flt (x : UInt64) : TyOf K H (.flt x) (.type "float")
  | lst {a : Addr} {xs : List V} (e : H a = some (.lst xs)) : TyOf K H (.ref a) (.type "list")
  | frz {a : Addr} {o : Obj} {xs : List V} (e : H a = some (.frz o (.lst xs))) : TyOf K H (.ref a) (.type "list")
  | tup {a : Addr} {xs : List V} (e : H a = some (.tup xs)) : TyOf K H (.ref a) (.type "tuple")
  | dK {a : Addr} {kvs : List (Key × V)} (e : H a = some (.dK kvs)) : TyOf K H (.ref a) (.type "dict")
  | dT {a : Addr} {kvs : List (List Key × V)} (e : H a = some (.dT kvs)) : TyOf K H (.ref a) (.type "dict")
  | ins {a C dx : Addr} {fs : List (Str × V)} (e : H a = some (.ins C dx fs)) (cl : Cls K C) (ha : PySem.W.findIn K (.ref C) "__class__" = some (some (.builtin "object.__class__")))
      (hn : PySem.W.specialIn K (.builtin "object.__class__") "__get__" = some (some (.builtin "getset_descriptor.__get__"))) (htk : PySem.W.takesIn K (.builtin "object.__class__") = some true)
      (hm : PySem.W.mroIn K C (.type "object") = some true) : TyOf K H (.ref a) (.ref C)
theorem isinst_ok {x : V} {u t : Value} (I : Inv X pins σ H s) (rx : RelV x u) (ty : TyOf X.K H x t) (e : PySem.W.kitOne X.K t c = some b) (h : ∀ tk, Q (.bool b) { s with toks := tk }) :
    wpAny (model X.prog X.w) A (call (.builtin "isinstance") [u, c]) Q E s := by
  cases ty with
  | non => cases (show u = Value.none from rx); exact PySem.W.kia_one PySem.W.kitx_none I.kIn True.intro e (fun z => nomatch z) h
  | bl y => cases (show u = Value.bool y from rx); exact PySem.W.kia_one PySem.W.kitx_bool I.kIn True.intro e (fun z => nomatch z) h
  | int i => obtain ⟨t, q⟩ := (show ∃ t, u = Value.int i t from rx); cases q; exact PySem.W.kia_one PySem.W.kitx_int I.kIn True.intro e (fun z => nomatch z) h
  | str y => obtain ⟨t, q⟩ := (show ∃ t, u = Value.str y t from rx); cases q; exact PySem.W.kia_one PySem.W.kitx_str I.kIn True.intro e (fun z => nomatch z) h
  | flt y => obtain ⟨t, q⟩ := (show ∃ t, u = Value.float y t from rx); cases q; exact PySem.W.kia_one PySem.W.kitx_float I.kIn True.intro e (fun z => nomatch z) h
  | @lst a xs ea =>
    cases (show u = Value.ref a from rx)
    obtain ⟨_, _, n, _, h1⟩ := (show ObjOk X.prog X.w H s.heap a (.lst xs) from I.hok a _ ea)
    exact PySem.W.kia_one PySem.W.kitx_list I.kIn ⟨_, h1, rfl⟩ e (fun z => nomatch z) h
  | @frz a ob xs ea =>
    cases (show u = Value.ref a from rx)
    obtain ⟨_, _, _, n, _, h1⟩ := (show ObjOk X.prog X.w H s.heap a (.frz ob (.lst xs)) from I.hok a _ ea)
    exact PySem.W.kia_one PySem.W.kitx_list I.kIn ⟨_, h1, rfl⟩ e (fun z => nomatch z) h
  | @tup a xs ea =>
    cases (show u = Value.ref a from rx)
    obtain ⟨_, _, _, p⟩ := (show ObjOk X.prog X.w H s.heap a (.tup xs) from I.hok a _ ea)
    obtain ⟨o, h1, h2, _⟩ := p
    exact PySem.W.kia_one PySem.W.kitx_tuple I.kIn ⟨o, h1, h2⟩ e (fun z => nomatch z) h
  | @dK a kvs ea =>
    cases (show u = Value.ref a from rx)
    obtain ⟨_, _, vs, _, p⟩ := (show ObjOk X.prog X.w H s.heap a (.dK kvs) from I.hok a _ ea)
    obtain ⟨o, es, ep, h1, h2, _⟩ := p
    exact PySem.W.kia_one PySem.W.kitx_dict I.kIn ⟨o, h1, h2.1⟩ e (fun z => nomatch z) h
  | @dT a kvs ea =>
    cases (show u = Value.ref a from rx)
    obtain ⟨_, _, xs, _, o, es, ep, h1, h2, _⟩ := (show ObjOk X.prog X.w H s.heap a (.dT kvs) from I.hok a _ ea)
    exact PySem.W.kia_one PySem.W.kitx_dict I.kIn ⟨o, h1, h2.1⟩ e (fun z => nomatch z) h
  | @ins a C dx fs ea cl ha hn htk hm =>
    cases (show u = Value.ref a from rx)
    obtain ⟨mA, O, _⟩ := ins_get I.hok ea
    obtain ⟨od, J, _⟩ := O.look
    exact PySem.W.kia_one (PySem.W.kitx_own (cl.get _) cl.hd ha hn htk hm) I.kIn J e (fun z => nomatch z) h
end
end L2
namespace L2
open PySem PySem.Spec PyProof.Rows
structure Room (k : Nat) (A : Around) : Prop where
  hd : A.handled = none
  dp : A.depth + 3 * k + 5 < recursionLimit
  un : A.units + 16 * k + 200 < cLine
  gd : A.guards = some []
theorem Room.mono {j k : Nat} {A : Around} (r : Room k A) (h : j ≤ k) : Room j A := ⟨r.hd, by have := r.dp; omega, by have := r.un; omega, r.gd⟩
theorem Room.deeper {k : Nat} {A : Around} (r : Room (k + 1) A) (env : Env) : Room k (A.deeper env) :=
  ⟨r.hd, by have := r.dp; show A.depth + 1 + 3 * k + 5 < _; omega, by have := r.un; show A.units + 3 + 16 * k + 200 < _; omega, r.gd⟩
theorem Room.in1 {k : Nat} {A : Around} (r : Room (k + 1) A) : Room k A.in1 :=
  ⟨r.hd, by have := r.dp; show A.depth + 3 * k + 5 < _; omega, by have := r.un; show A.units + 1 + 16 * k + 200 < _; omega, r.gd⟩
theorem make_depth {A : Around} {C : Addr} {us : List Value} {kw : List (Str × Value)} : (A.under (.builtin "type.__call__" ⟨.ref C :: us, kw⟩)).depth = A.depth + 1 := by
  first | rfl | simp [Around.under, Code.weight, Code.isCreation, Code.isGuard, Code.isCaller, Code.frames, Code.isFrame, guardIds]
theorem make_units {A : Around} {C : Addr} {us : List Value} {kw : List (Str × Value)} : (A.under (.builtin "type.__call__" ⟨.ref C :: us, kw⟩)).units = A.units + 1 := by
  first | rfl | simp [Around.under, Code.cUnits, Code.frames, Code.isFrame]
theorem make_guards {A : Around} {C : Addr} {us : List Value} {kw : List (Str × Value)} (h : A.guards = some []) : (A.under (.builtin "type.__call__" ⟨.ref C :: us, kw⟩)).guards = some [] := by
  first | exact h | (simp [Around.under, pushGuards, Code.guards, Code.isGuard, guardIds, h])
theorem Room.make {k : Nat} {A : Around} (r : Room (k + 1) A) (C : Addr) (us : List Value) (kw : List (Str × Value)) : Room k (A.under (.builtin "type.__call__" ⟨.ref C :: us, kw⟩)) :=
  ⟨r.hd, by have := r.dp; rw [make_depth]; omega, by have := r.un; rw [make_units]; omega, make_guards r.gd⟩
theorem Room.depth {k : Nat} {A : Around} (r : Room k A) : A.depth < recursionLimit := by have := r.dp; omega
theorem Room.units {k : Nat} {A : Around} (r : Room k A) : A.units + 64 < cLine := by have := r.un; omega
def tNil : TA := fun _ H Q => Q [] H
def tCons (ta : TE) (tr : TA) : TA := fun σ H Q => ta σ H fun x H1 => tr σ H1 fun xs H2 => Q (x :: xs) H2
section
variable {X : Cx} {e : Expr} {es : List Expr} {te : TE} {t : TA} {pos : Pos}
theorem pa_nil : PA X [] tNil := fun _ _ _ _ H Q I h => Calls.spliced_nil ⟨[], H, I, .nil, h⟩
theorem pa_cons (ha : PE X e te) (hr : PA X es t) (hs : starEach (e :: es) X.env = (false, eval e X.env) :: starEach es X.env := by rfl) : PA X (e :: es) (tCons te t) := by
  intro pos pins s σ H Q I h
  rw [hs]
  show wpAny _ _ (spliced ((false, eval e X.env) :: backTo pos (starEach es X.env))) _ _ s
  refine Calls.spliced_cons (thn (ha pins s σ H _ I h) ?_)
  rintro u s1 ⟨x, H1, I1, r1, q1⟩
  exact thn (hr pos pins s1 σ H1 _ I1 q1) fun us s2 ⟨xs, H2, I2, r2, q2⟩ => ⟨x :: xs, H2, I2, .cons r1 r2, q2⟩
def tTup (t : TA) : TE := fun σ H Q => t σ H fun xs H1 => xs.length ≤ sizeLine ∧ ∀ p, H1 p = none → Q (.ref p) (upd H1 p (.tup xs))
def tLst (t : TA) : TE := fun σ H Q => t σ H fun xs H1 => xs.length ≤ sizeLine ∧ ∀ p, H1 p = none → Q (.ref p) (upd H1 p (.lst xs))
theorem pe_tup {x1} (h : PA X es t) : PE X (.Tuple es x1 pos) (tTup t) := by
  intro pins s σ H Q I hq
  refine wpAny_Tuple_spliced (thn (h pos pins s σ H _ I hq) fun us s1 ⟨xs, H1, I1, r, z, q⟩ => ⟨by rw [← r.length]; exact z, ?_⟩)
  have hf : H1 s1.heap.objs.size = none := I1.hok.fresh (Nat.le_refl _)
  refine ⟨.ref s1.heap.objs.size, upd H1 s1.heap.objs.size (.tup xs), I1.laid (t' := s1.toks) (fun b u e => Heap.get?_push_of_some _ e) (Nat.le_refl _) ?_, rfl, q _ hf⟩
  exact ⟨⟨z, NoDct.new rfl rfl⟩, us, r, ⟨_, Heap.get?_push_size _ rfl, rfl, _, rfl⟩⟩
theorem pe_lst (h : PA X es t) : PE X (.List es pos) (tLst t) := by
  intro pins s σ H Q I hq
  refine wpAny_List_spliced (thn (h pos pins s σ H _ I hq) fun us s1 ⟨xs, H1, I1, r, z, q⟩ => ⟨by rw [← r.length]; exact z, ?_⟩)
  have hf : H1 s1.heap.objs.size = none := I1.hok.fresh (Nat.le_refl _)
  refine ⟨.ref s1.heap.objs.size, upd H1 s1.heap.objs.size (.lst xs), I1.laid (t' := s1.toks) (fun b u e => Heap.get?_push_of_some _ e) (Nat.le_refl _) ?_, rfl, q _ hf⟩
  exact ⟨z, us, 0, r, Heap.get?_push_size _ rfl⟩
end
abbrev Sp := List V → Hp → VK → XK → Prop
abbrev CXT := List Env → Hp → Shared → XK → Value → Shared → Prop
structure Env0 (P : Program) (w : World) (K : PySem.W.Frag) (mg : Str → Option Value) (base : Heap) (A : Around) (outer : List Env) (s : Shared) (H : Hp) : Prop where
  frames : A.frames = some outer
  mod : Mod K mg base
  bs : ∀ b o, base.get? b = some o → s.heap.get? b = some o ∧ H b = none
  bsz : base.objs.size ≤ s.heap.objs.size
  funs : s.heap.FunFrames base outer
  frf : ∀ b ∈ frs outer, H b = none
  hok : HOk P w H s.heap
  bare : AllBare s.gens
def CE (outer : List Env) (P : Program) (w : World) (H : Hp) (s : Shared) (Q : VK) (u : Value) (s' : Shared) : Prop :=
  ∃ v H', s'.os = s.os ∧ AllBare s'.gens ∧ Un (frs outer) [] H H' s.heap s'.heap ∧ HOk P w H' s'.heap ∧ RelV v u ∧ Q v H'
def CR (CX : CXT) (outer : List Env) (P : Program) (w : World) (H : Hp) (s : Shared) (Q : VK) (E : XK) (r : Result) (s' : Shared) : Prop :=
  match r with
  | .ok (.ret u) => CE outer P w H s Q u s'
  | .ok _ => False
  | .error e => CX outer H s E e s'
structure FnOk (P : Program) (w : World) (K : PySem.W.Frag) (mg : Str → Option Value) (base : Heap) (CX : CXT) (k : Nat) (f : Addr) (fd : FuncData) (ps : List Str) (sp : Sp) : Prop where
  len : ∀ vs H Q E, sp vs H Q E → vs.length = ps.length
  run : ∀ (A : Around) (outer : List Env) (s : Shared) (H : Hp) (args : Args) (us : List Value) (vs : List V) (Q : VK) (E : XK), Room k A → Env0 P w K mg base A outer s H → BindsTo s fd args (ps.zip us) → Vals vs us → sp vs H Q E →
    codeAny (model P w) A (.call (.ref f) args) (CR CX outer P w H s Q E) s
theorem FnOk.mono {P : Program} {w : World} {K : PySem.W.Frag} {mg : Str → Option Value} {base : Heap} {CX : CXT} {j k : Nat} {f : Addr} {fd : FuncData} {ps : List Str} {sp : Sp} (F : FnOk P w K mg base CX j f fd ps sp) (h : j ≤ k) :
    FnOk P w K mg base CX k f fd ps sp := ⟨F.len, fun A outer s H args us vs Q E hr => F.run A outer s H args us vs Q E (hr.mono h)⟩
theorem FnOk.imp {P : Program} {w : World} {K : PySem.W.Frag} {mg : Str → Option Value} {base : Heap} {CX : CXT} {k : Nat} {f : Addr} {fd : FuncData} {ps : List Str} {sp sp' : Sp} (F : FnOk P w K mg base CX k f fd ps sp)
    (h : ∀ vs H Q E, sp' vs H Q E → sp vs H Q E) : FnOk P w K mg base CX k f fd ps sp' :=
  ⟨fun vs H Q E q => F.len vs H Q E (h _ _ _ _ q), fun A outer s H args us vs Q E hr he hb hv hs => F.run A outer s H args us vs Q E hr he hb hv (h _ _ _ _ hs)⟩
theorem Env0.make {P : Program} {w : World} {K : PySem.W.Frag} {mg : Str → Option Value} {base : Heap} {A : Around} {outer : List Env} {s : Shared} {H : Hp} (e : Env0 P w K mg base A outer s H) (C : Addr) (us : List Value) (kw : List (Str × Value)) :
    Env0 P w K mg base (A.under (.builtin "type.__call__" ⟨.ref C :: us, kw⟩)) outer s H := ⟨by first | exact e.frames | (simpa [Around.under, Code.envs, Code.isFrame, pushEnvs] using e.frames), e.mod, e.bs, e.bsz, e.funs, e.frf, e.hok, e.bare⟩
theorem Env0.in1 {P : Program} {w : World} {K : PySem.W.Frag} {mg : Str → Option Value} {base : Heap} {A : Around} {outer : List Env} {s : Shared} {H : Hp} (e : Env0 P w K mg base A outer s H) :
    Env0 P w K mg base A.in1 outer s H := ⟨e.frames, e.mod, e.bs, e.bsz, e.funs, e.frf, e.hok, e.bare⟩
section
variable {X : Cx} {pins : List (Addr × Obj)} {σ : St} {H : Hp} {s s' : Shared}
theorem Inv.env0 (I : Inv X pins σ H s) : Env0 X.prog X.w X.K X.mg X.base X.A X.stack s H :=
  ⟨I.ok.frames, I.ok.mod, I.bs, Nat.le_trans I.ok.bsz I.sz, I.stack, I.stkFree, I.hok, I.bare⟩
theorem Inv.after {Q : VK} {u : Value} (I : Inv X pins σ H s) (h : CE X.stack X.prog X.w H s Q u s') : EP X pins σ Q u s' := by
  obtain ⟨v, H', os, bare, un, hok, r, q⟩ := h
  obtain ⟨hh, g, d, t, os'⟩ := s'
  obtain rfl : os' = s.os := os
  exact ⟨v, H', I.call (h' := hh) (g' := g) (d' := d) (t' := t) (ch := []) un hok bare (fun b z => absurd z (by simp)), r, q⟩
end
def tCall (sp : Sp) (dvs : List V) (E : XK) (t : TA) : TE := fun σ H Q => t σ H fun vs H1 => sp (vs ++ dvs) H1 Q E
def tMake (C : Addr) (sp : Sp) (dvs : List V) (E : XK) (t : TA) : TE := fun σ H Q => t σ H fun vs H1 => ∀ x dx, H1 x = none → H1 dx = none → dx ≠ x →
  sp (.ref x :: (vs ++ dvs)) (upd (upd H1 dx (.own x)) x (.ins C dx [])) (fun v H2 => v = .non ∧ Q (.ref x) H2) E
def Binds (K : PySem.W.Frag) (fd : FuncData) (ps : List Str) (ds : List Value) : Prop :=
  ∀ (s : Shared) (us : List Value), K.In s.heap → (us ++ ds).length = ps.length → BindsTo s fd ⟨us, []⟩ (ps.zip (us ++ ds))
theorem Binds.all {K : PySem.W.Frag} {fd : FuncData} {ps : List Str} (h : ∀ us : List Value, us.length = ps.length → bindArgs fd ⟨us, []⟩ = pure (ps.zip us)) : Binds K fd ps [] := fun s us _ hl => by
  rw [List.append_nil] at hl ⊢
  exact .of_eq (h us hl)
def Passes (CX : CXT) (X : Cx) (E : XK) : Prop := ∀ (pins : List (Addr × Obj)) (σ : St) (H : Hp) (s : Shared) (e : Value) (s' : Shared), Inv X pins σ H s → CX X.stack H s E e s' → X.xe e s'
section
variable {X : Cx} {CX : CXT} {k : Nat} {f C : Addr} {fd : FuncData} {ps : List Str} {sp : Sp} {dvs : List V} {ds : List Value} {E : XK} {x m : Str} {p pos apos : Pos} {e o : Expr} {es : List Expr} {ta : TE} {t : TA}
theorem run_fn {pins : List (Addr × Obj)} {σ : St} {H : Hp} {s : Shared} {Q : VK} {us : List Value} {vs : List V} (F : FnOk X.prog X.w X.K X.mg X.base CX k f fd ps sp) (hr : Room k X.A) (hb : Binds X.K fd ps ds) (hd : Vals dvs ds) (hx : Passes CX X E)
    (I : Inv X pins σ H s) (r : Vals vs us) (h : sp (vs ++ dvs) H Q E) : wpAny (model X.prog X.w) X.A (call (.ref f) us) (EP X pins σ Q) X.xe s := by
  have r2 : Vals (vs ++ dvs) (us ++ ds) := r.append hd
  have hl : (us ++ ds).length = ps.length := by rw [← r2.length]; exact F.len _ _ _ _ h
  refine wpAny_call (codeAny_mono (F.run X.A X.stack s H ⟨us, []⟩ (us ++ ds) (vs ++ dvs) Q E hr I.env0 (hb s us I.kIn hl) r2 h) fun r s' hq => ?_)
  cases r with
  | error e => exact hx pins σ H s e s' I hq
  | ok fl =>
    cases fl with
    | ret u => exact I.after hq
    | next => exact False.elim hq
    | brk => exact False.elim hq
    | cont => exact False.elim hq
theorem pe_call (F : FnOk X.prog X.w X.K X.mg X.base CX k f fd ps sp) (hr : Room k X.A) (hg : Gl X x) (hm : X.mg x = some (.ref f)) (hk : PySem.W.keepIn X.K (.ref f) = true) (hb : Binds X.K fd ps ds) (hd : Vals dvs ds) (hx : Passes CX X E)
    (ha : PA X (e :: es) t) (hdb : (x == ("__debug__" : Str)) = false := by decide) (he : starEach (e :: es) X.env = (false, eval e X.env) :: starEach es X.env := by rfl) (hpl : (backTo pos (starEach es X.env)).any (·.1) = false := by rfl) :
    PE X (.Call (.Name x p) (e :: es) [] pos) (tCall sp dvs E t) := by
  intro pins s σ H Q I h
  refine wpAny_Call_Name_kw (ld_glob I hg hm ?_ hdb)
  refine PySem.W.callWith_K (h₀ := X.base) I.ok.mod.kin hk (thn (ha pos pins s σ H _ I h) fun us s1 ⟨vs, H1, I1, r, q⟩ => ⟨I1.kIn, ?_⟩) he hpl
  exact run_fn F hr hb hd hx I1 r q
structure Mk (K : PySem.W.Frag) (C f : Addr) : Prop where
  makes : PySem.W.makesIn K C = true
  init : PySem.W.findIn K (.ref C) "__init__" = some (some (.ref f))
  fn : PySem.W.isFn K (.ref f) = true
  kp : PySem.W.keepIn K (.ref C) = true
theorem run_make {pins : List (Addr × Obj)} {σ : St} {H : Hp} {s : Shared} {Q : VK} {us : List Value} {vs : List V} (M : Mk X.K C f) (F : FnOk X.prog X.w X.K X.mg X.base CX k f fd ps sp) (hr : Room (k + 1) X.A) (hb : Binds X.K fd ps ds) (hd : Vals dvs ds)
    (hx : Passes CX X E) (I : Inv X pins σ H s) (r : Vals vs us)
    (h : ∀ x dx, H x = none → H dx = none → dx ≠ x → sp (.ref x :: (vs ++ dvs)) (upd (upd H dx (.own x)) x (.ins C dx [])) (fun v H2 => v = .non ∧ Q (.ref x) H2) E) :
    wpAny (model X.prog X.w) X.A (call (.ref C) us) (EP X pins σ Q) X.xe s := by
  have hq := h (s.heap.objs.size + 1) s.heap.objs.size (I.hok.fresh (Nat.le_succ _)) (I.hok.fresh (Nat.le_refl _)) (Nat.ne_of_lt (Nat.lt_succ_self _))
  have I2 := Inv.made (C := C) I
  have r2 : Vals (V.ref (s.heap.objs.size + 1) :: (vs ++ dvs)) (Value.ref (s.heap.objs.size + 1) :: (us ++ ds)) := .cons rfl (r.append hd)
  have hl : (Value.ref (s.heap.objs.size + 1) :: us ++ ds).length = ps.length := by
    have e := r2.length
    rw [F.len _ _ _ _ hq] at e
    exact e.symm
  refine wpAny_call (make_map (f := f) I.kIn M.makes M.init (beq_iff_eq.mp M.fn) (codeAny_mono (F.run _ X.stack _ _ ⟨Value.ref (s.heap.objs.size + 1) :: us, []⟩ (Value.ref (s.heap.objs.size + 1) :: (us ++ ds)) _ _ E (hr.make C us [])
    (I2.env0.make C us []) (hb _ (Value.ref (s.heap.objs.size + 1) :: us) I2.kIn hl) r2 hq) fun r s' hq' => ?_))
  cases r with
  | error e => exact hx pins σ _ _ e s' I2 hq'
  | ok fl =>
    cases fl with
    | ret u =>
      obtain ⟨v, H', I3, rv, ev, q3⟩ := I2.after hq'
      subst ev
      exact ⟨rv, ⟨V.ref (s.heap.objs.size + 1), H', I3, rfl, q3⟩⟩
    | next => exact False.elim hq'
    | brk => exact False.elim hq'
    | cont => exact False.elim hq'
theorem pe_make (M : Mk X.K C f) (F : FnOk X.prog X.w X.K X.mg X.base CX k f fd ps sp) (hr : Room (k + 1) X.A) (hg : Gl X x) (hm : X.mg x = some (.ref C)) (hb : Binds X.K fd ps ds) (hd : Vals dvs ds) (hx : Passes CX X E)
    (ha : PA X (e :: es) t) (hdb : (x == ("__debug__" : Str)) = false := by decide) (he : starEach (e :: es) X.env = (false, eval e X.env) :: starEach es X.env := by rfl) (hpl : (backTo pos (starEach es X.env)).any (·.1) = false := by rfl) :
    PE X (.Call (.Name x p) (e :: es) [] pos) (tMake C sp dvs E t) := by
  intro pins s σ H Q I h
  refine wpAny_Call_Name_kw (ld_glob I hg hm ?_ hdb)
  refine PySem.W.callWith_K (h₀ := X.base) I.ok.mod.kin M.kp (thn (ha pos pins s σ H _ I h) fun us s1 ⟨vs, H1, I1, r, q⟩ => ⟨I1.kIn, ?_⟩) he hpl
  exact run_make M F hr hb hd hx I1 r q
end
section
variable {X : Cx} {CX : CXT} {k : Nat} {f C : Addr} {fd : FuncData} {ps ks : List Str} {sp : Sp} {E : XK} {x m : Str} {p pos apos kpos : Pos} {e o : Expr} {es : List Expr} {kws : List Keyword} {te ta : TE} {t tk : TA} {nm : Option Str}
structure KBinds (K : PySem.W.Frag) (fd : FuncData) (ps ks : List Str) (g : List Value → List Value → List Value) (gV : List V → List V → List V) : Prop where
  to : ∀ (s : Shared) (us ws : List Value), K.In s.heap → (g us ws).length = ps.length → BindsTo s fd ⟨us, ks.zip ws⟩ (ps.zip (g us ws))
  rel : ∀ {vs : List V} {us : List Value} {zs : List V} {ws : List Value}, Vals vs us → Vals zs ws → Vals (gV vs zs) (g us ws)
variable {g : List Value → List Value → List Value} {gV : List V → List V → List V}
end
structure FnScope (N P : List Str) (sc : Scope) : Prop where
  kind : sc.kind = .function
  co : sc.isCoroutine = false
  gen : sc.isGenerator = false
  nd : N.Nodup
  pre : N.take P.length = P
  par : ∀ x ∈ P, sc.names.lookup x = some .local ∨ sc.names.lookup x = some .cell
  nofree : ∀ y ∈ sc.names, y.2 ≠ .free
theorem bindL_out {kindOf : Str → Option NameKind} {x : Str} : ∀ {binds : List (Str × Value)} {m : Str → Option Value}, (∀ v, (x, v) ∉ binds) → bindL kindOf binds m x = m x
  | [], _, _ => rfl
  | (n, v) :: r, m, h => by
    unfold bindL
    rw [bindL_out fun w hw => h w (List.mem_cons_of_mem _ hw)]
    split
    · have : x ≠ n := by rintro rfl; exact h v List.mem_cons_self
      simp [this]
    · rfl
theorem bindC_out {kindOf : Str → Option NameKind} {x : Str} : ∀ {binds : List (Str × Value)} {m : Str → Option Value}, (∀ v, (x, v) ∉ binds) → bindC kindOf binds m x = m x
  | [], _, _ => rfl
  | (n, v) :: r, m, h => by
    unfold bindC
    rw [bindC_out fun w hw => h w (List.mem_cons_of_mem _ hw)]
    split
    · rfl
    · have : x ≠ n := by rintro rfl; exact h v List.mem_cons_self
      simp [this]
theorem bindL_get {kindOf : Str → Option NameKind} {x : Str} {v : Value} : ∀ {P : List Str} {vs : List Value} {i : Nat} {m : Str → Option Value}, P.Nodup → P[i]? = some x → vs[i]? = some v → kindOf x = some .local →
    bindL kindOf (P.zip vs) m x = some v
  | [], _, _, _, _, h, _, _ => by simp at h
  | _ :: _, [], _, _, _, _, h, _ => by simp at h
  | p :: P, w :: vs, 0, m, nd, h1, h2, hk => by
    simp at h1 h2; subst h1; subst h2
    show bindL kindOf ((p, w) :: P.zip vs) m p = _
    unfold bindL
    rw [bindL_out fun v hv => (List.nodup_cons.mp nd).1 (List.of_mem_zip hv).1, if_pos hk]
    simp
  | p :: P, w :: vs, i + 1, m, nd, h1, h2, hk => by
    show bindL kindOf ((p, w) :: P.zip vs) m x = _
    unfold bindL
    exact bindL_get (i := i) (List.nodup_cons.mp nd).2 (by simpa using h1) (by simpa using h2) hk
theorem bindC_get {kindOf : Str → Option NameKind} {x : Str} {v : Value} : ∀ {P : List Str} {vs : List Value} {i : Nat} {m : Str → Option Value}, P.Nodup → P[i]? = some x → vs[i]? = some v → kindOf x ≠ some .local →
    bindC kindOf (P.zip vs) m x = some v
  | [], _, _, _, _, h, _, _ => by simp at h
  | _ :: _, [], _, _, _, _, h, _ => by simp at h
  | p :: P, w :: vs, 0, m, nd, h1, h2, hk => by
    simp at h1 h2; subst h1; subst h2
    show bindC kindOf ((p, w) :: P.zip vs) m p = _
    unfold bindC
    rw [bindC_out fun v hv => (List.nodup_cons.mp nd).1 (List.of_mem_zip hv).1, if_neg hk]
    simp
  | p :: P, w :: vs, i + 1, m, nd, h1, h2, hk => by
    show bindC kindOf ((p, w) :: P.zip vs) m x = _
    unfold bindC
    exact bindC_get (i := i) (List.nodup_cons.mp nd).2 (by simpa using h1) (by simpa using h2) hk
def start (N : List Str) (vs : List V) : St := vs.map some ++ List.replicate (N.length - vs.length) none
def cxOf (CX : CXT) (P : Program) (w : World) (K : PySem.W.Frag) (mg : Str → Option Value) (base : Heap) (N : List Str) (qual : Str) (scope : Scope) (f : Addr) (cd : Value) (A : Around) (outer : List Env) (s : Shared) (H : Hp) (E : XK) : Cx where
  prog := P
  w := w
  K := K
  mg := mg
  base := base
  A := A.deeper (envOfC qual scope s.heap.objs.size f cd)
  N := N
  s₀ := s
  H₀ := H
  env := envOfC qual scope s.heap.objs.size f cd
  outer := outer
  stack := envOfC qual scope s.heap.objs.size f cd :: outer
  ex := []
  calm := true
  fn := fun _ => true
  pn := []
  xe := fun e s' => wpAny (model P w) (A.deeper (envOfC qual scope s.heap.objs.size f cd)) (leaving (envOfC qual scope s.heap.objs.size f cd) e) (fun _ s'' => CX outer H s E e s'') (fun e' s'' => CX outer H s E e' s'') s'
theorem cell_has {sc : Scope} {n : Nat} {x : Str} (h : sc.names.lookup x = some .cell) : ∃ c, (cellsFrom n sc.names []).lookup x = some c := by
  have q := PySem.W.cellsFrom_some sc.names n [] (.inl h)
  exact Option.isSome_iff_exists.mp q
theorem inv_start {CX : CXT} {P : Program} {w : World} {K : PySem.W.Frag} {mg : Str → Option Value} {base : Heap} {N ps : List Str} {qual : Str} {scope : Scope} {f : Addr} {cd : Value} {A : Around} {outer : List Env} {s s1 : Shared} {H : Hp} {E : XK} {us : List Value} {vs : List V}
    (S : FnScope N ps scope) (hd : A.handled = none) (e0 : Env0 P w K mg base A outer s H) (hl : vs.length = ps.length) (r : Vals vs us)
    (x : InCallC s s.heap.objs.size (bindL (envOfC qual scope s.heap.objs.size f cd).kindOf (ps.zip us) fun _ => none) (cellsFrom (s.heap.objs.size + 1) scope.names []) (bindC (envOfC qual scope s.heap.objs.size f cd).kindOf (ps.zip us) fun _ => none) s1) :
    Inv (cxOf CX P w K mg base N qual scope f cd A outer s H E) [] (start N vs) H s1 := by
  have hpl : ps.length ≤ N.length := by have := congrArg List.length S.pre; rw [List.length_take] at this; omega
  obtain ⟨h1, tk, rfl, hk⟩ := x.done
  have noA : ∀ b : Addr, b ∉ (cxOf CX P w K mg base N qual scope f cd A outer s H E).ex := fun b z => absurd (show b ∈ ([] : List Addr) from z) (by simp)
  refine ⟨⟨e0.mod, S.kind, rfl, rfl, Nat.le_refl _, fun y z c h1 h2 => ?_, fun y hy => ?_, fun y c _ h => ?_, fun _ => hd, Around.frames_deeper e0.frames, .inr ⟨rfl, rfl⟩, fun b z => absurd z (noA b), e0.bs, e0.bsz, fun b _ _ => noA b, fun b z => absurd z (noA b), e0.funs, e0.frf⟩,
    rfl, e0.bare, Un.kept hk, ⟨_, x.toInCall.ns, fun i y v h1 h2 h3 => ?_⟩, fun y c h => ⟨_, x.cell y c h⟩, e0.hok.fresh (Nat.le_refl _), fun y c h => ?_, fun p hp => absurd (show p ∈ ([] : List (Addr × Obj)) from hp) (by simp), e0.hok.kept hk, ?_⟩
  · exact name_of_addr x.apart (PySem.mem_of_lookup h1) (PySem.mem_of_lookup h2)
  · have hy : scope.names.lookup y = some .cell ∨ scope.names.lookup y = some .free := hy
    rcases hy with hy | hy
    · exact cell_has hy
    · exact absurd rfl (S.nofree _ (PySem.mem_of_lookup hy))
  · exact Nat.le_of_lt (x.above y c (PySem.mem_of_lookup h))
  · have hi : i < vs.length := by
      unfold start at h2
      by_cases hi : i < vs.length
      · exact hi
      · rw [List.getElem?_append_right (by simpa using hi)] at h2
        rw [List.getElem?_replicate] at h2
        split at h2 <;> cases h2
    have ha : vs[i]? = some v := by
      unfold start at h2
      rw [List.getElem?_append_left (by simpa using hi), List.getElem?_map] at h2
      cases e : vs[i]? with
      | none => rw [e] at h2; cases h2
      | some a => rw [e] at h2; cases h2; rfl
    obtain ⟨u, hu, rv⟩ := r.get ha
    have hp : ps[i]? = some y := by
      rw [← S.pre, List.getElem?_take_of_lt (by omega)]; exact h1
    have ndP : ps.Nodup := by rw [← S.pre]; exact S.nd.sublist (List.take_sublist _ _)
    refine ⟨u, rv, ?_⟩
    rcases S.par y (List.mem_of_getElem? hp) with k | k
    · exact .inl ⟨k, bindL_get ndP hp hu k⟩
    · obtain ⟨c, e⟩ := cell_has (n := s.heap.objs.size + 1) k
      refine .inr ⟨.inl k, c, e, ?_⟩
      have q := x.cell y c e
      rw [bindC_get ndP hp hu (by show scope.names.lookup y ≠ _; rw [k]; decide)] at q
      exact q
  · exact e0.hok.fresh (Nat.le_of_lt (x.above y c (PySem.mem_of_lookup h)))
  · unfold start
    show _ = N.length
    rw [List.length_append, List.length_map, List.length_replicate]
    omega
theorem fn_of {CX : CXT} {P : Program} {w : World} {K : PySem.W.Frag} {mg : Str → Option Value} {base : Heap} {k : Nat} {f : Addr} {name qual : Str} {params : Arguments} {body : List Stmt} {scope : Scope} {dV kV doc pm cdv ct oc : Value} {an od : Option Addr}
    {osl : Array (Option Value)} {N ps : List Str} {sp : Sp} (lk : K.lookup f = some ⟨oc, od, .func (PySem.W.fnOf name qual params body scope dV kV doc pm an cdv ct), osl⟩) (hcd : PySem.W.codeIn K cdv qual = true) (S : FnScope N ps scope)
    (len : ∀ vs H Q E, sp vs H Q E → vs.length = ps.length)
    (hbody : ∀ (A : Around) (outer : List Env) (s : Shared) (H : Hp) (vs : List V) (Q : VK) (E : XK), Room k (A.deeper (envOfC qual scope s.heap.objs.size f cdv)) → sp vs H Q E →
      ∃ t, PSs (cxOf CX P w K mg base N qual scope f cdv A outer s H E) body t ∧ t { nx := fun _ H' => Q .non H', rt := Q } (start N vs) H) :
    FnOk P w K mg base CX (k + 1) f (PySem.W.fnOf name qual params body scope dV kV doc pm an cdv ct) ps sp := by
  refine ⟨len, fun A outer s H args us vs Q E hr e0 hb r hsp => ?_⟩
  have hl := len _ _ _ _ hsp
  have KX : K.In s.heap := e0.mod.kin.keeps fun b o e => (e0.bs b o e).1
  have lim : s.heap.NoLimit := e0.mod.nolimit.keeps fun b o e => (e0.bs b o e).1
  have hkind : ∀ y ∈ ps.zip us, scope.names.lookup y.1 = some .local ∨ (scope.names.lookup y.1 = some .cell ∧ ((cellsFrom (s.heap.objs.size + 1) scope.names []).lookup y.1).isSome = true) := fun ⟨n, v⟩ hy => by
    rcases S.par n (List.of_mem_zip hy).1 with q | q
    · exact .inl q
    · exact .inr ⟨q, PySem.W.cellsFrom_some _ _ _ (.inl q)⟩
  refine codeAny_call_function hr.depth (KX _ _ lk) rfl S.co S.gen rfl (PySem.W.codeRec_of KX hcd) (hb _ _ _ _ ?_)
  refine wpAny_newFunctionEnv_cells S.kind hkind fun env he s1 x => ?_
  subst he
  refine ⟨lim.keeps x.toInCall.keep, codeAny_func ?_⟩
  obtain ⟨t, ht, hq⟩ := hbody A outer s H vs Q E (hr.deeper _) hsp
  have I : Inv (cxOf CX P w K mg base N qual scope f cdv A outer s H E) [] (start N vs) H s1 := inv_start S hr.hd e0 hl r x
  refine wpAny_mono (ht [] s1 (start N vs) H _ I hq) (fun fl s' hs => ?_) fun e s' hs => hs
  have fin : ∀ {σ' : St} {H' : Hp} {v : V} {u : Value}, Inv (cxOf CX P w K mg base N qual scope f cdv A outer s H E) [] σ' H' s' → RelV v u → Q v H' → CE outer P w H s Q u s' :=
    fun {σ' H' v u} J rv q => ⟨v, H', J.os, J.bare, J.base, J.hok, rv, q⟩
  cases fl with
  | ret u =>
    obtain ⟨v, σ', H', J, rv, q⟩ := hs
    exact fin J rv q
  | next =>
    obtain ⟨σ', H', J, q⟩ := hs
    exact fin (v := V.non) (u := Value.none) J rfl q
  | brk =>
    obtain ⟨_, _, _, q⟩ := hs
    exact False.elim q
  | cont =>
    obtain ⟨_, _, _, q⟩ := hs
    exact False.elim q
end L2
namespace L2
open PySem PySem.Spec PyProof.Rows
section
variable {X : Cx} {x : Str} {p pos : Pos} {e : Expr} {es : List Expr} {t : TA} {id T : String} {r : List V → Hp → VK → Prop}
def tCB (r : List V → Hp → VK → Prop) (t : TA) : TE := fun σ H Q => t σ H fun vs H1 => r vs H1 Q
theorem pe_callB (hc : CallR X (.builtin id) r) (hg : Gl X x) (hm : X.mg x = none) (hv : bootBuiltins x = some (.builtin id)) (ha : PA X (e :: es) t) (hn : x ≠ "__name__" := by decide) (hdb : (x == ("__debug__" : Str)) = false := by decide)
    (he : starEach (e :: es) X.env = (false, eval e X.env) :: starEach es X.env := by rfl) (hpl : (backTo pos (starEach es X.env)).any (·.1) = false := by rfl) : PE X (.Call (.Name x p) (e :: es) [] pos) (tCB r t) := by
  intro pins s σ H Q I h
  refine wpAny_Call_Name_kw (ld_blt I hg hm hv ?_ hn hdb)
  exact PyProof.Rows.callWith_builtin1 (thn (ha pos pins s σ H _ I h) fun us s1 ⟨vs, H1, I1, r1, q1⟩ => hc pins s1 σ H1 vs us Q I1 r1 q1) he hpl
theorem pe_callTy (hc : CallR X (.type T) r) (hg : Gl X x) (hm : X.mg x = none) (hv : bootBuiltins x = some (.type T)) (ha : PA X (e :: es) t) (hn : x ≠ "__name__" := by decide) (hdb : (x == ("__debug__" : Str)) = false := by decide)
    (he : starEach (e :: es) X.env = (false, eval e X.env) :: starEach es X.env := by rfl) (hpl : (backTo pos (starEach es X.env)).any (·.1) = false := by rfl) : PE X (.Call (.Name x p) (e :: es) [] pos) (tCB r t) := by
  intro pins s σ H Q I h
  refine wpAny_Call_Name_kw (ld_blt I hg hm hv ?_ hn hdb)
  exact PyProof.Rows.callWith_type1 (thn (ha pos pins s σ H _ I h) fun us s1 ⟨vs, H1, I1, r1, q1⟩ => hc pins s1 σ H1 vs us Q I1 r1 q1) he hpl
end
end L2
namespace HT
open PySem PyProof.Rows
section
open PySem.SeqAt
open PySem.AutoSeq1 (wpAny_loadPart')
open PySem.MeetsSeq PySem.MeetsSeq2 PySem.MeetsSeq3
end
section
variable {prog : Program} {w : World} {A : Around} {E : Value → Shared → Prop} {s : Shared}
theorem cat_tup {t b : Addr} {vs ws : List Value} {Q : Value → Shared → Prop} (ht : IsTup s.heap t vs.toArray) (hb : IsTup s.heap b ws.toArray) (hv : vs ≠ [])
    (h1 : ws = [] → Q (.ref t) s) (h2 : ws ≠ [] → Q (.ref s.heap.objs.size) { s with heap := s.heap.push { cls := .type "tuple", data := .seq (vs ++ ws).toArray } })
    (hsz : vs.length + ws.length ≤ sizeLine) : wpAny (model prog w) A (binaryOp .Add (.ref t) (.ref b)) Q E s := by
  obtain ⟨⟨cls, dd, data, sl⟩, ho, hc, n, hd⟩ := id ht
  obtain ⟨⟨cls2, dd2, data2, sl2⟩, ho2, hc2, n2, hd2⟩ := id hb
  simp only at hc hd hc2 hd2
  subst hc hd hc2 hd2
  have e : vs.toArray ++ ws.toArray = (vs ++ ws).toArray := by simp
  by_cases hw : ws = []
  · exact concat_meets ⟨_, ho, rfl⟩ ⟨_, ho2, rfl⟩ noFill_tuple_add seq_tuple_add PySem.F.slot_tuple_add PySem.F.entry_tuple_add (PySem.F.args_tuple_add_2 _ _)
      (tuple_addW1 t b vs.toArray ws.toArray n n2 dd dd2 sl sl2 (by simpa using hv) (by simp [hw])) ⟨ho, ho2, h1 hw⟩
  · refine concat_meets ⟨_, ho, rfl⟩ ⟨_, ho2, rfl⟩ noFill_tuple_add seq_tuple_add PySem.F.slot_tuple_add PySem.F.entry_tuple_add (PySem.F.args_tuple_add_2 _ _)
      (tuple_addW2 t b vs.toArray ws.toArray n n2 dd dd2 sl sl2 (by simpa using hv) (by simpa using hw) (by rw [List.size_toArray, List.size_toArray]; exact hsz)) ⟨ho, ho2, ?_⟩
    rw [e]
    exact h2 hw
def sIx (n d : Nat) : Option Int → Nat
  | none => d
  | some v => if v < 0 then (v + (n : Int)).toNat else min v.toNat n
theorem sIx_none (n d : Nat) : sIx n d none = d := rfl
theorem sIx_nat (n d k : Nat) : sIx n d (some (k : Int)) = min k n := by
  show (if (k : Int) < 0 then ((k : Int) + (n : Int)).toNat else min (k : Int).toNat n) = min k n
  rw [if_neg (by omega), Int.toNat_natCast]
theorem sIx_le (n d : Nat) (hd : d ≤ n) (o : Option Int) : sIx n d o ≤ n := by
  cases o with
  | none => exact hd
  | some v =>
    show (if v < 0 then (v + (n : Int)).toNat else min v.toNat n) ≤ n
    by_cases hv : v < 0
    · rw [if_pos hv]; omega
    · rw [if_neg hv]; exact Nat.min_le_right _ _
theorem clip_eq (v : Int) (n d : Nat) : (if v < 0 then max (v + (n : Int)) 0 else min v (n : Int)) = ((sIx n d (some v) : Nat) : Int) := by
  show (if v < 0 then max (v + (n : Int)) 0 else min v (n : Int)) = (((if v < 0 then (v + (n : Int)).toNat else min v.toNat n) : Nat) : Int)
  by_cases hv : v < 0
  · simp only [if_pos hv]; omega
  · simp only [if_neg hv]; omega
theorem adjust_gen (lo hi : Option Int) (n : Nat) : Builtin.Slice.sliceAdjust lo hi 1 (n : Int) = (((sIx n 0 lo : Nat) : Int), ((sIx n n hi : Nat) : Int)) := by
  have h1 : ¬ ((1 : Int) < 0) := by omega
  unfold Builtin.Slice.sliceAdjust
  simp only [h1, if_false]
  refine Prod.ext ?_ ?_
  · cases lo with
    | none => rfl
    | some v => exact clip_eq v n 0
  · cases hi with
    | none => rfl
    | some v => exact clip_eq v n n
theorem places_gen (i j : Nat) : Builtin.Slice.slicePlaces (i : Int) (j : Int) 1 = j - i := by
  unfold Builtin.Slice.slicePlaces
  have h1 : (1 : Int) > 0 := by omega
  simp only [h1, if_true, Int.ediv_one]
  split <;> omega
theorem slicePart_ {v : Value} {o : Option Int} {Q : Option Int → Shared → Prop} (p : IsPart v o) (h : Q o s) : wpAny (model prog w) A (Builtin.Slice.slicePartIndex v) Q E s := by
  cases p with
  | none => exact slicePart_none h
  | int i t => exact slicePart_int h
theorem sliceApplied_gen {sl : Addr} {vl vu : Value} {lo hi : Option Int} {n : Nat} {Q : Int × Int × Nat → Shared → Prop} (hs : s.heap.IsSliceOf sl vl vu .none) (pl : IsPart vl lo) (pu : IsPart vu hi)
    (h : Q (((sIx n 0 lo : Nat) : Int), 1, sIx n n hi - sIx n 0 lo) s) : wpAny (model prog w) A (Builtin.Slice.sliceApplied (.ref sl) (pure (n : Int))) Q E s := by
  obtain ⟨os, hos, hcs, hds⟩ := id hs
  unfold Builtin.Slice.sliceApplied Builtin.Slice.sliceFields
  refine wpAny_bind (wpAny_bind (wpAny_field hos hds (x := vl) rfl (wpAny_bind (wpAny_field hos hds (x := vu) rfl (wpAny_bind (wpAny_field hos hds (x := .none) rfl (wpAny_pure ?_)))))))
  refine wpAny_bind (slicePart_none ?_)
  show wpAny _ _ (if ((1 : Int) == 0) = true then _ else _) _ _ s
  rw [if_neg (by decide)]
  refine wpAny_bind (slicePart_ pl (wpAny_bind (slicePart_ pu (wpAny_bind (wpAny_pure ?_)))))
  show wpAny _ _ (match Builtin.Slice.sliceAdjust lo hi 1 (n : Int) with | (lo, hi) => pure (lo, (1 : Int), Builtin.Slice.slicePlaces lo hi 1)) _ _ s
  rw [adjust_gen lo hi n]
  show wpAny _ _ (pure (((sIx n 0 lo : Nat) : Int), (1 : Int), Builtin.Slice.slicePlaces ((sIx n 0 lo : Nat) : Int) ((sIx n n hi : Nat) : Int) 1)) _ _ s
  rw [places_gen]
  exact wpAny_pure h
theorem pick_gen (xs : Array Value) (i k : Nat) : ((List.range k).filterMap fun (m : Nat) => xs[((i : Int) + (m : Int) * 1).toNat]?).toArray = ((xs.toList.drop i).take k).toArray := by
  have e : (fun (m : Nat) => xs[((i : Int) + (m : Int) * 1).toNat]?) = fun m => xs[i + m]? := by
    funext m
    have : ((i : Int) + (m : Int) * 1).toNat = i + m := by omega
    rw [this]
  rw [e]
  have := pick_run xs i k
  rw [List.filterMap_map] at this
  have e2 : ((fun x => xs[x]?) ∘ fun x => i + x) = fun m => xs[i + m]? := rfl
  rw [e2] at this
  rw [this]
theorem getItem_tuple_cut {t sl : Addr} {items : Array Value} {vl vu : Value} {lo hi : Option Int} {Q : Value → Shared → Prop} (ht : IsTup s.heap t items) (hs : s.heap.IsSliceOf sl vl vu .none) (pl : IsPart vl lo) (pu : IsPart vu hi)
    (hw : ¬ (sIx items.size 0 lo = 0 ∧ sIx items.size items.size hi = items.size))
    (h : Q (.ref s.heap.objs.size) { s with heap := s.heap.push { cls := .type "tuple", data := .seq ((items.toList.drop (sIx items.size 0 lo)).take (sIx items.size items.size hi - sIx items.size 0 lo)).toArray } })
    (hsz : items.size ≤ sizeLine) : wpAny (model prog w) A (getItem (.ref t) (.ref sl)) Q E s := by
  have htake : sizeOk (.seq ((items.toList.drop (sIx items.size 0 lo)).take (sIx items.size items.size hi - sIx items.size 0 lo)).toArray) := by
    show ((items.toList.drop (sIx items.size 0 lo)).take (sIx items.size items.size hi - sIx items.size 0 lo)).toArray.size ≤ sizeLine
    rw [List.size_toArray, List.length_take, List.length_drop, Array.length_toList]
    omega
  have hj : sIx items.size items.size hi ≤ items.size := sIx_le _ _ (Nat.le_refl _) hi
  obtain ⟨os, hos, hcs, hds⟩ := id hs
  have hTs : s.TypeIs (.ref sl) "slice" := ⟨os, hos, hcs⟩
  unfold getItem
  try with_reducible refine wpAny_holding ?_
  first | refine wpAny_bind (wpAny_pure ?_) | skip
  refine wpAny_bind (wpAny_sequenceKey ht.typeIs (by decide) ?_)
  refine wpAny_bind (wpAny_callSpecial?_slot (name := Str.ofString "__getitem__") ht.typeIs PyProof.Rows.slot_tuple_getitem
    (wpAny_call_entry PyProof.Rows.slot_tuple_getitem ht.typeIs entry_tuple_getitem ?_ (args_tuple_getitem _ _)))
  show wpAny _ _ (Builtin.Tuple.tupleItemsOf (.ref t) >>= _) _ _ s
  refine wpAny_bind (tupleItemsOf_ ht ?_)
  refine wpAny_bind (wpAny_typeOf hTs ?_)
  rw [if_pos (by decide)]
  refine wpAny_bind (sliceApplied_gen hs pl pu ?_)
  have hno : ¬ ((((sIx items.size 0 lo : Nat) : Int) == 0 && (1 : Int) == 1 && (sIx items.size items.size hi - sIx items.size 0 lo) == items.size) = true) := by
    intro q
    rw [Bool.and_eq_true, Bool.and_eq_true] at q
    have q1 : ((sIx items.size 0 lo : Nat) : Int) = 0 := eq_of_beq q.1.1
    have q2 : sIx items.size items.size hi - sIx items.size 0 lo = items.size := eq_of_beq q.2
    exact hw ⟨by omega, by omega⟩
  show wpAny _ _ (if (((sIx items.size 0 lo : Nat) : Int) == 0 && (1 : Int) == 1 && (sIx items.size items.size hi - sIx items.size 0 lo) == items.size) = true then _ else _) _ _ s
  rw [if_neg hno, pick_gen]
  first
    | exact wpAny_bind (m := Builtin.Tuple.tupleExact _) (wpAny_newObj_type (wpAny_pure ⟨_, rfl, wpAny_pure h⟩) htake)
    | exact wpAny_bind (m := Builtin.Tuple.tupleExact _) (wpAny_newObj_type (wpAny_bind (wpAny_pure (wpAny_pure ⟨_, rfl, wpAny_pure h⟩))) htake)
    | exact wpAny_bind (wpAny_bind (m := Builtin.Tuple.tupleExact _) (wpAny_newObj_type (wpAny_pure (wpAny_pure ⟨_, rfl, wpAny_pure h⟩)) htake))
    | exact wpAny_bind (wpAny_bind (m := Builtin.Tuple.tupleExact _) (wpAny_newObj_type (wpAny_pure ⟨_, rfl, wpAny_pure h⟩) htake))
end
end HT
namespace L2
open PySem PySem.Spec PyProof.Rows
abbrev TO := St → Hp → (Option Int → Hp → Prop) → Prop
def PO (X : Cx) (e : Option Expr) (t : TO) : Prop :=
  ∀ (pins : List (Addr × Obj)) (s : Shared) (σ : St) (H : Hp) (Q : Option Int → Hp → Prop), Inv X pins σ H s → t σ H Q →
    wpAny (model X.prog X.w) X.A (evalPart e X.env) (fun u s' => ∃ o H', Inv X pins σ H' s' ∧ IsPart u o ∧ Q o H') X.xe s
def tNoPart : TO := fun _ H Q => Q none H
def tPart (t : TE) : TO := fun σ H Q => t σ H fun x H1 => ∃ i, x = .int i ∧ Q (some i) H1
section
variable {X : Cx} {e : Expr} {te : TE} {lo hi : Option Expr} {tl th : TO} {pos p2 : Pos}
theorem po_none : PO X none tNoPart := by
  intro pins s σ H Q I h
  rw [evalPart_none]
  exact wpAny_pure ⟨none, H, I, .none, h⟩
theorem po_some (h : PE X e te) : PO X (some e) (tPart te) := by
  intro pins s σ H Q I hw
  rw [evalPart_some]
  refine thn (h pins s σ H _ I hw) ?_
  rintro u s1 ⟨x, H1, I1, r1, q1⟩
  obtain ⟨i, rfl, q⟩ := q1
  obtain ⟨t, rfl⟩ := r1
  exact ⟨some i, H1, I1, .int i t, q⟩
def SlR (X : Cx) (r : V → Option Int → Option Int → Hp → VK → Prop) : Prop :=
  ∀ (pins : List (Addr × Obj)) (s : Shared) (σ : St) (H : Hp) (x : V) (v vl vu : Value) (lo hi : Option Int) (sl : Addr) (Q : VK), Inv X pins σ H s → RelV x v → s.heap.IsSliceOf sl vl vu .none → IsPart vl lo → IsPart vu hi → r x lo hi H Q →
    ∃ T id, typeLookup (.type T) "__getitem__" = pure (some (.builtin id)) ∧ s.TypeIs v T ∧ wpAny (model X.prog X.w) X.A (getItem v (.ref sl)) (EP X pins σ Q) X.xe s
theorem SlR.or {r r' : V → Option Int → Option Int → Hp → VK → Prop} (h : SlR X r) (h' : SlR X r') : SlR X (fun x lo hi H Q => r x lo hi H Q ∨ r' x lo hi H Q) := by
  intro pins s σ H x v vl vu lo hi sl Q I rx hs pl pu q
  rcases q with q | q
  · exact h pins s σ H x v vl vu lo hi sl Q I rx hs pl pu q
  · exact h' pins s σ H x v vl vu lo hi sl Q I rx hs pl pu q
def tSl (r : V → Option Int → Option Int → Hp → VK → Prop) (te : TE) (tl th : TO) : TE := fun σ H Q => te σ H fun x H1 => tl σ H1 fun l H2 => th σ H2 fun u H3 => r x l u H3 Q
theorem pe_slice {r : V → Option Int → Option Int → Hp → VK → Prop} (hr : SlR X r) (he : PE X e te) (hl : PO X lo tl) (hu : PO X hi th) : PE X (.Subscript e (.Slice lo hi none p2) pos) (tSl r te tl th) := by
  intro pins s σ H Q I h
  refine Subscript_ (thn (he pins s σ H _ I h) ?_)
  rintro v s1 ⟨x, H1, I1, r1, q1⟩
  refine wpAny_Slice (thn (hl pins s1 σ H1 _ I1 q1) fun vl s2 ⟨l, H2, I2, pl, q2⟩ => thn (hu pins s2 σ H2 _ I2 q2) fun vu s3 ⟨u, H3, I3, pu, q3⟩ => ?_)
  rw [evalPart_none]
  refine wpAny_pure ?_
  have I4 : Inv X pins σ H3 { s3 with heap := s3.heap.push { cls := .type "slice", data := .fields #[vl, vu, .none] } } := I3.kept (t' := s3.toks) fun b ob q => Heap.get?_push_of_some _ q
  obtain ⟨T, id, hT, ht, hg⟩ := hr pins { s3 with heap := s3.heap.push { cls := .type "slice", data := .fields #[vl, vu, .none] } } σ H3 x v vl vu l u s3.heap.objs.size Q I4 r1 (Heap.IsSliceOf.new ..) pl pu q3
  show wpAny (model X.prog X.w) X.A (subscriptTail e (.Slice lo hi none p2) v (.ref s3.heap.objs.size)) (EP X pins σ Q) X.xe { s3 with heap := s3.heap.push { cls := .type "slice", data := .fields #[vl, vu, .none] } }
  exact tail_any (ops := [.ref s3.heap.objs.size, v]) ht hT hg (by with_unfolding_all rfl)
def cutV (xs : List V) (lo hi : Option Int) : List V := (xs.drop (HT.sIx xs.length 0 lo)).take (HT.sIx xs.length xs.length hi - HT.sIx xs.length 0 lo)
theorem cutV_length (xs : List V) (lo hi : Option Int) : (cutV xs lo hi).length ≤ xs.length := by
  unfold cutV
  rw [List.length_take, List.length_drop]
  omega
def rSlT (K : PySem.W.Frag) : V → Option Int → Option Int → Hp → VK → Prop := fun x lo hi H Q => ∃ a xs, x = .ref a ∧ SqT K H a xs ∧
  ¬ (HT.sIx xs.length 0 lo = 0 ∧ HT.sIx xs.length xs.length hi = xs.length) ∧ ∀ p, H p = none → Q (.ref p) (upd H p (.tup (cutV xs lo hi)))
theorem sl_tup : SlR X (rSlT X.K) := by
  intro pins s σ H x v vl vu lo hi sl Q I rx hs pl pu h
  obtain ⟨a, xs, rfl, hx, hw, q⟩ := h
  cases rx
  obtain ⟨its, r, ht, hz⟩ := I.tuple hx
  have hlen : its.toArray.size = xs.length := by rw [List.size_toArray]; exact r.length.symm
  refine ⟨"tuple", _, PyProof.Rows.slot_tuple_getitem.lookup, ht.typeIs, ?_⟩
  refine HT.getItem_tuple_cut ht hs pl pu (by rw [hlen]; exact hw) ?_ (by rw [hlen]; exact hz)
  rw [hlen]
  refine ⟨.ref s.heap.objs.size, _, I.laid (t' := s.toks) (o := .tup (cutV xs lo hi)) (fun b ob q => Heap.get?_push_of_some _ q) (Nat.le_refl _) ?_, rfl, q _ (I.hok.fresh (Nat.le_refl _))⟩
  exact ⟨⟨Nat.le_trans (cutV_length xs lo hi) hz, NoDct.new rfl rfl⟩, _, (r.drop (HT.sIx xs.length 0 lo)).take (HT.sIx xs.length xs.length hi - HT.sIx xs.length 0 lo), IsTup.new _ _⟩
def rCatT (K : PySem.W.Frag) : R2 := fun x y H Q => ∃ a b xs ys, x = .ref a ∧ y = .ref b ∧ SqT K H a xs ∧ SqT K H b ys ∧ xs ≠ [] ∧ xs.length + ys.length ≤ sizeLine ∧
  (ys = [] → Q (.ref a) H) ∧ (ys ≠ [] → ∀ p, H p = none → Q (.ref p) (upd H p (.tup (xs ++ ys))))
theorem Vals.nil_iff {xs : List V} {us : List Value} (r : Vals xs us) : us = [] ↔ xs = [] := by
  cases r with
  | nil => simp
  | cons _ _ => simp
theorem op_catT : OpR X (binaryOp .Add) (rCatT X.K) := by
  intro pins s σ H x y v u Q I rx ry h
  obtain ⟨a, b, xs, ys, rfl, rfl, ha, hb, hx, hz, q1, q2⟩ := h
  cases rx
  cases ry
  obtain ⟨its, r1, p1, _⟩ := I.tuple ha
  obtain ⟨its2, r2, p2, _⟩ := I.tuple hb
  refine HT.cat_tup p1 p2 (fun z => hx (r1.nil_iff.mp z)) (fun z => ⟨.ref a, H, I, rfl, q1 (r2.nil_iff.mp z)⟩) (fun z => ?_) (by rw [← r1.length, ← r2.length]; exact hz)
  refine ⟨.ref s.heap.objs.size, _, I.laid (t' := s.toks) (o := .tup (xs ++ ys)) (fun b ob q => Heap.get?_push_of_some _ q) (Nat.le_refl _) ?_, rfl, q2 (fun w => z (r2.nil_iff.mpr w)) _ (I.hok.fresh (Nat.le_refl _))⟩
  exact ⟨⟨by rw [List.length_append]; exact hz, NoDct.new rfl rfl⟩, _, r1.append r2, IsTup.new _ _⟩
end
end L2
namespace L2
open PySem PySem.Spec PyProof.Rows
def ixN (n : Nat) (i : Int) : Option Nat := if 0 ≤ i then (if i < n then some i.toNat else none) else if -(n : Int) ≤ i then some (i + n).toNat else none
def atI {α : Type} (xs : List α) (i : Int) : Option α := (ixN xs.length i).bind fun j => xs[j]?
theorem ixN_seq {n : Nat} {i : Int} {j : Nat} (h : ixN n i = some j) : seqIndex? i n = some j ∧ j < n ∧ -(n : Int) ≤ i ∧ i < n := by
  unfold ixN at h
  by_cases h0 : 0 ≤ i
  · rw [if_pos h0] at h
    by_cases h1 : i < n
    · rw [if_pos h1] at h
      have e : i.toNat = j := Option.some.inj h
      exact ⟨by rw [seqIndex_of h0 h1, e], by omega, by omega, h1⟩
    · rw [if_neg h1] at h; cases h
  · rw [if_neg h0] at h
    by_cases h1 : -(n : Int) ≤ i
    · rw [if_pos h1] at h
      have e : (i + n).toNat = j := Option.some.inj h
      exact ⟨by rw [seqIndex_neg (by omega) h1, e], by omega, h1, by omega⟩
    · rw [if_neg h1] at h; cases h
theorem atI_get {α : Type} {xs : List α} {i : Int} {v : α} (h : atI xs i = some v) : ∃ j, seqIndex? i xs.length = some j ∧ xs[j]? = some v ∧ j < xs.length ∧ -(xs.length : Int) ≤ i ∧ i < xs.length := by
  unfold atI at h
  cases e : ixN xs.length i with
  | none => rw [e] at h; cases h
  | some j =>
    rw [e] at h
    obtain ⟨h1, h2, h3, h4⟩ := ixN_seq e
    exact ⟨j, h1, h, h2, h3, h4⟩
theorem atI_nat {α : Type} {xs : List α} {j : Nat} {v : α} (h : xs[j]? = some v) : atI xs (j : Int) = some v := by
  have hj : j < xs.length := (List.getElem?_eq_some_iff.mp h).1
  have e : ixN xs.length (j : Int) = some j := by
    unfold ixN
    rw [if_pos (by omega), if_pos (by omega)]; simp
  unfold atI; rw [e]; exact h
def PlainIx (b : Expr) : Prop := ∀ o i, subscripted b false o i = operate [o, i] (getItem o i)
def IxR (X : Cx) (r : R2) : Prop :=
  ∀ (value slice : Expr) (pins : List (Addr × Obj)) (s : Shared) (σ : St) (H : Hp) (x y : V) (v u : Value) (Q : VK), Inv X pins σ H s → RelV x v → RelV y u → r x y H Q →
    subscripted slice false v u = operate [v, u] (getItem v u) → wpAny (model X.prog X.w) X.A (subscriptTail value slice v u) (EP X pins σ Q) X.xe s
def MtR (X : Cx) (id : String) (r : V → List V → Hp → VK → Prop) : Prop :=
  ∀ (pins : List (Addr × Obj)) (s : Shared) (σ : St) (H : Hp) (x : V) (xs : List V) (v : Value) (us : List Value) (Q : VK), Inv X pins σ H s → RelV x v → Vals xs us → r x xs H Q →
    wpAny (model X.prog X.w) X.A (call (.builtin id) (v :: us)) (EP X pins σ Q) X.xe s
section
variable {X : Cx} {a b : Expr} {ta tb : TE} {pos : Pos}
theorem IxR.or {r r' : R2} (h : IxR X r) (h' : IxR X r') : IxR X (fun x y H Q => r x y H Q ∨ r' x y H Q) := by
  intro value slice pins s σ H x y v u Q I rx ry q hs
  rcases q with q | q
  · exact h value slice pins s σ H x y v u Q I rx ry q hs
  · exact h' value slice pins s σ H x y v u Q I rx ry q hs
theorem MtR.or {id : String} {r r' : V → List V → Hp → VK → Prop} (h : MtR X id r) (h' : MtR X id r') : MtR X id (fun x xs H Q => r x xs H Q ∨ r' x xs H Q) := by
  intro pins s σ H x xs v us Q I rx rs q
  rcases q with q | q
  · exact h pins s σ H x xs v us Q I rx rs q
  · exact h' pins s σ H x xs v us Q I rx rs q
theorem pe_ix {r : R2} (hr : IxR X r) (ha : PE X a ta) (hb : PE X b tb) (hs : PlainIx b) : PE X (.Subscript a b pos) (tOp r ta tb) := by
  intro pins s σ H Q I h
  exact Subscript_ (binT ha hb I h fun v u s2 x y H2 I2 rx ry q => hr a b pins s2 σ H2 x y v u Q I2 rx ry q (hs _ _))
def rIxL (K : PySem.W.Frag) : R2 := fun x y H Q => ∃ p xs i v, x = .ref p ∧ y = .int i ∧ SqL K H p xs ∧ atI xs i = some v ∧ Q v H
def rIxT (K : PySem.W.Frag) : R2 := fun x y H Q => ∃ p xs i v, x = .ref p ∧ y = .int i ∧ SqT K H p xs ∧ atI xs i = some v ∧ Q v H
def rIxS : R2 := fun x y H Q => ∃ z i c, x = .str z ∧ y = .int i ∧ z.length ≤ sizeLine ∧ atI z.cps.toList i = some c ∧ Q (.str ⟨#[c]⟩) H
theorem ix_list : IxR X (rIxL X.K) := by
  intro value slice pins s σ H x y v u Q I rx ry h hs
  obtain ⟨p, xs, i, z, rfl, rfl, hq, he, q⟩ := h
  cases rx
  obtain ⟨t, rfl⟩ := ry
  obtain ⟨its, r, pl, hz⟩ := I.list hq
  obtain ⟨j, h1, h2, h3, h4, h5⟩ := atI_get he
  obtain ⟨w, ew, rw'⟩ := r.get h2
  have hl := r.length
  have hn := line63
  have fin : EP X pins σ Q w s := ⟨z, H, I, rw', q⟩
  by_cases h0 : 0 ≤ i
  · have hj : i.toNat = j := by
      rw [seqIndex_of h0 h5] at h1
      exact Option.some.inj h1
    exact item_listR pl.isList h0 (by omega) (by rw [hj]; simpa using ew) fin hs
  · have hj : (i + (its.toArray.size : Int)).toNat = j := by
      rw [seqIndex_neg (by omega) h4] at h1
      rw [List.size_toArray, ← hl]
      exact Option.some.inj h1
    exact subscriptTail_builtinR (x := w) pl.isList.typeIs slot_list_getitem.lookup
      (wpAny_getItem_list_neg (Q := fun r s' => r = w ∧ EP X pins σ Q r s') pl.isList (by omega) (by rw [List.size_toArray] <;> omega) (by omega) (by rw [hj]; simpa using ew) ⟨rfl, fin⟩) hs
theorem ix_tup : IxR X (rIxT X.K) := by
  intro value slice pins s σ H x y v u Q I rx ry h hs
  obtain ⟨p, xs, i, z, rfl, rfl, hq, he, q⟩ := h
  cases rx
  obtain ⟨t, rfl⟩ := ry
  obtain ⟨its, r, pl, hz⟩ := I.tuple hq
  obtain ⟨j, h1, h2, h3, h4, h5⟩ := atI_get he
  obtain ⟨w, ew, rw'⟩ := r.get h2
  have hl := r.length
  have hn := line63
  have fin : EP X pins σ Q w s := ⟨z, H, I, rw', q⟩
  exact subscriptTail_builtinR (x := w) pl.typeIs slot_tuple_getitem.lookup
    (getItem_tuple (j := j) (Q := fun r s' => r = w ∧ EP X pins σ Q r s') pl (by omega) (by omega) (by rw [List.size_toArray, ← hl]; exact h1) (by simpa using ew) ⟨rfl, fin⟩) hs
theorem ix_str : IxR X rIxS := by
  intro value slice pins s σ H x y v u Q I rx ry h hs
  obtain ⟨z, i, c, rfl, rfl, hz, he, q⟩ := h
  obtain ⟨t, rfl⟩ := rx
  obtain ⟨t', rfl⟩ := ry
  obtain ⟨j, h1, h2, h3, h4, h5⟩ := atI_get he
  have hl : z.cps.toList.length = z.length := by simp [Str.length]
  rw [hl] at h1 h4 h5
  have hn := line63
  exact tail_any (typeIs_str s z t) slot_str_getitem.lookup (getItem_str (c := c) (by
    have e1 : decide (i < -(2 ^ 63 : Int)) = false := decide_eq_false (by omega)
    have e2 : decide (i ≥ 2 ^ 63) = false := decide_eq_false (by omega)
    rw [e1, e2, Bool.or_false]) (by rw [h1]; simpa using h2) ⟨.str ⟨#[c]⟩, H, I.tok _, ⟨_, rfl⟩, q⟩) hs
theorem mapSeq_set (its : List Value) (n j : Nat) (u : Value) : Obj.mapSeq (·.setIfInBounds j u) { cls := .type "list", data := .seq its.toArray n } = { cls := .type "list", data := .seq (its.set j u).toArray n } := by
  simp [Obj.mapSeq]
theorem Inv.lst {pins : List (Addr × Obj)} {σ : St} {H : Hp} {s : Shared} {p : Addr} {xs : List V} (I : Inv X pins σ H s) (h : H p = some (.lst xs)) :
    ∃ (its : List Value) (n : Nat), Vals xs its ∧ s.heap.get? p = some { cls := .type "list", data := .seq its.toArray n } ∧ xs.length ≤ sizeLine := by
  obtain ⟨z, its, n, r, e⟩ := I.hok p _ h
  exact ⟨its, n, r, e, z⟩
theorem Inv.lstUpd {pins : List (Addr × Obj)} {σ : St} {H : Hp} {s : Shared} {p : Addr} {xs ys : List V} {its its' : List Value} {n n' : Nat} {f : Obj → Obj} (I : Inv X pins σ H s) (h : H p = some (.lst xs))
    (ho : s.heap.get? p = some { cls := .type "list", data := .seq its.toArray n }) (hf : f { cls := .type "list", data := .seq its.toArray n } = { cls := .type "list", data := .seq its'.toArray n' }) (r : Vals ys its') (hz : ys.length ≤ sizeLine) (t : Nat) :
    Inv X pins σ (upd H p (.lst ys)) { s with heap := s.heap.update p f, toks := t } := by
  have e : (s.heap.update p f).get? p = some { cls := .type "list", data := .seq its'.toArray n' } := by
    rw [Heap.get?_update_self f ho (by rw [hf] <;> rfl), hf]
  refine I.write (x := p) (e := p) (by rw [h]; trivial) (.inl rfl) (fun b u hb q => (Heap.get?_update_other _ _ (Ne.symm hb)).trans q) ⟨_, e⟩ ?_
  exact ⟨hz, its', n', r, e⟩
def rSetL : V → V → V → Hp → (Hp → Prop) → Prop := fun o i v H Q => ∃ p xs k j, o = .ref p ∧ i = .int k ∧ H p = some (.lst xs) ∧ ixN xs.length k = some j ∧ Q (upd H p (.lst (xs.set j v)))
theorem set_list : PSet X rSetL := by
  intro pins s σ H o i v ov iv u Q I ro ri rv h
  obtain ⟨p, xs, k, j, rfl, rfl, hp, hj, q⟩ := h
  cases ro
  obtain ⟨t, rfl⟩ := ri
  obtain ⟨its, n, r, ho, hz⟩ := I.lst hp
  obtain ⟨h1, h2, h3, h4⟩ := ixN_seq hj
  have hl := r.length
  have hn := line63
  have I' : Inv X pins σ (upd H p (.lst (xs.set j v))) { s with heap := s.heap.update p (Obj.mapSeq (·.setIfInBounds j u)) } :=
    I.lstUpd hp ho (mapSeq_set its n j u) (r.set rv j) (by rw [List.length_set]; exact hz) s.toks
  by_cases h0 : 0 ≤ k
  · have hk : k.toNat = j := by
      rw [seqIndex_of h0 h4] at h1
      exact Option.some.inj h1
    exact PySem.W.ki_setAt ho h0 (by omega) (by rw [List.size_toArray, ← hl]; exact h4) (by rw [hk]; exact ⟨_, I', q⟩)
  · have hk : (k + (its.toArray.size : Int)).toNat = j := by
      rw [seqIndex_neg (by omega) h3] at h1
      rw [List.size_toArray, ← hl]
      exact Option.some.inj h1
    exact PySem.W.ki_setBack ho (by omega) (by rw [List.size_toArray, ← hl]; exact h3) (by omega) (by rw [hk]; exact ⟨_, I', q⟩)
theorem slice_bounds (lo hi : Option Int) (n : Nat) : (sliceBounds lo hi none n).1 = ((HT.sIx n 0 lo : Nat) : Int) ∧ (sliceBounds lo hi none n).2.1 = ((HT.sIx n n hi : Nat) : Int) ∧ (sliceBounds lo hi none n).2.2 = 1 := by
  refine ⟨?_, ?_, rfl⟩
  · cases lo with
    | none => simp [sliceBounds, HT.sIx]
    | some i =>
      simp only [sliceBounds, HT.sIx, Option.getD_none, show (1 : Int) > 0 by decide, if_true]
      by_cases h : i < 0
      · simp only [h, if_true] <;> omega
      · simp only [h, if_false] <;> omega
  · cases hi with
    | none => simp [sliceBounds, HT.sIx]
    | some i =>
      simp only [sliceBounds, HT.sIx, Option.getD_none, show (1 : Int) > 0 by decide, if_true]
      by_cases h : i < 0
      · simp only [h, if_true] <;> omega
      · simp only [h, if_false] <;> omega
theorem slicePick_cut (its : List Value) (lo hi : Option Int) : slicePick its.toArray lo hi none = ((its.drop (HT.sIx its.length 0 lo)).take (HT.sIx its.length its.length hi - HT.sIx its.length 0 lo)).toArray := by
  obtain ⟨h1, h2, h3⟩ := slice_bounds lo hi its.toArray.size
  unfold slicePick
  rw [h1, h2, h3]
  simp only [sliceRange_one, pick_run, List.size_toArray] <;> rfl
def rSlL (K : PySem.W.Frag) : V → Option Int → Option Int → Hp → VK → Prop := fun x lo hi H Q => ∃ a xs, x = .ref a ∧ SqL K H a xs ∧ ∀ p, H p = none → Q (.ref p) (upd H p (.lst (cutV xs lo hi)))
theorem sl_list : SlR X (rSlL X.K) := by
  intro pins s σ H x v vl vu lo hi sl Q I rx hs pl pu h
  obtain ⟨a, xs, rfl, hx, q⟩ := h
  cases rx
  obtain ⟨its, r, ht, hz⟩ := I.list hx
  have hlen := r.length
  refine ⟨"list", _, slot_list_getitem.lookup, ht.isList.typeIs, ?_⟩
  refine wpAny_getItem_list_slice ht.isList hs pl pu .none (by simp) ?_ (by rw [List.size_toArray] <;> omega)
  rw [slicePick_cut, ← hlen]
  refine ⟨.ref s.heap.objs.size, _, I.laid (t' := s.toks) (o := .lst (cutV xs lo hi)) (fun b ob q => Heap.get?_push_of_some _ q) (Nat.le_refl _) ?_, rfl, q _ (I.hok.fresh (Nat.le_refl _))⟩
  exact ⟨Nat.le_trans (cutV_length xs lo hi) hz, _, 0, (r.drop (HT.sIx xs.length 0 lo)).take (HT.sIx xs.length xs.length hi - HT.sIx xs.length 0 lo), Heap.get?_push_size _ rfl⟩
def flatV : V → Bool
  | .non => true
  | .bl _ => true
  | .int _ => true
  | .str _ => true
  | _ => false
def eqV : V → V → Bool
  | .non, .non => true
  | .bl a, .bl b => a == b
  | .bl a, .int b => (if a then 1 else 0) == b
  | .int a, .bl b => a == (if b then 1 else 0)
  | .int a, .int b => a == b
  | .str a, .str b => a == b
  | _, _ => false
theorem eqAt_V {A : Around} {s : Shared} {y x : V} {u v : Value} (ry : RelV y u) (rx : RelV x v) (fy : flatV y = true) (fx : flatV x = true) : SeqAt.EqAt A s u v (eqV y x) := by
  cases y with
  | non =>
    cases ry
    cases x with
    | non => cases rx; exact SeqAt.EqAt.same _
    | bl b => cases rx; exact SeqAt.EqAt.none_bool b
    | int b => obtain ⟨t, rfl⟩ := rx; exact SeqAt.EqAt.none_int b t
    | str b => obtain ⟨t, rfl⟩ := rx; exact SeqAt.EqAt.none_str b t
    | _ => exact absurd (show false = true from fx) Bool.false_ne_true
  | bl a =>
    cases ry
    cases x with
    | non => cases rx; exact SeqAt.EqAt.bool_none a
    | bl b => cases rx; exact SeqAt.EqAt.bool_bool a b
    | int b => obtain ⟨t, rfl⟩ := rx; exact SeqAt.EqAt.bool_int a b t
    | str b => obtain ⟨t, rfl⟩ := rx; exact SeqAt.EqAt.bool_str a b t
    | _ => exact absurd (show false = true from fx) Bool.false_ne_true
  | int a =>
    obtain ⟨t', rfl⟩ := ry
    cases x with
    | non => cases rx; exact SeqAt.EqAt.int_none a t'
    | bl b => cases rx; exact SeqAt.EqAt.int_bool a t' b
    | int b => obtain ⟨t, rfl⟩ := rx; exact SeqAt.EqAt.int_int a t' b t
    | str b => obtain ⟨t, rfl⟩ := rx; exact SeqAt.EqAt.int_str a t' b t
    | _ => exact absurd (show false = true from fx) Bool.false_ne_true
  | str a =>
    obtain ⟨t', rfl⟩ := ry
    cases x with
    | non => cases rx; exact SeqAt.EqAt.str_none a t'
    | bl b => cases rx; exact SeqAt.EqAt.str_bool a t' b
    | int b => obtain ⟨t, rfl⟩ := rx; exact SeqAt.EqAt.str_int a t' b t
    | str b => obtain ⟨t, rfl⟩ := rx; exact SeqAt.EqAt.str_str a t' b t
    | _ => exact absurd (show false = true from fx) Bool.false_ne_true
  | _ => exact absurd (show false = true from fy) Bool.false_ne_true
def eqU (x : V) (u : Value) : Bool := match u with
  | .none => eqV .non x
  | .bool b => eqV (.bl b) x
  | .int i _ => eqV (.int i) x
  | .str z _ => eqV (.str z) x
  | _ => false
theorem eqU_of {x y : V} {u : Value} (r : RelV y u) (f : flatV y = true) : eqU x u = eqV y x := by
  cases y with
  | non => cases r; rfl
  | bl b => cases r; rfl
  | int i => obtain ⟨t, rfl⟩ := r; rfl
  | str z => obtain ⟨t, rfl⟩ := r; rfl
  | _ => exact absurd (show false = true from f) Bool.false_ne_true
theorem any_eqU {x : V} : ∀ {xs : List V} {us : List Value}, Vals xs us → xs.all flatV = true → us.any (eqU x) = xs.any fun y => eqV y x
  | _, _, .nil, _ => rfl
  | y :: xs, u :: us, .cons r t, f => by
    rw [List.all_cons, Bool.and_eq_true] at f
    rw [List.any_cons, List.any_cons, eqU_of r f.1, any_eqU t f.2]
theorem mem_eqAt {A : Around} {s : Shared} {x : V} {v : Value} (rx : RelV x v) (fx : flatV x = true) : ∀ {xs : List V} {us : List Value}, Vals xs us → xs.all flatV = true → ∀ u ∈ us, SeqAt.EqAt A s u v (eqU x u)
  | _, _, .nil, _ => fun u hu => by cases hu
  | y :: xs, u :: us, .cons r t, f => fun u' hu => by
    rw [List.all_cons, Bool.and_eq_true] at f
    rcases List.mem_cons.mp hu with rfl | hu
    · rw [eqU_of r f.1]; exact eqAt_V r rx f.1 fx
    · exact mem_eqAt rx fx t f.2 u' hu
def inV (x : V) (xs : List V) : Bool := xs.any fun y => eqV y x
def rIn (K : PySem.W.Frag) (neg : Bool) : R2 := fun x y H Q => ∃ p xs, y = .ref p ∧ (SqL K H p xs ∨ SqT K H p xs) ∧ flatV x = true ∧ xs.all flatV = true ∧ Q (.bl (if neg then !inV x xs else inV x xs)) H
theorem op_in_seq : OpR X (compareOp .In) (rIn X.K false) := by
  intro pins s σ H x y v u Q I rx ry h
  obtain ⟨p, xs, rfl, hq, fx, fs, q⟩ := h
  cases ry
  rcases hq with hq | hq
  · obtain ⟨its, r, pl, hz⟩ := I.list hq
    refine SeqAt.in_listAt (eqU x) pl.isList (fun w hw => mem_eqAt rx fx r fs w (by simpa using hw)) ⟨.bl _, H, I, rfl, ?_⟩
    rw [show its.toArray.any (eqU x) = its.any (eqU x) by simp, any_eqU r fs]
    exact q
  · obtain ⟨its, r, pl, hz⟩ := I.tuple hq
    refine SeqAt.in_tupleAt (eqU x) pl (fun w hw => mem_eqAt rx fx r fs w (by simpa using hw)) ⟨.bl _, H, I, rfl, ?_⟩
    rw [show its.toArray.any (eqU x) = its.any (eqU x) by simp, any_eqU r fs]
    exact q
theorem CallR.or {f : Value} {r r' : List V → Hp → VK → Prop} (h : CallR X f r) (h' : CallR X f r') : CallR X f (fun xs H Q => r xs H Q ∨ r' xs H Q) := by
  intro pins s σ H xs us Q I rs q
  rcases q with q | q
  · exact h pins s σ H xs us Q I rs q
  · exact h' pins s σ H xs us Q I rs q
theorem call_list_of : CallR X (.type "list") (fun xs H Q => ∃ p ys, xs = [.ref p] ∧ (SqL X.K H p ys ∨ SqT X.K H p ys) ∧ ∀ l, H l = none → Q (.ref l) (upd H l (.lst ys))) := by
  intro pins s σ H xs us Q I r h
  obtain ⟨p, ys, rfl, hq, q⟩ := h
  obtain ⟨u, rfl, rx⟩ := vals1 r
  cases rx
  have fin : ∀ (its : List Value), Vals ys its → ys.length ≤ sizeLine → ∀ (h' : Heap) (c' : Nat), (∀ b o', s.heap.get? b = some o' → h'.get? b = some o') →
      h'.get? s.heap.objs.size = some { cls := .type "list", dict := none, data := .seq its.toArray c', slots := #[] } → EP X pins σ Q (.ref s.heap.objs.size) { s with heap := h' } := fun its r' hz h' c' kp e =>
    ⟨.ref s.heap.objs.size, _, I.laid (t' := s.toks) kp (Nat.le_refl _) (show ObjOk X.prog X.w _ h' _ (.lst ys) from ⟨hz, its, c', r', e⟩), rfl, q _ (I.hok.fresh (Nat.le_refl _))⟩
  rcases hq with hq | hq
  · obtain ⟨its, r', pl, hz⟩ := I.list hq
    have hlen := r'.length
    obtain ⟨o, ho, hc, n, hd⟩ := pl.isList
    exact call_list_seq p (.inl rfl) ho hc hd (fun h' c' kp e => fin its r' hz h' c' kp e) (by simp only [List.size_toArray] <;> omega)
  · obtain ⟨its, r', pl, hz⟩ := I.tuple hq
    have hlen := r'.length
    obtain ⟨o, ho, hc, n, hd⟩ := pl
    exact call_list_seq p (.inr rfl) ho hc hd (fun h' c' kp e => fin its r' hz h' c' kp e) (by simp only [List.size_toArray] <;> omega)
theorem call_tuple_of : CallR X (.type "tuple") (fun xs H Q => ∃ p ys, xs = [.ref p] ∧ ((SqL X.K H p ys ∧ ∀ l, H l = none → Q (.ref l) (upd H l (.tup ys))) ∨ (SqT X.K H p ys ∧ Q (.ref p) H))) := by
  intro pins s σ H xs us Q I r h
  obtain ⟨p, ys, rfl, h⟩ := h
  obtain ⟨u, rfl, rx⟩ := vals1 r
  cases rx
  rcases h with ⟨hq, q⟩ | ⟨hq, q⟩
  · obtain ⟨its, r', pl, hz⟩ := I.list hq
    have hlen := r'.length
    refine call_tuple_list pl.isList (fun h' kp => ?_) (by simp only [List.size_toArray] <;> omega)
    have I1 : Inv X pins σ H { s with heap := h' } := I.kept (t' := s.toks) kp
    have I2 : Inv X pins σ (upd H h'.objs.size (.tup ys)) { s with heap := h'.push { cls := .type "tuple", data := .seq its.toArray } } :=
      I1.laid (t' := s.toks) (fun b o e => Heap.get?_push_of_some _ e) (Nat.le_refl _) (show ObjOk X.prog X.w _ _ _ (.tup ys) from ⟨⟨hz, NoDct.new rfl rfl⟩, its, r', IsTup.new _ _⟩)
    exact ⟨.ref h'.objs.size, _, I2, rfl, q _ (I1.hok.fresh (Nat.le_refl _))⟩
  · obtain ⟨its, r', pl, hz⟩ := I.tuple hq
    exact call_tuple_same pl ⟨.ref p, H, I, rfl, q⟩
def tyV (K : PySem.W.Frag) (T : String) (x : V) (H : Hp) : Prop := match x with
  | .str _ => T = "str"
  | .int _ => T = "int"
  | .ref p => (T = "list" ∧ ∃ xs, SqL K H p xs) ∨ (T = "tuple" ∧ ∃ o, K.lookup p = some o ∧ o.cls = .type "tuple" ∧ o.dict = none) ∨
      (T = "dict" ∧ ((∃ kvs, H p = some (.dK kvs)) ∨ ∃ kvs, H p = some (.dT kvs))) ∨ (T = "set" ∧ ∃ S n, H p = some (.set S n))
  | _ => False
theorem tyV_is {pins : List (Addr × Obj)} {σ : St} {H : Hp} {s : Shared} {T : String} {x : V} {v : Value} (I : Inv X pins σ H s) (r : RelV x v) (ty : tyV X.K T x H) :
    s.TypeIs v T ∧ ∀ a, v = .ref a → ∃ ob, s.heap.get? a = some ob ∧ ob.dict = none := by
  cases x with
  | str z =>
    obtain ⟨t, rfl⟩ := r
    cases (show T = "str" from ty)
    exact ⟨typeIs_str s z t, fun _ e => nomatch e⟩
  | int i =>
    obtain ⟨t, rfl⟩ := r
    cases (show T = "int" from ty)
    exact ⟨typeIs_int s i t, fun _ e => nomatch e⟩
  | ref p =>
    cases r
    rcases ty with ⟨rfl, xs, hq⟩ | ⟨rfl, o, hk, hc, hd⟩ | ⟨rfl, hk⟩ | ⟨rfl, S, n, hk⟩
    · obtain ⟨its, _, pl, _⟩ := I.list hq
      refine ⟨pl.isList.typeIs, fun a e => ?_⟩
      cases e
      obtain ⟨o, n, e, c, hd, _⟩ := pl
      exact ⟨o, e, hd⟩
    · refine ⟨⟨o, I.kIn p o hk, hc⟩, fun a e => ?_⟩
      cases e
      exact ⟨o, I.kIn _ o hk, hd⟩
    · have z : ∃ o, s.heap.get? p = some o ∧ o.ExactDict := by
        rcases hk with ⟨kvs, hk⟩ | ⟨kvs, hk⟩
        · obtain ⟨_, _, _, _, o, _, _, e, ex, _⟩ := I.hok p _ hk
          exact ⟨o, e, ex⟩
        · obtain ⟨_, _, _, _, o, _, _, e, ex, _⟩ := I.hok p _ hk
          exact ⟨o, e, ex⟩
      obtain ⟨o, e, ex⟩ := z
      refine ⟨⟨o, e, ex.1⟩, fun a e2 => ?_⟩
      cases e2
      exact ⟨o, e, ex.2.1⟩
    · obtain ⟨o, _, _, _, e, ex, _⟩ := I.hok p _ hk
      refine ⟨⟨o, e, ex.1⟩, fun a e2 => ?_⟩
      cases e2
      exact ⟨o, e, ex.2.1⟩
  | _ => exact False.elim ty
def tBM (K : PySem.W.Frag) (T : String) (r : V → List V → Hp → VK → Prop) (to : TE) (t : TA) : TE := fun σ H Q => to σ H fun x H1 => tyV K T x H1 ∧ t σ H1 fun xs H2 => r x xs H2 Q
variable {o e : Expr} {es : List Expr} {to : TE} {t : TA} {name : Str} {apos cpos : Pos} {T id : String} {r : V → List V → Hp → VK → Prop}
theorem pe_bm (pa : PlainAttrs T) (slot : Slot T name id) (hty : typeOf (.builtin id) = pure (.type "method_descriptor")) (hm : MtR X id r) (ho : PE X o to) (ha : PA X (e :: es) t)
    (hbase : attributeBase o name X.env (eval o X.env) = eval o X.env := by rfl)
    (hfew : ((backTo cpos (starEach (e :: es) X.env)).all (fun x => !x.1) && (backToKw cpos (keywordEach [] X.env)).all (fun x => x.1.isSome)
      && decide ((e :: es).length + ([] : List Keyword).length + (if ([] : List Keyword).isEmpty then 0 else 1) < 30)) = true := by rfl)
    (hline : (apos.endLine == cpos.line) = true := by rfl) (hs : starEach (e :: es) X.env = (false, eval e X.env) :: starEach es X.env := by rfl) (hplain : (backTo cpos (starEach es X.env)).any (·.1) = false := by rfl) :
    PE X (.Call (.Attribute o name apos) (e :: es) [] cpos) (tBM X.K T r to t) := by
  intro pins s σ H Q I h
  refine wpAny_Call_method_late hbase hfew hline rfl (thn (ho pins s σ H _ I h) ?_)
  rintro v s1 ⟨x, H1, I1, r1, ty, q1⟩
  obtain ⟨h1, h2⟩ := tyV_is I1 r1 ty
  refine ⟨T, id, pa, slot, hty, h1, h2, ?_⟩
  have hA := ha cpos pins s1 σ H1 _ I1 q1
  rw [hs] at hA ⊢
  refine Calls.callWith_builtin (by show (false || (backTo cpos (starEach es X.env)).any (·.1)) = false; rw [hplain] <;> rfl) (Calls.evalArgs_plain ?_)
  exact thn hA fun us s2 ⟨vs, H2, I2, r2, q2⟩ => hm pins s2 σ H2 x vs v us Q I2 r1 r2 q2
/- xs.append(e), list.index on a module's tuple .. are MtR facts of 06m -/
end
end L2
namespace L2
open PySem PySem.Spec PyProof.Rows
def MtM (X : Cx) (id : String) (r : V → List V → Hp → VK → Prop) : Prop :=
  ∀ (pins : List (Addr × Obj)) (s : Shared) (σ : St) (H : Hp) (x : V) (xs : List V) (v : Value) (us : List Value) (Q : VK), Inv X pins σ H s → RelV x v → Vals xs us → r x xs H Q →
    wpAny (model X.prog X.w) X.A (call (.builtin id) (v :: us)) (EP X pins σ Q) X.xe s
theorem Vals.one : ∀ {x : V} {us : List Value}, Vals [x] us → ∃ u, us = [u] ∧ RelV x u
  | _, _, .cons r .nil => ⟨_, rfl, r⟩
theorem Vals.two : ∀ {x y : V} {us : List Value}, Vals [x, y] us → ∃ u v, us = [u, v] ∧ RelV x u ∧ RelV y v
  | _, _, _, .cons r (.cons q .nil) => ⟨_, _, rfl, r, q⟩
theorem Vals.zero : ∀ {us : List Value}, Vals [] us → us = []
  | _, .nil => rfl
theorem Vals.eraseIdx : ∀ {xs : List V} {us : List Value} (i : Nat), Vals xs us → Vals (xs.eraseIdx i) (us.eraseIdx i)
  | _, _, _, .nil => .nil
  | _, _, 0, .cons _ t => t
  | _, _, i + 1, .cons r t => .cons r (Vals.eraseIdx i t)
theorem Vals.reverse {xs : List V} {us : List Value} (h : Vals xs us) : Vals xs.reverse us.reverse := by
  induction h with
  | nil => exact .nil
  | cons r t ih => rw [List.reverse_cons, List.reverse_cons]; exact Vals.append ih (.cons r .nil)
theorem len_erase {α : Type} : ∀ (l : List α) (i : Nat), (l.eraseIdx i).length ≤ l.length
  | [], _ => Nat.le_refl _
  | _ :: _, 0 => Nat.le_succ _
  | _ :: r, i + 1 => Nat.succ_le_succ (len_erase r i)
section
variable {X : Cx} {pins : List (Addr × Obj)} {σ : St} {H : Hp} {s : Shared} {l b : Addr} {xs ys zs : List V}
theorem Inv.lset {its its' : List Value} {n : Nat} {f : Array Value → Array Value} {t' : Nat} (I : Inv X pins σ H s) (hH : H l = some (.lst xs))
    (e : s.heap.get? l = some { cls := .type "list", data := .seq its.toArray n }) (hf : f its.toArray = its'.toArray) (hv : Vals ys its') (hz : ys.length ≤ sizeLine) :
    Inv X pins σ (upd H l (.lst ys)) { s with heap := s.heap.update l (Obj.mapSeq f), toks := t' } := by
  have q := PySem.IsL.update e f
  rw [hf] at q
  refine I.write (x := l) (e := l) (by rw [hH]; exact trivial) (.inl rfl) (fun b' u hb hu => (Heap.get?_update_other s.heap (Obj.mapSeq f) (Ne.symm hb)).trans hu) ⟨_, q⟩ ?_
  exact ⟨hz, its', _, hv, q⟩
theorem Inv.lnew {its : List Value} {t' : Nat} (I : Inv X pins σ H s) (hv : Vals ys its) (hz : ys.length ≤ sizeLine) :
    Inv X pins σ (upd H s.heap.objs.size (.lst ys)) { s with heap := s.heap.push { cls := .type "list", data := .seq its.toArray }, toks := t' } :=
  I.laid (fun _ _ q => Heap.get?_push_of_some _ q) (Nat.le_refl _) ⟨hz, its, 0, hv, Heap.get?_push_size _ rfl⟩
theorem Inv.fresh (I : Inv X pins σ H s) : H s.heap.objs.size = none := I.hok.fresh (Nat.le_refl _)
theorem Inv.lstM (I : Inv X pins σ H s) (hH : H l = some (.lst xs)) : xs.length ≤ sizeLine ∧ ∃ (its : List Value) (n : Nat), Vals xs its ∧ xs.length = its.length ∧ s.heap.get? l = some { cls := .type "list", data := .seq its.toArray n } := by
  obtain ⟨z, its, n, r, e⟩ := I.hok l _ hH
  exact ⟨z, its, n, r, r.length, e⟩
end
section
variable {X : Cx}
def rAppend : V → List V → Hp → VK → Prop := fun x vs H Q => ∃ l xs y, x = .ref l ∧ vs = [y] ∧ H l = some (.lst xs) ∧ xs.length < sizeLine ∧ Q .non (upd H l (.lst (xs ++ [y])))
theorem mt_append : MtM X "list.append" rAppend := by
  intro pins s σ H x vs v us Q I rx rv h
  obtain ⟨l, xs, y, rfl, rfl, hH, hz, q⟩ := h
  cases rx
  obtain ⟨u, rfl, ru⟩ := rv.one
  obtain ⟨z, its, n, r, hl, e⟩ := I.lstM hH
  refine call_meets F.slot_list_append ⟨_, e, rfl⟩ F.entry_list_append (F.args_list_append_2 _ _) (PySem.list_append l its.toArray n u (by rw [List.size_toArray]; omega)) ⟨e, ?_⟩
  refine ⟨.non, _, I.lset (its' := its ++ [u]) hH e (by simp) (r.append (.cons ru .nil)) ?_, rfl, q⟩
  rw [List.length_append, List.length_singleton]
  omega
def rPopAt : V → List V → Hp → VK → Prop := fun x vs H Q => ∃ l xs i k y, x = .ref l ∧ vs = [.int i] ∧ H l = some (.lst xs) ∧ -(2 ^ 63) ≤ i ∧ i < 2 ^ 63 ∧ seqIndex? i xs.length = some k ∧ xs[k]? = some y ∧ Q y (upd H l (.lst (xs.eraseIdx k)))
theorem mt_popAt : MtM X "list.pop" rPopAt := by
  intro pins s σ H x vs v us Q I rx rv h
  obtain ⟨l, xs, i, k, y, rfl, rfl, hH, h1, h2, hk, hy, q⟩ := h
  cases rx
  obtain ⟨u, rfl, ru⟩ := rv.one
  obtain ⟨t, rfl⟩ := ru
  obtain ⟨z, its, n, r, hl, e⟩ := I.lstM hH
  obtain ⟨w, hw, rw'⟩ := r.get hy
  refine call_meets F.slot_list_pop ⟨_, e, rfl⟩ F.entry_list_pop (F.args_list_pop_2 _ _)
    (MeetsSeq.list_pop_at l its.toArray n i t k w (fitsIndex_both h1 h2) (by rw [List.size_toArray, ← hl]; exact hk) (by rw [← Array.getElem?_toList]; exact hw) (by rw [List.size_toArray]; omega)) ⟨e, ?_⟩
  refine ⟨y, _, I.lset (its' := its.eraseIdx k) hH e ?_ (r.eraseIdx k) ?_, rw', q⟩
  · show its.toArray.eraseIdxIfInBounds k = (its.eraseIdx k).toArray
    rw [List.eraseIdxIfInBounds_toArray]
  · have := len_erase xs k
    omega
def rCat : R2 := fun x y H Q => ∃ l b xs zs, x = .ref l ∧ y = .ref b ∧ H l = some (.lst xs) ∧ H b = some (.lst zs) ∧ xs.length + zs.length ≤ sizeLine ∧ ∀ p, H p = none → Q (.ref p) (upd H p (.lst (xs ++ zs)))
theorem op_cat : OpR X (binaryOp .Add) rCat := by
  intro pins s σ H x y v u Q I rx ry h
  obtain ⟨l, b, xs, zs, rfl, rfl, hH, hB, hz, q⟩ := h
  cases rx
  cases ry
  obtain ⟨z, its, n, r, hl, e⟩ := I.lstM hH
  obtain ⟨z2, its2, n2, r2, hl2, e2⟩ := I.lstM hB
  refine PySem.P.add_list e e2 ?_ (by rw [List.size_toArray, List.size_toArray]; omega)
  have ea : its.toArray ++ its2.toArray = (its ++ its2).toArray := by simp
  rw [ea]
  exact ⟨.ref _, _, I.lnew (t' := s.toks) (r.append r2) (by rw [List.length_append]; omega), rfl, q _ I.fresh⟩
end
section
variable {prog : Program} {w : World} {A : Around} {E : Value → Shared → Prop} {s : Shared}
end
section
variable {X : Cx}
end
end L2
namespace L2
open PySem PySem.Spec PyProof.Rows
section
variable {κ : Type} [DecidableEq κ]
def valV (kvs : List (κ × V)) (k : κ) : Option V := (kvs.find? fun kv => decide (kv.1 = k)).map (·.2)
def putK (kvs : List (κ × V)) (k : κ) (v : V) : List (κ × V) :=
  if (kvs.any fun kv => decide (kv.1 = k)) = true then kvs.map (fun kv => if kv.1 = k then (kv.1, v) else kv) else kvs ++ [(k, v)]
def dropK (kvs : List (κ × V)) (k : κ) : List (κ × V) := kvs.filter fun kv => decide (kv.1 ≠ k)
theorem valV_pos {p : κ × V} {r : List (κ × V)} {k : κ} (e : p.1 = k) : valV (p :: r) k = some p.2 := by simp [valV, List.find?_cons, e]
theorem valV_neg {p : κ × V} {r : List (κ × V)} {k : κ} (e : ¬ p.1 = k) : valV (p :: r) k = valV r k := by simp [valV, List.find?_cons, e]
theorem valV_any (k : κ) : ∀ kvs : List (κ × V), (kvs.any fun kv => decide (kv.1 = k)) = (valV kvs k).isSome
  | [] => rfl
  | p :: r => by
    rw [List.any_cons]
    by_cases e : p.1 = k
    · simp only [valV_pos e, decide_eq_true e, Bool.true_or, Option.isSome_some]
    · rw [valV_neg e, decide_eq_false e, Bool.false_or]; exact valV_any k r
theorem valV_map (k j : κ) (y : V) : ∀ kvs : List (κ × V), valV (kvs.map fun kv => if kv.1 = k then (kv.1, y) else kv) j = (valV kvs j).map fun x => if j = k then y else x
  | [] => rfl
  | p :: r => by
    have ih := valV_map k j y r
    rw [List.map_cons]
    by_cases h : p.1 = k
    · rw [if_pos h]
      by_cases e : p.1 = j
      · rw [valV_pos (p := (p.1, y)) e, valV_pos e, Option.map_some, if_pos (e.symm.trans h)]
      · rw [valV_neg (p := (p.1, y)) e, valV_neg e, ih]
    · rw [if_neg h]
      by_cases e : p.1 = j
      · rw [valV_pos (p := p) e, valV_pos e, Option.map_some, if_neg (fun z => h (e.trans z))]
      · rw [valV_neg (p := p) e, valV_neg e, ih]
theorem valV_snoc (k j : κ) (y : V) : ∀ kvs : List (κ × V), valV kvs k = none → valV (kvs ++ [(k, y)]) j = if j = k then some y else valV kvs j
  | [], _ => by
    by_cases e : k = j
    · rw [if_pos e.symm]; exact valV_pos (p := (k, y)) e
    · rw [if_neg (fun z => e z.symm)]; exact valV_neg (p := (k, y)) e
  | p :: r, hn => by
    rw [List.cons_append]
    have hk : ¬ p.1 = k := fun z => by rw [valV_pos z] at hn; cases hn
    rw [valV_neg hk] at hn
    have ih := valV_snoc k j y r hn
    by_cases e : p.1 = j
    · rw [valV_pos e, valV_pos e, if_neg (fun z => hk (e.trans z))]
    · rw [valV_neg e, valV_neg e, ih]
theorem valV_put (kvs : List (κ × V)) (k j : κ) (y : V) : valV (putK kvs k y) j = if j = k then some y else valV kvs j := by
  unfold putK
  by_cases a : (kvs.any fun kv => decide (kv.1 = k)) = true
  · rw [if_pos a, valV_map]
    rw [valV_any] at a
    by_cases e : j = k
    · obtain ⟨x, hx⟩ := Option.isSome_iff_exists.mp a
      rw [if_pos e, e, hx, Option.map_some, if_pos rfl]
    · rw [if_neg e]
      cases valV kvs j with
      | none => rfl
      | some x => rw [Option.map_some, if_neg e]
  · rw [if_neg a]
    refine valV_snoc k j y kvs ?_
    rw [valV_any] at a
    cases q : valV kvs k with
    | none => rfl
    | some x => rw [q] at a; exact (a rfl).elim
theorem length_putK (kvs : List (κ × V)) (k : κ) (v : V) : (putK kvs k v).length ≤ kvs.length + 1 := by
  unfold putK
  split
  · rw [List.length_map]; omega
  · rw [List.length_append, List.length_cons, List.length_nil]; omega
theorem putK_new {kvs : List (κ × V)} {k : κ} (v : V) (h : valV kvs k = none) : putK kvs k v = kvs ++ [(k, v)] := by
  unfold putK
  rw [valV_any, h]
  exact if_neg (by decide)
theorem RelO.isSome_eq {o : Option V} {u : Option Value} (r : RelO o u) : o.isSome = u.isSome := by
  cases o with
  | none => cases u with
    | none => rfl
    | some _ => exact (show False from r).elim
  | some _ => cases u with
    | none => exact (show False from r).elim
    | some _ => rfl
theorem RelO.getD {o : Option V} {u : Option Value} {d : V} {d' : Value} (r : RelO o u) (rd : RelV d d') : RelV (o.getD d) (u.getD d') := by
  cases o with
  | none => cases u with
    | none => exact rd
    | some _ => exact (show False from r).elim
  | some _ => cases u with
    | none => exact (show False from r).elim
    | some _ => exact r
theorem KV.val {kvs : List (κ × V)} {vs : List (κ × Value)} (r : KV kvs vs) (k : κ) : RelO (valV kvs k) (valueAt vs k) := by
  unfold KV at r
  induction r with
  | nil => exact True.intro
  | @cons p q ps qs h t ih =>
    obtain ⟨h1, h2⟩ := h
    by_cases e : p.1 = k
    · have e' : q.1 = k := h1.symm.trans e
      have b : valueAt (q :: qs) k = some q.2 := by simp [valueAt, List.find?_cons, e']
      rw [valV_pos e, b]; exact h2
    · have e' : ¬ q.1 = k := fun z => e (h1.trans z)
      have b : valueAt (q :: qs) k = valueAt qs k := by simp [valueAt, List.find?_cons, e']
      rw [valV_neg e, b]; exact ih
theorem KV.any {kvs : List (κ × V)} {vs : List (κ × Value)} (r : KV kvs vs) (k : κ) : (kvs.any fun kv => decide (kv.1 = k)) = vs.any fun kv => decide (kv.1 = k) := by
  unfold KV at r
  induction r with
  | nil => rfl
  | cons h t ih => rw [List.any_cons, List.any_cons, ih, h.1]
theorem KV.repl {kvs : List (κ × V)} {vs : List (κ × Value)} (r : KV kvs vs) (k : κ) {y : V} {u : Value} (ry : RelV y u) :
    KV (kvs.map fun kv => if kv.1 = k then (kv.1, y) else kv) (vs.map fun kv => if kv.1 = k then (kv.1, u) else kv) := by
  unfold KV at r ⊢
  induction r with
  | nil => exact .nil
  | @cons p q ps qs h t ih =>
    rw [List.map_cons, List.map_cons]
    refine .cons ?_ ih
    obtain ⟨h1, h2⟩ := h
    by_cases e : p.1 = k
    · rw [if_pos e, if_pos (h1.symm.trans e)]; exact ⟨h1, ry⟩
    · rw [if_neg e, if_neg (fun z => e (h1.trans z))]; exact ⟨h1, h2⟩
theorem KV.put {kvs : List (κ × V)} {vs : List (κ × Value)} (r : KV kvs vs) (k : κ) {y : V} {u : Value} (ry : RelV y u) : KV (putK kvs k y) (stored vs k u) := by
  unfold putK stored
  rw [r.any k]
  by_cases e : (vs.any fun kv => decide (kv.1 = k)) = true
  · rw [if_pos e, if_pos e]; exact r.repl k ry
  · rw [if_neg e, if_neg e]; exact Paired.snoc r ⟨rfl, ry⟩
theorem KV.drop {kvs : List (κ × V)} {vs : List (κ × Value)} (r : KV kvs vs) (k : κ) : KV (dropK kvs k) (without vs k) := by
  unfold KV at r ⊢
  unfold dropK without
  induction r with
  | nil => exact .nil
  | @cons p q ps qs h t ih =>
    obtain ⟨h1, h2⟩ := h
    rw [List.filter_cons, List.filter_cons]
    by_cases e : p.1 = k
    · have a : ¬ decide (p.1 ≠ k) = true := by simp [e]
      have b : ¬ decide (q.1 ≠ k) = true := by simp [h1.symm.trans e]
      rw [if_neg a, if_neg b]; exact ih
    · have e' : ¬ q.1 = k := fun z => e (h1.trans z)
      have a : decide (p.1 ≠ k) = true := by simp [e]
      have b : decide (q.1 ≠ k) = true := by simp [e']
      rw [if_pos a, if_pos b]; exact .cons ⟨h1, h2⟩ ih
theorem KV.keys {kvs : List (κ × V)} {vs : List (κ × Value)} (r : KV kvs vs) : kvs.map (·.1) = vs.map (·.1) := by
  unfold KV at r
  induction r with
  | nil => rfl
  | cons h t ih => rw [List.map_cons, List.map_cons, ih, h.1]
theorem KV.length {kvs : List (κ × V)} {vs : List (κ × Value)} (r : KV kvs vs) : kvs.length = vs.length := Paired.length r
end
theorem kV_is {P : Program} {w : World} {k : Key} {u : Value} (r : RelV (kV k) u) : (mixKind P w).is k u = true := by
  cases k with
  | inl i => obtain ⟨t, e⟩ := (show ∃ t, u = Value.int i t from r); subst e; exact mixKind_int P w i t
  | inr x => obtain ⟨t, e⟩ := (show ∃ t, u = Value.str x t from r); subst e; exact mixKind_str P w x t
theorem items_are {P : Program} {w : World} : ∀ {ks : List Key} {us : List Value}, Vals (ks.map kV) us → ItemsAre (mixKind P w) ks us
  | [], _, r => by rw [List.map_nil] at r; cases r; exact .nil
  | k :: ks, _, r => by
    rw [List.map_cons] at r
    cases r with
    | cons h t => exact .cons (kV_is h) (items_are t)
abbrev KT (H : Hp) : List (List Key × V) → List (List Key × Addr × Value) → Prop := Paired fun p q => p.1 = q.1 ∧ RdT H q.2.1 (p.1.map kV) ∧ RelV p.2 q.2.2
theorem KT.val {H : Hp} {kvs : List (List Key × V)} {xs : List (List Key × Addr × Value)} (r : KT H kvs xs) (k : List Key) : RelO (valV kvs k) ((atKey xs k).map (·.2)) := by
  induction r with
  | nil => exact True.intro
  | @cons p q ps qs h t ih =>
    obtain ⟨h1, _, h2⟩ := h
    by_cases e : p.1 = k
    · have e' : q.1 = k := h1.symm.trans e
      have b : atKey (q :: qs) k = some q.2 := by simp [atKey, List.find?_cons, e']
      rw [valV_pos e, b]; exact h2
    · have e' : ¬ q.1 = k := fun z => e (h1.trans z)
      have b : atKey (q :: qs) k = atKey qs k := by simp [atKey, List.find?_cons, e']
      rw [valV_neg e, b]; exact ih
theorem KT.repl {H : Hp} {kvs : List (List Key × V)} {xs : List (List Key × Addr × Value)} (r : KT H kvs xs) (k : List Key) {y : V} {u : Value} (ry : RelV y u) :
    KT H (kvs.map fun kv => if kv.1 = k then (kv.1, y) else kv) (xs.map (putAt k u)) := by
  induction r with
  | nil => exact .nil
  | @cons p q ps qs h t ih =>
    rw [List.map_cons, List.map_cons]
    refine .cons ?_ ih
    obtain ⟨h1, h2, h3⟩ := h
    unfold putAt
    by_cases e : p.1 = k
    · rw [if_pos e, if_pos (h1.symm.trans e)]; exact ⟨h1, h2, ry⟩
    · rw [if_neg e, if_neg (fun z => e (h1.trans z))]; exact ⟨h1, h2, h3⟩
theorem KT.put {H : Hp} {kvs : List (List Key × V)} {xs : List (List Key × Addr × Value)} (r : KT H kvs xs) (k : List Key) {b : Addr} {y : V} {u : Value} (hb : RdT H b (k.map kV)) (ry : RelV y u) :
    KT H (putK kvs k y) (storedH xs k b u) := by
  have e : (kvs.any fun kv => decide (kv.1 = k)) = (atKey xs k).isSome := by
    rw [valV_any, (r.val k).isSome_eq, Option.isSome_map]
  unfold putK storedH
  rw [e]
  by_cases q : (atKey xs k).isSome = true
  · rw [if_pos q, if_pos q]; exact r.repl k ry
  · rw [if_neg q, if_neg q]; exact Paired.snoc r ⟨rfl, hb, ry⟩
theorem KT.keeps {H H' : Hp} {kvs : List (List Key × V)} {xs : List (List Key × Addr × Value)} (r : KT H kvs xs) (ht : ∀ b ys, RdT H b ys → RdT H' b ys) : KT H' kvs xs :=
  Paired.mapP r fun _ _ z => ⟨z.1, ht _ _ z.2.1, z.2.2⟩
section
variable {P : Program} {w : World} {H : Hp} {h : Heap} {a : Addr}
theorem rd_of {u : HO} (ok : HOk P w H h) (e : Rd H a u) : ObjOk P w H h a u := e.ok ok
theorem dk_rd {kvs : List (Key × V)} (ok : HOk P w H h) (e : Rd H a (.dK kvs)) : kvs.length ≤ sizeLine ∧ (a == sysModules) = false ∧ ∃ vs, KV kvs vs ∧ h.DictOf (mixKind P w) a vs :=
  show ObjOk P w H h a (.dK kvs) from rd_of ok e
theorem dk_of {kvs : List (Key × V)} (ok : HOk P w H h) (e : H a = some (.dK kvs)) : kvs.length ≤ sizeLine ∧ (a == sysModules) = false ∧ ∃ vs, KV kvs vs ∧ h.DictOf (mixKind P w) a vs := dk_rd ok (.inl e)
theorem key_of {ks : List Key} (ok : HOk P w H h) (e : RdT H a (ks.map kV)) : (tupleKind (mixKind P w)).is h ks a := by
  have qq : ObjOk P w H h a (.tup (ks.map kV)) := by
    rcases e with e | ⟨_, e⟩
    · exact ok a _ e
    · exact (ok a _ e).2
  obtain ⟨_, its, r, o, h1, h2, n, h3⟩ := qq
  exact ⟨o, its.toArray, n, h1, h2, h3, by simpa using items_are r⟩
theorem dt_rd {kvs : List (List Key × V)} (ok : HOk P w H h) (e : Rd H a (.dT kvs)) : kvs.length ≤ sizeLine ∧ (a == sysModules) = false ∧
    ∃ xs, KT H kvs xs ∧ h.DictOfH (tupleKind (mixKind P w)) a xs := by
  obtain ⟨z, y, xs, r, o, es, ep, h1, h2, h3, h4, h5⟩ := (show ObjOk P w H h a (.dT kvs) from rd_of ok e)
  refine ⟨z, y, xs, r, o, es, ep, h1, h2, h3, h4, fun x hx => ?_, h5⟩
  have all : ∀ {l : List (List Key × V)} {m : List (List Key × Addr × Value)}, KT H l m → ∀ x ∈ m, (tupleKind (mixKind P w)).is h x.1 x.2.1 := by
    intro l m q
    induction q with
    | nil => intro x hx; exact nomatch hx
    | @cons p q ps qs hq t ih =>
      intro x hx
      rcases List.mem_cons.mp hx with e | hx
      · subst e
        exact key_of ok (by rw [← hq.1]; exact hq.2.1)
      · exact ih x hx
  exact all r x hx
theorem dt_of {kvs : List (List Key × V)} (ok : HOk P w H h) (e : H a = some (.dT kvs)) : kvs.length ≤ sizeLine ∧ (a == sysModules) = false ∧
    ∃ xs, KT H kvs xs ∧ h.DictOfH (tupleKind (mixKind P w)) a xs := dt_rd ok (.inl e)
end
def DGet (H : Hp) (a : Addr) (y : V) (r : Option V) : Prop :=
  (∃ kvs k, Rd H a (.dK kvs) ∧ y = kV k ∧ r = valV kvs k) ∨ ∃ kvs k b, Rd H a (.dT kvs) ∧ y = .ref b ∧ RdT H b (k.map kV) ∧ r = valV kvs k
def DPut (H : Hp) (a : Addr) (y v : V) (H' : Hp) : Prop :=
  (∃ kvs k, H a = some (.dK kvs) ∧ y = kV k ∧ kvs.length < sizeLine ∧ H' = upd H a (.dK (putK kvs k v))) ∨
  ∃ kvs k b, H a = some (.dT kvs) ∧ y = .ref b ∧ RdT H b (k.map kV) ∧ kvs.length < sizeLine ∧ H' = upd H a (.dT (putK kvs k v))
theorem DGet.k {H : Hp} {a : Addr} {kvs : List (Key × V)} {k : Key} (e : H a = some (.dK kvs)) : DGet H a (kV k) (valV kvs k) := .inl ⟨kvs, k, .inl e, rfl, rfl⟩
theorem DGet.t {H : Hp} {a b : Addr} {kvs : List (List Key × V)} {k : List Key} (e : H a = some (.dT kvs)) (eb : H b = some (.tup (k.map kV))) : DGet H a (.ref b) (valV kvs k) := .inr ⟨kvs, k, b, .inl e, rfl, .inl eb, rfl⟩
theorem DPut.k {H : Hp} {a : Addr} {kvs : List (Key × V)} {k : Key} {v : V} (e : H a = some (.dK kvs)) (hl : kvs.length < sizeLine) : DPut H a (kV k) v (upd H a (.dK (putK kvs k v))) := .inl ⟨kvs, k, e, rfl, hl, rfl⟩
theorem DPut.t {H : Hp} {a b : Addr} {kvs : List (List Key × V)} {k : List Key} {v : V} (e : H a = some (.dT kvs)) (eb : H b = some (.tup (k.map kV))) (hl : kvs.length < sizeLine) :
    DPut H a (.ref b) v (upd H a (.dT (putK kvs k v))) := .inr ⟨kvs, k, b, e, rfl, .inl eb, hl, rfl⟩
section
variable {X : Cx} {pins : List (Addr × Obj)} {σ : St} {H : Hp} {s : Shared} {a : Addr} {y v : V} {u r : Value} {o : Option V} {A : Around} {E : Value → Shared → Prop}
theorem Inv.big (I : Inv X pins σ H s) : sysModules < s.heap.objs.size := by
  have h : mainGlobals < s.heap.objs.size := (I.mod.glob.keeps I.bk).lt
  exact Nat.lt_trans (by decide) h
theorem d_getItem {Q : Value → Shared → Prop} (hu : A.units + 1 < cLine) (I : Inv X pins σ H s) (g : DGet H a y (some v)) (ry : RelV y u) (h : ∀ w' s', Inv X pins σ H s' → RelV v w' → Q w' s') :
    wpAny (model X.prog X.w) A (getItem (.ref a) u) Q E s := by
  rcases g with ⟨kvs, k, e, ey, l⟩ | ⟨kvs, k, b, e, ey, eb, l⟩
  · subst ey
    obtain ⟨z, hd, vs, rel, dd⟩ := dk_rd I.hok e
    obtain ⟨w', hw, rw'⟩ := RelO.some_of (v := v) (o := valueAt vs k) (by rw [l]; exact rel.val k)
    exact wpAny_getItem_of (kV_is ry) dd.mapOf hw (h w' _ (I.tok _) rw')
  · subst ey
    cases (show u = Value.ref b from ry)
    obtain ⟨z, hd, xs, rel, dd⟩ := dt_rd I.hok e
    obtain ⟨w', hw, rw'⟩ := RelO.some_of (v := v) (o := (atKey xs k).map (·.2)) (by rw [l]; exact rel.val k)
    obtain ⟨p, hp, hp2⟩ := Option.map_eq_some_iff.mp hw
    refine wpAny_getItem_heap (tupleKind_room_in1 hu) (key_of I.hok eb) dd hp ?_
    rw [hp2]
    exact h w' _ (I.tok _) rw'
theorem d_notIn {Q : Value → Shared → Prop} (hu : A.units + 1 < cLine) (I : Inv X pins σ H s) (g : DGet H a y o) (ry : RelV y u) (h : ∀ s', Inv X pins σ H s' → Q (.bool (!o.isSome)) s') :
    wpAny (model X.prog X.w) A (compareOp .NotIn u (.ref a)) Q E s := by
  rcases g with ⟨kvs, k, e, ey, l⟩ | ⟨kvs, k, b, e, ey, eb, l⟩
  · subst ey
    obtain ⟨z, hd, vs, rel, dd⟩ := dk_rd I.hok e
    refine wpAny_notIn_of (kV_is ry) hd dd.mapOf ?_
    rw [← (rel.val k).isSome_eq, ← l]
    exact h _ (I.tok _)
  · subst ey
    cases (show u = Value.ref b from ry)
    obtain ⟨z, hd, xs, rel, dd⟩ := dt_rd I.hok e
    refine wpAny_notIn_heap (tupleKind_room_in1 hu) (key_of I.hok eb) hd dd ?_
    have q := (rel.val k).isSome_eq
    rw [Option.isSome_map] at q
    rw [← q, ← l]
    exact h _ (I.tok _)
theorem d_write {h' : Heap} {t' : Nat} {ob : HO} (I : Inv X pins σ H s) (mu : Mut (H a)) (hs : Heap.SameBut a s.heap h') (he : ∃ q, h'.get? a = some q) (new : ObjOk X.prog X.w (upd H a ob) h' a ob) :
    Inv X pins σ (upd H a ob) { s with heap := h', toks := t' } :=
  I.write (x := a) (e := a) mu (.inl rfl) (fun b q hb z => (hs.2 b hb).trans z) he new
theorem dk_new {P : Program} {w : World} {H' : Hp} {h' : Heap} {kvs : List (Key × V)} {vs : List (Key × Value)} (z : kvs.length ≤ sizeLine) (hd : (a == sysModules) = false) (rel : KV kvs vs) (dd : h'.DictOf (mixKind P w) a vs) :
    ObjOk P w H' h' a (.dK kvs) := ⟨z, hd, vs, rel, dd⟩
theorem d_setItem {H' : Hp} {Q : Unit → Shared → Prop} (hu : A.units + 1 < cLine) (I : Inv X pins σ H s) (g : DPut H a y v H') (ry : RelV y u) (rv : RelV v r) (h : ∀ s', Inv X pins σ H' s' → Q () s') :
    wpAny (model X.prog X.w) A (setItem (.ref a) u r) Q E s := by
  rcases g with ⟨kvs, k, e, ey, l, eH⟩ | ⟨kvs, k, b, e, ey, eb, l, eH⟩
  · subst ey eH
    obtain ⟨z, hd, vs, rel, dd⟩ := dk_of I.hok e
    have hz : vs.length ≤ sizeLine := by rw [← rel.length]; exact z
    have hl : (putK kvs k v).length ≤ sizeLine := by have := length_putK kvs k v; omega
    refine wpAny_setItem_pairs (hsz := hz) (kV_is ry) dd fun h' dd' hs => h _ ?_
    have he : ∃ q, h'.get? a = some q := let ⟨q, _, _, hq, _⟩ := dd'; ⟨q, hq⟩
    exact d_write I (by rw [e]; exact True.intro) hs he (dk_new hl hd (rel.put k rv) dd')
  · subst ey eH
    cases (show u = Value.ref b from ry)
    obtain ⟨z, hd, xs, rel, dd⟩ := dt_of I.hok e
    have hz : xs.length ≤ sizeLine := by rw [← Paired.length rel]; exact z
    have hl : (putK kvs k v).length ≤ sizeLine := by have := length_putK kvs k v; omega
    refine wpAny_setItem_heap (hsz := hz) (tupleKind_room_in1 hu) (key_of I.hok eb) dd fun h' dd' hs => h _ ?_
    obtain ⟨q, es, ep, hq, h2, h3, h4, _, h5⟩ := dd'
    refine d_write I (by rw [e]; exact True.intro) hs ⟨q, hq⟩ ⟨hl, hd, _, (rel.put k eb rv).keeps fun c ys ec => ?_, q, es, ep, hq, h2, h3, h4, h5⟩
    refine ec.upd fun u hu z => ?_
    subst z
    rcases ec with ec | ⟨_, ec⟩ <;> (rw [e] at ec; cases ec)
end
section
variable {X : Cx} {pins : List (Addr × Obj)} {σ : St} {H : Hp} {s : Shared} {a : Addr} {kvs : List (Key × V)} {k : Key} {u : Value} {A : Around} {E : Value → Shared → Prop}
theorem d_len {Q : Value → Shared → Prop} (I : Inv X pins σ H s) (e : Rd H a (.dK kvs)) (h : ∀ t s', Inv X pins σ H s' → Q (.int kvs.length t) s') : wpAny (model X.prog X.w) A (call (.builtin "len") [.ref a]) Q E s := by
  obtain ⟨z, hd, vs, rel, dd⟩ := dk_rd I.hok e
  refine call_len_dict hd dd (by rw [← rel.length]; rw [sizeLine_eq] at z; omega) ?_
  rw [← rel.length]
  exact h _ _ (I.tok _)
end
def NoSl (i : Expr) : Prop := ∀ ov iv, subscripted i false ov iv = operate [ov, iv] (getItem ov iv)
theorem subD_of {prog : Program} {w : World} {A : Around} {E : Value → Shared → Prop} {s : Shared} {env : Env} {value slice : Expr} {pos : Pos} {T id : String} {Q : Value → Shared → Prop}
    (hl : typeLookup (.type T) "__getitem__" = pure (some (.builtin id))) (hs : NoSl slice)
    (h : wpAny (model prog w) A (eval value env) (fun o s₁ => wpAny (model prog w) A (eval slice env) (fun i s₂ => s₂.TypeIs o T ∧ wpAny (model prog w) A (getItem o i) Q E s₂) E s₁) E s) :
    wpAny (model prog w) A (eval (.Subscript value slice pos) env) Q E s := by
  refine Subscript_ (wpAny_mono h (fun o s₁ h₁ => wpAny_mono h₁ (fun i s₂ h₂ => ?_) fun _ _ x => x) fun _ _ x => x)
  obtain ⟨hT, h₂⟩ := h₂
  unfold subscriptTail
  refine wpAny_bind ?_
  rw [getitemInPython_of_ne hT.not_modules]
  refine wpAny_bind (wpAny_specialOf hT hl ?_)
  have fin : wpAny (model prog w) A (subscripted slice false o i) (fun r s₃ => wpAny (model prog w) A (letTemporaryGo value o r >>= fun _ => pure r) Q E s₃) E s₂ := by
    rw [hs o i]
    exact wpAny_operating (wpAny_mono h₂ (fun r s₃ h₃ => wpAny_bind (wpAny_letTemporaryGo (wpAny_pure h₃))) fun _ _ x => x)
  first
    | exact wpAny_pure (wpAny_bind fin)
    | exact wpAny_bind (wpAny_pure (wpAny_bind fin))
    | exact wpAny_bind fin
theorem dict_typeIs {X : Cx} {pins : List (Addr × Obj)} {σ : St} {H : Hp} {s : Shared} {a : Addr} {y : V} {o : Option V} (I : Inv X pins σ H s) (g : DGet H a y o) : s.TypeIs (.ref a) "dict" := by
  rcases g with ⟨kvs, k, e, _, _⟩ | ⟨kvs, k, b, e, _, _, _⟩
  · obtain ⟨_, _, vs, _, dd⟩ := dk_rd I.hok e
    exact dd.typeIs
  · obtain ⟨_, _, xs, _, dd⟩ := dt_rd I.hok e
    exact dd.typeIs
def tDGet (td ty : TE) : TE := fun σ H Q => td σ H fun x H1 => ty σ H1 fun y H2 => ∃ a v, x = .ref a ∧ DGet H2 a y (some v) ∧ Q v H2
def sDPut (td ty tv : TE) : TS := fun D σ H => tv σ H fun v H1 => td σ H1 fun x H2 => ty σ H2 fun y H3 => ∃ a H4, x = .ref a ∧ DPut H3 a y v H4 ∧ D.nx σ H4
section
variable {X : Cx} {o i e value : Expr} {pos pos' tpos : Pos} {td ty tv : TE}
theorem pe_dget (hu : X.A.units + 1 < cLine) (ho : PE X o td) (hi : PE X i ty) (hs : NoSl i) : PE X (.Subscript o i pos) (tDGet td ty) := by
  intro pins s σ H Q I h
  refine subD_of PySem.F.slot_dict_getitem.lookup hs (thn (ho pins s σ H _ I h) fun u s1 ⟨x, H1, I1, rx, q1⟩ => thn (hi pins s1 σ H1 _ I1 q1) fun iv s2 ⟨y, H2, I2, ry, a, v, ex, g, q2⟩ => ?_)
  subst ex
  obtain rfl : u = Value.ref a := rx
  exact ⟨dict_typeIs I2 g, d_getItem hu I2 g ry fun w' s3 I3 rw' => ⟨v, H2, I3, rw', q2⟩⟩
theorem ps_dput (hu : X.A.units + 1 < cLine) (ho : PE X o td) (hi : PE X i ty) (hv : PE X value tv) (hs : swapsWith value (some (.Subscript o i pos')) pos.line X.env = pure false) :
    PS X (.Assign [.Subscript o i pos'] value pos) (sDPut td ty tv) := by
  intro pins s σ H D I h
  refine wpAny_Assign_Subscript (thn (hv pins s σ H _ I h) fun r s1 ⟨v, H1, I1, rv, q1⟩ => thn (ho pins s1 σ H1 _ I1 q1) fun u s2 ⟨x, H2, I2, rx, q2⟩ => thn (hi pins s2 σ H2 _ I2 q2) fun iv s3 ⟨y, H3, I3, ry, a, H4, ex, g, q3⟩ => ?_) hs
  subst ex
  obtain rfl : u = Value.ref a := rx
  exact d_setItem hu I3 g ry rv fun s4 I4 => ⟨σ, H4, I4, q3⟩
end
theorem dk_empty {P : Program} {w : World} {H : Hp} (h : Heap) (hb : sysModules < h.objs.size) : ObjOk P w H (h.push { cls := .type "dict", data := .dict #[] }) h.objs.size (.dK []) :=
  ⟨Nat.zero_le _, beq_eq_false_iff_ne.mpr (Ne.symm (Nat.ne_of_lt hb)), [], .nil, Heap.DictOf.new h⟩
def tDNewK : TE := fun _ H Q => ∀ p, H p = none → Q (.ref p) (upd H p (.dK []))
section
variable {X : Cx} {pos : Pos}
theorem pe_dnewK : PE X (.Dict [] [] pos) tDNewK := fun pins s σ H Q I h =>
  wpAny_Dict_empty ⟨.ref s.heap.objs.size, _, I.laid (a := s.heap.objs.size) (o := .dK []) (t' := s.toks) (fun _ _ q => Heap.get?_push_of_some _ q) (Nat.le_refl _) (dk_empty s.heap I.big), rfl, h _ (I.hok.fresh (Nat.le_refl _))⟩
end
def tPairs : List (TE × TE) → St → Hp → (List (V × V) → Hp → Prop) → Prop
  | [], _, H, Q => Q [] H
  | (tk, tv) :: r, σ, H, Q => tk σ H fun x H1 => tv σ H1 fun y H2 => tPairs r σ H2 fun ps H3 => Q ((x, y) :: ps) H3
abbrev VV : List (V × V) → List (Value × Value) → Prop := Paired fun p q => RelV p.1 q.1 ∧ RelV p.2 q.2
def PPs (X : Cx) (pos : Pos) (keys : List (Option Expr)) (values : List Expr) (trs : List (TE × TE)) : Prop :=
  ∀ (pins : List (Addr × Obj)) (s : Shared) (σ : St) (H : Hp) (Q : List (V × V) → Hp → Prop), Inv X pins σ H s → tPairs trs σ H Q →
    wpAny (model X.prog X.w) X.A (evalPairs (pairTrees keys values X.env pos)) (fun vs s' => ∃ ps H', Inv X pins σ H' s' ∧ VV ps vs ∧ Q ps H') X.xe s
theorem pps_nil {X : Cx} {pos : Pos} : PPs X pos [] [] [] := fun pins s σ H Q I h => pairTrees_nil_walk ⟨[], H, I, .nil, h⟩
theorem pps_cons {X : Cx} {pos : Pos} {k v : Expr} {ks : List (Option Expr)} {vs : List Expr} {tk tv : TE} {trs : List (TE × TE)} (hk : PE X k tk) (hv : PE X v tv) (hr : PPs X pos ks vs trs) :
    PPs X pos (some k :: ks) (v :: vs) ((tk, tv) :: trs) := fun pins s σ H Q I h =>
  pairTrees_cons_walk (thn (hk pins s σ H _ I h) fun u s1 ⟨x, H1, I1, rx, q1⟩ => thn (hv pins s1 σ H1 _ I1 q1) fun w2 s2 ⟨y, H2, I2, ry, q2⟩ =>
    thn (hr pins s2 σ H2 _ I2 q2) fun ws s3 ⟨ps, H3, I3, rel, q3⟩ => ⟨(x, y) :: ps, H3, I3, .cons ⟨rx, ry⟩ rel, q3⟩)
def mergeK (kvs more : List (Key × V)) : List (Key × V) := more.foldl (fun acc kv => putK acc kv.1 kv.2) kvs
theorem KV.merge : ∀ {more : List (Key × V)} {rs : List (Key × Value)} {kvs : List (Key × V)} {vs : List (Key × Value)}, KV more rs → KV kvs vs → KV (mergeK kvs more) (merged vs rs) := by
  intro more rs kvs vs r
  unfold KV at r
  induction r generalizing kvs vs with
  | nil => intro q; exact q
  | @cons p q ps qs h t ih =>
    intro r0
    have e : KV (putK kvs p.1 p.2) (stored vs q.1 q.2) := by
      have := r0.put p.1 h.2
      rw [← h.1]; exact this
    exact ih e
theorem length_mergeK : ∀ (more kvs : List (Key × V)), (mergeK kvs more).length ≤ kvs.length + more.length
  | [], kvs => by show kvs.length ≤ kvs.length + 0; omega
  | p :: r, kvs => by
    have h1 := length_mergeK r (putK kvs p.1 p.2)
    have h2 := length_putK kvs p.1 p.2
    show (mergeK (putK kvs p.1 p.2) r).length ≤ _
    rw [List.length_cons]; omega
theorem carries_of {P : Program} {w : World} : ∀ {kvs : List (Key × V)} {ws : List (Value × Value)}, VV (kvs.map fun kv => (kV kv.1, kv.2)) ws → ∃ rs, Carries (mixKind P w) ws rs ∧ KV kvs rs
  | [], _, r => by rw [List.map_nil] at r; cases r; exact ⟨[], True.intro, .nil⟩
  | p :: kvs, _, r => by
    rw [List.map_cons] at r
    cases r with
    | @cons a b as bs h t =>
      obtain ⟨rs, c, q⟩ := carries_of (P := P) (w := w) t
      obtain ⟨b1, b2⟩ := b
      exact ⟨(p.1, b2) :: rs, ⟨kV_is h.1, rfl, c⟩, .cons ⟨rfl, h.2⟩ q⟩
def tDisp (trs : List (TE × TE)) : TE := fun σ H Q => ∀ p, H p = none → tPairs trs σ (upd H p (.dK [])) fun ps H2 => H2 p = some (.dK []) ∧ ∃ kvs : List (Key × V), ps = kvs.map (fun kv => (kV kv.1, kv.2)) ∧ kvs.length ≤ 15 ∧ Q (.ref p) (upd H2 p (.dK (mergeK [] kvs)))
theorem pe_disp {X : Cx} {pos : Pos} {keys : List (Option Expr)} {values : List Expr} {trs : List (TE × TE)} (h : PPs X pos keys values trs) (hall : keys.all (·.isSome) = true) (hl : keys.length = values.length) (h0 : keys ≠ [])
    (h15 : keys.length ≤ 15) : PE X (.Dict keys values pos) (tDisp trs) := by
  intro pins s σ H Q I q
  have hn := I.hok.fresh (Nat.le_refl s.heap.objs.size)
  have I1 := I.laid (a := s.heap.objs.size) (o := .dK []) (h' := s.heap.push { cls := .type "dict", data := .dict #[] }) (t' := s.toks) (fun _ _ q => Heap.get?_push_of_some _ q) (Nat.le_refl _) (dk_empty s.heap I.big)
  refine wpAny_Dict_walk (knd := mixKind X.prog X.w) hall hl h0 h15 (thn (h pins _ σ _ _ I1 (q _ hn)) ?_)
  rintro ws s2 ⟨ps, H2, I2, rel, e, kvs, ep, lk, q2⟩
  subst ep
  obtain ⟨rs, c, rk⟩ := carries_of (P := X.prog) (w := X.w) rel
  obtain ⟨z, hd, vs0, r0, dd⟩ := dk_of I2.hok e
  cases r0
  refine ⟨rs, c, dd, fun h' dd' hs => ⟨.ref s.heap.objs.size, _, ?_, rfl, q2⟩⟩
  have hz : (mergeK [] kvs).length ≤ sizeLine := by
    have h1 := length_mergeK kvs []
    rw [List.length_nil] at h1
    rw [sizeLine_eq]; omega
  have he : ∃ q, h'.get? s.heap.objs.size = some q := let ⟨q, _, _, hq, _⟩ := dd'; ⟨q, hq⟩
  exact d_write I2 (by rw [e]; exact True.intro) hs he (dk_new hz hd (rk.merge .nil) dd')
structure M1 (X : Cx) (o : Expr) (m : Str) (apos : Pos) (e : Expr) (cpos : Pos) : Prop where
  base : attributeBase o m X.env (eval o X.env) = eval o X.env
  few : ((backTo cpos (starEach [e] X.env)).all (fun x => !x.1) && (backToKw cpos (keywordEach [] X.env)).all (fun x => x.1.isSome)
    && decide (([e] : List Expr).length + ([] : List Keyword).length + (if ([] : List Keyword).isEmpty then 0 else 1) < 30)) = true
  line : (apos.endLine == cpos.line) = true
  trees : backTo cpos (starEach [e] X.env) = [(false, eval e X.env)]
structure M2 (X : Cx) (o : Expr) (m : Str) (apos : Pos) (e f : Expr) (cpos : Pos) : Prop where
  base : attributeBase o m X.env (eval o X.env) = eval o X.env
  few : ((backTo cpos (starEach [e, f] X.env)).all (fun x => !x.1) && (backToKw cpos (keywordEach [] X.env)).all (fun x => x.1.isSome)
    && decide (([e, f] : List Expr).length + ([] : List Keyword).length + (if ([] : List Keyword).isEmpty then 0 else 1) < 30)) = true
  line : (apos.endLine == cpos.line) = true
  trees : backTo cpos (starEach [e, f] X.env) = [(false, eval e X.env), (false, eval f X.env)]
section
variable {X : Cx} {pins : List (Addr × Obj)} {σ : St} {H : Hp} {s : Shared} {a : Addr} {y d : V} {u r : Value} {o : Option V} {A : Around} {E : Value → Shared → Prop}
end
section
variable {X : Cx} {o e f : Expr} {apos cpos : Pos} {td ty tx : TE}
end
section
variable {X : Cx} {pins : List (Addr × Obj)} {σ : St} {H : Hp} {s : Shared} {a : Addr} {kvs : List (Key × V)} {A : Around} {E : Value → Shared → Prop}
end
section
variable {X : Cx} {pins : List (Addr × Obj)} {σ : St} {H : Hp} {s : Shared} {a : Addr} {y : V} {u : Value} {A : Around} {E : Value → Shared → Prop}
end
end L2
namespace Att
open PySem PySem.W PySem.Calls PyProof.Rows
theorem ints_of_wellAll {P : Params} {h : Heap} : ∀ (ns : List Int) (vs : List Value), WellAll P h vs (ns.map WData.int) → IntsAre vs ns := by
  intro ns
  induction ns with
  | nil =>
    intro vs w
    rw [List.map_nil] at w
    cases w
    exact .nil
  | cons n ns ih =>
    intro vs w
    rw [List.map_cons] at w
    cases w with
    | cons a b =>
      cases a
      exact .cons _ _ (ih _ b)
theorem script_of {l : OpenLaw} {n : Nat} (hn : l.most = some n) {P : Params} {h : Heap} {args : List WData} {vals : List Value}
    (hpre : l.row.toRowW.claim.pre args = true) (hwl : WellAll P h vals args) :
    ∃ a vs ns, vals = [Value.ref a] ∧ args = [WData.list (ns.map WData.int)] ∧ h.get? a = some { cls := .type "list", data := .seq vs.toArray } ∧ IntsAre vs ns ∧ ns.length ≤ n := by
  have hsh : WShape.hasAll [] args [.list .int] = true := (pre_splitW hpre).1
  have hc : l.pre.holds [] { args := args } = true := (pre_splitW hpre).2
  obtain ⟨d, r, rfl, h1, h2⟩ := hasAllW_cons hsh
  obtain rfl := hasAllW_nil h2
  obtain ⟨xs, rfl, h3⟩ := hasW_list h1
  obtain ⟨ns, rfl⟩ := items_int h3
  have hlen : ns.length ≤ n := by
    unfold OpenLaw.pre at hc
    have h4 : (WTm.not (.lt (.lit (.int (n : Int))) (.len (.arg 0)))).holds [] { args := [.list (ns.map .int)] } = true := by
      have h4 := (holds_andW hc).1
      rw [hn] at h4
      exact h4
    have h5 := condW_of h4 (w_not (w_lt w_lit (w_len_list (w_arg rfl))))
    rw [List.length_map] at h5
    refine Nat.le_of_not_lt fun q => ?_
    have q' : (n : Int) < ((ns.length : Nat) : Int) := by omega
    first
      | (rw [decide_eq_true q'] at h5; exact absurd h5 (by decide))
      | (simp at h5; omega)
  cases hwl with
  | cons w1 w2 =>
    cases w2
    cases w1 with
    | list ho hall => exact ⟨_, _, ns, rfl, rfl, ho, ints_of_wellAll ns _ hall, hlen⟩
theorem post_true (l : OpenLaw) (args : List WData) : l.row.toRowW.claim.post args (.bool true) args = true :=
  postW_of (r := l.row.toRowW) (X := (true == true))
    (show WShape.has [] (.bool true) .bool = true by first | rfl | decide | simp [WShape.has, WShape.arms, WShape.armsAll])
    (show (WTm.eq .res (.lit (.bool true))).value [] { args := args, res := some (.bool true), after := args } = some (.bool (true == true)) from w_eq_bool (w_res rfl) w_lit) rfl
theorem attach_call {l : OpenLaw} {n : Nat} {q : Program} {loose : List Str} {XP : (Str → Option Value) → Heap → Prop} {YP : World → Heap → Prop} {d : DefRec}
    (hn : l.most = some n) (hdf : d.params.defaults = [])
    (call : ∀ (w : World) (s₀ s₁ : Shared) (mg mb : Str → Option Value) (fa : Addr) (o : Obj) (pm cd doc : Value) (a : Addr) (vs : List Value) (ns : List Int),
      Ground q loose [] XP w s₀ mg mb s₁.heap → YP w s₁.heap →
      s₁.heap.get? fa = some o → o.data = .func (docDef d.name d.params d.body d.scope pm cd doc) → s₁.heap.CodeRec cd d.name → mg d.name = some (.ref fa) →
      s₁.heap.get? a = some { cls := .type "list", data := .seq vs.toArray } → IntsAre vs ns → ns.length ≤ n → s₁.gens = #[] →
      codeAny (model l.prog w) callerA (.call (.ref fa) ⟨[.ref a], []⟩) (fun r s' => r = .ok (.ret (.bool true)) ∧ OldK s₁.heap s'.heap ∧ s'.os = s₁.os ∧ AllBare s'.gens) s₁) :
    WalkO q loose XP YP l.row.toRowW d [] (fun f vs => PySem.call f vs) := by
  intro w s₀ s₁ mg mb G Y fa o pm cd doc dV kV ho hd hcd hD hmg hg args vals as hpre hlay hrd hwl hlo
  obtain rfl : dV = .none := Dflts.none hD hdf
  obtain rfl : kV = .none := Dflts.noKw hD
  obtain ⟨a, vs, ns, rfl, rfl, hobj, hints, hlen⟩ := script_of hn hpre hwl
  refine enter_call (codeAny_mono (call w s₀ s₁ mg mb fa o pm cd doc a vs ns G Y ho (fd_plain hd) hcd hmg hobj hints hlen hg) fun r s' hq => ?_)
  obtain ⟨rfl, h2, h3, h4⟩ := hq
  exact ⟨.inl ⟨.bool true, .bool true, [], rfl, fun _ => rfl, .bool true, post_true l _, fun _ => ⟨List.Pairwise.nil, fun _ hm => (nomatch hm)⟩⟩, h2, h3, h4⟩
section
variable {prog : Program} {w : World} {A : Around} {E : Value → Shared → Prop} {s : Shared} {K : Frag}
end
end Att
namespace L2
open PySem PySem.Spec PyProof.Rows
theorem vals_ints : ∀ {vs : List Value} {ns : List Int}, IntsAre vs ns → Vals (ns.map V.int) vs
  | _, _, .nil => .nil
  | _, _, .cons n t h => .cons ⟨t, rfl⟩ (vals_ints h)
end L2
namespace L2
open PySem PySem.Spec PyProof.Rows
end L2
namespace L2
open PySem PySem.Spec PyProof.Rows
def inClass (s : Stmt) (j : Nat) : Stmt := match s with
  | .ClassDef _ _ _ body _ _ _ _ _ _ _ => body.getD j (.Pass ⟨0, 0, 0, 0⟩)
  | _ => .Pass ⟨0, 0, 0, 0⟩
def defArgs (s : Stmt) : Arguments := match s with
  | .FunctionDef _ a _ _ _ _ _ _ _ _ => a
  | _ => { posonlyargs := [], args := [], vararg := none, kwonlyargs := [], kw_defaults := [], kwarg := none, defaults := [] }
def defBody (s : Stmt) : List Stmt := match s with
  | .FunctionDef _ _ b _ _ _ _ _ _ _ => b
  | _ => []
def defScope (s : Stmt) : Scope := match s with
  | .FunctionDef _ _ _ _ _ _ sc _ _ _ => sc
  | _ => { kind := .function, names := [], isGenerator := false, isCoroutine := false }
abbrev CX0 : CXT := fun _ _ _ _ _ _ => False
abbrev E0 : XK := fun _ _ _ => False
theorem pass0 {X : Cx} : Passes CX0 X E0 := fun _ _ _ _ _ _ _ h => h.elim
structure Fun (K : PySem.W.Frag) (x qual : Str) (st : Stmt) (f : Addr) (fd : FuncData) : Prop where
  ex : ∃ (oc : Value) (od : Option Addr) (kV doc pm : Value) (an : Option Addr) (cdv ct : Value) (osl : Array (Option Value)),
    fd = PySem.W.fnOf x qual (defArgs st) (defBody st) (defScope st) .none kV doc pm an cdv ct ∧ K.lookup f = some ⟨oc, od, .func fd, osl⟩ ∧ PySem.W.codeIn K cdv qual = true
  kp : PySem.W.keepIn K (.ref f) = true
section
variable {P : Program} {w : World} {K : PySem.W.Frag} {mg : Str → Option Value} {base : Heap}
theorem Fun.ok {x qual : Str} {st : Stmt} {f : Addr} {fd : FuncData} {N ps : List Str} {k : Nat} {sp : Sp} (F : Fun K x qual st f fd) (S : FnScope N ps (defScope st)) (len : ∀ vs H Q E, sp vs H Q E → vs.length = ps.length)
    (hbody : ∀ (cdv : Value) (A : Around) (outer : List Env) (s : Shared) (H : Hp) (vs : List V) (Q : VK) (E : XK), Room k (A.deeper (envOfC qual (defScope st) s.heap.objs.size f cdv)) → sp vs H Q E →
      ∃ t, PSs (cxOf CX0 P w K mg base N qual (defScope st) f cdv A outer s H E).nox (defBody st) t ∧ t { nx := fun _ H' => Q .non H', rt := Q } (start N vs) H) : FnOk P w K mg base CX0 (k + 1) f fd ps sp := by
  obtain ⟨oc, od, kV, doc, pm, an, cdv, ct, osl, rfl, lk, hcd⟩ := F.ex
  refine fn_of lk hcd S len fun A outer s H vs Q E hr hsp => ?_
  obtain ⟨t, h, q⟩ := hbody cdv A outer s H vs Q E hr hsp
  exact ⟨t, h.nox, q⟩
theorem Fun.binds {x qual : Str} {st : Stmt} {f : Addr} {fd : FuncData} {ps : List Str} (F : Fun K x qual st f fd)
    (h : ∀ (kV doc pm : Value) (an : Option Addr) (cdv ct : Value) (us : List Value), us.length = ps.length → bindArgs (PySem.W.fnOf x qual (defArgs st) (defBody st) (defScope st) .none kV doc pm an cdv ct) ⟨us, []⟩ = pure (ps.zip us)) : Binds K fd ps [] := by
  obtain ⟨oc, od, kV, doc, pm, an, cdv, ct, osl, rfl, lk, hcd⟩ := F.ex
  exact .all (h kV doc pm an cdv ct)
theorem fun_mk {x qual : Str} {st : Stmt} {f : Addr} {oc : Value} {od an : Option Addr} {osl : Array (Option Value)} {kV doc pm cdv ct : Value} (l : K.lookup f = some ⟨oc, od, .func (PySem.W.fnOf x qual (defArgs st) (defBody st) (defScope st) .none kV doc pm an cdv ct), osl⟩)
    (c : PySem.W.codeIn K cdv qual = true) (k : PySem.W.keepIn K (.ref f) = true) : Fun K x qual st f (PySem.W.fnOf x qual (defArgs st) (defBody st) (defScope st) .none kV doc pm an cdv ct) := ⟨⟨oc, od, kV, doc, pm, an, cdv, ct, osl, rfl, l, c⟩, k⟩
end
theorem hu_of {A : Around} {k : Nat} (hr : Room k A) : A.units + 1 < cLine := Nat.lt_of_le_of_lt (Nat.add_le_add_left (by decide : 1 ≤ 64) _) hr.units
theorem small1000 {n : Nat} (h : n ≤ 1000) : n < sizeLine := Nat.lt_of_le_of_lt h (by decide)
section
variable {X : Cx}
theorem pv (i : Nat) {x : Str} {pos : Pos} (hN : X.N[i]? = some x := by rfl) (hv : Vis X.env.scope x := by first | exact Or.inl rfl | exact Or.inr (Or.inl rfl) | exact Or.inr (Or.inr rfl)) (hd : (x == ("__debug__" : Str)) = false := by decide)
    (hcd : (x == ("__classdict__" : Str)) = false := by decide) : PE X (.Name x pos) (tVar i) := pe_var hN hv hd hcd
end
theorem iteF {A B : Prop} (h : B) : if false = true then A else B := by
  rw [if_neg Bool.false_ne_true]
  exact h
theorem iteT {A B : Prop} (h : A) : if true = true then A else B := by
  rw [if_pos rfl]
  exact h
theorem ite2 {c A B : Prop} [Decidable c] (h1 : c → A) (h2 : ¬ c → B) : if c then A else B := by
  by_cases h : c
  · rw [if_pos h]
    exact h1 h
  · rw [if_neg h]
    exact h2 h
def Same (H H' : Hp) : Prop := ∀ b o, H b = some o → H' b = some o
theorem Same.refl (H : Hp) : Same H H := fun _ _ h => h
theorem Same.trans {H H1 H2 : Hp} (a : Same H H1) (b : Same H1 H2) : Same H H2 := fun c o h => b c o (a c o h)
theorem Same.free {H H' : Hp} (e : Same H H') {l : Addr} (h : H' l = Option.none) : H l = Option.none := by
  cases q : H l with
  | none => rfl
  | some o =>
    rw [e l o q] at h
    cases h
theorem Same.seq {K : PySem.W.Frag} {H H' : Hp} {a : Addr} {xs : List V} (e : Same H H') (h : SqL K H a xs) : SqL K H' a xs := by
  rcases h with (h | ⟨o, h⟩) | h
  · exact .inl (.inl (e _ _ h))
  · exact .inl (.inr ⟨o, e _ _ h⟩)
  · exact .inr h
section
variable {κ : Type} [DecidableEq κ]
theorem valV_in {kvs : List (κ × V)} {k : κ} {v : V} (h : valV kvs k = some v) : k ∈ kvs.map (·.1) := by
  have q : (kvs.any fun kv => decide (kv.1 = k)) = true := by
    rw [valV_any, h]
    all_goals rfl
  obtain ⟨p, hp, e⟩ := List.any_eq_true.mp q
  exact List.mem_map.mpr ⟨p, hp, of_decide_eq_true e⟩
end
end L2
set_option maxRecDepth 100000
namespace L2
open PySem PySem.Spec PyProof.Rows
theorem closure_go {env : Env} : ∀ (names : List (Str × NameKind)) (acc : List (Str × Addr)),
    (∀ y ∈ names, y.2 = .free → ∃ c, env.cells.lookup y.1 = some c) → (∀ x c, acc.lookup x = some c → env.cells.lookup x = some c) →
    ∃ cl, (forIn names acc fun (x : Str × NameKind) cs => (if (x.2 == NameKind.free) = true then (do let c ← cellOf env x.1; pure (ForInStep.yield ((x.1, c) :: cs))) else pure (ForInStep.yield cs) : Sem (ForInStep (List (Str × Addr))))) = pure cl ∧
      (∀ x c, cl.lookup x = some c → env.cells.lookup x = some c) ∧ (∀ y ∈ names, y.2 = .free → ∃ c, cl.lookup y.1 = some c) ∧ (∀ x c, acc.lookup x = some c → ∃ c, cl.lookup x = some c)
  | [], acc, _, ha => ⟨acc, rfl, ha, (fun _ h => nomatch h), fun x c h => ⟨c, h⟩⟩
  | (n, k) :: r, acc, h, ha => by
    rw [List.forIn_cons]
    by_cases hk : k = .free
    · obtain ⟨c, hc⟩ := h (n, k) List.mem_cons_self hk
      have hc' : cellOf env n = pure c := by unfold cellOf; rw [show env.cells.lookup n = some c from hc]
      have ha2 : ∀ x d, ((n, c) :: acc).lookup x = some d → env.cells.lookup x = some d := fun x d hx => by
        rw [List.lookup_cons] at hx
        cases e : x == n with
        | true => rw [e] at hx; cases hx; rw [eq_of_beq e]; exact hc
        | false => rw [e] at hx; exact ha x d hx
      obtain ⟨cl, e, h1, h2, h3⟩ := closure_go r ((n, c) :: acc) (fun y hy => h y (List.mem_cons_of_mem _ hy)) ha2
      refine ⟨cl, ?_, h1, fun y hy hf => ?_, fun x d hx => ?_⟩
      · have hk' : (k == NameKind.free) = true := by rw [hk]; rfl
        simp only [hk', if_true, hc', pure_bind]
        exact e
      · rcases List.mem_cons.mp hy with z | hy
        · rw [z]; exact h3 n c (by simp [List.lookup_cons])
        · exact h2 y hy hf
      · cases e2 : x == n with
        | true => exact h3 x c (by simp [List.lookup_cons, e2])
        | false => exact h3 x d (by simp [List.lookup_cons, e2, hx])
    · have hk' : (k == NameKind.free) = false := by simpa using hk
      obtain ⟨cl, e, h1, h2, h3⟩ := closure_go r acc (fun y hy => h y (List.mem_cons_of_mem _ hy)) ha
      refine ⟨cl, ?_, h1, fun y hy hf => ?_, h3⟩
      · simp only [hk', Bool.false_eq_true, if_false, pure_bind]
        exact e
      · rcases List.mem_cons.mp hy with z | hy
        · rw [z] at hf; exact absurd hf hk
        · exact h2 y hy hf
theorem closure_ok {sc : Scope} {env : Env} (h : ∀ y ∈ sc.names, y.2 = .free → ∃ c, env.cells.lookup y.1 = some c) :
    ∃ cl, closureFor sc env = pure cl ∧ (∀ x c, cl.lookup x = some c → env.cells.lookup x = some c) ∧ (∀ y ∈ sc.names, y.2 = .free → ∃ c, cl.lookup y.1 = some c) := by
  obtain ⟨cl, e, h1, h2, _⟩ := closure_go (env := env) sc.names [] h (fun _ _ h => nomatch h)
  refine ⟨cl, ?_, h1, h2⟩
  unfold closureFor
  have e' : (forIn sc.names ([] : List (Str × Addr)) fun (x : Str × NameKind) cs => (if (x.2 == NameKind.free) = true then (do let c ← cellOf env x.1; pure (ForInStep.yield ((x.1, c) :: cs))) else pure (ForInStep.yield cs) : Sem (ForInStep (List (Str × Addr))))) >>= (fun cs => (pure cs : Sem _)) = pure cl := by rw [e]; rfl
  exact e'
theorem lookup_relabel_free {env : Env} : ∀ {names : List (Str × NameKind)} {x : Str}, names.lookup x = some .free →
    (names.map fun (n, k) => if (k == NameKind.free && env.scope.kind == .function && env.kindOf n == some .cell) then (n, NameKind.cell) else (n, k)).lookup x = some .cell ∨
    (names.map fun (n, k) => if (k == NameKind.free && env.scope.kind == .function && env.kindOf n == some .cell) then (n, NameKind.cell) else (n, k)).lookup x = some .free
  | [], _, h => by simp at h
  | (n, k) :: r, x, h => by
    have ih := @lookup_relabel_free env r x
    show List.lookup x ((if (k == NameKind.free && env.scope.kind == .function && env.kindOf n == some .cell) = true then (n, NameKind.cell) else (n, k)) :: _) = _ ∨ List.lookup x ((if (k == NameKind.free && env.scope.kind == .function && env.kindOf n == some .cell) = true then (n, NameKind.cell) else (n, k)) :: _) = _
    cases hx : x == n with
    | true =>
      simp only [List.lookup_cons, hx] at h
      cases h
      by_cases hc : (NameKind.free == NameKind.free && env.scope.kind == .function && env.kindOf n == some .cell) = true
      · rw [if_pos hc]; simp [List.lookup_cons, hx]
      · rw [if_neg hc]; simp [List.lookup_cons, hx]
    | false =>
      simp only [List.lookup_cons, hx] at h
      by_cases hc : (k == NameKind.free && env.scope.kind == .function && env.kindOf n == some .cell) = true
      · rw [if_pos hc]; simp only [List.lookup_cons, hx]; exact ih h
      · rw [if_neg hc]; simp only [List.lookup_cons, hx]; exact ih h
theorem mem_relabel {env : Env} {names : List (Str × NameKind)} {x : Str} {k : NameKind}
    (h : (names.map fun (n, k) => if (k == NameKind.free && env.scope.kind == .function && env.kindOf n == some .cell) then (n, NameKind.cell) else (n, k)).lookup x = some k) (hk : k = .cell ∨ k = .free) (hc : ∀ y ∈ names, y.2 ≠ .cell) : (x, NameKind.free) ∈ names := by
  have hm := PySem.mem_of_lookup h
  obtain ⟨⟨n, k'⟩, h1, h2⟩ := List.mem_map.mp hm
  dsimp only at h2
  split at h2
  · next hh =>
    cases h2
    have : k' = .free := by
      simp only [Bool.and_eq_true, beq_iff_eq] at hh
      exact hh.1.1
    rw [← this]; exact h1
  · cases h2
    rcases hk with z | z
    · exact absurd z (hc _ h1)
    · rw [← z]; exact h1
abbrev cxComp (X : Cx) (N' : List Str) (sc : Scope) (cl : List (Str × Addr)) (C : Addr) (s3 : Shared) (H0 : Hp) (fp : List Addr) (pn : List (Addr × Obj)) : Cx where
  prog := X.prog
  w := X.w
  K := X.K
  mg := X.mg
  base := X.base
  A := X.A
  N := N'
  s₀ := s3
  H₀ := H0
  env := compEnvC sc cl C X.env
  outer := X.stack
  stack := X.stack
  ex := fp
  fn := fun _ => false
  calm := X.calm
  pn := pn
  xe := fun _ _ => False
structure CScope (osc : Scope) (oN : List Str) (sc : Scope) (own : List Str) (idx : List Nat) (N' : List Str) : Prop where
  kind : sc.kind = .function
  cell : ∀ y ∈ sc.names, y.2 ≠ .cell
  names : ∀ y ∈ sc.names, y.2 = .local → sc.names.lookup y.1 = some .local
  free : ∀ y ∈ sc.names, y.2 = .free → (osc.names.lookup y.1 = some .cell ∨ osc.names.lookup y.1 = some .free)
  seen : ∀ j ∈ idx, sc.names.lookup (oN.getD j "") = some .free ∧ j < oN.length
  nn : N' = own ++ idx.map (fun j => oN.getD j "")
def stIn (own : List Str) (idx : List Nat) (σ : St) : St := List.replicate own.length none ++ idx.map fun j => (σ[j]?).join
section
variable {X : Cx} {pins : List (Addr × Obj)} {σ : St} {H2 : Hp} {s2 : Shared}
theorem inv_comp {sc : Scope} {own : List Str} {idx : List Nat} {N' : List Str} {cl : List (Str × Addr)} {fp : List Addr} {h4 : Heap} {ob : Obj} {ho : HO} {t4 : Nat} (S : CScope X.env.scope X.N sc own idx N') (I : Inv X pins σ H2 s2) (hf : ∀ b ∈ fp, FpOk X pins H2 b) (hfo : ∀ b ∈ fp, ∃ o, s2.heap.get? b = some o)
    (c1 : ∀ x c, cl.lookup x = some c → X.env.cells.lookup x = some c) (c2 : ∀ y ∈ sc.names, y.2 = .free → ∃ c, cl.lookup y.1 = some c) (hob : ob.isFreed = false)
    (hD : ∀ (H : Hp) (h : Heap), h.get? s2.heap.objs.size = some ob → ObjOk X.prog X.w H h s2.heap.objs.size ho)
    (ns : h4.Ns (s2.heap.push ob).objs.size (fun x => ([] : List (Str × Value)).reverse.lookup x)) (sb : ∀ b o, (s2.heap.push ob).get? b = some o → h4.get? b = some o) :
    Inv (cxComp X N' sc cl (s2.heap.push ob).objs.size { s2 with heap := s2.heap.push ob } (upd H2 s2.heap.objs.size ho) fp (X.pn ++ pins)) [] (stIn own idx σ) (upd H2 s2.heap.objs.size ho) { s2 with heap := h4, toks := t4 } := by
  have hsz : (s2.heap.push ob).objs.size = s2.heap.objs.size + 1 := Heap.size_push _ _
  have fr2 : H2 s2.heap.objs.size = none := I.hok.fresh (Nat.le_refl _)
  have up : ∀ b o, s2.heap.get? b = some o → (s2.heap.push ob).get? b = some o := fun b o e => Heap.get?_push_of_some _ e
  have up4 : ∀ b o, s2.heap.get? b = some o → h4.get? b = some o := fun b o e => sb b o (up b o e)
  have ltD : ∀ b o, s2.heap.get? b = some o → b ≠ s2.heap.objs.size := fun b o e => Nat.ne_of_lt (Heap.lt_size e)
  have nh : ∀ b o, s2.heap.get? b = some o → H2 b = none → upd H2 s2.heap.objs.size ho b = none := fun b o e n => by rw [upd_ne (ltD b o e)]; exact n
  have stkO : ∀ b ∈ frs X.stack, ∃ o, s2.heap.get? b = some o := fun b hb => by
    obtain ⟨_, o, ho, _⟩ := I.stack.mem hb
    exact ⟨o, ho⟩
  have cellO : ∀ x c, cl.lookup x = some c → ∃ o, s2.heap.get? c = some o := fun x c e => by
    obtain ⟨v, o, ho, _⟩ := I.cell x c (c1 x c e)
    exact ⟨o, ho⟩
  have eD : (s2.heap.push ob).get? s2.heap.objs.size = some ob := Heap.get?_push_size s2.heap hob
  have hok3 : HOk X.prog X.w (upd H2 s2.heap.objs.size ho) h4 := I.hok.laid up4 (Nat.le_refl _) (hD _ _ (sb _ _ eD))
  refine ⟨⟨I.ok.mod, S.kind, I.ok.glob, I.ok.blt, Nat.le_refl _, fun x y c h1 h2 => I.ok.inj x y c (c1 x c h1) (c1 y c h2), fun x hx => ?_, (fun x c hx _ => nomatch hx), I.ok.hd, I.ok.frames, .inl rfl, fun b hb => ⟨?_, fun x c e => ?_⟩, fun b o e => ⟨?_, ?_⟩, ?_, fun b o e hb => ?_, fun b hb => ?_, ?_, fun b hb => ?_⟩,
    rfl, I.bare, Un.kept sb, ⟨_, ns, fun i x v h1 h2 h3 => ?_⟩, fun x c e => ?_, ?_, fun x c e => ?_, fun p hp => ?_, hok3, ?_⟩
  · rcases hx with hx | hx
    · exact c2 (x, .free) (mem_relabel hx (.inl rfl) S.cell) rfl
    · exact c2 (x, .free) (mem_relabel hx (.inr rfl) S.cell) rfl
  · obtain ⟨o, e⟩ := hfo b hb
    have := Heap.lt_size e
    show b ≠ (s2.heap.push ob).objs.size
    rw [hsz]; exact Nat.ne_of_lt (Nat.lt_succ_of_lt this)
  · exact (hf b hb).2.2.2.2.1 x c (c1 x c e)
  · exact up b o (I.bk b o e)
  · exact nh b o (I.bk b o e) (I.bs b o e).2
  · show X.base.objs.size ≤ (s2.heap.push ob).objs.size
    have := Nat.le_trans I.ok.bsz I.sz
    rw [hsz]; omega
  · obtain ⟨f0, f1, f2, f3, f4, f5⟩ := hf b hb
    rcases f3 with z | z
    · exact I.ok.noex b o e z
    · exact absurd (Heap.lt_size e) (Nat.not_lt.mpr (Nat.le_trans I.ok.bsz z))
  · obtain ⟨f0, f1, f2, f3, f4, f5⟩ := hf b hb
    intro z
    rcases List.mem_cons.mp (I.stkSub b z) with z | z
    · exact f1 z
    · exact f2 z
  · exact Heap.FunFrames.of_keeps (fun b o e _ => ⟨o, up b o e, rfl⟩) I.stack
  · obtain ⟨o, e⟩ := stkO b hb
    exact nh b o e (I.stkFree b hb)
  · unfold stIn at h2
    by_cases hi : i < own.length
    · rw [List.getElem?_append_left (by simpa using hi), List.getElem?_replicate, if_pos hi] at h2
      cases h2
    · rw [List.getElem?_append_right (by simpa using hi), List.length_replicate, List.getElem?_map] at h2
      have h1' : N'[i]? = some x := h1
      rw [S.nn, List.getElem?_append_right (by simpa using hi), List.getElem?_map] at h1'
      cases ej : idx[i - own.length]? with
      | none => rw [ej] at h1'; cases h1'
      | some j =>
        rw [ej] at h1' h2
        obtain ⟨hs1, hs2⟩ := S.seen j (List.mem_of_getElem? ej)
        have hx : X.N[j]? = some x := by
          have : X.N.getD j "" = x := Option.some.inj h1'
          rw [← this, List.getD_eq_getElem?_getD, List.getElem?_eq_getElem hs2]; rfl
        have hv : σ[j]? = some (some v) := by
          have h2' : (σ[j]?).join = some v := Option.some.inj h2
          cases q : σ[j]? with
          | none => rw [q] at h2'; cases h2'
          | some w => rw [q] at h2'; exact congrArg some h2'
        have hsx : sc.names.lookup x = some .free := by
          have : X.N.getD j "" = x := Option.some.inj h1'
          rw [← this]; exact hs1
        have hmem : (x, NameKind.free) ∈ sc.names := PySem.mem_of_lookup hsx
        obtain ⟨m, hn, hl⟩ := I.loc
        have hvis : Vis X.env.scope x := by
          rcases S.free _ hmem rfl with z | z
          · exact .inr (.inl z)
          · exact .inr (.inr z)
        obtain ⟨u, r, lk⟩ := hl j x v hx hv hvis
        refine ⟨u, r, ?_⟩
        rcases lk with ⟨k, _⟩ | ⟨k, c, e, z⟩
        · rcases S.free _ hmem rfl with q | q
          · have q' : X.env.kindOf x = some .cell := q
            rw [q'] at k; cases k
          · have q' : X.env.kindOf x = some .free := q
            rw [q'] at k; cases k
        · obtain ⟨c', hc'⟩ := c2 (x, .free) hmem rfl
          have e' := c1 x c' hc'
          rw [e] at e'
          cases e'
          refine .inr ⟨?_, c, hc', ?_⟩
          · rcases lookup_relabel_free (env := X.env) hsx with q | q
            · exact .inl q
            · exact .inr q
          · obtain ⟨o, ho', hd⟩ := z
            exact ⟨o, up4 c o ho', hd⟩
  · obtain ⟨v, o, ho', hd⟩ := I.cell x c (c1 x c e)
    exact ⟨v, o, up4 c o ho', hd⟩
  · show upd H2 s2.heap.objs.size ho (s2.heap.push ob).objs.size = none
    rw [upd_ne (by rw [hsz]; exact Nat.ne_of_gt (Nat.lt_succ_self _))]
    exact I.hok.fresh (by rw [hsz]; omega)
  · obtain ⟨o, e1⟩ := cellO x c e
    exact nh c o e1 (I.freeC x c (c1 x c e))
  · have hp' : p ∈ X.pn ++ pins := by simpa using hp
    obtain ⟨e, n, ne, nf, d⟩ := I.pin p hp'
    refine ⟨up4 _ _ e, nh _ _ e n, ?_, fun z => ?_, d⟩
    · have := Heap.lt_size e
      show p.1 ≠ (s2.heap.push ob).objs.size
      rw [hsz]; exact Nat.ne_of_lt (Nat.lt_succ_of_lt this)
    · rcases List.mem_cons.mp (I.stkSub p.1 z) with z | z
      · exact ne z
      · exact nf z
  · show (stIn own idx σ).length = N'.length
    rw [S.nn]; unfold stIn
    simp
theorem comp_back {sc : Scope} {N' : List Str} {cl : List (Str × Addr)} {fp : List Addr} {ob : Obj} {ho : HO} {τ : St} {H' : Hp} {s' : Shared} (I : Inv X pins σ H2 s2) (hf : ∀ b ∈ fp, FpOk X pins H2 b) (hob : ob.isFreed = false)
    (J : Inv (cxComp X N' sc cl (s2.heap.push ob).objs.size { s2 with heap := s2.heap.push ob } (upd H2 s2.heap.objs.size ho) fp (X.pn ++ pins)) [] τ H' s') :
    Inv X pins σ H' s' ∧ H' (s2.heap.push ob).objs.size = none ∧ (s2.heap.push ob).objs.size ≠ X.env.locals ∧ X.s₀.heap.objs.size ≤ (s2.heap.push ob).objs.size ∧
      (∀ x c, X.env.cells.lookup x = some c → c ≠ (s2.heap.push ob).objs.size) ∧ (∀ p ∈ X.pn ++ pins, p.1 ≠ (s2.heap.push ob).objs.size) ∧ ∃ m, s'.heap.Ns (s2.heap.push ob).objs.size m := by
  have hsz : (s2.heap.push ob).objs.size = s2.heap.objs.size + 1 := Heap.size_push _ _
  have u1 : Un (frs X.stack) fp H2 (upd H2 s2.heap.objs.size ho) s2.heap (s2.heap.push ob) := Un.laid (fun b o e => Heap.get?_push_of_some _ e) (Nat.le_refl _) (I.hok.fresh (Nat.le_refl _))
  have u2 : Un (frs X.stack) fp (upd H2 s2.heap.objs.size ho) H' (s2.heap.push ob) s'.heap := J.base
  have hos : s'.os = s2.os := J.os
  refine ⟨I.call' hos (u1.trans u2) J.hok J.bare fun b hb => ?_, J.free, ?_, ?_, fun x c e z => ?_, fun p hp z => ?_, let ⟨m, hn, _⟩ := J.loc; ⟨m, hn⟩⟩
  · obtain ⟨f0, f1, f2, f3, f4, f5⟩ := hf b hb
    exact ⟨f3, f1, f4, f5⟩
  · rw [hsz]; exact Nat.ne_of_gt (Nat.lt_succ_of_lt I.lt)
  · have := I.sz; rw [hsz]; omega
  · obtain ⟨v, q⟩ := I.cell x c e
    have := q.lt
    rw [z, hsz] at this; exact absurd this (Nat.not_lt.mpr (Nat.le_succ _))
  · have := Heap.lt_size (I.pin p hp).1
    rw [z, hsz] at this; exact absurd this (Nat.not_lt.mpr (Nat.le_succ _))
end
section
variable {prog : Program} {w : World} {A : Around} {R : Result → Shared → Prop} {s : Shared}
abbrev NoE : Value → Shared → Prop := fun _ _ => False
theorem compLoopG {elt target iter : Expr} {ifs : List Expr} {scope : Scope} {pos : Pos} {it acc : Value} {env : Env} (I : Nat → Shared → Prop)
    (turn : ∀ n s, I n s → wpAny (model prog w) A (pyNext it) (fun r s₁ => match r with
      | none => R (.ok .next) s₁
      | some v => wpAny (model prog w) A (letOwnedTupleGo target it v) (fun _ s₁' => wpAny (model prog w) A (assign target env v) (fun _ s₂ =>
          wpAny (model prog w) A (forIn ifs true fun c r => if r = true then do let ok ← isTrue c env (eval c env); pure (ForInStep.yield ok) else pure (ForInStep.yield r)) (fun ok s₃ =>
            if ok = true then wpAny (model prog w) A (eval elt env) (fun x s₄ =>
              wpAny (model prog w) A (call (.builtin "list.append") [acc, x]) (fun _ s₅ => ∃ m, m < n ∧ I m s₅) NoE s₄) NoE s₃
            else ∃ m, m < n ∧ I m s₃) NoE s₂) NoE s₁') NoE s₁) NoE s)
    (n : Nat) (h : I n s) :
    codeAny (model prog w) A (.compLoop (.ListComp elt [⟨target, iter, ifs, 0⟩] scope pos) 0 it acc env) R s := by
  refine codeAny_loop rfl I (fun n s hI => ?_) n h
  show wpAny _ A ((compTurn (.ListComp elt [⟨target, iter, ifs, 0⟩] scope pos) 0 it acc env).onRaise (fun x => do noteFrame x env; theTreesLotGoes x)) _ _ s
  refine wpAny_noted ?_
  rw [compTurn_list]
  refine wpAny_bind (wpAny_standAt (wpAny_bind (wpAny_mono (turn n s hI) (fun r s₁ h₁ => ?_) fun _ _ h' => h'.elim)))
  cases r with
  | none => exact wpAny_pure h₁
  | some v =>
    refine wpAny_bind (wpAny_mono h₁ (fun _ s₁' h₁' => ?_) fun _ _ h' => h'.elim)
    refine wpAny_bind (wpAny_mono h₁' (fun _ s₂ h₂ => wpAny_bind (wpAny_mono h₂ (fun ok s₃ h₃ => ?_) fun _ _ h' => h'.elim)) fun _ _ h' => h'.elim)
    cases ok with
    | false => exact wpAny_pure ⟨rfl, h₃⟩
    | true =>
      exact wpAny_bind (wpAny_bind (wpAny_mono h₃ (fun x s₄ h₄ => wpAny_bind (wpAny_mono h₄ (fun _ s₅ h₅ => wpAny_pure (wpAny_pure ⟨rfl, h₅⟩)) fun _ _ h' => h'.elim)) fun _ _ h' => h'.elim))
end
abbrev TC := St → Hp → (Bool → Hp → Prop) → Prop
def PC' (X : Cx) (ifs : List Expr) (t : TC) : Prop :=
  ∀ (pins : List (Addr × Obj)) (s : Shared) (σ : St) (H : Hp) (Q : Bool → Hp → Prop), Inv X pins σ H s → t σ H Q →
    wpAny (model X.prog X.w) X.A (forIn ifs true fun c r => if r = true then do let ok ← isTrue c X.env (eval c X.env); pure (ForInStep.yield ok) else pure (ForInStep.yield r)) (TP X pins σ Q) X.xe s
def tcNil : TC := fun _ H Q => Q true H
theorem pc_nil' {X : Cx} : PC' X [] tcNil := fun pins s σ H Q I h => wpAny_pure ⟨H, I, h⟩
theorem pc_one' {X : Cx} {c : Expr} {t : TT} (h : PT X c t) : PC' X [c] t := fun pins s σ H Q I hq => wpAny_tests_one (h pins s σ H Q I hq)
def tLC (own : List Str) (idx : List Nat) (wi : TI) (g : TG) (tc : TC) (te : TE) : TE := fun σ H Q => wi σ H fun J H1 => ∀ D, H1 D = none → ∃ W : Nat → Nat → St → Hp → Prop, (∃ m, W 0 m (stIn own idx σ) (upd H1 D (.lst []))) ∧ ∀ i m τ H, W i m τ H →
  (J.stop i H ∧ Q (.ref D) H) ∨ (J.go i H ∧ ∃ N : St → Hp → Prop, (∀ τ' H', N τ' H' → ∃ m', m' < m ∧ W (i + 1) m' τ' H') ∧ ∀ x H', J.yld i H x H' → g x τ H' fun τ2 H2 => tc τ2 H2 fun b H3 =>
    if b = true then te τ2 H3 fun y H4 => ∃ xs, H4 D = some (.lst xs) ∧ xs.length < sizeLine ∧ N τ2 (upd H4 D (.lst (xs ++ [y]))) else N τ2 H3)
section
variable {X : Cx} {tg iter elt : Expr} {ifs : List Expr} {sc : Scope} {pos : Pos} {own : List Str} {idx : List Nat} {N' : List Str} {wi : TI} {g : TG} {tc : TC} {te : TE}
abbrev lob : Obj := { cls := .type "list", dict := none, data := .seq ([] : List Value).toArray }
theorem comp_block (S : CScope X.env.scope X.N sc own idx N') {cl : List (Str × Addr)} (c1 : ∀ x c, cl.lookup x = some c → X.env.cells.lookup x = some c) (c2 : ∀ y ∈ sc.names, y.2 = .free → ∃ c, cl.lookup y.1 = some c) (hc : X.calm = true)
    (hg : ∀ cl C s3 H0 fp pn, PG (cxComp X N' sc cl C s3 H0 fp pn) tg g) (ht : ∀ cl C s3 H0 fp pn, PC' (cxComp X N' sc cl C s3 H0 fp pn) ifs tc) (he : ∀ cl C s3 H0 fp pn, PE (cxComp X N' sc cl C s3 H0 fp pn) elt te)
    {pins : List (Addr × Obj)} {σ : St} {Q : VK} {itv : Value} {s2 : Shared} {RR : Value → Addr → Result → Shared → Prop} {E : Value → Shared → Prop}
    (hI : PIE X pins σ tg (fun J H1 => ∀ D, H1 D = none → ∃ W : Nat → Nat → St → Hp → Prop, (∃ m, W 0 m (stIn own idx σ) (upd H1 D (.lst []))) ∧ ∀ i m τ H, W i m τ H →
      (J.stop i H ∧ Q (.ref D) H) ∨ (J.go i H ∧ ∃ N : St → Hp → Prop, (∀ τ' H', N τ' H' → ∃ m', m' < m ∧ W (i + 1) m' τ' H') ∧ ∀ x H', J.yld i H x H' → g x τ H' fun τ2 H2 => tc τ2 H2 fun b H3 =>
        if b = true then te τ2 H3 fun y H4 => ∃ xs, H4 D = some (.lst xs) ∧ xs.length < sizeLine ∧ N τ2 (upd H4 D (.lst (xs ++ [y]))) else N τ2 H3)) itv s2)
    (hRR : ∀ D C H' s', Inv X pins σ H' s' → Q (.ref D) H' → (H' C = none ∧ C ≠ X.env.locals ∧ X.s₀.heap.objs.size ≤ C ∧ (∀ x c, X.env.cells.lookup x = some c → c ≠ C) ∧ (∀ p ∈ X.pn ++ pins, p.1 ≠ C) ∧ ∃ m, s'.heap.Ns C m) → RR (.ref D) C (.ok .next) s') :
    wpAny (model X.prog X.w) X.A (newList []) (fun acc s₃ => wpAny (model X.prog X.w) X.A (newFunctionEnv sc X.env.globals cl [] X.env.qual none .none (some X.env)) (fun cenv s₄ =>
      codeAny (model X.prog X.w) X.A (.compStart (.ListComp elt [⟨tg, iter, ifs, 0⟩] sc pos) 0 itv acc { cenv with scope := relabel sc X.env }) (RR acc cenv.locals) s₄) E s₃) E s2 := by
  obtain ⟨it, fp, tn, J, H2, rfl, I, T, st2, f2, body⟩ := hI
  refine wpAny_newObj_type (wpAny_newFunctionEnv S.cell (by intro y hy; simp at hy) (fun h4 ns sb => ?_) S.kind)
  dsimp only at ns sb ⊢
  have hob : lob.isFreed = false := rfl
  have fr : H2 s2.heap.objs.size = none := I.hok.fresh (Nat.le_refl _)
  obtain ⟨W, ⟨m0, w0⟩, turn⟩ := body _ fr
  have hfo : ∀ b ∈ fp, ∃ o, s2.heap.get? b = some o := fun b hb => let ⟨o, e, _⟩ := T.obj _ _ st2 b hb; ⟨o, e⟩
  have sb' : ∀ b o, (s2.heap.push lob).get? b = some o → h4.get? b = some o := fun b o e => (sb.2 b (Nat.ne_of_lt (Heap.lt_size e))).trans (Heap.get?_push_of_some _ e)
  have hDo : ∀ (H : Hp) (h : Heap), h.get? s2.heap.objs.size = some lob → ObjOk X.prog X.w H h s2.heap.objs.size (.lst []) := fun H h e => ⟨Nat.zero_le _, [], _, .nil, e⟩
  have I4 : Inv (cxComp X N' sc cl (s2.heap.push lob).objs.size { s2 with heap := s2.heap.push lob } (upd H2 s2.heap.objs.size (.lst [])) fp (X.pn ++ pins)) [] (stIn own idx σ) (upd H2 s2.heap.objs.size (.lst [])) { s2 with heap := h4, toks := s2.toks + ([] : List (Str × Value)).length } :=
    inv_comp S I f2 hfo c1 c2 hob hDo ns sb'
  -- the block's own context
  generalize hY : cxComp X N' sc cl (s2.heap.push lob).objs.size { s2 with heap := s2.heap.push lob } (upd H2 s2.heap.objs.size (.lst [])) fp (X.pn ++ pins) = Y at I4
  have hgY : PG Y tg g := by rw [← hY]; exact hg _ _ _ _ _ _
  have htY : PC' Y ifs tc := by rw [← hY]; exact ht _ _ _ _ _ _
  have heY : PE Y elt te := by rw [← hY]; exact he _ _ _ _ _ _
  have pY : Y.prog = X.prog := by rw [← hY]
  have wY : Y.w = X.w := by rw [← hY]
  have KY : Y.K = X.K := by rw [← hY]
  have AY : Y.A = X.A := by rw [← hY]
  have cY : Y.calm = true := by rw [← hY]; exact hc
  have xY : Y.xe = fun _ _ => False := by rw [← hY]
  have eY : Y.env = compEnvC sc cl (s2.heap.push lob).objs.size X.env := by rw [← hY]
  have exY : Y.ex = fp := by rw [← hY]
  have fsY : Y.fs = frs X.stack := by rw [← hY]
  have pnY : Y.pn = X.pn ++ pins := by rw [← hY]
  have stat : ∀ {H' : Hp}, (∀ b ∈ fp, H' b = none) → ∀ b ∈ fp, FpOk Y [] H' b := fun hn b hb => by
    obtain ⟨f0, f1, f3, f4, f5, f6⟩ := f2 b hb
    refine ⟨hn b hb, ?_, ?_, .inl (by rw [exY]; exact hb), fun x c e => ?_, fun p hp => ?_⟩
    · obtain ⟨o, e⟩ := hfo b hb
      have := Heap.lt_size e
      rw [eY]
      show b ≠ (s2.heap.push lob).objs.size
      rw [Heap.size_push]; exact Nat.ne_of_lt (Nat.lt_succ_of_lt this)
    · rw [fsY]
      intro z
      rcases List.mem_cons.mp (I.stkSub b z) with z | z
      · exact f1 z
      · exact f3 z
    · rw [eY] at e
      exact f5 x c (c1 x c e)
    · rw [pnY, List.append_nil] at hp
      exact f6 p hp
  have st4 : tn 0 h4 := T.keep _ _ _ st2 fun b hb o e => sb' b o (Heap.get?_push_of_some _ e)
  have fr4 : ∀ b ∈ fp, upd H2 s2.heap.objs.size (.lst []) b = none := fun b hb => by
    obtain ⟨o, e⟩ := hfo b hb
    rw [upd_ne (Nat.ne_of_lt (Heap.lt_size e))]
    exact (f2 b hb).1
  have loop : codeAny (model X.prog X.w) X.A (.compLoop (.ListComp elt [⟨tg, iter, ifs, 0⟩] sc pos) 0 (.ref it) (.ref s2.heap.objs.size) (compEnvC sc cl (s2.heap.push lob).objs.size X.env))
      (RR (.ref s2.heap.objs.size) (s2.heap.push lob).objs.size) { s2 with heap := h4, toks := s2.toks + ([] : List (Str × Value)).length } := by
    refine compLoopG (fun n s' => ∃ i τ H', Inv Y [] τ H' s' ∧ tn i s'.heap ∧ (∀ b ∈ fp, H' b = none) ∧ W i n τ H') ?_ m0 ⟨0, _, _, I4, st4, fr4, w0⟩
    rintro n s3 ⟨i, τ3, H3, I3, st3, fr3, w3⟩
    rcases turn i n τ3 H3 w3 with ⟨stop, qn⟩ | ⟨go, N, hN, step⟩
    · have h := T.done Y pY wY KY cY i [] s3 τ3 H3 NoE I3 (stat fr3) st3 stop
      rw [AY] at h
      refine thn h ?_
      rintro r s4 ⟨hr, I4'⟩
      subst hr
      have J4 := I4'
      rw [← hY] at J4
      obtain ⟨b1, b2⟩ := comp_back I f2 hob J4
      exact hRR _ _ _ _ b1 qn b2
    · have h := T.item Y pY wY KY cY i [] s3 τ3 H3 NoE I3 (stat fr3) st3 go
      rw [AY] at h
      refine thn h ?_
      rintro r s4 ⟨u, hr, h4'⟩
      subst hr
      refine thn h4' ?_
      rintro _ s5 ⟨x, H5, I5, r5, y5, st5, fr5⟩
      have I5' := I5.pinned (stat fr5) (T.obj _ _ st5)
      have g5 := hgY _ s5 τ3 H5 x u _ I5' r5 (step x H5 y5)
      rw [pY, wY, AY, xY, eY] at g5
      refine thn g5 ?_
      rintro _ s6 ⟨τ6, H6, I6, q6⟩
      have t6 := htY _ s6 τ6 H6 _ I6 q6
      rw [pY, wY, AY, xY, eY] at t6
      refine thn t6 ?_
      rintro ok s7 ⟨H7, I7, q7⟩
      have again : ∀ {τ8 : St} {H8 : Hp} {s8 : Shared}, Inv Y ([] ++ pinsAt fp s5.heap) τ8 H8 s8 → N τ8 H8 → ∃ m, m < n ∧ ∃ i τ' H', Inv Y [] τ' H' s8 ∧ tn i s8.heap ∧ (∀ b ∈ fp, H' b = none) ∧ W i m τ' H' := fun {τ8 H8 s8} I8 n8 => by
        obtain ⟨m', hm, w8⟩ := hN τ8 H8 n8
        refine ⟨m', hm, i + 1, τ8, H8, I8.unpinned, T.keep _ _ _ st5 fun b hb o e => (I8.pin (b, o) (List.mem_append_right _ (List.mem_append_right _ (mem_pinsAt hb e)))).1, fun b hb => ?_, w8⟩
        obtain ⟨o, e, d⟩ := T.obj _ _ st5 b hb
        exact (I8.pin (b, o) (List.mem_append_right _ (List.mem_append_right _ (mem_pinsAt hb e)))).2.1
      cases ok with
      | false =>
        rw [if_neg (by decide)] at q7 ⊢
        exact again I7 q7
      | true =>
        rw [if_pos rfl] at q7 ⊢
        have e7 := heY _ s7 τ6 H7 _ I7 q7
        rw [pY, wY, AY, xY, eY] at e7
        refine thn e7 ?_
        rintro yv s8 ⟨y, H8, I8, r8, xs, hD8, hz, n8⟩
        have a8 := mt_append (X := Y) _ s8 τ6 H8 (.ref s2.heap.objs.size) [y] (.ref s2.heap.objs.size) [yv] (fun v H' => N τ6 H') I8 rfl (.cons r8 .nil) ⟨_, xs, y, rfl, rfl, hD8, hz, n8⟩
        rw [pY, wY, AY, xY] at a8
        refine thn a8 ?_
        rintro _ s9 ⟨_, H9, I9, _, n9⟩
        exact again I9 n9
  exact codeAny_compStart_list loop (T.self _ 0 _ _ _ st4 loop)
theorem CScope.closure (S : CScope X.env.scope X.N sc own idx N') (ok : X.Ok) : ∃ cl, closureFor sc X.env = pure cl ∧ (∀ x c, cl.lookup x = some c → X.env.cells.lookup x = some c) ∧ (∀ y ∈ sc.names, y.2 = .free → ∃ c, cl.lookup y.1 = some c) :=
  closure_ok fun y hy hf => ok.has _ (S.free y hy hf)
theorem pe_lc (S : CScope X.env.scope X.N sc own idx N') (hc : X.calm = true) (hi : PI X tg iter wi)
    (hg : ∀ cl C s3 H0 fp pn, PG (cxComp X N' sc cl C s3 H0 fp pn) tg g) (ht : ∀ cl C s3 H0 fp pn, PC' (cxComp X N' sc cl C s3 H0 fp pn) ifs tc) (he : ∀ cl C s3 H0 fp pn, PE (cxComp X N' sc cl C s3 H0 fp pn) elt te)
    (hs : ∀ x, foldedSetIterable iter X.env x = pure x := by intro _; rfl) : PE X (.ListComp elt [⟨tg, iter, ifs, 0⟩] sc pos) (tLC own idx wi g tc te) := by
  intro pins s σ H Q I h
  obtain ⟨cl, hcl, c1, c2⟩ := S.closure I.ok
  rw [eval_ListComp]
  refine wpAny_comprehension_free (use := none) rfl hs hcl S.kind S.names (thn (hi pins s σ H _ I h) fun v s1 h1 => thn h1 fun itv s2 h2 => ?_)
  refine comp_block (Q := Q) (pins := pins) (σ := σ) (RR := fun acc C => compPost (model X.prog X.w) X.A X.xe none (EP X pins σ Q) acc C) S c1 c2 hc hg ht he h2 ?_
  intro D C H' s' I' q ⟨a1, a2, a3, a4, a5, m, a6⟩
  exact ⟨m, a6, fun h' sb => ⟨.ref D, H', I'.turned (t' := s'.toks) (fun b o hb e => (sb.2 b hb).trans e) a1 (Ne.symm (Ne.symm a2)) (.inr a3) a4 a5, rfl, q⟩⟩
theorem ps_lc {i : Nat} {y : Str} {py spos : Pos} (S : CScope X.env.scope X.N sc own idx N') (hc : X.calm = true) (hi : PI X tg iter wi)
    (hg : ∀ cl C s3 H0 fp pn, PG (cxComp X N' sc cl C s3 H0 fp pn) tg g) (ht : ∀ cl C s3 H0 fp pn, PC' (cxComp X N' sc cl C s3 H0 fp pn) ifs tc) (he : ∀ cl C s3 H0 fp pn, PE (cxComp X N' sc cl C s3 H0 fp pn) elt te)
    (hN : X.N.Nodup) (hiy : X.N[i]? = some y) (hy : X.env.scope.names.lookup y = some .local)
    (hsw : swapsWith (.ListComp elt [⟨tg, iter, ifs, 0⟩] sc pos) (some (.Name y py)) spos.line X.env = pure true := by rfl)
    (hs : ∀ x, foldedSetIterable iter X.env x = pure x := by intro _; rfl) : PS X (.Assign [.Name y py] (.ListComp elt [⟨tg, iter, ifs, 0⟩] sc pos) spos) (tAsg (tLC own idx wi g tc te) (gName i)) := by
  intro pins s σ H D I h
  obtain ⟨cl, hcl, c1, c2⟩ := S.closure I.ok
  rw [exec_Assign_Name_used _ _ _ _ hsw]
  refine wpAny_bind (wpAny_standAt (wpAny_bind ?_))
  show wpAny _ X.A (do let _ ← comprehension (.ListComp elt [⟨tg, iter, ifs, 0⟩] sc pos) sc X.env _ (newList []) false (eval iter X.env) (some (assign (.Name y py) X.env))) _ _ s
  refine wpAny_bind (wpAny_mono (wpAny_comprehension_free (use := some (assign (.Name y py) X.env)) (Q := fun _ s' => SP X pins D .next s') rfl hs hcl S.kind S.names
    (thn (hi pins s σ H _ I h) fun v s1 h1 => thn h1 fun itv s2 h2 => ?_)) (fun _ s' hq => wpAny_pure (wpAny_pure hq)) fun _ _ e => e)
  refine comp_block (Q := fun x H1 => gName i x σ H1 D.nx) (pins := pins) (σ := σ) (RR := fun acc C => compPost (model X.prog X.w) X.A X.xe (some (assign (.Name y py) X.env)) (fun _ s' => SP X pins D .next s') acc C) S c1 c2 hc hg ht he h2 ?_
  intro D' C H' s' I' q ⟨a1, a2, a3, a4, a5, m, a6⟩
  show wpAny _ X.A (assign (.Name y py) X.env (.ref D')) _ _ _
  refine wpAny_assign_Name (store_ok2 (v := .ref D') I' hN hiy (.inl hy) rfl (fun s'' I'' ⟨a, sb, ha⟩ => ?_) (.inr hy))
  have nCa : C ≠ a := by
    rcases ha with z | z
    · rw [z]; exact a2
    · exact Ne.symm (a4 _ _ z)
  refine ⟨m, a6.sameBut sb nCa, fun h' sb' => ⟨_, H', I''.turned (t' := s''.toks) (fun b o hb e => (sb'.2 b hb).trans e) a1 a2 (.inr a3) a4 a5, q⟩⟩
end
end L2
set_option maxRecDepth 100000
namespace L2
open PySem PySem.Spec PyProof.Rows
def tV (i : Nat) : TE := fun σ H Q => match σ[i]? with | some (some v) => Q v H | _ => False
section
variable {X : Cx}
theorem pvv (i : Nat) {x : Str} {pos : Pos} (hN : X.N[i]? = some x := by rfl) (hv : Vis X.env.scope x := by first | exact Or.inl rfl | exact Or.inr (Or.inl rfl) | exact Or.inr (Or.inr rfl)) (hd : (x == ("__debug__" : Str)) = false := by decide) (hcd : (x == ("__classdict__" : Str)) = false := by decide) : PE X (.Name x pos) (tV i) := by
  intro pins s σ H Q I h
  refine pe_var hN hv hd hcd pins s σ H Q I ?_
  unfold tV at h
  split at h
  · next v e => exact ⟨v, e, h⟩
  · exact h.elim
def rAddD : R2 := fun x y H Q => match x, y with
  | .int i, .int j => Q (.int (i + j)) H
  | .str i, .str j => i.length + j.length ≤ sizeLine ∧ Q (.str (i ++ j)) H
  | .ref l, .ref b => (∃ xs zs, H l = some (.lst xs) ∧ H b = some (.lst zs) ∧ xs.length + zs.length ≤ sizeLine ∧ ∀ p, H p = none → Q (.ref p) (upd H p (.lst (xs ++ zs))))
  | _, _ => False
theorem op_addD : OpR X (binaryOp .Add) rAddD := by
  intro pins s σ H x y v u Q I rx ry h
  cases x <;> cases y <;> first
    | exact (show False from h).elim
    | exact op_add pins s σ H _ _ v u Q I rx ry ⟨_, _, rfl, rfl, h⟩
    | exact op_add_str pins s σ H _ _ v u Q I rx ry ⟨_, _, rfl, rfl, h.1, h.2⟩
    | (obtain ⟨xs, zs, h1, h2, h3, h4⟩ := h; exact op_cat pins s σ H _ _ v u Q I rx ry ⟨_, _, xs, zs, rfl, rfl, h1, h2, h3, h4⟩)
def rMulD : R2 := fun x y H Q => match x, y with | .int i, .int j => CMul i j ∧ Q (.int (i * j)) H | _, _ => False
theorem op_mulD : OpR X (binaryOp .Mult) rMulD := by
  intro pins s σ H x y v u Q I rx ry h
  cases x <;> cases y <;> first
    | exact (show False from h).elim
    | exact op_mul pins s σ H _ _ v u Q I rx ry ⟨_, _, rfl, rfl, h.1, h.2⟩
def rModD : R2 := fun x y H Q => match x, y with | .int i, .int j => 0 < j ∧ Q (.int (i % j)) H | _, _ => False
theorem op_modD : OpR X (binaryOp .Mod) rModD := by
  intro pins s σ H x y v u Q I rx ry h
  cases x <;> cases y <;> first
    | exact (show False from h).elim
    | exact op_mod pins s σ H _ _ v u Q I rx ry ⟨_, _, rfl, rfl, h.1, h.2⟩
def rDivD : R2 := fun x y H Q => match x, y with | .int i, .int j => (0 < j ∧ j < 1073741824) ∧ Q (.int (i / j)) H | _, _ => False
theorem op_divD : OpR X (binaryOp .FloorDiv) rDivD := by
  intro pins s σ H x y v u Q I rx ry h
  cases x <;> cases y <;> first
    | exact (show False from h).elim
    | exact op_fdiv pins s σ H _ _ v u Q I rx ry ⟨_, _, rfl, rfl, h.1, h.2⟩
def rPowD : R2 := fun x y H Q => match x, y with | .int i, .int j => CPow i j ∧ Q (.int (i ^ j.toNat)) H | _, _ => False
theorem op_powD : OpR X (binaryOp .Pow) rPowD := by
  intro pins s σ H x y v u Q I rx ry h
  cases x <;> cases y <;> first
    | exact (show False from h).elim
    | exact op_pow pins s σ H _ _ v u Q I rx ry ⟨_, _, rfl, rfl, h.1, h.2⟩
def rIC (p : Int → Int → Bool) : R2 := fun x y H Q => match x, y with | .int i, .int j => Q (.bl (p i j)) H | _, _ => False
theorem op_gtD : OpR X (compareOp .Gt) (rIC fun i j => decide (j < i)) := by
  intro pins s σ H x y v u Q I rx ry h
  cases x <;> cases y <;> first
    | exact (show False from h).elim
    | exact op_gt pins s σ H _ _ v u Q I rx ry ⟨_, _, rfl, rfl, h⟩
theorem op_geD : OpR X (compareOp .GtE) (rIC fun i j => decide (j ≤ i)) := by
  intro pins s σ H x y v u Q I rx ry h
  cases x <;> cases y <;> first
    | exact (show False from h).elim
    | exact op_ge pins s σ H _ _ v u Q I rx ry ⟨_, _, rfl, rfl, h⟩
def rLtD : R2 := fun x y H Q => match x, y with
  | .int i, .int j => Q (.bl (decide (i < j))) H
  | .str i, .str j => Q (.bl (decide (i.cps.toList < j.cps.toList))) H
  | _, _ => False
theorem op_ltD : OpR X (compareOp .Lt) rLtD := by
  intro pins s σ H x y v u Q I rx ry h
  cases x <;> cases y <;> first
    | exact (show False from h).elim
    | exact op_lt pins s σ H _ _ v u Q I rx ry ⟨_, _, rfl, rfl, h⟩
    | exact op_lt_str pins s σ H _ _ v u Q I rx ry ⟨_, _, rfl, rfl, h⟩
def rEqD (n : Bool) : R2 := fun x y H Q => match x, y with
  | .ref a, .ref b => a ≠ b ∧ ∃ xs, H a = some (.lst xs) ∧ H b = some (.lst []) ∧ Q (.bl (n ^^ xs.isEmpty)) H
  | x, y => scal x y = true ∧ Q (.bl (n ^^ decide (x = y))) H
theorem eq_empty {pins : List (Addr × Obj)} {σ : St} {H : Hp} {s : Shared} {Q : Value → Shared → Prop} {E : Value → Shared → Prop} {A : Around} {a b : Addr} {xs : List V} (hu : A.units < cLine) (I : Inv X pins σ H s) (ha : H a = some (.lst xs)) (hb : H b = some (.lst [])) (hab : a ≠ b)
    (q : ∀ tk, Q (.bool xs.isEmpty) { s with toks := tk }) (q0 : Q (.bool xs.isEmpty) s) : wpAny (model X.prog X.w) A (compareOp .Eq (.ref a) (.ref b)) Q E s := by
  obtain ⟨_, its, n, r1, e1⟩ := (show ObjOk X.prog X.w H s.heap a (.lst xs) from I.hok a _ ha)
  obtain ⟨_, its2, n2, r2, e2⟩ := (show ObjOk X.prog X.w H s.heap b (.lst []) from I.hok b _ hb)
  cases r2
  have l1 : s.heap.IsList a its.toArray := ⟨_, e1, rfl, _, rfl⟩
  have l2 : s.heap.IsList b (#[] : Array Value) := ⟨_, e2, rfl, _, rfl⟩
  cases r1 with
  | nil =>
    exact SeqAt.eq_listAt (e := fun _ => true) l1 l2 rfl hu (fun i hi => absurd hi (by simp)) (by simpa using q0)
  | cons z t =>
    exact SeqAt.eq_list_lengthsAt l1 l2 (by simp) hu (by simpa using q0)
theorem op_eqD (hu : X.A.units < cLine) : OpR X (compareOp .Eq) (rEqD false) := by
  intro pins s σ H x y v u Q I rx ry h
  have hs : (∀ a b, x = .ref a → y = .ref b → False) → scal x y = true ∧ Q (.bl (false ^^ decide (x = y))) H := fun hn => by
    cases x <;> cases y <;> first
      | exact (hn _ _ rfl rfl).elim
      | exact h
  by_cases hr : ∃ a b, x = .ref a ∧ y = .ref b
  · obtain ⟨a, b, rfl, rfl⟩ := hr
    obtain ⟨hab, xs, h1, h2, q⟩ := h
    cases rx; cases ry
    exact eq_empty hu I h1 h2 hab (fun tk => ⟨.bl xs.isEmpty, H, I.tok tk, rfl, by simpa using q⟩) ⟨.bl xs.isEmpty, H, I, rfl, by simpa using q⟩
  · obtain ⟨h1, h2⟩ := hs fun a b e1 e2 => hr ⟨a, b, e1, e2⟩
    exact op_eq pins s σ H x y v u Q I rx ry ⟨h1, by simpa using h2⟩
theorem ne_empty {pins : List (Addr × Obj)} {σ : St} {H : Hp} {s : Shared} {Q : Value → Shared → Prop} {E : Value → Shared → Prop} {A : Around} {a b : Addr} {xs : List V} (hu : A.units < cLine) (I : Inv X pins σ H s) (ha : H a = some (.lst xs)) (hb : H b = some (.lst []))
    (q0 : Q (.bool (!xs.isEmpty)) s) : wpAny (model X.prog X.w) A (compareOp .NotEq (.ref a) (.ref b)) Q E s := by
  obtain ⟨_, its, n, r1, e1⟩ := (show ObjOk X.prog X.w H s.heap a (.lst xs) from I.hok a _ ha)
  obtain ⟨_, its2, n2, r2, e2⟩ := (show ObjOk X.prog X.w H s.heap b (.lst []) from I.hok b _ hb)
  cases r2
  have l1 : s.heap.IsList a its.toArray := ⟨_, e1, rfl, _, rfl⟩
  have l2 : s.heap.IsList b (#[] : Array Value) := ⟨_, e2, rfl, _, rfl⟩
  cases r1 with
  | nil =>
    exact SeqAt.RcNeAt.lists (e := fun _ => true) l1 l2 rfl hu (fun i hi => absurd hi (by simp)) _ _ _ _ (by simpa using q0)
  | cons z t =>
    exact SeqAt.RcNeAt.lists_lengths l1 l2 (by simp) hu _ _ _ _ (by simpa using q0)
theorem op_neD (hu : X.A.units < cLine) : OpR X (compareOp .NotEq) (rEqD true) := by
  intro pins s σ H x y v u Q I rx ry h
  have hs : (∀ a b, x = .ref a → y = .ref b → False) → scal x y = true ∧ Q (.bl (true ^^ decide (x = y))) H := fun hn => by
    cases x <;> cases y <;> first
      | exact (hn _ _ rfl rfl).elim
      | exact h
  by_cases hr : ∃ a b, x = .ref a ∧ y = .ref b
  · obtain ⟨a, b, rfl, rfl⟩ := hr
    obtain ⟨hab, xs, h1, h2, q⟩ := h
    cases rx; cases ry
    exact ne_empty hu I h1 h2 ⟨.bl (!xs.isEmpty), H, I, rfl, by simpa using q⟩
  · obtain ⟨h1, h2⟩ := hs fun a b e1 e2 => hr ⟨a, b, e1, e2⟩
    exact op_ne pins s σ H x y v u Q I rx ry ⟨h1, by simpa using h2⟩
def rIxD (K : PySem.W.Frag) : R2 := fun x y H Q => match x, y with
  | .ref p, .int i => ∃ xs v, (SqL K H p xs ∨ SqT K H p xs) ∧ atI xs i = some v ∧ Q v H
  | .str z, .int i => z.length ≤ sizeLine ∧ ∃ c, atI z.cps.toList i = some c ∧ Q (.str ⟨#[c]⟩) H
  | _, _ => False
theorem ix_D : IxR X (rIxD X.K) := by
  intro e1 e2 pins s σ H x y v u Q I rx ry h hs
  cases x <;> cases y <;> first
    | exact (show False from h).elim
    | (obtain ⟨xs, w, h1 | h1, h2, h3⟩ := h
       · exact ix_list e1 e2 pins s σ H _ _ v u Q I rx ry ⟨_, xs, _, w, rfl, rfl, h1, h2, h3⟩ hs
       · exact ix_tup e1 e2 pins s σ H _ _ v u Q I rx ry ⟨_, xs, _, w, rfl, rfl, h1, h2, h3⟩ hs)
    | (obtain ⟨h1, c, h2, h3⟩ := h; exact ix_str e1 e2 pins s σ H _ _ v u Q I rx ry ⟨_, _, c, rfl, rfl, h1, h2, h3⟩ hs)
def rInD (K : PySem.W.Frag) (n : Bool) : R2 := fun x y H Q => match y with
  | .str j => ∃ i, x = .str i ∧ Q (.bl (n ^^ (!(Builtin.Str.occurrences j i 0 j.length 1).isEmpty))) H
  | .ref p => ∃ xs, (SqL K H p xs ∨ SqT K H p xs) ∧ flatV x = true ∧ xs.all flatV = true ∧ Q (.bl (n ^^ inV x xs)) H
  | _ => False
theorem op_inD : OpR X (compareOp .In) (rInD X.K false) := by
  intro pins s σ H x y v u Q I rx ry h
  cases y <;> first
    | exact (show False from h).elim
    | (obtain ⟨i, rfl, h2⟩ := h; exact op_in_str pins s σ H _ _ v u Q I rx ry ⟨i, _, rfl, rfl, by simpa using h2⟩)
    | (obtain ⟨xs, h1, h2, h3, h4⟩ := h; exact op_in_seq pins s σ H _ _ v u Q I rx ry ⟨_, xs, rfl, h1, h2, h3, by simpa using h4⟩)
def rLenD (K : PySem.W.Frag) : List V → Hp → VK → Prop := fun xs H Q => match xs with
  | [.str y] => y.length ≤ sizeLine ∧ Q (.int y.length) H
  | [.ref p] => (∃ ys, (SqL K H p ys ∨ SqT K H p ys) ∧ Q (.int ys.length) H) ∨ (∃ kvs, Rd H p (.dK kvs) ∧ Q (.int kvs.length) H)
  | _ => False
theorem call_lenA : CallR X (.builtin "len") (rLenD X.K) := by
  intro pins s σ H xs us Q I r h
  unfold rLenD at h
  split at h
  · exact call_len pins s σ H _ us Q I r ⟨_, _, rfl, ⟨h.1, rfl⟩, h.2⟩
  · rcases h with ⟨ys, h1 | h1, q⟩ | ⟨kvs, h1, q⟩
    · exact call_len pins s σ H _ us Q I r ⟨_, _, rfl, .inl ⟨ys, h1, rfl⟩, q⟩
    · exact call_len pins s σ H _ us Q I r ⟨_, _, rfl, .inr ⟨ys, h1, rfl⟩, q⟩
    · obtain ⟨u, rfl, ru⟩ := vals1 r
      cases ru
      exact d_len I h1 fun t s' I' => ⟨.int kvs.length, H, I', ⟨t, rfl⟩, q⟩
  · exact h.elim
def tyName (H : Hp) : V → Option String
  | .non => some "NoneType"
  | .bl _ => some "bool"
  | .int _ => some "int"
  | .str _ => some "str"
  | .ref a => match H a with
    | some (.lst _) => some "list"
    | some (.tup _) => some "tuple"
    | some (.dK _) => some "dict"
    | _ => none
  | _ => none
def isiT (t T : String) : Bool := t == T || (t == "bool" && T == "int")
theorem kit_all : ∀ (K : PySem.W.Frag) (t T : String), t ∈ ["NoneType", "bool", "int", "str", "list", "tuple", "dict"] → T ∈ ["bool", "int", "str", "list", "tuple", "dict"] → PySem.W.kitOne K (.type t) (.type T) = some (isiT t T) := by
  intro K t T h1 h2
  simp only [List.mem_cons, List.mem_nil_iff, or_false] at h1 h2
  rcases h1 with rfl | rfl | rfl | rfl | rfl | rfl | rfl <;> rcases h2 with rfl | rfl | rfl | rfl | rfl | rfl <;> rfl
def rIsi : List V → Hp → VK → Prop := fun xs H Q => match xs with
  | [x, .ty T] => T ∈ ["bool", "int", "str", "list", "tuple", "dict"] ∧ ∃ t, tyName H x = some t ∧ Q (.bl (isiT t T)) H
  | _ => False
theorem call_isiD : CallR X (.builtin "isinstance") rIsi := by
  intro pins s σ H xs us Q I r h
  unfold rIsi at h
  split at h
  · next x T =>
    obtain ⟨hT, t, ht, q⟩ := h
    obtain ⟨u, c, rfl, ru, rc⟩ := r.two
    cases rc
    have fin : ∀ tk, EP X pins σ Q (.bool (isiT t T)) { s with toks := tk } := fun tk => ⟨.bl (isiT t T), H, I.tok tk, rfl, q⟩
    have tm : t ∈ ["NoneType", "bool", "int", "str", "list", "tuple", "dict"] ∧ TyOf X.K H x (.type t) := by
      cases x with
      | non => cases ht; exact ⟨by simp, .non⟩
      | bl b => cases ht; exact ⟨by simp, .bl b⟩
      | int b => cases ht; exact ⟨by simp, .int b⟩
      | str b => cases ht; exact ⟨by simp, .str b⟩
      | ref a =>
        unfold tyName at ht
        dsimp only at ht
        split at ht
        · next e => cases ht; exact ⟨by simp, .lst e⟩
        · next e => cases ht; exact ⟨by simp, .tup e⟩
        · next e => cases ht; exact ⟨by simp, .dK e⟩
        · cases ht
      | _ => cases ht
    exact isinst_ok I ru tm.2 (kit_all _ t T tm.1 hT) fin
  · exact h.elim
def rSlS : V → Option Int → Option Int → Hp → VK → Prop := fun x lo hi H Q => ∃ z, x = .str z ∧ z.length ≤ sizeLine ∧ Q (.str (Txt.slice z lo hi)) H
theorem sl_str : SlR X rSlS := by
  intro pins s σ H x v vl vu lo hi sl Q I rx hs pl pu h
  obtain ⟨z, rfl, hz, q⟩ := h
  obtain ⟨t, rfl⟩ := (show ∃ t, v = Value.str z t from rx)
  refine ⟨"str", _, F.slot_str_getitem.lookup, typeIs_str _ _ _, ?_⟩
  have hpart : ∀ {w : Value} {o : Option Int}, IsPart w o → ∃ l : Option (Int × Tok), w = partValue l ∧ l.map (·.1) = o := fun {w o} p => by
    cases p with
    | none => exact ⟨none, rfl, rfl⟩
    | int k t => exact ⟨some (k, t), rfl, rfl⟩
  obtain ⟨l, e1, e2⟩ := hpart pl
  obtain ⟨u, e3, e4⟩ := hpart pu
  subst e1 e3
  obtain ⟨o, ho, hc, hd⟩ := hs
  refine wpAny_getItem_str_slice (l := l) (u := u) (st := none) ⟨o, ho, hc, hd⟩ rfl ?_
  refine post_val_or_str ⟨Nat.le_trans (Txt.slice_le z _ _) hz, fun t' k => ?_⟩
  show EP X pins σ Q (.str (Txt.slice z (l.map (·.1)) (u.map (·.1))) t') _
  rw [e2, e4]
  exact ⟨.str (Txt.slice z lo hi), H, I.tok k, ⟨t', rfl⟩, q⟩
def Its (z : Str) : It := ⟨fun i _ => i < z.cps.size, fun i H x H' => H' = H ∧ ∃ c, z.cps[i]? = some c ∧ x = .str ⟨#[c]⟩, fun i _ => z.cps.size = i⟩
theorem turn_walks {P : Program} {w : World} {K : PySem.W.Frag} {tg : Expr} {it : Addr} {z : Str} {St : Nat → Heap → Prop} (W : ∀ A' : Around, A'.handled = none → Walks P w A' it [it] [it] z.cps.size (SignAt z) St)
    (hself : ∀ (A : Around) (i : Nat) (s : Shared) (Q : Value → Shared → Prop) (E : Value → Shared → Prop), St i s.heap → Q (.ref it) s → wpAny (model P w) A (pyIter (.ref it)) Q E s)
    (hg : ∀ i h, St i h → ∃ o n vs, h.get? it = some o ∧ o.cls = .type n ∧ o.data = .fields vs ∧ ["enumerate", "zip", "dict_itemiterator", "dict_reverseitemiterator", "odict_iterator", "itertools.zip_longest", "itertools.pairwise"].contains n = false) : Turn P w K tg (Its z) [it] it St where
  mem := by simp
  obj := fun i h st b hb => by
    have e : b = it := by simpa using hb
    subst e
    obtain ⟨o, n, vs, e, c, d, _⟩ := hg i h st
    exact ⟨o, e, fun v z => by rw [d] at z; cases z⟩
  keep := fun i h h' st k => (W {} rfl).frame _ _ _ st k
  item := by
    intro X hP hw hK hc i pins s σ H E I hf st hgo
    subst hP hw hK
    obtain ⟨f0, f1, f2, f3, f4, f5⟩ := hf it (by simp)
    refine (W X.A (I.ok.hd hc)).item i s _ _ hgo st fun v h' tk hv st' kk => ?_
    obtain ⟨c, t, hc1, rfl⟩ := hv
    have I1 : Inv X pins σ H { s with heap := h', toks := tk } := I.turned (fun b o hb e => kk b o (by simpa using hb) e) f0 f1 f3 f4 f5
    obtain ⟨o, n, vs, e, c', d, nn⟩ := hg _ _ st'
    exact ⟨_, rfl, go_of (s := { s with heap := h', toks := tk }) e c' d nn ⟨.str ⟨#[c]⟩, H, I1, ⟨t, rfl⟩, ⟨rfl, c, hc1, rfl⟩, st', fun b hb => (hf b hb).1⟩⟩
  done := by
    intro X hP hw hK hc i pins s σ H E I hf st hgo
    subst hP hw hK
    obtain ⟨f0, f1, f2, f3, f4, f5⟩ := hf it (by simp)
    have e : z.cps.size = i := hgo
    subst e
    exact (W X.A (I.ok.hd hc)).done s _ _ st fun h' tk kk => ⟨rfl, I.turned (fun b o hb e => kk b o (by simpa using hb) e) f0 f1 f3 f4 f5⟩
  self := hself
end
end L2
set_option maxRecDepth 100000
namespace L2
open PySem PySem.Spec PyProof.Rows
def FnK (P : Program) (w : World) (K : PySem.W.Frag) (mg : Str → Option Value) (base : Heap) (k : Nat) (x : Str) (ps : List Str) (sp : Sp) : Prop :=
  ∃ (f : Addr) (fd : FuncData), FnOk P w K mg base CX0 k f fd ps sp ∧ mg x = some (.ref f) ∧ PySem.W.keepIn K (.ref f) = true ∧ Binds K fd ps [] ∧ ∃ (oc : Value) (od : Option Addr) (osl : Array (Option Value)), K.lookup f = some ⟨oc, od, .func fd, osl⟩
section
variable {X : Cx} {k : Nat} {ps : List Str} {sp : Sp} {x : Str} {p pos : Pos} {e : Expr} {es : List Expr} {t : TA}
theorem pe_fn (F : FnK X.prog X.w X.K X.mg X.base k x ps sp) (hr : Room k X.A) (ha : PA X (e :: es) t) (hg : Gl X x := by rfl) (hdb : (x == ("__debug__" : Str)) = false := by decide)
    (he : starEach (e :: es) X.env = (false, eval e X.env) :: starEach es X.env := by rfl) (hpl : (backTo pos (starEach es X.env)).any (·.1) = false := by rfl) :
    PE X (.Call (.Name x p) (e :: es) [] pos) (tCall sp [] E0 t) := by
  obtain ⟨f, fd, G, mgf, kp, b, _⟩ := F
  exact pe_call G hr hg mgf kp b .nil pass0 ha hdb he hpl
theorem FnK.mono {P : Program} {w : World} {K : PySem.W.Frag} {mg : Str → Option Value} {base : Heap} {j : Nat} (F : FnK P w K mg base j x ps sp) (h : j ≤ k) : FnK P w K mg base k x ps sp := by
  obtain ⟨f, fd, G, r⟩ := F
  exact ⟨f, fd, G.mono h, r⟩
end
def iD (K : PySem.W.Frag) (tl : TE) : TI := fun σ H R => tl σ H fun x H1 => match x with
  | .ref a => ((∃ xs, SqL K H1 a xs) ∧ R (Itl K a) H1) ∨ ((∃ xs, SqT K H1 a xs) ∧ R (Itt K a) H1)
  | .str z => R (Its z) H1
  | _ => False
theorem pi_D {X : Cx} {tg l : Expr} {tl : TE} (hl : PE X l tl) : PI X tg l (iD X.K tl) := by
  intro pins s σ H R I h
  refine thn (hl pins s σ H _ I h) ?_
  rintro v s1 ⟨x, H1, I1, r1, q1⟩
  cases x with
  | ref a =>
    cases r1
    rcases q1 with ⟨⟨xs, hq⟩, q⟩ | ⟨⟨xs, hq⟩, q⟩
    · obtain ⟨its, rv, p, hz⟩ := I1.list hq
      refine wpAny_pyIter_list p.isList ?_
      refine ⟨s1.heap.objs.size, [s1.heap.objs.size], _, _, H1, rfl, I1.kept (t' := s1.toks) fun b o e => Heap.get?_push_of_some _ e, turn_list a _, ⟨_, Heap.get?_push_size _ rfl, rfl, rfl⟩, fun b hb => ?_, q⟩
      have e : b = s1.heap.objs.size := by simpa using hb
      subst e
      exact I1.fpOk (Nat.le_refl _) (I1.hok.fresh (Nat.le_refl _))
    · obtain ⟨its, rv, p, hz⟩ := I1.tuple hq
      refine wpAny_pyIter_tuple (show s1.heap.IsTuple a its.toArray from p) ?_
      refine ⟨s1.heap.objs.size, [s1.heap.objs.size], _, _, H1, rfl, I1.kept (t' := s1.toks) fun b o e => Heap.get?_push_of_some _ e, turn_tuple a _, ⟨_, Heap.get?_push_size _ rfl, rfl, rfl⟩, fun b hb => ?_, q⟩
      have e : b = s1.heap.objs.size := by simpa using hb
      subst e
      exact I1.fpOk (Nat.le_refl _) (I1.hok.fresh (Nat.le_refl _))
  | str z =>
    obtain ⟨t, rfl⟩ := (show ∃ t, v = Value.str z t from r1)
    have q : R (Its z) H1 := q1
    have fin : ∀ (o : Obj) (n : String) (W : ∀ A' : Around, A'.handled = none → Walks X.prog X.w A' s1.heap.objs.size [s1.heap.objs.size] [s1.heap.objs.size] z.cps.size (SignAt z) (fun i h => h.IsStrIter s1.heap.objs.size n z t i)),
        (∀ (A : Around) (i : Nat) (s : Shared) (Q : Value → Shared → Prop) (E : Value → Shared → Prop), s.heap.IsStrIter s1.heap.objs.size n z t i → Q (.ref s1.heap.objs.size) s → wpAny (model X.prog X.w) A (pyIter (.ref s1.heap.objs.size)) Q E s) →
        ["enumerate", "zip", "dict_itemiterator", "dict_reverseitemiterator", "odict_iterator", "itertools.zip_longest", "itertools.pairwise"].contains n = false →
        (s1.heap.push o).IsStrIter s1.heap.objs.size n z t 0 → PIE X pins σ tg R (.ref s1.heap.objs.size) { s1 with heap := s1.heap.push o } := by
      intro o n W hself hn st
      refine ⟨s1.heap.objs.size, [s1.heap.objs.size], _, _, H1, rfl, I1.kept (t' := s1.toks) fun b o e => Heap.get?_push_of_some _ e, turn_walks W hself (fun i h st => ?_), st, fun b hb => ?_, q⟩
      · obtain ⟨o, e, c, d⟩ := st
        exact ⟨o, n, _, e, c, d, hn⟩
      · have e : b = s1.heap.objs.size := by simpa using hb
        subst e
        exact I1.fpOk (Nat.le_refl _) (I1.hok.fresh (Nat.le_refl _))
    cases ha : z.cps.all (· < 128)
    · exact wpAny_pyIter_wide ha (fin _ _ (fun A' hA => Walks.strWide hA _ z t) (fun A i s Q E st h => wpAny_pyIter_striter_wide st h) (by decide) ⟨_, Heap.get?_push_size _ rfl, rfl, rfl⟩)
    · exact wpAny_pyIter_ascii ha (fin _ _ (fun A' hA => Walks.strAscii hA _ z t) (fun A i s Q E st h => wpAny_pyIter_striter_ascii st h) (by decide) ⟨_, Heap.get?_push_size _ rfl, rfl, rfl⟩)
  | _ => exact (show False from q1).elim
def ItN (J : It) (ok : Hp → Prop) (n : Nat) (item : Nat → V) : Prop :=
  ∀ H, ok H → (∀ i, i < n → J.go i H ∧ ∀ x H', J.yld i H x H' → H' = H ∧ x = item i) ∧ J.stop n H
theorem itn_list {K : PySem.W.Frag} {a : Addr} (xs : List V) : ItN (Itl K a) (fun H => SqL K H a xs) xs.length (fun i => xs.getD i .non) := fun H ok =>
  ⟨fun i hi => ⟨⟨xs, xs[i], ok, by simp [hi]⟩, fun x H' ⟨e, y⟩ => ⟨e, by
    have := y xs ok
    show x = xs.getD i V.non
    rw [List.getD_eq_getElem?_getD, this]; rfl⟩⟩, ⟨xs, ok, Nat.le_refl _⟩⟩
theorem itn_tup {K : PySem.W.Frag} {a : Addr} (xs : List V) : ItN (Itt K a) (fun H => SqT K H a xs) xs.length (fun i => xs.getD i .non) := fun H ok =>
  ⟨fun i hi => ⟨⟨xs, xs[i], ok, by simp [hi]⟩, fun x H' ⟨e, y⟩ => ⟨e, by
    have := y xs ok
    show x = xs.getD i V.non
    rw [List.getD_eq_getElem?_getD, this]; rfl⟩⟩, ⟨xs, ok, Nat.le_refl _⟩⟩
theorem itn_range (lo : Int) (n : Nat) : ItN (Itr lo n) (fun _ => True) n (fun i => .int (lo + i)) := fun H _ =>
  ⟨fun i hi => ⟨hi, fun x H' ⟨e, y⟩ => ⟨e, y⟩⟩, Nat.le_refl _⟩
theorem lc_by {J : It} {ok : Hp → Prop} {n : Nat} {item : Nat → V} {g : TG} {tc : TC} {te : TE} {τ0 : St} {H0 : Hp} {D : Addr} {Q : Hp → Prop} (hJ : ItN J ok n item) (Pv : Nat → St → Hp → Prop) (h0 : Pv 0 τ0 H0)
    (hok : ∀ i τ H, i ≤ n → Pv i τ H → ok H)
    (hs : ∀ i τ H, i < n → Pv i τ H → g (item i) τ H fun τ2 H2 => tc τ2 H2 fun b H3 => if b = true then te τ2 H3 fun y H4 => ∃ xs, H4 D = some (.lst xs) ∧ xs.length < sizeLine ∧ Pv (i + 1) τ2 (upd H4 D (.lst (xs ++ [y]))) else Pv (i + 1) τ2 H3)
    (hd : ∀ τ H, Pv n τ H → Q H) : ∃ W : Nat → Nat → St → Hp → Prop, (∃ m, W 0 m τ0 H0) ∧ ∀ i m τ H, W i m τ H →
      (J.stop i H ∧ Q H) ∨ (J.go i H ∧ ∃ N : St → Hp → Prop, (∀ τ' H', N τ' H' → ∃ m', m' < m ∧ W (i + 1) m' τ' H') ∧ ∀ x H', J.yld i H x H' → g x τ H' fun τ2 H2 => tc τ2 H2 fun b H3 =>
        if b = true then te τ2 H3 fun y H4 => ∃ xs, H4 D = some (.lst xs) ∧ xs.length < sizeLine ∧ N τ2 (upd H4 D (.lst (xs ++ [y]))) else N τ2 H3) := by
  refine ⟨fun i m τ H => m = n - i ∧ i ≤ n ∧ Pv i τ H, ⟨n, by simp, Nat.zero_le _, h0⟩, ?_⟩
  rintro i m τ H ⟨rfl, hi, p⟩
  obtain ⟨k1, k2⟩ := hJ H (hok i τ H hi p)
  by_cases hlt : i < n
  · refine .inr ⟨(k1 i hlt).1, Pv (i + 1), fun σ' H' p' => ⟨n - (i + 1), by omega, rfl, hlt, p'⟩, fun x H' y => ?_⟩
    obtain ⟨e, e2⟩ := (k1 i hlt).2 x H' y
    subst e e2
    exact hs i τ _ hlt p
  · have e : i = n := by omega
    subst e
    exact .inl ⟨k2, hd τ H p⟩
theorem for_by {J : It} {ok : Hp → Prop} {n : Nat} {item : Nat → V} {g : TG} {tb : TS} {D : Ends} {σ : St} {H : Hp} (hJ : ItN J ok n item) (Pv : Nat → St → Hp → Prop) (h0 : Pv 0 σ H) (hok : ∀ i τ H, i ≤ n → Pv i τ H → ok H)
    (hs : ∀ i σ H, i < n → Pv i σ H → g (item i) σ H fun σ2 H2 => tb { D with nx := Pv (i + 1), ct := Pv (i + 1), bk := D.nx } σ2 H2) (hd : ∀ σ H, Pv n σ H → D.nx σ H) :
    ∃ W : Nat → Nat → St → Hp → Prop, (∃ m, W 0 m σ H) ∧ ∀ i m σ H, W i m σ H →
      (J.stop i H ∧ D.nx σ H) ∨ (J.go i H ∧ ∃ N : St → Hp → Prop, (∀ σ' H', N σ' H' → ∃ m', m' < m ∧ W (i + 1) m' σ' H') ∧ ∀ x H', J.yld i H x H' → g x σ H' fun σ2 H2 => tb { D with nx := N, ct := N, bk := D.nx } σ2 H2) := by
  refine ⟨fun i m σ H => m = n - i ∧ i ≤ n ∧ Pv i σ H, ⟨n, by simp, Nat.zero_le _, h0⟩, ?_⟩
  rintro i m σ H ⟨rfl, hi, p⟩
  obtain ⟨k1, k2⟩ := hJ H (hok i σ H hi p)
  by_cases hlt : i < n
  · refine .inr ⟨(k1 i hlt).1, Pv (i + 1), fun σ' H' p' => ⟨n - (i + 1), by omega, rfl, hlt, p'⟩, fun x H' y => ?_⟩
    obtain ⟨e, e2⟩ := (k1 i hlt).2 x H' y
    subst e e2
    exact hs i σ _ hlt p
  · have e : i = n := by omega
    subst e
    exact .inl ⟨k2, hd σ H p⟩
def FnT (K : PySem.W.Frag) (mg : Str → Option Value) (x : Str) (st : Stmt) (ps : List Str) : Prop := ∃ (f : Addr) (fd : FuncData), Fun K x x st f fd ∧ mg x = some (.ref f) ∧ Binds K fd ps []
theorem FnT.ok {P : Program} {w : World} {K : PySem.W.Frag} {mg : Str → Option Value} {base : Heap} {x : Str} {st : Stmt} {N ps : List Str} {k : Nat} {sp : Sp} (F : FnT K mg x st ps) (S : FnScope N ps (defScope st)) (len : ∀ vs H Q E, sp vs H Q E → vs.length = ps.length)
    (hbody : ∀ (f : Addr) (cdv : Value) (A : Around) (outer : List Env) (s : Shared) (H : Hp) (vs : List V) (Q : VK) (E : XK), Room k (A.deeper (envOfC x (defScope st) s.heap.objs.size f cdv)) → sp vs H Q E →
      ∃ t, PSs (cxOf CX0 P w K mg base N x (defScope st) f cdv A outer s H E).nox (defBody st) t ∧ t { nx := fun _ H' => Q .non H', rt := Q } (start N vs) H) : FnK P w K mg base (k + 1) x ps sp := by
  obtain ⟨f, fd, Fu, m, b⟩ := F
  exact ⟨f, fd, Fu.ok S len (hbody f), m, Fu.kp, b, let ⟨oc, od, _, _, _, _, _, _, osl, _, lk, _⟩ := Fu.ex; ⟨oc, od, osl, lk⟩⟩
section
variable {X : Cx} {x : Str} {pos : Pos}
theorem pe_gl {v : V} (h : ∃ u, X.mg x = some u ∧ RelV v u) (hg : Gl X x := by rfl) (hd : (x == ("__debug__" : Str)) = false := by decide) : PE X (.Name x pos) (tC v) := by
  obtain ⟨u, h1, h2⟩ := h
  exact pe_glob hg h1 h2 hd
def tGlT (K : PySem.W.Frag) (xs : List V) : TE := fun _ H Q => ∀ a, SqT K H a xs → Q (.ref a) H
theorem pe_glT {xs : List V} (h : ∃ a, X.mg x = some (.ref a) ∧ ∀ H, SqT X.K H a xs) (hg : Gl X x := by rfl) (hd : (x == ("__debug__" : Str)) = false := by decide) : PE X (.Name x pos) (tGlT X.K xs) := by
  obtain ⟨a, h1, h2⟩ := h
  intro pins s σ H Q I q
  exact pe_glob (v := .ref a) hg h1 rfl hd pins s σ H Q I (q a (h2 H))
theorem sl_D : SlR X (fun x lo hi H Q => rSlS x lo hi H Q ∨ (rSlL X.K x lo hi H Q ∨ rSlT X.K x lo hi H Q)) := sl_str.or (sl_list.or sl_tup)
end
section
variable {X : Cx} (K : PySem.W.Frag)
theorem ix_K (h : X.K = K := by rfl) : IxR X (rIxD K) := by rw [← h]; exact ix_D
theorem op_inK (h : X.K = K := by rfl) : OpR X (compareOp .In) (rInD K false) := by rw [← h]; exact op_inD
theorem call_lenK (h : X.K = K := by rfl) : CallR X (.builtin "len") (rLenD K) := by rw [← h]; exact call_lenA
theorem sl_K (h : X.K = K := by rfl) : SlR X (fun x lo hi H Q => rSlS x lo hi H Q ∨ (rSlL K x lo hi H Q ∨ rSlT K x lo hi H Q)) := by rw [← h]; exact sl_D
theorem pi_K {tg l : Expr} {tl : TE} (hl : PE X l tl) (h : X.K = K := by rfl) : PI X tg l (iD K tl) := by rw [← h]; exact pi_D hl
theorem pe_glK {x : Str} {pos : Pos} {xs : List V} (hx : ∃ a, X.mg x = some (.ref a) ∧ ∀ H, SqT K H a xs) (h : X.K = K := by rfl) (hg : Gl X x := by rfl) (hd : (x == ("__debug__" : Str)) = false := by decide) : PE X (.Name x pos) (tGlT K xs) := by
  subst h; exact pe_glT hx hg hd
theorem pg_tupK {es : List Expr} {k : Nat} {t : TGs} {n : Nat} {pos : Pos} (hc : X.calm = true) (hh : PGs X es t) (h : X.K = K := by rfl)
    (hn : (assignEach es X.env).length = n := by rfl) (hst : (assignEach es X.env).findIdx? (·.1) = none := by rfl) : PG X (.Tuple es k pos) (gTup K n t) := by
  subst h; exact pg_tup hc hh hn hst
theorem pe_bmK {T : String} {name : Str} {id : String} {r : V → List V → Hp → VK → Prop} {o e : Expr} {es : List Expr} {to : TE} {t : TA} {apos cpos : Pos} (pa : PlainAttrs T) (slot : Slot T name id) (hty : typeOf (.builtin id) = pure (.type "method_descriptor")) (hm : MtM X id r) (ho : PE X o to) (ha : PA X (e :: es) t) (h : X.K = K := by rfl)
    (hbase : attributeBase o name X.env (eval o X.env) = eval o X.env := by rfl)
    (hfew : ((backTo cpos (starEach (e :: es) X.env)).all (fun x => !x.1) && (backToKw cpos (keywordEach [] X.env)).all (fun x => x.1.isSome)
      && decide ((e :: es).length + ([] : List Keyword).length + (if ([] : List Keyword).isEmpty then 0 else 1) < 30)) = true := by rfl)
    (hline : (apos.endLine == cpos.line) = true := by rfl) (hs : starEach (e :: es) X.env = (false, eval e X.env) :: starEach es X.env := by rfl) (hplain : (backTo cpos (starEach es X.env)).any (·.1) = false := by rfl) :
    PE X (.Call (.Attribute o name apos) (e :: es) [] cpos) (tBM K T r to t) := by
  subst h; exact pe_bm pa slot hty hm ho ha hbase hfew hline hs hplain
end
end L2
set_option maxRecDepth 100000
namespace L2
open PySem PySem.Spec PyProof.Rows
structure SE (X : Cx) (e : Expr) (t : TE) : Prop where
  h : PE X e t
structure ST (X : Cx) (e : Expr) (t : TT) : Prop where
  h : PT X e t
structure SW (X : Cx) (e : Expr) (t : TT) : Prop where
  h : PW X e t
structure SA (X : Cx) (es : List Expr) (t : TA) : Prop where
  h : PA X es t
structure SS (X : Cx) (s : Stmt) (t : TS) : Prop where
  h : PS X s t
structure SB (X : Cx) (s : List Stmt) (t : TS) : Prop where
  h : PSs X s t
structure SG (X : Cx) (e : Expr) (t : TG) : Prop where
  h : PG X e t
structure SGs (X : Cx) (e : List Expr) (t : TGs) : Prop where
  h : PGs X e t
structure SI (X : Cx) (tg e : Expr) (t : TI) : Prop where
  h : PI X tg e t
structure SC (X : Cx) (e : List Expr) (t : TC) : Prop where
  h : PC' X e t
structure SO (X : Cx) (e : Option Expr) (t : TO) : Prop where
  h : PO X e t
structure SP2 (X : Cx) (pos : Pos) (keys : List (Option Expr)) (values : List Expr) (trs : List (TE × TE)) : Prop where
  h : PPs X pos keys values trs
section
variable {X : Cx} {es : List Expr} {te : TE} {t : TA} {c : Const} {j : Nat} {pos0 : Pos} {n : Str} {xs0 : List Expr} {f0 a0 b0 c0 : Expr} {kw0 : List Keyword} {o0 : Operator} {ks0 : List (Option Expr)} {gs0 : List Comprehension} {sc0 : Scope} {u0 : UnaryOp} {bo0 : BoolOp} {ops0 : List CmpOp}theorem sa_nil : SA X [] tNil := ⟨pa_nil⟩
theorem sa_Constant (ha : SE X (.Constant c j pos0) te) (hr : SA X es t) : SA X (.Constant c j pos0 :: es) (tCons te t) := ⟨pa_cons ha.h hr.h⟩
theorem sa_Name (ha : SE X (.Name n pos0) te) (hr : SA X es t) : SA X (.Name n pos0 :: es) (tCons te t) := ⟨pa_cons ha.h hr.h⟩
theorem sa_List (ha : SE X (.List xs0 pos0) te) (hr : SA X es t) : SA X (.List xs0 pos0 :: es) (tCons te t) := ⟨pa_cons ha.h hr.h⟩
theorem sa_Tuple (ha : SE X (.Tuple xs0 j pos0) te) (hr : SA X es t) : SA X (.Tuple xs0 j pos0 :: es) (tCons te t) := ⟨pa_cons ha.h hr.h⟩
theorem sa_Call (ha : SE X (.Call f0 xs0 kw0 pos0) te) (hr : SA X es t) : SA X (.Call f0 xs0 kw0 pos0 :: es) (tCons te t) := ⟨pa_cons ha.h hr.h⟩
theorem sa_BinOp (ha : SE X (.BinOp a0 o0 b0 pos0) te) (hr : SA X es t) : SA X (.BinOp a0 o0 b0 pos0 :: es) (tCons te t) := ⟨pa_cons ha.h hr.h⟩
theorem sa_Subscript (ha : SE X (.Subscript a0 b0 pos0) te) (hr : SA X es t) : SA X (.Subscript a0 b0 pos0 :: es) (tCons te t) := ⟨pa_cons ha.h hr.h⟩
theorem sa_ListComp (ha : SE X (.ListComp a0 gs0 sc0 pos0) te) (hr : SA X es t) : SA X (.ListComp a0 gs0 sc0 pos0 :: es) (tCons te t) := ⟨pa_cons ha.h hr.h⟩
theorem sa_Compare (ha : SE X (.Compare a0 ops0 xs0 pos0) te) (hr : SA X es t) : SA X (.Compare a0 ops0 xs0 pos0 :: es) (tCons te t) := ⟨pa_cons ha.h hr.h⟩
end
section
variable {X : Cx} {a b c e o i value lo hi tg iter elt : Expr} {ta tb tc te td ty tv : TE} {t : TA} {pos p p2 pos' pos0 : Pos} {x : Str} {es : List Expr}
theorem zv (i : Nat) {x : Str} {pos : Pos} (hN : X.N[i]? = some x := by rfl) (hv : Vis X.env.scope x := by first | exact Or.inl rfl | exact Or.inr (Or.inl rfl) | exact Or.inr (Or.inr rfl)) (hd : (x == ("__debug__" : Str)) = false := by decide) (hcd : (x == ("__classdict__" : Str)) = false := by decide) : SE X (.Name x pos) (tV i) := ⟨pvv i hN hv hd hcd⟩
theorem z_gl {v : V} (h : ∃ u, X.mg x = some u ∧ RelV v u) (hg : Gl X x := by rfl) (hd : (x == ("__debug__" : Str)) = false := by decide) : SE X (.Name x pos) (tC v) := ⟨pe_gl h hg hd⟩
theorem z_glK (K : PySem.W.Frag) {xs : List V} (hx : ∃ a, X.mg x = some (.ref a) ∧ ∀ H, SqT K H a xs) (h : X.K = K := by rfl) (hg : Gl X x := by rfl) (hd : (x == ("__debug__" : Str)) = false := by decide) : SE X (.Name x pos) (tGlT K xs) := ⟨pe_glK K hx h hg hd⟩
theorem z_bltn {v : V} {u : Value} (hg : Gl X x) (hm : X.mg x = none) (hv : bootBuiltins x = some u) (r : RelV v u) (hn : x ≠ "__name__" := by decide) (hd : (x == ("__debug__" : Str)) = false := by decide) : SE X (.Name x pos) (tC v) := ⟨pe_bltn hg hm hv r hn hd⟩
theorem z_non {j} : SE X (.Constant .none j pos) (tC .non) := ⟨pe_non⟩
theorem z_bl {b : Bool} {j} : SE X (.Constant (.bool b) j pos) (tC (.bl b)) := ⟨pe_bl⟩
theorem z_int {i : Int} {j} : SE X (.Constant (.int i) j pos) (tC (.int i)) := ⟨pe_int⟩
theorem z_str {x : Str} {j} : SE X (.Constant (.str x) j pos) (tC (.str x)) := ⟨pe_str⟩
theorem z_op {op : Operator} {r : R2} (ho : OpR X (binaryOp op) r) (ha : SE X a ta) (hb : SE X b tb) : SE X (.BinOp a op b pos) (tOp r ta tb) := ⟨pe_op ho ha.h hb.h⟩
theorem z_cmpR {op : CmpOp} {r : R2} (ho : OpR X (compareOp op) r) (ha : SE X a ta) (hb : SE X b tb) (hm : behindInMarks op b = false) : SE X (.Compare a [op] [b] pos) (tOp r ta tb) := ⟨pe_cmpR ho ha.h hb.h hm⟩
theorem y_cmpR {op : CmpOp} {r : R2} (ho : OpR X (compareOp op) r) (ha : SE X a ta) (hb : SE X b tb) (hm : behindInMarks op b = false) : ST X (.Compare a [op] [b] pos) (tTest (tOp r ta tb)) := ⟨pt_cmpR ho ha.h hb.h hm⟩
theorem y_val (h : SE X e te) (he : ∀ whole, isTrue e X.env whole = (do let v ← whole; standAt e.pos; holding [v] (truthy v)) := by intro _; rfl) : ST X e (tB te) := ⟨pt_val h.h he⟩
theorem y_not {tA : TT} (ha : ST X a tA) : ST X (.UnaryOp .Not a pos) (tNot tA) := ⟨pt_not ha.h⟩
theorem w_and1 {tA : TT} (ha : ST X a tA) : SW X (.BoolOp .And [a] pos) tA := ⟨pw_and1 ha.h⟩
theorem w_or1 {tA : TT} (ha : ST X a tA) : SW X (.BoolOp .Or [a] pos) tA := ⟨pw_or1 ha.h⟩
theorem w_and {tA tB' : TT} {rest : List Expr} (ha : ST X a tA) (hb : SW X (.BoolOp .And (b :: rest) pos) tB') : SW X (.BoolOp .And (a :: b :: rest) pos) (tAnd tA tB') := ⟨pw_and ha.h hb.h⟩
theorem w_or {tA tB' : TT} {rest : List Expr} (ha : ST X a tA) (hb : SW X (.BoolOp .Or (b :: rest) pos) tB') : SW X (.BoolOp .Or (a :: b :: rest) pos) (tOr tA tB') := ⟨pw_or ha.h hb.h⟩
theorem SW.pt {tA : TT} (h : SW X e tA) : ST X e tA := ⟨h.h.pt⟩
theorem z_lst (h : SA X es t) : SE X (.List es pos) (tLst t) := ⟨pe_lst h.h⟩
theorem z_tup {x1} (h : SA X es t) : SE X (.Tuple es x1 pos) (tTup t) := ⟨pe_tup h.h⟩
theorem z_dnew : SE X (.Dict [] [] pos) tDNewK := ⟨pe_dnewK⟩
theorem zz_nil : SP2 X pos [] [] [] := ⟨pps_nil⟩
theorem zz_cons {ks : List (Option Expr)} {vs : List Expr} {tk tw : TE} {trs : List (TE × TE)} (hk : SE X a tk) (hv : SE X b tw) (hr : SP2 X pos ks vs trs) : SP2 X pos (some a :: ks) (b :: vs) ((tk, tw) :: trs) := ⟨pps_cons hk.h hv.h hr.h⟩
theorem z_disp {keys : List (Option Expr)} {values : List Expr} {trs : List (TE × TE)} (h : SP2 X pos keys values trs) (hall : keys.all (·.isSome) = true) (hl : keys.length = values.length) (h0 : keys ≠ []) (h15 : keys.length ≤ 15) : SE X (.Dict keys values pos) (tDisp trs) := ⟨pe_disp h.h hall hl h0 h15⟩
theorem zo_none : SO X none tNoPart := ⟨po_none⟩
theorem zo_some (h : SE X e te) : SO X (some e) (tPart te) := ⟨po_some h.h⟩
theorem z_slice {r : V → Option Int → Option Int → Hp → VK → Prop} {l u : Option Expr} {tl th : TO} (hr : SlR X r) (he : SE X e te) (hl : SO X l tl) (hu : SO X u th) : SE X (.Subscript e (.Slice l u none p2) pos) (tSl r te tl th) := ⟨pe_slice hr he.h hl.h hu.h⟩
theorem z_dget (hu : X.A.units + 1 < cLine) (ho : SE X o td) (hi : SE X i ty) (hs : NoSl i) : SE X (.Subscript o i pos) (tDGet td ty) := ⟨pe_dget hu ho.h hi.h hs⟩
theorem z_ix {r : R2} (hr : IxR X r) (ha : SE X a ta) (hb : SE X b tb) (hs : PlainIx b) : SE X (.Subscript a b pos) (tOp r ta tb) := ⟨pe_ix hr ha.h hb.h hs⟩
theorem z_fn {k : Nat} {ps : List Str} {sp : Sp} (F : FnK X.prog X.w X.K X.mg X.base k x ps sp) (hr : Room k X.A) (ha : SA X (e :: es) t) (hg : Gl X x := by rfl) (hdb : (x == ("__debug__" : Str)) = false := by decide)
    (he : starEach (e :: es) X.env = (false, eval e X.env) :: starEach es X.env := by rfl) (hpl : (backTo pos (starEach es X.env)).any (·.1) = false := by rfl) :
    SE X (.Call (.Name x p) (e :: es) [] pos) (tCall sp [] E0 t) := ⟨pe_fn F hr ha.h hg hdb he hpl⟩
theorem z_callB {id : String} {r : List V → Hp → VK → Prop} (hc : CallR X (.builtin id) r) (hg : Gl X x) (hm : X.mg x = none) (hv : bootBuiltins x = some (.builtin id)) (ha : SA X (e :: es) t) (hn : x ≠ "__name__" := by decide) (hdb : (x == ("__debug__" : Str)) = false := by decide)
    (he : starEach (e :: es) X.env = (false, eval e X.env) :: starEach es X.env := by rfl) (hpl : (backTo pos (starEach es X.env)).any (·.1) = false := by rfl) : SE X (.Call (.Name x p) (e :: es) [] pos) (tCB r t) := ⟨pe_callB hc hg hm hv ha.h hn hdb he hpl⟩
theorem z_bm (K : PySem.W.Frag) {T : String} {name : Str} {id : String} {r : V → List V → Hp → VK → Prop} {to : TE} {apos cpos : Pos} (pa : PlainAttrs T) (slot : Slot T name id) (hty : typeOf (.builtin id) = pure (.type "method_descriptor")) (hm : MtM X id r) (ho : SE X o to) (ha : SA X (e :: es) t) (h : X.K = K := by rfl)
    (hbase : attributeBase o name X.env (eval o X.env) = eval o X.env := by rfl)
    (hfew : ((backTo cpos (starEach (e :: es) X.env)).all (fun x => !x.1) && (backToKw cpos (keywordEach [] X.env)).all (fun x => x.1.isSome)
      && decide ((e :: es).length + ([] : List Keyword).length + (if ([] : List Keyword).isEmpty then 0 else 1) < 30)) = true := by rfl)
    (hline : (apos.endLine == cpos.line) = true := by rfl) (hs : starEach (e :: es) X.env = (false, eval e X.env) :: starEach es X.env := by rfl) (hplain : (backTo cpos (starEach es X.env)).any (·.1) = false := by rfl) :
    SE X (.Call (.Attribute o name apos) (e :: es) [] cpos) (tBM K T r to t) := ⟨pe_bmK K pa slot hty hm ho.h ha.h h hbase hfew hline hs hplain⟩
theorem sb_nil : SB X [] tNext := ⟨pss_nil⟩
theorem sb_one {st : Stmt} {u : TS} (h1 : SS X st u) : SB X [st] u := ⟨pss_one h1.h⟩
theorem sb_cons {st : Stmt} {rest : List Stmt} {u v : TS} (h1 : SS X st u) (h2 : SB X rest v) : SB X (st :: rest) (tSeq u v) := ⟨pss_cons h1.h h2.h⟩
theorem s_ret (he : SE X e te) : SS X (.Return (some e) pos) (tRet te) := ⟨ps_ret he.h⟩
theorem s_expr (he : SE X e te) (hs : swapsWith e none pos.line X.env = pure false := by rfl) : SS X (.Expr e pos) (tDrop te) := ⟨ps_expr he.h hs⟩
theorem s_if {a b : List Stmt} {tA : TT} {u v : TS} (hc : ST X c tA) (ha : SB X a u) (hb : SB X b v) : SS X (.If c a b pos) (tIfS tA u v) := ⟨ps_if hc.h ha.h hb.h⟩
theorem s_for {body : List Stmt} {wi : TI} {g : TG} {u : TS} (hp : PassesOwn (model X.prog X.w) X.A X.env X.xe) (hc : X.calm = true) (hi : SI X tg iter wi) (hg : SG X tg g) (hb : SB X body u) (hs : ∀ x, foldedSetIterable iter X.env x = pure x := by intro _; rfl) : SS X (.For tg iter body [] pos) (tFor wi g u) := ⟨ps_for hp hc hi.h hg.h hb.h hs⟩
theorem s_while {body : List Stmt} {tA : TT} {u : TS} (hp : PassesOwn (model X.prog X.w) X.A X.env X.xe) (hc : ST X c tA) (hb : SB X body u) : SS X (.While c body [] pos) (tWhile tA u) := ⟨ps_while hp hc.h hb.h⟩
theorem s_set {i : Nat} (hN : X.N.Nodup) (hi : X.N[i]? = some x) (hx : Loc X.env.scope x) (he : SE X e te) (hs : swapsWith e (some (.Name x pos')) pos.line X.env = pure false := by rfl) (hf : X.fn x = true ∨ X.env.scope.names.lookup x = some .local := by first | exact .inl rfl | exact .inr rfl | assumption) :
    SS X (.Assign [.Name x pos'] e pos) (tAsg te (gName i)) := ⟨ps_set hN hi hx he.h hs hf⟩
theorem s_dput (hu : X.A.units + 1 < cLine) (ho : SE X o td) (hi : SE X i ty) (hv : SE X value tv) (hs : swapsWith value (some (.Subscript o i pos')) pos.line X.env = pure false) : SS X (.Assign [.Subscript o i pos'] value pos) (sDPut td ty tv) := ⟨ps_dput hu ho.h hi.h hv.h hs⟩
theorem s_asg {g : TG} (he : SE X e te) (hg : SG X tg g) (hs : swapsWithSole [tg] e pos.line X.env = pure false := by rfl) (hw : swappedStores [tg] e X.env = pure none := by rfl)
    (h1 : (assignEach [tg] X.env).map (·.2) = [assign tg X.env] := by rfl) : SS X (.Assign [tg] e pos) (tAsg te g) := ⟨ps_asg he.h hg.h hs hw h1⟩
theorem g_name {i : Nat} (hN : X.N.Nodup) (hi : X.N[i]? = some x) (hx : Loc X.env.scope x) (hf : X.fn x = true ∨ X.env.scope.names.lookup x = some .local := by first | exact .inl rfl | exact .inr rfl | assumption) : SG X (.Name x pos) (gName i) := ⟨pg_name hN hi hx hf⟩
theorem gs_nil : SGs X [] gNil := ⟨pgs_nil⟩
theorem gs_cons {g : TG} {u : TGs} (h1 : SG X e g) (h2 : SGs X es u) (hs : (assignEach (e :: es) X.env).map (·.2) = assign e X.env :: (assignEach es X.env).map (·.2) := by rfl) : SGs X (e :: es) (gCons g u) := ⟨pgs_cons h1.h h2.h hs⟩
theorem g_tup (K : PySem.W.Frag) {k : Nat} {u : TGs} {n : Nat} (hc : X.calm = true) (hh : SGs X es u) (h : X.K = K := by rfl)
    (hn : (assignEach es X.env).length = n := by rfl) (hst : (assignEach es X.env).findIdx? (·.1) = none := by rfl) : SG X (.Tuple es k pos) (gTup K n u) := ⟨pg_tupK K hc hh.h h hn hst⟩
theorem g_sub {u : TSet} (ho : SE X o td) (hi : SE X i ty) (hs : PSet X u)
    (ha : ∀ v, assign (.Subscript o i pos) X.env v = (do
      let ov ← holding [v] (eval o X.env)
      let iv ← holding [v, ov] (eval i X.env)
      standAt pos
      holding [v, ov, iv] (setItem ov iv v)
      release [v, ov, iv] []) := by intro _; rfl) : SG X (.Subscript o i pos) (gSub td ty u) := ⟨pg_sub ho.h hi.h hs ha⟩
theorem i_range1 (hg : Gl X "range") (hm : X.mg "range" = none) (ha : SA X [a] t) (hs : starEach [a] X.env = [(false, eval a X.env)] := by rfl) : SI X tg (.Call (.Name "range" p) [a] [] pos) (iRng1 t) := ⟨pi_range1 hg hm ha.h hs⟩
theorem i_K (K : PySem.W.Frag) (hl : SE X e te) (h : X.K = K := by rfl) : SI X tg e (iD K te) := ⟨pi_K K hl.h h⟩
theorem c_nil : SC X [] tcNil := ⟨pc_nil'⟩
theorem c_one {tA : TT} (h : ST X c tA) : SC X [c] tA := ⟨pc_one' h.h⟩
theorem z_lc {ifs : List Expr} {sc : Scope} {own : List Str} {idx : List Nat} {N' : List Str} {wi : TI} {g : TG} {tt : TC} (S : CScope X.env.scope X.N sc own idx N') (hc : X.calm = true) (hi : SI X tg iter wi)
    (hg : ∀ cl C s3 H0 fp pn, SG (cxComp X N' sc cl C s3 H0 fp pn) tg g) (ht : ∀ cl C s3 H0 fp pn, SC (cxComp X N' sc cl C s3 H0 fp pn) ifs tt) (he : ∀ cl C s3 H0 fp pn, SE (cxComp X N' sc cl C s3 H0 fp pn) elt te)
    (hs : ∀ x, foldedSetIterable iter X.env x = pure x := by intro _; rfl) : SE X (.ListComp elt [⟨tg, iter, ifs, 0⟩] sc pos) (tLC own idx wi g tt te) :=
  ⟨pe_lc S hc hi.h (fun q r s t u v => (hg q r s t u v).h) (fun q r s t u v => (ht q r s t u v).h) (fun q r s t u v => (he q r s t u v).h) hs⟩
theorem s_lc {ifs : List Expr} {sc : Scope} {own : List Str} {idx : List Nat} {N' : List Str} {wi : TI} {g : TG} {tt : TC} {i : Nat} {y : Str} {py spos : Pos} (S : CScope X.env.scope X.N sc own idx N') (hc : X.calm = true) (hi : SI X tg iter wi)
    (hg : ∀ cl C s3 H0 fp pn, SG (cxComp X N' sc cl C s3 H0 fp pn) tg g) (ht : ∀ cl C s3 H0 fp pn, SC (cxComp X N' sc cl C s3 H0 fp pn) ifs tt) (he : ∀ cl C s3 H0 fp pn, SE (cxComp X N' sc cl C s3 H0 fp pn) elt te)
    (hN : X.N.Nodup) (hiy : X.N[i]? = some y) (hy : X.env.scope.names.lookup y = some .local)
    (hsw : swapsWith (.ListComp elt [⟨tg, iter, ifs, 0⟩] sc pos) (some (.Name y py)) spos.line X.env = pure true := by rfl)
    (hs : ∀ x, foldedSetIterable iter X.env x = pure x := by intro _; rfl) : SS X (.Assign [.Name y py] (.ListComp elt [⟨tg, iter, ifs, 0⟩] sc pos) spos) (tAsg (tLC own idx wi g tt te) (gName i)) :=
  ⟨ps_lc S hc hi.h (fun q r s t u v => (hg q r s t u v).h) (fun q r s t u v => (ht q r s t u v).h) (fun q r s t u v => (he q r s t u v).h) hN hiy hy hsw hs⟩
end
theorem FnT.okS {P : Program} {w : World} {K : PySem.W.Frag} {mg : Str → Option Value} {base : Heap} {x : Str} {st : Stmt} {N ps : List Str} {k : Nat} {sp : Sp} (F : FnT K mg x st ps) (S : FnScope N ps (defScope st)) (len : ∀ vs H Q E, sp vs H Q E → vs.length = ps.length)
    (hbody : ∀ (f : Addr) (cdv : Value) (A : Around) (outer : List Env) (s : Shared) (H : Hp) (vs : List V) (Q : VK) (E : XK), Room k (A.deeper (envOfC x (defScope st) s.heap.objs.size f cdv)) → sp vs H Q E →
      ∃ t, SB (cxOf CX0 P w K mg base N x (defScope st) f cdv A outer s H E).nox (defBody st) t ∧ t { nx := fun _ H' => Q .non H', rt := Q } (start N vs) H) : FnK P w K mg base (k + 1) x ps sp :=
  F.ok S len fun f cdv A outer s H vs Q E hr h => let ⟨t, h1, h2⟩ := hbody f cdv A outer s H vs Q E hr h; ⟨t, h1.h, h2⟩
end L2
set_option maxRecDepth 100000
namespace L2
open PySem PySem.Spec PyProof.Rows
section
variable {prog : Program} {w : World} {A : Around} {R : Result → Shared → Prop} {s : Shared}
theorem compLoopD {kx vx target iter : Expr} {ifs : List Expr} {scope : Scope} {pos : Pos} {it : Value} {D : Addr} {env : Env} (I : Nat → Shared → Prop)
    (turn : ∀ n s, I n s → wpAny (model prog w) A (pyNext it) (fun r s₁ => match r with
      | none => R (.ok .next) s₁
      | some v => wpAny (model prog w) A (letOwnedTupleGo target it v) (fun _ s₁' => wpAny (model prog w) A (assign target env v) (fun _ s₂ =>
          wpAny (model prog w) A (forIn ifs true fun c r => if r = true then do let ok ← isTrue c env (eval c env); pure (ForInStep.yield ok) else pure (ForInStep.yield r)) (fun ok s₃ =>
            if ok = true then wpAny (model prog w) A (eval kx env) (fun kv s₄ => wpAny (model prog w) A (eval vx env) (fun vv s₅ =>
              wpAny (model prog w) A (dictSet D kv vv) (fun _ s₆ => ∃ m, m < n ∧ I m s₆) NoE s₅) NoE s₄) NoE s₃
            else ∃ m, m < n ∧ I m s₃) NoE s₂) NoE s₁') NoE s₁) NoE s)
    (n : Nat) (h : I n s) :
    codeAny (model prog w) A (.compLoop (.DictComp kx vx [⟨target, iter, ifs, 0⟩] scope pos) 0 it (.ref D) env) R s := by
  refine codeAny_loop rfl I (fun n s hI => ?_) n h
  show wpAny _ A ((compTurn (.DictComp kx vx [⟨target, iter, ifs, 0⟩] scope pos) 0 it (.ref D) env).onRaise (fun x => do noteFrame x env; theTreesLotGoes x)) _ _ s
  refine wpAny_noted ?_
  rw [compTurn_dict]
  refine wpAny_bind (wpAny_standAt (wpAny_bind (wpAny_mono (turn n s hI) (fun r s₁ h₁ => ?_) fun _ _ h' => h'.elim)))
  cases r with
  | none => exact wpAny_pure h₁
  | some v =>
    refine wpAny_bind (wpAny_mono h₁ (fun _ s₁' h₁' => ?_) fun _ _ h' => h'.elim)
    refine wpAny_bind (wpAny_mono h₁' (fun _ s₂ h₂ => wpAny_bind (wpAny_mono h₂ (fun ok s₃ h₃ => ?_) fun _ _ h' => h'.elim)) fun _ _ h' => h'.elim)
    cases ok with
    | false => exact wpAny_pure ⟨rfl, h₃⟩
    | true =>
      exact wpAny_bind (wpAny_bind (wpAny_mono h₃ (fun kv s₄ h₄ => wpAny_bind (wpAny_holding (wpAny_mono h₄ (fun vv s₅ h₅ => wpAny_bind (wpAny_standAt (wpAny_holding (wpAny_mono h₅ (fun _ s₆ h₆ => wpAny_pure ⟨rfl, h₆⟩) fun _ _ h' => h'.elim)))) fun _ _ h' => h'.elim))) fun _ _ h' => h'.elim))
end
section
variable {X : Cx} {tg iter kx vx : Expr} {ifs : List Expr} {sc : Scope} {pos : Pos} {own : List Str} {idx : List Nat} {N' : List Str} {wi : TI} {g : TG} {tc : TC} {tk tw : TE}
abbrev dob : Obj := { cls := .type "dict", data := .dict #[] }
def tDC (own : List Str) (idx : List Nat) (wi : TI) (g : TG) (tc : TC) (tk tw : TE) : TE := fun σ H Q => wi σ H fun J H1 => ∀ D, H1 D = none → ∃ W : Nat → Nat → St → Hp → Prop, (∃ m, W 0 m (stIn own idx σ) (upd H1 D (.dK []))) ∧ ∀ i m τ H, W i m τ H →
  (J.stop i H ∧ Q (.ref D) H) ∨ (J.go i H ∧ ∃ N : St → Hp → Prop, (∀ τ' H', N τ' H' → ∃ m', m' < m ∧ W (i + 1) m' τ' H') ∧ ∀ x H', J.yld i H x H' → g x τ H' fun τ2 H2 => tc τ2 H2 fun b H3 =>
    if b = true then tk τ2 H3 fun x H4 => tw τ2 H4 fun y H5 => ∃ kvs key, x = kV key ∧ H5 D = some (.dK kvs) ∧ kvs.length < sizeLine ∧ N τ2 (upd H5 D (.dK (putK kvs key y))) else N τ2 H3)
theorem comp_blockD (S : CScope X.env.scope X.N sc own idx N') {cl : List (Str × Addr)} (c1 : ∀ x c, cl.lookup x = some c → X.env.cells.lookup x = some c) (c2 : ∀ y ∈ sc.names, y.2 = .free → ∃ c, cl.lookup y.1 = some c) (hc : X.calm = true)
    (hg : ∀ cl C s3 H0 fp pn, PG (cxComp X N' sc cl C s3 H0 fp pn) tg g) (ht : ∀ cl C s3 H0 fp pn, PC' (cxComp X N' sc cl C s3 H0 fp pn) ifs tc) (he : ∀ cl C s3 H0 fp pn, PE (cxComp X N' sc cl C s3 H0 fp pn) kx tk) (hv : ∀ cl C s3 H0 fp pn, PE (cxComp X N' sc cl C s3 H0 fp pn) vx tw)
    {pins : List (Addr × Obj)} {σ : St} {Q : VK} {itv : Value} {s2 : Shared} {RR : Value → Addr → Result → Shared → Prop} {E : Value → Shared → Prop}
    (hI : PIE X pins σ tg (fun J H1 => ∀ D, H1 D = none → ∃ W : Nat → Nat → St → Hp → Prop, (∃ m, W 0 m (stIn own idx σ) (upd H1 D (.dK []))) ∧ ∀ i m τ H, W i m τ H →
      (J.stop i H ∧ Q (.ref D) H) ∨ (J.go i H ∧ ∃ N : St → Hp → Prop, (∀ τ' H', N τ' H' → ∃ m', m' < m ∧ W (i + 1) m' τ' H') ∧ ∀ x H', J.yld i H x H' → g x τ H' fun τ2 H2 => tc τ2 H2 fun b H3 =>
        if b = true then tk τ2 H3 fun x H4 => tw τ2 H4 fun y H5 => ∃ kvs key, x = kV key ∧ H5 D = some (.dK kvs) ∧ kvs.length < sizeLine ∧ N τ2 (upd H5 D (.dK (putK kvs key y))) else N τ2 H3)) itv s2)
    (hRR : ∀ D C H' s', Inv X pins σ H' s' → Q (.ref D) H' → (H' C = none ∧ C ≠ X.env.locals ∧ X.s₀.heap.objs.size ≤ C ∧ (∀ x c, X.env.cells.lookup x = some c → c ≠ C) ∧ (∀ p ∈ X.pn ++ pins, p.1 ≠ C) ∧ ∃ m, s'.heap.Ns C m) → RR (.ref D) C (.ok .next) s') :
    wpAny (model X.prog X.w) X.A newDict (fun acc s₃ => wpAny (model X.prog X.w) X.A (newFunctionEnv sc X.env.globals cl [] X.env.qual none .none (some X.env)) (fun cenv s₄ =>
      codeAny (model X.prog X.w) X.A (.compStart (.DictComp kx vx [⟨tg, iter, ifs, 0⟩] sc pos) 0 itv acc { cenv with scope := relabel sc X.env }) (RR acc cenv.locals) s₄) E s₃) E s2 := by
  obtain ⟨it, fp, tn, J, H2, rfl, I, T, st2, f2, body⟩ := hI
  refine wpAny_newObj_type (wpAny_newFunctionEnv S.cell (by intro y hy; simp at hy) (fun h4 ns sb => ?_) S.kind)
  dsimp only at ns sb ⊢
  have hob : dob.isFreed = false := rfl
  have fr : H2 s2.heap.objs.size = none := I.hok.fresh (Nat.le_refl _)
  obtain ⟨W, ⟨m0, w0⟩, turn⟩ := body _ fr
  have hfo : ∀ b ∈ fp, ∃ o, s2.heap.get? b = some o := fun b hb => let ⟨o, e, _⟩ := T.obj _ _ st2 b hb; ⟨o, e⟩
  have sb' : ∀ b o, (s2.heap.push dob).get? b = some o → h4.get? b = some o := fun b o e => (sb.2 b (Nat.ne_of_lt (Heap.lt_size e))).trans (Heap.get?_push_of_some _ e)
  have hDo : ∀ (H : Hp) (h : Heap), h.get? s2.heap.objs.size = some dob → ObjOk X.prog X.w H h s2.heap.objs.size (.dK []) := fun H h e => ⟨Nat.zero_le _, beq_eq_false_iff_ne.mpr (Ne.symm (Nat.ne_of_lt I.big)), [], .nil, (Heap.DictOf.new s2.heap).at fun o eo => by rw [Heap.get?_push_size _ rfl] at eo; cases eo; exact e⟩
  have I4 : Inv (cxComp X N' sc cl (s2.heap.push dob).objs.size { s2 with heap := s2.heap.push dob } (upd H2 s2.heap.objs.size (.dK [])) fp (X.pn ++ pins)) [] (stIn own idx σ) (upd H2 s2.heap.objs.size (.dK [])) { s2 with heap := h4, toks := s2.toks + ([] : List (Str × Value)).length } :=
    inv_comp S I f2 hfo c1 c2 hob hDo ns sb'
  -- the block's own context
  generalize hY : cxComp X N' sc cl (s2.heap.push dob).objs.size { s2 with heap := s2.heap.push dob } (upd H2 s2.heap.objs.size (.dK [])) fp (X.pn ++ pins) = Y at I4
  have hgY : PG Y tg g := by rw [← hY]; exact hg _ _ _ _ _ _
  have htY : PC' Y ifs tc := by rw [← hY]; exact ht _ _ _ _ _ _
  have heY : PE Y kx tk := by rw [← hY]; exact he _ _ _ _ _ _
  have hvY : PE Y vx tw := by rw [← hY]; exact hv _ _ _ _ _ _
  have pY : Y.prog = X.prog := by rw [← hY]
  have wY : Y.w = X.w := by rw [← hY]
  have KY : Y.K = X.K := by rw [← hY]
  have AY : Y.A = X.A := by rw [← hY]
  have cY : Y.calm = true := by rw [← hY]; exact hc
  have xY : Y.xe = fun _ _ => False := by rw [← hY]
  have eY : Y.env = compEnvC sc cl (s2.heap.push dob).objs.size X.env := by rw [← hY]
  have exY : Y.ex = fp := by rw [← hY]
  have fsY : Y.fs = frs X.stack := by rw [← hY]
  have pnY : Y.pn = X.pn ++ pins := by rw [← hY]
  have stat : ∀ {H' : Hp}, (∀ b ∈ fp, H' b = none) → ∀ b ∈ fp, FpOk Y [] H' b := fun hn b hb => by
    obtain ⟨f0, f1, f3, f4, f5, f6⟩ := f2 b hb
    refine ⟨hn b hb, ?_, ?_, .inl (by rw [exY]; exact hb), fun x c e => ?_, fun p hp => ?_⟩
    · obtain ⟨o, e⟩ := hfo b hb
      have := Heap.lt_size e
      rw [eY]
      show b ≠ (s2.heap.push dob).objs.size
      rw [Heap.size_push]; exact Nat.ne_of_lt (Nat.lt_succ_of_lt this)
    · rw [fsY]
      intro z
      rcases List.mem_cons.mp (I.stkSub b z) with z | z
      · exact f1 z
      · exact f3 z
    · rw [eY] at e
      exact f5 x c (c1 x c e)
    · rw [pnY, List.append_nil] at hp
      exact f6 p hp
  have st4 : tn 0 h4 := T.keep _ _ _ st2 fun b hb o e => sb' b o (Heap.get?_push_of_some _ e)
  have fr4 : ∀ b ∈ fp, upd H2 s2.heap.objs.size (.dK []) b = none := fun b hb => by
    obtain ⟨o, e⟩ := hfo b hb
    rw [upd_ne (Nat.ne_of_lt (Heap.lt_size e))]
    exact (f2 b hb).1
  have loop : codeAny (model X.prog X.w) X.A (.compLoop (.DictComp kx vx [⟨tg, iter, ifs, 0⟩] sc pos) 0 (.ref it) (.ref s2.heap.objs.size) (compEnvC sc cl (s2.heap.push dob).objs.size X.env))
      (RR (.ref s2.heap.objs.size) (s2.heap.push dob).objs.size) { s2 with heap := h4, toks := s2.toks + ([] : List (Str × Value)).length } := by
    refine compLoopD (fun n s' => ∃ i τ H', Inv Y [] τ H' s' ∧ tn i s'.heap ∧ (∀ b ∈ fp, H' b = none) ∧ W i n τ H') ?_ m0 ⟨0, _, _, I4, st4, fr4, w0⟩
    rintro n s3 ⟨i, τ3, H3, I3, st3, fr3, w3⟩
    rcases turn i n τ3 H3 w3 with ⟨stop, qn⟩ | ⟨go, N, hN, step⟩
    · have h := T.done Y pY wY KY cY i [] s3 τ3 H3 NoE I3 (stat fr3) st3 stop
      rw [AY] at h
      refine thn h ?_
      rintro r s4 ⟨hr, I4'⟩
      subst hr
      have J4 := I4'
      rw [← hY] at J4
      obtain ⟨b1, b2⟩ := comp_back I f2 hob J4
      exact hRR _ _ _ _ b1 qn b2
    · have h := T.item Y pY wY KY cY i [] s3 τ3 H3 NoE I3 (stat fr3) st3 go
      rw [AY] at h
      refine thn h ?_
      rintro r s4 ⟨u, hr, h4'⟩
      subst hr
      refine thn h4' ?_
      rintro _ s5 ⟨x, H5, I5, r5, y5, st5, fr5⟩
      have I5' := I5.pinned (stat fr5) (T.obj _ _ st5)
      have g5 := hgY _ s5 τ3 H5 x u _ I5' r5 (step x H5 y5)
      rw [pY, wY, AY, xY, eY] at g5
      refine thn g5 ?_
      rintro _ s6 ⟨τ6, H6, I6, q6⟩
      have t6 := htY _ s6 τ6 H6 _ I6 q6
      rw [pY, wY, AY, xY, eY] at t6
      refine thn t6 ?_
      rintro ok s7 ⟨H7, I7, q7⟩
      have again : ∀ {τ8 : St} {H8 : Hp} {s8 : Shared}, Inv Y ([] ++ pinsAt fp s5.heap) τ8 H8 s8 → N τ8 H8 → ∃ m, m < n ∧ ∃ i τ' H', Inv Y [] τ' H' s8 ∧ tn i s8.heap ∧ (∀ b ∈ fp, H' b = none) ∧ W i m τ' H' := fun {τ8 H8 s8} I8 n8 => by
        obtain ⟨m', hm, w8⟩ := hN τ8 H8 n8
        refine ⟨m', hm, i + 1, τ8, H8, I8.unpinned, T.keep _ _ _ st5 fun b hb o e => (I8.pin (b, o) (List.mem_append_right _ (List.mem_append_right _ (mem_pinsAt hb e)))).1, fun b hb => ?_, w8⟩
        obtain ⟨o, e, d⟩ := T.obj _ _ st5 b hb
        exact (I8.pin (b, o) (List.mem_append_right _ (List.mem_append_right _ (mem_pinsAt hb e)))).2.1
      cases ok with
      | false =>
        rw [if_neg (by decide)] at q7 ⊢
        exact again I7 q7
      | true =>
        rw [if_pos rfl] at q7 ⊢
        have e7 := heY _ s7 τ6 H7 _ I7 q7
        rw [pY, wY, AY, xY, eY] at e7
        refine thn e7 ?_
        rintro kv s8 ⟨x8, H8, I8, r8, q8⟩
        have v8 := hvY _ s8 τ6 H8 _ I8 q8
        rw [pY, wY, AY, xY, eY] at v8
        refine thn v8 ?_
        rintro yv s9 ⟨y9, H9, I9, r9, kvs, key, ek, hD9, hz, n9⟩
        subst ek
        obtain ⟨z, hd, vs, rel, dd⟩ := dk_of I9.hok hD9
        have hzz : vs.length ≤ sizeLine := by rw [← rel.length]; exact z
        have hlen : (putK kvs key y9).length ≤ sizeLine := by have := length_putK kvs key y9; omega
        rw [pY, wY] at dd
        refine wpAny_dictSet_pairs (hsz := hzz) (kV_is r8) dd fun h' dd' hs => ?_
        have he9 : ∃ q, h'.get? s2.heap.objs.size = some q := let ⟨q, _, _, hq, _⟩ := dd'; ⟨q, hq⟩
        rw [← pY, ← wY] at dd'
        have I10 := d_write (t' := s9.toks + 1) (ob := .dK (putK kvs key y9)) I9 (by rw [hD9]; exact True.intro) hs he9 (dk_new hlen hd (rel.put key r9) dd')
        exact again I10 n9
  exact codeAny_compStart_dict loop (T.self _ 0 _ _ _ st4 loop)
theorem pe_dc (S : CScope X.env.scope X.N sc own idx N') (hc : X.calm = true) (hi : PI X tg iter wi)
    (hg : ∀ cl C s3 H0 fp pn, PG (cxComp X N' sc cl C s3 H0 fp pn) tg g) (ht : ∀ cl C s3 H0 fp pn, PC' (cxComp X N' sc cl C s3 H0 fp pn) ifs tc) (he : ∀ cl C s3 H0 fp pn, PE (cxComp X N' sc cl C s3 H0 fp pn) kx tk) (hv : ∀ cl C s3 H0 fp pn, PE (cxComp X N' sc cl C s3 H0 fp pn) vx tw)
    (hs : ∀ x, foldedSetIterable iter X.env x = pure x := by intro _; rfl) : PE X (.DictComp kx vx [⟨tg, iter, ifs, 0⟩] sc pos) (tDC own idx wi g tc tk tw) := by
  intro pins s σ H Q I h
  obtain ⟨cl, hcl, c1, c2⟩ := S.closure I.ok
  show wpAny _ X.A (comprehension (.DictComp kx vx [⟨tg, iter, ifs, 0⟩] sc pos) sc X.env _ newDict false (eval iter X.env)) _ _ s
  refine wpAny_comprehension_free (use := none) rfl hs hcl S.kind S.names (thn (hi pins s σ H _ I h) fun v s1 h1 => thn h1 fun itv s2 h2 => ?_)
  refine comp_blockD (Q := Q) (pins := pins) (σ := σ) (RR := fun acc C => compPost (model X.prog X.w) X.A X.xe none (EP X pins σ Q) acc C) S c1 c2 hc hg ht he hv h2 ?_
  intro D C H' s' I' q ⟨a1, a2, a3, a4, a5, m, a6⟩
  exact ⟨m, a6, fun h' sb => ⟨.ref D, H', I'.turned (t' := s'.toks) (fun b o hb e => (sb.2 b hb).trans e) a1 (Ne.symm (Ne.symm a2)) (.inr a3) a4 a5, rfl, q⟩⟩
theorem z_dc (S : CScope X.env.scope X.N sc own idx N') (hc : X.calm = true) (hi : SI X tg iter wi)
    (hg : ∀ cl C s3 H0 fp pn, SG (cxComp X N' sc cl C s3 H0 fp pn) tg g) (ht : ∀ cl C s3 H0 fp pn, SC (cxComp X N' sc cl C s3 H0 fp pn) ifs tc) (he : ∀ cl C s3 H0 fp pn, SE (cxComp X N' sc cl C s3 H0 fp pn) kx tk) (hv : ∀ cl C s3 H0 fp pn, SE (cxComp X N' sc cl C s3 H0 fp pn) vx tw)
    (hs : ∀ x, foldedSetIterable iter X.env x = pure x := by intro _; rfl) : SE X (.DictComp kx vx [⟨tg, iter, ifs, 0⟩] sc pos) (tDC own idx wi g tc tk tw) :=
  ⟨pe_dc S hc hi.h (fun q r s t u v => (hg q r s t u v).h) (fun q r s t u v => (ht q r s t u v).h) (fun q r s t u v => (he q r s t u v).h) (fun q r s t u v => (hv q r s t u v).h) hs⟩
end
end L2
set_option maxRecDepth 100000
namespace L2
open PySem PySem.Spec PyProof.Rows
theorem Same.upd {H : Hp} {a : Addr} (h : H a = none) (o : HO) : Same H (upd H a o) := fun b u q => by rw [upd_ne (ne_of_none q h)]; exact q
theorem iteB {c : Bool} {A B : Prop} (h1 : c = true → A) (h2 : c = false → B) : if c = true then A else B := by
  cases c with
  | true => exact iteT (h1 rfl)
  | false => exact iteF (h2 rfl)
theorem tSeq_by {t u : TS} {D : Ends} {σ : St} {H : Hp} (mid : St → Hp → Prop) (h1 : ∀ nx : St → Hp → Prop, (∀ σ' H', mid σ' H' → nx σ' H') → t { D with nx := nx } σ H) (h2 : ∀ σ' H', mid σ' H' → u D σ' H') : tSeq t u D σ H := h1 (u D) h2
theorem atI_zero {α : Type} (x : α) (xs : List α) : atI (x :: xs) 0 = some x := atI_nat (j := 0) rfl
theorem atI_some {α : Type} (xs : List α) (i : Int) (h0 : 0 ≤ i) (h1 : i < xs.length) : ∃ c, xs[i.toNat]? = some c ∧ atI xs i = some c := by
  have hl : i.toNat < xs.length := by omega
  refine ⟨xs[i.toNat], by simp [hl], ?_⟩
  have := atI_nat (xs := xs) (j := i.toNat) (v := xs[i.toNat]) (by simp [hl])
  rw [← this]
  congr 1
  omega
theorem mapStr_getD (ns : List Str) (i : Nat) (h : i < ns.length) : (ns.map V.str).getD i .non = .str (ns.getD i "") := by
  simp [List.getD_eq_getElem?_getD, h]
abbrev penD (w : Addr) (m t : Int) : List (Key × V) := [(.inr "mixed", .int m), (.inr "turn", .int t), (.inr "wide", .ref w)]
structure PenAt (H : Hp) (p w : Addr) (t : Nat) : Prop where
  ex : ∃ (m c : Int) (ws : List Int), H p = some (.dK (penD w m c)) ∧ H w = some (.lst (ws.map V.int)) ∧ (0 ≤ m ∧ m < 2147483629) ∧ 0 ≤ c ∧ c ≤ (t : Int)
theorem PenAt.mono {H : Hp} {p w : Addr} {t u : Nat} (h : PenAt H p w t) (l : t ≤ u) : PenAt H p w u := by
  obtain ⟨m, c, ws, h1, h2, h3, h4, h5⟩ := h.ex
  exact ⟨m, c, ws, h1, h2, h3, h4, by omega⟩
theorem PenAt.ne {H : Hp} {p w : Addr} {t : Nat} (h : PenAt H p w t) : p ≠ w := by
  obtain ⟨m, c, ws, h1, h2, _⟩ := h.ex
  exact ne_of h1 h2 (by intro z; cases z)
def Sm (p w : Addr) (H H' : Hp) : Prop := ∀ b o, H b = some o → b ≠ p → b ≠ w → H' b = some o
theorem Sm.refl {p w : Addr} {H : Hp} : Sm p w H H := fun _ _ h _ _ => h
theorem Sm.trans {p w : Addr} {H H1 H2 : Hp} (a : Sm p w H H1) (b : Sm p w H1 H2) : Sm p w H H2 := fun c o h h1 h2 => b c o (a c o h h1 h2) h1 h2
theorem Same.sm {p w : Addr} {H H1 : Hp} (a : Same H H1) : Sm p w H H1 := fun c o h _ _ => a c o h
theorem PenAt.same {H H' : Hp} {p w : Addr} {t : Nat} (h : PenAt H p w t) (s : Same H H') : PenAt H' p w t := by
  obtain ⟨m, c, ws, h1, h2, r⟩ := h.ex
  exact ⟨m, c, ws, s _ _ h1, s _ _ h2, r⟩
theorem Sm.free {p w : Addr} {H H' : Hp} (s : Sm p w H H') {l : Addr} (h : H' l = none) (hp : l ≠ p) (hw : l ≠ w) : H l = none := by
  cases q : H l with
  | none => rfl
  | some o => rw [s l o q hp hw] at h; cases h
theorem PenAt.upd {H : Hp} {p w D : Addr} {t : Nat} {o : HO} (h : PenAt H p w t) (h1 : D ≠ p) (h2 : D ≠ w) : PenAt (upd H D o) p w t := by
  obtain ⟨m, c, ws, e1, e2, r⟩ := h.ex
  exact ⟨m, c, ws, by rw [upd_ne h1.symm]; exact e1, by rw [upd_ne h2.symm]; exact e2, r⟩
theorem Sm.upd {p w D : Addr} {H H' : Hp} {o : HO} (s : Sm p w H H') (h : H D = none) : Sm p w H (upd H' D o) := fun b u hb h1 h2 => by rw [upd_ne (ne_of_none hb h)]; exact s b u hb h1 h2
theorem PenAt.ne1 {H : Hp} {p w D : Addr} {t : Nat} (h : PenAt H p w t) (hD : H D = none) : D ≠ p := fun e => by obtain ⟨_, _, _, z, _⟩ := h.ex; rw [← e, hD] at z; cases z
theorem PenAt.ne2 {H : Hp} {p w D : Addr} {t : Nat} (h : PenAt H p w t) (hD : H D = none) : D ≠ w := fun e => by obtain ⟨_, _, _, _, z, _⟩ := h.ex; rw [← e, hD] at z; cases z
def spLaw (K : PySem.W.Frag) : Sp := fun vs H Q _ => ∃ (a : Addr) (ns : List Int), vs = [.ref a] ∧ SqL K H a (ns.map V.int) ∧ ns.length ≤ 63 ∧ ∀ H', Q (.bl true) H'
def GoodV (p w : Addr) (H : Hp) : V → Prop
  | .non => True
  | .bl _ => True
  | .int _ => True
  | .str z => z.length ≤ 100000
  | .ref a => a ≠ p ∧ a ≠ w ∧ ((∃ xs, H a = some (.lst xs)) ∨ (∃ xs, H a = some (.tup xs)) ∨ ∃ kvs, H a = some (.dK kvs))
  | _ => False
theorem GoodV.sm {p w : Addr} {H H' : Hp} {x : V} (h : GoodV p w H x) (s : Sm p w H H') : GoodV p w H' x := by
  cases x with
  | ref a =>
    obtain ⟨h1, h2, h3⟩ := h
    refine ⟨h1, h2, ?_⟩
    rcases h3 with ⟨xs, e⟩ | ⟨xs, e⟩ | ⟨xs, e⟩
    · exact .inl ⟨xs, s _ _ e h1 h2⟩
    · exact .inr (.inl ⟨xs, s _ _ e h1 h2⟩)
    · exact .inr (.inr ⟨xs, s _ _ e h1 h2⟩)
  | _ => exact h
structure GLs (p w : Addr) (t : Nat) (H : Hp) (xs : List V) : Prop where
  pen : PenAt H p w t
  all : ∀ x ∈ xs, GoodV p w H x
section
variable {p w : Addr} {t u : Nat} {H H' : Hp} {xs ys : List V}
theorem GLs.sm (g : GLs p w t H xs) (hp : PenAt H' p w u) (s : Sm p w H H') : GLs p w u H' xs := ⟨hp, fun x hx => (g.all x hx).sm s⟩
theorem GLs.upd {q : Addr} {o : HO} (g : GLs p w t H xs) (h : H q = none) : GLs p w t (upd H q o) xs := g.sm (g.pen.same (Same.upd h o)) (Same.upd h o).sm
theorem GLs.add {x : V} (g : GLs p w t H xs) (h : GoodV p w H x) : GLs p w t H (x :: xs) := ⟨g.pen, fun y hy => by
  rcases List.mem_cons.mp hy with e | hy
  · rw [e]; exact h
  · exact g.all y hy⟩
theorem GLs.lst {q : Addr} {zs : List V} (g : GLs p w t H xs) (h : H q = none) : GLs p w t (L2.upd H q (.lst zs)) (.ref q :: xs) := (g.upd h).add ⟨g.pen.ne1 h, g.pen.ne2 h, .inl ⟨zs, upd_same⟩⟩
theorem GLs.tup {q : Addr} {zs : List V} (g : GLs p w t H xs) (h : H q = none) : GLs p w t (L2.upd H q (.tup zs)) (.ref q :: xs) := (g.upd h).add ⟨g.pen.ne1 h, g.pen.ne2 h, .inr (.inl ⟨zs, upd_same⟩)⟩
theorem GLs.dct {q : Addr} {zs : List (Key × V)} (g : GLs p w t H xs) (h : H q = none) : GLs p w t (L2.upd H q (.dK zs)) (.ref q :: xs) := (g.upd h).add ⟨g.pen.ne1 h, g.pen.ne2 h, .inr (.inr ⟨zs, upd_same⟩)⟩
theorem GLs.perm (g : GLs p w t H xs) (h : ∀ x ∈ ys, x ∈ xs) : GLs p w t H ys := ⟨g.pen, fun y hy => g.all y (h y hy)⟩
end
end L2
set_option maxRecDepth 100000
namespace L2
open PySem PySem.Spec PyProof.Rows
section
variable {X : Cx} {x : Str} {p pos : Pos} {e : Expr} {es : List Expr} {t : TA}
theorem z_callTy {T : String} {r : List V → Hp → VK → Prop} (hc : CallR X (.type T) r) (hg : Gl X x) (hm : X.mg x = none) (hv : bootBuiltins x = some (.type T)) (ha : SA X (e :: es) t) (hn : x ≠ "__name__" := by decide) (hdb : (x == ("__debug__" : Str)) = false := by decide)
    (he : starEach (e :: es) X.env = (false, eval e X.env) :: starEach es X.env := by rfl) (hpl : (backTo pos (starEach es X.env)).any (·.1) = false := by rfl) : SE X (.Call (.Name x p) (e :: es) [] pos) (tCB r t) := ⟨pe_callTy hc hg hm hv ha.h hn hdb he hpl⟩
def rTupOf (K : PySem.W.Frag) : List V → Hp → VK → Prop := fun xs H Q => ∃ p ys, xs = [.ref p] ∧ ((SqL K H p ys ∧ ∀ l, H l = none → Q (.ref l) (upd H l (.tup ys))) ∨ (SqT K H p ys ∧ Q (.ref p) H))
def rLstOf (K : PySem.W.Frag) : List V → Hp → VK → Prop := fun xs H Q => ∃ p ys, xs = [.ref p] ∧ (SqL K H p ys ∨ SqT K H p ys) ∧ ∀ l, H l = none → Q (.ref l) (upd H l (.lst ys))
theorem call_tupK (K : PySem.W.Frag) (h : X.K = K := by rfl) : CallR X (.type "tuple") (rTupOf K) := by subst h; exact call_tuple_of
theorem call_lstK (K : PySem.W.Frag) (h : X.K = K := by rfl) : CallR X (.type "list") (rLstOf K) := by subst h; exact call_list_of
end
mutual
inductive Den (H : Hp) : V → PyData → Prop
  | non : Den H .non .none
  | bl (b : Bool) : Den H (.bl b) (.bool b)
  | int (i : Int) : Den H (.int i) (.int i)
  | str (z : Str) : Den H (.str z) (.str z)
  | tup {a : Addr} {xs : List V} {ds : List PyData} : H a = some (.tup xs) → DenL H xs ds → Den H (.ref a) (.tuple ds)
  | lst {a : Addr} {xs : List V} {ds : List PyData} : H a = some (.lst xs) → DenL H xs ds → Den H (.ref a) (.list ds)
inductive DenL (H : Hp) : List V → List PyData → Prop
  | nil : DenL H [] []
  | cons {x : V} {d : PyData} {xs : List V} {ds : List PyData} : Den H x d → DenL H xs ds → DenL H (x :: xs) (d :: ds)
end
mutual
theorem Den.same {H H' : Hp} (s : Same H H') : ∀ {x : V} {d : PyData}, Den H x d → Den H' x d
  | _, _, .non => .non
  | _, _, .bl b => .bl b
  | _, _, .int i => .int i
  | _, _, .str z => .str z
  | _, _, .tup e r => .tup (s _ _ e) (DenL.same s r)
  | _, _, .lst e r => .lst (s _ _ e) (DenL.same s r)
theorem DenL.same {H H' : Hp} (s : Same H H') : ∀ {xs : List V} {ds : List PyData}, DenL H xs ds → DenL H' xs ds
  | _, _, .nil => .nil
  | _, _, .cons a r => .cons (Den.same s a) (DenL.same s r)
end
mutual
theorem reads_of {P : Program} {w : World} {H : Hp} {h : Heap} (ok : HOk P w H h) : ∀ {x : V} {d : PyData} {u : Value}, Den H x d → RelV x u → ∃ as, Reads h u d as
  | _, _, _, .non, r => by cases (show _ = Value.none from r); exact ⟨[], .none⟩
  | _, _, _, .bl b, r => by cases (show _ = Value.bool b from r); exact ⟨[], .bool b⟩
  | _, _, _, .int i, r => by obtain ⟨t, rfl⟩ := (show ∃ t, _ = Value.int i t from r); exact ⟨[], .int i t⟩
  | _, _, _, .str z, r => by obtain ⟨t, rfl⟩ := (show ∃ t, _ = Value.str z t from r); exact ⟨[], .str z t⟩
  | _, _, _, .tup (a := a) (xs := xs) e l, r => by
    cases (show _ = Value.ref a from r)
    obtain ⟨_, its, rv, o, ho, hc, n, hd⟩ := (show ObjOk P w H h a (.tup xs) from ok a _ e)
    obtain ⟨as, ra⟩ := readsAll_of ok l rv
    exact ⟨as, .tuple ho hc hd (by simpa using ra)⟩
  | _, _, _, .lst (a := a) (xs := xs) e l, r => by
    cases (show _ = Value.ref a from r)
    obtain ⟨_, its, n, rv, ho⟩ := (show ObjOk P w H h a (.lst xs) from ok a _ e)
    obtain ⟨as, ra⟩ := readsAll_of ok l rv
    exact ⟨a :: as, .list ho rfl rfl (by simpa using ra)⟩
theorem readsAll_of {P : Program} {w : World} {H : Hp} {h : Heap} (ok : HOk P w H h) : ∀ {xs : List V} {ds : List PyData} {us : List Value}, DenL H xs ds → Vals xs us → ∃ as, ReadsAll h us ds as
  | _, _, _, .nil, .nil => ⟨[], .nil⟩
  | _, _, _, .cons a l, .cons r rs => by
    obtain ⟨as, ra⟩ := reads_of ok a r
    obtain ⟨bs, rb⟩ := readsAll_of ok l rs
    exact ⟨as ++ bs, .cons ra rb⟩
end
end L2
set_option maxRecDepth 100000
namespace L2
open PySem PySem.Spec PyProof.Rows
section
variable {X : Cx}
def rIsB (n : Bool) : R2 := fun x y H Q => match x, y with
  | .bl a, .bl b => Q (.bl (n ^^ (a == b))) H
  | x, .non => Q (.bl (n ^^ decide (x = .non))) H
  | _, _ => False
theorem op_isB : OpR X (compareOp .Is) (rIsB false) := by
  intro pins s σ H x y v u Q I rx ry h
  cases y with
  | non => exact op_isN pins s σ H _ _ v u Q I rx ry ⟨rfl, by cases x <;> simpa [rIsB] using h⟩
  | bl b =>
    cases x with
    | bl a =>
      cases rx; cases ry
      exact is_bool (fin_bl I h (by cases a <;> cases b <;> rfl))
    | _ => exact (show False from h).elim
  | _ => cases x <;> exact (show False from h).elim
end
end L2
set_option maxRecDepth 100000
namespace L2
open PySem PySem.Spec PyProof.Rows
abbrev ABC : Str := "abcdefghijklmnopqrstuvwxyz"
abbrev NON : List Str := ["all", "none", "way", "box", "pick"]
def inAbc (c : Nat) : Bool := !(Builtin.Str.occurrences ABC ⟨#[c]⟩ 0 ABC.length 1).isEmpty
def isName (z : Str) : Bool := decide (1 ≤ z.length) && decide (z.length ≤ 8) && !(NON.any fun y => y == z) && z.cps.toList.all inAbc
def isNameV : V → Bool
  | .str z => isName z
  | _ => false
def spName : Sp := fun vs H Q _ => ∃ (p w : Addr) (x : V), vs = [x] ∧ GoodV p w H x ∧ ∀ H', Same H H' → Q (.bl (isNameV x)) H'
theorem decV_str {i j : Str} : (decide (V.str i = V.str j)) = (i == j) := by
  by_cases h : i = j
  · subst h; simp
  · rw [decide_eq_false (fun e => h (V.str.inj e))]
    exact (beq_eq_false_iff_ne.mpr h).symm
theorem Same.put {H0 H' : Hp} {p : Addr} {o : HO} (s : Same H0 H') (h : H0 p = none) : Same H0 (L2.upd H' p o) := fun b u q => by rw [upd_ne (ne_of_none q h)]; exact s b u q
theorem tSeq_set {te : TE} {i : Nat} {u : TS} {D : Ends} {σ : St} {H : Hp} (h : te σ H fun x H1 => u D (σ.set i (some x)) H1) : tSeq (tAsg te (gName i)) u D σ H := h
theorem tSeq_setC {v : V} {i : Nat} {u : TS} {D : Ends} {σ : St} {H : Hp} (h : u D (σ.set i (some v)) H) : tSeq (tAsg (tC v) (gName i)) u D σ H := h
theorem spName.str {z : Str} {H : Hp} {Q : VK} {E : XK} (hz : z.length ≤ 100000) (q : ∀ H', Same H H' → Q (.bl (isName z)) H') : spName [.str z] H Q E := ⟨0, 0, .str z, rfl, hz, q⟩
end L2
set_option maxRecDepth 100000
namespace L2
open PySem PySem.Spec PyProof.Rows
end L2
set_option maxRecDepth 100000
namespace L2
open PySem PySem.Spec PyProof.Rows
section
variable {X : Cx} {pins : List (Addr × Obj)} {σ : St} {H : Hp} {s : Shared} {h' : Heap}
theorem Inv.turnedT {t' : Nat} {ch : List Addr} {T : Addr} {o : HO} (I : Inv X pins σ H s) (hf : ∀ b ∈ ch, FpOk X pins H b) (k : ∀ b o, b ∉ ch → s.heap.get? b = some o → h'.get? b = some o)
    (hT : s.heap.objs.size ≤ T) (new : ObjOk X.prog X.w (upd H T o) h' T o) : Inv X pins σ (upd H T o) { s with heap := h', toks := t' } := by
  have hfr : H T = none := I.hok.fresh hT
  have nT : ∀ b ob, s.heap.get? b = some ob → b ≠ T := fun b ob e => Nat.ne_of_lt (Nat.lt_of_lt_of_le (Heap.lt_size e) hT)
  have nch : ∀ b u, H b = some u → b ∉ ch := fun b u e hb => by rw [(hf b hb).1] at e; cases e
  refine I.step (g' := s.gens) (d' := s.drawn) (ch := ch) (fun b hb => ?_) (fun b o _ _ hc e _ => k b o hc e) (fun b o _ _ hc e _ => ⟨o.slots, k b o hc e⟩) (fun b o hc e n => by rw [upd_ne (nT b o e)]; exact n)
    (fun b o hc e => ⟨o, k b o hc e⟩) (fun b xs e => by rw [upd_ne (ne_of_none e hfr)]; exact e) (fun b o u e => by rw [upd_ne (ne_of_none e hfr)]; exact e) (fun b ps e => ⟨#[], by rw [upd_ne (ne_of_none e hfr), e]; simp⟩) (fun m hm => ?_) (fun b u e => ?_) I.bare
  · obtain ⟨f0, f1, f2, f3, f4, f5⟩ := hf b hb
    exact ⟨f3, f1, f4, f5⟩
  · obtain ⟨o, es, ep, ho, r⟩ := hm
    exact ⟨o, es, ep, k _ o (fun z => (hf _ z).2.1 rfl) ho, r⟩
  · by_cases hb : b = T
    · subst hb
      rw [upd_same] at e; cases e
      exact new
    · rw [upd_ne hb] at e
      refine (I.hok b u e).stay (fun c v hc q => k c v ?_ q) (fun c q => by rw [upd_ne (ne_of_none q hfr)]; exact q) fun c xs q => q.upd fun u' hu => ne_of_none hu hfr
      rcases hc with z | z
      · rw [z]; exact nch b u e
      · exact nch c _ z
theorem Inv.turnedL {t' : Nat} {ch : List Addr} (I : Inv X pins σ H s) (hf : ∀ b ∈ ch, FpOk X pins H b) (k : ∀ b o, b ∉ ch → s.heap.get? b = some o → h'.get? b = some o) : Inv X pins σ H { s with heap := h', toks := t' } := by
  have nch : ∀ b u, H b = some u → b ∉ ch := fun b u e hb => by rw [(hf b hb).1] at e; cases e
  refine I.step (g' := s.gens) (d' := s.drawn) (ch := ch) (fun b hb => ?_) (fun b o _ _ hc e _ => k b o hc e) (fun b o _ _ hc e _ => ⟨o.slots, k b o hc e⟩) (fun b o hc e n => n)
    (fun b o hc e => ⟨o, k b o hc e⟩) (fun b xs e => e) (fun b o u e => e) (fun b ps e => ⟨#[], by rw [e]; simp⟩) (fun m hm => ?_) (fun b u e => ?_) I.bare
  · obtain ⟨f0, f1, f2, f3, f4, f5⟩ := hf b hb
    exact ⟨f3, f1, f4, f5⟩
  · obtain ⟨o, es, ep, ho, r⟩ := hm
    exact ⟨o, es, ep, k _ o (fun z => (hf _ z).2.1 rfl) ho, r⟩
  · refine (I.hok b u e).stay (fun c v hc q => k c v ?_ q) (fun c q => q) fun c xs q => q
    rcases hc with z | z
    · rw [z]; exact nch b u e
    · exact nch c _ z
end
abbrev pairY (v1 v2 : V) : Hp → V → Hp → Prop := fun H x H' => ∃ T, x = .ref T ∧ H T = none ∧ H' = upd H T (.tup [v1, v2])
theorem tup2_ok {P : Program} {w : World} {H : Hp} {h : Heap} {T : Addr} {v1 v2 : V} {u1 u2 : Value} (r1 : RelV v1 u1) (r2 : RelV v2 u2) (e : h.get? T = some { cls := .type "tuple", data := .seq #[u1, u2] }) : ObjOk P w H h T (.tup [v1, v2]) :=
  ⟨⟨show 2 ≤ sizeLine by decide, fun o q => by rw [e] at q; cases q; rfl⟩, [u1, u2], .cons r1 (.cons r2 .nil), _, e, rfl, _, rfl⟩
theorem zipApart_mk {n l m : Nat} (h1 : l < n) (h2 : m < n) : ZipApart (n + 4) (n + 2) (n + 3) n (n + 1) l m := by
  constructor <;> (show (_ : Nat) ≠ _) <;> omega
def Itz (K : PySem.W.Frag) (a b : Addr) : It :=
  ⟨fun i H => ∃ xs ys x y, SqL K H a xs ∧ SqL K H b ys ∧ xs[i]? = some x ∧ ys[i]? = some y, fun i H x H' => ∃ v1 v2, (∀ xs, SqL K H a xs → xs[i]? = some v1) ∧ (∀ ys, SqL K H b ys → ys[i]? = some v2) ∧ pairY v1 v2 H x H',
   fun i H => ∃ xs ys, SqL K H a xs ∧ SqL K H b ys ∧ (xs.length ≤ i ∨ ys.length ≤ i)⟩
abbrev zipSt (z TI TO i1 i2 a b : Addr) (i : Nat) (h : Heap) : Prop := IsZip h z TI TO .none ∧ IsPair h TI (.ref i1) (.ref i2) ∧ (∃ u v, IsPair h TO u v) ∧ h.IsListIter i1 a i ∧ h.IsListIter i2 b i
theorem turn_zip {P : Program} {w : World} {K : PySem.W.Frag} {elts : List Expr} {k : Nat} {pos : Pos} (z TI TO i1 i2 a b : Addr) (D : ZipApart z TI TO i1 i2 a b) : Turn P w K (.Tuple elts k pos) (Itz K a b) [z, TI, TO, i1, i2] z (zipSt z TI TO i1 i2 a b) where
  mem := by simp
  obj := fun i h st c hc => by
    obtain ⟨hz, hTI, ⟨u, v, hTO⟩, ⟨o1, e1, c1, d1⟩, o2, e2, c2, d2⟩ := st
    simp only [List.mem_cons, List.mem_nil_iff, or_false] at hc
    rcases hc with rfl | rfl | rfl | rfl | rfl
    · exact ⟨_, hz, fun v z => by have z' : Data.fields _ = Data.cell v := z; cases z'⟩
    · exact ⟨_, hTI, fun v z => by have z' : Data.seq _ _ = Data.cell v := z; cases z'⟩
    · exact ⟨_, hTO, fun v z => by have z' : Data.seq _ _ = Data.cell v := z; cases z'⟩
    · exact ⟨_, e1, fun v z => by rw [d1] at z; cases z⟩
    · exact ⟨_, e2, fun v z => by rw [d2] at z; cases z⟩
  keep := fun i h h' st k => by
    obtain ⟨hz, hTI, ⟨u, v, hTO⟩, h1, h2⟩ := st
    exact ⟨k z (by simp) _ hz, k TI (by simp) _ hTI, ⟨u, v, k TO (by simp) _ hTO⟩, h1.at fun o x => k i1 (by simp) o x, h2.at fun o x => k i2 (by simp) o x⟩
  item := by
    intro X hP hw hK hc i pins s σ H E I hf st hg
    subst hP hw hK
    obtain ⟨hz, hTI, ⟨u0, v0, hTO⟩, h1, h2⟩ := st
    obtain ⟨xs, ys, x, y, hq1, hq2, hx, hy⟩ := hg
    obtain ⟨its, rv, p, hzz⟩ := I.list hq1
    obtain ⟨its2, rv2, p2, hz2⟩ := I.list hq2
    obtain ⟨u, hu, ru⟩ := rv.get hx
    obtain ⟨u2, hu2, ru2⟩ := rv2.get hy
    refine wpAny_pyNext_zip_item D hz hTI hTO h1 h2 p.isList p2.isList (x := u) (y := u2) (by simpa using hu) (by simpa using hu2) fun h' a1 a2 a3 a4 a5 a6 hk => ?_
    have I1 : Inv X pins σ (upd H s.heap.objs.size (.tup [x, y])) { s with heap := h', toks := s.toks } := I.turnedT (t' := s.toks) hf (fun b o hb e => hk b o (fun z => hb (by simp [z])) (fun z => hb (by simp [z])) (fun z => hb (by simp [z])) (fun z => hb (by simp [z])) e) (Nat.le_refl _) (tup2_ok ru ru2 a5)
    refine ⟨_, rfl, wpAny_letOwnedTupleGo_zip (s := { s with heap := h' }) a1 fun h'' hz'' sb => ?_⟩
    have hlt : ∀ b ∈ [z, TI, TO, i1, i2], b ≠ s.heap.objs.size := fun c hc z' => by
      simp only [List.mem_cons, List.mem_nil_iff, or_false] at hc
      obtain ⟨o1, e1, _⟩ := h1
      obtain ⟨o2, e2, _⟩ := h2
      rcases hc with rfl | rfl | rfl | rfl | rfl
      · exact Nat.ne_of_lt (Heap.lt_size hz) z'
      · exact Nat.ne_of_lt (Heap.lt_size hTI) z'
      · exact Nat.ne_of_lt (Heap.lt_size hTO) z'
      · exact Nat.ne_of_lt (Heap.lt_size e1) z'
      · exact Nat.ne_of_lt (Heap.lt_size e2) z'
    have hf1 : ∀ b ∈ [z, TI, TO, i1, i2], FpOk X pins (upd H s.heap.objs.size (.tup [x, y])) b := fun b hb => by
      obtain ⟨f0, f⟩ := hf b hb
      exact ⟨by rw [upd_ne (hlt b hb)]; exact f0, f⟩
    obtain ⟨f0, f1, f2, f3, f4, f5⟩ := hf1 z (by simp)
    refine ⟨.ref s.heap.objs.size, _, I1.turned (t' := s.toks) (fun b o hb q => (sb.2 b hb).trans q) f0 f1 f3 f4 f5, rfl, ⟨x, y, fun ys hy => by rw [I.list_inj hy hq1]; exact hx, fun ys hy' => by rw [I.list_inj hy' hq2]; exact hy, _, rfl, I.hok.fresh (Nat.le_refl _), rfl⟩, ?_, fun b hb => (hf1 b hb).1⟩
    refine ⟨hz'', (sb.2 _ D.TIz).trans (hk _ _ D.TIz D.TITO D.TIi1 D.TIi2 hTI), ⟨_, _, (sb.2 _ D.TOz).trans a2⟩, a3.at fun o q => (sb.2 _ D.i1z).trans q, a4.at fun o q => (sb.2 _ D.i2z).trans q⟩
  done := by
    intro X hP hw hK hc i pins s σ H E I hf st hg
    subst hP hw hK
    obtain ⟨hz, hTI, ⟨u0, v0, hTO⟩, h1, h2⟩ := st
    obtain ⟨xs, ys, hq1, hq2, hx⟩ := hg
    obtain ⟨its, rv, p, hzz⟩ := I.list hq1
    obtain ⟨its2, rv2, p2, hz2⟩ := I.list hq2
    have hl := rv.length
    have hl2 := rv2.length
    refine wpAny_pyNext_zip_end (I.ok.hd hc) D hz hTI hTO h1 h2 p.isList p2.isList ?_ fun h' hk => ⟨rfl, I.turnedL (t' := s.toks) hf fun b o hb q => hk b o (fun z => hb (by simp [z])) (fun z => hb (by simp [z])) (fun z => hb (by simp [z])) (fun z => hb (by simp [z])) q⟩
    rcases hx with hx | hx
    · exact .inl (by simp; omega)
    · exact .inr (by simp; omega)
  self := fun _ _ _ _ _ st h => wpAny_pyIter_zip st.1 h
section
variable {X : Cx} {elts : List Expr} {k : Nat} {tpos p pos : Pos} {a b : Expr} {ta : TA}
def iZip (K : PySem.W.Frag) (ta : TA) : TI := fun σ H R => ta σ H fun vs H1 => ∃ l m xs ys, vs = [.ref l, .ref m] ∧ SqL K H1 l xs ∧ SqL K H1 m ys ∧ R (Itz K l m) H1
theorem pi_zip (hg : Gl X "zip") (hm : X.mg "zip" = none) (ha : PA X [a, b] ta) (hs : starEach [a, b] X.env = [(false, eval a X.env), (false, eval b X.env)] := by rfl) (hs2 : starEach [b] X.env = [(false, eval b X.env)] := by rfl) :
    PI X (.Tuple elts k tpos) (.Call (.Name "zip" p) [a, b] [] pos) (iZip X.K ta) := by
  intro pins s σ H R I h
  refine Call_ (ld_blt I hg hm boot_zip (PyProof.Rows.callWith_type1 (thn (ha pos pins s σ H _ I h) fun us s1 ⟨vs, H1, I1, r1, q1⟩ => ?_) (by rw [hs, hs2]) (by rw [hs2]; rfl)))
  obtain ⟨l, m, xs, ys, e, hq1, hq2, q⟩ := q1
  subst e
  obtain ⟨u1, u2, rfl, r1', r2'⟩ := r1.two
  cases r1'
  cases r2'
  obtain ⟨its, rv, pl, hz⟩ := I1.list hq1
  obtain ⟨its2, rv2, pl2, hz2⟩ := I1.list hq2
  have l1 : l < s1.heap.objs.size := by obtain ⟨_, e, _⟩ := pl.isList; exact Heap.lt_size e
  have l2 : m < s1.heap.objs.size := by obtain ⟨_, e, _⟩ := pl2.isList; exact Heap.lt_size e
  refine call_zip_2 pl.isList pl2.isList fun h' hz hTI hTO h1 h2 hsz hk => wpAny_pyIter_zip hz ?_
  have I2 : Inv X pins σ H1 { s1 with heap := h' } := I1.kept (t' := s1.toks) hk
  have ne : ∀ {x y : Nat}, x < y → x ≠ y := fun h => Nat.ne_of_lt h
  have ne' : ∀ {x y : Nat}, y < x → x ≠ y := fun h => Nat.ne_of_gt h
  refine ⟨s1.heap.objs.size + 4, [s1.heap.objs.size + 4, s1.heap.objs.size + 2, s1.heap.objs.size + 3, s1.heap.objs.size, s1.heap.objs.size + 1], _, _, H1, rfl, I2, turn_zip _ _ _ _ _ l m ?_, ⟨hz, hTI, ⟨_, _, hTO⟩, h1, h2⟩, fun b hb => ?_, q⟩
  · exact zipApart_mk l1 l2
  · simp only [List.mem_cons, List.mem_nil_iff, or_false] at hb
    rcases hb with rfl | rfl | rfl | rfl | rfl <;> exact I1.fpOk (by simp) (I1.hok.fresh (by simp))
theorem pi_zipK (K : PySem.W.Frag) (hg : Gl X "zip") (hm : X.mg "zip" = none) (ha : SA X [a, b] ta) (h : X.K = K := by rfl) (hs : starEach [a, b] X.env = [(false, eval a X.env), (false, eval b X.env)] := by rfl) (hs2 : starEach [b] X.env = [(false, eval b X.env)] := by rfl) :
    SI X (.Tuple elts k tpos) (.Call (.Name "zip" p) [a, b] [] pos) (iZip K ta) := by subst h; exact ⟨pi_zip hg hm ha.h hs hs2⟩
end
def ItP (J : It) (ok : Hp → Prop) (n : Nat) (f1 f2 : Nat → V) : Prop :=
  ∀ H, ok H → (∀ i, i < n → J.go i H ∧ ∀ x H', J.yld i H x H' → pairY (f1 i) (f2 i) H x H') ∧ J.stop n H
theorem itp_zip {K : PySem.W.Frag} {a b : Addr} (xs ys : List V) : ItP (Itz K a b) (fun H => SqL K H a xs ∧ SqL K H b ys) (min xs.length ys.length) (fun i => xs.getD i .non) (fun i => ys.getD i .non) := fun H ok =>
  ⟨fun i hi => ⟨⟨xs, ys, xs[i]'(by omega), ys[i]'(by omega), ok.1, ok.2, by simp, by simp⟩, fun x H' ⟨v1, v2, hv1, hv2, y⟩ => by
    have e1 : xs.getD i V.non = v1 := by rw [List.getD_eq_getElem?_getD, hv1 xs ok.1]; rfl
    have e2 : ys.getD i V.non = v2 := by rw [List.getD_eq_getElem?_getD, hv2 ys ok.2]; rfl
    show pairY (xs.getD i .non) (ys.getD i .non) H x H'
    rw [e1, e2]; exact y⟩, ⟨xs, ys, ok.1, ok.2, by omega⟩⟩
abbrev g2 (K : PySem.W.Frag) (a b : Nat) : TG := gTup K 2 (gCons (gName a) (gCons (gName b) gNil))
theorem g2_at {K : PySem.W.Frag} {a b : Nat} {T : Addr} {v1 v2 : V} {σ : St} {H : Hp} {Q : St → Hp → Prop} (h : H T = some (.tup [v1, v2])) (q : Q ((σ.set a (some v1)).set b (some v2)) H) : g2 K a b (.ref T) σ H Q :=
  ⟨T, _, rfl, SqT.of h, rfl, _, _, rfl, _, _, rfl, rfl, q⟩
end L2
set_option maxRecDepth 100000
namespace PySem
theorem ask_keys_tuple {prog : Program} {w : World} {A : Around} {E : Value → Shared → Prop} {s : Shared} {a : Addr} {o : Obj} {xs : Array Value} {k : Nat} {Q : Option Value → Shared → Prop}
    (hx : s.heap.get? a = some o) (hc : o.cls = .type "tuple") (hdat : o.data = .seq xs k) (hd : o.dict = none) (hA : A.handled = none)
    (h : ∀ h' tk, (∀ b ob, s.heap.get? b = some ob → h'.get? b = some ob) → Q none { s with heap := h', toks := tk }) :
    wpAny (model prog w) A (getAttr? (.ref a) "keys") Q E s := by
  obtain ⟨c, dct, dat, sl⟩ := o
  simp only at hc hdat hd
  subst hc hdat hd
  obtain ⟨hp, g, d, tk, os⟩ := s
  have hT : ∀ tk', (⟨hp, g, d, tk', os⟩ : Shared).TypeIs (.ref a) "tuple" := fun _ => ⟨_, hx, rfl⟩
  have hmiss : typeLookup (.type "tuple") "keys" = pure none := am_miss_of_fast (by kernel_rfl)
  have f1 := sub_AttributeError
  have f3 := F.slot_tuple_getattribute.lookup
  have f4 := F.slot_tuple_getattribute.bind (.ref a)
  have f5 := am_tuple_getattr_none
  unfold getAttr? getAttrBy? getAttrBy
  repeat (any_goals (first | assumption | exact hT _ | ((with_reducible show wpAny _ _ (call (Value.builtin "tuple.__getattribute__") _ _) _ _ _); refine call_meets F.slot_tuple_getattribute (hT _) am_entry_tuple_getattribute (F.args_tuple_getattribute_2 _ _) (meets_getattribute_miss_tuple a xs k sl _ _ hmiss (by decide) (by decide)) ⟨hx, hA, fun h' tk' e hx' => ?_⟩) | wp_step))
  obtain ⟨t', u', he⟩ := hx'.there
  show wpAny _ _ (getattributeRaised _ _ _ _ _ _ _) _ _ _
  unfold getattributeRaised
  repeat (any_goals (first | assumption | wp_step))
  exact h _ _ hx'.keeps
end PySem
namespace PySem.F
theorem entry_dict_update_loop : entryFor table "dict.update.loop" = some Builtin.«dict.update.loop» := entryFor_of_tree (by kernel_rfl)
theorem plain_dict_update_loop : plainId "dict.update.loop" = true := by decide +kernel
end PySem.F
namespace L2
open PySem PySem.Spec PyProof.Rows
def PairsAt (H : Hp) (ys : List V) (rs : List (Key × V)) : Prop := ys.length = rs.length ∧ ∀ i (h : i < rs.length), ∃ b, ys[i]? = some (.ref b) ∧ H b = some (.tup [kV rs[i].1, rs[i].2])
def dictOf (rs : List (Key × V)) : List (Key × V) := rs.foldl (fun kvs r => putK kvs r.1 r.2) []
theorem foldPut_len (rs : List (Key × V)) : ∀ kvs : List (Key × V), (rs.foldl (fun kvs r => putK kvs r.1 r.2) kvs).length ≤ kvs.length + rs.length := by
  induction rs with
  | nil => intro kvs; exact Nat.le_refl _
  | cons r rs ih =>
    intro kvs
    have h1 := ih (putK kvs r.1 r.2)
    have h2 := length_putK kvs r.1 r.2
    rw [List.foldl_cons, List.length_cons]
    omega
theorem dictOf_len (rs : List (Key × V)) : (dictOf rs).length ≤ rs.length := by have := foldPut_len rs []; simpa [dictOf] using this
theorem dictOf_take (rs : List (Key × V)) (i : Nat) (h : i < rs.length) : dictOf (rs.take (i + 1)) = putK (dictOf (rs.take i)) rs[i].1 rs[i].2 := by
  unfold dictOf
  rw [List.take_add_one, List.getElem?_eq_getElem h, Option.toList_some, List.foldl_append]; rfl
theorem PairsAt.same {H H' : Hp} {ys : List V} {rs : List (Key × V)} (p : PairsAt H ys rs) (s : Same H H') : PairsAt H' ys rs := ⟨p.1, fun i h => let ⟨b, e1, e2⟩ := p.2 i h; ⟨b, e1, s _ _ e2⟩⟩
section
variable {X : Cx}
theorem pairs_loop {pins : List (Addr × Obj)} {σ : St} {A : Around} {R : Result → Shared → Prop} {d it a : Addr} {ys : List V} {rs : List (Key × V)} (hA : A.handled = none) {H : Hp} (hH : H d = none) (hlen : rs.length ≤ sizeLine) (hp : PairsAt H ys rs) (ha : H a = some (.tup ys)) (hit : it ≠ d)
    (hR : ∀ s, Inv X pins σ (upd H d (.dK (dictOf rs))) s → R (.ok (.ret .none)) s) :
    ∀ (k i : Nat) (s : Shared), rs.length - i = k → i ≤ rs.length → Inv X pins σ (upd H d (.dK (dictOf (rs.take i)))) s → s.heap.IsTupleIter it a i → FpOk X pins (upd H d (.dK (dictOf (rs.take i)))) it →
      codeAny (model X.prog X.w) A (.builtin "dict.update.loop" ⟨[.ref d, .ref it, rawInt i, .none], []⟩) R s := by
  have had : a ≠ d := ne_of_none ha hH
  intro k
  induction k with
  | zero =>
    intro i s hk hi I st f
    have hin : i = rs.length := by omega
    subst hin
    refine codeAny_builtin F.entry_dict_update_loop ?_
    rw [Around.under_plainId F.plain_dict_update_loop _]
    show wpAny _ A.in1 (pyNext (.ref it) >>= _) _ _ s
    obtain ⟨its, rv, p, hz⟩ := I.tuple (SqT.of (by rw [upd_ne had]; exact ha))
    have hl := rv.length
    have hl2 := hp.1
    obtain ⟨f0, f1, f2, f3, f4, f5⟩ := f
    refine wpAny_bind (wpAny_pyNext_tuple_end (by simp [hA]) st (show s.heap.IsTuple a its.toArray from p) (by simp; omega) fun h' eb => ?_)
    have I1 := I.turned (t' := s.toks) (h' := h') (fun b o hb e => eb b o hb e) f0 f1 f3 f4 f5
    rw [List.take_length] at I1
    show wpAny _ _ (Builtin.Dict.addKeywords d [] >>= fun _ => ret .none) _ _ _
    exact wpAny_bind (wpAny_pure (wpAny_pure (hR _ I1)))
  | succ k ih =>
    intro i s hk hi I st f
    have hlt : i < rs.length := by omega
    refine codeAny_builtin F.entry_dict_update_loop ?_
    rw [Around.under_plainId F.plain_dict_update_loop _]
    show wpAny _ A.in1 (pyNext (.ref it) >>= _) _ _ s
    obtain ⟨its, rv, p, hz⟩ := I.tuple (SqT.of (by rw [upd_ne had]; exact ha))
    obtain ⟨b, hb1, hb2⟩ := hp.2 i hlt
    obtain ⟨u, hu, ru⟩ := rv.get hb1
    cases ru
    obtain ⟨f0, f1, f2, f3, f4, f5⟩ := id f
    refine wpAny_bind (wpAny_pyNext_tuple_item st (show s.heap.IsTuple a its.toArray from p) (x := .ref b) (by simpa using hu) fun h' st' sb => ?_)
    have I1 : Inv X pins σ (upd H d (.dK (dictOf (rs.take i)))) { s with heap := h' } := I.turned (t' := s.toks) (fun b o hb e => (sb.2 b hb).trans e) f0 f1 f3 f4 f5
    have hbd : b ≠ d := ne_of_none hb2 hH
    obtain ⟨its2, rv2, ⟨ob, ho, hc, n, hd2⟩, hz2⟩ := I1.tuple (SqT.of (a := b) (by rw [upd_ne hbd]; exact hb2))
    obtain ⟨u1, u2, rfl, r1, r2⟩ := rv2.two
    show wpAny _ A.in1 (holding [Value.ref b] _ >>= _) _ _ _
    refine wpAny_bind (wpAny_holding (wpAny_bind (wpAny_tryCatch ?_)))
    unfold Builtin.Dict.pairItems
    refine wpAny_bind (wpAny_typeOf (T := "tuple") ⟨ob, ho, hc⟩ ?_)
    rw [if_pos (by decide)]
    refine wpAny_bind (wpAny_seqItems ho hd2 (wpAny_pure ?_))
    show wpAny _ A.in1 (holding [u1, u2] (dictSet d u1 u2)) _ _ _
    refine wpAny_holding ?_
    obtain ⟨z, hd, vs, rel, dd⟩ := dk_of I1.hok (upd_same : upd H d (.dK (dictOf (rs.take i))) d = _)
    have hl0 := dictOf_len (rs.take i)
    rw [List.length_take] at hl0
    have hl1 : (dictOf (rs.take i)).length < sizeLine := by omega
    have hzz : vs.length ≤ sizeLine := by rw [← rel.length]; exact z
    have hlen' : (putK (dictOf (rs.take i)) rs[i].1 rs[i].2).length ≤ sizeLine := by have := length_putK (dictOf (rs.take i)) rs[i].1 rs[i].2; omega
    refine wpAny_dictSet_pairs (hsz := hzz) (kV_is r1) dd fun h2 dd' hs => ?_
    have he9 : ∃ q, h2.get? d = some q := let ⟨q, _, _, hq, _⟩ := dd'; ⟨q, hq⟩
    have I10 := d_write (t' := s.toks + 1) (ob := .dK (putK (dictOf (rs.take i)) rs[i].1 rs[i].2)) I1 (by rw [upd_same]; exact True.intro) hs he9 (dk_new hlen' hd (rel.put _ r2) dd')
    rw [upd_upd, ← dictOf_take rs i hlt] at I10
    refine wpAny_pure ⟨plainId_quiet F.plain_dict_update_loop _, ?_⟩
    exact ih (i + 1) _ (by omega) hlt I10 (st'.at fun o q => (hs.2 it hit).trans q) ⟨by rw [upd_ne hit] at f0 ⊢; exact f0, f1, f2, f3, f4, f5⟩
end
end L2
set_option maxRecDepth 100000
namespace L2
open PySem PySem.Spec PyProof.Rows
section
variable {X : Cx}
def rDictOf : List V → Hp → VK → Prop := fun xs H Q => ∃ a ys rs, xs = [.ref a] ∧ H a = some (.tup ys) ∧ PairsAt H ys rs ∧ rs.length ≤ sizeLine ∧ ∀ d, H d = none → Q (.ref d) (upd H d (.dK (dictOf rs)))
theorem call_dict_of (hc : X.calm = true) : CallR X (.type "dict") rDictOf := by
  intro pins s σ H xs us Q I r h
  obtain ⟨a, ys, rs, rfl, ha, hp, hl, q⟩ := h
  obtain ⟨u, rfl, ru⟩ := r.one
  cases ru
  refine callType_codes (Q₁ := fun obj s₁ => obj = .ref s.heap.objs.size ∧ s₁ = { s with heap := s.heap.push { cls := .type "dict", data := .dict #[] } }) F.kt_called_dict (F.kt_typeCall_dict_1 _) F.entry_dict_init (kt_code_dict_new _ ⟨rfl, rfl⟩) ?_
  rintro obj s₁ ⟨rfl, rfl⟩
  have fr : H s.heap.objs.size = none := I.hok.fresh (Nat.le_refl _)
  have hnew : (s.heap.push { cls := .type "dict", data := .dict #[] }).DictOf (mixKind X.prog X.w) s.heap.objs.size [] := Heap.DictOf.new s.heap
  have I1 : Inv X pins σ (upd H s.heap.objs.size (.dK [])) { s with heap := s.heap.push { cls := .type "dict", data := .dict #[] } } := I.laid (t' := s.toks) (fun b u e => Heap.get?_push_of_some _ e) (Nat.le_refl _)
    ⟨Nat.zero_le _, beq_eq_false_iff_ne.mpr (Ne.symm (Nat.ne_of_lt I.big)), [], .nil, hnew⟩
  have had : a ≠ s.heap.objs.size := ne_of_none ha fr
  obtain ⟨⟨z, nd⟩, its, rv, o, ho, hcl, n, hd⟩ := (show ObjOk X.prog X.w _ _ a (.tup ys) from I1.hok a _ (by rw [upd_ne had]; exact ha))
  refine ⟨hnew.typeIs, F.args_dict_init_2 _ _, ?_⟩
  unfold Builtin.«dict.__init__»
  refine wpAny_bind ?_
  unfold Builtin.Dict.selfAndRest
  refine wpAny_bind (wpAny_notOrdered_dict hnew.typeIs ?_)
  show wpAny _ _ (pure (s.heap.objs.size, [Value.ref a])) _ _ _
  refine wpAny_pure ?_
  show wpAny _ _ (Builtin.Dict.updateFrom "dict.__init__" s.heap.objs.size (.ref a) [] .none) _ _ _
  unfold Builtin.Dict.updateFrom
  refine wpAny_bind (wpAny_typeOf (T := "tuple") ⟨o, ho, hcl⟩ ?_)
  rw [if_pos (by decide)]
  have hh : X.A.handled = none := I.ok.hd hc
  refine wpAny_bind (ask_keys_tuple ho hcl hd (nd _ ho) (by simp [hh]) fun h' tk hk => ?_)
  rw [if_pos (by rfl)]
  refine wpAny_bind (wpAny_rule ?_)
  have I2 : Inv X pins σ (upd H s.heap.objs.size (.dK [])) { s with heap := h', toks := tk } := I1.kept (t' := tk) hk
  obtain ⟨its2, rv2, p2, hz2⟩ := I2.tuple (SqT.of (a := a) (xs := ys) (by rw [upd_ne had]; exact ha))
  refine wpAny_bind (wpAny_pyIter_tuple (show Heap.IsTuple h' a its2.toArray from p2) ?_)
  have hsz : s.heap.objs.size < h'.objs.size := by
    obtain ⟨_, _, _, e, _⟩ := hnew
    exact Heap.lt_size (hk _ _ e)
  refine wpAny_pure ⟨plainId_quiet F.plain_dict_update_loop _, ?_⟩
  refine pairs_loop (X := X) (pins := pins) (σ := σ) (by simp [hh]) fr hl hp ha (Nat.ne_of_gt hsz) (fun s' I' => ⟨rfl, .ref s.heap.objs.size, _, I', rfl, q _ fr⟩) rs.length 0 _ rfl (Nat.zero_le _) (I2.kept (t' := tk) fun b o e => Heap.get?_push_of_some _ e) ⟨_, Heap.get?_push_size _ rfl, rfl, rfl⟩ (I2.fpOk (Nat.le_refl _) (I2.hok.fresh (Nat.le_refl _)))
end
end L2
set_option maxRecDepth 100000
namespace L2
open PySem PySem.Spec PyProof.Rows
def Tk (H H' : Hp) : Prop := ∀ b xs, H b = some (.tup xs) → H' b = some (.tup xs)
theorem Tk.refl {H : Hp} : Tk H H := fun _ _ h => h
theorem Tk.trans {H H1 H2 : Hp} (a : Tk H H1) (b : Tk H1 H2) : Tk H H2 := fun c xs h => b c xs (a c xs h)
theorem Same.ts {H H' : Hp} (s : Same H H') : Tk H H' := fun b xs h => s b _ h
theorem PenAt.ts {H H' : Hp} {p w : Addr} {t : Nat} (h : PenAt H p w t) (s : Sm p w H H') : Tk H H' := fun b xs e => by
  obtain ⟨m, c, ws, h1, h2, _⟩ := h.ex
  exact s b _ e (ne_of e h1 (by intro z; cases z)) (ne_of e h2 (by intro z; cases z))
theorem Tk.upd {H H' : Hp} {a : Addr} {o : HO} (s : Tk H H') (h : H' a = none) : Tk H (L2.upd H' a o) := fun b xs e => by rw [upd_ne (ne_of_none (s b xs e) h)]; exact s b xs e
theorem Tk.set {H H' : Hp} {a : Addr} {o o' : HO} (s : Tk H H') (h : H' a = some o) (hn : ∀ xs, o ≠ .tup xs) : Tk H (L2.upd H' a o') := fun b xs e => by
  rw [upd_ne (fun z => by rw [z] at e; have := s a xs e; rw [h] at this; cases this; exact hn _ rfl)]; exact s b xs e
inductive TDen (H : Hp) : V → PyData → Prop
  | str (z : Str) : TDen H (.str z) (.str z)
  | tup {a : Addr} {xs : List V} {ds : List PyData} : H a = some (.tup xs) → xs.length = ds.length → (∀ i (h : i < xs.length) (h' : i < ds.length), TDen H xs[i] ds[i]) → TDen H (.ref a) (.tuple ds)
theorem TDen.ts {H H' : Hp} (s : Tk H H') {v : V} {d : PyData} (h : TDen H v d) : TDen H' v d := by
  induction h with
  | str z => exact .str z
  | tup e hl _ ih => exact .tup (s _ _ e) hl ih
theorem TDen.inj {H : Hp} {v : V} {d : PyData} (h : TDen H v d) : ∀ {d' : PyData}, TDen H v d' → d = d' := by
  induction h with
  | str z => intro d' h'; cases h'; rfl
  | tup e hl _ ih =>
    intro d' h'
    cases h' with
    | tup e' hl' h2 =>
      rw [e] at e'
      cases e'
      congr 1
      refine List.ext_getElem (by omega) fun i h1 h3 => ?_
      exact ih i (by omega) h1 (h2 i (by omega) h3)
theorem showableAll_of : ∀ {ds : List PyData}, (∀ d ∈ ds, d.showable = true) → PyData.showableAll ds = true
  | [], _ => by simp [PyData.showableAll]
  | d :: ds, h => by simp [PyData.showableAll, h d List.mem_cons_self, showableAll_of fun x hx => h x (List.mem_cons_of_mem _ hx)]
theorem hasDictAll_of : ∀ {ds : List PyData}, (∀ d ∈ ds, d.hasDict = false) → PyData.hasDictAll ds = false
  | [], _ => by simp [PyData.hasDictAll]
  | d :: ds, h => by simp [PyData.hasDictAll, h d List.mem_cons_self, hasDictAll_of fun x hx => h x (List.mem_cons_of_mem _ hx)]
theorem depthAll_le {k : Nat} : ∀ {ds : List PyData}, (∀ d ∈ ds, d.depth ≤ k) → PyData.depthAll ds ≤ k
  | [], _ => by simp [PyData.depthAll]
  | d :: ds, h => by
    have h1 := h d List.mem_cons_self
    have h2 := depthAll_le (ds := ds) fun x hx => h x (List.mem_cons_of_mem _ hx)
    simp [PyData.depthAll]; omega
theorem sum_le {n : Nat} : ∀ {ts : List Str}, (∀ t ∈ ts, t.length ≤ n) → (ts.map (·.length)).sum ≤ ts.length * n
  | [], _ => by simp
  | t :: ts, h => by
    have h1 := h t List.mem_cons_self
    have h2 := sum_le (ts := ts) fun x hx => h x (List.mem_cons_of_mem _ hx)
    rw [List.map_cons, List.sum_cons, List.length_cons, Nat.add_mul]; omega
def TB (H : Hp) (v : V) (k n : Nat) : Prop := ∃ d, TDen H v d ∧ d.depth ≤ k ∧ d.shown.length ≤ n ∧ d.showable = true ∧ d.hasDict = false
def Wd (z : Str) : Prop := z.length ≤ 20 ∧ ∀ c ∈ z.cps.toList, c < 128
theorem TB.mono {H : Hp} {v : V} {k n k' n' : Nat} (h : TB H v k n) (hk : k ≤ k') (hn : n ≤ n') : TB H v k' n' := by
  obtain ⟨d, h1, h2, h3, h4, h5⟩ := h
  exact ⟨d, h1, by omega, by omega, h4, h5⟩
theorem TB.ts {H H' : Hp} (s : Tk H H') {v : V} {k n : Nat} (h : TB H v k n) : TB H' v k n := by
  obtain ⟨d, h1, h2⟩ := h
  exact ⟨d, h1.ts s, h2⟩
theorem TB.str {H : Hp} {z : Str} (h : Wd z) : TB H (.str z) 0 202 := by
  refine ⟨.str z, .str z, by simp [PyData.depth], ?_, by simp [PyData.showable], by simp [PyData.hasDict]⟩
  show (PyData.str z).shown.length ≤ 202
  simp only [PyData.shown]
  have := StrLaws.reprText_len z (fun c hc => Nat.lt_of_lt_of_le (h.2 c hc) (by decide))
  have := h.1
  omega
theorem TB.tup {H : Hp} {a : Addr} {xs : List V} {k n : Nat} (e : H a = some (.tup xs)) (h : ∀ x ∈ xs, TB H x k n) : TB H (.ref a) (k + 1) (xs.length * (n + 2) + 3) := by
  have hc : ∀ i : Fin xs.length, ∃ d, TDen H xs[i.val] d ∧ d.depth ≤ k ∧ d.shown.length ≤ n ∧ d.showable = true ∧ d.hasDict = false := fun i => h _ (List.getElem_mem i.isLt)
  obtain ⟨f, hf⟩ := Classical.axiomOfChoice hc
  have hm : ∀ d ∈ List.ofFn f, d.depth ≤ k ∧ d.shown.length ≤ n ∧ d.showable = true ∧ d.hasDict = false := fun d hd => by
    obtain ⟨i, rfl⟩ := List.mem_ofFn.mp hd
    exact (hf i).2
  refine ⟨.tuple (List.ofFn f), .tup e (by simp) fun i h1 h2 => ?_, ?_, ?_, ?_, ?_⟩
  · have := (hf ⟨i, h1⟩).1
    simpa using this
  · simp only [PyData.depth]
    have := depthAll_le (fun d hd => (hm d hd).1)
    omega
  · simp only [PyData.shown]
    have h1 := tupleText_len_le (PyData.shownAll (List.ofFn f))
    have e2 : PyData.shownAll (List.ofFn f) = (List.ofFn f).map PyData.shown := shownAll_eq_map _
    have h2 : ((PyData.shownAll (List.ofFn f)).map (·.length)).sum ≤ (PyData.shownAll (List.ofFn f)).length * n := sum_le fun t ht => by
      rw [e2] at ht
      obtain ⟨d, hd, rfl⟩ := List.mem_map.mp ht
      exact (hm d hd).2.1
    have h3 : (PyData.shownAll (List.ofFn f)).length = xs.length := by rw [e2]; simp
    rw [h3] at h1 h2
    rw [Nat.mul_add]; omega
  · simp only [PyData.showable]
    exact showableAll_of fun d hd => (hm d hd).2.2.1
  · simp only [PyData.hasDict]
    exact hasDictAll_of fun d hd => (hm d hd).2.2.2
theorem valV_dictOf (rs : List (Key × V)) : (rs.map (·.1)).Nodup → ∀ i (h : i < rs.length), valV (dictOf rs) rs[i].1 = some rs[i].2 := by
  have gen : ∀ (rs : List (Key × V)) (kvs : List (Key × V)), (rs.map (·.1)).Nodup → ∀ k, valV (rs.foldl (fun kvs r => putK kvs r.1 r.2) kvs) k = ((rs.find? fun r => decide (r.1 = k)).map (·.2)).or (valV kvs k) := by
    intro rs
    induction rs with
    | nil => intro kvs _ k; simp
    | cons r rs ih =>
      intro kvs hn k
      rw [List.map_cons, List.nodup_cons] at hn
      rw [List.foldl_cons, ih _ hn.2, valV_put]
      by_cases e : r.1 = k
      · have : rs.find? (fun r => decide (r.1 = k)) = none := by
          rw [List.find?_eq_none]
          intro x hx z
          have z' := of_decide_eq_true z
          exact hn.1 (List.mem_map.mpr ⟨x, hx, by rw [z', e]⟩)
        rw [this, List.find?_cons, if_pos e.symm]
        simp [e]
      · rw [if_neg (fun z => e z.symm), List.find?_cons]
        simp [e]
  intro hn i h
  unfold dictOf
  rw [gen rs [] hn]
  have : rs.find? (fun r => decide (r.1 = rs[i].1)) = some rs[i] := by
    rw [List.find?_eq_some_iff_getElem]
    refine ⟨by simp, i, h, rfl, fun j hj => ?_⟩
    have hne : (rs.map (·.1))[j]'(by simp; omega) ≠ (rs.map (·.1))[i]'(by simpa using h) := fun z => by
      exact (List.pairwise_iff_getElem.mp hn j i (by simp; omega) (by simpa using h) hj) z
    simpa using hne
  rw [this]; rfl
abbrev rowsK (rs : List (Str × V)) : List (Key × V) := rs.map fun r => (Sum.inr r.1, r.2)
def AsV (H : Hp) (v : V) (o : Option Str) : Prop := ∃ b, v = .ref b ∧ ((∃ s ys, H b = some (.tup (.str s :: ys)) ∧ s ≠ "as" ∧ o = none) ∨ ∃ x, H b = some (.tup [.str "as", .str x]) ∧ o = some x)
theorem AsV.ts {H H' : Hp} (s : Tk H H') {v : V} {o : Option Str} (h : AsV H v o) : AsV H' v o := by
  obtain ⟨b, e, h⟩ := h
  refine ⟨b, e, ?_⟩
  rcases h with ⟨z, ys, h1, h2⟩ | ⟨x, h1, h2⟩
  · exact .inl ⟨z, ys, s _ _ h1, h2⟩
  · exact .inr ⟨x, s _ _ h1, h2⟩
structure GoodT (H : Hp) (a : Addr) (xs : List V) (rs : List (Str × V)) (nx : Str → Option Str) (ρ : Str → Nat) : Prop where
  at_ : H a = some (.tup xs)
  ps : PairsAt H xs (rowsK rs)
  nd : (rs.map (·.1)).Nodup
  len : rs.length ≤ 300
  pos : 0 < rs.length
  as : ∀ r ∈ rs, AsV H r.2 (nx r.1)
  inn : ∀ r ∈ rs, ∀ y, nx r.1 = some y → y ∈ rs.map (·.1) ∧ ρ y < ρ r.1
  rk : ∀ r ∈ rs, ρ r.1 ≤ rs.length
  tb : ∀ r ∈ rs, Wd r.1 ∧ TB H r.2 3 8273
theorem PairsAt.ts {H H' : Hp} {ys : List V} {rs : List (Key × V)} (p : PairsAt H ys rs) (s : Tk H H') : PairsAt H' ys rs := ⟨p.1, fun i h => let ⟨b, e1, e2⟩ := p.2 i h; ⟨b, e1, s _ _ e2⟩⟩
section
variable {H H' : Hp} {a : Addr} {xs : List V} {rs : List (Str × V)} {nx : Str → Option Str} {ρ : Str → Nat}
theorem GoodT.ts (g : GoodT H a xs rs nx ρ) (s : Tk H H') : GoodT H' a xs rs nx ρ :=
  ⟨s _ _ g.at_, g.ps.ts s, g.nd, g.len, g.pos, fun r hr => (g.as r hr).ts s, g.inn, g.rk, fun r hr => ⟨(g.tb r hr).1, (g.tb r hr).2.ts s⟩⟩
theorem rowsK_nd (h : (rs.map (·.1)).Nodup) : ((rowsK rs).map (·.1)).Nodup := by
  have e : (rowsK rs).map (·.1) = (rs.map (·.1)).map (Sum.inr : Str → Key) := by simp [rowsK, List.map_map, Function.comp_def]
  rw [e]
  exact List.Pairwise.map _ (fun a b hab z => hab (Sum.inr.inj z)) h
theorem GoodT.get (g : GoodT H a xs rs nx ρ) {x : Str} (hx : x ∈ rs.map (·.1)) : ∃ v, (x, v) ∈ rs ∧ valV (dictOf (rowsK rs)) (.inr x) = some v := by
  obtain ⟨r, hr, rfl⟩ := List.mem_map.mp hx
  obtain ⟨i, hi, rfl⟩ := List.getElem_of_mem hr
  refine ⟨rs[i].2, hr, ?_⟩
  have := valV_dictOf (rowsK rs) (rowsK_nd g.nd) i (by simpa using hi)
  simpa using this
def stp (nx : Str → Option Str) (x : Str) : Str := (nx x).getD x
def stps (nx : Str → Option Str) : Nat → Str → Str
  | 0, x => x
  | n + 1, x => stps nx n (stp nx x)
theorem stps_stay (n : Nat) {x : Str} (h : nx x = none) : stps nx n x = x := by
  induction n with
  | zero => rfl
  | succ n ih => rw [stps]; rw [show stp nx x = x by simp [stp, h]]; exact ih
theorem GoodT.run (g : GoodT H a xs rs nx ρ) : ∀ (n : Nat) (x : Str), x ∈ rs.map (·.1) → ρ x ≤ n → stps nx n x ∈ rs.map (·.1) ∧ nx (stps nx n x) = none ∧ stps nx (n + 1) x = stps nx n x := by
  intro n
  induction n with
  | zero =>
    intro x hx hr
    obtain ⟨r, hr', rfl⟩ := List.mem_map.mp hx
    cases e : nx r.1 with
    | none => exact ⟨hx, e, stps_stay 1 e⟩
    | some y => have := (g.inn r hr' y e).2; omega
  | succ n ih =>
    intro x hx hr
    obtain ⟨r, hr', rfl⟩ := List.mem_map.mp hx
    cases e : nx r.1 with
    | none =>
      rw [stps_stay _ e, stps_stay _ e]
      exact ⟨hx, e, rfl⟩
    | some y =>
      have e2 : stp nx r.1 = y := by simp [stp, e]
      obtain ⟨h1, h2⟩ := g.inn r hr' y e
      have := ih y h1 (by omega)
      rw [stps, stps, e2]
      exact this
def rowEnd (nx : Str → Option Str) (n : Nat) (x : Str) : Str := stps nx n x
theorem GoodT.endIn (g : GoodT H a xs rs nx ρ) {x : Str} (hx : x ∈ rs.map (·.1)) : rowEnd nx rs.length x ∈ rs.map (·.1) ∧ nx (rowEnd nx rs.length x) = none := by
  obtain ⟨r, hr, rfl⟩ := List.mem_map.mp hx
  obtain ⟨h1, h2, _⟩ := g.run rs.length r.1 hx (g.rk r hr)
  exact ⟨h1, h2⟩
theorem GoodT.endStep (g : GoodT H a xs rs nx ρ) {x y : Str} (hx : x ∈ rs.map (·.1)) (e : nx x = some y) : rowEnd nx rs.length y = rowEnd nx rs.length x := by
  obtain ⟨r, hr, rfl⟩ := List.mem_map.mp hx
  obtain ⟨h1, h2, h3⟩ := g.run rs.length r.1 hx (g.rk r hr)
  have e2 : stp nx r.1 = y := by simp [stp, e]
  rw [stps, e2] at h3
  exact h3
theorem GoodT.whole (g : GoodT H a xs rs nx ρ) : TB H (.ref a) 5 4967000 := by
  have h : ∀ x ∈ xs, TB H x 4 16553 := fun x hx => by
    obtain ⟨i, hi, rfl⟩ := List.getElem_of_mem hx
    have hi' : i < rs.length := by have := g.ps.1; simp at this; omega
    obtain ⟨b, e1, e2⟩ := g.ps.2 i (by simpa using hi')
    rw [List.getElem?_eq_getElem hi] at e1
    rw [Option.some.inj e1]
    have e3 : H b = some (.tup [.str rs[i].1, rs[i].2]) := by simpa [rowsK, kV] using e2
    obtain ⟨t1, t2⟩ := g.tb rs[i] (List.getElem_mem hi')
    refine (TB.tup (k := 3) (n := 8273) e3 fun y hy => ?_).mono (by omega) (by simp)
    simp only [List.mem_cons, List.mem_nil_iff, or_false] at hy
    rcases hy with rfl | rfl
    · exact (TB.str t1).mono (by omega) (by omega)
    · exact t2
  refine (TB.tup g.at_ h).mono (by omega) ?_
  have h1 := g.ps.1
  have h2 := g.len
  simp at h1
  rw [h1]
  omega
end
end L2
set_option maxRecDepth 100000
namespace L2
open PySem PySem.Spec PyProof.Rows
theorem cut_from (xs : List V) (k : Nat) : cutV xs (some (k : Int)) none = xs.drop k := by
  unfold cutV
  rw [HT.sIx_nat, HT.sIx_none]
  by_cases h : k ≤ xs.length
  · rw [Nat.min_eq_left h]
    exact List.take_of_length_le (by simp)
  · rw [Nat.min_eq_right (by omega)]
    simp [List.drop_eq_nil_of_le (show xs.length ≤ k by omega)]
theorem cut_to (xs : List V) (k : Nat) : cutV xs none (some (k : Int)) = xs.take k := by
  unfold cutV
  rw [HT.sIx_nat, HT.sIx_none]
  simp
theorem nodup_get {α : Type} {l : List α} (h : l.Nodup) {i j : Nat} {x : α} (hi : l[i]? = some x) (hj : l[j]? = some x) : i = j := by
  obtain ⟨a, e1⟩ := List.getElem?_eq_some_iff.mp hi
  obtain ⟨b, e2⟩ := List.getElem?_eq_some_iff.mp hj
  rcases Nat.lt_trichotomy i j with z | z | z
  · exact ((List.pairwise_iff_getElem.mp h i j a b z) (e1.trans e2.symm)).elim
  · exact z
  · exact ((List.pairwise_iff_getElem.mp h j i b a z) (e2.trans e1.symm)).elim
theorem idxOf_get {α : Type} [BEq α] [LawfulBEq α] {l : List α} (h : l.Nodup) {i : Nat} {x : α} (hi : l[i]? = some x) : l.idxOf x = i := by
  have hm : x ∈ l := List.mem_of_getElem? hi
  have h1 : l.idxOf x < l.length := List.idxOf_lt_length_of_mem hm
  have h2 : l[l.idxOf x]? = some x := by rw [List.getElem?_eq_getElem h1, List.getElem_idxOf]
  exact nodup_get h h2 hi
open Classical in
theorem wd_ascii {z : Str} (h1 : z.length ≤ 20) (h2 : ∀ c ∈ z.cps.toList, c < 128) : Wd z := ⟨h1, h2⟩
theorem PenAt.neL {H : Hp} {p w l : Addr} {t : Nat} {ss : List Str} (h : PenAt H p w t) (e : H l = some (.lst (ss.map V.str))) (h0 : ss ≠ []) : l ≠ p ∧ l ≠ w := by
  obtain ⟨m, c, ws, h1, h2, _⟩ := h.ex
  refine ⟨ne_of e h1 (by intro z; cases z), ne_of e h2 fun z => ?_⟩
  cases ss with
  | nil => exact h0 rfl
  | cons s ss =>
    injection z with z
    cases ws with
    | nil => cases z
    | cons x ws => injection z with z; cases z
end L2
set_option maxRecDepth 100000
namespace L2
open PySem PySem.Spec PyProof.Rows
section
variable {α β : Type} {R : α → β → Prop}
theorem prd_append : ∀ {xs xs' : List α} {ys ys' : List β}, Paired R xs ys → Paired R xs' ys' → Paired R (xs ++ xs') (ys ++ ys')
  | _, _, _, _, .nil, h => h
  | _, _, _, _, .cons a r, h => .cons a (prd_append r h)
theorem prd_mk : ∀ {xs : List α} {ys : List β}, xs.length = ys.length → (∀ i (h : i < xs.length) (h' : i < ys.length), R xs[i] ys[i]) → Paired R xs ys
  | [], [], _, _ => .nil
  | x :: xs, y :: ys, hl, h => .cons (h 0 (by simp) (by simp)) (prd_mk (by simpa using hl) fun i a b => h (i + 1) (by simpa using a) (by simpa using b))
theorem prd_get : ∀ {xs : List α} {ys : List β}, Paired R xs ys → xs.length = ys.length ∧ ∀ i (h : i < xs.length) (h' : i < ys.length), R xs[i] ys[i]
  | _, _, .nil => ⟨rfl, fun i h => absurd h (by simp)⟩
  | _, _, .cons a r => by
    obtain ⟨h1, h2⟩ := prd_get r
    refine ⟨by simp [h1], fun i h h' => ?_⟩
    cases i with
    | zero => exact a
    | succ i => exact h2 i (by simpa using h) (by simpa using h')
end
def PR (H : Hp) (x : V) (r : Key × V) : Prop := ∃ b, x = .ref b ∧ H b = some (.tup [kV r.1, r.2])
theorem pairs_iff {H : Hp} {xs : List V} {rs : List (Key × V)} : PairsAt H xs rs ↔ Paired (PR H) xs rs := by
  constructor
  · rintro ⟨hl, h⟩
    refine prd_mk hl fun i h1 h2 => ?_
    obtain ⟨b, e1, e2⟩ := h i h2
    rw [List.getElem?_eq_getElem h1] at e1
    exact ⟨b, Option.some.inj e1, e2⟩
  · intro h
    obtain ⟨hl, h'⟩ := prd_get h
    refine ⟨hl, fun i h2 => ?_⟩
    obtain ⟨b, e1, e2⟩ := h' i (by omega) h2
    exact ⟨b, by rw [List.getElem?_eq_getElem (by omega), e1], e2⟩
section
variable {H : Hp} {xs : List V} {rs : List (Str × V)}
theorem rowsK_append (a b : List (Str × V)) : rowsK (a ++ b) = rowsK a ++ rowsK b := by simp [rowsK]
theorem pairs_nil : PairsAt H [] (rowsK []) := pairs_iff.mpr .nil
theorem pairs_snoc (h : PairsAt H xs (rowsK rs)) {b : Addr} {n : Str} {v : V} (e : H b = some (.tup [.str n, v])) : PairsAt H (xs ++ [.ref b]) (rowsK (rs ++ [(n, v)])) := by
  rw [rowsK_append]
  exact pairs_iff.mpr (prd_append (pairs_iff.mp h) (.cons ⟨b, rfl, e⟩ .nil))
end
end L2
set_option maxRecDepth 100000
namespace L2
open PySem PySem.Spec PyProof.Rows
section
variable {X : Cx} {pins : List (Addr × Obj)} {σ : St} {H : Hp} {s : Shared}
end
section
variable {X : Cx} {e1 e2 : Expr} {p pos : Pos} {k : Nat} {g1 g2 : TG}
end
def KD (w : World) (K : PySem.W.Frag) (a : Addr) (kvs : List (Key × V)) : Prop := ∀ P : Program, ∃ (o : Obj) (es : Array DictEntry) (ep : Nat) (vs : List (Key × Value)), K.lookup a = some o ∧ (a == sysModules) = false ∧ o.ExactDict ∧ o.data = .dict es ep ∧ KeysOf (mixKind P w) es ∧ Pairs (mixKind P w) es.toList vs ∧ (vs.map (·.1)).Nodup ∧ KV kvs vs
section
variable {X : Cx} {pins : List (Addr × Obj)} {σ : St} {H : Hp} {s : Shared} {a : Addr} {kvs : List (Key × V)}
theorem KD.of (h : KD X.w X.K a kvs) (I : Inv X pins σ H s) : (a == sysModules) = false ∧ ∃ vs, KV kvs vs ∧ s.heap.DictOf (mixKind X.prog X.w) a vs := by
  obtain ⟨o, es, ep, vs, h1, h2, h3, h4, h5, h6, h7, h8⟩ := h X.prog
  exact ⟨h2, vs, h8, o, es, ep, I.kIn a o h1, h3, h4, h5, h6, h7⟩
variable {x : Str} {e : Expr} {pos p : Pos} {te : TE}
def tKIn (kvs : List (Key × V)) (te : TE) : TE := fun σ H Q => te σ H fun y H1 => ∃ k, y = kV k ∧ Q (.bl (valV kvs k).isSome) H1
theorem pc_kin {w : World} {K : PySem.W.Frag} (hx : ∃ a, X.mg x = some (.ref a) ∧ KD w K a kvs) (he : PE X e te) (hw : X.w = w) (hK : X.K = K) (hg : Gl X x) (hd : (x == ("__debug__" : Str)) = false) : PC X .In e (.Name x p) (tKIn kvs te) := by
  subst hw hK
  obtain ⟨a, hm, kd⟩ := hx
  intro pins s σ H Q I h
  refine thn (he pins s σ H _ I h) ?_
  rintro iv s1 ⟨y, H1, I1, ry, k, ey, q1⟩
  subst ey
  refine thn (pe_glob (v := .ref a) hg hm rfl hd pins s1 σ H1 (fun v H' => v = .ref a ∧ H' = H1) I1 ⟨rfl, rfl⟩) fun u s2 ⟨z, H2, I2, rz, ez, eH⟩ => ?_
  subst ez eH
  cases rz
  obtain ⟨h1, vs, rel, dd⟩ := kd.of I2
  refine wpAny_in_of (kV_is ry) h1 dd.mapOf ?_
  rw [← (rel.val k).isSome_eq]
  exact ⟨.bl _, _, I2.tok _, rfl, q1⟩
theorem y_kin {w : World} {K : PySem.W.Frag} (hx : ∃ a, X.mg x = some (.ref a) ∧ KD w K a kvs) (he : SE X e te) (hw : X.w = w := by rfl) (hK : X.K = K := by rfl) (hg : Gl X x := by rfl) (hd : (x == ("__debug__" : Str)) = false := by decide) : ST X (.Compare e [.In] [.Name x p] pos) (tB (tKIn kvs te)) := ⟨pt_cmp (pc_kin hx he.h hw hK hg hd) rfl⟩
def tKGet (kvs : List (Key × V)) (te : TE) : TE := fun σ H Q => te σ H fun y H1 => ∃ k v, y = kV k ∧ valV kvs k = some v ∧ Q v H1
theorem z_kget {w : World} {K : PySem.W.Frag} (hx : ∃ a, X.mg x = some (.ref a) ∧ KD w K a kvs) (he : SE X e te) (hs : NoSl e) (hw : X.w = w := by rfl) (hK : X.K = K := by rfl) (hg : Gl X x := by rfl) (hd : (x == ("__debug__" : Str)) = false := by decide) : SE X (.Subscript (.Name x p) e pos) (tKGet kvs te) := by
  subst hw hK
  obtain ⟨a, hm, kd⟩ := hx
  constructor
  intro pins s σ H Q I h
  refine subD_of PySem.F.slot_dict_getitem.lookup hs (thn (pe_glob (v := .ref a) hg hm rfl hd pins s σ H (fun v H' => v = .ref a ∧ H' = H) I ⟨rfl, rfl⟩) fun u s2 ⟨z, H2, I2, rz, ez, eH⟩ => ?_)
  subst ez eH
  cases rz
  refine thn (he.h pins s2 σ _ _ I2 h) ?_
  rintro iv s3 ⟨y, H3, I3, ry, k, v, ey, ev, q⟩
  subst ey
  obtain ⟨h1, vs, rel, dd⟩ := kd.of I3
  obtain ⟨w', hw, rw'⟩ := RelO.some_of (v := v) (o := valueAt vs k) (by rw [← ev]; exact rel.val k)
  exact ⟨dd.typeIs, wpAny_getItem_of (kV_is ry) dd.mapOf hw ⟨v, _, I3.tok _, rw', q⟩⟩
end
end L2
set_option maxRecDepth 100000
namespace L2
open PySem PySem.Spec PyProof.Rows
def keyAt (kvs : List (Key × V)) (i : Nat) : V := ((kvs[i]?).map fun kv => kV kv.1).getD .non
def Itk (a : Addr) (o : Obj) (kvs : List (Key × V)) : It := ⟨fun i H => H a = some (.frz o (.dK kvs)) ∧ i < kvs.length, fun i H x H' => H' = H ∧ x = keyAt kvs i, fun i H => H a = some (.frz o (.dK kvs)) ∧ kvs.length = i⟩
theorem itn_keys {a : Addr} {o : Obj} (kvs : List (Key × V)) : ItN (Itk a o kvs) (fun H => H a = some (.frz o (.dK kvs))) kvs.length (keyAt kvs) := fun H ok => ⟨fun i hi => ⟨⟨ok, hi⟩, fun x H' h => h⟩, ok, rfl⟩
theorem kv_get {kvs : List (Key × V)} {vs : List (Key × Value)} (r : KV kvs vs) : ∀ {i : Nat} {p : Key × V}, kvs[i]? = some p → ∃ q, vs[i]? = some q ∧ q.1 = p.1 := by
  intro i
  induction r generalizing i with
  | nil => intro p h; simp at h
  | cons a t ih =>
    intro p h
    cases i with
    | zero => simp at h; subst h; exact ⟨_, by simp, a.1.symm⟩
    | succ i => simp at h; simpa using ih h
theorem relV_key {P : Program} {w : World} {k : Key} {u : Value} (h : (mixKind P w).is k u = true) : RelV (kV k) u := by
  rcases keyIs_shape h with ⟨i, t, rfl, rfl⟩ | ⟨x, t, rfl, rfl⟩
  · exact ⟨t, rfl⟩
  · exact ⟨t, rfl⟩
theorem KV.len {kvs : List (Key × V)} {vs : List (Key × Value)} (r : KV kvs vs) : kvs.length = vs.length := Paired.length r
theorem turn_keys {P : Program} {w : World} {K : PySem.W.Frag} {tg : Expr} {a it : Addr} {o : Obj} {kvs : List (Key × V)} {ep : Nat} (hep : ∃ es, o.data = .dict es ep) : Turn P w K tg (Itk a o kvs) [it] it (fun i h => h.IsKeyIter it a i kvs.length ep) where
  mem := by simp
  obj := fun i h st b hb => by
    have e : b = it := by simpa using hb
    subst e
    obtain ⟨o, e, c, d⟩ := st
    exact ⟨o, e, fun v z => by rw [d] at z; cases z⟩
  keep := fun i h h' st k => st.at fun o e => k it (by simp) o e
  item := by
    intro X hP hw hK hc i pins s σ H E I hf st hg
    subst hP hw hK
    obtain ⟨hq, hi⟩ := hg
    obtain ⟨e, z, hd, vs, rel, ob, es, ep', h1, h2, h3, h4⟩ := (show ObjOk X.prog X.w H s.heap a (.frz o (.dK kvs)) from I.hok a _ hq)
    obtain ⟨es', he'⟩ := hep
    rw [e] at h1; cases h1
    rw [he'] at h3; injection h3 with h3a h3b
    subst h3a h3b
    obtain ⟨q, hq1, hq2⟩ := kv_get rel (List.getElem?_eq_getElem hi)
    have hl := rel.len
    obtain ⟨f0, f1, f2, f3, f4, f5⟩ := hf it (by simp)
    obtain ⟨qk, qv⟩ := q
    refine wpAny_pyNext_dict_item (knd := mixKind X.prog X.w) (kvs := vs) (ep := ep) (by rw [← hl]; exact st) ⟨o, es', e, h2, he', h4⟩ hq1 fun key h' hk st' sb => ?_
    have I1 : Inv X pins σ H { s with heap := h' } := I.turned (t' := s.toks) (fun b o hb e => (sb.2 b hb).trans e) f0 f1 f3 f4 f5
    have st2 : h'.IsKeyIter it a (i + 1) kvs.length ep := by rw [hl]; exact st'
    obtain ⟨o3, e3, c3, d3⟩ := id st2
    refine ⟨key, rfl, go_of (s := { s with heap := h' }) e3 c3 d3 (by decide) ⟨keyAt kvs i, H, I1, ?_, ⟨rfl, rfl⟩, st2, fun b hb => (hf b hb).1⟩⟩
    unfold keyAt
    rw [List.getElem?_eq_getElem hi]
    show RelV (kV kvs[i].1) key
    have hqk : qk = kvs[i].1 := hq2
    rw [← hqk]
    exact relV_key hk
  done := by
    intro X hP hw hK hc i pins s σ H E I hf st hg
    subst hP hw hK
    obtain ⟨hq, hi⟩ := hg
    obtain ⟨e, z, hd, vs, rel, ob, es, ep', h1, h2, h3, h4⟩ := (show ObjOk X.prog X.w H s.heap a (.frz o (.dK kvs)) from I.hok a _ hq)
    obtain ⟨es', he'⟩ := hep
    rw [e] at h1; cases h1
    rw [he'] at h3; injection h3 with h3a h3b
    subst h3a h3b
    have hl := rel.len
    obtain ⟨f0, f1, f2, f3, f4, f5⟩ := hf it (by simp)
    exact wpAny_pyNext_dict_end (knd := mixKind X.prog X.w) (kvs := vs) (ep := ep) (I.ok.hd hc) (by rw [← hl]; exact st) ⟨o, es', e, h2, he', h4⟩ (by simp; omega) fun h' eb => ⟨rfl, I.turned (t' := s.toks) (fun b o hb e => eb b o hb e) f0 f1 f3 f4 f5⟩
  self := fun _ _ _ _ _ st h => wpAny_pyIter_keyiter st h
theorem upd_self {H : Hp} {a : Addr} {o : HO} (h : H a = some o) : upd H a o = H := by
  funext b
  unfold upd
  by_cases e : b = a
  · rw [if_pos e, e, h]
  · rw [if_neg e]
section
variable {X : Cx}
theorem Inv.freeze {pins : List (Addr × Obj)} {σ : St} {H : Hp} {s : Shared} {a : Addr} {kvs : List (Key × V)} (I : Inv X pins σ H s) (h : Rd H a (.dK kvs)) : ∃ o es ep, o.data = .dict es ep ∧ Inv X pins σ (upd H a (.frz o (.dK kvs))) s ∧ s.heap.get? a = some o := by
  rcases h with h | ⟨o, h⟩
  · have ok := (show ObjOk X.prog X.w H s.heap a (.dK kvs) from I.hok a _ h)
    obtain ⟨z, hd, vs, rel, o, es, ep, h1, h2, h3, h4⟩ := ok
    have I2 := I.write (x := a) (e := a) (h' := s.heap) (t' := s.toks) (o := .frz o (.dK kvs)) (by rw [h]; exact True.intro) (.inl rfl) (fun b u _ q => q) ⟨o, h1⟩ ⟨h1, z, hd, vs, rel, o, es, ep, h1, h2, h3, h4⟩
    exact ⟨o, es, ep, h3, I2, h1⟩
  · obtain ⟨e, z, hd, vs, rel, ob, es, ep, h1, h2, h3, h4⟩ := (show ObjOk X.prog X.w H s.heap a (.frz o (.dK kvs)) from I.hok a _ h)
    rw [e] at h1; cases h1
    exact ⟨o, es, ep, h3, by rw [upd_self h]; exact I, e⟩
def iKeys (te : TE) : TI := fun σ H R => te σ H fun x H1 => ∃ a kvs, x = .ref a ∧ Rd H1 a (.dK kvs) ∧ ∀ o, R (Itk a o kvs) (upd H1 a (.frz o (.dK kvs)))
theorem pi_keys {tg e : Expr} {te : TE} (he : SE X e te) : SI X tg e (iKeys te) := by
  constructor
  intro pins s σ H R I h
  refine thn (he.h pins s σ H _ I h) ?_
  rintro v s1 ⟨x, H1, I1, r1, a, kvs, ex, hr, q⟩
  subst ex
  cases r1
  obtain ⟨o, es, ep, hd, I2, ho⟩ := I1.freeze hr
  obtain ⟨e, z, hdm, vs, rel, ob, es', ep', h1, h2, h3, h4⟩ := (show ObjOk X.prog X.w _ s1.heap a (.frz o (.dK kvs)) from I2.hok a _ upd_same)
  rw [e] at h1; cases h1
  rw [hd] at h3; injection h3 with h3a h3b
  subst h3a h3b
  refine wpAny_pyIter_dict (knd := mixKind X.prog X.w) (kvs := vs) (ep := ep) hdm ⟨o, es, e, h2, hd, h4⟩ ?_
  have hl := rel.len
  refine ⟨s1.heap.objs.size, [s1.heap.objs.size], _, _, _, rfl, I2.kept (t' := s1.toks) fun b o e => Heap.get?_push_of_some _ e, turn_keys (kvs := kvs) (a := a) (o := o) ⟨es, hd⟩, by rw [hl]; exact ⟨_, Heap.get?_push_size _ rfl, rfl, rfl⟩, fun b hb => ?_, q o⟩
  have e : b = s1.heap.objs.size := by simpa using hb
  subst e
  exact I2.fpOk (Nat.le_refl _) (I2.hok.fresh (Nat.le_refl _))
def rDIn (n : Bool) : R2 := fun y x H Q => ∃ a o, x = .ref a ∧ DGet H a y o ∧ Q (.bl (n ^^ o.isSome)) H
theorem op_dNotIn (hu : X.A.units + 1 < cLine) : OpR X (compareOp .NotIn) (rDIn true) := by
  intro pins s σ H x y v u Q I rx ry h
  obtain ⟨a, o, rfl, g, q⟩ := h
  cases ry
  exact d_notIn hu I g rx fun s' I' => ⟨.bl (!o.isSome), H, I', rfl, by simpa using q⟩
end
theorem DGet.rd {H : Hp} {a : Addr} {kvs : List (Key × V)} {k : Key} (e : Rd H a (.dK kvs)) : DGet H a (kV k) (valV kvs k) := .inl ⟨kvs, k, e, rfl, rfl⟩
end L2
set_option maxRecDepth 100000
namespace L2
open PySem PySem.Spec PyProof.Rows
section
variable {X : Cx} {tg a b c : Expr} {ta : TA} {p pos : Pos}
end
inductive Dt where
  | str (z : Str)
  | tup (ds : List Dt)
  | oth
inductive DD (H : Hp) : V → Dt → Prop
  | str {z : Str} (h : z.length ≤ 100000) : DD H (.str z) (.str z)
  | tup {a : Addr} {xs : List V} {ds : List Dt} : H a = some (.tup xs) → xs.length = ds.length → xs.length ≤ 1000 → (∀ i (h : i < xs.length) (h' : i < ds.length), DD H xs[i] ds[i]) → DD H (.ref a) (.tup ds)
  | non : DD H .non .oth
  | bl (b : Bool) : DD H (.bl b) .oth
  | int (i : Int) : DD H (.int i) .oth
  | lst {a : Addr} {xs : List V} : H a = some (.lst xs) → DD H (.ref a) .oth
  | dct {a : Addr} {kvs : List (Key × V)} : H a = some (.dK kvs) → DD H (.ref a) .oth
theorem DD.same {H H' : Hp} (s : Same H H') {v : V} {d : Dt} (h : DD H v d) : DD H' v d := by
  induction h with
  | str h => exact .str h
  | tup e hl hn _ ih => exact .tup (s _ _ e) hl hn ih
  | non => exact .non
  | bl b => exact .bl b
  | int i => exact .int i
  | lst e => exact .lst (s _ _ e)
  | dct e => exact .dct (s _ _ e)
def Dt.isTup : Dt → Bool | .tup _ => true | _ => false
def Dt.isStr : Dt → Bool | .str _ => true | _ => false
theorem DD.ty {H : Hp} {v : V} {d : Dt} (h : DD H v d) : ∃ t, tyName H v = some t ∧ isiT t "tuple" = d.isTup ∧ isiT t "str" = d.isStr := by
  cases h with
  | str h => exact ⟨"str", rfl, by rfl, by rfl⟩
  | tup e => exact ⟨"tuple", by simp [tyName, e], by simp [isiT, Dt.isTup], by simp [isiT, Dt.isStr]⟩
  | non => exact ⟨"NoneType", rfl, by decide, by decide⟩
  | bl b => exact ⟨"bool", rfl, by decide, by decide⟩
  | int i => exact ⟨"int", rfl, by decide, by decide⟩
  | lst e => exact ⟨"list", by simp [tyName, e], by decide, by decide⟩
  | dct e => exact ⟨"dict", by simp [tyName, e], by decide, by decide⟩
theorem DD.good {H : Hp} {v : V} {d : Dt} (h : DD H v d) : ∃ p w, GoodV p w H v := by
  cases h with
  | str h => exact ⟨0, 0, h⟩
  | @tup a _ _ e => exact ⟨Nat.succ a, Nat.succ a, Nat.ne_of_lt (Nat.lt_succ_self a), Nat.ne_of_lt (Nat.lt_succ_self a), .inr (.inl ⟨_, e⟩)⟩
  | non => exact ⟨0, 0, True.intro⟩
  | bl b => exact ⟨0, 0, True.intro⟩
  | int i => exact ⟨0, 0, True.intro⟩
  | @lst a _ e => exact ⟨Nat.succ a, Nat.succ a, Nat.ne_of_lt (Nat.lt_succ_self a), Nat.ne_of_lt (Nat.lt_succ_self a), .inl ⟨_, e⟩⟩
  | @dct a _ e => exact ⟨Nat.succ a, Nat.succ a, Nat.ne_of_lt (Nat.lt_succ_self a), Nat.ne_of_lt (Nat.lt_succ_self a), .inr (.inr ⟨_, e⟩)⟩
def nameD : Dt → Bool | .str z => isName z | _ => false
def pairD : Dt → Bool | .tup [a, b] => nameD a && nameD b | _ => false
def fstS : Dt → Str | .tup (.str z :: _) => z | _ => ""
def sndS : Dt → Str | .tup (_ :: .str z :: _) => z | _ => ""
def strLt (a b : Str) : Bool := decide (a.cps.toList < b.cps.toList)
def rising : List Str → Bool
  | a :: b :: r => strLt a b && rising (b :: r)
  | _ => true
def pairsD : Dt → Bool | .tup ps => ps.all pairD && rising (ps.map fstS) | _ => false
def worded (s : Str) : Bool := s == "box" || s == "pick"
def behindN (s : Str) : Option Nat := if s == "all" then some 0 else if s == "none" then some 0 else if s == "way" then some 2 else if s == "as" then some 1 else none
def headD : Dt → Bool
  | .tup (.str s :: rest) => if worded s then (match rest with | [p] => pairsD p | _ => false) else match behindN s with | some n => decide (rest.length = n) && rest.all nameD | none => false
  | _ => false
theorem FnK.imp {P : Program} {w : World} {K : PySem.W.Frag} {mg : Str → Option Value} {base : Heap} {k : Nat} {x : Str} {ps : List Str} {sp sp' : Sp} (F : FnK P w K mg base k x ps sp) (h : ∀ vs H Q E, sp' vs H Q E → sp vs H Q E) : FnK P w K mg base k x ps sp' := by
  obtain ⟨f, fd, G, r⟩ := F
  exact ⟨f, fd, G.imp h, r⟩
theorem dictOf_nodup (rs : List (Key × V)) : (rs.map (·.1)).Nodup → dictOf rs = rs := by
  have gen : ∀ (rs kvs : List (Key × V)), (rs.map (·.1)).Nodup → (∀ r ∈ rs, valV kvs r.1 = none) → rs.foldl (fun kvs r => putK kvs r.1 r.2) kvs = kvs ++ rs := by
    intro rs
    induction rs with
    | nil => intro kvs _ _; simp
    | cons r rs ih =>
      intro kvs hn hk
      rw [List.map_cons, List.nodup_cons] at hn
      rw [List.foldl_cons, putK_new _ (hk r List.mem_cons_self), ih _ hn.2 fun x hx => ?_]
      · simp
      · rw [valV_snoc _ _ _ _ (hk r List.mem_cons_self), if_neg (fun e => hn.1 (List.mem_map.mpr ⟨x, hx, e⟩))]
        exact hk x (List.mem_cons_of_mem _ hx)
  intro hn
  have := gen rs [] hn (fun _ _ => rfl)
  simpa [dictOf] using this
end L2
set_option maxRecDepth 100000
namespace L2
open PySem PySem.Spec PyProof.Rows
theorem nameD_str {H : Hp} {v : V} {d : Dt} (h : DD H v d) (hn : nameD d = true) : ∃ z, v = .str z ∧ d = .str z ∧ isName z = true := by
  cases h with
  | str _ => exact ⟨_, rfl, rfl, hn⟩
  | tup _ _ _ _ => exact Bool.noConfusion hn
  | non => exact Bool.noConfusion hn
  | bl _ => exact Bool.noConfusion hn
  | int _ => exact Bool.noConfusion hn
  | lst _ => exact Bool.noConfusion hn
  | dct _ => exact Bool.noConfusion hn
end L2
set_option maxRecDepth 100000
namespace L2
open PySem PySem.Spec PyProof.Rows
def strOf : Dt → Str | .str z => z | _ => ""
def namesD : Dt → List Str
  | .tup (.str s :: rest) => if worded s then (match rest with | [.tup ps] => ps.map sndS | _ => []) else rest.map strOf
  | _ => []
def sndD : Dt → Dt | .tup (_ :: h :: _) => h | _ => .oth
def asD : Dt → Option Str | .tup [.str s, .str x] => if s == "as" then some x else none | _ => none
def rowsD (ds : List Dt) : List (Str × Dt) := ds.map fun d => (fstS d, sndD d)
def nxD (rs : List (Str × Dt)) (n : Str) : Option Str := (rs.find? fun r => decide (r.1 = n)).bind fun r => asD r.2
theorem Rd.same {H H' : Hp} {a : Addr} {u : HO} (r : Rd H a u) (s : Same H H') : Rd H' a u := by
  rcases r with r | ⟨o, r⟩
  · exact .inl (s _ _ r)
  · exact .inr ⟨o, s _ _ r⟩
theorem headD_eq (z : Str) (ds : List Dt) : headD (.tup (.str z :: ds)) = if worded z then (match ds with | [p] => pairsD p | _ => false) else match behindN z with | some n => decide (ds.length = n) && ds.all nameD | none => false := rfl
theorem headD_at {H : Hp} {v : V} {d : Dt} (h : DD H v d) (hh : headD d = true) : ∃ a z xs ds, v = .ref a ∧ d = .tup (.str z :: ds) ∧ H a = some (.tup (.str z :: xs)) ∧ xs.length = ds.length ∧ xs.length < 1000 ∧ (∀ i (h : i < xs.length) (h' : i < ds.length), DD H xs[i] ds[i]) ∧
    ((worded z = true ∧ ∃ p, ds = [p] ∧ pairsD p = true) ∨ (worded z = false ∧ ∃ n, behindN z = some n ∧ ds.length = n ∧ ds.all nameD = true)) := by
  cases h with
  | @tup a xs ds e hl hn hds =>
    match ds, hl, hh, hds with
    | .str z :: ds, hl, hh, hds =>
      match xs, hl, e, hn, hds with
      | x0 :: xs, hl, e, hn, hds =>
        have h0 := hds 0 (by simp) (by simp)
        simp only [List.getElem_cons_zero] at h0
        cases h0
        refine ⟨a, z, xs, ds, rfl, rfl, e, by simpa using hl, by simp at hn; omega, fun i h h' => hds (i + 1) (by simpa using h) (by simpa using h'), ?_⟩
        rw [headD_eq] at hh
        cases hw : worded z with
        | true =>
          rw [hw] at hh
          simp only [if_true] at hh
          match ds, hh with
          | [p], hh => exact .inl ⟨rfl, p, rfl, hh⟩
        | false =>
          rw [hw] at hh
          simp only [Bool.false_eq_true, if_false] at hh
          cases hb : behindN z with
          | none => rw [hb] at hh; exact Bool.noConfusion hh
          | some n =>
            rw [hb] at hh
            simp only [Bool.and_eq_true, decide_eq_true_eq] at hh
            exact .inr ⟨rfl, n, rfl, hh.1, hh.2⟩
    | .tup _ :: _, _, hh, _ => exact Bool.noConfusion hh
    | .oth :: _, _, hh, _ => exact Bool.noConfusion hh
    | [], _, hh, _ => exact Bool.noConfusion hh
  | str _ => exact Bool.noConfusion hh
  | non => exact Bool.noConfusion hh
  | bl _ => exact Bool.noConfusion hh
  | int _ => exact Bool.noConfusion hh
  | lst _ => exact Bool.noConfusion hh
  | dct _ => exact Bool.noConfusion hh
theorem worded_as : worded "as" = false := by decide
theorem asD_as {H : Hp} {v : V} {d : Dt} (h : DD H v d) (hh : headD d = true) : AsV H v (asD d) := by
  obtain ⟨a, z, xs, ds, rfl, rfl, e, hl, hn, hds, hc⟩ := headD_at h hh
  refine ⟨a, rfl, ?_⟩
  by_cases hz : z = "as"
  · subst hz
    rcases hc with ⟨hw, _⟩ | ⟨_, n, hb, hdl, hda⟩
    · rw [worded_as] at hw; cases hw
    · have hn1 : n = 1 := by
        have : behindN "as" = some 1 := by decide
        rw [this] at hb; cases hb; rfl
      subst hn1
      match ds, hdl, hl, hda, hds with
      | [d1], _, hl, hda, hds =>
        match xs, hl, e, hds with
        | [x1], _, e, hds =>
          simp only [List.all_cons, List.all_nil, Bool.and_true] at hda
          obtain ⟨y, q1, q2, _⟩ := nameD_str (hds 0 (by simp) (by simp)) hda
          simp only [List.getElem_cons_zero] at q1
          subst q1 q2
          exact .inr ⟨y, e, by simp [asD]⟩
  · refine .inl ⟨z, xs, e, hz, ?_⟩
    have hz' : (z == Str.ofString "as") = false := by simpa using hz
    unfold asD
    split
    · next s x heq =>
      injection heq with heq
      injection heq with h1 _
      injection h1 with h1
      rw [← h1, if_neg (by rw [hz']; exact Bool.false_ne_true)]
    · rfl
theorem asD_eq {d : Dt} {y : Str} (h : asD d = some y) : d = .tup [.str "as", .str y] := by
  unfold asD at h
  split at h
  · split at h
    · rename_i hs
      cases h
      rw [eq_of_beq hs]
    · cases h
  · cases h
theorem asD_in {d : Dt} {y : Str} (h : asD d = some y) : y ∈ namesD d := by
  rw [asD_eq h]
  have e : namesD (.tup [.str "as", .str y]) = [y] := rfl
  rw [e]
  exact List.mem_singleton.mpr rfl
end L2
set_option maxRecDepth 100000
namespace L2
open PySem PySem.Spec PyProof.Rows
structure RowsDt (H : Hp) (xs : List V) (ds : List Dt) (rs : List (Str × V)) (hs : List Dt) : Prop where
  l1 : rs.length = ds.length
  l2 : hs.length = ds.length
  ps : PairsAt H xs (rowsK rs)
  dd : ∀ i (h : i < ds.length) (h1 : i < rs.length) (h2 : i < hs.length), ds[i] = .tup [.str rs[i].1, hs[i]] ∧ DD H rs[i].2 hs[i] ∧ headD hs[i] = true ∧ isName rs[i].1 = true
section
variable {H : Hp} {xs : List V} {ds : List Dt} {rs : List (Str × V)} {hs : List Dt}
theorem RowsDt.same {H' : Hp} (R : RowsDt H xs ds rs hs) (s : Same H H') : RowsDt H' xs ds rs hs := ⟨R.l1, R.l2, R.ps.same s, fun i a b c => let ⟨h1, h2, h3⟩ := R.dd i a b c; ⟨h1, h2.same s, h3⟩⟩
theorem RowsDt.rows (R : RowsDt H xs ds rs hs) {i : Nat} (h : i < ds.length) (h1 : i < rs.length) (h2 : i < hs.length) : (rowsD ds)[i]? = some (rs[i].1, hs[i]) := by
  unfold rowsD
  rw [List.getElem?_map, List.getElem?_eq_getElem h, (R.dd i h h1 h2).1]; rfl
theorem RowsDt.names (R : RowsDt H xs ds rs hs) : (rowsD ds).map (·.1) = rs.map (·.1) := by
  refine List.ext_getElem? fun i => ?_
  rw [List.getElem?_map, List.getElem?_map]
  by_cases h : i < ds.length
  · rw [R.rows h (by have := R.l1; omega) (by have := R.l2; omega), List.getElem?_eq_getElem (by have := R.l1; omega)]; rfl
  · rw [List.getElem?_eq_none (by unfold rowsD; simp; omega), List.getElem?_eq_none (by have := R.l1; omega)]; rfl
theorem valV_rowsK_none (n : Str) (h : n ∉ rs.map (·.1)) : valV (rowsK rs) (.inr n) = none := by
  unfold valV
  rw [List.find?_eq_none.mpr]
  · rfl
  · intro p hp e
    obtain ⟨r, hr, rfl⟩ := List.mem_map.mp hp
    exact h (List.mem_map.mpr ⟨r, hr, Sum.inr.inj (of_decide_eq_true e)⟩)
theorem valV_rowsK_at (nd : (rs.map (·.1)).Nodup) {i : Nat} (h : i < rs.length) : valV (rowsK rs) (.inr rs[i].1) = some rs[i].2 := by
  have := valV_dictOf (rowsK rs) (rowsK_nd nd) i (by simpa using h)
  rw [dictOf_nodup _ (rowsK_nd nd)] at this
  simpa using this
theorem valV_rowsK_some (nd : (rs.map (·.1)).Nodup) (n : Str) : (valV (rowsK rs) (.inr n)).isSome = decide (n ∈ rs.map (·.1)) := by
  by_cases h : n ∈ rs.map (·.1)
  · obtain ⟨r, hr, rfl⟩ := List.mem_map.mp h
    obtain ⟨i, hi, rfl⟩ := List.getElem_of_mem hr
    rw [valV_rowsK_at nd hi, decide_eq_true h]; rfl
  · rw [valV_rowsK_none n h, decide_eq_false h]; rfl
theorem RowsDt.nx (R : RowsDt H xs ds rs hs) (nd : (rs.map (·.1)).Nodup) {i : Nat} (h1 : i < rs.length) (h2 : i < hs.length) : nxD (rowsD ds) rs[i].1 = asD hs[i] := by
  have h : i < ds.length := by have := R.l1; omega
  unfold nxD
  have : (rowsD ds).find? (fun r => decide (r.1 = rs[i].1)) = some (rs[i].1, hs[i]) := by
    rw [List.find?_eq_some_iff_getElem]
    have hl : (rowsD ds).length = ds.length := by unfold rowsD; simp
    refine ⟨by simp, i, by omega, ?_, fun j hj => ?_⟩
    · have := R.rows h h1 h2
      rw [List.getElem?_eq_getElem (by omega)] at this
      exact Option.some.inj this
    · have hj1 : j < rs.length := by omega
      have := R.rows (i := j) (by omega) hj1 (by omega)
      rw [List.getElem?_eq_getElem (by omega)] at this
      rw [Option.some.inj this]
      have hne : (rs.map (·.1))[j]'(by simp; omega) ≠ (rs.map (·.1))[i]'(by simpa using h1) := fun z => (List.pairwise_iff_getElem.mp nd j i (by simp; omega) (by simpa using h1) hj) z
      simpa using hne
  rw [this]; rfl
theorem RowsDt.has (R : RowsDt H xs ds rs hs) (nd : (rs.map (·.1)).Nodup) (n : Str) (v : V) (hv : valV (rowsK rs) (.inr n) = some v) : AsV H v (nxD (rowsD ds) n) := by
  by_cases h : n ∈ rs.map (·.1)
  · obtain ⟨r, hr, rfl⟩ := List.mem_map.mp h
    obtain ⟨i, hi, rfl⟩ := List.getElem_of_mem hr
    rw [valV_rowsK_at nd hi] at hv
    cases hv
    have h2 : i < hs.length := by have := R.l1; have := R.l2; omega
    rw [R.nx nd hi h2]
    obtain ⟨_, q1, q2, _⟩ := R.dd i (by have := R.l1; omega) hi h2
    exact asD_as q1 q2
  · rw [valV_rowsK_none n h] at hv; cases hv
theorem RowsDt.inn (R : RowsDt H xs ds rs hs) (nd : (rs.map (·.1)).Nodup) (hall : (rowsD ds).all (fun r => (namesD r.2).all fun n => decide (n ∈ (rowsD ds).map (·.1))) = true) (n y : Str) (hn : (valV (rowsK rs) (.inr n)).isSome = true) (h : nxD (rowsD ds) n = some y) : (valV (rowsK rs) (.inr y)).isSome = true := by
  rw [valV_rowsK_some nd] at hn ⊢
  have hn' := of_decide_eq_true hn
  obtain ⟨r, hr, rfl⟩ := List.mem_map.mp hn'
  obtain ⟨i, hi, rfl⟩ := List.getElem_of_mem hr
  have h2 : i < hs.length := by have := R.l1; have := R.l2; omega
  rw [R.nx nd hi h2] at h
  have hm := List.mem_of_getElem? (R.rows (by have := R.l1; omega) hi h2)
  have := List.all_eq_true.mp hall _ hm
  have := List.all_eq_true.mp this y (asD_in h)
  rw [← R.names]
  exact this
end
end L2
set_option maxRecDepth 100000
namespace L2
open PySem PySem.Spec PyProof.Rows
inductive TX (H : Hp) : V → Dt → Prop
  | str {z : Str} (h : z.length ≤ 100000) : TX H (.str z) (.str z)
  | tup {a : Addr} {xs : List V} {ds : List Dt} : H a = some (.tup xs) → xs.length = ds.length → xs.length ≤ 1000 → (∀ i (h : i < xs.length) (h' : i < ds.length), TX H xs[i] ds[i]) → TX H (.ref a) (.tup ds)
theorem TX.tk {H H' : Hp} (s : Tk H H') {v : V} {d : Dt} (h : TX H v d) : TX H' v d := by
  induction h with
  | str h => exact .str h
  | tup e hl hn _ ih => exact .tup (s _ _ e) hl hn ih
theorem TX.dd {H : Hp} {v : V} {d : Dt} (h : TX H v d) : DD H v d := by
  induction h with
  | str h => exact .str h
  | tup e hl hn _ ih => exact .tup e hl hn ih
theorem tt_tup1 {H : Hp} {a : Addr} {x : V} {d : Dt} (e : H a = some (.tup [x])) (h : TX H x d) : TX H (.ref a) (.tup [d]) := .tup e rfl (by simp) fun i h1 h2 => by
  match i, h1 with
  | 0, _ => exact h
theorem tt_tup2 {H : Hp} {a : Addr} {x y : V} {d d' : Dt} (e : H a = some (.tup [x, y])) (h : TX H x d) (h' : TX H y d') : TX H (.ref a) (.tup [d, d']) := .tup e rfl (by simp) fun i h1 h2 => by
  match i, h1 with
  | 0, _ => exact h
  | 1, _ => exact h'
theorem tt_tup3 {H : Hp} {a : Addr} {x y z : V} {d d' d'' : Dt} (e : H a = some (.tup [x, y, z])) (h : TX H x d) (h' : TX H y d') (h'' : TX H z d'') : TX H (.ref a) (.tup [d, d', d'']) := .tup e rfl (by simp) fun i h1 h2 => by
  match i, h1 with
  | 0, _ => exact h
  | 1, _ => exact h'
  | 2, _ => exact h''
theorem isName_len {z : Str} (h : isName z = true) : z.length ≤ 8 := by
  unfold isName at h
  simp only [Bool.and_eq_true, decide_eq_true_eq] at h
  exact h.1.1.2
theorem tt_name {H : Hp} {z : Str} (h : isName z = true) : TX H (.str z) (.str z) := .str (by have := isName_len h; omega)
theorem tt_lit {H : Hp} {z : Str} (h : z.length ≤ 100) : TX H (.str z) (.str z) := .str (by omega)
structure HdOk (H : Hp) (ns : List Str) (v : V) (P : Option Str → Prop) : Prop where
  ex : ∃ d, TX H v d ∧ headD d = true ∧ (∀ n ∈ namesD d, n ∈ ns) ∧ P (asD d)
theorem HdOk.tk {H H' : Hp} {ns : List Str} {v : V} {P : Option Str → Prop} (h : HdOk H ns v P) (s : Tk H H') : HdOk H' ns v P := let ⟨d, h1, h2⟩ := h.ex; ⟨d, h1.tk s, h2⟩
theorem HdOk.imp {H : Hp} {ns : List Str} {v : V} {P P' : Option Str → Prop} (h : HdOk H ns v P) (f : ∀ o, P o → P' o) : HdOk H ns v P' := let ⟨d, h1, h2, h3, h4⟩ := h.ex; ⟨d, h1, h2, h3, f _ h4⟩
section
variable {H : Hp} {ns : List Str} {b : Addr} {P : Option Str → Prop}
theorem hd_as {y : Str} (e : H b = some (.tup [.str "as", .str y])) (hy : isName y = true) (hm : y ∈ ns) (hP : P (some y)) : HdOk H ns (.ref b) P := by
  refine ⟨.tup [.str "as", .str y], tt_tup2 e (tt_lit (by decide)) (tt_name hy), ?_, fun n hn => ?_, hP⟩
  · rw [headD_eq]
    show (decide (1 = 1) && ([Dt.str y].all nameD)) = true
    simp [nameD, hy]
  · have : n = y := by simpa [namesD, worded_as, strOf] using hn
    rw [this]; exact hm
theorem hd_none (e : H b = some (.tup [.str "none"])) (hP : P none) : HdOk H ns (.ref b) P :=
  ⟨.tup [.str "none"], tt_tup1 e (tt_lit (by decide)), by decide, fun n hn => (by revert hn; exact fun h => nomatch h), hP⟩
theorem hd_all (e : H b = some (.tup [.str "all"])) (hP : P none) : HdOk H ns (.ref b) P :=
  ⟨.tup [.str "all"], tt_tup1 e (tt_lit (by decide)), by decide, fun n hn => (by revert hn; exact fun h => nomatch h), hP⟩
theorem hd_way {x y : Str} (e : H b = some (.tup [.str "way", .str x, .str y])) (hx : isName x = true) (hy : isName y = true) (mx : x ∈ ns) (my : y ∈ ns) (hP : P none) : HdOk H ns (.ref b) P := by
  refine ⟨.tup [.str "way", .str x, .str y], tt_tup3 e (tt_lit (by decide)) (tt_name hx) (tt_name hy), ?_, fun n hn => ?_, hP⟩
  · rw [headD_eq]
    show (decide (2 = 2) && ([Dt.str x, Dt.str y].all nameD)) = true
    simp [nameD, hx, hy]
  · have e1 : namesD (.tup [.str "way", .str x, .str y]) = [x, y] := rfl
    rw [e1] at hn
    simp only [List.mem_cons, List.mem_nil_iff, or_false] at hn
    rcases hn with rfl | rfl
    · exact mx
    · exact my
structure PrsOk (H : Hp) (ns : List Str) (xs : List V) (ps : List (Str × Str)) : Prop where
  len : xs.length = ps.length
  at_ : ∀ i (h : i < xs.length) (h' : i < ps.length), ∃ c, xs[i] = .ref c ∧ H c = some (.tup [.str ps[i].1, .str ps[i].2])
  nm : ∀ p ∈ ps, isName p.1 = true ∧ isName p.2 = true ∧ p.2 ∈ ns
  ris : rising (ps.map (·.1)) = true
theorem hd_worded {s : Str} {c : Addr} {xs : List V} {ps : List (Str × Str)} (hs : s = "box" ∨ s = "pick") (e : H b = some (.tup [.str s, .ref c])) (ec : H c = some (.tup xs)) (hn : xs.length ≤ 1000) (h : PrsOk H ns xs ps) (hP : P none) : HdOk H ns (.ref b) P := by
  have hw : worded s = true := by rcases hs with rfl | rfl <;> decide
  have hsl : s.length ≤ 100 := by rcases hs with rfl | rfl <;> decide
  have tc : TX H (.ref c) (.tup (ps.map fun p => .tup [.str p.1, .str p.2])) := .tup ec (by simp [h.len]) hn fun i h1 h2 => by
    have h3 : i < ps.length := by simpa using h2
    obtain ⟨c', q1, q2⟩ := h.at_ i h1 h3
    obtain ⟨m1, m2, _⟩ := h.nm _ (List.getElem_mem h3)
    rw [q1]
    simp only [List.getElem_map]
    exact tt_tup2 q2 (tt_name m1) (tt_name m2)
  have ef : (ps.map fun p : Str × Str => Dt.tup [.str p.1, .str p.2]).map fstS = ps.map (·.1) := by rw [List.map_map]; rfl
  have es : (ps.map fun p : Str × Str => Dt.tup [.str p.1, .str p.2]).map sndS = ps.map (·.2) := by rw [List.map_map]; rfl
  refine ⟨_, tt_tup2 e (tt_lit hsl) tc, ?_, fun n hn => ?_, ?_⟩
  · rw [headD_eq, if_pos hw]
    show pairsD (.tup (ps.map fun p => .tup [.str p.1, .str p.2])) = true
    simp only [pairsD, Bool.and_eq_true]
    refine ⟨?_, by rw [ef]; exact h.ris⟩
    rw [List.all_map, List.all_eq_true]
    intro p hp
    obtain ⟨m1, m2, _⟩ := h.nm p hp
    show pairD (.tup [.str p.1, .str p.2]) = true
    simp [pairD, nameD, m1, m2]
  · have e1 : namesD (.tup [.str s, .tup (ps.map fun p => .tup [.str p.1, .str p.2])]) = if worded s then (ps.map fun p : Str × Str => Dt.tup [.str p.1, .str p.2]).map sndS else _ := rfl
    rw [e1, if_pos hw, es] at hn
    obtain ⟨p, hp, rfl⟩ := List.mem_map.mp hn
    exact (h.nm p hp).2.2
  · exact hP
end
end L2
set_option maxRecDepth 100000
namespace L2
open PySem PySem.Spec PyProof.Rows
theorem toList_inj {a b : Str} (h : a.cps.toList = b.cps.toList) : a = b := by
  cases a; cases b
  simp at h
  rw [h]
theorem strLt_trans {a b c : Str} (h1 : strLt a b = true) (h2 : strLt b c = true) : strLt a c = true := by
  unfold strLt at *
  exact decide_eq_true (List.lt_trans (of_decide_eq_true h1) (of_decide_eq_true h2))
theorem rising_of_pw : ∀ {ws : List Str}, ws.Pairwise (fun a b => strLt a b = true) → rising ws = true
  | [], _ => rfl
  | [_], _ => rfl
  | a :: b :: r, h => by
    rw [List.pairwise_cons] at h
    rw [rising, h.1 b List.mem_cons_self, rising_of_pw h.2]; rfl
def strV : V → Str
  | .str z => z
  | _ => ""
theorem prs_of {H : Hp} {ns : List Str} {xs : List V} {rs : List (Str × V)} (q2 : PairsAt H xs (rowsK rs)) (hn : ∀ r ∈ rs, isName r.1 = true) (q4 : ∀ r ∈ rs, ∃ y, r.2 = .str y ∧ y ∈ ns ∧ isName y = true) (hr : rising (rs.map (·.1)) = true) : PrsOk H ns xs (rs.map fun q => (q.1, strV q.2)) := by
  have hl : xs.length = rs.length := by have := q2.1; simpa using this
  refine ⟨by simp; omega, fun i h1 h2 => ?_, fun q hq => ?_, ?_⟩
  · have h3 : i < rs.length := by omega
    obtain ⟨c', e1, e2⟩ := q2.2 i (by simpa using h3)
    rw [List.getElem?_eq_getElem h1] at e1
    refine ⟨c', Option.some.inj e1, ?_⟩
    obtain ⟨y, ey, _⟩ := q4 _ (List.getElem_mem h3)
    simp only [List.getElem_map]
    rw [ey]
    have : H c' = some (.tup [.str rs[i].1, rs[i].2]) := by simpa [rowsK, kV] using e2
    rw [ey] at this
    exact this
  · obtain ⟨q', hq', rfl⟩ := List.mem_map.mp hq
    obtain ⟨y, ey, my, ny⟩ := q4 q' hq'
    refine ⟨hn q' hq', ?_, ?_⟩
    · show isName (strV q'.2) = true
      rw [ey]; exact ny
    · show strV q'.2 ∈ ns
      rw [ey]; exact my
  · rw [List.map_map]; exact hr
theorem PrsOk.tk {H H' : Hp} {ns : List Str} {xs : List V} {ps : List (Str × Str)} (h : PrsOk H ns xs ps) (s : Tk H H') : PrsOk H' ns xs ps := ⟨h.len, fun i a b => let ⟨c, h1, h2⟩ := h.at_ i a b; ⟨c, h1, s _ _ h2⟩, h.nm, h.ris⟩
end L2
set_option maxRecDepth 100000
namespace L2
open PySem PySem.Spec PyProof.Rows
section
variable {X : Cx}
end
end L2
set_option maxRecDepth 100000
namespace L2
open PySem PySem.Spec PyProof.Rows
section
variable {X : Cx} {pins : List (Addr × Obj)} {σ : St} {H : Hp} {s : Shared}
end
section
variable {X : Cx} {e1 e2 : Expr} {p pos : Pos} {k : Nat} {g1 g2 : TG}
def rIntB : List V → Hp → VK → Prop := fun xs H Q => ∃ b, xs = [.bl b] ∧ Q (.int (if b then 1 else 0)) H
theorem call_intB : CallR X (.type "int") rIntB := by
  intro pins s σ H xs us Q I r h
  obtain ⟨b, rfl, q⟩ := h
  obtain ⟨u, rfl, ru⟩ := r.one
  cases ru
  exact call_int_bool ⟨.int (if b then 1 else 0), H, I.tok _, ⟨_, rfl⟩, q⟩
end
end L2
set_option maxRecDepth 100000
namespace L2
open PySem PySem.Spec PyProof.Rows
section
variable {prog : Program} {w : World} {A : Around} {R : Result → Shared → Prop} {s : Shared}
end
section
variable {X : Cx} {t1 i1 t2 i2 elt : Expr} {sc : Scope} {pos : Pos} {own : List Str} {idx : List Nat} {N' : List Str} {wi wi2 : TI} {g g2 : TG} {te : TE}
end
end L2
set_option maxRecDepth 100000
namespace L2
open PySem PySem.Spec PyProof.Rows
section
variable {prog : Program} {w : World} {A : Around} {E : Value → Shared → Prop} {s : Shared}
end
section
variable {X : Cx} {e st : Expr} {te ts : TE} {p2 pos : Pos}
end
end L2
set_option maxRecDepth 100000
namespace L2
open PySem PySem.Spec PyProof.Rows
inductive Hd where
  | one (s : Str)
  | as (y : Str)
  | way (x y : Str)
  | prs (s : Str) (ps : List (Str × Str))
def Hd.nx : Hd → Option Str
  | .as y => some y
  | _ => none
def Hd.ok (ns : List Str) : Hd → Prop
  | .one s => s = "all" ∨ s = "none"
  | .as y => isName y = true ∧ y ∈ ns
  | .way x y => isName x = true ∧ isName y = true ∧ x ∈ ns ∧ y ∈ ns
  | .prs s ps => (s = "box" ∨ s = "pick") ∧ (∀ p ∈ ps, isName p.1 = true ∧ isName p.2 = true ∧ p.2 ∈ ns) ∧ rising (ps.map (·.1)) = true ∧ ps.length ≤ 10
structure PrsV (H : Hp) (xs : List V) (ps : List (Str × Str)) : Prop where
  len : xs.length = ps.length
  at_ : ∀ i (h : i < xs.length) (h' : i < ps.length), ∃ c, xs[i] = .ref c ∧ H c = some (.tup [.str ps[i].1, .str ps[i].2])
theorem PrsV.tk {H H' : Hp} {xs : List V} {ps : List (Str × Str)} (h : PrsV H xs ps) (s : Tk H H') : PrsV H' xs ps := ⟨h.len, fun i a b => let ⟨c, h1, h2⟩ := h.at_ i a b; ⟨c, h1, s _ _ h2⟩⟩
inductive HV (H : Hp) : V → Hd → Prop
  | one {b : Addr} {s : Str} : H b = some (.tup [.str s]) → HV H (.ref b) (.one s)
  | as {b : Addr} {y : Str} : H b = some (.tup [.str "as", .str y]) → HV H (.ref b) (.as y)
  | way {b : Addr} {x y : Str} : H b = some (.tup [.str "way", .str x, .str y]) → HV H (.ref b) (.way x y)
  | prs {b c : Addr} {s : Str} {xs : List V} {ps : List (Str × Str)} : H b = some (.tup [.str s, .ref c]) → H c = some (.tup xs) → PrsV H xs ps → HV H (.ref b) (.prs s ps)
theorem HV.tk {H H' : Hp} (s : Tk H H') {v : V} {h : Hd} (q : HV H v h) : HV H' v h := by
  cases q with
  | one e => exact .one (s _ _ e)
  | as e => exact .as (s _ _ e)
  | way e => exact .way (s _ _ e)
  | prs e e' p => exact .prs (s _ _ e) (s _ _ e') (p.tk s)
structure HG (H : Hp) (ns : List Str) (v : V) (P : Option Str → Prop) : Prop where
  ex : ∃ h, HV H v h ∧ h.ok ns ∧ P h.nx
section
variable {H : Hp} {ns : List Str} {b : Addr} {v : V} {P : Option Str → Prop}
theorem HG.tk {H' : Hp} (h : HG H ns v P) (s : Tk H H') : HG H' ns v P := let ⟨d, h1, h2⟩ := h.ex; ⟨d, h1.tk s, h2⟩
theorem HG.imp {P' : Option Str → Prop} (h : HG H ns v P) (f : ∀ o, P o → P' o) : HG H ns v P' := let ⟨d, h1, h2, h3⟩ := h.ex; ⟨d, h1, h2, f _ h3⟩
theorem HG.hd (h : HG H ns v P) : HdOk H ns v P := by
  obtain ⟨d, h1, h2, h3⟩ := h.ex
  cases h1 with
  | one e =>
    rcases h2 with rfl | rfl
    · exact hd_all e h3
    · exact hd_none e h3
  | as e => exact hd_as e h2.1 h2.2 h3
  | way e => exact hd_way e h2.1 h2.2.1 h2.2.2.1 h2.2.2.2 h3
  | prs e e' p => exact hd_worded h2.1 e e' (by rw [p.len]; have := h2.2.2.2; omega) ⟨p.len, p.at_, h2.2.1, h2.2.2.1⟩ h3
end
def Hd.dt : Hd → Dt
  | .one s => .tup [.str s]
  | .as y => .tup [.str "as", .str y]
  | .way x y => .tup [.str "way", .str x, .str y]
  | .prs s ps => .tup [.str s, .tup (ps.map fun p => .tup [.str p.1, .str p.2])]
def Hd.py : Hd → PyData
  | .one s => .tuple [.str s]
  | .as y => .tuple [.str "as", .str y]
  | .way x y => .tuple [.str "way", .str x, .str y]
  | .prs s ps => .tuple [.str s, .tuple (ps.map fun p => .tuple [.str p.1, .str p.2])]
theorem HV.tx {H : Hp} {ns : List Str} {v : V} {h : Hd} (q : HV H v h) (ok : h.ok ns) : TX H v h.dt := by
  cases q with
  | one e => exact tt_tup1 e (tt_lit (by rcases ok with rfl | rfl <;> decide))
  | as e => exact tt_tup2 e (tt_lit (by decide)) (tt_name ok.1)
  | way e => exact tt_tup3 e (tt_lit (by decide)) (tt_name ok.1) (tt_name ok.2.1)
  | @prs b c s xs ps e e' p =>
    have h10 := ok.2.2.2
    have hl := p.len
    refine tt_tup2 e (tt_lit (by rcases ok.1 with rfl | rfl <;> decide)) (.tup e' (by simp [p.len]) (by omega) fun i h1 h2 => ?_)
    have h3 : i < ps.length := by simpa using h2
    obtain ⟨c', q1, q2⟩ := p.at_ i h1 h3
    obtain ⟨m1, m2, _⟩ := ok.2.1 _ (List.getElem_mem h3)
    rw [q1]
    simp only [List.getElem_map]
    exact tt_tup2 q2 (tt_name m1) (tt_name m2)
abbrev Rw2 := Str × Hd
structure RV (H : Hp) (xs : List V) (rows : List Rw2) : Prop where
  len : xs.length = rows.length
  at_ : ∀ i (h : i < xs.length) (h' : i < rows.length), ∃ b v, xs[i] = .ref b ∧ H b = some (.tup [.str rows[i].1, v]) ∧ HV H v rows[i].2
theorem RV.tk {H H' : Hp} {xs : List V} {rows : List Rw2} (h : RV H xs rows) (s : Tk H H') : RV H' xs rows := ⟨h.len, fun i a b => let ⟨c, v, h1, h2, h3⟩ := h.at_ i a b; ⟨c, v, h1, s _ _ h2, h3.tk s⟩⟩
theorem RV.nil {H : Hp} : RV H [] [] := ⟨rfl, fun i h => absurd h (by simp)⟩
theorem RV.snoc {H : Hp} {xs : List V} {rows : List Rw2} (h : RV H xs rows) {b : Addr} {v : V} {r : Rw2} (e : H b = some (.tup [.str r.1, v])) (hv : HV H v r.2) : RV H (xs ++ [.ref b]) (rows ++ [r]) := by
  have hl := h.len
  refine ⟨by simp [hl], fun i h1 h2 => ?_⟩
  by_cases hlt : i < xs.length
  · rw [List.getElem_append_left hlt, List.getElem_append_left (by omega)]
    exact h.at_ i hlt (by omega)
  · have e1 : i = xs.length := by simp at h1; omega
    subst e1
    rw [List.getElem_append_right (Nat.le_refl _), List.getElem_append_right (by omega)]
    simp only [Nat.sub_self, List.getElem_cons_zero, hl]
    exact ⟨b, v, rfl, e, hv⟩
def rowDt (r : Rw2) : Dt := .tup [.str r.1, r.2.dt]
def RowsK (ns : List Str) (rows : List Rw2) : Prop := ∀ r ∈ rows, isName r.1 = true ∧ r.2.ok ns
theorem RV.tx {H : Hp} {a : Addr} {xs : List V} {rows : List Rw2} {ns : List Str} (h : RV H xs rows) (e : H a = some (.tup xs)) (hn : rows.length ≤ 1000) (ok : RowsK ns rows) : TX H (.ref a) (.tup (rows.map rowDt)) := by
  refine .tup e (by simp [h.len]) (by rw [h.len]; exact hn) fun i h1 h2 => ?_
  have h3 : i < rows.length := by simpa using h2
  obtain ⟨b, v, q1, q2, q3⟩ := h.at_ i h1 h3
  obtain ⟨m1, m2⟩ := ok _ (List.getElem_mem h3)
  rw [q1]
  simp only [List.getElem_map]
  exact tt_tup2 q2 (tt_name m1) (q3.tx m2)
end L2
set_option maxRecDepth 100000
namespace L2
open PySem PySem.Spec PyProof.Rows
theorem RV.mem {H : Hp} {xs : List V} {rows : List Rw2} (h : RV H xs rows) {i : Nat} (hi : i < rows.length) : ∃ b v, xs.getD i .non = .ref b ∧ H b = some (.tup [.str rows[i].1, v]) ∧ HV H v rows[i].2 := by
  have hl := h.len
  obtain ⟨b, v, q1, q2, q3⟩ := h.at_ i (by omega) hi
  exact ⟨b, v, by rw [List.getD_eq_getElem?_getD, List.getElem?_eq_getElem (by omega), q1]; rfl, q2, q3⟩
def Hd.pre : Hd → List Str
  | .one s => [s]
  | .as _ => []
  | .way _ _ => ["way"]
  | .prs s _ => [s]
end L2
set_option maxRecDepth 100000
namespace L2
open PySem PySem.Spec PyProof.Rows
abbrev ZipO (h : Heap) (z TI TO c : Addr) (f : Bool) : Prop := h.get? z = some { cls := .type "zip", dict := none, data := .fields #[rawInt c, .bool f, .bool false, .ref TI, .ref TO], slots := #[] }
section
variable {P : Program} {w : World} {A : Around} {E : Value → Shared → Prop} {s : Shared}
end
end L2
set_option maxRecDepth 100000
namespace L2
open PySem PySem.Spec PyProof.Rows
def ZipS (h : Heap) (d z TI TO i1 i2 l m : Addr) (i : Nat) : Prop :=
  ((i = 0 ∧ IsZip h z TI TO .none ∧ ∃ u v, IsPair h TO u v) ∨ ∃ c f oc, ZipO h z TI TO c f ∧ h.get? c = some oc ∧ c ≠ d ∧ c ∉ [z, TO, i1, i2]) ∧ IsPair h TI (.ref i1) (.ref i2) ∧ h.IsListIter i1 l i ∧ h.IsListIter i2 m i
theorem ZipS.keep {h h' : Heap} {d z TI TO i1 i2 l m : Addr} {i : Nat} (q : ZipS h d z TI TO i1 i2 l m i) (hd : d ∉ [z, TI, TO, i1, i2]) (k : ∀ b o, b ≠ d → h.get? b = some o → h'.get? b = some o) : ZipS h' d z TI TO i1 i2 l m i := by
  obtain ⟨q1, q2, q3, q4⟩ := q
  simp only [List.mem_cons, List.mem_nil_iff, or_false, not_or] at hd
  obtain ⟨n1, n2, n3, n4, n5⟩ := hd
  refine ⟨?_, k _ _ (Ne.symm n2) q2, q3.at fun o e => k _ _ (Ne.symm n4) e, q4.at fun o e => k _ _ (Ne.symm n5) e⟩
  rcases q1 with ⟨e, a, u, v, b⟩ | ⟨c, f, oc, a, b, e1, e2⟩
  · exact .inl ⟨e, k _ _ (Ne.symm n1) a, u, v, k _ _ (Ne.symm n3) b⟩
  · exact .inr ⟨c, f, oc, k _ _ (Ne.symm n1) a, k _ _ e1 b, e1, e2⟩
section
variable {P : Program} {w : World} {A : Around} {E : Value → Shared → Prop} {s : Shared}
end
section
variable {X : Cx}
end
end L2
set_option maxRecDepth 100000
namespace L2
open PySem PySem.Spec PyProof.Rows
inductive DEq (H : Hp) : Nat → V → V → Prop
  | str (n : Nat) (z : Str) : DEq H n (.str z) (.str z)
  | tup {n : Nat} {a b : Addr} {xs ys : List V} : H a = some (.tup xs) → H b = some (.tup ys) → xs.length = ys.length → (∀ i (h : i < xs.length) (h' : i < ys.length), DEq H n xs[i] ys[i]) → DEq H (n + 1) (.ref a) (.ref b)
section
variable {X : Cx} {pins : List (Addr × Obj)} {σ : St} {H : Hp} {s : Shared}
theorem DEq.eqAt (I : Inv X pins σ H s) {n : Nat} {x y : V} (h : DEq H n x y) : ∀ (A : Around) (u v : Value), A.units + n < cLine → RelV x u → RelV y v → SeqAt.EqAt A s u v true := by
  induction h with
  | str n z =>
    intro A u v hu ru rv
    obtain ⟨t, rfl⟩ := ru
    obtain ⟨t', rfl⟩ := rv
    have := SeqAt.EqAt.str_str (A := A) (s := s) z t z t'
    rw [beq_self_eq_true] at this
    exact this
  | @tup n a b xs ys ea eb hl _ ih =>
    intro A u v hu ru rv
    cases ru
    cases rv
    by_cases hab : a = b
    · subst hab; exact SeqAt.EqAt.same _
    · obtain ⟨i1, r1, p1, _⟩ := I.tuple (SqT.of ea)
      obtain ⟨i2, r2, p2, _⟩ := I.tuple (SqT.of eb)
      have l1 := r1.length
      have l2 := r2.length
      have := SeqAt.RcAt.tuples (A := A) (e := fun _ => true) p1 p2 (by omega) fun j h1 h2 => by
        have g1 : j < xs.length := by simp at h1; omega
        have g2 : j < ys.length := by simp at h2; omega
        obtain ⟨w1, e1, q1⟩ := r1.get (List.getElem?_eq_getElem g1)
        obtain ⟨w2, e2, q2⟩ := r2.get (List.getElem?_eq_getElem g2)
        have k1 : i1.toArray[j] = w1 := by rw [List.getElem?_eq_getElem (by simpa using h1)] at e1; simpa using e1
        have k2 : i2.toArray[j] = w2 := by rw [List.getElem?_eq_getElem (by simpa using h2)] at e2; simpa using e2
        rw [k1, k2]
        exact ih j g1 g2 A.in1 w1 w2 (by rw [Around.in1_units]; omega) q1 q2
      have e : ((List.range (min i1.toArray.size i2.toArray.size)).all (fun _ => true) && i1.toArray.size == i2.toArray.size) = true := by
        simp; omega
      rw [e] at this
      exact SeqAt.EqAt.of_refs hab this
theorem DEq.all (I : Inv X pins σ H s) {n : Nat} {A : Around} {xs ys : List V} {i1 i2 : List Value} (hl : xs.length = ys.length) (hd : ∀ i (h : i < xs.length) (h' : i < ys.length), DEq H n xs[i] ys[i]) (r1 : Vals xs i1) (r2 : Vals ys i2) (hu : A.units + n + 1 < cLine) :
    ∀ j (h1 : j < i1.toArray.size) (h2 : j < i2.toArray.size), SeqAt.EqAt A.in1 s i1.toArray[j] i2.toArray[j] ((fun _ => true) j) := fun j h1 h2 => by
  have l1 := r1.length
  have l2 := r2.length
  have g1 : j < xs.length := by simp at h1; omega
  have g2 : j < ys.length := by simp at h2; omega
  obtain ⟨w1, e1, q1⟩ := r1.get (List.getElem?_eq_getElem g1)
  obtain ⟨w2, e2, q2⟩ := r2.get (List.getElem?_eq_getElem g2)
  have k1 : i1.toArray[j] = w1 := by rw [List.getElem?_eq_getElem (by simpa using h1)] at e1; simpa using e1
  have k2 : i2.toArray[j] = w2 := by rw [List.getElem?_eq_getElem (by simpa using h2)] at e2; simpa using e2
  rw [k1, k2]
  exact (hd j g1 g2).eqAt I A.in1 w1 w2 (by rw [Around.in1_units]; omega) q1 q2
end
section
variable {X : Cx} {tg a b c : Expr} {ta : TA} {p pos : Pos}
end
end L2
set_option maxRecDepth 100000
namespace L2
open PySem PySem.Spec PyProof.Rows
def Hd.wds : Hd → List Str
  | .prs _ ps => ps.map (·.1)
  | _ => []
structure HG4 (H : Hp) (ns ws : List Str) (v : V) (P : Option Str → Prop) : Prop where
  ex : ∃ h, HV H v h ∧ h.ok ns ∧ P h.nx ∧ ∀ z ∈ h.wds, z ∈ ws
section
variable {H : Hp} {ns ws : List Str} {b : Addr} {v : V} {P : Option Str → Prop}
theorem HG4.hg (h : HG4 H ns ws v P) : HG H ns v P := let ⟨d, h1, h2, h3, _⟩ := h.ex; ⟨d, h1, h2, h3⟩
theorem HG4.tk {H' : Hp} (h : HG4 H ns ws v P) (s : Tk H H') : HG4 H' ns ws v P := let ⟨d, h1, h2⟩ := h.ex; ⟨d, h1.tk s, h2⟩
theorem HG4.imp {P' : Option Str → Prop} (h : HG4 H ns ws v P) (f : ∀ o, P o → P' o) : HG4 H ns ws v P' := let ⟨d, h1, h2, h3, h4⟩ := h.ex; ⟨d, h1, h2, f _ h3, h4⟩
theorem HG4.hd (h : HG4 H ns ws v P) : HdOk H ns v P := h.hg.hd
theorem hg4_as {y : Str} (e : H b = some (.tup [.str "as", .str y])) (hy : isName y = true) (hm : y ∈ ns) (hP : P (some y)) : HG4 H ns ws (.ref b) P := ⟨.as y, .as e, ⟨hy, hm⟩, hP, (fun _ h => nomatch h)⟩
theorem hg4_none (e : H b = some (.tup [.str "none"])) (hP : P none) : HG4 H ns ws (.ref b) P := ⟨.one "none", .one e, .inr rfl, hP, (fun _ h => nomatch h)⟩
theorem hg4_all (e : H b = some (.tup [.str "all"])) (hP : P none) : HG4 H ns ws (.ref b) P := ⟨.one "all", .one e, .inl rfl, hP, (fun _ h => nomatch h)⟩
theorem hg4_way {x y : Str} (e : H b = some (.tup [.str "way", .str x, .str y])) (hx : isName x = true) (hy : isName y = true) (mx : x ∈ ns) (my : y ∈ ns) (hP : P none) : HG4 H ns ws (.ref b) P := ⟨.way x y, .way e, ⟨hx, hy, mx, my⟩, hP, (fun _ h => nomatch h)⟩
theorem hg4_worded {s : Str} {c : Addr} {xs : List V} {ps : List (Str × Str)} (hs : s = "box" ∨ s = "pick") (e : H b = some (.tup [.str s, .ref c])) (ec : H c = some (.tup xs)) (hn : xs.length ≤ 10) (h : PrsOk H ns xs ps) (hw : ∀ q ∈ ps, q.1 ∈ ws) (hP : P none) : HG4 H ns ws (.ref b) P :=
  ⟨.prs s ps, .prs e ec ⟨h.len, h.at_⟩, ⟨hs, h.nm, h.ris, by rw [← h.len]; exact hn⟩, hP, fun z hz => by obtain ⟨q, hq, rfl⟩ := List.mem_map.mp hz; exact hw q hq⟩
end
theorem tb_two {H : Hp} {b : Addr} {x y : Str} (e : H b = some (.tup [.str x, .str y])) (hx : Wd x) (hy : Wd y) : TB H (.ref b) 1 411 :=
  (TB.tup (k := 0) (n := 202) e fun v hv => by
    simp only [List.mem_cons, List.mem_nil_iff, or_false] at hv
    rcases hv with rfl | rfl
    · exact TB.str hx
    · exact TB.str hy).mono (by omega) (by simp)
theorem HV.tb {H : Hp} {ns ws : List Str} {v : V} {h : Hd} (q : HV H v h) (ok : h.ok ns) (hn : ∀ n ∈ ns, Wd n) (hw : ∀ z ∈ h.wds, Wd z) : TB H v 3 8273 := by
  cases q with
  | one e =>
    refine (TB.tup (k := 0) (n := 202) e fun v hv => ?_).mono (by omega) (by simp)
    rw [List.mem_singleton.mp hv]
    rcases ok with rfl | rfl <;> exact TB.str (wd_ascii (by decide) (by decide))
  | as e => exact (tb_two e (wd_ascii (by decide) (by decide)) (hn _ ok.2)).mono (by omega) (by omega)
  | way e =>
    refine (TB.tup (k := 0) (n := 202) e fun v hv => ?_).mono (by omega) (by simp)
    simp only [List.mem_cons, List.mem_nil_iff, or_false] at hv
    rcases hv with rfl | rfl | rfl
    · exact TB.str (wd_ascii (by decide) (by decide))
    · exact TB.str (hn _ ok.2.2.1)
    · exact TB.str (hn _ ok.2.2.2)
  | @prs b c s xs ps e e' p =>
    have h10 := ok.2.2.2
    have hl := p.len
    refine (TB.tup (k := 2) (n := 4133) e fun v hv => ?_).mono (by omega) (by simp)
    simp only [List.mem_cons, List.mem_nil_iff, or_false] at hv
    rcases hv with rfl | rfl
    · rcases ok.1 with rfl | rfl <;> exact (TB.str (wd_ascii (by decide) (by decide))).mono (by omega) (by omega)
    · refine (TB.tup (k := 1) (n := 411) e' fun x hx => ?_).mono (by omega) (by omega)
      obtain ⟨i, hi, rfl⟩ := List.getElem_of_mem hx
      have h3 : i < ps.length := by omega
      obtain ⟨c', q1, q2⟩ := p.at_ i hi h3
      rw [q1]
      have hm : ps[i] ∈ ps := List.getElem_mem h3
      exact tb_two q2 (hw _ (List.mem_map.mpr ⟨_, hm, rfl⟩)) (hn _ (ok.2.1 _ hm).2.2)
def Hd.ren (f g : Str → Str) : Hd → Hd
  | .one s => .one s
  | .as y => .as (f y)
  | .way x y => .way (f x) (f y)
  | .prs s ps => .prs s (ps.map fun p => (g p.1, f p.2))
def renR (f g : Str → Str) (r : Rw2) : Rw2 := (f r.1, r.2.ren f g)
theorem Hd.ren_nx (f g : Str → Str) (h : Hd) : (h.ren f g).nx = h.nx.map f := by cases h <;> rfl
theorem strLt_irrefl (a : Str) : strLt a a = false := by
  unfold strLt
  exact decide_eq_false (List.lt_irrefl _)
theorem Hd.ren_ok {ns ws ns' : List Str} {f g : Str → Str} {h : Hd} (ok : h.ok ns) (hw : ∀ z ∈ h.wds, z ∈ ws) (hf : ∀ x ∈ ns, f x ∈ ns' ∧ isName (f x) = true) (hg : ∀ z ∈ ws, isName (g z) = true) (hr : ∀ os : List Str, (∀ z ∈ os, z ∈ ws) → rising os = true → rising (os.map g) = true) : (h.ren f g).ok ns' := by
  cases h with
  | one s => exact ok
  | as y => exact ⟨(hf _ ok.2).2, (hf _ ok.2).1⟩
  | way x y => exact ⟨(hf _ ok.2.2.1).2, (hf _ ok.2.2.2).2, (hf _ ok.2.2.1).1, (hf _ ok.2.2.2).1⟩
  | prs s ps =>
    refine ⟨ok.1, fun p hp => ?_, ?_, by rw [List.length_map]; exact ok.2.2.2⟩
    · obtain ⟨q, hq, rfl⟩ := List.mem_map.mp hp
      obtain ⟨_, _, m⟩ := ok.2.1 q hq
      exact ⟨hg _ (hw _ (List.mem_map.mpr ⟨q, hq, rfl⟩)), (hf _ m).2, (hf _ m).1⟩
    · rw [List.map_map]
      have hw' : ∀ z ∈ ps.map (fun q : Str × Str => q.1), z ∈ ws := hw
      have := hr (ps.map fun q : Str × Str => q.1) hw' ok.2.2.1
      rw [List.map_map] at this
      exact this
theorem Hd.ren_wds {ws ws' : List Str} {f g : Str → Str} {h : Hd} (hw : ∀ z ∈ h.wds, z ∈ ws) (hg : ∀ z ∈ ws, g z ∈ ws') : ∀ z ∈ (h.ren f g).wds, z ∈ ws' := by
  cases h with
  | prs s ps =>
    intro z hz
    simp only [Hd.ren, Hd.wds, List.map_map] at hz
    obtain ⟨q, hq, rfl⟩ := List.mem_map.mp hz
    exact hg _ (hw _ (List.mem_map.mpr ⟨q, hq, rfl⟩))
  | _ => intro z hz; exact nomatch hz
end L2
set_option maxRecDepth 100000
namespace L2
open PySem PySem.Spec PyProof.Rows
def Ahd (ns : List Str) (n : Str) (o : Option Str) : Prop := ∀ y, o = some y → ∃ (i j : Nat), i < j ∧ ns[i]? = some y ∧ ns[j]? = some n
structure RowsG (H : Hp) (ns ws : List Str) (rs : List (Str × V)) : Prop where
  sub : ∀ r ∈ rs, r.1 ∈ ns
  hd : ∀ r ∈ rs, HG4 H ns ws r.2 (Ahd ns r.1)
theorem RowsG.tk {H H' : Hp} {ns ws : List Str} {rs : List (Str × V)} (h : RowsG H ns ws rs) (s : Tk H H') : RowsG H' ns ws rs := ⟨h.sub, fun r hr => (h.hd r hr).tk s⟩
theorem RowsG.perm {H : Hp} {ns ws : List Str} {rs rs' : List (Str × V)} (h : RowsG H ns ws rs) (p : ∀ r ∈ rs', r ∈ rs) : RowsG H ns ws rs' := ⟨fun r hr => h.sub r (p r hr), fun r hr => h.hd r (p r hr)⟩
theorem RowsG.add {H : Hp} {ns ws : List Str} {rs : List (Str × V)} (h : RowsG H ns ws rs) {n : Str} {v : V} (h1 : n ∈ ns) (h2 : HG4 H ns ws v (Ahd ns n)) : RowsG H ns ws ((n, v) :: rs) := by
  refine ⟨fun r hr => ?_, fun r hr => ?_⟩ <;> rcases List.mem_cons.mp hr with rfl | hr
  · exact h1
  · exact h.sub r hr
  · exact h2
  · exact h.hd r hr
structure RT (H : Hp) (a : Addr) (xs : List V) (rows : List Rw2) (ns ws : List Str) : Prop where
  at_ : H a = some (.tup xs)
  rv : RV H xs rows
  nm : (rows.map (·.1)).Perm ns
  nd : ns.Nodup
  ok : RowsK ns rows
  wd : ∀ n ∈ ns, Wd n
  ah : ∀ r ∈ rows, Ahd ns r.1 r.2.nx
  ww : ∀ r ∈ rows, ∀ z ∈ r.2.wds, z ∈ ws
  pos : 1 ≤ ns.length
  few : ns.length ≤ 10
section
variable {H H' : Hp} {a : Addr} {xs : List V} {rows : List Rw2} {ns ws : List Str}
theorem RT.tk (h : RT H a xs rows ns ws) (s : Tk H H') : RT H' a xs rows ns ws := ⟨s _ _ h.at_, h.rv.tk s, h.nm, h.nd, h.ok, h.wd, h.ah, h.ww, h.pos, h.few⟩
theorem RT.rl (h : RT H a xs rows ns ws) : rows.length = ns.length := by have := h.nm.length_eq; simpa using this
theorem RT.ndr (h : RT H a xs rows ns ws) : (rows.map (·.1)).Nodup := by rw [h.nm.nodup_iff]; exact h.nd
theorem RT.of {rs : List (Str × V)} (e : H a = some (.tup xs)) (ps : PairsAt H xs (rowsK rs)) (nm : (rs.map (·.1)).Perm ns) (nd : ns.Nodup) (okn : ∀ n ∈ ns, isName n = true ∧ Wd n) (pos : 1 ≤ ns.length) (few : ns.length ≤ 10) (g : RowsG H ns ws rs) : ∃ rows, RT H a xs rows ns ws := by
  have hc : ∀ i : Fin rs.length, ∃ hd : Hd, HV H rs[i.val].2 hd ∧ hd.ok ns ∧ Ahd ns rs[i.val].1 hd.nx ∧ ∀ z ∈ hd.wds, z ∈ ws := fun i => (g.hd _ (List.getElem_mem i.isLt)).ex
  obtain ⟨f, hf⟩ := Classical.axiomOfChoice hc
  have hxl : xs.length = rs.length := by have := ps.1; simpa using this
  have en : (List.ofFn fun i : Fin rs.length => ((rs[i.val].1, f i) : Rw2)).map (·.1) = rs.map (·.1) := by
    apply List.ext_getElem
    · simp
    · intro i h1 h2; simp
  have mem : ∀ r ∈ (List.ofFn fun i : Fin rs.length => ((rs[i.val].1, f i) : Rw2)), ∃ i : Fin rs.length, r = (rs[i.val].1, f i) := fun r hr => by
    obtain ⟨i, hi, rfl⟩ := List.getElem_of_mem hr
    exact ⟨⟨i, by simpa using hi⟩, by simp⟩
  refine ⟨List.ofFn fun i => (rs[i.val].1, f i), e, ⟨by simp [hxl], fun i h1 h2 => ?_⟩, by rw [en]; exact nm, nd, fun r hr => ?_, fun n hn => (okn n hn).2, fun r hr => ?_, fun r hr => ?_, pos, few⟩
  · have h3 : i < rs.length := by omega
    obtain ⟨b, e1, e2⟩ := ps.2 i (by simpa using h3)
    rw [List.getElem?_eq_getElem h1] at e1
    refine ⟨b, rs[i].2, Option.some.inj e1, ?_, ?_⟩
    · simpa [rowsK, kV] using e2
    · simpa using (hf ⟨i, h3⟩).1
  · obtain ⟨i, rfl⟩ := mem r hr
    exact ⟨(okn _ (g.sub _ (List.getElem_mem i.isLt))).1, (hf i).2.1⟩
  · obtain ⟨i, rfl⟩ := mem r hr
    exact (hf i).2.2.1
  · obtain ⟨i, rfl⟩ := mem r hr
    exact (hf i).2.2.2
end
section
variable {H H' : Hp} {a b : Addr} {xs ys : List V} {rows rows2 : List Rw2} {ns ws ws' : List Str} {f g : Str → Str}
theorem RT.pairs (h : RT H a xs rows ns ws) : ∃ rs : List (Str × V), PairsAt H xs (rowsK rs) ∧ rs.map (·.1) = rows.map (·.1) ∧ rs.length = rows.length ∧ ∀ i (h1 : i < rs.length) (h2 : i < rows.length), HV H rs[i].2 rows[i].2 := by
  have hl := h.rv.len
  have hc : ∀ i : Fin rows.length, ∃ v : V, (∃ b, xs[i.val]? = some (.ref b) ∧ H b = some (.tup [.str rows[i.val].1, v])) ∧ HV H v rows[i.val].2 := fun i => by
    obtain ⟨b, v, q1, q2, q3⟩ := h.rv.at_ i.val (by have := i.isLt; omega) i.isLt
    exact ⟨v, ⟨b, by rw [List.getElem?_eq_getElem (by have := i.isLt; omega), q1], q2⟩, q3⟩
  obtain ⟨f, hf⟩ := Classical.axiomOfChoice hc
  refine ⟨List.ofFn fun i => (rows[i.val].1, f i), ⟨by simp [hl], fun i hi => ?_⟩, ?_, by simp, fun i h1 h2 => ?_⟩
  · have hi' : i < rows.length := by simpa using hi
    obtain ⟨b, q1, q2⟩ := (hf ⟨i, hi'⟩).1
    exact ⟨b, q1, by simpa [rowsK, kV] using q2⟩
  · apply List.ext_getElem
    · simp
    · intro i h1 h2; simp
  · simpa using (hf ⟨i, h2⟩).2
def hdOf (rows : List Rw2) (x : Str) : Hd := ((rows.find? fun r => decide (r.1 = x)).map (·.2)).getD (.one "")
def nxOf (rows : List Rw2) (x : Str) : Option Str := (hdOf rows x).nx
theorem hdOf_mem (nd : (rows.map (·.1)).Nodup) {r : Rw2} (hr : r ∈ rows) : hdOf rows r.1 = r.2 := by
  obtain ⟨i, hi, rfl⟩ := List.getElem_of_mem hr
  have : rows.find? (fun r => decide (r.1 = rows[i].1)) = some rows[i] := by
    rw [List.find?_eq_some_iff_getElem]
    refine ⟨by simp, i, hi, rfl, fun j hj => ?_⟩
    have hne : (rows.map (·.1))[j]'(by simp; omega) ≠ (rows.map (·.1))[i]'(by simpa using hi) := List.pairwise_iff_getElem.mp nd j i (by simp; omega) (by simpa using hi) hj
    simpa using hne
  unfold hdOf
  rw [this]; rfl
theorem HV.asV {v : V} {h : Hd} (q : HV H v h) (ok : h.ok ns) : AsV H v h.nx := by
  cases q with
  | one e => exact ⟨_, rfl, .inl ⟨_, _, e, by rcases ok with rfl | rfl <;> decide, rfl⟩⟩
  | as e => exact ⟨_, rfl, .inr ⟨_, e, rfl⟩⟩
  | way e => exact ⟨_, rfl, .inl ⟨_, _, e, by decide, rfl⟩⟩
  | prs e e' p => exact ⟨_, rfl, .inl ⟨_, _, e, by rcases ok.1 with rfl | rfl <;> decide, rfl⟩⟩
theorem RT.good (h : RT H a xs rows ns ws) (hw : ∀ z ∈ ws, Wd z) : ∃ rs, GoodT H a xs rs (nxOf rows) (fun n => ns.idxOf n) ∧ rs.map (·.1) = rows.map (·.1) ∧ rs.length = rows.length ∧ ∀ x v, x ∈ ns → valV (dictOf (rowsK rs)) (.inr x) = some v → HV H v (hdOf rows x) := by
  obtain ⟨rs, ps, nm, rl, hv⟩ := h.pairs
  have hrl := h.rl
  have hf := h.few
  have hp := h.pos
  have nd : (rs.map (·.1)).Nodup := by rw [nm]; exact h.ndr
  have hmem : ∀ n, n ∈ ns ↔ n ∈ rs.map (·.1) := fun n => by rw [nm]; exact h.nm.mem_iff.symm
  have at' : ∀ r ∈ rs, ∃ r' ∈ rows, r.1 = r'.1 ∧ HV H r.2 r'.2 := fun r hr => by
    obtain ⟨i, hi, rfl⟩ := List.getElem_of_mem hr
    have hi' : i < rows.length := by omega
    refine ⟨rows[i], List.getElem_mem hi', ?_, hv i hi hi'⟩
    have : (rs.map (·.1))[i]'(by simpa using hi) = (rows.map (·.1))[i]'(by simpa using hi') := by simp only [nm]
    simpa using this
  have g : GoodT H a xs rs (nxOf rows) (fun n => ns.idxOf n) := by
    refine ⟨h.at_, ps, nd, by omega, by omega, fun r hr => ?_, fun r hr y hy => ?_, fun r hr => ?_, fun r hr => ?_⟩
    · obtain ⟨r', hr', e, v⟩ := at' r hr
      unfold nxOf
      rw [e, hdOf_mem h.ndr hr']
      exact v.asV (h.ok r' hr').2
    · obtain ⟨r', hr', e, v⟩ := at' r hr
      unfold nxOf at hy
      rw [e, hdOf_mem h.ndr hr'] at hy
      obtain ⟨i, j, hij, h1, h2⟩ := h.ah r' hr' y hy
      refine ⟨(hmem y).mp (List.mem_of_getElem? h1), ?_⟩
      show ns.idxOf y < ns.idxOf r.1
      rw [e, idxOf_get h.nd h1, idxOf_get h.nd h2]
      exact hij
    · have := List.idxOf_lt_length_of_mem ((hmem r.1).mpr (List.mem_map.mpr ⟨r, hr, rfl⟩))
      show ns.idxOf r.1 ≤ _
      omega
    · obtain ⟨r', hr', e, v⟩ := at' r hr
      refine ⟨h.wd _ ((hmem r.1).mpr (List.mem_map.mpr ⟨r, hr, rfl⟩)), v.tb (ws := ws) (h.ok r' hr').2 h.wd fun z hz => hw z (h.ww r' hr' z hz)⟩
  refine ⟨rs, g, nm, rl, fun x v hx hval => ?_⟩
  obtain ⟨v', m, e⟩ := g.get ((hmem x).mp hx)
  rw [hval] at e
  cases e
  obtain ⟨r', hr', e, q⟩ := at' _ m
  have e' : x = r'.1 := e
  rw [e', hdOf_mem h.ndr hr']
  exact q
theorem RT.ren (h : RT H a xs rows ns ws) (pm : rows2.Perm (rows.map (renR f g))) (e : H b = some (.tup ys)) (rv : RV H ys rows2) (finj : ∀ x ∈ ns, ∀ y ∈ ns, f x = f y → x = y) (hf : ∀ x ∈ ns, isName (f x) = true ∧ Wd (f x)) (hg : ∀ z ∈ ws, isName (g z) = true ∧ g z ∈ ws')
    (hr : ∀ os : List Str, (∀ z ∈ os, z ∈ ws) → rising os = true → rising (os.map g) = true) : RT H b ys rows2 (ns.map f) ws' := by
  have mem : ∀ r ∈ rows2, ∃ r' ∈ rows, renR f g r' = r := fun r hr => List.mem_map.mp (pm.mem_iff.mp hr)
  have inn : ∀ r ∈ rows, r.1 ∈ ns := fun r hr => h.nm.mem_iff.mp (List.mem_map.mpr ⟨r, hr, rfl⟩)
  refine ⟨e, rv, ?_, ?_, fun r hr' => ?_, fun n hn => ?_, fun r hr' y hy => ?_, fun r hr' => ?_, by rw [List.length_map]; exact h.pos, by rw [List.length_map]; exact h.few⟩
  · refine (pm.map (·.1)).trans ?_
    rw [List.map_map]
    have e1 : rows.map ((fun r : Rw2 => r.1) ∘ renR f g) = (rows.map (·.1)).map f := by rw [List.map_map]; rfl
    rw [e1]
    exact h.nm.map f
  · rw [List.Nodup, List.pairwise_map]
    exact h.nd.imp_of_mem fun {x y} hx hy hn e => hn (finj x hx y hy e)
  · obtain ⟨r', m, rfl⟩ := mem r hr'
    refine ⟨(hf _ (inn r' m)).1, Hd.ren_ok (h.ok r' m).2 (h.ww r' m) (fun x hx => ⟨List.mem_map.mpr ⟨x, hx, rfl⟩, (hf x hx).1⟩) (fun z hz => (hg z hz).1) hr⟩
  · obtain ⟨x, hx, rfl⟩ := List.mem_map.mp hn
    exact (hf x hx).2
  · obtain ⟨r', m, rfl⟩ := mem r hr'
    have hy' : (r'.2.nx).map f = some y := by rw [← Hd.ren_nx f g]; exact hy
    obtain ⟨y', e1, rfl⟩ := Option.map_eq_some_iff.mp hy'
    obtain ⟨i, j, hij, h1, h2⟩ := h.ah r' m y' e1
    exact ⟨i, j, hij, by rw [List.getElem?_map, h1]; rfl, by rw [List.getElem?_map, h2]; rfl⟩
  · obtain ⟨r', m, rfl⟩ := mem r hr'
    exact Hd.ren_wds (h.ww r' m) fun z hz => (hg z hz).2
end
theorem HV.two {H : Hp} {v : V} {h : Hd} {ns : List Str} (q : HV H v h) (ok : h.ok ns) (f g : Str → Str) : (∃ (b : Addr) (s : Str) (ys : List Str), v = .ref b ∧ H b = some (.tup (.str s :: ys.map V.str)) ∧ (s == "box") = false ∧ (s == "pick") = false ∧ ys.length ≤ 2 ∧ (∀ y ∈ ys, y ∈ ns) ∧ ∀ (p : Addr) (H' : Hp), H' p = some (.tup (.str s :: (ys.map f).map V.str)) → HV H' (.ref p) (h.ren f g)) ∨
    ∃ (b c : Addr) (s : Str) (xs : List V) (ps : List (Str × Str)), v = .ref b ∧ h = .prs s ps ∧ H b = some (.tup [.str s, .ref c]) ∧ H c = some (.tup xs) ∧ PrsV H xs ps := by
  cases q with
  | @one b s e => exact .inl ⟨b, s, [], rfl, e, by rcases ok with rfl | rfl <;> decide +kernel, by rcases ok with rfl | rfl <;> decide +kernel, by simp, (fun _ h => nomatch h), fun p H' e => .one e⟩
  | @as b y e => exact .inl ⟨b, "as", [y], rfl, e, by decide +kernel, by decide +kernel, by simp, (fun z hz => by rw [List.mem_singleton.mp hz]; exact ok.2), fun p H' e => .as e⟩
  | @way b x y e =>
    refine .inl ⟨b, "way", [x, y], rfl, e, by decide +kernel, by decide +kernel, by simp, fun z hz => ?_, fun p H' e => .way e⟩
    simp only [List.mem_cons, List.mem_nil_iff, or_false] at hz
    rcases hz with rfl | rfl
    · exact ok.2.2.1
    · exact ok.2.2.2
  | prs e e' p => exact .inr ⟨_, _, _, _, _, rfl, rfl, e, e', p⟩
theorem PrsV.snoc {H : Hp} {xs : List V} {ps : List (Str × Str)} (h : PrsV H xs ps) {c : Addr} {x y : Str} (e : H c = some (.tup [.str x, .str y])) : PrsV H (xs ++ [.ref c]) (ps ++ [(x, y)]) := by
  have hl := h.len
  refine ⟨by simp [hl], fun i h1 h2 => ?_⟩
  by_cases hlt : i < xs.length
  · rw [List.getElem_append_left hlt, List.getElem_append_left (by omega)]
    exact h.at_ i hlt (by omega)
  · have e1 : i = xs.length := by simp at h1; omega
    subst e1
    rw [List.getElem_append_right (Nat.le_refl _), List.getElem_append_right (by omega)]
    simp only [Nat.sub_self, List.getElem_cons_zero, hl]
    exact ⟨c, rfl, e⟩
end L2
set_option maxRecDepth 100000
namespace L2
open PySem PySem.Spec PyProof.Rows
section
variable {prog : Program} {w : World} {A : Around} {R : Result → Shared → Prop} {I : Addr} {fp wr : List Addr} {G : Array GenState → Array GenState → Prop} {n : Nat} {P : Nat → Value → Prop} {St : Nat → Shared → Prop}
end
section
variable {prog : Program} {w : World} {A : Around} {E : Value → Shared → Prop} {s : Shared}
end
section
variable {X : Cx}
end
end L2
set_option maxRecDepth 100000
namespace L2
open PySem PySem.Spec PyProof.Rows
section
variable {prog : Program} {w : World} {A : Around} {E : Value → Shared → Prop} {s : Shared} {I : Addr} {fp wr : List Addr} {G : Array GenState → Array GenState → Prop} {n : Nat} {P : Nat → Value → Prop} {St : Nat → Shared → Prop}
end
section
variable {X : Cx}
end
end L2
set_option maxRecDepth 100000
namespace L2
open PySem PySem.Spec PyProof.Rows
section
variable {X : Cx}
end
end L2
set_option maxRecDepth 100000
namespace L2
open PySem PySem.Spec PyProof.Rows
inductive DA (H : Hp) : Bool → V → PyData → Dt → Prop
  | str {m : Bool} {z : Str} (h : z.length ≤ 100000) : DA H m (.str z) (.str z) (.str z)
  | non {m : Bool} : DA H m .non .none .oth
  | bl {m : Bool} (b : Bool) : DA H m (.bl b) (.bool b) .oth
  | int {m : Bool} (i : Int) : DA H m (.int i) (.int i) .oth
  | tup {m : Bool} {a : Addr} {xs : List V} {ps : List PyData} {ds : List Dt} : H a = some (.tup xs) → xs.length = ps.length → xs.length = ds.length → xs.length ≤ 1000 → (∀ i (h : i < xs.length) (h' : i < ps.length) (h'' : i < ds.length), DA H m xs[i] ps[i] ds[i]) → DA H m (.ref a) (.tuple ps) (.tup ds)
  | lst {a : Addr} {xs : List V} {ps : List PyData} {ds : List Dt} : H a = some (.lst xs) → xs.length = ps.length → xs.length = ds.length → (∀ i (h : i < xs.length) (h' : i < ps.length) (h'' : i < ds.length), DA H true xs[i] ps[i] ds[i]) → DA H true (.ref a) (.list ps) .oth
  | dc0 {a : Addr} : H a = some (.dK []) → DA H false (.ref a) (.dict []) .oth
  | dc1 {a : Addr} {z : Str} {x : V} {p : PyData} {d : Dt} : H a = some (.dK [(.inr z, x)]) → DA H false x p d → DA H false (.ref a) (.dict [(.str z, p)]) .oth
theorem DA.same {H H' : Hp} (s : Same H H') {m : Bool} {v : V} {p : PyData} {d : Dt} (h : DA H m v p d) : DA H' m v p d := by
  induction h with
  | str h => exact .str h
  | non => exact .non
  | bl b => exact .bl b
  | int i => exact .int i
  | tup e h1 h2 h3 _ ih => exact .tup (s _ _ e) h1 h2 h3 ih
  | lst e h1 h2 _ ih => exact .lst (s _ _ e) h1 h2 ih
  | dc0 e => exact .dc0 (s _ _ e)
  | dc1 e _ ih => exact .dc1 (s _ _ e) ih
theorem DA.dd {H : Hp} {m : Bool} {v : V} {p : PyData} {d : Dt} (h : DA H m v p d) : DD H v d := by
  induction h with
  | str h => exact .str h
  | non => exact .non
  | bl b => exact .bl b
  | int i => exact .int i
  | tup e h1 h2 h3 _ ih => exact .tup e h2 h3 fun i a b => ih i a (by omega) b
  | lst e h1 h2 _ ih => exact .lst e
  | dc0 e => exact .dct e
  | dc1 e _ ih => exact .dct e
structure DB (H : Hp) (m : Bool) (v : V) (k n : Nat) : Prop where
  ex : ∃ p d, DA H m v p d ∧ p.depth ≤ k ∧ p.shown.length ≤ n ∧ p.showable = true
section
variable {H H' : Hp} {m : Bool} {v : V} {k n k' n' : Nat} {a : Addr} {xs : List V}
theorem DB.same (h : DB H m v k n) (s : Same H H') : DB H' m v k n := let ⟨p, d, h1, h2⟩ := h.ex; ⟨p, d, h1.same s, h2⟩
theorem DB.mono (h : DB H m v k n) (hk : k ≤ k') (hn : n ≤ n') : DB H m v k' n' := let ⟨p, d, h1, h2, h3, h4⟩ := h.ex; ⟨p, d, h1, by omega, by omega, h4⟩
theorem DB.str {z : Str} (h : Wd z) : DB H m (.str z) 0 202 := by
  refine ⟨.str z, .str z, .str (by have := h.1; omega), by simp [PyData.depth], ?_, by simp [PyData.showable]⟩
  simp only [PyData.shown]
  have := StrLaws.reprText_len z (fun c hc => Nat.lt_of_lt_of_le (h.2 c hc) (by decide))
  have := h.1
  omega
theorem DB.non : DB H m .non 0 202 := ⟨.none, .oth, .non, by simp [PyData.depth], by simp only [PyData.shown]; decide, by simp [PyData.showable]⟩
theorem DB.bl (b : Bool) : DB H m (.bl b) 0 202 := ⟨.bool b, .oth, .bl b, by simp [PyData.depth], by simp only [PyData.shown]; cases b <;> decide, by simp [PyData.showable]⟩
theorem DB.int {i : Int} (h1 : (toString i : Str).length ≤ 202) (h2 : i.natAbs.log2 < 1920) : DB H m (.int i) 0 202 := ⟨.int i, .oth, .int i, by simp [PyData.depth], by simpa only [PyData.shown] using h1, by simp [PyData.showable, h2]⟩
theorem db_all (h : ∀ x ∈ xs, DB H m x k n) : ∃ (ps : List PyData) (ds : List Dt), xs.length = ps.length ∧ xs.length = ds.length ∧ (∀ i (a : i < xs.length) (b : i < ps.length) (c : i < ds.length), DA H m xs[i] ps[i] ds[i]) ∧ PyData.depthAll ps ≤ k ∧ ((PyData.shownAll ps).map (·.length)).sum ≤ xs.length * n ∧ (PyData.shownAll ps).length = xs.length ∧ PyData.showableAll ps = true := by
  have hc : ∀ i : Fin xs.length, ∃ pd : PyData × Dt, DA H m xs[i.val] pd.1 pd.2 ∧ pd.1.depth ≤ k ∧ pd.1.shown.length ≤ n ∧ pd.1.showable = true := fun i => by
    obtain ⟨p, d, r⟩ := (h _ (List.getElem_mem i.isLt)).ex
    exact ⟨(p, d), r⟩
  obtain ⟨f, hf⟩ := Classical.axiomOfChoice hc
  have hm : ∀ q ∈ List.ofFn (fun i => (f i).1), q.depth ≤ k ∧ q.shown.length ≤ n ∧ q.showable = true := fun q hq => by
    obtain ⟨i, rfl⟩ := List.mem_ofFn.mp hq
    exact (hf i).2
  have e2 : PyData.shownAll (List.ofFn fun i => (f i).1) = (List.ofFn fun i => (f i).1).map PyData.shown := shownAll_eq_map _
  have h3 : (PyData.shownAll (List.ofFn fun i => (f i).1)).length = xs.length := by rw [e2]; simp
  refine ⟨List.ofFn fun i => (f i).1, List.ofFn fun i => (f i).2, by simp, by simp, fun i a b c => ?_, depthAll_le fun q hq => (hm q hq).1, ?_, h3, showableAll_of fun q hq => (hm q hq).2.2⟩
  · have := (hf ⟨i, a⟩).1
    simpa using this
  · have h2 := sum_le (ts := PyData.shownAll (List.ofFn fun i => (f i).1)) (n := n) fun t ht => by
      rw [e2] at ht
      obtain ⟨q, hq, rfl⟩ := List.mem_map.mp ht
      exact (hm q hq).2.1
    rw [h3] at h2
    exact h2
theorem DB.tup (e : H a = some (.tup xs)) (hl : xs.length ≤ 1000) (h : ∀ x ∈ xs, DB H m x k n) : DB H m (.ref a) (k + 1) (xs.length * (n + 2) + 3) := by
  obtain ⟨ps, ds, l1, l2, q, d1, d2, d3, d4⟩ := db_all h
  refine ⟨.tuple ps, .tup ds, .tup e l1 l2 hl q, by simp only [PyData.depth]; omega, ?_, by simpa only [PyData.showable] using d4⟩
  simp only [PyData.shown]
  have h1 := tupleText_len_le (PyData.shownAll ps)
  rw [d3] at h1
  rw [Nat.mul_add]; omega
theorem DB.lst (e : H a = some (.lst xs)) (h : ∀ x ∈ xs, DB H true x k n) : DB H true (.ref a) (k + 1) (xs.length * (n + 2) + 3) := by
  obtain ⟨ps, ds, l1, l2, q, d1, d2, d3, d4⟩ := db_all h
  refine ⟨.list ps, .oth, .lst e l1 l2 q, by simp only [PyData.depth]; omega, ?_, by simpa only [PyData.showable] using d4⟩
  simp only [PyData.shown]
  have h1 := listText_len_le (PyData.shownAll ps)
  rw [d3] at h1
  rw [Nat.mul_add]; omega
theorem DB.dc0 (e : H a = some (.dK [])) : DB H false (.ref a) 1 202 := ⟨.dict [], .oth, .dc0 e, by simp [PyData.depth, PyData.depthKv], by simp only [PyData.shown, PyData.shownKv]; decide, by simp [PyData.showable, PyData.showableKv]⟩
theorem DB.dc1 {z : Str} (e : H a = some (.dK [(.inr z, v)])) (hz : Wd z) (h : DB H false v k n) : DB H false (.ref a) (k + 1) (n + 300) := by
  obtain ⟨p, d, q, d1, d2, d3⟩ := h.ex
  refine ⟨.dict [(.str z, p)], .oth, .dc1 e q, by simp [PyData.depth, PyData.depthKv]; omega, ?_, by simp [PyData.showable, PyData.showableKv, d3]⟩
  simp only [PyData.shown, PyData.shownKv]
  have h1 := dictText_len_le [reprText z ++ ": " ++ p.shown]
  have h2 := StrLaws.reprText_len z (fun c hc => Nat.lt_of_lt_of_le (hz.2 c hc) (by decide))
  have h3 := hz.1
  have h4 : (": " : Str).length = 2 := rfl
  simp only [List.map_cons, List.map_nil, List.sum_cons, List.sum_nil, List.length_cons, List.length_nil, Str.length_append] at h1
  omega
end
section
variable {X : Cx}
end
end L2
set_option maxRecDepth 100000
namespace L2
open PySem PySem.Spec PyProof.Rows
def BB : Nat → Nat
  | 0 => 202
  | k + 1 => 4 * (BB k + 2) + 3
theorem BB_le : ∀ {k k' : Nat}, k ≤ k' → BB k ≤ BB k'
  | 0, 0, _ => Nat.le_refl _
  | k + 1, 0, h => absurd h (by omega)
  | k, k' + 1, h => by
    rcases Nat.lt_or_eq_of_le h with h | h
    · have := BB_le (show k ≤ k' by omega)
      show _ ≤ 4 * (BB k' + 2) + 3
      omega
    · subst h; exact Nat.le_refl _
section
variable {m : Bool} {σ : St} {H0 : Hp} {te : TE} {ta : TA} {k c : Nat}
theorem DB.up {H : Hp} {v : V} (h : DB H m v 0 202) : DB H m v k (BB k) := h.mono (Nat.zero_le _) (BB_le (Nat.zero_le k))
end
theorem DA.of {H : Hp} {m : Bool} {v : V} {d : Dt} (h : TX H v d) : ∀ {p : PyData}, TDen H v p → DA H m v p d := by
  induction h with
  | str h => intro p q; cases q; exact .str h
  | tup e hl hn _ ih =>
    intro p q
    cases q with
    | tup e' hl' q' =>
      rw [e] at e'
      cases e'
      exact .tup e hl' hl hn fun i a b c => ih i a c (q' i a b)
theorem DB.of {H : Hp} {m : Bool} {v : V} {d : Dt} {k n : Nat} (h : TX H v d) (t : TB H v k n) : DB H m v k n := by
  obtain ⟨p, h1, h2, h3, h4, _⟩ := t
  exact ⟨p, d, DA.of h h1, h2, h3, h4⟩
section
variable {X : Cx} {pos : Pos}
end
theorem inV_strs (y : Str) (zs : List Str) : inV (.str y) (zs.map V.str) = decide (y ∈ zs) := by
  rw [Bool.eq_iff_iff, decide_eq_true_iff]
  unfold inV
  rw [List.any_map, List.any_eq_true]
  constructor
  · rintro ⟨a, ha, e⟩
    have e' : (a == y) = true := e
    rw [← eq_of_beq e']; exact ha
  · intro h
    exact ⟨y, h, (beq_self_eq_true y : (y == y) = true)⟩
end L2
set_option maxRecDepth 100000
namespace L2
open PySem PySem.Spec PyProof.Rows
end L2
set_option maxRecDepth 100000
namespace L2
open PySem PySem.Spec PyProof.Rows
def Hd.mvs : Hd → List (List Str × Str)
  | .way x y => [(["from"], x), (["to"], y)]
  | .prs s ps => ps.map fun p => ([if s = "box" then "part" else "case", p.1], p.2)
  | _ => []
theorem mvs_in {ns : List Str} : ∀ {h : Hd}, h.ok ns → ∀ m ∈ h.mvs, m.2 ∈ ns
  | .one _, _, _, hm => nomatch hm
  | .as _, _, _, hm => nomatch hm
  | .way x y, ok, m, hm => by
    simp only [Hd.mvs, List.mem_cons, List.mem_nil_iff, or_false] at hm
    rcases hm with rfl | rfl
    · exact ok.2.2.1
    · exact ok.2.2.2
  | .prs s ps, ok, m, hm => by
    obtain ⟨p, hp, rfl⟩ := List.mem_map.mp hm
    exact (ok.2.1 p hp).2.2
structure MV (H : Hp) (xs : List V) (ms : List (List Str × Str)) : Prop where
  len : xs.length = ms.length
  at_ : ∀ i (h : i < xs.length) (h' : i < ms.length), ∃ c b, xs[i] = .ref c ∧ H c = some (.tup [.ref b, .str ms[i].2]) ∧ H b = some (.tup (ms[i].1.map V.str))
theorem MV.tk {H H' : Hp} {xs : List V} {ms : List (List Str × Str)} (h : MV H xs ms) (s : Tk H H') : MV H' xs ms := ⟨h.len, fun i a b => let ⟨c, d, h1, h2, h3⟩ := h.at_ i a b; ⟨c, d, h1, s _ _ h2, s _ _ h3⟩⟩
theorem MV.nil {H : Hp} : MV H [] [] := ⟨rfl, fun i h => absurd h (by simp)⟩
theorem MV.snoc {H : Hp} {xs : List V} {ms : List (List Str × Str)} (h : MV H xs ms) {c b : Addr} {m : List Str × Str} (e1 : H c = some (.tup [.ref b, .str m.2])) (e2 : H b = some (.tup (m.1.map V.str))) : MV H (xs ++ [.ref c]) (ms ++ [m]) := by
  have hl := h.len
  refine ⟨by simp [hl], fun i h1 h2 => ?_⟩
  by_cases hlt : i < xs.length
  · rw [List.getElem_append_left hlt, List.getElem_append_left (by omega)]
    exact h.at_ i hlt (by omega)
  · have e : i = xs.length := by simp at h1; omega
    subst e
    rw [List.getElem_append_right (Nat.le_refl _), List.getElem_append_right (by omega)]
    simp only [Nat.sub_self, hl, List.getElem_cons_zero]
    exact ⟨c, b, rfl, e1, e2⟩
def endOf (rows : List Rw2) (x : Str) : Str := rowEnd (nxOf rows) rows.length x
def onOf (rows : List Rw2) (x : Str) : List (List Str × Str) := (hdOf rows (endOf rows x)).mvs.map fun m => (m.1, endOf rows m.2)
theorem RT.endIn {H : Hp} {a : Addr} {xs : List V} {rows : List Rw2} {ns ws : List Str} (rt : RT H a xs rows ns ws) (hw : ∀ z ∈ ws, Wd z) {x : Str} (hx : x ∈ ns) : endOf rows x ∈ ns ∧ (hdOf rows (endOf rows x)).nx = none ∧ (hdOf rows (endOf rows x)).ok ns := by
  obtain ⟨rs, g, nm, rl, hv⟩ := rt.good hw
  have hm : ∀ z, z ∈ ns ↔ z ∈ rs.map (·.1) := fun z => by rw [nm]; exact rt.nm.mem_iff.symm
  obtain ⟨h1, h2⟩ := g.endIn ((hm x).mp hx)
  rw [rl] at h1 h2
  refine ⟨(hm _).mpr h1, h2, ?_⟩
  have h3 : endOf rows x ∈ rows.map (·.1) := by rw [← nm]; exact h1
  obtain ⟨r, hr, e⟩ := List.mem_map.mp h3
  rw [← e, hdOf_mem rt.ndr hr]
  exact (rt.ok r hr).2
end L2
set_option maxRecDepth 100000
namespace L2
open PySem PySem.Spec PyProof.Rows
structure KTup (K : PySem.W.Frag) (t : Addr × Obj × List V) : Prop where
  lk : K.lookup t.1 = some t.2.1
  ok : ∃ (its : List Value) (n : Nat), t.2.1.cls = .type "tuple" ∧ t.2.1.dict = none ∧ t.2.1.data = .seq its.toArray n ∧ Vals t.2.2 its ∧ t.2.2.length ≤ sizeLine
def without (K : PySem.W.Frag) (as : List Addr) : PySem.W.Frag := K.filter fun p => !as.contains p.1
theorem without_lookup {as : List Addr} {b : Addr} : ∀ {K : PySem.W.Frag}, (without K as).lookup b = if as.contains b = true then none else K.lookup b
  | [] => by unfold without; simp
  | (c, o) :: K => by
    have ih := without_lookup (as := as) (b := b) (K := K)
    unfold without at ih ⊢
    rw [List.filter_cons]
    by_cases hc : as.contains c = true
    · have h0 : ¬ (!as.contains (c, o).1) = true := by show ¬ (!as.contains c) = true; rw [hc]; decide
      rw [if_neg h0, ih]
      by_cases hb : as.contains b = true
      · rw [if_pos hb, if_pos hb]
      · have n : (b == c) = false := by
          cases e : b == c with
          | false => rfl
          | true => rw [eq_of_beq e] at hb; exact absurd hc hb
        rw [if_neg hb, if_neg hb, List.lookup_cons, n]
    · have h0 : (!as.contains (c, o).1) = true := by
        show (!as.contains c) = true
        cases q : as.contains c with
        | true => exact absurd q hc
        | false => rfl
      rw [if_pos h0, List.lookup_cons, List.lookup_cons, ih]
      cases e : b == c with
      | true =>
        have : ¬ as.contains b = true := by rw [eq_of_beq e]; exact hc
        show some o = if as.contains b = true then none else some o
        rw [if_neg this]
      | false => rfl
def Frzn (H : Hp) : Prop := ∀ b, H b = none ∨ ∃ o u, H b = some (.frz o u)
def hpOf (ts : List (Addr × Obj × List V)) (G : Hp) : Hp := fun b => match ts.find? fun t => decide (t.1 = b) with
  | some t => some (.frz t.2.1 (.tup t.2.2))
  | none => G b
theorem hpOf_mem {ts : List (Addr × Obj × List V)} {G : Hp} {t : Addr × Obj × List V} (h : t ∈ ts) (nd : (ts.map (·.1)).Nodup) : hpOf ts G t.1 = some (.frz t.2.1 (.tup t.2.2)) := by
  induction ts with
  | nil => cases h
  | cons a ts ih =>
    unfold hpOf
    rw [List.find?_cons]
    rw [List.map_cons, List.nodup_cons] at nd
    by_cases e : a.1 = t.1
    · rw [decide_eq_true e]
      rcases List.mem_cons.mp h with rfl | h
      · rfl
      · exact absurd (List.mem_map.mpr ⟨t, h, e.symm⟩) nd.1
    · rw [decide_eq_false e]
      rcases List.mem_cons.mp h with rfl | h
      · exact absurd rfl e
      · exact ih h nd.2
theorem hpOf_cases {ts : List (Addr × Obj × List V)} {G : Hp} {b : Addr} : (∃ t ∈ ts, t.1 = b ∧ hpOf ts G b = some (.frz t.2.1 (.tup t.2.2))) ∨ ((∀ t ∈ ts, t.1 ≠ b) ∧ hpOf ts G b = G b) := by
  unfold hpOf
  cases q : ts.find? fun t => decide (t.1 = b) with
  | some t =>
    have h1 := List.mem_of_find?_eq_some q
    have h2 := List.find?_some q
    exact .inl ⟨t, h1, of_decide_eq_true h2, rfl⟩
  | none =>
    refine .inr ⟨fun t ht e => ?_, rfl⟩
    have := List.find?_eq_none.mp q t ht
    simp [e] at this
theorem law_callT {P : Program} {w : World} {K : PySem.W.Frag} {mg mb : Str → Option Value} {CX : CXT} {k : Nat} {fa a : Addr} {fd : FuncData} {x : Str} {sp : Sp} {s₁ : Shared} {vs : List Value} {ns : List Int} {ts : List (Addr × Obj × List V)}
    (hts : ∀ t ∈ ts, KTup K t) (nd : (ts.map (·.1)).Nodup)
    (KX : K.In s₁.heap) (hns : s₁.heap.Ns mainGlobals mg) (hb : s₁.heap.Ns builtinsNs mb) (hbb : ∀ x : Str, x ≠ "__name__" → mb x = bootBuiltins x) (hlim : s₁.heap.NoLimit) (hg : s₁.gens = #[])
    (ha : s₁.heap.get? a = some { cls := .type "list", data := .seq vs.toArray }) (hi : IntsAre vs ns) (hl : ns.length ≤ sizeLine) (hr : Room k callerA)
    (F : ∀ base : Heap, (without K (ts.map (·.1))).In base → base.Ns mainGlobals mg → FnOk P w (without K (ts.map (·.1))) mg base CX k fa fd [x] sp) (hbind : ∀ (s : Shared) (u : Value), BindsTo s fd ⟨[u], []⟩ [(x, u)])
    (hsp : ∀ H : Hp, Frzn H → (∀ t ∈ ts, H t.1 = some (.frz t.2.1 (.tup t.2.2))) → SqL (without K (ts.map (·.1))) H a (ns.map V.int) → sp [.ref a] H (fun v _ => v = .bl true) fun _ _ _ => False)
    (hCX : ∀ H e s', CX [] H s₁ (fun _ _ _ => False) e s' → False) :
    codeAny (model P w) callerA (.call (.ref fa) ⟨[.ref a], []⟩) (fun r s' => r = .ok (.ret (.bool true)) ∧ OldK s₁.heap s'.heap ∧ s'.os = s₁.os ∧ AllBare s'.gens) s₁ := by
  have rv := vals_ints hi
  have lenV := hi.length
  have tob : ∀ t ∈ ts, s₁.heap.get? t.1 = some t.2.1 := fun t ht => KX _ _ (hts t ht).lk
  have nta : ∀ t ∈ ts, t.1 ≠ a := fun t ht e => by
    obtain ⟨its, n, h1, _⟩ := (hts t ht).ok
    have := tob t ht
    rw [e, ha] at this
    rw [← Option.some.inj this] at h1
    injection h1 with h2
    exact absurd h2 (by decide)
  have core : ∀ G : Hp, (∀ b, G b ≠ none → b = a) → (G a ≠ none → K.lookup a = none) → (∀ b, G b = none ∨ ∃ o u, G b = some (.frz o u)) → SqL (without K (ts.map (·.1))) (hpOf ts G) a (ns.map V.int) → (∀ u, G a = some u → ∀ H, ObjOk P w H s₁.heap a u) →
      codeAny (model P w) callerA (.call (.ref fa) ⟨[.ref a], []⟩) (fun r s' => r = .ok (.ret (.bool true)) ∧ OldK s₁.heap s'.heap ∧ s'.os = s₁.os ∧ AllBare s'.gens) s₁ := by
    intro G hG hK hF hS hO
    have trk : ∀ b, hpOf ts G b ≠ none → b = a ∨ ∃ t ∈ ts, t.1 = b := fun b q => by
      rcases hpOf_cases (ts := ts) (G := G) (b := b) with ⟨t, ht, e, _⟩ | ⟨_, e⟩
      · exact .inr ⟨t, ht, e⟩
      · rw [e] at q; exact .inl (hG b q)
    have frz : Frzn (hpOf ts G) := fun b => by
      rcases hpOf_cases (ts := ts) (G := G) (b := b) with ⟨t, ht, e, q⟩ | ⟨_, q⟩
      · exact .inr ⟨_, _, q⟩
      · rw [q]; exact hF b
    have hok : HOk P w (hpOf ts G) s₁.heap := fun b u q => by
      rcases hpOf_cases (ts := ts) (G := G) (b := b) with ⟨t, ht, e, q'⟩ | ⟨_, q'⟩
      · rw [q'] at q
        cases q
        obtain ⟨its, n, h1, h2, h3, h4, h5⟩ := (hts t ht).ok
        have o1 := tob t ht
        rw [e] at o1
        exact ⟨o1, ⟨h5, fun o z => by rw [o1] at z; cases z; exact h2⟩, its, h4, t.2.1, o1, h1, n, h3⟩
      · rw [q'] at q
        have e := hG b (by rw [q]; simp)
        subst e
        exact hO u q _
    have base_of : ∀ {b : Addr} {o : Obj}, s₁.heap.get? b = some o → hpOf ts G b = none → (hidT s₁.heap (hpOf ts G)).get? b = some o := fun e n => hidT_get e n
    have noA : ∀ {b : Addr} {o : Obj} {es : Array DictEntry} {ep : Nat}, s₁.heap.get? b = some o → o.data = .dict es ep → hpOf ts G b = none := fun {b o es ep} e d => by
      cases q : hpOf ts G b with
      | none => rfl
      | some u =>
        rcases trk b (by rw [q]; simp) with z | ⟨t, ht, z⟩
        · subst z
          rw [ha] at e; cases e
          cases d
        · have o1 := tob t ht
          rw [z, e] at o1
          cases o1
          obtain ⟨its, n, h1, h2, h3, _⟩ := (hts t ht).ok
          rw [d] at h3; cases h3
    have nsK : ∀ {b : Addr} {m : Str → Option Value}, s₁.heap.Ns b m → (hidT s₁.heap (hpOf ts G)).Ns b m := fun {b m} ⟨o, es, ep, e, d, r⟩ => ⟨o, es, ep, base_of e (noA e d), d, r⟩
    have hKb : (without K (ts.map (·.1))).In (hidT s₁.heap (hpOf ts G)) := fun b o e => by
      rw [without_lookup] at e
      by_cases hc : (ts.map (·.1)).contains b = true
      · rw [if_pos hc] at e; cases e
      · rw [if_neg hc] at e
        refine base_of (KX b o e) ?_
        cases q : hpOf ts G b with
        | none => rfl
        | some u =>
          rcases hpOf_cases (ts := ts) (G := G) (b := b) with ⟨t, ht, z, _⟩ | ⟨_, q'⟩
          · exact absurd (by rw [List.contains_iff_mem]; exact List.mem_map.mpr ⟨t, ht, z⟩) hc
          · rw [q'] at q
            have z := hG b (by rw [q]; simp)
            subst z
            rw [hK (by rw [q]; simp)] at e; cases e
    have hM : Mod (without K (ts.map (·.1))) mg (hidT s₁.heap (hpOf ts G)) := ⟨hKb, nsK hns, ⟨mb, nsK hb, hbb⟩, let ⟨mc, h1, h2⟩ := hlim; ⟨mc, nsK h1, h2⟩⟩
    have e0 : Env0 P w (without K (ts.map (·.1))) mg (hidT s₁.heap (hpOf ts G)) callerA [] s₁ (hpOf ts G) := ⟨rfl, hM, fun b o e => of_hidT e, Nat.le_of_eq (hidT_size _ _), trivial, fun b hb => absurd (show b ∈ ([] : List Addr) from hb) (by simp), hok, .of_eq hg⟩
    refine codeAny_mono ((F _ hKb (nsK hns)).run callerA [] s₁ (hpOf ts G) ⟨[.ref a], []⟩ [.ref a] [.ref a] _ _ hr e0 (hbind s₁ (.ref a)) (.cons rfl .nil) (hsp (hpOf ts G) frz (fun t ht => hpOf_mem ht nd) hS)) fun r s' h => ?_
    cases r with
    | error e => exact (hCX _ e s' h).elim
    | ok fl =>
      cases fl with
      | next => exact False.elim h
      | brk => exact False.elim h
      | cont => exact False.elim h
      | ret u =>
        obtain ⟨v, H', os, bare, un, hok', r', q⟩ := h
        have q' : v = .bl true := q
        subst q'
        obtain rfl : u = Value.bool true := r'
        refine ⟨rfl, OldK.of_keep fun b o e => ?_, os, bare⟩
        cases q : hpOf ts G b with
        | none => exact un.keep b o e q (by intro z; exact absurd (show b ∈ ([] : List Addr) from z) (by simp)) (by simp)
        | some u =>
          rcases frz b with z | ⟨ob, u', z⟩
          · rw [q] at z; cases z
          · have z2 := un.frzs b ob _ z
            obtain ⟨e1, _⟩ := hok b _ z
            obtain ⟨e2, _⟩ := hok' b _ z2
            rw [e] at e1; cases e1
            exact e2
  have nca : ¬ (ts.map (·.1)).contains a = true := fun h => by
    rw [List.contains_iff_mem] at h
    obtain ⟨t, ht, e⟩ := List.mem_map.mp h
    exact nta t ht e
  have hga : ∀ G : Hp, hpOf ts G a = G a := fun G => by
    rcases hpOf_cases (ts := ts) (G := G) (b := a) with ⟨t, ht, e, _⟩ | ⟨_, q⟩
    · exact absurd e (nta t ht)
    · exact q
  cases hk : K.lookup a with
  | some o =>
    have e := KX a o hk
    rw [ha] at e
    cases e
    exact core (fun _ => none) (fun b z => absurd rfl z) (fun z => absurd rfl z) (fun _ => .inl rfl) (.inr ⟨_, vs.toArray, _, by rw [without_lookup, if_neg nca]; exact hk, rfl, rfl, rfl, by rw [List.size_toArray, lenV]; exact hl, by simpa using rv⟩) fun u z => by cases z
  | none =>
    refine core (fun b => if b = a then some (.frz { cls := .type "list", data := .seq vs.toArray } (.lst (ns.map V.int))) else none) (fun b z => ?_) (fun _ => hk) (fun b => ?_) (.inl (.inr ⟨{ cls := .type "list", data := .seq vs.toArray }, by rw [hga]; exact if_pos rfl⟩)) fun u z H => ?_
    · by_cases hb : b = a
      · exact hb
      · exact absurd (if_neg hb) z
    · by_cases hb : b = a
      · exact .inr ⟨_, _, if_pos hb⟩
      · exact .inl (if_neg hb)
    · have z' := (if_pos rfl).symm.trans z
      cases z'
      exact ⟨ha, by rw [List.length_map]; exact hl, vs, _, rv, ha⟩
def adr (mg : Str → Option Value) (x : Str) : Addr := match mg x with
  | some (.ref a) => a
  | _ => 0
theorem adr_of {mg : Str → Option Value} {x : Str} {a : Addr} (h : mg x = some (.ref a)) : RelV (.ref (adr mg x)) (.ref a) := by
  unfold adr
  rw [h]
  exact rfl
def Kn (mg : Str → Option Value) (H : Hp) (x : Str) (ys : List V) : Prop := ∃ o, H (adr mg x) = some (.frz o (.tup ys))
theorem Kn.same {mg : Str → Option Value} {H H' : Hp} {x : Str} {ys : List V} (h : Kn mg H x ys) (s : Same H H') : Kn mg H' x ys := let ⟨o, e⟩ := h; ⟨o, s _ _ e⟩
theorem Kn.rd {mg : Str → Option Value} {H : Hp} {x : Str} {ys : List V} (h : Kn mg H x ys) : RdT H (adr mg x) ys := .inr h
theorem RdT.same {H H' : Hp} {b : Addr} {ys : List V} (h : RdT H b ys) (s : Same H H') : RdT H' b ys := h.imp (fun e => s _ _ e) fun ⟨o, e⟩ => ⟨o, s _ _ e⟩
structure SV (H : Hp) (xs : List V) (ss : List (List Str)) : Prop where
  len : xs.length = ss.length
  at_ : ∀ i (h : i < xs.length) (h' : i < ss.length), ∃ b, xs[i] = .ref b ∧ RdT H b (ss[i].map V.str)
theorem SV.keep {H H' : Hp} {xs : List V} {ss : List (List Str)} (h : SV H xs ss) (s : ∀ b ys, RdT H b ys → RdT H' b ys) : SV H' xs ss := ⟨h.len, fun i a b => let ⟨c, h1, h2⟩ := h.at_ i a b; ⟨c, h1, s _ _ h2⟩⟩
theorem SV.nil {H : Hp} : SV H [] [] := ⟨rfl, fun i h => absurd h (by simp)⟩
theorem SV.snoc {H : Hp} {xs : List V} {ss : List (List Str)} (h : SV H xs ss) {b : Addr} {m : List Str} (e : RdT H b (m.map V.str)) : SV H (xs ++ [.ref b]) (ss ++ [m]) := by
  have hl := h.len
  refine ⟨by simp [hl], fun i h1 h2 => ?_⟩
  by_cases hlt : i < xs.length
  · rw [List.getElem_append_left hlt, List.getElem_append_left (by omega)]
    exact h.at_ i hlt (by omega)
  · have e' : i = xs.length := by simp at h1; omega
    subst e'
    rw [List.getElem_append_right (Nat.le_refl _), List.getElem_append_right (by omega)]
    simp only [Nat.sub_self, hl, List.getElem_cons_zero]
    exact ⟨b, rfl, e⟩
end L2
set_option maxRecDepth 100000
namespace L2
open PySem PySem.Spec PyProof.Rows
section
variable {X : Cx} {tg iter kx vx : Expr} {ifs : List Expr} {sc : Scope} {pos : Pos} {own : List Str} {idx : List Nat} {N' : List Str} {wi : TI} {g : TG} {tc : TC} {tk tw : TE}
def tDCT (own : List Str) (idx : List Nat) (wi : TI) (g : TG) (tc : TC) (tk tw : TE) : TE := fun σ H Q => wi σ H fun J H1 => ∀ D, H1 D = none → ∃ W : Nat → Nat → St → Hp → Prop, (∃ m, W 0 m (stIn own idx σ) (upd H1 D (.dT []))) ∧ ∀ i m τ H, W i m τ H →
  (J.stop i H ∧ Q (.ref D) H) ∨ (J.go i H ∧ ∃ N : St → Hp → Prop, (∀ τ' H', N τ' H' → ∃ m', m' < m ∧ W (i + 1) m' τ' H') ∧ ∀ x H', J.yld i H x H' → g x τ H' fun τ2 H2 => tc τ2 H2 fun b H3 =>
    if b = true then tk τ2 H3 fun x H4 => tw τ2 H4 fun y H5 => ∃ kvs key b, x = .ref b ∧ RdT H5 b (key.map kV) ∧ H5 D = some (.dT kvs) ∧ kvs.length < sizeLine ∧ N τ2 (upd H5 D (.dT (putK kvs key y))) else N τ2 H3)
theorem comp_blockDT (S : CScope X.env.scope X.N sc own idx N') {cl : List (Str × Addr)} (c1 : ∀ x c, cl.lookup x = some c → X.env.cells.lookup x = some c) (c2 : ∀ y ∈ sc.names, y.2 = .free → ∃ c, cl.lookup y.1 = some c) (hc : X.calm = true) (hu : X.A.units < cLine)
    (hg : ∀ cl C s3 H0 fp pn, PG (cxComp X N' sc cl C s3 H0 fp pn) tg g) (ht : ∀ cl C s3 H0 fp pn, PC' (cxComp X N' sc cl C s3 H0 fp pn) ifs tc) (he : ∀ cl C s3 H0 fp pn, PE (cxComp X N' sc cl C s3 H0 fp pn) kx tk) (hv : ∀ cl C s3 H0 fp pn, PE (cxComp X N' sc cl C s3 H0 fp pn) vx tw)
    {pins : List (Addr × Obj)} {σ : St} {Q : VK} {itv : Value} {s2 : Shared} {RR : Value → Addr → Result → Shared → Prop} {E : Value → Shared → Prop}
    (hI : PIE X pins σ tg (fun J H1 => ∀ D, H1 D = none → ∃ W : Nat → Nat → St → Hp → Prop, (∃ m, W 0 m (stIn own idx σ) (upd H1 D (.dT []))) ∧ ∀ i m τ H, W i m τ H →
      (J.stop i H ∧ Q (.ref D) H) ∨ (J.go i H ∧ ∃ N : St → Hp → Prop, (∀ τ' H', N τ' H' → ∃ m', m' < m ∧ W (i + 1) m' τ' H') ∧ ∀ x H', J.yld i H x H' → g x τ H' fun τ2 H2 => tc τ2 H2 fun b H3 =>
        if b = true then tk τ2 H3 fun x H4 => tw τ2 H4 fun y H5 => ∃ kvs key b, x = .ref b ∧ RdT H5 b (key.map kV) ∧ H5 D = some (.dT kvs) ∧ kvs.length < sizeLine ∧ N τ2 (upd H5 D (.dT (putK kvs key y))) else N τ2 H3)) itv s2)
    (hRR : ∀ D C H' s', Inv X pins σ H' s' → Q (.ref D) H' → (H' C = none ∧ C ≠ X.env.locals ∧ X.s₀.heap.objs.size ≤ C ∧ (∀ x c, X.env.cells.lookup x = some c → c ≠ C) ∧ (∀ p ∈ X.pn ++ pins, p.1 ≠ C) ∧ ∃ m, s'.heap.Ns C m) → RR (.ref D) C (.ok .next) s') :
    wpAny (model X.prog X.w) X.A newDict (fun acc s₃ => wpAny (model X.prog X.w) X.A (newFunctionEnv sc X.env.globals cl [] X.env.qual none .none (some X.env)) (fun cenv s₄ =>
      codeAny (model X.prog X.w) X.A (.compStart (.DictComp kx vx [⟨tg, iter, ifs, 0⟩] sc pos) 0 itv acc { cenv with scope := relabel sc X.env }) (RR acc cenv.locals) s₄) E s₃) E s2 := by
  obtain ⟨it, fp, tn, J, H2, rfl, I, T, st2, f2, body⟩ := hI
  refine wpAny_newObj_type (wpAny_newFunctionEnv S.cell (by intro y hy; simp at hy) (fun h4 ns sb => ?_) S.kind)
  dsimp only at ns sb ⊢
  have hob : dob.isFreed = false := rfl
  have fr : H2 s2.heap.objs.size = none := I.hok.fresh (Nat.le_refl _)
  obtain ⟨W, ⟨m0, w0⟩, turn⟩ := body _ fr
  have hfo : ∀ b ∈ fp, ∃ o, s2.heap.get? b = some o := fun b hb => let ⟨o, e, _⟩ := T.obj _ _ st2 b hb; ⟨o, e⟩
  have sb' : ∀ b o, (s2.heap.push dob).get? b = some o → h4.get? b = some o := fun b o e => (sb.2 b (Nat.ne_of_lt (Heap.lt_size e))).trans (Heap.get?_push_of_some _ e)
  have hDo : ∀ (H : Hp) (h : Heap), h.get? s2.heap.objs.size = some dob → ObjOk X.prog X.w H h s2.heap.objs.size (.dT []) := fun H h e => ⟨Nat.zero_le _, beq_eq_false_iff_ne.mpr (Ne.symm (Nat.ne_of_lt I.big)), [], .nil, _, #[], 0, e, ⟨rfl, rfl, rfl⟩, rfl, rfl, List.nodup_nil⟩
  have I4 : Inv (cxComp X N' sc cl (s2.heap.push dob).objs.size { s2 with heap := s2.heap.push dob } (upd H2 s2.heap.objs.size (.dT [])) fp (X.pn ++ pins)) [] (stIn own idx σ) (upd H2 s2.heap.objs.size (.dT [])) { s2 with heap := h4, toks := s2.toks + ([] : List (Str × Value)).length } :=
    inv_comp S I f2 hfo c1 c2 hob hDo ns sb'
  -- the block's own context
  generalize hY : cxComp X N' sc cl (s2.heap.push dob).objs.size { s2 with heap := s2.heap.push dob } (upd H2 s2.heap.objs.size (.dT [])) fp (X.pn ++ pins) = Y at I4
  have hgY : PG Y tg g := by rw [← hY]; exact hg _ _ _ _ _ _
  have htY : PC' Y ifs tc := by rw [← hY]; exact ht _ _ _ _ _ _
  have heY : PE Y kx tk := by rw [← hY]; exact he _ _ _ _ _ _
  have hvY : PE Y vx tw := by rw [← hY]; exact hv _ _ _ _ _ _
  have pY : Y.prog = X.prog := by rw [← hY]
  have wY : Y.w = X.w := by rw [← hY]
  have KY : Y.K = X.K := by rw [← hY]
  have AY : Y.A = X.A := by rw [← hY]
  have cY : Y.calm = true := by rw [← hY]; exact hc
  have xY : Y.xe = fun _ _ => False := by rw [← hY]
  have eY : Y.env = compEnvC sc cl (s2.heap.push dob).objs.size X.env := by rw [← hY]
  have exY : Y.ex = fp := by rw [← hY]
  have fsY : Y.fs = frs X.stack := by rw [← hY]
  have pnY : Y.pn = X.pn ++ pins := by rw [← hY]
  have stat : ∀ {H' : Hp}, (∀ b ∈ fp, H' b = none) → ∀ b ∈ fp, FpOk Y [] H' b := fun hn b hb => by
    obtain ⟨f0, f1, f3, f4, f5, f6⟩ := f2 b hb
    refine ⟨hn b hb, ?_, ?_, .inl (by rw [exY]; exact hb), fun x c e => ?_, fun p hp => ?_⟩
    · obtain ⟨o, e⟩ := hfo b hb
      have := Heap.lt_size e
      rw [eY]
      show b ≠ (s2.heap.push dob).objs.size
      rw [Heap.size_push]; exact Nat.ne_of_lt (Nat.lt_succ_of_lt this)
    · rw [fsY]
      intro z
      rcases List.mem_cons.mp (I.stkSub b z) with z | z
      · exact f1 z
      · exact f3 z
    · rw [eY] at e
      exact f5 x c (c1 x c e)
    · rw [pnY, List.append_nil] at hp
      exact f6 p hp
  have st4 : tn 0 h4 := T.keep _ _ _ st2 fun b hb o e => sb' b o (Heap.get?_push_of_some _ e)
  have fr4 : ∀ b ∈ fp, upd H2 s2.heap.objs.size (.dT []) b = none := fun b hb => by
    obtain ⟨o, e⟩ := hfo b hb
    rw [upd_ne (Nat.ne_of_lt (Heap.lt_size e))]
    exact (f2 b hb).1
  have loop : codeAny (model X.prog X.w) X.A (.compLoop (.DictComp kx vx [⟨tg, iter, ifs, 0⟩] sc pos) 0 (.ref it) (.ref s2.heap.objs.size) (compEnvC sc cl (s2.heap.push dob).objs.size X.env))
      (RR (.ref s2.heap.objs.size) (s2.heap.push dob).objs.size) { s2 with heap := h4, toks := s2.toks + ([] : List (Str × Value)).length } := by
    refine compLoopD (fun n s' => ∃ i τ H', Inv Y [] τ H' s' ∧ tn i s'.heap ∧ (∀ b ∈ fp, H' b = none) ∧ W i n τ H') ?_ m0 ⟨0, _, _, I4, st4, fr4, w0⟩
    rintro n s3 ⟨i, τ3, H3, I3, st3, fr3, w3⟩
    rcases turn i n τ3 H3 w3 with ⟨stop, qn⟩ | ⟨go, N, hN, step⟩
    · have h := T.done Y pY wY KY cY i [] s3 τ3 H3 NoE I3 (stat fr3) st3 stop
      rw [AY] at h
      refine thn h ?_
      rintro r s4 ⟨hr, I4'⟩
      subst hr
      have J4 := I4'
      rw [← hY] at J4
      obtain ⟨b1, b2⟩ := comp_back I f2 hob J4
      exact hRR _ _ _ _ b1 qn b2
    · have h := T.item Y pY wY KY cY i [] s3 τ3 H3 NoE I3 (stat fr3) st3 go
      rw [AY] at h
      refine thn h ?_
      rintro r s4 ⟨u, hr, h4'⟩
      subst hr
      refine thn h4' ?_
      rintro _ s5 ⟨x, H5, I5, r5, y5, st5, fr5⟩
      have I5' := I5.pinned (stat fr5) (T.obj _ _ st5)
      have g5 := hgY _ s5 τ3 H5 x u _ I5' r5 (step x H5 y5)
      rw [pY, wY, AY, xY, eY] at g5
      refine thn g5 ?_
      rintro _ s6 ⟨τ6, H6, I6, q6⟩
      have t6 := htY _ s6 τ6 H6 _ I6 q6
      rw [pY, wY, AY, xY, eY] at t6
      refine thn t6 ?_
      rintro ok s7 ⟨H7, I7, q7⟩
      have again : ∀ {τ8 : St} {H8 : Hp} {s8 : Shared}, Inv Y ([] ++ pinsAt fp s5.heap) τ8 H8 s8 → N τ8 H8 → ∃ m, m < n ∧ ∃ i τ' H', Inv Y [] τ' H' s8 ∧ tn i s8.heap ∧ (∀ b ∈ fp, H' b = none) ∧ W i m τ' H' := fun {τ8 H8 s8} I8 n8 => by
        obtain ⟨m', hm, w8⟩ := hN τ8 H8 n8
        refine ⟨m', hm, i + 1, τ8, H8, I8.unpinned, T.keep _ _ _ st5 fun b hb o e => (I8.pin (b, o) (List.mem_append_right _ (List.mem_append_right _ (mem_pinsAt hb e)))).1, fun b hb => ?_, w8⟩
        obtain ⟨o, e, d⟩ := T.obj _ _ st5 b hb
        exact (I8.pin (b, o) (List.mem_append_right _ (List.mem_append_right _ (mem_pinsAt hb e)))).2.1
      cases ok with
      | false =>
        rw [if_neg (by decide)] at q7 ⊢
        exact again I7 q7
      | true =>
        rw [if_pos rfl] at q7 ⊢
        have e7 := heY _ s7 τ6 H7 _ I7 q7
        rw [pY, wY, AY, xY, eY] at e7
        refine thn e7 ?_
        rintro kv s8 ⟨x8, H8, I8, r8, q8⟩
        have v8 := hvY _ s8 τ6 H8 _ I8 q8
        rw [pY, wY, AY, xY, eY] at v8
        refine thn v8 ?_
        rintro yv s9 ⟨y9, H9, I9, r9, kvs, key, b9, ek, eb, hD9, hz, n9⟩
        subst ek
        cases (show kv = Value.ref b9 from r8)
        obtain ⟨z, hd, xs, rel, dd⟩ := dt_of I9.hok hD9
        have hzz : xs.length ≤ sizeLine := by rw [← Paired.length rel]; exact z
        have hlen : (putK kvs key y9).length ≤ sizeLine := by have := length_putK kvs key y9; omega
        have hky := key_of I9.hok eb
        rw [pY, wY] at dd hky
        refine wpAny_dictSet_heap (hsz := hzz) hu hky dd fun h' dd' hs => ?_
        rw [← pY, ← wY] at dd'
        obtain ⟨q, es, ep, hq, h2, h3, h4, _, h5⟩ := dd'
        have I10 := d_write (t' := s9.toks + (tupleKind (mixKind X.prog X.w)).draws key) (ob := .dT (putK kvs key y9)) I9 (by rw [hD9]; exact True.intro) hs ⟨q, hq⟩ ⟨hlen, hd, _, (rel.put key eb r9).keeps fun c ys ec => ec.upd fun u hu z => by subst z; rcases ec with ec | ⟨_, ec⟩ <;> (rw [hD9] at ec; cases ec), q, es, ep, hq, h2, h3, h4, h5⟩
        exact again I10 n9
  exact codeAny_compStart_dict loop (T.self _ 0 _ _ _ st4 loop)
theorem pe_dcT (S : CScope X.env.scope X.N sc own idx N') (hc : X.calm = true) (hu : X.A.units < cLine) (hi : PI X tg iter wi)
    (hg : ∀ cl C s3 H0 fp pn, PG (cxComp X N' sc cl C s3 H0 fp pn) tg g) (ht : ∀ cl C s3 H0 fp pn, PC' (cxComp X N' sc cl C s3 H0 fp pn) ifs tc) (he : ∀ cl C s3 H0 fp pn, PE (cxComp X N' sc cl C s3 H0 fp pn) kx tk) (hv : ∀ cl C s3 H0 fp pn, PE (cxComp X N' sc cl C s3 H0 fp pn) vx tw)
    (hs : ∀ x, foldedSetIterable iter X.env x = pure x := by intro _; rfl) : PE X (.DictComp kx vx [⟨tg, iter, ifs, 0⟩] sc pos) (tDCT own idx wi g tc tk tw) := by
  intro pins s σ H Q I h
  obtain ⟨cl, hcl, c1, c2⟩ := S.closure I.ok
  show wpAny _ X.A (comprehension (.DictComp kx vx [⟨tg, iter, ifs, 0⟩] sc pos) sc X.env _ newDict false (eval iter X.env)) _ _ s
  refine wpAny_comprehension_free (use := none) rfl hs hcl S.kind S.names (thn (hi pins s σ H _ I h) fun v s1 h1 => thn h1 fun itv s2 h2 => ?_)
  refine comp_blockDT (Q := Q) (pins := pins) (σ := σ) (RR := fun acc C => compPost (model X.prog X.w) X.A X.xe none (EP X pins σ Q) acc C) S c1 c2 hc hu hg ht he hv h2 ?_
  intro D C H' s' I' q ⟨a1, a2, a3, a4, a5, m, a6⟩
  exact ⟨m, a6, fun h' sb => ⟨.ref D, H', I'.turned (t' := s'.toks) (fun b o hb e => (sb.2 b hb).trans e) a1 (Ne.symm (Ne.symm a2)) (.inr a3) a4 a5, rfl, q⟩⟩
theorem z_dcT (S : CScope X.env.scope X.N sc own idx N') (hc : X.calm = true) (hu : X.A.units < cLine) (hi : SI X tg iter wi)
    (hg : ∀ cl C s3 H0 fp pn, SG (cxComp X N' sc cl C s3 H0 fp pn) tg g) (ht : ∀ cl C s3 H0 fp pn, SC (cxComp X N' sc cl C s3 H0 fp pn) ifs tc) (he : ∀ cl C s3 H0 fp pn, SE (cxComp X N' sc cl C s3 H0 fp pn) kx tk) (hv : ∀ cl C s3 H0 fp pn, SE (cxComp X N' sc cl C s3 H0 fp pn) vx tw)
    (hs : ∀ x, foldedSetIterable iter X.env x = pure x := by intro _; rfl) : SE X (.DictComp kx vx [⟨tg, iter, ifs, 0⟩] sc pos) (tDCT own idx wi g tc tk tw) :=
  ⟨pe_dcT S hc hu hi.h (fun q r s t u v => (hg q r s t u v).h) (fun q r s t u v => (ht q r s t u v).h) (fun q r s t u v => (he q r s t u v).h) (fun q r s t u v => (hv q r s t u v).h) hs⟩
end
end L2
set_option maxRecDepth 100000
namespace L2
open PySem PySem.Spec PyProof.Rows
def ClT (K : PySem.W.Frag) (mg : Str → Option Value) (x q : Str) (st : Stmt) (ps fs : List Str) (C : Addr) : Prop :=
  mg x = some (.ref C) ∧ Cls K C ∧ (∀ f ∈ fs, NoAttr K C f) ∧ ∃ (f : Addr) (fd : FuncData), Mk K C f ∧ Fun K "__init__" q st f fd ∧ Binds K fd ps []
def ClK (P : Program) (w : World) (K : PySem.W.Frag) (mg : Str → Option Value) (base : Heap) (k : Nat) (x : Str) (C : Addr) (ps : List Str) (sp : Sp) : Prop :=
  mg x = some (.ref C) ∧ ∃ (f : Addr) (fd : FuncData), Mk K C f ∧ FnOk P w K mg base CX0 k f fd ps sp ∧ Binds K fd ps []
section
variable {X : Cx} {e o value : Expr} {es : List Expr} {te ta tv : TE} {t : TA} {f x : Str} {pos pos' p : Pos} {C : Addr} {k : Nat} {ps : List Str} {sp : Sp}
theorem z_fld (K : PySem.W.Frag) (he : SE X e te) (h : X.K = K := by rfl) (hb : attributeBase e f X.env (eval e X.env) = eval e X.env := by rfl) : SE X (.Attribute e f pos) (tFld K te f) := by subst h; exact ⟨pe_fld he.h hb⟩
theorem s_fld (K : PySem.W.Frag) (ha : SE X o ta) (hv : SE X value tv) (h : X.K = K := by rfl) (hs : swapsWith value (some (.Attribute o f pos')) pos.line X.env = pure false := by rfl) : SS X (.Assign [.Attribute o f pos'] value pos) (sFld K ta tv f) := by subst h; exact ⟨ps_fld ha.h hv.h hs⟩
theorem z_make (F : ClK X.prog X.w X.K X.mg X.base k x C ps sp) (hr : Room (k + 1) X.A) (ha : SA X (e :: es) t) (hg : Gl X x := by rfl) (hdb : (x == ("__debug__" : Str)) = false := by decide)
    (he : starEach (e :: es) X.env = (false, eval e X.env) :: starEach es X.env := by rfl) (hpl : (backTo pos (starEach es X.env)).any (·.1) = false := by rfl) :
    SE X (.Call (.Name x p) (e :: es) [] pos) (tMake C sp [] E0 t) := by
  obtain ⟨m, f, fd, M, G, b⟩ := F
  exact ⟨pe_make M G hr hg m b .nil pass0 ha.h hdb he hpl⟩
end
theorem ClT.okS {P : Program} {w : World} {K : PySem.W.Frag} {mg : Str → Option Value} {base : Heap} {x q : Str} {st : Stmt} {N ps fs : List Str} {k : Nat} {sp : Sp} {C : Addr} (F : ClT K mg x q st ps fs C) (S : FnScope N ps (defScope st)) (len : ∀ vs H Q E, sp vs H Q E → vs.length = ps.length)
    (hbody : ∀ (f : Addr) (cdv : Value) (A : Around) (outer : List Env) (s : Shared) (H : Hp) (vs : List V) (Q : VK) (E : XK), Room k (A.deeper (envOfC q (defScope st) s.heap.objs.size f cdv)) → sp vs H Q E →
      ∃ t, SB (cxOf CX0 P w K mg base N q (defScope st) f cdv A outer s H E).nox (defBody st) t ∧ t { nx := fun _ H' => Q .non H', rt := Q } (start N vs) H) : ClK P w K mg base (k + 1) x C ps sp := by
  obtain ⟨m, _, _, f, fd, M, Fu, b⟩ := F
  exact ⟨m, f, fd, M, Fu.ok S len fun cdv A outer s H vs Q E hr h => let ⟨t, h1, h2⟩ := hbody f cdv A outer s H vs Q E hr h; ⟨t, h1.h, h2⟩, b⟩
section
variable {X : Cx}
theorem Inv.freezeT {pins : List (Addr × Obj)} {σ : St} {H : Hp} {s : Shared} {a : Addr} {kvs : List (List Key × V)} (I : Inv X pins σ H s) (h : Rd H a (.dT kvs)) : ∃ o, Inv X pins σ (upd H a (.frz o (.dT kvs))) s := by
  rcases h with h | ⟨o, h⟩
  · have ok := (show ObjOk X.prog X.w H s.heap a (.dT kvs) from I.hok a _ h)
    obtain ⟨z, hd, xs, rel, o, es, ep, h1, h2, h3, h4, h5⟩ := ok
    refine ⟨o, I.write (x := a) (e := a) (h' := s.heap) (t' := s.toks) (o := .frz o (.dT kvs)) (by rw [h]; exact True.intro) (.inl rfl) (fun b u _ q => q) ⟨o, h1⟩ ⟨h1, z, hd, xs, ?_, o, es, ep, h1, h2, h3, h4, h5⟩⟩
    exact (show KT H kvs xs from rel).keeps fun c ys ec => ec.upd fun u hu z => by subst z; rcases ec with ec | ⟨_, ec⟩ <;> (rw [h] at ec; cases ec)
  · exact ⟨o, by rw [upd_self h]; exact I⟩
def tFrz (te : TE) : TE := fun σ H Q => te σ H fun x H1 => ∃ a, x = .ref a ∧ ((∃ kvs, Rd H1 a (.dK kvs) ∧ ∀ o, Q x (upd H1 a (.frz o (.dK kvs)))) ∨ ∃ kvs, Rd H1 a (.dT kvs) ∧ ∀ o, Q x (upd H1 a (.frz o (.dT kvs))))
theorem z_frz {e : Expr} {te : TE} (he : SE X e te) : SE X e (tFrz te) := by
  constructor
  intro pins s σ H Q I h
  refine thn (he.h pins s σ H _ I h) ?_
  rintro v s1 ⟨x, H1, I1, r1, a, ex, q⟩
  rcases q with ⟨kvs, hr, q⟩ | ⟨kvs, hr, q⟩
  · obtain ⟨o, es, ep, hd, I2, ho⟩ := I1.freeze hr
    exact ⟨x, _, I2, r1, q o⟩
  · obtain ⟨o, I2⟩ := I1.freezeT hr
    exact ⟨x, _, I2, r1, q o⟩
end
def valAt (kvs : List (Key × V)) (i : Nat) : V := ((kvs[i]?).map fun kv => kv.2).getD .non
def Iti (a : Addr) (o : Obj) (kvs : List (Key × V)) : It := ⟨fun i H => H a = some (.frz o (.dK kvs)) ∧ i < kvs.length, fun i H x H' => pairY (keyAt kvs i) (valAt kvs i) H x H', fun i H => H a = some (.frz o (.dK kvs)) ∧ kvs.length = i⟩
theorem itp_items {a : Addr} {o : Obj} (kvs : List (Key × V)) : ItP (Iti a o kvs) (fun H => H a = some (.frz o (.dK kvs))) kvs.length (keyAt kvs) (valAt kvs) := fun H ok => ⟨fun i hi => ⟨⟨ok, hi⟩, fun x H' h => h⟩, ok, rfl⟩
theorem kv_get2 {kvs : List (Key × V)} {vs : List (Key × Value)} (r : KV kvs vs) : ∀ {i : Nat} {p : Key × V}, kvs[i]? = some p → ∃ q, vs[i]? = some q ∧ q.1 = p.1 ∧ RelV p.2 q.2 := by
  intro i
  induction r generalizing i with
  | nil => intro p h; simp at h
  | cons a t ih =>
    intro p h
    cases i with
    | zero => simp at h; subst h; exact ⟨_, by simp, a.1.symm, a.2⟩
    | succ i => simp at h; simpa using ih h
theorem turn_items {P : Program} {w : World} {K : PySem.W.Frag} {elts : List Expr} {k : Nat} {pos : Pos} {a it : Addr} {o : Obj} {kvs : List (Key × V)} {ep : Nat} (hai : a ≠ it) (hep : ∃ es, o.data = .dict es ep) :
    Turn P w K (.Tuple elts k pos) (Iti a o kvs) [it] it (fun i h => ∃ ok ov, IsItemIter h it a i kvs.length ep ok ov) where
  mem := by simp
  obj := fun i h st b hb => by
    have e : b = it := by simpa using hb
    subst e
    obtain ⟨ok, ov, he⟩ := st
    exact ⟨_, he, fun v z => by
      have z' : Data.fields _ = Data.cell v := z
      cases z'⟩
  keep := fun i h h' st k => let ⟨ok, ov, he⟩ := st; ⟨ok, ov, k it (by simp) _ he⟩
  item := by
    intro X hP hw hK hc i pins s σ H E I hf st hg
    subst hP hw hK
    obtain ⟨ok, ov, he⟩ := st
    obtain ⟨hq, hi⟩ := hg
    obtain ⟨e, z, hd, vs, rel, ob, es, ep', h1, h2, h3, h4⟩ := (show ObjOk X.prog X.w H s.heap a (.frz o (.dK kvs)) from I.hok a _ hq)
    obtain ⟨es', he'⟩ := hep
    rw [e] at h1; cases h1
    rw [he'] at h3; injection h3 with h3a h3b
    subst h3a h3b
    obtain ⟨q, hq1, hq2, hq3⟩ := kv_get2 rel (List.getElem?_eq_getElem hi)
    have hl := rel.len
    obtain ⟨qk, qv⟩ := q
    refine wpAny_pyNext_items_item (knd := mixKind X.prog X.w) (kvs := vs) (ep := ep) (ok := ok) (ov := ov) (by rw [← hl]; exact he) ⟨o, es', e, h2, he', h4⟩ hq1 fun key h' hk ho hT hsz hkp => ?_
    have rk : RelV (keyAt kvs i) key := by
      unfold keyAt
      rw [List.getElem?_eq_getElem hi]
      show RelV (kV kvs[i].1) key
      have hqk : qk = kvs[i].1 := hq2
      rw [← hqk]
      exact relV_key hk
    have rv : RelV (valAt kvs i) qv := by
      unfold valAt
      rw [List.getElem?_eq_getElem hi]
      exact hq3
    have I1 : Inv X pins σ (upd H s.heap.objs.size (.tup [keyAt kvs i, valAt kvs i])) { s with heap := h' } := I.turnedT (t' := s.toks) hf (fun b o hb e => hkp b o (fun z => hb (by simp [z])) e) (Nat.le_refl _) (tup2_ok rk rv hT)
    refine ⟨_, rfl, wpAny_letOwnedTupleGo_items (s := { s with heap := h' }) ho fun h'' he'' sb => ?_⟩
    have hlt : it ≠ s.heap.objs.size := Nat.ne_of_lt (Heap.lt_size he)
    obtain ⟨f0, f1, f2, f3, f4, f5⟩ := hf it (by simp)
    have f0' : upd H s.heap.objs.size (.tup [keyAt kvs i, valAt kvs i]) it = none := by rw [upd_ne hlt]; exact f0
    refine ⟨.ref s.heap.objs.size, _, I1.turned (t' := s.toks) (fun b o hb q => (sb.2 b hb).trans q) f0' f1 f3 f4 f5, rfl, ⟨_, rfl, I.hok.fresh (Nat.le_refl _), rfl⟩, ⟨_, _, by rw [hl]; exact he''⟩, fun b hb => ?_⟩
    have e : b = it := by simpa using hb
    subst e
    exact f0'
  done := by
    intro X hP hw hK hc i pins s σ H E I hf st hg
    subst hP hw hK
    obtain ⟨ok, ov, he⟩ := st
    obtain ⟨hq, hi⟩ := hg
    obtain ⟨e, z, hd, vs, rel, ob, es, ep', h1, h2, h3, h4⟩ := (show ObjOk X.prog X.w H s.heap a (.frz o (.dK kvs)) from I.hok a _ hq)
    obtain ⟨es', he'⟩ := hep
    rw [e] at h1; cases h1
    rw [he'] at h3; injection h3 with h3a h3b
    subst h3a h3b
    have hl := rel.len
    obtain ⟨f0, f1, f2, f3, f4, f5⟩ := hf it (by simp)
    exact wpAny_pyNext_items_end (knd := mixKind X.prog X.w) (kvs := vs) (ep := ep) (ok := ok) (ov := ov) (I.ok.hd hc) (by rw [← hl]; exact he) ⟨o, es', e, h2, he', h4⟩ (by simp; omega) fun h' eb => ⟨rfl, I.turned (t' := s.toks) (fun b o hb e => eb b o hb e) f0 f1 f3 f4 f5⟩
  self := fun _ _ _ _ _ st h => let ⟨_, _, he⟩ := st; PySem.W.kcp_self he h
section
variable {X : Cx} {elts : List Expr} {k : Nat} {tpos apos cpos : Pos} {o : Expr} {to : TE}
def iItems (te : TE) : TI := fun σ H R => te σ H fun x H1 => ∃ a kvs, x = .ref a ∧ ((∃ o, H1 a = some (.frz o (.dK kvs)) ∧ R (Iti a o kvs) H1) ∨ (H1 a = some (.dK kvs) ∧ ∀ o, R (Iti a o kvs) (upd H1 a (.frz o (.dK kvs)))))
theorem pi_items (ho : SE X o to) (hbase : attributeBase o "items" X.env (eval o X.env) = eval o X.env := by rfl) (hline : (apos.endLine == cpos.line) = true := by rfl) :
    SI X (.Tuple elts k tpos) (.Call (.Attribute o "items" apos) [] [] cpos) (iItems to) := by
  constructor
  intro pins s σ H R I h
  refine wpAny_Call_method0_late hbase hline (thn (ho.h pins s σ H _ I h) ?_)
  rintro v s1 ⟨x, H1, I1, r1, a, kvs, ex, hr⟩
  subst ex
  cases r1
  obtain ⟨o, H2, I2, hH2, q⟩ : ∃ (o : Obj) (H2 : Hp), Inv X pins σ H2 s1 ∧ H2 a = some (.frz o (.dK kvs)) ∧ R (Iti a o kvs) H2 := by
    rcases hr with ⟨o, e, q⟩ | ⟨e, q⟩
    · exact ⟨o, H1, I1, e, q⟩
    · obtain ⟨o, _, _, _, I2, _⟩ := I1.freeze (.inl e)
      exact ⟨o, _, I2, upd_same, q o⟩
  obtain ⟨e, z, hdm, vs, rel, ob, es, ep, h1, h2, hd, h4⟩ := (show ObjOk X.prog X.w _ s1.heap a (.frz o (.dK kvs)) from I2.hok a _ hH2)
  rw [e] at h1; cases h1
  have hl := rel.len
  have hT : s1.TypeIs (.ref a) "dict" := ⟨o, e, h2.1⟩
  refine ⟨"dict", "dict.items", PySem.F.plainAttrs_dict, PySem.F.slot_dict_items, PySem.F.type_dict_items, hT, fun b hb => by cases hb; exact ⟨o, e, h2.2.1⟩, Calls.callWith_builtin rfl (PySem.evalArgs_none ?_)⟩
  refine call_meetsIn PySem.F.slot_dict_items hT PySem.F.entry_dict_items (PySem.F.args_dict_items_1 _) (meets_dict_items (mixKind X.prog X.w) a hdm) ⟨⟨vs, o, es, ep, e, h2, hd, h4⟩, ?_⟩
  have I3 : Inv X pins σ H2 { s1 with heap := s1.heap.push { cls := .type "dict_items", data := .fields #[.ref a] } } := I2.kept (t' := s1.toks) fun b o e => Heap.get?_push_of_some _ e
  refine wpAny_pyIter_items (knd := mixKind X.prog X.w) (kvs := vs) (ep := ep) ⟨_, Heap.get?_push_size _ rfl, rfl, rfl⟩ ⟨o, es, Heap.get?_push_of_some _ e, h2, hd, h4⟩ ?_
  have hne : a ≠ (s1.heap.push { cls := .type "dict_items", data := .fields #[.ref a] }).objs.size := by
    rw [Heap.size_push]; exact Nat.ne_of_lt (Nat.lt_succ_of_lt (Heap.lt_size e))
  refine ⟨_, [(s1.heap.push { cls := .type "dict_items", data := .fields #[.ref a] }).objs.size], _, _, _, rfl, I3.kept (t' := s1.toks) fun b o e => Heap.get?_push_of_some _ e, turn_items (kvs := kvs) (a := a) (o := o) hne ⟨es, hd⟩, ⟨.none, .none, by rw [hl]; exact Heap.get?_push_size _ rfl⟩, fun b hb => ?_, q⟩
  have e : b = (s1.heap.push { cls := .type "dict_items", data := .fields #[.ref a] }).objs.size := by simpa using hb
  subst e
  exact I3.fpOk (Nat.le_refl _) (I3.hok.fresh (Nat.le_refl _))
end
end L2
set_option maxRecDepth 100000
namespace PySem
end PySem
namespace L2
open PySem PySem.Spec PyProof.Rows
def PairsT (H : Hp) (ys : List V) (rs : List (List Key × V)) : Prop := ys.length = rs.length ∧ ∀ i (h : i < rs.length), ∃ b c, ys[i]? = some (.ref b) ∧ H b = some (.tup [.ref c, rs[i].2]) ∧ RdT H c (rs[i].1.map kV)
section
variable {X : Cx}
end
end L2
set_option maxRecDepth 100000
namespace L2
open PySem PySem.Spec PyProof.Rows
theorem RdT.inj {H : Hp} {a : Addr} {xs ys : List V} (h : RdT H a xs) (h' : RdT H a ys) : xs = ys := by
  rcases h with h | ⟨o, h⟩ <;> rcases h' with h' | ⟨o', h'⟩ <;> (rw [h] at h'; cases h') <;> rfl
theorem mapStr_inj {xs ys : List Str} (h : xs.map V.str = ys.map V.str) : xs = ys := by
  induction xs generalizing ys with
  | nil => cases ys with
    | nil => rfl
    | cons y ys => simp at h
  | cons x xs ih => cases ys with
    | nil => simp at h
    | cons y ys =>
      simp only [List.map_cons, List.cons.injEq, V.str.injEq] at h
      rw [h.1, ih h.2]
theorem allEq_list (xs ys : List Str) : ((List.range (min xs.length ys.length)).all (fun j => xs.getD j "" == ys.getD j "") && xs.length == ys.length) = decide (xs = ys) := by
  by_cases h : xs = ys
  · subst h; simp
  · rw [decide_eq_false h, Bool.and_eq_false_iff]
    by_cases hl : xs.length = ys.length
    · left
      rw [Bool.eq_false_iff]
      intro hall
      apply h
      refine List.ext_getElem hl fun i h1 h2 => ?_
      have := List.all_eq_true.mp hall i (by simp; omega)
      simpa [List.getD_eq_getElem?_getD, List.getElem?_eq_getElem h1, List.getElem?_eq_getElem h2] using this
    · right; simpa using hl
section
variable {X : Cx} {pins : List (Addr × Obj)} {σ : St} {H : Hp} {s : Shared}
theorem step_eq (I : Inv X pins σ H s) {a b : Addr} {xs ys : List Str} (h1 : RdT H a (xs.map V.str)) (h2 : RdT H b (ys.map V.str)) {A : Around} (hu : A.units + 2 < cLine) : SeqAt.EqAt A s (.ref a) (.ref b) (decide (xs = ys)) := by
  by_cases hab : a = b
  · subst hab
    have e : xs = ys := mapStr_inj (h1.inj h2)
    rw [decide_eq_true e]
    exact SeqAt.EqAt.same _
  · obtain ⟨i1, r1, p1, _⟩ := I.tuple (.inl h1)
    obtain ⟨i2, r2, p2, _⟩ := I.tuple (.inl h2)
    have l1 := r1.length
    have l2 := r2.length
    rw [List.length_map] at l1 l2
    have := SeqAt.RcAt.tuples (A := A) (e := fun j => xs.getD j "" == ys.getD j "") p1 p2 (by omega) fun j g1 g2 => by
      have k1 : j < xs.length := by simp at g1; omega
      have k2 : j < ys.length := by simp at g2; omega
      obtain ⟨w1, e1, q1⟩ := r1.get (i := j) (x := .str xs[j]) (by simp [k1])
      obtain ⟨w2, e2, q2⟩ := r2.get (i := j) (x := .str ys[j]) (by simp [k2])
      have m1 : i1.toArray[j] = w1 := by rw [List.getElem?_eq_getElem (by simpa using g1)] at e1; simpa using e1
      have m2 : i2.toArray[j] = w2 := by rw [List.getElem?_eq_getElem (by simpa using g2)] at e2; simpa using e2
      rw [m1, m2]
      obtain ⟨t, rfl⟩ := q1
      obtain ⟨t', rfl⟩ := q2
      have := SeqAt.EqAt.str_str (A := A.in1) (s := s) xs[j] t ys[j] t'
      simpa [List.getD_eq_getElem?_getD, List.getElem?_eq_getElem k1, List.getElem?_eq_getElem k2] using this
    have e : ((List.range (min i1.toArray.size i2.toArray.size)).all (fun j => xs.getD j "" == ys.getD j "") && i1.toArray.size == i2.toArray.size) = decide (xs = ys) := by
      rw [← allEq_list xs ys]; simp only [List.size_toArray, ← l1, ← l2]
    rw [e] at this
    exact SeqAt.EqAt.of_refs hab this
end
section
variable {X : Cx} {o e : Expr} {es : List Expr} {apos cpos : Pos} {to : TE} {t : TA}
end
end L2
set_option maxRecDepth 100000
namespace L2
open PySem PySem.Spec PyProof.Rows
theorem sa_Attribute {X : Cx} {a0 : Expr} {n : Str} {pos0 : Pos} {es : List Expr} {te : TE} {t : TA} (ha : SE X (.Attribute a0 n pos0) te) (hr : SA X es t) : SA X (.Attribute a0 n pos0 :: es) (tCons te t) := ⟨pa_cons ha.h hr.h⟩
theorem ktup_mk {K : PySem.W.Frag} {a : Addr} {it : Array Value} {n : Nat} {sq : Array (Option Value)} {xs : List V} (gl : K.lookup a = some ⟨.type "tuple", none, .seq it n, sq⟩) (gv : Vals xs it.toList) (gz : xs.length ≤ sizeLine) : KTup K (a, ⟨.type "tuple", none, .seq it n, sq⟩, xs) :=
  ⟨gl, it.toList, n, rfl, rfl, by simp, gv, gz⟩
theorem walk_ofT2 {l : PySem.W.OpenLaw} {n k : Nat} {q : Program} {loose : List Str} {XP : (Str → Option Value) → Heap → Prop} {YP : World → Heap → Prop} {d : DefRec} {K : Params → PySem.W.Frag} {x : Str}
    (hn : l.most = some n) (hn2 : n ≤ sizeLine) (hdf : d.params.defaults = []) (hr : Room k callerA)
    (hY : ∀ (w : World) (h : Heap), YP w h → (K w.params).In h)
    (F : ∀ (w : World) (mg : Str → Option Value) (fa : Addr) (h : Heap), (K w.params).In h → h.Ns mainGlobals mg → mg d.name = some (.ref fa) →
      ∃ (ts : List (Addr × Obj × List V)) (fd : FuncData) (sp : Sp), (∀ t ∈ ts, KTup (K w.params) t) ∧ (ts.map (·.1)).Nodup ∧ (∀ (s : Shared) (u : Value), BindsTo s fd ⟨[u], []⟩ [(x, u)]) ∧
        (∀ base : Heap, (without (K w.params) (ts.map (·.1))).In base → base.Ns mainGlobals mg → FnOk l.prog w (without (K w.params) (ts.map (·.1))) mg base CX0 k fa fd [x] sp) ∧
        (∀ (H : Hp) (a : Addr) (ns : List Int), ns.length ≤ n → (∀ t ∈ ts, H t.1 = some (.frz t.2.1 (.tup t.2.2))) → SqL (without (K w.params) (ts.map (·.1))) H a (ns.map V.int) → sp [.ref a] H (fun v _ => v = .bl true) fun _ _ _ => False)) :
    PySem.W.WalkO q loose XP YP l.row.toRowW d [] (fun f vs => PySem.call f vs) := by
  refine Att.attach_call hn hdf fun w s₀ s₁ mg mb fa o pm cd doc a vs ns G Y ho hd hcd hmg hobj hints hlen hg => ?_
  have KX := hY w _ Y
  obtain ⟨ts, fd, sp, hts, nd, hb, hF, hsp⟩ := F w mg fa _ KX G.T.g hmg
  exact law_callT hts nd KX G.T.g G.T.b G.T.builtins G.T.nolimit hg hobj hints (Nat.le_trans hlen hn2) hr hF hb (fun H _ ht hS => hsp H a ns hlen ht hS) fun _ _ _ z => z
theorem without_of {K : PySem.W.Frag} {as : List Addr} {b : Addr} {o : Obj} (h : K.lookup b = some o) (n : as.contains b = false) : (without K as).lookup b = some o := by
  rw [without_lookup, if_neg (by rw [n]; decide)]; exact h
end L2
set_option maxRecDepth 100000
namespace L2
open PySem PySem.Spec PyProof.Rows
theorem dc_by {J : It} {ok : Hp → Prop} {n : Nat} {item : Nat → V} {g : TG} {tc : TC} {tk tw : TE} {τ0 : St} {H0 : Hp} {D : Addr} {Q : Hp → Prop} (hJ : ItN J ok n item) (Pv : Nat → St → Hp → Prop) (h0 : Pv 0 τ0 H0)
    (hok : ∀ i τ H, i ≤ n → Pv i τ H → ok H)
    (hs : ∀ i τ H, i < n → Pv i τ H → g (item i) τ H fun τ2 H2 => tc τ2 H2 fun b H3 => if b = true then tk τ2 H3 fun x H4 => tw τ2 H4 fun y H5 => ∃ kvs key, x = kV key ∧ H5 D = some (.dK kvs) ∧ kvs.length < sizeLine ∧ Pv (i + 1) τ2 (upd H5 D (.dK (putK kvs key y))) else Pv (i + 1) τ2 H3)
    (hd : ∀ τ H, Pv n τ H → Q H) : ∃ W : Nat → Nat → St → Hp → Prop, (∃ m, W 0 m τ0 H0) ∧ ∀ i m τ H, W i m τ H →
      (J.stop i H ∧ Q H) ∨ (J.go i H ∧ ∃ N : St → Hp → Prop, (∀ τ' H', N τ' H' → ∃ m', m' < m ∧ W (i + 1) m' τ' H') ∧ ∀ x H', J.yld i H x H' → g x τ H' fun τ2 H2 => tc τ2 H2 fun b H3 =>
        if b = true then tk τ2 H3 fun x H4 => tw τ2 H4 fun y H5 => ∃ kvs key, x = kV key ∧ H5 D = some (.dK kvs) ∧ kvs.length < sizeLine ∧ N τ2 (upd H5 D (.dK (putK kvs key y))) else N τ2 H3) := by
  refine ⟨fun i m τ H => m = n - i ∧ i ≤ n ∧ Pv i τ H, ⟨n, by simp, Nat.zero_le _, h0⟩, ?_⟩
  rintro i m τ H ⟨rfl, hi, p⟩
  obtain ⟨k1, k2⟩ := hJ H (hok i τ H hi p)
  by_cases hlt : i < n
  · refine .inr ⟨(k1 i hlt).1, Pv (i + 1), fun σ' H' p' => ⟨n - (i + 1), by omega, rfl, hlt, p'⟩, fun x H' y => ?_⟩
    obtain ⟨e, e2⟩ := (k1 i hlt).2 x H' y
    subst e e2
    exact hs i τ _ hlt p
  · have e : i = n := by omega
    subst e
    exact .inl ⟨k2, hd τ H p⟩
theorem dc_pair {K : PySem.W.Frag} {J : It} {ok : Hp → Prop} {n : Nat} {f1 f2 : Nat → V} {a b : Nat} {tc : TC} {tk tw : TE} {τ0 : St} {H0 : Hp} {D : Addr} {Q : Hp → Prop} (hJ : ItP J ok n f1 f2) (Pv : Nat → St → Hp → Prop) (h0 : Pv 0 τ0 H0)
    (hok : ∀ i τ H, i ≤ n → Pv i τ H → ok H)
    (hs : ∀ i τ H T, i < n → Pv i τ H → H T = none → tc ((τ.set a (some (f1 i))).set b (some (f2 i))) (upd H T (.tup [f1 i, f2 i])) fun c H3 => if c = true then tk ((τ.set a (some (f1 i))).set b (some (f2 i))) H3 fun x H4 => tw ((τ.set a (some (f1 i))).set b (some (f2 i))) H4 fun y H5 =>
      ∃ kvs key, x = kV key ∧ H5 D = some (.dK kvs) ∧ kvs.length < sizeLine ∧ Pv (i + 1) ((τ.set a (some (f1 i))).set b (some (f2 i))) (upd H5 D (.dK (putK kvs key y))) else Pv (i + 1) ((τ.set a (some (f1 i))).set b (some (f2 i))) H3)
    (hd : ∀ τ H, Pv n τ H → Q H) : ∃ W : Nat → Nat → St → Hp → Prop, (∃ m, W 0 m τ0 H0) ∧ ∀ i m τ H, W i m τ H →
      (J.stop i H ∧ Q H) ∨ (J.go i H ∧ ∃ N : St → Hp → Prop, (∀ τ' H', N τ' H' → ∃ m', m' < m ∧ W (i + 1) m' τ' H') ∧ ∀ x H', J.yld i H x H' → g2 K a b x τ H' fun τ2 H2 => tc τ2 H2 fun b H3 =>
        if b = true then tk τ2 H3 fun x H4 => tw τ2 H4 fun y H5 => ∃ kvs key, x = kV key ∧ H5 D = some (.dK kvs) ∧ kvs.length < sizeLine ∧ N τ2 (upd H5 D (.dK (putK kvs key y))) else N τ2 H3) := by
  refine ⟨fun i m σ H => m = n - i ∧ i ≤ n ∧ Pv i σ H, ⟨n, by simp, Nat.zero_le _, h0⟩, ?_⟩
  rintro i m σ H ⟨rfl, hi, p⟩
  obtain ⟨k1, k2⟩ := hJ H (hok i σ H hi p)
  by_cases hlt : i < n
  · refine .inr ⟨(k1 i hlt).1, Pv (i + 1), fun σ' H' p' => ⟨n - (i + 1), by omega, rfl, hlt, p'⟩, fun x H' y => ?_⟩
    obtain ⟨T, rfl, hT, rfl⟩ := (k1 i hlt).2 x H' y
    exact g2_at upd_same (hs i σ _ T hlt p hT)
  · have e : i = n := by omega
    subst e
    exact .inl ⟨k2, hd σ H p⟩
theorem dcT_pair {K : PySem.W.Frag} {J : It} {ok : Hp → Prop} {n : Nat} {f1 f2 : Nat → V} {a b : Nat} {tc : TC} {tk tw : TE} {τ0 : St} {H0 : Hp} {D : Addr} {Q : Hp → Prop} (hJ : ItP J ok n f1 f2) (Pv : Nat → St → Hp → Prop) (h0 : Pv 0 τ0 H0)
    (hok : ∀ i τ H, i ≤ n → Pv i τ H → ok H)
    (hs : ∀ i τ H T, i < n → Pv i τ H → H T = none → tc ((τ.set a (some (f1 i))).set b (some (f2 i))) (upd H T (.tup [f1 i, f2 i])) fun c H3 => if c = true then tk ((τ.set a (some (f1 i))).set b (some (f2 i))) H3 fun x H4 => tw ((τ.set a (some (f1 i))).set b (some (f2 i))) H4 fun y H5 =>
      ∃ kvs key b', x = .ref b' ∧ RdT H5 b' (key.map kV) ∧ H5 D = some (.dT kvs) ∧ kvs.length < sizeLine ∧ Pv (i + 1) ((τ.set a (some (f1 i))).set b (some (f2 i))) (upd H5 D (.dT (putK kvs key y))) else Pv (i + 1) ((τ.set a (some (f1 i))).set b (some (f2 i))) H3)
    (hd : ∀ τ H, Pv n τ H → Q H) : ∃ W : Nat → Nat → St → Hp → Prop, (∃ m, W 0 m τ0 H0) ∧ ∀ i m τ H, W i m τ H →
      (J.stop i H ∧ Q H) ∨ (J.go i H ∧ ∃ N : St → Hp → Prop, (∀ τ' H', N τ' H' → ∃ m', m' < m ∧ W (i + 1) m' τ' H') ∧ ∀ x H', J.yld i H x H' → g2 K a b x τ H' fun τ2 H2 => tc τ2 H2 fun b H3 =>
        if b = true then tk τ2 H3 fun x H4 => tw τ2 H4 fun y H5 => ∃ kvs key b, x = .ref b ∧ RdT H5 b (key.map kV) ∧ H5 D = some (.dT kvs) ∧ kvs.length < sizeLine ∧ N τ2 (upd H5 D (.dT (putK kvs key y))) else N τ2 H3) := by
  refine ⟨fun i m σ H => m = n - i ∧ i ≤ n ∧ Pv i σ H, ⟨n, by simp, Nat.zero_le _, h0⟩, ?_⟩
  rintro i m σ H ⟨rfl, hi, p⟩
  obtain ⟨k1, k2⟩ := hJ H (hok i σ H hi p)
  by_cases hlt : i < n
  · refine .inr ⟨(k1 i hlt).1, Pv (i + 1), fun σ' H' p' => ⟨n - (i + 1), by omega, rfl, hlt, p'⟩, fun x H' y => ?_⟩
    obtain ⟨T, rfl, hT, rfl⟩ := (k1 i hlt).2 x H' y
    exact g2_at upd_same (hs i σ _ T hlt p hT)
  · have e : i = n := by omega
    subst e
    exact .inl ⟨k2, hd σ H p⟩
theorem putK_at {κ : Type} [DecidableEq κ] {kvs : List (κ × V)} (nd : (kvs.map (·.1)).Nodup) {i : Nat} (h : i < kvs.length) : putK (kvs.take i) kvs[i].1 kvs[i].2 = kvs.take (i + 1) := by
  rw [L2.putK_new _ (by
    cases e : valV (kvs.take i) kvs[i].1 with
    | none => rfl
    | some v =>
      have := valV_in e
      obtain ⟨p, hp, q⟩ := List.mem_map.mp this
      obtain ⟨j, hj, rfl⟩ := List.getElem_of_mem hp
      have hj' : j < i := by simp at hj; omega
      rw [List.getElem_take] at q
      have := List.pairwise_iff_getElem.mp nd j i (by simp; omega) (by simpa using h) hj'
      simp only [List.getElem_map] at this
      exact absurd q this), List.take_add_one, List.getElem?_eq_getElem h]
  rfl
theorem valV_at {κ : Type} [DecidableEq κ] {kvs : List (κ × V)} (nd : (kvs.map (·.1)).Nodup) {k : κ} {v : V} (h : (k, v) ∈ kvs) : valV kvs k = some v := by
  induction kvs with
  | nil => cases h
  | cons p r ih =>
    rw [List.map_cons, List.nodup_cons] at nd
    rcases List.mem_cons.mp h with e | h
    · rw [← e, valV_pos rfl]
    · have ne : ¬ p.1 = k := fun e => nd.1 (List.mem_map.mpr ⟨_, h, e.symm⟩)
      rw [valV_neg ne]; exact ih nd.2 h
theorem RdT.put {H : Hp} {b D : Addr} {ys : List V} {o u : HO} (r : RdT H b ys) (hD : H D = some o) (n1 : ∀ xs, o ≠ .tup xs) (n2 : ∀ q xs, o ≠ .frz q (.tup xs)) : RdT (L2.upd H D u) b ys := r.upd fun v hv z => by
  subst z
  rcases r with r | ⟨q, r⟩
  · rw [hD] at r; cases r; exact n1 _ rfl
  · rw [hD] at r; cases r; exact n2 _ _ rfl
end L2
set_option maxRecDepth 100000
namespace L2
open PySem PySem.Spec PyProof.Rows
def rowsE (rows : List Rw2) : List (Key × V) := rows.map fun r => (.inr r.1, .str (endOf rows r.1))
def nmsH : Hd → List Str
  | .as y => [y]
  | .way x y => [x, y]
  | .prs _ ps => ps.map (·.2)
  | _ => []
def movesE (rows : List Rw2) (h : Hd) : List (List Key × V) := h.mvs.map fun m => (m.1.map (Sum.inr : Str → Key), .str (endOf rows m.2))
theorem keys_inj {xs ys : List Str} (h : xs.map (Sum.inr : Str → Key) = ys.map Sum.inr) : xs = ys := by
  induction xs generalizing ys with
  | nil => cases ys with
    | nil => rfl
    | cons y ys => simp at h
  | cons x xs ih => cases ys with
    | nil => simp at h
    | cons y ys =>
      simp only [List.map_cons, List.cons.injEq, Sum.inr.injEq] at h
      rw [h.1, ih h.2]
theorem movesE_nodup {rows : List Rw2} {h : Hd} (nd : (h.mvs.map (·.1)).Nodup) : ((movesE rows h).map (·.1)).Nodup := by
  have e : (movesE rows h).map (·.1) = (h.mvs.map (·.1)).map fun m => m.map (Sum.inr : Str → Key) := by simp [movesE, List.map_map, Function.comp_def]
  rw [e]
  exact List.pairwise_map.mpr (nd.imp fun h e => h (keys_inj e))
theorem mvs_nms {h : Hd} (i : Nat) (hi : i < h.mvs.length) : (nmsH h)[i]? = some h.mvs[i].2 := by
  cases h with
  | one s => cases hi
  | as y => cases hi
  | way x y =>
    match i, hi with
    | 0, _ => rfl
    | 1, _ => rfl
  | prs s ps =>
    have hi' : i < ps.length := by simpa [Hd.mvs] using hi
    simp [nmsH, Hd.mvs, List.getElem?_eq_getElem hi']
theorem nms_le {h : Hd} : h.mvs.length ≤ (nmsH h).length := by
  cases h <;> simp [nmsH, Hd.mvs]
theorem mvs_few {h : Hd} {ns : List Str} (ok : h.ok ns) : h.mvs.length ≤ 10 := by
  cases h with
  | one s => simp [Hd.mvs]
  | as y => simp [Hd.mvs]
  | way x y => simp [Hd.mvs]
  | prs s ps => simpa [Hd.mvs] using ok.2.2.2
theorem rising_pw : ∀ {ws : List Str}, rising ws = true → ws.Pairwise (fun a b => strLt a b = true)
  | [], _ => .nil
  | [_], _ => List.pairwise_singleton _ _
  | a :: b :: r, h => by
    have h' : strLt a b = true ∧ rising (b :: r) = true := by simpa [rising] using h
    have ih := rising_pw h'.2
    refine List.pairwise_cons.mpr ⟨fun c hc => ?_, ih⟩
    rcases List.mem_cons.mp hc with rfl | hc
    · exact h'.1
    · exact strLt_trans h'.1 ((List.pairwise_cons.mp ih).1 c hc)
theorem rising_nodup {ws : List Str} (h : rising ws = true) : ws.Nodup := (rising_pw h).imp fun {x y} h e => by rw [e, strLt_irrefl] at h; cases h
theorem mvs_nd {h : Hd} {ns : List Str} (ok : h.ok ns) : (h.mvs.map (·.1)).Nodup := by
  cases h with
  | one s => exact List.nodup_nil
  | as y => exact List.nodup_nil
  | way x y => exact (by decide +kernel : (([["from"], ["to"]] : List (List Str))).Nodup)
  | prs s ps =>
    have hr := rising_nodup ok.2.2.1
    have e : (Hd.prs s ps).mvs.map (·.1) = (ps.map (·.1)).map fun w => ([if s = "box" then "part" else "case", w] : List Str) := by simp [Hd.mvs, List.map_map, Function.comp_def]
    rw [e]
    exact List.pairwise_map.mpr (hr.imp fun h e => h (by simpa using e))
theorem rowsE_get {rows : List Rw2} (nd : (rows.map (·.1)).Nodup) {x : Str} (hx : x ∈ rows.map (·.1)) : valV (rowsE rows) (.inr x) = some (.str (endOf rows x)) := by
  obtain ⟨r, hr, rfl⟩ := List.mem_map.mp hx
  refine valV_at ?_ (List.mem_map.mpr ⟨r, hr, rfl⟩)
  have e : (rowsE rows).map (·.1) = (rows.map (·.1)).map (Sum.inr : Str → Key) := by simp [rowsE, List.map_map, Function.comp_def]
  rw [e]
  exact List.pairwise_map.mpr (nd.imp fun h e => h (Sum.inr.inj e))
theorem kstr (m : List Str) : (m.map (Sum.inr : Str → Key)).map kV = m.map V.str := by simp [List.map_map, Function.comp_def, kV]
def nonAs (rows : List Rw2) : List Rw2 := rows.filter fun r => r.2.nx.isNone
structure DV (R : Hp → V → Rw2 → Prop) (H : Hp) (kvs : List (Key × V)) (rs : List Rw2) : Prop where
  len : kvs.length = rs.length
  at_ : ∀ i (h : i < kvs.length) (h' : i < rs.length), kvs[i].1 = .inr rs[i].1 ∧ R H kvs[i].2 rs[i]
theorem DV.keep {R : Hp → V → Rw2 → Prop} {H H' : Hp} {kvs : List (Key × V)} {rs : List Rw2} (h : DV R H kvs rs) (s : ∀ v r, R H v r → R H' v r) : DV R H' kvs rs := ⟨h.len, fun i a b => ⟨(h.at_ i a b).1, s _ _ (h.at_ i a b).2⟩⟩
theorem DV.nil {R : Hp → V → Rw2 → Prop} {H : Hp} : DV R H [] [] := ⟨rfl, fun i h => absurd h (by simp)⟩
theorem DV.snoc {R : Hp → V → Rw2 → Prop} {H : Hp} {kvs : List (Key × V)} {rs : List Rw2} (h : DV R H kvs rs) {v : V} {r : Rw2} (e : R H v r) : DV R H (kvs ++ [((Sum.inr r.1 : Key), v)]) (rs ++ [r]) := by
  have hl := h.len
  refine ⟨by simp [hl], fun i h1 h2 => ?_⟩
  by_cases hlt : i < kvs.length
  · rw [List.getElem_append_left hlt, List.getElem_append_left (by omega)]
    exact h.at_ i hlt (by omega)
  · have e' : i = kvs.length := by simp at h1; omega
    subst e'
    rw [List.getElem_append_right (Nat.le_refl _), List.getElem_append_right (by omega)]
    simp only [Nat.sub_self, hl, List.getElem_cons_zero, true_and]
    exact e
theorem DV.keys {R : Hp → V → Rw2 → Prop} {H : Hp} {kvs : List (Key × V)} {rs : List Rw2} (h : DV R H kvs rs) : kvs.map (·.1) = rs.map fun r => (.inr r.1 : Key) := by
  have hl := h.len
  refine List.ext_getElem (by simpa using hl) fun i h1 h2 => ?_
  simp only [List.getElem_map]
  exact (h.at_ i (by simpa using h1) (by simpa using h2)).1
theorem DV.put {R : Hp → V → Rw2 → Prop} {H : Hp} {kvs : List (Key × V)} {rs : List Rw2} (h : DV R H kvs rs) {r : Rw2} {v : V} (n : r.1 ∉ rs.map (·.1)) : putK kvs (.inr r.1) v = kvs ++ [(.inr r.1, v)] := by
  refine L2.putK_new _ ?_
  cases e : valV kvs (.inr r.1) with
  | none => rfl
  | some u =>
    have := valV_in e
    rw [h.keys] at this
    obtain ⟨r', hr', e'⟩ := List.mem_map.mp this
    exact absurd (List.mem_map.mpr ⟨r', hr', Sum.inr.inj e'⟩) n
theorem DV.get {R : Hp → V → Rw2 → Prop} {H : Hp} {kvs : List (Key × V)} {rs : List Rw2} (h : DV R H kvs rs) (nd : (rs.map (·.1)).Nodup) {r : Rw2} (hr : r ∈ rs) : ∃ v, valV kvs (.inr r.1) = some v ∧ R H v r := by
  obtain ⟨i, hi, rfl⟩ := List.getElem_of_mem hr
  have hl := h.len
  obtain ⟨h1, h2⟩ := h.at_ i (by omega) hi
  refine ⟨kvs[i].2, valV_at ?_ (k := (Sum.inr rs[i].1 : Key)) (v := kvs[i].2) ?_, h2⟩
  · rw [h.keys]
    exact List.pairwise_map.mpr ((List.pairwise_map.mp nd).imp fun h e => h (Sum.inr.inj e))
  · rw [← h1]; exact List.getElem_mem (by omega)
def Hd.srt : Hd → Str
  | .one s => s
  | .as _ => "as"
  | .way _ _ => "way"
  | .prs s _ => s
theorem HV.srt {H : Hp} {v : V} {h : Hd} (q : HV H v h) : ∃ b ys, v = .ref b ∧ H b = some (.tup (.str h.srt :: ys)) := by
  cases q with
  | one e => exact ⟨_, _, rfl, e⟩
  | as e => exact ⟨_, _, rfl, e⟩
  | way e => exact ⟨_, _, rfl, e⟩
  | prs e _ _ => exact ⟨_, _, rfl, e⟩
theorem srt_as {h : Hd} {ns : List Str} (ok : h.ok ns) : (h.srt = "as") = (h.nx.isNone = false) := by
  cases h with
  | one s => rcases ok with rfl | rfl <;> simp [Hd.srt, Hd.nx] <;> decide +kernel
  | as y => simp [Hd.srt, Hd.nx]
  | way x y => simp [Hd.srt, Hd.nx]; decide +kernel
  | prs s ps => rcases ok.1 with rfl | rfl <;> simp [Hd.srt, Hd.nx] <;> decide +kernel
def RH : Hp → V → Rw2 → Prop := fun H v r => HV H v r.2
def RM : Hp → V → Rw2 → Prop := fun H v r => ∃ b c us, v = .ref b ∧ H b = some (.tup [.str r.2.srt, .ref c]) ∧ H c = some (.tup us) ∧ SV H us (r.2.mvs.map (·.1))
def RO (rows : List Rw2) : Hp → V → Rw2 → Prop := fun H v r => ∃ m o, v = .ref m ∧ H m = some (.frz o (.dT (movesE rows r.2)))
structure NetF (H : Hp) (rows : List Rw2) (fs : List (Str × V)) : Prop where
  rws : ∃ d o, fs.lookup ("rows" : Str) = some (V.ref d) ∧ H d = some (.frz o (.dK (rowsE rows)))
  hds : ∃ d o k, fs.lookup ("heads" : Str) = some (V.ref d) ∧ H d = some (.frz o (.dK k)) ∧ DV RH H k (nonAs rows)
  mks : ∃ d o k, fs.lookup ("marks" : Str) = some (V.ref d) ∧ H d = some (.frz o (.dK k)) ∧ DV RM H k (nonAs rows)
  mvs : ∃ d o k, fs.lookup ("moves" : Str) = some (V.ref d) ∧ H d = some (.frz o (.dK k)) ∧ DV (RO rows) H k (nonAs rows)
def NetAt (H : Hp) (C x : Addr) (rows : List Rw2) : Prop := ∃ dx fs, H x = some (.ins C dx fs) ∧ NetF H rows fs
def Sx (x : Addr) (H H' : Hp) : Prop := ∀ b o, b ≠ x → H b = some o → H' b = some o
theorem Sx.trans {x : Addr} {H H1 H2 : Hp} (a : Sx x H H1) (b : Sx x H1 H2) : Sx x H H2 := fun c o n h => b c o n (a c o n h)
theorem Same.sx {x : Addr} {H H1 : Hp} (a : Same H H1) : Sx x H H1 := fun c o _ h => a c o h
theorem Sx.upd {x : Addr} {H : Hp} {o : HO} : Sx x H (upd H x o) := fun c u n h => by rw [upd_ne n]; exact h
theorem Sx.free {x D : Addr} {H H' : Hp} (s : Sx x H H') (h : H' D = none) (n : D ≠ x) : H D = none := by
  cases e : H D with
  | none => rfl
  | some o => rw [s D o n e] at h; cases h
theorem Sx.tk {x : Addr} {H H' : Hp} (s : Sx x H H') (n : ∀ ys, H x ≠ some (.tup ys)) : Tk H H' := fun b ys e => s b _ (fun z => n ys (by rw [← z]; exact e)) e
theorem Sx.same {x : Addr} {H H' : Hp} (s : Sx x H H') (n : H x = none) : Same H H' := fun b o e => s b o (fun z => by rw [z, n] at e; cases e) e
theorem Sx.frz {x b : Addr} {H H' : Hp} {q : Obj} {u : HO} (s : Sx x H H') (n : ∀ q u, H x ≠ some (.frz q u)) (e : H b = some (.frz q u)) : H' b = some (.frz q u) := s b _ (fun z => n q u (by rw [← z]; exact e)) e
theorem HV.same {H H' : Hp} {v : V} {h : Hd} (q : HV H v h) (s : Same H H') : HV H' v h := q.tk s.ts
theorem tSeq_fld {K : PySem.W.Frag} {ta tv : TE} {f : Str} {v : TS} {D : Ends} {σ : St} {H : Hp} (h : tv σ H fun y H1 => ta σ H1 fun x H2 => ∃ a C dx fs, x = .ref a ∧ H2 a = some (.ins C dx fs) ∧ Cls K C ∧ NoAttr K C f ∧ fs.length < 1000 ∧ v D σ (upd H2 a (.ins C dx (putF f y fs)))) : tSeq (sFld K ta tv f) v D σ H := h
end L2
set_option maxRecDepth 100000
namespace L2
open PySem PySem.Spec PyProof.Rows
def mvAt (rows : List Rw2) (e : Str) (s : List Str) : Option Str := ((onOf rows e).find? fun m => decide (m.1 = s)).map (·.2)
def EndN (rows : List Rw2) (ns : List Str) (e : Str) : Prop := e ∈ ns ∧ endOf rows e = e
def onE (rows : List Rw2) (e : Str) : List (List Key × V) := (onOf rows e).map fun m => (m.1.map Sum.inr, .str m.2)
section
variable {H : Hp} {a : Addr} {xs : List V} {rows : List Rw2} {ns ws : List Str}
theorem RT.stay (rt : RT H a xs rows ns ws) (hw : ∀ z ∈ ws, Wd z) {x : Str} (hx : x ∈ ns) : EndN rows ns (endOf rows x) := by
  obtain ⟨h1, h2, _⟩ := rt.endIn hw hx
  exact ⟨h1, stps_stay _ h2⟩
theorem RT.endRow (rt : RT H a xs rows ns ws) (hw : ∀ z ∈ ws, Wd z) {e : Str} (h : EndN rows ns e) : (e, hdOf rows e) ∈ nonAs rows ∧ (hdOf rows e).ok ns := by
  obtain ⟨h1, h2, h3⟩ := rt.endIn hw h.1
  rw [h.2] at h1 h2 h3
  have h4 : e ∈ rows.map (·.1) := rt.nm.mem_iff.mpr h1
  obtain ⟨r, hr, rfl⟩ := List.mem_map.mp h4
  have e' := hdOf_mem rt.ndr hr
  refine ⟨List.mem_filter.mpr ⟨?_, ?_⟩, h3⟩
  · rw [e']; exact hr
  · show (hdOf rows r.1).nx.isNone = true
    rw [h2]; rfl
theorem RT.mvAt (rt : RT H a xs rows ns ws) (hw : ∀ z ∈ ws, Wd z) {e e' : Str} {s : List Str} (h : EndN rows ns e) (m : L2.mvAt rows e s = some e') : EndN rows ns e' := by
  unfold L2.mvAt at m
  obtain ⟨p, hp, rfl⟩ := Option.map_eq_some_iff.mp m
  have hm := List.mem_of_find?_eq_some hp
  unfold onOf at hm
  obtain ⟨q, hq, rfl⟩ := List.mem_map.mp hm
  rw [h.2] at hq
  exact rt.stay hw (mvs_in (rt.endRow hw h).2 _ hq)
theorem RT.ndn (rt : RT H a xs rows ns ws) : ((nonAs rows).map (·.1)).Nodup := rt.ndr.sublist (List.filter_sublist.map _)
theorem RT.onNd (rt : RT H a xs rows ns ws) (hw : ∀ z ∈ ws, Wd z) {x : Str} (h : x ∈ ns) : ((onE rows x).map (·.1)).Nodup := by
  have h3 := (rt.endIn hw h).2.2
  have e : (onE rows x).map (·.1) = ((hdOf rows (endOf rows x)).mvs.map (·.1)).map fun m => m.map (Sum.inr : Str → Key) := by simp [onE, onOf, List.map_map, Function.comp_def]
  rw [e]
  exact List.pairwise_map.mpr ((mvs_nd h3).imp fun h e => h (keys_inj e))
end
theorem NetF.same {H H' : Hp} {rows : List Rw2} {fs : List (Str × V)} (n : NetF H rows fs) (s : Same H H') : NetF H' rows fs := by
  obtain ⟨⟨d1, o1, a1, a2⟩, ⟨d2, o2, k2, b1, b2, b3⟩, ⟨d3, o3, k3, c1, c2, c3⟩, ⟨d4, o4, k4, e1, e2, e3⟩⟩ := n
  exact ⟨⟨d1, o1, a1, s _ _ a2⟩, ⟨d2, o2, k2, b1, s _ _ b2, b3.keep fun v r h => HV.tk s.ts h⟩, ⟨d3, o3, k3, c1, s _ _ c2, c3.keep fun v r ⟨b, c, us, h1, h2, h3, h4⟩ => ⟨b, c, us, h1, s _ _ h2, s _ _ h3, h4.keep fun b ys r => r.same s⟩⟩, ⟨d4, o4, k4, e1, s _ _ e2, e3.keep fun v r ⟨m, o, h1, h2⟩ => ⟨m, o, h1, s _ _ h2⟩⟩⟩
theorem NetAt.same {H H' : Hp} {C x : Addr} {rows : List Rw2} (n : NetAt H C x rows) (s : Same H H') : NetAt H' C x rows := let ⟨dx, fs, e, f⟩ := n; ⟨dx, fs, s _ _ e, f.same s⟩
theorem MV.pairs {H : Hp} {us : List V} {rows : List Rw2} {e : Str} (mv : MV H us (onOf rows e)) : PairsT H us (onE rows e) := by
  have hl := mv.len
  refine ⟨by simp [onE, hl], fun i h => ?_⟩
  have hi : i < (onOf rows e).length := by simpa [onE] using h
  obtain ⟨c, b, h1, h2, h3⟩ := mv.at_ i (by omega) hi
  refine ⟨c, b, by rw [List.getElem?_eq_getElem (by omega), h1], ?_, .inl ?_⟩
  · simpa [onE] using h2
  · have : (onE rows e)[i].1 = (onOf rows e)[i].1.map Sum.inr := by simp [onE]
    rw [this, kstr]; exact h3
section
variable {X : Cx}
def rCatA (K : PySem.W.Frag) : R2 := fun x y H Q => ∃ a b xs ys, x = .ref a ∧ y = .ref b ∧ SqT K H a xs ∧ SqT K H b ys ∧ xs.length + ys.length ≤ sizeLine ∧ (xs = [] → Q (.ref b) H) ∧
  (xs ≠ [] → ys = [] → Q (.ref a) H) ∧ (xs ≠ [] → ys ≠ [] → ∀ p, H p = none → Q (.ref p) (upd H p (.tup (xs ++ ys))))
theorem op_catA (K : PySem.W.Frag) (h : X.K = K := by rfl) : OpR X (binaryOp .Add) (rCatA K) := by
  subst h
  intro pins s σ H x y v u Q I rx ry h
  obtain ⟨a, b, xs, ys, rfl, rfl, ha, hb, hz, q0, q1, q2⟩ := h
  by_cases hx : xs = []
  · cases rx
    cases ry
    obtain ⟨its, r1, p1, _⟩ := I.tuple ha
    obtain ⟨its2, r2, p2, _⟩ := I.tuple hb
    have hi : its = [] := r1.nil_iff.mpr hx
    obtain ⟨⟨cls, dd, data, sl⟩, ho, hc, n, hd⟩ := id p1
    obtain ⟨⟨cls2, dd2, data2, sl2⟩, ho2, hc2, n2, hd2⟩ := id p2
    simp only at hc hd hc2 hd2
    subst hc hd hc2 hd2
    exact concat_meets ⟨_, ho, rfl⟩ ⟨_, ho2, rfl⟩ noFill_tuple_add seq_tuple_add PySem.F.slot_tuple_add PySem.F.entry_tuple_add (PySem.F.args_tuple_add_2 _ _)
      (tuple_addW0 a b its.toArray its2.toArray n n2 dd dd2 sl sl2 (by simp [hi])) ⟨ho, ho2, ⟨.ref b, H, I, rfl, q0 hx⟩⟩
  · exact op_catT pins s σ H _ _ v u Q I rx ry ⟨a, b, xs, ys, rfl, rfl, ha, hb, hx, hz, q1 hx, q2 hx⟩
theorem catA {K : PySem.W.Frag} {H : Hp} {a b : Addr} {xs ys : List V} {Q : VK} (ha : H a = some (.tup xs)) (hb : H b = some (.tup ys)) (hz : xs.length + ys.length ≤ sizeLine) (h : ∀ p H', Same H H' → H' p = some (.tup (xs ++ ys)) → Q (.ref p) H') : rCatA K (.ref a) (.ref b) H Q := by
  refine ⟨a, b, xs, ys, rfl, rfl, SqT.of ha, SqT.of hb, hz, fun e => ?_, fun _ e => ?_, fun _ _ p hp => ?_⟩
  · subst e; exact h b H (Same.refl _) hb
  · subst e; exact h a H (Same.refl _) (by rw [List.append_nil]; exact ha)
  · exact h p _ (Same.upd hp _) upd_same
theorem SV.append {H : Hp} {xs ys : List V} {ss ts : List (List Str)} (h : SV H xs ss) (h' : SV H ys ts) : SV H (xs ++ ys) (ss ++ ts) := by
  have hl := h.len
  have hl' := h'.len
  refine ⟨by simp [hl, hl'], fun i h1 h2 => ?_⟩
  by_cases hlt : i < xs.length
  · rw [List.getElem_append_left hlt, List.getElem_append_left (by omega)]
    exact h.at_ i hlt (by omega)
  · rw [List.getElem_append_right (by omega), List.getElem_append_right (by omega)]
    have := h'.at_ (i - xs.length) (by simp at h1; omega) (by simp at h2; omega)
    simpa [hl] using this
theorem SV.one {H : Hp} {b : Addr} {m : List Str} (e : RdT H b (m.map V.str)) : SV H [.ref b] [m] := SV.nil.snoc e
theorem SV.same {H H' : Hp} {xs : List V} {ss : List (List Str)} (h : SV H xs ss) (s : Same H H') : SV H' xs ss := h.keep fun _ _ r => r.same s
end
theorem hu20_of {A : Around} {k : Nat} (hr : Room k A) : A.units + 20 < cLine := by have := hr.un; omega
end L2
set_option maxRecDepth 100000
namespace L2
open PySem PySem.Spec PyProof.Rows
section
variable {P : Program} {w : World} {A : Around} {E : Value → Shared → Prop} {s : Shared} {it d : Addr} {i n ep : Nat} {od : Obj} {es : Array DictEntry} {ok ov : Value} {Q : Option Value → Shared → Prop}
theorem itmT_item {en : DictEntry} (a0 : IsItemIter s.heap it d i n ep ok ov) (hod : s.heap.get? d = some od) (hdd : od.data = .dict es ep) (hn : es.size = n) (hx : es[i]? = some en)
    (hQ : ∀ h', IsItemIterOut h' it d (i + 1) n ep en.key en.val s.heap.objs.size → h'.get? s.heap.objs.size = some { cls := .type "tuple", data := .seq #[en.key, en.val] } →
      (∀ b o, b ≠ it → s.heap.get? b = some o → h'.get? b = some o) → Q (some (.ref s.heap.objs.size)) { s with heap := h' }) : wpAny (model P w) A (pyNext (.ref it)) Q E s := by
  obtain ⟨hp, g, dr, tk, os⟩ := s
  have ty : Shared.TypeIs ⟨hp, g, dr, tk, os⟩ (.ref it) "dict_itemiterator" := ⟨_, a0, rfl⟩
  have hlt : i < es.size := (Array.getElem?_eq_some_iff.mp hx).1
  have hen : es[i] = en := (Array.getElem?_eq_some_iff.mp hx).2
  have own : Builtin.Dict_items.ownsTuple "dict_itemiterator" = true := by decide
  have hdn : ¬ (Value.ref d == Value.none) = true := fun hz => Bool.false_ne_true hz
  unfold pyNext
  refine wpAny_bind (wpAny_attempt (wpAny_callSpecial?_slot (name := Str.ofString "__next__") ty F.slot_dict_itemiterator_next (wpAny_call_entry F.slot_dict_itemiterator_next ty F.entry_dict_itemiterator_next ?_ (F.args_dict_itemiterator_next_1 _))))
  refine wpAny_bind (wpAny_pure (wpAny_bind (wpAny_bind ?_)))
  first
    | refine wpAny_bind (wpAny_typeNameOfWhole_itemiter ty (wpAny_pure (wpAny_bind (wpAny_fieldsOf a0 rfl ?_))))
    | refine wpAny_bind (wpAny_typeNameOf_itemiter ty (wpAny_pure (wpAny_bind (wpAny_fieldsOf a0 rfl ?_))))
  simp only [own, if_true]
  show wpAny _ _ (if (Value.ref d == Value.none) = true then _ else _) _ _ _
  rw [if_neg hdn]
  refine wpAny_bind (wpAny_pure (wpAny_bind (wpAny_dictEntries hod hdd ?_)))
  rw [if_neg (by rw [hn]; simp)]
  refine wpAny_bind (wpAny_pure (wpAny_bind (wpAny_dictEpoch hod hdd ?_)))
  rw [if_neg (by simp)]
  refine wpAny_pure ?_
  simp only [show ¬ ((i : Int) < 0) by omega, if_false, Int.toNat_natCast, hx]
  refine wpAny_bind ?_
  first
    | refine wpAny_bind (wpAny_typeNameOfWhole_itemiter ty (wpAny_pure (wpAny_bind (wpAny_isOneOf_itemiter ty ?_))))
    | refine wpAny_bind (wpAny_typeNameOf_itemiter ty (wpAny_pure (wpAny_bind (wpAny_isOneOf_itemiter ty ?_))))
  show wpAny _ _ (setField (.ref it) 3 (rawInt ((i : Int) + 1)) >>= _) _ _ ⟨hp, g, dr, tk, os⟩
  refine wpAny_bind (wpAny_setField_rec a0 (by simp) fun k1 b1 c1 => ?_)
  have c1' : Heap.SameBut it hp k1 := c1
  have b1' : IsItemIter k1 it d (i + 1) n ep ok ov := by
    have e : ((i + 1 : Nat) : Int) = (i : Int) + 1 := by omega
    unfold IsItemIter; rw [e]; simpa [rawInt] using b1
  have ty1 : Shared.TypeIs ⟨k1, g, dr, tk, os⟩ (.ref it) "dict_itemiterator" := ⟨_, b1', rfl⟩
  refine wpAny_bind (wpAny_holding (wpAny_bind (wpAny_isOneOf_itemiter ty1 (wpAny_bind (wpAny_isOneOf_itemiter ty1 ?_)))))
  show wpAny _ _ (Builtin.Dict_items.pairFromOwner (.ref it) 6 en.key en.val) _ _ ⟨k1, g, dr, tk, os⟩
  unfold Builtin.Dict_items.pairFromOwner
  refine wpAny_bind (wpAny_newTuple ?_)
  have sz : k1.objs.size = hp.objs.size := c1'.1
  have il : it < hp.objs.size := Heap.lt_size a0
  have b2 : IsItemIter (k1.push { cls := .type "tuple", data := .seq #[en.key, en.val] }) it d (i + 1) n ep ok ov := Heap.get?_push_of_some _ b1'
  have t2 : (k1.push { cls := .type "tuple", data := .seq #[en.key, en.val] }).get? hp.objs.size = some { cls := .type "tuple", data := .seq #[en.key, en.val] } := by rw [← sz]; exact Heap.get?_push_size _ rfl
  have m2 : ∀ b o, b ≠ it → hp.get? b = some o → (k1.push { cls := .type "tuple", data := .seq #[en.key, en.val] }).get? b = some o := fun b o hb e => Heap.get?_push_of_some _ (c1'.extBut b o hb e)
  show wpAny _ _ (Builtin.Dict_items.ownedTupleIsFree (.ref it) >>= _) _ _ ⟨k1.push { cls := .type "tuple", data := .seq #[en.key, en.val] }, g, dr, tk, os⟩
  rw [sz]
  generalize k1.push { cls := .type "tuple", data := .seq #[en.key, en.val] } = k2 at b2 t2 m2
  refine wpAny_bind ?_
  unfold Builtin.Dict_items.ownedTupleIsFree
  refine wpAny_bind (wpAny_field b2 rfl (x := .none) rfl (wpAny_pure ?_))
  simp only [if_true]
  refine wpAny_bind (wpAny_field b2 rfl (x := ok) rfl (wpAny_bind (wpAny_field b2 rfl (x := ov) rfl (wpAny_bind (wpAny_setField_rec b2 (by simp) fun k3 b3 c3 => ?_)))))
  have b3' : IsItemIter k3 it d (i + 1) n ep en.key ov := b3
  refine wpAny_bind (wpAny_setField_rec b3' (by simp) fun k4 b4 c4 => ?_)
  have b4' : IsItemIter k4 it d (i + 1) n ep en.key en.val := b4
  refine wpAny_bind (wpAny_setField_rec b4' (by simp) fun k5 b5 c5 => ?_)
  have b5' : IsItemIterOut k5 it d (i + 1) n ep en.key en.val hp.objs.size := b5
  refine wpAny_bind (wpAny_setField_rec b5' (by simp) fun k6 b6 c6 => ?_)
  have up : ∀ b o, b ≠ it → k2.get? b = some o → k6.get? b = some o := fun b o hb e => c6.extBut b o hb (c5.extBut b o hb (c4.extBut b o hb (c3.extBut b o hb e)))
  exact wpAny_bind (wpAny_letGo (wpAny_pure (wpAny_pure ⟨_, rfl, wpAny_pure (hQ k6 b6 (up _ _ (Nat.ne_of_gt il) t2) fun b o hb e => up b o hb (m2 b o hb e))⟩)))
theorem itmT_end (hh : A.handled = none) (a0 : IsItemIter s.heap it d i n ep ok ov) (hod : s.heap.get? d = some od) (hdd : od.data = .dict es ep) (hn : es.size = n) (hx : n ≤ i)
    (hQ : ∀ h', Heap.ExtBut it s.heap h' → Q none { s with heap := h' }) : wpAny (model P w) A (pyNext (.ref it)) Q E s := by
  have ty : s.TypeIs (.ref it) "dict_itemiterator" := ⟨_, a0, rfl⟩
  have own : Builtin.Dict_items.ownsTuple "dict_itemiterator" = true := by decide
  have hge : es.size ≤ i := by omega
  have hdn : ¬ (Value.ref d == Value.none) = true := fun hz => Bool.false_ne_true hz
  unfold pyNext
  refine wpAny_bind (wpAny_attempt (wpAny_callSpecial?_slot (name := Str.ofString "__next__") ty F.slot_dict_itemiterator_next (wpAny_call_entry F.slot_dict_itemiterator_next ty F.entry_dict_itemiterator_next ?_ (F.args_dict_itemiterator_next_1 _))))
  refine wpAny_bind (wpAny_pure (wpAny_bind (wpAny_bind ?_)))
  first
    | refine wpAny_bind (wpAny_typeNameOfWhole_itemiter ty (wpAny_pure (wpAny_bind (wpAny_fieldsOf a0 rfl ?_))))
    | refine wpAny_bind (wpAny_typeNameOf_itemiter ty (wpAny_pure (wpAny_bind (wpAny_fieldsOf a0 rfl ?_))))
  simp only [own, if_true]
  show wpAny _ _ (if (Value.ref d == Value.none) = true then _ else _) _ _ _
  rw [if_neg hdn]
  refine wpAny_bind (wpAny_pure (wpAny_bind (wpAny_dictEntries hod hdd ?_)))
  rw [if_neg (by rw [hn]; simp)]
  refine wpAny_bind (wpAny_pure (wpAny_bind (wpAny_dictEpoch hod hdd ?_)))
  rw [if_neg (by simp)]
  refine wpAny_pure ?_
  simp only [show ¬ ((i : Int) < 0) by omega, if_false, Int.toNat_natCast, Array.getElem?_eq_none hge]
  refine wpAny_bind ?_
  first
    | refine wpAny_bind (wpAny_typeNameOfWhole_itemiter ty (wpAny_pure ?_))
    | refine wpAny_bind (wpAny_typeNameOf_itemiter ty (wpAny_pure ?_))
  show wpAny _ _ (setField (.ref it) 2 .none >>= _) _ _ s
  refine wpAny_bind (wpAny_setField a0 rfl (by simp) ?_)
  show wpAny _ _ (newExc (.type "StopIteration") [] >>= _) _ _ _
  refine wpAny_bind ?_
  simp only [newExc, newTuple]
  refine wpAny_bind (wpAny_newObj_type (wpAny_bind (m := firstArgMember _ _) (wpAny_of_eq (a := Value.none) (by first | rfl | (simp only [firstArgMember]; rfl)) (wpAny_newObj_type ?_ (by size_fits)))) (by size_fits))
  simp only [raiseNew]
  refine wpAny_bind (wpAny_handled ?_)
  rw [show A.in1.handled = none from hh]
  refine wpAny_bind (wpAny_pure (wpAny_throw ?_))
  refine wpAny_bind (wpAny_isInstance (T := "StopIteration") (b := true) ⟨_, Heap.get?_push_size _ rfl, rfl⟩ isSubtype_stop ?_)
  exact wpAny_pure (hQ _ (((Heap.SameBut.update ..).extBut.push _).push _))
end
def ItiT (a : Addr) (o : Obj) (kvs : List (List Key × V)) : It := ⟨fun i H => H a = some (.frz o (.dT kvs)) ∧ i < kvs.length, fun i H x H' => ∃ b kv, kvs[i]? = some kv ∧ RdT H b (kv.1.map kV) ∧ pairY (.ref b) kv.2 H x H', fun i H => H a = some (.frz o (.dT kvs)) ∧ kvs.length = i⟩
theorem kt_get {H : Hp} {kvs : List (List Key × V)} {xs : List (List Key × Addr × Value)} (r : KT H kvs xs) : ∀ {i : Nat} {p : List Key × V}, kvs[i]? = some p → ∃ q, xs[i]? = some q ∧ RdT H q.2.1 (p.1.map kV) ∧ RelV p.2 q.2.2 := by
  intro i
  induction r generalizing i with
  | nil => intro p h; simp at h
  | cons a t ih =>
    intro p h
    cases i with
    | zero => simp at h; subst h; exact ⟨_, by simp, a.2.1, a.2.2⟩
    | succ i => simp at h; simpa using ih h
theorem turn_itemsT {P : Program} {w : World} {K : PySem.W.Frag} {elts : List Expr} {k : Nat} {pos : Pos} {a it : Addr} {o : Obj} {kvs : List (List Key × V)} {ep : Nat} (hai : a ≠ it) (hep : ∃ es, o.data = .dict es ep) :
    Turn P w K (.Tuple elts k pos) (ItiT a o kvs) [it] it (fun i h => ∃ ok ov, IsItemIter h it a i kvs.length ep ok ov) where
  mem := by simp
  obj := fun i h st b hb => by
    have e : b = it := by simpa using hb
    subst e
    obtain ⟨ok, ov, he⟩ := st
    exact ⟨_, he, fun v z => by
      have z' : Data.fields _ = Data.cell v := z
      cases z'⟩
  keep := fun i h h' st k => let ⟨ok, ov, he⟩ := st; ⟨ok, ov, k it (by simp) _ he⟩
  item := by
    intro X hP hw hK hc i pins s σ H E I hf st hg
    subst hP hw hK
    obtain ⟨ok, ov, he⟩ := st
    obtain ⟨hq, hi⟩ := hg
    obtain ⟨e, z, hd, xs, rel, ob, es, ep', h1, h2, h3, h4, h5⟩ := (show ObjOk X.prog X.w H s.heap a (.frz o (.dT kvs)) from I.hok a _ hq)
    obtain ⟨es', he'⟩ := hep
    rw [e] at h1; cases h1
    rw [he'] at h3; injection h3 with h3a h3b
    subst h3a h3b
    obtain ⟨q, hq1, hq2, hq3⟩ := kt_get rel (List.getElem?_eq_getElem hi)
    have hl := Paired.length rel
    have hsz : es'.size = kvs.length := by rw [← Array.length_toList, h4, List.length_map]; exact hl.symm
    have hx : es'[i]? = some (entryOfKey (tupleKind (mixKind X.prog X.w)) q) := by rw [← Array.getElem?_toList, h4, List.getElem?_map, hq1]; rfl
    refine itmT_item (n := kvs.length) he e he' hsz hx fun h' ho hT hkp => ?_
    have rk : RelV (.ref q.2.1) (entryOfKey (tupleKind (mixKind X.prog X.w)) q).key := rfl
    have rv : RelV kvs[i].2 (entryOfKey (tupleKind (mixKind X.prog X.w)) q).val := hq3
    have I1 : Inv X pins σ (upd H s.heap.objs.size (.tup [.ref q.2.1, kvs[i].2])) { s with heap := h' } := I.turnedT (t' := s.toks) hf (fun b o hb e => hkp b o (fun z => hb (by simp [z])) e) (Nat.le_refl _) (tup2_ok rk rv hT)
    refine ⟨_, rfl, wpAny_letOwnedTupleGo_items (s := { s with heap := h' }) ho fun h'' he'' sb => ?_⟩
    have hlt : it ≠ s.heap.objs.size := Nat.ne_of_lt (Heap.lt_size he)
    obtain ⟨f0, f1, f2, f3, f4, f5⟩ := hf it (by simp)
    have f0' : upd H s.heap.objs.size (.tup [.ref q.2.1, kvs[i].2]) it = none := by rw [upd_ne hlt]; exact f0
    refine ⟨.ref s.heap.objs.size, _, I1.turned (t' := s.toks) (fun b o hb q => (sb.2 b hb).trans q) f0' f1 f3 f4 f5, rfl, ⟨q.2.1, kvs[i], List.getElem?_eq_getElem hi, hq2, _, rfl, I.hok.fresh (Nat.le_refl _), rfl⟩, ⟨_, _, he''⟩, fun b hb => ?_⟩
    have e : b = it := by simpa using hb
    subst e
    exact f0'
  done := by
    intro X hP hw hK hc i pins s σ H E I hf st hg
    subst hP hw hK
    obtain ⟨ok, ov, he⟩ := st
    obtain ⟨hq, hi⟩ := hg
    obtain ⟨e, z, hd, xs, rel, ob, es, ep', h1, h2, h3, h4, h5⟩ := (show ObjOk X.prog X.w H s.heap a (.frz o (.dT kvs)) from I.hok a _ hq)
    obtain ⟨es', he'⟩ := hep
    rw [e] at h1; cases h1
    rw [he'] at h3; injection h3 with h3a h3b
    subst h3a h3b
    have hl := Paired.length rel
    have hsz : es'.size = kvs.length := by rw [← Array.length_toList, h4, List.length_map]; exact hl.symm
    obtain ⟨f0, f1, f2, f3, f4, f5⟩ := hf it (by simp)
    exact itmT_end (n := kvs.length) (I.ok.hd hc) he e he' hsz (by omega) fun h' eb => ⟨rfl, I.turned (t' := s.toks) (fun b o hb e => eb b o hb e) f0 f1 f3 f4 f5⟩
  self := fun _ _ _ _ _ st h => let ⟨_, _, he⟩ := st; PySem.W.kcp_self he h
section
variable {X : Cx} {elts : List Expr} {k : Nat} {tpos apos cpos : Pos} {o : Expr} {to : TE}
theorem pyIter_itemsRaw {P : Program} {w : World} {A : Around} {E : Value → Shared → Prop} {s : Shared} {v d : Addr} {od : Obj} {es : Array DictEntry} {ep : Nat} {Q : Value → Shared → Prop} (hv : s.heap.IsItemsView v d) (hod : s.heap.get? d = some od) (hdd : od.data = .dict es ep)
    (hQ : Q (.ref s.heap.objs.size) { s with heap := s.heap.push { cls := .type "dict_itemiterator", data := .fields #[.none, .bool false, .ref d, .int 0 0, .int es.size 0, .int ep 0, .none, .none] } }) : wpAny (model P w) A (pyIter (.ref v)) Q E s := by
  obtain ⟨ov, hov, hcv, hdv⟩ := id hv
  have own : Builtin.Dict_items.ownsTuple "dict_itemiterator" = true := by decide
  refine wpAny_pyIter_slot hv.typeIs F.slot_dict_items_iter (wpAny_call_entry F.slot_dict_items_iter hv.typeIs F.entry_dict_items_iter ?_ (F.args_dict_items_iter_1 _))
  unfold Builtin.«dict_items.__iter__»
  refine wpAny_bind (wpAny_pure (wpAny_bind ?_))
  unfold Builtin.Dict_items.dictOf
  refine wpAny_bind (wpAny_field hov hdv (x := .ref d) rfl (wpAny_pure (wpAny_bind ?_)))
  unfold Builtin.Dict_items.newIterator
  refine wpAny_bind (wpAny_dictEntries hod hdd (wpAny_bind (wpAny_dictEpoch hod hdd ?_)))
  simp only [own, if_true]
  refine wpAny_newObj_type (wpAny_pure ⟨_, rfl, "dict_itemiterator", _, ⟨_, Heap.get?_push_size _ rfl, rfl⟩, F.slot_dict_itemiterator_next.lookup, ?_⟩) (by simp only [sizeOk, Builtin.Dict_items.ownedTupleFields, List.size_toArray, List.length_append, List.length_cons, List.length_nil, sizeLine_eq]; omega)
  simpa [rawInt, Builtin.Dict_items.ownedTupleFields] using hQ
theorem meets_itemsRaw {P : Program} {w : World} (d : Addr) (hd : (d == sysModules) = false) :
    MeetsIn P w (Builtin.«dict.items» ⟨[.ref d], []⟩) (fun _ R s => s.TypeIs (.ref d) "dict" ∧ R (.ok (.ret (.ref s.heap.objs.size))) { s with heap := s.heap.push { cls := .type "dict_items", data := .fields #[.ref d] } }) :=
  .of_wp fun A R s ⟨hm, h⟩ => by
    unfold Builtin.«dict.items» Builtin.Dict.noArgs
    refine wpAny_bind (wpAny_bind (wpAny_notOrdered_dict hm ?_))
    show wpAny _ _ (pure d) _ _ s
    refine wpAny_pure ?_
    show wpAny _ _ (Builtin.Dict.showsAll d >>= _) _ _ s
    unfold Builtin.Dict.showsAll
    rw [if_neg (fun hz => Bool.false_ne_true (hd.symm.trans hz))]
    exact wpAny_bind (wpAny_pure (wpAny_bind (wpAny_newObj_type (wpAny_pure ⟨_, rfl, h⟩))))
def iItemsT (te : TE) : TI := fun σ H R => te σ H fun x H1 => ∃ a kvs o, x = .ref a ∧ H1 a = some (.frz o (.dT kvs)) ∧ R (ItiT a o kvs) H1
theorem pi_itemsT (ho : SE X o to) (hbase : attributeBase o "items" X.env (eval o X.env) = eval o X.env := by rfl) (hline : (apos.endLine == cpos.line) = true := by rfl) :
    SI X (.Tuple elts k tpos) (.Call (.Attribute o "items" apos) [] [] cpos) (iItemsT to) := by
  constructor
  intro pins s σ H R I h
  refine wpAny_Call_method0_late hbase hline (thn (ho.h pins s σ H _ I h) ?_)
  rintro v s1 ⟨x, H1, I1, r1, a, kvs, o, ex, hH, q⟩
  subst ex
  cases r1
  obtain ⟨e, z, hdm, xs, rel, ob, es, ep, h1, h2, hd, h4, h5⟩ := (show ObjOk X.prog X.w _ s1.heap a (.frz o (.dT kvs)) from I1.hok a _ hH)
  rw [e] at h1; cases h1
  have hl := Paired.length rel
  have hsz : es.size = kvs.length := by rw [← Array.length_toList, h4, List.length_map]; exact hl.symm
  have hT : s1.TypeIs (.ref a) "dict" := ⟨o, e, h2.1⟩
  refine ⟨"dict", "dict.items", PySem.F.plainAttrs_dict, PySem.F.slot_dict_items, PySem.F.type_dict_items, hT, fun b hb => by cases hb; exact ⟨o, e, h2.2.1⟩, Calls.callWith_builtin rfl (PySem.evalArgs_none ?_)⟩
  refine call_meetsIn PySem.F.slot_dict_items hT PySem.F.entry_dict_items (PySem.F.args_dict_items_1 _) (meets_itemsRaw a hdm) ⟨hT, ?_⟩
  have I3 : Inv X pins σ H1 { s1 with heap := s1.heap.push { cls := .type "dict_items", data := .fields #[.ref a] } } := I1.kept (t' := s1.toks) fun b o e => Heap.get?_push_of_some _ e
  refine pyIter_itemsRaw (es := es) (ep := ep) ⟨_, Heap.get?_push_size _ rfl, rfl, rfl⟩ (Heap.get?_push_of_some _ e) hd ?_
  have hne : a ≠ (s1.heap.push { cls := .type "dict_items", data := .fields #[.ref a] }).objs.size := by
    rw [Heap.size_push]; exact Nat.ne_of_lt (Nat.lt_succ_of_lt (Heap.lt_size e))
  refine ⟨_, [(s1.heap.push { cls := .type "dict_items", data := .fields #[.ref a] }).objs.size], _, _, _, rfl, I3.kept (t' := s1.toks) fun b o e => Heap.get?_push_of_some _ e, turn_itemsT (kvs := kvs) (a := a) (o := o) hne ⟨es, hd⟩, ⟨.none, .none, by rw [← hsz]; exact Heap.get?_push_size _ rfl⟩, fun b hb => ?_, q⟩
  have e : b = (s1.heap.push { cls := .type "dict_items", data := .fields #[.ref a] }).objs.size := by simpa using hb
  subst e
  exact I3.fpOk (Nat.le_refl _) (I3.hok.fresh (Nat.le_refl _))
end
end L2
set_option maxRecDepth 100000
namespace L2
open PySem PySem.Spec PyProof.Rows
section
variable {X : Cx} {tg : Expr} {apos cpos : Pos} {o : Expr} {to : TE}
end
section
variable {X : Cx}
end
end L2
set_option maxRecDepth 100000
namespace L2
open PySem PySem.Spec PyProof.Rows
abbrev CL := List (Str × (Int × Int))
def getL (L : CL) (e : Str) : Int × Int := ((L.find? fun x => decide (x.1 = e)).map (·.2)).getD (0, 0)
def putL (L : CL) (e : Str) (p : Int × Int) : CL := if (L.any fun x => decide (x.1 = e)) = true then L.map (fun x => if x.1 = e then (x.1, p) else x) else L ++ [(e, p)]
abbrev CVR (H : Hp) (kv : Key × V) (x : Str × (Int × Int)) : Prop := kv.1 = .inr x.1 ∧ ∃ b, kv.2 = .ref b ∧ H b = some (.tup [.int x.2.1, .int x.2.2])
abbrev CV (H : Hp) : List (Key × V) → CL → Prop := Paired (CVR H)
theorem CV.tk {H H' : Hp} {kvs : List (Key × V)} {L : CL} (h : CV H kvs L) (s : Tk H H') : CV H' kvs L := by
  induction h with
  | nil => exact .nil
  | cons a _ ih => obtain ⟨e, b, h1, h2⟩ := a; exact .cons ⟨e, b, h1, s _ _ h2⟩ ih
theorem CV.get {H : Hp} {kvs : List (Key × V)} {L : CL} (h : CV H kvs L) (e : Str) : (valV kvs (.inr e) = none ∧ e ∉ L.map (·.1) ∧ getL L e = (0, 0)) ∨ ∃ b, valV kvs (.inr e) = some (.ref b) ∧ e ∈ L.map (·.1) ∧ H b = some (.tup [.int (getL L e).1, .int (getL L e).2]) := by
  induction h with
  | nil => exact .inl ⟨rfl, by simp, rfl⟩
  | @cons kv x ks xs a _ ih =>
    obtain ⟨e1, b, h1, h2⟩ := a
    by_cases hx : x.1 = e
    · refine .inr ⟨b, ?_, by simp [hx], ?_⟩
      · rw [valV_pos (by rw [e1, hx]), h1]
      · have g : getL (x :: xs) e = x.2 := by simp [getL, List.find?_cons, hx]
        rw [g]; exact h2
    · have g : getL (x :: xs) e = getL xs e := by simp [getL, List.find?_cons, hx]
      have ne : ¬ kv.1 = Sum.inr e := fun z => hx (Sum.inr.inj (e1.symm.trans z))
      rw [g, valV_neg ne]
      rcases ih with ⟨i1, i2, i3⟩ | ⟨b', i1, i2, i3⟩
      · exact .inl ⟨i1, by simp only [List.map_cons, List.mem_cons, not_or]; exact ⟨fun z => hx z.symm, i2⟩, i3⟩
      · exact .inr ⟨b', i1, by simp only [List.map_cons, List.mem_cons]; exact .inr i2, i3⟩
theorem Paired.snoc {α β : Type} {R : α → β → Prop} {xs : List α} {ys : List β} (h : Paired R xs ys) {x : α} {y : β} (r : R x y) : Paired R (xs ++ [x]) (ys ++ [y]) := by
  induction h with
  | nil => exact .cons r .nil
  | cons a _ ih => exact .cons a ih
theorem CV.put {H : Hp} {kvs : List (Key × V)} {L : CL} (h : CV H kvs L) (e : Str) {b : Addr} {p : Int × Int} (hb : H b = some (.tup [.int p.1, .int p.2])) : CV H (putK kvs (.inr e) (.ref b)) (putL L e p) := by
  rcases h.get e with ⟨h1, h2, _⟩ | ⟨b', h1, h2, h3⟩
  · rw [L2.putK_new _ h1]
    unfold putL
    rw [if_neg fun q => by
      obtain ⟨x, hx, q⟩ := List.any_eq_true.mp q
      exact h2 (List.mem_map.mpr ⟨x, hx, of_decide_eq_true q⟩)]
    exact Paired.snoc h ⟨rfl, b, rfl, hb⟩
  · have a1 : (kvs.any fun kv => decide (kv.1 = (Sum.inr e : Key))) = true := by rw [valV_any, h1]; rfl
    have a2 : (L.any fun x => decide (x.1 = e)) = true := by
      obtain ⟨x, hx, q⟩ := List.mem_map.mp h2
      exact List.any_eq_true.mpr ⟨x, hx, decide_eq_true q⟩
    unfold putK putL
    rw [if_pos a1, if_pos a2]
    clear h1 h2 h3 a1 a2
    induction h with
    | nil => exact .nil
    | @cons kv x ks xs a _ ih =>
      rw [List.map_cons, List.map_cons]
      refine .cons ?_ ih
      obtain ⟨e1, b1, e2, e3⟩ := a
      by_cases hx : x.1 = e
      · rw [if_pos hx, if_pos (by rw [e1, hx])]
        exact ⟨e1, b, rfl, hb⟩
      · rw [if_neg hx, if_neg fun z => hx (Sum.inr.inj (e1.symm.trans z))]
        exact ⟨e1, b1, e2, e3⟩
end L2
set_option maxRecDepth 100000
namespace L2
open PySem PySem.Spec PyProof.Rows
theorem for_pairG {J : It} {ok : Hp → Prop} {n : Nat} {f1 f2 : Nat → V} {g : TG} {tb : TS} {D : Ends} {σ : St} {H : Hp} (hJ : ItP J ok n f1 f2) (Pv : Nat → St → Hp → Prop) (h0 : Pv 0 σ H) (hok : ∀ i τ H, i ≤ n → Pv i τ H → ok H)
    (hs : ∀ i σ H T, i < n → Pv i σ H → H T = none → g (.ref T) σ (upd H T (.tup [f1 i, f2 i])) fun σ2 H2 => tb { D with nx := Pv (i + 1), ct := Pv (i + 1), bk := D.nx } σ2 H2) (hd : ∀ σ H, Pv n σ H → D.nx σ H) :
    ∃ W : Nat → Nat → St → Hp → Prop, (∃ m, W 0 m σ H) ∧ ∀ i m σ H, W i m σ H →
      (J.stop i H ∧ D.nx σ H) ∨ (J.go i H ∧ ∃ N : St → Hp → Prop, (∀ σ' H', N σ' H' → ∃ m', m' < m ∧ W (i + 1) m' σ' H') ∧ ∀ x H', J.yld i H x H' → g x σ H' fun σ2 H2 => tb { D with nx := N, ct := N, bk := D.nx } σ2 H2) := by
  refine ⟨fun i m σ H => m = n - i ∧ i ≤ n ∧ Pv i σ H, ⟨n, by simp, Nat.zero_le _, h0⟩, ?_⟩
  rintro i m σ H ⟨rfl, hi, p⟩
  obtain ⟨k1, k2⟩ := hJ H (hok i σ H hi p)
  by_cases hlt : i < n
  · refine .inr ⟨(k1 i hlt).1, Pv (i + 1), fun σ' H' p' => ⟨n - (i + 1), by omega, rfl, hlt, p'⟩, fun x H' y => ?_⟩
    obtain ⟨T, rfl, hT, rfl⟩ := (k1 i hlt).2 x H' y
    exact hs i σ _ T hlt p hT
  · have e : i = n := by omega
    subst e
    exact .inl ⟨k2, hd σ H p⟩
theorem for_itemsT {K : PySem.W.Frag} {ad : Addr} {o : Obj} {kvs : List (List Key × V)} {a b : Nat} {tb : TS} {D : Ends} {σ : St} {H : Hp} (Pv : Nat → St → Hp → Prop) (h0 : Pv 0 σ H) (hok : ∀ i τ H, i ≤ kvs.length → Pv i τ H → H ad = some (.frz o (.dT kvs)))
    (hs : ∀ i σ H T c, (h : i < kvs.length) → Pv i σ H → H T = none → RdT H c (kvs[i].1.map kV) → tb { D with nx := Pv (i + 1), ct := Pv (i + 1), bk := D.nx } ((σ.set a (some (.ref c))).set b (some kvs[i].2)) (upd H T (.tup [.ref c, kvs[i].2]))) (hd : ∀ σ H, Pv kvs.length σ H → D.nx σ H) :
    ∃ W : Nat → Nat → St → Hp → Prop, (∃ m, W 0 m σ H) ∧ ∀ i m σ H, W i m σ H →
      ((ItiT ad o kvs).stop i H ∧ D.nx σ H) ∨ ((ItiT ad o kvs).go i H ∧ ∃ N : St → Hp → Prop, (∀ σ' H', N σ' H' → ∃ m', m' < m ∧ W (i + 1) m' σ' H') ∧ ∀ x H', (ItiT ad o kvs).yld i H x H' → g2 K a b x σ H' fun σ2 H2 => tb { D with nx := N, ct := N, bk := D.nx } σ2 H2) := by
  refine ⟨fun i m σ H => m = kvs.length - i ∧ i ≤ kvs.length ∧ Pv i σ H, ⟨kvs.length, by simp, Nat.zero_le _, h0⟩, ?_⟩
  rintro i m σ H ⟨rfl, hi, p⟩
  have hk := hok i σ H hi p
  by_cases hlt : i < kvs.length
  · refine .inr ⟨⟨hk, hlt⟩, Pv (i + 1), fun σ' H' p' => ⟨kvs.length - (i + 1), by omega, rfl, hlt, p'⟩, fun x H' y => ?_⟩
    obtain ⟨c, kv, hkv, rd, T, rfl, hT, rfl⟩ := y
    have e : kv = kvs[i] := by rw [List.getElem?_eq_getElem hlt] at hkv; exact (Option.some.inj hkv).symm
    subst e
    exact g2_at upd_same (hs i σ _ T c hlt p hT rd)
  · have e : i = kvs.length := by omega
    subst e
    exact .inl ⟨⟨hk, rfl⟩, hd σ H p⟩
theorem movesE_on {rows : List Rw2} {e : Str} (h : endOf rows e = e) : movesE rows (hdOf rows e) = onE rows e := by
  unfold movesE onE onOf
  rw [h, List.map_map]; rfl
theorem Paired.at {α β : Type} {R : α → β → Prop} {xs : List α} {ys : List β} (h : Paired R xs ys) : ∀ i (h1 : i < xs.length) (h2 : i < ys.length), R xs[i] ys[i] := by
  induction h with
  | nil => intro i h1; exact absurd h1 (by simp)
  | cons a _ ih =>
    intro i h1 h2
    cases i with
    | zero => exact a
    | succ i => exact ih i (by simpa using h1) (by simpa using h2)
theorem DGet.same {H H' : Hp} {a : Addr} {y : V} {r : Option V} (g : DGet H a y r) (s : Same H H') : DGet H' a y r := by
  rcases g with ⟨kvs, k, h1, h2, h3⟩ | ⟨kvs, k, b, h1, h2, h3, h4⟩
  · exact .inl ⟨kvs, k, h1.same s, h2, h3⟩
  · exact .inr ⟨kvs, k, b, h1.same s, h2, h3.same s, h4⟩
end L2
set_option maxRecDepth 100000
namespace L2
open PySem PySem.Spec PyProof.Rows
section
variable {prog : Program} {w : World} {A : Around} {R : Result → Shared → Prop} {s : Shared}
end
section
variable {X : Cx} {t1 i1 t2 i2 elt : Expr} {ifs : List Expr} {tc : TC} {sc : Scope} {pos : Pos} {own : List Str} {idx : List Nat} {N' : List Str} {wi wi2 : TI} {g g2 : TG} {te : TE}
end
end L2
set_option maxRecDepth 100000
namespace L2
open PySem PySem.Spec PyProof.Rows
section
variable {X : Cx} {tg e : Expr} {te : TE}
end
section
variable {P : Program} {w : World} {A : Around} {E : Value → Shared → Prop} {s : Shared} {it d : Addr} {i n ep : Nat} {od : Obj} {es : Array DictEntry} {Q : Option Value → Shared → Prop}
end
section
variable {X : Cx} {tg : Expr} {apos cpos : Pos} {o : Expr} {to : TE}
end
end L2
set_option maxRecDepth 100000
namespace L2
open PySem PySem.Spec PyProof.Rows
section
variable {P : Program} {w : World} {A : Around} {E : Value → Shared → Prop} {s : Shared}
end
section
variable {X : Cx} {tg a : Expr} {ta : TA} {p p2 pos pos2 : Pos}
end
section
variable {X : Cx}
structure RL (H : Hp) (us : List V) (rs : List (List (List Str))) : Prop where
  len : us.length = rs.length
  at_ : ∀ i (h : i < us.length) (h' : i < rs.length), ∃ c xs, us[i] = .ref c ∧ H c = some (.tup xs) ∧ SV H xs rs[i]
theorem RL.same {H H' : Hp} {us : List V} {rs : List (List (List Str))} (h : RL H us rs) (s : Same H H') : RL H' us rs := ⟨h.len, fun i a b => let ⟨c, xs, h1, h2, h3⟩ := h.at_ i a b; ⟨c, xs, h1, s _ _ h2, h3.same s⟩⟩
theorem RL.nil {H : Hp} : RL H [] [] := ⟨rfl, fun i h => absurd h (by simp)⟩
theorem RL.snoc {H : Hp} {us : List V} {rs : List (List (List Str))} (h : RL H us rs) {c : Addr} {xs : List V} {r : List (List Str)} (e : H c = some (.tup xs)) (sv : SV H xs r) : RL H (us ++ [.ref c]) (rs ++ [r]) := by
  have hl := h.len
  refine ⟨by simp [hl], fun i h1 h2 => ?_⟩
  by_cases hlt : i < us.length
  · rw [List.getElem_append_left hlt, List.getElem_append_left (by omega)]
    exact h.at_ i hlt (by omega)
  · have e' : i = us.length := by simp at h1; omega
    subst e'
    rw [List.getElem_append_right (Nat.le_refl _), List.getElem_append_right (by omega)]
    simp only [Nat.sub_self, hl, List.getElem_cons_zero]
    exact ⟨c, xs, rfl, e, sv⟩
theorem RL.keep {H H' : Hp} {us : List V} {rs : List (List (List Str))} (h : RL H us rs) (s : Tk H H') (s2 : ∀ b ys, RdT H b ys → RdT H' b ys) : RL H' us rs := ⟨h.len, fun i a b => let ⟨c, xs, h1, h2, h3⟩ := h.at_ i a b; ⟨c, xs, h1, s _ _ h2, h3.keep s2⟩⟩
theorem road_eq {pins : List (Addr × Obj)} {σ : St} {H : Hp} {s : Shared} (I : Inv X pins σ H s) {a b : Addr} {xs ys : List V} {r : List (List Str)} (h1 : H a = some (.tup xs)) (h2 : H b = some (.tup ys)) (v1 : SV H xs r) (v2 : SV H ys r) {A : Around} (hu : A.units + 4 < cLine) : SeqAt.EqAt A s (.ref a) (.ref b) true := by
  by_cases hab : a = b
  · subst hab; exact SeqAt.EqAt.same _
  · obtain ⟨i1, r1, p1, _⟩ := I.tuple (SqT.of h1)
    obtain ⟨i2, r2, p2, _⟩ := I.tuple (SqT.of h2)
    have l1 := r1.length
    have l2 := r2.length
    have k1 := v1.len
    have k2 := v2.len
    have := SeqAt.RcAt.tuples (A := A) (e := fun _ => true) p1 p2 (by omega) fun j g1 g2 => by
      have j1 : j < xs.length := by simp at g1; omega
      have j2 : j < ys.length := by simp at g2; omega
      obtain ⟨c, e1, m1⟩ := v1.at_ j j1 (by omega)
      obtain ⟨c', e2, m2⟩ := v2.at_ j j2 (by omega)
      obtain ⟨w1, f1, q1⟩ := r1.get (List.getElem?_eq_getElem j1)
      obtain ⟨w2, f2, q2⟩ := r2.get (List.getElem?_eq_getElem j2)
      have n1 : i1.toArray[j] = w1 := by rw [List.getElem?_eq_getElem (by simpa using g1)] at f1; simpa using f1
      have n2 : i2.toArray[j] = w2 := by rw [List.getElem?_eq_getElem (by simpa using g2)] at f2; simpa using f2
      rw [n1, n2]
      rw [e1] at q1
      rw [e2] at q2
      cases q1
      cases q2
      have := step_eq I m1 m2 (A := A.in1) (by rw [Around.in1_units]; omega)
      simpa using this
    have e : ((List.range (min i1.toArray.size i2.toArray.size)).all (fun _ => true) && i1.toArray.size == i2.toArray.size) = true := by simp; omega
    rw [e] at this
    exact SeqAt.EqAt.of_refs hab this
end
end L2
set_option maxRecDepth 100000
namespace L2
open PySem PySem.Spec PyProof.Rows
abbrev Road := List (List Str)
def allP (rows : List Rw2) : Nat → Str → List (Road × Str)
  | 0, e => [([], e)]
  | n + 1, e => (onOf rows e).flatMap fun m => (allP rows n m.2).map fun q => (m.1 :: q.1, q.2)
def allR (rows : List Rw2) (n : Nat) (e : Str) : List Road := (allP rows n e).map (·.1)
theorem allR_zero (rows : List Rw2) (e : Str) : allR rows 0 e = [[]] := rfl
theorem allP_succ (rows : List Rw2) (n : Nat) (e : Str) : allP rows (n + 1) e = (onOf rows e).flatMap fun m => (allP rows n m.2).map fun q => (m.1 :: q.1, q.2) := rfl
theorem allR_succ (rows : List Rw2) (n : Nat) (e : Str) : allR rows (n + 1) e = (onOf rows e).flatMap fun m => (allR rows n m.2).map (m.1 :: ·) := by
  unfold allR
  rw [allP_succ, List.map_flatMap]
  congr 1
  funext m
  simp [List.map_map, Function.comp_def]
theorem allP_add (rows : List Rw2) (m : Nat) : ∀ (n : Nat) (e : Str), allP rows (n + m) e = (allP rows n e).flatMap fun q => (allP rows m q.2).map fun r => (q.1 ++ r.1, r.2)
  | 0, e => by simp [allP]
  | n + 1, e => by
    rw [show n + 1 + m = (n + m) + 1 by omega]
    show (onOf rows e).flatMap _ = ((onOf rows e).flatMap _).flatMap _
    rw [List.flatMap_assoc]
    congr 1
    funext s
    rw [allP_add rows m n s.2, List.map_flatMap, List.flatMap_map]
    congr 1
    funext q
    simp [List.map_map, Function.comp_def]
section
variable {H : Hp} {a : Addr} {xs : List V} {rows : List Rw2} {ns ws : List Str}
theorem RT.mvMem (rt : RT H a xs rows ns ws) (hw : ∀ z ∈ ws, Wd z) {e : Str} (he : EndN rows ns e) {m : List Str × Str} (hm : m ∈ onOf rows e) : L2.mvAt rows e m.1 = some m.2 ∧ EndN rows ns m.2 := by
  have nd := rt.onNd hw he.1
  have h1 : L2.mvAt rows e m.1 = some m.2 := by
    unfold L2.mvAt
    have e1 : (onE rows e).map (·.1) = ((onOf rows e).map (·.1)).map fun m => m.map (Sum.inr : Str → Key) := by simp [onE, List.map_map, Function.comp_def]
    rw [e1] at nd
    have nd' : ((onOf rows e).map (·.1)).Nodup := (List.pairwise_map.mp nd).imp fun h z => h (congrArg _ z)
    clear e1 nd
    revert hm nd'
    generalize onOf rows e = L
    intro hm nd'
    induction L with
    | nil => cases hm
    | cons x l ih =>
      rw [List.map_cons, List.nodup_cons] at nd'
      rcases List.mem_cons.mp hm with rfl | hm
      · simp [List.find?_cons]
      · have ne : ¬ x.1 = m.1 := fun z => nd'.1 (by rw [z]; exact List.mem_map.mpr ⟨m, hm, rfl⟩)
        rw [List.find?_cons, decide_eq_false ne]
        exact ih hm nd'.2
  exact ⟨h1, rt.mvAt hw he h1⟩
end
theorem allR_mono (rows : List Rw2) : ∀ (n : Nat) (e : Str), allR rows (n + 1) e ≠ [] → allR rows n e ≠ []
  | 0, e, _ => by rw [allR_zero]; simp
  | n + 1, e, h => by
    rw [allR_succ] at h ⊢
    intro h2
    apply h
    rw [List.flatMap_eq_nil_iff] at h2 ⊢
    intro m hm
    have := h2 m hm
    rw [List.map_eq_nil_iff] at this ⊢
    by_cases hz : allR rows (n + 1) m.2 = []
    · exact hz
    · exact absurd this (allR_mono rows n m.2 hz)
theorem allR_any (rows : List Rw2) (n : Nat) (e : Str) : decide (allR rows (n + 1) e ≠ []) = (onOf rows e).any fun m => decide (allR rows n m.2 ≠ []) := by
  rw [allR_succ, Bool.eq_iff_iff, List.any_eq_true]
  simp only [decide_eq_true_eq]
  constructor
  · intro h
    have : ∃ m ∈ onOf rows e, (allR rows n m.2).map (m.1 :: ·) ≠ [] := Classical.byContradiction fun hc => h (List.flatMap_eq_nil_iff.mpr fun m hm => Classical.byContradiction fun hz => hc ⟨m, hm, hz⟩)
    obtain ⟨m, hm, hz⟩ := this
    exact ⟨m, hm, fun z => hz (by rw [z]; rfl)⟩
  · rintro ⟨m, hm, hz⟩ h
    have := List.flatMap_eq_nil_iff.mp h m hm
    rw [List.map_eq_nil_iff] at this
    exact hz this
end L2
set_option maxRecDepth 100000
namespace L2
open PySem PySem.Spec PyProof.Rows
structure FL (H : Hp) (us : List V) (F : List (Road × Str)) : Prop where
  len : us.length = F.length
  at_ : ∀ i (h : i < us.length) (h' : i < F.length), ∃ c b xs, us[i] = .ref c ∧ H c = some (.tup [.ref b, .str F[i].2]) ∧ H b = some (.tup xs) ∧ SV H xs F[i].1
theorem FL.keep {H H' : Hp} {us : List V} {F : List (Road × Str)} (h : FL H us F) (s : Tk H H') (s2 : ∀ b ys, RdT H b ys → RdT H' b ys) : FL H' us F := ⟨h.len, fun i a b => let ⟨c, d, xs, h1, h2, h3, h4⟩ := h.at_ i a b; ⟨c, d, xs, h1, s _ _ h2, s _ _ h3, h4.keep s2⟩⟩
theorem FL.same {H H' : Hp} {us : List V} {F : List (Road × Str)} (h : FL H us F) (s : Same H H') : FL H' us F := h.keep s.ts fun _ _ r => r.same s
theorem FL.nil {H : Hp} : FL H [] [] := ⟨rfl, fun i h => absurd h (by simp)⟩
theorem FL.snoc {H : Hp} {us : List V} {F : List (Road × Str)} (h : FL H us F) {c b : Addr} {xs : List V} {q : Road × Str} (e1 : H c = some (.tup [.ref b, .str q.2])) (e2 : H b = some (.tup xs)) (sv : SV H xs q.1) : FL H (us ++ [.ref c]) (F ++ [q]) := by
  have hl := h.len
  refine ⟨by simp [hl], fun i h1 h2 => ?_⟩
  by_cases hlt : i < us.length
  · rw [List.getElem_append_left hlt, List.getElem_append_left (by omega)]
    exact h.at_ i hlt (by omega)
  · have e' : i = us.length := by simp at h1; omega
    subst e'
    rw [List.getElem_append_right (Nat.le_refl _), List.getElem_append_right (by omega)]
    simp only [Nat.sub_self, hl, List.getElem_cons_zero]
    exact ⟨c, b, xs, rfl, e1, e2, sv⟩
end L2
set_option maxRecDepth 100000
namespace L2
open PySem PySem.Spec PyProof.Rows
section
variable {X : Cx} {pos : Pos}
theorem s_aug {i : Nat} {x : Str} {e : Expr} {te : TE} {op : Operator} {ti : TIp} {pos' : Pos} (hN : X.N.Nodup) (hi : X.N[i]? = some x) (hx : Loc X.env.scope x) (he : SE X e te) (ho : PIp X op ti) (hf : X.fn x = true ∨ X.env.scope.names.lookup x = some .local := by first | exact .inl rfl | exact .inr rfl | assumption) :
    SS X (.AugAssign (.Name x pos') op e pos) (tAug i te ti) := ⟨ps_aug hN hi hx he.h ho hf⟩
theorem paired_idx {α β : Type} {R : α → β → Prop} : ∀ {l : List α} {m : List β}, l.length = m.length → (∀ i (h : i < l.length) (h' : i < m.length), R l[i] m[i]) → Paired R l m
  | [], [], _, _ => .nil
  | a :: l, b :: m, hl, h => .cons (h 0 (by simp) (by simp)) (paired_idx (by simpa using hl) fun i h1 h2 => by
      have := h (i + 1) (by simpa using h1) (by simpa using h2)
      simpa using this)
  | [], _ :: _, hl, _ => absurd hl (by simp)
  | _ :: _, [], hl, _ => absurd hl (by simp)
end
end L2
set_option maxRecDepth 100000
namespace L2
open PySem PySem.Spec PyProof.Rows
abbrev CBL := List (Str × Option (Str × List Str))
def addOn (row : Str) (cb : CBL) (ms : List (List Str × Str)) : CBL := ms.foldl (fun cb m => if m.2 ∈ cb.map (·.1) then cb else cb ++ [(m.2, some (row, m.1))]) cb
def bfsN (rows : List Rw2) (f : Str) : Nat → CBL
  | 0 => [(f, none)]
  | i + 1 => match (bfsN rows f i)[i]? with
    | none => bfsN rows f i
    | some c => addOn c.1 (bfsN rows f i) (onOf rows c.1)
theorem addOn_snoc (row : Str) (cb : CBL) (ms : List (List Str × Str)) (m : List Str × Str) : addOn row cb (ms ++ [m]) = if m.2 ∈ (addOn row cb ms).map (·.1) then addOn row cb ms else addOn row cb ms ++ [(m.2, some (row, m.1))] := by
  unfold addOn
  rw [List.foldl_append]
  rfl
structure BI (rows : List Rw2) (ns : List Str) (i : Nat) (cb : CBL) : Prop where
  nd : (cb.map (·.1)).Nodup
  en : ∀ c ∈ cb, EndN rows ns c.1
  cl : ∀ j c, j < i → cb[j]? = some c → ∀ m ∈ onOf rows c.1, m.2 ∈ cb.map (·.1)
theorem BI.snoc {rows : List Rw2} {ns : List Str} {i : Nat} {cb : CBL} (h : BI rows ns i cb) (hi : i ≤ cb.length) {e : Str} {x : Option (Str × List Str)} (he : EndN rows ns e) (hn : e ∉ cb.map (·.1)) : BI rows ns i (cb ++ [(e, x)]) := by
  refine ⟨?_, fun c hc => ?_, fun j c hj hc m hm => ?_⟩
  · rw [List.map_append, List.nodup_append]
    refine ⟨h.nd, by simp, fun a ha b hb => ?_⟩
    rw [List.map_cons, List.map_nil, List.mem_singleton] at hb
    subst hb
    exact fun z => hn (z ▸ ha)
  · rcases List.mem_append.mp hc with hc | hc
    · exact h.en c hc
    · rw [List.mem_singleton.mp hc]; exact he
  · rw [List.getElem?_append_left (by omega)] at hc
    rw [List.map_append]
    exact List.mem_append.mpr (.inl (h.cl j c hj hc m hm))
theorem nodup_sub : ∀ {l m : List Str}, l.Nodup → (∀ x ∈ l, x ∈ m) → l.length ≤ m.length
  | [], m, _, _ => Nat.zero_le _
  | a :: l, m, nd, h => by
    have ha := h a List.mem_cons_self
    have h1 := nodup_sub (l := l) (m := m.erase a) (List.nodup_cons.mp nd).2 fun x hx => (List.mem_erase_of_ne (show x ≠ a from fun z => (List.nodup_cons.mp nd).1 (by rw [← z]; exact hx))).mpr (h x (List.mem_cons_of_mem _ hx))
    rw [List.length_erase_of_mem ha] at h1
    have hp := List.length_pos_of_mem ha
    rw [List.length_cons]
    omega
theorem BI.few {rows : List Rw2} {ns : List Str} {i : Nat} {cb : CBL} (h : BI rows ns i cb) : cb.length ≤ ns.length := by
  have := nodup_sub (m := ns) h.nd fun x hx => by
    obtain ⟨c, hc, rfl⟩ := List.mem_map.mp hx
    exact (h.en c hc).1
  simpa using this
def CBV (H : Hp) (v : V) : Option (Str × List Str) → Prop
  | none => v = .non
  | some q => ∃ t b, v = .ref t ∧ H t = some (.tup [.str q.1, .ref b]) ∧ RdT H b (q.2.map V.str)
theorem CBV.keep {H H' : Hp} {v : V} {o : Option (Str × List Str)} (h : CBV H v o) (s : Tk H H') (s2 : ∀ b ys, RdT H b ys → RdT H' b ys) : CBV H' v o := by
  cases o with
  | none => exact h
  | some q =>
    obtain ⟨t, b, h1, h2, h3⟩ := h
    exact ⟨t, b, h1, s _ _ h2, s2 _ _ h3⟩
def CBr (H : Hp) (kvs : List (Key × V)) (cb : CBL) : Prop := Paired (fun (kv : Key × V) (c : Str × Option (Str × List Str)) => kv.1 = .inr c.1 ∧ CBV H kv.2 c.2) kvs cb
theorem CBr.keep {H H' : Hp} {kvs : List (Key × V)} {cb : CBL} (h : CBr H kvs cb) (s : Tk H H') (s2 : ∀ b ys, RdT H b ys → RdT H' b ys) : CBr H' kvs cb := by
  unfold CBr at *
  induction h with
  | nil => exact .nil
  | cons a _ ih => exact .cons ⟨a.1, a.2.keep s s2⟩ ih
theorem CBr.same {H H' : Hp} {kvs : List (Key × V)} {cb : CBL} (h : CBr H kvs cb) (s : Same H H') : CBr H' kvs cb := h.keep s.ts fun _ _ r => r.same s
theorem CBr.snoc {H : Hp} {kvs : List (Key × V)} {cb : CBL} (h : CBr H kvs cb) {e : Str} {v : V} {o : Option (Str × List Str)} (q : CBV H v o) : CBr H (kvs ++ [(.inr e, v)]) (cb ++ [(e, o)]) := by
  unfold CBr at *
  induction h with
  | nil => exact .cons ⟨rfl, q⟩ .nil
  | cons a _ ih => exact .cons a ih
theorem CBr.keys {H : Hp} {kvs : List (Key × V)} {cb : CBL} (h : CBr H kvs cb) : kvs.map (·.1) = cb.map fun c => (.inr c.1 : Key) := by
  unfold CBr at *
  induction h with
  | nil => rfl
  | cons a _ ih => rw [List.map_cons, List.map_cons, a.1, ih]
theorem CBr.in_ {H : Hp} {kvs : List (Key × V)} {cb : CBL} (h : CBr H kvs cb) (e : Str) : (valV kvs (.inr e)).isSome = decide (e ∈ cb.map (·.1)) := by
  have hk := h.keys
  rw [Bool.eq_iff_iff, ← valV_any, List.any_eq_true, decide_eq_true_iff]
  constructor
  · rintro ⟨kv, h1, h2⟩
    have : kv.1 ∈ kvs.map (·.1) := List.mem_map.mpr ⟨kv, h1, rfl⟩
    rw [hk, of_decide_eq_true h2] at this
    obtain ⟨c, hc, e'⟩ := List.mem_map.mp this
    exact List.mem_map.mpr ⟨c, hc, Sum.inr.inj e'⟩
  · intro he
    obtain ⟨c, hc, rfl⟩ := List.mem_map.mp he
    have : (.inr c.1 : Key) ∈ kvs.map (·.1) := by rw [hk]; exact List.mem_map.mpr ⟨c, hc, rfl⟩
    obtain ⟨kv, h1, h2⟩ := List.mem_map.mp this
    exact ⟨kv, h1, decide_eq_true h2⟩
end L2
set_option maxRecDepth 100000
namespace L2
open PySem PySem.Spec PyProof.Rows
section
variable {X : Cx} {tg iter kx vx : Expr} {ifs : List Expr} {tc : TC} {sc : Scope} {pos : Pos} {own : List Str} {idx : List Nat} {N' : List Str} {wi : TI} {g : TG} {tk tw : TE}
end
structure SL (H : Hp) (us : List V) (ss : List (List Str × Str)) : Prop where
  len : us.length = ss.length
  at_ : ∀ i (h : i < us.length) (h' : i < ss.length), ∃ c b, us[i] = .ref c ∧ H c = some (.tup [.ref b, .str ss[i].2]) ∧ RdT H b (ss[i].1.map V.str)
theorem SL.nil {H : Hp} : SL H [] [] := ⟨rfl, fun i h => absurd h (by simp)⟩
theorem SL.keep {H H' : Hp} {us : List V} {ss : List (List Str × Str)} (h : SL H us ss) (s : Tk H H') (s2 : ∀ b ys, RdT H b ys → RdT H' b ys) : SL H' us ss := ⟨h.len, fun i a b => by
  obtain ⟨c, d, h1, h2, h3⟩ := h.at_ i a b
  exact ⟨c, d, h1, s _ _ h2, s2 _ _ h3⟩⟩
theorem SL.snoc {H : Hp} {us : List V} {ss : List (List Str × Str)} (h : SL H us ss) {c b : Addr} {q : List Str × Str} (e1 : H c = some (.tup [.ref b, .str q.2])) (e2 : RdT H b (q.1.map V.str)) : SL H (us ++ [.ref c]) (ss ++ [q]) := by
  have hl := h.len
  refine ⟨by simp [hl], fun i h1 h2 => ?_⟩
  by_cases hlt : i < us.length
  · rw [List.getElem_append_left hlt, List.getElem_append_left (by omega)]
    exact h.at_ i hlt (by omega)
  · have e' : i = us.length := by simp at h1; omega
    subst e'
    rw [List.getElem_append_right (Nat.le_refl _), List.getElem_append_right (by omega)]
    simp only [Nat.sub_self, hl, List.getElem_cons_zero]
    exact ⟨c, b, rfl, e1, e2⟩
structure Srcs (H0 H : Hp) (kvs : List (Key × V)) (R : List Str) (f : Str → List (List Str × Str)) : Prop where
  len : kvs.length = R.length
  at_ : ∀ i (h : i < kvs.length) (h' : i < R.length), kvs[i].1 = .inr R[i] ∧ ∃ l us, kvs[i].2 = .ref l ∧ H0 l = none ∧ H l = some (.lst us) ∧ SL H us (f R[i])
  inj : ∀ i j (hi : i < kvs.length) (hj : j < kvs.length), kvs[i].2 = kvs[j].2 → i = j
theorem Srcs.keys {H0 H : Hp} {kvs : List (Key × V)} {R : List Str} {f : Str → List (List Str × Str)} (h : Srcs H0 H kvs R f) : kvs.map (·.1) = R.map (Sum.inr : Str → Key) := by
  have hl := h.len
  refine List.ext_getElem (by simp [hl]) fun i h1 h2 => ?_
  rw [List.length_map] at h1 h2
  rw [List.getElem_map, List.getElem_map]
  exact (h.at_ i h1 h2).1
theorem Srcs.same {H0 H H' : Hp} {kvs : List (Key × V)} {R : List Str} {f : Str → List (List Str × Str)} (h : Srcs H0 H kvs R f) (s : Same H H') : Srcs H0 H' kvs R f := ⟨h.len, fun i a b => by
  obtain ⟨h1, l, us, h2, h3, h4, h5⟩ := h.at_ i a b
  exact ⟨h1, l, us, h2, h3, s _ _ h4, h5.keep s.ts fun _ _ r => r.same s⟩, h.inj⟩
theorem Srcs.put {H0 H : Hp} {kvs : List (Key × V)} {R : List Str} {f : Str → List (List Str × Str)} (h : Srcs H0 H kvs R f) {e : Str} {l : Addr} (hl0 : H0 l = none) (hl : H l = some (.lst [])) (hne : ∀ i (hi : i < kvs.length), kvs[i].2 ≠ .ref l) (hf : f e = []) : Srcs H0 H (kvs ++ [(.inr e, .ref l)]) (R ++ [e]) f := by
  have hlen := h.len
  refine ⟨by simp [hlen], fun i h1 h2 => ?_, fun i j hi hj he => ?_⟩
  · by_cases hlt : i < kvs.length
    · rw [List.getElem_append_left hlt, List.getElem_append_left (by omega)]
      exact h.at_ i hlt (by omega)
    · have e' : i = kvs.length := by simp at h1; omega
      subst e'
      rw [List.getElem_append_right (Nat.le_refl _), List.getElem_append_right (by omega)]
      simp only [Nat.sub_self, hlen, List.getElem_cons_zero]
      exact ⟨trivial, l, [], rfl, hl0, hl, by rw [hf]; exact SL.nil⟩
  · simp only [List.length_append, List.length_cons, List.length_nil] at hi hj
    by_cases hlt : i < kvs.length <;> by_cases hlj : j < kvs.length
    · rw [List.getElem_append_left hlt, List.getElem_append_left hlj] at he
      exact h.inj i j hlt hlj he
    · have ej : j = kvs.length := by omega
      subst ej
      rw [List.getElem_append_left hlt, List.getElem_append_right (Nat.le_refl _)] at he
      simp only [Nat.sub_self, List.getElem_cons_zero] at he
      exact absurd he (hne i hlt)
    · have ei : i = kvs.length := by omega
      subst ei
      rw [List.getElem_append_left hlj, List.getElem_append_right (Nat.le_refl _)] at he
      simp only [Nat.sub_self, List.getElem_cons_zero] at he
      exact absurd he.symm (hne j hlj)
    · omega
theorem Srcs.push {H0 H : Hp} {kvs : List (Key × V)} {R : List Str} {f f' : Str → List (List Str × Str)} (h : Srcs H0 H kvs R f) (nd : R.Nodup) {k : Nat} (hk : k < kvs.length) (hk' : k < R.length) {l c b : Addr} {us : List V} {q : List Str × Str} (hv : kvs[k].2 = .ref l) (hl : H l = some (.lst us)) (hc : H c = some (.tup [.ref b, .str q.2])) (hb : RdT H b (q.1.map V.str))
    (f1 : f' R[k] = f R[k] ++ [q]) (f2 : ∀ e, e ≠ R[k] → f' e = f e) : Srcs H0 (upd H l (.lst (us ++ [.ref c]))) kvs R f' := by
  have tk : Tk H (upd H l (.lst (us ++ [.ref c]))) := (Tk.refl).set hl fun _ z => nomatch z
  have rdk : ∀ b' ys, RdT H b' ys → RdT (upd H l (.lst (us ++ [.ref c]))) b' ys := fun b' ys h => h.put hl (fun _ z => nomatch z) (fun _ _ z => nomatch z)
  refine ⟨h.len, fun i h1 h2 => ?_, h.inj⟩
  obtain ⟨g1, l', us', g2, g3, g4, g5⟩ := h.at_ i h1 h2
  by_cases hik : i = k
  · subst hik
    rw [hv] at g2
    cases g2
    rw [hl] at g4
    cases g4
    exact ⟨g1, l, us ++ [.ref c], hv, g3, upd_same, by rw [f1]; exact (g5.keep tk rdk).snoc (tk _ _ hc) (rdk _ _ hb)⟩
  · have nl : l' ≠ l := fun z => hik (h.inj i k h1 hk (by rw [g2, hv, z]))
    refine ⟨g1, l', us', g2, g3, by rw [upd_ne nl]; exact g4, ?_⟩
    rw [f2 _ fun z => hik ((List.getElem_inj nd).mp z)]
    exact g5.keep tk rdk
def srcP (rows : List Rw2) (r e : Str) (ms : List (List Str × Str)) : List (List Str × Str) := (ms.filter fun m => decide (m.2 = e)).map fun m => (m.1, r)
def srcE (rows : List Rw2) (R : List Str) (e : Str) : List (List Str × Str) := R.flatMap fun r => srcP rows r e (onOf rows r)
end L2
set_option maxRecDepth 100000
namespace L2
open PySem PySem.Spec PyProof.Rows
def Hgt (rows : List Rw2) (e : Str) (k : Nat) : Prop := allR rows k e ≠ [] ∧ allR rows (k + 1) e = []
theorem allR_le (rows : List Rw2) (e : Str) {i j : Nat} (h : i ≤ j) (hj : allR rows j e ≠ []) : allR rows i e ≠ [] := by
  induction h with
  | refl => exact hj
  | step _ ih => exact ih (allR_mono rows _ e hj)
theorem allR_ge (rows : List Rw2) (e : Str) {i j : Nat} (h : i ≤ j) (hi : allR rows i e = []) : allR rows j e = [] := by
  cases hj : allR rows j e with
  | nil => rfl
  | cons a l => exact absurd hi (allR_le rows e h (by rw [hj]; simp))
theorem allR_ne (rows : List Rw2) (n : Nat) (e : Str) : allR rows (n + 1) e ≠ [] ↔ ∃ m ∈ onOf rows e, allR rows n m.2 ≠ [] := by
  have h := allR_any rows n e
  constructor
  · intro h1
    rw [decide_eq_true h1] at h
    obtain ⟨m, h2, h3⟩ := List.any_eq_true.mp h.symm
    exact ⟨m, h2, of_decide_eq_true h3⟩
  · rintro ⟨m, h2, h3⟩
    have : ((onOf rows e).any fun m => decide (allR rows n m.2 ≠ [])) = true := List.any_eq_true.mpr ⟨m, h2, decide_eq_true h3⟩
    rw [this] at h
    exact of_decide_eq_true h
theorem Hgt.up {rows : List Rw2} {r : Str} (hv : Str → Nat) (h : ∀ m ∈ onOf rows r, Hgt rows m.2 (hv m.2)) {k : Nat} (hk : ∃ m ∈ onOf rows r, hv m.2 = k) (hle : ∀ m ∈ onOf rows r, hv m.2 ≤ k) : Hgt rows r (k + 1) := by
  obtain ⟨m, h1, h2⟩ := hk
  refine ⟨(allR_ne rows k r).mpr ⟨m, h1, by rw [← h2]; exact (h m h1).1⟩, ?_⟩
  cases hj : allR rows (k + 1 + 1) r with
  | nil => rfl
  | cons a l =>
    obtain ⟨m', h3, h4⟩ := (allR_ne rows (k + 1) r).mp (by rw [hj]; simp)
    exact absurd (allR_ge rows m'.2 (by have := hle m' h3; omega) (h m' h3).2) h4
theorem Hgt.zero {rows : List Rw2} {r : Str} (h : onOf rows r = []) : Hgt rows r 0 := ⟨by rw [allR_zero]; simp, by rw [allR_succ, h]; rfl⟩
def cntU (rows : List Rw2) (p : Str → Bool) (r : Str) : Nat := (onOf rows r).countP fun m => !p m.2
def pb (hs : List (Str × Nat)) (wt : List Str) (y : Str) : Bool := decide (y ∈ hs.map (·.1)) && !decide (y ∈ wt)
theorem cnt_split (rows : List Rw2) (p : Str → Bool) (x : Str) (hx : p x = false) (r : Str) : cntU rows (fun y => p y || decide (y = x)) r + (onOf rows r).countP (fun m => decide (m.2 = x)) = cntU rows p r := by
  unfold cntU
  induction onOf rows r with
  | nil => rfl
  | cons m l ih =>
    simp only [List.countP_cons]
    by_cases h : m.2 = x
    · simp [h, hx]; simp at ih; omega
    · simp [h]; simp at ih; omega
theorem srcP_cnt (rows : List Rw2) (r r' x : Str) (ms : List (List Str × Str)) : (srcP rows r x ms).countP (fun q => decide (q.2 = r')) = if r = r' then ms.countP (fun m => decide (m.2 = x)) else 0 := by
  unfold srcP
  rw [List.countP_map]
  split
  · next h =>
    subst h
    have : ((fun q : List Str × Str => decide (q.2 = r)) ∘ fun m : List Str × Str => (m.1, r)) = fun _ => true := by funext m; simp
    rw [this, List.countP_true, ← List.countP_eq_length_filter]
  · next h =>
    have : ((fun q : List Str × Str => decide (q.2 = r')) ∘ fun m : List Str × Str => (m.1, r)) = fun _ => false := by funext m; simp [h]
    rw [this, List.countP_false]; rfl
theorem srcE_cnt (rows : List Rw2) (x r : Str) : ∀ R : List Str, R.Nodup → (srcE rows R x).countP (fun q => decide (q.2 = r)) = if r ∈ R then (onOf rows r).countP (fun m => decide (m.2 = x)) else 0
  | [], _ => by simp [srcE]
  | a :: R, nd => by
    have ih := srcE_cnt rows x r R (List.nodup_cons.mp nd).2
    have e : srcE rows (a :: R) x = srcP rows a x (onOf rows a) ++ srcE rows R x := by unfold srcE; rw [List.flatMap_cons]
    rw [e, List.countP_append, ih, srcP_cnt]
    by_cases h : a = r
    · subst h
      have := (List.nodup_cons.mp nd).1
      simp [this]
    · have h' : r ≠ a := fun z => h z.symm
      simp [h, h']
theorem srcE_mem {rows : List Rw2} {R : List Str} {x : Str} {q : List Str × Str} (h : q ∈ srcE rows R x) : q.2 ∈ R ∧ (q.1, x) ∈ onOf rows q.2 := by
  unfold srcE at h
  obtain ⟨r, h1, h2⟩ := List.mem_flatMap.mp h
  unfold srcP at h2
  obtain ⟨m, h3, rfl⟩ := List.mem_map.mp h2
  obtain ⟨h4, h5⟩ := List.mem_filter.mp h3
  have := of_decide_eq_true h5
  subst this
  exact ⟨h1, h4⟩
structure HI (rows : List Rw2) (R : List Str) (un : Str → Int) (hs : List (Str × Nat)) (wt : List Str) : Prop where
  nd : (hs.map (·.1)).Nodup
  sub : ∀ y ∈ hs.map (·.1), y ∈ R
  wn : wt.Nodup
  ws : ∀ y ∈ wt, y ∈ hs.map (·.1)
  un_ : ∀ r ∈ R, un r = (cntU rows (pb hs wt) r : Int)
  z : ∀ r ∈ R, r ∈ hs.map (·.1) ↔ un r = 0
  snd : ∀ q ∈ hs, Hgt rows q.1 q.2
structure HJ (rows : List Rw2) (R : List Str) (x : Str) (p : Str → Bool) (cnt : Str → Int) (S : List (List Str × Str)) (un : Str → Int) (hs : List (Str × Nat)) (wt : List Str) : Prop where
  nd : (hs.map (·.1)).Nodup
  sub : ∀ y ∈ hs.map (·.1), y ∈ R
  wn : wt.Nodup
  ws : ∀ y ∈ wt, y ∈ hs.map (·.1)
  pp : ∀ y, pb hs wt y = (p y || decide (y = x))
  un_ : ∀ r ∈ R, un r = cnt r - (S.countP (fun q => decide (q.2 = r)) : Int)
  z : ∀ r ∈ R, r ∈ hs.map (·.1) ↔ un r = 0
  snd : ∀ q ∈ hs, Hgt rows q.1 q.2
theorem take_sn {α : Type} (l : List α) (i : Nat) (h : i < l.length) : l.take (i + 1) = l.take i ++ [l[i]] := by
  rw [List.take_add_one, List.getElem?_eq_getElem h]; rfl
theorem HI.pop {rows : List Rw2} {R : List Str} {un : Str → Int} {hs : List (Str × Nat)} {wt : List Str} {x : Str} (h : HI rows R un hs (wt ++ [x])) : HJ rows R x (pb hs (wt ++ [x])) un [] un hs wt := by
  have hx : x ∉ wt := fun hx => by
    have := List.nodup_append.mp h.wn
    exact this.2.2 x hx x (by simp) rfl
  refine ⟨h.nd, h.sub, (List.nodup_append.mp h.wn).1, fun y hy => h.ws y (List.mem_append.mpr (.inl hy)), fun y => ?_, fun r hr => by simp, h.z, h.snd⟩
  by_cases hyx : y = x
  · subst hyx
    have := h.ws y (by simp)
    unfold pb
    rw [decide_eq_true this, decide_eq_false hx]
    simp
  · unfold pb
    have e : decide (y ∈ wt ++ [x]) = decide (y ∈ wt) := by
      by_cases h1 : y ∈ wt <;> simp [h1, hyx]
    rw [e, decide_eq_false hyx, Bool.or_false]
theorem HJ.done {rows : List Rw2} {R : List Str} {x : Str} {un0 un : Str → Int} {hs0 hs : List (Str × Nat)} {wt0 wt : List Str} (h0 : HI rows R un0 hs0 (wt0 ++ [x])) (ndR : R.Nodup) (h : HJ rows R x (pb hs0 (wt0 ++ [x])) un0 (srcE rows R x) un hs wt) : HI rows R un hs wt := by
  refine ⟨h.nd, h.sub, h.wn, h.ws, fun r hr => ?_, h.z, h.snd⟩
  rw [h.un_ r hr, h0.un_ r hr, srcE_cnt rows x r R ndR, if_pos hr]
  have hx : pb hs0 (wt0 ++ [x]) x = false := by unfold pb; simp
  have := cnt_split rows _ x hx r
  have e : cntU rows (pb hs wt) r = cntU rows (fun y => pb hs0 (wt0 ++ [x]) y || decide (y = x)) r := by
    unfold cntU
    congr 1
    funext m
    rw [h.pp m.2]
  rw [e]
  omega
theorem HJ.left {rows : List Rw2} {R : List Str} {x : Str} {un0 un : Str → Int} {hs0 hs : List (Str × Nat)} {wt0 wt : List Str} {j : Nat} (h0 : HI rows R un0 hs0 (wt0 ++ [x])) (ndR : R.Nodup) (hj : j < (srcE rows R x).length) (h : HJ rows R x (pb hs0 (wt0 ++ [x])) un0 ((srcE rows R x).take j) un hs wt) :
    (cntU rows (fun y => pb hs0 (wt0 ++ [x]) y || decide (y = x)) (srcE rows R x)[j].2 : Int) ≤ un (srcE rows R x)[j].2 - 1 := by
  have hm := (srcE_mem (List.getElem_mem hj)).1
  have ht := take_sn (srcE rows R x) j hj
  generalize hq : (srcE rows R x)[j] = q at hm ht
  rw [h.un_ q.2 hm, h0.un_ q.2 hm]
  have hx : pb hs0 (wt0 ++ [x]) x = false := by unfold pb; simp
  have h1 := cnt_split rows _ x hx q.2
  have h2 := srcE_cnt rows x q.2 R ndR
  rw [if_pos hm] at h2
  have h3 : ((srcE rows R x).take (j + 1)).countP (fun q' => decide (q'.2 = q.2)) ≤ (srcE rows R x).countP (fun q' => decide (q'.2 = q.2)) := (List.take_sublist _ _).countP_le
  rw [ht, List.countP_append] at h3
  simp at h3
  omega
theorem HJ.skip {rows : List Rw2} {R : List Str} {x : Str} {p : Str → Bool} {cnt un : Str → Int} {S : List (List Str × Str)} {hs : List (Str × Nat)} {wt : List Str} (h : HJ rows R x p cnt S un hs wt) {q : List Str × Str} (h1 : 1 ≤ un q.2) (h2 : un q.2 - 1 ≠ 0) : HJ rows R x p cnt (S ++ [q]) (fun y => if y = q.2 then un y - 1 else un y) hs wt := by
  refine ⟨h.nd, h.sub, h.wn, h.ws, h.pp, fun r hr => ?_, fun r hr => ?_, h.snd⟩
  · have := h.un_ r hr
    rw [List.countP_append]
    by_cases e : r = q.2
    · subst e; simp; omega
    · have e' : q.2 ≠ r := fun z => e z.symm
      simp [e, e']; omega
  · have := h.z r hr
    by_cases e : r = q.2
    · subst e
      simp only [if_true]
      constructor
      · intro z; have := this.mp z; omega
      · intro z; exact absurd z h2
    · simp only [e, if_false]; exact this
theorem HJ.put {rows : List Rw2} {R : List Str} {x : Str} {p : Str → Bool} {cnt un : Str → Int} {S : List (List Str × Str)} {hs : List (Str × Nat)} {wt : List Str} (h : HJ rows R x p cnt S un hs wt) {q : List Str × Str} (hq : q.2 ∈ R) (h1 : 1 ≤ un q.2) (h2 : un q.2 - 1 = 0) {k : Nat} (hk : Hgt rows q.2 k) : HJ rows R x p cnt (S ++ [q]) (fun y => if y = q.2 then un y - 1 else un y) (hs ++ [(q.2, k)]) (wt ++ [q.2]) := by
  have hno : q.2 ∉ hs.map (·.1) := fun z => by have := (h.z _ hq).mp z; omega
  have hnw : q.2 ∉ wt := fun z => hno (h.ws _ z)
  refine ⟨?_, fun y hy => ?_, ?_, fun y hy => ?_, fun y => ?_, fun r hr => ?_, fun r hr => ?_, fun q' hq' => ?_⟩
  · rw [List.map_append, List.nodup_append]
    refine ⟨h.nd, by simp, fun a ha b hb => ?_⟩
    rw [List.map_cons, List.map_nil, List.mem_singleton] at hb
    exact fun z => hno (by rw [z, hb] at ha; exact ha)
  · rw [List.map_append] at hy
    rcases List.mem_append.mp hy with hy | hy
    · exact h.sub y hy
    · rw [List.map_cons, List.map_nil, List.mem_singleton] at hy
      rw [hy]; exact hq
  · rw [List.nodup_append]
    refine ⟨h.wn, by simp, fun a ha b hb => ?_⟩
    rw [List.mem_singleton] at hb
    subst hb
    exact fun z => hnw (z ▸ ha)
  · rw [List.map_append]
    rcases List.mem_append.mp hy with hy | hy
    · exact List.mem_append.mpr (.inl (h.ws y hy))
    · rw [List.mem_singleton.mp hy]; exact List.mem_append.mpr (.inr (by simp))
  · rw [← h.pp y]
    unfold pb
    by_cases e : y = q.2
    · subst e
      simp [hno]
    · have e1 : decide (y ∈ (hs ++ [(q.2, k)]).map (·.1)) = decide (y ∈ hs.map (·.1)) := by
        rw [List.map_append]
        by_cases hh : y ∈ hs.map (·.1)
        · rw [decide_eq_true hh, decide_eq_true (List.mem_append.mpr (.inl hh))]
        · rw [decide_eq_false hh, decide_eq_false fun z => ?_]
          rcases List.mem_append.mp z with z | z
          · exact hh z
          · rw [List.map_cons, List.map_nil, List.mem_singleton] at z; exact e z
      have e2 : decide (y ∈ wt ++ [q.2]) = decide (y ∈ wt) := by
        by_cases hh : y ∈ wt <;> simp [hh, e]
      rw [e1, e2]
  · have := h.un_ r hr
    rw [List.countP_append]
    by_cases e : r = q.2
    · subst e; simp; omega
    · have e' : q.2 ≠ r := fun z => e z.symm
      simp [e, e']; omega
  · have := h.z r hr
    rw [List.map_append]
    by_cases e : r = q.2
    · subst e
      simp only [if_true]
      exact ⟨fun _ => h2, fun _ => List.mem_append.mpr (.inr (by simp))⟩
    · simp only [e, if_false]
      rw [← this]
      constructor
      · intro z
        rcases List.mem_append.mp z with z | z
        · exact z
        · rw [List.map_cons, List.map_nil, List.mem_singleton] at z; exact absurd z e
      · exact fun z => List.mem_append.mpr (.inl z)
  · rcases List.mem_append.mp hq' with z | z
    · exact h.snd q' z
    · rw [List.mem_singleton.mp z]; exact hk
def hv (hs : List (Str × Nat)) (y : Str) : Nat := ((hs.find? fun q => decide (q.1 = y)).map (·.2)).getD 0
end L2
set_option maxRecDepth 100000
namespace L2
open PySem PySem.Spec PyProof.Rows
def Rch (rows : List Rw2) (y e : Str) : Prop := ∃ n, ∃ q ∈ allP rows (n + 1) y, q.2 = e
theorem allP_one (rows : List Rw2) (e : Str) {m : List Str × Str} (h : m ∈ onOf rows e) : ∃ q ∈ allP rows 1 e, q.2 = m.2 := by
  refine ⟨([m.1], m.2), ?_, rfl⟩
  rw [allP_succ]
  exact List.mem_flatMap.mpr ⟨m, h, List.mem_map.mpr ⟨([], m.2), List.mem_singleton.mpr rfl, rfl⟩⟩
theorem Rch.one {rows : List Rw2} {e : Str} {m : List Str × Str} (h : m ∈ onOf rows e) : Rch rows e m.2 := ⟨0, allP_one rows e h⟩
theorem allP_two {rows : List Rw2} {a b : Nat} {y e z : Str} (h : ∃ q ∈ allP rows a y, q.2 = e) (h' : ∃ q ∈ allP rows b e, q.2 = z) : ∃ q ∈ allP rows (a + b) y, q.2 = z := by
  obtain ⟨q, h1, rfl⟩ := h
  obtain ⟨r, h2, rfl⟩ := h'
  refine ⟨(q.1 ++ r.1, r.2), ?_, rfl⟩
  rw [allP_add]
  exact List.mem_flatMap.mpr ⟨q, h1, List.mem_map.mpr ⟨r, h2, rfl⟩⟩
theorem Rch.step {rows : List Rw2} {y e : Str} {m : List Str × Str} (h : Rch rows y e) (hm : m ∈ onOf rows e) : Rch rows y m.2 := by
  obtain ⟨n, h⟩ := h
  exact ⟨n + 1, allP_two h (allP_one rows e hm)⟩
end L2
set_option maxRecDepth 100000
namespace L2
open PySem PySem.Spec PyProof.Rows
def lays : Hp → List (Addr × HO) → Hp
  | H, [] => H
  | H, (a, o) :: r => lays (upd H a o) r
section
variable {P : Program} {w : World} {H : Hp} {h h' : Heap}
theorem HOk.add {a : Addr} {o : HO} (x : HOk P w H h) (hn : H a = none) (new : ObjOk P w (upd H a o) h a o) : HOk P w (upd H a o) h := fun b u e => by
  by_cases hb : b = a
  · subst hb; rw [upd_same] at e; cases e; exact new
  · rw [upd_ne hb] at e
    exact (x b u e).stay (fun c v _ q => q) (fun c q => by rw [upd_ne (ne_of_none q hn)]; exact q) fun c xs q => q.upd fun u hu => ne_of_none hu hn
theorem lays_same : ∀ (r : List (Addr × HO)) (H : Hp), (∀ q ∈ r, H q.1 = none) → (r.map (·.1)).Nodup → Same H (lays H r)
  | [], H, _, _ => Same.refl _
  | (a, o) :: r, H, hn, nd => by
    have h1 : H a = none := hn _ List.mem_cons_self
    rw [List.map_cons, List.nodup_cons] at nd
    refine (Same.upd h1 o).trans (lays_same r _ (fun q hq => ?_) nd.2)
    rw [upd_ne fun z => nd.1 (List.mem_map.mpr ⟨q, hq, z⟩)]
    exact hn q (List.mem_cons_of_mem _ hq)
theorem lays_off : ∀ (r : List (Addr × HO)) (H : Hp) (b : Addr), b ∉ r.map (·.1) → lays H r b = H b
  | [], H, b, _ => rfl
  | (a, o) :: r, H, b, hb => by
    rw [List.map_cons, List.mem_cons, not_or] at hb
    show lays (upd H a o) r b = _
    rw [lays_off r _ b hb.2, upd_ne hb.1]
theorem lays_on : ∀ (r : List (Addr × HO)) (H : Hp), (r.map (·.1)).Nodup → ∀ q ∈ r, lays H r q.1 = some q.2
  | (a, o) :: r, H, nd, q, hq => by
    rw [List.map_cons, List.nodup_cons] at nd
    show lays (upd H a o) r q.1 = _
    rcases List.mem_cons.mp hq with rfl | hq
    · rw [lays_off r _ _ nd.1, upd_same]
    · exact lays_on r _ nd.2 q hq
theorem HOk.lays : ∀ (r : List (Addr × HO)) (H : Hp), HOk P w H h → (∀ q ∈ r, H q.1 = none) → (r.map (·.1)).Nodup → (∀ q ∈ r, ∀ H', ObjOk P w H' h q.1 q.2) → HOk P w (lays H r) h
  | [], H, x, _, _, _ => x
  | (a, o) :: r, H, x, hn, nd, new => by
    rw [List.map_cons, List.nodup_cons] at nd
    refine HOk.lays r _ (x.add (hn _ List.mem_cons_self) (new _ List.mem_cons_self _)) (fun q hq => ?_) nd.2 fun q hq => new q (List.mem_cons_of_mem _ hq)
    rw [upd_ne fun z => nd.1 (List.mem_map.mpr ⟨q, hq, z⟩)]
    exact hn q (List.mem_cons_of_mem _ hq)
end
section
variable {X : Cx} {pins : List (Addr × Obj)} {σ : St} {H : Hp} {s : Shared} {h' : Heap}
theorem Inv.lays {t' : Nat} (I : Inv X pins σ H s) (k : ∀ b u, s.heap.get? b = some u → h'.get? b = some u) (r : List (Addr × HO)) (hp : ∀ q ∈ r, s.heap.objs.size ≤ q.1) (nd : (r.map (·.1)).Nodup) (new : ∀ q ∈ r, ∀ H', ObjOk X.prog X.w H' h' q.1 q.2) :
    Inv X pins σ (L2.lays H r) { s with heap := h', toks := t' } := by
  have hn : ∀ q ∈ r, H q.1 = none := fun q hq => I.hok.fresh (hp q hq)
  have hs := lays_same r H hn nd
  refine I.un ⟨fun b u q _ _ _ => k b u q, fun b u q _ _ _ => ⟨u.slots, k b u q⟩, fun b u q n _ => ?_, fun b u q _ => ⟨u, k b u q⟩, fun b xs q => hs _ _ q, fun b u xs q => hs _ _ q, fun b ps q => ⟨#[], by rw [hs _ _ q]; simp⟩⟩ (HOk.lays r H (I.hok.kept k) hn nd new)
  rw [lays_off r H b fun z => ?_]
  · exact n
  · obtain ⟨q', h1, h2⟩ := List.mem_map.mp z
    have := hp q' h1
    rw [h2] at this
    exact Nat.lt_irrefl _ (Nat.lt_of_lt_of_le (Heap.lt_size q) this)
end
section
variable {X : Cx} {o : Expr} {to : TE} {p apos ipos cpos : Pos}
def tLstI (te : TE) : TE := fun σ H Q => te σ H fun x H1 => ∃ a kvs, x = .ref a ∧ Rd H1 a (.dK kvs) ∧ ∀ l us H', H1 l = none → Same H1 H' → H' l = some (.lst us) → PairsAt H' us kvs → Q (.ref l) H'
theorem z_lstItems (hc : X.calm = true) (hg : Gl X "list") (hm : X.mg "list" = none) (ho : SE X o to) (hbase : attributeBase o "items" X.env (eval o X.env) = eval o X.env := by rfl) (hline : (apos.endLine == ipos.line) = true := by rfl)
    (hs3 : starEach [Expr.Call (.Attribute o "items" apos) [] [] ipos] X.env = [(false, eval (.Call (.Attribute o "items" apos) [] [] ipos) X.env)] := by rfl) :
    SE X (.Call (.Name "list" p) [.Call (.Attribute o "items" apos) [] [] ipos] [] cpos) (tLstI to) := by
  constructor
  intro pins s σ H Q I h
  refine Call_ (ld_blt I hg hm boot_list (PyProof.Rows.callWith_type1 ?_ hs3 rfl))
  rw [hs3]
  refine Calls.spliced_cons (wpAny_Call_method0_late hbase hline (thn (ho.h pins s σ H _ I h) ?_))
  rintro v s1 ⟨x, H1, I1, r1, a, kvs, ex, hr, q⟩
  subst ex
  cases r1
  obtain ⟨z, hdm, vs, rel, dd⟩ := dk_rd I1.hok hr
  obtain ⟨ob, es, ep, e, h2, hdat, h4⟩ := id dd
  have hlen := rel.length
  have hT : s1.TypeIs (.ref a) "dict" := ⟨ob, e, h2.1⟩
  refine ⟨"dict", "dict.items", PySem.F.plainAttrs_dict, PySem.F.slot_dict_items, PySem.F.type_dict_items, hT, fun b hb => by cases hb; exact ⟨ob, e, h2.2.1⟩, Calls.callWith_builtin rfl (PySem.evalArgs_none ?_)⟩
  refine call_meetsIn PySem.F.slot_dict_items hT PySem.F.entry_dict_items (PySem.F.args_dict_items_1 _) (meets_dict_items (mixKind X.prog X.w) a hdm) ⟨⟨vs, ob, es, ep, e, h2, hdat, h4⟩, ?_⟩
  refine Calls.spliced_nil ?_
  have I3 : Inv X pins σ H1 { s1 with heap := s1.heap.push { cls := .type "dict_items", data := .fields #[.ref a] } } := I1.kept (t' := s1.toks) fun b o e => Heap.get?_push_of_some _ e
  refine PySem.W.kdx_call (knd := mixKind X.prog X.w) (kvs := vs) (ep := ep) (I.ok.hd hc) ⟨_, Heap.get?_push_size _ rfl, rfl, rfl⟩ ⟨ob, es, Heap.get?_push_of_some _ e, h2, hdat, h4⟩ (by omega) fun h' tk acc c as hk hS hl hG hacc => ?_
  generalize hS0 : (s1.heap.push { cls := .type "dict_items", data := .fields #[.ref a] }) = hp0 at I3 hk hS hG ⊢
  have hln : as.length = kvs.length := by omega
  have nda : as.Nodup := hG.rise.imp fun h => Nat.ne_of_lt h
  have hab : ∀ b ∈ as, hp0.objs.size < b := hG.above
  have hza : (as.zip (kvs.map fun kv => HO.tup [kV kv.1, kv.2])).map (·.1) = as := by rw [List.map_fst_zip]; rw [List.length_map]; omega
  have nd : (((hp0.objs.size, HO.lst (as.map V.ref)) :: as.zip (kvs.map fun kv => HO.tup [kV kv.1, kv.2])).map (·.1)).Nodup := by
    rw [List.map_cons, hza, List.nodup_cons]
    exact ⟨fun z => Nat.lt_irrefl _ (hab _ z), nda⟩
  have above : ∀ q ∈ (hp0.objs.size, HO.lst (as.map V.ref)) :: as.zip (kvs.map fun kv => HO.tup [kV kv.1, kv.2]), hp0.objs.size ≤ q.1 := fun q hq => by
    rcases List.mem_cons.mp hq with rfl | hq
    · exact Nat.le_refl _
    · have : q.1 ∈ as := by rw [← hza]; exact List.mem_map.mpr ⟨q, hq, rfl⟩
      exact Nat.le_of_lt (hab _ this)
  have pairs : ∀ i (hi : i < as.length) (hk' : i < kvs.length), ∃ key x, RelV (kV kvs[i].1) key ∧ RelV kvs[i].2 x ∧ h'.get? as[i] = some { cls := .type "tuple", data := .seq #[key, x] } := fun i hi hk' => by
    obtain ⟨key, k, x, g1, g2, g3⟩ := hG.pairs i as[i] (List.getElem?_eq_getElem hi)
    obtain ⟨q', e1, e2, e3⟩ := kv_get2 rel (i := i) (p := kvs[i]) (List.getElem?_eq_getElem hk')
    rw [g1] at e1
    cases e1
    refine ⟨key, x, ?_, e3, g3⟩
    have e2' : k = kvs[i].1 := e2
    rw [← e2']
    rcases keyIs_shape g2 with ⟨j, t, rfl, e⟩ | ⟨y, t, rfl, e⟩ <;> (rw [e]; exact ⟨t, rfl⟩)
  have I4 := Inv.lays (t' := tk) I3 hk _ above nd (fun q hq H' => by
    rcases List.mem_cons.mp hq with rfl | hq
    · refine (show ObjOk X.prog X.w H' h' _ (.lst _) from ⟨by rw [List.length_map]; omega, as.map Value.ref, c, ?_, ?_⟩)
      · exact paired_idx (by simp) fun i h1 h2 => by simp only [List.getElem_map]; rfl
      · rw [← hacc]; simpa using hS
    · obtain ⟨i, hi, rfl⟩ := List.getElem_of_mem hq
      have hi' : i < as.length ∧ i < kvs.length := by
        rw [List.length_zip, List.length_map] at hi; omega
      obtain ⟨key, x, g1, g2, g3⟩ := pairs i hi'.1 hi'.2
      rw [List.getElem_zip, List.getElem_map]
      exact tup2_ok g1 g2 g3)
  refine ⟨.ref hp0.objs.size, _, I4, rfl, q hp0.objs.size (as.map V.ref) _ ?_ ?_ ?_ ?_⟩
  · exact I3.hok.fresh (Nat.le_refl _)
  · exact lays_same _ _ (fun q hq => I3.hok.fresh (above q hq)) nd
  · exact lays_on _ _ nd (hp0.objs.size, .lst (as.map V.ref)) List.mem_cons_self
  · refine ⟨by simp [hln], fun i hi => ?_⟩
    have hia : i < as.length := by omega
    refine ⟨as[i], by rw [List.getElem?_map, List.getElem?_eq_getElem hia]; rfl, ?_⟩
    refine lays_on _ _ nd (as[i], .tup [kV kvs[i].1, kvs[i].2]) (List.mem_cons_of_mem _ ?_)
    refine List.mem_iff_getElem.mpr ⟨i, by rw [List.length_zip, List.length_map]; omega, ?_⟩
    rw [List.getElem_zip, List.getElem_map]
end
end L2
set_option maxRecDepth 100000
namespace L2
open PySem PySem.Spec PyProof.Rows
section
variable {X : Cx} {o e f : Expr} {td ty tx : TE} {apos cpos : Pos}
end
end L2
set_option maxRecDepth 100000
namespace L2
open PySem PySem.Spec PyProof.Rows
abbrev LR := List (Str × Road)
def lrAt (acc : LR) (r : Str) : Road := ((acc.find? fun q => decide (q.1 = r)).map (·.2)).getD []
def lrRoad (acc : LR) : Option (Str × List Str) → Road
  | none => []
  | some q => lrAt acc q.1 ++ [q.2]
def lrN (cb : CBL) : LR := cb.foldl (fun acc c => acc ++ [(c.1, lrRoad acc c.2)]) []
theorem lrN_snoc (cb : CBL) (c : Str × Option (Str × List Str)) : lrN (cb ++ [c]) = lrN cb ++ [(c.1, lrRoad (lrN cb) c.2)] := by
  unfold lrN; rw [List.foldl_append]; rfl
theorem snoc_ind {α : Type} {p : List α → Prop} (h0 : p []) (hs : ∀ l a, p l → p (l ++ [a])) (l : List α) : p l := by
  rw [← List.reverse_reverse l]
  induction l.reverse with
  | nil => exact h0
  | cons a r ih => rw [List.reverse_cons]; exact hs _ _ ih
theorem lrN_keys (cb : CBL) : (lrN cb).map (·.1) = cb.map (·.1) := by
  induction cb using snoc_ind with
  | h0 => rfl
  | hs l a ih => rw [lrN_snoc, List.map_append, List.map_append, ih]; rfl
theorem lrAt_len {acc : LR} {n : Nat} (h : ∀ q ∈ acc, q.2.length ≤ n) (r : Str) : (lrAt acc r).length ≤ n := by
  unfold lrAt
  cases hf : acc.find? fun q => decide (q.1 = r) with
  | none => simp
  | some q => exact h q (List.mem_of_find?_eq_some hf)
theorem lrN_len (cb : CBL) : ∀ q ∈ lrN cb, q.2.length ≤ cb.length := by
  induction cb using snoc_ind with
  | h0 => intro q hq; cases hq
  | hs l a ih =>
    intro q hq
    rw [lrN_snoc] at hq
    rw [List.length_append]
    rcases List.mem_append.mp hq with hq | hq
    · have := ih q hq; simp; omega
    · rw [List.mem_singleton.mp hq]
      show (lrRoad (lrN l) a.2).length ≤ _
      cases a.2 with
      | none => simp [lrRoad]
      | some z => have := lrAt_len ih z.1; simp [lrRoad]; omega
def PV (cb : CBL) : Prop := ∀ i c q, cb[i]? = some c → c.2 = some q → q.1 ∈ (cb.take i).map (·.1)
theorem PV.snoc {cb : CBL} (h : PV cb) {e r : Str} {st : List Str} (hr : r ∈ cb.map (·.1)) : PV (cb ++ [(e, some (r, st))]) := fun i c q hc hq => by
  by_cases hi : i < cb.length
  · rw [List.getElem?_append_left hi] at hc
    have := h i c q hc hq
    rw [List.take_append_of_le_length (by omega)]
    exact this
  · have hi' : i = cb.length := by
      have := (List.getElem?_eq_some_iff.mp hc).1
      simp at this; omega
    subst hi'
    rw [List.getElem?_append_right (Nat.le_refl _)] at hc
    simp only [Nat.sub_self, List.getElem?_cons_zero] at hc
    cases hc
    cases hq
    rw [List.take_append_of_le_length (Nat.le_refl _), List.take_length]
    exact hr
theorem addOn_pv {row : Str} (ms : List (List Str × Str)) : ∀ {cb : CBL}, PV cb → row ∈ cb.map (·.1) → PV (addOn row cb ms) ∧ row ∈ (addOn row cb ms).map (·.1) := by
  induction ms using snoc_ind with
  | h0 => exact fun h h' => ⟨h, h'⟩
  | hs l a ih =>
    intro cb h h'
    obtain ⟨g1, g2⟩ := ih h h'
    rw [addOn_snoc]
    split
    · exact ⟨g1, g2⟩
    · exact ⟨g1.snoc g2, by rw [List.map_append]; exact List.mem_append.mpr (.inl g2)⟩
theorem bfsN_pv (rows : List Rw2) (f : Str) : ∀ n, PV (bfsN rows f n)
  | 0 => fun i c q hc hq => by
    have : i = 0 := by have := (List.getElem?_eq_some_iff.mp hc).1; simp [bfsN] at this; omega
    subst this
    simp [bfsN] at hc
    rw [← hc] at hq
    cases hq
  | n + 1 => by
    have ih := bfsN_pv rows f n
    show PV (match (bfsN rows f n)[n]? with | none => bfsN rows f n | some c => addOn c.1 (bfsN rows f n) (onOf rows c.1))
    cases hc : (bfsN rows f n)[n]? with
    | none => exact ih
    | some c => exact (addOn_pv _ ih (List.mem_map.mpr ⟨c, List.mem_of_getElem? hc, rfl⟩)).1
def LRr (H : Hp) (kvs : List (Key × V)) (lr : LR) : Prop := Paired (fun (kv : Key × V) (q : Str × Road) => kv.1 = .inr q.1 ∧ ∃ t xs, kv.2 = .ref t ∧ H t = some (.tup xs) ∧ SV H xs q.2) kvs lr
theorem LRr.keep {H H' : Hp} {kvs : List (Key × V)} {lr : LR} (h : LRr H kvs lr) (s : Tk H H') (s2 : ∀ b ys, RdT H b ys → RdT H' b ys) : LRr H' kvs lr := by
  unfold LRr at *
  induction h with
  | nil => exact .nil
  | cons a _ ih =>
    obtain ⟨h1, t, xs, h2, h3, h4⟩ := a
    exact .cons ⟨h1, t, xs, h2, s _ _ h3, h4.keep s2⟩ ih
theorem LRr.same {H H' : Hp} {kvs : List (Key × V)} {lr : LR} (h : LRr H kvs lr) (s : Same H H') : LRr H' kvs lr := h.keep s.ts fun _ _ r => r.same s
theorem LRr.snoc {H : Hp} {kvs : List (Key × V)} {lr : LR} (h : LRr H kvs lr) {e : Str} {r : Road} {t : Addr} {xs : List V} (h1 : H t = some (.tup xs)) (h2 : SV H xs r) : LRr H (kvs ++ [(.inr e, .ref t)]) (lr ++ [(e, r)]) := by
  unfold LRr at *
  induction h with
  | nil => exact .cons ⟨rfl, t, xs, rfl, h1, h2⟩ .nil
  | cons a _ ih => exact .cons a ih
theorem LRr.keys {H : Hp} {kvs : List (Key × V)} {lr : LR} (h : LRr H kvs lr) : kvs.map (·.1) = (lr.map (·.1)).map (Sum.inr : Str → Key) := by
  unfold LRr at *
  induction h with
  | nil => rfl
  | cons a _ ih => rw [List.map_cons, List.map_cons, List.map_cons, a.1, ih]
theorem LRr.in_ {H : Hp} {kvs : List (Key × V)} {lr : LR} (h : LRr H kvs lr) (e : Str) : (valV kvs (.inr e)).isSome = decide (e ∈ lr.map (·.1)) := by
  have hk := h.keys
  rw [Bool.eq_iff_iff, ← valV_any, List.any_eq_true, decide_eq_true_iff]
  constructor
  · rintro ⟨kv, h1, h2⟩
    have : kv.1 ∈ kvs.map (·.1) := List.mem_map.mpr ⟨kv, h1, rfl⟩
    rw [hk, of_decide_eq_true h2] at this
    obtain ⟨c, hc, e'⟩ := List.mem_map.mp this
    rw [← Sum.inr.inj e']; exact hc
  · intro he
    have : (.inr e : Key) ∈ kvs.map (·.1) := by rw [hk]; exact List.mem_map.mpr ⟨e, he, rfl⟩
    obtain ⟨kv, h1, h2⟩ := List.mem_map.mp this
    exact ⟨kv, h1, decide_eq_true h2⟩
theorem LRr.get {H : Hp} {kvs : List (Key × V)} {lr : LR} (h : LRr H kvs lr) {r : Str} (hr : r ∈ lr.map (·.1)) : ∃ t xs, valV kvs (.inr r) = some (.ref t) ∧ H t = some (.tup xs) ∧ SV H xs (lrAt lr r) := by
  unfold LRr at h
  induction h with
  | nil => cases hr
  | @cons p q ps qs a t ih =>
    obtain ⟨h1, t', xs, h2, h3, h4⟩ := a
    by_cases e : q.1 = r
    · refine ⟨t', xs, ?_, h3, ?_⟩
      · rw [valV_pos (by rw [h1, e]), h2]
      · unfold lrAt
        rw [List.find?_cons, decide_eq_true e]
        exact h4
    · have hr' : r ∈ qs.map (·.1) := by
        rcases List.mem_cons.mp hr with z | z
        · exact absurd z.symm e
        · exact z
      obtain ⟨t2, xs2, g1, g2, g3⟩ := ih hr'
      refine ⟨t2, xs2, ?_, g2, ?_⟩
      · have hne : p.1 ≠ Sum.inr r := by rw [h1]; exact fun z => e (Sum.inr.inj z)
        unfold valV at g1 ⊢
        rw [List.find?_cons, decide_eq_false hne]
        exact g1
      · unfold lrAt at g3 ⊢
        rw [List.find?_cons, decide_eq_false e]
        exact g3
structure ML (H : Hp) (us : List V) (lr : LR) : Prop where
  len : us.length = lr.length
  at_ : ∀ i (h : i < us.length) (h' : i < lr.length), ∃ c t xs, us[i] = .ref c ∧ H c = some (.tup [.str lr[i].1, .ref t]) ∧ H t = some (.tup xs) ∧ SV H xs lr[i].2
section
variable {X : Cx}
theorem met_eq {pins : List (Addr × Obj)} {σ : St} {H : Hp} {s : Shared} (I : Inv X pins σ H s) {a b t t' : Addr} {n : Str} {xs ys : List V} {r : List (List Str)} (h1 : H a = some (.tup [.str n, .ref t])) (h2 : H b = some (.tup [.str n, .ref t'])) (m1 : H t = some (.tup xs)) (m2 : H t' = some (.tup ys)) (v1 : SV H xs r) (v2 : SV H ys r) {A : Around} (hu : A.units + 6 < cLine) : SeqAt.EqAt A s (.ref a) (.ref b) true := by
  by_cases hab : a = b
  · subst hab; exact SeqAt.EqAt.same _
  · obtain ⟨i1, r1, p1, _⟩ := I.tuple (SqT.of h1)
    obtain ⟨i2, r2, p2, _⟩ := I.tuple (SqT.of h2)
    have l1 := r1.length
    have l2 := r2.length
    have := SeqAt.RcAt.tuples (A := A) (e := fun _ => true) p1 p2 (by omega) fun j g1 g2 => by
      have j1 : j < 2 := by simp at g1 l1; omega
      have j2 : j = 0 ∨ j = 1 := by omega
      rcases j2 with rfl | rfl
      · obtain ⟨w1, f1, q1⟩ := r1.get (i := 0) (x := .str n) rfl
        obtain ⟨w2, f2, q2⟩ := r2.get (i := 0) (x := .str n) rfl
        have n1 : i1.toArray[0] = w1 := by rw [List.getElem?_eq_getElem (by simpa using g1)] at f1; simpa using f1
        have n2 : i2.toArray[0] = w2 := by rw [List.getElem?_eq_getElem (by simpa using g2)] at f2; simpa using f2
        rw [n1, n2]
        obtain ⟨t1, rfl⟩ := q1
        obtain ⟨t2, rfl⟩ := q2
        have := SeqAt.EqAt.str_str (A := A.in1) (s := s) n t1 n t2
        simpa using this
      · obtain ⟨w1, f1, q1⟩ := r1.get (i := 1) (x := .ref t) rfl
        obtain ⟨w2, f2, q2⟩ := r2.get (i := 1) (x := .ref t') rfl
        have n1 : i1.toArray[1] = w1 := by rw [List.getElem?_eq_getElem (by simpa using g1)] at f1; simpa using f1
        have n2 : i2.toArray[1] = w2 := by rw [List.getElem?_eq_getElem (by simpa using g2)] at f2; simpa using f2
        rw [n1, n2]
        cases q1
        cases q2
        exact road_eq I m1 m2 v1 v2 (A := A.in1) (by rw [Around.in1_units]; omega)
    have e : ((List.range (min i1.toArray.size i2.toArray.size)).all (fun _ => true) && i1.toArray.size == i2.toArray.size) = true := by simp at l1 l2 ⊢; omega
    rw [e] at this
    exact SeqAt.EqAt.of_refs hab this
def rNeML : R2 := fun x y H Q => ∃ a b us vs lr, x = .ref a ∧ y = .ref b ∧ H a = some (.lst us) ∧ H b = some (.lst vs) ∧ ML H us lr ∧ ML H vs lr ∧ Q (.bl false) H
theorem op_neML (hu : X.A.units + 20 < cLine) : OpR X (compareOp .NotEq) rNeML := by
  intro pins s σ H x y v u Q I rx ry h
  obtain ⟨a, b, us, vs, rs, rfl, rfl, ha, hb, s1, s2, q⟩ := h
  cases rx
  cases ry
  obtain ⟨i1, r1, p1, _⟩ := I.list (SqL.of ha)
  obtain ⟨i2, r2, p2, _⟩ := I.list (SqL.of hb)
  have l1 := r1.length
  have l2 := r2.length
  have h1 := s1.len
  have h2 := s2.len
  have := SeqAt.RcNeAt.lists (A := X.A) (e := fun _ => true) p1.isList p2.isList (by simp; omega) (by omega) (fun j g1 g2 => by
      have k1 : j < us.length := by simp at g1; omega
      have k2 : j < vs.length := by simp at g2; omega
      obtain ⟨c, t, xs, e1, m1, t1, w1'⟩ := s1.at_ j k1 (by omega)
      obtain ⟨c', t', xs', e2, m2, t2, w2'⟩ := s2.at_ j k2 (by omega)
      obtain ⟨w1, f1, q1⟩ := r1.get (List.getElem?_eq_getElem k1)
      obtain ⟨w2, f2, q2⟩ := r2.get (List.getElem?_eq_getElem k2)
      have n1 : i1.toArray[j] = w1 := by rw [List.getElem?_eq_getElem (by simpa using g1)] at f1; simpa using f1
      have n2 : i2.toArray[j] = w2 := by rw [List.getElem?_eq_getElem (by simpa using g2)] at f2; simpa using f2
      rw [n1, n2]
      rw [e1] at q1
      rw [e2] at q2
      cases q1
      cases q2
      exact met_eq I m1 m2 t1 t2 w1' w2' (A := X.A.in1) (by rw [Around.in1_units]; omega))
  refine this _ _ _ _ ⟨.bl false, H, I, ?_, q⟩
  simp [RelV]
end
end L2
set_option maxRecDepth 100000
namespace L2
open PySem PySem.Spec PyProof.Rows
def LtAt (A : Around) (s : Shared) (y x : Value) (b : Bool) : Prop :=
  ∀ (prog : Program) (w : World) (E : Value → Shared → Prop) (Q : Value → Shared → Prop), Q (.bool b) s → wpAny (model prog w) A (richCompare .Lt y x) Q E s
theorem tuple_ltAt (l b : Addr) (items items2 : Array Value) (n n2 : Nat) (dd dd2 : Option Addr) (sl sl2 : Array (Option Value)) (e : Nat → Bool) (j : Nat) (c : Bool) :
    Meets (Builtin.«tuple.__lt__» ⟨[.ref l, .ref b], []⟩)
      (fun A R s => s.heap.get? l = some { cls := .type "tuple", dict := dd, data := .seq items n, slots := sl } ∧ s.heap.get? b = some { cls := .type "tuple", dict := dd2, data := .seq items2 n2, slots := sl2 } ∧
        (∃ (h1 : j < items.size) (h2 : j < items2.size), (∀ i (g1 : i < items.size) (g2 : i < items2.size), i ≤ j → SeqAt.EqAt A.in1 s items[i] items2[i] (e i)) ∧ (∀ i, i < j → e i = true) ∧ e j = false ∧ LtAt A.in1 s items[j] items2[j] c) ∧
        R (.ok (.ret (.bool c))) s) :=
  .of_wp fun prog w A R s h => by
    obtain ⟨hp, g, d, tk, os⟩ := s; obtain ⟨hl, hb, ⟨hj1, hj2, he, hlt, hej, hc⟩, h⟩ := h
    have f2 := AutoSeq1.sub_tuple_tuple
    have hZ : (items.toList.zip items2.toList).length = min items.size items2.size := by simp
    wp_walk using wpAny_loadPart' hl, wpAny_loadPart' hb, wpAny_forIn_list _ (fun rest b s' => b.1 = none ∧ s' = ⟨hp, g, d, tk, os⟩ ∧ ∃ i, rest = (items.toList.zip items2.toList).drop i ∧ i ≤ j) _
    case turn =>
      rintro ⟨y, x⟩ rest b s' ⟨hb', rfl, i, hz, hR⟩
      have hlt' : i < (items.toList.zip items2.toList).length := by
        rcases Nat.lt_or_ge i (items.toList.zip items2.toList).length with h' | h'
        · exact h'
        · rw [List.drop_of_length_le h'] at hz; cases hz
      have hm : i < min items.size items2.size := hZ ▸ hlt'
      have h1 : i < items.size := Nat.lt_of_lt_of_le hm (Nat.min_le_left _ _)
      have h2 : i < items2.size := Nat.lt_of_lt_of_le hm (Nat.min_le_right _ _)
      rw [List.drop_eq_getElem_cons hlt'] at hz
      injection hz with hyx hrest
      have hy : y = items[i] := by have := congrArg Prod.fst hyx; simpa using this
      have hx : x = items2[i] := by have := congrArg Prod.snd hyx; simpa using this
      subst hy hx
      refine wpAny_bind (he i h1 h2 hR prog w _ _ ?_)
      by_cases hij : i = j
      · subst hij
        rw [hej]
        rw [if_pos (by rfl)]
        refine wpAny_bind (wpAny_rule (wpAny_bind (hc prog w _ _ ?_)))
        wp_walk
        exact ⟨_, rfl, h⟩
      · rw [hlt i (by omega)]
        wp_walk
        exact ⟨rfl, rfl, i + 1, hrest, by omega⟩
    case fin =>
      rintro ⟨b1, b2⟩ s' ⟨hb', rfl, i, hz, hR⟩
      exfalso
      rcases Nat.lt_or_ge i (items.toList.zip items2.toList).length with h' | h'
      · rw [List.drop_eq_getElem_cons h'] at hz; cases hz
      · rw [hZ] at h'; omega
    case h =>
      exact ⟨rfl, rfl, 0, rfl, by omega⟩
section
variable {A : Around} {s : Shared}
theorem LtAt.tuples {l b : Addr} {items items2 : Array Value} {e : Nat → Bool} {j : Nat} {c : Bool} (hl : s.heap.IsTuple l items) (hb : s.heap.IsTuple b items2) (hu : A.units < cLine) (h1 : j < items.size) (h2 : j < items2.size)
    (he : ∀ i (g1 : i < items.size) (g2 : i < items2.size), i ≤ j → SeqAt.EqAt A.in1 s items[i] items2[i] (e i)) (hlt : ∀ i, i < j → e i = true) (hej : e j = false) (hc : LtAt A.in1 s items[j] items2[j] c) : LtAt A s (.ref l) (.ref b) c := fun prog w E Q h => by
  obtain ⟨⟨cls, dd, data, sl⟩, ho, hcl, n, hd⟩ := id hl
  obtain ⟨⟨cls2, dd2, data2, sl2⟩, ho2, hc2, n2, hd2⟩ := id hb
  simp only at hcl hd hc2 hd2
  subst hcl hd hc2 hd2
  exact richCompare_meets_room (op := .Lt) ⟨_, ho, rfl⟩ ⟨_, ho2, rfl⟩ F.slot_tuple_lt F.entry_tuple_lt (F.args_tuple_lt_2 _ _) (tuple_ltAt l b items items2 n n2 dd dd2 sl sl2 e j c)
    ⟨ho, ho2, ⟨h1, h2, he, hlt, hej, hc⟩, show Value.bool c ≠ Value.notImplemented ∧ Q (.bool c) s from ⟨(fun x => nomatch x), h⟩⟩ hu
end
def SltF (xs ys : List Str) : Prop := ∃ j, ∃ (h1 : j < xs.length) (h2 : j < ys.length), (∀ i (g1 : i < xs.length) (g2 : i < ys.length), i < j → xs[i] = ys[i]) ∧ xs[j] ≠ ys[j] ∧ decide (ys[j].cps.toList < xs[j].cps.toList) = false
def RltF (r q : Road) : Prop := ∃ j, ∃ (h1 : j < r.length) (h2 : j < q.length), (∀ i (g1 : i < r.length) (g2 : i < q.length), i < j → r[i] = q[i]) ∧ r[j] ≠ q[j] ∧ SltF r[j] q[j]
theorem LtAt.str {A : Around} {s : Shared} (i j : Str) (t t' : Tok) : LtAt A s (.str i t) (.str j t') (decide (i.cps.toList < j.cps.toList)) := fun prog w E Q h => lt_str h
section
variable {X : Cx} {pins : List (Addr × Obj)} {σ : St} {H : Hp} {s : Shared}
theorem step_nlt (I : Inv X pins σ H s) {a b : Addr} {xs ys : List Str} (h1 : RdT H a (xs.map V.str)) (h2 : RdT H b (ys.map V.str)) (hlt : SltF xs ys) {A : Around} (hu : A.units + 2 < cLine) : LtAt A s (.ref b) (.ref a) false := by
  obtain ⟨j, j1, j2, hpre, hne, hl⟩ := hlt
  obtain ⟨i1, r1, p1, _⟩ := I.tuple (.inl h1)
  obtain ⟨i2, r2, p2, _⟩ := I.tuple (.inl h2)
  have l1 := r1.length
  have l2 := r2.length
  rw [List.length_map] at l1 l2
  have item1 : ∀ i (g : i < i1.toArray.size) (k : i < xs.length), ∃ t, i1.toArray[i] = .str xs[i] t := fun i g k => by
    obtain ⟨w1, e1, q1⟩ := r1.get (i := i) (x := .str xs[i]) (by simp [k])
    obtain ⟨t, rfl⟩ := q1
    exact ⟨t, by rw [List.getElem?_eq_getElem (by simpa using g)] at e1; simpa using e1⟩
  have item2 : ∀ i (g : i < i2.toArray.size) (k : i < ys.length), ∃ t, i2.toArray[i] = .str ys[i] t := fun i g k => by
    obtain ⟨w1, e1, q1⟩ := r2.get (i := i) (x := .str ys[i]) (by simp [k])
    obtain ⟨t, rfl⟩ := q1
    exact ⟨t, by rw [List.getElem?_eq_getElem (by simpa using g)] at e1; simpa using e1⟩
  refine LtAt.tuples (e := fun i => ys.getD i "" == xs.getD i "") (j := j) p2 p1 (by omega) (by simp; omega) (by simp; omega) (fun i g1 g2 hi => ?_) (fun i hi => ?_) ?_ ?_
  · have k1 : i < xs.length := by simp at g2; omega
    have k2 : i < ys.length := by simp at g1; omega
    obtain ⟨t1, e1⟩ := item1 i g2 k1
    obtain ⟨t2, e2⟩ := item2 i g1 k2
    rw [e1, e2]
    have := SeqAt.EqAt.str_str (A := A.in1) (s := s) ys[i] t2 xs[i] t1
    simpa [List.getD_eq_getElem?_getD, List.getElem?_eq_getElem k1, List.getElem?_eq_getElem k2] using this
  · have k1 : i < xs.length := by omega
    have k2 : i < ys.length := by omega
    simp [List.getD_eq_getElem?_getD, List.getElem?_eq_getElem k1, List.getElem?_eq_getElem k2, hpre i k1 k2 hi]
  · simp [List.getD_eq_getElem?_getD, List.getElem?_eq_getElem j1, List.getElem?_eq_getElem j2, Ne.symm hne]
  · obtain ⟨t1, e1⟩ := item1 j (by simp; omega) j1
    obtain ⟨t2, e2⟩ := item2 j (by simp; omega) j2
    rw [e1, e2, ← hl]
    exact LtAt.str _ _ _ _
theorem road_nlt (I : Inv X pins σ H s) {a b : Addr} {xs ys : List V} {r q : Road} (h1 : H a = some (.tup xs)) (h2 : H b = some (.tup ys)) (v1 : SV H xs r) (v2 : SV H ys q) (hlt : RltF r q) {A : Around} (hu : A.units + 4 < cLine) : LtAt A s (.ref b) (.ref a) false := by
  obtain ⟨j, j1, j2, hpre, hne, hl⟩ := hlt
  obtain ⟨i1, r1, p1, _⟩ := I.tuple (SqT.of h1)
  obtain ⟨i2, r2, p2, _⟩ := I.tuple (SqT.of h2)
  have l1 := r1.length
  have l2 := r2.length
  have k1 := v1.len
  have k2 := v2.len
  have item1 : ∀ i (g : i < i1.toArray.size) (k : i < r.length), ∃ c, i1.toArray[i] = .ref c ∧ RdT H c (r[i].map V.str) := fun i g k => by
    obtain ⟨c, e1, m1⟩ := v1.at_ i (by omega) k
    obtain ⟨w1, f1, q1⟩ := r1.get (List.getElem?_eq_getElem (show i < xs.length by omega))
    rw [e1] at q1
    cases q1
    exact ⟨c, by rw [List.getElem?_eq_getElem (by simpa using g)] at f1; simpa using f1, m1⟩
  have item2 : ∀ i (g : i < i2.toArray.size) (k : i < q.length), ∃ c, i2.toArray[i] = .ref c ∧ RdT H c (q[i].map V.str) := fun i g k => by
    obtain ⟨c, e1, m1⟩ := v2.at_ i (by omega) k
    obtain ⟨w1, f1, q1⟩ := r2.get (List.getElem?_eq_getElem (show i < ys.length by omega))
    rw [e1] at q1
    cases q1
    exact ⟨c, by rw [List.getElem?_eq_getElem (by simpa using g)] at f1; simpa using f1, m1⟩
  refine LtAt.tuples (e := fun i => decide (q.getD i [] = r.getD i [])) (j := j) p2 p1 (by omega) (by simp; omega) (by simp; omega) (fun i g1 g2 hi => ?_) (fun i hi => ?_) ?_ ?_
  · have m1 : i < r.length := by simp at g2; omega
    have m2 : i < q.length := by simp at g1; omega
    obtain ⟨c1, e1, t1⟩ := item1 i g2 m1
    obtain ⟨c2, e2, t2⟩ := item2 i g1 m2
    rw [e1, e2]
    have := step_eq I t2 t1 (A := A.in1) (by rw [Around.in1_units]; omega)
    simpa [List.getD_eq_getElem?_getD, List.getElem?_eq_getElem m1, List.getElem?_eq_getElem m2] using this
  · have m1 : i < r.length := by omega
    have m2 : i < q.length := by omega
    simp [List.getD_eq_getElem?_getD, List.getElem?_eq_getElem m1, List.getElem?_eq_getElem m2, hpre i m1 m2 hi]
  · simp [List.getD_eq_getElem?_getD, List.getElem?_eq_getElem j1, List.getElem?_eq_getElem j2, Ne.symm hne]
  · obtain ⟨c1, e1, t1⟩ := item1 j (by simp; omega) j1
    obtain ⟨c2, e2, t2⟩ := item2 j (by simp; omega) j2
    rw [e1, e2]
    exact step_nlt I t1 t2 hl (A := A.in1) (by rw [Around.in1_units]; omega)
theorem road_neq (I : Inv X pins σ H s) {a b : Addr} {xs ys : List V} {r q : Road} (h1 : H a = some (.tup xs)) (h2 : H b = some (.tup ys)) (v1 : SV H xs r) (v2 : SV H ys q) (hlt : RltF r q) {A : Around} (hu : A.units + 4 < cLine) : SeqAt.EqAt A s (.ref b) (.ref a) false := by
  obtain ⟨j, j1, j2, hpre, hne, hl⟩ := hlt
  obtain ⟨i1, r1, p1, _⟩ := I.tuple (SqT.of h1)
  obtain ⟨i2, r2, p2, _⟩ := I.tuple (SqT.of h2)
  have l1 := r1.length
  have l2 := r2.length
  have k1 := v1.len
  have k2 := v2.len
  have hab : b ≠ a := fun z => by
    subst z
    rw [h1] at h2
    cases h2
    obtain ⟨c, e1, m1⟩ := v1.at_ j (by omega) j1
    obtain ⟨c', e2, m2⟩ := v2.at_ j (by omega) j2
    rw [e1] at e2
    cases e2
    exact hne (mapStr_inj (m1.inj m2))
  have item1 : ∀ i (g : i < i1.toArray.size) (k : i < r.length), ∃ c, i1.toArray[i] = .ref c ∧ RdT H c (r[i].map V.str) := fun i g k => by
    obtain ⟨c, e1, m1⟩ := v1.at_ i (by omega) k
    obtain ⟨w1, f1, q1⟩ := r1.get (List.getElem?_eq_getElem (show i < xs.length by omega))
    rw [e1] at q1
    cases q1
    exact ⟨c, by rw [List.getElem?_eq_getElem (by simpa using g)] at f1; simpa using f1, m1⟩
  have item2 : ∀ i (g : i < i2.toArray.size) (k : i < q.length), ∃ c, i2.toArray[i] = .ref c ∧ RdT H c (q[i].map V.str) := fun i g k => by
    obtain ⟨c, e1, m1⟩ := v2.at_ i (by omega) k
    obtain ⟨w1, f1, q1⟩ := r2.get (List.getElem?_eq_getElem (show i < ys.length by omega))
    rw [e1] at q1
    cases q1
    exact ⟨c, by rw [List.getElem?_eq_getElem (by simpa using g)] at f1; simpa using f1, m1⟩
  have := SeqAt.RcAt.tuples (A := A) (e := fun i => decide (q.getD i [] = r.getD i [])) p2 p1 (by omega) fun i g1 g2 => by
    have m1 : i < r.length := by simp at g2; omega
    have m2 : i < q.length := by simp at g1; omega
    obtain ⟨c1, e1, t1⟩ := item1 i g2 m1
    obtain ⟨c2, e2, t2⟩ := item2 i g1 m2
    rw [e1, e2]
    have := step_eq I t2 t1 (A := A.in1) (by rw [Around.in1_units]; omega)
    simpa [List.getD_eq_getElem?_getD, List.getElem?_eq_getElem m1, List.getElem?_eq_getElem m2] using this
  have e : ((List.range (min i2.toArray.size i1.toArray.size)).all (fun i => decide (q.getD i [] = r.getD i [])) && i2.toArray.size == i1.toArray.size) = false := by
    have ha : (List.range (min i2.toArray.size i1.toArray.size)).all (fun i => decide (q.getD i [] = r.getD i [])) = false := by
      rw [List.all_eq_false]
      refine ⟨j, List.mem_range.mpr (by simp; omega), ?_⟩
      simp [List.getD_eq_getElem?_getD, List.getElem?_eq_getElem j1, List.getElem?_eq_getElem j2, Ne.symm hne]
    rw [ha]; rfl
  rw [e] at this
  exact SeqAt.EqAt.of_refs hab this
end
end L2
set_option maxRecDepth 100000
namespace L2
open PySem PySem.Spec PyProof.Rows PySem.W
theorem up_asc {cmp : Nat → Nat → (Bool → Shared → Prop) → Shared → Prop} {N : Nat} {s : Shared} {G : Nat → Shared → Prop} (hc : ∀ k, 1 ≤ k → k < N → ∀ C : Bool → Shared → Prop, C false s → cmp k (k - 1) C s) (hG : G N s) :
    ∀ f m, 1 ≤ m → m + f = N → (kas_asc (List.toArray (List.range N)) f m).kasWp cmp G s
  | 0, m, h1, h => by
    have : m = N := by omega
    subst this
    exact hG
  | f + 1, m, h1, h => by
    have e1 : (List.toArray (List.range N)).getD m 0 = m := by simp [Array.getD, show m < N by omega]
    have e2 : (List.toArray (List.range N)).getD (m - 1) 0 = m - 1 := by simp [Array.getD, show m - 1 < N by omega]
    show (KasT.ask ((List.toArray (List.range N)).getD m 0) ((List.toArray (List.range N)).getD (m - 1) 0) fun c => if c = true then .ret m else kas_asc (List.toArray (List.range N)) f (m + 1)).kasWp cmp G s
    rw [e1, e2]
    exact hc m h1 (by omega) _ (up_asc hc hG f (m + 1) (by omega) (by omega))
theorem up_sort {cmp : Nat → Nat → (Bool → Shared → Prop) → Shared → Prop} {N : Nat} {s : Shared} {G : Array Nat → Shared → Prop} (h2 : 2 ≤ N) (hc : ∀ k, 1 ≤ k → k < N → ∀ C : Bool → Shared → Prop, C false s → cmp k (k - 1) C s) (hG : G (List.toArray (List.range N)) s) : (kas_sort N).kasWp cmp G s := by
  unfold kas_sort
  rw [KasT.kasWp_bind]
  unfold kas_count
  rw [KasT.kasWp_bind]
  refine up_asc hc ?_ (N - 1) 1 (Nat.le_refl _) (by omega)
  rw [if_pos (by simp)]
  show ((fun r : Nat × Array Nat => if r.1 < N then kas_bin (N - max r.1 1) r.2 (max r.1 1) else .ret r.2) (N, List.toArray (List.range N))).kasWp cmp G s
  dsimp only
  rw [if_neg (Nat.lt_irrefl _)]
  exact hG
section
variable {prog : Program} {w : World} {A : Around} {E : Value → Shared → Prop} {s : Shared}
theorem up_list_sort {a : Addr} {vs : List Value} {n : Nat} {κ : SortKind} {P : PySem.Fin → Shared → Prop} (ho : s.heap.get? a = some (seqObj "list" vs.toArray n)) (h64 : vs.length < 64)
    (hkk : 2 ≤ vs.length → ∀ h' : Heap, (∀ b o, b ≠ a → s.heap.get? b = some o → h'.get? b = some o) → ∀ Q : SortKind → Shared → Prop, Q κ { s with heap := h' } → wpAny (model prog w) A (keyKind' vs.toArray) Q (fun _ _ => False) { s with heap := h' })
    (hask : ∀ h' : Heap, (∀ b o, b ≠ a → s.heap.get? b = some o → h'.get? b = some o) → ∀ k, 1 ≤ k → k < vs.length → ∀ C : Bool → Shared → Prop, C false { s with heap := h' } → wpAny (model prog w) A (keyLt' κ (vs.getD k Value.none) (vs.getD (k - 1) Value.none)) C (fun _ _ => False) { s with heap := h' })
    (h : P (.done (.ret .none)) { s with heap := sortedHeap s.heap a vs vs.toArray }) :
    wpAny (model prog w) A (Builtin.«list.sort» ⟨[.ref a], []⟩) P E s := by
  rw [list_sort_plain]
  have ha : a < s.heap.objs.size := Heap.lt_size ho
  refine wpAny_bind (listItems_at ho rfl ?_)
  refine wpAny_bind (listUpdate_at ho rfl ?_)
  obtain ⟨e1, ho1⟩ : ∃ e1, (s.heap.update a (Obj.mapSeq fun _ => #[])).get? a = some (seqObj "list" #[] e1) := ⟨_, get?_update_seq ho (fun _ => #[])⟩
  refine wpAny_bind (seqEpoch_at ho1 rfl ?_)
  refine wpAny_bind (wpAny_newTuple ?_)
  refine wpAny_bind (wpAny_newList ?_)
  refine wpAny_holding ?_
  have ho6 : (((s.heap.update a (Obj.mapSeq fun _ => #[])).push (seqObj "tuple" vs.toArray 0)).push (seqObj "list" #[] 0)).get? a = some (seqObj "list" #[] e1) := by
    rw [Heap.get?_push_ne _ _ _ (by rw [size_push', Heap.size_update]; exact Nat.ne_of_lt (Nat.lt_succ_of_lt ha)), Heap.get?_push_ne _ _ _ (by rw [Heap.size_update]; exact Nat.ne_of_lt ha)]
    exact ho1
  have keep : ∀ b o, b ≠ a → s.heap.get? b = some o → (((s.heap.update a (Obj.mapSeq fun _ => #[])).push (seqObj "tuple" vs.toArray 0)).push (seqObj "list" #[] 0)).get? b = some o := fun b o hb e =>
    Heap.get?_push_of_some _ (Heap.get?_push_of_some _ ((Heap.get?_update_other _ _ (Ne.symm hb)).trans e))
  show wpAny (model prog w) A _ P E { s with heap := ((s.heap.update a (Obj.mapSeq fun _ => #[])).push (seqObj "tuple" vs.toArray 0)).push (seqObj "list" #[] 0) }
  dsimp only
  have hsz : vs.toArray.size = vs.length := by simp
  by_cases h2 : vs.toArray.size < 2
  · rw [if_pos h2, if_pos h2]
    refine wpAny_bind (wpAny_pure ?_)
    rw [StateT.run_pure]
    refine wpAny_bind (wpAny_pure ?_)
    dsimp only
    refine wpAny_bind (seqEpoch_at ho6 rfl ?_)
    refine wpAny_bind (listUpdate_at ho6 rfl ?_ (hsz2 := by rw [Array.size_map]; show (pairsOf vs).size ≤ _; rw [pairsOf_size, sizeLine_eq]; omega))
    simp only [bne_self_eq_false, Bool.false_eq_true, if_false]
    refine wpAny_pure ?_
    have ez : (vs.toArray.zip vs.toArray).map (·.2) = vs.toArray := by
      apply Array.toList_inj.mp
      simp [Array.toList_zip, List.map_snd_zip]
    show P (.done (.ret .none)) { s with heap := sortedHeap s.heap a vs ((vs.toArray.zip vs.toArray).map (·.2)) }
    rw [ez]
    exact h
  · rw [if_neg h2, if_neg h2]
    have h2' : 2 ≤ vs.length := by omega
    refine wpAny_bind (wpAny_mono (hkk h2' _ keep (fun κ' s' => κ' = κ ∧ s' = { s with heap := ((s.heap.update a (Obj.mapSeq fun _ => #[])).push (seqObj "tuple" vs.toArray 0)).push (seqObj "list" #[] 0) }) ⟨rfl, rfl⟩) (fun κ' s0 hk => ?_) fun _ _ x => x.elim)
    obtain ⟨rfl, rfl⟩ := hk
    refine wpAny_bind (wpAny_mono (kat_run (ks := vs) (vs := vs) (κ := κ') (Q := fun st' s' => arrOf st' = (List.toArray (List.range vs.length)).map (kas_item (vs.toArray.zip vs.toArray)) ∧ failedOf st' = none ∧ s' = { s with heap := ((s.heap.update a (Obj.mapSeq fun _ => #[])).push (seqObj "tuple" vs.toArray 0)).push (seqObj "list" #[] 0) })
      (G := fun p s' => p = List.toArray (List.range vs.length) ∧ s' = { s with heap := ((s.heap.update a (Obj.mapSeq fun _ => #[])).push (seqObj "tuple" vs.toArray 0)).push (seqObj "list" #[] 0) }) rfl h2' h64 (fun p' st' s' a1 a2 a3 a4 => ⟨by rw [a2, a4.1], a3, a4.2⟩) (up_sort h2' (fun k k1 k2 C hC => hask _ keep k k1 k2 C hC) ⟨rfl, rfl⟩)) ?_ fun _ _ e => e)
    rintro ⟨⟨⟩, st'⟩ s' ⟨har, hf, rfl⟩
    dsimp only
    have hout : (arrOf st').map (·.2) = vs.toArray := by
      rw [kat_snds rfl har]
      congr 1
      refine List.ext_getElem (by simp) fun i h1 h2 => ?_
      simp [List.getD_eq_getElem?_getD, List.getElem?_eq_getElem h2]
    refine wpAny_bind (seqEpoch_at ho6 rfl ?_)
    refine wpAny_bind (listUpdate_at ho6 rfl ?_ (hsz2 := by rw [hout, hsz, sizeLine_eq]; omega))
    rw [hf, hout]
    simp only [bne_self_eq_false, Bool.false_eq_true, if_false]
    exact wpAny_pure h
theorem up_sorted {l : Addr} {vs : List Value} {κ : SortKind} {Q : Value → Shared → Prop} (hl : s.heap.IsList l vs.toArray) (h64 : vs.length < 64)
    (hkk : 2 ≤ vs.length → ∀ h' : Heap, (∀ b o, s.heap.get? b = some o → h'.get? b = some o) → ∀ Q : SortKind → Shared → Prop, Q κ { s with heap := h' } → wpAny (model prog w) A.in1.in1 (keyKind' vs.toArray) Q (fun _ _ => False) { s with heap := h' })
    (hask : ∀ h' : Heap, (∀ b o, s.heap.get? b = some o → h'.get? b = some o) → ∀ k, 1 ≤ k → k < vs.length → ∀ C : Bool → Shared → Prop, C false { s with heap := h' } → wpAny (model prog w) A.in1.in1 (keyLt' κ (vs.getD k Value.none) (vs.getD (k - 1) Value.none)) C (fun _ _ => False) { s with heap := h' })
    (h : Q (.ref (s.heap.objs.size + 1)) { s with heap := sortedAll s.heap vs vs.toArray }) :
    wpAny (model prog w) A (call (.builtin "sorted") [.ref l]) Q E s := by
  refine Calls.call_function_entry kind_sorted plain_sorted entry_sorted (args_sorted1 _) ?_
  unfold Builtin.«sorted»
  refine wpAny_bind (m := checkCount "sorted" 1 1 _) (wpAny_pure ?_)
  refine wpAny_bind (collect_list hl ?_)
  refine wpAny_bind (wpAny_newList ?_)
  have hsz : ((s.heap.push (seqObj "list" #[] 0)).update s.heap.objs.size (Obj.mapSeq (· ++ vs.toArray))).objs.size = s.heap.objs.size + 1 := by
    rw [Heap.size_update, size_push']
  have hoL : (((s.heap.push (seqObj "list" #[] 0)).update s.heap.objs.size (Obj.mapSeq (· ++ vs.toArray))).push (seqObj "list" vs.toArray 0)).get? (s.heap.objs.size + 1) = some (seqObj "list" vs.toArray 0) := by
    rw [← hsz]; exact Heap.get?_push_size _ rfl
  have keep : ∀ b o, s.heap.get? b = some o → b ≠ s.heap.objs.size + 1 ∧ (((s.heap.push (seqObj "list" #[] 0)).update s.heap.objs.size (Obj.mapSeq (· ++ vs.toArray))).push (seqObj "list" vs.toArray 0)).get? b = some o := fun b o q => by
    have hlt : b < s.heap.objs.size := Heap.lt_size q
    refine ⟨Nat.ne_of_lt (Nat.lt_succ_of_lt hlt), ?_⟩
    rw [Heap.get?_push_ne _ _ _ (by rw [hsz]; exact Nat.ne_of_lt (Nat.lt_succ_of_lt hlt)), Heap.get?_update_ne _ _ _ _ (Nat.ne_of_lt hlt), Heap.get?_push_ne _ _ _ (Nat.ne_of_lt hlt)]
    exact q
  show wpAny _ _ _ _ _ { s with heap := ((s.heap.push (seqObj "list" #[] 0)).update s.heap.objs.size (Obj.mapSeq (· ++ vs.toArray))).push (seqObj "list" vs.toArray 0) }
  rw [hsz]
  refine wpAny_bind (wpAny_holding (wpAny_call_entry slot_list_sort ⟨_, hoL, rfl⟩ entry_list_sort (up_list_sort (κ := κ) hoL h64 (fun h2 h' hk Q hq => ?_) (fun h' hk k k1 k2 C hC => ?_) ⟨_, rfl, ?_⟩) (args_list_sort _)))
  · exact hkk h2 h' (fun b o e => hk b o (keep b o e).1 (keep b o e).2) Q hq
  · exact hask h' (fun b o e => hk b o (keep b o e).1 (keep b o e).2) k k1 k2 C hC
  · exact wpAny_pure ⟨_, rfl, h⟩
end
theorem ex_paired {R : Value → Value → Prop} : ∀ its : List Value, (∀ v ∈ its, ∃ f, R v f) → ∃ fs, Paired R its fs
  | [], _ => ⟨[], .nil⟩
  | v :: its, h => by
    obtain ⟨f, hf⟩ := h v List.mem_cons_self
    obtain ⟨fs, hfs⟩ := ex_paired its fun v' hv => h v' (List.mem_cons_of_mem _ hv)
    exact ⟨f :: fs, .cons hf hfs⟩
theorem katTups_of {h : Heap} {vs fs : List Value} (p : Paired (fun v f => ∃ a o xs n, v = Value.ref a ∧ h.get? a = some o ∧ o.cls = Value.type "tuple" ∧ o.data = .seq xs n ∧ xs[0]? = some f) vs fs) : KatTups h vs fs := by
  induction p with
  | nil => trivial
  | cons a _ ih => exact ⟨a, ih⟩
theorem paired_imp {α β : Type} {R R' : α → β → Prop} (h : ∀ a b, R a b → R' a b) {l : List α} {m : List β} (p : Paired R l m) : Paired R' l m := by
  induction p with
  | nil => exact .nil
  | cons a _ ih => exact .cons (h _ _ a) ih
theorem paired_right {α β : Type} {R : α → β → Prop} {P : β → Prop} (h : ∀ a b, R a b → P b) {l : List α} {m : List β} (p : Paired R l m) : ∀ b ∈ m, P b := by
  induction p with
  | nil => intro b hb; cases hb
  | cons a _ ih =>
    intro b hb
    rcases List.mem_cons.mp hb with rfl | hb
    · exact h _ _ a
    · exact ih b hb
section
variable {X : Cx}
def rSortUp : List V → Hp → VK → Prop := fun xs H Q => ∃ l us F, xs = [.ref l] ∧ H l = some (.lst us) ∧ us.length < 64 ∧ FL H us F ∧ (∀ i (h : i + 1 < F.length), RltF F[i].1 F[i + 1].1) ∧ ∀ L, H L = none → Q (.ref L) (upd H L (.lst us))
theorem call_sortUp (hu : X.A.units + 20 < cLine) : CallR X (.builtin "sorted") rSortUp := by
  intro pins s σ H xs us' Q I r h
  obtain ⟨l, us, F, rfl, hl, h64, fl, ris, q⟩ := h
  obtain ⟨u, rfl, ru⟩ := r.one
  cases ru
  obtain ⟨its, rv, pl, hz⟩ := I.list (SqL.of hl)
  have hlen := rv.length
  have flen := fl.len
  have pair : ∀ i (h1 : i < its.length) (h2 : i < F.length), ∃ c b ys o n rb nm t, its[i] = .ref c ∧ s.heap.get? c = some o ∧ o.cls = .type "tuple" ∧ o.data = .seq #[rb, nm] n ∧ rb = .ref b ∧ nm = .str F[i].2 t ∧ H b = some (.tup ys) ∧ SV H ys F[i].1 := fun i h1 h2 => by
    obtain ⟨c, b, ys, e1, e2, e3, e4⟩ := fl.at_ i (by omega) h2
    obtain ⟨w1, f1, q1⟩ := rv.get (List.getElem?_eq_getElem (show i < us.length by omega))
    rw [e1] at q1
    cases q1
    rw [List.getElem?_eq_getElem h1] at f1
    obtain ⟨i2, r2, p2, _⟩ := I.tuple (SqT.of e2)
    cases r2 with
    | cons ra rb =>
      cases rb with
      | cons rc rd =>
        cases rd
        cases ra
        obtain ⟨t, rfl⟩ := rc
        obtain ⟨o, g1, g2, n, g3⟩ := p2
        exact ⟨c, b, ys, o, n, _, _, t, Option.some.inj f1, g1, g2, g3, rfl, rfl, e3, e4⟩
  refine up_sorted (κ := tuples' false) pl.isList (by omega) (fun h2 h' hk Q' hq => ?_) (fun h' hk k k1 k2 C hC => ?_) ?_
  · have I' : Inv X pins σ H { s with heap := h' } := I.kept (t' := s.toks) hk
    obtain ⟨fs, pfs⟩ := ex_paired (R := fun v f => (∃ a o xs n, v = Value.ref a ∧ h'.get? a = some o ∧ o.cls = Value.type "tuple" ∧ o.data = .seq xs n ∧ xs[0]? = some f) ∧ ∃ b ys, f = Value.ref b ∧ H b = some (.tup ys)) its fun v hv => by
      obtain ⟨i, hi, rfl⟩ := List.getElem_of_mem hv
      obtain ⟨c, b, ys, o, n, rb, nm, t, g0, g1, g2, g3, rfl, rfl, g4, g5⟩ := pair i hi (by omega)
      exact ⟨.ref b, ⟨c, o, _, n, g0, hk _ _ g1, g2, g3, rfl⟩, b, ys, rfl, g4⟩
    have hfl := Paired.length pfs
    refine kat_kind (s := { s with heap := h' }) (T := .type "tuple") (katTups_of (paired_imp (fun _ _ h => h.1) pfs)) (by omega) (fun v hv => ?_) (by decide) hq
    obtain ⟨b, ys, rfl, hb⟩ := paired_right (P := fun f => ∃ b ys, f = Value.ref b ∧ H b = some (.tup ys)) (fun _ _ h => h.2) pfs v hv
    obtain ⟨i2, r2, ⟨o, g1, g2, _⟩, _⟩ := I'.tuple (SqT.of hb)
    exact fun A' Q'' E' s' k' q' => wpAny_typeOf ⟨o, k' _ _ g1, g2⟩ q'
  · have I' : Inv X pins σ H { s with heap := h' } := I.kept (t' := s.toks) hk
    obtain ⟨c, b, ys, o, n, rb, nm, t, g0, g1, g2, g3, rfl, rfl, g4, g5⟩ := pair k (by omega) (by omega)
    obtain ⟨c', b', ys', o', n', rb', nm', t', g0', g1', g2', g3', rfl, rfl, g4', g5'⟩ := pair (k - 1) (by omega) (by omega)
    have ek : its.getD k Value.none = .ref c := by rw [List.getD_eq_getElem?_getD, List.getElem?_eq_getElem k2, g0]; rfl
    have ek' : its.getD (k - 1) Value.none = .ref c' := by rw [List.getD_eq_getElem?_getD, List.getElem?_eq_getElem (by omega), g0']; rfl
    rw [ek, ek']
    have hr : RltF (F[k - 1]'(by omega)).1 (F[k]'(by omega)).1 := by
      have := ris (k - 1) (by omega)
      have e : k - 1 + 1 = k := by omega
      simp only [e] at this
      exact this
    refine kat_lt (s := { s with heap := h' }) (hk _ _ g1) g3 (hk _ _ g1') g3' ?_
    have hu1 : X.A.in1.in1.units + 4 < cLine := by rw [Around.in1_units, Around.in1_units]; omega
    refine kat_cons (road_neq I' g4' g4 g5' g5 hr hu1 _ _ _ _ (kat_no (kat_one _ _ ?_)))
    exact road_nlt I' g4' g4 g5' g5 hr hu1 _ _ _ _ hC
  · obtain ⟨e, he⟩ := sortedAll_at s.heap its its.toArray
    have hf : H (s.heap.objs.size + 1) = none := I.hok.fresh (Nat.le_succ _)
    refine ⟨.ref (s.heap.objs.size + 1), _, I.laid (t' := s.toks) (a := s.heap.objs.size + 1) (o := .lst us) (fun b o eo => sortedAll_old eo) (Nat.le_succ _) ?_, rfl, q _ hf⟩
    exact ⟨by omega, its, e, rv, he⟩
end
end L2
set_option maxRecDepth 100000
namespace L2
open PySem PySem.Spec PyProof.Rows
def dd (seen : List Str) : List (Road × Str) → LR
  | [] => []
  | q :: P => if q.2 ∈ seen then dd seen P else (q.2, q.1) :: dd (seen ++ [q.2]) P
theorem dd_cons (s : List Str) (q : Road × Str) (P : List (Road × Str)) : dd s (q :: P) = if q.2 ∈ s then dd s P else (q.2, q.1) :: dd (s ++ [q.2]) P := rfl
theorem dd_append (N : List (Road × Str)) : ∀ (P : List (Road × Str)) (s : List Str), dd s (P ++ N) = dd s P ++ dd (s ++ (dd s P).map (·.1)) N
  | [], s => by simp [dd]
  | q :: P, s => by
    rw [List.cons_append, dd_cons, dd_cons]
    by_cases h : q.2 ∈ s
    · rw [if_pos h, if_pos h]; exact dd_append N P s
    · rw [if_neg h, if_neg h, dd_append N P, List.cons_append, List.map_cons]
      simp [List.append_assoc]
theorem lrAt_app {acc x : LR} {e : Str} (h : e ∈ acc.map (·.1)) : lrAt (acc ++ x) e = lrAt acc e := by
  unfold lrAt
  rw [List.find?_append]
  cases hf : acc.find? fun q => decide (q.1 = e) with
  | none =>
    obtain ⟨q, h1, h2⟩ := List.mem_map.mp h
    have := List.find?_eq_none.mp hf q h1
    simp [h2] at this
  | some q => rfl
theorem lrN_addOn {row : Str} {cb : CBL} (hr : row ∈ cb.map (·.1)) (ms : List (List Str × Str)) : lrN (addOn row cb ms) = lrN cb ++ dd (cb.map (·.1)) (ms.map fun m => (lrAt (lrN cb) row ++ [m.1], m.2)) := by
  induction ms using snoc_ind with
  | h0 => simp [addOn, dd]
  | hs l m ih =>
    have hk : (addOn row cb l).map (·.1) = cb.map (·.1) ++ (dd (cb.map (·.1)) (l.map fun m => (lrAt (lrN cb) row ++ [m.1], m.2))).map (·.1) := by
      rw [← lrN_keys (addOn row cb l), ih, List.map_append, lrN_keys]
    rw [addOn_snoc, List.map_append, dd_append, ← List.append_assoc, ← ih, ← hk]
    show _ = _ ++ dd _ [(lrAt (lrN cb) row ++ [m.1], m.2)]
    unfold dd
    by_cases h : m.2 ∈ (addOn row cb l).map (·.1)
    · rw [if_pos h, if_pos h]; simp [dd]
    · rw [if_neg h, if_neg h, lrN_snoc]
      have e1 : lrAt (lrN (addOn row cb l)) row = lrAt (lrN cb) row := by
        rw [ih]
        exact lrAt_app (by rw [lrN_keys]; exact hr)
      show lrN (addOn row cb l) ++ [(m.2, lrAt (lrN (addOn row cb l)) row ++ [m.1])] = _
      rw [e1]
      simp [dd]
theorem lrAt_mem {acc : LR} (nd : (acc.map (·.1)).Nodup) {e : Str} {r : Road} (h : (e, r) ∈ acc) : lrAt acc e = r := by
  induction acc with
  | nil => cases h
  | cons q l ih =>
    rw [List.map_cons, List.nodup_cons] at nd
    unfold lrAt
    rw [List.find?_cons]
    by_cases hq : q.1 = e
    · rw [decide_eq_true hq]
      rcases List.mem_cons.mp h with h | h
      · rw [← h]; rfl
      · exact absurd (List.mem_map.mpr ⟨_, h, hq.symm⟩) nd.1
    · rw [decide_eq_false hq]
      rcases List.mem_cons.mp h with h | h
      · rw [← h] at hq; exact absurd rfl hq
      · exact ih nd.2 h
structure QI (rows : List Rw2) (f : Str) (i : Nat) (found : LR) (P : List (Road × Str)) : Prop where
  fd : found = (lrN (bfsN rows f i)).take i
  pd : dd (found.map (·.1)) P = (lrN (bfsN rows f i)).drop i
theorem QI.start (rows : List Rw2) (f : Str) : QI rows f 0 [] [([], f)] := ⟨by simp, by simp [dd, bfsN, lrN, lrRoad]⟩
theorem QI.old {rows : List Rw2} {f : Str} {i : Nat} {found : LR} {q : Road × Str} {P : List (Road × Str)} (h : QI rows f i found (q :: P)) (hq : q.2 ∈ found.map (·.1)) : QI rows f i found P := by
  refine ⟨h.fd, ?_⟩
  have := h.pd
  unfold dd at this
  rw [if_pos hq] at this
  exact this
theorem QI.new {rows : List Rw2} {f : Str} {i : Nat} {found : LR} {q : Road × Str} {P : List (Road × Str)} (nd : ((bfsN rows f i).map (·.1)).Nodup) (h : QI rows f i found (q :: P)) (hq : q.2 ∉ found.map (·.1)) : i < (bfsN rows f i).length ∧ QI rows f (i + 1) (found ++ [(q.2, q.1)]) (P ++ (onOf rows q.2).map fun m => (q.1 ++ [m.1], m.2)) := by
  have hp := h.pd
  unfold dd at hp
  rw [if_neg hq] at hp
  have hl : (lrN (bfsN rows f i)).length = (bfsN rows f i).length := by have := congrArg List.length (lrN_keys (bfsN rows f i)); simpa using this
  have hi : i < (lrN (bfsN rows f i)).length := by
    rcases Nat.lt_or_ge i (lrN (bfsN rows f i)).length with h' | h'
    · exact h'
    · rw [List.drop_of_length_le h'] at hp; cases hp
  rw [List.drop_eq_getElem_cons hi] at hp
  injection hp with hp1 hp2
  have hic : i < (bfsN rows f i).length := by omega
  have hci : (bfsN rows f i)[i].1 = q.2 := by
    have h1 : ((lrN (bfsN rows f i)).map (·.1))[i]'(by rw [List.length_map]; exact hi) = q.2 := by rw [List.getElem_map, ← hp1]
    have h2 := lrN_keys (bfsN rows f i)
    have h3 : ((bfsN rows f i).map (·.1))[i]'(by rw [List.length_map]; exact hic) = q.2 := by
      rw [← h1]
      congr 1
      exact h2.symm
    rw [List.getElem_map] at h3
    exact h3
  have hb : bfsN rows f (i + 1) = addOn q.2 (bfsN rows f i) (onOf rows q.2) := by
    show (match (bfsN rows f i)[i]? with | none => bfsN rows f i | some c => addOn c.1 (bfsN rows f i) (onOf rows c.1)) = _
    rw [List.getElem?_eq_getElem hic]
    dsimp only
    rw [hci]
  have hrow : q.2 ∈ (bfsN rows f i).map (·.1) := by rw [← hci]; exact List.mem_map.mpr ⟨_, List.getElem_mem hic, rfl⟩
  have hat : lrAt (lrN (bfsN rows f i)) q.2 = q.1 := lrAt_mem (by rw [lrN_keys]; exact nd) (by rw [hp1]; exact List.getElem_mem hi)
  refine ⟨hic, ?_, ?_⟩
  · rw [hb, lrN_addOn hrow, List.take_append_of_le_length (by omega), List.take_add_one, List.getElem?_eq_getElem hi, ← hp1, h.fd]; rfl
  · rw [hb, lrN_addOn hrow, hat, List.drop_append_of_le_length (by omega), dd_append, List.map_append, List.map_cons, List.map_nil, hp2]
    congr 1
    congr 1
    rw [← hp2, ← lrN_keys (bfsN rows f i)]
    have e1 : (lrN (bfsN rows f i)) = (lrN (bfsN rows f i)).take i ++ ((lrN (bfsN rows f i))[i] :: (lrN (bfsN rows f i)).drop (i + 1)) := by
      rw [← List.drop_eq_getElem_cons hi, List.take_append_drop]
    rw [hp2, h.fd]
    conv => rhs; rw [e1]
    rw [List.map_append, List.map_cons, ← hp1]
    simp
theorem strLt_asymm {a b : Str} (h : strLt a b = true) : a ≠ b ∧ decide (b.cps.toList < a.cps.toList) = false := by
  unfold strLt at h
  have h1 := of_decide_eq_true h
  refine ⟨fun z => ?_, decide_eq_false fun h2 => ?_⟩
  · subst z; exact List.lt_irrefl _ h1
  · exact List.lt_irrefl _ (List.lt_trans h1 h2)
theorem SltF.ne {xs ys : List Str} (h : SltF xs ys) : xs ≠ ys := fun z => by
  subst z
  obtain ⟨j, h1, h2, _, h3, _⟩ := h
  exact h3 rfl
theorem slt_word (w : Str) {a b : Str} (h : strLt a b = true) : SltF [w, a] [w, b] := by
  obtain ⟨h1, h2⟩ := strLt_asymm h
  refine ⟨1, by simp, by simp, fun i g1 g2 hi => ?_, h1, h2⟩
  have : i = 0 := by omega
  subst this; rfl
theorem slt_way : SltF ["from"] ["to"] := ⟨0, by simp, by simp, fun i g1 g2 hi => absurd hi (by omega), by decide, by decide⟩
theorem RltF.ext {r q : Road} (h : RltF r q) (s t : List Str) : RltF (r ++ [s]) (q ++ [t]) := by
  obtain ⟨j, h1, h2, hp, hn, hs⟩ := h
  refine ⟨j, by simp; omega, by simp; omega, fun i g1 g2 hi => ?_, ?_, ?_⟩
  · rw [List.getElem_append_left (by omega), List.getElem_append_left (by omega)]
    exact hp i (by omega) (by omega) hi
  · rw [List.getElem_append_left h1, List.getElem_append_left h2]; exact hn
  · rw [List.getElem_append_left h1, List.getElem_append_left h2]; exact hs
theorem RltF.step (r : Road) {s t : List Str} (h : SltF s t) : RltF (r ++ [s]) (r ++ [t]) := by
  refine ⟨r.length, by simp, by simp, fun i g1 g2 hi => ?_, ?_, ?_⟩
  · rw [List.getElem_append_left hi, List.getElem_append_left hi]
  · simp only [List.getElem_append_right (Nat.le_refl _), Nat.sub_self, List.getElem_cons_zero]; exact h.ne
  · simp only [List.getElem_append_right (Nat.le_refl _), Nat.sub_self, List.getElem_cons_zero]; exact h
theorem mvs_rise {ns : List Str} : ∀ {h : Hd}, h.ok ns → h.mvs.Pairwise fun m m' => SltF m.1 m'.1
  | .one _, _ => .nil
  | .as _, _ => .nil
  | .way x y, _ => by
    show List.Pairwise _ [((["from"] : List Str), x), (["to"], y)]
    exact .cons (fun m hm => by rw [List.mem_singleton.mp hm]; exact slt_way) (.cons (fun m hm => nomatch hm) .nil)
  | .prs s ps, ok => by
    show List.Pairwise _ (ps.map fun p => (([if s = "box" then "part" else "case", p.1] : List Str), p.2))
    rw [List.pairwise_map]
    have := rising_pw ok.2.2.1
    rw [List.pairwise_map] at this
    exact this.imp fun h => slt_word _ h
theorem RT.onRise {H : Hp} {a : Addr} {xs : List V} {rows : List Rw2} {ns ws : List Str} (rt : RT H a xs rows ns ws) (hw : ∀ z ∈ ws, Wd z) {x : Str} (hx : x ∈ ns) : (onOf rows x).Pairwise fun m m' => SltF m.1 m'.1 := by
  unfold onOf
  rw [List.pairwise_map]
  exact mvs_rise (rt.endIn hw hx).2.2
theorem rise_app {F : List (Road × Str)} {q : Road × Str} {ms : List (List Str × Str)} (hF : F.Pairwise fun p p' => RltF p.1 p'.1) (hq : ∀ p ∈ F, ∃ r s, p.1 = r ++ [s] ∧ RltF r q.1) (hm : ms.Pairwise fun m m' => SltF m.1 m'.1) : (F ++ ms.map fun m => (q.1 ++ [m.1], m.2)).Pairwise fun p p' => RltF p.1 p'.1 := by
  rw [List.pairwise_append]
  refine ⟨hF, ?_, fun p hp p' hp' => ?_⟩
  · rw [List.pairwise_map]; exact hm.imp fun h => RltF.step _ h
  · obtain ⟨m, _, rfl⟩ := List.mem_map.mp hp'
    obtain ⟨r, s, e, h⟩ := hq p hp
    rw [e]
    exact h.ext _ _
theorem addOn_ok {rows : List Rw2} {ns : List Str} {row : Str} (ms : List (List Str × Str)) : ∀ {cb : CBL}, (cb.map (·.1)).Nodup → (∀ c ∈ cb, EndN rows ns c.1) → (∀ m ∈ ms, EndN rows ns m.2) → ((addOn row cb ms).map (·.1)).Nodup ∧ ∀ c ∈ addOn row cb ms, EndN rows ns c.1 := by
  induction ms using snoc_ind with
  | h0 => exact fun h1 h2 _ => ⟨h1, h2⟩
  | hs l m ih =>
    intro cb h1 h2 h3
    obtain ⟨g1, g2⟩ := ih h1 h2 fun m' hm => h3 m' (List.mem_append.mpr (.inl hm))
    rw [addOn_snoc]
    split
    · exact ⟨g1, g2⟩
    · next hn =>
      have b := BI.snoc (x := some (row, m.1)) (i := 0) ⟨g1, g2, fun j c hj => absurd hj (by omega)⟩ (Nat.zero_le _) (h3 m (List.mem_append.mpr (.inr (by simp)))) hn
      exact ⟨b.nd, b.en⟩
theorem RT.bfs {H : Hp} {a : Addr} {xs : List V} {rows : List Rw2} {ns ws : List Str} (rt : RT H a xs rows ns ws) (hw : ∀ z ∈ ws, Wd z) {f : Str} (hf : EndN rows ns f) : ∀ i, ((bfsN rows f i).map (·.1)).Nodup ∧ ∀ c ∈ bfsN rows f i, EndN rows ns c.1
  | 0 => ⟨by simp [bfsN], fun c hc => by rw [List.mem_singleton.mp hc]; exact hf⟩
  | i + 1 => by
    obtain ⟨h1, h2⟩ := RT.bfs rt hw hf i
    show (List.map (fun c : Str × Option (Str × List Str) => c.1) (match (bfsN rows f i)[i]? with | none => bfsN rows f i | some c => addOn c.1 (bfsN rows f i) (onOf rows c.1))).Nodup ∧ ∀ c ∈ (match (bfsN rows f i)[i]? with | none => bfsN rows f i | some c => addOn c.1 (bfsN rows f i) (onOf rows c.1)), EndN rows ns c.1
    cases hc : (bfsN rows f i)[i]? with
    | none => exact ⟨h1, h2⟩
    | some c => exact addOn_ok _ h1 h2 fun m hm => (rt.mvMem hw (h2 c (List.mem_of_getElem? hc)) hm).2
theorem bfsN_still {rows : List Rw2} {f : Str} {i : Nat} (h : (bfsN rows f i).length = i) : ∀ k, bfsN rows f (i + k) = bfsN rows f i
  | 0 => rfl
  | k + 1 => by
    have ih := bfsN_still h k
    show (match (bfsN rows f (i + k))[i + k]? with | none => bfsN rows f (i + k) | some c => addOn c.1 (bfsN rows f (i + k)) (onOf rows c.1)) = _
    rw [ih, List.getElem?_eq_none (by omega)]
theorem bfsN_uniq {rows : List Rw2} {f : Str} {i j : Nat} (hi : (bfsN rows f i).length = i) (hj : (bfsN rows f j).length = j) : i = j := by
  rcases Nat.le_total i j with h | h
  · have := bfsN_still hi (j - i)
    rw [show i + (j - i) = j by omega] at this
    rw [this, hi] at hj
    exact hj
  · have := bfsN_still hj (i - j)
    rw [show j + (i - j) = i by omega] at this
    rw [this, hj] at hi
    exact hi.symm
theorem QI.fin {rows : List Rw2} {f : Str} {i : Nat} {found : LR} (h : QI rows f i found []) (hl : found.length = i) : (bfsN rows f i).length = i ∧ found = lrN (bfsN rows f i) := by
  have hk : (lrN (bfsN rows f i)).length = (bfsN rows f i).length := by have := congrArg List.length (lrN_keys (bfsN rows f i)); simpa using this
  have h1 := congrArg List.length h.fd
  have h2 : ([] : LR).length = _ := congrArg List.length h.pd
  rw [List.length_take] at h1
  rw [List.length_drop] at h2
  simp only [List.length_nil] at h2
  have : (bfsN rows f i).length = i := by omega
  exact ⟨this, by rw [h.fd, List.take_of_length_le (by omega)]⟩
theorem RT.onWw {H : Hp} {a : Addr} {xs : List V} {rows : List Rw2} {ns ws : List Str} (rt : RT H a xs rows ns ws) (hw : ∀ z ∈ ws, Wd z) (h2 : 2 ≤ ws.length) {x : Str} (hx : x ∈ ns) : (onOf rows x).length ≤ ws.length := by
  have hst := rt.stay hw hx
  obtain ⟨hm, hok⟩ := rt.endRow hw hst
  have hrow := (List.mem_filter.mp hm).1
  have hww := rt.ww _ hrow
  unfold onOf
  rw [List.length_map]
  generalize hdOf rows (endOf rows x) = h at hok hww ⊢
  cases h with
  | one s => simp [Hd.mvs]
  | as y => simp [Hd.mvs]
  | way y z => simpa [Hd.mvs] using h2
  | prs s ps =>
    have hp : (ps.map (·.1)).Nodup := (rising_pw hok.2.2.1).imp fun h => (strLt_asymm h).1
    have := nodup_sub hp (m := ws) hww
    simpa [Hd.mvs] using this
end L2
set_option maxRecDepth 100000
set_option maxHeartbeats 400000
--LEVEL 12
namespace T1
open PySem L2
def top (i : Nat) : Stmt := PySem.Challenge.pw_coilkind_k16_rows_met.main.body.getD i (.Pass ⟨0, 0, 0, 0⟩)
abbrev s_heads_of : Stmt := top 2
abbrev s_rows_of : Stmt := top 3
abbrev s_names_in : Stmt := top 4
abbrev s_rows_met : Stmt := top 10
abbrev s_steps_in : Stmt := top 11
abbrev s_moves_in : Stmt := top 12
abbrev s_reached : Stmt := top 13
abbrev s_law_fill : Stmt := top 15
abbrev s_law_next : Stmt := top 16
abbrev s_law_turned : Stmt := top 17
abbrev s_law_words : Stmt := top 18
abbrev s_law_head : Stmt := top 19
abbrev s_law_telling : Stmt := top 20
abbrev s_law_any : Stmt := top 21
abbrev s_law_row_here : Stmt := top 22
abbrev s_law_head_here : Stmt := top 23
abbrev s_law_on : Stmt := top 24
abbrev s_law_met : Stmt := top 25
abbrev s_law : Stmt := top 26
abbrev s_Net_init : Stmt := inClass (top 9) 0
structure Txt (K : PySem.W.Frag) (mg : Str → Option Value) (w : World) : Prop where
  n_len : mg "len" = none
  n_isinstance : mg "isinstance" = none
  n_range : mg "range" = none
  n_int : mg "int" = none
  n_list : mg "list" = none
  n_tuple : mg "tuple" = none
  n_dict : mg "dict" = none
  n_sorted : mg "sorted" = none
  n_zip : mg "zip" = none
  c_WORDED : ∃ a, mg "WORDED" = some (.ref a) ∧ ∀ H, SqT K H a [.str "box", .str "pick"]
  c_FROM : ∃ u, mg "FROM" = some u ∧ RelV (.ref (adr mg "FROM")) u
  c_TO : ∃ u, mg "TO" = some u ∧ RelV (.ref (adr mg "TO")) u
  c_STEP_WORDS : ∃ a, mg "STEP_WORDS" = some (.ref a) ∧ KD w K a [(.inr "box", .str "part"), (.inr "pick", .str "case")]
  t_heads_of : FnT K mg "heads_of" s_heads_of ["T"]
  t_rows_of : FnT K mg "rows_of" s_rows_of ["T"]
  t_names_in : FnT K mg "names_in" s_names_in ["head"]
  t_rows_met : FnT K mg "rows_met" s_rows_met ["T", "x"]
  t_steps_in : FnT K mg "steps_in" s_steps_in ["head"]
  t_moves_in : FnT K mg "moves_in" s_moves_in ["head", "rows"]
  t_reached : FnT K mg "reached" s_reached ["net", "first"]
  t_law_fill : FnT K mg "_law_fill" s_law_fill ["_law_cell", "_law_at"]
  t_law_next : FnT K mg "_law_next" s_law_next ["_law_pen", "_law_many"]
  t_law_turned : FnT K mg "_law_turned" s_law_turned ["_law_pen", "_law_some"]
  t_law_words : FnT K mg "_law_words" s_law_words ["_law_pen"]
  t_law_head : FnT K mg "_law_head" s_law_head ["_law_pen", "_law_names", "_law_ahead"]
  t_law_telling : FnT K mg "_law_telling" s_law_telling ["_law_pen", "_law_most"]
  t_law_any : FnT K mg "_law_any" s_law_any ["_law_pen", "_law_told"]
  t_law_row_here : FnT K mg "_law_row_here" s_law_row_here ["_law_told", "_law_name"]
  t_law_head_here : FnT K mg "_law_head_here" s_law_head_here ["_law_told", "_law_name"]
  t_law_on : FnT K mg "_law_on" s_law_on ["_law_told", "_law_name"]
  t_law_met : FnT K mg "_law_met" s_law_met ["_law_told", "_law_name"]
  t_law : FnT K mg "law" s_law ["script"]
  k_Net : ClT K mg "Net" "Net.__init__" s_Net_init ["self", "T"] ["rows", "heads", "marks", "moves"] (adr mg "Net")
theorem sc_Net_init : FnScope ["self", "T"] ["self", "T"] (defScope s_Net_init) := ⟨rfl, rfl, rfl, by decide +kernel, rfl, by decide +kernel, by decide +kernel⟩
theorem sc_heads_of : FnScope ["T"] ["T"] (defScope s_heads_of) := ⟨rfl, rfl, rfl, by decide +kernel, rfl, by decide +kernel, by decide +kernel⟩
theorem sc_rows_of : FnScope ["T", "heads", "rows", "name", "row"] ["T"] (defScope s_rows_of) := ⟨rfl, rfl, rfl, by decide +kernel, rfl, by decide +kernel, by decide +kernel⟩
theorem sc_names_in : FnScope ["head"] ["head"] (defScope s_names_in) := ⟨rfl, rfl, rfl, by decide +kernel, rfl, by decide +kernel, by decide +kernel⟩
theorem sc_rows_met : FnScope ["T", "x", "net", "least_roads", "row", "come_by", "ahead", "step"] ["T", "x"] (defScope s_rows_met) := ⟨rfl, rfl, rfl, by decide +kernel, rfl, by decide +kernel, by decide +kernel⟩
theorem sc_steps_in : FnScope ["head"] ["head"] (defScope s_steps_in) := ⟨rfl, rfl, rfl, by decide +kernel, rfl, by decide +kernel, by decide +kernel⟩
theorem sc_moves_in : FnScope ["head", "rows"] ["head", "rows"] (defScope s_moves_in) := ⟨rfl, rfl, rfl, by decide +kernel, rfl, by decide +kernel, by decide +kernel⟩
theorem sc_reached : FnScope ["net", "first", "come_by", "waiting", "at", "row", "step", "end"] ["net", "first"] (defScope s_reached) := ⟨rfl, rfl, rfl, by decide +kernel, rfl, by decide +kernel, by decide +kernel⟩
theorem sc_law_fill : FnScope ["_law_cell", "_law_at", "_law_x"] ["_law_cell", "_law_at"] (defScope s_law_fill) := ⟨rfl, rfl, rfl, by decide +kernel, rfl, by decide +kernel, by decide +kernel⟩
theorem sc_law_next : FnScope ["_law_pen", "_law_many", "_law_at", "_law_cell", "_law_found"] ["_law_pen", "_law_many"] (defScope s_law_next) := ⟨rfl, rfl, rfl, by decide +kernel, rfl, by decide +kernel, by decide +kernel⟩
theorem sc_law_turned : FnScope ["_law_pen", "_law_some", "_law_left", "_law_found"] ["_law_pen", "_law_some"] (defScope s_law_turned) := ⟨rfl, rfl, rfl, by decide +kernel, rfl, by decide +kernel, by decide +kernel⟩
theorem sc_law_words : FnScope ["_law_pen", "_law_some"] ["_law_pen"] (defScope s_law_words) := ⟨rfl, rfl, rfl, by decide +kernel, rfl, by decide +kernel, by decide +kernel⟩
theorem sc_law_head : FnScope ["_law_pen", "_law_names", "_law_ahead", "_law_way", "_law_one"] ["_law_pen", "_law_names", "_law_ahead"] (defScope s_law_head) := ⟨rfl, rfl, rfl, by decide +kernel, rfl, by decide +kernel, by decide +kernel⟩
theorem sc_law_telling : FnScope ["_law_pen", "_law_most", "_law_size", "_law_names", "_law_rows", "_law_k"] ["_law_pen", "_law_most"] (defScope s_law_telling) := ⟨rfl, rfl, rfl, by decide +kernel, rfl, by decide +kernel, by decide +kernel⟩
theorem sc_law_any : FnScope ["_law_pen", "_law_told"] ["_law_pen", "_law_told"] (defScope s_law_any) := ⟨rfl, rfl, rfl, by decide +kernel, rfl, by decide +kernel, by decide +kernel⟩
theorem sc_law_row_here : FnScope ["_law_told", "_law_name", "_law_rows"] ["_law_told", "_law_name"] (defScope s_law_row_here) := ⟨rfl, rfl, rfl, by decide +kernel, rfl, by decide +kernel, by decide +kernel⟩
theorem sc_law_head_here : FnScope ["_law_told", "_law_name"] ["_law_told", "_law_name"] (defScope s_law_head_here) := ⟨rfl, rfl, rfl, by decide +kernel, rfl, by decide +kernel, by decide +kernel⟩
theorem sc_law_on : FnScope ["_law_told", "_law_name", "_law_here", "_law_found"] ["_law_told", "_law_name"] (defScope s_law_on) := ⟨rfl, rfl, rfl, by decide +kernel, rfl, by decide +kernel, by decide +kernel⟩
theorem sc_law_met : FnScope ["_law_told", "_law_name", "_law_layer", "_law_found", "_law_later", "_law_road", "_law_here", "_law_step", "_law_other"] ["_law_told", "_law_name"] (defScope s_law_met) := ⟨rfl, rfl, rfl, by decide +kernel, rfl, by decide +kernel, by decide +kernel⟩
theorem sc_law : FnScope ["script", "_law_pen", "_law_k", "_law_told", "_law_name", "_law_due", "_law_turn", "_law_found"] ["script"] (defScope s_law) := ⟨rfl, rfl, rfl, by decide +kernel, rfl, by decide +kernel, by decide +kernel⟩
def TxtT (K : PySem.W.Frag) (mg : Str → Option Value) (w : World) : Prop := ∃ ts : List (Addr × Obj × List V), (∀ t ∈ ts, KTup K t) ∧ (ts.map (·.1)).Nodup ∧ Txt (without K (ts.map (·.1))) mg w ∧ ∀ H : Hp, (∀ t ∈ ts, H t.1 = some (.frz t.2.1 (.tup t.2.2))) → Kn mg H "FROM" [.str "from"] ∧ Kn mg H "TO" [.str "to"]
section
variable {P : Program} {w : World} {K : PySem.W.Frag} {mg : Str → Option Value} {base : Heap}
def spFill : Sp := fun vs H Q _ => ∃ c t : Int, vs = [.int c, .int t] ∧ (0 ≤ t ∧ t < 1000000000) ∧ ∀ r : Int, Q (.int r) H
theorem ok_law_fill (T : Txt K mg w) : FnK P w K mg base 1 "_law_fill" ["_law_cell", "_law_at"] spFill := by
  refine T.t_law_fill.okS sc_law_fill (fun vs H Q E h => ?_) (fun f cdv A outer s H vs Q E hr h => ?_)
  · obtain ⟨c, t, rfl, _⟩ := h
    rfl
  · obtain ⟨c, t, rfl, ⟨ht0, ht1⟩, k⟩ := h
    refine ⟨_, (sb_cons (s_if (y_cmpR op_geD (zv 0) (z_op op_powD z_int z_int) (nomark _)) (sb_one (s_ret (zv 0))) sb_nil)
      (sb_cons (s_set (i := 2) sc_law_fill.nd rfl (Or.inl rfl) (z_op op_modD (z_op op_addD (z_op op_addD (z_op op_mulD (z_op op_modD (zv 0) z_int) z_int) (z_op op_mulD (zv 1) z_int)) z_int) z_int))
      (sb_cons (s_set (i := 2) sc_law_fill.nd rfl (Or.inl rfl) (z_op op_modD (z_op op_addD (z_op op_addD (z_op op_mulD (zv 2) (zv 2)) (z_op op_mulD z_int (zv 2))) (zv 1)) z_int))
      (sb_one (s_ret (z_op op_addD (z_op op_mulD (zv 2) z_int) (z_op op_modD (z_op op_addD (z_op op_mulD (zv 2) (zv 2)) (z_op op_mulD z_int (zv 1))) z_int))))))), ?_⟩
    refine ⟨⟨by decide, by decide, by decide⟩, _, rfl, ite2 (fun hk => k _) (fun hk => ?_)⟩
    refine ⟨by decide, .inl ⟨?_, ?_⟩, .inl ⟨by omega, by omega⟩, by decide, ?_⟩
    · have := Int.emod_nonneg c (show (2147483647 : Int) ≠ 0 by decide); omega
    · have := Int.emod_lt_of_pos c (show (0 : Int) < 2147483647 by decide); omega
    generalize hx : (c % 2147483647 * 48271 + t * 69621 + 11) % 2147483629 = x
    have hx0 : 0 ≤ x := by rw [← hx]; exact Int.emod_nonneg _ (by decide)
    have hx1 : x < 2147483629 := by rw [← hx]; exact Int.emod_lt_of_pos _ (by decide)
    refine ⟨.inl ⟨by omega, by omega⟩, .inl ⟨by decide, by decide⟩, by decide, ?_⟩
    generalize hy : (x * x + 48271 * x + t) % 2147483587 = y
    have hy0 : 0 ≤ y := by rw [← hy]; exact Int.emod_nonneg _ (by decide)
    have hy1 : y < 2147483587 := by rw [← hy]; exact Int.emod_lt_of_pos _ (by decide)
    exact ⟨.inl ⟨by omega, by omega⟩, .inl ⟨by omega, by omega⟩, .inl ⟨by decide, by decide⟩, by decide, k _⟩
def spNext (K : PySem.W.Frag) : Sp := fun vs H Q _ => ∃ (p a : Addr) (ns : List Int) (m t x : Int), vs = [.ref p, .int m] ∧ H p = some (.lst [.ref a, .int t, .int x]) ∧ (∀ o, SqL K (upd H p o) a (ns.map V.int)) ∧ SqL K H a (ns.map V.int) ∧ (0 ≤ t ∧ t < 1000000) ∧ (0 < m ∧ m < 1073741824) ∧
  ∀ r t' x' : Int, 0 ≤ r → r < m → 0 ≤ t' → t' ≤ t + 1 → Q (.int r) (upd H p (.lst [.ref a, .int t', .int x']))
theorem atI0 {α : Type} (x y z : α) : atI [x, y, z] 0 = some x := rfl
theorem atI1 {α : Type} (x y z : α) : atI [x, y, z] 1 = some y := rfl
theorem atI2 {α : Type} (x y z : α) : atI [x, y, z] 2 = some z := rfl
theorem ok_law_next (T : Txt K mg w) : FnK P w K mg base 2 "_law_next" ["_law_pen", "_law_many"] (spNext K) := by
  have F_law_fill : FnK P w K mg base 1 "_law_fill" ["_law_cell", "_law_at"] spFill := ok_law_fill T
  refine T.t_law_next.okS sc_law_next (fun vs H Q E h => ?_) (fun f cdv A outer s H vs Q E hr h => ?_)
  · obtain ⟨p, a, ns, m, t, x, rfl, _⟩ := h
    rfl
  · obtain ⟨p, a, ns, m, t, x, rfl, hp, hS', hS, ⟨ht0, ht1⟩, ⟨hm0, hm1⟩, k⟩ := h
    refine ⟨_, (sb_cons (s_if (y_cmpR op_ltD (z_ix (ix_K K) (zv 0) z_int (fun _ _ => rfl)) (zv 1) (nomark _)) (sb_cons (s_set (i := 2) sc_law_next.nd rfl (Or.inl rfl) (z_ix (ix_K K) (zv 0) z_int (fun _ _ => rfl)))
      (sb_cons (s_set (i := 3) sc_law_next.nd rfl (Or.inl rfl) z_int)
      (sb_cons (s_if (y_cmpR op_ltD (zv 2) (z_callB (call_lenK K) (by rfl) T.n_len PySem.boot_len (sa_Subscript (z_ix (ix_K K) (zv 0) z_int (fun _ _ => rfl)) sa_nil)) (nomark _)) (sb_one (s_set (i := 3) sc_law_next.nd rfl (Or.inl rfl) (z_ix (ix_K K) (z_ix (ix_K K) (zv 0) z_int (fun _ _ => rfl)) (zv 2) (fun _ _ => rfl)))) (sb_one (s_if (y_cmpR op_gtD (z_callB (call_lenK K) (by rfl) T.n_len PySem.boot_len (sa_Subscript (z_ix (ix_K K) (zv 0) z_int (fun _ _ => rfl)) sa_nil)) z_int (nomark _)) (sb_one (s_set (i := 3) sc_law_next.nd rfl (Or.inl rfl) (z_op op_addD (z_op op_modD (z_ix (ix_K K) (z_ix (ix_K K) (zv 0) z_int (fun _ _ => rfl)) (z_op op_modD (z_op op_mulD (zv 2) z_int) (z_callB (call_lenK K) (by rfl) T.n_len PySem.boot_len (sa_Subscript (z_ix (ix_K K) (zv 0) z_int (fun _ _ => rfl)) sa_nil))) (fun _ _ => rfl)) z_int) (z_op op_mulD (zv 2) z_int)))) sb_nil)))
      (sb_cons (s_asg (z_op op_addD (zv 2) z_int) (g_sub (zv 0) z_int set_list))
      (sb_one (s_asg (z_fn F_law_fill (hr.mono (by decide)) (sa_Name (zv 3) (sa_Name (zv 2) sa_nil))) (g_sub (zv 0) z_int set_list))))))) sb_nil)
      (sb_cons (s_set (i := 4) sc_law_next.nd rfl (Or.inl rfl) (z_op op_modD (z_ix (ix_K K) (zv 0) z_int (fun _ _ => rfl)) (zv 1)))
      (sb_cons (s_asg (z_op op_divD (z_ix (ix_K K) (zv 0) z_int (fun _ _ => rfl)) (zv 1)) (g_sub (zv 0) z_int set_list))
      (sb_one (s_ret (zv 4)))))), ?_⟩
    refine tSeq_by (fun σ' H1 => ∃ (v2 v3 : Option V) (t' x' : Int), σ' = [some (.ref p), some (.int m), v2, v3, none] ∧ H1 p = some (.lst [.ref a, .int t', .int x']) ∧ (H1 = H ∨ ∃ o, H1 = upd H p o) ∧ 0 ≤ t' ∧ t' ≤ t + 1) ?_ ?_
    · intro nx hnx
      refine ⟨_, .int x, .inl (SqL.of hp), atI2 _ _ _, _, rfl, ite2 (fun hk => ?_) (fun hk => ?_)⟩
      · refine tSeq_set ⟨_, .int t, .inl (SqL.of hp), atI1 _ _ _, ?_⟩
        refine tSeq_setC ?_
        refine tSeq_by (fun σ' H1 => H1 = H ∧ ∃ c : Int, σ' = [some (.ref p), some (.int m), some (.int t), some (.int c), none]) ?_ ?_
        · intro nx' hnx'
          refine ⟨_, .ref a, .inl (SqL.of hp), atI0 _ _ _, .inl ⟨_, .inl hS, _, rfl, ite2 (fun hl => ?_) (fun hl => ?_)⟩⟩
          · obtain ⟨c, hc1, hc2⟩ := atI_some (ns.map V.int) t ht0 (by have := of_decide_eq_true hl; omega)
            have hl' : t.toNat < ns.length := by
              have := of_decide_eq_true hl
              rw [List.length_map] at this; omega
            have hc : c = .int (ns[t.toNat]) := by
              rw [List.getElem?_map, List.getElem?_eq_getElem hl'] at hc1
              exact (Option.some.inj hc1).symm
            subst hc
            exact ⟨_, .ref a, .inl (SqL.of hp), atI0 _ _ _, _, _, .inl hS, hc2, hnx' _ _ ⟨rfl, _, rfl⟩⟩
          · refine ⟨_, .ref a, .inl (SqL.of hp), atI0 _ _ _, .inl ⟨_, .inl hS, _, rfl, ite2 (fun hl2 => ?_) (fun hl2 => ?_)⟩⟩
            · have hl2' := of_decide_eq_true hl2
              have hlp : 0 < (ns.map V.int).length := by omega
              have e0 := Int.emod_nonneg (t * 7) (show ((ns.map V.int).length : Int) ≠ 0 by omega)
              have e1 := Int.emod_lt_of_pos (t * 7) (show (0 : Int) < (ns.map V.int).length by omega)
              obtain ⟨c, hc1, hc2⟩ := atI_some (ns.map V.int) (t * 7 % ((ns.map V.int).length : Int)) e0 e1
              have hl' : (t * 7 % ((ns.map V.int).length : Int)).toNat < ns.length := by
                have e2 : (ns.map V.int).length = ns.length := List.length_map _
                omega
              have hc : c = .int (ns[(t * 7 % ((ns.map V.int).length : Int)).toNat]) := by
                rw [List.getElem?_map, List.getElem?_eq_getElem hl'] at hc1
                exact (Option.some.inj hc1).symm
              subst hc
              refine ⟨_, .ref a, .inl (SqL.of hp), atI0 _ _ _, .inl ⟨by omega, by omega⟩, _, .ref a, .inl (SqL.of hp), atI0 _ _ _, .inl ⟨_, .inl hS, hl2', _, _, .inl hS, hc2, by decide, .inl ⟨by omega, by omega⟩, hnx' _ _ ⟨rfl, _, rfl⟩⟩⟩
            · exact hnx' _ _ ⟨rfl, 0, rfl⟩
        · rintro σ' H1 ⟨rfl, c, rfl⟩
          refine ⟨p, _, 1, 1, rfl, rfl, hp, rfl, ?_⟩
          refine ⟨c, t, rfl, ⟨ht0, by omega⟩, fun r => ?_⟩
          refine ⟨p, _, 2, 2, rfl, rfl, upd_same, rfl, ?_⟩
          rw [upd_upd]
          exact hnx _ _ ⟨_, _, t + 1, r, rfl, upd_same, .inr ⟨_, rfl⟩, by omega, by omega⟩
      · exact hnx _ _ ⟨none, none, t, x, rfl, hp, .inl rfl, ht0, by omega⟩
    · rintro σ' H1 ⟨v2, v3, t', x', rfl, h1, h2, h3, h4⟩
      refine ⟨_, .int x', .inl (SqL.of h1), atI2 _ _ _, hm0, ?_⟩
      refine ⟨_, .int x', .inl (SqL.of h1), atI2 _ _ _, ⟨hm0, hm1⟩, p, _, 2, 2, rfl, rfl, h1, rfl, ?_⟩
      have e : ∀ o, upd H1 p o = upd H p o := fun o => by
        rcases h2 with rfl | ⟨o', rfl⟩
        · rfl
        · exact upd_upd
      rw [e]
      exact k _ t' _ (Int.emod_nonneg _ (by omega)) (Int.emod_lt_of_pos _ hm0) h3 h4
structure NxAt (K : PySem.W.Frag) (H0 H : Hp) (p : Addr) (t : Nat) : Prop where
  ex : ∃ (a : Addr) (ns : List Int) (u x : Int), H p = some (.lst [.ref a, .int u, .int x]) ∧ (∀ H', Sm p p H0 H' → SqL K H' a (ns.map V.int)) ∧ 0 ≤ u ∧ u ≤ (t : Int)
  sm : Sm p p H0 H
section
variable {H0 H H' : Hp} {p D : Addr} {t u : Nat} {o : HO}
theorem NxAt.mono (h : NxAt K H0 H p t) (l : t ≤ u) : NxAt K H0 H p u := by
  obtain ⟨a, ns, y, x, h1, h2, h3, h4⟩ := h.ex
  exact ⟨⟨a, ns, y, x, h1, h2, h3, by omega⟩, h.sm⟩
theorem NxAt.same (h : NxAt K H0 H p t) (s : Same H H') : NxAt K H0 H' p t := by
  obtain ⟨a, ns, y, x, h1, h2⟩ := h.ex
  exact ⟨⟨a, ns, y, x, s _ _ h1, h2⟩, h.sm.trans s.sm⟩
theorem NxAt.ne (h : NxAt K H0 H p t) (hD : H D = none) : D ≠ p := fun e => by
  obtain ⟨_, _, _, _, z, _⟩ := h.ex
  rw [← e, hD] at z; cases z
theorem NxAt.free (h : NxAt K H0 H p t) (hD : H D = none) : H0 D = none := h.sm.free hD (h.ne hD) (h.ne hD)
theorem NxAt.put (h : NxAt K H0 H p t) (h1 : D ≠ p) (h2 : H0 D = none) : NxAt K H0 (upd H D o) p t := by
  obtain ⟨a, ns, y, x, e1, e2⟩ := h.ex
  exact ⟨⟨a, ns, y, x, by rw [upd_ne h1.symm]; exact e1, e2⟩, h.sm.upd h2⟩
theorem NxAt.ts (h : NxAt K H0 H p t) (s : Sm p p H H') : Tk H H' := fun b xs e => by
  obtain ⟨_, _, _, _, z, _⟩ := h.ex
  have n : b ≠ p := fun q => by rw [q, z] at e; cases e
  exact s _ _ e n n
end
def spNx (K : PySem.W.Frag) : Sp := fun vs H Q _ => ∃ (H0 : Hp) (p : Addr) (m : Int) (t : Nat), vs = [.ref p, .int m] ∧ NxAt K H0 H p t ∧ (0 < m ∧ m < 1073741824) ∧ t < 900000 ∧
  ∀ (r : Int) (H' : Hp), 0 ≤ r → r < m → NxAt K H0 H' p (t + 1) → Sm p p H H' → Q (.int r) H'
theorem ixN_nat {n j : Nat} (h : j < n) : ixN n (j : Int) = some j := by
  unfold ixN
  rw [if_pos (by omega), if_pos (by omega)]; simp
theorem erase_perm {α : Type} : ∀ {ls : List α} {i : Nat} (h : i < ls.length), (ls[i] :: ls.eraseIdx i).Perm ls
  | x :: r, 0, _ => List.Perm.refl _
  | x :: r, i + 1, h => by
    have ih := erase_perm (ls := r) (i := i) (by simpa using h)
    exact (List.Perm.swap _ _ _).trans (ih.cons x)
theorem ok_law_nextS (T : Txt K mg w) : FnK P w K mg base 2 "_law_next" ["_law_pen", "_law_many"] (spNx K) := (ok_law_next T).imp fun vs H Q E h => by
  obtain ⟨H0, p, m, t, rfl, hn, hm, ht, k⟩ := h
  obtain ⟨a, ns, u, x, h1, h2, h3, h4⟩ := hn.ex
  have sU : ∀ o, Sm p p H (upd H p o) := fun o b u hb n _ => by rw [upd_ne n]; exact hb
  refine ⟨p, a, ns, m, u, x, rfl, h1, fun o => h2 _ (hn.sm.trans (sU o)), h2 _ hn.sm, ⟨h3, by omega⟩, hm, fun r t' x' r0 r1 t0 t1 => ?_⟩
  exact k r _ r0 r1 ⟨⟨a, ns, t', x', upd_same, h2, t0, by push_cast; omega⟩, hn.sm.trans (sU _)⟩ (sU _)
def spTurn (K : PySem.W.Frag) : Sp := fun vs H Q _ => ∃ (H0 : Hp) (p a : Addr) (xs : List V) (t : Nat), vs = [.ref p, .ref a] ∧ NxAt K H0 H p t ∧ t + 100 < 900000 ∧ (SqL K H a xs ∨ SqT K H a xs) ∧ xs.length ≤ 100 ∧
  ∀ (L : Addr) (ys : List V) (H' : Hp), H L = none → H' L = some (.lst ys) → ys.Perm xs → NxAt K H0 H' p (t + 100) → Sm p p H H' → Q (.ref L) H'
theorem ok_law_turned (T : Txt K mg w) : FnK P w K mg base 3 "_law_turned" ["_law_pen", "_law_some"] (spTurn K) := by
  have F_law_next : FnK P w K mg base 2 "_law_next" ["_law_pen", "_law_many"] (spNx K) := ok_law_nextS T
  refine T.t_law_turned.okS sc_law_turned (fun vs H Q E h => ?_) (fun f cdv A outer s H vs Q E hr h => ?_)
  · obtain ⟨H0, p, a, xs, t, rfl, _⟩ := h
    rfl
  · obtain ⟨H0, p, a, xs, t, rfl, hn, ht, ha, hx, k⟩ := h
    have hu := hu_of hr
    have hu0 := Nat.lt_of_succ_lt (hu_of hr)
    have hsz : sizeLine = 16777216 := sizeLine_eq
    refine ⟨_, (sb_cons (s_set (i := 2) sc_law_turned.nd rfl (Or.inl rfl) (z_callTy (call_lstK K) (by rfl) T.n_list PyProof.Rows.boot_list (sa_Name (zv 1) sa_nil)))
      (sb_cons (s_set (i := 3) sc_law_turned.nd rfl (Or.inl rfl) (z_lst sa_nil))
      (sb_cons (s_while PassesOwn.never (y_cmpR (op_neD hu0) (zv 2) (z_lst sa_nil) (nomark _)) (sb_one (s_expr (z_bm K PySem.F.plainAttrs_list PySem.F.slot_list_append PySem.F.type_list_append mt_append (zv 3) (sa_Call (z_bm K PySem.F.plainAttrs_list PySem.F.slot_list_pop PySem.F.type_list_pop mt_popAt (zv 2) (sa_Call (z_fn F_law_next (hr.mono (by decide)) (sa_Name (zv 0) (sa_Call (z_callB (call_lenK K) (by rfl) T.n_len PySem.boot_len (sa_Name (zv 2) sa_nil)) sa_nil))) sa_nil)) sa_nil)))))
      (sb_one (s_ret (zv 3)))))), ?_⟩
    refine tSeq_set ⟨a, xs, rfl, ha, fun l0 hl0 => ?_⟩
    refine tSeq_set ⟨(show 0 ≤ sizeLine by decide), fun l1 hl1 => ?_⟩
    have s1 := Same.upd hl0 (.lst xs)
    have s2 := Same.upd hl1 (.lst [])
    have e0 : l0 ≠ p := hn.ne hl0
    have e1 : l1 ≠ p := (hn.same s1).ne hl1
    have n01 : l0 ≠ l1 := ne_of_none upd_same hl1
    have f0 := hn.free hl0
    have f1 := (hn.same s1).free hl1
    have g0 : upd (upd H l0 (.lst xs)) l1 (.lst []) l0 = some (.lst xs) := s2 _ _ upd_same
    have g1 : upd (upd H l0 (.lst xs)) l1 (.lst []) l1 = some (.lst []) := upd_same
    have hn2 := (hn.same s1).same s2
    have sm2 : Sm p p H (upd (upd H l0 (.lst xs)) l1 (.lst [])) := (s1.trans s2).sm
    dsimp only
    generalize upd (upd H l0 (.lst xs)) l1 (.lst []) = H2 at g0 g1 hn2 sm2
    have fl0 : H l0 = none := hl0
    have fl1 : H l1 = none := s1.free hl1
    refine tSeq_by (fun σ' H' => ∃ ys, σ' = [some (.ref p), some (.ref a), some (.ref l0), some (.ref l1)] ∧ H' l1 = some (.lst ys) ∧ ys.Perm xs ∧ NxAt K H0 H' p (t + 100) ∧ Sm p p H H') ?_ ?_
    · intro nx hnx
      refine ⟨fun m σ' H' => ∃ (ls ys : List V), σ' = [some (.ref p), some (.ref a), some (.ref l0), some (.ref l1)] ∧ H' l0 = some (.lst ls) ∧ H' l1 = some (.lst ys) ∧ ls.length = m ∧ (ys ++ ls).Perm xs ∧ NxAt K H0 H' p (t + ys.length) ∧ Sm p p H H', ⟨xs.length, xs, [], rfl, g0, g1, rfl, by simp, hn2, sm2⟩, ?_⟩
      rintro m σ' H3 ⟨ls, ys, rfl, q0, q1, q2, q3, q4, q5⟩
      have hyl : ys.length + ls.length = xs.length := by have := q3.length_eq; rw [List.length_append] at this; exact this
      refine ⟨(show 0 ≤ sizeLine by decide), fun b hb => ⟨ne_of_none q0 hb, ls, (Same.upd hb _) _ _ q0, upd_same, _, rfl, iteB (fun c => ?_) (fun c => ?_)⟩⟩
      · have s3 := Same.upd hb (.lst [])
        have q4' := q4.same s3
        have q0' := s3 _ _ q0
        have q1' := s3 _ _ q1
        have q5' := q5.trans s3.sm
        generalize upd H3 b (.lst []) = H4 at q4' q0' q1' q5'
        have hpos : 0 < ls.length := by
          cases ls with
          | nil => exact absurd c (by decide)
          | cons x r => simp
        refine ⟨fun σ' H'' => ∃ m', m' < m ∧ ∃ (ls ys : List V), σ' = [some (.ref p), some (.ref a), some (.ref l0), some (.ref l1)] ∧ H'' l0 = some (.lst ls) ∧ H'' l1 = some (.lst ys) ∧ ls.length = m' ∧ (ys ++ ls).Perm xs ∧ NxAt K H0 H'' p (t + ys.length) ∧ Sm p p H H'', fun σ' H'' h => h, ?_⟩
        refine ⟨.inl ⟨rfl, ys, SqL.of q1'⟩, .inl ⟨rfl, ls, SqL.of q0'⟩, .inl ⟨ls, .inl (SqL.of q0'), H0, p, _, _, rfl, q4', ⟨by omega, by omega⟩, by omega, fun r H5 r0 r1 hn5 sm5 => ?_⟩⟩
        obtain ⟨i, rfl⟩ : ∃ i : Nat, r = (i : Int) := ⟨r.toNat, by omega⟩
        have hi : i < ls.length := by omega
        have p0 := sm5 _ _ q0' e0 e0
        have p1 := sm5 _ _ q1' e1 e1
        refine ⟨l0, ls, (i : Int), i, ls[i], rfl, rfl, p0, by omega, by omega, (ixN_seq (ixN_nat hi)).1, List.getElem?_eq_getElem hi, l1, ys, ls[i], rfl, rfl, by rw [upd_ne n01.symm]; exact p1, by omega, ls.length - 1, by omega, ls.eraseIdx i, ys ++ [ls[i]], rfl, by rw [upd_ne n01]; exact upd_same, upd_same, ?_, ?_, ?_, (q5'.trans sm5).upd fl0 |>.upd fl1⟩
        · rw [List.length_eraseIdx, if_pos hi]
        · rw [List.append_assoc]
          exact ((erase_perm hi).append_left ys).trans q3
        · rw [List.length_append]
          exact (hn5.put e0 f0).put e1 f1
      · have hnil : ls = [] := by
          cases ls with
          | nil => rfl
          | cons x r => exact absurd c (by simp)
        subst hnil
        rw [List.append_nil] at q3
        have s3 := Same.upd hb (.lst [])
        exact hnx _ _ ⟨ys, rfl, s3 _ _ q1, q3, (q4.same s3).mono (by have := q3.length_eq; omega), q5.trans s3.sm⟩
    · rintro σ' H' ⟨ys, rfl, q1, q2, q3, q4⟩
      exact k l1 ys H' fl1 q1 q2 q3 q4
def baseA : List Str := ["a", "ab", "b", "ba"]
def baseB : List Str := ["case", "from", "part", "to"]
def WW : List Str := baseA ++ baseB
theorem ww_ok : ∀ z ∈ WW, isName z = true ∧ Wd z := fun z hz => by
  simp only [WW, baseA, baseB, List.cons_append, List.nil_append, List.mem_cons, List.mem_nil_iff, or_false] at hz
  rcases hz with rfl | rfl | rfl | rfl | rfl | rfl | rfl | rfl <;> exact ⟨by decide +kernel, wd_ascii (by decide) (by decide)⟩
structure WN (os : List Str) : Prop where
  ris : rising os = true
  len : os.length ≤ 4
  ww : ∀ z ∈ os, z ∈ WW
theorem pwA : baseA.Pairwise fun a b => strLt a b = true := by decide +kernel
theorem pwB : baseB.Pairwise fun a b => strLt a b = true := by decide +kernel
theorem WN.of {b os : List Str} (hb : b = baseA ∨ b = baseB) (s : os.Sublist b) : WN os := by
  rcases hb with rfl | rfl
  · exact ⟨rising_of_pw (pwA.sublist s), s.length_le, fun z hz => List.mem_append.mpr (.inl (s.subset hz))⟩
  · exact ⟨rising_of_pw (pwB.sublist s), s.length_le, fun z hz => List.mem_append.mpr (.inr (s.subset hz))⟩
def spWords (K : PySem.W.Frag) : Sp := fun vs H Q _ => ∃ (H0 : Hp) (p : Addr) (t : Nat), vs = [.ref p] ∧ NxAt K H0 H p t ∧ t + 5 < 900000 ∧
  ∀ (L : Addr) (os : List Str) (H' : Hp), H L = none → H' L = some (.lst (os.map V.str)) → WN os → NxAt K H0 H' p (t + 5) → Sm p p H H' → Q (.ref L) H'
theorem ok_law_words (T : Txt K mg w) : FnK P w K mg base 3 "_law_words" ["_law_pen"] (spWords K) := by
  have F_law_next : FnK P w K mg base 2 "_law_next" ["_law_pen", "_law_many"] (spNx K) := ok_law_nextS T
  refine T.t_law_words.okS sc_law_words (fun vs H Q E h => ?_) (fun f cdv A outer s H vs Q E hr h => ?_)
  · obtain ⟨H0, p, t, rfl, _⟩ := h
    rfl
  · obtain ⟨H0, p, t, rfl, hn, ht, k⟩ := h
    have hu := hu_of hr
    have hu0 := Nat.lt_of_succ_lt (hu_of hr)
    have hsz : sizeLine = 16777216 := sizeLine_eq
    refine ⟨_, (sb_cons (s_set (i := 1) sc_law_words.nd rfl (Or.inl rfl) (z_ix (ix_K K) (z_lst (sa_List (z_lst (sa_Constant z_str (sa_Constant z_str (sa_Constant z_str (sa_Constant z_str sa_nil))))) (sa_List (z_lst (sa_Constant z_str (sa_Constant z_str (sa_Constant z_str (sa_Constant z_str sa_nil))))) sa_nil))) (z_callTy call_intB (by rfl) T.n_int PyProof.Rows.boot_int (sa_Compare (z_cmpR (op_eqD hu0) (z_fn F_law_next (hr.mono (by decide)) (sa_Name (zv 0) (sa_Constant z_int sa_nil))) z_int (nomark _)) sa_nil)) (fun _ _ => rfl)))
      (sb_one (s_ret (z_lc (own := ["_law_word"]) (idx := [0]) (N' := ["_law_word", "_law_pen"]) (⟨rfl, by decide +kernel, by decide +kernel, (show ∀ y ∈ Scope.names _, y.2 = NameKind.free → ((defScope s_law_words).names.lookup y.1 = some NameKind.cell ∨ (defScope s_law_words).names.lookup y.1 = some NameKind.free) by decide +kernel), (show ∀ j ∈ ([0] : List Nat), (Scope.names _).lookup ((["_law_pen", "_law_some"] : List Str).getD j "") = some NameKind.free ∧ j < (["_law_pen", "_law_some"] : List Str).length by decide +kernel), rfl⟩) rfl (i_K K (zv 1)) (fun _ _ _ _ _ _ => (g_name (i := 0) (show List.Nodup (["_law_word", "_law_pen"] : List Str) by decide +kernel) rfl (Or.inl rfl))) (fun _ _ _ _ _ _ => (c_one (y_cmpR (op_eqD hu0) (z_fn F_law_next (hr.mono (by decide)) (sa_Name (zv 1) (sa_Constant z_int sa_nil))) z_int (nomark _)))) (fun _ _ _ _ _ _ => (zv 0)))))), ?_⟩
    refine tSeq_set ⟨(show 4 ≤ sizeLine by decide), fun l1 hl1 => ⟨(show 4 ≤ sizeLine by decide), fun l2 hl2 => ⟨(show 2 ≤ sizeLine by decide), fun O hO => ?_⟩⟩⟩
    have s1 := Same.upd hl1 (.lst (baseA.map V.str))
    have g1 : upd H l1 (.lst (baseA.map V.str)) l1 = some (.lst (baseA.map V.str)) := upd_same
    have hn1 := hn.same s1
    have e1 : l1 ≠ p := hn.ne hl1
    change upd H l1 (.lst (baseA.map V.str)) l2 = none at hl2
    change upd (upd H l1 (.lst (baseA.map V.str))) l2 (.lst (baseB.map V.str)) O = none at hO
    show tCall (spNx K) [] E0 _ _ (upd (upd (upd H l1 (.lst (baseA.map V.str))) l2 (.lst (baseB.map V.str))) O (.lst [.ref l1, .ref l2])) _
    generalize upd H l1 (.lst (baseA.map V.str)) = H1 at *
    have s2 := Same.upd hl2 (.lst (baseB.map V.str))
    have g2 : upd H1 l2 (.lst (baseB.map V.str)) l2 = some (.lst (baseB.map V.str)) := upd_same
    have hn2 := hn1.same s2
    have e2 : l2 ≠ p := hn1.ne hl2
    generalize upd H1 l2 (.lst (baseB.map V.str)) = H2 at *
    have s3 := Same.upd hO (.lst [.ref l1, .ref l2])
    have g3 : upd H2 O (.lst [.ref l1, .ref l2]) O = some (.lst [.ref l1, .ref l2]) := upd_same
    have hn3 := hn2.same s3
    have e3 : O ≠ p := hn2.ne hO
    generalize upd H2 O (.lst [.ref l1, .ref l2]) = H3 at *
    refine ⟨H0, p, 4, _, rfl, hn3, ⟨by decide, by decide⟩, by omega, fun r H4 r0 r1 hn4 sm4 => ⟨rfl, _, rfl, ?_⟩⟩
    obtain ⟨S, bs, hat, gS, hb, eS⟩ : ∃ (S : Addr) (bs : List Str), atI [V.ref l1, V.ref l2] (if (false ^^ decide (V.int r = V.int 0)) = true then 1 else 0) = some (.ref S) ∧ H4 S = some (.lst (bs.map V.str)) ∧ (bs = baseA ∨ bs = baseB) ∧ S ≠ p := by
      by_cases h : (false ^^ decide (V.int r = V.int 0)) = true
      · rw [if_pos h]
        exact ⟨l2, baseB, rfl, sm4 _ _ (s3 _ _ g2) e2 e2, .inr rfl, e2⟩
      · rw [if_neg h]
        exact ⟨l1, baseA, rfl, sm4 _ _ (s3 _ _ (s2 _ _ g1)) e1 e1, .inl rfl, e1⟩
    refine ⟨_, _, .inl (SqL.of (sm4 _ _ g3 e3 e3)), hat, ?_⟩
    have hbl : bs.length = 4 := by rcases hb with rfl | rfl <;> rfl
    have smA : Sm p p H H4 := (s1.trans (s2.trans s3)).sm.trans sm4
    refine Or.inl ⟨⟨_, SqL.of gS⟩, fun D hD => ?_⟩
    have nDp : D ≠ p := hn4.ne hD
    have nDS : D ≠ S := fun e => by rw [e, gS] at hD; cases hD
    have fD : H0 D = none := hn4.free hD
    have hD0 : H D = none := smA.free hD nDp nDp
    refine lc_by (itn_list (bs.map V.str)) (fun i τ H2 => ∃ (v : Option V) (os : List Str), τ = [v, some (.ref p)] ∧ H2 D = some (.lst (os.map V.str)) ∧ os.Sublist (bs.take i) ∧ H2 S = some (.lst (bs.map V.str)) ∧ NxAt K H0 H2 p (t + 1 + i) ∧ Sm p p H H2)
      ⟨none, [], rfl, upd_same, List.Sublist.refl _, by rw [upd_ne nDS.symm]; exact gS, hn4.same (Same.upd hD _), smA.upd hD0⟩ (by rintro i τ H2 _ ⟨_, _, _, _, _, q, _⟩; exact SqL.of q) ?_ ?_
    · rintro i τ H5 hi ⟨v, os, rfl, q1, q2, q4, q5, q6⟩
      rw [List.length_map] at hi
      rw [mapStr_getD bs i hi]
      have hti : bs.take (i + 1) = bs.take i ++ [bs.getD i ""] := by
        rw [List.take_add_one, List.getD_eq_getElem?_getD, List.getElem?_eq_getElem hi]; rfl
      generalize bs.getD i "" = z at hti
      have hol : os.length ≤ i := by have := q2.length_le; simp at this; omega
      refine ⟨H0, p, 2, t + 1 + i, rfl, q5, ⟨by decide, by decide⟩, by omega, fun r H6 r0 r1 hp3 sm3 => ?_⟩
      refine ⟨rfl, _, rfl, ?_⟩
      have g4 := sm3 _ _ q4 eS eS
      have g1 := sm3 _ _ q1 nDp nDp
      refine iteB (fun _ => ?_) (fun _ => ?_)
      · exact ⟨_, g1, by rw [List.length_map]; exact small1000 (by omega), _, os ++ [z], rfl, by rw [upd_same, List.map_append]; rfl, by rw [hti]; exact q2.append (List.Sublist.refl _), by rw [upd_ne nDS.symm]; exact g4, hp3.put nDp fD, (q6.trans sm3).upd hD0⟩
      · exact ⟨_, os, rfl, g1, by rw [hti]; exact q2.trans (List.sublist_append_left _ _), g4, hp3, q6.trans sm3⟩
    · rintro τ H5 ⟨v, os, rfl, q1, q2, q4, q5, q6⟩
      rw [List.length_map] at q2 q5
      rw [List.take_length] at q2
      exact k D os H5 hD0 q1 (WN.of hb q2) (q5.mono (by omega)) q6
structure TxtsAt (H : Hp) (l : Addr) (ss : List Str) : Prop where
  e : H l = some (.lst (ss.map V.str))
  ne : ss ≠ []
  few : ss.length ≤ 60
  wd : ∀ z ∈ ss, Wd z
theorem nx_neL {H0 H : Hp} {p l : Addr} {t : Nat} {ss : List Str} (h : TxtsAt H l ss) (hp : NxAt K H0 H p t) : l ≠ p := fun q => by
  obtain ⟨_, _, _, _, z, _⟩ := hp.ex
  have e := h.e
  have ne := h.ne
  rw [q, z] at e
  cases ss with
  | nil => exact ne rfl
  | cons a r => cases e
theorem TxtsAt.nx {H0 H H' : Hp} {p l : Addr} {t : Nat} {ss : List Str} (h : TxtsAt H l ss) (hp : NxAt K H0 H p t) (s : Sm p p H H') : TxtsAt H' l ss := ⟨s _ _ h.e (nx_neL h hp) (nx_neL h hp), h.ne, h.few, h.wd⟩
theorem TxtsAt.same {H H' : Hp} {l : Addr} {ss : List Str} (h : TxtsAt H l ss) (s : Same H H') : TxtsAt H' l ss := ⟨s _ _ h.e, h.ne, h.few, h.wd⟩
theorem TxtsAt.at {H : Hp} {l : Addr} {ss : List Str} (h : TxtsAt H l ss) (r : Int) (h0 : 0 ≤ r) (h1 : r < ss.length) : ∃ z, atI (ss.map V.str) r = some (.str z) ∧ ss[r.toNat]? = some z ∧ Wd z := by
  obtain ⟨c, hc1, hc2⟩ := atI_some (ss.map V.str) r h0 (by rw [List.length_map]; exact h1)
  rw [List.getElem?_map] at hc1
  cases e : ss[r.toNat]? with
  | none => rw [e] at hc1; cases hc1
  | some z =>
    rw [e] at hc1
    cases hc1
    exact ⟨z, hc2, rfl, h.wd z (List.mem_of_getElem? e)⟩
theorem TxtsAt.pos {H : Hp} {l : Addr} {ss : List Str} (h : TxtsAt H l ss) : 0 < ss.length := List.length_pos_iff.mpr h.ne
def AhK (ns : List Str) (k : Nat) (o : Option Str) : Prop := ∀ y, o = some y → ∃ i, i < k ∧ ns[i]? = some y
def spHead5 (K : PySem.W.Frag) : Sp := fun vs H Q _ => ∃ (H0 : Hp) (p nm : Addr) (k t : Nat) (ns : List Str), vs = [.ref p, .ref nm, .int (k : Int)] ∧ NxAt K H0 H p t ∧ t + 20 < 900000 ∧ TxtsAt H nm ns ∧ (∀ z ∈ ns, isName z = true) ∧ k ≤ ns.length ∧
  ∀ (v : V) (H' : Hp), HG4 H' ns WW v (AhK ns k) → NxAt K H0 H' p (t + 20) → Sm p p H H' → Q v H'
theorem ok_law_head (T : Txt K mg w) : FnK P w K mg base 4 "_law_head" ["_law_pen", "_law_names", "_law_ahead"] (spHead5 K) := by
  have F_law_next : FnK P w K mg base 2 "_law_next" ["_law_pen", "_law_many"] (spNx K) := ok_law_nextS T
  have F_law_words : FnK P w K mg base 3 "_law_words" ["_law_pen"] (spWords K) := ok_law_words T
  refine T.t_law_head.okS sc_law_head (fun vs H Q E h => ?_) (fun f cdv A outer s H vs Q E hr h => ?_)
  · obtain ⟨H0, p, nm, k, t, ns, rfl, _⟩ := h
    rfl
  · obtain ⟨H0, p, nm, ka, t, ns, rfl, hn, ht, tn, hnn, hk, k⟩ := h
    have hu := hu_of hr
    have hu0 := Nat.lt_of_succ_lt (hu_of hr)
    have hsz : sizeLine = 16777216 := sizeLine_eq
    have npos := tn.pos
    have nfew := tn.few
    refine ⟨_, (sb_cons (s_set (i := 3) sc_law_head.nd rfl (Or.inl rfl) (z_fn F_law_next (hr.mono (by decide)) (sa_Name (zv 0) (sa_Constant z_int sa_nil))))
      (sb_cons (s_if (y_cmpR op_ltD (zv 3) z_int (nomark _)) (sb_one (s_ret (z_ix (ix_K K) (z_lst (sa_Tuple (z_tup (sa_Constant z_str sa_nil)) (sa_Tuple (z_tup (sa_Constant z_str sa_nil)) sa_nil))) (zv 3) (fun _ _ => rfl)))) sb_nil)
      (sb_cons (s_if (w_and (y_cmpR (op_eqD hu0) (zv 3) z_int (nomark _)) (w_and1 (y_cmpR op_gtD (zv 2) z_int (nomark _)))).pt (sb_one (s_ret (z_tup (sa_Constant z_str (sa_Subscript (z_ix (ix_K K) (zv 1) (z_fn F_law_next (hr.mono (by decide)) (sa_Name (zv 0) (sa_Name (zv 2) sa_nil))) (fun _ _ => rfl)) sa_nil))))) sb_nil)
      (sb_cons (s_if (y_cmpR op_ltD (zv 3) z_int (nomark _)) (sb_cons (s_set (i := 4) sc_law_head.nd rfl (Or.inl rfl) (z_ix (ix_K K) (zv 1) (z_fn F_law_next (hr.mono (by decide)) (sa_Name (zv 0) (sa_Call (z_callB (call_lenK K) (by rfl) T.n_len PySem.boot_len (sa_Name (zv 1) sa_nil)) sa_nil))) (fun _ _ => rfl)))
      (sb_one (s_ret (z_tup (sa_Constant z_str (sa_Name (zv 4) (sa_Subscript (z_ix (ix_K K) (zv 1) (z_fn F_law_next (hr.mono (by decide)) (sa_Name (zv 0) (sa_Call (z_callB (call_lenK K) (by rfl) T.n_len PySem.boot_len (sa_Name (zv 1) sa_nil)) sa_nil))) (fun _ _ => rfl)) sa_nil))))))) sb_nil)
      (sb_one (s_ret (z_tup (sa_Subscript (z_ix (ix_K K) (z_lst (sa_Constant z_str (sa_Constant z_str sa_nil))) (z_op op_modD (zv 3) z_int) (fun _ _ => rfl)) (sa_Call (z_callTy (call_tupK K) (by rfl) T.n_tuple PyProof.Rows.boot_tuple (sa_ListComp (z_lc (own := ["_law_word"]) (idx := [0, 1]) (N' := ["_law_word", "_law_pen", "_law_names"]) (⟨rfl, by decide +kernel, by decide +kernel, (show ∀ y ∈ Scope.names _, y.2 = NameKind.free → ((defScope s_law_head).names.lookup y.1 = some NameKind.cell ∨ (defScope s_law_head).names.lookup y.1 = some NameKind.free) by decide +kernel), (show ∀ j ∈ ([0, 1] : List Nat), (Scope.names _).lookup ((["_law_pen", "_law_names", "_law_ahead", "_law_way", "_law_one"] : List Str).getD j "") = some NameKind.free ∧ j < (["_law_pen", "_law_names", "_law_ahead", "_law_way", "_law_one"] : List Str).length by decide +kernel), rfl⟩) rfl (i_K K (z_fn F_law_words (hr.mono (by decide)) (sa_Name (zv 0) sa_nil))) (fun _ _ _ _ _ _ => (g_name (i := 0) (show List.Nodup (["_law_word", "_law_pen", "_law_names"] : List Str) by decide +kernel) rfl (Or.inl rfl))) (fun _ _ _ _ _ _ => c_nil) (fun _ _ _ _ _ _ => (z_tup (sa_Name (zv 0) (sa_Subscript (z_ix (ix_K K) (zv 2) (z_fn F_law_next (hr.mono (by decide)) (sa_Name (zv 1) (sa_Call (z_callB (call_lenK K) (by rfl) T.n_len PySem.boot_len (sa_Name (zv 2) sa_nil)) sa_nil))) (fun _ _ => rfl)) sa_nil))))) sa_nil)) sa_nil))))))))), ?_⟩
    refine tSeq_set ⟨H0, p, 10, t, rfl, hn, ⟨by decide, by decide⟩, by omega, fun wy H1 w0 w1 hn1 sm1 => ?_⟩
    have tn1 := tn.nx hn sm1
    refine tSeq_by (fun σ' H' => σ' = [some (.ref p), some (.ref nm), some (.int (ka : Int)), some (.int wy), none] ∧ H1 = H') ?_ ?_
    · intro nx hnx
      refine ⟨_, rfl, iteB (fun c1 => ?_) (fun c1 => hnx _ _ ⟨rfl, rfl⟩)⟩
      have c1' : wy < 2 := of_decide_eq_true c1
      refine ⟨(show 1 ≤ sizeLine by decide), fun q1 hq1 => ⟨(show 1 ≤ sizeLine by decide), fun q2 hq2 => ⟨(show 2 ≤ sizeLine by decide), fun O hO => ?_⟩⟩⟩
      have s1 := Same.upd hq1 (.tup [.str "all"])
      have s2 := Same.upd hq2 (.tup [.str "none"])
      have s3 := Same.upd hO (.lst [.ref q1, .ref q2])
      have sA := (s1.trans s2).trans s3
      have g1 := s3 _ _ (s2 _ _ (upd_same : upd H1 q1 (.tup [.str "all"]) q1 = some (.tup [.str "all"])))
      have g2 := s3 _ _ (upd_same : upd (upd H1 q1 (.tup [.str "all"])) q2 (.tup [.str "none"]) q2 = some (.tup [.str "none"]))
      rcases (show wy = 0 ∨ wy = 1 by omega) with rfl | rfl
      · exact ⟨_, .ref q1, .inl (SqL.of upd_same), rfl, k _ _ (hg4_all g1 (fun _ h => nomatch h)) ((hn1.same sA).mono (by omega)) (sm1.trans sA.sm)⟩
      · exact ⟨_, .ref q2, .inl (SqL.of upd_same), rfl, k _ _ (hg4_none g2 (fun _ h => nomatch h)) ((hn1.same sA).mono (by omega)) (sm1.trans sA.sm)⟩
    rintro σ' H' ⟨rfl, rfl⟩
    refine tSeq_by (fun σ' H' => σ' = [some (.ref p), some (.ref nm), some (.int (ka : Int)), some (.int wy), none] ∧ H1 = H') ?_ ?_
    · intro nx hnx
      refine ⟨rfl, _, rfl, iteB (fun h2 => ⟨_, rfl, iteB (fun h3 => ?_) (fun _ => hnx _ _ ⟨rfl, rfl⟩)⟩) (fun h2 => iteB (fun c => absurd c (by decide)) fun _ => hnx _ _ ⟨rfl, rfl⟩)⟩
      have h3' : (0 : Int) < (ka : Int) := of_decide_eq_true h3
      refine ⟨H0, p, (ka : Int), _, rfl, hn1, ⟨by omega, by omega⟩, by omega, fun r H2 r0 r1 hn2 sm2 => ?_⟩
      have tn2 := tn1.nx hn1 sm2
      obtain ⟨y, hya, hyi, hyw⟩ := tn2.at r r0 (by omega)
      refine ⟨_, _, .inl (SqL.of tn2.e), hya, (show 2 ≤ sizeLine by decide), fun c hc => ?_⟩
      refine k _ _ (hg4_as upd_same (hnn _ (List.mem_of_getElem? hyi)) (List.mem_of_getElem? hyi) (fun y' e => ?_)) ((hn2.same (Same.upd hc _)).mono (by omega)) ((sm1.trans sm2).trans (Same.upd hc _).sm)
      cases e
      exact ⟨r.toNat, by omega, hyi⟩
    rintro σ' H' ⟨rfl, rfl⟩
    refine tSeq_by (fun σ' H' => σ' = [some (.ref p), some (.ref nm), some (.int (ka : Int)), some (.int wy), none] ∧ H1 = H') ?_ ?_
    · intro nx hnx
      refine ⟨_, rfl, iteB (fun c1 => ?_) (fun c1 => hnx _ _ ⟨rfl, rfl⟩)⟩
      refine tSeq_set (.inl ⟨_, .inl (SqL.of tn1.e), H0, p, _, _, rfl, hn1, ⟨by rw [List.length_map]; omega, by rw [List.length_map]; omega⟩, by omega, fun r H2 r0 r1 hn2 sm2 => ?_⟩)
      rw [List.length_map] at r1
      have tn2 := tn1.nx hn1 sm2
      obtain ⟨x, hxa, hxi, hxw⟩ := tn2.at r r0 r1
      refine ⟨_, _, .inl (SqL.of tn2.e), hxa, .inl ⟨_, .inl (SqL.of tn2.e), H0, p, _, _, rfl, hn2, ⟨by rw [List.length_map]; omega, by rw [List.length_map]; omega⟩, by omega, fun r2 H3 b0 b1 hn3 sm3 => ?_⟩⟩
      rw [List.length_map] at b1
      have tn3 := tn2.nx hn2 sm3
      obtain ⟨y, hya, hyi, hyw⟩ := tn3.at r2 b0 b1
      refine ⟨_, _, .inl (SqL.of tn3.e), hya, (show 3 ≤ sizeLine by decide), fun b hb => ?_⟩
      exact k _ _ (hg4_way upd_same (hnn _ (List.mem_of_getElem? hxi)) (hnn _ (List.mem_of_getElem? hyi)) (List.mem_of_getElem? hxi) (List.mem_of_getElem? hyi) (fun _ h => nomatch h)) ((hn3.same (Same.upd hb _)).mono (by omega)) (((sm1.trans sm2).trans sm3).trans (Same.upd hb _).sm)
    rintro σ' H' ⟨rfl, rfl⟩
    refine ⟨(show 2 ≤ sizeLine by decide), fun O hO => ?_⟩
    have sO := Same.upd hO (.lst [.str "box", .str "pick"])
    have gO : upd H1 O (.lst [.str "box", .str "pick"]) O = some (.lst [.str "box", .str "pick"]) := upd_same
    have hnO := hn1.same sO
    have tnO := tn1.same sO
    have smO := sm1.trans sO.sm
    dsimp only
    generalize upd H1 O (.lst [.str "box", .str "pick"]) = H2 at sO gO hnO tnO smO
    obtain ⟨so, hat, hso⟩ : ∃ so : Str, atI [V.str "box", V.str "pick"] (wy % 2) = some (.str so) ∧ (so = "box" ∨ so = "pick") := by
      rcases (show wy % 2 = 0 ∨ wy % 2 = 1 by omega) with e | e
      · rw [e]; exact ⟨"box", rfl, .inl rfl⟩
      · rw [e]; exact ⟨"pick", rfl, .inr rfl⟩
    refine ⟨(show (0 : Int) < 2 by decide), _, _, .inl (SqL.of gO), hat, H0, p, _, rfl, hnO, by omega, fun D os H3 hD0 q1 wn q5 sm3 => ?_⟩
    have q6 : Sm p p H H3 := smO.trans sm3
    have tn3 := tnO.nx hnO sm3
    have hol := wn.len
    have nDp : D ≠ p := hnO.ne hD0
    refine Or.inl ⟨⟨_, SqL.of q1⟩, fun D2 hD2 => ?_⟩
    have n2p : D2 ≠ p := q5.ne hD2
    have n2D : D2 ≠ D := fun e => by rw [e, q1] at hD2; cases hD2
    have hD20 : H D2 = none := q6.free hD2 n2p n2p
    have f2 : H0 D2 = none := q5.free hD2
    have n2n : D2 ≠ nm := fun e => by rw [e, tn3.e] at hD2; cases hD2
    refine lc_by (itn_list (os.map V.str)) (fun i τ H3 => ∃ (v : Option V) (xs : List V) (rs : List (Str × V)), τ = [v, some (.ref p), some (.ref nm)] ∧ H3 D2 = some (.lst xs) ∧ PairsAt H3 xs (rowsK rs) ∧ rs.map (·.1) = os.take i ∧ (∀ r ∈ rs, ∃ y, r.2 = .str y ∧ y ∈ ns ∧ Wd y) ∧ H3 D = some (.lst (os.map V.str)) ∧ NxAt K H0 H3 p (t + 1 + 5 + i) ∧ Sm p p H H3 ∧ TxtsAt H3 nm ns)
      ⟨none, [], [], rfl, upd_same, pairs_nil, rfl, (fun _ h => nomatch h), by rw [upd_ne n2D.symm]; exact q1, (q5.same (Same.upd hD2 _)).mono (by omega), q6.upd hD20, tn3.same (Same.upd hD2 _)⟩ (by rintro i τ H2 _ ⟨_, _, _, _, _, _, _, _, q, _⟩; exact SqL.of q) ?_ ?_
    · rintro i τ H4 hi ⟨v, xs, rs, rfl, r1, r2, r2n, r3, r4, r5, r6, tn4⟩
      rw [List.length_map] at hi
      rw [mapStr_getD os i hi]
      have hti : os.take (i + 1) = os.take i ++ [os.getD i ""] := by
        rw [List.take_add_one, List.getD_eq_getElem?_getD, List.getElem?_eq_getElem hi]; rfl
      generalize os.getD i "" = z at hti
      have hrl : rs.length = i := by have := congrArg List.length r2n; simp at this; omega
      have hxl : xs.length = i := by have := r2.1; simp at this; omega
      refine .inl ⟨_, .inl (SqL.of tn4.e), H0, p, _, t + 1 + 5 + i, rfl, r5, ⟨by rw [List.length_map]; omega, by rw [List.length_map]; omega⟩, by omega, fun r H5 a0 a1 hp4 sm4 => ?_⟩
      rw [List.length_map] at a1
      have tn5 := tn4.nx r5 sm4
      obtain ⟨n, hna, hni, hnw⟩ := tn5.at r a0 a1
      refine ⟨_, _, .inl (SqL.of tn5.e), hna, (show 2 ≤ sizeLine by decide), fun b hb => ?_⟩
      have g1 := sm4 _ _ r1 n2p n2p
      have g4 := sm4 _ _ r4 nDp nDp
      have nbD : D2 ≠ b := ne_of_none g1 hb
      have nbD' : D ≠ b := ne_of_none g4 hb
      have tk4 : Tk H4 H5 := r5.ts sm4
      have tk5 : Tk H4 (upd (upd H5 b (.tup [.str z, .str n])) D2 (.lst (xs ++ [.ref b]))) := (tk4.trans (Same.upd hb _).ts).set (by rw [upd_ne nbD]; exact g1) (by intro _ z; cases z)
      have hb5 : upd (upd H5 b (.tup [.str z, .str n])) D2 (.lst (xs ++ [.ref b])) b = some (.tup [.str z, .str n]) := by rw [upd_ne nbD.symm]; exact upd_same
      have tn6 : TxtsAt (upd (upd H5 b (.tup [.str z, .str n])) D2 (.lst (xs ++ [.ref b]))) nm ns := ⟨by rw [upd_ne n2n.symm]; exact (Same.upd hb _) _ _ tn5.e, tn5.ne, tn5.few, tn5.wd⟩
      refine ⟨xs, by rw [upd_ne nbD]; exact g1, by omega, _, xs ++ [.ref b], rs ++ [(z, .str n)], rfl, upd_same, pairs_snoc (r2.ts tk5) hb5, by rw [List.map_append, r2n, hti]; rfl, fun r' hr' => ?_, by rw [upd_ne n2D.symm, upd_ne nbD']; exact g4, ((hp4.same (Same.upd hb _)).put n2p f2), ((r6.trans sm4).trans (Same.upd hb _).sm).upd hD20, tn6⟩
      rcases List.mem_append.mp hr' with hx | hx
      · exact r3 r' hx
      · rw [List.mem_singleton.mp hx]
        exact ⟨n, rfl, List.mem_of_getElem? hni, hnw⟩
    · rintro τ H4 ⟨v, xs, rs, rfl, r1, r2, r2n, r3, r4, r5, r6, tn4⟩
      rw [List.length_map] at r2n r5
      rw [List.take_length] at r2n
      have hrl : rs.length = os.length := by rw [← r2n, List.length_map]
      have hxl : xs.length = os.length := by have := r2.1; simp at this; omega
      refine ⟨D2, xs, rfl, .inl ⟨SqL.of r1, fun c hc => ⟨(show 2 ≤ sizeLine by decide), fun b hb => ?_⟩⟩⟩
      have s5 := Same.upd hc (.tup xs)
      have s6 := Same.upd hb (.tup [.str so, .ref c])
      have gc := s6 _ _ (upd_same : upd H4 c (.tup xs) c = some (.tup xs))
      have hmem : ∀ r' ∈ rs, r'.1 ∈ os := fun r' hr' => by rw [← r2n]; exact List.mem_map.mpr ⟨r', hr', rfl⟩
      have tk := s5.ts.trans s6.ts
      have hprs := prs_of (r2.ts tk) (fun r' hr' => (ww_ok _ (wn.ww _ (hmem r' hr'))).1) (fun r' hr' => by obtain ⟨y, e1, e2, _⟩ := r3 r' hr'; exact ⟨y, e1, e2, hnn y e2⟩) (by rw [r2n]; exact wn.ris)
      exact k _ _ (hg4_worded hso upd_same gc (by omega) hprs (fun q hq => by obtain ⟨q', hq', rfl⟩ := List.mem_map.mp hq; exact wn.ww _ (hmem q' hq')) (fun _ h => nomatch h)) ((r5.same (s5.trans s6)).mono (by omega)) (r6.trans (s5.trans s6).sm)
def N8 : List Str := ["x", "xa", "xb", "y", "ya", "z", "ka", "kb"]
theorem n8_ok : ∀ z ∈ N8, isName z = true ∧ Wd z := fun z hz => by
  simp only [N8, List.mem_cons, List.mem_nil_iff, or_false] at hz
  rcases hz with rfl | rfl | rfl | rfl | rfl | rfl | rfl | rfl <;> exact ⟨by decide +kernel, wd_ascii (by decide) (by decide)⟩
theorem n8_nd : N8.Nodup := by decide +kernel
theorem perm_strs {ys : List V} {l : List Str} (h : ys.Perm (l.map V.str)) : ∃ zs : List Str, zs.Perm l ∧ ys = zs.map V.str := by
  refine ⟨ys.map strV, ?_, ?_⟩
  · have := h.map strV
    rw [List.map_map] at this
    have e : (strV ∘ V.str) = (id : Str → Str) := rfl
    rw [e, List.map_id] at this
    exact this
  · rw [List.map_map]
    have : ∀ y ∈ ys, (V.str ∘ strV) y = y := fun y hy => by
      obtain ⟨z, _, rfl⟩ := List.mem_map.mp (h.mem_iff.mp hy)
      rfl
    rw [List.map_congr_left this, List.map_id']
theorem paired_perm {α β : Type} {R : α → β → Prop} {xs ys : List α} (p : ys.Perm xs) : ∀ {rs : List β}, Paired R xs rs → ∃ rs', rs'.Perm rs ∧ Paired R ys rs' := by
  induction p with
  | nil => intro rs h; cases h; exact ⟨[], .refl _, .nil⟩
  | cons x p ih =>
    intro rs h
    cases h with
    | cons a b =>
      obtain ⟨rs', q1, q2⟩ := ih b
      exact ⟨_ :: rs', q1.cons _, .cons a q2⟩
  | swap x y l =>
    intro rs h
    cases h with
    | cons a h =>
      cases h with
      | cons b h => exact ⟨_ :: _ :: _, .swap _ _ _, .cons b (.cons a h)⟩
  | trans p1 p2 ih1 ih2 =>
    intro rs h
    obtain ⟨r1, a1, b1⟩ := ih2 h
    obtain ⟨r2, a2, b2⟩ := ih1 b1
    exact ⟨r2, a2.trans a1, b2⟩
theorem paired_unmap {α β γ : Type} {R : α → β → Prop} {g : γ → β} : ∀ {xs : List α} {rs : List γ}, Paired R xs (rs.map g) → Paired (fun x r => R x (g r)) xs rs
  | [], [], .nil => .nil
  | _ :: _, _ :: _, .cons a b => .cons a (paired_unmap b)
theorem paired_map {α β γ : Type} {R : α → β → Prop} {g : γ → β} : ∀ {xs : List α} {rs : List γ}, Paired (fun x r => R x (g r)) xs rs → Paired R xs (rs.map g)
  | [], [], .nil => .nil
  | _ :: _, _ :: _, .cons a b => .cons a (paired_map b)
theorem pairs_perm {H : Hp} {xs ys : List V} {rs : List (Str × V)} (h : PairsAt H xs (rowsK rs)) (p : ys.Perm xs) : ∃ rs', rs'.Perm rs ∧ PairsAt H ys (rowsK rs') := by
  obtain ⟨rs', q1, q2⟩ := paired_perm p (paired_unmap (pairs_iff.mp h))
  exact ⟨rs', q1, pairs_iff.mpr (paired_map q2)⟩
def spTelling5 (K : PySem.W.Frag) : Sp := fun vs H Q _ => ∃ (H0 : Hp) (p : Addr) (most : Int) (t : Nat), vs = [.ref p, .int most] ∧ NxAt K H0 H p t ∧ t + 600 < 900000 ∧ (1 ≤ most ∧ most ≤ 8) ∧
  ∀ (a : Addr) (xs : List V) (rows : List Rw2) (ns : List Str) (H' : Hp), RT H' a xs rows ns WW → (ns.length : Int) ≤ most → (∀ n ∈ ns, n ∈ N8) → NxAt K H0 H' p (t + 600) → Sm p p H H' → Q (.ref a) H'
theorem ok_law_telling (T : Txt K mg w) : FnK P w K mg base 5 "_law_telling" ["_law_pen", "_law_most"] (spTelling5 K) := by
  have F_law_next : FnK P w K mg base 2 "_law_next" ["_law_pen", "_law_many"] (spNx K) := ok_law_nextS T
  have F_law_turned : FnK P w K mg base 3 "_law_turned" ["_law_pen", "_law_some"] (spTurn K) := ok_law_turned T
  have F_law_head : FnK P w K mg base 4 "_law_head" ["_law_pen", "_law_names", "_law_ahead"] (spHead5 K) := ok_law_head T
  refine T.t_law_telling.okS sc_law_telling (fun vs H Q E h => ?_) (fun f cdv A outer s H vs Q E hr h => ?_)
  · obtain ⟨H0, p, most, t, rfl, _⟩ := h
    rfl
  · obtain ⟨H0, p, most, t, rfl, hn, ht, ⟨hm1, hm2⟩, k⟩ := h
    have hu := hu_of hr
    have hu0 := Nat.lt_of_succ_lt (hu_of hr)
    have hsz : sizeLine = 16777216 := sizeLine_eq
    refine ⟨_, (sb_cons (s_set (i := 2) sc_law_telling.nd rfl (Or.inl rfl) (z_op op_addD z_int (z_fn F_law_next (hr.mono (by decide)) (sa_Name (zv 0) (sa_Name (zv 1) sa_nil)))))
      (sb_cons (s_set (i := 3) sc_law_telling.nd rfl (Or.inl rfl) (z_slice (sl_K K) (z_fn F_law_turned (hr.mono (by decide)) (sa_Name (zv 0) (sa_List (z_lst (sa_Constant z_str (sa_Constant z_str (sa_Constant z_str (sa_Constant z_str (sa_Constant z_str (sa_Constant z_str (sa_Constant z_str (sa_Constant z_str sa_nil))))))))) sa_nil))) zo_none (zo_some (zv 2))))
      (sb_cons (s_set (i := 4) sc_law_telling.nd rfl (Or.inl rfl) (z_lst sa_nil))
      (sb_cons (s_for PassesOwn.never rfl (i_range1 (by rfl) T.n_range (sa_Name (zv 2) sa_nil)) (g_name (i := 5) sc_law_telling.nd rfl (Or.inl rfl)) (sb_one (s_expr (z_bm K PySem.F.plainAttrs_list PySem.F.slot_list_append PySem.F.type_list_append mt_append (zv 4) (sa_Tuple (z_tup (sa_Subscript (z_ix (ix_K K) (zv 3) (zv 5) (fun _ _ => rfl)) (sa_Call (z_fn F_law_head (hr.mono (by decide)) (sa_Name (zv 0) (sa_Name (zv 3) (sa_Name (zv 5) sa_nil)))) sa_nil))) sa_nil)))))
      (sb_one (s_ret (z_callTy (call_tupK K) (by rfl) T.n_tuple PyProof.Rows.boot_tuple (sa_Call (z_fn F_law_turned (hr.mono (by decide)) (sa_Name (zv 0) (sa_Name (zv 4) sa_nil))) sa_nil)))))))), ?_⟩
    refine tSeq_set ⟨H0, p, most, t, rfl, hn, ⟨by omega, by omega⟩, by omega, fun r H1 r0 r1 hn1 sm1 => ?_⟩
    obtain ⟨i0, rfl⟩ : ∃ i : Nat, r = (i : Int) := ⟨r.toNat, by omega⟩
    refine tSeq_set ⟨(show 8 ≤ sizeLine by decide), fun l1 hl1 => ?_⟩
    have s1 := Same.upd hl1 (.lst (N8.map V.str))
    have g1 : upd H1 l1 (.lst (N8.map V.str)) l1 = some (.lst (N8.map V.str)) := upd_same
    have hn2 := hn1.same s1
    have sm2 := sm1.trans s1.sm
    refine ⟨H0, p, l1, N8.map V.str, _, rfl, hn2, by omega, .inl (SqL.of g1), (by decide), fun L ys H2 hL gL pm hn3 sm3 => ?_⟩
    obtain ⟨zs, zpm, rfl⟩ := perm_strs pm
    have smA := sm2.trans sm3
    have hzl : zs.length = 8 := zpm.length_eq
    refine ⟨1 + (i0 : Int), rfl, Or.inr (Or.inl ⟨L, zs.map V.str, rfl, SqL.of gL, fun N hN => ?_⟩)⟩
    have ecut : cutV (zs.map V.str) none (some (1 + (i0 : Int))) = (zs.take (1 + i0)).map V.str := by
      rw [show (1 + (i0 : Int)) = ((1 + i0 : Nat) : Int) by omega, cut_to, List.map_take]
    rw [ecut]
    have sN := Same.upd hN (.lst ((zs.take (1 + i0)).map V.str))
    have gN : upd H2 N (.lst ((zs.take (1 + i0)).map V.str)) N = some (.lst ((zs.take (1 + i0)).map V.str)) := upd_same
    have hn4 := hn3.same sN
    have smB := smA.trans sN.sm
    generalize upd H2 N (.lst ((zs.take (1 + i0)).map V.str)) = H3 at sN gN hn4 smB
    have nsl : (zs.take (1 + i0)).length = 1 + i0 := by rw [List.length_take]; omega
    have nok : ∀ n ∈ zs.take (1 + i0), n ∈ N8 := fun n hn => zpm.mem_iff.mp (List.mem_of_mem_take hn)
    have nnd : (zs.take (1 + i0)).Nodup := (zpm.nodup_iff.mpr n8_nd).sublist (List.take_sublist _ _)
    generalize zs.take (1 + i0) = ns at gN nsl nok nnd
    have tn : TxtsAt H3 N ns := ⟨gN, by intro e; rw [e] at nsl; simp at nsl; omega, by omega, fun n hn => (n8_ok n (nok n hn)).2⟩
    refine tSeq_set ⟨(show 0 ≤ sizeLine by decide), fun R hR => ?_⟩
    have nRp : R ≠ p := hn4.ne hR
    have nRN : R ≠ N := fun e => by rw [e, gN] at hR; cases hR
    have hR0 : H R = none := smB.free hR nRp nRp
    have fR : H0 R = none := hn4.free hR
    have sR := Same.upd hR (.lst [])
    refine tSeq_by (fun σ' H' => ∃ (v5 : Option V) (xs : List V) (rs : List (Str × V)), σ' = [some (.ref p), some (.int most), some (.int (1 + (i0 : Int))), some (.ref N), some (.ref R), v5] ∧ H' R = some (.lst xs) ∧ PairsAt H' xs (rowsK rs) ∧ rs.map (·.1) = ns ∧ RowsG H' ns WW rs ∧ NxAt K H0 H' p (t + 101 + 20 * 8) ∧ Sm p p H H') ?_ ?_
    · intro nx hnx
      refine ⟨1 + (i0 : Int), rfl, by omega, by omega, for_by (itn_range 0 (1 + (i0 : Int)).toNat) (fun i σ' H' => ∃ (v5 : Option V) (xs : List V) (rs : List (Str × V)), σ' = [some (.ref p), some (.int most), some (.int (1 + (i0 : Int))), some (.ref N), some (.ref R), v5] ∧ H' R = some (.lst xs) ∧ PairsAt H' xs (rowsK rs) ∧ rs.map (·.1) = ns.take i ∧ RowsG H' ns WW rs ∧ TxtsAt H' N ns ∧ NxAt K H0 H' p (t + 101 + 20 * i) ∧ Sm p p H H')
        ⟨none, [], [], rfl, upd_same, pairs_nil, rfl, ⟨(fun _ h => nomatch h), (fun _ h => nomatch h)⟩, tn.same sR, (hn4.same sR).mono (by omega), smB.trans sR.sm⟩ (fun _ _ _ _ _ => True.intro) ?_ ?_⟩
      · rintro i σ' H4 hi ⟨v5, xs, rs, rfl, q1, q2, q3, q4, tn4, q6, q7⟩
        have hi' : i < ns.length := by omega
        have e0 : (0 + (i : Int)) = (i : Int) := by omega
        rw [e0]
        have hni : ns[i]? = some ns[i] := List.getElem?_eq_getElem hi'
        have hnm : ns[i] ∈ ns := List.getElem_mem hi'
        generalize ns[i] = nm at hni hnm
        have hxl : xs.length = i := by
          have h1 := q2.1
          have h2 := congrArg List.length q3
          simp at h1 h2
          omega
        refine ⟨.inl ⟨rfl, _, SqL.of q1⟩, _, .str nm, .inl (SqL.of tn4.e), atI_nat (by rw [List.getElem?_map, hni]; rfl), H0, p, N, i, _, ns, rfl, q6, by omega, tn4, (fun z hz => (n8_ok z (nok z hz)).1), by omega, fun hv H5 hg hn5 sm5 => ⟨(show 2 ≤ sizeLine by decide), fun c hc => ?_⟩⟩
        have g4 : H5 R = some (.lst xs) := sm5 _ _ q1 nRp nRp
        have tn5 := tn4.nx q6 sm5
        have ncR : R ≠ c := ne_of_none g4 hc
        refine ⟨R, xs, .ref c, rfl, rfl, by rw [upd_ne ncR]; exact g4, by omega, ?_⟩
        have tk8 : Tk H5 (upd (upd H5 c (.tup [.str nm, hv])) R (.lst (xs ++ [.ref c]))) := ((Same.upd hc _).ts).set (by rw [upd_ne ncR]; exact g4) (by intro _ z; cases z)
        have hc8 : upd (upd H5 c (.tup [.str nm, hv])) R (.lst (xs ++ [.ref c])) c = some (.tup [.str nm, hv]) := by rw [upd_ne ncR.symm]; exact upd_same
        have tk38 := (q6.ts sm5).trans tk8
        refine ⟨_, xs ++ [.ref c], rs ++ [(nm, hv)], rfl, upd_same, pairs_snoc (q2.ts tk38) hc8, ?_, ?_, ⟨by rw [upd_ne nRN.symm, upd_ne (ne_of_none tn5.e hc)]; exact tn5.e, tn5.ne, tn5.few, tn5.wd⟩, ((hn5.same (Same.upd hc _)).put nRp fR).mono (by omega), ((q7.trans sm5).trans (Same.upd hc _).sm).upd hR0⟩
        · rw [List.map_append, q3, List.take_add_one, hni]; rfl
        · have := ((q4.tk tk38).add (n := nm) (v := hv) hnm ((hg.tk tk8).imp fun o h y e => by obtain ⟨i', h1, h2⟩ := h y e; exact ⟨i', i, h1, h2, hni⟩))
          exact this.perm fun r hr => by
            rcases List.mem_append.mp hr with hr | hr
            · exact List.mem_cons_of_mem _ hr
            · rw [List.mem_singleton.mp hr]; exact List.mem_cons_self
      · rintro σ' H' ⟨v5, xs, rs, rfl, q1, q2, q3, q4, q5, q6, q7⟩
        have en : (1 + (i0 : Int)).toNat = ns.length := by omega
        rw [en, List.take_length] at q3
        exact hnx _ _ ⟨v5, xs, rs, rfl, q1, q2, q3, q4, q6.mono (by omega), q7⟩
    · rintro σ' H4 ⟨v5, xs, rs, rfl, q1, q2, q3, q4, q6, q7⟩
      have hrl : rs.length = ns.length := by rw [← q3, List.length_map]
      have hxl : xs.length = rs.length := by have := q2.1; simpa using this
      refine ⟨H0, p, R, xs, _, rfl, q6, by omega, .inl (SqL.of q1), by omega, fun L2 ys H5 hL2 gL2 pm2 hn5 sm5 => ⟨L2, ys, rfl, .inl ⟨SqL.of gL2, fun a ha => ?_⟩⟩⟩
      have s6 := Same.upd ha (.tup ys)
      have tk5 := (q6.ts sm5).trans s6.ts
      obtain ⟨rs', pr, pa⟩ := pairs_perm (q2.ts tk5) pm2
      obtain ⟨rows, rt⟩ := RT.of upd_same pa (by rw [← q3]; exact pr.map _) nnd (fun n hn => n8_ok n (nok n hn)) (by omega) (by omega) ((q4.tk tk5).perm fun r hr => pr.mem_iff.mp hr)
      exact k a _ rows ns _ rt (by omega) nok ((hn5.same s6).mono (by omega)) ((q7.trans sm5).trans s6.sm)
theorem rowEq {rs : List (Str × V)} (i : Nat) (h : i < (rowsK rs).length) (h' : i < rs.length) : (rowsK rs)[i] = (Sum.inr rs[i].1, rs[i].2) := by simp [rowsK]
def TelAt (H : Hp) (a : Addr) (xs : List V) (rs : List (Str × V)) : Prop := H a = some (.tup xs) ∧ PairsAt H xs (rowsK rs) ∧ rs.length ≤ 1000
def spHeads : Sp := fun vs H Q _ => ∃ (a : Addr) (xs : List V) (rs : List (Str × V)), vs = [.ref a] ∧ TelAt H a xs rs ∧ ∀ d, H d = none → Q (.ref d) (upd H d (.dK (dictOf (rowsK rs))))
theorem ok_heads_of (T : Txt K mg w) : FnK P w K mg base 1 "heads_of" ["T"] spHeads := by
  refine T.t_heads_of.okS sc_heads_of (fun vs H Q E h => ?_) (fun f cdv A outer s H vs Q E hr h => ?_)
  · obtain ⟨a, xs, rs, rfl, _⟩ := h
    rfl
  · obtain ⟨a, xs, rs, rfl, ⟨hx, hp, hlen⟩, k⟩ := h
    refine ⟨_, (sb_one (s_ret (z_dc (own := ["name", "head"]) (idx := []) (N' := ["name", "head"]) (⟨rfl, by decide +kernel, by decide +kernel, (show ∀ y ∈ Scope.names _, y.2 = NameKind.free → ((defScope s_heads_of).names.lookup y.1 = some NameKind.cell ∨ (defScope s_heads_of).names.lookup y.1 = some NameKind.free) by decide +kernel), (show ∀ j ∈ ([] : List Nat), (Scope.names _).lookup ((["T"] : List Str).getD j "") = some NameKind.free ∧ j < (["T"] : List Str).length by decide +kernel), rfl⟩) rfl (i_K K (zv 0)) (fun _ _ _ _ _ _ => (g_tup K (n := 2) rfl (gs_cons (g_name (i := 0) (show List.Nodup (["name", "head"] : List Str) by decide +kernel) rfl (Or.inl rfl)) (gs_cons (g_name (i := 1) (show List.Nodup (["name", "head"] : List Str) by decide +kernel) rfl (Or.inl rfl)) gs_nil)))) (fun _ _ _ _ _ _ => c_nil) (fun _ _ _ _ _ _ => (zv 0)) (fun _ _ _ _ _ _ => (zv 1))))), ?_⟩
    refine Or.inr ⟨⟨xs, SqT.of hx⟩, fun D hD => ?_⟩
    have J := itn_tup (K := K) (a := a) xs
    have hsz : sizeLine = 16777216 := sizeLine_eq
    have hxl : xs.length = rs.length := by have := hp.1; simpa using this
    have sD : ∀ o, Same H (upd H D o) := fun o => Same.upd hD o
    refine ⟨fun i m τ H' => m = xs.length - i ∧ i ≤ xs.length ∧ (∃ v1 v2, τ = [v1, v2]) ∧ H' = upd H D (.dK (dictOf ((rowsK rs).take i))), ⟨_, rfl, Nat.zero_le _, ⟨none, none, rfl⟩, rfl⟩, ?_⟩
    rintro i m τ H' ⟨rfl, hi, ⟨v1, v2, rfl⟩, rfl⟩
    obtain ⟨k1, k2⟩ := J _ (show SqT K (upd H D _) a xs from SqT.of (sD _ _ _ hx))
    by_cases hlt : i < xs.length
    · have hir : i < rs.length := by omega
      have hik : i < (rowsK rs).length := by simpa using hir
      refine .inr ⟨(k1 i hlt).1, fun τ' H' => (∃ v1 v2, τ' = [v1, v2]) ∧ H' = upd H D (.dK (dictOf ((rowsK rs).take (i + 1)))), fun τ' H' ⟨h1, h2⟩ => ⟨xs.length - (i + 1), by omega, rfl, hlt, h1, h2⟩, fun x H' y => ?_⟩
      obtain ⟨e, e2⟩ := (k1 i hlt).2 x H' y
      subst e e2
      obtain ⟨b, hb1, hb2⟩ := hp.2 i hik
      rw [rowEq i hik hir] at hb2
      have eb : xs.getD i .non = .ref b := by rw [List.getD_eq_getElem?_getD, hb1]; rfl
      show gTup K 2 _ (xs.getD i .non) _ _ _
      rw [eb]
      refine ⟨b, _, rfl, SqT.of (sD _ _ _ hb2), rfl, _, _, rfl, _, _, rfl, rfl, ?_⟩
      refine ⟨dictOf ((rowsK rs).take i), .inr rs[i].1, rfl, upd_same, ?_, ⟨_, _, rfl⟩, ?_⟩
      · have := dictOf_len ((rowsK rs).take i)
        rw [List.length_take] at this
        omega
      · rw [upd_upd, dictOf_take (rowsK rs) i hik, rowEq i hik hir]
    · have e : i = xs.length := by omega
      subst e
      refine .inl ⟨k2, ?_⟩
      rw [List.take_of_length_le (by simp; omega)]
      exact k D hD
theorem telOf {H : Hp} {a : Addr} {xs : List V} {rs : List (Str × V)} {nx : Str → Option Str} {ρ : Str → Nat} (g : GoodT H a xs rs nx ρ) : TelAt H a xs rs := ⟨g.at_, g.ps, by have := g.len; omega⟩
def spRowOf : Sp := fun vs H Q _ => ∃ (a : Addr) (xs : List V) (rs : List (Str × V)) (nx : Str → Option Str) (ρ : Str → Nat) (x : Str), vs = [.ref a, .str x] ∧ GoodT H a xs rs nx ρ ∧ x ∈ rs.map (·.1) ∧ ∀ H', Same H H' → Q (.str (rowEnd nx rs.length x)) H'
def spHeadOf : Sp := fun vs H Q _ => ∃ (a : Addr) (xs : List V) (rs : List (Str × V)) (nx : Str → Option Str) (ρ : Str → Nat) (x : Str), vs = [.ref a, .str x] ∧ GoodT H a xs rs nx ρ ∧ x ∈ rs.map (·.1) ∧
  ∀ v H', Same H H' → valV (dictOf (rowsK rs)) (.inr (rowEnd nx rs.length x)) = some v → Q v H'
def spAny (K : PySem.W.Frag) : Sp := fun vs H Q _ => ∃ (H0 : Hp) (p a : Addr) (t : Nat) (xs : List V) (rows : List Rw2) (ns ws : List Str), vs = [.ref p, .ref a] ∧ NxAt K H0 H p t ∧ t < 900000 ∧ RT H a xs rows ns ws ∧
  ∀ (n : Str) (H' : Hp), n ∈ ns → NxAt K H0 H' p (t + 1) → Sm p p H H' → Q (.str n) H'
theorem ok_law_any (T : Txt K mg w) : FnK P w K mg base 3 "_law_any" ["_law_pen", "_law_told"] (spAny K) := by
  have F_law_next : FnK P w K mg base 2 "_law_next" ["_law_pen", "_law_many"] (spNx K) := ok_law_nextS T
  refine T.t_law_any.okS sc_law_any (fun vs H Q E h => ?_) (fun f cdv A outer s H vs Q E hr h => ?_)
  · obtain ⟨H0, p, a, t, xs, rows, ns, ws, rfl, _⟩ := h
    rfl
  · obtain ⟨H0, p, a, t, xs, rows, ns, ws, rfl, hn, ht, rt, k⟩ := h
    have hu := hu_of hr
    have hu0 := Nat.lt_of_succ_lt (hu_of hr)
    have hsz : sizeLine = 16777216 := sizeLine_eq
    have hrl := rt.rl
    have hxl := rt.rv.len
    have pos := rt.pos
    have few := rt.few
    refine ⟨_, (sb_one (s_ret (z_ix (ix_K K) (z_ix (ix_K K) (zv 1) (z_fn F_law_next (hr.mono (by decide)) (sa_Name (zv 0) (sa_Call (z_callB (call_lenK K) (by rfl) T.n_len PySem.boot_len (sa_Name (zv 1) sa_nil)) sa_nil))) (fun _ _ => rfl)) z_int (fun _ _ => rfl)))), ?_⟩
    refine .inl ⟨_, .inr (SqT.of rt.at_), H0, p, _, t, rfl, hn, ⟨by omega, by omega⟩, by omega, fun r H1 r0 r1 hn1 sm1 => ?_⟩
    obtain ⟨i, rfl⟩ : ∃ i : Nat, r = (i : Int) := ⟨r.toNat, by omega⟩
    have rt1 := rt.tk (hn.ts sm1)
    obtain ⟨b, v, q1, q2, q3⟩ := rt1.rv.at_ i (by omega) (by omega)
    refine ⟨xs, .ref b, .inr (SqT.of rt1.at_), atI_nat (by rw [List.getElem?_eq_getElem (by omega), q1]), _, _, .inr (SqT.of q2), atI_zero _ _, k _ H1 (rt1.nm.mem_iff.mp (List.mem_map.mpr ⟨_, List.getElem_mem (by omega), rfl⟩)) hn1 sm1⟩
theorem ok_law_row_here (T : Txt K mg w) : FnK P w K mg base 1 "_law_row_here" ["_law_told", "_law_name"] spRowOf := by
  refine T.t_law_row_here.okS sc_law_row_here (fun vs H Q E h => ?_) (fun f cdv A outer s H vs Q E hr h => ?_)
  · obtain ⟨a, xs, rs, nx, ρ, x, rfl, _⟩ := h
    rfl
  · obtain ⟨a, xs, rs, nx, ρ, x, rfl, g, hx, k⟩ := h
    have hu := hu_of hr
    have hu0 := Nat.lt_of_succ_lt hu
    refine ⟨_, (sb_cons (s_set (i := 2) sc_law_row_here.nd rfl (Or.inl rfl) (z_callTy (call_dict_of rfl) (by rfl) T.n_dict PyProof.Rows.boot_dict (sa_Name (zv 0) sa_nil)))
      (sb_cons (s_while PassesOwn.never (y_cmpR (op_eqD hu0) (z_ix (ix_K K) (z_dget hu (zv 2) (zv 1) (fun _ _ => rfl)) z_int (fun _ _ => rfl)) z_str (nomark _)) (sb_one (s_set (i := 1) sc_law_row_here.nd rfl (Or.inl rfl) (z_ix (ix_K K) (z_dget hu (zv 2) (zv 1) (fun _ _ => rfl)) z_int (fun _ _ => rfl)))))
      (sb_one (s_ret (zv 1))))), ?_⟩
    have hsz : sizeLine = 16777216 := sizeLine_eq
    have hgl := g.len
    refine tSeq_set ⟨a, xs, rowsK rs, rfl, g.at_, g.ps, (by simp; omega), fun d hd => ?_⟩
    have s1 : Same H (upd H d (.dK (dictOf (rowsK rs)))) := Same.upd hd _
    have g1 := g.ts s1.ts
    refine ⟨fun m σ H' => H' = upd H d (.dK (dictOf (rowsK rs))) ∧ ∃ y, σ = [some (.ref a), some (.str y), some (.ref d)] ∧ y ∈ rs.map (·.1) ∧ rowEnd nx rs.length y = rowEnd nx rs.length x ∧ m = ρ y, ⟨_, rfl, x, rfl, hx, rfl, rfl⟩, ?_⟩
    rintro m σ H' ⟨rfl, y, rfl, hy, he, rfl⟩
    obtain ⟨v, hv, hval⟩ := g1.get hy
    have hdg : DGet (upd H d (.dK (dictOf (rowsK rs)))) d (.str y) (some v) := by
      rw [← hval]; exact DGet.k (k := Sum.inr y) upd_same
    obtain ⟨b, rfl, hb⟩ := g1.as _ hv
    rcases hb with ⟨z, ys, h1, h2, h3⟩ | ⟨z, h1, h3⟩
    · refine ⟨d, _, rfl, hdg, _, .str z, .inr (SqT.of h1), atI_zero _ _, rfl, _, rfl, ?_⟩
      rw [Bool.false_xor, decide_eq_false (fun e => h2 (V.str.inj e))]
      refine iteF ?_
      have e2 : rowEnd nx rs.length y = y := stps_stay _ h3
      have := k _ s1
      rw [← he, e2] at this
      exact this
    · refine ⟨d, _, rfl, hdg, _, .str "as", .inr (SqT.of h1), atI_zero _ _, rfl, _, rfl, ?_⟩
      refine iteT ?_
      obtain ⟨i1, i2⟩ := g1.inn _ hv z h3
      refine ⟨fun σ' H'' => ∃ m', m' < ρ y ∧ H'' = upd H d (.dK (dictOf (rowsK rs))) ∧ ∃ y, σ' = [some (.ref a), some (.str y), some (.ref d)] ∧ y ∈ rs.map (·.1) ∧ rowEnd nx rs.length y = rowEnd nx rs.length x ∧ m' = ρ y, fun _ _ h => h, ?_⟩
      refine ⟨d, _, rfl, hdg, _, .str z, .inr (SqT.of h1), rfl, _, i2, rfl, z, rfl, i1, ?_, rfl⟩
      rw [← he]
      exact g1.endStep hy h3
theorem ok_law_head_here (T : Txt K mg w) : FnK P w K mg base 2 "_law_head_here" ["_law_told", "_law_name"] spHeadOf := by
  have F_law_row_here : FnK P w K mg base 1 "_law_row_here" ["_law_told", "_law_name"] spRowOf := ok_law_row_here T
  refine T.t_law_head_here.okS sc_law_head_here (fun vs H Q E h => ?_) (fun f cdv A outer s H vs Q E hr h => ?_)
  · obtain ⟨a, xs, rs, nx, ρ, x, rfl, _⟩ := h
    rfl
  · obtain ⟨a, xs, rs, nx, ρ, x, rfl, g, hx, k⟩ := h
    have hu := hu_of hr
    have hsz : sizeLine = 16777216 := sizeLine_eq
    have hgl := g.len
    refine ⟨_, (sb_one (s_ret (z_dget hu (z_callTy (call_dict_of rfl) (by rfl) T.n_dict PyProof.Rows.boot_dict (sa_Name (zv 0) sa_nil)) (z_fn F_law_row_here (hr.mono (by decide)) (sa_Name (zv 0) (sa_Name (zv 1) sa_nil))) (fun _ _ => rfl)))), ?_⟩
    refine ⟨a, xs, rowsK rs, rfl, g.at_, g.ps, (by simp; omega), fun d hd => ?_⟩
    have s1 : Same H (upd H d (.dK (dictOf (rowsK rs)))) := Same.upd hd _
    refine ⟨a, xs, rs, nx, ρ, x, rfl, g.ts s1.ts, hx, fun H' s2 => ?_⟩
    obtain ⟨v, hv, hval⟩ := g.get (g.endIn hx).1
    refine ⟨d, v, rfl, ?_, k v _ (s1.trans s2) hval⟩
    rw [← hval]; exact DGet.k (k := Sum.inr (rowEnd nx rs.length x)) (s2 _ _ upd_same)
def spOn : Sp := fun vs H Q _ => ∃ (a : Addr) (xs : List V) (rows : List Rw2) (ns ws : List Str) (x : Str), vs = [.ref a, .str x] ∧ RT H a xs rows ns ws ∧ (∀ z ∈ ws, Wd z) ∧ x ∈ ns ∧
  ∀ (L : Addr) (us : List V) (H' : Hp), H L = none → Same H H' → H' L = some (.lst us) → MV H' us (onOf rows x) → Q (.ref L) H'
theorem ok_law_on (T : Txt K mg w) : FnK P w K mg base 3 "_law_on" ["_law_told", "_law_name"] spOn := by
  have F_law_row_here : FnK P w K mg base 1 "_law_row_here" ["_law_told", "_law_name"] spRowOf := ok_law_row_here T
  have F_law_head_here : FnK P w K mg base 2 "_law_head_here" ["_law_told", "_law_name"] spHeadOf := ok_law_head_here T
  refine T.t_law_on.okS sc_law_on (fun vs H Q E h => ?_) (fun f cdv A outer s H vs Q E hr h => ?_)
  · obtain ⟨a, xs, rows, ns, ws, x, rfl, _⟩ := h
    rfl
  · obtain ⟨a, xs, rows, ns, ws, x, rfl, rt, hw, hx, k⟩ := h
    have hu := hu_of hr
    have hu0 := Nat.lt_of_succ_lt (hu_of hr)
    have hsz : sizeLine = 16777216 := sizeLine_eq
    obtain ⟨rs, g, nm, rl, hval⟩ := rt.good hw
    have hm : ∀ z, z ∈ ns ↔ z ∈ rs.map (·.1) := fun z => by rw [nm]; exact rt.nm.mem_iff.symm
    obtain ⟨e1, e2, e3⟩ := rt.endIn hw hx
    have few := rt.few
    refine ⟨_, (sb_cons (s_set (i := 2) sc_law_on.nd rfl (Or.inl rfl) (z_fn F_law_head_here (hr.mono (by decide)) (sa_Name (zv 0) (sa_Name (zv 1) sa_nil))))
      (sb_cons (s_if (y_cmpR (op_eqD hu0) (z_ix (ix_K K) (zv 2) z_int (fun _ _ => rfl)) z_str (nomark _)) (sb_one (s_set (i := 3) sc_law_on.nd rfl (Or.inl rfl) (z_lst (sa_Tuple (z_tup (sa_Tuple (z_tup (sa_Constant z_str sa_nil)) (sa_Subscript (z_ix (ix_K K) (zv 2) z_int (fun _ _ => rfl)) sa_nil))) (sa_Tuple (z_tup (sa_Tuple (z_tup (sa_Constant z_str sa_nil)) (sa_Subscript (z_ix (ix_K K) (zv 2) z_int (fun _ _ => rfl)) sa_nil))) sa_nil))))) (sb_one (s_if (y_cmpR (op_eqD hu0) (z_ix (ix_K K) (zv 2) z_int (fun _ _ => rfl)) z_str (nomark _)) (sb_one (s_lc (i := 3) (own := ["_law_word", "_law_other"]) (idx := []) (N' := ["_law_word", "_law_other"]) (⟨rfl, by decide +kernel, by decide +kernel, (show ∀ y ∈ Scope.names _, y.2 = NameKind.free → ((defScope s_law_on).names.lookup y.1 = some NameKind.cell ∨ (defScope s_law_on).names.lookup y.1 = some NameKind.free) by decide +kernel), (show ∀ j ∈ ([] : List Nat), (Scope.names _).lookup ((["_law_told", "_law_name", "_law_here", "_law_found"] : List Str).getD j "") = some NameKind.free ∧ j < (["_law_told", "_law_name", "_law_here", "_law_found"] : List Str).length by decide +kernel), rfl⟩) rfl (i_K K (z_ix (ix_K K) (zv 2) z_int (fun _ _ => rfl))) (fun _ _ _ _ _ _ => (g_tup K (n := 2) rfl (gs_cons (g_name (i := 0) (show List.Nodup (["_law_word", "_law_other"] : List Str) by decide +kernel) rfl (Or.inl rfl)) (gs_cons (g_name (i := 1) (show List.Nodup (["_law_word", "_law_other"] : List Str) by decide +kernel) rfl (Or.inl rfl)) gs_nil)))) (fun _ _ _ _ _ _ => c_nil) (fun _ _ _ _ _ _ => (z_tup (sa_Tuple (z_tup (sa_Constant z_str (sa_Name (zv 0) sa_nil))) (sa_Name (zv 1) sa_nil)))) sc_law_on.nd rfl rfl)) (sb_one (s_if (y_cmpR (op_eqD hu0) (z_ix (ix_K K) (zv 2) z_int (fun _ _ => rfl)) z_str (nomark _)) (sb_one (s_lc (i := 3) (own := ["_law_word", "_law_other"]) (idx := []) (N' := ["_law_word", "_law_other"]) (⟨rfl, by decide +kernel, by decide +kernel, (show ∀ y ∈ Scope.names _, y.2 = NameKind.free → ((defScope s_law_on).names.lookup y.1 = some NameKind.cell ∨ (defScope s_law_on).names.lookup y.1 = some NameKind.free) by decide +kernel), (show ∀ j ∈ ([] : List Nat), (Scope.names _).lookup ((["_law_told", "_law_name", "_law_here", "_law_found"] : List Str).getD j "") = some NameKind.free ∧ j < (["_law_told", "_law_name", "_law_here", "_law_found"] : List Str).length by decide +kernel), rfl⟩) rfl (i_K K (z_ix (ix_K K) (zv 2) z_int (fun _ _ => rfl))) (fun _ _ _ _ _ _ => (g_tup K (n := 2) rfl (gs_cons (g_name (i := 0) (show List.Nodup (["_law_word", "_law_other"] : List Str) by decide +kernel) rfl (Or.inl rfl)) (gs_cons (g_name (i := 1) (show List.Nodup (["_law_word", "_law_other"] : List Str) by decide +kernel) rfl (Or.inl rfl)) gs_nil)))) (fun _ _ _ _ _ _ => c_nil) (fun _ _ _ _ _ _ => (z_tup (sa_Tuple (z_tup (sa_Constant z_str (sa_Name (zv 0) sa_nil))) (sa_Name (zv 1) sa_nil)))) sc_law_on.nd rfl rfl)) (sb_one (s_set (i := 3) sc_law_on.nd rfl (Or.inl rfl) (z_lst sa_nil))))))))
      (sb_one (s_ret (z_lc (own := ["_law_step", "_law_other"]) (idx := [0]) (N' := ["_law_step", "_law_other", "_law_told"]) (⟨rfl, by decide +kernel, by decide +kernel, (show ∀ y ∈ Scope.names _, y.2 = NameKind.free → ((defScope s_law_on).names.lookup y.1 = some NameKind.cell ∨ (defScope s_law_on).names.lookup y.1 = some NameKind.free) by decide +kernel), (show ∀ j ∈ ([0] : List Nat), (Scope.names _).lookup ((["_law_told", "_law_name", "_law_here", "_law_found"] : List Str).getD j "") = some NameKind.free ∧ j < (["_law_told", "_law_name", "_law_here", "_law_found"] : List Str).length by decide +kernel), rfl⟩) rfl (i_K K (zv 3)) (fun _ _ _ _ _ _ => (g_tup K (n := 2) rfl (gs_cons (g_name (i := 0) (show List.Nodup (["_law_step", "_law_other", "_law_told"] : List Str) by decide +kernel) rfl (Or.inl rfl)) (gs_cons (g_name (i := 1) (show List.Nodup (["_law_step", "_law_other", "_law_told"] : List Str) by decide +kernel) rfl (Or.inl rfl)) gs_nil)))) (fun _ _ _ _ _ _ => c_nil) (fun _ _ _ _ _ _ => (z_tup (sa_Name (zv 0) (sa_Call (z_fn F_law_row_here (hr.mono (by decide)) (sa_Name (zv 2) (sa_Name (zv 1) sa_nil))) sa_nil))))))))), ?_⟩
    refine tSeq_set ⟨a, xs, rs, _, _, x, rfl, g, (hm x).mp hx, fun v H1 s1 hv => ?_⟩
    have hq0 : HV H v (hdOf rows (endOf rows x)) := hval _ v e1 (by rw [rl] at hv; exact hv)
    have hq := hq0.tk s1.ts
    have eo : onOf rows x = (hdOf rows (endOf rows x)).mvs.map fun m => (m.1, endOf rows m.2) := rfl
    generalize hdOf rows (endOf rows x) = h at e2 e3 hq eo
    clear hq0 hval hv
    have inn := mvs_in e3
    refine tSeq_by (fun σ' H' => ∃ (F : Addr) (us : List V), σ' = [some (.ref a), some (.str x), some v, some (.ref F)] ∧ H' F = some (.lst us) ∧ MV H' us h.mvs ∧ Same H H' ∧ h.mvs.length ≤ 10) ?_ ?_
    · intro nx hnx
      cases hq with
      | @one b s e =>
        have nd : ∀ z : Str, z ∈ (["way", "box", "pick"] : List Str) → (s == z) = false := fun z hz => by
          simp only [List.mem_cons, List.mem_nil_iff, or_false] at hz
          rcases e3 with rfl | rfl <;> rcases hz with rfl | rfl | rfl <;> decide +kernel
        refine ⟨_, .str s, .inr (SqT.of e), atI_zero _ _, rfl, _, rfl, iteB (fun c => ?_) (fun _ => ⟨_, .str s, .inr (SqT.of e), atI_zero _ _, rfl, _, rfl, iteB (fun c => ?_) (fun _ => ⟨_, .str s, .inr (SqT.of e), atI_zero _ _, rfl, _, rfl, iteB (fun c => ?_) (fun _ => ⟨(show 0 ≤ sizeLine by decide), fun F hF => hnx _ _ ⟨F, [], rfl, upd_same, MV.nil, s1.trans (Same.upd hF _), by show 0 ≤ 10; decide⟩⟩)⟩)⟩)⟩
        · rw [Bool.false_xor, decV_str, nd "way" (by simp)] at c; cases c
        · rw [Bool.false_xor, decV_str, nd "box" (by simp)] at c; cases c
        · rw [Bool.false_xor, decV_str, nd "pick" (by simp)] at c; cases c
      | @as b y e => cases e2
      | @way b y z e =>
        refine ⟨_, .str "way", .inr (SqT.of e), atI_zero _ _, rfl, _, rfl, iteB (fun _ => ?_) (fun c => absurd c (by simp))⟩
        refine ⟨(show 1 ≤ sizeLine by decide), fun c1 h1 => ?_⟩
        have t1 := Same.upd h1 (.tup [.str "from"])
        refine ⟨_, .str y, .inr (SqT.of (t1 _ _ e)), rfl, (show 2 ≤ sizeLine by decide), fun c2 h2 => ?_⟩
        have t2 := Same.upd h2 (.tup [.ref c1, .str y])
        refine ⟨(show 1 ≤ sizeLine by decide), fun c3 h3 => ?_⟩
        have t3 := Same.upd h3 (.tup [.str "to"])
        refine ⟨_, .str z, .inr (SqT.of (t3 _ _ (t2 _ _ (t1 _ _ e)))), rfl, (show 2 ≤ sizeLine by decide), fun c4 h4 => ?_⟩
        have t4 := Same.upd h4 (.tup [.ref c3, .str z])
        refine ⟨(show 2 ≤ sizeLine by decide), fun F hF => ?_⟩
        have t5 := Same.upd hF (.lst [.ref c2, .ref c4])
        have g1 := t5 _ _ (t4 _ _ (t3 _ _ (t2 _ _ (upd_same : upd H1 c1 (.tup [.str "from"]) c1 = some (.tup [.str "from"])))))
        have g2 := t5 _ _ (t4 _ _ (t3 _ _ (upd_same : upd (upd H1 c1 (.tup [.str "from"])) c2 (.tup [.ref c1, .str y]) c2 = _)))
        have g3 := t5 _ _ (t4 _ _ (upd_same : upd (upd (upd H1 c1 (.tup [.str "from"])) c2 (.tup [.ref c1, .str y])) c3 (.tup [.str "to"]) c3 = _))
        have g4 := t5 _ _ (upd_same : upd (upd (upd (upd H1 c1 (.tup [.str "from"])) c2 (.tup [.ref c1, .str y])) c3 (.tup [.str "to"])) c4 (.tup [.ref c3, .str z]) c4 = _)
        exact hnx _ _ ⟨F, [.ref c2, .ref c4], rfl, upd_same, (MV.nil.snoc (m := (["from"], y)) g2 g1).snoc (m := (["to"], z)) g4 g3, s1.trans (t1.trans (t2.trans (t3.trans (t4.trans t5)))), by show 2 ≤ 10; decide⟩
      | @prs b c s ys ps e ec hp =>
        have hpl := hp.len
        have loop : ∀ (wd : Str) (D : Ends), D.nx = nx → (wd = if s = "box" then ("part" : Str) else ("case" : Str)) → tAsg (tLC ["_law_word", "_law_other"] [] (iD K (tOp (rIxD K) (tV 2) (tC (V.int 1)))) (gTup K 2 (gCons (gName 0) (gCons (gName 1) gNil))) tcNil (tTup (tCons (tTup (tCons (tC (V.str wd)) (tCons (tV 0) tNil))) (tCons (tV 1) tNil)))) (gName 3) D [some (.ref a), some (.str x), some (.ref b), none] H1 := by
          intro wd D hDn hwd
          refine ⟨_, .ref c, .inr (SqT.of e), rfl, Or.inr ⟨⟨ys, SqT.of ec⟩, fun L hL => ?_⟩⟩
          refine lc_by (itn_tup ys) (fun i τ H' => ∃ (v0 v1 : Option V) (zs : List V), τ = [v0, v1] ∧ H' L = some (.lst zs) ∧ MV H' zs ((ps.take i).map fun p => ([wd, p.1], p.2)) ∧ Same H1 H') ⟨none, none, [], rfl, upd_same, MV.nil, Same.upd hL _⟩ (by rintro i τ H' _ ⟨_, _, _, _, _, _, s⟩; exact SqT.of (s _ _ ec)) ?_ ?_
          · rintro i τ H3 hi ⟨v0, v1, zs, rfl, q1, q2, q3⟩
            have hip : i < ps.length := by omega
            have ok10 := e3.2.2.2
            obtain ⟨d, r1, r2⟩ := hp.at_ i hi hip
            have eg : ys.getD i .non = .ref d := by rw [List.getD_eq_getElem?_getD, List.getElem?_eq_getElem hi, r1]; rfl
            rw [eg]
            refine g2_at (q3 _ _ r2) ?_
            have hzl : zs.length = i := by have := q2.len; simp at this; omega
            refine ⟨(show 2 ≤ sizeLine by decide), fun c1 h1 => ⟨(show 2 ≤ sizeLine by decide), fun c2 h2 => ?_⟩⟩
            have t1 := Same.upd h1 (.tup [.str wd, .str ps[i].1])
            have t2 := Same.upd h2 (.tup [.ref c1, .str ps[i].2])
            have g1 := t2 _ _ (upd_same : upd H3 c1 (.tup [.str wd, .str ps[i].1]) c1 = some (.tup [.str wd, .str ps[i].1]))
            have g2 : upd (upd H3 c1 (.tup [.str wd, .str ps[i].1])) c2 (.tup [.ref c1, .str ps[i].2]) c2 = some (.tup [.ref c1, .str ps[i].2]) := upd_same
            dsimp only
            have sA := t1.trans t2
            generalize upd (upd H3 c1 (.tup [.str wd, .str ps[i].1])) c2 (.tup [.ref c1, .str ps[i].2]) = H5 at sA g1 g2
            have gD := sA _ _ q1
            have tk : Tk H5 (upd H5 L (.lst (zs ++ [.ref c2]))) := (Tk.refl).set gD (by intro _ z; cases z)
            refine ⟨zs, gD, by omega, _, _, zs ++ [.ref c2], rfl, upd_same, ?_, (q3.trans sA).put hL⟩
            have et : (ps.take (i + 1)).map (fun p => (([wd, p.1], p.2) : List Str × Str)) = (ps.take i).map (fun p => (([wd, p.1], p.2) : List Str × Str)) ++ [([wd, ps[i].1], ps[i].2)] := by
              rw [List.take_add_one, List.getElem?_eq_getElem hip, List.map_append]; rfl
            rw [et]
            exact (q2.tk (sA.ts.trans tk)).snoc (m := ([wd, ps[i].1], ps[i].2)) (tk _ _ g2) (tk _ _ g1)
          · rintro τ H3 ⟨v0, v1, zs, rfl, q1, q2, q3⟩
            rw [hpl, List.take_length] at q2
            show D.nx _ H3
            rw [hDn]
            refine hnx _ _ ⟨L, zs, rfl, q1, ?_, s1.trans q3, by show (ps.map _).length ≤ 10; rw [List.length_map]; exact e3.2.2.2⟩
            rw [hwd] at q2
            exact q2
        rcases e3.1 with rfl | rfl
        · refine ⟨_, .str "box", .inr (SqT.of e), atI_zero _ _, rfl, _, rfl, iteB (fun c => ?_) (fun _ => ⟨_, .str "box", .inr (SqT.of e), atI_zero _ _, rfl, _, rfl, iteB (fun _ => loop "part" _ rfl rfl) (fun c => absurd c (by simp))⟩)⟩
          rw [Bool.false_xor, decV_str] at c; exact absurd c (by decide +kernel)
        · refine ⟨_, .str "pick", .inr (SqT.of e), atI_zero _ _, rfl, _, rfl, iteB (fun c => ?_) (fun _ => ⟨_, .str "pick", .inr (SqT.of e), atI_zero _ _, rfl, _, rfl, iteB (fun c => ?_) (fun _ => ⟨_, .str "pick", .inr (SqT.of e), atI_zero _ _, rfl, _, rfl, iteB (fun _ => loop "case" _ rfl (by decide +kernel)) (fun c => absurd c (by simp))⟩)⟩)⟩
          · rw [Bool.false_xor, decV_str] at c; exact absurd c (by decide +kernel)
          · rw [Bool.false_xor, decV_str] at c; exact absurd c (by decide +kernel)
    rintro σ' H2 ⟨F, us, rfl, gF, mv, s2, ml⟩
    have rt2 := rt.tk s2.ts
    have g2 := g.ts s2.ts
    have ul := mv.len
    refine Or.inl ⟨⟨us, SqL.of gF⟩, fun D hD => ?_⟩
    refine lc_by (itn_list us) (fun i τ H' => ∃ (v0 v1 : Option V) (zs : List V), τ = [v0, v1, some (.ref a)] ∧ H' D = some (.lst zs) ∧ MV H' zs ((h.mvs.take i).map fun m => (m.1, endOf rows m.2)) ∧ Same H2 H') ⟨none, none, [], rfl, upd_same, MV.nil, Same.upd hD _⟩ (by rintro i τ H' _ ⟨_, _, _, _, _, _, s⟩; exact SqL.of (s _ _ gF)) ?_ ?_
    · rintro i τ H3 hi ⟨v0, v1, zs, rfl, q1, q2, q3⟩
      have him : i < h.mvs.length := by omega
      obtain ⟨c, b, r1, r2, r3⟩ := mv.at_ i hi him
      have eg : us.getD i .non = .ref c := by rw [List.getD_eq_getElem?_getD, List.getElem?_eq_getElem hi, r1]; rfl
      rw [eg]
      have hmm : h.mvs[i] ∈ h.mvs := List.getElem_mem him
      refine g2_at (q3 _ _ r2) ?_
      have hzl : zs.length = i := by have := q2.len; simp at this; omega
      refine ⟨a, xs, rs, _, _, h.mvs[i].2, rfl, g2.ts q3.ts, (hm _).mp (inn _ hmm), fun H4 s4 => ⟨(show 2 ≤ sizeLine by decide), fun d hd => ?_⟩⟩
      have s5 := Same.upd hd (.tup [.ref b, .str (rowEnd (nxOf rows) rs.length h.mvs[i].2)])
      have gd : upd H4 d (.tup [.ref b, .str (rowEnd (nxOf rows) rs.length h.mvs[i].2)]) d = some (.tup [.ref b, .str (rowEnd (nxOf rows) rs.length h.mvs[i].2)]) := upd_same
      dsimp only
      generalize upd H4 d (.tup [.ref b, .str (rowEnd (nxOf rows) rs.length h.mvs[i].2)]) = H5 at s5 gd
      rw [rl] at gd
      have sA := s4.trans s5
      have gD := sA _ _ q1
      have tk : Tk H5 (upd H5 D (.lst (zs ++ [.ref d]))) := (Tk.refl).set gD (by intro _ z; cases z)
      refine ⟨zs, gD, by omega, _, _, zs ++ [.ref d], rfl, upd_same, ?_, (q3.trans sA).put hD⟩
      have et : (h.mvs.take (i + 1)).map (fun m => (m.1, endOf rows m.2)) = (h.mvs.take i).map (fun m => (m.1, endOf rows m.2)) ++ [(h.mvs[i].1, endOf rows h.mvs[i].2)] := by
        rw [List.take_add_one, List.getElem?_eq_getElem him, List.map_append]; rfl
      rw [et]
      exact (q2.tk (sA.ts.trans tk)).snoc (tk _ _ gd) (tk _ _ (sA _ _ (q3 _ _ r3)))
    · rintro τ H3 ⟨v0, v1, zs, rfl, q1, q2, q3⟩
      rw [ul, List.take_length, ← eo] at q2
      exact k D zs H3 (s2.free hD) (s2.trans q3) q1 q2
theorem tV_at {i : Nat} {σ : St} {H : Hp} {Q : VK} {v : V} (e : σ[i]? = some (some v)) (h : Q v H) : tV i σ H Q := by
  unfold tV
  rw [e]
  exact h
theorem putK_new {kvs : List (Key × V)} {k : Key} {v : V} (h : ∀ kv ∈ kvs, kv.1 ≠ k) : putK kvs k v = kvs ++ [(k, v)] := by
  unfold putK
  rw [if_neg]
  intro e
  rw [List.any_eq_true] at e
  obtain ⟨kv, hk, e⟩ := e
  exact h kv hk (of_decide_eq_true e)
def spRowsOf : Sp := fun vs H Q _ => ∃ (a : Addr) (xs : List V) (rows : List Rw2) (ns ws : List Str), vs = [.ref a] ∧ RT H a xs rows ns ws ∧ (∀ z ∈ ws, Wd z) ∧
  ∀ (d : Addr) (H' : Hp), H d = none → Same H H' → H' d = some (.dK (rowsE rows)) → Q (.ref d) H'
theorem ok_rows_of (T : Txt K mg w) : FnK P w K mg base 2 "rows_of" ["T"] spRowsOf := by
  have F_heads_of : FnK P w K mg base 1 "heads_of" ["T"] spHeads := ok_heads_of T
  refine T.t_rows_of.okS sc_rows_of (fun vs H Q E h => ?_) (fun f cdv A outer s H vs Q E hr h => ?_)
  · obtain ⟨a, xs, rows, ns, ws, rfl, _⟩ := h
    rfl
  · obtain ⟨a, xs, rows, ns, ws, rfl, rt, hw, k⟩ := h
    have hu := hu_of hr
    have hu0 := Nat.lt_of_succ_lt (hu_of hr)
    have hsz : sizeLine = 16777216 := sizeLine_eq
    obtain ⟨rs, g, nm, rl, hval⟩ := rt.good hw
    refine ⟨_, (sb_cons (s_set (i := 1) sc_rows_of.nd rfl (Or.inl rfl) (z_fn F_heads_of (hr.mono (by decide)) (sa_Name (zv 0) sa_nil)))
      (sb_cons (s_set (i := 2) sc_rows_of.nd rfl (Or.inl rfl) z_dnew)
      (sb_cons (s_for PassesOwn.never rfl (pi_keys (zv 1)) (g_name (i := 3) sc_rows_of.nd rfl (Or.inl rfl)) (sb_cons (s_set (i := 4) sc_rows_of.nd rfl (Or.inl rfl) (zv 3))
      (sb_cons (s_while PassesOwn.never (y_cmpR (op_eqD hu0) (z_ix (ix_K K) (z_dget hu (zv 1) (zv 4) (fun _ _ => rfl)) z_int (fun _ _ => rfl)) z_str (nomark _)) (sb_one (s_set (i := 4) sc_rows_of.nd rfl (Or.inl rfl) (z_ix (ix_K K) (z_dget hu (zv 1) (zv 4) (fun _ _ => rfl)) z_int (fun _ _ => rfl)))))
      (sb_one (s_dput hu (zv 2) (zv 3) (zv 4) rfl)))))
      (sb_one (s_ret (zv 2)))))), ?_⟩
    refine tSeq_set ⟨a, xs, rs, rfl, telOf g, fun d hd => ?_⟩
    have knd : ((rowsK rs).map (·.1)).Nodup := by
      have e : (rowsK rs).map (·.1) = (rs.map (·.1)).map (Sum.inr : Str → Key) := by simp [rowsK, List.map_map, Function.comp_def]
      rw [e]
      exact List.pairwise_map.mpr (g.nd.imp fun h e => h (Sum.inr.inj e))
    have hgl := g.len
    have ed := dictOf_nodup _ knd
    dsimp only
    have s1 : Same H (upd H d (.dK (dictOf (rowsK rs)))) := Same.upd hd _
    refine tSeq_set fun R hR => ?_
    have nRd : R ≠ d := fun e => by rw [e, upd_same] at hR; cases hR
    have hR0 : H R = none := s1.free hR
    refine tSeq_by (fun σ' H' => ∃ v3 v4 : Option V, σ' = [some (.ref a), some (.ref d), some (.ref R), v3, v4] ∧ H' R = some (.dK (rowsE rows)) ∧ Same H H') ?_ ?_
    · intro nx hnx
      refine ⟨d, dictOf (rowsK rs), rfl, .inl (by rw [upd_ne nRd.symm]; exact upd_same), fun o => ?_⟩
      refine for_by (itn_keys (dictOf (rowsK rs))) (fun i σ' H' => ∃ v3 v4 : Option V, σ' = [some (.ref a), some (.ref d), some (.ref R), v3, v4] ∧ H' d = some (.frz o (.dK (dictOf (rowsK rs)))) ∧ H' R = some (.dK ((rowsE rows).take i)) ∧ Same H H')
        ⟨none, none, rfl, upd_same, by rw [upd_ne nRd, upd_same]; rfl, (((s1.put hR0)).put hd)⟩ (by rintro i σ' H' _ ⟨_, _, _, h, _⟩; exact h) ?_ ?_
      · rintro i σ' H3 hi ⟨v3, v4, rfl, q1, q2, q3⟩
        have hir : i < rs.length := by have := dictOf_len (rowsK rs); simp at this; omega
        have hirw : i < rows.length := by omega
        have ek : keyAt (dictOf (rowsK rs)) i = .str rs[i].1 := by
          unfold keyAt
          rw [ed, List.getElem?_eq_getElem (by simpa using hir), rowEq i (by simpa using hir) hir]; rfl
        have en : rs[i].1 = rows[i].1 := by
          have : (rs.map (·.1))[i]'(by simpa using hir) = (rows.map (·.1))[i]'(by simpa using hirw) := by simp only [nm]
          simpa using this
        rw [ek]
        have hx : rs[i].1 ∈ rs.map (·.1) := List.mem_map.mpr ⟨_, List.getElem_mem hir, rfl⟩
        generalize rs[i].1 = x at en hx
        have g3 := g.ts q3.ts
        refine tSeq_set (tV_at (v := .str x) rfl ?_)
        refine tSeq_by (fun σ' H' => H' = H3 ∧ σ' = [some (.ref a), some (.ref d), some (.ref R), some (.str x), some (.str (rowEnd (nxOf rows) rs.length x))]) ?_ ?_
        · intro nx' hnx'
          refine ⟨fun m σ H' => H' = H3 ∧ ∃ y, σ = [some (.ref a), some (.ref d), some (.ref R), some (.str x), some (.str y)] ∧ y ∈ rs.map (·.1) ∧ rowEnd (nxOf rows) rs.length y = rowEnd (nxOf rows) rs.length x ∧ m = ns.idxOf y, ⟨_, rfl, x, rfl, hx, rfl, rfl⟩, ?_⟩
          rintro m σ H' ⟨rfl, y, rfl, hy, he, rfl⟩
          obtain ⟨v, hv, hval⟩ := g3.get hy
          have hdg : DGet H' d (.str y) (some v) := by
            rw [← hval]; exact DGet.rd (k := Sum.inr y) (.inr ⟨o, q1⟩)
          obtain ⟨b, rfl, hb⟩ := g3.as _ hv
          rcases hb with ⟨z, ys, h1, h2, h3⟩ | ⟨z, h1, h3⟩
          · refine ⟨d, _, rfl, hdg, _, .str z, .inr (SqT.of h1), atI_zero _ _, rfl, _, rfl, ?_⟩
            rw [Bool.false_xor, decide_eq_false (fun e => h2 (V.str.inj e))]
            refine iteF ?_
            have e2 : rowEnd (nxOf rows) rs.length y = y := stps_stay _ h3
            refine hnx' _ _ ⟨rfl, ?_⟩
            rw [← he, e2]
          · refine ⟨d, _, rfl, hdg, _, .str "as", .inr (SqT.of h1), atI_zero _ _, rfl, _, rfl, ?_⟩
            refine iteT ?_
            obtain ⟨i1, i2⟩ := g3.inn _ hv z h3
            refine ⟨fun σ' H'' => ∃ m', m' < ns.idxOf y ∧ H'' = H' ∧ ∃ y, σ' = [some (.ref a), some (.ref d), some (.ref R), some (.str x), some (.str y)] ∧ y ∈ rs.map (·.1) ∧ rowEnd (nxOf rows) rs.length y = rowEnd (nxOf rows) rs.length x ∧ m' = ns.idxOf y, fun _ _ h => h, ?_⟩
            refine ⟨d, _, rfl, hdg, _, .str z, .inr (SqT.of h1), rfl, _, i2, rfl, z, rfl, i1, ?_, rfl⟩
            rw [← he]
            exact g3.endStep hy h3
        · rintro σ' H' ⟨rfl, rfl⟩
          have hlen : ((rowsE rows).take i).length ≤ 10 := by have := rt.few; have := rt.rl; simp [rowsE]; omega
          have hput : putK ((rowsE rows).take i) (.inr x) (.str (rowEnd (nxOf rows) rs.length x)) = (rowsE rows).take (i + 1) := by
            rw [putK_new, List.take_add_one, List.getElem?_eq_getElem (by simpa [rowsE] using hirw)]
            · simp [rowsE, en, endOf, rl]
            · intro kv hkv e
              obtain ⟨j, hj, rfl⟩ := List.getElem_of_mem hkv
              have hj' : j < i := by simp at hj; omega
              rw [List.getElem_take] at e
              simp only [rowsE, List.getElem_map] at e
              have e' : rows[j].1 = rows[i].1 := by rw [← en]; exact Sum.inr.inj e
              have nd := rt.ndr
              have := List.pairwise_iff_getElem.mp nd j i (by simp; omega) (by simpa using hirw) hj'
              simp at this
              exact this e'
          refine ⟨R, _, rfl, DPut.k (k := Sum.inr x) q2 (by omega), ?_⟩
          rw [hput]
          exact ⟨_, _, rfl, by rw [upd_ne nRd.symm]; exact q1, upd_same, q3.put hR0⟩
      · rintro σ' H' ⟨v3, v4, rfl, q1, q2, q3⟩
        have e : (dictOf (rowsK rs)).length = (rowsE rows).length := by rw [ed]; simp [rowsE, rl]
        rw [e, List.take_length] at q2
        exact hnx _ _ ⟨v3, v4, rfl, q2, q3⟩
    · rintro σ' H' ⟨v3, v4, rfl, q2, q3⟩
      exact k R H' hR0 q3 q2
def spNamesH : Sp := fun vs H Q _ => ∃ (x : V) (h : Hd) (ns : List Str), vs = [x] ∧ HV H x h ∧ h.ok ns ∧ ∀ L H', H L = none → H' L = some (.lst ((nmsH h).map V.str)) → Same H H' → Q (.ref L) H'
theorem ok_names_inH (T : Txt K mg w) : FnK P w K mg base 1 "names_in" ["head"] spNamesH := by
  refine T.t_names_in.okS sc_names_in (fun vs H Q E h => ?_) (fun f cdv A outer s H vs Q E hr h => ?_)
  · obtain ⟨x, h, ns, rfl, _⟩ := h
    rfl
  · obtain ⟨x, h, ns, rfl, hv, hok, k⟩ := h
    have hsz : sizeLine = 16777216 := sizeLine_eq
    refine ⟨_, (sb_cons (s_if (y_cmpR (op_inK K) (z_ix (ix_K K) (zv 0) z_int (fun _ _ => rfl)) (z_glK K T.c_WORDED) rfl) (sb_one (s_ret (z_lc (own := ["word", "x"]) (idx := []) (N' := ["word", "x"]) (⟨rfl, by decide +kernel, by decide +kernel, (show ∀ y ∈ Scope.names _, y.2 = NameKind.free → ((defScope s_names_in).names.lookup y.1 = some NameKind.cell ∨ (defScope s_names_in).names.lookup y.1 = some NameKind.free) by decide +kernel), (show ∀ j ∈ ([] : List Nat), (Scope.names _).lookup ((["head"] : List Str).getD j "") = some NameKind.free ∧ j < (["head"] : List Str).length by decide +kernel), rfl⟩) rfl (i_K K (z_ix (ix_K K) (zv 0) z_int (fun _ _ => rfl))) (fun _ _ _ _ _ _ => (g_tup K (n := 2) rfl (gs_cons (g_name (i := 0) (show List.Nodup (["word", "x"] : List Str) by decide +kernel) rfl (Or.inl rfl)) (gs_cons (g_name (i := 1) (show List.Nodup (["word", "x"] : List Str) by decide +kernel) rfl (Or.inl rfl)) gs_nil)))) (fun _ _ _ _ _ _ => c_nil) (fun _ _ _ _ _ _ => (zv 1))))) sb_nil)
      (sb_one (s_ret (z_callTy (call_lstK K) (by rfl) T.n_list PyProof.Rows.boot_list (sa_Subscript (z_slice (sl_K K) (zv 0) (zo_some z_int) zo_none) sa_nil))))), ?_⟩
    have fin : ∀ (b : Addr) (z : Str) (ys : List Str), H b = some (.tup (.str z :: ys.map V.str)) → nmsH h = ys → ∀ D : Ends, D.rt = Q → tRet (tCB (rLstOf K) (tCons (tSl (fun x lo hi H Q => rSlS x lo hi H Q ∨ rSlL K x lo hi H Q ∨ rSlT K x lo hi H Q) (tV 0) (tPart (tC (V.int 1))) tNoPart) tNil)) D [some (.ref b)] H := by
      intro b z ys e en D hD
      refine ⟨1, rfl, Or.inr (Or.inr ⟨b, _, rfl, SqT.of e, ?_, fun p1 hp1 => ⟨p1, _, rfl, .inr (SqT.of upd_same), fun L hL => ?_⟩⟩)⟩
      · intro ⟨h1, _⟩
        have : HT.sIx (V.str z :: ys.map V.str).length 0 (some ((1 : Nat) : Int)) = 0 := h1
        rw [HT.sIx_nat] at this
        simp at this
      · have s1 := (Same.upd hp1 (.tup (cutV (V.str z :: ys.map V.str) (some 1) none))).trans (Same.upd hL (.lst (cutV (V.str z :: ys.map V.str) (some 1) none)))
        rw [hD]
        refine k L _ ((Same.upd hp1 _).free hL) ?_ s1
        rw [upd_same]
        have ec : cutV (V.str z :: ys.map V.str) (some 1) none = ys.map V.str := by
          have := cut_from (V.str z :: ys.map V.str) 1
          exact this
        rw [ec, en]
    have notw : ∀ (b : Addr) (z : Str) (ys : List Str), H b = some (.tup (.str z :: ys.map V.str)) → (z == "box") = false → (z == "pick") = false → nmsH h = ys → tSeq (tIfS (tTest (tOp (rInD K false) (tOp (rIxD K) (tV 0) (tC (V.int 0))) (tGlT K [V.str "box", V.str "pick"]))) (tRet (tLC ["word", "x"] [] (iD K (tOp (rIxD K) (tV 0) (tC (V.int 1)))) (gTup K 2 (gCons (gName 0) (gCons (gName 1) gNil))) tcNil (tV 1))) tNext) (tRet (tCB (rLstOf K) (tCons (tSl (fun x lo hi H Q => rSlS x lo hi H Q ∨ rSlL K x lo hi H Q ∨ rSlT K x lo hi H Q) (tV 0) (tPart (tC (V.int 1))) tNoPart) tNil))) { nx := fun x H' => Q V.non H', rt := Q } [some (.ref b)] H := fun b z ys e n1 n2 en => by
      refine ⟨_, .str z, .inr (SqT.of e), atI_zero _ _, ?_⟩
      intro aW hW
      refine ⟨_, .inr hW, rfl, rfl, _, rfl, ?_⟩
      have ew : (false ^^ inV (.str z) [V.str "box", V.str "pick"]) = false := by
        rw [Bool.false_xor, show ([V.str "box", V.str "pick"] : List V) = (["box", "pick"] : List Str).map V.str from rfl, inV_strs]
        refine decide_eq_false fun hm => ?_
        simp only [List.mem_cons, List.mem_nil_iff, or_false] at hm
        rcases hm with rfl | rfl
        · simp at n1
        · simp at n2
      rw [ew]
      exact iteF (fin b z ys e en _ rfl)
    cases hv with
    | @one b s e => exact notw b s [] e (by rcases hok with rfl | rfl <;> decide +kernel) (by rcases hok with rfl | rfl <;> decide +kernel) rfl
    | @as b y e => exact notw b "as" [y] e (by decide +kernel) (by decide +kernel) rfl
    | @way b y z e => exact notw b "way" [y, z] e (by decide +kernel) (by decide +kernel) rfl
    | @prs b c s ys ps e ec hp =>
      refine ⟨_, .str s, .inr (SqT.of e), atI_zero _ _, ?_⟩
      intro aW hW
      refine ⟨_, .inr hW, rfl, rfl, _, rfl, ?_⟩
      have ew : (false ^^ inV (.str s) [V.str "box", V.str "pick"]) = true := by
        rw [Bool.false_xor, show ([V.str "box", V.str "pick"] : List V) = (["box", "pick"] : List Str).map V.str from rfl, inV_strs]
        refine decide_eq_true ?_
        rcases hok.1 with rfl | rfl <;> simp
      rw [ew]
      refine iteT ?_
      have hpl := hp.len
      have h10 := hok.2.2.2
      refine ⟨_, .ref c, .inr (SqT.of e), rfl, Or.inr ⟨⟨ys, SqT.of ec⟩, fun D hD => ?_⟩⟩
      refine lc_by (itn_tup ys) (fun i τ H3 => H3 D = some (.lst (((ps.take i).map (·.2)).map V.str)) ∧ Same H H3 ∧ ∃ v1 v2, τ = [v1, v2]) ⟨upd_same, Same.upd hD _, none, none, rfl⟩ (fun i τ H3 _ h => SqT.of (h.2.1 _ _ ec)) ?_ ?_
      · rintro i τ H3 hi ⟨q1, q2, v1, v2, rfl⟩
        have hip : i < ps.length := by omega
        obtain ⟨d, e1, e2⟩ := hp.at_ i hi hip
        have eg : ys.getD i .non = .ref d := by rw [List.getD_eq_getElem?_getD, List.getElem?_eq_getElem hi, e1]; rfl
        rw [eg]
        refine g2_at (q2 _ _ e2) ?_
        refine ⟨_, q1, by simp; omega, ?_, (q2.put hD), _, _, rfl⟩
        rw [upd_same, List.take_add_one, List.getElem?_eq_getElem hip, List.map_append, List.map_append]
        rfl
      · rintro τ H3 ⟨q1, q2, v1, v2, rfl⟩
        rw [hpl, List.take_length] at q1
        exact k D H3 hD q1 q2
def wdOf (s : Str) : Str := if s = "box" then "part" else "case"
def spStepsIn (mg : Str → Option Value) : Sp := fun vs H Q _ => ∃ (x : V) (h : Hd) (ns : List Str), vs = [x] ∧ HV H x h ∧ h.ok ns ∧ Kn mg H "FROM" [.str "from"] ∧ Kn mg H "TO" [.str "to"] ∧
  ∀ (L : Addr) (us : List V) (H' : Hp), H L = none → H' L = some (.lst us) → SV H' us (h.mvs.map (·.1)) → Same H H' → Q (.ref L) H'
theorem ok_steps_in (T : Txt K mg w) : FnK P w K mg base 1 "steps_in" ["head"] (spStepsIn mg) := by
  refine T.t_steps_in.okS sc_steps_in (fun vs H Q E h => ?_) (fun f cdv A outer s H vs Q E hr h => ?_)
  · obtain ⟨x, h, ns, rfl, _⟩ := h
    rfl
  · obtain ⟨x, h, ns, rfl, hv, hok, kf, kt, k⟩ := h
    have hu0 := Nat.lt_of_succ_lt (hu_of hr)
    have hsz : sizeLine = 16777216 := sizeLine_eq
    refine ⟨_, (sb_cons (s_if (y_cmpR (op_eqD hu0) (z_ix (ix_K K) (zv 0) z_int (fun _ _ => rfl)) z_str (nomark _)) (sb_one (s_ret (z_lst (sa_Name (z_gl T.c_FROM) (sa_Name (z_gl T.c_TO) sa_nil))))) sb_nil)
      (sb_cons (s_if (y_kin T.c_STEP_WORDS (z_ix (ix_K K) (zv 0) z_int (fun _ _ => rfl))) (sb_one (s_ret (z_lc (own := ["word", "x"]) (idx := [0]) (N' := ["word", "x", "head"]) (⟨rfl, by decide +kernel, by decide +kernel, (show ∀ y ∈ Scope.names _, y.2 = NameKind.free → ((defScope s_steps_in).names.lookup y.1 = some NameKind.cell ∨ (defScope s_steps_in).names.lookup y.1 = some NameKind.free) by decide +kernel), (show ∀ j ∈ ([0] : List Nat), (Scope.names _).lookup ((["head"] : List Str).getD j "") = some NameKind.free ∧ j < (["head"] : List Str).length by decide +kernel), rfl⟩) rfl (i_K K (z_ix (ix_K K) (zv 0) z_int (fun _ _ => rfl))) (fun _ _ _ _ _ _ => (g_tup K (n := 2) rfl (gs_cons (g_name (i := 0) (show List.Nodup (["word", "x", "head"] : List Str) by decide +kernel) rfl (Or.inl rfl)) (gs_cons (g_name (i := 1) (show List.Nodup (["word", "x", "head"] : List Str) by decide +kernel) rfl (Or.inl rfl)) gs_nil)))) (fun _ _ _ _ _ _ => c_nil) (fun _ _ _ _ _ _ => (z_tup (sa_Subscript (z_kget T.c_STEP_WORDS (z_ix (ix_K K) (zv 2) z_int (fun _ _ => rfl)) (fun _ _ => rfl)) (sa_Name (zv 0) sa_nil))))))) sb_nil)
      (sb_one (s_ret (z_lst sa_nil))))), ?_⟩
    cases hv with
    | @one b s e =>
      refine ⟨_, .str s, .inr (SqT.of e), atI_zero _ _, rfl, _, rfl, iteB (fun c => ?_) (fun _ => ⟨_, .str s, .inr (SqT.of e), atI_zero _ _, Sum.inr s, rfl, _, rfl, iteB (fun c => ?_) (fun _ => ⟨(show 0 ≤ sizeLine by decide), fun L hL => k L [] _ hL upd_same SV.nil (Same.upd hL _)⟩)⟩)⟩
      · rw [Bool.false_xor, decV_str] at c
        rcases hok with rfl | rfl <;> exact absurd c (by decide +kernel)
      · rcases hok with rfl | rfl <;> exact absurd c (by decide +kernel)
    | @as b y e =>
      refine ⟨_, .str "as", .inr (SqT.of e), atI_zero _ _, rfl, _, rfl, iteB (fun c => ?_) (fun _ => ⟨_, .str "as", .inr (SqT.of e), atI_zero _ _, Sum.inr "as", rfl, _, rfl, iteB (fun c => ?_) (fun _ => ⟨(show 0 ≤ sizeLine by decide), fun L hL => k L [] _ hL upd_same SV.nil (Same.upd hL _)⟩)⟩)⟩
      · rw [Bool.false_xor, decV_str] at c
        exact absurd c (by decide +kernel)
      · exact absurd c (by decide +kernel)
    | @way b y z e =>
      refine ⟨_, .str "way", .inr (SqT.of e), atI_zero _ _, rfl, _, rfl, iteB (fun _ => ?_) (fun c => absurd c (by simp))⟩
      refine ⟨(show 2 ≤ sizeLine by decide), fun L hL => k L _ _ hL upd_same ?_ (Same.upd hL _)⟩
      exact (SV.nil.snoc (m := ["from"]) (kf.same (Same.upd hL _)).rd).snoc (m := ["to"]) (kt.same (Same.upd hL _)).rd
    | @prs b c s ys ps e ec hp =>
      have hpl := hp.len
      have h10 := hok.2.2.2
      obtain ⟨n1, n2, n3⟩ : (s == "way") = false ∧ (valV [((Sum.inr "box" : Key), V.str "part"), (Sum.inr "pick", V.str "case")] (Sum.inr s)).isSome = true ∧ valV [((Sum.inr "box" : Key), V.str "part"), (Sum.inr "pick", V.str "case")] (Sum.inr s) = some (.str (wdOf s)) := by
        rcases hok.1 with rfl | rfl <;> exact ⟨by decide +kernel, by decide +kernel, by decide +kernel⟩
      refine ⟨_, .str s, .inr (SqT.of e), atI_zero _ _, rfl, _, rfl, iteB (fun c => ?_) (fun _ => ⟨_, .str s, .inr (SqT.of e), atI_zero _ _, Sum.inr s, rfl, _, rfl, iteB (fun _ => ?_) (fun c => ?_)⟩)⟩
      · rw [Bool.false_xor, decV_str, n1] at c; cases c
      · refine ⟨_, .ref c, .inr (SqT.of e), rfl, Or.inr ⟨⟨ys, SqT.of ec⟩, fun D hD => ?_⟩⟩
        refine lc_by (itn_tup ys) (fun i τ H3 => ∃ (v0 v1 : Option V) (zs : List V), τ = [v0, v1, some (.ref b)] ∧ H3 D = some (.lst zs) ∧ SV H3 zs ((ps.take i).map fun p => [wdOf s, p.1]) ∧ Same H H3) ⟨none, none, [], rfl, upd_same, SV.nil, Same.upd hD _⟩ (by rintro i τ H3 _ ⟨_, _, _, _, _, _, s⟩; exact SqT.of (s _ _ ec)) ?_ ?_
        · rintro i τ H3 hi ⟨v0, v1, zs, rfl, q1, q2, q3⟩
          have hip : i < ps.length := by omega
          obtain ⟨d, r1, r2⟩ := hp.at_ i hi hip
          have eg : ys.getD i .non = .ref d := by rw [List.getD_eq_getElem?_getD, List.getElem?_eq_getElem hi, r1]; rfl
          rw [eg]
          refine g2_at (q3 _ _ r2) ?_
          have hzl : zs.length = i := by have := q2.len; simp at this; omega
          refine ⟨_, .str s, .inr (SqT.of (q3 _ _ e)), atI_zero _ _, Sum.inr s, _, rfl, n3, (show 2 ≤ sizeLine by decide), fun c1 h1 => ?_⟩
          have t1 := Same.upd h1 (.tup [.str (wdOf s), .str ps[i].1])
          have g1 : upd H3 c1 (.tup [.str (wdOf s), .str ps[i].1]) c1 = some (.tup [.str (wdOf s), .str ps[i].1]) := upd_same
          dsimp only
          generalize upd H3 c1 (.tup [.str (wdOf s), .str ps[i].1]) = H5 at t1 g1
          have gD := t1 _ _ q1
          have kp : ∀ b ys, RdT H5 b ys → RdT (upd H5 D (.lst (zs ++ [.ref c1]))) b ys := fun b ys r => r.upd fun u hu z => by
            subst z
            rcases r with r | ⟨_, r⟩ <;> (rw [gD] at r; cases r)
          refine ⟨zs, gD, by omega, _, _, zs ++ [.ref c1], rfl, upd_same, ?_, (q3.trans t1).put hD⟩
          have et : (ps.take (i + 1)).map (fun p => ([wdOf s, p.1] : List Str)) = (ps.take i).map (fun p => ([wdOf s, p.1] : List Str)) ++ [[wdOf s, ps[i].1]] := by
            rw [List.take_add_one, List.getElem?_eq_getElem hip, List.map_append]; rfl
          rw [et]
          exact ((q2.keep fun b ys r => r.same t1).keep kp).snoc (m := [wdOf s, ps[i].1]) (kp _ _ (.inl g1))
        · rintro τ H3 ⟨v0, v1, zs, rfl, q1, q2, q3⟩
          rw [hpl, List.take_length] at q2
          refine k D zs H3 hD q1 ?_ q3
          have em : (Hd.prs s ps).mvs.map (·.1) = ps.map fun p => ([wdOf s, p.1] : List Str) := by
            simp [Hd.mvs, wdOf, List.map_map, Function.comp_def]
          rw [em]
          exact q2
      · rw [n2] at c; cases c
def spMovesIn (mg : Str → Option Value) : Sp := fun vs H Q _ => ∃ (x : V) (h : Hd) (ns : List Str) (rows : List Rw2) (d : Addr), vs = [x, .ref d] ∧ HV H x h ∧ h.ok ns ∧ Kn mg H "FROM" [.str "from"] ∧ Kn mg H "TO" [.str "to"] ∧ Rd H d (.dK (rowsE rows)) ∧ (∀ z ∈ ns, z ∈ rows.map (·.1)) ∧ (rows.map (·.1)).Nodup ∧
  ∀ (m : Addr) (H' : Hp), H m = none → H' m = some (.dT (movesE rows h)) → Same H H' → Q (.ref m) H'
theorem ok_moves_in (T : Txt K mg w) : FnK P w K mg base 2 "moves_in" ["head", "rows"] (spMovesIn mg) := by
  have F_steps_in : FnK P w K mg base 1 "steps_in" ["head"] (spStepsIn mg) := ok_steps_in T
  have F_names_in : FnK P w K mg base 1 "names_in" ["head"] spNamesH := ok_names_inH T
  refine T.t_moves_in.okS sc_moves_in (fun vs H Q E h => ?_) (fun f cdv A outer s H vs Q E hr h => ?_)
  · obtain ⟨x, h, ns, rows, d, rfl, _⟩ := h
    rfl
  · obtain ⟨x, h, ns, rows, d, rfl, hv, hok, kf, kt, hd, hin, nd, k⟩ := h
    have hu := hu_of hr
    have hu0 := Nat.lt_of_succ_lt (hu_of hr)
    have hsz : sizeLine = 16777216 := sizeLine_eq
    have few := mvs_few hok
    refine ⟨_, (sb_one (s_ret (z_dcT (own := ["step", "x"]) (idx := [1]) (N' := ["step", "x", "rows"]) (⟨rfl, by decide +kernel, by decide +kernel, (show ∀ y ∈ Scope.names _, y.2 = NameKind.free → ((defScope s_moves_in).names.lookup y.1 = some NameKind.cell ∨ (defScope s_moves_in).names.lookup y.1 = some NameKind.free) by decide +kernel), (show ∀ j ∈ ([1] : List Nat), (Scope.names _).lookup ((["head", "rows"] : List Str).getD j "") = some NameKind.free ∧ j < (["head", "rows"] : List Str).length by decide +kernel), rfl⟩) rfl hu0 (pi_zipK K (by rfl) T.n_zip (sa_Call (z_fn F_steps_in (hr.mono (by decide)) (sa_Name (zv 0) sa_nil)) (sa_Call (z_fn F_names_in (hr.mono (by decide)) (sa_Name (zv 0) sa_nil)) sa_nil))) (fun _ _ _ _ _ _ => (g_tup K (n := 2) rfl (gs_cons (g_name (i := 0) (show List.Nodup (["step", "x", "rows"] : List Str) by decide +kernel) rfl (Or.inl rfl)) (gs_cons (g_name (i := 1) (show List.Nodup (["step", "x", "rows"] : List Str) by decide +kernel) rfl (Or.inl rfl)) gs_nil)))) (fun _ _ _ _ _ _ => c_nil) (fun _ _ _ _ _ _ => (zv 0)) (fun _ _ _ _ _ _ => (z_dget hu (zv 2) (zv 1) (fun _ _ => rfl)))))), ?_⟩
    refine ⟨x, h, ns, rfl, hv, hok, kf, kt, fun L us H1 hL eL sv s1 => ⟨x, h, ns, rfl, hv.tk s1.ts, hok, fun M H2 hM eM s2 => ?_⟩⟩
    have hlu := sv.len
    rw [List.length_map] at hlu
    refine ⟨L, M, us, (nmsH h).map V.str, rfl, SqL.of (s2 _ _ eL), SqL.of eM, fun D hD => ?_⟩
    have hD0 : H D = none := (s1.trans s2).free hD
    have mn : min us.length ((nmsH h).map V.str).length = h.mvs.length := by have := nms_le (h := h); simp; omega
    have mnd := movesE_nodup (rows := rows) (mvs_nd hok)
    have ml : (movesE rows h).length = h.mvs.length := by simp [movesE]
    refine dcT_pair (itp_zip us ((nmsH h).map V.str)) (fun i τ H3 => ∃ v0 v1 : Option V, τ = [v0, v1, some (.ref d)] ∧ H3 D = some (.dT ((movesE rows h).take i)) ∧ Same H2 H3 ) ⟨none, none, rfl, upd_same, Same.upd hD _⟩ (by rintro i τ H3 _ ⟨_, _, _, _, s⟩; exact ⟨SqL.of (s _ _ (s2 _ _ eL)), SqL.of (s _ _ eM)⟩) ?_ ?_
    · rintro i τ H3 T hi ⟨v0, v1, rfl, q1, q2⟩ hT
      rw [mn] at hi
      have hiu : i < us.length := by omega
      obtain ⟨b, e1, e2⟩ := sv.at_ i hiu (by simpa using hi)
      have g1 : us.getD i .non = .ref b := by rw [List.getD_eq_getElem?_getD, List.getElem?_eq_getElem hiu, e1]; rfl
      have g2' : ((nmsH h).map V.str).getD i .non = .str h.mvs[i].2 := by rw [List.getD_eq_getElem?_getD, List.getElem?_map, mvs_nms i hi]; rfl
      rw [g1, g2']
      have t1 := Same.upd hT (.tup [.ref b, .str h.mvs[i].2])
      generalize upd H3 T (.tup [.ref b, .str h.mvs[i].2]) = H5 at t1
      have hz : h.mvs[i].2 ∈ ns := mvs_in hok _ (List.getElem_mem hi)
      have hd5 : Rd H5 d (.dK (rowsE rows)) := hd.same (((s1.trans s2).trans q2).trans t1)
      refine ⟨d, .str (endOf rows h.mvs[i].2), rfl, by rw [← rowsE_get nd (hin _ hz)]; exact DGet.rd (k := Sum.inr h.mvs[i].2) hd5, ?_⟩
      have er : RdT H5 b (h.mvs[i].1.map V.str) := by
        have := (e2.same ((s2.trans q2).trans t1))
        simpa using this
      have hil : i < (movesE rows h).length := by omega
      have em : (movesE rows h)[i] = (h.mvs[i].1.map Sum.inr, .str (endOf rows h.mvs[i].2)) := by simp [movesE]
      refine ⟨(movesE rows h).take i, (movesE rows h)[i].1, b, rfl, by rw [em, kstr]; exact er, t1 _ _ q1, by simp; omega, _, _, rfl, ?_, ?_⟩
      · have := putK_at mnd hil
        rw [em] at this ⊢
        rw [this]
        exact upd_same
      · exact (q2.trans t1).put hD
    · rintro τ H3 ⟨v0, v1, rfl, q1, q2⟩
      rw [mn, ← ml, List.take_length] at q1
      exact k D H3 hD0 q1 ((s1.trans s2).trans q2)
def spNet (mg : Str → Option Value) : Sp := fun vs H Q _ => ∃ (x dx a : Addr) (xs : List V) (rows : List Rw2) (ns ws : List Str), vs = [.ref x, .ref a] ∧ H x = some (.ins (adr mg "Net") dx []) ∧ RT H a xs rows ns ws ∧ (∀ z ∈ ws, Wd z) ∧ Kn mg H "FROM" [.str "from"] ∧ Kn mg H "TO" [.str "to"] ∧
  ∀ H', NetAt H' (adr mg "Net") x rows → Sx x H H' → Q .non H'
theorem lenF {f g : Str} {u v : V} (n : Nat) : (putF f u (putF g v [])).length < 1000 := by
  have h1 := length_putF f u (putF g v [])
  have h2 := length_putF g v []
  simp at h2
  omega
theorem tLast_fld {K : PySem.W.Frag} {ta tv : TE} {f : Str} {D : Ends} {σ : St} {H : Hp} (h : tv σ H fun y H1 => ta σ H1 fun x H2 => ∃ a C dx fs, x = .ref a ∧ H2 a = some (.ins C dx fs) ∧ Cls K C ∧ NoAttr K C f ∧ fs.length < 1000 ∧ D.nx σ (upd H2 a (.ins C dx (putF f y fs)))) : sFld K ta tv f D σ H := h
set_option maxHeartbeats 1000000 in
theorem ok_Net (T : Txt K mg w) : ClK P w K mg base 4 "Net" (adr mg "Net") ["self", "T"] (spNet mg) := by
  have F_rows_of : FnK P w K mg base 2 "rows_of" ["T"] spRowsOf := ok_rows_of T
  have F_steps_in : FnK P w K mg base 1 "steps_in" ["head"] (spStepsIn mg) := ok_steps_in T
  have F_moves_in : FnK P w K mg base 2 "moves_in" ["head", "rows"] (spMovesIn mg) := ok_moves_in T
  have cl := T.k_Net.2.1
  have na := T.k_Net.2.2.1
  refine T.k_Net.okS sc_Net_init (fun vs H Q E h => ?_) (fun f cdv A outer s H vs Q E hr h => ?_)
  · obtain ⟨x, dx, a, xs, rows, ns, ws, rfl, _⟩ := h
    rfl
  · obtain ⟨x, dx, a, xs, rows, ns, ws, rfl, hx, rt, hw, kf, kt, k⟩ := h
    have hu := hu_of hr
    have hu0 := Nat.lt_of_succ_lt (hu_of hr)
    have hsz : sizeLine = 16777216 := sizeLine_eq
    have ndr := rt.ndr
    have hrl := rt.rl
    have few := rt.few
    have nonL : (nonAs rows).length ≤ 10 := by have := List.length_filter_le (fun r : Rw2 => r.2.nx.isNone) rows; unfold nonAs; omega
    have ndn : ((nonAs rows).map (·.1)).Nodup := (ndr.sublist (List.filter_sublist.map _))
    refine ⟨_, (sb_cons (s_fld K (zv 0) (z_frz (z_fn F_rows_of (hr.mono (by decide)) (sa_Name (zv 1) sa_nil))))
      (sb_cons (s_fld K (zv 0) (z_frz (z_dc (own := ["name", "head"]) (idx := []) (N' := ["name", "head"]) (⟨rfl, by decide +kernel, by decide +kernel, (show ∀ y ∈ Scope.names _, y.2 = NameKind.free → ((defScope s_Net_init).names.lookup y.1 = some NameKind.cell ∨ (defScope s_Net_init).names.lookup y.1 = some NameKind.free) by decide +kernel), (show ∀ j ∈ ([] : List Nat), (Scope.names _).lookup ((["self", "T"] : List Str).getD j "") = some NameKind.free ∧ j < (["self", "T"] : List Str).length by decide +kernel), rfl⟩) rfl (i_K K (zv 1)) (fun _ _ _ _ _ _ => (g_tup K (n := 2) rfl (gs_cons (g_name (i := 0) (show List.Nodup (["name", "head"] : List Str) by decide +kernel) rfl (Or.inl rfl)) (gs_cons (g_name (i := 1) (show List.Nodup (["name", "head"] : List Str) by decide +kernel) rfl (Or.inl rfl)) gs_nil)))) (fun _ _ _ _ _ _ => (c_one (y_cmpR (op_neD hu0) (z_ix (ix_K K) (zv 1) z_int (fun _ _ => rfl)) z_str (nomark _)))) (fun _ _ _ _ _ _ => (zv 0)) (fun _ _ _ _ _ _ => (zv 1)))))
      (sb_cons (s_fld K (zv 0) (z_frz (z_dc (own := ["row", "head"]) (idx := []) (N' := ["row", "head"]) (⟨rfl, by decide +kernel, by decide +kernel, (show ∀ y ∈ Scope.names _, y.2 = NameKind.free → ((defScope s_Net_init).names.lookup y.1 = some NameKind.cell ∨ (defScope s_Net_init).names.lookup y.1 = some NameKind.free) by decide +kernel), (show ∀ j ∈ ([] : List Nat), (Scope.names _).lookup ((["self", "T"] : List Str).getD j "") = some NameKind.free ∧ j < (["self", "T"] : List Str).length by decide +kernel), rfl⟩) rfl (pi_items (z_fld K (zv 0))) (fun _ _ _ _ _ _ => (g_tup K (n := 2) rfl (gs_cons (g_name (i := 0) (show List.Nodup (["row", "head"] : List Str) by decide +kernel) rfl (Or.inl rfl)) (gs_cons (g_name (i := 1) (show List.Nodup (["row", "head"] : List Str) by decide +kernel) rfl (Or.inl rfl)) gs_nil)))) (fun _ _ _ _ _ _ => c_nil) (fun _ _ _ _ _ _ => (zv 0)) (fun _ _ _ _ _ _ => (z_tup (sa_Subscript (z_ix (ix_K K) (zv 1) z_int (fun _ _ => rfl)) (sa_Call (z_callTy (call_tupK K) (by rfl) T.n_tuple PyProof.Rows.boot_tuple (sa_Call (z_fn F_steps_in (hr.mono (by decide)) (sa_Name (zv 1) sa_nil)) sa_nil)) sa_nil)))))))
      (sb_one (s_fld K (zv 0) (z_frz (z_dc (own := ["row", "head"]) (idx := [0]) (N' := ["row", "head", "self"]) (⟨rfl, by decide +kernel, by decide +kernel, (show ∀ y ∈ Scope.names _, y.2 = NameKind.free → ((defScope s_Net_init).names.lookup y.1 = some NameKind.cell ∨ (defScope s_Net_init).names.lookup y.1 = some NameKind.free) by decide +kernel), (show ∀ j ∈ ([0] : List Nat), (Scope.names _).lookup ((["self", "T"] : List Str).getD j "") = some NameKind.free ∧ j < (["self", "T"] : List Str).length by decide +kernel), rfl⟩) rfl (pi_items (z_fld K (zv 0))) (fun _ _ _ _ _ _ => (g_tup K (n := 2) rfl (gs_cons (g_name (i := 0) (show List.Nodup (["row", "head", "self"] : List Str) by decide +kernel) rfl (Or.inl rfl)) (gs_cons (g_name (i := 1) (show List.Nodup (["row", "head", "self"] : List Str) by decide +kernel) rfl (Or.inl rfl)) gs_nil)))) (fun _ _ _ _ _ _ => c_nil) (fun _ _ _ _ _ _ => (zv 0)) (fun _ _ _ _ _ _ => (z_frz (z_fn F_moves_in (hr.mono (by decide)) (sa_Name (zv 1) (sa_Attribute (z_fld K (zv 2)) sa_nil)))))))))))), ?_⟩
    generalize hC : adr mg "Net" = C at *
    refine tSeq_fld ⟨a, xs, rows, ns, ws, rfl, rt, hw, fun d1 H1 hd1 s1 e1 => ⟨d1, rfl, .inl ⟨_, .inl e1, fun o1 => ?_⟩⟩⟩
    have nx1 : d1 ≠ x := fun z => by rw [z, hx] at hd1; cases hd1
    refine ⟨x, C, dx, [], rfl, by rw [upd_ne nx1.symm]; exact s1 _ _ hx, cl, na "rows" (by simp), by simp, ?_⟩
    have sx1 : Sx x H (upd (upd H1 d1 (.frz o1 (.dK (rowsE rows)))) x (.ins C dx (putF "rows" (.ref d1) []))) := ((s1.put hd1).sx).trans Sx.upd
    have g1 : upd (upd H1 d1 (.frz o1 (.dK (rowsE rows)))) x (.ins C dx (putF "rows" (.ref d1) [])) d1 = some (.frz o1 (.dK (rowsE rows))) := by rw [upd_ne nx1]; exact upd_same
    have gx : upd (upd H1 d1 (.frz o1 (.dK (rowsE rows)))) x (.ins C dx (putF "rows" (.ref d1) [])) x = some (.ins C dx (putF "rows" (.ref d1) [])) := upd_same
    generalize upd (upd H1 d1 (.frz o1 (.dK (rowsE rows)))) x (.ins C dx (putF "rows" (.ref d1) [])) = H2 at sx1 g1 gx ⊢
    have nt : ∀ ys, H x ≠ some (.tup ys) := fun ys z => by rw [hx] at z; cases z
    have nf : ∀ q u, H x ≠ some (.frz q u) := fun q u z => by rw [hx] at z; cases z
    have rt2 := rt.tk (sx1.tk nt)
    clear e1 s1 hd1 H1
    -- heads
    refine tSeq_fld (Or.inr ⟨⟨xs, SqT.of rt2.at_⟩, fun D hD => ?_⟩)
    have nDx : D ≠ x := fun z => by rw [z, gx] at hD; cases hD
    refine dc_by (itn_tup xs) (fun i τ H3 => ∃ (v0 v1 : Option V) (kvs : List (Key × V)), τ = [v0, v1] ∧ H3 D = some (.dK kvs) ∧ DV RH H3 kvs (nonAs (rows.take i)) ∧ Same H2 H3) ⟨none, none, [], rfl, upd_same, DV.nil, Same.upd hD _⟩ (by rintro i τ H3 _ ⟨_, _, _, _, _, _, s⟩; exact SqT.of (s _ _ rt2.at_)) ?_ ?_
    · rintro i τ H3 hi ⟨v0, v1, kvs, rfl, q1, q2, q3⟩
      have hir : i < rows.length := by have := rt2.rv.len; omega
      obtain ⟨b, v, r1, r2, r3⟩ := rt2.rv.at_ i hi hir
      have eg : xs.getD i .non = .ref b := by rw [List.getD_eq_getElem?_getD, List.getElem?_eq_getElem hi, r1]; rfl
      rw [eg]
      refine g2_at (q3 _ _ r2) ?_
      have r3' := r3.same q3
      obtain ⟨c, ys, rfl, hc⟩ := r3'.srt
      have hok := (rt2.ok rows[i] (List.getElem_mem hir)).2
      have et : rows.take (i + 1) = rows.take i ++ [rows[i]] := by rw [List.take_add_one, List.getElem?_eq_getElem hir]; rfl
      have kl : kvs.length < sizeLine := by
        have h1 := q2.len
        have h2 := List.length_filter_le (fun r : Rw2 => r.2.nx.isNone) (rows.take i)
        unfold nonAs at h1
        simp at h2
        omega
      refine ⟨_, .str rows[i].2.srt, .inr (SqT.of hc), atI_zero _ _, rfl, _, rfl, iteB (fun c1 => ?_) (fun c1 => ?_)⟩
      · have hn : rows[i].2.nx.isNone = true := by
          cases e : rows[i].2.nx.isNone with
          | true => rfl
          | false =>
            have := (srt_as hok).symm ▸ e
            rw [this] at c1
            simp at c1
        have en : nonAs (rows.take (i + 1)) = nonAs (rows.take i) ++ [rows[i]] := by
          rw [et]; unfold nonAs; rw [List.filter_append, List.filter_cons, if_pos hn]; rfl
        have hnot : rows[i].1 ∉ (nonAs (rows.take i)).map (·.1) := fun hm => by
          obtain ⟨r, hr, e⟩ := List.mem_map.mp hm
          have hr' := (List.mem_filter.mp hr).1
          obtain ⟨j, hj, rfl⟩ := List.getElem_of_mem hr'
          have hj' : j < i := by simp at hj; omega
          rw [List.getElem_take] at e
          have := List.pairwise_iff_getElem.mp ndr j i (by simp; omega) (by simpa using hir) hj'
          simp only [List.getElem_map] at this
          exact this e
        refine ⟨kvs, .inr rows[i].1, rfl, q1, kl, _, _, kvs ++ [(.inr rows[i].1, .ref c)], rfl, ?_, ?_, q3.put hD⟩
        · rw [q2.put hnot]; exact upd_same
        · rw [en]
          exact (q2.snoc (show RH H3 (.ref c) rows[i] from r3')).keep fun v r h => HV.tk ((Tk.refl).set q1 fun xs z => nomatch z) h
      · have hn : rows[i].2.nx.isNone = false := by
          have e : rows[i].2.srt = "as" := by
            have : decide (V.str rows[i].2.srt = V.str "as") = true := by simpa using c1
            exact V.str.inj (of_decide_eq_true this)
          exact (srt_as hok) ▸ e
        have en : nonAs (rows.take (i + 1)) = nonAs (rows.take i) := by
          rw [et]; unfold nonAs; rw [List.filter_append, List.filter_cons, if_neg (by rw [hn]; decide)]; simp
        exact ⟨_, _, kvs, rfl, q1, by rw [en]; exact q2, q3⟩
    · rintro τ H3 ⟨v0, v1, k2, rfl, q1, q2, q3⟩
      rw [rt2.rv.len, List.take_length] at q2
      refine ⟨D, rfl, .inl ⟨k2, .inl q1, fun o2 => ?_⟩⟩
      refine ⟨x, C, dx, _, rfl, by rw [upd_ne nDx.symm]; exact q3 _ _ gx, cl, na "heads" (by simp), by simp [putF], ?_⟩
      have nd1 : d1 ≠ D := fun z => by rw [z, hD] at g1; cases g1
      have sx2 : Sx x H2 (upd (upd H3 D (.frz o2 (.dK k2))) x (.ins C dx (putF "heads" (.ref D) (putF "rows" (.ref d1) [])))) := ((q3.put hD : Same _ _) |> Same.sx).trans Sx.upd
      have g2 : upd (upd H3 D (.frz o2 (.dK k2))) x (.ins C dx (putF "heads" (.ref D) (putF "rows" (.ref d1) []))) D = some (.frz o2 (.dK k2)) := by rw [upd_ne nDx]; exact upd_same
      have gx2 : upd (upd H3 D (.frz o2 (.dK k2))) x (.ins C dx (putF "heads" (.ref D) (putF "rows" (.ref d1) []))) x = some (.ins C dx (putF "heads" (.ref D) (putF "rows" (.ref d1) []))) := upd_same
      have dv2 : DV RH (upd (upd H3 D (.frz o2 (.dK k2))) x (.ins C dx (putF "heads" (.ref D) (putF "rows" (.ref d1) [])))) k2 (nonAs rows) := q2.keep fun v r h => HV.tk (((Tk.refl).set q1 fun xs z => nomatch z).set (by rw [upd_ne nDx.symm]; exact q3 _ _ gx) fun xs z => by cases z) h
      generalize upd (upd H3 D (.frz o2 (.dK k2))) x (.ins C dx (putF "heads" (.ref D) (putF "rows" (.ref d1) []))) = H4 at sx2 g2 gx2 dv2 ⊢
      have g1' : H4 d1 = some (.frz o1 (.dK (rowsE rows))) := sx2 _ _ nx1 g1
      have sx3 := sx1.trans sx2
      have kf4 : Kn mg H4 "FROM" [.str "from"] := let ⟨o, e⟩ := kf; ⟨o, sx3.frz nf e⟩
      have kt4 : Kn mg H4 "TO" [.str "to"] := let ⟨o, e⟩ := kt; ⟨o, sx3.frz nf e⟩
      have k2l := dv2.len
      have nonOk : ∀ i (h : i < (nonAs rows).length), ((nonAs rows)[i]).2.ok ns := fun i h => (rt.ok _ (List.mem_filter.mp (List.getElem_mem h)).1).2
      have keyE : ∀ i (h : i < (nonAs rows).length), keyAt k2 i = .str (nonAs rows)[i].1 := fun i h => by
        unfold keyAt
        rw [List.getElem?_eq_getElem (by omega)]
        show kV k2[i].1 = _
        rw [(dv2.at_ i (by omega) h).1]; rfl
      have valE : ∀ i (h : i < (nonAs rows).length), HV H4 (valAt k2 i) (nonAs rows)[i].2 := fun i h => by
        unfold valAt
        rw [List.getElem?_eq_getElem (by omega)]
        exact (dv2.at_ i (by omega) h).2
      have notin : ∀ i (h : i < (nonAs rows).length), (nonAs rows)[i].1 ∉ ((nonAs rows).take i).map (·.1) := fun i h hm => by
        obtain ⟨r, hr, e⟩ := List.mem_map.mp hm
        obtain ⟨j, hj, rfl⟩ := List.getElem_of_mem hr
        have hj' : j < i := by simp at hj; omega
        rw [List.getElem_take] at e
        have := List.pairwise_iff_getElem.mp ndn j i (by simp; omega) (by simpa using h) hj'
        simp only [List.getElem_map] at this
        exact this e
      have takeE : ∀ i (h : i < (nonAs rows).length), (nonAs rows).take (i + 1) = (nonAs rows).take i ++ [(nonAs rows)[i]] := fun i h => by rw [List.take_add_one, List.getElem?_eq_getElem h]; rfl
      clear q1 q2 q3 hD rt2
      -- marks
      refine tSeq_fld ⟨x, C, dx, _, .ref D, rfl, gx2, cl, na "heads" (by simp), by rw [lookup_putF, if_pos rfl], D, k2, rfl, .inl ⟨o2, g2, fun D3 hD3 => ?_⟩⟩
      have nD3x : D3 ≠ x := fun z => by rw [z, gx2] at hD3; cases hD3
      refine dc_pair (itp_items k2) (fun i τ H5 => ∃ (v0 v1 : Option V) (kvs : List (Key × V)), τ = [v0, v1] ∧ H5 D3 = some (.dK kvs) ∧ DV RM H5 kvs ((nonAs rows).take i) ∧ Same H4 H5) ⟨none, none, [], rfl, upd_same, DV.nil, Same.upd hD3 _⟩ (by rintro i τ H5 _ ⟨_, _, _, _, _, _, s⟩; exact s _ _ g2) ?_ ?_
      · rintro i τ H5 T5 hi ⟨v0, v1, kvs, rfl, q1, q2, q3⟩ hT
        have hin : i < (nonAs rows).length := by omega
        rw [keyE i hin]
        have hv := valE i hin
        generalize valAt k2 i = v at hv
        have t1 := Same.upd hT (.tup [.str (nonAs rows)[i].1, v])
        generalize upd H5 T5 (.tup [.str (nonAs rows)[i].1, v]) = H6 at t1
        have hv6 := hv.same (q3.trans t1)
        obtain ⟨c, ys, rfl, hc⟩ := hv6.srt
        refine ⟨_, .str (nonAs rows)[i].2.srt, .inr (SqT.of hc), atI_zero _ _, .ref c, (nonAs rows)[i].2, ns, rfl, hv6, nonOk i hin, kf4.same (q3.trans t1), kt4.same (q3.trans t1), fun L us H7 hL eL sv s7 => ?_⟩
        refine ⟨L, us, rfl, .inl ⟨SqL.of eL, fun l hl => ⟨(show 2 ≤ sizeLine by decide), fun t ht => ?_⟩⟩⟩
        have s8 := (s7.trans (Same.upd hl (.tup us))).trans (Same.upd ht (.tup [.str (nonAs rows)[i].2.srt, .ref l]))
        have el : upd (upd H7 l (.tup us)) t (.tup [.str (nonAs rows)[i].2.srt, .ref l]) l = some (.tup us) := Same.upd ht _ _ _ upd_same
        have et : upd (upd H7 l (.tup us)) t (.tup [.str (nonAs rows)[i].2.srt, .ref l]) t = some (.tup [.str (nonAs rows)[i].2.srt, .ref l]) := upd_same
        have sv8 : SV (upd (upd H7 l (.tup us)) t (.tup [.str (nonAs rows)[i].2.srt, .ref l])) us ((nonAs rows)[i].2.mvs.map (·.1)) := sv.keep fun b ys r => r.same ((Same.upd hl _).trans (Same.upd ht _))
        dsimp only
        generalize upd (upd H7 l (.tup us)) t (.tup [.str (nonAs rows)[i].2.srt, .ref l]) = H8 at s8 el et sv8
        have g3 := (t1.trans s8) _ _ q1
        have kl : kvs.length < sizeLine := by have h1 := q2.len; simp at h1; omega
        have kp : Tk H8 (upd H8 D3 (.dK (kvs ++ [(.inr (nonAs rows)[i].1, .ref t)]))) := (Tk.refl).set g3 fun xs z => nomatch z
        refine ⟨kvs, .inr (nonAs rows)[i].1, rfl, g3, kl, _, _, kvs ++ [(.inr (nonAs rows)[i].1, .ref t)], rfl, ?_, ?_, ((q3.trans t1).trans s8).put hD3⟩
        · rw [q2.put (notin i hin)]; exact upd_same
        · rw [takeE i hin, q2.put (notin i hin)]
          have kr : ∀ b ys, RdT H8 b ys → RdT (upd H8 D3 (.dK (kvs ++ [(.inr (nonAs rows)[i].1, .ref t)]))) b ys := fun b ys r => r.put g3 (fun _ z => nomatch z) fun _ _ z => nomatch z
          refine ((q2.keep fun v r ⟨b, c, us, e1, e2, e3, e4⟩ => ⟨b, c, us, e1, (t1.trans s8) _ _ e2, (t1.trans s8) _ _ e3, e4.keep fun b ys r => r.same (t1.trans s8)⟩ : DV RM H8 kvs _).snoc (show RM H8 (.ref t) (nonAs rows)[i] from ⟨t, l, us, rfl, et, el, sv8⟩)).keep fun v r ⟨b, c, us, e1, e2, e3, e4⟩ => ⟨b, c, us, e1, kp _ _ e2, kp _ _ e3, e4.keep kr⟩
      · rintro τ H5 ⟨v0, v1, k3, rfl, q1, q2, q3⟩
        rw [k2l, List.take_length] at q2
        refine ⟨D3, rfl, .inl ⟨k3, .inl q1, fun o3 => ?_⟩⟩
        refine ⟨x, C, dx, _, rfl, by rw [upd_ne nD3x.symm]; exact q3 _ _ gx2, cl, na "marks" (by simp), lenF 2, ?_⟩
        have nd3 : d1 ≠ D3 := fun z => by rw [z, hD3] at g1'; cases g1'
        have nD2 : D ≠ D3 := fun z => by rw [z, hD3] at g2; cases g2
        generalize hF3 : putF "marks" (.ref D3) (putF "heads" (.ref D) (putF "rows" (.ref d1) [])) = fs3
        have lk : ∀ y : Str, fs3.lookup y = if y = "marks" then some (.ref D3) else if y = "heads" then some (.ref D) else if y = "rows" then some (.ref d1) else none := fun y => by rw [← hF3, lookup_putF, lookup_putF, lookup_putF]; rfl
        have fl : fs3.length ≤ 3 := by rw [← hF3]; have h1 := length_putF "marks" (.ref D3) (putF "heads" (.ref D) (putF "rows" (.ref d1) [])); have h2 := length_putF "heads" (.ref D) (putF "rows" (.ref d1) []); have h3 := length_putF "rows" (.ref d1) []; simp at h3; omega
        have sx4 : Sx x H4 (upd (upd H5 D3 (.frz o3 (.dK k3))) x (.ins C dx fs3)) := ((q3.put hD3 : Same _ _) |> Same.sx).trans Sx.upd
        have g3 : upd (upd H5 D3 (.frz o3 (.dK k3))) x (.ins C dx fs3) D3 = some (.frz o3 (.dK k3)) := by rw [upd_ne nD3x]; exact upd_same
        have gx3 : upd (upd H5 D3 (.frz o3 (.dK k3))) x (.ins C dx fs3) x = some (.ins C dx fs3) := upd_same
        have kt5 : Tk H5 (upd (upd H5 D3 (.frz o3 (.dK k3))) x (.ins C dx fs3)) := ((Tk.refl).set q1 fun xs z => nomatch z).set (by rw [upd_ne nD3x.symm]; exact q3 _ _ gx2) fun xs z => by cases z
        have kr5 : ∀ b ys, RdT H5 b ys → RdT (upd (upd H5 D3 (.frz o3 (.dK k3))) x (.ins C dx fs3)) b ys := fun b ys r => (r.put q1 (fun _ z => nomatch z) fun _ _ z => nomatch z).put (by rw [upd_ne nD3x.symm]; exact q3 _ _ gx2) (fun _ z => by cases z) fun _ _ z => by cases z
        have dv3 : DV RM (upd (upd H5 D3 (.frz o3 (.dK k3))) x (.ins C dx fs3)) k3 (nonAs rows) := q2.keep fun v r ⟨b, c, us, e1, e2, e3, e4⟩ => ⟨b, c, us, e1, kt5 _ _ e2, kt5 _ _ e3, e4.keep kr5⟩
        have dv2' : DV RH (upd (upd H5 D3 (.frz o3 (.dK k3))) x (.ins C dx fs3)) k2 (nonAs rows) := dv2.keep fun v r h => HV.tk ((q3.ts).trans kt5) h
        generalize upd (upd H5 D3 (.frz o3 (.dK k3))) x (.ins C dx fs3) = H6 at sx4 g3 gx3 dv3 dv2' ⊢
        have g16 : H6 d1 = some (.frz o1 (.dK (rowsE rows))) := sx4 _ _ nx1 g1'
        have g26 : H6 D = some (.frz o2 (.dK k2)) := sx4 _ _ nDx g2
        have kf6 : Kn mg H6 "FROM" [.str "from"] := let ⟨o, e⟩ := kf4; ⟨o, sx4.frz (fun q u z => by rw [gx2] at z; cases z) e⟩
        have kt6 : Kn mg H6 "TO" [.str "to"] := let ⟨o, e⟩ := kt4; ⟨o, sx4.frz (fun q u z => by rw [gx2] at z; cases z) e⟩
        have valE6 : ∀ i (h : i < (nonAs rows).length), HV H6 (valAt k2 i) (nonAs rows)[i].2 := fun i h => by
          unfold valAt
          rw [List.getElem?_eq_getElem (by omega)]
          exact (dv2'.at_ i (by omega) h).2
        have sx5 := sx3.trans sx4
        have hinn : ∀ z ∈ ns, z ∈ rows.map (·.1) := fun z hz => rt.nm.mem_iff.mpr hz
        clear q1 q2 q3 kt5 kr5 dv2 sx4
        -- moves
        refine tLast_fld ⟨x, C, dx, fs3, .ref D, rfl, gx3, cl, na "heads" (by simp), by rw [lk, if_neg (by decide +kernel), if_pos rfl], D, k2, rfl, .inl ⟨o2, g26, fun D4 hD4 => ?_⟩⟩
        have nD4x : D4 ≠ x := fun z => by rw [z, gx3] at hD4; cases hD4
        refine dc_pair (itp_items k2) (fun i τ H7 => ∃ (v0 v1 : Option V) (kvs : List (Key × V)), τ = [v0, v1, some (.ref x)] ∧ H7 D4 = some (.dK kvs) ∧ DV (RO rows) H7 kvs ((nonAs rows).take i) ∧ Same H6 H7) ⟨none, none, [], rfl, upd_same, DV.nil, Same.upd hD4 _⟩ (by rintro i τ H5 _ ⟨_, _, _, _, _, _, s⟩; exact s _ _ g26) ?_ ?_
        · rintro i τ H7 T7 hi ⟨v0, v1, kvs, rfl, q1, q2, q3⟩ hT
          have hin : i < (nonAs rows).length := by omega
          rw [keyE i hin]
          have hv := valE6 i hin
          generalize valAt k2 i = v at hv
          have t1 := Same.upd hT (.tup [.str (nonAs rows)[i].1, v])
          generalize upd H7 T7 (.tup [.str (nonAs rows)[i].1, v]) = H8 at t1
          have q4 := q3.trans t1
          refine ⟨x, C, dx, fs3, .ref d1, rfl, q4 _ _ gx3, cl, na "rows" (by simp), by rw [lk, if_neg (by decide +kernel), if_neg (by decide +kernel), if_pos rfl], ?_⟩
          refine ⟨v, (nonAs rows)[i].2, ns, rows, d1, rfl, hv.same q4, nonOk i hin, kf6.same q4, kt6.same q4, .inr ⟨o1, q4 _ _ g16⟩, hinn, ndr, fun m H9 hm em s9 => ⟨m, rfl, .inr ⟨_, .inl em, fun o => ?_⟩⟩⟩
          have nmD : D4 ≠ m := fun z => by
            have := t1 _ _ q1
            rw [z, hm] at this; cases this
          have s10 : Same H8 (upd H9 m (.frz o (.dT (movesE rows (nonAs rows)[i].2)))) := s9.put hm
          have em10 : upd H9 m (.frz o (.dT (movesE rows (nonAs rows)[i].2))) m = some (.frz o (.dT (movesE rows (nonAs rows)[i].2))) := upd_same
          generalize upd H9 m (.frz o (.dT (movesE rows (nonAs rows)[i].2))) = H10 at s10 em10
          have g10 := (t1.trans s10) _ _ q1
          have kl : kvs.length < sizeLine := by have h1 := q2.len; simp at h1; omega
          refine ⟨kvs, .inr (nonAs rows)[i].1, rfl, g10, kl, _, _, kvs ++ [(.inr (nonAs rows)[i].1, .ref m)], rfl, ?_, ?_, (q4.trans s10).put hD4⟩
          · rw [q2.put (notin i hin)]; exact upd_same
          · rw [takeE i hin, q2.put (notin i hin)]
            refine ((q2.keep fun v r ⟨m', o', e1, e2⟩ => ⟨m', o', e1, (t1.trans s10) _ _ e2⟩ : DV (RO rows) H10 kvs _).snoc (show RO rows H10 (.ref m) (nonAs rows)[i] from ⟨m, o, rfl, em10⟩)).keep fun v r ⟨m', o', e1, e2⟩ => ⟨m', o', e1, ?_⟩
            rw [upd_ne (fun z => by rw [z, g10] at e2; cases e2)]
            exact e2
        · rintro τ H7 ⟨v0, v1, k4, rfl, q1, q2, q3⟩
          rw [k2l, List.take_length] at q2
          refine ⟨D4, rfl, .inl ⟨k4, .inl q1, fun o4 => ?_⟩⟩
          refine ⟨x, C, dx, fs3, rfl, by rw [upd_ne nD4x.symm]; exact q3 _ _ gx3, cl, na "moves" (by simp), by omega, ?_⟩
          have nd41 : d1 ≠ D4 := fun z => by rw [z, hD4] at g16; cases g16
          have nd42 : D ≠ D4 := fun z => by rw [z, hD4] at g26; cases g26
          have nd43 : D3 ≠ D4 := fun z => by rw [z, hD4] at g3; cases g3
          have s7 : Sx x H6 (upd (upd H7 D4 (.frz o4 (.dK k4))) x (.ins C dx (putF "moves" (.ref D4) fs3))) := ((q3.put hD4 : Same _ _) |> Same.sx).trans Sx.upd
          have kt7 : Tk H7 (upd (upd H7 D4 (.frz o4 (.dK k4))) x (.ins C dx (putF "moves" (.ref D4) fs3))) := ((Tk.refl).set q1 fun xs z => nomatch z).set (by rw [upd_ne nD4x.symm]; exact q3 _ _ gx3) fun xs z => by cases z
          have kr7 : ∀ b ys, RdT H7 b ys → RdT (upd (upd H7 D4 (.frz o4 (.dK k4))) x (.ins C dx (putF "moves" (.ref D4) fs3))) b ys := fun b ys r => (r.put q1 (fun _ z => nomatch z) fun _ _ z => nomatch z).put (by rw [upd_ne nD4x.symm]; exact q3 _ _ gx3) (fun _ z => by cases z) fun _ _ z => by cases z
          have kz7 : ∀ b q u, H7 b = some (.frz q u) → upd (upd H7 D4 (.frz o4 (.dK k4))) x (.ins C dx (putF "moves" (.ref D4) fs3)) b = some (.frz q u) := fun b q u e => by
            rw [upd_ne (fun z => by rw [z, q3 _ _ gx3] at e; cases e), upd_ne (fun z => by rw [z, q1] at e; cases e)]
            exact e
          have l4 : ∀ y : Str, (putF "moves" (.ref D4) fs3).lookup y = if y = "moves" then some (.ref D4) else fs3.lookup y := fun y => lookup_putF _ _ _ _
          refine k _ ⟨dx, putF "moves" (.ref D4) fs3, upd_same, ⟨⟨d1, o1, ?_, s7 _ _ nx1 g16⟩, ⟨D, o2, k2, ?_, s7 _ _ nDx g26, dv2'.keep fun v r h => HV.tk (q3.ts.trans kt7) h⟩, ⟨D3, o3, k3, ?_, s7 _ _ nD3x g3, dv3.keep fun v r ⟨b, c, us, e1, e2, e3, e4⟩ => ⟨b, c, us, e1, kt7 _ _ (q3 _ _ e2), kt7 _ _ (q3 _ _ e3), e4.keep fun b ys r => kr7 _ _ (r.same q3)⟩⟩, ⟨D4, o4, k4, ?_, ?_, q2.keep fun v r ⟨m, o, e1, e2⟩ => ⟨m, o, e1, kz7 _ _ _ e2⟩⟩⟩⟩ (sx5.trans s7)
          · rw [l4, if_neg (by decide +kernel), lk, if_neg (by decide +kernel), if_neg (by decide +kernel), if_pos rfl]
          · rw [l4, if_neg (by decide +kernel), lk, if_neg (by decide +kernel), if_pos rfl]
          · rw [l4, if_neg (by decide +kernel), lk, if_pos rfl]
          · rw [l4, if_pos rfl]
          · rw [upd_ne nD4x]; exact upd_same
theorem take_snoc {α : Type} (l : List α) (i : Nat) (h : i < l.length) : l.take (i + 1) = l.take i ++ [l[i]] := by rw [List.take_add_one, List.getElem?_eq_getElem h]; rfl
def spReached (mg : Str → Option Value) : Sp := fun vs H Q _ => ∃ (n a : Addr) (xs : List V) (rows : List Rw2) (ns ws : List Str) (f : Str), vs = [.ref n, .str f] ∧ NetAt H (adr mg "Net") n rows ∧ RT H a xs rows ns ws ∧ (∀ z ∈ ws, Wd z) ∧ EndN rows ns f ∧
  ∀ (D : Addr) (kvs : List (Key × V)) (i : Nat) (cb : CBL) (H' : Hp), H D = none → Same H H' → H' D = some (.dK kvs) → CBr H' kvs cb → BI rows ns i cb → cb.length = i → cb = bfsN rows f i → f ∈ cb.map (·.1) → Q (.ref D) H'
set_option maxHeartbeats 2000000 in
theorem ok_reached (T : Txt K mg w) : FnK P w K mg base 2 "reached" ["net", "first"] (spReached mg) := by
  have cl := T.k_Net.2.1
  have na := T.k_Net.2.2.1
  refine T.t_reached.okS sc_reached (fun vs H Q E h => ?_) (fun f cdv A outer s H vs Q E hr h => ?_)
  · obtain ⟨n, a, xs, rows, ns, ws, f, rfl, _⟩ := h
    rfl
  · obtain ⟨n, a, xs, rows, ns, ws, fst, rfl, net, rt, hw, hf, k⟩ := h
    have hu := hu_of hr
    have hu0 := Nat.lt_of_succ_lt (hu_of hr)
    have hsz : sizeLine = 16777216 := sizeLine_eq
    have few := rt.few
    obtain ⟨dx, fs, en, ⟨_, _, _, ⟨d4, o4, k4, e1, e2, e3⟩⟩⟩ := net
    generalize adr mg "Net" = C at *
    have look : ∀ e, EndN rows ns e → ∃ m o, DGet H d4 (.str e) (some (.ref m)) ∧ H m = some (.frz o (.dT (onE rows e))) := fun e he => by
      obtain ⟨v, h1, m, o, rfl, h2⟩ := e3.get rt.ndn (rt.endRow hw he).1
      refine ⟨m, o, by rw [← h1]; exact DGet.rd (k := Sum.inr e) (.inr ⟨o4, e2⟩), ?_⟩
      rw [movesE_on he.2] at h2
      exact h2
    refine ⟨_, (sb_cons (s_set (i := 2) sc_reached.nd rfl (Or.inl rfl) (z_disp (zz_cons (zv 1) z_non zz_nil) rfl rfl (by simp) (by decide)))
      (sb_cons (s_set (i := 3) sc_reached.nd rfl (Or.inl rfl) (z_lst (sa_Name (zv 1) sa_nil)))
      (sb_cons (s_set (i := 4) sc_reached.nd rfl (Or.inl rfl) z_int)
      (sb_cons (s_while PassesOwn.never (y_cmpR op_ltD (zv 4) (z_callB (call_lenK K) (by rfl) T.n_len PySem.boot_len (sa_Name (zv 3) sa_nil)) (nomark _)) (sb_cons (s_set (i := 5) sc_reached.nd rfl (Or.inl rfl) (z_ix (ix_K K) (zv 3) (zv 4) (fun _ _ => rfl)))
      (sb_cons (s_for PassesOwn.never rfl (pi_itemsT (z_dget hu (z_fld K (zv 0)) (zv 5) (fun _ _ => rfl))) (g_tup K (n := 2) rfl (gs_cons (g_name (i := 6) sc_reached.nd rfl (Or.inl rfl)) (gs_cons (g_name (i := 7) sc_reached.nd rfl (Or.inl rfl)) gs_nil))) (sb_one (s_if (y_cmpR (op_dNotIn hu) (zv 7) (zv 2) rfl) (sb_cons (s_dput hu (zv 2) (zv 7) (z_tup (sa_Name (zv 5) (sa_Name (zv 6) sa_nil))) rfl)
      (sb_one (s_expr (z_bm K PySem.F.plainAttrs_list PySem.F.slot_list_append PySem.F.type_list_append mt_append (zv 3) (sa_Name (zv 7) sa_nil))))) sb_nil)))
      (sb_one (s_aug (i := 4) sc_reached.nd rfl (Or.inl rfl) z_int ip_add)))))
      (sb_one (s_ret (zv 2))))))), ?_⟩
    refine tSeq_set fun D hD => ?_
    have s1 := Same.upd hD (.dK [])
    refine ⟨upd_same, [(.inr fst, .non)], rfl, (show 1 ≤ 15 by decide), ?_⟩
    have z1 : upd (upd H D (.dK [])) D (.dK (mergeK [] [(.inr fst, .non)])) D = some (.dK [(.inr fst, .non)]) := upd_same
    have s2 : Same H (upd (upd H D (.dK [])) D (.dK (mergeK [] [(.inr fst, .non)]))) := s1.put hD
    generalize upd (upd H D (.dK [])) D (.dK (mergeK [] [(.inr fst, .non)])) = H2 at z1 s2 ⊢
    refine tSeq_set ⟨(show 1 ≤ sizeLine by decide), fun W hW => ?_⟩
    have t2 := Same.upd hW (.lst [.str fst])
    have z2 : upd H2 W (.lst [.str fst]) W = some (.lst [.str fst]) := upd_same
    have nWD : W ≠ D := fun z => by rw [z, z1] at hW; cases hW
    have z1' := t2 _ _ z1
    have hW0 : H W = none := s2.free hW
    generalize upd H2 W (.lst [.str fst]) = H3 at t2 z2 z1' ⊢
    have s3 := s2.trans t2
    refine tSeq_setC ?_
    have b0 : BI rows ns 0 [(fst, none)] := ⟨by simp, fun c hc => by rw [List.mem_singleton.mp hc]; exact hf, fun j c hj => absurd hj (by omega)⟩
    refine tSeq_by (fun σ' H' => ∃ (v5 v6 v7 : Option V) (i : Nat) (kvs : List (Key × V)) (cb : CBL), σ' = [some (.ref n), some (.str fst), some (.ref D), some (.ref W), some (.int (i : Int)), v5, v6, v7] ∧ H' D = some (.dK kvs) ∧ CBr H' kvs cb ∧ BI rows ns i cb ∧ cb.length = i ∧ cb = bfsN rows fst i ∧ fst ∈ cb.map (·.1) ∧ Same H H') ?_ ?_
    · intro nx hnx
      refine ⟨fun mm σ' H' => ∃ (v5 v6 v7 : Option V) (i : Nat) (kvs : List (Key × V)) (cb : CBL), σ' = [some (.ref n), some (.str fst), some (.ref D), some (.ref W), some (.int (i : Int)), v5, v6, v7] ∧ H' D = some (.dK kvs) ∧ H' W = some (.lst (cb.map fun c => .str c.1)) ∧ CBr H' kvs cb ∧ BI rows ns i cb ∧ i ≤ cb.length ∧ cb = bfsN rows fst i ∧ fst ∈ cb.map (·.1) ∧ Same H H' ∧ mm = 20 - i,
        ⟨20, none, none, none, 0, _, [(fst, none)], rfl, z1', z2, .cons ⟨rfl, rfl⟩ .nil, b0, by simp, rfl, by simp, s3, rfl⟩, ?_⟩
      rintro mm σ' H4 ⟨v5, v6, v7, i, kvs, cb, rfl, q1, q2, q3, q4, q5, q6, q7, q8, rfl⟩
      refine .inl ⟨_, .inl (SqL.of q2), _, rfl, iteB (fun c => ?_) (fun c => ?_)⟩
      · have hi : i < cb.length := by have := of_decide_eq_true c; simp at this; omega
        have cbl := q4.few
        refine ⟨fun σ' H' => ∃ (v5 v6 v7 : Option V) (kvs : List (Key × V)) (cb : CBL), σ' = [some (.ref n), some (.str fst), some (.ref D), some (.ref W), some (.int ((i + 1 : Nat) : Int)), v5, v6, v7] ∧ H' D = some (.dK kvs) ∧ H' W = some (.lst (cb.map fun c => .str c.1)) ∧ CBr H' kvs cb ∧ BI rows ns (i + 1) cb ∧ i + 1 ≤ cb.length ∧ cb = bfsN rows fst (i + 1) ∧ fst ∈ cb.map (·.1) ∧ Same H H', ?_, ?_⟩
        · rintro σ' H' ⟨v5, v6, v7, kvs, cb, rfl, p1, p2, p3, p4, p5, p6, p7, p8⟩
          exact ⟨20 - (i + 1), by omega, v5, v6, v7, i + 1, kvs, cb, rfl, p1, p2, p3, p4, p5, p6, p7, p8, rfl⟩
        have hc0 : cb[i]? = some cb[i] := List.getElem?_eq_getElem hi
        have hend := q4.en _ (List.getElem_mem hi)
        have hb1 : bfsN rows fst (i + 1) = addOn cb[i].1 cb (onOf rows cb[i].1) := by
          show (match (bfsN rows fst i)[i]? with | none => bfsN rows fst i | some c => addOn c.1 (bfsN rows fst i) (onOf rows c.1)) = _
          rw [← q6, hc0]
        have hat : (cb.map fun c => V.str c.1)[i]? = some (.str cb[i].1) := by rw [List.getElem?_map, hc0]; rfl
        generalize cb[i] = c0 at hc0 hend hb1 hat
        refine tSeq_set ⟨_, .str c0.1, .inl (SqL.of q2), atI_nat hat, ?_⟩
        obtain ⟨m, om, l1, l2⟩ := look _ hend
        have oe : (onE rows c0.1).length = (onOf rows c0.1).length := by simp [onE]
        refine tSeq_by (fun σ' H' => ∃ (v6 v7 : Option V) (kvs : List (Key × V)) (cb' : CBL), σ' = [some (.ref n), some (.str fst), some (.ref D), some (.ref W), some (.int (i : Int)), some (.str c0.1), v6, v7] ∧ H' D = some (.dK kvs) ∧ H' W = some (.lst (cb'.map fun c => .str c.1)) ∧ CBr H' kvs cb' ∧ BI rows ns (i + 1) cb' ∧ i < cb'.length ∧ cb' = addOn c0.1 cb (onOf rows c0.1) ∧ fst ∈ cb'.map (·.1) ∧ Same H H') ?_ ?_
        · intro nx1 hnx1
          refine ⟨n, C, dx, fs, .ref d4, rfl, q8 _ _ en, cl, na "moves" (by simp), e1, d4, .ref m, rfl, l1.same q8, m, onE rows c0.1, om, rfl, q8 _ _ l2, ?_⟩
          refine for_itemsT (fun j σ' H' => ∃ (v6 v7 : Option V) (kvs : List (Key × V)) (cb' : CBL), σ' = [some (.ref n), some (.str fst), some (.ref D), some (.ref W), some (.int (i : Int)), some (.str c0.1), v6, v7] ∧ H' D = some (.dK kvs) ∧ H' W = some (.lst (cb'.map fun c => .str c.1)) ∧ CBr H' kvs cb' ∧ BI rows ns i cb' ∧ i < cb'.length ∧ cb' = addOn c0.1 cb ((onOf rows c0.1).take j) ∧ cb'[i]? = some c0 ∧ (∀ m ∈ (onOf rows c0.1).take j, m.2 ∈ cb'.map (·.1)) ∧ fst ∈ cb'.map (·.1) ∧ Same H H')
            ⟨v6, v7, kvs, cb, rfl, q1, q2, q3, q4, hi, rfl, hc0, fun m hm => absurd hm (by simp), q7, q8⟩ (by rintro j σ' H' _ ⟨_, _, _, _, _, _, _, _, _, _, _, _, _, _, s⟩; exact s _ _ l2) ?_ ?_
          · rintro j σ' H5 TT cc hj ⟨w6, w7, kvs', cb', rfl, p1, p2, p3, p4, p5, p6, p7, p8, p9, p10⟩ hTT rd
            have hjo : j < (onOf rows c0.1).length := by omega
            have eo : (onE rows c0.1)[j] = ((onOf rows c0.1)[j].1.map Sum.inr, .str (onOf rows c0.1)[j].2) := by simp [onE]
            rw [eo] at rd ⊢
            rw [kstr] at rd
            have tks := take_snoc _ j hjo
            obtain ⟨_, he⟩ := rt.mvMem hw hend (List.getElem_mem hjo)
            rw [tks]
            generalize (onOf rows c0.1)[j] = mm at rd he tks ⊢
            have s10 := Same.upd hTT (.tup [.ref cc, .str mm.2])
            dsimp only
            generalize upd H5 TT (.tup [.ref cc, .str mm.2]) = H6 at s10
            have p1' := s10 _ _ p1
            have p2' := s10 _ _ p2
            have p3' := p3.same s10
            have cbl' := p4.few
            have kl : kvs'.length = cb'.length := Paired.length p3
            refine ⟨D, valV kvs' (.inr mm.2), rfl, DGet.k (k := Sum.inr mm.2) p1', _, rfl, iteB (fun c => ?_) (fun c => ?_)⟩
            · have hno : mm.2 ∉ cb'.map (·.1) := by
                have h1 := p3.in_ mm.2
                intro z
                rw [h1, decide_eq_true z] at c
                simp at c
              have hnone : valV kvs' (.inr mm.2) = none := by
                have h1 := p3.in_ mm.2
                rw [decide_eq_false hno] at h1
                cases hv : valV kvs' (.inr mm.2) with
                | none => rfl
                | some v => rw [hv] at h1; cases h1
              refine tSeq_by (fun σ' H' => ∃ T8 H7, σ' = [some (.ref n), some (.str fst), some (.ref D), some (.ref W), some (.int (i : Int)), some (.str c0.1), some (.ref cc), some (.str mm.2)] ∧ Same H6 H7 ∧ H7 T8 = some (.tup [.str c0.1, .ref cc]) ∧ H' = upd H7 D (.dK (kvs' ++ [(.inr mm.2, .ref T8)]))) ?_ ?_
              · intro nx2 hnx2
                refine ⟨(show 2 ≤ sizeLine by decide), fun T8 hT8 => ⟨D, _, rfl, DPut.k (k := Sum.inr mm.2) (Same.upd hT8 _ _ _ p1') (by omega), hnx2 _ _ ⟨T8, _, rfl, Same.upd hT8 _, upd_same, by rw [L2.putK_new _ hnone]⟩⟩⟩
              · rintro σ' H8 ⟨T8, H7, rfl, s7, e7, rfl⟩
                have d7 := s7 _ _ p1'
                have w7' := s7 _ _ p2'
                have tk : Tk H7 (upd H7 D (.dK (kvs' ++ [(.inr mm.2, .ref T8)]))) := (Tk.refl).set d7 fun _ z => nomatch z
                have rdk : ∀ b' ys, RdT H7 b' ys → RdT (upd H7 D (.dK (kvs' ++ [(.inr mm.2, .ref T8)]))) b' ys := fun b' ys h => h.put d7 (fun _ z => nomatch z) (fun _ _ z => nomatch z)
                have r8 : CBr (upd H7 D (.dK (kvs' ++ [(.inr mm.2, .ref T8)]))) (kvs' ++ [(.inr mm.2, .ref T8)]) (cb' ++ [(mm.2, some (c0.1, mm.1))]) := ((p3'.same s7).keep tk rdk).snoc (show CBV _ _ (some (c0.1, mm.1)) from ⟨T8, cc, rfl, tk _ _ e7, rdk _ _ (rd.same (s10.trans s7))⟩)
                have w8 : upd H7 D (.dK (kvs' ++ [(.inr mm.2, .ref T8)])) W = some (.lst (cb'.map fun c => .str c.1)) := by rw [upd_ne nWD]; exact w7'
                have d8 : upd H7 D (.dK (kvs' ++ [(.inr mm.2, .ref T8)])) D = some (.dK (kvs' ++ [(.inr mm.2, .ref T8)])) := upd_same
                have sH8 : Same H (upd H7 D (.dK (kvs' ++ [(.inr mm.2, .ref T8)]))) := ((p10.trans s10).trans s7).put hD
                generalize upd H7 D (.dK (kvs' ++ [(.inr mm.2, .ref T8)])) = H8 at tk rdk r8 w8 d8 sH8 ⊢
                have tk9 : Tk H8 (upd H8 W (.lst ((cb'.map fun c => V.str c.1) ++ [.str mm.2]))) := (Tk.refl).set w8 fun _ z => nomatch z
                have rdk9 : ∀ b' ys, RdT H8 b' ys → RdT (upd H8 W (.lst ((cb'.map fun c => V.str c.1) ++ [.str mm.2]))) b' ys := fun b' ys h => h.put w8 (fun _ z => nomatch z) (fun _ _ z => nomatch z)
                refine ⟨.inl ⟨rfl, _, SqL.of w8⟩, W, _, .str mm.2, rfl, rfl, w8, by simp; omega, _, _, _, cb' ++ [(mm.2, some (c0.1, mm.1))], rfl, by rw [upd_ne nWD.symm]; exact d8, ?_, r8.keep tk9 rdk9, p4.snoc (by omega) he hno, by simp; omega, ?_, ?_, ?_, ?_, sH8.put hW0⟩
                · rw [List.map_append]; exact upd_same
                · rw [addOn_snoc, ← p6, if_neg hno]
                · rw [List.getElem?_append_left p5]; exact p7
                · intro m' hm'
                  rw [List.map_append]
                  rcases List.mem_append.mp hm' with h | h
                  · exact List.mem_append.mpr (.inl (p8 m' h))
                  · rw [List.mem_singleton.mp h]; exact List.mem_append.mpr (.inr (by simp))
                · rw [List.map_append]; exact List.mem_append.mpr (.inl p9)
            · have hin : mm.2 ∈ cb'.map (·.1) := by
                have h1 := p3.in_ mm.2
                by_cases z : mm.2 ∈ cb'.map (·.1)
                · exact z
                · rw [h1, decide_eq_false z] at c
                  simp at c
              refine ⟨_, _, kvs', cb', rfl, p1', p2', p3', p4, p5, ?_, p7, ?_, p9, p10.trans s10⟩
              · rw [addOn_snoc, ← p6, if_pos hin]
              · intro m' hm'
                rcases List.mem_append.mp hm' with h | h
                · exact p8 m' h
                · rw [List.mem_singleton.mp h]; exact hin
          · rintro σ' H5 ⟨w6, w7, kvs', cb', rfl, p1, p2, p3, p4, p5, p6, p7, p8, p9, p10⟩
            rw [oe, List.take_length] at p6 p8
            refine hnx1 _ _ ⟨w6, w7, kvs', cb', rfl, p1, p2, p3, ⟨p4.nd, p4.en, fun j c hj hc => ?_⟩, p5, p6, p9, p10⟩
            by_cases hji : j = i
            · subst hji
              rw [p7] at hc
              cases hc
              exact p8
            · exact p4.cl j c (by omega) hc
        · rintro σ' H5 ⟨w6, w7, kvs', cb', rfl, p1, p2, p3, p4, p5, p6, p9, p10⟩
          exact ⟨.int (i : Int), rfl, (i : Int), 1, rfl, rfl, _, _, _, kvs', cb', rfl, p1, p2, p3, p4, p5, by rw [hb1]; exact p6, p9, p10⟩
      · have hi : cb.length = i := by have := of_decide_eq_false c; simp at this; omega
        exact hnx _ _ ⟨v5, v6, v7, i, kvs, cb, rfl, q1, q3, q4, hi, q6, q7, q8⟩
    · rintro σ' H4 ⟨v5, v6, v7, i, kvs, cb, rfl, q1, q3, q4, q5, q6, q7, q8⟩
      exact k D kvs i cb H4 hD q8 q1 q3 q4 q5 q6 q7
def spRowsMet (mg : Str → Option Value) : Sp := fun vs H Q _ => ∃ (a : Addr) (xs : List V) (rows : List Rw2) (ns ws : List Str) (x : Str), vs = [.ref a, .str x] ∧ RT H a xs rows ns ws ∧ (∀ z ∈ ws, Wd z) ∧ x ∈ ns ∧ Kn mg H "FROM" [.str "from"] ∧ Kn mg H "TO" [.str "to"] ∧
  ∀ (L : Addr) (us : List V) (i : Nat) (H' : Hp), H L = none → Same H H' → H' L = some (.lst us) → (bfsN rows (endOf rows x) i).length = i → ML H' us (lrN (bfsN rows (endOf rows x) i)) → Q (.ref L) H'
set_option maxHeartbeats 2000000 in
theorem ok_rows_met (T : Txt K mg w) : FnK P w K mg base 6 "rows_met" ["T", "x"] (spRowsMet mg) := by
  have F_Net : ClK P w K mg base 4 "Net" (adr mg "Net") ["self", "T"] (spNet mg) := ok_Net T
  have F_reached : FnK P w K mg base 2 "reached" ["net", "first"] (spReached mg) := ok_reached T
  have cl := T.k_Net.2.1
  have na := T.k_Net.2.2.1
  refine T.t_rows_met.okS sc_rows_met (fun vs H Q E h => ?_) (fun f cdv A outer s H vs Q E hr h => ?_)
  · obtain ⟨a, xs, rows, ns, ws, x, rfl, _⟩ := h
    rfl
  · obtain ⟨a, xs, rows, ns, ws, x, rfl, rt, hw, hx, kf, kt, k⟩ := h
    have hu := hu_of hr
    have hu0 := Nat.lt_of_succ_lt (hu_of hr)
    have hsz : sizeLine = 16777216 := sizeLine_eq
    have few := rt.few
    refine ⟨_, (sb_cons (s_set (i := 2) sc_rows_met.nd rfl (Or.inl rfl) (z_make F_Net (hr.mono (by decide)) (sa_Name (zv 0) sa_nil)))
      (sb_cons (s_set (i := 3) sc_rows_met.nd rfl (Or.inl rfl) z_dnew)
      (sb_cons (s_for PassesOwn.never rfl (pi_items (z_fn F_reached (hr.mono (by decide)) (sa_Name (zv 2) (sa_Subscript (z_dget hu (z_fld K (zv 2)) (zv 1) (fun _ _ => rfl)) sa_nil)))) (g_tup K (n := 2) rfl (gs_cons (g_name (i := 4) sc_rows_met.nd rfl (Or.inl rfl)) (gs_cons (g_name (i := 5) sc_rows_met.nd rfl (Or.inl rfl)) gs_nil))) (sb_one (s_if (y_cmpR op_isB (zv 5) z_non (nomark _)) (sb_one (s_dput hu (zv 3) (zv 4) (z_tup sa_nil) rfl)) (sb_cons (s_asg (zv 5) (g_tup K (n := 2) rfl (gs_cons (g_name (i := 6) sc_rows_met.nd rfl (Or.inl rfl)) (gs_cons (g_name (i := 7) sc_rows_met.nd rfl (Or.inl rfl)) gs_nil))))
      (sb_one (s_dput hu (zv 3) (zv 4) (z_op (op_catA K) (z_dget hu (zv 3) (zv 6) (fun _ _ => rfl)) (z_tup (sa_Name (zv 7) sa_nil))) rfl))))))
      (sb_one (s_ret (z_lstItems rfl (by rfl) T.n_list (zv 3))))))), ?_⟩
    refine tSeq_set fun n dn hn hdn ne => ?_
    have s0 : Same H (upd (upd H dn (.own n)) n (.ins (adr mg "Net") dn [])) := (Same.upd hdn _).trans (Same.upd (by rw [upd_ne ne.symm]; exact hn) _)
    refine ⟨n, dn, a, xs, rows, ns, ws, rfl, upd_same, rt.tk s0.ts, hw, kf.same s0, kt.same s0, fun H2 net sx => ⟨rfl, ?_⟩⟩
    have s2 : Same H H2 := fun b o e => sx b o (fun z => by rw [z, hn] at e; cases e) (s0 b o e)
    obtain ⟨dx, fs, en, netF⟩ := id net
    obtain ⟨d1, o1, a1, a2⟩ := netF.rws
    have hst := rt.stay hw hx
    refine tSeq_set fun F hF => ?_
    have sF := Same.upd hF (.dK [])
    have eF : upd H2 F (.dK []) F = some (.dK []) := upd_same
    generalize upd H2 F (.dK []) = H3 at sF eF ⊢
    have sH3 := s2.trans sF
    have getx : DGet H3 d1 (.str x) (some (.str (endOf rows x))) := by
      rw [← rowsE_get rt.ndr (rt.nm.mem_iff.mpr hx)]
      exact DGet.rd (k := Sum.inr x) (.inr ⟨o1, sF _ _ a2⟩)
    generalize endOf rows x = e0 at hst k getx
    refine tSeq_by (fun σ' H' => ∃ (v4 v5 v6 v7 : Option V) (kvs : List (Key × V)) (i : Nat), σ' = [some (.ref a), some (.str x), some (.ref n), some (.ref F), v4, v5, v6, v7] ∧ H' F = some (.dK kvs) ∧ (bfsN rows e0 i).length = i ∧ LRr H' kvs (lrN (bfsN rows e0 i)) ∧ Same H2 H') ?_ ?_
    · intro nx hnx
      refine ⟨n, adr mg "Net", dx, fs, .ref d1, rfl, sF _ _ en, cl, na "rows" (by simp), a1, d1, .str e0, rfl, getx, n, a, xs, rows, ns, ws, e0, rfl, net.same sF, rt.tk sH3.ts, hw, hst, fun D kvs i cb H4 hD s4 eD cbr bi hlen hb hfst => ⟨D, kvs, rfl, .inr ⟨eD, fun o => ?_⟩⟩⟩
      have pv := bfsN_pv rows e0 i
      rw [← hb] at pv
      have nFD : F ≠ D := fun z => by rw [← z, eF] at hD; cases hD
      have t5 : Tk H4 (upd H4 D (.frz o (.dK kvs))) := (Tk.refl).set eD fun _ z => nomatch z
      have r5 : ∀ b ys, RdT H4 b ys → RdT (upd H4 D (.frz o (.dK kvs))) b ys := fun b ys h => h.put eD (fun _ z => nomatch z) (fun _ _ z => nomatch z)
      have cbr5 := cbr.keep t5 r5
      have s35 : Same H3 (upd H4 D (.frz o (.dK kvs))) := s4.put hD
      have e5 : upd H4 D (.frz o (.dK kvs)) D = some (.frz o (.dK kvs)) := upd_same
      generalize upd H4 D (.frz o (.dK kvs)) = H5 at t5 r5 cbr5 s35 e5
      have kl : kvs.length = cb.length := Paired.length cbr
      have cfew := bi.few
      refine for_pairG (itp_items kvs) (fun j σ' H' => ∃ (v4 v5 v6 v7 : Option V) (kF : List (Key × V)), σ' = [some (.ref a), some (.str x), some (.ref n), some (.ref F), v4, v5, v6, v7] ∧ H' F = some (.dK kF) ∧ LRr H' kF (lrN (cb.take j)) ∧ Same H2 H' ∧ H' D = some (.frz o (.dK kvs)) ∧ CBr H' kvs cb)
        ⟨none, none, none, none, [], rfl, s35 _ _ eF, .nil, sF.trans s35, e5, cbr5⟩ (by rintro j σ' H' _ ⟨_, _, _, _, _, _, _, _, _, h, _⟩; exact h) ?_ ?_
      · rintro j σ' H6 T2 hj ⟨v4, v5, v6, v7, kF, rfl, q1, q2, q3, q4, q5⟩ hT2
        have hjc : j < cb.length := by omega
        obtain ⟨ke, cv⟩ := Paired.at q5 j hj hjc
        have eK : keyAt kvs j = .str cb[j].1 := by unfold keyAt; rw [List.getElem?_eq_getElem hj]; show kV kvs[j].1 = _; rw [ke]; rfl
        have eV : valAt kvs j = kvs[j].2 := by unfold valAt; rw [List.getElem?_eq_getElem hj]; rfl
        rw [eK, eV]
        have tkj : cb.take (j + 1) = cb.take j ++ [cb[j]] := by rw [List.take_add_one, List.getElem?_eq_getElem hjc]; rfl
        have pvj := pv j cb[j]
        rw [tkj, lrN_snoc]
        have hno : cb[j].1 ∉ (cb.take j).map (·.1) := fun hx => by
          rw [List.map_take] at hx
          obtain ⟨q, hq, e⟩ := List.getElem_of_mem hx
          rw [List.length_take, List.length_map] at hq
          rw [List.getElem_take] at e
          have e2 : (cb.map (·.1))[q]'(by rw [List.length_map]; omega) = (cb.map (·.1))[j]'(by rw [List.length_map]; exact hjc) := by rw [e, List.getElem_map]
          have := (List.getElem_inj bi.nd).mp e2
          omega
        have hcj : cb[j]? = some cb[j] := List.getElem?_eq_getElem hjc
        generalize cb[j] = c at cv pvj hno hcj
        generalize kvs[j].2 = vv at cv
        have t6 := Same.upd hT2 (.tup [.str c.1, vv])
        have e6 : upd H6 T2 (.tup [.str c.1, vv]) T2 = some (.tup [.str c.1, vv]) := upd_same
        generalize upd H6 T2 (.tup [.str c.1, vv]) = H7 at t6 e6
        refine g2_at e6 ?_
        have q1' := t6 _ _ q1
        have q2' := q2.same t6
        have q5' := q5.same t6
        have kFl : kF.length ≤ 10 := by
          have h1 := Paired.length q2
          have h2 := congrArg List.length (lrN_keys (cb.take j))
          simp at h2
          omega
        have hnone : valV kF (.inr c.1) = none := by
          cases ez : valV kF (.inr c.1) with
          | none => rfl
          | some v =>
            have := valV_in ez
            rw [q2.keys, lrN_keys] at this
            obtain ⟨y, hy, e⟩ := List.mem_map.mp this
            rw [Sum.inr.inj e] at hy
            exact absurd hy hno
        -- what is put
        have put : ∀ (H8 : Hp) (t : Addr) (ys : List V) (v6 v7 : Option V), Same H7 H8 → H8 t = some (.tup ys) → SV H8 ys (lrRoad (lrN (cb.take j)) c.2) → ∃ (w4 w5 w6 w7 : Option V) (kF' : List (Key × V)), [some (.ref a), some (.str x), some (.ref n), some (.ref F), some (.str c.1), some vv, v6, v7] = [some (.ref a), some (.str x), some (.ref n), some (.ref F), w4, w5, w6, w7] ∧ upd H8 F (.dK (putK kF (.inr c.1) (.ref t))) F = some (.dK kF') ∧ LRr (upd H8 F (.dK (putK kF (.inr c.1) (.ref t)))) kF' (lrN (cb.take j) ++ [(c.1, lrRoad (lrN (cb.take j)) c.2)]) ∧ Same H2 (upd H8 F (.dK (putK kF (.inr c.1) (.ref t)))) ∧ upd H8 F (.dK (putK kF (.inr c.1) (.ref t))) D = some (.frz o (.dK kvs)) ∧ CBr (upd H8 F (.dK (putK kF (.inr c.1) (.ref t)))) kvs cb := by
          intro H8 t ys v6 v7 s8 e8 sv8
          have f8 := s8 _ _ q1'
          have tk : Tk H8 (upd H8 F (.dK (putK kF (.inr c.1) (.ref t)))) := (Tk.refl).set f8 fun _ z => nomatch z
          have rdk : ∀ b' ys, RdT H8 b' ys → RdT (upd H8 F (.dK (putK kF (.inr c.1) (.ref t)))) b' ys := fun b' ys h => h.put f8 (fun _ z => nomatch z) (fun _ _ z => nomatch z)
          refine ⟨_, _, _, _, _, rfl, upd_same, ?_, ((q3.trans t6).trans s8).put hF, by rw [upd_ne nFD.symm]; exact s8 _ _ (t6 _ _ q4), (q5'.same s8).keep tk rdk⟩
          have := ((q2'.same s8).keep tk rdk).snoc (e := c.1) (tk _ _ e8) (sv8.keep rdk)
          rw [L2.putK_new _ hnone] at this ⊢
          exact this
        cases ec : c.2 with
        | none =>
          rw [ec] at cv
          have : vv = .non := cv
          subst this
          refine ⟨_, rfl, (show 0 ≤ sizeLine by decide), fun T8 hT8 => ⟨F, _, rfl, DPut.k (k := Sum.inr c.1) (Same.upd hT8 _ _ _ q1') (by omega), ?_⟩⟩
          have := put _ T8 [] v6 v7 (Same.upd hT8 (.tup [])) upd_same (by rw [ec]; exact SV.nil)
          rw [ec] at this
          exact this
        | some q =>
          rw [ec] at cv
          obtain ⟨tt, b, rfl, c2, c3⟩ := cv
          have hmem : q.1 ∈ (cb.take j).map (·.1) := pvj q hcj ec
          obtain ⟨t0, ys, gv, g0, sv0⟩ := q2'.get (by rw [lrN_keys]; exact hmem)
          have hyl := sv0.len
          have hrl := lrAt_len (lrN_len (cb.take j)) q.1
          rw [List.length_take] at hrl
          refine ⟨_, rfl, iteB (fun z => by simp at z) (fun _ => ?_)⟩
          refine tSeq_by (fun σ' H' => σ' = [some (.ref a), some (.str x), some (.ref n), some (.ref F), some (.str c.1), some (.ref tt), some (.str q.1), some (.ref b)] ∧ H' = H7) (fun nx2 hnx2 => g2_at (t6 _ _ c2) (hnx2 _ _ ⟨rfl, rfl⟩)) ?_
          rintro σ' H8 ⟨rfl, rfl⟩
          have dg := DGet.k (k := Sum.inr q.1) q1'
          rw [gv] at dg
          refine ⟨F, .ref t0, rfl, dg, (show 1 ≤ sizeLine by decide), fun T8 hT8 => ?_⟩
          have s9 := Same.upd hT8 (.tup [.ref b])
          have e9 : upd H8 T8 (.tup [.ref b]) T8 = some (.tup [.ref b]) := upd_same
          dsimp only
          generalize upd H8 T8 (.tup [.ref b]) = H9 at s9 e9
          refine catA (s9 _ _ g0) e9 (by simp; omega) fun fr H10 s10 e10 => ?_
          have s810 := s9.trans s10
          refine ⟨F, _, rfl, DPut.k (k := Sum.inr c.1) (s810 _ _ q1') (by omega), ?_⟩
          have := put H10 fr (ys ++ [.ref b]) (some (.str q.1)) (some (.ref b)) s810 e10 (by rw [ec]; exact (sv0.same s810).append (SV.one (c3.same (t6.trans s810))))
          rw [ec] at this
          exact this
      · rintro σ' H6 ⟨v4, v5, v6, v7, kF, rfl, q1, q2, q3, q4, q5⟩
        rw [kl, List.take_length, hb] at q2
        exact hnx _ _ ⟨v4, v5, v6, v7, kF, i, rfl, q1, by rw [← hb]; exact hlen, q2, q3⟩
    · rintro σ' H6 ⟨v4, v5, v6, v7, kvs, i, rfl, q1, q2, q3, q4⟩
      refine ⟨F, kvs, rfl, .inl q1, fun l us H7 hl s7 el pa => ?_⟩
      refine k l us i H7 ((s2.trans q4).free hl) ((s2.trans q4).trans s7) el q2 ?_
      have hl1 := Paired.length q3
      refine ⟨by rw [pa.1]; exact hl1, fun j h1 h2 => ?_⟩
      have hjk : j < kvs.length := by omega
      obtain ⟨c, p1, p2⟩ := pa.2 j hjk
      obtain ⟨g1, t, ys, g2, g3, g4⟩ := Paired.at q3 j hjk h2
      rw [List.getElem?_eq_getElem h1] at p1
      rw [g1, g2] at p2
      exact ⟨c, t, ys, Option.some.inj p1, p2, s7 _ _ g3, g4.same s7⟩
def spMet : Sp := fun vs H Q _ => ∃ (a : Addr) (xs : List V) (rows : List Rw2) (ns : List Str) (x : Str), vs = [.ref a, .str x] ∧ RT H a xs rows ns WW ∧ x ∈ ns ∧ ns.length ≤ 7 ∧
  ∀ (L : Addr) (us : List V) (i : Nat) (H' : Hp), H L = none → Same H H' → H' L = some (.lst us) → (bfsN rows (endOf rows x) i).length = i → ML H' us (lrN (bfsN rows (endOf rows x) i)) → Q (.ref L) H'
set_option maxHeartbeats 4000000 in
theorem ok_law_met (T : Txt K mg w) : FnK P w K mg base 4 "_law_met" ["_law_told", "_law_name"] spMet := by
  have F_law_row_here : FnK P w K mg base 1 "_law_row_here" ["_law_told", "_law_name"] spRowOf := ok_law_row_here T
  have F_law_on : FnK P w K mg base 3 "_law_on" ["_law_told", "_law_name"] spOn := ok_law_on T
  refine T.t_law_met.okS sc_law_met (fun vs H Q E h => ?_) (fun f cdv A outer s H vs Q E hr h => ?_)
  · obtain ⟨a, xs, rows, ns, x, rfl, _⟩ := h
    rfl
  · obtain ⟨a, xs, rows, ns, x, rfl, rt, hx, h7, k⟩ := h
    have hu := hu_of hr
    have hu0 := Nat.lt_of_succ_lt (hu_of hr)
    have hu20 := hu20_of hr
    have hsz : sizeLine = 16777216 := sizeLine_eq
    have hw : ∀ z ∈ WW, Wd z := fun z hz => (ww_ok z hz).2
    have hst := rt.stay hw hx
    have on8 : ∀ e, e ∈ ns → (onOf rows e).length ≤ 8 := fun e he => rt.onWw hw (by decide) he
    obtain ⟨rs', g, nm, rl', hval⟩ := rt.good hw
    have hm : ∀ z, z ∈ ns ↔ z ∈ rs'.map (·.1) := fun z => by rw [nm]; exact rt.nm.mem_iff.symm
    refine ⟨_, (sb_cons (s_set (i := 2) sc_law_met.nd rfl (Or.inl rfl) (z_lst (sa_Tuple (z_tup (sa_Tuple (z_tup sa_nil) (sa_Call (z_fn F_law_row_here (hr.mono (by decide)) (sa_Name (zv 0) (sa_Name (zv 1) sa_nil))) sa_nil))) sa_nil)))
      (sb_cons (s_set (i := 3) sc_law_met.nd rfl (Or.inl rfl) z_dnew)
      (sb_cons (s_while PassesOwn.never (y_cmpR (op_neD hu0) (zv 2) (z_lst sa_nil) (nomark _)) (sb_cons (s_set (i := 4) sc_law_met.nd rfl (Or.inl rfl) (z_lst sa_nil))
      (sb_cons (s_for PassesOwn.never rfl (i_K K (zv 2)) (g_tup K (n := 2) rfl (gs_cons (g_name (i := 5) sc_law_met.nd rfl (Or.inl rfl)) (gs_cons (g_name (i := 6) sc_law_met.nd rfl (Or.inl rfl)) gs_nil))) (sb_one (s_if (y_cmpR (op_dNotIn hu) (zv 6) (zv 3) rfl) (sb_cons (s_dput hu (zv 3) (zv 6) (zv 5) rfl)
      (sb_one (s_for PassesOwn.never rfl (i_K K (z_fn F_law_on (hr.mono (by decide)) (sa_Name (zv 0) (sa_Name (zv 6) sa_nil)))) (g_tup K (n := 2) rfl (gs_cons (g_name (i := 7) sc_law_met.nd rfl (Or.inl rfl)) (gs_cons (g_name (i := 8) sc_law_met.nd rfl (Or.inl rfl)) gs_nil))) (sb_one (s_expr (z_bm K PySem.F.plainAttrs_list PySem.F.slot_list_append PySem.F.type_list_append mt_append (zv 4) (sa_Tuple (z_tup (sa_BinOp (z_op (op_catA K) (zv 5) (z_tup (sa_Name (zv 7) sa_nil))) (sa_Name (zv 8) sa_nil))) sa_nil))))))) sb_nil)))
      (sb_one (s_set (i := 2) sc_law_met.nd rfl (Or.inl rfl) (z_callB (call_sortUp hu20) (by rfl) T.n_sorted PyProof.Rows.boot_sorted (sa_Name (zv 4) sa_nil)))))))
      (sb_one (s_ret (z_lstItems rfl (by rfl) T.n_list (zv 3))))))), ?_⟩
    refine tSeq_set ⟨(show 0 ≤ sizeLine by decide), fun T0 hT0 => ?_⟩
    have u0 := Same.upd hT0 (.tup [])
    have x0 : upd H T0 (.tup []) T0 = some (.tup []) := upd_same
    generalize upd H T0 (.tup []) = J0 at u0 x0 ⊢
    refine ⟨a, xs, rs', _, _, x, rfl, g.ts u0.ts, (hm x).mp hx, fun J1 u1 => ⟨(show 2 ≤ sizeLine by decide), fun T1 hT1 => ⟨(show 1 ≤ sizeLine by decide), fun La hLa => ?_⟩⟩⟩
    have ee : rowEnd (nxOf rows) rs'.length x = endOf rows x := by rw [rl']; rfl
    rw [ee] at hLa ⊢
    generalize endOf rows x = e0 at hst k hLa ⊢
    have u2 := Same.upd hT1 (.tup [.ref T0, .str e0])
    have x2 : upd J1 T1 (.tup [.ref T0, .str e0]) T1 = some (.tup [.ref T0, .str e0]) := upd_same
    generalize upd J1 T1 (.tup [.ref T0, .str e0]) = J2 at u2 x2 hLa ⊢
    have u3 := Same.upd hLa (.lst [.ref T1])
    have x3 : upd J2 La (.lst [.ref T1]) La = some (.lst [.ref T1]) := upd_same
    generalize upd J2 La (.lst [.ref T1]) = J3 at u3 x3 ⊢
    have s03 : Same H J3 := ((u0.trans u1).trans u2).trans u3
    have fl0 : FL J3 [.ref T1] [([], e0)] := FL.nil.snoc (q := ([], e0)) (u3 _ _ x2) (((u1.trans u2).trans u3) _ _ x0) SV.nil
    refine tSeq_set fun F hF => ?_
    have u4 := Same.upd hF (.dK [])
    have x4 : upd J3 F (.dK []) F = some (.dK []) := upd_same
    have hF0 : H F = none := s03.free hF
    generalize upd J3 F (.dK []) = J4 at u4 x4 ⊢
    have s04 := s03.trans u4
    refine tSeq_by (fun σ' H' => ∃ (v2 v4 v5 v6 v7 v8 : Option V) (kvs : List (Key × V)) (found : LR) (i : Nat), σ' = [some (.ref a), some (.str x), v2, some (.ref F), v4, v5, v6, v7, v8] ∧ H' F = some (.dK kvs) ∧ LRr H' kvs found ∧ QI rows e0 i found [] ∧ found.length = i ∧ Same H H') ?_ ?_
    · intro nx hnx
      refine ⟨fun mm σ' H' => ∃ (v4 v5 v6 v7 v8 : Option V) (Lr : Addr) (us : List V) (P : List (Road × Str)) (kvs : List (Key × V)) (found : LR) (i len : Nat), σ' = [some (.ref a), some (.str x), some (.ref Lr), some (.ref F), v4, v5, v6, v7, v8] ∧ H' F = some (.dK kvs) ∧ LRr H' kvs found ∧ H' Lr = some (.lst us) ∧ FL H' us P ∧ QI rows e0 i found P ∧ found.length = i ∧ (P.Pairwise fun p p' => RltF p.1 p'.1) ∧ (∀ q ∈ P, EndN rows ns q.2 ∧ q.1.length = len) ∧ len + mm ≤ 100 ∧ i ≤ 7 ∧ Same H H' ∧ (mm = 2 * (10 - i) + if P = [] then 0 else 1),
        ⟨_, none, none, none, none, none, La, [.ref T1], [([], e0)], [], [], 0, 0, rfl, x4, .nil, u4 _ _ x3, fl0.same u4, QI.start rows e0, rfl, List.pairwise_singleton _ _, fun q hq => by rw [List.mem_singleton.mp hq]; exact ⟨hst, rfl⟩, by simp, by omega, s04, rfl⟩, ?_⟩
      rintro mm σ' H5 ⟨v4, v5, v6, v7, v8, Lr, us, P, kvs, found, i, len, rfl, q1, q2, q3, q4, q5, q6, q7, q8, q9, q9', q10, rfl⟩
      have usl := q4.len
      refine ⟨(show 0 ≤ sizeLine by decide), fun l0 hl0 => ?_⟩
      have w1 := Same.upd hl0 (.lst [])
      have w2 : upd H5 l0 (.lst []) l0 = some (.lst []) := upd_same
      have nl0 : Lr ≠ l0 := fun z => by rw [← z, q3] at hl0; cases hl0
      generalize upd H5 l0 (.lst []) = H6 at w1 w2 ⊢
      refine ⟨nl0, us, w1 _ _ q3, w2, _, rfl, iteB (fun c => ?_) (fun c => ?_)⟩
      · have hP : P ≠ [] := fun z => by
          rw [z] at usl
          rw [List.eq_nil_of_length_eq_zero usl] at c
          simp at c
        rw [if_neg hP] at q9 ⊢
        have q1 := w1 _ _ q1
        have q2 := q2.same w1
        have q3 := w1 _ _ q3
        have q4 := q4.same w1
        have q10 := q10.trans w1
        refine ⟨fun σ' H' => ∃ (v4 v5 v6 v7 v8 : Option V) (Lr : Addr) (us : List V) (P : List (Road × Str)) (kvs : List (Key × V)) (found : LR) (i2 : Nat), σ' = [some (.ref a), some (.str x), some (.ref Lr), some (.ref F), v4, v5, v6, v7, v8] ∧ H' F = some (.dK kvs) ∧ LRr H' kvs found ∧ H' Lr = some (.lst us) ∧ FL H' us P ∧ QI rows e0 i2 found P ∧ found.length = i2 ∧ (P.Pairwise fun p p' => RltF p.1 p'.1) ∧ (∀ q ∈ P, EndN rows ns q.2 ∧ q.1.length = len + 1) ∧ P.length ≤ 8 * (i2 - i) ∧ i ≤ i2 ∧ i2 ≤ 7 ∧ Same H H', ?_, ?_⟩
        · rintro σ' H' ⟨v4, v5, v6, v7, v8, Lr, us, P2, kvs, found, i2, rfl, z1, z2, z3, z4, z5, z6, z7, z8, z9, z10, z11, z12⟩
          have hmm : (2 * (10 - i2) + if P2 = [] then 0 else 1) < 2 * (10 - i) + 1 := by
            by_cases h0 : i2 = i
            · have : P2 = [] := List.eq_nil_of_length_eq_zero (by omega)
              rw [if_pos this]; omega
            · split <;> omega
          exact ⟨_, hmm, v4, v5, v6, v7, v8, Lr, us, P2, kvs, found, i2, len + 1, rfl, z1, z2, z3, z4, z5, z6, z7, z8, by omega, z11, z12, rfl⟩
        refine tSeq_set ⟨(show 0 ≤ sizeLine by decide), fun Lt hLt => ?_⟩
        have w3 := Same.upd hLt (.lst [])
        have w4 : upd H6 Lt (.lst []) Lt = some (.lst []) := upd_same
        have hLt0 : H Lt = none := q10.free hLt
        have nLF : Lt ≠ F := fun z => by rw [z, q1] at hLt; cases hLt
        have nLL : Lt ≠ Lr := fun z => by rw [z, q3] at hLt; cases hLt
        have nFL : F ≠ Lr := fun z => by rw [z, q3] at q1; cases q1
        generalize upd H6 Lt (.lst []) = H7 at w3 w4 ⊢
        refine tSeq_by (fun σ' H' => ∃ (v5 v6 v7 v8 : Option V) (us2 : List V) (N : List (Road × Str)) (kvs : List (Key × V)) (found : LR) (i2 : Nat), σ' = [some (.ref a), some (.str x), some (.ref Lr), some (.ref F), some (.ref Lt), v5, v6, v7, v8] ∧ H' F = some (.dK kvs) ∧ LRr H' kvs found ∧ H' Lt = some (.lst us2) ∧ FL H' us2 N ∧ QI rows e0 i2 found N ∧ found.length = i2 ∧ (N.Pairwise fun p p' => RltF p.1 p'.1) ∧ (∀ p ∈ N, EndN rows ns p.2 ∧ p.1.length = len + 1) ∧ N.length ≤ 8 * (i2 - i) ∧ i ≤ i2 ∧ i2 ≤ 7 ∧ Same H H') ?_ ?_
        · intro nx1 hnx1
          refine .inl ⟨⟨us, SqL.of (w3 _ _ q3)⟩, ?_⟩
          refine for_by (itn_list us) (fun j σ' H' => ∃ (v5 v6 v7 v8 : Option V) (us2 : List V) (N : List (Road × Str)) (kvs : List (Key × V)) (found : LR) (i2 : Nat), σ' = [some (.ref a), some (.str x), some (.ref Lr), some (.ref F), some (.ref Lt), v5, v6, v7, v8] ∧ H' F = some (.dK kvs) ∧ LRr H' kvs found ∧ H' Lt = some (.lst us2) ∧ FL H' us2 N ∧ QI rows e0 i2 found (P.drop j ++ N) ∧ found.length = i2 ∧ (N.Pairwise fun p p' => RltF p.1 p'.1) ∧ (∀ p ∈ N, (EndN rows ns p.2 ∧ p.1.length = len + 1) ∧ ∃ q' ∈ P.take j, ∃ s, p.1 = q'.1 ++ [s]) ∧ N.length ≤ 8 * (i2 - i) ∧ i ≤ i2 ∧ i2 ≤ 7 ∧ H' Lr = some (.lst us) ∧ FL H' us P ∧ Same H H')
            ⟨v5, v6, v7, v8, [], [], kvs, found, i, rfl, w3 _ _ q1, q2.same w3, w4, FL.nil, by simpa using q5, q6, .nil, (fun p hp => nomatch hp), by simp, Nat.le_refl _, q9', w3 _ _ q3, q4.same w3, q10.trans w3⟩ (by rintro j σ' H' _ ⟨_, _, _, _, _, _, _, _, _, _, _, _, _, _, _, _, _, _, _, _, _, h, _⟩; exact SqL.of h) ?_ ?_
          · rintro j σ' H8 hj ⟨v5, v6, v7, v8, us2, N, kvs2, found2, i2, rfl, z1, z2, z3, z4, z5, z6, z7, z8, z9, z10, z11, z12, z13, z14⟩
            have hjP : j < P.length := by omega
            obtain ⟨c, b, ys, c1, c2, c3, c4⟩ := z13.at_ j hj hjP
            have eg : us.getD j .non = .ref c := by rw [List.getD_eq_getElem?_getD, List.getElem?_eq_getElem hj, c1]; rfl
            rw [eg]
            rw [List.drop_eq_getElem_cons hjP, List.cons_append] at z5
            obtain ⟨hqe, hql⟩ := q8 _ (List.getElem_mem hjP)
            have tkj := take_snoc P j hjP
            have hrise : ∀ q' ∈ P.take j, RltF q'.1 P[j].1 := fun q' hq' => by
              obtain ⟨i', hi', e'⟩ := List.getElem_of_mem hq'
              rw [List.length_take] at hi'
              rw [List.getElem_take] at e'
              rw [← e']
              exact List.pairwise_iff_getElem.mp q7 i' j (by omega) hjP (by omega)
            rw [tkj]
            generalize P[j] = q at c2 c4 z5 hqe hql hrise
            refine g2_at c2 ?_
            have kin : (valV kvs2 (.inr q.2)).isSome = decide (q.2 ∈ found2.map (·.1)) := z2.in_ q.2
            have kvl : kvs2.length = i2 := by rw [← z6]; exact Paired.length z2
            refine ⟨F, valV kvs2 (.inr q.2), rfl, DGet.k (k := Sum.inr q.2) z1, _, rfl, iteB (fun cc => ?_) (fun cc => ?_)⟩
            · have hno : q.2 ∉ found2.map (·.1) := fun z => by
                rw [kin, decide_eq_true z] at cc
                simp at cc
              have hnone : valV kvs2 (.inr q.2) = none := by
                rw [decide_eq_false hno] at kin
                cases hv : valV kvs2 (.inr q.2) with
                | none => rfl
                | some v => rw [hv] at kin; cases kin
              obtain ⟨bnd, ben⟩ := rt.bfs hw hst i2
              obtain ⟨hlt, qn⟩ := QI.new bnd z5 hno
              have i7 : i2 + 1 ≤ 7 := by
                have h1 := nodup_sub bnd (m := ns) fun y hy => by
                  obtain ⟨c', hc', rfl⟩ := List.mem_map.mp hy
                  exact (ben c' hc').1
                rw [List.length_map] at h1
                omega
              have o8 := on8 _ hqe.1
              have orise := rt.onRise hw hqe.1
              refine tSeq_by (fun σ' H' => σ' = [some (.ref a), some (.str x), some (.ref Lr), some (.ref F), some (.ref Lt), some (.ref b), some (.str q.2), v7, v8] ∧ H' = upd H8 F (.dK (kvs2 ++ [(.inr q.2, .ref b)]))) (fun nx2 hnx2 => ⟨F, _, rfl, DPut.k (k := Sum.inr q.2) z1 (by omega), hnx2 _ _ ⟨rfl, by rw [L2.putK_new _ hnone]⟩⟩) ?_
              rintro σ' H9 ⟨rfl, rfl⟩
              have tk : Tk H8 (upd H8 F (.dK (kvs2 ++ [(.inr q.2, .ref b)]))) := (Tk.refl).set z1 fun _ z => nomatch z
              have rdk : ∀ b' ys, RdT H8 b' ys → RdT (upd H8 F (.dK (kvs2 ++ [(.inr q.2, .ref b)]))) b' ys := fun b' ys h => h.put z1 (fun _ z => nomatch z) (fun _ _ z => nomatch z)
              have y1 : upd H8 F (.dK (kvs2 ++ [(.inr q.2, .ref b)])) F = some (.dK (kvs2 ++ [(.inr q.2, .ref b)])) := upd_same
              have y2 : LRr (upd H8 F (.dK (kvs2 ++ [(.inr q.2, .ref b)]))) (kvs2 ++ [(.inr q.2, .ref b)]) (found2 ++ [(q.2, q.1)]) := (z2.keep tk rdk).snoc (tk _ _ c3) (c4.keep rdk)
              have y3 : upd H8 F (.dK (kvs2 ++ [(.inr q.2, .ref b)])) Lt = some (.lst us2) := by rw [upd_ne nLF]; exact z3
              have y4 := z4.keep tk rdk
              have y5 : upd H8 F (.dK (kvs2 ++ [(.inr q.2, .ref b)])) Lr = some (.lst us) := by rw [upd_ne nFL.symm]; exact z12
              have y6 := z13.keep tk rdk
              have y7 := tk _ _ c3
              have y8 := c4.keep rdk
              have y9 : Same H (upd H8 F (.dK (kvs2 ++ [(.inr q.2, .ref b)]))) := z14.put hF0
              generalize upd H8 F (.dK (kvs2 ++ [(.inr q.2, .ref b)])) = H9 at y1 y2 y3 y4 y5 y6 y7 y8 y9 ⊢
              clear tk rdk
              refine ⟨a, xs, rows, ns, WW, q.2, rfl, rt.tk y9.ts, hw, hqe.1, fun L ms H10 hL s10 eL mv => .inl ⟨⟨ms, SqL.of eL⟩, ?_⟩⟩
              have ml := mv.len
              have nLLt : L ≠ Lt := fun z => by rw [z, y3] at hL; cases hL
              refine for_by (itn_list ms) (fun t σ' H' => ∃ (v7 v8 : Option V) (us3 : List V), σ' = [some (.ref a), some (.str x), some (.ref Lr), some (.ref F), some (.ref Lt), some (.ref b), some (.str q.2), v7, v8] ∧ H' Lt = some (.lst us3) ∧ FL H' us3 (N ++ ((onOf rows q.2).take t).map fun m => (q.1 ++ [m.1], m.2)) ∧ H' F = some (.dK (kvs2 ++ [(.inr q.2, .ref b)])) ∧ LRr H' (kvs2 ++ [(.inr q.2, .ref b)]) (found2 ++ [(q.2, q.1)]) ∧ H' Lr = some (.lst us) ∧ FL H' us P ∧ H' b = some (.tup ys) ∧ SV H' ys q.1 ∧ Same H H' ∧ H' L = some (.lst ms) ∧ Tk H10 H')
                ⟨v7, v8, us2, rfl, s10 _ _ y3, by simpa using y4.same s10, s10 _ _ y1, y2.same s10, s10 _ _ y5, y6.same s10, s10 _ _ y7, y8.same s10, y9.trans s10, eL, Tk.refl⟩ (by rintro t σ' H' _ ⟨_, _, _, _, _, _, _, _, _, _, _, _, _, h, _⟩; exact SqL.of h) ?_ ?_
              · rintro t σ' H11 ht ⟨v7, v8, us3, rfl, x1, x2, x3, x4, x5, x6, x7, x8, x9, x10, x11⟩
                have hto : t < (onOf rows q.2).length := by omega
                obtain ⟨d, bb, m1, m2, m3⟩ := mv.at_ t ht hto
                have eg2 : ms.getD t .non = .ref d := by rw [List.getD_eq_getElem?_getD, List.getElem?_eq_getElem ht, m1]; rfl
                rw [eg2]
                have u3l := x2.len
                rw [List.length_append, List.length_map, List.length_take] at u3l
                have tkt := take_snoc _ t hto
                rw [tkt, List.map_append, ← List.append_assoc]
                generalize (onOf rows q.2)[t] = mm at m2 m3
                refine g2_at (x11 _ _ m2) ?_
                have ysl := x8.len
                refine ⟨.inl ⟨rfl, _, SqL.of x1⟩, (show 1 ≤ sizeLine by decide), fun T8 hT8 => ?_⟩
                have s12 := Same.upd hT8 (.tup [.ref bb])
                have e12 : upd H11 T8 (.tup [.ref bb]) T8 = some (.tup [.ref bb]) := upd_same
                dsimp only
                generalize upd H11 T8 (.tup [.ref bb]) = H12 at s12 e12
                refine catA (s12 _ _ x7) e12 (by simp; omega) fun fr H13 s13 e13 => ⟨(show 2 ≤ sizeLine by decide), fun T9 hT9 => ?_⟩
                have s14 := Same.upd hT9 (.tup [.ref fr, .str mm.2])
                have e14 : upd H13 T9 (.tup [.ref fr, .str mm.2]) T9 = some (.tup [.ref fr, .str mm.2]) := upd_same
                generalize upd H13 T9 (.tup [.ref fr, .str mm.2]) = H14 at s14 e14
                have sA := (s12.trans s13).trans s14
                have lt14 := sA _ _ x1
                have tk : Tk H14 (upd H14 Lt (.lst (us3 ++ [.ref T9]))) := (Tk.refl).set lt14 fun _ z => nomatch z
                have rdk : ∀ b' ys, RdT H14 b' ys → RdT (upd H14 Lt (.lst (us3 ++ [.ref T9]))) b' ys := fun b' ys h => h.put lt14 (fun _ z => nomatch z) (fun _ _ z => nomatch z)
                refine ⟨Lt, us3, .ref T9, rfl, rfl, lt14, by omega, _, _, us3 ++ [.ref T9], rfl, upd_same, ?_, by rw [upd_ne nLF.symm]; exact sA _ _ x3, (x4.same sA).keep tk rdk, by rw [upd_ne nLL.symm]; exact sA _ _ x5, (x6.same sA).keep tk rdk, tk _ _ (sA _ _ x7), (x8.same sA).keep rdk, (x9.trans sA).put hLt0, by rw [upd_ne nLLt]; exact sA _ _ x10, (x11.trans sA.ts).trans tk⟩
                refine ((x2.same sA).keep tk rdk).snoc (q := (q.1 ++ [mm.1], mm.2)) (tk _ _ e14) (tk _ _ (s14 _ _ e13)) (SV.keep ?_ rdk)
                exact (x8.same sA).append (SV.one (.inl ((x11.trans sA.ts) _ _ m3)))
              · rintro σ' H11 ⟨v7, v8, us3, rfl, x1, x2, x3, x4, x5, x6, x7, x8, x9, x10, x11⟩
                rw [ml, List.take_length] at x2
                refine ⟨_, _, _, _, us3, _, _, _, i2 + 1, rfl, x3, x4, x1, x2, by rw [← List.append_assoc]; exact qn, by simp [z6], rise_app z7 (fun p hp => ?_) orise, fun p hp => ?_, ?_, by omega, i7, x5, x6, x9⟩
                · obtain ⟨_, q', hq', s', e'⟩ := z8 p hp
                  exact ⟨q'.1, s', e', hrise q' hq'⟩
                · rcases List.mem_append.mp hp with h | h
                  · obtain ⟨g1, q', hq', s', e'⟩ := z8 p h
                    exact ⟨g1, q', List.mem_append.mpr (.inl hq'), s', e'⟩
                  · obtain ⟨m, hm', rfl⟩ := List.mem_map.mp h
                    exact ⟨⟨(rt.mvMem hw hqe hm').2, by simp [hql]⟩, q, List.mem_append.mpr (.inr (by simp)), m.1, rfl⟩
                · rw [List.length_append, List.length_map]; omega
            · have hin : q.2 ∈ found2.map (·.1) := by
                by_cases z : q.2 ∈ found2.map (·.1)
                · exact z
                · rw [kin, decide_eq_false z] at cc
                  simp at cc
              exact ⟨_, _, _, _, us2, N, kvs2, found2, i2, rfl, z1, z2, z3, z4, z5.old hin, z6, z7, fun p hp => by obtain ⟨g1, q', hq', s', e'⟩ := z8 p hp; exact ⟨g1, q', List.mem_append.mpr (.inl hq'), s', e'⟩, z9, z10, z11, z12, z13, z14⟩
          · rintro σ' H8 ⟨v5, v6, v7, v8, us2, N, kvs2, found2, i2, rfl, z1, z2, z3, z4, z5, z6, z7, z8, z9, z10, z11, z12, z13, z14⟩
            rw [usl, List.drop_length, List.nil_append] at z5
            exact hnx1 _ _ ⟨v5, v6, v7, v8, us2, N, kvs2, found2, i2, rfl, z1, z2, z3, z4, z5, z6, z7, fun p hp => (z8 p hp).1, z9, z10, z11, z14⟩
        · rintro σ' H8 ⟨v5, v6, v7, v8, us2, N, kvs2, found2, i2, rfl, z1, z2, z3, z4, z5, z6, z7, z8, z9, z10, z11, z12⟩
          have nl := z4.len
          refine ⟨Lt, us2, N, rfl, z3, by omega, z4, fun j hj => ?_, fun L hL => ?_⟩
          · exact List.pairwise_iff_getElem.mp z7 j (j + 1) (by omega) hj (by omega)
          · have w5 := Same.upd hL (.lst us2)
            exact ⟨_, _, _, _, _, L, us2, N, kvs2, found2, i2, rfl, w5 _ _ z1, z2.same w5, upd_same, z4.same w5, z5, z6, z7, z8, z9, z10, z11, z12.trans w5⟩
      · have hP : P = [] := by
          cases us with
          | nil => exact List.eq_nil_of_length_eq_zero (by simpa using usl.symm)
          | cons u us => simp at c
        subst hP
        exact hnx _ _ ⟨_, v4, v5, v6, v7, v8, kvs, found, i, rfl, w1 _ _ q1, q2.same w1, q5, q6, q10.trans w1⟩
    · rintro σ' H5 ⟨v2, v4, v5, v6, v7, v8, kvs, found, i, rfl, q1, q2, q3, q4, q5⟩
      obtain ⟨hl, hfd⟩ := q3.fin q4
      refine ⟨F, kvs, rfl, .inl q1, fun l us H7 hl7 s7 el pa => ?_⟩
      refine k l us i H7 (q5.free hl7) (q5.trans s7) el hl ?_
      rw [hfd] at q2
      have hl1 := Paired.length q2
      refine ⟨by rw [pa.1]; exact hl1, fun j h1 h2 => ?_⟩
      have hjk : j < kvs.length := by omega
      obtain ⟨c, p1, p2⟩ := pa.2 j hjk
      obtain ⟨g1, t, ys, g2, g3, g4⟩ := Paired.at q2 j hjk h2
      rw [List.getElem?_eq_getElem h1] at p1
      rw [g1, g2] at p2
      exact ⟨c, t, ys, Option.some.inj p1, p2, s7 _ _ g3, g4.same s7⟩
def spLaw (K : PySem.W.Frag) (mg : Str → Option Value) : Sp := fun vs H Q _ => ∃ (a : Addr) (ns : List Int), vs = [.ref a] ∧ SqL K H a (ns.map V.int) ∧ ns.length ≤ 63 ∧ (Kn mg H "FROM" [.str "from"] ∧ Kn mg H "TO" [.str "to"]) ∧ ∀ H', Q (.bl true) H'
theorem nx_start {H : Hp} {a p : Addr} {ns : List Int} (hs : SqL K H a (ns.map V.int)) (hp : H p = none) : NxAt K H (upd H p (.lst [.ref a, .int 0, .int 0])) p 0 := by
  refine ⟨⟨a, ns, 0, 0, upd_same, fun H' sm => ?_, by omega, by omega⟩, (Same.upd hp _).sm⟩
  rcases hs with h | h
  · refine .inl ?_
    have n : a ≠ p := fun z => by rcases h with h | ⟨o, h⟩ <;> (rw [z, hp] at h; cases h)
    exact h.imp (fun e => sm _ _ e n n) fun ⟨o, e⟩ => ⟨o, sm _ _ e n n⟩
  · exact .inr h
theorem Kn.ofNx {H0 H : Hp} {p : Addr} {t : Nat} {x : Str} {ys : List V} (h : Kn mg H0 x ys) (hp : H0 p = none) (hn : NxAt K H0 H p t) : Kn mg H x ys := by
  obtain ⟨o, e⟩ := h
  have n : adr mg x ≠ p := fun z => by rw [z, hp] at e; cases e
  exact ⟨o, hn.sm _ _ e n n⟩
set_option maxHeartbeats 4000000 in
theorem ok_law (T : Txt K mg w) : FnK P w K mg base 12 "law" ["script"] (spLaw K mg) := by
  have F_law_next : FnK P w K mg base 2 "_law_next" ["_law_pen", "_law_many"] (spNx K) := ok_law_nextS T
  have F_law_telling : FnK P w K mg base 5 "_law_telling" ["_law_pen", "_law_most"] (spTelling5 K) := ok_law_telling T
  have F_law_any : FnK P w K mg base 3 "_law_any" ["_law_pen", "_law_told"] (spAny K) := ok_law_any T
  have F_law_met : FnK P w K mg base 4 "_law_met" ["_law_told", "_law_name"] spMet := ok_law_met T
  have F_rows_met : FnK P w K mg base 6 "rows_met" ["T", "x"] (spRowsMet mg) := ok_rows_met T
  refine T.t_law.okS sc_law (fun vs H Q E h => ?_) (fun f cdv A outer s H vs Q E hr h => ?_)
  · obtain ⟨a, ns, rfl, _⟩ := h
    rfl
  · obtain ⟨sc, cells, rfl, hsc, hl63, ⟨kf, kt⟩, k⟩ := h
    have hu := hu_of hr
    have hu0 := Nat.lt_of_succ_lt (hu_of hr)
    have hu20 := hu20_of hr
    have hsz : sizeLine = 16777216 := sizeLine_eq
    have hw : ∀ z ∈ WW, Wd z := fun z hz => (ww_ok z hz).2
    refine ⟨_, (sb_cons (s_set (i := 1) sc_law.nd rfl (Or.inl rfl) (z_lst (sa_Name (zv 0) (sa_Constant z_int (sa_Constant z_int sa_nil)))))
      (sb_cons (s_for PassesOwn.never rfl (i_range1 (by rfl) T.n_range (sa_Constant z_int sa_nil)) (g_name (i := 2) sc_law.nd rfl (Or.inl rfl)) (sb_cons (s_set (i := 3) sc_law.nd rfl (Or.inl rfl) (z_fn F_law_telling (hr.mono (by decide)) (sa_Name (zv 1) (sa_Constant z_int sa_nil))))
      (sb_cons (s_set (i := 4) sc_law.nd rfl (Or.inl rfl) (z_fn F_law_any (hr.mono (by decide)) (sa_Name (zv 1) (sa_Name (zv 3) sa_nil))))
      (sb_cons (s_set (i := 5) sc_law.nd rfl (Or.inl rfl) (z_fn F_law_met (hr.mono (by decide)) (sa_Name (zv 3) (sa_Name (zv 4) sa_nil))))
      (sb_one (s_for PassesOwn.never rfl (i_range1 (by rfl) T.n_range (sa_Constant z_int sa_nil)) (g_name (i := 6) sc_law.nd rfl (Or.inl rfl)) (sb_cons (s_set (i := 7) sc_law.nd rfl (Or.inl rfl) (z_fn F_rows_met (hr.mono (by decide)) (sa_Name (zv 3) (sa_Name (zv 4) sa_nil))))
      (sb_cons (s_if (w_or (y_not (y_val (z_callB call_isiD (by rfl) T.n_isinstance PyProof.Rows.boot_isinstance (sa_Name (zv 7) (sa_Name (z_bltn (v := .ty "list") (by rfl) T.n_list PyProof.Rows.boot_list rfl) sa_nil))))) (w_or1 (y_cmpR (op_neML hu20) (zv 7) (zv 5) (nomark _)))).pt (sb_one (s_ret z_bl)) sb_nil)
      (sb_one (s_expr (z_bm K PySem.F.plainAttrs_list PySem.F.slot_list_pop PySem.F.type_list_pop mt_popAt (zv 7) (sa_Constant z_int sa_nil))))))))))))
      (sb_one (s_ret z_bl)))), ?_⟩
    refine tSeq_set ⟨(show 3 ≤ sizeLine by decide), fun p hp => ?_⟩
    have hn0 := nx_start hsc hp
    dsimp only
    generalize upd H p (.lst [.ref sc, .int 0, .int 0]) = H1 at hn0
    refine tSeq_by (fun σ' H' => True) ?_ (fun σ' H' _ => k H')
    intro nx hnx
    refine ⟨5, rfl, by decide, by decide, ?_⟩
    refine for_by (itn_range 0 5) (fun i σ' H' => ∃ v2 v3 v4 v5 v6 v7, σ' = [some (.ref sc), some (.ref p), v2, v3, v4, v5, v6, v7] ∧ NxAt K H H' p (i * 1000))
      ⟨none, none, none, none, none, none, rfl, hn0⟩ (fun _ _ _ _ _ => trivial) ?_ (fun σ' H' _ => hnx _ _ trivial)
    rintro i σ' H2 hi ⟨v2, v3, v4, v5, v6, v7, rfl, hn2⟩
    have hi4 : i < 5 := hi
    refine tSeq_set ⟨H, p, 7, i * 1000, rfl, hn2, by omega, ⟨by decide, by decide⟩, fun a xs rows ns H3 rt hlen hN hn3 sm3 => ?_⟩
    refine tSeq_set ⟨H, p, a, _, xs, rows, ns, WW, rfl, hn3, by omega, rt, fun x H4 hx hn4 sm4 => ?_⟩
    have rt4 := rt.tk (hn3.ts sm4)
    refine tSeq_set ⟨a, xs, rows, ns, x, rfl, rt4, hx, by omega, fun Ld us n H5 hLd s5 eLd hlen5 ml => ?_⟩
    have hn5 := hn4.same s5
    have rt5 := rt4.tk s5.ts
    have kf5 := Kn.ofNx kf hp hn5
    have kt5 := Kn.ofNx kt hp hn5
    refine ⟨2, rfl, by decide, by decide, ?_⟩
    refine for_by (itn_range 0 2) (fun j σ' H' => ∃ v6 v7, σ' = [some (.ref sc), some (.ref p), some (.int (0 + (i : Int))), some (.ref a), some (.str x), some (.ref Ld), v6, v7] ∧ Same H5 H')
      ⟨v6, v7, rfl, Same.refl _⟩ (fun _ _ _ _ _ => trivial) ?_ ?_
    · rintro j σ' H6 hj ⟨w6, w7, rfl, s6⟩
      refine tSeq_set ⟨a, xs, rows, ns, WW, x, rfl, rt5.tk s6.ts, hw, hx, kf5.same s6, kt5.same s6, fun L us2 n2 H7 hL s7 eL hl7 ml2 => ?_⟩
      have en := bfsN_uniq hlen5 hl7
      subst en
      have s67 := s6.trans s7
      refine tSeq_by (fun σ' H' => H' = H7 ∧ σ' = [some (.ref sc), some (.ref p), some (.int (0 + (i : Int))), some (.ref a), some (.str x), some (.ref Ld), some (.int (0 + (j : Int))), some (.ref L)]) ?_ ?_
      · intro nx2 hnx2
        refine ⟨by decide, "list", by show tyName H7 (.ref L) = _; simp [tyName, eL], _, rfl, ?_⟩
        refine ⟨L, Ld, us2, us, _, rfl, rfl, eL, s67 _ _ eLd, ml2, ⟨ml.len, fun i h1 h2 => ?_⟩, _, rfl, hnx2 _ _ ⟨rfl, rfl⟩⟩
        obtain ⟨c, t, ys, g1, g2, g3, g4⟩ := ml.at_ i h1 h2
        exact ⟨c, t, ys, g1, s67 _ _ g2, s67 _ _ g3, g4.same s67⟩
      · rintro σ' H8 ⟨rfl, rfl⟩
        have hne : n ≠ 0 := fun z => by
          subst z
          simp [bfsN] at hl7
        have hul : us2.length = n := by
          have h1 := ml2.len
          have h2 := congrArg List.length (lrN_keys (bfsN rows (endOf rows x) n))
          simp only [List.length_map] at h2
          omega
        have hpos : 0 < us2.length := by omega
        have hx0 : seqIndex? 0 us2.length = some 0 := by
          have h1 : (decide ((0 : Int) ≤ 0) && decide ((0 : Int) < (us2.length : Int))) = true := by
            rw [Bool.and_eq_true]
            exact ⟨by decide, decide_eq_true (by omega)⟩
          show (if (decide ((0 : Int) ≤ 0) && decide ((0 : Int) < (us2.length : Int))) = true then some (0 : Int).toNat else none) = some 0
          rw [if_pos h1]
          rfl
        refine ⟨.inl ⟨rfl, _, SqL.of eL⟩, L, us2, 0, 0, us2[0], rfl, rfl, eL, by decide, by decide, hx0, List.getElem?_eq_getElem hpos, _, _, rfl, s67.put (s6.free hL)⟩
    · rintro σ' H6 ⟨w6, w7, rfl, s6⟩
      exact ⟨_, _, _, _, _, _, rfl, (hn5.same s6).mono (by omega)⟩
end
theorem lnS {n : Nat} {us : List Value} (h : us.length = n + 1) : ∃ a t, us = a :: t ∧ t.length = n := by
  cases us with
  | nil => cases h
  | cons a t => exact ⟨a, t, rfl, by simpa using h⟩
theorem txt_mk {K : PySem.W.Frag} {h : Heap} {mg : Str → Option Value} (X : K.In h) (G : h.Ns mainGlobals mg) {w : World}
    {ad_FROM : Addr} {it_FROM : Array Value} {nn_FROM : Nat} {sq_FROM : Array (Option Value)}
    {ad_TO : Addr} {it_TO : Array Value} {nn_TO : Nat} {sq_TO : Array (Option Value)}
    {C_Net : Addr}
    {f_Net_init : Addr} {od_Net_init an_Net_init : Option Addr} {sl_Net_init : Array (Option Value)} {oc_Net_init kV_Net_init dc_Net_init pm_Net_init cd_Net_init ct_Net_init : Value}
    {f_heads_of : Addr} {od_heads_of an_heads_of : Option Addr} {sl_heads_of : Array (Option Value)} {oc_heads_of kV_heads_of dc_heads_of pm_heads_of cd_heads_of ct_heads_of : Value}
    {f_rows_of : Addr} {od_rows_of an_rows_of : Option Addr} {sl_rows_of : Array (Option Value)} {oc_rows_of kV_rows_of dc_rows_of pm_rows_of cd_rows_of ct_rows_of : Value}
    {f_names_in : Addr} {od_names_in an_names_in : Option Addr} {sl_names_in : Array (Option Value)} {oc_names_in kV_names_in dc_names_in pm_names_in cd_names_in ct_names_in : Value}
    {f_rows_met : Addr} {od_rows_met an_rows_met : Option Addr} {sl_rows_met : Array (Option Value)} {oc_rows_met kV_rows_met dc_rows_met pm_rows_met cd_rows_met ct_rows_met : Value}
    {f_steps_in : Addr} {od_steps_in an_steps_in : Option Addr} {sl_steps_in : Array (Option Value)} {oc_steps_in kV_steps_in dc_steps_in pm_steps_in cd_steps_in ct_steps_in : Value}
    {f_moves_in : Addr} {od_moves_in an_moves_in : Option Addr} {sl_moves_in : Array (Option Value)} {oc_moves_in kV_moves_in dc_moves_in pm_moves_in cd_moves_in ct_moves_in : Value}
    {f_reached : Addr} {od_reached an_reached : Option Addr} {sl_reached : Array (Option Value)} {oc_reached kV_reached dc_reached pm_reached cd_reached ct_reached : Value}
    {f_law_fill : Addr} {od_law_fill an_law_fill : Option Addr} {sl_law_fill : Array (Option Value)} {oc_law_fill kV_law_fill dc_law_fill pm_law_fill cd_law_fill ct_law_fill : Value}
    {f_law_next : Addr} {od_law_next an_law_next : Option Addr} {sl_law_next : Array (Option Value)} {oc_law_next kV_law_next dc_law_next pm_law_next cd_law_next ct_law_next : Value}
    {f_law_turned : Addr} {od_law_turned an_law_turned : Option Addr} {sl_law_turned : Array (Option Value)} {oc_law_turned kV_law_turned dc_law_turned pm_law_turned cd_law_turned ct_law_turned : Value}
    {f_law_words : Addr} {od_law_words an_law_words : Option Addr} {sl_law_words : Array (Option Value)} {oc_law_words kV_law_words dc_law_words pm_law_words cd_law_words ct_law_words : Value}
    {f_law_head : Addr} {od_law_head an_law_head : Option Addr} {sl_law_head : Array (Option Value)} {oc_law_head kV_law_head dc_law_head pm_law_head cd_law_head ct_law_head : Value}
    {f_law_telling : Addr} {od_law_telling an_law_telling : Option Addr} {sl_law_telling : Array (Option Value)} {oc_law_telling kV_law_telling dc_law_telling pm_law_telling cd_law_telling ct_law_telling : Value}
    {f_law_any : Addr} {od_law_any an_law_any : Option Addr} {sl_law_any : Array (Option Value)} {oc_law_any kV_law_any dc_law_any pm_law_any cd_law_any ct_law_any : Value}
    {f_law_row_here : Addr} {od_law_row_here an_law_row_here : Option Addr} {sl_law_row_here : Array (Option Value)} {oc_law_row_here kV_law_row_here dc_law_row_here pm_law_row_here cd_law_row_here ct_law_row_here : Value}
    {f_law_head_here : Addr} {od_law_head_here an_law_head_here : Option Addr} {sl_law_head_here : Array (Option Value)} {oc_law_head_here kV_law_head_here dc_law_head_here pm_law_head_here cd_law_head_here ct_law_head_here : Value}
    {f_law_on : Addr} {od_law_on an_law_on : Option Addr} {sl_law_on : Array (Option Value)} {oc_law_on kV_law_on dc_law_on pm_law_on cd_law_on ct_law_on : Value}
    {f_law_met : Addr} {od_law_met an_law_met : Option Addr} {sl_law_met : Array (Option Value)} {oc_law_met kV_law_met dc_law_met pm_law_met cd_law_met ct_law_met : Value}
    {f_law : Addr} {od_law an_law : Option Addr} {sl_law : Array (Option Value)} {oc_law kV_law dc_law pm_law cd_law ct_law : Value}
    {ad_WORDED : Addr} {oe_WORDED : Option Addr} {it_WORDED : Array Value} {nn_WORDED : Nat} {sq_WORDED : Array (Option Value)}
    {ad_STEP_WORDS : Addr} {es_STEP_WORDS : Array DictEntry} {ep_STEP_WORDS : Nat} {vs_STEP_WORDS : List (Key × Value)}
    (g_FROM : PySem.W.nsIn K mainGlobals "FROM" = some (some (.ref ad_FROM)))
    (gl_FROM : K.lookup ad_FROM = some ⟨.type "tuple", none, .seq it_FROM nn_FROM, sq_FROM⟩)
    (gv_FROM : Vals [.str "from"] it_FROM.toList)
    (g_TO : PySem.W.nsIn K mainGlobals "TO" = some (some (.ref ad_TO)))
    (gl_TO : K.lookup ad_TO = some ⟨.type "tuple", none, .seq it_TO nn_TO, sq_TO⟩)
    (gv_TO : Vals [.str "to"] it_TO.toList)
    (nd_TR : ([ad_FROM, ad_TO] : List Addr).Nodup)
    (aC_Net : PySem.W.nsIn K mainGlobals "Net" = some (some (.ref C_Net)))
    (i0_Net : PySem.W.findIn K (.ref C_Net) "__init__" = some (some (.ref f_Net_init)))
    (in_Net : PySem.W.findIn (without K [ad_FROM, ad_TO]) (.ref C_Net) "__init__" = some (some (.ref f_Net_init)))
    (l_Net_init : K.lookup f_Net_init = some ⟨oc_Net_init, od_Net_init, .func (PySem.W.fnOf "__init__" "Net.__init__" (defArgs s_Net_init) (defBody s_Net_init) (defScope s_Net_init) .none kV_Net_init dc_Net_init pm_Net_init an_Net_init cd_Net_init ct_Net_init), sl_Net_init⟩)
    (n_Net_init : ([ad_FROM, ad_TO] : List Addr).contains f_Net_init = false)
    (cc_Net_init : PySem.W.codeIn (without K [ad_FROM, ad_TO]) cd_Net_init "Net.__init__" = true)
    (k_Net_init : PySem.W.keepIn (without K [ad_FROM, ad_TO]) (.ref f_Net_init) = true)
    (pg_Net : PySem.W.plainGet (without K [ad_FROM, ad_TO]) C_Net Str.empty = true)
    (hd_Net : PySem.W.hasDictIn (without K [ad_FROM, ad_TO]) C_Net = true)
    (po_Net : PySem.W.plainOver (without K [ad_FROM, ad_TO]) C_Net = true)
    (sa_Net : PySem.W.findIn (without K [ad_FROM, ad_TO]) (.ref C_Net) "__setattr__" = some (some (.builtin "object.__setattr__")))
    (mk_Net : PySem.W.makesIn (without K [ad_FROM, ad_TO]) C_Net = true)
    (kc_Net : PySem.W.keepIn (without K [ad_FROM, ad_TO]) (.ref C_Net) = true)
    (fn_Net : PySem.W.isFn (without K [ad_FROM, ad_TO]) (.ref f_Net_init) = true)
    (na_Net_rows : PySem.W.findIn (without K [ad_FROM, ad_TO]) (.ref C_Net) "rows" = some none)
    (na_Net_heads : PySem.W.findIn (without K [ad_FROM, ad_TO]) (.ref C_Net) "heads" = some none)
    (na_Net_marks : PySem.W.findIn (without K [ad_FROM, ad_TO]) (.ref C_Net) "marks" = some none)
    (na_Net_moves : PySem.W.findIn (without K [ad_FROM, ad_TO]) (.ref C_Net) "moves" = some none)
    (a_heads_of : PySem.W.nsIn K mainGlobals "heads_of" = some (some (.ref f_heads_of)))
    (l_heads_of : K.lookup f_heads_of = some ⟨oc_heads_of, od_heads_of, .func (PySem.W.fnOf "heads_of" "heads_of" (defArgs s_heads_of) (defBody s_heads_of) (defScope s_heads_of) .none kV_heads_of dc_heads_of pm_heads_of an_heads_of cd_heads_of ct_heads_of), sl_heads_of⟩)
    (n_heads_of : ([ad_FROM, ad_TO] : List Addr).contains f_heads_of = false)
    (cc_heads_of : PySem.W.codeIn (without K [ad_FROM, ad_TO]) cd_heads_of "heads_of" = true)
    (k_heads_of : PySem.W.keepIn (without K [ad_FROM, ad_TO]) (.ref f_heads_of) = true)
    (a_rows_of : PySem.W.nsIn K mainGlobals "rows_of" = some (some (.ref f_rows_of)))
    (l_rows_of : K.lookup f_rows_of = some ⟨oc_rows_of, od_rows_of, .func (PySem.W.fnOf "rows_of" "rows_of" (defArgs s_rows_of) (defBody s_rows_of) (defScope s_rows_of) .none kV_rows_of dc_rows_of pm_rows_of an_rows_of cd_rows_of ct_rows_of), sl_rows_of⟩)
    (n_rows_of : ([ad_FROM, ad_TO] : List Addr).contains f_rows_of = false)
    (cc_rows_of : PySem.W.codeIn (without K [ad_FROM, ad_TO]) cd_rows_of "rows_of" = true)
    (k_rows_of : PySem.W.keepIn (without K [ad_FROM, ad_TO]) (.ref f_rows_of) = true)
    (a_names_in : PySem.W.nsIn K mainGlobals "names_in" = some (some (.ref f_names_in)))
    (l_names_in : K.lookup f_names_in = some ⟨oc_names_in, od_names_in, .func (PySem.W.fnOf "names_in" "names_in" (defArgs s_names_in) (defBody s_names_in) (defScope s_names_in) .none kV_names_in dc_names_in pm_names_in an_names_in cd_names_in ct_names_in), sl_names_in⟩)
    (n_names_in : ([ad_FROM, ad_TO] : List Addr).contains f_names_in = false)
    (cc_names_in : PySem.W.codeIn (without K [ad_FROM, ad_TO]) cd_names_in "names_in" = true)
    (k_names_in : PySem.W.keepIn (without K [ad_FROM, ad_TO]) (.ref f_names_in) = true)
    (a_rows_met : PySem.W.nsIn K mainGlobals "rows_met" = some (some (.ref f_rows_met)))
    (l_rows_met : K.lookup f_rows_met = some ⟨oc_rows_met, od_rows_met, .func (PySem.W.fnOf "rows_met" "rows_met" (defArgs s_rows_met) (defBody s_rows_met) (defScope s_rows_met) .none kV_rows_met dc_rows_met pm_rows_met an_rows_met cd_rows_met ct_rows_met), sl_rows_met⟩)
    (n_rows_met : ([ad_FROM, ad_TO] : List Addr).contains f_rows_met = false)
    (cc_rows_met : PySem.W.codeIn (without K [ad_FROM, ad_TO]) cd_rows_met "rows_met" = true)
    (k_rows_met : PySem.W.keepIn (without K [ad_FROM, ad_TO]) (.ref f_rows_met) = true)
    (a_steps_in : PySem.W.nsIn K mainGlobals "steps_in" = some (some (.ref f_steps_in)))
    (l_steps_in : K.lookup f_steps_in = some ⟨oc_steps_in, od_steps_in, .func (PySem.W.fnOf "steps_in" "steps_in" (defArgs s_steps_in) (defBody s_steps_in) (defScope s_steps_in) .none kV_steps_in dc_steps_in pm_steps_in an_steps_in cd_steps_in ct_steps_in), sl_steps_in⟩)
    (n_steps_in : ([ad_FROM, ad_TO] : List Addr).contains f_steps_in = false)
    (cc_steps_in : PySem.W.codeIn (without K [ad_FROM, ad_TO]) cd_steps_in "steps_in" = true)
    (k_steps_in : PySem.W.keepIn (without K [ad_FROM, ad_TO]) (.ref f_steps_in) = true)
    (a_moves_in : PySem.W.nsIn K mainGlobals "moves_in" = some (some (.ref f_moves_in)))
    (l_moves_in : K.lookup f_moves_in = some ⟨oc_moves_in, od_moves_in, .func (PySem.W.fnOf "moves_in" "moves_in" (defArgs s_moves_in) (defBody s_moves_in) (defScope s_moves_in) .none kV_moves_in dc_moves_in pm_moves_in an_moves_in cd_moves_in ct_moves_in), sl_moves_in⟩)
    (n_moves_in : ([ad_FROM, ad_TO] : List Addr).contains f_moves_in = false)
    (cc_moves_in : PySem.W.codeIn (without K [ad_FROM, ad_TO]) cd_moves_in "moves_in" = true)
    (k_moves_in : PySem.W.keepIn (without K [ad_FROM, ad_TO]) (.ref f_moves_in) = true)
    (a_reached : PySem.W.nsIn K mainGlobals "reached" = some (some (.ref f_reached)))
    (l_reached : K.lookup f_reached = some ⟨oc_reached, od_reached, .func (PySem.W.fnOf "reached" "reached" (defArgs s_reached) (defBody s_reached) (defScope s_reached) .none kV_reached dc_reached pm_reached an_reached cd_reached ct_reached), sl_reached⟩)
    (n_reached : ([ad_FROM, ad_TO] : List Addr).contains f_reached = false)
    (cc_reached : PySem.W.codeIn (without K [ad_FROM, ad_TO]) cd_reached "reached" = true)
    (k_reached : PySem.W.keepIn (without K [ad_FROM, ad_TO]) (.ref f_reached) = true)
    (a_law_fill : PySem.W.nsIn K mainGlobals "_law_fill" = some (some (.ref f_law_fill)))
    (l_law_fill : K.lookup f_law_fill = some ⟨oc_law_fill, od_law_fill, .func (PySem.W.fnOf "_law_fill" "_law_fill" (defArgs s_law_fill) (defBody s_law_fill) (defScope s_law_fill) .none kV_law_fill dc_law_fill pm_law_fill an_law_fill cd_law_fill ct_law_fill), sl_law_fill⟩)
    (n_law_fill : ([ad_FROM, ad_TO] : List Addr).contains f_law_fill = false)
    (cc_law_fill : PySem.W.codeIn (without K [ad_FROM, ad_TO]) cd_law_fill "_law_fill" = true)
    (k_law_fill : PySem.W.keepIn (without K [ad_FROM, ad_TO]) (.ref f_law_fill) = true)
    (a_law_next : PySem.W.nsIn K mainGlobals "_law_next" = some (some (.ref f_law_next)))
    (l_law_next : K.lookup f_law_next = some ⟨oc_law_next, od_law_next, .func (PySem.W.fnOf "_law_next" "_law_next" (defArgs s_law_next) (defBody s_law_next) (defScope s_law_next) .none kV_law_next dc_law_next pm_law_next an_law_next cd_law_next ct_law_next), sl_law_next⟩)
    (n_law_next : ([ad_FROM, ad_TO] : List Addr).contains f_law_next = false)
    (cc_law_next : PySem.W.codeIn (without K [ad_FROM, ad_TO]) cd_law_next "_law_next" = true)
    (k_law_next : PySem.W.keepIn (without K [ad_FROM, ad_TO]) (.ref f_law_next) = true)
    (a_law_turned : PySem.W.nsIn K mainGlobals "_law_turned" = some (some (.ref f_law_turned)))
    (l_law_turned : K.lookup f_law_turned = some ⟨oc_law_turned, od_law_turned, .func (PySem.W.fnOf "_law_turned" "_law_turned" (defArgs s_law_turned) (defBody s_law_turned) (defScope s_law_turned) .none kV_law_turned dc_law_turned pm_law_turned an_law_turned cd_law_turned ct_law_turned), sl_law_turned⟩)
    (n_law_turned : ([ad_FROM, ad_TO] : List Addr).contains f_law_turned = false)
    (cc_law_turned : PySem.W.codeIn (without K [ad_FROM, ad_TO]) cd_law_turned "_law_turned" = true)
    (k_law_turned : PySem.W.keepIn (without K [ad_FROM, ad_TO]) (.ref f_law_turned) = true)
    (a_law_words : PySem.W.nsIn K mainGlobals "_law_words" = some (some (.ref f_law_words)))
    (l_law_words : K.lookup f_law_words = some ⟨oc_law_words, od_law_words, .func (PySem.W.fnOf "_law_words" "_law_words" (defArgs s_law_words) (defBody s_law_words) (defScope s_law_words) .none kV_law_words dc_law_words pm_law_words an_law_words cd_law_words ct_law_words), sl_law_words⟩)
    (n_law_words : ([ad_FROM, ad_TO] : List Addr).contains f_law_words = false)
    (cc_law_words : PySem.W.codeIn (without K [ad_FROM, ad_TO]) cd_law_words "_law_words" = true)
    (k_law_words : PySem.W.keepIn (without K [ad_FROM, ad_TO]) (.ref f_law_words) = true)
    (a_law_head : PySem.W.nsIn K mainGlobals "_law_head" = some (some (.ref f_law_head)))
    (l_law_head : K.lookup f_law_head = some ⟨oc_law_head, od_law_head, .func (PySem.W.fnOf "_law_head" "_law_head" (defArgs s_law_head) (defBody s_law_head) (defScope s_law_head) .none kV_law_head dc_law_head pm_law_head an_law_head cd_law_head ct_law_head), sl_law_head⟩)
    (n_law_head : ([ad_FROM, ad_TO] : List Addr).contains f_law_head = false)
    (cc_law_head : PySem.W.codeIn (without K [ad_FROM, ad_TO]) cd_law_head "_law_head" = true)
    (k_law_head : PySem.W.keepIn (without K [ad_FROM, ad_TO]) (.ref f_law_head) = true)
    (a_law_telling : PySem.W.nsIn K mainGlobals "_law_telling" = some (some (.ref f_law_telling)))
    (l_law_telling : K.lookup f_law_telling = some ⟨oc_law_telling, od_law_telling, .func (PySem.W.fnOf "_law_telling" "_law_telling" (defArgs s_law_telling) (defBody s_law_telling) (defScope s_law_telling) .none kV_law_telling dc_law_telling pm_law_telling an_law_telling cd_law_telling ct_law_telling), sl_law_telling⟩)
    (n_law_telling : ([ad_FROM, ad_TO] : List Addr).contains f_law_telling = false)
    (cc_law_telling : PySem.W.codeIn (without K [ad_FROM, ad_TO]) cd_law_telling "_law_telling" = true)
    (k_law_telling : PySem.W.keepIn (without K [ad_FROM, ad_TO]) (.ref f_law_telling) = true)
    (a_law_any : PySem.W.nsIn K mainGlobals "_law_any" = some (some (.ref f_law_any)))
    (l_law_any : K.lookup f_law_any = some ⟨oc_law_any, od_law_any, .func (PySem.W.fnOf "_law_any" "_law_any" (defArgs s_law_any) (defBody s_law_any) (defScope s_law_any) .none kV_law_any dc_law_any pm_law_any an_law_any cd_law_any ct_law_any), sl_law_any⟩)
    (n_law_any : ([ad_FROM, ad_TO] : List Addr).contains f_law_any = false)
    (cc_law_any : PySem.W.codeIn (without K [ad_FROM, ad_TO]) cd_law_any "_law_any" = true)
    (k_law_any : PySem.W.keepIn (without K [ad_FROM, ad_TO]) (.ref f_law_any) = true)
    (a_law_row_here : PySem.W.nsIn K mainGlobals "_law_row_here" = some (some (.ref f_law_row_here)))
    (l_law_row_here : K.lookup f_law_row_here = some ⟨oc_law_row_here, od_law_row_here, .func (PySem.W.fnOf "_law_row_here" "_law_row_here" (defArgs s_law_row_here) (defBody s_law_row_here) (defScope s_law_row_here) .none kV_law_row_here dc_law_row_here pm_law_row_here an_law_row_here cd_law_row_here ct_law_row_here), sl_law_row_here⟩)
    (n_law_row_here : ([ad_FROM, ad_TO] : List Addr).contains f_law_row_here = false)
    (cc_law_row_here : PySem.W.codeIn (without K [ad_FROM, ad_TO]) cd_law_row_here "_law_row_here" = true)
    (k_law_row_here : PySem.W.keepIn (without K [ad_FROM, ad_TO]) (.ref f_law_row_here) = true)
    (a_law_head_here : PySem.W.nsIn K mainGlobals "_law_head_here" = some (some (.ref f_law_head_here)))
    (l_law_head_here : K.lookup f_law_head_here = some ⟨oc_law_head_here, od_law_head_here, .func (PySem.W.fnOf "_law_head_here" "_law_head_here" (defArgs s_law_head_here) (defBody s_law_head_here) (defScope s_law_head_here) .none kV_law_head_here dc_law_head_here pm_law_head_here an_law_head_here cd_law_head_here ct_law_head_here), sl_law_head_here⟩)
    (n_law_head_here : ([ad_FROM, ad_TO] : List Addr).contains f_law_head_here = false)
    (cc_law_head_here : PySem.W.codeIn (without K [ad_FROM, ad_TO]) cd_law_head_here "_law_head_here" = true)
    (k_law_head_here : PySem.W.keepIn (without K [ad_FROM, ad_TO]) (.ref f_law_head_here) = true)
    (a_law_on : PySem.W.nsIn K mainGlobals "_law_on" = some (some (.ref f_law_on)))
    (l_law_on : K.lookup f_law_on = some ⟨oc_law_on, od_law_on, .func (PySem.W.fnOf "_law_on" "_law_on" (defArgs s_law_on) (defBody s_law_on) (defScope s_law_on) .none kV_law_on dc_law_on pm_law_on an_law_on cd_law_on ct_law_on), sl_law_on⟩)
    (n_law_on : ([ad_FROM, ad_TO] : List Addr).contains f_law_on = false)
    (cc_law_on : PySem.W.codeIn (without K [ad_FROM, ad_TO]) cd_law_on "_law_on" = true)
    (k_law_on : PySem.W.keepIn (without K [ad_FROM, ad_TO]) (.ref f_law_on) = true)
    (a_law_met : PySem.W.nsIn K mainGlobals "_law_met" = some (some (.ref f_law_met)))
    (l_law_met : K.lookup f_law_met = some ⟨oc_law_met, od_law_met, .func (PySem.W.fnOf "_law_met" "_law_met" (defArgs s_law_met) (defBody s_law_met) (defScope s_law_met) .none kV_law_met dc_law_met pm_law_met an_law_met cd_law_met ct_law_met), sl_law_met⟩)
    (n_law_met : ([ad_FROM, ad_TO] : List Addr).contains f_law_met = false)
    (cc_law_met : PySem.W.codeIn (without K [ad_FROM, ad_TO]) cd_law_met "_law_met" = true)
    (k_law_met : PySem.W.keepIn (without K [ad_FROM, ad_TO]) (.ref f_law_met) = true)
    (a_law : PySem.W.nsIn K mainGlobals "law" = some (some (.ref f_law)))
    (l_law : K.lookup f_law = some ⟨oc_law, od_law, .func (PySem.W.fnOf "law" "law" (defArgs s_law) (defBody s_law) (defScope s_law) .none kV_law dc_law pm_law an_law cd_law ct_law), sl_law⟩)
    (n_law : ([ad_FROM, ad_TO] : List Addr).contains f_law = false)
    (cc_law : PySem.W.codeIn (without K [ad_FROM, ad_TO]) cd_law "law" = true)
    (k_law : PySem.W.keepIn (without K [ad_FROM, ad_TO]) (.ref f_law) = true)
    (z_len : PySem.W.nsIn K mainGlobals "len" = some none)
    (z_isinstance : PySem.W.nsIn K mainGlobals "isinstance" = some none)
    (z_range : PySem.W.nsIn K mainGlobals "range" = some none)
    (z_int : PySem.W.nsIn K mainGlobals "int" = some none)
    (z_list : PySem.W.nsIn K mainGlobals "list" = some none)
    (z_tuple : PySem.W.nsIn K mainGlobals "tuple" = some none)
    (z_dict : PySem.W.nsIn K mainGlobals "dict" = some none)
    (z_sorted : PySem.W.nsIn K mainGlobals "sorted" = some none)
    (z_zip : PySem.W.nsIn K mainGlobals "zip" = some none)
    (g_WORDED : PySem.W.nsIn K mainGlobals "WORDED" = some (some (.ref ad_WORDED)))
    (gl_WORDED : K.lookup ad_WORDED = some ⟨.type "tuple", oe_WORDED, .seq it_WORDED nn_WORDED, sq_WORDED⟩)
    (gz_WORDED : it_WORDED.size ≤ sizeLine) (gv_WORDED : Vals [.str "box", .str "pick"] it_WORDED.toList)
    (gn0_WORDED : ([ad_FROM, ad_TO] : List Addr).contains ad_WORDED = false)
    (g_STEP_WORDS : PySem.W.nsIn K mainGlobals "STEP_WORDS" = some (some (.ref ad_STEP_WORDS)))
    (gl_STEP_WORDS : K.lookup ad_STEP_WORDS = some { cls := .type "dict", data := .dict es_STEP_WORDS ep_STEP_WORDS })
    (gs_STEP_WORDS : (ad_STEP_WORDS == sysModules) = false) (gp_STEP_WORDS : ∀ P : Program, Pairs (mixKind P w) es_STEP_WORDS.toList vs_STEP_WORDS) (gk_STEP_WORDS : ∀ P : Program, KeysOf (mixKind P w) es_STEP_WORDS) (gn_STEP_WORDS : (vs_STEP_WORDS.map (·.1)).Nodup) (gv_STEP_WORDS : KV [(.inr "box", .str "part"), (.inr "pick", .str "case")] vs_STEP_WORDS)
    (gn0_STEP_WORDS : ([ad_FROM, ad_TO] : List Addr).contains ad_STEP_WORDS = false) : TxtT K mg w := by
  have F_heads_of := fun_mk (st := s_heads_of) (without_of l_heads_of n_heads_of) cc_heads_of k_heads_of
  have b_heads_of := F_heads_of.binds (ps := ["T"]) fun _ _ _ _ _ _ us hl => by obtain ⟨a0, us0, rfl, hl0⟩ := lnS (n := 0) hl; obtain rfl := List.eq_nil_of_length_eq_zero hl0; rfl
  have F_rows_of := fun_mk (st := s_rows_of) (without_of l_rows_of n_rows_of) cc_rows_of k_rows_of
  have b_rows_of := F_rows_of.binds (ps := ["T"]) fun _ _ _ _ _ _ us hl => by obtain ⟨a0, us0, rfl, hl0⟩ := lnS (n := 0) hl; obtain rfl := List.eq_nil_of_length_eq_zero hl0; rfl
  have F_names_in := fun_mk (st := s_names_in) (without_of l_names_in n_names_in) cc_names_in k_names_in
  have b_names_in := F_names_in.binds (ps := ["head"]) fun _ _ _ _ _ _ us hl => by obtain ⟨a0, us0, rfl, hl0⟩ := lnS (n := 0) hl; obtain rfl := List.eq_nil_of_length_eq_zero hl0; rfl
  have F_rows_met := fun_mk (st := s_rows_met) (without_of l_rows_met n_rows_met) cc_rows_met k_rows_met
  have b_rows_met := F_rows_met.binds (ps := ["T", "x"]) fun _ _ _ _ _ _ us hl => by obtain ⟨a0, us0, rfl, hl0⟩ := lnS (n := 1) hl; obtain ⟨a1, us1, rfl, hl1⟩ := lnS (n := 0) hl0; obtain rfl := List.eq_nil_of_length_eq_zero hl1; rfl
  have F_steps_in := fun_mk (st := s_steps_in) (without_of l_steps_in n_steps_in) cc_steps_in k_steps_in
  have b_steps_in := F_steps_in.binds (ps := ["head"]) fun _ _ _ _ _ _ us hl => by obtain ⟨a0, us0, rfl, hl0⟩ := lnS (n := 0) hl; obtain rfl := List.eq_nil_of_length_eq_zero hl0; rfl
  have F_moves_in := fun_mk (st := s_moves_in) (without_of l_moves_in n_moves_in) cc_moves_in k_moves_in
  have b_moves_in := F_moves_in.binds (ps := ["head", "rows"]) fun _ _ _ _ _ _ us hl => by obtain ⟨a0, us0, rfl, hl0⟩ := lnS (n := 1) hl; obtain ⟨a1, us1, rfl, hl1⟩ := lnS (n := 0) hl0; obtain rfl := List.eq_nil_of_length_eq_zero hl1; rfl
  have F_reached := fun_mk (st := s_reached) (without_of l_reached n_reached) cc_reached k_reached
  have b_reached := F_reached.binds (ps := ["net", "first"]) fun _ _ _ _ _ _ us hl => by obtain ⟨a0, us0, rfl, hl0⟩ := lnS (n := 1) hl; obtain ⟨a1, us1, rfl, hl1⟩ := lnS (n := 0) hl0; obtain rfl := List.eq_nil_of_length_eq_zero hl1; rfl
  have F_law_fill := fun_mk (st := s_law_fill) (without_of l_law_fill n_law_fill) cc_law_fill k_law_fill
  have b_law_fill := F_law_fill.binds (ps := ["_law_cell", "_law_at"]) fun _ _ _ _ _ _ us hl => by obtain ⟨a0, us0, rfl, hl0⟩ := lnS (n := 1) hl; obtain ⟨a1, us1, rfl, hl1⟩ := lnS (n := 0) hl0; obtain rfl := List.eq_nil_of_length_eq_zero hl1; rfl
  have F_law_next := fun_mk (st := s_law_next) (without_of l_law_next n_law_next) cc_law_next k_law_next
  have b_law_next := F_law_next.binds (ps := ["_law_pen", "_law_many"]) fun _ _ _ _ _ _ us hl => by obtain ⟨a0, us0, rfl, hl0⟩ := lnS (n := 1) hl; obtain ⟨a1, us1, rfl, hl1⟩ := lnS (n := 0) hl0; obtain rfl := List.eq_nil_of_length_eq_zero hl1; rfl
  have F_law_turned := fun_mk (st := s_law_turned) (without_of l_law_turned n_law_turned) cc_law_turned k_law_turned
  have b_law_turned := F_law_turned.binds (ps := ["_law_pen", "_law_some"]) fun _ _ _ _ _ _ us hl => by obtain ⟨a0, us0, rfl, hl0⟩ := lnS (n := 1) hl; obtain ⟨a1, us1, rfl, hl1⟩ := lnS (n := 0) hl0; obtain rfl := List.eq_nil_of_length_eq_zero hl1; rfl
  have F_law_words := fun_mk (st := s_law_words) (without_of l_law_words n_law_words) cc_law_words k_law_words
  have b_law_words := F_law_words.binds (ps := ["_law_pen"]) fun _ _ _ _ _ _ us hl => by obtain ⟨a0, us0, rfl, hl0⟩ := lnS (n := 0) hl; obtain rfl := List.eq_nil_of_length_eq_zero hl0; rfl
  have F_law_head := fun_mk (st := s_law_head) (without_of l_law_head n_law_head) cc_law_head k_law_head
  have b_law_head := F_law_head.binds (ps := ["_law_pen", "_law_names", "_law_ahead"]) fun _ _ _ _ _ _ us hl => by obtain ⟨a0, us0, rfl, hl0⟩ := lnS (n := 2) hl; obtain ⟨a1, us1, rfl, hl1⟩ := lnS (n := 1) hl0; obtain ⟨a2, us2, rfl, hl2⟩ := lnS (n := 0) hl1; obtain rfl := List.eq_nil_of_length_eq_zero hl2; rfl
  have F_law_telling := fun_mk (st := s_law_telling) (without_of l_law_telling n_law_telling) cc_law_telling k_law_telling
  have b_law_telling := F_law_telling.binds (ps := ["_law_pen", "_law_most"]) fun _ _ _ _ _ _ us hl => by obtain ⟨a0, us0, rfl, hl0⟩ := lnS (n := 1) hl; obtain ⟨a1, us1, rfl, hl1⟩ := lnS (n := 0) hl0; obtain rfl := List.eq_nil_of_length_eq_zero hl1; rfl
  have F_law_any := fun_mk (st := s_law_any) (without_of l_law_any n_law_any) cc_law_any k_law_any
  have b_law_any := F_law_any.binds (ps := ["_law_pen", "_law_told"]) fun _ _ _ _ _ _ us hl => by obtain ⟨a0, us0, rfl, hl0⟩ := lnS (n := 1) hl; obtain ⟨a1, us1, rfl, hl1⟩ := lnS (n := 0) hl0; obtain rfl := List.eq_nil_of_length_eq_zero hl1; rfl
  have F_law_row_here := fun_mk (st := s_law_row_here) (without_of l_law_row_here n_law_row_here) cc_law_row_here k_law_row_here
  have b_law_row_here := F_law_row_here.binds (ps := ["_law_told", "_law_name"]) fun _ _ _ _ _ _ us hl => by obtain ⟨a0, us0, rfl, hl0⟩ := lnS (n := 1) hl; obtain ⟨a1, us1, rfl, hl1⟩ := lnS (n := 0) hl0; obtain rfl := List.eq_nil_of_length_eq_zero hl1; rfl
  have F_law_head_here := fun_mk (st := s_law_head_here) (without_of l_law_head_here n_law_head_here) cc_law_head_here k_law_head_here
  have b_law_head_here := F_law_head_here.binds (ps := ["_law_told", "_law_name"]) fun _ _ _ _ _ _ us hl => by obtain ⟨a0, us0, rfl, hl0⟩ := lnS (n := 1) hl; obtain ⟨a1, us1, rfl, hl1⟩ := lnS (n := 0) hl0; obtain rfl := List.eq_nil_of_length_eq_zero hl1; rfl
  have F_law_on := fun_mk (st := s_law_on) (without_of l_law_on n_law_on) cc_law_on k_law_on
  have b_law_on := F_law_on.binds (ps := ["_law_told", "_law_name"]) fun _ _ _ _ _ _ us hl => by obtain ⟨a0, us0, rfl, hl0⟩ := lnS (n := 1) hl; obtain ⟨a1, us1, rfl, hl1⟩ := lnS (n := 0) hl0; obtain rfl := List.eq_nil_of_length_eq_zero hl1; rfl
  have F_law_met := fun_mk (st := s_law_met) (without_of l_law_met n_law_met) cc_law_met k_law_met
  have b_law_met := F_law_met.binds (ps := ["_law_told", "_law_name"]) fun _ _ _ _ _ _ us hl => by obtain ⟨a0, us0, rfl, hl0⟩ := lnS (n := 1) hl; obtain ⟨a1, us1, rfl, hl1⟩ := lnS (n := 0) hl0; obtain rfl := List.eq_nil_of_length_eq_zero hl1; rfl
  have F_law := fun_mk (st := s_law) (without_of l_law n_law) cc_law k_law
  have b_law := F_law.binds (ps := ["script"]) fun _ _ _ _ _ _ us hl => by obtain ⟨a0, us0, rfl, hl0⟩ := lnS (n := 0) hl; obtain rfl := List.eq_nil_of_length_eq_zero hl0; rfl
  have F_Net_init := fun_mk (st := s_Net_init) (without_of l_Net_init n_Net_init) cc_Net_init k_Net_init
  have b_Net_init := F_Net_init.binds (ps := ["self", "T"]) fun _ _ _ _ _ _ us hl => by obtain ⟨a0, us0, rfl, hl0⟩ := lnS (n := 1) hl; obtain ⟨a1, us1, rfl, hl1⟩ := lnS (n := 0) hl0; obtain rfl := List.eq_nil_of_length_eq_zero hl1; rfl
  have aC : adr mg "Net" = C_Net := by unfold adr; rw [PySem.W.mg_of X G aC_Net] <;> rfl
  refine ⟨[(ad_FROM, ⟨.type "tuple", none, .seq it_FROM nn_FROM, sq_FROM⟩, [.str "from"]), (ad_TO, ⟨.type "tuple", none, .seq it_TO nn_TO, sq_TO⟩, [.str "to"])], ?_, ?_, ⟨PySem.W.mg_none_of X G z_len,
    PySem.W.mg_none_of X G z_isinstance,
    PySem.W.mg_none_of X G z_range,
    PySem.W.mg_none_of X G z_int,
    PySem.W.mg_none_of X G z_list,
    PySem.W.mg_none_of X G z_tuple,
    PySem.W.mg_none_of X G z_dict,
    PySem.W.mg_none_of X G z_sorted,
    PySem.W.mg_none_of X G z_zip,
    ⟨ad_WORDED, PySem.W.mg_of X G g_WORDED, fun H => .inr ⟨_, it_WORDED, nn_WORDED, (without_of gl_WORDED gn0_WORDED), rfl, rfl, gz_WORDED, gv_WORDED⟩⟩,
    ⟨.ref ad_FROM, PySem.W.mg_of X G g_FROM, adr_of (PySem.W.mg_of X G g_FROM)⟩,
    ⟨.ref ad_TO, PySem.W.mg_of X G g_TO, adr_of (PySem.W.mg_of X G g_TO)⟩,
    ⟨ad_STEP_WORDS, PySem.W.mg_of X G g_STEP_WORDS, fun P => ⟨_, es_STEP_WORDS, ep_STEP_WORDS, vs_STEP_WORDS, (without_of gl_STEP_WORDS gn0_STEP_WORDS), gs_STEP_WORDS, ⟨rfl, rfl, rfl⟩, rfl, gk_STEP_WORDS P, gp_STEP_WORDS P, gn_STEP_WORDS, gv_STEP_WORDS⟩⟩,
    ⟨f_heads_of, _, F_heads_of, PySem.W.mg_of X G a_heads_of, b_heads_of⟩,
    ⟨f_rows_of, _, F_rows_of, PySem.W.mg_of X G a_rows_of, b_rows_of⟩,
    ⟨f_names_in, _, F_names_in, PySem.W.mg_of X G a_names_in, b_names_in⟩,
    ⟨f_rows_met, _, F_rows_met, PySem.W.mg_of X G a_rows_met, b_rows_met⟩,
    ⟨f_steps_in, _, F_steps_in, PySem.W.mg_of X G a_steps_in, b_steps_in⟩,
    ⟨f_moves_in, _, F_moves_in, PySem.W.mg_of X G a_moves_in, b_moves_in⟩,
    ⟨f_reached, _, F_reached, PySem.W.mg_of X G a_reached, b_reached⟩,
    ⟨f_law_fill, _, F_law_fill, PySem.W.mg_of X G a_law_fill, b_law_fill⟩,
    ⟨f_law_next, _, F_law_next, PySem.W.mg_of X G a_law_next, b_law_next⟩,
    ⟨f_law_turned, _, F_law_turned, PySem.W.mg_of X G a_law_turned, b_law_turned⟩,
    ⟨f_law_words, _, F_law_words, PySem.W.mg_of X G a_law_words, b_law_words⟩,
    ⟨f_law_head, _, F_law_head, PySem.W.mg_of X G a_law_head, b_law_head⟩,
    ⟨f_law_telling, _, F_law_telling, PySem.W.mg_of X G a_law_telling, b_law_telling⟩,
    ⟨f_law_any, _, F_law_any, PySem.W.mg_of X G a_law_any, b_law_any⟩,
    ⟨f_law_row_here, _, F_law_row_here, PySem.W.mg_of X G a_law_row_here, b_law_row_here⟩,
    ⟨f_law_head_here, _, F_law_head_here, PySem.W.mg_of X G a_law_head_here, b_law_head_here⟩,
    ⟨f_law_on, _, F_law_on, PySem.W.mg_of X G a_law_on, b_law_on⟩,
    ⟨f_law_met, _, F_law_met, PySem.W.mg_of X G a_law_met, b_law_met⟩,
    ⟨f_law, _, F_law, PySem.W.mg_of X G a_law, b_law⟩,
    (by rw [aC]; exact ⟨PySem.W.mg_of X G aC_Net, ⟨pg_Net, hd_Net, po_Net, sa_Net⟩, (by simp only [List.mem_cons, List.mem_nil_iff, or_false, forall_eq_or_imp, forall_eq]; exact ⟨na_Net_rows, na_Net_heads, na_Net_marks, na_Net_moves⟩), f_Net_init, _, ⟨mk_Net, in_Net, fn_Net, kc_Net⟩, F_Net_init, b_Net_init⟩)⟩, ?_⟩
  · intro t ht
    simp only [List.mem_cons, List.mem_nil_iff, or_false] at ht
    rcases ht with rfl | rfl
    · exact ktup_mk gl_FROM gv_FROM (by decide)
    · exact ktup_mk gl_TO gv_TO (by decide)
  · exact nd_TR
  · intro H hH
    have e_FROM : adr mg "FROM" = ad_FROM := by unfold adr; rw [PySem.W.mg_of X G g_FROM] <;> rfl
    have e_TO : adr mg "TO" = ad_TO := by unfold adr; rw [PySem.W.mg_of X G g_TO] <;> rfl
    exact ⟨⟨_, by rw [e_FROM]; exact hH (ad_FROM, ⟨.type "tuple", none, .seq it_FROM nn_FROM, sq_FROM⟩, [.str "from"]) (by simp)⟩, ⟨_, by rw [e_TO]; exact hH (ad_TO, ⟨.type "tuple", none, .seq it_TO nn_TO, sq_TO⟩, [.str "to"]) (by simp)⟩⟩
theorem walk {l : PySem.W.OpenLaw} {q : Program} {loose : List Str} {XP : (Str → Option Value) → Heap → Prop} {YP : World → Heap → Prop} {d : DefRec} {K : Params → PySem.W.Frag} (hn : l.most = some 63) (hdf : d.params.defaults = [])
    (hY : ∀ (w : World) (h : Heap), YP w h → (K w.params).In h) (hname : d.name = "law")
    (F : ∀ (w : World) (mg : Str → Option Value) (h : Heap), (K w.params).In h → h.Ns mainGlobals mg → TxtT (K w.params) mg w) :
    PySem.W.WalkO q loose XP YP l.row.toRowW d [] (fun f vs => PySem.call f vs) :=
  L2.walk_ofT2 (n := 63) (k := 12) (x := "script") hn (by decide) hdf ⟨rfl, by decide, by decide, rfl⟩ hY fun w mg fa h KX G hmg => by
    obtain ⟨ts, hts, nd, T, hk⟩ := F w mg h KX G
    obtain ⟨f, fd, Fu, m, b⟩ := T.t_law
    rw [hname] at hmg
    rw [m] at hmg
    cases hmg
    refine ⟨ts, fd, spLaw (without (K w.params) (ts.map (·.1))) mg, hts, nd, fun s u => ?_, fun base kb nb => ?_, fun H a ns hl ht hS => ⟨a, ns, rfl, hS, hl, hk H ht, fun _ => rfl⟩⟩
    · have := Fu.ex
      obtain ⟨oc, od, kV, doc, pm, an, cdv, ct, osl, rfl, lk, hcd⟩ := this
      exact .of_eq rfl
    · obtain ⟨f', fd', G', m', k', b', oc', od', osl', lk'⟩ := (ok_law T : FnK l.prog w (without (K w.params) (ts.map (·.1))) mg base 12 "law" ["script"] (spLaw (without (K w.params) (ts.map (·.1))) mg))
      rw [m] at m'
      cases m'
      have e : fd = fd' := by
        have hx := Fu.ex
        obtain ⟨oc, od, kV, doc, pm, an, cdv, ct, osl, e1, lk, hcd⟩ := hx
        rw [lk] at lk'
        have := Option.some.inj lk'
        injection this with _ _ h3 _
        injection h3
      rw [e]; exact (G')
end T1
open PySem PySem.W PyProof.Rows L2
set_option maxRecDepth 100000 in
set_option maxHeartbeats 0 in
theorem PySem.Challenge.cw_coilkind_k16_rows_met_holds : PySem.Challenge.rw_coilkind_k16_rows_met.Holds := by
  w_on; o_law; k_head; (case hw => w_witness2)
  k_fill
  refine T1.walk (l := PySem.Challenge.rw_coilkind_k16_rows_met) rfl rfl (fun w h Y => PySem.W.kIn_of Y) rfl ?F
  case F =>
    intro w mg h KX G
    refine' T1.txt_mk KX G (g_FROM := ?g_FROM) (gl_FROM := ?gl_FROM) (gv_FROM := ?gv_FROM) (g_TO := ?g_TO) (gl_TO := ?gl_TO) (gv_TO := ?gv_TO) (nd_TR := ?nd_TR) (aC_Net := ?aC_Net) (i0_Net := ?i0_Net) (in_Net := ?in_Net) (l_Net_init := ?l_Net_init) (n_Net_init := ?n_Net_init) (cc_Net_init := ?cc_Net_init) (k_Net_init := ?k_Net_init) (pg_Net := ?pg_Net) (hd_Net := ?hd_Net) (po_Net := ?po_Net) (sa_Net := ?sa_Net) (mk_Net := ?mk_Net) (kc_Net := ?kc_Net) (fn_Net := ?fn_Net) (na_Net_rows := ?na_Net_rows) (na_Net_heads := ?na_Net_heads) (na_Net_marks := ?na_Net_marks) (na_Net_moves := ?na_Net_moves) (a_heads_of := ?a_heads_of) (l_heads_of := ?l_heads_of) (n_heads_of := ?n_heads_of) (cc_heads_of := ?cc_heads_of) (k_heads_of := ?k_heads_of) (a_rows_of := ?a_rows_of) (l_rows_of := ?l_rows_of) (n_rows_of := ?n_rows_of) (cc_rows_of := ?cc_rows_of) (k_rows_of := ?k_rows_of) (a_names_in := ?a_names_in) (l_names_in := ?l_names_in) (n_names_in := ?n_names_in) (cc_names_in := ?cc_names_in) (k_names_in := ?k_names_in) (a_rows_met := ?a_rows_met) (l_rows_met := ?l_rows_met) (n_rows_met := ?n_rows_met) (cc_rows_met := ?cc_rows_met) (k_rows_met := ?k_rows_met) (a_steps_in := ?a_steps_in) (l_steps_in := ?l_steps_in) (n_steps_in := ?n_steps_in) (cc_steps_in := ?cc_steps_in) (k_steps_in := ?k_steps_in) (a_moves_in := ?a_moves_in) (l_moves_in := ?l_moves_in) (n_moves_in := ?n_moves_in) (cc_moves_in := ?cc_moves_in) (k_moves_in := ?k_moves_in) (a_reached := ?a_reached) (l_reached := ?l_reached) (n_reached := ?n_reached) (cc_reached := ?cc_reached) (k_reached := ?k_reached) (a_law_fill := ?a_law_fill) (l_law_fill := ?l_law_fill) (n_law_fill := ?n_law_fill) (cc_law_fill := ?cc_law_fill) (k_law_fill := ?k_law_fill) (a_law_next := ?a_law_next) (l_law_next := ?l_law_next) (n_law_next := ?n_law_next) (cc_law_next := ?cc_law_next) (k_law_next := ?k_law_next) (a_law_turned := ?a_law_turned) (l_law_turned := ?l_law_turned) (n_law_turned := ?n_law_turned) (cc_law_turned := ?cc_law_turned) (k_law_turned := ?k_law_turned) (a_law_words := ?a_law_words) (l_law_words := ?l_law_words) (n_law_words := ?n_law_words) (cc_law_words := ?cc_law_words) (k_law_words := ?k_law_words) (a_law_head := ?a_law_head) (l_law_head := ?l_law_head) (n_law_head := ?n_law_head) (cc_law_head := ?cc_law_head) (k_law_head := ?k_law_head) (a_law_telling := ?a_law_telling) (l_law_telling := ?l_law_telling) (n_law_telling := ?n_law_telling) (cc_law_telling := ?cc_law_telling) (k_law_telling := ?k_law_telling) (a_law_any := ?a_law_any) (l_law_any := ?l_law_any) (n_law_any := ?n_law_any) (cc_law_any := ?cc_law_any) (k_law_any := ?k_law_any) (a_law_row_here := ?a_law_row_here) (l_law_row_here := ?l_law_row_here) (n_law_row_here := ?n_law_row_here) (cc_law_row_here := ?cc_law_row_here) (k_law_row_here := ?k_law_row_here) (a_law_head_here := ?a_law_head_here) (l_law_head_here := ?l_law_head_here) (n_law_head_here := ?n_law_head_here) (cc_law_head_here := ?cc_law_head_here) (k_law_head_here := ?k_law_head_here) (a_law_on := ?a_law_on) (l_law_on := ?l_law_on) (n_law_on := ?n_law_on) (cc_law_on := ?cc_law_on) (k_law_on := ?k_law_on) (a_law_met := ?a_law_met) (l_law_met := ?l_law_met) (n_law_met := ?n_law_met) (cc_law_met := ?cc_law_met) (k_law_met := ?k_law_met) (a_law := ?a_law) (l_law := ?l_law) (n_law := ?n_law) (cc_law := ?cc_law) (k_law := ?k_law) (z_len := ?z_len) (z_isinstance := ?z_isinstance) (z_range := ?z_range) (z_int := ?z_int) (z_list := ?z_list) (z_tuple := ?z_tuple) (z_dict := ?z_dict) (z_sorted := ?z_sorted) (z_zip := ?z_zip) (g_WORDED := ?g_WORDED) (gl_WORDED := ?gl_WORDED) (gn0_WORDED := ?gn0_WORDED) (g_STEP_WORDS := ?g_STEP_WORDS) (gl_STEP_WORDS := ?gl_STEP_WORDS) (gn0_STEP_WORDS := ?gn0_STEP_WORDS) (gz_WORDED := ?gz_WORDED) (gv_WORDED := ?gv_WORDED) (gs_STEP_WORDS := ?gs_STEP_WORDS) (gp_STEP_WORDS := ?gp_STEP_WORDS) (gk_STEP_WORDS := ?gk_STEP_WORDS) (gn_STEP_WORDS := ?gn_STEP_WORDS) (gv_STEP_WORDS := ?gv_STEP_WORDS)
    (case g_FROM => k_is)
    (case gl_FROM => k_is)
    (case gv_FROM => exact .cons ⟨_, rfl⟩ (.nil))
    (case g_TO => k_is)
    (case gl_TO => k_is)
    (case gv_TO => exact .cons ⟨_, rfl⟩ (.nil))
    (case nd_TR => decide)
    (case aC_Net => k_is)
    (case i0_Net => k_is)
    (case in_Net => kernel_rfl)
    (case l_Net_init => k_is)
    (case n_Net_init => kernel_rfl)
    (case cc_Net_init => kernel_rfl)
    (case k_Net_init => kernel_rfl)
    (case pg_Net => kernel_rfl)
    (case hd_Net => kernel_rfl)
    (case po_Net => kernel_rfl)
    (case sa_Net => kernel_rfl)
    (case mk_Net => kernel_rfl)
    (case kc_Net => kernel_rfl)
    (case fn_Net => kernel_rfl)
    (case na_Net_rows => kernel_rfl)
    (case na_Net_heads => kernel_rfl)
    (case na_Net_marks => kernel_rfl)
    (case na_Net_moves => kernel_rfl)
    (case a_heads_of => k_is)
    (case l_heads_of => k_is)
    (case n_heads_of => kernel_rfl)
    (case cc_heads_of => kernel_rfl)
    (case k_heads_of => kernel_rfl)
    (case a_rows_of => k_is)
    (case l_rows_of => k_is)
    (case n_rows_of => kernel_rfl)
    (case cc_rows_of => kernel_rfl)
    (case k_rows_of => kernel_rfl)
    (case a_names_in => k_is)
    (case l_names_in => k_is)
    (case n_names_in => kernel_rfl)
    (case cc_names_in => kernel_rfl)
    (case k_names_in => kernel_rfl)
    (case a_rows_met => k_is)
    (case l_rows_met => k_is)
    (case n_rows_met => kernel_rfl)
    (case cc_rows_met => kernel_rfl)
    (case k_rows_met => kernel_rfl)
    (case a_steps_in => k_is)
    (case l_steps_in => k_is)
    (case n_steps_in => kernel_rfl)
    (case cc_steps_in => kernel_rfl)
    (case k_steps_in => kernel_rfl)
    (case a_moves_in => k_is)
    (case l_moves_in => k_is)
    (case n_moves_in => kernel_rfl)
    (case cc_moves_in => kernel_rfl)
    (case k_moves_in => kernel_rfl)
    (case a_reached => k_is)
    (case l_reached => k_is)
    (case n_reached => kernel_rfl)
    (case cc_reached => kernel_rfl)
    (case k_reached => kernel_rfl)
    (case a_law_fill => k_is)
    (case l_law_fill => k_is)
    (case n_law_fill => kernel_rfl)
    (case cc_law_fill => kernel_rfl)
    (case k_law_fill => kernel_rfl)
    (case a_law_next => k_is)
    (case l_law_next => k_is)
    (case n_law_next => kernel_rfl)
    (case cc_law_next => kernel_rfl)
    (case k_law_next => kernel_rfl)
    (case a_law_turned => k_is)
    (case l_law_turned => k_is)
    (case n_law_turned => kernel_rfl)
    (case cc_law_turned => kernel_rfl)
    (case k_law_turned => kernel_rfl)
    (case a_law_words => k_is)
    (case l_law_words => k_is)
    (case n_law_words => kernel_rfl)
    (case cc_law_words => kernel_rfl)
    (case k_law_words => kernel_rfl)
    (case a_law_head => k_is)
    (case l_law_head => k_is)
    (case n_law_head => kernel_rfl)
    (case cc_law_head => kernel_rfl)
    (case k_law_head => kernel_rfl)
    (case a_law_telling => k_is)
    (case l_law_telling => k_is)
    (case n_law_telling => kernel_rfl)
    (case cc_law_telling => kernel_rfl)
    (case k_law_telling => kernel_rfl)
    (case a_law_any => k_is)
    (case l_law_any => k_is)
    (case n_law_any => kernel_rfl)
    (case cc_law_any => kernel_rfl)
    (case k_law_any => kernel_rfl)
    (case a_law_row_here => k_is)
    (case l_law_row_here => k_is)
    (case n_law_row_here => kernel_rfl)
    (case cc_law_row_here => kernel_rfl)
    (case k_law_row_here => kernel_rfl)
    (case a_law_head_here => k_is)
    (case l_law_head_here => k_is)
    (case n_law_head_here => kernel_rfl)
    (case cc_law_head_here => kernel_rfl)
    (case k_law_head_here => kernel_rfl)
    (case a_law_on => k_is)
    (case l_law_on => k_is)
    (case n_law_on => kernel_rfl)
    (case cc_law_on => kernel_rfl)
    (case k_law_on => kernel_rfl)
    (case a_law_met => k_is)
    (case l_law_met => k_is)
    (case n_law_met => kernel_rfl)
    (case cc_law_met => kernel_rfl)
    (case k_law_met => kernel_rfl)
    (case a_law => k_is)
    (case l_law => k_is)
    (case n_law => kernel_rfl)
    (case cc_law => kernel_rfl)
    (case k_law => kernel_rfl)
    (case z_len => k_is)
    (case z_isinstance => k_is)
    (case z_range => k_is)
    (case z_int => k_is)
    (case z_list => k_is)
    (case z_tuple => k_is)
    (case z_dict => k_is)
    (case z_sorted => k_is)
    (case z_zip => k_is)
    (case g_WORDED => k_is)
    (case gl_WORDED => k_is)
    (case gn0_WORDED => kernel_rfl)
    (case g_STEP_WORDS => k_is)
    (case gl_STEP_WORDS => k_is)
    (case gn0_STEP_WORDS => kernel_rfl)
    (case gz_WORDED => decide)
    (case gv_WORDED => exact .cons ⟨_, rfl⟩ (.cons ⟨_, rfl⟩ (.nil)))
    (case gs_STEP_WORDS => decide)
    (case gp_STEP_WORDS => intro P; exact .cons (kv := ((Sum.inr "box", _) : Key × Value)) (mixKind_str _ _ _ _) rfl (.cons (kv := ((Sum.inr "pick", _) : Key × Value)) (mixKind_str _ _ _ _) rfl (.nil)))
    (case gk_STEP_WORDS => intro P e he; simp only [List.mem_toArray, Array.mem_toArray, List.mem_cons, List.mem_nil_iff, or_false] at he; rcases he with rfl | rfl <;> exact ⟨.inr _, mixKind_str _ _ _ _, rfl⟩)
    (case gn_STEP_WORDS => decide)
    (case gv_STEP_WORDS => exact .cons ⟨rfl, ⟨_, rfl⟩⟩ (.cons ⟨rfl, ⟨_, rfl⟩⟩ (.nil)))

